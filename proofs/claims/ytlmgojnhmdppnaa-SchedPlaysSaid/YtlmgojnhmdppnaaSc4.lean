/-
  The contract of package sched's Wake. Conditions: the scheduler stands for a plain state.
-/
import Derived.Test.YtlmgojnhmdppnaaSc2
namespace Go.Proofs.Ytlmgojnhmdppnaa
open Go.RowKit Go.Maps
set_option linter.unusedVariables false

/-! ### Wake -/
def half (L : List Th) (key : Int) (k : Nat) : List Th := wakeT (L.take k) key ++ L.drop k
theorem half_length (L : List Th) (key : Int) (k : Nat) : (half L key k).length = L.length := by
  unfold half; rw [List.length_append, length_wakeT, List.length_take, List.length_drop]; omega
theorem half_get (L : List Th) (key : Int) (k : Nat) (hk : k < L.length) : (half L key k)[k]'(by rw [half_length]; exact hk) = L[k] := by
  unfold half
  rw [List.getElem_append_right (by rw [length_wakeT, List.length_take]; omega)]
  simp only [length_wakeT, List.length_take, List.getElem_drop]
  congr 1
  omega
theorem half_succ (L : List Th) (key : Int) (k : Nat) (hk : k < L.length) : half L key (k + 1) = if (L[k].st == 2 && L[k].key == key) = true then (half L key k).set k ⟨L[k].no, 1, L[k].key⟩ else half L key k := by
  have hm : (wakeT (L.take k) key).length = k := by rw [length_wakeT, List.length_take]; omega
  have e : wakeT (L.take (k + 1)) key = wakeT (L.take k) key ++ [if (L[k].st == 2 && L[k].key == key) = true then ⟨L[k].no, 1, L[k].key⟩ else L[k]] := by
    unfold wakeT
    rw [List.take_succ_eq_append_getElem hk, List.map_append]
    rfl
  have e2 : L.drop k = L[k] :: L.drop (k + 1) := List.drop_eq_getElem_cons hk
  unfold half
  rw [e]
  split
  · rw [List.set_append_right _ _ (by omega), hm, Nat.sub_self, e2, List.set_cons_zero, List.append_assoc]
    rfl
  · rw [e2, List.append_assoc]; rfl
theorem half_zero (L : List Th) (key : Int) : half L key 0 = L := by simp [half, wakeT]
theorem half_end (L : List Th) (key : Int) : half L key L.length = wakeT L key := by simp [half]
theorem waits_succ (L : List Th) (key : Int) (k : Nat) (hk : k < L.length) : waits (L.take (k + 1)) key = waits (L.take k) key + if (L[k].st == 2 && L[k].key == key) = true then 1 else 0 := by
  unfold waits
  rw [List.take_succ_eq_append_getElem hk, List.filter_append, List.length_append]
  congr 1
  by_cases h : (L[k].st == 2 && L[k].key == key) = true
  · rw [if_pos h]; simp [h]
  · rw [if_neg h]; simp [h]
theorem waits_le (L : List Th) (key : Int) (k : Nat) : waits (L.take k) key ≤ k := Nat.le_trans (List.length_filter_le _ _) (List.length_take_le _ _)
theorem half_ok {Z : ZS} (h : Z.Ok) (key : Int) (k : Nat) : ZS.Ok { Z with ths := half Z.ths key k } := by
  refine ⟨h.most1, h.most8, by simpa [half_length] using h.few, h.sp0, h.sp1, ?_⟩
  have hr := rising_iff.1 h.ris
  rw [rising_iff]
  dsimp only
  unfold half
  have h1 : Rising Z.spawned (Z.ths.take k) := ⟨h.ris.1.sublist (List.take_sublist _ _), fun r hr => h.ris.2 r (List.take_subset _ _ hr)⟩
  constructor
  · rw [List.map_append, nos_wakeT, ← List.map_append, List.take_append_drop]; exact hr.1
  · intro r hm
    rcases List.mem_append.1 hm with hm | hm
    · exact (rising_wakeT h1 key).2 r hm
    · exact h.ris.2 r (List.drop_subset _ _ hm)

def WakeRel (w : World) (X : Nat → Prop) (ps g cap : Nat) (Z : ZS) (key : Int) (k : Nat) (wr : World) : Prop :=
  ZAt wr X ps (.slice (some ⟨g, 0, none⟩) Z.ths.length cap) { Z with ths := half Z.ths key k } ∧ Keep X w wr

set_option maxRecDepth 100000 in
set_option maxHeartbeats 1000000 in
theorem wake_some {w : World} {X : Nat → Prop} {ps g cap : Nat} {Z : ZS} (h : ZAt w X ps (.slice (some ⟨g, 0, none⟩) Z.ths.length cap) Z) (key : Int) :
    Calls Try.prog 51 #[.pointer (some ⟨ps, 0, none⟩), .int .i64 key] w fun e w' => e = .returned (.int .i64 (waits Z.ths key)) ∧ Zd w' X ps (Z.wake key) ∧ Keep X w w' := by
  have h8 := h.ok.eight
  have hlt := h.head.lt
  have c2 := h.cells.2.2.1
  have hrel0 : WakeRel w X ps g cap Z key 0 w := ⟨by rw [half_zero]; exact h, Keep.refl _ _⟩
  have hok := half_ok h.ok key
  have hend : Z.wake key = { Z with ths := half Z.ths key Z.ths.length } := by unfold ZS.wake; rw [half_end]
  rw [hend]
  have HREL0 := Lib.hid hrel0; clear hrel0
  have HOK := Lib.hid hok; clear hok
  have HW := Lib.hid (waits_succ Z.ths key)
  have HWL := Lib.hid (waits_le Z.ths key)
  have HWE : Hid (waits (Z.ths.take Z.ths.length) key = waits Z.ths key) := Lib.hid (by rw [List.take_length])
  clear h hend
  go_enter Try.func51, Try.ntmps51
  go_wp2
  go_loopw [5, 13] (fun n i wr => ∃ k : Nat, k ≤ Z.ths.length ∧ i = .int .i64 k ∧ n = .int .i64 (waits (Z.ths.take k) key) ∧ WakeRel w X ps g cap Z key k wr) (fun _ i _ => Z.ths.length - (intOf i).toNat)
  case atStart => exact ⟨0, by omega, rfl, rfl, HREL0.out⟩
  case round =>
    clear HREL0 c2
    obtain ⟨k, hk, rfl, rfl, hst, hkp⟩ := hrel
    by_cases hkl : k < Z.ths.length
    · have hl := half_length Z.ths key k
      obtain ⟨g', cap', hv', hr', _, hXg, hne⟩ := hst.open_ (by show 0 < (half Z.ths key k).length; omega)
      injection hv' with hv1 hln hv2
      injection hv1 with hv1
      injection hv1 with hv1
      subst hv1 hv2
      clear hln
      obtain ⟨d0, d1, d2⟩ := hr'.at_ k (by show k < (half Z.ths key k).length; omega)
      simp only [half_get Z.ths key k hkl] at d0 d1 d2
      have f1 := hr'.frozen (k * 3 + 1)
      have c2 := hst.cells.2.2.1
      have hg := hr'.lt
      have hps := hst.head.lt
      have hsu := half_succ Z.ths key k hkl
      have hwu := HW.out k hkl
      have hwl := HWL.out k
      have hz := hkp.size
      cases hx : (Z.ths[k].st == 2 && Z.ths[k].key == key) with
      | false =>
        rw [hx] at hsu hwu
        rw [if_neg (by simp)] at hsu hwu
        have hfin : ∀ o, WakeRel w X ps g cap Z key (k + 1) (wr.alloc o) := fun o => by
          unfold WakeRel
          rw [hsu]
          exact ⟨hst.alloc o, hkp.alloc o⟩
        have HF := Lib.hid hfin; clear hfin
        have HWU := Lib.hid hwu; clear hwu
        clear hsu hst hkp hr' hl hXg hne
        generalize waits (Z.ths.take k) key = nw at HWU hwl ⊢
        generalize Z.ths[k].no = x0 at d0
        generalize Z.ths[k].st = x1 at d1 hx
        generalize Z.ths[k].key = x2 at d2 hx
        by_cases h2 : x1 = 2
        · subst h2
          have hx' : (x2 == key) = false := by simpa using hx
          clear hx
          go_wp2
          go_roundw
          case rel => exact ⟨k + 1, by omega, by go_num, by rw [HWU.out]; rfl, HF.out _⟩
          case measure => simp [intOf]; omega
        · have hx' : (x1 == 2) = false := by simpa using h2
          clear hx h2
          go_wp2
          go_roundw
          case rel => exact ⟨k + 1, by omega, by go_num, by rw [HWU.out]; rfl, HF.out _⟩
          case measure => simp [intOf]; omega
      | true =>
        rw [hx] at hsu hwu
        rw [if_pos rfl] at hsu hwu
        have hfin : ∀ o, WakeRel w X ps g cap Z key (k + 1) ((wr.setCell ⟨g, k * 3 + 1, none⟩ (.int .i64 1)).alloc o) := fun o => by
          have ha := hst
          have hlen : Z.ths.length = ({ Z with ths := half Z.ths key k } : ZS).ths.length := hl.symm
          rw [hlen] at ha
          have := ha.put1 (i := k) (by show k < (half Z.ths key k).length; omega) 1 (Z' := { Z with ths := half Z.ths key (k + 1) }) (by dsimp only; rw [hsu, half_get Z.ths key k hkl]) (HOK.out (k + 1))
          rw [← hlen] at this
          exact ⟨this.alloc o, (hkp.setCell (p := ⟨g, k * 3 + 1, none⟩) hXg _).alloc o⟩
        have HF := Lib.hid hfin; clear hfin
        have HWU := Lib.hid hwu; clear hwu
        clear hsu hst hkp hr' hl hXg hne
        generalize waits (Z.ths.take k) key = nw at HWU hwl ⊢
        generalize Z.ths[k].no = x0 at d0
        generalize Z.ths[k].st = x1 at d1 hx
        generalize Z.ths[k].key = x2 at d2 hx
        rw [Bool.and_eq_true] at hx
        obtain ⟨hx1, hx2⟩ := hx
        have hx1' : x1 = 2 := by simpa using hx1
        subst hx1'
        clear hx1
        go_wp2
        go_roundw
        case rel => exact ⟨k + 1, by omega, by go_num, by rw [HWU.out]; go_num, HF.out _⟩
        case measure => simp [intOf]; omega
    · obtain rfl : k = Z.ths.length := by omega
      have HST := Lib.hid hst; clear hst
      have HKP := Lib.hid hkp; clear hkp
      go_wp2
      go_ret
      exact ⟨by rw [← HWE.out]; rfl, ⟨_, HST.out⟩, HKP.out⟩
theorem wake_any {w : World} {X : Nat → Prop} {ps : Nat} {Z : ZS} (h : Zd w X ps Z) (key : Int) :
    Calls Try.prog 51 #[.pointer (some ⟨ps, 0, none⟩), .int .i64 key] w fun e w' => e = .returned (.int .i64 (waits Z.ths key)) ∧ Zd w' X ps (Z.wake key) ∧ Keep X w w' := by
  obtain ⟨v, h⟩ := h
  rcases Nat.eq_zero_or_pos Z.ths.length with h0 | hp
  · have hnil := List.length_eq_zero_iff.1 h0
    have e1 : Z.wake key = Z := by obtain ⟨a, b, c, d, e⟩ := Z; simp only at hnil; subst hnil; rfl
    have e2 : waits Z.ths key = 0 := by rw [hnil]; rfl
    rw [e1, e2]
    obtain ⟨a, cap, hv, _⟩ := row_ths h.row
    have c2 := h.cells.2.2.1
    rw [hv, h0] at c2
    have HH := Lib.hid h; clear h
    clear e1 e2 hnil h0 hv
    go_enter Try.func51, Try.ntmps51
    go_wp2
    refine wp_loop_rounds 1 ?_
    rw [rounds_succ]
    go_wp2
    go_ret
    exact ⟨rfl, ⟨_, HH.out⟩, Keep.refl _ _⟩
  · obtain ⟨g, cap, rfl, _⟩ := h.open_ hp
    exact wake_some h key
end Go.Proofs.Ytlmgojnhmdppnaa
