/-
  EpochOrder, plain: who came in before, what waits, and what a Sweep lets go. Conditions: the plain states are right.
-/
import Derived.Test.YtiiaajdkkofbjaaInts
import Derived.Deep.AppendLies
namespace Go.Proofs.Ytiiaajdkkofbjaa
open Go.RowKit Go.Maps
set_option linter.unusedVariables false

theorem freeAt_less (S : AS) (b : Int) : (S.freeAt b).made = S.made ∧ (S.freeAt b).used ≤ S.used ∧ (S.freeAt b).most = S.most := by
  unfold AS.freeAt
  split
  · exact ⟨rfl, Int.le_refl _, rfl⟩
  · refine ⟨rfl, ?_, rfl⟩
    show S.used - _ ≤ S.used
    omega
theorem fold_less (ent : List Int) (l : List Wt) (p : AS × Int) : (l.foldl (stp ent) p).1.made = p.1.made ∧ (l.foldl (stp ent) p).1.used ≤ p.1.used ∧ (l.foldl (stp ent) p).1.most = p.1.most := by
  induction l generalizing p with
  | nil => exact ⟨rfl, Int.le_refl _, rfl⟩
  | cons r l ih =>
    rw [List.foldl_cons]
    obtain ⟨i1, i2, i3⟩ := ih (stp ent p r)
    have hs : (stp ent p r).1.made = p.1.made ∧ (stp ent p r).1.used ≤ p.1.used ∧ (stp ent p r).1.most = p.1.most := by
      cases hh : held ent r.whn with
      | true => rw [stp_held hh]; exact ⟨rfl, Int.le_refl _, rfl⟩
      | false => rw [stp_free hh]; exact freeAt_less _ _
    exact ⟨i1.trans hs.1, by omega, i3.trans hs.2.2⟩
theorem sweep_less (S : AS) (Y : YS) : (S.sweepAt Y).made = S.made ∧ (S.sweepAt Y).used ≤ S.used ∧ (S.sweepAt Y).most = S.most := fold_less Y.ent Y.wt (S, 0)

theorem insideTo_iff (ent : List Int) (n : Nat) (x : Int) : x ∈ insideTo ent n ↔ ∃ t : Nat, t < n ∧ x = t ∧ ent.getD t 0 ≠ 0 := by
  induction n with
  | zero => simp [insideTo]
  | succ n ih =>
    simp only [insideTo, List.mem_append, ih]
    constructor
    · rintro (⟨t, h1, h2, h3⟩ | h)
      · exact ⟨t, by omega, h2, h3⟩
      · split at h
        · cases h
        · rename_i h0
          rw [List.mem_singleton] at h
          exact ⟨n, by omega, h, h0⟩
    · rintro ⟨t, h1, h2, h3⟩
      by_cases e : t = n
      · subst e; right; rw [if_neg h3]; simp [h2]
      · left; exact ⟨t, by omega, h2, h3⟩
theorem insideTo_nodup (ent : List Int) (n : Nat) : (insideTo ent n).Nodup := by
  induction n with
  | zero => simp [insideTo]
  | succ n ih =>
    simp only [insideTo]
    rw [List.nodup_append]
    refine ⟨ih, by split <;> simp, fun x hx y hy e => ?_⟩
    obtain ⟨t, h1, h2, _⟩ := (insideTo_iff ent n x).1 hx
    split at hy
    · cases hy
    · rw [List.mem_singleton] at hy; omega
theorem without_len {J : List Int} (h : J.Nodup) {x : Int} (hx : x ∈ J) : (without J x).length + 1 = J.length := by
  induction J with
  | nil => cases hx
  | cons y l ih =>
    rw [List.nodup_cons] at h
    unfold without at ih ⊢
    by_cases e : y = x
    · subst e
      have : l.filter (fun z => z != y) = l := by
        rw [List.filter_eq_self]
        intro z hz
        have : z ≠ y := fun e => h.1 (e ▸ hz)
        simpa using this
      simp [this]
    · have hx' : x ∈ l := by
        rcases List.mem_cons.1 hx with e' | hx'
        · exact absurd e'.symm e
        · exact hx'
      have := ih h.2 hx'
      simp [e]
      omega
theorem without_mem {J : List Int} {x y : Int} : y ∈ without J x ↔ y ∈ J ∧ y ≠ x := by
  unfold without; simp

/-- The third loop: J came in before T0 and hasn't left; what waits was retired between T0 and T1; who came in later came after T1. -/
structure OInv (Y : YS) (J : List Int) (T0 T1 : Int) : Prop where
  inn : ∀ t : Nat, t < 9 → (t : Int) ∈ J → 0 < Y.ent.getD t 0 ∧ Y.ent.getD t 0 ≤ T0
  out : ∀ t : Nat, t < 9 → (t : Int) ∉ J → Y.ent.getD t 0 = 0 ∨ T1 < Y.ent.getD t 0
  rng : ∀ x ∈ J, ∃ t : Nat, x = t ∧ 1 ≤ t ∧ t ≤ 8
  wts : ∀ r ∈ Y.wt, T0 < r.whn ∧ r.whn ≤ T1
  now : T1 ≤ Y.now
  nod : J.Nodup
  th : Y.threads = 8
theorem OInv.held {Y : YS} {J : List Int} {T0 T1 : Int} (h : OInv Y J T0 T1) (hJ : J ≠ []) {r : Wt} (hr : r ∈ Y.wt) : held Y.ent r.whn = true := by
  cases J with
  | nil => exact absurd rfl hJ
  | cons x l =>
    obtain ⟨t, e, h1, h8⟩ := h.rng x (by simp)
    have := h.inn t (by omega) (by rw [← e]; simp)
    have := h.wts r hr
    exact held_yes (i := t) (by omega) (by omega) (by omega)
theorem heldTo_no {ent : List Int} {T : Int} (h : ∀ t, t < 9 → ent.getD t 0 = 0 ∨ T ≤ ent.getD t 0) : held ent T = false := by
  have key : ∀ n, n ≤ 9 → heldTo ent T n = false := by
    intro n
    induction n with
    | zero => intro _; rfl
    | succ n ih =>
      intro hn
      show (heldTo ent T n || (ent.getD n 0 != 0 && decide (ent.getD n 0 < T))) = false
      rw [ih (by omega)]
      rcases h n (by omega) with e | e
      · rw [e]; simp
      · rw [show decide (ent.getD n 0 < T) = false by simpa using e]; simp
  exact key 9 (Nat.le_refl _)
theorem OInv.free {Y : YS} {T0 T1 : Int} (h : OInv Y [] T0 T1) {r : Wt} (hr : r ∈ Y.wt) : Go.Proofs.Ytiiaajdkkofbjaa.held Y.ent r.whn = false := by
  apply heldTo_no
  intro t ht
  rcases h.out t ht (by simp) with e | e
  · exact .inl e
  · right; have := h.wts r hr; omega
theorem OInv.swept {Y : YS} {J : List Int} {T0 T1 : Int} (h : OInv Y J T0 T1) : OInv Y.sweepAt J T0 T1 :=
  ⟨h.inn, h.out, h.rng, fun r hr => h.wts r (List.mem_filter.1 hr).1, h.now, h.nod, h.th⟩
theorem OInv.sweep_in {Y : YS} {J : List Int} {T0 T1 : Int} (h : OInv Y J T0 T1) (hJ : J ≠ []) (S : AS) : sweepN Y S = 0 := by
  unfold sweepN
  rw [swp_held Y.ent S Y.wt (fun r hr => h.held hJ hr)]
theorem OInv.sweep_out {Y : YS} {T0 T1 : Int} (h : OInv Y [] T0 T1) : Y.sweepAt.wt = [] := by
  show Y.wt.filter (hld Y) = []
  rw [List.filter_eq_nil_iff]
  intro r hr
  unfold hld
  rw [h.free hr]; simp
/-- Somebody of J leaves, and comes in again. -/
theorem OInv.again {Y : YS} {J : List Int} {T0 T1 : Int} (h : OInv Y J T0 T1) (hlen : Y.ent.length = 9) (h0 : 0 ≤ Y.now) {x : Int} (hx : x ∈ J) :
    Y.leaveErr x = 0 ∧ (Y.leaveAt x).enterErr x = 0 ∧ OInv ((Y.leaveAt x).enterAt x) (without J x) T0 T1 ∧ ((Y.leaveAt x).enterAt x).now = Y.now + 1 ∧ ((Y.leaveAt x).enterAt x).wt = Y.wt ∧ (Y.leaveAt x).now = Y.now := by
  obtain ⟨t, rfl, h1, h8⟩ := h.rng x hx
  have hin := h.inn t (by omega) hx
  have hth := h.th
  have e1 : Y.leaveErr t = 0 := by
    unfold YS.leaveErr YS.at_
    rw [if_pos (by omega), Int.toNat_natCast, if_neg (by omega)]
  have e2 : Y.leaveAt t = { Y with ent := Y.ent.set t 0 } := by unfold YS.leaveAt; rw [if_pos e1, Int.toNat_natCast]
  have e3 : (Y.leaveAt t).enterErr t = 0 := by
    rw [e2]
    unfold YS.enterErr YS.at_
    simp only [Int.toNat_natCast]
    rw [if_pos (by omega), if_pos (getD_set_self (by omega))]
  have e4 : (Y.leaveAt t).enterAt t = { Y with now := Y.now + 1, ent := (Y.ent.set t 0).set t (Y.now + 1) } := by
    unfold YS.enterAt; rw [if_pos e3, e2, Int.toNat_natCast]
  rw [e4]
  refine ⟨e1, e3, ⟨?_, ?_, fun y hy => h.rng y (without_mem.1 hy).1, h.wts, ?_, h.nod.sublist List.filter_sublist, h.th⟩, rfl, rfl, by rw [e2]⟩
  · intro s hs hm
    obtain ⟨hm1, hm2⟩ := without_mem.1 hm
    have hne : t ≠ s := fun e => hm2 (by rw [e])
    show 0 < ((Y.ent.set t 0).set t (Y.now + 1)).getD s 0 ∧ _
    rw [getD_set_ne hne, getD_set_ne hne]
    exact h.inn s hs hm1
  · intro s hs hm
    show ((Y.ent.set t 0).set t (Y.now + 1)).getD s 0 = 0 ∨ T1 < ((Y.ent.set t 0).set t (Y.now + 1)).getD s 0
    by_cases e : t = s
    · subst e
      right
      rw [getD_set_self (by simp; omega)]
      have := h.now; omega
    · rw [getD_set_ne e, getD_set_ne e]
      exact h.out s hs (fun hm' => hm (without_mem.2 ⟨hm', fun e' => e (by omega)⟩))
  · show T1 ≤ Y.now + 1
    have := h.now; omega

/-- The second loop, behind i rounds. -/
structure MInv (E : List Int) (T0 : Int) (Y : YS) (S : AS) (i : Nat) : Prop where
  ent : Y.ent = E
  now : Y.now = T0 + i
  th : Y.threads = 8
  bd : Y.bound = 64
  made : S.made = i
  used : S.used ≤ 2 * i
  most : S.most = 3000
  wts : ∀ r ∈ Y.wt, r.block ≤ i ∧ T0 < r.whn ∧ r.whn ≤ T0 + i
  len : Y.wt.length ≤ i
theorem MInv.alloc {E : List Int} {T0 : Int} {Y : YS} {S : AS} {i : Nat} (h : MInv E T0 Y S i) (hi : i < 5) : S.allocErr 2 = 0 ∧ S.allocNo 2 = ((i + 1 : Nat) : Int) ∧ S.allocAt 2 = S.alloc 2 := by
  have hu := h.used
  have hm := h.most
  have e : S.allocErr 2 = 0 := by unfold AS.allocErr; rw [if_neg (by omega), if_neg (by omega)]
  refine ⟨e, ?_, ?_⟩
  · unfold AS.allocNo; rw [if_pos e, h.made]; rfl
  · unfold AS.allocAt; rw [if_pos e]; rfl
theorem MInv.retire {E : List Int} {T0 : Int} {Y : YS} {S : AS} {i : Nat} (h : MInv E T0 Y S i) (hi : i < 5) :
    Y.retErr (S.alloc 2) ((i : Int) + 1) ((i + 1 : Nat) : Int) = 0 ∧ MInv E T0 (Y.retAt (S.alloc 2) ((i : Int) + 1) ((i + 1 : Nat) : Int)) ((S.alloc 2).retAt Y ((i : Int) + 1) ((i + 1 : Nat) : Int)) (i + 1) ∧
    (Y.retAt (S.alloc 2) ((i : Int) + 1) ((i + 1 : Nat) : Int)).wt = Y.sweepAt.wt ++ [⟨((i + 1 : Nat) : Int), (i : Int) + 1, Y.now + 1⟩] := by
  have hth := h.th
  have hbd := h.bd
  have hlen := h.len
  rcases ret_cases Y (S.alloc 2) ((i : Int) + 1) ((i + 1 : Nat) : Int) with ⟨_, hh⟩ | ⟨_, _, hh⟩ | ⟨_, _, _, hh⟩ | ⟨_, _, _, _, hh⟩ | ⟨he, _⟩
  · exfalso
    unfold YS.isT at hh
    have := of_decide_eq_false hh
    omega
  · exfalso
    unfold waits at hh
    rw [List.any_eq_true] at hh
    obtain ⟨r, hr, e⟩ := hh
    have := (h.wts r hr).1
    have e' : r.block = ((i + 1 : Nat) : Int) := by simpa using e
    omega
  · exfalso
    have : look (S.alloc 2).bl ((i + 1 : Nat) : Int) = some (List.replicate 2 0) := by
      show look ((S.made + 1, List.replicate 2 0) :: S.bl) _ = _
      rw [look_cons, if_pos (by rw [h.made]; rfl)]
    rw [this] at hh; cases hh
  · exfalso
    have h1 := lim_le Y.sweepAt.wt ((i : Int) + 1)
    have h2 : Y.sweepAt.wt.length ≤ Y.wt.length := List.length_filter_le _ _
    omega
  · obtain ⟨e1, e2⟩ := ret_0 he
    rw [e1, e2]
    have hs := sweep_less (S.alloc 2) Y
    refine ⟨he, ⟨h.ent, ?_, h.th, h.bd, ?_, ?_, ?_, ?_, ?_⟩, rfl⟩
    · show Y.now + 1 = T0 + ((i + 1 : Nat) : Int)
      have := h.now; omega
    · rw [hs.1]; show S.made + 1 = _; rw [h.made]; rfl
    · have h3 : (S.alloc 2).used = S.used + 2 := rfl
      have := h.used
      have := hs.2.1
      omega
    · rw [hs.2.2]; exact h.most
    · intro r hr
      have hn := h.now
      rcases List.mem_append.1 hr with hr | hr
      · have := h.wts r (List.mem_filter.1 hr).1
        omega
      · rw [List.mem_singleton] at hr
        subst hr
        show ((i + 1 : Nat) : Int) ≤ _ ∧ T0 < Y.now + 1 ∧ Y.now + 1 ≤ _
        omega
    · show (Y.sweepAt.wt ++ [_]).length ≤ i + 1
      have h2 : Y.sweepAt.wt.length ≤ Y.wt.length := List.length_filter_le _ _
      simp; omega
theorem MInv.kept {E : List Int} {T0 : Int} {Y : YS} {S : AS} {i : Nat} (h : MInv E T0 Y S i) {t : Nat} (ht : t < 9) (h0 : E.getD t 0 ≠ 0) (h1 : E.getD t 0 ≤ T0) : Y.sweepAt.wt = Y.wt := by
  show Y.wt.filter (hld Y) = Y.wt
  rw [List.filter_eq_self]
  intro r hr
  have := h.wts r hr
  unfold hld
  rw [h.ent]
  exact held_yes ht h0 (by omega)
theorem MInv.gone {E : List Int} {T0 : Int} {Y : YS} {S : AS} {i : Nat} (h : MInv E T0 Y S i) (h0 : ∀ t, t < 9 → E.getD t 0 = 0) : Y.sweepAt.wt = [] := by
  apply sweep_none
  intro w
  rw [h.ent]
  exact held_none h0 w
theorem Yd.grow {w w' : World} {P : Nat → Prop} {pa py : Nat} {Y : YS} {S : AS} (h : Yd w P pa py Y S) (hb : Below w.heap.size w w') : Yd w' (fun k => P k ∨ (w.heap.size ≤ k ∧ k < w'.heap.size)) pa py Y S :=
  (h.less (fun k hk hz => by rcases hz with hz | hz; exact hz; omega)).below hb
end Go.Proofs.Ytiiaajdkkofbjaa
