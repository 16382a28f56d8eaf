/-
  Package lock: Leave. Conditions: as in Lk3.
-/
import Derived.Test.YtbfnadpkgiglmaaLk4
namespace Go.Proofs.Ytbfnadpkgiglmaa
open Go.RowKit Go.Maps
set_option linter.unusedVariables false
set_option linter.unusedSimpArgs false

/-- Of the first k mutexes those that a thread has. -/
def LS.some (L : LS) (t : Int) (k : Nat) : List Int := ((LS.all L).take k).filter (fun m => LS.hasAt L t (m - 1).toNat)
theorem some_all (L : LS) (t : Int) : LS.some L t (LS.all L).length = LS.own L t := by unfold LS.some LS.own; rw [List.take_length]
theorem some_sub (L : LS) (t : Int) (k : Nat) : ∀ m ∈ LS.some L t k, m ∈ LS.all L := fun m hm => List.take_subset _ _ (List.mem_filter.1 hm).1
theorem some_succ (L : LS) (t : Int) (k : Nat) (hk : k < (LS.all L).length) : LS.some L t (k + 1) = LS.some L t k ++ (if LS.hasAt L t ((LS.all L).getD k 0 - 1).toNat = true then [(LS.all L).getD k 0] else []) := by
  have e : (LS.all L).getD k 0 = (LS.all L)[k] := by simp [List.getD, hk]
  unfold LS.some
  rw [List.take_succ_eq_append_getElem hk, List.filter_append, e]
  congr 1
  generalize (LS.all L)[k] = y
  cases h : LS.hasAt L t (y - 1).toNat
  · simp only [List.filter_cons, h]; simp
  · simp only [List.filter_cons, h]; simp
theorem some_len (L : LS) (t : Int) (k : Nat) : (LS.some L t k).length ≤ (LS.all L).length := Nat.le_trans (List.length_filter_le _ _) (by rw [List.length_take]; omega)
theorem some_new (L : LS) (t : Int) (k : Nat) (hk : k < (LS.all L).length) : (LS.all L).getD k 0 ∉ LS.some L t k := by
  intro h
  have e : (LS.all L).getD k 0 = (LS.all L)[k] := by simp [List.getD, hk]
  rw [e] at h
  obtain ⟨j, hj, he⟩ := List.mem_take_iff_getElem.1 (List.mem_filter.1 h).1
  have := List.pairwise_iff_getElem.1 (upto_lt (LS.isAt L) L.length) j k (by have : (LS.all L).length = (upto (LS.isAt L) L.length).length := rfl; omega) hk (by omega)
  unfold LS.all at he
  omega
/-- What stands at the next one: what stood there from the beginning. -/
theorem get_some_new (L : LS) (t : Int) (k : Nat) (hk : k < (LS.all L).length) : ∃ x, LS.get (LS.clr L (LS.some L t k)) ((LS.all L).getD k 0) = some x ∧ LS.hasAt L t ((LS.all L).getD k 0 - 1).toNat = (decide (0 < x.ct) && decide (x.ow = t)) ∧ (∃ i : Nat, (LS.all L).getD k 0 = (i : Int) + 1 ∧ i < L.length) := by
  have e : (LS.all L).getD k 0 = (LS.all L)[k] := by simp [List.getD, hk]
  have hm : (LS.all L).getD k 0 ∈ LS.all L := by rw [e]; exact List.getElem_mem _
  rw [get_clr (some_sub L t k), if_neg (some_new L t k hk)]
  obtain ⟨x, hx⟩ := Option.isSome_iff_exists.1 (mem_all.1 hm)
  refine ⟨x, hx, ?_, ?_⟩
  · obtain ⟨i, hi, h1, h2, h3⟩ := get_some hx
    have e2 : ((i : Int) + 1 - 1).toNat = i := by omega
    rw [hi, e2]
    unfold LS.hasAt
    rw [h3]
  · obtain ⟨i, hi, h1, h2, h3⟩ := get_some hx
    exact ⟨i, hi, h1⟩

theorem Keep.joined {X : Nat → Prop} {w w1 w2 : World} (h : Keep X w w1) (k : Keep (fun k => k < w1.heap.size ∧ X k) w1 w2) : Keep X w w2 :=
  ⟨k.os.trans h.os, k.tape.trans h.tape, k.output.trans h.output, Nat.le_trans h.size k.size, fun i hi hx => (k.block i (Nat.lt_of_lt_of_le hi h.size) ⟨Nat.lt_of_lt_of_le hi h.size, hx⟩).trans (h.block i hi hx)⟩
structure LvRel (w1 : World) (pa mb : Nat) (L : LS) (c t : Int) (v : Value) (k : Nat) (wr : World) : Prop where
  at_ : LkAt wr pa mb (LS.clr L (LS.some L t k)) c
  row : wr.ownsRow w1.heap.size 3 1 v (LS.some L t k).length ((LS.some L t k).map (Value.int .i64))
  kp : Keep (fun k => k < w1.heap.size ∧ (k ≠ pa ∧ k ≠ mb)) w1 wr

set_option maxRecDepth 1000000 in
set_option maxHeartbeats 4000000 in
theorem leave_any {w : World} {pa mb : Nat} {L : LS} {c : Int} (h : LkAt w pa mb L c) (hc0 : 0 ≤ c) (hb : L.length < 4611686018427387904) (t : Int) :
    Calls Try.prog 18 #[.pointer (some ⟨pa, 0, none⟩), .int .i64 t] w fun e w' => ∃ v, e = .returned v ∧ w'.ownsRow w.heap.size 3 1 v (LS.own L t).length ((LS.own L t).map (Value.int .i64)) ∧ LkAt w' pa mb (LS.leave L t) c ∧ KeepL pa mb w w' := by
  obtain ⟨i0, hi0, hz0, hz1, hz2⟩ := info_parts info3
  have hall := all_any h
  have hlt := h.head.lt
  have hltm := h.map.lt
  have hfew := h.ok.few
  have H := Lib.hid h; clear h
  have HALL := Lib.hid hall; clear hall
  go_enter Try.func18, Try.ntmps18
  go_wp2_with fail
  refine HALL.out.mono ?_
  rintro e w1 ⟨va, rfl, hrow, hbel⟩
  have hrow' : w1.ownsRow w.heap.size 3 1 va (LS.all L).length ((LS.all L).map (Value.int .i64)) := hrow
  obtain ⟨a, ca, rfl, hints⟩ := own_ints hrow'
  have hA1 := H.out.below hbel
  have HI : Hid (∀ wr, Keep (fun k => k < w1.heap.size ∧ (k ≠ pa ∧ k ≠ mb)) w1 wr → IntsAt wr a (LS.all L)) := Lib.hid (fun wr hk => by
    obtain ⟨a', c', hv, hi⟩ := own_ints (own_keep hrow' hk (fun g cs _ hb => ⟨hb.lt, hA1.ne_blk hb (by decide)⟩))
    injection hv with hv
    subst hv; exact hi)
  clear hints hrow hrow'
  have hz1' := hbel.size
  have REL0 : Hid (LvRel w1 pa mb L c t (.slice none 0 0) 0 w1) := Lib.hid ⟨hA1, World.ownsRow_nil _ _ _ _, Keep.refl _ _⟩
  have HBEL := Lib.hid hbel; clear hbel hA1
  go_wp2_with fail
  go_loopw [5, 12] (fun v i wr => ∃ k : Nat, k ≤ (LS.all L).length ∧ i = .int .i64 k ∧ LvRel w1 pa mb L c t v k wr) (fun _ i _ => (LS.all L).length - (intOf i).toNat)
  case atStart => exact ⟨0, by omega, rfl, REL0.out⟩
  case round =>
    clear REL0
    obtain ⟨k, hk, rfl, hrel⟩ := hrel
    by_cases hlk : k < (LS.all L).length
    · obtain ⟨b, off, rfl, hbl, hc⟩ := HI.out wr hrel.kp k hlk
      obtain ⟨x, hx, hdec, j, hj, hjl⟩ := get_some_new L t k hlk
      have hsuc := some_succ L t k hlk
      have hsl := some_len L t k
      rw [hdec] at hsuc
      generalize (LS.all L).getD k 0 = m at hc hx hj hsuc
      clear hdec
      have hwf : (ik m).wf = true := ik_wf (by omega) (by omega)
      have c1 := hrel.at_.head.cell 1
      simp at c1
      have hpl := hrel.at_.head.lt
      have hml := hrel.at_.map.lt
      have hlo := hrel.at_.map.look1 hwf
      rw [hx] at hlo
      dsimp only [Option.getD_some] at hlo
      have hA := hrel.at_.alloc (.cells #[.int .i64 x.ow, .int .i64 x.ct] 64)
      have hR := hrel.row.alloc (.cells #[.int .i64 x.ow, .int .i64 x.ct] 64)
      have hK := hrel.kp.alloc (.cells #[.int .i64 x.ow, .int .i64 x.ct] 64)
      have hzr := hrel.kp.size
      clear hrel
      by_cases hif : 0 < x.ct ∧ x.ow = t
      · obtain ⟨h0, h1⟩ := hif
        rw [if_pos (by simp [h0, h1])] at hsuc
        obtain ⟨w2, hst, h2, hk2⟩ := hA.store hwf hx ⟨true, 0, 0⟩ rfl (Int.le_refl c) (.inl ⟨rfl, rfl⟩)
        have hR2 := own_locks hR hA hk2 (by decide)
        have hK2 := hK.trans (hk2.less (fun k hk => hk.2))
        rw [← clr_snoc, ← hsuc] at h2
        have hzw2 := hk2.size
        rw [World.size_alloc] at hzw2
        generalize LS.some L t k = S at *
        have H2 := Lib.hid h2; clear h2
        have HR2 := Lib.hid hR2; clear hR2
        have HK2 := Lib.hid hK2; clear hK2
        have HS := Lib.hid hsuc; clear hsuc
        have HJ := Lib.hid hj; clear hj
        clear hA hR hK hk2 hx
        rw [h1] at hlo hst
        clear h1
        generalize x.ct = ct at *
        clear x
        go_wp2_with (at_builtin; refine wpList_append_lies _ rfl _ _ 38 rfl w1.heap.size 3 i0 (.int .i64 0) 1 8 Try.underlying38 hi0 hz0 hz1 hz2 rfl (by decide) _ S.length _ rfl (HR2.out.alloc _) ⟨w2.heap.size, 0, none⟩ 1 1 [.int .i64 m] rfl rfl (cell_one_new w2 (.int .i64 m) 3) (ints_oneCell .i64 [m]) (by decide) (by unfold maxLen; omega) (by omega) (by simp; omega) (w2.heap.size + 1) (by simp) ?_)
        intro g1 capg1 w3 hown hgr hat hltg1
        have hfin : LvRel w1 pa mb L c t (.slice (some ⟨g1, 0, none⟩) (S.length + 1) capg1) (k + 1) w3 := by
          refine ⟨(H2.out.alloc _).grown hgr (HR2.out.alloc _) (by decide), ?_, (HK2.out.alloc _).trans (Keep.ofGrown hgr (fun g e hx => ?_))⟩
          · rw [HS.out]; simpa using hown
          · have := (own_type HR2.out e).1
            omega
        have HF := Lib.hid hfin; clear hfin hown hgr hat
        go_wp2_with fail
        go_roundw
        case rel => exact ⟨k + 1, by omega, by go_num, HF.out⟩
        case measure => simp [intOf]; omega
      · have hd : (decide (0 < x.ct) && decide (x.ow = t)) = false := by
          rw [Bool.and_eq_false_iff]
          by_cases h0 : 0 < x.ct
          · right; simpa using fun e => hif ⟨h0, e⟩
          · left; simpa using h0
        rw [hd, if_neg (by simp), List.append_nil] at hsuc
        have hfin : LvRel w1 pa mb L c t u5 (k + 1) (wr.alloc (.cells #[.int .i64 x.ow, .int .i64 x.ct] 64)) := ⟨by rw [hsuc]; exact hA, by rw [hsuc]; exact hR, hK⟩
        have HF := Lib.hid hfin; clear hfin hA hR hK hsuc hx hj hd
        by_cases h0 : 0 < x.ct
        · have h1 : (x.ow == t) = false := by simpa using fun e => hif ⟨h0, e⟩
          clear hif
          generalize x.ct = ct at *
          generalize x.ow = ow at *
          clear x
          go_wp2_with fail
          go_roundw
          case rel => exact ⟨k + 1, by omega, by go_num, HF.out⟩
          case measure => simp [intOf]; omega
        · clear hif
          generalize x.ct = ct at *
          generalize x.ow = ow at *
          clear x
          go_wp2_with fail
          go_roundw
          case rel => exact ⟨k + 1, by omega, by go_num, HF.out⟩
          case measure => simp [intOf]; omega
    · obtain rfl : k = (LS.all L).length := by omega
      have hR := hrel.row
      have hT := hrel.at_
      have hK := hrel.kp
      rw [some_all] at hR hT
      have HR := Lib.hid hR; clear hR
      have HT := Lib.hid hT; clear hT
      have HK := Lib.hid hK; clear hK hrel
      go_wp2
      go_ret
      exact ⟨_, rfl, ownsRow_base_a HR.out (by omega), HT.out, (Keep.ofBelow0 HBEL.out).joined HK.out⟩
end Go.Proofs.Ytbfnadpkgiglmaa
