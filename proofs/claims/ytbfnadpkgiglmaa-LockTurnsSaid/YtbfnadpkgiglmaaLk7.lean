/-
  The document's own mutexes: put, Make. Conditions: as in Lk6.
-/
import Derived.Test.YtbfnadpkgiglmaaLk6
namespace Go.Proofs.Ytbfnadpkgiglmaa
open Go.RowKit Go.Maps
set_option linter.unusedVariables false
set_option linter.unusedSimpArgs false

theorem set_take_succ (l : LS) (i k : Nat) (x : Lk) (hk : k < l.length) : (l.set i x).take (k + 1) = (l.set i x).take k ++ [if k = i then x else l.getD k zLk] := by
  have hk' : k < (l.set i x).length := by simpa using hk
  rw [List.take_succ_eq_append_getElem hk', List.getElem_set]
  congr 2
  by_cases h : i = k
  · subst h; simp
  · rw [if_neg h, if_neg (fun e => h e.symm)]; simp [List.getD, hk]
theorem one_lk (x : Lk) : ∀ u ∈ lkc x, u.oneCell' = true := by
  intro u hu
  simp [lkc] at hu
  rcases hu with rfl | rfl | rfl <;> rfl
theorem flat_snoc (S : LS) (x : Lk) : flat (S ++ [x]) = flat S ++ lkc x := by rw [flat_append, flat_one]
theorem news_lk (w : World) (x : Lk) : ∀ j u, (lkc x)[j]? = some u → (w.alloc (.cells #[.bool x.is, .int .i64 x.ow, .int .i64 x.ct] 35)).cell? ((⟨w.heap.size, 0, none⟩ : Addr).add j) = some u :=
  World.news_of_block (Blk.new w 35 #[.bool x.is, .int .i64 x.ow, .int .i64 x.ct])
theorem row_made (w : World) (B : Nat) (hB : B ≤ w.heap.size) : (w.alloc (Obj.cells #[] 35)).ownsRow B 35 3 (.slice (some ⟨w.heap.size, 0, none⟩) 0 0) 0 (flat []) :=
  World.ownsRow_made (base := B) (e := 35) (size := 3) w #[] 0 hB (by unfold maxLen; omega) rfl
/-- A row of mutexes under way: behind B. -/
structure RowL (w : World) (B : Nat) (v : Value) (S : LS) (wr : World) : Prop where
  row : wr.ownsRow B 35 3 v S.length (flat S)
  bel : Below w.heap.size w wr
  siz : B ≤ wr.heap.size
  low : w.heap.size ≤ B
theorem RowL.keepB {w wr w2 w3 : World} {B : Nat} {v : Value} {S : LS} (h : RowL w B v S wr) (hb : Below wr.heap.size wr w2) (hgr : w2.grownBy w3 v.ownBlock) : Keep (fun k => k < B) wr w3 :=
  (Keep.ofBelow0 hb).trans (Keep.ofGrown hgr (fun g e hx => by have := (own_type h.row e).1; omega))
theorem RowL.pushed {w wr w2 w3 : World} {B : Nat} {v : Value} {S : LS} {x : Lk} {g cap : Nat} (h : RowL w B v S wr) (hb : Below wr.heap.size wr w2)
    (hown : w3.ownsRow B 35 3 (.slice (some ⟨g, 0, none⟩) (S.length + 1) cap) (S.length + 1) (flat S ++ lkc x)) (hgr : w2.grownBy w3 v.ownBlock) : RowL w B (.slice (some ⟨g, 0, none⟩) (S ++ [x]).length cap) (S ++ [x]) w3 := by
  have hk := h.keepB hb hgr
  have h2 := hk.size
  have h3 := h.siz
  have h4 := h.low
  refine ⟨?_, h.bel.trans (hk.toBelow (fun k hk => by omega) (by omega)), by omega, h4⟩
  rw [flat_snoc, List.length_append, List.length_singleton]
  exact hown
theorem RowL.rat {w wr : World} {B : Nat} {v : Value} {S : LS} (h : RowL w B v S wr) : RAt wr v S := ownsRow_base_a h.row (Nat.zero_le _)

set_option maxRecDepth 1000000 in
set_option maxHeartbeats 4000000 in
theorem rput_any {w : World} {a : Option Addr} {ca : Nat} {L : LS} (h : RowsAt w a L) (hn : L.length ≤ 5864062014805) {i : Nat} (hi : i < L.length) (x : Lk) :
    Calls Try.prog 29 #[.slice a L.length ca, .int .i64 ((i : Int) + 1), .agg #[.bool x.is, .int .i64 x.ow, .int .i64 x.ct]] w fun e w' => ∃ v, e = .returned v ∧ RAt w' v (L.set i x) ∧ Below w.heap.size w w' := by
  obtain ⟨i0, hi0, hz0, hz1, hz2⟩ := info_parts infoLk
  have HI := Lib.hid h; clear h
  have HS := Lib.hid (fun m => set_take_succ L i m x)
  have hlen : Hid ((L.set i x).length = L.length) := Lib.hid (by simp)
  have HTK : Hid (∀ k, k ≤ L.length → ((L.set i x).take k).length = k) := Lib.hid (fun k hk => by rw [List.length_take, hlen.out]; omega)
  have HAL : Hid ((L.set i x).take L.length = L.set i x) := Lib.hid (by rw [List.take_of_length_le (by rw [hlen.out]; omega)])
  clear hlen
  have hsub : wrap64 (i : Int) = (i : Int) := by have := IntKind.wrap_i64 (n := (i : Int)); unfold wrap64; omega
  have REL0 : Hid (RowL w (w.heap.size + 1) (.slice (some ⟨w.heap.size + 1, 0, none⟩) 0 0) ((L.set i x).take 0) ((w.alloc (.cells #[.bool x.is, .int .i64 x.ow, .int .i64 x.ct] 35)).alloc (Obj.cells #[] 35))) := Lib.hid ⟨by
    have := row_made (w.alloc (.cells #[.bool x.is, .int .i64 x.ow, .int .i64 x.ct] 35)) (w.heap.size + 1) (by simp)
    simpa using this, ((Below.refl _ w).alloc (Nat.le_refl _) _).alloc (by simp) _, by simp, by omega⟩
  have BOX0 : Hid (Blk ((w.alloc (.cells #[.bool x.is, .int .i64 x.ow, .int .i64 x.ct] 35)).alloc (Obj.cells #[] 35)) w.heap.size 35 #[.bool x.is, .int .i64 x.ow, .int .i64 x.ct]) := Lib.hid ((Blk.new w _ _).alloc _)
  go_enter Try.func29, Try.ntmps29
  go_wp2_with fail
  go_loopw [7, 8] (fun v j wr => ∃ k : Nat, k ≤ L.length ∧ j = .int .i64 k ∧ RowL w (w.heap.size + 1) v ((L.set i x).take k) wr ∧ Blk wr w.heap.size 35 #[.bool x.is, .int .i64 x.ow, .int .i64 x.ct]) (fun _ j _ => L.length - (intOf j).toNat)
  case atStart => exact ⟨0, by omega, rfl, REL0.out, BOX0.out⟩
  case round =>
    clear REL0 BOX0
    obtain ⟨k, hk, rfl, hrow, hbox⟩ := hrel
    have hzr := hrow.siz
    by_cases hlk : k < L.length
    · have hs := HS.out k hlk
      have htl := HTK.out k hk
      obtain ⟨g, rfl, hg, d0, d1, d2⟩ := (HI.out.below hrow.bel) k hlk
      generalize (L.set i x).take k = S at *
      have hsl : S.length ≤ 5864062014804 := by omega
      clear htl
      have b0 := hbox.cell 0
      have b1 := hbox.cell 1
      have b2 := hbox.cell 2
      simp at b0 b1 b2
      have HR := Lib.hid hrow; clear hrow
      have HB := Lib.hid hbox; clear hbox
      by_cases hki : k = i
      · rw [if_pos hki] at hs
        have HS2 := Lib.hid hs; clear hs
        have hb1 : ((k : Int) == (i : Int)) = true := by simp [hki]
        clear hki hi d0 d1 d2
        go_wp2_with (at_builtin; refine wpList_append_lies _ rfl _ _ 27 rfl (w.heap.size + 1) 35 i0 (.agg #[.bool false, .int .i64 0, .int .i64 0]) 3 24 Try.underlying27 hi0 hz0 hz1 hz2 rfl (by decide) _ S.length _ rfl (HR.out.row.alloc _) ⟨wr.heap.size, 0, none⟩ 1 1 (lkc x) rfl rfl (news_lk wr x) (one_lk x) (by decide) (by unfold maxLen; omega) (by omega) (by simp; omega) (wr.heap.size + 1) (by simp) ?_)
        intro g1 capg1 w3 hown hgr hat hltg1
        have hal := (Below.refl wr.heap.size wr).alloc (Nat.le_refl _) (.cells #[.bool (x).is, .int .i64 (x).ow, .int .i64 (x).ct] 35)
        have hfin : RowL w (w.heap.size + 1) (.slice (some ⟨g1, 0, none⟩) (S.length + 1) capg1) ((L.set i x).take (k + 1)) w3 ∧ Blk w3 w.heap.size 35 #[.bool x.is, .int .i64 x.ow, .int .i64 x.ct] := by
          refine ⟨?_, HB.out.keep (HR.out.keepB hal hgr) (by omega)⟩
          have := HR.out.pushed (x := x) hal hown hgr
          rw [HS2.out]; simpa using this
        have HF := Lib.hid hfin; clear hfin hown hgr hat hal
        go_wp2_with fail
        go_roundw
        case rel => exact ⟨k + 1, by omega, by go_num, HF.out.1, HF.out.2⟩
        case measure => simp [intOf]; omega
      · rw [if_neg hki] at hs
        have hb1 : ((k : Int) == (i : Int)) = false := by simp; omega
        generalize L.getD k zLk = y at *
        have HS2 := Lib.hid hs; clear hs
        clear hki hi b0 b1 b2
        go_wp2_with (at_builtin; refine wpList_append_lies _ rfl _ _ 27 rfl (w.heap.size + 1) 35 i0 (.agg #[.bool false, .int .i64 0, .int .i64 0]) 3 24 Try.underlying27 hi0 hz0 hz1 hz2 rfl (by decide) _ S.length _ rfl (HR.out.row.alloc _) ⟨wr.heap.size, 0, none⟩ 1 1 (lkc y) rfl rfl (news_lk wr y) (one_lk y) (by decide) (by unfold maxLen; omega) (by omega) (by simp; omega) (wr.heap.size + 1) (by simp) ?_)
        intro g1 capg1 w3 hown hgr hat hltg1
        have hal := (Below.refl wr.heap.size wr).alloc (Nat.le_refl _) (.cells #[.bool (y).is, .int .i64 (y).ow, .int .i64 (y).ct] 35)
        have hfin : RowL w (w.heap.size + 1) (.slice (some ⟨g1, 0, none⟩) (S.length + 1) capg1) ((L.set i x).take (k + 1)) w3 ∧ Blk w3 w.heap.size 35 #[.bool x.is, .int .i64 x.ow, .int .i64 x.ct] := by
          refine ⟨?_, HB.out.keep (HR.out.keepB hal hgr) (by omega)⟩
          have := HR.out.pushed (x := y) hal hown hgr
          rw [HS2.out]; simpa using this
        have HF := Lib.hid hfin; clear hfin hown hgr hat hal
        go_wp2_with fail
        go_roundw
        case rel => exact ⟨k + 1, by omega, by go_num, HF.out.1, HF.out.2⟩
        case measure => simp [intOf]; omega
    · obtain rfl : k = L.length := by omega
      have hrt := hrow.rat
      have hbl := hrow.bel
      rw [HAL.out] at hrt
      have HR := Lib.hid hrt
      have HB := Lib.hid hbl
      clear hrow hbox hrt hbl
      go_wp2
      go_ret
      exact ⟨_, rfl, HR.out, HB.out⟩

set_option maxRecDepth 1000000 in
set_option maxHeartbeats 4000000 in
theorem rmake_any {w : World} {a : Option Addr} {ca : Nat} {L : LS} (h : RowsAt w a L) (hra : RAt w (.slice a L.length ca) L) (hn : L.length ≤ 5864062014804) :
    Calls Try.prog 21 #[.slice a L.length ca] w fun e w' => ∃ v, e = .returned (.tuple #[v, .int .i64 (LS.makeNo L), .int .i64 (LS.makeErr L)]) ∧ RAt w' v (LS.make L) ∧ Below w.heap.size w w' := by
  obtain ⟨i0, hi0, hz0, hz1, hz2⟩ := info_parts infoLk
  have HALL := Lib.hid (rall_any (ca := ca) h (by omega))
  have HRA := Lib.hid hra; clear hra
  have HI := Lib.hid h; clear h
  unfold LS.makeNo LS.makeErr LS.make
  have hlen := upto_len (LS.isAt L) L.length
  by_cases h8 : 8 ≤ (LS.all L).length
  · rw [if_pos h8, if_pos h8, if_pos h8]
    unfold LS.all at h8 HALL
    generalize upto (LS.isAt L) L.length = A at *
    have hA2 : A.length ≤ 5864062014805 := by omega
    go_enter Try.func21, Try.ntmps21
    go_wp2_with fail
    refine HALL.out.mono ?_
    rintro e w1 ⟨v, rfl, hrow, hb⟩
    obtain ⟨a2, c2, rfl, _⟩ := own_ints hrow
    have HB := Lib.hid hb; clear hb hrow
    go_wp2
    exact bodyPost_ret (v := .tuple #[.slice a L.length ca, .int .i64 0, .int .i64 3]) (by simp [results, Try.results21, go_sem]) rfl ⟨_, rfl, own_below HRA.out HB.out, HB.out⟩
  · rw [if_neg h8, if_neg h8, if_neg h8]
    unfold LS.all at h8 HALL
    generalize upto (LS.isAt L) L.length = A at *
    have hA2 : A.length ≤ 5864062014805 := by omega
    have HS : Hid (∀ k, k < L.length → List.take (k + 1) L = List.take k L ++ [L.getD k zLk]) := Lib.hid (fun k hk => by rw [List.take_succ_eq_append_getElem hk]; simp [List.getD, hk])
    have HTK : Hid (∀ k, k ≤ L.length → (List.take k L).length = k) := Lib.hid (fun k hk => by rw [List.length_take]; omega)
    have HAL : Hid (List.take L.length L = L) := Lib.hid (List.take_length)
    go_enter Try.func21, Try.ntmps21
    go_wp2_with fail
    refine HALL.out.mono ?_
    rintro e w1 ⟨v, rfl, hrow, hb⟩
    obtain ⟨a2, c2, rfl, _⟩ := own_ints hrow
    have hz1' := hb.size
    have REL0 : Hid (RowL w w1.heap.size (.slice (some ⟨w1.heap.size, 0, none⟩) 0 0) (List.take 0 L) (w1.alloc (Obj.cells #[] 35))) := Lib.hid ⟨row_made w1 _ (Nat.le_refl _), hb.alloc hz1' _, by simp, hz1'⟩
    clear hrow hb
    go_wp2_with fail
    go_loopw [5, 6] (fun v j wr => ∃ k : Nat, k ≤ L.length ∧ j = .int .i64 k ∧ RowL w w1.heap.size v (List.take k L) wr) (fun _ j _ => L.length - (intOf j).toNat)
    case atStart => exact ⟨0, by omega, rfl, REL0.out⟩
    case round =>
      clear REL0
      obtain ⟨k, hk, rfl, hrow⟩ := hrel
      have hzr := hrow.siz
      by_cases hlk : k < L.length
      · have hs := HS.out k hlk
        have htl := HTK.out k hk
        obtain ⟨g, rfl, hg, d0, d1, d2⟩ := (HI.out.below hrow.bel) k hlk
        generalize List.take k L = S at *
        have hsl : S.length ≤ 5864062014804 := by omega
        clear htl
        generalize L.getD k zLk = y at *
        have HS2 := Lib.hid hs; clear hs
        have HR := Lib.hid hrow; clear hrow
        go_wp2_with (at_builtin; refine wpList_append_lies _ rfl _ _ 27 rfl w1.heap.size 35 i0 (.agg #[.bool false, .int .i64 0, .int .i64 0]) 3 24 Try.underlying27 hi0 hz0 hz1 hz2 rfl (by decide) _ S.length _ rfl (HR.out.row.alloc _) ⟨wr.heap.size, 0, none⟩ 1 1 (lkc y) rfl rfl (news_lk wr y) (one_lk y) (by decide) (by unfold maxLen; omega) (by omega) (by simp; omega) (wr.heap.size + 1) (by simp) ?_)
        intro g1 capg1 w3 hown hgr hat hltg1
        have hal := (Below.refl wr.heap.size wr).alloc (Nat.le_refl _) (.cells #[.bool (y).is, .int .i64 (y).ow, .int .i64 (y).ct] 35)
        have hfin : RowL w w1.heap.size (.slice (some ⟨g1, 0, none⟩) (S.length + 1) capg1) (List.take (k + 1) L) w3 := by
          have := HR.out.pushed (x := y) hal hown hgr
          rw [HS2.out]; simpa using this
        have HF := Lib.hid hfin; clear hfin hown hgr hat hal
        go_wp2_with fail
        go_roundw
        case rel => exact ⟨k + 1, by omega, by go_num, HF.out⟩
        case measure => simp [intOf]; omega
      · obtain rfl : k = L.length := by omega
        rw [HAL.out] at hrow
        have HR := Lib.hid hrow; clear hrow
        have hsl : L.length ≤ 5864062014804 := by omega
        go_wp2_with (at_builtin; refine wpList_append_lies _ rfl _ _ 27 rfl w1.heap.size 35 i0 (.agg #[.bool false, .int .i64 0, .int .i64 0]) 3 24 Try.underlying27 hi0 hz0 hz1 hz2 rfl (by decide) _ L.length _ rfl (HR.out.row.alloc _) ⟨wr.heap.size, 0, none⟩ 1 1 (lkc ⟨true, 0, 0⟩) rfl rfl (news_lk wr ⟨true, 0, 0⟩) (one_lk ⟨true, 0, 0⟩) (by decide) (by unfold maxLen; omega) (by omega) (by simp; omega) (wr.heap.size + 1) (by simp) ?_)
        intro g1 capg1 w3 hown hgr hat hltg1
        have hal := (Below.refl wr.heap.size wr).alloc (Nat.le_refl _) (.cells #[.bool true, .int .i64 0, .int .i64 0] 35)
        have hfin : RowL w w1.heap.size (.slice (some ⟨g1, 0, none⟩) (L.length + 1) capg1) (L ++ [⟨true, 0, 0⟩]) w3 := by
          have := HR.out.pushed (x := ⟨true, 0, 0⟩) hal hown hgr
          simpa using this
        have HF := Lib.hid hfin; clear hfin hown hgr hat hal
        go_wp2
        exact bodyPost_ret (v := .tuple #[.slice (some ⟨g1, 0, none⟩) (L.length + 1) capg1, .int .i64 ((L.length : Int) + 1), .int .i64 0]) (by simp [results, Try.results21, go_sem]) rfl ⟨_, rfl, HF.out.rat, HF.out.bel⟩
end Go.Proofs.Ytbfnadpkgiglmaa
