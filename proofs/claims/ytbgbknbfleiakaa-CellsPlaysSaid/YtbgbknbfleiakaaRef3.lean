/-
  The document's own arena: the contract of put. Conditions: lengths below 2^42, as the reach has it.
-/
import Derived.Test.YtbgbknbfleiakaaRef2
namespace Go.Proofs.Ytbgbknbfleiakaa
open Go.RowKit Go.Maps

theorem keep_grown {X : Nat → Prop} {wr w' : World} {o : Obj} {row : Option Nat} (hg : (wr.alloc o).grownBy w' row) (hr : ∀ k, row = some k → ¬ X k) : Keep X wr w' :=
  ((Keep.refl X wr).alloc o).trans ⟨hg.os, hg.tape, hg.output, hg.size, fun k hk hX => hg.block k hk (fun e => hr k e.symm hX)⟩

/-- What holds at the head of a round that copies the list. -/
structure CpRel (w wr : World) (m : Array Value) (us : List Value) (v : Value) (j : Nat) : Prop where
  keep : Keep (fun k => k < w.heap.size) w wr
  box : Blk wr w.heap.size 28 m
  res : Blk wr (w.heap.size + 1) 28 #[.slice none 0 0, .int .i64 0, .int .i64 0]
  own : wr.ownsRow (w.heap.size + 2) 42 1 v j (us.take j)
  size : w.heap.size + 2 ≤ wr.heap.size
theorem CpRel.grow {w wr w' : World} {m : Array Value} {us : List Value} {v v' : Value} {j : Nat} {o : Obj} (h : CpRel w wr m us v j) (hown : w'.ownsRow (w.heap.size + 2) 42 1 v' (j + 1) (us.take (j + 1))) (hg : (wr.alloc o).grownBy w' v.ownBlock) :
    CpRel w w' m us v' (j + 1) := by
  have hk : Keep (fun k => k < w.heap.size + 2) wr w' := keep_grown hg (fun k hk hX => by have := (h.own.lt k hk).1; omega)
  exact ⟨h.keep.trans (hk.less (fun k hk => by omega)), h.box.keep hk (by omega), h.res.keep hk (by omega), hown, Nat.le_trans h.size hk.size⟩

theorem take_snoc_val {us : List Value} {j : Nat} (h : j < us.length) : us.take (j + 1) = us.take j ++ [us.getD j undef] := by
  rw [List.take_succ_eq_append_getElem h]; simp [List.getD, h]

theorem slices_oneCell (A : Option Addr) (n c : Nat) : ∀ u ∈ [Value.slice A n c], u.oneCell' = true := by
  intro u hu; simp at hu; subst hu; rfl

theorem set_getD_val (vals : List Value) (i j : Nat) (x : Value) : (vals.set i x).getD j undef = if i = j ∧ j < vals.length then x else vals.getD j undef := by
  simp only [List.getD_eq_getElem?_getD, List.getElem?_set]
  by_cases h : i = j
  · subst h
    by_cases hl : i < vals.length
    · simp [hl]
    · simp [hl]
  · simp [h]
theorem set_getD_ints (bl : List (List Int)) (i j : Nat) (x : List Int) : (bl.set i x).getD j [] = if i = j ∧ j < bl.length then x else bl.getD j [] := by
  simp only [List.getD_eq_getElem?_getD, List.getElem?_set]
  by_cases h : i = j
  · subst h
    by_cases hl : i < bl.length
    · simp [hl]
    · simp [hl]
  · simp [h]

theorem Ints.fine {w : World} {Y : Nat → Prop} {v : Value} {xs : List Int} (h : Ints w Y v xs) : Ints w (fun k => Y k ∧ k < w.heap.size) v xs := by
  obtain ⟨A, c, hv, h⟩ := h
  exact ⟨A, c, hv, fun hp => by obtain ⟨g, hA, hY, hlt, hc⟩ := h hp; exact ⟨g, hA, ⟨hY, hlt⟩, hlt, hc⟩⟩
/-- The list behind a copying loop, with one place of it new. -/
theorem CpRel.done {w wr : World} {Y : Nat → Prop} {m : Array Value} {us : List Value} {v : Value} {bl' : List (List Int)} (h : CpRel w wr m us v bl'.length) (hus : us.length = bl'.length)
    (hi : ∀ i, i < bl'.length → Ints w Y (us.getD i undef) (bl'.getD i [])) :
    ∃ A' c', v = .slice A' bl'.length c' ∧ RowsAt wr (fun k => (Y k ∧ k < w.heap.size) ∨ (w.heap.size + 2 ≤ k ∧ k < wr.heap.size)) A' us bl' := by
  have hown := h.own
  rw [List.take_of_length_le (Nat.le_of_eq hus)] at hown
  exact own_vals hown (fun g h1 h2 => .inr ⟨h1, h2⟩) (fun i hil => ((hi i hil).fine.wide (Z := fun k => k < w.heap.size ∧ Y k) (fun k hk => ⟨hk.2, hk.1⟩)).keep (h.keep.less (fun k hk => hk.1)) (fun k hk => hk) |>.wide (fun k hk => .inl ⟨hk.2, hk.1⟩))

set_option maxHeartbeats 2000000 in
theorem put_any {w : World} {Y : Nat → Prop} {A : Option Addr} {vals : List Value} {bl : List (List Int)} (h : RowsAt w Y A vals bl) (c : Nat) (most fl : Int) {i : Nat} (hi : i < bl.length) (hlen : bl.length ≤ 4398046511104)
    {Ax : Option Addr} {cx : Nat} {xs : List Int} (hx : Ints w Y (.slice Ax xs.length cx) xs) :
    Calls Try.prog 30 #[.agg #[.slice A bl.length c, .int .i64 most, .int .i64 fl], .int .i64 ((i : Int) + 1), .slice Ax xs.length cx] w fun e w' =>
      ∃ A' c', e = .returned (.agg #[.slice A' bl.length c', .int .i64 most, .int .i64 fl]) ∧ RowsAt w' (plus Y w w') A' (vals.set i (.slice Ax xs.length cx)) (bl.set i xs) ∧ Below w.heap.size w w' := by
  obtain ⟨i0, hi0, hz0, hz1, hz2⟩ := info_parts info42
  have hus : (vals.set i (.slice Ax xs.length cx)).length = bl.length := by rw [List.length_set]; exact h.len
  have hrel : CpRel w (((w.alloc (.cells #[.slice A bl.length c, .int .i64 most, .int .i64 fl] 28)).alloc (.cells #[.slice none 0 0, .int .i64 0, .int .i64 0] 28)).alloc (.cells #[] 42)) #[.slice A bl.length c, .int .i64 most, .int .i64 fl] (vals.set i (.slice Ax xs.length cx)) (.slice (some ⟨w.heap.size + 2, 0, none⟩) 0 0) 0 := by
    refine ⟨(((Keep.refl _ w).alloc _).alloc _).alloc _, ((Blk.new w 28 _).alloc _).alloc _, ?_, ?_, by simp⟩
    · have := (Blk.new (w.alloc (.cells #[.slice A bl.length c, .int .i64 most, .int .i64 fl] 28)) 28 #[.slice none 0 0, .int .i64 0, .int .i64 0]).alloc (.cells #[] 42)
      simpa using this
    · have := World.ownsRow_made (base := w.heap.size + 2) (e := 42) (size := 1) ((w.alloc (.cells #[.slice A bl.length c, .int .i64 most, .int .i64 fl] 28)).alloc (.cells #[.slice none 0 0, .int .i64 0, .int .i64 0] 28)) #[] 0 (by simp) (by unfold maxLen; omega) rfl
      simpa using this
  have H := Lib.hid h; clear h
  have HX := Lib.hid hx; clear hx
  have HREL := Lib.hid hrel; clear hrel
  have HUS := Lib.hid hus; clear hus
  go_enter Try.func30, Try.ntmps30
  go_wp2_with fail
  go_loopw [7, 8] (fun v k wr => ∃ j : Nat, j ≤ bl.length ∧ k = .int .i64 j ∧ CpRel w wr #[.slice A bl.length c, .int .i64 most, .int .i64 fl] (vals.set i (.slice Ax xs.length cx)) v j) (fun _ k _ => bl.length - (intOf k).toNat)
  case atStart => exact ⟨0, by omega, rfl, HREL.out⟩
  case round =>
    clear HREL
    obtain ⟨j, hj, rfl, hr⟩ := hrel
    obtain ⟨b0, b1, b2, g0, g1, g2⟩ := hr.box.three
    by_cases hjl : j < bl.length
    · obtain ⟨g, rfl, _, hlt, hc⟩ := H.out.row (by omega)
      obtain ⟨Aj, cj, hv, _⟩ := H.out.ints j hjl
      have hcell := hc j hjl
      rw [hv, ← World.cell?_of_block (a := ⟨g, j, none⟩) (hr.keep.block g hlt hlt)] at hcell
      clear hc
      have hown := hr.own
      have hsz := hr.size
      have HR := Lib.hid hr; clear hr
      by_cases hji : j = i
      · subst hji
        have htk := take_snoc_val (us := vals.set j (.slice Ax xs.length cx)) (j := j) (by rw [HUS.out]; exact hjl)
        rw [set_getD_val, if_pos ⟨rfl, by have := H.out.len; omega⟩] at htk
        have HTK := Lib.hid htk; clear htk hv
        go_wp2_with (at_builtin; refine wpList_append_own _ rfl _ _ 26 rfl (w.heap.size + 2) 42 i0 (.slice none 0 0) 1 24 Try.underlying26 hi0 hz0 hz1 hz2 rfl (by decide) _ _ _ rfl (hown.alloc _) ⟨wr.heap.size, 0, none⟩ 1 1 [.slice Ax xs.length cx] rfl rfl ?c1 ?c2 ?c3 ?c4 ?c5 ?_)
        case c1 => exact cell_one_new _ _ _
        case c2 => exact slices_oneCell _ _ _
        case c3 => unfold maxLen; omega
        case c4 => omega
        case c5 => simp; omega
        intro v' w' hown' hgrow _
        have HRN : Hid (CpRel w w' _ _ v' (j + 1)) := HR.out.grow (by rw [HTK.out]; exact hown') hgrow
        clear hown hown' hgrow
        go_wp2_with fail
        go_roundw
        case rel => exact ⟨j + 1, by omega, by go_num, HRN.out⟩
        case measure => simp [intOf]; omega
      · have htk := take_snoc_val (us := vals.set i (.slice Ax xs.length cx)) (j := j) (by rw [HUS.out]; exact hjl)
        rw [set_getD_val, if_neg (fun e => hji e.1.symm), hv] at htk
        have HTK := Lib.hid htk; clear htk hv
        have hne : ((j : Int) == (i : Int)) = false := by simpa using (fun e : (j : Int) = i => hji (by omega))
        clear hji
        generalize (bl.getD j []).length = nj at hcell HTK
        go_wp2_with (at_builtin; refine wpList_append_own _ rfl _ _ 26 rfl (w.heap.size + 2) 42 i0 (.slice none 0 0) 1 24 Try.underlying26 hi0 hz0 hz1 hz2 rfl (by decide) _ _ _ rfl (hown.alloc _) ⟨wr.heap.size, 0, none⟩ 1 1 [.slice Aj nj cj] rfl rfl ?c1 ?c2 ?c3 ?c4 ?c5 ?_)
        case c1 => exact cell_one_new _ _ _
        case c2 => exact slices_oneCell _ _ _
        case c3 => unfold maxLen; omega
        case c4 => omega
        case c5 => simp; omega
        intro v' w' hown' hgrow _
        have HRN : Hid (CpRel w w' _ _ v' (j + 1)) := HR.out.grow (by rw [HTK.out]; exact hown') hgrow
        clear hown hown' hgrow
        go_wp2_with fail
        go_roundw
        case rel => exact ⟨j + 1, by omega, by go_num, HRN.out⟩
        case measure => simp [intOf]; omega
    · obtain rfl : j = bl.length := by omega
      have hl2 : (bl.set i xs).length = bl.length := List.length_set
      have hdone := CpRel.done (Y := Y) (bl' := bl.set i xs) (by rw [hl2]; exact hr) (by rw [hl2]; exact HUS.out) (fun k hk => by
        rw [hl2] at hk
        rw [set_getD_val, set_getD_ints]
        by_cases hik : i = k
        · rw [if_pos ⟨hik, by rw [H.out.len]; exact hk⟩, if_pos ⟨hik, hk⟩]; exact HX.out
        · rw [if_neg (fun e => hik e.1), if_neg (fun e => hik e.1)]; exact H.out.ints k hk)
      obtain ⟨A', c', rfl, hrows⟩ := hdone
      rw [hl2]
      have hB2 := hr.box.set_ 0 (.slice A' bl.length c')
      obtain ⟨d0, d1, d2, _⟩ := hB2.three
      have hR2 := hr.res.far (p := ⟨w.heap.size, 0, none⟩) (by simp) (.slice A' bl.length c')
      obtain ⟨r0, r1, r2, k0, k1, k2⟩ := hR2.three
      have hF := ((hR2.set_ 0 (.slice A' bl.length c')).set_ 1 (.int .i64 most)).set_ 2 (.int .i64 fl)
      obtain ⟨q0, q1, q2, _⟩ := hF.three
      have HROWS := Lib.hid hrows; clear hrows
      have HR := Lib.hid hr; clear hr
      clear hB2 hR2 hF hl2
      go_wp2_with fail
      refine bodyPost_ret (by simp [results, Try.results30, go_sem, q0, q1, q2]; rfl) rfl ?_
      refine ⟨A', c', rfl, ?_, ?_⟩
      · refine HROWS.out.keep (Z := fun k => (Y k ∧ k < w.heap.size) ∨ (w.heap.size + 2 ≤ k ∧ k < wr.heap.size)) ?_ (fun k hk => hk) |>.wide (fun k hk => ?_)
        · refine keep_set (keep_set (keep_set (keep_set (Keep.refl _ _) ?_) ?_) ?_) ?_
          all_goals omega
        · rcases hk with hk | hk
          · exact .inl hk.1
          · exact .inr ⟨by omega, by simp [World.setCell]; exact hk.2⟩
      · refine below_set (below_set (below_set (below_set (HR.out.keep.toBelow (fun k hk => hk) (Nat.le_refl _)) (by omega)) (by omega)) (by omega)) (by omega)

end Go.Proofs.Ytbgbknbfleiakaa
