/-
  The document's own arena: the contract of Alloc. Conditions: lengths below 2^42, as the reach has it.
-/
import Derived.Test.YtbgbknbfleiakaaRef5
namespace Go.Proofs.Ytbgbknbfleiakaa
open Go.RowKit Go.Maps

theorem refAlloc_bad (A : Option Addr) (l c : Nat) (most fl n : Int) (w : World) (hn : n < 1 ∨ 256 < n) :
    Calls Try.prog 23 #[.agg #[.slice A l c, .int .i64 most, .int .i64 fl], .int .i64 n] w fun e w' => e = .returned (.tuple #[.agg #[.slice A l c, .int .i64 most, .int .i64 fl], .int .i64 0, .int .i64 1]) ∧ Below w.heap.size w w' := by
  by_cases h1 : n < 1
  all_goals
    go_enter Try.func23, Try.ntmps23
    go_wp2_with fail
    refine bodyPost_ret (by simp [results, Try.results23, go_sem]; rfl) rfl ?_
    refine ⟨rfl, ?_⟩
    go_grown

theorem refAlloc_full {w : World} {Y : Nat → Prop} {A : Option Addr} {vals : List Value} {bl : List (List Int)} (h : RowsAt w Y A vals bl) (c : Nat) (most fl : Int) (hlen : bl.length ≤ 4398046511104) (ht : tot bl ≤ 65536) {n : Int} (h1 : 1 ≤ n) (h2 : n ≤ 256) (h3 : most < (tot bl : Int) + n) :
    Calls Try.prog 23 #[.agg #[.slice A bl.length c, .int .i64 most, .int .i64 fl], .int .i64 n] w fun e w' => e = .returned (.tuple #[.agg #[.slice A bl.length c, .int .i64 most, .int .i64 fl], .int .i64 0, .int .i64 21]) ∧ Below w.heap.size w w' := by
  have hb2 := below2 (w := w) #[.slice A bl.length c, .int .i64 most, .int .i64 fl] #[.slice none 0 0, .int .i64 0, .int .i64 0]
  have hcall := refLive_any (h.below hb2) c most fl hlen ht
  have HC := Lib.hid hcall; clear hcall
  clear h hb2
  go_enter Try.func23, Try.ntmps23
  go_wp2_with fail
  refine HC.out.mono ?_
  rintro e w1 ⟨rfl, b1⟩
  obtain ⟨hM, hR, n1, hb1⟩ := box2 b1
  obtain ⟨c0, c1, c2, f0, f1, f2⟩ := hM.three
  obtain ⟨r0, r1, r2, g0, g1, g2⟩ := hR.three
  have hF := ((hR.set_ 0 (.slice A bl.length c)).set_ 1 (.int .i64 most)).set_ 2 (.int .i64 fl)
  obtain ⟨q0, q1, q2, _⟩ := hF.three
  have HB1 := Lib.hid hb1; clear hb1
  clear b1 hM hR hF n1
  go_wp2_with fail
  refine bodyPost_ret (by simp [results, Try.results23, go_sem, q0, q1, q2]; rfl) rfl ?_
  exact ⟨rfl, below_set (below_set (below_set HB1.out (by omega)) (by omega)) (by omega)⟩

theorem grown_of_below {w w' : World} (hb : Below w.heap.size w w') : w.grownBy w' none := ⟨hb.os, hb.tape, hb.output, hb.size, fun k hk _ => hb.block k hk⟩

set_option maxHeartbeats 4000000 in
theorem refAlloc_room {w : World} {Y : Nat → Prop} {A : Option Addr} {vals : List Value} {bl : List (List Int)} (h : RowsAt w Y A vals bl) (c : Nat) (most fl : Int) (hlen : bl.length ≤ 4398046511103) (ht : tot bl ≤ 65536) {n : Nat} (h1 : 1 ≤ n) (h2 : n ≤ 256) (h3 : (tot bl : Int) + n ≤ most) :
    Calls Try.prog 23 #[.agg #[.slice A bl.length c, .int .i64 most, .int .i64 fl], .int .i64 n] w fun e w' => ∃ A' c' vals',
      e = .returned (.tuple #[.agg #[.slice A' (bl.length + 1) c', .int .i64 most, .int .i64 fl], .int .i64 ((bl.length : Int) + 1), .int .i64 0]) ∧ RowsAt w' (plus Y w w') A' vals' (bl ++ [List.replicate n 0]) ∧ Below w.heap.size w w' := by
  obtain ⟨i0, hi0, hz0, hz1, hz2⟩ := info_parts info42
  obtain ⟨i2, hi2, hy0, hy1, hy2⟩ := info_parts info2
  have hb2 := below2 (w := w) #[.slice A bl.length c, .int .i64 most, .int .i64 fl] #[.slice none 0 0, .int .i64 0, .int .i64 0]
  have hcall := refLive_any (h.below hb2) c most fl (by omega) ht
  have HC := Lib.hid hcall; clear hcall
  have H := Lib.hid h; clear h
  have HUS := Lib.hid (H.out.len)
  clear hb2
  go_enter Try.func23, Try.ntmps23
  go_wp2_with fail
  refine HC.out.mono ?_
  rintro e w1 ⟨rfl, b1⟩
  obtain ⟨hM, hR, n1, hb1⟩ := box2 b1
  obtain ⟨c0, c1, c2, f0, f1, f2⟩ := hM.three
  have hrel : CpRel w (w1.alloc (.cells #[] 42)) #[.slice A bl.length c, .int .i64 most, .int .i64 fl] vals (.slice (some ⟨w1.heap.size, 0, none⟩) 0 0) 0 :=
    ⟨(keepOf hb1 _).alloc _, hM.alloc _, hR.alloc _, World.ownsRow_made w1 #[] 0 (by omega) (by unfold maxLen; omega) rfl, by simp; omega⟩
  have HREL := Lib.hid hrel; clear hrel
  clear b1 hM hR n1 hb1
  go_wp2_with fail
  go_loopw [9, 10] (fun v k wr => ∃ j : Nat, j ≤ bl.length ∧ k = .int .i64 j ∧ CpRel w wr #[.slice A bl.length c, .int .i64 most, .int .i64 fl] vals v j) (fun _ k _ => bl.length - (intOf k).toNat)
  case atStart => exact ⟨0, by omega, rfl, HREL.out⟩
  case round =>
    clear HREL c0 c1 c2 f0 f1 f2
    obtain ⟨j, hj, rfl, hr⟩ := hrel
    obtain ⟨b0, b1, b2, g0, g1, g2⟩ := hr.box.three
    by_cases hjl : j < bl.length
    · obtain ⟨g, rfl, _, hlt, hc⟩ := H.out.row (by omega)
      obtain ⟨Aj, cj, hv, _⟩ := H.out.ints j hjl
      have hcell := hc j hjl
      rw [hv, ← World.cell?_of_block (a := ⟨g, j, none⟩) (hr.keep.block g hlt hlt)] at hcell
      clear hc
      have hown := hr.own
      have hsz := hr.size
      have HR := Lib.hid hr; clear hr
      have htk := take_snoc_val (us := vals) (j := j) (by rw [HUS.out]; exact hjl)
      rw [hv] at htk
      have HTK := Lib.hid htk; clear htk hv
      generalize (bl.getD j []).length = nj at hcell HTK
      go_wp2_with (at_builtin; refine wpList_append_own _ rfl _ _ 26 rfl (w.heap.size + 2) 42 i0 (.slice none 0 0) 1 24 Try.underlying26 hi0 hz0 hz1 hz2 rfl (by decide) _ _ _ rfl (hown.alloc _) ⟨wr.heap.size, 0, none⟩ 1 1 [.slice Aj nj cj] rfl rfl ?c1 ?c2 ?c3 ?c4 ?c5 ?_)
      case c1 => exact cell_one_new _ _ _
      case c2 => exact slices_oneCell _ _ _
      case c3 => unfold maxLen; omega
      case c4 => omega
      case c5 => simp; omega
      intro v' w' hown' hgrow _
      have HRN : Hid (CpRel w w' _ _ v' (j + 1)) := HR.out.grow (by rw [HTK.out]; exact hown') hgrow
      clear hown hown' hgrow
      go_wp2_with fail
      go_roundw
      case rel => exact ⟨j + 1, by omega, by go_num, HRN.out⟩
      case measure => simp [intOf]; omega
    · obtain rfl : j = bl.length := by omega
      have HR := Lib.hid hr
      have hsz := hr.size
      have hown0 : (wr.alloc (Obj.cells #[] 2)).ownsRow wr.heap.size 2 1 (.slice (some ⟨wr.heap.size, 0, none⟩) 0 0) 0 [] := World.ownsRow_made wr #[] 0 (Nat.le_refl _) (by unfold maxLen; omega) rfl
      have hb0 : Below wr.heap.size wr (wr.alloc (Obj.cells #[] 2)) := (Below.refl _ _).alloc (Nat.le_refl _) _
      have HO := Lib.hid hown0; clear hown0
      have HB := Lib.hid hb0; clear hb0
      clear hr
      go_wp2_with fail
      obtain ⟨wb, rfl⟩ : ∃ wb : World, wb = wr := ⟨_, rfl⟩
      clear b0 b1 b2 g0 g1 g2
      go_loopw [11, 12] (fun v i wq => ∃ k : Nat, k ≤ n ∧ i = .int .i64 k ∧ wq.ownsRow wb.heap.size 2 1 v k (List.replicate k (Value.int .i64 0)) ∧ Below wb.heap.size wb wq) (fun _ i _ => n - (intOf i).toNat)
      case atStart => exact ⟨0, by omega, rfl, HO.out, HB.out⟩
      case round =>
        clear HO HB
        obtain ⟨k, hk, rfl, hown, hb⟩ := hrel
        by_cases hkl : k < n
        · have HBQ := Lib.hid hb
          have hbs := hb.size
          clear hb
          go_wp2_with (at_builtin; refine wpList_append_own _ rfl _ _ 42 rfl wb.heap.size 2 i2 (.int .i64 0) 1 8 Try.underlying42 hi2 hy0 hy1 hy2 rfl (by decide) _ _ _ rfl (hown.alloc _) ⟨wr.heap.size, 0, none⟩ 1 1 [.int .i64 0] rfl rfl ?c1 ?c2 ?c3 ?c4 ?c5 ?_)
          case c1 => exact cell_one_new _ _ _
          case c2 => exact ints_oneCell .i64 [0]
          case c3 => unfold maxLen; omega
          case c4 => omega
          case c5 => simp; omega
          intro v' w' hown' hgrow _
          have HBN := Lib.hid ((HBQ.out.alloc hbs _).grown hgrow (by simp; omega) (fun g hg => (hown.lt g hg).1))
          have HOWN : Hid (w'.ownsRow wb.heap.size 2 1 v' (k + 1) (List.replicate (k + 1) (Value.int .i64 0))) := by
            rw [List.replicate_succ']; exact hown'
          clear hown hown' hgrow
          go_wp2_with fail
          go_roundw
          case rel => exact ⟨k + 1, by omega, by go_num, HOWN.out, HBN.out⟩
          case measure => simp [intOf]; omega
        · obtain rfl : k = n := by omega
          have hxs : (List.replicate k (Value.int .i64 0)) = (List.replicate k (0 : Int)).map (Value.int .i64) := by simp
          have hxl : (List.replicate k (0 : Int)).length = k := by simp
          have hints := own_ints (w := wr) (base := wb.heap.size) (v := u11) (xs := List.replicate k (0 : Int)) (Y := fun q => wb.heap.size ≤ q ∧ q < wr.heap.size) (by rw [hxl, ← hxs]; exact hown) (fun q h1 h2 => ⟨h1, h2⟩)
          obtain ⟨A2, c2', rfl, _, _⟩ := own_row hown
          have hownO := HR.out.own
          rw [List.take_of_length_le (Nat.le_of_eq HUS.out)] at hownO
          have hbl := fun g hg => hownO.lt g hg
          have hownR : wr.ownsRow (w.heap.size + 2) 42 1 u9 bl.length vals := hownO.kept (grown_of_below hb) (by cases u9.ownBlock <;> simp)
          have hbs := hb.size
          have HI := Lib.hid hints; clear hints
          have HB := Lib.hid hb; clear hb
          have HBL := Lib.hid hbl; clear hbl
          clear hownO hown hxs hxl
          go_wp2_with (at_builtin; refine wpList_append_own _ rfl _ _ 26 rfl (w.heap.size + 2) 42 i0 (.slice none 0 0) 1 24 Try.underlying26 hi0 hz0 hz1 hz2 rfl (by decide) _ _ _ rfl (hownR.alloc _) ⟨wr.heap.size, 0, none⟩ 1 1 [.slice A2 k c2'] rfl rfl ?c1 ?c2 ?c3 ?c4 ?c5 ?_)
          case c1 => exact cell_one_new _ _ _
          case c2 => exact slices_oneCell _ _ _
          case c3 => unfold maxLen; omega
          case c4 => omega
          case c5 => simp; omega
          intro v' w' hown' hgrow _
          have kG : Keep (fun q => q < w.heap.size + 2 ∨ (wb.heap.size ≤ q ∧ q < wr.heap.size)) wr w' := keep_grown hgrow (fun g hg hx => by
            have := HBL.out g hg
            rcases hx with hx | hx
            · omega
            · omega)
          have hl2 : (bl ++ [List.replicate k (0 : Int)]).length = bl.length + 1 := by simp
          have hvals := own_vals (bl := bl ++ [List.replicate k (0 : Int)]) (Y := fun q => (Y q ∧ q < w.heap.size) ∨ (w.heap.size + 2 ≤ q ∧ q < w'.heap.size)) (by rw [hl2]; exact hown') (fun q h1 h2 => .inr ⟨h1, h2⟩) (fun i hi => by
            rw [hl2] at hi
            by_cases hil : i < bl.length
            · have e1 : (vals ++ [Value.slice A2 k c2']).getD i undef = vals.getD i undef := by simp [List.getD_eq_getElem?_getD, List.getElem?_append_left (show i < vals.length by rw [HUS.out]; exact hil)]
              have e2 : (bl ++ [List.replicate k (0 : Int)]).getD i [] = bl.getD i [] := by simp [List.getD_eq_getElem?_getD, List.getElem?_append_left hil]
              rw [e1, e2]
              have kk : Keep (fun q => q < w.heap.size ∧ Y q) w w' := ((HR.out.keep.less (fun q hq => hq.1)).trans (keepOf HB.out _)).trans (kG.less (fun q hq => .inl (by omega)))
              exact (((H.out.ints i hil).fine.wide (Z := fun q => q < w.heap.size ∧ Y q) (fun q hq => ⟨hq.2, hq.1⟩)).keep kk (fun q hq => hq)).wide (fun q hq => .inl ⟨hq.2, hq.1⟩)
            · obtain rfl : i = bl.length := by omega
              have e1 : (vals ++ [Value.slice A2 k c2']).getD bl.length undef = .slice A2 k c2' := by rw [← HUS.out]; simp
              have e2 : (bl ++ [List.replicate k (0 : Int)]).getD bl.length [] = List.replicate k 0 := by simp
              rw [e1, e2]
              exact (HI.out.keep (Z := fun q => wb.heap.size ≤ q ∧ q < wr.heap.size) (kG.less (fun q hq => .inr hq)) (fun q hq => hq)).wide (fun q hq => .inr ⟨by omega, by have := kG.size; omega⟩))
          rw [hl2] at hvals
          obtain ⟨A3, c3, rfl, hrows⟩ := hvals
          have hM := (HR.out.box.below HB.out (by omega)).keep kG (.inl (by omega))
          have hR := (HR.out.res.below HB.out (by omega)).keep kG (.inl (by omega))
          obtain ⟨b0, b1, b2, g0, g1, g2⟩ := hM.three
          have hM2 := hM.set_ 0 (.slice A3 (bl.length + 1) c3)
          obtain ⟨d0, d1, d2, _⟩ := hM2.three
          have hR2 := hR.far (p := ⟨w.heap.size, 0, none⟩) (by simp) (.slice A3 (bl.length + 1) c3)
          obtain ⟨r0, r1, r2, k0, k1, k2⟩ := hR2.three
          have hF := ((hR2.set_ 0 (.slice A3 (bl.length + 1) c3)).set_ 1 (.int .i64 most)).set_ 2 (.int .i64 fl)
          obtain ⟨q0, q1, q2, _⟩ := hF.three
          have hbw : Below w.heap.size w w' := (HR.out.keep.toBelow (fun q hq => hq) (Nat.le_refl _)).trans ((HB.out.mono (by omega)).trans ((kG.less (Y := fun q => q < w.heap.size) (fun q hq => .inl (by omega))).toBelow (fun q hq => hq) (by omega)))
          have hsz' := kG.size
          have HROWS := Lib.hid hrows; clear hrows
          have HBW := Lib.hid hbw; clear hbw
          clear hown' hgrow kG hM hR hM2 hR2 hF hownR hl2
          go_wp2_with fail
          refine bodyPost_ret (by simp [results, Try.results23, go_sem, q0, q1, q2]; rfl) rfl ?_
          refine ⟨A3, c3, _, rfl, HROWS.out.keep (keep_set (keep_set (keep_set (keep_set (Keep.refl _ _) ?_) ?_) ?_) ?_) (fun q hq => hq) |>.wide (fun q hq => ?_), ?_⟩
          · omega
          · omega
          · omega
          · omega
          · rcases hq with hh | hh
            · exact .inl hh.1
            · exact .inr ⟨by omega, by simp [World.setCell]; exact hh.2⟩
          · exact below_set (below_set (below_set (below_set HBW.out (by omega)) (by omega)) (by omega)) (by omega)

end Go.Proofs.Ytbgbknbfleiakaa
