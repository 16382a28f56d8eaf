/-
  Package ops: Add. No condition.
-/
import Derived.Test.YtbjnbfoedicelaaDoorOp5
import Derived.Test.YtbjnbfoedicelaaDoorOp6
namespace Go.Proofs.YtbjnbfoedicelaaDoor
open Go.RowKit Go.Maps
set_option linter.unusedVariables false
set_option linter.unusedSimpArgs false

section
variable {w : World}
set_option maxRecDepth 100000 in
set_option maxHeartbeats 4000000 in
theorem add_any {pb mb : Nat} {T : Tab} {o : Opv} (h : TabAt w pb mb T) (hl : T.length ≤ 200) (ho : Fits o) :
    Calls Tryd.prog 10 #[.pointer (some ⟨pb, 0, none⟩), opVal o] w fun e w' => e = .returned (.int .i64 (checkV T o)) ∧ TabAt w' pb mb (addT T o) ∧ Keep (· ≠ mb) w w' := by
  have hlt := h.head.lt
  have hne : w.heap.size ≠ mb := by have := h.map.lt; omega
  have K0 := Lib.hid ((Keep.refl (fun _ => True) w).alloc (.cells #[.string (str o.nm), .int .i64 o.ty, .int .i64 o.pr] 27))
  have hch : Calls Tryd.prog 24 #[.pointer (some ⟨pb, 0, none⟩), .agg #[.string (str o.nm), .int .i64 o.ty, .int .i64 o.pr]] (w.alloc (.cells #[.string (str o.nm), .int .i64 o.ty, .int .i64 o.pr] 27)) fun e w1 =>
      e = .returned (.int .i64 (checkV T o)) ∧ Hid (Keep (fun _ => True) w w1) ∧ Hid (Blk w1 w.heap.size 27 #[.string (str o.nm), .int .i64 o.ty, .int .i64 o.pr]) := by
    refine (check_any (h.keep K0.out trivial trivial) hl ho).mono ?_
    rintro e w1 ⟨he, k1⟩
    exact ⟨he, Lib.hid (K0.out.trans k1), Lib.hid ((Blk.new w 27 #[.string (str o.nm), .int .i64 o.ty, .int .i64 o.pr]).keep k1 trivial)⟩
  have HCH := Lib.hid hch; clear hch
  by_cases hc : checkV T o = 0
  · have hg := good_of_check hc
    unfold addT
    rw [if_pos hc]
    rw [hc] at HCH ⊢
    by_cases hp : o.pr = 0
    · rw [if_pos hp]
      have hpz : ((o.pr : Int) == 0) = true := by simpa using hp
      have hko : ∀ W w1, Keep (fun _ => True) w w1 → Blk w1 w.heap.size 27 #[.string (str o.nm), .int .i64 o.ty, .int .i64 o.pr] → Keep (fun _ => True) w1 W → Calls Tryd.prog 25 #[.agg #[.string (str o.nm), .int .i64 o.ty, .int .i64 o.pr]] W fun e w1 =>
          e = .returned (.agg #[.string (str o.nm), .bool (isPre o.ty)]) ∧ w1.cell? ⟨pb, 0, none⟩ = some (.map (some mb)) ∧
          ∃ w2, (∀ ty, (Builtin.delete_ #[42, 56] ty #[.map (some mb), .agg #[.string (str o.nm), .bool (isPre o.ty)]]).run Tryd.prog w1 = .ok (.tuple #[]) w2) ∧
            Hid (TabAt w2 pb mb (drop T o.nm (isPre o.ty))) ∧ Hid (Keep (· ≠ mb) w w2) := by
        intro W w1 hk1 hb1 hW
        refine (keyOf_any o W).mono ?_
        rintro e w2 ⟨he, k2⟩
        have k3 := (hk1.trans hW).trans k2
        have t1 := h.keep k3 trivial trivial
        have c1 := t1.head.cell 0
        obtain ⟨w3, hr, ht, hk⟩ := t1.del (w' := w2) ho.nm (isPre o.ty) 0
        refine ⟨he, by simpa using c1, w3, fun ty => ?_, Lib.hid ht, Lib.hid ((k3.less (fun _ _ => trivial)).trans hk)⟩
        simpa [Builtin.delete_, kvl] using hr
      have HKO := Lib.hid hko; clear hko
      have HH := Lib.hid (fun W (hk : Keep (fun _ => True) w W) => (h.keep hk trivial trivial).head.cell 0)
      clear h hc hg hp ho hl
      unfold opVal
      generalize isPre o.ty = p at HKO ⊢
      generalize o.nm = nm at HKO HCH K0 ⊢
      generalize hs : str nm = s at HKO HCH K0 ⊢
      generalize o.ty = t at HKO HCH K0 ⊢
      generalize o.pr = r at HKO HCH K0 hpz ⊢
      clear hs
      go_enter Tryd.func10, Tryd.ntmps10
      go_wp2_with (go_at_call 24; refine HCH.out.mono ?_; rintro e w1 ⟨rfl, k1, b1⟩; have y0 := b1.out.cell 0; have y1 := b1.out.cell 1; have y2 := b1.out.cell 2; have yc := HH.out _ k1.out; simp at y0 y1 y2 yc)
      have KR := Lib.hid (Keep.refl (fun _ => True) w1)
      go_region_with (go_at_call 25; refine (HKO.out _ _ k1.out b1.out (by repeat (first | with_reducible exact KR.out | with_reducible refine Keep.drew ?_))).mono ?_; rintro e w2 ⟨rfl, c1, w3, hr, ht, hk⟩; have hr0 := hr 0; clear hr)
      all_goals go_wp2_with fail
      all_goals go_ret
      all_goals exact ⟨rfl, ht.out, hk.out⟩
    · rw [if_neg hp]
      have hpz : ((o.pr : Int) == 0) = false := by simpa using hp
      have HPUT := Lib.hid (fun W (hk : Keep (fun _ => True) w W) => put_any (h.keep hk trivial trivial) hl ho (by omega))
      have HCL := Lib.hid (fun W => sclone_any (str o.nm) W (by rw [str_size]; omega))
      clear h hc hg hp ho hl
      unfold opVal at *
      generalize put T o = T2 at *
      generalize o.nm = nm at HPUT HCL HCH K0 ⊢
      generalize hs : str nm = s at HPUT HCL HCH K0 ⊢
      generalize o.ty = t at HPUT HCH K0 ⊢
      generalize o.pr = r at HPUT HCH K0 hpz ⊢
      clear hs
      go_enter Tryd.func10, Tryd.ntmps10
      go_wp2_with (go_at_call 24; refine HCH.out.mono ?_; rintro e w1 ⟨rfl, k1, b1⟩; have y0 := b1.out.cell 0; have y1 := b1.out.cell 1; have y2 := b1.out.cell 2; simp at y0 y1 y2)
      refine (HCL.out _).mono ?_
      rintro e w2 ⟨rfl, hb2⟩
      have b2 := Lib.hid (b1.out.below hb2 b1.out.lt)
      have k2 := Lib.hid (k1.out.trans (Keep.ofBelow (X := (· < w1.heap.size)) hb2 (fun _ hk => hk)).all)
      have b3 := Lib.hid (b2.out.set_ 0 (.string s))
      have z0 := b2.out.cell 0
      have f0 := b2.out.frozen 0
      have y3 := b3.out.cell 0; have y4 := b3.out.cell 1; have y5 := b3.out.cell 2
      simp at z0 y3 y4 y5
      have k3 := Lib.hid (((k2.out.less (Y := (· < w.heap.size)) (fun _ _ => trivial)).setCell (p := ⟨w.heap.size, 0, none⟩) (by simp) (.string s)).all (Y := fun _ => True))
      clear hb2 y0 y1 y2
      go_wp2_with fail
      refine (HPUT.out _ k3.out).mono ?_
      rintro e w4 ⟨rfl, t4, k4⟩
      have T4 := Lib.hid t4; clear t4
      have K4 := Lib.hid k4; clear k4
      go_wp2_with fail
      go_ret
      exact ⟨rfl, T4.out, (k3.out.less (fun _ _ => trivial)).trans K4.out⟩
  · have hcz : ((checkV T o : Int) == 0) = false := by simpa using hc
    unfold addT
    rw [if_neg hc]
    have HT := Lib.hid h; clear h
    unfold opVal
    generalize checkV T o = cv at HCH hcz ⊢
    clear ho hc hl
    generalize hs : str o.nm = s at HCH K0 ⊢
    generalize ht : o.ty = t at HCH K0 ⊢
    generalize hr : o.pr = r at HCH K0 ⊢
    clear hs ht hr
    go_enter Tryd.func10, Tryd.ntmps10
    go_wp2_with (go_at_call 24; refine HCH.out.mono ?_; rintro e w1 ⟨rfl, k1, b1⟩)
    go_ret
    exact ⟨rfl, HT.out.keep k1.out trivial trivial, k1.out.less (fun _ _ => trivial)⟩
end
end Go.Proofs.YtbjnbfoedicelaaDoor
