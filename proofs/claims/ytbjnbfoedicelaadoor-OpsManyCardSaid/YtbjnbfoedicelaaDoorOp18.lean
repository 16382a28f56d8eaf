/-
  Package ops: Clone; the layer's example. No condition but what the two package-level variables hold.
-/
import Derived.Test.YtbjnbfoedicelaaDoorOp17
import Derived.Test.YtbjnbfoedicelaaDoorOp14
import Derived.Test.YtbjnbfoedicelaaDoorOp8
import Derived.Test.YtbjnbfoedicelaaDoorOp7
namespace Go.Proofs.YtbjnbfoedicelaaDoor
open Go.RowKit Go.Shelf Go.Maps
set_option linter.unusedVariables false
set_option linter.unusedSimpArgs false

set_option maxHeartbeats 2000000 in
theorem mclone_any {w : World} {mb : Nat} {T : Tab} (h : MapOf w mb T) : Calls Tryd.prog 27 #[.map (some mb)] w fun e w' =>
    e = .returned (.map (some w.heap.size)) ∧ MapOf w' w.heap.size T ∧ Keep (fun _ => True) w w' ∧ w.heap.size < w'.heap.size := by
  obtain ⟨D, own, hs, hat, hky⟩ := h.own
  refine (AnyW.maps_Clone_owns Tryd.cloneOp 56 opElem mb (Maps.size D) D w own).mono ?_
  rintro e w' ⟨he, h1, h2, hb⟩
  exact ⟨he, ⟨⟨D, h1, hs, hat, hky⟩, h.apart, h.fits⟩, (Keep.ofBelow (X := (· < w.heap.size)) hb (fun _ h => h)).all, h1.lt⟩
set_option maxHeartbeats 2000000 in
theorem clone_any' {w : World} {pb mb : Nat} {T : Tab} (h : TabAt w pb mb T) : Calls Tryd.prog 11 #[.pointer (some ⟨pb, 0, none⟩)] w fun e w' =>
    ∃ pc mc, e = .returned (.pointer (some ⟨pc, 0, none⟩)) ∧ TabAt w' pc mc T ∧ w.heap.size ≤ pc ∧ w.heap.size ≤ mc ∧ Keep (fun _ => True) w w' := by
  have hh := h.head.cell 0
  simp at hh
  have hc := mclone_any h.map
  have HC := Lib.hid hc; clear hc h
  go_enter Tryd.func11, Tryd.ntmps11
  go_wp2_with (go_at_call 27; refine HC.out.mono ?_; rintro e w1 ⟨rfl, hm, hk, hl⟩; have HM := Lib.hid hm; clear hm; have HK := Lib.hid hk; clear hk; have HL := Lib.hid hl; clear hl)
  go_ret
  exact ⟨w1.heap.size, w.heap.size, rfl, ⟨Blk.new w1 _ _, HM.out.keep ((Keep.refl (fun _ => True) w1).alloc _) trivial⟩, Nat.le_of_lt HL.out, Nat.le_refl _, HK.out.alloc _⟩

def foo1 : Opv := ⟨[102, 111, 111], 6, 100⟩
def foo2 : Opv := ⟨[102, 111, 111], 1, 200⟩
theorem al1 : find tab0 [45] true = some ⟨[45], 4, 200⟩ := by decide +kernel
theorem al2 : find tab0 [45] false = some ⟨[45], 3, 500⟩ := by decide +kernel
theorem al3 : checkV tab0 foo1 = 0 := by decide +kernel
theorem al4 : checkV (addT tab0 foo1) foo2 = 90 := by decide +kernel
theorem al5 : (addT (addT tab0 foo1) foo2).length ≤ 200 ∧ 30 < (addT (addT tab0 foo1) foo2).length ∧ tab0.length ≤ 200 ∧ (addT tab0 foo1).length ≤ 200 := by decide +kernel
theorem al6 : sidesV 3 500 = (500, 499) := by decide +kernel
theorem fits_foo1 : Fits foo1 := ⟨by simp only [foo1]; unfold maxLen; decide, by decide, by decide⟩
theorem fits_foo2 : Fits foo2 := ⟨by simp only [foo2]; unfold maxLen; decide, by decide, by decide⟩
set_option maxRecDepth 100000 in
set_option maxHeartbeats 8000000 in
theorem alive_any (w : World) (hv : VarsOk w) : Calls Tryd.prog 8 #[] w fun e w' => e = .returned (.bool true) ∧ Below w.heap.size w w' := by
  have HNEW := Lib.hid (new_any w hv)
  clear hv
  have strd : (⟨#[45]⟩ : ByteArray) = str [45] := rfl
  go_enter Tryd.func8, Tryd.ntmps8
  go_wp2_with (go_at_call 7; refine HNEW.out.mono ?_; rintro e w1 ⟨pb, mb, rfl, ht, hlp, hlm, hb⟩; have HT := Lib.hid ht; clear ht; have HB := Lib.hid hb; clear hb)
  have hp := prefix_any (nm := [45]) HT.out (by unfold maxLen; decide)
  unfold fndV at hp
  rw [al1] at hp
  refine hp.mono ?_
  rintro e w2 ⟨rfl, hk2⟩
  have HT2 := Lib.hid (HT.out.keep hk2 trivial trivial)
  have HB2 := Lib.hid (HB.out.trans (hk2.toBelow (fun _ _ => trivial) HB.out.size))
  clear hk2 hp
  simp only [Option.getD, Option.isSome, opVal]
  go_wp2_with fail
  have hmlt : mb < w2.heap.size := HT2.out.map.lt
  have hA0 := Blk.new w2 27 #[.string (str [45]), .int .i64 4, .int .i64 200]
  have ha := after_any (nm := [45]) (HT2.out.keep ((Keep.refl (fun _ => True) w2).alloc (.cells #[.string (str [45]), .int .i64 4, .int .i64 200] 27)) trivial trivial) (by unfold maxLen; decide)
  unfold fndV at ha
  rw [al2] at ha
  refine ha.mono ?_
  rintro e w3 ⟨rfl, hk3⟩
  have hks3 := ((Keep.refl (fun _ => True) w2).alloc (.cells #[.string (str [45]), .int .i64 4, .int .i64 200] 27)).trans hk3
  have HT3 := Lib.hid (HT2.out.keep hks3 trivial trivial)
  have HB3 := Lib.hid (HB2.out.trans (hks3.toBelow (fun _ _ => trivial) HB2.out.size))
  have HA3 := Lib.hid (hA0.keep hk3 trivial)
  have hAlt : w2.heap.size < w3.heap.size := HA3.out.lt
  clear hk3 ha hks3 hA0
  simp only [Option.getD, Option.isSome, opVal]
  go_wp2_with fail
  have hB0 := Blk.new w3 27 #[.string (str [45]), .int .i64 3, .int .i64 500]
  have hs := sides_any ⟨[45], 3, 500⟩ (w3.alloc (.cells #[.string (str [45]), .int .i64 3, .int .i64 500] 27)) (by decide)
  simp only at hs
  rw [al6] at hs
  refine hs.mono ?_
  rintro e w4 ⟨rfl, hk4⟩
  have hks4 := ((Keep.refl (fun _ => True) w3).alloc (.cells #[.string (str [45]), .int .i64 3, .int .i64 500] 27)).trans hk4
  have HT4 := Lib.hid (HT3.out.keep hks4 trivial trivial)
  have HB4 := Lib.hid (HB3.out.trans (hks4.toBelow (fun _ _ => trivial) HB3.out.size))
  have HA4 := Lib.hid (HA3.out.keep hks4 trivial)
  have HC4 := Lib.hid (hB0.keep hk4 trivial)
  clear hk4 hs hks4 hB0
  go_wp2_with fail
  have hd5 := add_any HT4.out al5.2.2.1 fits_foo1
  rw [al3] at hd5
  refine hd5.mono ?_
  rintro e w5 ⟨rfl, ht5, hk5⟩
  have HT5 := Lib.hid ht5
  have HB5 := Lib.hid (HB4.out.trans (hk5.toBelow (fun k hk => by omega) HB4.out.size))
  have HA5 := Lib.hid (HA4.out.keep hk5 (by omega))
  have HC5 := Lib.hid (HC4.out.keep hk5 (by omega))
  clear hk5 hd5 ht5
  go_wp2_with fail
  have hd6 := add_any HT5.out al5.2.2.2 fits_foo2
  rw [al4] at hd6
  refine hd6.mono ?_
  rintro e w6 ⟨rfl, ht6, hk6⟩
  have HT6 := Lib.hid ht6
  have HB6 := Lib.hid (HB5.out.trans (hk6.toBelow (fun k hk => by omega) HB5.out.size))
  have HA6 := Lib.hid (HA5.out.keep hk6 (by omega))
  have HC6 := Lib.hid (HC5.out.keep hk6 (by omega))
  clear hk6 hd6 ht6
  go_wp2_with fail
  refine (clone_any' HT6.out).mono ?_
  rintro e w7 ⟨pc, mc, rfl, hc7, hl7, hl7', hk7⟩
  have HT7 := Lib.hid (HT6.out.keep hk7 trivial trivial)
  have HCL7 := Lib.hid hc7
  have HB7 := Lib.hid (HB6.out.trans (hk7.toBelow (fun _ _ => trivial) HB6.out.size))
  have a1 := (HA6.out.keep hk7 trivial).cell 1
  have b2 := (HC6.out.keep hk7 trivial).cell 2
  simp at a1 b2
  clear hk7 hc7 hl7 hl7'
  go_wp2_with fail
  refine (all_any HCL7.out al5.1).mono ?_
  rintro e w8 ⟨v8, rfl, ⟨x8, c8, hv8, _⟩, hk8⟩
  subst hv8
  have HT8 := Lib.hid (HT7.out.keep hk8 trivial trivial)
  have HB8 := Lib.hid (HB7.out.trans (hk8.toBelow (fun _ _ => trivial) HB7.out.size))
  clear hk8
  rw [allT_length]
  go_wp2_with fail
  refine (all_any HT8.out al5.1).mono ?_
  rintro e w9 ⟨v9, rfl, ⟨x9, c9, hv9, _⟩, hk9⟩
  subst hv9
  have HT9 := Lib.hid (HT8.out.keep hk9 trivial trivial)
  have HB9 := Lib.hid (HB8.out.trans (hk9.toBelow (fun _ _ => trivial) HB8.out.size))
  clear hk9
  rw [allT_length]
  go_wp2_with fail
  refine (all_any HT9.out al5.1).mono ?_
  rintro e w10 ⟨v10, rfl, ⟨x10, c10, hv10, _⟩, hk10⟩
  subst hv10
  have HB10 := Lib.hid (HB9.out.trans (hk10.toBelow (fun _ _ => trivial) HB9.out.size))
  clear hk10
  rw [allT_length]
  have h30 : (30 : Int) < ((addT (addT tab0 foo1) foo2).length : Int) := by have := al5.2.1; omega
  generalize (addT (addT tab0 foo1) foo2).length = N at *
  go_wp2_with fail
  go_ret
  exact ⟨rfl, HB10.out⟩
end Go.Proofs.YtbjnbfoedicelaaDoor
