/-
  LockPlays, the walk. Conditions: the script's length.
-/
import Derived.Test.YtbfnadpkgiglmaaLk14
import Derived.Test.YtbfnadpkgiglmaaLk10
namespace Go.Proofs.Ytbfnadpkgiglmaa
open Go.RowKit Go.Maps
set_option linter.unusedVariables false
set_option linter.unusedSimpArgs false

structure PRel (w : World) (pa mb : Nat) (v : Value) (k : Nat) (wr : World) : Prop where
  at_ : ∃ L, LkAt wr pa mb L k ∧ RAt wr v L ∧ L.length ≤ k
  bel : Below w.heap.size w wr
theorem own_set {w : World} {base g n c : Nat} {L : List Int} (h : w.ownsRow base 3 1 (.slice (some ⟨g, 0, none⟩) n c) n (L.map (Value.int .i64))) {i : Nat} (x : Int) : (w.setCell ⟨g, i, none⟩ (.int .i64 x)).ownsRow base 3 1 (.slice (some ⟨g, 0, none⟩) n c) n ((L.set i x).map (Value.int .i64)) := by
  obtain ⟨h1, h2⟩ := h
  refine ⟨by simpa using h1, .inr ?_⟩
  rcases h2 with ⟨e, _⟩ | ⟨g', cap, cur, e, a1, a2, a3, a4, a5, a6⟩
  · injection e with e; cases e
  · injection e with e1 _ e2
    injection e1 with e1
    injection e1 with e1
    subst e1 e2
    refine ⟨g, c, _, rfl, a1, (show Blk w g 3 cur from a2).set_ i (.int .i64 x), a3, a4, by simpa using a5, ?_⟩
    rw [List.map_set, ← a6]
    simp only [Array.toList_setIfInBounds, List.take_set]
theorem own_cell {w : World} {base n c : Nat} {ar : Option Addr} {L : List Int} (h : w.ownsRow base 3 1 (.slice ar n c) n (L.map (Value.int .i64))) {i : Nat} (hi : i < n) : ∃ g x, ar = some ⟨g, 0, none⟩ ∧ base ≤ g ∧ g < w.heap.size ∧ w.cell? ⟨g, i, none⟩ = some (.int .i64 x) ∧ w.frozen? ⟨g, i, none⟩ = false ∧ ∃ cs, Blk w g 3 cs := by
  rcases h.2 with ⟨e, h0⟩ | ⟨g, cap, cur, e, a1, a2, a3, a4, a5, a6⟩
  · omega
  · injection e with e1 _ e2
    subst e1 e2
    have hb : Blk w g 3 cur := a2
    have hl : L.length = n := by have := h.1; simpa using this
    refine ⟨g, L.getD i 0, rfl, a1, hb.lt, ?_, hb.frozen i, cur, hb⟩
    obtain ⟨a', c', hv, hh⟩ := own_ints (xs := L) (u := .slice (some ⟨g, 0, none⟩) n c) (by rw [hl]; exact h)
    obtain ⟨b, off, e1, _, e2⟩ := hh i (by omega)
    injection hv with hv1
    rw [← hv1] at e1
    injection e1 with e1
    injection e1 with e3 e4
    subst e3 e4
    simpa using e2
/-- Nothing is written but numbers of a slice: mutexes stay, both the program's and the document's. -/
theorem LkAt.put {w : World} {pa mb : Nat} {L : LS} {c : Int} {g i : Nat} {cs : Array Value} (h : LkAt w pa mb L c) (hb : Blk w g 3 cs) (u : Value) : LkAt (w.setCell ⟨g, i, none⟩ u) pa mb L c := by
  obtain ⟨n1, n2⟩ := h.ne_blk hb (by decide)
  exact h.keep (X := fun k => k ≠ g) ((Keep.refl _ w).setCell (p := ⟨g, i, none⟩) (fun hh => hh rfl) u) n1.symm n2.symm
theorem RAt.put {w : World} {v : Value} {L : LS} {g i : Nat} {cs : Array Value} (h : RAt w v L) (hb : Blk w g 3 cs) (u : Value) : RAt (w.setCell ⟨g, i, none⟩ u) v L :=
  own_keep h (X := fun k => k ≠ g) ((Keep.refl _ w).setCell (p := ⟨g, i, none⟩) (fun hh => hh rfl) u) (fun g' cs' _ hb' => (hb.ne_ hb' (by decide)).symm)

set_option maxRecDepth 1000000 in
set_option maxHeartbeats 40000000 in
theorem plays_walk (a1 : Option Addr) (c1 len : Nat) (w : World) (hops : IsOps w a1 len) (hlen : len ≤ 5864062014805) :
    Calls Try.prog 3 #[.slice a1 len c1] w fun e w' => e = .returned (.bool true) ∧ Below w.heap.size w w' := by
  have HOPS := Lib.hid hops; clear hops
  go_enter Try.func3, Try.ntmps3
  go_wp2_with fail
  refine (new_any w).mono ?_
  rintro e w1 ⟨pa, mb, rfl, h, hpa, hmb, hb⟩
  have hz1 := hb.size
  have HB := Lib.hid hb; clear hb
  have HH := Lib.hid h; clear h
  go_wp2_with fail
  refine (alive_any w1).mono ?_
  rintro e w2 ⟨rfl, hb2⟩
  have hz2 := hb2.size
  have REL0 : Hid (PRel w pa mb (.slice (some ⟨w2.heap.size, 0, none⟩) 0 0) 0 (w2.alloc (Obj.cells #[] 35))) := Lib.hid ⟨⟨[], (HH.out.below hb2).alloc _, row_made w2 0 (Nat.zero_le _), by simp⟩, (HB.out.trans (hb2.mono hz1)).alloc (by omega) _⟩
  clear hb2 HB HH
  go_wp2_with fail
  go_loopw [4, 25] (fun v i wr => ∃ k : Nat, k ≤ len ∧ i = .int .i64 k ∧ PRel w pa mb v k wr) (fun _ i _ => len - (intOf i).toNat)
  case atStart => exact ⟨0, by omega, rfl, REL0.out⟩
  case round =>
    clear REL0
    obtain ⟨k, hk, rfl, hrel⟩ := hrel
    obtain ⟨L, hL, hR, hLk⟩ := hrel.at_
    have hbel := hrel.bel
    have hzr := hbel.size
    clear hrel
    by_cases hlt : k < len
    · obtain ⟨b, off, kd, om, ot, rfl, hb, d0, d1, d2, wm, wt⟩ := (HOPS.out.keep hbel) k hlt
      obtain ⟨av, cv, rfl, -⟩ := hR.open_
      have h1 := hL.alloc (.cells #[.int .i64 kd, .int .i64 om, .int .i64 ot] 29)
      have hbx := Blk.new wr 29 #[.int .i64 kd, .int .i64 om, .int .i64 ot]
      have hra := hR.below ((Below.refl _ _).alloc (Nat.le_refl _) (.cells #[.int .i64 kd, .int .i64 om, .int .i64 ot] 29))
      have hc := does_same h1 hra (by omega) (by omega) (by omega) kd om ot wm wt
      have hln := length_step L kd om ot
      have hll : L.length ≤ 5864062014804 := by omega
      generalize LS.step L kd om ot = L2 at *
      have HC := Lib.hid hc; clear hc
      have hkb : ∀ W, KeepL pa mb (wr.alloc (.cells #[.int .i64 kd, .int .i64 om, .int .i64 ot] 29)) W → Blk W wr.heap.size 29 #[.int .i64 kd, .int .i64 om, .int .i64 ot] := fun W hW => hbx.keep hW (h1.ne_blk hbx (by decide))
      have HKB := Lib.hid hkb; clear hkb
      have HBL : Hid (Below w.heap.size w (wr.alloc (.cells #[.int .i64 kd, .int .i64 om, .int .i64 ot] 29))) := Lib.hid (hbel.alloc hzr _)
      clear h1 hra hL hR hbel hbx
      go_wp2_with fail
      refine HC.out.mono ?_
      rintro e w4 ⟨v, rfl, hr4, h4, hk4⟩
      have hb4 := HKB.out w4 hk4
      have hbel4 := KeepL.bel HBL.out hk4 hpa hmb
      have hz4 := hk4.size
      simp at hz4
      obtain ⟨a4, c4, rfl, -⟩ := hr4.open_
      have how := owner_any h4 wm
      have e0 := hb4.cell 0
      have e1 := hb4.cell 1
      have e2 := hb4.cell 2
      simp at e0 e1 e2
      have HOW := Lib.hid how; clear how
      have HR4 := Lib.hid hr4; clear hr4
      have HH4 := Lib.hid h4; clear h4
      have HB4 := Lib.hid hb4; clear hb4
      have HBL4 := Lib.hid hbel4; clear hbel4
      clear hk4 HC HKB HBL
      unfold owV at HOW
      have hgV : Hid (getV L2 om = .tuple #[.agg #[.bool (LS.get L2 om).isSome, .int .i64 ((LS.get L2 om).getD zLk).ow, .int .i64 ((LS.get L2 om).getD zLk).ct], .bool (LS.get L2 om).isSome]) := Lib.hid (by
        cases hg : LS.get L2 om with
        | none => rw [getV_none hg]; rfl
        | some x =>
          rw [getV_some hg]
          obtain ⟨i, _, _, h5, h6⟩ := get_some hg
          have : x.is = true := by rw [← h6]; exact h5
          rw [this]; rfl)
      go_wp2_with fail
      refine HOW.out.mono ?_
      rintro e w5 ⟨rfl, hb5⟩
      have h5 := HH4.out.below hb5
      have hr5 := HR4.out.below hb5
      have hbx5 := HB4.out.below hb5 HB4.out.lt
      have hz5 := hb5.size
      have hbel5 := HBL4.out.trans (hb5.mono (by omega))
      obtain ⟨a5, c5, hv5, hrw5⟩ := hr5.open_
      injection hv5 with hv6 _ hv7
      subst hv6 hv7
      have hgt := rget_any (ca := c4) hrw5 (by omega) wm
      rw [hgV.out] at hgt
      have e1 := hbx5.cell 1
      simp at e1
      have HGT := Lib.hid hgt; clear hgt hrw5 hgV
      have HR5 := Lib.hid hr5; clear hr5
      have HH5 := Lib.hid h5; clear h5
      have HBX5 := Lib.hid hbx5; clear hbx5
      have HBL5 := Lib.hid hbel5; clear hbel5
      clear hb5 HOW HR4 HH4 HB4 HBL4
      generalize (LS.get L2 om).isSome = bi at *
      generalize ((LS.get L2 om).getD zLk).ow = ow at *
      generalize ((LS.get L2 om).getD zLk).ct = ct at *
      go_wp2_with fail
      refine HGT.out.mono ?_
      rintro e w6 ⟨rfl, hb6⟩
      have hz6 := hb6.size
      have hb6' := hb6.alloc hz6 (.cells #[.bool bi, .int .i64 ow, .int .i64 ct] 35)
      have h6 := HH5.out.below hb6'
      have hr6 := HR5.out.below hb6'
      have hbel6 := HBL5.out.trans (hb6'.mono (by omega))
      have hxb := Blk.new w6 35 #[.bool bi, .int .i64 ow, .int .i64 ct]
      have hall := all_any h6
      have HALL := Lib.hid hall; clear hall
      have HR6 := Lib.hid hr6; clear hr6
      have HH6 := Lib.hid h6; clear h6
      have HXB := Lib.hid hxb; clear hxb
      have HBL6 := Lib.hid hbel6; clear hbel6
      clear hb6 hb6' HGT HR5 HH5 HBX5 HBL5
      go_wp2_with fail
      refine HALL.out.mono ?_
      rintro e w7 ⟨va, rfl, hrow7, hb7⟩
      have h7 := HH6.out.below hb7
      have hr7 := HR6.out.below hb7
      have hxb7 := HXB.out.below hb7 HXB.out.lt
      have hz7 := hb7.size
      simp at hz7
      have hbel7 := HBL6.out.trans (hb7.mono (by simp; omega))
      have q1 := hxb7.cell 1
      have q2 := hxb7.cell 2
      simp at q1 q2
      obtain ⟨aa, ca, rfl, hia⟩ := own_ints hrow7
      obtain ⟨a7, c7, hv8, hrw7⟩ := hr7.open_
      injection hv8 with hv9 _ hv10
      subst hv9 hv10
      have hra7 := rall_any (ca := c4) hrw7 (by omega)
      have HRA7 := Lib.hid hra7; clear hra7 hrw7
      have HIA := Lib.hid hia; clear hia
      have HROW := Lib.hid hrow7; clear hrow7
      have HR7 := Lib.hid hr7; clear hr7
      have HH7 := Lib.hid h7; clear h7
      have HBL7 := Lib.hid hbel7; clear hbel7
      clear hb7 hxb7 HALL HR6 HH6 HXB HBL6
      have hx1 : (ow != ow) = false := by simp
      have hx2 : (ct != ct) = false := by simp
      go_wp2_with fail
      refine HRA7.out.mono ?_
      rintro e w8 ⟨vr, rfl, hrow8, hb8⟩
      obtain ⟨ar, cr, rfl, hir⟩ := own_ints hrow8
      have hal : (LS.all L2).length ≤ 2305843009213693952 := by
        have h1 := upto_len (LS.isAt L2) L2.length
        have h3 : (LS.all L2).length = (upto (LS.isAt L2) L2.length).length := rfl
        omega
      have hsm := same_any (c := ca) (c' := cr) (HIA.out.below hb8) hir hal
      have HSM := Lib.hid hsm; clear hsm hir hrow8
      have HROW8 := Lib.hid (own_below HROW.out hb8)
      have HR8 := Lib.hid (HR7.out.below hb8)
      have HH8 := Lib.hid (HH7.out.below hb8)
      have HBL8 := Lib.hid (HBL7.out.trans (hb8.mono (by omega)))
      have hz8 := hb8.size
      clear hb8 HRA7 HIA HROW HR7 HH7 HBL7
      go_wp2_with fail
      refine HSM.out.mono ?_
      rintro e w9 ⟨rfl, q, rfl⟩
      clear HSM
      generalize (LS.all L2) = A at *
      have hz9 : w.heap.size ≤ (w8.drewN q).heap.size := by show w.heap.size ≤ w8.heap.size; omega
      have REL1 : Hid ((∃ X : List Int, (w8.drewN q).ownsRow (w6.heap.size + 1) 3 1 (.slice aa A.length ca) A.length (X.map (Value.int .i64))) ∧ LkAt (w8.drewN q) pa mb L2 (k + 1) ∧ RAt (w8.drewN q) (.slice a4 L2.length c4) L2 ∧ Below w.heap.size w (w8.drewN q)) := Lib.hid ⟨⟨A, by have h8 := HROW8.out; rw [World.size_alloc] at h8; exact h8⟩, HH8.out.keep (X := fun _ => True) ((Keep.refl _ _).drewN q) trivial trivial, HR8.out, HBL8.out.trans ⟨rfl, rfl, rfl, Nat.le_refl _, fun _ _ => rfl⟩⟩
      clear HROW8 HR8 HH8 HBL8
      go_wp2_with fail
      have hB6 : w.heap.size ≤ w6.heap.size + 1 := by omega
      generalize w8.drewN q = w9 at *
      generalize w6.heap.size + 1 = B6 at *
      go_loopw [76] (fun i wr => ∃ j : Nat, j ≤ A.length ∧ i = .int .i64 j ∧ (∃ X : List Int, wr.ownsRow B6 3 1 (.slice aa A.length ca) A.length (X.map (Value.int .i64))) ∧ LkAt wr pa mb L2 (k + 1) ∧ RAt wr (.slice a4 L2.length c4) L2 ∧ Below w.heap.size w wr) (fun i _ => A.length - (intOf i).toNat)
      case atStart => exact ⟨0, by omega, rfl, REL1.out⟩
      case round =>
        clear REL1
        obtain ⟨j, hj, rfl, ⟨X, hrow⟩, hla, hra, hbl⟩ := hrel
        have hzq := hbl.size
        by_cases hlj : j < A.length
        · obtain ⟨g, y, rfl, hbg, hg, hcell, hfz, cs, hblk⟩ := own_cell hrow hlj
          have HF : Hid ((∃ X : List Int, (wr.setCell ⟨g, j, none⟩ (.int .i64 (-1))).ownsRow B6 3 1 (.slice (some ⟨g, 0, none⟩) A.length ca) A.length (X.map (Value.int .i64))) ∧ LkAt (wr.setCell ⟨g, j, none⟩ (.int .i64 (-1))) pa mb L2 (k + 1) ∧ RAt (wr.setCell ⟨g, j, none⟩ (.int .i64 (-1))) (.slice a4 L2.length c4) L2 ∧ Below w.heap.size w (wr.setCell ⟨g, j, none⟩ (.int .i64 (-1)))) := Lib.hid ⟨⟨_, own_set hrow (-1)⟩, hla.put hblk _, hra.put hblk _, hbl.setCell (by show w.heap.size ≤ g; omega) _⟩
          clear hrow hla hra hbl hblk
          go_wp2_with fail
          go_roundw
          case rel => exact ⟨j + 1, by omega, by go_num, HF.out⟩
          case measure => simp [intOf]; omega
        · have HF : Hid (PRel w pa mb (.slice a4 L2.length c4) (k + 1) wr) := Lib.hid ⟨⟨L2, hla.mono (by omega), hra, by omega⟩, hbl⟩
          clear hrow hla hra hbl
          go_wp2_with fail
          go_roundw
          case rel => exact ⟨k + 1, by omega, by go_num, HF.out⟩
          case measure => simp [intOf]; omega
    · have HB := Lib.hid hbel; clear hbel hL hR
      go_wp2
      go_ret
      exact ⟨rfl, HB.out⟩
end Go.Proofs.Ytbfnadpkgiglmaa
