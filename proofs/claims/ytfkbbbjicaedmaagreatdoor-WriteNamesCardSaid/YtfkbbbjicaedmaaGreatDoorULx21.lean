/-
  Package lex: a number that is told by a byte. Conditions: a lexer in memory.
-/
import Derived.Test.YtfkbbbjicaedmaaGreatDoorULx19
namespace Go.Proofs.YtfkbbbjicaedmaaGreatDoor
open Go.RowKit Go.Shelf Go.Maps
set_option linter.unusedVariables false
set_option linter.unusedSimpArgs false
theorem Keep.beyond {w w1 w2 : World} {p r : Nat} (hk : Keep (· ≠ p) w w1) (hs : Keep (· ≠ r) w1 w2) (hr : w.heap.size ≤ r) : Keep (· ≠ p) w w2 :=
  ⟨hs.os.trans hk.os, hs.tape.trans hk.tape, hs.output.trans hk.output, Nat.le_trans hk.size hs.size, fun k hk' hX => (hs.block k (Nat.lt_of_lt_of_le hk' hk.size) (by omega)).trans (hk.block k hk' hX)⟩
theorem TokFacts.bad {w w1 w2 : World} {p r : Nat} {L : List UInt8} {fr b c q : Nat} (hF : FaultAt w1 b c q) (hb : w.heap.size ≤ b) (hbr : b ≠ r) (hk : Keep (· ≠ p) w w1) (hs : Keep (· ≠ r) w1 w2) (hr : w.heap.size ≤ r) : TokFacts w p L fr noTk (faultV b) w2 (.bad c q) :=
  ⟨rfl, b, rfl, Blk.keep hF hs hbr, hb, hk.beyond hs hr⟩
theorem charL_eq (a : Nat) (L : List UInt8) : charL a (L.drop a) = match inQ (L.drop (a + 2)) with
  | .byte c k => .good ⟨3, (L.drop a).take (2 + k), c.toNat, false⟩ (a + (2 + k)) ((L.drop a).drop (2 + k))
  | .close => if (L.drop a).length = 3 then .bad 81 a else .bad 80 (a + 2)
  | .over => .bad 81 a
  | .bad e => .bad e (a + 2) := by
  unfold charL
  rw [List.drop_drop]
  cases inQ (L.drop (a + 2)) <;> rfl
set_option maxRecDepth 1000000 in
set_option maxHeartbeats 8000000 in
theorem char_any {w : World} {p : Nat} {L : List UInt8} {a : Nat} (h : LxAt w p L a a) (hl2 : a + 2 ≤ L.length) : Calls Tryz.prog 97 #[.pointer (some ⟨p, 0, none⟩)] w
    (TokPost w p L a (charL a (L.drop a))) := by
  have hp := h.blk.lt
  have c2 := h.c2
  have dz := h.blk.frozen 2
  have hlen := h.len
  have h0 : LxAt (w.setCell ⟨p, 2, none⟩ (.int .i64 ((a : Int) + 2))) p L a (a + 2) := h.to' (by omega) (by omega)
  have hk0 := (Keep.refl (· ≠ p) w).setCell (p := ⟨p, 2, none⟩) (by simp) (.int .i64 ((a : Int) + 2))
  have hsz : (w.setCell ⟨p, 2, none⟩ (.int .i64 ((a : Int) + 2))).heap.size = w.heap.size := by simp [World.setCell]
  have h2 := h0.keep ((Keep.refl (fun _ => True) _).alloc (.cells zCells 75)) trivial
  have hk2 := hk0.alloc (.cells zCells 75)
  have hb2 := Blk.new (w.setCell ⟨p, 2, none⟩ (.int .i64 ((a : Int) + 2))) 75 zCells
  rw [hsz] at hb2
  have hiq := inQuotes_any h2
  rw [charL_eq]
  have hws : ((w.setCell ⟨p, 2, none⟩ (.int .i64 ((a : Int) + 2))).alloc (.cells zCells 75)).heap.size = w.heap.size + 1 := by simp [World.setCell]
  have HWS := Lib.hid hws
  have HB := Lib.hid hb2
  have HK := Lib.hid hk2
  clear h h0 hk0 h2 hk2 hb2 hsz hws
  rcases hx : inQ (L.drop (a + 2)) with ⟨c, k⟩ | _ | _ | code
  · rw [hx] at hiq
    have HIQ := Lib.hid hiq
    clear hiq hx
    go_enter Tryz.func97, Tryz.ntmps97
    go_wp2_with fail
    refine HIQ.out.mono ?_
    rintro e w1 ⟨rfl, hl1, hk1⟩
    have HL1 := Lib.hid hl1
    have HK1 := Lib.hid (HK.out.trans hk1)
    have HB1 := Lib.hid (HB.out.keep hk1 (by omega))
    have hc0 : (0 : Int) ≤ (c.toNat : Int) := by omega
    have hc1 : (c.toNat : Int) < 256 := by have := c.toNat_lt; omega
    have hr := read_any hl1 (by omega)
    rw [show a + 2 + k - a = 2 + k by omega] at hr
    have HR := Lib.hid hr
    obtain ⟨n, hn⟩ : ∃ n : Int, n = (c.toNat : Int) := ⟨_, rfl⟩
    have HN := Lib.hid hn
    unfold byteV
    rw [← hn] at hc0 hc1 ⊢
    clear hl1 hk1 hr hn HIQ c2 dz
    go_wp2_with fail
    refine HR.out.mono ?_
    rintro e w2 ⟨rfl, hk2⟩
    have hb := HB1.out.keep hk2 trivial
    have HL2 := Lib.hid (HL1.out.keep hk2 trivial)
    have HK2 := Lib.hid (HK1.out.trans (hk2.less (Y := (· ≠ p)) (fun _ _ => trivial)))
    clear hk2
    obtain ⟨t1, ht1⟩ : ∃ t1, str ((L.drop a).take (2 + k)) = t1 := ⟨_, rfl⟩
    rw [ht1]
    have HT := Lib.hid ht1
    clear ht1 HR
    obtain ⟨b0, b1, b2, b3, b4, b5, z0, z1, z2, z3, z4, z5, hltb⟩ := hb.six
    simp only [zCells, List.getElem?_toArray, List.getElem?_cons_zero, List.getElem?_cons_succ] at b0 b1 b2 b3 b4 b5
    have Q := Lib.hid (hb.set6 (.int .i64 3) (.string t1) (.int .i64 n) (.int .i64 0) (.bool false) (.bool false))
    have HS := Lib.hid (keep6 w2 w.heap.size (.int .i64 3) (.string t1) (.int .i64 n) (.int .i64 0) (.bool false) (.bool false))
    clear hb
    go_wp2_with fail
    obtain ⟨q0, q1, q2, q3, q4, q5, _⟩ := Q.out
    simp at q0 q1 q2 q3 q4 q5
    refine bodyPost_ret (v := .tuple #[.agg #[.int .i64 3, .string t1, .int .i64 n, .int .i64 0, .bool false, .bool false], .nilIface]) (by simp [results, Tryz.results97, go_sem, faultV, q0, q1, q2, q3, q4, q5]) rfl ?_
    refine ⟨_, _, rfl, ?_, rfl, ?_, ?_, HK2.out.beyond HS.out (Nat.le_refl _)⟩
    · rw [← HT.out, HN.out]; rfl
    · rw [List.drop_drop]
    · have := HL2.out.keep HS.out (by omega); rwa [Nat.add_assoc] at this
  · rw [hx] at hiq
    have HIQ := Lib.hid hiq
    clear hiq
    have hl3 : a + 3 ≤ L.length := by
      rcases hd : L.drop (a + 2) with _ | ⟨d, r⟩
      · rw [hd] at hx; cases hx
      · have := congrArg List.length hd
        simp at this; omega
    have hlen3 : ((L.drop a).length = 3) ↔ a + 3 = L.length := by rw [List.length_drop]; omega
    dsimp only
    rw [show (if (L.drop a).length = 3 then R.bad 81 a else R.bad 80 (a + 2) : R Tk) = if a + 3 = L.length then R.bad 81 a else R.bad 80 (a + 2) by simp only [hlen3]]
    clear hx hlen3
    by_cases hov3 : a + 3 = L.length
    · rw [if_pos hov3]
      go_enter Tryz.func97, Tryz.ntmps97
      go_wp2_with fail
      refine HIQ.out.mono ?_
      rintro e w1 ⟨rfl, hl1, hk1⟩
      have HL1 := Lib.hid hl1
      have HK1 := Lib.hid (HK.out.trans hk1)
      have HB1 := Lib.hid (HB.out.keep hk1 (by omega))
      have hov := isOver_q hl1
      rw [decide_eq_true (by omega)] at hov
      have HOV := Lib.hid hov
      clear hl1 hk1 hov hov3 HIQ c2 dz
      go_wp2_with fail
      refine HOV.out.mono ?_
      rintro e w2 ⟨rfl, m, rfl⟩
      have c1 : (w1.drewN m).cell? ⟨p, 1, none⟩ = some (.int .i64 a) := HL1.out.c1
      have hlt1 := HL1.out.blk.lt
      have hn := fun W => new_any 81 a (by decide) W
      go_wp2_with fail
      refine (hn _).mono ?_
      rintro e w3 ⟨rfl, hF, hk3⟩
      have hb := HB1.out.keep ((Keep.refl (fun _ => True) w1).drewN m |>.trans hk3) trivial
      have HF := Lib.hid hF
      have HK3 := Lib.hid ((HK1.out.drewN m).trans (hk3.less (Y := (· ≠ p)) (fun _ _ => trivial)))
      have HZ3 := Lib.hid HB1.out.lt
      have HZ4 := Lib.hid HK1.out.size
      clear hF hk3 hn
      unfold faultV
      obtain ⟨b0, b1, b2, b3, b4, b5, z0, z1, z2, z3, z4, z5, hltb⟩ := hb.six
      simp only [zCells, List.getElem?_toArray, List.getElem?_cons_zero, List.getElem?_cons_succ] at b0 b1 b2 b3 b4 b5
      have Q := Lib.hid (hb.set6 (.int .i64 0) (.string ⟨#[]⟩) (.int .i64 0) (.int .i64 0) (.bool false) (.bool false))
      have HS := Lib.hid (keep6 w3 w.heap.size (.int .i64 0) (.string ⟨#[]⟩) (.int .i64 0) (.int .i64 0) (.bool false) (.bool false))
      clear hb
      go_wp2_with fail
      obtain ⟨q0, q1, q2, q3, q4, q5, _⟩ := Q.out
      simp at q0 q1 q2 q3 q4 q5
      refine bodyPost_ret (v := .tuple #[.agg #[.int .i64 0, .string ⟨#[]⟩, .int .i64 0, .int .i64 0, .bool false, .bool false], faultV w1.heap.size]) (by simp [results, Tryz.results97, go_sem, faultV, q0, q1, q2, q3, q4, q5]) rfl ?_
      exact ⟨_, _, rfl, TokFacts.bad HF.out (by have := HZ4.out; simp; omega) (by have := HZ3.out; simp; omega) HK3.out HS.out (Nat.le_refl _)⟩
    · rw [if_neg hov3]
      go_enter Tryz.func97, Tryz.ntmps97
      go_wp2_with fail
      refine HIQ.out.mono ?_
      rintro e w1 ⟨rfl, hl1, hk1⟩
      have HL1 := Lib.hid hl1
      have HK1 := Lib.hid (HK.out.trans hk1)
      have HB1 := Lib.hid (HB.out.keep hk1 (by omega))
      have hov := isOver_q hl1
      rw [decide_eq_false (by omega)] at hov
      have HOV := Lib.hid hov
      clear hl1 hk1 hov hov3 HIQ c2 dz
      go_wp2_with fail
      refine HOV.out.mono ?_
      rintro e w2 ⟨rfl, m, rfl⟩
      have c3 : (w1.drewN m).cell? ⟨p, 2, none⟩ = some (.int .i64 (a + 2 + 1 : Nat)) := HL1.out.c2
      have hlt1 := HL1.out.blk.lt
      have hn := fun W => new_any 80 (a + 2) (by decide) W
      rw [show (((a + 2 + 1 : Nat)) : Int) = (a : Int) + 3 by omega] at c3
      rw [show ((a + 2 : Nat) : Int) = (a : Int) + 3 - 1 by omega] at hn
      go_wp2_with fail
      refine (hn _).mono ?_
      rintro e w3 ⟨rfl, hF, hk3⟩
      have hb := HB1.out.keep ((Keep.refl (fun _ => True) w1).drewN m |>.trans hk3) trivial
      have HF := Lib.hid hF
      have HK3 := Lib.hid ((HK1.out.drewN m).trans (hk3.less (Y := (· ≠ p)) (fun _ _ => trivial)))
      have HZ3 := Lib.hid HB1.out.lt
      have HZ4 := Lib.hid HK1.out.size
      clear hF hk3 hn
      unfold faultV
      obtain ⟨b0, b1, b2, b3, b4, b5, z0, z1, z2, z3, z4, z5, hltb⟩ := hb.six
      simp only [zCells, List.getElem?_toArray, List.getElem?_cons_zero, List.getElem?_cons_succ] at b0 b1 b2 b3 b4 b5
      have Q := Lib.hid (hb.set6 (.int .i64 0) (.string ⟨#[]⟩) (.int .i64 0) (.int .i64 0) (.bool false) (.bool false))
      have HS := Lib.hid (keep6 w3 w.heap.size (.int .i64 0) (.string ⟨#[]⟩) (.int .i64 0) (.int .i64 0) (.bool false) (.bool false))
      clear hb
      go_wp2_with fail
      obtain ⟨q0, q1, q2, q3, q4, q5, _⟩ := Q.out
      simp at q0 q1 q2 q3 q4 q5
      refine bodyPost_ret (v := .tuple #[.agg #[.int .i64 0, .string ⟨#[]⟩, .int .i64 0, .int .i64 0, .bool false, .bool false], faultV w1.heap.size]) (by simp [results, Tryz.results97, go_sem, faultV, q0, q1, q2, q3, q4, q5]) rfl ?_
      exact ⟨_, _, rfl, TokFacts.bad HF.out (by have := HZ4.out; simp; omega) (by have := HZ3.out; simp; omega) HK3.out HS.out (Nat.le_refl _)⟩
  · rw [hx] at hiq
    have HIQ := Lib.hid hiq
    clear hiq hx
    go_enter Tryz.func97, Tryz.ntmps97
    go_wp2_with fail
    refine HIQ.out.mono ?_
    rintro e w1 ⟨b, rfl, hF, hbs, hk1⟩
    have HF := Lib.hid hF
    have HK1 := Lib.hid (HK.out.trans hk1)
    have hb := HB.out.keep hk1 (by omega)
    have HBS := Lib.hid hbs
    clear hF hk1 hbs HIQ c2 dz
    unfold faultV
    obtain ⟨b0, b1, b2, b3, b4, b5, z0, z1, z2, z3, z4, z5, hltb⟩ := hb.six
    simp only [zCells, List.getElem?_toArray, List.getElem?_cons_zero, List.getElem?_cons_succ] at b0 b1 b2 b3 b4 b5
    have Q := Lib.hid (hb.set6 (.int .i64 0) (.string ⟨#[]⟩) (.int .i64 0) (.int .i64 0) (.bool false) (.bool false))
    have HS := Lib.hid (keep6 w1 w.heap.size (.int .i64 0) (.string ⟨#[]⟩) (.int .i64 0) (.int .i64 0) (.bool false) (.bool false))
    clear hb
    go_wp2_with fail
    obtain ⟨q0, q1, q2, q3, q4, q5, _⟩ := Q.out
    simp at q0 q1 q2 q3 q4 q5
    refine bodyPost_ret (v := .tuple #[.agg #[.int .i64 0, .string ⟨#[]⟩, .int .i64 0, .int .i64 0, .bool false, .bool false], faultV b]) (by simp [results, Tryz.results97, go_sem, faultV, q0, q1, q2, q3, q4, q5]) rfl ?_
    exact ⟨_, _, rfl, TokFacts.bad HF.out (by have := HBS.out; rw [HWS.out] at this; omega) (by have := HBS.out; rw [HWS.out] at this; omega) HK1.out HS.out (Nat.le_refl _)⟩
  · rw [hx] at hiq
    have HIQ := Lib.hid hiq
    clear hiq hx
    go_enter Tryz.func97, Tryz.ntmps97
    go_wp2_with fail
    refine HIQ.out.mono ?_
    rintro e w1 ⟨b, rfl, hF, hbs, hk1⟩
    have HF := Lib.hid hF
    have HK1 := Lib.hid (HK.out.trans hk1)
    have hb := HB.out.keep hk1 (by omega)
    have HBS := Lib.hid hbs
    clear hF hk1 hbs HIQ c2 dz
    unfold faultV
    obtain ⟨b0, b1, b2, b3, b4, b5, z0, z1, z2, z3, z4, z5, hltb⟩ := hb.six
    simp only [zCells, List.getElem?_toArray, List.getElem?_cons_zero, List.getElem?_cons_succ] at b0 b1 b2 b3 b4 b5
    have Q := Lib.hid (hb.set6 (.int .i64 0) (.string ⟨#[]⟩) (.int .i64 0) (.int .i64 0) (.bool false) (.bool false))
    have HS := Lib.hid (keep6 w1 w.heap.size (.int .i64 0) (.string ⟨#[]⟩) (.int .i64 0) (.int .i64 0) (.bool false) (.bool false))
    clear hb
    go_wp2_with fail
    obtain ⟨q0, q1, q2, q3, q4, q5, _⟩ := Q.out
    simp at q0 q1 q2 q3 q4 q5
    refine bodyPost_ret (v := .tuple #[.agg #[.int .i64 0, .string ⟨#[]⟩, .int .i64 0, .int .i64 0, .bool false, .bool false], faultV b]) (by simp [results, Tryz.results97, go_sem, faultV, q0, q1, q2, q3, q4, q5]) rfl ?_
    exact ⟨_, _, rfl, TokFacts.bad HF.out (by have := HBS.out; rw [HWS.out] at this; omega) (by have := HBS.out; rw [HWS.out] at this; omega) HK1.out HS.out (Nat.le_refl _)⟩
end Go.Proofs.YtfkbbbjicaedmaaGreatDoor
