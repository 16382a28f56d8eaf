/-
  Package lex: a token. Conditions: a lexer in memory; strconv.ErrRange holds its sentinel; digits are read as said.
-/
import Derived.Test.YtfkbbbjicaedmaaGreatDoorULx22
import Derived.Test.YtfkbbbjicaedmaaGreatDoorULx16
import Derived.Test.YtfkbbbjicaedmaaGreatDoorUEis
namespace Go.Proofs.YtfkbbbjicaedmaaGreatDoor
open Go.RowKit Go.Shelf Go.Maps
set_option linter.unusedVariables false
set_option linter.unusedSimpArgs false
def DigC : Prop := ∀ {w : World} {p : Nat} {L : List UInt8} {a : Nat} {b : Addr}, LxAt w p L a a → w.cell? ⟨3, 0, none⟩ = some (.iface 167 (.pointer (some b))) → p ≠ 3 → 1 ≤ digLen (L.drop a) →
  Calls Tryz.prog 99 #[.pointer (some ⟨p, 0, none⟩)] w (TokPost w p L a (digitsL a (L.drop a)))
theorem code_len {c : UInt8} {r : List UInt8} (h : codeB (c :: r) = true) : 1 ≤ r.length := by
  rcases r with _ | ⟨d, r⟩
  · cases h
  · simp
theorem pre_code (c : UInt8) (r : List UInt8) : ([48, 39] : List UInt8).isPrefixOf (c :: r) = codeB (c :: r) := by
  rcases r with _ | ⟨d, r⟩
  · simp [List.isPrefixOf, codeB]
  · simp only [List.isPrefixOf, codeB, Bool.and_true]
    have e1 : ((48 : UInt8) == c) = (c == 48) := by rw [Bool.eq_iff_iff]; constructor <;> intro h <;> (have := eq_of_beq h; subst this; rfl)
    have e2 : ((39 : UInt8) == d) = (d == 39) := by rw [Bool.eq_iff_iff]; constructor <;> intro h <;> (have := eq_of_beq h; subst this; rfl)
    rw [e1, e2]
set_option maxRecDepth 1000000 in
set_option maxHeartbeats 16000000 in
theorem token_any (hD : DigC) {w : World} {p : Nat} {L : List UInt8} {a : Nat} {b : Addr} (h : LxAt w p L a a) (hro : w.cell? ⟨3, 0, none⟩ = some (.iface 167 (.pointer (some b)))) (hpg : p ≠ 3) {c : UInt8} {r : List UInt8} (hcr : L.drop a = c :: r) : Calls Tryz.prog 83 #[.pointer (some ⟨p, 0, none⟩)] w
    (TokPost w p L a (tokL a (L.drop a))) := by
  have hp := h.blk.lt
  have h1 := h.keep ((Keep.refl (fun _ => True) w).alloc (.cells zCells 75)) trivial
  have HB := Lib.hid (Blk.new w 75 zCells)
  have HGL := Lib.hid (lt_cell hro)
  have hro1 : (w.alloc (.cells zCells 75)).cell? ⟨3, 0, none⟩ = some (.iface 167 (.pointer (some b))) := by rw [World.cell?_alloc_lt _ _ _ (lt_cell hro)]; exact hro
  have HRO := Lib.hid hro1
  have HL := Lib.hid h1
  have hk1 := (Keep.refl (· ≠ p) w).alloc (.cells zCells 75)
  have HK1 := Lib.hid hk1
  have hlen := h.len
  obtain ⟨hlt, hdr, hat⟩ := str_at hcr
  have hrl : r.length + a + 1 = L.length := by
    have := congrArg List.length hcr
    simp at this; omega
  obtain ⟨s, hsl⟩ : ∃ s, str L = s := ⟨_, rfl⟩
  have hks : a < s.size := by rw [← hsl, str_size]; exact hlt
  have hsk : (s[a]'hks) = c := by subst hsl; exact hat _
  have c0 := h1.c0
  rw [hsl] at c0
  have c2 := h1.c2
  have hlt0 := h1.blk.lt
  have HSK := Lib.hid hsk
  rw [show tokL a (L.drop a) = tokL a (c :: r) by rw [hcr], tok_cons]
  have HC := Lib.hid hcr
  have q1 := fun W => isSmall_any c W
  have q2 := fun W => isCapital_any c W
  have q3 := fun m => begins_q (h1.drewN m) [48, 39]
  rw [hcr, pre_code, show str [48, 39] = (⟨#[48, 39]⟩ : ByteArray) from rfl] at q3
  have q4 := fun W => isDigit_any c W
  have q5 := fun W => isPunct_any c W
  have q8 := fun m => isEnd_q (h1.drewN m) hcr
  have q9 := fun W => lsign_any c W
  have h33 := u8_eq c 33
  have h59 := u8_eq c 59
  have h39 := u8_eq c 39
  rw [show (((33 : UInt8).toNat : Nat) : Int) = 33 from rfl] at h33
  rw [show (((59 : UInt8).toNat : Nat) : Int) = 59 from rfl] at h59
  rw [show (((39 : UInt8).toNat : Nat) : Int) = 39 from rfl] at h39
  unfold byteV at q1 q2 q4 q5 q9
  clear hsk hat hdr hsl hcr h h1 hk1 hro hro1
  rcases e1 : smallB c with _ | _
  rotate_left
  · rw [e1] at q1
    simp only [Bool.false_eq_true, if_false, if_true]
    rw [← HC.out]
    have Hq1 := Lib.hid q1
    have Hq2 := Lib.hid q2
    have Hq3 := Lib.hid q3
    have Hq4 := Lib.hid q4
    have Hq5 := Lib.hid q5
    have Hq8 := Lib.hid q8
    have Hq9 := Lib.hid q9
    clear q1 q2 q3 q4 q5 q8 q9
    have hsk := HSK.out
    go_enter Tryz.func83, Tryz.ntmps83
    go_wp2_with fail
    go_region
    clear hsk
    go_wp2_with fail
    refine (Hq1.out _).mono ?_
    rintro e u0 ⟨rfl, rfl⟩
    go_wp2_with fail
    have HKK := Lib.hid ((Keep.refl (· ≠ p) (w.alloc (.cells zCells 75))).drewN 1)
    refine (letters_any (HL.out.drewN 1) 1).mono ?_
    rintro e w1 ⟨tv, ev, rfl, hf⟩
    obtain ⟨x0, x1, x2, x4, rfl⟩ := (TokIs.of hf).is
    have hb := HB.out.keep (HKK.out.trans hf.kept) (by omega)
    obtain ⟨b0, b1, b2, b3, b4, b5, z0, z1, z2, z3, z4, z5, hlt1⟩ := hb.six
    simp only [zCells, List.getElem?_toArray, List.getElem?_cons_zero, List.getElem?_cons_succ] at b0 b1 b2 b3 b4 b5
    have HFA := Lib.hid hf
    have Q := Lib.hid (hb.set6 (.int .i64 x0) (.string x1) (.int .i64 x2) (.int .i64 0) (.bool x4) (.bool false))
    have HS := Lib.hid (keep6 w1 w.heap.size (.int .i64 x0) (.string x1) (.int .i64 x2) (.int .i64 0) (.bool x4) (.bool false))
    clear hf hb
    go_wp2_with fail
    obtain ⟨q0, q1, q2, q3, q4, q5, _⟩ := Q.out
    simp at q0 q1 q2 q3 q4 q5
    refine bodyPost_ret (v := .tuple #[.agg #[.int .i64 x0, .string x1, .int .i64 x2, .int .i64 0, .bool x4, .bool false], ev]) (by simp [results, Tryz.results83, go_sem, q0, q1, q2, q3, q4, q5]) rfl ?_
    exact ⟨_, _, rfl, HFA.out.far ((Keep.refl _ w).alloc _ |>.trans HKK.out) (Nat.le_refl _) (Nat.lt_of_lt_of_le (by simp) HKK.out.size) hp HS.out⟩
  · rw [e1] at q1
    rcases e2 : capB c with _ | _
    rotate_left
    · rw [e2] at q2
      simp only [Bool.false_eq_true, if_false, if_true]
      rw [← HC.out]
      have Hq1 := Lib.hid q1
      have Hq2 := Lib.hid q2
      have Hq3 := Lib.hid q3
      have Hq4 := Lib.hid q4
      have Hq5 := Lib.hid q5
      have Hq8 := Lib.hid q8
      have Hq9 := Lib.hid q9
      clear q1 q2 q3 q4 q5 q8 q9
      have hsk := HSK.out
      go_enter Tryz.func83, Tryz.ntmps83
      go_wp2_with fail
      go_region
      clear hsk
      go_wp2_with fail
      refine (Hq1.out _).mono ?_
      rintro e u0 ⟨rfl, rfl⟩
      go_wp2_with fail
      refine (Hq2.out _).mono ?_
      rintro e u1 ⟨rfl, rfl⟩
      go_wp2_with fail
      have HKK := Lib.hid ((Keep.refl (· ≠ p) (w.alloc (.cells zCells 75))).drewN 1)
      refine (letters_any (HL.out.drewN 1) 2).mono ?_
      rintro e w1 ⟨tv, ev, rfl, hf⟩
      obtain ⟨x0, x1, x2, x4, rfl⟩ := (TokIs.of hf).is
      have hb := HB.out.keep (HKK.out.trans hf.kept) (by omega)
      obtain ⟨b0, b1, b2, b3, b4, b5, z0, z1, z2, z3, z4, z5, hlt1⟩ := hb.six
      simp only [zCells, List.getElem?_toArray, List.getElem?_cons_zero, List.getElem?_cons_succ] at b0 b1 b2 b3 b4 b5
      have HFA := Lib.hid hf
      have Q := Lib.hid (hb.set6 (.int .i64 x0) (.string x1) (.int .i64 x2) (.int .i64 0) (.bool x4) (.bool false))
      have HS := Lib.hid (keep6 w1 w.heap.size (.int .i64 x0) (.string x1) (.int .i64 x2) (.int .i64 0) (.bool x4) (.bool false))
      clear hf hb
      go_wp2_with fail
      obtain ⟨q0, q1, q2, q3, q4, q5, _⟩ := Q.out
      simp at q0 q1 q2 q3 q4 q5
      refine bodyPost_ret (v := .tuple #[.agg #[.int .i64 x0, .string x1, .int .i64 x2, .int .i64 0, .bool x4, .bool false], ev]) (by simp [results, Tryz.results83, go_sem, q0, q1, q2, q3, q4, q5]) rfl ?_
      exact ⟨_, _, rfl, HFA.out.far ((Keep.refl _ w).alloc _ |>.trans HKK.out) (Nat.le_refl _) (Nat.lt_of_lt_of_le (by simp) HKK.out.size) hp HS.out⟩
    · rw [e2] at q2
      rcases e3 : codeB (c :: r) with _ | _
      rotate_left
      · rw [e3] at q3
        simp only [Bool.false_eq_true, if_false, if_true]
        have HCO := Lib.hid (show a + 2 ≤ L.length by have := code_len e3; omega)
        rw [← HC.out]
        have Hq1 := Lib.hid q1
        have Hq2 := Lib.hid q2
        have Hq3 := Lib.hid q3
        have Hq4 := Lib.hid q4
        have Hq5 := Lib.hid q5
        have Hq8 := Lib.hid q8
        have Hq9 := Lib.hid q9
        clear q1 q2 q3 q4 q5 q8 q9
        have hsk := HSK.out
        go_enter Tryz.func83, Tryz.ntmps83
        go_wp2_with fail
        go_region
        clear hsk
        go_wp2_with fail
        refine (Hq1.out _).mono ?_
        rintro e u0 ⟨rfl, rfl⟩
        go_wp2_with fail
        refine (Hq2.out _).mono ?_
        rintro e u1 ⟨rfl, rfl⟩
        go_wp2_with fail
        refine (Hq3.out 1).mono ?_
        rintro e u2 ⟨rfl, m, rfl⟩
        rw [World.drewN_drewN]
        go_wp2_with fail
        have HKK := Lib.hid ((Keep.refl (· ≠ p) (w.alloc (.cells zCells 75))).drewN (1 + m))
        refine (char_any (HL.out.drewN (1 + m)) (by have := HCO.out; omega)).mono ?_
        rintro e w1 ⟨tv, ev, rfl, hf⟩
        obtain ⟨x0, x1, x2, x4, rfl⟩ := (TokIs.of hf).is
        have hb := HB.out.keep (HKK.out.trans hf.kept) (by omega)
        obtain ⟨b0, b1, b2, b3, b4, b5, z0, z1, z2, z3, z4, z5, hlt1⟩ := hb.six
        simp only [zCells, List.getElem?_toArray, List.getElem?_cons_zero, List.getElem?_cons_succ] at b0 b1 b2 b3 b4 b5
        have HFA := Lib.hid hf
        have Q := Lib.hid (hb.set6 (.int .i64 x0) (.string x1) (.int .i64 x2) (.int .i64 0) (.bool x4) (.bool false))
        have HS := Lib.hid (keep6 w1 w.heap.size (.int .i64 x0) (.string x1) (.int .i64 x2) (.int .i64 0) (.bool x4) (.bool false))
        clear hf hb
        go_wp2_with fail
        obtain ⟨q0, q1, q2, q3, q4, q5, _⟩ := Q.out
        simp at q0 q1 q2 q3 q4 q5
        refine bodyPost_ret (v := .tuple #[.agg #[.int .i64 x0, .string x1, .int .i64 x2, .int .i64 0, .bool x4, .bool false], ev]) (by simp [results, Tryz.results83, go_sem, q0, q1, q2, q3, q4, q5]) rfl ?_
        exact ⟨_, _, rfl, HFA.out.far ((Keep.refl _ w).alloc _ |>.trans HKK.out) (Nat.le_refl _) (Nat.lt_of_lt_of_le (by simp) HKK.out.size) hp HS.out⟩
      · rw [e3] at q3
        rcases e4 : digB c with _ | _
        rotate_left
        · rw [e4] at q4
          simp only [Bool.false_eq_true, if_false, if_true]
          have HPO := Lib.hid (show 1 ≤ digLen (L.drop a) by rw [HC.out]; exact digLen_pos e4)
          rw [← HC.out]
          have Hq1 := Lib.hid q1
          have Hq2 := Lib.hid q2
          have Hq3 := Lib.hid q3
          have Hq4 := Lib.hid q4
          have Hq5 := Lib.hid q5
          have Hq8 := Lib.hid q8
          have Hq9 := Lib.hid q9
          clear q1 q2 q3 q4 q5 q8 q9
          have hsk := HSK.out
          go_enter Tryz.func83, Tryz.ntmps83
          go_wp2_with fail
          go_region
          clear hsk
          go_wp2_with fail
          refine (Hq1.out _).mono ?_
          rintro e u0 ⟨rfl, rfl⟩
          go_wp2_with fail
          refine (Hq2.out _).mono ?_
          rintro e u1 ⟨rfl, rfl⟩
          go_wp2_with fail
          refine (Hq3.out 1).mono ?_
          rintro e u2 ⟨rfl, m, rfl⟩
          rw [World.drewN_drewN]
          go_wp2_with fail
          refine (Hq4.out _).mono ?_
          rintro e u3 ⟨rfl, rfl⟩
          go_wp2_with fail
          have HKK := Lib.hid ((Keep.refl (· ≠ p) (w.alloc (.cells zCells 75))).drewN (1 + m))
          refine (hD (HL.out.drewN (1 + m)) HRO.out hpg HPO.out).mono ?_
          rintro e w1 ⟨tv, ev, rfl, hf⟩
          obtain ⟨x0, x1, x2, x4, rfl⟩ := (TokIs.of hf).is
          have hb := HB.out.keep (HKK.out.trans hf.kept) (by omega)
          obtain ⟨b0, b1, b2, b3, b4, b5, z0, z1, z2, z3, z4, z5, hlt1⟩ := hb.six
          simp only [zCells, List.getElem?_toArray, List.getElem?_cons_zero, List.getElem?_cons_succ] at b0 b1 b2 b3 b4 b5
          have HFA := Lib.hid hf
          have Q := Lib.hid (hb.set6 (.int .i64 x0) (.string x1) (.int .i64 x2) (.int .i64 0) (.bool x4) (.bool false))
          have HS := Lib.hid (keep6 w1 w.heap.size (.int .i64 x0) (.string x1) (.int .i64 x2) (.int .i64 0) (.bool x4) (.bool false))
          clear hf hb
          go_wp2_with fail
          obtain ⟨q0, q1, q2, q3, q4, q5, _⟩ := Q.out
          simp at q0 q1 q2 q3 q4 q5
          refine bodyPost_ret (v := .tuple #[.agg #[.int .i64 x0, .string x1, .int .i64 x2, .int .i64 0, .bool x4, .bool false], ev]) (by simp [results, Tryz.results83, go_sem, q0, q1, q2, q3, q4, q5]) rfl ?_
          exact ⟨_, _, rfl, HFA.out.far ((Keep.refl _ w).alloc _ |>.trans HKK.out) (Nat.le_refl _) (Nat.lt_of_lt_of_le (by simp) HKK.out.size) hp HS.out⟩
        · rw [e4] at q4
          rcases e5 : punctB c with _ | _
          rotate_left
          · rw [e5] at q5
            simp only [Bool.false_eq_true, if_false, if_true]
            rw [← HC.out]
            have Hq1 := Lib.hid q1
            have Hq2 := Lib.hid q2
            have Hq3 := Lib.hid q3
            have Hq4 := Lib.hid q4
            have Hq5 := Lib.hid q5
            have Hq8 := Lib.hid q8
            have Hq9 := Lib.hid q9
            clear q1 q2 q3 q4 q5 q8 q9
            have hsk := HSK.out
            go_enter Tryz.func83, Tryz.ntmps83
            go_wp2_with fail
            go_region
            clear hsk
            go_wp2_with fail
            refine (Hq1.out _).mono ?_
            rintro e u0 ⟨rfl, rfl⟩
            go_wp2_with fail
            refine (Hq2.out _).mono ?_
            rintro e u1 ⟨rfl, rfl⟩
            go_wp2_with fail
            refine (Hq3.out 1).mono ?_
            rintro e u2 ⟨rfl, m, rfl⟩
            rw [World.drewN_drewN]
            go_wp2_with fail
            refine (Hq4.out _).mono ?_
            rintro e u3 ⟨rfl, rfl⟩
            go_wp2_with fail
            refine (Hq5.out _).mono ?_
            rintro e u4 ⟨rfl, rfl⟩
            go_wp2_with fail
            have HKK := Lib.hid ((Keep.refl (· ≠ p) (w.alloc (.cells zCells 75))).drewN (1 + m))
            refine (single_any (HL.out.drewN (1 + m)) hlt 4).mono ?_
            rintro e w1 ⟨tv, ev, rfl, hf⟩
            obtain ⟨x0, x1, x2, x4, rfl⟩ := (TokIs.of hf).is
            have hb := HB.out.keep (HKK.out.trans hf.kept) (by omega)
            obtain ⟨b0, b1, b2, b3, b4, b5, z0, z1, z2, z3, z4, z5, hlt1⟩ := hb.six
            simp only [zCells, List.getElem?_toArray, List.getElem?_cons_zero, List.getElem?_cons_succ] at b0 b1 b2 b3 b4 b5
            have HFA := Lib.hid hf
            have Q := Lib.hid (hb.set6 (.int .i64 x0) (.string x1) (.int .i64 x2) (.int .i64 0) (.bool x4) (.bool false))
            have HS := Lib.hid (keep6 w1 w.heap.size (.int .i64 x0) (.string x1) (.int .i64 x2) (.int .i64 0) (.bool x4) (.bool false))
            clear hf hb
            go_wp2_with fail
            obtain ⟨q0, q1, q2, q3, q4, q5, _⟩ := Q.out
            simp at q0 q1 q2 q3 q4 q5
            refine bodyPost_ret (v := .tuple #[.agg #[.int .i64 x0, .string x1, .int .i64 x2, .int .i64 0, .bool x4, .bool false], ev]) (by simp [results, Tryz.results83, go_sem, q0, q1, q2, q3, q4, q5]) rfl ?_
            exact ⟨_, _, rfl, HFA.out.far ((Keep.refl _ w).alloc _ |>.trans HKK.out) (Nat.le_refl _) (Nat.lt_of_lt_of_le (by simp) HKK.out.size) hp HS.out⟩
          · rw [e5] at q5
            simp only [Bool.false_eq_true, if_false, if_true]
            rcases e33 : c == 33 with _ | _
            rotate_left
            · rw [e33] at h33
              simp only [Bool.true_or, Bool.or_true, Bool.false_or, if_true]
              rw [← HC.out]
              have Hq1 := Lib.hid q1
              have Hq2 := Lib.hid q2
              have Hq3 := Lib.hid q3
              have Hq4 := Lib.hid q4
              have Hq5 := Lib.hid q5
              have Hq8 := Lib.hid q8
              have Hq9 := Lib.hid q9
              clear q1 q2 q3 q4 q5 q8 q9
              have hsk := HSK.out
              go_enter Tryz.func83, Tryz.ntmps83
              go_wp2_with fail
              go_region
              clear hsk
              go_wp2_with fail
              refine (Hq1.out _).mono ?_
              rintro e u0 ⟨rfl, rfl⟩
              go_wp2_with fail
              refine (Hq2.out _).mono ?_
              rintro e u1 ⟨rfl, rfl⟩
              go_wp2_with fail
              refine (Hq3.out 1).mono ?_
              rintro e u2 ⟨rfl, m, rfl⟩
              rw [World.drewN_drewN]
              go_wp2_with fail
              refine (Hq4.out _).mono ?_
              rintro e u3 ⟨rfl, rfl⟩
              go_wp2_with fail
              refine (Hq5.out _).mono ?_
              rintro e u4 ⟨rfl, rfl⟩
              go_wp2_with fail
              have HKK := Lib.hid ((Keep.refl (· ≠ p) (w.alloc (.cells zCells 75))).drewN (1 + m))
              refine (single_any (HL.out.drewN (1 + m)) hlt 1).mono ?_
              rintro e w1 ⟨tv, ev, rfl, hf⟩
              obtain ⟨x0, x1, x2, x4, rfl⟩ := (TokIs.of hf).is
              have hb := HB.out.keep (HKK.out.trans hf.kept) (by omega)
              obtain ⟨b0, b1, b2, b3, b4, b5, z0, z1, z2, z3, z4, z5, hlt1⟩ := hb.six
              simp only [zCells, List.getElem?_toArray, List.getElem?_cons_zero, List.getElem?_cons_succ] at b0 b1 b2 b3 b4 b5
              have HFA := Lib.hid hf
              have Q := Lib.hid (hb.set6 (.int .i64 x0) (.string x1) (.int .i64 x2) (.int .i64 0) (.bool x4) (.bool false))
              have HS := Lib.hid (keep6 w1 w.heap.size (.int .i64 x0) (.string x1) (.int .i64 x2) (.int .i64 0) (.bool x4) (.bool false))
              clear hf hb
              go_wp2_with fail
              obtain ⟨q0, q1, q2, q3, q4, q5, _⟩ := Q.out
              simp at q0 q1 q2 q3 q4 q5
              refine bodyPost_ret (v := .tuple #[.agg #[.int .i64 x0, .string x1, .int .i64 x2, .int .i64 0, .bool x4, .bool false], ev]) (by simp [results, Tryz.results83, go_sem, q0, q1, q2, q3, q4, q5]) rfl ?_
              exact ⟨_, _, rfl, HFA.out.far ((Keep.refl _ w).alloc _ |>.trans HKK.out) (Nat.le_refl _) (Nat.lt_of_lt_of_le (by simp) HKK.out.size) hp HS.out⟩
            · rw [e33] at h33
              rcases e59 : c == 59 with _ | _
              rotate_left
              · rw [e59] at h59
                simp only [Bool.true_or, Bool.or_true, Bool.false_or, if_true]
                rw [← HC.out]
                have Hq1 := Lib.hid q1
                have Hq2 := Lib.hid q2
                have Hq3 := Lib.hid q3
                have Hq4 := Lib.hid q4
                have Hq5 := Lib.hid q5
                have Hq8 := Lib.hid q8
                have Hq9 := Lib.hid q9
                clear q1 q2 q3 q4 q5 q8 q9
                have hsk := HSK.out
                go_enter Tryz.func83, Tryz.ntmps83
                go_wp2_with fail
                go_region
                clear hsk
                go_wp2_with fail
                refine (Hq1.out _).mono ?_
                rintro e u0 ⟨rfl, rfl⟩
                go_wp2_with fail
                refine (Hq2.out _).mono ?_
                rintro e u1 ⟨rfl, rfl⟩
                go_wp2_with fail
                refine (Hq3.out 1).mono ?_
                rintro e u2 ⟨rfl, m, rfl⟩
                rw [World.drewN_drewN]
                go_wp2_with fail
                refine (Hq4.out _).mono ?_
                rintro e u3 ⟨rfl, rfl⟩
                go_wp2_with fail
                refine (Hq5.out _).mono ?_
                rintro e u4 ⟨rfl, rfl⟩
                go_wp2_with fail
                have HKK := Lib.hid ((Keep.refl (· ≠ p) (w.alloc (.cells zCells 75))).drewN (1 + m))
                refine (single_any (HL.out.drewN (1 + m)) hlt 1).mono ?_
                rintro e w1 ⟨tv, ev, rfl, hf⟩
                obtain ⟨x0, x1, x2, x4, rfl⟩ := (TokIs.of hf).is
                have hb := HB.out.keep (HKK.out.trans hf.kept) (by omega)
                obtain ⟨b0, b1, b2, b3, b4, b5, z0, z1, z2, z3, z4, z5, hlt1⟩ := hb.six
                simp only [zCells, List.getElem?_toArray, List.getElem?_cons_zero, List.getElem?_cons_succ] at b0 b1 b2 b3 b4 b5
                have HFA := Lib.hid hf
                have Q := Lib.hid (hb.set6 (.int .i64 x0) (.string x1) (.int .i64 x2) (.int .i64 0) (.bool x4) (.bool false))
                have HS := Lib.hid (keep6 w1 w.heap.size (.int .i64 x0) (.string x1) (.int .i64 x2) (.int .i64 0) (.bool x4) (.bool false))
                clear hf hb
                go_wp2_with fail
                obtain ⟨q0, q1, q2, q3, q4, q5, _⟩ := Q.out
                simp at q0 q1 q2 q3 q4 q5
                refine bodyPost_ret (v := .tuple #[.agg #[.int .i64 x0, .string x1, .int .i64 x2, .int .i64 0, .bool x4, .bool false], ev]) (by simp [results, Tryz.results83, go_sem, q0, q1, q2, q3, q4, q5]) rfl ?_
                exact ⟨_, _, rfl, HFA.out.far ((Keep.refl _ w).alloc _ |>.trans HKK.out) (Nat.le_refl _) (Nat.lt_of_lt_of_le (by simp) HKK.out.size) hp HS.out⟩
              · rw [e59] at h59
                simp only [Bool.or_self, Bool.false_eq_true, if_false]
                rcases e39 : c == 39 with _ | _
                rotate_left
                · rw [e39] at h39
                  simp only [if_true]
                  rw [← HC.out]
                  have Hq1 := Lib.hid q1
                  have Hq2 := Lib.hid q2
                  have Hq3 := Lib.hid q3
                  have Hq4 := Lib.hid q4
                  have Hq5 := Lib.hid q5
                  have Hq8 := Lib.hid q8
                  have Hq9 := Lib.hid q9
                  clear q1 q2 q3 q4 q5 q8 q9
                  have hsk := HSK.out
                  go_enter Tryz.func83, Tryz.ntmps83
                  go_wp2_with fail
                  go_region
                  clear hsk
                  go_wp2_with fail
                  refine (Hq1.out _).mono ?_
                  rintro e u0 ⟨rfl, rfl⟩
                  go_wp2_with fail
                  refine (Hq2.out _).mono ?_
                  rintro e u1 ⟨rfl, rfl⟩
                  go_wp2_with fail
                  refine (Hq3.out 1).mono ?_
                  rintro e u2 ⟨rfl, m, rfl⟩
                  rw [World.drewN_drewN]
                  go_wp2_with fail
                  refine (Hq4.out _).mono ?_
                  rintro e u3 ⟨rfl, rfl⟩
                  go_wp2_with fail
                  refine (Hq5.out _).mono ?_
                  rintro e u4 ⟨rfl, rfl⟩
                  go_wp2_with fail
                  have HKK := Lib.hid ((Keep.refl (· ≠ p) (w.alloc (.cells zCells 75))).drewN (1 + m))
                  refine (quoted_any (HL.out.drewN (1 + m)) hlt).mono ?_
                  rintro e w1 ⟨tv, ev, rfl, hf⟩
                  obtain ⟨x0, x1, x2, x4, rfl⟩ := (TokIs.of hf).is
                  have hb := HB.out.keep (HKK.out.trans hf.kept) (by omega)
                  obtain ⟨b0, b1, b2, b3, b4, b5, z0, z1, z2, z3, z4, z5, hlt1⟩ := hb.six
                  simp only [zCells, List.getElem?_toArray, List.getElem?_cons_zero, List.getElem?_cons_succ] at b0 b1 b2 b3 b4 b5
                  have HFA := Lib.hid hf
                  have Q := Lib.hid (hb.set6 (.int .i64 x0) (.string x1) (.int .i64 x2) (.int .i64 0) (.bool x4) (.bool false))
                  have HS := Lib.hid (keep6 w1 w.heap.size (.int .i64 x0) (.string x1) (.int .i64 x2) (.int .i64 0) (.bool x4) (.bool false))
                  clear hf hb
                  go_wp2_with fail
                  obtain ⟨q0, q1, q2, q3, q4, q5, _⟩ := Q.out
                  simp at q0 q1 q2 q3 q4 q5
                  refine bodyPost_ret (v := .tuple #[.agg #[.int .i64 x0, .string x1, .int .i64 x2, .int .i64 0, .bool x4, .bool false], ev]) (by simp [results, Tryz.results83, go_sem, q0, q1, q2, q3, q4, q5]) rfl ?_
                  exact ⟨_, _, rfl, HFA.out.far ((Keep.refl _ w).alloc _ |>.trans HKK.out) (Nat.le_refl _) (Nat.lt_of_lt_of_le (by simp) HKK.out.size) hp HS.out⟩
                · rw [e39] at h39
                  simp only [Bool.false_eq_true, if_false]
                  rcases e8 : stopB (c :: r) with _ | _
                  rotate_left
                  · rw [e8] at q8
                    simp only [if_true]
                    rw [← HC.out]
                    have Hq1 := Lib.hid q1
                    have Hq2 := Lib.hid q2
                    have Hq3 := Lib.hid q3
                    have Hq4 := Lib.hid q4
                    have Hq5 := Lib.hid q5
                    have Hq8 := Lib.hid q8
                    have Hq9 := Lib.hid q9
                    clear q1 q2 q3 q4 q5 q8 q9
                    have hsk := HSK.out
                    go_enter Tryz.func83, Tryz.ntmps83
                    go_wp2_with fail
                    go_region
                    clear hsk
                    go_wp2_with fail
                    refine (Hq1.out _).mono ?_
                    rintro e u0 ⟨rfl, rfl⟩
                    go_wp2_with fail
                    refine (Hq2.out _).mono ?_
                    rintro e u1 ⟨rfl, rfl⟩
                    go_wp2_with fail
                    refine (Hq3.out 1).mono ?_
                    rintro e u2 ⟨rfl, m, rfl⟩
                    rw [World.drewN_drewN]
                    go_wp2_with fail
                    refine (Hq4.out _).mono ?_
                    rintro e u3 ⟨rfl, rfl⟩
                    go_wp2_with fail
                    refine (Hq5.out _).mono ?_
                    rintro e u4 ⟨rfl, rfl⟩
                    go_wp2_with fail
                    refine (Hq8.out (1 + m)).mono ?_
                    rintro e u8 ⟨rfl, m2, rfl⟩
                    rw [World.drewN_drewN]
                    go_wp2_with fail
                    have HKK := Lib.hid ((Keep.refl (· ≠ p) (w.alloc (.cells zCells 75))).drewN (1 + m + m2))
                    refine (single_any (HL.out.drewN (1 + m + m2)) hlt 5).mono ?_
                    rintro e w1 ⟨tv, ev, rfl, hf⟩
                    obtain ⟨x0, x1, x2, x4, rfl⟩ := (TokIs.of hf).is
                    have hb := HB.out.keep (HKK.out.trans hf.kept) (by omega)
                    obtain ⟨b0, b1, b2, b3, b4, b5, z0, z1, z2, z3, z4, z5, hlt1⟩ := hb.six
                    simp only [zCells, List.getElem?_toArray, List.getElem?_cons_zero, List.getElem?_cons_succ] at b0 b1 b2 b3 b4 b5
                    have HFA := Lib.hid hf
                    have Q := Lib.hid (hb.set6 (.int .i64 x0) (.string x1) (.int .i64 x2) (.int .i64 0) (.bool x4) (.bool false))
                    have HS := Lib.hid (keep6 w1 w.heap.size (.int .i64 x0) (.string x1) (.int .i64 x2) (.int .i64 0) (.bool x4) (.bool false))
                    clear hf hb
                    go_wp2_with fail
                    obtain ⟨q0, q1, q2, q3, q4, q5, _⟩ := Q.out
                    simp at q0 q1 q2 q3 q4 q5
                    refine bodyPost_ret (v := .tuple #[.agg #[.int .i64 x0, .string x1, .int .i64 x2, .int .i64 0, .bool x4, .bool false], ev]) (by simp [results, Tryz.results83, go_sem, q0, q1, q2, q3, q4, q5]) rfl ?_
                    exact ⟨_, _, rfl, HFA.out.far ((Keep.refl _ w).alloc _ |>.trans HKK.out) (Nat.le_refl _) (Nat.lt_of_lt_of_le (by simp) HKK.out.size) hp HS.out⟩
                  · rw [e8] at q8
                    simp only [Bool.false_eq_true, if_false]
                    rcases e9 : signB c with _ | _
                    rotate_left
                    · rw [e9] at q9
                      simp only [if_true]
                      rw [← HC.out]
                      have Hq1 := Lib.hid q1
                      have Hq2 := Lib.hid q2
                      have Hq3 := Lib.hid q3
                      have Hq4 := Lib.hid q4
                      have Hq5 := Lib.hid q5
                      have Hq8 := Lib.hid q8
                      have Hq9 := Lib.hid q9
                      clear q1 q2 q3 q4 q5 q8 q9
                      have hsk := HSK.out
                      go_enter Tryz.func83, Tryz.ntmps83
                      go_wp2_with fail
                      go_region
                      clear hsk
                      go_wp2_with fail
                      refine (Hq1.out _).mono ?_
                      rintro e u0 ⟨rfl, rfl⟩
                      go_wp2_with fail
                      refine (Hq2.out _).mono ?_
                      rintro e u1 ⟨rfl, rfl⟩
                      go_wp2_with fail
                      refine (Hq3.out 1).mono ?_
                      rintro e u2 ⟨rfl, m, rfl⟩
                      rw [World.drewN_drewN]
                      go_wp2_with fail
                      refine (Hq4.out _).mono ?_
                      rintro e u3 ⟨rfl, rfl⟩
                      go_wp2_with fail
                      refine (Hq5.out _).mono ?_
                      rintro e u4 ⟨rfl, rfl⟩
                      go_wp2_with fail
                      refine (Hq8.out (1 + m)).mono ?_
                      rintro e u8 ⟨rfl, m2, rfl⟩
                      rw [World.drewN_drewN]
                      go_wp2_with fail
                      refine (Hq9.out _).mono ?_
                      rintro e u9 ⟨rfl, rfl⟩
                      go_wp2_with fail
                      have HKK := Lib.hid ((Keep.refl (· ≠ p) (w.alloc (.cells zCells 75))).drewN (1 + m + m2))
                      refine (signs_any (HL.out.drewN (1 + m + m2))).mono ?_
                      rintro e w1 ⟨tv, ev, rfl, hf⟩
                      obtain ⟨x0, x1, x2, x4, rfl⟩ := (TokIs.of hf).is
                      have hb := HB.out.keep (HKK.out.trans hf.kept) (by omega)
                      obtain ⟨b0, b1, b2, b3, b4, b5, z0, z1, z2, z3, z4, z5, hlt1⟩ := hb.six
                      simp only [zCells, List.getElem?_toArray, List.getElem?_cons_zero, List.getElem?_cons_succ] at b0 b1 b2 b3 b4 b5
                      have HFA := Lib.hid hf
                      have Q := Lib.hid (hb.set6 (.int .i64 x0) (.string x1) (.int .i64 x2) (.int .i64 0) (.bool x4) (.bool false))
                      have HS := Lib.hid (keep6 w1 w.heap.size (.int .i64 x0) (.string x1) (.int .i64 x2) (.int .i64 0) (.bool x4) (.bool false))
                      clear hf hb
                      go_wp2_with fail
                      obtain ⟨q0, q1, q2, q3, q4, q5, _⟩ := Q.out
                      simp at q0 q1 q2 q3 q4 q5
                      refine bodyPost_ret (v := .tuple #[.agg #[.int .i64 x0, .string x1, .int .i64 x2, .int .i64 0, .bool x4, .bool false], ev]) (by simp [results, Tryz.results83, go_sem, q0, q1, q2, q3, q4, q5]) rfl ?_
                      exact ⟨_, _, rfl, HFA.out.far ((Keep.refl _ w).alloc _ |>.trans HKK.out) (Nat.le_refl _) (Nat.lt_of_lt_of_le (by simp) HKK.out.size) hp HS.out⟩
                    · rw [e9] at q9
                      simp only [Bool.false_eq_true, if_false]
                      have Hq1 := Lib.hid q1
                      have Hq2 := Lib.hid q2
                      have Hq3 := Lib.hid q3
                      have Hq4 := Lib.hid q4
                      have Hq5 := Lib.hid q5
                      have Hq8 := Lib.hid q8
                      have Hq9 := Lib.hid q9
                      clear q1 q2 q3 q4 q5 q8 q9
                      have hsk := HSK.out
                      go_enter Tryz.func83, Tryz.ntmps83
                      go_wp2_with fail
                      go_region
                      clear hsk
                      go_wp2_with fail
                      refine (Hq1.out _).mono ?_
                      rintro e u0 ⟨rfl, rfl⟩
                      go_wp2_with fail
                      refine (Hq2.out _).mono ?_
                      rintro e u1 ⟨rfl, rfl⟩
                      go_wp2_with fail
                      refine (Hq3.out 1).mono ?_
                      rintro e u2 ⟨rfl, m, rfl⟩
                      rw [World.drewN_drewN]
                      go_wp2_with fail
                      refine (Hq4.out _).mono ?_
                      rintro e u3 ⟨rfl, rfl⟩
                      go_wp2_with fail
                      refine (Hq5.out _).mono ?_
                      rintro e u4 ⟨rfl, rfl⟩
                      go_wp2_with fail
                      refine (Hq8.out (1 + m)).mono ?_
                      rintro e u8 ⟨rfl, m2, rfl⟩
                      rw [World.drewN_drewN]
                      go_wp2_with fail
                      refine (Hq9.out _).mono ?_
                      rintro e u9 ⟨rfl, rfl⟩
                      go_wp2_with fail
                      have c9 : ((w.alloc (.cells zCells 75)).drewN (1 + m + m2)).cell? ⟨p, 2, none⟩ = some (.int .i64 a) := c2
                      have hn := fun W => new_any 80 a (by decide) W
                      refine (hn _).mono ?_
                      rintro e w4 ⟨rfl, hF, hk4⟩
                      have HF := Lib.hid hF
                      have HK4 := Lib.hid (hk4.less (Y := (· ≠ p)) (fun _ _ => trivial))
                      have hb := HB.out.keep (((Keep.refl (fun _ => True) _).drewN (1 + m + m2)).trans hk4) trivial
                      clear hF hk4 hn
                      unfold faultV
                      obtain ⟨b0, b1, b2, b3, b4, b5, z0, z1, z2, z3, z4, z5, hltb⟩ := hb.six
                      simp only [zCells, List.getElem?_toArray, List.getElem?_cons_zero, List.getElem?_cons_succ] at b0 b1 b2 b3 b4 b5
                      have Q := Lib.hid (hb.set6 (.int .i64 0) (.string ⟨#[]⟩) (.int .i64 0) (.int .i64 0) (.bool false) (.bool false))
                      have HS := Lib.hid (keep6 w4 w.heap.size (.int .i64 0) (.string ⟨#[]⟩) (.int .i64 0) (.int .i64 0) (.bool false) (.bool false))
                      clear hb
                      go_wp2_with fail
                      obtain ⟨q0, q1, q2, q3, q4, q5, _⟩ := Q.out
                      simp at q0 q1 q2 q3 q4 q5
                      refine bodyPost_ret (v := .tuple #[.agg #[.int .i64 0, .string ⟨#[]⟩, .int .i64 0, .int .i64 0, .bool false, .bool false], faultV (w.heap.size + 1)]) (by simp [results, Tryz.results83, go_sem, faultV, q0, q1, q2, q3, q4, q5]) rfl ?_
                      refine ⟨_, _, rfl, ?_⟩
                      have hsz : ((w.alloc (.cells zCells 75)).drewN (1 + m + m2)).heap.size = w.heap.size + 1 := by simp
                      have hF := HF.out
                      rw [hsz] at hF
                      exact TokFacts.bad hF (by omega) (by omega) ((HK1.out.drewN _).trans HK4.out) HS.out (Nat.le_refl _)
end Go.Proofs.YtfkbbbjicaedmaaGreatDoor
