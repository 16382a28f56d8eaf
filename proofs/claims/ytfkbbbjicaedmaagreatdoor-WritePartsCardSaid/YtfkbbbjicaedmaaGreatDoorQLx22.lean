/-
  Package lex: a name in quotes. Conditions: a lexer in memory.
-/
import Derived.Test.YtfkbbbjicaedmaaGreatDoorQLx21
import Derived.Laws.AppendOwn
import Derived.Laws.IdiomStrings
namespace Go.Proofs.YtfkbbbjicaedmaaGreatDoor
open Go.RowKit Go.Shelf Go.Maps
set_option linter.unusedVariables false
set_option linter.unusedSimpArgs false
def preL (acc : List UInt8) : R (List UInt8) → R (List UInt8)
  | .bad e q => .bad e q
  | .good s n r => .good (acc ++ s) n r
theorem preL_nil (x : R (List UInt8)) : preL [] x = x := by cases x <;> rfl
theorem own_keep {w w' : World} {v : Value} {base n : Nat} {e : TypeId} {xs : List Value} {X : Nat → Prop} (h : w.ownsRow base e 1 v n xs) (hk : Keep X w w') (hX : ∀ g, base ≤ g → X g) : w'.ownsRow base e 1 v n xs := by
  obtain ⟨h1, h2⟩ := h
  refine ⟨h1, ?_⟩
  rcases h2 with h2 | ⟨g, cap, cur, rfl, a1, a2, a3⟩
  · exact .inl h2
  · exact .inr ⟨g, cap, cur, rfl, a1, Blk.keep (show Blk w g e cur from a2) hk (hX g a1), a3⟩
theorem own_block {w : World} {v : Value} {base n : Nat} {e : TypeId} {xs : List Value} (h : w.ownsRow base e 1 v n xs) {b : Nat} (hb : v.ownBlock = some b) : base ≤ b := by
  rcases h.2 with ⟨rfl, _⟩ | ⟨g, cap, cur, rfl, a1, _⟩
  · cases hb
  · cases hb; exact a1
theorem grown_keep {w w' : World} {v : Value} {base n : Nat} {e : TypeId} {xs : List Value} (h : w.ownsRow base e 1 v n xs) (hg : w.grownBy w' v.ownBlock) : Keep (· < base) w w' :=
  ⟨hg.os, hg.tape, hg.output, hg.size, fun k hk hX => hg.block k hk (fun e => by have := own_block h e.symm; omega)⟩
theorem Blk.set6a {w : World} {r : Nat} {t : TypeId} {x0 x1 x2 x3 x4 x5 : Value} (h : Blk w r t #[x0, x1, x2, x3, x4, x5]) (a b c d e f : Value) (o : Obj) : Six (((((((w.setCell ⟨r, 0, none⟩ a).setCell ⟨r, 1, none⟩ b).setCell ⟨r, 2, none⟩ c).setCell ⟨r, 3, none⟩ d).setCell ⟨r, 4, none⟩ e).setCell ⟨r, 5, none⟩ f).alloc o) r #[a, b, c, d, e, f] :=
  (((((((h.set_ 0 a).set_ 1 b).set_ 2 c).set_ 3 d).set_ 4 e).set_ 5 f).alloc o).six
theorem cell_byte_new (W : World) (c : UInt8) (j : Nat) (u : Value) (h : [byteV c][j]? = some u) : (W.alloc (.cells #[.int .u8 (c.toNat : Int)] 5)).cell? (Addr.add ⟨W.heap.size, 0, none⟩ j) = some u := by
  have hb := (Blk.new W 5 #[.int .u8 (c.toNat : Int)]).cell j
  have he : Addr.add ⟨W.heap.size, 0, none⟩ j = ⟨W.heap.size, j, none⟩ := by simp [Addr.add]; omega
  rw [he, hb]; simpa [byteV] using h
theorem run_convert_bytes_none (w : World) : (convert 42 9 (.slice none 0 0)).run Tryz.prog w = .ok (.string (str [])) w := by kernel_rfl
theorem Keep.beyondLt {w w1 w2 : World} {p base : Nat} {o : Obj} (hk : Keep (· ≠ p) w w1) (hs : Keep (· < base) (w1.alloc o) w2) (hb : w.heap.size ≤ base) : Keep (· ≠ p) w w2 := by
  have ha : Keep (· ≠ p) w (w1.alloc o) := hk.alloc o
  exact ⟨hs.os.trans ha.os, hs.tape.trans ha.tape, hs.output.trans ha.output, Nat.le_trans ha.size hs.size, fun k hk' hX => (hs.block k (Nat.lt_of_lt_of_le hk' ha.size) (by omega)).trans (ha.block k hk' hX)⟩
theorem bytes_string {w : World} {v : Value} {base : Nat} {acc : List UInt8} (h : w.ownsRow base 5 1 v acc.length (acc.map byteV)) : (convert 42 9 v).run Tryz.prog w = .ok (.string (str acc)) w := by
  rcases h.2 with ⟨rfl, h0⟩ | ⟨g, cap, cur, rfl, a1, a2, a3, a4, a5, a6⟩
  · have : acc = [] := List.length_eq_zero_iff.1 h0
    subst this
    exact run_convert_bytes_none w
  · refine run_convert_bytes_back w _ _ 5 ⟨g, 0, none⟩ cap acc Tryz.underlying42 Tryz.underlying5 Tryz.underlying9 fun j hj => ?_
    have hb : Blk w g 5 cur := a2
    have he : Addr.add ⟨g, 0, none⟩ j = ⟨g, j, none⟩ := by simp [Addr.add]; omega
    rw [he, hb.cell j]
    have h1 : (cur.toList.take (acc.length * 1))[j]? = (acc.map byteV)[j]? := by rw [a6]
    rw [List.getElem?_take_of_lt (by omega)] at h1
    rw [← Array.getElem?_toList, h1, List.getElem?_map, List.getElem?_eq_getElem hj]
    rfl
theorem infoU8 : (Tryz.prog.info? 5).map (fun i => (i.zero, i.size, i.bytes)) = some (some (.int .u8 0), 1, 1) := by kernel_rfl
def QuRel (w : World) (p : Nat) (L : List UInt8) (a : Nat) (X : R (List UInt8)) (W0 : World) (g : Nat) (v : Value) (wr : World) : Prop :=
  ∃ k acc, g = L.length + 1 - k ∧ k ≤ L.length ∧ acc.length ≤ k ∧ LxAt wr p L a k ∧ wr.ownsRow (w.heap.size + 1) 5 1 v acc.length (acc.map byteV) ∧ preL acc (quotL a k (L.drop k)) = X ∧ Keep (· ≠ p) W0 wr
theorem quotedL_eq (a : Nat) (L : List UInt8) : quotedL a (L.drop a) = match quotL a (a + 1) (L.drop (a + 1)) with
  | .bad e q => .bad e q
  | .good s n r => if 64 < s.length then .bad 2 a else .good ⟨1, s, 0, true⟩ n r := by
  unfold quotedL
  rw [List.drop_drop]
  cases quotL a (a + 1) (L.drop (a + 1)) <;> rfl
def QuDone (a : Nat) : R (List UInt8) → R Tk
  | .bad e q => .bad e q
  | .good s n r => if 64 < s.length then .bad 2 a else .good ⟨1, s, 0, true⟩ n r
set_option maxRecDepth 1000000 in
set_option maxHeartbeats 8000000 in
theorem quoted_any {w : World} {p : Nat} {L : List UInt8} {a : Nat} (h : LxAt w p L a a) (hl1 : a + 1 ≤ L.length) : Calls Tryz.prog 102 #[.pointer (some ⟨p, 0, none⟩)] w
    (TokPost w p L a (quotedL a (L.drop a))) := by
  have hp := h.blk.lt
  have c2 := h.c2
  have dz := h.blk.frozen 2
  have hlen := h.len
  obtain ⟨i0, hi0, hz0, hz1, hz2⟩ := info_parts infoU8
  have h0 : LxAt (w.setCell ⟨p, 2, none⟩ (.int .i64 ((a : Int) + 1))) p L a (a + 1) := h.to' (by omega) (by omega)
  have hk0 := (Keep.refl (· ≠ p) w).setCell (p := ⟨p, 2, none⟩) (by simp) (.int .i64 ((a : Int) + 1))
  have hsz : (w.setCell ⟨p, 2, none⟩ (.int .i64 ((a : Int) + 1))).heap.size = w.heap.size := by simp [World.setCell]
  have h2 := h0.keep ((Keep.refl (fun _ => True) _).alloc (.cells zCells 75)) trivial
  have hk2 := hk0.alloc (.cells zCells 75)
  have hb2 := Blk.new (w.setCell ⟨p, 2, none⟩ (.int .i64 ((a : Int) + 1))) 75 zCells
  rw [hsz] at hb2
  have hws : ((w.setCell ⟨p, 2, none⟩ (.int .i64 ((a : Int) + 1))).alloc (.cells zCells 75)).heap.size = w.heap.size + 1 := by simp [World.setCell]
  rw [show quotedL a (L.drop a) = QuDone a (quotL a (a + 1) (L.drop (a + 1))) by rw [quotedL_eq]; rfl]
  obtain ⟨X, hX⟩ : ∃ X, quotL a (a + 1) (L.drop (a + 1)) = X := ⟨_, rfl⟩
  have HR : Hid (QuRel w p L a X ((w.setCell ⟨p, 2, none⟩ (.int .i64 ((a : Int) + 1))).alloc (.cells zCells 75)) (L.length + 1 - (a + 1)) (.slice none 0 0) ((w.setCell ⟨p, 2, none⟩ (.int .i64 ((a : Int) + 1))).alloc (.cells zCells 75))) :=
    Lib.hid ⟨a + 1, [], rfl, hl1, by simp, h2, World.ownsRow_nil _ _ _ _, by rw [preL_nil]; exact hX, Keep.refl _ _⟩
  rw [hX]
  have HWS := Lib.hid hws
  have HB := Lib.hid hb2
  have HK := Lib.hid hk2
  clear h h0 hk0 h2 hk2 hb2 hsz hws hX
  go_enter Tryz.func102, Tryz.ntmps102
  go_wp2_with fail
  clear c2 dz
  obtain ⟨W0, hW0⟩ : ∃ W0, (w.setCell ⟨p, 2, none⟩ (.int .i64 ((a : Int) + 1))).alloc (.cells zCells 75) = W0 := ⟨_, rfl⟩
  simp only [zCells] at hW0
  rw [hW0]
  simp only [zCells] at HR HWS HB HK
  rw [hW0] at HR HWS HB HK
  clear hW0
  go_loopg [4] (L.length + 1 - (a + 1)) (fun g v wr => QuRel w p L a X W0 g v wr)
  case atStart => exact HR.out
  case round =>
    clear HR
    obtain ⟨k, acc, hg, hkl, hak, hL, hrow, hX, hK⟩ := hrel
    have hiq := inQuotes_any hL
    have HG := Lib.hid hg
    have HROW := Lib.hid hrow
    have HX := Lib.hid hX
    have HKW := Lib.hid hK
    have hzw := hK.size
    clear hg hL hrow hX hK
    rcases hx : inQ (L.drop k) with ⟨c, n⟩ | _ | _ | code
    · rw [hx] at hiq
      have HIQ := Lib.hid hiq
      obtain ⟨n1, n2, n3⟩ := inQ_pos hx
      simp at n3
      have HQ := Lib.hid (quot_byte (o := a) (a := k) hx)
      clear hiq hx
      go_wp2_with fail
      refine HIQ.out.mono ?_
      rintro e w1 ⟨rfl, hl1, hk1⟩
      have HL1 := Lib.hid hl1
      have HK1 := Lib.hid (HKW.out.trans hk1)
      have HROW1 := Lib.hid (own_keep HROW.out hk1 (fun g hg => by omega))
      have hs1 := hk1.size
      have HWS2 := HWS.out
      clear hl1 hk1 HIQ HROW
      unfold byteV
      go_wp2_with (at_builtin; refine wpList_append_own _ rfl _ _ 42 rfl (w.heap.size + 1) 5 i0 (.int .u8 0) 1 1 Tryz.underlying42 hi0 hz0 hz1 hz2 rfl (by decide) _ _ _ rfl (HROW1.out.alloc _) ⟨w1.heap.size, 0, none⟩ 1 1 [byteV c] rfl rfl (cell_byte_new w1 c) (by simp [byteV, Value.oneCell']) (by unfold maxLen; omega) (by omega) (by simp; omega) ?_)
      intro v' w4 hown' hgrow _
      have hks1 := (Keep.refl (fun _ => True) w1).alloc (.cells #[.int .u8 (c.toNat : Int)] 5)
      have hg4 := grown_keep (HROW1.out.alloc (.cells #[.int .u8 (c.toNat : Int)] 5)) hgrow
      have HL4 := Lib.hid ((HL1.out.keep hks1 trivial).keep hg4 (by omega))
      have HROW4 := Lib.hid hown'
      have HKX := Lib.hid hg4
      clear hown' hgrow hks1 hg4
      have HK4 := Lib.hid (HK1.out.beyondLt HKX.out (by rw [HWS.out]; exact Nat.le_refl _))
      go_wp2_with fail
      go_roundg (L.length + 1 - (k + n))
      case measure => have := HG.out; omega
      case rel =>
        refine ⟨k + n, acc ++ [c], rfl, by omega, by simp; omega, HL4.out, ?_, ?_, HK4.out⟩
        · have := HROW4.out; simpa [byteV] using this
        · rw [← HX.out, HQ.out, List.drop_drop]
          cases quotL a (k + n) (L.drop (k + n)) <;> simp [preL]
    · rw [hx] at hiq
      have HIQ := Lib.hid hiq
      have HQ := Lib.hid (quot_close (o := a) (a := k) hx)
      clear hiq hx
      go_wp2_with fail
      refine HIQ.out.mono ?_
      rintro e w1 ⟨rfl, hl1, hk1⟩
      have HL1 := Lib.hid hl1
      have HK1 := Lib.hid (HKW.out.trans hk1)
      have hrow1 := own_keep HROW.out hk1 (fun g hg => by omega)
      have hcv := bytes_string hrow1
      have hs1 := hk1.size
      have HWS2 := HWS.out
      have hnm := named_any hl1 1 acc
      have hXX : QuDone a X = (if 64 < acc.length then R.bad 2 a else R.good ⟨1, acc, 0, true⟩ (k + 1) (L.drop (k + 1))) := by
        rw [← HX.out, HQ.out, List.drop_drop]; simp [preL, QuDone]
      have HXX := Lib.hid hXX
      have HNM := Lib.hid hnm
      clear hl1 hk1 HIQ HROW hnm hXX
      go_wp2_with fail
      refine HNM.out.mono ?_
      by_cases h64 : 64 < acc.length
      · rw [if_pos h64]
        rintro e w2 ⟨tv, ev, rfl, hf⟩
        obtain ⟨rfl, b, rfl, hF, hbs, hk2⟩ := hf
        have HF := Lib.hid hF
        have HBS := Lib.hid hbs
        have HK2 := Lib.hid (HK.out.trans (HK1.out.trans hk2))
        have HB2 := Lib.hid (HB.out.keep (HK1.out.trans hk2) (by omega))
        have hs2 := hk2.size
        clear hF hbs hk2 HNM hcv hrow1
        obtain ⟨b0, b1, b2, b3, b4, b5, z0, z1, z2, z3, z4, z5, hltb⟩ := HB2.out.six
        simp only [zCells, List.getElem?_toArray, List.getElem?_cons_zero, List.getElem?_cons_succ] at b0 b1 b2 b3 b4 b5
        unfold noTk faultV
        have Q := Lib.hid (HB2.out.set6a (.int .i64 0) (.string ⟨#[]⟩) (.int .i64 0) (.int .i64 0) (.bool false) (.bool false) (.cells #[.int .i64 0, .string ⟨#[]⟩, .int .i64 0, .int .i64 0, .bool false, .bool false] 75))
        have HS := Lib.hid ((keep6 w2 w.heap.size (.int .i64 0) (.string ⟨#[]⟩) (.int .i64 0) (.int .i64 0) (.bool false) (.bool false)).alloc (.cells #[.int .i64 0, .string ⟨#[]⟩, .int .i64 0, .int .i64 0, .bool false, .bool false] 75))
        go_wp2_with fail
        obtain ⟨q0, q1, q2, q3, q4, q5, _⟩ := Q.out
        simp only [List.getElem?_toArray, List.getElem?_cons_zero, List.getElem?_cons_succ] at q0 q1 q2 q3 q4 q5
        refine bodyPost_ret (v := .tuple #[.agg #[.int .i64 0, .string ⟨#[]⟩, .int .i64 0, .int .i64 0, .bool false, .bool false], faultV b]) (by simp [results, Tryz.results102, go_sem, faultV, q0, q1, q2, q3, q4, q5]) rfl ?_
        refine ⟨_, _, rfl, ?_⟩
        rw [HXX.out, if_pos h64]
        exact TokFacts.bad HF.out (by have := HBS.out; have := HWS.out; omega) (by have := HBS.out; have := HWS.out; omega) HK2.out HS.out (Nat.le_refl _)
      · rw [if_neg h64]
        rintro e w2 ⟨tv, ev, rfl, hf⟩
        obtain ⟨rfl, rfl, _, hl2, hk2⟩ := hf
        have HL2 := Lib.hid hl2
        have HK2 := Lib.hid (HK.out.trans (HK1.out.trans hk2))
        have HB2 := Lib.hid (HB.out.keep (HK1.out.trans hk2) (by omega))
        have hs2 := hk2.size
        obtain ⟨s1, hs1⟩ : ∃ s1, str acc = s1 := ⟨_, rfl⟩
        have HSX := Lib.hid hs1
        clear hl2 hk2 HNM hcv hrow1
        obtain ⟨b0, b1, b2, b3, b4, b5, z0, z1, z2, z3, z4, z5, hltb⟩ := HB2.out.six
        simp only [zCells, List.getElem?_toArray, List.getElem?_cons_zero, List.getElem?_cons_succ] at b0 b1 b2 b3 b4 b5
        unfold tkV
        simp only [hs1]
        rw [show (((1 : Nat) : Int)) = 1 from rfl]
        clear hs1
        have Q := Lib.hid (HB2.out.set6a (.int .i64 1) (.string s1) (.int .i64 0) (.int .i64 0) (.bool true) (.bool false) (.cells #[.int .i64 1, .string s1, .int .i64 0, .int .i64 0, .bool true, .bool false] 75))
        have HS := Lib.hid ((keep6 w2 w.heap.size (.int .i64 1) (.string s1) (.int .i64 0) (.int .i64 0) (.bool true) (.bool false)).alloc (.cells #[.int .i64 1, .string s1, .int .i64 0, .int .i64 0, .bool true, .bool false] 75))
        go_wp2_with fail
        obtain ⟨q0, q1, q2, q3, q4, q5, _⟩ := Q.out
        simp only [List.getElem?_toArray, List.getElem?_cons_zero, List.getElem?_cons_succ] at q0 q1 q2 q3 q4 q5
        refine bodyPost_ret (v := .tuple #[.agg #[.int .i64 1, .string s1, .int .i64 0, .int .i64 0, .bool true, .bool false], .nilIface]) (by simp [results, Tryz.results102, go_sem, q0, q1, q2, q3, q4, q5]) rfl ?_
        refine ⟨_, _, rfl, ?_⟩
        rw [HXX.out, if_neg h64]
        refine ⟨?_, rfl, rfl, HL2.out.keep HS.out (by omega), HK2.out.beyond HS.out (Nat.le_refl _)⟩
        rw [← HSX.out]; rfl
    · rw [hx] at hiq
      have HIQ := Lib.hid hiq
      have HXX := Lib.hid (show QuDone a X = R.bad 81 a by rw [← HX.out, quot_over hx]; rfl)
      clear hiq hx
      go_wp2_with fail
      refine HIQ.out.mono ?_
      rintro e w1 ⟨b, rfl, hF, hbs, hk1⟩
      have HF := Lib.hid hF
      have HK1 := Lib.hid (HK.out.trans (HKW.out.trans hk1))
      have hb := HB.out.keep (HKW.out.trans hk1) (by omega)
      have HBS := Lib.hid hbs
      clear hF hk1 hbs HIQ
      unfold faultV
      obtain ⟨b0, b1, b2, b3, b4, b5, z0, z1, z2, z3, z4, z5, hltb⟩ := hb.six
      simp only [zCells, List.getElem?_toArray, List.getElem?_cons_zero, List.getElem?_cons_succ] at b0 b1 b2 b3 b4 b5
      have Q := Lib.hid (hb.set6 (.int .i64 0) (.string ⟨#[]⟩) (.int .i64 0) (.int .i64 0) (.bool false) (.bool false))
      have HS := Lib.hid (keep6 w1 w.heap.size (.int .i64 0) (.string ⟨#[]⟩) (.int .i64 0) (.int .i64 0) (.bool false) (.bool false))
      clear hb
      go_wp2_with fail
      obtain ⟨q0, q1, q2, q3, q4, q5, _⟩ := Q.out
      simp at q0 q1 q2 q3 q4 q5
      refine bodyPost_ret (v := .tuple #[.agg #[.int .i64 0, .string ⟨#[]⟩, .int .i64 0, .int .i64 0, .bool false, .bool false], faultV b]) (by simp [results, Tryz.results102, go_sem, faultV, q0, q1, q2, q3, q4, q5]) rfl ?_
      refine ⟨_, _, rfl, ?_⟩
      rw [HXX.out]
      exact TokFacts.bad HF.out (by have := HBS.out; have := HWS.out; omega) (by have := HBS.out; have := HWS.out; omega) HK1.out HS.out (Nat.le_refl _)
    · rw [hx] at hiq
      have HIQ := Lib.hid hiq
      have HXX := Lib.hid (show QuDone a X = R.bad code k by rw [← HX.out, quot_bad hx]; rfl)
      clear hiq hx
      go_wp2_with fail
      refine HIQ.out.mono ?_
      rintro e w1 ⟨b, rfl, hF, hbs, hk1⟩
      have HF := Lib.hid hF
      have HK1 := Lib.hid (HK.out.trans (HKW.out.trans hk1))
      have hb := HB.out.keep (HKW.out.trans hk1) (by omega)
      have HBS := Lib.hid hbs
      clear hF hk1 hbs HIQ
      unfold faultV
      obtain ⟨b0, b1, b2, b3, b4, b5, z0, z1, z2, z3, z4, z5, hltb⟩ := hb.six
      simp only [zCells, List.getElem?_toArray, List.getElem?_cons_zero, List.getElem?_cons_succ] at b0 b1 b2 b3 b4 b5
      have Q := Lib.hid (hb.set6 (.int .i64 0) (.string ⟨#[]⟩) (.int .i64 0) (.int .i64 0) (.bool false) (.bool false))
      have HS := Lib.hid (keep6 w1 w.heap.size (.int .i64 0) (.string ⟨#[]⟩) (.int .i64 0) (.int .i64 0) (.bool false) (.bool false))
      clear hb
      go_wp2_with fail
      obtain ⟨q0, q1, q2, q3, q4, q5, _⟩ := Q.out
      simp at q0 q1 q2 q3 q4 q5
      refine bodyPost_ret (v := .tuple #[.agg #[.int .i64 0, .string ⟨#[]⟩, .int .i64 0, .int .i64 0, .bool false, .bool false], faultV b]) (by simp [results, Tryz.results102, go_sem, faultV, q0, q1, q2, q3, q4, q5]) rfl ?_
      refine ⟨_, _, rfl, ?_⟩
      rw [HXX.out]
      exact TokFacts.bad HF.out (by have := HBS.out; have := HWS.out; omega) (by have := HBS.out; have := HWS.out; omega) HK1.out HS.out (Nat.le_refl _)
end Go.Proofs.YtfkbbbjicaedmaaGreatDoor
