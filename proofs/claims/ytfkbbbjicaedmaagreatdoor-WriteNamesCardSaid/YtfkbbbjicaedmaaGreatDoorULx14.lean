/-
  Package lex: what stands next, said quietly; a full stop; a token of one byte. Conditions: a lexer in memory.
-/
import Derived.Test.YtfkbbbjicaedmaaGreatDoorULx7
import Derived.IntWalk
import Derived.Deep.LoopGhost
import Derived.Deep.QuietTactic
import Derived.BigQuiet
namespace Go.Proofs.YtfkbbbjicaedmaaGreatDoor
open Go.RowKit Go.Shelf Go.Maps
set_option linter.unusedVariables false
set_option linter.unusedSimpArgs false
theorem LxAt.drewN {w : World} {p : Nat} {L : List UInt8} {fr a : Nat} (h : LxAt w p L fr a) (n : Nat) : LxAt (w.drewN n) p L fr a := ⟨h.blk, h.le, h.len⟩
set_option maxRecDepth 100000 in
theorem isOver_q {w : World} {p : Nat} {L : List UInt8} {fr a : Nat} (h : LxAt w p L fr a) : Calls Tryz.prog 82 #[.pointer (some ⟨p, 0, none⟩)] w fun e w' => e = .returned (.bool (decide (a = L.length))) ∧ ∃ m, w' = w.drewN m := by
  have c0 := h.c0
  have c2 := h.c2
  have hs := str_size L
  have hlt := h.blk.lt
  generalize str L = s at *
  go_enter Tryz.func82, Tryz.ntmps82
  go_wp2
  go_region
  go_wp2
  go_ret
  refine ⟨?_, 1, rfl⟩
  rw [← hs]
  have : ((a : Int) == (s.size : Int)) = decide (a = s.size) := by
    by_cases hh : a = s.size
    · simp [hh]
    · have h2 : (a : Int) ≠ (s.size : Int) := by omega
      rw [decide_eq_false hh]; exact beq_eq_false_iff_ne.2 h2
  exact congrArg (fun b => Ending.returned (Value.bool b)) this
set_option maxRecDepth 100000 in
theorem begins_q {w : World} {p : Nat} {L : List UInt8} {fr a : Nat} (h : LxAt w p L fr a) (x : List UInt8) : Calls Tryz.prog 92 #[.pointer (some ⟨p, 0, none⟩), .string (str x)] w fun e w' => e = .returned (.bool (x.isPrefixOf (L.drop a))) ∧ ∃ m, w' = w.drewN m := by
  have c0 := h.c0
  have c2 := h.c2
  have hle := h.le
  have hs := str_size L
  have hd : (str L).extract a L.length = str (L.drop a) := by have h0 := drop_str L a; rwa [str_size] at h0
  have hlt := h.blk.lt
  have hp := fun W => hasPrefix_str W (L.drop a) x
  generalize str (L.drop a) = s1 at *
  generalize str x = s2 at *
  generalize str L = s at *
  go_enter Tryz.func92, Tryz.ntmps92
  go_wp2_with fail
  go_region_with (go_at_call 107; (try rw [hd]); refine (hp _).mono ?_; rintro e w' ⟨rfl, rfl⟩)
  all_goals
    go_wp2_with fail
    go_ret
    exact ⟨rfl, 1, rfl⟩
theorem TokFacts.kept {w : World} {p : Nat} {L : List UInt8} {fr : Nat} {tv ev : Value} {w' : World} {x : R Tk} (h : TokFacts w p L fr tv ev w' x) : Keep (· ≠ p) w w' := by
  cases x with
  | good t n r => exact h.2.2.2.2
  | bad c q => obtain ⟨_, b, _, _, _, hk⟩ := h; exact hk
theorem LxAt.to' {w : World} {p : Nat} {L : List UInt8} {fr a : Nat} (h : LxAt w p L fr a) {b : Nat} {x : Int} (hb : b ≤ L.length) (hx : x = b) : LxAt (w.setCell ⟨p, 2, none⟩ (.int .i64 x)) p L fr b := by subst hx; exact h.to hb
theorem LxAt.drew {w : World} {p : Nat} {L : List UInt8} {fr a : Nat} (h : LxAt w p L fr a) : LxAt w.drew p L fr a := ⟨h.blk.drew, h.le, h.len⟩
theorem str_at {L : List UInt8} {k : Nat} {c : UInt8} {r : List UInt8} (h : L.drop k = c :: r) : k < L.length ∧ L.drop (k + 1) = r ∧ ∀ hk : k < (str L).size, ((str L)[k]'hk) = c := by
  have h1 : k < L.length := by
    rcases Nat.lt_or_ge k L.length with h2 | h2
    · exact h2
    · rw [List.drop_eq_nil_of_le h2] at h; cases h
  refine ⟨h1, ?_, fun hk => ?_⟩
  · rw [← List.drop_drop, h]; rfl
  · have h3 : L[k]? = some c := by rw [← List.head?_drop, h]; rfl
    have : (str L)[k]'hk = (L.toArray)[k]'(by simpa using h1) := rfl
    rw [this]
    simp only [List.getElem_toArray]
    rw [List.getElem?_eq_getElem h1] at h3
    exact Option.some.inj h3
set_option maxRecDepth 100000 in
set_option maxHeartbeats 2000000 in
theorem single_any {w : World} {p : Nat} {L : List UInt8} {a : Nat} (h : LxAt w p L a a) (hlt : a < L.length) (kind : Nat) : Calls Tryz.prog 101 #[.pointer (some ⟨p, 0, none⟩), .int .i64 kind] w
    (TokPost w p L a (oneL kind a (L.drop a))) := by
  have hp := h.blk.lt
  have c2 := h.c2
  have dz := h.blk.frozen 2
  have hlen := h.len
  have h0 : LxAt (w.setCell ⟨p, 2, none⟩ (.int .i64 ((a : Int) + 1))) p L a (a + 1) := h.to' (by omega) (by omega)
  have hk0 := (Keep.refl (· ≠ p) w).setCell (p := ⟨p, 2, none⟩) (by simp) (.int .i64 ((a : Int) + 1))
  have hsz : (w.setCell ⟨p, 2, none⟩ (.int .i64 ((a : Int) + 1))).heap.size = w.heap.size := by simp [World.setCell]
  have h2 := h0.keep ((Keep.refl (fun _ => True) _).alloc (.cells zCells 75)) trivial
  have hk2 := hk0.alloc (.cells zCells 75)
  have hb2 := Blk.new (w.setCell ⟨p, 2, none⟩ (.int .i64 ((a : Int) + 1))) 75 zCells
  rw [hsz] at hb2
  have hr := read_any h2 (by omega)
  rw [show ((L.drop a).take (a + 1 - a)) = (L.drop a).take 1 by rw [show a + 1 - a = 1 by omega]] at hr
  have HR := Lib.hid hr
  have H2 := Lib.hid h2
  have HB := Lib.hid hb2
  have HK := Lib.hid hk2
  clear h h0 hk0 h2 hk2 hb2 hr hsz
  go_enter Tryz.func101, Tryz.ntmps101
  go_wp2_with fail
  refine HR.out.mono ?_
  rintro e w1 ⟨rfl, hk⟩
  have hb := HB.out.keep hk trivial
  have hl1 := H2.out.keep hk trivial
  have hk1 := HK.out.trans (hk.less (Y := (· ≠ p)) (fun _ _ => trivial))
  obtain ⟨t1, ht1⟩ : ∃ t1, str ((L.drop a).take 1) = t1 := ⟨_, rfl⟩
  rw [ht1]
  obtain ⟨b0, b1, b2, b3, b4, b5, z0, z1, z2, z3, z4, z5, hlt2⟩ := hb.six
  simp only [zCells, List.getElem?_toArray, List.getElem?_cons_zero, List.getElem?_cons_succ] at b0 b1 b2 b3 b4 b5
  have Q := Lib.hid (hb.set6 (.int .i64 kind) (.string t1) (.int .i64 0) (.int .i64 0) (.bool false) (.bool false))
  have HS := Lib.hid (keep6 w1 w.heap.size (.int .i64 kind) (.string t1) (.int .i64 0) (.int .i64 0) (.bool false) (.bool false))
  have HL1 := Lib.hid hl1
  have HK1 := Lib.hid hk1
  have HT := Lib.hid ht1
  clear hk hb hl1 hk1 ht1 c2 dz
  go_wp2_with fail
  obtain ⟨q0, q1, q2, q3, q4, q5, _⟩ := Q.out
  simp at q0 q1 q2 q3 q4 q5
  refine bodyPost_ret (v := .tuple #[.agg #[.int .i64 kind, .string t1, .int .i64 0, .int .i64 0, .bool false, .bool false], .nilIface]) (by simp [results, Tryz.results101, go_sem, q0, q1, q2, q3, q4, q5]) rfl ?_
  refine ⟨_, _, rfl, ?_, rfl, ?_, HL1.out.keep HS.out (by omega), ?_⟩
  · rw [← HT.out]; rfl
  · rw [List.drop_drop]
  · have hs := HS.out
    have hk := HK1.out
    exact ⟨hs.os.trans hk.os, hs.tape.trans hk.tape, hs.output.trans hk.output, Nat.le_trans hk.size hs.size, fun k hk' hX => (hs.block k (Nat.lt_of_lt_of_le hk' hk.size) (by omega)).trans (hk.block k hk' hX)⟩
end Go.Proofs.YtfkbbbjicaedmaaGreatDoor
namespace Go.Proofs.YtfkbbbjicaedmaaGreatDoor
open Go.RowKit Go.Shelf Go.Maps
set_option linter.unusedVariables false
set_option linter.unusedSimpArgs false
def LtRel (f : List UInt8 → Nat) (w : World) (p : Nat) (L : List UInt8) (a : Nat) (g : Nat) (wr : World) : Prop :=
  ∃ k, g = L.length - k ∧ a ≤ k ∧ LxAt wr p L a k ∧ f (L.drop a) = (k - a) + f (L.drop k) ∧ Keep (· ≠ p) (w.alloc (.cells zCells 75)) wr
theorem letLen_cons (c : UInt8) (r : List UInt8) : letLen (c :: r) = if letB c then 1 + letLen r else 0 := by
  unfold letLen
  rw [List.takeWhile_cons]
  split
  · simp; omega
  · rfl
theorem name_eq (kind : Nat) {L : List UInt8} {a k : Nat} (h1 : a ≤ k) (h2 : k ≤ L.length) : nameL kind a (L.drop a) (k - a) = (if 64 < ((L.drop a).take (k - a)).length then .bad 2 a else .good ⟨kind, (L.drop a).take (k - a), 0, false⟩ k (L.drop k)) := by
  unfold nameL
  have e : ((L.drop a).take (k - a)).length = k - a := by rw [List.length_take, List.length_drop]; omega
  rw [e, List.drop_drop, show a + (k - a) = k by omega]
set_option maxRecDepth 1000000 in
set_option maxHeartbeats 8000000 in
theorem letters_any {w : World} {p : Nat} {L : List UInt8} {a : Nat} (h : LxAt w p L a a) (kind : Nat) : Calls Tryz.prog 95 #[.pointer (some ⟨p, 0, none⟩), .int .i64 kind] w
    (TokPost w p L a (nameL kind a (L.drop a) (letLen (L.drop a)))) := by
  have hp := h.blk.lt
  have h1 := h.keep ((Keep.refl (fun _ => True) w).alloc (.cells zCells 75)) trivial
  have HB := Lib.hid (Blk.new w 75 zCells)
  have HR : Hid (LtRel letLen w p L a (L.length - a) (w.alloc (.cells zCells 75))) := Lib.hid ⟨a, rfl, Nat.le_refl _, h1, by omega, Keep.refl _ _⟩
  obtain ⟨s, hsl⟩ : ∃ s, str L = s := ⟨_, rfl⟩
  have HSL := Lib.hid hsl
  have hlen := h.len
  obtain ⟨X, hX⟩ : ∃ X, nameL kind a (L.drop a) (letLen (L.drop a)) = X := ⟨_, rfl⟩
  rw [hX]
  have HX := Lib.hid hX
  clear hsl h h1 hX
  go_enter Tryz.func95, Tryz.ntmps95
  go_wp2_with fail
  go_loopg [] (L.length - a) (fun g wr => LtRel letLen w p L a g wr)
  case atStart => exact HR.out
  case round =>
    obtain ⟨k, hg, hak, hL, hF, hK⟩ := hrel
    clear HR
    have HG := Lib.hid hg
    have HF := Lib.hid hF
    have HK := Lib.hid hK
    have HL := Lib.hid hL
    have HAK := Lib.hid hak
    have hkl := hL.le
    clear hg hF hK hak
    have hov := fun n => isOver_q (hL.drewN n)
    have c0 := hL.c0
    rw [HSL.out] at c0
    have c2 := hL.c2
    have dz := hL.blk.frozen 2
    have hlt0 := hL.blk.lt
    clear hL
    obtain ⟨dk, hdk⟩ : ∃ dk, L.drop k = dk := ⟨_, rfl⟩
    rcases dk with _ | ⟨c, r⟩
    · have hov2 : ∀ n, Calls Tryz.prog 82 #[.pointer (some ⟨p, 0, none⟩)] (wr.drewN n) fun e w' => e = .returned (.bool true) ∧ ∃ m, w' = (wr.drewN n).drewN m := by
        intro n; have := hov n; rwa [decide_eq_true (by have h3 : L.length ≤ k := (by simpa using hdk); omega)] at this
      have HOV := Lib.hid hov2
      have HZ : Hid (letLen (L.drop a) = k - a) := Lib.hid (by rw [HF.out, hdk]; rfl)
      clear hov hov2 hdk
      go_wp2_with fail
      go_quiet ((go_at_call 82; exact Calls.quiet_of (HOV.out _)))
      go_wp2_with fail
      refine (read_any (HL.out.drewN _) HAK.out).mono ?_
      rintro e w3 ⟨rfl, hk3⟩
      have hl3 := (HL.out.drewN nq).keep hk3 trivial
      have hkk := (HK.out.drewN nq).trans (hk3.less (Y := (· ≠ p)) (fun _ _ => trivial))
      have hnm := named_any hl3 kind ((L.drop a).take (k - a))
      rw [show (if 64 < ((L.drop a).take (k - a)).length then R.bad 2 a else R.good ⟨kind, (L.drop a).take (k - a), 0, false⟩ k (L.drop k)) = X by rw [← name_eq kind HAK.out hkl, ← HZ.out]; exact HX.out] at hnm
      have HKK := Lib.hid hkk
      have HNM := Lib.hid hnm
      clear hk3 hl3 hkk hnm c0 c2 dz
      generalize str ((L.drop a).take (k - a)) = t3 at *
      go_wp2_with fail
      refine HNM.out.mono ?_
      rintro e w1 ⟨tv, ev, rfl, hf⟩
      obtain ⟨x0, x1, x2, x4, rfl⟩ := (TokIs.of hf).is
      have hb := HB.out.keep (HKK.out.trans hf.kept) (by omega)
      obtain ⟨b0, b1, b2, b3, b4, b5, z0, z1, z2, z3, z4, z5, hlt1⟩ := hb.six
      simp only [zCells, List.getElem?_toArray, List.getElem?_cons_zero, List.getElem?_cons_succ] at b0 b1 b2 b3 b4 b5
      have HFA := Lib.hid hf
      have Q := Lib.hid (hb.set6 (.int .i64 x0) (.string x1) (.int .i64 x2) (.int .i64 0) (.bool x4) (.bool false))
      have HS := Lib.hid (keep6 w1 w.heap.size (.int .i64 x0) (.string x1) (.int .i64 x2) (.int .i64 0) (.bool x4) (.bool false))
      clear hf hb
      go_wp2_with fail
      obtain ⟨q0, q1, q2, q3, q4, q5, _⟩ := Q.out
      simp at q0 q1 q2 q3 q4 q5
      refine bodyPost_ret (v := .tuple #[.agg #[.int .i64 x0, .string x1, .int .i64 x2, .int .i64 0, .bool x4, .bool false], ev]) (by simp [results, Tryz.results95, go_sem, q0, q1, q2, q3, q4, q5]) rfl ?_
      exact ⟨_, _, rfl, HFA.out.far ((Keep.refl _ w).alloc _ |>.trans HKK.out) (Nat.le_refl _) (Nat.lt_of_lt_of_le (by simp) HKK.out.size) hp HS.out⟩
    · obtain ⟨hlt, hdr, hat⟩ := str_at hdk
      have hks : k < s.size := by rw [← HSL.out, str_size]; exact hlt
      have hsk : (s[k]'hks) = c := by have e := HSL.out; subst e; exact hat _
      have hil := fun W => isLetter_any c W
      unfold byteV at hil
      have hov2 : ∀ n, Calls Tryz.prog 82 #[.pointer (some ⟨p, 0, none⟩)] (wr.drewN n) fun e w' => e = .returned (.bool false) ∧ ∃ m, w' = (wr.drewN n).drewN m := by
        intro n; have := hov n; rwa [decide_eq_false (by omega)] at this
      have HOV := Lib.hid hov2
      have HC := Lib.hid hdk
      have HD := Lib.hid hdr
      rcases hq : letB c with _ | _
      · rw [hq] at hil
        have HZ : Hid (letLen (L.drop a) = k - a) := Lib.hid (by rw [HF.out, hdk, letLen_cons, hq]; rfl)
        clear hov hov2 hdk hdr hat hq
        go_wp2_with fail
        go_quiet ((first | (go_at_call 82; exact Calls.quiet_of (HOV.out _)) | (go_at_call 109; exact Calls.quiet_of_same (hil _))))
        go_wp2_with fail
        refine (read_any (HL.out.drewN _) HAK.out).mono ?_
        rintro e w3 ⟨rfl, hk3⟩
        have hl3 := (HL.out.drewN nq).keep hk3 trivial
        have hkk := (HK.out.drewN nq).trans (hk3.less (Y := (· ≠ p)) (fun _ _ => trivial))
        have hnm := named_any hl3 kind ((L.drop a).take (k - a))
        rw [show (if 64 < ((L.drop a).take (k - a)).length then R.bad 2 a else R.good ⟨kind, (L.drop a).take (k - a), 0, false⟩ k (L.drop k)) = X by rw [← name_eq kind HAK.out hkl, ← HZ.out]; exact HX.out] at hnm
        have HKK := Lib.hid hkk
        have HNM := Lib.hid hnm
        clear hk3 hl3 hkk hnm c0 c2 dz
        generalize str ((L.drop a).take (k - a)) = t3 at *
        go_wp2_with fail
        refine HNM.out.mono ?_
        rintro e w1 ⟨tv, ev, rfl, hf⟩
        obtain ⟨x0, x1, x2, x4, rfl⟩ := (TokIs.of hf).is
        have hb := HB.out.keep (HKK.out.trans hf.kept) (by omega)
        obtain ⟨b0, b1, b2, b3, b4, b5, z0, z1, z2, z3, z4, z5, hlt1⟩ := hb.six
        simp only [zCells, List.getElem?_toArray, List.getElem?_cons_zero, List.getElem?_cons_succ] at b0 b1 b2 b3 b4 b5
        have HFA := Lib.hid hf
        have Q := Lib.hid (hb.set6 (.int .i64 x0) (.string x1) (.int .i64 x2) (.int .i64 0) (.bool x4) (.bool false))
        have HS := Lib.hid (keep6 w1 w.heap.size (.int .i64 x0) (.string x1) (.int .i64 x2) (.int .i64 0) (.bool x4) (.bool false))
        clear hf hb
        go_wp2_with fail
        obtain ⟨q0, q1, q2, q3, q4, q5, _⟩ := Q.out
        simp at q0 q1 q2 q3 q4 q5
        refine bodyPost_ret (v := .tuple #[.agg #[.int .i64 x0, .string x1, .int .i64 x2, .int .i64 0, .bool x4, .bool false], ev]) (by simp [results, Tryz.results95, go_sem, q0, q1, q2, q3, q4, q5]) rfl ?_
        exact ⟨_, _, rfl, HFA.out.far ((Keep.refl _ w).alloc _ |>.trans HKK.out) (Nat.le_refl _) (Nat.lt_of_lt_of_le (by simp) HKK.out.size) hp HS.out⟩
      · rw [hq] at hil
        have HQ := Lib.hid hq
        clear hov hov2 hdk hdr hat hq
        go_wp2_with fail
        go_quiet ((first | (go_at_call 82; exact Calls.quiet_of (HOV.out _)) | (go_at_call 109; exact Calls.quiet_of_same (hil _))))
        go_wp2_with fail
        go_roundg (L.length - (k + 1))
        case measure => have := HG.out; omega
        case rel => exact ⟨k + 1, rfl, by have := HAK.out; omega, (HL.out.drewN nq).to' (by omega) (by omega), by rw [HF.out, HC.out, HD.out, letLen_cons, if_pos (HQ.out)]; have := HAK.out; omega, (HK.out.drewN nq).setCell (by simp) _⟩
end Go.Proofs.YtfkbbbjicaedmaaGreatDoor
namespace Go.Proofs.YtfkbbbjicaedmaaGreatDoor
open Go.RowKit Go.Shelf Go.Maps
set_option linter.unusedVariables false
set_option linter.unusedSimpArgs false
theorem str_ne {d : UInt8} {r : List UInt8} : (str (d :: r)).toList = d :: r := by
  rw [ByteArray.toList_eq]; exact str_data _
theorem str_zero {d : UInt8} {r : List UInt8} (h : 0 < (str (d :: r)).size) : ((str (d :: r))[0]'h) = d := by
  have : (str (d :: r))[0]'h = (d :: r).toArray[0]'(by simp) := rfl
  rw [this]; rfl
theorem stop_nil (c : UInt8) : stopB [c] = (c == 46) := by simp [stopB]
theorem stop_cons (c d : UInt8) (r : List UInt8) : stopB (c :: d :: r) = (c == 46 && (blankB d || d == 37)) := rfl
theorem pre_one (x c : UInt8) (r : List UInt8) : ([x] : List UInt8).isPrefixOf (c :: r) = (c == x) := by
  simp only [List.isPrefixOf, Bool.and_true]
  rw [Bool.eq_iff_iff]; constructor <;> intro h <;> (have := eq_of_beq h; subst this; simp)
theorem u8_eq (d x : UInt8) : ((d.toNat : Int) == (x.toNat : Int)) = (d == x) := by
  rw [Bool.eq_iff_iff]; simp
  constructor
  · intro h; exact UInt8.toNat_inj.1 (by omega)
  · rintro rfl; rfl
set_option maxRecDepth 1000000 in
set_option maxHeartbeats 4000000 in
theorem isEnd_q {w : World} {p : Nat} {L : List UInt8} {fr a : Nat} (h : LxAt w p L fr a) {c : UInt8} {r : List UInt8} (hcr : L.drop a = c :: r) : Calls Tryz.prog 103 #[.pointer (some ⟨p, 0, none⟩)] w fun e w' => e = .returned (.bool (stopB (c :: r))) ∧ ∃ m, w' = w.drewN m := by
  obtain ⟨hlt, hdr, _⟩ := str_at hcr
  have hbg := begins_q h [46]
  rw [hcr, pre_one, show str [46] = (⟨#[46]⟩ : ByteArray) from rfl] at hbg
  have HL := Lib.hid h
  have HC := Lib.hid hcr
  have HD := Lib.hid hdr
  have hlen := h.len
  clear h hcr hdr
  rcases hc : c == 46 with _ | _
  · rw [hc] at hbg
    have hst : stopB (c :: r) = false := by
      rcases r with _ | ⟨d, r⟩
      · rw [stop_nil, hc]
      · rw [stop_cons, hc]; rfl
    rw [hst]
    clear hst
    have HBG := Lib.hid hbg
    clear hbg hc
    go_enter Tryz.func103, Tryz.ntmps103
    go_wp2_with fail
    refine HBG.out.mono ?_
    rintro e w1 ⟨rfl, m, rfl⟩
    go_wp2_with fail
    go_ret
    exact ⟨rfl, m, rfl⟩
  · rw [hc] at hbg
    have HBG := Lib.hid hbg
    clear hbg
    have HCC := Lib.hid hc
    clear hc
    have hd : (str L).extract (a + 1) L.length = str r := by have h0 := drop_str L (a + 1); rw [str_size, HD.out] at h0; exact h0
    have hw := IntWalk.i64_in ((a : Int) + 1) (by omega)
    have hn : ((a : Int) + 1).toNat = a + 1 := by omega
    have h0 : (0 : Int) ≤ (a : Int) + 1 := by omega
    have hs := str_size L
    have c0 := HL.out.c0
    have c2 := HL.out.c2
    have hlt0 := HL.out.blk.lt
    generalize str L = s at *
    have HW := Lib.hid (And.intro hw (And.intro hn (And.intro hs hd)))
    clear hw hn hs hd
    rcases r with _ | ⟨d, r⟩
    · rw [stop_nil, HCC.out]
      have he : str [] = (⟨#[]⟩ : ByteArray) := rfl
      go_enter Tryz.func103, Tryz.ntmps103
      go_wp2_with fail
      refine HBG.out.mono ?_
      rintro e w1 ⟨rfl, m, rfl⟩
      obtain ⟨hw, hn, hs, hd⟩ := HW.out
      rw [he] at hd
      have c0 : (w.drewN m).cell? ⟨p, 0, none⟩ = some (.string s) := c0
      have c2 : (w.drewN m).cell? ⟨p, 2, none⟩ = some (.int .i64 a) := c2
      go_wp2_with fail
      go_region
      go_wp2_with fail
      go_ret
      exact ⟨rfl, m + 1, rfl⟩
    · rw [stop_cons, HCC.out, Bool.true_and]
      have hil := fun W => isBlank_any d W
      unfold byteV at hil
      have hte : (str (d :: r)).toList = d :: r := str_ne
      have hz : 0 < (str (d :: r)).size := by rw [str_size]; simp
      have hz0 := str_zero hz
      have h37 := u8_eq d 37
      rw [show (((37 : UInt8).toNat : Nat) : Int) = 37 from rfl] at h37
      generalize str (d :: r) = s2 at *
      have HI := Lib.hid hil
      have HZ := Lib.hid (And.intro hte (And.intro hz0 h37))
      clear hil hte hz0 h37
      go_enter Tryz.func103, Tryz.ntmps103
      go_wp2_with fail
      refine HBG.out.mono ?_
      rintro e w1 ⟨rfl, m, rfl⟩
      obtain ⟨hw, hn, hs, hd⟩ := HW.out
      obtain ⟨hte, hz0, h37⟩ := HZ.out
      have c0 : (w.drewN m).cell? ⟨p, 0, none⟩ = some (.string s) := c0
      have c2 : (w.drewN m).cell? ⟨p, 2, none⟩ = some (.int .i64 a) := c2
      go_wp2_with fail
      go_region
      clear hw hn hs hd
      go_wp2_with fail
      refine (HI.out _).mono ?_
      rintro e w2 ⟨rfl, rfl⟩
      rcases hb : blankB d with _ | _
      · go_wp2_with fail
        go_ret
        exact ⟨by simp [hb], m + 1, rfl⟩
      · go_wp2_with fail
        go_ret
        exact ⟨by simp [hb], m + 1, rfl⟩
end Go.Proofs.YtfkbbbjicaedmaaGreatDoor
namespace Go.Proofs.YtfkbbbjicaedmaaGreatDoor
open Go.RowKit Go.Shelf Go.Maps
set_option linter.unusedVariables false
set_option linter.unusedSimpArgs false
def InqPost (w : World) (p : Nat) (L : List UInt8) (fr a : Nat) (x : QR) (e : Ending) (w' : World) : Prop :=
  match x with
  | .byte c n => e = .returned (.tuple #[byteV c, .bool true, .nilIface]) ∧ LxAt w' p L fr (a + n) ∧ Keep (· ≠ p) w w'
  | .close => e = .returned (.tuple #[.int .u8 0, .bool false, .nilIface]) ∧ LxAt w' p L fr (a + 1) ∧ Keep (· ≠ p) w w'
  | .over => ∃ b, e = .returned (.tuple #[.int .u8 0, .bool false, faultV b]) ∧ FaultAt w' b 81 fr ∧ w.heap.size ≤ b ∧ Keep (· ≠ p) w w'
  | .bad code => ∃ b, e = .returned (.tuple #[.int .u8 0, .bool false, faultV b]) ∧ FaultAt w' b code a ∧ w.heap.size ≤ b ∧ Keep (· ≠ p) w w'
theorem InqPost.is {w : World} {p : Nat} {L : List UInt8} {fr a : Nat} {x : QR} {e : Ending} {w' : World} (h : InqPost w p L fr a x e w') : ∃ v0 v1 v2, e = .returned (.tuple #[v0, v1, v2]) := by
  cases x with
  | byte c n => exact ⟨_, _, _, h.1⟩
  | close => exact ⟨_, _, _, h.1⟩
  | over => obtain ⟨b, h, _⟩ := h; exact ⟨_, _, _, h⟩
  | bad c => obtain ⟨b, h, _⟩ := h; exact ⟨_, _, _, h⟩
theorem InqPost.from {w w0 : World} {p : Nat} {L : List UInt8} {fr a : Nat} {x : QR} {e : Ending} {w' : World} (hk : Keep (· ≠ p) w w0) (h : InqPost w0 p L fr a x e w') : InqPost w p L fr a x e w' := by
  have hs := hk.size
  cases x with
  | byte c n => exact ⟨h.1, h.2.1, hk.trans h.2.2⟩
  | close => exact ⟨h.1, h.2.1, hk.trans h.2.2⟩
  | over => obtain ⟨b, h1, h2, h3, h4⟩ := h; exact ⟨b, h1, h2, by omega, hk.trans h4⟩
  | bad c => obtain ⟨b, h1, h2, h3, h4⟩ := h; exact ⟨b, h1, h2, by omega, hk.trans h4⟩
set_option maxRecDepth 1000000 in
set_option maxHeartbeats 8000000 in
theorem escape_any {w : World} {p : Nat} {L : List UInt8} {fr a : Nat} (h : LxAt w p L fr a) {r : List UInt8} (hcr : L.drop a = 92 :: r) : Calls Tryz.prog 119 #[.pointer (some ⟨p, 0, none⟩)] w (InqPost w p L fr a (escL r)) := by
  obtain ⟨hlt, hdr, _⟩ := str_at hcr
  have HLX := Lib.hid h
  have hrl : r.length + a + 1 = L.length := by
    have := congrArg List.length hcr
    simp at this; omega
  have HD := Lib.hid hdr
  have hlen := h.len
  clear h hcr hdr
  have hd : (str L).extract (a + 1) L.length = str r := by have h0 := drop_str L (a + 1); rw [str_size, HD.out] at h0; exact h0
  have hw := IntWalk.i64_in ((a : Int) + 1) (by omega)
  have hn : ((a : Int) + 1).toNat = a + 1 := by omega
  have h0 : (0 : Int) ≤ (a : Int) + 1 := by omega
  have hs := str_size L
  have c0 := HLX.out.c0
  have c2 := HLX.out.c2
  have hlt0 := HLX.out.blk.lt
  generalize str L = s at *
  have HW := Lib.hid (And.intro hw (And.intro hn (And.intro hs hd)))
  have HK := Lib.hid (Keep.refl (· ≠ p) w)
  clear hw hn hs hd
  rcases r with _ | ⟨d, r⟩
  · have he : str [] = (⟨#[]⟩ : ByteArray) := rfl
    have hnf := fun W => new_any 81 fr (by decide) W
    have HN := Lib.hid hnf
    clear hnf
    go_enter Tryz.func119, Tryz.ntmps119
    obtain ⟨hw, hn, hs, hd⟩ := HW.out
    rw [he] at hd
    go_wp2_with fail
    go_region
    have c1 : w.drew.cell? ⟨p, 1, none⟩ = some (.int .i64 fr) := HLX.out.c1
    clear hw hn hs hd
    go_wp2_with fail
    refine (HN.out _).mono ?_
    rintro e w1 ⟨rfl, hF, hk⟩
    have HF := Lib.hid hF
    have HK1 := Lib.hid (HK.out.drew.trans (hk.less (Y := (· ≠ p)) (fun _ _ => trivial)))
    clear hF hk
    unfold faultV
    go_wp2_with fail
    go_ret3
    exact ⟨w.heap.size, rfl, HF.out, Nat.le_refl _, HK1.out⟩
  · have hte : (str (d :: r)).toList = d :: r := str_ne
    have hz : 0 < (str (d :: r)).size := by rw [str_size]; simp
    have hz0 := str_zero hz
    have h110 := u8_eq d 110
    have h116 := u8_eq d 116
    have h92 := u8_eq d 92
    have h39 := u8_eq d 39
    have h34 := u8_eq d 34
    rw [show (((110 : UInt8).toNat : Nat) : Int) = 110 from rfl] at h110
    rw [show (((116 : UInt8).toNat : Nat) : Int) = 116 from rfl] at h116
    rw [show (((92 : UInt8).toNat : Nat) : Int) = 92 from rfl] at h92
    rw [show (((39 : UInt8).toNat : Nat) : Int) = 39 from rfl] at h39
    rw [show (((34 : UInt8).toNat : Nat) : Int) = 34 from rfl] at h34
    generalize str (d :: r) = s2 at *
    have hl2 : a + 2 ≤ L.length := by simp at hrl; omega
    have HZ := Lib.hid (And.intro hte hz0)
    have hnf := fun W => new_any 82 a (by decide) W
    have HN := Lib.hid hnf
    clear hnf
    clear hte hz0
    have hes : escL (d :: r) = if d == 110 then .byte 10 2 else if d == 116 then .byte 9 2 else if d == 92 || (d == 39 || d == 34) then .byte d 2 else .bad 82 := rfl
    rw [hes]
    clear hes
    rcases e110 : d == 110 with _ | _
    rotate_left
    · rw [e110] at h110
      simp only [Bool.false_eq_true, if_false, if_true, Bool.true_or, Bool.or_true, Bool.false_or, Bool.or_false]
      obtain ⟨hte, hz0⟩ := HZ.out
      obtain ⟨hw, hn, hs, hd⟩ := HW.out
      go_enter Tryz.func119, Tryz.ntmps119
      go_wp2_with fail
      go_region
      clear hw hn hs hd
      have c2' : w.drew.cell? ⟨p, 2, none⟩ = some (.int .i64 a) := HLX.out.c2
      have dz' : w.drew.frozen? ⟨p, 2, none⟩ = false := HLX.out.blk.frozen 2
      go_wp2_with fail
      go_ret3
      exact ⟨rfl, HLX.out.drew.to' hl2 (by omega), HK.out.drew.setCell (by simp) _⟩
    · rw [e110] at h110
      rcases e116 : d == 116 with _ | _
      rotate_left
      · rw [e116] at h116
        simp only [Bool.false_eq_true, if_false, if_true, Bool.true_or, Bool.or_true, Bool.false_or, Bool.or_false]
        obtain ⟨hte, hz0⟩ := HZ.out
        obtain ⟨hw, hn, hs, hd⟩ := HW.out
        go_enter Tryz.func119, Tryz.ntmps119
        go_wp2_with fail
        go_region
        clear hw hn hs hd
        have c2' : w.drew.cell? ⟨p, 2, none⟩ = some (.int .i64 a) := HLX.out.c2
        have dz' : w.drew.frozen? ⟨p, 2, none⟩ = false := HLX.out.blk.frozen 2
        go_wp2_with fail
        go_ret3
        exact ⟨rfl, HLX.out.drew.to' hl2 (by omega), HK.out.drew.setCell (by simp) _⟩
      · rw [e116] at h116
        rcases e92 : d == 92 with _ | _
        rotate_left
        · rw [e92] at h92
          simp only [Bool.false_eq_true, if_false, if_true, Bool.true_or, Bool.or_true, Bool.false_or, Bool.or_false]
          unfold InqPost byteV
          obtain ⟨hte, hz0⟩ := HZ.out
          obtain ⟨hw, hn, hs, hd⟩ := HW.out
          go_enter Tryz.func119, Tryz.ntmps119
          go_wp2_with fail
          go_region
          clear hw hn hs hd
          have c2' : w.drew.cell? ⟨p, 2, none⟩ = some (.int .i64 a) := HLX.out.c2
          have dz' : w.drew.frozen? ⟨p, 2, none⟩ = false := HLX.out.blk.frozen 2
          go_wp2_with fail
          go_ret3
          exact ⟨rfl, HLX.out.drew.to' hl2 (by omega), HK.out.drew.setCell (by simp) _⟩
        · rw [e92] at h92
          rcases e39 : d == 39 with _ | _
          rotate_left
          · rw [e39] at h39
            simp only [Bool.false_eq_true, if_false, if_true, Bool.true_or, Bool.or_true, Bool.false_or, Bool.or_false]
            unfold InqPost byteV
            obtain ⟨hte, hz0⟩ := HZ.out
            obtain ⟨hw, hn, hs, hd⟩ := HW.out
            go_enter Tryz.func119, Tryz.ntmps119
            go_wp2_with fail
            go_region
            clear hw hn hs hd
            have c2' : w.drew.cell? ⟨p, 2, none⟩ = some (.int .i64 a) := HLX.out.c2
            have dz' : w.drew.frozen? ⟨p, 2, none⟩ = false := HLX.out.blk.frozen 2
            go_wp2_with fail
            go_ret3
            exact ⟨rfl, HLX.out.drew.to' hl2 (by omega), HK.out.drew.setCell (by simp) _⟩
          · rw [e39] at h39
            rcases e34 : d == 34 with _ | _
            rotate_left
            · rw [e34] at h34
              simp only [Bool.false_eq_true, if_false, if_true, Bool.true_or, Bool.or_true, Bool.false_or, Bool.or_false]
              unfold InqPost byteV
              obtain ⟨hte, hz0⟩ := HZ.out
              obtain ⟨hw, hn, hs, hd⟩ := HW.out
              go_enter Tryz.func119, Tryz.ntmps119
              go_wp2_with fail
              go_region
              clear hw hn hs hd
              have c2' : w.drew.cell? ⟨p, 2, none⟩ = some (.int .i64 a) := HLX.out.c2
              have dz' : w.drew.frozen? ⟨p, 2, none⟩ = false := HLX.out.blk.frozen 2
              go_wp2_with fail
              go_ret3
              exact ⟨rfl, HLX.out.drew.to' hl2 (by omega), HK.out.drew.setCell (by simp) _⟩
            · rw [e34] at h34
              simp only [Bool.false_eq_true, if_false, if_true, Bool.or_self]
              obtain ⟨hte, hz0⟩ := HZ.out
              obtain ⟨hw, hn, hs, hd⟩ := HW.out
              go_enter Tryz.func119, Tryz.ntmps119
              go_wp2_with fail
              go_region
              clear hw hn hs hd
              have c2' : w.drew.cell? ⟨p, 2, none⟩ = some (.int .i64 a) := HLX.out.c2
              have dz' : w.drew.frozen? ⟨p, 2, none⟩ = false := HLX.out.blk.frozen 2
              go_wp2_with fail
              refine (HN.out _).mono ?_
              rintro e w1 ⟨rfl, hF, hk⟩
              have HF := Lib.hid hF
              have HK1 := Lib.hid (HK.out.drew.trans (hk.less (Y := (· ≠ p)) (fun _ _ => trivial)))
              clear hF hk
              unfold faultV
              go_wp2_with fail
              go_ret3
              exact ⟨w.heap.size, rfl, HF.out, Nat.le_refl _, HK1.out⟩
end Go.Proofs.YtfkbbbjicaedmaaGreatDoor
