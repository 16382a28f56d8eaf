/-
  Package lex: a name or a variable. Conditions: a lexer in memory.
-/
import Derived.Test.YtfkbbbjicaedmaaGreatDoorQLx14
namespace Go.Proofs.YtfkbbbjicaedmaaGreatDoor
open Go.RowKit Go.Shelf Go.Maps
set_option linter.unusedVariables false
set_option linter.unusedSimpArgs false
def LtRel (f : List UInt8 → Nat) (w : World) (p : Nat) (L : List UInt8) (a : Nat) (g : Nat) (wr : World) : Prop :=
  ∃ k, g = L.length - k ∧ a ≤ k ∧ LxAt wr p L a k ∧ f (L.drop a) = (k - a) + f (L.drop k) ∧ Keep (· ≠ p) (w.alloc (.cells zCells 75)) wr
theorem letLen_cons (c : UInt8) (r : List UInt8) : letLen (c :: r) = if letB c then 1 + letLen r else 0 := by
  unfold letLen
  rw [List.takeWhile_cons]
  split
  · simp; omega
  · rfl
theorem name_eq (kind : Nat) {L : List UInt8} {a k : Nat} (h1 : a ≤ k) (h2 : k ≤ L.length) : nameL kind a (L.drop a) (k - a) = (if 64 < ((L.drop a).take (k - a)).length then .bad 2 a else .good ⟨kind, (L.drop a).take (k - a), 0, false⟩ k (L.drop k)) := by
  unfold nameL
  have e : ((L.drop a).take (k - a)).length = k - a := by rw [List.length_take, List.length_drop]; omega
  rw [e, List.drop_drop, show a + (k - a) = k by omega]
set_option maxRecDepth 1000000 in
set_option maxHeartbeats 8000000 in
theorem letters_any {w : World} {p : Nat} {L : List UInt8} {a : Nat} (h : LxAt w p L a a) (kind : Nat) : Calls Tryz.prog 95 #[.pointer (some ⟨p, 0, none⟩), .int .i64 kind] w
    (TokPost w p L a (nameL kind a (L.drop a) (letLen (L.drop a)))) := by
  have hp := h.blk.lt
  have h1 := h.keep ((Keep.refl (fun _ => True) w).alloc (.cells zCells 75)) trivial
  have HB := Lib.hid (Blk.new w 75 zCells)
  have HR : Hid (LtRel letLen w p L a (L.length - a) (w.alloc (.cells zCells 75))) := Lib.hid ⟨a, rfl, Nat.le_refl _, h1, by omega, Keep.refl _ _⟩
  obtain ⟨s, hsl⟩ : ∃ s, str L = s := ⟨_, rfl⟩
  have HSL := Lib.hid hsl
  have hlen := h.len
  obtain ⟨X, hX⟩ : ∃ X, nameL kind a (L.drop a) (letLen (L.drop a)) = X := ⟨_, rfl⟩
  rw [hX]
  have HX := Lib.hid hX
  clear hsl h h1 hX
  go_enter Tryz.func95, Tryz.ntmps95
  go_wp2_with fail
  go_loopg [] (L.length - a) (fun g wr => LtRel letLen w p L a g wr)
  case atStart => exact HR.out
  case round =>
    obtain ⟨k, hg, hak, hL, hF, hK⟩ := hrel
    clear HR
    have HG := Lib.hid hg
    have HF := Lib.hid hF
    have HK := Lib.hid hK
    have HL := Lib.hid hL
    have HAK := Lib.hid hak
    have hkl := hL.le
    clear hg hF hK hak
    have hov := fun n => isOver_q (hL.drewN n)
    have c0 := hL.c0
    rw [HSL.out] at c0
    have c2 := hL.c2
    have dz := hL.blk.frozen 2
    have hlt0 := hL.blk.lt
    clear hL
    obtain ⟨dk, hdk⟩ : ∃ dk, L.drop k = dk := ⟨_, rfl⟩
    rcases dk with _ | ⟨c, r⟩
    · have hov2 : ∀ n, Calls Tryz.prog 82 #[.pointer (some ⟨p, 0, none⟩)] (wr.drewN n) fun e w' => e = .returned (.bool true) ∧ ∃ m, w' = (wr.drewN n).drewN m := by
        intro n; have := hov n; rwa [decide_eq_true (by have h3 : L.length ≤ k := (by simpa using hdk); omega)] at this
      have HOV := Lib.hid hov2
      have HZ : Hid (letLen (L.drop a) = k - a) := Lib.hid (by rw [HF.out, hdk]; rfl)
      clear hov hov2 hdk
      go_wp2_with fail
      go_quiet ((go_at_call 82; exact Calls.quiet_of (HOV.out _)))
      go_wp2_with fail
      refine (read_any (HL.out.drewN _) HAK.out).mono ?_
      rintro e w3 ⟨rfl, hk3⟩
      have hl3 := (HL.out.drewN nq).keep hk3 trivial
      have hkk := (HK.out.drewN nq).trans (hk3.less (Y := (· ≠ p)) (fun _ _ => trivial))
      have hnm := named_any hl3 kind ((L.drop a).take (k - a))
      rw [show (if 64 < ((L.drop a).take (k - a)).length then R.bad 2 a else R.good ⟨kind, (L.drop a).take (k - a), 0, false⟩ k (L.drop k)) = X by rw [← name_eq kind HAK.out hkl, ← HZ.out]; exact HX.out] at hnm
      have HKK := Lib.hid hkk
      have HNM := Lib.hid hnm
      clear hk3 hl3 hkk hnm c0 c2 dz
      generalize str ((L.drop a).take (k - a)) = t3 at *
      go_wp2_with fail
      refine HNM.out.mono ?_
      rintro e w1 ⟨tv, ev, rfl, hf⟩
      obtain ⟨x0, x1, x2, x4, rfl⟩ := (TokIs.of hf).is
      have hb := HB.out.keep (HKK.out.trans hf.kept) (by omega)
      obtain ⟨b0, b1, b2, b3, b4, b5, z0, z1, z2, z3, z4, z5, hlt1⟩ := hb.six
      simp only [zCells, List.getElem?_toArray, List.getElem?_cons_zero, List.getElem?_cons_succ] at b0 b1 b2 b3 b4 b5
      have HFA := Lib.hid hf
      have Q := Lib.hid (hb.set6 (.int .i64 x0) (.string x1) (.int .i64 x2) (.int .i64 0) (.bool x4) (.bool false))
      have HS := Lib.hid (keep6 w1 w.heap.size (.int .i64 x0) (.string x1) (.int .i64 x2) (.int .i64 0) (.bool x4) (.bool false))
      clear hf hb
      go_wp2_with fail
      obtain ⟨q0, q1, q2, q3, q4, q5, _⟩ := Q.out
      simp at q0 q1 q2 q3 q4 q5
      refine bodyPost_ret (v := .tuple #[.agg #[.int .i64 x0, .string x1, .int .i64 x2, .int .i64 0, .bool x4, .bool false], ev]) (by simp [results, Tryz.results95, go_sem, q0, q1, q2, q3, q4, q5]) rfl ?_
      exact ⟨_, _, rfl, HFA.out.far ((Keep.refl _ w).alloc _ |>.trans HKK.out) (Nat.le_refl _) (Nat.lt_of_lt_of_le (by simp) HKK.out.size) hp HS.out⟩
    · obtain ⟨hlt, hdr, hat⟩ := str_at hdk
      have hks : k < s.size := by rw [← HSL.out, str_size]; exact hlt
      have hsk : (s[k]'hks) = c := by have e := HSL.out; subst e; exact hat _
      have hil := fun W => isLetter_any c W
      unfold byteV at hil
      have hov2 : ∀ n, Calls Tryz.prog 82 #[.pointer (some ⟨p, 0, none⟩)] (wr.drewN n) fun e w' => e = .returned (.bool false) ∧ ∃ m, w' = (wr.drewN n).drewN m := by
        intro n; have := hov n; rwa [decide_eq_false (by omega)] at this
      have HOV := Lib.hid hov2
      have HC := Lib.hid hdk
      have HD := Lib.hid hdr
      rcases hq : letB c with _ | _
      · rw [hq] at hil
        have HZ : Hid (letLen (L.drop a) = k - a) := Lib.hid (by rw [HF.out, hdk, letLen_cons, hq]; rfl)
        clear hov hov2 hdk hdr hat hq
        go_wp2_with fail
        go_quiet ((first | (go_at_call 82; exact Calls.quiet_of (HOV.out _)) | (go_at_call 109; exact Calls.quiet_of_same (hil _))))
        go_wp2_with fail
        refine (read_any (HL.out.drewN _) HAK.out).mono ?_
        rintro e w3 ⟨rfl, hk3⟩
        have hl3 := (HL.out.drewN nq).keep hk3 trivial
        have hkk := (HK.out.drewN nq).trans (hk3.less (Y := (· ≠ p)) (fun _ _ => trivial))
        have hnm := named_any hl3 kind ((L.drop a).take (k - a))
        rw [show (if 64 < ((L.drop a).take (k - a)).length then R.bad 2 a else R.good ⟨kind, (L.drop a).take (k - a), 0, false⟩ k (L.drop k)) = X by rw [← name_eq kind HAK.out hkl, ← HZ.out]; exact HX.out] at hnm
        have HKK := Lib.hid hkk
        have HNM := Lib.hid hnm
        clear hk3 hl3 hkk hnm c0 c2 dz
        generalize str ((L.drop a).take (k - a)) = t3 at *
        go_wp2_with fail
        refine HNM.out.mono ?_
        rintro e w1 ⟨tv, ev, rfl, hf⟩
        obtain ⟨x0, x1, x2, x4, rfl⟩ := (TokIs.of hf).is
        have hb := HB.out.keep (HKK.out.trans hf.kept) (by omega)
        obtain ⟨b0, b1, b2, b3, b4, b5, z0, z1, z2, z3, z4, z5, hlt1⟩ := hb.six
        simp only [zCells, List.getElem?_toArray, List.getElem?_cons_zero, List.getElem?_cons_succ] at b0 b1 b2 b3 b4 b5
        have HFA := Lib.hid hf
        have Q := Lib.hid (hb.set6 (.int .i64 x0) (.string x1) (.int .i64 x2) (.int .i64 0) (.bool x4) (.bool false))
        have HS := Lib.hid (keep6 w1 w.heap.size (.int .i64 x0) (.string x1) (.int .i64 x2) (.int .i64 0) (.bool x4) (.bool false))
        clear hf hb
        go_wp2_with fail
        obtain ⟨q0, q1, q2, q3, q4, q5, _⟩ := Q.out
        simp at q0 q1 q2 q3 q4 q5
        refine bodyPost_ret (v := .tuple #[.agg #[.int .i64 x0, .string x1, .int .i64 x2, .int .i64 0, .bool x4, .bool false], ev]) (by simp [results, Tryz.results95, go_sem, q0, q1, q2, q3, q4, q5]) rfl ?_
        exact ⟨_, _, rfl, HFA.out.far ((Keep.refl _ w).alloc _ |>.trans HKK.out) (Nat.le_refl _) (Nat.lt_of_lt_of_le (by simp) HKK.out.size) hp HS.out⟩
      · rw [hq] at hil
        have HQ := Lib.hid hq
        clear hov hov2 hdk hdr hat hq
        go_wp2_with fail
        go_quiet ((first | (go_at_call 82; exact Calls.quiet_of (HOV.out _)) | (go_at_call 109; exact Calls.quiet_of_same (hil _))))
        go_wp2_with fail
        go_roundg (L.length - (k + 1))
        case measure => have := HG.out; omega
        case rel => exact ⟨k + 1, rfl, by have := HAK.out; omega, (HL.out.drewN nq).to' (by omega) (by omega), by rw [HF.out, HC.out, HD.out, letLen_cons, if_pos (HQ.out)]; have := HAK.out; omega, (HK.out.drewN nq).setCell (by simp) _⟩
end Go.Proofs.YtfkbbbjicaedmaaGreatDoor
