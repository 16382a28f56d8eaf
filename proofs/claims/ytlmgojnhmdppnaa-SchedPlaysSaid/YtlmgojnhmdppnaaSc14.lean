/-
  The contracts of the document's own Wake and Spawn. Conditions: fewer than 2^43 threads.
-/
import Derived.Test.YtlmgojnhmdppnaaSc13
namespace Go.Proofs.Ytlmgojnhmdppnaa
open Go.RowKit Go.Maps
set_option linter.unusedVariables false

/-! ### Wake -/
def wkS (key : Int) (p : RS) (m : Nat) : RS := if p.st.getD m 0 = 2 ∧ p.keys.getD m 0 = key then p.put m 1 0 else p
def wkN (key : Int) (p : RS) (m : Nat) : Nat := if p.st.getD m 0 = 2 ∧ p.keys.getD m 0 = key then 1 else 0
def wkR (key : Int) (r : RS) : Nat → RS
  | 0 => r
  | m + 1 => wkS key (wkR key r m) m
def wkC (key : Int) (r : RS) : Nat → Nat
  | 0 => 0
  | m + 1 => wkC key r m + wkN key (wkR key r m) m
theorem wkR_len (key : Int) (r : RS) (m : Nat) : (wkR key r m).st.length = r.st.length := by
  induction m with
  | zero => rfl
  | succ m ih =>
    show (wkS key (wkR key r m) m).st.length = _
    unfold wkS
    split
    · simp [RS.put, ih]
    · exact ih
theorem wkC_le (key : Int) (r : RS) (m : Nat) : wkC key r m ≤ m := by
  induction m with
  | zero => exact Nat.le_refl _
  | succ m ih => simp only [wkC, wkN]; split <;> omega

set_option maxRecDepth 100000 in
set_option maxHeartbeats 2000000 in
theorem rwake_any {w : World} {sa ka : Option Addr} {sc kc : Nat} {r : RS} (h : RAt w sa sc ka kc r) (hn : r.st.length ≤ 8796093022208) (ky : Int) :
    Calls Try.prog 98 #[rv sa sc ka kc r, .int .i64 ky] w fun e w' => ∃ sa' sc' ka' kc', e = .returned (.tuple #[rv sa' sc' ka' kc' (wkR ky r r.st.length), .int .i64 (wkC ky r r.st.length)]) ∧ RAt w' sa' sc' ka' kc' (wkR ky r r.st.length) ∧ Below w.heap.size w w' := by
  have BX0 := Lib.hid (Bx.laid (sa := sa) (sc := sc) (ka := ka) (kc := kc) (r := r) w)
  have h0 := h.keep (((NumKeep.below ((Below.refl _ _).alloc (Nat.le_refl _) (.cells (rc sa sc ka kc r) 82))).trans (NumKeep.below ((Below.refl _ _).alloc (Nat.le_refl _) (.cells #[.slice none 0 0, .slice none 0 0, .int .i64 0, .int .i64 0, .int .i64 0] 82)))))
  have HR0 := Lib.hid h0; clear h0 h
  have HL := Lib.hid (wkR_len ky r)
  have HC := Lib.hid (wkC_le ky r)
  have HP : Hid (∀ W sa sc ka kc r' m, RAt W sa sc ka kc r' → r'.st.length = r.st.length → m < r.st.length → Calls Try.prog 121 #[rv sa sc ka kc r', .int .i64 ((m : Int) + 1), .int .i64 1, .int .i64 0] W fun e w' => ∃ sa' sc' ka' kc', e = .returned (rv sa' sc' ka' kc' (r'.put m 1 0)) ∧ RAt w' sa' sc' ka' kc' (r'.put m 1 0) ∧ Below W.heap.size W w') := Lib.hid (fun W sa sc ka kc r' m hh h1 h2 => rput_any hh (by omega) (by omega) 1 0)
  have hE : Hid (∀ m, m = r.st.length → wkR ky r m = wkR ky r r.st.length ∧ wkC ky r m = wkC ky r r.st.length) := Lib.hid (fun m hm => by rw [hm]; exact ⟨rfl, rfl⟩)
  have hR0 : Hid (wkR ky r 0 = r ∧ wkC ky r 0 = 0) := Lib.hid ⟨rfl, rfl⟩
  have hR1 : Hid (∀ m, wkR ky r (m + 1) = wkS ky (wkR ky r m) m ∧ wkC ky r (m + 1) = wkC ky r m + wkN ky (wkR ky r m) m) := Lib.hid (fun m => ⟨rfl, rfl⟩)
  generalize hw1 : wkR ky r = F at *
  generalize hw2 : wkC ky r = G at *
  clear hw1 hw2
  have hrel0 : ∃ sa' sc' ka' kc', Bx w sa' sc' ka' kc' (F 0) ((w.alloc (.cells (rc sa sc ka kc r) 82)).alloc (.cells #[.slice none 0 0, .slice none 0 0, .int .i64 0, .int .i64 0, .int .i64 0] 82)) ∧ RAt ((w.alloc (.cells (rc sa sc ka kc r) 82)).alloc (.cells #[.slice none 0 0, .slice none 0 0, .int .i64 0, .int .i64 0, .int .i64 0] 82)) sa' sc' ka' kc' (F 0) := by
    rw [hR0.out.1]; exact ⟨sa, sc, ka, kc, BX0.out, HR0.out⟩
  have HREL0 := Lib.hid hrel0; clear hrel0
  have hG0 : G 0 = 0 := hR0.out.2
  unfold rc at BX0 HR0 HREL0
  unfold rv at HP ⊢
  clear BX0 HR0
  go_enter Try.func98, Try.ntmps98
  go_wp2_with fail
  go_loopw [6, 7] (fun c j wr => ∃ m : Nat, m ≤ r.st.length ∧ j = .int .i64 m ∧ c = .int .i64 (G m) ∧ ∃ sa' sc' ka' kc', Bx w sa' sc' ka' kc' (F m) wr ∧ RAt wr sa' sc' ka' kc' (F m)) (fun _ j _ => r.st.length - (intOf j).toNat)
  case atStart => exact ⟨0, by omega, rfl, by rw [hG0]; rfl, HREL0.out⟩
  case round =>
    clear HREL0 hG0
    obtain ⟨m, hm, rfl, rfl, sa', sc', ka', kc', hbx, hra⟩ := hrel
    obtain ⟨c0, c1, c2, c3, c4, f0, f1, f2, f3, f4⟩ := hbx.box.five
    have hl := HL.out m
    have hc := HC.out m
    rw [hl] at c0 c1
    have zs := hbx.siz
    have BX := Lib.hid hbx; clear hbx
    have RA := Lib.hid hra; clear hra
    by_cases hlt : m < r.st.length
    · obtain ⟨e1, e2⟩ := hR1.out m
      generalize F m = p at *
      generalize G m = g at *
      have hkl := RA.out.len
      obtain ⟨b1, o1, rfl, hlb1, d1⟩ := RA.out.ints1 m (by omega)
      obtain ⟨b2, o2, rfl, hlb2, d2⟩ := RA.out.ints2 m (by omega)
      generalize hx1 : p.st.getD m 0 = y1 at d1
      generalize hx2 : p.keys.getD m 0 = y2 at d2
      by_cases hy : y1 = 2 ∧ y2 = ky
      · obtain ⟨rfl, rfl⟩ := hy
        have e3 : wkS y2 p m = p.put m 1 0 := by unfold wkS; rw [if_pos ⟨hx1, hx2⟩]
        have e4 : wkN y2 p m = 1 := by unfold wkN; rw [if_pos ⟨hx1, hx2⟩]
        rw [e3] at e1
        rw [e4] at e2
        have E1 := Lib.hid e1; clear e1 e3
        have E2 := Lib.hid e2; clear e2 e4
        have hp := HP.out _ _ _ _ _ p m RA.out hl hlt
        have HPP := Lib.hid hp; clear hp
        have hb2 : (y2 == y2) = true := by simp
        rw [hl] at HPP
        clear hx1 hx2 hkl hl
        go_wp2_with fail
        refine HPP.out.mono ?_
        rintro e w3 ⟨sa2, sc2, ka2, kc2, rfl, hra3, b3⟩
        have hbx3 := BX.out.below b3
        obtain ⟨r0, r1, r2, r3, r4, q0, q1, q2, q3, q4⟩ := hbx3.box.five
        obtain ⟨t1, t2⟩ := hbx3.turn sa2 sc2 ka2 kc2 (p.put m 1 0)
        have hz3 := b3.size
        have BX3 := Lib.hid t1; clear t1
        have RA3 := Lib.hid (hra3.keep t2); clear t2 hra3 b3 hbx3
        clear c0 c1 c2 c3 c4 f0 f1 f2 f3 f4 d1 d2
        generalize p.put m 1 0 = p' at E1 BX3 RA3 ⊢
        go_wp2_with fail
        go_roundw
        case rel => exact ⟨m + 1, by omega, by go_num, by rw [E2.out]; go_num, sa2, sc2, ka2, kc2, by rw [E1.out]; exact BX3.out, by rw [E1.out]; exact RA3.out⟩
        case measure => simp [intOf]; omega
      · have hy' : ¬ (p.st.getD m 0 = 2 ∧ p.keys.getD m 0 = ky) := by rw [hx1, hx2]; exact hy
        have e3 : wkS ky p m = p := by unfold wkS; rw [if_neg hy']
        have e4 : wkN ky p m = 0 := by unfold wkN; rw [if_neg hy']
        rw [e3] at e1
        rw [e4] at e2
        have E1 := Lib.hid e1; clear e1 e3
        have E2 := Lib.hid e2; clear e2 e4
        clear hx1 hx2 hkl hl hy'
        by_cases h2 : y1 = 2
        · subst h2
          have hb2 : (y2 == ky) = false := by simp at hy; simpa using hy
          clear hy
          go_wp2_with fail
          go_roundw
          case rel => exact ⟨m + 1, by omega, by go_num, by rw [E2.out]; rfl, _, _, _, _, by rw [E1.out]; exact BX.out, by rw [E1.out]; exact RA.out⟩
          case measure => simp [intOf]; omega
        · have hb2 : (y1 == 2) = false := by simpa using h2
          clear hy h2
          go_wp2_with fail
          go_roundw
          case rel => exact ⟨m + 1, by omega, by go_num, by rw [E2.out]; rfl, _, _, _, _, by rw [E1.out]; exact BX.out, by rw [E1.out]; exact RA.out⟩
          case measure => simp [intOf]; omega
    · have hmm : m = r.st.length := by omega
      obtain ⟨e1, e2⟩ := hE.out m hmm
      rw [e1] at BX RA
      rw [e1] at c2 c3 c4 hl
      rw [e2]
      have HLL := Lib.hid hl; clear hl
      clear e1 e2 hE HL HC hR0 hR1
      obtain ⟨p, hp⟩ : ∃ p, F r.st.length = p := ⟨_, rfl⟩
      obtain ⟨g, hg⟩ : ∃ g, G r.st.length = g := ⟨_, rfl⟩
      rename_i Q1 K1 hK1
      simp only [hp] at BX RA c2 c3 c4 HLL
      have HPE := Lib.hid hp; clear hp
      have HGE := Lib.hid hg
      rw [hg]
      clear hg
      obtain ⟨r0, r1, r2, r3, r4, q0, q1, q2, q3, q4⟩ := BX.out.res.five
      obtain ⟨t1, t2⟩ := BX.out.fin (.slice sa' r.st.length sc') (.slice ka' r.st.length kc') (.int .i64 p.most) (.int .i64 p.good) (.int .i64 p.bad)
      have F1 := Lib.hid (RA.out.keep t1); clear t1
      have F2 := Lib.hid t2; clear t2
      clear hmm BX RA HP
      go_wp2_with fail
      refine bodyPost_ret (v := .tuple #[.agg #[.slice sa' r.st.length sc', .slice ka' r.st.length kc', .int .i64 p.most, .int .i64 p.good, .int .i64 p.bad], .int .i64 g]) (by simp [results, Try.results98, go_sem, r0, r1, r2, r3, r4]) rfl ⟨sa', sc', ka', kc', ?_, ?_, F2.out⟩
      · rw [HPE.out, HGE.out, HLL.out]
      · rw [HPE.out]; exact F1.out
end Go.Proofs.Ytlmgojnhmdppnaa
