/-
  What the laws of package write rest on: the variables that are listed; lex.Tokens, lex.Bare, strconv.FormatInt as contracts; writes one behind the other. Conditions: those variables hold what the row says.
-/
import Derived.Test.YtfkbbbjicaedmaaGreatDoorQLx24
import Derived.Test.YtfkbbbjicaedmaaGreatDoorQLx11
import Derived.Test.YtfkbbbjicaedmaaGreatDoorQWrD
import Derived.Test.YtfkbbbjicaedmaaGreatDoorLayf
import Derived.Shelf.Strconv.Itoa4
import Derived.Lib.AppendIntMem
namespace Go.Proofs.YtfkbbbjicaedmaaGreatDoor
open Go.RowKit Go.Shelf Go.Maps
set_option linter.unusedVariables false
set_option linter.unusedSimpArgs false
structure LxVars (w : World) : Prop where
  rg : ∃ b, RangeOk w b
  mx : MaxOk w
  tab : Lib.TabIs Tryz.prog w "internal/strconv.uint64pow10" .u64 Lib.pow10Tab
theorem LxVars.keep {w w' : World} {X : Nat → Prop} (h : LxVars w) (hk : Keep X w w') (hX : ∀ g, g < w.heap.size → X g) : LxVars w' := by
  obtain ⟨b, hb⟩ := h.rg
  refine ⟨⟨b, hb.keep hk (hX _ (lt_cell hb))⟩, h.mx.keep hk (hX _ h.mx.lt), ?_⟩
  exact Lib.tabBelow_of_tabIs h.tab w' (hk.toBelow hX (Nat.le_refl _))
theorem tokens_v (L : List UInt8) {w : World} (h : LxVars w) : Calls Tryz.prog 61 #[.string (str L)] w (ToksPost w (tokens L)) := by
  obtain ⟨b, hb⟩ := h.rg
  exact tokens_any L hb h.mx
theorem str_list (a : List UInt8) : (str a).toList = a := by rw [ByteArray.toList_eq]; simp [str_data]
def bareR (L : List UInt8) : R (List Tok) → Bool
  | .good [t] _ _ => (t.tk.kind == 1) && (t.tk.text == L)
  | _ => false
def bareC (L : List UInt8) : Bool := bareR L (tokens L)
set_option maxRecDepth 1000000 in
set_option maxHeartbeats 8000000 in
theorem bare_any (L : List UInt8) {w : World} (hv : LxVars w) : Calls Tryz.prog 50 #[.string (str L)] w fun e w' => e = .returned (.bool (bareC L)) ∧ Below w.heap.size w w' := by
  have ht := tokens_v L hv
  have hsl := str_list L
  obtain ⟨s, hs⟩ : ∃ s, str L = s := ⟨_, rfl⟩
  unfold bareC
  rw [hs] at ht hsl ⊢
  rcases hx : tokens L with ⟨c, q⟩ | ⟨ts, n, r⟩
  · rw [hx] at ht
    have HT := Lib.hid ht
    clear ht hx
    go_enter Tryz.func50, Tryz.ntmps50
    go_wp2_with fail
    refine HT.out.mono ?_
    rintro e w1 ⟨b, rfl, hF, hbs, hB⟩
    have HB := Lib.hid hB
    clear hB hF hbs HT
    unfold faultV
    go_wp2_with fail
    go_ret
    exact ⟨rfl, HB.out⟩
  · rw [hx] at ht
    have HT := Lib.hid ht
    clear ht hx
    go_enter Tryz.func50, Tryz.ntmps50
    go_wp2_with fail
    refine HT.out.mono ?_
    rintro e w1 ⟨v, rfl, hT, hB⟩
    have HB := Lib.hid hB
    have HS := Lib.hid hT.sl
    clear hB hT HT
    obtain ⟨a, c, rfl, hc⟩ := HS.out
    by_cases h1 : ts.length = 1
    · obtain ⟨t, rfl⟩ := List.length_eq_one_iff.1 h1
      obtain ⟨g, o, rfl, _, hg, c0, c1, _⟩ := hc 0 t rfl
      have hbt := str_list t.tk.text
      simp only [List.length_cons, List.length_nil]
      simp only [Nat.zero_mul, Nat.add_zero] at c0 c1
      clear hc HS h1
      generalize str t.tk.text = s1 at *
      by_cases hk : t.tk.kind = 1
      · have hk' : ((t.tk.kind : Int) = 1) := by omega
        go_wp2_with fail
        go_ret
        refine ⟨?_, HB.out⟩
        simp [bareR, hk]
      · have hk' : ¬ ((t.tk.kind : Int) = 1) := by omega
        go_wp2_with fail
        go_ret
        refine ⟨?_, HB.out⟩
        simp [bareR, hk]
    · have h1' : ((ts.length : Int) == 1) = false := beq_eq_false_iff_ne.2 (by omega)
      clear hc HS
      go_wp2_with fail
      go_ret
      refine ⟨?_, HB.out⟩
      have : bareR L (.good ts n r) = false := by
        rcases ts with _ | ⟨t, _ | ⟨t', ts⟩⟩
        · rfl
        · exact absurd rfl h1
        · rfl
      rw [this]; rfl
theorem bare_k (L : List UInt8) {w : World} (hv : LxVars w) : Calls Tryz.prog 50 #[.string (str L)] w fun e w' => e = .returned (.bool (bareC L)) ∧ Keep (fun g => g < w.heap.size) w w' :=
  (bare_any L hv).mono fun e w' h => ⟨h.1, Keep.ofBelow h.2 fun k hk => hk⟩
theorem format_any (n : Int) (h : (ik n).wf = true) {w : World} (hv : LxVars w) : Calls Tryz.prog 38 #[.int .i64 n, .int .i64 10] w fun e w' => e = .returned (.string (str (Lib.itoa n))) ∧ Keep (fun g => g < w.heap.size) w w' := by
  have hb : -9223372036854775808 ≤ n ∧ n ≤ 9223372036854775807 := by
    have h' : (Lit.int .i64 n).wf = true := h
    simp [Lit.wf] at h'
    exact ⟨h'.1, h'.2⟩
  refine Calls.mono (Any.strconv_FormatInt_10 Tryz.fmtI n hb.1 hb.2 w hv.tab) ?_
  rintro e w' ⟨rfl, k, os, rfl⟩
  exact ⟨rfl, Keep.ofBelow (Lib.below_grow w.heap.size w (Nat.le_refl _) k os) fun k hk => hk⟩
section
variable {B b : Nat} {R R1 : Nat → Prop} {w w1 w2 : World} {l l1 l2 : List UInt8}
theorem Wr.next (k1 : Keep (fun g => g < w.heap.size ∧ ¬ R g) w w1) (h1 : ∀ k, R1 k → R k ∨ w.heap.size ≤ k) (h2 : Wr B R1 w1 w2 b l2) : Wr B R w w2 b l2 := by
  obtain ⟨⟨R2, h3, h4⟩, k2⟩ := h2
  refine ⟨⟨R2, h3, fun k hk => (h4 k hk).elim (h1 k) fun h => .inr (Nat.le_trans k1.size h)⟩, k1.trans (k2.less fun g hg => ⟨Nat.lt_of_lt_of_le hg.1 k1.size, fun hr => (h1 g hr).elim hg.2 fun h => absurd hg.1 (Nat.not_lt.2 h)⟩)⟩
end
end Go.Proofs.YtfkbbbjicaedmaaGreatDoor
