/-
  Package term's contracts, each with its answer named. No condition.
-/
import Derived.Test.YtnfcbalppecnfaaGreatPMQ
namespace Go.Proofs.YtnfcbalppecnfaaGreat
open Go.RowKit Go.Maps
set_option linter.unusedVariables false
set_option linter.unusedSimpArgs false
section
variable {w : World} {t u x : Tm} {a b : Option Addr} {c d : Nat}
theorem rename_sx {m n e : Int} (hT : TmAt w.heap.size w t a c) (hm : (ik m).wf = true) (h : rnV t m = (x, n, e)) : Calls Tryz.prog 30 #[tv t a c, .int .i64 m] w fun e' w' => ∃ a' c', e' = .returned (.tuple #[tv x a' c', .int .i64 n, .int .i64 e]) ∧ TmAt w'.heap.size w' x a' c' ∧ Keep (fun g => g < w.heap.size) w w' := by
  have hr := Rename_any hT hm
  rw [h] at hr
  refine Calls.mono hr ?_
  rintro e w' ⟨a', c', rfl, hf, hk⟩
  exact ⟨a', c', rfl, hf.at_ (Nat.zero_le _), hk⟩
theorem solve_sx (hT : TmAt w.heap.size w t a c) (hU : TmAt w.heap.size w u b d) : Calls Tryz.prog 58 #[tv t a c, tv u b d] w fun e w' => ∃ (va : Option Addr) (vc : Nat) (bs : List BP) (ok : Bool) (er : Int), e = .returned (.tuple #[.slice va bs.length vc, .bool ok, .int .i64 er]) ∧ (SolR t u bs ok er ∧ BO w.heap.size w' (.slice va bs.length vc) bs ∧ ∀ p ∈ bs, TmAt w'.heap.size w' p.2.1 p.2.2.1 p.2.2.2) ∧ Keep (fun g => g < w.heap.size) w w' := by
  refine Calls.mono (Solve_any hT hU) ?_
  rintro e w' ⟨v, bs, ok, er, rfl, hbo, hfr, hk, hs⟩
  obtain ⟨va, vc, rfl, h1⟩ := hbo
  exact ⟨va, vc, bs, ok, er, rfl, ⟨hs, ⟨va, vc, rfl, h1⟩, fun p hp => (hfr p hp).at_ (Nat.zero_le _)⟩, hk⟩
theorem tmsl_on {w' : World} {ps : List TP} (h : TmSl w.heap.size w a ps) (k : Keep (fun g => g < w.heap.size) w w') : TmSl w'.heap.size w' a ps := fun j p hp => by
  obtain ⟨⟨b, off, ha, hb, hc⟩, ht⟩ := h j p hp
  exact ⟨⟨b, off, ha, Nat.lt_of_lt_of_le hb k.size, fun f v hv => cell_on (hc f v hv) k⟩, ht.on k⟩
theorem tmsl_addr {B : Nat} {ps : List TP} (h : TmSl B w a ps) {j : Nat} (hj : j < ps.length) : ∃ b off, a = some ⟨b, off, none⟩ ∧ b < B := by
  obtain ⟨⟨b, off, ha, hb, _⟩, _⟩ := h j _ (List.getElem?_eq_getElem hj)
  exact ⟨b, off, ha, hb⟩
theorem tmsl_at {B b off : Nat} {ps : List TP} (h : TmSl B w a ps) (ha : a = some ⟨b, off, none⟩) {j : Nat} {p : TP} (hj : ps[j]? = some p) : (w.cell? ⟨b, off + j * 4, none⟩ = some (.int .i64 p.1.k) ∧ w.cell? ⟨b, off + j * 4 + 1, none⟩ = some (.string (str p.1.nm)) ∧ w.cell? ⟨b, off + j * 4 + 2, none⟩ = some (.int .i64 p.1.i) ∧ w.cell? ⟨b, off + j * 4 + 3, none⟩ = some (.slice p.2.1 p.1.args.length p.2.2)) ∧ TmAt B w p.1 p.2.1 p.2.2 := by
  obtain ⟨⟨b', off', ha', hb, hc⟩, ht⟩ := h j p hj
  rw [ha] at ha'
  cases ha'
  exact ⟨⟨hc 0 _ rfl, hc 1 _ rfl, hc 2 _ rfl, hc 3 _ rfl⟩, ht⟩
theorem ik_wf {m : Int} (h1 : -9223372036854775808 ≤ m) (h2 : m ≤ 9223372036854775807) : (ik m).wf = true := by
  unfold Lit.wf
  have e1 : IntKind.i64.min = -9223372036854775808 := by decide
  have e2 : IntKind.i64.max = 9223372036854775807 := by decide
  simp [e1, e2]; omega
end
end Go.Proofs.YtnfcbalppecnfaaGreat
