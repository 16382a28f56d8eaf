/-
  Solve's answer as a slice of bindings; the document's AlikeBinds begins. No condition.
-/
import Derived.Test.YthbofkffklejoaaSx4
import Derived.Test.YthbofkffklejoaaTp5
namespace Go.Proofs.Ythbofkffklejoaa
open Go.RowKit Go.Maps
set_option linter.unusedVariables false
set_option linter.unusedSimpArgs false

section
variable {w : World} {t u x : Tm} {a b : Option Addr} {c d : Nat}
theorem bo_bsl {lo : Nat} {bs : List BP} (h : BO lo w (.slice a bs.length c) bs) (hq : ∀ q ∈ bs, (ik q.1).wf = true ∧ TmAt w.heap.size w q.2.1 q.2.2.1 q.2.2.2) : BSl w.heap.size w a bs := by
  obtain ⟨a', c', he, h1, h2⟩ := h
  injection he with e1 e2 e3
  subst e1
  intro j q hj
  obtain ⟨g, rfl, hc⟩ := h2 j q hj
  obtain ⟨_, _, cs, hb⟩ := h1 g 0 rfl
  obtain ⟨hw, ht⟩ := hq q (List.mem_of_getElem? hj)
  exact ⟨⟨g, 0, rfl, hb.lt, by rw [Nat.zero_add]; exact hc 0 _ rfl, by rw [Nat.zero_add]; exact hc 1 _ rfl, by rw [Nat.zero_add]; exact hc 2 _ rfl, by rw [Nat.zero_add]; exact hc 3 _ rfl, by rw [Nat.zero_add]; exact hc 4 _ rfl⟩, hw, ht⟩
/-- Solve's bindings, as a slice of them. -/
theorem sol_bsl {lo : Nat} {bs : List BP} {f : Int → T} {W : World} {p q : Option Addr} {i j : Nat} (h : BO lo w (.slice a bs.length c) bs) (hm : ∀ r ∈ bs, TmAt w.heap.size w r.2.1 r.2.2.1 r.2.2.2) (hs : Sols t u bs f) (hT : TmAt W.heap.size W t p i) (hU : TmAt W.heap.size W u q j) : BSl w.heap.size w a bs := bo_bsl h fun r hr => ⟨by
  rcases hs.var hr with hv | hv
  · exact var_wf ⟨_, _, hT⟩ (right_of.2 hs.rt) hv
  · exact var_wf ⟨_, _, hU⟩ (right_of.2 hs.ru) hv, hm r hr⟩
theorem bo_lt {lo : Nat} {bs : List BP} (h : BO lo w (.slice a bs.length c) bs) : ∀ g off, a = some ⟨g, off, none⟩ → g < w.heap.size := by
  obtain ⟨a', c', he, h1, h2⟩ := h
  injection he with e1 e2 e3
  subst e1
  intro g off ha
  obtain ⟨_, _, cs, hb⟩ := h1 g off ha
  exact hb.lt
theorem refsame_sx (hT : TmAt w.heap.size w t a c) (hU : TmAt w.heap.size w u b d) (ht : t.right = true) (hu : u.right = true) (he : t.tree = u.tree) : Calls Try.prog 38 #[tv t a c, tv u b d] w fun e w' => e = .returned (.bool true) ∧ Keep (fun g => g < w.heap.size) w w' := by
  have h1 := refSame_any hT hU (right_of.1 ht).1 (right_of.1 hu).1
  rw [he, ((T.lin _).zero _).2 rfl] at h1
  exact h1
end
end Go.Proofs.Ythbofkffklejoaa
