/-
  Operators that come as arguments: one by value; a slice of them. No condition.
-/
import Derived.Test.YtbjnbfoedicelaaDoorOp2
import Derived.WideShapes
import Derived.WalkKit
import Derived.ProofKit
import Derived.OpenShut
import Derived.ShutString
import Derived.ChangeOld
import Derived.Below
namespace Go.Proofs.YtbjnbfoedicelaaDoor
open Go.RowKit Go.ChangeShapes Go.WideShapes
set_option linter.unusedVariables false

theorem cellsOpT : Tryd.prog.cellsOf 27 = 3 := by kernel_rfl
theorem cellsIntT : Tryd.prog.cellsOf 3 = 1 := by kernel_rfl
theorem cellsStrT : Tryd.prog.cellsOf 9 = 1 := by kernel_rfl
theorem choose_ops {P : Nat → Opv → Prop} : ∀ {n : Nat}, (∀ j, j < n → ∃ x, P j x) → ∃ F : Nat → Opv, ∀ j, j < n → P j (F j)
  | n, h => ⟨fun j => if hj : j < n then (h j hj).choose else zOp, fun j hj => by simp only [hj, dif_pos]; exact (h j hj).choose_spec⟩
section
variable {H : Type} {enc : TypeId × Value → H} {w : World} {base : Nat} {spare : Nat → Bool} {held : Bool}
set_option maxRecDepth 100000 in
theorem op_of {n : Nat} {cs : List Value} {x : DataW H × List MemPlace} (h : DataW.trod enc Tryd.prog w base spare held n 27 cs = some x) : ∃ o, cs = opCells o ∧ Fits o := by
  obtain ⟨xs, m, _, _, hlen, hxs, hf⟩ := DataW.trod_struct Tryd.underlying27 h
  rw [cellsOpT] at hlen
  match cs, hlen with
  | [v0, v1, v2], _ =>
    match xs, hxs with
    | [y0, y1, y2], _ =>
      have g0 := hf 0 _ rfl
      have g1 := hf 1 _ rfl
      have g2 := hf 2 _ rfl
      simp [cellsIntT, cellsStrT] at g0 g1 g2
      obtain ⟨s, e0, _, w0⟩ := DataW.trod_string Tryd.underlying9 g0
      obtain ⟨k, e1, _, w1⟩ := DataW.trod_int Tryd.underlying3 g1
      obtain ⟨i, e2, _, w2⟩ := DataW.trod_int Tryd.underlying3 g2
      simp at e0 e1 e2
      subst e0 e1 e2
      have hsl : s.data.toList.length ≤ maxLen := by
        have : s.data.toList.length = s.size := by rw [Array.length_toList]; rfl
        rw [this]; exact w0
      exact ⟨⟨s.data.toList, k, i⟩, by simp [opCells, ← str_of rfl], hsl, w1, w2⟩
set_option maxRecDepth 100000 in
theorem op_arg {v : Value} {d : DataW H} {p : List MemPlace} {base' : Nat} (hv : Value.okWide Tryd.prog w .any base' 27 v) (h : DataW.Trod enc Tryd.prog w base spare held 27 v d p) : ∃ o, v = opVal o ∧ Fits o := by
  obtain ⟨cs, rfl, _⟩ := okWide_struct Tryd.underlying27 hv
  obtain ⟨m, hm⟩ := h
  obtain ⟨o, ho, hf⟩ := op_of hm
  refine ⟨o, ?_, hf⟩
  have hc : cs.toList = opCells o := by simpa [Value.cells] using ho
  unfold opVal
  congr 1
  exact Array.toList_inj.1 hc
/-- The slice's places hold these operators. -/
def OpRow (w : World) (a : Option Addr) (len : Nat) (xs : Tab) : Prop :=
  (len = 0 ∧ xs = []) ∨ ∃ b off, a = some ⟨b, off, none⟩ ∧ xs.length = len ∧ b < w.heap.size ∧ ∀ i o, xs[i]? = some o → ∀ f v, (opCells o)[f]? = some v → w.cell? ⟨b, off + (i * 3 + f), none⟩ = some v
set_option maxRecDepth 100000 in
theorem ops_arg {v : Value} {d : DataW H} {p : List MemPlace} {base' : Nat} (hv : Value.okWide Tryd.prog w .any base' 22 v) (h : DataW.Trod enc Tryd.prog w 0 spare held 22 v d p) :
    ∃ a len cap xs, v = .slice a len cap ∧ OpRow w a len xs ∧ (∀ o ∈ xs, Fits o) ∧ xs.length = len ∧ len ≤ maxLen := by
  obtain ⟨a, len, cap, rfl⟩ := okWide_slice Tryd.underlying22 hv
  obtain ⟨m, hm⟩ := h
  rcases DataW.trod_slice Tryd.underlying22 hm with ⟨hcs, _⟩ | ⟨ad, len', cap', elems, rest, m2, rfl, hcs, _, _, hl, hm, hel, hall, _⟩
  · simp [Value.cells] at hcs
    obtain ⟨rfl, rfl, rfl⟩ := hcs
    exact ⟨none, 0, 0, [], rfl, .inl ⟨rfl, rfl⟩, by simp, rfl, by unfold maxLen; omega⟩
  · simp [Value.cells] at hcs
    obtain ⟨rfl, rfl, rfl⟩ := hcs
    have each : ∀ j, j < len → ∃ o : Opv, w.cells? 0 (ad.add (j * 3)) 3 = some (opCells o) ∧ Fits o := fun j hj => by
      have hj2 := hall j hj
      rw [cellsOpT, List.getElem?_eq_getElem (by rw [hel]; exact hj)] at hj2
      obtain ⟨cs', hc', ht'⟩ := Option.bind_eq_some_iff.1 hj2
      obtain ⟨o, rfl, hf⟩ := op_of ht'
      exact ⟨o, hc', hf⟩
    obtain ⟨F, hF⟩ := choose_ops each
    have hmem : ∀ (j : Nat) (x : Opv), ((List.range len).map F)[j]? = some x → j < len ∧ x = F j := fun j x hj => by
      have hj2 : j < len := by
        rcases Nat.lt_or_ge j len with h1 | h1
        · exact h1
        · rw [List.getElem?_eq_none (by simpa using h1)] at hj; cases hj
      simp [hj2] at hj
      exact ⟨hj2, hj.symm⟩
    refine ⟨some ad, len, cap, (List.range len).map F, rfl, ?_, fun o ho => ?_, by simp, by omega⟩
    · by_cases h0 : len = 0
      · subst h0; exact .inl ⟨rfl, rfl⟩
      · obtain ⟨b, off, spot⟩ := ad
        have hspot : spot = none := by
          obtain ⟨_, _, hc0⟩ := World.cells?_some (hF 0 (by omega)).1
          have h0 := World.cell?_spot ((hc0 0 (by omega)).trans rfl)
          simpa [Addr.add] using h0
        subst hspot
        have hcell : ∀ j, j < len → ∀ f v, (opCells (F j))[f]? = some v → w.cell? ⟨b, off + (j * 3 + f), none⟩ = some v := by
          intro j hj f v hv
          obtain ⟨_, _, hc⟩ := World.cells?_some (hF j hj).1
          have hf3 : f < 3 := (List.getElem?_eq_some_iff.1 hv).1
          have h1 := hc f hf3
          have hadd : ((⟨b, off, none⟩ : Addr).add (j * 3)).add f = ⟨b, off + (j * 3 + f), none⟩ := by
            by_cases hj0 : j = 0
            · subst hj0
              by_cases hf0 : f = 0
              · subst hf0; simp [Addr.add]
              · simp [Addr.add, hf0]
            · have h4 : ¬ j * 3 = 0 := by omega
              unfold Addr.add
              rw [if_neg h4]
              by_cases hf0 : f = 0
              · subst hf0; simp
              · rw [if_neg hf0]
                simp [Nat.add_assoc]
          rw [hadd] at h1
          exact h1.trans hv
        refine .inr ⟨b, off, rfl, by simp, ?_, fun i o hi f v hv => ?_⟩
        · have := hcell 0 (by omega) 0 _ rfl
          unfold World.cell? at this
          rcases Nat.lt_or_ge b w.heap.size with hlt | hge
          · exact hlt
          · simp only [Array.getElem?_eq_none hge] at this; cases this
        · obtain ⟨hi2, rfl⟩ := hmem i o hi
          exact hcell i hi2 f v hv
    · obtain ⟨j, hj, rfl⟩ := List.mem_map.1 ho
      exact (hF j (by simpa using hj)).2
end
end Go.Proofs.YtbjnbfoedicelaaDoor
