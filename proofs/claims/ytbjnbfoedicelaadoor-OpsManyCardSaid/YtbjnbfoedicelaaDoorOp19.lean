/-
  What the listed package-level variables hold, out of the rows' condition. No condition.
-/
import Derived.Test.YtbjnbfoedicelaaDoorOp17
import Derived.Lib.LaidTab
import Derived.LaidMore
import Derived.Lay
import Derived.Stop.LaidErr
import Derived.OpenShut
import Derived.ProofKit
namespace Go.Proofs.YtbjnbfoedicelaaDoor
open Go.RowKit Go.Shelf Go.Maps Go.ChangeShapes
set_option linter.unusedVariables false
set_option linter.unusedSimpArgs false

def spaceZ : List Int := (List.range 256).map fun i => if i = 9 ∨ i = 10 ∨ i = 11 ∨ i = 12 ∨ i = 13 ∨ i = 32 then 1 else 0
theorem space_datum : (Rows.laid_strings_asciiSpace : DataW Unit) = Lib.tabData .u8 spaceZ := by kernel_rfl
theorem space_at : ∀ i : Fin 128, spaceZ.getD i.val 0 = if isSp (UInt8.ofNat i.val) then 1 else 0 := by decide +kernel
def rowCells (r : Int × Int × List UInt8) : List Value := [.int .i64 r.1, .int .i64 r.2.1, .string (str r.2.2)]
theorem always_at : ∀ i, i < 36 → alwaysCells[i]? = (rowCells (rowsV[i / 3]!))[i % 3]? := by
  intro i hi
  match i, hi with
  | 0, _ => rfl
  | 1, _ => rfl
  | 2, _ => rfl
  | 3, _ => rfl
  | 4, _ => rfl
  | 5, _ => rfl
  | 6, _ => rfl
  | 7, _ => rfl
  | 8, _ => rfl
  | 9, _ => rfl
  | 10, _ => rfl
  | 11, _ => rfl
  | 12, _ => rfl
  | 13, _ => rfl
  | 14, _ => rfl
  | 15, _ => rfl
  | 16, _ => rfl
  | 17, _ => rfl
  | 18, _ => rfl
  | 19, _ => rfl
  | 20, _ => rfl
  | 21, _ => rfl
  | 22, _ => rfl
  | 23, _ => rfl
  | 24, _ => rfl
  | 25, _ => rfl
  | 26, _ => rfl
  | 27, _ => rfl
  | 28, _ => rfl
  | 29, _ => rfl
  | 30, _ => rfl
  | 31, _ => rfl
  | 32, _ => rfl
  | 33, _ => rfl
  | 34, _ => rfl
  | 35, _ => rfl
  | n + 36, h => exact absurd h (by omega)
def rowData (r : Int × Int × List UInt8) : DataW Unit := .agg [.lit (.int .i64 r.1), .lit (.int .i64 r.2.1), .lit (.string r.2.2)]
theorem always_datum : (Rows.laid_pythia_ops_always : DataW Unit) = .agg (rowsV.map rowData) := by kernel_rfl
theorem gSpace : Tryd.prog.globalNamed "strings.asciiSpace" = some 1 := by kernel_rfl
theorem gAlways : Tryd.prog.globalNamed "pythia/ops.always" = some 0 := by kernel_rfl
theorem tSpace : (Tryd.prog.globals[1]?).map (·.type) = some 62 := by kernel_rfl
theorem tAlways : (Tryd.prog.globals[0]?).map (·.type) = some 46 := by kernel_rfl
theorem cU8 : Tryd.prog.cellsOf 5 = 1 := by kernel_rfl
theorem cSpace : Tryd.prog.cellsOf 62 = 256 := by kernel_rfl
theorem cRow : Tryd.prog.cellsOf 45 = 3 := by kernel_rfl
theorem cInt : Tryd.prog.cellsOf 3 = 1 := by kernel_rfl
theorem cStr : Tryd.prog.cellsOf 9 = 1 := by kernel_rfl
abbrev laidL : List (String × DataW Unit) := [("unicode/utf8.acceptRanges", Rows.laid_unicode_utf8_acceptRanges), ("unicode.White_Space", Rows.laid_unicode_White_Space), ("strings.asciiSpace", Rows.laid_strings_asciiSpace), ("pythia/ops.always", Rows.laid_pythia_ops_always), ("unicode/utf8.first", Rows.laid_unicode_utf8_first)]
theorem laid_plain {W : World} (h : laidMetH Tryd.prog laidL W) : laidMet Tryd.prog laidL W := by
  rw [MakeChecks.laidMetH_plain _ _ _ (by kernel_rfl)] at h
  exact h
theorem cell_blk {w : World} {b o : Nat} {v : Value} (h : w.cell? ⟨b, o, none⟩ = some v) : b < w.heap.size := by
  unfold World.cell? at h
  rcases Nat.lt_or_ge b w.heap.size with hlt | hge
  · exact hlt
  · simp only [Array.getElem?_eq_none hge] at h; cases h
theorem always_cells {W : World} {rest : List (String × DataW Unit)} (h : laidMet Tryd.prog (("pythia/ops.always", Rows.laid_pythia_ops_always) :: rest) W) :
    ∀ i v, alwaysCells[i]? = some v → W.cell? ⟨0, i, none⟩ = some v := by
  rw [always_datum] at h
  obtain ⟨ps, ⟨g, t, cs, fuel, p, q, hg, ht, hv, hd, _, _⟩, _⟩ := h
  obtain rfl := Option.some.inj (gAlways.symm.trans hg)
  obtain rfl := Option.some.inj (tAlways.symm.trans ht)
  obtain ⟨xs, m, _, ex, _, hl, hel⟩ := DataW.trod_array Tryd.underlying46 hd
  have e3 : xs.map (·.1) = rowsV.map rowData := (DataW.agg.inj (Prod.mk.inj ex).1).symm
  intro i v hi
  have hi36 : i < 36 := by
    have := (List.getElem?_eq_some_iff.1 hi).1
    have h36 : alwaysCells.length = 36 := rfl
    omega
  rw [always_at i hi36] at hi
  have hr : i / 3 < 12 := by omega
  have hE := hel (i / 3) hr
  have h12 : rowsV.length = 12 := rfl
  rw [cRow, List.getElem?_eq_getElem (by omega)] at hE
  have e4 : (xs.map (·.1))[i / 3]? = (rowsV.map rowData)[i / 3]? := by rw [e3]
  rw [List.getElem?_map, List.getElem?_map, List.getElem?_eq_getElem (by omega : i / 3 < xs.length), List.getElem?_eq_getElem (by omega : i / 3 < rowsV.length)] at e4
  simp only [Option.map_some, Option.some.injEq] at e4
  have hrow : rowsV[i / 3]! = rowsV[i / 3] := getElem!_pos rowsV (i / 3) (by omega)
  rw [hrow] at hi
  generalize rowsV[i / 3] = r at hi e4
  generalize xs[i / 3] = x at hE e4
  obtain ⟨ys, m2, _, ex4, hlen, hys, hf⟩ := DataW.trod_struct Tryd.underlying45 hE
  match ys, hys with
  | [y0, y1, y2], _ =>
    have g0 := hf 0 _ rfl
    have g1 := hf 1 _ rfl
    have g2 := hf 2 _ rfl
    simp [cInt, cStr] at g0 g1 g2
    obtain ⟨z0, e0, f0, _⟩ := DataW.trod_int Tryd.underlying3 g0
    obtain ⟨z1, e1, f1, _⟩ := DataW.trod_int Tryd.underlying3 g1
    obtain ⟨s2, e2, f2, _⟩ := DataW.trod_string Tryd.underlying9 g2
    rw [ex4] at e4
    simp only [rowData, List.map_cons, List.map_nil, f0, f1, f2, DataW.agg.injEq, List.cons.injEq, DataW.lit.injEq, Lit.int.injEq, Lit.string.injEq, true_and, and_true] at e4
    obtain ⟨a0, a1, a2⟩ := e4
    subst a0 a1
    have hc : ∀ j v, (rowCells r)[j]? = some v → cs.toList[i / 3 * 3 + j]? = some v := by
      intro j v hj
      have h3 : j < 3 := (List.getElem?_eq_some_iff.1 hj).1
      have key : ∀ (o : Nat) (u : Value), (((cs.toList.drop (i / 3 * 3)).take 3).drop o).take 1 = [u] → o < 3 → cs.toList[i / 3 * 3 + o]? = some u := by
        intro o u hu ho
        have h0 := congrArg (·[0]?) hu
        simpa [List.getElem?_take, List.getElem?_drop, ho] using h0
      match j, h3 with
      | 0, _ =>
        obtain rfl := Option.some.inj hj
        exact key 0 _ (by simpa using e0) (by omega)
      | 1, _ =>
        obtain rfl := Option.some.inj hj
        exact key 1 _ (by simpa using e1) (by omega)
      | 2, _ =>
        obtain rfl := Option.some.inj hj
        rw [← a2, ← str_of rfl]
        exact key 2 _ (by simpa using e2) (by omega)
    have hv2 := hc _ _ hi
    rw [show i / 3 * 3 + i % 3 = i by omega] at hv2
    rw [World.var?_cell gAlways hv i]
    simpa using hv2
theorem space_cells {W : World} {rest : List (String × DataW Unit)} (h : laidMet Tryd.prog (("strings.asciiSpace", Rows.laid_strings_asciiSpace) :: rest) W) :
    ∀ c : UInt8, c < 128 → W.cell? ⟨1, c.toNat, none⟩ = some (.int .u8 (if isSp c then 1 else 0)) := by
  rw [space_datum] at h
  have ht := Lib.tabIs_of_head gSpace tSpace Tryd.underlying62 Tryd.underlying5 cU8 cSpace h
  intro c hc
  have hn : c.toNat < 128 := hc
  have := ht.cell gSpace c.toNat (by show c.toNat < ((List.range 256).map _).length; simp; omega)
  rw [this]
  have h2 := space_at ⟨c.toNat, hn⟩
  simp only [UInt8.ofNat_toNat] at h2
  rw [h2]
theorem varsOk_of_laid {W : World} (h : laidMetH Tryd.prog laidL W) : VarsOk W := by
  have h0 := laid_plain h
  have h1 := space_cells h0.tail.tail
  have h2 := always_cells h0.tail.tail.tail
  exact ⟨⟨cell_blk (h1 0 (by decide)), cell_blk (h2 0 _ rfl)⟩, h2, h1⟩
end Go.Proofs.YtbjnbfoedicelaaDoor
