/-
  Joined texts (Tm27, Tm28, Tm29, Tm30). No condition.
-/
import Derived.Test.YthbofkffklejoaaQME
namespace Go.Proofs.Ythbofkffklejoaa
open Go.RowKit Go.Maps
set_option linter.unusedVariables false
set_option linter.unusedSimpArgs false
abbrev zT : Value := .agg #[.int .i64 0, .string ⟨#[]⟩, .int .i64 0, .slice none 0 0]
def fBd (bd : Int → Option TP) : Unit → Int → Tm × Unit := fun _ x => (match bd x with | some p => p.1 | none => .node 1 [] x [], ())
structure ApI (B0 mb bn : Nat) (bd : Int → Option TP) (n : Nat) (s : Unit) (P : Nat → Prop) (w : World) : Prop where
  map : MapI w mb zT (fun x => (bd x).map (fun p => tv p.1 p.2.1 p.2.2)) n
  hbn : Blk w bn 81 #[.map (some mb)]
  tms : ∀ x p, bd x = some p → TmAt B0 w p.1 p.2.1 p.2.2
  own : P mb ∧ P bn
  lo : ∀ g, P g → B0 ≤ g ∧ g < w.heap.size
end Go.Proofs.Ythbofkffklejoaa
namespace Go.Proofs.Ythbofkffklejoaa
open Go.RowKit Go.Maps Go.Shelf
set_option linter.unusedVariables false
set_option linter.unusedSimpArgs false
attribute [local go_sem] Oper.semAt_some
abbrev V5 := Value × Value × Value × Value × Value
def SlB (W : World) (a : Option Addr) (len : Nat) (V : Nat → V5) : Prop :=
  ∀ j, j < len → ∃ b off, a = some ⟨b, off, none⟩ ∧ b < W.heap.size ∧ W.cell? ⟨b, off + j * 5, none⟩ = some (V j).1 ∧ W.cell? ⟨b, off + j * 5 + 1, none⟩ = some (V j).2.1 ∧ W.cell? ⟨b, off + j * 5 + 2, none⟩ = some (V j).2.2.1 ∧ W.cell? ⟨b, off + j * 5 + 3, none⟩ = some (V j).2.2.2.1 ∧ W.cell? ⟨b, off + j * 5 + 4, none⟩ = some (V j).2.2.2.2
abbrev pbV (V : Nat → V5) (j : Nat) : Value := .agg #[(V j).1, (V j).2.1, (V j).2.2.1, (V j).2.2.2.1, (V j).2.2.2.2]
end Go.Proofs.Ythbofkffklejoaa
namespace Go.Proofs.Ythbofkffklejoaa
open Go.RowKit Go.Maps Go.Shelf
set_option linter.unusedVariables false
set_option linter.unusedSimpArgs false
attribute [local go_sem] Oper.semAt_some
abbrev BP := Int × TP
def bdOf (bs : List BP) : Int → Option TP := fun x => (bs.find? (fun q => q.1 == x)).map (·.2)
def tabP (B : Nat → BP) (pre : List Nat) : Int → Option TP := pre.foldl (fun m j => fun x => if x = (B j).1 then some (B j).2 else m x) (fun _ => none)
def BSl (B0 : Nat) (w : World) (a : Option Addr) (bs : List BP) : Prop :=
  ∀ j q, bs[j]? = some q → (∃ b off, a = some ⟨b, off, none⟩ ∧ b < B0 ∧ w.cell? ⟨b, off + j * 5, none⟩ = some (.int .i64 q.1) ∧ w.cell? ⟨b, off + j * 5 + 1, none⟩ = some (.int .i64 q.2.1.k) ∧ w.cell? ⟨b, off + j * 5 + 2, none⟩ = some (.string (str q.2.1.nm)) ∧ w.cell? ⟨b, off + j * 5 + 3, none⟩ = some (.int .i64 q.2.1.i) ∧ w.cell? ⟨b, off + j * 5 + 4, none⟩ = some (.slice q.2.2.1 q.2.1.args.length q.2.2.2)) ∧ (ik q.1).wf = true ∧ TmAt B0 w q.2.1 q.2.2.1 q.2.2.2
def bpV (bs : List BP) (j : Nat) : V5 :=
  let q := bs[j]?.getD (0, default, none, 0)
  (.int .i64 q.1, .int .i64 q.2.1.k, .string (str q.2.1.nm), .int .i64 q.2.1.i, .slice q.2.2.1 q.2.1.args.length q.2.2.2)
def badB (bs : List BP) (v : Int) : Bool := match bdOf bs v with | some p => !p.1.right | none => false
def apV (t : Tm) (bs : List BP) : Tm × Int :=
  if t.right = true then (if t.tree.vars.any (badB bs) = true then (.node 0 [] 0 [], 70)
    else if (t.cop (fBd (bdOf bs)) ()).1.right = true then ((t.cop (fBd (bdOf bs)) ()).1.tree.tm, 0) else (.node 0 [] 0 [], 2)) else (.node 0 [] 0 [], 70)
end Go.Proofs.Ythbofkffklejoaa
namespace Go.Proofs.Ythbofkffklejoaa
open Go.RowKit Go.Maps Go.Shelf
set_option linter.unusedVariables false
set_option linter.unusedSimpArgs false
attribute [local go_sem] Oper.semAt_some
theorem row_ints {w : World} {base : Nat} {u : Value} {xs : List Int} (h : w.ownsRow base 2 1 u xs.length (xs.map (Value.int .i64))) : ∃ a c, u = .slice a xs.length c ∧ ∀ j, j < xs.length → ∃ g, a = some ⟨g, 0, none⟩ ∧ g < w.heap.size ∧ w.cell? ⟨g, j, none⟩ = some (.int .i64 (xs.getD j 0)) := by
  rcases h.2 with ⟨rfl, h0⟩ | ⟨g, cap, cur, rfl, _, hb, _⟩
  · exact ⟨none, 0, by rw [h0], fun j hj => by omega⟩
  · refine ⟨_, _, rfl, fun j hj => ⟨g, rfl, (show Blk w g 2 cur from hb).lt, ?_⟩⟩
    rw [h.cellAt j (by omega)]
    simp [List.getD, hj]
section
variable {w : World} {bs : List BP} {t : Tm} {a b : Option Addr} {cap d : Nat}
end
end Go.Proofs.Ythbofkffklejoaa
