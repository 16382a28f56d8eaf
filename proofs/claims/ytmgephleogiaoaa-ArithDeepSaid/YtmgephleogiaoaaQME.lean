/-
  Joined texts (Tm24, Tm25, Tm26). No condition.
-/
import Derived.Test.YtmgephleogiaoaaQMD
import Derived.RangeFuncNested
import Derived.RangeFuncLeaves
import Derived.RangeFuncCalls
import Derived.OwnWalkIn
import Derived.TacticsInMore
import Derived.RegionIn
import Derived.LoopNIn
import Derived.LoopIn
import Derived.Shelf.Abstract
import Derived.Lib.Hide
namespace Go.Proofs.Ytmgephleogiaoaa
open Go.RowKit Go.Maps Go.Shelf
set_option linter.unusedVariables false
set_option linter.unusedSimpArgs false
attribute [local go_sem] Oper.semAt_some
def KpB (Bs : Nat) (a : Option Addr) (A B : World) : Prop := B.heap[Bs]? = A.heap[Bs]? ∧ ∀ b off, a = some ⟨b, off, none⟩ → B.heap[b]? = A.heap[b]?
def SlT (W : World) (a : Option Addr) (len : Nat) (V : Nat → Value × Value × Value × Value) : Prop :=
  ∀ j, j < len → ∃ b off, a = some ⟨b, off, none⟩ ∧ b < W.heap.size ∧ W.cell? ⟨b, off + j * 4, none⟩ = some (V j).1 ∧ W.cell? ⟨b, off + j * 4 + 1, none⟩ = some (V j).2.1 ∧ W.cell? ⟨b, off + j * 4 + 2, none⟩ = some (V j).2.2.1 ∧ W.cell? ⟨b, off + j * 4 + 3, none⟩ = some (V j).2.2.2
abbrev Pl (len : Nat) := { j : Nat // j < len }
abbrev plV (V : Nat → Value × Value × Value × Value) (j : Nat) : Value := .agg #[(V j).1, (V j).2.1, (V j).2.2.1, (V j).2.2.2]
theorem down_step {len k : Nat} (hk : k + 1 ≤ len) : ((List.range len).drop k).reverse = ((List.range len).drop (k + 1)).reverse ++ [k] := by
  rw [List.drop_eq_getElem_cons (by simp; omega), List.reverse_cons]; simp
end Go.Proofs.Ytmgephleogiaoaa
namespace Go.Proofs.Ytmgephleogiaoaa
open Go.RowKit Go.Maps Go.Shelf
set_option linter.unusedVariables false
set_option linter.unusedSimpArgs false
attribute [local go_sem] Oper.semAt_some
def lsT (ts : List Tm) (tail : Tm) : Tm := ts.foldr (fun t l => .node 4 [46] 0 [t, l]) tail
def bld (f : Nat → Tm) (tail : Tm) (pre : List Nat) : Tm := pre.foldl (fun l j => .node 4 [46] 0 [f j, l]) tail
def TmSl (B : Nat) (w : World) (a : Option Addr) (ps : List TP) : Prop :=
  ∀ j p, ps[j]? = some p → (∃ b off, a = some ⟨b, off, none⟩ ∧ b < B ∧ ∀ f v, p.cells[f]? = some v → w.cell? ⟨b, off + (j * 4 + f), none⟩ = some v) ∧ TmAt B w p.1 p.2.1 p.2.2
def tpV (ps : List TP) (j : Nat) : Value × Value × Value × Value :=
  let p := ps[j]?.getD (default, none, 0)
  (.int .i64 p.1.k, .string (str p.1.nm), .int .i64 p.1.i, .slice p.2.1 p.1.args.length p.2.2)
inductive Ch (B0 lo : Nat) (W : World) : Tm → Option Addr → Nat → Prop
  | base {t : Tm} {a : Option Addr} {c : Nat} (h : TmAt B0 W t a c) : Ch B0 lo W t a c
  | link {x l : Tm} {ax al : Option Addr} {cx cl g : Nat} (hx : TmAt B0 W x ax cx) (hl : Ch B0 lo W l al cl) (hg : lo ≤ g) (hb : Blk W g 24 (x.cells ax cx ++ l.cells al cl).toArray) : Ch B0 lo W (.node 4 [46] 0 [x, l]) (some ⟨g, 0, none⟩) 2
section
variable {B0 lo : Nat} {W W' : World} {t : Tm} {a : Option Addr} {c : Nat}
end
def lsV (ts : List Tm) (tail : Tm) : Tm × Int := if ts.length < 100 then (if (lsT ts tail).right = true then ((lsT ts tail).tree.tm, 0) else (.node 0 [] 0 [], 70)) else (.node 0 [] 0 [], 70)
section
variable {w : World} {ps : List TP} {t : Tm} {a b : Option Addr} {cap d : Nat}
end
end Go.Proofs.Ytmgephleogiaoaa
namespace Go.Proofs.Ytmgephleogiaoaa
open Go.RowKit Go.Maps
set_option linter.unusedVariables false
set_option linter.unusedSimpArgs false
def itF : Nat → T → List T × T
  | 0, t => ([], t)
  | n + 1, .c nm [x, l] => if nm = [46] then (x :: (itF n l).1, (itF n l).2) else ([], .c nm [x, l])
  | n + 1, t => ([], t)
def T.items (t : T) : List T × T := itF t.nd t
def lenOf : Value → Nat
  | .slice _ n _ => n
  | _ => 0
theorem Fr.growR {B0 lo hi c : Nat} {Q Q' : Nat → Prop} {w : World} {t : Tm} {a : Option Addr} (h : Fr B0 Q w lo hi t a c) {H : Nat} (hH : hi ≤ H) : (∀ k, lo ≤ k → Q' k → Q k ∨ H ≤ k) → Fr B0 Q' w lo hi t a c := by
  induction h with
  | old h hl => intro _; exact .old h hl
  | node hk1 hw hn h8 hlb hub hq blk hcp hs ih =>
    intro hQ
    refine .node hk1 hw hn h8 hlb hub (fun h => ?_) blk hcp fun j p hj => ih j p hj hQ
    rcases hQ _ hlb h with h | h
    · exact hq h
    · omega
structure ItR (w w1 : World) (t : Tm) (m : Nat) (L : List T) (u : Value) (cur : Tm) (a : Option Addr) (c : Nat) (ps : List TP) (wr : World) : Prop where
  kp : Keep (fun g => g < w.heap.size + 2 ∧ g ≠ w.heap.size) w1 wr
  box : Blk wr w.heap.size 24 #[.int .i64 cur.k, .string (str cur.nm), .int .i64 cur.i, .slice a cur.args.length c]
  cu : TmAt w.heap.size wr cur a c
  ok : cur.ok = true
  nd : cur.nd ≤ m
  row : wr.ownsRow (w.heap.size + 2) 24 4 u ps.length (ps.flatMap TP.cells)
  fr : ∀ p ∈ ps, Fr 0 (fun k => u.ownBlock = some k) wr (w.heap.size + 2) wr.heap.size p.1 p.2.1 p.2.2
  trm : ps.map (·.1) = L.map T.tm
  eq : t.tree.items = (L ++ (itF m cur.tree).1, (itF m cur.tree).2)
  len : ps.length + m ≤ 100
def itV (t : Tm) : List Tm × Tm := if t.right = true then (t.tree.items.1.map T.tm, t.tree.items.2.tm) else ([], .node 0 [] 0 [])
section
variable {w : World} {t : Tm} {a : Option Addr} {c : Nat}
end
end Go.Proofs.Ytmgephleogiaoaa
