/-
  Joined texts (Tm31, Tm32, Tm33, Tm34, Tm35, Tm36). No condition.
-/
import Derived.Test.YtfkbbbjicaedmaaGreatDoorUMF
import Derived.Deep.QuietTactic
import Derived.Test.YtfkbbbjicaedmaaGreatDoorUMB
import Derived.Test.YtfkbbbjicaedmaaGreatDoorUME
import Derived.Deep.RegionHeld3
import Derived.Deep.RegionLaw
import Derived.Test.YtfkbbbjicaedmaaGreatDoorUMD
import Derived.Maps.RangeWalk
import Derived.Test.YtfkbbbjicaedmaaGreatDoorUMA
import Derived.Test.YtfkbbbjicaedmaaGreatDoorUMC
namespace Go.Proofs.YtfkbbbjicaedmaaGreatDoor
open Go.RowKit Go.Maps
set_option linter.unusedVariables false
set_option linter.unusedSimpArgs false
set_option maxHeartbeats 1000000 in
theorem refV_any (w : World) (v : Int) : Calls Tryz.prog 19 #[.int .i64 v] w fun e w' => e = .returned (tv (.node 1 [] v []) none 0) ∧ Keep (fun g => g < w.heap.size) w w' := by
  show Calls _ _ _ _ (fun e w' => e = .returned (.agg #[.int .i64 1, .string ⟨#[]⟩, .int .i64 v, .slice none 0 0]) ∧ _)
  go_enter Tryz.func19, Tryz.ntmps19
  go_wp2
  exact bodyPost_ret (v := .agg #[.int .i64 1, .string ⟨#[]⟩, .int .i64 v, .slice none 0 0]) (by simp [results, Tryz.results19, go_sem]) rfl ⟨rfl, (Keep.refl _ w).alloc _⟩
set_option maxHeartbeats 1000000 in
theorem refN_any (w : World) (v : Int) : Calls Tryz.prog 18 #[.int .i64 v] w fun e w' => e = .returned (tv (.node 2 [] v []) none 0) ∧ Keep (fun g => g < w.heap.size) w w' := by
  show Calls _ _ _ _ (fun e w' => e = .returned (.agg #[.int .i64 2, .string ⟨#[]⟩, .int .i64 v, .slice none 0 0]) ∧ _)
  go_enter Tryz.func18, Tryz.ntmps18
  go_wp2
  exact bodyPost_ret (v := .agg #[.int .i64 2, .string ⟨#[]⟩, .int .i64 v, .slice none 0 0]) (by simp [results, Tryz.results18, go_sem]) rfl ⟨rfl, (Keep.refl _ w).alloc _⟩
set_option maxHeartbeats 1000000 in
theorem refA_any (w : World) (nm : List UInt8) : Calls Tryz.prog 17 #[.string (str nm)] w fun e w' => e = .returned (tv (.node 3 nm 0 []) none 0) ∧ Keep (fun g => g < w.heap.size) w w' := by
  show Calls _ _ _ _ (fun e w' => e = .returned (.agg #[.int .i64 3, .string (str nm), .int .i64 0, .slice none 0 0]) ∧ _)
  generalize str nm = s
  go_enter Tryz.func17, Tryz.ntmps17
  go_wp2
  exact bodyPost_ret (v := .agg #[.int .i64 3, .string s, .int .i64 0, .slice none 0 0]) (by simp [results, Tryz.results17, go_sem]) rfl ⟨rfl, (Keep.refl _ w).alloc _⟩
set_option maxHeartbeats 1000000 in
theorem refC_any (w : World) (nm : List UInt8) (ts : List Tm) (a : Option Addr) (c : Nat) : Calls Tryz.prog 20 #[.string (str nm), .slice a ts.length c] w fun e w' => e = .returned (tv (.node 4 nm 0 ts) a c) ∧ Keep (fun g => g < w.heap.size) w w' := by
  show Calls _ _ _ _ (fun e w' => e = .returned (.agg #[.int .i64 4, .string (str nm), .int .i64 0, .slice a ts.length c]) ∧ _)
  generalize str nm = s
  generalize ts.length = n
  go_enter Tryz.func20, Tryz.ntmps20
  go_wp2
  exact bodyPost_ret (v := .agg #[.int .i64 4, .string s, .int .i64 0, .slice a n c]) (by simp [results, Tryz.results20, go_sem]) rfl ⟨rfl, (Keep.refl _ w).alloc _⟩
end Go.Proofs.YtfkbbbjicaedmaaGreatDoor
namespace Go.Proofs.YtfkbbbjicaedmaaGreatDoor
open Go.RowKit Go.Maps
set_option linter.unusedVariables false
set_option linter.unusedSimpArgs false
end Go.Proofs.YtfkbbbjicaedmaaGreatDoor
namespace Go.Proofs.YtfkbbbjicaedmaaGreatDoor
open Go.RowKit Go.Maps
set_option linter.unusedVariables false
set_option linter.unusedSimpArgs false
end Go.Proofs.YtfkbbbjicaedmaaGreatDoor
namespace Go.Proofs.YtfkbbbjicaedmaaGreatDoor
open Go.RowKit Go.Maps
set_option linter.unusedVariables false
set_option linter.unusedSimpArgs false
end Go.Proofs.YtfkbbbjicaedmaaGreatDoor
namespace Go.Proofs.YtfkbbbjicaedmaaGreatDoor
open Go.RowKit Go.Maps
set_option linter.unusedVariables false
set_option linter.unusedSimpArgs false
end Go.Proofs.YtfkbbbjicaedmaaGreatDoor
namespace Go.Proofs.YtfkbbbjicaedmaaGreatDoor
open Go.RowKit Go.Maps
set_option linter.unusedVariables false
set_option linter.unusedSimpArgs false
end Go.Proofs.YtfkbbbjicaedmaaGreatDoor
namespace Go.Proofs.YtfkbbbjicaedmaaGreatDoor
open Go.RowKit Go.Maps
set_option linter.unusedVariables false
set_option linter.unusedSimpArgs false
structure Pt where
  nd : Nd
  ta : Option Addr
  tl : Nat
  tc : Nat
  ja : Option Addr
  jc : Nat
  same : Nat
  st : Int
  sz : Int
  dp : Int
instance : Inhabited Pt := ⟨⟨default, none, 0, 0, none, 0, 0, 0, 0, 0⟩⟩
def Pt.cells (p : Pt) : List Value := [.int .i64 p.nd.k, .string (str p.nd.nm), .int .i64 p.nd.i, .slice p.ta p.tl p.tc, .slice p.ja p.nd.args.length p.jc, .int .i64 p.same, .int .i64 p.st, .int .i64 p.sz, .int .i64 p.dp]
section
variable {α : Type} {m : Nat} {f : α → List Value}
end
section
variable {lo g mb gp cap : Nat} {w w' : World} {ps : List Pt} {vs : List (Int × Nat)} {i f : Nat} {p q : Pt} {v : Value}
end
end Go.Proofs.YtfkbbbjicaedmaaGreatDoor
namespace Go.Proofs.YtfkbbbjicaedmaaGreatDoor
open Go.RowKit Go.Maps
set_option linter.unusedVariables false
set_option linter.unusedSimpArgs false
section
variable {lo g mb gp cap : Nat} {w : World} {ps : List Pt} {vs : List (Int × Nat)} {R rk : Nat → Nat} {at_ : Nat}
end
end Go.Proofs.YtfkbbbjicaedmaaGreatDoor
namespace Go.Proofs.YtfkbbbjicaedmaaGreatDoor
open Go.RowKit Go.Maps
set_option linter.unusedVariables false
set_option linter.unusedSimpArgs false
section
variable {lo g mb gp cap : Nat} {w : World} {ps : List Pt} {vs : List (Int × Nat)} {x y : Nat} {p q : Pt}
end
end Go.Proofs.YtfkbbbjicaedmaaGreatDoor
namespace Go.Proofs.YtfkbbbjicaedmaaGreatDoor
open Go.RowKit Go.Maps
set_option linter.unusedVariables false
set_option linter.unusedSimpArgs false
theorem row_some {w : World} {base sz n : Nat} {t : TypeId} {v : Value} {xs : List Value} (h : w.ownsRow base t sz v n xs) (hn : 0 < n) : ∃ g cap cs, v = .slice (some ⟨g, 0, none⟩) n cap ∧ base ≤ g ∧ Blk w g t cs ∧ n ≤ cap ∧ ∀ (j : Nat) (x : Value), xs[j]? = some x → w.cell? ⟨g, j, none⟩ = some x := by
  rcases h.2 with ⟨rfl, h0⟩ | ⟨g, cap, cur, rfl, hb, a2, a3, a4, a5, a6⟩
  · omega
  · refine ⟨g, cap, cur, rfl, hb, a2, a3, fun j x hx => ?_⟩
    have hB : Blk w g t cur := a2
    rw [hB.cell, ← Array.getElem?_toList]
    rw [← a6] at hx
    rw [List.getElem?_take] at hx
    split at hx
    · exact hx
    · cases hx
section
variable {lo g mb gp cap : Nat} {w wr : World} {ps qs : List Pt} {vs : List (Int × Nat)} {R rk : Nat → Nat} {u : Value} {todo : List (Nat × Nat)}
end
end Go.Proofs.YtfkbbbjicaedmaaGreatDoor
namespace Go.Proofs.YtfkbbbjicaedmaaGreatDoor
open Go.RowKit Go.Maps
set_option linter.unusedVariables false
set_option linter.unusedSimpArgs false
section
variable {lo g mb gp cap : Nat} {w : World} {ps : List Pt} {vs : List (Int × Nat)} {D : Nat → T} {a b : Nat}
end
end Go.Proofs.YtfkbbbjicaedmaaGreatDoor
namespace Go.Proofs.YtfkbbbjicaedmaaGreatDoor
open Go.RowKit Go.Maps
set_option linter.unusedVariables false
set_option linter.unusedSimpArgs false
section
variable {lo g mb : Nat} {w w' w'' : World}
end
section
variable {lo g mb : Nat} {w w' : World} {ps : List Pt} {vs : List (Int × Nat)} {u : Value}
end
end Go.Proofs.YtfkbbbjicaedmaaGreatDoor
namespace Go.Proofs.YtfkbbbjicaedmaaGreatDoor
open Go.RowKit Go.Maps
set_option linter.unusedVariables false
set_option linter.unusedSimpArgs false
def Pt.own (p : Pt) (b : Nat) : Prop := (Value.slice p.ja p.nd.args.length p.jc).ownBlock = some b
section
variable {lo g mb : Nat}
end
end Go.Proofs.YtfkbbbjicaedmaaGreatDoor
namespace Go.Proofs.YtfkbbbjicaedmaaGreatDoor
open Go.RowKit Go.Maps
set_option linter.unusedVariables false
set_option linter.unusedSimpArgs false
section
variable {lo g mb : Nat}
end
end Go.Proofs.YtfkbbbjicaedmaaGreatDoor
namespace Go.Proofs.YtfkbbbjicaedmaaGreatDoor
open Go.RowKit Go.Maps
set_option linter.unusedVariables false
set_option linter.unusedSimpArgs false
section
variable {lo g mb : Nat} {w wr w1 w2 w3 : World} {t x : Tm} {a : Option Addr} {c j : Nat} {ps qs qs' : List Pt} {vs : List (Int × Nat)} {va u u' : Value}
end
end Go.Proofs.YtfkbbbjicaedmaaGreatDoor
namespace Go.Proofs.YtfkbbbjicaedmaaGreatDoor
open Go.RowKit Go.Maps
set_option linter.unusedVariables false
set_option linter.unusedSimpArgs false
section
variable {lo g mb : Nat}
end
end Go.Proofs.YtfkbbbjicaedmaaGreatDoor
namespace Go.Proofs.YtfkbbbjicaedmaaGreatDoor
open Go.RowKit Go.Maps
set_option linter.unusedVariables false
set_option linter.unusedSimpArgs false
section
variable {w : World} {i : Int} {nm : List UInt8}
end
end Go.Proofs.YtfkbbbjicaedmaaGreatDoor
namespace Go.Proofs.YtfkbbbjicaedmaaGreatDoor
open Go.RowKit Go.Maps
set_option linter.unusedVariables false
set_option linter.unusedSimpArgs false
section
variable {lo g mb gp cap : Nat} {ps : List Pt} {vs : List (Int × Nat)} {R rk : Nat → Nat}
variable {w wr w2 : World} {qs0 qs q2 : List Pt} {b6 : Nat} {k i : Int} {nm : List UInt8} {ts : List T} {j : Nat} {ua : Option Addr} {uc : Nat} {tps : List TP} {a1 : Option Addr} {c1 : Nat} {t : T}
end
end Go.Proofs.YtfkbbbjicaedmaaGreatDoor
namespace Go.Proofs.YtfkbbbjicaedmaaGreatDoor
open Go.RowKit Go.Maps
set_option linter.unusedVariables false
set_option linter.unusedSimpArgs false
def Nd.wf (p : Nd) : Prop := (Lit.int .i64 p.i).wf = true ∧ p.nm.length ≤ maxLen
section
variable {lo g mb gp cap : Nat} {ps : List Pt} {vs : List (Int × Nat)} {R rk : Nat → Nat} {D : Nat → T}
end
end Go.Proofs.YtfkbbbjicaedmaaGreatDoor
namespace Go.Proofs.YtfkbbbjicaedmaaGreatDoor
open Go.RowKit Go.Maps Go.Sort Go.Shelf
set_option linter.unusedVariables false
set_option linter.unusedSimpArgs false
instance : Inhabited BP := ⟨(0, default, none, 0)⟩
end Go.Proofs.YtfkbbbjicaedmaaGreatDoor
namespace Go.Proofs.YtfkbbbjicaedmaaGreatDoor
open Go.RowKit Go.Maps
set_option linter.unusedVariables false
set_option linter.unusedSimpArgs false
section
variable {lo g mb gp cap : Nat} {ps : List Pt} {vs : List (Int × Nat)} {R rk : Nat → Nat} {D : Nat → T} {w wr W : World} {q q' q2 : List Pt} {u : Value} {bs : List BP} {X : Nat → Prop}
end
end Go.Proofs.YtfkbbbjicaedmaaGreatDoor
namespace Go.Proofs.YtfkbbbjicaedmaaGreatDoor
open Go.RowKit Go.Maps
set_option linter.unusedVariables false
set_option linter.unusedSimpArgs false
section
variable {t u : Tm} {G1 G : List Nd} {V1 V : List (Int × Nat)} {A B : Nat} {D : Nat → T} {R : Nat → Nat}
end
section
variable {lo g mb gp cap : Nat} {w w' w'' : World} {ps : List Pt} {vs : List (Int × Nat)} {v : Value}
end
end Go.Proofs.YtfkbbbjicaedmaaGreatDoor
namespace Go.Proofs.YtfkbbbjicaedmaaGreatDoor
open Go.RowKit Go.Maps
set_option linter.unusedVariables false
set_option linter.unusedSimpArgs false
section
variable {lo g mb : Nat} {W : World} {t u : Tm} {G1 G : List Nd} {V1 V : List (Int × Nat)} {A B : Nat} {D : Nat → T} {a b : Option Addr} {c d : Nat}
end
end Go.Proofs.YtfkbbbjicaedmaaGreatDoor
namespace Go.Proofs.YtfkbbbjicaedmaaGreatDoor
open Go.RowKit Go.Maps
set_option linter.unusedVariables false
set_option linter.unusedSimpArgs false
section
variable {w : World} {t u : Tm} {a b : Option Addr} {c d : Nat}
end
end Go.Proofs.YtfkbbbjicaedmaaGreatDoor
namespace Go.Proofs.YtfkbbbjicaedmaaGreatDoor
open Go.RowKit Go.Maps
set_option linter.unusedVariables false
set_option linter.unusedSimpArgs false
abbrev xV (n : Int) : Tm := .node 1 [] n []
abbrev xC (nm : List UInt8) (l : List Tm) : Tm := .node 4 nm 0 l
end Go.Proofs.YtfkbbbjicaedmaaGreatDoor
