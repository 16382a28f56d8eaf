/-
  Joined texts (Tm18, Tm19, Tm20, Tm21, Tm22, Tm23). No condition.
-/
import Derived.Test.YtfkbbbjicaedmaaGreatDoorUMA
import Derived.Test.YtfkbbbjicaedmaaGreatDoorUMB
import Derived.Test.YtfkbbbjicaedmaaGreatDoorUMC
import Derived.Maps.OwnSet
import Derived.Carry
import Derived.Deep.AppendLies
namespace Go.Proofs.YtfkbbbjicaedmaaGreatDoor
open Go.RowKit Go.Maps
set_option linter.unusedVariables false
set_option linter.unusedSimpArgs false
theorem right_of {t : Tm} : t.right = true ↔ t.Right := Tm.right_iff t
theorem TmAt.on {w W : World} {t : Tm} {a : Option Addr} {c : Nat} (h : TmAt w.heap.size w t a c) (hk : Keep (fun g => g < w.heap.size) w W) : TmAt W.heap.size W t a c := (h.keepX hk (fun _ h => h)).up hk.size
theorem Keep.onto {w W V : World} (h : Keep (fun g => g < w.heap.size) w W) (k : Keep (fun g => g < W.heap.size) W V) : Keep (fun g => g < w.heap.size) w V := h.trans (k.less (fun g hg => Nat.lt_of_lt_of_le hg h.size))
section
variable {w : World} {t u : Tm} {a b : Option Addr} {c d : Nat}
end
abbrev ik (k : Int) : Lit := .int .i64 k
section
variable {w w' : World} {mb n : Nat} {z : Value} {f : Int → Option Value} {X : Nat → Prop}
end
end Go.Proofs.YtfkbbbjicaedmaaGreatDoor
namespace Go.Proofs.YtfkbbbjicaedmaaGreatDoor
open Go.RowKit Go.Maps
set_option linter.unusedVariables false
set_option linter.unusedSimpArgs false
end Go.Proofs.YtfkbbbjicaedmaaGreatDoor
namespace Go.Proofs.YtfkbbbjicaedmaaGreatDoor
open Go.RowKit Go.Maps
set_option linter.unusedVariables false
set_option linter.unusedSimpArgs false
theorem box_put {w1 w2 : World} {g : Nat} {X : Nat → Prop} {x : Tm} {a : Option Addr} {c : Nat} (hb : Blk w1 g 24 #[.int .i64 0, .string ⟨#[]⟩, .int .i64 0, .slice none 0 0]) (hk : Keep X w1 w2) (hg : X g) :
    ∃ W, W = ((((w2.setCell ⟨g, 0, none⟩ (.int .i64 x.k)).setCell ⟨g, 1, none⟩ (.string (str x.nm))).setCell ⟨g, 2, none⟩ (.int .i64 x.i)).setCell ⟨g, 3, none⟩ (.slice a x.args.length c)) ∧ Keep (fun k => X k ∧ k ≠ g) w1 W ∧ W.heap.size = w2.heap.size ∧
      Blk W g 24 #[.int .i64 x.k, .string (str x.nm), .int .i64 x.i, .slice a x.args.length c] ∧ Blk w2 g 24 #[.int .i64 0, .string ⟨#[]⟩, .int .i64 0, .slice none 0 0] ∧ Keep (fun k => k ≠ g) w2 W := by
  have hb2 := hb.keep hk hg
  exact ⟨_, rfl, (hk.less (fun k hk => hk.1)).set4 (o := 0) (fun h => h.2 rfl), by simp [World.setCell], hb2.set4, hb2, (Keep.refl _ w2).set4 (o := 0) (fun h => h rfl)⟩
section
variable {w : World} {t : Tm} {a : Option Addr} {c : Nat} {m : Int}
end
end Go.Proofs.YtfkbbbjicaedmaaGreatDoor
namespace Go.Proofs.YtfkbbbjicaedmaaGreatDoor
open Go.RowKit Go.Maps
set_option linter.unusedVariables false
set_option linter.unusedSimpArgs false
theorem row_type {w : World} {base sz n : Nat} {t : TypeId} {v : Value} {xs : List Value} (h : w.ownsRow base t sz v n xs) {g : Nat} (hg : v.ownBlock = some g) : base ≤ g ∧ ∃ cs, Blk w g t cs := by
  rcases h.2 with ⟨rfl, _⟩ | ⟨g', cap, cur, rfl, hb, a2, _⟩
  · simp [Value.ownBlock] at hg
  · simp only [Value.ownBlock, Option.some.injEq] at hg
    subst hg
    exact ⟨hb, cur, a2⟩
theorem row_keep {w w' : World} {v : Value} {base sz n : Nat} {t : TypeId} {xs : List Value} (h : w.ownsRow base t sz v n xs) (hk : ∀ g, v.ownBlock = some g → w'.heap[g]? = w.heap[g]?) : w'.ownsRow base t sz v n xs := by
  obtain ⟨h1, h2⟩ := h
  refine ⟨h1, ?_⟩
  rcases h2 with h2 | ⟨g, cap, cur, rfl, a1, a2, a3⟩
  · exact .inl h2
  · exact .inr ⟨g, cap, cur, rfl, a1, (hk g rfl).trans a2, a3⟩
theorem row_on {w w' : World} {v : Value} {base sz n : Nat} {t : TypeId} {xs : List Value} {X : Nat → Prop} (h : w.ownsRow base t sz v n xs) (hk : Keep X w w') (hX : ∀ g, v.ownBlock = some g → X g) : w'.ownsRow base t sz v n xs :=
  row_keep h fun g hg => by obtain ⟨_, cs, hb⟩ := row_type h hg; exact hk.block g hb.lt (hX g hg)
theorem Keep.ofGrown {w w' : World} {row : Option Nat} {X : Nat → Prop} (hg : w.grownBy w' row) (hX : ∀ g, row = some g → ¬ X g) : Keep X w w' :=
  ⟨hg.os, hg.tape, hg.output, hg.size, fun k hk hx => hg.block k hk (fun e => hX k e.symm hx)⟩
end Go.Proofs.YtfkbbbjicaedmaaGreatDoor
namespace Go.Proofs.YtfkbbbjicaedmaaGreatDoor
open Go.RowKit Go.Maps
set_option linter.unusedVariables false
set_option linter.unusedSimpArgs false
section
variable {w : World} {t : Tm} {a : Option Addr} {c : Nat}
end
end Go.Proofs.YtfkbbbjicaedmaaGreatDoor
namespace Go.Proofs.YtfkbbbjicaedmaaGreatDoor
open Go.RowKit Go.Maps
set_option linter.unusedVariables false
set_option linter.unusedSimpArgs false
section
variable {w : World} {t u : Tm} {a b : Option Addr} {c d : Nat}
end
end Go.Proofs.YtfkbbbjicaedmaaGreatDoor
