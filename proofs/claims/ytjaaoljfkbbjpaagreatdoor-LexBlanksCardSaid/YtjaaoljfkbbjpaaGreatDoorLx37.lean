/-
  Blanks and remarks between tokens, plain: a text is the pieces of its tokens, each up to where the next one begins. No condition.
-/
import Derived.Test.YtjaaoljfkbbjpaaGreatDoorLx6
namespace Go.Proofs.YtjaaoljfkbbjpaaGreatDoor
set_option linter.unusedVariables false
set_option linter.unusedSimpArgs false

def pieces : List Seg → List UInt8 → List (List UInt8)
  | [], _ => []
  | s :: ss, z => (s.body ++ gapOf ss z) :: pieces ss z
def built (ins : Nat → List UInt8) : Nat → List (List UInt8) → List UInt8
  | _, [] => []
  | i, p :: ps => ins i ++ (p ++ built ins (i + 1) ps)
theorem between_built (ins : Nat → List UInt8) (z : List UInt8) : ∀ (ss : List Seg) (i : Nat), between ins i ss z = built ins i (pieces ss z) := by
  intro ss
  induction ss with
  | nil => intro i; rfl
  | cons s ss ih => intro i; simp only [between, built, pieces]; rw [ih, List.append_assoc]
theorem built_snoc (ins : Nat → List UInt8) (p : List UInt8) : ∀ (ps : List (List UInt8)) (i : Nat), built ins i (ps ++ [p]) = built ins i ps ++ (ins (i + ps.length) ++ p) := by
  intro ps
  induction ps with
  | nil => intro i; simp [built]
  | cons q ps ih =>
    intro i
    simp only [List.cons_append, built]
    rw [ih (i + 1), show i + 1 + ps.length = i + (ps.length + 1) by omega]
    simp [List.append_assoc]
theorem pieces_length (z : List UInt8) : ∀ ss : List Seg, (pieces ss z).length = ss.length := by
  intro ss
  induction ss with
  | nil => rfl
  | cons s ss ih => simp [pieces, ih]
theorem place_pos_le : ∀ (ss : List Seg) (a : Nat) (e : Bool) (i : Nat), i < ss.length → a ≤ ((place a e ss).getD i tok0).pos := by
  intro ss
  induction ss with
  | nil => intro a e i hi; simp at hi
  | cons s ss ih =>
    intro a e i hi
    cases i with
    | zero => simp [place]
    | succ i =>
      have := ih (a + s.gap.length + s.body.length) false i (by simpa using hi)
      simp only [place, List.getD_cons_succ]
      omega
theorem pieces_at {l : List UInt8} {ss : List Seg} {z : List UInt8} (h : Lexed l ss z) : ∀ a e i, i < ss.length →
    (pieces ss z)[i]? = some ((l.drop (((place a e ss).getD i tok0).pos - a)).take ((if i + 1 < ss.length then ((place a e ss).getD (i + 1) tok0).pos else a + l.length) - ((place a e ss).getD i tok0).pos)) := by
  induction h with
  | nil z hz => intro a e i hi; simp at hi
  | cons g p r t ss z hs hp ht hL ih =>
    intro a e i hi
    cases i with
    | zero =>
      simp only [place, List.getD_cons_zero, pieces, List.getElem?_cons_zero]
      rw [Nat.add_sub_cancel_left, List.drop_left]
      cases hL with
      | nil z hz =>
        simp [gapOf]
        rw [List.take_of_length_le (by simp; omega)]
      | cons g' p' r' t' ss' z' hs' hp' ht' hL' =>
        simp only [List.length_cons, place, List.getD_cons_succ, List.getD_cons_zero, gapOf]
        rw [if_pos (by omega), show a + g.length + p.length + g'.length - (a + g.length) = (p ++ g').length by simp; omega]
        rw [← List.append_assoc p g', List.take_left]
    | succ i =>
      have hi' : i < ss.length := by simpa using hi
      have h1 := ih (a + g.length + p.length) false i hi'
      have h2 := place_pos_le ss (a + g.length + p.length) false i hi'
      simp only [place, List.getD_cons_succ, pieces, List.getElem?_cons_succ, List.length_cons]
      rw [h1]
      have e1 : (g ++ (p ++ r)).drop (((place (a + g.length + p.length) false ss).getD i tok0).pos - a) = r.drop (((place (a + g.length + p.length) false ss).getD i tok0).pos - (a + g.length + p.length)) := by
        rw [← List.append_assoc, show ((place (a + g.length + p.length) false ss).getD i tok0).pos - a = (g ++ p).length + (((place (a + g.length + p.length) false ss).getD i tok0).pos - (a + g.length + p.length)) by rw [List.length_append]; omega, ← List.drop_drop, List.drop_left]
      rw [e1]
      congr 3
      by_cases hn : i + 1 < ss.length
      · rw [if_pos hn, if_pos (by omega)]
      · rw [if_neg hn, if_neg (by omega)]
        simp; omega
end Go.Proofs.YtjaaoljfkbbjpaaGreatDoor
