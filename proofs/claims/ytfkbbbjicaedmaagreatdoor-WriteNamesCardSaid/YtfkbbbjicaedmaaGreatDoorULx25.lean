/-
  Tokens in memory: a slice of its own, any slice; the reference's Like of two slices of like tokens. No condition.
-/
import Derived.Test.YtfkbbbjicaedmaaGreatDoorULx7
import Derived.Test.YtfkbbbjicaedmaaGreatDoorULx0
import Derived.Laws.AppendOwn
import Derived.StillTactics
import Derived.StillTailTactics
namespace Go.Proofs.YtfkbbbjicaedmaaGreatDoor
open Go.RowKit Go.Shelf Go.Maps
set_option linter.unusedVariables false
set_option linter.unusedSimpArgs false
def tokCells (t : Tok) : List Value := [.int .i64 t.tk.kind, .string (str t.tk.text), .int .i64 t.tk.int, .int .i64 t.pos, .bool t.tk.quoted, .bool t.apart]
def cellsOfToks (ts : List Tok) : List Value := ts.flatMap tokCells
theorem cellsOfToks_snoc (ts : List Tok) (t : Tok) : cellsOfToks (ts ++ [t]) = cellsOfToks ts ++ tokCells t := by simp [cellsOfToks]
def ToksAt (w : World) (B : Nat) (v : Value) (ts : List Tok) : Prop := w.ownsRow B 75 6 v ts.length (cellsOfToks ts)
theorem ToksAt.is {w : World} {B : Nat} {v : Value} {ts : List Tok} (h : ToksAt w B v ts) : ∃ a c, v = .slice a ts.length c := by
  rcases h.2 with ⟨rfl, h0⟩ | ⟨g, cap, cur, rfl, _⟩
  · rw [h0]; exact ⟨_, _, rfl⟩
  · exact ⟨_, _, rfl⟩
theorem own_keepS {w w' : World} {v : Value} {base n sz : Nat} {e : TypeId} {xs : List Value} {X : Nat → Prop} (h : w.ownsRow base e sz v n xs) (hk : Keep X w w') (hX : ∀ g, base ≤ g → g < w.heap.size → X g) : w'.ownsRow base e sz v n xs := by
  obtain ⟨h1, h2⟩ := h
  refine ⟨h1, ?_⟩
  rcases h2 with h2 | ⟨g, cap, cur, rfl, a1, a2, a3⟩
  · exact .inl h2
  · exact .inr ⟨g, cap, cur, rfl, a1, Blk.keep (show Blk w g e cur from a2) hk (hX g a1 (Blk.lt (show Blk w g e cur from a2))), a3⟩
theorem ToksAt.keep {w w' : World} {B : Nat} {v : Value} {ts : List Tok} {X : Nat → Prop} (h : ToksAt w B v ts) (hk : Keep X w w') (hX : ∀ g, B ≤ g → g < w.heap.size → X g) : ToksAt w' B v ts := own_keepS h hk hX
theorem ToksAt.base {w : World} {B B' : Nat} {v : Value} {ts : List Tok} (h : ToksAt w B v ts) (hb : B' ≤ B) : ToksAt w B' v ts := by
  obtain ⟨h1, h2⟩ := h
  refine ⟨h1, ?_⟩
  rcases h2 with h2 | ⟨g, cap, cur, rfl, a1, a2⟩
  · exact .inl h2
  · exact .inr ⟨g, cap, cur, rfl, Nat.le_trans hb a1, a2⟩
theorem grown_keepS {w w' : World} {v : Value} {base n sz : Nat} {e : TypeId} {xs : List Value} (h : w.ownsRow base e sz v n xs) (hg : w.grownBy w' v.ownBlock) : Keep (· < base) w w' :=
  ⟨hg.os, hg.tape, hg.output, hg.size, fun k hk hX => hg.block k hk (fun e => by
    rcases h.2 with ⟨rfl, _⟩ | ⟨g, cap, cur, rfl, a1, _⟩
    · cases e
    · have h9 : k < base := hX
      have h8 : k = g := Option.some.inj e
      omega)⟩
structure TokIn (w : World) (g o : Nat) (t : Tok) : Prop where
  c0 : w.cell? ⟨g, o, none⟩ = some (.int .i64 t.tk.kind)
  c1 : w.cell? ⟨g, o + 1, none⟩ = some (.string (str t.tk.text))
  c2 : w.cell? ⟨g, o + 2, none⟩ = some (.int .i64 t.tk.int)
  c3 : w.cell? ⟨g, o + 3, none⟩ = some (.int .i64 t.pos)
  c4 : w.cell? ⟨g, o + 4, none⟩ = some (.bool t.tk.quoted)
  c5 : w.cell? ⟨g, o + 5, none⟩ = some (.bool t.apart)
def TkSl (w : World) (B : Nat) (v : Value) (ts : List Tok) : Prop :=
  ∃ a c, v = .slice a ts.length c ∧ ∀ (i : Nat) (t : Tok), ts[i]? = some t → ∃ g o, a = some ⟨g, o, none⟩ ∧ B ≤ g ∧ g < w.heap.size ∧ TokIn w g (o + i * 6) t
theorem cellsOfToks_get (ts : List Tok) : ∀ (i : Nat) (t : Tok), ts[i]? = some t → ∀ k u, (tokCells t)[k]? = some u → (cellsOfToks ts)[i * 6 + k]? = some u := by
  induction ts with
  | nil => intro i t h; simp at h
  | cons t0 ts ih =>
    intro i t h k u hk
    have hl : (tokCells t0).length = 6 := rfl
    have hkl : k < 6 := by
      rcases Nat.lt_or_ge k 6 with h6 | h6
      · exact h6
      · rw [List.getElem?_eq_none (by rw [show (tokCells t).length = 6 from rfl]; exact h6)] at hk; cases hk
    show (tokCells t0 ++ cellsOfToks ts)[i * 6 + k]? = some u
    cases i with
    | zero =>
      have : t0 = t := by simpa using h
      subst this
      rw [List.getElem?_append_left (by omega)]
      simpa using hk
    | succ i =>
      rw [List.getElem?_append_right (by omega), hl]
      have := ih i t (by simpa using h) k u hk
      rw [show (i + 1) * 6 + k - 6 = i * 6 + k by omega]
      exact this
theorem ToksAt.sl {w : World} {B : Nat} {v : Value} {ts : List Tok} (h : ToksAt w B v ts) : TkSl w B v ts := by
  obtain ⟨h1, h2⟩ := h
  rcases h2 with ⟨rfl, h0⟩ | ⟨g, cap, cur, rfl, a1, a2, a3, a4, a5, a6⟩
  · have : ts = [] := List.length_eq_zero_iff.1 h0
    subst this
    exact ⟨none, 0, rfl, fun i t hi => by simp at hi⟩
  · refine ⟨_, _, rfl, fun i t hi => ⟨g, 0, rfl, a1, Blk.lt (show Blk w g _ cur from a2), ?_⟩⟩
    have hb : Blk w g 75 cur := a2
    have hi' : i < ts.length := by
      rcases Nat.lt_or_ge i ts.length with h | h
      · exact h
      · rw [List.getElem?_eq_none h] at hi; cases hi
    have key : ∀ k u, (tokCells t)[k]? = some u → w.cell? ⟨g, 0 + i * 6 + k, none⟩ = some u := by
      intro k u hk
      have h3 := cellsOfToks_get ts i t hi k u hk
      rw [hb.cell, Nat.zero_add, ← Array.getElem?_toList]
      have hk6 : k < 6 := by
        rcases Nat.lt_or_ge k 6 with h6 | h6
        · exact h6
        · rw [List.getElem?_eq_none (by rw [show (tokCells t).length = 6 from rfl]; exact h6)] at hk; cases hk
      rw [← a6, List.getElem?_take_of_lt (by omega)] at h3
      exact h3
    exact ⟨key 0 _ rfl, key 1 _ rfl, key 2 _ rfl, key 3 _ rfl, key 4 _ rfl, key 5 _ rfl⟩
end Go.Proofs.YtfkbbbjicaedmaaGreatDoor
