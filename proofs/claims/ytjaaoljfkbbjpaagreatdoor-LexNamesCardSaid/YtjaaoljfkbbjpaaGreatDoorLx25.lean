/-
  Tokens in memory: a slice of its own, any slice; the reference's Like of two slices of like tokens. No condition.
-/
import Derived.Test.YtjaaoljfkbbjpaaGreatDoorLx8
import Derived.Test.YtjaaoljfkbbjpaaGreatDoorLx4
import Derived.Laws.AppendOwn
import Derived.StillTactics
import Derived.StillTailTactics
namespace Go.Proofs.YtjaaoljfkbbjpaaGreatDoor
open Go.RowKit Go.Shelf Go.Maps
set_option linter.unusedVariables false
set_option linter.unusedSimpArgs false

def tokCells (t : Tok) : List Value := [.int .i64 t.tk.kind, .string (str t.tk.text), .int .i64 t.tk.int, .int .i64 t.pos, .bool t.tk.quoted, .bool t.apart]
def cellsOfToks (ts : List Tok) : List Value := ts.flatMap tokCells
theorem cellsOfToks_snoc (ts : List Tok) (t : Tok) : cellsOfToks (ts ++ [t]) = cellsOfToks ts ++ tokCells t := by simp [cellsOfToks]
/-- A slice of tokens in memory, in blocks from B on. -/
def ToksAt (w : World) (B : Nat) (v : Value) (ts : List Tok) : Prop := w.ownsRow B 33 6 v ts.length (cellsOfToks ts)
theorem ToksAt.is {w : World} {B : Nat} {v : Value} {ts : List Tok} (h : ToksAt w B v ts) : ∃ a c, v = .slice a ts.length c := by
  rcases h.2 with ⟨rfl, h0⟩ | ⟨g, cap, cur, rfl, _⟩
  · rw [h0]; exact ⟨_, _, rfl⟩
  · exact ⟨_, _, rfl⟩
theorem own_keepS {w w' : World} {v : Value} {base n sz : Nat} {e : TypeId} {xs : List Value} {X : Nat → Prop} (h : w.ownsRow base e sz v n xs) (hk : Keep X w w') (hX : ∀ g, base ≤ g → g < w.heap.size → X g) : w'.ownsRow base e sz v n xs := by
  obtain ⟨h1, h2⟩ := h
  refine ⟨h1, ?_⟩
  rcases h2 with h2 | ⟨g, cap, cur, rfl, a1, a2, a3⟩
  · exact .inl h2
  · exact .inr ⟨g, cap, cur, rfl, a1, Blk.keep (show Blk w g e cur from a2) hk (hX g a1 (Blk.lt (show Blk w g e cur from a2))), a3⟩
theorem ToksAt.keep {w w' : World} {B : Nat} {v : Value} {ts : List Tok} {X : Nat → Prop} (h : ToksAt w B v ts) (hk : Keep X w w') (hX : ∀ g, B ≤ g → g < w.heap.size → X g) : ToksAt w' B v ts := own_keepS h hk hX
theorem ToksAt.base {w : World} {B B' : Nat} {v : Value} {ts : List Tok} (h : ToksAt w B v ts) (hb : B' ≤ B) : ToksAt w B' v ts := by
  obtain ⟨h1, h2⟩ := h
  refine ⟨h1, ?_⟩
  rcases h2 with h2 | ⟨g, cap, cur, rfl, a1, a2⟩
  · exact .inl h2
  · exact .inr ⟨g, cap, cur, rfl, Nat.le_trans hb a1, a2⟩
theorem grown_keepS {w w' : World} {v : Value} {base n sz : Nat} {e : TypeId} {xs : List Value} (h : w.ownsRow base e sz v n xs) (hg : w.grownBy w' v.ownBlock) : Keep (· < base) w w' :=
  ⟨hg.os, hg.tape, hg.output, hg.size, fun k hk hX => hg.block k hk (fun e => by
    rcases h.2 with ⟨rfl, _⟩ | ⟨g, cap, cur, rfl, a1, _⟩
    · cases e
    · have h9 : k < base := hX
      have h8 : k = g := Option.some.inj e
      omega)⟩
/-- A token in memory: its six cells. -/
structure TokIn (w : World) (g o : Nat) (t : Tok) : Prop where
  c0 : w.cell? ⟨g, o, none⟩ = some (.int .i64 t.tk.kind)
  c1 : w.cell? ⟨g, o + 1, none⟩ = some (.string (str t.tk.text))
  c2 : w.cell? ⟨g, o + 2, none⟩ = some (.int .i64 t.tk.int)
  c3 : w.cell? ⟨g, o + 3, none⟩ = some (.int .i64 t.pos)
  c4 : w.cell? ⟨g, o + 4, none⟩ = some (.bool t.tk.quoted)
  c5 : w.cell? ⟨g, o + 5, none⟩ = some (.bool t.apart)
theorem TokIn.keep {w w' : World} {g o : Nat} {t : Tok} {X : Nat → Prop} (h : TokIn w g o t) (hk : Keep X w w') (hg : g < w.heap.size) (hX : X g) : TokIn w' g o t := by
  have e : ∀ j, w'.cell? ⟨g, j, none⟩ = w.cell? ⟨g, j, none⟩ := fun j => World.cell?_of_block (hk.block g hg hX)
  exact ⟨by rw [e]; exact h.c0, by rw [e]; exact h.c1, by rw [e]; exact h.c2, by rw [e]; exact h.c3, by rw [e]; exact h.c4, by rw [e]; exact h.c5⟩
/-- Any slice of tokens. -/
def TkSl (w : World) (B : Nat) (v : Value) (ts : List Tok) : Prop :=
  ∃ a c, v = .slice a ts.length c ∧ ∀ (i : Nat) (t : Tok), ts[i]? = some t → ∃ g o, a = some ⟨g, o, none⟩ ∧ B ≤ g ∧ g < w.heap.size ∧ TokIn w g (o + i * 6) t
theorem TkSl.keep {w w' : World} {B : Nat} {v : Value} {ts : List Tok} {X : Nat → Prop} (h : TkSl w B v ts) (hk : Keep X w w') (hX : ∀ g, B ≤ g → g < w.heap.size → X g) : TkSl w' B v ts := by
  obtain ⟨a, c, hv, hc⟩ := h
  refine ⟨a, c, hv, fun i t hi => ?_⟩
  obtain ⟨g, o, ha, hb, hl, ht⟩ := hc i t hi
  exact ⟨g, o, ha, hb, Nat.lt_of_lt_of_le hl hk.size, ht.keep hk hl (hX g hb hl)⟩
theorem cellsOfToks_length (ts : List Tok) : (cellsOfToks ts).length = ts.length * 6 := by
  induction ts with
  | nil => rfl
  | cons t ts ih =>
    show (tokCells t ++ cellsOfToks ts).length = _
    rw [List.length_append, ih]
    simp [tokCells]; omega
theorem cellsOfToks_get (ts : List Tok) : ∀ (i : Nat) (t : Tok), ts[i]? = some t → ∀ k u, (tokCells t)[k]? = some u → (cellsOfToks ts)[i * 6 + k]? = some u := by
  induction ts with
  | nil => intro i t h; simp at h
  | cons t0 ts ih =>
    intro i t h k u hk
    have hl : (tokCells t0).length = 6 := rfl
    have hkl : k < 6 := by
      rcases Nat.lt_or_ge k 6 with h6 | h6
      · exact h6
      · rw [List.getElem?_eq_none (by rw [show (tokCells t).length = 6 from rfl]; exact h6)] at hk; cases hk
    show (tokCells t0 ++ cellsOfToks ts)[i * 6 + k]? = some u
    cases i with
    | zero =>
      have : t0 = t := by simpa using h
      subst this
      rw [List.getElem?_append_left (by omega)]
      simpa using hk
    | succ i =>
      rw [List.getElem?_append_right (by omega), hl]
      have := ih i t (by simpa using h) k u hk
      rw [show (i + 1) * 6 + k - 6 = i * 6 + k by omega]
      exact this
theorem ToksAt.sl {w : World} {B : Nat} {v : Value} {ts : List Tok} (h : ToksAt w B v ts) : TkSl w B v ts := by
  obtain ⟨h1, h2⟩ := h
  rcases h2 with ⟨rfl, h0⟩ | ⟨g, cap, cur, rfl, a1, a2, a3, a4, a5, a6⟩
  · have : ts = [] := List.length_eq_zero_iff.1 h0
    subst this
    exact ⟨none, 0, rfl, fun i t hi => by simp at hi⟩
  · refine ⟨_, _, rfl, fun i t hi => ⟨g, 0, rfl, a1, Blk.lt (show Blk w g _ cur from a2), ?_⟩⟩
    have hb : Blk w g 33 cur := a2
    have hi' : i < ts.length := by
      rcases Nat.lt_or_ge i ts.length with h | h
      · exact h
      · rw [List.getElem?_eq_none h] at hi; cases hi
    have key : ∀ k u, (tokCells t)[k]? = some u → w.cell? ⟨g, 0 + i * 6 + k, none⟩ = some u := by
      intro k u hk
      have h3 := cellsOfToks_get ts i t hi k u hk
      rw [hb.cell, Nat.zero_add, ← Array.getElem?_toList]
      have hk6 : k < 6 := by
        rcases Nat.lt_or_ge k 6 with h6 | h6
        · exact h6
        · rw [List.getElem?_eq_none (by rw [show (tokCells t).length = 6 from rfl]; exact h6)] at hk; cases hk
      rw [← a6, List.getElem?_take_of_lt (by omega)] at h3
      exact h3
    exact ⟨key 0 _ rfl, key 1 _ rfl, key 2 _ rfl, key 3 _ rfl, key 4 _ rfl, key 5 _ rfl⟩
set_option maxRecDepth 1000000 in
set_option maxHeartbeats 8000000 in
theorem like_any {w : World} {B B' : Nat} {v v' : Value} {xs ys : List Tok} (h : TkSl w B v xs) (h' : TkSl w B' v' ys) (hxy : xs.map Tok.tk = ys.map Tok.tk) (hl : xs.length ≤ 100000) : Calls Tryz.prog 17 #[v, v'] w fun e w' => e = .returned (.bool true) ∧ Keep (fun _ => True) w w' := by
  have hle : xs.length = ys.length := by simpa using congrArg List.length hxy
  obtain ⟨a, c, rfl, hc⟩ := h
  obtain ⟨a', c', rfl, hc'⟩ := h'
  rw [← hle]
  have HC := Lib.hid hc
  have HC' := Lib.hid hc'
  have HXY := Lib.hid hxy
  have HLE := Lib.hid hle
  clear hc hc' hxy hle
  go_enter Tryz.func17, Tryz.ntmps17
  go_wp2_with fail
  go_loopw [5] (fun i wr => ∃ k : Nat, k ≤ xs.length ∧ i = .int .i64 k ∧ Keep (fun _ => True) w wr) (fun i _ => xs.length - (intOf i).toNat)
  case atStart => exact ⟨0, by omega, rfl, Keep.refl _ _⟩
  case round =>
    obtain ⟨k, hk, rfl, hL⟩ := hrel
    by_cases hlt : k < xs.length
    · obtain ⟨x, hxk⟩ : ∃ x, xs[k]? = some x := ⟨_, List.getElem?_eq_getElem hlt⟩
      obtain ⟨y, hyk⟩ : ∃ y, ys[k]? = some y := ⟨_, List.getElem?_eq_getElem (by rw [← HLE.out]; exact hlt)⟩
      have hxy : x.tk = y.tk := by
        have := congrArg (fun l => l[k]?) HXY.out
        simpa [hxk, hyk] using this
      obtain ⟨g, o, rfl, _, hg, ht⟩ := HC.out k x hxk
      obtain ⟨g', o', rfl, _, hg', ht'⟩ := HC'.out k y hyk
      have h1 := ht.keep hL hg trivial
      have h2 := ht'.keep hL hg' trivial
      have hs := hL.size
      have HL := Lib.hid hL
      obtain ⟨c0, c1, c2, _, c4, _⟩ := h1
      obtain ⟨d0, d1, d2, _, d4, _⟩ := h2
      rw [← hxy] at d0 d1 d2 d4
      clear hL hxy ht ht' hxk hyk
      generalize str x.tk.text = s at *
      generalize x.tk.int = n2 at *
      generalize x.tk.quoted = q at *
      generalize x.tk.kind = n0 at *
      go_wp2_with fail
      refine wp_region_still_lit (by kernel_rfl) (by kernel_rfl) ?_
      repeat still_step
      refine wpStill_nil ?_
      have hw : ({ wr with drawn := wr.drawn + 1 } : World) = wr.drew := rfl
      rw [hw]
      clear hw
      have HL2 := Lib.hid HL.out.drew
      go_wp2_with fail
      go_roundw
      case rel => exact ⟨k + 1, by omega, by go_num, HL2.out⟩
      case measure => simp [intOf]; omega
    · have hke : k = xs.length := by omega
      subst hke
      have HL := Lib.hid hL
      clear hL
      go_wp2_with fail
      go_ret
      exact ⟨rfl, HL.out⟩
end Go.Proofs.YtjaaoljfkbbjpaaGreatDoor
