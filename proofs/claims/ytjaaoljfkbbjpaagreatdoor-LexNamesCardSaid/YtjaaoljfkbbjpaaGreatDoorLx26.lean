/-
  What the laws of package lex rest on: the variables that are listed; Tokens, Code, At, Bare as contracts. Conditions: those variables hold what the row says.
-/
import Derived.Test.YtjaaoljfkbbjpaaGreatDoorLx24
import Derived.Test.YtjaaoljfkbbjpaaGreatDoorLx11
import Derived.Test.YtjaaoljfkbbjpaaGreatDoorFt2
namespace Go.Proofs.YtjaaoljfkbbjpaaGreatDoor
open Go.RowKit Go.Shelf Go.Maps
set_option linter.unusedVariables false
set_option linter.unusedSimpArgs false

/-- The variables that package lex reads. -/
structure LxVars (w : World) : Prop where
  er : w.cell? ⟨1, 0, none⟩ = some (.iface 101 (.agg #[.pointer (some ⟨7, 28, none⟩)]))
  rg : ∃ b, RangeOk w b
  mx : MaxOk w
theorem LxVars.keep {w w' : World} {X : Nat → Prop} (h : LxVars w) (hk : Keep X w w') (hX : ∀ g, g < w.heap.size → X g) : LxVars w' := by
  obtain ⟨b, hb⟩ := h.rg
  refine ⟨?_, ⟨b, hb.keep hk (hX _ (lt_cell hb))⟩, h.mx.keep hk (hX _ h.mx.lt)⟩
  exact (World.cell?_of_block (hk.block _ (lt_cell h.er) (hX _ (lt_cell h.er)))).trans h.er
theorem LxVars.below {w w' : World} (h : LxVars w) (hb : Below w.heap.size w w') : LxVars w' := h.keep (Keep.ofBelow (X := (· < w.heap.size)) hb (fun k hk => hk)) (fun g hg => hg)
theorem tokens_v (L : List UInt8) {w : World} (h : LxVars w) : Calls Tryz.prog 15 #[.string (str L)] w (ToksPost w (tokens L)) := by
  obtain ⟨b, hb⟩ := h.rg
  exact tokens_any L hb h.mx
theorem tokens_le {L : List UInt8} {ts : List Tok} {n : Nat} {r : List UInt8} (h : tokens L = .good ts n r) : L.length ≤ 16384 := (tokens_lexed h).1
theorem code_at {w : World} {b c q : Nat} (h : FaultAt w b c q) (hv : LxVars w) : Calls Tryz.prog 18 #[faultV b] w fun e w' => e = .returned (.int .i64 c) ∧ Below w.heap.size w w' :=
  code_fault ⟨b, 0, none⟩ c w (Blk.cell h 0) hv.er
theorem at_at {w : World} {b c q : Nat} (h : FaultAt w b c q) (hv : LxVars w) : Calls Tryz.prog 16 #[faultV b] w fun e w' => e = .returned (.int .i64 q) ∧ Below w.heap.size w w' :=
  at_fault b q w (Blk.cell h 1) hv.er
theorem str_list (a : List UInt8) : (str a).toList = a := by rw [ByteArray.toList_eq]; simp [str_data]
/-- Would a name be one token that isn't quoted? -/
def bareR (L : List UInt8) : R (List Tok) → Bool
  | .good [t] _ _ => (t.tk.kind == 1) && (t.tk.text == L)
  | _ => false
def bareC (L : List UInt8) : Bool := bareR L (tokens L)
set_option maxRecDepth 1000000 in
set_option maxHeartbeats 8000000 in
theorem bare_any (L : List UInt8) {w : World} (hv : LxVars w) : Calls Tryz.prog 11 #[.string (str L)] w fun e w' => e = .returned (.bool (bareC L)) ∧ Below w.heap.size w w' := by
  have ht := tokens_v L hv
  have hsl := str_list L
  obtain ⟨s, hs⟩ : ∃ s, str L = s := ⟨_, rfl⟩
  unfold bareC
  rw [hs] at ht hsl ⊢
  rcases hx : tokens L with ⟨c, q⟩ | ⟨ts, n, r⟩
  · rw [hx] at ht
    have HT := Lib.hid ht
    clear ht hx
    go_enter Tryz.func11, Tryz.ntmps11
    go_wp2_with fail
    refine HT.out.mono ?_
    rintro e w1 ⟨b, rfl, hF, hbs, hB⟩
    have HB := Lib.hid hB
    clear hB hF hbs HT
    unfold faultV
    go_wp2_with fail
    go_ret
    exact ⟨rfl, HB.out⟩
  · rw [hx] at ht
    have HT := Lib.hid ht
    clear ht hx
    go_enter Tryz.func11, Tryz.ntmps11
    go_wp2_with fail
    refine HT.out.mono ?_
    rintro e w1 ⟨v, rfl, hT, hB⟩
    have HB := Lib.hid hB
    have HS := Lib.hid hT.sl
    clear hB hT HT
    obtain ⟨a, c, rfl, hc⟩ := HS.out
    by_cases h1 : ts.length = 1
    · obtain ⟨t, rfl⟩ := List.length_eq_one_iff.1 h1
      obtain ⟨g, o, rfl, _, hg, c0, c1, _⟩ := hc 0 t rfl
      have hbt := str_list t.tk.text
      simp only [List.length_cons, List.length_nil]
      simp only [Nat.zero_mul, Nat.add_zero] at c0 c1
      clear hc HS h1
      generalize str t.tk.text = s1 at *
      by_cases hk : t.tk.kind = 1
      · have hk' : ((t.tk.kind : Int) = 1) := by omega
        go_wp2_with fail
        go_ret
        refine ⟨?_, HB.out⟩
        simp [bareR, hk]
      · have hk' : ¬ ((t.tk.kind : Int) = 1) := by omega
        go_wp2_with fail
        go_ret
        refine ⟨?_, HB.out⟩
        simp [bareR, hk]
    · have h1' : ((ts.length : Int) == 1) = false := beq_eq_false_iff_ne.2 (by omega)
      clear hc HS
      go_wp2_with fail
      go_ret
      refine ⟨?_, HB.out⟩
      have : bareR L (.good ts n r) = false := by
        rcases ts with _ | ⟨t, _ | ⟨t', ts⟩⟩
        · rfl
        · exact absurd rfl h1
        · rfl
      rw [this]; rfl
end Go.Proofs.YtjaaoljfkbbjpaaGreatDoor
