/-
  Many numbers put behind a row of one's own. No condition.
-/
import Derived.Test.YthbofkffklejoaaQSx5
import Derived.Test.YthbofkffklejoaaQTp6
namespace Go.Proofs.Ythbofkffklejoaa
open Go.RowKit Go.Maps
set_option linter.unusedVariables false
set_option linter.unusedSimpArgs false
section
variable {w : World} {t u x : Tm} {a b : Option Addr} {c d : Nat}
theorem longs_on {w' : World} {l : List Int} (h : LongsAt w a l) (k : Keep (fun g => g < w.heap.size) w w') : LongsAt w' a l := fun j hj => by
  obtain ⟨b, o, e, hl, hc⟩ := h j hj
  exact ⟨b, o, e, Nat.lt_of_lt_of_le hl k.size, cell_on hc k⟩
theorem vars_row {l : List Int} (hT : TmAt w.heap.size w t a c) (hl : vaV t = l) : Calls Try.prog 18 #[tv t a c] w fun e w' => ∃ ua uc, e = .returned (.slice ua l.length uc) ∧ (w'.ownsRow w.heap.size 2 1 (.slice ua l.length uc) l.length (l.map (Value.int .i64)) ∧ LongsAt w' ua l ∧ (ua = none → l.length = 0 ∧ uc = 0)) ∧ Keep (fun g => g < w.heap.size) w w' := by
  have h := Vars_any hT
  rw [hl] at h
  refine Calls.mono h ?_
  rintro e w' ⟨u, rfl, hrow, hk⟩
  obtain ⟨ua, uc, rfl, hL⟩ := row_longs hrow
  refine ⟨ua, uc, rfl, ⟨hrow, hL, fun hn => ?_⟩, hk⟩
  subst hn
  rcases hrow.2 with ⟨h1, h2⟩ | ⟨g, cap, cur, h1, _⟩
  · injection h1 with _ _ h3; exact ⟨h2, h3⟩
  · cases h1
end
end Go.Proofs.Ythbofkffklejoaa
