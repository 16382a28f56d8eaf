/-
  Many numbers put behind a row of one's own. No condition.
-/
import Derived.Test.YthbofkffklejoaaSx5
import Derived.Test.YthbofkffklejoaaTp6
namespace Go.Proofs.Ythbofkffklejoaa
open Go.RowKit Go.Maps
set_option linter.unusedVariables false
set_option linter.unusedSimpArgs false

section
variable {w : World} {t u x : Tm} {a b : Option Addr} {c d : Nat}
theorem append_none {base : Nat} {v : Value} {l : List Int} {ty : TypeId} (hrow : w.ownsRow base 2 1 v l.length (l.map (Value.int .i64))) : (Builtin.append_ #[30, 30] ty #[v, .slice none 0 0]).run Try.prog w = .ok v w := by
  obtain ⟨i, y, h1, h2, h3, h4, h5⟩ := info_long
  rcases hrow.2 with ⟨rfl, h0⟩ | ⟨g, cap, cur, rfl, hbg, hgg, hnc, hcm, hcs, htk⟩
  · simp [Builtin.append_, run_underlying Try.underlying30, sizeOf, typeInfo, h1, Builtin.lenOf, Builtin.firstCells]
  · simp [Builtin.append_, run_underlying Try.underlying30, sizeOf, typeInfo, h1, Builtin.lenOf, Builtin.firstCells, hnc, storeCells]
theorem append_longs {base : Nat} {v : Value} {l m : List Int} {ty : TypeId} {ub : Option Addr} {uc : Nat} (hrow : w.ownsRow base 2 1 v l.length (l.map (Value.int .i64))) (hm : LongsAt w ub m) (h0 : ub = none → m.length = 0 ∧ uc = 0) (hn : (l.length + m.length) * 8 ≤ 140737488355328) (hbase : base ≤ w.heap.size) :
    ∃ v' w', (Builtin.append_ #[30, 30] ty #[v, .slice ub m.length uc]).run Try.prog w = .ok v' w' ∧ w'.ownsRow base 2 1 v' (l ++ m).length ((l ++ m).map (Value.int .i64)) ∧ Keep (fun g => g < base) w w' := by
  cases ub with
  | none =>
    obtain ⟨h1, rfl⟩ := h0 rfl
    have hz : m = [] := List.eq_nil_of_length_eq_zero h1
    subst hz
    exact ⟨v, w, append_none hrow, by rw [List.append_nil]; exact hrow, Keep.refl _ _⟩
  | some ad =>
    obtain ⟨i, y, h1, h2, h3, h4, h5⟩ := info_long
    have hnw : ∀ j u, (m.map (Value.int .i64))[j]? = some u → w.cell? (ad.add j) = some u := fun j u hu => by
      rw [List.getElem?_map] at hu
      obtain ⟨z, hz, rfl⟩ := Option.map_eq_some_iff.1 hu
      have hj := (List.getElem?_eq_some_iff.1 hz).1
      obtain ⟨b, off, he, _, hc⟩ := hm j hj
      cases he
      have e : (⟨b, off, none⟩ : Addr).add j = ⟨b, off + j, none⟩ := by unfold Addr.add; split <;> simp_all
      rw [e, hc, List.getD_eq_getElem?_getD, hz]; rfl
    have hone : ∀ u ∈ m.map (Value.int .i64), u.oneCell' = true := by
      intro v hv
      obtain ⟨z, _, rfl⟩ := List.mem_map.1 hv
      rfl
    obtain ⟨v', w', ha, hr, hg, _⟩ := run_append_own (P := Try.prog) w base 30 ty 2 i y 1 8 Try.underlying30 h1 h2 h3 h4 h5 (by decide) v l.length (l.map (Value.int .i64)) hrow ad m.length uc (m.map (Value.int .i64)) (by simp) hnw hone (by unfold maxLen; omega) hn hbase
    refine ⟨v', w', ha, ?_, Keep.ofGrown hg fun g hg2 => Nat.not_lt.2 (hrow.lt g hg2).1⟩
    rw [List.length_append, List.map_append]
    exact hr
theorem longs_on {w' : World} {l : List Int} (h : LongsAt w a l) (k : Keep (fun g => g < w.heap.size) w w') : LongsAt w' a l := fun j hj => by
  obtain ⟨b, o, e, hl, hc⟩ := h j hj
  exact ⟨b, o, e, Nat.lt_of_lt_of_le hl k.size, cell_on hc k⟩
theorem haslong_l {l : List Int} {z : Int} {uc : Nat} (h : LongsAt w a l) (hl : l.length ≤ 2305843009213693952) :
    Calls Try.prog 31 #[.slice a l.length uc, .int .i64 z] w fun e w' => e = .returned (.bool (among l z)) ∧ Keep (fun g => g < w.heap.size) w w' := by
  refine Calls.mono (has_longs h hl z) ?_
  rintro e w' ⟨rfl, rfl⟩
  exact ⟨rfl, Keep.refl _ _⟩
/-- Vars' answer as a row, and as a slice. -/
theorem vars_row {l : List Int} (hT : TmAt w.heap.size w t a c) (hl : vaV t = l) : Calls Try.prog 18 #[tv t a c] w fun e w' => ∃ ua uc, e = .returned (.slice ua l.length uc) ∧ (w'.ownsRow w.heap.size 2 1 (.slice ua l.length uc) l.length (l.map (Value.int .i64)) ∧ LongsAt w' ua l ∧ (ua = none → l.length = 0 ∧ uc = 0)) ∧ Keep (fun g => g < w.heap.size) w w' := by
  have h := Vars_any hT
  rw [hl] at h
  refine Calls.mono h ?_
  rintro e w' ⟨u, rfl, hrow, hk⟩
  obtain ⟨ua, uc, rfl, hL⟩ := row_longs hrow
  refine ⟨ua, uc, rfl, ⟨hrow, hL, fun hn => ?_⟩, hk⟩
  subst hn
  rcases hrow.2 with ⟨h1, h2⟩ | ⟨g, cap, cur, h1, _⟩
  · injection h1 with _ _ h3; exact ⟨h2, h3⟩
  · cases h1
theorem row_slice {base : Nat} {v : Value} {l : List Int} (hrow : w.ownsRow base 2 1 v l.length (l.map (Value.int .i64))) : ∃ ua uc, v = .slice ua l.length uc ∧ LongsAt w ua l ∧ (ua = none → l.length = 0 ∧ uc = 0) := by
  obtain ⟨ua, uc, rfl, hL⟩ := row_longs hrow
  refine ⟨ua, uc, rfl, hL, fun hn => ?_⟩
  subst hn
  rcases hrow.2 with ⟨h1, h2⟩ | ⟨g, cap, cur, h1, _⟩
  · injection h1 with _ _ h3; exact ⟨h2, h3⟩
  · cases h1
end
end Go.Proofs.Ythbofkffklejoaa
