/-
  Slices of integers that a law has made: read, copied without one number, held against another. Conditions: lengths of at most 512.
-/
import Derived.Test.YtiiaajdkkofbjaaHolds2
namespace Go.Proofs.Ytiiaajdkkofbjaa
open Go.RowKit Go.Maps
set_option linter.unusedVariables false

def IntsAt (w : World) (a : Option Addr) (xs : List Int) : Prop :=
  ∀ j, j < xs.length → ∃ g, a = some ⟨g, 0, none⟩ ∧ g < w.heap.size ∧ w.cell? ⟨g, j, none⟩ = some (.int .i64 (xs.getD j 0))
theorem own_ints {w : World} {base : Nat} {u : Value} {xs : List Int} (h : w.ownsRow base 3 1 u xs.length (xs.map (Value.int .i64))) : ∃ a c, u = .slice a xs.length c ∧ IntsAt w a xs := by
  rcases h.2 with ⟨rfl, h0⟩ | ⟨g, cap, cur, rfl, _, hb, _⟩
  · exact ⟨none, 0, by rw [h0], fun j hj => by omega⟩
  · refine ⟨_, _, rfl, fun j hj => ⟨g, rfl, (show Blk w g 3 cur from hb).lt, ?_⟩⟩
    rw [h.cellAt j (by omega)]
    simp [List.getD, hj]
theorem blk_ints {w : World} {g : Nat} {xs : List Int} (h : Blk w g 3 (cellsOf xs)) : IntsAt w (some ⟨g, 0, none⟩) xs :=
  fun j hj => ⟨g, rfl, h.lt, by rw [h.cell, cellsOf_get hj]⟩
theorem IntsAt.below {w w' : World} {a : Option Addr} {xs : List Int} (h : IntsAt w a xs) (hb : Below w.heap.size w w') : IntsAt w' a xs := fun j hj => by
  obtain ⟨g, ha, hg, hc⟩ := h j hj
  exact ⟨g, ha, Nat.lt_of_lt_of_le hg hb.size, (hb.cell (p := ⟨g, j, none⟩) hg).trans hc⟩
theorem IntsAt.keep {X : Nat → Prop} {w w' : World} {a : Option Addr} {xs : List Int} (h : IntsAt w a xs) (hk : Keep X w w') (hX : ∀ g, a = some ⟨g, 0, none⟩ → X g) : IntsAt w' a xs := fun j hj => by
  obtain ⟨g, ha, hg, hc⟩ := h j hj
  exact ⟨g, ha, Nat.lt_of_lt_of_le hg hk.size, (World.cell?_of_block (a := ⟨g, j, none⟩) (hk.block g hg (hX g ha))).trans hc⟩

theorem has_ints {w : World} {a : Option Addr} {c : Nat} {xs : List Int} (h : IntsAt w a xs) (hs : xs.length ≤ 512) (hnil : a = none → c = 0) (x : Int) :
    Calls Try.prog 17 #[.slice a xs.length c, .int .i64 x] w fun e w' => e = .returned (.bool (among xs x)) ∧ w = w' := by
  cases a with
  | none =>
    have : xs = [] := by
      cases xs with
      | nil => rfl
      | cons y l => obtain ⟨g, ha, _⟩ := h 0 (by simp); cases ha
    subst this
    rw [hnil rfl]
    exact has_nil x
  | some p =>
    cases xs with
    | nil =>
      obtain ⟨b, o, s⟩ := p
      go_enter Try.func17, Try.ntmps17
      go_wp2
      refine wp_loop_rounds 1 ?_
      rw [rounds_succ]
      go_wp2
      go_ret
      exact ⟨rfl, rfl⟩
    | cons y l =>
      obtain ⟨g, ha, _⟩ := h 0 (by simp)
      obtain rfl := Option.some.inj ha
      have := has_cells (w := w) (g := g) (n := (y :: l).length) (c := c) (xs := y :: l) (fun j hj => by
        obtain ⟨g', ha', _, hc⟩ := h j hj
        cases ha'; exact hc) (Nat.le_refl _) (by omega) x
      rwa [List.take_length] at this

def without (xs : List Int) (x : Int) : List Int := xs.filter (fun y => y != x)
theorem without_succ (xs : List Int) (x : Int) (k : Nat) (hk : k < xs.length) : without (xs.take (k + 1)) x = without (xs.take k) x ++ if xs.getD k 0 != x then [xs.getD k 0] else [] := by
  have e : xs.getD k 0 = xs[k] := by simp [List.getD, hk]
  unfold without
  rw [List.take_succ_eq_append_getElem hk, List.filter_append, e]
  congr 1
  cases hx : (xs[k] != x) <;> simp [hx]
theorem without_le (xs : List Int) (x : Int) (k : Nat) : (without (xs.take k) x).length ≤ k := Nat.le_trans (List.length_filter_le _ _) (List.length_take_le _ _)

set_option maxHeartbeats 1000000 in
theorem without_any {w : World} {a : Option Addr} {c : Nat} {xs : List Int} (h : IntsAt w a xs) (hs : xs.length ≤ 512) (x : Int) :
    Calls Try.prog 35 #[.slice a xs.length c, .int .i64 x] w fun e w' => ∃ u, e = .returned u ∧ Below w.heap.size w w' ∧ w'.ownsRow w.heap.size 3 1 u (without xs x).length ((without xs x).map (Value.int .i64)) := by
  obtain ⟨i0, hi0, hz0, hz1, hz2⟩ := info_parts info3
  have hown0 : (w.alloc (Obj.cells #[] 3)).ownsRow w.heap.size 3 1 (.slice (some ⟨w.heap.size, 0, none⟩) 0 0) 0 [] := World.ownsRow_made w #[] 0 (Nat.le_refl _) (by unfold maxLen; omega) rfl
  have hb0 : Below w.heap.size w (w.alloc (Obj.cells #[] 3)) := (Below.refl _ _).alloc (Nat.le_refl _) _
  have HO := Lib.hid hown0; clear hown0
  have HB := Lib.hid hb0; clear hb0
  have H := Lib.hid h; clear h
  have HS := Lib.hid (without_succ xs x)
  have HL := Lib.hid (without_le xs x)
  go_enter Try.func35, Try.ntmps35
  go_wp2_with fail
  go_loopw [5, 6] (fun v i wr => ∃ k : Nat, k ≤ xs.length ∧ i = .int .i64 k ∧ Below w.heap.size w wr ∧ wr.ownsRow w.heap.size 3 1 v (without (xs.take k) x).length ((without (xs.take k) x).map (Value.int .i64))) (fun _ i _ => xs.length - (intOf i).toNat)
  case atStart => exact ⟨0, by omega, rfl, HB.out, HO.out⟩
  case round =>
    clear HO HB
    obtain ⟨k, hk, rfl, hb, hown⟩ := hrel
    have hz := hb.size
    by_cases hlt : k < xs.length
    · obtain ⟨g, rfl, hg, hc⟩ := H.out k hlt
      rw [← hb.cell (p := ⟨g, k, none⟩) hg] at hc
      have hs' := HS.out k hlt
      have hl := HL.out k
      generalize xs.getD k 0 = y at hc hs'
      have HB := Lib.hid hb; clear hb
      have HOWN := Lib.hid hown; clear hown
      by_cases hy : y = x
      · have q1 : (y != x) = false := by simpa using hy
        have q2 : (y == x) = true := by simpa using hy
        rw [q1] at hs'
        have HS' := Lib.hid hs'; clear hs'
        clear hy
        go_wp2
        go_roundw
        case rel => exact ⟨k + 1, by omega, by go_num, HB.out, by rw [HS'.out]; simpa using HOWN.out⟩
        case measure => simp [intOf]; omega
      · have q1 : (y != x) = true := by simpa using hy
        have q2 : (y == x) = false := by simpa using hy
        rw [q1] at hs'
        have HS' := Lib.hid hs'; clear hs'
        clear hy
        go_wp2_with (at_builtin; refine wpList_append_own _ rfl _ _ 30 rfl w.heap.size 3 i0 (.int .i64 0) 1 8 Try.underlying30 hi0 hz0 hz1 hz2 rfl (by decide) _ _ _ rfl (HOWN.out.alloc _) ⟨wr.heap.size, 0, none⟩ 1 1 [.int .i64 y] rfl rfl ?c1 ?c2 ?c3 ?c4 ?c5 ?_)
        case c2 => rfl
        case c3 => unfold maxLen; omega
        case c4 => omega
        case c5 => omega
        intro v' w' hown' hgrow _
        have HOW2 : Hid (w'.ownsRow w.heap.size 3 1 v' (without (xs.take (k + 1)) x).length ((without (xs.take (k + 1)) x).map (Value.int .i64))) := by
          refine Lib.hid ?_; rw [HS'.out]; simpa using hown'
        have HBN := Lib.hid ((HB.out.alloc hz _).grown hgrow (by simp; omega) (fun g hg => (HOWN.out.lt g hg).1))
        clear hown' hgrow
        go_wp2_with fail
        go_roundw
        case rel => exact ⟨k + 1, by omega, by go_num, HBN.out, HOW2.out⟩
        case measure => simp [intOf]; omega
    · obtain rfl : k = xs.length := by omega
      rw [List.take_length] at hown
      have HB := Lib.hid hb; clear hb
      have HOWN := Lib.hid hown; clear hown
      go_wp2_with fail
      go_ret
      exact ⟨_, rfl, HB.out, HOWN.out⟩

theorem same_any {w : World} {a a' : Option Addr} {c c' : Nat} {xs : List Int} (h : IntsAt w a xs) (h' : IntsAt w a' xs) (hs : xs.length ≤ 512) :
    Calls Try.prog 34 #[.slice a xs.length c, .slice a' xs.length c'] w fun e w' => e = .returned (.bool true) ∧ ∃ q, w' = w.drewN q := by
  have H := Lib.hid h; clear h
  have H' := Lib.hid h'; clear h'
  have hq : (((xs.length : Nat) : Int) != ((xs.length : Nat) : Int)) = false := by simp
  go_enter Try.func34, Try.ntmps34
  go_wp2
  go_loopw [5] (fun i wr => ∃ k q : Nat, k ≤ xs.length ∧ i = .int .i64 k ∧ wr = w.drewN q) (fun i _ => xs.length - (intOf i).toNat)
  case atStart => exact ⟨0, 0, by omega, rfl, rfl⟩
  case round =>
    obtain ⟨k, q, hk, rfl, hwr⟩ := hrel
    by_cases hlt : k < xs.length
    · obtain ⟨g, rfl, hg, hc⟩ := H.out k hlt
      obtain ⟨g', rfl, hg', hc'⟩ := H'.out k hlt
      have e1 : wr.cell? ⟨g, k, none⟩ = w.cell? ⟨g, k, none⟩ := by rw [hwr]; rfl
      have e2 : wr.cell? ⟨g', k, none⟩ = w.cell? ⟨g', k, none⟩ := by rw [hwr]; rfl
      rw [← e1] at hc
      rw [← e2] at hc'
      clear e1 e2
      have HWR := Lib.hid hwr; clear hwr
      generalize xs.getD k 0 = y at hc hc'
      have hy : (y != y) = false := by simp
      have i1 : (k : Int) < ((xs.length : Nat) : Int) := by omega
      go_wp2
      go_quiet (fail)
      go_wp2
      go_roundw
      case rel => exact ⟨k + 1, q + nq, by omega, by go_num, by rw [HWR.out, World.drewN_drewN]⟩
      case measure => simp [intOf]; omega
    · have HWR := Lib.hid hwr; clear hwr
      go_wp2
      go_ret
      exact ⟨rfl, q, HWR.out⟩
end Go.Proofs.Ytiiaajdkkofbjaa
