/-
  Scripts of operators: playing one on a table. What a last operator leaves. No condition.
-/
import Derived.Test.YtbjnbfoedicelaaDoorOp18
import Derived.Test.YtbjnbfoedicelaaDoorOp22
namespace Go.Proofs.YtbjnbfoedicelaaDoor
open Go.RowKit Go.Shelf Go.Maps
set_option linter.unusedVariables false
set_option linter.unusedSimpArgs false

theorem OpRow.below {w w' : World} {a : Option Addr} {len : Nat} {xs : Tab} (h : OpRow w a len xs) (hb : Below w.heap.size w w') : OpRow w' a len xs := by
  rcases h with h | ⟨b, off, h1, h2, h3, h4⟩
  · exact .inl h
  · exact .inr ⟨b, off, h1, h2, Nat.lt_of_lt_of_le h3 hb.size, fun i o hi f v hv => (hb.cell (p := ⟨b, off + (i * 3 + f), none⟩) h3).trans (h4 i o hi f v hv)⟩
def playT (T : Tab) (xs : Tab) : Tab := xs.foldl addT T
theorem play_length {T xs : Tab} (ha : Apart T) (hl : T.length ≤ 200) : (playT T xs).length ≤ 200 := by
  induction xs generalizing T with
  | nil => exact hl
  | cons x xs ih => exact ih (ha.add x) (length_add ha hl x)
theorem play_apart {T xs : Tab} (ha : Apart T) : Apart (playT T xs) := by
  induction xs generalizing T with
  | nil => exact ha
  | cons x xs ih => exact ih (ha.add x)
theorem play_take_succ {T xs : Tab} {k : Nat} {o : Opv} (h : xs[k]? = some o) : playT T (xs.take (k + 1)) = addT (playT T (xs.take k)) o := by
  unfold playT
  rw [List.take_add_one, h, List.foldl_append]
  rfl
def nought (o : Opv) : Opv := { o with pr := 0 }
theorem check_nought {T : Tab} {o : Opv} (h : checkV T o = 0) : checkV (addT T o) (nought o) = 0 := by
  obtain ⟨h1, h2, h3, h4, h5, h6⟩ := good_of_check h
  have hr : reserved o.nm = false := by
    unfold checkV at h
    repeat' split at h
    all_goals first | (exact absurd h (by decide)) | skip
    all_goals rename_i hh _; simp at hh; exact hh.1
  have ho : other (addT T o) (nought o) = false := by
    unfold other nought
    dsimp only
    by_cases hp : isPre o.ty = true
    · rw [hp]; split <;> rfl
    · have hp' : isPre o.ty = false := by simpa using hp
      unfold addT
      rw [if_pos h]
      by_cases hz : o.pr = 0
      · rw [if_pos hz, find_drop, if_pos ⟨rfl, hp'.symm⟩]
      · rw [if_neg hz, find_put, if_pos ⟨rfl, hp'.symm⟩]
        simp
  unfold checkV
  rw [if_neg (by simp [nought]; omega), if_neg (show ¬ ((nought o).nm.length = 0 ∨ 64 < (nought o).nm.length) from (by omega : ¬ (o.nm.length = 0 ∨ 64 < o.nm.length))), ho]
  rw [show (nought o).nm = o.nm from rfl, hr, if_neg (by simp), if_neg (by simp [nought])]
theorem addT_refused {T : Tab} {o : Opv} (h : checkV T o ≠ 0) : addT T o = T := by unfold addT; rw [if_neg h]
theorem find_add_same {T : Tab} {o : Opv} (h : checkV T o = 0) : find (addT T o) o.nm (isPre o.ty) = if o.pr = 0 then none else some o := by
  unfold addT
  rw [if_pos h]
  split
  · rw [find_drop, if_pos ⟨rfl, rfl⟩]
  · rw [find_put, if_pos ⟨rfl, rfl⟩]
theorem find_add_other {T : Tab} {o : Opv} {p : Bool} (hp : p ≠ isPre o.ty) : find (addT T o) o.nm p = find T o.nm p := by
  unfold addT
  split
  · split
    · rw [find_drop, if_neg (fun h => hp h.2)]
    · rw [find_put, if_neg (fun h => hp h.2)]
  · rfl
theorem length_nought {T : Tab} (ha : Apart T) {o : Opv} (h : checkV T o = 0) : (addT (addT T o) (nought o)).length = if (find T o.nm (isPre o.ty)).isSome then T.length - 1 else T.length := by
  have hc := check_nought h
  have e1 : addT (addT T o) (nought o) = drop (addT T o) o.nm (isPre o.ty) := by
    unfold addT at hc ⊢
    rw [if_pos hc]
    rw [if_pos (show (nought o).pr = 0 from rfl)]
    rfl
  rw [e1, length_drop (ha.add o), find_add_same h]
  unfold addT
  rw [if_pos h]
  by_cases hz : o.pr = 0
  · simp only [hz, if_true, Option.isSome_none, Bool.false_eq_true, if_false]
    rw [length_drop ha]
  · simp only [hz, if_false, Option.isSome_some, if_true]
    rw [length_put ha]
    split
    · rfl
    · rfl
/-- A table as a law holds it: its operators, what else it boxes, nothing of what was there changed. -/
structure LastAt (w W : World) (pb mb : Nat) (T : Tab) (bs : List (Nat × Opv)) : Prop where
  tab : TabAt W pb mb T
  len : T.length ≤ 200
  below : Below w.heap.size w W
  lo : w.heap.size ≤ mb
  box : ∀ x ∈ bs, Blk W x.1 27 #[.string (str x.2.nm), .int .i64 x.2.ty, .int .i64 x.2.pr]
section
variable {w W W' : World} {pb mb : Nat} {T : Tab} {bs : List (Nat × Opv)}
theorem LastAt.keep (h : LastAt w W pb mb T bs) (hk : Keep (fun _ => True) W W') : LastAt w W' pb mb T bs :=
  ⟨h.tab.keep hk trivial trivial, h.len, h.below.trans (hk.toBelow (fun _ _ => trivial) h.below.size), h.lo, fun x hx => (h.box x hx).keep hk trivial⟩
theorem LastAt.boxed (h : LastAt w W pb mb T bs) (o : Opv) : LastAt w (W.alloc (.cells #[.string (str o.nm), .int .i64 o.ty, .int .i64 o.pr] 27)) pb mb T ((W.heap.size, o) :: bs) := by
  have hk : Keep (fun _ => True) W (W.alloc (.cells #[.string (str o.nm), .int .i64 o.ty, .int .i64 o.pr] 27)) := (Keep.refl _ W).alloc _
  have h' := h.keep hk
  refine ⟨h'.tab, h.len, h'.below, h.lo, fun x hx => ?_⟩
  rcases List.mem_cons.1 hx with rfl | hx
  · exact Blk.new W _ _
  · exact h'.box x hx
theorem LastAt.cells (h : LastAt w W pb mb T bs) {x : Nat × Opv} (hx : x ∈ bs) :
    W.cell? ⟨x.1, 0, none⟩ = some (.string (str x.2.nm)) ∧ W.cell? ⟨x.1, 1, none⟩ = some (.int .i64 x.2.ty) ∧ W.cell? ⟨x.1, 2, none⟩ = some (.int .i64 x.2.pr) ∧ x.1 < W.heap.size := by
  have hb := h.box x hx
  exact ⟨hb.cell 0, hb.cell 1, hb.cell 2, hb.lt⟩
theorem LastAt.pre (h : LastAt w W pb mb T bs) {nm : List UInt8} (hn : nm.length ≤ maxLen) : Calls Tryd.prog 15 #[.pointer (some ⟨pb, 0, none⟩), .string (str nm)] W fun e w' => e = .returned (fndV T nm true) ∧ LastAt w w' pb mb T bs :=
  (prefix_any h.tab hn).mono fun e w' ⟨he, hk⟩ => ⟨he, h.keep hk⟩
theorem LastAt.aft (h : LastAt w W pb mb T bs) {nm : List UInt8} (hn : nm.length ≤ maxLen) : Calls Tryd.prog 16 #[.pointer (some ⟨pb, 0, none⟩), .string (str nm)] W fun e w' => e = .returned (fndV T nm false) ∧ LastAt w w' pb mb T bs :=
  (after_any h.tab hn).mono fun e w' ⟨he, hk⟩ => ⟨he, h.keep hk⟩
theorem LastAt.all (h : LastAt w W pb mb T bs) : Calls Tryd.prog 9 #[.pointer (some ⟨pb, 0, none⟩)] W fun e w' => ∃ a c, e = .returned (.slice a T.length c) ∧ OpsSl w' W.heap.size (.slice a T.length c) (allT T) ∧ LastAt w w' pb mb T bs :=
  (all_any h.tab h.len).mono fun e w' ⟨v, he, hs, hk⟩ => by
    obtain ⟨x, c, hv, hc⟩ := hs
    rw [allT_length] at hv
    subst hv
    exact ⟨x, c, he, ⟨x, c, by rw [allT_length], hc⟩, h.keep hk⟩
theorem LastAt.add (h : LastAt w W pb mb T bs) {o : Opv} (ho : Fits o) : Calls Tryd.prog 10 #[.pointer (some ⟨pb, 0, none⟩), opVal o] W fun e w' => e = .returned (.int .i64 (checkV T o)) ∧ LastAt w w' pb mb (addT T o) bs :=
  (add_any h.tab h.len ho).mono fun e w' ⟨he, ht, hk⟩ => ⟨he, ht, length_add h.tab.map.apart h.len o, h.below.trans (hk.toBelow (fun k hk' => by have := h.lo; omega) h.below.size), h.lo, fun x hx => (h.box x hx).keep hk (h.tab.map.ne_blk (h.box x hx)).symm⟩
end
theorem LastAt.setBox {w W : World} {pb mb : Nat} {T : Tab} {bs : List (Nat × Opv)} (h : LastAt w W pb mb T bs) {bo : Nat} {o : Opv} (hx : (bo, o) ∈ bs) (hl : w.heap.size ≤ bo) : LastAt w (W.setCell ⟨bo, 2, none⟩ (.int .i64 0)) pb mb T [(bo, nought o)] := by
  have hb := h.box (bo, o) hx
  have hk : Keep (· ≠ bo) W (W.setCell ⟨bo, 2, none⟩ (.int .i64 0)) := (Keep.refl _ W).setCell (by simp) _
  refine ⟨h.tab.keep hk (h.tab.head.ne_ hb (by decide)) (h.tab.map.ne_blk hb), h.len, h.below.trans (hk.toBelow (fun k hk' => by omega) h.below.size), h.lo, fun y hy => ?_⟩
  obtain rfl := List.mem_singleton.1 hy
  exact hb.set_ 2 (.int .i64 0)
theorem some_pos {T : Tab} {nm : List UInt8} {p : Bool} (h : (find T nm p).isSome = true) : 1 ≤ T.length := by
  cases T with
  | nil => cases h
  | cons x T => simp
theorem fits_nought {o : Opv} (h : Fits o) : Fits (nought o) := ⟨h.nm, h.ty, show (Lit.int .i64 0).wf = true by decide⟩
theorem OpRow.cells {w W : World} {a : Option Addr} {len : Nat} {xs : Tab} (h : OpRow w a len xs) (hb : Below w.heap.size w W) {i : Nat} {o : Opv} (hi : xs[i]? = some o) :
    ∃ b off, a = some ⟨b, off, none⟩ ∧ b < w.heap.size ∧ W.cell? ⟨b, off + i * 3, none⟩ = some (.string (str o.nm)) ∧ W.cell? ⟨b, off + i * 3 + 1, none⟩ = some (.int .i64 o.ty) ∧ W.cell? ⟨b, off + i * 3 + 2, none⟩ = some (.int .i64 o.pr) := by
  rcases h.below hb with ⟨_, rfl⟩ | ⟨b, off, h1, h2, h3, h4⟩
  · cases hi
  · rcases h with ⟨_, rfl⟩ | ⟨b', off', h1', _, h3', _⟩
    · cases hi
    · obtain ⟨rfl, rfl⟩ : b = b' ∧ off = off' := by rw [h1] at h1'; cases h1'; exact ⟨rfl, rfl⟩
      exact ⟨b, off, h1, h3', h4 i o hi 0 _ rfl, h4 i o hi 1 _ rfl, h4 i o hi 2 _ rfl⟩
end Go.Proofs.YtbjnbfoedicelaaDoor
