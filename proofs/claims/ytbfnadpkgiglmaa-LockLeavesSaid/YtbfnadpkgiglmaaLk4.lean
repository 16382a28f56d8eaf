/-
  Slices of integers that came in, that a law has made, or that grow: read, searched, held against another; what stays of them. Conditions: lengths below 2^61.
-/
import Derived.Test.YtbfnadpkgiglmaaLk3
import Derived.OpenShut
import Derived.Deep.AppendLies
namespace Go.Proofs.Ytbfnadpkgiglmaa
open Go.RowKit Go.Maps
set_option linter.unusedVariables false

theorem info3 : (Try.prog.info? 3).map (fun i => (i.zero, i.size, i.bytes)) = some (some (.int .i64 0), 1, 8) := by kernel_rfl
/-- It is nil, or leads to a row of 'cap' cells, the numbers zs (the first 'len' are its elements), each fitting its kind. -/
def IsRow (k : IntKind) (w : World) (a : Option Addr) (len cap : Nat) (zs : List Int) : Prop :=
  (a = none ∧ len = 0 ∧ cap = 0 ∧ zs = []) ∨
  ∃ x, a = some x ∧ len ≤ cap ∧ cap ≤ maxLen ∧ zs.length = cap ∧ (∀ i, i < zs.length → w.cell? (x.add i) = some (.int k (zs.getD i 0))) ∧ ∀ n ∈ zs, (Lit.int k n).wf = true

theorem cell_block {w : World} {b o : Nat} {v : Value} (h : w.cell? ⟨b, o, none⟩ = some v) : b < w.heap.size := by
  unfold World.cell? at h
  rcases Nat.lt_or_ge b w.heap.size with hlt | hge
  · exact hlt
  · simp only [Array.getElem?_eq_none hge] at h; cases h

theorem IsRow.at_ {k : IntKind} {w : World} {a : Option Addr} {len cap : Nat} {zs : List Int} (h : IsRow k w a len cap zs) {j : Nat} (hj : j < len) :
    ∃ b off, a = some ⟨b, off, none⟩ ∧ b < w.heap.size ∧ w.cell? ⟨b, off + j, none⟩ = some (.int k (zs.getD j 0)) ∧ (Lit.int k (zs.getD j 0)).wf = true := by
  rcases h with ⟨_, rfl, _, _⟩ | ⟨x, rfl, h1, _, h3, h4, h5⟩
  · omega
  · obtain ⟨b, off, rfl, hc⟩ := ints_at h4 (by omega)
    have hjc := hc j (by omega)
    refine ⟨b, off, rfl, cell_block hjc, hjc, h5 _ ?_⟩
    rw [List.getD_eq_getElem?_getD, List.getElem?_eq_getElem (by omega)]
    exact List.getElem_mem _
theorem IsRow.len {k : IntKind} {w : World} {a : Option Addr} {len cap : Nat} {zs : List Int} (h : IsRow k w a len cap zs) : len ≤ 9223372036854775807 := by
  rcases h with ⟨_, rfl, _, _⟩ | ⟨x, _, h1, h2, _⟩
  · omega
  · unfold maxLen at h2; omega

def IntsAt (w : World) (a : Option Addr) (xs : List Int) : Prop :=
  ∀ j, j < xs.length → ∃ b off, a = some ⟨b, off, none⟩ ∧ b < w.heap.size ∧ w.cell? ⟨b, off + j, none⟩ = some (.int .i64 (xs.getD j 0))
theorem IntsAt.below {w w' : World} {a : Option Addr} {xs : List Int} (h : IntsAt w a xs) (hb : Below w.heap.size w w') : IntsAt w' a xs := fun j hj => by
  obtain ⟨b, off, ha, hlt, hc⟩ := h j hj
  exact ⟨b, off, ha, Nat.lt_of_lt_of_le hlt hb.size, (hb.cell (p := ⟨b, off + j, none⟩) hlt).trans hc⟩
theorem IntsAt.drewN {w : World} {a : Option Addr} {xs : List Int} (h : IntsAt w a xs) (q : Nat) : IntsAt (w.drewN q) a xs := h
theorem own_ints {w : World} {base : Nat} {u : Value} {xs : List Int} (h : w.ownsRow base 3 1 u xs.length (xs.map (Value.int .i64))) : ∃ a c, u = .slice a xs.length c ∧ IntsAt w a xs := by
  rcases h.2 with ⟨rfl, h0⟩ | ⟨g, cap, cur, rfl, _, hb, _⟩
  · exact ⟨none, 0, by rw [h0], fun j hj => by omega⟩
  · refine ⟨_, _, rfl, fun j hj => ⟨g, 0, rfl, (show Blk w g 3 cur from hb).lt, ?_⟩⟩
    rw [Nat.zero_add, h.cellAt j (by omega)]
    simp [List.getD, hj]
theorem IsRow.ints {w : World} {a : Option Addr} {len cap : Nat} {zs : List Int} (h : IsRow .i64 w a len cap zs) : IntsAt w a (zs.take len) ∧ (zs.take len).length = len := by
  have hl : (zs.take len).length = len := by
    rcases h with ⟨_, rfl, _, rfl⟩ | ⟨x, _, h1, _, h3, _⟩
    · rfl
    · rw [List.length_take]; omega
  refine ⟨fun j hj => ?_, hl⟩
  rw [hl] at hj
  obtain ⟨b, off, ha, hb, hc, _⟩ := h.at_ hj
  refine ⟨b, off, ha, hb, ?_⟩
  rw [hc]
  simp [List.getD, hj]

def among (xs : List Int) (x : Int) : Bool := xs.any (fun y => y == x)
theorem among_iff (xs : List Int) (x : Int) : among xs x = true ↔ x ∈ xs := by
  unfold among; rw [List.any_eq_true]
  exact ⟨fun ⟨y, h1, h2⟩ => by have : y = x := by simpa using h2
                               exact this ▸ h1, fun h => ⟨x, h, by simp⟩⟩
theorem among_succ (xs : List Int) (x : Int) (k : Nat) (hk : k < xs.length) : among (xs.take (k + 1)) x = (among (xs.take k) x || (xs.getD k 0 == x)) := by
  have e : xs.getD k 0 = xs[k] := by simp [List.getD, hk]
  unfold among
  rw [List.take_succ_eq_append_getElem (by omega), List.any_append, e]
  simp
theorem among_take {xs : List Int} {x : Int} {k : Nat} (h : among (xs.take k) x = true) : among xs x = true := by
  rw [among_iff] at *; exact List.take_subset _ _ h

theorem has_ints {w : World} {a : Option Addr} {c : Nat} {xs : List Int} (h : IntsAt w a xs) (hs : xs.length ≤ 2305843009213693952) (x : Int) :
    Calls Try.prog 15 #[.slice a xs.length c, .int .i64 x] w fun e w' => e = .returned (.bool (among xs x)) ∧ w = w' := by
  have H := Lib.hid h; clear h
  have HS := Lib.hid (among_succ xs x)
  go_enter Try.func15, Try.ntmps15
  go_wp2
  go_loop [5] (fun i => ∃ k : Nat, k ≤ xs.length ∧ i = .int .i64 k ∧ Hid (among (xs.take k) x = false)) (fun i => xs.length - (intOf i).toNat)
  case atStart => exact ⟨0, by omega, rfl, Lib.hid rfl⟩
  case round =>
    obtain ⟨k, hk, rfl, HA⟩ := hrel
    by_cases hlt : k < xs.length
    · obtain ⟨b, off, rfl, hb, hc⟩ := H.out k hlt
      have hs := HS.out k hlt
      rw [HA.out, Bool.false_or] at hs
      generalize xs.getD k 0 = y at hc hs
      cases hy : (y == x) with
      | true =>
        rw [hy] at hs
        have HF := Lib.hid (among_take hs); clear hs
        go_wp2
        go_ret
        exact ⟨by rw [HF.out]; rfl, rfl⟩
      | false =>
        rw [hy] at hs
        have HN := Lib.hid hs; clear hs
        go_wp2
        go_round
        case rel => exact ⟨k + 1, by omega, by go_num, HN⟩
        case measure => simp [intOf]; omega
    · obtain rfl : k = xs.length := by omega
      have HE : Hid (among xs x = false) := Lib.hid (by have := HA.out; rwa [List.take_length] at this)
      go_wp2
      go_ret
      exact ⟨by rw [HE.out]; rfl, rfl⟩

theorem same_any {w : World} {a a' : Option Addr} {c c' : Nat} {xs : List Int} (h : IntsAt w a xs) (h' : IntsAt w a' xs) (hs : xs.length ≤ 2305843009213693952) :
    Calls Try.prog 13 #[.slice a xs.length c, .slice a' xs.length c'] w fun e w' => e = .returned (.bool true) ∧ ∃ q, w' = w.drewN q := by
  have H := Lib.hid h; clear h
  have H' := Lib.hid h'; clear h'
  have hq : (((xs.length : Nat) : Int) != ((xs.length : Nat) : Int)) = false := by simp
  go_enter Try.func13, Try.ntmps13
  go_wp2
  go_loopw [5] (fun i wr => ∃ k q : Nat, k ≤ xs.length ∧ i = .int .i64 k ∧ wr = w.drewN q) (fun i _ => xs.length - (intOf i).toNat)
  case atStart => exact ⟨0, 0, by omega, rfl, rfl⟩
  case round =>
    obtain ⟨k, q, hk, rfl, hwr⟩ := hrel
    by_cases hlt : k < xs.length
    · obtain ⟨g, off, rfl, hg, hc⟩ := H.out k hlt
      obtain ⟨g', off', rfl, hg', hc'⟩ := H'.out k hlt
      have e1 : wr.cell? ⟨g, off + k, none⟩ = w.cell? ⟨g, off + k, none⟩ := by rw [hwr]; rfl
      have e2 : wr.cell? ⟨g', off' + k, none⟩ = w.cell? ⟨g', off' + k, none⟩ := by rw [hwr]; rfl
      rw [← e1] at hc
      rw [← e2] at hc'
      clear e1 e2
      have HWR := Lib.hid hwr; clear hwr
      generalize xs.getD k 0 = y at hc hc'
      have hy : (y != y) = false := by simp
      have i1 : (k : Int) < ((xs.length : Nat) : Int) := by omega
      go_wp2
      go_quiet (fail)
      go_wp2
      go_roundw
      case rel => exact ⟨k + 1, q + nq, by omega, by go_num, by rw [HWR.out, World.drewN_drewN]⟩
      case measure => simp [intOf]; omega
    · have HWR := Lib.hid hwr; clear hwr
      go_wp2
      go_ret
      exact ⟨rfl, q, HWR.out⟩


theorem own_keep {w w' : World} {v : Value} {base sz n : Nat} {t : TypeId} {xs : List Value} {X : Nat → Prop} (h : w.ownsRow base t sz v n xs) (hk : Keep X w w') (hX : ∀ g cs, base ≤ g → Blk w g t cs → X g) : w'.ownsRow base t sz v n xs := by
  obtain ⟨h1, h2⟩ := h
  refine ⟨h1, ?_⟩
  rcases h2 with h2 | ⟨g, cap, cur, rfl, a1, a2, a3⟩
  · exact .inl h2
  · exact .inr ⟨g, cap, cur, rfl, a1, (hk.block g (show Blk w g t cur from a2).lt (hX g cur a1 a2)).trans a2, a3⟩
theorem own_below {w w' : World} {v : Value} {base sz n : Nat} {t : TypeId} {xs : List Value} (h : w.ownsRow base t sz v n xs) (hb : Below w.heap.size w w') : w'.ownsRow base t sz v n xs := own_keep h (X := fun _ => True) (Keep.ofBelow0 hb) (fun _ _ _ _ => trivial)
theorem own_type {w : World} {base sz n : Nat} {t : TypeId} {v : Value} {xs : List Value} (h : w.ownsRow base t sz v n xs) {g : Nat} (hg : v.ownBlock = some g) : base ≤ g ∧ ∃ cs, Blk w g t cs := by
  rcases h.2 with ⟨rfl, _⟩ | ⟨g', cap, cur, rfl, hb, a2, _⟩
  · simp [Value.ownBlock] at hg
  · simp only [Value.ownBlock, Option.some.injEq] at hg
    subst hg
    exact ⟨hb, cur, a2⟩
theorem Keep.ofGrown {w w' : World} {row : Option Nat} {X : Nat → Prop} (hg : w.grownBy w' row) (hX : ∀ g, row = some g → ¬ X g) : Keep X w w' :=
  ⟨hg.os, hg.tape, hg.output, hg.size, fun k hk hx => hg.block k hk (fun e => hX k e.symm hx)⟩
theorem LkAt.ne_blk {w : World} {pa mb : Nat} {L : LS} {c : Int} (h : LkAt w pa mb L c) {g : Nat} {t : TypeId} {cs : Array Value} (hg : Blk w g t cs) (ht : t ≠ 54) : g ≠ pa ∧ g ≠ mb :=
  ⟨hg.ne_ h.head ht, (h.map.ne_blk hg).symm⟩
/-- What the locks do leaves rows of numbers, and of anything but locks. -/
theorem own_locks {w w' : World} {v : Value} {base sz n : Nat} {t : TypeId} {xs : List Value} {pa mb : Nat} {L : LS} {c : Int} (h : w.ownsRow base t sz v n xs) (hl : LkAt w pa mb L c) (hk : KeepL pa mb w w') (ht : t ≠ 54) : w'.ownsRow base t sz v n xs :=
  own_keep h hk (fun g cs _ hb => hl.ne_blk hb ht)
/-- A row that grows leaves the locks. -/
theorem LkAt.grown {w w' : World} {v : Value} {base sz n : Nat} {t : TypeId} {xs : List Value} {pa mb : Nat} {L : LS} {c : Int} (hl : LkAt w pa mb L c) (hg : w.grownBy w' v.ownBlock) (h : w.ownsRow base t sz v n xs) (ht : t ≠ 54) : LkAt w' pa mb L c :=
  hl.keep (X := fun k => v.ownBlock ≠ some k) (Keep.ofGrown hg (fun g hg hn => hn hg))
    (fun e => by obtain ⟨_, cs, hb⟩ := own_type h e; exact (hl.ne_blk hb ht).1 rfl)
    (fun e => by obtain ⟨_, cs, hb⟩ := own_type h e; exact (hl.ne_blk hb ht).2 rfl)
end Go.Proofs.Ytbfnadpkgiglmaa
