/-
  The plain state of a scheduler, what each of its calls does to it, and what it means that a scheduler in memory stands for such a state. No condition.
-/
import Derived.Test.YtlmgojnhmdppnaaArena
import Derived.Deep.RegionWith
import Derived.Deep.RegionLaw
import Derived.BigRegion
import Derived.BigQuiet
import Derived.Outline
import Derived.Laws.AppendOwn
import Derived.ProofKit
import Derived.Lib.Hide
namespace Go.Proofs.Ytlmgojnhmdppnaa
open Go.RowKit Go.Maps
set_option linter.unusedVariables false

/-- A thread that isn't gone. -/
structure Th where
  no : Int
  st : Int
  key : Int

/-- The plain state of a scheduler. -/
structure ZS where
  most : Int
  spawned : Int
  ths : List Th
  bad : Int
  good : Int

/-- Numbers rise, from 1 to the last one's. -/
def Rising (n : Int) (l : List Th) : Prop := l.Pairwise (fun a b => a.no < b.no) ∧ ∀ r ∈ l, 1 ≤ r.no ∧ r.no ≤ n ∧ 1 ≤ r.st ∧ r.st ≤ 3

structure ZS.Ok (Z : ZS) : Prop where
  most1 : 1 ≤ Z.most
  most8 : Z.most ≤ 8
  few : (Z.ths.length : Int) ≤ Z.most
  sp0 : 0 ≤ Z.spawned
  sp1 : Z.spawned < 4611686018427387904
  ris : Rising Z.spawned Z.ths

theorem ZS.Ok.eight {Z : ZS} (h : Z.Ok) : Z.ths.length ≤ 8 := by have := h.few; have := h.most8; omega

/-- The place of a thread. -/
def idx (l : List Th) (t : Int) : Option Nat := l.findIdx? (fun r => r.no == t)
theorem idx_some {l : List Th} {t : Int} {i : Nat} (h : idx l t = some i) : ∃ hi : i < l.length, l[i].no = t := by
  unfold idx at h
  obtain ⟨hi, h1, _⟩ := List.findIdx?_eq_some_iff_getElem.1 h
  exact ⟨hi, by simpa using h1⟩
theorem idx_none {l : List Th} {t : Int} (h : idx l t = none) : ∀ r ∈ l, r.no ≠ t := by
  unfold idx at h
  intro r hr
  have := List.findIdx?_eq_none_iff.1 h r hr
  simpa using this
theorem idx_at {n : Int} {l : List Th} (hr : Rising n l) {i : Nat} (hi : i < l.length) : idx l l[i].no = some i := by
  unfold idx
  rw [List.findIdx?_eq_some_iff_getElem]
  refine ⟨hi, by simp, fun j hj => ?_⟩
  have := List.pairwise_iff_getElem.1 hr.1 j i (by omega) hi hj
  simp; omega
def stOf (l : List Th) (t : Int) : Int := match idx l t with | none => 0 | some i => (l.getD i ⟨0, 0, 0⟩).st
theorem stOf_some {l : List Th} {t : Int} {i : Nat} (h : idx l t = some i) : ∃ hi : i < l.length, stOf l t = l[i].st := by
  obtain ⟨hi, _⟩ := idx_some h
  refine ⟨hi, ?_⟩
  unfold stOf
  rw [h]
  simp [List.getD, hi]
theorem stOf_none {l : List Th} {t : Int} (h : idx l t = none) : stOf l t = 0 := by unfold stOf; rw [h]

/-- One thread's state and key anew. -/
def setT (l : List Th) (t st key : Int) : List Th := l.map (fun r => if r.no == t then ⟨r.no, st, key⟩ else r)
def cutT (l : List Th) (t : Int) : List Th := l.filter (fun r => !(r.no == t))
def wakeT (l : List Th) (key : Int) : List Th := l.map (fun r => if r.st == 2 && r.key == key then ⟨r.no, 1, r.key⟩ else r)
def waits (l : List Th) (key : Int) : Nat := (l.filter (fun r => r.st == 2 && r.key == key)).length
def readyT (l : List Th) : List Int := (l.filter (fun r => r.st == 1)).map (·.no)

theorem length_setT (l : List Th) (t st key : Int) : (setT l t st key).length = l.length := by simp [setT]
theorem length_wakeT (l : List Th) (key : Int) : (wakeT l key).length = l.length := by simp [wakeT]
theorem nos_setT (l : List Th) (t st key : Int) : (setT l t st key).map (·.no) = l.map (·.no) := by
  unfold setT; rw [List.map_map]; apply List.map_congr_left; intro r _; by_cases h : r.no = t <;> simp [h]
theorem nos_wakeT (l : List Th) (key : Int) : (wakeT l key).map (·.no) = l.map (·.no) := by
  unfold wakeT; rw [List.map_map]; apply List.map_congr_left; intro r _; dsimp only [Function.comp]; split <;> rfl
theorem rising_iff {n : Int} {l : List Th} : Rising n l ↔ (l.map (·.no)).Pairwise (· < ·) ∧ ∀ r ∈ l, 1 ≤ r.no ∧ r.no ≤ n ∧ 1 ≤ r.st ∧ r.st ≤ 3 := by
  unfold Rising; rw [List.pairwise_map]
theorem rising_setT {n : Int} {l : List Th} (h : Rising n l) (t st key : Int) (h1 : 1 ≤ st) (h3 : st ≤ 3) : Rising n (setT l t st key) := by
  rw [rising_iff] at h ⊢
  rw [nos_setT]
  refine ⟨h.1, fun r hr => ?_⟩
  unfold setT at hr
  obtain ⟨x, hx, rfl⟩ := List.mem_map.1 hr
  have := h.2 x hx
  by_cases hk : x.no = t
  · simp [hk]; omega
  · simp [hk]; omega
theorem rising_wakeT {n : Int} {l : List Th} (h : Rising n l) (key : Int) : Rising n (wakeT l key) := by
  rw [rising_iff] at h ⊢
  rw [nos_wakeT]
  refine ⟨h.1, fun r hr => ?_⟩
  unfold wakeT at hr
  obtain ⟨x, hx, rfl⟩ := List.mem_map.1 hr
  have := h.2 x hx
  by_cases hk : (x.st == 2 && x.key == key) = true
  · rw [if_pos hk]; dsimp only; omega
  · rw [if_neg hk]; exact this
theorem rising_cutT {n : Int} {l : List Th} (h : Rising n l) (t : Int) : Rising n (cutT l t) :=
  ⟨h.1.filter _, fun r hr => h.2 r (List.mem_filter.1 hr).1⟩
theorem rising_push {n : Int} {l : List Th} (h : Rising n l) (h0 : 0 ≤ n) (k : Int) : Rising (n + 1) (l ++ [⟨n + 1, 1, k⟩]) := by
  refine ⟨List.pairwise_append.2 ⟨h.1, by simp, fun a ha b hb => ?_⟩, fun r hr => ?_⟩
  · rw [List.mem_singleton] at hb
    have := h.2 a ha
    subst hb; dsimp only; omega
  · rcases List.mem_append.1 hr with hr | hr
    · have := h.2 r hr; omega
    · rw [List.mem_singleton] at hr
      subst hr; dsimp only; omega

/-! ### The calls, plainly -/
def ZS.spawnNo (Z : ZS) : Int := if (Z.ths.length : Int) < Z.most then Z.spawned + 1 else 0
def ZS.spawnErr (Z : ZS) : Int := if (Z.ths.length : Int) < Z.most then 0 else 3
def ZS.spawn (Z : ZS) : ZS := if (Z.ths.length : Int) < Z.most then { Z with spawned := Z.spawned + 1, ths := Z.ths ++ [⟨Z.spawned + 1, 1, 0⟩] } else Z
/-- What a call answers that wants the thread in a state. -/
def ZS.inErr (Z : ZS) (st t : Int) : Int := if stOf Z.ths t = 0 then 61 else if stOf Z.ths t = st then 0 else 60
def keyOf (l : List Th) (t : Int) : Int := match idx l t with | none => 0 | some i => (l.getD i ⟨0, 0, 0⟩).key
theorem keyOf_some {l : List Th} {t : Int} {i : Nat} (h : idx l t = some i) : ∃ hi : i < l.length, keyOf l t = l[i].key := by
  obtain ⟨hi, _⟩ := idx_some h
  refine ⟨hi, ?_⟩
  unfold keyOf
  rw [h]
  simp [List.getD, hi]
def ZS.block (Z : ZS) (t key : Int) : ZS := if Z.inErr 1 t = 0 then { Z with ths := setT Z.ths t 2 key } else Z
def ZS.stop (Z : ZS) (t : Int) : ZS := if Z.inErr 1 t = 0 then { Z with ths := setT Z.ths t 3 (keyOf Z.ths t) } else Z
def ZS.free (Z : ZS) (t : Int) : ZS := if Z.inErr 3 t = 0 then { Z with ths := cutT Z.ths t } else Z
def ZS.wake (Z : ZS) (key : Int) : ZS := { Z with ths := wakeT Z.ths key }
def ZS.pick (Z : ZS) (t : Int) : ZS := if stOf Z.ths t = 1 then { Z with good := wrap64 (Z.good + 1) } else { Z with bad := wrap64 (Z.bad + 1) }

theorem ZS.Ok.spawn {Z : ZS} (h : Z.Ok) (hs : Z.spawned < 4611686018427387903) : Z.spawn.Ok := by
  unfold ZS.spawn
  split
  · rename_i hl
    refine ⟨h.most1, h.most8, ?_, ?_, ?_, rising_push h.ris h.sp0 0⟩
    · simp; omega
    · have := h.sp0; dsimp only; omega
    · dsimp only; omega
  · exact h
theorem ZS.Ok.block {Z : ZS} (h : Z.Ok) (t key : Int) : (Z.block t key).Ok := by
  unfold ZS.block
  split
  · exact ⟨h.most1, h.most8, by simpa [length_setT] using h.few, h.sp0, h.sp1, rising_setT h.ris _ _ _ (by omega) (by omega)⟩
  · exact h
theorem ZS.Ok.stop {Z : ZS} (h : Z.Ok) (t : Int) : (Z.stop t).Ok := by
  unfold ZS.stop
  split
  · exact ⟨h.most1, h.most8, by simpa [length_setT] using h.few, h.sp0, h.sp1, rising_setT h.ris _ _ _ (by omega) (by omega)⟩
  · exact h
theorem ZS.Ok.free {Z : ZS} (h : Z.Ok) (t : Int) : (Z.free t).Ok := by
  unfold ZS.free
  split
  · refine ⟨h.most1, h.most8, ?_, h.sp0, h.sp1, rising_cutT h.ris _⟩
    have := h.few
    have : (cutT Z.ths t).length ≤ Z.ths.length := List.length_filter_le _ _
    dsimp only; omega
  · exact h
theorem ZS.Ok.wake {Z : ZS} (h : Z.Ok) (key : Int) : (Z.wake key).Ok := ⟨h.most1, h.most8, by simpa [ZS.wake, length_wakeT] using h.few, h.sp0, h.sp1, rising_wakeT h.ris _⟩
theorem ZS.Ok.pick {Z : ZS} (h : Z.Ok) (t : Int) : (Z.pick t).Ok := by
  unfold ZS.pick
  split
  · exact ⟨h.most1, h.most8, h.few, h.sp0, h.sp1, h.ris⟩
  · exact ⟨h.most1, h.most8, h.few, h.sp0, h.sp1, h.ris⟩

/-! ### In memory -/
def Th.cells (r : Th) : List Value := [.int .i64 r.no, .int .i64 r.st, .int .i64 r.key]
def flat (l : List Th) : List Value := l.flatMap Th.cells
theorem flat_length (l : List Th) : (flat l).length = l.length * 3 := by
  induction l with
  | nil => rfl
  | cons r l ih => simp only [flat, List.flatMap_cons, List.length_append] at *; simp [Th.cells, ih]; omega
theorem flat_cons (r : Th) (l : List Th) : flat (r :: l) = r.cells ++ flat l := rfl
theorem flat_append (l m : List Th) : flat (l ++ m) = flat l ++ flat m := by simp [flat]
theorem flat_take (l : List Th) (n : Nat) : (flat l).take (n * 3) = flat (l.take n) := by
  induction l generalizing n with
  | nil => simp [flat]
  | cons r l ih =>
    cases n with
    | zero => simp [flat]
    | succ n =>
      rw [List.take_succ_cons, flat_cons, flat_cons, ← ih n, List.take_append]
      have : r.cells.length = 3 := rfl
      rw [this, List.take_of_length_le (by rw [this]; omega)]
      congr 2
      omega
theorem flat_drop (l : List Th) (n : Nat) : (flat l).drop (n * 3) = flat (l.drop n) := by
  induction l generalizing n with
  | nil => simp [flat]
  | cons r l ih =>
    cases n with
    | zero => simp [flat]
    | succ n =>
      rw [List.drop_succ_cons, flat_cons, ← ih n, List.drop_append]
      have : r.cells.length = 3 := rfl
      rw [this, List.drop_of_length_le (by rw [this]; omega), List.nil_append]
      congr 1
      omega
theorem flat_get (l : List Th) (k : Nat) (hk : k < l.length) : (flat l)[k * 3]? = some (.int .i64 l[k].no) ∧ (flat l)[k * 3 + 1]? = some (.int .i64 l[k].st) ∧ (flat l)[k * 3 + 2]? = some (.int .i64 l[k].key) := by
  induction l generalizing k with
  | nil => simp at hk
  | cons r l ih =>
    cases k with
    | zero => simp [flat_cons, Th.cells]
    | succ k =>
      have h3 : r.cells.length = 3 := rfl
      obtain ⟨i0, i1, i2⟩ := ih k (by simpa using hk)
      refine ⟨?_, ?_, ?_⟩
      all_goals
        rw [flat_cons, List.getElem?_append_right (by rw [h3]; omega), h3]
        simp only [List.getElem_cons_succ]
      · rw [← i0]; congr 1; omega
      · rw [← i1]; congr 1; omega
      · rw [← i2]; congr 1; omega

def zc (Z : ZS) (v : Value) : Array Value := #[.int .i64 Z.most, .int .i64 Z.spawned, v, .int .i64 Z.bad, .int .i64 Z.good]

/-- The scheduler at ps stands for Z; v: its list of threads. None of its memory is of X. -/
structure ZAt (w : World) (X : Nat → Prop) (ps : Nat) (v : Value) (Z : ZS) : Prop where
  head : Blk w ps 138 (zc Z v)
  row : w.ownsRow 0 145 3 v Z.ths.length (flat Z.ths)
  nX : ¬ X ps
  rX : ∀ g, v.ownBlock = some g → ¬ X g
  ok : Z.Ok

theorem zrow_ty {w : World} {v : Value} {n : Nat} {xs : List Value} {t : TypeId} (h : w.ownsRow 0 t 3 v n xs) {g : Nat} (hg : v.ownBlock = some g) : ∃ cap cur, v = .slice (some ⟨g, 0, none⟩) n cap ∧ Blk w g t cur ∧ n ≤ cap ∧ cap ≤ maxLen ∧ cur.size = cap * 3 ∧ cur.toList.take (n * 3) = xs := by
  rcases h.2 with ⟨rfl, _⟩ | ⟨g', cap, cur, rfl, _, hb, hn, hc, hs, ht⟩
  · simp [Value.ownBlock] at hg
  · simp only [Value.ownBlock, Option.some.injEq] at hg
    subst hg
    exact ⟨cap, cur, rfl, hb, hn, hc, hs, ht⟩
theorem zrow_keep {w w' : World} {v : Value} {base : Nat} {t : TypeId} {sz n : Nat} {xs : List Value} (h : w.ownsRow base t sz v n xs) (hk : ∀ g, v.ownBlock = some g → w'.heap[g]? = w.heap[g]?) : w'.ownsRow base t sz v n xs := by
  obtain ⟨h1, h2⟩ := h
  refine ⟨h1, ?_⟩
  rcases h2 with h2 | ⟨g, cap, cur, rfl, a1, a2, a3⟩
  · exact .inl h2
  · exact .inr ⟨g, cap, cur, rfl, a1, (hk g rfl).trans a2, a3⟩
theorem Keep.ofBelow0 {X : Nat → Prop} {w w' : World} (h : Below w.heap.size w w') : Keep X w w' := ⟨h.os, h.tape, h.output, h.size, fun k hk _ => h.block k hk⟩

section
variable {w w' : World} {X : Nat → Prop} {ps : Nat} {v : Value} {Z : ZS}
theorem ZAt.row_ps (h : ZAt w X ps v Z) {g : Nat} (hg : v.ownBlock = some g) : g ≠ ps := by
  obtain ⟨cap, cur, _, hb, _⟩ := zrow_ty h.row hg
  exact hb.ne_ h.head (by decide)
theorem ZAt.keep {Y : Nat → Prop} (h : ZAt w X ps v Z) (hk : Keep Y w w') (hY : ∀ k, ¬ X k → Y k) : ZAt w' X ps v Z :=
  ⟨h.head.keep hk (hY _ h.nX), zrow_keep h.row (fun g hg => by
    obtain ⟨cap, cur, _, hbk, _⟩ := zrow_ty h.row hg
    exact hk.block g hbk.lt (hY _ (h.rX g hg))), h.nX, h.rX, h.ok⟩
theorem ZAt.below (h : ZAt w X ps v Z) (hb : Below w.heap.size w w') : ZAt w' X ps v Z := h.keep (Y := fun _ => True) (Keep.ofBelow0 hb) (fun _ _ => trivial)
theorem ZAt.drew (h : ZAt w X ps v Z) : ZAt w.drew X ps v Z := h.below (Below.refl _ _).drew
theorem ZAt.alloc (h : ZAt w X ps v Z) (o : Obj) : ZAt (w.alloc o) X ps v Z := h.below ((Below.refl _ _).alloc (Nat.le_refl _) o)
theorem ZAt.less {Y : Nat → Prop} (h : ZAt w X ps v Z) (hY : ∀ k, k < w.heap.size → Y k → X k) : ZAt w Y ps v Z :=
  ⟨h.head, h.row, fun hz => h.nX (hY _ h.head.lt hz), fun g hg hz => h.rX g hg (hY _ (by obtain ⟨cap, cur, _, hbk, _⟩ := zrow_ty h.row hg; exact hbk.lt) hz), h.ok⟩
/-- What the walks want of the head. -/
theorem ZAt.cells (h : ZAt w X ps v Z) : w.cell? ⟨ps, 0, none⟩ = some (.int .i64 Z.most) ∧ w.cell? ⟨ps, 1, none⟩ = some (.int .i64 Z.spawned) ∧ w.cell? ⟨ps, 2, none⟩ = some v ∧
    w.cell? ⟨ps, 3, none⟩ = some (.int .i64 Z.bad) ∧ w.cell? ⟨ps, 4, none⟩ = some (.int .i64 Z.good) ∧ ∀ i, w.frozen? ⟨ps, i, none⟩ = false :=
  ⟨by rw [h.head.cell]; rfl, by rw [h.head.cell]; rfl, by rw [h.head.cell]; rfl, by rw [h.head.cell]; rfl, by rw [h.head.cell]; rfl, h.head.frozen⟩
/-- A field of the head that is a number is written. -/
theorem ZAt.headSet (h : ZAt w X ps v Z) {i : Nat} {u : Value} {Z' : ZS} (ht : Z'.ths = Z.ths) (hok : Z'.Ok) (hc : (zc Z v).setIfInBounds i u = zc Z' v) : ZAt (w.setCell ⟨ps, i, none⟩ u) X ps v Z' :=
  ⟨by have := h.head.set_ i u; rw [hc] at this; exact this, by rw [ht]; exact zrow_keep h.row (fun g hg => Below.heap_setCell _ _ _ _ (h.row_ps hg)), h.nX, h.rX, hok⟩
theorem ZAt.setK (h : ZAt w X ps v Z) (i : Nat) (u : Value) : Keep X w (w.setCell ⟨ps, i, none⟩ u) := (Keep.refl X w).setCell h.nX u
end

/-- The threads, as a slice of three cells an element. -/
def IsThs (w : World) (a : Option Addr) (l : List Th) : Prop :=
  ∀ k (hk : k < l.length), ∃ g, a = some ⟨g, 0, none⟩ ∧ g < w.heap.size ∧ w.cell? ⟨g, k * 3, none⟩ = some (.int .i64 l[k].no) ∧ w.cell? ⟨g, k * 3 + 1, none⟩ = some (.int .i64 l[k].st) ∧ w.cell? ⟨g, k * 3 + 2, none⟩ = some (.int .i64 l[k].key)
theorem IsThs.below {w w' : World} {a : Option Addr} {l : List Th} (h : IsThs w a l) (hb : Below w.heap.size w w') : IsThs w' a l := by
  intro k hk
  obtain ⟨g, ha, hg, c0, c1, c2⟩ := h k hk
  have e : ∀ o, w'.cell? ⟨g, o, none⟩ = w.cell? ⟨g, o, none⟩ := fun o => hb.cell (p := ⟨g, o, none⟩) hg
  exact ⟨g, ha, Nat.lt_of_lt_of_le hg hb.size, (e _).trans c0, (e _).trans c1, (e _).trans c2⟩
theorem row_ths {w : World} {v : Value} {l : List Th} {t : TypeId} (h : w.ownsRow 0 t 3 v l.length (flat l)) : ∃ a cap, v = .slice a l.length cap ∧ l.length ≤ cap ∧ cap ≤ maxLen ∧ IsThs w a l := by
  rcases h.2 with ⟨rfl, h0⟩ | ⟨g, cap, cur, rfl, _, hb, hn, hc, hs, ht⟩
  · rw [h0]
    exact ⟨none, 0, rfl, Nat.le_refl _, Nat.zero_le _, fun k hk => by omega⟩
  · refine ⟨_, _, rfl, hn, hc, fun k hk => ⟨g, rfl, (show Blk w g t cur from hb).lt, ?_⟩⟩
    have hB : Blk w g t cur := hb
    obtain ⟨f0, f1, f2⟩ := flat_get l k hk
    have key : ∀ i, i < l.length * 3 → cur[i]? = (flat l)[i]? := by
      intro i hi
      rw [← ht, List.getElem?_take, if_pos hi, Array.getElem?_toList]
    refine ⟨?_, ?_, ?_⟩
    · rw [hB.cell, key _ (by omega)]; exact f0
    · rw [hB.cell, key _ (by omega)]; exact f1
    · rw [hB.cell, key _ (by omega)]; exact f2

def Zd (w : World) (X : Nat → Prop) (ps : Nat) (Z : ZS) : Prop := ∃ v, ZAt w X ps v Z
section
variable {w w' : World} {X : Nat → Prop} {ps : Nat} {Z : ZS}
theorem Zd.ok (h : Zd w X ps Z) : Z.Ok := by obtain ⟨_, h⟩ := h; exact h.ok
theorem Zd.lt (h : Zd w X ps Z) : ps < w.heap.size := by obtain ⟨_, h⟩ := h; exact h.head.lt
theorem Zd.below (h : Zd w X ps Z) (hb : Below w.heap.size w w') : Zd w' X ps Z := by obtain ⟨v, h⟩ := h; exact ⟨v, h.below hb⟩
theorem Zd.keep {Y : Nat → Prop} (h : Zd w X ps Z) (hk : Keep Y w w') (hY : ∀ k, ¬ X k → Y k) : Zd w' X ps Z := by obtain ⟨v, h⟩ := h; exact ⟨v, h.keep hk hY⟩
theorem Zd.less {Y : Nat → Prop} (h : Zd w X ps Z) (hY : ∀ k, k < w.heap.size → Y k → X k) : Zd w Y ps Z := by obtain ⟨v, h⟩ := h; exact ⟨v, h.less hY⟩
theorem Zd.drew (h : Zd w X ps Z) : Zd w.drew X ps Z := by obtain ⟨v, h⟩ := h; exact ⟨v, h.drew⟩
theorem Zd.alloc (h : Zd w X ps Z) (o : Obj) : Zd (w.alloc o) X ps Z := by obtain ⟨v, h⟩ := h; exact ⟨v, h.alloc o⟩
theorem Zd.setCell (h : Zd w X ps Z) {p : Addr} (hp : X p.block) (u : Value) : Zd (w.setCell p u) X ps Z :=
  h.keep (Y := fun k => ¬ X k) ((Keep.refl _ w).setCell (fun hn => hn hp) u) (fun _ hn => hn)
end
end Go.Proofs.Ytlmgojnhmdppnaa
