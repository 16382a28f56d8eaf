/-
  The plain state of a yard of waiting blocks, and what it means that a yard in memory, with its arena, stands for such a state. No condition.
-/
import Derived.Test.YtiiaajdkkofbjaaOps3
import Derived.Test.YtiiaajdkkofbjaaArgs
namespace Go.Proofs.Ytiiaajdkkofbjaa
open Go.RowKit Go.Maps

/-- A block that waits: who has retired it, and when. -/
structure Wt where
  block : Int
  thread : Int
  whn : Int

/-- The plain state of a yard: a moment for each thread, 0 where it isn't inside. -/
structure YS where
  threads : Int
  bound : Int
  now : Int
  ent : List Int
  wt : List Wt

def lim (l : List Wt) (t : Int) : Nat := (l.filter (fun r => r.thread == t)).length
theorem lim_le (l : List Wt) (t : Int) : lim l t ≤ l.length := List.length_filter_le _ _
theorem lim_cons (r : Wt) (l : List Wt) (t : Int) : lim (r :: l) t = (if r.thread = t then 1 else 0) + lim l t := by
  unfold lim
  by_cases h : r.thread = t
  · simp [h]; omega
  · simp [h]
theorem lim_sum (l : List Wt) (h : ∀ r ∈ l, 1 ≤ r.thread ∧ r.thread ≤ 8) : lim l 1 + lim l 2 + lim l 3 + lim l 4 + lim l 5 + lim l 6 + lim l 7 + lim l 8 = l.length := by
  induction l with
  | nil => rfl
  | cons r l ih =>
    have ih := ih (fun x hx => h x (by simp [hx]))
    have hr := h r (by simp)
    simp only [lim_cons, List.length_cons]
    have hc : r.thread = 1 ∨ r.thread = 2 ∨ r.thread = 3 ∨ r.thread = 4 ∨ r.thread = 5 ∨ r.thread = 6 ∨ r.thread = 7 ∨ r.thread = 8 := by omega
    rcases hc with e | e | e | e | e | e | e | e <;> simp only [e] <;> simp <;> omega
theorem lim_sub {l m : List Wt} (h : l.Sublist m) (t : Int) : lim l t ≤ lim m t := (h.filter _).length_le

structure YS.Ok (Y : YS) : Prop where
  th1 : 1 ≤ Y.threads
  th8 : Y.threads ≤ 8
  bd0 : 0 ≤ Y.bound
  bd64 : Y.bound ≤ 64
  now0 : 0 ≤ Y.now
  len : Y.ent.length = 9
  wf : ∀ r ∈ Y.wt, (Lit.int .i64 r.block).wf = true
  thr : ∀ r ∈ Y.wt, 1 ≤ r.thread ∧ r.thread ≤ 8
  lims : ∀ t, (lim Y.wt t : Int) ≤ Y.bound

theorem YS.Ok.few {Y : YS} (h : Y.Ok) : Y.wt.length ≤ 512 := by
  have hs := lim_sum Y.wt h.thr
  have hl : ∀ t, lim Y.wt t ≤ 64 := fun t => by have := h.lims t; have := h.bd64; omega
  have := hl 1; have := hl 2; have := hl 3; have := hl 4; have := hl 5; have := hl 6; have := hl 7; have := hl 8
  omega
/-- The same but for the moments. -/
theorem YS.Ok.same {Y Z : YS} (h : Y.Ok) (h1 : Z.threads = Y.threads) (h2 : Z.bound = Y.bound) (h3 : 0 ≤ Z.now) (h4 : Z.ent.length = 9) (h5 : Z.wt = Y.wt) : Z.Ok :=
  ⟨h1 ▸ h.th1, h1 ▸ h.th8, h2 ▸ h.bd0, h2 ▸ h.bd64, h3, h4, h5 ▸ h.wf, h5 ▸ h.thr, by rw [h5, h2]; exact h.lims⟩
theorem YS.Ok.sub {Y Z : YS} (h : Y.Ok) (h1 : Z.threads = Y.threads) (h2 : Z.bound = Y.bound) (h3 : Z.now = Y.now) (h4 : Z.ent = Y.ent) (h5 : Z.wt.Sublist Y.wt) : Z.Ok :=
  ⟨h1 ▸ h.th1, h1 ▸ h.th8, h2 ▸ h.bd0, h2 ▸ h.bd64, h3 ▸ h.now0, h4 ▸ h.len, fun r hr => h.wf r (h5.subset hr), fun r hr => h.thr r (h5.subset hr), fun t => by rw [h2]; have := lim_sub h5 t; have := h.lims t; omega⟩

def Wt.cells (r : Wt) : List Value := [.int .i64 r.block, .int .i64 r.thread, .int .i64 r.whn]
def flat (l : List Wt) : List Value := l.flatMap Wt.cells
theorem flat_length (l : List Wt) : (flat l).length = l.length * 3 := by
  induction l with
  | nil => rfl
  | cons r l ih => simp only [flat, List.flatMap_cons, List.length_append] at *; simp [Wt.cells, ih]; omega
theorem flat_cons (r : Wt) (l : List Wt) : flat (r :: l) = r.cells ++ flat l := rfl
theorem flat_append (l m : List Wt) : flat (l ++ m) = flat l ++ flat m := by simp [flat]
theorem flat_take (l : List Wt) (n : Nat) : (flat l).take (n * 3) = flat (l.take n) := by
  induction l generalizing n with
  | nil => simp [flat]
  | cons r l ih =>
    cases n with
    | zero => simp [flat]
    | succ n =>
      rw [List.take_succ_cons, flat_cons, flat_cons, ← ih n, List.take_append]
      have : r.cells.length = 3 := rfl
      rw [this, List.take_of_length_le (by rw [this]; omega)]
      congr 2
      omega
theorem flat_get (l : List Wt) (k : Nat) (hk : k < l.length) : (flat l)[k * 3]? = some (.int .i64 l[k].block) ∧ (flat l)[k * 3 + 1]? = some (.int .i64 l[k].thread) ∧ (flat l)[k * 3 + 2]? = some (.int .i64 l[k].whn) := by
  induction l generalizing k with
  | nil => simp at hk
  | cons r l ih =>
    cases k with
    | zero => simp [flat_cons, Wt.cells]
    | succ k =>
      have h3 : r.cells.length = 3 := rfl
      obtain ⟨i0, i1, i2⟩ := ih k (by simpa using hk)
      refine ⟨?_, ?_, ?_⟩
      all_goals
        rw [flat_cons, List.getElem?_append_right (by rw [h3]; omega), h3]
        simp only [List.getElem_cons_succ]
      · rw [← i0]; congr 1; omega
      · rw [← i1]; congr 1; omega
      · rw [← i2]; congr 1; omega

def yc (pa : Nat) (Y : YS) (v : Value) : Array Value :=
  #[.pointer (some ⟨pa, 0, none⟩), .int .i64 Y.threads, .int .i64 Y.bound, .int .i64 Y.now,
    .int .i64 (Y.ent.getD 0 0), .int .i64 (Y.ent.getD 1 0), .int .i64 (Y.ent.getD 2 0), .int .i64 (Y.ent.getD 3 0), .int .i64 (Y.ent.getD 4 0),
    .int .i64 (Y.ent.getD 5 0), .int .i64 (Y.ent.getD 6 0), .int .i64 (Y.ent.getD 7 0), .int .i64 (Y.ent.getD 8 0), v]

/-- The yard at py, over the arena at pa, stands for Y and S; v: its list of waiting blocks. -/
structure YAt (w : World) (X : Nat → Prop) (pa py : Nat) (v : Value) (Y : YS) (S : AS) : Prop where
  ar : Arena w (fun k => X k ∨ k = py ∨ v.ownBlock = some k) pa S
  head : Blk w py 89 (yc pa Y v)
  row : w.ownsRow 0 103 3 v Y.wt.length (flat Y.wt)
  nX : ¬ X py
  rX : ∀ g, v.ownBlock = some g → ¬ X g
  ok : Y.Ok

theorem row_ty {w : World} {v : Value} {n : Nat} {xs : List Value} {t : TypeId} (h : w.ownsRow 0 t 3 v n xs) {g : Nat} (hg : v.ownBlock = some g) : ∃ cap cur, v = .slice (some ⟨g, 0, none⟩) n cap ∧ Blk w g t cur ∧ n ≤ cap ∧ cap ≤ maxLen ∧ cur.size = cap * 3 ∧ cur.toList.take (n * 3) = xs := by
  rcases h.2 with ⟨rfl, _⟩ | ⟨g', cap, cur, rfl, _, hb, hn, hc, hs, ht⟩
  · simp [Value.ownBlock] at hg
  · simp only [Value.ownBlock, Option.some.injEq] at hg
    subst hg
    exact ⟨cap, cur, rfl, hb, hn, hc, hs, ht⟩

section
variable {w w' : World} {X : Nat → Prop} {pa py : Nat} {v : Value} {Y : YS} {S : AS}
theorem YAt.row_py (h : YAt w X pa py v Y S) {g : Nat} (hg : v.ownBlock = some g) : g ≠ py := by
  obtain ⟨cap, cur, _, hb, _⟩ := row_ty h.row hg
  exact hb.ne_ h.head (by decide)
theorem ownsRow_keep {base : Nat} {t : TypeId} {sz n : Nat} {xs : List Value} (h : w.ownsRow base t sz v n xs) (hk : ∀ g, v.ownBlock = some g → w'.heap[g]? = w.heap[g]?) : w'.ownsRow base t sz v n xs := by
  obtain ⟨h1, h2⟩ := h
  refine ⟨h1, ?_⟩
  rcases h2 with h2 | ⟨g, cap, cur, rfl, a1, a2, a3⟩
  · exact .inl h2
  · exact .inr ⟨g, cap, cur, rfl, a1, (hk g rfl).trans a2, a3⟩
theorem YAt.below (h : YAt w X pa py v Y S) (hb : Below w.heap.size w w') : YAt w' X pa py v Y S :=
  ⟨h.ar.below hb, h.head.below hb h.head.lt, ownsRow_keep h.row (fun g hg => by
    obtain ⟨cap, cur, _, hbk, _⟩ := row_ty h.row hg
    exact hb.block g hbk.lt), h.nX, h.rX, h.ok⟩
theorem YAt.keep {Z : Nat → Prop} (h : YAt w X pa py v Y S) (hk : Keep Z w w') (hZ : ∀ k, ¬ X k → Z k) : YAt w' X pa py v Y S :=
  ⟨h.ar.keep hk (fun k hn => hZ k (fun hx => hn (.inl hx))), h.head.keep hk (hZ _ h.nX), ownsRow_keep h.row (fun g hg => by
    obtain ⟨cap, cur, _, hbk, _⟩ := row_ty h.row hg
    exact hk.block g hbk.lt (hZ _ (h.rX g hg))), h.nX, h.rX, h.ok⟩
theorem YAt.less {Z : Nat → Prop} (h : YAt w X pa py v Y S) (hZ : ∀ k, k < w.heap.size → Z k → X k) : YAt w Z pa py v Y S :=
  ⟨h.ar.less (fun k hk hz => by rcases hz with hz | hz | hz; exact .inl (hZ k hk hz); exact .inr (.inl hz); exact .inr (.inr hz)), h.head, h.row,
   fun hz => h.nX (hZ _ h.head.lt hz), fun g hg hz => h.rX g hg (hZ _ (by obtain ⟨cap, cur, _, hbk, _⟩ := row_ty h.row hg; exact hbk.lt) hz), h.ok⟩
theorem YAt.drew (h : YAt w X pa py v Y S) : YAt w.drew X pa py v Y S := h.below (Below.refl _ _).drew
theorem YAt.alloc (h : YAt w X pa py v Y S) (o : Obj) : YAt (w.alloc o) X pa py v Y S := h.below ((Below.refl _ _).alloc (Nat.le_refl _) o)
theorem YAt.setCell (h : YAt w X pa py v Y S) {p : Addr} (hp : X p.block) (u : Value) : YAt (w.setCell p u) X pa py v Y S :=
  h.keep (Z := fun k => ¬ X k) ((Keep.refl _ w).setCell (fun hn => hn hp) u) (fun _ hn => hn)
theorem yc_ent (pa : Nat) (Y : YS) (v : Value) (t : Nat) (ht : t < 9) : (yc pa Y v)[4 + t]? = some (.int .i64 (Y.ent.getD t 0)) := by
  have : t = 0 ∨ t = 1 ∨ t = 2 ∨ t = 3 ∨ t = 4 ∨ t = 5 ∨ t = 6 ∨ t = 7 ∨ t = 8 := by omega
  rcases this with rfl | rfl | rfl | rfl | rfl | rfl | rfl | rfl | rfl <;> rfl
/-- What the walks want of the head. -/
theorem YAt.cells (h : YAt w X pa py v Y S) : w.cell? ⟨py, 0, none⟩ = some (.pointer (some ⟨pa, 0, none⟩)) ∧ w.cell? ⟨py, 1, none⟩ = some (.int .i64 Y.threads) ∧ w.cell? ⟨py, 2, none⟩ = some (.int .i64 Y.bound) ∧ w.cell? ⟨py, 3, none⟩ = some (.int .i64 Y.now) ∧
    w.cell? ⟨py, 13, none⟩ = some v ∧ ∀ i, w.frozen? ⟨py, i, none⟩ = false :=
  ⟨by rw [h.head.cell]; rfl, by rw [h.head.cell]; rfl, by rw [h.head.cell]; rfl, by rw [h.head.cell]; rfl, by rw [h.head.cell]; rfl, h.head.frozen⟩
theorem YAt.entry (h : YAt w X pa py v Y S) {t : Nat} (ht : t < 9) : w.cell? ⟨py, 4 + t, none⟩ = some (.int .i64 (Y.ent.getD t 0)) := by
  rw [h.head.cell, yc_ent _ _ _ _ ht]
theorem YAt.tickSet (h : YAt w X pa py v Y S) (n : Int) (hn : 0 ≤ n) : YAt (w.setCell ⟨py, 3, none⟩ (.int .i64 n)) X pa py v { Y with now := n } S :=
  ⟨h.ar.setCell (.inr (.inl rfl)) _, by have := h.head.set_ 3 (.int .i64 n); simpa [yc] using this, ownsRow_keep h.row (fun g hg => Below.heap_setCell _ _ _ _ (h.row_py hg)), h.nX, h.rX, h.ok.same rfl rfl hn h.ok.len rfl⟩
theorem YAt.entSet (h : YAt w X pa py v Y S) {t : Nat} (ht : t < 9) (n : Int) : YAt (w.setCell ⟨py, 4 + t, none⟩ (.int .i64 n)) X pa py v { Y with ent := Y.ent.set t n } S := by
  refine ⟨h.ar.setCell (.inr (.inl rfl)) _, ?_, ownsRow_keep h.row (fun g hg => Below.heap_setCell _ _ _ _ (h.row_py hg)), h.nX, h.rX, h.ok.same rfl rfl h.ok.now0 (by simpa using h.ok.len) rfl⟩
  have h9 := h.ok.len
  have hh := h.head.set_ (4 + t) (.int .i64 n)
  have e : (yc pa Y v).setIfInBounds (4 + t) (.int .i64 n) = yc pa { Y with ent := Y.ent.set t n } v := by
    obtain ⟨th, bd, nw, ent, wt⟩ := Y
    match ent, h9 with
    | [a0, a1, a2, a3, a4, a5, a6, a7, a8], _ =>
      have : t = 0 ∨ t = 1 ∨ t = 2 ∨ t = 3 ∨ t = 4 ∨ t = 5 ∨ t = 6 ∨ t = 7 ∨ t = 8 := by omega
      rcases this with rfl | rfl | rfl | rfl | rfl | rfl | rfl | rfl | rfl <;> rfl
  rw [e] at hh
  exact hh
theorem YAt.setK (h : YAt w X pa py v Y S) (i : Nat) (u : Value) : Keep X w (w.setCell ⟨py, i, none⟩ u) := (Keep.refl X w).setCell h.nX u
end

def Yd (w : World) (X : Nat → Prop) (pa py : Nat) (Y : YS) (S : AS) : Prop := ∃ v, YAt w X pa py v Y S

section
variable {w w' : World} {X : Nat → Prop} {pa py : Nat} {Y : YS} {S : AS}
theorem Yd.ok (h : Yd w X pa py Y S) : Y.Ok := by obtain ⟨_, h⟩ := h; exact h.ok
theorem Yd.sok (h : Yd w X pa py Y S) : S.Ok := by obtain ⟨_, h⟩ := h; exact h.ar.ok
theorem Yd.below (h : Yd w X pa py Y S) (hb : Below w.heap.size w w') : Yd w' X pa py Y S := by obtain ⟨v, h⟩ := h; exact ⟨v, h.below hb⟩
theorem Yd.keep {Z : Nat → Prop} (h : Yd w X pa py Y S) (hk : Keep Z w w') (hZ : ∀ k, ¬ X k → Z k) : Yd w' X pa py Y S := by obtain ⟨v, h⟩ := h; exact ⟨v, h.keep hk hZ⟩
theorem Yd.less {Z : Nat → Prop} (h : Yd w X pa py Y S) (hZ : ∀ k, k < w.heap.size → Z k → X k) : Yd w Z pa py Y S := by obtain ⟨v, h⟩ := h; exact ⟨v, h.less hZ⟩
theorem Yd.drew (h : Yd w X pa py Y S) : Yd w.drew X pa py Y S := by obtain ⟨v, h⟩ := h; exact ⟨v, h.drew⟩
theorem Yd.alloc (h : Yd w X pa py Y S) (o : Obj) : Yd (w.alloc o) X pa py Y S := by obtain ⟨v, h⟩ := h; exact ⟨v, h.alloc o⟩
theorem Yd.setCell (h : Yd w X pa py Y S) {p : Addr} (hp : X p.block) (u : Value) : Yd (w.setCell p u) X pa py Y S := by obtain ⟨v, h⟩ := h; exact ⟨v, h.setCell hp u⟩
/-- The arena alone, for a call on it: whatever it changes outside the yard, the yard stays. -/
theorem Yd.arena (h : Yd w X pa py Y S) : ∃ Z : Nat → Prop, Arena w Z pa S ∧ (∀ k, w.heap.size ≤ k → ¬ X k → ¬ Z k) ∧ (∀ k, X k → Z k) ∧ ∀ w' S', Arena w' Z pa S' → Keep Z w w' → Yd w' X pa py Y S' := by
  obtain ⟨v, h⟩ := h
  refine ⟨_, h.ar, ?_, fun k hk => .inl hk, ?_⟩
  · rintro k hk hx (h1 | h1 | h1)
    · exact hx h1
    · have := h.head.lt; omega
    · obtain ⟨cap, cur, _, hbk, _⟩ := row_ty h.row h1
      have := hbk.lt; omega
  · intro w' S' ha hk
    exact ⟨v, ha, h.head.keep hk (.inr (.inl rfl)), ownsRow_keep h.row (fun g hg => by
      obtain ⟨cap, cur, _, hbk, _⟩ := row_ty h.row hg
      exact hk.block g hbk.lt (.inr (.inr hg))), h.nX, h.rX, h.ok⟩
end

end Go.Proofs.Ytiiaajdkkofbjaa
