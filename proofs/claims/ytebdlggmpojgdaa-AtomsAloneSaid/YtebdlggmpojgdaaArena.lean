/-
  The plain state of an arena of cells, and what it means that an arena in memory stands for such a state: the words in which the contracts of package cells are said. No condition.
-/
import Derived.Test.YtebdlggmpojgdaaRows
import Derived.Maps.OwnSet
import Derived.WalkKit
namespace Go.Proofs.Ytebdlggmpojgdaa
open Go.RowKit Go.Maps

/-! ### Plain: live blocks by number -/
abbrev Blks := List (Int × List Int)
def look (l : Blks) (k : Int) : Option (List Int) := (l.find? (fun e => e.1 == k)).map (·.2)
def cut (l : Blks) (k : Int) : Blks := l.filter (fun e => !(e.1 == k))
def put (l : Blks) (k : Int) (v : List Int) : Blks := l.map (fun e => if e.1 == k then (k, v) else e)
def total (l : Blks) : Nat := (l.map (fun e => e.2.length)).sum
def Apart (l : Blks) : Prop := l.Pairwise (fun a b => a.1 ≠ b.1)

theorem look_nil (k : Int) : look [] k = none := rfl
theorem look_cons (e : Int × List Int) (l : Blks) (k : Int) : look (e :: l) k = if e.1 = k then some e.2 else look l k := by
  unfold look
  rw [List.find?_cons]
  by_cases h : e.1 = k
  · simp [h]
  · have h' : (e.1 == k) = false := by simpa using h
    rw [h', if_neg h]
theorem look_cut (l : Blks) (k j : Int) : look (cut l k) j = if j = k then none else look l j := by
  induction l with
  | nil => simp [cut, look]
  | cons e l ih =>
    by_cases he : e.1 = k
    · have : cut (e :: l) k = cut l k := by simp [cut, he]
      rw [this, ih, look_cons]
      by_cases hj : j = k
      · simp [hj]
      · simp [hj]; intro h; omega
    · have : cut (e :: l) k = e :: cut l k := by simp [cut, he]
      rw [this, look_cons, ih, look_cons]
      by_cases hj : j = k
      · subst hj; simp [he]
      · simp [hj]
theorem look_put (l : Blks) (k j : Int) (v : List Int) : look (put l k v) j = if j = k ∧ (look l k).isSome then some v else look l j := by
  induction l with
  | nil => simp [put, look]
  | cons e l ih =>
    have hp : put (e :: l) k v = (if e.1 == k then (k, v) else e) :: put l k v := rfl
    rw [hp, look_cons, look_cons, look_cons, ih]
    by_cases he : e.1 = k
    · subst he
      by_cases hj : j = e.1
      · simp [hj]
      · have : ¬ e.1 = j := fun h => hj h.symm
        simp [hj, this]
    · by_cases hj : j = k
      · subst hj; simp [he]
      · simp [he, hj]
theorem mem_of_look {l : Blks} {k : Int} {v : List Int} (h : look l k = some v) : (k, v) ∈ l := by
  unfold look at h
  obtain ⟨e, he, rfl⟩ := Option.map_eq_some_iff.1 h
  have h1 := List.mem_of_find?_eq_some he
  have h2 := List.find?_some he
  simp at h2
  rw [← h2]; exact h1
theorem look_of_mem {l : Blks} (ha : Apart l) {k : Int} {v : List Int} (h : (k, v) ∈ l) : look l k = some v := by
  induction l with
  | nil => cases h
  | cons e l ih =>
    obtain ⟨h1, h2⟩ := List.pairwise_cons.1 ha
    rw [look_cons]
    rcases List.mem_cons.1 h with rfl | h
    · simp
    · have := h1 _ h
      rw [if_neg (by simpa using this)]
      exact ih h2 h
theorem look_none {l : Blks} {k : Int} : look l k = none ↔ ∀ e ∈ l, e.1 ≠ k := by
  unfold look
  simp [List.find?_eq_none]
theorem apart_cut {l : Blks} (h : Apart l) (k : Int) : Apart (cut l k) := h.filter _
theorem put_keys (l : Blks) (k : Int) (v : List Int) : (put l k v).map (·.1) = l.map (·.1) := by
  unfold put
  rw [List.map_map]
  apply List.map_congr_left
  intro e _
  by_cases h : e.1 = k <;> simp [h]
theorem apart_iff (l : Blks) : Apart l ↔ (l.map (·.1)).Pairwise (· ≠ ·) := by
  unfold Apart; rw [List.pairwise_map]
theorem apart_put {l : Blks} (h : Apart l) (k : Int) (v : List Int) : Apart (put l k v) := by
  rw [apart_iff] at h ⊢; rw [put_keys]; exact h
theorem apart_cons {l : Blks} (h : Apart l) {k : Int} (hk : look l k = none) (v : List Int) : Apart ((k, v) :: l) :=
  List.pairwise_cons.2 ⟨fun e he => Ne.symm (look_none.1 hk e he), h⟩
theorem length_put (l : Blks) (k : Int) (v : List Int) : (put l k v).length = l.length := by simp [put]
theorem total_put (l : Blks) (k : Int) (v : List Int) (h : ∀ u, (k, u) ∈ l → u.length = v.length) : total (put l k v) = total l := by
  unfold total put
  rw [List.map_map]
  congr 1
  apply List.map_congr_left
  rintro ⟨a, b⟩ he
  by_cases hk : a = k
  · subst hk; simp [h b he]
  · simp [hk]
theorem cut_none {l : Blks} {k : Int} (h : look l k = none) : cut l k = l := by
  unfold cut
  rw [List.filter_eq_self]
  intro e he
  simpa using look_none.1 h e he
theorem total_cut {l : Blks} (ha : Apart l) {k : Int} {v : List Int} (h : look l k = some v) : total (cut l k) + v.length = total l ∧ (cut l k).length + 1 = l.length := by
  induction l with
  | nil => cases h
  | cons e l ih =>
    obtain ⟨h1, h2⟩ := List.pairwise_cons.1 ha
    rw [look_cons] at h
    by_cases he : e.1 = k
    · rw [if_pos he] at h
      obtain rfl := Option.some.inj h
      have hc : cut (e :: l) k = l := by
        have : cut (e :: l) k = cut l k := by simp [cut, he]
        rw [this]
        apply cut_none
        rw [look_none]
        intro x hx hk
        exact h1 x hx (he.trans hk.symm)
      rw [hc]
      constructor
      · simp [total]; omega
      · simp
    · rw [if_neg he] at h
      obtain ⟨i1, i2⟩ := ih h2 h
      have hc : cut (e :: l) k = e :: cut l k := by simp [cut, he]
      rw [hc]
      simp only [total, List.map_cons, List.sum_cons, List.length_cons] at *
      omega
theorem total_le {l : Blks} (h : ∀ e ∈ l, 1 ≤ e.2.length) : l.length ≤ total l := by
  induction l with
  | nil => simp [total]
  | cons e l ih =>
    have := ih (fun x hx => h x (by simp [hx]))
    have := h e (by simp)
    simp only [total, List.map_cons, List.sum_cons, List.length_cons] at *
    omega

/-- The plain state of an arena. -/
structure AS where
  most : Int
  used : Int
  made : Int
  faults : Int
  bl : Blks

structure AS.Ok (S : AS) : Prop where
  most0 : 0 ≤ S.most
  most1 : S.most ≤ 65536
  used1 : S.used ≤ S.most
  sum : S.used = (total S.bl : Nat)
  made0 : 0 ≤ S.made
  apart : Apart S.bl
  keys : ∀ e ∈ S.bl, 1 ≤ e.1 ∧ e.1 ≤ S.made
  sizes : ∀ e ∈ S.bl, 1 ≤ e.2.length ∧ e.2.length ≤ 256

theorem AS.Ok.used0 {S : AS} (h : S.Ok) : 0 ≤ S.used := by have := h.sum; omega
theorem AS.Ok.few {S : AS} (h : S.Ok) : S.bl.length ≤ 65536 := by
  have := total_le (fun e he => (h.sizes e he).1)
  have := h.sum; have := h.used1; have := h.most1
  omega
theorem AS.Ok.key {S : AS} (h : S.Ok) {k : Int} {cs : List Int} (hl : look S.bl k = some cs) : 1 ≤ k ∧ k ≤ S.made := h.keys _ (mem_of_look hl)
theorem AS.Ok.size {S : AS} (h : S.Ok) {k : Int} {cs : List Int} (hl : look S.bl k = some cs) : 1 ≤ cs.length ∧ cs.length ≤ 256 := h.sizes _ (mem_of_look hl)
theorem AS.Ok.fresh {S : AS} (h : S.Ok) {k : Int} (hk : S.made < k) : look S.bl k = none := by
  cases hl : look S.bl k with
  | none => rfl
  | some cs => have := (h.key hl).2; omega

def AS.alloc (S : AS) (n : Nat) : AS := { S with used := S.used + n, made := S.made + 1, bl := (S.made + 1, List.replicate n 0) :: S.bl }
def AS.fault (S : AS) : AS := { S with faults := wrap64 (S.faults + 1) }
def AS.free (S : AS) (b : Int) (n : Nat) : AS := { S with used := S.used - n, bl := cut S.bl b }
def AS.set (S : AS) (b : Int) (cs : List Int) : AS := { S with bl := put S.bl b cs }

theorem AS.Ok.alloc {S : AS} (h : S.Ok) {n : Nat} (h1 : 1 ≤ n) (h2 : n ≤ 256) (h3 : S.used + n ≤ S.most) : (S.alloc n).Ok := by
  obtain ⟨a1, a2, a3, a4, a5, a6, a7, a8⟩ := h
  refine ⟨a1, a2, h3, ?_, ?_, ?_, ?_, ?_⟩
  · simp only [AS.alloc, total, List.map_cons, List.sum_cons, List.length_replicate] at *
    omega
  · simp only [AS.alloc]; omega
  · exact apart_cons a6 ((⟨a1, a2, a3, a4, a5, a6, a7, a8⟩ : AS.Ok S).fresh (by omega)) _
  · intro e he
    simp only [AS.alloc] at *
    rcases List.mem_cons.1 he with rfl | he
    · simp; omega
    · have := a7 e he; omega
  · intro e he
    simp only [AS.alloc] at *
    rcases List.mem_cons.1 he with rfl | he
    · simp; omega
    · exact a8 e he
theorem AS.Ok.fault {S : AS} (h : S.Ok) : S.fault.Ok := ⟨h.most0, h.most1, h.used1, h.sum, h.made0, h.apart, h.keys, h.sizes⟩
theorem AS.Ok.free {S : AS} (h : S.Ok) {b : Int} {cs : List Int} (hl : look S.bl b = some cs) : (S.free b cs.length).Ok := by
  obtain ⟨t1, t2⟩ := total_cut h.apart hl
  obtain ⟨a1, a2, a3, a4, a5, a6, a7, a8⟩ := h
  refine ⟨a1, a2, ?_, ?_, a5, apart_cut a6 b, fun e he => a7 e (List.mem_filter.1 he).1, fun e he => a8 e (List.mem_filter.1 he).1⟩
  · simp only [AS.free]; omega
  · simp only [AS.free]; omega
theorem AS.Ok.set {S : AS} (h : S.Ok) {b : Int} {cs ds : List Int} (hl : look S.bl b = some cs) (hd : ds.length = cs.length) : (S.set b ds).Ok := by
  obtain ⟨a1, a2, a3, a4, a5, a6, a7, a8⟩ := h
  have hlen : ∀ u, (b, u) ∈ S.bl → u.length = ds.length := by
    intro u hu
    have := look_of_mem a6 hu
    rw [hl] at this
    obtain rfl := Option.some.inj this
    exact hd.symm
  refine ⟨a1, a2, a3, ?_, a5, apart_put a6 b ds, ?_, ?_⟩
  · simp only [AS.set]; rw [total_put _ _ _ hlen]; exact a4
  · intro e he
    simp only [AS.set, put] at *
    obtain ⟨e0, he0, rfl⟩ := List.mem_map.1 he
    have := a7 e0 he0
    by_cases hk : e0.1 = b
    · simp [hk]; omega
    · simp [hk]; omega
  · intro e he
    simp only [AS.set, put] at *
    obtain ⟨e0, he0, rfl⟩ := List.mem_map.1 he
    have h8 := a8 e0 he0
    by_cases hk : e0.1 = b
    · have := hlen e0.2 (by rw [← hk]; exact he0)
      simp [hk]; omega
    · simp [hk]; omega

def AS.touch (S : AS) (b : Int) : AS := match look S.bl b with | none => S.fault | some _ => S
def AS.err (S : AS) (b i : Int) : Int := match look S.bl b with | none => 20 | some cs => if 0 ≤ i ∧ i < cs.length then 0 else 1
def AS.err0 (S : AS) (b : Int) : Int := match look S.bl b with | none => 20 | some _ => 0
def AS.val (S : AS) (b i : Int) : Int := match look S.bl b with | none => 0 | some cs => if 0 ≤ i ∧ i < cs.length then cs.getD i.toNat 0 else 0
def AS.sizeAt (S : AS) (b : Int) : Int := match look S.bl b with | none => 0 | some cs => cs.length
def AS.storeAt (S : AS) (b i v : Int) : AS := match look S.bl b with | none => S.fault | some cs => if 0 ≤ i ∧ i < cs.length then S.set b (cs.set i.toNat v) else S
def AS.swapOk (S : AS) (b i o : Int) : Bool := match look S.bl b with | none => false | some cs => decide (0 ≤ i ∧ i < cs.length ∧ cs.getD i.toNat 0 = o)
def AS.swapAt (S : AS) (b i o v : Int) : AS := match look S.bl b with | none => S.fault | some cs => if 0 ≤ i ∧ i < cs.length ∧ cs.getD i.toNat 0 = o then S.set b (cs.set i.toNat v) else S
def AS.addVal (S : AS) (b i d : Int) : Int := match look S.bl b with | none => 0 | some cs => if 0 ≤ i ∧ i < cs.length then wrap64 (cs.getD i.toNat 0 + d) else 0
def AS.addAt (S : AS) (b i d : Int) : AS := match look S.bl b with | none => S.fault | some cs => if 0 ≤ i ∧ i < cs.length then S.set b (cs.set i.toNat (wrap64 (cs.getD i.toNat 0 + d))) else S
def AS.freeAt (S : AS) (b : Int) : AS := match look S.bl b with | none => S.fault | some cs => S.free b cs.length
def AS.allocErr (S : AS) (n : Int) : Int := if n < 1 ∨ 256 < n then 1 else if S.most < S.used + n then 21 else 0
def AS.allocAt (S : AS) (n : Int) : AS := if S.allocErr n = 0 then S.alloc n.toNat else S
def AS.allocNo (S : AS) (n : Int) : Int := if S.allocErr n = 0 then S.made + 1 else 0

/-! ### In memory -/
/-- A block known whole, none of its cells frozen. -/
def Blk (w : World) (g : Nat) (t : TypeId) (cs : Array Value) : Prop := w.heap[g]? = some (.cells cs t (0, 0))
/-- What the blocks of X held they hold; no block has gone. -/
structure Keep (X : Nat → Prop) (w w' : World) : Prop where
  os : w'.os = w.os
  tape : w'.tape = w.tape
  output : w'.output = w.output
  size : w.heap.size ≤ w'.heap.size
  block : ∀ k, k < w.heap.size → X k → w'.heap[k]? = w.heap[k]?

section
variable {w w' w'' : World} {g : Nat} {t : TypeId} {cs : Array Value} {X : Nat → Prop}
theorem Blk.lt (h : Blk w g t cs) : g < w.heap.size := by
  rcases Nat.lt_or_ge g w.heap.size with hlt | hge
  · exact hlt
  · unfold Blk at h; rw [Array.getElem?_eq_none hge] at h; cases h
theorem Blk.cell (h : Blk w g t cs) (i : Nat) : w.cell? ⟨g, i, none⟩ = cs[i]? := cell_of_row w g i cs t (0, 0) h
theorem Blk.frozen (h : Blk w g t cs) (i : Nat) : w.frozen? ⟨g, i, none⟩ = false := by
  unfold Blk at h
  simp [World.frozen?, h]
theorem Blk.new (w : World) (t : TypeId) (cs : Array Value) : Blk (w.alloc (.cells cs t)) w.heap.size t cs := heap_alloc_new w _
theorem Blk.drew (h : Blk w g t cs) : Blk w.drew g t cs := h
theorem Blk.alloc (h : Blk w g t cs) (o : Obj) : Blk (w.alloc o) g t cs := (Below.heap_alloc w o g h.lt).trans h
theorem Blk.set_ (h : Blk w g t cs) (i : Nat) (u : Value) : Blk (w.setCell ⟨g, i, none⟩ u) g t (cs.setIfInBounds i u) := by
  unfold Blk at h ⊢
  simp [World.setCell, Array.getElem?_modify, h]
theorem Blk.far (h : Blk w g t cs) {p : Addr} (hp : g ≠ p.block) (u : Value) : Blk (w.setCell p u) g t cs := (Below.heap_setCell w p u g hp).trans h
theorem Blk.keep (h : Blk w g t cs) (hk : Keep X w w') (hX : X g) : Blk w' g t cs := (hk.block g h.lt hX).trans h
theorem Blk.below {B : Nat} (h : Blk w g t cs) (hb : Below B w w') (hg : g < B) : Blk w' g t cs := (hb.block g hg).trans h
theorem Blk.ne_ {g' : Nat} {t' : TypeId} {cs' : Array Value} (h : Blk w g t cs) (h' : Blk w g' t' cs') (hne : t ≠ t') : g ≠ g' := by
  rintro rfl
  unfold Blk at h h'
  rw [h] at h'
  injection h' with h'
  injection h' with _ ht
  exact hne ht

theorem Keep.refl (X : Nat → Prop) (w : World) : Keep X w w := ⟨rfl, rfl, rfl, Nat.le_refl _, fun _ _ _ => rfl⟩
theorem Keep.trans (h : Keep X w w') (k : Keep X w' w'') : Keep X w w'' :=
  ⟨k.os.trans h.os, k.tape.trans h.tape, k.output.trans h.output, Nat.le_trans h.size k.size, fun i hi hX => (k.block i (Nat.lt_of_lt_of_le hi h.size) hX).trans (h.block i hi hX)⟩
theorem Keep.less {Y : Nat → Prop} (h : Keep X w w') (hY : ∀ k, Y k → X k) : Keep Y w w' := ⟨h.os, h.tape, h.output, h.size, fun k hk hX => h.block k hk (hY k hX)⟩
theorem Keep.drew (h : Keep X w w') : Keep X w w'.drew := ⟨h.os, h.tape, h.output, h.size, h.block⟩
theorem Keep.alloc (h : Keep X w w') (o : Obj) : Keep X w (w'.alloc o) :=
  h.trans ⟨rfl, rfl, rfl, by simp, fun k hk _ => Below.heap_alloc _ _ _ hk⟩
theorem Keep.setCell (h : Keep X w w') {p : Addr} (hp : ¬ X p.block) (u : Value) : Keep X w (w'.setCell p u) :=
  h.trans ⟨rfl, rfl, rfl, by simp [World.setCell], fun k hk hX => Below.heap_setCell _ _ _ _ (fun e => hp (e ▸ hX))⟩
theorem Keep.turned {b : Nat} (h : Keep X w w') (hm : w'.mapTurned w'' b) (hb : ¬ X b) : Keep X w w'' :=
  have hg := hm.grown
  h.trans ⟨hg.os, hg.tape, hg.output, hg.size, fun k hk hX => hg.block k hk (fun e => hb (by cases e; exact hX))⟩
theorem Keep.toBelow {B : Nat} (h : Keep X w w') (hB : ∀ k, k < B → X k) (hs : B ≤ w.heap.size) : Below B w w' :=
  ⟨h.os, h.tape, h.output, h.size, fun k hk => h.block k (Nat.lt_of_lt_of_le hk hs) (hB k hk)⟩
theorem Keep.ofBelow {B : Nat} (h : Below B w w') (hX : ∀ k, X k → k < B) : Keep X w w' :=
  ⟨h.os, h.tape, h.output, h.size, fun k _ hk => h.block k (hX k hk)⟩
end

/-- How the map's elements are told: as the very values. -/
def slotElem (v : Value) : Option (DataW Value × List MemPlace) := some (.held v, [])
abbrev ik (k : Int) : Lit := .int .i64 k
abbrev nilHeld : DataW Value := .held (.slice none 0 0)
def rowOf (g n : Nat) : Value := .slice (some ⟨g, 0, none⟩) n n
def cellsOf (cs : List Int) : Array Value := (cs.map (Value.int .i64)).toArray

/-- The arena at block pa stands for S; bm: its map; D: what the map holds; row: where the blocks' cells lie. None of its memory is of X. -/
structure At (w : World) (X : Nat → Prop) (pa bm : Nat) (D : DataW Value) (row : Int → Nat) (S : AS) : Prop where
  head : Blk w pa 80 #[.int .i64 S.most, .int .i64 S.used, .int .i64 S.made, .int .i64 S.faults, .map (some bm)]
  paX : ¬ X pa
  bmX : ¬ X bm
  own : w.ownsMap Try.prog 3 slotElem bm (Maps.size D) D
  len : Maps.size D = S.bl.length
  miss : ∀ k, look S.bl k = none → Maps.has D (ik k) = false
  hit : ∀ k cs, look S.bl k = some cs → Maps.has D (ik k) = true ∧ D.atKey (ik k) nilHeld = .held (rowOf (row k) cs.length) ∧ ¬ X (row k) ∧ Blk w (row k) 2 (cellsOf cs)
  inj : ∀ k k' cs cs', look S.bl k = some cs → look S.bl k' = some cs' → row k = row k' → k = k'
  ok : S.Ok

section
variable {w w' : World} {X : Nat → Prop} {pa bm : Nat} {D : DataW Value} {row : Int → Nat} {S : AS}
theorem own_ne {b g n : Nat} {t : TypeId} {cs : Array Value} (h : w.ownsMap Try.prog 3 slotElem b n D) (hg : Blk w g t cs) : b ≠ g := by
  rintro rfl
  obtain ⟨es, clock, hb, _⟩ := h
  unfold Blk at hg
  rw [hb] at hg
  injection hg with hg
  cases hg
theorem At.bm_pa (h : At w X pa bm D row S) : bm ≠ pa := own_ne h.own h.head
theorem At.row_pa (h : At w X pa bm D row S) {k : Int} {cs : List Int} (hl : look S.bl k = some cs) : row k ≠ pa :=
  ((h.hit k cs hl).2.2.2).ne_ h.head (by decide)
theorem At.row_bm (h : At w X pa bm D row S) {k : Int} {cs : List Int} (hl : look S.bl k = some cs) : bm ≠ row k :=
  own_ne h.own (h.hit k cs hl).2.2.2

/-- A field of the head is written. -/
theorem At.headSet (h : At w X pa bm D row S) {i : Nat} {u : Value} {S' : AS} (hb : S'.bl = S.bl) (hok : S'.Ok)
    (hc : (#[Value.int .i64 S.most, .int .i64 S.used, .int .i64 S.made, .int .i64 S.faults, .map (some bm)] : Array Value).setIfInBounds i u = #[.int .i64 S'.most, .int .i64 S'.used, .int .i64 S'.made, .int .i64 S'.faults, .map (some bm)]) :
    At (w.setCell ⟨pa, i, none⟩ u) X pa bm D row S' :=
  ⟨by have := h.head.set_ i u; rw [hc] at this; exact this, h.paX, h.bmX, h.own.setCell h.bm_pa u, by rw [hb]; exact h.len, by rw [hb]; exact h.miss,
   by rw [hb]; exact fun k cs hl => ⟨(h.hit k cs hl).1, (h.hit k cs hl).2.1, (h.hit k cs hl).2.2.1, (h.hit k cs hl).2.2.2.far (p := ⟨pa, i, none⟩) (h.row_pa hl) u⟩, by rw [hb]; exact h.inj, hok⟩
theorem At.fault (h : At w X pa bm D row S) : At (w.setCell ⟨pa, 3, none⟩ (.int .i64 (wrap64 (S.faults + 1)))) X pa bm D row S.fault :=
  h.headSet rfl h.ok.fault (by simp [AS.fault])
theorem At.setK (h : At w X pa bm D row S) (i : Nat) (u : Value) : Keep X w (w.setCell ⟨pa, i, none⟩ u) := (Keep.refl X w).setCell h.paX u
theorem At.keep {Y : Nat → Prop} (h : At w X pa bm D row S) (hk : Keep Y w w') (hY : ∀ k, ¬ X k → Y k) : At w' X pa bm D row S :=
  ⟨h.head.keep hk (hY _ h.paX), h.paX, h.bmX, by
    obtain ⟨es, clock, hb, r⟩ := h.own
    exact ⟨es, clock, (hk.block bm h.own.lt (hY _ h.bmX)).trans hb, r⟩, h.len, h.miss,
   fun k cs hl => ⟨(h.hit k cs hl).1, (h.hit k cs hl).2.1, (h.hit k cs hl).2.2.1, (h.hit k cs hl).2.2.2.keep hk (hY _ (h.hit k cs hl).2.2.1)⟩, h.inj, h.ok⟩
theorem At.below (h : At w X pa bm D row S) (hb : Below w.heap.size w w') : At w' X pa bm D row S :=
  ⟨h.head.below hb h.head.lt, h.paX, h.bmX, by
    obtain ⟨es, clock, hm, r⟩ := h.own
    exact ⟨es, clock, (hb.block bm h.own.lt).trans hm, r⟩, h.len, h.miss,
   fun k cs hl => ⟨(h.hit k cs hl).1, (h.hit k cs hl).2.1, (h.hit k cs hl).2.2.1, (h.hit k cs hl).2.2.2.below hb (h.hit k cs hl).2.2.2.lt⟩, h.inj, h.ok⟩
theorem At.less {Y : Nat → Prop} (h : At w X pa bm D row S) (hY : ∀ k, k < w.heap.size → Y k → X k) : At w Y pa bm D row S :=
  ⟨h.head, fun hy => h.paX (hY _ h.head.lt hy), fun hy => h.bmX (hY _ h.own.lt hy), h.own, h.len, h.miss,
   fun k cs hl => ⟨(h.hit k cs hl).1, (h.hit k cs hl).2.1, fun hy => (h.hit k cs hl).2.2.1 (hY _ (h.hit k cs hl).2.2.2.lt hy), (h.hit k cs hl).2.2.2⟩, h.inj, h.ok⟩
theorem cellsOf_get {cs : List Int} {i : Nat} (hi : i < cs.length) : (cellsOf cs)[i]? = some (.int .i64 (cs.getD i 0)) := by
  simp [cellsOf, List.getD, hi]
theorem cellsOf_set (cs : List Int) (i : Nat) (v : Int) : (cellsOf cs).setIfInBounds i (.int .i64 v) = cellsOf (cs.set i v) := by
  apply Array.ext_getElem?
  intro j
  simp only [cellsOf, Array.getElem?_setIfInBounds, List.getElem?_toArray, List.getElem?_map, List.getElem?_set, List.size_toArray, List.length_map]
  by_cases hj : i = j <;> by_cases hl : j < cs.length <;> simp [hj, hl]
theorem At.rowSet (h : At w X pa bm D row S) {b : Int} {cs : List Int} (hl : look S.bl b = some cs) {i : Nat} (v : Int) :
    At (w.setCell ⟨row b, i, none⟩ (.int .i64 v)) X pa bm D row (S.set b (cs.set i v)) := by
  refine ⟨h.head.far (p := ⟨row b, i, none⟩) (h.row_pa hl).symm _, h.paX, h.bmX, h.own.setCell (h.row_bm hl) _, ?_, ?_, ?_, ?_, h.ok.set hl (by simp)⟩
  · simp only [AS.set, length_put]; exact h.len
  · intro k hk
    simp only [AS.set, look_put] at hk
    by_cases hkb : k = b
    · subst hkb; simp [hl] at hk
    · rw [if_neg (by simp [hkb])] at hk
      exact h.miss k hk
  · intro k ds hk
    simp only [AS.set, look_put] at hk
    by_cases hkb : k = b
    · subst hkb
      rw [if_pos (by simp [hl])] at hk
      obtain rfl := Option.some.inj hk
      obtain ⟨h1, h2, h3, h4⟩ := h.hit k cs hl
      refine ⟨h1, by simpa using h2, h3, ?_⟩
      have := h4.set_ i (.int .i64 v)
      rw [cellsOf_set] at this
      exact this
    · rw [if_neg (by simp [hkb])] at hk
      obtain ⟨h1, h2, h3, h4⟩ := h.hit k ds hk
      exact ⟨h1, h2, h3, h4.far (p := ⟨row b, i, none⟩) (fun e => hkb (h.inj _ _ _ _ hk hl e)) _⟩
  · intro k k' ds ds' hk hk' he
    have key : ∀ j es, look (put S.bl b (cs.set i v)) j = some es → ∃ es', look S.bl j = some es' := by
      intro j es hj
      rw [look_put] at hj
      by_cases hjb : j = b
      · exact ⟨cs, by rw [hjb]; exact hl⟩
      · rw [if_neg (by simp [hjb])] at hj; exact ⟨es, hj⟩
    obtain ⟨e1, h1⟩ := key k ds hk
    obtain ⟨e2, h2⟩ := key k' ds' hk'
    exact h.inj _ _ _ _ h1 h2 he
theorem At.rowK (h : At w X pa bm D row S) {b : Int} {cs : List Int} (hl : look S.bl b = some cs) (i : Nat) (u : Value) : Keep X w (w.setCell ⟨row b, i, none⟩ u) := (Keep.refl X w).setCell (h.hit b cs hl).2.2.1 u
theorem At.cell (h : At w X pa bm D row S) {b : Int} {cs : List Int} (hl : look S.bl b = some cs) {i : Nat} (hi : i < cs.length) : w.cell? ⟨row b, i, none⟩ = some (.int .i64 (cs.getD i 0)) := by
  rw [(h.hit b cs hl).2.2.2.cell i, cellsOf_get hi]
theorem At.thaw (h : At w X pa bm D row S) {b : Int} {cs : List Int} (hl : look S.bl b = some cs) (i : Nat) : w.frozen? ⟨row b, i, none⟩ = false := (h.hit b cs hl).2.2.2.frozen i
theorem own_tight {w : World} {b n : Nat} {D : DataW Value} (h : w.ownsMap Try.prog 3 slotElem b n D) : w.ownsMap Try.prog 3 slotElem b (Maps.size D) D := by
  obtain ⟨es, clock, hb, F, hs, rfl⟩ := h
  exact ⟨es, clock, hb, F, by simp [Maps.size, length_sorted], rfl⟩
theorem Blk.turned {g b : Nat} {t : TypeId} {cs : Array Value} (h : Blk w g t cs) (hm : w.mapTurned w' b) (hne : g ≠ b) : Blk w' g t cs :=
  (hm.grown.block g h.lt (fun e => hne (by cases e; rfl))).trans h
theorem ik_ne {a b : Int} (h : a ≠ b) : ik a ≠ ik b := fun e => h (by injection e)
theorem ik_key (k : Int) : WideAt.IsKeyLit (ik k) := by simp [WideAt.IsKeyLit]
theorem At.freed {w1 : World} {n : Nat} (h : At w X pa bm D row S) {b : Int} {cs : List Int} (hl : look S.bl b = some cs) (hown1 : w1.ownsMap Try.prog 3 slotElem bm n (D.del (ik b)))
    (hturn : (w.setCell ⟨pa, 1, none⟩ (.int .i64 (S.used - cs.length))).mapTurned w1 bm) (K : Keyed Try.prog 3) : At w1 X pa bm (D.del (ik b)) row (S.free b cs.length) := by
  have htidy := h.own.tidy K
  refine ⟨?_, h.paX, h.bmX, own_tight hown1, ?_, ?_, ?_, ?_, h.ok.free hl⟩
  · have := h.head.set_ 1 (.int .i64 (S.used - cs.length))
    exact Blk.turned (by simpa [AS.free] using this) hturn h.bm_pa.symm
  · have h1 := size_del (k := ik b) htidy
    rw [if_pos (h.hit b cs hl).1] at h1
    have h2 := (total_cut h.ok.apart hl).2
    have h3 := h.len
    simp only [AS.free]
    omega
  · intro k hk
    simp only [AS.free, look_cut] at hk
    by_cases hkb : k = b
    · subst hkb; exact has_del_same
    · rw [if_neg hkb] at hk
      rw [has_del_other (ik_ne hkb)]
      exact h.miss k hk
  · intro k ds hk
    simp only [AS.free, look_cut] at hk
    by_cases hkb : k = b
    · rw [if_pos hkb] at hk; cases hk
    · rw [if_neg hkb] at hk
      obtain ⟨h1, h2, h3, h4⟩ := h.hit k ds hk
      refine ⟨by rw [has_del_other (ik_ne hkb)]; exact h1, by rw [atKey_del_other (ik_ne hkb)]; exact h2, h3, ?_⟩
      exact (h4.far (p := ⟨pa, 1, none⟩) (h.row_pa hk) _).turned hturn (h.row_bm hk).symm
  · intro k k' ds ds' hk hk' he
    simp only [AS.free, look_cut] at hk hk'
    by_cases hkb : k = b
    · rw [if_pos hkb] at hk; cases hk
    · by_cases hkb' : k' = b
      · rw [if_pos hkb'] at hk'; cases hk'
      · rw [if_neg hkb] at hk
        rw [if_neg hkb'] at hk'
        exact h.inj _ _ _ _ hk hk' he

/-- A block is made: the world behind 'made' and 'used' are written, the new row is laid, and the map has it. -/
theorem At.made_ {w0 w1 : World} {n : Nat} (h : At w X pa bm D row S) {m : Nat} (h1 : 1 ≤ m) (h2 : m ≤ 256) (h3 : S.used + m ≤ S.most) (hX : ∀ k, w.heap.size ≤ k → ¬ X k)
    (hw0 : w0.heap = (((w.setCell ⟨pa, 2, none⟩ (.int .i64 (S.made + 1))).setCell ⟨pa, 1, none⟩ (.int .i64 (S.used + m))).alloc (.cells (cellsOf (List.replicate m 0)) 2)).heap)
    (hown1 : w1.ownsMap Try.prog 3 slotElem bm n (D.put (ik (S.made + 1)) (.held (rowOf w.heap.size m))))
    (hturn : w0.mapTurned w1 bm) (K : Keyed Try.prog 3) :
    At w1 X pa bm (D.put (ik (S.made + 1)) (.held (rowOf w.heap.size m))) (fun k => if k = S.made + 1 then w.heap.size else row k) (S.alloc m) := by
  have htidy := h.own.tidy K
  have hfresh := h.ok.fresh (k := S.made + 1) (by omega)
  have hsz0 : ((w.setCell ⟨pa, 2, none⟩ (.int .i64 (S.made + 1))).setCell ⟨pa, 1, none⟩ (.int .i64 (S.used + m))).heap.size = w.heap.size := by simp [World.setCell]
  have hold : ∀ {g : Nat} {t : TypeId} {cs : Array Value}, Blk w g t cs → g ≠ pa → g ≠ bm → Blk w1 g t cs := by
    intro g t cs hg hp hb
    have a1 := (hg.far (p := ⟨pa, 2, none⟩) hp (.int .i64 (S.made + 1))).far (p := ⟨pa, 1, none⟩) hp (.int .i64 (S.used + m))
    have a2 := a1.alloc (.cells (cellsOf (List.replicate m 0)) 2)
    exact Blk.turned (w := w0) (by unfold Blk at a2 ⊢; rw [hw0]; exact a2) hturn hb
  have hnew : Blk w1 w.heap.size 2 (cellsOf (List.replicate m 0)) := by
    have a1 := Blk.new ((w.setCell ⟨pa, 2, none⟩ (.int .i64 (S.made + 1))).setCell ⟨pa, 1, none⟩ (.int .i64 (S.used + m))) 2 (cellsOf (List.replicate m 0))
    rw [hsz0] at a1
    exact Blk.turned (w := w0) (by unfold Blk at a1 ⊢; rw [hw0]; exact a1) hturn (by have := h.own.lt; omega)
  have hne : ∀ {k : Int} {ds : List Int}, look S.bl k = some ds → k ≠ S.made + 1 := by
    intro k ds hk e
    have := (h.ok.key hk).2
    omega
  refine ⟨?_, h.paX, h.bmX, own_tight hown1, ?_, ?_, ?_, ?_, h.ok.alloc h1 h2 h3⟩
  · have a1 := ((h.head.set_ 2 (.int .i64 (S.made + 1))).set_ 1 (.int .i64 (S.used + m))).alloc (.cells (cellsOf (List.replicate m 0)) 2)
    exact Blk.turned (w := w0) (by unfold Blk at a1 ⊢; rw [hw0]; simpa [AS.alloc] using a1) hturn h.bm_pa.symm
  · rw [size_put htidy, h.miss _ hfresh]
    simp only [AS.alloc, List.length_cons]
    have := h.len
    simp; omega
  · intro k hk
    simp only [AS.alloc, look_cons] at hk
    by_cases hkm : S.made + 1 = k
    · rw [if_pos hkm] at hk; cases hk
    · rw [if_neg hkm] at hk
      rw [has_put_other (ik_ne (Ne.symm hkm))]
      exact h.miss k hk
  · intro k ds hk
    simp only [AS.alloc, look_cons] at hk
    by_cases hkm : S.made + 1 = k
    · rw [if_pos hkm] at hk
      obtain rfl := Option.some.inj hk
      subst hkm
      refine ⟨has_put_same htidy.isMap (ik_key _) _, ?_, ?_, ?_⟩
      · rw [atKey_put_same htidy.isMap (ik_key _)]; simp
      · simpa using hX _ (Nat.le_refl _)
      · simpa using hnew
    · rw [if_neg hkm] at hk
      obtain ⟨a1, a2, a3, a4⟩ := h.hit k ds hk
      rw [if_neg (Ne.symm hkm)]
      exact ⟨by rw [has_put_other (ik_ne (Ne.symm hkm))]; exact a1, by rw [atKey_put_other (ik_ne (Ne.symm hkm))]; exact a2, a3, hold a4 (h.row_pa hk) (h.row_bm hk).symm⟩
  · intro k k' ds ds' hk hk' he
    simp only [AS.alloc, look_cons] at hk hk'
    by_cases hkm : S.made + 1 = k
    · by_cases hkm' : S.made + 1 = k'
      · omega
      · rw [if_neg hkm'] at hk'
        rw [if_pos hkm.symm, if_neg (Ne.symm hkm')] at he
        have := (h.hit k' ds' hk').2.2.2.lt
        omega
    · rw [if_neg hkm] at hk
      by_cases hkm' : S.made + 1 = k'
      · rw [if_pos hkm'.symm, if_neg (Ne.symm hkm)] at he
        have := (h.hit k ds hk).2.2.2.lt
        omega
      · rw [if_neg hkm'] at hk'
        rw [if_neg (Ne.symm hkm'), if_neg (Ne.symm hkm)] at he
        exact h.inj _ _ _ _ hk hk' he
end

def Arena (w : World) (X : Nat → Prop) (pa : Nat) (S : AS) : Prop := ∃ bm D row, At w X pa bm D row S

section
variable {w w' : World} {X Y : Nat → Prop} {pa : Nat} {S : AS}
theorem Arena.ok (h : Arena w X pa S) : S.Ok := by obtain ⟨_, _, _, h⟩ := h; exact h.ok
theorem Arena.keep (h : Arena w X pa S) (hk : Keep Y w w') (hY : ∀ k, ¬ X k → Y k) : Arena w' X pa S := by obtain ⟨bm, D, row, h⟩ := h; exact ⟨bm, D, row, h.keep hk hY⟩
theorem Arena.below (h : Arena w X pa S) (hb : Below w.heap.size w w') : Arena w' X pa S := by obtain ⟨bm, D, row, h⟩ := h; exact ⟨bm, D, row, h.below hb⟩
theorem Arena.less (h : Arena w X pa S) (hY : ∀ k, k < w.heap.size → Y k → X k) : Arena w Y pa S := by obtain ⟨bm, D, row, h⟩ := h; exact ⟨bm, D, row, h.less hY⟩
theorem Arena.drew (h : Arena w X pa S) : Arena w.drew X pa S := h.below (Below.refl _ _).drew
theorem Arena.alloc (h : Arena w X pa S) (o : Obj) : Arena (w.alloc o) X pa S := h.below ((Below.refl _ _).alloc (Nat.le_refl _) o)
theorem Arena.setCell (h : Arena w X pa S) {p : Addr} (hp : X p.block) (u : Value) : Arena (w.setCell p u) X pa S :=
  h.keep (Y := fun k => ¬ X k) ((Keep.refl _ w).setCell (fun hn => hn hp) u) (fun _ hn => hn)
theorem Arena.ptr_lt (h : Arena w X pa S) : pa < w.heap.size := by obtain ⟨bm, D, row, h⟩ := h; exact h.head.lt
end

end Go.Proofs.Ytebdlggmpojgdaa
