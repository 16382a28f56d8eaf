/-
  Joined texts (Mem, Tm0, Tm1, Tm2, Tm3, Tm4, Tm5, Tm6). No condition.
-/
import Derived.Test.YtfkbbbjicaedmaaGreatDoorRows
import Derived.Maps.OwnSet
import Derived.WalkKit
import Derived.Deep.Draws
import Derived.OpenShut
import Derived.Deep.Slices
import Derived.Lib.SmallJoins
import Derived.Lib.Hide
import Derived.Below
import Derived.Deep.LoopGhost
import Derived.OwnWalk
namespace Go.Proofs.YtfkbbbjicaedmaaGreatDoor
open Go.RowKit Go.Maps
def Blk (w : World) (g : Nat) (t : TypeId) (cs : Array Value) : Prop := w.heap[g]? = some (.cells cs t (0, 0))
structure Keep (X : Nat → Prop) (w w' : World) : Prop where
  os : w'.os = w.os
  tape : w'.tape = w.tape
  output : w'.output = w.output
  size : w.heap.size ≤ w'.heap.size
  block : ∀ k, k < w.heap.size → X k → w'.heap[k]? = w.heap[k]?
section
variable {w w' w'' : World} {g : Nat} {t : TypeId} {cs : Array Value} {X : Nat → Prop}
theorem Blk.lt (h : Blk w g t cs) : g < w.heap.size := by
  rcases Nat.lt_or_ge g w.heap.size with hlt | hge
  · exact hlt
  · unfold Blk at h; rw [Array.getElem?_eq_none hge] at h; cases h
theorem Blk.cell (h : Blk w g t cs) (i : Nat) : w.cell? ⟨g, i, none⟩ = cs[i]? := cell_of_row w g i cs t (0, 0) h
theorem Blk.frozen (h : Blk w g t cs) (i : Nat) : w.frozen? ⟨g, i, none⟩ = false := by
  unfold Blk at h
  simp [World.frozen?, h]
theorem Blk.new (w : World) (t : TypeId) (cs : Array Value) : Blk (w.alloc (.cells cs t)) w.heap.size t cs := heap_alloc_new w _
theorem Blk.drew (h : Blk w g t cs) : Blk w.drew g t cs := h
theorem Blk.alloc (h : Blk w g t cs) (o : Obj) : Blk (w.alloc o) g t cs := (Below.heap_alloc w o g h.lt).trans h
theorem Blk.set_ (h : Blk w g t cs) (i : Nat) (u : Value) : Blk (w.setCell ⟨g, i, none⟩ u) g t (cs.setIfInBounds i u) := by
  unfold Blk at h ⊢
  simp [World.setCell, Array.getElem?_modify, h]
theorem Blk.keep (h : Blk w g t cs) (hk : Keep X w w') (hX : X g) : Blk w' g t cs := (hk.block g h.lt hX).trans h
theorem Keep.refl (X : Nat → Prop) (w : World) : Keep X w w := ⟨rfl, rfl, rfl, Nat.le_refl _, fun _ _ _ => rfl⟩
theorem Keep.trans (h : Keep X w w') (k : Keep X w' w'') : Keep X w w'' :=
  ⟨k.os.trans h.os, k.tape.trans h.tape, k.output.trans h.output, Nat.le_trans h.size k.size, fun i hi hX => (k.block i (Nat.lt_of_lt_of_le hi h.size) hX).trans (h.block i hi hX)⟩
theorem Keep.less {Y : Nat → Prop} (h : Keep X w w') (hY : ∀ k, Y k → X k) : Keep Y w w' := ⟨h.os, h.tape, h.output, h.size, fun k hk hX => h.block k hk (hY k hX)⟩
theorem Keep.drew (h : Keep X w w') : Keep X w w'.drew := ⟨h.os, h.tape, h.output, h.size, h.block⟩
theorem Keep.drewN (h : Keep X w w') (n : Nat) : Keep X w (w'.drewN n) := ⟨h.os, h.tape, h.output, h.size, h.block⟩
theorem Keep.alloc (h : Keep X w w') (o : Obj) : Keep X w (w'.alloc o) :=
  h.trans ⟨rfl, rfl, rfl, by simp, fun k hk _ => Below.heap_alloc _ _ _ hk⟩
theorem Keep.setCell (h : Keep X w w') {p : Addr} (hp : ¬ X p.block) (u : Value) : Keep X w (w'.setCell p u) :=
  h.trans ⟨rfl, rfl, rfl, by simp [World.setCell], fun k hk hX => Below.heap_setCell _ _ _ _ (fun e => hp (e ▸ hX))⟩
theorem Keep.all (h : Keep (· < w.heap.size) w w') {Y : Nat → Prop} : Keep Y w w' := ⟨h.os, h.tape, h.output, h.size, fun k hk _ => h.block k hk hk⟩
theorem Keep.toBelow {B : Nat} (h : Keep X w w') (hB : ∀ k, k < B → X k) (hs : B ≤ w.heap.size) : Below B w w' :=
  ⟨h.os, h.tape, h.output, h.size, fun k hk => h.block k (Nat.lt_of_lt_of_le hk hs) (hB k hk)⟩
theorem Keep.ofBelow {B : Nat} (h : Below B w w') (hX : ∀ k, X k → k < B) : Keep X w w' :=
  ⟨h.os, h.tape, h.output, h.size, fun k _ hk => h.block k (hX k hk)⟩
end
end Go.Proofs.YtfkbbbjicaedmaaGreatDoor
namespace Go.Proofs.YtfkbbbjicaedmaaGreatDoor
open Go.RowKit Go.Deep Go.ChangeShapes Go.WideShapes
set_option linter.unusedVariables false
inductive Tm where
  | node (k : Int) (nm : List UInt8) (i : Int) (args : List Tm)
instance : Inhabited Tm := ⟨.node 0 [] 0 []⟩
def Tm.k : Tm → Int | .node k _ _ _ => k
def Tm.nm : Tm → List UInt8 | .node _ nm _ _ => nm
def Tm.i : Tm → Int | .node _ _ i _ => i
def Tm.args : Tm → List Tm | .node _ _ _ l => l
def str (l : List UInt8) : ByteArray := ⟨l.toArray⟩
theorem str_data (l : List UInt8) : (str l).data.toList = l := by simp [str]
theorem str_of {s : ByteArray} {l : List UInt8} (h : s.data.toList = l) : s = str l := by subst h; rfl
theorem str_size (l : List UInt8) : (str l).size = l.length := by simp [str, ByteArray.size]
def Tm.cells (t : Tm) (a : Option Addr) (c : Nat) : List Value := [.int .i64 t.k, .string (str t.nm), .int .i64 t.i, .slice a t.args.length c]
inductive TmAt (B : Nat) (w : World) : Tm → Option Addr → Nat → Prop
  | mk (t : Tm) (a : Option Addr) (c : Nat) (A : Nat → Option Addr) (C : Nat → Nat)
      (hk : (Lit.int .i64 t.k).wf = true) (hi : (Lit.int .i64 t.i).wf = true) (hn : t.nm.length ≤ maxLen) (hl : t.args.length ≤ maxLen)
      (hc : ∀ (j : Nat) (x : Tm), t.args[j]? = some x → ∃ b off, a = some ⟨b, off, none⟩ ∧ b < B ∧ ∀ (f : Nat) (v : Value), (x.cells (A j) (C j))[f]? = some v → w.cell? ⟨b, off + (j * 4 + f), none⟩ = some v)
      (ha : ∀ (j : Nat) (x : Tm), t.args[j]? = some x → TmAt B w x (A j) (C j)) : TmAt B w t a c
section
variable {B : Nat} {w w' : World} {t x : Tm} {a : Option Addr} {c : Nat}
theorem TmAt.old (h : TmAt B w t a c) (hb : Below B w w') : TmAt B w' t a c := by
  induction h with
  | mk t a c A C hk hi hn hl hc ha ih =>
    refine .mk t a c A C hk hi hn hl (fun j x hj => ?_) ih
    obtain ⟨b, off, e, hlt, hv⟩ := hc j x hj
    exact ⟨b, off, e, hlt, fun f v hf => (hb.cell (p := ⟨b, off + (j * 4 + f), none⟩) hlt).trans (hv f v hf)⟩
theorem TmAt.up {B' : Nat} (h : TmAt B w t a c) (hB : B ≤ B') : TmAt B' w t a c := by
  induction h with
  | mk t a c A C hk hi hn hl hc ha ih =>
    refine .mk t a c A C hk hi hn hl (fun j x hj => ?_) ih
    obtain ⟨b, off, e, hlt, hv⟩ := hc j x hj
    exact ⟨b, off, e, Nat.lt_of_lt_of_le hlt hB, hv⟩
theorem TmAt.wk (h : TmAt B w t a c) : (Lit.int .i64 t.k).wf = true ∧ (Lit.int .i64 t.i).wf = true ∧ t.nm.length ≤ maxLen ∧ t.args.length ≤ maxLen := by cases h; exact ⟨‹_›, ‹_›, ‹_›, ‹_›⟩
theorem TmAt.arg (h : TmAt B w t a c) {j : Nat} (hj : t.args[j]? = some x) : ∃ b off a' c', a = some ⟨b, off, none⟩ ∧ b < B ∧ TmAt B w x a' c' ∧
    w.cell? ⟨b, off + j * 4, none⟩ = some (.int .i64 x.k) ∧ w.cell? ⟨b, off + (j * 4 + 1), none⟩ = some (.string (str x.nm)) ∧ w.cell? ⟨b, off + (j * 4 + 2), none⟩ = some (.int .i64 x.i) ∧ w.cell? ⟨b, off + (j * 4 + 3), none⟩ = some (.slice a' x.args.length c') := by
  cases h with
  | mk _ _ _ A C hk hi hn hl hc ha =>
    obtain ⟨b, off, e, hlt, hv⟩ := hc j x hj
    exact ⟨b, off, A j, C j, e, hlt, ha j x hj, hv 0 _ rfl, hv 1 _ rfl, hv 2 _ rfl, hv 3 _ rfl⟩
end
end Go.Proofs.YtfkbbbjicaedmaaGreatDoor
namespace Go.Proofs.YtfkbbbjicaedmaaGreatDoor
open Go.RowKit Go.Deep Go.ChangeShapes Go.WideShapes
set_option linter.unusedVariables false
theorem cellsT : Tryz.prog.cellsOf 24 = 4 := by kernel_rfl
theorem cellsInt : Tryz.prog.cellsOf 3 = 1 := by kernel_rfl
theorem cellsStr : Tryz.prog.cellsOf 9 = 1 := by kernel_rfl
theorem cellsLong : Tryz.prog.cellsOf 2 = 1 := by kernel_rfl
theorem cellsArgs : Tryz.prog.cellsOf 22 = 1 := by kernel_rfl
theorem cell_blk {w : World} {b o : Nat} {v : Value} (h : w.cell? ⟨b, o, none⟩ = some v) : b < w.heap.size := by
  unfold World.cell? at h
  rcases Nat.lt_or_ge b w.heap.size with hlt | hge
  · exact hlt
  · simp only [Array.getElem?_eq_none hge] at h; cases h
section
variable {H : Type} {enc : TypeId × Value → H} {w : World} {base : Nat} {spare : Nat → Bool} {held : Bool}
set_option maxRecDepth 100000 in
theorem tm_of : ∀ (n : Nat) {cs : List Value} {x : DataW H × List MemPlace}, DataW.trod enc Tryz.prog w base spare held n 24 cs = some x → ∃ t a c, cs = Tm.cells t a c ∧ TmAt w.heap.size w t a c := by
  intro n
  induction n using Nat.strongRecOn with
  | _ n ih =>
    intro cs x h
    obtain ⟨xs, m, rfl, _, hlen, hxs, hf⟩ := DataW.trod_struct Tryz.underlying24 h
    rw [cellsT] at hlen
    match cs, hlen with
    | [v0, v1, v2, v3], _ =>
      match xs, hxs with
      | [y0, y1, y2, y3], _ =>
        have g0 := hf 0 _ rfl
        have g1 := hf 1 _ rfl
        have g2 := hf 2 _ rfl
        have g3 := hf 3 _ rfl
        simp [cellsInt, cellsStr, cellsLong, cellsArgs] at g0 g1 g2 g3
        obtain ⟨k, e0, _, w0⟩ := DataW.trod_int Tryz.underlying3 g0
        obtain ⟨s, e1, _, w1⟩ := DataW.trod_string Tryz.underlying9 g1
        obtain ⟨i, e2, _, w2⟩ := DataW.trod_int Tryz.underlying2 g2
        simp at e0 e1 e2
        subst e0 e1 e2
        have hsl : s.data.toList.length ≤ maxLen := by
          have : s.data.toList.length = s.size := by rw [Array.length_toList]; rfl
          rw [this]; exact w1
        rcases DataW.trod_slice Tryz.underlying22 g3 with ⟨hcs, _⟩ | ⟨ad, len, cap, elems, rest, m2, rfl, hcs, _, _, hl, hm, hel, hall, _⟩
        · simp at hcs
          subst hcs
          refine ⟨.node k s.data.toList i [], none, 0, by simp [Tm.cells, Tm.k, Tm.nm, Tm.i, Tm.args, ← str_of rfl], ?_⟩
          exact .mk _ _ _ (fun _ => none) (fun _ => 0) w0 w2 hsl (by simp [Tm.args]) (fun j x hj => by simp [Tm.args] at hj) (fun j x hj => by simp [Tm.args] at hj)
        · simp at hcs
          subst hcs
          have each : ∀ j, j < len → ∃ p : Tm × Option Addr × Nat, w.cells? base (ad.add (j * 4)) 4 = some (Tm.cells p.1 p.2.1 p.2.2) ∧ TmAt w.heap.size w p.1 p.2.1 p.2.2 := fun j hj => by
            have hj2 := hall j hj
            rw [cellsT, List.getElem?_eq_getElem (by rw [hel]; exact hj)] at hj2
            obtain ⟨cs', hc', ht'⟩ := Option.bind_eq_some_iff.1 hj2
            obtain ⟨t', a', c', rfl, hat⟩ := ih m2 (by omega) ht'
            exact ⟨(t', a', c'), hc', hat⟩
          obtain ⟨F, hF⟩ := choose_lt each
          have hargs : ∀ (j : Nat) (x : Tm), ((List.range len).map (fun j => (F j).1))[j]? = some x → j < len ∧ x = (F j).1 := fun j x hj => by
            have hj2 : j < len := by
              rcases Nat.lt_or_ge j len with h1 | h1
              · exact h1
              · rw [List.getElem?_eq_none (by simpa using h1)] at hj; cases hj
            simp [hj2] at hj
            exact ⟨hj2, hj.symm⟩
          refine ⟨.node k s.data.toList i ((List.range len).map (fun j => (F j).1)), some ad, cap, by simp [Tm.cells, Tm.k, Tm.nm, Tm.i, Tm.args, ← str_of rfl], ?_⟩
          refine .mk _ _ _ (fun j => (F j).2.1) (fun j => (F j).2.2) w0 w2 hsl (by simp [Tm.args]; omega) (fun j x hj => ?_) (fun j x hj => ?_)
          · obtain ⟨hj2, rfl⟩ := hargs j x hj
            obtain ⟨hb, hlen', hcell⟩ := World.cells?_some (hF j hj2).1
            obtain ⟨b, off, spot⟩ := ad
            have hspot : spot = none := by
              obtain ⟨_, _, hc0⟩ := World.cells?_some (hF 0 (by omega)).1
              have h0 := World.cell?_spot ((hc0 0 (by omega)).trans rfl)
              simpa [Addr.add] using h0
            subst hspot
            have hadd : ∀ f : Nat, ((⟨b, off, none⟩ : Addr).add (j * 4)).add f = ⟨b, off + (j * 4 + f), none⟩ := fun f => by
              by_cases hj0 : j = 0
              · subst hj0
                by_cases hf0 : f = 0
                · subst hf0; simp [Addr.add]
                · simp [Addr.add, hf0]
              · have h4 : ¬ j * 4 = 0 := by omega
                unfold Addr.add
                rw [if_neg h4]
                by_cases hf0 : f = 0
                · subst hf0; simp
                · rw [if_neg hf0]
                  simp [Nat.add_assoc]
            have hlt4 : ∀ (f : Nat) (v : Value), (Tm.cells (F j).1 (F j).2.1 (F j).2.2)[f]? = some v → f < 4 := fun f v hv => by
              rcases Nat.lt_or_ge f 4 with h1 | h1
              · exact h1
              · rw [List.getElem?_eq_none (by simpa [Tm.cells] using h1)] at hv; cases hv
            have h0 := hcell 0 (by omega)
            rw [hadd 0] at h0
            refine ⟨b, off, rfl, cell_blk (h0.trans rfl), fun f v hv => ?_⟩
            have := hcell f (hlt4 f v hv)
            rw [hadd f] at this
            exact this.trans hv
          · obtain ⟨hj2, rfl⟩ := hargs j x hj
            exact (hF j hj2).2
end
end Go.Proofs.YtfkbbbjicaedmaaGreatDoor
namespace Go.Proofs.YtfkbbbjicaedmaaGreatDoor
open Go.RowKit Go.Maps
set_option linter.unusedVariables false
mutual
def Tm.meas : Tm → Int → Int × Int → (Int × Int) × Bool
  | .node k nm i args, d, sm =>
    if 2000 < sm.1 + 1 ∨ 100 < max sm.2 d then ((sm.1 + 1, max sm.2 d), false)
    else if k = 1 then ((sm.1 + 1, max sm.2 d), decide (1 ≤ i))
    else if k = 2 then ((sm.1 + 1, max sm.2 d), true)
    else if k = 4 then
      if args.length = 0 ∨ 8 < args.length then ((sm.1 + 1, max sm.2 d), false)
      else ((measL args (d + 1) (sm.1 + 1, max sm.2 d)).1, (measL args (d + 1) (sm.1 + 1, max sm.2 d)).2 && decide (nm.length ≤ 64))
    else if k = 3 then ((sm.1 + 1, max sm.2 d), decide (nm.length ≤ 64))
    else ((sm.1 + 1, max sm.2 d), false)
def measL : List Tm → Int → Int × Int → (Int × Int) × Bool
  | [], _, sm => (sm, true)
  | t :: ts, d, sm => if (t.meas d sm).2 then measL ts d (t.meas d sm).1 else t.meas d sm
end
theorem measL_nil (d : Int) (sm : Int × Int) : measL [] d sm = (sm, true) := by rw [measL]
theorem measL_cons (t : Tm) (ts : List Tm) (d : Int) (sm : Int × Int) : measL (t :: ts) d sm = if (t.meas d sm).2 then measL ts d (t.meas d sm).1 else t.meas d sm := by rw [measL]
theorem Tm.meas_eq (t : Tm) (d : Int) (sm : Int × Int) : t.meas d sm =
    if 2000 < sm.1 + 1 ∨ 100 < max sm.2 d then ((sm.1 + 1, max sm.2 d), false)
    else if t.k = 1 then ((sm.1 + 1, max sm.2 d), decide (1 ≤ t.i))
    else if t.k = 2 then ((sm.1 + 1, max sm.2 d), true)
    else if t.k = 4 then
      if t.args.length = 0 ∨ 8 < t.args.length then ((sm.1 + 1, max sm.2 d), false)
      else ((measL t.args (d + 1) (sm.1 + 1, max sm.2 d)).1, (measL t.args (d + 1) (sm.1 + 1, max sm.2 d)).2 && decide (t.nm.length ≤ 64))
    else if t.k = 3 then ((sm.1 + 1, max sm.2 d), decide (t.nm.length ≤ 64))
    else ((sm.1 + 1, max sm.2 d), false) := by
  cases t with
  | node k nm i args => rw [Tm.meas]; rfl
end Go.Proofs.YtfkbbbjicaedmaaGreatDoor
namespace Go.Proofs.YtfkbbbjicaedmaaGreatDoor
open Go.RowKit Go.Maps
set_option linter.unusedVariables false
structure Bd (sm : Int × Int) : Prop where
  s0 : 0 ≤ sm.1
  s1 : sm.1 ≤ 2000
  m0 : 0 ≤ sm.2
  m1 : sm.2 ≤ 100
structure Bd1 (r : (Int × Int) × Bool) : Prop where
  s0 : 0 ≤ r.1.1
  s1 : r.1.1 ≤ 2001
  m0 : 0 ≤ r.1.2
  m1 : r.1.2 ≤ 101
  ok : r.2 = true → Bd r.1
theorem measL_bd {d : Int} (h : ∀ (t : Tm) (sm : Int × Int), Bd sm → Bd1 (t.meas d sm)) : ∀ (ts : List Tm) (sm : Int × Int), Bd sm → Bd1 (measL ts d sm) := by
  intro ts
  induction ts with
  | nil => intro sm hb; rw [measL_nil]; exact ⟨hb.s0, by have := hb.s1; dsimp only; omega, hb.m0, by have := hb.m1; dsimp only; omega, fun _ => hb⟩
  | cons t ts ih =>
    intro sm hb
    have h1 := h t sm hb
    rw [measL_cons]
    split
    · rename_i hok; exact ih _ (h1.ok hok)
    · exact h1
theorem meas_bd (D : Nat) : ∀ (t : Tm) (d : Int) (sm : Int × Int), 101 - d ≤ D → 1 ≤ d → d ≤ 101 → Bd sm → Bd1 (t.meas d sm) := by
  induction D with
  | zero =>
    intro t d sm hD h1 h2 hb
    obtain ⟨s0, s1, m0, m1⟩ := hb
    rw [t.meas_eq, if_pos (.inr (by omega))]
    exact ⟨by dsimp only; omega, by dsimp only; omega, by dsimp only; omega, by dsimp only; omega, fun e => by cases e⟩
  | succ D ih =>
    intro t d sm hD h1 h2 hb
    obtain ⟨s0, s1, m0, m1⟩ := hb
    rw [t.meas_eq]
    split
    · exact ⟨by dsimp only; omega, by dsimp only; omega, by dsimp only; omega, by dsimp only; omega, fun e => by cases e⟩
    rename_i hn
    have hb' : Bd (sm.1 + 1, max sm.2 d) := ⟨by dsimp only; omega, by dsimp only; omega, by dsimp only; omega, by dsimp only; omega⟩
    have one : ∀ b, Bd1 ((sm.1 + 1, max sm.2 d), b) := fun b => ⟨by dsimp only; omega, by dsimp only; omega, by dsimp only; omega, by dsimp only; omega, fun _ => hb'⟩
    split
    · exact one _
    split
    · exact one _
    split
    · split
      · exact one _
      · have hl := measL_bd (d := d + 1) (fun t sm hb => ih t (d + 1) sm (by omega) (by omega) (by omega) hb) t.args _ hb'
        exact ⟨hl.s0, hl.s1, hl.m0, hl.m1, fun e => hl.ok (by simp only [Bool.and_eq_true] at e; exact e.1)⟩
    split
    · exact one _
    · exact one _
section
variable {pm : Nat}
def MBlk (w : World) (pm : Nat) (sm : Int × Int) : Prop := Blk w pm 78 #[.int .i64 sm.1, .int .i64 sm.2]
def AddC (pm : Nat) (d : Int) : Prop := ∀ (t : Tm) (a : Option Addr) (c : Nat) (sm : Int × Int) (w : World), TmAt pm w t a c → MBlk w pm sm → Bd sm →
  Calls Tryz.prog 52 #[.pointer (some ⟨pm, 0, none⟩), .agg #[.int .i64 t.k, .string (str t.nm), .int .i64 t.i, .slice a t.args.length c], .int .i64 d] w fun e w' =>
    e = .returned (.bool (t.meas d sm).2) ∧ MBlk w' pm (t.meas d sm).1 ∧ Keep (· ≠ pm) w w'
def argsR (ts : List Tm) (d : Int) (sm : Int × Int) : (Int × Int) × Bool := if ts.length = 0 ∨ 8 < ts.length then (sm, false) else measL ts d sm
def ARel (w : World) (pm : Nat) (ts : List Tm) (d : Int) (sm : Int × Int) (g : Nat) (i : Value) (wr : World) : Prop :=
  ∃ (j : Nat) (sj : Int × Int), j ≤ ts.length ∧ ts.length - j ≤ g ∧ i = .int .i64 j ∧ MBlk wr pm sj ∧ Bd sj ∧ measL ts d sm = measL (ts.drop j) d sj ∧ Keep (· ≠ pm) w wr
set_option maxHeartbeats 2000000 in
theorem margs_any {d : Int} (hadd : AddC pm d) (hbd : ∀ (t : Tm) (sm : Int × Int), Bd sm → Bd1 (t.meas d sm)) {t : Tm} {a : Option Addr} {c : Nat} {sm : Int × Int} {w : World} (h : TmAt pm w t a c) (hm : MBlk w pm sm) (hb : Bd sm) :
    Calls Tryz.prog 62 #[.pointer (some ⟨pm, 0, none⟩), .slice a t.args.length c, .int .i64 d] w fun e w' =>
      e = .returned (.bool (argsR t.args d sm).2) ∧ MBlk w' pm (argsR t.args d sm).1 ∧ Keep (· ≠ pm) w w' := by
  have hlen := h.wk.2.2.2
  unfold argsR
  have H := Lib.hid h
  have HADD := Lib.hid hadd; clear hadd
  have HM := Lib.hid hm; clear hm
  have HB := Lib.hid hb; clear hb
  obtain ⟨n, hn⟩ : ∃ n, n = t.args.length := ⟨_, rfl⟩
  rw [← hn] at hlen ⊢
  have HN := Lib.hid hn; clear hn h
  unfold maxLen at hlen
  by_cases h0 : n = 0
  · rw [if_pos (.inl h0)]
    subst h0
    go_enter Tryz.func62, Tryz.ntmps62
    go_wp2_with fail
    go_ret
    exact ⟨rfl, HM.out, Keep.refl _ _⟩
  · have hn0 : ((n : Int) == 0) = false := by
      have : ¬ (n : Int) = 0 := by omega
      simpa using this
    by_cases h8 : 8 < n
    · rw [if_pos (.inr h8)]
      go_enter Tryz.func62, Tryz.ntmps62
      go_wp2_with fail
      go_ret
      exact ⟨rfl, HM.out, Keep.refl _ _⟩
    · rw [if_neg (by omega)]
      go_enter Tryz.func62, Tryz.ntmps62
      go_wp2_with fail
      go_loopg [19] n (fun g i wr => ARel w pm t.args d sm g i wr)
      case atStart => exact ⟨0, sm, by omega, by rw [← HN.out]; omega, rfl, HM.out, HB.out, by rw [List.drop_zero], Keep.refl _ _⟩
      case round =>
        obtain ⟨j, sj, hj, hg, rfl, hmb, hbj, hme, hkp⟩ := hrel
        rw [← HN.out] at hj hg
        have HMB := Lib.hid hmb; clear hmb
        have HBJ := Lib.hid hbj; clear hbj
        have HME := Lib.hid hme; clear hme
        have HKP := Lib.hid hkp; clear hkp
        have HG := Lib.hid hg; clear hg
        by_cases hjn : j < n
        · have hj2 : j < t.args.length := by rw [← HN.out]; exact hjn
          obtain ⟨b, off, a', c', rfl, hbl, hat, q0, q1, q2, q3⟩ := H.out.arg (j := j) (x := t.args[j]) (List.getElem?_eq_getElem hj2)
          have hbp : b ≠ pm := Nat.ne_of_lt hbl
          have hmlt := HM.out.lt
          have zr := HKP.out.size
          have blk : ∀ o, wr.cell? ⟨b, o, none⟩ = w.cell? ⟨b, o, none⟩ := fun o => World.cell?_of_block (a := ⟨b, o, none⟩) (HKP.out.block b (by omega) hbp)
          rw [← blk] at q0 q1 q2 q3
          have hjn' : (j : Int) < (n : Int) := by omega
          have hle := Nat.zero_le j
          rw [← Nat.add_assoc] at q1 q2 q3
          clear blk
          have hstep : measL t.args d sm = if (t.args[j].meas d sj).2 then measL (t.args.drop (j + 1)) d (t.args[j].meas d sj).1 else t.args[j].meas d sj := by
            rw [HME.out, List.drop_eq_getElem_cons hj2, measL_cons]
          have HSTEP := Lib.hid hstep; clear hstep
          have hb1 := hbd t.args[j] sj HBJ.out
          have hc1 := HADD.out t.args[j] a' c' sj (wr.alloc (.cells #[.int .i64 t.args[j].k, .string (str t.args[j].nm), .int .i64 t.args[j].i, .slice a' t.args[j].args.length c'] 24)) (hat.old ((HKP.out.alloc _).toBelow (fun k hk => Nat.ne_of_lt hk) (Nat.le_of_lt hmlt))) (HMB.out.alloc _) HBJ.out
          have HC1 := Lib.hid hc1; clear hc1
          have HB1 := Lib.hid hb1; clear hb1
          generalize hrr : t.args[j].meas d sj = rr at *
          obtain ⟨s1, ok⟩ := rr
          have hwj : wrap64 ((j : Int) + 1) = (j : Int) + 1 := by unfold wrap64; omega
          cases ok
          · go_wp2_with (go_at_call 52; refine HC1.out.mono ?_; rintro e w1 ⟨rfl, m1, k1⟩; have M1 := Lib.hid m1; clear m1; have K1 := Lib.hid k1; clear k1)
            go_ret
            exact ⟨by rw [HSTEP.out]; rfl, by rw [HSTEP.out]; exact M1.out, (HKP.out.alloc _).trans K1.out⟩
          · go_wp2_with (go_at_call 52; refine HC1.out.mono ?_; rintro e w1 ⟨rfl, m1, k1⟩; have M1 := Lib.hid m1; clear m1; have K1 := Lib.hid k1; clear k1)
            go_roundg (n - (j + 1))
            case measure => have := HG.out; omega
            case rel => exact ⟨j + 1, s1, by rw [← HN.out]; omega, by rw [← HN.out]; exact Nat.le_refl _, by go_num, M1.out, HB1.out.ok rfl, HSTEP.out, (HKP.out.alloc _).trans K1.out⟩
        · have hge : (n : Int) ≤ (j : Int) := by omega
          have hz : measL t.args d sm = (sj, true) := by rw [HME.out, List.drop_eq_nil_of_le (by rw [← HN.out]; omega), measL_nil]
          have HZ := Lib.hid hz; clear hz
          go_wp2_with fail
          go_ret
          exact ⟨by rw [HZ.out]; rfl, by rw [HZ.out]; exact HMB.out, HKP.out⟩
end
end Go.Proofs.YtfkbbbjicaedmaaGreatDoor
namespace Go.Proofs.YtfkbbbjicaedmaaGreatDoor
open Go.RowKit Go.Maps
set_option linter.unusedVariables false
section
variable {pm : Nat}
theorem Tm.meas_args (t : Tm) (d : Int) (sm : Int × Int) (h : ¬(2000 < sm.1 + 1 ∨ 100 < max sm.2 d)) (hk : t.k = 4) :
    t.meas d sm = ((argsR t.args (d + 1) (sm.1 + 1, max sm.2 d)).1, (argsR t.args (d + 1) (sm.1 + 1, max sm.2 d)).2 && decide (t.nm.length ≤ 64)) := by
  rw [t.meas_eq, if_neg h, if_neg (by omega), if_neg (by omega), if_pos hk]
  unfold argsR
  split
  · simp
  · rfl
set_option maxHeartbeats 2000000 in
theorem madd_step {d : Int} (h1 : 1 ≤ d) (h2 : d ≤ 101) (hadd : d ≤ 100 → AddC pm (d + 1)) (hbd : ∀ (t : Tm) (sm : Int × Int), d ≤ 100 → Bd sm → Bd1 (t.meas (d + 1) sm)) : AddC pm d := by
  intro t a c sm w h hm hb
  obtain ⟨s, m⟩ := sm
  obtain ⟨s0, s1, m0, m1⟩ := hb
  dsimp only at s0 s1 m0 m1
  have hlt := Blk.lt hm
  obtain ⟨M, hM, hdec⟩ : ∃ M, M = max m d ∧ ((m < d ∧ M = d) ∨ (d ≤ m ∧ M = m)) := ⟨_, rfl, by omega⟩
  have hmA := Blk.alloc hm (.cells #[.int .i64 t.k, .string (str t.nm), .int .i64 t.i, .slice a t.args.length c] 24)
  have hmB := Blk.alloc (Blk.set_ hm 0 (.int .i64 (s + 1))) (.cells #[.int .i64 t.k, .string (str t.nm), .int .i64 t.i, .slice a t.args.length c] 24)
  have hm2 := Blk.alloc (Blk.set_ (Blk.set_ hm 0 (.int .i64 (s + 1))) 1 (.int .i64 M)) (.cells #[.int .i64 t.k, .string (str t.nm), .int .i64 t.i, .slice a t.args.length c] 24)
  have hn2 := Blk.new ((w.setCell ⟨pm, 0, none⟩ (.int .i64 (s + 1))).setCell ⟨pm, 1, none⟩ (.int .i64 M)) 24 #[.int .i64 t.k, .string (str t.nm), .int .i64 t.i, .slice a t.args.length c]
  rw [show ((w.setCell ⟨pm, 0, none⟩ (.int .i64 (s + 1))).setCell ⟨pm, 1, none⟩ (.int .i64 M)).heap.size = w.heap.size by simp [World.setCell]] at hn2
  have hk2 := (((Keep.refl (· ≠ pm) w).setCell (p := ⟨pm, 0, none⟩) (by simp) (.int .i64 (s + 1))).setCell (p := ⟨pm, 1, none⟩) (by simp) (.int .i64 M)).alloc (.cells #[.int .i64 t.k, .string (str t.nm), .int .i64 t.i, .slice a t.args.length c] 24)
  have c0 := Blk.cell hmA 0
  have f0 := Blk.frozen hmA 0
  have c1 := Blk.cell hmB 1
  have f1 := Blk.frozen hmB 1
  have e0 := Blk.cell hm2 0
  have e1 := Blk.cell hm2 1
  have n0 := Blk.cell hn2 0
  have n1 := Blk.cell hn2 1
  have n2 := Blk.cell hn2 2
  have n3 := Blk.cell hn2 3
  simp at c0 c1 e0 e1 n0 n1 n2 n3
  have hw1 : wrap64 (s + 1) = s + 1 := by unfold wrap64; omega
  have h' := h.old (hk2.toBelow (fun k hk => Nat.ne_of_lt hk) (Nat.le_of_lt hlt))
  have HN2 := Lib.hid hn2
  have hsz := str_size t.nm
  clear hmA hmB hn2
  have HM2 := Lib.hid hm2; clear hm2
  have HK2 := Lib.hid hk2; clear hk2
  have H := Lib.hid h'; clear h'
  have h' := H.out.wk
  have hmd' : t.meas d (s, m) = t.meas d (s, m) := rfl
  clear h hm hmd'
  have hme := t.meas_eq d (s, m)
  dsimp only at hme
  rw [← hM] at hme
  clear hM
  have HME := Lib.hid hme; clear hme
  rcases hdec with ⟨hmd, hMM⟩ | ⟨hmd, hMM⟩
  · rw [hMM] at e0 e1 n0 n1 n2 n3 HM2 HN2 HK2 H HME
    by_cases hg1 : 2000 < s + 1
    · have he := HME.out
      rw [if_pos (.inl hg1)] at he
      have HE := Lib.hid he; clear he
      go_enter Tryz.func52, Tryz.ntmps52
      go_wp2_with fail
      go_ret
      exact ⟨by rw [HE.out]; rfl, by rw [HE.out]; exact HM2.out, HK2.out⟩
    · by_cases hg2 : 100 < d
      · have he := HME.out
        rw [if_pos (.inr hg2)] at he
        have HE := Lib.hid he; clear he
        go_enter Tryz.func52, Tryz.ntmps52
        go_wp2_with fail
        go_ret
        exact ⟨by rw [HE.out]; rfl, by rw [HE.out]; exact HM2.out, HK2.out⟩
      have he := HME.out
      rw [if_neg (by omega)] at he
      by_cases k1 : t.k = 1
      · rw [if_pos k1] at he
        have HE := Lib.hid he; clear he
        have hk1 : (t.k == 1) = true := by simpa using k1
        clear k1
        go_enter Tryz.func52, Tryz.ntmps52
        go_wp2_with fail
        go_ret
        exact ⟨by rw [HE.out]; rfl, by rw [HE.out]; exact HM2.out, HK2.out⟩
      rw [if_neg k1] at he
      have hk1 : (t.k == 1) = false := by simpa using k1
      by_cases k2 : t.k = 2
      · rw [if_pos k2] at he
        have HE := Lib.hid he; clear he
        have hk2 : (t.k == 2) = true := by simpa using k2
        clear k1 k2
        go_enter Tryz.func52, Tryz.ntmps52
        go_wp2_with fail
        go_ret
        exact ⟨by rw [HE.out]; rfl, by rw [HE.out]; exact HM2.out, HK2.out⟩
      rw [if_neg k2] at he
      have hk2 : (t.k == 2) = false := by simpa using k2
      by_cases k4 : t.k = 4
      · have he := t.meas_args d (s, m) (by dsimp only; omega) k4
        dsimp only at he
        rw [show max m d = d by omega] at he
        have hk4 : (t.k == 4) = true := by simpa using k4
        have hwd : wrap64 (d + 1) = d + 1 := by unfold wrap64; omega
        have hc := margs_any (sm := (s + 1, d)) (hadd (by omega)) (fun t sm hb => hbd t sm (by omega) hb) H.out HM2.out ⟨by dsimp only; omega, by dsimp only; omega, by dsimp only; omega, by dsimp only; omega⟩
        generalize argsR t.args (d + 1) (s + 1, d) = rr at he hc
        obtain ⟨s2, ok⟩ := rr
        dsimp only at he hc
        have HE := Lib.hid he; clear he
        have HC := Lib.hid hc; clear hc
        have hlt2 := HN2.out.lt
        clear k1 k2 k4
        cases ok
        · go_enter Tryz.func52, Tryz.ntmps52
          go_wp2_with (go_at_call 62; refine HC.out.mono ?_; rintro e w1 ⟨rfl, m1, k1⟩; have M1 := Lib.hid m1; clear m1; have K1 := Lib.hid k1; clear k1)
          go_ret
          exact ⟨by rw [HE.out]; rfl, by rw [HE.out]; exact M1.out, HK2.out.trans K1.out⟩
        · go_enter Tryz.func52, Tryz.ntmps52
          go_wp2_with (go_at_call 62; refine HC.out.mono ?_; rintro e w1 ⟨rfl, m1, k1⟩; have v1 : w1.cell? ⟨w.heap.size, 1, none⟩ = some (.string (str t.nm)) := Blk.cell (Blk.keep (X := (· ≠ pm)) HN2.out k1 (show w.heap.size ≠ pm from Nat.ne_of_gt hlt)) 1; have M1 := Lib.hid m1; clear m1; have K1 := Lib.hid k1; clear k1)
          go_ret
          exact ⟨by rw [HE.out]; simp; omega, by rw [HE.out]; exact M1.out, HK2.out.trans K1.out⟩
      rw [if_neg k4] at he
      have hk4 : (t.k == 4) = false := by simpa using k4
      by_cases k3 : t.k = 3
      · rw [if_pos k3] at he
        have HE := Lib.hid he; clear he
        have hk3 : (t.k == 3) = true := by simpa using k3
        clear k1 k2 k3 k4
        go_enter Tryz.func52, Tryz.ntmps52
        go_wp2_with fail
        go_ret
        exact ⟨by rw [HE.out]; simp; omega, by rw [HE.out]; exact HM2.out, HK2.out⟩
      rw [if_neg k3] at he
      have hk3 : (t.k == 3) = false := by simpa using k3
      have HE := Lib.hid he; clear he
      clear k1 k2 k3 k4
      go_enter Tryz.func52, Tryz.ntmps52
      go_wp2_with fail
      go_ret
      exact ⟨by rw [HE.out]; rfl, by rw [HE.out]; exact HM2.out, HK2.out⟩
  · rw [hMM] at e0 e1 n0 n1 n2 n3 HM2 HN2 HK2 H HME
    by_cases hg1 : 2000 < s + 1
    · have he := HME.out
      rw [if_pos (.inl hg1)] at he
      have HE := Lib.hid he; clear he
      go_enter Tryz.func52, Tryz.ntmps52
      go_wp2_with fail
      go_ret
      exact ⟨by rw [HE.out]; rfl, by rw [HE.out]; exact HM2.out, HK2.out⟩
    · by_cases hg2 : 100 < m
      · exact absurd hg2 (by omega)
      have he := HME.out
      rw [if_neg (by omega)] at he
      by_cases k1 : t.k = 1
      · rw [if_pos k1] at he
        have HE := Lib.hid he; clear he
        have hk1 : (t.k == 1) = true := by simpa using k1
        clear k1
        go_enter Tryz.func52, Tryz.ntmps52
        go_wp2_with fail
        go_ret
        exact ⟨by rw [HE.out]; rfl, by rw [HE.out]; exact HM2.out, HK2.out⟩
      rw [if_neg k1] at he
      have hk1 : (t.k == 1) = false := by simpa using k1
      by_cases k2 : t.k = 2
      · rw [if_pos k2] at he
        have HE := Lib.hid he; clear he
        have hk2 : (t.k == 2) = true := by simpa using k2
        clear k1 k2
        go_enter Tryz.func52, Tryz.ntmps52
        go_wp2_with fail
        go_ret
        exact ⟨by rw [HE.out]; rfl, by rw [HE.out]; exact HM2.out, HK2.out⟩
      rw [if_neg k2] at he
      have hk2 : (t.k == 2) = false := by simpa using k2
      by_cases k4 : t.k = 4
      · have he := t.meas_args d (s, m) (by dsimp only; omega) k4
        dsimp only at he
        rw [show max m d = m by omega] at he
        have hk4 : (t.k == 4) = true := by simpa using k4
        have hwd : wrap64 (d + 1) = d + 1 := by unfold wrap64; omega
        have hc := margs_any (sm := (s + 1, m)) (hadd (by omega)) (fun t sm hb => hbd t sm (by omega) hb) H.out HM2.out ⟨by dsimp only; omega, by dsimp only; omega, by dsimp only; omega, by dsimp only; omega⟩
        generalize argsR t.args (d + 1) (s + 1, m) = rr at he hc
        obtain ⟨s2, ok⟩ := rr
        dsimp only at he hc
        have HE := Lib.hid he; clear he
        have HC := Lib.hid hc; clear hc
        have hlt2 := HN2.out.lt
        clear k1 k2 k4
        cases ok
        · go_enter Tryz.func52, Tryz.ntmps52
          go_wp2_with (go_at_call 62; refine HC.out.mono ?_; rintro e w1 ⟨rfl, m1, k1⟩; have M1 := Lib.hid m1; clear m1; have K1 := Lib.hid k1; clear k1)
          go_ret
          exact ⟨by rw [HE.out]; rfl, by rw [HE.out]; exact M1.out, HK2.out.trans K1.out⟩
        · go_enter Tryz.func52, Tryz.ntmps52
          go_wp2_with (go_at_call 62; refine HC.out.mono ?_; rintro e w1 ⟨rfl, m1, k1⟩; have v1 : w1.cell? ⟨w.heap.size, 1, none⟩ = some (.string (str t.nm)) := Blk.cell (Blk.keep (X := (· ≠ pm)) HN2.out k1 (show w.heap.size ≠ pm from Nat.ne_of_gt hlt)) 1; have M1 := Lib.hid m1; clear m1; have K1 := Lib.hid k1; clear k1)
          go_ret
          exact ⟨by rw [HE.out]; simp; omega, by rw [HE.out]; exact M1.out, HK2.out.trans K1.out⟩
      rw [if_neg k4] at he
      have hk4 : (t.k == 4) = false := by simpa using k4
      by_cases k3 : t.k = 3
      · rw [if_pos k3] at he
        have HE := Lib.hid he; clear he
        have hk3 : (t.k == 3) = true := by simpa using k3
        clear k1 k2 k3 k4
        go_enter Tryz.func52, Tryz.ntmps52
        go_wp2_with fail
        go_ret
        exact ⟨by rw [HE.out]; simp; omega, by rw [HE.out]; exact HM2.out, HK2.out⟩
      rw [if_neg k3] at he
      have hk3 : (t.k == 3) = false := by simpa using k3
      have HE := Lib.hid he; clear he
      clear k1 k2 k3 k4
      go_enter Tryz.func52, Tryz.ntmps52
      go_wp2_with fail
      go_ret
      exact ⟨by rw [HE.out]; rfl, by rw [HE.out]; exact HM2.out, HK2.out⟩
theorem madd_any (D : Nat) : ∀ d : Int, 101 - d ≤ D → 1 ≤ d → d ≤ 101 → AddC pm d := by
  induction D with
  | zero => exact fun d h0 h1 h2 => madd_step h1 h2 (fun h => absurd h (by omega)) (fun _ _ h => absurd h (by omega))
  | succ D ih => exact fun d h0 h1 h2 => madd_step h1 h2 (fun h => ih (d + 1) (by omega) (by omega) (by omega)) (fun t sm h hb => meas_bd 100 t (d + 1) sm (by omega) (by omega) (by omega) hb)
end
end Go.Proofs.YtfkbbbjicaedmaaGreatDoor
namespace Go.Proofs.YtfkbbbjicaedmaaGreatDoor
open Go.RowKit Go.Maps
set_option linter.unusedVariables false
def Tm.size (t : Tm) : Int := if (t.meas 1 (0, 0)).2 then (t.meas 1 (0, 0)).1.1 else 0
def Tm.depth (t : Tm) : Int := if (t.meas 1 (0, 0)).2 then (t.meas 1 (0, 0)).1.2 else 0
def Tm.right (t : Tm) : Bool := (t.meas 1 (0, 0)).2
section
variable {w : World} {t : Tm} {a : Option Addr} {c : Nat}
set_option maxHeartbeats 2000000 in
theorem measured_any (h : TmAt w.heap.size w t a c) : Calls Tryz.prog 44 #[.agg #[.int .i64 t.k, .string (str t.nm), .int .i64 t.i, .slice a t.args.length c]] w fun e w' =>
    e = .returned (.tuple #[.int .i64 t.size, .int .i64 t.depth, .bool t.right]) ∧ Keep (· < w.heap.size) w w' := by
  have hk0 := ((Keep.refl (· < w.heap.size) w).alloc (.cells #[.int .i64 t.k, .string (str t.nm), .int .i64 t.i, .slice a t.args.length c] 24)).alloc (.cells #[.int .i64 0, .int .i64 0] 78)
  have hm0 := Blk.new (w.alloc (.cells #[.int .i64 t.k, .string (str t.nm), .int .i64 t.i, .slice a t.args.length c] 24)) 78 #[.int .i64 0, .int .i64 0]
  rw [show (w.alloc (.cells #[.int .i64 t.k, .string (str t.nm), .int .i64 t.i, .slice a t.args.length c] 24)).heap.size = w.heap.size + 1 by simp] at hm0
  have h0 := (h.old (hk0.toBelow (fun k hk => hk) (Nat.le_refl _))).up (Nat.le_succ _)
  have hc := madd_any (pm := w.heap.size + 1) 100 1 (by omega) (by omega) (by omega) t a c (0, 0) _ h0 hm0 ⟨by dsimp only; omega, by dsimp only; omega, by dsimp only; omega, by dsimp only; omega⟩
  unfold Tm.size Tm.depth Tm.right
  generalize t.meas 1 (0, 0) = rr at hc ⊢
  obtain ⟨⟨s, m⟩, ok⟩ := rr
  dsimp only at hc ⊢
  have HC := Lib.hid hc; clear hc
  have HK := Lib.hid hk0; clear hk0
  clear h h0 hm0
  have fin : ∀ w1, Keep (· ≠ w.heap.size + 1) ((w.alloc (.cells #[.int .i64 t.k, .string (str t.nm), .int .i64 t.i, .slice a t.args.length c] 24)).alloc (.cells #[.int .i64 0, .int .i64 0] 78)) w1 → Keep (· < w.heap.size) w w1 :=
    fun w1 k => HK.out.trans (k.less (fun i hi => by omega))
  have FIN := Lib.hid fin; clear fin
  cases ok
  · go_enter Tryz.func44, Tryz.ntmps44
    go_wp2_with (go_at_call 52; refine HC.out.mono ?_; rintro e w1 ⟨rfl, m1, k1⟩; have K1 := Lib.hid k1; clear k1; clear m1)
    refine bodyPost_ret (results_tmp3 rfl _ _ _) rfl ?_
    exact ⟨rfl, FIN.out _ K1.out⟩
  · go_enter Tryz.func44, Tryz.ntmps44
    go_wp2_with (go_at_call 52; refine HC.out.mono ?_; rintro e w1 ⟨rfl, m1, k1⟩; have r0 := Blk.cell m1 0; have r1 := Blk.cell m1 1; simp at r0 r1; have K1 := Lib.hid k1; clear k1; clear m1)
    go_region
    go_wp2_with fail
    refine bodyPost_ret (results_tmp3 rfl _ _ _) rfl ?_
    exact ⟨rfl, (FIN.out _ K1.out).drew⟩
set_option maxHeartbeats 2000000 in
theorem isRight_any (h : TmAt w.heap.size w t a c) : Calls Tryz.prog 35 #[.agg #[.int .i64 t.k, .string (str t.nm), .int .i64 t.i, .slice a t.args.length c]] w fun e w' =>
    e = .returned (.bool t.right) ∧ Keep (· < w.heap.size) w w' := by
  have hk0 := (Keep.refl (· < w.heap.size) w).alloc (.cells #[.int .i64 t.k, .string (str t.nm), .int .i64 t.i, .slice a t.args.length c] 24)
  have h0 := (h.old (hk0.toBelow (fun k hk => hk) (Nat.le_refl _))).up hk0.size
  have hc := measured_any h0
  have HK := Lib.hid hk0; clear hk0 h0
  generalize t.size = s at hc
  generalize t.depth = m at hc
  have HC := Lib.hid hc; clear hc h
  go_enter Tryz.func35, Tryz.ntmps35
  go_wp2_with (go_at_call 44; refine HC.out.mono ?_; rintro e w1 ⟨rfl, k1⟩; have K1 := Lib.hid k1; clear k1)
  go_ret
  exact ⟨rfl, HK.out.trans (K1.out.less (fun i hi => Nat.lt_of_lt_of_le hi HK.out.size))⟩
end
end Go.Proofs.YtfkbbbjicaedmaaGreatDoor
namespace Go.Proofs.YtfkbbbjicaedmaaGreatDoor
open Go.RowKit Go.Maps
set_option linter.unusedVariables false
section
variable {w : World} {t : Tm} {a : Option Addr} {c : Nat}
set_option maxHeartbeats 2000000 in
theorem check_any (h : TmAt w.heap.size w t a c) : Calls Tryz.prog 21 #[.agg #[.int .i64 t.k, .string (str t.nm), .int .i64 t.i, .slice a t.args.length c]] w fun e w' =>
    e = .returned (.int .i64 (if t.right then 0 else 70)) ∧ Keep (· < w.heap.size) w w' := by
  have hk0 := (Keep.refl (· < w.heap.size) w).alloc (.cells #[.int .i64 t.k, .string (str t.nm), .int .i64 t.i, .slice a t.args.length c] 24)
  have h0 := (h.old (hk0.toBelow (fun k hk => hk) (Nat.le_refl _))).up hk0.size
  have hc := isRight_any h0
  have HK := Lib.hid hk0; clear hk0 h0
  generalize t.right = r at hc ⊢
  have HC := Lib.hid hc; clear hc h
  cases r
  · go_enter Tryz.func21, Tryz.ntmps21
    go_wp2_with (go_at_call 35; refine HC.out.mono ?_; rintro e w1 ⟨rfl, k1⟩; have K1 := Lib.hid k1; clear k1)
    go_ret
    exact ⟨rfl, HK.out.trans (K1.out.less (fun i hi => Nat.lt_of_lt_of_le hi HK.out.size))⟩
  · go_enter Tryz.func21, Tryz.ntmps21
    go_wp2_with (go_at_call 35; refine HC.out.mono ?_; rintro e w1 ⟨rfl, k1⟩; have K1 := Lib.hid k1; clear k1)
    go_ret
    exact ⟨rfl, HK.out.trans (K1.out.less (fun i hi => Nat.lt_of_lt_of_le hi HK.out.size))⟩
end
end Go.Proofs.YtfkbbbjicaedmaaGreatDoor
