/-
  The statements' own function 'does': one call on the scheduler and on the document's own. Conditions: fewer than 2^43 threads.
-/
import Derived.Test.YtlmgojnhmdppnaaSc14
import Derived.Test.YtlmgojnhmdppnaaSc15
namespace Go.Proofs.Ytlmgojnhmdppnaa
open Go.RowKit Go.Maps
set_option linter.unusedVariables false
set_option linter.unusedSimpArgs false

abbrev zc5 : Array Value := #[.slice none 0 0, .slice none 0 0, .int .i64 0, .int .i64 0, .int .i64 0]
/-- The three boxes that the call lays first: m, o, the result. -/
def laid3 (w : World) (m : Array Value) (k t key : Int) : World :=
  ((w.alloc (.cells m 82)).alloc (.cells #[.int .i64 k, .int .i64 t, .int .i64 key] 85)).alloc (.cells zc5 82)
structure B3 (B : Nat) (m : Array Value) (k t key : Int) (w : World) : Prop where
  m : Blk w B 82 m
  o : Blk w (B + 1) 85 #[.int .i64 k, .int .i64 t, .int .i64 key]
  r : Blk w (B + 1 + 1) 82 zc5
theorem B3.laid (w : World) (m : Array Value) (k t key : Int) : B3 w.heap.size m k t key (laid3 w m k t key) := by
  unfold laid3
  refine ⟨((Blk.new w _ _).alloc _).alloc _, ?_, ?_⟩
  · have := (Blk.new (w.alloc (.cells m 82)) 85 #[.int .i64 k, .int .i64 t, .int .i64 key]).alloc (.cells zc5 82)
    simp only [World.size_alloc] at this; exact this
  · have := Blk.new ((w.alloc (.cells m 82)).alloc (.cells #[.int .i64 k, .int .i64 t, .int .i64 key] 85)) 82 zc5
    simp only [World.size_alloc] at this; exact this
theorem B3.keep {B : Nat} {m : Array Value} {k t key : Int} {w w' : World} {X : Nat → Prop} (h : B3 B m k t key w) (hk : Keep X w w') (hX : ∀ j, B ≤ j → j < B + 3 → X j) : B3 B m k t key w' :=
  ⟨h.m.keep hk (hX _ (by omega) (by omega)), h.o.keep hk (hX _ (by omega) (by omega)), h.r.keep hk (hX _ (by omega) (by omega))⟩
theorem B3.below {B : Nat} {m : Array Value} {k t key : Int} {w w' : World} (h : B3 B m k t key w) (hb : Below w.heap.size w w') : B3 B m k t key w' :=
  h.keep (X := fun _ => True) (Keep.ofBelow0 hb) (fun _ _ _ => trivial)
theorem laid3_below (w : World) (m : Array Value) (k t key : Int) : Below w.heap.size w (laid3 w m k t key) := by
  unfold laid3
  exact (((Below.refl _ _).alloc (Nat.le_refl _) _).alloc (by simp) _).alloc (by simp; omega) _
theorem laid3_num (w : World) (m : Array Value) (k t key : Int) : NumKeep w (laid3 w m k t key) := NumKeep.below (laid3_below w m k t key)
theorem laid3_size (w : World) (m : Array Value) (k t key : Int) : (laid3 w m k t key).heap.size = w.heap.size + 3 := by unfold laid3; simp
def offs (X : Nat → Prop) (B : Nat) : Nat → Prop := fun k => X k ∨ (B ≤ k ∧ k < B + 3)
theorem Zd.laid {w : World} {X : Nat → Prop} {ps : Nat} {Z : ZS} (h : Zd w X ps Z) (m : Array Value) (k t key : Int) : Zd (laid3 w m k t key) (offs X w.heap.size) ps Z :=
  (h.less (fun j hj hz => by rcases hz with hz | hz; exact hz; omega)).below (laid3_below w m k t key)
theorem offs_new {w : World} {X : Nat → Prop} (hX : ∀ k, w.heap.size ≤ k → ¬ X k) (m : Array Value) (k t key : Int) : ∀ j, (laid3 w m k t key).heap.size ≤ j → ¬ offs X w.heap.size j := by
  intro j hj
  rw [laid3_size] at hj
  rintro (h | h)
  · exact hX j (by omega) h
  · omega
/-- What a call ends with. -/
structure Ends (w : World) (X : Nat → Prop) (ps : Nat) (Z : ZS) (sa : Option Addr) (sc : Nat) (ka : Option Addr) (kc : Nat) (r : RS) (w' : World) : Prop where
  zd : Zd w' X ps Z
  ra : RAt w' sa sc ka kc r
  kp : Keep X w w'
/-- X holds all memory of numbers. -/
def Numb (w : World) (X : Nat → Prop) : Prop := ∀ g cs, Blk w g 3 cs → X g
theorem Numb.keep {w w' : World} {X : Nat → Prop} (h : Numb w X) (hk : Keep X w w') : NumKeep w w' := ⟨hk.size, fun g cs hb => hb.keep hk (h g cs hb)⟩
/-- Behind the scheduler's call and the document's: the answer is stored. -/
theorem does_end {w w1 w2 : World} {X : Nat → Prop} {ps : Nat} {Z' : ZS} {m : Array Value} {k t key : Int} {sa ka : Option Addr} {sc kc : Nat} {r : RS} (hX : ∀ k, w.heap.size ≤ k → ¬ X k)
    (z1 : Zd w1 (offs X w.heap.size) ps Z') (k1 : Keep (offs X w.heap.size) (laid3 w m k t key) w1) (b2 : Below w1.heap.size w1 w2) (hra : RAt w2 sa sc ka kc r) (y0 y1 y2 y3 y4 : Value) (o : Obj) :
    Ends w X ps Z' sa sc ka kc r ((set5 w2 (w.heap.size + 1 + 1) y0 y1 y2 y3 y4).alloc o) ∧ Ends w X ps Z' sa sc ka kc r (set5 w2 (w.heap.size + 1 + 1) y0 y1 y2 y3 y4) := by
  have hb3 := ((B3.laid w m k t key).keep k1 (fun j h1 h2 => .inr ⟨h1, h2⟩)).below b2
  have hk12 : Keep X w w2 := ((Keep.ofBelow0 (laid3_below w m k t key)).trans (k1.less (fun _ h => .inl h))).trans (Keep.ofBelow0 b2)
  have hset : Keep X w (set5 w2 (w.heap.size + 1 + 1) y0 y1 y2 y3 y4) := by
    unfold set5
    exact ((((hk12.setCell (p := ⟨w.heap.size + 1 + 1, 0, none⟩) (hX _ (by show w.heap.size ≤ w.heap.size + 1 + 1; omega)) _).setCell (p := ⟨w.heap.size + 1 + 1, 1, none⟩) (hX _ (by show w.heap.size ≤ w.heap.size + 1 + 1; omega)) _).setCell (p := ⟨w.heap.size + 1 + 1, 2, none⟩) (hX _ (by show w.heap.size ≤ w.heap.size + 1 + 1; omega)) _).setCell (p := ⟨w.heap.size + 1 + 1, 3, none⟩) (hX _ (by show w.heap.size ≤ w.heap.size + 1 + 1; omega)) _).setCell (p := ⟨w.heap.size + 1 + 1, 4, none⟩) (hX _ (by show w.heap.size ≤ w.heap.size + 1 + 1; omega)) _
  have hz : Zd (set5 w2 (w.heap.size + 1 + 1) y0 y1 y2 y3 y4) (offs X w.heap.size) ps Z' := by
    have hx : offs X w.heap.size (w.heap.size + 1 + 1) := .inr ⟨by omega, by omega⟩
    unfold set5
    exact (((((z1.below b2).setCell (p := ⟨w.heap.size + 1 + 1, 0, none⟩) hx _).setCell (p := ⟨w.heap.size + 1 + 1, 1, none⟩) hx _).setCell (p := ⟨w.heap.size + 1 + 1, 2, none⟩) hx _).setCell (p := ⟨w.heap.size + 1 + 1, 3, none⟩) hx _).setCell (p := ⟨w.heap.size + 1 + 1, 4, none⟩) hx _
  have hn := hra.keep (set5_num hb3.r (by decide) y0 y1 y2 y3 y4)
  have hz' := hz.less (Y := X) (fun _ _ h => .inl h)
  exact ⟨⟨hz'.alloc o, hn.keep (NumKeep.below ((Below.refl _ _).alloc (Nat.le_refl _) o)), hset.alloc o⟩, ⟨hz', hn, hset⟩⟩
theorem Blk.three {w : World} {g : Nat} {t : TypeId} {x y z : Value} (h : Blk w g t #[x, y, z]) :
    w.cell? ⟨g, 0, none⟩ = some x ∧ w.cell? ⟨g, 1, none⟩ = some y ∧ w.cell? ⟨g, 2, none⟩ = some z :=
  ⟨by rw [h.cell]; rfl, by rw [h.cell]; rfl, by rw [h.cell]; rfl⟩
end Go.Proofs.Ytlmgojnhmdppnaa
