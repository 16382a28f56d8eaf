/-
  The contract of the statements' own function 'does', as two statements call it: one call on the yard or on the arena; what the document's answers come to is not asked. Conditions: the yard stands for a plain state; fewer than 2^62 moments have gone, fewer than 2^62 blocks were made; the call is none of the arena's Free.
-/
import Derived.Test.YtiiaajdkkofbjaaDoes1
namespace Go.Proofs.Ytiiaajdkkofbjaa
open Go.RowKit Go.Maps
set_option linter.unusedVariables false

/-- What one call does. -/
def stepY (Y : YS) (S : AS) (k t b : Int) : YS := if k = 1 then Y.enterAt t else if k = 2 then Y.leaveAt t else if k = 3 then Y.retAt S t b else if k = 4 then Y.sweepAt else Y
def stepS (Y : YS) (S : AS) (k t b : Int) : AS := if k = 3 then S.retAt Y t b else if k = 4 then S.sweepAt Y else if k = 5 then S.allocAt b else S

def DoneY (w : World) (X : Nat → Prop) (pa py : Nat) (Y : YS) (S : AS) (w' : World) : Prop := Yd w' X pa py Y S ∧ Keep X w w'
def Done (w : World) (X : Nat → Prop) (pa py : Nat) (Y : YS) (S : AS) (e : Ending) (w' : World) : Prop := (∃ r, e = .returned r) ∧ Yd w' X pa py Y S ∧ Keep X w w'

/-- The five boxes that the call lays first: m, x, o, and the two results. -/
structure Boxes (w : World) (B : Nat) (k t b : Int) : Prop where
  y : Blk w B 52 #[.int .i64 0, .int .i64 0, .slice none 0 0, .slice none 0 0]
  a : Blk w (B + 1) 55 #[.slice none 0 0, .int .i64 0, .int .i64 0]
  o : Blk w (B + 1 + 1) 49 #[.int .i64 k, .int .i64 t, .int .i64 b]
  r : Blk w (B + 1 + 1 + 1) 52 #[.int .i64 0, .int .i64 0, .slice none 0 0, .slice none 0 0]
  s : Blk w (B + 1 + 1 + 1 + 1) 55 #[.slice none 0 0, .int .i64 0, .int .i64 0]
def laid5 (w : World) (k t b : Int) : World :=
  ((((w.alloc (.cells #[.int .i64 0, .int .i64 0, .slice none 0 0, .slice none 0 0] 52)).alloc (.cells #[.slice none 0 0, .int .i64 0, .int .i64 0] 55)).alloc (.cells #[.int .i64 k, .int .i64 t, .int .i64 b] 49)).alloc (.cells #[.int .i64 0, .int .i64 0, .slice none 0 0, .slice none 0 0] 52)).alloc (.cells #[.slice none 0 0, .int .i64 0, .int .i64 0] 55)
theorem Boxes.mk_ (w : World) (k t b : Int) : Boxes (laid5 w k t b) w.heap.size k t b := by
  unfold laid5
  refine ⟨((((Blk.new w _ _).alloc _).alloc _).alloc _).alloc _, ?_, ?_, ?_, ?_⟩
  · have := (((Blk.new (w.alloc (.cells #[.int .i64 0, .int .i64 0, .slice none 0 0, .slice none 0 0] 52)) 55 #[.slice none 0 0, .int .i64 0, .int .i64 0]).alloc (.cells #[.int .i64 k, .int .i64 t, .int .i64 b] 49)).alloc (.cells #[.int .i64 0, .int .i64 0, .slice none 0 0, .slice none 0 0] 52)).alloc (.cells #[.slice none 0 0, .int .i64 0, .int .i64 0] 55)
    simp only [World.size_alloc] at this; exact this
  · have := ((Blk.new ((w.alloc (.cells #[.int .i64 0, .int .i64 0, .slice none 0 0, .slice none 0 0] 52)).alloc (.cells #[.slice none 0 0, .int .i64 0, .int .i64 0] 55)) 49 #[.int .i64 k, .int .i64 t, .int .i64 b]).alloc (.cells #[.int .i64 0, .int .i64 0, .slice none 0 0, .slice none 0 0] 52)).alloc (.cells #[.slice none 0 0, .int .i64 0, .int .i64 0] 55)
    simp only [World.size_alloc] at this; exact this
  · have := (Blk.new (((w.alloc (.cells #[.int .i64 0, .int .i64 0, .slice none 0 0, .slice none 0 0] 52)).alloc (.cells #[.slice none 0 0, .int .i64 0, .int .i64 0] 55)).alloc (.cells #[.int .i64 k, .int .i64 t, .int .i64 b] 49)) 52 #[.int .i64 0, .int .i64 0, .slice none 0 0, .slice none 0 0]).alloc (.cells #[.slice none 0 0, .int .i64 0, .int .i64 0] 55)
    simp only [World.size_alloc] at this; exact this
  · have := Blk.new ((((w.alloc (.cells #[.int .i64 0, .int .i64 0, .slice none 0 0, .slice none 0 0] 52)).alloc (.cells #[.slice none 0 0, .int .i64 0, .int .i64 0] 55)).alloc (.cells #[.int .i64 k, .int .i64 t, .int .i64 b] 49)).alloc (.cells #[.int .i64 0, .int .i64 0, .slice none 0 0, .slice none 0 0] 52)) 55 #[.slice none 0 0, .int .i64 0, .int .i64 0]
    simp only [World.size_alloc] at this; exact this
section
variable {w w' : World} {B : Nat} {k t b : Int} {X : Nat → Prop}
theorem Boxes.keep (h : Boxes w B k t b) (hk : Keep X w w') (hX : ∀ j, B ≤ j → j < B + 5 → X j) : Boxes w' B k t b :=
  ⟨h.y.keep hk (hX _ (by omega) (by omega)), h.a.keep hk (hX _ (by omega) (by omega)), h.o.keep hk (hX _ (by omega) (by omega)), h.r.keep hk (hX _ (by omega) (by omega)), h.s.keep hk (hX _ (by omega) (by omega))⟩
theorem Boxes.below (h : Boxes w B k t b) (hb : Below w.heap.size w w') : Boxes w' B k t b :=
  ⟨h.y.below hb h.y.lt, h.a.below hb h.a.lt, h.o.below hb h.o.lt, h.r.below hb h.r.lt, h.s.below hb h.s.lt⟩
theorem laid5_below (w : World) (k t b : Int) : Below w.heap.size w (laid5 w k t b) := by
  unfold laid5
  exact (((((Below.refl _ _).alloc (Nat.le_refl _) _).alloc (by simp) _).alloc (by simp; omega) _).alloc (by simp; omega) _).alloc (by simp; omega) _
theorem laid5_size (w : World) (k t b : Int) : (laid5 w k t b).heap.size = w.heap.size + 5 := by unfold laid5; simp
end
/-- What the arena and the yard keep off, within the call. -/
def offs (X : Nat → Prop) (B : Nat) : Nat → Prop := fun k => X k ∨ (B ≤ k ∧ k < B + 5)
theorem Yd.laid {w : World} {X : Nat → Prop} {pa py : Nat} {Y : YS} {S : AS} (h : Yd w X pa py Y S) (k t b : Int) : Yd (laid5 w k t b) (offs X w.heap.size) pa py Y S :=
  (h.less (fun j hj hz => by rcases hz with hz | hz; exact hz; omega)).below (laid5_below w k t b)
/-- The end of a call: what was laid and stored lies in the call's own blocks. -/
structure Own (B : Nat) (w w' : World) : Prop where
  yd : ∀ {X pa py Y S}, Yd w (offs X B) pa py Y S → Yd w' (offs X B) pa py Y S
  kp : ∀ {X : Nat → Prop}, (∀ j, B ≤ j → ¬ X j) → Keep X w w'
theorem Own.refl (B : Nat) (w : World) : Own B w w := ⟨fun h => h, fun _ => Keep.refl _ _⟩
theorem Own.drew {B : Nat} {w w' : World} (h : Own B w w') : Own B w w'.drew := ⟨fun y => (h.yd y).drew, fun hx => (h.kp hx).drew⟩
theorem Own.alloc {B : Nat} {w w' : World} (h : Own B w w') (o : Obj) : Own B w (w'.alloc o) := ⟨fun y => (h.yd y).alloc o, fun hx => (h.kp hx).alloc o⟩
theorem Own.set_ {B : Nat} {w w' : World} (h : Own B w w') {g i : Nat} {u : Value} (h1 : B ≤ g) (h2 : g < B + 5) : Own B w (w'.setCell ⟨g, i, none⟩ u) :=
  ⟨fun y => (h.yd y).setCell (p := ⟨g, i, none⟩) (.inr ⟨h1, h2⟩) u, fun hx => (h.kp hx).setCell (p := ⟨g, i, none⟩) (hx g h1) u⟩

theorem ret_through {id : Nat} {K : Act → World → Prop} {Q : Exit → Act → World → Prop} {a : Act} {w : World} (h : Q .ret a w) : Exit.inBlock id (Exit.then K Q) .ret a w := h
theorem normal_through {K : Act → World → Prop} {Q : Exit → Act → World → Prop} {a : Act} {w : World} (h : K a w) : Exit.then K Q .normal a w := h
end Go.Proofs.Ytiiaajdkkofbjaa
