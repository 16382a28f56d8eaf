/-
  The document's own scheduler, as the statements' functions keep it: its plain state, what it means that it lies in memory, and the contracts of its State and put. Conditions: fewer than 2^43 threads.
-/
import Derived.Test.YtlmgojnhmdppnaaSc10
namespace Go.Proofs.Ytlmgojnhmdppnaa
open Go.RowKit Go.Maps
set_option linter.unusedVariables false

/-- The document's scheduler, plainly: the n-th thread's state and key at place n - 1. -/
structure RS where
  st : List Int
  keys : List Int
  most : Int
  good : Int
  bad : Int
def rv (sa : Option Addr) (sc : Nat) (ka : Option Addr) (kc : Nat) (r : RS) : Value :=
  .agg #[.slice sa r.st.length sc, .slice ka r.st.length kc, .int .i64 r.most, .int .i64 r.good, .int .i64 r.bad]
def rc (sa : Option Addr) (sc : Nat) (ka : Option Addr) (kc : Nat) (r : RS) : Array Value :=
  #[.slice sa r.st.length sc, .slice ka r.st.length kc, .int .i64 r.most, .int .i64 r.good, .int .i64 r.bad]
structure RAt (w : World) (sa : Option Addr) (sc : Nat) (ka : Option Addr) (kc : Nat) (r : RS) : Prop where
  own1 : w.ownsRow 0 3 1 (.slice sa r.st.length sc) r.st.length (r.st.map (Value.int .i64))
  own2 : w.ownsRow 0 3 1 (.slice ka r.st.length kc) r.st.length (r.keys.map (Value.int .i64))
/-- Memory of numbers stays. -/
def NumKeep (w w' : World) : Prop := w.heap.size ≤ w'.heap.size ∧ ∀ g cs, Blk w g 3 cs → Blk w' g 3 cs
theorem NumKeep.refl (w : World) : NumKeep w w := ⟨Nat.le_refl _, fun _ _ h => h⟩
theorem NumKeep.trans {w w' w'' : World} (h : NumKeep w w') (k : NumKeep w' w'') : NumKeep w w'' := ⟨Nat.le_trans h.1 k.1, fun g cs hb => k.2 g cs (h.2 g cs hb)⟩
theorem NumKeep.below {w w' : World} (h : Below w.heap.size w w') : NumKeep w w' := ⟨h.size, fun g cs hb => hb.below h hb.lt⟩
theorem NumKeep.keep {w w' : World} {B : Nat} (h : Keep (nums B w) w w') : NumKeep w w' := ⟨h.size, fun g cs hb => hb.keep h (.inr ⟨cs, hb⟩)⟩
theorem NumKeep.set_ {w w' : World} (h : NumKeep w w') {p : Addr} {t : TypeId} {cs : Array Value} (hb : Blk w' p.block t cs) (ht : t ≠ 3) (u : Value) : NumKeep w (w'.setCell p u) :=
  ⟨by simpa [World.setCell] using h.1, fun g ds hd => (h.2 g ds hd).far (p := p) (fun e => by
    have := h.2 g ds hd
    rw [e] at this
    exact this.ne_ hb (Ne.symm ht) rfl) u⟩
theorem num_own {w w' : World} {v : Value} {base n : Nat} {xs : List Value} (h : w.ownsRow base 3 1 v n xs) (hk : NumKeep w w') : w'.ownsRow base 3 1 v n xs := by
  obtain ⟨h1, h2⟩ := h
  refine ⟨h1, ?_⟩
  rcases h2 with h2 | ⟨g, cap, cur, rfl, a1, a2, a3⟩
  · exact .inl h2
  · exact .inr ⟨g, cap, cur, rfl, a1, hk.2 g cur a2, a3⟩
theorem RAt.keep {w w' : World} {sa ka : Option Addr} {sc kc : Nat} {r : RS} (h : RAt w sa sc ka kc r) (hk : NumKeep w w') : RAt w' sa sc ka kc r := ⟨num_own h.own1 hk, num_own h.own2 hk⟩
theorem RAt.len {w : World} {sa ka : Option Addr} {sc kc : Nat} {r : RS} (h : RAt w sa sc ka kc r) : r.keys.length = r.st.length := by have := h.own2.1; simpa using this
theorem RAt.ints1 {w : World} {sa ka : Option Addr} {sc kc : Nat} {r : RS} (h : RAt w sa sc ka kc r) : IntsAt w sa r.st := by
  obtain ⟨a, c, hv, hi⟩ := own_ints h.own1
  injection hv with hv
  subst hv; exact hi
theorem RAt.ints2 {w : World} {sa ka : Option Addr} {sc kc : Nat} {r : RS} (h : RAt w sa sc ka kc r) : IntsAt w ka r.keys := by
  have h2 := h.own2
  rw [← h.len] at h2
  obtain ⟨a, c, hv, hi⟩ := own_ints h2
  injection hv with hv
  subst hv; exact hi
theorem Blk.five {w : World} {g : Nat} {t : TypeId} {x0 x1 x2 x3 x4 : Value} (h : Blk w g t #[x0, x1, x2, x3, x4]) :
    w.cell? ⟨g, 0, none⟩ = some x0 ∧ w.cell? ⟨g, 1, none⟩ = some x1 ∧ w.cell? ⟨g, 2, none⟩ = some x2 ∧ w.cell? ⟨g, 3, none⟩ = some x3 ∧ w.cell? ⟨g, 4, none⟩ = some x4 ∧
    w.frozen? ⟨g, 0, none⟩ = false ∧ w.frozen? ⟨g, 1, none⟩ = false ∧ w.frozen? ⟨g, 2, none⟩ = false ∧ w.frozen? ⟨g, 3, none⟩ = false ∧ w.frozen? ⟨g, 4, none⟩ = false :=
  ⟨by rw [h.cell]; rfl, by rw [h.cell]; rfl, by rw [h.cell]; rfl, by rw [h.cell]; rfl, by rw [h.cell]; rfl, h.frozen 0, h.frozen 1, h.frozen 2, h.frozen 3, h.frozen 4⟩

def RS.at_ (r : RS) (t : Int) : Int := if 1 ≤ t ∧ t ≤ r.st.length then r.st.getD (t - 1).toNat 0 else 0

set_option maxHeartbeats 1000000 in
theorem rstate_any {w : World} {sa ka : Option Addr} {sc kc : Nat} {r : RS} (h : RAt w sa sc ka kc r) (hn : r.st.length ≤ 8796093022208) (t : Int) :
    Calls Try.prog 46 #[rv sa sc ka kc r, .int .i64 t] w fun e w' => e = .returned (.int .i64 (r.at_ t)) ∧ Below w.heap.size w w' := by
  have hi := h.ints1
  clear h
  unfold rv RS.at_
  generalize r.most = x2
  generalize r.good = x3
  generalize r.bad = x4
  generalize r.st = st at *
  by_cases h1 : t < 1
  · rw [if_neg (by omega)]
    clear hi
    go_enter Try.func46, Try.ntmps46
    go_wp2
    go_ret
    exact ⟨rfl, (Below.refl _ _).alloc (Nat.le_refl _) _⟩
  · by_cases h2 : (st.length : Int) < t
    · rw [if_neg (by omega)]
      clear hi
      go_enter Try.func46, Try.ntmps46
      go_wp2
      go_ret
      exact ⟨rfl, (Below.refl _ _).alloc (Nat.le_refl _) _⟩
    · rw [if_pos (by omega)]
      obtain ⟨i, rfl⟩ : ∃ i : Nat, t = (i : Int) + 1 := ⟨(t - 1).toNat, by omega⟩
      have hil : i < st.length := by omega
      obtain ⟨b, off, rfl, hb, hc⟩ := hi i hil
      have e : ((i : Int) + 1 - 1).toNat = i := by omega
      rw [e]
      clear hi
      generalize st.getD i 0 = y at hc ⊢
      have hsub : IntKind.i64.wrap ((i : Int) + 1 - 1) = (i : Int) := by rw [IntKind.wrap_i64]; omega
      have hi1 : ¬ (i : Int) + 1 < 1 := by omega
      have hi2 : ¬ (st.length : Int) < (i : Int) + 1 := by omega
      clear h1 h2 e
      go_enter Try.func46, Try.ntmps46
      go_wp2
      go_ret
      exact ⟨rfl, (Below.refl _ _).alloc (Nat.le_refl _) _⟩

/-! ### Two rows of numbers that grow side by side -/
structure Two (w : World) (B : Nat) (v1 v2 : Value) (n1 n2 : Nat) (l1 l2 : List Int) : Prop where
  o1 : w.ownsRow B 3 1 v1 n1 (l1.map (Value.int .i64))
  o2 : w.ownsRow B 3 1 v2 n2 (l2.map (Value.int .i64))
  ne : ∀ g, v1.ownBlock = some g → v2.ownBlock = some g → False
theorem Two.swap {w : World} {B n1 n2 : Nat} {v1 v2 : Value} {l1 l2 : List Int} (h : Two w B v1 v2 n1 n2 l1 l2) : Two w B v2 v1 n2 n1 l2 l1 := ⟨h.o2, h.o1, fun g a b => h.ne g b a⟩
theorem Two.alloc {w : World} {B n1 n2 : Nat} {v1 v2 : Value} {l1 l2 : List Int} (h : Two w B v1 v2 n1 n2 l1 l2) (o : Obj) : Two (w.alloc o) B v1 v2 n1 n2 l1 l2 := ⟨h.o1.alloc o, h.o2.alloc o, h.ne⟩
theorem Two.push {w w' : World} {B n1 n2 g cap : Nat} {v1 v2 : Value} {l1 l2 : List Int} {x : Int} (h : Two w B v1 v2 n1 n2 l1 l2)
    (hown : w'.ownsRow B 3 1 (.slice (some ⟨g, 0, none⟩) (n1 + 1) cap) (n1 + 1) (l1.map (Value.int .i64) ++ [.int .i64 x])) (hgr : w.grownBy w' v1.ownBlock) (hat : v1.ownBlock = some g ∨ g = w.heap.size) :
    Two w' B (.slice (some ⟨g, 0, none⟩) (n1 + 1) cap) v2 (n1 + 1) n2 (l1 ++ [x]) l2 := by
  refine ⟨by simpa using hown, zrow_keep h.o2 (fun g' hg' => hgr.block g' (by obtain ⟨cs, hb⟩ := (own_type h.o2 hg').2; exact hb.lt) (fun e => h.ne g' e.symm hg')), ?_⟩
  · intro g' h1 h2
    simp only [Value.ownBlock, Option.some.injEq] at h1
    subst h1
    rcases hat with e | e
    · exact h.ne _ e h2
    · have := (own_type h.o2 h2).2
      obtain ⟨cs, hb⟩ := this
      have := hb.lt
      omega
end Go.Proofs.Ytlmgojnhmdppnaa
