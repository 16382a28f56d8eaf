/-
  Terms whose memory lies in a set of blocks, and slices of such; what the writing of a term is to do. No condition.
-/
import Derived.Test.YtfkbbbjicaedmaaGreatDoorUWrG
namespace Go.Proofs.YtfkbbbjicaedmaaGreatDoor
open Go.RowKit Go.Maps
set_option linter.unusedVariables false
set_option linter.unusedSimpArgs false
inductive TmS (S : Nat → Prop) (w : World) : Tm → Option Addr → Nat → Prop
  | mk (t : Tm) (a : Option Addr) (c : Nat) (A : Nat → Option Addr) (C : Nat → Nat)
      (hk : (Lit.int .i64 t.k).wf = true) (hi : (Lit.int .i64 t.i).wf = true) (hn : t.nm.length ≤ maxLen) (hl : t.args.length ≤ maxLen)
      (hc : ∀ (j : Nat) (x : Tm), t.args[j]? = some x → ∃ b off, a = some ⟨b, off, none⟩ ∧ (S b ∧ b < w.heap.size) ∧ ∀ (f : Nat) (v : Value), (x.cells (A j) (C j))[f]? = some v → w.cell? ⟨b, off + (j * 4 + f), none⟩ = some v)
      (ha : ∀ (j : Nat) (x : Tm), t.args[j]? = some x → TmS S w x (A j) (C j)) : TmS S w t a c
def SlS (S : Nat → Prop) (w : World) (a : Option Addr) (ps : List TP) : Prop :=
  ∀ (j : Nat) (p : TP), ps[j]? = some p → (∃ b off, a = some ⟨b, off, none⟩ ∧ (S b ∧ b < w.heap.size) ∧ ∀ (f : Nat) (v : Value), (p.1.cells p.2.1 p.2.2)[f]? = some v → w.cell? ⟨b, off + (j * 4 + f), none⟩ = some v) ∧ TmS S w p.1 p.2.1 p.2.2
section
variable {S S' : Nat → Prop} {w w' : World} {t : Tm} {a : Option Addr} {c : Nat} {ps : List TP}
theorem TmS.keep (h : TmS S w t a c) (hk : Keep S w w') : TmS S w' t a c := by
  induction h with
  | mk t a c A C hk1 hi hn hl hc ha ih =>
    refine .mk t a c A C hk1 hi hn hl (fun j x hj => ?_) ih
    obtain ⟨b, off, e, hb, hx⟩ := hc j x hj
    exact ⟨b, off, e, ⟨hb.1, Nat.lt_of_lt_of_le hb.2 hk.size⟩, fun f v hv => (World.cell?_of_block (a := ⟨b, off + (j * 4 + f), none⟩) (hk.block b hb.2 hb.1)).trans (hx f v hv)⟩
theorem TmS.mono (h : TmS S w t a c) (hS : ∀ k, S k → k < w.heap.size → S' k) : TmS S' w t a c := by
  induction h with
  | mk t a c A C hk1 hi hn hl hc ha ih =>
    refine .mk t a c A C hk1 hi hn hl (fun j x hj => ?_) ih
    obtain ⟨b, off, e, hb, hx⟩ := hc j x hj
    exact ⟨b, off, e, ⟨hS b hb.1 hb.2, hb.2⟩, hx⟩
theorem TmS.at_ (h : TmS S w t a c) : TmAt w.heap.size w t a c := by
  induction h with
  | mk t a c A C hk1 hi hn hl hc ha ih =>
    refine .mk t a c A C hk1 hi hn hl (fun j x hj => ?_) ih
    obtain ⟨b, off, e, hb, hx⟩ := hc j x hj
    exact ⟨b, off, e, hb.2, hx⟩
theorem TmS.of {B : Nat} (h : TmAt B w t a c) (hB : B ≤ w.heap.size) : TmS (fun g => g < B) w t a c := by
  induction h with
  | mk t a c A C hk1 hi hn hl hc ha ih =>
    refine .mk t a c A C hk1 hi hn hl (fun j x hj => ?_) ih
    obtain ⟨b, off, e, hb, hx⟩ := hc j x hj
    exact ⟨b, off, e, ⟨hb, Nat.lt_of_lt_of_le hb hB⟩, hx⟩
theorem TmS.args (h : TmS S w t a c) : ∃ ps : List TP, ps.map (·.1) = t.args ∧ SlS S w a ps := by
  cases h with
  | mk t a c A C hk1 hi hn hl hc ha =>
    refine ⟨t.args.mapIdx fun j x => (x, A j, C j), ?_, fun j p hp => ?_⟩
    · apply List.ext_getElem?
      intro j
      simp [List.getElem?_mapIdx]
      cases t.args[j]? <;> rfl
    · rw [List.getElem?_mapIdx] at hp
      obtain ⟨x, hx, rfl⟩ := Option.map_eq_some_iff.1 hp
      exact ⟨hc j x hx, ha j x hx⟩
theorem SlS.keep (h : SlS S w a ps) (hk : Keep S w w') : SlS S w' a ps := fun j p hp => by
  obtain ⟨⟨b, off, e, hb, hx⟩, ht⟩ := h j p hp
  exact ⟨⟨b, off, e, ⟨hb.1, Nat.lt_of_lt_of_le hb.2 hk.size⟩, fun f v hv => (World.cell?_of_block (a := ⟨b, off + (j * 4 + f), none⟩) (hk.block b hb.2 hb.1)).trans (hx f v hv)⟩, ht.keep hk⟩
theorem SlS.mem (h : SlS S w a ps) {j : Nat} {p : TP} (hp : ps[j]? = some p) : ∃ b off, a = some ⟨b, off, none⟩ ∧ (w.cell? ⟨b, off + j * 4, none⟩ = some (.int .i64 p.1.k) ∧ w.cell? ⟨b, off + (j * 4 + 1), none⟩ = some (.string (str p.1.nm)) ∧ w.cell? ⟨b, off + (j * 4 + 2), none⟩ = some (.int .i64 p.1.i) ∧ w.cell? ⟨b, off + (j * 4 + 3), none⟩ = some (.slice p.2.1 p.1.args.length p.2.2)) ∧ TmS S w p.1 p.2.1 p.2.2 := by
  obtain ⟨⟨b, off, e, hb, hx⟩, ht⟩ := h j p hp
  exact ⟨b, off, e, ⟨hx 0 _ rfl, hx 1 _ rfl, hx 2 _ rfl, hx 3 _ rfl⟩, ht⟩
end
def DJ (S R : Nat → Prop) (w : World) : Prop := ∀ g, S g → g < w.heap.size ∧ ¬ R g
section
variable {S R R0 : Nat → Prop} {w w' : World}
theorem DJ.keep (h : DJ S R w) (hk : Keep (fun g => g < w.heap.size ∧ ¬ R g) w w') : Keep S w w' := hk.less fun g hg => h g hg
theorem DJ.next {R' : Nat → Prop} (h : DJ S R w) (hr : ∀ k, R' k → R k ∨ w.heap.size ≤ k) (hs : w.heap.size ≤ w'.heap.size) : DJ S R' w' := fun g hg =>
  ⟨Nat.lt_of_lt_of_le (h g hg).1 hs, fun h2 => (hr g h2).elim (h g hg).2 fun h3 => absurd (h g hg).1 (Nat.not_lt.2 h3)⟩
end
def TermW (k : Nat) : Prop := ∀ (W : World) (B b : Nat) (R0 S : Nat → Prop) (l0 : List UInt8) (t : Tm) (a : Option Addr) (c : Nat), t.tree.ns ≤ k → t.right = true → WAt B R0 W b l0 → VarsAt B W → DJ S R0 W → TmS S W t a c → l0.length + (t.tree.tx bareC).length ≤ 140737488355328 →
  Calls Tryz.prog 23 #[.pointer (some ⟨b, 0, none⟩), tv t a c] W fun e w' => e = .returned (.tuple #[]) ∧ Wr B R0 W w' b (l0 ++ t.tree.tx bareC)
def TermsW (k : Nat) : Prop := ∀ (W : World) (B b : Nat) (R0 S : Nat → Prop) (l0 : List UInt8) (a : Option Addr) (c : Nat) (ps : List TP), (∀ p ∈ ps, p.1.tree.ns ≤ k ∧ p.1.right = true) → ps.length ≤ 1000000 → WAt B R0 W b l0 → VarsAt B W → DJ S R0 W → SlS S W a ps → l0.length + (joinX (ps.map fun p => p.1.tree.tx bareC)).length ≤ 140737488355328 →
  Calls Tryz.prog 48 #[.pointer (some ⟨b, 0, none⟩), .slice a ps.length c] W fun e w' => e = .returned (.tuple #[]) ∧ Wr B R0 W w' b (l0 ++ joinX (ps.map fun p => p.1.tree.tx bareC))
theorem join_take {xs : List (List UInt8)} {j : Nat} {x : List UInt8} (h : xs[j]? = some x) : joinX (xs.take (j + 1)) = (if 0 < j then joinX (xs.take j) ++ [44] else []) ++ x := by
  induction xs generalizing j with
  | nil => simp at h
  | cons y ys ih =>
    cases j with
    | zero => simp at h; subst h; simp [joinX]
    | succ j =>
      simp at h
      have h2 := ih h
      rw [List.take_succ_cons, List.take_succ_cons, if_pos (by omega)]
      obtain ⟨hlt, _⟩ := List.getElem?_eq_some_iff.1 h
      cases ys with
      | nil => simp at hlt
      | cons z zs =>
        rw [List.take_succ_cons] at h2 ⊢
        simp only [joinX]
        cases j with
        | zero => simp at h2 ⊢; simp [joinX] at h2 ⊢; simpa using h2
        | succ j =>
          rw [if_pos (by omega)] at h2
          rw [List.take_succ_cons] at h2 ⊢
          simp only [joinX] at h2 ⊢
          rw [h2]
          simp
theorem join_len {xs : List (List UInt8)} {j : Nat} (h : j ≤ xs.length) : (joinX (xs.take j)).length ≤ (joinX xs).length := by
  induction xs generalizing j with
  | nil => simp
  | cons y ys ih =>
    cases j with
    | zero => simp [joinX]
    | succ j =>
      have h2 := ih (j := j) (by simpa using h)
      rw [List.take_succ_cons]
      cases ys with
      | nil => simp
      | cons z zs =>
        cases j with
        | zero => simp [joinX]
        | succ j =>
          rw [List.take_succ_cons] at h2 ⊢
          simp only [joinX, List.length_append, List.length_cons] at h2 ⊢
          omega
end Go.Proofs.YtfkbbbjicaedmaaGreatDoor
