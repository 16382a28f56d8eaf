/-
  LockLeaves, the walk. Conditions: the script's length.
-/
import Derived.Test.YtbfnadpkgiglmaaLk14
namespace Go.Proofs.Ytbfnadpkgiglmaa
open Go.RowKit Go.Maps
set_option linter.unusedVariables false
set_option linter.unusedSimpArgs false

/-- Of the first k mutexes those that another one has. -/
def LS.others (L : LS) (t : Int) (k : Nat) : List Int := (List.take k (LS.all L)).filter (fun m => decide (0 < (L.getD (m - 1).toNat zLk).ct) && !(LS.hasAt L t (m - 1).toNat))
theorem others_succ (L : LS) (t : Int) (k : Nat) (hk : k < (LS.all L).length) : LS.others L t (k + 1) = LS.others L t k ++ (if (decide (0 < (L.getD ((LS.all L).getD k 0 - 1).toNat zLk).ct) && !(LS.hasAt L t ((LS.all L).getD k 0 - 1).toNat)) = true then [(LS.all L).getD k 0] else []) := by
  have e : (LS.all L).getD k 0 = (LS.all L)[k] := by simp [List.getD, hk]
  unfold LS.others
  rw [List.take_succ_eq_append_getElem hk, List.filter_append, e]
  congr 1
  generalize (LS.all L)[k] = y
  cases h : (decide (0 < (L.getD (y - 1).toNat zLk).ct) && !(LS.hasAt L t (y - 1).toNat))
  · rw [List.filter_cons_of_neg (by rw [h]; simp)]; simp
  · rw [List.filter_cons_of_pos (by exact h)]; simp
theorem others_len (L : LS) (t : Int) (k : Nat) : (LS.others L t k).length ≤ (LS.all L).length := Nat.le_trans (List.length_filter_le _ _) (by rw [List.length_take]; omega)
theorem others_get {L : LS} {t : Int} {k : Nat} {m : Int} (h : m ∈ LS.others L t k) : ∃ x, LS.get (LS.leave L t) m = some x ∧ 0 < x.ct ∧ ∃ i : Nat, m = (i : Int) + 1 ∧ i < L.length := by
  obtain ⟨h1, h2⟩ := List.mem_filter.1 h
  have hm := List.take_subset _ _ h1
  obtain ⟨x, hx⟩ := Option.isSome_iff_exists.1 (mem_all.1 hm)
  rw [Bool.and_eq_true, decide_eq_true_eq, Bool.not_eq_true'] at h2
  obtain ⟨i, rfl, hi, h3, h4⟩ := get_some hx
  have e : ((i : Int) + 1 - 1).toNat = i := by omega
  rw [e, h4] at h2
  refine ⟨x, ?_, h2.1, i, rfl, hi⟩
  unfold LS.leave
  rw [get_clr (own_sub L t), if_neg]
  · exact hx
  · intro hh
    have := (List.mem_filter.1 hh).2
    rw [e, h2.2] at this
    cases this
theorem own_get {L : LS} {t : Int} {m : Int} (h : m ∈ LS.own L t) : LS.get (LS.leave L t) m = some ⟨true, 0, 0⟩ ∧ ∃ i : Nat, m = (i : Int) + 1 ∧ i < L.length := by
  obtain ⟨x, hx⟩ := Option.isSome_iff_exists.1 (mem_all.1 (own_sub L t m h))
  obtain ⟨i, rfl, hi, h3, h4⟩ := get_some hx
  refine ⟨?_, i, rfl, hi⟩
  unfold LS.leave
  rw [get_clr (own_sub L t), if_pos h]
theorem own_again (L : LS) (t : Int) : LS.own (LS.leave L t) t = [] := by
  unfold LS.own
  rw [List.filter_eq_nil_iff]
  intro m hm hh
  have hm2 : m ∈ LS.all L := by
    have := all_clr (own_sub L t)
    unfold LS.leave at hm
    rwa [this] at hm
  obtain ⟨x, hx⟩ := Option.isSome_iff_exists.1 (mem_all.1 hm2)
  obtain ⟨i, rfl, hi, h3, h4⟩ := get_some hx
  have e : ((i : Int) + 1 - 1).toNat = i := by omega
  rw [e] at hh
  unfold LS.hasAt LS.leave at hh
  rw [getD_clr (own_sub L t)] at hh
  by_cases hin : (i : Int) + 1 ∈ LS.own L t
  · rw [if_pos hin] at hh; simp at hh
  · rw [if_neg hin] at hh
    apply hin
    unfold LS.own
    rw [List.mem_filter]
    refine ⟨hm2, ?_⟩
    rw [e]
    exact hh
theorem leave_again (L : LS) (t : Int) : LS.leave (LS.leave L t) t = LS.leave L t := by
  show LS.clr (LS.leave L t) (LS.own (LS.leave L t) t) = LS.leave L t
  rw [own_again]; rfl
theorem some_at (L : LS) (t : Int) (k : Nat) (hk : k < (LS.all L).length) : ∃ x, LS.get L ((LS.all L).getD k 0) = some x ∧ LS.hasAt L t ((LS.all L).getD k 0 - 1).toNat = (decide (0 < x.ct) && decide (x.ow = t)) ∧ (L.getD ((LS.all L).getD k 0 - 1).toNat zLk) = x ∧ (∃ i : Nat, (LS.all L).getD k 0 = (i : Int) + 1 ∧ i < L.length) := by
  have e : (LS.all L).getD k 0 = (LS.all L)[k] := by simp [List.getD, hk]
  have hm : (LS.all L).getD k 0 ∈ LS.all L := by rw [e]; exact List.getElem_mem _
  obtain ⟨x, hx⟩ := Option.isSome_iff_exists.1 (mem_all.1 hm)
  obtain ⟨i, hi, h1, h2, h3⟩ := get_some hx
  have e2 : ((i : Int) + 1 - 1).toNat = i := by omega
  refine ⟨x, hx, ?_, ?_, i, hi, h1⟩
  · rw [hi, e2]; unfold LS.hasAt; rw [h3]
  · rw [hi, e2]; exact h3

/-! ### Two rows of numbers that grow side by side -/
structure Two (w : World) (B : Nat) (v1 v2 : Value) (l1 l2 : List Int) : Prop where
  o1 : w.ownsRow B 3 1 v1 l1.length (l1.map (Value.int .i64))
  o2 : w.ownsRow B 3 1 v2 l2.length (l2.map (Value.int .i64))
  ne : ∀ g, v1.ownBlock = some g → v2.ownBlock = some g → False
theorem Two.swap {w : World} {B : Nat} {v1 v2 : Value} {l1 l2 : List Int} (h : Two w B v1 v2 l1 l2) : Two w B v2 v1 l2 l1 := ⟨h.o2, h.o1, fun g a b => h.ne g b a⟩
theorem Two.below {w w' : World} {B : Nat} {v1 v2 : Value} {l1 l2 : List Int} (h : Two w B v1 v2 l1 l2) (hb : Below w.heap.size w w') : Two w' B v1 v2 l1 l2 := ⟨own_below h.o1 hb, own_below h.o2 hb, h.ne⟩
theorem row_keep {w w' : World} {v : Value} {base sz n : Nat} {t : TypeId} {xs : List Value} (h : w.ownsRow base t sz v n xs) (hk : ∀ g, v.ownBlock = some g → w'.heap[g]? = w.heap[g]?) : w'.ownsRow base t sz v n xs := by
  obtain ⟨h1, h2⟩ := h
  refine ⟨h1, ?_⟩
  rcases h2 with h2 | ⟨g, cap, cur, rfl, a1, a2, a3⟩
  · exact .inl h2
  · exact .inr ⟨g, cap, cur, rfl, a1, (hk g rfl).trans a2, a3⟩
theorem Two.push {w w' : World} {B g cap : Nat} {v1 v2 : Value} {l1 l2 : List Int} {x : Int} (h : Two w B v1 v2 l1 l2)
    (hown : w'.ownsRow B 3 1 (.slice (some ⟨g, 0, none⟩) (l1.length + 1) cap) (l1.length + 1) (l1.map (Value.int .i64) ++ [.int .i64 x])) (hgr : w.grownBy w' v1.ownBlock) (hat : v1.ownBlock = some g ∨ g = w.heap.size) :
    Two w' B (.slice (some ⟨g, 0, none⟩) (l1.length + 1) cap) v2 (l1 ++ [x]) l2 := by
  refine ⟨by simpa using hown, row_keep h.o2 (fun g' hg' => hgr.block g' (by obtain ⟨_, cs, hb⟩ := own_type h.o2 hg'; exact hb.lt) (fun e => h.ne g' e.symm hg')), ?_⟩
  intro g' h1 h2
  simp only [Value.ownBlock, Option.some.injEq] at h1
  subst h1
  rcases hat with e | e
  · exact h.ne _ e h2
  · obtain ⟨_, cs, hb⟩ := own_type h.o2 h2
    have := hb.lt
    omega
theorem IntsAt.grown {w w' : World} {a : Option Addr} {xs : List Int} {row : Option Nat} (h : IntsAt w a xs) (hg : w.grownBy w' row) (hne : ∀ b off, a = some ⟨b, off, none⟩ → row ≠ some b) : IntsAt w' a xs := fun j hj => by
  obtain ⟨b, off, ha, hlt, hc⟩ := h j hj
  have hb := hg.block b hlt (fun e => hne b off ha e.symm)
  refine ⟨b, off, ha, Nat.lt_of_lt_of_le hlt hg.size, ?_⟩
  rw [← hc]
  unfold World.cell?
  simp only [hb]

/-- Under way: two rows, and the slice that is gone through, all apart. -/
structure LRel (w : World) (B pa mb : Nat) (L : LS) (c t : Int) (a : Option Addr) (v1 v2 : Value) (k : Nat) (wr : World) : Prop where
  two : Two wr B v1 v2 (LS.some L t k) (LS.others L t k)
  ints : IntsAt wr a (LS.all L)
  n1 : ∀ b off, a = some ⟨b, off, none⟩ → v1.ownBlock ≠ some b
  n2 : ∀ b off, a = some ⟨b, off, none⟩ → v2.ownBlock ≠ some b
  at_ : LkAt wr pa mb L c
  bel : Below w.heap.size w wr
  siz : B ≤ wr.heap.size
theorem LRel.below {w wr w' : World} {B pa mb : Nat} {L : LS} {c t : Int} {a : Option Addr} {v1 v2 : Value} {k : Nat} (h : LRel w B pa mb L c t a v1 v2 k wr) (hb : Below wr.heap.size wr w') : LRel w B pa mb L c t a v1 v2 k w' :=
  ⟨h.two.below hb, h.ints.below hb, h.n1, h.n2, h.at_.below hb, h.bel.trans (hb.mono h.bel.size), Nat.le_trans h.siz hb.size⟩
theorem LRel.push1 {w wr w' : World} {B pa mb : Nat} {L : LS} {c t : Int} {b off : Nat} {v1 v2 : Value} {k g cap : Nat} {x : Int} (h : LRel w B pa mb L c t (some ⟨b, off, none⟩) v1 v2 k wr) (hB : w.heap.size ≤ B) (hblt : b < wr.heap.size)
    (hs : LS.some L t (k + 1) = LS.some L t k ++ [x]) (ho : LS.others L t (k + 1) = LS.others L t k)
    (hown : w'.ownsRow B 3 1 (.slice (some ⟨g, 0, none⟩) ((LS.some L t k).length + 1) cap) ((LS.some L t k).length + 1) ((LS.some L t k).map (Value.int .i64) ++ [.int .i64 x])) (hgr : wr.grownBy w' v1.ownBlock) (hat : v1.ownBlock = some g ∨ g = wr.heap.size) :
    LRel w B pa mb L c t (some ⟨b, off, none⟩) (.slice (some ⟨g, 0, none⟩) ((LS.some L t k).length + 1) cap) v2 (k + 1) w' := by
  refine ⟨by rw [hs, ho]; exact h.two.push hown hgr hat, h.ints.grown hgr h.n1, ?_, h.n2, h.at_.grown hgr h.two.o1 (by decide), h.bel.trans ((Keep.ofGrown (X := fun k => k < w.heap.size) hgr (fun g e hx => by have := (own_type h.two.o1 e).1; omega)).toBelow (fun k hk => hk) h.bel.size), Nat.le_trans h.siz hgr.size⟩
  intro b' off' e hv
  injection e with e
  injection e with e1 _
  subst e1
  simp only [Value.ownBlock, Option.some.injEq] at hv
  subst hv
  rcases hat with e | e
  · exact h.n1 _ _ rfl e
  · omega
theorem LRel.push2 {w wr w' : World} {B pa mb : Nat} {L : LS} {c t : Int} {b off : Nat} {v1 v2 : Value} {k g cap : Nat} {x : Int} (h : LRel w B pa mb L c t (some ⟨b, off, none⟩) v1 v2 k wr) (hB : w.heap.size ≤ B) (hblt : b < wr.heap.size)
    (hs : LS.some L t (k + 1) = LS.some L t k) (ho : LS.others L t (k + 1) = LS.others L t k ++ [x])
    (hown : w'.ownsRow B 3 1 (.slice (some ⟨g, 0, none⟩) ((LS.others L t k).length + 1) cap) ((LS.others L t k).length + 1) ((LS.others L t k).map (Value.int .i64) ++ [.int .i64 x])) (hgr : wr.grownBy w' v2.ownBlock) (hat : v2.ownBlock = some g ∨ g = wr.heap.size) :
    LRel w B pa mb L c t (some ⟨b, off, none⟩) v1 (.slice (some ⟨g, 0, none⟩) ((LS.others L t k).length + 1) cap) (k + 1) w' := by
  refine ⟨by rw [hs, ho]; exact (h.two.swap.push hown hgr hat).swap, h.ints.grown hgr h.n2, h.n1, ?_, h.at_.grown hgr h.two.o2 (by decide), h.bel.trans ((Keep.ofGrown (X := fun k => k < w.heap.size) hgr (fun g e hx => by have := (own_type h.two.o2 e).1; omega)).toBelow (fun k hk => hk) h.bel.size), Nat.le_trans h.siz hgr.size⟩
  intro b' off' e hv
  injection e with e
  injection e with e1 _
  subst e1
  simp only [Value.ownBlock, Option.some.injEq] at hv
  subst hv
  rcases hat with e | e
  · exact h.n2 _ _ rfl e
  · omega
theorem LRel.stay {w wr : World} {B pa mb : Nat} {L : LS} {c t : Int} {a : Option Addr} {v1 v2 : Value} {k : Nat} (h : LRel w B pa mb L c t a v1 v2 k wr) (hs : LS.some L t (k + 1) = LS.some L t k) (ho : LS.others L t (k + 1) = LS.others L t k) : LRel w B pa mb L c t a v1 v2 (k + 1) wr :=
  ⟨by rw [hs, ho]; exact h.two, h.ints, h.n1, h.n2, h.at_, h.bel, h.siz⟩
end Go.Proofs.Ytbfnadpkgiglmaa
