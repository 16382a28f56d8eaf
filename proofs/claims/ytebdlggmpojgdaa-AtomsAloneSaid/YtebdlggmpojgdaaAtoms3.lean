/-
  Package atoms, plain: a step leaves the operations right; a put that succeeds. Condition: there is room for a block.
-/
import Derived.Test.YtebdlggmpojgdaaAtoms2
namespace Go.Proofs.Ytebdlggmpojgdaa
open Go.RowKit Go.Maps
set_option linter.unusedVariables false

section
variable {A A' : AS} {T T' : TS} {P : List Int} {m : Int} {o o' : OS}
theorem OpInv.mk10 (hl : 0 ≤ o.list ∧ o.list < T.lists) (hh : o.head = 0 ∨ o.head ∈ P) (hn : o.next = 10) : OpInv A T P o :=
  ⟨by omega, hl, by omega, hh, by omega, fun _ _ h => by omega, fun h => by omega, fun _ h => by omega, by omega⟩
theorem OpInv.fin (h : OpInv A T P o) (h9 : o.next ≤ 9) (id err : Int) : OpInv A T P (o.fin id err) := by
  unfold OS.fin
  by_cases hb : o.block = 0
  · simp only [hb, if_true]
    exact OpInv.mk10 h.list h.head rfl
  · simp only [hb, if_false]
    exact ⟨by simp, h.list, by simp, h.head, by simp, fun a b c => ⟨(h.own a b h9).1, (h.own a b h9).2.1, by
      obtain ⟨_, _, c, e, _⟩ := h.own a b h9
      exact ⟨c, e, by simp⟩⟩, fun _ => h.none h9, fun _ _ => hb, by simp⟩
/-- Another phase that is neither a walk nor a use of the block. -/
theorem OpInv.go (h : OpInv A T P o) (h9 : o.next ≤ 9) {n : Nat} {at_ past head : Int} (hn : n ≤ 7) (hh : head = 0 ∨ head ∈ P) (h5 : n = 5 → at_ ∈ P) (h23 : n ≠ 2 ∧ n ≠ 3) (h7 : n = 7 → o.block ≠ 0) (h6 : n = 0 ∨ n = 6 → o.block = 0) :
    OpInv A T P { o with next := n, at_ := at_, past := past, head := head } := by
  refine ⟨by dsimp only; omega, h.list, by dsimp only; omega, hh, h5, fun a b c => ⟨(h.own a b h9).1, (h.own a b h9).2.1, ?_⟩, fun _ => h.none h9, fun a b => h7 (by dsimp only at a; omega), h6⟩
  obtain ⟨_, _, c, e, _⟩ := h.own a b h9
  exact ⟨c, e, by dsimp only; omega⟩
theorem OpInv.decide (h : OpInv A T P o) (h9 : o.next ≤ 9) {head past at_ : Int} (hh : head = 0 ∨ head ∈ P) : OpInv A T P ({ o with head := head, past := past, at_ := at_, next := 4 }.decide T) := by
  have h4 : OpInv A T P { o with next := 4, at_ := at_, past := past, head := head } := h.go h9 (by omega) hh (by omega) (by omega) (by omega) (by omega)
  unfold OS.decide
  split
  · exact h4.fin (by simp) _ _
  split
  · exact h4.fin (by simp) _ _
  split
  · rename_i hb
    exact h4.go (by simp) (by omega) hh (by omega) (by omega) (by omega) (fun _ => hb)
  · rename_i hb
    exact h4.go (by simp) (by omega) hh (by omega) (by omega) (fun _ => hb) (by omega)
theorem decide_next (o : OS) (T : TS) (n : Nat) : ({ o with next := n } : OS).decide T = o.decide T := by
  unfold OS.decide OS.fin; rfl
theorem OpInv.look (h : OpInv A T P o) (h9 : o.next ≤ 9) {x : Int} (hx : x = 0 ∨ x ∈ P) : OpInv A T P (o.look T x) := by
  unfold OS.look
  split
  · have := h.decide (head := o.head) (past := o.head) (at_ := x) h9 h.head
    show OpInv A T P (({ o with at_ := x, past := o.head } : OS).decide T)
    rw [← decide_next _ T 4]
    exact this
  · rename_i hn
    have hxP : x ∈ P := by
      rcases hx with e | e
      · exact absurd (.inl e) hn
      · exact e
    split
    · have h4 : OpInv A T P { o with next := 4, at_ := x, past := o.past, head := o.head } := h.go h9 (by omega) h.head (by omega) (by omega) (by omega) (by omega)
      exact h4.fin (by simp) _ _
    · exact h.go h9 (by omega) h.head (fun _ => hxP) (by omega) (by omega) (by omega)
/-- The operation behind its own step, if that isn't a put that succeeds. -/
theorem OpInv.step (h : LInv A T P m) (hok : A.Ok) (ho : OpInv A T P o) (hn : ¬ (o.next = 8 ∧ o.seen = m)) (h10 : o.next < 10) (hr : A.allocErr 1 = 0) : OpInv (stepA A T o) (stepT A T o) P (stepO A T o) := by
  obtain ⟨s1, s2⟩ := stepT_same A T o
  have h9 : o.next ≤ 9 := by omega
  have hc : o.next = 0 ∨ o.next = 1 ∨ o.next = 2 ∨ o.next = 3 ∨ o.next = 4 ∨ o.next = 5 ∨ o.next = 6 ∨ o.next = 7 ∨ o.next = 8 ∨ o.next = 9 := by omega
  rcases hc with e | e | e | e | e | e | e | e | e | e
  · have eA : stepA A T o = A := by unfold stepA; rw [e] <;> rfl
    have eO : stepO A T o = o.fin 0 2 := by unfold stepO; rw [e] <;> rfl
    rw [eO, eA]
    exact (ho.fin h9 0 2).frame s1 s2 (fun _ _ _ => rfl)
  · have eA : stepA A T o = A := by unfold stepA; rw [e] <;> rfl
    have eO : stepO A T o = { o with seen := m, next := if mNew m = 0 then 4 else 2 } := by unfold stepO; rw [e]; simp only [h.mark]
    rw [eO, eA]
    refine OpInv.frame (A := A) (T := T) ?_ s1 s2 (fun _ _ _ => rfl)
    have hP : mNew m ≠ 0 → mNew m ∈ P := by
      rw [h.new]
      cases P with
      | nil => intro h0; exact absurd rfl h0
      | cons p l => intro _; simp
    refine ⟨by dsimp only; split <;> omega, ho.list, fun a b => hP (fun e0 => by dsimp only at b; rw [if_pos e0] at b; omega), ho.head, fun e5 => by dsimp only at e5; split at e5 <;> omega, fun a b c => ⟨(ho.own a b h9).1, (ho.own a b h9).2.1, ?_⟩, fun _ => ho.none h9, fun e7 _ => by dsimp only at e7; split at e7 <;> omega, fun e6 => by dsimp only at e6; split at e6 <;> omega⟩
    obtain ⟨_, _, c, ec, _⟩ := ho.own a b h9
    exact ⟨c, ec, fun e8 => by dsimp only at e8; split at e8 <;> omega⟩
  · have eA : stepA A T o = A := by unfold stepA; rw [e] <;> rfl
    have eO : stepO A T o = { o with behind := A.val (mNew o.seen) 0, next := 3 } := by unfold stepO; rw [e] <;> rfl
    rw [eO, eA]
    refine OpInv.frame (A := A) (T := T) ?_ s1 s2 (fun _ _ _ => rfl)
    refine ⟨by simp, ho.list, fun _ _ => ho.seen (by omega) (by omega), ho.head, by simp, fun a b c => ⟨(ho.own a b h9).1, (ho.own a b h9).2.1, ?_⟩, fun _ => ho.none h9, by simp, by simp⟩
    obtain ⟨_, _, c, ec, _⟩ := ho.own a b h9
    exact ⟨c, ec, by simp⟩
  · have eA : stepA A T o = A.swapAt T.first (1 + T.list (T.name (mNew o.seen))) o.behind (mNew o.seen) := by unfold stepA; rw [e] <;> rfl
    have eO : stepO A T o = { o with next := 4 } := by unfold stepO; rw [e] <;> rfl
    rw [eO, eA]
    have h4 : OpInv A T P { o with next := 4, at_ := o.at_, past := o.past, head := o.head } := ho.go h9 (by omega) ho.head (by omega) (by omega) (by omega) (by omega)
    refine h4.frame s1 s2 (fun a b _ => ?_)
    unfold AS.swapAt
    split
    · rfl
    · split
      · exact look_set' _ _ _ (ho.own a b h9).2.1
      · rfl
  · have eA : stepA A T o = A := by unfold stepA; rw [e] <;> rfl
    have eO : stepO A T o = { o with head := A.val T.first (1 + o.list) }.look T (A.val T.first (1 + o.list)) := by unfold stepO; rw [e] <;> rfl
    rw [eO, eA]
    have hh := h.head ho.list.1 ho.list.2
    have h4 : OpInv A T P { o with next := 4, at_ := o.at_, past := o.past, head := A.val T.first (1 + o.list) } := ho.go h9 (by omega) hh (by omega) (by omega) (by omega) (by omega)
    have e4 : ({ o with next := 4, at_ := o.at_, past := o.past, head := A.val T.first (1 + o.list) } : OS) = { o with head := A.val T.first (1 + o.list) } := by rw [← e]
    rw [e4] at h4
    exact (h4.look h9 hh).frame s1 s2 (fun _ _ _ => rfl)
  · have eA : stepA A T o = A := by unfold stepA; rw [e] <;> rfl
    have eO : stepO A T o = o.look T (A.val o.at_ 0) := by unfold stepO; rw [e] <;> rfl
    rw [eO, eA]
    exact (ho.look h9 ((h.behind (ho.at_ e)).imp id (·.1))).frame s1 s2 (fun _ _ _ => rfl)
  · have eA : stepA A T o = A.alloc 1 := by
      have : stepA A T o = A.allocAt 1 := by unfold stepA; rw [e] <;> rfl
      rw [this]; unfold AS.allocAt; rw [if_pos hr]; rfl
    have eO : stepO A T o = { o with block := A.made + 1, next := 7 } := by unfold stepO; rw [e]; simp [hr, AS.allocNo]
    rw [eO, eA]
    have hm0 := hok.made0
    have hnP : A.made + 1 ∉ P := fun hb => h.live hok hb rfl
    refine ⟨by simp, by rw [s2]; exact ho.list, by simp, ho.head, by simp, fun _ _ _ => ⟨by dsimp only; omega, by rw [s1]; exact fun e => h.first_live hok e.symm, 0, ?_, by simp⟩, fun _ => .inr hnP, fun _ _ => by dsimp only; omega, by simp⟩
    show Go.Proofs.Ytebdlggmpojgdaa.look ((A.made + 1, List.replicate 1 0) :: A.bl) (A.made + 1) = _
    rw [look_cons, if_pos rfl]; rfl
  · have hb0 := ho.has (by omega) h9
    have hbP : o.block ∉ P := (ho.none h9).resolve_left hb0
    obtain ⟨hpos, hbf, c, ec, _⟩ := ho.own hb0 hbP h9
    have eA : stepA A T o = A.set o.block [o.head] := by
      have : stepA A T o = A.storeAt o.block 0 o.head := by unfold stepA; rw [e] <;> rfl
      rw [this]; unfold AS.storeAt; rw [ec]; simp
    have eO : stepO A T o = { o with next := 8 } := by unfold stepO; rw [e] <;> rfl
    rw [eO, eA]
    exact ⟨by simp, by rw [s2]; exact ho.list, by simp, ho.head, by simp, fun _ _ _ => ⟨hpos, by rw [s1]; exact hbf, o.head, look_set_self A _ ec, fun _ => rfl⟩, fun _ => .inr hbP, fun _ _ => hb0, by simp⟩
  · have hs : ¬ m = o.seen := fun e' => hn ⟨e, e'.symm⟩
    have eA : stepA A T o = A := by
      obtain ⟨hs', el, _⟩ := h.fst
      have : stepA A T o = A.swapAt T.first 0 o.seen (mWith o.seen o.block) := by unfold stepA; rw [e] <;> rfl
      rw [this]; unfold AS.swapAt; rw [el]
      simp [hs]
    have eO : stepO A T o = { o with next := 1 } := by unfold stepO; rw [e]; simp [h.mark, hs]
    rw [eO, eA]
    have h1 : OpInv A T P { o with next := 1, at_ := o.at_, past := o.past, head := o.head } := ho.go h9 (by omega) ho.head (by omega) (by omega) (by omega) (by omega)
    exact h1.frame s1 s2 (fun _ _ _ => rfl)
  · have eO : stepO A T o = { o with next := 10 } := by unfold stepO; rw [e] <;> rfl
    rw [eO]
    exact OpInv.mk10 (by rw [s2]; exact ho.list) ho.head rfl
/-- A put that succeeds. -/
theorem LInv.putS (h : LInv A T P m) (hok : A.Ok) (ho : OpInv A T P o) (h8 : o.next = 8) (hs : o.seen = m) (hm : A.made < 281474976710656) :
    stepT A T o = T ∧ stepO A T o = { o with id := o.block, next := 10 } ∧ LInv (stepA A T o) T (o.block :: P) (mWith m o.block) ∧ (∀ b, b ≠ T.first → Go.Proofs.Ytebdlggmpojgdaa.look (stepA A T o).bl b = Go.Proofs.Ytebdlggmpojgdaa.look A.bl b) ∧ AS.made (stepA A T o) = A.made := by
  have hb0 := ho.has (by omega) (by omega)
  have hbP : o.block ∉ P := (ho.none (by omega)).resolve_left hb0
  obtain ⟨hpos, hbf, c, ec, hc⟩ := ho.own hb0 hbP (by omega)
  obtain rfl := hc h8
  obtain ⟨hs', el, hl, hh⟩ := h.fst
  have eT : stepT A T o = T := by unfold stepT; rw [h8] <;> rfl
  have eO : stepO A T o = { o with id := o.block, next := 10 } := by unfold stepO; rw [h8]; simp [h.mark, hs]
  have eA : stepA A T o = A.set T.first (mWith m o.block :: hs') := by
    have : stepA A T o = A.swapAt T.first 0 o.seen (mWith o.seen o.block) := by unfold stepA; rw [h8] <;> rfl
    rw [this, hs]; unfold AS.swapAt; rw [el]
    simp
  have hk := hok.key ec
  have hfr : ∀ b, b ≠ T.first → Go.Proofs.Ytebdlggmpojgdaa.look (A.set T.first (mWith m o.block :: hs')).bl b = Go.Proofs.Ytebdlggmpojgdaa.look A.bl b := fun b hb => look_set' A _ _ hb
  rw [eA]
  refine ⟨eT, eO, ⟨⟨hs', look_set_self A _ el, hl, fun x hx => (hh x hx).imp id (fun h => List.mem_cons_of_mem _ h)⟩, ?_, ?_, ?_, List.nodup_cons.2 ⟨hbP, h.nod⟩, h.one⟩, hfr, rfl⟩
  · rw [mCnt_with (by omega) (by omega), h.cnt]; simp
  · rw [mNew_with (by omega) (by omega)]; simp
  · intro b hb
    rcases List.mem_cons.1 hb with rfl | hb
    · refine ⟨hpos, hbf, o.head, by rw [hfr _ hbf]; exact ec, ho.head.imp id (fun hh => ⟨List.mem_cons_of_mem _ hh, ?_⟩)⟩
      rw [rank_cons (p := o.block) (b := o.head) (fun e => hbP (by rw [e]; exact hh))]
      have := rank_le P o.head
      rw [rank, if_pos rfl]; omega
    · obtain ⟨p1, p2, nx, en, hx⟩ := h.put b hb
      refine ⟨p1, p2, nx, by rw [hfr _ p2]; exact en, hx.imp id (fun hx => ⟨List.mem_cons_of_mem _ hx.1, ?_⟩)⟩
      rw [rank_cons (p := o.block) (b := nx) (fun e => hbP (by rw [e]; exact hx.1)), rank_cons (p := o.block) (b := b) (fun e => hbP (by rw [e]; exact hb))]
      exact hx.2
/-- Another operation behind a put that succeeds. -/
theorem OpInv.put (ho' : OpInv A T P o') {b : Int} (hne : o'.next ≤ 9 → o'.block ≠ 0 → o'.block ≠ b) (hfr : ∀ b, b ≠ T.first → Go.Proofs.Ytebdlggmpojgdaa.look A'.bl b = Go.Proofs.Ytebdlggmpojgdaa.look A.bl b) : OpInv A' T (b :: P) o' := by
  refine ⟨ho'.le, ho'.list, fun a c => List.mem_cons_of_mem _ (ho'.seen a c), ho'.head.imp id (fun h => List.mem_cons_of_mem _ h), fun e => List.mem_cons_of_mem _ (ho'.at_ e), fun a c d => ?_, fun h9 => ?_, ho'.has, ho'.hasnt⟩
  · have hP : o'.block ∉ P := fun h => c (List.mem_cons_of_mem _ h)
    obtain ⟨q1, q2, q3⟩ := ho'.own a hP d
    rw [hfr _ q2]
    exact ⟨q1, q2, q3⟩
  · by_cases h0 : o'.block = 0
    · exact .inl h0
    · right
      rw [List.mem_cons, not_or]
      exact ⟨hne h9 h0, (ho'.none h9).resolve_left h0⟩
end
end Go.Proofs.Ytebdlggmpojgdaa
