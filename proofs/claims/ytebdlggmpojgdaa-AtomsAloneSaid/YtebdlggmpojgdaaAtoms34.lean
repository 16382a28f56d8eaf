/-
  Package atoms, plain: an operation alone, step by step: what it knows, and what comes of it. Conditions: a table with this operation under way, and room.
-/
import Derived.Test.YtebdlggmpojgdaaAtoms33
namespace Go.Proofs.Ytebdlggmpojgdaa
open Go.RowKit Go.Maps
set_option linter.unusedVariables false

section
variable {A A' : AS} {T T' : TS} {P P0 : List Int} {m : Int} {o : OS} {os : List OS} {B i : Nat} {M : Int} {n : List UInt8} {N0 : Int → List UInt8} {hg : Bool}
/-- The name isn't there, as the operation knows. -/
structure NewQ (A : AS) (T : TS) (P : List Int) (m : Int) (o : OS) (n : List UInt8) (hg : Bool) : Prop where
  seen : o.seen = m
  hg : hg = true
  head : o.head = A.val T.first (1 + o.list)
  few : (P.length : Int) < T.most
  non : ∀ p ∈ P, T.name p ≠ n
/-- The block is the operation's own, and has its name. -/
structure MineQ (T : TS) (P : List Int) (o : OS) (n : List UInt8) : Prop where
  name : T.name o.block = n
  has : T.has o.block = true
  out : o.block ∉ P
def PhQ (A : AS) (T : TS) (P : List Int) (m : Int) (o : OS) (n : List UInt8) (hg : Bool) : Prop :=
  (o.next = 0 ∧ o.block = 0) ∨ (o.next = 1 ∧ o.block = 0) ∨ (o.next = 2 ∧ o.block = 0 ∧ o.seen = m ∧ P ≠ []) ∨ (o.next = 3 ∧ o.block = 0 ∧ o.seen = m ∧ P ≠ [] ∧ o.behind = A.val (mNew m) 0) ∨
  (o.next = 4 ∧ o.block = 0 ∧ o.seen = m ∧ hg = true) ∨
  (o.next = 5 ∧ o.block = 0 ∧ o.seen = m ∧ hg = true ∧ o.head = A.val T.first (1 + o.list) ∧ ∃ pre post, Chn A (A.val T.first (1 + o.list)) (pre ++ o.at_ :: post) ∧ ∀ p ∈ pre ++ [o.at_], T.name p ≠ n) ∨
  (o.next = 6 ∧ o.block = 0 ∧ NewQ A T P m o n hg) ∨ (o.next = 7 ∧ NewQ A T P m o n hg ∧ MineQ T P o n) ∨ (o.next = 8 ∧ NewQ A T P m o n hg ∧ MineQ T P o n ∧ A.val o.block 0 = o.head)
structure SQ (A : AS) (T : TS) (P : List Int) (m : Int) (o : OS) (n : List UInt8) (N0 : Int → List UInt8) (hg : Bool) : Prop where
  s : SInv A T P hg
  kp : ∀ p ∈ P, T.name p = N0 p
  fu : o.full = false
  pa : o.next ≤ 5 → o.past = 0
  er : o.err = 0
  lg : (o.next = 0 ∧ 64 < n.length) ∨ (o.next ≠ 0 ∧ n.length ≤ 64 ∧ o.name = n ∧ o.list = T.list n)
  ph : PhQ A T P m o n hg
/-- What came of it. -/
def ResQ (A : AS) (T : TS) (P : List Int) (o : OS) (n : List UInt8) (P0 : List Int) (N0 : Int → List UInt8) : Prop :=
  ∃ hg, SInv A T P hg ∧ (∀ p ∈ P0, T.name p = N0 p) ∧ ((64 < n.length ∧ P = P0 ∧ o.err = 2 ∧ o.id = 0) ∨
    (n.length ≤ 64 ∧ ((P = P0 ∧ o.err = 0 ∧ o.id ∈ P0 ∧ N0 o.id = n) ∨ (P = P0 ∧ o.err = 3 ∧ o.id = 0 ∧ T.most ≤ P0.length ∧ ∀ p ∈ P0, N0 p ≠ n) ∨
      (P = o.id :: P0 ∧ o.err = 0 ∧ T.name o.id = n ∧ (P0.length : Int) < T.most ∧ ∀ p ∈ P0, N0 p ≠ n))))
theorem fin0 (h : o.block = 0) (id err : Int) : o.fin id err = { o with id := id, err := err, next := 10 } := by unfold OS.fin; rw [if_pos h]
/-- Looking at the end of a list in which the name isn't. -/
theorem SQ.decide_ (hl : LInv A T P m) (s : SInv A T P true) (kp : ∀ p ∈ P, T.name p = N0 p) (hb : o.block = 0) (hs : o.seen = m) (hf : o.full = false) (he : o.err = 0) (hn : n.length ≤ 64) (hnm : o.name = n) (hli : o.list = T.list n)
    (hh : o.head = A.val T.first (1 + o.list)) (hnon : ∀ p ∈ P, T.name p ≠ n) :
    (∃ hg', SQ A T P m (o.decide T) n N0 hg') ∨ ((o.decide T).next = 10 ∧ ResQ A T P (o.decide T) n P N0) := by
  have hc := hl.cnt
  unfold OS.decide
  rw [hs, hc]
  by_cases hm : T.most ≤ (P.length : Int)
  · rw [if_pos hm, fin0 hb]
    exact .inr ⟨rfl, true, s, kp, .inr ⟨hn, .inr (.inl ⟨rfl, rfl, rfl, hm, fun p hp => by rw [← kp p hp]; exact hnon p hp⟩)⟩⟩
  · rw [if_neg hm, if_neg (by simp [hf]), if_pos hb]
    exact .inl ⟨true, s, kp, hf, by simp, he, .inr ⟨by simp, hn, hnm, hli⟩, .inr (.inr (.inr (.inr (.inr (.inr (.inl ⟨rfl, hb, rfl, rfl, hh, by omega, hnon⟩))))))⟩
/-- Looking at the next block of a list. -/
theorem SQ.look_ (hl : LInv A T P m) (s : SInv A T P true) (kp : ∀ p ∈ P, T.name p = N0 p) (hb : o.block = 0) (hs : o.seen = m) (hf : o.full = false) (he : o.err = 0) (hn : n.length ≤ 64) (hnm : o.name = n) (hli : o.list = T.list n)
    (hh : o.head = A.val T.first (1 + o.list)) (hp : o.past = 0) {pre post : List Int} {x : Int} (hc : Chn A (A.val T.first (1 + o.list)) (pre ++ post)) (hx : Chn A x post) (hpre : ∀ p ∈ pre, T.name p ≠ n) :
    (∃ hg', SQ A T P m (o.look T x) n N0 hg') ∨ ((o.look T x).next = 10 ∧ ResQ A T P (o.look T x) n P N0) := by
  have hlr := T.list_range' hl.one n
  rw [← hli] at hlr
  have hin : ∀ p ∈ pre ++ post, p ∈ P := fun p hp => s.mem hlr.1 hlr.2 hc hp
  unfold OS.look
  cases post with
  | nil =>
    have hx0 : x = 0 := hx
    rw [if_pos (.inl hx0)]
    refine SQ.decide_ (o := { o with at_ := x, past := o.head }) hl s kp hb hs hf he hn hnm hli hh (fun p hpP e => ?_)
    obtain ⟨c, hc', hm⟩ := s.chn o.list hlr.1 hlr.2
    have : p ∈ c := (hm p).2 ⟨by simpa using hpP, by rw [e]; exact hli.symm⟩
    rw [← hc.det hc'] at this
    simp at this
    exact hpre p this e
  | cons y post =>
    obtain ⟨rfl, h0, h3⟩ := hx
    rw [if_neg (by rw [hp]; simp [h0])]
    by_cases hy : T.name x = n
    · rw [if_pos (hy.trans hnm.symm), fin0 (o := { o with at_ := x }) hb]
      have hxP := hin x (by simp)
      exact .inr ⟨rfl, true, s, kp, .inr ⟨hn, .inl ⟨rfl, rfl, hxP, by rw [← kp x hxP]; exact hy⟩⟩⟩
    · rw [if_neg (fun e => hy (e.trans hnm))]
      refine .inl ⟨true, s, kp, hf, fun _ => hp, he, .inr ⟨by simp, hn, hnm, hli⟩, .inr (.inr (.inr (.inr (.inr (.inl ⟨rfl, hb, hs, rfl, hh, pre, post, hc, fun p hpp => ?_⟩)))))⟩
      rcases List.mem_append.1 hpp with hpp | hpp
      · exact hpre p hpp
      · obtain rfl : p = x := by simpa using hpp
        exact hy
/-- The newest block is hung. -/
theorem SInv.hang (hl : LInv A T P m) (s : SInv A T P hg) {p0 : Int} {P1 : List Int} (hP : P = p0 :: P1) :
    SInv (A.swapAt T.first (1 + T.list (T.name p0)) (A.val p0 0) p0) T P true := by
  obtain ⟨hs, el, hll, _⟩ := hl.fst
  have hlr := T.list_range' hl.one (T.name p0)
  have hp0 : p0 ∈ P := by rw [hP]; simp
  have hne : ∀ p ∈ P, p ≠ T.first := fun p hp => (hl.put p hp).2.1
  have hpos : p0 ≠ 0 := by have := (hl.put p0 hp0).1; omega
  generalize hl0 : T.list (T.name p0) = l0 at hlr
  have hv : ∀ p ∈ P, (A.swapAt T.first (1 + l0) (A.val p0 0) p0).val p 0 = A.val p 0 := fun p hp => swap_other (hne p hp) 0 (by rw [el]; rfl)
  have hfv : ∀ l, 0 ≤ l → l < T.lists → (A.swapAt T.first (1 + l0) (A.val p0 0) p0).val T.first (1 + l) = if 1 + l = 1 + l0 ∧ A.val T.first (1 + l0) = A.val p0 0 then p0 else A.val T.first (1 + l) := fun l h0 h1 =>
    swap_first el (by omega) (by simp; omega) (by omega) (by simp; omega)
  cases hg with
  | true =>
    obtain ⟨c, hc, hm⟩ := s.chn l0 hlr.1 hlr.2
    have hin : p0 ∈ c := (hm p0).2 ⟨by simpa using hp0, hl0⟩
    have hnb := hc.no_back hin
    refine s.frame hv (fun l h0 h1 => ?_) rfl rfl (fun p _ => ⟨rfl, rfl⟩) hl.one
    rw [hfv l h0 h1, if_neg (fun e => hnb e.2.symm)]
  | false =>
    have hnx := s.nx rfl p0 (by rw [hP]; rfl)
    rw [hl0] at hnx
    have hnin : p0 ∉ P1 := by have := hl.nod; rw [hP] at this; exact (List.nodup_cons.1 this).1
    refine ⟨s.has, s.dis, fun l h0 h1 => ?_, fun e => by cases e⟩
    obtain ⟨c, hc, hm⟩ := s.chn l h0 h1
    have hcin : ∀ p ∈ c, p ∈ P := fun p hp => s.mem h0 h1 hc hp
    have hc' : Chn (A.swapAt T.first (1 + l0) (A.val p0 0) p0) (A.val T.first (1 + l)) c := hc.congr (fun p hp => hv p (hcin p hp))
    rw [hfv l h0 h1]
    by_cases hll0 : l = l0
    · subst hll0
      rw [if_pos ⟨rfl, hnx.symm⟩]
      have h2 := (hv p0 hp0).trans hnx
      refine ⟨p0 :: c, ⟨rfl, hpos, by rw [h2]; exact hc'⟩, fun p => ?_⟩
      rw [List.mem_cons, hm p, hP]
      simp only [if_true, List.tail_cons, List.mem_cons]
      constructor
      · rintro (rfl | ⟨h1, h2⟩)
        · exact ⟨.inl rfl, hl0⟩
        · exact ⟨.inr (by simpa using h1), h2⟩
      · rintro ⟨rfl | h1, h2⟩
        · exact .inl rfl
        · exact .inr ⟨by simpa using h1, h2⟩
    · rw [if_neg (fun e => hll0 (by omega))]
      refine ⟨c, hc', fun p => ?_⟩
      rw [hm p, hP]
      simp only [if_true, List.tail_cons, List.mem_cons]
      constructor
      · rintro ⟨h1, h2⟩
        exact ⟨.inr (by simpa using h1), h2⟩
      · rintro ⟨rfl | h1, h2⟩
        · exact absurd (h2.symm.trans hl0) hll0
        · exact ⟨by simpa using h1, h2⟩
end
end Go.Proofs.Ytebdlggmpojgdaa
