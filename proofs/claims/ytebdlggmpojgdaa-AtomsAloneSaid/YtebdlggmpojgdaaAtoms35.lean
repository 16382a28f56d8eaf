/-
  Package atoms, plain: a step of an operation alone keeps what it knows, or ends it as it should. Conditions: as in YtebdlggmpojgdaaAtoms34.
-/
import Derived.Test.YtebdlggmpojgdaaAtoms34
namespace Go.Proofs.Ytebdlggmpojgdaa
open Go.RowKit Go.Maps
set_option linter.unusedVariables false

section
variable {A A' : AS} {T T' : TS} {P P0 : List Int} {m : Int} {o : OS} {os : List OS} {B i : Nat} {M : Int} {n : List UInt8} {N0 : Int → List UInt8} {hg : Bool}
theorem SQ.step (h : AInv A T P m [o] B M) (hM : (B : Int) + 1 < M) (hmade : A.made < 281474976710656) (q : SQ A T P m o n N0 hg) (h10 : o.next < 10) :
    (¬ (o.next = 8 ∧ o.seen = m) ∧ ∃ hg', SQ (stepA A T o) (stepT A T o) P m (stepO A T o) n N0 hg') ∨
    ((stepO A T o).next = 10 ∧ ResQ (stepA A T o) (stepT A T o) (if o.next = 8 ∧ o.seen = m then o.block :: P else P) (stepO A T o) n P N0) := by
  have hl := h.lst
  have ho := h.ops 0 o (by simp)
  obtain ⟨s, kp, fu, pa, er, lg, ph⟩ := q
  have quiet : ∀ {k : Nat}, o.next = k → k ≠ 8 → (¬ (o.next = 8 ∧ o.seen = m) ∧ (if o.next = 8 ∧ o.seen = m then o.block :: P else P) = P) := fun {k} e hk => by
    have : ¬ (o.next = 8 ∧ o.seen = m) := fun hh => hk (e.symm.trans hh.1)
    exact ⟨this, if_neg this⟩
  rcases ph with ⟨e, hb⟩ | ⟨e, hb⟩ | ⟨e, hb, hs, hP⟩ | ⟨e, hb, hs, hP, hbh⟩ | ⟨e, hb, hs, hgt⟩ | ⟨e, hb, hs, hgt, hh, pre, post, hc, hpre⟩ | ⟨e, hb, hq⟩ | ⟨e, hq, hm⟩ | ⟨e, hq, hm, hv⟩
  · obtain ⟨z1, z2⟩ := quiet e (by decide)
    have eA : stepA A T o = A := by unfold stepA; rw [e] <;> rfl
    have eT : stepT A T o = T := by unfold stepT; rw [e] <;> rfl
    have eO : stepO A T o = o.fin 0 2 := by unfold stepO; rw [e] <;> rfl
    rw [eA, eT, eO, z2, fin0 hb]
    exact .inr ⟨rfl, hg, s, kp, .inl ⟨(lg.resolve_right (fun hh => hh.1 e)).2, rfl, rfl, rfl⟩⟩
  · obtain ⟨z1, z2⟩ := quiet e (by decide)
    have eA : stepA A T o = A := by unfold stepA; rw [e] <;> rfl
    have eT : stepT A T o = T := by unfold stepT; rw [e] <;> rfl
    have eO : stepO A T o = { o with seen := m, next := if mNew m = 0 then 4 else 2 } := by unfold stepO; rw [e]; simp only [hl.mark]
    obtain ⟨_, g2, g3, g4⟩ := lg.resolve_left (fun hh => by omega)
    have hp0 := pa (by omega)
    rw [eA, eT, eO]
    refine .inl ⟨z1, ?_⟩
    cases hPc : P with
    | nil =>
      have h0 : mNew m = 0 := by rw [hl.new, hPc]; rfl
      rw [if_pos h0]
      rw [hPc] at s
      exact ⟨true, s.empty, by simp, fu, fun _ => hp0, er, .inr ⟨by simp, g2, g3, g4⟩, .inr (.inr (.inr (.inr (.inl ⟨rfl, hb, rfl, rfl⟩))))⟩
    | cons p P1 =>
      have h0 : mNew m ≠ 0 := by
        rw [hl.new, hPc]
        have := (hl.put p (by rw [hPc]; simp)).1
        simp; omega
      rw [if_neg h0, ← hPc]
      exact ⟨hg, s, kp, fu, fun _ => hp0, er, .inr ⟨by simp, g2, g3, g4⟩, .inr (.inr (.inl ⟨rfl, hb, rfl, by rw [hPc]; simp⟩))⟩
  · obtain ⟨z1, z2⟩ := quiet e (by decide)
    have eA : stepA A T o = A := by unfold stepA; rw [e] <;> rfl
    have eT : stepT A T o = T := by unfold stepT; rw [e] <;> rfl
    have eO : stepO A T o = { o with behind := A.val (mNew o.seen) 0, next := 3 } := by unfold stepO; rw [e] <;> rfl
    obtain ⟨_, g2, g3, g4⟩ := lg.resolve_left (fun hh => by omega)
    have hp0 := pa (by omega)
    rw [eA, eT, eO]
    exact .inl ⟨z1, hg, s, kp, fu, fun _ => hp0, er, .inr ⟨by simp, g2, g3, g4⟩, .inr (.inr (.inr (.inl ⟨rfl, hb, hs, hP, by rw [← hs]⟩)))⟩
  · obtain ⟨z1, z2⟩ := quiet e (by decide)
    have eT : stepT A T o = T := by unfold stepT; rw [e] <;> rfl
    have eO : stepO A T o = { o with next := 4 } := by unfold stepO; rw [e] <;> rfl
    have eA : stepA A T o = A.swapAt T.first (1 + T.list (T.name (mNew m))) (A.val (mNew m) 0) (mNew m) := by unfold stepA; rw [e]; simp only [hs, hbh]
    obtain ⟨_, g2, g3, g4⟩ := lg.resolve_left (fun hh => by omega)
    have hp0 := pa (by omega)
    cases hPc : P with
    | nil => exact absurd hPc hP
    | cons p P1 =>
      have hm0 : mNew m = p := by rw [hl.new, hPc]; rfl
      rw [eA, eT, eO, ← hPc, hm0]
      exact .inl ⟨z1, true, SInv.hang hl s hPc, kp, fu, fun _ => hp0, er, .inr ⟨by simp, g2, g3, g4⟩, .inr (.inr (.inr (.inr (.inl ⟨rfl, hb, hs, rfl⟩))))⟩
  · obtain ⟨z1, z2⟩ := quiet e (by decide)
    subst hgt
    have eA : stepA A T o = A := by unfold stepA; rw [e] <;> rfl
    have eT : stepT A T o = T := by unfold stepT; rw [e] <;> rfl
    have eO : stepO A T o = ({ o with head := A.val T.first (1 + o.list) } : OS).look T (A.val T.first (1 + o.list)) := by unfold stepO; rw [e] <;> rfl
    obtain ⟨_, g2, g3, g4⟩ := lg.resolve_left (fun hh => by omega)
    have hp0 := pa (by omega)
    have hlr := T.list_range' hl.one n
    rw [← g4] at hlr
    obtain ⟨c, hc, _⟩ := s.chn o.list hlr.1 hlr.2
    rw [eA, eT, eO, z2]
    have := SQ.look_ (o := { o with head := A.val T.first (1 + o.list) }) (pre := []) (post := c) (x := A.val T.first (1 + o.list)) hl s kp hb hs fu er g2 g3 g4 rfl hp0 hc hc (by simp)
    exact this.imp (fun hh => ⟨z1, hh⟩) (fun hh => hh)
  · obtain ⟨z1, z2⟩ := quiet e (by decide)
    subst hgt
    have eA : stepA A T o = A := by unfold stepA; rw [e] <;> rfl
    have eT : stepT A T o = T := by unfold stepT; rw [e] <;> rfl
    have eO : stepO A T o = o.look T (A.val o.at_ 0) := by unfold stepO; rw [e] <;> rfl
    obtain ⟨_, g2, g3, g4⟩ := lg.resolve_left (fun hh => by omega)
    have hp0 := pa (by omega)
    rw [eA, eT, eO, z2]
    have := SQ.look_ (o := o) (pre := pre ++ [o.at_]) (post := post) (x := A.val o.at_ 0) hl s kp hb hs fu er g2 g3 g4 hh hp0 (by simpa using hc) hc.split.1 hpre
    exact this.imp (fun hh => ⟨z1, hh⟩) (fun hh => hh)
  · obtain ⟨z1, z2⟩ := quiet e (by decide)
    have hr := h.room (by simpa using hM)
    have eA : stepA A T o = A.alloc 1 := by unfold stepA AS.allocAt; rw [e]; simp only [hr]; rfl
    have hno : A.allocNo 1 = A.made + 1 := by unfold AS.allocNo; rw [if_pos hr]
    have eT : stepT A T o = { T with names := (A.made + 1, o.name) :: T.names } := by unfold stepT; rw [e]; simp only [hr, hno]; rfl
    have eO : stepO A T o = { o with block := A.made + 1, next := 7 } := by unfold stepO; rw [e]; simp only [hr, hno]; rfl
    obtain ⟨_, g2, g3, g4⟩ := lg.resolve_left (fun hh => by omega)
    have hlk : ∀ j, j ≠ A.made + 1 → look (A.alloc 1).bl j = look A.bl j := fun j hj => by
      show look ((A.made + 1, _) :: A.bl) j = _
      rw [look_cons, if_neg (fun e => hj e.symm)]
    have hlv : ∀ p ∈ P, p ≠ A.made + 1 := fun p hp => hl.live h.ok hp
    have hfl := hl.first_live h.ok
    have hnm : ∀ p ∈ P, ({ T with names := (A.made + 1, o.name) :: T.names } : TS).name p = T.name p ∧ ({ T with names := (A.made + 1, o.name) :: T.names } : TS).has p = T.has p := fun p hp => by
      rw [TS.name_cons, TS.has_cons, if_neg (hlv p hp), if_neg (hlv p hp)]; exact ⟨rfl, rfl⟩
    rw [eA, eT, eO]
    refine .inl ⟨z1, hg, s.frame (fun p hp => val_of_look (hlk p (hlv p hp)) 0) (fun l _ _ => val_of_look (hlk _ hfl) _) rfl rfl hnm hl.one, fun p hp => by rw [(hnm p hp).1]; exact kp p hp, fu, by simp, er, .inr ⟨by simp, g2, g3, g4⟩,
      .inr (.inr (.inr (.inr (.inr (.inr (.inr (.inl ⟨rfl, ⟨hq.seen, hq.hg, ?_, hq.few, fun p hp => ?_⟩, ⟨?_, ?_, fun hp => hlv _ hp rfl⟩⟩)))))))⟩
    · show o.head = (A.alloc 1).val T.first (1 + o.list)
      rw [val_of_look (hlk _ hfl)]; exact hq.head
    · rw [(hnm p hp).1]; exact hq.non p hp
    · rw [TS.name_cons, if_pos rfl]; exact g3
    · rw [TS.has_cons, if_pos rfl]
  · obtain ⟨z1, z2⟩ := quiet e (by decide)
    have eT : stepT A T o = T := by unfold stepT; rw [e] <;> rfl
    have eO : stepO A T o = { o with next := 8 } := by unfold stepO; rw [e] <;> rfl
    have hb0 := ho.has (by omega) (by omega)
    obtain ⟨hpos, hbf, c, ec, _⟩ := ho.own hb0 hm.out (by omega)
    have eA : stepA A T o = A.set o.block [o.head] := by
      have : stepA A T o = A.storeAt o.block 0 o.head := by unfold stepA; rw [e] <;> rfl
      rw [this]; unfold AS.storeAt; rw [ec]; simp
    have hlk : ∀ j, j ≠ o.block → look (A.set o.block [o.head]).bl j = look A.bl j := fun j hj => look_set' _ _ _ hj
    have hne : ∀ p ∈ P, p ≠ o.block := fun p hp e => hm.out (e ▸ hp)
    obtain ⟨_, g2, g3, g4⟩ := lg.resolve_left (fun hh => by omega)
    rw [eA, eT, eO]
    refine .inl ⟨z1, hg, s.frame (fun p hp => val_of_look (hlk p (hne p hp)) 0) (fun l _ _ => val_of_look (hlk _ hbf.symm) _) rfl rfl (fun p _ => ⟨rfl, rfl⟩) hl.one, kp, fu, by simp, er, .inr ⟨by simp, g2, g3, g4⟩,
      .inr (.inr (.inr (.inr (.inr (.inr (.inr (.inr ⟨rfl, ⟨hq.seen, hq.hg, ?_, hq.few, hq.non⟩, ⟨hm.name, hm.has, hm.out⟩, ?_⟩)))))))⟩
    · show o.head = (A.set o.block [o.head]).val T.first (1 + o.list)
      rw [val_of_look (hlk _ hbf.symm)]; exact hq.head
    · show (A.set o.block [o.head]).val o.block 0 = o.head
      unfold AS.val; rw [look_set_self A _ ec]; simp
  · have hs := hq.seen
    have hgt := hq.hg
    subst hgt
    have hb0 := ho.has (by omega) (by omega)
    obtain ⟨hpos, hbf, c, ec, _⟩ := ho.own hb0 hm.out (by omega)
    obtain ⟨eT, eO, _, hfr, _⟩ := hl.putS h.ok ho e hs hmade
    obtain ⟨hs', el, hll, _⟩ := hl.fst
    have eA : stepA A T o = A.swapAt T.first 0 o.seen (mWith o.seen o.block) := by unfold stepA; rw [e] <;> rfl
    obtain ⟨_, g2, g3, g4⟩ := lg.resolve_left (fun hh => by omega)
    have hfv : ∀ l, 0 ≤ l → l < T.lists → (stepA A T o).val T.first (1 + l) = A.val T.first (1 + l) := fun l h0 h1 => by
      rw [eA, swap_first el (by omega) (by simp) (by omega) (by simp; omega), if_neg (by omega)]
    have hpv : ∀ p, p ≠ T.first → (stepA A T o).val p 0 = A.val p 0 := fun p hp => val_of_look (hfr p hp) 0
    have hne : ∀ p ∈ P, p ≠ T.first := fun p hp => (hl.put p hp).2.1
    have hlr := T.list_range' hl.one n
    rw [if_pos ⟨e, hs⟩, eT, eO]
    refine .inr ⟨rfl, false, ⟨?_, ?_, ?_, ?_⟩, kp, .inr ⟨g2, .inr (.inr ⟨rfl, er, hm.name, hq.few, fun p hp => by rw [← kp p hp]; exact hq.non p hp⟩)⟩⟩
    · intro p hp
      rcases List.mem_cons.1 hp with rfl | hp
      · exact hm.has
      · exact s.has p hp
    · intro p hp p' hp' e'
      rcases List.mem_cons.1 hp with rfl | hp
      · rcases List.mem_cons.1 hp' with rfl | hp'
        · rfl
        · exact absurd (e'.symm.trans hm.name) (hq.non p' hp')
      · rcases List.mem_cons.1 hp' with rfl | hp'
        · exact absurd (e'.trans hm.name) (hq.non p hp)
        · exact s.dis p hp p' hp' e'
    · intro l h0 h1
      obtain ⟨c', hc', hmm⟩ := s.chn l h0 h1
      refine ⟨c', ?_, fun p => by rw [hmm p]; simp⟩
      rw [hfv l h0 h1]
      exact hc'.congr (fun p hp => hpv p (hne p (s.mem h0 h1 hc' hp)))
    · intro _ p hp
      obtain rfl : o.block = p := by simpa using hp
      rw [hpv _ hbf, hm.name, hfv _ hlr.1 hlr.2, hv, hq.head, g4]
end
end Go.Proofs.Ytebdlggmpojgdaa
