/-
  Plain: what stays right, whatever is called on a yard whose arena nobody else frees from: what waits is live, and waits once; who is inside came in at a moment that has been; how many a Sweep frees. Conditions: the plain states are right.
-/
import Derived.Test.YtiiaajdkkofbjaaDoesE
namespace Go.Proofs.Ytiiaajdkkofbjaa
open Go.RowKit Go.Maps
set_option linter.unusedVariables false

def gone (ent : List Int) (l : List Wt) (b : Int) : Prop := ∃ r ∈ l, r.block = b ∧ held ent r.whn = false
theorem stp_held {ent : List Int} {p : AS × Int} {r : Wt} (h : held ent r.whn = true) : stp ent p r = p := if_pos h
theorem stp_free {ent : List Int} {p : AS × Int} {r : Wt} (h : held ent r.whn = false) : stp ent p r = (p.1.freeAt r.block, p.2 + inc p.1 r.block) := by
  unfold stp
  rw [h]; rfl
theorem freeAt_look {S : AS} {b : Int} (h : (look S.bl b).isSome = true) (c : Int) : look (S.freeAt b).bl c = if c = b then none else look S.bl c := by
  obtain ⟨cs, hc⟩ := Option.isSome_iff_exists.1 h
  unfold AS.freeAt
  rw [hc]
  exact look_cut _ _ _
theorem freeAt_made (S : AS) (b : Int) : (S.freeAt b).made = S.made := by
  unfold AS.freeAt; split <;> rfl
theorem inc_live {S : AS} {b : Int} (h : (look S.bl b).isSome = true) : inc S b = 1 := by
  obtain ⟨cs, hc⟩ := Option.isSome_iff_exists.1 h
  unfold inc AS.err0
  rw [hc]; rfl
theorem fold_look (ent : List Int) (l : List Wt) (p : AS × Int) (hl : ∀ r ∈ l, (look p.1.bl r.block).isSome = true) (ho : (l.map (·.block)).Nodup) :
    (∀ b, (gone ent l b → look (l.foldl (stp ent) p).1.bl b = none) ∧ (¬ gone ent l b → look (l.foldl (stp ent) p).1.bl b = look p.1.bl b)) ∧
    (l.foldl (stp ent) p).2 = p.2 + (l.filter (fun r => !held ent r.whn)).length ∧ (l.foldl (stp ent) p).1.made = p.1.made := by
  induction l generalizing p with
  | nil => exact ⟨fun b => ⟨fun ⟨r, hr, _⟩ => (by cases hr), fun _ => rfl⟩, (by simp), rfl⟩
  | cons r l ih =>
    rw [List.map_cons, List.nodup_cons] at ho
    obtain ⟨hnot, ho⟩ := ho
    cases hh : held ent r.whn with
    | true =>
      rw [List.foldl_cons, stp_held hh]
      obtain ⟨i1, i2, i3⟩ := ih p (fun x hx => hl x (by simp [hx])) ho
      refine ⟨fun b => ⟨fun hg => (i1 b).1 ?_, fun hg => (i1 b).2 ?_⟩, ?_, i3⟩
      · obtain ⟨x, hx, e1, e2⟩ := hg
        rcases List.mem_cons.1 hx with rfl | hx
        · rw [hh] at e2; cases e2
        · exact ⟨x, hx, e1, e2⟩
      · rintro ⟨x, hx, e1, e2⟩
        exact hg ⟨x, by simp [hx], e1, e2⟩
      · rw [i2]; simp [hh]
    | false =>
      have hlr := hl r (by simp)
      rw [List.foldl_cons, stp_free hh, inc_live hlr]
      have hne : ∀ x ∈ l, x.block ≠ r.block := fun x hx e => hnot (by rw [← e]; exact List.mem_map_of_mem hx)
      obtain ⟨i1, i2, i3⟩ := ih (p.1.freeAt r.block, p.2 + 1) (fun x hx => by
        show (look (p.1.freeAt r.block).bl x.block).isSome = true
        rw [freeAt_look hlr, if_neg (hne x hx)]
        exact hl x (by simp [hx])) ho
      refine ⟨fun b => ⟨fun hg => ?_, fun hg => ?_⟩, ?_, by rw [i3]; exact freeAt_made _ _⟩
      · by_cases hgl : gone ent l b
        · exact (i1 b).1 hgl
        · rw [(i1 b).2 hgl]
          obtain ⟨x, hx, e1, e2⟩ := hg
          rcases List.mem_cons.1 hx with rfl | hx
          · show look (p.1.freeAt x.block).bl b = none
            rw [freeAt_look hlr, if_pos e1.symm]
          · exact absurd ⟨x, hx, e1, e2⟩ hgl
      · rw [(i1 b).2 (fun ⟨x, hx, e1, e2⟩ => hg ⟨x, by simp [hx], e1, e2⟩)]
        show look (p.1.freeAt r.block).bl b = look p.1.bl b
        rw [freeAt_look hlr, if_neg (fun e => hg ⟨r, by simp, e.symm, hh⟩)]
      · rw [i2]; simp [hh]; omega

section
variable {Y : YS} {S : AS} {t b : Int}
theorem Right.look (h : Right Y S) (b : Int) : (gone Y.ent Y.wt b → Go.Proofs.Ytiiaajdkkofbjaa.look (S.sweepAt Y).bl b = none) ∧ (¬ gone Y.ent Y.wt b → Go.Proofs.Ytiiaajdkkofbjaa.look (S.sweepAt Y).bl b = Go.Proofs.Ytiiaajdkkofbjaa.look S.bl b) :=
  (fold_look Y.ent Y.wt (S, 0) h.live h.once).1 b
theorem Right.count (h : Right Y S) : sweepN Y S = (Y.wt.filter (fun r => !held Y.ent r.whn)).length := by
  have := (fold_look Y.ent Y.wt (S, 0) h.live h.once).2.1
  unfold sweepN swp
  rw [this]
  simp
theorem Right.made (h : Right Y S) : (S.sweepAt Y).made = S.made := (fold_look Y.ent Y.wt (S, 0) h.live h.once).2.2
theorem nodup_eq {l : List Wt} (h : (l.map (·.block)).Nodup) {r x : Wt} (hr : r ∈ l) (hx : x ∈ l) (e : r.block = x.block) : r = x := by
  induction l with
  | nil => cases hr
  | cons y l ih =>
    rw [List.map_cons, List.nodup_cons] at h
    rcases List.mem_cons.1 hr with e1 | hr'
    · rcases List.mem_cons.1 hx with e2 | hx'
      · rw [e1, e2]
      · exact absurd (by rw [← e1, e]; exact List.mem_map_of_mem hx') h.1
    · rcases List.mem_cons.1 hx with e2 | hx'
      · exact absurd (by rw [← e2, ← e]; exact List.mem_map_of_mem hr') h.1
      · exact ih h.2 hr' hx'
theorem Right.kept (h : Right Y S) {r : Wt} (hr : r ∈ Y.wt) (hh : held Y.ent r.whn = true) : ¬ gone Y.ent Y.wt r.block := by
  rintro ⟨x, hx, e1, e2⟩
  obtain rfl := nodup_eq h.once hr hx e1.symm
  rw [hh] at e2; cases e2
theorem Right.sweep (h : Right Y S) : Right Y.sweepAt (S.sweepAt Y) := by
  refine ⟨fun r hr => ?_, h.once.sublist (List.filter_sublist.map _)⟩
  obtain ⟨hr1, hr2⟩ := List.mem_filter.1 hr
  rw [(h.look r.block).2 (h.kept hr1 hr2)]
  exact h.live r hr1
theorem Right.fault (h : Right Y S) : Right Y S.fault := ⟨h.live, h.once⟩
theorem Right.alloc (h : Right Y S) (hok : S.Ok) (n : Int) : Right Y (S.allocAt n) := by
  refine ⟨fun r hr => ?_, h.once⟩
  unfold AS.allocAt
  split
  · show (Go.Proofs.Ytiiaajdkkofbjaa.look ((S.made + 1, List.replicate n.toNat 0) :: S.bl) r.block).isSome = true
    rw [look_cons]
    split
    · rfl
    · exact h.live r hr
  · exact h.live r hr
theorem waits_no {L : List Wt} {b : Int} (h : waits L b = false) {r : Wt} (hr : r ∈ L) : r.block ≠ b := by
  unfold waits at h
  rw [List.any_eq_false] at h
  simpa using h r hr
theorem waits_yes {L : List Wt} {r : Wt} (hr : r ∈ L) : waits L r.block = true := by
  unfold waits
  rw [List.any_eq_true]
  exact ⟨r, hr, by simp⟩
/-- A Retire: which of five. -/
theorem ret_cases (Y : YS) (S : AS) (t b : Int) :
    (Y.retErr S t b = 1 ∧ Y.isT t = false) ∨ (Y.retErr S t b = 42 ∧ Y.isT t = true ∧ waits Y.wt b = true) ∨ (Y.retErr S t b = 20 ∧ Y.isT t = true ∧ waits Y.wt b = false ∧ Go.Proofs.Ytiiaajdkkofbjaa.look S.bl b = none) ∨
    (Y.retErr S t b = 43 ∧ Y.isT t = true ∧ waits Y.wt b = false ∧ (Go.Proofs.Ytiiaajdkkofbjaa.look S.bl b).isSome = true ∧ Y.bound ≤ lim Y.sweepAt.wt t) ∨
    (Y.retErr S t b = 0 ∧ Y.isT t = true ∧ waits Y.wt b = false ∧ (Go.Proofs.Ytiiaajdkkofbjaa.look S.bl b).isSome = true ∧ lim Y.sweepAt.wt t < Y.bound) := by
  unfold YS.retErr
  cases h1 : Y.isT t with
  | false => left; simp
  | true =>
    cases h2 : waits Y.wt b with
    | true => right; left; simp
    | false =>
      cases h3 : Go.Proofs.Ytiiaajdkkofbjaa.look S.bl b with
      | none => right; right; left; simp
      | some cs =>
        by_cases h4 : Y.bound ≤ lim Y.sweepAt.wt t
        · right; right; right; left; simp [h4]
        · right; right; right; right; simp [h4]; omega
theorem ret_same (he : Y.retErr S t b = 1 ∨ Y.retErr S t b = 42 ∨ Y.retErr S t b = 20) : Y.retAt S t b = Y := by
  unfold YS.retAt
  rw [if_neg (by omega), if_neg (by omega)]
theorem ret_sameS (he : Y.retErr S t b = 1 ∨ Y.retErr S t b = 42) : S.retAt Y t b = S := by
  unfold AS.retAt
  rw [if_neg (by omega), if_neg (by omega)]
theorem ret_20 (he : Y.retErr S t b = 20) : S.retAt Y t b = S.fault := by
  unfold AS.retAt
  rw [if_neg (by omega), if_pos he]
theorem ret_43 (he : Y.retErr S t b = 43) : Y.retAt S t b = Y.sweepAt ∧ S.retAt Y t b = S.sweepAt Y := by
  constructor
  · unfold YS.retAt; rw [if_pos he]
  · unfold AS.retAt; rw [if_pos (.inl he)]
theorem ret_0 (he : Y.retErr S t b = 0) : Y.retAt S t b = { Y.sweepAt with now := Y.now + 1, wt := Y.sweepAt.wt ++ [⟨b, t, Y.now + 1⟩] } ∧ S.retAt Y t b = S.sweepAt Y := by
  constructor
  · unfold YS.retAt; rw [if_neg (by omega), if_pos he]
  · unfold AS.retAt; rw [if_pos (.inr he)]
theorem Right.retire (h : Right Y S) (t b : Int) : Right (Y.retAt S t b) (S.retAt Y t b) := by
  rcases ret_cases Y S t b with ⟨he, _⟩ | ⟨he, _⟩ | ⟨he, _⟩ | ⟨he, _⟩ | ⟨he, _, hw, hl, _⟩
  · rw [ret_same (.inl he), ret_sameS (.inl he)]; exact h
  · rw [ret_same (.inr (.inl he)), ret_sameS (.inr he)]; exact h
  · rw [ret_same (.inr (.inr he)), ret_20 he]; exact h.fault
  · rw [(ret_43 he).1, (ret_43 he).2]; exact h.sweep
  · rw [(ret_0 he).1, (ret_0 he).2]
    have hs := h.sweep
    refine ⟨fun r hr => ?_, ?_⟩
    · rcases List.mem_append.1 hr with hr | hr
      · exact hs.live r hr
      · rw [List.mem_singleton] at hr
        subst hr
        show (Go.Proofs.Ytiiaajdkkofbjaa.look (S.sweepAt Y).bl b).isSome = true
        rw [(h.look b).2 (fun ⟨x, hx, e, _⟩ => waits_no hw hx e)]
        exact hl
    · show ((Y.sweepAt.wt ++ [(⟨b, t, Y.now + 1⟩ : Wt)]).map (·.block)).Nodup
      rw [List.map_append, List.nodup_append]
      refine ⟨hs.once, by simp, fun x hx y hy e => ?_⟩
      simp only [List.map_cons, List.map_nil, List.mem_singleton] at hy
      obtain ⟨r, hr, rfl⟩ := List.mem_map.1 hx
      exact waits_no hw (List.mem_filter.1 hr).1 (e.trans hy)
theorem enter_wt (Y : YS) (t : Int) : (Y.enterAt t).wt = Y.wt := by unfold YS.enterAt; split <;> rfl
theorem leave_wt (Y : YS) (t : Int) : (Y.leaveAt t).wt = Y.wt := by unfold YS.leaveAt; split <;> rfl
theorem Right.step (h : Right Y S) (hok : S.Ok) (k t b : Int) : Right (stepY Y S k t b) (stepS Y S k t b) := by
  unfold stepY stepS
  by_cases k1 : k = 1
  · subst k1; exact ⟨by simpa [enter_wt] using h.live, by simpa [enter_wt] using h.once⟩
  · by_cases k2 : k = 2
    · subst k2; exact ⟨by simpa [leave_wt] using h.live, by simpa [leave_wt] using h.once⟩
    · by_cases k3 : k = 3
      · subst k3; simpa using h.retire t b
      · by_cases k4 : k = 4
        · subst k4; simpa using h.sweep
        · by_cases k5 : k = 5
          · subst k5; simpa using h.alloc hok b
          · simpa [k1, k2, k3, k4, k5] using h

/-! ### Moments, and how many there have been -/
theorem step_fixed (Y : YS) (S : AS) (k t b : Int) : (stepY Y S k t b).threads = Y.threads ∧ (stepY Y S k t b).bound = Y.bound := by
  unfold stepY YS.enterAt YS.leaveAt YS.retAt
  refine ⟨?_, ?_⟩ <;> (repeat' split) <;> rfl
theorem step_now (Y : YS) (S : AS) (k t b : Int) : Y.now ≤ (stepY Y S k t b).now ∧ (stepY Y S k t b).now ≤ Y.now + 1 := by
  unfold stepY YS.enterAt YS.leaveAt YS.retAt
  (repeat' split) <;> ((try dsimp only [YS.sweepAt]); omega)
theorem step_made (h : Right Y S) (k t b : Int) : (stepS Y S k t b).made ≤ S.made + 1 := by
  unfold stepS
  split
  · rcases ret_cases Y S t b with ⟨he, _⟩ | ⟨he, _⟩ | ⟨he, _⟩ | ⟨he, _⟩ | ⟨he, _⟩
    · rw [ret_sameS (.inl he)]; omega
    · rw [ret_sameS (.inr he)]; omega
    · rw [ret_20 he]; show S.made ≤ _; omega
    · rw [(ret_43 he).2, h.made]; omega
    · rw [(ret_0 he).2, h.made]; omega
  · split
    · rw [h.made]; omega
    · split
      · unfold AS.allocAt; split
        · show S.made + 1 ≤ _; omega
        · omega
      · omega
end
end Go.Proofs.Ytiiaajdkkofbjaa
