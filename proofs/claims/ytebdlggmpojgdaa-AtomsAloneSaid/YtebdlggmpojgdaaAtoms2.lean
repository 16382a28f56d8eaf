/-
  Package atoms, plain: a step leaves the lists right. Condition: there is room for a block.
-/
import Derived.Test.YtebdlggmpojgdaaAtoms1
namespace Go.Proofs.Ytebdlggmpojgdaa
open Go.RowKit Go.Maps
set_option linter.unusedVariables false

section
variable {A A' : AS} {T T' : TS} {P : List Int} {m : Int} {o o' : OS}
theorem look_set' (A : AS) (b : Int) (cs : List Int) {j : Int} (h : j ≠ b) : look (A.set b cs).bl j = look A.bl j := by
  show look (Go.Proofs.Ytebdlggmpojgdaa.put A.bl b cs) j = _
  rw [look_put, if_neg (fun e => h e.1)]
theorem look_set_self (A : AS) (b : Int) {cs ds : List Int} (h : look A.bl b = some ds) : look (A.set b cs).bl b = some cs := by
  show look (Go.Proofs.Ytebdlggmpojgdaa.put A.bl b cs) b = _
  rw [look_put, if_pos ⟨rfl, by rw [h]; rfl⟩]
theorem stepT_same (A : AS) (T : TS) (o : OS) : (stepT A T o).first = T.first ∧ (stepT A T o).lists = T.lists := by
  unfold stepT
  split
  · split <;> exact ⟨rfl, rfl⟩
  · exact ⟨rfl, rfl⟩
  · exact ⟨rfl, rfl⟩
theorem LInv.frame (h : LInv A T P m) (h1 : T'.first = T.first) (h2 : T'.lists = T.lists) (hf : ∃ hs, look A'.bl T.first = some (m :: hs) ∧ (hs.length : Int) = T.lists ∧ ∀ x ∈ hs, x = 0 ∨ x ∈ P) (hp : ∀ b ∈ P, look A'.bl b = look A.bl b) : LInv A' T' P m := by
  refine ⟨by rw [h1, h2]; exact hf, h.cnt, h.new, fun b hb => ?_, h.nod, by rw [h2]; exact h.one⟩
  rw [h1, hp b hb]
  exact h.put b hb
theorem OpInv.frame (h : OpInv A T P o) (h1 : T'.first = T.first) (h2 : T'.lists = T.lists) (hp : o.block ≠ 0 → o.block ∉ P → o.next ≤ 9 → look A'.bl o.block = look A.bl o.block) : OpInv A' T' P o := by
  refine ⟨h.le, by rw [h2]; exact h.list, h.seen, h.head, h.at_, fun a b c => ?_, h.none, h.has, h.hasnt⟩
  rw [h1, hp a b c]
  exact h.own a b c
/-- What a step touches of the blocks: the table's own, the operation's, the one that it makes. -/
theorem stepA_look (A : AS) (T : TS) (o : OS) {j : Int} (hf : j ≠ T.first) (hb : j ≠ o.block) (hm : j ≠ A.made + 1) : look (stepA A T o).bl j = look A.bl j := by
  unfold stepA
  split
  · unfold AS.swapAt
    split
    · rfl
    · split
      · exact look_set' _ _ _ hf
      · rfl
  · unfold AS.allocAt
    split
    · show look ((A.made + 1, _) :: A.bl) j = _
      rw [look_cons, if_neg (fun e => hm e.symm)]
    · rfl
  · unfold AS.storeAt
    split
    · rfl
    · split
      · exact look_set' _ _ _ hb
      · rfl
  · unfold AS.swapAt
    split
    · rfl
    · split
      · exact look_set' _ _ _ hf
      · rfl
  · unfold AS.freeAt
    split
    · rfl
    · show look (cut A.bl o.block) j = _
      rw [look_cut, if_neg hb]
  · rfl
theorem LInv.live (h : LInv A T P m) (hok : A.Ok) {b : Int} (hb : b ∈ P) : b ≠ A.made + 1 := by
  obtain ⟨_, _, nx, e, _⟩ := h.put b hb
  have := (hok.key e).2
  omega
theorem LInv.first_live (h : LInv A T P m) (hok : A.Ok) : T.first ≠ A.made + 1 := by
  obtain ⟨hs, e, _⟩ := h.fst
  have := (hok.key e).2
  omega
/-- The lists behind a step that isn't a put that succeeds. -/
theorem LInv.step (h : LInv A T P m) (hok : A.Ok) (ho : OpInv A T P o) (hn : ¬ (o.next = 8 ∧ o.seen = m)) (h10 : o.next < 10) : LInv (stepA A T o) (stepT A T o) P m := by
  obtain ⟨s1, s2⟩ := stepT_same A T o
  have hblk : ∀ b ∈ P, o.block ≠ b := fun b hb e => by
    rcases ho.none (by omega) with e0 | e0
    · have := (h.put b hb).1; omega
    · exact e0 (e ▸ hb)
  have hfb : o.block ≠ T.first := fun e => by
    by_cases e0 : o.block = 0
    · obtain ⟨hs, e1, _⟩ := h.fst
      have := (hok.key e1).1
      omega
    · rcases ho.none (by omega) with e1 | e1
      · exact e0 e1
      · exact (ho.own e0 e1 (by omega)).2.1 e
  refine h.frame s1 s2 ?_ (fun b hb => ?_)
  · by_cases h3 : o.next = 3
    · have e1 : stepA A T o = A.swapAt T.first (1 + T.list (T.name (mNew o.seen))) o.behind (mNew o.seen) := by unfold stepA; rw [h3] <;> rfl
      rw [e1]
      obtain ⟨hs, e, hl, hh⟩ := h.fst
      unfold AS.swapAt
      rw [e]
      dsimp only
      split
      · rename_i hc
        have hnat : (1 + T.list (T.name (mNew o.seen))).toNat = (T.list (T.name (mNew o.seen))).toNat + 1 := by
          have : 0 ≤ T.list (T.name (mNew o.seen)) := by unfold TS.list; omega
          omega
        rw [hnat]
        refine ⟨hs.set (T.list (T.name (mNew o.seen))).toNat (mNew o.seen), look_set_self A _ e, by simpa using hl, fun x hx => ?_⟩
        rcases List.mem_or_eq_of_mem_set hx with hx | rfl
        · exact hh x hx
        · exact .inr (ho.seen (by omega) (by omega))
      · exact ⟨hs, e, hl, hh⟩
    · by_cases h8 : o.next = 8
      · have e1 : stepA A T o = A.swapAt T.first 0 o.seen (mWith o.seen o.block) := by unfold stepA; rw [h8] <;> rfl
        rw [e1]
        obtain ⟨hs, e, hl, hh⟩ := h.fst
        unfold AS.swapAt
        rw [e]
        dsimp only
        rw [if_neg (fun hc => hn ⟨h8, by simpa using hc.2.2.symm⟩)]
        exact ⟨hs, e, hl, hh⟩
      · have : look (stepA A T o).bl T.first = look A.bl T.first := by
          have hn' : o.next = 0 ∨ o.next = 1 ∨ o.next = 2 ∨ o.next = 4 ∨ o.next = 5 ∨ o.next = 6 ∨ o.next = 7 ∨ o.next = 9 := by omega
          unfold stepA
          rcases hn' with e | e | e | e | e | e | e | e <;> rw [e]
          all_goals first | rfl | skip
          · show look (A.allocAt 1).bl _ = _
            unfold AS.allocAt
            split
            · show look ((A.made + 1, _) :: A.bl) _ = _
              rw [look_cons, if_neg (fun e => h.first_live hok e.symm)]
            · rfl
          · show look (A.storeAt o.block 0 o.head).bl _ = _
            unfold AS.storeAt
            split
            · rfl
            · split
              · exact look_set' _ _ _ (fun e => hfb e.symm)
              · rfl
          · show look (A.freeAt o.block).bl _ = _
            unfold AS.freeAt
            split
            · rfl
            · show look (cut A.bl o.block) _ = _
              rw [look_cut, if_neg (fun e => hfb e.symm)]
        rw [this]
        exact h.fst
  · exact stepA_look A T o (h.put b hb).2.1 (fun e => hblk b hb e.symm) (h.live hok hb)
/-- Another operation behind a step. -/
theorem OpInv.other (h : LInv A T P m) (hok : A.Ok) (ho' : OpInv A T P o') (hne : o'.block ≠ 0 → o'.next ≤ 9 → o'.block ≠ o.block) (hlive : o'.block ≠ 0 → o'.next ≤ 9 → o'.block ≠ A.made + 1) : OpInv (stepA A T o) (stepT A T o) P o' := by
  obtain ⟨s1, s2⟩ := stepT_same A T o
  exact ho'.frame s1 s2 (fun a b c => stepA_look A T o (ho'.own a b c).2.1 (hne a c) (hlive a c))
end
end Go.Proofs.Ytebdlggmpojgdaa
