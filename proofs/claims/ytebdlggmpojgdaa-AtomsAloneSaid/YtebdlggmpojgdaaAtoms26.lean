/-
  Package atoms in memory: many operations under way: one is begun, one takes a step, is asked. Conditions: not too many.
-/
import Derived.Test.YtebdlggmpojgdaaAtoms24
namespace Go.Proofs.Ytebdlggmpojgdaa
open Go.RowKit Go.Maps
set_option linter.unusedVariables false

section
variable {w w' : World} {X Y : Nat → Prop} {pa po pt nb : Nat} {o : OS} {T T' : TS} {A A' : AS} {P : List Int} {m : Int} {os : List OS} {pos : List Nat} {B i : Nat} {M : Int} {s : ByteArray}
/-- Operations under way at a table; pos: their blocks. -/
structure Many (w : World) (X : Nat → Prop) (pa pt nb : Nat) (A : AS) (T : TS) (P : List Int) (m : Int) (os : List OS) (pos : List Nat) (B : Nat) (M : Int) : Prop where
  inv : AInv A T P m os B M
  tab : Tab w X pa pt nb A T
  len : pos.length = os.length
  op : ∀ (i : Nat) (o : OS) (po : Nat), os[i]? = some o → pos[i]? = some po → OHead w po pt o (str o.name)
  xo : ∀ po ∈ pos, X po
  fit : ∀ o ∈ os, Fit T o
  nod : pos.Nodup
theorem Many.nil_ (h : AInv A T P m [] B M) (tb : Tab w X pa pt nb A T) : Many w X pa pt nb A T P m [] [] B M :=
  ⟨h, tb, rfl, by simp, by simp, by simp, List.Pairwise.nil⟩
theorem Many.below (h : Many w X pa pt nb A T P m os pos B M) (hb : Below w.heap.size w w') : Many w' X pa pt nb A T P m os pos B M :=
  ⟨h.inv, h.tab.below hb, h.len, fun i o po h1 h2 => ⟨(h.op i o po h1 h2).blk.below hb (h.op i o po h1 h2).blk.lt⟩, h.xo, h.fit, h.nod⟩
theorem Many.keepAll (h : Many w X pa pt nb A T P m os pos B M) (hk : Keep (fun _ => True) w w') : Many w' X pa pt nb A T P m os pos B M :=
  h.below ⟨hk.os, hk.tape, hk.output, hk.size, fun k hk' => hk.block k hk' trivial⟩
theorem Many.lt (h : Many w X pa pt nb A T P m os pos B M) {k : Nat} (hk : X k) : k < w.heap.size := Nat.lt_of_not_le (fun hh => h.tab.fut k hh hk)
theorem Many.get (h : Many w X pa pt nb A T P m os pos B M) {j : Nat} (hj : j < os.length) : ∃ o po, os[j]? = some o ∧ pos[j]? = some po :=
  ⟨os[j], pos[j]'(by rw [h.len]; exact hj), by simp [hj], by simp [h.len, hj]⟩
/-- One is begun. -/
theorem Many.begin (h : Many w X pa pt nb A T P m os pos B M) (s : ByteArray) (hs : s.size ≤ 9223372036854775807) :
    Calls Try.prog 11 #[.pointer (some ⟨pt, 0, none⟩), .string s] w fun e w' => ∃ po, e = .returned (.pointer (some ⟨po, 0, none⟩)) ∧ w.heap.size ≤ po ∧ Many w' (fun k => X k ∨ k = po) pa pt nb A T P m (os ++ [OS.begun T s.data.toList]) (pos ++ [po]) B M ∧ Below w.heap.size w w' := by
  refine (begin_any h.tab.head h.tab.lists s hs).mono ?_
  rintro e w' ⟨po, rfl, hpo, ho, hb⟩
  obtain ⟨b1, b2, b3, b4, b5, b6, b7⟩ := begun_ok T s.data.toList h.tab.lists.1
  have h' := h.below hb
  refine ⟨po, rfl, hpo, ⟨h.inv.begin b1 b2 b3 ⟨b4, b5⟩, h.tab.more hb hpo ho.blk.lt, by simp [h.len], fun j a pa' hj hp => ?_, fun k hk => ?_, fun a ha => ?_, ?_⟩, hb⟩
  · rcases Nat.lt_or_ge j os.length with h1 | h1
    · rw [List.getElem?_append_left h1] at hj
      rw [List.getElem?_append_left (by rw [h.len]; exact h1)] at hp
      exact h'.op j a pa' hj hp
    · rw [List.getElem?_append_right h1] at hj
      rw [List.getElem?_append_right (by rw [h.len]; exact h1)] at hp
      rw [h.len] at hp
      rcases Nat.eq_zero_or_pos (j - os.length) with e | e
      · rw [e] at hj hp
        obtain rfl : OS.begun T s.data.toList = a := by simpa using hj
        obtain rfl : po = pa' := by simpa using hp
        exact ho
      · rw [List.getElem?_eq_none (by simp; omega)] at hj; cases hj
  · rcases List.mem_append.1 hk with hk | hk
    · exact .inl (h.xo k hk)
    · exact .inr (by simpa using hk)
  · rcases List.mem_append.1 ha with ha | ha
    · exact h.fit a ha
    · obtain rfl : a = OS.begun T s.data.toList := by simpa using ha
      exact ⟨by rw [b6]; exact Int.le_refl _, by rw [b6]; decide, b7⟩
  · rw [List.nodup_append]
    refine ⟨h.nod, by simp, fun a ha b hb => ?_⟩
    obtain rfl : b = po := by simpa using hb
    rintro rfl
    have := h.lt (h.xo a ha)
    omega
/-- One that isn't over takes a step. -/
theorem Many.step (h : Many w X pa pt nb A T P m os pos B M) (hB : B + os.length ≤ 16000) (hM : (B : Int) + os.length < M) (hi : os[i]? = some o) (hp : pos[i]? = some po) (h10 : o.next < 10) :
    Calls Try.prog 12 #[.pointer (some ⟨po, 0, none⟩)] w fun e w' => e = .returned (.bool (decide ((stepO A T o).next = 10))) ∧ Keep (fun k => X k ∧ k ∉ pos ∧ k ≠ nb) w w' ∧
      ∃ P' m', Many w' X pa pt nb (stepA A T o) (stepT A T o) P' m' (os.set i (stepO A T o)) pos B M ∧ ((stepO A T o).next ≠ 10 → P' = P ∧ m' = m ∧ pots P.length P m (os.set i (stepO A T o)) + 1 ≤ pots P.length P m os) := by
  have hmem : po ∈ pos := List.mem_of_getElem? hp
  have homem : o ∈ os := List.mem_of_getElem? hi
  refine (step_any h.inv hB hM hi h10 h.tab (h.op i o po hi hp) (h.xo po hmem) (h.fit o homem)).mono ?_
  rintro e w' ⟨rfl, r, t, k⟩
  obtain ⟨P', m', hinv, hpp⟩ := h.inv.next (by omega) hM hi h10
  refine ⟨rfl, k.less (fun k hk => ⟨hk.1, fun e => hk.2.1 (e ▸ hmem), hk.2.2⟩), P', m', ⟨hinv, t, by simp [h.len], fun j a pj hj hpj => ?_, h.xo, fun a ha => ?_, h.nod⟩, hpp⟩
  · have hlt : i < os.length := by
      rcases Nat.lt_or_ge i os.length with h1 | h1
      · exact h1
      · rw [List.getElem?_eq_none h1] at hi; cases hi
    by_cases e : j = i
    · subst e
      rw [List.getElem?_set_self hlt] at hj
      obtain rfl := Option.some.inj hj
      rw [hp] at hpj
      obtain rfl := Option.some.inj hpj
      rw [stepO_name]; exact r
    · rw [List.getElem?_set_ne (fun e' => e e'.symm)] at hj
      have hoj := h.op j a pj hj hpj
      refine hoj.keep k ⟨h.xo pj (List.mem_of_getElem? hpj), fun e' => ?_, fun e' => h.tab.names.ne_blk hoj.blk e'.symm⟩
      subst e'
      have hj1 : j < pos.length := by
        rcases Nat.lt_or_ge j pos.length with h1 | h1
        · exact h1
        · rw [List.getElem?_eq_none h1] at hpj; cases hpj
      exact e ((List.getElem?_inj hj1 h.nod).1 (hpj.trans hp.symm))
  · rcases List.mem_or_eq_of_mem_set ha with ha | rfl
    · exact ⟨(h.fit a ha).s0, (h.fit a ha).s1, (h.fit a ha).nm⟩
    · exact stepO_fit h.inv hB (h.fit o homem) _
theorem Many.over (h : Many w X pa pt nb A T P m os pos B M) (hi : os[i]? = some o) (hp : pos[i]? = some po) : Calls Try.prog 14 #[.pointer (some ⟨po, 0, none⟩)] w fun e w' => e = .returned (.bool (decide (o.next = 10))) ∧ w = w' := over_any (h.op i o po hi hp)
end
end Go.Proofs.Ytebdlggmpojgdaa
