/-
  The document's example of layer 3: the plain states that it goes through. No condition.
-/
import Derived.Test.YtebdlggmpojgdaaAtoms25
import Derived.Test.YtebdlggmpojgdaaAtoms26
namespace Go.Proofs.Ytebdlggmpojgdaa
open Go.RowKit Go.Maps
set_option linter.unusedVariables false

/-- A step of one of many, also of one that is over. -/
def stp (s : AS × TS × List OS) (i : Nat) : AS × TS × List OS :=
  match s.2.2[i]? with
  | none => s
  | some o => if o.next = 10 then s else (stepA s.1 s.2.1 o, stepT s.1 s.2.1 o, s.2.2.set i (stepO s.1 s.2.1 o))
section
variable {w w' : World} {X Y : Nat → Prop} {pa po pt nb : Nat} {o : OS} {T T' : TS} {A A' : AS} {P : List Int} {m : Int} {os : List OS} {pos : List Nat} {B i : Nat} {M : Int} {s : ByteArray}
/-- Many operations at a plain state that is told as one. -/
def ManyAt (w : World) (X : Nat → Prop) (pa pt nb : Nat) (s : AS × TS × List OS) (pos : List Nat) (B : Nat) (M : Int) : Prop :=
  ∃ P m, Many w X pa pt nb s.1 s.2.1 P m s.2.2 pos B M
theorem stp_len (s : AS × TS × List OS) (i : Nat) : (stp s i).2.2.length = s.2.2.length := by
  unfold stp
  split
  · rfl
  · split <;> simp
theorem ManyAt.stp {s : AS × TS × List OS} (h : ManyAt w X pa pt nb s pos B M) (hB : B + s.2.2.length ≤ 16000) (hM : (B : Int) + s.2.2.length < M) (hp : pos[i]? = some po) :
    Calls Try.prog 12 #[.pointer (some ⟨po, 0, none⟩)] w fun e w' => (∃ b, e = .returned (.bool b)) ∧ ManyAt w' X pa pt nb (Go.Proofs.Ytebdlggmpojgdaa.stp s i) pos B M ∧ Keep (fun k => X k ∧ k ∉ pos ∧ k ≠ nb) w w' := by
  obtain ⟨A, T, os⟩ := s
  obtain ⟨P, m, h⟩ := h
  dsimp only at h hB hM
  have hlt : i < os.length := by
    rw [← h.len]
    rcases Nat.lt_or_ge i pos.length with h1 | h1
    · exact h1
    · rw [List.getElem?_eq_none h1] at hp; cases hp
  obtain ⟨o, po', hi, hp'⟩ := h.get hlt
  obtain rfl : po = po' := by rw [hp] at hp'; exact Option.some.inj hp'
  unfold Go.Proofs.Ytebdlggmpojgdaa.stp
  dsimp only
  rw [hi]
  dsimp only
  by_cases h10 : o.next = 10
  · rw [if_pos h10]
    refine (step10_any (h.op i o po hi hp) h10).mono ?_
    rintro e w' ⟨rfl, rfl⟩
    exact ⟨⟨_, rfl⟩, ⟨P, m, h⟩, Keep.refl _ _⟩
  · rw [if_neg h10]
    have hle := (h.inv.ops i o hi).le
    refine (h.step hB hM hi hp (by omega)).mono ?_
    rintro e w' ⟨rfl, k, P', m', hm, _⟩
    exact ⟨⟨_, rfl⟩, ⟨P', m', hm⟩, k⟩
theorem ManyAt.over {s : AS × TS × List OS} (h : ManyAt w X pa pt nb s pos B M) (hi : s.2.2[i]? = some o) (hp : pos[i]? = some po) : Calls Try.prog 14 #[.pointer (some ⟨po, 0, none⟩)] w fun e w' => e = .returned (.bool (decide (o.next = 10))) ∧ w = w' := by
  obtain ⟨P, m, h⟩ := h; exact h.over hi hp
theorem ManyAt.answer {s : AS × TS × List OS} (h : ManyAt w X pa pt nb s pos B M) (hi : s.2.2[i]? = some o) (hp : pos[i]? = some po) (h10 : o.next = 10) : Calls Try.prog 13 #[.pointer (some ⟨po, 0, none⟩)] w fun e w' => e = .returned (.tuple #[.int .i64 o.id, .int .i64 o.err]) ∧ ManyAt w' X pa pt nb s pos B M ∧ Keep (fun _ => True) w w' := by
  obtain ⟨P, m, h⟩ := h
  have := answer_any (h.op i o po hi hp)
  rw [if_pos h10] at this
  exact this.mono fun _ _ ⟨h1, h2⟩ => ⟨h1, ⟨P, m, h.keepAll h2⟩, h2⟩
end

def aA0 : AS := (AS.new 100).allocAt (1 + min (max 2 1) 64)
def aT0 : TS := TS.new ((AS.new 100).allocNo (1 + min (max 2 1) 64)) (min (max 2 1) 64) 9
def ar1 : AS × TS × OS := run1 60 aA0 aT0 (OS.begun aT0 [97])
def ar2 : AS × TS × OS := run1 60 ar1.1 ar1.2.1 (OS.begun ar1.2.1 [98])
def ar3 : AS × TS × OS := run1 60 ar2.1 ar2.2.1 (OS.begun ar2.2.1 [97])
def as0 : AS × TS × List OS := (ar3.1, ar3.2.1, [OS.begun ar3.2.1 [99], OS.begun ar3.2.1 [99]])
def asK : Nat → AS × TS × List OS
  | 0 => as0
  | k + 1 => stp (stp (asK k) 0) 1

theorem af1 : ar1.2.2.id = 2 ∧ ar1.2.2.err = 0 := by decide +kernel
theorem af2 : ar2.2.2.id = 3 ∧ ar2.2.2.err = 0 := by decide +kernel
theorem af3 : ar3.2.2.id = 2 ∧ ar3.2.2.err = 0 := by decide +kernel
theorem am0 : aA0.made = 1 := by decide +kernel
theorem am1 : ar1.1.made = 2 := by decide +kernel
theorem am2 : ar2.1.made = 3 := by decide +kernel
theorem ak_lo : ∀ k, k < 8 → ((asK k).2.2[0]?.map (fun o => decide (o.next = 10))) = some false := by decide +kernel
theorem ak_hi0 : ∀ k, k < 14 → 8 ≤ k → ((asK k).2.2[0]?.map (fun o => decide (o.next = 10))) = some true := by decide +kernel
theorem ak_hi1 : ∀ k, k < 13 → ((asK k).2.2[1]?.map (fun o => decide (o.next = 10))) = some false := by decide +kernel
theorem ak_end0 : (asK 13).2.2[0]?.map (fun o => (o.next, o.id, o.err)) = some (10, 4, 0) := by decide +kernel
theorem ak_end1 : (asK 13).2.2[1]?.map (fun o => (o.next, o.id, o.err)) = some (10, 4, 0) := by decide +kernel
theorem ak_name : (asK 13).2.1.has 3 = true ∧ (asK 13).2.1.name 3 = [98] ∧ hasIn (asK 13).1 (asK 13).2.1 4 3 = true ∧ mCnt ((asK 13).1.val (asK 13).2.1.first 0) = 3 := by decide +kernel
theorem asK_len (k : Nat) : (asK k).2.2.length = 2 := by
  induction k with
  | zero => rfl
  | succ k ih => show (stp (stp (asK k) 0) 1).2.2.length = 2; rw [stp_len, stp_len, ih]
section
variable {w w' : World} {X Y : Nat → Prop} {pa pt nb : Nat} {B : Nat} {M : Int} {e : Ending} {pos : List Nat}
theorem did_of {A : AS} {T : TS} {o0 : OS} {r : AS × TS × OS} {i : Int} (h : SomeDid w X pa pt nb A T o0 B M e w') (hr : run1 60 A T o0 = r) (hm : A.made ≤ 20) (hi : r.2.2.id = i ∧ r.2.2.err = 0) :
    e = .returned (.tuple #[.int .i64 i, .int .i64 0]) ∧ Tab w' X pa pt nb r.1 r.2.1 ∧ (∃ P m, AInv r.1 r.2.1 P m [] (B + 1) M) ∧ Keep (fun k => X k ∧ k ≠ nb) w w' := by
  obtain ⟨A', T', o', hd, rfl⟩ := h
  have h60 := hd.run 60 (by omega)
  rw [hr] at h60
  subst h60
  dsimp only at hi
  rw [hi.1, hi.2]
  exact ⟨rfl, hd.tab, hd.inv, hd.keep⟩
theorem ManyAt.len {s : AS × TS × List OS} (h : ManyAt w X pa pt nb s pos B M) (hB : B + s.2.2.length ≤ 16000) : Calls Try.prog 17 #[.pointer (some ⟨pt, 0, none⟩)] w fun e w' => e = .returned (.int .i64 (mCnt (s.1.val s.2.1.first 0))) ∧ Below w.heap.size w w' := by
  obtain ⟨P, m, h⟩ := h
  obtain ⟨hs, el, _⟩ := h.inv.lst.fst
  have hfk := h.inv.ok.key el
  have hmd : s.1.made < 20000 := by have := h.inv.made; have := owns_le s.2.2; omega
  refine (len_any h.tab.head h.tab.arena (wf_small (by omega) (by omega)) el (by simp)).mono ?_
  rintro e w' ⟨rfl, rfl⟩
  rw [h.inv.lst.mark]
  exact ⟨rfl, (Below.refl _ _).drew⟩
theorem ManyAt.below {s : AS × TS × List OS} (h : ManyAt w X pa pt nb s pos B M) (hb : Below w.heap.size w w') : ManyAt w' X pa pt nb s pos B M := by
  obtain ⟨P, m, h⟩ := h; exact ⟨P, m, h.below hb⟩
theorem ManyAt.name {s : AS × TS × List OS} (h : ManyAt w X pa pt nb s pos B M) (hB : B + s.2.2.length ≤ 16000) {id : Int} (hid : (ik id).wf = true) :
    Calls Try.prog 18 #[.pointer (some ⟨pt, 0, none⟩), .int .i64 id] w fun e w' => e = .returned (.tuple (if s.2.1.has id && hasIn s.1 s.2.1 ((mCnt (s.1.val s.2.1.first 0)).toNat + 1) id then #[.string (str (s.2.1.name id)), .bool true] else #[.string ⟨#[]⟩, .bool false])) ∧ Below w.heap.size w w' := by
  obtain ⟨P, m, h⟩ := h
  have hc := h.inv.lst.cnt
  have := name_any h.inv hB h.tab hid
  rw [h.inv.lst.mark, hc]
  refine this.mono ?_
  rintro e w' ⟨rfl, d, rfl⟩
  exact ⟨rfl, ⟨rfl, rfl, rfl, Nat.le_refl _, fun _ _ => rfl⟩⟩
end
end Go.Proofs.Ytebdlggmpojgdaa
