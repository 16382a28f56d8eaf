/-
  AtomsAlone: what one operation behind another makes of the names that the law has seen. Conditions: as in YtebdlggmpojgdaaAtoms36.
-/
import Derived.Test.YtebdlggmpojgdaaAtoms36
namespace Go.Proofs.Ytebdlggmpojgdaa
open Go.RowKit Go.Maps
set_option linter.unusedVariables false

section
variable {w w' wr : World} {X Y : Nat → Prop} {pa po pt nb : Nat} {o : OS} {T T' : TS} {A A' : AS} {P P' : List Int} {m m' : Int} {B : Nat} {M : Int} {n : List UInt8} {S : List (List UInt8)} {I : List Int} {top : Int}
/-- The table, beside what was seen. -/
structure Seen (A : AS) (T : TS) (P : List Int) (m : Int) (B : Nat) (top : Int) (S : List (List UInt8)) (I : List Int) : Prop where
  inv : AInv A T P m [] B 65536
  s : ∃ hg, SInv A T P hg
  most : T.most = top
  ids : P = I.reverse
  len : S.length = I.length
  nm : ∀ (j : Nat) (h1 : j < S.length) (h2 : j < I.length), T.name I[j] = S[j]
theorem Seen.plen (h : Seen A T P m B top S I) : P.length = S.length := by rw [h.ids, List.length_reverse, h.len]
theorem Seen.mem (h : Seen A T P m B top S I) {p : Int} (hp : p ∈ P) : ∃ j, ∃ (h1 : j < S.length) (h2 : j < I.length), I[j] = p ∧ T.name p = S[j] := by
  rw [h.ids, List.mem_reverse] at hp
  obtain ⟨j, hj, rfl⟩ := List.getElem_of_mem hp
  exact ⟨j, by rw [h.len]; exact hj, hj, rfl, h.nm j (by rw [h.len]; exact hj) hj⟩
theorem Seen.isin (h : Seen A T P m B top S I) {j : Nat} (hj : j < I.length) : I[j] ∈ P := by
  rw [h.ids, List.mem_reverse]; exact List.getElem_mem _
/-- What the law is answered. -/
inductive Told (S : List (List UInt8)) (I : List Int) (top : Int) (n : List UInt8) (id err : Int) (S' : List (List UInt8)) (I' : List Int) : Prop
  | long (h : 64 < n.length) (he : err = 2) (hs : S' = S) (hi : I' = I)
  | known (h : n.length ≤ 64) (hk : 0 < knownF S I n) (he : err = 0) (hid : id = knownF S I n) (hs : S' = S) (hi : I' = I)
  | many (h : n.length ≤ 64) (hk : knownF S I n = 0) (ht : top ≤ S.length) (he : err = 3) (hid : id = 0) (hs : S' = S) (hi : I' = I)
  | new (h : n.length ≤ 64) (hk : knownF S I n = 0) (ht : (S.length : Int) < top) (he : err = 0) (hid : 1 ≤ id) (hn : id ∉ I) (hs : S' = S ++ [n]) (hi : I' = I ++ [id])
theorem Seen.told (h : Seen A T P m B top S I) (hi : AInv A' T' P' m' [o] B 65536) (hm : T'.most = top) (hr : ResQ A' T' P' o n P T.name) : ∃ S' I', Seen A' T' P' m' (B + 1) top S' I' ∧ Told S I top n o.id o.err S' I' := by
  obtain ⟨hg, hs', hkp, hres⟩ := hr
  have hpl := h.plen
  have hi' : AInv A' T' P' m' [] (B + 1) 65536 := hi.forget.up (by have := owns_le [o]; simpa using this)
  have same : P' = P → Seen A' T' P' m' (B + 1) top S I := fun e => by
    subst e
    exact ⟨hi', ⟨hg, hs'⟩, hm, h.ids, h.len, fun j h1 h2 => by rw [hkp _ (h.isin h2)]; exact h.nm j h1 h2⟩
  obtain ⟨hg0, hs0⟩ := h.s
  rcases hres with ⟨h64, hP, he, hid⟩ | ⟨h64, hres⟩
  · exact ⟨S, I, same hP, .long h64 he rfl rfl⟩
  · by_cases hin : n ∈ S
    · obtain ⟨j, h1, h2, h3, h4⟩ := knownF_some h.len hin
      have hw := h.isin h2
      have hwn : T.name I[j] = n := (h.nm j h1 h2).trans h3
      have hpos := (h.inv.lst.put _ hw).1
      rcases hres with ⟨hP, he, hid, hn⟩ | ⟨_, _, _, _, hno⟩ | ⟨_, _, _, _, hno⟩
      · have := hs0.dis _ hid _ hw (hn.trans hwn.symm)
        exact ⟨S, I, same hP, .known h64 (by rw [h4]; exact hpos) he (by rw [h4]; exact this) rfl rfl⟩
      · exact absurd hwn (hno _ hw)
      · exact absurd hwn (hno _ hw)
    · have hk : knownF S I n = 0 := knownF_none (fun s hs e => hin (e ▸ hs))
      rcases hres with ⟨hP, he, hid, hn⟩ | ⟨hP, he, hid, ht, hno⟩ | ⟨hP, he, hn, ht, hno⟩
      · obtain ⟨j, h1, h2, h3, h4⟩ := h.mem hid
        exact absurd (List.getElem_mem h1) (by rw [← h4, hn]; exact hin)
      · exact ⟨S, I, same hP, .many h64 hk (by rw [← hm, ← hpl]; exact ht) he hid rfl rfl⟩
      · have hidP : o.id ∈ P' := by rw [hP]; simp
        have hnd := hi.lst.nod
        rw [hP] at hnd
        have hnin : o.id ∉ I := fun hh => (List.nodup_cons.1 hnd).1 (by rw [h.ids, List.mem_reverse]; exact hh)
        have hpos := (hi.lst.put _ hidP).1
        refine ⟨S ++ [n], I ++ [o.id], ⟨hi', ⟨hg, hs'⟩, hm, by rw [hP, h.ids]; simp, by simp [h.len], fun j h1 h2 => ?_⟩, .new h64 hk (by rw [← hm, ← hpl]; exact ht) he (by omega) hnin rfl rfl⟩
        by_cases hj : j < S.length
        · have hj2 : j < I.length := by rw [← h.len]; exact hj
          rw [List.getElem_append_left hj2, List.getElem_append_left hj, hkp _ (h.isin hj2)]
          exact h.nm j hj hj2
        · have e1 : j = S.length := by simp at h1; omega
          subst e1
          rw [List.getElem_append_right (Nat.le_refl _), List.getElem_append_right (by rw [h.len]; exact Nat.le_refl _)]
          simpa using hn
theorem Seen.start (h : Seen A T P m B top S I) (n : List UInt8) : ∃ hg, SQ A T P m (OS.begun T n) n T.name hg := by
  obtain ⟨hg, hs⟩ := h.s
  refine ⟨hg, hs, fun _ _ => rfl, ?_, fun _ => ?_, ?_, ?_, ?_⟩
  · unfold OS.begun; split <;> rfl
  · unfold OS.begun; split <;> rfl
  · unfold OS.begun; split <;> rfl
  · by_cases hn : 64 < n.length
    · left; unfold OS.begun; rw [if_pos hn]; exact ⟨rfl, hn⟩
    · right; unfold OS.begun; rw [if_neg hn]; exact ⟨by simp, by omega, rfl, rfl⟩
  · by_cases hn : 64 < n.length
    · left; unfold OS.begun; rw [if_pos hn]; exact ⟨rfl, rfl⟩
    · right; left; unfold OS.begun; rw [if_neg hn]; exact ⟨rfl, rfl⟩
theorem Seen.one (h : Seen A T P m B top S I) {n : List UInt8} (hw : Way w X pa pt nb po A T (OS.begun T n) P m B 65536) : OneQ w X pa pt nb po B 65536 n P T.name top 0 A T P m (OS.begun T n) := by
  have hl := (begun_ok T n h.inv.lst.one).1
  have hp := pot_le P m (OS.begun T n)
  exact ⟨hw, h.most, .inl ⟨by omega, rfl, by omega, h.start n⟩⟩
/-- A list's length, and whoever is in it is found. -/
theorem Chn.short (hl : LInv A T P m) : ∀ {c : List Int} {x : Int}, Chn A x c → (∀ p ∈ c, p ∈ P) → c.length ≤ rank P x := by
  intro c
  induction c with
  | nil => intro x _ _; simp
  | cons p c ih =>
    intro x h hin
    obtain ⟨rfl, h0, h3⟩ := h
    have hp := hin x (by simp)
    have h4 := ih h3 (fun q hq => hin q (by simp [hq]))
    have hr := rank_pos hp
    rcases hl.behind hp with e | ⟨_, e⟩
    · rw [e, rank_not hl.zero] at h4
      simp; omega
    · simp; omega
theorem Chn.found : ∀ {c : List Int} {x id : Int} {n : Nat}, Chn A x c → id ∈ c → c.length ≤ n → inList A n x id = true := by
  intro c
  induction c with
  | nil => intro x id n _ h; cases h
  | cons p c ih =>
    intro x id n h hid hn
    obtain ⟨rfl, h0, h3⟩ := h
    obtain ⟨k, rfl⟩ : ∃ k, n = k + 1 := ⟨n - 1, by simp at hn; omega⟩
    rw [inList, if_neg h0]
    by_cases hx : x = id
    · rw [if_pos hx]
    · rw [if_neg hx]
      exact ih h3 ((List.mem_cons.1 hid).resolve_left (fun e => hx e.symm)) (by simp at hn; omega)
theorem inLists_found {N : Nat} {id : Int} : ∀ (k : Nat) (l l0 : Int), l ≤ l0 → l0 < l + k → inList A N (A.val T.first (1 + l0)) id = true → inLists A T N id k l = true := by
  intro k
  induction k with
  | zero => intro l l0 h1 h2 _; omega
  | succ k ih =>
    intro l l0 h1 h2 h3
    rw [inLists]
    by_cases hl : l = l0
    · subst hl; rw [if_pos h3]
    · split
      · rfl
      · exact ih (l + 1) l0 (by omega) (by omega) h3
theorem Seen.found (h : Seen A T P m B top S I) {id : Int} (hid : id ∈ P) : T.has id = true ∧ hasIn A T (P.length + 1) id = true := by
  obtain ⟨hg, hs⟩ := h.s
  refine ⟨hs.has id hid, ?_⟩
  unfold hasIn
  rw [h.inv.lst.mark, h.inv.lst.new]
  by_cases hd : P.headD 0 = id
  · rw [if_pos hd]
  · rw [if_neg hd]
    have hlr := T.list_range' h.inv.lst.one (T.name id)
    obtain ⟨c, hc, hm⟩ := hs.chn _ hlr.1 hlr.2
    have hin : id ∈ c := (hm id).2 ⟨by
      cases hg with
      | true => simpa using hid
      | false =>
        cases hP : P with
        | nil => rw [hP] at hid; cases hid
        | cons p P1 =>
          rw [hP] at hid hd
          simp only [List.headD_cons] at hd
          simpa using (List.mem_cons.1 hid).resolve_left (fun e => hd e.symm), rfl⟩
    have hcs := hc.short h.inv.lst (fun p hp => hs.mem hlr.1 hlr.2 hc hp)
    have hrk := rank_le P (A.val T.first (1 + T.list (T.name id)))
    exact inLists_found _ 0 (T.list (T.name id)) hlr.1 (by omega) (hc.found hin (by omega))
end
end Go.Proofs.Ytebdlggmpojgdaa
