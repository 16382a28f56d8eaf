/-
  Texts with a terminator behind them tell the tree. Condition: bare names hold no quote, bracket, comma or bar, and do not begin ls a number or a variable does.
-/
import Derived.Test.YtfkbbbjicaedmaaGreatDoorQWrA
namespace Go.Proofs.YtfkbbbjicaedmaaGreatDoor
set_option linter.unusedVariables false
set_option linter.unusedSimpArgs false
set_option linter.unusedSectionVars false
theorem span_eq {p : UInt8 → Bool} : ∀ {a b x y : List UInt8}, (∀ c ∈ a, p c = true) → (∀ c ∈ b, p c = true) → (∀ c r, x = c :: r → p c = false) → (∀ c r, y = c :: r → p c = false) → a ++ x = b ++ y → a = b ∧ x = y
  | [], [], x, y, _, _, _, _, h => ⟨rfl, h⟩
  | [], d :: b, x, y, _, hb, hx, _, h => by
    have := hx d (b ++ y) (by simpa using h)
    rw [hb d (by simp)] at this; cases this
  | c :: a, [], x, y, ha, _, _, hy, h => by
    have := hy c (a ++ x) (by simpa using h.symm)
    rw [ha c (by simp)] at this; cases this
  | c :: a, d :: b, x, y, ha, hb, hx, hy, h => by
    simp only [List.cons_append, List.cons.injEq] at h
    obtain ⟨h1, h2⟩ := span_eq (fun c hc => ha c (by simp [hc])) (fun c hc => hb c (by simp [hc])) hx hy h.2
    exact ⟨by rw [h.1, h1], h2⟩
def digX (c : UInt8) : Bool := decide (48 ≤ c.toNat) && decide (c.toNat ≤ 57)
theorem dig_of {n : Nat} (h : n < 10) : digX (UInt8.ofNat (48 + n)) = true ∧ (UInt8.ofNat (48 + n)).toNat = 48 + n := by
  have e : (UInt8.ofNat (48 + n)).toNat = 48 + n := by simp [UInt8.toNat_ofNat']; omega
  exact ⟨by unfold digX; rw [e]; simp; omega, e⟩
theorem dec_all (u : Nat) : ∀ c ∈ Lib.decDigits u, digX c = true := by
  induction u using Nat.strongRecOn with
  | _ u ih =>
    intro c hc
    rw [Lib.decDigits] at hc
    split at hc
    · rename_i hu; rw [List.mem_singleton] at hc; rw [hc]; exact (dig_of hu).1
    · rcases List.mem_append.1 hc with h | h
      · exact ih (u / 10) (by omega) c h
      · rw [List.mem_singleton] at h; rw [h]; exact (dig_of (Nat.mod_lt _ (by decide))).1
def valX (l : List UInt8) : Nat := l.foldl (fun s c => s * 10 + (c.toNat - 48)) 0
theorem val_dec (u : Nat) : valX (Lib.decDigits u) = u := by
  induction u using Nat.strongRecOn with
  | _ u ih =>
    rw [Lib.decDigits]
    split
    · rename_i h
      show 0 * 10 + ((UInt8.ofNat (48 + u)).toNat - 48) = u
      rw [(dig_of h).2]; omega
    · have := ih (u / 10) (by omega)
      unfold valX at this ⊢
      rw [List.foldl_append, this]
      show u / 10 * 10 + ((UInt8.ofNat (48 + u % 10)).toNat - 48) = u
      rw [(dig_of (Nat.mod_lt u (by decide : 10 > 0))).2]; omega
theorem dec_ne (u : Nat) : ∃ c r, Lib.decDigits u = c :: r ∧ digX c = true := by
  cases h : Lib.decDigits u with
  | nil =>
    rw [Lib.decDigits] at h
    split at h <;> simp at h
  | cons c r => exact ⟨c, r, rfl, dec_all u c (by rw [h]; simp)⟩
def NoDig (x : List UInt8) : Prop := ∀ c r, x = c :: r → digX c = false
theorem dec_inj {u v : Nat} {x y : List UInt8} (hx : NoDig x) (hy : NoDig y) (h : Lib.decDigits u ++ x = Lib.decDigits v ++ y) : u = v ∧ x = y := by
  obtain ⟨h1, h2⟩ := span_eq (dec_all u) (dec_all v) hx hy h
  exact ⟨by rw [← val_dec u, h1, val_dec], h2⟩
theorem itoa_inj {a b : Int} {x y : List UInt8} (hx : NoDig x) (hy : NoDig y) (h : Lib.itoa a ++ x = Lib.itoa b ++ y) : a = b ∧ x = y := by
  unfold Lib.itoa at h
  by_cases ha : a < 0 <;> by_cases hb : b < 0
  · rw [if_pos ha, if_pos hb] at h
    simp only [List.cons_append, List.cons.injEq, true_and] at h
    obtain ⟨h1, h2⟩ := dec_inj hx hy h
    exact ⟨by omega, h2⟩
  · rw [if_pos ha, if_neg hb] at h
    obtain ⟨c, r, hc, hd⟩ := dec_ne b.toNat
    rw [hc] at h
    simp only [List.cons_append, List.cons.injEq] at h
    rw [← h.1] at hd; exact absurd hd (by decide)
  · rw [if_neg ha, if_pos hb] at h
    obtain ⟨c, r, hc, hd⟩ := dec_ne a.toNat
    rw [hc] at h
    simp only [List.cons_append, List.cons.injEq] at h
    rw [h.1] at hd; exact absurd hd (by decide)
  · rw [if_neg ha, if_neg hb] at h
    obtain ⟨h1, h2⟩ := dec_inj hx hy h
    exact ⟨by omega, h2⟩
theorem esc_head (c : UInt8) : ∃ d r, escX c = d :: r ∧ d ≠ 39 := by
  unfold escX
  split; exact ⟨_, _, rfl, by decide⟩
  split; exact ⟨_, _, rfl, by decide⟩
  split; exact ⟨_, _, rfl, by decide⟩
  rename_i h1 h2 h3
  exact ⟨_, _, rfl, fun e => h3 (.inl e)⟩
theorem esc_inj {c d : UInt8} {x y : List UInt8} (h : escX c ++ x = escX d ++ y) : c = d ∧ x = y := by
  unfold escX at h
  split at h <;> split at h <;> (try split at h) <;> (try split at h) <;> (try split at h) <;> (try split at h) <;> simp_all <;> (first | done | (rename_i h1 h2 h3; rcases h3 with rfl | rfl <;> simp_all) | skip)
theorem quo_inj : ∀ {a b x y : List UInt8}, a.flatMap escX ++ 39 :: x = b.flatMap escX ++ 39 :: y → a = b ∧ x = y
  | [], [], x, y, h => ⟨rfl, by simpa using h⟩
  | [], d :: b, x, y, h => by
    obtain ⟨e, r, he, hne⟩ := esc_head d
    rw [List.flatMap_cons, he] at h
    simp at h
    exact absurd h.1.symm hne
  | c :: a, [], x, y, h => by
    obtain ⟨e, r, he, hne⟩ := esc_head c
    rw [List.flatMap_cons, he] at h
    simp at h
    exact absurd h.1 hne
  | c :: a, d :: b, x, y, h => by
    rw [List.flatMap_cons, List.flatMap_cons, List.append_assoc, List.append_assoc] at h
    obtain ⟨h1, h2⟩ := esc_inj h
    obtain ⟨h3, h4⟩ := quo_inj h2
    exact ⟨by rw [h1, h3], h4⟩
def midX (c : UInt8) : Bool := !(c == 39 || c == 40 || c == 41 || c == 44 || c == 91 || c == 93 || c == 123 || c == 124)
structure NB (nm : List UInt8) : Prop where
  mid : ∀ c ∈ nm, midX c = true
  one : ∃ c r, nm = c :: r ∧ digX c = false ∧ c ≠ 95
  two : ∀ c r, nm = 45 :: c :: r → digX c = false
def Stp (x : List UInt8) : Prop := ∀ c r, x = c :: r → c = 40 ∨ c = 41 ∨ c = 44 ∨ c = 93 ∨ c = 124
def Trm (x : List UInt8) : Prop := ∀ c r, x = c :: r → c = 41 ∨ c = 44 ∨ c = 93 ∨ c = 124
theorem Trm.stp {x : List UInt8} (h : Trm x) : Stp x := fun c r e => (h c r e).elim (fun h => .inr (.inl h)) fun h => .inr (.inr h)
theorem Trm.dig {x : List UInt8} (h : Trm x) : NoDig x := fun c r e => by rcases h c r e with rfl | rfl | rfl | rfl <;> rfl
theorem Stp.mid {x : List UInt8} (h : Stp x) : ∀ c r, x = c :: r → midX c = false := fun c r e => by rcases h c r e with rfl | rfl | rfl | rfl | rfl <;> rfl
variable {bare : List UInt8 → Bool} (hb : ∀ nm, bare nm = true → NB nm)
include hb
theorem fun_inj {a b x y : List UInt8} (hx : Stp x) (hy : Stp y) (h : funX bare a ++ x = funX bare b ++ y) : a = b ∧ x = y := by
  unfold funX at h
  cases ha : bare a <;> cases hbb : bare b <;> simp only [ha, hbb, if_true, if_false, Bool.false_eq_true] at h
  · unfold quoX at h
    simp only [List.cons_append, List.append_assoc, List.cons.injEq, true_and, List.nil_append] at h
    exact quo_inj h
  · obtain ⟨c, r, e, _⟩ := (hb b hbb).one
    have := (hb b hbb).mid c (by rw [e]; simp)
    rw [e] at h
    unfold quoX at h
    simp only [List.cons_append, List.cons.injEq] at h
    rw [← h.1] at this; exact absurd this (by decide)
  · obtain ⟨c, r, e, _⟩ := (hb a ha).one
    have := (hb a ha).mid c (by rw [e]; simp)
    rw [e] at h
    unfold quoX at h
    simp only [List.cons_append, List.cons.injEq] at h
    rw [h.1] at this; exact absurd this (by decide)
  · exact span_eq (hb a ha).mid (hb b hbb).mid hx.mid hy.mid h
theorem fun_head (nm : List UInt8) : ∃ c r, funX bare nm = c :: r ∧ digX c = false ∧ c ≠ 95 ∧ c ≠ 91 ∧ c ≠ 123 ∧ c ≠ 93 ∧ c ≠ 41 ∧ c ≠ 44 ∧ c ≠ 124 ∧ ∀ d q, c = 45 → r = d :: q → digX d = false := by
  unfold funX
  cases h : bare nm
  · refine ⟨39, nm.flatMap escX ++ [39], rfl, by decide, by decide, by decide, by decide, by decide, by decide, by decide, by decide, fun d q h => absurd h (by decide)⟩
  · obtain ⟨c, r, e, h1, h2⟩ := (hb nm h).one
    have hm := (hb nm h).mid c (by rw [e]; simp)
    have h0 : ∀ k : UInt8, midX k = false → c ≠ k := fun k hk e => by rw [e, hk] at hm; cases hm
    refine ⟨c, r, by simp [e], h1, h2, h0 _ (by decide), h0 _ (by decide), h0 _ (by decide), h0 _ (by decide), h0 _ (by decide), h0 _ (by decide), fun d q hc hr => ?_⟩
    exact (hb nm h).two d q (by rw [e, hc, hr])
def tagX : T → Nat
  | .v _ => 0
  | .n _ => 1
  | .a nm => if nm = [91, 93] then 2 else if nm = [123, 125] then 3 else 4
  | .c nm args => if nm = [46] ∧ args.length = 2 then 2 else 4
def clsX : List UInt8 → Nat
  | [] => 5
  | c :: r => if c = 95 then 0 else if digX c = true then 1 else if c = 45 then (match r with | d :: _ => if digX d = true then 1 else 4 | [] => 4) else if c = 91 then 2 else if c = 123 then 3 else 4
theorem cls_cons (c : UInt8) (r : List UInt8) : clsX (c :: r) = if c = 95 then 0 else if digX c = true then 1 else if c = 45 then (match r with | d :: _ => if digX d = true then 1 else 4 | [] => 4) else if c = 91 then 2 else if c = 123 then 3 else 4 := rfl
theorem tag_a (nm : List UInt8) : tagX (.a nm) = if nm = [91, 93] then 2 else if nm = [123, 125] then 3 else 4 := rfl
theorem tag_c (nm : List UInt8) (args : List T) : tagX (.c nm args) = if nm = [46] ∧ args.length = 2 then 2 else 4 := rfl
theorem cls_fun (nm : List UInt8) {x : List UInt8} (hx : Stp x) : clsX (funX bare nm ++ x) = 4 := by
  obtain ⟨c, r, e, h1, h2, h3, h4, _, _, _, _, h9⟩ := fun_head hb nm
  rw [e, List.cons_append, cls_cons hb]
  rw [if_neg h2, if_neg (by rw [h1]; decide)]
  by_cases h5 : c = 45
  · rw [if_pos h5]
    cases r with
    | nil =>
      cases x with
      | nil => rfl
      | cons d q =>
        have : digX d = false := by rcases hx d q rfl with rfl | rfl | rfl | rfl | rfl <;> rfl
        simp [this]
    | cons d q =>
      have := h9 d q h5 rfl
      simp [this]
  · rw [if_neg h5, if_neg h3, if_neg h4]
theorem itoa_cls (n : Int) (x : List UInt8) : clsX (Lib.itoa n ++ x) = 1 := by
  unfold Lib.itoa
  by_cases h : n < 0
  · rw [if_pos h]
    obtain ⟨c, r, e, hd⟩ := dec_ne n.natAbs
    rw [e]
    simp [clsX, hd, show digX 45 = false by decide]
  · rw [if_neg h]
    obtain ⟨c, r, e, hd⟩ := dec_ne n.toNat
    rw [e]
    have : c ≠ 95 := fun e => by rw [e] at hd; exact absurd hd (by decide)
    simp [clsX, hd, this]
theorem cls_tx (t : T) {x : List UInt8} (hx : Trm x) : clsX (t.tx bare ++ x) = tagX t := by
  cases t with
  | v n => rw [tx_v]; simp [clsX, tagX]
  | n n => rw [tx_n, itoa_cls hb]; rfl
  | a nm =>
    rw [tx_a, tag_a hb]
    unfold atmX
    by_cases h1 : nm = [91, 93]
    · subst h1; simp [clsX, show digX 91 = false by decide]
    · by_cases h2 : nm = [123, 125]
      · subst h2; simp [clsX, show digX 123 = false by decide]
      · rw [if_neg (fun h => h.elim h1 h2), if_neg h1, if_neg h2, cls_fun hb nm hx.stp]
  | c nm args =>
    by_cases h : nm = [46] ∧ args.length = 2
    · rw [tx_list bare h]; simp [clsX, tagX, h, show digX 91 = false by decide]
    · rw [tx_comp bare h, List.append_assoc, List.cons_append, cls_fun hb nm (fun c r e => .inl (by simp at e; exact e.1.symm))]
      simp [tagX, h]
theorem tx_head (t : T) : ∃ c r, t.tx bare = c :: r ∧ c ≠ 41 ∧ c ≠ 44 ∧ c ≠ 93 ∧ c ≠ 124 := by
  have hn : ∀ n : Int, ∃ c r, Lib.itoa n = c :: r ∧ c ≠ 41 ∧ c ≠ 44 ∧ c ≠ 93 ∧ c ≠ 124 := fun n => by
    unfold Lib.itoa
    by_cases h : n < 0
    · rw [if_pos h]; exact ⟨_, _, rfl, by decide, by decide, by decide, by decide⟩
    · rw [if_neg h]
      obtain ⟨c, r, e, hd⟩ := dec_ne n.toNat
      have h0 : ∀ k : UInt8, digX k = false → c ≠ k := fun k hk e => by rw [e, hk] at hd; cases hd
      exact ⟨c, r, e, h0 _ (by decide), h0 _ (by decide), h0 _ (by decide), h0 _ (by decide)⟩
  have hf : ∀ nm z, ∃ c r, funX bare nm ++ z = c :: r ∧ c ≠ 41 ∧ c ≠ 44 ∧ c ≠ 93 ∧ c ≠ 124 := fun nm z => by
    obtain ⟨c, r, e, _, _, _, _, h1, h2, h3, h4, _⟩ := fun_head hb nm
    exact ⟨c, r ++ z, by rw [e]; rfl, h2, h3, h1, h4⟩
  cases t with
  | v n => exact ⟨_, _, tx_v bare n, by decide, by decide, by decide, by decide⟩
  | n n => rw [tx_n]; exact hn n
  | a nm =>
    rw [tx_a]
    unfold atmX
    by_cases h : nm = [91, 93] ∨ nm = [123, 125]
    · rw [if_pos h]
      rcases h with rfl | rfl
      · exact ⟨_, _, rfl, by decide, by decide, by decide, by decide⟩
      · exact ⟨_, _, rfl, by decide, by decide, by decide, by decide⟩
    · rw [if_neg h]; have := hf nm []; rwa [List.append_nil] at this
  | c nm args =>
    by_cases h : nm = [46] ∧ args.length = 2
    · rw [tx_list bare h]; exact ⟨_, _, rfl, by decide, by decide, by decide, by decide⟩
    · rw [tx_comp bare h]; exact hf nm _
def Cls (x : List UInt8) : Prop := ∃ c r, x = c :: r ∧ (c = 41 ∨ c = 93 ∨ c = 124)
theorem Cls.trm {x : List UInt8} (h : Cls x) : Trm x := fun c r e => by
  obtain ⟨d, q, e2, h2⟩ := h
  rw [e] at e2; cases e2
  rcases h2 with h2 | h2 | h2
  · exact .inl h2
  · exact .inr (.inr (.inl h2))
  · exact .inr (.inr (.inr h2))
def One (bare : List UInt8 → Bool) (a : T) : Prop := ∀ u x y, Trm x → Trm y → a.tx bare ++ x = u.tx bare ++ y → a = u ∧ x = y
theorem comma_trm (x : List UInt8) : Trm (44 :: x) := fun c r e => by cases e; exact .inr (.inl rfl)
theorem join_inj : ∀ (ls bs : List T) (x y : List UInt8), (∀ a ∈ ls, One bare a) → Cls x → Cls y → joinX (ls.map (T.tx bare)) ++ x = joinX (bs.map (T.tx bare)) ++ y → ls = bs ∧ x = y
  | [], [], x, y, _, _, _, h => ⟨rfl, h⟩
  | [], b :: bs, x, y, _, hx, _, h => by
    obtain ⟨c, r, e, h1, _, h3, h4⟩ := tx_head hb b
    obtain ⟨d, q, e2, h2⟩ := hx
    have : ∃ z, joinX ((b :: bs).map (T.tx bare)) = c :: z := by
      cases bs with
      | nil => exact ⟨r, by simp [joinX, e]⟩
      | cons b2 bs => exact ⟨_, by simp only [List.map_cons, joinX, e, List.cons_append]; rfl⟩
    obtain ⟨z, hz⟩ := this
    rw [hz, e2] at h
    simp [joinX] at h
    rcases h2 with rfl | rfl | rfl
    · exact absurd h.1.symm h1
    · exact absurd h.1.symm h3
    · exact absurd h.1.symm h4
  | a :: ls, [], x, y, _, _, hy, h => by
    obtain ⟨c, r, e, h1, _, h3, h4⟩ := tx_head hb a
    obtain ⟨d, q, e2, h2⟩ := hy
    have : ∃ z, joinX ((a :: ls).map (T.tx bare)) = c :: z := by
      cases ls with
      | nil => exact ⟨r, by simp [joinX, e]⟩
      | cons b2 bs => exact ⟨_, by simp only [List.map_cons, joinX, e, List.cons_append]; rfl⟩
    obtain ⟨z, hz⟩ := this
    rw [hz, e2] at h
    simp [joinX] at h
    rcases h2 with rfl | rfl | rfl
    · exact absurd h.1 h1
    · exact absurd h.1 h3
    · exact absurd h.1 h4
  | [a], [b], x, y, ha, hx, hy, h => by
    obtain ⟨h1, h2⟩ := ha a (by simp) b x y (Cls.trm hb hx) (Cls.trm hb hy) (by simpa [joinX] using h)
    exact ⟨by rw [h1], h2⟩
  | [a], b :: b2 :: bs, x, y, ha, hx, hy, h => by
    have e : joinX ((b :: b2 :: bs).map (T.tx bare)) ++ y = b.tx bare ++ 44 :: (joinX ((b2 :: bs).map (T.tx bare)) ++ y) := by simp [joinX]
    rw [e] at h
    obtain ⟨_, h2⟩ := ha a (by simp) b x _ (Cls.trm hb hx) (comma_trm hb _) (by simpa [joinX] using h)
    obtain ⟨d, q, e2, h3⟩ := hx
    rw [e2] at h2
    simp only [List.cons.injEq] at h2
    rcases h3 with rfl | rfl | rfl
    · exact absurd h2.1 (by decide)
    · exact absurd h2.1 (by decide)
    · exact absurd h2.1 (by decide)
  | a :: a2 :: ls, [b], x, y, ha, hx, hy, h => by
    have e : joinX ((a :: a2 :: ls).map (T.tx bare)) ++ x = a.tx bare ++ 44 :: (joinX ((a2 :: ls).map (T.tx bare)) ++ x) := by simp [joinX]
    rw [e] at h
    obtain ⟨_, h2⟩ := ha a (by simp) b _ y (comma_trm hb _) (Cls.trm hb hy) (by simpa [joinX] using h)
    obtain ⟨d, q, e2, h3⟩ := hy
    rw [e2] at h2
    simp only [List.cons.injEq] at h2
    rcases h3 with rfl | rfl | rfl
    · exact absurd h2.1 (by decide)
    · exact absurd h2.1 (by decide)
    · exact absurd h2.1 (by decide)
  | a :: a2 :: ls, b :: b2 :: bs, x, y, ha, hx, hy, h => by
    have e : joinX ((a :: a2 :: ls).map (T.tx bare)) ++ x = a.tx bare ++ 44 :: (joinX ((a2 :: ls).map (T.tx bare)) ++ x) := by simp [joinX]
    have e' : joinX ((b :: b2 :: bs).map (T.tx bare)) ++ y = b.tx bare ++ 44 :: (joinX ((b2 :: bs).map (T.tx bare)) ++ y) := by simp [joinX]
    rw [e, e'] at h
    obtain ⟨h1, h2⟩ := ha a (by simp) b _ _ (comma_trm hb _) (comma_trm hb _) h
    simp only [List.cons.injEq, true_and] at h2
    obtain ⟨h3, h4⟩ := join_inj (a2 :: ls) (b2 :: bs) x y (fun c hc => ha c (by simp only [List.mem_cons] at hc ⊢; exact .inr hc)) hx hy h2
    exact ⟨by rw [h1, h3], h4⟩
end Go.Proofs.YtfkbbbjicaedmaaGreatDoor
