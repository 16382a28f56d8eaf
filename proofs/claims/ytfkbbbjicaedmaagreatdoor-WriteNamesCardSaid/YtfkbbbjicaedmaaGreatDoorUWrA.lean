/-
  The text of a tree, plain: names in quotes where they need them, numbers, lists; and that texts with a terminator behind them tell the tree. No condition but on which names are bare.
-/
import Derived.Test.YtfkbbbjicaedmaaGreatDoorUME
import Derived.Lib.ItoaNum
namespace Go.Proofs.YtfkbbbjicaedmaaGreatDoor
set_option linter.unusedVariables false
set_option linter.unusedSimpArgs false
set_option linter.unusedSectionVars false
def escX (c : UInt8) : List UInt8 := if c = 10 then [92, 110] else if c = 9 then [92, 116] else if c = 39 ∨ c = 92 then [92, c] else [c]
def quoX (nm : List UInt8) : List UInt8 := 39 :: (nm.flatMap escX ++ [39])
def funX (bare : List UInt8 → Bool) (nm : List UInt8) : List UInt8 := if bare nm = true then nm else quoX nm
def atmX (bare : List UInt8 → Bool) (nm : List UInt8) : List UInt8 := if nm = [91, 93] ∨ nm = [123, 125] then nm else funX bare nm
def joinX : List (List UInt8) → List UInt8
  | [] => []
  | [x] => x
  | x :: y :: r => x ++ 44 :: joinX (y :: r)
def isNilX : T → Bool
  | .a nm => nm == [91, 93]
  | _ => false
def endX (f : T → List UInt8) (e : T) : List UInt8 := if isNilX e = true then [93] else 124 :: (f e ++ [93])
def txF (bare : List UInt8 → Bool) : Nat → T → List UInt8
  | 0, _ => []
  | n + 1, .v x => 95 :: Lib.itoa x
  | n + 1, .n x => Lib.itoa x
  | n + 1, .a nm => atmX bare nm
  | n + 1, .c nm args => if nm = [46] ∧ args.length = 2 then 91 :: (joinX ((T.items (.c nm args)).1.map (txF bare n)) ++ endX (txF bare n) (T.items (.c nm args)).2) else funX bare nm ++ 40 :: (joinX (args.map (txF bare n)) ++ [41])
def T.tx (bare : List UInt8 → Bool) (t : T) : List UInt8 := txF bare t.ns t
theorem ns_pos (t : T) : 0 < t.ns := by cases t <;> simp [T.ns]; omega
theorem ns_mem {t : T} {ts : List T} (h : t ∈ ts) : t.ns ≤ nsT ts := by
  induction ts with
  | nil => simp at h
  | cons u us ih =>
    rcases List.mem_cons.1 h with rfl | h'
    · simp [nsT]
    · have := ih h'; simp [nsT]; omega
theorem itF_less : ∀ (n : Nat) (t : T), (∀ u ∈ (itF n t).1, u.ns < t.ns) ∧ (itF n t).2.ns ≤ t.ns
  | 0, t => ⟨fun u hu => by simp [itF] at hu, by simp [itF]⟩
  | n + 1, .v x => ⟨fun u hu => by simp [itF] at hu, by simp [itF]⟩
  | n + 1, .n x => ⟨fun u hu => by simp [itF] at hu, by simp [itF]⟩
  | n + 1, .a x => ⟨fun u hu => by simp [itF] at hu, by simp [itF]⟩
  | n + 1, .c nm [] => ⟨fun u hu => by simp [itF] at hu, by simp [itF]⟩
  | n + 1, .c nm [x] => ⟨fun u hu => by simp [itF] at hu, by simp [itF]⟩
  | n + 1, .c nm [x, l] => by
    have ih := itF_less n l
    by_cases h : nm = [46]
    · have e : itF (n + 1) (.c nm [x, l]) = (x :: (itF n l).1, (itF n l).2) := by simp [itF, h]
      have hp := ns_pos x
      rw [e]
      refine ⟨fun u hu => ?_, ?_⟩
      · rcases List.mem_cons.1 hu with rfl | h'
        · simp [T.ns, nsT]; omega
        · have := ih.1 u h'; simp [T.ns, nsT]; omega
      · have := ih.2; simp [T.ns, nsT]; omega
    · have e : itF (n + 1) (.c nm [x, l]) = ([], .c nm [x, l]) := by simp [itF, h]
      rw [e]
      exact ⟨fun u hu => by simp at hu, Nat.le_refl _⟩
  | n + 1, .c nm (x :: y :: z :: r) => ⟨fun u hu => by simp [itF] at hu, by simp [itF]⟩
theorem items_less {nm : List UInt8} {args : List T} (h : nm = [46] ∧ args.length = 2) : (∀ u ∈ (T.items (.c nm args)).1, u.ns < (T.c nm args).ns) ∧ (T.items (.c nm args)).2.ns < (T.c nm args).ns := by
  match args, h with
  | [x, l], ⟨hn, _⟩ =>
    obtain ⟨m, hm⟩ : ∃ m, (T.c nm [x, l]).nd = m + 1 := ⟨_, by simp only [T.nd]; exact Nat.add_comm _ _⟩
    have e : T.items (.c nm [x, l]) = (x :: (itF m l).1, (itF m l).2) := by
      unfold T.items
      rw [hm]
      simp [itF, hn]
    have ih := itF_less m l
    have hx := ns_pos x
    have hl := ns_pos l
    rw [e]
    refine ⟨fun u hu => ?_, ?_⟩
    · rcases List.mem_cons.1 hu with rfl | h'
      · simp [T.ns, nsT]; omega
      · have := ih.1 u h'; simp [T.ns, nsT]; omega
    · have := ih.2; simp [T.ns, nsT]; omega
theorem txF_fuel (bare : List UInt8 → Bool) : ∀ (n : Nat) (t : T), t.ns ≤ n → txF bare n t = txF bare t.ns t := by
  have key : ∀ (k : Nat) (t : T), t.ns ≤ k → ∀ n, t.ns ≤ n → ∀ m, t.ns ≤ m → txF bare n t = txF bare m t := by
    intro k
    induction k with
    | zero => intro t ht; have := ns_pos t; omega
    | succ k ih =>
      intro t ht n hn m hm
      have hp := ns_pos t
      obtain ⟨n, rfl⟩ : ∃ n', n = n' + 1 := ⟨n - 1, by omega⟩
      obtain ⟨m, rfl⟩ : ∃ m', m = m' + 1 := ⟨m - 1, by omega⟩
      cases t with
      | v x => rfl
      | n x => rfl
      | a x => rfl
      | c nm args =>
        by_cases h : nm = [46] ∧ args.length = 2
        · obtain ⟨h1, h2⟩ := items_less h
          have e1 : (T.items (.c nm args)).1.map (txF bare n) = (T.items (.c nm args)).1.map (txF bare m) := List.map_congr_left fun u hu => by
            have := h1 u hu
            exact ih u (by omega) n (by omega) m (by omega)
          have e2 : txF bare n (T.items (.c nm args)).2 = txF bare m (T.items (.c nm args)).2 := ih _ (by omega) n (by omega) m (by omega)
          simp only [txF, if_pos h, e1, endX, e2]
        · have e1 : args.map (txF bare n) = args.map (txF bare m) := List.map_congr_left fun u hu => by
            have := ns_mem hu
            have h3 : (T.c nm args).ns = 1 + nsT args := by simp [T.ns]
            exact ih u (by omega) n (by omega) m (by omega)
          simp only [txF, if_neg h, e1]
  exact fun n t h => key t.ns t (Nat.le_refl _) n h _ (Nat.le_refl _)
theorem tx_v (bare : List UInt8 → Bool) (x : Int) : (T.v x).tx bare = 95 :: Lib.itoa x := rfl
theorem tx_n (bare : List UInt8 → Bool) (x : Int) : (T.n x).tx bare = Lib.itoa x := rfl
theorem tx_a (bare : List UInt8 → Bool) (nm : List UInt8) : (T.a nm).tx bare = atmX bare nm := rfl
theorem tx_list (bare : List UInt8 → Bool) {nm : List UInt8} {args : List T} (h : nm = [46] ∧ args.length = 2) : (T.c nm args).tx bare = 91 :: (joinX ((T.items (.c nm args)).1.map (T.tx bare)) ++ endX (T.tx bare) (T.items (.c nm args)).2) := by
  obtain ⟨h1, h2⟩ := items_less h
  unfold T.tx
  have h3 : (T.c nm args).ns = nsT args + 1 := by simp [T.ns]; omega
  rw [h3] at h1 h2 ⊢
  simp only [txF, if_pos h]
  have e1 : (T.items (.c nm args)).1.map (txF bare (nsT args)) = (T.items (.c nm args)).1.map (T.tx bare) := List.map_congr_left fun u hu => txF_fuel bare _ u (by have := h1 u hu; omega)
  have e2 : txF bare (nsT args) (T.items (.c nm args)).2 = T.tx bare (T.items (.c nm args)).2 := txF_fuel bare _ _ (by omega)
  rw [e1]
  simp only [endX, e2]
  rfl
theorem tx_comp (bare : List UInt8 → Bool) {nm : List UInt8} {args : List T} (h : ¬ (nm = [46] ∧ args.length = 2)) : (T.c nm args).tx bare = funX bare nm ++ 40 :: (joinX (args.map (T.tx bare)) ++ [41]) := by
  unfold T.tx
  rw [show (T.c nm args).ns = nsT args + 1 by simp [T.ns]; omega]
  simp only [txF, if_neg h]
  have e1 : args.map (txF bare (nsT args)) = args.map (T.tx bare) := List.map_congr_left fun u hu => txF_fuel bare _ u (ns_mem hu)
  rw [e1]
  rfl
end Go.Proofs.YtfkbbbjicaedmaaGreatDoor
namespace Go.Proofs.YtfkbbbjicaedmaaGreatDoor
set_option linter.unusedVariables false
set_option linter.unusedSimpArgs false
set_option linter.unusedSectionVars false
def digX (c : UInt8) : Bool := decide (48 ≤ c.toNat) && decide (c.toNat ≤ 57)
theorem dig_of {n : Nat} (h : n < 10) : digX (UInt8.ofNat (48 + n)) = true ∧ (UInt8.ofNat (48 + n)).toNat = 48 + n := by
  have e : (UInt8.ofNat (48 + n)).toNat = 48 + n := by simp [UInt8.toNat_ofNat']; omega
  exact ⟨by unfold digX; rw [e]; simp; omega, e⟩
theorem dec_all (u : Nat) : ∀ c ∈ Lib.decDigits u, digX c = true := by
  induction u using Nat.strongRecOn with
  | _ u ih =>
    intro c hc
    rw [Lib.decDigits] at hc
    split at hc
    · rename_i hu; rw [List.mem_singleton] at hc; rw [hc]; exact (dig_of hu).1
    · rcases List.mem_append.1 hc with h | h
      · exact ih (u / 10) (by omega) c h
      · rw [List.mem_singleton] at h; rw [h]; exact (dig_of (Nat.mod_lt _ (by decide))).1
theorem dec_ne (u : Nat) : ∃ c r, Lib.decDigits u = c :: r ∧ digX c = true := by
  cases h : Lib.decDigits u with
  | nil =>
    rw [Lib.decDigits] at h
    split at h <;> simp at h
  | cons c r => exact ⟨c, r, rfl, dec_all u c (by rw [h]; simp)⟩
theorem esc_head (c : UInt8) : ∃ d r, escX c = d :: r ∧ d ≠ 39 := by
  unfold escX
  split; exact ⟨_, _, rfl, by decide⟩
  split; exact ⟨_, _, rfl, by decide⟩
  split; exact ⟨_, _, rfl, by decide⟩
  rename_i h1 h2 h3
  exact ⟨_, _, rfl, fun e => h3 (.inl e)⟩
def midX (c : UInt8) : Bool := !(c == 39 || c == 40 || c == 41 || c == 44 || c == 91 || c == 93 || c == 123 || c == 124)
structure NB (nm : List UInt8) : Prop where
  mid : ∀ c ∈ nm, midX c = true
  one : ∃ c r, nm = c :: r ∧ digX c = false ∧ c ≠ 95
  two : ∀ c r, nm = 45 :: c :: r → digX c = false
variable {bare : List UInt8 → Bool} (hb : ∀ nm, bare nm = true → NB nm)
include hb
def clsX : List UInt8 → Nat
  | [] => 5
  | c :: r => if c = 95 then 0 else if digX c = true then 1 else if c = 45 then (match r with | d :: _ => if digX d = true then 1 else 4 | [] => 4) else if c = 91 then 2 else if c = 123 then 3 else 4
theorem itoa_cls (n : Int) (x : List UInt8) : clsX (Lib.itoa n ++ x) = 1 := by
  unfold Lib.itoa
  by_cases h : n < 0
  · rw [if_pos h]
    obtain ⟨c, r, e, hd⟩ := dec_ne n.natAbs
    rw [e]
    simp [clsX, hd, show digX 45 = false by decide]
  · rw [if_neg h]
    obtain ⟨c, r, e, hd⟩ := dec_ne n.toNat
    rw [e]
    have : c ≠ 95 := fun e => by rw [e] at hd; exact absurd hd (by decide)
    simp [clsX, hd, this]
end Go.Proofs.YtfkbbbjicaedmaaGreatDoor
namespace Go.Proofs.YtfkbbbjicaedmaaGreatDoor
set_option linter.unusedVariables false
set_option linter.unusedSimpArgs false
set_option linter.unusedSectionVars false
theorem items_some {nm : List UInt8} {args : List T} (h : nm = [46] ∧ args.length = 2) : ∃ a ls, (T.items (.c nm args)).1 = a :: ls := by
  match args, h with
  | [x, l], ⟨hn, _⟩ =>
    obtain ⟨m, hm⟩ : ∃ m, (T.c nm [x, l]).nd = m + 1 := ⟨_, by simp only [T.nd]; exact Nat.add_comm _ _⟩
    refine ⟨x, (itF m l).1, ?_⟩
    unfold T.items
    rw [hm]
    simp [itF, hn]
variable {bare : List UInt8 → Bool} (hb : ∀ nm, bare nm = true → NB nm)
end Go.Proofs.YtfkbbbjicaedmaaGreatDoor
