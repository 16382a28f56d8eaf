/-
  How long a term's text is; which names can be told. Condition: numbers of 64 bits.
-/
import Derived.Test.YtfkbbbjicaedmaaGreatDoorQWrL
namespace Go.Proofs.YtfkbbbjicaedmaaGreatDoor
set_option linter.unusedVariables false
set_option linter.unusedSimpArgs false
theorem dec_len : ∀ (k u : Nat), 0 < k → u < 10 ^ k → (Lib.decDigits u).length ≤ k
  | 0, u, h, _ => absurd h (Nat.lt_irrefl _)
  | k + 1, u, _, h => by
    rw [Lib.decDigits]
    split
    · simp
    · rename_i hu
      have h1 : u / 10 < 10 ^ k := by rw [Nat.pow_succ] at h; omega
      have hk : 0 < k := by
        rcases Nat.eq_zero_or_pos k with rfl | h2
        · simp at h1; omega
        · exact h2
      have := dec_len k (u / 10) hk h1
      simp; omega
theorem itoa_len {n : Int} (h : -9223372036854775808 ≤ n ∧ n ≤ 9223372036854775807) : (Lib.itoa n).length ≤ 21 := by
  unfold Lib.itoa
  split
  · have := dec_len 20 n.natAbs (by decide) (by omega)
    simp; omega
  · have := dec_len 20 n.toNat (by decide) (by omega)
    omega
theorem esc_le (c : UInt8) : (escX c).length ≤ 2 := by
  unfold escX; split; decide; split; decide; split; simp; simp
theorem escs_le (nm : List UInt8) : (nm.flatMap escX).length ≤ 2 * nm.length := by
  induction nm with
  | nil => simp
  | cons c cs ih => have := esc_le c; rw [List.flatMap_cons, List.length_append, List.length_cons]; omega
theorem fun_len (bare : List UInt8 → Bool) (nm : List UInt8) : (funX bare nm).length ≤ 2 * nm.length + 2 := by
  unfold funX quoX
  split
  · omega
  · have := escs_le nm
    simp only [List.length_cons, List.length_append, List.length_nil]; omega
theorem atm_len (bare : List UInt8 → Bool) (nm : List UInt8) : (atmX bare nm).length ≤ 2 * nm.length + 2 := by
  unfold atmX
  split
  · omega
  · exact fun_len bare nm
inductive T.fine : T → Prop
  | v {x : Int} (h : -9223372036854775808 ≤ x ∧ x ≤ 9223372036854775807) : T.fine (.v x)
  | n {x : Int} (h : -9223372036854775808 ≤ x ∧ x ≤ 9223372036854775807) : T.fine (.n x)
  | a {nm : List UInt8} (h : nm.length ≤ 64) : T.fine (.a nm)
  | c {nm : List UInt8} {args : List T} (h : nm.length ≤ 64) (ha : ∀ x ∈ args, T.fine x) : T.fine (.c nm args)
def sumN (f : T → Nat) (ts : List T) : Nat := (ts.map f).sum
theorem join_sum (f : T → List UInt8) : ∀ ts : List T, (joinX (ts.map f)).length ≤ sumN (fun t => (f t).length) ts + ts.length
  | [] => by simp [joinX]
  | [x] => by simp [joinX, sumN]
  | x :: y :: r => by
    have ih := join_sum f (y :: r)
    simp only [List.map_cons, joinX, List.length_append, List.length_cons, sumN, List.sum_cons] at ih ⊢
    omega
theorem sum_le200 {f : T → Nat} {ts : List T} (h : ∀ t ∈ ts, f t + 50 ≤ 200 * t.ns) : sumN f ts + 50 * ts.length ≤ 200 * nsT ts := by
  induction ts with
  | nil => simp [sumN, nsT]
  | cons t ts ih =>
    have h1 := h t (by simp)
    have h2 := ih fun u hu => h u (by simp [hu])
    simp only [sumN, List.map_cons, List.sum_cons, nsT, List.length_cons] at h2 ⊢
    omega
theorem itF_sum : ∀ (n : Nat) (t : T), nsT (itF n t).1 + (itF n t).2.ns ≤ t.ns ∧ (t.fine → (∀ u ∈ (itF n t).1, u.fine) ∧ (itF n t).2.fine)
  | 0, t => ⟨by simp [itF, nsT], fun h => ⟨fun u hu => by simp [itF] at hu, by simpa [itF] using h⟩⟩
  | n + 1, .v x => ⟨by simp [itF, nsT], fun h => ⟨fun u hu => by simp [itF] at hu, by simpa [itF] using h⟩⟩
  | n + 1, .n x => ⟨by simp [itF, nsT], fun h => ⟨fun u hu => by simp [itF] at hu, by simpa [itF] using h⟩⟩
  | n + 1, .a x => ⟨by simp [itF, nsT], fun h => ⟨fun u hu => by simp [itF] at hu, by simpa [itF] using h⟩⟩
  | n + 1, .c nm [] => ⟨by simp [itF, nsT], fun h => ⟨fun u hu => by simp [itF] at hu, by simpa [itF] using h⟩⟩
  | n + 1, .c nm [x] => ⟨by simp [itF, nsT], fun h => ⟨fun u hu => by simp [itF] at hu, by simpa [itF] using h⟩⟩
  | n + 1, .c nm [x, l] => by
    have ih := itF_sum n l
    by_cases h : nm = [46]
    · have e : itF (n + 1) (.c nm [x, l]) = (x :: (itF n l).1, (itF n l).2) := by simp [itF, h]
      rw [e]
      refine ⟨by simp only [nsT, T.ns]; omega, fun hf => ?_⟩
      cases hf with
      | c _ ha =>
        obtain ⟨h1, h2⟩ := ih.2 (ha l (by simp))
        exact ⟨fun u hu => by rcases List.mem_cons.1 hu with rfl | h'; exact ha _ (by simp); exact h1 u h', h2⟩
    · have e : itF (n + 1) (.c nm [x, l]) = ([], .c nm [x, l]) := by simp [itF, h]
      rw [e]; exact ⟨by simp [nsT], fun hf => ⟨fun u hu => by simp at hu, hf⟩⟩
  | n + 1, .c nm (x :: y :: z :: r) => ⟨by simp [itF, nsT], fun h => ⟨fun u hu => by simp [itF] at hu, by simpa [itF] using h⟩⟩
theorem tx_len (bare : List UInt8 → Bool) : ∀ (k : Nat) (t : T), t.ns ≤ k → t.fine → (t.tx bare).length + 50 ≤ 200 * t.ns
  | 0, t, hk, _ => by have := ns_pos t; omega
  | k + 1, t, hk, hf => by
    cases hf with
    | v h => rw [tx_v]; have := itoa_len h; simp [T.ns]; omega
    | n h => rw [tx_n]; have := itoa_len h; simp [T.ns]; omega
    | @a nm h => rw [tx_a]; have := atm_len bare nm; simp [T.ns]; omega
    | @c nm args h ha =>
      by_cases hl : nm = [46] ∧ args.length = 2
      · obtain ⟨h1, h2⟩ := items_less hl
        obtain ⟨s1, s2⟩ := itF_sum (T.c nm args).nd (.c nm args)
        change nsT (T.items (.c nm args)).1 + (T.items (.c nm args)).2.ns ≤ _ at s1
        change _ → (∀ u ∈ (T.items (.c nm args)).1, u.fine) ∧ (T.items (.c nm args)).2.fine at s2
        obtain ⟨f1, f2⟩ := s2 (.c h ha)
        have e1 := sum_le200 (f := fun t => (t.tx bare).length) (ts := (T.items (.c nm args)).1) fun u hu => tx_len bare k u (by have := h1 u hu; omega) (f1 u hu)
        have e2 := tx_len bare k (T.items (.c nm args)).2 (by omega) f2
        have e3 := join_sum (T.tx bare) (T.items (.c nm args)).1
        obtain ⟨a, ls, hls⟩ := items_some hl
        have e4 : 1 ≤ (T.items (.c nm args)).1.length := by rw [hls]; simp
        rw [tx_list bare hl]
        have e5 : (endX (T.tx bare) (T.items (.c nm args)).2).length ≤ ((T.items (.c nm args)).2.tx bare).length + 2 := by
          unfold endX; split <;> simp
        simp only [List.length_cons, List.length_append]
        omega
      · have e1 := sum_le200 (f := fun t => (t.tx bare).length) (ts := args) fun u hu => tx_len bare k u (by have := ns_mem hu; simp [T.ns] at hk; omega) (ha u hu)
        have e3 := join_sum (T.tx bare) args
        have e4 := fun_len bare nm
        rw [tx_comp bare hl]
        simp only [List.length_cons, List.length_append, List.length_nil, T.ns]
        omega
theorem fine_of {B : Nat} {w : World} {t : Tm} {a : Option Addr} {c : Nat} (h : TmAt B w t a c) : t.ok = true → t.tree.fine := by
  induction h with
  | mk t a c A C hk hi hn hl hc ha ih =>
    intro hok
    have h' : (Lit.int .i64 t.i).wf = true := hi
    simp [Lit.wf] at h'
    rcases Tm.ok_kind hok with hk1 | hk1 | hk1 | hk1
    · rw [tree_1 hk1]; exact .v ⟨h'.1, h'.2⟩
    · rw [tree_2 hk1]; exact .n ⟨h'.1, h'.2⟩
    · rw [tree_3 hk1]; exact .a (ok_nm hok (.inl hk1))
    · rw [tree_4 hk1]
      refine .c (ok_nm hok (.inr hk1)) fun x hx => ?_
      obtain ⟨u, hu, rfl⟩ := List.mem_map.1 hx
      obtain ⟨j, hj⟩ := List.getElem?_of_mem hu
      exact ih j u hj ((Tm.ok_args hok hk1).2.2.1 u hu)
theorem tx_short {B : Nat} {w : World} {t : Tm} {a : Option Addr} {c : Nat} (h : TmAt B w t a c) (hr : t.right = true) (bare : List UInt8 → Bool) : (t.tree.tx bare).length ≤ 400000 := by
  obtain ⟨h1, h2, _⟩ := right_of.1 hr
  have := tx_len bare t.tree.ns t.tree (Nat.le_refl _) (fine_of h h1)
  have h3 := (Tm.tree_ns h1).1
  omega
def tellX (L : List UInt8) : Bool := L.all fun c => c == 9 || c == 10 || (decide (32 ≤ c.toNat) && decide (c.toNat ≤ 126))
mutual
def T.tell : T → Bool
  | .v _ => true
  | .n _ => true
  | .a nm => tellX nm
  | .c nm args => tellX nm && tellL args
def tellL : List T → Bool
  | [] => true
  | t :: ts => t.tell && tellL ts
end
theorem tellL_all (ts : List T) : tellL ts = ts.all T.tell := by
  induction ts with
  | nil => rfl
  | cons t ts ih => simp [tellL, ih]
end Go.Proofs.YtfkbbbjicaedmaaGreatDoor
