/-
  EpochOrder, what the walk carries from round to round. Conditions: as in the texts that it imports.
-/
import Derived.Test.YtiiaajdkkofbjaaOrder
import Derived.Laws.AppendOwnNone
import Derived.OwnWalk
namespace Go.Proofs.Ytiiaajdkkofbjaa
open Go.RowKit Go.Maps
set_option linter.unusedVariables false

/-- append of a slice that came in, nil or not, onto one that the call owns. -/
theorem wpList_append_own_opt {P : Program} (w : World) {ops : Array Oper} {rest : List Oper} {o : Oper} {a : Act} {Q : Exit → Act → World → Prop} (hgd : o.guard = none) (s x : Operand) (t : TypeId)
    (ho : o.op = .call { callee := .builtin .append, args := #[s, x], argTypes := #[t, t] })
    (base : Nat) (e : TypeId) (i : TypeInfo) (z : Value) (size bytes : Nat) (ht : P.underlying t = some (.slice e)) (hi : P.info? e = some i) (hz : i.zero = some z)
    (hsize : i.size = size) (hby : i.bytes = bytes) (hzs : z.cells.size = size) (hsz : 0 < size)
    (v : Value) (n : Nat) (xs : List Value) (hs : a.eval s = v) (hown : w.ownsRow base e size v n xs)
    (ao : Option Addr) (m c : Nat) (news : List Value) (hx : a.eval x = .slice ao m c) (hnone : ao = none → m = 0 ∧ c = 0) (hl : news.length = m * size) (hnews : ∀ ad, ao = some ad → ∀ j u, news[j]? = some u → w.cell? (ad.add j) = some u) (h1 : ∀ u ∈ news, u.oneCell' = true)
    (h63 : n + m ≤ maxLen) (hbytes : (n + m) * bytes ≤ 140737488355328) (hbase : base ≤ w.heap.size)
    (h : ∀ v' w', w'.ownsRow base e size v' (n + m) (xs ++ news) → w.grownBy w' v.ownBlock → wpList P ops Q rest (a.put o.dst v') w') : wpList P ops Q (o :: rest) a w := by
  cases ao with
  | some ad => exact wpList_append_own w hgd s x t ho base e i z size bytes ht hi hz hsize hby hzs hsz v n xs hs hown ad m c news hx hl (hnews ad rfl) h1 h63 hbytes hbase (fun v' w' h2 h3 _ => h v' w' h2 h3)
  | none =>
    obtain ⟨rfl, rfl⟩ := hnone rfl
    have hnews : news = [] := List.eq_nil_of_length_eq_zero (by simpa using hl)
    subst hnews
    exact wpList_append_own_none hgd s x t ho base e i size ht hi v n xs hs hown hx (by
      have := h v w (by simpa using hown) (World.grownBy.refl _ _)
      exact this)

section
variable {w wr w' : World} {pa py : Nat}
/-- The first loop: they come in. -/
structure OR1 (w wr : World) (pa py : Nat) (k : Nat) : Prop where
  kp : Keep (fun k => k < w.heap.size) w wr
  st : ∃ Y, Yd wr (fun k => k < w.heap.size) pa py Y ⟨3000, 0, 0, 0, []⟩ ∧ OutOk Y ∧ EntOk Y ∧ Y.threads = 8 ∧ Y.bound = 64 ∧ Y.wt = [] ∧ Y.now ≤ k
theorem OR1.step {k : Nat} (h : OR1 w wr pa py k) (hk : k ≤ 1152921504606846976) (t : Int) :
    Calls Try.prog 26 #[.pointer (some ⟨py, 0, none⟩), .int .i64 t] wr fun e w' => (∃ c, e = .returned (.int .i64 c)) ∧ OR1 w w' pa py (k + 1) := by
  obtain ⟨hkp, Y, y, ho, he, h8, h64, hw, hn⟩ := h
  refine (enter_any y (by omega) t).mono ?_
  rintro e w' ⟨rfl, y', k'⟩
  refine ⟨⟨_, rfl⟩, hkp.trans k', _, y', ho.enter t, he.enter y.ok.now0 t, ?_, ?_, by rw [enter_wt]; exact hw, ?_⟩
  · unfold YS.enterAt; split <;> exact h8
  · unfold YS.enterAt; split <;> exact h64
  · unfold YS.enterAt; split <;> (try dsimp only) <;> omega

/-- The second loop: blocks are retired. u10: the list of their numbers. -/
structure OR2 (w wr : World) (pa py : Nat) (E : List Int) (T0 : Int) (J : List Int) (a9 : Option Addr) (u10 : Value) (i : Nat) : Prop where
  kp : Keep (fun k => k < w.heap.size) w wr
  ja : IntsAt wr a9 J
  st : ∃ P Y S, (∀ k, k < w.heap.size → P k) ∧ (∀ k, wr.heap.size ≤ k → ¬ P k) ∧ (∀ g, a9 = some ⟨g, 0, none⟩ → P g ∧ u10.ownBlock ≠ some g) ∧ (∀ g, u10.ownBlock = some g → P g) ∧ Yd wr P pa py Y S ∧ MInv E T0 Y S i ∧
    wr.ownsRow w.heap.size 3 1 u10 (blocksOf Y.wt).length ((blocksOf Y.wt).map (Value.int .i64))
/-- Behind Alloc and Retire of a round: the new block waits; the list is still the old one. -/
structure OR2m (w wr : World) (pa py : Nat) (E : List Int) (T0 : Int) (J : List Int) (a9 : Option Addr) (u10 : Value) (i : Nat) : Prop where
  kp : Keep (fun k => k < w.heap.size) w wr
  ja : IntsAt wr a9 J
  st : ∃ P Y0 S0 Y S, (∀ k, k < w.heap.size → P k) ∧ (∀ k, wr.heap.size ≤ k → ¬ P k) ∧ (∀ g, a9 = some ⟨g, 0, none⟩ → P g ∧ u10.ownBlock ≠ some g) ∧ (∀ g, u10.ownBlock = some g → P g) ∧ Yd wr P pa py Y S ∧ MInv E T0 Y0 S0 i ∧ MInv E T0 Y S (i + 1) ∧
    (∃ x y : Int, Y.wt = Y0.sweepAt.wt ++ [⟨((i + 1 : Nat) : Int), x, y⟩]) ∧ wr.ownsRow w.heap.size 3 1 u10 (blocksOf Y0.wt).length ((blocksOf Y0.wt).map (Value.int .i64))
theorem OR2.alloc {E J : List Int} {T0 : Int} {a9 : Option Addr} {u10 : Value} {i : Nat} (h : OR2 w wr pa py E T0 J a9 u10 i) (hi : i < 5) :
    Calls Try.prog 24 #[.pointer (some ⟨pa, 0, none⟩), .int .i64 2] wr fun e w1 => e = .returned (.tuple #[.int .i64 ((i + 1 : Nat) : Int), .int .i64 0]) ∧ wr.heap.size ≤ w1.heap.size ∧
      (T0 ≤ 1152921504606846976 → Calls Try.prog 28 #[.pointer (some ⟨py, 0, none⟩), .int .i64 ((i : Int) + 1), .int .i64 ((i + 1 : Nat) : Int)] w1 fun e w2 => e = .returned (.int .i64 0) ∧ OR2m w w2 pa py E T0 J a9 u10 i) := by
  obtain ⟨hkp, hja, P, Y, S, p1, p2, p3, p4, y, hm, ho⟩ := h
  obtain ⟨m1, m2, m3⟩ := hm.alloc hi
  obtain ⟨r1, r2, r3⟩ := hm.retire hi
  obtain ⟨Z, ha, hf, hXZ, hback⟩ := y.arena
  have hmade := hm.made
  have hc := alloc_any ha 2 (by omega) (fun k hk => hf k hk (p2 k hk))
  rw [m1, m2, m3] at hc
  refine hc.mono ?_
  rintro e w1 ⟨rfl, ha1, hk1⟩
  have y1 := hback w1 _ ha1 hk1
  have hkP := hk1.less hXZ
  have hz1 := hk1.size
  refine ⟨rfl, hz1, fun hT => ?_⟩
  have hnow := hm.now
  have hrt := retire_any y1 (by omega) (fun k hk => p2 k (by omega)) ((i : Int) + 1) ((i + 1 : Nat) : Int) (WalkArith.wf_i64 (by omega))
  rw [r1] at hrt
  refine hrt.mono ?_
  rintro e w2 ⟨rfl, y2, hk2⟩
  have hz2 := hk2.size
  have hkk := hkP.trans hk2
  refine ⟨rfl, (hkp.trans (hkk.less p1)), hja.keep hkk (fun g hg => (p3 g hg).1), P, Y, S, _, _, p1, fun k hk => p2 k (by omega), p3, p4, y2, hm, r2, ⟨_, _, r3⟩, ownsRow_keep ho (fun g hg => ?_)⟩
  exact hkk.block g ((ho.lt g hg).2) (p4 g hg)
theorem one_own (w : World) (base : Nat) (hb : base ≤ w.heap.size) (x : Int) : (w.alloc (.cells #[.int .i64 x] 3)).ownsRow base 3 1 (.slice (some ⟨w.heap.size, 0, none⟩) 1 1) 1 [.int .i64 x] :=
  ⟨rfl, .inr ⟨w.heap.size, 1, #[.int .i64 x], rfl, hb, heap_alloc_new w _, Nat.le_refl _, by unfold maxLen; omega, rfl, rfl⟩⟩
/-- Nobody was inside: the list is the new block alone. -/
theorem OR2m.alone {E J : List Int} {T0 : Int} {a9 : Option Addr} {u10 : Value} {i : Nat} (h : OR2m w wr pa py E T0 J a9 u10 i) (h0 : ∀ t, t < 9 → E.getD t 0 = 0) :
    OR2 w (wr.alloc (.cells #[.int .i64 ((i + 1 : Nat) : Int)] 3)) pa py E T0 J a9 (.slice (some ⟨wr.heap.size, 0, none⟩) 1 1) (i + 1) := by
  obtain ⟨hkp, hja, P, Y0, S0, Y, S, p1, p2, p3, p4, y, hm0, hm, ⟨x, z, hw⟩, ho⟩ := h
  have hb : Below wr.heap.size wr (wr.alloc (.cells #[.int .i64 ((i + 1 : Nat) : Int)] 3)) := (Below.refl _ _).alloc (Nat.le_refl _) _
  refine ⟨hkp.alloc _, hja.below hb, fun k => P k ∨ (wr.heap.size ≤ k ∧ k < (wr.alloc (.cells #[.int .i64 ((i + 1 : Nat) : Int)] 3)).heap.size), Y, S, fun k hk => .inl (p1 k hk), fun k hk hx => ?_, fun g hg => ⟨.inl (p3 g hg).1, ?_⟩, fun g hg => ?_, y.grow hb, hm, ?_⟩
  · rcases hx with hx | hx
    · simp at hk; exact p2 k (by omega) hx
    · omega
  · simp only [Value.ownBlock, ne_eq, Option.some.injEq]
    rintro rfl
    exact p2 _ (Nat.le_refl _) (p3 _ hg).1
  · simp only [Value.ownBlock, Option.some.injEq] at hg
    subst hg
    right; simp
  · rw [hw, hm0.gone h0]
    exact one_own wr _ hkp.size _
/-- Somebody was inside: the list grows. -/
theorem OR2m.more {E J : List Int} {T0 : Int} {a9 : Option Addr} {u10 : Value} {i : Nat} (h : OR2m w wr pa py E T0 J a9 u10 i) {t : Nat} (ht : t < 9) (h0 : E.getD t 0 ≠ 0) (h1 : E.getD t 0 ≤ T0) :
    ∃ n xs, n ≤ 512 ∧ (wr.alloc (.cells #[.int .i64 ((i + 1 : Nat) : Int)] 3)).ownsRow w.heap.size 3 1 u10 n xs ∧
      ∀ g cap w3, w3.ownsRow w.heap.size 3 1 (.slice (some ⟨g, 0, none⟩) (n + 1) cap) (n + 1) (xs ++ [.int .i64 ((i + 1 : Nat) : Int)]) → (wr.alloc (.cells #[.int .i64 ((i + 1 : Nat) : Int)] 3)).grownBy w3 u10.ownBlock → (u10.ownBlock = some g ∨ g = wr.heap.size + 1) → g < w3.heap.size →
        OR2 w w3 pa py E T0 J a9 (.slice (some ⟨g, 0, none⟩) (n + 1) cap) (i + 1) := by
  obtain ⟨hkp, hja, P, Y0, S0, Y, S, p1, p2, p3, p4, y, hm0, hm, ⟨x, z, hw⟩, ho⟩ := h
  have hl0 := hm0.len
  refine ⟨_, _, ?_, ho.alloc _, fun g cap w3 hown hgr hat hlt => ?_⟩
  · have hY0 : (blocksOf Y0.wt).length = Y0.wt.length := by simp [blocksOf]
    have hY : Y.wt.length ≤ 512 := y.ok.few
    rw [hw, hm0.kept ht h0 h1] at hY
    simp at hY
    omega
  · have hk3 : Keep (fun k => some k ≠ u10.ownBlock) (wr.alloc (.cells #[.int .i64 ((i + 1 : Nat) : Int)] 3)) w3 := ⟨hgr.os, hgr.tape, hgr.output, hgr.size, fun k hk hn => hgr.block k hk hn⟩
    have hz3 := hk3.size
    simp only [World.size_alloc] at hz3
    have yP : Yd wr (fun k => P k ∨ k = g) pa py Y S := y.less (fun k hk hz => by
      rcases hz with hz | rfl
      · exact hz
      · rcases hat with e | e
        · exact p4 _ e
        · omega)
    refine ⟨(hkp.alloc _).trans (hk3.less (fun k hk e => ?_)), (hja.below ((Below.refl _ _).alloc (Nat.le_refl _) _)).keep hk3 (fun g' hg' e => (p3 g' hg').2 e.symm), fun k => P k ∨ k = g, Y, S, fun k hk => .inl (p1 k hk), fun k hk hx => ?_, fun g' hg' => ⟨.inl (p3 g' hg').1, ?_⟩, fun g' hg' => ?_,
      (yP.alloc _).keep hk3 (fun k hn e => hn (.inl (p4 k e.symm))), hm, ?_⟩
    · have := (ho.lt k e.symm).1
      omega
    · rcases hx with hx | rfl
      · exact p2 k (by omega) hx
      · omega
    · simp only [Value.ownBlock, ne_eq, Option.some.injEq]
      rintro rfl
      rcases hat with e | e
      · exact (p3 _ hg').2 e
      · exact p2 _ (by omega) (p3 _ hg').1
    · simp only [Value.ownBlock, Option.some.injEq] at hg'
      exact .inr hg'.symm
    · rw [hw, hm0.kept ht h0 h1]
      simpa [blocksOf] using hown
end
end Go.Proofs.Ytiiaajdkkofbjaa
