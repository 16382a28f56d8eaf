/-
  AtomsAlone: the law's own helpers: known, Has, over rows that the law has made; a table while such a row grows; an operation alone in memory, with what it knows. Conditions: lengths of at most 1000.
-/
import Derived.Test.YtebdlggmpojgdaaAtoms35
import Derived.Test.YtebdlggmpojgdaaAtoms28
import Derived.Test.YtebdlggmpojgdaaAtoms29
namespace Go.Proofs.Ytebdlggmpojgdaa
open Go.RowKit Go.Maps
set_option linter.unusedVariables false

/-- A slice's elements. -/
def RowAt (w : World) (a : Option Addr) (vs : List Value) : Prop := ∀ (j : Nat) (v : Value), vs[j]? = some v → ∃ g, a = some ⟨g, 0, none⟩ ∧ g < w.heap.size ∧ w.cell? ⟨g, j, none⟩ = some v
def strsOf (S : List (List UInt8)) : List Value := S.map (fun s => .string (str s))
def intsOf (I : List Int) : List Value := I.map (Value.int .i64)
theorem strsOf_get {S : List (List UInt8)} {j : Nat} (h : j < S.length) : (strsOf S)[j]? = some (.string (str S[j])) := by simp [strsOf, h]
theorem intsOf_get {I : List Int} {j : Nat} (h : j < I.length) : (intsOf I)[j]? = some (.int .i64 I[j]) := by simp [intsOf, h]
theorem own_row {w : World} {base n : Nat} {e : TypeId} {u : Value} {xs : List Value} (h : w.ownsRow base e 1 u n xs) : ∃ a c, u = .slice a n c ∧ RowAt w a xs := by
  have hl := h.1
  rcases h.2 with ⟨rfl, rfl⟩ | ⟨g, cap, cur, rfl, _, hb, _⟩
  · refine ⟨none, 0, rfl, fun j v hj => ?_⟩
    have : xs = [] := List.length_eq_zero_iff.1 (by omega)
    rw [this] at hj; simp at hj
  · refine ⟨_, _, rfl, fun j v hj => ⟨g, rfl, (show Blk w g e cur from hb).lt, ?_⟩⟩
    have hj' : j < xs.length := by
      rcases Nat.lt_or_ge j xs.length with h1 | h1
      · exact h1
      · rw [List.getElem?_eq_none h1] at hj; cases hj
    rw [h.cellAt j (by omega)]; exact hj
def knownF : List (List UInt8) → List Int → List UInt8 → Int
  | s :: S, i :: I, n => if s = n then i else knownF S I n
  | _, _, _ => 0
theorem knownF_none : ∀ {S : List (List UInt8)} {I : List Int} {n : List UInt8}, (∀ s ∈ S, s ≠ n) → knownF S I n = 0 := by
  intro S
  induction S with
  | nil => intro I n _; rfl
  | cons s S ih =>
    intro I n h
    cases I with
    | nil => rfl
    | cons i I =>
      rw [knownF, if_neg (h s (by simp))]
      exact ih (fun s hs => h s (by simp [hs]))
theorem knownF_some : ∀ {S : List (List UInt8)} {I : List Int} {n : List UInt8}, S.length = I.length → n ∈ S → ∃ j, ∃ (h1 : j < S.length) (h2 : j < I.length), S[j] = n ∧ knownF S I n = I[j] := by
  intro S
  induction S with
  | nil => intro I n _ h; cases h
  | cons s S ih =>
    intro I n hl h
    cases I with
    | nil => simp at hl
    | cons i I =>
      by_cases hs : s = n
      · exact ⟨0, by simp, by simp, by simpa using hs, by rw [knownF, if_pos hs]; simp⟩
      · obtain ⟨j, h1, h2, h3, h4⟩ := ih (by simpa using hl) ((List.mem_cons.1 h).resolve_left (fun e => hs e.symm))
        exact ⟨j + 1, by simp; omega, by simp; omega, by simpa using h3, by rw [knownF, if_neg hs, h4]; simp⟩
def KRel (S : List (List UInt8)) (I : List Int) (n : List UInt8) (w : World) (g : Nat) (i : Value) (wr : World) : Prop :=
  ∃ k : Nat, k ≤ S.length ∧ S.length - k ≤ g ∧ i = .int .i64 k ∧ wr = w ∧ knownF S I n = knownF (S.drop k) (I.drop k) n
set_option maxHeartbeats 2000000 in
theorem known_any {w : World} {a1 a2 : Option Addr} {c1 c2 : Nat} {S : List (List UInt8)} {I : List Int} (h1 : RowAt w a1 (strsOf S)) (h2 : RowAt w a2 (intsOf I)) (hl : S.length = I.length) (hs : S.length ≤ 1000) (n : List UInt8) :
    Calls Try.prog 15 #[.slice a1 S.length c1, .slice a2 I.length c2, .string (str n)] w fun e w' => e = .returned (.int .i64 (knownF S I n)) ∧ w = w' := by
  have H1 := Lib.hid h1; clear h1
  have H2 := Lib.hid h2; clear h2
  obtain ⟨len, hlen⟩ : ∃ len, len = S.length := ⟨_, rfl⟩
  have HLEN := Lib.hid (And.intro hlen hl)
  rw [← hl, ← hlen]
  rw [← hlen] at hs
  clear hlen hl
  generalize hsn0 : str n = sn
  have HSN := Lib.hid hsn0; clear hsn0
  go_enter Try.func15, Try.ntmps15
  go_wp2_with fail
  go_loopg [10] len (fun g i wr => KRel S I n w g i wr)
  case atStart => exact ⟨0, by omega, by rw [← HLEN.out.1]; omega, rfl, rfl, rfl⟩
  case round =>
    obtain ⟨k, hk, hg, rfl, rfl, hkn⟩ := hrel
    rw [← HLEN.out.1] at hk hg
    have HKN := Lib.hid hkn; clear hkn
    have HG := Lib.hid hg; clear hg
    by_cases hlt : k < len
    · have hk1 : k < S.length := by rw [← HLEN.out.1]; exact hlt
      have hk2 : k < I.length := by have := HLEN.out; omega
      obtain ⟨g1, rfl, _, q1⟩ := H1.out k _ (strsOf_get hk1)
      obtain ⟨g2, rfl, _, q2⟩ := H2.out k _ (intsOf_get hk2)
      have hst : knownF (S.drop k) (I.drop k) n = if S[k] = n then I[k] else knownF (S.drop (k + 1)) (I.drop (k + 1)) n := by
        rw [List.drop_eq_getElem_cons hk1, List.drop_eq_getElem_cons hk2, knownF]
      by_cases hsn : S[k] = n
      · rw [if_pos hsn] at hst
        have HST := Lib.hid hst; clear hst
        rw [hsn, HSN.out] at q1
        clear hsn
        generalize I[k] = x at q2 HST
        go_wp2_with fail
        go_ret
        exact ⟨by rw [HKN.out, HST.out]; rfl, rfl⟩
      · rw [if_neg hsn] at hst
        have HST := Lib.hid hst; clear hst
        have hne := str_ne hsn
        rw [HSN.out] at hne
        clear hsn
        generalize str S[k] = sk at q1 hne
        go_wp2_with fail
        go_roundg (len - (k + 1))
        case measure => have := HG.out; omega
        case rel => exact ⟨k + 1, by rw [← HLEN.out.1]; omega, by rw [← HLEN.out.1]; omega, by go_num, rfl, by rw [HKN.out, HST.out]⟩
    · obtain rfl : k = len := by omega
      have hz : knownF S I n = 0 := by
        rw [HKN.out, List.drop_of_length_le (by rw [← HLEN.out.1]; exact Nat.le_refl _)]; rfl
      have HZ := Lib.hid hz; clear hz
      go_wp2_with fail
      go_ret
      exact ⟨by rw [HZ.out]; rfl, rfl⟩
def HRel (I : List Int) (x : Int) (w : World) (g : Nat) (i : Value) (wr : World) : Prop :=
  ∃ k : Nat, k ≤ I.length ∧ I.length - k ≤ g ∧ i = .int .i64 k ∧ wr = w ∧ x ∉ I.take k
set_option maxHeartbeats 2000000 in
/-- Has, where the number isn't there. -/
theorem hasnt_any {w : World} {a : Option Addr} {c : Nat} {I : List Int} (h : RowAt w a (intsOf I)) (hs : I.length ≤ 1000) {x : Int} (hx : x ∉ I) :
    Calls Try.prog 16 #[.slice a I.length c, .int .i64 x] w fun e w' => e = .returned (.bool false) ∧ w = w' := by
  have H := Lib.hid h; clear h
  obtain ⟨len, hlen⟩ : ∃ len, len = I.length := ⟨_, rfl⟩
  have HLEN := Lib.hid hlen
  rw [← hlen]
  rw [← hlen] at hs
  clear hlen
  have HX := Lib.hid hx; clear hx
  go_enter Try.func16, Try.ntmps16
  go_wp2_with fail
  go_loopg [5] len (fun g i wr => HRel I x w g i wr)
  case atStart => exact ⟨0, by omega, by rw [← HLEN.out]; omega, rfl, rfl, by simp⟩
  case round =>
    obtain ⟨k, hk, hg, rfl, rfl, hkn⟩ := hrel
    rw [← HLEN.out] at hk hg
    clear hkn
    have HG := Lib.hid hg; clear hg
    by_cases hlt : k < len
    · have hk1 : k < I.length := by rw [← HLEN.out]; exact hlt
      obtain ⟨g1, rfl, _, q1⟩ := H.out k _ (intsOf_get hk1)
      have hne : (I[k] == x) = false := by
        have : I[k] ≠ x := fun e => HX.out (e ▸ List.getElem_mem _)
        simpa using this
      generalize I[k] = y at q1 hne
      go_wp2_with fail
      go_roundg (len - (k + 1))
      case measure => have := HG.out; omega
      case rel => exact ⟨k + 1, by rw [← HLEN.out]; omega, by rw [← HLEN.out]; omega, by go_num, rfl, fun hh => HX.out (List.mem_of_mem_take hh)⟩
    · obtain rfl : k = len := by omega
      go_wp2_with fail
      go_ret
      exact ⟨rfl, rfl⟩
section
variable {w w' : World} {X Y : Nat → Prop} {pa po pt nb : Nat} {o : OS} {T T' : TS} {A A' : AS} {P P0 : List Int} {m : Int} {B : Nat} {M : Int} {n : List UInt8} {N0 : Int → List UInt8}
/-- A row of the law's own grows. -/
theorem Tab.grow (h : Tab w X pa pt nb A T) {row : Option Nat} (hr : ∀ g, row = some g → X g ∧ g ≠ pt ∧ g ≠ nb) (hg : w.grownBy w' row) (hY : ∀ k, Y k → X k ∨ (w.heap.size ≤ k ∧ k < w'.heap.size)) (y1 : Y pt) (y2 : Y nb) : Tab w' Y pa pt nb A T := by
  have hk : Keep (fun k => row ≠ some k) w w' := ⟨hg.os, hg.tape, hg.output, hg.size, fun k hk hx => hg.block k hk (fun e => hx e.symm)⟩
  have ha : Arena w' (fun k => Y k ∨ X k) pa A := (h.arena.less (Y := fun k => Y k ∨ X k) (fun k hk hy => hy.elim (fun hy => (hY k hy).resolve_right (by omega)) (fun hx => hx))).keep hk (fun k hn e => hn (.inr (hr k e).1))
  refine ⟨ha.less (fun k _ hy => .inl hy), h.head.keep hk (fun e => (hr _ e).2.1 rfl), h.names.keep hk (fun e => (hr _ e).2.2 rfl), y1, y2, fun k hk' hy => ?_, h.lists, h.short⟩
  rcases hY k hy with hx | hx
  · exact h.fut k (Nat.le_trans hg.size hk') hx
  · omega
/-- An operation alone, under way or over. -/
def OneQ (w : World) (X : Nat → Prop) (pa pt nb po : Nat) (B : Nat) (M : Int) (n : List UInt8) (P0 : List Int) (N0 : Int → List UInt8) (mo : Int) (k : Nat) (A : AS) (T : TS) (P : List Int) (m : Int) (o : OS) : Prop :=
  Way w X pa pt nb po A T o P m B M ∧ T.most = mo ∧
    ((o.next < 10 ∧ P = P0 ∧ k + pot P.length P m o ≤ 2 * P0.length + 13 ∧ ∃ hg, SQ A T P m o n N0 hg) ∨ (o.next = 10 ∧ ResQ A T P o n P0 N0))
theorem stepT_most (A : AS) (T : TS) (o : OS) : (stepT A T o).most = T.most := by
  unfold stepT
  split
  · split <;> rfl
  · rfl
  · rfl
theorem OneQ.step {k : Nat} {mo : Int} (h : OneQ w X pa pt nb po B M n P0 N0 mo k A T P m o) (hB : B + 1 ≤ 16000) (hM : (B : Int) + 1 < M) :
    Calls Try.prog 12 #[.pointer (some ⟨po, 0, none⟩)] w fun e w' => (∃ b, e = .returned (.bool b)) ∧ Keep (fun k => X k ∧ k ≠ po ∧ k ≠ nb) w w' ∧ ∃ A' T' P' m' o', OneQ w' X pa pt nb po B M n P0 N0 mo (k + 1) A' T' P' m' o' := by
  obtain ⟨hw, hmo, hh⟩ := h
  rcases hh with ⟨h10, hP, hk, hg, hq⟩ | ⟨h10, hr⟩
  · refine (step_any hw.inv (by simpa using hB) (by simpa using hM) (i := 0) (by simp) h10 hw.tab hw.op hw.xo hw.fit).mono ?_
    rintro e w' ⟨rfl, r, t, kp⟩
    have hi := hw.inv.nextP (by simp; omega) (by simpa using hM) (i := 0) (o := o) (by simp) h10
    have hmade : A.made < 281474976710656 := by
      have := hw.inv.made; have := owns_le [o]; simp at this; omega
    have hps := pot_step hw.inv.lst (hw.inv.ops 0 o (by simp)) h10 (hw.inv.room (by simpa using hM))
    have hle := (hi.ops 0 (stepO A T o) (by simp)).le
    have hway : ∀ P' m', AInv (stepA A T o) (stepT A T o) P' m' [stepO A T o] B M → Way w' X pa pt nb po (stepA A T o) (stepT A T o) (stepO A T o) P' m' B M := fun P' m' hi' =>
      ⟨hi', t, by rw [stepO_name]; exact r, hw.xo, stepO_fit hw.inv (by simpa using hB) hw.fit _⟩
    refine ⟨⟨_, rfl⟩, kp, ?_⟩
    rcases hq.step hw.inv hM hmade h10 with ⟨hn, hg', hq'⟩ | ⟨h10', hr⟩
    · rw [if_neg hn, if_neg hn] at hi
      refine ⟨_, _, P, m, _, hway P m (by simpa using hi), by rw [stepT_most]; exact hmo, .inl ⟨?_, hP, by omega, hg', hq'⟩⟩
      have hne : (stepO A T o).next ≠ 10 := fun e => by
        rcases hq'.ph with ⟨e', _⟩ | ⟨e', _⟩ | ⟨e', _⟩ | ⟨e', _⟩ | ⟨e', _⟩ | ⟨e', _⟩ | ⟨e', _⟩ | ⟨e', _⟩ | ⟨e', _⟩ <;> omega
      omega
    · rw [← hP]
      exact ⟨_, _, _, _, _, hway _ _ (by simpa using hi), by rw [stepT_most]; exact hmo, .inr ⟨h10', hr⟩⟩
  · refine (step10_any hw.op h10).mono ?_
    rintro e w' ⟨rfl, rfl⟩
    exact ⟨⟨_, rfl⟩, Keep.refl _ _, A, T, P, m, o, hw, hmo, .inr ⟨h10, hr⟩⟩
theorem OneQ.over {k : Nat} {mo : Int} (h : OneQ w X pa pt nb po B M n P0 N0 mo k A T P m o) (hM : (B : Int) + 1 < M) (hk : 2 * P0.length + 13 ≤ k) : o.next = 10 ∧ ResQ A T P o n P0 N0 := by
  obtain ⟨hw, _, hh⟩ := h
  rcases hh with ⟨h10, _, hk', _⟩ | hh
  · have := hw.pot_pos hM h10
    omega
  · exact hh
end
end Go.Proofs.Ytebdlggmpojgdaa
