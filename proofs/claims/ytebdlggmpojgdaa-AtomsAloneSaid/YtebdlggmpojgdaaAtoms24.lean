/-
  Package atoms: one operation from its beginning to its end: plain, and Intern in memory. Conditions: a table without operations under way, not too many names.
-/
import Derived.Test.YtebdlggmpojgdaaAtoms22
import Derived.Deep.LoopGhost
namespace Go.Proofs.Ytebdlggmpojgdaa
open Go.RowKit Go.Maps
set_option linter.unusedVariables false

/-- What comes of an operation alone, within n steps. -/
def run1 : Nat → AS → TS → OS → AS × TS × OS
  | 0, A, T, o => (A, T, o)
  | n + 1, A, T, o => if o.next = 10 then (A, T, o) else run1 n (stepA A T o) (stepT A T o) (stepO A T o)
theorem run1_over (n : Nat) (A : AS) (T : TS) {o : OS} (h : o.next = 10) : run1 n A T o = (A, T, o) := by
  cases n with
  | zero => rfl
  | succ n => rw [run1, if_pos h]
theorem begun_ok (T : TS) (n : List UInt8) (hl : 1 ≤ T.lists) : (OS.begun T n).next ≤ 1 ∧ (OS.begun T n).block = 0 ∧ (OS.begun T n).head = 0 ∧ 0 ≤ (OS.begun T n).list ∧ (OS.begun T n).list < T.lists ∧ (OS.begun T n).seen = 0 ∧ (OS.begun T n).name.length ≤ 64 := by
  have := T.list_range hl n
  unfold OS.begun
  split
  · exact ⟨by simp, rfl, rfl, by simp, by simp; omega, rfl, by simp⟩
  · exact ⟨by simp, rfl, rfl, this.1, this.2, rfl, by simp; omega⟩

section
variable {w w' : World} {X Y : Nat → Prop} {pa po pt nb : Nat} {o : OS} {T T' : TS} {A A' : AS} {P : List Int} {m : Int} {os : List OS} {B i : Nat} {M : Int} {s : ByteArray}
theorem Tab.less (h : Tab w X pa pt nb A T) (hY : ∀ k, Y k → X k) (h1 : Y pt) (h2 : Y nb) : Tab w Y pa pt nb A T :=
  ⟨h.arena.less (fun k _ hy => hY k hy), h.head, h.names, h1, h2, fun k hk hy => h.fut k hk (hY k hy), h.lists, h.short⟩
/-- An operation under way, alone. -/
structure Way (w : World) (X : Nat → Prop) (pa pt nb po : Nat) (A : AS) (T : TS) (o : OS) (P : List Int) (m : Int) (B : Nat) (M : Int) : Prop where
  inv : AInv A T P m [o] B M
  tab : Tab w X pa pt nb A T
  op : OHead w po pt o (str o.name)
  xo : X po
  fit : Fit T o
theorem Way.step (h : Way w X pa pt nb po A T o P m B M) (hB : B + 1 ≤ 16000) (hM : (B : Int) + 1 < M) (h10 : o.next < 10) :
    Calls Try.prog 12 #[.pointer (some ⟨po, 0, none⟩)] w fun e w' => e = .returned (.bool (decide ((stepO A T o).next = 10))) ∧ Keep (fun k => X k ∧ k ≠ po ∧ k ≠ nb) w w' ∧
      ∃ P' m', Way w' X pa pt nb po (stepA A T o) (stepT A T o) (stepO A T o) P' m' B M ∧ ((stepO A T o).next ≠ 10 → P' = P ∧ m' = m ∧ pot P.length P m (stepO A T o) + 1 ≤ pot P.length P m o) := by
  refine (step_any h.inv (by simpa using hB) (by simpa using hM) (i := 0) (by simp) h10 h.tab h.op h.xo h.fit).mono ?_
  rintro e w' ⟨rfl, r, t, k⟩
  obtain ⟨P', m', hi, hp⟩ := h.inv.next (by simp; omega) (by simpa using hM) (i := 0) (by simp) h10
  refine ⟨rfl, k, P', m', ⟨by simpa using hi, t, by rw [stepO_name]; exact r, h.xo, stepO_fit h.inv (by simpa using hB) h.fit _⟩, fun hn => ?_⟩
  obtain ⟨h1, h2, h3⟩ := hp hn
  exact ⟨h1, h2, by simpa [pots] using h3⟩
theorem Way.pot_pos (h : Way w X pa pt nb po A T o P m B M) (hM : (B : Int) + 1 < M) (h10 : o.next < 10) : 1 ≤ pot P.length P m o := by
  have := pot_step h.inv.lst (h.inv.ops 0 o (by simp)) h10 (h.inv.room (by simpa using hM))
  omega
theorem Way.answer (h : Way w X pa pt nb po A T o P m B M) (h10 : o.next = 10) : Calls Try.prog 13 #[.pointer (some ⟨po, 0, none⟩)] w fun e w' => e = .returned (.tuple #[.int .i64 o.id, .int .i64 o.err]) ∧ Keep (fun _ => True) w w' := by
  have := answer_any h.op
  rw [if_pos h10] at this
  exact this
/-- Beginning one. -/
theorem begin_way (h : AInv A T P m [] B M) (tb : Tab w X pa pt nb A T) (s : ByteArray) (hs : s.size ≤ 9223372036854775807) :
    Calls Try.prog 11 #[.pointer (some ⟨pt, 0, none⟩), .string s] w fun e w' => ∃ po, e = .returned (.pointer (some ⟨po, 0, none⟩)) ∧ w.heap.size ≤ po ∧ Way w' (fun k => X k ∨ k = po) pa pt nb po A T (OS.begun T s.data.toList) P m B M ∧ Below w.heap.size w w' := by
  refine (begin_any tb.head tb.lists s hs).mono ?_
  rintro e w' ⟨po, rfl, hpo, ho, hb⟩
  obtain ⟨b1, b2, b3, b4, b5, b6, b7⟩ := begun_ok T s.data.toList tb.lists.1
  exact ⟨po, rfl, hpo, ⟨by simpa using h.begin b1 b2 b3 ⟨b4, b5⟩, tb.more hb hpo ho.blk.lt, ho, .inr rfl, ⟨by rw [b6]; exact Int.le_refl _, by rw [b6]; decide, b7⟩⟩, hb⟩
/-- How far an operation has come. -/
structure Came (A0 : AS) (T0 : TS) (o0 : OS) (K : Nat) (A : AS) (T : TS) (o : OS) (P : List Int) (m : Int) : Prop where
  run : ∃ k, k + pot P.length P m o ≤ K ∧ ∀ F, run1 (F + k) A0 T0 o0 = run1 F A T o
theorem Came.next {A0 : AS} {T0 : TS} {o0 : OS} {K : Nat} (h : Came A0 T0 o0 K A T o P m) (h10 : o.next < 10) (hp : pot P.length P m (stepO A T o) + 1 ≤ pot P.length P m o) : Came A0 T0 o0 K (stepA A T o) (stepT A T o) (stepO A T o) P m := by
  obtain ⟨k, h1, h2⟩ := h.run
  refine ⟨⟨k + 1, by omega, fun F => ?_⟩⟩
  rw [show F + (k + 1) = (F + 1) + k by omega, h2, run1, if_neg (by omega)]
theorem Came.end_ {A0 : AS} {T0 : TS} {o0 : OS} {K : Nat} (h : Came A0 T0 o0 K A T o P m) (h10 : o.next < 10) (hp : 1 ≤ pot P.length P m o) (he : (stepO A T o).next = 10) {F : Nat} (hF : K ≤ F) : run1 F A0 T0 o0 = (stepA A T o, stepT A T o, stepO A T o) := by
  obtain ⟨k, h1, h2⟩ := h.run
  obtain ⟨G, rfl⟩ : ∃ G, F = (G + 1) + k := ⟨F - 1 - k, by omega⟩
  rw [h2, run1, if_neg (by omega), run1_over _ _ _ he]

/-- What Intern leaves. -/
structure Did (w w' : World) (X : Nat → Prop) (pa pt nb : Nat) (A : AS) (T : TS) (o0 : OS) (B : Nat) (M : Int) (A' : AS) (T' : TS) (o' : OS) : Prop where
  inv : ∃ P m, AInv A' T' P m [] (B + 1) M
  tab : Tab w' X pa pt nb A' T'
  keep : Keep (fun k => X k ∧ k ≠ nb) w w'
  over : o'.next = 10
  run : ∀ F : Nat, 2 * A.made + 13 ≤ F → run1 F A T o0 = (A', T', o')
def SomeDid (w : World) (X : Nat → Prop) (pa pt nb : Nat) (A : AS) (T : TS) (o0 : OS) (B : Nat) (M : Int) (e : Ending) (w' : World) : Prop :=
  ∃ A' T' o', Did w w' X pa pt nb A T o0 B M A' T' o' ∧ e = .returned (.tuple #[.int .i64 o'.id, .int .i64 o'.err])
theorem Came.start (h : Way w X pa pt nb po A T o P m B M) : Came A T o (2 * P.length + 13) A T o P m := ⟨⟨0, by have := pot_le P m o; omega, fun F => rfl⟩⟩
def IRel (w : World) (X : Nat → Prop) (pa pt nb po : Nat) (A : AS) (T : TS) (o0 : OS) (P : List Int) (m : Int) (B : Nat) (M : Int) (k : Nat) (wr : World) : Prop :=
  ∃ A1 T1 o1, Way wr (fun k => X k ∨ k = po) pa pt nb po A1 T1 o1 P m B M ∧ o1.next < 10 ∧ pot P.length P m o1 ≤ k ∧ Came A T o0 (2 * P.length + 13) A1 T1 o1 P m ∧ Keep (fun k => X k ∧ k ≠ nb) w wr
theorem AInv.up (h : AInv A T P m os B M) {C : Nat} (hC : B ≤ C) : AInv A T P m os C M :=
  ⟨h.ok, h.most, h.flt, by have := h.used; omega, by have := h.made; omega, h.lst, h.ops, h.apart⟩
theorem Tab.keepAll (h : Tab w X pa pt nb A T) (hk : Keep (fun _ => True) w w') : Tab w' X pa pt nb A T :=
  h.below ⟨hk.os, hk.tape, hk.output, hk.size, fun k hk' => hk.block k hk' trivial⟩
set_option maxHeartbeats 2000000 in
theorem intern_any (h : AInv A T P m [] B M) (hB : B + 1 ≤ 16000) (hM : (B : Int) + 1 < M) (tb : Tab w X pa pt nb A T) (s : ByteArray) (hs : s.size ≤ 9223372036854775807) :
    Calls Try.prog 20 #[.pointer (some ⟨pt, 0, none⟩), .string s] w (SomeDid w X pa pt nb A T (OS.begun T s.data.toList) B M) := by
  have hb := begin_way h tb s hs
  have hP := h.few
  have HB := Lib.hid hb; clear hb
  have HP := Lib.hid hP; clear hP
  have HX : Hid (X pt ∧ X nb ∧ ∀ k, w.heap.size ≤ k → ¬ X k) := Lib.hid ⟨tb.xt, tb.xn, tb.fut⟩
  have HBB := Lib.hid hB; clear hB
  have HMM := Lib.hid hM; clear hM
  have hb0 := (begun_ok T s.data.toList tb.lists.1).1
  clear h tb hs
  generalize OS.begun T s.data.toList = o0 at HB hb0 ⊢
  have HB0 := Lib.hid hb0; clear hb0
  go_enter Try.func20, Try.ntmps20
  go_wp2_with (go_at_call 11; refine HB.out.mono ?_; rintro e w1 ⟨po, rfl, hpo, hway, b1⟩; have W1 := Lib.hid hway; clear hway; have B1 := Lib.hid b1; clear b1; have HPO := Lib.hid hpo; clear hpo)
  go_loopg [12] (2 * P.length + 13) (fun k _ wr => IRel w X pa pt nb po A T o0 P m B M k wr)
  case atStart =>
    refine ⟨A, T, o0, W1.out, by have := HB0.out; omega, pot_le P m o0, Came.start W1.out, ?_⟩
    exact Keep.ofBelow B1.out (fun k hk => Nat.lt_of_not_le (fun hh => HX.out.2.2 k hh hk.1))
  case round =>
    obtain ⟨A1, T1, o1, hw, h10, hk, hc, hkp⟩ := hrel
    have hst := hw.step HBB.out HMM.out h10
    have hpp := hw.pot_pos HMM.out h10
    have HC := Lib.hid hc; clear hc
    have HKP := Lib.hid hkp; clear hkp
    have H10 := Lib.hid h10; clear h10
    have HPP := Lib.hid hpp; clear hpp
    have HK := Lib.hid hk; clear hk
    clear hw
    by_cases hd : (stepO A1 T1 o1).next = 10
    · rw [decide_eq_true hd] at hst
      have HD := Lib.hid hd; clear hd
      have HST := Lib.hid hst; clear hst
      go_wp2_with (go_at_call 12; refine HST.out.mono ?_; rintro e w2 ⟨rfl, k2, P', m', hw2, _⟩; have W2 := Lib.hid hw2; clear hw2; have K2 := Lib.hid k2; clear k2)
      have han := W2.out.answer HD.out
      have HAN := Lib.hid han; clear han
      go_wp2_with (go_at_call 13; refine HAN.out.mono ?_; rintro e w3 ⟨rfl, k3⟩; have K3 := Lib.hid k3; clear k3)
      go_ret2
      refine ⟨_, _, _, ⟨⟨P', m', ?_⟩, ?_, ?_, HD.out, fun F hF => HC.out.end_ H10.out HPP.out HD.out (by have := HP.out; omega)⟩, rfl⟩
      · have hi := W2.out.inv
        have hb1 := hi.forget
        have ho := owns_le [stepO A1 T1 o1]
        refine hb1.up ?_
        simpa using ho
      · have ht := W2.out.tab
        have ht3 := ht.keepAll K3.out
        exact ht3.less (fun k hk => .inl hk) HX.out.1 HX.out.2.1
      · exact (HKP.out.trans (K2.out.less (fun k hk => ⟨.inl hk.1, fun e => HX.out.2.2 k (by rw [e]; exact HPO.out) hk.1, hk.2⟩))).trans (K3.out.less (fun _ _ => trivial))
    · rw [decide_eq_false hd] at hst
      have HD := Lib.hid hd; clear hd
      have HST := Lib.hid hst; clear hst
      go_wp2_with (go_at_call 12; refine HST.out.mono ?_; rintro e w2 ⟨rfl, k2, P', m', hw2, hp2⟩; have W2 := Lib.hid hw2; clear hw2; have K2 := Lib.hid k2; clear k2; have HP2 := Lib.hid hp2; clear hp2)
      go_roundg (gk - 1)
      case measure => have := HPP.out; have := HK.out; omega
      case rel =>
        obtain ⟨rfl, rfl, hp⟩ := HP2.out HD.out
        have hle := (W2.out.inv.ops 0 (stepO A1 T1 o1) (by simp)).le
        refine ⟨_, _, _, W2.out, by have := HD.out; omega, by have := HK.out; omega, HC.out.next H10.out hp, ?_⟩
        exact HKP.out.trans (K2.out.less (fun k hk => ⟨.inl hk.1, fun e => HX.out.2.2 k (by rw [e]; exact HPO.out) hk.1, hk.2⟩))
end
end Go.Proofs.Ytebdlggmpojgdaa
