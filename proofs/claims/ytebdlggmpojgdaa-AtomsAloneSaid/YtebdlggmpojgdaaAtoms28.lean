/-
  The document's example of layer 3, called by every statement, answers true and leaves all older memory as it was. No condition.
-/
import Derived.Test.YtebdlggmpojgdaaAtoms27
namespace Go.Proofs.Ytebdlggmpojgdaa
open Go.RowKit Go.Maps
set_option linter.unusedVariables false

section
variable {w w' : World} {X Y : Nat → Prop} {pa pt nb : Nat} {B : Nat} {M : Int} {e : Ending} {pos : List Nat}
theorem al1 (hX : ∀ k, w.heap.size ≤ k → ¬ X k) : Calls Try.prog 9 #[.int .i64 100] w fun e w' => e = .returned (.pointer (some ⟨w.heap.size + 1, 0, none⟩)) ∧ Arena w' X (w.heap.size + 1) (AS.new 100) ∧ Below w.heap.size w w' := new_any 100 w X hX
theorem al2 (h : Arena w X pa (AS.new 100)) (hX : ∀ k, w.heap.size ≤ k → ¬ X k) :
    Calls Try.prog 10 #[.pointer (some ⟨pa, 0, none⟩), .int .i64 2, .int .i64 9] w fun e w' => ∃ pt nb, e = .returned (.tuple #[.pointer (some ⟨pt, 0, none⟩), .int .i64 0]) ∧
      Tab w' (fun k => X k ∨ k = pt ∨ k = nb) pa pt nb aA0 aT0 ∧ Keep X w w' ∧ w.heap.size ≤ pt ∧ w.heap.size ≤ nb := tnew_any h hX 2 9 (by decide) (by decide)
theorem al3 : AInv aA0 aT0 [] 0 [] 3 100 := AInv.new_ 100 2 9 (by decide)
theorem ak_hi1' : ((asK 13).2.2[1]?.map (fun o => decide (o.next = 10))) = some true := by decide +kernel
/-- A state of the example: its two operations, over or not. -/
theorem ak_two (k : Nat) : ∃ o p, (asK k).2.2[0]? = some o ∧ (asK k).2.2[1]? = some p :=
  ⟨(asK k).2.2[0]'(by rw [asK_len]; omega), (asK k).2.2[1]'(by rw [asK_len]; omega), by simp [asK_len], by simp [asK_len]⟩
theorem al_over {k i : Nat} {po : Nat} {b : Bool} (h : ManyAt w X pa pt nb (asK k) pos B M) (hf : ((asK k).2.2[i]?.map (fun o => decide (o.next = 10))) = some b) (hp : pos[i]? = some po) :
    Calls Try.prog 14 #[.pointer (some ⟨po, 0, none⟩)] w fun e w' => e = .returned (.bool b) ∧ w = w' := by
  cases ho : (asK k).2.2[i]? with
  | none => rw [ho] at hf; cases hf
  | some o =>
    rw [ho] at hf
    have := h.over ho hp
    rw [show decide (o.next = 10) = b by simpa using hf] at this
    exact this
theorem al_answer {i : Nat} {po : Nat} (h : ManyAt w X pa pt nb (asK 13) pos B M) (hf : (asK 13).2.2[i]?.map (fun o => (o.next, o.id, o.err)) = some (10, 4, 0)) (hp : pos[i]? = some po) :
    Calls Try.prog 13 #[.pointer (some ⟨po, 0, none⟩)] w fun e w' => e = .returned (.tuple #[.int .i64 4, .int .i64 0]) ∧ ManyAt w' X pa pt nb (asK 13) pos B M ∧ Keep (fun _ => True) w w' := by
  cases ho : (asK 13).2.2[i]? with
  | none => rw [ho] at hf; cases hf
  | some o =>
    rw [ho] at hf
    simp only [Option.map_some, Option.some.injEq, Prod.mk.injEq] at hf
    have := h.answer ho hp hf.1
    rw [hf.2.1, hf.2.2] at this
    exact this
theorem al_name (h : ManyAt w X pa pt nb (asK 13) pos 6 100) : Calls Try.prog 18 #[.pointer (some ⟨pt, 0, none⟩), .int .i64 3] w fun e w' => e = .returned (.tuple #[.string (str [98]), .bool true]) ∧ Below w.heap.size w w' := by
  have := h.name (by rw [asK_len]; omega) (id := 3) (by decide)
  obtain ⟨n1, n2, n3, n4⟩ := ak_name
  rw [n4, n1, n2, show ((3 : Int).toNat + 1) = 4 from rfl, n3] at this
  rw [if_pos (by decide)] at this
  exact this
theorem al_len (h : ManyAt w X pa pt nb (asK 13) pos 6 100) : Calls Try.prog 17 #[.pointer (some ⟨pt, 0, none⟩)] w fun e w' => e = .returned (.int .i64 3) ∧ Below w.heap.size w w' := by
  have := h.len (by rw [asK_len]; omega)
  rw [ak_name.2.2.2] at this
  exact this
theorem al_begin {os : List OS} {P : List Int} {m : Int} (h : Many w X pa pt nb ar3.1 ar3.2.1 P m os pos B M) : Calls Try.prog 11 #[.pointer (some ⟨pt, 0, none⟩), .string ⟨#[99]⟩] w fun e w' => ∃ po, e = .returned (.pointer (some ⟨po, 0, none⟩)) ∧ w.heap.size ≤ po ∧ Many w' (fun k => X k ∨ k = po) pa pt nb ar3.1 ar3.2.1 P m (os ++ [OS.begun ar3.2.1 [99]]) (pos ++ [po]) B M ∧ Below w.heap.size w w' := h.begin ⟨#[99]⟩ (by decide)
theorem al_step {i : Nat} {po : Nat} {s : AS × TS × List OS} (h : ManyAt w X pa pt nb s pos 6 100) (hs : s.2.2.length = 2) (hp : pos[i]? = some po) :
    Calls Try.prog 12 #[.pointer (some ⟨po, 0, none⟩)] w fun e w' => (∃ b, e = .returned (.bool b)) ∧ ManyAt w' X pa pt nb (stp s i) pos 6 100 ∧ Keep (fun k => X k ∧ k ∉ pos ∧ k ≠ nb) w w' := h.stp (by omega) (by rw [hs]; decide) hp
end
def ARel (w w1 : World) (X : Nat → Prop) (pa pt nb : Nat) (pos : List Nat) (g : Nat) (i : Value) (wr : World) : Prop :=
  ∃ k : Nat, k ≤ 13 ∧ 13 - k ≤ g ∧ i = .int .i64 k ∧ ManyAt wr X pa pt nb (asK k) pos 6 100 ∧ Keep (fun k => k < w.heap.size) w1 wr
set_option maxRecDepth 100000 in
set_option maxHeartbeats 4000000 in
theorem aalive_any (w : World) : Calls Try.prog 8 #[] w fun e w' => e = .returned (.bool true) ∧ Below w.heap.size w w' := by
  go_enter Try.func8, Try.ntmps8
  go_wp2_with fail
  refine (al1 (X := fun k => k < w.heap.size) (fun k hk => by omega)).mono ?_
  rintro e w1 ⟨rfl, a1, b1⟩
  have z1 := b1.size
  have B1 := Lib.hid b1; clear b1
  go_wp2_with fail
  refine (al2 a1 (fun k hk => by omega)).mono ?_
  rintro e w2 ⟨pt, nb, rfl, t2, k2, hp2, hp3⟩
  have z2 := k2.size
  clear a1
  have K2 := Lib.hid k2; clear k2
  go_wp2_with fail
  refine (intern_any al3 (by omega) (by decide) t2 ⟨#[97]⟩ (by decide)).mono ?_
  rintro e w3 hd
  obtain ⟨rfl, t3, ⟨P3, m3, i3⟩, k3⟩ := did_of hd (i := 2) (show run1 60 aA0 aT0 (OS.begun aT0 [97]) = ar1 from rfl) (by rw [am0]; decide) af1
  clear hd t2
  have z3 := k3.size
  have K3 := Lib.hid (K2.out.trans (k3.less (fun k hk => ⟨.inl hk, by omega⟩))); clear k3 K2
  go_wp2_with fail
  refine (intern_any i3 (by omega) (by decide) t3 ⟨#[98]⟩ (by decide)).mono ?_
  rintro e w4 hd
  obtain ⟨rfl, t4, ⟨P4, m4, i4⟩, k4⟩ := did_of hd (i := 3) (show run1 60 ar1.1 ar1.2.1 (OS.begun ar1.2.1 [98]) = ar2 from rfl) (by rw [am1]; decide) af2
  clear hd t3
  have z4 := k4.size
  have K4 := Lib.hid (K3.out.trans (k4.less (fun k hk => ⟨.inl hk, by omega⟩))); clear k4 K3
  go_wp2_with fail
  refine (intern_any i4 (by omega) (by decide) t4 ⟨#[97]⟩ (by decide)).mono ?_
  rintro e w5 hd
  obtain ⟨rfl, t5, ⟨P5, m5, i5⟩, k5⟩ := did_of hd (i := 2) (show run1 60 ar2.1 ar2.2.1 (OS.begun ar2.2.1 [97]) = ar3 from rfl) (by rw [am2]; decide) af3
  clear hd t4
  have z5 := k5.size
  have K5 := Lib.hid (K4.out.trans (k5.less (fun k hk => ⟨.inl hk, by omega⟩))); clear k5 K4
  go_wp2_with fail
  refine (al_begin (Many.nil_ i5 t5)).mono ?_
  rintro e w6 ⟨po, rfl, hpo, y6, b6⟩
  clear t5 i5 i4 i3
  have z6 := b6.size
  have K6 := Lib.hid (K5.out.trans (Keep.ofBelow (X := fun k => k < w.heap.size) b6 (fun k hk => by omega))); clear b6 K5
  go_wp2_with fail
  refine (al_begin y6).mono ?_
  rintro e w7 ⟨pp, rfl, hpp, y7, b7⟩
  clear y6
  have z7 := b7.size
  have K7 := Lib.hid (K6.out.trans (Keep.ofBelow (X := fun k => k < w.heap.size) b7 (fun k hk => by omega))); clear b7 K6
  have m7 : ManyAt w7 (fun k => ((k < w.heap.size ∨ k = pt ∨ k = nb) ∨ k = po) ∨ k = pp) (w.heap.size + 1) pt nb (asK 0) [po, pp] 6 100 := ⟨_, _, y7⟩
  clear y7
  have M7 := Lib.hid m7; clear m7
  go_wp2_with fail
  go_loopg [12] 13 (fun g i wr => ARel w w1 (fun k => ((k < w.heap.size ∨ k = pt ∨ k = nb) ∨ k = po) ∨ k = pp) (w.heap.size + 1) pt nb [po, pp] g i wr)
  case atStart => exact ⟨0, by omega, by omega, rfl, M7.out, K7.out⟩
  case round =>
    obtain ⟨k, hk, hg, rfl, hm, hkp⟩ := hrel
    have HKP := Lib.hid hkp; clear hkp
    have HM := Lib.hid hm; clear hm
    have HG := Lib.hid hg; clear hg
    by_cases h8 : k < 8
    · have h0 := al_over HM.out (ak_lo k h8) (i := 0) (po := po) rfl
      have H0 := Lib.hid h0; clear h0
      have st1 := al_step HM.out (asK_len k) (i := 0) (po := po) rfl
      have ST1 := Lib.hid st1; clear st1
      clear HM
      go_wp2_with fail
      refine H0.out.mono ?_
      rintro e w' ⟨rfl, rfl⟩
      go_wp2_with fail
      refine ST1.out.mono ?_
      rintro e w8 ⟨⟨bb8, rfl⟩, m8, k8⟩
      have st2 := al_step m8 (by rw [stp_len, asK_len]) (i := 1) (po := pp) rfl
      have ST2 := Lib.hid st2; clear st2 m8
      have K8 := Lib.hid (HKP.out.trans (k8.less (fun j hj => ⟨.inl (.inl (.inl hj)), by simp; omega, by omega⟩))); clear k8 ST1
      go_wp2_with fail
      refine ST2.out.mono ?_
      rintro e w9 ⟨⟨bb9, rfl⟩, m9, k9⟩
      have M9 := Lib.hid m9; clear m9
      have K9 := Lib.hid (K8.out.trans (k9.less (fun j hj => ⟨.inl (.inl (.inl hj)), by simp; omega, by omega⟩))); clear k9 K8 ST2
      go_wp2_with fail
      go_roundg (13 - (k + 1))
      case measure => have := HG.out; omega
      case rel => exact ⟨k + 1, by omega, Nat.le_refl _, by go_num, M9.out, K9.out⟩
    · by_cases h13 : k < 13
      · have h0 := al_over HM.out (ak_hi0 k (by omega) (by omega)) (i := 0) (po := po) rfl
        have H0 := Lib.hid h0; clear h0
        have h1 := al_over HM.out (ak_hi1 k h13) (i := 1) (po := pp) rfl
        have H1 := Lib.hid h1; clear h1
        have st1 := al_step HM.out (asK_len k) (i := 0) (po := po) rfl
        have ST1 := Lib.hid st1; clear st1
        clear HM
        go_wp2_with fail
        refine H0.out.mono ?_
        rintro e w' ⟨rfl, rfl⟩
        go_wp2_with fail
        refine H1.out.mono ?_
        rintro e w' ⟨rfl, rfl⟩
        go_wp2_with fail
        refine ST1.out.mono ?_
        rintro e w8 ⟨⟨bb8, rfl⟩, m8, k8⟩
        have st2 := al_step m8 (by rw [stp_len, asK_len]) (i := 1) (po := pp) rfl
        have ST2 := Lib.hid st2; clear st2 m8
        have K8 := Lib.hid (HKP.out.trans (k8.less (fun j hj => ⟨.inl (.inl (.inl hj)), by simp; omega, by omega⟩))); clear k8 ST1
        go_wp2_with fail
        refine ST2.out.mono ?_
        rintro e w9 ⟨⟨bb9, rfl⟩, m9, k9⟩
        have M9 := Lib.hid m9; clear m9
        have K9 := Lib.hid (K8.out.trans (k9.less (fun j hj => ⟨.inl (.inl (.inl hj)), by simp; omega, by omega⟩))); clear k9 K8 ST2
        go_wp2_with fail
        go_roundg (13 - (k + 1))
        case measure => have := HG.out; omega
        case rel => exact ⟨k + 1, by omega, Nat.le_refl _, by go_num, M9.out, K9.out⟩
      · obtain rfl : k = 13 := by omega
        have h0 := al_over HM.out (ak_hi0 13 (by omega) (by omega)) (i := 0) (po := po) rfl
        have H0 := Lib.hid h0; clear h0
        have h1 := al_over HM.out (ak_hi1' ) (i := 1) (po := pp) rfl
        have H1 := Lib.hid h1; clear h1
        have h2 := al_answer HM.out ak_end0 (i := 0) (po := po) rfl
        have H2 := Lib.hid h2; clear h2
        clear HM HG h8 h13 hk
        go_wp2_with fail
        refine H0.out.mono ?_
        rintro e w' ⟨rfl, rfl⟩
        go_wp2_with fail
        refine H1.out.mono ?_
        rintro e w' ⟨rfl, rfl⟩
        go_wp2_with fail
        refine H2.out.mono ?_
        rintro e w8 ⟨rfl, m8, k8⟩
        have h3 := al_answer m8 ak_end1 (i := 1) (po := pp) rfl
        have H3 := Lib.hid h3; clear h3 m8 H0 H1 H2
        have K8 := Lib.hid (HKP.out.trans (k8.less (fun _ _ => trivial))); clear k8
        go_wp2_with fail
        refine H3.out.mono ?_
        rintro e w9 ⟨rfl, m9, k9⟩
        have M9 := Lib.hid m9; clear m9
        have K9 := Lib.hid (K8.out.trans (k9.less (fun _ _ => trivial))); clear k9 K8 H3
        have z9 := K9.out.size
        go_wp2_with fail
        refine (al_name M9.out).mono ?_
        rintro e w10 ⟨rfl, b10⟩
        have h11 := al_len (M9.out.below b10)
        have H11 := Lib.hid h11; clear h11 M9
        have z10 := b10.size
        have K10 := Lib.hid (K9.out.trans (Keep.ofBelow (X := fun k => k < w.heap.size) b10 (fun k hk => by omega))); clear b10 K9
        have hs98 : (str [98]).toList = [98] := by rw [ByteArray.toList_eq, str_data]
        go_wp2_with fail
        refine H11.out.mono ?_
        rintro e w11 ⟨rfl, b11⟩
        have K11 := Lib.hid (K10.out.trans (Keep.ofBelow (X := fun k => k < w.heap.size) b11 (fun k hk => by omega))); clear b11 K10
        go_wp2_with fail
        go_ret
        exact ⟨rfl, B1.out.trans (K11.out.toBelow (fun _ hk => hk) z1)⟩
end Go.Proofs.Ytebdlggmpojgdaa
