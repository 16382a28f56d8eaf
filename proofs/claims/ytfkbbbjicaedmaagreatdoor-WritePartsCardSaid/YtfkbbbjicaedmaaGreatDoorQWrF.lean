/-
  A byte in quotes is written; a string as bytes; whether a name can be told. Condition: fewer than 2^47 bytes.
-/
import Derived.Test.YtfkbbbjicaedmaaGreatDoorQWrE
import Derived.Test.YtfkbbbjicaedmaaGreatDoorQWrC
import Derived.Test.YtfkbbbjicaedmaaGreatDoorQMP
import Derived.Lib.ConvBytes
namespace Go.Proofs.YtfkbbbjicaedmaaGreatDoor
open Go.RowKit
set_option linter.unusedVariables false
set_option linter.unusedSimpArgs false
section
variable {B b : Nat} {R : Nat → Prop} {w w' : World} {l : List UInt8}
set_option maxHeartbeats 4000000 in
set_option maxRecDepth 100000 in
theorem winq_any (h : WAt B R w b l) (c : UInt8) (hl : l.length + 2 ≤ 140737488355328) :
    Calls Tryz.prog 51 #[.pointer (some ⟨b, 0, none⟩), .int .u8 c.toNat] w fun e w' => e = .returned (.tuple #[]) ∧ Wr B R w w' b (l ++ escX c) := by
  have H1 := Lib.hid fun s (hs : s.length = 2) => wstr_any h s (by omega)
  have H2 := Lib.hid fun x => wbyte_any h x (by omega)
  have H3 := Lib.hid fun (R1 : Nat → Prop) (w1 : World) (l1 : List UInt8) (h1 : WAt B R1 w1 b l1) x (hl1 : l1.length + 1 ≤ 140737488355328) => wbyte_any h1 x hl1
  clear h
  have hc : (c.toNat : Int) = 10 ∨ (c.toNat : Int) = 9 ∨ (c.toNat : Int) = 39 ∨ (c.toNat : Int) = 92 ∨ ((c.toNat : Int) ≠ 10 ∧ (c.toNat : Int) ≠ 9 ∧ (c.toNat : Int) ≠ 39 ∧ (c.toNat : Int) ≠ 92) := by omega
  have inj : ∀ k : UInt8, (c.toNat : Int) = (k.toNat : Int) → c = k := fun k hk => UInt8.toNat_inj.1 (by omega)
  rcases hc with hc | hc | hc | hc | ⟨h1, h2, h3, h4⟩
  · have := inj 10 (by rw [hc]; rfl); subst this
    have HL := Lib.hid hl; clear hl hc inj
    have e1 : (((10 : UInt8).toNat : Nat) : Int) = 10 := rfl
    rw [e1]
    go_enter Tryz.func51, Tryz.ntmps51
    go_wp2_with (go_at_call 37; refine (H1.out [92, 110] rfl).mono ?_)
    rintro e w1 ⟨rfl, hw⟩
    have HW := Lib.hid hw; clear hw
    go_wp2
    go_end0
    exact ⟨rfl, HW.out⟩
  · have := inj 9 (by rw [hc]; rfl); subst this
    have HL := Lib.hid hl; clear hl hc inj
    have e1 : (((9 : UInt8).toNat : Nat) : Int) = 9 := rfl
    rw [e1]
    go_enter Tryz.func51, Tryz.ntmps51
    go_wp2_with (go_at_call 37; refine (H1.out [92, 116] rfl).mono ?_)
    rintro e w1 ⟨rfl, hw⟩
    have HW := Lib.hid hw; clear hw
    go_wp2
    go_end0
    exact ⟨rfl, HW.out⟩
  · have := inj 39 (by rw [hc]; rfl); subst this
    have HL := Lib.hid hl; clear hl hc inj
    have e1 : (((39 : UInt8).toNat : Nat) : Int) = 39 := rfl
    rw [e1]
    go_enter Tryz.func51, Tryz.ntmps51
    go_wp2_with (go_at_call 36; refine (H2.out 92).mono ?_)
    rintro e w1 ⟨rfl, ⟨R1, hw, hr⟩, hk⟩
    have H4 := Lib.hid (H3.out _ _ _ hw 39 (by have := HL.out; simp; omega)); have HR := Lib.hid hr; have HK := Lib.hid hk; clear hw hr hk
    go_wp2_with (go_at_call 36; refine H4.out.mono ?_)
    rintro e w2 ⟨rfl, hw⟩
    have HW := Lib.hid (Wr.next HK.out HR.out hw); clear hw
    go_wp2
    go_end0
    refine ⟨rfl, ?_⟩
    have := HW.out
    rwa [List.append_assoc] at this
  · have := inj 92 (by rw [hc]; rfl); subst this
    have HL := Lib.hid hl; clear hl hc inj
    have e1 : (((92 : UInt8).toNat : Nat) : Int) = 92 := rfl
    rw [e1]
    go_enter Tryz.func51, Tryz.ntmps51
    go_wp2_with (go_at_call 36; refine (H2.out 92).mono ?_)
    rintro e w1 ⟨rfl, ⟨R1, hw, hr⟩, hk⟩
    have H4 := Lib.hid (H3.out _ _ _ hw 92 (by have := HL.out; simp; omega)); have HR := Lib.hid hr; have HK := Lib.hid hk; clear hw hr hk
    go_wp2_with (go_at_call 36; refine H4.out.mono ?_)
    rintro e w2 ⟨rfl, hw⟩
    have HW := Lib.hid (Wr.next HK.out HR.out hw); clear hw
    go_wp2
    go_end0
    refine ⟨rfl, ?_⟩
    have := HW.out
    rwa [List.append_assoc] at this
  · have he : escX c = [c] := by
      unfold escX
      rw [if_neg (fun e => h1 (by rw [e]; rfl)), if_neg (fun e => h2 (by rw [e]; rfl)), if_neg (fun e => e.elim (fun e => h3 (by rw [e]; rfl)) (fun e => h4 (by rw [e]; rfl)))]
    rw [he]
    have H4 := Lib.hid (H2.out c)
    generalize (c.toNat : Int) = z at *
    go_enter Tryz.func51, Tryz.ntmps51
    go_wp2_with (go_at_call 36; refine H4.out.mono ?_)
    rintro e w1 ⟨rfl, hw⟩
    have HW := Lib.hid hw; clear hw
    go_wp2
    go_end0
    exact ⟨rfl, HW.out⟩
def BytesAt (w : World) (g : Nat) (L : List UInt8) : Prop := g < w.heap.size ∧ ∀ (j : Nat) (c : UInt8), L[j]? = some c → w.cell? ⟨g, j, none⟩ = some (.int .u8 c.toNat)
theorem BytesAt.keep {X : Nat → Prop} {g : Nat} {L : List UInt8} (h : BytesAt w g L) (hk : Keep X w w') (hX : X g) : BytesAt w' g L :=
  ⟨Nat.lt_of_lt_of_le h.1 hk.size, fun j c hj => (World.cell?_of_block (a := ⟨g, j, none⟩) (hk.block g h.1 hX)).trans (h.2 j c hj)⟩
theorem conv_bytes (w : World) (L : List UInt8) : ∃ g cap w2, (convert 9 42 (.string (str L))).run Tryz.prog w = .ok (.slice (some ⟨g, 0, none⟩) L.length cap) w2 ∧ w.heap.size ≤ g ∧ BytesAt w2 g L ∧ Keep (fun g => g < w.heap.size) w w2 := by
  have h := Lib.run_convert_string_bytes (P := Tryz.prog) w 9 42 5 (str L) Tryz.underlying9 Tryz.underlying42 Tryz.underlying5
  refine ⟨w.heap.size, _, _, by rw [h, str_size], Nat.le_refl _, ⟨by rw [Lib.bytesWorld_size]; omega, fun j c hj => ?_⟩, ?_⟩
  · have hlt := (List.getElem?_eq_some_iff.1 hj).1
    rw [Lib.bytesWorld_cell w _ (str L) j (by rw [str_size]; exact hlt), str_data]
    simp [List.getD, hj]
  · exact ⟨rfl, rfl, rfl, by rw [Lib.bytesWorld_size]; omega, fun k hk _ => Lib.bytesWorld_at_old w _ _ k hk⟩
end
end Go.Proofs.YtfkbbbjicaedmaaGreatDoor
