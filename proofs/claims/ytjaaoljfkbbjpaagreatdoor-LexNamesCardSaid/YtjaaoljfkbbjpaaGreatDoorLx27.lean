/-
  The document's examples of package lex hold. Conditions: the listed variables hold what the row says.
-/
import Derived.Test.YtjaaoljfkbbjpaaGreatDoorLx26
namespace Go.Proofs.YtjaaoljfkbbjpaaGreatDoor
open Go.RowKit Go.Shelf Go.Maps
set_option linter.unusedVariables false
set_option linter.unusedSimpArgs false

theorem ToksAt.at_ {w : World} {B : Nat} {v : Value} {ts : List Tok} (h : ToksAt w B v ts) (h0 : 0 < ts.length) : ∃ g c, v = .slice (some ⟨g, 0, none⟩) ts.length c ∧ B ≤ g ∧ g < w.heap.size ∧ ∀ (i : Nat) (t : Tok), ts[i]? = some t → TokIn w g (i * 6) t := by
  have hs := h.sl
  obtain ⟨h1, h2⟩ := h
  rcases h2 with ⟨rfl, hz⟩ | ⟨g, cap, cur, rfl, a1, a2, a3, a4, a5, a6⟩
  · omega
  · refine ⟨g, cap, rfl, a1, Blk.lt (show Blk w g _ cur from a2), fun i t hi => ?_⟩
    obtain ⟨a, c, he, hc⟩ := hs
    obtain ⟨g', o, ha, _, _, ht⟩ := hc i t hi
    cases he
    cases ha
    rw [Nat.zero_add] at ht
    exact ht
def txA : List UInt8 := [102, 111, 111, 40, 88, 44, 39, 97, 32, 98, 39, 41, 46]
def txB : List UInt8 := [97, 58, 45, 98]
def txC : List UInt8 := [48, 39, 97]
def txD : List UInt8 := [120, 46, 121]
def txE : List UInt8 := [39, 97]
def tkA : List Tok := [⟨⟨1, [102, 111, 111], 0, false⟩, 0, true⟩, ⟨⟨4, [40], 0, false⟩, 3, false⟩, ⟨⟨2, [88], 0, false⟩, 4, false⟩, ⟨⟨4, [44], 0, false⟩, 5, false⟩, ⟨⟨1, [97, 32, 98], 0, true⟩, 6, false⟩, ⟨⟨4, [41], 0, false⟩, 11, false⟩, ⟨⟨5, [46], 0, false⟩, 12, false⟩]
def tkB : List Tok := [⟨⟨1, [97], 0, false⟩, 0, true⟩, ⟨⟨1, [58, 45], 0, false⟩, 1, false⟩, ⟨⟨1, [98], 0, false⟩, 3, false⟩]
def tkC : List Tok := [⟨⟨3, [48, 39, 97], 97, false⟩, 0, true⟩]
def tkD : List Tok := [⟨⟨1, [120], 0, false⟩, 0, true⟩, ⟨⟨1, [46], 0, false⟩, 1, false⟩, ⟨⟨1, [121], 0, false⟩, 2, false⟩]
theorem exsA : tokens txA = .good tkA 13 [] := by decide +kernel
theorem exsB : tokens txB = .good tkB 4 [] := by decide +kernel
theorem exsC : tokens txC = .good tkC 3 [] := by decide +kernel
theorem exsD : tokens txD = .good tkD 3 [] := by decide +kernel
theorem exsE : tokens txE = .bad 81 0 := by decide +kernel
theorem exsF : bareC [102, 111, 111] = true := by decide +kernel
theorem exsG : bareC [91, 93] = false := by decide +kernel
theorem Below.keeps {w w' : World} (h : Below w.heap.size w w') : Keep (· < w.heap.size) w w' := Keep.ofBelow h (fun k hk => hk)
theorem below_next {w w1 w2 : World} (h : Below w.heap.size w w1) (h2 : Below w1.heap.size w1 w2) : Below w.heap.size w w2 :=
  ((Below.keeps h).trans ((Below.keeps h2).less fun k (hk : k < w.heap.size) => Nat.lt_of_lt_of_le hk h.size)).toBelow (fun _ hk => hk) (Nat.le_refl _)
set_option maxRecDepth 1000000 in
set_option maxHeartbeats 16000000 in
theorem alive_any {w : World} (hv : LxVars w) : Calls Tryz.prog 10 #[] w fun e w' => e = .returned (.bool true) ∧ Below w.heap.size w w' := by
  have hA := tokens_v txA hv
  rw [exsA, show str txA = (⟨#[102, 111, 111, 40, 88, 44, 39, 97, 32, 98, 39, 41, 46]⟩ : ByteArray) from rfl] at hA
  have HV := Lib.hid hv
  have HA := Lib.hid hA
  clear hv hA
  go_enter Tryz.func10, Tryz.ntmps10
  go_wp2_with fail
  refine HA.out.mono ?_
  rintro e w1 ⟨va, rfl, hta, hb1⟩
  have hv1 := HV.out.below hb1
  have hB := tokens_v txB hv1
  rw [exsB, show str txB = (⟨#[97, 58, 45, 98]⟩ : ByteArray) from rfl] at hB
  obtain ⟨g1, c1, rfl, ga1, gb1, hta⟩ := hta.at_ (by decide)
  have HT1 := Lib.hid hta
  have HV1 := Lib.hid hv1
  have HB1 := Lib.hid hb1
  have HB := Lib.hid hB
  clear hta hv1 hb1 hB HA
  simp only [show tkA.length = 7 from rfl]
  go_wp2_with fail
  refine HB.out.mono ?_
  rintro e w2 ⟨vb, rfl, htb, hb2⟩
  have hv2 := HV1.out.below hb2
  have hC := tokens_v txC hv2
  rw [exsC, show str txC = (⟨#[48, 39, 97]⟩ : ByteArray) from rfl] at hC
  obtain ⟨g2, c2, rfl, ga2, gb2, htb⟩ := htb.at_ (by decide)
  have HT1 := Lib.hid (fun i t h => (HT1.out i t h).keep (Below.keeps hb2) gb1 gb1)
  have HT2 := Lib.hid htb
  have HV2 := Lib.hid hv2
  have HB2 := Lib.hid hb2
  have HC := Lib.hid hC
  have gb1 := Nat.lt_of_lt_of_le gb1 hb2.size
  clear htb hv2 hb2 hC HB
  simp only [show tkB.length = 3 from rfl]
  go_wp2_with fail
  refine HC.out.mono ?_
  rintro e w3 ⟨vc, rfl, htc, hb3⟩
  have hv3 := HV2.out.below hb3
  have hD := tokens_v txD hv3
  rw [exsD, show str txD = (⟨#[120, 46, 121]⟩ : ByteArray) from rfl] at hD
  obtain ⟨g3, c3, rfl, ga3, gb3, htc⟩ := htc.at_ (by decide)
  have HT1 := Lib.hid (fun i t h => (HT1.out i t h).keep (Below.keeps hb3) gb1 gb1)
  have HT2 := Lib.hid (fun i t h => (HT2.out i t h).keep (Below.keeps hb3) gb2 gb2)
  have HT3 := Lib.hid htc
  have HV3 := Lib.hid hv3
  have HB3 := Lib.hid hb3
  have HD := Lib.hid hD
  have gb1 := Nat.lt_of_lt_of_le gb1 hb3.size
  have gb2 := Nat.lt_of_lt_of_le gb2 hb3.size
  clear htc hv3 hb3 hD HC
  simp only [show tkC.length = 1 from rfl]
  go_wp2_with fail
  refine HD.out.mono ?_
  rintro e w4 ⟨vd, rfl, htd, hb4⟩
  have hv4 := HV3.out.below hb4
  have hE := tokens_v txE hv4
  rw [exsE, show str txE = (⟨#[39, 97]⟩ : ByteArray) from rfl] at hE
  obtain ⟨g4, c4, rfl, ga4, gb4, htd⟩ := htd.at_ (by decide)
  have HT1 := Lib.hid (fun i t h => (HT1.out i t h).keep (Below.keeps hb4) gb1 gb1)
  have HT2 := Lib.hid (fun i t h => (HT2.out i t h).keep (Below.keeps hb4) gb2 gb2)
  have HT3 := Lib.hid (fun i t h => (HT3.out i t h).keep (Below.keeps hb4) gb3 gb3)
  have HT4 := Lib.hid htd
  have HV4 := Lib.hid hv4
  have HB4 := Lib.hid hb4
  have HE := Lib.hid hE
  have gb1 := Nat.lt_of_lt_of_le gb1 hb4.size
  have gb2 := Nat.lt_of_lt_of_le gb2 hb4.size
  have gb3 := Nat.lt_of_lt_of_le gb3 hb4.size
  clear htd hv4 hb4 hE HD
  simp only [show tkD.length = 3 from rfl]
  go_wp2_with fail
  refine HE.out.mono ?_
  rintro e w5 ⟨fb, rfl, hF, hfb, hb5⟩
  have hv5 := HV4.out.below hb5
  have t1 := (HT1.out 4 _ rfl).keep (Below.keeps hb5) gb1 gb1
  have t2 := (HT1.out 6 _ rfl).keep (Below.keeps hb5) gb1 gb1
  have t3 := (HT2.out 1 _ rfl).keep (Below.keeps hb5) gb2 gb2
  have t4 := (HT3.out 0 _ rfl).keep (Below.keeps hb5) gb3 gb3
  have t5 := (HT4.out 1 _ rfl).keep (Below.keeps hb5) gb4 gb4
  have x1 := t1.c1
  have x2 := t1.c4
  have x3 := t2.c0
  have x4 := t3.c1
  have x5 := t4.c2
  have x6 := t5.c1
  simp only [Nat.reduceMul, Nat.reduceAdd, Nat.zero_mul, Nat.zero_add] at x1 x2 x3 x4 x5 x6
  rw [show str [97, 32, 98] = (⟨#[97, 32, 98]⟩ : ByteArray) from rfl] at x1
  rw [show str [58, 45] = (⟨#[58, 45]⟩ : ByteArray) from rfl] at x4
  rw [show str [46] = (⟨#[46]⟩ : ByteArray) from rfl] at x6
  have hcode := code_at hF hv5
  have hs := fun W => sign_any 43 W
  rw [show byteV 43 = .int .u8 43 from rfl, show signB 43 = true from rfl] at hs
  have HCODE := Lib.hid hcode
  have HV5 := Lib.hid hv5
  have HB5 := Lib.hid (below_next (below_next (below_next (below_next HB1.out HB2.out) HB3.out) HB4.out) hb5)
  clear hF hv5 hb5 t1 t2 t3 t4 t5 hcode HE HT1 HT2 HT3 HT4 HB1 HB2 HB3 HB4 HV1 HV2 HV3 HV4
  unfold faultV at *
  go_wp2_with fail
  refine HCODE.out.mono ?_
  rintro e w6 ⟨rfl, hb6⟩
  have hv6 := HV5.out.below hb6
  have hf := bare_any [102, 111, 111] hv6
  rw [exsF, show str [102, 111, 111] = (⟨#[102, 111, 111]⟩ : ByteArray) from rfl] at hf
  have HF := Lib.hid hf
  have HV6 := Lib.hid hv6
  have HB6 := Lib.hid (below_next HB5.out hb6)
  clear hf hv6 hb6 HCODE
  go_wp2_with fail
  refine HF.out.mono ?_
  rintro e w7 ⟨rfl, hb7⟩
  have hv7 := HV6.out.below hb7
  have hg := bare_any [91, 93] hv7
  rw [exsG, show str [91, 93] = (⟨#[91, 93]⟩ : ByteArray) from rfl] at hg
  have HG := Lib.hid hg
  have HB7 := Lib.hid (below_next HB6.out hb7)
  clear hg hv7 hb7 HF
  go_wp2_with fail
  refine HG.out.mono ?_
  rintro e w8 ⟨rfl, hb8⟩
  have HB8 := Lib.hid (below_next HB7.out hb8)
  clear hb8 HG
  go_wp2_with fail
  refine (hs _).mono ?_
  rintro e w9 ⟨rfl, rfl⟩
  go_wp2_with fail
  go_ret
  exact ⟨rfl, HB8.out⟩
end Go.Proofs.YtjaaoljfkbbjpaaGreatDoor
