/-
  LexAlone's walk: the text of each token, from its place to where it ends, alone is that one token. Conditions: the listed variables hold what the row says.
-/
import Derived.Test.YtjaaoljfkbbjpaaGreatDoorLx27
import Derived.Test.YtjaaoljfkbbjpaaGreatDoorLx10
namespace Go.Proofs.YtjaaoljfkbbjpaaGreatDoor
open Go.RowKit Go.Shelf Go.Maps
set_option linter.unusedVariables false
set_option linter.unusedSimpArgs false

theorem ToksAt.cap {w : World} {B : Nat} {v : Value} {ts : List Tok} (h : ToksAt w B v ts) (h0 : 0 < ts.length) : ∃ g c, v = .slice (some ⟨g, 0, none⟩) ts.length c ∧ ts.length ≤ c ∧ c ≤ maxLen ∧ B ≤ g ∧ g < w.heap.size ∧ ∀ (i : Nat) (t : Tok), ts[i]? = some t → TokIn w g (i * 6) t := by
  obtain ⟨g, c, rfl, h1, h2, h3⟩ := h.at_ h0
  refine ⟨g, c, rfl, ?_, ?_, h1, h2, h3⟩
  · obtain ⟨_, h | ⟨g', cap, cur, he, a1, a2, a3, a4, _⟩⟩ := h
    · omega
    · cases he; exact a3
  · obtain ⟨_, h | ⟨g', cap, cur, he, a1, a2, a3, a4, _⟩⟩ := h
    · omega
    · cases he; exact a4
theorem tokens_count {l : List UInt8} {ts : List Tok} {n : Nat} {r : List UInt8} (h : tokens l = .good ts n r) : ts.length ≤ l.length := by
  have key : ∀ i, i < ts.length → i ≤ (ts.getD i tok0).pos := by
    intro i
    induction i with
    | zero => intro _; exact Nat.zero_le _
    | succ i ih =>
      intro hi
      obtain ⟨t, ht⟩ := places_plain h (i + 1) hi
      have h1 := ht.rise (by omega)
      have h2 := ih (by omega)
      rw [ht.at_]
      simp only [Nat.add_sub_cancel] at h1
      omega
  rcases Nat.eq_zero_or_pos ts.length with h0 | h0
  · omega
  · obtain ⟨t, ht⟩ := places_plain h (ts.length - 1) (by omega)
    have h1 := key (ts.length - 1) (by omega)
    rw [ht.at_] at h1
    have := ht.lt
    omega
theorem tkSl_one {w : World} {g o c : Nat} {t : Tok} (hg : g < w.heap.size) (h : TokIn w g o t) : TkSl w 0 (.slice (some ⟨g, o, none⟩) 1 c) [t] :=
  ⟨_, _, rfl, fun i u hi => by
    cases i with
    | zero => obtain rfl : t = u := by simpa using hi
              exact ⟨g, o, rfl, Nat.zero_le _, hg, by simpa using h⟩
    | succ i => simp at hi⟩
theorem below_keep {w w1 w2 : World} (h : Below w.heap.size w w1) (h2 : Keep (fun _ => True) w1 w2) : Below w.heap.size w w2 :=
  ((Below.keeps h).trans (h2.less fun _ _ => trivial)).toBelow (fun _ hk => hk) (Nat.le_refl _)
theorem getD_of {ts : List Tok} {i : Nat} {t : Tok} (h : ts[i]? = some t) : ts.getD i tok0 = t := by simp [List.getD, h]
theorem list46 : (⟨#[46]⟩ : ByteArray).toList = [46] := by rw [ByteArray.toList_eq]
set_option maxRecDepth 1000000 in
set_option maxHeartbeats 16000000 in
theorem aloneLaw_any (L : List UInt8) (x : Int) {w : World} (hv : LxVars w) : Calls Tryz.prog 5 #[.string (str L), .int .i64 x] w fun e w' => e = .returned (.bool true) ∧ Below w.heap.size w w' := by
  have hal := alive_any hv
  have HAL := Lib.hid hal
  have HV := Lib.hid hv
  have hsz := str_size L
  have htk := fun (W : World) (h : LxVars W) => tokens_v L h
  have HSUB := Lib.hid (fun f a => take_str L f a)
  obtain ⟨s, hs⟩ : ∃ s, str L = s := ⟨_, rfl⟩
  rw [hs] at htk hsz HSUB ⊢
  have HTK := Lib.hid htk
  clear hv hal hs htk
  go_enter Tryz.func5, Tryz.ntmps5
  go_wp2_with fail
  refine HAL.out.mono ?_
  rintro e w1 ⟨rfl, hb1⟩
  have hv1 := HV.out.below hb1
  have ht := HTK.out w1 hv1
  have HV1 := Lib.hid hv1
  have HB1 := Lib.hid hb1
  clear hv1 hb1 HAL
  rcases hx : tokens L with ⟨c, q⟩ | ⟨ts, n, r⟩
  · rw [hx] at ht
    have HT := Lib.hid ht
    clear ht hx
    go_wp2_with fail
    refine HT.out.mono ?_
    rintro e w2 ⟨b, rfl, hF, hbs, hb2⟩
    have HB2 := Lib.hid (below_next HB1.out hb2)
    clear hF hbs hb2 HT
    unfold faultV
    go_wp2_with fail
    go_ret
    exact ⟨rfl, HB2.out⟩
  rw [hx] at ht
  have HT := Lib.hid ht
  have hL := tokens_le hx
  have hcount := tokens_count hx
  have HX := Lib.hid hx
  clear ht hx
  go_wp2_with fail
  refine HT.out.mono ?_
  rintro e w2 ⟨v, rfl, hta, hb2⟩
  have HB2 := Lib.hid (below_next HB1.out hb2)
  have hv2 := HV1.out.below hb2
  have HV2 := Lib.hid hv2
  clear hb2 hv2 HT
  by_cases h0 : ts.length = 0
  · obtain rfl : ts = [] := List.length_eq_zero_iff.1 h0
    obtain ⟨ad, cp, rfl⟩ := hta.is
    simp only [List.length_nil]
    clear hta h0
    go_wp2_with fail
    go_ret
    exact ⟨rfl, HB2.out⟩
  obtain ⟨g, cp, rfl, hcp, hcm, hg1, hg2, hcells⟩ := hta.cap (by omega)
  have h0' : ((ts.length : Int) == 0) = false := beq_eq_false_iff_ne.2 (by omega)
  have HCE := Lib.hid hcells
  clear hta hcells
  by_cases hin : 0 ≤ x ∧ x < ts.length
  · obtain ⟨i, rfl⟩ : ∃ i : Nat, x = i := ⟨x.toNat, by omega⟩
    obtain ⟨hi1, hi2⟩ := hin
    have hi : i < ts.length := by omega
    clear hi1

    obtain ⟨t, hti⟩ : ∃ t, ts[i]? = some t := ⟨_, List.getElem?_eq_getElem hi⟩
    have HTI := Lib.hid hti
    have hpl := places_plain HX.out i hi
    obtain ⟨t', hpl⟩ := hpl
    have htt : t' = t := by rw [← hpl.at_, getD_of hti]
    subst htt
    have hposlt := hpl.lt
    have htin := HCE.out i t' hti
    have k0 := htin.c0
    have k1 := htin.c1
    have k3 := htin.c3
    have k4 := htin.c4

    have hsl := str_list t'.tk.text
    have h46 := list46
    clear hti hpl htin
    obtain ⟨s1, hs1⟩ : ∃ s1, str t'.tk.text = s1 := ⟨_, rfl⟩
    rw [hs1] at k1 hsl
    clear hs1
    obtain ⟨txt, htxt⟩ : ∃ txt, t'.tk.text = txt := ⟨_, rfl⟩
    rw [htxt] at hsl
    obtain ⟨quo, hquo⟩ : ∃ quo, t'.tk.quoted = quo := ⟨_, rfl⟩
    rw [hquo] at k4
    obtain ⟨knd, hknd⟩ : ∃ knd, t'.tk.kind = knd := ⟨_, rfl⟩
    rw [hknd] at k0
    by_cases hd : dot t'.tk
    · obtain ⟨d1, d2, d3⟩ := hd
      rw [d1] at hknd
      rw [d2] at htxt
      rw [d3] at hquo
      subst hknd hquo htxt
      go_wp2_with fail
      go_ret
      exact ⟨rfl, HB2.out⟩
    have HD := Lib.hid hd
    have hcase : ((knd : Int) == 1) = false ∨ ((knd : Int) = 1 ∧ (txt == [46]) = false) ∨ ((knd : Int) = 1 ∧ txt = [46] ∧ quo = true) := by
      by_cases e1 : knd = 1
      · by_cases e2 : txt = [46]
        · refine .inr (.inr ⟨by omega, e2, ?_⟩)
          cases quo with
          | true => rfl
          | false => exact absurd ⟨hknd.trans e1, htxt.trans e2, hquo⟩ hd
        · exact .inr (.inl ⟨by omega, beq_eq_false_iff_ne.2 e2⟩)
      · exact .inl (beq_eq_false_iff_ne.2 (by omega))
    have HTX := Lib.hid htxt
    have HKN := Lib.hid hknd
    have HQU := Lib.hid hquo
    clear hd htxt hknd hquo
    have hal := alone_plain HX.out i hi (by rw [getD_of HTI.out]; exact HD.out)
    rw [getD_of HTI.out] at hal
    by_cases hi1 : i + 1 < ts.length
    · have hi1' : (((i : Int) + 1) < (ts.length : Int)) := by omega
      obtain ⟨u, hu⟩ : ∃ u, ts[i + 1]? = some u := ⟨_, List.getElem?_eq_getElem hi1⟩
      have huin := HCE.out (i + 1) u hu
      have k9 := huin.c3
      
      obtain ⟨hend, hend2, m, q, hal⟩ := hal u.pos (by rw [if_pos hi1, getD_of hu])
      clear huin hu
      have hdx := HSUB.out t'.pos u.pos
      have HEND := Lib.hid hend
      have hfe : ((t'.pos : Nat) : Int) ≤ ((u.pos : Nat) : Int) := by omega
      have hel : ((u.pos : Nat) : Int) ≤ (L.length : Int) := by omega
      generalize hpart : (L.drop t'.pos).take (u.pos - t'.pos) = P at *
      obtain ⟨sp, hsp⟩ : ∃ sp, str P = sp := ⟨_, rfl⟩
      have htP := tokens_v P HV2.out
      rw [hal] at htP
      rw [hsp] at hdx htP
      have HTP := Lib.hid htP
      clear htP hsp hpart hend hend2 hal
      rcases hcase with e1 | ⟨e1, e2⟩ | ⟨e1, e2, e3⟩
      all_goals
        try subst e2
        try subst e3
        go_wp2_with fail
        refine HTP.out.mono ?_
        rintro e w3 ⟨v3, rfl, hta3, hb3⟩
        have HB3 := Lib.hid (below_next HB2.out hb3)
        have HSL3 := Lib.hid hta3.sl
        have HSL2 := Lib.hid ((HCE.out i t' HTI.out).keep (Below.keeps hb3) hg2 hg2)
        have hg3 := Nat.lt_of_lt_of_le hg2 hb3.size
        obtain ⟨g3, cp3, rfl, _, _, _, _, hc3⟩ := hta3.cap (by simp)
        have m3 := (hc3 0 _ rfl).c3
        have m5 := (hc3 0 _ rfl).c5
        simp only [Nat.zero_mul, Nat.zero_add] at m3 m5
        simp only [List.length_cons, List.length_nil, Nat.zero_add] at HSL3 ⊢
        clear hc3 hta3 hb3 HTP
        go_wp2_with fail
        refine (like_any HSL3.out (tkSl_one hg3 HSL2.out) rfl (by simp)).mono ?_
        rintro e w4 ⟨rfl, hk4⟩
        have HB4 := Lib.hid (below_keep HB3.out hk4)
        clear hk4
        go_wp2_with fail
        go_ret
        exact ⟨rfl, HB4.out⟩
    · have hi1' : ¬ (((i : Int) + 1) < (ts.length : Int)) := by omega
      obtain ⟨hend, hend2, m, q, hal⟩ := hal L.length (by rw [if_neg hi1])
      have hdx := HSUB.out t'.pos L.length
      have HEND := Lib.hid hend
      have hfe : ((t'.pos : Nat) : Int) ≤ ((L.length : Nat) : Int) := by omega
      have hel : ((L.length : Nat) : Int) ≤ (L.length : Int) := by omega
      generalize hpart : (L.drop t'.pos).take (L.length - t'.pos) = P at *
      obtain ⟨sp, hsp⟩ : ∃ sp, str P = sp := ⟨_, rfl⟩
      have htP := tokens_v P HV2.out
      rw [hal] at htP
      rw [hsp] at hdx htP
      have HTP := Lib.hid htP
      clear htP hsp hpart hend hend2 hal
      rcases hcase with e1 | ⟨e1, e2⟩ | ⟨e1, e2, e3⟩
      all_goals
        try subst e2
        try subst e3
        go_wp2_with fail
        refine HTP.out.mono ?_
        rintro e w3 ⟨v3, rfl, hta3, hb3⟩
        have HB3 := Lib.hid (below_next HB2.out hb3)
        have HSL3 := Lib.hid hta3.sl
        have HSL2 := Lib.hid ((HCE.out i t' HTI.out).keep (Below.keeps hb3) hg2 hg2)
        have hg3 := Nat.lt_of_lt_of_le hg2 hb3.size
        obtain ⟨g3, cp3, rfl, _, _, _, _, hc3⟩ := hta3.cap (by simp)
        have m3 := (hc3 0 _ rfl).c3
        have m5 := (hc3 0 _ rfl).c5
        simp only [Nat.zero_mul, Nat.zero_add] at m3 m5
        simp only [List.length_cons, List.length_nil, Nat.zero_add] at HSL3 ⊢
        clear hc3 hta3 hb3 HTP
        go_wp2_with fail
        refine (like_any HSL3.out (tkSl_one hg3 HSL2.out) rfl (by simp)).mono ?_
        rintro e w4 ⟨rfl, hk4⟩
        have HB4 := Lib.hid (below_keep HB3.out hk4)
        clear hk4
        go_wp2_with fail
        go_ret
        exact ⟨rfl, HB4.out⟩
  · have hi : 0 < ts.length := by omega
    have hx2 : (x < 0) ∨ (0 ≤ x ∧ ¬ x < ts.length) := by omega
    rcases hx2 with hx2 | ⟨hx2, hx3⟩
    all_goals
      obtain ⟨t, hti⟩ : ∃ t, ts[0]? = some t := ⟨_, List.getElem?_eq_getElem hi⟩
      have HTI := Lib.hid hti
      have hpl := places_plain HX.out 0 hi
      obtain ⟨t', hpl⟩ := hpl
      have htt : t' = t := by rw [← hpl.at_, getD_of hti]
      subst htt
      have hposlt := hpl.lt
      have htin := HCE.out 0 t' hti
      have k0 := htin.c0
      have k1 := htin.c1
      have k3 := htin.c3
      have k4 := htin.c4
      simp only [Nat.zero_mul, Nat.zero_add] at k0 k1 k3 k4 htin
      have hsl := str_list t'.tk.text
      have h46 := list46
      clear hti hpl htin
      obtain ⟨s1, hs1⟩ : ∃ s1, str t'.tk.text = s1 := ⟨_, rfl⟩
      rw [hs1] at k1 hsl
      clear hs1
      obtain ⟨txt, htxt⟩ : ∃ txt, t'.tk.text = txt := ⟨_, rfl⟩
      rw [htxt] at hsl
      obtain ⟨quo, hquo⟩ : ∃ quo, t'.tk.quoted = quo := ⟨_, rfl⟩
      rw [hquo] at k4
      obtain ⟨knd, hknd⟩ : ∃ knd, t'.tk.kind = knd := ⟨_, rfl⟩
      rw [hknd] at k0
      by_cases hd : dot t'.tk
      · obtain ⟨d1, d2, d3⟩ := hd
        rw [d1] at hknd
        rw [d2] at htxt
        rw [d3] at hquo
        subst hknd hquo htxt
        go_wp2_with fail
        go_ret
        exact ⟨rfl, HB2.out⟩
      have HD := Lib.hid hd
      have hcase : ((knd : Int) == 1) = false ∨ ((knd : Int) = 1 ∧ (txt == [46]) = false) ∨ ((knd : Int) = 1 ∧ txt = [46] ∧ quo = true) := by
        by_cases e1 : knd = 1
        · by_cases e2 : txt = [46]
          · refine .inr (.inr ⟨by omega, e2, ?_⟩)
            cases quo with
            | true => rfl
            | false => exact absurd ⟨hknd.trans e1, htxt.trans e2, hquo⟩ hd
          · exact .inr (.inl ⟨by omega, beq_eq_false_iff_ne.2 e2⟩)
        · exact .inl (beq_eq_false_iff_ne.2 (by omega))
      have HTX := Lib.hid htxt
      have HKN := Lib.hid hknd
      have HQU := Lib.hid hquo
      clear hd htxt hknd hquo
      have hal := alone_plain HX.out 0 hi (by rw [getD_of HTI.out]; exact HD.out)
      rw [getD_of HTI.out] at hal
      by_cases hi1 : 0 + 1 < ts.length
      · have hi1' : ((1 : Int) < (ts.length : Int)) := by omega
        obtain ⟨u, hu⟩ : ∃ u, ts[0 + 1]? = some u := ⟨_, List.getElem?_eq_getElem hi1⟩
        have huin := HCE.out (0 + 1) u hu
        have k9 := huin.c3
        simp only [Nat.zero_add, Nat.one_mul, Nat.reduceAdd] at k9
        obtain ⟨hend, hend2, m, q, hal⟩ := hal u.pos (by rw [if_pos hi1, getD_of hu])
        clear huin hu
        have hdx := HSUB.out t'.pos u.pos
        have HEND := Lib.hid hend
        have hfe : ((t'.pos : Nat) : Int) ≤ ((u.pos : Nat) : Int) := by omega
        have hel : ((u.pos : Nat) : Int) ≤ (L.length : Int) := by omega
        generalize hpart : (L.drop t'.pos).take (u.pos - t'.pos) = P at *
        obtain ⟨sp, hsp⟩ : ∃ sp, str P = sp := ⟨_, rfl⟩
        have htP := tokens_v P HV2.out
        rw [hal] at htP
        rw [hsp] at hdx htP
        have HTP := Lib.hid htP
        clear htP hsp hpart hend hend2 hal
        rcases hcase with e1 | ⟨e1, e2⟩ | ⟨e1, e2, e3⟩
        all_goals
          try subst e2
          try subst e3
          go_wp2_with fail
          refine HTP.out.mono ?_
          rintro e w3 ⟨v3, rfl, hta3, hb3⟩
          have HB3 := Lib.hid (below_next HB2.out hb3)
          have HSL3 := Lib.hid hta3.sl
          have HSL2 := Lib.hid ((HCE.out 0 t' HTI.out).keep (Below.keeps hb3) hg2 hg2)
          have hg3 := Nat.lt_of_lt_of_le hg2 hb3.size
          obtain ⟨g3, cp3, rfl, _, _, _, _, hc3⟩ := hta3.cap (by simp)
          have m3 := (hc3 0 _ rfl).c3
          have m5 := (hc3 0 _ rfl).c5
          simp only [Nat.zero_mul, Nat.zero_add] at m3 m5
          simp only [List.length_cons, List.length_nil, Nat.zero_add] at HSL3 ⊢
          clear hc3 hta3 hb3 HTP
          go_wp2_with fail
          refine (like_any HSL3.out (tkSl_one hg3 HSL2.out) rfl (by simp)).mono ?_
          rintro e w4 ⟨rfl, hk4⟩
          have HB4 := Lib.hid (below_keep HB3.out hk4)
          clear hk4
          go_wp2_with fail
          go_ret
          exact ⟨rfl, HB4.out⟩
      · have hi1' : ¬ ((1 : Int) < (ts.length : Int)) := by omega
        obtain ⟨hend, hend2, m, q, hal⟩ := hal L.length (by rw [if_neg hi1])
        have hdx := HSUB.out t'.pos L.length
        have HEND := Lib.hid hend
        have hfe : ((t'.pos : Nat) : Int) ≤ ((L.length : Nat) : Int) := by omega
        have hel : ((L.length : Nat) : Int) ≤ (L.length : Int) := by omega
        generalize hpart : (L.drop t'.pos).take (L.length - t'.pos) = P at *
        obtain ⟨sp, hsp⟩ : ∃ sp, str P = sp := ⟨_, rfl⟩
        have htP := tokens_v P HV2.out
        rw [hal] at htP
        rw [hsp] at hdx htP
        have HTP := Lib.hid htP
        clear htP hsp hpart hend hend2 hal
        rcases hcase with e1 | ⟨e1, e2⟩ | ⟨e1, e2, e3⟩
        all_goals
          try subst e2
          try subst e3
          go_wp2_with fail
          refine HTP.out.mono ?_
          rintro e w3 ⟨v3, rfl, hta3, hb3⟩
          have HB3 := Lib.hid (below_next HB2.out hb3)
          have HSL3 := Lib.hid hta3.sl
          have HSL2 := Lib.hid ((HCE.out 0 t' HTI.out).keep (Below.keeps hb3) hg2 hg2)
          have hg3 := Nat.lt_of_lt_of_le hg2 hb3.size
          obtain ⟨g3, cp3, rfl, _, _, _, _, hc3⟩ := hta3.cap (by simp)
          have m3 := (hc3 0 _ rfl).c3
          have m5 := (hc3 0 _ rfl).c5
          simp only [Nat.zero_mul, Nat.zero_add] at m3 m5
          simp only [List.length_cons, List.length_nil, Nat.zero_add] at HSL3 ⊢
          clear hc3 hta3 hb3 HTP
          go_wp2_with fail
          refine (like_any HSL3.out (tkSl_one hg3 HSL2.out) rfl (by simp)).mono ?_
          rintro e w4 ⟨rfl, hk4⟩
          have HB4 := Lib.hid (below_keep HB3.out hk4)
          clear hk4
          go_wp2_with fail
          go_ret
          exact ⟨rfl, HB4.out⟩
end Go.Proofs.YtjaaoljfkbbjpaaGreatDoor
