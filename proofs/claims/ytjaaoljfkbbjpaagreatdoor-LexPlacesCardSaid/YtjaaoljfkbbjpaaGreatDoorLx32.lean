/-
  LexPlaces' walk: the places of a text's tokens rise, each one's text stands at its place. Conditions: the listed variables hold what the row says.
-/
import Derived.Test.YtjaaoljfkbbjpaaGreatDoorLx28
namespace Go.Proofs.YtjaaoljfkbbjpaaGreatDoor
open Go.RowKit Go.Shelf Go.Maps
set_option linter.unusedVariables false
set_option linter.unusedSimpArgs false

/-- What the elaborator is not to look into (it would run what stands behind a guard that is not met). -/
structure Shut (p : Prop) : Prop where
  out : p
theorem hstep {P : Program} {ops : Array Oper} {w : World} {Q : Act → Prop} {a : Act} {o : Oper} {rest : List Oper}
    (h : ∀ K : Act → Prop, (∀ a, Shut (wpStill P ops w Q rest a) → K a) → if Region.wanted o (yielded ops a.tmps) then o.still P a w K else K (a.put o.dst undef)) : Shut (wpStill P ops w Q (o :: rest) a) :=
  ⟨wpStill_step (fun K hK => h K (fun a ha => hK a ha.out))⟩
theorem hnil {P : Program} {ops : Array Oper} {w : World} {Q : Act → Prop} {a : Act} (h : Q a) : Shut (wpStill P ops w Q [] a) := ⟨wpStill_nil h⟩
theorem i64_in' {n : Int} (h : -9223372036854775808 ≤ n ∧ n ≤ 9223372036854775807) : IntKind.i64.wrap n = n := (IntWalk.i64_left n).trans (IntWalk.wrap64_in n h)
theorem str_getAt {L : List UInt8} {i : Nat} {c : UInt8} (h : L[i]? = some c) : ∃ hk : i < (str L).size, (str L)[i]'hk = c := by
  obtain ⟨hlt, hc⟩ := List.getElem?_eq_some_iff.1 h
  have hk : i < (str L).size := by rw [str_size]; exact hlt
  exact ⟨hk, (str_at (c := c) (r := L.drop (i + 1)) (by rw [List.drop_eq_getElem_cons hlt, hc])).2.2 _⟩
set_option maxRecDepth 1000000 in
set_option maxHeartbeats 16000000 in
theorem placesLaw_any (L : List UInt8) {w : World} (hv : LxVars w) : Calls Tryz.prog 4 #[.string (str L)] w fun e w' => e = .returned (.bool true) ∧ Below w.heap.size w w' := by
  have HAL := Lib.hid (alive_any hv)
  have HV := Lib.hid hv
  have hsz := str_size L
  have HTK := Lib.hid (fun (W : World) (h : LxVars W) => tokens_v L h)
  have HSUB := Lib.hid (fun f a => take_str L f a)
  have HGA := Lib.hid (fun i c (h : L[i]? = some c) => str_getAt h)
  obtain ⟨s, hs⟩ : ∃ s, str L = s := ⟨_, rfl⟩
  rw [hs] at HTK hsz HSUB HGA ⊢
  clear hv hs
  go_enter Tryz.func4, Tryz.ntmps4
  go_wp2_with fail
  refine HAL.out.mono ?_
  rintro e w1 ⟨rfl, hb1⟩
  have hv1 := HV.out.below hb1
  have ht := HTK.out w1 hv1
  have HV1 := Lib.hid hv1
  have HB1 := Lib.hid hb1
  clear hv1 hb1 HAL
  rcases hx : tokens L with ⟨c, q⟩ | ⟨ts, n, r⟩
  · rw [hx] at ht
    have HT := Lib.hid ht
    have hq := places_bad hx
    have hq1 : ((q : Int) ≤ (L.length : Int)) := by omega
    have hq2 : ((0 : Int) ≤ (q : Int)) := by omega
    clear ht hx
    go_wp2_with fail
    refine HT.out.mono ?_
    rintro e w2 ⟨b, rfl, hF, hbs, hb2⟩
    have hv2 := HV1.out.below hb2
    have HA := Lib.hid (at_at hF hv2)
    have HB2 := Lib.hid (below_next HB1.out hb2)
    clear hF hbs hb2 HT hv2
    unfold faultV at *
    go_wp2_with fail
    refine HA.out.mono ?_
    rintro e w3 ⟨rfl, hb3⟩
    have HB3 := Lib.hid (below_next HB2.out hb3)
    clear hb3 HA
    go_wp2_with fail
    go_ret
    exact ⟨rfl, HB3.out⟩
  rw [hx] at ht
  have HT := Lib.hid ht
  have hcount := tokens_count hx
  have hL := tokens_le hx
  have HX := Lib.hid hx
  clear ht hx
  go_wp2_with fail
  refine HT.out.mono ?_
  rintro e w2 ⟨v, rfl, hta, hb2⟩
  have HB2 := Lib.hid (below_next HB1.out hb2)
  obtain ⟨ad, cp, rfl⟩ := hta.is
  have HCE := Lib.hid hta.sl
  clear hb2 HT hta
  go_wp2_with fail
  go_loopw [35] (fun i wr => ∃ k : Nat, k ≤ ts.length ∧ i = .int .i64 k ∧ Keep (fun _ => True) w2 wr) (fun i _ => ts.length - (intOf i).toNat)
  case atStart => exact ⟨0, by omega, rfl, Keep.refl _ _⟩
  case round =>
    obtain ⟨k, hk, rfl, hLw⟩ := hrel
    by_cases hlt : k < ts.length
    · obtain ⟨x, hxk⟩ : ∃ x, ts[k]? = some x := ⟨_, List.getElem?_eq_getElem hlt⟩
      obtain ⟨ad', cp', he, hc⟩ := HCE.out
      obtain ⟨g, o, hao, _, hg, ht⟩ := hc k x hxk
      obtain rfl : ad = some ⟨g, o, none⟩ := by cases he; exact hao
      obtain ⟨x', hpl⟩ := places_plain HX.out k hlt
      obtain rfl : x' = x := by rw [← hpl.at_, getD_of hxk]
      have h1 := ht.keep hLw hg trivial
      have hs := hLw.size
      have HLW := Lib.hid hLw
      obtain ⟨c0, c1, c2, c3, c4, c5⟩ := h1
      have hpos := hpl.lt
      have hpos' : decide ((L.length : Int) ≤ (x'.pos : Int)) = false := decide_eq_false (by omega)
      have hpos0 : decide ((x'.pos : Int) < 0) = false := decide_eq_false (by omega)
      obtain ⟨s1, hs1⟩ : ∃ s1, str x'.tk.text = s1 := ⟨_, rfl⟩
      rw [hs1] at c1
      have hsz1 : s1.size = x'.tk.text.length := by rw [← hs1, str_size]
      have HS1 := Lib.hid hs1
      have HPL := Lib.hid hpl
      clear hs1
      have hc' := hc
      have hk2 : Keep (fun _ => True) w2 (wr.alloc (.cells #[.int .i64 x'.tk.kind, .string s1, .int .i64 x'.tk.int, .int .i64 x'.pos, .bool x'.tk.quoted, .bool x'.apart] 33)) := HLW.out.alloc _
      have hbx := Blk.new wr 33 #[.int .i64 x'.tk.kind, .string s1, .int .i64 x'.tk.int, .int .i64 x'.pos, .bool x'.tk.quoted, .bool x'.apart]
      obtain ⟨W, hW⟩ : ∃ W, wr.alloc (.cells #[.int .i64 x'.tk.kind, .string s1, .int .i64 x'.tk.int, .int .i64 x'.pos, .bool x'.tk.quoted, .bool x'.apart] 33) = W := ⟨_, rfl⟩
      rw [hW] at hk2 hbx
      have HPREV : Hid (0 < k → ∃ u : Tok, u.pos < x'.pos ∧ W.cell? ⟨g, o + (k - 1) * 6 + 3, none⟩ = some (.int .i64 u.pos)) := Lib.hid fun h0 => by
        obtain ⟨u, hu⟩ : ∃ u, ts[k - 1]? = some u := ⟨_, List.getElem?_eq_getElem (by omega)⟩
        obtain ⟨g', o', hao', _, hg', hu'⟩ := hc' (k - 1) u hu
        obtain ⟨rfl, rfl⟩ : g' = g ∧ o' = o := by have := Option.some.inj (hao'.symm.trans hao); injection this with h1 h2; exact ⟨h1, h2⟩
        have := hpl.rise h0
        rw [getD_of hu] at this
        exact ⟨u, this, (hu'.keep hk2 hg' trivial).c3⟩
      have HNEXT : Hid (k + 1 < ts.length → ∃ u : Tok, (x'.tk.quoted = false → u.apart = !decide (u.pos = x'.pos + x'.tk.text.length)) ∧ W.cell? ⟨g, o + (k + 1) * 6 + 3, none⟩ = some (.int .i64 u.pos) ∧ W.cell? ⟨g, o + (k + 1) * 6 + 5, none⟩ = some (.bool u.apart)) := Lib.hid fun h0 => by
        obtain ⟨u, hu⟩ : ∃ u, ts[k + 1]? = some u := ⟨_, List.getElem?_eq_getElem h0⟩
        obtain ⟨g', o', hao', _, hg', hu'⟩ := hc' (k + 1) u hu
        obtain ⟨rfl, rfl⟩ : g' = g ∧ o' = o := by have := Option.some.inj (hao'.symm.trans hao); injection this with h1 h2; exact ⟨h1, h2⟩
        have h9 := (hu'.keep hk2 hg' trivial)
        exact ⟨u, fun hq => by have := hpl.next hq h0; rwa [getD_of hu] at this, h9.c3, h9.c5⟩
      have hfirst := hpl.first
      have hcase : (k = 0 ∧ x'.apart = true) ∨ (0 < k) := by
        rcases Nat.eq_zero_or_pos k with h | h
        · exact .inl ⟨h, hfirst h⟩
        · exact .inr h
      clear hLw ht hc hc' he hxk hpl hfirst
      have b0 := hbx.cell 0
      have b1 := hbx.cell 1
      have b3 := hbx.cell 3
      have b4 := hbx.cell 4
      have b5 := hbx.cell 5
      simp only [List.getElem?_toArray, List.getElem?_cons_zero, List.getElem?_cons_succ] at b0 b1 b3 b4 b5
      have HK2 := Lib.hid hk2
      have HW := Lib.hid hW
      clear hk2 hbx hW
      have HB := Lib.hid b5
      clear b5
      go_wp2_with fail
      rw [HW.out]
      have b5 := HB.out
      clear HB HW
      obtain ⟨apx, hapx⟩ : ∃ b, x'.apart = b := ⟨_, rfl⟩
      rw [hapx] at b5 hcase c5
      clear hapx


      rcases hcase with ⟨h1, h2⟩ | h1
      · subst h2
        have h1' : decide ((0 : Int) < k) = false := decide_eq_false (by omega)
        have h1n : (0 < k) = False := eq_false (by omega)
        have h1'' : ((k : Int) == 0) = true := by simp [h1]
        have H1 := Lib.hid h1
        clear h1
        refine wp_region_still_lit (by kernel_rfl) (by kernel_rfl) ?_
        refine Shut.out ?_
        repeat
          (refine hstep (fun K hK => ?_)
           go_simp
           refine hK _ ?_
           clear hK K)
        refine hnil ?_
        have hww : ({ W with drawn := W.drawn + 1 } : World) = W.drew := rfl
        rw [hww]
        clear hww
        obtain ⟨W2, hW2⟩ : ∃ W2, W.drew = W2 := ⟨_, rfl⟩
        have HK3 := Lib.hid (show Keep (fun _ => True) w2 W2 by rw [← hW2]; exact HK2.out.drew)
        have d0 : W2.cell? ⟨wr.heap.size, 0, none⟩ = some (.int .i64 x'.tk.kind) := by rw [← hW2]; exact b0
        have d1 : W2.cell? ⟨wr.heap.size, 1, none⟩ = some (.string s1) := by rw [← hW2]; exact b1
        have d3 : W2.cell? ⟨wr.heap.size, 3, none⟩ = some (.int .i64 x'.pos) := by rw [← hW2]; exact b3
        have d4 : W2.cell? ⟨wr.heap.size, 4, none⟩ = some (.bool x'.tk.quoted) := by rw [← hW2]; exact b4
        have HN2 := Lib.hid (show k + 1 < ts.length → ∃ u : Tok, (x'.tk.quoted = false → u.apart = !decide (u.pos = x'.pos + x'.tk.text.length)) ∧ W2.cell? ⟨g, o + (k + 1) * 6 + 3, none⟩ = some (.int .i64 u.pos) ∧ W2.cell? ⟨g, o + (k + 1) * 6 + 5, none⟩ = some (.bool u.apart) from fun h => by rw [← hW2]; exact HNEXT.out h)
        rw [hW2]
        clear b0 b1 b3 b4 b5 hW2 HNEXT
        rcases hquo : x'.tk.quoted with _ | _
        · rw [hquo] at d4
          obtain ⟨p1, p2, p3⟩ := HPL.out.plain hquo
          obtain ⟨len, hlen⟩ : ∃ len, x'.tk.text.length = len := ⟨_, rfl⟩
          have hdx := HSUB.out x'.pos (x'.pos + x'.tk.text.length)
          rw [Nat.add_sub_cancel_left, p3, HS1.out] at hdx
          rw [hlen] at hsz1 p1 p2 hdx
          have f1 : ((len : Int) == 0) = false := beq_eq_false_iff_ne.2 (by omega)
          have f2 : decide ((L.length : Int) - (x'.pos : Int) < (len : Int)) = false := decide_eq_false (by omega)
          have r1 : (-9223372036854775808 : Int) ≤ (L.length : Int) - x'.pos ∧ (L.length : Int) - x'.pos ≤ 9223372036854775807 := by omega
          have r2 : (-9223372036854775808 : Int) ≤ (x'.pos : Int) + len ∧ (x'.pos : Int) + len ≤ 9223372036854775807 := by omega
          have r3 : (-9223372036854775808 : Int) ≤ (k : Int) + 1 ∧ (k : Int) + 1 ≤ 9223372036854775807 := by omega
          have f3 : (x'.pos : Int) ≤ (x'.pos : Int) + (len : Int) := by omega
          have f4 : (x'.pos : Int) + (len : Int) ≤ (L.length : Int) := by omega
          have f5 : (0 : Int) ≤ (x'.pos : Int) := by omega
          have f6 : ((x'.pos : Int) + (len : Int)).toNat = x'.pos + len := by omega
          have g1 := i64_in' r1
          have g2 := i64_in' r2
          clear r1 r2 hpos0
          have HR3 := Lib.hid r3
          have HG1 := Lib.hid g1
          have HG2 := Lib.hid g2
          clear r3 g1 g2
          go_wp2_with fail
          have g1 := HG1.out
          have g2 := HG2.out
          refine wp_region_still_lit (by kernel_rfl) (by kernel_rfl) ?_
          refine Shut.out ?_
          repeat
            (refine hstep (fun K hK => ?_)
             go_simp
             refine hK _ ?_
             clear hK K)
          refine hnil ?_
          have hw3 : ({ W2 with drawn := W2.drawn + 1 } : World) = W2.drew := rfl
          rw [hw3]
          clear hw3 g1 g2
          obtain ⟨W3, hW3⟩ : ∃ W3, W2.drew = W3 := ⟨_, rfl⟩
          have HK4 := Lib.hid (show Keep (fun _ => True) w2 W3 by rw [← hW3]; exact HK3.out.drew)
          have t1 : W3.cell? ⟨wr.heap.size, 1, none⟩ = some (.string s1) := by rw [← hW3]; exact d1
          have t3 : W3.cell? ⟨wr.heap.size, 3, none⟩ = some (.int .i64 x'.pos) := by rw [← hW3]; exact d3
          have HN3 := Lib.hid (show k + 1 < ts.length → ∃ u : Tok, (x'.tk.quoted = false → u.apart = !decide (u.pos = x'.pos + x'.tk.text.length)) ∧ W3.cell? ⟨g, o + (k + 1) * 6 + 3, none⟩ = some (.int .i64 u.pos) ∧ W3.cell? ⟨g, o + (k + 1) * 6 + 5, none⟩ = some (.bool u.apart) from fun h => by rw [← hW3]; exact HN2.out h)
          rw [hW3]
          clear d0 d1 d3 d4 hW3 HN2
          go_wp2_with fail
          have g3 := i64_in' HR3.out
          by_cases hnx : k + 1 < ts.length
          · obtain ⟨u, hua, hu3, hu5⟩ := HN3.out hnx
            have hua2 := hua hquo
            rw [hlen] at hua2
            have e9 : ((u.pos : Int) == (x'.pos : Int) + (len : Int)) = decide (u.pos = x'.pos + len) := by
              by_cases h : u.pos = x'.pos + len
              · rw [decide_eq_true h]; exact beq_iff_eq.2 (by omega)
              · rw [decide_eq_false h]; exact beq_eq_false_iff_ne.2 (by omega)
            have hcmp : (u.apart == ((u.pos : Int) == (x'.pos : Int) + (len : Int))) = false := by
              rw [e9, hua2]; cases decide (u.pos = x'.pos + len) <;> rfl
            have q1 : decide ((k : Int) + 1 < (ts.length : Int)) = true := decide_eq_true (by omega)
            have q2 : (k : Int) + 1 < (ts.length : Int) := by omega
            have q3 : (0 : Int) ≤ (k : Int) + 1 := by omega
            clear hua hua2 e9
            refine wp_region_still_lit (by kernel_rfl) (by kernel_rfl) ?_
            refine Shut.out ?_
            repeat
              (refine hstep (fun K hK => ?_)
               go_simp
               refine hK _ ?_
               clear hK K)
            refine hnil ?_
            have hw4 : ({ W3 with drawn := W3.drawn + 1 } : World) = W3.drew := rfl
            rw [hw4]
            have HK5 := Lib.hid HK4.out.drew
            clear hw4 g3 q2
            go_wp2_with fail
            go_roundw
            case rel => exact ⟨k + 1, by omega, by go_num, HK5.out⟩
            case measure => simp [intOf]; omega
          · have q1 : decide ((k : Int) + 1 < (ts.length : Int)) = false := decide_eq_false (by omega)
            have q2 : (k + 1 < ts.length) = False := eq_false hnx
            clear hnx
            refine wp_region_still_lit (by kernel_rfl) (by kernel_rfl) ?_
            refine Shut.out ?_
            repeat
              (refine hstep (fun K hK => ?_)
               go_simp
               refine hK _ ?_
               clear hK K)
            refine hnil ?_
            have hw4 : ({ W3 with drawn := W3.drawn + 1 } : World) = W3.drew := rfl
            rw [hw4]
            have HK5 := Lib.hid HK4.out.drew
            clear hw4 g3 q2
            go_wp2_with fail
            go_roundw
            case rel => exact ⟨k + 1, by omega, by go_num, HK5.out⟩
            case measure => simp [intOf]; omega
        · rw [hquo] at d4
          obtain ⟨hq39, hkind⟩ := HPL.out.quo hquo
          obtain ⟨hks, hsk⟩ := HGA.out _ _ hq39
          rw [hkind] at d0
          have f5 : (0 : Int) ≤ (x'.pos : Int) := by omega
          have f7 : (x'.pos : Int) < (L.length : Int) := by omega
          clear hpos0 hpos' hq39
          go_wp2_with fail
          go_roundw
          case rel => exact ⟨k + 1, by omega, by go_num, HK3.out⟩
          case measure => simp [intOf]; omega
      · obtain ⟨u, hu, hu3⟩ := HPREV.out h1
        have h1' : decide ((0 : Int) < k) = true := decide_eq_true (by omega)
        have h1'' : ((k : Int) == 0) = false := beq_eq_false_iff_ne.2 (by omega)
        have hup : decide ((x'.pos : Int) ≤ u.pos) = false := decide_eq_false (by omega)
        have hkr : (-9223372036854775808 : Int) ≤ (k : Int) - 1 ∧ (k : Int) - 1 ≤ 9223372036854775807 := by omega
        have hkk : (k : Int) - 1 = ((k - 1 : Nat) : Int) := by omega
        have hk1lt : k - 1 < ts.length := by omega
        have hwk := i64_in' hkr
        rw [hkk] at hwk
        clear hkr
        refine wp_region_still_lit (by kernel_rfl) (by kernel_rfl) ?_
        refine Shut.out ?_
        repeat
          (refine hstep (fun K hK => ?_)
           go_simp
           refine hK _ ?_
           clear hK K)
        refine hnil ?_
        have hww : ({ W with drawn := W.drawn + 1 } : World) = W.drew := rfl
        rw [hww]
        clear hww hwk hkk hup
        obtain ⟨W2, hW2⟩ : ∃ W2, W.drew = W2 := ⟨_, rfl⟩
        have HK3 := Lib.hid (show Keep (fun _ => True) w2 W2 by rw [← hW2]; exact HK2.out.drew)
        have d0 : W2.cell? ⟨wr.heap.size, 0, none⟩ = some (.int .i64 x'.tk.kind) := by rw [← hW2]; exact b0
        have d1 : W2.cell? ⟨wr.heap.size, 1, none⟩ = some (.string s1) := by rw [← hW2]; exact b1
        have d3 : W2.cell? ⟨wr.heap.size, 3, none⟩ = some (.int .i64 x'.pos) := by rw [← hW2]; exact b3
        have d4 : W2.cell? ⟨wr.heap.size, 4, none⟩ = some (.bool x'.tk.quoted) := by rw [← hW2]; exact b4
        have HN2 := Lib.hid (show k + 1 < ts.length → ∃ u : Tok, (x'.tk.quoted = false → u.apart = !decide (u.pos = x'.pos + x'.tk.text.length)) ∧ W2.cell? ⟨g, o + (k + 1) * 6 + 3, none⟩ = some (.int .i64 u.pos) ∧ W2.cell? ⟨g, o + (k + 1) * 6 + 5, none⟩ = some (.bool u.apart) from fun h => by rw [← hW2]; exact HNEXT.out h)
        rw [hW2]
        clear b0 b1 b3 b4 b5 hW2 HNEXT
        rcases hquo : x'.tk.quoted with _ | _
        · rw [hquo] at d4
          obtain ⟨p1, p2, p3⟩ := HPL.out.plain hquo
          obtain ⟨len, hlen⟩ : ∃ len, x'.tk.text.length = len := ⟨_, rfl⟩
          have hdx := HSUB.out x'.pos (x'.pos + x'.tk.text.length)
          rw [Nat.add_sub_cancel_left, p3, HS1.out] at hdx
          rw [hlen] at hsz1 p1 p2 hdx
          have f1 : ((len : Int) == 0) = false := beq_eq_false_iff_ne.2 (by omega)
          have f2 : decide ((L.length : Int) - (x'.pos : Int) < (len : Int)) = false := decide_eq_false (by omega)
          have r1 : (-9223372036854775808 : Int) ≤ (L.length : Int) - x'.pos ∧ (L.length : Int) - x'.pos ≤ 9223372036854775807 := by omega
          have r2 : (-9223372036854775808 : Int) ≤ (x'.pos : Int) + len ∧ (x'.pos : Int) + len ≤ 9223372036854775807 := by omega
          have r3 : (-9223372036854775808 : Int) ≤ (k : Int) + 1 ∧ (k : Int) + 1 ≤ 9223372036854775807 := by omega
          have f3 : (x'.pos : Int) ≤ (x'.pos : Int) + (len : Int) := by omega
          have f4 : (x'.pos : Int) + (len : Int) ≤ (L.length : Int) := by omega
          have f5 : (0 : Int) ≤ (x'.pos : Int) := by omega
          have f6 : ((x'.pos : Int) + (len : Int)).toNat = x'.pos + len := by omega
          have g1 := i64_in' r1
          have g2 := i64_in' r2
          clear r1 r2 hpos0
          have HR3 := Lib.hid r3
          have HG1 := Lib.hid g1
          have HG2 := Lib.hid g2
          clear r3 g1 g2
          go_wp2_with fail
          have g1 := HG1.out
          have g2 := HG2.out
          refine wp_region_still_lit (by kernel_rfl) (by kernel_rfl) ?_
          refine Shut.out ?_
          repeat
            (refine hstep (fun K hK => ?_)
             go_simp
             refine hK _ ?_
             clear hK K)
          refine hnil ?_
          have hw3 : ({ W2 with drawn := W2.drawn + 1 } : World) = W2.drew := rfl
          rw [hw3]
          clear hw3 g1 g2
          obtain ⟨W3, hW3⟩ : ∃ W3, W2.drew = W3 := ⟨_, rfl⟩
          have HK4 := Lib.hid (show Keep (fun _ => True) w2 W3 by rw [← hW3]; exact HK3.out.drew)
          have t1 : W3.cell? ⟨wr.heap.size, 1, none⟩ = some (.string s1) := by rw [← hW3]; exact d1
          have t3 : W3.cell? ⟨wr.heap.size, 3, none⟩ = some (.int .i64 x'.pos) := by rw [← hW3]; exact d3
          have HN3 := Lib.hid (show k + 1 < ts.length → ∃ u : Tok, (x'.tk.quoted = false → u.apart = !decide (u.pos = x'.pos + x'.tk.text.length)) ∧ W3.cell? ⟨g, o + (k + 1) * 6 + 3, none⟩ = some (.int .i64 u.pos) ∧ W3.cell? ⟨g, o + (k + 1) * 6 + 5, none⟩ = some (.bool u.apart) from fun h => by rw [← hW3]; exact HN2.out h)
          rw [hW3]
          clear d0 d1 d3 d4 hW3 HN2
          go_wp2_with fail
          have g3 := i64_in' HR3.out
          by_cases hnx : k + 1 < ts.length
          · obtain ⟨u, hua, hu3, hu5⟩ := HN3.out hnx
            have hua2 := hua hquo
            rw [hlen] at hua2
            have e9 : ((u.pos : Int) == (x'.pos : Int) + (len : Int)) = decide (u.pos = x'.pos + len) := by
              by_cases h : u.pos = x'.pos + len
              · rw [decide_eq_true h]; exact beq_iff_eq.2 (by omega)
              · rw [decide_eq_false h]; exact beq_eq_false_iff_ne.2 (by omega)
            have hcmp : (u.apart == ((u.pos : Int) == (x'.pos : Int) + (len : Int))) = false := by
              rw [e9, hua2]; cases decide (u.pos = x'.pos + len) <;> rfl
            have q1 : decide ((k : Int) + 1 < (ts.length : Int)) = true := decide_eq_true (by omega)
            have q2 : (k : Int) + 1 < (ts.length : Int) := by omega
            have q3 : (0 : Int) ≤ (k : Int) + 1 := by omega
            clear hua hua2 e9
            refine wp_region_still_lit (by kernel_rfl) (by kernel_rfl) ?_
            refine Shut.out ?_
            repeat
              (refine hstep (fun K hK => ?_)
               go_simp
               refine hK _ ?_
               clear hK K)
            refine hnil ?_
            have hw4 : ({ W3 with drawn := W3.drawn + 1 } : World) = W3.drew := rfl
            rw [hw4]
            have HK5 := Lib.hid HK4.out.drew
            clear hw4 g3 q2
            go_wp2_with fail
            go_roundw
            case rel => exact ⟨k + 1, by omega, by go_num, HK5.out⟩
            case measure => simp [intOf]; omega
          · have q1 : decide ((k : Int) + 1 < (ts.length : Int)) = false := decide_eq_false (by omega)
            have q2 : (k + 1 < ts.length) = False := eq_false hnx
            clear hnx
            refine wp_region_still_lit (by kernel_rfl) (by kernel_rfl) ?_
            refine Shut.out ?_
            repeat
              (refine hstep (fun K hK => ?_)
               go_simp
               refine hK _ ?_
               clear hK K)
            refine hnil ?_
            have hw4 : ({ W3 with drawn := W3.drawn + 1 } : World) = W3.drew := rfl
            rw [hw4]
            have HK5 := Lib.hid HK4.out.drew
            clear hw4 g3 q2
            go_wp2_with fail
            go_roundw
            case rel => exact ⟨k + 1, by omega, by go_num, HK5.out⟩
            case measure => simp [intOf]; omega
        · rw [hquo] at d4
          obtain ⟨hq39, hkind⟩ := HPL.out.quo hquo
          obtain ⟨hks, hsk⟩ := HGA.out _ _ hq39
          rw [hkind] at d0
          have f5 : (0 : Int) ≤ (x'.pos : Int) := by omega
          have f7 : (x'.pos : Int) < (L.length : Int) := by omega
          clear hpos0 hpos' hq39
          go_wp2_with fail
          go_roundw
          case rel => exact ⟨k + 1, by omega, by go_num, HK3.out⟩
          case measure => simp [intOf]; omega
    · have hke : k = ts.length := by omega
      subst hke
      have HLW := Lib.hid hLw
      clear hLw
      go_wp2_with fail
      go_ret
      exact ⟨rfl, below_keep HB2.out HLW.out⟩
end Go.Proofs.YtjaaoljfkbbjpaaGreatDoor
