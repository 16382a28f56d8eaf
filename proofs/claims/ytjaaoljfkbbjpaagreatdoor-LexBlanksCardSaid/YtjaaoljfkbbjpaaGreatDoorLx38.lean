/-
  LexBlanks' walk: blanks and remarks put between the tokens of a text change none. Conditions: the listed variables hold what the row says; each text takes fewer than 2^47 bytes.
-/
import Derived.Test.YtjaaoljfkbbjpaaGreatDoorLx28
import Derived.Test.YtjaaoljfkbbjpaaGreatDoorLx37
namespace Go.Proofs.YtjaaoljfkbbjpaaGreatDoor
open Go.RowKit Go.Shelf Go.Maps
set_option linter.unusedVariables false
set_option linter.unusedSimpArgs false

/-- What is put ahead of a token. -/
def insB (b : List UInt8) : List UInt8 :=
  match tokens (b ++ [10]) with
  | .good [] _ _ => if b.length < 50 then 10 :: (b ++ [10]) else []
  | _ => []
def insOf (bs : List (List UInt8)) (k : Nat) : List UInt8 := if bs.length = 0 then [] else insB (bs.getD (k % bs.length) [])
theorem none_skip {l : List UInt8} {n : Nat} {r : List UInt8} (h : tokens l = .good [] n r) : skipL 0 l = .good () l.length [] := by
  obtain ⟨_, ss, z, hL, hp⟩ := tokens_lexed h
  cases hL with
  | nil z hz => exact hz
  | cons g p r t ss z hs hp' ht hL => simp [place] at hp
theorem insB_ok (b : List UInt8) : Ins (insB b) ∧ (insB b).length ≤ 51 := by
  unfold insB
  split
  · rename_i n r h
    split
    · have := none_skip h
      refine ⟨.inr ⟨b, rfl, by simpa using this⟩, by simp; omega⟩
    · exact ⟨.inl rfl, by simp⟩
  · exact ⟨.inl rfl, by simp⟩
theorem insOf_ok (bs : List (List UInt8)) (k : Nat) : Ins (insOf bs k) ∧ (insOf bs k).length ≤ 51 := by
  unfold insOf
  split
  · exact ⟨.inl rfl, by simp⟩
  · exact insB_ok _
theorem built_len {ins : Nat → List UInt8} (hi : ∀ i, (ins i).length ≤ 51) : ∀ (ps : List (List UInt8)) (i : Nat), (∀ p ∈ ps, p.length ≤ 2000) → (built ins i ps).length ≤ 2051 * ps.length := by
  intro ps
  induction ps with
  | nil => intro i _; simp [built]
  | cons p ps ih =>
    intro i hp
    have h1 := hi i
    have h2 := hp p List.mem_cons_self
    have h3 := ih (i + 1) (fun q hq => hp q (List.mem_cons_of_mem _ hq))
    simp only [built, List.length_append, List.length_cons]
    omega
/-- The pieces of a text, by its tokens' places. -/
structure Pieces (L : List UInt8) (ts : List Tok) (ps : List (List UInt8)) : Prop where
  len : ps.length = ts.length
  at_ : ∀ i t, ts[i]? = some t → t.pos ≤ (if i + 1 < ts.length then (ts.getD (i + 1) tok0).pos else L.length) ∧ (if i + 1 < ts.length then (ts.getD (i + 1) tok0).pos else L.length) ≤ L.length ∧
    ps[i]? = some ((L.drop t.pos).take ((if i + 1 < ts.length then (ts.getD (i + 1) tok0).pos else L.length) - t.pos))
theorem pieces_of {L : List UInt8} {ts : List Tok} {n : Nat} {r : List UInt8} (h : tokens L = .good ts n r) : ∃ ps, Pieces L ts ps ∧ ∀ ins : Nat → List UInt8, (∀ i, Ins (ins i)) → (∀ t ∈ ts, ¬ dot t.tk) →
    (built ins 0 ps).length ≤ 16000 → ∃ us m q, tokens (built ins 0 ps) = .good us m q ∧ us.map Tok.tk = ts.map Tok.tk := by
  obtain ⟨hl, ss, z, hL, rfl⟩ := tokens_lexed h
  refine ⟨pieces ss z, ⟨?_, ?_⟩, ?_⟩
  · rw [pieces_length, place_length]
  · intro i t hi
    have hlt : i < ss.length := by have := (List.getElem?_eq_some_iff.1 hi).1; rwa [place_length] at this
    have h1 := pieces_at hL 0 true i hlt
    have hg : (place 0 true ss).getD i tok0 = t := by simp [List.getD, hi]
    rw [hg, Nat.zero_add, Nat.sub_zero] at h1
    rw [place_length]
    have hpl := places_plain h i (by rw [place_length]; exact hlt)
    obtain ⟨t', hpl⟩ := hpl
    have e1 : t' = t := by rw [← hpl.at_, hg]
    subst e1
    have h2 := hpl.lt
    refine ⟨?_, ?_, h1⟩
    · split
      · rename_i hn
        obtain ⟨u, hu⟩ := places_plain h (i + 1) (by rw [place_length]; exact hn)
        have := hu.rise (by omega)
        rw [Nat.add_sub_cancel, hg] at this
        rw [hu.at_]; omega
      · omega
    · split
      · rename_i hn
        obtain ⟨u, hu⟩ := places_plain h (i + 1) (by rw [place_length]; exact hn)
        rw [hu.at_]; exact Nat.le_of_lt hu.lt
      · omega
  · intro ins hi hd hlen
    have hd' : ∀ s ∈ ss, ¬ dot s.tk := by
      intro s hs
      have : s.tk ∈ (place 0 true ss).map Tok.tk := by rw [place_kinds]; exact List.mem_map.2 ⟨s, hs, rfl⟩
      obtain ⟨t, ht, he⟩ := List.mem_map.1 this
      rw [← he]; exact hd t ht
    obtain ⟨⟨m, hk⟩, _⟩ := toks_between hL hd' ins hi 0 true 0
    rw [between_built] at hk
    have e : tokens (built ins 0 (pieces ss z)) = toks 0 true (built ins 0 (pieces ss z)) := by unfold tokens; rw [if_neg (by omega)]
    rw [e]
    cases hx : toks 0 true (built ins 0 (pieces ss z)) with
    | bad c p => rw [hx] at hk; simp [kindsOf] at hk
    | good us m' q => rw [hx] at hk; simp only [kindsOf, R.good.injEq] at hk; exact ⟨us, m', q, rfl, by rw [hk.1, place_kinds]⟩
/-- The texts between, in memory. -/
structure BtIn (w : World) (a : Option Addr) (bs : List (List UInt8)) : Prop where
  at_ : ∀ k x, bs[k]? = some x → ∃ b off, a = some ⟨b, off, none⟩ ∧ b < w.heap.size ∧ w.cell? ⟨b, off + k, none⟩ = some (.string (str x)) ∧ x.length ≤ 140737488351232
theorem app10 (x : List UInt8) : str x ++ (⟨#[10]⟩ : ByteArray) = str (x ++ [10]) := by apply ByteArray.ext; simp [str]
theorem app_str' (x y : List UInt8) : str x ++ str y = str (x ++ y) := by apply ByteArray.ext; simp [str]
set_option maxRecDepth 1000000 in
set_option maxHeartbeats 16000000 in
theorem blanksLaw_any (L : List UInt8) (bs : List (List UInt8)) (a : Option Addr) (cap : Nat) {w : World} (hv : LxVars w) (hbt : BtIn w a bs) (hbl : bs.length ≤ 9223372036854775807) : Calls Tryz.prog 6 #[.string (str L), .slice a bs.length cap] w fun e w' => e = .returned (.bool true) ∧ Below w.heap.size w w' := by
  have HAL := Lib.hid (alive_any hv)
  have HV := Lib.hid hv
  have hsz := str_size L
  have HTK := Lib.hid (fun (W : World) (h : LxVars W) => tokens_v L h)
  have HSUB := Lib.hid (fun f a => take_str L f a)
  have HBT := Lib.hid hbt
  obtain ⟨s, hs⟩ : ∃ s, str L = s := ⟨_, rfl⟩
  rw [hs] at HTK hsz HSUB ⊢
  clear hv hs hbt
  go_enter Tryz.func6, Tryz.ntmps6
  go_wp2_with fail
  refine HAL.out.mono ?_
  rintro e w1 ⟨rfl, hb1⟩
  have hv1 := HV.out.below hb1
  have ht := HTK.out w1 hv1
  have HV1 := Lib.hid hv1
  have HB1 := Lib.hid hb1
  clear hv1 hb1 HAL
  rcases hx : tokens L with ⟨c, q⟩ | ⟨ts, n, r⟩
  · rw [hx] at ht
    have HT := Lib.hid ht
    clear ht hx
    go_wp2_with fail
    refine HT.out.mono ?_
    rintro e w2 ⟨b, rfl, hF, hbs, hb2⟩
    have HB2 := Lib.hid (below_next HB1.out hb2)
    clear hF hbs hb2 HT
    unfold faultV at *
    go_wp2_with fail
    go_ret
    exact ⟨rfl, HB2.out⟩
  rw [hx] at ht
  have HT := Lib.hid ht
  have hcount := tokens_count hx
  have hL := tokens_le hx
  have HX := Lib.hid hx
  obtain ⟨ps, hps, hfin⟩ := pieces_of hx
  have HPS := Lib.hid hps
  have HFIN := Lib.hid hfin
  clear ht hx hps hfin
  go_wp2_with fail
  refine HT.out.mono ?_
  rintro e w2 ⟨v, rfl, hta, hb2⟩
  have HB2 := Lib.hid (below_next HB1.out hb2)
  have HV2 := Lib.hid (HV1.out.below hb2)
  have HTS := Lib.hid hta
  obtain ⟨ad, cp, rfl⟩ := hta.is
  clear hb2 HT hta
  by_cases h2000 : L.length ≤ 2000
  rotate_left
  · have h2' : (2000 : Int) < (L.length : Int) := by omega
    clear h2000
    go_wp2_with fail
    go_ret
    exact ⟨rfl, HB2.out⟩
  have h2' : ¬ (2000 : Int) < (L.length : Int) := by omega
  go_wp2_with fail
  go_loopw [7, 32] (fun o i wr => ∃ k : Nat, k ≤ ts.length ∧ i = .int .i64 k ∧ o = .string (str (built (insOf bs) 0 (ps.take k))) ∧ (∀ (j : Nat) t, j < k → ts[j]? = some t → ¬ dot t.tk) ∧ Keep (· < w2.heap.size) w2 wr) (fun o i _ => ts.length - (intOf i).toNat)
  case atStart => exact ⟨0, by omega, rfl, rfl, fun j t h => absurd h (Nat.not_lt_zero _), Keep.refl _ _⟩
  case round =>
    obtain ⟨k, hk, rfl, rfl, hnd, hLw⟩ := hrel
    have HND := Lib.hid hnd
    have hbuilt : (str (built (insOf bs) 0 (ps.take k))).size ≤ 4102000 := by
      rw [str_size]
      have h1 := built_len (ins := insOf bs) (fun i => (insOf_ok bs i).2) (ps.take k) 0 (fun p hp => by
        obtain ⟨j, hj, he⟩ := List.mem_iff_getElem.1 (List.mem_of_mem_take hp)
        have hjt : j < ts.length := by rw [← HPS.out.len]; exact hj
        have := (HPS.out.at_ j _ (List.getElem?_eq_getElem hjt)).2.2
        rw [List.getElem?_eq_getElem hj, he] at this
        rw [Option.some.inj this]
        simp; omega)
      have h2 : (ps.take k).length ≤ 2000 := by rw [List.length_take]; omega
      omega
    clear hnd
    by_cases hlt : k < ts.length
    · obtain ⟨x, hxk⟩ : ∃ x, ts[k]? = some x := ⟨_, List.getElem?_eq_getElem hlt⟩
      obtain ⟨ad', cp', he, hc⟩ := HTS.out.sl
      obtain ⟨g, o, hao, _, hg, ht⟩ := hc k x hxk
      obtain rfl : ad = some ⟨g, o, none⟩ := by cases he; exact hao
      have h1 := ht.keep hLw hg hg
      have hs := hLw.size
      have hgw : g < wr.heap.size := Nat.lt_of_lt_of_le hg hs
      have HLW := Lib.hid hLw
      have HBX := Lib.hid (show Below w.heap.size w wr from ((Below.keeps HB2.out).trans (hLw.less fun k (hk : k < w.heap.size) => Nat.lt_of_lt_of_le hk HB2.out.size)).toBelow (fun _ h => h) (Nat.le_refl _))
      obtain ⟨c0, c1, c2, c3, c4, c5⟩ := h1
      obtain ⟨hp1, hp2, hp3⟩ := HPS.out.at_ k x hxk
      have HNX := Lib.hid (show ∀ u, ts[k + 1]? = some u → wr.cell? ⟨g, o + (k + 1) * 6 + 3, none⟩ = some (.int .i64 u.pos) from fun u hu => by
        obtain ⟨g', o', hao', _, hg', hu'⟩ := hc (k + 1) u hu
        obtain ⟨rfl, rfl⟩ : g' = g ∧ o' = o := by have := Option.some.inj (hao'.symm.trans hao); injection this with h1 h2; exact ⟨h1, h2⟩
        exact (hu'.keep HLW.out hg' hg').c3)
      have hsl := str_list x.tk.text
      have h46 := list46
      have HXK := Lib.hid hxk
      clear hLw ht hc he hxk
      obtain ⟨s1, hs1⟩ : ∃ s1, str x.tk.text = s1 := ⟨_, rfl⟩
      rw [hs1] at c1 hsl
      clear hs1
      obtain ⟨txt, htxt⟩ : ∃ txt, x.tk.text = txt := ⟨_, rfl⟩
      obtain ⟨quo, hquo⟩ : ∃ quo, x.tk.quoted = quo := ⟨_, rfl⟩
      obtain ⟨knd, hknd⟩ : ∃ knd, x.tk.kind = knd := ⟨_, rfl⟩
      rw [htxt] at hsl
      rw [hquo] at c4
      rw [hknd] at c0
      by_cases hd : dot x.tk
      · obtain ⟨d1, d2, d3⟩ := hd
        rw [d1] at hknd
        rw [d2] at htxt
        rw [d3] at hquo
        subst hknd hquo htxt
        clear hp1 hp2 hp3
        go_wp2_with fail
        go_ret
        exact ⟨rfl, below_keep HBX.out ((Keep.refl _ wr).alloc _)⟩
      have hcase : ((knd : Int) == 1) = false ∨ ((knd : Int) = 1 ∧ (txt == [46]) = false) ∨ ((knd : Int) = 1 ∧ txt = [46] ∧ quo = true) := by
        by_cases e1 : knd = 1
        · by_cases e2 : txt = [46]
          · refine .inr (.inr ⟨by omega, e2, ?_⟩)
            cases quo with
            | true => rfl
            | false => exact absurd ⟨hknd.trans e1, htxt.trans e2, hquo⟩ hd
          · exact .inr (.inl ⟨by omega, beq_eq_false_iff_ne.2 e2⟩)
        · exact .inl (beq_eq_false_iff_ne.2 (by omega))
      have HREL := Lib.hid (show (∀ (j : Nat) t, j < k + 1 → ts[j]? = some t → ¬ dot t.tk) from fun j t hj hjt => by
        rcases Nat.lt_or_ge j k with h | h
        · exact HND.out j t h hjt
        · obtain rfl : j = k := by omega
          obtain rfl : x = t := Option.some.inj (HXK.out.symm.trans hjt)
          exact hd)
      clear hd htxt hknd hquo
      by_cases hnx : k + 1 < ts.length
      · have hnx' : ((k : Int) + 1 < (ts.length : Int)) := by omega
        obtain ⟨u, hu⟩ : ∃ u, ts[k + 1]? = some u := ⟨_, List.getElem?_eq_getElem hnx⟩
        have k9 := HNX.out u hu
        rw [if_pos hnx, getD_of hu] at hp1 hp2 hp3
        clear hu
        have hdx := HSUB.out x.pos u.pos
        have HPK := Lib.hid hp3
        have HOUT : Hid (built (insOf bs) 0 (ps.take (k + 1)) = built (insOf bs) 0 (ps.take k) ++ (insOf bs k ++ (L.drop x.pos).take (u.pos - x.pos))) := by
          have hlt2 : (ps.take k).length = k := by rw [List.length_take, HPS.out.len]; omega
          rw [List.take_add_one, HPK.out, Option.toList_some, built_snoc, hlt2, Nat.zero_add]
          exact Lib.hid rfl
        have hplen : ((L.drop x.pos).take (u.pos - x.pos)).length ≤ 2000 := by simp; omega
        generalize (L.drop x.pos).take (u.pos - x.pos) = P at *
        have f1 : ((x.pos : Nat) : Int) ≤ ((u.pos : Nat) : Int) := by omega
        have f2 : ((u.pos : Nat) : Int) ≤ (L.length : Int) := by omega
        have f3 : (0 : Int) ≤ (x.pos : Int) := by omega
        have hspz := str_size P
        obtain ⟨B, hB⟩ : ∃ B, built (insOf bs) 0 (ps.take k) = B := ⟨_, rfl⟩
        rw [hB] at hbuilt HOUT ⊢
        clear hB hp1 hp2 hp3 HPK
        rcases Nat.eq_zero_or_pos bs.length with hbz | hbz
        · have hcat := app_str' B P
          have hsn : B ++ P = built (insOf bs) 0 (ps.take (k + 1)) := by rw [HOUT.out]; unfold insOf; rw [if_pos hbz]; rfl
          obtain ⟨so, hso⟩ : ∃ so, str B = so := ⟨_, rfl⟩
          obtain ⟨sp, hsp⟩ : ∃ sp, str P = sp := ⟨_, rfl⟩
          obtain ⟨sN, hsN⟩ : ∃ sN, str (B ++ P) = sN := ⟨_, rfl⟩
          have HSN := Lib.hid (show sN = str (built (insOf bs) 0 (ps.take (k + 1))) by rw [← hsN, hsn])
          rw [hso, hsp, hsN] at hcat
          rw [hso] at hbuilt ⊢
          rw [hsp] at hdx hspz
          have hz1 : bs.length = 0 := hbz
          have hz2 : ¬ (0 : Int) < (bs.length : Int) := by omega
          clear hsn hso hsp hsN hbz
          rcases hcase with e1 | ⟨e1, e2⟩ | ⟨e1, e2, e3⟩
          all_goals
            try subst e2
            try subst e3
            go_wp2_with fail
            go_roundw
            case rel => exact ⟨k + 1, by omega, by go_num, congrArg Value.string HSN.out, HREL.out, HLW.out.alloc _⟩
            case measure => simp [intOf]; omega
        · obtain ⟨bx, hbx⟩ : ∃ bx, bs[k % bs.length]? = some bx := ⟨_, List.getElem?_eq_getElem (Nat.mod_lt _ hbz)⟩
          have hins : insOf bs k = insB bx := by unfold insOf; rw [if_neg (by omega)]; simp [List.getD, hbx]
          obtain ⟨gb, ob, hab, hgb, hcb, hbxl⟩ := HBT.out.at_ _ bx hbx
          subst hab
          have hbw : gb < wr.heap.size := Nat.lt_of_lt_of_le hgb HBX.out.size
          have hcb' := (HBX.out.cell (p := ⟨gb, ob + k % bs.length, none⟩) hgb).trans hcb
          have HVA := Lib.hid ((HV2.out.keep HLW.out (fun _ h => h)).keep ((Keep.refl (fun _ => True) wr).alloc (.cells #[.int .i64 knd, .string s1, .int .i64 x.tk.int, .int .i64 x.pos, .bool quo, .bool x.apart] 33)) (fun _ _ => trivial))
          have HBK := Lib.hid (Blk.new wr 33 #[.int .i64 knd, .string s1, .int .i64 x.tk.int, .int .i64 x.pos, .bool quo, .bool x.apart])
          have hb10 := app10 bx
          have hsbz := str_size bx
          have HTB := Lib.hid (fun (W : World) (h : LxVars W) => tokens_v (bx ++ [10]) h)
          obtain ⟨md, hmd⟩ : ∃ md, k % bs.length = md := ⟨_, rfl⟩
          have hmlt : md < bs.length := by rw [← hmd]; exact Nat.mod_lt _ hbz
          rw [hmd] at hcb'
          have hmI : (k : Int).tmod (bs.length : Int) = (md : Int) := by rw [← hmd]; rfl
          have hz2 : (0 : Int) < (bs.length : Int) := by omega
          have hz3 : ¬ ((bs.length : Int) = 0) := by omega
          obtain ⟨sb, hsb⟩ : ∃ sb, str bx = sb := ⟨_, rfl⟩
          obtain ⟨sbx, hsbx⟩ : ∃ sbx, str (bx ++ [10]) = sbx := ⟨_, rfl⟩
          rw [hsb] at hcb' hb10 hsbz
          rw [hsbx] at hb10 HTB
          clear hbx hcb hmd
          rcases hcase with e1 | ⟨e1, e2⟩ | ⟨e1, e2, e3⟩
          · go_wp2_with fail
            refine (HTB.out _ HVA.out).mono ?_
            intro e w3 hp
            rcases hz : tokens (bx ++ [10]) with ⟨c, q⟩ | ⟨us, n3, r3⟩
            · rw [hz] at hp
              obtain ⟨b', rfl, hF, hbs, hb3⟩ := hp
              have hinsE : insOf bs k = [] := by rw [hins]; unfold insB; rw [hz]
              have hkb := HBK.out.keep (Below.keeps hb3) (Blk.lt HBK.out)
              have m3 := hkb.cell 3
              simp only [List.getElem?_toArray, List.getElem?_cons_zero, List.getElem?_cons_succ] at m3
              have HK3 := Lib.hid ((HLW.out.alloc (.cells #[.int .i64 knd, .string s1, .int .i64 x.tk.int, .int .i64 x.pos, .bool quo, .bool x.apart] 33)).trans ((Below.keeps hb3).less (fun k (hk : k < w2.heap.size) => by have := HLW.out.size; show k < _; simp; omega)))
              clear hkb
              clear hF hbs hb3 hz hsb hsbx
              have hsn : B ++ P = built (insOf bs) 0 (ps.take (k + 1)) := by rw [HOUT.out, hinsE]; rfl
              have hcat := app_str' B P
              obtain ⟨so, hso⟩ : ∃ so, str B = so := ⟨_, rfl⟩
              obtain ⟨sp, hsp⟩ : ∃ sp, str P = sp := ⟨_, rfl⟩
              obtain ⟨sN, hsN⟩ : ∃ sN, str (B ++ P) = sN := ⟨_, rfl⟩
              have HSN := Lib.hid (show sN = str (built (insOf bs) 0 (ps.take (k + 1))) by rw [← hsN, hsn])
              rw [hso, hsp, hsN] at hcat
              rw [hso] at hbuilt ⊢
              rw [hsp] at hdx hspz
              clear hsn hso hsp hsN hinsE
              unfold faultV
              go_wp2_with fail
              go_roundw
              case rel => exact ⟨k + 1, by omega, by go_num, congrArg Value.string HSN.out, HREL.out, HK3.out⟩
              case measure => simp [intOf]; omega
            · rw [hz] at hp
              obtain ⟨v3, rfl, htu, hb3⟩ := hp
              obtain ⟨au, cu, rfl⟩ := htu.is
              have hkb := HBK.out.keep (Below.keeps hb3) (Blk.lt HBK.out)
              have m3 := hkb.cell 3
              simp only [List.getElem?_toArray, List.getElem?_cons_zero, List.getElem?_cons_succ] at m3
              have HK3 := Lib.hid ((HLW.out.alloc (.cells #[.int .i64 knd, .string s1, .int .i64 x.tk.int, .int .i64 x.pos, .bool quo, .bool x.apart] 33)).trans ((Below.keeps hb3).less (fun k (hk : k < w2.heap.size) => by have := HLW.out.size; show k < _; simp; omega)))
              clear hkb
              clear htu hb3
              rcases us with _ | ⟨u0, us⟩
              · simp only [List.length_nil]
                by_cases h50 : bx.length < 50
                · have hinsE : insOf bs k = 10 :: (bx ++ [10]) := by rw [hins]; unfold insB; rw [hz]; simp [h50]
                  have h50' : decide ((bx.length : Int) < 50) = true := decide_eq_true (by omega)
                  have h50'' : ((bx.length : Int) < 50) := by omega
                  have hsn : B ++ [10] ++ bx ++ [10] ++ P = built (insOf bs) 0 (ps.take (k + 1)) := by rw [HOUT.out, hinsE]; simp
                  have q1 := app10 B
                  have q2 := app_str' (B ++ [10]) bx
                  have q3 := app10 (B ++ [10] ++ bx)
                  have q4 := app_str' (B ++ [10] ++ bx ++ [10]) P
                  have y1 := str_size (B ++ [10])
                  have y2 := str_size (B ++ [10] ++ bx)
                  have y3 := str_size (B ++ [10] ++ bx ++ [10])
                  rw [str_size] at hbuilt
                  have hBz := str_size B
                  simp only [List.length_append, List.length_cons, List.length_nil] at y1 y2 y3
                  obtain ⟨so, hso⟩ : ∃ so, str B = so := ⟨_, rfl⟩
                  obtain ⟨sp, hsp⟩ : ∃ sp, str P = sp := ⟨_, rfl⟩
                  obtain ⟨j1, hj1⟩ : ∃ j1, str (B ++ [10]) = j1 := ⟨_, rfl⟩
                  obtain ⟨j2, hj2⟩ : ∃ j2, str (B ++ [10] ++ bx) = j2 := ⟨_, rfl⟩
                  obtain ⟨j3, hj3⟩ : ∃ j3, str (B ++ [10] ++ bx ++ [10]) = j3 := ⟨_, rfl⟩
                  obtain ⟨sN, hsN⟩ : ∃ sN, str (B ++ [10] ++ bx ++ [10] ++ P) = sN := ⟨_, rfl⟩
                  have HSN := Lib.hid (show sN = str (built (insOf bs) 0 (ps.take (k + 1))) by rw [← hsN, hsn])
                  rw [hso, hj1] at q1
                  rw [hj1, hsb, hj2] at q2
                  rw [hj2, hj3] at q3
                  rw [hj3, hsp, hsN] at q4
                  rw [hj1] at y1
                  rw [hj2] at y2
                  rw [hj3] at y3
                  rw [hso] at hBz ⊢
                  rw [hsp] at hdx hspz
                  clear hsn hso hsp hsN hj1 hj2 hj3 hinsE
                  clear hz hsb hsbx
                  go_wp2_with fail
                  go_roundw
                  case rel => exact ⟨k + 1, by omega, by go_num, congrArg Value.string HSN.out, HREL.out, HK3.out⟩
                  case measure => simp [intOf]; omega
                · have hinsE : insOf bs k = [] := by rw [hins]; unfold insB; rw [hz]; simp [h50]
                  have h50' : decide ((bx.length : Int) < 50) = false := decide_eq_false (by omega)
                  have h50'' : ¬ ((bx.length : Int) < 50) := by omega
                  clear hz hsb hsbx
                  have hsn : B ++ P = built (insOf bs) 0 (ps.take (k + 1)) := by rw [HOUT.out, hinsE]; rfl
                  have hcat := app_str' B P
                  obtain ⟨so, hso⟩ : ∃ so, str B = so := ⟨_, rfl⟩
                  obtain ⟨sp, hsp⟩ : ∃ sp, str P = sp := ⟨_, rfl⟩
                  obtain ⟨sN, hsN⟩ : ∃ sN, str (B ++ P) = sN := ⟨_, rfl⟩
                  have HSN := Lib.hid (show sN = str (built (insOf bs) 0 (ps.take (k + 1))) by rw [← hsN, hsn])
                  rw [hso, hsp, hsN] at hcat
                  rw [hso] at hbuilt ⊢
                  rw [hsp] at hdx hspz
                  clear hsn hso hsp hsN hinsE
                  go_wp2_with fail
                  go_roundw
                  case rel => exact ⟨k + 1, by omega, by go_num, congrArg Value.string HSN.out, HREL.out, HK3.out⟩
                  case measure => simp [intOf]; omega
              · have hinsE : insOf bs k = [] := by rw [hins]; unfold insB; rw [hz]
                have hu0 : (((u0 :: us).length : Int) == 0) = false := beq_eq_false_iff_ne.2 (by simp; omega)
                obtain ⟨un, hun⟩ : ∃ un, (u0 :: us).length = un := ⟨_, rfl⟩
                rw [hun] at hu0 ⊢
                clear hun hz hsb hsbx
                have hsn : B ++ P = built (insOf bs) 0 (ps.take (k + 1)) := by rw [HOUT.out, hinsE]; rfl
                have hcat := app_str' B P
                obtain ⟨so, hso⟩ : ∃ so, str B = so := ⟨_, rfl⟩
                obtain ⟨sp, hsp⟩ : ∃ sp, str P = sp := ⟨_, rfl⟩
                obtain ⟨sN, hsN⟩ : ∃ sN, str (B ++ P) = sN := ⟨_, rfl⟩
                have HSN := Lib.hid (show sN = str (built (insOf bs) 0 (ps.take (k + 1))) by rw [← hsN, hsn])
                rw [hso, hsp, hsN] at hcat
                rw [hso] at hbuilt ⊢
                rw [hsp] at hdx hspz
                clear hsn hso hsp hsN hinsE
                go_wp2_with fail
                go_roundw
                case rel => exact ⟨k + 1, by omega, by go_num, congrArg Value.string HSN.out, HREL.out, HK3.out⟩
                case measure => simp [intOf]; omega
          · simp only [e1] at HVA HBK
            go_wp2_with fail
            refine (HTB.out _ HVA.out).mono ?_
            intro e w3 hp
            rcases hz : tokens (bx ++ [10]) with ⟨c, q⟩ | ⟨us, n3, r3⟩
            · rw [hz] at hp
              obtain ⟨b', rfl, hF, hbs, hb3⟩ := hp
              have hinsE : insOf bs k = [] := by rw [hins]; unfold insB; rw [hz]
              have hkb := HBK.out.keep (Below.keeps hb3) (Blk.lt HBK.out)
              have m3 := hkb.cell 3
              simp only [List.getElem?_toArray, List.getElem?_cons_zero, List.getElem?_cons_succ] at m3
              have HK3 := Lib.hid ((HLW.out.alloc (.cells #[.int .i64 1, .string s1, .int .i64 x.tk.int, .int .i64 x.pos, .bool quo, .bool x.apart] 33)).trans ((Below.keeps hb3).less (fun k (hk : k < w2.heap.size) => by have := HLW.out.size; show k < _; simp; omega)))
              clear hkb
              clear hF hbs hb3 hz hsb hsbx
              have hsn : B ++ P = built (insOf bs) 0 (ps.take (k + 1)) := by rw [HOUT.out, hinsE]; rfl
              have hcat := app_str' B P
              obtain ⟨so, hso⟩ : ∃ so, str B = so := ⟨_, rfl⟩
              obtain ⟨sp, hsp⟩ : ∃ sp, str P = sp := ⟨_, rfl⟩
              obtain ⟨sN, hsN⟩ : ∃ sN, str (B ++ P) = sN := ⟨_, rfl⟩
              have HSN := Lib.hid (show sN = str (built (insOf bs) 0 (ps.take (k + 1))) by rw [← hsN, hsn])
              rw [hso, hsp, hsN] at hcat
              rw [hso] at hbuilt ⊢
              rw [hsp] at hdx hspz
              clear hsn hso hsp hsN hinsE
              unfold faultV
              go_wp2_with fail
              go_roundw
              case rel => exact ⟨k + 1, by omega, by go_num, congrArg Value.string HSN.out, HREL.out, HK3.out⟩
              case measure => simp [intOf]; omega
            · rw [hz] at hp
              obtain ⟨v3, rfl, htu, hb3⟩ := hp
              obtain ⟨au, cu, rfl⟩ := htu.is
              have hkb := HBK.out.keep (Below.keeps hb3) (Blk.lt HBK.out)
              have m3 := hkb.cell 3
              simp only [List.getElem?_toArray, List.getElem?_cons_zero, List.getElem?_cons_succ] at m3
              have HK3 := Lib.hid ((HLW.out.alloc (.cells #[.int .i64 1, .string s1, .int .i64 x.tk.int, .int .i64 x.pos, .bool quo, .bool x.apart] 33)).trans ((Below.keeps hb3).less (fun k (hk : k < w2.heap.size) => by have := HLW.out.size; show k < _; simp; omega)))
              clear hkb
              clear htu hb3
              rcases us with _ | ⟨u0, us⟩
              · simp only [List.length_nil]
                by_cases h50 : bx.length < 50
                · have hinsE : insOf bs k = 10 :: (bx ++ [10]) := by rw [hins]; unfold insB; rw [hz]; simp [h50]
                  have h50' : decide ((bx.length : Int) < 50) = true := decide_eq_true (by omega)
                  have h50'' : ((bx.length : Int) < 50) := by omega
                  have hsn : B ++ [10] ++ bx ++ [10] ++ P = built (insOf bs) 0 (ps.take (k + 1)) := by rw [HOUT.out, hinsE]; simp
                  have q1 := app10 B
                  have q2 := app_str' (B ++ [10]) bx
                  have q3 := app10 (B ++ [10] ++ bx)
                  have q4 := app_str' (B ++ [10] ++ bx ++ [10]) P
                  have y1 := str_size (B ++ [10])
                  have y2 := str_size (B ++ [10] ++ bx)
                  have y3 := str_size (B ++ [10] ++ bx ++ [10])
                  rw [str_size] at hbuilt
                  have hBz := str_size B
                  simp only [List.length_append, List.length_cons, List.length_nil] at y1 y2 y3
                  obtain ⟨so, hso⟩ : ∃ so, str B = so := ⟨_, rfl⟩
                  obtain ⟨sp, hsp⟩ : ∃ sp, str P = sp := ⟨_, rfl⟩
                  obtain ⟨j1, hj1⟩ : ∃ j1, str (B ++ [10]) = j1 := ⟨_, rfl⟩
                  obtain ⟨j2, hj2⟩ : ∃ j2, str (B ++ [10] ++ bx) = j2 := ⟨_, rfl⟩
                  obtain ⟨j3, hj3⟩ : ∃ j3, str (B ++ [10] ++ bx ++ [10]) = j3 := ⟨_, rfl⟩
                  obtain ⟨sN, hsN⟩ : ∃ sN, str (B ++ [10] ++ bx ++ [10] ++ P) = sN := ⟨_, rfl⟩
                  have HSN := Lib.hid (show sN = str (built (insOf bs) 0 (ps.take (k + 1))) by rw [← hsN, hsn])
                  rw [hso, hj1] at q1
                  rw [hj1, hsb, hj2] at q2
                  rw [hj2, hj3] at q3
                  rw [hj3, hsp, hsN] at q4
                  rw [hj1] at y1
                  rw [hj2] at y2
                  rw [hj3] at y3
                  rw [hso] at hBz ⊢
                  rw [hsp] at hdx hspz
                  clear hsn hso hsp hsN hj1 hj2 hj3 hinsE
                  clear hz hsb hsbx
                  go_wp2_with fail
                  go_roundw
                  case rel => exact ⟨k + 1, by omega, by go_num, congrArg Value.string HSN.out, HREL.out, HK3.out⟩
                  case measure => simp [intOf]; omega
                · have hinsE : insOf bs k = [] := by rw [hins]; unfold insB; rw [hz]; simp [h50]
                  have h50' : decide ((bx.length : Int) < 50) = false := decide_eq_false (by omega)
                  have h50'' : ¬ ((bx.length : Int) < 50) := by omega
                  clear hz hsb hsbx
                  have hsn : B ++ P = built (insOf bs) 0 (ps.take (k + 1)) := by rw [HOUT.out, hinsE]; rfl
                  have hcat := app_str' B P
                  obtain ⟨so, hso⟩ : ∃ so, str B = so := ⟨_, rfl⟩
                  obtain ⟨sp, hsp⟩ : ∃ sp, str P = sp := ⟨_, rfl⟩
                  obtain ⟨sN, hsN⟩ : ∃ sN, str (B ++ P) = sN := ⟨_, rfl⟩
                  have HSN := Lib.hid (show sN = str (built (insOf bs) 0 (ps.take (k + 1))) by rw [← hsN, hsn])
                  rw [hso, hsp, hsN] at hcat
                  rw [hso] at hbuilt ⊢
                  rw [hsp] at hdx hspz
                  clear hsn hso hsp hsN hinsE
                  go_wp2_with fail
                  go_roundw
                  case rel => exact ⟨k + 1, by omega, by go_num, congrArg Value.string HSN.out, HREL.out, HK3.out⟩
                  case measure => simp [intOf]; omega
              · have hinsE : insOf bs k = [] := by rw [hins]; unfold insB; rw [hz]
                have hu0 : (((u0 :: us).length : Int) == 0) = false := beq_eq_false_iff_ne.2 (by simp; omega)
                obtain ⟨un, hun⟩ : ∃ un, (u0 :: us).length = un := ⟨_, rfl⟩
                rw [hun] at hu0 ⊢
                clear hun hz hsb hsbx
                have hsn : B ++ P = built (insOf bs) 0 (ps.take (k + 1)) := by rw [HOUT.out, hinsE]; rfl
                have hcat := app_str' B P
                obtain ⟨so, hso⟩ : ∃ so, str B = so := ⟨_, rfl⟩
                obtain ⟨sp, hsp⟩ : ∃ sp, str P = sp := ⟨_, rfl⟩
                obtain ⟨sN, hsN⟩ : ∃ sN, str (B ++ P) = sN := ⟨_, rfl⟩
                have HSN := Lib.hid (show sN = str (built (insOf bs) 0 (ps.take (k + 1))) by rw [← hsN, hsn])
                rw [hso, hsp, hsN] at hcat
                rw [hso] at hbuilt ⊢
                rw [hsp] at hdx hspz
                clear hsn hso hsp hsN hinsE
                go_wp2_with fail
                go_roundw
                case rel => exact ⟨k + 1, by omega, by go_num, congrArg Value.string HSN.out, HREL.out, HK3.out⟩
                case measure => simp [intOf]; omega
          · subst e2
            subst e3
            simp only [e1] at HVA HBK
            go_wp2_with fail
            refine (HTB.out _ HVA.out).mono ?_
            intro e w3 hp
            rcases hz : tokens (bx ++ [10]) with ⟨c, q⟩ | ⟨us, n3, r3⟩
            · rw [hz] at hp
              obtain ⟨b', rfl, hF, hbs, hb3⟩ := hp
              have hinsE : insOf bs k = [] := by rw [hins]; unfold insB; rw [hz]
              have hkb := HBK.out.keep (Below.keeps hb3) (Blk.lt HBK.out)
              have m3 := hkb.cell 3
              simp only [List.getElem?_toArray, List.getElem?_cons_zero, List.getElem?_cons_succ] at m3
              have HK3 := Lib.hid ((HLW.out.alloc (.cells #[.int .i64 1, .string s1, .int .i64 x.tk.int, .int .i64 x.pos, .bool true, .bool x.apart] 33)).trans ((Below.keeps hb3).less (fun k (hk : k < w2.heap.size) => by have := HLW.out.size; show k < _; simp; omega)))
              clear hkb
              clear hF hbs hb3 hz hsb hsbx
              have hsn : B ++ P = built (insOf bs) 0 (ps.take (k + 1)) := by rw [HOUT.out, hinsE]; rfl
              have hcat := app_str' B P
              obtain ⟨so, hso⟩ : ∃ so, str B = so := ⟨_, rfl⟩
              obtain ⟨sp, hsp⟩ : ∃ sp, str P = sp := ⟨_, rfl⟩
              obtain ⟨sN, hsN⟩ : ∃ sN, str (B ++ P) = sN := ⟨_, rfl⟩
              have HSN := Lib.hid (show sN = str (built (insOf bs) 0 (ps.take (k + 1))) by rw [← hsN, hsn])
              rw [hso, hsp, hsN] at hcat
              rw [hso] at hbuilt ⊢
              rw [hsp] at hdx hspz
              clear hsn hso hsp hsN hinsE
              unfold faultV
              go_wp2_with fail
              go_roundw
              case rel => exact ⟨k + 1, by omega, by go_num, congrArg Value.string HSN.out, HREL.out, HK3.out⟩
              case measure => simp [intOf]; omega
            · rw [hz] at hp
              obtain ⟨v3, rfl, htu, hb3⟩ := hp
              obtain ⟨au, cu, rfl⟩ := htu.is
              have hkb := HBK.out.keep (Below.keeps hb3) (Blk.lt HBK.out)
              have m3 := hkb.cell 3
              simp only [List.getElem?_toArray, List.getElem?_cons_zero, List.getElem?_cons_succ] at m3
              have HK3 := Lib.hid ((HLW.out.alloc (.cells #[.int .i64 1, .string s1, .int .i64 x.tk.int, .int .i64 x.pos, .bool true, .bool x.apart] 33)).trans ((Below.keeps hb3).less (fun k (hk : k < w2.heap.size) => by have := HLW.out.size; show k < _; simp; omega)))
              clear hkb
              clear htu hb3
              rcases us with _ | ⟨u0, us⟩
              · simp only [List.length_nil]
                by_cases h50 : bx.length < 50
                · have hinsE : insOf bs k = 10 :: (bx ++ [10]) := by rw [hins]; unfold insB; rw [hz]; simp [h50]
                  have h50' : decide ((bx.length : Int) < 50) = true := decide_eq_true (by omega)
                  have h50'' : ((bx.length : Int) < 50) := by omega
                  have hsn : B ++ [10] ++ bx ++ [10] ++ P = built (insOf bs) 0 (ps.take (k + 1)) := by rw [HOUT.out, hinsE]; simp
                  have q1 := app10 B
                  have q2 := app_str' (B ++ [10]) bx
                  have q3 := app10 (B ++ [10] ++ bx)
                  have q4 := app_str' (B ++ [10] ++ bx ++ [10]) P
                  have y1 := str_size (B ++ [10])
                  have y2 := str_size (B ++ [10] ++ bx)
                  have y3 := str_size (B ++ [10] ++ bx ++ [10])
                  rw [str_size] at hbuilt
                  have hBz := str_size B
                  simp only [List.length_append, List.length_cons, List.length_nil] at y1 y2 y3
                  obtain ⟨so, hso⟩ : ∃ so, str B = so := ⟨_, rfl⟩
                  obtain ⟨sp, hsp⟩ : ∃ sp, str P = sp := ⟨_, rfl⟩
                  obtain ⟨j1, hj1⟩ : ∃ j1, str (B ++ [10]) = j1 := ⟨_, rfl⟩
                  obtain ⟨j2, hj2⟩ : ∃ j2, str (B ++ [10] ++ bx) = j2 := ⟨_, rfl⟩
                  obtain ⟨j3, hj3⟩ : ∃ j3, str (B ++ [10] ++ bx ++ [10]) = j3 := ⟨_, rfl⟩
                  obtain ⟨sN, hsN⟩ : ∃ sN, str (B ++ [10] ++ bx ++ [10] ++ P) = sN := ⟨_, rfl⟩
                  have HSN := Lib.hid (show sN = str (built (insOf bs) 0 (ps.take (k + 1))) by rw [← hsN, hsn])
                  rw [hso, hj1] at q1
                  rw [hj1, hsb, hj2] at q2
                  rw [hj2, hj3] at q3
                  rw [hj3, hsp, hsN] at q4
                  rw [hj1] at y1
                  rw [hj2] at y2
                  rw [hj3] at y3
                  rw [hso] at hBz ⊢
                  rw [hsp] at hdx hspz
                  clear hsn hso hsp hsN hj1 hj2 hj3 hinsE
                  clear hz hsb hsbx
                  go_wp2_with fail
                  go_roundw
                  case rel => exact ⟨k + 1, by omega, by go_num, congrArg Value.string HSN.out, HREL.out, HK3.out⟩
                  case measure => simp [intOf]; omega
                · have hinsE : insOf bs k = [] := by rw [hins]; unfold insB; rw [hz]; simp [h50]
                  have h50' : decide ((bx.length : Int) < 50) = false := decide_eq_false (by omega)
                  have h50'' : ¬ ((bx.length : Int) < 50) := by omega
                  clear hz hsb hsbx
                  have hsn : B ++ P = built (insOf bs) 0 (ps.take (k + 1)) := by rw [HOUT.out, hinsE]; rfl
                  have hcat := app_str' B P
                  obtain ⟨so, hso⟩ : ∃ so, str B = so := ⟨_, rfl⟩
                  obtain ⟨sp, hsp⟩ : ∃ sp, str P = sp := ⟨_, rfl⟩
                  obtain ⟨sN, hsN⟩ : ∃ sN, str (B ++ P) = sN := ⟨_, rfl⟩
                  have HSN := Lib.hid (show sN = str (built (insOf bs) 0 (ps.take (k + 1))) by rw [← hsN, hsn])
                  rw [hso, hsp, hsN] at hcat
                  rw [hso] at hbuilt ⊢
                  rw [hsp] at hdx hspz
                  clear hsn hso hsp hsN hinsE
                  go_wp2_with fail
                  go_roundw
                  case rel => exact ⟨k + 1, by omega, by go_num, congrArg Value.string HSN.out, HREL.out, HK3.out⟩
                  case measure => simp [intOf]; omega
              · have hinsE : insOf bs k = [] := by rw [hins]; unfold insB; rw [hz]
                have hu0 : (((u0 :: us).length : Int) == 0) = false := beq_eq_false_iff_ne.2 (by simp; omega)
                obtain ⟨un, hun⟩ : ∃ un, (u0 :: us).length = un := ⟨_, rfl⟩
                rw [hun] at hu0 ⊢
                clear hun hz hsb hsbx
                have hsn : B ++ P = built (insOf bs) 0 (ps.take (k + 1)) := by rw [HOUT.out, hinsE]; rfl
                have hcat := app_str' B P
                obtain ⟨so, hso⟩ : ∃ so, str B = so := ⟨_, rfl⟩
                obtain ⟨sp, hsp⟩ : ∃ sp, str P = sp := ⟨_, rfl⟩
                obtain ⟨sN, hsN⟩ : ∃ sN, str (B ++ P) = sN := ⟨_, rfl⟩
                have HSN := Lib.hid (show sN = str (built (insOf bs) 0 (ps.take (k + 1))) by rw [← hsN, hsn])
                rw [hso, hsp, hsN] at hcat
                rw [hso] at hbuilt ⊢
                rw [hsp] at hdx hspz
                clear hsn hso hsp hsN hinsE
                go_wp2_with fail
                go_roundw
                case rel => exact ⟨k + 1, by omega, by go_num, congrArg Value.string HSN.out, HREL.out, HK3.out⟩
                case measure => simp [intOf]; omega
      · have hnx' : ¬ ((k : Int) + 1 < (ts.length : Int)) := by omega
        rw [if_neg hnx] at hp1 hp2 hp3
        have hdx := HSUB.out x.pos L.length
        have HPK := Lib.hid hp3
        have HOUT : Hid (built (insOf bs) 0 (ps.take (k + 1)) = built (insOf bs) 0 (ps.take k) ++ (insOf bs k ++ (L.drop x.pos).take (L.length - x.pos))) := by
          have hlt2 : (ps.take k).length = k := by rw [List.length_take, HPS.out.len]; omega
          rw [List.take_add_one, HPK.out, Option.toList_some, built_snoc, hlt2, Nat.zero_add]
          exact Lib.hid rfl
        have hplen : ((L.drop x.pos).take (L.length - x.pos)).length ≤ 2000 := by simp; omega
        generalize (L.drop x.pos).take (L.length - x.pos) = P at *
        have f1 : ((x.pos : Nat) : Int) ≤ ((L.length : Nat) : Int) := by omega
        have f2 : ((L.length : Nat) : Int) ≤ (L.length : Int) := by omega
        have f3 : (0 : Int) ≤ (x.pos : Int) := by omega
        have hspz := str_size P
        obtain ⟨B, hB⟩ : ∃ B, built (insOf bs) 0 (ps.take k) = B := ⟨_, rfl⟩
        rw [hB] at hbuilt HOUT ⊢
        clear hB hp1 hp2 hp3 HPK
        rcases Nat.eq_zero_or_pos bs.length with hbz | hbz
        · have hcat := app_str' B P
          have hsn : B ++ P = built (insOf bs) 0 (ps.take (k + 1)) := by rw [HOUT.out]; unfold insOf; rw [if_pos hbz]; rfl
          obtain ⟨so, hso⟩ : ∃ so, str B = so := ⟨_, rfl⟩
          obtain ⟨sp, hsp⟩ : ∃ sp, str P = sp := ⟨_, rfl⟩
          obtain ⟨sN, hsN⟩ : ∃ sN, str (B ++ P) = sN := ⟨_, rfl⟩
          have HSN := Lib.hid (show sN = str (built (insOf bs) 0 (ps.take (k + 1))) by rw [← hsN, hsn])
          rw [hso, hsp, hsN] at hcat
          rw [hso] at hbuilt ⊢
          rw [hsp] at hdx hspz
          have hz1 : bs.length = 0 := hbz
          have hz2 : ¬ (0 : Int) < (bs.length : Int) := by omega
          clear hsn hso hsp hsN hbz
          rcases hcase with e1 | ⟨e1, e2⟩ | ⟨e1, e2, e3⟩
          all_goals
            try subst e2
            try subst e3
            go_wp2_with fail
            go_roundw
            case rel => exact ⟨k + 1, by omega, by go_num, congrArg Value.string HSN.out, HREL.out, HLW.out.alloc _⟩
            case measure => simp [intOf]; omega
        · obtain ⟨bx, hbx⟩ : ∃ bx, bs[k % bs.length]? = some bx := ⟨_, List.getElem?_eq_getElem (Nat.mod_lt _ hbz)⟩
          have hins : insOf bs k = insB bx := by unfold insOf; rw [if_neg (by omega)]; simp [List.getD, hbx]
          obtain ⟨gb, ob, hab, hgb, hcb, hbxl⟩ := HBT.out.at_ _ bx hbx
          subst hab
          have hbw : gb < wr.heap.size := Nat.lt_of_lt_of_le hgb HBX.out.size
          have hcb' := (HBX.out.cell (p := ⟨gb, ob + k % bs.length, none⟩) hgb).trans hcb
          have HVA := Lib.hid ((HV2.out.keep HLW.out (fun _ h => h)).keep ((Keep.refl (fun _ => True) wr).alloc (.cells #[.int .i64 knd, .string s1, .int .i64 x.tk.int, .int .i64 x.pos, .bool quo, .bool x.apart] 33)) (fun _ _ => trivial))
          have HBK := Lib.hid (Blk.new wr 33 #[.int .i64 knd, .string s1, .int .i64 x.tk.int, .int .i64 x.pos, .bool quo, .bool x.apart])
          have hb10 := app10 bx
          have hsbz := str_size bx
          have HTB := Lib.hid (fun (W : World) (h : LxVars W) => tokens_v (bx ++ [10]) h)
          obtain ⟨md, hmd⟩ : ∃ md, k % bs.length = md := ⟨_, rfl⟩
          have hmlt : md < bs.length := by rw [← hmd]; exact Nat.mod_lt _ hbz
          rw [hmd] at hcb'
          have hmI : (k : Int).tmod (bs.length : Int) = (md : Int) := by rw [← hmd]; rfl
          have hz2 : (0 : Int) < (bs.length : Int) := by omega
          have hz3 : ¬ ((bs.length : Int) = 0) := by omega
          obtain ⟨sb, hsb⟩ : ∃ sb, str bx = sb := ⟨_, rfl⟩
          obtain ⟨sbx, hsbx⟩ : ∃ sbx, str (bx ++ [10]) = sbx := ⟨_, rfl⟩
          rw [hsb] at hcb' hb10 hsbz
          rw [hsbx] at hb10 HTB
          clear hbx hcb hmd
          rcases hcase with e1 | ⟨e1, e2⟩ | ⟨e1, e2, e3⟩
          · go_wp2_with fail
            refine (HTB.out _ HVA.out).mono ?_
            intro e w3 hp
            rcases hz : tokens (bx ++ [10]) with ⟨c, q⟩ | ⟨us, n3, r3⟩
            · rw [hz] at hp
              obtain ⟨b', rfl, hF, hbs, hb3⟩ := hp
              have hinsE : insOf bs k = [] := by rw [hins]; unfold insB; rw [hz]
              have hkb := HBK.out.keep (Below.keeps hb3) (Blk.lt HBK.out)
              have m3 := hkb.cell 3
              simp only [List.getElem?_toArray, List.getElem?_cons_zero, List.getElem?_cons_succ] at m3
              have HK3 := Lib.hid ((HLW.out.alloc (.cells #[.int .i64 knd, .string s1, .int .i64 x.tk.int, .int .i64 x.pos, .bool quo, .bool x.apart] 33)).trans ((Below.keeps hb3).less (fun k (hk : k < w2.heap.size) => by have := HLW.out.size; show k < _; simp; omega)))
              clear hkb
              clear hF hbs hb3 hz hsb hsbx
              have hsn : B ++ P = built (insOf bs) 0 (ps.take (k + 1)) := by rw [HOUT.out, hinsE]; rfl
              have hcat := app_str' B P
              obtain ⟨so, hso⟩ : ∃ so, str B = so := ⟨_, rfl⟩
              obtain ⟨sp, hsp⟩ : ∃ sp, str P = sp := ⟨_, rfl⟩
              obtain ⟨sN, hsN⟩ : ∃ sN, str (B ++ P) = sN := ⟨_, rfl⟩
              have HSN := Lib.hid (show sN = str (built (insOf bs) 0 (ps.take (k + 1))) by rw [← hsN, hsn])
              rw [hso, hsp, hsN] at hcat
              rw [hso] at hbuilt ⊢
              rw [hsp] at hdx hspz
              clear hsn hso hsp hsN hinsE
              unfold faultV
              go_wp2_with fail
              go_roundw
              case rel => exact ⟨k + 1, by omega, by go_num, congrArg Value.string HSN.out, HREL.out, HK3.out⟩
              case measure => simp [intOf]; omega
            · rw [hz] at hp
              obtain ⟨v3, rfl, htu, hb3⟩ := hp
              obtain ⟨au, cu, rfl⟩ := htu.is
              have hkb := HBK.out.keep (Below.keeps hb3) (Blk.lt HBK.out)
              have m3 := hkb.cell 3
              simp only [List.getElem?_toArray, List.getElem?_cons_zero, List.getElem?_cons_succ] at m3
              have HK3 := Lib.hid ((HLW.out.alloc (.cells #[.int .i64 knd, .string s1, .int .i64 x.tk.int, .int .i64 x.pos, .bool quo, .bool x.apart] 33)).trans ((Below.keeps hb3).less (fun k (hk : k < w2.heap.size) => by have := HLW.out.size; show k < _; simp; omega)))
              clear hkb
              clear htu hb3
              rcases us with _ | ⟨u0, us⟩
              · simp only [List.length_nil]
                by_cases h50 : bx.length < 50
                · have hinsE : insOf bs k = 10 :: (bx ++ [10]) := by rw [hins]; unfold insB; rw [hz]; simp [h50]
                  have h50' : decide ((bx.length : Int) < 50) = true := decide_eq_true (by omega)
                  have h50'' : ((bx.length : Int) < 50) := by omega
                  have hsn : B ++ [10] ++ bx ++ [10] ++ P = built (insOf bs) 0 (ps.take (k + 1)) := by rw [HOUT.out, hinsE]; simp
                  have q1 := app10 B
                  have q2 := app_str' (B ++ [10]) bx
                  have q3 := app10 (B ++ [10] ++ bx)
                  have q4 := app_str' (B ++ [10] ++ bx ++ [10]) P
                  have y1 := str_size (B ++ [10])
                  have y2 := str_size (B ++ [10] ++ bx)
                  have y3 := str_size (B ++ [10] ++ bx ++ [10])
                  rw [str_size] at hbuilt
                  have hBz := str_size B
                  simp only [List.length_append, List.length_cons, List.length_nil] at y1 y2 y3
                  obtain ⟨so, hso⟩ : ∃ so, str B = so := ⟨_, rfl⟩
                  obtain ⟨sp, hsp⟩ : ∃ sp, str P = sp := ⟨_, rfl⟩
                  obtain ⟨j1, hj1⟩ : ∃ j1, str (B ++ [10]) = j1 := ⟨_, rfl⟩
                  obtain ⟨j2, hj2⟩ : ∃ j2, str (B ++ [10] ++ bx) = j2 := ⟨_, rfl⟩
                  obtain ⟨j3, hj3⟩ : ∃ j3, str (B ++ [10] ++ bx ++ [10]) = j3 := ⟨_, rfl⟩
                  obtain ⟨sN, hsN⟩ : ∃ sN, str (B ++ [10] ++ bx ++ [10] ++ P) = sN := ⟨_, rfl⟩
                  have HSN := Lib.hid (show sN = str (built (insOf bs) 0 (ps.take (k + 1))) by rw [← hsN, hsn])
                  rw [hso, hj1] at q1
                  rw [hj1, hsb, hj2] at q2
                  rw [hj2, hj3] at q3
                  rw [hj3, hsp, hsN] at q4
                  rw [hj1] at y1
                  rw [hj2] at y2
                  rw [hj3] at y3
                  rw [hso] at hBz ⊢
                  rw [hsp] at hdx hspz
                  clear hsn hso hsp hsN hj1 hj2 hj3 hinsE
                  clear hz hsb hsbx
                  go_wp2_with fail
                  go_roundw
                  case rel => exact ⟨k + 1, by omega, by go_num, congrArg Value.string HSN.out, HREL.out, HK3.out⟩
                  case measure => simp [intOf]; omega
                · have hinsE : insOf bs k = [] := by rw [hins]; unfold insB; rw [hz]; simp [h50]
                  have h50' : decide ((bx.length : Int) < 50) = false := decide_eq_false (by omega)
                  have h50'' : ¬ ((bx.length : Int) < 50) := by omega
                  clear hz hsb hsbx
                  have hsn : B ++ P = built (insOf bs) 0 (ps.take (k + 1)) := by rw [HOUT.out, hinsE]; rfl
                  have hcat := app_str' B P
                  obtain ⟨so, hso⟩ : ∃ so, str B = so := ⟨_, rfl⟩
                  obtain ⟨sp, hsp⟩ : ∃ sp, str P = sp := ⟨_, rfl⟩
                  obtain ⟨sN, hsN⟩ : ∃ sN, str (B ++ P) = sN := ⟨_, rfl⟩
                  have HSN := Lib.hid (show sN = str (built (insOf bs) 0 (ps.take (k + 1))) by rw [← hsN, hsn])
                  rw [hso, hsp, hsN] at hcat
                  rw [hso] at hbuilt ⊢
                  rw [hsp] at hdx hspz
                  clear hsn hso hsp hsN hinsE
                  go_wp2_with fail
                  go_roundw
                  case rel => exact ⟨k + 1, by omega, by go_num, congrArg Value.string HSN.out, HREL.out, HK3.out⟩
                  case measure => simp [intOf]; omega
              · have hinsE : insOf bs k = [] := by rw [hins]; unfold insB; rw [hz]
                have hu0 : (((u0 :: us).length : Int) == 0) = false := beq_eq_false_iff_ne.2 (by simp; omega)
                obtain ⟨un, hun⟩ : ∃ un, (u0 :: us).length = un := ⟨_, rfl⟩
                rw [hun] at hu0 ⊢
                clear hun hz hsb hsbx
                have hsn : B ++ P = built (insOf bs) 0 (ps.take (k + 1)) := by rw [HOUT.out, hinsE]; rfl
                have hcat := app_str' B P
                obtain ⟨so, hso⟩ : ∃ so, str B = so := ⟨_, rfl⟩
                obtain ⟨sp, hsp⟩ : ∃ sp, str P = sp := ⟨_, rfl⟩
                obtain ⟨sN, hsN⟩ : ∃ sN, str (B ++ P) = sN := ⟨_, rfl⟩
                have HSN := Lib.hid (show sN = str (built (insOf bs) 0 (ps.take (k + 1))) by rw [← hsN, hsn])
                rw [hso, hsp, hsN] at hcat
                rw [hso] at hbuilt ⊢
                rw [hsp] at hdx hspz
                clear hsn hso hsp hsN hinsE
                go_wp2_with fail
                go_roundw
                case rel => exact ⟨k + 1, by omega, by go_num, congrArg Value.string HSN.out, HREL.out, HK3.out⟩
                case measure => simp [intOf]; omega
          · simp only [e1] at HVA HBK
            go_wp2_with fail
            refine (HTB.out _ HVA.out).mono ?_
            intro e w3 hp
            rcases hz : tokens (bx ++ [10]) with ⟨c, q⟩ | ⟨us, n3, r3⟩
            · rw [hz] at hp
              obtain ⟨b', rfl, hF, hbs, hb3⟩ := hp
              have hinsE : insOf bs k = [] := by rw [hins]; unfold insB; rw [hz]
              have hkb := HBK.out.keep (Below.keeps hb3) (Blk.lt HBK.out)
              have m3 := hkb.cell 3
              simp only [List.getElem?_toArray, List.getElem?_cons_zero, List.getElem?_cons_succ] at m3
              have HK3 := Lib.hid ((HLW.out.alloc (.cells #[.int .i64 1, .string s1, .int .i64 x.tk.int, .int .i64 x.pos, .bool quo, .bool x.apart] 33)).trans ((Below.keeps hb3).less (fun k (hk : k < w2.heap.size) => by have := HLW.out.size; show k < _; simp; omega)))
              clear hkb
              clear hF hbs hb3 hz hsb hsbx
              have hsn : B ++ P = built (insOf bs) 0 (ps.take (k + 1)) := by rw [HOUT.out, hinsE]; rfl
              have hcat := app_str' B P
              obtain ⟨so, hso⟩ : ∃ so, str B = so := ⟨_, rfl⟩
              obtain ⟨sp, hsp⟩ : ∃ sp, str P = sp := ⟨_, rfl⟩
              obtain ⟨sN, hsN⟩ : ∃ sN, str (B ++ P) = sN := ⟨_, rfl⟩
              have HSN := Lib.hid (show sN = str (built (insOf bs) 0 (ps.take (k + 1))) by rw [← hsN, hsn])
              rw [hso, hsp, hsN] at hcat
              rw [hso] at hbuilt ⊢
              rw [hsp] at hdx hspz
              clear hsn hso hsp hsN hinsE
              unfold faultV
              go_wp2_with fail
              go_roundw
              case rel => exact ⟨k + 1, by omega, by go_num, congrArg Value.string HSN.out, HREL.out, HK3.out⟩
              case measure => simp [intOf]; omega
            · rw [hz] at hp
              obtain ⟨v3, rfl, htu, hb3⟩ := hp
              obtain ⟨au, cu, rfl⟩ := htu.is
              have hkb := HBK.out.keep (Below.keeps hb3) (Blk.lt HBK.out)
              have m3 := hkb.cell 3
              simp only [List.getElem?_toArray, List.getElem?_cons_zero, List.getElem?_cons_succ] at m3
              have HK3 := Lib.hid ((HLW.out.alloc (.cells #[.int .i64 1, .string s1, .int .i64 x.tk.int, .int .i64 x.pos, .bool quo, .bool x.apart] 33)).trans ((Below.keeps hb3).less (fun k (hk : k < w2.heap.size) => by have := HLW.out.size; show k < _; simp; omega)))
              clear hkb
              clear htu hb3
              rcases us with _ | ⟨u0, us⟩
              · simp only [List.length_nil]
                by_cases h50 : bx.length < 50
                · have hinsE : insOf bs k = 10 :: (bx ++ [10]) := by rw [hins]; unfold insB; rw [hz]; simp [h50]
                  have h50' : decide ((bx.length : Int) < 50) = true := decide_eq_true (by omega)
                  have h50'' : ((bx.length : Int) < 50) := by omega
                  have hsn : B ++ [10] ++ bx ++ [10] ++ P = built (insOf bs) 0 (ps.take (k + 1)) := by rw [HOUT.out, hinsE]; simp
                  have q1 := app10 B
                  have q2 := app_str' (B ++ [10]) bx
                  have q3 := app10 (B ++ [10] ++ bx)
                  have q4 := app_str' (B ++ [10] ++ bx ++ [10]) P
                  have y1 := str_size (B ++ [10])
                  have y2 := str_size (B ++ [10] ++ bx)
                  have y3 := str_size (B ++ [10] ++ bx ++ [10])
                  rw [str_size] at hbuilt
                  have hBz := str_size B
                  simp only [List.length_append, List.length_cons, List.length_nil] at y1 y2 y3
                  obtain ⟨so, hso⟩ : ∃ so, str B = so := ⟨_, rfl⟩
                  obtain ⟨sp, hsp⟩ : ∃ sp, str P = sp := ⟨_, rfl⟩
                  obtain ⟨j1, hj1⟩ : ∃ j1, str (B ++ [10]) = j1 := ⟨_, rfl⟩
                  obtain ⟨j2, hj2⟩ : ∃ j2, str (B ++ [10] ++ bx) = j2 := ⟨_, rfl⟩
                  obtain ⟨j3, hj3⟩ : ∃ j3, str (B ++ [10] ++ bx ++ [10]) = j3 := ⟨_, rfl⟩
                  obtain ⟨sN, hsN⟩ : ∃ sN, str (B ++ [10] ++ bx ++ [10] ++ P) = sN := ⟨_, rfl⟩
                  have HSN := Lib.hid (show sN = str (built (insOf bs) 0 (ps.take (k + 1))) by rw [← hsN, hsn])
                  rw [hso, hj1] at q1
                  rw [hj1, hsb, hj2] at q2
                  rw [hj2, hj3] at q3
                  rw [hj3, hsp, hsN] at q4
                  rw [hj1] at y1
                  rw [hj2] at y2
                  rw [hj3] at y3
                  rw [hso] at hBz ⊢
                  rw [hsp] at hdx hspz
                  clear hsn hso hsp hsN hj1 hj2 hj3 hinsE
                  clear hz hsb hsbx
                  go_wp2_with fail
                  go_roundw
                  case rel => exact ⟨k + 1, by omega, by go_num, congrArg Value.string HSN.out, HREL.out, HK3.out⟩
                  case measure => simp [intOf]; omega
                · have hinsE : insOf bs k = [] := by rw [hins]; unfold insB; rw [hz]; simp [h50]
                  have h50' : decide ((bx.length : Int) < 50) = false := decide_eq_false (by omega)
                  have h50'' : ¬ ((bx.length : Int) < 50) := by omega
                  clear hz hsb hsbx
                  have hsn : B ++ P = built (insOf bs) 0 (ps.take (k + 1)) := by rw [HOUT.out, hinsE]; rfl
                  have hcat := app_str' B P
                  obtain ⟨so, hso⟩ : ∃ so, str B = so := ⟨_, rfl⟩
                  obtain ⟨sp, hsp⟩ : ∃ sp, str P = sp := ⟨_, rfl⟩
                  obtain ⟨sN, hsN⟩ : ∃ sN, str (B ++ P) = sN := ⟨_, rfl⟩
                  have HSN := Lib.hid (show sN = str (built (insOf bs) 0 (ps.take (k + 1))) by rw [← hsN, hsn])
                  rw [hso, hsp, hsN] at hcat
                  rw [hso] at hbuilt ⊢
                  rw [hsp] at hdx hspz
                  clear hsn hso hsp hsN hinsE
                  go_wp2_with fail
                  go_roundw
                  case rel => exact ⟨k + 1, by omega, by go_num, congrArg Value.string HSN.out, HREL.out, HK3.out⟩
                  case measure => simp [intOf]; omega
              · have hinsE : insOf bs k = [] := by rw [hins]; unfold insB; rw [hz]
                have hu0 : (((u0 :: us).length : Int) == 0) = false := beq_eq_false_iff_ne.2 (by simp; omega)
                obtain ⟨un, hun⟩ : ∃ un, (u0 :: us).length = un := ⟨_, rfl⟩
                rw [hun] at hu0 ⊢
                clear hun hz hsb hsbx
                have hsn : B ++ P = built (insOf bs) 0 (ps.take (k + 1)) := by rw [HOUT.out, hinsE]; rfl
                have hcat := app_str' B P
                obtain ⟨so, hso⟩ : ∃ so, str B = so := ⟨_, rfl⟩
                obtain ⟨sp, hsp⟩ : ∃ sp, str P = sp := ⟨_, rfl⟩
                obtain ⟨sN, hsN⟩ : ∃ sN, str (B ++ P) = sN := ⟨_, rfl⟩
                have HSN := Lib.hid (show sN = str (built (insOf bs) 0 (ps.take (k + 1))) by rw [← hsN, hsn])
                rw [hso, hsp, hsN] at hcat
                rw [hso] at hbuilt ⊢
                rw [hsp] at hdx hspz
                clear hsn hso hsp hsN hinsE
                go_wp2_with fail
                go_roundw
                case rel => exact ⟨k + 1, by omega, by go_num, congrArg Value.string HSN.out, HREL.out, HK3.out⟩
                case measure => simp [intOf]; omega
          · subst e2
            subst e3
            simp only [e1] at HVA HBK
            go_wp2_with fail
            refine (HTB.out _ HVA.out).mono ?_
            intro e w3 hp
            rcases hz : tokens (bx ++ [10]) with ⟨c, q⟩ | ⟨us, n3, r3⟩
            · rw [hz] at hp
              obtain ⟨b', rfl, hF, hbs, hb3⟩ := hp
              have hinsE : insOf bs k = [] := by rw [hins]; unfold insB; rw [hz]
              have hkb := HBK.out.keep (Below.keeps hb3) (Blk.lt HBK.out)
              have m3 := hkb.cell 3
              simp only [List.getElem?_toArray, List.getElem?_cons_zero, List.getElem?_cons_succ] at m3
              have HK3 := Lib.hid ((HLW.out.alloc (.cells #[.int .i64 1, .string s1, .int .i64 x.tk.int, .int .i64 x.pos, .bool true, .bool x.apart] 33)).trans ((Below.keeps hb3).less (fun k (hk : k < w2.heap.size) => by have := HLW.out.size; show k < _; simp; omega)))
              clear hkb
              clear hF hbs hb3 hz hsb hsbx
              have hsn : B ++ P = built (insOf bs) 0 (ps.take (k + 1)) := by rw [HOUT.out, hinsE]; rfl
              have hcat := app_str' B P
              obtain ⟨so, hso⟩ : ∃ so, str B = so := ⟨_, rfl⟩
              obtain ⟨sp, hsp⟩ : ∃ sp, str P = sp := ⟨_, rfl⟩
              obtain ⟨sN, hsN⟩ : ∃ sN, str (B ++ P) = sN := ⟨_, rfl⟩
              have HSN := Lib.hid (show sN = str (built (insOf bs) 0 (ps.take (k + 1))) by rw [← hsN, hsn])
              rw [hso, hsp, hsN] at hcat
              rw [hso] at hbuilt ⊢
              rw [hsp] at hdx hspz
              clear hsn hso hsp hsN hinsE
              unfold faultV
              go_wp2_with fail
              go_roundw
              case rel => exact ⟨k + 1, by omega, by go_num, congrArg Value.string HSN.out, HREL.out, HK3.out⟩
              case measure => simp [intOf]; omega
            · rw [hz] at hp
              obtain ⟨v3, rfl, htu, hb3⟩ := hp
              obtain ⟨au, cu, rfl⟩ := htu.is
              have hkb := HBK.out.keep (Below.keeps hb3) (Blk.lt HBK.out)
              have m3 := hkb.cell 3
              simp only [List.getElem?_toArray, List.getElem?_cons_zero, List.getElem?_cons_succ] at m3
              have HK3 := Lib.hid ((HLW.out.alloc (.cells #[.int .i64 1, .string s1, .int .i64 x.tk.int, .int .i64 x.pos, .bool true, .bool x.apart] 33)).trans ((Below.keeps hb3).less (fun k (hk : k < w2.heap.size) => by have := HLW.out.size; show k < _; simp; omega)))
              clear hkb
              clear htu hb3
              rcases us with _ | ⟨u0, us⟩
              · simp only [List.length_nil]
                by_cases h50 : bx.length < 50
                · have hinsE : insOf bs k = 10 :: (bx ++ [10]) := by rw [hins]; unfold insB; rw [hz]; simp [h50]
                  have h50' : decide ((bx.length : Int) < 50) = true := decide_eq_true (by omega)
                  have h50'' : ((bx.length : Int) < 50) := by omega
                  have hsn : B ++ [10] ++ bx ++ [10] ++ P = built (insOf bs) 0 (ps.take (k + 1)) := by rw [HOUT.out, hinsE]; simp
                  have q1 := app10 B
                  have q2 := app_str' (B ++ [10]) bx
                  have q3 := app10 (B ++ [10] ++ bx)
                  have q4 := app_str' (B ++ [10] ++ bx ++ [10]) P
                  have y1 := str_size (B ++ [10])
                  have y2 := str_size (B ++ [10] ++ bx)
                  have y3 := str_size (B ++ [10] ++ bx ++ [10])
                  rw [str_size] at hbuilt
                  have hBz := str_size B
                  simp only [List.length_append, List.length_cons, List.length_nil] at y1 y2 y3
                  obtain ⟨so, hso⟩ : ∃ so, str B = so := ⟨_, rfl⟩
                  obtain ⟨sp, hsp⟩ : ∃ sp, str P = sp := ⟨_, rfl⟩
                  obtain ⟨j1, hj1⟩ : ∃ j1, str (B ++ [10]) = j1 := ⟨_, rfl⟩
                  obtain ⟨j2, hj2⟩ : ∃ j2, str (B ++ [10] ++ bx) = j2 := ⟨_, rfl⟩
                  obtain ⟨j3, hj3⟩ : ∃ j3, str (B ++ [10] ++ bx ++ [10]) = j3 := ⟨_, rfl⟩
                  obtain ⟨sN, hsN⟩ : ∃ sN, str (B ++ [10] ++ bx ++ [10] ++ P) = sN := ⟨_, rfl⟩
                  have HSN := Lib.hid (show sN = str (built (insOf bs) 0 (ps.take (k + 1))) by rw [← hsN, hsn])
                  rw [hso, hj1] at q1
                  rw [hj1, hsb, hj2] at q2
                  rw [hj2, hj3] at q3
                  rw [hj3, hsp, hsN] at q4
                  rw [hj1] at y1
                  rw [hj2] at y2
                  rw [hj3] at y3
                  rw [hso] at hBz ⊢
                  rw [hsp] at hdx hspz
                  clear hsn hso hsp hsN hj1 hj2 hj3 hinsE
                  clear hz hsb hsbx
                  go_wp2_with fail
                  go_roundw
                  case rel => exact ⟨k + 1, by omega, by go_num, congrArg Value.string HSN.out, HREL.out, HK3.out⟩
                  case measure => simp [intOf]; omega
                · have hinsE : insOf bs k = [] := by rw [hins]; unfold insB; rw [hz]; simp [h50]
                  have h50' : decide ((bx.length : Int) < 50) = false := decide_eq_false (by omega)
                  have h50'' : ¬ ((bx.length : Int) < 50) := by omega
                  clear hz hsb hsbx
                  have hsn : B ++ P = built (insOf bs) 0 (ps.take (k + 1)) := by rw [HOUT.out, hinsE]; rfl
                  have hcat := app_str' B P
                  obtain ⟨so, hso⟩ : ∃ so, str B = so := ⟨_, rfl⟩
                  obtain ⟨sp, hsp⟩ : ∃ sp, str P = sp := ⟨_, rfl⟩
                  obtain ⟨sN, hsN⟩ : ∃ sN, str (B ++ P) = sN := ⟨_, rfl⟩
                  have HSN := Lib.hid (show sN = str (built (insOf bs) 0 (ps.take (k + 1))) by rw [← hsN, hsn])
                  rw [hso, hsp, hsN] at hcat
                  rw [hso] at hbuilt ⊢
                  rw [hsp] at hdx hspz
                  clear hsn hso hsp hsN hinsE
                  go_wp2_with fail
                  go_roundw
                  case rel => exact ⟨k + 1, by omega, by go_num, congrArg Value.string HSN.out, HREL.out, HK3.out⟩
                  case measure => simp [intOf]; omega
              · have hinsE : insOf bs k = [] := by rw [hins]; unfold insB; rw [hz]
                have hu0 : (((u0 :: us).length : Int) == 0) = false := beq_eq_false_iff_ne.2 (by simp; omega)
                obtain ⟨un, hun⟩ : ∃ un, (u0 :: us).length = un := ⟨_, rfl⟩
                rw [hun] at hu0 ⊢
                clear hun hz hsb hsbx
                have hsn : B ++ P = built (insOf bs) 0 (ps.take (k + 1)) := by rw [HOUT.out, hinsE]; rfl
                have hcat := app_str' B P
                obtain ⟨so, hso⟩ : ∃ so, str B = so := ⟨_, rfl⟩
                obtain ⟨sp, hsp⟩ : ∃ sp, str P = sp := ⟨_, rfl⟩
                obtain ⟨sN, hsN⟩ : ∃ sN, str (B ++ P) = sN := ⟨_, rfl⟩
                have HSN := Lib.hid (show sN = str (built (insOf bs) 0 (ps.take (k + 1))) by rw [← hsN, hsn])
                rw [hso, hsp, hsN] at hcat
                rw [hso] at hbuilt ⊢
                rw [hsp] at hdx hspz
                clear hsn hso hsp hsN hinsE
                go_wp2_with fail
                go_roundw
                case rel => exact ⟨k + 1, by omega, by go_num, congrArg Value.string HSN.out, HREL.out, HK3.out⟩
                case measure => simp [intOf]; omega
    · have hke : k = ts.length := by omega
      subst hke
      have HDD := Lib.hid (show ∀ t ∈ ts, ¬ dot t.tk from fun t ht => by
        obtain ⟨j, hj, he⟩ := List.mem_iff_getElem.1 ht
        exact HND.out j t hj (by rw [List.getElem?_eq_getElem hj, he]))
      have hall : ps.take ts.length = ps := by rw [← HPS.out.len, List.take_length]
      rw [hall] at hbuilt ⊢
      have hbz := str_size (built (insOf bs) 0 ps)
      have HLW := Lib.hid hLw
      have hv3 := HV2.out.keep hLw (fun _ h => h)
      have HB3 := Lib.hid (show Below w.heap.size w wr from ((Below.keeps HB2.out).trans (hLw.less fun k (hk : k < w.heap.size) => Nat.lt_of_lt_of_le hk HB2.out.size)).toBelow (fun _ h => h) (Nat.le_refl _))
      have HT3 := Lib.hid (tokens_v (built (insOf bs) 0 ps) hv3)
      have HTSW := Lib.hid (HTS.out.keep hLw (fun _ _ h => h))
      obtain ⟨so, hso⟩ : ∃ so, str (built (insOf bs) 0 ps) = so := ⟨_, rfl⟩
      rw [hso] at hbz HT3 hbuilt
      rw [hso]
      clear hLw hv3 hall hlt
      by_cases h16 : (built (insOf bs) 0 ps).length ≤ 16000
      rotate_left
      · have h16' : (16000 : Int) < ((built (insOf bs) 0 ps).length : Int) := by omega
        clear h16
        go_wp2_with fail
        go_ret
        exact ⟨rfl, HB3.out⟩
      have h16' : ¬ (16000 : Int) < ((built (insOf bs) 0 ps).length : Int) := by omega
      obtain ⟨us, m, q, hus, hkinds⟩ := HFIN.out (insOf bs) (fun i => (insOf_ok bs i).1) HDD.out h16
      have ht3 := HT3.out
      rw [hus] at ht3
      have HT4 := Lib.hid ht3
      have HKI := Lib.hid hkinds
      have hcu := tokens_count hus
      clear ht3 hus hkinds HT3
      go_wp2_with fail
      refine HT4.out.mono ?_
      rintro e w4 ⟨v4, rfl, htu, hb4⟩
      have HU := Lib.hid htu.sl
      have HTS4 := Lib.hid (HTSW.out.keep (Below.keeps hb4) (fun _ _ h => h)).sl
      have HB4 := Lib.hid (below_next HB3.out hb4)
      obtain ⟨au, cu, rfl⟩ := htu.is
      clear htu hb4 HT4
      go_wp2_with fail
      refine (like_any HU.out HTS4.out HKI.out (by omega)).mono ?_
      rintro e w5 ⟨rfl, hk5⟩
      have HB5 := Lib.hid (below_keep HB4.out hk5)
      clear hk5
      go_wp2_with fail
      go_ret
      exact ⟨rfl, HB5.out⟩
end Go.Proofs.YtjaaoljfkbbjpaaGreatDoor
