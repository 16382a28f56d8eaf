/-
  LexJoins' walk: the tokens of two texts with a line feed between are those of the first and those of the second, at their places behind it. Conditions: the listed variables hold what the row says; each text takes fewer than 2^47 bytes.
-/
import Derived.Test.YtjaaoljfkbbjpaaGreatDoorLx28
import Derived.Test.YtjaaoljfkbbjpaaGreatDoorLx6
import Derived.Laws.AppendOwnNone
import Derived.OwnWalk
namespace Go.Proofs.YtjaaoljfkbbjpaaGreatDoor
open Go.RowKit Go.Shelf Go.Maps
set_option linter.unusedVariables false
set_option linter.unusedSimpArgs false

/-- append of a slice that came in, nil or not, onto one that the call owns. -/
theorem wpList_append_own_opt {P : Program} (w : World) {ops : Array Oper} {rest : List Oper} {o : Oper} {a : Act} {Q : Exit → Act → World → Prop} (hgd : o.guard = none) (s x : Operand) (t : TypeId)
    (ho : o.op = .call { callee := .builtin .append, args := #[s, x], argTypes := #[t, t] })
    (base : Nat) (e : TypeId) (i : TypeInfo) (z : Value) (size bytes : Nat) (ht : P.underlying t = some (.slice e)) (hi : P.info? e = some i) (hz : i.zero = some z)
    (hsize : i.size = size) (hby : i.bytes = bytes) (hzs : z.cells.size = size) (hsz : 0 < size)
    (v : Value) (n : Nat) (xs : List Value) (hs : a.eval s = v) (hown : w.ownsRow base e size v n xs)
    (ao : Option Addr) (m c : Nat) (news : List Value) (hx : a.eval x = .slice ao m c) (hnone : ao = none → m = 0 ∧ c = 0) (hl : news.length = m * size) (hnews : ∀ ad, ao = some ad → ∀ j u, news[j]? = some u → w.cell? (ad.add j) = some u) (h1 : ∀ u ∈ news, u.oneCell' = true)
    (h63 : n + m ≤ maxLen) (hbytes : (n + m) * bytes ≤ 140737488355328) (hbase : base ≤ w.heap.size)
    (h : ∀ v' w', w'.ownsRow base e size v' (n + m) (xs ++ news) → w.grownBy w' v.ownBlock → wpList P ops Q rest (a.put o.dst v') w') : wpList P ops Q (o :: rest) a w := by
  cases ao with
  | some ad => exact wpList_append_own w hgd s x t ho base e i z size bytes ht hi hz hsize hby hzs hsz v n xs hs hown ad m c news hx hl (hnews ad rfl) h1 h63 hbytes hbase (fun v' w' h2 h3 _ => h v' w' h2 h3)
  | none =>
    obtain ⟨rfl, rfl⟩ := hnone rfl
    have hnews : news = [] := List.eq_nil_of_length_eq_zero (by simpa using hl)
    subst hnews
    exact wpList_append_own_none hgd s x t ho base e i size ht hi v n xs hs hown hx (by
      have := h v w (by simpa using hown) (World.grownBy.refl _ _)
      exact this)
theorem ToksAt.news {w : World} {B : Nat} {ao : Option Addr} {n c : Nat} {ts : List Tok} (h : ToksAt w B (.slice ao n c) ts) : (ao = none → n = 0 ∧ c = 0) ∧ n = ts.length ∧ ∀ ad, ao = some ad → ∀ j u, (cellsOfToks ts)[j]? = some u → w.cell? (ad.add j) = some u := by
  obtain ⟨h1, ⟨he, h0⟩ | ⟨g, cap, cur, he, a1, a2, a3, a4, a5, a6⟩⟩ := h
  · cases he
    exact ⟨fun _ => ⟨rfl, rfl⟩, by omega, fun ad h => by cases h⟩
  · cases he
    refine ⟨fun h => (by cases h), rfl, fun ad h j u hj => ?_⟩
    cases h
    have hb : Blk w g 33 cur := a2
    have e1 : Addr.add ⟨g, 0, none⟩ j = ⟨g, j, none⟩ := by simp [Addr.add]; omega
    rw [e1, hb.cell, ← Array.getElem?_toList]
    rw [← a6] at hj
    rcases Nat.lt_or_ge j (ts.length * 6) with hlt | hge
    · rwa [List.getElem?_take_of_lt hlt] at hj
    · rw [List.getElem?_take_eq_none hge] at hj; cases hj
theorem tokCells_one (ts : List Tok) : ∀ u ∈ cellsOfToks ts, u.oneCell' = true := by
  intro u hu
  obtain ⟨t, _, ht⟩ := List.mem_flatMap.1 hu
  simp only [tokCells, List.mem_cons, List.not_mem_nil, or_false] at ht
  rcases ht with rfl | rfl | rfl | rfl | rfl | rfl <;> rfl
theorem cellsOfToks_app (a b : List Tok) : cellsOfToks (a ++ b) = cellsOfToks a ++ cellsOfToks b := by simp [cellsOfToks]
theorem join_bad {a b : List UInt8} {xs : List Tok} {n c q : Nat} {r : List UInt8} (h : tokens a = .good xs n r) (hd : ∀ t ∈ xs, ¬ dot t.tk) (hb : tokens b = .bad c q) (hl : a.length + b.length ≤ 16000) : tokens (a ++ 10 :: b) = .bad c (q + a.length + 1) := by
  rw [tokens_join h hd b hl, show a.length + 1 = (a.length + 1) + 0 by omega, toks_shift]
  have : toks 0 true b = .bad c q := by unfold tokens at hb; rwa [if_neg (by omega)] at hb
  rw [this]
  simp [shiftT, after]; omega
theorem join_good {a b : List UInt8} {xs ys : List Tok} {n m : Nat} {r s : List UInt8} (h : tokens a = .good xs n r) (hd : ∀ t ∈ xs, ¬ dot t.tk) (hb : tokens b = .good ys m s) (hl : a.length + b.length ≤ 16000) : ∃ k q, tokens (a ++ 10 :: b) = .good (xs ++ ys.map fun t => ⟨t.tk, a.length + 1 + t.pos, t.apart⟩) k q := by
  rw [tokens_join h hd b hl, show a.length + 1 = (a.length + 1) + 0 by omega, toks_shift]
  have : toks 0 true b = .good ys m s := by unfold tokens at hb; rwa [if_neg (by omega)] at hb
  rw [this]
  exact ⟨_, _, rfl⟩
theorem i64_in {n : Int} (h : -9223372036854775808 ≤ n ∧ n ≤ 9223372036854775807) : IntKind.i64.wrap n = n := (IntWalk.i64_left n).trans (IntWalk.wrap64_in n h)
theorem app_strs (a b : List UInt8) : str a ++ (⟨#[10]⟩ : ByteArray) ++ str b = str (a ++ 10 :: b) := by
  apply ByteArray.ext
  simp [str]
set_option maxRecDepth 1000000 in
set_option maxHeartbeats 16000000 in
theorem joinsLaw_any (A B : List UInt8) {w : World} (hv : LxVars w) (hA : A.length ≤ 140737488351232) (hB : B.length ≤ 140737488351232) : Calls Tryz.prog 9 #[.string (str A), .string (str B)] w fun e w' => e = .returned (.bool true) ∧ Below w.heap.size w w' := by
  have HAL := Lib.hid (alive_any hv)
  have HV := Lib.hid hv
  have hsa := str_size A
  have hsb := str_size B
  have HTA := Lib.hid (fun (W : World) (h : LxVars W) => tokens_v A h)
  have HTB := Lib.hid (fun (W : World) (h : LxVars W) => tokens_v B h)
  have happ := app_strs A B
  obtain ⟨sa, ha⟩ : ∃ s, str A = s := ⟨_, rfl⟩
  obtain ⟨sb, hb⟩ : ∃ s, str B = s := ⟨_, rfl⟩
  rw [ha] at hsa HTA happ
  rw [hb] at hsb HTB happ
  rw [ha, hb]
  clear hv ha hb
  by_cases hl : A.length + B.length ≤ 16000
  rotate_left
  · have hl' : ((16000 : Int) < (A.length : Int) + (B.length : Int)) := by omega
    go_enter Tryz.func9, Tryz.ntmps9
    go_wp2_with fail
    refine HAL.out.mono ?_
    rintro e w1 ⟨rfl, hb1⟩
    have HB1 := Lib.hid hb1
    clear hb1
    go_wp2_with fail
    go_ret
    exact ⟨rfl, HB1.out⟩
  have hl' : ¬ ((16000 : Int) < (A.length : Int) + (B.length : Int)) := by omega
  go_enter Tryz.func9, Tryz.ntmps9
  go_wp2_with fail
  refine HAL.out.mono ?_
  rintro e w1 ⟨rfl, hb1⟩
  have hv1 := HV.out.below hb1
  have ht := HTA.out w1 hv1
  have HV1 := Lib.hid hv1
  have HB1 := Lib.hid hb1
  clear hv1 hb1 HAL
  rcases hx : tokens A with ⟨c, q⟩ | ⟨xs, n, r⟩
  · rw [hx] at ht
    have HT := Lib.hid ht
    clear ht hx
    go_wp2_with fail
    refine HT.out.mono ?_
    rintro e w2 ⟨b, rfl, hF, hbs, hb2⟩
    have hv2 := HV1.out.below hb2
    have htb := Lib.hid (HTB.out w2 hv2)
    have HB2 := Lib.hid (below_next HB1.out hb2)
    clear hF hbs hb2 HT hv2
    unfold faultV
    go_wp2_with fail
    refine htb.out.mono ?_
    rintro e w3 hp
    have hq : ∃ u y, e = .returned (.tuple #[u, y]) ∧ Below w2.heap.size w2 w3 := by
      cases h9 : tokens B with
      | bad c q => rw [h9] at hp; obtain ⟨b, h1, _, _, h2⟩ := hp; exact ⟨_, _, h1, h2⟩
      | good ts n r => rw [h9] at hp; obtain ⟨v, h1, _, h2⟩ := hp; exact ⟨_, _, h1, h2⟩
    obtain ⟨u, y, rfl, hb3⟩ := hq
    have HB3 := Lib.hid (below_next HB2.out hb3)
    clear hp hb3 htb
    go_wp2_with fail
    go_ret
    exact ⟨rfl, HB3.out⟩
  rw [hx] at ht
  have HT := Lib.hid ht
  have hcx := tokens_count hx
  have HX := Lib.hid hx
  clear ht hx
  go_wp2_with fail
  refine HT.out.mono ?_
  rintro e w2 ⟨v, rfl, hta, hb2⟩
  have hv2 := HV1.out.below hb2
  have htb := HTB.out w2 hv2
  have HV2 := Lib.hid hv2
  have HB2 := Lib.hid (below_next HB1.out hb2)
  obtain ⟨ax, cx, rfl⟩ := hta.is
  have HTX := Lib.hid hta
  clear hb2 hv2 HT hta
  have HFA := Lib.hid happ
  clear happ
  go_wp2_with fail
  rcases hy : tokens B with ⟨c, q⟩ | ⟨ys, m, s⟩
  · rw [hy] at htb
    have HTB2 := Lib.hid htb
    have HY := Lib.hid hy
    clear htb hy
    refine HTB2.out.mono ?_
    rintro e w3 ⟨b, rfl, hF, hbs, hb3⟩
    have HF := Lib.hid hF
    have HBS := Lib.hid hbs
    have HV3 := Lib.hid (HV2.out.below hb3)
    have HB3 := Lib.hid (below_next HB2.out hb3)
    have HTX3 := Lib.hid (HTX.out.keep (Below.keeps hb3) (fun g _ hg => hg))
    clear hF hbs hb3 HTB2 HTX
    unfold faultV
    go_wp2_with fail
    go_loopw [36] (fun i wr => ∃ k : Nat, k ≤ xs.length ∧ i = .int .i64 k ∧ (∀ (j : Nat) t, j < k → xs[j]? = some t → ¬ dot t.tk) ∧ Keep (fun _ => True) w3 wr) (fun i _ => xs.length - (intOf i).toNat)
    case atStart => exact ⟨0, by omega, rfl, fun j t h => absurd h (Nat.not_lt_zero _), Keep.refl _ _⟩
    case round =>
      obtain ⟨k, hk, rfl, hnd, hL⟩ := hrel
      have HND := Lib.hid hnd
      clear hnd
      by_cases hlt : k < xs.length
      · obtain ⟨x, hxk⟩ : ∃ x, xs[k]? = some x := ⟨_, List.getElem?_eq_getElem hlt⟩
        obtain ⟨ad, cp, he, hc⟩ := HTX3.out.sl
        obtain ⟨g, o, hao, _, hg, ht⟩ := hc k x hxk
        obtain rfl : ax = some ⟨g, o, none⟩ := by cases he; exact hao
        have h1 := ht.keep hL hg trivial
        have hs := hL.size
        have HLW := Lib.hid hL
        obtain ⟨c0, c1, c2, c3, c4, c5⟩ := h1
        have hsl := str_list x.tk.text
        have h46 := list46
        have HXK := Lib.hid hxk
        clear hL ht hc he hxk
        generalize str x.tk.text = s1 at *
        obtain ⟨txt, htxt⟩ : ∃ txt, x.tk.text = txt := ⟨_, rfl⟩
        obtain ⟨quo, hquo⟩ : ∃ quo, x.tk.quoted = quo := ⟨_, rfl⟩
        obtain ⟨knd, hknd⟩ : ∃ knd, x.tk.kind = knd := ⟨_, rfl⟩
        rw [htxt] at hsl
        rw [hquo] at c4
        rw [hknd] at c0
        generalize x.tk.int = n2 at *
        by_cases hd : dot x.tk
        · obtain ⟨d1, d2, d3⟩ := hd
          rw [d1] at hknd
          rw [d2] at htxt
          rw [d3] at hquo
          subst hknd hquo htxt
          go_wp2_with fail
          go_ret
          exact ⟨rfl, below_keep HB3.out (HLW.out.alloc _)⟩
        have hcase : ((knd : Int) == 1) = false ∨ ((knd : Int) = 1 ∧ (txt == [46]) = false) ∨ ((knd : Int) = 1 ∧ txt = [46] ∧ quo = true) := by
          by_cases e1 : knd = 1
          · by_cases e2 : txt = [46]
            · refine .inr (.inr ⟨by omega, e2, ?_⟩)
              cases quo with
              | true => rfl
              | false => exact absurd ⟨hknd.trans e1, htxt.trans e2, hquo⟩ hd
            · exact .inr (.inl ⟨by omega, beq_eq_false_iff_ne.2 e2⟩)
          · exact .inl (beq_eq_false_iff_ne.2 (by omega))
        have HREL := Lib.hid (show (∀ (j : Nat) t, j < k + 1 → xs[j]? = some t → ¬ dot t.tk) from fun j t hj hjt => by
          rcases Nat.lt_or_ge j k with h | h
          · exact HND.out j t h hjt
          · obtain rfl : j = k := by omega
            obtain rfl : x = t := Option.some.inj (HXK.out.symm.trans hjt)
            exact hd)
        clear hd htxt hknd hquo
        rcases hcase with e1 | ⟨e1, e2⟩ | ⟨e1, e2, e3⟩
        all_goals
          try subst e2
          try subst e3
          go_wp2_with fail
          go_roundw
          case rel => exact ⟨k + 1, by omega, by go_num, HREL.out, HLW.out.alloc _⟩
          case measure => simp [intOf]; omega
      · have hke : k = xs.length := by omega
        subst hke
        have HDD := Lib.hid (show ∀ t ∈ xs, ¬ dot t.tk from fun t ht => by
          obtain ⟨j, hj, he⟩ := List.mem_iff_getElem.1 ht
          exact HND.out j t hj (by rw [List.getElem?_eq_getElem hj, he]))
        have HLW := Lib.hid hL
        have HBW := Lib.hid (below_keep HB3.out hL)
        have HVW := Lib.hid (HV3.out.keep hL (fun _ _ => trivial))
        have HTXW := Lib.hid (HTX3.out.keep hL (fun _ _ _ => trivial))
        clear hL HND
        go_wp2_with fail
        rw [HFA.out]
        have hqb := places_bad HY.out
        have hq1 : (q : Int) ≤ 16000 := by omega
        have hcast : ((q + A.length + 1 : Nat) : Int) = (q : Int) + A.length + 1 := by omega
        have HTJ := Lib.hid (by have := tokens_v (A ++ 10 :: B) HVW.out; rwa [join_bad HX.out HDD.out HY.out hl] at this)
        refine HTJ.out.mono ?_
        rintro e w4 ⟨b4, rfl, hF4, hbs4, hb4⟩
        have hv4 := HVW.out.below hb4
        have hs4 := hb4.size
        have hsw := HLW.out.size
        have hF3 := (HF.out.keep HLW.out trivial).keep (Below.keeps hb4) (Nat.lt_of_lt_of_le (Blk.lt HF.out) hsw)
        have HC4 := Lib.hid (code_at hF4 hv4)
        have HV4 := Lib.hid hv4
        have HF4 := Lib.hid hF4
        have HF3 := Lib.hid hF3
        have HB4 := Lib.hid (below_next HBW.out hb4)
        clear hF4 hbs4 hb4 hv4 hF3 HTJ
        unfold faultV at *
        go_wp2_with fail
        refine HC4.out.mono ?_
        rintro e w5 ⟨rfl, hb5⟩
        have hv5 := HV4.out.below hb5
        have HF4' := Lib.hid (HF4.out.keep (Below.keeps hb5) (Blk.lt HF4.out))
        have HF3' := Lib.hid (HF3.out.keep (Below.keeps hb5) (Blk.lt HF3.out))
        have HC5 := Lib.hid (code_at HF3'.out hv5)
        have HV5 := Lib.hid hv5
        have HB5 := Lib.hid (below_next HB4.out hb5)
        clear hb5 hv5 HC4
        unfold faultV at *
        go_wp2_with fail
        refine HC5.out.mono ?_
        rintro e w6 ⟨rfl, hb6⟩
        have hv6 := HV5.out.below hb6
        have HF4'' := Lib.hid (HF4'.out.keep (Below.keeps hb6) (Blk.lt HF4'.out))
        have HF3'' := Lib.hid (HF3'.out.keep (Below.keeps hb6) (Blk.lt HF3'.out))
        have HC6 := Lib.hid (at_at HF4''.out hv6)
        have HV6 := Lib.hid hv6
        have HB6 := Lib.hid (below_next HB5.out hb6)
        clear hb6 hv6 HC5
        unfold faultV at *
        go_wp2_with fail
        refine HC6.out.mono ?_
        rintro e w7 ⟨rfl, hb7⟩
        have hv7 := HV6.out.below hb7
        have HF3x := Lib.hid (HF3''.out.keep (Below.keeps hb7) (Blk.lt HF3''.out))
        have HC7 := Lib.hid (at_at HF3x.out hv7)
        have HB7 := Lib.hid (below_next HB6.out hb7)
        clear hb7 hv7 HC6
        unfold faultV at *
        go_wp2_with fail
        refine HC7.out.mono ?_
        rintro e w8 ⟨rfl, hb8⟩
        have HB8 := Lib.hid (below_next HB7.out hb8)
        clear hb8 HC7
        go_wp2_with fail
        go_ret
        exact ⟨rfl, HB8.out⟩
  · rw [hy] at htb
    have HTB2 := Lib.hid htb
    have hcy := tokens_count hy
    have HY := Lib.hid hy
    clear htb hy
    refine HTB2.out.mono ?_
    rintro e w3 ⟨vy, rfl, hty, hb3⟩
    obtain ⟨ay, cy, rfl⟩ := hty.is
    have HTY := Lib.hid hty
    have HV3 := Lib.hid (HV2.out.below hb3)
    have HB3 := Lib.hid (below_next HB2.out hb3)
    have HTX3 := Lib.hid (HTX.out.keep (Below.keeps hb3) (fun g _ hg => hg))
    clear hty hb3 HTB2 HTX
    go_wp2_with fail
    go_loopw [36] (fun i wr => ∃ k : Nat, k ≤ xs.length ∧ i = .int .i64 k ∧ (∀ (j : Nat) t, j < k → xs[j]? = some t → ¬ dot t.tk) ∧ Keep (fun _ => True) w3 wr) (fun i _ => xs.length - (intOf i).toNat)
    case atStart => exact ⟨0, by omega, rfl, fun j t h => absurd h (Nat.not_lt_zero _), Keep.refl _ _⟩
    case round =>
      obtain ⟨k, hk, rfl, hnd, hL⟩ := hrel
      have HND := Lib.hid hnd
      clear hnd
      by_cases hlt : k < xs.length
      · obtain ⟨x, hxk⟩ : ∃ x, xs[k]? = some x := ⟨_, List.getElem?_eq_getElem hlt⟩
        obtain ⟨ad, cp, he, hc⟩ := HTX3.out.sl
        obtain ⟨g, o, hao, _, hg, ht⟩ := hc k x hxk
        obtain rfl : ax = some ⟨g, o, none⟩ := by cases he; exact hao
        have h1 := ht.keep hL hg trivial
        have hs := hL.size
        have HLW := Lib.hid hL
        obtain ⟨c0, c1, c2, c3, c4, c5⟩ := h1
        have hsl := str_list x.tk.text
        have h46 := list46
        have HXK := Lib.hid hxk
        clear hL ht hc he hxk
        generalize str x.tk.text = s1 at *
        obtain ⟨txt, htxt⟩ : ∃ txt, x.tk.text = txt := ⟨_, rfl⟩
        obtain ⟨quo, hquo⟩ : ∃ quo, x.tk.quoted = quo := ⟨_, rfl⟩
        obtain ⟨knd, hknd⟩ : ∃ knd, x.tk.kind = knd := ⟨_, rfl⟩
        rw [htxt] at hsl
        rw [hquo] at c4
        rw [hknd] at c0
        generalize x.tk.int = n2 at *
        by_cases hd : dot x.tk
        · obtain ⟨d1, d2, d3⟩ := hd
          rw [d1] at hknd
          rw [d2] at htxt
          rw [d3] at hquo
          subst hknd hquo htxt
          go_wp2_with fail
          go_ret
          exact ⟨rfl, below_keep HB3.out (HLW.out.alloc _)⟩
        have hcase : ((knd : Int) == 1) = false ∨ ((knd : Int) = 1 ∧ (txt == [46]) = false) ∨ ((knd : Int) = 1 ∧ txt = [46] ∧ quo = true) := by
          by_cases e1 : knd = 1
          · by_cases e2 : txt = [46]
            · refine .inr (.inr ⟨by omega, e2, ?_⟩)
              cases quo with
              | true => rfl
              | false => exact absurd ⟨hknd.trans e1, htxt.trans e2, hquo⟩ hd
            · exact .inr (.inl ⟨by omega, beq_eq_false_iff_ne.2 e2⟩)
          · exact .inl (beq_eq_false_iff_ne.2 (by omega))
        have HREL := Lib.hid (show (∀ (j : Nat) t, j < k + 1 → xs[j]? = some t → ¬ dot t.tk) from fun j t hj hjt => by
          rcases Nat.lt_or_ge j k with h | h
          · exact HND.out j t h hjt
          · obtain rfl : j = k := by omega
            obtain rfl : x = t := Option.some.inj (HXK.out.symm.trans hjt)
            exact hd)
        clear hd htxt hknd hquo
        rcases hcase with e1 | ⟨e1, e2⟩ | ⟨e1, e2, e3⟩
        all_goals
          try subst e2
          try subst e3
          go_wp2_with fail
          go_roundw
          case rel => exact ⟨k + 1, by omega, by go_num, HREL.out, HLW.out.alloc _⟩
          case measure => simp [intOf]; omega
      · have hke : k = xs.length := by omega
        subst hke
        have HDD := Lib.hid (show ∀ t ∈ xs, ¬ dot t.tk from fun t ht => by
          obtain ⟨j, hj, he⟩ := List.mem_iff_getElem.1 ht
          exact HND.out j t hj (by rw [List.getElem?_eq_getElem hj, he]))
        have HLW := Lib.hid hL
        have HBW := Lib.hid (below_keep HB3.out hL)
        have HVW := Lib.hid (HV3.out.keep hL (fun _ _ => trivial))
        have HTXW := Lib.hid (HTX3.out.keep hL (fun _ _ _ => trivial))
        clear hL HND
        go_wp2_with fail
        rw [HFA.out]
        obtain ⟨k5, q5, hj⟩ := join_good HX.out HDD.out HY.out hl
        have HTJ := Lib.hid (by have := tokens_v (A ++ 10 :: B) HVW.out; rwa [hj] at this)
        have HJ := Lib.hid hj
        clear hj
        refine HTJ.out.mono ?_
        rintro e w4 ⟨v4, rfl, htz, hb4⟩
        have hlz : (xs ++ ys.map fun t => (⟨t.tk, A.length + 1 + t.pos, t.apart⟩ : Tok)).length = xs.length + ys.length := by simp
        have hxy : (xs ++ ys.map fun t => (⟨t.tk, A.length + 1 + t.pos, t.apart⟩ : Tok)).map Tok.tk = (xs ++ ys).map Tok.tk := by simp [Function.comp_def]
        have HZ := Lib.hid (show ∀ (i : Nat) y, ys[i]? = some y → (xs ++ ys.map fun t => (⟨t.tk, A.length + 1 + t.pos, t.apart⟩ : Tok))[xs.length + i]? = some ⟨y.tk, A.length + 1 + y.pos, y.apart⟩ from fun i y hi => by
          rw [List.getElem?_append_right (by omega), Nat.add_sub_cancel_left, List.getElem?_map, hi]; rfl)
        have HXYZ := Lib.hid hxy
        generalize hzs : (xs ++ ys.map fun t => (⟨t.tk, A.length + 1 + t.pos, t.apart⟩ : Tok)) = zs at *
        have hs4 := hb4.size
        have hsw := HLW.out.size
        have HTX4 := Lib.hid (HTXW.out.keep (Below.keeps hb4) (fun g _ hg => hg))
        have HTY4 := Lib.hid ((HTY.out.keep HLW.out (fun _ _ _ => trivial)).keep (Below.keeps hb4) (fun g _ hg => hg))
        have HTZ4 := Lib.hid htz
        have HB4 := Lib.hid (below_next HBW.out hb4)
        obtain ⟨az, cz, rfl⟩ := htz.is
        clear hb4 htz HTJ hzs hxy
        rw [hlz]
        go_wp2_with fail
        go_loopw [99] (fun i wr2 => ∃ k : Nat, k ≤ ys.length ∧ i = .int .i64 k ∧ Keep (fun _ => True) w4 wr2) (fun i _ => ys.length - (intOf i).toNat)
        case atStart => exact ⟨0, by omega, rfl, Keep.refl _ _⟩
        case round =>
          obtain ⟨k, hk, rfl, hL⟩ := hrel
          by_cases hlt : k < ys.length
          · obtain ⟨y, hyk⟩ : ∃ y, ys[k]? = some y := ⟨_, List.getElem?_eq_getElem hlt⟩
            obtain ⟨ad, cp, he, hc⟩ := HTY4.out.sl
            obtain ⟨g, o, hao, _, hg, ht⟩ := hc k y hyk
            obtain rfl : ay = some ⟨g, o, none⟩ := by cases he; exact hao
            obtain ⟨adz, cpz, hez, hcz⟩ := HTZ4.out.sl
            obtain ⟨gz, oz, haz, _, hgz, htz⟩ := hcz (xs.length + k) _ (HZ.out k y hyk)
            obtain rfl : az = some ⟨gz, oz, none⟩ := by cases hez; exact haz
            have h3 := (ht.keep hL hg trivial).c3
            have h4 := (htz.keep hL hgz trivial).c3
            have hsw2 := hL.size
            obtain ⟨y', hpl⟩ := places_plain HY.out k hlt
            have hyp : y.pos < B.length := by have := hpl.lt; rwa [← hpl.at_, getD_of hyk] at this
            have hcast : ((A.length + 1 + y.pos : Nat) : Int) = (y.pos : Int) + A.length + 1 := by omega
            simp only [hcast] at h4
            have hn1 : (-9223372036854775808 : Int) ≤ (xs.length : Int) + k ∧ (xs.length : Int) + k ≤ 9223372036854775807 := by omega
            have hn2 : (-9223372036854775808 : Int) ≤ (y.pos : Int) + A.length ∧ (y.pos : Int) + A.length ≤ 9223372036854775807 := by omega
            have hn3 : (-9223372036854775808 : Int) ≤ (y.pos : Int) + A.length + 1 ∧ (y.pos : Int) + A.length + 1 ≤ 9223372036854775807 := by omega
            have htn : ((xs.length : Int) + (k : Int)).toNat = xs.length + k := by omega
            have hxl : (xs.length : Int) + (k : Int) < (xs.length : Int) + (ys.length : Int) := by omega
            have hx0 : 0 ≤ (xs.length : Int) + (k : Int) := by omega
            have hw1 := i64_in hn1
            have hw2 := i64_in hn2
            have hw3 := i64_in hn3
            have HLW2 := Lib.hid hL
            clear hn1 hn2 hn3 hL ht hc he htz hcz hez hyk hpl
            go_wp2_with fail
            refine wp_region_still_lit (by kernel_rfl) (by kernel_rfl) ?_
            repeat still_step
            refine wpStill_nil ?_
            have hww : ({ wr with drawn := wr.drawn + 1 } : World) = wr.drew := rfl
            rw [hww]
            clear hww hw1 hw2 hw3
            have HLW3 := Lib.hid HLW2.out.drew
            go_wp2_with fail
            go_roundw
            case rel => exact ⟨k + 1, by omega, by go_num, HLW3.out⟩
            case measure => simp [intOf]; omega
          · have hke : k = ys.length := by omega
            subst hke
            have HLW2 := Lib.hid hL
            clear hL
            have HTX5 := Lib.hid (HTX4.out.keep HLW2.out (fun _ _ _ => trivial))
            have HTY5 := Lib.hid (HTY4.out.keep HLW2.out (fun _ _ _ => trivial))
            have HTZ5 := Lib.hid (HTZ4.out.keep HLW2.out (fun _ _ _ => trivial))
            have HB5 := Lib.hid (below_keep HB4.out HLW2.out)
            obtain ⟨i0, hi0, hz0, hz1, hz2⟩ := info_parts infoTok
            have hown0 : (wr.alloc (.cells #[] 33)).ownsRow wr.heap.size 33 6 (.slice (some ⟨wr.heap.size, 0, none⟩) 0 0) 0 [] :=
              ⟨rfl, .inr ⟨_, 0, #[], rfl, Nat.le_refl _, Blk.new wr _ _, Nat.le_refl _, Nat.zero_le _, rfl, rfl⟩⟩
            have HOWN0 := Lib.hid hown0
            have n1 := World.ownsRow.alloc HTX5.out (.cells #[] 33)
            have N1 := Lib.hid (ToksAt.news n1)
            have HKA := Lib.hid ((Keep.refl (fun _ => True) wr).alloc (.cells #[] 33))
            clear hown0 n1
            go_wp2_with (at_builtin; first
              | (refine wpList_append_own_opt _ rfl _ _ 26 rfl wr.heap.size 33 i0 noTk 6 48 Tryz.underlying26 hi0 hz0 hz1 hz2 rfl (by decide) _ _ _ rfl HOWN0.out ax xs.length cx (cellsOfToks xs) rfl N1.out.1 (cellsOfToks_length xs) N1.out.2.2 (tokCells_one xs) (by unfold maxLen; omega) (by omega) (by simp) ?_
                 intro v5 w5 hown5 hgrow5
                 have hk5 := grown_keepS HOWN0.out hgrow5
                 have HOWN5 := Lib.hid hown5
                 have HK5 := Lib.hid (HKA.out.less (Y := (· < wr.heap.size)) (fun _ _ => trivial) |>.trans hk5)
                 have N2 := Lib.hid (ToksAt.news (HTY5.out.keep HK5.out (fun g _ hg => hg)))
                 clear hown5 hgrow5 hk5)
              | (refine wpList_append_own_opt _ rfl _ _ 26 rfl wr.heap.size 33 i0 noTk 6 48 Tryz.underlying26 hi0 hz0 hz1 hz2 rfl (by decide) _ _ _ rfl HOWN5.out ay ys.length cy (cellsOfToks ys) rfl N2.out.1 (cellsOfToks_length ys) N2.out.2.2 (tokCells_one ys) (by unfold maxLen; omega) (by omega) (by have := HK5.out.size; omega) ?_
                 intro v6 w6 hown6 hgrow6
                 have hk6 := grown_keepS HOWN5.out hgrow6
                 have HOWN6 := Lib.hid hown6
                 have HK6 := Lib.hid (HK5.out.trans hk6)
                 clear hown6 hgrow6 hk6))
            have hrow6 : ToksAt w6 wr.heap.size v6 (xs ++ ys) := by
              have := HOWN6.out
              unfold ToksAt
              rw [List.length_append, cellsOfToks_app]
              simpa using this
            have hz6 := (HTZ5.out.keep HK6.out (fun g _ hg => hg)).sl
            rw [hlz] at hz6
            refine (like_any hz6 hrow6.sl HXYZ.out (by omega)).mono ?_
            rintro e w7 ⟨rfl, hk7⟩
            have HB7 := Lib.hid (show Below w.heap.size w w7 from ((Below.keeps HB5.out).trans ((HK6.out.less (fun k (hk : k < w.heap.size) => Nat.lt_of_lt_of_le hk HB5.out.size)).trans (hk7.less fun _ _ => trivial))).toBelow (fun _ h => h) (Nat.le_refl _))
            clear hk7 hz6 hrow6
            go_wp2_with fail
            go_ret
            exact ⟨rfl, HB7.out⟩
end Go.Proofs.YtjaaoljfkbbjpaaGreatDoor
