/-
  LexQuotes' walk: a name in quotes, with its quotes doubled and its backslashes escaped, is one token of that name. Conditions: the listed variables hold what the row says; the name has at most 1,048,576 bytes.
-/
import Derived.Test.YtjaaoljfkbbjpaaGreatDoorLx28
import Derived.Test.YtjaaoljfkbbjpaaGreatDoorLx11
import Derived.Test.YtjaaoljfkbbjpaaGreatDoorLx22
namespace Go.Proofs.YtjaaoljfkbbjpaaGreatDoor
open Go.RowKit Go.Shelf Go.Maps
set_option linter.unusedVariables false
set_option linter.unusedSimpArgs false

theorem escS_snoc (l : List UInt8) (c : UInt8) : escS (l ++ [c]) = escS l ++ escB c := by simp [escS]
theorem bare_is (l : List UInt8) : bareC l = bareL l := rfl
theorem str_getAt2 {L : List UInt8} {i : Nat} {c : UInt8} (h : L[i]? = some c) : ∃ hk : i < (str L).size, (str L)[i]'hk = c := by
  obtain ⟨hlt, hc⟩ := List.getElem?_eq_some_iff.1 h
  have hk : i < (str L).size := by rw [str_size]; exact hlt
  exact ⟨hk, (str_at (c := c) (r := L.drop (i + 1)) (by rw [List.drop_eq_getElem_cons hlt, hc])).2.2 _⟩
theorem cell_one (W : World) (z : Int) (r : Nat) (hr : r = W.heap.size) (j : Nat) (u : Value) (h : [Value.int .u8 z][j]? = some u) : (W.alloc (.cells #[.int .u8 z] 5)).cell? (Addr.add ⟨r, 0, none⟩ j) = some u := by
  subst hr
  have hb := (Blk.new W 5 #[.int .u8 z]).cell j
  have he : Addr.add ⟨W.heap.size, 0, none⟩ j = ⟨W.heap.size, j, none⟩ := by simp [Addr.add]; omega
  rw [he, hb]; simpa using h
/-- What the loop carries. -/
def QuR (N : List UInt8) (w1 : World) (k : Nat) (v : Value) (wr : World) : Prop :=
  (∀ c ∈ N.take k, okB c = true) ∧ wr.ownsRow w1.heap.size 5 1 v (39 :: escS (N.take k)).length ((39 :: escS (N.take k)).map byteV) ∧ Keep (· < w1.heap.size) w1 wr
theorem QuR.grow {N : List UInt8} {w1 wr w' : World} {v v' : Value} {acc : List UInt8} {c : UInt8} (hrow : wr.ownsRow w1.heap.size 5 1 v acc.length (acc.map byteV)) (hk : Keep (· < w1.heap.size) w1 wr)
    (hown : w'.ownsRow w1.heap.size 5 1 v' (acc.length + 1) (acc.map byteV ++ [byteV c])) (hg : (wr.alloc (.cells #[byteV c] 5)).grownBy w' v.ownBlock) :
    w'.ownsRow w1.heap.size 5 1 v' (acc ++ [c]).length ((acc ++ [c]).map byteV) ∧ Keep (· < w1.heap.size) w1 w' := by
  have h1 := grown_keep (hrow.alloc (.cells #[byteV c] 5)) hg
  exact ⟨by simpa using hown, (hk.alloc _).trans h1⟩
set_option maxRecDepth 1000000 in
set_option maxHeartbeats 16000000 in
theorem quotesLaw_any (N : List UInt8) {w : World} (hv : LxVars w) (hN : N.length ≤ 1048576) : Calls Tryz.prog 8 #[.string (str N)] w fun e w' => e = .returned (.bool true) ∧ Below w.heap.size w w' := by
  have HAL := Lib.hid (alive_any hv)
  have HV := Lib.hid hv
  have hsz := str_size N
  have HGA := Lib.hid (fun i c (h : N[i]? = some c) => str_getAt2 h)
  have HTN := Lib.hid (fun (W : World) (h : LxVars W) => tokens_v N h)
  have HBR := Lib.hid (fun (W : World) (h : LxVars W) => bare_any N h)
  have hsl := str_list N
  have HSN0 := Lib.hid (show str N = str N from rfl)
  obtain ⟨s, hs⟩ : ∃ s, str N = s := ⟨_, rfl⟩
  rw [hs] at HTN HBR hsz HGA hsl ⊢
  have HSN := Lib.hid hs
  clear hv hs HSN0
  obtain ⟨i0, hi0, hz0, hz1, hz2⟩ := info_parts infoU8
  go_enter Tryz.func8, Tryz.ntmps8
  go_wp2_with fail
  refine HAL.out.mono ?_
  rintro e w1 ⟨rfl, hb1⟩
  have HV1 := Lib.hid (HV.out.below hb1)
  have HB1 := Lib.hid hb1
  have hb0 := Blk.new w1 5 #[.int .u8 39]
  have HR0 : Hid (QuR N w1 0 (.slice (some ⟨w1.heap.size, 0, none⟩) 1 1) (w1.alloc (.cells #[.int .u8 39] 5))) :=
    Lib.hid ⟨by simp, ⟨rfl, .inr ⟨_, 1, _, rfl, Nat.le_refl _, hb0, Nat.le_refl _, by unfold maxLen; omega, rfl, rfl⟩⟩, (Keep.refl _ w1).alloc _⟩
  clear hb1 hb0 HAL
  go_wp2_with fail
  go_loopw [3, 4] (fun v i wr => ∃ k : Nat, k ≤ N.length ∧ i = .int .i64 k ∧ QuR N w1 k v wr) (fun v i _ => N.length - (intOf i).toNat)
  case atStart => exact ⟨0, by omega, rfl, HR0.out⟩
  case round =>
    clear HR0
    obtain ⟨k, hk, rfl, hok, hrow, hK⟩ := hrel
    have HOK := Lib.hid hok
    have HROW := Lib.hid hrow
    have HK := Lib.hid hK
    have hel := escS_length (N.take k)
    rw [List.length_take] at hel
    have hel2 : (escS (N.take k)).length ≤ 2097152 := by omega
    clear hok hrow hK hel
    by_cases hlt : k < N.length
    · obtain ⟨c, hkc⟩ : ∃ c, N[k]? = some c := ⟨_, List.getElem?_eq_getElem hlt⟩
      obtain ⟨hks, hsk⟩ := HGA.out k c hkc
      have htk : N.take (k + 1) = N.take k ++ [c] := by rw [List.take_add_one, hkc]; rfl
      have hokc : okB c = (decide ((32 : Int) ≤ c.toNat) && decide ((c.toNat : Int) ≤ 126)) := of_all256 (f := okB) (g := fun c => decide ((32 : Int) ≤ c.toNat) && decide ((c.toNat : Int) ≤ 126)) (by decide +kernel) c
      clear hkc
      by_cases hm : (32 : Int) ≤ c.toNat ∧ (c.toNat : Int) ≤ 126
      · obtain ⟨hm1, hm2⟩ := hm
        have HOK1 := Lib.hid (show ∀ d ∈ N.take (k + 1), okB d = true from fun d hd => by
          rw [htk] at hd
          rcases List.mem_append.1 hd with h | h
          · exact HOK.out d h
          · rw [List.mem_singleton.1 h, hokc]; simp [hm1, hm2])
        by_cases h9 : c = 39
        · subst h9
          simp only [show (((39 : UInt8).toNat : Nat) : Int) = 39 from rfl] at *
          have hesc : escB 39 = [39, 39] := rfl
          have hstep : 39 :: escS (N.take (k + 1)) = (39 :: escS (N.take k)) ++ [39] ++ [39] := by rw [htk, escS_snoc, hesc]; simp
          have HST := Lib.hid hstep
          clear hstep hesc htk hm1 hm2 hokc
          go_wp2_with (at_builtin; first
            | (refine wpList_append_own _ rfl _ _ 38 rfl w1.heap.size 5 i0 (.int .u8 0) 1 1 Tryz.underlying38 hi0 hz0 hz1 hz2 rfl (by decide) _ _ _ rfl (World.ownsRow.alloc HROW.out _) ⟨wr.heap.size, 0, none⟩ 1 1 [.int .u8 39] rfl rfl (cell_one wr 39 _ rfl) (by simp [Value.oneCell']) (by unfold maxLen; simp; omega) (by simp; omega) (by have := HK.out.size; simp; omega) ?_; intro v4 w4 hown4 hgrow4 _; obtain ⟨hr4, hk4⟩ := QuR.grow (N := N) (c := 39) HROW.out HK.out hown4 hgrow4; have HR4 := Lib.hid hr4; have HK4 := Lib.hid hk4; clear hown4 hgrow4 hr4 hk4)
            | (refine wpList_append_own _ rfl _ _ 38 rfl w1.heap.size 5 i0 (.int .u8 0) 1 1 Tryz.underlying38 hi0 hz0 hz1 hz2 rfl (by decide) _ _ _ rfl (World.ownsRow.alloc HR4.out _) ⟨w4.heap.size, 0, none⟩ 1 1 [.int .u8 39] rfl rfl (cell_one w4 39 _ rfl) (by simp [Value.oneCell']) (by unfold maxLen; simp; omega) (by simp; omega) (by have := HK4.out.size; simp; omega) ?_; intro v5 w5 hown5 hgrow5 _; obtain ⟨hr5, hk5⟩ := QuR.grow (N := N) (c := 39) HR4.out HK4.out hown5 hgrow5; have HR5 := Lib.hid hr5; have HK5 := Lib.hid hk5; clear hown5 hgrow5 hr5 hk5))
          go_roundw
          case rel => exact ⟨k + 1, by omega, by go_num, HOK1.out, by rw [HST.out]; exact HR5.out, HK5.out⟩
          case measure => simp [intOf]; omega
        by_cases h92 : c = 92
        · have h9 := h92
          clear h92
          subst h9
          simp only [show (((92 : UInt8).toNat : Nat) : Int) = 92 from rfl] at *
          have hesc : escB 92 = [92, 92] := rfl
          have hstep : 39 :: escS (N.take (k + 1)) = (39 :: escS (N.take k)) ++ [92] ++ [92] := by rw [htk, escS_snoc, hesc]; simp
          have HST := Lib.hid hstep
          clear hstep hesc htk hm1 hm2 hokc
          go_wp2_with (at_builtin; first
            | (refine wpList_append_own _ rfl _ _ 38 rfl w1.heap.size 5 i0 (.int .u8 0) 1 1 Tryz.underlying38 hi0 hz0 hz1 hz2 rfl (by decide) _ _ _ rfl (World.ownsRow.alloc HROW.out _) ⟨wr.heap.size, 0, none⟩ 1 1 [.int .u8 92] rfl rfl (cell_one wr 92 _ rfl) (by simp [Value.oneCell']) (by unfold maxLen; simp; omega) (by simp; omega) (by have := HK.out.size; simp; omega) ?_; intro v4 w4 hown4 hgrow4 _; obtain ⟨hr4, hk4⟩ := QuR.grow (N := N) (c := 92) HROW.out HK.out hown4 hgrow4; have HR4 := Lib.hid hr4; have HK4 := Lib.hid hk4; clear hown4 hgrow4 hr4 hk4)
            | (refine wpList_append_own _ rfl _ _ 38 rfl w1.heap.size 5 i0 (.int .u8 0) 1 1 Tryz.underlying38 hi0 hz0 hz1 hz2 rfl (by decide) _ _ _ rfl (World.ownsRow.alloc HR4.out _) ⟨w4.heap.size, 0, none⟩ 1 1 [.int .u8 92] rfl rfl (cell_one w4 92 _ rfl) (by simp [Value.oneCell']) (by unfold maxLen; simp; omega) (by simp; omega) (by have := HK4.out.size; simp; omega) ?_; intro v5 w5 hown5 hgrow5 _; obtain ⟨hr5, hk5⟩ := QuR.grow (N := N) (c := 92) HR4.out HK4.out hown5 hgrow5; have HR5 := Lib.hid hr5; have HK5 := Lib.hid hk5; clear hown5 hgrow5 hr5 hk5))
          go_roundw
          case rel => exact ⟨k + 1, by omega, by go_num, HOK1.out, by rw [HST.out]; exact HR5.out, HK5.out⟩
          case measure => simp [intOf]; omega
        have hesc : escB c = [c] := by simp [escB, h9, h92]
        have hstep : 39 :: escS (N.take (k + 1)) = (39 :: escS (N.take k)) ++ [c] := by rw [htk, escS_snoc, hesc]; simp
        have HST := Lib.hid hstep
        have e1 : ((c.toNat : Int) == 39) = false := beq_eq_false_iff_ne.2 (fun h => h9 (UInt8.toNat_inj.1 (by have : (39 : UInt8).toNat = 39 := rfl; omega)))
        have e2 : ((c.toNat : Int) == 92) = false := beq_eq_false_iff_ne.2 (fun h => h92 (UInt8.toNat_inj.1 (by have : (92 : UInt8).toNat = 92 := rfl; omega)))
        have e3 : decide ((c.toNat : Int) < 32) = false := decide_eq_false (by omega)
        have e4 : decide ((126 : Int) < (c.toNat : Int)) = false := decide_eq_false (by omega)
        clear hstep hesc htk hokc h9 h92
        go_wp2_with (at_builtin; (refine wpList_append_own _ rfl _ _ 38 rfl w1.heap.size 5 i0 (.int .u8 0) 1 1 Tryz.underlying38 hi0 hz0 hz1 hz2 rfl (by decide) _ _ _ rfl (World.ownsRow.alloc HROW.out _) ⟨wr.heap.size, 0, none⟩ 1 1 [.int .u8 (c.toNat : Int)] rfl rfl (cell_one wr (c.toNat : Int) _ rfl) (by simp [Value.oneCell']) (by unfold maxLen; simp; omega) (by simp; omega) (by have := HK.out.size; simp; omega) ?_; intro v4 w4 hown4 hgrow4 _; obtain ⟨hr4, hk4⟩ := QuR.grow (N := N) (c := c) HROW.out HK.out hown4 hgrow4; have HR4 := Lib.hid hr4; have HK4 := Lib.hid hk4; clear hown4 hgrow4 hr4 hk4))
        go_roundw
        case rel => exact ⟨k + 1, by omega, by go_num, HOK1.out, by rw [HST.out]; exact HR4.out, HK4.out⟩
        case measure => simp [intOf]; omega
      · have hm' : (c.toNat : Int) < 32 ∨ (32 ≤ (c.toNat : Int) ∧ 126 < (c.toNat : Int)) := by omega
        have HBX := Lib.hid (show Below w.heap.size w wr from ((Below.keeps HB1.out).trans (HK.out.less fun k (hk : k < w.heap.size) => Nat.lt_of_lt_of_le hk HB1.out.size)).toBelow (fun _ h => h) (Nat.le_refl _))
        clear htk hokc hm
        rcases hm' with hm' | ⟨hm', hm2⟩
        all_goals
          go_wp2_with fail
          go_ret
          exact ⟨rfl, HBX.out⟩
    · have hke : k = N.length := by omega
      subst hke
      have HOKN := Lib.hid (show ∀ c ∈ N, okB c = true from fun c hc => HOK.out c (by rw [List.take_length]; exact hc))
      rw [List.take_length] at HROW hel2
      have hQ : (39 :: escS N) ++ [39] = quoS N := rfl
      have HSQ0 := Lib.hid (show str ((39 :: escS N) ++ [39]) = str (quoS N) by rw [hQ])
      have zq := str_size (quoS N)
      have zl : (quoS N).length = (escS N).length + 2 := by simp [quoS]
      have a1 : str (quoS N) ++ (⟨#[32, 120, 32]⟩ : ByteArray) = str (quoS N ++ [32, 120, 32]) := by apply ByteArray.ext; simp [str]
      have a2 : str (quoS N ++ [32, 120, 32]) ++ str (quoS N) = str (quoText N) := by apply ByteArray.ext; simp [str, quoText]
      have zq1 := str_size (quoS N ++ [32, 120, 32])
      rw [List.length_append, show ([32, 120, 32] : List UInt8).length = 3 from rfl] at zq1
      obtain ⟨ql, hql⟩ : ∃ ql, (quoS N).length = ql := ⟨_, rfl⟩
      have HQL := Lib.hid hql
      rw [hql] at zq zl zq1
      obtain ⟨sq, hsq⟩ : ∃ sq, str (quoS N) = sq := ⟨_, rfl⟩
      obtain ⟨sq1, hsq1⟩ : ∃ sq1, str (quoS N ++ [32, 120, 32]) = sq1 := ⟨_, rfl⟩
      obtain ⟨sqt, hsqt⟩ : ∃ sqt, str (quoText N) = sqt := ⟨_, rfl⟩
      have HSQ := Lib.hid (HSQ0.out.trans hsq)
      have HTQ := Lib.hid (fun (W : World) (h : LxVars W) => tokens_v (quoText N) h)
      rw [hsqt] at HTQ
      rw [hsq, hsq1] at a1
      rw [hsq1, hsq, hsqt] at a2
      rw [hsq] at zq
      rw [hsq1] at zq1
      clear hQ hql hsq hsq1 hsqt HSQ0 hlt
      have HBW := Lib.hid (show Keep (· < w.heap.size) w wr from (Below.keeps HB1.out).trans (HK.out.less fun k (hk : k < w.heap.size) => Nat.lt_of_lt_of_le hk HB1.out.size))
      go_wp2_with (at_builtin; (refine wpList_append_own _ rfl _ _ 38 rfl w1.heap.size 5 i0 (.int .u8 0) 1 1 Tryz.underlying38 hi0 hz0 hz1 hz2 rfl (by decide) _ _ _ rfl (World.ownsRow.alloc HROW.out _) ⟨wr.heap.size, 0, none⟩ 1 1 [.int .u8 39] rfl rfl (cell_one wr 39 _ rfl) (by simp [Value.oneCell']) (by unfold maxLen; simp; omega) (by simp; omega) (by have := HK.out.size; simp; omega) ?_; intro v4 w4 hown4 hgrow4 _; obtain ⟨hr4, hk4⟩ := QuR.grow (N := N) (c := 39) HROW.out HK.out hown4 hgrow4; have HR4 := Lib.hid hr4; have hcv := bytes_string hr4; rw [HSQ.out] at hcv; have HK4 := Lib.hid hk4; clear hown4 hgrow4 hr4 hk4))
      have HB4 := Lib.hid (show Below w.heap.size w w4 from ((Below.keeps HB1.out).trans (HK4.out.less fun k (hk : k < w.heap.size) => Nat.lt_of_lt_of_le hk HB1.out.size)).toBelow (fun _ h => h) (Nat.le_refl _))
      have HV4 := Lib.hid (HV1.out.keep HK4.out (fun _ h => h))
      have htq := HTQ.out _ HV4.out
      by_cases h64 : 64 < N.length
      · obtain ⟨p, hp⟩ := quotes_long HOKN.out h64
        rw [hp] at htq
        have HT := Lib.hid htq
        have h64' : decide ((64 : Int) < (N.length : Int)) = true := decide_eq_true (by omega)
        have h64'' : (64 : Int) < (N.length : Int) := by omega
        clear htq hp h64 hcv
        refine HT.out.mono ?_
        rintro e w5 ⟨b, rfl, hF, hbs, hb5⟩
        have HC := Lib.hid (code_at hF (HV4.out.below hb5))
        have HB5 := Lib.hid (below_next HB4.out hb5)
        clear hF hbs hb5
        unfold faultV at *
        go_wp2_with fail
        refine HC.out.mono ?_
        rintro e w6 ⟨rfl, hb6⟩
        have HB6 := Lib.hid (below_next HB5.out hb6)
        clear hb6
        go_wp2_with fail
        go_ret
        exact ⟨rfl, HB6.out⟩
      · obtain ⟨nn, hp⟩ := quotes_short HOKN.out (by omega)
        rw [hp] at htq
        have HT := Lib.hid htq
        have h64' : decide ((64 : Int) < (N.length : Int)) = false := decide_eq_false (by omega)
        have h64'' : ¬ (64 : Int) < (N.length : Int) := by omega
        clear htq hp h64 hcv
        refine HT.out.mono ?_
        rintro e w5 ⟨v5, rfl, hta, hb5⟩
        have HV5 := Lib.hid (HV4.out.below hb5)
        have HB5 := Lib.hid (below_next HB4.out hb5)
        obtain ⟨g5, c5, rfl, _, _, _, _, hc5⟩ := hta.cap (by simp)
        have t1 := (hc5 0 _ rfl).c1
        have t4 := (hc5 0 _ rfl).c4
        have u1 := (hc5 2 _ rfl).c1
        have u3 := (hc5 2 _ rfl).c3
        simp only [Nat.zero_mul, Nat.zero_add, Nat.reduceMul, Nat.reduceAdd, List.length_cons, List.length_nil] at t1 t4 u1 u3 ⊢
        rw [HSN.out] at t1 u1
        rw [HQL.out, show ((ql + 3 : Nat) : Int) = (ql : Int) + 3 by omega] at u3
        have HBARE := Lib.hid (HBR.out _ HV5.out)
        clear hta hc5 hb5
        go_wp2_with fail
        refine HBARE.out.mono ?_
        rintro e w6 ⟨rfl, hb6⟩
        have HV6 := Lib.hid (HV5.out.below hb6)
        have HB6 := Lib.hid (below_next HB5.out hb6)
        clear hb6
        rcases hbare : bareC N with _ | _
        · go_wp2_with fail
          go_ret
          exact ⟨rfl, HB6.out⟩
        · obtain ⟨t, n7, r7, ht7, hk7, hx7, hq7⟩ := bare_plain hbare
          have HT7 := Lib.hid (by have := HTN.out _ HV6.out; rwa [ht7] at this)
          clear ht7 hbare
          go_wp2_with fail
          refine HT7.out.mono ?_
          rintro e w7 ⟨v7, rfl, hta, hb7⟩
          have HB7 := Lib.hid (below_next HB6.out hb7)
          obtain ⟨g7, c7, rfl, _, _, _, _, hc7⟩ := hta.cap (by simp)
          have y1 := (hc7 0 _ rfl).c1
          have y4 := (hc7 0 _ rfl).c4
          rw [hx7, HSN.out] at y1
          rw [hq7] at y4
          simp only [Nat.zero_mul, Nat.zero_add, List.length_cons, List.length_nil] at y1 y4 ⊢
          clear hta hc7 hb7 hk7 hx7 hq7
          go_wp2_with fail
          go_ret
          exact ⟨rfl, HB7.out⟩
end Go.Proofs.YtjaaoljfkbbjpaaGreatDoor
