/-
  The document's tokens (pythiaref08): the number that a byte writes; a number. No condition.
-/
import Derived.Test.YtfkbbbjicaedmaaGreatDoorURx0
namespace Go.Proofs.YtfkbbbjicaedmaaGreatDoor
open Go.RowKit Go.Shelf Go.Maps
set_option linter.unusedVariables false
set_option linter.unusedSimpArgs false
def NumP (x : R Tk) (w : World) (e : Ending) (w' : World) : Prop := ∃ (n to c q : Int), e = .returned (.tuple #[.int .i64 n, .int .i64 to, .agg #[.int .i64 c, .int .i64 q]]) ∧ Keep (· < w.heap.size) w w' ∧
  match x with | .good t m _ => c = 0 ∧ q = 0 ∧ n = t.int ∧ to = m | .bad c' q' => c = c' ∧ q = q' ∧ c' ≠ 0
set_option maxRecDepth 1000000 in
set_option maxHeartbeats 8000000 in
theorem rCode_any (L : List UInt8) (a : Nat) (hl : L.length ≤ 16384) (ha : a + 2 ≤ L.length) (w : World) : Calls Tryz.prog 89 #[.string (str L), .int .i64 a] w (NumP (charL a (L.drop a)) w) := by
  have hs := str_size L
  have HGA := Lib.hid (fun k c r (h : L.drop k = c :: r) => str_getAt3 h)
  have HES := Lib.hid (fun k (hk : k < L.length) W => rEscape_any L k a hl hk W)
  obtain ⟨s, hsl⟩ : ∃ s, str L = s := ⟨_, rfl⟩
  rw [hsl] at hs HGA HES ⊢
  clear hsl
  have hX : charL a (L.drop a) = match inQ (L.drop (a + 2)) with
    | .byte c k => .good ⟨3, (L.drop a).take (2 + k), c.toNat, false⟩ (a + (2 + k)) ((L.drop a).drop (2 + k))
    | .close => if (L.drop a).length = 3 then .bad 81 a else .bad 80 (a + 2)
    | .over => .bad 81 a
    | .bad e => .bad e (a + 2) := by unfold charL; rw [List.drop_drop]; rfl
  obtain ⟨X, hX2⟩ : ∃ X, charL a (L.drop a) = X := ⟨_, rfl⟩
  rw [hX2] at hX ⊢
  have hla : (L.drop a).length = L.length - a := by simp
  rw [hla] at hX
  have HX := Lib.hid hX
  clear hX hX2 hla
  have hb := Blk.new w 71 #[.int .i64 0, .int .i64 0]
  have f0 := hb.cell 0
  have f1 := hb.cell 1
  have z0 := hb.frozen 0
  have z1 := hb.frozen 1
  simp at f0 f1
  have HB := Lib.hid hb
  have HK0 := Lib.hid ((Keep.refl (· < w.heap.size) w).alloc (.cells #[.int .i64 0, .int .i64 0] 71))
  clear hb
  go_enter Tryz.func89, Tryz.ntmps89
  rcases hd : L.drop (a + 2) with _ | ⟨c, r⟩
  · have h3 : L.length ≤ a + 2 := by simpa using hd
    have h4 : (L.length : Int) ≤ (a : Int) + 2 := by omega
    have HZ : Hid (X = .bad 81 a) := Lib.hid (by rw [HX.out, hd]; rfl)
    clear hd
    go_wp2_with fail
    refine bodyPost_ret (v := .tuple #[.int .i64 0, .int .i64 0, .agg #[.int .i64 81, .int .i64 a]]) (by simp [results, Tryz.results89, go_sem, f0, f1]) rfl ?_
    exact ⟨_, _, _, _, rfl, (Keep.refl _ w).alloc _, by rw [HZ.out]; simp⟩
  obtain ⟨h1, h2, hks, hsk⟩ := HGA.out (a + 2) c r hd
  have h4 : ¬ (L.length : Int) ≤ (a : Int) + 2 := by omega
  by_cases e92 : (c.toNat : Int) = 92
  · have e92' : ((c.toNat : Int) == 92) = true := by simpa using e92
    obtain rfl : c = 92 := UInt8.toNat_inj.1 (by have : (92 : UInt8).toNat = 92 := rfl; omega)
    simp only [show (((92 : UInt8).toNat : Nat) : Int) = 92 from rfl] at *
    have hes := fun W => HES.out (a + 2) h1 W
    rw [h2, show (((a + 2 : Nat)) : Int) = (a : Int) + 2 by omega] at hes
    have hiq : inQ (92 :: r) = escL r := rfl
    rcases hq : escL r with ⟨x, n⟩ | _ | _ | e
    · obtain rfl := escL_two hq
      rw [hq] at hes hiq
      have HES2 := Lib.hid hes
      have HZ : Hid (X = .good ⟨3, (L.drop a).take (2 + 2), x.toNat, false⟩ (a + (2 + 2)) ((L.drop a).drop (2 + 2))) := Lib.hid (by rw [HX.out, hd, hiq])
      clear hes hd h2 e92 hiq hq
      go_wp2_with fail
      refine (HES2.out _).mono ?_
      rintro e w2 ⟨rfl, hk2'⟩
      have HK2 := Lib.hid (HK0.out.trans (hk2'.less fun i (hi : i < w.heap.size) => by simp; omega))
      have hblk2 := HB.out.keep hk2' (by simp)
      have HBL2 := Lib.hid hblk2
      have g0 := hblk2.cell 0
      have g1 := hblk2.cell 1
      have y0 := hblk2.frozen 0
      have y1 := hblk2.frozen 1
      have hpr2 := hblk2.lt
      simp at g0 g1
      clear hk2' hblk2 f0 f1 z0 z1
      unfold EsR byteV
      go_wp2_with fail
      go_region
      go_wp2_with fail
      have qq := (Blk.alloc (Blk.set_ (Blk.set_ HBL2.out 0 (.int .i64 0)) 1 (.int .i64 0)) (.cells #[.int .i64 0, .int .i64 0] 71))
      have q0 := qq.cell 0
      have q1 := qq.cell 1
      simp at q0 q1
      have hwx : wrap64 (x.toNat : Int) = x.toNat := by have := x.toNat_lt; unfold wrap64; omega
      refine bodyPost_ret (v := .tuple #[.int .i64 (x.toNat : Int), .int .i64 ((a : Int) + 2 + 2), .agg #[.int .i64 0, .int .i64 0]]) (by simp [results, Tryz.results89, go_sem, q0, q1, hwx]) rfl ?_
      exact ⟨_, _, _, _, rfl, (((HK2.out.setCell (by simp) _).setCell (by simp) _).alloc _).drew, by rw [HZ.out]; simp <;> (try omega)⟩
    · exact absurd hq escL_close
    · rw [hq] at hes hiq
      have HES2 := Lib.hid hes
      have HZ : Hid (X = .bad 81 a) := Lib.hid (by rw [HX.out, hd, hiq])
      clear hes hd h2 e92 hiq hq
      go_wp2_with fail
      refine (HES2.out _).mono ?_
      rintro e w2 ⟨rfl, hk2'⟩
      have HK2 := Lib.hid (HK0.out.trans (hk2'.less fun i (hi : i < w.heap.size) => by simp; omega))
      have hblk2 := HB.out.keep hk2' (by simp)
      have HBL2 := Lib.hid hblk2
      have g0 := hblk2.cell 0
      have g1 := hblk2.cell 1
      have y0 := hblk2.frozen 0
      have y1 := hblk2.frozen 1
      have hpr2 := hblk2.lt
      simp at g0 g1
      clear hk2' hblk2 f0 f1 z0 z1
      unfold EsR byteV
      go_wp2_with fail
      go_region
      go_wp2_with fail
      have qq := (Blk.alloc (Blk.set_ (Blk.set_ HBL2.out 0 (.int .i64 81)) 1 (.int .i64 a)) (.cells #[.int .i64 81, .int .i64 a] 71))
      have q0 := qq.cell 0
      have q1 := qq.cell 1
      simp at q0 q1
      have hwx : wrap64 0 = 0 := by unfold wrap64; omega
      refine bodyPost_ret (v := .tuple #[.int .i64 0, .int .i64 ((a : Int) + 2 + 2), .agg #[.int .i64 81, .int .i64 a]]) (by simp [results, Tryz.results89, go_sem, q0, q1, hwx]) rfl ?_
      exact ⟨_, _, _, _, rfl, (((HK2.out.setCell (by simp) _).setCell (by simp) _).alloc _).drew, by rw [HZ.out]; simp <;> (try omega)⟩
    · obtain rfl := escL_bad hq
      rw [hq] at hes hiq
      have HES2 := Lib.hid hes
      have HZ : Hid (X = .bad 82 (a + 2)) := Lib.hid (by rw [HX.out, hd, hiq])
      clear hes hd h2 e92 hiq hq
      go_wp2_with fail
      refine (HES2.out _).mono ?_
      rintro e w2 ⟨rfl, hk2'⟩
      have HK2 := Lib.hid (HK0.out.trans (hk2'.less fun i (hi : i < w.heap.size) => by simp; omega))
      have hblk2 := HB.out.keep hk2' (by simp)
      have HBL2 := Lib.hid hblk2
      have g0 := hblk2.cell 0
      have g1 := hblk2.cell 1
      have y0 := hblk2.frozen 0
      have y1 := hblk2.frozen 1
      have hpr2 := hblk2.lt
      simp at g0 g1
      clear hk2' hblk2 f0 f1 z0 z1
      unfold EsR byteV
      go_wp2_with fail
      go_region
      go_wp2_with fail
      have qq := (Blk.alloc (Blk.set_ (Blk.set_ HBL2.out 0 (.int .i64 82)) 1 (.int .i64 ((a : Int) + 2))) (.cells #[.int .i64 82, .int .i64 ((a : Int) + 2)] 71))
      have q0 := qq.cell 0
      have q1 := qq.cell 1
      simp at q0 q1
      have hwx : wrap64 0 = 0 := by unfold wrap64; omega
      refine bodyPost_ret (v := .tuple #[.int .i64 0, .int .i64 ((a : Int) + 2 + 2), .agg #[.int .i64 82, .int .i64 ((a : Int) + 2)]]) (by simp [results, Tryz.results89, go_sem, q0, q1, hwx]) rfl ?_
      exact ⟨_, _, _, _, rfl, (((HK2.out.setCell (by simp) _).setCell (by simp) _).alloc _).drew, by rw [HZ.out]; simp <;> (try omega)⟩
  have e92' : ((c.toNat : Int) == 92) = false := by simpa using e92
  by_cases e39 : (c.toNat : Int) = 39
  · have e39' : ((c.toNat : Int) == 39) = true := by simpa using e39
    obtain rfl : c = 39 := UInt8.toNat_inj.1 (by have : (39 : UInt8).toNat = 39 := rfl; omega)
    simp only [show (((39 : UInt8).toNat : Nat) : Int) = 39 from rfl] at *
    rcases r with _ | ⟨d, q⟩
    · have h3 : L.length ≤ a + 2 + 1 := by simpa using h2
      have h5 : (L.length : Int) ≤ (a : Int) + 2 + 1 := by omega
      have HZ : Hid (X = .bad 81 a) := Lib.hid (by rw [HX.out, hd]; simp [inQ]; omega)
      clear hd h2 e39 e92
      go_wp2_with fail
      refine bodyPost_ret (v := .tuple #[.int .i64 0, .int .i64 0, .agg #[.int .i64 81, .int .i64 a]]) (by simp [results, Tryz.results89, go_sem, f0, f1]) rfl ?_
      exact ⟨_, _, _, _, rfl, (Keep.refl _ w).alloc _, by rw [HZ.out]; simp⟩
    · obtain ⟨h3, h6, hks2, hsk2⟩ := HGA.out (a + 2 + 1) d q h2
      have h5 : ¬ (L.length : Int) ≤ (a : Int) + 2 + 1 := by omega
      by_cases d39 : (d.toNat : Int) = 39
      · have d39' : ((d.toNat : Int) == 39) = true := by simpa using d39
        obtain rfl : d = 39 := UInt8.toNat_inj.1 (by have : (39 : UInt8).toNat = 39 := rfl; omega)
        have HZ : Hid (X = .good ⟨3, (L.drop a).take (2 + 2), 39, false⟩ (a + (2 + 2)) ((L.drop a).drop (2 + 2))) := Lib.hid (by rw [HX.out, hd]; rfl)
        clear hd h2 e39 e92 d39 h6
        go_wp2_with fail
        refine bodyPost_ret (v := .tuple #[.int .i64 39, .int .i64 ((a : Int) + 2 + 2), .agg #[.int .i64 0, .int .i64 0]]) (by simp [results, Tryz.results89, go_sem, f0, f1]) rfl ?_
        exact ⟨_, _, _, _, rfl, (Keep.refl _ w).alloc _, by rw [HZ.out]; simp <;> (try omega)⟩
      · have d39' : ((d.toNat : Int) == 39) = false := by simpa using d39
        have HZ : Hid (X = .bad 80 (a + 2)) := Lib.hid (by
          have hne : ((d :: q).head? == some 39) = false := by
            have : ¬ d = 39 := fun h => d39 (by rw [h]; rfl)
            simpa using this
          rw [HX.out, hd, show inQ (39 :: d :: q) = .close by rw [inQ, hne]; rfl]
          exact if_neg (by omega))
        clear hd h2 e39 e92 d39 h6
        go_wp2_with fail
        refine bodyPost_ret (v := .tuple #[.int .i64 0, .int .i64 0, .agg #[.int .i64 80, .int .i64 ((a : Int) + 2)]]) (by simp [results, Tryz.results89, go_sem, f0, f1]) rfl ?_
        exact ⟨_, _, _, _, rfl, (Keep.refl _ w).alloc _, by rw [HZ.out]; simp⟩
  have e39' : ((c.toNat : Int) == 39) = false := by simpa using e39
  have hin : inQ (c :: r) = if decide ((32 : Int) ≤ c.toNat) && decide ((c.toNat : Int) ≤ 126) then .byte c 1 else .bad 80 := by
    rw [inQ, eqInt c 92, eqInt c 39, show (((c.toNat : Nat) : Int) == (((92 : UInt8).toNat : Nat) : Int)) = false from e92', show (((c.toNat : Nat) : Int) == (((39 : UInt8).toNat : Nat) : Int)) = false from e39']
    rw [show (decide (32 ≤ c) && decide (c ≤ 126)) = (decide ((32 : Int) ≤ c.toNat) && decide ((c.toNat : Int) ≤ 126)) from of_all256 (f := fun c => decide (32 ≤ c) && decide (c ≤ 126)) (g := fun c => decide ((32 : Int) ≤ c.toNat) && decide ((c.toNat : Int) ≤ 126)) (by decide +kernel) c]
    rfl
  by_cases hm : (32 : Int) ≤ c.toNat ∧ (c.toNat : Int) ≤ 126
  · obtain ⟨hm1, hm2⟩ := hm
    have HZ : Hid (X = .good ⟨3, (L.drop a).take (2 + 1), c.toNat, false⟩ (a + (2 + 1)) ((L.drop a).drop (2 + 1))) := Lib.hid (by rw [HX.out, hd, hin]; simp [hm1, hm2])
    have e3 : ¬ (c.toNat : Int) < 32 := by omega
    have e4 : ¬ (126 : Int) < (c.toNat : Int) := by omega
    clear hd h2 hin e39 e92
    go_wp2_with fail
    refine bodyPost_ret (v := .tuple #[.int .i64 (c.toNat : Int), .int .i64 ((a : Int) + 2 + 1), .agg #[.int .i64 0, .int .i64 0]]) (by simp [results, Tryz.results89, go_sem, f0, f1]) rfl ?_
    exact ⟨_, _, _, _, rfl, (Keep.refl _ w).alloc _, by rw [HZ.out]; simp <;> (try omega)⟩
  · have HZ : Hid (X = .bad 80 (a + 2)) := Lib.hid (by rw [HX.out, hd, hin, if_neg (by simp; omega)])
    have hm' : (c.toNat : Int) < 32 ∨ (32 ≤ (c.toNat : Int) ∧ 126 < (c.toNat : Int)) := by omega
    clear hd h2 hin e39 e92 hm
    rcases hm' with hm' | ⟨hm', hm2⟩
    all_goals
      go_wp2_with fail
      refine bodyPost_ret (v := .tuple #[.int .i64 0, .int .i64 0, .agg #[.int .i64 80, .int .i64 ((a : Int) + 2)]]) (by simp [results, Tryz.results89, go_sem, f0, f1]) rfl ?_
      exact ⟨_, _, _, _, rfl, (Keep.refl _ w).alloc _, by rw [HZ.out]; simp⟩
end Go.Proofs.YtfkbbbjicaedmaaGreatDoor
namespace Go.Proofs.YtfkbbbjicaedmaaGreatDoor
open Go.RowKit Go.Shelf Go.Maps
set_option linter.unusedVariables false
set_option linter.unusedSimpArgs false
def numL (a : Nat) (l : List UInt8) : R Tk := if codeB l then charL a l else digitsL a l
theorem digVal_snoc (l : List UInt8) (c : UInt8) : digVal (l ++ [c]) = 10 * digVal l + (c.toNat - 48) := by unfold digVal; rw [List.foldl_append]; rfl
theorem digVal_app (l m : List UInt8) : digVal l ≤ digVal (l ++ m) := by
  unfold digVal; rw [List.foldl_append]; exact digAcc_le m _
theorem take_more {L : List UInt8} {a k : Nat} {c : UInt8} {r : List UInt8} (hak : a ≤ k) (h : L.drop k = c :: r) : (L.drop a).take (k + 1 - a) = (L.drop a).take (k - a) ++ [c] := by
  have h3 : (L.drop a)[k - a]? = some c := by
    rw [List.getElem?_drop, show a + (k - a) = k by omega, ← List.head?_drop, h]; rfl
  rw [show k + 1 - a = (k - a) + 1 by omega, List.take_add_one, h3]; rfl
def NuRel (L : List UInt8) (a : Nat) (W1 : World) (g : Nat) (n i : Value) (wr : World) : Prop := ∃ (k v : Nat), a ≤ k ∧ k ≤ L.length ∧ g = L.length - k ∧ n = .int .i64 v ∧ i = .int .i64 k ∧ v ≤ 9223372036854775807 ∧ digVal ((L.drop a).take (k - a)) = v ∧ digLen (L.drop a) = (k - a) + digLen (L.drop k) ∧ wr = W1
set_option maxRecDepth 1000000 in
set_option maxHeartbeats 8000000 in
theorem rNumber_any (L : List UInt8) (a : Nat) (hl : L.length ≤ 16384) (ha : a < L.length) (w : World) : Calls Tryz.prog 75 #[.string (str L), .int .i64 a] w (NumP (numL a (L.drop a)) w) := by
  have hs := str_size L
  have HGA := Lib.hid (fun k c r (h : L.drop k = c :: r) => str_getAt3 h)
  have HCO := Lib.hid (fun (h : a + 2 ≤ L.length) W => rCode_any L a hl h W)
  obtain ⟨s, hsl⟩ : ∃ s, str L = s := ⟨_, rfl⟩
  rw [hsl] at hs HGA HCO ⊢
  clear hsl
  obtain ⟨X, hX⟩ : ∃ X, numL a (L.drop a) = X := ⟨_, rfl⟩
  rw [hX]
  have HX := Lib.hid hX
  obtain ⟨W1, hW1⟩ : ∃ W1, W1 = w.alloc (.cells #[.int .i64 0, .int .i64 0] 71) := ⟨_, rfl⟩
  have hb := Blk.new w 71 #[.int .i64 0, .int .i64 0]
  have hk0 := (Keep.refl (· < w.heap.size) w).alloc (.cells #[.int .i64 0, .int .i64 0] 71)
  have hz0' : (w.alloc (.cells #[.int .i64 0, .int .i64 0] 71)).heap.size = w.heap.size + 1 := by simp
  rw [← hW1] at hb hk0 hz0'
  have hpz : w.heap.size < W1.heap.size := by omega
  have HB := Lib.hid hb
  have HK0 := Lib.hid hk0
  have f0 := hb.cell 0
  have f1 := hb.cell 1
  have z0 := hb.frozen 0
  have z1 := hb.frozen 1
  simp at f0 f1
  have HW := Lib.hid hW1
  clear hb hk0 hX
  obtain ⟨c0, r0, hd0⟩ : ∃ c r, L.drop a = c :: r := by
    rcases hd : L.drop a with _ | ⟨c, r⟩
    · have h3 : L.length ≤ a := by simpa using hd
      omega
    · exact ⟨c, r, rfl⟩
  obtain ⟨h1, h2, hks, hsk⟩ := HGA.out a c0 r0 hd0
  by_cases hcd : codeB (c0 :: r0) = true
  · -- 0'
    obtain ⟨rfl, q, rfl⟩ : c0 = 48 ∧ ∃ q, r0 = 39 :: q := by
      rcases r0 with _ | ⟨d, q⟩
      · cases hcd
      · rw [show codeB (c0 :: d :: q) = (c0 == 48 && d == 39) from rfl] at hcd
        simp at hcd
        exact ⟨hcd.1, q, by rw [hcd.2]⟩
    obtain ⟨h3, h6, hks2, hsk2⟩ := HGA.out (a + 1) 39 q h2
    have h5 : ((a : Int) + 1 < (L.length : Int)) := by omega
    have hco := HCO.out (by omega)
    have HXX : Hid (X = charL a (L.drop a)) := Lib.hid (by rw [← HX.out]; unfold numL; rw [hd0, if_pos hcd])
    rw [← HXX.out] at hco
    have HC2 := Lib.hid hco
    have t48 : (((48 : UInt8).toNat : Nat) : Int) = 48 := rfl
    have t39 : (((39 : UInt8).toNat : Nat) : Int) = 39 := rfl
    clear hco hd0 h2 hcd h6
    go_enter Tryz.func75, Tryz.ntmps75
    go_wp2_with fail
    rw [← HW.out]
    clear hW1
    refine (HC2.out _).mono ?_
    rintro e w2 ⟨n, to, c, q, rfl, hk2, hm⟩
    have hblk2 := HB.out.keep hk2 hpz
    have g0 := hblk2.cell 0
    have g1 := hblk2.cell 1
    have y0 := hblk2.frozen 0
    have y1 := hblk2.frozen 1
    have hpr2 := hblk2.lt
    simp at g0 g1
    have HM := Lib.hid hm
    have HK2 := Lib.hid hk2
    clear hm hk2 hblk2 f0 f1 z0 z1
    go_wp2_with fail
    refine bodyPost_ret (v := .tuple #[.int .i64 n, .int .i64 to, .agg #[.int .i64 c, .int .i64 q]]) (by simp [results, Tryz.results75, go_sem, g0, g1]) rfl ?_
    exact ⟨_, _, _, _, rfl, keep_fault hpz HK0.out HK2.out _ _, HM.out⟩
  · have HNC := Lib.hid hcd
    have HXX : Hid (X = digitsL a (L.drop a)) := Lib.hid (by rw [← HX.out]; unfold numL; rw [hd0, if_neg hcd])
    have HR : Hid (NuRel L a W1 (L.length - a) (.int .i64 0) (.int .i64 a) W1) := Lib.hid ⟨a, 0, Nat.le_refl _, by omega, rfl, rfl, rfl, by omega, by simp [digVal], by omega, rfl⟩
    -- the guard: no 0'
    have hgd : ((c0.toNat : Int) == 48) = false ∨ (((c0.toNat : Int) == 48) = true ∧ ¬ ((a : Int) + 1 < (L.length : Int))) ∨ (((c0.toNat : Int) == 48) = true ∧ ((a : Int) + 1 < (L.length : Int)) ∧ ∃ (d : UInt8) (hk : a + 1 < s.size), s[a + 1]'hk = d ∧ ((d.toNat : Int) == 39) = false) := by
      rcases h48 : ((c0.toNat : Int) == 48) with _ | _
      · exact .inl rfl
      · refine .inr ?_
        rcases r0 with _ | ⟨d, q⟩
        · exact .inl ⟨rfl, by have : L.length ≤ a + 1 := by simpa using h2
                              omega⟩
        · obtain ⟨h3, h6, hks2, hsk2⟩ := HGA.out (a + 1) d q h2
          refine .inr ⟨rfl, by omega, d, hks2, hsk2, ?_⟩
          rw [show codeB (c0 :: d :: q) = (c0 == 48 && d == 39) from rfl, eqInt c0 48, eqInt d 39] at hcd
          rcases h39 : ((d.toNat : Int) == 39) with _ | _
          · rfl
          · exfalso
            apply hcd
            rw [show (((c0.toNat : Nat) : Int) == (((48 : UInt8).toNat : Nat) : Int)) = true from h48, show (((d.toNat : Nat) : Int) == (((39 : UInt8).toNat : Nat) : Int)) = true from h39]; rfl
    have loop : ∀ (Q : Exit → Act → World → Prop), True := fun _ => trivial
    clear loop hd0 h2 hcd
    rcases hgd with g1 | ⟨g1, g2⟩ | ⟨g1, g2, d, hkd, hsd, g3⟩
    all_goals
      go_enter Tryz.func75, Tryz.ntmps75
      go_wp2_with fail
      rw [← HW.out]
      clear hW1 hks hsk
      try clear hkd hsd
      try clear g2
      try clear g3
      clear g1
      go_loopg [7, 8] (L.length - a) (fun g n i wr => NuRel L a W1 g n i wr)
      case atStart => exact HR.out
      case round =>
        clear HR
        obtain ⟨k, v, hak, hkl, hg, rfl, rfl, hv, hdv, hdl, rfl⟩ := hrel
        have HG := Lib.hid hg
        have HAK := Lib.hid hak
        have HDV := Lib.hid hdv
        have HDL := Lib.hid hdl
        clear hg hak hdv hdl
        -- the end
        have over : digLen (L.drop k) = 0 → X = .good ⟨3, (L.drop a).take (k - a), v, false⟩ k (L.drop k) := fun h0 => by
          have e : digLen (L.drop a) = k - a := by rw [HDL.out, h0]; omega
          rw [HXX.out]
          unfold digitsL
          rw [e, HDV.out, if_neg (by omega), List.drop_drop]
          have := HAK.out
          rw [show a + (k - a) = k by omega]
        have OV := Lib.hid over
        clear over
        rcases hd : L.drop k with _ | ⟨c, r⟩
        · have h3 : L.length ≤ k := by simpa using hd
          have h4 : ¬ ((k : Int) < (L.length : Int)) := by omega
          have HZ := Lib.hid (OV.out (by rw [hd]; rfl))
          clear hd
          go_wp2_with fail
          refine bodyPost_ret (v := .tuple #[.int .i64 v, .int .i64 k, .agg #[.int .i64 0, .int .i64 0]]) (by simp [results, Tryz.results75, go_sem, f0, f1]) rfl ?_
          exact ⟨_, _, _, _, rfl, (HK0.out.setCell (by simp) _).setCell (by simp) _, by rw [HZ.out]; simp⟩
        · obtain ⟨h1, h2, hks, hsk⟩ := HGA.out k c r hd
          have h4 : ((k : Int) < (L.length : Int)) := by omega
          have hdc := dig_len_cons c r
          have HBL := Lib.hid (fun W => rDigit_any c W)
          unfold byteV at HBL
          have HD := Lib.hid hd
          have H2 := Lib.hid h2
          rcases hb : digB c with _ | _
          · rw [hb] at HBL hdc
            have HZ := Lib.hid (OV.out (by rw [hd, hdc]; rfl))
            clear hd h2 hb hdc
            go_wp2_with (go_at_call 74; refine (HBL.out _).mono ?_; rintro e w1 ⟨rfl, rfl⟩)
            refine bodyPost_ret (v := .tuple #[.int .i64 v, .int .i64 k, .agg #[.int .i64 0, .int .i64 0]]) (by simp [results, Tryz.results75, go_sem, f0, f1]) rfl ?_
            exact ⟨_, _, _, _, rfl, (HK0.out.setCell (by simp) _).setCell (by simp) _, by rw [HZ.out]; simp⟩
          · rw [hb] at HBL hdc
            have hr := dig_nat hb
            have HDC := Lib.hid hdc
            have HHB := Lib.hid hr
            have htk := take_more HAK.out hd
            have hvs : digVal ((L.drop a).take (k + 1 - a)) = 10 * v + (c.toNat - 48) := by rw [htk, digVal_snoc, HDV.out]
            have HVS := Lib.hid hvs
            clear hd h2 hb hdc htk hvs
            by_cases hle : (v : Int) ≤ (9223372036854775807 - ((c.toNat : Int) - 48)) / 10
            · have hle' : ¬ (9223372036854775807 - ((c.toNat : Int) - 48)) / 10 < (v : Int) := by omega
              go_wp2_with (go_at_call 74; refine (HBL.out _).mono ?_; rintro e w1 ⟨rfl, rfl⟩)
              go_roundg (L.length - (k + 1))
              case measure => have := HG.out; omega
              case rel => exact ⟨k + 1, 10 * v + (c.toNat - 48), by have := HAK.out; omega, by omega, rfl, by congr 1; omega, by go_num, by omega, HVS.out, by rw [HDL.out, HD.out, HDC.out, H2.out]; have := HAK.out; simp; omega, rfl⟩
            · have hle' : (9223372036854775807 - ((c.toNat : Int) - 48)) / 10 < (v : Int) := by omega
              have HZ : Hid (X = .bad 83 a) := Lib.hid (by
                rw [HXX.out]
                unfold digitsL
                have hdl := HDL.out
                have hak := HAK.out
                have e : (L.drop a).take (digLen (L.drop a)) = (L.drop a).take (k + 1 - a) ++ ((L.drop a).drop (k + 1 - a)).take (digLen (L.drop a) - (k + 1 - a)) := by
                  rw [HD.out, HDC.out] at hdl
                  simp at hdl
                  rw [← List.take_add, show k + 1 - a + (digLen (L.drop a) - (k + 1 - a)) = digLen (L.drop a) by omega]
                have h5 := digVal_app ((L.drop a).take (k + 1 - a)) (((L.drop a).drop (k + 1 - a)).take (digLen (L.drop a) - (k + 1 - a)))
                rw [← e, HVS.out] at h5
                exact if_pos (by omega))
              go_wp2_with (go_at_call 74; refine (HBL.out _).mono ?_; rintro e w1 ⟨rfl, rfl⟩)
              refine bodyPost_ret (v := .tuple #[.int .i64 0, .int .i64 0, .agg #[.int .i64 83, .int .i64 a]]) (by simp [results, Tryz.results75, go_sem, f0, f1]) rfl ?_
              exact ⟨_, _, _, _, rfl, (HK0.out.setCell (by simp) _).setCell (by simp) _, by rw [HZ.out]; simp⟩
end Go.Proofs.YtfkbbbjicaedmaaGreatDoor
namespace Go.Proofs.YtfkbbbjicaedmaaGreatDoor
open Go.RowKit Go.Shelf Go.Maps
set_option linter.unusedVariables false
set_option linter.unusedSimpArgs false
def rtokL (a : Nat) (l : List UInt8) : R Tk :=
  match l with
  | [] => .bad 80 a
  | c :: _ =>
    if smallB c then .good ⟨1, l.take (letLen l), 0, false⟩ (a + letLen l) (l.drop (letLen l))
    else if capB c then .good ⟨2, l.take (letLen l), 0, false⟩ (a + letLen l) (l.drop (letLen l))
    else if digB c then numL a l
    else if punctB c then oneL 4 a l
    else if c == 33 || c == 59 then oneL 1 a l
    else if c == 39 then (match quotL a (a + 1) (l.drop 1) with | .bad e p => .bad e p | .good s n r => .good ⟨1, s, 0, true⟩ n r)
    else if stopB l then oneL 5 a l
    else if signB c then .good ⟨1, l.take (signLen l), 0, false⟩ (a + signLen l) (l.drop (signLen l))
    else .bad 80 a
def limL (a : Nat) : R Tk → R Tk
  | .good t n r => if t.kind ≤ 2 ∧ 64 < t.text.length then .bad 2 a else .good t n r
  | .bad c q => .bad c q
theorem charL_kind {a : Nat} {l : List UInt8} {t : Tk} {n : Nat} {r : List UInt8} (h : charL a l = .good t n r) : t.kind = 3 := by
  unfold charL at h
  split at h
  · injection h with h; subst h; rfl
  · split at h <;> cases h
  · cases h
  · cases h
theorem digitsL_kind {a : Nat} {l : List UInt8} {t : Tk} {n : Nat} {r : List UInt8} (h : digitsL a l = .good t n r) : t.kind = 3 := by
  unfold digitsL at h
  split at h
  · cases h
  · injection h with h; subst h; rfl
theorem lim_num (a : Nat) (x : R Tk) (h : ∀ t n r, x = .good t n r → t.kind = 3) : limL a x = x := by
  cases x with
  | bad c q => rfl
  | good t n r =>
    have := h t n r rfl
    exact if_neg (by omega)
theorem letLen_le (l : List UInt8) : letLen l ≤ l.length := takeWhile_len_le _ l
theorem lim_name (kind a k : Nat) (l : List UInt8) (hk : kind ≤ 2) (h : k ≤ l.length) : nameL kind a l k = limL a (.good ⟨kind, l.take k, 0, false⟩ (a + k) (l.drop k)) := by
  unfold nameL limL; simp [hk, Nat.min_eq_left h]
theorem tok_lim (a : Nat) (l : List UInt8) : tokL a l = limL a (rtokL a l) := by
  cases l with
  | nil => rfl
  | cons c r =>
    rw [tok_cons]
    unfold rtokL
    have l1 := letLen_le (c :: r)
    have l2 := signLen_le (c :: r)
    have hcode : codeB (c :: r) = true → c = 48 := by
      rcases r with _ | ⟨d, r⟩
      · intro h; cases h
      · intro h; rw [show codeB (c :: d :: r) = (c == 48 && d == 39) from rfl] at h; simp at h; exact h.1
    dsimp only
    rcases h1 : smallB c with _ | _
    rotate_left
    · simp only [if_true]
      exact lim_name _ _ _ _ (by omega) l1
    simp only [Bool.false_eq_true, if_false]
    rcases h2 : capB c with _ | _
    rotate_left
    · simp only [if_true]
      exact lim_name _ _ _ _ (by omega) l1
    simp only [Bool.false_eq_true, if_false]
    rcases h3 : codeB (c :: r) with _ | _
    rotate_left
    · have := hcode h3
      subst this
      simp only [if_true, show digB 48 = true from rfl]
      unfold numL
      rw [if_pos h3, lim_num _ _ (fun t n r h => charL_kind h)]
    simp only [Bool.false_eq_true, if_false]
    rcases h4 : digB c with _ | _
    rotate_left
    · simp only [if_true]
      unfold numL
      rw [if_neg (by rw [h3]; simp), lim_num _ _ (fun t n r h => digitsL_kind h)]
    simp only [Bool.false_eq_true, if_false]
    rcases h5 : punctB c with _ | _
    rotate_left
    · simp [oneL, limL]
    simp only [Bool.false_eq_true, if_false]
    rcases h6 : (c == 33 || c == 59) with _ | _
    rotate_left
    · simp [oneL, limL]
    simp only [Bool.false_eq_true, if_false]
    rcases h7 : (c == 39) with _ | _
    rotate_left
    · simp only [if_true]
      unfold quotedL
      cases quotL a (a + 1) ((c :: r).drop 1) <;> simp [limL]
    simp only [Bool.false_eq_true, if_false]
    rcases h8 : stopB (c :: r) with _ | _
    rotate_left
    · simp [oneL, limL]
    simp only [Bool.false_eq_true, if_false]
    rcases h9 : signB c with _ | _
    rotate_left
    · simp only [if_true]
      exact lim_name _ _ _ _ (by omega) l2
    simp only [Bool.false_eq_true, if_false]
    rfl
def TokP (a : Nat) (x : R Tk) (w : World) (e : Ending) (w' : World) : Prop := ∃ (k : Int) (tx : List UInt8) (i : Int) (qd : Bool) (to c q : Int),
  e = .returned (.tuple #[.agg #[.int .i64 k, .string (str tx), .int .i64 i, .int .i64 a, .bool qd, .bool false], .int .i64 to, .agg #[.int .i64 c, .int .i64 q]]) ∧ Keep (· < w.heap.size) w w' ∧
  match x with | .good t m _ => c = 0 ∧ q = 0 ∧ k = t.kind ∧ tx = t.text ∧ i = t.int ∧ qd = t.quoted ∧ to = m | .bad c' q' => c = c' ∧ q = q' ∧ c' ≠ 0
end Go.Proofs.YtfkbbbjicaedmaaGreatDoor
namespace Go.Proofs.YtfkbbbjicaedmaaGreatDoor
open Go.RowKit Go.Shelf Go.Maps
set_option linter.unusedVariables false
set_option linter.unusedSimpArgs false
def zTok : Array Value := #[.int .i64 0, .string ⟨#[]⟩, .int .i64 0, .int .i64 0, .bool false, .bool false]
def zFau : Array Value := #[.int .i64 0, .int .i64 0]
structure Four (w : World) (p a : Nat) (kd : Int) (tx : ByteArray) (ii : Int) (qd : Bool) (fc fq : Int) : Prop where
  b0 : Blk w p 75 zTok
  b1 : Blk w (p + 1) 71 zFau
  b2 : Blk w (p + 1 + 1) 75 #[.int .i64 kd, .string tx, .int .i64 ii, .int .i64 a, .bool qd, .bool false]
  b3 : Blk w (p + 1 + 1 + 1) 71 #[.int .i64 fc, .int .i64 fq]
theorem Four.keep {w w' : World} {p a : Nat} {kd : Int} {tx : ByteArray} {ii : Int} {qd : Bool} {fc fq : Int} {X : Nat → Prop} (h : Four w p a kd tx ii qd fc fq) (hk : Keep X w w') (h0 : X p) (h1 : X (p + 1)) (h2 : X (p + 1 + 1)) (h3 : X (p + 1 + 1 + 1)) : Four w' p a kd tx ii qd fc fq :=
  ⟨h.b0.keep hk h0, h.b1.keep hk h1, h.b2.keep hk h2, h.b3.keep hk h3⟩
def four (w : World) (a : Nat) : World := (((w.alloc (.cells zTok 75)).alloc (.cells zFau 71)).alloc (.cells #[.int .i64 1, .string ⟨#[]⟩, .int .i64 0, .int .i64 a, .bool false, .bool false] 75)).alloc (.cells zFau 71)
structure FourC (w : World) (p a : Nat) (kd : Int) (tx : ByteArray) (ii : Int) (qd : Bool) (fc fq : Int) : Prop where
  lt : p + 1 + 1 + 1 < w.heap.size
  l0 : p < w.heap.size
  l1 : p + 1 < w.heap.size
  l2 : p + 1 + 1 < w.heap.size
  a0 : w.cell? ⟨p, 0, none⟩ = some (.int .i64 0)
  a1 : w.cell? ⟨p, 1, none⟩ = some (.string ⟨#[]⟩)
  a2 : w.cell? ⟨p, 2, none⟩ = some (.int .i64 0)
  a3 : w.cell? ⟨p, 3, none⟩ = some (.int .i64 0)
  a4 : w.cell? ⟨p, 4, none⟩ = some (.bool false)
  a5 : w.cell? ⟨p, 5, none⟩ = some (.bool false)
  b0 : w.cell? ⟨p + 1, 0, none⟩ = some (.int .i64 0)
  b1 : w.cell? ⟨p + 1, 1, none⟩ = some (.int .i64 0)
  c0 : w.cell? ⟨p + 1 + 1, 0, none⟩ = some (.int .i64 kd)
  c1 : w.cell? ⟨p + 1 + 1, 1, none⟩ = some (.string tx)
  c2 : w.cell? ⟨p + 1 + 1, 2, none⟩ = some (.int .i64 ii)
  c3 : w.cell? ⟨p + 1 + 1, 3, none⟩ = some (.int .i64 a)
  c4 : w.cell? ⟨p + 1 + 1, 4, none⟩ = some (.bool qd)
  c5 : w.cell? ⟨p + 1 + 1, 5, none⟩ = some (.bool false)
  d0 : w.cell? ⟨p + 1 + 1 + 1, 0, none⟩ = some (.int .i64 fc)
  d1 : w.cell? ⟨p + 1 + 1 + 1, 1, none⟩ = some (.int .i64 fq)
  za : ∀ i, w.frozen? ⟨p, i, none⟩ = false
  zb : ∀ i, w.frozen? ⟨p + 1, i, none⟩ = false
  zc : ∀ i, w.frozen? ⟨p + 1 + 1, i, none⟩ = false
  zd : ∀ i, w.frozen? ⟨p + 1 + 1 + 1, i, none⟩ = false
theorem Four.cells {w : World} {p a : Nat} {kd : Int} {tx : ByteArray} {ii : Int} {qd : Bool} {fc fq : Int} (h : Four w p a kd tx ii qd fc fq) : FourC w p a kd tx ii qd fc fq :=
  ⟨h.b3.lt, h.b0.lt, h.b1.lt, h.b2.lt, h.b0.cell 0, h.b0.cell 1, h.b0.cell 2, h.b0.cell 3, h.b0.cell 4, h.b0.cell 5, h.b1.cell 0, h.b1.cell 1, h.b2.cell 0, h.b2.cell 1, h.b2.cell 2, h.b2.cell 3, h.b2.cell 4, h.b2.cell 5, h.b3.cell 0, h.b3.cell 1, h.b0.frozen, h.b1.frozen, h.b2.frozen, h.b3.frozen⟩
section
variable {w : World} {p a : Nat} {kd : Int} {tx : ByteArray} {ii : Int} {qd : Bool} {fc fq : Int}
theorem Four.kind (h : Four w p a kd tx ii qd fc fq) (x : Int) : Four (w.setCell ⟨p + 1 + 1, 0, none⟩ (.int .i64 x)) p a x tx ii qd fc fq := ⟨h.b0.far (by show p ≠ p + 1 + 1; omega) _, h.b1.far (by show p + 1 ≠ p + 1 + 1; omega) _, h.b2.set_ 0 _, h.b3.far (by show p + 1 + 1 + 1 ≠ p + 1 + 1; omega) _⟩
theorem Four.int (h : Four w p a kd tx ii qd fc fq) (x : Int) : Four (w.setCell ⟨p + 1 + 1, 2, none⟩ (.int .i64 x)) p a kd tx x qd fc fq := ⟨h.b0.far (by show p ≠ p + 1 + 1; omega) _, h.b1.far (by show p + 1 ≠ p + 1 + 1; omega) _, h.b2.set_ 2 _, h.b3.far (by show p + 1 + 1 + 1 ≠ p + 1 + 1; omega) _⟩
theorem Four.fault (h : Four w p a kd tx ii qd fc fq) (x y : Int) : Four ((w.setCell ⟨p + 1 + 1 + 1, 0, none⟩ (.int .i64 x)).setCell ⟨p + 1 + 1 + 1, 1, none⟩ (.int .i64 y)) p a kd tx ii qd x y := ⟨(h.b0.far (by show p ≠ p + 1 + 1 + 1; omega) _).far (by show p ≠ p + 1 + 1 + 1; omega) _, (h.b1.far (by show p + 1 ≠ p + 1 + 1 + 1; omega) _).far (by show p + 1 ≠ p + 1 + 1 + 1; omega) _, (h.b2.far (by show p + 1 + 1 ≠ p + 1 + 1 + 1; omega) _).far (by show p + 1 + 1 ≠ p + 1 + 1 + 1; omega) _, (h.b3.set_ 0 _).set_ 1 _⟩
theorem Four.text (h : Four w p a kd tx ii qd fc fq) (x : ByteArray) : Four (w.setCell ⟨p + 1 + 1, 1, none⟩ (.string x)) p a kd x ii qd fc fq := ⟨h.b0.far (by show p ≠ p + 1 + 1; omega) _, h.b1.far (by show p + 1 ≠ p + 1 + 1; omega) _, h.b2.set_ 1 _, h.b3.far (by show p + 1 + 1 + 1 ≠ p + 1 + 1; omega) _⟩
theorem Four.quoted (h : Four w p a kd tx ii qd fc fq) (x : Bool) : Four (w.setCell ⟨p + 1 + 1, 4, none⟩ (.bool x)) p a kd tx ii x fc fq := ⟨h.b0.far (by show p ≠ p + 1 + 1; omega) _, h.b1.far (by show p + 1 ≠ p + 1 + 1; omega) _, h.b2.set_ 4 _, h.b3.far (by show p + 1 + 1 + 1 ≠ p + 1 + 1; omega) _⟩
theorem Four.alloc (h : Four w p a kd tx ii qd fc fq) (o : Obj) : Four (w.alloc o) p a kd tx ii qd fc fq := ⟨h.b0.alloc o, h.b1.alloc o, h.b2.alloc o, h.b3.alloc o⟩
theorem Four.lt (h : Four w p a kd tx ii qd fc fq) : p + 1 + 1 + 1 < w.heap.size := h.b3.lt
end
theorem four_is (w : World) (a : Nat) : Four (four w a) w.heap.size a 1 ⟨#[]⟩ 0 false 0 0 ∧ (four w a).heap.size = w.heap.size + 1 + 1 + 1 + 1 ∧ Keep (· < w.heap.size) w (four w a) := by
  have b0 := Blk.new w 75 zTok
  have b1 := Blk.new (w.alloc (.cells zTok 75)) 71 zFau
  have b2 := Blk.new ((w.alloc (.cells zTok 75)).alloc (.cells zFau 71)) 75 #[.int .i64 1, .string ⟨#[]⟩, .int .i64 0, .int .i64 a, .bool false, .bool false]
  have b3 := Blk.new (((w.alloc (.cells zTok 75)).alloc (.cells zFau 71)).alloc (.cells #[.int .i64 1, .string ⟨#[]⟩, .int .i64 0, .int .i64 a, .bool false, .bool false] 75)) 71 zFau
  simp at b1 b2 b3
  exact ⟨⟨((b0.alloc _).alloc _).alloc _, (b1.alloc _).alloc _, b2.alloc _, b3⟩, by simp [four], (((Keep.refl _ w).alloc _).alloc _).alloc _ |>.alloc _⟩
theorem punct_int (c : UInt8) : punctB c = (((c.toNat : Int) == 40) || (((c.toNat : Int) == 41) || (((c.toNat : Int) == 91) || (((c.toNat : Int) == 93) || (((c.toNat : Int) == 123) || (((c.toNat : Int) == 125) || (((c.toNat : Int) == 44) || ((c.toNat : Int) == 124)))))))) := by
  exact of_all256 (f := punctB) (g := fun c => (((c.toNat : Int) == 40) || (((c.toNat : Int) == 41) || (((c.toNat : Int) == 91) || (((c.toNat : Int) == 93) || (((c.toNat : Int) == 123) || (((c.toNat : Int) == 125) || (((c.toNat : Int) == 44) || ((c.toNat : Int) == 124))))))))) (by decide +kernel) c
theorem punct_no {c : UInt8} (h : punctB c = false) : ((c.toNat : Int) == 40) = false ∧ ((c.toNat : Int) == 41) = false ∧ ((c.toNat : Int) == 91) = false ∧ ((c.toNat : Int) == 93) = false ∧ ((c.toNat : Int) == 123) = false ∧ ((c.toNat : Int) == 125) = false ∧ ((c.toNat : Int) == 44) = false ∧ ((c.toNat : Int) == 124) = false := by
  rw [punct_int] at h
  simp only [Bool.or_eq_false_iff] at h
  exact h
theorem solo_no {c : UInt8} (h : (c == 33 || c == 59) = false) : ((c.toNat : Int) == 33) = false ∧ ((c.toNat : Int) == 59) = false := by
  rw [eqInt c 33, eqInt c 59] at h
  simp only [Bool.or_eq_false_iff] at h
  exact h
theorem inQ_bad_code {l : List UInt8} {e : Nat} (h : inQ l = .bad e) : e ≠ 0 := by
  cases l with
  | nil => cases h
  | cons c r =>
    rw [inQ] at h
    split at h
    · have := escL_bad h; omega
    · split at h
      · split at h <;> cases h
      · split at h
        · cases h
        · injection h with h; omega
theorem quot_bad_code (o a : Nat) (l : List UInt8) : ∀ {c p : Nat}, quotL o a l = .bad c p → c ≠ 0 := by
  refine quot_ind (fun a l => ∀ {c p : Nat}, quotL o a l = .bad c p → c ≠ 0) ?_ ?_ ?_ ?_ a l
  · intro a l c k hq ih e p h
    rw [quot_byte hq] at h
    split at h
    · cases h
    · rename_i h2
      injection h with h3 h4
      subst h3
      exact ih h2
  · intro a l hq c p h; rw [quot_close hq] at h; cases h
  · intro a l hq c p h; rw [quot_over hq] at h; injection h with h1 h2; omega
  · intro a l e hq c p h; rw [quot_bad hq] at h; injection h with h1 h2; have := inQ_bad_code hq; omega
set_option maxRecDepth 1000000 in
set_option maxHeartbeats 16000000 in
theorem rToken_small (L : List UInt8) (a : Nat) (hl : L.length ≤ 16384) {c : UInt8} {r : List UInt8} (hd : L.drop a = c :: r) (h1b : smallB c = true) (w : World) : Calls Tryz.prog 60 #[.string (str L), .int .i64 a] w (TokP a (rtokL a (c :: r)) w) := by
  have hs := str_size L
  obtain ⟨h1, h2, HG0⟩ := str_getAt3 hd
  have HG := Lib.hid HG0
  clear HG0
  have q1 := Lib.hid (fun W => rSmall_any c W)
  rw [h1b] at q1
  unfold byteV at q1
  have qL := Lib.hid (fun W => rLetters_any L a hl (by omega) W)
  have hle := letLen_le (c :: r)
  rw [hd] at qL
  have HX : Hid (rtokL a (c :: r) = .good ⟨1, (c :: r).take (letLen (c :: r)), 0, false⟩ (a + letLen (c :: r)) ((c :: r).drop (letLen (c :: r)))) := Lib.hid (by unfold rtokL; simp [h1b])
  have hlen := congrArg List.length hd
  rw [List.length_drop] at hlen
  simp only [List.length_cons] at hlen
  have hlL : a + letLen (c :: r) ≤ L.length := by simp only [List.length_cons] at hle; omega
  have htk := take_str L a (a + letLen (c :: r))
  rw [hd, show a + letLen (c :: r) - a = letLen (c :: r) by omega] at htk
  have haN : a ≤ a + letLen (c :: r) := by omega
  obtain ⟨s, hsl⟩ : ∃ s, str L = s := ⟨_, rfl⟩
  rw [hsl] at hs htk HG qL ⊢
  obtain ⟨hks, hsk⟩ := HG.out
  obtain ⟨tx, htx⟩ : ∃ tx, (c :: r).take (letLen (c :: r)) = tx := ⟨_, rfl⟩
  rw [htx] at htk HX
  obtain ⟨n, hn⟩ : ∃ n, a + letLen (c :: r) = n := ⟨_, rfl⟩
  rw [hn] at htk qL hlL haN HX
  have HTK := Lib.hid htk
  obtain ⟨X, hX⟩ : ∃ X, rtokL a (c :: r) = X := ⟨_, rfl⟩
  rw [hX] at HX ⊢
  obtain ⟨f4, hz, hk⟩ := four_is w a
  obtain ⟨W4, hW4⟩ : ∃ W4, four w a = W4 := ⟨_, rfl⟩
  rw [hW4] at f4 hz hk
  have HW := Lib.hid hW4
  have HF := Lib.hid f4
  have HK := Lib.hid hk
  clear hd h2 hsl htx hn hle htk hlen hX f4 hk hW4
  go_enter Tryz.func60, Tryz.ntmps60
  go_wp2_with fail
  change Calls Tryz.prog _ _ (four w a) _
  rw [HW.out]
  refine (q1.out _).mono ?_
  rintro e x1 ⟨rfl, rfl⟩
  go_wp2_with fail
  refine (qL.out _).mono ?_
  rintro e w2 ⟨rfl, hk2⟩
  have Fw2 := HF.out.keep hk2 (by show _ < _; have := HF.out.lt; omega) (by show _ < _; have := HF.out.lt; omega) (by show _ < _; have := HF.out.lt; omega) (by show _ < _; have := HF.out.lt; omega)
  have HKw2 := Lib.hid (HK.out.trans (hk2.less fun i (hi : i < w.heap.size) => by show _ < _; have := HF.out.lt; omega))
  have hzw2 := hk2.size
  have HFw2 := Lib.hid Fw2
  clear hk2 Fw2
  obtain ⟨lt, l0, l1, l2, a0, a1, a2, a3, a4, a5, b0, b1, c0, c1, c2, c3, c4, c5, d0, d1, za, zb, zc, zd⟩ := HFw2.out.cells
  have htk := HTK.out
  go_wp2_with fail
  go_region
  go_wp2_with fail
  refine bodyPost_ret (v := .tuple #[.agg #[.int .i64 1, .string (str tx), .int .i64 0, .int .i64 a, .bool false, .bool false], .int .i64 n, .agg #[.int .i64 0, .int .i64 0]]) (by simp [results, Tryz.results60, go_sem, a0, a1, a2, a3, a4, a5, b0, b1]) rfl ?_
  exact ⟨_, _, _, _, _, _, _, rfl, by first | exact (((((((((HKw2.out.setCell (by dsimp only; omega) _).setCell (by dsimp only; omega) _).setCell (by dsimp only; omega) _).setCell (by dsimp only; omega) _).setCell (by dsimp only; omega) _).setCell (by dsimp only; omega) _).setCell (by dsimp only; omega) _).setCell (by dsimp only; omega) _).setCell (by dsimp only; omega) _).drew, by rw [HX.out]; simp⟩
set_option maxRecDepth 1000000 in
set_option maxHeartbeats 16000000 in
theorem rToken_cap (L : List UInt8) (a : Nat) (hl : L.length ≤ 16384) {c : UInt8} {r : List UInt8} (hd : L.drop a = c :: r) (h1b : smallB c = false) (h2b : capB c = true) (w : World) : Calls Tryz.prog 60 #[.string (str L), .int .i64 a] w (TokP a (rtokL a (c :: r)) w) := by
  have hs := str_size L
  obtain ⟨h1, h2, HG0⟩ := str_getAt3 hd
  have HG := Lib.hid HG0
  clear HG0
  have q1 := Lib.hid (fun W => rSmall_any c W)
  rw [h1b] at q1
  unfold byteV at q1
  have q2 := Lib.hid (fun W => rCapital_any c W)
  rw [h2b] at q2
  unfold byteV at q2
  have qL := Lib.hid (fun W => rLetters_any L a hl (by omega) W)
  have hle := letLen_le (c :: r)
  rw [hd] at qL
  have HX : Hid (rtokL a (c :: r) = .good ⟨2, (c :: r).take (letLen (c :: r)), 0, false⟩ (a + letLen (c :: r)) ((c :: r).drop (letLen (c :: r)))) := Lib.hid (by unfold rtokL; simp [h1b, h2b])
  have hlen := congrArg List.length hd
  rw [List.length_drop] at hlen
  simp only [List.length_cons] at hlen
  have hlL : a + letLen (c :: r) ≤ L.length := by simp only [List.length_cons] at hle; omega
  have htk := take_str L a (a + letLen (c :: r))
  rw [hd, show a + letLen (c :: r) - a = letLen (c :: r) by omega] at htk
  have haN : a ≤ a + letLen (c :: r) := by omega
  obtain ⟨s, hsl⟩ : ∃ s, str L = s := ⟨_, rfl⟩
  rw [hsl] at hs htk HG qL ⊢
  obtain ⟨hks, hsk⟩ := HG.out
  obtain ⟨tx, htx⟩ : ∃ tx, (c :: r).take (letLen (c :: r)) = tx := ⟨_, rfl⟩
  rw [htx] at htk HX
  obtain ⟨n, hn⟩ : ∃ n, a + letLen (c :: r) = n := ⟨_, rfl⟩
  rw [hn] at htk qL hlL haN HX
  have HTK := Lib.hid htk
  obtain ⟨X, hX⟩ : ∃ X, rtokL a (c :: r) = X := ⟨_, rfl⟩
  rw [hX] at HX ⊢
  obtain ⟨f4, hz, hk⟩ := four_is w a
  obtain ⟨W4, hW4⟩ : ∃ W4, four w a = W4 := ⟨_, rfl⟩
  rw [hW4] at f4 hz hk
  have HW := Lib.hid hW4
  have HF := Lib.hid f4
  have HK := Lib.hid hk
  clear hd h2 hsl htx hn hle htk hlen hX f4 hk hW4
  go_enter Tryz.func60, Tryz.ntmps60
  go_wp2_with fail
  change Calls Tryz.prog _ _ (four w a) _
  rw [HW.out]
  refine (q1.out _).mono ?_
  rintro e x1 ⟨rfl, rfl⟩
  go_wp2_with fail
  obtain ⟨lt, l0, l1, l2, a0, a1, a2, a3, a4, a5, b0, b1, c0, c1, c2, c3, c4, c5, d0, d1, za, zb, zc, zd⟩ := HF.out.cells
  refine (q2.out _).mono ?_
  rintro e x2 ⟨rfl, rfl⟩
  go_wp2_with fail
  have HF5 := Lib.hid (HF.out.kind 2)
  have HK5 := Lib.hid (HK.out.setCell (p := ⟨w.heap.size + 1 + 1, 0, none⟩) (by dsimp only; omega) (.int .i64 2))
  clear lt l0 l1 l2 a0 a1 a2 a3 a4 a5 b0 b1 c0 c1 c2 c3 c4 c5 d0 d1 za zb zc zd
  refine (qL.out _).mono ?_
  rintro e w2 ⟨rfl, hk2⟩
  have Fw2 := HF5.out.keep hk2 (by show _ < _; have := HF5.out.lt; omega) (by show _ < _; have := HF5.out.lt; omega) (by show _ < _; have := HF5.out.lt; omega) (by show _ < _; have := HF5.out.lt; omega)
  have HKw2 := Lib.hid (HK5.out.trans (hk2.less fun i (hi : i < w.heap.size) => by show _ < _; have := HF5.out.lt; omega))
  have hzw2 := hk2.size
  have HFw2 := Lib.hid Fw2
  clear hk2 Fw2
  obtain ⟨lt, l0, l1, l2, a0, a1, a2, a3, a4, a5, b0, b1, c0, c1, c2, c3, c4, c5, d0, d1, za, zb, zc, zd⟩ := HFw2.out.cells
  have htk := HTK.out
  go_wp2_with fail
  go_region
  go_wp2_with fail
  refine bodyPost_ret (v := .tuple #[.agg #[.int .i64 2, .string (str tx), .int .i64 0, .int .i64 a, .bool false, .bool false], .int .i64 n, .agg #[.int .i64 0, .int .i64 0]]) (by simp [results, Tryz.results60, go_sem, a0, a1, a2, a3, a4, a5, b0, b1]) rfl ?_
  exact ⟨_, _, _, _, _, _, _, rfl, by first | exact (((((((((HKw2.out.setCell (by dsimp only; omega) _).setCell (by dsimp only; omega) _).setCell (by dsimp only; omega) _).setCell (by dsimp only; omega) _).setCell (by dsimp only; omega) _).setCell (by dsimp only; omega) _).setCell (by dsimp only; omega) _).setCell (by dsimp only; omega) _).setCell (by dsimp only; omega) _).drew, by rw [HX.out]; simp⟩
theorem num_text {a : Nat} {l : List UInt8} {t : Tk} {n : Nat} {r : List UInt8} (h : numL a l = .good t n r) : a ≤ n ∧ n ≤ a + l.length ∧ t.text = l.take (n - a) ∧ t.kind = 3 ∧ t.quoted = false := by
  unfold numL at h
  split at h
  · unfold charL at h
    rcases hq : inQ (l.drop 2) with ⟨x, k⟩ | _ | _ | e
    · rw [hq] at h
      injection h with h1 h2
      subst h1 h2
      have := inQ_pos hq
      rw [List.length_drop] at this
      exact ⟨by omega, by omega, by dsimp only; congr 1; omega, rfl, rfl⟩
    · rw [hq] at h
      dsimp only at h
      split at h <;> cases h
    · rw [hq] at h; cases h
    · rw [hq] at h; cases h
  · unfold digitsL at h
    split at h
    · cases h
    · injection h with h1 h2
      subst h1 h2
      have : digLen l ≤ l.length := takeWhile_len_le _ l
      exact ⟨by omega, by omega, by dsimp only; congr 1; omega, rfl, rfl⟩
set_option maxRecDepth 1000000 in
set_option maxHeartbeats 16000000 in
theorem rToken_digit (L : List UInt8) (a : Nat) (hl : L.length ≤ 16384) {c : UInt8} {r : List UInt8} (hd : L.drop a = c :: r) (h1b : smallB c = false) (h2b : capB c = false) (h3b : digB c = true) (w : World) : Calls Tryz.prog 60 #[.string (str L), .int .i64 a] w (TokP a (rtokL a (c :: r)) w) := by
  have hs := str_size L
  obtain ⟨h1, h2, HG0⟩ := str_getAt3 hd
  have HG := Lib.hid HG0
  clear HG0
  have q1 := Lib.hid (fun W => rSmall_any c W)
  rw [h1b] at q1
  unfold byteV at q1
  have q2 := Lib.hid (fun W => rCapital_any c W)
  rw [h2b] at q2
  unfold byteV at q2
  have q3 := Lib.hid (fun W => rDigit_any c W)
  rw [h3b] at q3
  unfold byteV at q3
  have qN := Lib.hid (fun W => rNumber_any L a hl h1 W)
  rw [hd] at qN
  have HX : Hid (rtokL a (c :: r) = numL a (c :: r)) := Lib.hid (by unfold rtokL; simp [h1b, h2b, h3b])
  have hlen := congrArg List.length hd
  rw [List.length_drop] at hlen
  simp only [List.length_cons] at hlen
  have HNT := Lib.hid (fun t n q (h : numL a (c :: r) = .good t n q) => num_text h)
  have HTX := Lib.hid (fun n => take_str L a n)
  rw [hd] at HTX
  obtain ⟨s, hsl⟩ : ∃ s, str L = s := ⟨_, rfl⟩
  rw [hsl] at hs HTX HG qN ⊢
  obtain ⟨hks, hsk⟩ := HG.out
  obtain ⟨Y, hY⟩ : ∃ Y, numL a (c :: r) = Y := ⟨_, rfl⟩
  rw [hY] at qN HX HNT
  obtain ⟨X, hX⟩ : ∃ X, rtokL a (c :: r) = X := ⟨_, rfl⟩
  rw [hX] at HX ⊢
  obtain ⟨f4, hz, hk⟩ := four_is w a
  obtain ⟨W4, hW4⟩ : ∃ W4, four w a = W4 := ⟨_, rfl⟩
  rw [hW4] at f4 hz hk
  have HW := Lib.hid hW4
  have HF := Lib.hid f4
  have HK := Lib.hid hk
  clear hd h2 hsl hY hX f4 hk hW4
  go_enter Tryz.func60, Tryz.ntmps60
  go_wp2_with fail
  change Calls Tryz.prog _ _ (four w a) _
  rw [HW.out]
  refine (q1.out _).mono ?_
  rintro e x1 ⟨rfl, rfl⟩
  go_wp2_with fail
  refine (q2.out _).mono ?_
  rintro e x2 ⟨rfl, rfl⟩
  go_wp2_with fail
  obtain ⟨lt, l0, l1, l2, a0, a1, a2, a3, a4, a5, b0, b1, c0, c1, c2, c3, c4, c5, d0, d1, za, zb, zc, zd⟩ := HF.out.cells
  refine (q3.out _).mono ?_
  rintro e x3 ⟨rfl, rfl⟩
  go_wp2_with fail
  have HF5 := Lib.hid (HF.out.kind 3)
  have HK5 := Lib.hid (HK.out.setCell (p := ⟨w.heap.size + 1 + 1, 0, none⟩) (by dsimp only; omega) (.int .i64 3))
  clear lt l0 l1 l2 a0 a1 a2 a3 a4 a5 b0 b1 c0 c1 c2 c3 c4 c5 d0 d1 za zb zc zd
  refine (qN.out _).mono ?_
  rintro e w2 ⟨n, to, cc, qq, rfl, hk2, hm⟩
  have Fw2 := HF5.out.keep hk2 (by show _ < _; have := HF5.out.lt; omega) (by show _ < _; have := HF5.out.lt; omega) (by show _ < _; have := HF5.out.lt; omega) (by show _ < _; have := HF5.out.lt; omega)
  have HKw2 := Lib.hid (HK5.out.trans (hk2.less fun i (hi : i < w.heap.size) => by show _ < _; have := HF5.out.lt; omega))
  have HFw2 := Lib.hid Fw2
  clear hk2 Fw2
  rcases Y with ⟨c', q'⟩ | ⟨t, m, q'⟩
  · obtain ⟨rfl, rfl, hne⟩ := hm
    have hne' : ((c' : Int) == 0) = false := beq_eq_false_iff_ne.2 (by omega)
    obtain ⟨lt, l0, l1, l2, a0, a1, a2, a3, a4, a5, b0, b1, c0, c1, c2, c3, c4, c5, d0, d1, za, zb, zc, zd⟩ := HFw2.out.cells
    go_wp2_with fail
    have HF6 := Lib.hid (((HFw2.out.int (n)).fault (c' : Int) (q' : Int)).alloc (.cells #[.int .i64 (c' : Int), .int .i64 (q' : Int)] 71))
    have HK6 := Lib.hid ((((HKw2.out.setCell (p := ⟨w.heap.size + 1 + 1, 2, none⟩) (by dsimp only; omega) (.int .i64 (n))).setCell (p := ⟨w.heap.size + 1 + 1 + 1, 0, none⟩) (by dsimp only; omega) (.int .i64 (c' : Int))).setCell (p := ⟨w.heap.size + 1 + 1 + 1, 1, none⟩) (by dsimp only; omega) (.int .i64 (q' : Int))).alloc (.cells #[.int .i64 (c' : Int), .int .i64 (q' : Int)] 71))
    clear lt l0 l1 l2 a0 a1 a2 a3 a4 a5 b0 b1 c0 c1 c2 c3 c4 c5 d0 d1 za zb zc zd
    generalize ((((w2.setCell ⟨w.heap.size + 1 + 1, 2, none⟩ (.int .i64 n)).setCell ⟨w.heap.size + 1 + 1 + 1, 0, none⟩ (.int .i64 (c' : Int))).setCell ⟨w.heap.size + 1 + 1 + 1, 1, none⟩ (.int .i64 (q' : Int))).alloc (.cells #[.int .i64 (c' : Int), .int .i64 (q' : Int)] 71)) = W6 at HF6 HK6 ⊢
    obtain ⟨lt, l0, l1, l2, a0, a1, a2, a3, a4, a5, b0, b1, c0, c1, c2, c3, c4, c5, d0, d1, za, zb, zc, zd⟩ := HF6.out.cells
    go_region
    go_wp2_with fail
    refine bodyPost_ret (v := .tuple #[.agg #[.int .i64 3, .string ⟨#[]⟩, .int .i64 n, .int .i64 a, .bool false, .bool false], .int .i64 to, .agg #[.int .i64 (c' : Int), .int .i64 (q' : Int)]]) (by simp [results, Tryz.results60, go_sem, a0, a1, a2, a3, a4, a5, b0, b1]) rfl ?_
    exact ⟨_, [], _, _, _, _, _, rfl, by first | exact ((((((((HK6.out.setCell (by dsimp only; omega) _).setCell (by dsimp only; omega) _).setCell (by dsimp only; omega) _).setCell (by dsimp only; omega) _).setCell (by dsimp only; omega) _).setCell (by dsimp only; omega) _).setCell (by dsimp only; omega) _).setCell (by dsimp only; omega) _).drew, by rw [HX.out]; simp; exact hne⟩
  · obtain ⟨rfl, rfl, rfl, rfl⟩ := hm
    obtain ⟨g1, g2, g3, g4, g5⟩ := HNT.out t m q' rfl
    have htk := HTX.out m
    rw [← g3] at htk
    have hmL : m ≤ L.length := by simp only [List.length_cons] at g2; omega
    have HTK := Lib.hid htk
    clear htk g3 g2
    obtain ⟨lt, l0, l1, l2, a0, a1, a2, a3, a4, a5, b0, b1, c0, c1, c2, c3, c4, c5, d0, d1, za, zb, zc, zd⟩ := HFw2.out.cells
    have htk := HTK.out
    go_wp2_with fail
    have HF6 := Lib.hid ((((HFw2.out.int (t.int)).fault 0 0).text (str t.text)).alloc (.cells #[.int .i64 0, .int .i64 0] 71))
    have HK6 := Lib.hid (((((HKw2.out.setCell (p := ⟨w.heap.size + 1 + 1, 2, none⟩) (by dsimp only; omega) (.int .i64 (t.int))).setCell (p := ⟨w.heap.size + 1 + 1 + 1, 0, none⟩) (by dsimp only; omega) (.int .i64 0)).setCell (p := ⟨w.heap.size + 1 + 1 + 1, 1, none⟩) (by dsimp only; omega) (.int .i64 0)).setCell (p := ⟨w.heap.size + 1 + 1, 1, none⟩) (by dsimp only; omega) (.string (str t.text))).alloc (.cells #[.int .i64 0, .int .i64 0] 71))
    clear lt l0 l1 l2 a0 a1 a2 a3 a4 a5 b0 b1 c0 c1 c2 c3 c4 c5 d0 d1 za zb zc zd
    generalize (((((w2.setCell ⟨w.heap.size + 1 + 1, 2, none⟩ (.int .i64 t.int)).setCell ⟨w.heap.size + 1 + 1 + 1, 0, none⟩ (.int .i64 0)).setCell ⟨w.heap.size + 1 + 1 + 1, 1, none⟩ (.int .i64 0)).setCell ⟨w.heap.size + 1 + 1, 1, none⟩ (.string (str t.text))).alloc (.cells #[.int .i64 0, .int .i64 0] 71)) = W6 at HF6 HK6 ⊢
    obtain ⟨lt, l0, l1, l2, a0, a1, a2, a3, a4, a5, b0, b1, c0, c1, c2, c3, c4, c5, d0, d1, za, zb, zc, zd⟩ := HF6.out.cells
    go_region
    go_wp2_with fail
    refine bodyPost_ret (v := .tuple #[.agg #[.int .i64 3, .string (str t.text), .int .i64 t.int, .int .i64 a, .bool false, .bool false], .int .i64 m, .agg #[.int .i64 0, .int .i64 0]]) (by simp [results, Tryz.results60, go_sem, a0, a1, a2, a3, a4, a5, b0, b1]) rfl ?_
    exact ⟨_, _, _, _, _, _, _, rfl, by first | exact ((((((((HK6.out.setCell (by dsimp only; omega) _).setCell (by dsimp only; omega) _).setCell (by dsimp only; omega) _).setCell (by dsimp only; omega) _).setCell (by dsimp only; omega) _).setCell (by dsimp only; omega) _).setCell (by dsimp only; omega) _).setCell (by dsimp only; omega) _).drew, by rw [HX.out]; simp [g4, g5]⟩
end Go.Proofs.YtfkbbbjicaedmaaGreatDoor
