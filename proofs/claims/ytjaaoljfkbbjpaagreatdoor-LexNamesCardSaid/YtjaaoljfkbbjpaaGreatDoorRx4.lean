/-
  The document's tokens (pythiaref08): the number that a byte writes; a number. No condition.
-/
import Derived.Test.YtjaaoljfkbbjpaaGreatDoorRx3
namespace Go.Proofs.YtjaaoljfkbbjpaaGreatDoor
open Go.RowKit Go.Shelf Go.Maps
set_option linter.unusedVariables false
set_option linter.unusedSimpArgs false

/-- What the document's code and number answer. -/
def NumP (x : R Tk) (w : World) (e : Ending) (w' : World) : Prop := ∃ (n to c q : Int), e = .returned (.tuple #[.int .i64 n, .int .i64 to, .agg #[.int .i64 c, .int .i64 q]]) ∧ Keep (· < w.heap.size) w w' ∧
  match x with | .good t m _ => c = 0 ∧ q = 0 ∧ n = t.int ∧ to = m | .bad c' q' => c = c' ∧ q = q' ∧ c' ≠ 0
set_option maxRecDepth 1000000 in
set_option maxHeartbeats 8000000 in
theorem rCode_any (L : List UInt8) (a : Nat) (hl : L.length ≤ 16384) (ha : a + 2 ≤ L.length) (w : World) : Calls Tryz.prog 70 #[.string (str L), .int .i64 a] w (NumP (charL a (L.drop a)) w) := by
  have hs := str_size L
  have HGA := Lib.hid (fun k c r (h : L.drop k = c :: r) => str_getAt3 h)
  have HES := Lib.hid (fun k (hk : k < L.length) W => rEscape_any L k a hl hk W)
  obtain ⟨s, hsl⟩ : ∃ s, str L = s := ⟨_, rfl⟩
  rw [hsl] at hs HGA HES ⊢
  clear hsl
  have hX : charL a (L.drop a) = match inQ (L.drop (a + 2)) with
    | .byte c k => .good ⟨3, (L.drop a).take (2 + k), c.toNat, false⟩ (a + (2 + k)) ((L.drop a).drop (2 + k))
    | .close => if (L.drop a).length = 3 then .bad 81 a else .bad 80 (a + 2)
    | .over => .bad 81 a
    | .bad e => .bad e (a + 2) := by unfold charL; rw [List.drop_drop]; rfl
  obtain ⟨X, hX2⟩ : ∃ X, charL a (L.drop a) = X := ⟨_, rfl⟩
  rw [hX2] at hX ⊢
  have hla : (L.drop a).length = L.length - a := by simp
  rw [hla] at hX
  have HX := Lib.hid hX
  clear hX hX2 hla
  have hb := Blk.new w 45 #[.int .i64 0, .int .i64 0]
  have f0 := hb.cell 0
  have f1 := hb.cell 1
  have z0 := hb.frozen 0
  have z1 := hb.frozen 1
  simp at f0 f1
  have HB := Lib.hid hb
  have HK0 := Lib.hid ((Keep.refl (· < w.heap.size) w).alloc (.cells #[.int .i64 0, .int .i64 0] 45))
  clear hb
  go_enter Tryz.func70, Tryz.ntmps70
  rcases hd : L.drop (a + 2) with _ | ⟨c, r⟩
  · have h3 : L.length ≤ a + 2 := by simpa using hd
    have h4 : (L.length : Int) ≤ (a : Int) + 2 := by omega
    have HZ : Hid (X = .bad 81 a) := Lib.hid (by rw [HX.out, hd]; rfl)
    clear hd
    go_wp2_with fail
    refine bodyPost_ret (v := .tuple #[.int .i64 0, .int .i64 0, .agg #[.int .i64 81, .int .i64 a]]) (by simp [results, Tryz.results70, go_sem, f0, f1]) rfl ?_
    exact ⟨_, _, _, _, rfl, (Keep.refl _ w).alloc _, by rw [HZ.out]; simp⟩
  obtain ⟨h1, h2, hks, hsk⟩ := HGA.out (a + 2) c r hd
  have h4 : ¬ (L.length : Int) ≤ (a : Int) + 2 := by omega
  by_cases e92 : (c.toNat : Int) = 92
  · have e92' : ((c.toNat : Int) == 92) = true := by simpa using e92
    obtain rfl : c = 92 := UInt8.toNat_inj.1 (by have : (92 : UInt8).toNat = 92 := rfl; omega)
    simp only [show (((92 : UInt8).toNat : Nat) : Int) = 92 from rfl] at *
    have hes := fun W => HES.out (a + 2) h1 W
    rw [h2, show (((a + 2 : Nat)) : Int) = (a : Int) + 2 by omega] at hes
    have hiq : inQ (92 :: r) = escL r := rfl
    rcases hq : escL r with ⟨x, n⟩ | _ | _ | e
    · obtain rfl := escL_two hq
      rw [hq] at hes hiq
      have HES2 := Lib.hid hes
      have HZ : Hid (X = .good ⟨3, (L.drop a).take (2 + 2), x.toNat, false⟩ (a + (2 + 2)) ((L.drop a).drop (2 + 2))) := Lib.hid (by rw [HX.out, hd, hiq])
      clear hes hd h2 e92 hiq hq
      go_wp2_with fail
      refine (HES2.out _).mono ?_
      rintro e w2 ⟨rfl, hk2'⟩
      have HK2 := Lib.hid (HK0.out.trans (hk2'.less fun i (hi : i < w.heap.size) => by simp; omega))
      have hblk2 := HB.out.keep hk2' (by simp)
      have HBL2 := Lib.hid hblk2
      have g0 := hblk2.cell 0
      have g1 := hblk2.cell 1
      have y0 := hblk2.frozen 0
      have y1 := hblk2.frozen 1
      have hpr2 := hblk2.lt
      simp at g0 g1
      clear hk2' hblk2 f0 f1 z0 z1
      unfold EsR byteV
      go_wp2_with fail
      go_region
      go_wp2_with fail
      have qq := (Blk.alloc (Blk.set_ (Blk.set_ HBL2.out 0 (.int .i64 0)) 1 (.int .i64 0)) (.cells #[.int .i64 0, .int .i64 0] 45))
      have q0 := qq.cell 0
      have q1 := qq.cell 1
      simp at q0 q1
      have hwx : wrap64 (x.toNat : Int) = x.toNat := by have := x.toNat_lt; unfold wrap64; omega
      refine bodyPost_ret (v := .tuple #[.int .i64 (x.toNat : Int), .int .i64 ((a : Int) + 2 + 2), .agg #[.int .i64 0, .int .i64 0]]) (by simp [results, Tryz.results70, go_sem, q0, q1, hwx]) rfl ?_
      exact ⟨_, _, _, _, rfl, (((HK2.out.setCell (by simp) _).setCell (by simp) _).alloc _).drew, by rw [HZ.out]; simp <;> (try omega)⟩
    · exact absurd hq escL_close
    · rw [hq] at hes hiq
      have HES2 := Lib.hid hes
      have HZ : Hid (X = .bad 81 a) := Lib.hid (by rw [HX.out, hd, hiq])
      clear hes hd h2 e92 hiq hq
      go_wp2_with fail
      refine (HES2.out _).mono ?_
      rintro e w2 ⟨rfl, hk2'⟩
      have HK2 := Lib.hid (HK0.out.trans (hk2'.less fun i (hi : i < w.heap.size) => by simp; omega))
      have hblk2 := HB.out.keep hk2' (by simp)
      have HBL2 := Lib.hid hblk2
      have g0 := hblk2.cell 0
      have g1 := hblk2.cell 1
      have y0 := hblk2.frozen 0
      have y1 := hblk2.frozen 1
      have hpr2 := hblk2.lt
      simp at g0 g1
      clear hk2' hblk2 f0 f1 z0 z1
      unfold EsR byteV
      go_wp2_with fail
      go_region
      go_wp2_with fail
      have qq := (Blk.alloc (Blk.set_ (Blk.set_ HBL2.out 0 (.int .i64 81)) 1 (.int .i64 a)) (.cells #[.int .i64 81, .int .i64 a] 45))
      have q0 := qq.cell 0
      have q1 := qq.cell 1
      simp at q0 q1
      have hwx : wrap64 0 = 0 := by unfold wrap64; omega
      refine bodyPost_ret (v := .tuple #[.int .i64 0, .int .i64 ((a : Int) + 2 + 2), .agg #[.int .i64 81, .int .i64 a]]) (by simp [results, Tryz.results70, go_sem, q0, q1, hwx]) rfl ?_
      exact ⟨_, _, _, _, rfl, (((HK2.out.setCell (by simp) _).setCell (by simp) _).alloc _).drew, by rw [HZ.out]; simp <;> (try omega)⟩
    · obtain rfl := escL_bad hq
      rw [hq] at hes hiq
      have HES2 := Lib.hid hes
      have HZ : Hid (X = .bad 82 (a + 2)) := Lib.hid (by rw [HX.out, hd, hiq])
      clear hes hd h2 e92 hiq hq
      go_wp2_with fail
      refine (HES2.out _).mono ?_
      rintro e w2 ⟨rfl, hk2'⟩
      have HK2 := Lib.hid (HK0.out.trans (hk2'.less fun i (hi : i < w.heap.size) => by simp; omega))
      have hblk2 := HB.out.keep hk2' (by simp)
      have HBL2 := Lib.hid hblk2
      have g0 := hblk2.cell 0
      have g1 := hblk2.cell 1
      have y0 := hblk2.frozen 0
      have y1 := hblk2.frozen 1
      have hpr2 := hblk2.lt
      simp at g0 g1
      clear hk2' hblk2 f0 f1 z0 z1
      unfold EsR byteV
      go_wp2_with fail
      go_region
      go_wp2_with fail
      have qq := (Blk.alloc (Blk.set_ (Blk.set_ HBL2.out 0 (.int .i64 82)) 1 (.int .i64 ((a : Int) + 2))) (.cells #[.int .i64 82, .int .i64 ((a : Int) + 2)] 45))
      have q0 := qq.cell 0
      have q1 := qq.cell 1
      simp at q0 q1
      have hwx : wrap64 0 = 0 := by unfold wrap64; omega
      refine bodyPost_ret (v := .tuple #[.int .i64 0, .int .i64 ((a : Int) + 2 + 2), .agg #[.int .i64 82, .int .i64 ((a : Int) + 2)]]) (by simp [results, Tryz.results70, go_sem, q0, q1, hwx]) rfl ?_
      exact ⟨_, _, _, _, rfl, (((HK2.out.setCell (by simp) _).setCell (by simp) _).alloc _).drew, by rw [HZ.out]; simp <;> (try omega)⟩
  have e92' : ((c.toNat : Int) == 92) = false := by simpa using e92
  by_cases e39 : (c.toNat : Int) = 39
  · have e39' : ((c.toNat : Int) == 39) = true := by simpa using e39
    obtain rfl : c = 39 := UInt8.toNat_inj.1 (by have : (39 : UInt8).toNat = 39 := rfl; omega)
    simp only [show (((39 : UInt8).toNat : Nat) : Int) = 39 from rfl] at *
    rcases r with _ | ⟨d, q⟩
    · have h3 : L.length ≤ a + 2 + 1 := by simpa using h2
      have h5 : (L.length : Int) ≤ (a : Int) + 2 + 1 := by omega
      have HZ : Hid (X = .bad 81 a) := Lib.hid (by rw [HX.out, hd]; simp [inQ]; omega)
      clear hd h2 e39 e92
      go_wp2_with fail
      refine bodyPost_ret (v := .tuple #[.int .i64 0, .int .i64 0, .agg #[.int .i64 81, .int .i64 a]]) (by simp [results, Tryz.results70, go_sem, f0, f1]) rfl ?_
      exact ⟨_, _, _, _, rfl, (Keep.refl _ w).alloc _, by rw [HZ.out]; simp⟩
    · obtain ⟨h3, h6, hks2, hsk2⟩ := HGA.out (a + 2 + 1) d q h2
      have h5 : ¬ (L.length : Int) ≤ (a : Int) + 2 + 1 := by omega
      by_cases d39 : (d.toNat : Int) = 39
      · have d39' : ((d.toNat : Int) == 39) = true := by simpa using d39
        obtain rfl : d = 39 := UInt8.toNat_inj.1 (by have : (39 : UInt8).toNat = 39 := rfl; omega)
        have HZ : Hid (X = .good ⟨3, (L.drop a).take (2 + 2), 39, false⟩ (a + (2 + 2)) ((L.drop a).drop (2 + 2))) := Lib.hid (by rw [HX.out, hd]; rfl)
        clear hd h2 e39 e92 d39 h6
        go_wp2_with fail
        refine bodyPost_ret (v := .tuple #[.int .i64 39, .int .i64 ((a : Int) + 2 + 2), .agg #[.int .i64 0, .int .i64 0]]) (by simp [results, Tryz.results70, go_sem, f0, f1]) rfl ?_
        exact ⟨_, _, _, _, rfl, (Keep.refl _ w).alloc _, by rw [HZ.out]; simp <;> (try omega)⟩
      · have d39' : ((d.toNat : Int) == 39) = false := by simpa using d39
        have HZ : Hid (X = .bad 80 (a + 2)) := Lib.hid (by
          have hne : ((d :: q).head? == some 39) = false := by
            have : ¬ d = 39 := fun h => d39 (by rw [h]; rfl)
            simpa using this
          rw [HX.out, hd, show inQ (39 :: d :: q) = .close by rw [inQ, hne]; rfl]
          exact if_neg (by omega))
        clear hd h2 e39 e92 d39 h6
        go_wp2_with fail
        refine bodyPost_ret (v := .tuple #[.int .i64 0, .int .i64 0, .agg #[.int .i64 80, .int .i64 ((a : Int) + 2)]]) (by simp [results, Tryz.results70, go_sem, f0, f1]) rfl ?_
        exact ⟨_, _, _, _, rfl, (Keep.refl _ w).alloc _, by rw [HZ.out]; simp⟩
  have e39' : ((c.toNat : Int) == 39) = false := by simpa using e39
  have hin : inQ (c :: r) = if decide ((32 : Int) ≤ c.toNat) && decide ((c.toNat : Int) ≤ 126) then .byte c 1 else .bad 80 := by
    rw [inQ, eqInt c 92, eqInt c 39, show (((c.toNat : Nat) : Int) == (((92 : UInt8).toNat : Nat) : Int)) = false from e92', show (((c.toNat : Nat) : Int) == (((39 : UInt8).toNat : Nat) : Int)) = false from e39']
    rw [show (decide (32 ≤ c) && decide (c ≤ 126)) = (decide ((32 : Int) ≤ c.toNat) && decide ((c.toNat : Int) ≤ 126)) from of_all256 (f := fun c => decide (32 ≤ c) && decide (c ≤ 126)) (g := fun c => decide ((32 : Int) ≤ c.toNat) && decide ((c.toNat : Int) ≤ 126)) (by decide +kernel) c]
    rfl
  by_cases hm : (32 : Int) ≤ c.toNat ∧ (c.toNat : Int) ≤ 126
  · obtain ⟨hm1, hm2⟩ := hm
    have HZ : Hid (X = .good ⟨3, (L.drop a).take (2 + 1), c.toNat, false⟩ (a + (2 + 1)) ((L.drop a).drop (2 + 1))) := Lib.hid (by rw [HX.out, hd, hin]; simp [hm1, hm2])
    have e3 : ¬ (c.toNat : Int) < 32 := by omega
    have e4 : ¬ (126 : Int) < (c.toNat : Int) := by omega
    clear hd h2 hin e39 e92
    go_wp2_with fail
    refine bodyPost_ret (v := .tuple #[.int .i64 (c.toNat : Int), .int .i64 ((a : Int) + 2 + 1), .agg #[.int .i64 0, .int .i64 0]]) (by simp [results, Tryz.results70, go_sem, f0, f1]) rfl ?_
    exact ⟨_, _, _, _, rfl, (Keep.refl _ w).alloc _, by rw [HZ.out]; simp <;> (try omega)⟩
  · have HZ : Hid (X = .bad 80 (a + 2)) := Lib.hid (by rw [HX.out, hd, hin, if_neg (by simp; omega)])
    have hm' : (c.toNat : Int) < 32 ∨ (32 ≤ (c.toNat : Int) ∧ 126 < (c.toNat : Int)) := by omega
    clear hd h2 hin e39 e92 hm
    rcases hm' with hm' | ⟨hm', hm2⟩
    all_goals
      go_wp2_with fail
      refine bodyPost_ret (v := .tuple #[.int .i64 0, .int .i64 0, .agg #[.int .i64 80, .int .i64 ((a : Int) + 2)]]) (by simp [results, Tryz.results70, go_sem, f0, f1]) rfl ?_
      exact ⟨_, _, _, _, rfl, (Keep.refl _ w).alloc _, by rw [HZ.out]; simp⟩
end Go.Proofs.YtjaaoljfkbbjpaaGreatDoor
