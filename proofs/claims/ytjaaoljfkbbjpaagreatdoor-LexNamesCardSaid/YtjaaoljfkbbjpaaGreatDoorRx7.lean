/-
  The document's tokens (pythiaref08): a token, in memory. No condition.
-/
import Derived.Test.YtjaaoljfkbbjpaaGreatDoorRx6
namespace Go.Proofs.YtjaaoljfkbbjpaaGreatDoor
open Go.RowKit Go.Shelf Go.Maps
set_option linter.unusedVariables false
set_option linter.unusedSimpArgs false

def zTok : Array Value := #[.int .i64 0, .string ⟨#[]⟩, .int .i64 0, .int .i64 0, .bool false, .bool false]
def zFau : Array Value := #[.int .i64 0, .int .i64 0]
/-- The four blocks of a call of token: the answer's token and fault, its own token and fault. -/
structure Four (w : World) (p a : Nat) (kd : Int) (tx : ByteArray) (ii : Int) (qd : Bool) (fc fq : Int) : Prop where
  b0 : Blk w p 33 zTok
  b1 : Blk w (p + 1) 45 zFau
  b2 : Blk w (p + 1 + 1) 33 #[.int .i64 kd, .string tx, .int .i64 ii, .int .i64 a, .bool qd, .bool false]
  b3 : Blk w (p + 1 + 1 + 1) 45 #[.int .i64 fc, .int .i64 fq]
theorem Four.keep {w w' : World} {p a : Nat} {kd : Int} {tx : ByteArray} {ii : Int} {qd : Bool} {fc fq : Int} {X : Nat → Prop} (h : Four w p a kd tx ii qd fc fq) (hk : Keep X w w') (h0 : X p) (h1 : X (p + 1)) (h2 : X (p + 1 + 1)) (h3 : X (p + 1 + 1 + 1)) : Four w' p a kd tx ii qd fc fq :=
  ⟨h.b0.keep hk h0, h.b1.keep hk h1, h.b2.keep hk h2, h.b3.keep hk h3⟩
def four (w : World) (a : Nat) : World := (((w.alloc (.cells zTok 33)).alloc (.cells zFau 45)).alloc (.cells #[.int .i64 1, .string ⟨#[]⟩, .int .i64 0, .int .i64 a, .bool false, .bool false] 33)).alloc (.cells zFau 45)
/-- Their cells. -/
structure FourC (w : World) (p a : Nat) (kd : Int) (tx : ByteArray) (ii : Int) (qd : Bool) (fc fq : Int) : Prop where
  lt : p + 1 + 1 + 1 < w.heap.size
  l0 : p < w.heap.size
  l1 : p + 1 < w.heap.size
  l2 : p + 1 + 1 < w.heap.size
  a0 : w.cell? ⟨p, 0, none⟩ = some (.int .i64 0)
  a1 : w.cell? ⟨p, 1, none⟩ = some (.string ⟨#[]⟩)
  a2 : w.cell? ⟨p, 2, none⟩ = some (.int .i64 0)
  a3 : w.cell? ⟨p, 3, none⟩ = some (.int .i64 0)
  a4 : w.cell? ⟨p, 4, none⟩ = some (.bool false)
  a5 : w.cell? ⟨p, 5, none⟩ = some (.bool false)
  b0 : w.cell? ⟨p + 1, 0, none⟩ = some (.int .i64 0)
  b1 : w.cell? ⟨p + 1, 1, none⟩ = some (.int .i64 0)
  c0 : w.cell? ⟨p + 1 + 1, 0, none⟩ = some (.int .i64 kd)
  c1 : w.cell? ⟨p + 1 + 1, 1, none⟩ = some (.string tx)
  c2 : w.cell? ⟨p + 1 + 1, 2, none⟩ = some (.int .i64 ii)
  c3 : w.cell? ⟨p + 1 + 1, 3, none⟩ = some (.int .i64 a)
  c4 : w.cell? ⟨p + 1 + 1, 4, none⟩ = some (.bool qd)
  c5 : w.cell? ⟨p + 1 + 1, 5, none⟩ = some (.bool false)
  d0 : w.cell? ⟨p + 1 + 1 + 1, 0, none⟩ = some (.int .i64 fc)
  d1 : w.cell? ⟨p + 1 + 1 + 1, 1, none⟩ = some (.int .i64 fq)
  za : ∀ i, w.frozen? ⟨p, i, none⟩ = false
  zb : ∀ i, w.frozen? ⟨p + 1, i, none⟩ = false
  zc : ∀ i, w.frozen? ⟨p + 1 + 1, i, none⟩ = false
  zd : ∀ i, w.frozen? ⟨p + 1 + 1 + 1, i, none⟩ = false
theorem Four.cells {w : World} {p a : Nat} {kd : Int} {tx : ByteArray} {ii : Int} {qd : Bool} {fc fq : Int} (h : Four w p a kd tx ii qd fc fq) : FourC w p a kd tx ii qd fc fq :=
  ⟨h.b3.lt, h.b0.lt, h.b1.lt, h.b2.lt, h.b0.cell 0, h.b0.cell 1, h.b0.cell 2, h.b0.cell 3, h.b0.cell 4, h.b0.cell 5, h.b1.cell 0, h.b1.cell 1, h.b2.cell 0, h.b2.cell 1, h.b2.cell 2, h.b2.cell 3, h.b2.cell 4, h.b2.cell 5, h.b3.cell 0, h.b3.cell 1, h.b0.frozen, h.b1.frozen, h.b2.frozen, h.b3.frozen⟩
section
variable {w : World} {p a : Nat} {kd : Int} {tx : ByteArray} {ii : Int} {qd : Bool} {fc fq : Int}
theorem Four.kind (h : Four w p a kd tx ii qd fc fq) (x : Int) : Four (w.setCell ⟨p + 1 + 1, 0, none⟩ (.int .i64 x)) p a x tx ii qd fc fq := ⟨h.b0.far (by show p ≠ p + 1 + 1; omega) _, h.b1.far (by show p + 1 ≠ p + 1 + 1; omega) _, h.b2.set_ 0 _, h.b3.far (by show p + 1 + 1 + 1 ≠ p + 1 + 1; omega) _⟩
theorem Four.int (h : Four w p a kd tx ii qd fc fq) (x : Int) : Four (w.setCell ⟨p + 1 + 1, 2, none⟩ (.int .i64 x)) p a kd tx x qd fc fq := ⟨h.b0.far (by show p ≠ p + 1 + 1; omega) _, h.b1.far (by show p + 1 ≠ p + 1 + 1; omega) _, h.b2.set_ 2 _, h.b3.far (by show p + 1 + 1 + 1 ≠ p + 1 + 1; omega) _⟩
theorem Four.fault (h : Four w p a kd tx ii qd fc fq) (x y : Int) : Four ((w.setCell ⟨p + 1 + 1 + 1, 0, none⟩ (.int .i64 x)).setCell ⟨p + 1 + 1 + 1, 1, none⟩ (.int .i64 y)) p a kd tx ii qd x y := ⟨(h.b0.far (by show p ≠ p + 1 + 1 + 1; omega) _).far (by show p ≠ p + 1 + 1 + 1; omega) _, (h.b1.far (by show p + 1 ≠ p + 1 + 1 + 1; omega) _).far (by show p + 1 ≠ p + 1 + 1 + 1; omega) _, (h.b2.far (by show p + 1 + 1 ≠ p + 1 + 1 + 1; omega) _).far (by show p + 1 + 1 ≠ p + 1 + 1 + 1; omega) _, (h.b3.set_ 0 _).set_ 1 _⟩
theorem Four.text (h : Four w p a kd tx ii qd fc fq) (x : ByteArray) : Four (w.setCell ⟨p + 1 + 1, 1, none⟩ (.string x)) p a kd x ii qd fc fq := ⟨h.b0.far (by show p ≠ p + 1 + 1; omega) _, h.b1.far (by show p + 1 ≠ p + 1 + 1; omega) _, h.b2.set_ 1 _, h.b3.far (by show p + 1 + 1 + 1 ≠ p + 1 + 1; omega) _⟩
theorem Four.quoted (h : Four w p a kd tx ii qd fc fq) (x : Bool) : Four (w.setCell ⟨p + 1 + 1, 4, none⟩ (.bool x)) p a kd tx ii x fc fq := ⟨h.b0.far (by show p ≠ p + 1 + 1; omega) _, h.b1.far (by show p + 1 ≠ p + 1 + 1; omega) _, h.b2.set_ 4 _, h.b3.far (by show p + 1 + 1 + 1 ≠ p + 1 + 1; omega) _⟩
theorem Four.alloc (h : Four w p a kd tx ii qd fc fq) (o : Obj) : Four (w.alloc o) p a kd tx ii qd fc fq := ⟨h.b0.alloc o, h.b1.alloc o, h.b2.alloc o, h.b3.alloc o⟩
theorem Four.drew (h : Four w p a kd tx ii qd fc fq) : Four w.drew p a kd tx ii qd fc fq := ⟨h.b0.drew, h.b1.drew, h.b2.drew, h.b3.drew⟩
theorem Four.lt (h : Four w p a kd tx ii qd fc fq) : p + 1 + 1 + 1 < w.heap.size := h.b3.lt
end
theorem four_is (w : World) (a : Nat) : Four (four w a) w.heap.size a 1 ⟨#[]⟩ 0 false 0 0 ∧ (four w a).heap.size = w.heap.size + 1 + 1 + 1 + 1 ∧ Keep (· < w.heap.size) w (four w a) := by
  have b0 := Blk.new w 33 zTok
  have b1 := Blk.new (w.alloc (.cells zTok 33)) 45 zFau
  have b2 := Blk.new ((w.alloc (.cells zTok 33)).alloc (.cells zFau 45)) 33 #[.int .i64 1, .string ⟨#[]⟩, .int .i64 0, .int .i64 a, .bool false, .bool false]
  have b3 := Blk.new (((w.alloc (.cells zTok 33)).alloc (.cells zFau 45)).alloc (.cells #[.int .i64 1, .string ⟨#[]⟩, .int .i64 0, .int .i64 a, .bool false, .bool false] 33)) 45 zFau
  simp at b1 b2 b3
  exact ⟨⟨((b0.alloc _).alloc _).alloc _, (b1.alloc _).alloc _, b2.alloc _, b3⟩, by simp [four], (((Keep.refl _ w).alloc _).alloc _).alloc _ |>.alloc _⟩
theorem punct_int (c : UInt8) : punctB c = (((c.toNat : Int) == 40) || (((c.toNat : Int) == 41) || (((c.toNat : Int) == 91) || (((c.toNat : Int) == 93) || (((c.toNat : Int) == 123) || (((c.toNat : Int) == 125) || (((c.toNat : Int) == 44) || ((c.toNat : Int) == 124)))))))) := by
  exact of_all256 (f := punctB) (g := fun c => (((c.toNat : Int) == 40) || (((c.toNat : Int) == 41) || (((c.toNat : Int) == 91) || (((c.toNat : Int) == 93) || (((c.toNat : Int) == 123) || (((c.toNat : Int) == 125) || (((c.toNat : Int) == 44) || ((c.toNat : Int) == 124))))))))) (by decide +kernel) c
theorem punct_no {c : UInt8} (h : punctB c = false) : ((c.toNat : Int) == 40) = false ∧ ((c.toNat : Int) == 41) = false ∧ ((c.toNat : Int) == 91) = false ∧ ((c.toNat : Int) == 93) = false ∧ ((c.toNat : Int) == 123) = false ∧ ((c.toNat : Int) == 125) = false ∧ ((c.toNat : Int) == 44) = false ∧ ((c.toNat : Int) == 124) = false := by
  rw [punct_int] at h
  simp only [Bool.or_eq_false_iff] at h
  exact h
theorem solo_no {c : UInt8} (h : (c == 33 || c == 59) = false) : ((c.toNat : Int) == 33) = false ∧ ((c.toNat : Int) == 59) = false := by
  rw [eqInt c 33, eqInt c 59] at h
  simp only [Bool.or_eq_false_iff] at h
  exact h
theorem inQ_bad_code {l : List UInt8} {e : Nat} (h : inQ l = .bad e) : e ≠ 0 := by
  cases l with
  | nil => cases h
  | cons c r =>
    rw [inQ] at h
    split at h
    · have := escL_bad h; omega
    · split at h
      · split at h <;> cases h
      · split at h
        · cases h
        · injection h with h; omega
theorem quot_bad_code (o a : Nat) (l : List UInt8) : ∀ {c p : Nat}, quotL o a l = .bad c p → c ≠ 0 := by
  refine quot_ind (fun a l => ∀ {c p : Nat}, quotL o a l = .bad c p → c ≠ 0) ?_ ?_ ?_ ?_ a l
  · intro a l c k hq ih e p h
    rw [quot_byte hq] at h
    split at h
    · cases h
    · rename_i h2
      injection h with h3 h4
      subst h3
      exact ih h2
  · intro a l hq c p h; rw [quot_close hq] at h; cases h
  · intro a l hq c p h; rw [quot_over hq] at h; injection h with h1 h2; omega
  · intro a l e hq c p h; rw [quot_bad hq] at h; injection h with h1 h2; have := inQ_bad_code hq; omega
theorem or_false_l {a b : Bool} (h : (a || b) = false) : a = false ∧ b = false := by cases a <;> cases b <;> simp_all
set_option maxRecDepth 1000000 in
set_option maxHeartbeats 16000000 in
theorem rToken_small (L : List UInt8) (a : Nat) (hl : L.length ≤ 16384) {c : UInt8} {r : List UInt8} (hd : L.drop a = c :: r) (h1b : smallB c = true) (w : World) : Calls Tryz.prog 28 #[.string (str L), .int .i64 a] w (TokP a (rtokL a (c :: r)) w) := by
  have hs := str_size L
  obtain ⟨h1, h2, HG0⟩ := str_getAt3 hd
  have HG := Lib.hid HG0
  clear HG0
  have q1 := Lib.hid (fun W => rSmall_any c W)
  rw [h1b] at q1
  unfold byteV at q1
  have qL := Lib.hid (fun W => rLetters_any L a hl (by omega) W)
  have hle := letLen_le (c :: r)
  rw [hd] at qL
  have HX : Hid (rtokL a (c :: r) = .good ⟨1, (c :: r).take (letLen (c :: r)), 0, false⟩ (a + letLen (c :: r)) ((c :: r).drop (letLen (c :: r)))) := Lib.hid (by unfold rtokL; simp [h1b])
  have hlen := congrArg List.length hd
  rw [List.length_drop] at hlen
  simp only [List.length_cons] at hlen
  have hlL : a + letLen (c :: r) ≤ L.length := by simp only [List.length_cons] at hle; omega
  have htk := take_str L a (a + letLen (c :: r))
  rw [hd, show a + letLen (c :: r) - a = letLen (c :: r) by omega] at htk
  have haN : a ≤ a + letLen (c :: r) := by omega
  obtain ⟨s, hsl⟩ : ∃ s, str L = s := ⟨_, rfl⟩
  rw [hsl] at hs htk HG qL ⊢
  obtain ⟨hks, hsk⟩ := HG.out
  obtain ⟨tx, htx⟩ : ∃ tx, (c :: r).take (letLen (c :: r)) = tx := ⟨_, rfl⟩
  rw [htx] at htk HX
  obtain ⟨n, hn⟩ : ∃ n, a + letLen (c :: r) = n := ⟨_, rfl⟩
  rw [hn] at htk qL hlL haN HX
  have HTK := Lib.hid htk
  obtain ⟨X, hX⟩ : ∃ X, rtokL a (c :: r) = X := ⟨_, rfl⟩
  rw [hX] at HX ⊢
  obtain ⟨f4, hz, hk⟩ := four_is w a
  obtain ⟨W4, hW4⟩ : ∃ W4, four w a = W4 := ⟨_, rfl⟩
  rw [hW4] at f4 hz hk
  have HW := Lib.hid hW4
  have HF := Lib.hid f4
  have HK := Lib.hid hk
  clear hd h2 hsl htx hn hle htk hlen hX f4 hk hW4
  go_enter Tryz.func28, Tryz.ntmps28
  go_wp2_with fail
  change Calls Tryz.prog _ _ (four w a) _
  rw [HW.out]
  refine (q1.out _).mono ?_
  rintro e x1 ⟨rfl, rfl⟩
  go_wp2_with fail
  refine (qL.out _).mono ?_
  rintro e w2 ⟨rfl, hk2⟩
  have Fw2 := HF.out.keep hk2 (by show _ < _; have := HF.out.lt; omega) (by show _ < _; have := HF.out.lt; omega) (by show _ < _; have := HF.out.lt; omega) (by show _ < _; have := HF.out.lt; omega)
  have HKw2 := Lib.hid (HK.out.trans (hk2.less fun i (hi : i < w.heap.size) => by show _ < _; have := HF.out.lt; omega))
  have hzw2 := hk2.size
  have HFw2 := Lib.hid Fw2
  clear hk2 Fw2
  obtain ⟨lt, l0, l1, l2, a0, a1, a2, a3, a4, a5, b0, b1, c0, c1, c2, c3, c4, c5, d0, d1, za, zb, zc, zd⟩ := HFw2.out.cells
  have htk := HTK.out
  go_wp2_with fail
  go_region
  go_wp2_with fail
  refine bodyPost_ret (v := .tuple #[.agg #[.int .i64 1, .string (str tx), .int .i64 0, .int .i64 a, .bool false, .bool false], .int .i64 n, .agg #[.int .i64 0, .int .i64 0]]) (by simp [results, Tryz.results28, go_sem, a0, a1, a2, a3, a4, a5, b0, b1]) rfl ?_
  exact ⟨_, _, _, _, _, _, _, rfl, by first | exact (((((((((HKw2.out.setCell (by dsimp only; omega) _).setCell (by dsimp only; omega) _).setCell (by dsimp only; omega) _).setCell (by dsimp only; omega) _).setCell (by dsimp only; omega) _).setCell (by dsimp only; omega) _).setCell (by dsimp only; omega) _).setCell (by dsimp only; omega) _).setCell (by dsimp only; omega) _).drew, by rw [HX.out]; simp⟩
set_option maxRecDepth 1000000 in
set_option maxHeartbeats 16000000 in
theorem rToken_cap (L : List UInt8) (a : Nat) (hl : L.length ≤ 16384) {c : UInt8} {r : List UInt8} (hd : L.drop a = c :: r) (h1b : smallB c = false) (h2b : capB c = true) (w : World) : Calls Tryz.prog 28 #[.string (str L), .int .i64 a] w (TokP a (rtokL a (c :: r)) w) := by
  have hs := str_size L
  obtain ⟨h1, h2, HG0⟩ := str_getAt3 hd
  have HG := Lib.hid HG0
  clear HG0
  have q1 := Lib.hid (fun W => rSmall_any c W)
  rw [h1b] at q1
  unfold byteV at q1
  have q2 := Lib.hid (fun W => rCapital_any c W)
  rw [h2b] at q2
  unfold byteV at q2
  have qL := Lib.hid (fun W => rLetters_any L a hl (by omega) W)
  have hle := letLen_le (c :: r)
  rw [hd] at qL
  have HX : Hid (rtokL a (c :: r) = .good ⟨2, (c :: r).take (letLen (c :: r)), 0, false⟩ (a + letLen (c :: r)) ((c :: r).drop (letLen (c :: r)))) := Lib.hid (by unfold rtokL; simp [h1b, h2b])
  have hlen := congrArg List.length hd
  rw [List.length_drop] at hlen
  simp only [List.length_cons] at hlen
  have hlL : a + letLen (c :: r) ≤ L.length := by simp only [List.length_cons] at hle; omega
  have htk := take_str L a (a + letLen (c :: r))
  rw [hd, show a + letLen (c :: r) - a = letLen (c :: r) by omega] at htk
  have haN : a ≤ a + letLen (c :: r) := by omega
  obtain ⟨s, hsl⟩ : ∃ s, str L = s := ⟨_, rfl⟩
  rw [hsl] at hs htk HG qL ⊢
  obtain ⟨hks, hsk⟩ := HG.out
  obtain ⟨tx, htx⟩ : ∃ tx, (c :: r).take (letLen (c :: r)) = tx := ⟨_, rfl⟩
  rw [htx] at htk HX
  obtain ⟨n, hn⟩ : ∃ n, a + letLen (c :: r) = n := ⟨_, rfl⟩
  rw [hn] at htk qL hlL haN HX
  have HTK := Lib.hid htk
  obtain ⟨X, hX⟩ : ∃ X, rtokL a (c :: r) = X := ⟨_, rfl⟩
  rw [hX] at HX ⊢
  obtain ⟨f4, hz, hk⟩ := four_is w a
  obtain ⟨W4, hW4⟩ : ∃ W4, four w a = W4 := ⟨_, rfl⟩
  rw [hW4] at f4 hz hk
  have HW := Lib.hid hW4
  have HF := Lib.hid f4
  have HK := Lib.hid hk
  clear hd h2 hsl htx hn hle htk hlen hX f4 hk hW4
  go_enter Tryz.func28, Tryz.ntmps28
  go_wp2_with fail
  change Calls Tryz.prog _ _ (four w a) _
  rw [HW.out]
  refine (q1.out _).mono ?_
  rintro e x1 ⟨rfl, rfl⟩
  go_wp2_with fail
  obtain ⟨lt, l0, l1, l2, a0, a1, a2, a3, a4, a5, b0, b1, c0, c1, c2, c3, c4, c5, d0, d1, za, zb, zc, zd⟩ := HF.out.cells
  refine (q2.out _).mono ?_
  rintro e x2 ⟨rfl, rfl⟩
  go_wp2_with fail
  have HF5 := Lib.hid (HF.out.kind 2)
  have HK5 := Lib.hid (HK.out.setCell (p := ⟨w.heap.size + 1 + 1, 0, none⟩) (by dsimp only; omega) (.int .i64 2))
  clear lt l0 l1 l2 a0 a1 a2 a3 a4 a5 b0 b1 c0 c1 c2 c3 c4 c5 d0 d1 za zb zc zd
  refine (qL.out _).mono ?_
  rintro e w2 ⟨rfl, hk2⟩
  have Fw2 := HF5.out.keep hk2 (by show _ < _; have := HF5.out.lt; omega) (by show _ < _; have := HF5.out.lt; omega) (by show _ < _; have := HF5.out.lt; omega) (by show _ < _; have := HF5.out.lt; omega)
  have HKw2 := Lib.hid (HK5.out.trans (hk2.less fun i (hi : i < w.heap.size) => by show _ < _; have := HF5.out.lt; omega))
  have hzw2 := hk2.size
  have HFw2 := Lib.hid Fw2
  clear hk2 Fw2
  obtain ⟨lt, l0, l1, l2, a0, a1, a2, a3, a4, a5, b0, b1, c0, c1, c2, c3, c4, c5, d0, d1, za, zb, zc, zd⟩ := HFw2.out.cells
  have htk := HTK.out
  go_wp2_with fail
  go_region
  go_wp2_with fail
  refine bodyPost_ret (v := .tuple #[.agg #[.int .i64 2, .string (str tx), .int .i64 0, .int .i64 a, .bool false, .bool false], .int .i64 n, .agg #[.int .i64 0, .int .i64 0]]) (by simp [results, Tryz.results28, go_sem, a0, a1, a2, a3, a4, a5, b0, b1]) rfl ?_
  exact ⟨_, _, _, _, _, _, _, rfl, by first | exact (((((((((HKw2.out.setCell (by dsimp only; omega) _).setCell (by dsimp only; omega) _).setCell (by dsimp only; omega) _).setCell (by dsimp only; omega) _).setCell (by dsimp only; omega) _).setCell (by dsimp only; omega) _).setCell (by dsimp only; omega) _).setCell (by dsimp only; omega) _).setCell (by dsimp only; omega) _).drew, by rw [HX.out]; simp⟩
theorem num_text {a : Nat} {l : List UInt8} {t : Tk} {n : Nat} {r : List UInt8} (h : numL a l = .good t n r) : a ≤ n ∧ n ≤ a + l.length ∧ t.text = l.take (n - a) ∧ t.kind = 3 ∧ t.quoted = false := by
  unfold numL at h
  split at h
  · unfold charL at h
    rcases hq : inQ (l.drop 2) with ⟨x, k⟩ | _ | _ | e
    · rw [hq] at h
      injection h with h1 h2
      subst h1 h2
      have := inQ_pos hq
      rw [List.length_drop] at this
      exact ⟨by omega, by omega, by dsimp only; congr 1; omega, rfl, rfl⟩
    · rw [hq] at h
      dsimp only at h
      split at h <;> cases h
    · rw [hq] at h; cases h
    · rw [hq] at h; cases h
  · unfold digitsL at h
    split at h
    · cases h
    · injection h with h1 h2
      subst h1 h2
      have : digLen l ≤ l.length := takeWhile_len_le _ l
      exact ⟨by omega, by omega, by dsimp only; congr 1; omega, rfl, rfl⟩
set_option maxRecDepth 1000000 in
set_option maxHeartbeats 16000000 in
theorem rToken_digit (L : List UInt8) (a : Nat) (hl : L.length ≤ 16384) {c : UInt8} {r : List UInt8} (hd : L.drop a = c :: r) (h1b : smallB c = false) (h2b : capB c = false) (h3b : digB c = true) (w : World) : Calls Tryz.prog 28 #[.string (str L), .int .i64 a] w (TokP a (rtokL a (c :: r)) w) := by
  have hs := str_size L
  obtain ⟨h1, h2, HG0⟩ := str_getAt3 hd
  have HG := Lib.hid HG0
  clear HG0
  have q1 := Lib.hid (fun W => rSmall_any c W)
  rw [h1b] at q1
  unfold byteV at q1
  have q2 := Lib.hid (fun W => rCapital_any c W)
  rw [h2b] at q2
  unfold byteV at q2
  have q3 := Lib.hid (fun W => rDigit_any c W)
  rw [h3b] at q3
  unfold byteV at q3
  have qN := Lib.hid (fun W => rNumber_any L a hl h1 W)
  rw [hd] at qN
  have HX : Hid (rtokL a (c :: r) = numL a (c :: r)) := Lib.hid (by unfold rtokL; simp [h1b, h2b, h3b])
  have hlen := congrArg List.length hd
  rw [List.length_drop] at hlen
  simp only [List.length_cons] at hlen
  have HNT := Lib.hid (fun t n q (h : numL a (c :: r) = .good t n q) => num_text h)
  have HTX := Lib.hid (fun n => take_str L a n)
  rw [hd] at HTX
  obtain ⟨s, hsl⟩ : ∃ s, str L = s := ⟨_, rfl⟩
  rw [hsl] at hs HTX HG qN ⊢
  obtain ⟨hks, hsk⟩ := HG.out
  obtain ⟨Y, hY⟩ : ∃ Y, numL a (c :: r) = Y := ⟨_, rfl⟩
  rw [hY] at qN HX HNT
  obtain ⟨X, hX⟩ : ∃ X, rtokL a (c :: r) = X := ⟨_, rfl⟩
  rw [hX] at HX ⊢
  obtain ⟨f4, hz, hk⟩ := four_is w a
  obtain ⟨W4, hW4⟩ : ∃ W4, four w a = W4 := ⟨_, rfl⟩
  rw [hW4] at f4 hz hk
  have HW := Lib.hid hW4
  have HF := Lib.hid f4
  have HK := Lib.hid hk
  clear hd h2 hsl hY hX f4 hk hW4
  go_enter Tryz.func28, Tryz.ntmps28
  go_wp2_with fail
  change Calls Tryz.prog _ _ (four w a) _
  rw [HW.out]
  refine (q1.out _).mono ?_
  rintro e x1 ⟨rfl, rfl⟩
  go_wp2_with fail
  refine (q2.out _).mono ?_
  rintro e x2 ⟨rfl, rfl⟩
  go_wp2_with fail
  obtain ⟨lt, l0, l1, l2, a0, a1, a2, a3, a4, a5, b0, b1, c0, c1, c2, c3, c4, c5, d0, d1, za, zb, zc, zd⟩ := HF.out.cells
  refine (q3.out _).mono ?_
  rintro e x3 ⟨rfl, rfl⟩
  go_wp2_with fail
  have HF5 := Lib.hid (HF.out.kind 3)
  have HK5 := Lib.hid (HK.out.setCell (p := ⟨w.heap.size + 1 + 1, 0, none⟩) (by dsimp only; omega) (.int .i64 3))
  clear lt l0 l1 l2 a0 a1 a2 a3 a4 a5 b0 b1 c0 c1 c2 c3 c4 c5 d0 d1 za zb zc zd
  refine (qN.out _).mono ?_
  rintro e w2 ⟨n, to, cc, qq, rfl, hk2, hm⟩
  have Fw2 := HF5.out.keep hk2 (by show _ < _; have := HF5.out.lt; omega) (by show _ < _; have := HF5.out.lt; omega) (by show _ < _; have := HF5.out.lt; omega) (by show _ < _; have := HF5.out.lt; omega)
  have HKw2 := Lib.hid (HK5.out.trans (hk2.less fun i (hi : i < w.heap.size) => by show _ < _; have := HF5.out.lt; omega))
  have HFw2 := Lib.hid Fw2
  clear hk2 Fw2
  rcases Y with ⟨c', q'⟩ | ⟨t, m, q'⟩
  · obtain ⟨rfl, rfl, hne⟩ := hm
    have hne' : ((c' : Int) == 0) = false := beq_eq_false_iff_ne.2 (by omega)
    obtain ⟨lt, l0, l1, l2, a0, a1, a2, a3, a4, a5, b0, b1, c0, c1, c2, c3, c4, c5, d0, d1, za, zb, zc, zd⟩ := HFw2.out.cells
    go_wp2_with fail
    have HF6 := Lib.hid (((HFw2.out.int (n)).fault (c' : Int) (q' : Int)).alloc (.cells #[.int .i64 (c' : Int), .int .i64 (q' : Int)] 45))
    have HK6 := Lib.hid ((((HKw2.out.setCell (p := ⟨w.heap.size + 1 + 1, 2, none⟩) (by dsimp only; omega) (.int .i64 (n))).setCell (p := ⟨w.heap.size + 1 + 1 + 1, 0, none⟩) (by dsimp only; omega) (.int .i64 (c' : Int))).setCell (p := ⟨w.heap.size + 1 + 1 + 1, 1, none⟩) (by dsimp only; omega) (.int .i64 (q' : Int))).alloc (.cells #[.int .i64 (c' : Int), .int .i64 (q' : Int)] 45))
    clear lt l0 l1 l2 a0 a1 a2 a3 a4 a5 b0 b1 c0 c1 c2 c3 c4 c5 d0 d1 za zb zc zd
    generalize ((((w2.setCell ⟨w.heap.size + 1 + 1, 2, none⟩ (.int .i64 n)).setCell ⟨w.heap.size + 1 + 1 + 1, 0, none⟩ (.int .i64 (c' : Int))).setCell ⟨w.heap.size + 1 + 1 + 1, 1, none⟩ (.int .i64 (q' : Int))).alloc (.cells #[.int .i64 (c' : Int), .int .i64 (q' : Int)] 45)) = W6 at HF6 HK6 ⊢
    obtain ⟨lt, l0, l1, l2, a0, a1, a2, a3, a4, a5, b0, b1, c0, c1, c2, c3, c4, c5, d0, d1, za, zb, zc, zd⟩ := HF6.out.cells
    go_region
    go_wp2_with fail
    refine bodyPost_ret (v := .tuple #[.agg #[.int .i64 3, .string ⟨#[]⟩, .int .i64 n, .int .i64 a, .bool false, .bool false], .int .i64 to, .agg #[.int .i64 (c' : Int), .int .i64 (q' : Int)]]) (by simp [results, Tryz.results28, go_sem, a0, a1, a2, a3, a4, a5, b0, b1]) rfl ?_
    exact ⟨_, [], _, _, _, _, _, rfl, by first | exact ((((((((HK6.out.setCell (by dsimp only; omega) _).setCell (by dsimp only; omega) _).setCell (by dsimp only; omega) _).setCell (by dsimp only; omega) _).setCell (by dsimp only; omega) _).setCell (by dsimp only; omega) _).setCell (by dsimp only; omega) _).setCell (by dsimp only; omega) _).drew, by rw [HX.out]; simp; exact hne⟩
  · obtain ⟨rfl, rfl, rfl, rfl⟩ := hm
    obtain ⟨g1, g2, g3, g4, g5⟩ := HNT.out t m q' rfl
    have htk := HTX.out m
    rw [← g3] at htk
    have hmL : m ≤ L.length := by simp only [List.length_cons] at g2; omega
    have HTK := Lib.hid htk
    clear htk g3 g2
    obtain ⟨lt, l0, l1, l2, a0, a1, a2, a3, a4, a5, b0, b1, c0, c1, c2, c3, c4, c5, d0, d1, za, zb, zc, zd⟩ := HFw2.out.cells
    have htk := HTK.out
    go_wp2_with fail
    have HF6 := Lib.hid ((((HFw2.out.int (t.int)).fault 0 0).text (str t.text)).alloc (.cells #[.int .i64 0, .int .i64 0] 45))
    have HK6 := Lib.hid (((((HKw2.out.setCell (p := ⟨w.heap.size + 1 + 1, 2, none⟩) (by dsimp only; omega) (.int .i64 (t.int))).setCell (p := ⟨w.heap.size + 1 + 1 + 1, 0, none⟩) (by dsimp only; omega) (.int .i64 0)).setCell (p := ⟨w.heap.size + 1 + 1 + 1, 1, none⟩) (by dsimp only; omega) (.int .i64 0)).setCell (p := ⟨w.heap.size + 1 + 1, 1, none⟩) (by dsimp only; omega) (.string (str t.text))).alloc (.cells #[.int .i64 0, .int .i64 0] 45))
    clear lt l0 l1 l2 a0 a1 a2 a3 a4 a5 b0 b1 c0 c1 c2 c3 c4 c5 d0 d1 za zb zc zd
    generalize (((((w2.setCell ⟨w.heap.size + 1 + 1, 2, none⟩ (.int .i64 t.int)).setCell ⟨w.heap.size + 1 + 1 + 1, 0, none⟩ (.int .i64 0)).setCell ⟨w.heap.size + 1 + 1 + 1, 1, none⟩ (.int .i64 0)).setCell ⟨w.heap.size + 1 + 1, 1, none⟩ (.string (str t.text))).alloc (.cells #[.int .i64 0, .int .i64 0] 45)) = W6 at HF6 HK6 ⊢
    obtain ⟨lt, l0, l1, l2, a0, a1, a2, a3, a4, a5, b0, b1, c0, c1, c2, c3, c4, c5, d0, d1, za, zb, zc, zd⟩ := HF6.out.cells
    go_region
    go_wp2_with fail
    refine bodyPost_ret (v := .tuple #[.agg #[.int .i64 3, .string (str t.text), .int .i64 t.int, .int .i64 a, .bool false, .bool false], .int .i64 m, .agg #[.int .i64 0, .int .i64 0]]) (by simp [results, Tryz.results28, go_sem, a0, a1, a2, a3, a4, a5, b0, b1]) rfl ?_
    exact ⟨_, _, _, _, _, _, _, rfl, by first | exact ((((((((HK6.out.setCell (by dsimp only; omega) _).setCell (by dsimp only; omega) _).setCell (by dsimp only; omega) _).setCell (by dsimp only; omega) _).setCell (by dsimp only; omega) _).setCell (by dsimp only; omega) _).setCell (by dsimp only; omega) _).setCell (by dsimp only; omega) _).drew, by rw [HX.out]; simp [g4, g5]⟩
end Go.Proofs.YtjaaoljfkbbjpaaGreatDoor
