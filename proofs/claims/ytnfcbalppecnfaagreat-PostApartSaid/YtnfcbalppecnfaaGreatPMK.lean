/-
  Joined texts (Tv15, Tv16, Tv17). No condition.
-/
import Derived.Test.YtnfcbalppecnfaaGreatPMD
import Derived.Test.YtnfcbalppecnfaaGreatPMI
import Derived.Test.YtnfcbalppecnfaaGreatPMJ
namespace Go.Proofs.YtnfcbalppecnfaaGreat
open Go.RowKit Go.Maps
set_option linter.unusedVariables false
set_option linter.unusedSimpArgs false
def lfn (k : Int) (nm : List UInt8) : List UInt8 := if k = 3 ∨ k = 4 then nm else []
def lfi (k i : Int) : Int := if k = 1 ∨ k = 2 then i else 0
section
variable {w : World} {i : Int} {nm : List UInt8}
set_option maxRecDepth 100000 in
set_option maxHeartbeats 4000000 in
theorem leaf1 : Calls Tryz.prog 44 #[.agg #[.int .i64 1, .string (str nm), .int .i64 i, .slice none 0 0], .func (.func 46) #[] #[]] w fun e w' => e = .returned (.agg #[.int .i64 1, .string ⟨#[]⟩, .int .i64 i, .slice none 0 0]) ∧ Keep (fun k => k < w.heap.size) w w' := by
  have hb2 := Blk.new (w.alloc (.cells #[.int .i64 1, .string (str nm), .int .i64 i, .slice none 0 0] 28)) 28 #[.int .i64 0, .string ⟨#[]⟩, .int .i64 0, .slice none 0 0]
  rw [World.size_alloc] at hb2
  have hk0 : Keep (fun k => k < w.heap.size) w ((w.alloc (.cells #[.int .i64 1, .string (str nm), .int .i64 i, .slice none 0 0] 28)).alloc zb) := ((Keep.refl _ w).alloc _).alloc _
  have hc := variable_any ((w.alloc (.cells #[.int .i64 1, .string (str nm), .int .i64 i, .slice none 0 0] 28)).alloc zb) i
  have hen := (put_variable 0).enter
  have es : str [] = (⟨#[]⟩ : ByteArray) := rfl
  unfold tv at hc
  simp only [Tm.k, Tm.nm, Tm.i, Tm.args, es, List.length_nil] at hc
  have HC := Lib.hid hc
  have HK := Lib.hid (And.intro hb2 hk0)
  clear hc hb2 hk0 es
  go_enter Tryz.func44, Tryz.ntmps44
  go_wp2_with fail
  refine HC.out.mono ?_
  rintro e w1 ⟨rfl, k1⟩
  obtain ⟨hb2, hk0⟩ := HK.out
  have hb1 := hb2.keep k1 (by simp)
  have l1 := hb1.lt
  have f0 := hb1.frozen 0
  have f1 := hb1.frozen 1
  have f2 := hb1.frozen 2
  have f3 := hb1.frozen 3
  have d0 := hb1.cell 0
  have d1 := hb1.cell 1
  have d2 := hb1.cell 2
  have d3 := hb1.cell 3
  simp at d0 d1 d2 d3
  have hbf := hb1.set4 (y0 := .int .i64 1) (y1 := .string ⟨#[]⟩) (y2 := .int .i64 i) (y3 := .slice none 0 0)
  have g0 := hbf.cell 0
  have g1 := hbf.cell 1
  have g2 := hbf.cell 2
  have g3 := hbf.cell 3
  simp at g0 g1 g2 g3
  have hkf := (hk0.onto k1).trans ((Keep.refl (fun g => g ≠ w.heap.size + 1) w1).set4 (g := w.heap.size + 1) (y0 := .int .i64 1) (y1 := .string ⟨#[]⟩) (y2 := .int .i64 i) (y3 := .slice none 0 0) (o := 0) (fun h => h rfl) |>.less (fun k (hk : k < w.heap.size) => by omega))
  have HF := Lib.hid hkf
  clear hkf hbf hb1 hb2 hk0 k1 HC HK
  go_wp2_with fail
  exact bodyPost_ret (v := .agg #[.int .i64 1, .string ⟨#[]⟩, .int .i64 i, .slice none 0 0]) (by simp [results, Tryz.results44, go_sem, g0, g1, g2, g3]) rfl ⟨rfl, HF.out⟩
set_option maxRecDepth 100000 in
set_option maxHeartbeats 4000000 in
theorem leaf2 : Calls Tryz.prog 44 #[.agg #[.int .i64 2, .string (str nm), .int .i64 i, .slice none 0 0], .func (.func 46) #[] #[]] w fun e w' => e = .returned (.agg #[.int .i64 2, .string ⟨#[]⟩, .int .i64 i, .slice none 0 0]) ∧ Keep (fun k => k < w.heap.size) w w' := by
  generalize str nm = s
  go_enter Tryz.func44, Tryz.ntmps44
  go_wp2
  exact bodyPost_ret (v := .agg #[.int .i64 2, .string ⟨#[]⟩, .int .i64 i, .slice none 0 0]) (by simp [results, Tryz.results44, go_sem]) rfl ⟨rfl, ((Keep.refl _ w).alloc _).alloc _⟩
set_option maxRecDepth 100000 in
set_option maxHeartbeats 4000000 in
theorem leaf3 : Calls Tryz.prog 44 #[.agg #[.int .i64 3, .string (str nm), .int .i64 i, .slice none 0 0], .func (.func 46) #[] #[]] w fun e w' => e = .returned (.agg #[.int .i64 3, .string (str nm), .int .i64 0, .slice none 0 0]) ∧ Keep (fun k => k < w.heap.size) w w' := by
  generalize str nm = s
  go_enter Tryz.func44, Tryz.ntmps44
  go_wp2
  exact bodyPost_ret (v := .agg #[.int .i64 3, .string s, .int .i64 0, .slice none 0 0]) (by simp [results, Tryz.results44, go_sem]) rfl ⟨rfl, ((Keep.refl _ w).alloc _).alloc _⟩
set_option maxRecDepth 100000 in
set_option maxHeartbeats 4000000 in
theorem leaf4 : Calls Tryz.prog 44 #[.agg #[.int .i64 4, .string (str nm), .int .i64 i, .slice none 0 0], .func (.func 46) #[] #[]] w fun e w' => ∃ b, e = .returned (.agg #[.int .i64 4, .string (str nm), .int .i64 0, .slice (some ⟨b, 0, none⟩) 0 0]) ∧ w.heap.size ≤ b ∧ Blk w' b 28 #[] ∧ Keep (fun k => k < w.heap.size) w w' := by
  generalize str nm = s
  obtain ⟨i0, hi0, hz0, hz1, hz2⟩ := info_parts infoT
  have hk0 : Keep (fun k => k < w.heap.size) w ((w.alloc (.cells #[.int .i64 4, .string s, .int .i64 i, .slice none 0 0] 28)).alloc zb) := ((Keep.refl _ w).alloc _).alloc _
  have hb2 := Blk.new (w.alloc (.cells #[.int .i64 4, .string s, .int .i64 i, .slice none 0 0] 28)) 28 #[.int .i64 0, .string ⟨#[]⟩, .int .i64 0, .slice none 0 0]
  have hb1 := (Blk.new w 28 #[.int .i64 4, .string s, .int .i64 i, .slice none 0 0]).alloc zb
  rw [World.size_alloc] at hb2
  obtain ⟨w3, hrun, r1, r2⟩ := run_make_full (P := Tryz.prog) ((w.alloc (.cells #[.int .i64 4, .string s, .int .i64 i, .slice none 0 0] 28)).alloc zb) 0 26 28 i0 (.agg #[.int .i64 0, .string ⟨#[]⟩, .int .i64 0, .slice none 0 0]) 4 Tryz.underlying26 hi0 hz0 hz1 .i64 .i64 0 (by rw [hz2]; omega) (by unfold maxLen; omega) (Nat.zero_le _)
  simp only [World.size_alloc] at hrun r1
  rw [show w.heap.size + 1 + 1 = w.heap.size + 2 from rfl] at hrun r1
  rw [show ((0 : Nat) : Int) = 0 from rfl] at hrun
  have hk3 : Keep (fun g => True) ((w.alloc (.cells #[.int .i64 4, .string s, .int .i64 i, .slice none 0 0] 28)).alloc zb) w3 := ⟨r2.os, r2.tape, r2.output, r2.size, fun g hg _ => r2.block g hg (by simp)⟩
  have hrow : Blk w3 (w.heap.size + 2) 28 #[] := by
    rcases r1.2 with ⟨e, h0⟩ | ⟨g, cp, cur, e, _, hb, _, _, hcs, _⟩
    · cases e
    · injection e with e1 _ e2
      injection e1 with e1
      injection e1 with e1
      subst e1 e2
      have : cur = #[] := Array.eq_empty_of_size_eq_zero (by omega)
      subst this
      exact hb
  have q1 := hb1.keep hk3 trivial
  have q2 := hb2.keep hk3 trivial
  have hkk := hk0.trans (hk3.less (fun _ _ => trivial))
  have n0 := q1.cell 0; have n1 := q1.cell 1; have n2 := q1.cell 2; have n3 := q1.cell 3
  simp at n0 n1 n2 n3
  have z0 := q2.cell 0; have z1 := q2.cell 1; have z2 := q2.cell 2; have z3 := q2.cell 3
  simp at z0 z1 z2 z3
  have f0 := q2.frozen 0; have f1 := q2.frozen 1; have f2 := q2.frozen 2; have f3 := q2.frozen 3
  have l1 := q1.lt; have l2 := q2.lt
  have hbf := q2.set4 (y0 := .int .i64 4) (y1 := .string s) (y2 := .int .i64 0) (y3 := .slice (some ⟨w.heap.size + 2, 0, none⟩) 0 0)
  have kf := (Keep.refl (fun g => g ≠ w.heap.size + 1) w3).set4 (g := w.heap.size + 1) (y0 := .int .i64 4) (y1 := .string s) (y2 := .int .i64 0) (y3 := .slice (some ⟨w.heap.size + 2, 0, none⟩) 0 0) (o := 0) (fun h => h rfl)
  have g0 := hbf.cell 0
  have g1 := hbf.cell 1
  have g2 := hbf.cell 2
  have g3 := hbf.cell 3
  simp at g0 g1 g2 g3
  have HF := Lib.hid (And.intro (hrow.keep kf (by omega)) (hkk.trans (kf.less (fun k (hk : k < w.heap.size) => by omega))))
  clear hrow hkk kf hbf q1 q2 hk3 hk0 hb1 hb2 r1 r2 hi0 hz0 hz1 hz2
  go_enter Tryz.func44, Tryz.ntmps44
  go_wp2_with fail
  go_loopw [33] (fun i wr => i = .int .i64 0 ∧ wr = w3) (fun i _ => 0)
  case atStart => exact ⟨rfl, rfl⟩
  case round =>
    obtain ⟨rfl, rfl⟩ := hrel
    go_wp2_with fail
    exact bodyPost_ret (v := .agg #[.int .i64 4, .string s, .int .i64 0, .slice (some ⟨w.heap.size + 2, 0, none⟩) 0 0]) (by simp [results, Tryz.results44, go_sem, g0, g1, g2, g3]) rfl ⟨w.heap.size + 2, rfl, by omega, HF.out.1, HF.out.2⟩
theorem leaf_any {k : Int} (hk : k = 1 ∨ k = 2 ∨ k = 3 ∨ k = 4) : Calls Tryz.prog 44 #[.agg #[.int .i64 k, .string (str nm), .int .i64 i, .slice none 0 0], .func (.func 46) #[] #[]] w fun e w' => ∃ a c, e = .returned (.agg #[.int .i64 k, .string (str (lfn k nm)), .int .i64 (lfi k i), .slice a 0 c]) ∧
    w'.ownsRow w.heap.size 28 4 (.slice a 0 c) 0 [] ∧ Keep (fun k => k < w.heap.size) w w' := by
  rcases hk with rfl | rfl | rfl | rfl
  · refine leaf1.mono ?_
    rintro e w' ⟨rfl, k⟩
    exact ⟨none, 0, rfl, ⟨rfl, .inl ⟨rfl, rfl⟩⟩, k⟩
  · refine leaf2.mono ?_
    rintro e w' ⟨rfl, k⟩
    exact ⟨none, 0, rfl, ⟨rfl, .inl ⟨rfl, rfl⟩⟩, k⟩
  · refine leaf3.mono ?_
    rintro e w' ⟨rfl, k⟩
    exact ⟨none, 0, rfl, ⟨rfl, .inl ⟨rfl, rfl⟩⟩, k⟩
  · refine leaf4.mono ?_
    rintro e w' ⟨b, rfl, hb, hB, k⟩
    exact ⟨some ⟨b, 0, none⟩, 0, rfl, ⟨rfl, .inr ⟨b, 0, #[], rfl, hb, hB, Nat.le_refl _, Nat.zero_le _, rfl, rfl⟩⟩, k⟩
end
end Go.Proofs.YtnfcbalppecnfaaGreat
namespace Go.Proofs.YtnfcbalppecnfaaGreat
open Go.RowKit Go.Maps
set_option linter.unusedVariables false
set_option linter.unusedSimpArgs false
theorem Keep.at_ {X Y : Nat → Prop} {w w' : World} (h : Keep X w w') (hX : ∀ k, k < w.heap.size → Y k → X k) : Keep Y w w' := ⟨h.os, h.tape, h.output, h.size, fun k hk hy => h.block k hk (hX k hk hy)⟩
theorem Val.open_ {G : List Nd} {R : Nat → Nat} {a : Nat} {t : T} {r : Nd} (hf : ∀ (a : Nat) (p : Nd), G[a]? = some p → p.k ≠ 4 → p.args = []) (h : Val G R a t) (hr : G[R a]? = some r) : (r.k = 1 ∨ r.k = 2 ∨ r.k = 3 ∨ r.k = 4) ∧ ∃ ts : List T, ts.length = r.args.length ∧ (∀ (j x : Nat) (u : T), r.args[j]? = some x → ts[j]? = some u → Val G R x u) ∧
    t.tm = .node r.k (lfn r.k r.nm) (lfi r.k r.i) (ts.map T.tm) ∧ ∀ u ∈ ts, u.ns < t.ns := by
  cases h with
  | v h k =>
    rw [hr] at h; cases h
    refine ⟨.inl k, [], by (rw [hf _ _ hr (by omega)]; rfl), fun j x u hj => by rw [hf _ _ hr (by omega)] at hj; simp at hj, ?_, by simp⟩
    rw [T.tm]; simp [lfn, lfi, k]
  | n h k =>
    rw [hr] at h; cases h
    refine ⟨.inr (.inl k), [], by (rw [hf _ _ hr (by omega)]; rfl), fun j x u hj => by rw [hf _ _ hr (by omega)] at hj; simp at hj, ?_, by simp⟩
    rw [T.tm]; simp [lfn, lfi, k]
  | a h k =>
    rw [hr] at h; cases h
    refine ⟨.inr (.inr (.inl k)), [], by (rw [hf _ _ hr (by omega)]; rfl), fun j x u hj => by rw [hf _ _ hr (by omega)] at hj; simp at hj, ?_, by simp⟩
    rw [T.tm]; simp [lfn, lfi, k]
  | c h k hl hs =>
    rw [hr] at h; cases h
    refine ⟨.inr (.inr (.inr k)), _, hl, hs, ?_, fun u hu => ?_⟩
    · rw [T.tm_c]; simp [lfn, lfi, k]
    · rw [T.ns_c]; have := nsT_mem hu; omega
section
variable {lo g mb gp cap : Nat} {ps : List Pt} {vs : List (Int × Nat)} {R rk : Nat → Nat}
theorem MS.keepY {qs : List Pt} {X : Nat → Prop} {w W : World} (h : MS lo g mb gp cap ps vs R rk qs w) (hk : Keep X w W) (hX : ∀ k, k < w.heap.size → X k ∨ ∃ cs, Blk w k 28 cs) : MS lo g mb gp cap ps vs R rk qs W := by
  have ty : ∀ k t cs, Blk w k t cs → t ≠ 28 → X k := fun k t cs hb ht => by
    rcases hX k hb.lt with h | ⟨cs', hb'⟩
    · exact h
    · exact absurd rfl (hb.ne_ hb' ht)
  obtain ⟨rest, hB⟩ := h.sb.pts
  refine ⟨h.sb.keepT hk (ty _ _ _ h.sb.box (by decide)) ?_ (ty _ _ _ hB (by decide)) (fun b cs hb _ => ty _ _ _ hb (by decide)), h.like, h.fo⟩
  rcases hX mb h.sb.map.lt with h1 | ⟨cs', hb'⟩
  · exact h1
  · exact absurd rfl (h.sb.map.ne_blk hb')
structure TL (lo g mb gp cap : Nat) (ps : List Pt) (vs : List (Int × Nat)) (R rk : Nat → Nat) (w : World) (qs0 : List Pt) (b6 : Nat) (k i : Int) (nm : List UInt8) (ts : List T) (j : Nat) (ua : Option Addr) (uc : Nat) (tps : List TP) (qs : List Pt) (wr : World) : Prop where
  ms : MS lo g mb gp cap ps vs R rk qs wr
  like : LikeS qs0 qs
  res : Blk wr w.heap.size 28 #[.int .i64 0, .string ⟨#[]⟩, .int .i64 0, .slice none 0 0]
  box : Blk wr b6 28 #[.int .i64 k, .string (str nm), .int .i64 i, .slice ua j uc]
  lb : w.heap.size < b6
  row : wr.ownsRow (w.heap.size + 1) 28 4 (.slice ua j uc) j (tps.flatMap TP.cells)
  nb : (Value.slice ua j uc).ownBlock ≠ some b6
  fr : ∀ p ∈ tps, Fr 0 (fun k => (Value.slice ua j uc).ownBlock = some k ∨ k = b6 ∨ k = w.heap.size) wr w.heap.size wr.heap.size p.1 p.2.1 p.2.2
  len : tps.length = j
  trm : tps.map (·.1) = (ts.take j).map T.tm
  kp : Keep (fun k => k < w.heap.size ∧ k ≠ gp) w wr
variable {w wr w2 : World} {qs0 qs q2 : List Pt} {b6 : Nat} {k i : Int} {nm : List UInt8} {ts : List T} {j : Nat} {ua : Option Addr} {uc : Nat} {tps : List TP} {a1 : Option Addr} {c1 : Nat} {t : T}
theorem TL.own (h : TL lo g mb gp cap ps vs R rk w qs0 b6 k i nm ts j ua uc tps qs wr) {b : Nat} (hb : (Value.slice ua j uc).ownBlock = some b) : w.heap.size + 1 ≤ b ∧ b < wr.heap.size ∧ ∃ cs, Blk wr b 28 cs := by
  obtain ⟨h1, cs, hB⟩ := row_type h.row hb
  exact ⟨h1, hB.lt, cs, hB⟩
theorem TL.next (h : TL lo g mb gp cap ps vs R rk w qs0 b6 k i nm ts j ua uc tps qs wr) (hgp : gp < w.heap.size) (ht : ts[j]? = some t)
    (hfr : Fr 0 (fun _ => False) w2 wr.heap.size w2.heap.size t.tm a1 c1) (hms : MS lo g mb gp cap ps vs R rk q2 w2) (hl : LikeS qs q2) (hk : Keep (fun k => k < wr.heap.size ∧ k ≠ gp) wr w2) :
    (b6 < w2.heap.size ∧ w2.cell? ⟨b6, 3, none⟩ = some (.slice ua j uc)) ∧ w2.ownsRow (w.heap.size + 1) 28 4 (.slice ua j uc) j (tps.flatMap TP.cells) ∧
    ∀ g1 cap1 w9, w9.ownsRow (w.heap.size + 1) 28 4 (.slice (some ⟨g1, 0, none⟩) (j + 1) cap1) (j + 1) (tps.flatMap TP.cells ++ t.tm.cells a1 c1) → (w2.alloc (.cells (t.tm.cells a1 c1).toArray 28)).grownBy w9 (Value.slice ua j uc).ownBlock → ((Value.slice ua j uc).ownBlock = some g1 ∨ g1 = w2.heap.size + 1) →
      (b6 < w9.heap.size ∧ w9.cell? ⟨b6, 3, none⟩ = some (.slice ua j uc) ∧ w9.frozen? ⟨b6, 3, none⟩ = false) ∧ ∀ W, W = w9.setCell ⟨b6, 3, none⟩ (.slice (some ⟨g1, 0, none⟩) (j + 1) cap1) → TL lo g mb gp cap ps vs R rk w qs0 b6 k i nm ts (j + 1) (some ⟨g1, 0, none⟩) cap1 (tps ++ [(t.tm, a1, c1)]) q2 W := by
  have hsz := h.kp.size
  have hk1 : Keep (fun k => k ≠ gp) wr w2 := hk.at_ (fun k h1 h2 => ⟨h1, h2⟩)
  have hz2 := hk.size
  have hlb := h.lb
  have hbx2 := h.box.keep hk1 (by omega)
  have hrow2 := row_on h.row hk1 (fun k hk => by have := (h.own hk).1; omega)
  have hc2 := hbx2.cell 3
  simp at hc2
  refine ⟨⟨hbx2.lt, hc2⟩, hrow2, fun g1 cap1 w9 hown hgr hat => ?_⟩
  have kg : Keep (fun k => (Value.slice ua j uc).ownBlock ≠ some k) w2 w9 := ((Keep.refl _ w2).alloc _).trans (Keep.ofGrown hgr (fun k e hx => hx e))
  have hbx9 := hbx2.keep kg h.nb
  have hc9 := hbx9.cell 3
  simp at hc9
  have hz9 := kg.size
  refine ⟨⟨hbx9.lt, hc9, hbx9.frozen 3⟩, fun W hW => ?_⟩
  have ks : Keep (fun k => k ≠ b6) w9 W := by rw [hW]; exact (Keep.refl _ w9).setCell (p := ⟨b6, 3, none⟩) (fun h => h rfl) _
  have hzW : W.heap.size = w9.heap.size := by rw [hW]; simp [World.setCell]
  have k2W : Keep (fun k => (Value.slice ua j uc).ownBlock ≠ some k ∧ k ≠ b6) w2 W := (kg.less (fun k hk => hk.1)).trans (ks.less (fun k hk => hk.2))
  have krW : Keep (fun k => k ≠ gp ∧ (Value.slice ua j uc).ownBlock ≠ some k ∧ k ≠ b6) wr W := (hk1.less (fun k hk => hk.1)).trans (k2W.less (fun k hk => hk.2))
  have hg1 : w.heap.size + 1 ≤ g1 ∧ g1 ≠ b6 := by
    rcases hat with e | e
    · exact ⟨(h.own e).1, fun e2 => h.nb (e2 ▸ e)⟩
    · have := h.box.lt; omega
  refine ⟨hms.keepY k2W (fun k hk => ?_), h.like.trans hl, h.res.keep krW ⟨by omega, fun e => by have := (h.own e).1; omega, by omega⟩, ?_, h.lb, ?_, ?_, ?_, ?_, ?_, ?_⟩
  · by_cases e1 : (Value.slice ua j uc).ownBlock = some k
    · obtain ⟨_, cs, hB⟩ := row_type hrow2 e1
      exact .inr ⟨cs, hB⟩
    · by_cases e2 : k = b6
      · subst e2; exact .inr ⟨_, hbx2⟩
      · exact .inl ⟨e1, e2⟩
  · rw [hW]
    have := hbx9.set_ 3 (.slice (some ⟨g1, 0, none⟩) (j + 1) cap1)
    simpa using this
  · have := row_on hown ks (fun k hk => by simp only [Value.ownBlock, Option.some.injEq] at hk; omega)
    rw [List.flatMap_append]
    simpa [TP.cells] using this
  · simp only [Value.ownBlock, ne_eq, Option.some.injEq]; exact hg1.2
  · intro p hp
    rcases List.mem_append.1 hp with hp | hp
    · have h1 := (h.fr p hp).keepR krW (fun k hk => by
        rcases hk with hk | ⟨h1, h2⟩
        · omega
        · exact ⟨by omega, fun e => h2 (.inl e), fun e => h2 (.inr (.inl e))⟩)
      refine (h1.growR (Q' := fun k => (Value.slice (some ⟨g1, 0, none⟩) (j + 1) cap1).ownBlock = some k ∨ k = b6 ∨ k = w.heap.size) (Nat.le_refl _) (fun k hk hq => ?_)).up (by omega) (Nat.le_refl _)
      simp only [Value.ownBlock, Option.some.injEq] at hq
      rcases hq with hq | hq
      · rcases hat with e | e
        · exact .inl (.inl (by rw [e, hq]))
        · exact .inr (by omega)
      · exact .inl (.inr hq)
    · simp only [List.mem_singleton] at hp
      subst hp
      have h1 := hfr.keepR k2W (fun k hk => by
        rcases hk with hk | ⟨h1, h2⟩
        · omega
        · exact ⟨fun e => by have := (h.own e).2.1; omega, fun e => by have := h.box.lt; omega⟩)
      refine (h1.growR (Q' := fun k => (Value.slice (some ⟨g1, 0, none⟩) (j + 1) cap1).ownBlock = some k ∨ k = b6 ∨ k = w.heap.size) (Nat.le_refl _) (fun k hk hq => ?_)).up (by omega) (by omega)
      simp only [Value.ownBlock, Option.some.injEq] at hq
      have hbl := h.box.lt
      rcases hq with hq | hq | hq
      · rcases hat with e | e
        · have := (h.own e).2.1; omega
        · exact .inr (by omega)
      · omega
      · omega
  · rw [List.length_append, List.length_singleton, h.len]
  · have hjl := get_lt' ht
    rw [List.map_append, h.trm, List.take_succ_eq_append_getElem hjl, List.map_append]
    rw [List.getElem?_eq_getElem hjl] at ht
    rw [Option.some.inj ht]; rfl
  · exact h.kp.trans (krW.less (fun k hk => ⟨hk.2, fun e => by have := (h.own e).1; omega, by omega⟩))
theorem TL.done (h : TL lo g mb gp cap ps vs R rk w qs0 b6 k i nm ts ts.length ua uc tps qs wr) (hgp : gp < w.heap.size) (hk : (Lit.int .i64 k).wf = true) (hi : (Lit.int .i64 i).wf = true) (hn : nm.length ≤ maxLen) (hl : ts.length ≤ 8) :
    ∀ W, W = ((((wr.setCell ⟨w.heap.size, 0, none⟩ (.int .i64 k)).setCell ⟨w.heap.size, 1, none⟩ (.string (str nm))).setCell ⟨w.heap.size, 2, none⟩ (.int .i64 i)).setCell ⟨w.heap.size, 3, none⟩ (.slice ua ts.length uc)) →
      Fr 0 (fun _ => False) W w.heap.size W.heap.size (.node k nm i (ts.map T.tm)) ua uc ∧ MS lo g mb gp cap ps vs R rk qs W ∧ LikeS qs0 qs ∧ Keep (fun k => k < w.heap.size ∧ k ≠ gp) w W := by
  intro W hW
  have hsz := h.kp.size
  have ks : Keep (fun k => k ≠ w.heap.size) wr W := by rw [hW]; exact (Keep.refl _ wr).set4 (o := 0) (fun h => h rfl)
  have hzW : W.heap.size = wr.heap.size := by rw [hW]; simp [World.setCell]
  have htm : tps.map (·.1) = ts.map T.tm := by rw [h.trm, List.take_length]
  refine ⟨?_, h.ms.keepY ks (fun k hk => ?_), h.like, h.kp.trans (ks.less (fun k hk => by omega))⟩
  · have hrow := row_on h.row ks (fun k hk => by have := (h.own hk).1; omega)
    rcases hrow.2 with ⟨e, h0⟩ | ⟨b, cp, cur, e, hb, a2, a3, a4, a5, a6⟩
    · have hts : ts = [] := List.length_eq_zero_iff.1 h0
      subst hts
      injection e with e1 _ e2
      subst e1 e2
      exact .old (tm_leaf hk hi hn) (by omega)
    · injection e with e1 _ e2
      subst e1 e2
      have hB : Blk W b 28 cur := a2
      rw [← htm]
      have hcur : cur = (tps.flatMap TP.cells ++ cur.toList.drop (ts.length * 4)).toArray := by
        rw [← a6, List.take_append_drop]
      rw [hcur] at hB
      have htl := h.len
      refine .node hk hi hn (by rw [htl]; unfold maxLen; omega) (by omega) hB.lt (fun h => h) hB ⟨by omega, a4, ?_⟩ fun q p hp => ?_
      · rw [← a6, List.take_append_drop, Array.length_toList, a5]
      · have h1 := (h.fr p (List.mem_of_getElem? hp)).keepR ks (fun k hk => by
          rcases hk with hk | ⟨h1, h2⟩
          · omega
          · exact fun e => h2 (.inr (.inr e)))
        exact (h1.growR (Q' := fun _ => False) (Nat.le_refl _) (fun k _ hq => hq.elim)).up (by omega) (Nat.le_refl _)
  · by_cases e : k = w.heap.size
    · subst e; exact .inr ⟨_, h.res⟩
    · exact .inl e
end
end Go.Proofs.YtnfcbalppecnfaaGreat
namespace Go.Proofs.YtnfcbalppecnfaaGreat
open Go.RowKit Go.Maps
set_option linter.unusedVariables false
set_option linter.unusedSimpArgs false
def Nd.wf (p : Nd) : Prop := (Lit.int .i64 p.i).wf = true ∧ p.nm.length ≤ maxLen
def TermC (lo g mb gp cap : Nat) (ps : List Pt) (vs : List (Int × Nat)) (R rk : Nat → Nat) (t : T) : Prop := ∀ (w : World) (qs : List Pt) (x : Nat), MS lo g mb gp cap ps vs R rk qs w → x < ps.length → Val (ps.map Pt.nd) R x t →
  Calls Tryz.prog 94 #[.pointer (some ⟨g, 0, none⟩), .int .i64 x] w fun e w' => ∃ (a : Option Addr) (c : Nat) (qs' : List Pt), e = .returned (tv t.tm a c) ∧ Fr 0 (fun _ => False) w' w.heap.size w'.heap.size t.tm a c ∧ MS lo g mb gp cap ps vs R rk qs' w' ∧ LikeS qs qs' ∧ Keep (fun k => k < w.heap.size ∧ k ≠ gp) w w'
section
variable {lo g mb gp cap : Nat} {ps : List Pt} {vs : List (Int × Nat)} {R rk : Nat → Nat} {D : Nat → T}
theorem TL.done0 {w wr : World} {qs0 qs : List Pt} {b6 : Nat} {k i : Int} {nm : List UInt8} {ts : List T} {j : Nat} {ua : Option Addr} {uc : Nat} {tps : List TP} (h : TL lo g mb gp cap ps vs R rk w qs0 b6 k i nm ts j ua uc tps qs wr) (hj : ts.length = j) (hgp : gp < w.heap.size) (hk : (Lit.int .i64 k).wf = true) (hi : (Lit.int .i64 i).wf = true) (hn : nm.length ≤ maxLen) (hl : j ≤ 8) :
    ∀ W, W = ((((wr.setCell ⟨w.heap.size, 0, none⟩ (.int .i64 k)).setCell ⟨w.heap.size, 1, none⟩ (.string (str nm))).setCell ⟨w.heap.size, 2, none⟩ (.int .i64 i)).setCell ⟨w.heap.size, 3, none⟩ (.slice ua j uc)) →
      Fr 0 (fun _ => False) W w.heap.size W.heap.size (.node k nm i (ts.map T.tm)) ua uc ∧ MS lo g mb gp cap ps vs R rk qs W ∧ LikeS qs0 qs ∧ Keep (fun k => k < w.heap.size ∧ k ≠ gp) w W := by
  subst hj; exact h.done hgp hk hi hn hl
set_option maxRecDepth 100000 in
set_option maxHeartbeats 4000000 in
theorem term_step (hG : Gr (ps.map Pt.nd) D) (hcl : Cl (ps.map Pt.nd) R) (hn : ps.length ≤ 5000) (h8 : ∀ p ∈ ps, p.nd.args.length ≤ 8) (hwf : ∀ p ∈ ps, p.nd.wf) {t : T} (ih : ∀ u : T, u.ns < t.ns → TermC lo g mb gp cap ps vs R rk u) : TermC lo g mb gp cap ps vs R rk t := by
  intro w qs x h hx hv
  obtain ⟨hrr, hral⟩ := h.root hcl hx
  obtain ⟨pa, hpa⟩ : ∃ pa, qs[R x]? = some pa := ⟨_, List.getElem?_eq_getElem (by rw [h.len]; exact hral)⟩
  have hpG : (ps.map Pt.nd)[R x]? = some pa.nd := by rw [← h.like.nds, List.getElem?_map, hpa]; rfl
  obtain ⟨hkind, ts, htl, htv, htm, hns⟩ := hv.open_ hG.flat hpG
  obtain ⟨pp, hpp⟩ : ∃ pp, ps[R x]? = some pp := ⟨_, List.getElem?_eq_getElem hral⟩
  have epp : pp.nd = pa.nd := by rw [List.getElem?_map, hpp] at hpG; exact Option.some.inj hpG
  have hn8 : pa.nd.args.length ≤ 8 := by rw [← epp]; exact h8 pp (List.mem_of_getElem? hpp)
  have hw2 : pa.nd.wf := by rw [← epp]; exact hwf pp (List.mem_of_getElem? hpp)
  have hajl : ∀ aj ∈ pa.nd.args, aj < ps.length := fun aj hm => by have := hG.lt _ _ hpG aj hm; omega
  have hof2 := fun W (hW : MS lo g mb gp cap ps vs R rk qs W) => hW.of hx hn
  obtain ⟨ra, hra⟩ : ∃ ra, ra = R x := ⟨_, rfl⟩
  rw [← hra] at hrr hral hpa hpG hof2
  obtain ⟨n0, hn0⟩ : ∃ n0, n0 = ps.length := ⟨_, rfl⟩
  have HN := Lib.hid hn0
  obtain ⟨n, hnn⟩ : ∃ n, pa.nd.args.length = n := ⟨_, rfl⟩
  obtain ⟨ja, hja⟩ : ∃ ja, pa.ja = ja := ⟨_, rfl⟩
  obtain ⟨K, hK⟩ : ∃ K, pa.nd.k = K := ⟨_, rfl⟩
  obtain ⟨N, hNN⟩ : ∃ N, lfn pa.nd.k pa.nd.nm = N := ⟨_, rfl⟩
  obtain ⟨I, hII⟩ : ∃ I, lfi pa.nd.k pa.nd.i = I := ⟨_, rfl⟩
  have hwn : N.length ≤ maxLen := by rw [← hNN]; unfold lfn; split; exact hw2.2; simp
  have hwi : (Lit.int .i64 I).wf = true := by rw [← hII]; unfold lfi; split; exact hw2.1; decide
  have hleaf := fun W => leaf_any (w := W) (i := pa.nd.i) (nm := pa.nd.nm) hkind
  rw [hNN, hII] at hleaf htm
  rw [hK] at hleaf htm hkind
  have hwk : (Lit.int .i64 K).wf = true := by rcases hkind with rfl | rfl | rfl | rfl <;> decide
  obtain ⟨bj, hbj⟩ : ∃ bj, 0 < n → ja = some ⟨bj, 0, none⟩ := by
    by_cases h0 : 0 < n
    · obtain ⟨b, c, cs, e, _⟩ := row_some (h.sb.js _ (List.mem_of_getElem? hpa)) (by rw [hnn]; exact h0)
      injection e with e1
      exact ⟨b, fun _ => by rw [← hja]; exact e1⟩
    · exact ⟨0, fun h => absurd h h0⟩
  have HJA := Lib.hid hbj
  have HJN := Lib.hid (And.intro hja (And.intro hnn hK))
  have HLEAF := Lib.hid hleaf
  have hgp := h.sb.ltp
  have HT := Lib.hid (And.intro hpa (And.intro hpG (And.intro hgp (And.intro (htl.trans hnn) (And.intro htv (And.intro hns (And.intro hajl (And.intro (show n ≤ 8 by omega) (And.intro hwk (And.intro hwi hwn))))))))))
  have HLN := Lib.hid (htl.trans hnn)
  have HIH := Lib.hid ih
  obtain ⟨tt, htt⟩ : ∃ tt, tt = t.tm := ⟨_, rfl⟩
  rw [← htt]
  rw [← htt] at htm
  have HTT := Lib.hid htm
  -- the answer's cell
  obtain ⟨wb, hwb⟩ : ∃ wb, wb = w.alloc (.cells #[.int .i64 0, .string ⟨#[]⟩, .int .i64 0, .slice none 0 0] 28) := ⟨_, rfl⟩
  have hkwb : Keep (fun k => k < w.heap.size ∧ k ≠ gp) w wb := by rw [hwb]; exact (Keep.refl _ w).alloc _
  have hzb : wb.heap.size = w.heap.size + 1 := by rw [hwb]; simp
  have hbb : Blk wb w.heap.size 28 #[.int .i64 0, .string ⟨#[]⟩, .int .i64 0, .slice none 0 0] := by rw [hwb]; exact Blk.new w 28 _
  have m2 : MS lo g mb gp cap ps vs R rk qs wb := by rw [hwb]; exact h.keep ((Keep.refl _ w).alloc _)
  have HH := Lib.hid (And.intro h (And.intro hgp hx))
  have HWB := Lib.hid (And.intro hwb (And.intro hkwb (And.intro hzb hbb)))
  have c0 := m2.hd
  rw [← hn0] at c0 hral
  have a0 := m2.sb.cell hpa (f := 0) rfl
  have a1 := m2.sb.cell hpa (f := 1) rfl
  have a2 := m2.sb.cell hpa (f := 2) rfl
  have a3 := m2.sb.cell hpa (f := 3) rfl
  have a4 := m2.sb.cell hpa (f := 4) rfl
  have a5 := m2.sb.cell hpa (f := 5) rfl
  have a6 := m2.sb.cell hpa (f := 6) rfl
  have a7 := m2.sb.cell hpa (f := 7) rfl
  have a8 := m2.sb.cell hpa (f := 8) rfl
  simp only [Nat.add_zero] at a0
  rw [hK] at a0
  rw [hja, hnn] at a4
  have lt2 := m2.sb.ltp
  have lt2g := m2.sb.box.lt
  have hcells : ∀ (q3 : List Pt) (w3 : World), MS lo g mb gp cap ps vs R rk q3 w3 → LikeS qs q3 → q3[ra]? = some pa := fun q3 w3 h3 l3 => root_stay l3 m2.fo h3.fo (by have := HN.out; omega) (by rw [hra] at hrr ⊢; exact hrr) hpa
  have HCE := Lib.hid hcells; clear hcells
  have HOF2 := Lib.hid hof2; clear hof2
  have M2D := Lib.hid m2.drew
  have M2A := Lib.hid (m2.keep ((Keep.refl _ wb).alloc (.cells #[.int .i64 0, .string ⟨#[]⟩, .int .i64 0, .slice none 0 0, .slice none 0 0, .int .i64 0, .int .i64 0, .int .i64 0, .int .i64 0] 147))).drew
  have HZB := Lib.hid (Blk.new wb 147 #[.int .i64 0, .string ⟨#[]⟩, .int .i64 0, .slice none 0 0, .slice none 0 0, .int .i64 0, .int .i64 0, .int .i64 0, .int .i64 0]).drew
  obtain ⟨i0, hi0, hz0, hz1, hz2⟩ := info_parts infoT
  have HRA := Lib.hid (And.intro hra (And.intro hrr hral))
  clear hzb h hx hv hrr hpa hpG htl htv htm hns hpp epp hw2 hajl hra hn0 hn hnn hja hK hNN hII hwn hwi hleaf hwk hbj hgp hn8 ih htt hkwb hbb m2 hG hcl h8 hwf hkind
  go_enter Tryz.func94, Tryz.ntmps94
  go_wp2_with fail
  rw [← HWB.out.1]
  clear hwb
  have hrl := HRA.out.2.2
  go_region_held3 (fun w' => w'.cell? ⟨g, 0, none⟩ = some (.slice (some ⟨gp, 0, none⟩) n0 cap) ∧ w'.cell? ⟨gp, ra * 9, none⟩ = some (.int .i64 K) ∧ w'.cell? ⟨gp, ra * 9 + 1, none⟩ = some (.string (str pa.nd.nm)) ∧ w'.cell? ⟨gp, ra * 9 + 2, none⟩ = some (.int .i64 pa.nd.i) ∧ w'.cell? ⟨gp, ra * 9 + 3, none⟩ = some (.slice pa.ta pa.tl pa.tc) ∧ w'.cell? ⟨gp, ra * 9 + 4, none⟩ = some (.slice ja n pa.jc) ∧ w'.cell? ⟨gp, ra * 9 + 5, none⟩ = some (.int .i64 (pa.same : Int)) ∧ w'.cell? ⟨gp, ra * 9 + 6, none⟩ = some (.int .i64 pa.st) ∧ w'.cell? ⟨gp, ra * 9 + 7, none⟩ = some (.int .i64 pa.sz) ∧ w'.cell? ⟨gp, ra * 9 + 8, none⟩ = some (.int .i64 pa.dp)) (first | with_reducible exact ⟨c0, a0, a1, a2, a3, a4, a5, a6, a7, a8⟩ | (refine ⟨?_, ?_, ?_, ?_, ?_, ?_, ?_, ?_, ?_, ?_⟩ <;> (repeat (with_reducible refine far_cell (by assumption) ?_)) <;> with_reducible assumption) | exact ⟨c0, a0, a1, a2, a3, a4, a5, a6, a7, a8⟩ | go_keep)
    (first
      | (go_at_call 91; refine (HOF2.out _ (by exact M2D.out)).mono ?_; rintro e w3 ⟨q3, rfl, m3, l3, k3⟩; clear c0 a0 a1 a2 a3 a4 a5 a6 a7 a8; have hpa3 := HCE.out q3 w3 m3 l3; have c0 := m3.hd; rw [← HN.out] at c0; have a0 := m3.sb.cell hpa3 (f := 0) rfl; have a1 := m3.sb.cell hpa3 (f := 1) rfl; have a2 := m3.sb.cell hpa3 (f := 2) rfl; have a3 := m3.sb.cell hpa3 (f := 3) rfl; have a4 := m3.sb.cell hpa3 (f := 4) rfl; have a5 := m3.sb.cell hpa3 (f := 5) rfl; have a6 := m3.sb.cell hpa3 (f := 6) rfl; have a7 := m3.sb.cell hpa3 (f := 7) rfl; have a8 := m3.sb.cell hpa3 (f := 8) rfl; simp only [Nat.add_zero] at a0; rw [HJN.out.2.2] at a0; rw [HJN.out.1, HJN.out.2.1] at a4; have lt3 := m3.sb.ltp; have H3 := Lib.hid (And.intro m3 (And.intro l3 (And.intro k3 hpa3))); clear m3 l3 k3 hpa3)
      | (go_at_call 91; refine (HOF2.out _ (by exact M2A.out)).mono ?_; rintro e w3 ⟨q3, rfl, m3, l3, k3⟩; clear c0 a0 a1 a2 a3 a4 a5 a6 a7 a8; have hpa3 := HCE.out q3 w3 m3 l3; have c0 := m3.hd; rw [← HN.out] at c0; have a0 := m3.sb.cell hpa3 (f := 0) rfl; have a1 := m3.sb.cell hpa3 (f := 1) rfl; have a2 := m3.sb.cell hpa3 (f := 2) rfl; have a3 := m3.sb.cell hpa3 (f := 3) rfl; have a4 := m3.sb.cell hpa3 (f := 4) rfl; have a5 := m3.sb.cell hpa3 (f := 5) rfl; have a6 := m3.sb.cell hpa3 (f := 6) rfl; have a7 := m3.sb.cell hpa3 (f := 7) rfl; have a8 := m3.sb.cell hpa3 (f := 8) rfl; simp only [Nat.add_zero] at a0; rw [HJN.out.2.2] at a0; rw [HJN.out.1, HJN.out.2.1] at a4; have lt3 := m3.sb.ltp; have hbz := HZB.out.keep k3 (Nat.ne_of_gt lt2); have z0 : w3.cell? ⟨wb.heap.size, 0, none⟩ = some (.int .i64 0) := hbz.cell 0; have z1 : w3.cell? ⟨wb.heap.size, 1, none⟩ = some (.string ⟨#[]⟩) := hbz.cell 1; have z2 : w3.cell? ⟨wb.heap.size, 2, none⟩ = some (.int .i64 0) := hbz.cell 2; have z3 : w3.cell? ⟨wb.heap.size, 3, none⟩ = some (.slice none 0 0) := hbz.cell 3; have z4 : w3.cell? ⟨wb.heap.size, 4, none⟩ = some (.slice none 0 0) := hbz.cell 4; have z5 : w3.cell? ⟨wb.heap.size, 5, none⟩ = some (.int .i64 0) := hbz.cell 5; have z6 : w3.cell? ⟨wb.heap.size, 6, none⟩ = some (.int .i64 0) := hbz.cell 6; have z7 : w3.cell? ⟨wb.heap.size, 7, none⟩ = some (.int .i64 0) := hbz.cell 7; have z8 : w3.cell? ⟨wb.heap.size, 8, none⟩ = some (.int .i64 0) := hbz.cell 8; have y0 := hbz.frozen 0; have y1 := hbz.frozen 1; have y2 := hbz.frozen 2; have y3 := hbz.frozen 3; have y4 := hbz.frozen 4; have y5 := hbz.frozen 5; have y6 := hbz.frozen 6; have y7 := hbz.frozen 7; have y8 := hbz.frozen 8; have lz := hbz.lt; have hgb : g ≠ wb.heap.size := Nat.ne_of_lt lt2g; have hpb : gp ≠ wb.heap.size := Nat.ne_of_lt lt2; clear lt2 lt2g; generalize hbx : wb.heap.size = bx at hbz z0 z1 z2 z3 z4 z5 z6 z7 z8 y0 y1 y2 y3 y4 y5 y6 y7 y8 lz hgb hpb ⊢; have HBX := Lib.hid hbx; clear hbx; have H3 := Lib.hid (And.intro m3 (And.intro l3 (And.intro k3 (And.intro hpa3 hbz)))); clear m3 l3 k3 hpa3 hbz))
  · clear c0 a0 a1 a2 a3 a4 a5 a6 a7 a8
    obtain ⟨m3, l3, k3, hpa3⟩ := H3.out
    obtain ⟨W4, hW4⟩ : ∃ W4, W4 = w3.alloc (.cells #[.int .i64 K, .string (str pa.nd.nm), .int .i64 pa.nd.i, .slice pa.ta pa.tl pa.tc, .slice ja n pa.jc, .int .i64 (pa.same : Int), .int .i64 pa.st, .int .i64 pa.sz, .int .i64 pa.dp] 147) := ⟨_, rfl⟩
    rw [← hW4]
    obtain ⟨bx, hbx⟩ : ∃ bx, bx = w3.heap.size := ⟨_, rfl⟩
    have hb4 : Blk W4 bx 147 #[.int .i64 K, .string (str pa.nd.nm), .int .i64 pa.nd.i, .slice pa.ta pa.tl pa.tc, .slice ja n pa.jc, .int .i64 (pa.same : Int), .int .i64 pa.st, .int .i64 pa.sz, .int .i64 pa.dp] := by rw [hW4, hbx]; exact Blk.new w3 147 _
    have hk34 : Keep (fun k => k < w3.heap.size) w3 W4 := by rw [hW4]; exact (Keep.refl _ w3).alloc _
    have m4 := m3.keep hk34
    rw [← hbx]
    have HBX := Lib.hid hbx
    have hkb4 : Keep (fun k => k < wb.heap.size ∧ k ≠ gp) wb W4 := by
      have s3 := k3.size
      simp only [World.size_alloc, World.drew] at s3
      exact (((Keep.refl _ wb).drew).trans (k3.less (fun k hk => hk.2))).trans (hk34.less (fun k hk => by have := hk.1; omega))
    clear hW4 hbx H3 m3 k3 hpa3 hk34 HOF2 M2D M2A HZB HCE lt2 lt2g
    have hkw4 : Keep (fun k => k < w.heap.size ∧ k ≠ gp) w W4 := (HWB.out.2.1).trans (hkb4.less (fun k hk => ⟨by have := HWB.out.2.2.1; omega, hk.2⟩))
    have hres4 : Blk W4 w.heap.size 28 #[.int .i64 0, .string ⟨#[]⟩, .int .i64 0, .slice none 0 0] := HWB.out.2.2.2.keep hkb4 ⟨by have := HWB.out.2.2.1; omega, by have := HH.out.2.1; omega⟩
    have p0 := hb4.cell 0
    have p1 := hb4.cell 1
    have p2 := hb4.cell 2
    simp at p0 p1 p2
    have lpb := hb4.lt
    have hz4 := hkw4.size
    have hl4 := hres4.lt
    have H4 := Lib.hid (And.intro m4 (And.intro l3 (And.intro hkw4 (And.intro hres4 hb4))))
    clear m4 l3 hkw4 hres4 hb4 hkb4
    go_wp2_with fail
    refine (HLEAF.out W4).mono ?_
    rintro e w5 ⟨a5, c5, rfl, hrow5, k5⟩
    obtain ⟨m4, l3, hkw4, hres4, hb4⟩ := H4.out
    have hz5 := k5.size
    have hb5 := hb4.keep k5 lpb
    have p4 := hb5.cell 4
    simp at p4
    have lp5 := hb5.lt
    obtain ⟨b6, hb6⟩ : ∃ b6, b6 = w5.heap.size := ⟨_, rfl⟩
    have kal : Keep (fun k => k < w5.heap.size) w5 (w5.alloc (.cells #[.int .i64 K, .string (str N), .int .i64 I, .slice a5 0 c5] 28)) := (Keep.refl _ w5).alloc _
    have htl0 : TL lo g mb gp cap ps vs R rk w qs b6 K I N ts 0 a5 c5 [] q3 (w5.alloc (.cells #[.int .i64 K, .string (str N), .int .i64 I, .slice a5 0 c5] 28)) := by
      refine ⟨(m4.keep k5).keep kal, l3, (hres4.keep k5 hl4).keep kal (by omega), ?_, by omega, ?_, ?_, fun p hp => by simp at hp, rfl, rfl, (hkw4.trans (k5.less (fun k hk => by omega))).trans (kal.less (fun k hk => by omega))⟩
      · rw [hb6]; exact Blk.new w5 28 _
      · exact row_on (row_base hrow5 (by omega)) kal (fun k hk => by obtain ⟨_, cs, hB⟩ := row_type hrow5 hk; exact hB.lt)
      · intro e
        obtain ⟨_, cs, hB⟩ := row_type hrow5 e
        have := hB.lt
        omega
    have HTL0 := Lib.hid htl0
    have HB6 := Lib.hid (And.intro hb6 (show w.heap.size < w5.heap.size by omega))
    clear htl0 hb4 hb5 k5 hrow5 kal m4 l3 hkw4 hres4 H4 p0 p1 p2 hz4 hl4 lpb hz5
    clear hb6
    go_wp2_with fail
    rw [← HB6.out.1]
    go_loopw [8, 32] (fun _ i' wr => ∃ (j : Nat) (ua : Option Addr) (uc : Nat) (tps : List TP) (q : List Pt), j ≤ n ∧ i' = .int .i64 j ∧ TL lo g mb gp cap ps vs R rk w qs b6 K I N ts j ua uc tps q wr) (fun _ i' _ => n - (intOf i').toNat)
    case atStart => exact ⟨0, a5, c5, [], q3, Nat.zero_le _, rfl, HTL0.out⟩
    case round =>
      clear HTL0 p4 lp5
      obtain ⟨j, ua, uc, tps, q, hj, rfl, hr⟩ := hrel
      by_cases hlj : j < n
      · obtain ⟨hpa, hpG, hgp, htl, htv, hns, hajl, hn8⟩ := HT.out
        obtain ⟨aj, haj⟩ : ∃ aj, pa.nd.args[j]? = some aj := ⟨_, List.getElem?_eq_getElem (by rw [HJN.out.2.1]; exact hlj)⟩
        obtain ⟨tj, htj⟩ : ∃ tj, ts[j]? = some tj := ⟨_, List.getElem?_eq_getElem (by rw [htl]; exact hlj)⟩
        have hvj := htv j aj tj haj htj
        obtain ⟨s, hs⟩ := hr.like.get hpa
        obtain ⟨bj', cj', csj, ej, hlj', hbj, hnj, hcj⟩ := row_some (hr.ms.sb.js _ (List.mem_of_getElem? hs)) (by dsimp only; rw [HJN.out.2.1]; omega)
        have hja := HJA.out (by omega)
        have ej1 : pa.ja = some ⟨bj', 0, none⟩ := by injection ej
        clear ej
        rw [HJN.out.1, hja] at ej1
        have ej2 : bj = bj' := by injection ej1 with ej1; injection ej1
        clear ej1
        subst ej2
        subst hja
        have cj := hcj j (.int .i64 (aj : Int)) (by unfold jv; rw [List.getElem?_map]; dsimp only; rw [haj]; rfl)
        have ljb := hbj.lt
        have hcall := HIH.out tj (hns tj (List.mem_of_getElem? htj)) wr.drew q aj hr.ms.drew (hajl aj (List.mem_of_getElem? haj)) hvj
        have hnext := fun w7 q2 a1 c1 hfr hms hl hk => hr.next (w2 := w7) (q2 := q2) (a1 := a1) (c1 := c1) hgp htj hfr hms hl hk
        obtain ⟨y, hy⟩ : ∃ y, y = tj.tm := ⟨_, rfl⟩
        rw [← hy] at hcall
        unfold tv at hcall
        simp only [← hy] at hnext
        have HCALL := Lib.hid hcall; clear hcall
        have HNX := Lib.hid hnext; clear hnext
        have c3 := hr.box.cell 3
        simp at c3
        have lb6 := hr.box.lt
        have hzr := hr.kp.size
        have hwj : IntKind.i64.wrap ((j : Int) + 1) = (j : Int) + 1 := by rw [IntKind.wrap_i64]; omega
        clear hpa hpG hgp htl htv hns hajl haj htj hvj hs hcj hbj hnj hlj' hr hy
        go_wp2_with fail
        go_region_law (first
          | (go_simp; go_at_call 94; refine HCALL.out.mono ?_; rintro e w7 ⟨a1, c1, q2, rfl, hfr, hms, hl, hk⟩; obtain ⟨⟨lb2, cb2⟩, hrow2, haft⟩ := HNX.out w7 q2 a1 c1 hfr hms hl (⟨hk.os, hk.tape, hk.output, hk.size, hk.block⟩); have hz7 : wr.heap.size ≤ w7.heap.size := hk.size; have HROW := Lib.hid hrow2; have HAFT := Lib.hid haft; clear hfr hms hl hk hrow2 haft)
          | (refine step_append_lies _ rfl (.tmp 37) (.tmp 41) 26 rfl (w.heap.size + 1) 28 i0 (.agg #[.int .i64 0, .string ⟨#[]⟩, .int .i64 0, .slice none 0 0]) 4 56 Tryz.underlying26 hi0 hz0 hz1 hz2 rfl (by decide) (.slice ua j uc) j _ (by first | rfl | (simp [Act.eval, Act.put]; done)) (HROW.out.alloc _) ⟨w7.heap.size, 0, none⟩ 1 1 (y.cells a1 c1) (by first | rfl | (simp [Act.eval, Act.put]; done)) rfl (news_at (Blk.new w7 28 (y.cells a1 c1).toArray)) (by simp [Tm.cells, Value.oneCell']) (by decide) (by unfold maxLen; omega) (by omega) (by simp; omega) (w7.heap.size + 1) (by simp) ?_; intro g1 cap1 w9 hown hgr hat hltg1; obtain ⟨⟨lb9, cb9, fb9⟩, hfin⟩ := HAFT.out g1 cap1 w9 hown hgr hat; have HFIN := Lib.hid hfin; clear hown hgr hat hfin))
        all_goals
          clear lb2 cb2 HNX HCALL HAFT HROW hz7 hltg1 lb9 cb9 fb9
          go_wp2_with fail
          go_roundw
          case rel => exact ⟨j + 1, some ⟨g1, 0, none⟩, cap1, _, q2, by omega, by go_num, HFIN.out _ rfl⟩
          case measure => simp [intOf]; omega
      · obtain rfl : j = n := by omega
        obtain ⟨hpa, hpG, hgp, htl, htv, hns, hajl, hn8, hwk, hwi, hwn⟩ := HT.out
        have c0 := hr.box.cell 0; have c1 := hr.box.cell 1; have c2 := hr.box.cell 2; have c3 := hr.box.cell 3
        simp at c0 c1 c2 c3
        have lb6 := hr.box.lt
        have d0 := hr.res.cell 0; have d1 := hr.res.cell 1; have d2 := hr.res.cell 2; have d3 := hr.res.cell 3
        simp at d0 d1 d2 d3
        have lr := hr.res.lt
        have f0 := hr.res.frozen 0; have f1 := hr.res.frozen 1; have f2 := hr.res.frozen 2; have f3 := hr.res.frozen 3
        have hbf := hr.res.set4 (y0 := .int .i64 K) (y1 := .string (str N)) (y2 := .int .i64 I) (y3 := .slice ua j uc)
        have g0 := hbf.cell 0; have g1 := hbf.cell 1; have g2 := hbf.cell 2; have g3 := hbf.cell 3
        simp at g0 g1 g2 g3
        have hdone := hr.done0 htl hgp hwk hwi hwn hn8 _ rfl
        have HD := Lib.hid hdone
        clear hdone hbf hpa hpG hgp htl htv hns hajl hn8 hr
        go_wp2_with fail
        have htt := HTT.out
        subst htt
        exact bodyPost_ret (v := .agg #[.int .i64 K, .string (str N), .int .i64 I, .slice ua j uc]) (by simp [results, Tryz.results94, go_sem, g0, g1, g2, g3]) rfl ⟨ua, uc, q, by (unfold tv; simp only [Tm.k, Tm.nm, Tm.i, Tm.args, List.length_map, HLN.out]), HD.out.1, HD.out.2.1, HD.out.2.2.1, HD.out.2.2.2⟩
  · clear z0 z1 z2 z3 z4 z5 z6 z7 z8 y0 y1 y2 y3 y4 y5 y6 y7 y8 c0 a0 a1 a2 a3 a4 a5 a6 a7 a8
    obtain ⟨m3, l3, k3, hpa3, hbz⟩ := H3.out
    have hb4 : Blk (((((((((w3.setCell ⟨bx, 0, none⟩ (.int .i64 K)).setCell ⟨bx, 1, none⟩ (.string (str pa.nd.nm))).setCell ⟨bx, 2, none⟩ (.int .i64 pa.nd.i)).setCell ⟨bx, 3, none⟩ (.slice pa.ta pa.tl pa.tc)).setCell ⟨bx, 4, none⟩ (.slice ja n pa.jc)).setCell ⟨bx, 5, none⟩ (.int .i64 (pa.same : Int))).setCell ⟨bx, 6, none⟩ (.int .i64 pa.st)).setCell ⟨bx, 7, none⟩ (.int .i64 pa.sz)).setCell ⟨bx, 8, none⟩ (.int .i64 pa.dp)) bx 147 #[.int .i64 K, .string (str pa.nd.nm), .int .i64 pa.nd.i, .slice pa.ta pa.tl pa.tc, .slice ja n pa.jc, .int .i64 (pa.same : Int), .int .i64 pa.st, .int .i64 pa.sz, .int .i64 pa.dp] := hbz.set9
    have hk34 : Keep (fun k => k ≠ bx) w3 (((((((((w3.setCell ⟨bx, 0, none⟩ (.int .i64 K)).setCell ⟨bx, 1, none⟩ (.string (str pa.nd.nm))).setCell ⟨bx, 2, none⟩ (.int .i64 pa.nd.i)).setCell ⟨bx, 3, none⟩ (.slice pa.ta pa.tl pa.tc)).setCell ⟨bx, 4, none⟩ (.slice ja n pa.jc)).setCell ⟨bx, 5, none⟩ (.int .i64 (pa.same : Int))).setCell ⟨bx, 6, none⟩ (.int .i64 pa.st)).setCell ⟨bx, 7, none⟩ (.int .i64 pa.sz)).setCell ⟨bx, 8, none⟩ (.int .i64 pa.dp)) := (Keep.refl (fun k => k ≠ bx) w3).set9 (fun h => h rfl)
    have m4 := m3.off hbz (Ne.symm hpb) hk34
    generalize hW4 : (((((((((w3.setCell ⟨bx, 0, none⟩ (.int .i64 K)).setCell ⟨bx, 1, none⟩ (.string (str pa.nd.nm))).setCell ⟨bx, 2, none⟩ (.int .i64 pa.nd.i)).setCell ⟨bx, 3, none⟩ (.slice pa.ta pa.tl pa.tc)).setCell ⟨bx, 4, none⟩ (.slice ja n pa.jc)).setCell ⟨bx, 5, none⟩ (.int .i64 (pa.same : Int))).setCell ⟨bx, 6, none⟩ (.int .i64 pa.st)).setCell ⟨bx, 7, none⟩ (.int .i64 pa.sz)).setCell ⟨bx, 8, none⟩ (.int .i64 pa.dp)) = W4 at *
    have hkb4 : Keep (fun k => k < wb.heap.size ∧ k ≠ gp) wb W4 := by
      have hb := HBX.out
      exact ((((Keep.refl _ wb).alloc _).drew).trans (k3.less (fun k hk => hk.2))).trans (hk34.less (fun k hk => by have := hk.1; omega))
    clear hW4 H3 m3 k3 hpa3 hbz hk34 HOF2 M2D M2A HZB HCE hgb hpb lz
    have hkw4 : Keep (fun k => k < w.heap.size ∧ k ≠ gp) w W4 := (HWB.out.2.1).trans (hkb4.less (fun k hk => ⟨by have := HWB.out.2.2.1; omega, hk.2⟩))
    have hres4 : Blk W4 w.heap.size 28 #[.int .i64 0, .string ⟨#[]⟩, .int .i64 0, .slice none 0 0] := HWB.out.2.2.2.keep hkb4 ⟨by have := HWB.out.2.2.1; omega, by have := HH.out.2.1; omega⟩
    have p0 := hb4.cell 0
    have p1 := hb4.cell 1
    have p2 := hb4.cell 2
    simp at p0 p1 p2
    have lpb := hb4.lt
    have hz4 := hkw4.size
    have hl4 := hres4.lt
    have H4 := Lib.hid (And.intro m4 (And.intro l3 (And.intro hkw4 (And.intro hres4 hb4))))
    clear m4 l3 hkw4 hres4 hb4 hkb4
    go_wp2_with fail
    refine (HLEAF.out W4).mono ?_
    rintro e w5 ⟨a5, c5, rfl, hrow5, k5⟩
    obtain ⟨m4, l3, hkw4, hres4, hb4⟩ := H4.out
    have hz5 := k5.size
    have hb5 := hb4.keep k5 lpb
    have p4 := hb5.cell 4
    simp at p4
    have lp5 := hb5.lt
    obtain ⟨b6, hb6⟩ : ∃ b6, b6 = w5.heap.size := ⟨_, rfl⟩
    have kal : Keep (fun k => k < w5.heap.size) w5 (w5.alloc (.cells #[.int .i64 K, .string (str N), .int .i64 I, .slice a5 0 c5] 28)) := (Keep.refl _ w5).alloc _
    have htl0 : TL lo g mb gp cap ps vs R rk w qs b6 K I N ts 0 a5 c5 [] q3 (w5.alloc (.cells #[.int .i64 K, .string (str N), .int .i64 I, .slice a5 0 c5] 28)) := by
      refine ⟨(m4.keep k5).keep kal, l3, (hres4.keep k5 hl4).keep kal (by omega), ?_, by omega, ?_, ?_, fun p hp => by simp at hp, rfl, rfl, (hkw4.trans (k5.less (fun k hk => by omega))).trans (kal.less (fun k hk => by omega))⟩
      · rw [hb6]; exact Blk.new w5 28 _
      · exact row_on (row_base hrow5 (by omega)) kal (fun k hk => by obtain ⟨_, cs, hB⟩ := row_type hrow5 hk; exact hB.lt)
      · intro e
        obtain ⟨_, cs, hB⟩ := row_type hrow5 e
        have := hB.lt
        omega
    have HTL0 := Lib.hid htl0
    have HB6 := Lib.hid (And.intro hb6 (show w.heap.size < w5.heap.size by omega))
    clear htl0 hb4 hb5 k5 hrow5 kal m4 l3 hkw4 hres4 H4 p0 p1 p2 hz4 hl4 lpb hz5
    clear hb6
    go_wp2_with fail
    rw [← HB6.out.1]
    go_loopw [8, 32] (fun _ i' wr => ∃ (j : Nat) (ua : Option Addr) (uc : Nat) (tps : List TP) (q : List Pt), j ≤ n ∧ i' = .int .i64 j ∧ TL lo g mb gp cap ps vs R rk w qs b6 K I N ts j ua uc tps q wr) (fun _ i' _ => n - (intOf i').toNat)
    case atStart => exact ⟨0, a5, c5, [], q3, Nat.zero_le _, rfl, HTL0.out⟩
    case round =>
      clear HTL0 p4 lp5
      obtain ⟨j, ua, uc, tps, q, hj, rfl, hr⟩ := hrel
      by_cases hlj : j < n
      · obtain ⟨hpa, hpG, hgp, htl, htv, hns, hajl, hn8⟩ := HT.out
        obtain ⟨aj, haj⟩ : ∃ aj, pa.nd.args[j]? = some aj := ⟨_, List.getElem?_eq_getElem (by rw [HJN.out.2.1]; exact hlj)⟩
        obtain ⟨tj, htj⟩ : ∃ tj, ts[j]? = some tj := ⟨_, List.getElem?_eq_getElem (by rw [htl]; exact hlj)⟩
        have hvj := htv j aj tj haj htj
        obtain ⟨s, hs⟩ := hr.like.get hpa
        obtain ⟨bj', cj', csj, ej, hlj', hbj, hnj, hcj⟩ := row_some (hr.ms.sb.js _ (List.mem_of_getElem? hs)) (by dsimp only; rw [HJN.out.2.1]; omega)
        have hja := HJA.out (by omega)
        have ej1 : pa.ja = some ⟨bj', 0, none⟩ := by injection ej
        clear ej
        rw [HJN.out.1, hja] at ej1
        have ej2 : bj = bj' := by injection ej1 with ej1; injection ej1
        clear ej1
        subst ej2
        subst hja
        have cj := hcj j (.int .i64 (aj : Int)) (by unfold jv; rw [List.getElem?_map]; dsimp only; rw [haj]; rfl)
        have ljb := hbj.lt
        have hcall := HIH.out tj (hns tj (List.mem_of_getElem? htj)) wr.drew q aj hr.ms.drew (hajl aj (List.mem_of_getElem? haj)) hvj
        have hnext := fun w7 q2 a1 c1 hfr hms hl hk => hr.next (w2 := w7) (q2 := q2) (a1 := a1) (c1 := c1) hgp htj hfr hms hl hk
        obtain ⟨y, hy⟩ : ∃ y, y = tj.tm := ⟨_, rfl⟩
        rw [← hy] at hcall
        unfold tv at hcall
        simp only [← hy] at hnext
        have HCALL := Lib.hid hcall; clear hcall
        have HNX := Lib.hid hnext; clear hnext
        have c3 := hr.box.cell 3
        simp at c3
        have lb6 := hr.box.lt
        have hzr := hr.kp.size
        have hwj : IntKind.i64.wrap ((j : Int) + 1) = (j : Int) + 1 := by rw [IntKind.wrap_i64]; omega
        clear hpa hpG hgp htl htv hns hajl haj htj hvj hs hcj hbj hnj hlj' hr hy
        go_wp2_with fail
        go_region_law (first
          | (go_simp; go_at_call 94; refine HCALL.out.mono ?_; rintro e w7 ⟨a1, c1, q2, rfl, hfr, hms, hl, hk⟩; obtain ⟨⟨lb2, cb2⟩, hrow2, haft⟩ := HNX.out w7 q2 a1 c1 hfr hms hl (⟨hk.os, hk.tape, hk.output, hk.size, hk.block⟩); have hz7 : wr.heap.size ≤ w7.heap.size := hk.size; have HROW := Lib.hid hrow2; have HAFT := Lib.hid haft; clear hfr hms hl hk hrow2 haft)
          | (refine step_append_lies _ rfl (.tmp 37) (.tmp 41) 26 rfl (w.heap.size + 1) 28 i0 (.agg #[.int .i64 0, .string ⟨#[]⟩, .int .i64 0, .slice none 0 0]) 4 56 Tryz.underlying26 hi0 hz0 hz1 hz2 rfl (by decide) (.slice ua j uc) j _ (by first | rfl | (simp [Act.eval, Act.put]; done)) (HROW.out.alloc _) ⟨w7.heap.size, 0, none⟩ 1 1 (y.cells a1 c1) (by first | rfl | (simp [Act.eval, Act.put]; done)) rfl (news_at (Blk.new w7 28 (y.cells a1 c1).toArray)) (by simp [Tm.cells, Value.oneCell']) (by decide) (by unfold maxLen; omega) (by omega) (by simp; omega) (w7.heap.size + 1) (by simp) ?_; intro g1 cap1 w9 hown hgr hat hltg1; obtain ⟨⟨lb9, cb9, fb9⟩, hfin⟩ := HAFT.out g1 cap1 w9 hown hgr hat; have HFIN := Lib.hid hfin; clear hown hgr hat hfin))
        all_goals
          clear lb2 cb2 HNX HCALL HAFT HROW hz7 hltg1 lb9 cb9 fb9
          go_wp2_with fail
          go_roundw
          case rel => exact ⟨j + 1, some ⟨g1, 0, none⟩, cap1, _, q2, by omega, by go_num, HFIN.out _ rfl⟩
          case measure => simp [intOf]; omega
      · obtain rfl : j = n := by omega
        obtain ⟨hpa, hpG, hgp, htl, htv, hns, hajl, hn8, hwk, hwi, hwn⟩ := HT.out
        have c0 := hr.box.cell 0; have c1 := hr.box.cell 1; have c2 := hr.box.cell 2; have c3 := hr.box.cell 3
        simp at c0 c1 c2 c3
        have lb6 := hr.box.lt
        have d0 := hr.res.cell 0; have d1 := hr.res.cell 1; have d2 := hr.res.cell 2; have d3 := hr.res.cell 3
        simp at d0 d1 d2 d3
        have lr := hr.res.lt
        have f0 := hr.res.frozen 0; have f1 := hr.res.frozen 1; have f2 := hr.res.frozen 2; have f3 := hr.res.frozen 3
        have hbf := hr.res.set4 (y0 := .int .i64 K) (y1 := .string (str N)) (y2 := .int .i64 I) (y3 := .slice ua j uc)
        have g0 := hbf.cell 0; have g1 := hbf.cell 1; have g2 := hbf.cell 2; have g3 := hbf.cell 3
        simp at g0 g1 g2 g3
        have hdone := hr.done0 htl hgp hwk hwi hwn hn8 _ rfl
        have HD := Lib.hid hdone
        clear hdone hbf hpa hpG hgp htl htv hns hajl hn8 hr
        go_wp2_with fail
        have htt := HTT.out
        subst htt
        exact bodyPost_ret (v := .agg #[.int .i64 K, .string (str N), .int .i64 I, .slice ua j uc]) (by simp [results, Tryz.results94, go_sem, g0, g1, g2, g3]) rfl ⟨ua, uc, q, by (unfold tv; simp only [Tm.k, Tm.nm, Tm.i, Tm.args, List.length_map, HLN.out]), HD.out.1, HD.out.2.1, HD.out.2.2.1, HD.out.2.2.2⟩
theorem term_any (hG : Gr (ps.map Pt.nd) D) (hcl : Cl (ps.map Pt.nd) R) (hn : ps.length ≤ 5000) (h8 : ∀ p ∈ ps, p.nd.args.length ≤ 8) (hwf : ∀ p ∈ ps, p.nd.wf) (t : T) : TermC lo g mb gp cap ps vs R rk t := by
  have go : ∀ n (t : T), t.ns = n → TermC lo g mb gp cap ps vs R rk t := by
    intro n
    induction n using Nat.strongRecOn with
    | _ n ih => intro t ht; exact term_step hG hcl hn h8 hwf (fun u hu => ih u.ns (by omega) u rfl)
  exact go _ t rfl
end
end Go.Proofs.YtnfcbalppecnfaaGreat
