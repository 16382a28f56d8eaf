/-
  Joined texts (Tv5, Tv6, Tv7, Tv8, Tv9). No condition.
-/
import Derived.Test.YtnfcbalppecnfaaGreatPMH
import Derived.Deep.RegionLaw
namespace Go.Proofs.YtnfcbalppecnfaaGreat
open Go.RowKit Go.Maps
set_option linter.unusedVariables false
set_option linter.unusedSimpArgs false
theorem infoPt : (Tryz.prog.info? 147).map (fun i => (i.zero, i.size, i.bytes)) = some (some (.agg #[.int .i64 0, .string ⟨#[]⟩, .int .i64 0, .slice none 0 0, .slice none 0 0, .int .i64 0, .int .i64 0, .int .i64 0, .int .i64 0]), 9, 112) := by kernel_rfl
def XP (lo g mb : Nat) (w : World) (k : Nat) : Prop := k < lo ∨ (k ≠ g ∧ k ≠ mb ∧ ¬ ∃ cs, Blk w k 147 cs)
def Fx (lo g mb : Nat) (w w' : World) : Prop := Keep (XP lo g mb w) w w'
section
variable {lo g mb : Nat} {w w' w'' : World}
theorem Fx.trans (h : Fx lo g mb w w') (k : Fx lo g mb w' w'') : Fx lo g mb w w'' :=
  ⟨k.os.trans h.os, k.tape.trans h.tape, k.output.trans h.output, Nat.le_trans h.size k.size, fun i hi hX => by
    have h1 := h.block i hi hX
    refine (k.block i (Nat.lt_of_lt_of_le hi h.size) ?_).trans h1
    rcases hX with hX | ⟨h2, h3, h4⟩
    · exact .inl hX
    · refine .inr ⟨h2, h3, fun ⟨cs, hc⟩ => h4 ⟨cs, ?_⟩⟩
      unfold Blk at hc ⊢
      rw [← h1]; exact hc⟩
theorem Fx.of {X : Nat → Prop} (h : Keep X w w') (hX : ∀ k, XP lo g mb w k → X k) : Fx lo g mb w w' := h.less hX
theorem Fx.of' (h : Keep (fun k => k < w.heap.size) w w') : Fx lo g mb w w' := h.all
theorem Fx.old (h : Fx lo g mb w w') : Keep (fun k => k < lo) w w' := h.less (fun k hk => .inl hk)
theorem Blk.xp {k : Nat} {t : TypeId} {cs : Array Value} (h : Blk w k t cs) (ht : t ≠ 147) (hg : k ≠ g) (hm : k ≠ mb) : XP lo g mb w k :=
  .inr ⟨hg, hm, fun ⟨cs', h'⟩ => h.ne_ h' ht rfl⟩
end
structure SA (lo g mb : Nat) (w : World) (ps : List Pt) (vs : List (Int × Nat)) (u : Value) : Prop where
  box : Blk w g 128 #[u, .map (some mb)]
  row : w.ownsRow lo 147 9 u ps.length (ps.flatMap Pt.cells)
  map : MapI w mb (.int .i64 0) (vf vs) vs.length
  js : ∀ p ∈ ps, w.ownsRow lo 3 1 (.slice p.ja p.nd.args.length p.jc) p.nd.args.length (jv p.nd.args)
  lg : lo ≤ g
  lm : lo ≤ mb
  fresh : ∀ (i : Nat) (p : Pt), ps[i]? = some p → p.same = i ∧ p.st = 0 ∧ p.sz = 0 ∧ p.dp = 0
section
variable {lo g mb : Nat} {w w' : World} {ps : List Pt} {vs : List (Int × Nat)} {u : Value}
theorem SA.ne (h : SA lo g mb w ps vs u) : mb ≠ g := h.map.ne_blk h.box
theorem SA.keepT {X : Nat → Prop} (h : SA lo g mb w ps vs u) (hk : Keep X w w') (h1 : X g) (h2 : X mb) (h3 : ∀ b cs, Blk w b 147 cs → X b) (h4 : ∀ b cs, Blk w b 3 cs → lo ≤ b → X b) : SA lo g mb w' ps vs u :=
  ⟨h.box.keep hk h1, row_on h.row hk (fun b hb => by obtain ⟨_, cs, hB⟩ := row_type h.row hb; exact h3 b cs hB), h.map.keep hk h2, fun p hp => js_keep (h.js p hp) hk h4, h.lg, h.lm, h.fresh⟩
theorem SA.keep' (h : SA lo g mb w ps vs u) (hk : Keep (fun k => k < w.heap.size) w w') : SA lo g mb w' ps vs u :=
  h.keepT hk h.box.lt h.map.lt (fun b cs hb => hb.lt) (fun b cs hb _ => hb.lt)
theorem SA.uslice (h : SA lo g mb w ps vs u) : ∃ ua uc, u = .slice ua ps.length uc := by
  rcases h.row.2 with ⟨rfl, h0⟩ | ⟨b, cap, cur, rfl, _⟩
  · exact ⟨none, 0, by rw [h0]⟩
  · exact ⟨_, _, rfl⟩
theorem lkp_snoc {l : List (Int × Nat)} {x : Int} {a : Nat} (hn : lkp l x = none) (y : Int) : lkp (l ++ [(x, a)]) y = if y = x then some a else lkp l y := by
  induction l with
  | nil =>
    by_cases h : y = x
    · subst h; simp [lkp]
    · simp [lkp, h, Ne.symm h]
  | cons p l ih =>
    obtain ⟨z, b⟩ := p
    simp only [List.cons_append, lkp] at hn ⊢
    by_cases hz : z = x
    · rw [if_pos hz] at hn; cases hn
    · rw [if_neg hz] at hn
      by_cases hy : z = y
      · rw [if_pos hy, if_neg (fun e => hz (hy.trans e)), if_pos hy]
      · rw [if_neg hy, if_neg hy]; exact ih hn
theorem SA.var (h : SA lo g mb w ps vs u) {x : Int} (hx : lkp vs x = none) (hwf : (ik x).wf = true) (hn : vs.length < maxLen) (a : Nat) :
    ∃ w3, (Instr.mapUpdate 125 (.map (some mb)) (.int .i64 x) (.int .i64 (a : Int))).run Tryz.prog w = .ok () w3 ∧ SA lo g mb w3 ps (vs ++ [(x, a)]) u ∧ Keep (fun k => k ≠ mb) w w3 := by
  obtain ⟨w3, hst, hm3, ht⟩ := h.map.store Tryz.underlying125 hn hwf (.int .i64 (a : Int))
  have hk : Keep (fun k => k ≠ mb) w w3 := (Keep.refl _ w).turned ht (fun h => h rfl)
  refine ⟨w3, hst, ⟨h.box.keep hk h.ne.symm, row_on h.row hk (fun b hb e => ?_), ?_, fun p hp => js_keep (h.js p hp) hk (fun b cs hb _ e => h.map.ne_blk hb e.symm), h.lg, h.lm, h.fresh⟩, hk⟩
  · obtain ⟨_, cs, hB⟩ := row_type h.row hb
    exact h.map.ne_blk hB e.symm
  · have e : (fun j => if j = x then some (Value.int .i64 (a : Int)) else vf vs j) = vf (vs ++ [(x, a)]) := by
      funext j
      unfold vf
      rw [lkp_snoc hx]
      split <;> rfl
    have hl : (vs ++ [(x, a)]).length = if ((vf vs x).isSome = true) then vs.length else vs.length + 1 := by unfold vf; rw [hx]; simp
    rw [← e, hl]; exact hm3
theorem SA.push (h : SA lo g mb w ps vs u) {p : Pt} {cap1 g1 : Nat} {w5 : World} (hs : p.same = ps.length) (h0 : p.st = 0) (h1 : p.sz = 0) (h2 : p.dp = 0)
    (hj : w.ownsRow lo 3 1 (.slice p.ja p.nd.args.length p.jc) p.nd.args.length (jv p.nd.args))
    (hown : w5.ownsRow lo 147 9 (.slice (some ⟨g1, 0, none⟩) (ps.length + 1) cap1) (ps.length + 1) (ps.flatMap Pt.cells ++ p.cells)) (hgr : (w.alloc (.cells p.cells.toArray 147)).grownBy w5 u.ownBlock) :
    g < w5.heap.size ∧ w5.cell? ⟨g, 0, none⟩ = some u ∧ w5.frozen? ⟨g, 0, none⟩ = false ∧ ∀ w6, w6 = w5.setCell ⟨g, 0, none⟩ (.slice (some ⟨g1, 0, none⟩) (ps.length + 1) cap1) → SA lo g mb w6 (ps ++ [p]) vs (.slice (some ⟨g1, 0, none⟩) (ps.length + 1) cap1) ∧ Fx lo g mb w w6 := by
  have kg : Keep (fun k => u.ownBlock ≠ some k) w w5 := ((Keep.refl _ w).alloc _).trans (Keep.ofGrown hgr (fun k e hx => hx e))
  have nT : ∀ k t cs, Blk w k t cs → t ≠ 147 → u.ownBlock ≠ some k := fun k t cs hb ht e => by
    obtain ⟨_, cs', hb'⟩ := row_type h.row e
    exact hb.ne_ hb' ht rfl
  have nM : u.ownBlock ≠ some mb := fun e => by
    obtain ⟨_, cs', hb'⟩ := row_type h.row e
    exact h.map.ne_blk hb' rfl
  have hb5 := h.box.keep kg (nT _ _ _ h.box (by decide))
  refine ⟨hb5.lt, by have := hb5.cell 0; simpa using this, hb5.frozen 0, fun w6 hw6 => ?_⟩
  have ks : Keep (fun k => k ≠ g) w5 w6 := by rw [hw6]; exact (Keep.refl _ w5).setCell (p := ⟨g, 0, none⟩) (fun h => h rfl) _
  have kc : Keep (fun k => u.ownBlock ≠ some k ∧ k ≠ g) w w6 := (kg.less (fun k hk => hk.1)).trans (ks.less (fun k hk => hk.2))
  have hjs : ∀ q : Pt, w.ownsRow lo 3 1 (.slice q.ja q.nd.args.length q.jc) q.nd.args.length (jv q.nd.args) → w6.ownsRow lo 3 1 (.slice q.ja q.nd.args.length q.jc) q.nd.args.length (jv q.nd.args) := fun q hq =>
    js_keep hq kc (fun b cs hb _ => ⟨nT _ _ _ hb (by decide), hb.ne_ h.box (by decide)⟩)
  refine ⟨⟨?_, ?_, h.map.keep kc ⟨nM, h.ne⟩, fun q hq => ?_, h.lg, h.lm, fun i q hq => ?_⟩, ?_⟩
  · rw [hw6]; have := hb5.set_ 0 (.slice (some ⟨g1, 0, none⟩) (ps.length + 1) cap1); simpa using this
  · rw [List.length_append, List.length_singleton, List.flatMap_append]
    have := row_on hown ks (fun k hk e => by
      obtain ⟨_, cs', hb'⟩ := row_type hown hk
      exact hb5.ne_ hb' (by decide) e.symm)
    simpa using this
  · rcases List.mem_append.1 hq with hq | hq
    · exact hjs q (h.js q hq)
    · rw [List.mem_singleton] at hq; subst hq; exact hjs q hj
  · rw [List.getElem?_append] at hq
    split at hq
    · exact h.fresh i q hq
    · rename_i hi
      have h4 := get_lt' hq
      simp only [List.length_singleton] at h4
      have h5 : i = ps.length := by omega
      subst h5
      simp only [Nat.sub_self, List.getElem?_cons_zero, Option.some.injEq] at hq
      subst hq
      exact ⟨hs, h0, h1, h2⟩
  · refine Fx.of kc (fun k hk => ?_)
    rcases hk with hk | ⟨k1, k2, k3⟩
    · refine ⟨fun e => ?_, fun e => ?_⟩
      · have := (row_type h.row e).1; omega
      · have := h.lg; omega
    · refine ⟨fun e => ?_, k1⟩
      obtain ⟨_, cs', hb'⟩ := row_type h.row e
      exact k3 ⟨cs', hb'⟩
end
end Go.Proofs.YtnfcbalppecnfaaGreat
namespace Go.Proofs.YtnfcbalppecnfaaGreat
open Go.RowKit Go.Maps
set_option linter.unusedVariables false
set_option linter.unusedSimpArgs false
def Pt.own (p : Pt) (b : Nat) : Prop := (Value.slice p.ja p.nd.args.length p.jc).ownBlock = some b
def More (n : Nat) (ps ps' : List Pt) : Prop := ∃ more, ps' = ps ++ more ∧ ∀ p ∈ more, ∀ b, p.own b → n ≤ b
theorem More.refl (n : Nat) (ps : List Pt) : More n ps ps := ⟨[], by simp, by simp⟩
theorem More.one {n : Nat} {ps : List Pt} {p : Pt} (h : ∀ b, p.own b → n ≤ b) : More n ps (ps ++ [p]) := ⟨[p], rfl, fun q hq b hb => by rw [List.mem_singleton] at hq; subst hq; exact h b hb⟩
theorem More.none {n : Nat} {ps : List Pt} {p : Pt} (h : p.ja = none) : More n ps (ps ++ [p]) := More.one fun b hb => by unfold Pt.own at hb; rw [h] at hb; simp [Value.ownBlock] at hb
theorem More.trans {n m : Nat} {a b c : List Pt} (h : More n a b) (k : More m b c) (hm : n ≤ m) : More n a c := by
  obtain ⟨x, rfl, hx⟩ := h
  obtain ⟨y, rfl, hy⟩ := k
  exact ⟨x ++ y, by rw [List.append_assoc], fun p hp b hb => by
    rcases List.mem_append.1 hp with hp | hp
    · exact hx p hp b hb
    · exact Nat.le_trans hm (hy p hp b hb)⟩
def AddC2 (lo g mb : Nat) (t : Tm) : Prop := ∀ (w : World) (ps : List Pt) (vs : List (Int × Nat)) (u : Value) (a : Option Addr) (c : Nat), SA lo g mb w ps vs u → TmAt lo w t a c → ps.length + t.ns ≤ 5000 → vs.length ≤ ps.length →
  Calls Tryz.prog 78 #[.pointer (some ⟨g, 0, none⟩), tv t a c] w fun e w' => ∃ (ps' : List Pt) (u' : Value), e = .returned (.int .i64 ((t.addT (ps.map Pt.nd, vs)).1 : Nat)) ∧ SA lo g mb w' ps' (t.addT (ps.map Pt.nd, vs)).2.2 u' ∧ ps'.map Pt.nd = (t.addT (ps.map Pt.nd, vs)).2.1 ∧
    (t.addT (ps.map Pt.nd, vs)).2.2.length ≤ ps'.length ∧ ps'.length ≤ ps.length + t.ns ∧ More w.heap.size ps ps' ∧ Fx lo g mb w w'
section
variable {lo g mb : Nat}
theorem add_end {w W : World} {ps : List Pt} {vs : List (Int × Nat)} {u : Value} {p : Pt} (h : SA lo g mb W ps vs u) (hs : p.same = ps.length) (h0 : p.st = 0) (h1 : p.sz = 0) (h2 : p.dp = 0) (hj : W.ownsRow lo 3 1 (.slice p.ja p.nd.args.length p.jc) p.nd.args.length (jv p.nd.args)) (hk : Fx lo g mb w W) :
    W.ownsRow lo 147 9 u ps.length (ps.flatMap Pt.cells) ∧ ∀ g1 cap1 w5, w5.ownsRow lo 147 9 (.slice (some ⟨g1, 0, none⟩) (ps.length + 1) cap1) (ps.length + 1) (ps.flatMap Pt.cells ++ p.cells) → ((W.alloc (.cells p.cells.toArray 147)).drew).grownBy w5 u.ownBlock →
      g < w5.heap.size ∧ w5.cell? ⟨g, 0, none⟩ = some u ∧ w5.frozen? ⟨g, 0, none⟩ = false ∧ ∀ w6, w6 = w5.setCell ⟨g, 0, none⟩ (.slice (some ⟨g1, 0, none⟩) (ps.length + 1) cap1) → SA lo g mb w6 (ps ++ [p]) vs (.slice (some ⟨g1, 0, none⟩) (ps.length + 1) cap1) ∧ Fx lo g mb w w6 := by
  refine ⟨h.row, fun g1 cap1 w5 hown hgr => ?_⟩
  obtain ⟨a1, a2, a3, a4⟩ := h.push hs h0 h1 h2 hj hown ⟨hgr.os, hgr.tape, hgr.output, hgr.size, hgr.block⟩
  exact ⟨a1, a2, a3, fun w6 e => ⟨(a4 w6 e).1, hk.trans (a4 w6 e).2⟩⟩
set_option maxRecDepth 100000 in
set_option maxHeartbeats 4000000 in
theorem add_leaf {t : Tm} (hk1 : t.k ≠ 1) (hk4 : t.k ≠ 4) : AddC2 lo g mb t := by
  intro w ps vs u a c h hT hroom hvs
  rw [addT_0 t _ hk1 hk4]
  dsimp only
  have hns : 1 ≤ t.ns := by rw [t.ns_eq]; split <;> omega
  have hb := Blk.new w 28 #[.int .i64 t.k, .string (str t.nm), .int .i64 t.i, .slice a t.args.length c]
  have kW : Keep (fun k => k < w.heap.size) w (w.alloc (.cells #[.int .i64 t.k, .string (str t.nm), .int .i64 t.i, .slice a t.args.length c] 28)) := (Keep.refl _ w).alloc _
  obtain ⟨W, hW⟩ : ∃ W, W = w.alloc (.cells #[.int .i64 t.k, .string (str t.nm), .int .i64 t.i, .slice a t.args.length c] 28) := ⟨_, rfl⟩
  rw [← hW] at hb kW
  have hA := h.keep' kW
  obtain ⟨i0, hi0, hz0, hz1, hz2⟩ := info_parts infoPt
  obtain ⟨p, hp⟩ : ∃ p : Pt, p = ⟨⟨t.k, t.nm, t.i, []⟩, a, t.args.length, c, none, 0, ps.length, 0, 0, 0⟩ := ⟨_, rfl⟩
  have hpc : p.cells = [.int .i64 t.k, .string (str t.nm), .int .i64 t.i, .slice a t.args.length c, .slice none 0 0, .int .i64 (ps.length : Nat), .int .i64 0, .int .i64 0, .int .i64 0] := by rw [hp]; rfl
  obtain ⟨hown, hend⟩ := add_end (p := p) hA (by rw [hp]) (by rw [hp]) (by rw [hp]) (by rw [hp]) (by rw [hp]; exact ⟨rfl, .inl ⟨rfl, rfl⟩⟩) (Fx.of' kW)
  rw [hpc] at hend
  obtain ⟨ua, uc, hu⟩ := hA.uslice
  have b0 := hA.box.cell 0
  simp at b0
  have lg0 := hA.box.lt
  have n0 := hb.cell 0; have n1 := hb.cell 1; have n2 := hb.cell 2; have n3 := hb.cell 3
  simp at n0 n1 n2 n3
  have lb := hb.lt
  have hlo : lo ≤ W.heap.size := Nat.le_trans hA.lg (Nat.le_of_lt lg0)
  subst hu
  obtain ⟨len, hlen⟩ : ∃ len, len = ps.length := ⟨_, rfl⟩
  rw [← hlen] at hown hend b0 hroom ⊢
  have HP := Lib.hid (And.intro hp hlen)
  have HOWN := Lib.hid (row_on (hown.alloc (.cells #[.int .i64 t.k, .string (str t.nm), .int .i64 t.i, .slice a t.args.length c, .slice none 0 0, .int .i64 len, .int .i64 0, .int .i64 0, .int .i64 0] 147)) ((Keep.refl (fun _ => True) _).drew) (fun _ _ => trivial))
  have HEND := Lib.hid hend
  have HNEWS := Lib.hid (news_at ((Blk.new W 147 [.int .i64 t.k, .string (str t.nm), .int .i64 t.i, .slice a t.args.length c, .slice none 0 0, .int .i64 len, .int .i64 0, .int .i64 0, .int .i64 0].toArray).drew))
  have HONE : Hid (∀ v ∈ [Value.int .i64 t.k, .string (str t.nm), .int .i64 t.i, .slice a t.args.length c, .slice none 0 0, .int .i64 len, .int .i64 0, .int .i64 0, .int .i64 0], v.oneCell' = true) := Lib.hid (by simp [Value.oneCell'])
  have HCF := Lib.hid (And.intro b0 (And.intro lg0 (And.intro n0 (And.intro n1 (And.intro n2 (And.intro n3 lb))))))
  clear hp hpc hown hend hlen b0 lg0 n0 n1 n2 n3 lb
  have HW := Lib.hid (And.intro hW (And.intro hT (And.intro hvs hns)))
  have e1 : ((t.k : Int) == 1) = false := by simpa using hk1
  have e4 : ((t.k : Int) == 4) = false := by simpa using hk4
  unfold tv
  have bw := h.box.cell 0
  simp at bw
  rw [← HP.out.2] at bw
  have lgw := h.box.lt
  clear hW hA hT hvs hns kW h hb
  go_enter Tryz.func78, Tryz.ntmps78
  go_wp2_with fail
  rw [← HW.out.1]
  clear bw lgw
  obtain ⟨b0, lg0, n0, n1, n2, n3, lb⟩ := HCF.out
  go_region_law (refine step_append_lies _ rfl (.tmp 63) (.tmp 68) 126 rfl lo 147 i0 (.agg #[.int .i64 0, .string ⟨#[]⟩, .int .i64 0, .slice none 0 0, .slice none 0 0, .int .i64 0, .int .i64 0, .int .i64 0, .int .i64 0]) 9 112 Tryz.underlying126 hi0 hz0 hz1 hz2 rfl (by decide) (.slice ua len uc) len _ (by first | rfl | (simp [Act.eval, Act.put]; done) | (simp [Act.eval, Act.put]; exact HP.out.2.symm)) HOWN.out ⟨W.heap.size, 0, none⟩ 1 1 [.int .i64 t.k, .string (str t.nm), .int .i64 t.i, .slice a t.args.length c, .slice none 0 0, .int .i64 len, .int .i64 0, .int .i64 0, .int .i64 0] (by first | rfl | (simp [Act.eval, Act.put]; done) | (simp [Act.eval, Act.put]; exact HP.out.2.symm)) rfl HNEWS.out HONE.out (by decide) (by unfold maxLen; omega) (by omega) (by simp; omega) _ rfl ?_; intro g6 cap6 w6 hown6 hgr6 hat6 hlt6; obtain ⟨lg6, b6, f6, e6⟩ := HEND.out g6 cap6 w6 hown6 hgr6; have HE6 := Lib.hid e6; clear hown6 hgr6 hat6 e6)
  all_goals
    go_wp2_with fail
    go_ret
    obtain ⟨e1, e2⟩ := HE6.out _ rfl
    exact ⟨ps ++ [p], _, by rw [List.length_map, ← HP.out.2]; rfl, e1, by rw [List.map_append, HP.out.1]; rfl, by rw [List.length_append, List.length_singleton]; have := HW.out.2.2.1; have := HP.out.2; omega, by rw [List.length_append, List.length_singleton]; have := HW.out.2.2.2; have := HP.out.2; omega, More.none (by rw [HP.out.1]), e2⟩
end
end Go.Proofs.YtnfcbalppecnfaaGreat
namespace Go.Proofs.YtnfcbalppecnfaaGreat
open Go.RowKit Go.Maps
set_option linter.unusedVariables false
set_option linter.unusedSimpArgs false
section
variable {lo g mb : Nat}
set_option maxRecDepth 100000 in
set_option maxHeartbeats 4000000 in
theorem add_var {t : Tm} (hk : t.k = 1) : AddC2 lo g mb t := by
  intro w ps vs u a c h hT hroom hvs
  have hns : 1 ≤ t.ns := t.ns_pos
  have hwfi : (ik t.i).wf = true := hT.wk.2.1
  have hb := Blk.new w 28 #[.int .i64 t.k, .string (str t.nm), .int .i64 t.i, .slice a t.args.length c]
  have kW : Keep (fun k => k < w.heap.size) w (w.alloc (.cells #[.int .i64 t.k, .string (str t.nm), .int .i64 t.i, .slice a t.args.length c] 28)) := (Keep.refl _ w).alloc _
  obtain ⟨W, hW⟩ : ∃ W, W = w.alloc (.cells #[.int .i64 t.k, .string (str t.nm), .int .i64 t.i, .slice a t.args.length c] 28) := ⟨_, rfl⟩
  rw [← hW] at hb kW
  have hA := h.keep' kW
  have hlk : ∀ nq, (Instr.lookup 125 (.map (some mb)) (.int .i64 t.i) true).run Tryz.prog (W.drewN nq) = .ok (.tuple #[(vf vs t.i).getD (.int .i64 0), .bool (vf vs t.i).isSome]) (W.drewN nq) := fun nq => (hA.map.keep ((Keep.refl (fun _ => True) W).drewN nq) trivial).look Tryz.underlying125 (by kernel_rfl) hwfi
  have c1 := hA.box.cell 1
  simp at c1
  have n2 := hb.cell 2
  simp at n2
  have lgW := hA.box.lt
  have lbW := hb.lt
  have HW := Lib.hid (And.intro hW (And.intro hT (And.intro hvs hns)))
  have HA := Lib.hid (And.intro hA (And.intro kW hb))
  unfold tv
  rw [addT_1 t _ hk]
  rw [hk]
  have HK1 := Lib.hid hk
  rw [hk] at HW
  unfold vf at hlk
  have HROOM := Lib.hid hroom
  have HWF := Lib.hid hwfi
  clear hW hA hT hvs hns kW h hb hk hwfi hroom
  cases hl : lkp vs t.i with
  | some a0 =>
    rw [hl] at hlk
    simp only [Option.map_some, Option.getD_some, Option.isSome_some] at hlk
    try dsimp only
    try rw [hl]
    try dsimp only
    clear hl
    go_enter Tryz.func78, Tryz.ntmps78
    go_wp2_with fail
    rw [← HW.out.1]
    go_quiet (fail)
    go_wp2_with fail
    go_ret
    exact ⟨ps, u, rfl, HA.out.1.keep' ((Keep.refl _ W).drewN _), rfl, by have := HW.out.2.2.1; omega, by have := HW.out.2.2.2; omega, More.refl _ _, Fx.of' (HA.out.2.1.drewN _)⟩
  | none =>
    rw [hl] at hlk
    simp only [Option.map_none, Option.getD_none, Option.isSome_none] at hlk
    try rw [hl]
    try dsimp only
    rw [List.length_map]
    have HL := Lib.hid hl; clear hl
    have hroom := HROOM.out
    have hml : vs.length < maxLen := by have := HW.out.2.2.1; have := HW.out.2.2.2; unfold maxLen; omega
    clear hroom
    obtain ⟨ua0, uc0, hu0⟩ := HA.out.1.uslice
    subst hu0
    go_enter Tryz.func78, Tryz.ntmps78
    go_wp2_with fail
    rw [← HW.out.1]
    go_quiet (fail)
    obtain ⟨W1, hW1⟩ : ∃ W1, W1 = W.drewN nq := ⟨_, rfl⟩
    have hA1 : SA lo g mb W1 ps vs (.slice ua0 ps.length uc0) := by rw [hW1]; exact HA.out.1.keep' ((Keep.refl _ W).drewN nq)
    have hb1 : Blk W1 w.heap.size 28 #[.int .i64 t.k, .string (str t.nm), .int .i64 t.i, .slice a t.args.length c] := by rw [hW1]; exact HA.out.2.2.keep (X := fun _ => True) ((Keep.refl _ W).drewN nq) trivial
    have hk1 : Keep (fun k => k < w.heap.size) w W1 := by rw [hW1]; exact HA.out.2.1.drewN nq
    rw [← hW1]
    have HW1 := Lib.hid hW1
    clear hW1 hlk c1 n2 lgW lbW
    obtain ⟨w3, hst, hA3, hk3⟩ := (hA1.keep' ((Keep.refl _ W1).drew)).var HL.out HWF.out hml ps.length
    have hb3 := (hb1.drew).keep hk3 (fun e => (hA1.map.ne_blk hb1) e.symm)
    have hz3 := hk3.size
    have c0 := hA1.box.cell 0
    have c1 := hA1.box.cell 1
    have n2 := hb1.cell 2
    have d0 := hA3.box.cell 0
    have d1 := hA3.box.cell 1
    have m2 := hb3.cell 2
    have m0 := hb3.cell 0
    simp at c0 c1 n2 d0 d1 m2 m0
    rw [HK1.out] at m0
    have lg1 := hA1.box.lt
    have lb1 := hb1.lt
    have lg3 := hA3.box.lt
    have lb3 := hb3.lt
    have hfx : Fx lo g mb w w3 := ((Fx.of' hk1).trans (Fx.of' ((Keep.refl _ W1).drew))).trans (Fx.of hk3 (fun k hk => by
      rcases hk with hk | hk
      · have := hA1.lm; omega
      · exact hk.2.1))
    have HA3 := Lib.hid (And.intro hA3 (And.intro hb3 hfx))
    clear hA1 hb1 hk1 hA3 hb3 hfx hk3 hz3
    go_wp2_with fail
    go_region_held3 (fun w' => w'.cell? ⟨g, 0, none⟩ = some (.slice ua0 ps.length uc0) ∧ w'.cell? ⟨g, 1, none⟩ = some (.map (some mb)) ∧ w'.cell? ⟨w.heap.size, 2, none⟩ = some (.int .i64 t.i)) (first | exact ⟨c0, c1, n2⟩ | exact ⟨d0, d1, m2⟩ | assumption) (fail)
    clear c0 c1 n2 lg1 lb1 hst
    go_wp2_with fail
    clear d0 d1 m2 m0 lg3 lb3
    obtain ⟨hA3, hb3, hfx⟩ := HA3.out
    rw [HK1.out] at hb3
    have hroom := HROOM.out
    obtain ⟨i0, hi0, hz0, hz1, hz2⟩ := info_parts infoPt
    obtain ⟨p, hp⟩ : ∃ p : Pt, p = ⟨⟨1, t.nm, t.i, []⟩, a, t.args.length, c, none, 0, ps.length, 0, 0, 0⟩ := ⟨_, rfl⟩
    have hpc : p.cells = [.int .i64 1, .string (str t.nm), .int .i64 t.i, .slice a t.args.length c, .slice none 0 0, .int .i64 (ps.length : Nat), .int .i64 0, .int .i64 0, .int .i64 0] := by rw [hp]; rfl
    obtain ⟨hown, hend⟩ := add_end (p := p) hA3 (by rw [hp]) (by rw [hp]) (by rw [hp]) (by rw [hp]) (by rw [hp]; exact ⟨rfl, .inl ⟨rfl, rfl⟩⟩) hfx
    rw [hpc] at hend
    obtain ⟨ua, uc, hu⟩ := hA3.uslice
    have b0 := hA3.box.cell 0
    simp at b0
    have lg0 := hA3.box.lt
    have n0 := hb3.cell 0; have n1 := hb3.cell 1; have n2 := hb3.cell 2; have n3 := hb3.cell 3
    simp at n0 n1 n2 n3
    have lb := hb3.lt
    have hlo : lo ≤ w3.heap.size := Nat.le_trans hA3.lg (Nat.le_of_lt lg0)
    injection hu with hu1 hu2 hu3
    subst hu1
    subst hu3
    obtain ⟨len, hlen⟩ : ∃ len, len = ps.length := ⟨_, rfl⟩
    rw [← hlen] at hown hend b0 hroom
    try rw [← hlen]
    have HP := Lib.hid (And.intro hp hlen)
    have HOWN := Lib.hid (row_on (hown.alloc (.cells #[.int .i64 1, .string (str t.nm), .int .i64 t.i, .slice a t.args.length c, .slice none 0 0, .int .i64 len, .int .i64 0, .int .i64 0, .int .i64 0] 147)) ((Keep.refl (fun _ => True) _).drew) (fun _ _ => trivial))
    have HEND := Lib.hid hend
    have HNEWS := Lib.hid (news_at ((Blk.new w3 147 [.int .i64 1, .string (str t.nm), .int .i64 t.i, .slice a t.args.length c, .slice none 0 0, .int .i64 len, .int .i64 0, .int .i64 0, .int .i64 0].toArray).drew))
    have HONE : Hid (∀ v ∈ [Value.int .i64 1, .string (str t.nm), .int .i64 t.i, .slice a t.args.length c, .slice none 0 0, .int .i64 len, .int .i64 0, .int .i64 0, .int .i64 0], v.oneCell' = true) := Lib.hid (by simp [Value.oneCell'])
    have HCF := Lib.hid (And.intro b0 (And.intro lg0 (And.intro n0 (And.intro n1 (And.intro n2 (And.intro n3 lb))))))
    clear hp hpc hown hend hlen b0 lg0 n0 n1 n2 n3 lb
    clear hA3 hb3 hfx
    obtain ⟨b0, lg0, n0, n1, n2, n3, lb⟩ := HCF.out
    go_region_law (refine step_append_lies _ rfl (.tmp 63) (.tmp 68) 126 rfl lo 147 i0 (.agg #[.int .i64 0, .string ⟨#[]⟩, .int .i64 0, .slice none 0 0, .slice none 0 0, .int .i64 0, .int .i64 0, .int .i64 0, .int .i64 0]) 9 112 Tryz.underlying126 hi0 hz0 hz1 hz2 rfl (by decide) (.slice ua0 len uc0) len _ (by first | rfl | (simp [Act.eval, Act.put]; done) | (simp [Act.eval, Act.put]; exact HP.out.2.symm)) HOWN.out ⟨w3.heap.size, 0, none⟩ 1 1 [.int .i64 1, .string (str t.nm), .int .i64 t.i, .slice a t.args.length c, .slice none 0 0, .int .i64 len, .int .i64 0, .int .i64 0, .int .i64 0] (by first | rfl | (simp [Act.eval, Act.put]; done) | (simp [Act.eval, Act.put]; exact HP.out.2.symm)) rfl HNEWS.out HONE.out (by decide) (by unfold maxLen; omega) (by omega) (by simp; omega) _ rfl ?_; intro g6 cap6 w6 hown6 hgr6 hat6 hlt6; obtain ⟨lg6, b6, f6, e6⟩ := HEND.out g6 cap6 w6 hown6 hgr6; have HE6 := Lib.hid e6; clear hown6 hgr6 hat6 e6)
    all_goals
      go_wp2_with fail
      go_ret
      obtain ⟨e1, e2⟩ := HE6.out _ rfl
      exact ⟨by rw [← HP.out.2]; rfl, ps ++ [p], ⟨_, by rw [← HP.out.2]; exact e1⟩, by rw [List.map_append, HP.out.1]; rfl, by have := HW.out.2.2.1; have := HP.out.2; simp; omega, by have := HW.out.2.2.2; have := HP.out.2; simp; omega, More.none (by rw [HP.out.1]), e2⟩
end
end Go.Proofs.YtnfcbalppecnfaaGreat
namespace Go.Proofs.YtnfcbalppecnfaaGreat
open Go.RowKit Go.Maps
set_option linter.unusedVariables false
set_option linter.unusedSimpArgs false
theorem row_base {w : World} {base base' sz n : Nat} {t : TypeId} {v : Value} {xs : List Value} (h : w.ownsRow base t sz v n xs) (hb : base' ≤ base) : w.ownsRow base' t sz v n xs := by
  refine ⟨h.1, ?_⟩
  rcases h.2 with h2 | ⟨g, cap, cur, e, h3, r⟩
  · exact .inl h2
  · exact .inr ⟨g, cap, cur, e, Nat.le_trans hb h3, r⟩
structure ACR (lo g mb : Nat) (w : World) (t : Tm) (a : Option Addr) (c : Nat) (ps : List Pt) (vs : List (Int × Nat)) (j : Nat) (va : Value) (qs : List Pt) (u : Value) (wr : World) : Prop where
  sa : SA lo g mb wr qs (addL (t.args.take j) (ps.map Pt.nd, vs)).2.2 u
  nds : qs.map Pt.nd = (addL (t.args.take j) (ps.map Pt.nd, vs)).2.1
  vl : (addL (t.args.take j) (ps.map Pt.nd, vs)).2.2.length ≤ qs.length
  pl : qs.length ≤ ps.length + nsL (t.args.take j)
  mo : More w.heap.size ps qs
  row : wr.ownsRow w.heap.size 3 1 va j (jv (addL (t.args.take j) (ps.map Pt.nd, vs)).1)
  ap : ∀ p ∈ qs, ∀ b, p.own b → va.ownBlock ≠ some b
  box : Blk wr w.heap.size 28 #[.int .i64 t.k, .string (str t.nm), .int .i64 t.i, .slice a t.args.length c]
  fx : Fx lo g mb w wr
section
variable {lo g mb : Nat} {w wr w1 w2 w3 : World} {t x : Tm} {a : Option Addr} {c j : Nat} {ps qs qs' : List Pt} {vs : List (Int × Nat)} {va u u' : Value}
theorem addL_snoc (ts : List Tm) (x : Tm) (s : SSt) : addL (ts ++ [x]) s = ((addL ts s).1 ++ [(x.addT (addL ts s).2).1], (x.addT (addL ts s).2).2) := by
  rw [addL_append, addL_cons, addL_nil]
theorem nsL_snoc (ts : List Tm) (x : Tm) : nsL (ts ++ [x]) = nsL ts + x.ns := by rw [nsL_append, nsL_cons, nsL_nil]; omega
theorem nsL_take_le' (ts : List Tm) (j : Nat) : nsL (ts.take j) ≤ nsL ts := by
  have h := nsL_append (ts.take j) (ts.drop j)
  rw [List.take_append_drop] at h
  omega
theorem ACR.next (h : ACR lo g mb w t a c ps vs j va qs u wr) (hx : t.args[j]? = some x) (k1 : Keep (fun k => k < wr.heap.size) wr w1) (k1z : wr.heap.size ≤ w1.heap.size)
    (h1 : SA lo g mb w2 qs' (x.addT (qs.map Pt.nd, (addL (t.args.take j) (ps.map Pt.nd, vs)).2.2)).2.2 u') (h2 : qs'.map Pt.nd = (x.addT (qs.map Pt.nd, (addL (t.args.take j) (ps.map Pt.nd, vs)).2.2)).2.1)
    (h3 : (x.addT (qs.map Pt.nd, (addL (t.args.take j) (ps.map Pt.nd, vs)).2.2)).2.2.length ≤ qs'.length) (h4 : qs'.length ≤ qs.length + x.ns) (h5 : More w1.heap.size qs qs') (h6 : Fx lo g mb w1 w2) :
    w2.ownsRow w.heap.size 3 1 va j (jv (addL (t.args.take j) (ps.map Pt.nd, vs)).1) ∧
    ∀ g1 cap1 w3, w3.ownsRow w.heap.size 3 1 (.slice (some ⟨g1, 0, none⟩) (j + 1) cap1) (j + 1) (jv (addL (t.args.take j) (ps.map Pt.nd, vs)).1 ++ [.int .i64 ((x.addT (qs.map Pt.nd, (addL (t.args.take j) (ps.map Pt.nd, vs)).2.2)).1 : Nat)]) →
      (w2.alloc (.cells #[.int .i64 ((x.addT (qs.map Pt.nd, (addL (t.args.take j) (ps.map Pt.nd, vs)).2.2)).1 : Nat)] 3)).grownBy w3 va.ownBlock → (va.ownBlock = some g1 ∨ g1 = w2.heap.size + 1) → ACR lo g mb w t a c ps vs (j + 1) (.slice (some ⟨g1, 0, none⟩) (j + 1) cap1) qs' u' w3 := by
  have hjl := get_lt' hx
  have htk : t.args.take (j + 1) = t.args.take j ++ [x] := by
    rw [List.getElem?_eq_getElem hjl] at hx
    rw [List.take_succ_eq_append_getElem hjl, Option.some.inj hx]
  have hs2 : (addL (t.args.take j) (ps.map Pt.nd, vs)).2 = (qs.map Pt.nd, (addL (t.args.take j) (ps.map Pt.nd, vs)).2.2) := by rw [h.nds]
  have hfx : Fx lo g mb wr w2 := (Fx.of' k1).trans h6
  have hvx : ∀ b, va.ownBlock = some b → XP lo g mb wr b := fun b hb => by
    obtain ⟨_, cs, hB⟩ := row_type h.row hb
    exact hB.xp (by decide) (hB.ne_ h.sa.box (by decide)) (fun e => h.sa.map.ne_blk hB e.symm)
  have hrow2 := row_on h.row hfx hvx
  refine ⟨hrow2, fun g1 cap1 w3 hown hgr hat => ?_⟩
  have kg : Keep (fun k => va.ownBlock ≠ some k) w2 w3 := ((Keep.refl _ w2).alloc _).trans (Keep.ofGrown hgr (fun k e hx => hx e))
  have nT : ∀ k t cs, Blk w2 k t cs → t ≠ 3 → va.ownBlock ≠ some k := fun k t cs hb ht e => by
    obtain ⟨_, cs', hb'⟩ := row_type hrow2 e
    exact hb.ne_ hb' ht rfl
  have nM : va.ownBlock ≠ some mb := fun e => by
    obtain ⟨_, cs', hb'⟩ := row_type hrow2 e
    exact h1.map.ne_blk hb' rfl
  have hap : ∀ p ∈ qs', ∀ b, p.own b → va.ownBlock ≠ some b := by
    obtain ⟨more, rfl, hm⟩ := h5
    intro p hp b hb
    rcases List.mem_append.1 hp with hp | hp
    · exact h.ap p hp b hb
    · intro e
      have h7 := hm p hp b hb
      obtain ⟨_, cs, hB⟩ := row_type h.row e
      have := hB.lt
      omega
  have hbx : Blk w2 w.heap.size 28 #[.int .i64 t.k, .string (str t.nm), .int .i64 t.i, .slice a t.args.length c] := h.box.keep hfx (h.box.xp (by decide) (h.box.ne_ h.sa.box (by decide)) (fun e => h.sa.map.ne_blk h.box e.symm))
  have hf2 := h.fx.trans hfx
  have hfw : Fx lo g mb w w3 := ⟨kg.os.trans hf2.os, kg.tape.trans hf2.tape, kg.output.trans hf2.output, Nat.le_trans hf2.size kg.size, fun k hk hX => (kg.block k (Nat.lt_of_lt_of_le hk hf2.size) (fun e => by have := (row_type hrow2 e).1; omega)).trans (hf2.block k hk hX)⟩
  have hv2 : ∀ b, va.ownBlock = some b → b < w2.heap.size := fun b e => by obtain ⟨_, cs, hB⟩ := row_type hrow2 e; exact hB.lt
  have hj2 : ∀ p ∈ qs', ∀ b, p.own b → b < w2.heap.size := fun p hp b e => by
    obtain ⟨_, cs, hB⟩ := row_type (h1.js p hp) e; exact hB.lt
  refine ⟨?_, by rw [htk, addL_snoc, hs2]; exact h2, by rw [htk, addL_snoc, hs2]; exact h3, by rw [htk, nsL_snoc]; have := h.pl; omega, h.mo.trans h5 (Nat.le_trans h.fx.size k1z), ?_, fun p hp b hb => ?_, hbx.keep kg (nT _ _ _ hbx (by decide)), hfw⟩
  · rw [htk, addL_snoc, hs2]
    exact ⟨h1.box.keep kg (nT _ _ _ h1.box (by decide)), row_on h1.row kg (fun b hb => by obtain ⟨_, cs, hB⟩ := row_type h1.row hb; exact nT _ _ _ hB (by decide)), h1.map.keep kg nM, fun p hp => row_on (h1.js p hp) kg (fun b hb => hap p hp b hb), h1.lg, h1.lm, h1.fresh⟩
  · rw [htk, addL_snoc, hs2]
    dsimp only
    unfold jv at hown ⊢
    rw [List.map_append]
    exact hown
  · simp only [Value.ownBlock, ne_eq, Option.some.injEq]
    intro e
    subst e
    rcases hat with e | e
    · exact hap p hp _ hb e
    · have := hj2 p hp _ hb; omega
end
end Go.Proofs.YtnfcbalppecnfaaGreat
namespace Go.Proofs.YtnfcbalppecnfaaGreat
open Go.RowKit Go.Maps
set_option linter.unusedVariables false
set_option linter.unusedSimpArgs false
theorem infoI : (Tryz.prog.info? 3).map (fun i => (i.zero, i.size, i.bytes)) = some (some (.int .i64 0), 1, 8) := by kernel_rfl
section
variable {lo g mb : Nat}
set_option maxRecDepth 100000 in
set_option maxHeartbeats 4000000 in
theorem add_comp {t : Tm} (hk : t.k = 4) (h8 : t.args.length ≤ 8) (ih : ∀ x ∈ t.args, AddC2 lo g mb x) : AddC2 lo g mb t := by
  intro w ps vs u a c h hT hroom hvs
  have hns := t.ns_eq
  rw [if_pos hk] at hns
  have hb := Blk.new w 28 #[.int .i64 t.k, .string (str t.nm), .int .i64 t.i, .slice a t.args.length c]
  have kW : Keep (fun k => k < w.heap.size) w (w.alloc (.cells #[.int .i64 t.k, .string (str t.nm), .int .i64 t.i, .slice a t.args.length c] 28)) := (Keep.refl _ w).alloc _
  have hlo : lo ≤ w.heap.size := Nat.le_trans h.lg (Nat.le_of_lt h.box.lt)
  have h0 : ACR lo g mb w t a c ps vs 0 (.slice none 0 0) ps u (w.alloc (.cells #[.int .i64 t.k, .string (str t.nm), .int .i64 t.i, .slice a t.args.length c] 28)) := by
    refine ⟨?_, ?_, ?_, ?_, More.refl _ _, ⟨?_, .inl ⟨rfl, rfl⟩⟩, fun p hp b hb => by simp [Value.ownBlock], hb, Fx.of' kW⟩
    all_goals rw [List.take_zero]
    · rw [addL_nil]; exact h.keep' kW
    · rw [addL_nil]
    · rw [addL_nil]; exact hvs
    · rw [nsL_nil]; exact Nat.le_refl _
    · rw [addL_nil]; rfl
  rw [addT_4 t _ hk]
  dsimp only
  obtain ⟨al, hal⟩ : ∃ al, al = t.args.length := ⟨_, rfl⟩
  have H0 := Lib.hid h0
  have HC := Lib.hid (And.intro hT (And.intro hroom (And.intro hns (And.intro hk hal))))
  have HIH := Lib.hid ih
  obtain ⟨i0, hi0, hz0, hz1, hz2⟩ := info_parts infoPt
  obtain ⟨i1, hi1, hy0, hy1, hy2⟩ := info_parts infoI
  have e1 : ((t.k : Int) == 1) = false := by rw [hk]; decide
  have e4 : ((t.k : Int) == 4) = true := by rw [hk]; decide
  unfold tv
  rw [← hal]
  rw [← hal] at h8
  clear h0 hT hvs hns kW h hb hk ih hroom hal
  go_enter Tryz.func78, Tryz.ntmps78
  go_wp2_with fail
  go_loopg [7, 43] al (fun γ v i' wr => ∃ (j : Nat) (va : Value) (qs : List Pt) (uu : Value), j ≤ al ∧ al - j ≤ γ ∧ i' = .int .i64 j ∧ v = va ∧ ACR lo g mb w t a c ps vs j va qs uu wr)
  case atStart => exact ⟨0, .slice none 0 0, ps, u, Nat.zero_le _, Nat.le_refl _, rfl, rfl, by rw [HC.out.2.2.2.2]; exact H0.out⟩
  case round =>
    clear e1 e4
    obtain ⟨j, va, qs, uu, hj, hg, rfl, rfl, hr⟩ := hrel
    obtain ⟨hT, hroom, hns, hk, hal⟩ := HC.out
    by_cases hlj : j < al
    · obtain ⟨x, hx⟩ : ∃ x, t.args[j]? = some x := ⟨_, List.getElem?_eq_getElem (by rw [← hal]; exact hlj)⟩
      have hlt := hr.sa.box.lt
      have hlg := hr.sa.lg
      have hTr : TmAt lo wr t a c := hT.keepX hr.fx.old (fun k hk => hk)
      obtain ⟨b, off, ax, cx, rfl, hbl, hTx, u0, u1, u2, u3⟩ := hTr.arg hx
      simp only [← Nat.add_assoc] at u0 u1 u2 u3
      have k1 : Keep (fun k => k < wr.heap.size) wr (wr.alloc (.cells #[.int .i64 x.k, .string (str x.nm), .int .i64 x.i, .slice ax x.args.length cx] 28)) := (Keep.refl _ wr).alloc _
      have htk : t.args.take (j + 1) = t.args.take j ++ [x] := by
        have hjl := get_lt' hx
        rw [List.getElem?_eq_getElem hjl] at hx
        rw [List.take_succ_eq_append_getElem hjl, Option.some.inj hx]
      have hn2 := nsL_take_le' t.args (j + 1)
      rw [htk, nsL_snoc] at hn2
      have hpl := hr.pl
      have hcall := HIH.out x (List.mem_of_getElem? hx) _ qs _ uu ax cx (hr.sa.keep' k1) (hTx.keepX k1 (fun k hk => by omega)) (by omega) hr.vl
      have hnext : ∀ w2 qs' u', _ → _ → _ → _ → _ → _ → _ := fun w2 qs' u' => hr.next (w1 := wr.alloc (.cells #[.int .i64 x.k, .string (str x.nm), .int .i64 x.i, .slice ax x.args.length cx] 28)) (w2 := w2) (qs' := qs') (u' := u') hx k1 (by simp)
      have HN := Lib.hid hnext; clear hnext
      unfold tv at hcall
      generalize hrr : (x.addT (qs.map Pt.nd, (addL (t.args.take j) (ps.map Pt.nd, vs)).2.2)).1 = rr at hcall HN
      have HCALL := Lib.hid hcall; clear hcall
      have hbw : b < wr.heap.size := by omega
      have hwj : IntKind.i64.wrap ((j : Int) + 1) = (j : Int) + 1 := by rw [IntKind.wrap_i64]; omega
      have HJ := Lib.hid (And.intro hlj (And.intro hg hr.fx.size))
      have hsz9 := hr.fx.size
      clear hal hT hroom hns hk hr hTr hTx k1 htk hn2 hpl hx hg hrr
      go_wp2_with fail
      refine HCALL.out.mono ?_
      rintro e w2 ⟨qs', u', rfl, p1, p2, p3, p4, p5, p6⟩
      have hz2 := p6.size
      simp only [World.size_alloc] at hz2
      obtain ⟨hrow2, hafter⟩ := HN.out w2 qs' u' p1 p2 p3 p4 p5 p6
      have HR := Lib.hid hrow2; clear hrow2
      have HAFT := Lib.hid hafter; clear hafter p1 p2 p3 p4 p5 p6 HN HCALL u0 u1 u2 u3
      go_wp2_with (at_builtin; refine wpList_append_lies _ rfl _ _ 37 rfl w.heap.size 3 i1 (.int .i64 0) 1 8 Tryz.underlying37 hi1 hy0 hy1 hy2 rfl (by decide) _ j _ rfl (HR.out.alloc _) ⟨w2.heap.size, 0, none⟩ 1 1 [.int .i64 (rr : Nat)] rfl rfl (cell_one_new w2 (.int .i64 (rr : Nat)) 3) (ints_oneCell .i64 [(rr : Int)]) (by decide) (by unfold maxLen; omega) (by omega) (by simp; omega) (w2.heap.size + 1) (by simp) ?_)
      intro g1 capg1 w9 hown hgr hat hltg1
      have hE := HAFT.out g1 capg1 w9 hown hgr hat
      have HE := Lib.hid hE; clear hE hown hgr hat HAFT HR
      go_wp2_with fail
      go_roundg (al - (j + 1))
      case measure => have := HJ.out; omega
      case rel => exact ⟨j + 1, _, qs', u', (by have := HJ.out; omega), Nat.le_refl _, by go_num, rfl, HE.out⟩
    · have hja : al = j := by omega
      subst hja
      have hsa := hr.sa
      have hnds := hr.nds
      have hvl := hr.vl
      have hpl := hr.pl
      have hrow := hr.row
      have hmo := hr.mo
      have hbx := hr.box
      have hfx := hr.fx
      rw [hal, List.take_length] at hsa hnds hvl hpl hrow
      obtain ⟨L, hL⟩ : ∃ L, L = (addL t.args (ps.map Pt.nd, vs)).1 := ⟨_, rfl⟩
      obtain ⟨V, hV⟩ : ∃ V, V = (addL t.args (ps.map Pt.nd, vs)).2.2 := ⟨_, rfl⟩
      rw [← hL] at hrow
      rw [← hV] at hsa hvl
      have hll : L.length = t.args.length := by rw [hL, addL_length]
      rw [← hll] at hrow
      obtain ⟨ja, jc, hva⟩ : ∃ ja jc, u7 = .slice ja L.length jc := by
        rcases hrow.2 with ⟨rfl, h0⟩ | ⟨b, cap, cur, rfl, _⟩
        · exact ⟨none, 0, by rw [h0]⟩
        · exact ⟨_, _, rfl⟩
      subst hva
      have hjs := row_base hrow hlo
      have hroomq : qs.length + 1 ≤ 5000 := by omega
      have HF := Lib.hid (And.intro hL (And.intro hnds (And.intro (show V.length ≤ qs.length + 1 by omega) (And.intro (show qs.length + 1 ≤ ps.length + t.ns by omega) (And.intro hmo (fun b (hb : (Value.slice ja L.length jc).ownBlock = some b) => (row_type hrow hb).1))))))
      rw [hk] at hbx
      have HK4 := Lib.hid hk
      clear hr hmo hvl hpl hrow hT hroom hns hal hnds HIH H0
      obtain ⟨p, hp⟩ : ∃ p : Pt, p = ⟨⟨4, t.nm, t.i, L⟩, a, t.args.length, c, ja, jc, qs.length, 0, 0, 0⟩ := ⟨_, rfl⟩
      have hpc : p.cells = [.int .i64 4, .string (str t.nm), .int .i64 t.i, .slice a t.args.length c, .slice ja L.length jc, .int .i64 (qs.length : Nat), .int .i64 0, .int .i64 0, .int .i64 0] := by rw [hp]; rfl
      obtain ⟨hown, hend⟩ := add_end (p := p) hsa (by rw [hp]) (by rw [hp]) (by rw [hp]) (by rw [hp]) (by rw [hp]; exact hjs) hfx
      rw [hpc] at hend
      obtain ⟨ua, uc, hu⟩ := hsa.uslice
      have b0 := hsa.box.cell 0
      simp at b0
      have lg0 := hsa.box.lt
      have n0 := hbx.cell 0; have n1 := hbx.cell 1; have n2 := hbx.cell 2; have n3 := hbx.cell 3
      simp at n0 n1 n2 n3
      have lb := hbx.lt
      have hlo : lo ≤ wr.heap.size := Nat.le_trans hsa.lg (Nat.le_of_lt lg0)
      subst hu
      obtain ⟨len, hlen⟩ : ∃ len, len = qs.length := ⟨_, rfl⟩
      rw [← hlen] at hown hend b0 hroomq
      have HP := Lib.hid (And.intro hp hlen)
      have HOWN := Lib.hid (row_on (hown.alloc (.cells #[.int .i64 4, .string (str t.nm), .int .i64 t.i, .slice a t.args.length c, .slice ja L.length jc, .int .i64 len, .int .i64 0, .int .i64 0, .int .i64 0] 147)) ((Keep.refl (fun _ => True) _).drew) (fun _ _ => trivial))
      have HEND := Lib.hid hend
      have HNEWS := Lib.hid (news_at ((Blk.new wr 147 [.int .i64 4, .string (str t.nm), .int .i64 t.i, .slice a t.args.length c, .slice ja L.length jc, .int .i64 len, .int .i64 0, .int .i64 0, .int .i64 0].toArray).drew))
      have HONE : Hid (∀ v ∈ [Value.int .i64 4, .string (str t.nm), .int .i64 t.i, .slice a t.args.length c, .slice ja L.length jc, .int .i64 len, .int .i64 0, .int .i64 0, .int .i64 0], v.oneCell' = true) := Lib.hid (by simp [Value.oneCell'])
      have HCF := Lib.hid (And.intro b0 (And.intro lg0 (And.intro n0 (And.intro n1 (And.intro n2 (And.intro n3 lb))))))
      clear hp hpc hown hend hlen b0 lg0 n0 n1 n2 n3 lb
      clear hsa hbx hfx hjs hL hll hk HC
      obtain ⟨b0, lg0, n0, n1, n2, n3, lb⟩ := HCF.out
      have HV := Lib.hid hV; clear hV
      go_wp2_with fail
      go_region_law (refine step_append_lies _ rfl (.tmp 63) (.tmp 68) 126 rfl lo 147 i0 (.agg #[.int .i64 0, .string ⟨#[]⟩, .int .i64 0, .slice none 0 0, .slice none 0 0, .int .i64 0, .int .i64 0, .int .i64 0, .int .i64 0]) 9 112 Tryz.underlying126 hi0 hz0 hz1 hz2 rfl (by decide) (.slice ua len uc) len _ (by first | rfl | (simp [Act.eval, Act.put]; done) | (simp [Act.eval, Act.put]; exact HP.out.2.symm)) HOWN.out ⟨wr.heap.size, 0, none⟩ 1 1 [.int .i64 4, .string (str t.nm), .int .i64 t.i, .slice a t.args.length c, .slice ja L.length jc, .int .i64 len, .int .i64 0, .int .i64 0, .int .i64 0] (by first | rfl | (simp [Act.eval, Act.put]; done) | (simp [Act.eval, Act.put]; exact HP.out.2.symm)) rfl HNEWS.out HONE.out (by decide) (by unfold maxLen; omega) (by omega) (by simp; omega) _ rfl ?_; intro g6 cap6 w6 hown6 hgr6 hat6 hlt6; obtain ⟨lg6, b6, f6, e6⟩ := HEND.out g6 cap6 w6 hown6 hgr6; have HE6 := Lib.hid e6; clear hown6 hgr6 hat6 e6)
      all_goals
        go_wp2_with fail
        go_ret
        obtain ⟨e1, e2⟩ := HE6.out _ rfl
        first
          | exact ⟨qs ++ [p], _, by rw [← HF.out.2.1, List.length_map, ← HP.out.2]; rfl, by rw [← HV.out]; exact e1, by rw [List.map_append, HF.out.2.1, HP.out.1, HF.out.1, HK4.out]; rfl, by rw [List.length_append, List.length_singleton]; have := HF.out.2.2.1; rw [HV.out] at this; omega, by rw [List.length_append, List.length_singleton]; have := HF.out.2.2.2.1; omega, HF.out.2.2.2.2.1.trans (More.one fun b hb => HF.out.2.2.2.2.2 b (by rw [HP.out.1] at hb; exact hb)) (Nat.le_refl _), e2⟩
          | exact ⟨by rw [← HF.out.2.1, List.length_map, ← HP.out.2]; rfl, qs ++ [p], ⟨_, by rw [← HV.out]; exact e1⟩, by rw [List.map_append, HF.out.2.1, HP.out.1, HF.out.1, HK4.out]; rfl, by rw [List.length_append, List.length_singleton]; have := HF.out.2.2.1; rw [HV.out] at this; omega, by rw [List.length_append, List.length_singleton]; have := HF.out.2.2.2.1; omega, HF.out.2.2.2.2.1.trans (More.one fun b hb => HF.out.2.2.2.2.2 b (by rw [HP.out.1] at hb; exact hb)) (Nat.le_refl _), e2⟩
theorem add_any : ∀ t : Tm, t.ok = true → AddC2 lo g mb t := by
  intro t
  induction t using Tm.ind with
  | h kd nm i args ih =>
    intro hok
    rcases Tm.ok_kind hok with h | h | h | h
    · exact add_var h
    · exact add_leaf (by omega) (by omega)
    · exact add_leaf (by omega) (by omega)
    · obtain ⟨h1, h8, ha, _⟩ := Tm.ok_args hok h
      exact add_comp h h8 fun x hx => ih x hx (ha x hx)
end
end Go.Proofs.YtnfcbalppecnfaaGreat
