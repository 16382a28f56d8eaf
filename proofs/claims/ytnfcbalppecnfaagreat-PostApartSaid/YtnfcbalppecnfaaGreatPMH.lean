/-
  Joined texts (Tv0, Tv1, Tv2, Tv3, Tv4). No condition.
-/
import Derived.Test.YtnfcbalppecnfaaGreatPMB
import Derived.Test.YtnfcbalppecnfaaGreatPME
import Derived.Deep.QuietTactic
import Derived.Deep.RegionHeld3
namespace Go.Proofs.YtnfcbalppecnfaaGreat
open Go.RowKit Go.Maps
set_option linter.unusedVariables false
set_option linter.unusedSimpArgs false
structure Pt where
  nd : Nd
  ta : Option Addr
  tl : Nat
  tc : Nat
  ja : Option Addr
  jc : Nat
  same : Nat
  st : Int
  sz : Int
  dp : Int
instance : Inhabited Pt := ⟨⟨default, none, 0, 0, none, 0, 0, 0, 0, 0⟩⟩
def Pt.cells (p : Pt) : List Value := [.int .i64 p.nd.k, .string (str p.nd.nm), .int .i64 p.nd.i, .slice p.ta p.tl p.tc, .slice p.ja p.nd.args.length p.jc, .int .i64 p.same, .int .i64 p.st, .int .i64 p.sz, .int .i64 p.dp]
theorem Pt.cells_len (p : Pt) : p.cells.length = 9 := rfl
section
variable {α : Type} {m : Nat} {f : α → List Value}
theorem flatM_get (hf : ∀ x, (f x).length = m) : ∀ (ps : List α) (j k : Nat), k < m → (ps.flatMap f)[j * m + k]? = (ps[j]?).bind (fun p => (f p)[k]?) := by
  intro ps
  induction ps with
  | nil => intro j k _; simp
  | cons p ps ih =>
    intro j k hk
    rw [List.flatMap_cons]
    cases j with
    | zero => rw [List.getElem?_append_left (by rw [hf]; omega)]; simp
    | succ j =>
      rw [List.getElem?_append_right (by rw [hf, Nat.succ_mul]; omega), hf, show (j + 1) * m + k - m = j * m + k by rw [Nat.succ_mul]; omega, ih j k hk]
      simp
theorem flatM_set (hf : ∀ x, (f x).length = m) {x y : α} {k : Nat} {v : Value} (hy : f y = (f x).set k v) (hk : k < m) : ∀ (ps : List α) (j : Nat), ps[j]? = some x → (ps.flatMap f).set (j * m + k) v = (ps.set j y).flatMap f := by
  intro ps
  induction ps with
  | nil => intro j h; simp at h
  | cons p ps ih =>
    intro j h
    cases j with
    | zero =>
      simp only [List.getElem?_cons_zero, Option.some.injEq] at h
      subst h
      rw [List.flatMap_cons, List.set_cons_zero, List.flatMap_cons, hy, List.set_append_left _ _ (by rw [hf]; omega)]
      simp
    | succ j =>
      simp only [List.getElem?_cons_succ] at h
      rw [List.flatMap_cons, List.set_cons_succ, List.flatMap_cons, List.set_append_right _ _ (by rw [hf, Nat.succ_mul]; omega), hf, show (j + 1) * m + k - m = j * m + k by rw [Nat.succ_mul]; omega, ih j h]
theorem flatM_len (hf : ∀ x, (f x).length = m) (ps : List α) : (ps.flatMap f).length = ps.length * m := by
  induction ps with
  | nil => simp
  | cons p ps ih => rw [List.flatMap_cons, List.length_append, hf, ih, List.length_cons, Nat.succ_mul]; omega
end
def vf (vs : List (Int × Nat)) : Int → Option Value := fun x => (lkp vs x).map fun a : Nat => Value.int .i64 (a : Int)
def jv (l : List Nat) : List Value := l.map fun j : Nat => .int .i64 (j : Int)
structure SB (lo g mb gp cap : Nat) (w : World) (ps : List Pt) (vs : List (Int × Nat)) : Prop where
  box : Blk w g 128 #[.slice (some ⟨gp, 0, none⟩) ps.length cap, .map (some mb)]
  pts : ∃ rest, Blk w gp 147 (ps.flatMap Pt.cells ++ rest).toArray
  map : MapI w mb (.int .i64 0) (vf vs) vs.length
  js : ∀ p ∈ ps, w.ownsRow lo 3 1 (.slice p.ja p.nd.args.length p.jc) p.nd.args.length (jv p.nd.args)
  lg : lo ≤ g
  lm : lo ≤ mb
  lp : lo ≤ gp
section
variable {lo g mb gp cap : Nat} {w w' : World} {ps : List Pt} {vs : List (Int × Nat)} {i f : Nat} {p q : Pt} {v : Value}
theorem SB.cell (h : SB lo g mb gp cap w ps vs) (hp : ps[i]? = some p) (hv : p.cells[f]? = some v) : w.cell? ⟨gp, i * 9 + f, none⟩ = some v := by
  obtain ⟨rest, hb⟩ := h.pts
  have hf : f < 9 := get_lt' hv
  rw [hb.cell, List.getElem?_toArray, List.getElem?_append_left, flatM_get Pt.cells_len ps i f hf, hp]
  · exact hv
  · have := get_lt' hp
    rw [flatM_len Pt.cells_len]
    have : (i + 1) * 9 ≤ ps.length * 9 := Nat.mul_le_mul_right 9 this
    omega
theorem SB.frz (h : SB lo g mb gp cap w ps vs) (i : Nat) : w.frozen? ⟨gp, i, none⟩ = false := by
  obtain ⟨rest, hb⟩ := h.pts; exact hb.frozen i
theorem SB.ltp (h : SB lo g mb gp cap w ps vs) : gp < w.heap.size := by obtain ⟨rest, hb⟩ := h.pts; exact hb.lt
theorem SB.ne1 (h : SB lo g mb gp cap w ps vs) : g ≠ gp := by obtain ⟨rest, hb⟩ := h.pts; exact h.box.ne_ hb (by decide)
theorem SB.ne2 (h : SB lo g mb gp cap w ps vs) : mb ≠ gp := by obtain ⟨rest, hb⟩ := h.pts; exact h.map.ne_blk hb
theorem js_keep {X : Nat → Prop} {u : Value} {n : Nat} {l : List Value} (h : w.ownsRow lo 3 1 u n l) (hk : Keep X w w') (hX : ∀ b cs, Blk w b 3 cs → lo ≤ b → X b) : w'.ownsRow lo 3 1 u n l :=
  row_on h hk (fun b hb => by obtain ⟨h1, cs, hB⟩ := row_type h hb; exact hX b cs hB h1)
theorem SB.set (h : SB lo g mb gp cap w ps vs) (hp : ps[i]? = some p) (hf : f < 9) (hq : q.cells = p.cells.set f v) (hn : q.nd = p.nd) (hj : q.ja = p.ja) (hc : q.jc = p.jc) : SB lo g mb gp cap (w.setCell ⟨gp, i * 9 + f, none⟩ v) (ps.set i q) vs := by
  have k : Keep (fun k => k ≠ gp) w (w.setCell ⟨gp, i * 9 + f, none⟩ v) := (Keep.refl _ w).setCell (p := ⟨gp, i * 9 + f, none⟩) (fun h => h rfl) v
  refine ⟨by rw [List.length_set]; exact h.box.keep k h.ne1, ?_, h.map.keep k h.ne2, fun r hr => ?_, h.lg, h.lm, h.lp⟩
  · obtain ⟨rest, hb⟩ := h.pts
    refine ⟨rest, ?_⟩
    have hb2 := hb.set_ (i * 9 + f) v
    rw [← flatM_set Pt.cells_len hq hf ps i hp, ← List.set_append_left]
    · simpa using hb2
    · have := get_lt' hp
      rw [flatM_len Pt.cells_len]
      have : (i + 1) * 9 ≤ ps.length * 9 := Nat.mul_le_mul_right 9 this
      omega
  · have go : ∀ r ∈ ps, (w.setCell ⟨gp, i * 9 + f, none⟩ v).ownsRow lo 3 1 (.slice r.ja r.nd.args.length r.jc) r.nd.args.length (jv r.nd.args) := fun r hr => js_keep (h.js r hr) k (fun b cs hB _ => by
      obtain ⟨rest, hb⟩ := h.pts
      exact hB.ne_ hb (by decide))
    rcases List.mem_or_eq_of_mem_set hr with hr | rfl
    · exact go r hr
    · rw [hn, hj, hc]; exact go p (List.mem_of_getElem? hp)
theorem SB.keep {X : Nat → Prop} (h : SB lo g mb gp cap w ps vs) (hk : Keep X w w') (hX : ∀ k, lo ≤ k → k < w.heap.size → X k) : SB lo g mb gp cap w' ps vs := by
  obtain ⟨rest, hb⟩ := h.pts
  exact ⟨h.box.keep hk (hX _ h.lg h.box.lt), ⟨rest, hb.keep hk (hX _ h.lp hb.lt)⟩, h.map.keep hk (hX _ h.lm h.map.lt), fun p hp => js_keep (h.js p hp) hk (fun b cs hB hl => hX b hl hB.lt), h.lg, h.lm, h.lp⟩
theorem SB.drewN (h : SB lo g mb gp cap w ps vs) (n : Nat) : SB lo g mb gp cap (w.drewN n) ps vs := h.keep (X := fun _ => True) ((Keep.refl _ w).drewN n) (fun _ _ _ => trivial)
theorem SB.keep' (h : SB lo g mb gp cap w ps vs) (hk : Keep (fun k => k < w.heap.size) w w') : SB lo g mb gp cap w' ps vs := h.keep hk (fun k _ hk => hk)
theorem far_cell {b o b' o' : Nat} {v u : Value} (hne : b' ≠ b) (h : w.cell? ⟨b', o', none⟩ = some u) : (w.setCell ⟨b, o, none⟩ v).cell? ⟨b', o', none⟩ = some u :=
  (World.cell?_of_block (a := ⟨b', o', none⟩) (Below.heap_setCell w ⟨b, o, none⟩ v b' hne)).trans h
theorem two_new (w : World) (t : TypeId) (A B : Array Value) {W : World} (h : W = ((w.alloc (.cells A t)).alloc (.cells B t)).drew) : Blk W w.heap.size t A ∧ Blk W (w.heap.size + 1) t B ∧ Keep (fun k => k < w.heap.size) w W := by
  rw [h]
  refine ⟨((Blk.new w t A).alloc _).drew, ?_, (((Keep.refl _ w).alloc _).alloc _).drew⟩
  have := Blk.new (w.alloc (.cells A t)) t B
  rw [World.size_alloc] at this
  exact this.drew
def smf (ps : List Pt) : Nat → Nat := fun a => ((ps[a]?).map Pt.same).getD a
theorem smf_at (h : ps[i]? = some p) : smf ps i = p.same := by simp [smf, h]
theorem smf_set (hi : i < ps.length) : smf (ps.set i q) = upd (smf ps) i q.same := by
  funext x
  unfold smf upd
  rw [List.getElem?_set]
  by_cases hx : x = i
  · subst hx; simp [hi]
  · rw [if_neg (fun e => hx e.symm), if_neg hx]
def Pt.sk (p : Pt) : Pt := { p with same := 0 }
def LikeS (ps ps' : List Pt) : Prop := ps'.map Pt.sk = ps.map Pt.sk
theorem LikeS.refl (ps : List Pt) : LikeS ps ps := rfl
theorem LikeS.trans {a b c : List Pt} (h : LikeS a b) (k : LikeS b c) : LikeS a c := Eq.trans k h
theorem LikeS.len {a b : List Pt} (h : LikeS a b) : b.length = a.length := by have := congrArg List.length h; simpa using this
theorem LikeS.set (hp : ps[i]? = some p) (s : Nat) : LikeS ps (ps.set i { p with same := s }) := by
  unfold LikeS
  rw [List.map_set]
  refine List.ext_getElem? fun j => ?_
  rw [List.getElem?_set]
  split
  · rename_i e
    subst e
    rw [if_pos (by rw [List.length_map]; exact get_lt' hp), List.getElem?_map, hp]
    rfl
  · rfl
theorem LikeS.get {a b : List Pt} (h : LikeS a b) {x : Nat} {p : Pt} (hp : a[x]? = some p) : ∃ s, b[x]? = some { p with same := s } := by
  have h1 : (b.map Pt.sk)[x]? = (a.map Pt.sk)[x]? := by rw [h]
  rw [List.getElem?_map, List.getElem?_map, hp] at h1
  obtain ⟨q, hq, he⟩ := Option.map_eq_some_iff.1 h1
  refine ⟨q.same, ?_⟩
  rw [hq]
  cases q; cases p
  simp only [Pt.sk, Pt.mk.injEq] at he
  simp only [Option.some.injEq, Pt.mk.injEq]
  simp_all
end
end Go.Proofs.YtnfcbalppecnfaaGreat
namespace Go.Proofs.YtnfcbalppecnfaaGreat
open Go.RowKit Go.Maps
set_option linter.unusedVariables false
set_option linter.unusedSimpArgs false
section
variable {lo g mb gp cap : Nat} {w : World} {ps : List Pt} {vs : List (Int × Nat)} {R rk : Nat → Nat} {at_ : Nat}
structure Shr (lo g mb gp cap : Nat) (w : World) (ps : List Pt) (vs : List (Int × Nat)) (R rk : Nat → Nat) (ps' : List Pt) (w' : World) : Prop where
  sb : SB lo g mb gp cap w' ps' vs
  like : LikeS ps ps'
  fo : Forest ps.length (smf ps') R rk
  kp : Keep (fun k => k ≠ gp) w w'
set_option maxRecDepth 100000 in
set_option maxHeartbeats 4000000 in
theorem of_any (h : SB lo g mb gp cap w ps vs) (hF : Forest ps.length (smf ps) R rk) (ha : at_ < ps.length) (hn : ps.length ≤ 5000) :
    Calls Tryz.prog 91 #[.pointer (some ⟨g, 0, none⟩), .int .i64 at_] w fun e w' => ∃ ps', e = .returned (.int .i64 (R at_ : Nat)) ∧ Shr lo g mb gp cap w ps vs R rk ps' w' := by
  obtain ⟨n, hnn⟩ : ∃ n, n = ps.length := ⟨_, rfl⟩
  have H0 : Shr lo g mb gp cap w ps vs R rk ps w := ⟨h, LikeS.refl _, hF, Keep.refl _ _⟩
  have H := Lib.hid H0; clear H0 h hF
  have HN := Lib.hid hnn
  rw [← hnn] at ha hn
  clear hnn
  go_enter Tryz.func91, Tryz.ntmps91
  go_wp2_with fail
  go_loopw [1] (fun v wr => ∃ (x : Nat) (qs : List Pt), v = .int .i64 x ∧ x < n ∧ R x = R at_ ∧ Shr lo g mb gp cap w ps vs R rk qs wr) (fun v _ => rk (intOf v).toNat)
  case atStart => exact ⟨at_, ps, rfl, ha, rfl, H.out⟩
  case round =>
    obtain ⟨x, qs, rfl, hx, hR, hs⟩ := hrel
    have hl : qs.length = n := by rw [hs.like.len, HN.out]
    obtain ⟨p, hp⟩ : ∃ p, qs[x]? = some p := ⟨_, List.getElem?_eq_getElem (by omega)⟩
    have hF := hs.fo
    rw [← HN.out] at hF
    have b0 := hs.sb.box.cell 0
    rw [hl] at b0
    simp at b0
    have c5 := hs.sb.cell hp (f := 5) rfl
    have hsm := smf_at hp
    have hlt := hF.lt x hx
    rw [hsm] at hlt
    by_cases he : p.same = x
    · have hr := hF.root_of hx (by rw [hsm]; exact he)
      have HE := Lib.hid (And.intro hr (And.intro hR hs))
      rw [he] at c5
      clear hs hF hsm hp hR hr hlt he
      go_wp2_with fail
      go_ret
      exact ⟨qs, by rw [← HE.out.2.1, HE.out.1]; rfl, HE.out.2.2⟩
    · obtain ⟨y, hy⟩ : ∃ y, y = p.same := ⟨_, rfl⟩
      rw [← hy] at hlt he c5
      obtain ⟨p2, hp2⟩ : ∃ p2, qs[y]? = some p2 := ⟨_, List.getElem?_eq_getElem (by omega)⟩
      have d5 := hs.sb.cell hp2 (f := 5) rfl
      have hlt2 := hF.lt y hlt
      rw [smf_at hp2] at hlt2
      have hhalve := hF.halve hx (by rw [hsm, ← hy]; exact he)
      rw [hsm, ← hy, smf_at hp2] at hhalve
      have hrt := hF.root y hlt
      rw [smf_at hp2] at hrt
      have hrt1 := hF.root x hx
      rw [hsm, ← hy] at hrt1
      have hrk : rk p2.same < rk x := by
        have h1 := hF.rank x hx (by rw [hsm, ← hy]; exact he)
        rw [hsm, ← hy] at h1
        by_cases e : p2.same = y
        · rw [e]; exact h1
        · have h2 := hF.rank y hlt (by rw [smf_at hp2]; exact e)
          rw [smf_at hp2] at h2
          omega
      obtain ⟨z, hz⟩ : ∃ z, z = p2.same := ⟨_, rfl⟩
      have hset := (hs.sb.set (f := 5) (v := .int .i64 (p2.same : Int)) (q := { p with same := p2.same }) hp (by decide) rfl rfl rfl rfl).drewN 1
      have hlike := hs.like.trans (LikeS.set hp p2.same)
      have hkp := (hs.kp.setCell (p := ⟨gp, x * 9 + 5, none⟩) (fun h => h rfl) (.int .i64 (p2.same : Int))).drewN 1
      rw [← hz] at hset hkp hlike hhalve hrt hrk d5 hlt2
      obtain ⟨W, hW⟩ : ∃ W, W = (wr.setCell ⟨gp, x * 9 + 5, none⟩ (.int .i64 (z : Int))).drew := ⟨_, rfl⟩
      replace hset : SB lo g mb gp cap W (qs.set x { p with same := z }) vs := by rw [hW]; exact hset
      replace hkp : Keep (fun k => k ≠ gp) w W := by rw [hW]; exact hkp
      have hfin : Shr lo g mb gp cap w ps vs R rk (qs.set x { p with same := z }) W :=
        ⟨hset, hlike, by rw [smf_set (by omega), ← HN.out]; exact hhalve, hkp⟩
      have e5 := hset.cell (i := x) (p := { p with same := z }) (f := 5) (by rw [List.getElem?_set_self (by omega)]) rfl
      dsimp only at e5
      have fz := hs.sb.frz (x * 9 + 5)
      have hne1 : g ≠ gp := hs.sb.ne1
      have b0' := hset.box.cell 0
      simp only [List.length_set, hl] at b0'
      simp at b0'
      have lgp := hs.sb.ltp
      have HE := Lib.hid (And.intro hrt (And.intro hrt1 (And.intro hR hfin)))
      have HRK := Lib.hid hrk
      have hne : ((y : Int) == (x : Int)) = false := by have : ¬ (y : Int) = (x : Int) := by omega
                                                        simpa using this
      have HW := Lib.hid hW
      clear hs hF hsm hp hR hset hlike hfin hp2 hhalve hrt hrt1 hy he hrk hz hkp hW
      go_wp2_with fail
      go_region_with (fail)
      all_goals
        rw [← HW.out]
        go_wp2_with fail
        go_roundw
      all_goals first | exact ⟨z, _, rfl, hlt2, by rw [HE.out.1, HE.out.2.1, HE.out.2.2.1], HE.out.2.2.2⟩ | simpa [intOf] using HRK.out
end
end Go.Proofs.YtnfcbalppecnfaaGreat
namespace Go.Proofs.YtnfcbalppecnfaaGreat
open Go.RowKit Go.Maps
set_option linter.unusedVariables false
set_option linter.unusedSimpArgs false
structure Shut (p : Prop) : Prop where
  out : p
theorem skipH {P : Program} {ops : Array Oper} {C : World → Prop} {Q : Act → Prop} {o : Oper} {rest : List Oper} {a : Act} (h : Region.wanted o (yielded ops a.tmps) = false) (hn : Shut (wpQuiet P ops C Q rest (a.put o.dst undef))) : Shut (wpQuiet P ops C Q (o :: rest) a) := ⟨by unfold wpQuiet; rw [h]; exact hn.out⟩
section
variable {lo g mb gp cap : Nat} {w : World} {ps : List Pt} {vs : List (Int × Nat)} {x y : Nat} {p q : Pt}
set_option maxRecDepth 100000 in
set_option maxHeartbeats 4000000 in
theorem standsFor_any (h : SB lo g mb gp cap w ps vs) (hp : ps[x]? = some p) (hq : ps[y]? = some q) (hn : ps.length ≤ 5000) (hkp : p.nd.k = 1 ∨ p.nd.k = 2 ∨ p.nd.k = 3 ∨ p.nd.k = 4) (hkq : q.nd.k = 1 ∨ q.nd.k = 2 ∨ q.nd.k = 3 ∨ q.nd.k = 4) :
    Calls Tryz.prog 92 #[.pointer (some ⟨g, 0, none⟩), .int .i64 x, .int .i64 y] w fun e w' => e = .returned (.bool (stands p.nd q.nd)) ∧ Keep (fun k => k < w.heap.size) w w' := by
  have hx := get_lt' hp
  have hy := get_lt' hq
  obtain ⟨n, hnn⟩ : ∃ n, n = ps.length := ⟨_, rfl⟩
  have b0 := h.box.cell 0
  rw [← hnn] at b0 hx hy hn
  simp at b0
  have c0 := h.cell hp (f := 0) rfl
  have c1 := h.cell hp (f := 1) rfl
  have c2 := h.cell hp (f := 2) rfl
  have c3 := h.cell hp (f := 3) rfl
  have c4 := h.cell hp (f := 4) rfl
  have d0 := h.cell hq (f := 0) rfl
  have d1 := h.cell hq (f := 1) rfl
  have d2 := h.cell hq (f := 2) rfl
  have d3 := h.cell hq (f := 3) rfl
  have d4 := h.cell hq (f := 4) rfl
  simp only [Nat.add_zero] at c0 d0
  have l1 := h.ltp
  have l2 := h.box.lt
  have k0 : Keep (fun k => k < w.heap.size) w w := Keep.refl _ _
  clear hnn hp hq h
  unfold stands
  generalize p.nd.k = pk at *
  generalize p.nd.nm = pm at *
  generalize p.nd.i = pi at *
  generalize p.nd.args.length = pl at *
  generalize q.nd.k = qk at *
  generalize q.nd.nm = qm at *
  generalize q.nd.i = qi at *
  generalize q.nd.args.length = ql at *
  go_enter Tryz.func92, Tryz.ntmps92
  go_wp2_with fail
  go_region_held3 (fun w' => w'.cell? ⟨g, 0, none⟩ = some (.slice (some ⟨gp, 0, none⟩) n cap) ∧ w'.cell? ⟨gp, x * 9, none⟩ = some (.int .i64 pk) ∧ w'.cell? ⟨gp, x * 9 + 1, none⟩ = some (.string (str pm)) ∧ w'.cell? ⟨gp, x * 9 + 2, none⟩ = some (.int .i64 pi) ∧ w'.cell? ⟨gp, x * 9 + 3, none⟩ = some (.slice p.ta p.tl p.tc) ∧
    w'.cell? ⟨gp, y * 9, none⟩ = some (.int .i64 qk) ∧ w'.cell? ⟨gp, y * 9 + 1, none⟩ = some (.string (str qm)) ∧ w'.cell? ⟨gp, y * 9 + 2, none⟩ = some (.int .i64 qi) ∧ w'.cell? ⟨gp, y * 9 + 3, none⟩ = some (.slice q.ta q.tl q.tc)) (first | assumption | go_keep) (fail)
  · obtain ⟨W, hW⟩ : ∃ W, W = ((w.alloc (.cells #[.int .i64 pk, .string (str pm), .int .i64 pi, .slice p.ta p.tl p.tc] 28)).alloc (.cells #[.int .i64 qk, .string (str qm), .int .i64 qi, .slice q.ta q.tl q.tc] 28)).drew := ⟨_, rfl⟩
    rw [← hW]
    obtain ⟨hb1, hb2, hK⟩ := two_new w 28 _ _ hW
    have x0 := hb1.cell 0; have x1 := hb1.cell 1; have x2 := hb1.cell 2
    have y0 := hb2.cell 0; have y1 := hb2.cell 1; have y2 := hb2.cell 2
    have lx := hb1.lt; have ly := hb2.lt
    simp at x0 x1 x2 y0 y1 y2
    have hz := hK.size
    have hfar : ∀ o v, w.cell? ⟨gp, o, none⟩ = some v → W.cell? ⟨gp, o, none⟩ = some v := fun o v h => (World.cell?_of_block (a := ⟨gp, o, none⟩) (hK.block gp l1 l1)).trans h
    have w0 : W.cell? ⟨g, 0, none⟩ = some (.slice (some ⟨gp, 0, none⟩) n cap) := (World.cell?_of_block (a := ⟨g, 0, none⟩) (hK.block g l2 l2)).trans b0
    have w4 := hfar _ _ c4
    have v4 := hfar _ _ d4
    clear hfar c0 c1 c2 c3 c4 d0 d1 d2 d3 d4 b0 hb1 hb2 k0
    have l1' : gp < W.heap.size := by omega
    have l2' : g < W.heap.size := by omega
    have HK := Lib.hid hK; clear hK hW hz l1 l2
    by_cases e1 : qk = 1
    · subst e1
      by_cases e2 : pk = 1
      · subst e2
        go_wp2_with fail
        all_goals go_ret
        all_goals exact ⟨by simp, HK.out⟩
      · have e2' : ((pk : Int) == 1) = false := by simpa using e2
        have e3' : ((pk : Int) != 1) = true := by simp [e2]
        go_wp2_with fail
        all_goals go_ret
        all_goals exact ⟨by simp [e2], HK.out⟩
    · have e1' : ((qk : Int) == 1) = false := by simpa using e1
      by_cases e3 : pk = qk
      · subst e3
        by_cases e4 : pk = 2
        · subst e4
          go_wp2_with fail
          all_goals go_ret
          all_goals exact ⟨by simp; rw [Bool.eq_iff_iff]; simp, HK.out⟩
        · have e4' : ((pk : Int) == 2) = false := by simpa using e4
          by_cases e5 : pm = qm
          · subst e5
            go_wp2_with fail
            all_goals go_quiet (fail)
            all_goals go_wp2_with fail
            all_goals go_ret
            all_goals exact ⟨by simp [e1, e4]; rw [Bool.eq_iff_iff]; simp; omega, HK.out.drewN _⟩
          · have e5' : ¬ str pm = str qm := fun e => e5 (by have := congrArg (fun b => b.data.toList) e; rwa [str_data, str_data] at this)
            have e6' : ((str pm).toList == (str qm).toList) = false := by
              rw [ByteArray.toList_eq, ByteArray.toList_eq, str_data, str_data]
              simpa using e5
            go_wp2_with fail
            refine wp_region_quiet_lit (by kernel_rfl) (by kernel_rfl) ?_
            iterate 6 (quiet_step (fail))
            clear e6' e5' w4 v4
            have T0 : True := trivial
            refine Shut.out ?_
            iterate 19 (refine skipH (by kernel_rfl) ?_)
            refine ⟨?_⟩
            go_simp
            iterate 2 (quiet_step (fail))
            refine wpQuiet_nil ?_
            intro nq
            (rename_i hK9; refine hK9 _ _ ?_)
            go_wp2_with fail
            all_goals go_ret
            all_goals exact ⟨by simp [e1, e4, e5], HK.out.drewN _⟩
      · have e3' : ((pk : Int) == qk) = false := by simpa using e3
        have e4' : ((pk : Int) != qk) = true := by simp [e3]
        go_wp2_with fail
        all_goals go_ret
        all_goals exact ⟨by simp [e1, e3], HK.out⟩
  · obtain ⟨W, hW⟩ : ∃ W, W = ((w.alloc (.cells #[.int .i64 qk, .string (str qm), .int .i64 qi, .slice q.ta q.tl q.tc] 28)).alloc (.cells #[.int .i64 pk, .string (str pm), .int .i64 pi, .slice p.ta p.tl p.tc] 28)).drew := ⟨_, rfl⟩
    rw [← hW]
    obtain ⟨hb1, hb2, hK⟩ := two_new w 28 _ _ hW
    have x0 := hb2.cell 0; have x1 := hb2.cell 1; have x2 := hb2.cell 2
    have y0 := hb1.cell 0; have y1 := hb1.cell 1; have y2 := hb1.cell 2
    have lx := hb2.lt; have ly := hb1.lt
    simp at x0 x1 x2 y0 y1 y2
    have hz := hK.size
    have hfar : ∀ o v, w.cell? ⟨gp, o, none⟩ = some v → W.cell? ⟨gp, o, none⟩ = some v := fun o v h => (World.cell?_of_block (a := ⟨gp, o, none⟩) (hK.block gp l1 l1)).trans h
    have w0 : W.cell? ⟨g, 0, none⟩ = some (.slice (some ⟨gp, 0, none⟩) n cap) := (World.cell?_of_block (a := ⟨g, 0, none⟩) (hK.block g l2 l2)).trans b0
    have w4 := hfar _ _ c4
    have v4 := hfar _ _ d4
    clear hfar c0 c1 c2 c3 c4 d0 d1 d2 d3 d4 b0 hb1 hb2 k0
    have l1' : gp < W.heap.size := by omega
    have l2' : g < W.heap.size := by omega
    have HK := Lib.hid hK; clear hK hW hz l1 l2
    by_cases e1 : qk = 1
    · subst e1
      by_cases e2 : pk = 1
      · subst e2
        go_wp2_with fail
        all_goals go_ret
        all_goals exact ⟨by simp, HK.out⟩
      · have e2' : ((pk : Int) == 1) = false := by simpa using e2
        have e3' : ((pk : Int) != 1) = true := by simp [e2]
        go_wp2_with fail
        all_goals go_ret
        all_goals exact ⟨by simp [e2], HK.out⟩
    · have e1' : ((qk : Int) == 1) = false := by simpa using e1
      by_cases e3 : pk = qk
      · subst e3
        by_cases e4 : pk = 2
        · subst e4
          go_wp2_with fail
          all_goals go_ret
          all_goals exact ⟨by simp; rw [Bool.eq_iff_iff]; simp, HK.out⟩
        · have e4' : ((pk : Int) == 2) = false := by simpa using e4
          by_cases e5 : pm = qm
          · subst e5
            go_wp2_with fail
            all_goals go_quiet (fail)
            all_goals go_wp2_with fail
            all_goals go_ret
            all_goals exact ⟨by simp [e1, e4]; rw [Bool.eq_iff_iff]; simp; omega, HK.out.drewN _⟩
          · have e5' : ¬ str pm = str qm := fun e => e5 (by have := congrArg (fun b => b.data.toList) e; rwa [str_data, str_data] at this)
            have e6' : ((str pm).toList == (str qm).toList) = false := by
              rw [ByteArray.toList_eq, ByteArray.toList_eq, str_data, str_data]
              simpa using e5
            go_wp2_with fail
            refine wp_region_quiet_lit (by kernel_rfl) (by kernel_rfl) ?_
            iterate 6 (quiet_step (fail))
            clear e6' e5' w4 v4
            have T0 : True := trivial
            refine Shut.out ?_
            iterate 19 (refine skipH (by kernel_rfl) ?_)
            refine ⟨?_⟩
            go_simp
            iterate 2 (quiet_step (fail))
            refine wpQuiet_nil ?_
            intro nq
            (rename_i hK9; refine hK9 _ _ ?_)
            go_wp2_with fail
            all_goals go_ret
            all_goals exact ⟨by simp [e1, e4, e5], HK.out.drewN _⟩
      · have e3' : ((pk : Int) == qk) = false := by simpa using e3
        have e4' : ((pk : Int) != qk) = true := by simp [e3]
        go_wp2_with fail
        all_goals go_ret
        all_goals exact ⟨by simp [e1, e3], HK.out⟩
end
end Go.Proofs.YtnfcbalppecnfaaGreat
namespace Go.Proofs.YtnfcbalppecnfaaGreat
open Go.RowKit Go.Maps
set_option linter.unusedVariables false
set_option linter.unusedSimpArgs false
def pc (t : Nat × Nat) : List Value := [.int .i64 (t.1 : Int), .int .i64 (t.2 : Int)]
theorem pc_len (t : Nat × Nat) : (pc t).length = 2 := rfl
theorem row_some {w : World} {base sz n : Nat} {t : TypeId} {v : Value} {xs : List Value} (h : w.ownsRow base t sz v n xs) (hn : 0 < n) : ∃ g cap cs, v = .slice (some ⟨g, 0, none⟩) n cap ∧ base ≤ g ∧ Blk w g t cs ∧ n ≤ cap ∧ ∀ (j : Nat) (x : Value), xs[j]? = some x → w.cell? ⟨g, j, none⟩ = some x := by
  rcases h.2 with ⟨rfl, h0⟩ | ⟨g, cap, cur, rfl, hb, a2, a3, a4, a5, a6⟩
  · omega
  · refine ⟨g, cap, cur, rfl, hb, a2, a3, fun j x hx => ?_⟩
    have hB : Blk w g t cur := a2
    rw [hB.cell, ← Array.getElem?_toList]
    rw [← a6] at hx
    rw [List.getElem?_take] at hx
    split at hx
    · exact hx
    · cases hx
theorem row_take {w : World} {base sz n cap : Nat} {t : TypeId} {a : Addr} {xs : List Value} (h : w.ownsRow base t sz (.slice (some a) n cap) n xs) {m : Nat} (hm : m ≤ n) : w.ownsRow base t sz (.slice (some a) m cap) m (xs.take (m * sz)) := by
  rcases h.2 with ⟨h0, _⟩ | ⟨g, cap', cur, e, hb, a2, a3, a4, a5, a6⟩
  · cases h0
  · injection e with e1 e2 e3
    subst e3
    have hms : m * sz ≤ n * sz := Nat.mul_le_mul_right sz hm
    refine ⟨by rw [List.length_take, h.1]; omega, .inr ⟨g, cap, cur, by rw [e1], hb, a2, by omega, a4, a5, ?_⟩⟩
    rw [← a6, List.take_take, Nat.min_eq_left hms]
structure UR (lo g mb gp cap : Nat) (w : World) (ps : List Pt) (vs : List (Int × Nat)) (R rk : Nat → Nat) (u : Value) (todo : List (Nat × Nat)) (qs : List Pt) (wr : World) : Prop where
  sb : SB lo g mb gp cap wr qs vs
  like : LikeS ps qs
  fo : Forest ps.length (smf qs) R rk
  row : wr.ownsRow w.heap.size 142 2 u todo.length (todo.flatMap pc)
  kp : Keep (fun k => k < w.heap.size ∧ k ≠ gp) w wr
section
variable {lo g mb gp cap : Nat} {w wr : World} {ps qs : List Pt} {vs : List (Int × Nat)} {R rk : Nat → Nat} {u : Value} {todo : List (Nat × Nat)}
theorem UR.drew (h : UR lo g mb gp cap w ps vs R rk u todo qs wr) : UR lo g mb gp cap w ps vs R rk u todo qs wr.drew :=
  ⟨h.sb.drewN 1, h.like, h.fo, row_on h.row ((Keep.refl (fun _ => True) wr).drewN 1) (fun _ _ => trivial), h.kp.drew⟩
theorem UR.len (h : UR lo g mb gp cap w ps vs R rk u todo qs wr) : qs.length = ps.length := h.like.len
theorem UR.of (h : UR lo g mb gp cap w ps vs R rk u todo qs wr) {x : Nat} (hx : x < ps.length) (hn : ps.length ≤ 5000) :
    Calls Tryz.prog 91 #[.pointer (some ⟨g, 0, none⟩), .int .i64 x] wr fun e w' => ∃ qs', e = .returned (.int .i64 (R x : Nat)) ∧ UR lo g mb gp cap w ps vs R rk u todo qs' w' := by
  refine (of_any h.sb (by rw [h.len]; exact h.fo) (by rw [h.len]; exact hx) (by rw [h.len]; exact hn)).mono ?_
  rintro e w' ⟨qs', rfl, hs⟩
  refine ⟨qs', rfl, hs.sb, h.like.trans hs.like, by have := hs.fo; rwa [h.len] at this, row_on h.row hs.kp (fun k hk => ?_), h.kp.trans (hs.kp.less (fun k hk => hk.2))⟩
  obtain ⟨h1, cs, hb⟩ := row_type h.row hk
  obtain ⟨rest, hB⟩ := h.sb.pts
  exact hb.ne_ hB (by decide)
theorem UR.keep {w' : World} (h : UR lo g mb gp cap w ps vs R rk u todo qs wr) (hk : Keep (fun k => k < wr.heap.size) wr w') : UR lo g mb gp cap w ps vs R rk u todo qs w' :=
  ⟨h.sb.keep' hk, h.like, h.fo, row_on h.row hk (fun k hk => by obtain ⟨h1, cs, hb⟩ := row_type h.row hk; exact hb.lt), h.kp.trans (hk.less (fun k hk2 => Nat.lt_of_lt_of_le hk2.1 h.kp.size))⟩
theorem UR.stands (h : UR lo g mb gp cap w ps vs R rk u todo qs wr) {x y : Nat} {p q : Pt} (hp : ps[x]? = some p) (hq : ps[y]? = some q) (hn : ps.length ≤ 5000) (hk : ∀ p ∈ ps, p.nd.k = 1 ∨ p.nd.k = 2 ∨ p.nd.k = 3 ∨ p.nd.k = 4) :
    Calls Tryz.prog 92 #[.pointer (some ⟨g, 0, none⟩), .int .i64 x, .int .i64 y] wr fun e w' => e = .returned (.bool (Go.Proofs.YtnfcbalppecnfaaGreat.stands p.nd q.nd)) ∧ UR lo g mb gp cap w ps vs R rk u todo qs w' := by
  obtain ⟨s1, h1⟩ := h.like.get hp
  obtain ⟨s2, h2⟩ := h.like.get hq
  refine (standsFor_any h.sb h1 h2 (by rw [h.len]; exact hn) (hk p (List.mem_of_getElem? hp)) (hk q (List.mem_of_getElem? hq))).mono ?_
  rintro e w' ⟨rfl, k⟩
  exact ⟨rfl, h.keep k⟩
theorem UR.join (h : UR lo g mb gp cap w ps vs R rk u todo qs wr) {c d : Nat} (hc : c < ps.length) (hd : d < ps.length) (rc : R c = c) (rd : R d = d) (hcd : c ≠ d) :
    ∃ rk' qs', UR lo g mb gp cap w ps vs (joinR R c d) rk' u todo qs' (wr.setCell ⟨gp, d * 9 + 5, none⟩ (.int .i64 (c : Int))) := by
  obtain ⟨p, hp⟩ : ∃ p, qs[d]? = some p := ⟨_, List.getElem?_eq_getElem (by rw [h.len]; exact hd)⟩
  obtain ⟨rk', hF⟩ := h.fo.join hc hd rc rd hcd
  refine ⟨rk', qs.set d { p with same := c }, h.sb.set (f := 5) hp (by decide) rfl rfl rfl rfl, h.like.trans (LikeS.set hp c), by rw [smf_set (by rw [h.len]; exact hd)]; exact hF, row_on h.row ((Keep.refl (fun k => k ≠ gp) wr).setCell (p := ⟨gp, d * 9 + 5, none⟩) (fun h => h rfl) _) (fun k hk => ?_), h.kp.setCell (p := ⟨gp, d * 9 + 5, none⟩) (fun h => h.2 rfl) _⟩
  obtain ⟨h1, cs, hb⟩ := row_type h.row hk
  obtain ⟨rest, hB⟩ := h.sb.pts
  exact hb.ne_ hB (by decide)
theorem UR.hd (h : UR lo g mb gp cap w ps vs R rk u todo qs wr) : wr.cell? ⟨g, 0, none⟩ = some (.slice (some ⟨gp, 0, none⟩) ps.length cap) := by
  have := h.sb.box.cell 0
  rw [h.len] at this
  simpa using this
theorem UR.arg4 (h : UR lo g mb gp cap w ps vs R rk u todo qs wr) {x : Nat} {p : Pt} (hp : ps[x]? = some p) : wr.cell? ⟨gp, x * 9 + 4, none⟩ = some (.slice p.ja p.nd.args.length p.jc) := by
  obtain ⟨s1, h1⟩ := h.like.get hp
  exact h.sb.cell h1 (f := 4) rfl
theorem UR.arg (h : UR lo g mb gp cap w ps vs R rk u todo qs wr) {x : Nat} {p : Pt} (hp : ps[x]? = some p) {j y : Nat} (hj : p.nd.args[j]? = some y) : ∃ b, p.ja = some ⟨b, 0, none⟩ ∧ b < wr.heap.size ∧ wr.cell? ⟨b, j, none⟩ = some (.int .i64 (y : Int)) := by
  obtain ⟨s1, h1⟩ := h.like.get hp
  obtain ⟨b, c, cs, e, hl, hb, hn, hc⟩ := row_some (h.sb.js _ (List.mem_of_getElem? h1)) (by have := get_lt' hj; dsimp only; omega)
  injection e with e1
  refine ⟨b, e1, hb.lt, hc j _ ?_⟩
  unfold jv
  rw [List.getElem?_map, hj]; rfl
theorem UR.last (h : UR lo g mb gp cap w ps vs R rk u todo qs wr) {td : List (Nat × Nat)} {x y : Nat} (ht : todo = td ++ [(x, y)]) : ∃ gt ct, u = .slice (some ⟨gt, 0, none⟩) (td.length + 1) ct ∧ gt < wr.heap.size ∧ td.length + 1 ≤ ct ∧ gt ≠ gp ∧ wr.cell? ⟨gt, td.length * 2, none⟩ = some (.int .i64 (x : Int)) ∧ wr.cell? ⟨gt, td.length * 2 + 1, none⟩ = some (.int .i64 (y : Int)) := by
  subst ht
  obtain ⟨b, c, cs, e, hl, hb, hn, hc⟩ := row_some h.row (by simp)
  rw [List.length_append, List.length_singleton] at e hn
  have key : ∀ f v, (pc (x, y))[f]? = some v → wr.cell? ⟨b, td.length * 2 + f, none⟩ = some v := fun f v hv => by
    refine hc _ _ ?_
    rw [flatM_get pc_len _ _ _ (get_lt' hv)]
    simp [hv]
  obtain ⟨rest, hB⟩ := h.sb.pts
  exact ⟨b, c, e, hb.lt, hn, hb.ne_ hB (by decide), key 0 _ rfl, key 1 _ rfl⟩
theorem UR.pop {td : List (Nat × Nat)} {x y gt ct : Nat} (h : UR lo g mb gp cap w ps vs R rk (.slice (some ⟨gt, 0, none⟩) (td.length + 1) ct) (td ++ [(x, y)]) qs wr) : UR lo g mb gp cap w ps vs R rk (.slice (some ⟨gt, 0, none⟩) td.length ct) td qs wr := by
  have h1 := h.row
  rw [List.length_append, List.length_singleton] at h1
  have := row_take h1 (m := td.length) (by omega)
  rw [List.flatMap_append, List.take_append_of_le_length (by rw [flatM_len pc_len]; exact Nat.le_refl _), List.take_of_length_le (by rw [flatM_len pc_len]; exact Nat.le_refl _)] at this
  exact ⟨h.sb, h.like, h.fo, this, h.kp⟩
theorem SB.keepT {X : Nat → Prop} {w w' : World} (h : SB lo g mb gp cap w qs vs) (hk : Keep X w w') (h1 : X g) (h2 : X mb) (h3 : X gp) (h4 : ∀ b cs, Blk w b 3 cs → lo ≤ b → X b) : SB lo g mb gp cap w' qs vs := by
  obtain ⟨rest, hb⟩ := h.pts
  exact ⟨h.box.keep hk h1, ⟨rest, hb.keep hk h3⟩, h.map.keep hk h2, fun p hp => js_keep (h.js p hp) hk h4, h.lg, h.lm, h.lp⟩
theorem UR.push {x y g1 cap1 : Nat} {W : World} (h : UR lo g mb gp cap w ps vs R rk u todo qs wr)
    (hown : W.ownsRow w.heap.size 142 2 (.slice (some ⟨g1, 0, none⟩) (todo.length + 1) cap1) (todo.length + 1) (todo.flatMap pc ++ pc (x, y))) (hgr : (wr.alloc (.cells (pc (x, y)).toArray 142)).grownBy W u.ownBlock) :
    UR lo g mb gp cap w ps vs R rk (.slice (some ⟨g1, 0, none⟩) (todo.length + 1) cap1) (todo ++ [(x, y)]) qs W := by
  have kg : Keep (fun k => u.ownBlock ≠ some k) wr W := ((Keep.refl _ wr).alloc _).trans (Keep.ofGrown hgr (fun k e hx => hx e))
  have nT : ∀ k t cs, Blk wr k t cs → t ≠ 142 → u.ownBlock ≠ some k := fun k t cs hb ht e => by
    obtain ⟨_, cs', hb'⟩ := row_type h.row e
    exact hb.ne_ hb' ht rfl
  have nU : ∀ k, u.ownBlock = some k → w.heap.size ≤ k := fun k hk => (row_type h.row hk).1
  obtain ⟨rest, hB⟩ := h.sb.pts
  refine ⟨h.sb.keepT kg (nT _ _ _ h.sb.box (by decide)) (fun e => ?_) (nT _ _ _ hB (by decide)) (fun b cs hb _ => nT _ _ _ hb (by decide)), h.like, h.fo, ?_, h.kp.trans (kg.less (fun k hk e => by have := nU k e; omega))⟩
  · obtain ⟨_, cs', hb'⟩ := row_type h.row e
    exact h.sb.map.ne_blk hb' rfl
  · rw [List.length_append, List.length_singleton, List.flatMap_append]
    simpa using hown
end
end Go.Proofs.YtnfcbalppecnfaaGreat
namespace Go.Proofs.YtnfcbalppecnfaaGreat
open Go.RowKit Go.Maps
set_option linter.unusedVariables false
set_option linter.unusedSimpArgs false
theorem infoP2 : (Tryz.prog.info? 142).map (fun i => (i.zero, i.size, i.bytes)) = some (some (.agg #[.int .i64 0, .int .i64 0]), 2, 16) := by kernel_rfl
section
variable {lo g mb gp cap : Nat} {w : World} {ps : List Pt} {vs : List (Int × Nat)} {D : Nat → T} {a b : Nat}
theorem UR.start (h : SB lo g mb gp cap w ps vs) {rk : Nat → Nat} (hF : Forest ps.length (smf ps) id rk) : UR lo g mb gp cap w ps vs id rk (.slice (some ⟨w.heap.size, 0, none⟩) 1 1) [(a, b)] ps (w.alloc (.cells #[.int .i64 (a : Int), .int .i64 (b : Int)] 142)) := by
  have k : Keep (fun k => k < w.heap.size) w (w.alloc (.cells #[.int .i64 (a : Int), .int .i64 (b : Int)] 142)) := (Keep.refl _ w).alloc _
  refine ⟨h.keep' k, LikeS.refl _, hF, ⟨by simp [pc], .inr ⟨w.heap.size, 1, _, rfl, Nat.le_refl _, Blk.new w 142 _, by simp, by unfold maxLen; omega, by simp, by simp [pc]⟩⟩, k.less (fun k hk => hk.1)⟩
set_option maxRecDepth 100000 in
set_option maxHeartbeats 4000000 in
theorem unite_any (hG : Gr (ps.map Pt.nd) D) (h8 : ∀ p ∈ ps, p.nd.args.length ≤ 8) (h : SB lo g mb gp cap w ps vs) {rk0 : Nat → Nat} (hF : Forest ps.length (smf ps) id rk0) (hn : ps.length ≤ 5000) (ha : a < ps.length) (hb : b < ps.length) :
    Calls Tryz.prog 77 #[.pointer (some ⟨g, 0, none⟩), .int .i64 a, .int .i64 b] w fun e w' => ∃ (r : Bool) (qs : List Pt), e = .returned (.bool r) ∧ SB lo g mb gp cap w' qs vs ∧ LikeS ps qs ∧ Keep (fun k => k < w.heap.size ∧ k ≠ gp) w w' ∧
      (r = true → ∃ R rk, Forest ps.length (smf qs) R rk ∧ UInv (ps.map Pt.nd) D a b R []) ∧ (r = false → ∀ f, ¬ Uni (D a) (D b) f) := by
  obtain ⟨n, hnn⟩ : ∃ n, n = ps.length := ⟨_, rfl⟩
  have hstart := UInv.start hG (A := a) (B := b) (by rw [List.length_map]; exact ha) (by rw [List.length_map]; exact hb)
  have HS := Lib.hid (And.intro (UR.start (a := a) (b := b) h hF) hstart)
  have hk : ∀ p ∈ ps, p.nd.k = 1 ∨ p.nd.k = 2 ∨ p.nd.k = 3 ∨ p.nd.k = 4 := fun p hp => by
    obtain ⟨i, hi⟩ := List.mem_iff_getElem?.1 hp
    exact hG.kind i p.nd (by rw [List.getElem?_map, hi]; rfl)
  have HK := Lib.hid hk; clear hk
  have HG := Lib.hid hG; clear hG
  have H8 := Lib.hid h8; clear h8
  have HN := Lib.hid hnn
  rw [← hnn] at hn
  clear hnn h hF hstart ha hb
  obtain ⟨i0, hi0, hz0, hz1, hz2⟩ := info_parts infoP2
  go_enter Tryz.func77, Tryz.ntmps77
  go_wp2_with fail
  go_loopg [7] (9 * n + 1) (fun γ u wr => ∃ (todo : List (Nat × Nat)) (qs : List Pt) (R rk : Nat → Nat) (ua : Option Addr) (uc : Nat), 9 * roots R n + todo.length ≤ γ ∧ γ ≤ 9 * n + 1 ∧ u = .slice ua todo.length uc ∧ UR lo g mb gp cap w ps vs R rk (.slice ua todo.length uc) todo qs wr ∧ UInv (ps.map Pt.nd) D a b R todo)
  case atStart => exact ⟨[(a, b)], ps, id, rk0, some ⟨w.heap.size, 0, none⟩, 1, by have := roots_le (R := id) (n := n); simp; omega, Nat.le_refl _, rfl, HS.out.1, HS.out.2⟩
  case round =>
    obtain ⟨todo, qs, R, rk, ua, uc, hγ, hγ2, rfl, hu, hi⟩ := hrel
    have HI := Lib.hid hi; clear hi
    rcases List.eq_nil_or_concat todo with rfl | ⟨td, ⟨x, y⟩, rfl⟩
    · have HU := Lib.hid hu; clear hu
      go_wp2_with fail
      go_ret
      exact ⟨true, qs, rfl, HU.out.sb, HU.out.like, HU.out.kp, fun _ => ⟨R, rk, HU.out.fo, HI.out⟩, fun h => by cases h⟩
    · simp only [List.concat_eq_append] at *
      obtain ⟨hx, hy⟩ := HI.out.in_ (x, y) (by simp)
      rw [List.length_map] at hx hy
      obtain ⟨gt, ct, e, lgt, hct, -, t0, t1⟩ := hu.last rfl
      rw [e] at hu
      injection e with e1 e2 e3
      subst e1
      subst e3
      have hpost : ∀ qs W, UR lo g mb gp cap w ps vs R rk (.slice (some ⟨gt, 0, none⟩) (td.length + 1) uc) (td ++ [(x, y)]) qs W → W.cell? ⟨gt, td.length * 2, none⟩ = some (.int .i64 (x : Int)) ∧ W.cell? ⟨gt, td.length * 2 + 1, none⟩ = some (.int .i64 (y : Int)) := fun qs W h => by
        obtain ⟨g', c', e', -, -, -, q0, q1⟩ := h.last rfl
        injection e' with e1'
        cases e1'
        exact ⟨q0, q1⟩
      have hA : ∀ qs W, UR lo g mb gp cap w ps vs R rk (.slice (some ⟨gt, 0, none⟩) (td.length + 1) uc) (td ++ [(x, y)]) qs W → ∀ z, z = x ∨ z = y → Calls Tryz.prog 91 #[.pointer (some ⟨g, 0, none⟩), .int .i64 z] W fun e w' => ∃ qs', e = .returned (.int .i64 (R z : Nat)) ∧ UR lo g mb gp cap w ps vs R rk (.slice (some ⟨gt, 0, none⟩) (td.length + 1) uc) (td ++ [(x, y)]) qs' w' ∧ (w'.cell? ⟨gt, td.length * 2, none⟩ = some (.int .i64 (x : Int)) ∧ w'.cell? ⟨gt, td.length * 2 + 1, none⟩ = some (.int .i64 (y : Int))) := by
        intro qs W h z hz
        refine (h.of (x := z) (by rcases hz with rfl | rfl <;> assumption) (by rw [← HN.out]; exact hn)).mono ?_
        rintro e w' ⟨qs', rfl, h'⟩
        exact ⟨qs', rfl, h', hpost _ _ h'⟩
      have HA := Lib.hid hA; clear hA
      have H4 := Lib.hid hu
      have H4d := Lib.hid hu.drew
      obtain ⟨k, hkk⟩ : ∃ k, k = td.length := ⟨_, rfl⟩
      have hlen : (td ++ [(x, y)]).length = k + 1 := by rw [hkk]; simp
      rw [hlen] at hγ ⊢
      rw [← hkk] at t0 t1 hct HA H4 H4d
      have HL := Lib.hid (And.intro hkk (And.intro hx hy))
      clear hu hkk hx hy e2 hlen hpost
      have hwk : wrap64 (k : Int) = k := by unfold wrap64; omega
      have hk0 : (0 : Int) ≤ (k : Int) := by omega
      have hk1 : (k : Int) < (k : Int) + 1 := by omega
      have hk2 : (k : Int) < ((k + 1 : Nat) : Int) := by omega
      have hwk2 : IntKind.i64.wrap (k : Int) = k := by rw [IntKind.wrap_i64]; omega
      go_wp2_with fail
      go_region_held3 (fun w' => w'.cell? ⟨gt, k * 2, none⟩ = some (.int .i64 (x : Int)) ∧ w'.cell? ⟨gt, k * 2 + 1, none⟩ = some (.int .i64 (y : Int))) (first | exact ⟨t0, t1⟩ | exact t0 | exact t1)
        (first | (go_at_call 91; refine (HA.out _ _ (by first | exact H5.out | exact H4d.out | exact H4.out) _ (by first | exact .inl rfl | exact .inr rfl)).mono ?_; rintro e w5 ⟨qs5, rfl, h5, t0, t1⟩; have H5 := Lib.hid h5; clear h5))
      obtain ⟨hkk, hx, hy⟩ := HL.out
      have hu5 := H5.out
      rw [hkk] at hu5
      have hpop := hu5.pop
      have hgt : gt < w5.heap.size := by obtain ⟨_, cs, hb⟩ := row_type hu5.row (g := gt) rfl; exact hb.lt
      rw [← hkk] at hpop
      have hcl := HI.out.cl
      have hlR : ∀ z, z < ps.length → R z < ps.length := fun z hz => by have := hcl.lt z (by rw [List.length_map]; exact hz); rwa [List.length_map] at this
      have hxR := hlR x hx
      have hyR := hlR y hy
      have ix : R (R x) = R x := hcl.idem x (by rw [List.length_map]; exact hx)
      have iy : R (R y) = R y := hcl.idem y (by rw [List.length_map]; exact hy)
      clear hu5 hlR hcl H4 H4d HA
      by_cases e : R x = R y
      · have HE := Lib.hid (And.intro hpop (HI.out.skip e)); clear hpop
        have ee : ((R x : Int) == (R y : Int)) = true := by rw [e]; simp
        clear hxR hyR ix iy
        rw [e]
        clear e ee
        go_wp2_with fail
        go_roundg (9 * roots R n + k)
        case measure => have := HL.out.1; omega
        case rel => exact ⟨td, qs5, R, rk, some ⟨gt, 0, none⟩, uc, by have := HL.out.1; omega, by omega, by rw [← HL.out.1], by rw [← HL.out.1]; exact HE.out.1, HE.out.2⟩
      · obtain ⟨p, hp⟩ : ∃ p, ps[R x]? = some p := ⟨_, List.getElem?_eq_getElem hxR⟩
        obtain ⟨q, hq⟩ : ∃ q, ps[R y]? = some q := ⟨_, List.getElem?_eq_getElem hyR⟩
        have hpG : (ps.map Pt.nd)[R x]? = some p.nd := by rw [List.getElem?_map, hp]; rfl
        have hqG : (ps.map Pt.nd)[R y]? = some q.nd := by rw [List.getElem?_map, hq]; rfl
        have hS1 := fun qs W (h : UR lo g mb gp cap w ps vs R rk (.slice (some ⟨gt, 0, none⟩) k uc) td qs W) => h.stands hq hp (by rw [← HN.out]; exact hn) HK.out
        have hS2 := fun qs W (h : UR lo g mb gp cap w ps vs R rk (.slice (some ⟨gt, 0, none⟩) k uc) td qs W) => h.stands hp hq (by rw [← HN.out]; exact hn) HK.out
        have HS1 := Lib.hid hS1; clear hS1
        have HS2 := Lib.hid hS2; clear hS2
        have HU := Lib.hid hpop; clear hpop
        have ee : ((R x : Int) == (R y : Int)) = false := by
          have : ¬ (R x : Int) = (R y : Int) := by omega
          simpa using this
        have HP := Lib.hid (And.intro hp (And.intro hq (And.intro hpG (And.intro hqG (And.intro ix (And.intro iy (And.intro hxR hyR)))))))
        have HEE := Lib.hid e
        clear hp hq hpG hqG ix iy e hxR hyR hkk hx hy
        go_wp2_with fail
        refine (HS1.out _ _ HU.out).mono ?_
        rintro e w6 ⟨rfl, h6⟩
        have H6 := Lib.hid h6; clear h6
        obtain ⟨s1, hs1⟩ : ∃ s, s = Go.Proofs.YtnfcbalppecnfaaGreat.stands q.nd p.nd := ⟨_, rfl⟩
        rw [← hs1]
        have HE1 := Lib.hid hs1; clear hs1
        cases s1 with
        | false =>
          go_wp2_with fail
          refine (HS2.out _ _ H6.out).mono ?_
          rintro e w7 ⟨rfl, h7⟩
          have H7 := Lib.hid h7; clear h7
          obtain ⟨s2, hs2⟩ : ∃ s, s = Go.Proofs.YtnfcbalppecnfaaGreat.stands p.nd q.nd := ⟨_, rfl⟩
          rw [← hs2]
          have HE2 := Lib.hid hs2; clear hs2
          cases s2 with
          | false =>
            obtain ⟨hp, hq, hpG, hqG, ix, iy, hxR, hyR⟩ := HP.out
            have hcl := HI.out.clash HG.out hpG hqG HEE.out HE2.out.symm HE1.out.symm
            have HC := Lib.hid hcl
            clear hcl hp hq hpG hqG ix iy hxR hyR
            go_wp2_with fail
            go_ret
            exact ⟨false, _, rfl, H7.out.sb, H7.out.like, H7.out.kp, fun h => by (cases h), fun _ => HC.out⟩
          | true =>
            generalize hX : R x = X
            generalize hY : R y = Y
            obtain ⟨hp, hq, hpG, hqG, ix, iy, hxR, hyR⟩ := HP.out
            rw [hX] at hp hpG hxR ix
            rw [hY] at hq hqG hyR iy
            have hXY : X ≠ Y := by rw [← hX, ← hY]; exact HEE.out
            have hFin := H7.out
            obtain ⟨rk', qs', hJ⟩ := hFin.join (c := X) (d := Y) hxR hyR ix iy hXY
            have hjoin := HI.out.join (c := X) (d := Y) HG.out (.inl ⟨hX.symm, hY.symm⟩) hpG hqG hXY HE2.out.symm
            have hroots := roots_join (n := ps.length) hyR ix iy hXY
            rw [← HN.out] at hroots
            obtain ⟨sd, hsd⟩ := hFin.like.get hq
            have c5 := hFin.sb.cell hsd (f := 5) rfl
            have f5 := hFin.sb.frz (Y * 9 + 5)
            have hd0 := hFin.hd
            obtain ⟨W8, hW8⟩ : ∃ W, W = w7.setCell ⟨gp, Y * 9 + 5, none⟩ (.int .i64 (X : Nat)) := ⟨_, rfl⟩
            rw [← hW8] at hJ
            have a8 := hFin.arg4 hq
            obtain ⟨ja, hja⟩ : ∃ ja, ja = q.ja := ⟨_, rfl⟩
            rw [← hja] at a8
            have HJA := Lib.hid hja
            clear hja
            have lgp := hFin.sb.ltp
            have lgp8 := hJ.sb.ltp
            rw [← HN.out] at hxR hyR hd0
            obtain ⟨m, hm⟩ : ∃ m, m = q.nd.args.length := ⟨_, rfl⟩
            rw [← hm] at a8
            have hm8 : m ≤ 8 := by rw [hm]; exact H8.out _ (List.mem_of_getElem? hq)
            have hml : 0 < m → p.nd.args.length = m := fun h0 => by
              have hkd : q.nd.k ≠ 1 := fun e => by
                have := HG.out.flat _ _ hqG (by omega)
                rw [hm, this] at h0
                simp at h0
              have hh := stands_hd HE2.out.symm hkd
              by_cases e2 : p.nd.k = 2
              · have := HG.out.flat _ _ hqG (by rw [← hh.1, e2]; decide)
                rw [hm, this] at h0
                simp at h0
              · rw [hm]; exact (hh.2.2 e2).2
            have HW8 := Lib.hid hW8
            have HJ := Lib.hid (And.intro hJ (And.intro hjoin hroots))
            have HA := Lib.hid (And.intro hp (And.intro hq (And.intro hm hml)))
            have hz8 := hJ.kp.size
            clear hW8 hJ hjoin hroots hFin hsd hp hq hpG hqG ix iy hXY hm hml
            rw [hX, hY] at ee
            clear ee
            go_wp2_with fail
            rw [← HW8.out]
            obtain ⟨zl, hzl⟩ : ∃ zl, zl = List.zip p.nd.args q.nd.args := ⟨_, rfl⟩
            have HZ := Lib.hid hzl; clear hzl
            have hzlen : 0 < m → zl.length = m := fun h0 => by
              rw [HZ.out, List.length_zip, HA.out.2.2.2 h0, ← HA.out.2.2.1]; simp
            have HZL := Lib.hid hzlen; clear hzlen
            go_loopg [7, 71] m (fun γ2 u2 i2 wr => ∃ (j : Nat) (ua : Option Addr) (uc : Nat), j ≤ m ∧ m - j ≤ γ2 ∧ i2 = .int .i64 j ∧ u2 = .slice ua (k + j) uc ∧ UR lo g mb gp cap w ps vs (joinR R X Y) rk' (.slice ua (k + j) uc) (td ++ zl.take j) qs' wr)
            case atStart => exact ⟨0, some ⟨gt, 0, none⟩, uc, Nat.zero_le _, Nat.le_refl _, rfl, rfl, by rw [List.take_zero, List.append_nil, Nat.add_zero]; exact HJ.out.1⟩
            case round =>
              clear c5 f5 hd0 a8
              obtain ⟨j, va, vc, hj, hg2, rfl, rfl, hv⟩ := hrel
              have hzr := hv.kp.size
              by_cases hlj : j < m
              · have hpa := HA.out.1
                have hqa := HA.out.2.1
                have hm0 := HA.out.2.2.1
                have hl := HA.out.2.2.2 (by omega)
                obtain ⟨y', hy'⟩ : ∃ y', q.nd.args[j]? = some y' := ⟨_, List.getElem?_eq_getElem (by rw [← hm0]; exact hlj)⟩
                obtain ⟨x', hx'⟩ : ∃ x', p.nd.args[j]? = some x' := ⟨_, List.getElem?_eq_getElem (by rw [hl]; exact hlj)⟩
                obtain ⟨b1, e1, l1, r1⟩ := hv.arg hqa hy'
                obtain ⟨b2, e2, l2, r2⟩ := hv.arg hpa hx'
                have ac := hv.arg4 hpa
                rw [e2, hl] at ac
                have hd9 := hv.hd
                rw [← HN.out] at hd9
                have lgp9 := hv.sb.ltp
                have htl : (td ++ zl.take j).length = k + j := by
                  rw [List.length_append, ← HL.out.1, List.length_take, HZL.out (by omega)]; omega
                have hsn : td ++ zl.take (j + 1) = (td ++ zl.take j) ++ [(x', y')] := by
                  have hz : zl[j]? = some (x', y') := by
                    rw [HZ.out]; exact List.getElem?_zip_eq_some.2 ⟨hx', hy'⟩
                  have hjl := get_lt' hz
                  rw [List.getElem?_eq_getElem hjl] at hz
                  rw [List.take_succ_eq_append_getElem hjl, Option.some.inj hz, List.append_assoc]
                have hrow := hv.row
                rw [htl] at hrow
                have HR := Lib.hid hrow; clear hrow
                have hpush : ∀ g1 cap1 W, W.ownsRow w.heap.size 142 2 (.slice (some ⟨g1, 0, none⟩) (k + j + 1) cap1) (k + j + 1) ((td ++ zl.take j).flatMap pc ++ pc (x', y')) → (wr.alloc (.cells (pc (x', y')).toArray 142)).grownBy W (Value.slice va (k + j) vc).ownBlock → UR lo g mb gp cap w ps vs (joinR R X Y) rk' (.slice (some ⟨g1, 0, none⟩) (k + (j + 1)) cap1) (td ++ zl.take (j + 1)) qs' W := by
                  intro g1 cap1 W hown hgr
                  have := hv.push (x := x') (y := y') (g1 := g1) (cap1 := cap1) (W := W) (by rw [htl]; exact hown) hgr
                  rw [htl] at this
                  rw [hsn]; exact this
                have HPU := Lib.hid hpush; clear hpush
                have hwj : IntKind.i64.wrap ((j : Int) + 1) = (j : Int) + 1 := by rw [IntKind.wrap_i64]; omega
                have HLJ := Lib.hid (And.intro hlj hg2)
                have e1' : ja = some ⟨b1, 0, none⟩ := HJA.out.trans e1
                clear HJA
                subst e1'
                clear hpa hqa hm0 hl hy' hx' e1 e2 htl hsn hv hg2
                go_wp2_with (at_builtin; refine wpList_append_lies _ rfl _ _ 143 rfl w.heap.size 142 i0 (.agg #[.int .i64 0, .int .i64 0]) 2 16 Tryz.underlying143 hi0 hz0 hz1 hz2 rfl (by decide) _ (k + j) _ rfl (HR.out.alloc _) ⟨wr.heap.size, 0, none⟩ 1 1 (pc (x', y')) rfl rfl (news_at (Blk.new wr 142 (pc (x', y')).toArray)) (by simp [pc, Value.oneCell']) (by decide) (by unfold maxLen; omega) (by omega) (by simp; omega) (wr.heap.size + 1) (by simp) ?_)
                intro g1 capg1 w9 hown hgr hat hltg1
                have hE := HPU.out g1 capg1 w9 (by rw [List.flatMap_append, List.append_assoc]; exact hown) hgr
                have HE := Lib.hid hE; clear hE hown hgr hat HPU HR r1 r2 ac hd9
                go_wp2_with fail
                go_roundg (m - (j + 1))
                case measure => have := HLJ.out; omega
                case rel => exact ⟨j + 1, some ⟨g1, 0, none⟩, capg1, (by have := HLJ.out; omega), Nat.le_refl _, by go_num, (by show Value.slice (some ⟨g1, 0, none⟩) (k + j + 1) capg1 = Value.slice (some ⟨g1, 0, none⟩) (k + (j + 1)) capg1; rfl), HE.out⟩
              · have hjm : j = m := by omega
                subst hjm
                have htd : td ++ zl.take j = td ++ zl := by
                  by_cases h0 : 0 < j
                  · rw [List.take_of_length_le (by rw [HZL.out h0]; exact Nat.le_refl _)]
                  · have : zl = [] := by
                      have h1 := HA.out.2.2.1
                      have h2 : j = 0 := by omega
                      have h3 := List.length_eq_zero_iff.1 (show q.nd.args.length = 0 by omega)
                      rw [HZ.out, h3]; simp
                    rw [this]; simp
                rw [htd] at hv
                have htl : (td ++ zl).length = k + j := by
                  rw [List.length_append, ← HL.out.1]
                  by_cases h0 : 0 < j
                  · rw [HZL.out h0]
                  · have h1 := congrArg List.length htd
                    have h2 : j = 0 := by omega
                    rw [h2] at h1 ⊢
                    simp at h1
                    rw [h1]; simp
                have HV := Lib.hid (And.intro hv htl); clear hv htl htd
                go_wp2_with fail
                go_roundg (9 * roots (joinR R X Y) n + (k + j))
                case measure => have := HJ.out.2.2; omega
                case rel => exact ⟨td ++ zl, qs', joinR R X Y, rk', va, vc, by rw [HV.out.2]; exact Nat.le_refl _, (by have := HJ.out.2.2; omega), by rw [HV.out.2], by rw [HV.out.2]; exact HV.out.1, by rw [HZ.out]; exact HJ.out.2.1⟩
        | true =>
          go_wp2_with fail
          refine (HS1.out _ _ H6.out).mono ?_
          rintro e w7 ⟨rfl, h7⟩
          have H7 := Lib.hid h7; clear h7
          rw [← HE1.out]
          generalize hX : R x = X
          generalize hY : R y = Y
          obtain ⟨hp, hq, hpG, hqG, ix, iy, hxR, hyR⟩ := HP.out
          rw [hX] at hp hpG hxR ix
          rw [hY] at hq hqG hyR iy
          have hXY : X ≠ Y := by rw [← hX, ← hY]; exact HEE.out
          have hFin := H7.out
          obtain ⟨rk', qs', hJ⟩ := hFin.join (c := Y) (d := X) hyR hxR iy ix (Ne.symm hXY)
          have hjoin := HI.out.join (c := Y) (d := X) HG.out (.inr ⟨hY.symm, hX.symm⟩) hqG hpG (Ne.symm hXY) HE1.out.symm
          have hroots := roots_join (n := ps.length) hxR iy ix (Ne.symm hXY)
          rw [← HN.out] at hroots
          obtain ⟨sd, hsd⟩ := hFin.like.get hp
          have c5 := hFin.sb.cell hsd (f := 5) rfl
          have f5 := hFin.sb.frz (X * 9 + 5)
          have hd0 := hFin.hd
          obtain ⟨W8, hW8⟩ : ∃ W, W = w7.setCell ⟨gp, X * 9 + 5, none⟩ (.int .i64 (Y : Nat)) := ⟨_, rfl⟩
          rw [← hW8] at hJ
          have a8 := hFin.arg4 hp
          obtain ⟨ja, hja⟩ : ∃ ja, ja = p.ja := ⟨_, rfl⟩
          rw [← hja] at a8
          have HJA := Lib.hid hja
          clear hja
          have lgp := hFin.sb.ltp
          have lgp8 := hJ.sb.ltp
          rw [← HN.out] at hxR hyR hd0
          obtain ⟨m, hm⟩ : ∃ m, m = p.nd.args.length := ⟨_, rfl⟩
          rw [← hm] at a8
          have hm8 : m ≤ 8 := by rw [hm]; exact H8.out _ (List.mem_of_getElem? hp)
          have hml : 0 < m → q.nd.args.length = m := fun h0 => by
            have hkd : p.nd.k ≠ 1 := fun e => by
              have := HG.out.flat _ _ hpG (by omega)
              rw [hm, this] at h0
              simp at h0
            have hh := stands_hd HE1.out.symm hkd
            by_cases e2 : q.nd.k = 2
            · have := HG.out.flat _ _ hpG (by rw [← hh.1, e2]; decide)
              rw [hm, this] at h0
              simp at h0
            · rw [hm]; exact (hh.2.2 e2).2
          have HW8 := Lib.hid hW8
          have HJ := Lib.hid (And.intro hJ (And.intro hjoin hroots))
          have HA := Lib.hid (And.intro hq (And.intro hp (And.intro hm hml)))
          have hz8 := hJ.kp.size
          clear hW8 hJ hjoin hroots hFin hsd hp hq hpG hqG ix iy hXY hm hml
          rw [hX, hY] at ee
          clear ee
          go_wp2_with fail
          rw [← HW8.out]
          obtain ⟨zl, hzl⟩ : ∃ zl, zl = List.zip q.nd.args p.nd.args := ⟨_, rfl⟩
          have HZ := Lib.hid hzl; clear hzl
          have hzlen : 0 < m → zl.length = m := fun h0 => by
            rw [HZ.out, List.length_zip, HA.out.2.2.2 h0, ← HA.out.2.2.1]; simp
          have HZL := Lib.hid hzlen; clear hzlen
          go_loopg [7, 71] m (fun γ2 u2 i2 wr => ∃ (j : Nat) (ua : Option Addr) (uc : Nat), j ≤ m ∧ m - j ≤ γ2 ∧ i2 = .int .i64 j ∧ u2 = .slice ua (k + j) uc ∧ UR lo g mb gp cap w ps vs (joinR R Y X) rk' (.slice ua (k + j) uc) (td ++ zl.take j) qs' wr)
          case atStart => exact ⟨0, some ⟨gt, 0, none⟩, uc, Nat.zero_le _, Nat.le_refl _, rfl, rfl, by rw [List.take_zero, List.append_nil, Nat.add_zero]; exact HJ.out.1⟩
          case round =>
            clear c5 f5 hd0 a8
            obtain ⟨j, va, vc, hj, hg2, rfl, rfl, hv⟩ := hrel
            have hzr := hv.kp.size
            by_cases hlj : j < m
            · have hpa := HA.out.1
              have hqa := HA.out.2.1
              have hm0 := HA.out.2.2.1
              have hl := HA.out.2.2.2 (by omega)
              obtain ⟨y', hy'⟩ : ∃ y', p.nd.args[j]? = some y' := ⟨_, List.getElem?_eq_getElem (by rw [← hm0]; exact hlj)⟩
              obtain ⟨x', hx'⟩ : ∃ x', q.nd.args[j]? = some x' := ⟨_, List.getElem?_eq_getElem (by rw [hl]; exact hlj)⟩
              obtain ⟨b1, e1, l1, r1⟩ := hv.arg hqa hy'
              obtain ⟨b2, e2, l2, r2⟩ := hv.arg hpa hx'
              have ac := hv.arg4 hpa
              rw [e2, hl] at ac
              have hd9 := hv.hd
              rw [← HN.out] at hd9
              have lgp9 := hv.sb.ltp
              have htl : (td ++ zl.take j).length = k + j := by
                rw [List.length_append, ← HL.out.1, List.length_take, HZL.out (by omega)]; omega
              have hsn : td ++ zl.take (j + 1) = (td ++ zl.take j) ++ [(x', y')] := by
                have hz : zl[j]? = some (x', y') := by
                  rw [HZ.out]; exact List.getElem?_zip_eq_some.2 ⟨hx', hy'⟩
                have hjl := get_lt' hz
                rw [List.getElem?_eq_getElem hjl] at hz
                rw [List.take_succ_eq_append_getElem hjl, Option.some.inj hz, List.append_assoc]
              have hrow := hv.row
              rw [htl] at hrow
              have HR := Lib.hid hrow; clear hrow
              have hpush : ∀ g1 cap1 W, W.ownsRow w.heap.size 142 2 (.slice (some ⟨g1, 0, none⟩) (k + j + 1) cap1) (k + j + 1) ((td ++ zl.take j).flatMap pc ++ pc (x', y')) → (wr.alloc (.cells (pc (x', y')).toArray 142)).grownBy W (Value.slice va (k + j) vc).ownBlock → UR lo g mb gp cap w ps vs (joinR R Y X) rk' (.slice (some ⟨g1, 0, none⟩) (k + (j + 1)) cap1) (td ++ zl.take (j + 1)) qs' W := by
                intro g1 cap1 W hown hgr
                have := hv.push (x := x') (y := y') (g1 := g1) (cap1 := cap1) (W := W) (by rw [htl]; exact hown) hgr
                rw [htl] at this
                rw [hsn]; exact this
              have HPU := Lib.hid hpush; clear hpush
              have hwj : IntKind.i64.wrap ((j : Int) + 1) = (j : Int) + 1 := by rw [IntKind.wrap_i64]; omega
              have HLJ := Lib.hid (And.intro hlj hg2)
              have e1' : ja = some ⟨b1, 0, none⟩ := HJA.out.trans e1
              clear HJA
              subst e1'
              clear hpa hqa hm0 hl hy' hx' e1 e2 htl hsn hv hg2
              go_wp2_with (at_builtin; refine wpList_append_lies _ rfl _ _ 143 rfl w.heap.size 142 i0 (.agg #[.int .i64 0, .int .i64 0]) 2 16 Tryz.underlying143 hi0 hz0 hz1 hz2 rfl (by decide) _ (k + j) _ rfl (HR.out.alloc _) ⟨wr.heap.size, 0, none⟩ 1 1 (pc (x', y')) rfl rfl (news_at (Blk.new wr 142 (pc (x', y')).toArray)) (by simp [pc, Value.oneCell']) (by decide) (by unfold maxLen; omega) (by omega) (by simp; omega) (wr.heap.size + 1) (by simp) ?_)
              intro g1 capg1 w9 hown hgr hat hltg1
              have hE := HPU.out g1 capg1 w9 (by rw [List.flatMap_append, List.append_assoc]; exact hown) hgr
              have HE := Lib.hid hE; clear hE hown hgr hat HPU HR r1 r2 ac hd9
              go_wp2_with fail
              go_roundg (m - (j + 1))
              case measure => have := HLJ.out; omega
              case rel => exact ⟨j + 1, some ⟨g1, 0, none⟩, capg1, (by have := HLJ.out; omega), Nat.le_refl _, by go_num, (by show Value.slice (some ⟨g1, 0, none⟩) (k + j + 1) capg1 = Value.slice (some ⟨g1, 0, none⟩) (k + (j + 1)) capg1; rfl), HE.out⟩
            · have hjm : j = m := by omega
              subst hjm
              have htd : td ++ zl.take j = td ++ zl := by
                by_cases h0 : 0 < j
                · rw [List.take_of_length_le (by rw [HZL.out h0]; exact Nat.le_refl _)]
                · have : zl = [] := by
                    have h1 := HA.out.2.2.1
                    have h2 : j = 0 := by omega
                    have h3 := List.length_eq_zero_iff.1 (show p.nd.args.length = 0 by omega)
                    rw [HZ.out, h3]; simp
                  rw [this]; simp
              rw [htd] at hv
              have htl : (td ++ zl).length = k + j := by
                rw [List.length_append, ← HL.out.1]
                by_cases h0 : 0 < j
                · rw [HZL.out h0]
                · have h1 := congrArg List.length htd
                  have h2 : j = 0 := by omega
                  rw [h2] at h1 ⊢
                  simp at h1
                  rw [h1]; simp
              have HV := Lib.hid (And.intro hv htl); clear hv htl htd
              go_wp2_with fail
              go_roundg (9 * roots (joinR R Y X) n + (k + j))
              case measure => have := HJ.out.2.2; omega
              case rel => exact ⟨td ++ zl, qs', joinR R Y X, rk', va, vc, by rw [HV.out.2]; exact Nat.le_refl _, (by have := HJ.out.2.2; omega), by rw [HV.out.2], by rw [HV.out.2]; exact HV.out.1, by rw [HZ.out]; exact HJ.out.2.1⟩
end
end Go.Proofs.YtnfcbalppecnfaaGreat
