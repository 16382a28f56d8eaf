/-
  Joined texts (Tv18, Tv19, Tv20, Tv21, Tv22, Tv24). No condition.
-/
import Derived.Test.YtnfcbalppecnfaaGreatLayd
import Derived.Test.YtnfcbalppecnfaaGreatPMF
import Derived.Test.YtnfcbalppecnfaaGreatPMH
import Derived.Test.YtnfcbalppecnfaaGreatPMK
import Derived.Shelf.SlSortCmp.NoneTotal
namespace Go.Proofs.YtnfcbalppecnfaaGreat
open Go.RowKit Go.Maps Go.Sort Go.Shelf
set_option linter.unusedVariables false
set_option linter.unusedSimpArgs false
instance : Inhabited BP := ⟨(0, default, none, 0)⟩
def bcells (q : BP) : List Value := [.int .i64 q.1, .int .i64 q.2.1.k, .string (str q.2.1.nm), .int .i64 q.2.1.i, .slice q.2.2.1 q.2.1.args.length q.2.2.2]
theorem bcells_len (q : BP) : (bcells q).length = 5 := rfl
theorem bcells_one (q : BP) : ∀ v ∈ bcells q, v.oneCell' = true := by
  intro v hv
  simp [bcells] at hv
  rcases hv with rfl | rfl | rfl | rfl | rfl <;> rfl
def cmpBd (x y : BP) : Int := cmpI x.1 y.1
theorem ltB (x y : BP) : Go.Proofs.ltOf cmpBd x y = decide (x.1 < y.1) := by
  unfold Go.Proofs.ltOf cmpBd cmpI
  by_cases h1 : x.1 < y.1
  · simp [h1]
  · by_cases h2 : y.1 < x.1 <;> simp [h1, h2]
theorem swoB : SWO (Go.Proofs.ltOf cmpBd) where
  irrefl x := by rw [ltB]; simp
  trans x y z h1 h2 := by rw [ltB] at *; simp at *; omega
  ntrans x y z h1 h2 := by rw [ltB] at *; simp at *; omega
theorem isAggB (w : World) : (isAgg 94).run Tryz.prog w = .ok true w := by kernel_rfl
theorem sizeB (w : World) : (Go.sizeOf 94).run Tryz.prog w = .ok 5 w := by kernel_rfl
set_option maxRecDepth 100000 in
set_option maxHeartbeats 4000000 in
theorem binds1_any (x y : BP) (W : World) : Calls Tryz.prog 96 #[.agg (bcells x).toArray, .agg (bcells y).toArray] W fun e w' => e = .returned (.int .i64 (cmpBd x y)) ∧ ∃ q os', w' = grow (W.drewN q) os' := by
  have hcon := fun W' => cmpLong_any x.1 y.1 W'
  unfold bcells
  show Calls Tryz.prog _ _ _ (fun e w' => e = .returned (.int .i64 (cmpI x.1 y.1)) ∧ _)
  generalize cmpI x.1 y.1 = r at hcon ⊢
  generalize x.1 = x0 at hcon ⊢
  generalize y.1 = y0 at hcon ⊢
  have HC := Lib.hid hcon; clear hcon
  go_enter Tryz.func96, Tryz.ntmps96
  go_wp2_with (go_at_call 97; refine (HC.out _).mono ?_; rintro e w' ⟨rfl, rfl⟩)
  go_ret
  exact ⟨rfl, 0, _, by rw [alloc_eq_grow, alloc_eq_grow, grow_grow]; rfl⟩
theorem lays_b (blk off size : Nat) (w : World) : CmpLays Tryz.prog 96 #[] bcells 5 cmpBd blk off size w := fun m os dk hs x y => binds1_any x y _
theorem bcells_get (xs : List BP) : ∀ t, t < xs.length * 5 → (xs.flatMap bcells)[t]? = some ((bcells (xs.toArray[t / 5]!))[t % 5]!) := by
  intro t ht
  have h1 : t / 5 < xs.length := by omega
  have h2 : t % 5 < 5 := by omega
  have h3 := flatM_get bcells_len xs (t / 5) (t % 5) h2
  rw [show t / 5 * 5 + t % 5 = t by omega] at h3
  rw [h3, List.getElem?_eq_getElem h1]
  show (bcells xs[t / 5])[t % 5]? = _
  rw [List.getElem?_eq_getElem (by rw [bcells_len]; exact h2)]
  simp only [List.getElem!_toArray]
  rw [getElem!_pos xs (t / 5) h1, getElem!_pos (bcells xs[t / 5]) (t % 5) (by rw [bcells_len]; exact h2)]
theorem holds_of_rowB {W : World} {g cap : Nat} {xs : List BP} {cur : Array Value} (hg : W.heap[g]? = some (.cells cur 94 (0, 0))) (hs : cur.size = cap * 5) (hn : xs.length ≤ cap) (ht : cur.toList.take (xs.length * 5) = xs.flatMap bcells) :
    HoldsK bcells 5 W g 0 xs.toArray := by
  intro j hj
  rw [size_flatK] at hj
  simp only [List.size_toArray] at hj
  have hb : Blk W g 94 cur := hg
  refine ⟨?_, by simpa using hb.frozen (0 + j)⟩
  rw [show (0 + j) = j by omega, hb.cell j, get_flatK _ _ _ _ (by simpa using hj)]
  have h1 := bcells_get xs j hj
  rw [← ht, List.getElem?_take_of_lt hj] at h1
  simpa using h1
theorem putRowK_sizeB (W : World) (g nn : Nat) (d : Array BP) : (putRowK bcells 5 (Sort.ahead W nn) g 0 d).heap.size = W.heap.size := by
  simp [putRowK, putRow, mapBlock, Sort.ahead]
theorem sortWorldK_sizeB (W : World) (g nn : Nat) (d : Array BP) (os : Array Obj) : (sortWorldK bcells 5 W g 0 nn d os).heap.size = W.heap.size + os.size := by
  unfold sortWorldK
  rw [size_grow, putRowK_sizeB]
theorem sortWorldK_keepB (W : World) (g nn : Nat) (d : Array BP) (os : Array Obj) : Keep (· ≠ g) W (sortWorldK bcells 5 W g 0 nn d os) := by
  refine ⟨rfl, rfl, rfl, by rw [sortWorldK_sizeB]; omega, fun k hk hne => ?_⟩
  unfold sortWorldK
  rw [heap_grow_old _ _ (by rw [putRowK_sizeB]; exact hk)]
  simp [putRowK, putRow, mapBlock, Sort.ahead, Array.getElem?_modify]
  intro e; exact absurd e.symm hne
theorem sortWorldK_blk {W : World} {g nn : Nat} {t : TypeId} {cs : Array Value} (h : Blk W g t cs) (d : Array BP) (os : Array Obj) : ∃ cs', Blk (sortWorldK bcells 5 W g 0 nn d os) g t cs' := by
  have hlt := h.lt
  unfold Blk at h ⊢
  unfold sortWorldK
  rw [heap_grow_old _ _ (by rw [putRowK_sizeB]; exact hlt)]
  simp only [putRowK, putRow, mapBlock, Sort.ahead, Array.getElem?_modify, if_pos, h, Option.map_some]
  exact ⟨_, rfl⟩
def BO (lo : Nat) (w : World) (u : Value) (bs : List BP) : Prop := ∃ a c, u = .slice a bs.length c ∧ (∀ g off, a = some ⟨g, off, none⟩ → lo ≤ g ∧ off = 0 ∧ ∃ cs, Blk w g 94 cs) ∧
  ∀ (j : Nat) (q : BP), bs[j]? = some q → ∃ g, a = some ⟨g, 0, none⟩ ∧ ∀ (f : Nat) (v : Value), (bcells q)[f]? = some v → w.cell? ⟨g, j * 5 + f, none⟩ = some v
set_option maxHeartbeats 2000000 in
theorem sortB_any {W : World} {v : Value} {base : Nat} {xs : List BP} (hn : xs.length ≤ 5000) (hr : W.ownsRow base 94 5 v xs.length (xs.flatMap bcells)) :
    Calls Tryz.prog 95 #[v, .func (.func 96) #[] #[]] W fun e w' =>
      e = .returned (.tuple #[]) ∧ ∃ ys : List BP, ys.Perm xs ∧ ys.Pairwise (fun x y => x.1 ≤ y.1) ∧ BO base w' v ys ∧ Keep (fun k => v.ownBlock ≠ some k) W w' := by
  rcases hr.2 with ⟨rfl, h0⟩ | ⟨g, cap, cur, rfl, hb, hg, hnc, hcap, hcs, ht⟩
  · have hx0 : xs = [] := List.eq_nil_of_length_eq_zero h0
    subst hx0
    refine (AnyF.slices_SortFunc_none Tryz.sortBind none 0 _ W).mono ?_
    rintro e w' ⟨he, rfl⟩
    exact ⟨he, [], List.Perm.refl _, List.Pairwise.nil, ⟨none, 0, rfl, fun g off h => (by cases h), fun j q h => (by simp at h)⟩, Keep.refl _ _⟩
  · have hH := holds_of_rowB hg hcs hnc ht
    have hB : Blk W g 94 cur := hg
    have hlt : g < W.heap.size := hB.lt
    have eg : ∀ args w, (callFunc 96 args).run Tryz.prog w = .ok (.enter 96 args) w := enters_of Tryz.func96 (by kernel_rfl) rfl
    have hcon := AnyQ.slices_SortFunc Tryz.sortBind 5 isAggB sizeB bcells bcells_len bcells_one cmpBd swoB 96 #[] g 0 cap xs.toArray W eg (lays_b g 0 _ W) hH hlt (by simp; omega)
    rw [List.size_toArray] at hcon
    refine hcon.mono ?_
    rintro e w' ⟨he, d', nn, os, hpm, hso, rfl⟩
    obtain ⟨p1, _, p3⟩ := hpm
    have e1 : (xs.toArray.extract 0 xs.length).toList = xs := by simp
    have hdl : d'.size = xs.length := by rw [p1]; simp
    have e2 : (d'.extract 0 xs.length).toList = d'.toList := by rw [← hdl]; simp
    rw [e1, e2] at p3
    refine ⟨he, d'.toList, p3, List.pairwise_iff_getElem.2 fun i j hi hj hij => ?_, ⟨some ⟨g, 0, none⟩, cap, by rw [show d'.toList.length = xs.length by simp [hdl]], fun g' off h => ?_, fun j q hq => ⟨g, rfl, fun f u hu => ?_⟩⟩, (sortWorldK_keepB W g nn _ os).less (fun k hk e => hk (by simp [Value.ownBlock, e]))⟩
    · have := hso i j (Nat.zero_le _) hij (by rw [← hdl]; simpa using hj)
      rw [ltB, getElem!_pos d' j (by simpa using hj), getElem!_pos d' i (by simpa using hi)] at this
      simp only [decide_eq_false_iff_not] at this
      simp only [Array.getElem_toList]
      omega
    · simp only [Option.some.injEq, Addr.mk.injEq, and_true] at h
      obtain ⟨rfl, rfl⟩ := h
      exact ⟨hb, rfl, sortWorldK_blk hB d' os⟩
    · have hj : j < d'.size := by have := get_lt' hq; simpa using this
      have hf : f < 5 := by have := get_lt' hu; rwa [bcells_len] at this
      have hH2 : HoldsK bcells 5 (sortWorldK bcells 5 W g 0 nn d' os) g 0 d' := by
        unfold sortWorldK
        refine holdsK_grow bcells 5 _ _ _ _ _ ?_ (holdsK_putRowK bcells 5 _ _ _ xs.toArray _ (holdsK_ahead bcells 5 _ _ _ _ _ hH) (by simp [hdl]))
        rw [putRowK_sizeB]; exact hlt
      have hq2 : d'[j]! = q := by
        rw [getElem!_pos d' j hj]
        rw [Array.getElem?_toList, Array.getElem?_eq_getElem hj] at hq
        exact Option.some.inj hq
      have c0 := (hH2.cell (i := j) (c := f) hj hf).1
      rw [hq2, getElem!_pos (bcells q) f (by rw [bcells_len]; exact hf)] at c0
      rw [List.getElem?_eq_getElem (by rw [bcells_len]; exact hf)] at hu
      rw [Option.some.inj hu] at c0
      simpa using c0
end Go.Proofs.YtnfcbalppecnfaaGreat
namespace Go.Proofs.YtnfcbalppecnfaaGreat
open Go.RowKit Go.Maps
set_option linter.unusedVariables false
set_option linter.unusedSimpArgs false
theorem Fr.keepT {B0 lo hi c : Nat} {Q X : Nat → Prop} {w w' : World} {t : Tm} {a : Option Addr} (h : Fr B0 Q w lo hi t a c) (hk : Keep X w w') (h0 : ∀ k, k < B0 → X k) (hX : ∀ k cs, Blk w k 28 cs → lo ≤ k → X k) : Fr B0 Q w' lo hi t a c := by
  induction h with
  | old h hl => exact .old (h.keepX hk h0) hl
  | node hk1 hw hn h8 hlb hub hq blk hcp hs ih => exact .node hk1 hw hn h8 hlb hub hq (blk.keep hk (hX _ _ blk hlb)) hcp ih
theorem infoB : (Tryz.prog.info? 94).map (fun i => (i.zero, i.size, i.bytes)) = some (some (.agg #[.int .i64 0, .int .i64 0, .string ⟨#[]⟩, .int .i64 0, .slice none 0 0]), 5, 64) := by kernel_rfl
section
variable {lo g mb gp cap : Nat} {ps : List Pt} {vs : List (Int × Nat)} {R rk : Nat → Nat} {D : Nat → T} {w wr W : World} {q q' q2 : List Pt} {u : Value} {bs : List BP} {X : Nat → Prop}
theorem MS.keepZ (t : TypeId) (h1 : 128 ≠ t) (h2 : 147 ≠ t) (h3 : 3 ≠ t) (h : MS lo g mb gp cap ps vs R rk q w) (hk : Keep X w W) (hX : ∀ k, k < w.heap.size → X k ∨ ∃ cs, Blk w k t cs) : MS lo g mb gp cap ps vs R rk q W := by
  have ty : ∀ k t' cs, Blk w k t' cs → t' ≠ t → X k := fun k t' cs hb ht => by
    rcases hX k hb.lt with h | ⟨cs', hb'⟩
    · exact h
    · exact absurd rfl (hb.ne_ hb' ht)
  obtain ⟨rest, hB⟩ := h.sb.pts
  refine ⟨h.sb.keepT hk (ty _ _ _ h.sb.box h1) ?_ (ty _ _ _ hB h2) (fun b cs hb _ => ty _ _ _ hb h3), h.like, h.fo⟩
  rcases hX mb h.sb.map.lt with h1 | ⟨cs', hb'⟩
  · exact h1
  · exact absurd rfl (h.sb.map.ne_blk hb')
structure BM (lo g mb gp cap : Nat) (ps : List Pt) (vs : List (Int × Nat)) (R rk : Nat → Nat) (w : World) (q : List Pt) (u : Value) (bs : List BP) (q' : List Pt) (wr : World) : Prop where
  ms : MS lo g mb gp cap ps vs R rk q' wr
  like : LikeS q q'
  row : wr.ownsRow (w.heap.size + 1) 94 5 u bs.length (bs.flatMap bcells)
  fr : ∀ p ∈ bs, Fr 0 (fun _ => False) wr w.heap.size wr.heap.size p.2.1 p.2.2.1 p.2.2.2
  kp : Keep (fun k => k < w.heap.size ∧ k ≠ gp) w wr
theorem BM.own (h : BM lo g mb gp cap ps vs R rk w q u bs q' wr) {b : Nat} (hb : u.ownBlock = some b) : w.heap.size + 1 ≤ b ∧ ∃ cs, Blk wr b 94 cs := row_type h.row hb
theorem BM.keep (h : BM lo g mb gp cap ps vs R rk w q u bs q' wr) (h1 : MS lo g mb gp cap ps vs R rk q2 W) (h2 : LikeS q' q2) (hk : Keep X wr W) (hX : ∀ k t cs, Blk wr k t cs → w.heap.size ≤ k → X k) (hX2 : ∀ k, k < w.heap.size → k ≠ gp → X k) : BM lo g mb gp cap ps vs R rk w q u bs q2 W :=
  ⟨h1, h.like.trans h2, row_on h.row hk (fun k hk => by obtain ⟨a1, cs, a2⟩ := h.own hk; exact hX k _ cs a2 (by omega)), fun p hp => ((h.fr p hp).keepT hk (fun k hk => by omega) (fun k cs hB hl => hX k _ cs hB hl)).up hk.size (Nat.le_refl _), h.kp.trans (hk.less (fun k hk => hX2 k hk.1 hk.2))⟩
theorem BM.push (h : BM lo g mb gp cap ps vs R rk w q u bs q' wr) {p : BP} {n3 : Nat} (hn3 : w.heap.size ≤ n3) (hfr : Fr 0 (fun _ => False) wr n3 wr.heap.size p.2.1 p.2.2.1 p.2.2.2) :
    ∀ g1 cap1 w9, w9.ownsRow (w.heap.size + 1) 94 5 (.slice (some ⟨g1, 0, none⟩) (bs.length + 1) cap1) (bs.length + 1) (bs.flatMap bcells ++ bcells p) → (wr.alloc (.cells (bcells p).toArray 94)).grownBy w9 u.ownBlock →
      BM lo g mb gp cap ps vs R rk w q (.slice (some ⟨g1, 0, none⟩) (bs ++ [p]).length cap1) (bs ++ [p]) q' w9 ∧ Keep (fun k => u.ownBlock ≠ some k) wr w9 := by
  intro g1 cap1 w9 hown hgr
  have kg : Keep (fun k => u.ownBlock ≠ some k) wr w9 := ((Keep.refl _ wr).alloc _).trans (Keep.ofGrown hgr (fun k e hx => hx e))
  have hT : ∀ k cs, Blk wr k 28 cs → u.ownBlock ≠ some k := fun k cs hB e => by
    obtain ⟨_, cs', hB'⟩ := h.own e
    exact hB.ne_ hB' (by decide) rfl
  refine ⟨⟨h.ms.keepZ 94 (by decide) (by decide) (by decide) kg (fun k hk => ?_), h.like, ?_, fun r hr => ?_, h.kp.trans (kg.less (fun k hk e => by have := (h.own e).1; omega))⟩, kg⟩
  · by_cases e : u.ownBlock = some k
    · exact .inr (h.own e).2
    · exact .inl e
  · rw [List.length_append, List.length_singleton, List.flatMap_append]
    simpa using hown
  · rcases List.mem_append.1 hr with hr | hr
    · exact ((h.fr r hr).keepT kg (fun k hk => by omega) (fun k cs hB _ => hT k cs hB)).up kg.size (Nat.le_refl _)
    · rw [List.mem_singleton] at hr; subst hr
      exact (hfr.keepT kg (fun k hk => by omega) (fun k cs hB _ => hT k cs hB)).up kg.size hn3
structure BR (lo g mb gp cap : Nat) (ps : List Pt) (vs : List (Int × Nat)) (R rk : Nat → Nat) (w : World) (q : List Pt) (left : Int → Bool) (cnt : Nat) (u : Value) (bs : List BP) (q' : List Pt) (wr : World) : Prop where
  rg : RgI wr mb w.heap.size (.int .i64 0) (vf vs) left cnt
  bm : BM lo g mb gp cap ps vs R rk w q u bs q' wr
  got : ∀ p ∈ bs, left p.1 = false ∧ ∃ (a : Nat) (t : T), lkp vs p.1 = some a ∧ R a ≠ a ∧ Val (ps.map Pt.nd) R a t ∧ p.2.1 = t.tm
  all : ∀ (x : Int) (a : Nat), lkp vs x = some a → left x = false → R a ≠ a → ∃ p ∈ bs, p.1 = x
  nd : (bs.map (·.1)).Nodup
  len : bs.length + cnt ≤ vs.length
theorem BR.skip {left : Int → Bool} {cnt cnt1 : Nat} {x : Int} {a : Nat} (h : BR lo g mb gp cap ps vs R rk w q left cnt u bs q' wr) (hx : lkp vs x = some a) (hE : R a = a) (hc : cnt1 < cnt)
    (rg : RgI W mb w.heap.size (.int .i64 0) (vf vs) (fun k => left k && !(k == x)) cnt1) (bm : BM lo g mb gp cap ps vs R rk w q u bs q2 W) : BR lo g mb gp cap ps vs R rk w q (fun k => left k && !(k == x)) cnt1 u bs q2 W :=
  ⟨rg, bm, fun p hp => ⟨by simp [(h.got p hp).1], (h.got p hp).2⟩, fun y b hy hl hne => by
    by_cases e : y = x
    · subst e; rw [hx] at hy; cases hy; exact absurd hE hne
    · exact h.all y b hy (by cases hq : left y with | false => rfl | true => simp [hq, e] at hl) hne, h.nd, by have := h.len; omega⟩
theorem BR.more {left : Int → Bool} {cnt cnt1 : Nat} {x : Int} {a : Nat} {t : T} {u1 : Value} {ta : Option Addr} {tc : Nat} (h : BR lo g mb gp cap ps vs R rk w q left cnt u bs q' wr) (hx : lkp vs x = some a) (hlx : left x = true) (hE : R a ≠ a) (hv : Val (ps.map Pt.nd) R a t) (hc : cnt1 < cnt)
    (rg : RgI W mb w.heap.size (.int .i64 0) (vf vs) (fun k => left k && !(k == x)) cnt1) (bm : BM lo g mb gp cap ps vs R rk w q u1 (bs ++ [(x, t.tm, ta, tc)]) q2 W) : BR lo g mb gp cap ps vs R rk w q (fun k => left k && !(k == x)) cnt1 u1 (bs ++ [(x, t.tm, ta, tc)]) q2 W := by
  refine ⟨rg, bm, fun p hp => ?_, fun y b hy hl hne => ?_, ?_, by have := h.len; rw [List.length_append, List.length_singleton]; omega⟩
  · rcases List.mem_append.1 hp with hp | hp
    · exact ⟨by simp [(h.got p hp).1], (h.got p hp).2⟩
    · rw [List.mem_singleton] at hp; subst hp
      exact ⟨by simp, a, t, hx, hE, hv, rfl⟩
  · by_cases e : y = x
    · subst e; exact ⟨_, List.mem_append_right _ (List.mem_singleton.2 rfl), rfl⟩
    · obtain ⟨p, hp, hpx⟩ := h.all y b hy (by cases hq : left y with | false => rfl | true => simp [hq, e] at hl) hne
      exact ⟨p, List.mem_append_left _ hp, hpx⟩
  · rw [List.map_append, List.nodup_append]
    refine ⟨h.nd, by simp, fun y hy z hz e => ?_⟩
    simp only [List.map_cons, List.map_nil, List.mem_singleton] at hz
    subst hz
    subst e
    obtain ⟨p, hp, rfl⟩ := List.mem_map.1 hy
    have := (h.got p hp).1
    rw [hlx] at this; cases this
set_option maxRecDepth 100000 in
set_option maxHeartbeats 4000000 in
theorem binds_any (hG : Gr (ps.map Pt.nd) D) (hcl : Cl (ps.map Pt.nd) R) (hn : ps.length ≤ 5000) (h8 : ∀ p ∈ ps, p.nd.args.length ≤ 8) (hwf : ∀ p ∈ ps, p.nd.wf) (hv : ∀ (x : Int) (a : Nat), lkp vs x = some a → a < ps.length)
    (hval : ∀ (x : Int) (a : Nat), lkp vs x = some a → ∃ t, Val (ps.map Pt.nd) R a t) (hvl : vs.length ≤ 5000) (h : MS lo g mb gp cap ps vs R rk q w) :
    Calls Tryz.prog 81 #[.pointer (some ⟨g, 0, none⟩)] w fun e w' => ∃ (u : Value) (bs : List BP) (q' : List Pt), e = .returned u ∧ BO w.heap.size w' u bs ∧ (∀ p ∈ bs, Fr 0 (fun _ => False) w' w.heap.size w'.heap.size p.2.1 p.2.2.1 p.2.2.2) ∧ (bs.map (·.1)).Pairwise (· < ·) ∧
      (∀ p ∈ bs, ∃ (a : Nat) (t : T), lkp vs p.1 = some a ∧ R a ≠ a ∧ Val (ps.map Pt.nd) R a t ∧ p.2.1 = t.tm) ∧ (∀ (x : Int) (a : Nat), lkp vs x = some a → R a ≠ a → ∃ p ∈ bs, p.1 = x) ∧ Keep (fun k => k < w.heap.size ∧ k ≠ gp) w w' := by
  have b1 := h.sb.box.cell 1
  simp at b1
  have lg := h.sb.box.lt
  have HM := Lib.hid h.sb.map
  have HH := Lib.hid h
  have HC := Lib.hid (And.intro hG (And.intro hcl (And.intro hn (And.intro h8 (And.intro hwf (And.intro hv (And.intro hval hvl)))))))
  obtain ⟨i0, hi0, hz0, hz1, hz2⟩ := info_parts infoB
  clear h hG hcl hn h8 hwf hv hval hvl
  go_enter Tryz.func81, Tryz.ntmps81
  go_wp2_with (first | (at_range; refine wpList_rangeI rfl _ 125 rfl 3 Tryz.underlying125 rfl HM.out ?_; intro w0 hrg0 hk0 hs0) | go_in)
  go_frame
  go_loopw [3, 4, 5] (fun u _ _ wr => ∃ (left : Int → Bool) (cnt : Nat) (bs : List BP) (ua : Option Addr) (uc : Nat) (q' : List Pt), u = .slice ua bs.length uc ∧ BR lo g mb gp cap ps vs R rk w q left cnt (.slice ua bs.length uc) bs q' wr) (fun _ _ _ wr => wr.rangeLeft mb w.heap.size)
  case atStart => exact ⟨_, _, [], none, 0, q, rfl, hrg0, ⟨HH.out.keep hk0, LikeS.refl _, ⟨rfl, .inl ⟨rfl, rfl⟩⟩, fun p hp => by simp at hp, hk0.less (fun k hk => hk.1)⟩, fun p hp => by simp at hp, fun x a hx hl => by (unfold vf at hl; rw [hx] at hl; simp at hl), by simp, by simp⟩
  case round =>
    obtain ⟨left, cnt, bs, ua, uc, q', rfl, hf⟩ := hrel
    have HF := Lib.hid hf; clear hf hrg0 hk0 hs0
    obtain ⟨n, hnn⟩ : ∃ n, n = bs.length := ⟨_, rfl⟩
    have hlen : n ≤ 5000 := by have := HF.out.len; have := HC.out.2.2.2.2.2.2.2; omega
    rw [← hnn] at HF ⊢
    have HNN := Lib.hid hnn; clear hnn
    go_wp2_with (first | (at_next; refine wpList_nextI rfl _ rfl rfl HF.out.rg ?_ ?_) | go_in)
    · intro hdone
      have HD := Lib.hid hdone; clear hdone
      have hS := sortB_any (W := wr) (v := .slice ua n uc) (xs := bs) (by rw [← HNN.out]; exact hlen) HF.out.bm.row
      have HS := Lib.hid hS; clear hS
      go_wp2_with fail
      refine HS.out.mono ?_
      rintro e w2 ⟨rfl, ys, hp, hpw, hbo, hk⟩
      have hfin : BO w.heap.size w2 (.slice ua n uc) ys ∧ (∀ p ∈ ys, Fr 0 (fun _ => False) w2 w.heap.size w2.heap.size p.2.1 p.2.2.1 p.2.2.2) ∧ (ys.map (·.1)).Pairwise (· < ·) ∧
          (∀ p ∈ ys, ∃ (a : Nat) (t : T), lkp vs p.1 = some a ∧ R a ≠ a ∧ Val (ps.map Pt.nd) R a t ∧ p.2.1 = t.tm) ∧ (∀ (x : Int) (a : Nat), lkp vs x = some a → R a ≠ a → ∃ p ∈ ys, p.1 = x) ∧ Keep (fun k => k < w.heap.size ∧ k ≠ gp) w w2 := by
        refine ⟨?_, fun p hp' => ?_, ?_, fun p hp' => (HF.out.got p (hp.mem_iff.1 hp')).2, fun x a hx hne => ?_, HF.out.bm.kp.trans (hk.less (fun k hk e => by have := (HF.out.bm.own e).1; omega))⟩
        · obtain ⟨a, c, e1, e2, e3⟩ := hbo
          exact ⟨a, c, e1, fun g off h => ⟨by have := (e2 g off h).1; omega, (e2 g off h).2⟩, e3⟩
        · refine ((HF.out.bm.fr p (hp.mem_iff.1 hp')).keepT hk (fun k hk => by omega) (fun k cs hB _ e => ?_)).up hk.size (Nat.le_refl _)
          obtain ⟨_, cs', hB'⟩ := HF.out.bm.own e
          exact hB.ne_ hB' (by decide) rfl
        · have hnd : (ys.map (·.1)).Nodup := (hp.map (·.1)).nodup_iff.2 HF.out.nd
          rw [List.pairwise_map]
          rw [List.nodup_iff_pairwise_ne, List.pairwise_map] at hnd
          exact (hpw.and hnd).imp fun h => by have := h.1; have := h.2; omega
        · obtain ⟨p, hp', e⟩ := HF.out.all x a hx (HD.out x) hne
          exact ⟨p, hp.mem_iff.2 hp', e⟩
      have HE := Lib.hid hfin
      clear hfin hp hpw hbo hk
      go_wp2_with fail
      go_ret
      exact ⟨_, ys, q', rfl, HE.out⟩
    · intro x v w1 cnt1 hlx hfx hrg1 hlt hk1 hs1 hen
      obtain ⟨a, hxa, rfl⟩ : ∃ a : Nat, lkp vs x = some a ∧ Value.int .i64 (a : Int) = v := by
        unfold vf at hfx
        exact Option.map_eq_some_iff.1 hfx
      have hgr : gp < w.heap.size := HH.out.sb.ltp
      have hmr : mb < w.heap.size := HH.out.sb.map.lt
      have hne2 : mb ≠ gp := HH.out.sb.ne2
      have hrgb : ∀ k t cs, Blk wr k t cs → k ≠ w.heap.size := fun k t cs hB e => by
        obtain ⟨D', n', lf', ⟨es, clock, since, seen, c0, a1, a2, a3, a4, a5, a6⟩, q9⟩ := HF.out.rg.own
        unfold Blk at hB
        rw [e, a5] at hB
        injection hB with hB
        cases hB
      have hm1 : MS lo g mb gp cap ps vs R rk q' w1 := by
        have hb := HF.out.bm.ms
        exact ⟨hb.sb.keepT hk1 (hrgb _ _ _ hb.sb.box) (by omega) (by omega) (fun b cs hB hl => hrgb _ _ _ hB), hb.like, hb.fo⟩
      have hbm1 := HF.out.bm.keep hm1 (LikeS.refl _) hk1 (fun k t cs hB _ => hrgb k t cs hB) (fun k hk _ => by omega)
      have haG := HC.out.2.2.2.2.2.1 x a hxa
      obtain ⟨t, hvt⟩ := HC.out.2.2.2.2.2.2.1 x a hxa
      have hof := hm1.of haG HC.out.2.2.1
      obtain ⟨ra, hra⟩ : ∃ ra, ra = R a := ⟨_, rfl⟩
      rw [← hra] at hof
      have HOF := Lib.hid hof; clear hof
      have HX := Lib.hid (And.intro hrg1 (And.intro hlt (And.intro hxa (And.intro hgr (And.intro hmr (And.intro hne2 (And.intro haG (And.intro hvt (And.intro hbm1 (And.intro hlx (And.intro hs1 hra)))))))))))
      clear hrg1 hlt hk1 hxa hlx hfx hgr hmr hne2 hrgb hm1 hbm1 haG hvt b1 lg hra hs1
      go_wp2_with fail
      refine HOF.out.mono ?_
      rintro e w2 ⟨q2, rfl, m2, l2, k2⟩
      obtain ⟨hrg1, hlt, hxa, hgr, hmr, hne2, haG, hvt, hbm1, hlx, hs1, hra⟩ := HX.out
      have hbm2 := hbm1.keep m2 l2 k2 (fun k t cs hB hl => by omega) (fun k hk hne => hne)
      have hrg2 := hrg1.keep k2 hne2 (by omega)
      by_cases hE : ra = a
      · subst hE
        have hrel := HF.out.skip hxa hra.symm hlt hrg2 hbm2
        have HREL := Lib.hid (And.intro hrel hlt)
        clear hrg1 hlt hxa hlx hgr hmr hne2 haG hvt hbm1 hra hs1 m2 l2 k2 hbm2 hrg2 hrel
        go_wp2_with fail
        go_roundw
        case rel => exact ⟨_, cnt1, bs, ua, uc, q2, by rw [← HNN.out], by rw [← HNN.out]; exact HREL.out.1⟩
        case measure => rw [HREL.out.1.rg.left_eq, HF.out.rg.left_eq]; exact HREL.out.2
      · have hEi : ((ra : Int) != (a : Int)) = true := by simp; omega
        have hEj : ¬ (ra : Int) = (a : Int) := by omega
        have hterm := term_any (lo := lo) (g := g) (mb := mb) (gp := gp) (cap := cap) (vs := vs) (rk := rk) HC.out.1 HC.out.2.1 HC.out.2.2.1 HC.out.2.2.2.1 HC.out.2.2.2.2.1 t w2 q2 a m2 haG hvt
        obtain ⟨y, hy⟩ : ∃ y, y = t.tm := ⟨_, rfl⟩
        rw [← hy] at hterm
        unfold tv at hterm
        have HTM := Lib.hid hterm; clear hterm
        have HY := Lib.hid (And.intro hy (And.intro hrg2 (And.intro hbm2 (show R a ≠ a by rw [← hra]; exact hE))))
        have hsz12 := k2.size
        clear hrg1 hlt hxa hlx hgr hmr hne2 haG hvt hbm1 hra m2 l2 k2 hbm2 hrg2 hy hE
        go_wp2_with fail
        refine HTM.out.mono ?_
        rintro e w3 ⟨ta, tc, q3, rfl, hfr, m3, l3, k3⟩
        obtain ⟨hy, hrg2, hbm2, hE⟩ := HY.out
        obtain ⟨hrg1, hlt, hxa, hgr, hmr, hne2, haG, hvt, hbm1, hlx, hs1, hra⟩ := HX.out
        have hkp2 := hbm2.kp.size
        have hl2 := hrg2.lt
        have hbm3 := hbm2.keep m3 l3 k3 (fun k t cs hB hl => ⟨hB.lt, by omega⟩) (fun k hk hne => ⟨by omega, hne⟩)
        have hrg3 := hrg2.keep k3 ⟨by omega, hne2⟩ ⟨hl2, by omega⟩
        have hsz13 := k3.size
        have hrow3 := hbm3.row
        rw [← HNN.out] at hrow3
        have hpush := hbm3.push (p := (x, y, ta, tc)) hkp2 hfr
        have hafter : ∀ g1 cap1 w9, w9.ownsRow (w.heap.size + 1) 94 5 (.slice (some ⟨g1, 0, none⟩) (n + 1) cap1) (n + 1) (bs.flatMap bcells ++ bcells (x, y, ta, tc)) → (w3.alloc (.cells (bcells (x, y, ta, tc)).toArray 94)).grownBy w9 (Value.slice ua n uc).ownBlock →
            BR lo g mb gp cap ps vs R rk w q (fun k => left k && !(k == x)) cnt1 (.slice (some ⟨g1, 0, none⟩) (n + 1) cap1) (bs ++ [(x, y, ta, tc)]) q3 w9 := by
          intro g1 cap1 w9 hown hgr9
          obtain ⟨hb9, kg⟩ := hpush g1 cap1 w9 (by rw [← HNN.out]; exact hown) hgr9
          have hrg9 := hrg3.keep kg (fun e => by have := (hbm3.own e).1; omega) (fun e => by have := (hbm3.own e).1; omega)
          rw [List.length_append, List.length_singleton, ← HNN.out] at hb9
          subst hy
          exact HF.out.more hxa hlx hE hvt hlt hrg9 hb9
        have HAFT := Lib.hid hafter
        have HROW := Lib.hid hrow3
        have HLT := Lib.hid hlt
        have hw3 : w.heap.size + 1 ≤ w3.heap.size := by omega
        clear hafter hrow3 hlt hy hrg2 hbm2 hE hrg1 hxa hgr hmr hne2 haG hvt hbm1 hlx hs1 hra hkp2 hl2 hbm3 hrg3 hpush hfr m3 l3 k3 HTM HOF
        go_wp2_with (at_builtin; refine wpList_append_lies _ rfl _ _ 92 rfl (w.heap.size + 1) 94 i0 (.agg #[.int .i64 0, .int .i64 0, .string ⟨#[]⟩, .int .i64 0, .slice none 0 0]) 5 64 Tryz.underlying92 hi0 hz0 hz1 hz2 rfl (by decide) _ n _ rfl (HROW.out.alloc _) ⟨w3.heap.size, 0, none⟩ 1 1 (bcells (x, y, ta, tc)) rfl rfl (news_at (Blk.new w3 94 (bcells (x, y, ta, tc)).toArray)) (bcells_one _) (by decide) (by unfold maxLen; omega) (by omega) (by simp; omega) (w3.heap.size + 1) (by simp) ?_)
        intro g1 capg1 w9 hown hgr hat hltg1
        have hE := HAFT.out g1 capg1 w9 hown hgr
        have HE := Lib.hid hE; clear hE hown hgr hat HAFT HROW hltg1
        go_wp2_with fail
        go_roundw
        case rel => exact ⟨_, cnt1, bs ++ [(x, y, ta, tc)], some ⟨g1, 0, none⟩, capg1, q3, by rw [List.length_append, List.length_singleton, ← HNN.out], by rw [List.length_append, List.length_singleton, ← HNN.out]; exact HE.out⟩
        case measure => rw [HE.out.rg.left_eq, HF.out.rg.left_eq]; exact HLT.out
end
end Go.Proofs.YtnfcbalppecnfaaGreat
namespace Go.Proofs.YtnfcbalppecnfaaGreat
open Go.RowKit Go.Maps
set_option linter.unusedVariables false
set_option linter.unusedSimpArgs false
theorem T.ns_v (x : Int) : (T.v x).ns = 1 := by simp [T.ns]
theorem T.nd_v (x : Int) : (T.v x).nd = 1 := by simp [T.nd]
theorem addT_wf {B : Nat} {w : World} {t : Tm} {a : Option Addr} {c : Nat} (h : TmAt B w t a c) : ∀ s : SSt, (∀ p ∈ s.1, p.wf) → ∀ p ∈ (t.addT s).2.1, p.wf := by
  induction h with
  | mk t a c A C hk hi hn hl hc ha ih =>
    intro s hs
    have snoc : ∀ (G : List Nd) (l : List Nat), (∀ p ∈ G, p.wf) → ∀ p ∈ G ++ [(⟨t.k, t.nm, t.i, l⟩ : Nd)], p.wf := fun G l hG p hp => by
      rcases List.mem_append.1 hp with hp | hp
      · exact hG p hp
      · rw [List.mem_singleton.1 hp]; exact ⟨hi, hn⟩
    by_cases h1 : t.k = 1
    · rw [addT_1 t s h1]
      split
      · exact hs
      · exact snoc _ _ hs
    · by_cases h4 : t.k = 4
      · rw [addT_4 t s h4]
        refine snoc _ _ ?_
        have go : ∀ ts : List Tm, (∀ x ∈ ts, ∀ s : SSt, (∀ p ∈ s.1, p.wf) → ∀ p ∈ (x.addT s).2.1, p.wf) → ∀ s : SSt, (∀ p ∈ s.1, p.wf) → ∀ p ∈ (addL ts s).2.1, p.wf := by
          intro ts
          induction ts with
          | nil => intro _ s hs; rw [addL_nil]; exact hs
          | cons x ts ih2 => intro hx s hs; rw [addL_cons]; exact ih2 (fun y hy => hx y (List.mem_cons_of_mem _ hy)) _ (hx x List.mem_cons_self s hs)
        exact go t.args (fun x hx => by obtain ⟨j, hj⟩ := List.mem_iff_getElem?.1 hx; exact ih j x hj) s hs
      · rw [addT_0 t s h1 h4]
        exact snoc _ _ hs
structure Two (t u : Tm) (G1 : List Nd) (V1 : List (Int × Nat)) (A : Nat) (G : List Nd) (V : List (Int × Nat)) (B : Nat) (D : Nat → T) : Prop where
  ht : t.ok = true
  hu : u.ok = true
  e1 : t.addT ([], []) = (A, (G1, V1))
  e2 : u.addT (G1, V1) = (B, (G, V))
  inv : AInv G V D
  hA : A < G.length
  hB : B < G.length
  dA : D A = t.tree
  dB : D B = u.tree
  l1 : G1.length ≤ t.ns
  l2 : G.length ≤ t.ns + u.ns
  has : ∀ (a : Nat) (p : Nd), G[a]? = some p → p.k = 1 → t.tree.has p.i ∨ u.tree.has p.i
  ok : ∀ p ∈ G, p.ok
  wf : ∀ p ∈ G, p.wf
  st : t.ns ≤ 2000
  su : u.ns ≤ 2000
theorem Two.ex {Ba Bb : Nat} {w w2 : World} {t u : Tm} {a b : Option Addr} {c d : Nat} (ht : t.Right) (hu : u.Right) (hT : TmAt Ba w t a c) (hU : TmAt Bb w2 u b d) : ∃ G1 V1 A G V B D, Two t u G1 V1 A G V B D := by
  have h0 : AInv [] [] (fun _ => T.n 0) := ⟨⟨fun a p h => by simp at h, fun a p h => by simp at h, fun a p h => by simp at h, fun a p h => by simp at h, fun a b p q h => by simp at h⟩, fun x a => ⟨fun h => by simp at h, fun ⟨p, h, _⟩ => by simp at h⟩⟩
  obtain ⟨D1, i1, a1, d1, s1⟩ := add_is t ht.1 _ _ _ h0
  obtain ⟨D2, i2, a2, d2, s2⟩ := add_is u hu.1 _ _ _ i1
  have hok1 := addT_ok t ht.1 ([], []) (fun p hp => by simp at hp)
  have hok2 := addT_ok u hu.1 _ hok1
  have hw1 := addT_wf hT ([], []) (fun p hp => by simp at hp)
  have hw2 := addT_wf hU _ hw1
  have hpre : ((t.addT ([], [])).2.1).length ≤ ((u.addT (t.addT ([], [])).2).2.1).length := by
    obtain ⟨k, e⟩ := s2.pre
    change (u.addT (t.addT ([], [])).2).2.1 = _ at e
    rw [e, List.length_append]; omega
  have hl1 := s1.len
  have hl2 := s2.len
  rw [List.length_nil, Nat.zero_add] at hl1
  refine ⟨_, _, _, _, _, _, D2, ⟨ht.1, hu.1, rfl, rfl, i2, Nat.lt_of_lt_of_le a1 hpre, a2, ?_, d2, hl1, Nat.le_trans hl2 (Nat.add_le_add_right hl1 _), fun x p hp hk => ?_, hok2, hw2, ht.2.1, hu.2.1⟩⟩
  · rw [s2.old _ a1, d1]
  · by_cases hx : x < ((t.addT ([], [])).2.1).length
    · obtain ⟨k, e⟩ := s2.pre
      change (u.addT (t.addT ([], [])).2).2.1 = _ at e
      refine .inl (s1.has x p ?_ (Nat.zero_le _) hk)
      rw [e, List.getElem?_append_left hx] at hp
      exact hp
    · exact .inr (s2.has x p hp (by omega) hk)
section
variable {t u : Tm} {G1 G : List Nd} {V1 V : List (Int × Nat)} {A B : Nat} {D : Nat → T} {R : Nat → Nat}
theorem Two.lkp (h : Two t u G1 V1 A G V B D) {x : Int} {a : Nat} : lkp V x = some a ↔ ∃ p, G[a]? = some p ∧ p.k = 1 ∧ p.i = x := by
  constructor
  · intro e; exact (h.inv.vs x a).1 (lkp_some e)
  · rintro ⟨p, hp, hk, hi⟩
    have hm := (h.inv.vs x a).2 ⟨p, hp, hk, hi⟩
    cases e : Go.Proofs.YtnfcbalppecnfaaGreat.lkp V x with
    | none => exact absurd hm (lkp_none e a)
    | some b =>
      obtain ⟨q, hq, kq, iq⟩ := (h.inv.vs x b).1 (lkp_some e)
      rw [h.inv.gr.one b a q p hq hp kq hk (by omega)]
theorem Two.lt (h : Two t u G1 V1 A G V B D) {x : Int} {a : Nat} (e : Go.Proofs.YtnfcbalppecnfaaGreat.lkp V x = some a) : a < G.length := by
  obtain ⟨p, hp, _⟩ := h.lkp.1 e; exact get_lt hp
theorem Two.h8 (h : Two t u G1 V1 A G V B D) : ∀ p ∈ G, p.args.length ≤ 8 := fun p hp => by
  by_cases k : p.k = 4
  · exact ((h.ok p hp).2.2 k).2.1
  · obtain ⟨i, hi⟩ := List.mem_iff_getElem?.1 hp
    rw [h.inv.gr.flat i p hi k]; simp
theorem Two.sol (h : Two t u G1 V1 A G V B D) (hu : UInv G D A B R []) (hv : ∀ (x : Int) (a : Nat), Go.Proofs.YtnfcbalppecnfaaGreat.lkp V x = some a → ∃ t, Val G R a t) :
    ∃ f, IsSol t.tree u.tree f ∧ (∀ (x : Int) (a : Nat) (v : T), Go.Proofs.YtnfcbalppecnfaaGreat.lkp V x = some a → Val G R a v → f x = v) ∧ ∀ x, Go.Proofs.YtnfcbalppecnfaaGreat.lkp V x = none → f x = .v x := by
  have hv' : ∀ (a : Nat) (p : Nd), G[a]? = some p → p.k = 1 → ∃ t, Val G R a t := fun a p hp hk => hv p.i a (h.lkp.2 ⟨p, hp, hk, rfl⟩)
  obtain ⟨f, hf⟩ := Sol.ex h.inv.gr hv'
  have his := hf.is h.inv.gr hu h.hA h.hB hv' (fun a p hp hk => by rw [h.dA, h.dB]; exact h.has a p hp hk)
  rw [h.dA, h.dB] at his
  refine ⟨f, his, fun x a v hx hval => ?_, fun x hx => hf.none x fun a p hp hk e => ?_⟩
  · obtain ⟨p, hp, hk, rfl⟩ := h.lkp.1 hx
    exact hf.at_ a p v hp hk hval
  · rw [h.lkp.2 ⟨p, hp, hk, e⟩] at hx; cases hx
theorem Two.moved (h : Two t u G1 V1 A G V B D) (hu : UInv G D A B R []) {x : Int} {a : Nat} {v : T} (hx : Go.Proofs.YtnfcbalppecnfaaGreat.lkp V x = some a) (hval : Val G R a v) : v = .v x ↔ R a = a := by
  obtain ⟨p, hp, hk, rfl⟩ := h.lkp.1 hx
  constructor
  · intro e
    cases hval with
    | v hr k =>
      injection e with e
      exact h.inv.gr.one _ _ _ _ hr hp k hk e
    | n hr k => cases e
    | a hr k => cases e
    | c hr k hl hs => cases e
  · intro e
    cases hval with
    | v hr k => rw [e, hp] at hr; rw [Option.some.inj hr]
    | n hr k => rw [e, hp] at hr; have e2 := Option.some.inj hr; rw [← e2] at k; omega
    | a hr k => rw [e, hp] at hr; have e2 := Option.some.inj hr; rw [← e2] at k; omega
    | c hr k hl hs => rw [e, hp] at hr; have e2 := Option.some.inj hr; rw [← e2] at k; omega
end
def SolR (t u : Tm) (bs : List BP) (ok : Bool) (er : Int) : Prop :=
  (¬ (t.Right ∧ u.Right) ∧ bs = [] ∧ ok = false ∧ er = 70) ∨ (t.Right ∧ u.Right ∧ (
    (bs = [] ∧ ok = false ∧ er = 0 ∧ ∀ f, ¬ Uni t.tree u.tree f) ∨
    (bs = [] ∧ ok = false ∧ er = 2 ∧ ∃ f, IsSol t.tree u.tree f ∧ ∃ x, f x ≠ .v x ∧ ¬ (f x).Right) ∨
    (ok = true ∧ er = 0 ∧ ∃ f, IsSol t.tree u.tree f ∧ (∀ x, f x = .v x ∨ (f x).Right) ∧ (bs.map (·.1)).Pairwise (· < ·) ∧ (∀ p ∈ bs, p.2.1 = (f p.1).tm ∧ f p.1 ≠ .v p.1) ∧ ∀ x, f x ≠ .v x → ∃ p ∈ bs, p.1 = x)))
def KT (lo : Nat) (w w' : World) : Prop := Keep (fun k => k < lo ∨ ∃ cs, Blk w k 28 cs) w w'
section
variable {lo g mb gp cap : Nat} {w w' w'' : World} {ps : List Pt} {vs : List (Int × Nat)} {v : Value}
theorem KT.trans (h : KT lo w w') (k : KT lo w' w'') : KT lo w w'' :=
  ⟨k.os.trans h.os, k.tape.trans h.tape, k.output.trans h.output, Nat.le_trans h.size k.size, fun i hi hX => by
    have h1 := h.block i hi hX
    refine (k.block i (Nat.lt_of_lt_of_le hi h.size) ?_).trans h1
    rcases hX with hX | ⟨cs, hX⟩
    · exact .inl hX
    · refine .inr ⟨cs, ?_⟩
      unfold Blk at hX ⊢; rw [h1]; exact hX⟩
theorem KT.blk (h : KT lo w w') {k : Nat} {cs : Array Value} (hb : Blk w k 28 cs) : Blk w' k 28 cs := (h.block k hb.lt (.inr ⟨cs, hb⟩)).trans hb
theorem KT.old (h : KT lo w w') : Keep (fun k => k < lo) w w' := h.less (fun k hk => .inl hk)
theorem Fx.kt (h : Fx lo g mb w w') (hs : SA lo g mb w ps vs v) : KT lo w w' := h.less fun k hk => by
  rcases hk with hk | ⟨cs, hb⟩
  · exact .inl hk
  · exact hb.xp (by decide) (hb.ne_ hs.box (by decide)) (fun e => hs.map.ne_blk hb e.symm)
theorem SB.kt (hs : SB lo g mb gp cap w ps vs) (h : Keep (fun k => k < w.heap.size ∧ k ≠ gp) w w') : KT lo w w' := h.at_ fun k hk hX => by
  refine ⟨hk, ?_⟩
  rcases hX with hX | ⟨cs, hb⟩
  · have := hs.lp; omega
  · obtain ⟨rest, hB⟩ := hs.pts; exact hb.ne_ hB (by decide)
theorem SA.sb (h : SA lo g mb w ps vs v) (hn : 0 < ps.length) : ∃ gp cap, SB lo g mb gp cap w ps vs := by
  obtain ⟨gp, cap, cs, e, hl, hb, hc, hx⟩ := row_some h.row hn
  refine ⟨gp, cap, by rw [← e]; exact h.box, ?_, h.map, h.js, h.lg, h.lm, hl⟩
  rcases h.row.2 with ⟨rfl, h0⟩ | ⟨b, cp, cur, e2, _, a2, a3, a4, a5, a6⟩
  · cases e
  · rw [e] at e2
    injection e2 with e3
    injection e3 with e3
    injection e3 with e3
    subst e3
    refine ⟨cur.toList.drop (ps.length * 9), ?_⟩
    rw [← a6, List.take_append_drop]
    exact a2
theorem SA.forest (h : SA lo g mb w ps vs v) : smf ps = id := by
  funext a
  unfold smf
  cases e : ps[a]? with
  | none => rfl
  | some p => simp [(h.fresh a p e).1]
end
end Go.Proofs.YtnfcbalppecnfaaGreat
namespace Go.Proofs.YtnfcbalppecnfaaGreat
open Go.RowKit Go.Maps
set_option linter.unusedVariables false
set_option linter.unusedSimpArgs false
section
variable {lo g mb : Nat} {W : World} {t u : Tm} {G1 G : List Nd} {V1 V : List (Int × Nat)} {A B : Nat} {D : Nat → T} {a b : Option Addr} {c d : Nat}
structure S1 (lo g mb : Nat) (G1 : List Nd) (V1 : List (Int × Nat)) (W : World) : Prop where
  ex : ∃ (ps : List Pt) (v : Value), SA lo g mb W ps V1 v ∧ ps.map Pt.nd = G1 ∧ V1.length ≤ ps.length
theorem S1.of (hT : Two t u G1 V1 A G V B D) (h : SA lo g mb W [] [] (.slice none 0 0)) (ht : TmAt lo W t a c) : Calls Tryz.prog 78 #[.pointer (some ⟨g, 0, none⟩), tv t a c] W fun e w' => e = .returned (.int .i64 (A : Nat)) ∧ S1 lo g mb G1 V1 w' ∧ KT lo W w' := by
  refine (add_any t hT.ht W [] [] _ a c h ht (by have := hT.st; simp; omega) (by simp)).mono ?_
  rintro e w' ⟨ps, v, rfl, h1, h2, h3, h4, h5, h6⟩
  simp only [List.map_nil, hT.e1] at h1 h2 h3 ⊢
  exact ⟨by first | trivial | rfl, ⟨ps, v, h1, h2, h3⟩, h6.kt h⟩
structure S2 (lo g mb : Nat) (G : List Nd) (V : List (Int × Nat)) (W : World) : Prop where
  ex : ∃ (ps : List Pt) (v : Value), SA lo g mb W ps V v ∧ ps.map Pt.nd = G ∧ V.length ≤ ps.length
theorem S2.of (hT : Two t u G1 V1 A G V B D) (h : S1 lo g mb G1 V1 W) (hu : TmAt lo W u b d) : Calls Tryz.prog 78 #[.pointer (some ⟨g, 0, none⟩), tv u b d] W fun e w' => e = .returned (.int .i64 (B : Nat)) ∧ S2 lo g mb G V w' ∧ KT lo W w' := by
  obtain ⟨ps, v, hs, hn, hl⟩ := h.ex
  refine (add_any u hT.hu W ps V1 _ b d hs hu (by
    have h1 := congrArg List.length hn; rw [List.length_map] at h1
    have := hT.l1; have := hT.st; have := hT.su; omega) hl).mono ?_
  rintro e w' ⟨ps', v', rfl, h1, h2, h3, h4, h5, h6⟩
  simp only [hn, hT.e2] at h1 h2 h3 ⊢
  exact ⟨by first | trivial | rfl, ⟨ps', v', h1, h2, h3⟩, h6.kt hs⟩
structure S3 (lo g mb : Nat) (G : List Nd) (V : List (Int × Nat)) (D : Nat → T) (A B : Nat) (m : Prop) (W : World) : Prop where
  ex : ∃ (gp cap : Nat) (ps : List Pt) (R rk : Nat → Nat) (qs : List Pt), lo ≤ gp ∧ ps.map Pt.nd = G ∧ V.length ≤ 5000 ∧ MS lo g mb gp cap ps V R rk qs W ∧ UInv G D A B R [] ∧ MInv G R (stf qs) (szf qs) (dpf qs) ∧ (¬ m → ∀ x, x < ps.length → stf qs x ≠ 1) ∧
    (m → ∀ (x : Int) (a : Nat), lkp V x = some a → stf qs (R a) = 2)
theorem S3.of (hT : Two t u G1 V1 A G V B D) (h : S2 lo g mb G V W) : Calls Tryz.prog 77 #[.pointer (some ⟨g, 0, none⟩), .int .i64 A, .int .i64 B] W fun e w' => ∃ r : Bool, e = .returned (.bool r) ∧ KT lo W w' ∧ (r = true → S3 lo g mb G V D A B False w') ∧ (r = false → ∀ f, ¬ Uni t.tree u.tree f) := by
  obtain ⟨ps, v, hs, hn, hl⟩ := h.ex
  have hlen : ps.length = G.length := by rw [← hn, List.length_map]
  have hA := hT.hA
  have hB := hT.hB
  have h5 : ps.length ≤ 5000 := by have := hT.l2; have := hT.st; have := hT.su; omega
  obtain ⟨gp, cap, hsb⟩ := hs.sb (by omega)
  have h8 : ∀ p ∈ ps, p.nd.args.length ≤ 8 := fun p hp => hT.h8 p.nd (by rw [← hn]; exact List.mem_map_of_mem hp)
  have hfo : Forest ps.length (smf ps) id (fun _ => 0) := by rw [hs.forest]; exact Forest.start _
  refine (unite_any (D := D) (a := A) (b := B) (by rw [hn]; exact hT.inv.gr) h8 hsb hfo h5 (by omega) (by omega)).mono ?_
  rintro e w' ⟨r, qs, rfl, sb, like, kp, htrue, hfalse⟩
  refine ⟨r, rfl, hsb.kt kp, fun hr => ?_, fun hr => ?_⟩
  · obtain ⟨R, rk, hF, hU⟩ := htrue hr
    rw [hn] at hU
    obtain ⟨f1, f2, f3⟩ := like.fs
    have z : ∀ x, stf ps x = 0 := fun x => by
      unfold stf
      cases e : ps[x]? with
      | none => rfl
      | some p => exact (hs.fresh x p e).2.1
    refine ⟨gp, cap, ps, R, rk, qs, hsb.lp, hn, by omega, ⟨sb, like.toM, hF⟩, hU, ⟨fun x hx => .inl (by rw [f1]; exact z x), fun x hx _ => by rw [f1]; exact z x, fun x hx h2 => ?_⟩, fun _ x hx => ?_, fun h => h.elim⟩
    · rw [f1, z x] at h2; cases h2
    · rw [f1, z x]; decide
  · have := hfalse hr
    rwa [hT.dA, hT.dB] at this
theorem S3.fin (hT : Two t u G1 V1 A G V B D) (h : S3 lo g mb G V D A B False W) : Calls Tryz.prog 79 #[.pointer (some ⟨g, 0, none⟩)] W fun e w' => ∃ r : Bool, e = .returned (.bool r) ∧ KT lo W w' ∧ (r = true → S3 lo g mb G V D A B True w') ∧ (r = false → ∀ f, ¬ Uni t.tree u.tree f) := by
  obtain ⟨gp, cap, ps, R, rk, qs, hlo, hn, hvl, hm, hU, hi, h1, _⟩ := h.ex
  have hlen : ps.length = G.length := by rw [← hn, List.length_map]
  have h5 : ps.length ≤ 5000 := by have := hT.l2; have := hT.st; have := hT.su; omega
  have h8 : ∀ p ∈ ps, p.nd.args.length ≤ 8 := fun p hp => hT.h8 p.nd (by rw [← hn]; exact List.mem_map_of_mem hp)
  refine (isFinite_any (D := D) (by rw [hn]; exact hT.inv.gr) (by rw [hn]; exact hU.cl) h5 h8 (fun x a hx => by rw [hlen]; exact hT.lt hx) hm (by rw [hn]; exact hi) (h1 (fun h => h))).mono ?_
  rintro e w' ⟨r, q', rfl, m', kp, htrue, hfalse⟩
  refine ⟨r, rfl, hm.sb.kt kp, fun hr => ?_, fun hr f hf => ?_⟩
  · obtain ⟨i', d'⟩ := htrue hr
    rw [hn] at i'
    exact ⟨gp, cap, ps, R, rk, q', hlo, hn, hvl, m', hU, i', fun h => absurd trivial h, fun _ => d'⟩
  · obtain ⟨x, hx, hno⟩ := hfalse hr
    rw [hn] at hno
    rw [← hT.dA, ← hT.dB] at hf
    exact hno (Val.of_uni hT.inv.gr hU hf x (by omega))
theorem vals_of {R : Nat → Nat} {qs : List Pt} (hT : Two t u G1 V1 A G V B D) (hU : UInv G D A B R []) (hi : MInv G R (stf qs) (szf qs) (dpf qs)) (hd : ∀ (x : Int) (a : Nat), lkp V x = some a → stf qs (R a) = 2) (x : Int) (a : Nat) (hx : lkp V x = some a) : ∃ v, Val G R a v := by
  have hl := hT.lt hx
  obtain ⟨v, hv, _⟩ := hi.done (R a) (hU.cl.lt a hl) (hd x a hx)
  exact ⟨v, hv.class (hU.cl.idem a hl).symm⟩
theorem S3.great (hT : Two t u G1 V1 A G V B D) (h : S3 lo g mb G V D A B True W) : Calls Tryz.prog 80 #[.pointer (some ⟨g, 0, none⟩)] W fun e w' => ∃ r : Bool, e = .returned (.bool r) ∧ KT lo W w' ∧ (r = true → ∃ f, IsSol t.tree u.tree f ∧ ∃ x, f x ≠ .v x ∧ ¬ (f x).Right) ∧
    (r = false → S3 lo g mb G V D A B True w' ∧ ∃ (f : Int → T), IsSol t.tree u.tree f ∧ ∀ x, f x = .v x ∨ (f x).Right) := by
  obtain ⟨gp, cap, ps, R, rk, qs, hlo, hn, hvl, hm, hU, hi, h1, hd⟩ := h.ex
  have hlen : ps.length = G.length := by rw [← hn, List.length_map]
  have h5 : ps.length ≤ 5000 := by have := hT.l2; have := hT.st; have := hT.su; omega
  have hvals := vals_of hT hU hi (hd trivial)
  obtain ⟨f, hf, fa, fn⟩ := hT.sol hU hvals
  refine (isTooGreat_any (by rw [hn]; exact hU.cl) h5 (fun x a hx => by rw [hlen]; exact hT.lt hx) hm (by rw [hn]; exact hi) (hd trivial)).mono ?_
  rintro e w' ⟨r, q', rfl, m', like, kp, htrue, hfalse⟩
  refine ⟨r, rfl, hm.sb.kt kp, fun hr => ?_, fun hr => ⟨?_, f, hf, fun x => ?_⟩⟩
  · obtain ⟨x, a, v, hx, hv, hb⟩ := htrue hr
    rw [hn] at hv
    refine ⟨f, hf, x, fun e => ?_, fun hR => ?_⟩
    · rw [fa x a v hx hv] at e
      subst e
      rw [T.ns_v, T.nd_v] at hb
      omega
    rw [fa x a v hx hv] at hR
    have := hR.2.1; have := hR.2.2; omega
  · obtain ⟨f1, f2, f3⟩ := like.fs
    exact ⟨gp, cap, ps, R, rk, q', hlo, hn, hvl, m', hU, by rw [f1, f2, f3]; exact hi, fun h => absurd trivial h, fun _ => by rw [f1]; exact hd trivial⟩
  · cases e : lkp V x with
    | none => exact .inl (fn x e)
    | some a =>
      obtain ⟨v, hv⟩ := hvals x a e
      have h2 := hfalse hr x a v e (by rw [hn]; exact hv)
      rw [fa x a v e hv]
      exact .inr ⟨hv.ok hT.ok, h2.1, h2.2⟩
theorem S3.binds (hT : Two t u G1 V1 A G V B D) (h : S3 lo g mb G V D A B True W) {f : Int → T} (hf : IsSol t.tree u.tree f) (hright : ∀ x, f x = .v x ∨ (f x).Right) (htr : t.Right) (hur : u.Right) : Calls Tryz.prog 81 #[.pointer (some ⟨g, 0, none⟩)] W fun e w' => ∃ (v : Value) (bs : List BP), e = .returned v ∧ BO lo w' v bs ∧ (∀ p ∈ bs, Fr 0 (fun _ => False) w' lo w'.heap.size p.2.1 p.2.2.1 p.2.2.2) ∧ KT lo W w' ∧ SolR t u bs true 0 := by
  obtain ⟨gp, cap, ps, R, rk, qs, hlo, hn, hvl, hm, hU, hi, h1, hd⟩ := h.ex
  have hlen : ps.length = G.length := by rw [← hn, List.length_map]
  have h5 : ps.length ≤ 5000 := by have := hT.l2; have := hT.st; have := hT.su; omega
  have h8 : ∀ p ∈ ps, p.nd.args.length ≤ 8 := fun p hp => hT.h8 p.nd (by rw [← hn]; exact List.mem_map_of_mem hp)
  have hwf : ∀ p ∈ ps, p.nd.wf := fun p hp => hT.wf p.nd (by rw [← hn]; exact List.mem_map_of_mem hp)
  have hvals := vals_of hT hU hi (hd trivial)
  obtain ⟨f', hf', fa, fn⟩ := hT.sol hU hvals
  have ef := hf'.one hf
  subst ef
  have hlw : lo ≤ W.heap.size := Nat.le_trans hlo (Nat.le_of_lt hm.sb.ltp)
  refine (binds_any (D := D) (by rw [hn]; exact hT.inv.gr) (by rw [hn]; exact hU.cl) h5 h8 hwf (fun x a hx => by rw [hlen]; exact hT.lt hx) (by rw [hn]; exact hvals) hvl hm).mono ?_
  rintro e w' ⟨v, bs, q', rfl, hbo, hfr, hpw, hgot, hall, kp⟩
  rw [hn] at hgot
  refine ⟨v, bs, rfl, ?_, fun p hp => (hfr p hp).up (Nat.le_refl _) hlw, hm.sb.kt kp, .inr ⟨htr, hur, .inr (.inr ⟨rfl, rfl, f', hf', hright, hpw, fun p hp => ?_, fun x hx => ?_⟩)⟩⟩
  · obtain ⟨a', c', e1, e2, e3⟩ := hbo
    exact ⟨a', c', e1, fun g' off h => ⟨Nat.le_trans hlw (e2 g' off h).1, (e2 g' off h).2⟩, e3⟩
  · obtain ⟨x, tt, hx, hne, hv, htm⟩ := hgot p hp
    have e := fa p.1 x tt hx hv
    exact ⟨by rw [htm, e], fun e2 => hne ((hT.moved hU hx hv).1 (e.symm.trans e2))⟩
  · cases e : lkp V x with
    | none => exact absurd (fn x e) hx
    | some a =>
      obtain ⟨tt, hv⟩ := hvals x a e
      exact hall x a e (fun e2 => hx (by rw [fa x a tt e hv]; exact (hT.moved hU e hv).2 e2))
end
end Go.Proofs.YtnfcbalppecnfaaGreat
namespace Go.Proofs.YtnfcbalppecnfaaGreat
open Go.RowKit Go.Maps
set_option linter.unusedVariables false
set_option linter.unusedSimpArgs false
theorem BO.nil (lo : Nat) (w : World) : BO lo w (.slice none 0 0) [] := ⟨none, 0, rfl, fun g off h => (by cases h), fun j q h => (by simp at h)⟩
structure SolA (w : World) (t u : Tm) (e : Ending) (w' : World) : Prop where
  ex : ∃ (v : Value) (bs : List BP) (ok : Bool) (er : Int), e = .returned (.tuple #[v, .bool ok, .int .i64 er]) ∧ BO w.heap.size w' v bs ∧ (∀ p ∈ bs, Fr 0 (fun _ => False) w' w.heap.size w'.heap.size p.2.1 p.2.2.1 p.2.2.2) ∧ Keep (fun g => g < w.heap.size) w w' ∧ SolR t u bs ok er
section
variable {w : World} {t u : Tm} {a b : Option Addr} {c d : Nat}
theorem KT.ofKeep {lo : Nat} {w w' : World} (h : Keep (fun g => g < w.heap.size) w w') : KT lo w w' := h.all
set_option maxRecDepth 100000 in
set_option maxHeartbeats 4000000 in
theorem Solve_any (hT : TmAt w.heap.size w t a c) (hU : TmAt w.heap.size w u b d) :
    Calls Tryz.prog 58 #[tv t a c, tv u b d] w fun e w' => SolA w t u e w' := by
  obtain ⟨k0, hall⟩ := two_boxes hT hU
  have hR := fun W (hW : Keep (fun g => g < ((w.alloc (tb t a c)).alloc (tb u b d)).heap.size) ((w.alloc (tb t a c)).alloc (tb u b d)) W) => isRight_any (hall W hW).2.2.2.1
  have hR2 := fun W (hW : Keep (fun g => g < ((w.alloc (tb t a c)).alloc (tb u b d)).heap.size) ((w.alloc (tb t a c)).alloc (tb u b d)) W) => isRight_any (hall W hW).2.2.2.2
  have HC := Lib.hid (fun W hW => And.intro (hall W hW).1 (And.intro (hall W hW).2.1 (hall W hW).2.2.1))
  have HTU := Lib.hid (And.intro hT hU)
  clear hall hT hU
  have K1 := Lib.hid (Keep.refl (fun g => g < ((w.alloc (tb t a c)).alloc (tb u b d)).heap.size) ((w.alloc (tb t a c)).alloc (tb u b d)))
  unfold tb at hR hR2 HC K1
  have HR := Lib.hid hR; clear hR
  have HR2 := Lib.hid hR2; clear hR2 k0
  have HNIL := Lib.hid (BO.nil w.heap.size)
  unfold tv
  obtain ⟨r1, hr1⟩ : ∃ r1, t.right = r1 := ⟨_, rfl⟩
  obtain ⟨r2, hr2⟩ : ∃ r2, u.right = r2 := ⟨_, rfl⟩
  rw [hr1] at HR
  rw [hr2] at HR2
  have HRR := Lib.hid (And.intro hr1 hr2); clear hr1 hr2
  go_enter Tryz.func58, Tryz.ntmps58
  go_wp2_with fail
  refine (HR.out _ K1.out).mono ?_
  rintro e w1 ⟨rfl, k1⟩
  have K2 := Lib.hid (K1.out.onto k1); clear k1
  obtain ⟨-, b1, b2⟩ := HC.out _ K2.out
  have x0 := b1.cell 0; have x1 := b1.cell 1; have x2 := b1.cell 2; have x3 := b1.cell 3
  have y0 := b2.cell 0; have y1 := b2.cell 1; have y2 := b2.cell 2; have y3 := b2.cell 3
  simp at x0 x1 x2 x3 y0 y1 y2 y3
  have l1 := b1.lt; have l2 := b2.lt
  clear b1 b2
  cases r1 with
  | false =>
    have HE := Lib.hid (And.intro HNIL.out (And.intro (HC.out _ K2.out).1 (show ¬ (t.Right ∧ u.Right) from fun h => by have := HRR.out.1; rw [right_of.2 h.1] at this; cases this)))
    go_wp2_with fail
    exact bodyPost_ret (v := .tuple #[.slice none 0 0, .bool false, .int .i64 70]) (by simp [results, Tryz.results58, go_sem]) rfl ⟨⟨_, [], false, 70, rfl, HE.out.1 _, by simp, HE.out.2.1, .inl ⟨HE.out.2.2, rfl, rfl, rfl⟩⟩⟩
  | true =>
    go_wp2_with fail
    refine (HR2.out _ K2.out).mono ?_
    rintro e w2 ⟨rfl, k2⟩
    have K3 := Lib.hid (K2.out.onto k2); clear k2
    obtain ⟨-, b1, b2⟩ := HC.out _ K3.out
    clear x0 x1 x2 x3 y0 y1 y2 y3 l1 l2
    have l1 := b1.lt; have l2 := b2.lt
    clear b1 b2
    cases r2 with
    | false =>
      have HE := Lib.hid (And.intro HNIL.out (And.intro (HC.out _ K3.out).1 (show ¬ (t.Right ∧ u.Right) from fun h => by have := HRR.out.2; rw [right_of.2 h.2] at this; cases this)))
      go_wp2_with fail
      exact bodyPost_ret (v := .tuple #[.slice none 0 0, .bool false, .int .i64 70]) (by simp [results, Tryz.results58, go_sem]) rfl ⟨⟨_, [], false, 70, rfl, HE.out.1 _, by simp, HE.out.2.1, .inl ⟨HE.out.2.2, rfl, rfl, rfl⟩⟩⟩
    | true =>
      have hmm := @run_makeMap Tryz.prog
      have HRT := Lib.hid (And.intro (right_of.1 HRR.out.1) (right_of.1 HRR.out.2))
      obtain ⟨G1, V1, A, G, V, B, D, h2⟩ := Two.ex HRT.out.1 HRT.out.2 HTU.out.1 HTU.out.2
      have H2 := Lib.hid h2; clear h2
      -- the solution's box
      obtain ⟨W3, hW3⟩ : ∃ W3, W3 = (w2.alloc (.map #[] 0)).alloc (.cells #[.slice none 0 0, .map (some w2.heap.size)] 128) := ⟨_, rfl⟩
      obtain ⟨kw, b1, b2⟩ := HC.out _ K3.out
      have hk23 : Keep (fun k => k < w2.heap.size) w2 W3 := by rw [hW3]; exact ((Keep.refl _ w2).alloc _).alloc _
      have hlo : w.heap.size ≤ w2.heap.size := kw.size
      have hsa : SA w.heap.size (w2.heap.size + 1) w2.heap.size W3 [] [] (.slice none 0 0) := by
        refine ⟨?_, ⟨rfl, .inl ⟨rfl, rfl⟩⟩, ?_, fun p hp => by simp at hp, by omega, hlo, fun i p hp => by simp at hp⟩
        · have := Blk.new (w2.alloc (.map #[] 0)) 128 #[.slice none 0 0, .map (some w2.heap.size)]
          rw [World.size_alloc] at this
          rw [hW3]; exact this
        · rw [hW3]
          exact (MapI.made w2 (.int .i64 0)).keep (X := fun _ => True) ((Keep.refl _ _).alloc _) trivial
      have hkw3 : Keep (fun k => k < w.heap.size) w W3 := kw.onto hk23
      have c1 := b1.keep hk23 b1.lt
      have c2 := b2.keep hk23 b2.lt
      have hsad : SA w.heap.size (w2.heap.size + 1) w2.heap.size W3.drew [] [] (.slice none 0 0) := hsa.keep' (Keep.refl _ W3).drew
      have HA1 := Lib.hid (S1.of H2.out hsad ((HTU.out.1.keepX hkw3 (fun _ h => h)).keepX (X := fun _ => True) ((Keep.refl _ W3).drew) (fun _ _ => trivial)))
      have HA2 := Lib.hid (fun W (hs : S1 w.heap.size (w2.heap.size + 1) w2.heap.size G1 V1 W) (hk : KT w.heap.size W3 W) => S2.of H2.out hs (HTU.out.2.keepX (hkw3.trans hk.old) (fun _ h => h)))
      have HA3 := Lib.hid (fun W (hs : S2 w.heap.size (w2.heap.size + 1) w2.heap.size G V W) => S3.of H2.out hs)
      have HA4 := Lib.hid (fun W (hs : S3 w.heap.size (w2.heap.size + 1) w2.heap.size G V D A B False W) => S3.fin H2.out hs)
      have HA5 := Lib.hid (fun W (hs : S3 w.heap.size (w2.heap.size + 1) w2.heap.size G V D A B True W) => S3.great H2.out hs)
      have HA6 := Lib.hid (fun W (hs : S3 w.heap.size (w2.heap.size + 1) w2.heap.size G V D A B True W) f (hf : IsSol t.tree u.tree f) (hr : ∀ x, f x = .v x ∨ (f x).Right) => S3.binds H2.out hs hf hr HRT.out.1 HRT.out.2)
      unfold tv at HA1 HA2
      have HBX : Hid (∀ W, KT w.heap.size W3 W → Blk W w.heap.size 28 #[.int .i64 t.k, .string (str t.nm), .int .i64 t.i, .slice a t.args.length c] ∧ Blk W (w.heap.size + 1) 28 #[.int .i64 u.k, .string (str u.nm), .int .i64 u.i, .slice b u.args.length d]) := Lib.hid fun W hk => ⟨hk.blk c1, hk.blk c2⟩
      have HKP : Hid (∀ W, KT w.heap.size W3 W → Keep (fun g => g < w.heap.size) w W) := Lib.hid fun W hk => hkw3.trans hk.old
      have HKD := Lib.hid (show KT w.heap.size W3 W3.drew from KT.ofKeep (Keep.refl _ W3).drew)
      have x0 := c1.cell 0; have x1 := c1.cell 1; have x2 := c1.cell 2; have x3 := c1.cell 3
      have y0 := c2.cell 0; have y1 := c2.cell 1; have y2 := c2.cell 2; have y3 := c2.cell 3
      simp at x0 x1 x2 x3 y0 y1 y2 y3
      have HW3 := Lib.hid hW3
      clear hW3 kw b1 b2 hk23 hlo hsa hkw3 c1 c2 hsad HR HR2 HC K1 K2 K3 HRR HTU l1 l2
      go_wp2_with fail
      rw [← HW3.out]
      generalize w2.heap.size + 1 = g at *
      go_region_held3 (fun w' => w'.cell? ⟨w.heap.size, 0, none⟩ = some (.int .i64 t.k) ∧ w'.cell? ⟨w.heap.size, 1, none⟩ = some (.string (str t.nm)) ∧ w'.cell? ⟨w.heap.size, 2, none⟩ = some (.int .i64 t.i) ∧ w'.cell? ⟨w.heap.size, 3, none⟩ = some (.slice a t.args.length c) ∧ w'.cell? ⟨w.heap.size + 1, 0, none⟩ = some (.int .i64 u.k) ∧ w'.cell? ⟨w.heap.size + 1, 1, none⟩ = some (.string (str u.nm)) ∧ w'.cell? ⟨w.heap.size + 1, 2, none⟩ = some (.int .i64 u.i) ∧ w'.cell? ⟨w.heap.size + 1, 3, none⟩ = some (.slice b u.args.length d)) (first | with_reducible exact ⟨x0, x1, x2, x3, y0, y1, y2, y3⟩ | exact ⟨x0, x1, x2, x3, y0, y1, y2, y3⟩)
        (first
          | (go_at_call 78; refine HA1.out.mono ?_; rintro e w4 ⟨rfl, s4, k4⟩; have K4 := Lib.hid (HKD.out.trans k4); have HS4 := Lib.hid s4; clear HA1 s4 k4; clear x0 x1 x2 x3 y0 y1 y2 y3; obtain ⟨hx9, hy9⟩ := HBX.out w4 K4.out; have x0 := hx9.cell 0; have x1 := hx9.cell 1; have x2 := hx9.cell 2; have x3 := hx9.cell 3; have y0 := hy9.cell 0; have y1 := hy9.cell 1; have y2 := hy9.cell 2; have y3 := hy9.cell 3; simp at x0 x1 x2 x3 y0 y1 y2 y3; clear hx9 hy9)
          | (go_at_call 78; refine (HA2.out _ HS4.out K4.out).mono ?_; rintro e w5 ⟨rfl, s5, k5⟩; have K5 := Lib.hid (K4.out.trans k5); have HS5 := Lib.hid s5; clear HA2 s5 k5; clear x0 x1 x2 x3 y0 y1 y2 y3; obtain ⟨hx9, hy9⟩ := HBX.out w5 K5.out; have x0 := hx9.cell 0; have x1 := hx9.cell 1; have x2 := hx9.cell 2; have x3 := hx9.cell 3; have y0 := hy9.cell 0; have y1 := hy9.cell 1; have y2 := hy9.cell 2; have y3 := hy9.cell 3; simp at x0 x1 x2 x3 y0 y1 y2 y3; clear hx9 hy9)
          | (go_at_call 77; go_loud (refine (HA3.out _ HS5.out).mono ?_; rintro e w6 ⟨r, rfl, k6', ht6, hf6⟩; have k6 := K5.out.trans k6'; clear HA3 k6'; clear x0 x1 x2 x3 y0 y1 y2 y3; obtain ⟨hx9, hy9⟩ := HBX.out w6 k6; have x0 := hx9.cell 0; have x1 := hx9.cell 1; have x2 := hx9.cell 2; have x3 := hx9.cell 3; have y0 := hy9.cell 0; have y1 := hy9.cell 1; have y2 := hy9.cell 2; have y3 := hy9.cell 3; simp at x0 x1 x2 x3 y0 y1 y2 y3; clear hx9 hy9; (rcases r with _ | _; (rename_i hK9; refine hK9.out _ _ (by exact ⟨x0, x1, x2, x3, y0, y1, y2, y3⟩) (fun hH9 => ?_); (have HE := Lib.hid (And.intro HNIL.out (And.intro (HKP.out _ k6) (hf6 (by first | rfl | trivial))))); clear hK9 ht6 hf6; refine wpAnyH_take (i := 5) (oi := _) (v := .bool true) rfl (by kernel_rfl) (by kernel_rfl) (by kernel_rfl) (fun _ _ _ h => h) (Or.inl ⟨by rfl, fun W _ => by rfl⟩) hH9 ?_; (try simp only [List.getElem_toArray, List.getElem_cons_succ, List.getElem_cons_zero, Act.put, List.setIfInBounds_toArray, List.set_cons_zero, List.set_cons_succ]); refine wpAnyH_take (i := 6) (oi := _) (v := .bool true) rfl (by kernel_rfl) (by kernel_rfl) (by kernel_rfl) (fun _ _ _ h => h) (Or.inl ⟨by rfl, fun W _ => by rfl⟩) hH9 ?_; (try simp only [List.getElem_toArray, List.getElem_cons_succ, List.getElem_cons_zero, Act.put, List.setIfInBounds_toArray, List.set_cons_zero, List.set_cons_succ]); refine wpAnyH_take (i := 7) (oi := _) (v := undef) rfl (by kernel_rfl) (by kernel_rfl) (by kernel_rfl) (fun _ _ _ h => h) (Or.inr ⟨by rfl, rfl⟩) hH9 ?_; (try simp only [List.getElem_toArray, List.getElem_cons_succ, List.getElem_cons_zero, Act.put, List.setIfInBounds_toArray, List.set_cons_zero, List.set_cons_succ]); refine wpAnyH_take (i := 8) (oi := _) (v := undef) rfl (by kernel_rfl) (by kernel_rfl) (by kernel_rfl) (fun _ _ _ h => h) (Or.inr ⟨by rfl, rfl⟩) hH9 ?_; (try simp only [List.getElem_toArray, List.getElem_cons_succ, List.getElem_cons_zero, Act.put, List.setIfInBounds_toArray, List.set_cons_zero, List.set_cons_succ]); refine wpAnyH_take (i := 9) (oi := _) (v := .bool true) rfl (by kernel_rfl) (by kernel_rfl) (by kernel_rfl) (fun _ _ _ h => h) (Or.inl ⟨by rfl, fun W _ => by rfl⟩) hH9 ?_; (try simp only [List.getElem_toArray, List.getElem_cons_succ, List.getElem_cons_zero, Act.put, List.setIfInBounds_toArray, List.set_cons_zero, List.set_cons_succ]); refine wpAnyH_done (by kernel_rfl) ?_ _; refine NoPanic.normal ?_; go_wp2_with fail; exact bodyPost_ret (v := .tuple #[.slice none 0 0, .bool false, .int .i64 0]) (by simp [results, Tryz.results58, go_sem]) rfl ⟨⟨_, [], false, 0, rfl, HE.out.1 _, by simp, HE.out.2.1, .inr ⟨HRT.out.1, HRT.out.2, .inl ⟨rfl, rfl, rfl, HE.out.2.2⟩⟩⟩⟩)); have K6 := Lib.hid k6; have HS6 := Lib.hid (ht6 (by first | rfl | trivial)); clear k6 ht6 hf6))
          | (go_at_call 79; refine (HA4.out _ HS6.out).mono ?_; rintro e w7 ⟨r7, rfl, k7', ht7, hf7⟩; have k7 := K6.out.trans k7'; clear HA4 k7'; clear x0 x1 x2 x3 y0 y1 y2 y3; obtain ⟨hx9, hy9⟩ := HBX.out w7 k7; have x0 := hx9.cell 0; have x1 := hx9.cell 1; have x2 := hx9.cell 2; have x3 := hx9.cell 3; have y0 := hy9.cell 0; have y1 := hy9.cell 1; have y2 := hy9.cell 2; have y3 := hy9.cell 3; simp at x0 x1 x2 x3 y0 y1 y2 y3; clear hx9 hy9; have K7 := Lib.hid k7; have HF7 := Lib.hid (And.intro ht7 hf7); clear k7 ht7 hf7))
      clear x0 x1 x2 x3 y0 y1 y2 y3
      cases r7 with
      | false =>
        have HE := Lib.hid (And.intro HNIL.out (And.intro (HKP.out _ K7.out) (HF7.out.2 rfl)))
        go_wp2_with fail
        exact bodyPost_ret (v := .tuple #[.slice none 0 0, .bool false, .int .i64 0]) (by simp [results, Tryz.results58, go_sem]) rfl ⟨⟨_, [], false, 0, rfl, HE.out.1 _, by simp, HE.out.2.1, .inr ⟨HRT.out.1, HRT.out.2, .inl ⟨rfl, rfl, rfl, HE.out.2.2⟩⟩⟩⟩
      | true =>
        have HS7 := Lib.hid (HF7.out.1 rfl)
        clear HF7
        go_wp2_with fail
        refine (HA5.out _ HS7.out).mono ?_
        rintro e w8 ⟨r8, rfl, k8, ht8, hf8⟩
        have K8 := Lib.hid (K7.out.trans k8)
        clear k8
        cases r8 with
        | true =>
          have HE := Lib.hid (And.intro HNIL.out (And.intro (HKP.out _ K8.out) (ht8 rfl)))
          clear ht8 hf8
          go_wp2_with fail
          exact bodyPost_ret (v := .tuple #[.slice none 0 0, .bool false, .int .i64 2]) (by simp [results, Tryz.results58, go_sem]) rfl ⟨⟨_, [], false, 2, rfl, HE.out.1 _, by simp, HE.out.2.1, .inr ⟨HRT.out.1, HRT.out.2, .inr (.inl ⟨rfl, rfl, rfl, HE.out.2.2⟩)⟩⟩⟩
        | false =>
          obtain ⟨s8, f, hf, hr⟩ := hf8 rfl
          have HA := Lib.hid (HA6.out _ s8 f hf hr)
          clear ht8 hf8 s8 hf hr
          go_wp2_with fail
          refine HA.out.mono ?_
          rintro e w9 ⟨v, bs, rfl, hbo, hfr, k9, hs⟩
          have HE := Lib.hid (And.intro hbo (And.intro hfr (And.intro (HKP.out _ (K8.out.trans k9)) hs)))
          clear hbo hfr k9 hs
          go_wp2_with fail
          exact bodyPost_ret (v := .tuple #[v, .bool true, .int .i64 0]) (by simp [results, Tryz.results58, go_sem]) rfl ⟨⟨_, bs, true, 0, rfl, HE.out.1, HE.out.2.1, HE.out.2.2.1, HE.out.2.2.2⟩⟩
end
end Go.Proofs.YtnfcbalppecnfaaGreat
namespace Go.Proofs.YtnfcbalppecnfaaGreat
open Go.RowKit Go.Maps
set_option linter.unusedVariables false
set_option linter.unusedSimpArgs false
abbrev xV (n : Int) : Tm := .node 1 [] n []
abbrev xC (nm : List UInt8) (l : List Tm) : Tm := .node 4 nm 0 l
end Go.Proofs.YtnfcbalppecnfaaGreat
