/-
  Joined texts (Tm24, Tm25, Tm26). No condition.
-/
import Derived.Test.YtfkbbbjicaedmaaGreatDoorUMD
import Derived.RangeFuncNested
import Derived.RangeFuncLeaves
import Derived.RangeFuncCalls
import Derived.OwnWalkIn
import Derived.TacticsInMore
import Derived.RegionIn
import Derived.LoopNIn
import Derived.LoopIn
import Derived.Shelf.Abstract
import Derived.Lib.Hide
namespace Go.Proofs.YtfkbbbjicaedmaaGreatDoor
open Go.RowKit Go.Maps Go.Shelf
set_option linter.unusedVariables false
set_option linter.unusedSimpArgs false
attribute [local go_sem] Oper.semAt_some
end Go.Proofs.YtfkbbbjicaedmaaGreatDoor
namespace Go.Proofs.YtfkbbbjicaedmaaGreatDoor
open Go.RowKit Go.Maps Go.Shelf
set_option linter.unusedVariables false
set_option linter.unusedSimpArgs false
attribute [local go_sem] Oper.semAt_some
def lsT (ts : List Tm) (tail : Tm) : Tm := ts.foldr (fun t l => .node 4 [46] 0 [t, l]) tail
def TmSl (B : Nat) (w : World) (a : Option Addr) (ps : List TP) : Prop :=
  ∀ j p, ps[j]? = some p → (∃ b off, a = some ⟨b, off, none⟩ ∧ b < B ∧ ∀ f v, p.cells[f]? = some v → w.cell? ⟨b, off + (j * 4 + f), none⟩ = some v) ∧ TmAt B w p.1 p.2.1 p.2.2
section
variable {B0 lo : Nat} {W W' : World} {t : Tm} {a : Option Addr} {c : Nat}
end
section
variable {w : World} {ps : List TP} {t : Tm} {a b : Option Addr} {cap d : Nat}
end
end Go.Proofs.YtfkbbbjicaedmaaGreatDoor
namespace Go.Proofs.YtfkbbbjicaedmaaGreatDoor
open Go.RowKit Go.Maps
set_option linter.unusedVariables false
set_option linter.unusedSimpArgs false
def itF : Nat → T → List T × T
  | 0, t => ([], t)
  | n + 1, .c nm [x, l] => if nm = [46] then (x :: (itF n l).1, (itF n l).2) else ([], .c nm [x, l])
  | n + 1, t => ([], t)
def T.items (t : T) : List T × T := itF t.nd t
def lenOf : Value → Nat
  | .slice _ n _ => n
  | _ => 0
theorem itF_stop {n : Nat} {t : Tm} (h : ¬ (t.k = 4 ∧ t.nm = [46] ∧ t.args.length = 2)) (hok : t.ok = true) : itF n t.tree = ([], t.tree) := by
  cases n with
  | zero => rfl
  | succ n =>
    rcases Tm.ok_kind hok with hk | hk | hk | hk
    · rw [tree_1 hk]; rfl
    · rw [tree_2 hk]; rfl
    · rw [tree_3 hk]; rfl
    · rw [tree_4 hk]
      match hl : t.args with
      | [] => rfl
      | [x] => rfl
      | [x, y] =>
        have hn : ¬ t.nm = [46] := fun e => h ⟨hk, e, by rw [hl]; rfl⟩
        simp [itF, hn]
      | x :: y :: z :: r => rfl
theorem itF_go {n : Nat} {t x l : Tm} (hk : t.k = 4) (hn : t.nm = [46]) (hl : t.args = [x, l]) : itF (n + 1) t.tree = (x.tree :: (itF n l.tree).1, (itF n l.tree).2) := by
  rw [tree_4 hk, hl, hn]; simp [itF]
theorem news_at {w : World} {g : Nat} {ty : TypeId} {news : List Value} (hb : Blk w g ty news.toArray) : ∀ j u, news[j]? = some u → w.cell? ((⟨g, 0, none⟩ : Addr).add j) = some u := fun j u h => by
  have e : ((⟨g, 0, none⟩ : Addr).add j) = ⟨g, j, none⟩ := by simp [Addr.add]; omega
  rw [e, hb.cell, List.getElem?_toArray]; exact h
theorem Fr.growR {B0 lo hi c : Nat} {Q Q' : Nat → Prop} {w : World} {t : Tm} {a : Option Addr} (h : Fr B0 Q w lo hi t a c) {H : Nat} (hH : hi ≤ H) : (∀ k, lo ≤ k → Q' k → Q k ∨ H ≤ k) → Fr B0 Q' w lo hi t a c := by
  induction h with
  | old h hl => intro _; exact .old h hl
  | node hk1 hw hn h8 hlb hub hq blk hcp hs ih =>
    intro hQ
    refine .node hk1 hw hn h8 hlb hub (fun h => ?_) blk hcp fun j p hj => ih j p hj hQ
    rcases hQ _ hlb h with h | h
    · exact hq h
    · omega
structure ItR (w w1 : World) (t : Tm) (m : Nat) (L : List T) (u : Value) (cur : Tm) (a : Option Addr) (c : Nat) (ps : List TP) (wr : World) : Prop where
  kp : Keep (fun g => g < w.heap.size + 2 ∧ g ≠ w.heap.size) w1 wr
  box : Blk wr w.heap.size 24 #[.int .i64 cur.k, .string (str cur.nm), .int .i64 cur.i, .slice a cur.args.length c]
  cu : TmAt w.heap.size wr cur a c
  ok : cur.ok = true
  nd : cur.nd ≤ m
  row : wr.ownsRow (w.heap.size + 2) 24 4 u ps.length (ps.flatMap TP.cells)
  fr : ∀ p ∈ ps, Fr 0 (fun k => u.ownBlock = some k) wr (w.heap.size + 2) wr.heap.size p.1 p.2.1 p.2.2
  trm : ps.map (·.1) = L.map T.tm
  eq : t.tree.items = (L ++ (itF m cur.tree).1, (itF m cur.tree).2)
  len : ps.length + m ≤ 100
def itV (t : Tm) : List Tm × Tm := if t.right = true then (t.tree.items.1.map T.tm, t.tree.items.2.tm) else ([], .node 0 [] 0 [])
section
variable {w : World} {t : Tm} {a : Option Addr} {c : Nat}
set_option maxRecDepth 100000 in
set_option maxHeartbeats 4000000 in
theorem Items_any (hT : TmAt w.heap.size w t a c) :
    Calls Tryz.prog 58 #[tv t a c] w fun e w' => ∃ (u : Value) (ps : List TP) (a' : Option Addr) (c' : Nat), e = .returned (.tuple #[u, tv (itV t).2 a' c']) ∧ w'.ownsRow w.heap.size 24 4 u ps.length (ps.flatMap TP.cells) ∧ ps.map (·.1) = (itV t).1 ∧
      (∀ p ∈ ps, Fr 0 (fun k => u.ownBlock = some k) w' w.heap.size w'.heap.size p.1 p.2.1 p.2.2) ∧ Fr 0 (fun k => u.ownBlock = some k) w' w.heap.size w'.heap.size (itV t).2 a' c' ∧ Keep (fun g => g < w.heap.size) w w' := by
  have k0 : Keep (fun g => g < w.heap.size) w ((w.alloc (tb t a c)).alloc zb) := ((Keep.refl _ w).alloc _).alloc _
  have b0 := (Blk.new w 24 #[.int .i64 t.k, .string (str t.nm), .int .i64 t.i, .slice a t.args.length c]).alloc zb
  have b1 := Blk.new (w.alloc (tb t a c)) 24 #[.int .i64 0, .string ⟨#[]⟩, .int .i64 0, .slice none 0 0]
  obtain ⟨w0, hw0⟩ : ∃ w0, w0 = (w.alloc (tb t a c)).alloc zb := ⟨_, rfl⟩
  have hz0 : w0.heap.size = w.heap.size + 2 := by rw [hw0]; simp
  simp only [World.size_alloc, ← hw0] at k0 b0 b1
  have hR := isRight_any (hT.on k0)
  have K0 := Lib.hid (And.intro k0 (And.intro b0 b1))
  clear k0 b0 b1
  have HR := Lib.hid hR; clear hR
  have HT := Lib.hid hT; clear hT
  unfold tv
  obtain ⟨ov, hov⟩ : ∃ ov, ov = itV t := ⟨_, rfl⟩
  rw [← hov]
  unfold itV at hov
  have HOV := Lib.hid hov; clear hov
  obtain ⟨r, hr⟩ : ∃ r, r = t.right := ⟨_, rfl⟩
  rw [← hr] at HR HOV
  have Hr := Lib.hid hr; clear hr
  unfold tb at hw0
  have HW0 := Lib.hid hw0; clear hw0
  go_enter Tryz.func58, Tryz.ntmps58
  go_wp2_with fail
  rw [← HW0.out]
  refine HR.out.mono ?_
  rintro e w1 ⟨rfl, k1⟩
  obtain ⟨kk0, bb0, bb1⟩ := K0.out
  have hz1 := k1.size
  have bc0 := bb0.keep k1 bb0.lt
  have bc1 := bb1.keep k1 bb1.lt
  have kk1 := kk0.onto k1
  have hT1 : TmAt w.heap.size w1 t a c := HT.out.keepX kk1 (fun _ h => h)
  have f0 := bc1.frozen 0
  have f1 := bc1.frozen 1
  have f2 := bc1.frozen 2
  have f3 := bc1.frozen 3
  have e0 := bc1.cell 0; have e1 := bc1.cell 1; have e2 := bc1.cell 2; have e3 := bc1.cell 3
  simp at e0 e1 e2 e3
  have l0 : w.heap.size < w1.heap.size := by omega
  have l1 : w.heap.size + 1 < w1.heap.size := by omega
  cases r with
  | false =>
    obtain ⟨W, hW, -, hsz, hbW, -, hkW⟩ := box_put (x := .node 0 [] 0 []) (a := none) (c := 0) bc1 (Keep.refl (fun _ => True) _) trivial
    have g0 := hbW.cell 0; have g1 := hbW.cell 1; have g2 := hbW.cell 2; have g3 := hbW.cell 3
    rw [hW] at g0 g1 g2 g3
    simp [Tm.k, Tm.nm, Tm.i, Tm.args] at g0 g1 g2 g3
    have es : str [] = (⟨#[]⟩ : ByteArray) := rfl
    simp only [es] at g0 g1 g2 g3
    clear es
    have hfin : Fr 0 (fun k => (Value.slice none 0 0).ownBlock = some k) W w.heap.size W.heap.size (.node 0 [] 0 []) none 0 ∧ Keep (fun g => g < w.heap.size) w W := ⟨.old (tm_leaf (by decide) (by decide) (by simp)) (by omega), kk1.trans (hkW.less (fun g hg => by omega))⟩
    rw [hW] at hfin
    have HE := Lib.hid hfin; clear hfin
    clear hW hkW hbW hsz kk0 bb0 bb1 bc0 bc1 kk1 hT1 k1 K0 HW0 hz1
    have hov := HOV.out
    rw [if_neg (by simp)] at hov
    subst hov
    clear HOV
    go_wp2_with fail
    exact bodyPost_ret (v := .tuple #[.slice none 0 0, .agg #[.int .i64 0, .string ⟨#[]⟩, .int .i64 0, .slice none 0 0]]) (by simp [results, Tryz.results58, go_sem, g0, g1, g2, g3]) rfl ⟨_, [], none, 0, rfl, ⟨by simp, .inl ⟨rfl, rfl⟩⟩, rfl, by simp, HE.out⟩
  | true =>
    have hright := right_of.1 Hr.out.symm
    have hrel0 : ItR w w1 t t.nd [] (.slice none 0 0) t a c [] w1 := ⟨Keep.refl _ _, bc0, hT1, hright.1, Nat.le_refl _, ⟨by simp, .inl ⟨rfl, rfl⟩⟩, by simp, rfl, by unfold T.items; rw [(Tm.tree_ns hright.1).2.1]; simp, by have := hright.2.2; simp; omega⟩
    have HREL0 := Lib.hid hrel0; clear hrel0
    obtain ⟨i0, hi0, hz0', hz1', hz2'⟩ := info_parts infoT
    have HX := Lib.hid (And.intro bc1 (And.intro kk1 (And.intro hz0 hz1)))
    have hovv := HOV.out
    rw [if_pos rfl] at hovv
    subst hovv
    clear HOV hright hT1 kk1 bc0 bc1 k1 kk0 bb0 bb1 K0 HW0 HR HT Hr
    have c0 := HREL0.out.box.cell 0
    simp at c0
    go_wp2_with fail
    go_loopw [4] (fun u wr => ∃ (m : Nat) (L : List T) (cur : Tm) (a' : Option Addr) (c' : Nat) (ps : List TP) (ua : Option Addr) (uc : Nat), u = .slice ua ps.length uc ∧ ItR w w1 t m L (.slice ua ps.length uc) cur a' c' ps wr) (fun u _ => 101 - lenOf u)
    case atStart => exact ⟨t.nd, [], t, a, c, [], none, 0, rfl, HREL0.out⟩
    case round =>
      clear c0 e0 e1 e2 e3 f0 f1 f2 f3
      obtain ⟨m, L, cur, a', c', ps, ua, uc, rfl, hrel⟩ := hrel
      have q0 := hrel.box.cell 0; have q1 := hrel.box.cell 1; have q2 := hrel.box.cell 2; have q3 := hrel.box.cell 3
      simp at q0 q1 q2 q3
      have g0 := hrel.box.frozen 0
      have g1 := hrel.box.frozen 1
      have g2 := hrel.box.frozen 2
      have g3 := hrel.box.frozen 3
      have lq := hrel.box.lt
      have hps := hrel.len
      have hzr := hrel.kp.size
      by_cases hgo : cur.k = 4 ∧ cur.nm = [46] ∧ cur.args.length = 2
      · obtain ⟨hk, hn, hl⟩ := hgo
        obtain ⟨x, l, hxl⟩ : ∃ x l, cur.args = [x, l] := by
          match h : cur.args with
          | [] => rw [h] at hl; simp at hl
          | [_] => rw [h] at hl; simp at hl
          | [x, l] => exact ⟨x, l, rfl⟩
          | _ :: _ :: _ :: _ => rw [h] at hl; simp at hl
        have hokx := Tm.ok_args hrel.ok hk
        have HK4 := Lib.hid (And.intro hk hn)
        obtain ⟨b, off, ax, cx, ha1, hbB, hTx, u0, u1, u2, u3⟩ := hrel.cu.arg (j := 0) (x := x) (by rw [hxl]; rfl)
        obtain ⟨b', off', al, cl, ha2, -, hTl, v0, v1, v2, v3⟩ := hrel.cu.arg (j := 1) (x := l) (by rw [hxl]; rfl)
        rw [ha1] at ha2
        simp only [Option.some.injEq, Addr.mk.injEq, and_true] at ha2
        obtain ⟨rfl, rfl⟩ := ha2
        subst ha1
        simp only [Nat.zero_mul, Nat.zero_add, Nat.add_zero, Nat.one_mul, ← Nat.add_assoc] at u0 u1 u2 u3 v0 v1 v2 v3
        have hAN := anew_any (Nat.le_refl _) ((hTx.up (Nat.le_trans (Nat.le_add_right _ 2) (by omega : w.heap.size + 2 ≤ wr.heap.size)))) (hokx.2.2.1 x (by rw [hxl]; simp))
        have HREL := Lib.hid hrel; clear hrel
        have HAN := Lib.hid hAN; clear hAN
        have HQ := Lib.hid (And.intro hokx (And.intro hTx (And.intro hTl (And.intro hbB hxl)))); clear hokx hTx hTl hbB hxl
        rw [hk] at q0
        rw [hn] at q1
        rw [hl] at q3
        have es : str [46] = (⟨#[46]⟩ : ByteArray) := rfl
        rw [es] at q1
        clear es hk hn hl
        go_wp2_with fail
        obtain ⟨y, hy⟩ : ∃ y, y = x.tree.tm := ⟨_, rfl⟩
        rw [← hy] at HAN
        refine HAN.out.mono ?_
        rintro e w2 ⟨a2, c2, rfl, hfr, k2⟩
        have hrel := HREL.out
        obtain ⟨hokx, hTx, hTl, hbB, hxl⟩ := HQ.out
        have hz2 := k2.size
        have hn4 : cur.k = 4 := HK4.out.1
        have hnd : l.nd + 1 ≤ m := by
          have h1 := hrel.nd
          rw [cur.nd_eq, if_pos hn4, hxl, ndL_cons, ndL_cons, ndL_nil] at h1
          omega
        obtain ⟨m', rfl⟩ : ∃ m', m = m' + 1 := ⟨m - 1, by omega⟩
        have hrow2 := row_on hrel.row k2 (fun g hg => by obtain ⟨_, cs, hb⟩ := row_type hrel.row hg; exact hb.lt)
        have hbx2 := hrel.box.keep k2 hrel.box.lt
        have hafter : ∀ g1 cap1 w3, w3.ownsRow (w.heap.size + 2) 24 4 (.slice (some ⟨g1, 0, none⟩) (ps.length + 1) cap1) (ps.length + 1) (ps.flatMap TP.cells ++ y.cells a2 c2) → (w2.alloc (.cells (y.cells a2 c2).toArray 24)).grownBy w3 (Value.slice ua ps.length uc).ownBlock → ((Value.slice ua ps.length uc).ownBlock = some g1 ∨ g1 = w2.heap.size + 1) → g1 < w3.heap.size →
            w.heap.size < w3.heap.size ∧ Blk w3 w.heap.size 24 #[.int .i64 cur.k, .string (str cur.nm), .int .i64 cur.i, .slice (some ⟨b, off, none⟩) cur.args.length c'] ∧ b < w3.heap.size ∧ (∀ o v, wr.cell? ⟨b, o, none⟩ = some v → w3.cell? ⟨b, o, none⟩ = some v) ∧
            ∀ W, W = ((((w3.setCell ⟨w.heap.size, 0, none⟩ (.int .i64 l.k)).setCell ⟨w.heap.size, 1, none⟩ (.string (str l.nm))).setCell ⟨w.heap.size, 2, none⟩ (.int .i64 l.i)).setCell ⟨w.heap.size, 3, none⟩ (.slice al l.args.length cl)) → ItR w w1 t m' (L ++ [x.tree]) (.slice (some ⟨g1, 0, none⟩) (ps.length + 1) cap1) l al cl (ps ++ [(y, a2, c2)]) W := by
          intro g1 cap1 w3 hown hgr hat hlt
          have hz3 := hgr.size
          rw [World.size_alloc] at hz3
          have nup : ∀ k, (Value.slice ua ps.length uc).ownBlock = some k → w.heap.size + 2 ≤ k ∧ k < wr.heap.size := fun k hk => by
            obtain ⟨h1, cs, hb⟩ := row_type hrel.row hk
            exact ⟨h1, hb.lt⟩
          have kg : Keep (fun k => (Value.slice ua ps.length uc).ownBlock ≠ some k) wr w3 := (k2.all).trans (((Keep.refl _ w2).alloc _).trans (Keep.ofGrown hgr (fun k e hx => hx e)))
          have hbx3 := hrel.box.keep kg (fun e => by have := nup _ e; omega)
          refine ⟨by omega, hbx3, by omega, fun o v hv => (World.cell?_of_block (a := ⟨b, o, none⟩) (kg.block b (by omega) (fun e => by have := nup _ e; omega))).trans hv, fun W hW => ?_⟩
          have ks : Keep (fun k => k ≠ w.heap.size) w3 W := by rw [hW]; exact (Keep.refl _ w3).set4 (o := 0) (fun h => h rfl)
          have hsz : W.heap.size = w3.heap.size := by rw [hW]; simp [World.setCell]
          have kc : Keep (fun k => (Value.slice ua ps.length uc).ownBlock ≠ some k ∧ k ≠ w.heap.size) wr W := (kg.less (fun k hk => hk.1)).trans (ks.less (fun k hk => hk.2))
          have hg1 : w.heap.size + 2 ≤ g1 := by
            rcases hat with e | e
            · exact (nup _ e).1
            · omega
          refine ⟨?_, by rw [hW]; exact hbx3.set4, hTl.keepX kc (fun k hk => ⟨fun e => by have := nup _ e; omega, by omega⟩), hokx.2.2.1 l (by rw [hxl]; simp), by omega, ?_, ?_, ?_, ?_, ?_⟩
          · exact hrel.kp.trans (kc.less (fun g hg => ⟨fun e => by have := nup _ e; omega, hg.2⟩))
          · have := row_on hown ks (fun k hk => by simp only [Value.ownBlock, Option.some.injEq] at hk; omega)
            rw [List.length_append, List.length_singleton, List.flatMap_append]
            simpa [TP.cells] using this
          · intro p hp
            rcases List.mem_append.1 hp with hp | hp
            · have h1 := (hrel.fr p hp).keepR kc (fun k hk => by
                rcases hk with hk | hk
                · omega
                · exact ⟨hk.2, by omega⟩)
              refine (h1.growR (Q' := fun k => (Value.slice (some ⟨g1, 0, none⟩) (ps.length + 1) cap1).ownBlock = some k) (Nat.le_refl _) (fun k hk hq => ?_)).up (by omega) (Nat.le_refl _)
              simp only [Value.ownBlock, Option.some.injEq] at hq
              rcases hat with e | e
              · left; rw [e, hq]
              · right; omega
            · simp only [List.mem_singleton] at hp
              subst hp
              have h1 := hfr.keepR (X := fun k => w2.heap.size ≤ k ∨ ((Value.slice ua ps.length uc).ownBlock ≠ some k ∧ k ≠ w.heap.size)) (w' := W) ⟨ks.os.trans (hgr.os.trans rfl), ks.tape.trans (hgr.tape.trans rfl), ks.output.trans (hgr.output.trans rfl), by omega, fun k hk hx => by
                  rcases hx with hx | hx
                  · omega
                  · rw [ks.block k (by omega) hx.2, hgr.block k (by rw [World.size_alloc]; omega) (fun e => hx.1 e.symm)]
                    exact ((Keep.refl (fun _ => True) w2).alloc _).block k hk trivial⟩ (fun k hk => by
                rcases hk with hk | hk
                · omega
                · right; exact ⟨fun e => by have := nup _ e; omega, by omega⟩)
              refine (h1.growR (Q' := fun k => (Value.slice (some ⟨g1, 0, none⟩) (ps.length + 1) cap1).ownBlock = some k) (Nat.le_refl _) (fun k hk hq => ?_)).up (by omega) (by omega)
              simp only [Value.ownBlock, Option.some.injEq] at hq
              rcases hat with e | e
              · have := nup _ e; omega
              · right; omega
          · rw [List.map_append, List.map_append, hrel.trm, hy]; rfl
          · rw [hrel.eq, itF_go hn4 HK4.out.2 hxl, List.append_assoc]; rfl
          · have := hrel.len; simp; omega
        have HAFT := Lib.hid hafter; clear hafter
        have HV := Lib.hid (And.intro v0 (And.intro v1 (And.intro v2 v3)))
        have HL2 := Lib.hid (show cur.args.length = 2 by rw [hxl]; rfl)
        have HR2 := Lib.hid hrow2; clear hrow2
        have HFX := Lib.hid (And.intro hfr (And.intro k2 hbx2)); clear hfr k2 hbx2
        clear hrel hokx hTx hTl hbB hxl hn4 hnd HAN HREL HQ hy u0 u1 u2 u3 v0 v1 v2 v3 q0 q1 q2 q3 g0 g1 g2 g3
        go_wp2_with (at_builtin; refine wpList_append_lies _ rfl _ _ 22 rfl (w.heap.size + 2) 24 i0 (.agg #[.int .i64 0, .string ⟨#[]⟩, .int .i64 0, .slice none 0 0]) 4 56 Tryz.underlying22 hi0 hz0' hz1' hz2' rfl (by decide) _ ps.length _ rfl (HR2.out.alloc _) ⟨w2.heap.size, 0, none⟩ 1 1 (y.cells a2 c2) rfl rfl (news_at (Blk.new w2 24 (y.cells a2 c2).toArray)) (by simp [Tm.cells, Value.oneCell']) (by decide) (by unfold maxLen; omega) (by omega) (by simp; omega) (w2.heap.size + 1) (by simp) ?_)
        intro g1 capg1 w3 hown hgr hat hltg1
        obtain ⟨lt3, bx3, lb3, hcell, hfin⟩ := HAFT.out g1 capg1 w3 hown hgr hat hltg1
        obtain ⟨v0, v1, v2, v3⟩ := HV.out
        replace v0 := hcell _ _ v0
        replace v1 := hcell _ _ v1
        replace v2 := hcell _ _ v2
        replace v3 := hcell _ _ v3
        have q0 := bx3.cell 0; have q1 := bx3.cell 1; have q2 := bx3.cell 2; have q3 := bx3.cell 3
        rw [HL2.out] at q3
        simp at q0 q1 q2 q3
        have g0 := bx3.frozen 0
        have gg1 := bx3.frozen 1
        have g2 := bx3.frozen 2
        have g3 := bx3.frozen 3
        have HFN := Lib.hid hfin; clear hfin
        clear hown hgr hat bx3 hcell HAFT HV HR2 HFX
        go_wp2_with fail
        go_roundw
        case rel => exact ⟨m', L ++ [x.tree], l, al, cl, ps ++ [(y, a2, c2)], some ⟨g1, 0, none⟩, capg1, by rw [List.length_append]; rfl, by rw [List.length_append, List.length_singleton]; exact HFN.out _ rfl⟩
        case measure => simp [lenOf]; omega
      · have hstop := itF_stop (n := m) hgo hrel.ok
        have heq := hrel.eq
        rw [hstop, List.append_nil] at heq
        have hAN := anew_any (Nat.le_refl _) (hrel.cu.up (by omega : w.heap.size ≤ wr.heap.size)) hrel.ok
        obtain ⟨y, hy⟩ : ∃ y, y = t.tree.items.2.tm := ⟨_, rfl⟩
        have hyc : cur.tree.tm = y := by rw [hy, heq]
        rw [hyc] at hAN
        obtain ⟨bc1, kk1, -, -⟩ := HX.out
        have hL : ps.map (·.1) = t.tree.items.1.map T.tm := by rw [hrel.trm, heq]
        have nup : ∀ k, (Value.slice ua ps.length uc).ownBlock = some k → w.heap.size + 2 ≤ k ∧ k < wr.heap.size := fun k hk => by
          obtain ⟨h1, cs, hb⟩ := row_type hrel.row hk
          exact ⟨h1, hb.lt⟩
        have hfl : ∀ w2, Keep (fun g => g < wr.heap.size) wr w2 → ∀ a2 c2, Fr 0 (fun _ => False) w2 wr.heap.size w2.heap.size y a2 c2 → Blk w2 (w.heap.size + 1) 24 #[.int .i64 0, .string ⟨#[]⟩, .int .i64 0, .slice none 0 0] ∧
            ∀ W, W.heap.size = w2.heap.size → Keep (fun k => k ≠ w.heap.size + 1) w2 W → W.ownsRow w.heap.size 24 4 (.slice ua ps.length uc) ps.length (ps.flatMap TP.cells) ∧ ps.map (·.1) = t.tree.items.1.map T.tm ∧
              (∀ p ∈ ps, Fr 0 (fun k => (Value.slice ua ps.length uc).ownBlock = some k) W w.heap.size W.heap.size p.1 p.2.1 p.2.2) ∧ Fr 0 (fun k => (Value.slice ua ps.length uc).ownBlock = some k) W w.heap.size W.heap.size y a2 c2 ∧ Keep (fun g => g < w.heap.size) w W := by
          intro w2 k2 a2 c2 hfr
          refine ⟨(bc1.keep hrel.kp ⟨by omega, by omega⟩).keep k2 (by omega), fun W hsz hkW => ?_⟩
          have hz2 := k2.size
          have kc : Keep (fun k => k ≠ w.heap.size + 1) wr W := (k2.all).trans hkW
          refine ⟨?_, hL, fun p hp => ?_, ?_, ?_⟩
          · have h1 := row_on hrel.row kc (fun k hk => by have := nup k hk; omega)
            refine ⟨h1.1, ?_⟩
            rcases h1.2 with h2 | ⟨g, cap, cu, e, hb, r⟩
            · exact .inl h2
            · exact .inr ⟨g, cap, cu, e, by omega, r⟩
          · exact ((hrel.fr p hp).keepR kc (fun k hk => by omega)).up (by omega) (by omega)
          · have h1 := hfr.keepR hkW (fun k hk => by omega)
            exact (h1.growR (Q' := fun k => (Value.slice ua ps.length uc).ownBlock = some k) (Nat.le_refl _) (fun k hk hq => by have := nup k hq; omega)).up (by omega) (by omega)
          · exact kk1.trans ((hrel.kp.less (fun g hg => ⟨by omega, by omega⟩)).trans (kc.less (fun g hg => by omega)))
        have HFL := Lib.hid hfl; clear hfl
        have HAN := Lib.hid hAN; clear hAN
        have HREL := Lib.hid hrel; clear hrel
        have HY := Lib.hid (And.intro hy (And.intro hyc hL)); clear hy hyc hL
        clear hstop heq bc1 kk1 nup
        by_cases hk : cur.k = 4
        · rw [hk] at q0
          by_cases hn : cur.nm = [46]
          · have hl : ¬ cur.args.length = 2 := fun e => hgo ⟨hk, hn, e⟩
            rw [hn] at q1
            have es : str [46] = (⟨#[46]⟩ : ByteArray) := rfl
            rw [es] at q1
            have hAN := HAN.out
            unfold tv at hAN
            rw [hk, hn, es] at hAN
            replace HAN := Lib.hid hAN
            clear es hgo hAN
            go_wp2_with fail
            refine HAN.out.mono ?_
            rintro e w2 ⟨a2, c2, rfl, hfr, k2⟩
            obtain ⟨bR2, hfinal⟩ := HFL.out w2 k2 a2 c2 hfr
            have e0 := bR2.cell 0; have e1 := bR2.cell 1; have e2 := bR2.cell 2; have e3 := bR2.cell 3
            simp at e0 e1 e2 e3
            have f0 := bR2.frozen 0
            have f1 := bR2.frozen 1
            have f2 := bR2.frozen 2
            have f3 := bR2.frozen 3
            have le := bR2.lt
            obtain ⟨W, hW, -, hsz, hbW, -, hkW⟩ := box_put (x := y) (a := a2) (c := c2) bR2 (Keep.refl (fun _ => True) _) trivial
            have z0 := hbW.cell 0; have z1 := hbW.cell 1; have z2 := hbW.cell 2; have z3 := hbW.cell 3
            rw [hW] at z0 z1 z2 z3
            simp at z0 z1 z2 z3
            have hE := hfinal W hsz hkW
            rw [hW] at hE
            have HE := Lib.hid hE; clear hE
            clear hW hsz hbW hkW hfinal bR2 hfr k2 HFL HAN
            go_wp2_with fail
            have hy := HY.out.1
            subst hy
            exact bodyPost_ret (v := .tuple #[.slice ua ps.length uc, .agg #[.int .i64 t.tree.items.2.tm.k, .string (str t.tree.items.2.tm.nm), .int .i64 t.tree.items.2.tm.i, .slice a2 t.tree.items.2.tm.args.length c2]]) (by simp [results, Tryz.results58, go_sem, z0, z1, z2, z3]) rfl ⟨_, ps, a2, c2, rfl, HE.out.1, HE.out.2.1, (by first | exact HE.out.2.2.1 | exact fun x1 x2 x3 h => HE.out.2.2.1 (x1, x2, x3) h), HE.out.2.2.2⟩
          · have hne0 : ¬ (str cur.nm).toList = [46] := by
              rw [ByteArray.toList_eq, str_data]
              exact hn
            have hne : ((str cur.nm).toList == [46]) = false := by simpa using hne0
            have hAN := HAN.out
            unfold tv at hAN
            rw [hk] at hAN
            replace HAN := Lib.hid hAN
            clear hgo hAN
            go_wp2_with fail
            refine HAN.out.mono ?_
            rintro e w2 ⟨a2, c2, rfl, hfr, k2⟩
            obtain ⟨bR2, hfinal⟩ := HFL.out w2 k2 a2 c2 hfr
            have e0 := bR2.cell 0; have e1 := bR2.cell 1; have e2 := bR2.cell 2; have e3 := bR2.cell 3
            simp at e0 e1 e2 e3
            have f0 := bR2.frozen 0
            have f1 := bR2.frozen 1
            have f2 := bR2.frozen 2
            have f3 := bR2.frozen 3
            have le := bR2.lt
            obtain ⟨W, hW, -, hsz, hbW, -, hkW⟩ := box_put (x := y) (a := a2) (c := c2) bR2 (Keep.refl (fun _ => True) _) trivial
            have z0 := hbW.cell 0; have z1 := hbW.cell 1; have z2 := hbW.cell 2; have z3 := hbW.cell 3
            rw [hW] at z0 z1 z2 z3
            simp at z0 z1 z2 z3
            have hE := hfinal W hsz hkW
            rw [hW] at hE
            have HE := Lib.hid hE; clear hE
            clear hW hsz hbW hkW hfinal bR2 hfr k2 HFL HAN
            go_wp2_with fail
            have hy := HY.out.1
            subst hy
            exact bodyPost_ret (v := .tuple #[.slice ua ps.length uc, .agg #[.int .i64 t.tree.items.2.tm.k, .string (str t.tree.items.2.tm.nm), .int .i64 t.tree.items.2.tm.i, .slice a2 t.tree.items.2.tm.args.length c2]]) (by simp [results, Tryz.results58, go_sem, z0, z1, z2, z3]) rfl ⟨_, ps, a2, c2, rfl, HE.out.1, HE.out.2.1, (by first | exact HE.out.2.2.1 | exact fun x1 x2 x3 h => HE.out.2.2.1 (x1, x2, x3) h), HE.out.2.2.2⟩
        · clear hgo
          go_wp2_with fail
          refine HAN.out.mono ?_
          rintro e w2 ⟨a2, c2, rfl, hfr, k2⟩
          obtain ⟨bR2, hfinal⟩ := HFL.out w2 k2 a2 c2 hfr
          have e0 := bR2.cell 0; have e1 := bR2.cell 1; have e2 := bR2.cell 2; have e3 := bR2.cell 3
          simp at e0 e1 e2 e3
          have f0 := bR2.frozen 0
          have f1 := bR2.frozen 1
          have f2 := bR2.frozen 2
          have f3 := bR2.frozen 3
          have le := bR2.lt
          obtain ⟨W, hW, -, hsz, hbW, -, hkW⟩ := box_put (x := y) (a := a2) (c := c2) bR2 (Keep.refl (fun _ => True) _) trivial
          have z0 := hbW.cell 0; have z1 := hbW.cell 1; have z2 := hbW.cell 2; have z3 := hbW.cell 3
          rw [hW] at z0 z1 z2 z3
          simp at z0 z1 z2 z3
          have hE := hfinal W hsz hkW
          rw [hW] at hE
          have HE := Lib.hid hE; clear hE
          clear hW hsz hbW hkW hfinal bR2 hfr k2 HFL HAN
          go_wp2_with fail
          have hy := HY.out.1
          subst hy
          exact bodyPost_ret (v := .tuple #[.slice ua ps.length uc, .agg #[.int .i64 t.tree.items.2.tm.k, .string (str t.tree.items.2.tm.nm), .int .i64 t.tree.items.2.tm.i, .slice a2 t.tree.items.2.tm.args.length c2]]) (by simp [results, Tryz.results58, go_sem, z0, z1, z2, z3]) rfl ⟨_, ps, a2, c2, rfl, HE.out.1, HE.out.2.1, (by first | exact HE.out.2.2.1 | exact fun x1 x2 x3 h => HE.out.2.2.1 (x1, x2, x3) h), HE.out.2.2.2⟩
end
end Go.Proofs.YtfkbbbjicaedmaaGreatDoor
