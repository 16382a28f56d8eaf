/-
  Joined texts (Tm18, Tm19, Tm20, Tm21, Tm22, Tm23). No condition.
-/
import Derived.Test.YtnfcbalppecnfaaGreatPMA
import Derived.Test.YtnfcbalppecnfaaGreatPMB
import Derived.Test.YtnfcbalppecnfaaGreatPMC
import Derived.Maps.OwnSet
import Derived.Carry
import Derived.Deep.AppendLies
namespace Go.Proofs.YtnfcbalppecnfaaGreat
open Go.RowKit Go.Maps
set_option linter.unusedVariables false
set_option linter.unusedSimpArgs false
theorem right_of {t : Tm} : t.right = true ↔ t.Right := Tm.right_iff t
theorem TmAt.on {w W : World} {t : Tm} {a : Option Addr} {c : Nat} (h : TmAt w.heap.size w t a c) (hk : Keep (fun g => g < w.heap.size) w W) : TmAt W.heap.size W t a c := (h.keepX hk (fun _ h => h)).up hk.size
theorem Keep.onto {w W V : World} (h : Keep (fun g => g < w.heap.size) w W) (k : Keep (fun g => g < W.heap.size) W V) : Keep (fun g => g < w.heap.size) w V := h.trans (k.less (fun g hg => Nat.lt_of_lt_of_le hg h.size))
section
variable {w : World} {t u : Tm} {a b : Option Addr} {c d : Nat}
def sameV (t u : Tm) : Bool := t.right && u.right && (t.tree.cmp u.tree == 0)
theorem two_boxes (hT : TmAt w.heap.size w t a c) (hU : TmAt w.heap.size w u b d) : Keep (fun g => g < w.heap.size) w ((w.alloc (tb t a c)).alloc (tb u b d)) ∧
    ∀ W, Keep (fun g => g < ((w.alloc (tb t a c)).alloc (tb u b d)).heap.size) ((w.alloc (tb t a c)).alloc (tb u b d)) W →
      Keep (fun g => g < w.heap.size) w W ∧ Blk W w.heap.size 28 #[.int .i64 t.k, .string (str t.nm), .int .i64 t.i, .slice a t.args.length c] ∧ Blk W (w.heap.size + 1) 28 #[.int .i64 u.k, .string (str u.nm), .int .i64 u.i, .slice b u.args.length d] ∧
      TmAt W.heap.size W t a c ∧ TmAt W.heap.size W u b d := by
  have k0 : Keep (fun g => g < w.heap.size) w ((w.alloc (tb t a c)).alloc (tb u b d)) := ((Keep.refl _ w).alloc _).alloc _
  refine ⟨k0, fun W hW => ?_⟩
  have k1 := k0.onto hW
  have bx := (Blk.new w 28 #[.int .i64 t.k, .string (str t.nm), .int .i64 t.i, .slice a t.args.length c]).alloc (tb u b d)
  have by_ := Blk.new (w.alloc (tb t a c)) 28 #[.int .i64 u.k, .string (str u.nm), .int .i64 u.i, .slice b u.args.length d]
  rw [World.size_alloc] at by_
  exact ⟨k1, bx.keep hW (by simp; omega), by_.keep hW (by simp), hT.on k1, hU.on k1⟩
end
abbrev ik (k : Int) : Lit := .int .i64 k
theorem ik_ne {a b : Int} (h : a ≠ b) : ik a ≠ ik b := fun e => h (by injection e)
theorem ik_key (k : Int) : WideAt.IsKeyLit (ik k) := by simp [WideAt.IsKeyLit]
theorem law2 : Keyed Tryz.prog 2 := int_keyed Tryz.underlying2
def slotElem (v : Value) : Option (DataW Value × List MemPlace) := some (.held v, [])
structure MapI (w : World) (mb : Nat) (z : Value) (f : Int → Option Value) (n : Nat) : Prop where
  own : ∃ D : DataW Value, w.ownsMap Tryz.prog 2 slotElem mb (Maps.size D) D ∧ Maps.size D = n ∧ ∀ k : Int, D.atKey (ik k) (.held z) = .held ((f k).getD z) ∧ Maps.has D (ik k) = (f k).isSome
section
variable {w w' : World} {mb n : Nat} {z : Value} {f : Int → Option Value} {X : Nat → Prop}
theorem MapI.lt (h : MapI w mb z f n) : mb < w.heap.size := by obtain ⟨D, o, _⟩ := h.own; exact o.lt
theorem MapI.keep (h : MapI w mb z f n) (hk : Keep X w w') (hX : X mb) : MapI w' mb z f n := by
  have hlt := h.lt
  obtain ⟨D, ⟨es, clock, hb, r⟩, r2⟩ := h.own
  exact ⟨⟨D, ⟨es, clock, (hk.block mb hlt hX).trans hb, r⟩, r2⟩⟩
theorem MapI.ne_blk (h : MapI w mb z f n) {g : Nat} {t : TypeId} {cs : Array Value} (hg : Blk w g t cs) : mb ≠ g := by
  obtain ⟨D, o, _⟩ := h.own
  rintro rfl
  obtain ⟨es, clock, hb, _⟩ := o
  unfold Blk at hg
  rw [hb] at hg
  injection hg with hg
  cases hg
theorem own_tight {b n : Nat} {D : DataW Value} (h : w.ownsMap Tryz.prog 2 slotElem b n D) : w.ownsMap Tryz.prog 2 slotElem b (Maps.size D) D := by
  obtain ⟨es, clock, hb, F, hs, rfl⟩ := h
  exact ⟨es, clock, hb, F, by simp [Maps.size, length_sorted], rfl⟩
theorem MapI.look {tm e : TypeId} (h : MapI w mb z f n) (ht : Tryz.prog.underlying tm = some (.map 2 e)) (hz : (zeroValue e).run Tryz.prog w = .ok z w) {k : Int} (hk : (ik k).wf = true) :
    (Instr.lookup tm (.map (some mb)) (.int .i64 k) true).run Tryz.prog w = .ok (.tuple #[(f k).getD z, .bool (f k).isSome]) w := by
  obtain ⟨D, o, _, hat⟩ := h.own
  obtain ⟨v, ps, hrun, hv⟩ := o.look_ok law2 ht hz (zd := .held z) (zp := []) rfl (keyOf_int_mk Tryz.underlying2 hk)
  rw [(hat k).1] at hv
  unfold slotElem at hv
  simp only [Option.some.injEq, Prod.mk.injEq, DataW.held.injEq] at hv
  rw [hv.1, (hat k).2] at hrun
  exact hrun
theorem MapI.len {tm e : TypeId} (h : MapI w mb z f n) (ht : Tryz.prog.underlying tm = some (.map 2 e)) (ty : TypeId) : (Builtin.len_ #[tm] ty #[.map (some mb)]).run Tryz.prog w = .ok (.int .i64 n) w := by
  obtain ⟨D, o, hs, _⟩ := h.own
  have := o.len ht ty
  rwa [hs] at this
theorem MapI.store {tm e : TypeId} (h : MapI w mb z f n) (ht : Tryz.prog.underlying tm = some (.map 2 e)) (hn : n < maxLen) {k : Int} (hk : (ik k).wf = true) (v : Value) :
    ∃ w', (Instr.mapUpdate tm (.map (some mb)) (.int .i64 k) v).run Tryz.prog w = .ok () w' ∧ MapI w' mb z (fun j => if j = k then some v else f j) (if (f k).isSome = true then n else n + 1) ∧ w.mapTurned w' mb := by
  obtain ⟨D, own, hs, hat⟩ := h.own
  obtain ⟨w', hrun, o', ht'⟩ := own.store law2 ht (by omega) (keyOf_int_mk Tryz.underlying2 hk) (val := v) (d := .held v) (ps := []) rfl
  refine ⟨w', hrun, ⟨_, own_tight o', ?_, fun m => ?_⟩, ht'⟩
  · rw [size_put (own.tidy law2), (hat k).2, hs]
  · by_cases hm : m = k
    · subst hm
      rw [if_pos rfl, atKey_put_same own.isMap (ik_key _), has_put_same own.isMap (ik_key _)]
      exact ⟨rfl, rfl⟩
    · rw [if_neg hm, atKey_put_other (ik_ne hm), has_put_other (ik_ne hm)]
      exact hat m
theorem MapI.made (w : World) (z : Value) : MapI (w.alloc (.map #[] 0)) w.heap.size z (fun _ => none) 0 :=
  ⟨⟨.map [], World.ownsMap_made w Tryz.prog _ slotElem, rfl, fun k => ⟨rfl, rfl⟩⟩⟩
end
end Go.Proofs.YtnfcbalppecnfaaGreat
namespace Go.Proofs.YtnfcbalppecnfaaGreat
open Go.RowKit Go.Maps
set_option linter.unusedVariables false
set_option linter.unusedSimpArgs false
structure RenI (B0 : Nat) (m : Int) (V : List Int) (mb bn bf : Nat) (l : List Int) (P : Nat → Prop) (w : World) : Prop where
  map : MapI w mb (.int .i64 0) (fun x => if x ∈ l then some (.int .i64 (m + idx l x)) else none) l.length
  hbn : Blk w bn 85 #[.map (some mb)]
  hbf : Blk w bf 2 #[.int .i64 m]
  own : ∀ g, P g ↔ g = mb ∨ g = bn ∨ g = bf
  low : B0 ≤ mb ∧ B0 ≤ bn ∧ B0 ≤ bf
  nd : l.Nodup
  sub : ∀ x ∈ l, x ∈ V
theorem nodup_sub_len : ∀ {l V : List Int}, l.Nodup → (∀ x ∈ l, x ∈ V) → l.length ≤ V.length := by
  intro l
  induction l with
  | nil => intro V _ _; simp
  | cons a l ih =>
    intro V hn hs
    obtain ⟨h1, h2⟩ := List.nodup_cons.1 hn
    have ha := hs a List.mem_cons_self
    have := ih (V := V.erase a) h2 (fun x hx => by
      have hxa : x ≠ a := fun e => h1 (e ▸ hx)
      exact (List.mem_erase_of_ne hxa).2 (hs x (List.mem_cons_of_mem _ hx)))
    rw [List.length_erase_of_mem ha] at this
    have hp : 0 < V.length := List.length_pos_of_mem ha
    simp; omega
theorem box_fin {w w1 w2 : World} {J : World → Prop} {x : Tm} {a : Option Addr} {c : Nat} (hb : Blk w1 w.heap.size 28 #[.int .i64 0, .string ⟨#[]⟩, .int .i64 0, .slice none 0 0]) (hk : Keep (fun g => g < w1.heap.size) w1 w2)
    (hJ : ∀ W, Keep (fun g => g < w1.heap.size ∧ g ≠ w.heap.size) w1 W → J W) :
    ∃ W, W = ((((w2.setCell ⟨w.heap.size, 0, none⟩ (.int .i64 x.k)).setCell ⟨w.heap.size, 1, none⟩ (.string (str x.nm))).setCell ⟨w.heap.size, 2, none⟩ (.int .i64 x.i)).setCell ⟨w.heap.size, 3, none⟩ (.slice a x.args.length c)) ∧ J W ∧ Keep (fun g => g < w1.heap.size ∧ g ≠ w.heap.size) w1 W ∧
      Blk W w.heap.size 28 #[.int .i64 x.k, .string (str x.nm), .int .i64 x.i, .slice a x.args.length c] ∧ Blk w2 w.heap.size 28 #[.int .i64 0, .string ⟨#[]⟩, .int .i64 0, .slice none 0 0] := by
  have hb2 := hb.keep hk hb.lt
  have hkf : Keep (fun g => g < w1.heap.size ∧ g ≠ w.heap.size) w1 ((((w2.setCell ⟨w.heap.size, 0, none⟩ (.int .i64 x.k)).setCell ⟨w.heap.size, 1, none⟩ (.string (str x.nm))).setCell ⟨w.heap.size, 2, none⟩ (.int .i64 x.i)).setCell ⟨w.heap.size, 3, none⟩ (.slice a x.args.length c)) := (hk.less (fun g hg => hg.1)).set4 (o := 0) (fun h => h.2 rfl)
  exact ⟨_, rfl, hJ _ hkf, hkf, hb2.set4, hb2⟩
set_option maxRecDepth 100000 in
set_option maxHeartbeats 4000000 in
theorem put_ren {B0 : Nat} {m : Int} {V : List Int} {mb bn bf : Nat} (hm1 : 1 ≤ m) (hm2 : m ≤ 4611686018427387904) (hV : V.length ≤ 2000) : PutC (fRen m) 0 B0 45 #[.pointer (some ⟨bn, 0, none⟩), .pointer (some ⟨bf, 0, none⟩)] (RenI B0 m V mb bn bf) (fun _ x => x ∈ V) where
  enter := fun args w => enters_of Tryz.func45 (by kernel_rfl) rfl args w
  frame := fun l P w w' h hk => ⟨h.map.keep hk (.inl ((h.own _).2 (.inl rfl))), h.hbn.keep hk (.inl ((h.own _).2 (.inr (.inl rfl)))), h.hbf.keep hk (.inl ((h.own _).2 (.inr (.inr rfl)))), h.own, h.low, h.nd, h.sub⟩
  lt := fun l P w h g hg => by rcases (h.own g).1 hg with rfl | rfl | rfl; exact h.map.lt; exact h.hbn.lt; exact h.hbf.lt
  old := fun l P w h g hg hp => by obtain ⟨h1, h2, h3⟩ := h.low; rcases (h.own g).1 hp with rfl | rfl | rfl <;> omega
  le := Nat.zero_le _
  call := by
    intro l P w v h hB hwf hv1 hvV
    have hlen := nodup_sub_len h.nd h.sub
    have hw0 : Keep (fun g => g < w.heap.size) w (w.alloc zb) := (Keep.refl _ w).alloc zb
    have hm0 : MapI (w.alloc zb) mb (.int .i64 0) (fun x => if x ∈ l then some (.int .i64 (m + idx l x)) else none) l.length := h.map.keep hw0 h.map.lt
    have hlk := hm0.look Tryz.underlying85 (by kernel_rfl) hwf
    have c1 := h.hbn.cell 0
    have c2 := h.hbf.cell 0
    have l1 := h.hbn.lt
    have l2 := h.hbf.lt
    simp at c1 c2
    show Calls _ _ #[.int .i64 v, .pointer (some ⟨bn, 0, none⟩), .pointer (some ⟨bf, 0, none⟩)] w _
    by_cases hmem : v ∈ l
    · have hf : fRen m l v = (.node 1 [] (m + idx l v) [], l) := by unfold fRen; rw [if_pos hmem]
      rw [hf]
      simp only [if_pos hmem, Option.getD_some, Option.isSome_some] at hlk
      have hi := (idx_mem hmem).1
      have hvar := fun W => variable_any W (m + idx l v)
      have hbx := Blk.new w 28 #[.int .i64 0, .string ⟨#[]⟩, .int .i64 0, .slice none 0 0]
      have hJ : ∀ W, Keep (fun g => g < (w.alloc zb).heap.size ∧ g ≠ w.heap.size) (w.alloc zb) W → RenI B0 m V mb bn bf l P W ∧ Keep (fun g => ¬ P g) w W := fun W hW => by
        have h1 : Keep (fun g => g < w.heap.size) w W := hw0.trans (hW.less (fun g hg => ⟨by simp; omega, by omega⟩))
        exact ⟨⟨h.map.keep h1 h.map.lt, h.hbn.keep h1 h.hbn.lt, h.hbf.keep h1 h.hbf.lt, h.own, h.low, h.nd, h.sub⟩, h1.all⟩
      have HJ := Lib.hid hJ; clear hJ
      have HBX := Lib.hid hbx; clear hbx
      have hwx : Hid ((ik (m + idx l v)).wf = true) := Lib.hid (by simp [Lit.wf, IntKind.min, IntKind.max, IntKind.bits, IntKind.signed]; omega)
      generalize m + (idx l v : Int) = x at *
      have HVAR := Lib.hid hvar; clear hvar
      clear h hm0 hf hi hmem
      go_enter Tryz.func45, Tryz.ntmps45
      go_wp2_with fail
      refine (HVAR.out _).mono ?_
      rintro e w2 ⟨rfl, hk2⟩
      obtain ⟨W, hW, hJW, hkW, hbW, hb2⟩ := box_fin (x := .node 1 [] x []) (a := none) (c := 0) HBX.out hk2 HJ.out
      have f0 := hb2.frozen 0
      have f1 := hb2.frozen 1
      have f2 := hb2.frozen 2
      have f3 := hb2.frozen 3
      have d0 := hb2.cell 0
      have d1 := hb2.cell 1
      have d2 := hb2.cell 2
      have d3 := hb2.cell 3
      simp at d0 d1 d2 d3
      have g0 := hbW.cell 0
      have g1 := hbW.cell 1
      have g2 := hbW.cell 2
      have g3 := hbW.cell 3
      rw [hW] at g0 g1 g2 g3
      simp [Tm.k, Tm.nm, Tm.i, Tm.args] at g0 g1 g2 g3
      have HE := Lib.hid hJW; clear hJW
      have HW := Lib.hid hW; clear hW
      clear hkW hbW hb2 hk2 HVAR HJ HBX
      go_wp2_with fail
      refine bodyPost_ret (v := .agg #[.int .i64 1, .string ⟨#[]⟩, .int .i64 x, .slice none 0 0]) (by simp [results, Tryz.results45, go_sem, Tm.k, Tm.nm, Tm.i, Tm.args, g0, g1, g2, g3]; rfl) rfl ⟨none, 0, P, rfl, tm_leaf (by decide) hwx.out (by simp), ?_, ?_, fun g hg => .inl hg⟩
      · rw [← HW.out]; exact HE.out.1
      · rw [← HW.out]; exact HE.out.2
    · have hf : fRen m l v = (.node 1 [] (m + l.length) [], l ++ [v]) := by unfold fRen; rw [if_neg hmem]
      rw [hf]
      simp only [if_neg hmem, Option.getD_none, Option.isSome_none] at hlk
      have hnd2 : (l ++ [v]).Nodup := List.nodup_append.2 ⟨h.nd, by simp, fun a ha b hb => by simp at hb; subst hb; exact fun e => hmem (e ▸ ha)⟩
      have hsub2 : ∀ x ∈ l ++ [v], x ∈ V := fun x hx => by rcases List.mem_append.1 hx with hx | hx; exact h.sub x hx; (simp at hx; exact hx ▸ hvV)
      have hlen2 := nodup_sub_len hnd2 hsub2
      have hln := fun ty => hm0.len Tryz.underlying85 ty
      have hvar := fun W => variable_any W (m + l.length)
      have hwrap : IntKind.i64.wrap (m + (l.length : Int)) = m + (l.length : Int) := by rw [IntKind.wrap_i64]; omega
      have hbx := Blk.new w 28 #[.int .i64 0, .string ⟨#[]⟩, .int .i64 0, .slice none 0 0]
      obtain ⟨w3, hst, hm3, ht3⟩ := hm0.store Tryz.underlying85 (by unfold maxLen; omega) hwf (.int .i64 (m + (l.length : Int)))
      have hfe : (fun j => if j = v then some (Value.int .i64 (m + (l.length : Int))) else if j ∈ l then some (.int .i64 (m + idx l j)) else none) = (fun x => if x ∈ l ++ [v] then some (.int .i64 (m + idx (l ++ [v]) x)) else none) := by
        funext j
        by_cases hj : j = v
        · subst hj
          rw [if_pos rfl, if_pos (by simp), idx_new hmem]
        · rw [if_neg hj]
          by_cases hjl : j ∈ l
          · rw [if_pos hjl, if_pos (by simp [hjl]), (idx_mem hjl).2 [v]]
          · rw [if_neg hjl, if_neg (by simp [hjl, hj])]
      rw [hfe] at hm3
      rw [if_neg (by simp [hmem])] at hm3
      have hkt : Keep (fun g => g ≠ mb) (w.alloc zb) w3 := (Keep.refl _ _).turned ht3 (fun hh => hh rfl)
      have hbx3 := hbx.keep hkt (by have := h.map.lt; omega)
      have nbn : bn ≠ mb := (h.map.ne_blk h.hbn).symm
      have nbf : bf ≠ mb := (h.map.ne_blk h.hbf).symm
      have hkt0 : Keep (fun g => g < w.heap.size ∧ g ≠ mb) w w3 := (hw0.less (fun g hg => hg.1)).trans (hkt.less (fun g hg => hg.2))
      have hz3 := hkt.size
      simp only [World.size_alloc] at hz3
      have hbn3 := h.hbn.keep hkt0 ⟨h.hbn.lt, nbn⟩
      have hbf3 := h.hbf.keep hkt0 ⟨h.hbf.lt, nbf⟩
      have hJ : ∀ W, Keep (fun g => g < w3.heap.size ∧ g ≠ w.heap.size) w3 W → RenI B0 m V mb bn bf (l ++ [v]) P W ∧ Keep (fun g => ¬ P g) w W := fun W hW => by
        have hmb := h.map.lt
        refine ⟨⟨?_, hbn3.keep hW ⟨hbn3.lt, by have := h.hbn.lt; omega⟩, hbf3.keep hW ⟨hbf3.lt, by have := h.hbf.lt; omega⟩, h.own, h.low, hnd2, hsub2⟩, ?_⟩
        · have := hm3.keep hW ⟨hm3.lt, by omega⟩
          simpa using this
        · refine ⟨hW.os.trans hkt0.os, hW.tape.trans hkt0.tape, hW.output.trans hkt0.output, Nat.le_trans hkt0.size hW.size, fun g hg hx => ?_⟩
          have : g ≠ mb := fun e => hx ((h.own g).2 (.inl e))
          rw [hW.block g (by omega) ⟨by omega, by omega⟩, hkt0.block g hg ⟨hg, this⟩]
      have HJ := Lib.hid hJ; clear hJ
      have HBX := Lib.hid hbx3; clear hbx3
      have hwx : Hid ((ik (m + (l.length : Int))).wf = true) := Lib.hid (by simp [Lit.wf, IntKind.min, IntKind.max, IntKind.bits, IntKind.signed]; omega)
      clear hbx hm3 hfe ht3 hkt hkt0 hbn3 hbf3 h hm0 hf hnd2 hsub2 hlen2 nbn nbf
      generalize l.length = n at *
      have HVAR := Lib.hid hvar; clear hvar
      go_enter Tryz.func45, Tryz.ntmps45
      go_wp2_with fail
      refine (HVAR.out _).mono ?_
      rintro e w2 ⟨rfl, hk2⟩
      obtain ⟨W, hW, hJW, hkW, hbW, hb2⟩ := box_fin (x := .node 1 [] (m + (n : Int)) []) (a := none) (c := 0) HBX.out hk2 HJ.out
      have f0 := hb2.frozen 0
      have f1 := hb2.frozen 1
      have f2 := hb2.frozen 2
      have f3 := hb2.frozen 3
      have d0 := hb2.cell 0
      have d1 := hb2.cell 1
      have d2 := hb2.cell 2
      have d3 := hb2.cell 3
      simp at d0 d1 d2 d3
      have g0 := hbW.cell 0
      have g1 := hbW.cell 1
      have g2 := hbW.cell 2
      have g3 := hbW.cell 3
      rw [hW] at g0 g1 g2 g3
      simp [Tm.k, Tm.nm, Tm.i, Tm.args] at g0 g1 g2 g3
      have HE := Lib.hid hJW; clear hJW
      have HW := Lib.hid hW; clear hW
      clear hkW hbW hb2 hk2 HVAR HJ HBX
      go_wp2_with fail
      refine bodyPost_ret (v := .agg #[.int .i64 1, .string ⟨#[]⟩, .int .i64 (m + (n : Int)), .slice none 0 0]) (by simp [results, Tryz.results45, go_sem, Tm.k, Tm.nm, Tm.i, Tm.args, g0, g1, g2, g3]; rfl) rfl ⟨none, 0, P, rfl, tm_leaf (by decide) hwx.out (by simp), ?_, ?_, fun g hg => .inl hg⟩
      · rw [← HW.out]; exact HE.out.1
      · rw [← HW.out]; exact HE.out.2
end Go.Proofs.YtnfcbalppecnfaaGreat
namespace Go.Proofs.YtnfcbalppecnfaaGreat
open Go.RowKit Go.Maps
set_option linter.unusedVariables false
set_option linter.unusedSimpArgs false
theorem T.acc_len : ∀ (t : T) (l : List Int), (t.acc l).length ≤ l.length + t.ns := by
  intro t
  induction t using T.ind with
  | hv x => intro l; rw [T.acc_v]; split <;> simp [T.ns]
  | hn i => intro l; rw [T.acc_n]; omega
  | ha nm => intro l; rw [T.acc_a]; omega
  | hc nm args ih =>
    intro l
    rw [T.acc_c, T.ns_c]
    have go : ∀ ts : List T, (∀ x ∈ ts, ∀ l, (x.acc l).length ≤ l.length + x.ns) → ∀ l, (accL ts l).length ≤ l.length + nsT ts := by
      intro ts
      induction ts with
      | nil => intro _ l; rw [accL_nil]; omega
      | cons y ys ih2 =>
        intro h l
        rw [accL_cons, nsT_cons]
        have h1 := h y List.mem_cons_self l
        have h2 := ih2 (fun x hx => h x (List.mem_cons_of_mem _ hx)) (y.acc l)
        omega
    have := go args ih l
    omega
theorem T.vars_len (t : T) : t.vars.length ≤ t.ns := by have := t.acc_len []; simpa [T.vars] using this
def rnV (t : Tm) (m : Int) : Tm × Int × Int := if t.right = true then (if 1 ≤ m ∧ m ≤ 4611686018427387904 then ((t.tree.ren m).tm, m + t.tree.vars.length, 0) else (.node 0 [] 0 [], 0, 1)) else (.node 0 [] 0 [], 0, 70)
theorem Keep.onto2 {w W V : World} {n : Nat} (h : Keep (fun g => g < w.heap.size) w W) (k : Keep (fun g => g < W.heap.size) W V) (_ : W.heap.size = w.heap.size + n) : Keep (fun g => g < w.heap.size) w V := h.onto k
theorem box_put {w1 w2 : World} {g : Nat} {X : Nat → Prop} {x : Tm} {a : Option Addr} {c : Nat} (hb : Blk w1 g 28 #[.int .i64 0, .string ⟨#[]⟩, .int .i64 0, .slice none 0 0]) (hk : Keep X w1 w2) (hg : X g) :
    ∃ W, W = ((((w2.setCell ⟨g, 0, none⟩ (.int .i64 x.k)).setCell ⟨g, 1, none⟩ (.string (str x.nm))).setCell ⟨g, 2, none⟩ (.int .i64 x.i)).setCell ⟨g, 3, none⟩ (.slice a x.args.length c)) ∧ Keep (fun k => X k ∧ k ≠ g) w1 W ∧ W.heap.size = w2.heap.size ∧
      Blk W g 28 #[.int .i64 x.k, .string (str x.nm), .int .i64 x.i, .slice a x.args.length c] ∧ Blk w2 g 28 #[.int .i64 0, .string ⟨#[]⟩, .int .i64 0, .slice none 0 0] ∧ Keep (fun k => k ≠ g) w2 W := by
  have hb2 := hb.keep hk hg
  exact ⟨_, rfl, (hk.less (fun k hk => hk.1)).set4 (o := 0) (fun h => h.2 rfl), by simp [World.setCell], hb2.set4, hb2, (Keep.refl _ w2).set4 (o := 0) (fun h => h rfl)⟩
section
variable {w : World} {t : Tm} {a : Option Addr} {c : Nat} {m : Int}
set_option maxRecDepth 100000 in
set_option maxHeartbeats 4000000 in
theorem Rename_any (hT : TmAt w.heap.size w t a c) (hm : (ik m).wf = true) :
    Calls Tryz.prog 30 #[tv t a c, .int .i64 m] w fun e w' => ∃ a' c', e = .returned (.tuple #[tv (rnV t m).1 a' c', .int .i64 (rnV t m).2.1, .int .i64 (rnV t m).2.2]) ∧
      Fr 0 (fun _ => False) w' w.heap.size w'.heap.size (rnV t m).1 a' c' ∧ Keep (fun g => g < w.heap.size) w w' := by
  -- the boxes
  have k0 : Keep (fun g => g < w.heap.size) w (((w.alloc (tb t a c)).alloc (.cells #[.int .i64 m] 2)).alloc zb) := (((Keep.refl _ w).alloc _).alloc _).alloc _
  have b0 := ((Blk.new w 28 #[.int .i64 t.k, .string (str t.nm), .int .i64 t.i, .slice a t.args.length c]).alloc (.cells #[.int .i64 m] 2)).alloc zb
  have b1 := (Blk.new (w.alloc (tb t a c)) 2 #[.int .i64 m]).alloc zb
  have b2 := Blk.new ((w.alloc (tb t a c)).alloc (.cells #[.int .i64 m] 2)) 28 #[.int .i64 0, .string ⟨#[]⟩, .int .i64 0, .slice none 0 0]
  obtain ⟨w0, hw0⟩ : ∃ w0, w0 = (((w.alloc (tb t a c)).alloc (.cells #[.int .i64 m] 2)).alloc zb) := ⟨_, rfl⟩
  have hz0 : w0.heap.size = w.heap.size + 3 := by rw [hw0]; simp
  simp only [World.size_alloc, ← hw0] at k0 b0 b1 b2
  have hR := isRight_any (hT.on k0)
  have K0 := Lib.hid (And.intro k0 (And.intro b0 (And.intro b1 b2)))
  clear k0 b0 b1 b2
  have HR := Lib.hid hR; clear hR
  have HT := Lib.hid hT; clear hT
  have HZ := Lib.hid hz0
  unfold tv
  obtain ⟨ov, hov⟩ : ∃ ov, ov = rnV t m := ⟨_, rfl⟩
  rw [← hov]
  unfold rnV at hov
  have HOV := Lib.hid hov; clear hov
  obtain ⟨r, hr⟩ : ∃ r, r = t.right := ⟨_, rfl⟩
  rw [← hr] at HR HOV
  have Hr := Lib.hid hr; clear hr
  unfold tb at hw0
  have HW0 := Lib.hid hw0; clear hw0
  go_enter Tryz.func30, Tryz.ntmps30
  go_wp2_with fail
  rw [← HW0.out]
  refine HR.out.mono ?_
  rintro e w1 ⟨rfl, k1⟩
  obtain ⟨kk0, bb0, bb1, bb2⟩ := K0.out
  have hz1 := k1.size
  have c0 := (bb0.keep k1 (by omega)).cell 0; have c1 := (bb0.keep k1 (by omega)).cell 1; have c2 := (bb0.keep k1 (by omega)).cell 2; have c3 := (bb0.keep k1 (by omega)).cell 3
  have d0 := (bb1.keep k1 (by omega)).cell 0
  simp at c0 c1 c2 c3 d0
  have bb3 := bb2.keep k1 (by omega)
  have f0 := bb3.frozen 0
  have f1 := bb3.frozen 1
  have f2 := bb3.frozen 2
  have f3 := bb3.frozen 3
  have e0 := bb3.cell 0; have e1 := bb3.cell 1; have e2 := bb3.cell 2; have e3 := bb3.cell 3
  simp at e0 e1 e2 e3
  have l0 : w.heap.size < w1.heap.size := by omega
  have l1 : w.heap.size + 1 < w1.heap.size := by omega
  have l2 : w.heap.size + 1 + 1 < w1.heap.size := by omega
  have BAD : Hid (∃ W, W = ((((w1.setCell ⟨w.heap.size + 1 + 1, 0, none⟩ (.int .i64 0)).setCell ⟨w.heap.size + 1 + 1, 1, none⟩ (.string ⟨#[]⟩)).setCell ⟨w.heap.size + 1 + 1, 2, none⟩ (.int .i64 0)).setCell ⟨w.heap.size + 1 + 1, 3, none⟩ (.slice none 0 0)) ∧ Keep (fun g => g < w.heap.size) w W ∧ Blk W (w.heap.size + 1 + 1) 28 #[.int .i64 0, .string ⟨#[]⟩, .int .i64 0, .slice none 0 0] ∧ Fr 0 (fun _ => False) W w.heap.size W.heap.size (.node 0 [] 0 []) none 0) := by
    obtain ⟨W, hW, hk, hsz, hb, -, -⟩ := box_put (x := .node 0 [] 0 []) (a := none) (c := 0) bb2 k1 (by omega)
    refine Lib.hid ⟨W, hW, kk0.trans (hk.less (fun g hg => ⟨by omega, by omega⟩)), hb, .old (tm_leaf (by decide) (by decide) (by simp)) (by omega)⟩
  have GOOD := Lib.hid (And.intro k1 (And.intro (kk0.onto2 k1 hz0) (And.intro (bb1.keep k1 (by omega)) bb3)))
  clear kk0 bb0 bb1 bb2 bb3 K0 HW0
  cases r with
  | false =>
    obtain ⟨W, hW, hkW, hbW, hfW⟩ := BAD.out
    have g0 := hbW.cell 0; have g1 := hbW.cell 1; have g2 := hbW.cell 2; have g3 := hbW.cell 3
    rw [hW] at g0 g1 g2 g3
    simp at g0 g1 g2 g3
    have HE := Lib.hid (And.intro hfW hkW); clear hfW hkW hbW BAD GOOD
    have HW := Lib.hid hW; clear hW
    go_wp2_with fail
    have hov := HOV.out
    rw [if_neg (by simp)] at hov
    subst hov
    refine bodyPost_ret (v := .tuple #[.agg #[.int .i64 0, .string ⟨#[]⟩, .int .i64 0, .slice none 0 0], .int .i64 0, .int .i64 70]) (by simp [results, Tryz.results30, go_sem, g0, g1, g2, g3]) rfl ⟨none, 0, rfl, ?_⟩
    rw [← HW.out]; exact HE.out
  | true =>
    by_cases h1 : m < 1
    · have hm2 : ¬ 1 ≤ m := by omega
      have HM := Lib.hid hm2; clear hm2
      obtain ⟨W, hW, hkW, hbW, hfW⟩ := BAD.out
      have g0 := hbW.cell 0; have g1 := hbW.cell 1; have g2 := hbW.cell 2; have g3 := hbW.cell 3
      rw [hW] at g0 g1 g2 g3
      simp at g0 g1 g2 g3
      have HE := Lib.hid (And.intro hfW hkW); clear hfW hkW hbW BAD GOOD
      have HW := Lib.hid hW; clear hW
      go_wp2_with fail
      have hov := HOV.out
      rw [if_pos (by simp), if_neg (fun h => by have := HM.out; omega)] at hov
      subst hov
      refine bodyPost_ret (v := .tuple #[.agg #[.int .i64 0, .string ⟨#[]⟩, .int .i64 0, .slice none 0 0], .int .i64 0, .int .i64 1]) (by simp [results, Tryz.results30, go_sem, g0, g1, g2, g3]) rfl ⟨none, 0, rfl, ?_⟩
      rw [← HW.out]; exact HE.out
    by_cases h2 : 4611686018427387904 < m
    · have hm2 : ¬ m ≤ 4611686018427387904 := by omega
      have HM := Lib.hid hm2; clear hm2
      obtain ⟨W, hW, hkW, hbW, hfW⟩ := BAD.out
      have g0 := hbW.cell 0; have g1 := hbW.cell 1; have g2 := hbW.cell 2; have g3 := hbW.cell 3
      rw [hW] at g0 g1 g2 g3
      simp at g0 g1 g2 g3
      have HE := Lib.hid (And.intro hfW hkW); clear hfW hkW hbW BAD GOOD
      have HW := Lib.hid hW; clear hW
      go_wp2_with fail
      have hov := HOV.out
      rw [if_pos (by simp), if_neg (fun h => by have := HM.out; omega)] at hov
      subst hov
      refine bodyPost_ret (v := .tuple #[.agg #[.int .i64 0, .string ⟨#[]⟩, .int .i64 0, .slice none 0 0], .int .i64 0, .int .i64 1]) (by simp [results, Tryz.results30, go_sem, g0, g1, g2, g3]) rfl ⟨none, 0, rfl, ?_⟩
      rw [← HW.out]; exact HE.out
    have hmm := @run_makeMap Tryz.prog
    have hright := right_of.1 Hr.out.symm
    have hvl : t.tree.vars.length ≤ 2000 := Nat.le_trans t.tree.vars_len (Tm.tree_right hright).2.1
    obtain ⟨kk1, kk0, bb1, bb2⟩ := GOOD.out
    obtain ⟨W2, hW2⟩ : ∃ W2, W2 = (w1.alloc (.map #[] 0)).alloc (.cells #[.map (some w1.heap.size)] 85) := ⟨_, rfl⟩
    have hz2 : W2.heap.size = w1.heap.size + 2 := by rw [hW2]; simp
    have kk2 : Keep (fun g => g < w1.heap.size) w1 W2 := by rw [hW2]; exact ((Keep.refl _ w1).alloc _).alloc _
    have hI : RenI w.heap.size m t.tree.vars w1.heap.size (w1.heap.size + 1) (w.heap.size + 1) [] (fun g => g = w1.heap.size ∨ g = w1.heap.size + 1 ∨ g = w.heap.size + 1) W2 := by
      refine ⟨?_, ?_, bb1.keep kk2 l1, fun g => Iff.rfl, ⟨by omega, by omega, by omega⟩, List.nodup_nil, by simp⟩
      · have hmd := (MapI.made w1 (.int .i64 0)).keep (X := fun _ => True) (w' := W2) (by rw [hW2]; exact (Keep.refl _ _).alloc _) trivial
        simpa using hmd
      · have := Blk.new (w1.alloc (.map #[] 0)) 85 #[.map (some w1.heap.size)]
        rw [← hW2] at this
        simpa using this
    have hT2 : TmAt w.heap.size W2 t a c := HT.out.keepX (kk0.trans (kk2.less (fun g hg => by omega))) (fun _ h => h)
    have hcop := cop_any (put_ren (B0 := w.heap.size) (m := m) (V := t.tree.vars) (mb := w1.heap.size) (bn := w1.heap.size + 1) (bf := w.heap.size + 1) (by omega) (by omega) hvl) t hright.1 [] _ W2 a c (fun s' v h => (T.mem_vars _ v).2 h.has) hI (by omega) hT2
    rw [cop_ren m t hright.1 []] at hcop
    have hcop2 : Calls Tryz.prog 44 #[.agg #[.int .i64 t.k, .string (str t.nm), .int .i64 t.i, .slice a t.args.length c], .func (.func 45) #[] #[.pointer (some ⟨w1.heap.size + 1, 0, none⟩), .pointer (some ⟨w.heap.size + 1, 0, none⟩)]] W2 fun e w3 => ∃ a' c', e = .returned (tv (t.tree.ren m).tm a' c') ∧ Fr 0 (fun _ => False) w3 (w1.heap.size + 2) w3.heap.size (t.tree.ren m).tm a' c' ∧ MapI w3 w1.heap.size (.int .i64 0) (fun x => if x ∈ t.tree.vars then some (.int .i64 (m + idx t.tree.vars x)) else none) t.tree.vars.length ∧ Blk w3 (w1.heap.size + 1) 85 #[.map (some w1.heap.size)] ∧ Blk w3 (w.heap.size + 1) 2 #[.int .i64 m] ∧ Blk w3 (w.heap.size + 1 + 1) 28 #[.int .i64 0, .string ⟨#[]⟩, .int .i64 0, .slice none 0 0] ∧ Keep (fun g => g < w.heap.size) w w3 ∧ w1.heap.size + 2 ≤ w3.heap.size := by
      refine hcop.mono ?_
      rintro e w3 ⟨a', c', P', rfl, hfr, hri, hk3, hp3⟩
      rw [hz2] at hfr
      refine ⟨a', c', rfl, hfr.grow (Nat.le_refl _) (fun _ h => h.elim), hri.map, hri.hbn, hri.hbf, ?_, ?_, ?_⟩
      · exact (bb2.keep kk2 l2).keep hk3 (by omega)
      · exact kk0.trans ((kk2.less (fun g hg => by omega)).trans (hk3.less (fun g hg => by omega)))
      · have := hk3.size; omega
    have HC := Lib.hid hcop2
    clear hcop hcop2 hI hT2 hright kk0 kk1 kk2 bb1 bb2 BAD GOOD
    have HW2 := Lib.hid hW2; clear hW2
    have HO : Hid (ov = ((t.tree.ren m).tm, m + (t.tree.vars.length : Int), 0)) := by
      have := HOV.out
      rw [if_pos (by simp), if_pos ⟨by omega, by omega⟩] at this
      exact Lib.hid this
    clear HOV
    have hvl2 := Lib.hid hvl; clear hvl
    generalize t.tree.ren m = tr at *
    generalize t.tree.vars = vs at *
    go_wp2_with fail
    rw [← HW2.out]
    refine HC.out.mono ?_
    rintro e w3 ⟨a3, cp3, rfl, hfr, hmp, b1, b2, b3, k3, s3⟩
    have hvl := hvl2.out
    have hmp4 := hmp.keep (w' := w3.alloc (tb tr.tm a3 cp3)) (X := fun _ => True) ((Keep.refl _ _).alloc _) trivial
    have hln := fun ty => hmp4.len Tryz.underlying85 ty
    have hln2 := fun ty => (hmp4.keep (w' := (w3.alloc (tb tr.tm a3 cp3)).drew) (X := fun _ => True) ((Keep.refl _ _).drew) trivial).len Tryz.underlying85 ty
    have hwrap : IntKind.i64.wrap (m + (vs.length : Int)) = m + (vs.length : Int) := by rw [IntKind.wrap_i64]; omega
    obtain ⟨W0, hW0, -, hsz, hbW0, -, hkW0⟩ := box_put (x := tr.tm) (a := a3) (c := cp3) b3 (w2 := w3) (X := fun _ => True) (Keep.refl _ _) trivial
    obtain ⟨W, hW⟩ : ∃ W, W = (W0.alloc (tb tr.tm a3 cp3)).drew := ⟨_, rfl⟩
    have hbW : Blk W (w.heap.size + 1 + 1) 28 #[.int .i64 tr.tm.k, .string (str tr.tm.nm), .int .i64 tr.tm.i, .slice a3 tr.tm.args.length cp3] := by rw [hW]; exact (hbW0.alloc _).drew
    have hk4 : Keep (fun k => k ≠ w.heap.size + 1 + 1) w3 W := by rw [hW]; exact (hkW0.alloc _).drew
    have hszW : W.heap.size = w3.heap.size + 1 := by rw [hW]; show (W0.alloc _).heap.size = _; rw [World.size_alloc, hsz]
    rw [hW0] at hW
    clear f0 f1 f2 f3 e0 e1 e2 e3 c0 c1 c2 c3 d0 l0 l1 l2
    have l1 := b1.lt
    have l2 := b2.lt
    have l3 := b3.lt
    have d1 := b1.cell 0
    have d2 := b2.cell 0
    simp at d1 d2
    have f0 := b3.frozen 0
    have f1 := b3.frozen 1
    have f2 := b3.frozen 2
    have f3 := b3.frozen 3
    have e0 := b3.cell 0; have e1 := b3.cell 1; have e2 := b3.cell 2; have e3 := b3.cell 3
    simp at e0 e1 e2 e3
    have g0 := hbW.cell 0; have g1 := hbW.cell 1; have g2 := hbW.cell 2; have g3 := hbW.cell 3
    rw [hW] at g0 g1 g2 g3
    simp at g0 g1 g2 g3
    have hE : Fr 0 (fun _ => False) W w.heap.size W.heap.size tr.tm a3 cp3 ∧ Keep (fun g => g < w.heap.size) w W := by
      exact ⟨(hfr.keepR hk4 (fun g hg => by omega)).up (by omega) (by omega), k3.trans (hk4.less (fun g hg => by omega))⟩
    have HE := Lib.hid hE; clear hE
    have HW := Lib.hid hW; clear hW
    have hov := HO.out
    subst hov
    clear hfr hmp b1 b2 b3 k3 s3 hmp4 hsz hbW hk4 hszW hW0 hbW0 hkW0 HC HR HT HO HW2 hmm hz0 hz1 k1
    unfold tv
    unfold tb at *
    go_wp2_with fail
    clear HZ Hr hz2 hvl2 h1 h2 hm
    go_region
    go_wp2_with fail
    refine bodyPost_ret (v := .tuple #[.agg #[.int .i64 tr.tm.k, .string (str tr.tm.nm), .int .i64 tr.tm.i, .slice a3 tr.tm.args.length cp3], .int .i64 (m + (vs.length : Int)), .int .i64 0]) (by simp [results, Tryz.results30, go_sem, g0, g1, g2, g3]) rfl ⟨a3, cp3, rfl, ?_⟩
    rw [← HW.out]; exact HE.out
end
end Go.Proofs.YtnfcbalppecnfaaGreat
namespace Go.Proofs.YtnfcbalppecnfaaGreat
open Go.RowKit Go.Maps
set_option linter.unusedVariables false
set_option linter.unusedSimpArgs false
theorem nsL_append : ∀ (ts us : List Tm), nsL (ts ++ us) = nsL ts + nsL us := by
  intro ts us
  induction ts with
  | nil => rw [nsL_nil, List.nil_append]; omega
  | cons x ts ih => rw [List.cons_append, nsL_cons, nsL_cons, ih]; omega
theorem row_type {w : World} {base sz n : Nat} {t : TypeId} {v : Value} {xs : List Value} (h : w.ownsRow base t sz v n xs) {g : Nat} (hg : v.ownBlock = some g) : base ≤ g ∧ ∃ cs, Blk w g t cs := by
  rcases h.2 with ⟨rfl, _⟩ | ⟨g', cap, cur, rfl, hb, a2, _⟩
  · simp [Value.ownBlock] at hg
  · simp only [Value.ownBlock, Option.some.injEq] at hg
    subst hg
    exact ⟨hb, cur, a2⟩
theorem row_keep {w w' : World} {v : Value} {base sz n : Nat} {t : TypeId} {xs : List Value} (h : w.ownsRow base t sz v n xs) (hk : ∀ g, v.ownBlock = some g → w'.heap[g]? = w.heap[g]?) : w'.ownsRow base t sz v n xs := by
  obtain ⟨h1, h2⟩ := h
  refine ⟨h1, ?_⟩
  rcases h2 with h2 | ⟨g, cap, cur, rfl, a1, a2, a3⟩
  · exact .inl h2
  · exact .inr ⟨g, cap, cur, rfl, a1, (hk g rfl).trans a2, a3⟩
theorem row_on {w w' : World} {v : Value} {base sz n : Nat} {t : TypeId} {xs : List Value} {X : Nat → Prop} (h : w.ownsRow base t sz v n xs) (hk : Keep X w w') (hX : ∀ g, v.ownBlock = some g → X g) : w'.ownsRow base t sz v n xs :=
  row_keep h fun g hg => by obtain ⟨_, cs, hb⟩ := row_type h hg; exact hk.block g hb.lt (hX g hg)
theorem Keep.ofGrown {w w' : World} {row : Option Nat} {X : Nat → Prop} (hg : w.grownBy w' row) (hX : ∀ g, row = some g → ¬ X g) : Keep X w w' :=
  ⟨hg.os, hg.tape, hg.output, hg.size, fun k hk hx => hg.block k hk (fun e => hX k e.symm hx)⟩
end Go.Proofs.YtnfcbalppecnfaaGreat
namespace Go.Proofs.YtnfcbalppecnfaaGreat
open Go.RowKit Go.Maps
set_option linter.unusedVariables false
set_option linter.unusedSimpArgs false
def vaV (t : Tm) : List Int := if t.right = true then t.tree.vars else []
section
variable {w : World} {t : Tm} {a : Option Addr} {c : Nat}
end
end Go.Proofs.YtnfcbalppecnfaaGreat
namespace Go.Proofs.YtnfcbalppecnfaaGreat
open Go.RowKit Go.Maps
set_option linter.unusedVariables false
set_option linter.unusedSimpArgs false
def vtV (t u : Tm) : Bool := t.right && u.right && ((t.tree.ren 1).cmp (u.tree.ren 1) == 0)
section
variable {w : World} {t u : Tm} {a b : Option Addr} {c d : Nat}
end
end Go.Proofs.YtnfcbalppecnfaaGreat
