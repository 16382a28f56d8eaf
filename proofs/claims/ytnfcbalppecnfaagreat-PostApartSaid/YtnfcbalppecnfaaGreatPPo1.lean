/-
  A post in memory: a map from numbers to queues, each queue's box and its row of messages. No condition.
-/
import Derived.Test.YtnfcbalppecnfaaGreatPSx7
import Derived.Test.YtnfcbalppecnfaaGreatPSx2
import Derived.Test.YtnfcbalppecnfaaGreatPTp1
namespace Go.Proofs.YtnfcbalppecnfaaGreat
open Go.RowKit Go.Maps
set_option linter.unusedVariables false
set_option linter.unusedSimpArgs false
theorem lawN : Keyed Tryz.prog 3 := int_keyed Tryz.underlying3
structure MapN (w : World) (mb : Nat) (z : Value) (f : Int → Option Value) (n : Nat) : Prop where
  own : ∃ D : DataW Value, w.ownsMap Tryz.prog 3 slotElem mb (Maps.size D) D ∧ Maps.size D = n ∧ ∀ k : Int, D.atKey (ik k) (.held z) = .held ((f k).getD z) ∧ Maps.has D (ik k) = (f k).isSome
section
variable {w w' : World} {mb n : Nat} {z : Value} {f : Int → Option Value} {X : Nat → Prop}
theorem MapN.lt (h : MapN w mb z f n) : mb < w.heap.size := by obtain ⟨D, o, _⟩ := h.own; exact o.lt
theorem MapN.keep (h : MapN w mb z f n) (hk : Keep X w w') (hX : X mb) : MapN w' mb z f n := by
  have hlt := h.lt
  obtain ⟨D, ⟨es, clock, hb, r⟩, r2⟩ := h.own
  exact ⟨⟨D, ⟨es, clock, (hk.block mb hlt hX).trans hb, r⟩, r2⟩⟩
theorem MapN.ne_blk (h : MapN w mb z f n) {g : Nat} {t : TypeId} {cs : Array Value} (hg : Blk w g t cs) : mb ≠ g := by
  obtain ⟨D, o, _⟩ := h.own
  rintro rfl
  obtain ⟨es, clock, hb, _⟩ := o
  unfold Blk at hg
  rw [hb] at hg
  injection hg with hg
  cases hg
theorem own_tightN {b n : Nat} {D : DataW Value} (h : w.ownsMap Tryz.prog 3 slotElem b n D) : w.ownsMap Tryz.prog 3 slotElem b (Maps.size D) D := by
  obtain ⟨es, clock, hb, F, hs, rfl⟩ := h
  exact ⟨es, clock, hb, F, by simp [Maps.size, length_sorted], rfl⟩
theorem MapN.look {tm e : TypeId} (h : MapN w mb z f n) (ht : Tryz.prog.underlying tm = some (.map 3 e)) (hz : (zeroValue e).run Tryz.prog w = .ok z w) {k : Int} (hk : (ik k).wf = true) :
    (Instr.lookup tm (.map (some mb)) (.int .i64 k) true).run Tryz.prog w = .ok (.tuple #[(f k).getD z, .bool (f k).isSome]) w := by
  obtain ⟨D, o, _, hat⟩ := h.own
  obtain ⟨v, ps, hrun, hv⟩ := o.look_ok lawN ht hz (zd := .held z) (zp := []) rfl (keyOf_int_mk Tryz.underlying3 hk)
  rw [(hat k).1] at hv
  unfold slotElem at hv
  simp only [Option.some.injEq, Prod.mk.injEq, DataW.held.injEq] at hv
  rw [hv.1, (hat k).2] at hrun
  exact hrun
theorem MapN.len {tm e : TypeId} (h : MapN w mb z f n) (ht : Tryz.prog.underlying tm = some (.map 3 e)) (ty : TypeId) : (Builtin.len_ #[tm] ty #[.map (some mb)]).run Tryz.prog w = .ok (.int .i64 n) w := by
  obtain ⟨D, o, hs, _⟩ := h.own
  have := o.len ht ty
  rwa [hs] at this
theorem MapN.store {tm e : TypeId} (h : MapN w mb z f n) (ht : Tryz.prog.underlying tm = some (.map 3 e)) (hn : n < maxLen) {k : Int} (hk : (ik k).wf = true) (v : Value) :
    ∃ w', (Instr.mapUpdate tm (.map (some mb)) (.int .i64 k) v).run Tryz.prog w = .ok () w' ∧ MapN w' mb z (fun j => if j = k then some v else f j) (if (f k).isSome = true then n else n + 1) ∧ w.mapTurned w' mb := by
  obtain ⟨D, own, hs, hat⟩ := h.own
  obtain ⟨w', hrun, o', ht'⟩ := own.store lawN ht (by omega) (keyOf_int_mk Tryz.underlying3 hk) (val := v) (d := .held v) (ps := []) rfl
  refine ⟨w', hrun, ⟨_, own_tightN o', ?_, fun m => ?_⟩, ht'⟩
  · rw [size_put (own.tidy lawN), (hat k).2, hs]
  · by_cases hm : m = k
    · subst hm
      rw [if_pos rfl, atKey_put_same own.isMap (ik_key _), has_put_same own.isMap (ik_key _)]
      exact ⟨rfl, rfl⟩
    · rw [if_neg hm, atKey_put_other (ik_ne hm), has_put_other (ik_ne hm)]
      exact hat m
theorem MapN.cut {tm e : TypeId} (h : MapN w mb z f n) (ht : Tryz.prog.underlying tm = some (.map 3 e)) {k : Int} (hk : (ik k).wf = true) (ty : TypeId) :
    ∃ w', (Builtin.delete_ #[tm, 3] ty #[.map (some mb), .int .i64 k]).run Tryz.prog w = .ok (.tuple #[]) w' ∧ MapN w' mb z (fun j => if j = k then none else f j) (if (f k).isSome = true then n - 1 else n) ∧ w.mapTurned w' mb := by
  obtain ⟨D, own, hs, hat⟩ := h.own
  obtain ⟨w', hrun, o', ht'⟩ := own.drop lawN ht (keyOf_int_mk Tryz.underlying3 hk) ty
  refine ⟨w', hrun, ⟨_, own_tightN o', ?_, fun m => ?_⟩, ht'⟩
  · show size (D.del (ik k)) = _
    have := size_del (own.tidy lawN) (k := ik k)
    rw [(hat k).2, hs] at this
    by_cases hi : (f k).isSome = true
    · rw [if_pos hi] at this ⊢; omega
    · rw [if_neg hi] at this ⊢; omega
  · by_cases hm : m = k
    · subst hm
      rw [if_pos rfl, atKey_del_same, has_del_same]
      exact ⟨rfl, rfl⟩
    · rw [if_neg hm, atKey_del_other (ik_ne hm), has_del_other (ik_ne hm)]
      exact hat m
theorem MapN.made (w : World) (z : Value) : MapN (w.alloc (.map #[] 0)) w.heap.size z (fun _ => none) 0 :=
  ⟨⟨.map [], World.ownsMap_made w Tryz.prog _ slotElem, rfl, fun k => ⟨rfl, rfl⟩⟩⟩
end
structure Qu where
  g : Nat
  m : Int
  v : Value
  ps : List TP
def Msg (t : Tm) : Prop := t.right = true ∧ (t.tree.ren 1).tm = t
structure QAt (B : Nat) (R : Nat → Prop) (w : World) (q : Qu) : Prop where
  box : Blk w q.g 72 #[.int .i64 q.m, q.v]
  row : w.ownsRow B 28 4 q.v q.ps.length (q.ps.flatMap TP.cells)
  fr : ∀ p ∈ q.ps, Fr 0 R w B w.heap.size p.1 p.2.1 p.2.2
  rg : R q.g
  rv : ∀ k, q.v.ownBlock = some k → R k
  m1 : 1 ≤ q.m ∧ q.m ≤ 64
  le : (q.ps.length : Int) ≤ q.m
  ren : ∀ p ∈ q.ps, Msg p.1
structure PoAt (B : Nat) (R : Nat → Prop) (w : World) (pa mb : Nat) (made : Int) (f : Int → Option Qu) (n : Nat) : Prop where
  head : Blk w pa 48 #[.int .i64 made, .map (some mb)]
  map : MapN w mb (.pointer none) (fun k => (f k).map fun q => .pointer (some ⟨q.g, 0, none⟩)) n
  qs : ∀ k q, f k = some q → QAt B R w q
  apart : ∀ k k' q q', f k = some q → f k' = some q' → k ≠ k' → q.g ≠ q'.g ∧ ∀ b, q.v.ownBlock = some b → q'.v.ownBlock ≠ some b
  rp : R pa
  rm : R mb
  rb : ∀ k, R k → B ≤ k ∧ k < w.heap.size
  le : B ≤ w.heap.size
  few : n ≤ 8
  num : 0 ≤ made ∧ ∀ k q, f k = some q → 1 ≤ k ∧ k ≤ made
section
variable {B : Nat} {R R' X : Nat → Prop} {w w' : World} {pa mb n : Nat} {made : Int} {f : Int → Option Qu} {q : Qu}
theorem QAt.sl (h : QAt B R w q) : ∃ a c, q.v = .slice a q.ps.length c := by
  rcases h.row.2 with ⟨e, h0⟩ | ⟨g, cap, cur, e, _⟩
  · exact ⟨none, 0, by rw [h0]; exact e⟩
  · exact ⟨_, _, e⟩
theorem QAt.keep (h : QAt B R w q) (hk : Keep X w w') (hX : ∀ k, R k → X k) (hY : ∀ k, B ≤ k → k < w.heap.size → ¬ R k → X k) : QAt B R w' q := by
  refine ⟨h.box.keep hk (hX _ h.rg), row_on h.row hk fun g hg => hX _ (h.rv g hg), fun p hp => ?_, h.rg, h.rv, h.m1, h.le, h.ren⟩
  have h1 := h.fr p hp
  have hk2 : Keep (fun k => B ≤ k ∧ ¬ R k) w w' := hk.at_ fun k hl hk => hY k hk.1 hl hk.2
  exact (h1.keepR hk2 fun k hk => by rcases hk with hk | hk; omega; exact hk).up hk.size (Nat.le_refl _)
theorem PoAt.on (h : PoAt B R w pa mb made f n) (hk : Keep (fun g => g < w.heap.size) w w') : PoAt B R w' pa mb made f n :=
  ⟨h.head.keep hk h.head.lt, h.map.keep hk h.map.lt, fun k q hq => (h.qs k q hq).keep hk (fun k hr => (h.rb k hr).2) (fun k _ hl _ => hl), h.apart, h.rp, h.rm, fun k hr => ⟨(h.rb k hr).1, Nat.lt_of_lt_of_le (h.rb k hr).2 hk.size⟩, Nat.le_trans h.le hk.size, h.few, h.num⟩
end
theorem zq (w : World) : (zeroValue 69).run Tryz.prog w = .ok (.pointer none) w := by kernel_rfl
section
variable {B : Nat} {R R' X : Nat → Prop} {w w' : World} {pa mb n : Nat} {made : Int} {f : Int → Option Qu} {q : Qu} {k : Int}
theorem PoAt.look0 (h : PoAt B R w pa mb made f n) (hf : f k = none) (hk : (ik k).wf = true) : (Instr.lookup 46 (.map (some mb)) (.int .i64 k) true).run Tryz.prog w = .ok (.tuple #[.pointer none, .bool false]) w := by
  have := h.map.look (tm := 46) (e := 69) Tryz.underlying46 (zq w) hk
  simp only [hf, Option.map_none, Option.getD_none, Option.isSome_none] at this
  exact this
theorem PoAt.look1 (h : PoAt B R w pa mb made f n) (hf : f k = some q) (hk : (ik k).wf = true) : (Instr.lookup 46 (.map (some mb)) (.int .i64 k) true).run Tryz.prog w = .ok (.tuple #[.pointer (some ⟨q.g, 0, none⟩), .bool true]) w := by
  have := h.map.look (tm := 46) (e := 69) Tryz.underlying46 (zq w) hk
  simp only [hf, Option.map_some, Option.getD_some, Option.isSome_some] at this
  exact this
theorem QAt.tmsl {g vc : Nat} {m : Int} {va : Option Addr} {ps : List TP} (h : QAt B R w ⟨g, m, .slice va ps.length vc, ps⟩) : TmSl w.heap.size w va ps := by
  have hT : ∀ p ∈ ps, TmAt w.heap.size w p.1 p.2.1 p.2.2 := fun p hp => (h.fr p hp).at_ (Nat.zero_le _)
  by_cases h0 : 0 < ps.length
  · obtain ⟨g2, cap, cs, h1, hB, hC, hD, hc⟩ := row_some (xs := ps.flatMap TP.cells) (sz := 4) (n := ps.length) h.row h0
    cases h1
    exact fun j p hj => ⟨⟨g2, 0, rfl, hC.lt, fun f v hv => by
      rw [Nat.zero_add]
      exact hc _ _ (by rw [flat_get ps j f (get_lt' hv), hj]; exact hv)⟩, hT p (List.mem_of_getElem? hj)⟩
  · have hnil : ps = [] := List.eq_nil_of_length_eq_zero (by omega)
    subst hnil
    exact fun j p hj => by simp at hj
end
theorem rnV_bad {t : Tm} {m : Int} (h : t.right = false) : rnV t m = (.node 0 [] 0 [], 0, 70) := by unfold rnV; rw [if_neg (by rw [h]; decide)]
theorem rename_fr' {w : World} {t x : Tm} {a : Option Addr} {c : Nat} {m n e : Int} (hT : TmAt w.heap.size w t a c) (hm : (ik m).wf = true) (h : rnV t m = (x, n, e)) : Calls Tryz.prog 30 #[tv t a c, .int .i64 m] w fun e' w' => ∃ a' c', e' = .returned (.tuple #[tv x a' c', .int .i64 n, .int .i64 e]) ∧ Fr 0 (fun _ => False) w' w.heap.size w'.heap.size x a' c' ∧ Keep (fun g => g < w.heap.size) w w' := by
  have hr := Rename_any hT hm
  rw [h] at hr
  exact hr
theorem msg_ren {t : Tm} (h : Msg t) : rnV t 1 = (t, 1 + (t.tree.vars.length : Int), 0) := by rw [rnV_eq h.1 (by decide) (by decide), h.2]
end Go.Proofs.YtnfcbalppecnfaaGreat
