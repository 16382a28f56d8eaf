/-
  Operators in memory: the map that holds a table: asked, given one more, one less. No condition.
-/
import Derived.Test.YtbjnbfoedicelaaDoorOp1
namespace Go.Proofs.YtbjnbfoedicelaaDoor
open Go.RowKit Go.Maps
set_option linter.unusedVariables false
set_option linter.unusedSimpArgs false

def opVal (o : Opv) : Value := .agg #[.string (str o.nm), .int .i64 o.ty, .int .i64 o.pr]
def opCells (o : Opv) : List Value := [.string (str o.nm), .int .i64 o.ty, .int .i64 o.pr]
def opElem (v : Value) : Option (DataW Value × List MemPlace) :=
  match v with
  | .agg cs => (match cs.toList with
    | [.string _, .int .i64 _, .int .i64 _] => some (.held v, [])
    | _ => none)
  | _ => none
theorem opElem_mk (o : Opv) : opElem (opVal o) = some (.held (opVal o), []) := rfl
theorem opElem_inv {v : Value} {z : DataW Value × List MemPlace} (h : opElem v = some z) : ∃ o : Opv, v = opVal o ∧ z = (.held v, []) := by
  unfold opElem at h
  split at h
  · rename_i cs
    split at h
    · rename_i s t p hc
      obtain rfl := Option.some.inj h
      have he : cs = #[.string s, .int .i64 t, .int .i64 p] := by rw [← Array.toList_inj]; exact hc
      exact ⟨⟨s.data.toList, t, p⟩, by rw [he]; simp [opVal, str], rfl⟩
    · cases h
  · cases h
def zOp : Opv := ⟨[], 0, 0⟩
abbrev zHeld : DataW Value := .held (opVal zOp)
theorem zeroOp (w : World) : (zeroValue 27).run Tryd.prog w = .ok (opVal zOp) w := by kernel_rfl
theorem opVal_inj {a b : Opv} (h : opVal a = opVal b) : a = b := by
  unfold opVal at h
  simp only [Value.agg.injEq, Array.mk.injEq, List.cons.injEq, Value.string.injEq, Value.int.injEq, and_true, true_and] at h
  obtain ⟨h1, h2, h3⟩ := h
  cases a; cases b
  simp only [Opv.mk.injEq]
  exact ⟨str_inj h1, h2, h3⟩

/-- Numbers that fit, a name that can be. -/
structure Fits (o : Opv) : Prop where
  nm : o.nm.length ≤ maxLen
  ty : (Lit.int .i64 o.ty).wf = true
  pr : (Lit.int .i64 o.pr).wf = true
/-- The map at block mb holds the operators of T. -/
structure MapOf (w : World) (mb : Nat) (T : Tab) : Prop where
  own : ∃ D : DataW Value, w.ownsMap Tryd.prog 56 opElem mb (Maps.size D) D ∧ Maps.size D = T.length ∧
    (∀ nm p, nm.length ≤ maxLen → D.atKey (kl nm p) zHeld = .held (opVal ((find T nm p).getD zOp)) ∧ Maps.has D (kl nm p) = (find T nm p).isSome) ∧
    ∀ l, Maps.has D l = true → ∃ nm p, nm.length ≤ maxLen ∧ l = kl nm p
  apart : Apart T
  fits : ∀ o ∈ T, Fits o ∧ o.nm.length ≤ 64

section
variable {w w' : World} {mb : Nat} {T : Tab} {X : Nat → Prop}
theorem own_ne {b g n : Nat} {t : TypeId} {cs : Array Value} {D : DataW Value} {R : Value → Option (DataW Value × List MemPlace)} (h : w.ownsMap Tryd.prog 56 R b n D) (hg : Blk w g t cs) : b ≠ g := by
  rintro rfl
  obtain ⟨es, clock, hb, _⟩ := h
  unfold Blk at hg
  rw [hb] at hg
  injection hg with hg
  cases hg
theorem own_tight {b n : Nat} {D : DataW Value} (h : w.ownsMap Tryd.prog 56 opElem b n D) : w.ownsMap Tryd.prog 56 opElem b (Maps.size D) D := by
  obtain ⟨es, clock, hb, F, hs, rfl⟩ := h
  exact ⟨es, clock, hb, F, by simp [Maps.size, length_sorted], rfl⟩
theorem MapOf.lt (h : MapOf w mb T) : mb < w.heap.size := by obtain ⟨D, o, _⟩ := h.own; exact o.lt
theorem MapOf.keep (h : MapOf w mb T) (hk : Keep X w w') (hX : X mb) : MapOf w' mb T := by
  have hlt := h.lt
  obtain ⟨D, ⟨es, clock, hb, r⟩, r2⟩ := h.own
  exact ⟨⟨D, ⟨es, clock, (hk.block mb hlt hX).trans hb, r⟩, r2⟩, h.apart, h.fits⟩
theorem MapOf.ne_blk (h : MapOf w mb T) {g : Nat} {t : TypeId} {cs : Array Value} (hg : Blk w g t cs) : mb ≠ g := by
  obtain ⟨D, o, _⟩ := h.own; exact own_ne o hg
theorem MapOf.look (h : MapOf w mb T) {nm : List UInt8} (hn : nm.length ≤ maxLen) (p : Bool) :
    (Instr.lookup 42 (.map (some mb)) (kvl nm p) true).run Tryd.prog w = .ok (.tuple #[opVal ((find T nm p).getD zOp), .bool (find T nm p).isSome]) w := by
  obtain ⟨D, o, _, hat, _⟩ := h.own
  obtain ⟨v, ps, hrun, hv⟩ := o.look_ok keyLaw Tryd.underlying42 (zeroOp w) (zd := zHeld) (zp := []) rfl (keyOf_kvl hn p)
  rw [(hat nm p hn).1] at hv
  obtain ⟨o, _, hz⟩ := opElem_inv hv
  simp only [Prod.mk.injEq, DataW.held.injEq] at hz
  rw [← hz.1, (hat nm p hn).2] at hrun
  exact hrun
theorem MapOf.len (h : MapOf w mb T) (ty : TypeId) : (Builtin.len_ #[42] ty #[.map (some mb)]).run Tryd.prog w = .ok (.int .i64 T.length) w := by
  obtain ⟨D, o, hs, hat, _⟩ := h.own
  have := o.len Tryd.underlying42 ty
  rwa [hs] at this
theorem kl_ne {nm mn : List UInt8} {p q : Bool} (h : nm.length ≤ maxLen) (h' : mn.length ≤ maxLen) (hne : ¬ (nm = mn ∧ p = q)) : kl nm p ≠ kl mn q := fun e => hne (kl_inj h h' e)
theorem kl_key {nm : List UInt8} (h : nm.length ≤ maxLen) (p : Bool) : WideAt.IsKeyLit (kl nm p) := keyLaw.key (keyOf_kvl h p)
/-- One more (or another one in its place). -/
theorem MapOf.put (h : MapOf w mb T) (hl : T.length ≤ 200) {o : Opv} (ho : Fits o) (ho' : o.nm.length ≤ 64) :
    ∃ w', (Instr.mapUpdate 42 (.map (some mb)) (kvl o.nm (isPre o.ty)) (opVal o)).run Tryd.prog w = .ok () w' ∧ MapOf w' mb (put T o) ∧ w.mapTurned w' mb := by
  obtain ⟨D, own, hs, hat, hky⟩ := h.own
  obtain ⟨w', hrun, o', ht⟩ := own.store keyLaw Tryd.underlying42 (by unfold maxLen; omega) (keyOf_kvl ho.nm _) (val := opVal o) (d := .held (opVal o)) (ps := []) rfl
  refine ⟨w', hrun, ⟨⟨_, own_tight o', ?_, fun nm p hn => ?_, fun l hl => ?_⟩, h.apart.put o, fun x hx => ?_⟩, ht⟩
  · rw [size_put (own.tidy keyLaw), (hat _ _ ho.nm).2, length_put h.apart, hs]
  · rw [find_put]
    by_cases hk : nm = o.nm ∧ p = isPre o.ty
    · rw [if_pos hk]
      obtain ⟨rfl, rfl⟩ := hk
      rw [atKey_put_same own.isMap (kl_key hn _), has_put_same own.isMap (kl_key hn _)]
      exact ⟨rfl, rfl⟩
    · rw [if_neg hk, atKey_put_other (kl_ne hn ho.nm hk), has_put_other (kl_ne hn ho.nm hk)]
      exact hat nm p hn
  · by_cases hlk : l = kl o.nm (isPre o.ty)
    · exact ⟨_, _, ho.nm, hlk⟩
    · rw [has_put_other hlk] at hl
      exact hky l hl
  · rcases List.mem_cons.1 hx with rfl | hx
    · exact ⟨ho, ho'⟩
    · exact h.fits x (List.mem_filter.1 hx).1
/-- One less. -/
theorem MapOf.del (h : MapOf w mb T) {nm : List UInt8} (hn : nm.length ≤ maxLen) (p : Bool) (ty : TypeId) :
    ∃ w', (Builtin.delete_ #[42, 56] ty #[.map (some mb), kvl nm p]).run Tryd.prog w = .ok (.tuple #[]) w' ∧ MapOf w' mb (drop T nm p) ∧ w.mapTurned w' mb := by
  obtain ⟨D, own, hs, hat, hky⟩ := h.own
  obtain ⟨w', hrun, o', ht⟩ := own.drop keyLaw Tryd.underlying42 (keyOf_kvl hn p) ty
  refine ⟨w', hrun, ⟨⟨_, own_tight o', ?_, fun mn q hm => ?_, fun l hl => ?_⟩, h.apart.drop _ _, fun x hx => h.fits x (List.mem_filter.1 hx).1⟩, ht⟩
  · have htd := own.tidy keyLaw
    have := size_del (k := kl nm p) htd
    rw [(hat _ _ hn).2, hs] at this
    rw [length_drop h.apart]
    clear hat own o' ht hrun hn htd hky
    generalize (find T nm p).isSome = z at this ⊢
    cases z
    · simp only [Bool.false_eq_true, if_false] at this ⊢; omega
    · simp only [if_true] at this ⊢; omega
  · rw [find_drop]
    by_cases hk : mn = nm ∧ q = p
    · rw [if_pos hk]
      obtain ⟨rfl, rfl⟩ := hk
      rw [atKey_del_same, has_del_same]
      exact ⟨rfl, rfl⟩
    · rw [if_neg hk, atKey_del_other (kl_ne hm hn hk), has_del_other (kl_ne hm hn hk)]
      exact hat mn q hm
  · by_cases hlk : l = kl nm p
    · exact ⟨_, _, hn, hlk⟩
    · rw [has_del_other hlk] at hl
      exact hky l hl
theorem MapOf.made (w : World) : MapOf (w.alloc (.map #[] 0)) w.heap.size [] :=
  ⟨⟨.map [], World.ownsMap_made w Tryd.prog _ opElem, rfl, fun nm p hn => ⟨rfl, rfl⟩, fun l hl => by cases hl⟩, List.Pairwise.nil, fun _ h => by cases h⟩
end

/-- The table at block pb, its map at mb, holds T. -/
structure TabAt (w : World) (pb mb : Nat) (T : Tab) : Prop where
  head : Blk w pb 44 #[.map (some mb)]
  map : MapOf w mb T
theorem TabAt.keep {w w' : World} {pb mb : Nat} {T : Tab} {X : Nat → Prop} (h : TabAt w pb mb T) (hk : Keep X w w') (h1 : X pb) (h2 : X mb) : TabAt w' pb mb T :=
  ⟨h.head.keep hk h1, h.map.keep hk h2⟩
theorem TabAt.ne {w : World} {pb mb : Nat} {T : Tab} (h : TabAt w pb mb T) : mb ≠ pb := h.map.ne_blk h.head
end Go.Proofs.YtbjnbfoedicelaaDoor
