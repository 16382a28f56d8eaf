/-
  The mutexes in memory: a map from their numbers to who has them; asked, given one more, one less, counted. No condition.
-/
import Derived.Test.YtbfnadpkgiglmaaLk0
import Derived.Test.YtbfnadpkgiglmaaMem
namespace Go.Proofs.Ytbfnadpkgiglmaa
open Go.RowKit Go.Maps
set_option linter.unusedVariables false
set_option linter.unusedSimpArgs false

def ov (x : Lk) : Value := .agg #[.int .i64 x.ow, .int .i64 x.ct]
def lkElem (v : Value) : Option (DataW Value × List MemPlace) := some (.held v, [])
abbrev oHeld : DataW Value := .held (ov zLk)
theorem zeroOw (w : World) : (zeroValue 64).run Try.prog w = .ok (ov zLk) w := by kernel_rfl
abbrev ik (k : Int) : Lit := .int .i64 k
theorem keyLaw : Keyed Try.prog 3 := int_keyed Try.underlying3
theorem ik_ne {a b : Int} (h : a ≠ b) : ik a ≠ ik b := fun e => h (by injection e)
theorem ik_key (k : Int) : WideAt.IsKeyLit (ik k) := by simp [WideAt.IsKeyLit]
theorem ik_wf {k : Int} (h1 : -9223372036854775808 ≤ k) (h2 : k ≤ 9223372036854775807) : (ik k).wf = true := by
  have e1 : IntKind.i64.min = -9223372036854775808 := by decide
  have e2 : IntKind.i64.max = 9223372036854775807 := by decide
  simp [Lit.wf, e1, e2]; omega

/-- The map at block mb holds the mutexes of L. -/
structure MapOf (w : World) (mb : Nat) (L : LS) : Prop where
  own : ∃ D : DataW Value, w.ownsMap Try.prog 3 lkElem mb (Maps.size D) D ∧
    ∀ k : Int, D.atKey (ik k) oHeld = .held (ov ((LS.get L k).getD zLk)) ∧ Maps.has D (ik k) = (LS.get L k).isSome
section
variable {w w' : World} {mb : Nat} {L : LS} {X : Nat → Prop}
theorem own_ne {b g n : Nat} {t : TypeId} {cs : Array Value} {D : DataW Value} {R : Value → Option (DataW Value × List MemPlace)} (h : w.ownsMap Try.prog 3 R b n D) (hg : Blk w g t cs) : b ≠ g := by
  rintro rfl
  obtain ⟨es, clock, hb, _⟩ := h
  unfold Blk at hg
  rw [hb] at hg
  injection hg with hg
  cases hg
theorem own_tight {b n : Nat} {D : DataW Value} (h : w.ownsMap Try.prog 3 lkElem b n D) : w.ownsMap Try.prog 3 lkElem b (Maps.size D) D := by
  obtain ⟨es, clock, hb, F, hs, rfl⟩ := h
  exact ⟨es, clock, hb, F, by simp [Maps.size, length_sorted], rfl⟩
theorem MapOf.lt (h : MapOf w mb L) : mb < w.heap.size := by obtain ⟨D, o, _⟩ := h.own; exact o.lt
theorem MapOf.keep (h : MapOf w mb L) (hk : Keep X w w') (hX : X mb) : MapOf w' mb L := by
  have hlt := h.lt
  obtain ⟨D, ⟨es, clock, hb, r⟩, r2⟩ := h.own
  exact ⟨⟨D, ⟨es, clock, (hk.block mb hlt hX).trans hb, r⟩, r2⟩⟩
theorem MapOf.ne_blk (h : MapOf w mb L) {g : Nat} {t : TypeId} {cs : Array Value} (hg : Blk w g t cs) : mb ≠ g := by
  obtain ⟨D, o, _⟩ := h.own; exact own_ne o hg
theorem keys_perm {D : DataW Value} (hown : w.ownsMap Try.prog 3 lkElem mb (Maps.size D) D) (hat : ∀ k : Int, Maps.has D (ik k) = (LS.get L k).isSome) : (LS.all L).Perm (intKeys D) := by
  obtain ⟨es, hD, hpw, _⟩ := hown.entries keyLaw
  obtain ⟨es', hD', hko⟩ := hown.keysOf
  obtain rfl : es = es' := by rw [hD] at hD'; simpa using hD'
  subst hD
  exact perm_intKeys hpw (fun p hp => by obtain ⟨v, hv⟩ := hko p hp; obtain ⟨x, _, hx, _⟩ := Maps.keyOf_i64 Try.underlying3 hv; exact ⟨x, hx⟩) (upto_nodup _ _) (fun x => by rw [hat x]; exact mem_all)
theorem MapOf.keys (h : MapOf w mb L) : ∃ D : DataW Value, w.ownsMap Try.prog 3 lkElem mb (Maps.size D) D ∧ (LS.all L).Perm (intKeys D) ∧ Maps.size D = (LS.all L).length := by
  obtain ⟨D, o, hat⟩ := h.own
  have hp := keys_perm o (fun k => (hat k).2)
  refine ⟨D, o, hp, ?_⟩
  rw [hp.length_eq]
  obtain ⟨es, rfl, _⟩ := o.entries keyLaw
  simp [intKeys, Maps.size]
theorem MapOf.look (h : MapOf w mb L) {k : Int} (hk : (ik k).wf = true) :
    (Instr.lookup 52 (.map (some mb)) (.int .i64 k) true).run Try.prog w = .ok (.tuple #[.agg #[.int .i64 ((LS.get L k).getD zLk).ow, .int .i64 ((LS.get L k).getD zLk).ct], .bool (LS.get L k).isSome]) w := by
  obtain ⟨D, o, hat⟩ := h.own
  obtain ⟨v, ps, hrun, hv⟩ := o.look_ok keyLaw Try.underlying52 (zeroOw w) (zd := oHeld) (zp := []) rfl (keyOf_int_mk Try.underlying3 hk)
  rw [(hat k).1] at hv
  unfold lkElem at hv
  simp only [Option.some.injEq, Prod.mk.injEq, DataW.held.injEq] at hv
  rw [hv.1, (hat k).2] at hrun
  exact hrun
theorem MapOf.look1 (h : MapOf w mb L) {k : Int} (hk : (ik k).wf = true) :
    (Instr.lookup 52 (.map (some mb)) (.int .i64 k) false).run Try.prog w = .ok (.agg #[.int .i64 ((LS.get L k).getD zLk).ow, .int .i64 ((LS.get L k).getD zLk).ct]) w := by
  obtain ⟨D, o, hat⟩ := h.own
  obtain ⟨v, ps, hrun, hv⟩ := o.lookup keyLaw Try.underlying52 (zeroOw w) (zd := oHeld) (zp := []) rfl (keyOf_int_mk Try.underlying3 hk)
  rw [(hat k).1] at hv
  unfold lkElem at hv
  simp only [Option.some.injEq, Prod.mk.injEq, DataW.held.injEq] at hv
  rw [hv.1] at hrun
  exact hrun
theorem MapOf.len (h : MapOf w mb L) (ty : TypeId) : (Builtin.len_ #[52] ty #[.map (some mb)]).run Try.prog w = .ok (.int .i64 (LS.all L).length) w := by
  obtain ⟨D, o, _, hs⟩ := h.keys
  have := o.len Try.underlying52 ty
  rwa [hs] at this
/-- One more, or another one in its place. -/
theorem MapOf.store (h : MapOf w mb L) (hl : (LS.all L).length ≤ 8) {k : Int} (hk : (ik k).wf = true) (x : Lk) {L' : LS} (hL : ∀ m, LS.get L' m = if m = k then some x else LS.get L m) :
    ∃ w', (Instr.mapUpdate 52 (.map (some mb)) (.int .i64 k) (.agg #[.int .i64 x.ow, .int .i64 x.ct])).run Try.prog w = .ok () w' ∧ MapOf w' mb L' ∧ w.mapTurned w' mb := by
  obtain ⟨D, own, hat⟩ := h.own
  have hs : Maps.size D = (LS.all L).length := by
    obtain ⟨es, rfl, _⟩ := own.entries keyLaw
    rw [(keys_perm own (fun k => (hat k).2)).length_eq]
    simp [intKeys, Maps.size]
  obtain ⟨w', hrun, o', ht⟩ := own.store keyLaw Try.underlying52 (by unfold maxLen; omega) (keyOf_int_mk Try.underlying3 hk) (val := ov x) (d := .held (ov x)) (ps := []) rfl
  refine ⟨w', hrun, ⟨_, own_tight o', fun m => ?_⟩, ht⟩
  rw [hL]
  by_cases hm : m = k
  · subst hm
    rw [if_pos rfl, atKey_put_same own.isMap (ik_key _), has_put_same own.isMap (ik_key _)]
    exact ⟨rfl, rfl⟩
  · rw [if_neg hm, atKey_put_other (ik_ne hm), has_put_other (ik_ne hm)]
    exact hat m
/-- One less. -/
theorem MapOf.cut (h : MapOf w mb L) {k : Int} (hk : (ik k).wf = true) {L' : LS} (hL : ∀ m, LS.get L' m = if m = k then none else LS.get L m) (ty : TypeId) :
    ∃ w', (Builtin.delete_ #[52, 3] ty #[.map (some mb), .int .i64 k]).run Try.prog w = .ok (.tuple #[]) w' ∧ MapOf w' mb L' ∧ w.mapTurned w' mb := by
  obtain ⟨D, own, hat⟩ := h.own
  obtain ⟨w', hrun, o', ht⟩ := own.drop keyLaw Try.underlying52 (keyOf_int_mk Try.underlying3 hk) ty
  refine ⟨w', hrun, ⟨_, own_tight o', fun m => ?_⟩, ht⟩
  rw [hL]
  by_cases hm : m = k
  · subst hm
    rw [if_pos rfl, atKey_del_same, has_del_same]
    exact ⟨rfl, rfl⟩
  · rw [if_neg hm, atKey_del_other (ik_ne hm), has_del_other (ik_ne hm)]
    exact hat m
theorem MapOf.made (w : World) : MapOf (w.alloc (.map #[] 0)) w.heap.size [] :=
  ⟨⟨.map [], World.ownsMap_made w Try.prog _ lkElem, fun k => by rw [show LS.get [] k = none from by unfold LS.get; rw [if_neg (by simp; omega)]]; exact ⟨rfl, rfl⟩⟩⟩
end

/-- The locks at block pa, their map at mb, stand for L. No count is above c. -/
structure LkAt (w : World) (pa mb : Nat) (L : LS) (c : Int) : Prop where
  head : Blk w pa 54 #[.int .i64 L.length, .map (some mb)]
  map : MapOf w mb L
  ok : LS.Ok L c
/-- All but the locks themselves stays. -/
abbrev KeepL (pa mb : Nat) (w w' : World) : Prop := Keep (fun k => k ≠ pa ∧ k ≠ mb) w w'
section
variable {w w' : World} {pa mb : Nat} {L : LS} {c : Int} {X : Nat → Prop}
theorem LkAt.keep (h : LkAt w pa mb L c) (hk : Keep X w w') (h1 : X pa) (h2 : X mb) : LkAt w' pa mb L c := ⟨h.head.keep hk h1, h.map.keep hk h2, h.ok⟩
theorem LkAt.ne (h : LkAt w pa mb L c) : mb ≠ pa := h.map.ne_blk h.head
theorem LkAt.below (h : LkAt w pa mb L c) (hb : Below w.heap.size w w') : LkAt w' pa mb L c :=
  h.keep (X := fun k => k < w.heap.size) (Keep.ofBelow hb (fun _ h => h)) h.head.lt h.map.lt
theorem LkAt.mono {d : Int} (h : LkAt w pa mb L c) (hd : c ≤ d) : LkAt w pa mb L d := ⟨h.head, h.map, h.ok.mono hd⟩
end
end Go.Proofs.Ytbfnadpkgiglmaa
