/-
  Package atoms in memory: the map of names: asked, given a name more, a name less. No condition.
-/
import Derived.Test.YtebdlggmpojgdaaAtoms14
namespace Go.Proofs.Ytebdlggmpojgdaa
open Go.RowKit Go.Maps
set_option linter.unusedVariables false

def str (l : List UInt8) : ByteArray := ⟨l.toArray⟩
theorem str_data (l : List UInt8) : (str l).data.toList = l := by simp [str]
theorem str_of {s : ByteArray} {l : List UInt8} (h : s.data.toList = l) : s = str l := by subst h; rfl
theorem str_size (l : List UInt8) : (str l).size = l.length := by simp [str, ByteArray.size]
theorem str_inj {a b : List UInt8} (h : str a = str b) : a = b := by rw [← str_data a, h, str_data]
theorem str_ne {a b : List UInt8} (h : ¬ a = b) : ((str a).toList == (str b).toList) = false := by
  rw [ByteArray.toList_eq, ByteArray.toList_eq, str_data, str_data]; simpa using h
def TS.has (T : TS) (b : Int) : Bool := (T.names.find? (fun e => e.1 == b)).isSome
abbrev noStr : DataW Value := .held (.string ⟨#[]⟩)
theorem zeroStr (w : World) : (zeroValue 9).run Try.prog w = .ok (.string ⟨#[]⟩) w := by kernel_rfl

/-- The map at block nb holds the names of T; c bounds how often it was written. -/
structure NMap (w : World) (nb : Nat) (c : Int) (T : TS) : Prop where
  own : ∃ (n : Nat) (D : DataW Value), w.ownsMap Try.prog 3 slotElem nb n D ∧ (n : Int) ≤ c ∧ (∀ k, D.atKey (ik k) noStr = .held (.string (str (T.name k)))) ∧ (∀ k, Maps.has D (ik k) = T.has k)

section
variable {w w' : World} {nb : Nat} {c : Int} {T : TS} {Y : Nat → Prop}
theorem NMap.lt (h : NMap w nb c T) : nb < w.heap.size := by obtain ⟨n, D, o, _⟩ := h.own; exact o.lt
theorem NMap.keep (h : NMap w nb c T) (hk : Keep Y w w') (hY : Y nb) : NMap w' nb c T := by
  have hlt := h.lt
  obtain ⟨n, D, ⟨es, clock, hb, r⟩, r2⟩ := h.own
  exact ⟨n, D, ⟨es, clock, (hk.block nb hlt hY).trans hb, r⟩, r2⟩
theorem NMap.le (h : NMap w nb c T) {c' : Int} (hc : c ≤ c') : NMap w nb c' T := by
  obtain ⟨n, D, o, h1, r⟩ := h.own
  exact ⟨n, D, o, by omega, r⟩
theorem NMap.drew (h : NMap w nb c T) : NMap w.drew nb c T := h.keep ((Keep.refl (fun _ => True) w).drew) trivial
theorem NMap.ne_blk (h : NMap w nb c T) {g : Nat} {t : TypeId} {cs : Array Value} (hg : Blk w g t cs) : nb ≠ g := by
  obtain ⟨n, D, o, _⟩ := h.own; exact own_ne o hg
theorem NMap.setCell (h : NMap w nb c T) {p : Addr} (hp : nb ≠ p.block) (u : Value) : NMap (w.setCell p u) nb c T :=
  h.keep (Y := (· ≠ p.block)) ((Keep.refl _ w).setCell (fun hh => hh rfl) u) hp
theorem NMap.look (h : NMap w nb c T) {k : Int} (hk : (ik k).wf = true) : (Instr.lookup 82 (.map (some nb)) (.int .i64 k) false).run Try.prog w = .ok (.string (str (T.name k))) w := by
  obtain ⟨n, D, o, _, hat, _⟩ := h.own
  obtain ⟨v, ps, hrun, hv⟩ := o.lookup law3 Try.underlying82 (zeroStr w) (zd := noStr) (zp := []) rfl (keyOf_int_mk Try.underlying3 hk)
  rw [hat k] at hv
  unfold slotElem at hv
  simp only [Option.some.injEq, Prod.mk.injEq, DataW.held.injEq] at hv
  rw [hv.1] at hrun
  exact hrun
theorem NMap.lookOk (h : NMap w nb c T) {k : Int} (hk : (ik k).wf = true) : (Instr.lookup 82 (.map (some nb)) (.int .i64 k) true).run Try.prog w = .ok (.tuple #[.string (str (T.name k)), .bool (T.has k)]) w := by
  obtain ⟨n, D, o, _, hat, hhas⟩ := h.own
  obtain ⟨v, ps, hrun, hv⟩ := o.look_ok law3 Try.underlying82 (zeroStr w) (zd := noStr) (zp := []) rfl (keyOf_int_mk Try.underlying3 hk)
  rw [hat k] at hv
  unfold slotElem at hv
  simp only [Option.some.injEq, Prod.mk.injEq, DataW.held.injEq] at hv
  rw [hv.1, hhas k] at hrun
  exact hrun
theorem TS.name_cons (T : TS) (b : Int) (s : List UInt8) (k : Int) : ({ T with names := (b, s) :: T.names } : TS).name k = if k = b then s else T.name k := by
  unfold TS.name
  rw [List.find?_cons]
  by_cases hk : k = b
  · simp [hk]
  · have : (b == k) = false := by simp; omega
    simp [this, hk]
theorem TS.has_cons (T : TS) (b : Int) (s : List UInt8) (k : Int) : ({ T with names := (b, s) :: T.names } : TS).has k = if k = b then true else T.has k := by
  unfold TS.has
  rw [List.find?_cons]
  by_cases hk : k = b
  · simp [hk]
  · have : (b == k) = false := by simp; omega
    simp [this, hk]
theorem find_filter (l : List (Int × List UInt8)) (b k : Int) : (l.filter (fun e => !(e.1 == b))).find? (fun e => e.1 == k) = if k = b then none else l.find? (fun e => e.1 == k) := by
  induction l with
  | nil => simp
  | cons e l ih =>
    rw [List.filter_cons]
    by_cases he : e.1 = b
    · have h1 : (!(e.1 == b)) = false := by simp [he]
      rw [if_neg (by simp [h1]), ih]
      by_cases hk : k = b
      · simp [hk]
      · have : (e.1 == k) = false := by simp; omega
        simp [hk, this]
    · have h1 : (!(e.1 == b)) = true := by simp [he]
      rw [if_pos h1, List.find?_cons, List.find?_cons, ih]
      by_cases hek : e.1 = k
      · have : ¬ k = b := by omega
        simp [hek, this]
      · have : (e.1 == k) = false := by simpa using hek
        rw [this]
theorem TS.name_del (T : TS) (b k : Int) : ({ T with names := T.names.filter (fun e => !(e.1 == b)) } : TS).name k = if k = b then [] else T.name k := by
  unfold TS.name
  rw [find_filter]
  by_cases hk : k = b <;> simp [hk]
theorem TS.has_del (T : TS) (b k : Int) : ({ T with names := T.names.filter (fun e => !(e.1 == b)) } : TS).has k = if k = b then false else T.has k := by
  unfold TS.has
  rw [find_filter]
  by_cases hk : k = b <;> simp [hk]
/-- A name more. -/
theorem NMap.put (h : NMap w nb c T) (hc : c < 281474976710656) {b : Int} (hb : (ik b).wf = true) (s : List UInt8) :
    ∃ w', (Instr.mapUpdate 82 (.map (some nb)) (.int .i64 b) (.string (str s))).run Try.prog w = .ok () w' ∧ NMap w' nb (c + 1) { T with names := (b, s) :: T.names } ∧ w.mapTurned w' nb := by
  obtain ⟨n, D, o, hn, hat, hhas⟩ := h.own
  obtain ⟨w', hrun, o', ht⟩ := o.store law3 Try.underlying82 (by unfold maxLen; omega) (keyOf_int_mk Try.underlying3 hb) (val := .string (str s)) (d := .held (.string (str s))) (ps := []) rfl
  refine ⟨w', hrun, ⟨n + 1, _, o', by omega, fun k => ?_, fun k => ?_⟩, ht⟩
  · rw [TS.name_cons]
    by_cases hk : k = b
    · subst hk
      rw [if_pos rfl, atKey_put_same o.isMap (ik_key _)]
    · rw [if_neg hk, atKey_put_other (ik_ne hk), hat]
  · rw [TS.has_cons]
    by_cases hk : k = b
    · subst hk
      rw [if_pos rfl, has_put_same o.isMap (ik_key _)]
    · rw [if_neg hk, has_put_other (ik_ne hk), hhas]
/-- A name less. -/
theorem NMap.del (h : NMap w nb c T) {b : Int} (hb : (ik b).wf = true) (ty : TypeId) :
    ∃ w', (Builtin.delete_ #[82, 3] ty #[.map (some nb), .int .i64 b]).run Try.prog w = .ok (.tuple #[]) w' ∧ NMap w' nb c { T with names := T.names.filter (fun e => !(e.1 == b)) } ∧ w.mapTurned w' nb := by
  obtain ⟨n, D, o, hn, hat, hhas⟩ := h.own
  obtain ⟨w', hrun, o', ht⟩ := o.drop law3 Try.underlying82 (keyOf_int_mk Try.underlying3 hb) ty
  refine ⟨w', hrun, ⟨n, _, o', hn, fun k => ?_, fun k => ?_⟩, ht⟩
  · rw [TS.name_del]
    by_cases hk : k = b
    · subst hk
      rw [if_pos rfl, atKey_del_same]
      rfl
    · rw [if_neg hk, atKey_del_other (ik_ne hk), hat]
  · rw [TS.has_del]
    by_cases hk : k = b
    · subst hk
      rw [if_pos rfl, has_del_same]
    · rw [if_neg hk, has_del_other (ik_ne hk), hhas]
end
end Go.Proofs.Ytebdlggmpojgdaa
