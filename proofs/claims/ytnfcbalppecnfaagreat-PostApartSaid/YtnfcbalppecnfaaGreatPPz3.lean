/-
  A number sought in a slice of numbers; which queues there are; slices of a law's operations, out of their readings. No condition.
-/
import Derived.Test.YtnfcbalppecnfaaGreatPPz2
import Derived.Test.YtnfcbalppecnfaaGreatPTr1
namespace Go.Proofs.YtnfcbalppecnfaaGreat
open Go.RowKit Go.Maps Go.Deep Go.ChangeShapes Go.WideShapes
set_option linter.unusedVariables false
set_option linter.unusedSimpArgs false
def amongZ (xs : List Int) (x : Int) : Bool := xs.any (fun y => y == x)
theorem amongZ_iff (xs : List Int) (x : Int) : amongZ xs x = true ↔ x ∈ xs := by
  unfold amongZ; rw [List.any_eq_true]
  exact ⟨fun ⟨y, h1, h2⟩ => by have : y = x := by simpa using h2
                               exact this ▸ h1, fun h => ⟨x, h, by simp⟩⟩
theorem amongZ_succ (xs : List Int) (x : Int) (k : Nat) (hk : k < xs.length) : amongZ (xs.take (k + 1)) x = (amongZ (xs.take k) x || (xs.getD k 0 == x)) := by
  have e : xs.getD k 0 = xs[k] := by simp [List.getD, hk]
  unfold amongZ
  rw [List.take_succ_eq_append_getElem (by omega), List.any_append, e]
  simp
theorem amongZ_take {xs : List Int} {x : Int} {k : Nat} (h : amongZ (xs.take k) x = true) : amongZ xs x = true := by
  rw [amongZ_iff] at *; exact List.take_subset _ _ h
def IntsAt (w : World) (a : Option Addr) (xs : List Int) : Prop :=
  ∀ j, j < xs.length → ∃ b off, a = some ⟨b, off, none⟩ ∧ b < w.heap.size ∧ w.cell? ⟨b, off + j, none⟩ = some (.int .i64 (xs.getD j 0))
theorem own_ints {w : World} {base : Nat} {u : Value} {xs : List Int} (h : w.ownsRow base 3 1 u xs.length (xs.map (Value.int .i64))) : ∃ a c, u = .slice a xs.length c ∧ IntsAt w a xs := by
  rcases h.2 with ⟨rfl, h0⟩ | ⟨g, cap, cur, rfl, _, hb, _⟩
  · exact ⟨none, 0, by rw [h0], fun j hj => by omega⟩
  · refine ⟨_, _, rfl, fun j hj => ⟨g, 0, rfl, (show Blk w g 3 cur from hb).lt, ?_⟩⟩
    rw [Nat.zero_add, h.cellAt j (by omega)]
    simp [List.getD, hj]
theorem has_ints {w : World} {a : Option Addr} {c : Nat} {xs : List Int} (h : IntsAt w a xs) (hs : xs.length ≤ 2305843009213693952) (x : Int) :
    Calls Tryz.prog 8 #[.slice a xs.length c, .int .i64 x] w fun e w' => e = .returned (.bool (amongZ xs x)) ∧ w = w' := by
  have H := Lib.hid h; clear h
  have HS := Lib.hid (amongZ_succ xs x)
  go_enter Tryz.func8, Tryz.ntmps8
  go_wp2
  go_loop [5] (fun i => ∃ k : Nat, k ≤ xs.length ∧ i = .int .i64 k ∧ Hid (amongZ (xs.take k) x = false)) (fun i => xs.length - (intOf i).toNat)
  case atStart => exact ⟨0, by omega, rfl, Lib.hid rfl⟩
  case round =>
    obtain ⟨k, hk, rfl, HA⟩ := hrel
    by_cases hlt : k < xs.length
    · obtain ⟨b, off, rfl, hb, hc⟩ := H.out k hlt
      have hs := HS.out k hlt
      rw [HA.out, Bool.false_or] at hs
      generalize xs.getD k 0 = y at hc hs
      cases hy : (y == x) with
      | true =>
        rw [hy] at hs
        have HF := Lib.hid (amongZ_take hs); clear hs
        go_wp2
        go_ret
        exact ⟨by rw [HF.out]; rfl, rfl⟩
      | false =>
        rw [hy] at hs
        have HN := Lib.hid hs; clear hs
        go_wp2
        go_round
        case rel => exact ⟨k + 1, by omega, by go_num, HN⟩
        case measure => simp [intOf]; omega
    · obtain rfl : k = xs.length := by omega
      have HE : Hid (amongZ xs x = false) := Lib.hid (by have := HA.out; rwa [List.take_length] at this)
      go_wp2
      go_ret
      exact ⟨by rw [HE.out]; rfl, rfl⟩
theorem has_k {w : World} {a : Option Addr} {c : Nat} {xs : List Int} (h : IntsAt w a xs) (hs : xs.length ≤ 8) (x : Int) : Calls Tryz.prog 8 #[.slice a xs.length c, .int .i64 x] w fun e w' => e = .returned (.bool (amongZ xs x)) ∧ Keep (fun g => g < w.heap.size) w w' :=
  (has_ints h (by omega) x).mono fun e w' h => ⟨h.1, by rw [← h.2]; exact Keep.refl _ _⟩
theorem not_in {ks : List Int} {f : Int → Option Qu} {k : Int} (hm : ∀ x, x ∈ ks ↔ (f x).isSome = true) (h : amongZ ks k = false) : f k = none := by
  cases hf : f k with
  | none => rfl
  | some q =>
    have h1 := (amongZ_iff ks k).2 ((hm k).2 (by rw [hf]; rfl))
    rw [h] at h1; cases h1
theorem is_in {ks : List Int} {f : Int → Option Qu} {k : Int} (hm : ∀ x, x ∈ ks ↔ (f x).isSome = true) (h : amongZ ks k = true) : ∃ q, f k = some q :=
  Option.isSome_iff_exists.1 ((hm k).1 ((amongZ_iff ks k).1 h))
section
variable {W : World} {B b0 mb n : Nat} {R : Nat → Prop} {made k : Int} {f : Int → Option Qu}
theorem PoAt.keysOf_len (h : PoAt B R W b0 mb made f n) : (keysOf f made).length = n := by
  obtain ⟨D, hown, hsz, hat, hp⟩ := h.keys_perm
  have hkeys : (intKeys D).length = Maps.size D := by
    obtain ⟨es, rfl, _⟩ := hown.entries lawN
    simp [intKeys, Maps.size]
  rw [hp.length_eq, hkeys, hsz]
theorem queues_in (h : PoAt B R W b0 mb made f n) : Calls Tryz.prog 9 #[.pointer (some ⟨b0, 0, none⟩)] W fun e w' => ∃ a c xs, e = .returned (.slice a xs.length c) ∧ IntsAt w' a xs ∧ xs.length ≤ 8 ∧ (∀ x, x ∈ xs ↔ (f x).isSome = true) ∧ Keep (fun g => g < W.heap.size) W w' := by
  refine Calls.mono (queues_all h) ?_
  rintro e w' ⟨v, rfl, hr, kk⟩
  have hl := h.keysOf_len
  rw [← hl] at hr
  obtain ⟨a, c, rfl, hi⟩ := own_ints (xs := keysOf f made) hr
  exact ⟨a, c, _, rfl, hi, by rw [hl]; exact h.few, h.keysOf_mem, kk⟩
end
abbrev OP := Int × Int × Int × TP
def ocells (q : OP) : List Value := [.int .i64 q.1, .int .i64 q.2.1, .int .i64 q.2.2.1, .int .i64 q.2.2.2.1.k, .string (str q.2.2.2.1.nm), .int .i64 q.2.2.2.1.i, .slice q.2.2.2.2.1 q.2.2.2.1.args.length q.2.2.2.2.2]
def OSl (B0 : Nat) (w : World) (a : Option Addr) (os : List OP) : Prop :=
  ∀ j q, os[j]? = some q → (∃ b off, a = some ⟨b, off, none⟩ ∧ b < B0 ∧ ∀ f v, (ocells q)[f]? = some v → w.cell? ⟨b, off + j * 7 + f, none⟩ = some v) ∧ (ik q.2.1).wf = true ∧ TmAt B0 w q.2.2.2.1 q.2.2.2.2.1 q.2.2.2.2.2
section
variable {w w' : World} {a : Option Addr} {os : List OP}
theorem osl_on (h : OSl w.heap.size w a os) (k : Keep (fun g => g < w.heap.size) w w') : OSl w'.heap.size w' a os := fun j q hq => by
  obtain ⟨⟨b, off, ha, hb, hc⟩, h1, h2⟩ := h j q hq
  exact ⟨⟨b, off, ha, Nat.lt_of_lt_of_le hb k.size, fun f v hv => (World.cell?_of_block (a := ⟨b, off + j * 7 + f, none⟩) (k.block b hb hb)).trans (hc f v hv)⟩, h1, h2.on k⟩
theorem osl_addr {B : Nat} (h : OSl B w a os) {j : Nat} (hj : j < os.length) : ∃ b off, a = some ⟨b, off, none⟩ ∧ b < B := by
  obtain ⟨⟨b, off, ha, hb, _⟩, _⟩ := h j os[j] (List.getElem?_eq_getElem hj)
  exact ⟨b, off, ha, hb⟩
theorem osl_at {B b off : Nat} (h : OSl B w a os) (ha : a = some ⟨b, off, none⟩) {j : Nat} {q : OP} (hj : os[j]? = some q) : (w.cell? ⟨b, off + j * 7, none⟩ = some (.int .i64 q.1) ∧ w.cell? ⟨b, off + j * 7 + 1, none⟩ = some (.int .i64 q.2.1) ∧ w.cell? ⟨b, off + j * 7 + 2, none⟩ = some (.int .i64 q.2.2.1) ∧ w.cell? ⟨b, off + j * 7 + 3, none⟩ = some (.int .i64 q.2.2.2.1.k) ∧ w.cell? ⟨b, off + j * 7 + 4, none⟩ = some (.string (str q.2.2.2.1.nm)) ∧ w.cell? ⟨b, off + j * 7 + 5, none⟩ = some (.int .i64 q.2.2.2.1.i) ∧ w.cell? ⟨b, off + j * 7 + 6, none⟩ = some (.slice q.2.2.2.2.1 q.2.2.2.1.args.length q.2.2.2.2.2)) ∧ (ik q.2.1).wf = true ∧ TmAt B w q.2.2.2.1 q.2.2.2.2.1 q.2.2.2.2.2 := by
  obtain ⟨⟨b', off', ha', hb, hc⟩, h1, h2⟩ := h j q hj
  rw [ha] at ha'
  cases ha'
  exact ⟨⟨hc 0 _ rfl, hc 1 _ rfl, hc 2 _ rfl, hc 3 _ rfl, hc 4 _ rfl, hc 5 _ rfl, hc 6 _ rfl⟩, h1, h2⟩
variable {H : Type} {enc : TypeId × Value → H} {base : Nat} {spare : Nat → Bool} {held : Bool}
theorem cellsOp : Tryz.prog.cellsOf 30 = 7 := by kernel_rfl
theorem cellsInt' : Tryz.prog.cellsOf 3 = 1 := by kernel_rfl
set_option maxRecDepth 100000 in
theorem op_of {n : Nat} {cs : List Value} {x : DataW H × List MemPlace} (h : DataW.trod enc Tryz.prog w base spare held n 30 cs = some x) : ∃ q : OP, cs = ocells q ∧ (ik q.2.1).wf = true ∧ TmAt w.heap.size w q.2.2.2.1 q.2.2.2.2.1 q.2.2.2.2.2 := by
  obtain ⟨xs, m, rfl, _, hlen, hxs, hf⟩ := DataW.trod_struct Tryz.underlying30 h
  rw [cellsOp] at hlen
  match cs, hlen with
  | [v0, v1, v2, v3, v4, v5, v6], _ =>
    match xs, hxs with
    | [y0, y1, y2, y3], _ =>
      have g0 := hf 0 _ rfl
      have g1 := hf 1 _ rfl
      have g2 := hf 2 _ rfl
      have g3 := hf 3 _ rfl
      simp [cellsInt', cellsT] at g0 g1 g2 g3
      obtain ⟨k0, e0, _, w0⟩ := DataW.trod_int Tryz.underlying3 g0
      obtain ⟨k1, e1, _, w1⟩ := DataW.trod_int Tryz.underlying3 g1
      obtain ⟨k2, e2, _, w2⟩ := DataW.trod_int Tryz.underlying3 g2
      obtain ⟨t, a, c, e3, hT⟩ := tm_of _ g3
      simp at e0 e1 e2
      subst e0 e1 e2
      exact ⟨(k0, k1, k2, t, a, c), by unfold ocells; rw [e3]; rfl, w1, hT⟩
set_option maxRecDepth 100000 in
theorem osl_of {n len cap : Nat} {a : Option Addr} {x : DataW H × List MemPlace} (h : DataW.trod enc Tryz.prog w base spare held n 22 [.slice a len cap] = some x) :
    ∃ os : List OP, os.length = len ∧ OSl w.heap.size w a os ∧ ((x.1 = .nil ∧ len = 0) ∨ ∃ es sp, x.1 = .slice es sp ∧ es.length = len) := by
  rcases DataW.trod_slice Tryz.underlying22 h with ⟨hcs, hx⟩ | ⟨ad, len, cap, elems, rest, m2, rfl, hcs, hx, _, hl, hm, hel, hall, _⟩
  · simp at hcs
    obtain ⟨rfl, rfl, rfl⟩ := hcs
    exact ⟨[], rfl, fun j p hj => by simp at hj, .inl ⟨by rw [hx], rfl⟩⟩
  · simp at hcs
    obtain ⟨rfl, rfl, rfl⟩ := hcs
    have each : ∀ j, j < len → ∃ q : OP, w.cells? base (ad.add (j * 7)) 7 = some (ocells q) ∧ (ik q.2.1).wf = true ∧ TmAt w.heap.size w q.2.2.2.1 q.2.2.2.2.1 q.2.2.2.2.2 := fun j hj => by
      have hj2 := hall j hj
      rw [cellsOp, List.getElem?_eq_getElem (by rw [hel]; exact hj)] at hj2
      obtain ⟨cs', hc', ht'⟩ := Option.bind_eq_some_iff.1 hj2
      obtain ⟨q, rfl, hk, hat⟩ := op_of ht'
      exact ⟨q, hc', hk, hat⟩
    obtain ⟨F, hF⟩ := choose_lt each
    refine ⟨(List.range len).map F, by simp, fun j p hj => ?_, .inr ⟨_, _, by rw [hx], by simpa using hel⟩⟩
    have hj2 : j < len := by
      rcases Nat.lt_or_ge j len with h1 | h1
      · exact h1
      · rw [List.getElem?_eq_none (by simpa using h1)] at hj; cases hj
    simp [hj2] at hj
    subst hj
    obtain ⟨hb, hlen', hcell⟩ := World.cells?_some (hF j hj2).1
    obtain ⟨b, off, spot⟩ := ad
    have hspot : spot = none := by
      obtain ⟨_, _, hc0⟩ := World.cells?_some (hF 0 (by omega)).1
      have h0 := World.cell?_spot ((hc0 0 (by omega)).trans rfl)
      simpa [Addr.add] using h0
    subst hspot
    have hadd : ∀ f : Nat, ((⟨b, off, none⟩ : Addr).add (j * 7)).add f = ⟨b, off + j * 7 + f, none⟩ := fun f => by
      by_cases hj0 : j = 0
      · subst hj0
        by_cases hf0 : f = 0
        · subst hf0; simp [Addr.add]
        · simp [Addr.add, hf0]
      · have h4 : ¬ j * 7 = 0 := by omega
        unfold Addr.add
        rw [if_neg h4]
        by_cases hf0 : f = 0
        · subst hf0; simp
        · rw [if_neg hf0]
    have hlt7 : ∀ (f : Nat) (v : Value), (ocells (F j))[f]? = some v → f < 7 := fun f v hv => by
      rcases Nat.lt_or_ge f 7 with h1 | h1
      · exact h1
      · rw [List.getElem?_eq_none (by simpa [ocells] using h1)] at hv; cases hv
    have h0 := hcell 0 (by omega)
    rw [hadd 0] at h0
    refine ⟨⟨b, off, rfl, cell_blk (h0.trans rfl), fun f v hv => ?_⟩, (hF j hj2).2.1, (hF j hj2).2.2⟩
    have := hcell f (hlt7 f v hv)
    rw [hadd f] at this
    exact this.trans hv
theorem bytesOp : Tryz.prog.bytesOf 30 = 80 := by kernel_rfl
end
end Go.Proofs.YtnfcbalppecnfaaGreat
