/-
  Joined texts (Sx1). No condition.
-/
import Derived.Test.YthbofkffklejoaaQMO
import Derived.Test.YthbofkffklejoaaQMP
namespace Go.Proofs.Ythbofkffklejoaa
open Go.RowKit Go.Maps
set_option linter.unusedVariables false
set_option linter.unusedSimpArgs false
theorem enter_sx {P : Program} {f : FuncId} {fn : Func} {c : Code} {args : Array Value} {w : World} {R : Ending → World → Prop} {n : Nat} (hf : P.funcs[f]? = some fn) (hb : fn.body = some c) (hn : fn.ntmps = n) (hs : args.size ≤ n)
    (h : ∀ a : Act, FrS n a → (∀ (k : Nat) (v : Value), args[k]? = some v → a.tmps[k]? = some v) → c.wp P (bodyPost P fn R) a w) : Calls P f args w R := by
  refine calls_of_wp hf hb (h _ ⟨?_, rfl⟩ fun k v hk => ?_)
  · show (args ++ Array.replicate (fn.ntmps - args.size) undef).size = n
    rw [Array.size_append, Array.size_replicate, hn]; omega
  · show (args ++ Array.replicate (fn.ntmps - args.size) undef)[k]? = some v
    have hlt : k < args.size := by
      rcases Nat.lt_or_ge k args.size with h | h
      · exact h
      · rw [Array.getElem?_eq_none h] at hk; cases hk
    rw [Array.getElem?_append_left hlt]; exact hk
theorem vars_sx {w : World} {t : Tm} {a : Option Addr} {c : Nat} {l : List Int} {L : Nat} (hT : TmAt w.heap.size w t a c) (hl : vaV t = l) (hn : l.length = L) :
    Calls Try.prog 18 #[tv t a c] w fun e w' => ∃ gb ua uc, e = .returned (.slice ua L uc) ∧ ((0 < L → ua = some ⟨gb, 0, none⟩ ∧ w.heap.size ≤ gb ∧ gb < w'.heap.size) ∧ ∀ (k : Nat) (x : Int), l[k]? = some x → w'.cell? ⟨gb, k, none⟩ = some (.int .i64 x)) ∧ Keep (fun g => g < w.heap.size) w w' := by
  have h := Vars_any hT
  rw [hl, hn] at h
  refine Calls.mono h ?_
  rintro e w' ⟨u, rfl, hrow, hk⟩
  by_cases h0 : 0 < L
  · obtain ⟨g, cap, cs, h1, hB, hC, hD, hc⟩ := row_some hrow h0
    subst h1
    exact ⟨g, _, cap, rfl, ⟨fun _ => ⟨rfl, hB, hC.lt⟩, fun k x hk => hc k _ (by rw [List.getElem?_map, hk]; rfl)⟩, hk⟩
  · have hz : L = 0 := by omega
    have hno : ∀ (k : Nat) (x : Int), l[k]? = some x → w'.cell? ⟨0, k, none⟩ = some (.int .i64 x) := fun k x hx => by rw [List.getElem?_eq_none (by omega)] at hx; cases hx
    rcases hrow.2 with ⟨h1, h2⟩ | ⟨g, cap, cur, h1, hcur⟩
    · exact ⟨0, none, 0, by rw [h1, hz], ⟨fun h => absurd h h0, hno⟩, hk⟩
    · exact ⟨0, some ⟨g, 0, none⟩, cap, by rw [h1], ⟨fun h => absurd h h0, hno⟩, hk⟩
theorem cell_on {w w' : World} {b k : Nat} {v : Value} (h : w.cell? ⟨b, k, none⟩ = some v) (hk : Keep (fun g => g < w.heap.size) w w') : w'.cell? ⟨b, k, none⟩ = some v := by
  have hb : b < w.heap.size := World.block_lt_of_cell? w ⟨b, k, none⟩ h
  have := hk.block b hb hb
  unfold World.cell? at h ⊢
  simp only at h ⊢
  rw [this]; exact h
end Go.Proofs.Ythbofkffklejoaa
