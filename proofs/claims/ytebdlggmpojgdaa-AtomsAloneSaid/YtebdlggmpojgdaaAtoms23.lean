/-
  Package atoms in memory: New; a new table's plain state. Condition: there is room for its block.
-/
import Derived.Test.YtebdlggmpojgdaaAtoms22
namespace Go.Proofs.Ytebdlggmpojgdaa
open Go.RowKit Go.Maps
set_option linter.unusedVariables false

def TS.new (f L mo : Int) : TS := ⟨f, L, min (max mo 0) 4096, []⟩
theorem AInv.new_ (c b mo : Int) (hr : (AS.new c).allocErr (1 + min (max b 1) 64) = 0) :
    AInv ((AS.new c).allocAt (1 + min (max b 1) 64)) (TS.new 1 (min (max b 1) 64) mo) [] 0 [] (1 + min (max b 1) 64).toNat (AS.new c).most := by
  have hL : 1 ≤ min (max b 1) 64 ∧ min (max b 1) 64 ≤ 64 := by omega
  generalize min (max b 1) 64 = L at hr hL ⊢
  have eA : (AS.new c).allocAt (1 + L) = (AS.new c).alloc (1 + L).toNat := by unfold AS.allocAt; rw [if_pos hr]
  have hu : (AS.new c).used + ((1 + L).toNat : Int) ≤ (AS.new c).most := by
    unfold AS.allocErr at hr
    rw [if_neg (by omega)] at hr
    split at hr
    · cases hr
    · omega
  rw [eA]
  obtain ⟨n, hn⟩ : ∃ n : Nat, L = n := ⟨L.toNat, by omega⟩
  subst hn
  have e1 : (1 + (n : Int)).toNat = n + 1 := by omega
  rw [e1] at hu ⊢
  have el : Go.Proofs.Ytebdlggmpojgdaa.look ((AS.new c).alloc (n + 1)).bl 1 = some (0 :: List.replicate n 0) := by
    simp [AS.alloc, AS.new, look_cons, List.replicate_succ]
  refine ⟨(AS.new_ok c).alloc (by omega) (by omega) hu, rfl, rfl, by simp [AS.alloc, AS.new, Go.Proofs.Ytebdlggmpojgdaa.owns], by simp [AS.alloc, AS.new, Go.Proofs.Ytebdlggmpojgdaa.owns] <;> omega, ⟨⟨_, el, by simp [TS.new], ?_⟩, by decide, by decide, by simp, List.Pairwise.nil, by simp [TS.new]; omega⟩, by simp, by simp⟩
  intro h hh
  exact .inl (List.eq_of_mem_replicate hh)
section
variable {w w' : World} {X Y : Nat → Prop} {pa po pt nb : Nat} {o : OS} {T T' : TS} {A A' : AS}
theorem nmap_new (w : World) (c : Int) (hc : 0 ≤ c) (f L mo : Int) : NMap (w.alloc (.map #[] 0)) w.heap.size c (TS.new f L mo) :=
  ⟨⟨0, .map [], World.ownsMap_made w Try.prog 3 slotElem, by simpa using hc, fun k => rfl, fun k => rfl⟩⟩
set_option maxHeartbeats 1000000 in
theorem tnew_any (h : Arena w X pa A) (hX : ∀ k, w.heap.size ≤ k → ¬ X k) (b mo : Int) (hm : A.made < 20000) (hr : A.allocErr (1 + min (max b 1) 64) = 0) :
    Calls Try.prog 10 #[.pointer (some ⟨pa, 0, none⟩), .int .i64 b, .int .i64 mo] w fun e w' => ∃ pt nb, e = .returned (.tuple #[.pointer (some ⟨pt, 0, none⟩), .int .i64 0]) ∧
      Tab w' (fun k => X k ∨ k = pt ∨ k = nb) pa pt nb (A.allocAt (1 + min (max b 1) 64)) (TS.new (A.allocNo (1 + min (max b 1) 64)) (min (max b 1) 64) mo) ∧ Keep X w w' ∧ w.heap.size ≤ pt ∧ w.heap.size ≤ nb := by
  have hal := alloc_any h (1 + min (max b 1) 64) (by omega) hX
  have hL : 1 ≤ min (max b 1) 64 ∧ min (max b 1) 64 ≤ 64 := by omega
  rw [hr] at hal
  have hmd : 0 ≤ (A.allocAt (1 + min (max b 1) 64)).made := by
    have := h.ok.made0
    unfold AS.allocAt; rw [if_pos hr]; show 0 ≤ A.made + 1; omega
  generalize hXb : max b 1 = X1 at hal hL hmd ⊢
  generalize hL1 : min X1 64 = L at hal hL hmd ⊢
  generalize A.allocAt (1 + L) = A1 at hal hmd ⊢
  generalize A.allocNo (1 + L) = f at hal ⊢
  obtain ⟨M1, hM1⟩ : ∃ M1, M1 = max mo 0 := ⟨_, rfl⟩
  obtain ⟨M2, hM2⟩ : ∃ M2, M2 = min M1 4096 := ⟨_, rfl⟩
  have i3 := hM1.symm
  have i4 := hM2.symm
  have eT : ∀ f L, TS.new f L mo = ⟨f, L, M2, []⟩ := fun f L => by unfold TS.new; rw [hM2, hM1]
  have hfin : ∀ w1, Arena w1 X pa A1 → Keep X w w1 → Tab ((w1.alloc (.map #[] 0)).alloc (.cells #[.pointer (some ⟨pa, 0, none⟩), .int .i64 f, .int .i64 L, .int .i64 M2, .map (some w1.heap.size)] 84)) (fun k => X k ∨ k = w1.heap.size + 1 ∨ k = w1.heap.size) pa (w1.heap.size + 1) w1.heap.size A1 (TS.new f L mo) ∧ Keep X w ((w1.alloc (.map #[] 0)).alloc (.cells #[.pointer (some ⟨pa, 0, none⟩), .int .i64 f, .int .i64 L, .int .i64 M2, .map (some w1.heap.size)] 84)) := fun w1 a k => by
    refine ⟨⟨((a.less (Y := fun k => X k ∨ k = w1.heap.size + 1 ∨ k = w1.heap.size) (fun k hk hy => hy.resolve_right (by omega))).alloc _).alloc _, ?_, ?_, .inr (.inl rfl), .inr (.inr rfl), ?_, by rw [eT]; exact hL, by rw [eT]; simp⟩, (k.alloc _).alloc _⟩
    · have hb := Blk.new (w1.alloc (.map #[] 0)) 84 #[.pointer (some ⟨pa, 0, none⟩), .int .i64 f, .int .i64 L, .int .i64 M2, .map (some w1.heap.size)]
      simp only [World.size_alloc] at hb
      rw [eT]; exact hb
    · exact (nmap_new w1 _ hmd f L mo).keep (Y := fun _ => True) ((Keep.refl _ _).alloc _) trivial
    · intro k hk
      simp only [World.size_alloc] at hk
      rintro (hx | rfl | rfl)
      · exact hX k (by have := ‹Keep X w w1›.size; omega) hx
      · omega
      · omega
  have HAL := Lib.hid hal; clear hal
  have HF := Lib.hid hfin; clear hfin
  clear h hX hm hr hM1 hM2 eT hmd
  have hmm := @run_makeMap Try.prog
  go_enter Try.func10, Try.ntmps10
  go_wp2_with (go_at_call 34; refine HAL.out.mono ?_; rintro e w1 ⟨rfl, a1, k1⟩; have A1 := Lib.hid a1; clear a1; have K1 := Lib.hid k1; clear k1)
  go_ret2
  have hz := K1.out.size
  exact ⟨_, _, rfl, (HF.out _ A1.out K1.out).1, (HF.out _ A1.out K1.out).2, by omega, by omega⟩
end
end Go.Proofs.Ytebdlggmpojgdaa
