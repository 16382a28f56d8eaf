/-
  Joined texts (Tm13, Tm14, Tm15, Tm16, Tm17). No condition.
-/
import Derived.Test.YtfkbbbjicaedmaaGreatDoorQMA
import Derived.Test.YtfkbbbjicaedmaaGreatDoorQMB
import Derived.Deep.LoopGhost
import Derived.StillTailTactics
import Derived.Shelf.Abstract
import Derived.Deep.RegionHeld3
namespace Go.Proofs.YtfkbbbjicaedmaaGreatDoor
open Go.RowKit Go.Maps
set_option linter.unusedVariables false
abbrev TP := Tm × Option Addr × Nat
def TP.cells (p : TP) : List Value := p.1.cells p.2.1 p.2.2
theorem TP.cells_len (p : TP) : p.cells.length = 4 := rfl
theorem flat_get (ps : List TP) : ∀ (j f : Nat), f < 4 → (ps.flatMap TP.cells)[j * 4 + f]? = (ps[j]?).bind (fun p => p.cells[f]?) := by
  induction ps with
  | nil => intro j f _; simp
  | cons p ps ih =>
    intro j f hf
    rw [List.flatMap_cons]
    cases j with
    | zero =>
      rw [List.getElem?_append_left (by rw [TP.cells_len]; omega)]
      simp
    | succ j =>
      rw [List.getElem?_append_right (by rw [TP.cells_len]; omega), TP.cells_len, show (j + 1) * 4 + f - 4 = j * 4 + f by omega, ih j f hf]
      simp
theorem flat_len (ps : List TP) : (ps.flatMap TP.cells).length = ps.length * 4 := by
  induction ps with
  | nil => rfl
  | cons p ps ih => rw [List.flatMap_cons, List.length_append, ih, TP.cells_len, List.length_cons]; omega
inductive Fr (B0 : Nat) (Q : Nat → Prop) (w : World) (lo hi : Nat) : Tm → Option Addr → Nat → Prop
  | old {t : Tm} {a : Option Addr} {c : Nat} (h : TmAt B0 w t a c) (hl : lo ≤ hi) : Fr B0 Q w lo hi t a c
  | node {k i : Int} {nm : List UInt8} {ps : List TP} {rest : List Value} {b cp : Nat} (hk : (Lit.int .i64 k).wf = true) (hw : (Lit.int .i64 i).wf = true) (hn : nm.length ≤ maxLen) (h8 : ps.length ≤ maxLen)
      (hlb : lo ≤ b) (hub : b < hi) (hq : ¬ Q b) (blk : Blk w b 24 (ps.flatMap TP.cells ++ rest).toArray) (hcp : ps.length ≤ cp ∧ cp ≤ maxLen ∧ (ps.flatMap TP.cells ++ rest).length = cp * 4)
      (hs : ∀ (j : Nat) (p : TP), ps[j]? = some p → Fr B0 Q w lo hi p.1 p.2.1 p.2.2) : Fr B0 Q w lo hi (.node k nm i (ps.map (·.1))) (some ⟨b, 0, none⟩) cp
theorem get_lt' {α : Type} {l : List α} {i : Nat} {x : α} (h : l[i]? = some x) : i < l.length := (List.getElem?_eq_some_iff.1 h).1
theorem mono_to {m : Nat → Nat} {n : Nat} (h : ∀ j, j < n → m j ≤ m (j + 1)) : ∀ {i j : Nat}, i ≤ j → j ≤ n → m i ≤ m j := by
  intro i j hij hj
  induction j with
  | zero => rw [Nat.le_zero.1 hij]; exact Nat.le_refl _
  | succ j ih =>
    rcases Nat.lt_or_eq_of_le hij with hlt | heq
    · exact Nat.le_trans (ih (by omega) (by omega)) (h j (by omega))
    · rw [heq]; exact Nat.le_refl _
section
variable {B0 lo hi c : Nat} {Q Q' : Nat → Prop} {w w' : World} {t : Tm} {a : Option Addr}
theorem TmAt.keepX {X : Nat → Prop} (h : TmAt B0 w t a c) (hk : Keep X w w') (hX : ∀ k, k < B0 → X k) : TmAt B0 w' t a c := by
  induction h with
  | mk t a c A C hk1 hi hn hl hc ha ih =>
    refine .mk t a c A C hk1 hi hn hl (fun j x hj => ?_) ih
    obtain ⟨b, off, e, hlt, hv⟩ := hc j x hj
    refine ⟨b, off, e, hlt, fun f v hf => ?_⟩
    have h0 := hv f v hf
    have hb : b < w.heap.size := cell_blk h0
    exact (World.cell?_of_block (a := ⟨b, off + (j * 4 + f), none⟩) (hk.block b hb (hX b hlt))).trans h0
theorem Fr.grow (h : Fr B0 Q w lo hi t a c) {H : Nat} (hH : hi ≤ H) (hQ : ∀ k, Q' k → Q k ∨ H ≤ k) : Fr B0 Q' w lo hi t a c := by
  induction h with
  | old h hl => exact .old h hl
  | node hk1 hw hn h8 hlb hub hq blk hcp hs ih =>
    refine .node hk1 hw hn h8 hlb hub (fun h => ?_) blk hcp ih
    rcases hQ _ h with h | h
    · exact hq h
    · omega
theorem Fr.up {hi' lo' : Nat} (h : Fr B0 Q w lo hi t a c) (h1 : hi ≤ hi') (h2 : lo' ≤ lo) : Fr B0 Q w lo' hi' t a c := by
  induction h with
  | old h hl => exact .old h (by omega)
  | node hk1 hw hn h8 hlb hub hq blk hcp hs ih => exact .node hk1 hw hn h8 (by omega) (by omega) hq blk hcp ih
theorem Fr.at_ (h : Fr B0 Q w lo hi t a c) (hB : B0 ≤ lo) : TmAt hi w t a c := by
  induction h with
  | old h hl => exact h.up (by omega)
  | node hk1 hw hn h8 hlb hub hq blk hcp hs ih =>
    rename_i k i nm ps rest b cp
    refine .mk _ _ _ (fun j => (ps.getD j (default, none, 0)).2.1) (fun j => (ps.getD j (default, none, 0)).2.2) hk1 hw hn (by show (ps.map _).length ≤ maxLen; rw [List.length_map]; exact h8) (fun j x hj => ?_) (fun j x hj => ?_)
    · obtain ⟨p, hp, rfl⟩ : ∃ p, ps[j]? = some p ∧ p.1 = x := by
        simp only [Tm.args, List.getElem?_map] at hj
        exact Option.map_eq_some_iff.1 hj
      refine ⟨b, 0, rfl, hub, fun f v hv => ?_⟩
      have hf : f < 4 := get_lt' hv
      have hd : ps.getD j (default, none, 0) = p := by simp [List.getD, hp]
      rw [hd] at hv
      rw [Nat.zero_add, blk.cell]
      simp only [List.getElem?_toArray]
      rw [List.getElem?_append_left (by rw [flat_len]; have := get_lt' hp; omega), flat_get ps j f hf, hp]
      exact hv
    · obtain ⟨p, hp, rfl⟩ : ∃ p, ps[j]? = some p ∧ p.1 = x := by
        simp only [Tm.args, List.getElem?_map] at hj
        exact Option.map_eq_some_iff.1 hj
      have hd : ps.getD j (default, none, 0) = p := by simp [List.getD, hp]
      rw [hd]
      exact ih j p hp
end
end Go.Proofs.YtfkbbbjicaedmaaGreatDoor
namespace Go.Proofs.YtfkbbbjicaedmaaGreatDoor
open Go.RowKit Go.Maps
set_option linter.unusedVariables false
set_option linter.unusedSimpArgs false
abbrev tv (t : Tm) (a : Option Addr) (c : Nat) : Value := .agg #[.int .i64 t.k, .string (str t.nm), .int .i64 t.i, .slice a t.args.length c]
abbrev tb (t : Tm) (a : Option Addr) (c : Nat) : Obj := .cells #[.int .i64 t.k, .string (str t.nm), .int .i64 t.i, .slice a t.args.length c] 24
abbrev zb : Obj := .cells #[.int .i64 0, .string ⟨#[]⟩, .int .i64 0, .slice none 0 0] 24
inductive Reach {σ : Type} (f : σ → Int → Tm × σ) : Tm → σ → σ → Int → Prop
  | var {t : Tm} {s : σ} (hk : t.k = 1) : Reach f t s s t.i
  | arg {t x : Tm} {s s' : σ} {v : Int} {j : Nat} (hk : t.k = 4) (hj : t.args[j]? = some x) (h : Reach f x (copL f (t.args.take j) s).2 s' v) : Reach f t s s' v
def Al {σ : Type} (f : σ → Int → Tm × σ) (V : σ → Int → Prop) (t : Tm) (s : σ) : Prop := ∀ s' v, Reach f t s s' v → V s' v
structure PutC {σ : Type} (f : σ → Int → Tm × σ) (A0 B0 : Nat) (k : FuncId) (cap : Array Value) (I : σ → (Nat → Prop) → World → Prop) (V : σ → Int → Prop) : Prop where
  enter : ∀ args w, (callFunc k args).run Tryz.prog w = .ok (.enter k args) w
  frame : ∀ s P w w', I s P w → Keep (fun g => P g ∨ g < B0) w w' → I s P w'
  lt : ∀ s P w, I s P w → ∀ g, P g → g < w.heap.size
  old : ∀ s P w, I s P w → ∀ g, g < B0 → ¬ P g
  le : A0 ≤ B0
  call : ∀ s P w v, I s P w → B0 ≤ w.heap.size → (Lit.int .i64 v).wf = true → 1 ≤ v → V s v → Calls Tryz.prog k (#[.int .i64 v] ++ cap) w fun e w' => ∃ a c P', e = .returned (tv (f s v).1 a c) ∧ TmAt A0 w' (f s v).1 a c ∧ I (f s v).2 P' w' ∧ Keep (fun g => ¬ P g) w w' ∧ ∀ g, P' g → P g ∨ w.heap.size ≤ g
def CopC {σ : Type} (f : σ → Int → Tm × σ) (A0 B0 : Nat) (cl : Value) (I : σ → (Nat → Prop) → World → Prop) (V : σ → Int → Prop) (t : Tm) : Prop :=
  ∀ (s : σ) (P : Nat → Prop) (w : World) (a : Option Addr) (c : Nat), Al f V t s → I s P w → B0 ≤ w.heap.size → TmAt B0 w t a c →
    Calls Tryz.prog 86 #[tv t a c, cl] w fun e w' =>
      ∃ a' c' P', e = .returned (tv (t.cop f s).1 a' c') ∧ Fr A0 P' w' w.heap.size w'.heap.size (t.cop f s).1 a' c' ∧ I (t.cop f s).2 P' w' ∧ Keep (fun g => ¬ P g) w w' ∧ ∀ g, P' g → P g ∨ w.heap.size ≤ g
theorem Blk.set4 {w : World} {g : Nat} {t : TypeId} {x0 x1 x2 x3 y0 y1 y2 y3 : Value} (h : Blk w g t #[x0, x1, x2, x3]) :
    Blk ((((w.setCell ⟨g, 0, none⟩ y0).setCell ⟨g, 1, none⟩ y1).setCell ⟨g, 2, none⟩ y2).setCell ⟨g, 3, none⟩ y3) g t #[y0, y1, y2, y3] := by
  have := (((h.set_ 0 y0).set_ 1 y1).set_ 2 y2).set_ 3 y3
  simpa using this
theorem Keep.set4 {w w' : World} {X : Nat → Prop} {g : Nat} {y0 y1 y2 y3 : Value} {o : Nat} (h : Keep X w w') (hg : ¬ X g) : Keep X w ((((w'.setCell ⟨g, o, none⟩ y0).setCell ⟨g, o + 1, none⟩ y1).setCell ⟨g, o + 2, none⟩ y2).setCell ⟨g, o + 3, none⟩ y3) :=
  (((h.setCell (p := ⟨g, _, none⟩) hg y0).setCell (p := ⟨g, _, none⟩) hg y1).setCell (p := ⟨g, _, none⟩) hg y2).setCell (p := ⟨g, _, none⟩) hg y3
set_option maxRecDepth 100000 in
set_option maxHeartbeats 4000000 in
theorem cop1_any {σ : Type} {f : σ → Int → Tm × σ} {A0 B0 : Nat} {k : FuncId} {cap : Array Value} {I : σ → (Nat → Prop) → World → Prop} {V : σ → Int → Prop} (hf : PutC f A0 B0 k cap I V) {t : Tm} (hk : t.k = 1) (hok : t.ok = true) : CopC f A0 B0 (.func (.func k) #[] cap) I V t := by
  intro s P w a c hal hI hB hT
  have hV : V s t.i := hal _ _ (.var hk)
  clear hal
  have hwf := hT.wk
  rw [cop_1 f t s hk]
  have hv1 : 1 ≤ t.i := by rw [t.ok_eq, if_pos hk] at hok; simpa using hok
  have hkp : Keep (fun g => g < w.heap.size) w ((w.alloc (tb t a c)).alloc zb) := ((Keep.refl _ w).alloc _).alloc _
  have hb2 := Blk.new (w.alloc (tb t a c)) 24 #[.int .i64 0, .string ⟨#[]⟩, .int .i64 0, .slice none 0 0]
  have hI2 := hf.frame s P _ _ hI (hkp.all)
  have hc := hf.call s P _ t.i hI2 (by simp; omega) hwf.2.1 hv1 hV
  rw [World.size_alloc] at hb2
  have hlt := hf.lt s P w hI
  have hen := hf.enter
  have hkb : Hid (∀ W, Keep (fun g => ¬ P g) ((w.alloc (tb t a c)).alloc zb) W → Blk W (w.heap.size + 1) 24 #[.int .i64 0, .string ⟨#[]⟩, .int .i64 0, .slice none 0 0]) := Lib.hid (fun W hW => hb2.keep hW (fun h => by have := hlt _ h; omega))
  have hold := hf.old
  have hle0 := hf.le
  have hfr := hf.frame
  have HFR := Lib.hid hfr; clear hfr
  have HOLD := Lib.hid hold; clear hold
  have HLT := Lib.hid hlt; clear hlt
  have HC := Lib.hid hc; clear hc
  have HKP := Lib.hid hkp; clear hkp
  have HLI := Lib.hid hf.lt
  clear hI hI2 hT hb2 hwf
  unfold tb tv at HC
  unfold tb at hkb HKP
  unfold tv
  rw [hk] at HC hkb HKP ⊢
  clear hk hf
  obtain ⟨x, hx⟩ : ∃ x, x = (f s t.i).1 := ⟨_, rfl⟩
  rw [← hx] at HC ⊢
  clear hx
  go_enter Tryz.func86, Tryz.ntmps86
  go_wp2_with fail
  refine HC.out.mono ?_
  rintro e w1 ⟨a1, c1, P1, rfl, hT1, hI1, hk1, hP1⟩
  have hb1 := hkb.out w1 hk1
  have hz1 := hk1.size
  simp only [World.size_alloc] at hz1
  have f0 := hb1.frozen 0
  have f1 := hb1.frozen 1
  have f2 := hb1.frozen 2
  have f3 := hb1.frozen 3
  have d0 := hb1.cell 0
  have d1 := hb1.cell 1
  have d2 := hb1.cell 2
  have d3 := hb1.cell 3
  simp at d0 d1 d2 d3
  have hn1 : ¬ P1 (w.heap.size + 1) := fun h => by
    rcases hP1 _ h with h | h
    · have := HLT.out _ h; omega
    · simp only [World.size_alloc] at h; omega
  have hbf := hb1.set4 (y0 := .int .i64 x.k) (y1 := .string (str x.nm)) (y2 := .int .i64 x.i) (y3 := .slice a1 x.args.length c1)
  have hkf : Keep (fun g => g ≠ w.heap.size + 1) w1 ((((w1.setCell ⟨w.heap.size + 1, 0, none⟩ (.int .i64 x.k)).setCell ⟨w.heap.size + 1, 1, none⟩ (.string (str x.nm))).setCell ⟨w.heap.size + 1, 2, none⟩ (.int .i64 x.i)).setCell ⟨w.heap.size + 1, 3, none⟩ (.slice a1 x.args.length c1)) := (Keep.refl _ w1).set4 (o := 0) (fun h => h rfl)
  have g0 := hbf.cell 0
  have g1 := hbf.cell 1
  have g2 := hbf.cell 2
  have g3 := hbf.cell 3
  simp at g0 g1 g2 g3
  have HFIN : Hid (TmAt A0 ((((w1.setCell ⟨w.heap.size + 1, 0, none⟩ (.int .i64 x.k)).setCell ⟨w.heap.size + 1, 1, none⟩ (.string (str x.nm))).setCell ⟨w.heap.size + 1, 2, none⟩ (.int .i64 x.i)).setCell ⟨w.heap.size + 1, 3, none⟩ (.slice a1 x.args.length c1)) x a1 c1 ∧
      I (f s t.i).2 P1 ((((w1.setCell ⟨w.heap.size + 1, 0, none⟩ (.int .i64 x.k)).setCell ⟨w.heap.size + 1, 1, none⟩ (.string (str x.nm))).setCell ⟨w.heap.size + 1, 2, none⟩ (.int .i64 x.i)).setCell ⟨w.heap.size + 1, 3, none⟩ (.slice a1 x.args.length c1)) ∧
      Keep (fun g => ¬ P g) w ((((w1.setCell ⟨w.heap.size + 1, 0, none⟩ (.int .i64 x.k)).setCell ⟨w.heap.size + 1, 1, none⟩ (.string (str x.nm))).setCell ⟨w.heap.size + 1, 2, none⟩ (.int .i64 x.i)).setCell ⟨w.heap.size + 1, 3, none⟩ (.slice a1 x.args.length c1)) ∧ (∀ g, P1 g → P g ∨ w.heap.size ≤ g) ∧
      w.heap.size ≤ w1.heap.size) := Lib.hid ⟨hT1.keepX hkf (fun g hg => by omega), HFR.out _ _ _ _ hI1 (hkf.less (fun g hg e => by rcases hg with hg | hg; exact hn1 (e ▸ hg); omega)), by
        refine ⟨hk1.os.trans HKP.out.os, hk1.tape.trans HKP.out.tape, hk1.output.trans HKP.out.output, by simp [World.setCell]; omega, fun g hg hx => ?_⟩
        rw [hkf.block g (by omega) (by omega), hk1.block g (by simp; omega) hx, HKP.out.block g hg hg], fun g hg => (hP1 g hg).imp id (fun h => by simp only [World.size_alloc] at h; omega), by omega⟩
  clear hT1 hI1 hk1 hP1 hb1 hbf hkf hn1 HFR HOLD HLT HC HKP HLI hkb
  go_wp2_with fail
  refine bodyPost_ret (v := .agg #[.int .i64 x.k, .string (str x.nm), .int .i64 x.i, .slice a1 x.args.length c1]) (by simp [results, Tryz.results86, go_sem, g0, g1, g2, g3, f0, f1, f2, f3]) rfl ⟨a1, c1, P1, rfl, .old HFIN.out.1 (by simp [World.setCell]; exact HFIN.out.2.2.2.2), HFIN.out.2.1, HFIN.out.2.2.1, HFIN.out.2.2.2.1⟩
end Go.Proofs.YtfkbbbjicaedmaaGreatDoor
namespace Go.Proofs.YtfkbbbjicaedmaaGreatDoor
open Go.RowKit Go.Maps
set_option linter.unusedVariables false
set_option linter.unusedSimpArgs false
theorem tm_leaf {B0 : Nat} {w : World} {k i : Int} {nm : List UInt8} (hk : (Lit.int .i64 k).wf = true) (hi : (Lit.int .i64 i).wf = true) (hn : nm.length ≤ maxLen) : TmAt B0 w (.node k nm i []) none 0 :=
  .mk _ _ _ (fun _ => none) (fun _ => 0) hk hi hn (by simp [Tm.args]) (fun j x hj => by simp [Tm.args] at hj) (fun j x hj => by simp [Tm.args] at hj)
set_option maxRecDepth 100000 in
set_option maxHeartbeats 4000000 in
theorem cop2_any {σ : Type} {f : σ → Int → Tm × σ} {A0 B0 : Nat} {k : FuncId} {cap : Array Value} {I : σ → (Nat → Prop) → World → Prop} {V : σ → Int → Prop} (hf : PutC f A0 B0 k cap I V) {t : Tm} (hk : t.k = 2) : CopC f A0 B0 (.func (.func k) #[] cap) I V t := by
  intro s P w a c hal hI hB hT
  have hle0 := hf.le
  clear hal
  have hwf := hT.wk
  rw [cop_2 f t s hk]
  have hI2 : Hid (∀ W, Keep (fun g => g < w.heap.size) w W → I s P W) := Lib.hid (fun W hW => hf.frame s P _ _ hI hW.all)
  have hkx : Hid (∀ W, Keep (fun g => g < w.heap.size) w W → Keep (fun g => ¬ P g) w W) := Lib.hid (fun W hW => hW.all)
  have hW := Lib.hid hwf
  have K0 := Lib.hid (Keep.refl (fun g => g < w.heap.size) w)
  clear hI hT hwf
  unfold tv
  rw [hk]
  generalize t.i = i at *
  generalize str t.nm = nm
  clear hk
  show Calls _ _ _ _ (fun e w' => ∃ a' c' P', e = .returned (.agg #[.int .i64 2, .string ⟨#[]⟩, .int .i64 i, .slice a' 0 c']) ∧ _)
  go_enter Tryz.func86, Tryz.ntmps86
  go_wp2
  refine bodyPost_ret (v := .agg #[.int .i64 2, .string ⟨#[]⟩, .int .i64 i, .slice none 0 0]) (by simp [results, Tryz.results86, go_sem]) rfl ⟨none, 0, P, rfl, .old (tm_leaf (by decide) hW.out.2.1 (by simp)) (by simp; omega), hI2.out _ ((K0.out.alloc _).alloc _), hkx.out _ ((K0.out.alloc _).alloc _), fun g h => .inl h⟩
set_option maxRecDepth 100000 in
set_option maxHeartbeats 4000000 in
theorem cop3_any {σ : Type} {f : σ → Int → Tm × σ} {A0 B0 : Nat} {k : FuncId} {cap : Array Value} {I : σ → (Nat → Prop) → World → Prop} {V : σ → Int → Prop} (hf : PutC f A0 B0 k cap I V) {t : Tm} (hk : t.k = 3) : CopC f A0 B0 (.func (.func k) #[] cap) I V t := by
  intro s P w a c hal hI hB hT
  have hle0 := hf.le
  clear hal
  have hwf := hT.wk
  rw [cop_3 f t s hk]
  have hI2 : Hid (∀ W, Keep (fun g => g < w.heap.size) w W → I s P W) := Lib.hid (fun W hW => hf.frame s P _ _ hI hW.all)
  have hkx : Hid (∀ W, Keep (fun g => g < w.heap.size) w W → Keep (fun g => ¬ P g) w W) := Lib.hid (fun W hW => hW.all)
  have hW := Lib.hid hwf
  have K0 := Lib.hid (Keep.refl (fun g => g < w.heap.size) w)
  clear hI hT hwf
  unfold tv
  rw [hk]
  show Calls _ _ _ _ (fun e w' => ∃ a' c' P', e = .returned (.agg #[.int .i64 3, .string (str t.nm), .int .i64 0, .slice a' 0 c']) ∧ _)
  generalize str t.nm = nm
  clear hk
  go_enter Tryz.func86, Tryz.ntmps86
  go_wp2
  refine bodyPost_ret (v := .agg #[.int .i64 3, .string nm, .int .i64 0, .slice none 0 0]) (by simp [results, Tryz.results86, go_sem]) rfl ⟨none, 0, P, rfl, .old (tm_leaf (by decide) (by decide) hW.out.2.2.1) (by simp; omega), hI2.out _ ((K0.out.alloc _).alloc _), hkx.out _ ((K0.out.alloc _).alloc _), fun g h => .inl h⟩
theorem infoT : (Tryz.prog.info? 24).map (fun i => (i.zero, i.size, i.bytes)) = some (some (.agg #[.int .i64 0, .string ⟨#[]⟩, .int .i64 0, .slice none 0 0]), 4, 56) := by kernel_rfl
theorem Fr.keepR {B0 lo hi c : Nat} {Q X : Nat → Prop} {w w' : World} {t : Tm} {a : Option Addr} (h : Fr B0 Q w lo hi t a c) (hk : Keep X w w') : (∀ k, (k < B0 ∨ (lo ≤ k ∧ ¬ Q k)) → X k) → Fr B0 Q w' lo hi t a c := by
  induction h with
  | old h hl => exact fun hX => .old (h.keepX hk (fun k hk => hX k (.inl hk))) hl
  | node hk1 hw hn h8 hlb hub hq blk hcp hs ih =>
    intro hX
    exact .node hk1 hw hn h8 hlb hub hq (blk.keep hk (hX _ (.inr ⟨hlb, hq⟩))) hcp fun j p hj => ih j p hj hX
theorem put4 {cur : Array Value} {xs : List Value} {m : Nat} {y0 y1 y2 y3 : Value} (hm : (m + 1) * 4 ≤ cur.size) (h : cur.toList.take (m * 4) = xs) :
    ((((cur.setIfInBounds (m * 4) y0).setIfInBounds (m * 4 + 1) y1).setIfInBounds (m * 4 + 2) y2).setIfInBounds (m * 4 + 3) y3).toList.take ((m + 1) * 4) = xs ++ [y0, y1, y2, y3] := by
  have hxl : xs.length = m * 4 := by rw [← h, List.length_take, Array.length_toList]; omega
  simp only [Array.toList_setIfInBounds]
  apply List.ext_getElem?
  intro i
  by_cases hi : i < (m + 1) * 4
  · rw [List.getElem?_take_of_lt hi]
    simp only [List.getElem?_set, List.length_set, Array.length_toList]
    by_cases h0 : i < m * 4
    · rw [if_neg (by omega), if_neg (by omega), if_neg (by omega), if_neg (by omega), List.getElem?_append_left (by omega), ← h, List.getElem?_take_of_lt h0]
    · rw [List.getElem?_append_right (by omega), hxl]
      by_cases e0 : i = m * 4
      · subst e0
        rw [if_neg (by omega), if_neg (by omega), if_neg (by omega), if_pos rfl, if_pos (by omega)]; simp
      · by_cases e1 : i = m * 4 + 1
        · subst e1
          rw [if_neg (by omega), if_neg (by omega), if_pos rfl, if_pos (by omega)]; simp
        · by_cases e2 : i = m * 4 + 2
          · subst e2
            rw [if_neg (by omega), if_pos rfl, if_pos (by omega)]; simp
          · have e3 : i = m * 4 + 3 := by omega
            subst e3
            rw [if_pos rfl, if_pos (by omega)]; simp
  · rw [List.getElem?_eq_none (by rw [List.length_take]; omega), List.getElem?_eq_none (by rw [List.length_append, hxl]; simp; omega)]
structure CRel {σ : Type} (f : σ → Int → Tm × σ) (A0 : Nat) (I : σ → (Nat → Prop) → World → Prop) (t : Tm) (s : σ) (P : Nat → Prop) (w : World) (x1 : Array Value) (n : Nat) (j : Nat) (ps : List TP) (Pj : Nat → Prop) (m : Nat → Nat) (wr : World) : Prop where
  blk : ∃ cur, Blk wr (w.heap.size + 2) 24 cur ∧ cur.size = n * 4 ∧ cur.toList.take (j * 4) = ps.flatMap TP.cells
  len : ps.length = j
  trm : ps.map (·.1) = (copL f (t.args.take j) s).1
  inv : I (copL f (t.args.take j) s).2 Pj wr
  fr : ∀ i p, ps[i]? = some p → Fr A0 Pj wr (m i) (m (i + 1)) p.1 p.2.1 p.2.2
  m0 : w.heap.size + 2 < m 0
  mono : ∀ i, i < j → m i ≤ m (i + 1)
  mj : m j ≤ wr.heap.size
  kp : Keep (fun g => ¬ P g) w wr
  pj : ∀ g, Pj g → P g ∨ w.heap.size + 3 ≤ g
  b1 : Blk wr w.heap.size 24 x1
  b2 : Blk wr (w.heap.size + 1) 24 #[.int .i64 0, .string ⟨#[]⟩, .int .i64 0, .slice none 0 0]
section
variable {σ : Type} {f : σ → Int → Tm × σ} {A0 B0 : Nat} {k : FuncId} {cap : Array Value} {I : σ → (Nat → Prop) → World → Prop} {t : Tm} {s : σ} {P : Nat → Prop} {w wr w2 : World} {x1 : Array Value} {n j : Nat} {ps : List TP} {Pj : Nat → Prop} {m : Nat → Nat}
theorem CRel.next {V : σ → Int → Prop} (hf : PutC f A0 B0 k cap I V) (h : CRel f A0 I t s P w x1 n j ps Pj m wr) (hB : B0 ≤ w.heap.size) (hP : ∀ g, P g → g < w.heap.size) (hj : j < n) {x : Tm} (hx : t.args[j]? = some x) {a' : Option Addr} {c' : Nat} {P' : Nat → Prop} {o : Obj}
    (hfr : Fr A0 P' w2 (wr.alloc o).heap.size w2.heap.size (x.cop f (copL f (t.args.take j) s).2).1 a' c') (hI : I (x.cop f (copL f (t.args.take j) s).2).2 P' w2) (hk : Keep (fun g => ¬ Pj g) (wr.alloc o) w2) (hp : ∀ g, P' g → Pj g ∨ (wr.alloc o).heap.size ≤ g) :
    ∃ m', CRel f A0 I t s P w x1 n (j + 1) (ps ++ [((x.cop f (copL f (t.args.take j) s).2).1, a', c')]) P' m'
      ((((w2.setCell ⟨w.heap.size + 2, j * 4, none⟩ (.int .i64 (x.cop f (copL f (t.args.take j) s).2).1.k)).setCell ⟨w.heap.size + 2, j * 4 + 1, none⟩ (.string (str (x.cop f (copL f (t.args.take j) s).2).1.nm))).setCell ⟨w.heap.size + 2, j * 4 + 2, none⟩ (.int .i64 (x.cop f (copL f (t.args.take j) s).2).1.i)).setCell ⟨w.heap.size + 2, j * 4 + 3, none⟩ (.slice a' (x.cop f (copL f (t.args.take j) s).2).1.args.length c')) := by
  have hle0 := hf.le
  have hjl : j < t.args.length := get_lt' hx
  have htk : t.args.take (j + 1) = t.args.take j ++ [x] := by
    rw [List.take_succ_eq_append_getElem hjl]
    rw [List.getElem?_eq_getElem hjl] at hx
    rw [Option.some.inj hx]
  have hcop : copL f (t.args.take (j + 1)) s = ((copL f (t.args.take j) s).1 ++ [(x.cop f (copL f (t.args.take j) s).2).1], (x.cop f (copL f (t.args.take j) s).2).2) := by
    rw [htk, copL_append, copL_cons, copL_nil]
  obtain ⟨cur, hbk, hcs, hct⟩ := h.blk
  have hm0 := h.m0
  have hmj := h.mj
  have hsz := hk.size
  simp only [World.size_alloc] at hsz hp hfr
  have hws : w.heap.size + 2 < wr.heap.size := hbk.lt
  have nb : ¬ Pj (w.heap.size + 2) := fun hh => by rcases h.pj _ hh with h1 | h1; (have := hP _ h1; omega); omega
  have nb1 : ¬ Pj (w.heap.size + 1) := fun hh => by rcases h.pj _ hh with h1 | h1; (have := hP _ h1; omega); omega
  have nb0 : ¬ Pj w.heap.size := fun hh => by rcases h.pj _ hh with h1 | h1; (have := hP _ h1; omega); omega
  have hka : Keep (fun g => ¬ Pj g) wr w2 := ((Keep.refl _ wr).alloc o).trans hk
  have hks : Keep (fun g => g ≠ w.heap.size + 2) w2 ((((w2.setCell ⟨w.heap.size + 2, j * 4, none⟩ (.int .i64 (x.cop f (copL f (t.args.take j) s).2).1.k)).setCell ⟨w.heap.size + 2, j * 4 + 1, none⟩ (.string (str (x.cop f (copL f (t.args.take j) s).2).1.nm))).setCell ⟨w.heap.size + 2, j * 4 + 2, none⟩ (.int .i64 (x.cop f (copL f (t.args.take j) s).2).1.i)).setCell ⟨w.heap.size + 2, j * 4 + 3, none⟩ (.slice a' (x.cop f (copL f (t.args.take j) s).2).1.args.length c')) :=
    (Keep.refl _ w2).set4 (fun hh => hh rfl)
  have hbk2 := hbk.keep hka nb
  have hblk := (((hbk2.set_ (j * 4) (.int .i64 (x.cop f (copL f (t.args.take j) s).2).1.k)).set_ (j * 4 + 1) (.string (str (x.cop f (copL f (t.args.take j) s).2).1.nm))).set_ (j * 4 + 2) (.int .i64 (x.cop f (copL f (t.args.take j) s).2).1.i)).set_ (j * 4 + 3) (.slice a' (x.cop f (copL f (t.args.take j) s).2).1.args.length c')
  have nP' : ∀ g, g ≤ w.heap.size + 2 → ¬ Pj g → ¬ P' g := fun g hg hn hh => by rcases hp _ hh with h1 | h1; exact hn h1; omega
  refine ⟨fun i => if i ≤ j then m i else w2.heap.size, ⟨_, hblk, by simpa using hcs, ?_⟩, by simp [h.len], ?_, ?_, ?_, by simpa using hm0, ?_, ?_, ?_, ?_, ?_, ?_⟩
  · rw [put4 (by omega) hct, List.flatMap_append]; rfl
  · rw [hcop, List.map_append, h.trm]; rfl
  · rw [hcop]
    exact hf.frame _ _ _ _ hI (hks.less (fun g hg e => by rcases hg with hg | hg; exact nP' g (by omega) (e ▸ nb) hg; omega))
  · intro i p hp'
    by_cases hi : i < j
    · rw [List.getElem?_append_left (by rw [h.len]; exact hi)] at hp'
      have h1 := h.fr i p hp'
      have h2 : m (i + 1) ≤ m j := mono_to h.mono (by omega) (Nat.le_refl _)
      have h3 : m 0 ≤ m i := mono_to h.mono (Nat.zero_le _) (by omega)
      rw [if_pos (by omega), if_pos (by omega)]
      have h4 := (h1.keepR hka (fun g hg => by
        rcases hg with hg | hg
        · exact fun hh => by rcases h.pj _ hh with h5 | h5; exact hf.old _ _ _ h.inv g (Nat.lt_of_lt_of_le hg hle0) hh; omega
        · exact hg.2)).grow (Q' := P') (H := wr.heap.size + 1) (by omega) hp
      exact h4.keepR hks (fun g hg => by rcases hg with hg | hg; omega; omega)
    · have hi2 : i = j := by
        have := get_lt' hp'
        rw [List.length_append, h.len] at this
        simp at this; omega
      subst hi2
      rw [List.getElem?_append_right (by rw [h.len]; exact Nat.le_refl _), h.len] at hp'
      simp at hp'
      subst hp'
      rw [if_pos (Nat.le_refl _), if_neg (by omega)]
      exact (hfr.keepR hks (fun g hg => by rcases hg with hg | hg; omega; omega)).up (Nat.le_refl _) (by omega)
  · intro i hi
    by_cases h1 : i < j
    · rw [if_pos (by omega), if_pos (by omega)]; exact h.mono i h1
    · rw [if_pos (by omega), if_neg (by omega)]
      have : i = j := by omega
      subst this; omega
  · rw [if_neg (by omega)]; simp [World.setCell]
  · refine ⟨hks.os.trans (hka.os.trans h.kp.os), hks.tape.trans (hka.tape.trans h.kp.tape), hks.output.trans (hka.output.trans h.kp.output), Nat.le_trans h.kp.size (Nat.le_trans hka.size hks.size), fun g hg hx => ?_⟩
    have n1 : ¬ Pj g := fun hh => by rcases h.pj _ hh with h1 | h1; exact hx h1; omega
    rw [hks.block g (by have := h.kp.size; have := hka.size; omega) (by omega), hka.block g (by have := h.kp.size; omega) n1, h.kp.block g hg hx]
  · intro g hg
    rcases hp g hg with h1 | h1
    · exact h.pj g h1
    · exact .inr (by omega)
  · exact (h.b1.keep hka nb0).keep hks (by omega)
  · exact (h.b2.keep hka nb1).keep hks (by omega)
end
set_option maxRecDepth 1000000 in
set_option maxHeartbeats 4000000 in
theorem cop4_any {σ : Type} {f : σ → Int → Tm × σ} {A0 B0 : Nat} {k : FuncId} {cap : Array Value} {I : σ → (Nat → Prop) → World → Prop} {V : σ → Int → Prop} (hf : PutC f A0 B0 k cap I V) {t : Tm} (hk : t.k = 4) (hl8 : t.args.length ≤ 8) (ih : ∀ x ∈ t.args, CopC f A0 B0 (.func (.func k) #[] cap) I V x) : CopC f A0 B0 (.func (.func k) #[] cap) I V t := by
  intro s P w a c hal hI hB hT
  have hle0 := hf.le
  have hwf := hT.wk
  obtain ⟨i0, hi0, hz0, hz1, hz2⟩ := info_parts infoT
  rw [cop_4 f t s hk]
  have hP := hf.lt s P w hI
  have hb1 := Blk.new w 24 #[.int .i64 t.k, .string (str t.nm), .int .i64 t.i, .slice a t.args.length c]
  have hb2 := Blk.new (w.alloc (.cells #[.int .i64 t.k, .string (str t.nm), .int .i64 t.i, .slice a t.args.length c] 24)) 24 #[.int .i64 0, .string ⟨#[]⟩, .int .i64 0, .slice none 0 0]
  have hk0 : Keep (fun g => ¬ P g) w ((w.alloc (.cells #[.int .i64 t.k, .string (str t.nm), .int .i64 t.i, .slice a t.args.length c] 24)).alloc zb) := ((Keep.refl _ w).alloc _).alloc _
  have hkI : Keep (fun g => P g ∨ g < B0) w ((w.alloc (.cells #[.int .i64 t.k, .string (str t.nm), .int .i64 t.i, .slice a t.args.length c] 24)).alloc zb) := ((Keep.refl _ w).alloc _).alloc _
  rw [World.size_alloc] at hb2
  obtain ⟨n, hnn⟩ : ∃ n, t.args.length = n := ⟨_, rfl⟩
  unfold tv
  rw [hk, hnn] at hb1 hb2 hk0 hkI ⊢
  rw [hnn] at hl8
  obtain ⟨w3, hrun, r1, r2⟩ := run_make_full (P := Tryz.prog) ((w.alloc (.cells #[.int .i64 4, .string (str t.nm), .int .i64 t.i, .slice a n c] 24)).alloc zb) 0 22 24 i0 (.agg #[.int .i64 0, .string ⟨#[]⟩, .int .i64 0, .slice none 0 0]) 4 Tryz.underlying22 hi0 hz0 hz1 .i64 .i64 n (by rw [hz2]; omega) (by unfold maxLen; omega) (Nat.zero_le _)
  simp only [World.size_alloc] at hrun r1
  rw [show w.heap.size + 1 + 1 = w.heap.size + 2 from rfl] at hrun r1
  have hk3 : Keep (fun g => True) ((w.alloc (.cells #[.int .i64 4, .string (str t.nm), .int .i64 t.i, .slice a n c] 24)).alloc zb) w3 := ⟨r2.os, r2.tape, r2.output, r2.size, fun g hg _ => r2.block g hg (by simp)⟩
  have hrow : ∃ cur, Blk w3 (w.heap.size + 2) 24 cur ∧ cur.size = n * 4 := by
    rcases r1.2 with ⟨e, h0⟩ | ⟨g, cp, cur, e, _, hb, _, _, hcs, _⟩
    · cases e
    · injection e with e1 _ e2
      injection e1 with e1
      injection e1 with e1
      subst e1 e2
      exact ⟨cur, hb, hcs⟩
  obtain ⟨cur0, hbk0, hcs0⟩ := hrow
  have hrel0 : CRel f A0 I t s P w #[.int .i64 4, .string (str t.nm), .int .i64 t.i, .slice a n c] n 0 [] P (fun _ => w.heap.size + 3) w3 :=
    ⟨⟨cur0, hbk0, hcs0, by simp⟩, rfl, by rw [List.take_zero, copL_nil]; rfl, by rw [List.take_zero, copL_nil]; exact hf.frame _ _ _ _ hI (hkI.trans (hk3.less (fun _ _ => trivial))), fun i p hp => by simp at hp, by omega, fun i hi => Nat.le_refl _, by have := hbk0.lt; omega, hk0.trans (hk3.less (fun _ _ => trivial)), fun g hg => .inl hg, (hb1.alloc zb).keep hk3 trivial, hb2.keep hk3 trivial⟩
  have HREL0 := Lib.hid hrel0; clear hrel0
  have HT := Lib.hid hT; clear hT
  have HIH := Lib.hid ih; clear ih
  have HAL := Lib.hid (fun j x (hj : t.args[j]? = some x) s' v h => hal s' v (.arg hk hj h)); clear hal
  have HNN := Lib.hid hnn; clear hnn
  have HP := Lib.hid hP; clear hP
  have HB := Lib.hid hB
  have hz3 := r2.size
  simp only [World.size_alloc] at hz3
  clear hI hwf hb1 hb2 hk0 hkI r1 r2 hk3 hbk0 hcs0 hk cur0
  have q3 := HREL0.out.b1.cell 3
  simp at q3
  have ql : w.heap.size < w3.heap.size := by omega
  have HOLD := Lib.hid (fun g hg => hf.old _ _ _ HREL0.out.inv g hg)
  go_enter Tryz.func86, Tryz.ntmps86
  go_wp2_with fail
  go_loopw [33] (fun i wr => ∃ (j : Nat) (ps : List TP) (Pj : Nat → Prop) (m : Nat → Nat), j ≤ n ∧ i = .int .i64 j ∧ CRel f A0 I t s P w #[.int .i64 4, .string (str t.nm), .int .i64 t.i, .slice a n c] n j ps Pj m wr) (fun i _ => n - (intOf i).toNat)
  case atStart => exact ⟨0, [], P, _, by omega, rfl, HREL0.out⟩
  case round =>
    clear HREL0 q3 ql hrun
    obtain ⟨j, ps, Pj, m, hj, rfl, hrel⟩ := hrel
    by_cases hlj : j < n
    · have hjl : j < t.args.length := by rw [HNN.out]; exact hlj
      obtain ⟨x, hx⟩ : ∃ x, t.args[j]? = some x := ⟨_, List.getElem?_eq_getElem hjl⟩
      have hTr := HT.out.keepX hrel.kp HOLD.out
      obtain ⟨b, off, a', c', rfl, hbB, hTx, e0, e1, e2, e3⟩ := hTr.arg hx
      rw [← Nat.add_assoc] at e1 e2 e3
      have hzr := hrel.kp.size
      have hbw : b < wr.heap.size := by omega
      have hT2 := hTx.keepX (X := fun _ => True) ((Keep.refl _ wr).alloc (tb x a' c')) (fun _ _ => trivial)
      have hi2 := hf.frame _ _ _ _ hrel.inv ((Keep.refl _ wr).alloc (tb x a' c'))
      have hcall := HIH.out x (List.mem_of_getElem? hx) _ _ _ _ _ (HAL.out j x hx) hi2 (by simp; omega) hT2
      have hnext := fun a'' c'' P' W hfr hI hk hp => hrel.next (a' := a'') (c' := c'') (P' := P') (w2 := W) (o := tb x a' c') hf HB.out HP.out hlj hx hfr hI hk hp
      have hwx := hTx.wk
      clear hTr hTx hT2 hi2 hx
      have g5 := hrel.b1.cell 3
      simp at g5
      unfold tv tb at hcall
      unfold tb at hnext
      obtain ⟨u, hu⟩ : ∃ u, u = x.cop f (copL f (t.args.take j) s).2 := ⟨_, rfl⟩
      rw [← hu] at hcall hnext
      clear hu
      have hbk : ∀ W, Keep (fun g => ¬ Pj g) (wr.alloc (.cells #[.int .i64 x.k, .string (str x.nm), .int .i64 x.i, .slice a' x.args.length c'] 24)) W → (∀ i, W.frozen? ⟨w.heap.size + 2, i, none⟩ = false) ∧ (∀ i, i < n * 4 → ∃ v, W.cell? ⟨w.heap.size + 2, i, none⟩ = some v) ∧ w.heap.size + 2 < W.heap.size := fun W hW => by
        obtain ⟨cur, hb, hcs, _⟩ := hrel.blk
        have nb : ¬ Pj (w.heap.size + 2) := fun hh => by rcases hrel.pj _ hh with h1 | h1; (have := HP.out _ h1; omega); omega
        have hb2 := (hb.alloc _).keep hW nb
        exact ⟨hb2.frozen, fun i hi => ⟨cur[i]'(by omega), by rw [hb2.cell, Array.getElem?_eq_getElem]⟩, hb2.lt⟩
      have HCALL := Lib.hid hcall; clear hcall
      have HNEXT := Lib.hid hnext; clear hnext
      have HBK := Lib.hid hbk; clear hbk
      clear hrel
      go_wp2_with fail
      refine HCALL.out.mono ?_
      rintro e w2 ⟨a1, c1, P1, rfl, hfr, hI1, hk1, hp1⟩
      obtain ⟨fz, hcl, hblt⟩ := HBK.out w2 hk1
      have f0 := fz (j * 4)
      have f1 := fz (j * 4 + 1)
      have f2 := fz (j * 4 + 2)
      have f3 := fz (j * 4 + 3)
      obtain ⟨v0, k0⟩ := hcl (j * 4) (by omega)
      obtain ⟨v1, k1⟩ := hcl (j * 4 + 1) (by omega)
      obtain ⟨v2, k2⟩ := hcl (j * 4 + 2) (by omega)
      obtain ⟨v3, k3⟩ := hcl (j * 4 + 3) (by omega)
      obtain ⟨m', hF⟩ := HNEXT.out _ _ _ _ hfr hI1 hk1 hp1
      have HF := Lib.hid hF; clear hF
      clear hfr hI1 hk1 hp1 HCALL HNEXT HBK fz hcl
      go_wp2_with fail
      go_roundw
      case rel => exact ⟨j + 1, _, _, _, by omega, by go_num, HF.out⟩
      case measure => simp [intOf]; omega
    · obtain rfl : j = n := by omega
      have hcop : List.take j t.args = t.args := by rw [← HNN.out, List.take_length]
      have htr := hrel.trm
      have hin := hrel.inv
      rw [hcop] at htr hin
      have g0 := hrel.b1.cell 0
      have g1 := hrel.b1.cell 1
      simp at g0 g1
      have r0 := hrel.b2.cell 0
      have r1 := hrel.b2.cell 1
      have r2 := hrel.b2.cell 2
      have r3 := hrel.b2.cell 3
      simp at r0 r1 r2 r3
      have s0 := hrel.b2.frozen 0
      have s1 := hrel.b2.frozen 1
      have s2 := hrel.b2.frozen 2
      have s3 := hrel.b2.frozen 3
      have hzr := hrel.kp.size
      obtain ⟨cur, hbk, hcs, hct⟩ := hrel.blk
      have hsz := hbk.lt
      have hce : cur = (ps.flatMap TP.cells).toArray := by
        rw [← hct, List.take_of_length_le (by rw [Array.length_toList]; omega)]
      rw [hce] at hbk
      have nPb : ¬ Pj (w.heap.size + 2) := fun hh => by rcases hrel.pj _ hh with h1 | h1; (have := HP.out _ h1; omega); omega
      have nPr : ¬ Pj (w.heap.size + 1) := fun hh => by rcases hrel.pj _ hh with h1 | h1; (have := HP.out _ h1; omega); omega
      have hFr : Fr A0 Pj wr (w.heap.size + 2) wr.heap.size (.node 4 t.nm 0 (ps.map (·.1))) (some ⟨w.heap.size + 2, 0, none⟩) ps.length :=
        have hmono := fun i j h1 h2 => mono_to (m := m) (n := ps.length) (fun i hi => hrel.mono i (by rw [hrel.len] at hi; exact hi)) (i := i) (j := j) h1 h2
        .node (rest := []) (by decide) (by decide) HT.out.wk.2.2.1 (by rw [hrel.len]; unfold maxLen; omega) (Nat.le_refl _) (by omega) nPb (by rw [List.append_nil]; exact hbk) ⟨Nat.le_refl _, by rw [hrel.len]; unfold maxLen; omega, by rw [List.append_nil, flat_len]⟩ fun i p hp =>
          (hrel.fr i p hp).up (by have := hmono (i + 1) _ (get_lt' hp) (Nat.le_refl _); have := hrel.mj; rw [← hrel.len] at this; omega) (by have := hmono 0 i (Nat.zero_le _) (Nat.le_of_lt (get_lt' hp)); have := hrel.m0; omega)
      rw [htr, hrel.len] at hFr
      have hkx : Keep (fun g => g ≠ w.heap.size + 1) wr ((((wr.setCell ⟨w.heap.size + 1, 0, none⟩ (.int .i64 4)).setCell ⟨w.heap.size + 1, 1, none⟩ (.string (str t.nm))).setCell ⟨w.heap.size + 1, 2, none⟩ (.int .i64 0)).setCell ⟨w.heap.size + 1, 3, none⟩ (.slice (some ⟨w.heap.size + 2, 0, none⟩) j j)) := (Keep.refl _ wr).set4 (o := 0) (fun h => h rfl)
      have hF2 := (hFr.keepR hkx (fun g hg => by rcases hg with hg | hg; omega; omega)).up (Nat.le_refl _) (show w.heap.size ≤ w.heap.size + 2 by omega)
      have hI2 := hf.frame _ _ _ _ hin (hkx.less (fun g hg e => by rcases hg with hg | hg; exact nPr (e ▸ hg); omega))
      have hK2 : Keep (fun g => ¬ P g) w ((((wr.setCell ⟨w.heap.size + 1, 0, none⟩ (.int .i64 4)).setCell ⟨w.heap.size + 1, 1, none⟩ (.string (str t.nm))).setCell ⟨w.heap.size + 1, 2, none⟩ (.int .i64 0)).setCell ⟨w.heap.size + 1, 3, none⟩ (.slice (some ⟨w.heap.size + 2, 0, none⟩) j j)) :=
        ⟨hkx.os.trans hrel.kp.os, hkx.tape.trans hrel.kp.tape, hkx.output.trans hrel.kp.output, Nat.le_trans hrel.kp.size hkx.size, fun g hg hx => by rw [hkx.block g (by omega) (by omega), hrel.kp.block g hg hx]⟩
      have hpp : ∀ g, Pj g → P g ∨ w.heap.size ≤ g := fun g hg => (hrel.pj g hg).imp id (fun h => by omega)
      have hbf := hrel.b2.set4 (y0 := .int .i64 4) (y1 := .string (str t.nm)) (y2 := .int .i64 0) (y3 := .slice (some ⟨w.heap.size + 2, 0, none⟩) j j)
      have z0 := hbf.cell 0
      have z1 := hbf.cell 1
      have z2 := hbf.cell 2
      have z3 := hbf.cell 3
      simp at z0 z1 z2 z3
      have HFIN := Lib.hid (And.intro hF2 (And.intro hI2 (And.intro hK2 hpp)))
      have hln : (copL f t.args s).1.length = j := by rw [copL_length, HNN.out]
      clear hbf hF2 hI2 hK2 hpp hkx hFr hrel htr hin hbk hcs hct hce nPb nPr
      go_wp2_with fail
      refine bodyPost_ret (v := .agg #[.int .i64 4, .string (str t.nm), .int .i64 0, .slice (some ⟨w.heap.size + 2, 0, none⟩) j j]) (by simp [results, Tryz.results86, go_sem, z0, z1, z2, z3]) rfl ⟨some ⟨w.heap.size + 2, 0, none⟩, j, Pj, ?_, ?_, HFIN.out.2.1, HFIN.out.2.2.1, HFIN.out.2.2.2⟩
      · show _ = Ending.returned (Value.agg #[.int .i64 4, .string (str t.nm), .int .i64 0, .slice (some ⟨w.heap.size + 2, 0, none⟩) (copL f t.args s).1.length j])
        rw [hln]
      · exact HFIN.out.1.up (by simp [World.setCell]) (Nat.le_refl _)
theorem cop_any {σ : Type} {f : σ → Int → Tm × σ} {A0 B0 : Nat} {k : FuncId} {cap : Array Value} {I : σ → (Nat → Prop) → World → Prop} {V : σ → Int → Prop} (hf : PutC f A0 B0 k cap I V) : ∀ t : Tm, t.ok = true → CopC f A0 B0 (.func (.func k) #[] cap) I V t := by
  intro t
  induction t using Tm.ind with
  | h kd nm i args ih =>
    intro hok
    rcases Tm.ok_kind hok with hk | hk | hk | hk
    · exact cop1_any hf hk hok
    · exact cop2_any hf hk
    · exact cop3_any hf hk
    · exact cop4_any hf hk (Tm.ok_args hok hk).2.1 (fun x hx => ih x hx ((Tm.ok_args hok hk).2.2.1 x hx))
end Go.Proofs.YtfkbbbjicaedmaaGreatDoor
namespace Go.Proofs.YtfkbbbjicaedmaaGreatDoor
open Go.RowKit Go.Maps
set_option linter.unusedVariables false
set_option linter.unusedSimpArgs false
def INone (B0 : Nat) : Unit → (Nat → Prop) → World → Prop := fun _ P _ => ∀ g, ¬ P g
set_option maxHeartbeats 1000000 in
theorem variable_any (w : World) (v : Int) : Calls Tryz.prog 87 #[.int .i64 v] w fun e w' => e = .returned (tv (.node 1 [] v []) none 0) ∧ Keep (fun g => g < w.heap.size) w w' := by
  show Calls _ _ _ _ (fun e w' => e = .returned (.agg #[.int .i64 1, .string ⟨#[]⟩, .int .i64 v, .slice none 0 0]) ∧ _)
  go_enter Tryz.func87, Tryz.ntmps87
  go_wp2
  exact bodyPost_ret (v := .agg #[.int .i64 1, .string ⟨#[]⟩, .int .i64 v, .slice none 0 0]) (by simp [results, Tryz.results87, go_sem]) rfl ⟨rfl, (Keep.refl _ w).alloc _⟩
theorem put_variable (B0 : Nat) : PutC fAnew 0 B0 87 #[] (INone B0) (fun _ _ => True) where
  enter := fun args w => enters_of Tryz.func87 (by kernel_rfl) rfl args w
  frame := fun _ P w w' h _ => h
  lt := fun _ P w h g hg => absurd hg (h g)
  old := fun _ P w h g _ => h g
  le := Nat.zero_le _
  call := fun s P w v h hB hv hv1 _ => (variable_any w v).mono fun e w' hh => ⟨none, 0, P, hh.1, tm_leaf (by decide) hv (by simp), h, hh.2.all, fun g hg => absurd hg (h g)⟩
set_option maxHeartbeats 2000000 in
set_option maxRecDepth 100000 in
theorem anew_any {B0 : Nat} {w : World} {t : Tm} {a : Option Addr} {c : Nat} (hB : B0 ≤ w.heap.size) (hT : TmAt B0 w t a c) (hok : t.ok = true) :
    Calls Tryz.prog 68 #[tv t a c] w fun e w' => ∃ a' c', e = .returned (tv t.tree.tm a' c') ∧ Fr 0 (fun _ => False) w' w.heap.size w'.heap.size t.tree.tm a' c' ∧ Keep (fun g => g < w.heap.size) w w' := by
  have hc := cop_any (put_variable B0) t hok () (fun _ => False) ((w.alloc (tb t a c)).alloc zb) a c (fun _ _ _ => trivial) (fun g h => h) (by simp; omega) (hT.keepX (X := fun _ => True) (((Keep.refl _ w).alloc _).alloc _) (fun _ _ => trivial))
  rw [cop_anew t hok] at hc
  have hb2 := Blk.new (w.alloc (tb t a c)) 24 #[.int .i64 0, .string ⟨#[]⟩, .int .i64 0, .slice none 0 0]
  rw [World.size_alloc] at hb2
  have hkb : Hid (∀ W, Keep (fun g => ¬ False) ((w.alloc (tb t a c)).alloc zb) W → Blk W (w.heap.size + 1) 24 #[.int .i64 0, .string ⟨#[]⟩, .int .i64 0, .slice none 0 0]) := Lib.hid (fun W hW => hb2.keep hW (fun h => h))
  have HC := Lib.hid hc; clear hc
  have HB := Lib.hid hB
  clear hb2 hT
  unfold tb tv at HC
  unfold tb at hkb
  unfold tv
  generalize t.tree.tm = x at HC ⊢
  go_enter Tryz.func68, Tryz.ntmps68
  go_wp2_with fail
  refine HC.out.mono ?_
  rintro e w1 ⟨a1, c1, P1, rfl, hfr, hI1, hk1, hp1⟩
  have hb1 := hkb.out w1 hk1
  have hz1 := hk1.size
  simp only [World.size_alloc] at hz1 hfr
  have f0 := hb1.frozen 0
  have f1 := hb1.frozen 1
  have f2 := hb1.frozen 2
  have f3 := hb1.frozen 3
  have d0 := hb1.cell 0
  have d1 := hb1.cell 1
  have d2 := hb1.cell 2
  have d3 := hb1.cell 3
  simp at d0 d1 d2 d3
  have hbf := hb1.set4 (y0 := .int .i64 x.k) (y1 := .string (str x.nm)) (y2 := .int .i64 x.i) (y3 := .slice a1 x.args.length c1)
  have g0 := hbf.cell 0
  have g1 := hbf.cell 1
  have g2 := hbf.cell 2
  have g3 := hbf.cell 3
  simp at g0 g1 g2 g3
  have hkf : Keep (fun g => g ≠ w.heap.size + 1) w1 ((((w1.setCell ⟨w.heap.size + 1, 0, none⟩ (.int .i64 x.k)).setCell ⟨w.heap.size + 1, 1, none⟩ (.string (str x.nm))).setCell ⟨w.heap.size + 1, 2, none⟩ (.int .i64 x.i)).setCell ⟨w.heap.size + 1, 3, none⟩ (.slice a1 x.args.length c1)) := (Keep.refl _ w1).set4 (o := 0) (fun h => h rfl)
  have hF : Fr 0 (fun _ => False) ((((w1.setCell ⟨w.heap.size + 1, 0, none⟩ (.int .i64 x.k)).setCell ⟨w.heap.size + 1, 1, none⟩ (.string (str x.nm))).setCell ⟨w.heap.size + 1, 2, none⟩ (.int .i64 x.i)).setCell ⟨w.heap.size + 1, 3, none⟩ (.slice a1 x.args.length c1)) w.heap.size w1.heap.size x a1 c1 :=
    ((hfr.grow (Q' := fun _ => False) (H := w1.heap.size) (Nat.le_refl _) (fun _ h => h.elim)).keepR hkf (fun g hg => by rcases hg with hg | hg; omega; omega)).up (Nat.le_refl _) (by omega)
  have hK : Keep (fun g => g < w.heap.size) w ((((w1.setCell ⟨w.heap.size + 1, 0, none⟩ (.int .i64 x.k)).setCell ⟨w.heap.size + 1, 1, none⟩ (.string (str x.nm))).setCell ⟨w.heap.size + 1, 2, none⟩ (.int .i64 x.i)).setCell ⟨w.heap.size + 1, 3, none⟩ (.slice a1 x.args.length c1)) :=
    (((Keep.refl _ w).alloc _).alloc _).trans ((hk1.less (fun _ _ h => h)).trans (hkf.less (fun g hg => by omega)))
  have HF := Lib.hid (And.intro hF hK)
  clear hF hK hkf hbf hfr hI1 hk1 hp1 hb1 HC hkb
  go_wp2_with fail
  exact bodyPost_ret (v := .agg #[.int .i64 x.k, .string (str x.nm), .int .i64 x.i, .slice a1 x.args.length c1]) (by simp [results, Tryz.results68, go_sem, g0, g1, g2, g3]) rfl ⟨a1, c1, rfl, HF.out.1.up (by simp [World.setCell]) (Nat.le_refl _), HF.out.2⟩
end Go.Proofs.YtfkbbbjicaedmaaGreatDoor
namespace Go.Proofs.YtfkbbbjicaedmaaGreatDoor
open Go.RowKit Go.Maps
set_option linter.unusedVariables false
set_option linter.unusedSimpArgs false
theorem getElem?_tree (l : List Tm) (k : Nat) {x : Tm} (h : l[k]? = some x) : (l.map Tm.tree).drop k = x.tree :: (l.map Tm.tree).drop (k + 1) := by
  have hk := get_lt' h
  rw [List.drop_eq_getElem_cons (by simpa using hk)]
  rw [List.getElem?_eq_getElem hk] at h
  simp [Option.some.inj h]
end Go.Proofs.YtfkbbbjicaedmaaGreatDoor
