/-
  Joined texts (Tv10, Tv11, Tv12, Tv13, Tv14). No condition.
-/
import Derived.Test.YtnfcbalppecnfaaGreatPMH
import Derived.Maps.RangeWalk
namespace Go.Proofs.YtnfcbalppecnfaaGreat
open Go.RowKit Go.Maps
set_option linter.unusedVariables false
set_option linter.unusedSimpArgs false
def stf (ps : List Pt) : Nat → Int := fun a => ((ps[a]?).map Pt.st).getD 0
def szf (ps : List Pt) : Nat → Int := fun a => ((ps[a]?).map Pt.sz).getD 0
def dpf (ps : List Pt) : Nat → Int := fun a => ((ps[a]?).map Pt.dp).getD 0
section
variable {ps qs : List Pt} {i : Nat} {p q : Pt}
theorem stf_at (h : ps[i]? = some p) : stf ps i = p.st := by simp [stf, h]
theorem szf_at (h : ps[i]? = some p) : szf ps i = p.sz := by simp [szf, h]
theorem dpf_at (h : ps[i]? = some p) : dpf ps i = p.dp := by simp [dpf, h]
theorem f_set {α : Type} {d : α} (f : Pt → α) (hi : i < ps.length) (x : Nat) : (((ps.set i q)[x]?).map f).getD d = if x = i then f q else ((ps[x]?).map f).getD d := by
  rw [List.getElem?_set]
  by_cases hx : x = i
  · subst hx; simp [hi]
  · rw [if_neg (fun e => hx e.symm), if_neg hx]
theorem stf_set (hi : i < ps.length) : stf (ps.set i q) = updI (stf ps) i q.st := by funext x; exact f_set Pt.st hi x
theorem szf_set (hi : i < ps.length) : szf (ps.set i q) = updI (szf ps) i q.sz := by funext x; exact f_set Pt.sz hi x
theorem dpf_set (hi : i < ps.length) : dpf (ps.set i q) = updI (dpf ps) i q.dp := by funext x; exact f_set Pt.dp hi x
theorem updI_self {s : Nat → Int} {a : Nat} {v : Int} (h : s a = v) : updI s a v = s := by
  funext x; unfold updI; split
  · rename_i e; rw [e, h]
  · rfl
theorem updI_at (s : Nat → Int) (a : Nat) (v : Int) : updI s a v a = v := by unfold updI; rw [if_pos rfl]
theorem updI_ne {s : Nat → Int} {a x : Nat} {v : Int} (h : x ≠ a) : updI s a v x = s x := by unfold updI; rw [if_neg h]
theorem smf_set_same (hp : ps[i]? = some p) (hq : q.same = p.same) : smf (ps.set i q) = smf ps := by
  rw [smf_set (get_lt' hp), hq]
  funext x; unfold upd; split
  · rename_i e; rw [e, smf_at hp]
  · rfl
def Pt.sk2 (p : Pt) : Pt := { p with same := 0, st := 0, sz := 0, dp := 0 }
def LikeM (ps qs : List Pt) : Prop := qs.map Pt.sk2 = ps.map Pt.sk2
theorem LikeM.trans {a b c : List Pt} (h : LikeM a b) (k : LikeM b c) : LikeM a c := Eq.trans k h
theorem LikeM.len {a b : List Pt} (h : LikeM a b) : b.length = a.length := by have := congrArg List.length h; simpa using this
theorem LikeS.toM {a b : List Pt} (h : LikeS a b) : LikeM a b := by
  have e : ∀ l : List Pt, l.map Pt.sk2 = (l.map Pt.sk).map Pt.sk2 := fun l => by rw [List.map_map]; rfl
  unfold LikeM; rw [e b, e a, h]
theorem LikeM.set (hp : ps[i]? = some p) (h : q.sk2 = p.sk2) : LikeM ps (ps.set i q) := by
  unfold LikeM
  rw [List.map_set]
  refine List.ext_getElem? fun j => ?_
  rw [List.getElem?_set]
  split
  · rename_i e
    subst e
    rw [if_pos (by rw [List.length_map]; exact get_lt' hp), List.getElem?_map, hp, h]
    rfl
  · rfl
theorem LikeM.get {a b : List Pt} (h : LikeM a b) {x : Nat} {p : Pt} (hp : a[x]? = some p) : ∃ q, b[x]? = some q ∧ q.nd = p.nd ∧ q.ja = p.ja ∧ q.jc = p.jc ∧ q.ta = p.ta ∧ q.tl = p.tl ∧ q.tc = p.tc := by
  have h1 : (b.map Pt.sk2)[x]? = (a.map Pt.sk2)[x]? := by rw [h]
  rw [List.getElem?_map, List.getElem?_map, hp] at h1
  obtain ⟨q, hq, he⟩ := Option.map_eq_some_iff.1 h1
  refine ⟨q, hq, ?_⟩
  cases q; cases p
  simp only [Pt.sk2, Pt.mk.injEq] at he
  simp_all
theorem LikeM.nds {a b : List Pt} (h : LikeM a b) : b.map Pt.nd = a.map Pt.nd := by
  have e : ∀ l : List Pt, l.map Pt.nd = (l.map Pt.sk2).map Pt.nd := fun l => by rw [List.map_map]; rfl
  rw [e b, e a, h]
theorem LikeS.fs {a b : List Pt} (h : LikeS a b) : stf b = stf a ∧ szf b = szf a ∧ dpf b = dpf a := by
  have e : ∀ {β : Type} (f : Pt → β) (hf : ∀ p : Pt, f p.sk = f p) (d : β) (l : List Pt) (x : Nat), ((l[x]?).map f).getD d = (((l.map Pt.sk)[x]?).map f).getD d := fun f hf d l x => by
    rw [List.getElem?_map]
    cases l[x]? with
    | none => rfl
    | some p => simp [hf]
  refine ⟨?_, ?_, ?_⟩
  · funext x; unfold stf; rw [e Pt.st (fun _ => rfl) 0 b x, e Pt.st (fun _ => rfl) 0 a x, h]
  · funext x; unfold szf; rw [e Pt.sz (fun _ => rfl) 0 b x, e Pt.sz (fun _ => rfl) 0 a x, h]
  · funext x; unfold dpf; rw [e Pt.dp (fun _ => rfl) 0 b x, e Pt.dp (fun _ => rfl) 0 a x, h]
end
structure Mono (n : Nat) (qs qs' : List Pt) : Prop where
  one : ∀ u, u < n → (stf qs' u = 1 ↔ stf qs u = 1)
  zero : ∀ u, u < n → stf qs' u = 0 → stf qs u = 0
  stay : ∀ u, u < n → stf qs u ≠ 0 → stf qs' u = stf qs u ∧ szf qs' u = szf qs u ∧ dpf qs' u = dpf qs u
theorem Mono.likeS {n : Nat} {a b : List Pt} (h : LikeS a b) : Mono n a b := by
  obtain ⟨h1, h2, h3⟩ := h.fs
  exact ⟨fun u hu => by rw [h1], fun u hu e => by rwa [h1] at e, fun u hu e => ⟨by rw [h1], by rw [h2], by rw [h3]⟩⟩
theorem filter_len {α : Type} (f g : α → Bool) (h : ∀ x, f x = true → g x = true) (l : List α) : (l.filter f).length ≤ (l.filter g).length := by
  induction l with
  | nil => simp
  | cons a l ih =>
    rw [List.filter_cons, List.filter_cons]
    by_cases hf : f a = true
    · rw [if_pos hf, if_pos (h a hf)]; simp only [List.length_cons]; omega
    · rw [if_neg hf]; split
      · simp only [List.length_cons]; omega
      · exact ih
theorem Mono.cnt0 {n : Nat} {a b : List Pt} (h : Mono n a b) : Go.Proofs.YtnfcbalppecnfaaGreat.cnt0 (stf b) n ≤ Go.Proofs.YtnfcbalppecnfaaGreat.cnt0 (stf a) n := by
  unfold Go.Proofs.YtnfcbalppecnfaaGreat.cnt0
  have e : ∀ s : List Pt, (List.range n).filter (fun x => stf s x == 0) = (List.range n).filter (fun x => decide (x < n) && (stf s x == 0)) := fun s => List.filter_congr fun x hx => by
    rw [decide_eq_true (List.mem_range.1 hx), Bool.true_and]
  rw [e b, e a]
  refine filter_len _ _ (fun x hx => ?_) _
  simp only [Bool.and_eq_true, decide_eq_true_eq, beq_iff_eq] at hx ⊢
  exact ⟨hx.1, h.zero x hx.1 hx.2⟩
structure MS (lo g mb gp cap : Nat) (ps : List Pt) (vs : List (Int × Nat)) (R rk : Nat → Nat) (qs : List Pt) (wr : World) : Prop where
  sb : SB lo g mb gp cap wr qs vs
  like : LikeM ps qs
  fo : Forest ps.length (smf qs) R rk
section
variable {lo g mb gp cap : Nat} {ps qs : List Pt} {vs : List (Int × Nat)} {R rk : Nat → Nat} {wr w' : World} {x : Nat} {p q : Pt}
theorem MS.len (h : MS lo g mb gp cap ps vs R rk qs wr) : qs.length = ps.length := h.like.len
theorem MS.drew (h : MS lo g mb gp cap ps vs R rk qs wr) : MS lo g mb gp cap ps vs R rk qs wr.drew := ⟨h.sb.drewN 1, h.like, h.fo⟩
theorem MS.keep (h : MS lo g mb gp cap ps vs R rk qs wr) (hk : Keep (fun k => k < wr.heap.size) wr w') : MS lo g mb gp cap ps vs R rk qs w' := ⟨h.sb.keep' hk, h.like, h.fo⟩
theorem MS.hd (h : MS lo g mb gp cap ps vs R rk qs wr) : wr.cell? ⟨g, 0, none⟩ = some (.slice (some ⟨gp, 0, none⟩) ps.length cap) := by
  have := h.sb.box.cell 0
  rw [h.len] at this
  simpa using this
theorem MS.of (h : MS lo g mb gp cap ps vs R rk qs wr) (hx : x < ps.length) (hn : ps.length ≤ 5000) :
    Calls Tryz.prog 91 #[.pointer (some ⟨g, 0, none⟩), .int .i64 x] wr fun e w' => ∃ qs', e = .returned (.int .i64 (R x : Nat)) ∧ MS lo g mb gp cap ps vs R rk qs' w' ∧ LikeS qs qs' ∧ Keep (fun k => k ≠ gp) wr w' := by
  refine (of_any h.sb (by rw [h.len]; exact h.fo) (by rw [h.len]; exact hx) (by rw [h.len]; exact hn)).mono ?_
  rintro e w' ⟨qs', rfl, hs⟩
  exact ⟨qs', rfl, ⟨hs.sb, h.like.trans hs.like.toM, by have := hs.fo; rwa [h.len] at this⟩, hs.like, hs.kp⟩
theorem MS.set (h : MS lo g mb gp cap ps vs R rk qs wr) {f : Nat} {v : Value} (hp : qs[x]? = some p) (hf : f < 9) (hq : q.cells = p.cells.set f v) (h1 : q.sk2 = p.sk2) (h2 : q.same = p.same) : MS lo g mb gp cap ps vs R rk (qs.set x q) (wr.setCell ⟨gp, x * 9 + f, none⟩ v) := by
  have e1 : q.nd = p.nd := by have := congrArg Pt.nd h1; exact this
  have e2 : q.ja = p.ja := by have := congrArg Pt.ja h1; exact this
  have e3 : q.jc = p.jc := by have := congrArg Pt.jc h1; exact this
  exact ⟨h.sb.set hp hf hq e1 e2 e3, h.like.trans (LikeM.set hp h1), by rw [smf_set_same hp h2]; exact h.fo⟩
theorem MS.root (h : MS lo g mb gp cap ps vs R rk qs wr) (hc : Cl (ps.map Pt.nd) R) (hx : x < ps.length) : R (R x) = R x ∧ R x < ps.length := by
  have h1 := hc.idem x (by rw [List.length_map]; exact hx)
  have h2 := hc.lt x (by rw [List.length_map]; exact hx)
  rw [List.length_map] at h2
  exact ⟨h1, h2⟩
theorem root_stay {qs' : List Pt} {r : Nat} (h : LikeS qs qs') (f1 : Forest ps.length (smf qs) R rk) (f2 : Forest ps.length (smf qs') R rk) (hr : r < ps.length) (e : R r = r) (hp : qs[r]? = some p) : qs'[r]? = some p := by
  obtain ⟨s, hs⟩ := h.get hp
  have h1 := (f1.fix r hr).1 e
  have h2 := (f2.fix r hr).1 e
  rw [smf_at hp] at h1
  rw [smf_at hs] at h2
  dsimp only at h2
  rw [hs]
  cases p
  simp_all
end
end Go.Proofs.YtnfcbalppecnfaaGreat
namespace Go.Proofs.YtnfcbalppecnfaaGreat
open Go.RowKit Go.Maps
set_option linter.unusedVariables false
set_option linter.unusedSimpArgs false
def MeasC (lo g mb gp cap : Nat) (ps : List Pt) (vs : List (Int × Nat)) (R rk : Nat → Nat) (N : Nat) : Prop := ∀ (w : World) (qs : List Pt) (x : Nat), MS lo g mb gp cap ps vs R rk qs w → MInv (ps.map Pt.nd) R (stf qs) (szf qs) (dpf qs) → cnt0 (stf qs) ps.length ≤ N → x < ps.length → (∀ u, u < ps.length → stf qs u = 1 → Anc (ps.map Pt.nd) R u x) →
  Calls Tryz.prog 93 #[.pointer (some ⟨g, 0, none⟩), .int .i64 x] w fun e w' => ∃ (ok : Bool) (qs' : List Pt), e = .returned (.bool ok) ∧ MS lo g mb gp cap ps vs R rk qs' w' ∧ Keep (fun k => k < w.heap.size ∧ k ≠ gp) w w' ∧
    (ok = true → MInv (ps.map Pt.nd) R (stf qs') (szf qs') (dpf qs') ∧ stf qs' (R x) = 2 ∧ Mono ps.length qs qs') ∧ (ok = false → ¬ ∃ t, Val (ps.map Pt.nd) R x t)
structure MonoX (n r : Nat) (a b : List Pt) : Prop where
  one : ∀ u, u < n → u ≠ r → (stf b u = 1 ↔ stf a u = 1)
  zero : ∀ u, u < n → u ≠ r → stf b u = 0 → stf a u = 0
  stay : ∀ u, u < n → u ≠ r → stf a u ≠ 0 → stf b u = stf a u ∧ szf b u = szf a u ∧ dpf b u = dpf a u
theorem MonoX.trans {n r : Nat} {a b c : List Pt} (h : MonoX n r a b) (k : MonoX n r b c) : MonoX n r a c :=
  ⟨fun u hu hr => (k.one u hu hr).trans (h.one u hu hr), fun u hu hr e => h.zero u hu hr (k.zero u hu hr e), fun u hu hr e => by
    obtain ⟨a1, a2, a3⟩ := h.stay u hu hr e
    obtain ⟨b1, b2, b3⟩ := k.stay u hu hr (by rw [a1]; exact e)
    exact ⟨b1.trans a1, b2.trans a2, b3.trans a3⟩⟩
theorem Mono.x {n : Nat} {a b : List Pt} (h : Mono n a b) (r : Nat) : MonoX n r a b := ⟨fun u hu _ => h.one u hu, fun u hu _ => h.zero u hu, fun u hu _ => h.stay u hu⟩
theorem MonoX.set {n r : Nat} {a : List Pt} {q : Pt} (hr : r < a.length) : MonoX n r a (a.set r q) := by
  refine ⟨fun u hu h => ?_, fun u hu h e => ?_, fun u hu h e => ?_⟩
  · rw [stf_set hr, updI_ne h]
  · rwa [stf_set hr, updI_ne h] at e
  · rw [stf_set hr, szf_set hr, dpf_set hr, updI_ne h, updI_ne h, updI_ne h]; exact ⟨rfl, rfl, rfl⟩
theorem MonoX.mono {n r : Nat} {a b : List Pt} (h : MonoX n r a b) (h0 : stf a r = 0) (h2 : stf b r = 2) : Mono n a b := by
  refine ⟨fun u hu => ?_, fun u hu e => ?_, fun u hu e => ?_⟩
  · by_cases hr : u = r
    · subst hr; rw [h0, h2]; decide
    · exact h.one u hu hr
  · by_cases hr : u = r
    · subst hr; exact h0
    · exact h.zero u hu hr e
  · by_cases hr : u = r
    · subst hr; exact absurd h0 e
    · exact h.stay u hu hr e
section
variable {lo g mb gp cap : Nat} {ps : List Pt} {vs : List (Int × Nat)} {R rk : Nat → Nat} {D : Nat → T}
theorem MInv.likeS {qs qs' : List Pt} (h : MInv (ps.map Pt.nd) R (stf qs) (szf qs) (dpf qs)) (k : LikeS qs qs') : MInv (ps.map Pt.nd) R (stf qs') (szf qs') (dpf qs') := by
  obtain ⟨e1, e2, e3⟩ := k.fs
  rw [e1, e2, e3]; exact h
structure ML (lo g mb gp cap : Nat) (ps : List Pt) (vs : List (Int × Nat)) (R rk : Nat → Nat) (w : World) (r : Nat) (p : Pt) (N : Nat) (qs0 : List Pt) (j : Nat) (us : List T) (qs : List Pt) (wr : World) : Prop where
  ms : MS lo g mb gp cap ps vs R rk qs wr
  inv : MInv (ps.map Pt.nd) R (stf qs) (szf qs) (dpf qs)
  st : stf qs r = 1
  sz : szf qs r = (min (1 + nsT us) 2001 : Nat)
  dp : dpf qs r = (1 + ndT us : Nat)
  len : us.length = j
  val : ∀ (i a : Nat) (t : T), p.nd.args[i]? = some a → us[i]? = some t → Val (ps.map Pt.nd) R a t
  bd : ndT us ≤ cnt2 (stf qs) (ps.map Pt.nd).length
  mo : MonoX ps.length r qs0 qs
  kp : Keep (fun k => k < w.heap.size ∧ k ≠ gp) w wr
  cn : cnt0 (stf qs) ps.length < N
theorem Mono.cnt2 {n : Nat} {a b : List Pt} (h : Mono n a b) : Go.Proofs.YtnfcbalppecnfaaGreat.cnt2 (stf a) n ≤ Go.Proofs.YtnfcbalppecnfaaGreat.cnt2 (stf b) n := by
  unfold Go.Proofs.YtnfcbalppecnfaaGreat.cnt2
  have e : ∀ s : List Pt, (List.range n).filter (fun x => stf s x == 2) = (List.range n).filter (fun x => decide (x < n) && (stf s x == 2)) := fun s => List.filter_congr fun x hx => by
    rw [decide_eq_true (List.mem_range.1 hx), Bool.true_and]
  rw [e b, e a]
  refine filter_len _ _ (fun x hx => ?_) _
  simp only [Bool.and_eq_true, decide_eq_true_eq, beq_iff_eq] at hx ⊢
  exact ⟨hx.1, by rw [(h.stay x hx.1 (by rw [hx.2]; decide)).1]; exact hx.2⟩
theorem MInv.free {st sz dp sz' dp' : Nat → Int} {r : Nat} {G : List Nd} (h : MInv G R st sz dp) (h1 : st r = 1) (hs : ∀ x, x ≠ r → sz' x = sz x) (hd : ∀ x, x ≠ r → dp' x = dp x) : MInv G R st sz' dp' :=
  ⟨h.vals, h.root, fun x hx h2 => by
    have hxr : x ≠ r := fun e => by rw [e, h1] at h2; cases h2
    rw [hs x hxr, hd x hxr]; exact h.done x hx h2⟩
theorem ML.next {w wr W6 : World} {r j a ra S2 D2 : Nat} {p pr : Pt} {N : Nat} {qs0 q q2 q3 : List Pt} {us : List T} {t : T} (hl : ML lo g mb gp cap ps vs R rk w r p N qs0 j us q wr) (hrp : r < ps.length) (hja : p.nd.args[j]? = some a)
    (mo2 : Mono ps.length q q2) (l3 : LikeS q2 q3) (i2 : MInv (ps.map Pt.nd) R (stf q2) (szf q2) (dpf q2)) (hv : Val (ps.map Pt.nd) R ra t) (hra : ra = R a) (hrra : R ra = ra) (htn : t.nd ≤ cnt2 (stf q2) (ps.map Pt.nd).length) (hpr : q3[r]? = some pr) (h1 : pr.st = 1)
    (hS2 : S2 = min (min (1 + nsT us) 2001 + min t.ns 2001) 2001) (hD2 : D2 = max (1 + ndT us) (t.nd + 1)) (m6 : MS lo g mb gp cap ps vs R rk (q3.set r { pr with sz := (S2 : Int), dp := (D2 : Int) }) W6) (hk : Keep (fun k => k < w.heap.size ∧ k ≠ gp) w W6) :
    ML lo g mb gp cap ps vs R rk w r p N qs0 (j + 1) (us ++ [t]) (q3.set r { pr with sz := (S2 : Int), dp := (D2 : Int) }) W6 := by
  have hrq := get_lt' hpr
  have hst : stf (q3.set r { pr with sz := (S2 : Int), dp := (D2 : Int) }) = stf q2 := by
    rw [stf_set hrq, updI_self (by rw [stf_at hpr]), l3.fs.1]
  have hst1 : stf q2 r = 1 := by rw [← l3.fs.1, stf_at hpr, h1]
  have hsz : szf (q3.set r { pr with sz := (S2 : Int), dp := (D2 : Int) }) = updI (szf q2) r S2 := by rw [szf_set hrq, l3.fs.2.1]
  have hdp : dpf (q3.set r { pr with sz := (S2 : Int), dp := (D2 : Int) }) = updI (dpf q2) r D2 := by rw [dpf_set hrq, l3.fs.2.2]
  have hnd : ndT (us ++ [t]) = max (ndT us) t.nd := by rw [ndT_append, ndT_cons, ndT_nil]; omega
  have hns : nsT (us ++ [t]) = nsT us + t.ns := by rw [nsT_append, nsT_cons, nsT_nil]; omega
  have hc2 := mo2.cnt2
  refine ⟨m6, ?_, by rw [hst]; exact hst1, by rw [hsz, updI_at, hns, hS2]; congr 1; omega, by rw [hdp, updI_at, hnd, hD2]; congr 1; omega, by rw [List.length_append, hl.len]; rfl, fun i a' u hi hu => ?_, ?_, ?_, hk, by rw [hst]; have := mo2.cnt0; have := hl.cn; omega⟩
  · rw [hst, hsz, hdp]
    exact i2.free hst1 (fun x hx => updI_ne hx) (fun x hx => updI_ne hx)
  · rw [List.getElem?_append] at hu
    split at hu
    · exact hl.val i a' u hi hu
    · rename_i hlt
      have h3 := get_lt' hu
      simp only [List.length_singleton] at h3
      have h4 := hl.len
      have h5 : i = j := by omega
      subst h5
      rw [h4, Nat.sub_self] at hu
      simp only [List.getElem?_cons_zero, Option.some.injEq] at hu
      rw [hja] at hi
      cases hi
      subst hu
      exact hv.class (by rw [hrra, hra])
  · rw [hst, hnd]
    have := hl.bd
    rw [List.length_map] at this htn ⊢
    omega
  · exact hl.mo.trans ((mo2.x r).trans (((Mono.likeS l3).x r).trans (MonoX.set hrq)))
theorem Blk.set9 {w : World} {g : Nat} {t : TypeId} {z0 z1 z2 z3 z4 z5 z6 z7 z8 v0 v1 v2 v3 v4 v5 v6 v7 v8 : Value} (h : Blk w g t #[z0, z1, z2, z3, z4, z5, z6, z7, z8]) : Blk (((((((((w.setCell ⟨g, 0, none⟩ v0).setCell ⟨g, 1, none⟩ v1).setCell ⟨g, 2, none⟩ v2).setCell ⟨g, 3, none⟩ v3).setCell ⟨g, 4, none⟩ v4).setCell ⟨g, 5, none⟩ v5).setCell ⟨g, 6, none⟩ v6).setCell ⟨g, 7, none⟩ v7).setCell ⟨g, 8, none⟩ v8) g t #[v0, v1, v2, v3, v4, v5, v6, v7, v8] := by
  have := (((((((((h.set_ 0 v0).set_ 1 v1).set_ 2 v2).set_ 3 v3).set_ 4 v4).set_ 5 v5).set_ 6 v6).set_ 7 v7).set_ 8 v8)
  simpa using this
theorem Keep.set9 {X : Nat → Prop} {w0 w : World} {g : Nat} {v0 v1 v2 v3 v4 v5 v6 v7 v8 : Value} (h : Keep X w0 w) (hg : ¬ X g) : Keep X w0 (((((((((w.setCell ⟨g, 0, none⟩ v0).setCell ⟨g, 1, none⟩ v1).setCell ⟨g, 2, none⟩ v2).setCell ⟨g, 3, none⟩ v3).setCell ⟨g, 4, none⟩ v4).setCell ⟨g, 5, none⟩ v5).setCell ⟨g, 6, none⟩ v6).setCell ⟨g, 7, none⟩ v7).setCell ⟨g, 8, none⟩ v8) := (((((((((h.setCell (p := ⟨g, 0, none⟩) hg v0).setCell (p := ⟨g, 1, none⟩) hg v1).setCell (p := ⟨g, 2, none⟩) hg v2).setCell (p := ⟨g, 3, none⟩) hg v3).setCell (p := ⟨g, 4, none⟩) hg v4).setCell (p := ⟨g, 5, none⟩) hg v5).setCell (p := ⟨g, 6, none⟩) hg v6).setCell (p := ⟨g, 7, none⟩) hg v7).setCell (p := ⟨g, 8, none⟩) hg v8)
theorem MS.off {qs : List Pt} {w3 W : World} {bx : Nat} {Z : Array Value} (h : MS lo g mb gp cap ps vs R rk qs w3) (hb : Blk w3 bx 147 Z) (hne : bx ≠ gp) (hk : Keep (fun k => k ≠ bx) w3 W) : MS lo g mb gp cap ps vs R rk qs W :=
  ⟨h.sb.keepT hk (h.sb.box.ne_ hb (by decide)) (h.sb.map.ne_blk hb) (Ne.symm hne) (fun b cs hB _ => hB.ne_ hb (by decide)), h.like, h.fo⟩
set_option maxRecDepth 100000 in
set_option maxHeartbeats 4000000 in
theorem meas_step (hG : Gr (ps.map Pt.nd) D) (hcl : Cl (ps.map Pt.nd) R) (hn : ps.length ≤ 5000) (h8 : ∀ p ∈ ps, p.nd.args.length ≤ 8) {N : Nat} (ih : ∀ M, M < N → MeasC lo g mb gp cap ps vs R rk M) : MeasC lo g mb gp cap ps vs R rk N := by
  intro w qs x h hi hc hx ha
  obtain ⟨hrr, hrl⟩ := h.root hcl hx
  have hof := h.drew.of hx hn
  obtain ⟨r, hr⟩ : ∃ r, r = R x := ⟨_, rfl⟩
  rw [← hr] at hrr hrl hof ⊢
  obtain ⟨p, hp⟩ : ∃ p, qs[r]? = some p := ⟨_, List.getElem?_eq_getElem (by rw [h.len]; exact hrl)⟩
  have hpG : (ps.map Pt.nd)[r]? = some p.nd := by rw [← h.like.nds, List.getElem?_map, hp]; rfl
  have hm8 : p.nd.args.length ≤ 8 := by
    obtain ⟨q0, hq0⟩ : ∃ q0, ps[r]? = some q0 := ⟨_, List.getElem?_eq_getElem hrl⟩
    obtain ⟨q1, e1, e2, _⟩ := h.like.get hq0
    rw [hp] at e1
    cases e1
    rw [e2]; exact h8 _ (List.mem_of_getElem? hq0)
  clear h8
  have hst := hi.vals r (by rw [List.length_map]; exact hrl)
  rw [stf_at hp] at hst
  obtain ⟨n, hnn⟩ : ∃ n, n = ps.length := ⟨_, rfl⟩
  have c0 := h.hd
  rw [← hnn] at c0 hn hrl hx
  have HOF := Lib.hid hof
  have HP := Lib.hid (And.intro hp (And.intro hpG (And.intro hrr hr)))
  have HH := Lib.hid (And.intro h (And.intro hi (And.intro hc (And.intro ha hnn))))
  have HC := Lib.hid (And.intro hG (And.intro hcl ih))
  have hltp := h.sb.ltp
  clear hof hp hpG hrr hr h hi hc ha hnn hG hcl ih
  go_enter Tryz.func93, Tryz.ntmps93
  go_wp2_with fail
  go_region_held3 (fun w' => w'.cell? ⟨g, 0, none⟩ = some (.slice (some ⟨gp, 0, none⟩) n cap)) (first | exact c0 | assumption)
    (first | (go_at_call 91; refine HOF.out.mono ?_; rintro e w1 ⟨qs1, rfl, m1, l1, k1⟩; have c0 := m1.hd; rw [← HH.out.2.2.2.2] at c0; have M1 := Lib.hid (And.intro m1 (And.intro l1 k1)); clear m1 l1 k1))
  obtain ⟨m1, l1, k1⟩ := M1.out
  obtain ⟨hp, hpG, hrr, hr⟩ := HP.out
  have hnn := HH.out.2.2.2.2
  have hp1 := root_stay l1 HH.out.1.fo m1.fo (by omega) hrr hp
  have s6 := m1.sb.cell hp1 (f := 6) rfl
  have hkw : Keep (fun k => k < w.heap.size ∧ k ≠ gp) w w1 := ((Keep.refl _ w).drew).trans (k1.less (fun k hk => hk.2))
  rcases hst with hst | hst | hst
  · have s4 := m1.sb.cell hp1 (f := 4) rfl
    have s7 := m1.sb.cell hp1 (f := 7) rfl
    have s8 := m1.sb.cell hp1 (f := 8) rfl
    have f6 := m1.sb.frz (r * 9 + 6)
    have f7 := m1.sb.frz (r * 9 + 7)
    have f8 := m1.sb.frz (r * 9 + 8)
    rw [hst] at s6
    -- the part is under way
    have hrl1 : r < qs1.length := by rw [m1.len, ← hnn]; exact hrl
    have m2 := m1.set (q := { p with st := 1 }) (f := 6) (v := .int .i64 1) hp1 (by decide) rfl rfl rfl
    have hp2 : (qs1.set r { p with st := 1 })[r]? = some { p with st := 1 } := by rw [List.getElem?_set_self hrl1]
    have m3 := m2.set (q := { p with st := 1, sz := 1 }) (f := 7) (v := .int .i64 1) hp2 (by decide) rfl rfl rfl
    rw [List.set_set] at m3
    have hp3 : (qs1.set r { p with st := 1, sz := 1 })[r]? = some { p with st := 1, sz := 1 } := by rw [List.getElem?_set_self hrl1]
    have m4 := m3.set (q := { p with st := 1, sz := 1, dp := 1 }) (f := 8) (v := .int .i64 1) hp3 (by decide) rfl rfl rfl
    rw [List.set_set] at m4
    obtain ⟨W2, hW2⟩ : ∃ W, W = ((w1.setCell ⟨gp, r * 9 + 6, none⟩ (.int .i64 1)).setCell ⟨gp, r * 9 + 7, none⟩ (.int .i64 1)).setCell ⟨gp, r * 9 + 8, none⟩ (.int .i64 1) := ⟨_, rfl⟩
    rw [← hW2] at m4
    have hk4 : Keep (fun k => k < w.heap.size ∧ k ≠ gp) w W2 := by
      rw [hW2]
      exact ((hkw.setCell (p := ⟨gp, r * 9 + 6, none⟩) (fun h => h.2 rfl) _).setCell (p := ⟨gp, r * 9 + 7, none⟩) (fun h => h.2 rfl) _).setCell (p := ⟨gp, r * 9 + 8, none⟩) (fun h => h.2 rfl) _
    obtain ⟨qs2, hqs2⟩ : ∃ qs2, qs2 = qs1.set r { p with st := 1, sz := 1, dp := 1 } := ⟨_, rfl⟩
    rw [← hqs2] at m4
    have hi1 := HH.out.2.1.likeS l1
    have hst1 : stf qs1 r = 0 := by rw [stf_at hp1]; exact hst
    obtain ⟨hi2, hcnt, hcn2⟩ := hi1.begin_ (r := r) (by rw [List.length_map, ← hnn]; exact hrl) hrr hst1 (szf qs2) (dpf qs2) (fun x hx => by rw [hqs2, szf_set hrl1, updI_ne hx]) (fun x hx => by rw [hqs2, dpf_set hrl1, updI_ne hx])
    have hst2 : stf qs2 = updI (stf qs1) r 1 := by rw [hqs2, stf_set hrl1]
    rw [← hst2] at hi2 hcnt hcn2
    have hmx : MonoX ps.length r qs qs2 := ((Mono.likeS l1).x r).trans (by rw [hqs2]; exact MonoX.set hrl1)
    have hN : cnt0 (stf qs2) ps.length < N := by
      have := HH.out.2.2.1
      rw [List.length_map, l1.fs.1] at hcnt
      omega
    obtain ⟨ja, hja⟩ : ∃ ja, ja = p.ja := ⟨_, rfl⟩
    obtain ⟨m, hm⟩ : ∃ m, m = p.nd.args.length := ⟨_, rfl⟩
    rw [← hja, ← hm] at s4
    have hq2 : qs2[r]? = some { p with st := 1, sz := 1, dp := 1 } := by rw [hqs2, List.getElem?_set_self hrl1]
    have h0 : ML lo g mb gp cap ps vs R rk w r p N qs 0 [] qs2 W2 := ⟨m4, hi2, by rw [stf_at hq2], by rw [szf_at hq2, nsT_nil]; rfl, by rw [dpf_at hq2, ndT_nil]; rfl, rfl, fun i a t _ h => by simp at h, by rw [ndT_nil]; exact Nat.zero_le _, hmx, hk4, hN⟩
    have H0 := Lib.hid h0
    have HJ := Lib.hid (And.intro hja hm)
    have HW2 := Lib.hid hW2
    rw [← hm] at hm8
    clear m1 l1 k1 hp hpG hrr hr hnn hp1 hkw m2 hp2 m3 hp3 m4 hk4 hqs2 hi1 hst1 hi2 hcnt hcn2 hst2 hmx hN hja hm hq2 h0 hW2 hrl1
    go_wp2_with fail
    rw [← HW2.out]
    go_loopg [41] m (fun γ i' wr => ∃ (j : Nat) (us : List T) (q : List Pt), j ≤ m ∧ m - j ≤ γ ∧ i' = .int .i64 j ∧ ML lo g mb gp cap ps vs R rk w r p N qs j us q wr)
    case atStart => exact ⟨0, [], qs2, Nat.zero_le _, Nat.le_refl _, rfl, H0.out⟩
    case round =>
      clear s4 s6 s7 s8 f6 f7 f8 c0
      obtain ⟨j, us, q, hj, hg, rfl, hl⟩ := hrel
      have c0 := hl.ms.hd
      rw [← HH.out.2.2.2.2] at c0
      have hltr := hl.ms.sb.ltp
      by_cases hlj : j < m
      · obtain ⟨a, hja⟩ : ∃ a, p.nd.args[j]? = some a := ⟨_, List.getElem?_eq_getElem (by rw [← HJ.out.2]; exact hlj)⟩
        have hlk : LikeM qs q := Eq.trans hl.ms.like (Eq.symm HH.out.1.like)
        obtain ⟨p', hp', n1, n2, n3, -⟩ := hlk.get HP.out.1
        have hjs := hl.ms.sb.js p' (List.mem_of_getElem? hp')
        rw [n1, n2, n3, ← HJ.out.2] at hjs
        obtain ⟨b, cb, cs, eb, hlb, hbb, hnb, hcb⟩ := row_some hjs (by omega)
        injection eb with eb1 eb2 eb3
        have r1 := hcb j (.int .i64 (a : Int)) (by unfold jv; rw [List.getElem?_map, hja]; rfl)
        have lb := hbb.lt
        have e1' : ja = some ⟨b, 0, none⟩ := HJ.out.1.trans eb1
        have hrG : (ps.map Pt.nd)[R r]? = some p.nd := by rw [HP.out.2.2.1]; exact HP.out.2.1
        have hxG : (ps.map Pt.nd)[R x]? = some p.nd := by rw [← HP.out.2.2.2]; exact HP.out.2.1
        have har : a < r := HC.out.1.lt r p.nd HP.out.2.1 a (List.mem_of_getElem? hja)
        have haG : a < ps.length := by rw [← HH.out.2.2.2.2]; omega
        have hAx : Anc (ps.map Pt.nd) R x a := Anc.arg HC.out.1 hxG hja
        have hcall := (HC.out.2.2 (N - 1) (by have := hl.cn; omega)) wr q a hl.ms hl.inv (by have := hl.cn; omega) haG (fun u hu h1 => by
          by_cases hur : u = r
          · rw [hur]; exact Anc.arg HC.out.1 hrG hja
          · exact (HH.out.2.2.2.1 u hu ((hl.mo.one u hu hur).1 h1)).trans hAx)
        have HCALL := Lib.hid hcall; clear hcall
        have HL := Lib.hid (And.intro hl (And.intro hg (And.intro hlj hja)))
        have HAX := Lib.hid (And.intro hAx (And.intro har haG)); clear hAx hrG hxG
        clear hlk hp' n1 n2 n3 hjs hbb hnb hcb eb1 eb2 eb3 hg hl hja hlb haG H0 HJ
        subst e1'
        go_wp2_with fail
        refine HCALL.out.mono ?_
        rintro e w2 ⟨ok, q2, rfl, m2, k2, ht, hf⟩
        cases ok with
        | false =>
          have hno : ¬ ∃ t, Val (ps.map Pt.nd) R x t := fun ⟨t, ht⟩ => by
            obtain ⟨v', h', _⟩ := HAX.out.1 t ht
            exact hf rfl ⟨v', h'⟩
          have HE := Lib.hid (And.intro m2 (And.intro (HL.out.1.kp.trans (k2.less (fun k hk => ⟨Nat.lt_of_lt_of_le hk.1 HL.out.1.kp.size, hk.2⟩))) hno))
          clear m2 k2 ht hf hno r1 c0 HCALL
          go_wp2_with fail
          go_ret
          exact ⟨false, q2, rfl, HE.out.1, HE.out.2.1, fun h => by (cases h), fun _ => HE.out.2.2⟩
        | true =>
          clear hf
          obtain ⟨i2, s2, mo2⟩ := ht rfl
          have hnl := HH.out.2.2.2.2
          have haG := HAX.out.2.2
          obtain ⟨hrra, hral⟩ := m2.root HC.out.2.1 haG
          obtain ⟨ra, hra⟩ : ∃ ra, ra = R a := ⟨_, rfl⟩
          have hof2 := fun W (hW : MS lo g mb gp cap ps vs R rk q2 W) => hW.of haG (by rw [← hnl]; exact hn)
          have m2d := m2.drew
          have m2a := (m2.keep ((Keep.refl _ w2).alloc (.cells #[.int .i64 0, .string ⟨#[]⟩, .int .i64 0, .slice none 0 0, .slice none 0 0, .int .i64 0, .int .i64 0, .int .i64 0, .int .i64 0] 147))).drew
          have M2D := Lib.hid m2d; clear m2d
          have M2A := Lib.hid m2a; clear m2a
          have HZB := Lib.hid (Blk.new w2 147 #[.int .i64 0, .string ⟨#[]⟩, .int .i64 0, .slice none 0 0, .slice none 0 0, .int .i64 0, .int .i64 0, .int .i64 0, .int .i64 0]).drew
          rw [← hra] at hrra hral s2 hof2
          obtain ⟨t, hv, hsz, hdp, htn⟩ := i2.done ra (by rw [List.length_map]; exact hral) s2
          obtain ⟨pa, hpa⟩ : ∃ pa, q2[ra]? = some pa := ⟨_, List.getElem?_eq_getElem (by rw [m2.len]; exact hral)⟩
          rw [szf_at hpa] at hsz
          rw [dpf_at hpa] at hdp
          have c0 := m2.hd
          rw [← hnl] at c0 hral
          have a0 := m2.sb.cell hpa (f := 0) rfl
          have a1 := m2.sb.cell hpa (f := 1) rfl
          have a2 := m2.sb.cell hpa (f := 2) rfl
          have a3 := m2.sb.cell hpa (f := 3) rfl
          have a4 := m2.sb.cell hpa (f := 4) rfl
          have a5 := m2.sb.cell hpa (f := 5) rfl
          have a6 := m2.sb.cell hpa (f := 6) rfl
          have a7 := m2.sb.cell hpa (f := 7) rfl
          have a8 := m2.sb.cell hpa (f := 8) rfl
          simp only [Nat.add_zero] at a0
          have lt2 := m2.sb.ltp
          have lt2g := m2.sb.box.lt
          have hcells : ∀ (q3 : List Pt) (w3 : World), MS lo g mb gp cap ps vs R rk q3 w3 → LikeS q2 q3 → q3[ra]? = some pa := fun q3 w3 h3 l3 => root_stay l3 m2.fo h3.fo (by omega) hrra hpa
          have HCE := Lib.hid hcells; clear hcells
          have HOF2 := Lib.hid hof2; clear hof2
          have H2 := Lib.hid (And.intro m2 (And.intro k2 (And.intro i2 (And.intro s2 (And.intro mo2 (And.intro hv (And.intro hsz (And.intro hdp (And.intro htn (And.intro hra (And.intro hrra hpa)))))))))))
          clear m2 k2 i2 s2 mo2 hv hsz hdp htn hra hrra hpa haG hnl ht r1 HCALL
          go_wp2_with fail
          go_region_held3 (fun w' => w'.cell? ⟨g, 0, none⟩ = some (.slice (some ⟨gp, 0, none⟩) n cap) ∧ w'.cell? ⟨gp, ra * 9, none⟩ = some (.int .i64 pa.nd.k) ∧ w'.cell? ⟨gp, ra * 9 + 1, none⟩ = some (.string (str pa.nd.nm)) ∧ w'.cell? ⟨gp, ra * 9 + 2, none⟩ = some (.int .i64 pa.nd.i) ∧ w'.cell? ⟨gp, ra * 9 + 3, none⟩ = some (.slice pa.ta pa.tl pa.tc) ∧ w'.cell? ⟨gp, ra * 9 + 4, none⟩ = some (.slice pa.ja pa.nd.args.length pa.jc) ∧ w'.cell? ⟨gp, ra * 9 + 5, none⟩ = some (.int .i64 (pa.same : Int)) ∧ w'.cell? ⟨gp, ra * 9 + 6, none⟩ = some (.int .i64 pa.st) ∧ w'.cell? ⟨gp, ra * 9 + 7, none⟩ = some (.int .i64 pa.sz) ∧ w'.cell? ⟨gp, ra * 9 + 8, none⟩ = some (.int .i64 pa.dp)) (first | with_reducible exact ⟨c0, a0, a1, a2, a3, a4, a5, a6, a7, a8⟩ | (refine ⟨?_, ?_, ?_, ?_, ?_, ?_, ?_, ?_, ?_, ?_⟩ <;> (repeat (with_reducible refine far_cell (by assumption) ?_)) <;> with_reducible assumption) | exact ⟨c0, a0, a1, a2, a3, a4, a5, a6, a7, a8⟩ | go_keep)
            (first
              | (go_at_call 91; refine (HOF2.out _ (by exact M2D.out)).mono ?_; rintro e w3 ⟨q3, rfl, m3, l3, k3⟩; clear c0 a0 a1 a2 a3 a4 a5 a6 a7 a8; have hpa3 := HCE.out q3 w3 m3 l3; have c0 := m3.hd; rw [← HH.out.2.2.2.2] at c0; have a0 := m3.sb.cell hpa3 (f := 0) rfl; have a1 := m3.sb.cell hpa3 (f := 1) rfl; have a2 := m3.sb.cell hpa3 (f := 2) rfl; have a3 := m3.sb.cell hpa3 (f := 3) rfl; have a4 := m3.sb.cell hpa3 (f := 4) rfl; have a5 := m3.sb.cell hpa3 (f := 5) rfl; have a6 := m3.sb.cell hpa3 (f := 6) rfl; have a7 := m3.sb.cell hpa3 (f := 7) rfl; have a8 := m3.sb.cell hpa3 (f := 8) rfl; simp only [Nat.add_zero] at a0; have lt3 := m3.sb.ltp; have hz3 := k3.size; have H3 := Lib.hid (And.intro m3 (And.intro l3 (And.intro k3 hpa3))); clear m3 l3 k3 hpa3)
              | (go_at_call 91; refine (HOF2.out _ (by exact M2A.out)).mono ?_; rintro e w3 ⟨q3, rfl, m3, l3, k3⟩; clear c0 a0 a1 a2 a3 a4 a5 a6 a7 a8; have hpa3 := HCE.out q3 w3 m3 l3; have c0 := m3.hd; rw [← HH.out.2.2.2.2] at c0; have a0 := m3.sb.cell hpa3 (f := 0) rfl; have a1 := m3.sb.cell hpa3 (f := 1) rfl; have a2 := m3.sb.cell hpa3 (f := 2) rfl; have a3 := m3.sb.cell hpa3 (f := 3) rfl; have a4 := m3.sb.cell hpa3 (f := 4) rfl; have a5 := m3.sb.cell hpa3 (f := 5) rfl; have a6 := m3.sb.cell hpa3 (f := 6) rfl; have a7 := m3.sb.cell hpa3 (f := 7) rfl; have a8 := m3.sb.cell hpa3 (f := 8) rfl; simp only [Nat.add_zero] at a0; have lt3 := m3.sb.ltp; have hz3 := k3.size; have hbz := HZB.out.keep k3 (Nat.ne_of_gt lt2); have z0 : w3.cell? ⟨w2.heap.size, 0, none⟩ = some (.int .i64 0) := hbz.cell 0; have z1 : w3.cell? ⟨w2.heap.size, 1, none⟩ = some (.string ⟨#[]⟩) := hbz.cell 1; have z2 : w3.cell? ⟨w2.heap.size, 2, none⟩ = some (.int .i64 0) := hbz.cell 2; have z3 : w3.cell? ⟨w2.heap.size, 3, none⟩ = some (.slice none 0 0) := hbz.cell 3; have z4 : w3.cell? ⟨w2.heap.size, 4, none⟩ = some (.slice none 0 0) := hbz.cell 4; have z5 : w3.cell? ⟨w2.heap.size, 5, none⟩ = some (.int .i64 0) := hbz.cell 5; have z6 : w3.cell? ⟨w2.heap.size, 6, none⟩ = some (.int .i64 0) := hbz.cell 6; have z7 : w3.cell? ⟨w2.heap.size, 7, none⟩ = some (.int .i64 0) := hbz.cell 7; have z8 : w3.cell? ⟨w2.heap.size, 8, none⟩ = some (.int .i64 0) := hbz.cell 8; have y0 := hbz.frozen 0; have y1 := hbz.frozen 1; have y2 := hbz.frozen 2; have y3 := hbz.frozen 3; have y4 := hbz.frozen 4; have y5 := hbz.frozen 5; have y6 := hbz.frozen 6; have y7 := hbz.frozen 7; have y8 := hbz.frozen 8; have lz := hbz.lt; have hgb : g ≠ w2.heap.size := Nat.ne_of_lt lt2g; have hpb : gp ≠ w2.heap.size := Nat.ne_of_lt lt2; clear hz3 lt2 lt2g; generalize hbx : w2.heap.size = bx at hbz z0 z1 z2 z3 z4 z5 z6 z7 z8 y0 y1 y2 y3 y4 y5 y6 y7 y8 lz hgb hpb ⊢; have HBX := Lib.hid hbx; clear hbx; have H3 := Lib.hid (And.intro m3 (And.intro l3 (And.intro k3 (And.intro hpa3 hbz)))); clear m3 l3 k3 hpa3 hbz))
          · clear c0 a0 a1 a2 a3 a4 a5 a6 a7 a8
            obtain ⟨m3, l3, k3, hpa3⟩ := H3.out
            obtain ⟨W4, hW4⟩ : ∃ W4, W4 = w3.alloc (.cells #[.int .i64 pa.nd.k, .string (str pa.nd.nm), .int .i64 pa.nd.i, .slice pa.ta pa.tl pa.tc, .slice pa.ja pa.nd.args.length pa.jc, .int .i64 (pa.same : Int), .int .i64 pa.st, .int .i64 pa.sz, .int .i64 pa.dp] 147) := ⟨_, rfl⟩
            rw [← hW4]
            obtain ⟨bx, hbx⟩ : ∃ bx, bx = w3.heap.size := ⟨_, rfl⟩
            have hb4 : Blk W4 bx 147 #[.int .i64 pa.nd.k, .string (str pa.nd.nm), .int .i64 pa.nd.i, .slice pa.ta pa.tl pa.tc, .slice pa.ja pa.nd.args.length pa.jc, .int .i64 (pa.same : Int), .int .i64 pa.st, .int .i64 pa.sz, .int .i64 pa.dp] := by rw [hW4, hbx]; exact Blk.new w3 147 _
            have hk34 : Keep (fun k => k < w3.heap.size) w3 W4 := by rw [hW4]; exact (Keep.refl _ w3).alloc _
            have m4 := m3.keep hk34
            have hpb : gp ≠ bx := by rw [hbx]; exact Nat.ne_of_lt m3.sb.ltp
            rw [← hbx]
            have HBX := Lib.hid hbx
            clear hbx
            have hkw4 : Keep (fun k => k < w.heap.size ∧ k ≠ gp) w W4 := by
              have e1 := HL.out.1.kp
              have e2 := H2.out.2.1
              have s1 := e1.size
              have s2 := e2.size
              have s3 := k3.size
              simp only [World.size_alloc, World.drew] at s3
              exact (((e1.trans (e2.less (fun k hk => ⟨by omega, hk.2⟩))).drew).trans (k3.less (fun k hk => hk.2))).trans (hk34.less (fun k hk => by omega))
            have HKW4 := Lib.hid hkw4
            clear hkw4
            have hnl := HH.out.2.2.2.2
            obtain ⟨m2, k2, i2, s2, mo2, hv, hsz, hdp, htn, hra, hrra, hpa⟩ := H2.out
            have hl := HL.out.1
            have hrp : r < ps.length := by rw [← hnl]; exact hrl
            have hs0 := mo2.stay r hrp (by rw [hl.st]; decide)
            have hst3 : stf q3 r = 1 := by rw [l3.fs.1, hs0.1]; exact hl.st
            have hsz3 : szf q3 r = (min (1 + nsT us) 2001 : Nat) := by rw [l3.fs.2.1, hs0.2.1]; exact hl.sz
            have hdp3 : dpf q3 r = (1 + ndT us : Nat) := by rw [l3.fs.2.2, hs0.2.2]; exact hl.dp
            obtain ⟨pr, hpr⟩ : ∃ pr, q3[r]? = some pr := ⟨_, List.getElem?_eq_getElem (by rw [m4.len]; exact hrp)⟩
            rw [stf_at hpr] at hst3
            rw [szf_at hpr] at hsz3
            rw [dpf_at hpr] at hdp3
            have x7 := m4.sb.cell hpr (f := 7) rfl
            have x8 := m4.sb.cell hpr (f := 8) rfl
            have f7 := m4.sb.frz (r * 9 + 7)
            have f8 := m4.sb.frz (r * 9 + 8)
            have b7 := hb4.cell 7
            have b8 := hb4.cell 8
            simp at b7 b8
            rw [hsz3] at x7
            rw [hdp3] at x8
            rw [hsz] at b7
            rw [hdp] at b8
            have lt4 := m4.sb.ltp
            have ltb := hb4.lt
            obtain ⟨S, hS⟩ : ∃ S, S = min (1 + nsT us) 2001 := ⟨_, rfl⟩
            obtain ⟨P, hP⟩ : ∃ P, P = min t.ns 2001 := ⟨_, rfl⟩
            rw [← hS] at x7 hsz3
            rw [← hP] at b7
            have hS1 : S ≤ 2001 := by omega
            have hP1 : P ≤ 2001 := by omega
            have hwS : IntKind.i64.wrap ((S : Int) + (P : Int)) = (S : Int) + (P : Int) := by rw [IntKind.wrap_i64]; omega
            have HT := Lib.hid (And.intro m4 (And.intro hb4 (And.intro l3 (And.intro hS (And.intro hP (And.intro hst3 (And.intro hsz3 (And.intro hdp3 (And.intro hpr (And.intro hsz (And.intro hdp hpb)))))))))))
            have HW4 := Lib.hid hW4
            have HK34 := Lib.hid (And.intro k3 hk34)
            clear m2 k2 i2 s2 mo2 hv hsz hdp htn hra hrra hpa hl hs0 hst3 hsz3 hdp3 hpr hS hP hnl m3 l3 k3 m4 hb4 hk34 hW4 hpa3 hpb
            go_wp2_with fail
            go_region_with (fail)
            all_goals
              obtain ⟨m4, hb4, l3, hS, hP, hst3, hsz3, hdp3, hpr, hsz, hdp, hpb⟩ := HT.out
              obtain ⟨S2, hS2⟩ : ∃ S2 : Nat, S2 = min (S + P) 2001 := ⟨_, rfl⟩
              have hS2' : (if (2001 : Int) < (S : Int) + (P : Int) then (2001 : Int) else (S : Int) + (P : Int)) = (S2 : Int) := by split <;> omega
              rw [hS2']
              have m5 := (m4.set (q := { pr with sz := (S2 : Int) }) (f := 7) (v := .int .i64 (S2 : Int)) hpr (by decide) rfl rfl rfl).drew
              have k45 : Keep (fun k => k ≠ gp) W4 (W4.setCell ⟨gp, r * 9 + 7, none⟩ (.int .i64 (S2 : Int))).drew := ((Keep.refl _ W4).setCell (p := ⟨gp, r * 9 + 7, none⟩) (fun h => h rfl) _).drew
              have hb5 := hb4.keep k45 (Ne.symm hpb)
              generalize hW5 : (W4.setCell ⟨gp, r * 9 + 7, none⟩ (.int .i64 (S2 : Int))).drew = W5 at *
              have hrq : r < q3.length := get_lt' hpr
              have hpr5 : (q3.set r { pr with sz := (S2 : Int) })[r]? = some { pr with sz := (S2 : Int) } := by rw [List.getElem?_set_self hrq]
              have x8 := m5.sb.cell hpr5 (f := 8) rfl
              have f8 := m5.sb.frz (r * 9 + 8)
              have b8 := hb5.cell 8
              simp at b8
              dsimp only at x8
              obtain ⟨E, hE⟩ : ∃ E : Nat, E = 1 + ndT us := ⟨_, rfl⟩
              obtain ⟨F, hF⟩ : ∃ F : Nat, F = t.nd := ⟨_, rfl⟩
              rw [hdp3, ← hE] at x8
              rw [hdp, ← hF] at b8
              have lt5 := m5.sb.ltp
              have ltb5 := hb5.lt
              have hF5 : F ≤ 5000 := by
                have h1 := H2.out.2.2.2.2.2.2.2.2.1
                have h2 := cnt_le (fun x => stf q2 x == 2) (ps.map Pt.nd).length
                rw [List.length_map, ← HH.out.2.2.2.2] at h2
                unfold cnt2 at h1
                rw [List.length_map, ← HH.out.2.2.2.2] at h1
                omega
              have hwF : IntKind.i64.wrap ((F : Int) + 1) = (F : Int) + 1 := by rw [IntKind.wrap_i64]; omega
              have HT5 := Lib.hid (And.intro m5 (And.intro k45 (And.intro hS2 (And.intro hE (And.intro hF hrq)))))
              clear x7 b7 f7 lt4 ltb hwS hS1 hP1 m4 hb4 l3 hS hP hst3 hsz3 hdp3 hpr hsz hdp hpb hS2 hS2' m5 k45 hb5 hrq hpr5 hE hF hW5
              go_wp2_with fail
              go_region_with (fail)
              all_goals
                obtain ⟨m5, k45, hS2, hE, hF, hrq⟩ := HT5.out
                obtain ⟨m4, hb4, l3, hS, hP, hst3, hsz3, hdp3, hpr, hsz, hdp, hpb⟩ := HT.out
                obtain ⟨m2, k2, i2, s2, mo2, hv, -, -, htn, hra, hrra, hpa⟩ := H2.out
                obtain ⟨D2, hD2⟩ : ∃ D2 : Nat, D2 = max E (F + 1) := ⟨_, rfl⟩
                have hD2' : (if (E : Int) < IntKind.i64.wrap ((F : Int) + 1) then IntKind.i64.wrap ((F : Int) + 1) else (E : Int)) = (D2 : Int) := by rw [hwF]; split <;> omega
                first | rw [hD2'] | (rw [hwF] at hD2'; rw [hD2'])
                have hpr5 : (q3.set r { pr with sz := (S2 : Int) })[r]? = some { pr with sz := (S2 : Int) } := by rw [List.getElem?_set_self hrq]
                have m6 := (m5.set (q := { pr with sz := (S2 : Int), dp := (D2 : Int) }) (f := 8) (v := .int .i64 (D2 : Int)) hpr5 (by decide) rfl rfl rfl).drew
                rw [List.set_set] at m6
                have hkk : Keep (fun k => k < w.heap.size ∧ k ≠ gp) w (W5.setCell ⟨gp, r * 9 + 8, none⟩ (.int .i64 (D2 : Int))).drew := (((HKW4.out.trans (k45.less (fun k hk => hk.2))).setCell (p := ⟨gp, r * 9 + 8, none⟩) (fun h => h.2 rfl) _)).drew
                have hrel := HL.out.1.next (by rw [← HH.out.2.2.2.2]; exact hrl) HL.out.2.2.2 mo2 l3 i2 hv hra hrra htn hpr hst3 (by rw [hS2, hS, hP]) (by rw [hD2, hE, hF]) m6 hkk
                have HREL := Lib.hid hrel
                have HG := Lib.hid HL.out.2.2.1
                clear m5 k45 hS2 hE hF hrq m4 hb4 l3 hS hP hst3 hsz3 hdp3 hpr hsz hdp hpb m2 k2 i2 s2 mo2 hv htn hra hrra hpa hD2 hD2' hpr5 m6 hkk hrel x8 f8 b8 lt5 ltb5
                go_wp2_with fail
                go_roundg (m - (j + 1))
                case measure => have := HG.out; have := HL.out.2.1; omega
                case rel => exact ⟨j + 1, us ++ [t], _, (by have := HG.out; omega), Nat.le_refl _, by go_num, HREL.out⟩
          · have hbz' := H3.out.2.2.2.2
            clear z0 z1 z2 z3 z4 z5 z6 z7 z8 y0 y1 y2 y3 y4 y5 y6 y7 y8 c0 a0 a1 a2 a3 a4 a5 a6 a7 a8
            obtain ⟨m3, l3, k3, hpa3, hbz⟩ := H3.out
            have hb4 : Blk (((((((((w3.setCell ⟨bx, 0, none⟩ (.int .i64 pa.nd.k)).setCell ⟨bx, 1, none⟩ (.string (str pa.nd.nm))).setCell ⟨bx, 2, none⟩ (.int .i64 pa.nd.i)).setCell ⟨bx, 3, none⟩ (.slice pa.ta pa.tl pa.tc)).setCell ⟨bx, 4, none⟩ (.slice pa.ja pa.nd.args.length pa.jc)).setCell ⟨bx, 5, none⟩ (.int .i64 (pa.same : Int))).setCell ⟨bx, 6, none⟩ (.int .i64 pa.st)).setCell ⟨bx, 7, none⟩ (.int .i64 pa.sz)).setCell ⟨bx, 8, none⟩ (.int .i64 pa.dp)) bx 147 #[.int .i64 pa.nd.k, .string (str pa.nd.nm), .int .i64 pa.nd.i, .slice pa.ta pa.tl pa.tc, .slice pa.ja pa.nd.args.length pa.jc, .int .i64 (pa.same : Int), .int .i64 pa.st, .int .i64 pa.sz, .int .i64 pa.dp] := hbz.set9
            have hk34 : Keep (fun k => k ≠ bx) w3 (((((((((w3.setCell ⟨bx, 0, none⟩ (.int .i64 pa.nd.k)).setCell ⟨bx, 1, none⟩ (.string (str pa.nd.nm))).setCell ⟨bx, 2, none⟩ (.int .i64 pa.nd.i)).setCell ⟨bx, 3, none⟩ (.slice pa.ta pa.tl pa.tc)).setCell ⟨bx, 4, none⟩ (.slice pa.ja pa.nd.args.length pa.jc)).setCell ⟨bx, 5, none⟩ (.int .i64 (pa.same : Int))).setCell ⟨bx, 6, none⟩ (.int .i64 pa.st)).setCell ⟨bx, 7, none⟩ (.int .i64 pa.sz)).setCell ⟨bx, 8, none⟩ (.int .i64 pa.dp)) := (Keep.refl (fun k => k ≠ bx) w3).set9 (fun h => h rfl)
            have m4 := m3.off hbz (Ne.symm hpb) hk34
            generalize hW4 : (((((((((w3.setCell ⟨bx, 0, none⟩ (.int .i64 pa.nd.k)).setCell ⟨bx, 1, none⟩ (.string (str pa.nd.nm))).setCell ⟨bx, 2, none⟩ (.int .i64 pa.nd.i)).setCell ⟨bx, 3, none⟩ (.slice pa.ta pa.tl pa.tc)).setCell ⟨bx, 4, none⟩ (.slice pa.ja pa.nd.args.length pa.jc)).setCell ⟨bx, 5, none⟩ (.int .i64 (pa.same : Int))).setCell ⟨bx, 6, none⟩ (.int .i64 pa.st)).setCell ⟨bx, 7, none⟩ (.int .i64 pa.sz)).setCell ⟨bx, 8, none⟩ (.int .i64 pa.dp)) = W4 at *
            have hkw4 : Keep (fun k => k < w.heap.size ∧ k ≠ gp) w W4 := by
              have e1 := HL.out.1.kp
              have e2 := H2.out.2.1
              have s1 := e1.size
              have s2 := e2.size
              have s3 := k3.size
              simp only [World.size_alloc, World.drew] at s3
              exact ((((e1.trans (e2.less (fun k hk => ⟨by omega, hk.2⟩))).alloc _).drew).trans (k3.less (fun k hk => hk.2))).trans (hk34.less (fun k hk => by have hb := HBX.out; omega))
            have HKW4 := Lib.hid hkw4
            clear hkw4
            have hnl := HH.out.2.2.2.2
            obtain ⟨m2, k2, i2, s2, mo2, hv, hsz, hdp, htn, hra, hrra, hpa⟩ := H2.out
            have hl := HL.out.1
            have hrp : r < ps.length := by rw [← hnl]; exact hrl
            have hs0 := mo2.stay r hrp (by rw [hl.st]; decide)
            have hst3 : stf q3 r = 1 := by rw [l3.fs.1, hs0.1]; exact hl.st
            have hsz3 : szf q3 r = (min (1 + nsT us) 2001 : Nat) := by rw [l3.fs.2.1, hs0.2.1]; exact hl.sz
            have hdp3 : dpf q3 r = (1 + ndT us : Nat) := by rw [l3.fs.2.2, hs0.2.2]; exact hl.dp
            obtain ⟨pr, hpr⟩ : ∃ pr, q3[r]? = some pr := ⟨_, List.getElem?_eq_getElem (by rw [m4.len]; exact hrp)⟩
            rw [stf_at hpr] at hst3
            rw [szf_at hpr] at hsz3
            rw [dpf_at hpr] at hdp3
            have x7 := m4.sb.cell hpr (f := 7) rfl
            have x8 := m4.sb.cell hpr (f := 8) rfl
            have f7 := m4.sb.frz (r * 9 + 7)
            have f8 := m4.sb.frz (r * 9 + 8)
            have b7 := hb4.cell 7
            have b8 := hb4.cell 8
            simp at b7 b8
            rw [hsz3] at x7
            rw [hdp3] at x8
            rw [hsz] at b7
            rw [hdp] at b8
            have lt4 := m4.sb.ltp
            have ltb := hb4.lt
            obtain ⟨S, hS⟩ : ∃ S, S = min (1 + nsT us) 2001 := ⟨_, rfl⟩
            obtain ⟨P, hP⟩ : ∃ P, P = min t.ns 2001 := ⟨_, rfl⟩
            rw [← hS] at x7 hsz3
            rw [← hP] at b7
            have hS1 : S ≤ 2001 := by omega
            have hP1 : P ≤ 2001 := by omega
            have hwS : IntKind.i64.wrap ((S : Int) + (P : Int)) = (S : Int) + (P : Int) := by rw [IntKind.wrap_i64]; omega
            have HT := Lib.hid (And.intro m4 (And.intro hb4 (And.intro l3 (And.intro hS (And.intro hP (And.intro hst3 (And.intro hsz3 (And.intro hdp3 (And.intro hpr (And.intro hsz (And.intro hdp hpb)))))))))))
            have HW4 := Lib.hid hW4
            have HK34 := Lib.hid (And.intro k3 hk34)
            clear m2 k2 i2 s2 mo2 hv hsz hdp htn hra hrra hpa hl hs0 hst3 hsz3 hdp3 hpr hS hP hnl m3 l3 k3 m4 hb4 hk34 hW4 hpa3 hpb
            go_wp2_with fail
            go_region_with (fail)
            all_goals
              obtain ⟨m4, hb4, l3, hS, hP, hst3, hsz3, hdp3, hpr, hsz, hdp, hpb⟩ := HT.out
              obtain ⟨S2, hS2⟩ : ∃ S2 : Nat, S2 = min (S + P) 2001 := ⟨_, rfl⟩
              have hS2' : (if (2001 : Int) < (S : Int) + (P : Int) then (2001 : Int) else (S : Int) + (P : Int)) = (S2 : Int) := by split <;> omega
              rw [hS2']
              have m5 := (m4.set (q := { pr with sz := (S2 : Int) }) (f := 7) (v := .int .i64 (S2 : Int)) hpr (by decide) rfl rfl rfl).drew
              have k45 : Keep (fun k => k ≠ gp) W4 (W4.setCell ⟨gp, r * 9 + 7, none⟩ (.int .i64 (S2 : Int))).drew := ((Keep.refl _ W4).setCell (p := ⟨gp, r * 9 + 7, none⟩) (fun h => h rfl) _).drew
              have hb5 := hb4.keep k45 (Ne.symm hpb)
              generalize hW5 : (W4.setCell ⟨gp, r * 9 + 7, none⟩ (.int .i64 (S2 : Int))).drew = W5 at *
              have hrq : r < q3.length := get_lt' hpr
              have hpr5 : (q3.set r { pr with sz := (S2 : Int) })[r]? = some { pr with sz := (S2 : Int) } := by rw [List.getElem?_set_self hrq]
              have x8 := m5.sb.cell hpr5 (f := 8) rfl
              have f8 := m5.sb.frz (r * 9 + 8)
              have b8 := hb5.cell 8
              simp at b8
              dsimp only at x8
              obtain ⟨E, hE⟩ : ∃ E : Nat, E = 1 + ndT us := ⟨_, rfl⟩
              obtain ⟨F, hF⟩ : ∃ F : Nat, F = t.nd := ⟨_, rfl⟩
              rw [hdp3, ← hE] at x8
              rw [hdp, ← hF] at b8
              have lt5 := m5.sb.ltp
              have ltb5 := hb5.lt
              have hF5 : F ≤ 5000 := by
                have h1 := H2.out.2.2.2.2.2.2.2.2.1
                have h2 := cnt_le (fun x => stf q2 x == 2) (ps.map Pt.nd).length
                rw [List.length_map, ← HH.out.2.2.2.2] at h2
                unfold cnt2 at h1
                rw [List.length_map, ← HH.out.2.2.2.2] at h1
                omega
              have hwF : IntKind.i64.wrap ((F : Int) + 1) = (F : Int) + 1 := by rw [IntKind.wrap_i64]; omega
              have HT5 := Lib.hid (And.intro m5 (And.intro k45 (And.intro hS2 (And.intro hE (And.intro hF hrq)))))
              clear x7 b7 f7 lt4 ltb hwS hS1 hP1 m4 hb4 l3 hS hP hst3 hsz3 hdp3 hpr hsz hdp hpb hS2 hS2' m5 k45 hb5 hrq hpr5 hE hF hW5
              go_wp2_with fail
              go_region_with (fail)
              all_goals
                obtain ⟨m5, k45, hS2, hE, hF, hrq⟩ := HT5.out
                obtain ⟨m4, hb4, l3, hS, hP, hst3, hsz3, hdp3, hpr, hsz, hdp, hpb⟩ := HT.out
                obtain ⟨m2, k2, i2, s2, mo2, hv, -, -, htn, hra, hrra, hpa⟩ := H2.out
                obtain ⟨D2, hD2⟩ : ∃ D2 : Nat, D2 = max E (F + 1) := ⟨_, rfl⟩
                have hD2' : (if (E : Int) < IntKind.i64.wrap ((F : Int) + 1) then IntKind.i64.wrap ((F : Int) + 1) else (E : Int)) = (D2 : Int) := by rw [hwF]; split <;> omega
                first | rw [hD2'] | (rw [hwF] at hD2'; rw [hD2'])
                have hpr5 : (q3.set r { pr with sz := (S2 : Int) })[r]? = some { pr with sz := (S2 : Int) } := by rw [List.getElem?_set_self hrq]
                have m6 := (m5.set (q := { pr with sz := (S2 : Int), dp := (D2 : Int) }) (f := 8) (v := .int .i64 (D2 : Int)) hpr5 (by decide) rfl rfl rfl).drew
                rw [List.set_set] at m6
                have hkk : Keep (fun k => k < w.heap.size ∧ k ≠ gp) w (W5.setCell ⟨gp, r * 9 + 8, none⟩ (.int .i64 (D2 : Int))).drew := (((HKW4.out.trans (k45.less (fun k hk => hk.2))).setCell (p := ⟨gp, r * 9 + 8, none⟩) (fun h => h.2 rfl) _)).drew
                have hrel := HL.out.1.next (by rw [← HH.out.2.2.2.2]; exact hrl) HL.out.2.2.2 mo2 l3 i2 hv hra hrra htn hpr hst3 (by rw [hS2, hS, hP]) (by rw [hD2, hE, hF]) m6 hkk
                have HREL := Lib.hid hrel
                have HG := Lib.hid HL.out.2.2.1
                clear m5 k45 hS2 hE hF hrq m4 hb4 l3 hS hP hst3 hsz3 hdp3 hpr hsz hdp hpb m2 k2 i2 s2 mo2 hv htn hra hrra hpa hD2 hD2' hpr5 m6 hkk hrel x8 f8 b8 lt5 ltb5
                go_wp2_with fail
                go_roundg (m - (j + 1))
                case measure => have := HG.out; have := HL.out.2.1; omega
                case rel => exact ⟨j + 1, us ++ [t], _, (by have := HG.out; omega), Nat.le_refl _, by go_num, HREL.out⟩
      · have hjm : m = j := by omega
        subst hjm
        obtain ⟨hp, hpG, hrr, hr⟩ := HP.out
        have hnl := HH.out.2.2.2.2
        have hrp : r < ps.length := by rw [← hnl]; exact hrl
        obtain ⟨pr, hpr⟩ : ∃ pr, q[r]? = some pr := ⟨_, List.getElem?_eq_getElem (by rw [hl.ms.len]; exact hrp)⟩
        have hrq := get_lt' hpr
        have x6 := hl.ms.sb.cell hpr (f := 6) rfl
        have f6 := hl.ms.sb.frz (r * 9 + 6)
        obtain ⟨t, hv, hns, hnd⟩ := Val.finish HC.out.1 (R := R) (a := r) (vs := us) (p := p.nd) (by rw [hrr]; exact hpG) (by rw [hl.len, HJ.out.2]) hl.val
        obtain ⟨hi2, -, -⟩ := hl.inv.end_ (r := r) (by rw [List.length_map]; exact hrp) hl.st hrr hv (by rw [hl.sz, hns]) (by rw [hl.dp, hnd]) (by rw [hnd]; have := hl.bd; omega)
        have m2 := hl.ms.set (q := { pr with st := 2 }) (f := 6) (v := .int .i64 2) hpr (by decide) rfl rfl rfl
        have hst9 : stf (q.set r { pr with st := 2 }) = updI (stf q) r 2 := by rw [stf_set hrq]
        have hsz9 : szf (q.set r { pr with st := 2 }) = szf q := by rw [szf_set hrq]; exact updI_self (by rw [szf_at hpr])
        have hdp9 : dpf (q.set r { pr with st := 2 }) = dpf q := by rw [dpf_set hrq]; exact updI_self (by rw [dpf_at hpr])
        have h2r : stf (q.set r { pr with st := 2 }) r = 2 := by rw [hst9, updI_at]
        have hmo : Mono ps.length qs (q.set r { pr with st := 2 }) := (hl.mo.trans (MonoX.set hrq)).mono (by rw [stf_at hp]; exact hst) h2r
        have HE := Lib.hid (And.intro m2 (And.intro (hl.kp.setCell (p := ⟨gp, r * 9 + 6, none⟩) (fun h => h.2 rfl) (.int .i64 2)) (And.intro (show MInv (ps.map Pt.nd) R (stf (q.set r { pr with st := 2 })) (szf (q.set r { pr with st := 2 })) (dpf (q.set r { pr with st := 2 })) by rw [hst9, hsz9, hdp9]; exact hi2) (And.intro h2r hmo))))
        clear hp hpG hrr hr hnl hpr hrq hv hns hnd hi2 m2 hst9 hsz9 hdp9 h2r hmo hl H0 HJ
        go_wp2_with fail
        go_ret
        exact ⟨true, _, rfl, HE.out.1, HE.out.2.1, fun _ => HE.out.2.2, fun h => by (cases h)⟩
  · rw [hst] at s6
    have hno : ¬ ∃ t, Val (ps.map Pt.nd) R x t := (HH.out.2.2.2.1 r (by omega) (by rw [stf_at hp, hst])).never (by rw [hrr, hr])
    have HE := Lib.hid (And.intro m1 (And.intro hkw hno))
    clear m1 l1 k1 hp hpG hrr hr hnn hp1 hkw hno
    go_wp2_with fail
    go_ret
    exact ⟨false, qs1, rfl, HE.out.1, HE.out.2.1, fun h => by (cases h), fun _ => HE.out.2.2⟩
  · rw [hst] at s6
    have h2 : stf qs1 r = 2 := by rw [stf_at hp1, hst]
    have HE := Lib.hid (And.intro m1 (And.intro hkw (And.intro (HH.out.2.1.likeS l1) (And.intro h2 (Mono.likeS (n := ps.length) l1)))))
    clear m1 l1 k1 hp hpG hrr hr hnn hp1 hkw h2
    go_wp2_with fail
    go_ret
    exact ⟨true, qs1, rfl, HE.out.1, HE.out.2.1, fun _ => HE.out.2.2, fun h => by (cases h)⟩
theorem meas_any (hG : Gr (ps.map Pt.nd) D) (hcl : Cl (ps.map Pt.nd) R) (hn : ps.length ≤ 5000) (h8 : ∀ p ∈ ps, p.nd.args.length ≤ 8) (N : Nat) : MeasC lo g mb gp cap ps vs R rk N := by
  induction N using Nat.strongRecOn with
  | _ N ih => exact meas_step hG hcl hn h8 ih
end
end Go.Proofs.YtnfcbalppecnfaaGreat
namespace Go.Proofs.YtnfcbalppecnfaaGreat
open Go.RowKit Go.Maps
set_option linter.unusedVariables false
set_option linter.unusedSimpArgs false
structure RgI (w : World) (mb r : Nat) (z : Value) (f : Int → Option Value) (left : Int → Bool) (cnt : Nat) : Prop where
  own : ∃ (D : DataW Value) (n : Nat) (lf : Lit → Bool), w.ranges Tryz.prog 2 slotElem mb r n D lf cnt ∧ (∀ k : Int, D.atKey (ik k) (.held z) = .held ((f k).getD z) ∧ Maps.has D (ik k) = (f k).isSome) ∧ (∀ k : Int, lf (ik k) = left k) ∧ ∀ k : Int, left k = true → (f k).isSome = true
section
variable {w w' : World} {mb r n cnt : Nat} {z : Value} {f : Int → Option Value} {left : Int → Bool} {X : Nat → Prop}
theorem RgI.lt (h : RgI w mb r z f left cnt) : r < w.heap.size := by obtain ⟨D, n, lf, o, _⟩ := h.own; exact o.lt
theorem RgI.left_eq (h : RgI w mb r z f left cnt) : w.rangeLeft mb r = cnt := by obtain ⟨D, n, lf, o, _⟩ := h.own; exact o.left_eq
theorem RgI.mlt (h : RgI w mb r z f left cnt) : mb < w.heap.size := by obtain ⟨D, n, lf, o, _⟩ := h.own; exact o.owns.lt
theorem RgI.keep (h : RgI w mb r z f left cnt) (hk : Keep X w w') (hb : X mb) (hr : X r) : RgI w' mb r z f left cnt := by
  have l1 := h.lt
  have l2 := h.mlt
  obtain ⟨D, n, lf, ⟨es, clock, since, seen, c0, a1, a2, a3, a4, a5, a6⟩, q⟩ := h.own
  exact ⟨D, n, lf, ⟨es, clock, since, seen, c0, (hk.block mb l2 hb).trans a1, a2, a3, a4, (hk.block r l1 hr).trans a5, a6⟩, q⟩
variable {ops : Array Oper} {rest : List Oper} {o : Oper} {a : Act} {Q : Exit → Act → World → Prop}
theorem wpList_rangeI (hg : o.guard = none) (m : Operand) (t : TypeId) (hop : o.op = Op.range t m) (e : TypeId) (ht : Tryz.prog.underlying t = some (.map 2 e)) (hm : a.eval m = .map (some mb)) (h : MapI w mb z f n)
    (hK : ∀ w', RgI w' mb w.heap.size z f (fun k => (f k).isSome) n → Keep (fun k => k < w.heap.size) w w' → w'.heap.size = w.heap.size + 1 → wpList Tryz.prog ops Q rest (a.put o.dst (.pointer (some ⟨w.heap.size, 0, none⟩))) w') :
    wpList Tryz.prog ops Q (o :: rest) a w := by
  obtain ⟨D, own, hs, hat⟩ := h.own
  refine wpList_range_own w hg m t hop 2 e law2 ht slotElem mb _ D hm own fun w' h1 h2 h3 => hK w' ⟨D, _, _, by rw [← hs]; exact h1, hat, fun k => (hat k).2, fun k h => h⟩ ⟨h2.os, h2.tape, h2.output, h2.size, fun k hk _ => h2.block k hk (by simp)⟩ h3
set_option maxRecDepth 100000 in
theorem wpList_nextI (hg : o.guard = none) (it : Operand) (hop : o.op = Op.next it false) (hit : a.eval it = .pointer (some ⟨r, 0, none⟩)) (h : RgI w mb r z f left cnt)
    (hDone : (∀ k : Int, left k = false) → wpList Tryz.prog ops Q rest (a.put o.dst (.tuple #[.bool false])) w)
    (hMore : ∀ (x : Int) (v : Value) (w' : World) (cnt' : Nat), left x = true → f x = some v → RgI w' mb r z f (fun k => left k && !(k == x)) cnt' → cnt' < cnt → Keep (fun k => k ≠ r) w w' → w'.heap.size = w.heap.size →
      (Instr.entry (.pointer (some ⟨r, 0, none⟩))).run Tryz.prog w' = .ok (.tuple #[.int .i64 x, v]) w' → wpList Tryz.prog ops Q rest (a.put o.dst (.tuple #[.bool true, .int .i64 x, v])) w') :
    wpList Tryz.prog ops Q (o :: rest) a w := by
  obtain ⟨D, n, lf, hr, hat, hl, hs⟩ := h.own
  refine wpList_next_ranges w hg it hop 2 law2 slotElem (Value.int .i64) (id : Value → Value) (fun key kl hkey => by obtain ⟨x, rfl, _⟩ := Maps.keyOf_int_inv Tryz.underlying2 hkey; exact ⟨x, rfl⟩) (fun v y _ => ⟨v, rfl⟩) mb r n D lf cnt hit hr (fun _ h0 => hDone fun k => by rw [← hl]; exact h0 _) ?_
  intro x c kl y w' cnt' hkey hlk hv hz hrg hlt hgr hsz hen
  obtain ⟨x', ex, rfl, hwx⟩ := Maps.keyOf_int_inv Tryz.underlying2 hkey
  cases ex
  have hlx : left x = true := by rw [← hl]; exact hlk
  unfold slotElem at hv
  simp only [id, Option.some.injEq] at hv
  have h1 := hz (.held z)
  rw [← hv] at h1
  have h2 := (hat x).1
  rw [h1] at h2
  simp only [DataW.held.injEq] at h2
  have h3 := hs x hlx
  obtain ⟨v', hv'⟩ := Option.isSome_iff_exists.1 h3
  rw [hv', Option.getD_some] at h2
  refine hMore x c w' cnt' hlx (by rw [hv', h2]) ⟨D, n, _, hrg, hat, fun k => ?_, fun k hk => hs k (by simp only [Bool.and_eq_true] at hk; exact hk.1)⟩ hlt (Keep.ofGrown hgr (fun g e hx => by simp only [Option.some.injEq] at e; exact hx e.symm)) hsz hen
  show (lf (ik k) && !(ik k).sameKey (ik x)) = (left k && !(k == x))
  have e : (ik k).sameKey (ik x) = (k == x) := by
    show decide (IntKind.i64 = IntKind.i64 ∧ k = x) = (k == x)
    rw [Bool.eq_iff_iff]; simp
  rw [hl, e]
end
end Go.Proofs.YtnfcbalppecnfaaGreat
namespace Go.Proofs.YtnfcbalppecnfaaGreat
open Go.RowKit Go.Maps
set_option linter.unusedVariables false
set_option linter.unusedSimpArgs false
structure FR (lo g mb gp cap : Nat) (ps : List Pt) (vs : List (Int × Nat)) (R rk : Nat → Nat) (w : World) (left : Int → Bool) (cnt : Nat) (q : List Pt) (wr : World) : Prop where
  rg : RgI wr mb w.heap.size (.int .i64 0) (vf vs) left cnt
  ms : MS lo g mb gp cap ps vs R rk q wr
  inv : MInv (ps.map Pt.nd) R (stf q) (szf q) (dpf q)
  no1 : ∀ u, u < ps.length → stf q u ≠ 1
  done : ∀ (x : Int) (a : Nat), lkp vs x = some a → left x = false → stf q (R a) = 2
  kp : Keep (fun k => k < w.heap.size ∧ k ≠ gp) w wr
section
variable {lo g mb gp cap : Nat} {ps : List Pt} {vs : List (Int × Nat)} {R rk : Nat → Nat} {D : Nat → T} {w : World} {q : List Pt}
set_option maxRecDepth 100000 in
set_option maxHeartbeats 4000000 in
theorem isFinite_any (hG : Gr (ps.map Pt.nd) D) (hcl : Cl (ps.map Pt.nd) R) (hn : ps.length ≤ 5000) (h8 : ∀ p ∈ ps, p.nd.args.length ≤ 8) (hv : ∀ (x : Int) (a : Nat), lkp vs x = some a → a < ps.length)
    (h : MS lo g mb gp cap ps vs R rk q w) (hi : MInv (ps.map Pt.nd) R (stf q) (szf q) (dpf q)) (h1 : ∀ u, u < ps.length → stf q u ≠ 1) :
    Calls Tryz.prog 79 #[.pointer (some ⟨g, 0, none⟩)] w fun e w' => ∃ (ok : Bool) (q' : List Pt), e = .returned (.bool ok) ∧ MS lo g mb gp cap ps vs R rk q' w' ∧ Keep (fun k => k < w.heap.size ∧ k ≠ gp) w w' ∧
      (ok = true → MInv (ps.map Pt.nd) R (stf q') (szf q') (dpf q') ∧ ∀ (x : Int) (a : Nat), lkp vs x = some a → stf q' (R a) = 2) ∧ (ok = false → ∃ a, a < ps.length ∧ ¬ ∃ t, Val (ps.map Pt.nd) R a t) := by
  have b1 := h.sb.box.cell 1
  simp at b1
  have lg := h.sb.box.lt
  have HM := Lib.hid h.sb.map
  have HH := Lib.hid (And.intro h (And.intro hi h1))
  have HC := Lib.hid (And.intro hG (And.intro hcl (And.intro hn (And.intro h8 hv))))
  clear h hi h1 hG hcl hn h8 hv
  go_enter Tryz.func79, Tryz.ntmps79
  go_wp2_with (first | (at_range; refine wpList_rangeI rfl _ 125 rfl 3 Tryz.underlying125 rfl HM.out ?_; intro w0 hrg0 hk0 hs0) | go_in)
  go_frame
  go_loopw [4] (fun _ wr => ∃ (left : Int → Bool) (cnt : Nat) (q' : List Pt), FR lo g mb gp cap ps vs R rk w left cnt q' wr) (fun _ wr => wr.rangeLeft mb w.heap.size)
  case atStart => exact ⟨_, _, q, hrg0, HH.out.1.keep hk0, HH.out.2.1, HH.out.2.2, fun x a hx hl => by (unfold vf at hl; rw [hx] at hl; simp at hl), hk0.less (fun k hk => hk.1)⟩
  case round =>
    obtain ⟨left, cnt, q', hf⟩ := hrel
    have HF := Lib.hid hf; clear hf hrg0 hk0 hs0
    go_wp2_with (first | (at_next; refine wpList_nextI rfl _ rfl rfl HF.out.rg ?_ ?_) | go_in)
    · intro hdone
      have HD := Lib.hid hdone; clear hdone
      go_wp2_with fail
      go_ret
      exact ⟨true, q', rfl, HF.out.ms, HF.out.kp, fun _ => ⟨HF.out.inv, fun x a hx => HF.out.done x a hx (HD.out x)⟩, fun h => by (cases h)⟩
    · intro x v w1 cnt1 hlx hfx hrg1 hlt hk1 hs1 hen
      obtain ⟨a, hxa, rfl⟩ : ∃ a : Nat, lkp vs x = some a ∧ Value.int .i64 (a : Int) = v := by
        unfold vf at hfx
        exact Option.map_eq_some_iff.1 hfx
      have hgr : gp < w.heap.size := HH.out.1.sb.ltp
      have hmr : mb < w.heap.size := HH.out.1.sb.map.lt
      have hne2 : mb ≠ gp := HH.out.1.sb.ne2
      have hms1 : MS lo g mb gp cap ps vs R rk q' w1 := by
        have hb := HF.out.ms
        have hsz := HF.out.kp.size
        refine ⟨hb.sb.keepT hk1 (fun e => ?_) (fun e => ?_) (fun e => ?_) (fun b cs hB hl e => ?_), hb.like, hb.fo⟩
        · have := HH.out.1.sb.box.lt; omega
        · omega
        · omega
        · obtain ⟨D', n', lf', ⟨es, clock, since, seen, c0, a1, a2, a3, a4, a5, a6⟩, q9⟩ := HF.out.rg.own
          unfold Blk at hB
          rw [e, a5] at hB
          injection hB with hB
          cases hB
      have hcall := meas_any HC.out.1 HC.out.2.1 HC.out.2.2.1 HC.out.2.2.2.1 (cnt0 (stf q') ps.length) w1 q' a hms1 HF.out.inv (Nat.le_refl _) (HC.out.2.2.2.2 x a hxa) (fun u hu hu1 => absurd hu1 (HF.out.no1 u hu))
      have HCALL := Lib.hid hcall; clear hcall
      have HR1 := Lib.hid (And.intro hrg1 (And.intro hlt (And.intro hk1 (And.intro hs1 (And.intro hxa (And.intro hgr (And.intro hmr hne2)))))))
      clear hrg1 hlt hk1 hs1 hxa hlx hfx hms1 hgr hmr hne2 b1 lg
      go_wp2_with fail
      refine HCALL.out.mono ?_
      rintro e w2 ⟨ok, q2, rfl, m2, k2, ht, hf⟩
      obtain ⟨hrg1, hlt, hk1, hs1, hxa, hgr, hmr, hne2⟩ := HR1.out
      have hsz := HF.out.kp.size
      have hkk : Keep (fun k => k < w.heap.size ∧ k ≠ gp) w w2 := (HF.out.kp.trans (hk1.less (fun k hk => Nat.ne_of_lt hk.1))).trans (k2.less (fun k hk => ⟨Nat.lt_of_lt_of_le hk.1 (by omega), hk.2⟩))
      cases ok with
      | false =>
        have HE := Lib.hid (And.intro m2 (And.intro hkk (And.intro (HC.out.2.2.2.2 x a hxa) (hf rfl))))
        clear hrg1 hlt hk1 hs1 hxa hgr hmr hne2 hsz hkk m2 k2 ht hf
        go_wp2_with fail
        go_ret
        exact ⟨false, q2, rfl, HE.out.1, HE.out.2.1, fun h => by (cases h), fun _ => ⟨a, HE.out.2.2⟩⟩
      | true =>
        obtain ⟨i2, s2, mo2⟩ := ht rfl
        have hrl := HF.out.rg.lt
        have hrel : FR lo g mb gp cap ps vs R rk w (fun k => left k && !(k == x)) cnt1 q2 w2 := by
          refine ⟨hrg1.keep k2 ⟨by omega, hne2⟩ ⟨by omega, by omega⟩, m2, i2, fun u hu e => HF.out.no1 u hu ((mo2.one u hu).1 e), fun y b hy hl => ?_, hkk⟩
          by_cases hyx : y = x
          · subst hyx
            rw [hxa] at hy
            cases hy
            exact s2
          · have hly : left y = false := by
              cases hq : left y with
              | false => rfl
              | true => simp [hq, hyx] at hl
            have h2 := HF.out.done y b hy hly
            have hb := HC.out.2.2.2.2 y b hy
            have hrb := (HF.out.ms.root HC.out.2.1 hb).2
            rw [(mo2.stay (R b) hrb (by rw [h2]; decide)).1]; exact h2
        have HREL := Lib.hid (And.intro hrel hlt)
        clear hrg1 hlt hk1 hs1 hxa hgr hmr hne2 hsz hkk m2 k2 ht hf i2 s2 mo2 hrel hrl
        go_wp2_with fail
        go_roundw
        case rel => exact ⟨_, cnt1, q2, HREL.out.1⟩
        case measure => rw [HREL.out.1.rg.left_eq, HF.out.rg.left_eq]; exact HREL.out.2
end
end Go.Proofs.YtnfcbalppecnfaaGreat
namespace Go.Proofs.YtnfcbalppecnfaaGreat
open Go.RowKit Go.Maps
set_option linter.unusedVariables false
set_option linter.unusedSimpArgs false
structure GR (lo g mb gp cap : Nat) (ps : List Pt) (vs : List (Int × Nat)) (R rk : Nat → Nat) (w : World) (q : List Pt) (left : Int → Bool) (cnt : Nat) (q' : List Pt) (wr : World) : Prop where
  rg : RgI wr mb w.heap.size (.int .i64 0) (vf vs) left cnt
  ms : MS lo g mb gp cap ps vs R rk q' wr
  like : LikeS q q'
  done : ∀ (x : Int) (a : Nat) (t : T), lkp vs x = some a → left x = false → Val (ps.map Pt.nd) R a t → t.ns ≤ 2000 ∧ t.nd ≤ 100
  kp : Keep (fun k => k < w.heap.size ∧ k ≠ gp) w wr
section
variable {lo g mb gp cap : Nat} {ps : List Pt} {vs : List (Int × Nat)} {R rk : Nat → Nat} {w : World} {q : List Pt}
set_option maxRecDepth 100000 in
set_option maxHeartbeats 4000000 in
theorem isTooGreat_any (hcl : Cl (ps.map Pt.nd) R) (hn : ps.length ≤ 5000) (hv : ∀ (x : Int) (a : Nat), lkp vs x = some a → a < ps.length)
    (h : MS lo g mb gp cap ps vs R rk q w) (hi : MInv (ps.map Pt.nd) R (stf q) (szf q) (dpf q)) (hd : ∀ (x : Int) (a : Nat), lkp vs x = some a → stf q (R a) = 2) :
    Calls Tryz.prog 80 #[.pointer (some ⟨g, 0, none⟩)] w fun e w' => ∃ (r : Bool) (q' : List Pt), e = .returned (.bool r) ∧ MS lo g mb gp cap ps vs R rk q' w' ∧ LikeS q q' ∧ Keep (fun k => k < w.heap.size ∧ k ≠ gp) w w' ∧
      (r = true → ∃ (x : Int) (a : Nat) (t : T), lkp vs x = some a ∧ Val (ps.map Pt.nd) R a t ∧ (2000 < t.ns ∨ 100 < t.nd)) ∧ (r = false → ∀ (x : Int) (a : Nat) (t : T), lkp vs x = some a → Val (ps.map Pt.nd) R a t → t.ns ≤ 2000 ∧ t.nd ≤ 100) := by
  have b1 := h.sb.box.cell 1
  simp at b1
  have lg := h.sb.box.lt
  obtain ⟨n, hnn⟩ : ∃ n, n = ps.length := ⟨_, rfl⟩
  have HN := Lib.hid hnn
  have HM := Lib.hid h.sb.map
  have HH := Lib.hid (And.intro h (And.intro hi hd))
  have HC := Lib.hid (And.intro hcl (And.intro hn hv))
  clear h hi hd hcl hn hv hnn
  go_enter Tryz.func80, Tryz.ntmps80
  go_wp2_with (first | (at_range; refine wpList_rangeI rfl _ 125 rfl 3 Tryz.underlying125 rfl HM.out ?_; intro w0 hrg0 hk0 hs0) | go_in)
  go_frame
  go_loopw [4] (fun _ wr => ∃ (left : Int → Bool) (cnt : Nat) (q' : List Pt), GR lo g mb gp cap ps vs R rk w q left cnt q' wr) (fun _ wr => wr.rangeLeft mb w.heap.size)
  case atStart => exact ⟨_, _, q, hrg0, HH.out.1.keep hk0, LikeS.refl _, fun x a t hx hl => by (unfold vf at hl; rw [hx] at hl; simp at hl), hk0.less (fun k hk => hk.1)⟩
  case round =>
    obtain ⟨left, cnt, q', hf⟩ := hrel
    have HF := Lib.hid hf; clear hf hrg0 hk0 hs0
    go_wp2_with (first | (at_next; refine wpList_nextI rfl _ rfl rfl HF.out.rg ?_ ?_) | go_in)
    · intro hdone
      have HD := Lib.hid hdone; clear hdone
      go_wp2_with fail
      go_ret
      exact ⟨false, q', rfl, HF.out.ms, HF.out.like, HF.out.kp, fun h => by (cases h), fun _ x a t hx => HF.out.done x a t hx (HD.out x)⟩
    · intro x v w2 cnt1 hlx hfx hrg1 hlt hk1 hs1 hen
      obtain ⟨a, hxa, rfl⟩ : ∃ a : Nat, lkp vs x = some a ∧ Value.int .i64 (a : Int) = v := by
        unfold vf at hfx
        exact Option.map_eq_some_iff.1 hfx
      have hgr : gp < w.heap.size := HH.out.1.sb.ltp
      have hmr : mb < w.heap.size := HH.out.1.sb.map.lt
      have hne2 : mb ≠ gp := HH.out.1.sb.ne2
      have m2 : MS lo g mb gp cap ps vs R rk q' w2 := by
        have hb := HF.out.ms
        have hsz := HF.out.kp.size
        refine ⟨hb.sb.keepT hk1 (fun e => ?_) (fun e => ?_) (fun e => ?_) (fun b cs hB hl e => ?_), hb.like, hb.fo⟩
        · have := HH.out.1.sb.box.lt; omega
        · omega
        · omega
        · obtain ⟨D', n', lf', ⟨es, clock, since, seen, c0, a1, a2, a3, a4, a5, a6⟩, q9⟩ := HF.out.rg.own
          unfold Blk at hB
          rw [e, a5] at hB
          injection hB with hB
          cases hB
      have haG := HC.out.2.2 x a hxa
      have hi2 := HH.out.2.1.likeS HF.out.like
      have s2 : stf q' (R a) = 2 := by rw [HF.out.like.fs.1]; exact HH.out.2.2 x a hxa
      obtain ⟨hrra, hral⟩ := m2.root HC.out.1 haG
      obtain ⟨ra, hra⟩ : ∃ ra, ra = R a := ⟨_, rfl⟩
      have hof2 := fun W (hW : MS lo g mb gp cap ps vs R rk q' W) => hW.of haG HC.out.2.1
      rw [← hra] at hrra hral s2 hof2
      obtain ⟨t, hvt, hsz, hdp, -⟩ := hi2.done ra (by rw [List.length_map]; exact hral) s2
      obtain ⟨pa, hpa⟩ : ∃ pa, q'[ra]? = some pa := ⟨_, List.getElem?_eq_getElem (by rw [m2.len]; exact hral)⟩
      rw [szf_at hpa] at hsz
      rw [dpf_at hpa] at hdp
      have c0 := m2.hd
      rw [← HN.out] at c0 hral
      have a0 := m2.sb.cell hpa (f := 0) rfl
      have a1 := m2.sb.cell hpa (f := 1) rfl
      have a2 := m2.sb.cell hpa (f := 2) rfl
      have a3 := m2.sb.cell hpa (f := 3) rfl
      have a4 := m2.sb.cell hpa (f := 4) rfl
      have a5 := m2.sb.cell hpa (f := 5) rfl
      have a6 := m2.sb.cell hpa (f := 6) rfl
      have a7 := m2.sb.cell hpa (f := 7) rfl
      have a8 := m2.sb.cell hpa (f := 8) rfl
      simp only [Nat.add_zero] at a0
      have lt2 := m2.sb.ltp
      have lt2g := m2.sb.box.lt
      have hcells : ∀ (q3 : List Pt) (w3 : World), MS lo g mb gp cap ps vs R rk q3 w3 → LikeS q' q3 → q3[ra]? = some pa := fun q3 w3 h3 l3 => root_stay l3 m2.fo h3.fo (by have := HN.out; omega) hrra hpa
      have HCE := Lib.hid hcells; clear hcells
      have HOF2 := Lib.hid hof2; clear hof2
      have M2D := Lib.hid m2.drew
      have M2A := Lib.hid (m2.keep ((Keep.refl _ w2).alloc (.cells #[.int .i64 0, .string ⟨#[]⟩, .int .i64 0, .slice none 0 0, .slice none 0 0, .int .i64 0, .int .i64 0, .int .i64 0, .int .i64 0] 147))).drew
      have HZB := Lib.hid (Blk.new w2 147 #[.int .i64 0, .string ⟨#[]⟩, .int .i64 0, .slice none 0 0, .slice none 0 0, .int .i64 0, .int .i64 0, .int .i64 0, .int .i64 0]).drew
      have HT := Lib.hid (And.intro (hvt.class (show R a = R ra by rw [hrra, hra])) (And.intro hsz hdp))
      have HX := Lib.hid (And.intro hrg1 (And.intro hlt (And.intro hk1 (And.intro hs1 (And.intro hxa (And.intro hgr (And.intro hmr hne2)))))))
      clear hrg1 hlt hk1 hs1 hxa hlx hfx hgr hmr hne2 b1 lg haG hi2 s2 hrra hra hvt hsz hdp hpa m2
      go_wp2_with fail
      go_region_held3 (fun w' => w'.cell? ⟨g, 0, none⟩ = some (.slice (some ⟨gp, 0, none⟩) n cap) ∧ w'.cell? ⟨gp, ra * 9, none⟩ = some (.int .i64 pa.nd.k) ∧ w'.cell? ⟨gp, ra * 9 + 1, none⟩ = some (.string (str pa.nd.nm)) ∧ w'.cell? ⟨gp, ra * 9 + 2, none⟩ = some (.int .i64 pa.nd.i) ∧ w'.cell? ⟨gp, ra * 9 + 3, none⟩ = some (.slice pa.ta pa.tl pa.tc) ∧ w'.cell? ⟨gp, ra * 9 + 4, none⟩ = some (.slice pa.ja pa.nd.args.length pa.jc) ∧ w'.cell? ⟨gp, ra * 9 + 5, none⟩ = some (.int .i64 (pa.same : Int)) ∧ w'.cell? ⟨gp, ra * 9 + 6, none⟩ = some (.int .i64 pa.st) ∧ w'.cell? ⟨gp, ra * 9 + 7, none⟩ = some (.int .i64 pa.sz) ∧ w'.cell? ⟨gp, ra * 9 + 8, none⟩ = some (.int .i64 pa.dp)) (first | with_reducible exact ⟨c0, a0, a1, a2, a3, a4, a5, a6, a7, a8⟩ | (refine ⟨?_, ?_, ?_, ?_, ?_, ?_, ?_, ?_, ?_, ?_⟩ <;> (repeat (with_reducible refine far_cell (by assumption) ?_)) <;> with_reducible assumption) | exact ⟨c0, a0, a1, a2, a3, a4, a5, a6, a7, a8⟩ | go_keep)
        (first
          | (go_at_call 91; refine (HOF2.out _ (by exact M2D.out)).mono ?_; rintro e w3 ⟨q3, rfl, m3, l3, k3⟩; clear c0 a0 a1 a2 a3 a4 a5 a6 a7 a8; have hpa3 := HCE.out q3 w3 m3 l3; have c0 := m3.hd; rw [← HN.out] at c0; have a0 := m3.sb.cell hpa3 (f := 0) rfl; have a1 := m3.sb.cell hpa3 (f := 1) rfl; have a2 := m3.sb.cell hpa3 (f := 2) rfl; have a3 := m3.sb.cell hpa3 (f := 3) rfl; have a4 := m3.sb.cell hpa3 (f := 4) rfl; have a5 := m3.sb.cell hpa3 (f := 5) rfl; have a6 := m3.sb.cell hpa3 (f := 6) rfl; have a7 := m3.sb.cell hpa3 (f := 7) rfl; have a8 := m3.sb.cell hpa3 (f := 8) rfl; simp only [Nat.add_zero] at a0; have lt3 := m3.sb.ltp; have H3 := Lib.hid (And.intro m3 (And.intro l3 (And.intro k3 hpa3))); clear m3 l3 k3 hpa3)
          | (go_at_call 91; refine (HOF2.out _ (by exact M2A.out)).mono ?_; rintro e w3 ⟨q3, rfl, m3, l3, k3⟩; clear c0 a0 a1 a2 a3 a4 a5 a6 a7 a8; have hpa3 := HCE.out q3 w3 m3 l3; have c0 := m3.hd; rw [← HN.out] at c0; have a0 := m3.sb.cell hpa3 (f := 0) rfl; have a1 := m3.sb.cell hpa3 (f := 1) rfl; have a2 := m3.sb.cell hpa3 (f := 2) rfl; have a3 := m3.sb.cell hpa3 (f := 3) rfl; have a4 := m3.sb.cell hpa3 (f := 4) rfl; have a5 := m3.sb.cell hpa3 (f := 5) rfl; have a6 := m3.sb.cell hpa3 (f := 6) rfl; have a7 := m3.sb.cell hpa3 (f := 7) rfl; have a8 := m3.sb.cell hpa3 (f := 8) rfl; simp only [Nat.add_zero] at a0; have lt3 := m3.sb.ltp; have hbz := HZB.out.keep k3 (Nat.ne_of_gt lt2); have z0 : w3.cell? ⟨w2.heap.size, 0, none⟩ = some (.int .i64 0) := hbz.cell 0; have z1 : w3.cell? ⟨w2.heap.size, 1, none⟩ = some (.string ⟨#[]⟩) := hbz.cell 1; have z2 : w3.cell? ⟨w2.heap.size, 2, none⟩ = some (.int .i64 0) := hbz.cell 2; have z3 : w3.cell? ⟨w2.heap.size, 3, none⟩ = some (.slice none 0 0) := hbz.cell 3; have z4 : w3.cell? ⟨w2.heap.size, 4, none⟩ = some (.slice none 0 0) := hbz.cell 4; have z5 : w3.cell? ⟨w2.heap.size, 5, none⟩ = some (.int .i64 0) := hbz.cell 5; have z6 : w3.cell? ⟨w2.heap.size, 6, none⟩ = some (.int .i64 0) := hbz.cell 6; have z7 : w3.cell? ⟨w2.heap.size, 7, none⟩ = some (.int .i64 0) := hbz.cell 7; have z8 : w3.cell? ⟨w2.heap.size, 8, none⟩ = some (.int .i64 0) := hbz.cell 8; have y0 := hbz.frozen 0; have y1 := hbz.frozen 1; have y2 := hbz.frozen 2; have y3 := hbz.frozen 3; have y4 := hbz.frozen 4; have y5 := hbz.frozen 5; have y6 := hbz.frozen 6; have y7 := hbz.frozen 7; have y8 := hbz.frozen 8; have lz := hbz.lt; have hgb : g ≠ w2.heap.size := Nat.ne_of_lt lt2g; have hpb : gp ≠ w2.heap.size := Nat.ne_of_lt lt2; clear lt2 lt2g; generalize hbx : w2.heap.size = bx at hbz z0 z1 z2 z3 z4 z5 z6 z7 z8 y0 y1 y2 y3 y4 y5 y6 y7 y8 lz hgb hpb ⊢; have HBX := Lib.hid hbx; clear hbx; have H3 := Lib.hid (And.intro m3 (And.intro l3 (And.intro k3 (And.intro hpa3 hbz)))); clear m3 l3 k3 hpa3 hbz))
      · clear c0 a0 a1 a2 a3 a4 a5 a6 a7 a8
        obtain ⟨m3, l3, k3, hpa3⟩ := H3.out
        obtain ⟨W4, hW4⟩ : ∃ W4, W4 = w3.alloc (.cells #[.int .i64 pa.nd.k, .string (str pa.nd.nm), .int .i64 pa.nd.i, .slice pa.ta pa.tl pa.tc, .slice pa.ja pa.nd.args.length pa.jc, .int .i64 (pa.same : Int), .int .i64 pa.st, .int .i64 pa.sz, .int .i64 pa.dp] 147) := ⟨_, rfl⟩
        rw [← hW4]
        obtain ⟨bx, hbx⟩ : ∃ bx, bx = w3.heap.size := ⟨_, rfl⟩
        have hb4 : Blk W4 bx 147 #[.int .i64 pa.nd.k, .string (str pa.nd.nm), .int .i64 pa.nd.i, .slice pa.ta pa.tl pa.tc, .slice pa.ja pa.nd.args.length pa.jc, .int .i64 (pa.same : Int), .int .i64 pa.st, .int .i64 pa.sz, .int .i64 pa.dp] := by rw [hW4, hbx]; exact Blk.new w3 147 _
        have hk34 : Keep (fun k => k < w3.heap.size) w3 W4 := by rw [hW4]; exact (Keep.refl _ w3).alloc _
        have m4 := m3.keep hk34
        rw [← hbx]
        have HBX := Lib.hid hbx
        clear hbx
        have HRG : Hid (RgI W4 mb w.heap.size (.int .i64 0) (vf vs) (fun k => left k && !(k == x)) cnt1) := Lib.hid (by
          obtain ⟨hrg1, hlt, hk1, hs1, hxa, hgr, hmr, hne2⟩ := HX.out
          have l1 := hrg1.lt
          have l2 := hrg1.mlt
          have s3 := k3.size
          simp only [World.size_alloc, World.drew] at s3
          exact ((hrg1.keep (X := fun _ => True) ((Keep.refl _ w2).drew) trivial trivial).keep k3 hne2 (by omega)).keep hk34 (by omega) (by omega))
        have hkw4 : Keep (fun k => k < w.heap.size ∧ k ≠ gp) w W4 := by
          have e1 := HF.out.kp
          have s1 := e1.size
          have e2 := HX.out.2.2.1
          have s2 := e2.size
          have s3 := k3.size
          simp only [World.size_alloc, World.drew] at s3
          exact ((((e1.trans (e2.less (fun k hk => Nat.ne_of_lt hk.1))).drew)).trans (k3.less (fun k hk => hk.2))).trans (hk34.less (fun k hk => by have := hk.1; omega))
        clear hW4
        have b7 := hb4.cell 7
        have b8 := hb4.cell 8
        simp at b7 b8
        obtain ⟨P, hP⟩ : ∃ P : Nat, P = min t.ns 2001 := ⟨_, rfl⟩
        obtain ⟨F, hF⟩ : ∃ F : Nat, F = t.nd := ⟨_, rfl⟩
        rw [HT.out.2.1, ← hP] at b7
        rw [HT.out.2.2, ← hF] at b8
        have ltb := hb4.lt
        have HE := Lib.hid (And.intro m4 (And.intro (HF.out.like.trans l3) (And.intro hP (And.intro hF hkw4))))
        clear m3 l3 k3 hpa3 hk34 m4 hb4 hP hF hkw4
        by_cases hg1 : 2000 < P
        · have hgi : (2000 : Int) < (P : Int) := by omega
          go_wp2_with fail
          go_ret
          first
            | exact ⟨true, q3, rfl, HE.out.1, HE.out.2.1, HE.out.2.2.2.2, fun _ => ⟨x, a, t, HX.out.2.2.2.2.1, HT.out.1, .inl (by have := HE.out.2.2.1; omega)⟩, fun h => by (cases h)⟩
            | exact Or.inr ⟨rfl, q3, HE.out.1, HE.out.2.1, HE.out.2.2.2.2, x, a, HX.out.2.2.2.2.1, t, HT.out.1, .inl (by have := HE.out.2.2.1; omega)⟩
        · have hgi : ¬ (2000 : Int) < (P : Int) := by omega
          by_cases hg2 : 100 < F
          · have hgj : (100 : Int) < (F : Int) := by omega
            go_wp2_with fail
            go_ret
            first
              | exact ⟨true, q3, rfl, HE.out.1, HE.out.2.1, HE.out.2.2.2.2, fun _ => ⟨x, a, t, HX.out.2.2.2.2.1, HT.out.1, .inr (by have := HE.out.2.2.2.1; omega)⟩, fun h => by (cases h)⟩
              | exact Or.inr ⟨rfl, q3, HE.out.1, HE.out.2.1, HE.out.2.2.2.2, x, a, HX.out.2.2.2.2.1, t, HT.out.1, .inr (by have := HE.out.2.2.2.1; omega)⟩
          · have hgj : ¬ (100 : Int) < (F : Int) := by omega
            have hrel : GR lo g mb gp cap ps vs R rk w q (fun k => left k && !(k == x)) cnt1 q3 W4 := by
              obtain ⟨hrg1, hlt, hk1, hs1, hxa, hgr, hmr, hne2⟩ := HX.out
              refine ⟨HRG.out, HE.out.1, HE.out.2.1, fun y b u hy hl hu => ?_, HE.out.2.2.2.2⟩
              by_cases hyx : y = x
              · subst hyx
                rw [hxa] at hy
                cases hy
                have e := HT.out.1.det hu
                subst e
                have := HE.out.2.2.1
                have := HE.out.2.2.2.1
                omega
              · have hly : left y = false := by
                  cases hq : left y with
                  | false => rfl
                  | true => simp [hq, hyx] at hl
                exact HF.out.done y b u hy hly hu
            have HREL := Lib.hid hrel; clear hrel
            go_wp2_with fail
            go_roundw
            case rel => exact ⟨_, cnt1, q3, HREL.out⟩
            case measure => rw [HREL.out.rg.left_eq, HF.out.rg.left_eq]; exact HX.out.2.1
      · clear z0 z1 z2 z3 z4 z5 z6 z7 z8 y0 y1 y2 y3 y4 y5 y6 y7 y8 c0 a0 a1 a2 a3 a4 a5 a6 a7 a8
        obtain ⟨m3, l3, k3, hpa3, hbz⟩ := H3.out
        have hb4 : Blk (((((((((w3.setCell ⟨bx, 0, none⟩ (.int .i64 pa.nd.k)).setCell ⟨bx, 1, none⟩ (.string (str pa.nd.nm))).setCell ⟨bx, 2, none⟩ (.int .i64 pa.nd.i)).setCell ⟨bx, 3, none⟩ (.slice pa.ta pa.tl pa.tc)).setCell ⟨bx, 4, none⟩ (.slice pa.ja pa.nd.args.length pa.jc)).setCell ⟨bx, 5, none⟩ (.int .i64 (pa.same : Int))).setCell ⟨bx, 6, none⟩ (.int .i64 pa.st)).setCell ⟨bx, 7, none⟩ (.int .i64 pa.sz)).setCell ⟨bx, 8, none⟩ (.int .i64 pa.dp)) bx 147 #[.int .i64 pa.nd.k, .string (str pa.nd.nm), .int .i64 pa.nd.i, .slice pa.ta pa.tl pa.tc, .slice pa.ja pa.nd.args.length pa.jc, .int .i64 (pa.same : Int), .int .i64 pa.st, .int .i64 pa.sz, .int .i64 pa.dp] := hbz.set9
        have hk34 : Keep (fun k => k ≠ bx) w3 (((((((((w3.setCell ⟨bx, 0, none⟩ (.int .i64 pa.nd.k)).setCell ⟨bx, 1, none⟩ (.string (str pa.nd.nm))).setCell ⟨bx, 2, none⟩ (.int .i64 pa.nd.i)).setCell ⟨bx, 3, none⟩ (.slice pa.ta pa.tl pa.tc)).setCell ⟨bx, 4, none⟩ (.slice pa.ja pa.nd.args.length pa.jc)).setCell ⟨bx, 5, none⟩ (.int .i64 (pa.same : Int))).setCell ⟨bx, 6, none⟩ (.int .i64 pa.st)).setCell ⟨bx, 7, none⟩ (.int .i64 pa.sz)).setCell ⟨bx, 8, none⟩ (.int .i64 pa.dp)) := (Keep.refl (fun k => k ≠ bx) w3).set9 (fun h => h rfl)
        have m4 := m3.off hbz (Ne.symm hpb) hk34
        generalize hW4 : (((((((((w3.setCell ⟨bx, 0, none⟩ (.int .i64 pa.nd.k)).setCell ⟨bx, 1, none⟩ (.string (str pa.nd.nm))).setCell ⟨bx, 2, none⟩ (.int .i64 pa.nd.i)).setCell ⟨bx, 3, none⟩ (.slice pa.ta pa.tl pa.tc)).setCell ⟨bx, 4, none⟩ (.slice pa.ja pa.nd.args.length pa.jc)).setCell ⟨bx, 5, none⟩ (.int .i64 (pa.same : Int))).setCell ⟨bx, 6, none⟩ (.int .i64 pa.st)).setCell ⟨bx, 7, none⟩ (.int .i64 pa.sz)).setCell ⟨bx, 8, none⟩ (.int .i64 pa.dp)) = W4 at *
        have HRG : Hid (RgI W4 mb w.heap.size (.int .i64 0) (vf vs) (fun k => left k && !(k == x)) cnt1) := Lib.hid (by
          obtain ⟨hrg1, hlt, hk1, hs1, hxa, hgr, hmr, hne2⟩ := HX.out
          have l1 := hrg1.lt
          have l2 := hrg1.mlt
          have hb := HBX.out
          exact ((hrg1.keep (X := fun k => k < w2.heap.size) (((Keep.refl _ w2).alloc _).drew) l2 l1).keep k3 hne2 (by omega)).keep hk34 (by omega) (by omega))
        have hkw4 : Keep (fun k => k < w.heap.size ∧ k ≠ gp) w W4 := by
          have e1 := HF.out.kp
          have s1 := e1.size
          have e2 := HX.out.2.2.1
          have s2 := e2.size
          have hb := HBX.out
          exact (((((e1.trans (e2.less (fun k hk => Nat.ne_of_lt hk.1))).alloc _).drew)).trans (k3.less (fun k hk => hk.2))).trans (hk34.less (fun k hk => by have := hk.1; omega))
        clear hW4
        have b7 := hb4.cell 7
        have b8 := hb4.cell 8
        simp at b7 b8
        obtain ⟨P, hP⟩ : ∃ P : Nat, P = min t.ns 2001 := ⟨_, rfl⟩
        obtain ⟨F, hF⟩ : ∃ F : Nat, F = t.nd := ⟨_, rfl⟩
        rw [HT.out.2.1, ← hP] at b7
        rw [HT.out.2.2, ← hF] at b8
        have ltb := hb4.lt
        have HE := Lib.hid (And.intro m4 (And.intro (HF.out.like.trans l3) (And.intro hP (And.intro hF hkw4))))
        clear m3 l3 k3 hpa3 hk34 m4 hb4 hP hF hkw4
        by_cases hg1 : 2000 < P
        · have hgi : (2000 : Int) < (P : Int) := by omega
          go_wp2_with fail
          go_ret
          first
            | exact ⟨true, q3, rfl, HE.out.1, HE.out.2.1, HE.out.2.2.2.2, fun _ => ⟨x, a, t, HX.out.2.2.2.2.1, HT.out.1, .inl (by have := HE.out.2.2.1; omega)⟩, fun h => by (cases h)⟩
            | exact Or.inr ⟨rfl, q3, HE.out.1, HE.out.2.1, HE.out.2.2.2.2, x, a, HX.out.2.2.2.2.1, t, HT.out.1, .inl (by have := HE.out.2.2.1; omega)⟩
        · have hgi : ¬ (2000 : Int) < (P : Int) := by omega
          by_cases hg2 : 100 < F
          · have hgj : (100 : Int) < (F : Int) := by omega
            go_wp2_with fail
            go_ret
            first
              | exact ⟨true, q3, rfl, HE.out.1, HE.out.2.1, HE.out.2.2.2.2, fun _ => ⟨x, a, t, HX.out.2.2.2.2.1, HT.out.1, .inr (by have := HE.out.2.2.2.1; omega)⟩, fun h => by (cases h)⟩
              | exact Or.inr ⟨rfl, q3, HE.out.1, HE.out.2.1, HE.out.2.2.2.2, x, a, HX.out.2.2.2.2.1, t, HT.out.1, .inr (by have := HE.out.2.2.2.1; omega)⟩
          · have hgj : ¬ (100 : Int) < (F : Int) := by omega
            have hrel : GR lo g mb gp cap ps vs R rk w q (fun k => left k && !(k == x)) cnt1 q3 W4 := by
              obtain ⟨hrg1, hlt, hk1, hs1, hxa, hgr, hmr, hne2⟩ := HX.out
              refine ⟨HRG.out, HE.out.1, HE.out.2.1, fun y b u hy hl hu => ?_, HE.out.2.2.2.2⟩
              by_cases hyx : y = x
              · subst hyx
                rw [hxa] at hy
                cases hy
                have e := HT.out.1.det hu
                subst e
                have := HE.out.2.2.1
                have := HE.out.2.2.2.1
                omega
              · have hly : left y = false := by
                  cases hq : left y with
                  | false => rfl
                  | true => simp [hq, hyx] at hl
                exact HF.out.done y b u hy hly hu
            have HREL := Lib.hid hrel; clear hrel
            go_wp2_with fail
            go_roundw
            case rel => exact ⟨_, cnt1, q3, HREL.out⟩
            case measure => rw [HREL.out.rg.left_eq, HF.out.rg.left_eq]; exact HX.out.2.1
end
end Go.Proofs.YtnfcbalppecnfaaGreat
