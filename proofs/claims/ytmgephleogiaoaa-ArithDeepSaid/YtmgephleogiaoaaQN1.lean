/-
  Joined texts on terms. No condition.
-/
import Derived.Test.YtmgephleogiaoaaQMB
import Derived.Test.YtmgephleogiaoaaQME
import Derived.Deep.QuietTactic
import Derived.Deep.RegionHeld3
import Derived.Deep.RegionLaw
import Derived.Maps.RangeWalk
import Derived.Test.YtmgephleogiaoaaQMD
import Derived.Test.YtmgephleogiaoaaQMA
import Derived.Test.YtmgephleogiaoaaQMC
import Derived.Test.YtmgephleogiaoaaQMG
import Derived.Test.YtmgephleogiaoaaQMF
import Derived.Deep.DeepCutAuto
import Derived.Deep.LoopGhost
import Derived.Lib.Hide
namespace Go.Proofs.Ytmgephleogiaoaa
open Go.RowKit Go.Maps
set_option linter.unusedVariables false
set_option linter.unusedSimpArgs false
structure Pt where
  nd : Nd
  ta : Option Addr
  tl : Nat
  tc : Nat
  ja : Option Addr
  jc : Nat
  same : Nat
  st : Int
  sz : Int
  dp : Int
instance : Inhabited Pt := ⟨⟨default, none, 0, 0, none, 0, 0, 0, 0, 0⟩⟩
def Pt.cells (p : Pt) : List Value := [.int .i64 p.nd.k, .string (str p.nd.nm), .int .i64 p.nd.i, .slice p.ta p.tl p.tc, .slice p.ja p.nd.args.length p.jc, .int .i64 p.same, .int .i64 p.st, .int .i64 p.sz, .int .i64 p.dp]
section
variable {α : Type} {m : Nat} {f : α → List Value}
end
def vf (vs : List (Int × Nat)) : Int → Option Value := fun x => (lkp vs x).map fun a : Nat => Value.int .i64 (a : Int)
def jv (l : List Nat) : List Value := l.map fun j : Nat => .int .i64 (j : Int)
section
variable {lo g mb gp cap : Nat} {w w' : World} {ps : List Pt} {vs : List (Int × Nat)} {i f : Nat} {p q : Pt} {v : Value}
def smf (ps : List Pt) : Nat → Nat := fun a => ((ps[a]?).map Pt.same).getD a
def Pt.sk (p : Pt) : Pt := { p with same := 0 }
def LikeS (ps ps' : List Pt) : Prop := ps'.map Pt.sk = ps.map Pt.sk
end
end Go.Proofs.Ytmgephleogiaoaa
namespace Go.Proofs.Ytmgephleogiaoaa
open Go.RowKit Go.Maps
set_option linter.unusedVariables false
set_option linter.unusedSimpArgs false
section
variable {lo g mb gp cap : Nat} {w : World} {ps : List Pt} {vs : List (Int × Nat)} {R rk : Nat → Nat} {at_ : Nat}
end
end Go.Proofs.Ytmgephleogiaoaa
namespace Go.Proofs.Ytmgephleogiaoaa
open Go.RowKit Go.Maps
set_option linter.unusedVariables false
set_option linter.unusedSimpArgs false
structure Shut (p : Prop) : Prop where
  out : p
section
variable {lo g mb gp cap : Nat} {w : World} {ps : List Pt} {vs : List (Int × Nat)} {x y : Nat} {p q : Pt}
end
end Go.Proofs.Ytmgephleogiaoaa
namespace Go.Proofs.Ytmgephleogiaoaa
open Go.RowKit Go.Maps
set_option linter.unusedVariables false
set_option linter.unusedSimpArgs false
def pc (t : Nat × Nat) : List Value := [.int .i64 (t.1 : Int), .int .i64 (t.2 : Int)]
section
variable {lo g mb gp cap : Nat} {w wr : World} {ps qs : List Pt} {vs : List (Int × Nat)} {R rk : Nat → Nat} {u : Value} {todo : List (Nat × Nat)}
end
end Go.Proofs.Ytmgephleogiaoaa
namespace Go.Proofs.Ytmgephleogiaoaa
open Go.RowKit Go.Maps
set_option linter.unusedVariables false
set_option linter.unusedSimpArgs false
section
variable {lo g mb gp cap : Nat} {w : World} {ps : List Pt} {vs : List (Int × Nat)} {D : Nat → T} {a b : Nat}
end
end Go.Proofs.Ytmgephleogiaoaa
namespace Go.Proofs.Ytmgephleogiaoaa
open Go.RowKit Go.Maps
set_option linter.unusedVariables false
set_option linter.unusedSimpArgs false
section
variable {lo g mb : Nat} {w w' w'' : World}
end
section
variable {lo g mb : Nat} {w w' : World} {ps : List Pt} {vs : List (Int × Nat)} {u : Value}
end
end Go.Proofs.Ytmgephleogiaoaa
namespace Go.Proofs.Ytmgephleogiaoaa
open Go.RowKit Go.Maps
set_option linter.unusedVariables false
set_option linter.unusedSimpArgs false
def Pt.own (p : Pt) (b : Nat) : Prop := (Value.slice p.ja p.nd.args.length p.jc).ownBlock = some b
def More (n : Nat) (ps ps' : List Pt) : Prop := ∃ more, ps' = ps ++ more ∧ ∀ p ∈ more, ∀ b, p.own b → n ≤ b
section
variable {lo g mb : Nat}
end
end Go.Proofs.Ytmgephleogiaoaa
namespace Go.Proofs.Ytmgephleogiaoaa
open Go.RowKit Go.Maps
set_option linter.unusedVariables false
set_option linter.unusedSimpArgs false
section
variable {lo g mb : Nat}
end
end Go.Proofs.Ytmgephleogiaoaa
namespace Go.Proofs.Ytmgephleogiaoaa
open Go.RowKit Go.Maps
set_option linter.unusedVariables false
set_option linter.unusedSimpArgs false
section
variable {lo g mb : Nat} {w wr w1 w2 w3 : World} {t x : Tm} {a : Option Addr} {c j : Nat} {ps qs qs' : List Pt} {vs : List (Int × Nat)} {va u u' : Value}
end
end Go.Proofs.Ytmgephleogiaoaa
namespace Go.Proofs.Ytmgephleogiaoaa
open Go.RowKit Go.Maps
set_option linter.unusedVariables false
set_option linter.unusedSimpArgs false
section
variable {lo g mb : Nat}
end
end Go.Proofs.Ytmgephleogiaoaa
namespace Go.Proofs.Ytmgephleogiaoaa
open Go.RowKit Go.Maps
set_option linter.unusedVariables false
set_option linter.unusedSimpArgs false
def stf (ps : List Pt) : Nat → Int := fun a => ((ps[a]?).map Pt.st).getD 0
def szf (ps : List Pt) : Nat → Int := fun a => ((ps[a]?).map Pt.sz).getD 0
def dpf (ps : List Pt) : Nat → Int := fun a => ((ps[a]?).map Pt.dp).getD 0
section
variable {ps qs : List Pt} {i : Nat} {p q : Pt}
def Pt.sk2 (p : Pt) : Pt := { p with same := 0, st := 0, sz := 0, dp := 0 }
def LikeM (ps qs : List Pt) : Prop := qs.map Pt.sk2 = ps.map Pt.sk2
end
structure Mono (n : Nat) (qs qs' : List Pt) : Prop where
  one : ∀ u, u < n → (stf qs' u = 1 ↔ stf qs u = 1)
  zero : ∀ u, u < n → stf qs' u = 0 → stf qs u = 0
  stay : ∀ u, u < n → stf qs u ≠ 0 → stf qs' u = stf qs u ∧ szf qs' u = szf qs u ∧ dpf qs' u = dpf qs u
section
variable {lo g mb gp cap : Nat} {ps qs : List Pt} {vs : List (Int × Nat)} {R rk : Nat → Nat} {wr w' : World} {x : Nat} {p q : Pt}
end
end Go.Proofs.Ytmgephleogiaoaa
namespace Go.Proofs.Ytmgephleogiaoaa
open Go.RowKit Go.Maps
set_option linter.unusedVariables false
set_option linter.unusedSimpArgs false
structure MonoX (n r : Nat) (a b : List Pt) : Prop where
  one : ∀ u, u < n → u ≠ r → (stf b u = 1 ↔ stf a u = 1)
  zero : ∀ u, u < n → u ≠ r → stf b u = 0 → stf a u = 0
  stay : ∀ u, u < n → u ≠ r → stf a u ≠ 0 → stf b u = stf a u ∧ szf b u = szf a u ∧ dpf b u = dpf a u
section
variable {lo g mb gp cap : Nat} {ps : List Pt} {vs : List (Int × Nat)} {R rk : Nat → Nat} {D : Nat → T}
end
end Go.Proofs.Ytmgephleogiaoaa
namespace Go.Proofs.Ytmgephleogiaoaa
open Go.RowKit Go.Maps
set_option linter.unusedVariables false
set_option linter.unusedSimpArgs false
structure RgI (w : World) (mb r : Nat) (z : Value) (f : Int → Option Value) (left : Int → Bool) (cnt : Nat) : Prop where
  own : ∃ (D : DataW Value) (n : Nat) (lf : Lit → Bool), w.ranges Try.prog 2 slotElem mb r n D lf cnt ∧ (∀ k : Int, D.atKey (ik k) (.held z) = .held ((f k).getD z) ∧ Maps.has D (ik k) = (f k).isSome) ∧ (∀ k : Int, lf (ik k) = left k) ∧ ∀ k : Int, left k = true → (f k).isSome = true
section
variable {w w' : World} {mb r n cnt : Nat} {z : Value} {f : Int → Option Value} {left : Int → Bool} {X : Nat → Prop}
variable {ops : Array Oper} {rest : List Oper} {o : Oper} {a : Act} {Q : Exit → Act → World → Prop}
end
end Go.Proofs.Ytmgephleogiaoaa
namespace Go.Proofs.Ytmgephleogiaoaa
open Go.RowKit Go.Maps
set_option linter.unusedVariables false
set_option linter.unusedSimpArgs false
section
variable {lo g mb gp cap : Nat} {ps : List Pt} {vs : List (Int × Nat)} {R rk : Nat → Nat} {D : Nat → T} {w : World} {q : List Pt}
end
end Go.Proofs.Ytmgephleogiaoaa
namespace Go.Proofs.Ytmgephleogiaoaa
open Go.RowKit Go.Maps
set_option linter.unusedVariables false
set_option linter.unusedSimpArgs false
section
variable {lo g mb gp cap : Nat} {ps : List Pt} {vs : List (Int × Nat)} {R rk : Nat → Nat} {w : World} {q : List Pt}
end
end Go.Proofs.Ytmgephleogiaoaa
namespace Go.Proofs.Ytmgephleogiaoaa
open Go.RowKit Go.Maps
set_option linter.unusedVariables false
set_option linter.unusedSimpArgs false
def lfn (k : Int) (nm : List UInt8) : List UInt8 := if k = 3 ∨ k = 4 then nm else []
def lfi (k i : Int) : Int := if k = 1 ∨ k = 2 then i else 0
section
variable {w : World} {i : Int} {nm : List UInt8}
end
end Go.Proofs.Ytmgephleogiaoaa
namespace Go.Proofs.Ytmgephleogiaoaa
open Go.RowKit Go.Maps
set_option linter.unusedVariables false
set_option linter.unusedSimpArgs false
section
variable {lo g mb gp cap : Nat} {ps : List Pt} {vs : List (Int × Nat)} {R rk : Nat → Nat}
variable {w wr w2 : World} {qs0 qs q2 : List Pt} {b6 : Nat} {k i : Int} {nm : List UInt8} {ts : List T} {j : Nat} {ua : Option Addr} {uc : Nat} {tps : List TP} {a1 : Option Addr} {c1 : Nat} {t : T}
end
end Go.Proofs.Ytmgephleogiaoaa
namespace Go.Proofs.Ytmgephleogiaoaa
open Go.RowKit Go.Maps
set_option linter.unusedVariables false
set_option linter.unusedSimpArgs false
def Nd.wf (p : Nd) : Prop := (Lit.int .i64 p.i).wf = true ∧ p.nm.length ≤ maxLen
section
variable {lo g mb gp cap : Nat} {ps : List Pt} {vs : List (Int × Nat)} {R rk : Nat → Nat} {D : Nat → T}
end
end Go.Proofs.Ytmgephleogiaoaa
namespace Go.Proofs.Ytmgephleogiaoaa
open Go.RowKit Go.Maps Go.Sort Go.Shelf
set_option linter.unusedVariables false
set_option linter.unusedSimpArgs false
instance : Inhabited BP := ⟨(0, default, none, 0)⟩
def bcells (q : BP) : List Value := [.int .i64 q.1, .int .i64 q.2.1.k, .string (str q.2.1.nm), .int .i64 q.2.1.i, .slice q.2.2.1 q.2.1.args.length q.2.2.2]
def cmpBd (x y : BP) : Int := cmpI x.1 y.1
def BO (lo : Nat) (w : World) (u : Value) (bs : List BP) : Prop := ∃ a c, u = .slice a bs.length c ∧ (∀ g off, a = some ⟨g, off, none⟩ → lo ≤ g ∧ off = 0 ∧ ∃ cs, Blk w g 72 cs) ∧
  ∀ (j : Nat) (q : BP), bs[j]? = some q → ∃ g, a = some ⟨g, 0, none⟩ ∧ ∀ (f : Nat) (v : Value), (bcells q)[f]? = some v → w.cell? ⟨g, j * 5 + f, none⟩ = some v
end Go.Proofs.Ytmgephleogiaoaa
namespace Go.Proofs.Ytmgephleogiaoaa
open Go.RowKit Go.Maps
set_option linter.unusedVariables false
set_option linter.unusedSimpArgs false
section
variable {lo g mb gp cap : Nat} {ps : List Pt} {vs : List (Int × Nat)} {R rk : Nat → Nat} {D : Nat → T} {w wr W : World} {q q' q2 : List Pt} {u : Value} {bs : List BP} {X : Nat → Prop}
end
end Go.Proofs.Ytmgephleogiaoaa
namespace Go.Proofs.Ytmgephleogiaoaa
open Go.RowKit Go.Maps
set_option linter.unusedVariables false
set_option linter.unusedSimpArgs false
structure Two (t u : Tm) (G1 : List Nd) (V1 : List (Int × Nat)) (A : Nat) (G : List Nd) (V : List (Int × Nat)) (B : Nat) (D : Nat → T) : Prop where
  ht : t.ok = true
  hu : u.ok = true
  e1 : t.addT ([], []) = (A, (G1, V1))
  e2 : u.addT (G1, V1) = (B, (G, V))
  inv : AInv G V D
  hA : A < G.length
  hB : B < G.length
  dA : D A = t.tree
  dB : D B = u.tree
  l1 : G1.length ≤ t.ns
  l2 : G.length ≤ t.ns + u.ns
  has : ∀ (a : Nat) (p : Nd), G[a]? = some p → p.k = 1 → t.tree.has p.i ∨ u.tree.has p.i
  ok : ∀ p ∈ G, p.ok
  wf : ∀ p ∈ G, p.wf
  st : t.ns ≤ 2000
  su : u.ns ≤ 2000
section
variable {t u : Tm} {G1 G : List Nd} {V1 V : List (Int × Nat)} {A B : Nat} {D : Nat → T} {R : Nat → Nat}
end
def SolR (t u : Tm) (bs : List BP) (ok : Bool) (er : Int) : Prop :=
  (¬ (t.Right ∧ u.Right) ∧ bs = [] ∧ ok = false ∧ er = 70) ∨ (t.Right ∧ u.Right ∧ (
    (bs = [] ∧ ok = false ∧ er = 0 ∧ ∀ f, ¬ Uni t.tree u.tree f) ∨
    (bs = [] ∧ ok = false ∧ er = 2 ∧ ∃ f, IsSol t.tree u.tree f ∧ ∃ x, f x ≠ .v x ∧ ¬ (f x).Right) ∨
    (ok = true ∧ er = 0 ∧ ∃ f, IsSol t.tree u.tree f ∧ (∀ x, f x = .v x ∨ (f x).Right) ∧ (bs.map (·.1)).Pairwise (· < ·) ∧ (∀ p ∈ bs, p.2.1 = (f p.1).tm ∧ f p.1 ≠ .v p.1) ∧ ∀ x, f x ≠ .v x → ∃ p ∈ bs, p.1 = x)))
def KT (lo : Nat) (w w' : World) : Prop := Keep (fun k => k < lo ∨ ∃ cs, Blk w k 24 cs) w w'
section
variable {lo g mb gp cap : Nat} {w w' w'' : World} {ps : List Pt} {vs : List (Int × Nat)} {v : Value}
end
end Go.Proofs.Ytmgephleogiaoaa
namespace Go.Proofs.Ytmgephleogiaoaa
open Go.RowKit Go.Maps
set_option linter.unusedVariables false
set_option linter.unusedSimpArgs false
section
variable {lo g mb : Nat} {W : World} {t u : Tm} {G1 G : List Nd} {V1 V : List (Int × Nat)} {A B : Nat} {D : Nat → T} {a b : Option Addr} {c d : Nat}
end
end Go.Proofs.Ytmgephleogiaoaa
namespace Go.Proofs.Ytmgephleogiaoaa
open Go.RowKit Go.Maps
set_option linter.unusedVariables false
set_option linter.unusedSimpArgs false
structure SolA (w : World) (t u : Tm) (e : Ending) (w' : World) : Prop where
  ex : ∃ (v : Value) (bs : List BP) (ok : Bool) (er : Int), e = .returned (.tuple #[v, .bool ok, .int .i64 er]) ∧ BO w.heap.size w' v bs ∧ (∀ p ∈ bs, Fr 0 (fun _ => False) w' w.heap.size w'.heap.size p.2.1 p.2.2.1 p.2.2.2) ∧ Keep (fun g => g < w.heap.size) w w' ∧ SolR t u bs ok er
section
variable {w : World} {t u : Tm} {a b : Option Addr} {c d : Nat}
end
end Go.Proofs.Ytmgephleogiaoaa
namespace Go.Proofs.Ytmgephleogiaoaa
open Go.RowKit Go.Maps
set_option linter.unusedVariables false
set_option linter.unusedSimpArgs false
abbrev xV (n : Int) : Tm := .node 1 [] n []
abbrev xA (nm : List UInt8) : Tm := .node 3 nm 0 []
abbrev xC (nm : List UInt8) (l : List Tm) : Tm := .node 4 nm 0 l
def fEx1 : Int → T := fun x => if x = 1 then .a [97] else if x = 2 then .a [98] else .v x
def fEx2 : Int → T := fun x => if x = 2 then .v 1 else .v x
end Go.Proofs.Ytmgephleogiaoaa
namespace Go.Proofs.Ytmgephleogiaoaa
open Go.RowKit Go.Maps
set_option linter.unusedVariables false
set_option linter.unusedSimpArgs false
theorem less_is : ∀ x y : List UInt8, Op.bytesLess x y = decide (cmpB x y < 0) := by
  intro x
  induction x with
  | nil => intro y; cases y <;> simp [Op.bytesLess, cmpB]
  | cons a x ih =>
    intro y
    cases y with
    | nil => simp [Op.bytesLess, cmpB]
    | cons b y =>
      rw [Op.bytesLess, cmpB, ih y]
      have e1 : (a < b) = (a.toNat < b.toNat) := by rw [UInt8.lt_iff_toNat_lt]
      by_cases h1 : a.toNat < b.toNat
      · rw [if_pos h1]; simp [e1, h1]
      · rw [if_neg h1]
        by_cases h2 : b.toNat < a.toNat
        · rw [if_pos h2]
          have : (a == b) = false := by simp; rintro rfl; omega
          simp [e1, h1, this]
        · rw [if_neg h2]
          have : a = b := UInt8.toNat_inj.1 (by omega)
          simp [e1, h1, this]
theorem cmpB_vals (x y : List UInt8) : cmpB x y = -1 ∨ cmpB x y = 0 ∨ cmpB x y = 1 := by
  induction x generalizing y with
  | nil => cases y <;> simp [cmpB]
  | cons a x ih =>
    cases y with
    | nil => simp [cmpB]
    | cons b y =>
      rw [cmpB]
      split
      · simp
      · split
        · simp
        · exact ih y
def RefO (B : Nat) (x y : Tm) : Prop := ∀ (w : World) (a b : Option Addr) (c d : Nat), B ≤ w.heap.size → TmAt B w x a c → TmAt B w y b d →
  Calls Try.prog 49 #[tv x a c, tv y b d] w fun e w' => e = .returned (.int .i64 (x.tree.cmp y.tree)) ∧ Keep (fun g => g < w.heap.size) w w'
theorem cmp_kinds {t u : T} (h : t.kind ≠ u.kind) : t.cmp u = if t.kind < u.kind then -1 else 1 := by
  cases t <;> cases u <;> simp [T.kind] at h ⊢ <;> simp [T.cmp]
theorem Tm.kind_k {t : Tm} (h : t.ok = true) : t.tree.kind = t.k := (Tm.tree_ns h).2.2.2
theorem cmpL_go {x y : T} {xs ys : List T} : cmpL (x :: xs) (y :: ys) = or2 (x.cmp y) (cmpL xs ys) := by rw [cmpL]
set_option maxRecDepth 100000 in
set_option maxHeartbeats 4000000 in
theorem refOrder_step {B : Nat} {t u : Tm} (ht : t.ok = true) (hu : u.ok = true) (ih : t.k = 4 → u.k = 4 → ∀ x ∈ t.args, ∀ y ∈ u.args, RefO B x y) : RefO B t u := by
  intro w a b c d hB hT hU
  have hk0 : Keep (fun g => g < w.heap.size) w ((w.alloc (tb t a c)).alloc (tb u b d)) := ((Keep.refl _ w).alloc _).alloc _
  have b1 := (Blk.new w 24 #[.int .i64 t.k, .string (str t.nm), .int .i64 t.i, .slice a t.args.length c]).alloc (tb u b d)
  have b2 := Blk.new (w.alloc (tb t a c)) 24 #[.int .i64 u.k, .string (str u.nm), .int .i64 u.i, .slice b u.args.length d]
  rw [World.size_alloc] at b2
  obtain ⟨z, hz⟩ : ∃ z, z = t.tree.cmp u.tree := ⟨_, rfl⟩
  rw [← hz]
  have hsign := sign_any
  obtain ⟨n, hn⟩ : ∃ n, t.args.length = n := ⟨_, rfl⟩
  obtain ⟨m, hm⟩ : ∃ m, u.args.length = m := ⟨_, rfl⟩
  have HK := Lib.hid hk0
  have HS := Lib.hid hsign
  have HIN := Lib.hid (And.intro hT (And.intro hU hB))
  have HZ := Lib.hid hz
  have HOK := Lib.hid (And.intro ht hu)
  have HIH := Lib.hid ih
  have HNM := Lib.hid (And.intro hn hm)
  have kt := Tm.ok_kind ht
  have ku := Tm.ok_kind hu
  unfold tb at HK b1 b2
  unfold tv
  rw [hn] at HK b1 b2 ⊢
  rw [hm] at HK b1 b2 ⊢
  obtain ⟨sn, hsn⟩ : ∃ sn, str t.nm = sn := ⟨_, rfl⟩
  obtain ⟨sm, hsm⟩ : ∃ sm, str u.nm = sm := ⟨_, rfl⟩
  rw [hsn] at HK b1 b2 ⊢
  rw [hsm] at HK b1 b2 ⊢
  have HSN := Lib.hid (And.intro hsn hsm)
  have HBX := Lib.hid (And.intro b1 b2)
  clear hsn hsm b1 b2 hk0 hsign hT hU hz ht hu ih hn hm hB
  by_cases e1 : t.k = u.k
  · by_cases e2 : t.k ≤ 2
    · have hfin : z = if t.i < u.i then -1 else if u.i < t.i then 1 else 0 := by
        rw [HZ.out]
        have hk : t.k = 1 ∨ t.k = 2 := by omega
        rcases hk with h | h
        · rw [tree_1 h, tree_1 (by omega : u.k = 1), T.cmp]; rfl
        · rw [tree_2 h, tree_2 (by omega : u.k = 2), T.cmp]; rfl
      have HF := Lib.hid hfin
      have q1 : ((t.k : Int) != u.k) = false := by simp [e1]
      have q2 : ((t.k : Int) ≤ 2) := e2
      clear e1 kt ku hfin
      go_enter Try.func49, Try.ntmps49
      go_wp2_with (go_at_call 60; refine (HS.out _ _ _).mono ?_; rintro e w1 ⟨rfl, rfl⟩)
      all_goals go_ret
      all_goals exact ⟨by (rw [HF.out]; first | (simp; done) | (simp; omega) | (simp [*]; done) | (simp [*]; omega) | (simp; repeat' split; all_goals first | rfl | omega) | (simp; intros; (repeat' split); all_goals first | rfl | omega)), HK.out⟩
    · have q1 : ((t.k : Int) != u.k) = false := by simp [e1]
      have q2 : ¬ ((t.k : Int) ≤ 2) := e2
      have hk : t.k = 3 ∨ t.k = 4 := by omega
      rcases hk with hk | hk
      · have hku : u.k = 3 := by omega
        have hfin : z = cmpB t.nm u.nm := by
          rw [HZ.out, tree_3 hk, tree_3 hku, T.cmp]
        have HF := Lib.hid hfin
        have q3 : ((t.k : Int) == 4) = false := by rw [hk]; decide
        by_cases e3 : t.nm = u.nm
        · obtain rfl : sn = sm := by rw [← HSN.out.1, ← HSN.out.2, e3]
          have HE3 := Lib.hid e3
          clear e1 kt ku hfin hk hku e3
          go_enter Try.func49, Try.ntmps49
          go_wp2_with fail
          all_goals go_ret
          all_goals exact ⟨by (rw [HF.out, HE3.out, cmpB_self]; first | rfl | simp), HK.out⟩
        · have q4 : (sn.toList == sm.toList) = false := by
            rw [← HSN.out.1, ← HSN.out.2, ByteArray.toList_eq, ByteArray.toList_eq, str_data, str_data]; simpa using e3
          have q5 : ¬ sn.toList = sm.toList := by
            rw [← HSN.out.1, ← HSN.out.2, ByteArray.toList_eq, ByteArray.toList_eq, str_data, str_data]; exact e3
          have q6 : Op.bytesLess sn.toList sm.toList = decide (cmpB t.nm u.nm < 0) := by
            rw [← HSN.out.1, ← HSN.out.2, ByteArray.toList_eq, ByteArray.toList_eq, str_data, str_data]; exact less_is _ _
          have hne : cmpB t.nm u.nm ≠ 0 := fun e => e3 (cmpB_zero.1 e)
          rcases cmpB_vals t.nm u.nm with hv | hv | hv
          · rw [hv] at q6
            have q7 : Op.bytesLess sn.toList sm.toList = true := by rw [q6]; rfl
            have HV := Lib.hid hv
            clear e1 kt ku hfin hk hku hv hne q6 e3
            go_enter Try.func49, Try.ntmps49
            go_wp2_with (go_at_call 60; refine (HS.out _ _ _).mono ?_; rintro e w1 ⟨rfl, rfl⟩)
            all_goals go_ret
            all_goals exact ⟨by (rw [HF.out, HV.out]; first | rfl | simp), HK.out⟩
          · exact absurd hv hne
          · rw [hv] at q6
            have q7 : Op.bytesLess sn.toList sm.toList = false := by rw [q6]; rfl
            have HV := Lib.hid hv
            clear e1 kt ku hfin hk hku hv hne q6 e3
            go_enter Try.func49, Try.ntmps49
            go_wp2_with (go_at_call 60; refine (HS.out _ _ _).mono ?_; rintro e w1 ⟨rfl, rfl⟩)
            all_goals go_ret
            all_goals exact ⟨by (rw [HF.out, HV.out]; first | rfl | simp), HK.out⟩
      · have hku : u.k = 4 := by omega
        obtain ⟨_, hn8, hokt, _⟩ := Tm.ok_args HOK.out.1 hk
        obtain ⟨_, hm8, hoku, _⟩ := Tm.ok_args HOK.out.2 hku
        rw [HNM.out.1] at hn8
        rw [HNM.out.2] at hm8
        have hfin : z = or2 (cmpI (n : Int) (m : Int)) (or2 (cmpB t.nm u.nm) (cmpL (t.args.map Tm.tree) (u.args.map Tm.tree))) := by
          rw [HZ.out, tree_4 hk, tree_4 hku, T.cmp, List.length_map, List.length_map, HNM.out.1, HNM.out.2]
        have q3 : ((t.k : Int) == 4) = true := by rw [hk]; decide
        by_cases e4 : n = m
        · subst e4
          by_cases e3 : t.nm = u.nm
          · obtain rfl : sn = sm := by rw [← HSN.out.1, ← HSN.out.2, e3]
            have hfin2 : z = cmpL ((t.args.map Tm.tree).drop 0) ((u.args.map Tm.tree).drop 0) := by
              rw [hfin, e3, cmpB_self, cmpI_self]; simp [or2]
            have HF := Lib.hid (And.intro hfin2 HK.out)
            have H48 := Lib.hid (And.intro hk hku)
            clear e1 kt ku hfin hfin2 hk hku e3 hokt hoku
            go_enter Try.func49, Try.ntmps49
            obtain ⟨W0, hW0⟩ : ∃ W0, W0 = ((w.alloc (.cells #[.int .i64 t.k, .string sn, .int .i64 t.i, .slice a n c] 24)).alloc (.cells #[.int .i64 u.k, .string sn, .int .i64 u.i, .slice b n d] 24)) := ⟨_, rfl⟩
            have HW0 := Lib.hid hW0
            rw [← hW0] at HF HBX
            clear hW0
            go_wp2_with fail
            rw [← HW0.out]
            go_loopw [5, 6] (fun i' _ wr => ∃ k : Nat, k ≤ n ∧ i' = .int .i64 k ∧ z = cmpL ((t.args.map Tm.tree).drop k) ((u.args.map Tm.tree).drop k) ∧ Keep (fun g => g < W0.heap.size) W0 wr) (fun i' _ _ => n - (intOf i').toNat)
            case atStart => exact ⟨0, Nat.zero_le _, rfl, HF.out.1, Keep.refl _ _⟩
            case round =>
              obtain ⟨k, hkn, rfl, hzk, hkp⟩ := hrel
              have b1 := HBX.out.1.keep hkp HBX.out.1.lt
              have b2 := HBX.out.2.keep hkp HBX.out.2.lt
              have p3 := b1.cell 3
              have r3 := b2.cell 3
              simp at p3 r3
              have l1 := b1.lt
              have l2 := b2.lt
              clear b1 b2
              have hzr := hkp.size
              have hkw : Keep (fun g => g < w.heap.size) w wr := by
                have h1 := HF.out.2
                exact h1.trans (hkp.less (fun g hg => by have := h1.size; omega))
              have HKP := Lib.hid (And.intro hkp hkw)
              by_cases hlk : k < n
              · obtain ⟨x, hx⟩ : ∃ x, t.args[k]? = some x := ⟨_, List.getElem?_eq_getElem (by rw [HNM.out.1]; exact hlk)⟩
                obtain ⟨y, hy⟩ : ∃ y, u.args[k]? = some y := ⟨_, List.getElem?_eq_getElem (by rw [HNM.out.2]; exact hlk)⟩
                obtain ⟨bx, ox, ax, cx, rfl, hbx, hTx, e0, e1, e2', e3⟩ := (HIN.out.1.keepX hkw (fun g hg => by have := HIN.out.2.2; omega)).arg hx
                obtain ⟨by_, oy, ay, cy, rfl, hby, hTy, g0, g1, g2, g3⟩ := (HIN.out.2.1.keepX hkw (fun g hg => by have := HIN.out.2.2; omega)).arg hy
                rw [← Nat.add_assoc] at e1 e2' e3 g1 g2 g3
                have hzw := hkw.size
                have hbw : bx < wr.heap.size := by have := HIN.out.2.2; omega
                have hbw2 : by_ < wr.heap.size := by have := HIN.out.2.2; omega
                rw [getElem?_tree _ _ hx, getElem?_tree _ _ hy, cmpL_go] at hzk
                have hcall := HIH.out H48.out.1 H48.out.2 x (List.mem_of_getElem? hx) y (List.mem_of_getElem? hy) wr.drew ax ay cx cy (by have := HIN.out.2.2; show B ≤ wr.heap.size; omega) (hTx.keepX (X := fun _ => True) ((Keep.refl _ wr).drew) (fun _ _ => trivial)) (hTy.keepX (X := fun _ => True) ((Keep.refl _ wr).drew) (fun _ _ => trivial))
                unfold tv at hcall
                have hall : ∀ W, Keep (fun g => g < wr.drew.heap.size) wr.drew W → ∀ b o v, b < wr.heap.size → wr.cell? ⟨b, o, none⟩ = some v → W.cell? ⟨b, o, none⟩ = some v := fun W hW b o v hb hv => (World.cell?_of_block (a := ⟨b, o, none⟩) (hW.block b hb hb)).trans hv
                generalize x.tree.cmp y.tree = r at hcall hzk
                have HALL := Lib.hid hall
                have HCALL := Lib.hid hcall
                have HZK := Lib.hid hzk
                have hwk : IntKind.i64.wrap ((k : Int) + 1) = (k : Int) + 1 := by rw [IntKind.wrap_i64]; omega
                have HCE := Lib.hid (And.intro p3 (And.intro r3 (And.intro e0 (And.intro e1 (And.intro e2' (And.intro e3 (And.intro g0 (And.intro g1 (And.intro g2 g3)))))))))
                clear hall hcall hzk hkp hkw hx hy hTx hTy hbx hby
                go_wp2_with fail
                go_region_held3 (fun w' => w'.cell? ⟨w.heap.size, 3, none⟩ = some (.slice (some ⟨bx, ox, none⟩) n c) ∧ w'.cell? ⟨w.heap.size + 1, 3, none⟩ = some (.slice (some ⟨by_, oy, none⟩) n d) ∧ w'.cell? ⟨bx, ox + k * 4, none⟩ = some (.int .i64 x.k) ∧ w'.cell? ⟨bx, ox + k * 4 + 1, none⟩ = some (.string (str x.nm)) ∧ w'.cell? ⟨bx, ox + k * 4 + 2, none⟩ = some (.int .i64 x.i) ∧ w'.cell? ⟨bx, ox + k * 4 + 3, none⟩ = some (.slice ax x.args.length cx) ∧ w'.cell? ⟨by_, oy + k * 4, none⟩ = some (.int .i64 y.k) ∧ w'.cell? ⟨by_, oy + k * 4 + 1, none⟩ = some (.string (str y.nm)) ∧ w'.cell? ⟨by_, oy + k * 4 + 2, none⟩ = some (.int .i64 y.i) ∧ w'.cell? ⟨by_, oy + k * 4 + 3, none⟩ = some (.slice ay y.args.length cy)) (first | with_reducible exact ⟨p3, r3, e0, e1, e2', e3, g0, g1, g2, g3⟩ | exact ⟨p3, r3, e0, e1, e2', e3, g0, g1, g2, g3⟩)
                  (first
                    | (go_at_call 49; refine HCALL.out.mono ?_; rintro e w3 ⟨rfl, k3⟩; clear p3 r3 e0 e1 e2' e3 g0 g1 g2 g3; have p3 := HALL.out _ k3 _ _ _ l1 HCE.out.1; have r3 := HALL.out _ k3 _ _ _ l2 HCE.out.2.1; have e0 := HALL.out _ k3 _ _ _ hbw HCE.out.2.2.1; have e1 := HALL.out _ k3 _ _ _ hbw HCE.out.2.2.2.1; have e2' := HALL.out _ k3 _ _ _ hbw HCE.out.2.2.2.2.1; have e3 := HALL.out _ k3 _ _ _ hbw HCE.out.2.2.2.2.2.1; have g0 := HALL.out _ k3 _ _ _ hbw2 HCE.out.2.2.2.2.2.2.1; have g1 := HALL.out _ k3 _ _ _ hbw2 HCE.out.2.2.2.2.2.2.2.1; have g2 := HALL.out _ k3 _ _ _ hbw2 HCE.out.2.2.2.2.2.2.2.2.1; have g3 := HALL.out _ k3 _ _ _ hbw2 HCE.out.2.2.2.2.2.2.2.2.2; have K3 := Lib.hid k3; clear k3))
                clear p3 r3 e0 e1 e2' e3 g0 g1 g2 g3
                have hk3 : Keep (fun g => g < W0.heap.size) W0 w3 := HKP.out.1.trans ((⟨K3.out.os, K3.out.tape, K3.out.output, K3.out.size, K3.out.block⟩ : Keep (fun g => g < wr.heap.size) wr w3).less (fun g hg => Nat.lt_of_lt_of_le hg hzr))
                have HK3 := Lib.hid (And.intro hk3 (HF.out.2.trans (hk3.less (fun g hg => Nat.lt_of_lt_of_le hg HF.out.2.size))))
                clear hk3
                by_cases hr : r = 0
                · subst hr
                  have hz2 := HZK.out
                  rw [or2, if_pos rfl] at hz2
                  have HZ2 := Lib.hid hz2; clear hz2
                  go_wp2_with fail
                  go_roundw
                  case rel => exact ⟨k + 1, hlk, by go_num, HZ2.out, HK3.out.1⟩
                  case measure => simp [intOf]; omega
                · have hz2 := HZK.out
                  rw [or2, if_neg hr] at hz2
                  have HZ2 := Lib.hid hz2; clear hz2
                  have hrb : ((r : Int) != 0) = true := by simpa using hr
                  have HR0 := Lib.hid hr
                  clear hr
                  go_wp2_with fail
                  all_goals go_ret
                  all_goals exact ⟨by (rw [HZ2.out]; first | rfl | simp), HK3.out.2⟩
              · obtain rfl : k = n := by omega
                have hz0 : z = 0 := by
                  rw [hzk, List.drop_of_length_le (by rw [List.length_map, HNM.out.1]; exact Nat.le_refl _), List.drop_of_length_le (by rw [List.length_map, HNM.out.2]; exact Nat.le_refl _), cmpL]
                have HZ0 := Lib.hid hz0
                clear hzk hz0 hkp hkw
                go_wp2_with fail
                all_goals go_ret
                all_goals exact ⟨by (rw [HZ0.out]; first | rfl | simp), HKP.out.2⟩
          · have q4 : (sn.toList == sm.toList) = false := by
              rw [← HSN.out.1, ← HSN.out.2, ByteArray.toList_eq, ByteArray.toList_eq, str_data, str_data]; simpa using e3
            have q5 : ¬ sn.toList = sm.toList := by
              rw [← HSN.out.1, ← HSN.out.2, ByteArray.toList_eq, ByteArray.toList_eq, str_data, str_data]; exact e3
            have q6 : Op.bytesLess sn.toList sm.toList = decide (cmpB t.nm u.nm < 0) := by
              rw [← HSN.out.1, ← HSN.out.2, ByteArray.toList_eq, ByteArray.toList_eq, str_data, str_data]; exact less_is _ _
            have hne : cmpB t.nm u.nm ≠ 0 := fun e => e3 (cmpB_zero.1 e)
            have hfin2 : z = cmpB t.nm u.nm := by
              rw [hfin, cmpI_self, or2, if_pos rfl, or2, if_neg hne]
            have HF := Lib.hid hfin2
            rcases cmpB_vals t.nm u.nm with hv | hv | hv
            · rw [hv] at q6
              have q7 : Op.bytesLess sn.toList sm.toList = true := by rw [q6]; rfl
              have HV := Lib.hid hv
              clear e1 kt ku hfin hfin2 hk hku hv hne q6 e3
              go_enter Try.func49, Try.ntmps49
              go_wp2_with (go_at_call 60; refine (HS.out _ _ _).mono ?_; rintro e w1 ⟨rfl, rfl⟩)
              all_goals go_ret
              all_goals exact ⟨by (rw [HF.out, HV.out]; first | rfl | simp), HK.out⟩
            · exact absurd hv hne
            · rw [hv] at q6
              have q7 : Op.bytesLess sn.toList sm.toList = false := by rw [q6]; rfl
              have HV := Lib.hid hv
              clear e1 kt ku hfin hfin2 hk hku hv hne q6 e3
              go_enter Try.func49, Try.ntmps49
              go_wp2_with (go_at_call 60; refine (HS.out _ _ _).mono ?_; rintro e w1 ⟨rfl, rfl⟩)
              all_goals go_ret
              all_goals exact ⟨by (rw [HF.out, HV.out]; first | rfl | simp), HK.out⟩
        · have hfin2 : z = if (n : Int) < m then -1 else 1 := by
            rw [hfin]
            have h1 : cmpI (n : Int) (m : Int) = if (n : Int) < m then -1 else 1 := by
              unfold cmpI; split
              · rfl
              · rw [if_pos (by omega)]
            rw [h1, or2, if_neg (by split <;> decide)]
          have HF := Lib.hid hfin2
          have q5 : ((n : Int) != m) = true := by simp; omega
          have HE4 := Lib.hid e4
          clear e1 kt ku hfin hfin2 hk hku e4
          by_cases hlt : (n : Int) < m
          · go_enter Try.func49, Try.ntmps49
            go_wp2_with (go_at_call 60; refine (HS.out _ _ _).mono ?_; rintro e w1 ⟨rfl, rfl⟩)
            all_goals go_ret
            all_goals exact ⟨by (rw [HF.out]; first | (simp; omega) | (simp [hlt]; done) | (simp; done)), HK.out⟩
          · go_enter Try.func49, Try.ntmps49
            go_wp2_with (go_at_call 60; refine (HS.out _ _ _).mono ?_; rintro e w1 ⟨rfl, rfl⟩)
            all_goals go_ret
            all_goals exact ⟨by (rw [HF.out]; first | (simp; omega) | (simp [hlt]; done) | (simp; done)), HK.out⟩
  · have hfin : z = if t.k < u.k then -1 else 1 := by
      rw [HZ.out]
      rw [cmp_kinds (by rw [Tm.kind_k HOK.out.1, Tm.kind_k HOK.out.2]; exact e1), Tm.kind_k HOK.out.1, Tm.kind_k HOK.out.2]
    have HF := Lib.hid hfin
    have q1 : ((t.k : Int) != u.k) = true := by simpa using e1
    clear e1 kt ku hfin
    go_enter Try.func49, Try.ntmps49
    go_wp2_with (go_at_call 60; refine (HS.out _ _ _).mono ?_; rintro e w1 ⟨rfl, rfl⟩)
    all_goals go_ret
    all_goals exact ⟨by (rw [HF.out]; first | (simp; done) | (simp; omega) | (simp [*]; done) | (simp [*]; omega) | (simp; repeat' split; all_goals first | rfl | omega) | (simp; intros; (repeat' split); all_goals first | rfl | omega)), HK.out⟩
theorem refOrder_any (B : Nat) : ∀ t : Tm, t.ok = true → ∀ u : Tm, u.ok = true → RefO B t u := by
  intro t
  induction t using Tm.ind with
  | h kd nm i args ih =>
    intro ht u hu
    exact refOrder_step ht hu (fun h4 u4 x hx y hy => ih x hx ((Tm.ok_args ht h4).2.2.1 x hx) y ((Tm.ok_args hu u4).2.2.1 y hy))
set_option maxRecDepth 100000 in
set_option maxHeartbeats 4000000 in
theorem refSame_any {w : World} {t u : Tm} {a b : Option Addr} {c d : Nat} (hT : TmAt w.heap.size w t a c) (hU : TmAt w.heap.size w u b d) (ht : t.ok = true) (hu : u.ok = true) :
    Calls Try.prog 35 #[tv t a c, tv u b d] w fun e w' => e = .returned (.bool (t.tree.cmp u.tree == 0)) ∧ Keep (fun g => g < w.heap.size) w w' := by
  have k0 : Keep (fun g => g < w.heap.size) w ((w.alloc (tb t a c)).alloc (tb u b d)) := ((Keep.refl _ w).alloc _).alloc _
  have hc := refOrder_any w.heap.size t ht u hu ((w.alloc (tb t a c)).alloc (tb u b d)) a b c d (by simp; omega) (hT.keepX k0 (fun _ h => h)) (hU.keepX k0 (fun _ h => h))
  have HC := Lib.hid hc
  have HK := Lib.hid k0
  clear hc k0 hT hU
  unfold tv tb at HC
  unfold tb at HK
  unfold tv
  generalize t.tree.cmp u.tree = r at HC ⊢
  go_enter Try.func35, Try.ntmps35
  go_wp2_with fail
  refine HC.out.mono ?_
  rintro e w1 ⟨rfl, k1⟩
  have HE := Lib.hid (HK.out.onto k1)
  clear k1
  go_wp2_with fail
  go_ret
  exact ⟨rfl, HE.out⟩
end Go.Proofs.Ytmgephleogiaoaa
namespace Go.Proofs.Ytmgephleogiaoaa
open Go.RowKit Go.Maps
set_option linter.unusedVariables false
set_option linter.unusedSimpArgs false
def lf0 (t : Tm) : TP := (t, none, 0)
abbrev xN (n : Int) : Tm := .node 2 [] n []
abbrev F7 : Tm := xC [102] [xV 7, xV 3, xV 7]
abbrev RR : Tm := xC [102] [xV 1, xV 2, xV 1]
abbrev LL : Tm := xC [46] [xA [97], xC [46] [xA [98], xA [91, 93]]]
abbrev FV : Tm := xC [102] [xV 4, xV 5, xV 4]
end Go.Proofs.Ytmgephleogiaoaa
namespace Go.Proofs.Ytmgephleogiaoaa
open Go.RowKit Go.Maps
set_option linter.unusedVariables false
set_option linter.unusedSimpArgs false
end Go.Proofs.Ytmgephleogiaoaa
namespace Go.Proofs.Ytmgephleogiaoaa
open Go.RowKit Go.Maps
set_option linter.unusedVariables false
set_option linter.unusedSimpArgs false
theorem wanted_free {o : Oper} {y : Nat → Option Bool} (h : o.guard = none) : Region.wanted o y = true := by unfold Region.wanted; rw [h]
theorem wanted_is {ops : Array Oper} {o : Oper} {a : Act} {j d : Nat} {b want r : Bool} (hg : o.guard = some (j, want)) (hj : (ops[j]?).bind (·.dst) = some d) (h : a.tmps[d]? = some (.bool b)) (hr : (b == want) = r) : Region.wanted o (yielded ops a.tmps) = r := by
  unfold Region.wanted yielded
  rw [hg]
  simp only [hj, Option.bind_some, h]
  subst hr
  cases b <;> cases want <;> rfl
theorem blk_on {w w' : World} {g : Nat} {t : TypeId} {cs : Array Value} (h : Blk w g t cs) (k : Keep (fun g => g < w.heap.size) w w') : Blk w' g t cs := h.keep k h.lt
theorem keep_onto {w W V : World} (h : Keep (fun g => g < w.heap.size) w W) (k : Keep (fun g => g < W.heap.size) W V) : Keep (fun g => g < w.heap.size) w V := h.trans (k.less (fun g hg => Nat.lt_of_lt_of_le hg h.size))
structure FrS (n : Nat) (a : Act) : Prop where
  size : a.tmps.size = n
  defers : a.defers = []
theorem FrS.put {n : Nat} {a a' : Act} (h : FrS n a) {d : Nat} {v : Value} (he : a' = a.put (some d) v) : FrS n a' := by
  subst he
  exact ⟨by show (a.tmps.setIfInBounds d v).size = n; rw [Array.size_setIfInBounds]; exact h.size, h.defers⟩
theorem FrS.at_ {n : Nat} {a a' : Act} (h : FrS n a) {d : Nat} {v : Value} (he : a' = a.put (some d) v) (hd : d < n) : a'.tmps[d]? = some v := by
  subst he
  show (a.tmps.setIfInBounds d v)[d]? = _
  rw [Array.getElem?_setIfInBounds_self, if_pos (by rw [h.size]; exact hd)]
theorem slot_on {a a' : Act} {d k : Nat} {v u : Value} (he : a' = a.put (some d) v) (hk : a.tmps[k]? = some u) (hne : d ≠ k) : a'.tmps[k]? = some u := by
  subst he
  show (a.tmps.setIfInBounds d v)[k]? = _
  rw [Array.getElem?_setIfInBounds_ne hne]; exact hk
theorem eval_slot {a : Act} {t : Nat} {v : Value} (h : a.tmps[t]? = some v) : a.eval (.tmp t) = v := by
  show a.tmps.getD t undef = v
  rw [Array.getD_eq_getD_getElem?, h]; rfl
section
variable {P : Program} {ops : Array Oper} {Q : Exit → Act → World → Prop} {S : World → Prop}
theorem reg_in {id : Nat} {l : List Nat} {a : Act} {w : World} (hr : List.range ops.size = l) (h : wpOps P ops Q l a w) : (Code.region id ops false).wp P Q a w := wp_region (by rw [hr]; exact h)
theorem st_end {a : Act} {w : World} (h : Q .normal a w) : wpOps P ops Q [] a w := by unfold wpOps; exact h
theorem st_val {i d : Nat} {oi : Oper} {v : Value} {rest : List Nat} {a : Act} {w w' : World} (hi : ops[i]? = some oi) (hd : oi.dst = some d) (hw : Region.wanted oi (yielded ops a.tmps) = true)
    (hy : (execOp a.eval oi).run P w = .ok (.value v) w') (h : ∀ a', a' = a.put (some d) v → wpOps P ops Q rest a' w') : wpOps P ops Q (i :: rest) a w := by
  rw [wpOps_cons]
  unfold wpOp
  rw [hi]
  show if Region.wanted oi (yielded ops a.tmps) = true then _ else _
  rw [if_pos hw]
  refine Or.inl ?_
  show oi.upon P a _ Q ((execOp a.eval oi).run P w)
  rw [hy, Oper.upon_value, hd]
  exact h _ rfl
theorem st_skip {i : Nat} {oi : Oper} {rest : List Nat} {a : Act} {w w' : World} (hi : ops[i]? = some oi) (hd : oi.dst = none) (hw : Region.wanted oi (yielded ops a.tmps) = true)
    (hy : (execOp a.eval oi).run P w = .ok .skip w') (h : wpOps P ops Q rest a w') : wpOps P ops Q (i :: rest) a w := by
  rw [wpOps_cons]
  unfold wpOp
  rw [hi]
  show if Region.wanted oi (yielded ops a.tmps) = true then _ else _
  rw [if_pos hw]
  refine Or.inl ?_
  show oi.upon P a _ Q ((execOp a.eval oi).run P w)
  rw [hy, Oper.upon_skip, hd]
  exact h
theorem st_call {i d : Nat} {oi : Oper} {f : FuncId} {args : Array Value} {rest : List Nat} {a : Act} {w : World} (hi : ops[i]? = some oi) (hd : oi.dst = some d) (hw : Region.wanted oi (yielded ops a.tmps) = true)
    (hy : (execOp a.eval oi).run P w = .ok (.enter f args) w) (h : Calls P f args w fun e w' => ∃ v, e = .returned v ∧ ∀ a', a' = a.put (some d) v → wpOps P ops Q rest a' w') : wpOps P ops Q (i :: rest) a w := by
  rw [wpOps_cons]
  unfold wpOp
  rw [hi]
  show if Region.wanted oi (yielded ops a.tmps) = true then _ else _
  rw [if_pos hw]
  refine Or.inl ?_
  show oi.upon P a _ Q ((execOp a.eval oi).run P w)
  rw [hy, Oper.upon_enter]
  refine Calls.mono h fun e w' he => ?_
  obtain ⟨v, rfl, hk⟩ := he
  rw [hd]
  exact hk _ rfl
theorem st_not {i d : Nat} {oi : Oper} {rest : List Nat} {a : Act} {w : World} (hi : ops[i]? = some oi) (hd : oi.dst = some d) (hw : Region.wanted oi (yielded ops a.tmps) = false)
    (h : ∀ a', a' = a.put (some d) undef → wpOps P ops Q rest a' w) : wpOps P ops Q (i :: rest) a w := by
  rw [wpOps_cons]
  unfold wpOp
  rw [hi]
  show if Region.wanted oi (yielded ops a.tmps) = true then _ else _
  rw [hw, if_neg (by decide), hd]
  exact h _ rfl
theorem dr_in {id n : Nat} {l : Array Bool} {a : Act} {w : World} (hm : P.follows .mixedOrders = true) (hS : S w.drew) (hn : ops.size = n) (hl : Array.replicate n false = l)
    (h : wpAnyH P .any ops (NoPanic Q) S n l a w.drew) : (Code.region id ops true).wp P Q a w :=
  wp_region_noPanic (wp_region_held_drew hm hS fun _ => by rw [hn, hl]; exact h)
theorem dr_end {n : Nat} {listed : Array Bool} {a : Act} {w : World} (hr : Region.ready .any ops listed = []) (h : Q .normal a w) : wpAnyH P .any ops (NoPanic Q) S n listed a w := wpAnyH_done hr (NoPanic.normal h) _
theorem dr_take {i d : Nat} {oi : Oper} {v : Value} {fuel : Nat} {listed l' : Array Bool} {a : Act} {w : World}
    (hi : ops[i]? = some oi) (hd : oi.dst = some d) (hs : Region.noSelect ops = true) (hf : Region.free .any ops listed i = true) (hr : (Region.ready .any ops listed).contains i = true)
    (hl : listed.setIfInBounds i true = l') (hw : Region.wanted oi (yielded ops a.tmps) = true) (hS : S w)
    (hy : ∀ w, S w → (execOp a.eval oi).run P w = .ok (.value v) w)
    (h : ∀ a', a' = a.put (some d) v → wpAnyH P .any ops (NoPanic Q) S fuel l' a' w) : wpAnyH P .any ops (NoPanic Q) S (fuel + 1) listed a w := by
  subst hl
  refine wpAnyH_take hi hs hf hr (fun _ _ _ h => h) (Or.inl ⟨hw, hy⟩) hS ?_
  rw [hd]
  exact h _ rfl
theorem dr_val {i d : Nat} {oi : Oper} {v : Value} {fuel : Nat} {listed l' : Array Bool} {a : Act} {w w' : World}
    (hi : ops[i]? = some oi) (hd : oi.dst = some d) (hl : listed.setIfInBounds i true = l') (hw : Region.wanted oi (yielded ops a.tmps) = true)
    (hy : (execOp a.eval oi).run P w = .ok (.value v) w') (hS : S w')
    (h : ∀ a', a' = a.put (some d) v → wpAnyH P .any ops (NoPanic Q) S fuel l' a' w') : wpOp P ops (NoPanic Q) i (fun a' w' => S w' ∧ wpAnyH P .any ops (NoPanic Q) S fuel (listed.setIfInBounds i true) a' w') a w := by
  subst hl
  unfold wpOp
  rw [hi]
  show if Region.wanted oi (yielded ops a.tmps) = true then _ else _
  rw [if_pos hw]
  refine Or.inl ?_
  show oi.upon P a _ (NoPanic Q) ((execOp a.eval oi).run P w)
  rw [hy, Oper.upon_value, hd]
  exact ⟨hS, h _ rfl⟩
theorem dr_skip {i : Nat} {oi : Oper} {fuel : Nat} {listed l' : Array Bool} {a : Act} {w w' : World}
    (hi : ops[i]? = some oi) (hd : oi.dst = none) (hl : listed.setIfInBounds i true = l') (hw : Region.wanted oi (yielded ops a.tmps) = true)
    (hy : (execOp a.eval oi).run P w = .ok .skip w') (hS : S w')
    (h : wpAnyH P .any ops (NoPanic Q) S fuel l' a w') : wpOp P ops (NoPanic Q) i (fun a' w' => S w' ∧ wpAnyH P .any ops (NoPanic Q) S fuel (listed.setIfInBounds i true) a' w') a w := by
  subst hl
  unfold wpOp
  rw [hi]
  show if Region.wanted oi (yielded ops a.tmps) = true then _ else _
  rw [if_pos hw]
  refine Or.inl ?_
  show oi.upon P a _ (NoPanic Q) ((execOp a.eval oi).run P w)
  rw [hy, Oper.upon_skip, hd]
  exact ⟨hS, h⟩
theorem dr_call {i d : Nat} {oi : Oper} {fuel : Nat} {listed l' : Array Bool} {a : Act} {w : World} {f : FuncId} {args : Array Value}
    (hi : ops[i]? = some oi) (hd : oi.dst = some d) (hl : listed.setIfInBounds i true = l') (hw : Region.wanted oi (yielded ops a.tmps) = true)
    (hy : (execOp a.eval oi).run P w = .ok (.enter f args) w)
    (h : Calls P f args w fun e w' => ∃ v, e = .returned v ∧ S w' ∧ ∀ a', a' = a.put (some d) v → wpAnyH P .any ops (NoPanic Q) S fuel l' a' w') : wpOp P ops (NoPanic Q) i (fun a' w' => S w' ∧ wpAnyH P .any ops (NoPanic Q) S fuel (listed.setIfInBounds i true) a' w') a w := by
  subst hl
  unfold wpOp
  rw [hi]
  show if Region.wanted oi (yielded ops a.tmps) = true then _ else _
  rw [if_pos hw]
  refine Or.inl ?_
  show oi.upon P a _ (NoPanic Q) ((execOp a.eval oi).run P w)
  rw [hy, Oper.upon_enter]
  refine Calls.mono h fun e w' he => ?_
  obtain ⟨v, rfl, hS, hk⟩ := he
  show S w' ∧ wpAnyH _ _ _ _ _ _ _ (a.put oi.dst v) w'
  rw [hd]
  exact ⟨hS, hk _ rfl⟩
theorem dr_only {i : Nat} {fuel : Nat} {listed : Array Bool} {a : Act} {w : World} (hr : Region.ready .any ops listed = [i])
    (h : wpOp P ops (NoPanic Q) i (fun a' w' => S w' ∧ wpAnyH P .any ops (NoPanic Q) S fuel (listed.setIfInBounds i true) a' w') a w) : wpAnyH P .any ops (NoPanic Q) S (fuel + 1) listed a w :=
  wpAnyH_all hr (by simp) fun j hj => by rw [List.mem_singleton.1 hj]; exact h
theorem ret_one {fn : Func} {R : Ending → World → Prop} {a : Act} {w : World} {v : Value} {t n : Nat} (hr : fn.results = #[.tmp t]) (hF : FrS n a) (h : a.tmps[t]? = some v) (hR : R (.returned v) w) : bodyPost P fn R .ret a w :=
  ⟨hF.defers, v, by rw [results_tmp hr, Array.getD_eq_getD_getElem?, h]; rfl, hR⟩
end
end Go.Proofs.Ytmgephleogiaoaa
namespace Go.Proofs.Ytmgephleogiaoaa
open Go.RowKit Go.Maps
set_option linter.unusedVariables false
set_option linter.unusedSimpArgs false
theorem enter_sx {P : Program} {f : FuncId} {fn : Func} {c : Code} {args : Array Value} {w : World} {R : Ending → World → Prop} {n : Nat} (hf : P.funcs[f]? = some fn) (hb : fn.body = some c) (hn : fn.ntmps = n) (hs : args.size ≤ n)
    (h : ∀ a : Act, FrS n a → (∀ (k : Nat) (v : Value), args[k]? = some v → a.tmps[k]? = some v) → c.wp P (bodyPost P fn R) a w) : Calls P f args w R := by
  refine calls_of_wp hf hb (h _ ⟨?_, rfl⟩ fun k v hk => ?_)
  · show (args ++ Array.replicate (fn.ntmps - args.size) undef).size = n
    rw [Array.size_append, Array.size_replicate, hn]; omega
  · show (args ++ Array.replicate (fn.ntmps - args.size) undef)[k]? = some v
    have hlt : k < args.size := by
      rcases Nat.lt_or_ge k args.size with h | h
      · exact h
      · rw [Array.getElem?_eq_none h] at hk; cases hk
    rw [Array.getElem?_append_left hlt]; exact hk
end Go.Proofs.Ytmgephleogiaoaa
