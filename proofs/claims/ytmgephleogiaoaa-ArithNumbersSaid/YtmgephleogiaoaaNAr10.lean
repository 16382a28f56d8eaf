/-
  What a term is worth, plain: a number, or a ball. No condition.
-/
import Derived.Test.YtmgephleogiaoaaNAr9
import Derived.Test.YtmgephleogiaoaaNArB
namespace Go.Proofs.Ytmgephleogiaoaa
open Go.RowKit Go.Maps
set_option linter.unusedVariables false
set_option linter.unusedSimpArgs false
def instF:Tm:=.node 3 [105,110,115,116,97,110,116,105,97,116,105,111,110,95,101,114,114,111,114] 0 []
def flF (s:List UInt8):Tm:=.node 4 [101,118,97,108,117,97,116,105,111,110,95,101,114,114,111,114] 0 [.node 3 s 0 []]
inductive Wth where
  | num (v:Int)
  | bal (b:Tm)
def Wth.v:Wth→Int | .num v=>v | .bal _=>0
def Wth.b:Wth→Tm | .num _=>zeroT | .bal b=>b
def Wth.k:Wth→Bool | .num _=>true | .bal _=>false
def resW (r:Rs):Wth:=if r.2=[] then .num r.1 else .bal (ballV (flF r.2))
mutual
def wo:Tm→Wth
  | .node k nm i args=>if k=2 then .num i else if k=1 then .bal (ballV instF) else if k=3 then .bal (ballV (evF nm 0))
      else if isFn nm args.length=true then woL nm args [] else .bal (ballV (evF nm args.length))
def woL (nm:List UInt8):List Tm→List Int→Wth
  | [],xs=>resW (callR nm xs.length (xs.getD 0 0) (xs.getD 1 0))
  | t::ts,xs=>match wo t with | .num v=>woL nm ts (xs ++ [v]) | .bal b=>.bal b
end
theorem inR_0:inR 0:=by decide
theorem inR_1:inR 1:=by decide
def InP (r:Rs):Prop:=inR r.1
theorem ite_in {c:Prop} [Decidable c] {x y:Rs} (hx:InP x) (hy:InP y):InP (if c then x else y):=by
  by_cases h:c
  · rw [if_pos h];exact hx
  · rw [if_neg h];exact hy
theorem big_in (z:Int):InP (big z):=by
  unfold big InP
  by_cases h:inR z
  · rw [if_pos h];exact h
  · rw [if_neg h];exact inR_0
theorem in_0 {s:List UInt8}:InP (0,s):=inR_0
theorem in_1 {s:List UInt8}:InP (1,s):=inR_1
theorem cmpZ_in (a b:Int):inR (cmpZ a b):=by unfold cmpZ inR;split <;> (try split) <;> omega
theorem shr_in {a n:Int} (h:inR a):InP (shrR a n):=by
  unfold shrR
  refine ite_in in_0 ?_
  · show inR (a / 2 ^ n.toNat)
    have hp:=pow_pos' n.toNat
    generalize (2:Int) ^ n.toNat=c at *
    unfold inR at *
    have h1:a / c ≤ a∨a / c ≤ 0:=by
      by_cases ha:0 ≤ a
      · exact .inl (Int.ediv_le_self c ha)
      · right
        exact Int.le_of_lt (Int.ediv_neg_of_neg_of_pos (by omega) hp)
    have h2:a ≤ a / c∨0 ≤ a / c:=by
      by_cases ha:0 ≤ a
      · exact .inr (Int.ediv_nonneg ha (by omega))
      · left
        have h3:=Int.mul_ediv_add_emod a c
        have h4:=Int.emod_nonneg a (b:=c) (by omega)
        have h5:a / c * c ≤ a:=by rw [Int.mul_comm];omega
        refine (Int.le_ediv_iff_mul_le hp).2 ?_
        have h6:=Int.mul_le_mul_of_nonneg_left (a:=1) (b:=c) (c:=-a) (by omega) (by omega)
        rw [Int.mul_one,Int.neg_mul] at h6
        omega
    omega
theorem bits_inP {op:BinOp} {a b:Int} {s:List UInt8}:InP (bits op .i64 a b,s):=bits_in op a b
theorem cmp_inP {a b:Int} {s:List UInt8}:InP (cmpZ a b,s):=cmpZ_in a b
theorem self_inP {a:Int} {s:List UInt8} (h:inR a):InP (a,s):=h
theorem tmod_inP {a b:Int} {s:List UInt8} (h:inR a):InP (a.tmod b,s):=tmod_inR h
theorem pow_in {a n:Int}:InP (powR a n):=by
  unfold powR
  exact ite_in (ite_in in_1 (ite_in (by show inR (if n % 2=0 then 1 else -1);split <;> decide) in_0)) (big_in _)
theorem mod_in {a b:Int} (h:inR a) (hb:inR b):InP (modR a b):=by
  unfold modR
  have hm:=tmod_inR (b:=b) h
  refine ite_in in_0 ?_
  by_cases h1:a.tmod b ≠ 0∧¬ (a.tmod b < 0↔b < 0)
  · rw [if_pos h1];show inR (a.tmod b + b);unfold inR at *;omega
  · rw [if_neg h1];exact hm
theorem one_in {nm:List UInt8} {a:Int} (h:inR a):InP (oneR nm a):=by
  unfold oneR
  exact ite_in cmp_inP (ite_in bits_inP (ite_in (ite_in (self_inP h) (big_in _)) (ite_in (big_in _) (self_inP h))))
theorem two_in {nm:List UInt8} {a b:Int} (h:inR a) (hb:inR b):InP (twoR nm a b):=by
  unfold twoR
  refine ite_in (big_in _) <| ite_in (big_in _) <| ite_in (big_in _) <| ite_in ?_ <| ite_in ?_ <| ite_in bits_inP <| ite_in bits_inP <| ite_in bits_inP <| ite_in (ite_in in_0 (big_in _)) <| ite_in (ite_in in_0 (tmod_inP h)) <| ite_in (mod_in h hb) <| ite_in (shr_in h) <| ite_in (ite_in in_0 (big_in _)) pow_in
  · show inR (min a b);unfold inR at *;omega
  · show inR (max a b);unfold inR at *;omega
theorem call_in {nm:List UInt8} {n:Nat} {a b:Int} (h:inR a) (hb:inR b):InP (callR nm n a b):=by
  unfold callR;exact ite_in (one_in h) (two_in h hb)
def FlP (r:Rs):Prop:=r.2=[]∨r.2=fOver∨r.2=fZero∨r.2=fUndef
theorem ite_fl {c:Prop} [Decidable c] {x y:Rs} (hx:FlP x) (hy:FlP y):FlP (if c then x else y):=by
  by_cases h:c
  · rw [if_pos h];exact hx
  · rw [if_neg h];exact hy
theorem fl_e {z:Int}:FlP (z,[]):=.inl rfl
theorem fl_o {z:Int}:FlP (z,fOver):=.inr (.inl rfl)
theorem fl_z {z:Int}:FlP (z,fZero):=.inr (.inr (.inl rfl))
theorem fl_u {z:Int}:FlP (z,fUndef):=.inr (.inr (.inr rfl))
theorem big_fl (z:Int):FlP (big z):=by unfold big;exact ite_fl fl_e fl_o
theorem fl_of (nm:List UInt8) (n:Nat) (a b:Int):FlP (callR nm n a b):=by
  unfold callR oneR twoR quoR remR modR shrR shlR powR
  repeat' (first | exact big_fl _ | exact fl_e | exact fl_o | exact fl_z | exact fl_u | refine ite_fl ?_ ?_)
theorem ballV_inst:ballV instF=ballT instF:=by kernel_rfl
theorem evF_right {nm:List UInt8} {n:Int} (h:nm.length ≤ 64):(evF nm n).right=true:=by
  refine right_of.2 ⟨?_,?_,?_⟩
  · simp [evF,Tm.ok,okL,h]
  · simp [evF,Tm.ns,nsL]
  · simp [evF,Tm.nd,ndL]
theorem ballV_ev {nm:List UInt8} {n:Int} (h:nm.length ≤ 64):ballV (evF nm n)=ballT (evF nm n):=by
  rw [ballV,if_pos (evF_right h)]
  congr 1
theorem ballV_fl {s:List UInt8} (h:s=fOver∨s=fZero∨s=fUndef):ballV (flF s)=ballT (flF s):=by
  rcases h with rfl | rfl | rfl <;> kernel_rfl
end Go.Proofs.Ytmgephleogiaoaa
