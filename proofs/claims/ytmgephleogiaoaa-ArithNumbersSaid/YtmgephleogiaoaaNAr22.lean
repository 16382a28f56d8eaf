/-
  What the document's arithmetic comes to, plain. No condition.
-/
import Derived.Test.YtmgephleogiaoaaNAr21
namespace Go.Proofs.Ytmgephleogiaoaa
open Go.RowKit Go.Maps
set_option linter.unusedVariables false
set_option linter.unusedSimpArgs false
theorem mul_zero1 {a b:Int} (h:a=0∨b=0):big (a * b)=(0,[]):=by
  rcases h with rfl | rfl
  · exact big_is (by rw [Int.zero_mul]) (by rw [Int.zero_mul];decide)
  · exact big_is (by rw [Int.mul_zero]) (by rw [Int.mul_zero];decide)
theorem mul_spec {a b:Int} (h:(a=-9223372036854775808∧b=-1)∨(b=-9223372036854775808∧a=-1)):big (a * b)=(0,fOver):=by
  rcases h with ⟨rfl,rfl⟩ | ⟨rfl,rfl⟩ <;> exact big_not (by decide)
theorem refmul_not {a b:Int} (ha:inR a) (hb:¬ b=0) (h:¬ IntKind.i64.wrap ((IntKind.i64.wrap (a * b)).tdiv b)=a):big (a * b)=(0,fOver):=by
  refine big_not fun hr=>h ?_
  rw [i64_l,i64_l,wrap_in hr,Int.mul_tdiv_cancel _ hb,wrap_in ha]
theorem refmul_is {a b:Int} (ha:inR a) (hbr:inR b) (hb:¬ b=0) (hs:¬ (a=-9223372036854775808∧b=-1)) (h:IntKind.i64.wrap ((IntKind.i64.wrap (a * b)).tdiv b)=a):big (a * b)=(IntKind.i64.wrap (a * b),[]):=by
  rw [i64_l] at *
  rw [i64_l] at h
  obtain ⟨k,hk⟩:=wrap_mod (a * b)
  have hc:=wrap_inR (a * b)
  have h1:(wrap64 (a * b)).tdiv b=a:=by
    by_cases h2:wrap64 (a * b)=-9223372036854775808∧b=-1
    · exfalso
      rw [h2.1,h2.2] at h
      exact hs ⟨by rw [← h,wrap64];decide,h2.2⟩
    · rw [wrap_in (tdiv_inR hc h2)] at h;exact h
  have h3:=Int.mul_tdiv_add_tmod (wrap64 (a * b)) b
  have h4:((wrap64 (a * b)).tmod b).natAbs < b.natAbs:=by rw [Int.natAbs_tmod];exact Nat.mod_lt _ (by omega)
  rw [h1,Int.mul_comm] at h3
  have e:wrap64 (a * b)=a * b:=by
    generalize (wrap64 (a * b)).tmod b=r at *
    generalize wrap64 (a * b)=c at *
    generalize a * b=p at *
    unfold inR at hbr
    omega
  rw [e] at hc ⊢
  exact big_is rfl hc
theorem quo_m1 {a b:Int} (h:b=-1):quoR a b=big (0 - a):=by
  subst h;rw [quoR,if_neg (by decide),Int.tdiv_neg,Int.tdiv_one,Int.zero_sub]
theorem rem_m1 {a b:Int} (h:b=-1):remR a b=(0,[]):=by
  subst h;rw [remR,if_neg (by decide),Int.tmod_neg,Int.tmod_one]
theorem mod_m1 {a b:Int} (h:b=-1):modR a b=(0,[]):=by
  subst h
  exact mod_nil (by decide) (by rw [Int.tmod_neg,Int.tmod_one])
theorem quo_reg {a b:Int} (ha:inR a) (h:¬ b=0) (h1:¬ b=-1):quoR a b=(a.tdiv b,[]):=by
  rw [quoR,if_neg h];exact big_is rfl (tdiv_inR ha fun e=>h1 e.2)
theorem div_facts {a b:Int} (ha:inR a) (h:¬ b=0) (h1:¬ b=-1):IntKind.i64.wrap (a.tdiv b)=a.tdiv b∧IntKind.i64.wrap (a - IntKind.i64.wrap (b * (a.tdiv b)))=a.tmod b:=by
  have hq:=tdiv_inR ha (b:=b) (fun e=>h1 e.2)
  refine ⟨by rw [i64_l,wrap_in hq],?_⟩
  have h2:=Int.mul_tdiv_add_tmod a b
  have hm:=tmod_inR (b:=b) ha
  rw [i64_l,i64_l]
  obtain ⟨k,hk⟩:=wrap_mod (b * a.tdiv b)
  obtain ⟨l,hl⟩:=wrap_mod (a - wrap64 (b * a.tdiv b))
  have hr:=wrap_inR (a - wrap64 (b * a.tdiv b))
  rw [hl] at hr ⊢
  rw [hk] at hr ⊢
  unfold inR at *
  generalize b * a.tdiv b=p at *
  generalize a.tmod b=r at *
  omega
theorem mod_ref1 {a b:Int} (ha:inR a) (hb:inR b) (h:(a.tmod b < 0∧0 < b)∨(0 < a.tmod b∧b < 0)):modR a b=(IntKind.i64.wrap (a.tmod b + b),[]):=by
  rw [i64_l];exact mod_one (by omega) (by omega) ha hb
theorem mod_ref2 {a b:Int} (h0:¬ b=0) (h:¬ ((a.tmod b < 0∧0 < b)∨(0 < a.tmod b∧b < 0))):modR a b=(a.tmod b,[]):=mod_two h0 (by omega)
theorem pow_le_in {x:Int} {k:Nat} (h:inR (x * 2 ^ k)):inR x:=by
  have hp:=pow_pos' k
  generalize (2:Int) ^ k=c at *
  unfold inR at *
  by_cases h0:0 ≤ x
  · have:=Int.mul_le_mul_of_nonneg_left (a:=1) (b:=c) (c:=x) (by omega) h0
    rw [Int.mul_one] at this;omega
  · have:=Int.mul_le_mul_of_nonneg_left (a:=1) (b:=c) (c:=-x) (by omega) (by omega)
    rw [Int.mul_one,Int.neg_mul] at this;omega
theorem shl_fail {a b:Int} {j:Nat} (h:¬ inR (a * 2 ^ (j + 1))) (hj:(j:Int) < b):shlR a b=(0,fOver):=by
  rw [shlR,if_neg (by omega)]
  refine big_not fun hr=>h ?_
  obtain ⟨k,hk⟩:∃ k,b.toNat=(j + 1) + k:=⟨b.toNat - (j + 1),by omega⟩
  rw [hk,Int.pow_add,← Int.mul_assoc] at hr
  exact pow_le_in hr
theorem shl_end {a b:Int} {j:Nat} (h:inR (a * 2 ^ j)) (hj:(j:Int) ≤ b) (he:¬ (j:Int) < b∨¬ (j:Int) < 70):shlR a b=(a * 2 ^ j,[]):=by
  rw [shlR,if_neg (by omega)]
  by_cases h1:(j:Int)=b
  · rw [← h1,Int.toNat_natCast];exact big_is rfl h
  · have:=shl_far (n:=j) (by omega) h
    subst this
    rw [Int.zero_mul,Int.zero_mul];exact big_is rfl (by decide)
theorem shr_step {a:Int} (ha:inR a) (j:Nat):IntKind.i64.wrap ((IntKind.i64.wrap (a / 2 ^ j - bits .and .i64 (a / 2 ^ j) 1)).tdiv 2)=a / 2 ^ (j + 1):=by
  have h:=shr_in (a:=a) (n:=(j:Int)) ha
  rw [shrR,if_neg (by omega),Int.toNat_natCast] at h
  rw [Int.pow_succ,← Int.ediv_ediv_of_nonneg (by have:=pow_pos' j;omega),and_one]
  have h:inR (a / 2 ^ j):=h
  generalize a / 2 ^ j=v at *
  unfold inR at h
  rw [i64_l,i64_l,wrap_in (z:=v - v % 2) (by unfold inR;omega)]
  obtain ⟨q,hq⟩:∃ q,v - v % 2=q * 2:=⟨v / 2,by omega⟩
  rw [hq,Int.mul_tdiv_cancel _ (by decide),wrap_in (by unfold inR;omega)]
  omega
theorem shr_end {a b:Int} {j:Nat} (ha:inR a) (hj:(j:Int) ≤ b) (he:¬ (j:Int) < b∨¬ (j:Int) < 70):shrR a b=(a / 2 ^ j,[]):=by
  rw [shrR,if_neg (by omega)]
  by_cases h1:(j:Int)=b
  · rw [← h1,Int.toNat_natCast]
  · have h2:∀ n:Nat,64 ≤ n→(9223372036854775808:Int) ≤ 2 ^ n:=fun n hn=>Int.le_trans (by decide) (pow_ge hn)
    rw [div_far (h2 _ (by omega)) ha,div_far (h2 j (by omega)) ha]
theorem mul_two (a:Int) (j:Nat):a * 2 ^ j * 2=a * 2 ^ (j + 1):=by rw [Int.pow_succ,Int.mul_assoc]
theorem pow_one1 {a b:Int} (h:a=1):powR a b=(1,[]):=by
  subst h
  unfold powR
  by_cases hb:b < 0
  · rw [if_pos hb,if_pos rfl]
  · rw [if_neg hb,Int.one_pow];exact big_is rfl (by decide)
theorem pow_m1 {a b:Int} (h:a=-1):powR a b=((if b % 2=0 then 1 else -1),[]):=by
  by_cases hb:b < 0
  · rw [pow_neg (.inr h) hb,h];rfl
  · by_cases h0:b=0
    · subst h0;rw [pow_zero' rfl];rfl
    · rw [pow_small (by omega) (by omega) (by omega),h];rfl
theorem pow_0 {a b:Int} (h:a=0) (hb:¬ b < 0) (h0:¬ b=0):powR a b=(0,[]):=by
  rw [pow_small (by omega) (by omega) (by omega),h];split <;> rfl
theorem pow_far {a:Int} (h:2 ≤ a∨a ≤ -2) {j:Nat} (hj:70 ≤ j):¬ inR (a ^ j):=by
  intro hr
  have h1:2 ^ j ≤ (a ^ j).natAbs:=by rw [Int.natAbs_pow];exact Nat.pow_le_pow_left (by omega) j
  have h2:2 ^ 70 ≤ 2 ^ j:=Nat.pow_le_pow_right (by decide) hj
  have h3:(2:Nat) ^ 70=1180591620717411303424:=by decide
  unfold inR at hr
  omega
theorem pow_end' {a b:Int} {j:Nat} (ha:2 ≤ a∨a ≤ -2) (h:inR (a ^ j)) (hj:(j:Int) ≤ b) (he:¬ (j:Int) < b∨¬ (j:Int) < 70):powR a b=(a ^ j,[]):=by
  by_cases h1:(j:Int)=b
  · exact pow_end h1 h
  · exact absurd h (pow_far ha (by omega))
theorem pow_fail {a b:Int} {j:Nat} (ha:2 ≤ a∨a ≤ -2) (h:¬ inR (a ^ (j + 1))) (hj:(j:Int) < b):powR a b=(0,fOver):=pow_over hj (by rw [← Int.pow_succ];exact h) ha
theorem yl6_ {o:Oper} {a:Act} {w:World} {t b:Nat} {c0 c1 c2 c3 c4 c5:Value} (ho:o.op=.load 30 (.tmp t)) (h:a.tmps[t]? = some (.pointer (some ⟨b,0,none⟩))) (hb:Blk w b 30 #[c0,c1,c2,c3,c4,c5]):(execOp a.eval o).run Try.prog w=.ok (.value (.agg #[c0,c1,c2,c3,c4,c5])) w:=by
  have z0:w.cell? ⟨b,0,none⟩=some c0:=hb.cell 0
  have z1:w.cell? ⟨b,1,none⟩=some c1:=hb.cell 1
  have z2:w.cell? ⟨b,2,none⟩=some c2:=hb.cell 2
  have z3:w.cell? ⟨b,3,none⟩=some c3:=hb.cell 3
  have z4:w.cell? ⟨b,4,none⟩=some c4:=hb.cell 4
  have z5:w.cell? ⟨b,5,none⟩=some c5:=hb.cell 5
  unfold execOp
  simp only [ho]
  go_simp
theorem hzero (w:World) (az:Option Addr) (cz:Nat):TmAt w.heap.size w zeroT az cz :=
  .mk _ _ _ (fun _=>none) (fun _=>0) (by decide) (by decide) (by decide) (by decide) (fun j x hj=>by simp [zeroT,Tm.args] at hj) (fun j x hj=>by simp [zeroT,Tm.args] at hj)
end Go.Proofs.Ytmgephleogiaoaa
