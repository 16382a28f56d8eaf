/-
  Joined texts (Tv23, Tv25, Tv26). No condition.
-/
import Derived.Test.YtjinmnekfhekpaaQMG
import Derived.Test.YtjinmnekfhekpaaQML
import Derived.Deep.RegionHeld3
import Derived.Deep.DeepCutAuto
namespace Go.Proofs.Ytjinmnekfhekpaa
open Go.RowKit Go.Maps
set_option linter.unusedVariables false
set_option linter.unusedSimpArgs false
theorem less_is:∀ x y:List UInt8,Op.bytesLess x y=decide (cmpB x y < 0):=by
  intro x;induction x with
  | nil=>intro y;cases y <;> simp [Op.bytesLess,cmpB]
  | cons a x ih =>
    intro y;cases y with
    | nil=>simp [Op.bytesLess,cmpB]
    | cons b y =>
      rw [Op.bytesLess,cmpB,ih y];have e1:(a < b)=(a.toNat < b.toNat):=by rw [UInt8.lt_iff_toNat_lt]
      by_cases h1:a.toNat < b.toNat
      · rw [if_pos h1];simp [e1,h1]
      · rw [if_neg h1];by_cases h2:b.toNat < a.toNat
        · rw [if_pos h2];have:(a == b)=false:=by simp;rintro rfl;omega
          simp [e1,h1,this]
        · rw [if_neg h2];have:a=b:=UInt8.toNat_inj.1 (by omega);simp [e1,h1,this]
theorem cmpB_vals (x y:List UInt8):cmpB x y=-1∨cmpB x y=0∨cmpB x y=1:=by
  induction x generalizing y with
  | nil=>cases y <;> simp [cmpB]
  | cons a x ih =>
    cases y with
    | nil=>simp [cmpB]
    | cons b y =>
      rw [cmpB];split
      · simp
      · split
        · simp
        · exact ih y
def RefO (B:Nat) (x y:Tm):Prop:=∀ (w:World) (a b:Option Addr) (c d:Nat),B ≤ w.heap.size→TmAt B w x a c→TmAt B w y b d →
  Calls Try.prog 56 #[tv x a c,tv y b d] w fun e w'=>e=.returned (.int .i64 (x.tree.cmp y.tree))∧Keep (fun g=>g < w.heap.size) w w'
theorem cmp_kinds {t u:T} (h:t.kind ≠ u.kind):t.cmp u=if t.kind < u.kind then -1 else 1:=by
  cases t <;> cases u <;> simp [T.kind] at h ⊢ <;> simp [T.cmp]
theorem Tm.kind_k {t:Tm} (h:t.ok=true):t.tree.kind=t.k:=(Tm.tree_ns h).2.2.2
theorem cmpL_go {x y:T} {xs ys:List T}:cmpL (x::xs) (y::ys)=or2 (x.cmp y) (cmpL xs ys):=by rw [cmpL]
set_option maxRecDepth 100000 in
set_option maxHeartbeats 4000000 in
theorem refOrder_step {B:Nat} {t u:Tm} (ht:t.ok=true) (hu:u.ok=true) (ih:t.k=4→u.k=4→∀ x ∈ t.args,∀ y ∈ u.args,RefO B x y):RefO B t u:=by
  intro w a b c d hB hT hU;have hk0:Keep (fun g=>g < w.heap.size) w ((w.alloc (tb t a c)).alloc (tb u b d)):=((Keep.refl _ w).alloc _).alloc _;have b1:=(Blk.new w 24 #[.int .i64 t.k,.string (str t.nm),.int .i64 t.i,.slice a t.args.length c]).alloc (tb u b d);have b2:=Blk.new (w.alloc (tb t a c)) 24 #[.int .i64 u.k,.string (str u.nm),.int .i64 u.i,.slice b u.args.length d];rw [World.size_alloc] at b2;obtain ⟨z,hz⟩:∃ z,z=t.tree.cmp u.tree:=⟨_,rfl⟩;rw [← hz];have hsign:=sign_any;obtain ⟨n,hn⟩:∃ n,t.args.length=n:=⟨_,rfl⟩;obtain ⟨m,hm⟩:∃ m,u.args.length=m:=⟨_,rfl⟩;have HK:=Lib.hid hk0;have HS:=Lib.hid hsign;have HIN:=Lib.hid (And.intro hT (And.intro hU hB));have HZ:=Lib.hid hz;have HOK:=Lib.hid (And.intro ht hu);have HIH:=Lib.hid ih;have HNM:=Lib.hid (And.intro hn hm);have kt:=Tm.ok_kind ht;have ku:=Tm.ok_kind hu;unfold tb at HK b1 b2;unfold tv;rw [hn] at HK b1 b2 ⊢;rw [hm] at HK b1 b2 ⊢;obtain ⟨sn,hsn⟩:∃ sn,str t.nm=sn:=⟨_,rfl⟩;obtain ⟨sm,hsm⟩:∃ sm,str u.nm=sm:=⟨_,rfl⟩;rw [hsn] at HK b1 b2 ⊢;rw [hsm] at HK b1 b2 ⊢;have HSN:=Lib.hid (And.intro hsn hsm);have HBX:=Lib.hid (And.intro b1 b2);clear hsn hsm b1 b2 hk0 hsign hT hU hz ht hu ih hn hm hB;by_cases e1:t.k=u.k
  · by_cases e2:t.k ≤ 2
    · have hfin:z=if t.i < u.i then -1 else if u.i < t.i then 1 else 0:=by
        rw [HZ.out];have hk:t.k=1∨t.k=2:=by omega
        rcases hk with h | h
        · rw [tree_1 h,tree_1 (by omega:u.k=1),T.cmp];rfl
        · rw [tree_2 h,tree_2 (by omega:u.k=2),T.cmp];rfl
      have HF:=Lib.hid hfin;have q1:((t.k:Int) != u.k)=false:=by simp [e1]
      have q2:((t.k:Int) ≤ 2):=e2;clear e1 kt ku hfin
      go_enter Try.func56,Try.ntmps56
      go_wp2_with (go_at_call 73;refine (HS.out _ _ _).mono ?_;rintro e w1 ⟨rfl,rfl⟩)
      all_goals go_ret
      all_goals exact ⟨by (rw [HF.out];first | (simp;done) | (simp;omega) | (simp [*];done) | (simp [*];omega) | (simp;repeat' split;all_goals first | rfl | omega) | (simp;intros;(repeat' split);all_goals first | rfl | omega)),HK.out⟩
    · have q1:((t.k:Int) != u.k)=false:=by simp [e1]
      have q2:¬ ((t.k:Int) ≤ 2):=e2;have hk:t.k=3∨t.k=4:=by omega
      rcases hk with hk | hk
      · have hku:u.k=3:=by omega
        have hfin:z=cmpB t.nm u.nm:=by
          rw [HZ.out,tree_3 hk,tree_3 hku,T.cmp]
        have HF:=Lib.hid hfin;have q3:((t.k:Int) == 4)=false:=by rw [hk];decide
        by_cases e3:t.nm=u.nm
        · obtain rfl:sn=sm:=by rw [← HSN.out.1,← HSN.out.2,e3]
          have HE3:=Lib.hid e3;clear e1 kt ku hfin hk hku e3
          go_enter Try.func56,Try.ntmps56
          go_wp2_with fail
          all_goals go_ret
          all_goals exact ⟨by (rw [HF.out,HE3.out,cmpB_self];first | rfl | simp),HK.out⟩
        · have q4:(sn.toList == sm.toList)=false:=by
            rw [← HSN.out.1,← HSN.out.2,ByteArray.toList_eq,ByteArray.toList_eq,str_data,str_data];simpa using e3
          have q5:¬ sn.toList=sm.toList:=by
            rw [← HSN.out.1,← HSN.out.2,ByteArray.toList_eq,ByteArray.toList_eq,str_data,str_data];exact e3
          have q6:Op.bytesLess sn.toList sm.toList=decide (cmpB t.nm u.nm < 0):=by
            rw [← HSN.out.1,← HSN.out.2,ByteArray.toList_eq,ByteArray.toList_eq,str_data,str_data];exact less_is _ _
          have hne:cmpB t.nm u.nm ≠ 0:=fun e=>e3 (cmpB_zero.1 e);rcases cmpB_vals t.nm u.nm with hv | hv | hv
          · rw [hv] at q6;have q7:Op.bytesLess sn.toList sm.toList=true:=by rw [q6];rfl
            have HV:=Lib.hid hv;clear e1 kt ku hfin hk hku hv hne q6 e3
            go_enter Try.func56,Try.ntmps56
            go_wp2_with (go_at_call 73;refine (HS.out _ _ _).mono ?_;rintro e w1 ⟨rfl,rfl⟩)
            all_goals go_ret
            all_goals exact ⟨by (rw [HF.out,HV.out];first | rfl | simp),HK.out⟩
          · exact absurd hv hne
          · rw [hv] at q6;have q7:Op.bytesLess sn.toList sm.toList=false:=by rw [q6];rfl
            have HV:=Lib.hid hv;clear e1 kt ku hfin hk hku hv hne q6 e3
            go_enter Try.func56,Try.ntmps56
            go_wp2_with (go_at_call 73;refine (HS.out _ _ _).mono ?_;rintro e w1 ⟨rfl,rfl⟩)
            all_goals go_ret
            all_goals exact ⟨by (rw [HF.out,HV.out];first | rfl | simp),HK.out⟩
      · have hku:u.k=4:=by omega
        obtain ⟨_,hn8,hokt,_⟩:=Tm.ok_args HOK.out.1 hk;obtain ⟨_,hm8,hoku,_⟩:=Tm.ok_args HOK.out.2 hku;rw [HNM.out.1] at hn8;rw [HNM.out.2] at hm8;have hfin:z=or2 (cmpI (n:Int) (m:Int)) (or2 (cmpB t.nm u.nm) (cmpL (t.args.map Tm.tree) (u.args.map Tm.tree))):=by
          rw [HZ.out,tree_4 hk,tree_4 hku,T.cmp,List.length_map,List.length_map,HNM.out.1,HNM.out.2]
        have q3:((t.k:Int) == 4)=true:=by rw [hk];decide
        by_cases e4:n=m
        · subst e4;by_cases e3:t.nm=u.nm
          · obtain rfl:sn=sm:=by rw [← HSN.out.1,← HSN.out.2,e3]
            have hfin2:z=cmpL ((t.args.map Tm.tree).drop 0) ((u.args.map Tm.tree).drop 0):=by
              rw [hfin,e3,cmpB_self,cmpI_self];simp [or2]
            have HF:=Lib.hid (And.intro hfin2 HK.out);have H48:=Lib.hid (And.intro hk hku);clear e1 kt ku hfin hfin2 hk hku e3 hokt hoku
            go_enter Try.func56,Try.ntmps56
            obtain ⟨W0,hW0⟩:∃ W0,W0=((w.alloc (.cells #[.int .i64 t.k,.string sn,.int .i64 t.i,.slice a n c] 24)).alloc (.cells #[.int .i64 u.k,.string sn,.int .i64 u.i,.slice b n d] 24)):=⟨_,rfl⟩;have HW0:=Lib.hid hW0;rw [← hW0] at HF HBX;clear hW0
            go_wp2_with fail
            rw [← HW0.out]
            go_loopw [5,6] (fun i' _ wr=>∃ k:Nat,k ≤ n∧i'=.int .i64 k∧z=cmpL ((t.args.map Tm.tree).drop k) ((u.args.map Tm.tree).drop k)∧Keep (fun g=>g < W0.heap.size) W0 wr) (fun i' _ _=>n - (intOf i').toNat)
            case atStart=>exact ⟨0,Nat.zero_le _,rfl,HF.out.1,Keep.refl _ _⟩
            case round =>
              obtain ⟨k,hkn,rfl,hzk,hkp⟩:=hrel;have b1:=HBX.out.1.keep hkp HBX.out.1.lt;have b2:=HBX.out.2.keep hkp HBX.out.2.lt;have p3:=b1.cell 3;have r3:=b2.cell 3;simp at p3 r3;have l1:=b1.lt;have l2:=b2.lt;clear b1 b2;have hzr:=hkp.size;have hkw:Keep (fun g=>g < w.heap.size) w wr:=by
                have h1:=HF.out.2;exact h1.trans (hkp.less (fun g hg=>by have:=h1.size;omega))
              have HKP:=Lib.hid (And.intro hkp hkw);by_cases hlk:k < n
              · obtain ⟨x,hx⟩:∃ x,t.args[k]? = some x:=⟨_,List.getElem?_eq_getElem (by rw [HNM.out.1];exact hlk)⟩;obtain ⟨y,hy⟩:∃ y,u.args[k]? = some y:=⟨_,List.getElem?_eq_getElem (by rw [HNM.out.2];exact hlk)⟩;obtain ⟨bx,ox,ax,cx,rfl,hbx,hTx,e0,e1,e2',e3⟩:=(HIN.out.1.keepX hkw (fun g hg=>by have:=HIN.out.2.2;omega)).arg hx;obtain ⟨by_,oy,ay,cy,rfl,hby,hTy,g0,g1,g2,g3⟩:=(HIN.out.2.1.keepX hkw (fun g hg=>by have:=HIN.out.2.2;omega)).arg hy;rw [← Nat.add_assoc] at e1 e2' e3 g1 g2 g3;have hzw:=hkw.size;have hbw:bx < wr.heap.size:=by have:=HIN.out.2.2;omega
                have hbw2:by_ < wr.heap.size:=by have:=HIN.out.2.2;omega
                rw [getElem?_tree _ _ hx,getElem?_tree _ _ hy,cmpL_go] at hzk;have hcall:=HIH.out H48.out.1 H48.out.2 x (List.mem_of_getElem? hx) y (List.mem_of_getElem? hy) wr.drew ax ay cx cy (by have:=HIN.out.2.2;show B ≤ wr.heap.size;omega) (hTx.keepX (X:=fun _=>True) ((Keep.refl _ wr).drew) (fun _ _=>trivial)) (hTy.keepX (X:=fun _=>True) ((Keep.refl _ wr).drew) (fun _ _=>trivial));unfold tv at hcall;have hall:∀ W,Keep (fun g=>g < wr.drew.heap.size) wr.drew W→∀ b o v,b < wr.heap.size→wr.cell? ⟨b,o,none⟩=some v→W.cell? ⟨b,o,none⟩=some v:=fun W hW b o v hb hv=>(World.cell?_of_block (a:=⟨b,o,none⟩) (hW.block b hb hb)).trans hv;generalize x.tree.cmp y.tree=r at hcall hzk;have HALL:=Lib.hid hall;have HCALL:=Lib.hid hcall;have HZK:=Lib.hid hzk;have hwk:IntKind.i64.wrap ((k:Int) + 1)=(k:Int) + 1:=by rw [IntKind.wrap_i64];omega
                have HCE:=Lib.hid (And.intro p3 (And.intro r3 (And.intro e0 (And.intro e1 (And.intro e2' (And.intro e3 (And.intro g0 (And.intro g1 (And.intro g2 g3)))))))));clear hall hcall hzk hkp hkw hx hy hTx hTy hbx hby
                go_wp2_with fail
                go_region_held3 (fun w'=>w'.cell? ⟨w.heap.size,3,none⟩=some (.slice (some ⟨bx,ox,none⟩) n c)∧w'.cell? ⟨w.heap.size + 1,3,none⟩=some (.slice (some ⟨by_,oy,none⟩) n d)∧w'.cell? ⟨bx,ox + k * 4,none⟩=some (.int .i64 x.k)∧w'.cell? ⟨bx,ox + k * 4 + 1,none⟩=some (.string (str x.nm))∧w'.cell? ⟨bx,ox + k * 4 + 2,none⟩=some (.int .i64 x.i)∧w'.cell? ⟨bx,ox + k * 4 + 3,none⟩=some (.slice ax x.args.length cx)∧w'.cell? ⟨by_,oy + k * 4,none⟩=some (.int .i64 y.k)∧w'.cell? ⟨by_,oy + k * 4 + 1,none⟩=some (.string (str y.nm))∧w'.cell? ⟨by_,oy + k * 4 + 2,none⟩=some (.int .i64 y.i)∧w'.cell? ⟨by_,oy + k * 4 + 3,none⟩=some (.slice ay y.args.length cy)) (first | with_reducible exact ⟨p3,r3,e0,e1,e2',e3,g0,g1,g2,g3⟩ | exact ⟨p3,r3,e0,e1,e2',e3,g0,g1,g2,g3⟩)
                  (first
                    | (go_at_call 56;refine HCALL.out.mono ?_;rintro e w3 ⟨rfl,k3⟩;clear p3 r3 e0 e1 e2' e3 g0 g1 g2 g3;have p3:=HALL.out _ k3 _ _ _ l1 HCE.out.1;have r3:=HALL.out _ k3 _ _ _ l2 HCE.out.2.1;have e0:=HALL.out _ k3 _ _ _ hbw HCE.out.2.2.1;have e1:=HALL.out _ k3 _ _ _ hbw HCE.out.2.2.2.1;have e2':=HALL.out _ k3 _ _ _ hbw HCE.out.2.2.2.2.1;have e3:=HALL.out _ k3 _ _ _ hbw HCE.out.2.2.2.2.2.1;have g0:=HALL.out _ k3 _ _ _ hbw2 HCE.out.2.2.2.2.2.2.1;have g1:=HALL.out _ k3 _ _ _ hbw2 HCE.out.2.2.2.2.2.2.2.1;have g2:=HALL.out _ k3 _ _ _ hbw2 HCE.out.2.2.2.2.2.2.2.2.1;have g3:=HALL.out _ k3 _ _ _ hbw2 HCE.out.2.2.2.2.2.2.2.2.2;have K3:=Lib.hid k3;clear k3))
                clear p3 r3 e0 e1 e2' e3 g0 g1 g2 g3;have hk3:Keep (fun g=>g < W0.heap.size) W0 w3:=HKP.out.1.trans ((⟨K3.out.os,K3.out.tape,K3.out.output,K3.out.size,K3.out.block⟩:Keep (fun g=>g < wr.heap.size) wr w3).less (fun g hg=>Nat.lt_of_lt_of_le hg hzr));have HK3:=Lib.hid (And.intro hk3 (HF.out.2.trans (hk3.less (fun g hg=>Nat.lt_of_lt_of_le hg HF.out.2.size))));clear hk3;by_cases hr:r=0
                · subst hr;have hz2:=HZK.out;rw [or2,if_pos rfl] at hz2;have HZ2:=Lib.hid hz2;clear hz2
                  go_wp2_with fail
                  go_roundw
                  case rel=>exact ⟨k + 1,hlk,by go_num,HZ2.out,HK3.out.1⟩
                  case measure=>simp [intOf];omega
                · have hz2:=HZK.out;rw [or2,if_neg hr] at hz2;have HZ2:=Lib.hid hz2;clear hz2;have hrb:((r:Int) != 0)=true:=by simpa using hr
                  have HR0:=Lib.hid hr;clear hr
                  go_wp2_with fail
                  all_goals go_ret
                  all_goals exact ⟨by (rw [HZ2.out];first | rfl | simp),HK3.out.2⟩
              · obtain rfl:k=n:=by omega
                have hz0:z=0:=by
                  rw [hzk,List.drop_of_length_le (by rw [List.length_map,HNM.out.1];exact Nat.le_refl _),List.drop_of_length_le (by rw [List.length_map,HNM.out.2];exact Nat.le_refl _),cmpL]
                have HZ0:=Lib.hid hz0;clear hzk hz0 hkp hkw
                go_wp2_with fail
                all_goals go_ret
                all_goals exact ⟨by (rw [HZ0.out];first | rfl | simp),HKP.out.2⟩
          · have q4:(sn.toList == sm.toList)=false:=by
              rw [← HSN.out.1,← HSN.out.2,ByteArray.toList_eq,ByteArray.toList_eq,str_data,str_data];simpa using e3
            have q5:¬ sn.toList=sm.toList:=by
              rw [← HSN.out.1,← HSN.out.2,ByteArray.toList_eq,ByteArray.toList_eq,str_data,str_data];exact e3
            have q6:Op.bytesLess sn.toList sm.toList=decide (cmpB t.nm u.nm < 0):=by
              rw [← HSN.out.1,← HSN.out.2,ByteArray.toList_eq,ByteArray.toList_eq,str_data,str_data];exact less_is _ _
            have hne:cmpB t.nm u.nm ≠ 0:=fun e=>e3 (cmpB_zero.1 e);have hfin2:z=cmpB t.nm u.nm:=by
              rw [hfin,cmpI_self,or2,if_pos rfl,or2,if_neg hne]
            have HF:=Lib.hid hfin2;rcases cmpB_vals t.nm u.nm with hv | hv | hv
            · rw [hv] at q6;have q7:Op.bytesLess sn.toList sm.toList=true:=by rw [q6];rfl
              have HV:=Lib.hid hv;clear e1 kt ku hfin hfin2 hk hku hv hne q6 e3
              go_enter Try.func56,Try.ntmps56
              go_wp2_with (go_at_call 73;refine (HS.out _ _ _).mono ?_;rintro e w1 ⟨rfl,rfl⟩)
              all_goals go_ret
              all_goals exact ⟨by (rw [HF.out,HV.out];first | rfl | simp),HK.out⟩
            · exact absurd hv hne
            · rw [hv] at q6;have q7:Op.bytesLess sn.toList sm.toList=false:=by rw [q6];rfl
              have HV:=Lib.hid hv;clear e1 kt ku hfin hfin2 hk hku hv hne q6 e3
              go_enter Try.func56,Try.ntmps56
              go_wp2_with (go_at_call 73;refine (HS.out _ _ _).mono ?_;rintro e w1 ⟨rfl,rfl⟩)
              all_goals go_ret
              all_goals exact ⟨by (rw [HF.out,HV.out];first | rfl | simp),HK.out⟩
        · have hfin2:z=if (n:Int) < m then -1 else 1:=by
            rw [hfin];have h1:cmpI (n:Int) (m:Int)=if (n:Int) < m then -1 else 1:=by
              unfold cmpI;split
              · rfl
              · rw [if_pos (by omega)]
            rw [h1,or2,if_neg (by split <;> decide)]
          have HF:=Lib.hid hfin2;have q5:((n:Int) != m)=true:=by simp;omega
          have HE4:=Lib.hid e4;clear e1 kt ku hfin hfin2 hk hku e4;by_cases hlt:(n:Int) < m
          · go_enter Try.func56,Try.ntmps56
            go_wp2_with (go_at_call 73;refine (HS.out _ _ _).mono ?_;rintro e w1 ⟨rfl,rfl⟩)
            all_goals go_ret
            all_goals exact ⟨by (rw [HF.out];first | (simp;omega) | (simp [hlt];done) | (simp;done)),HK.out⟩
          · go_enter Try.func56,Try.ntmps56
            go_wp2_with (go_at_call 73;refine (HS.out _ _ _).mono ?_;rintro e w1 ⟨rfl,rfl⟩)
            all_goals go_ret
            all_goals exact ⟨by (rw [HF.out];first | (simp;omega) | (simp [hlt];done) | (simp;done)),HK.out⟩
  · have hfin:z=if t.k < u.k then -1 else 1:=by
      rw [HZ.out];rw [cmp_kinds (by rw [Tm.kind_k HOK.out.1,Tm.kind_k HOK.out.2];exact e1),Tm.kind_k HOK.out.1,Tm.kind_k HOK.out.2]
    have HF:=Lib.hid hfin;have q1:((t.k:Int) != u.k)=true:=by simpa using e1
    clear e1 kt ku hfin
    go_enter Try.func56,Try.ntmps56
    go_wp2_with (go_at_call 73;refine (HS.out _ _ _).mono ?_;rintro e w1 ⟨rfl,rfl⟩)
    all_goals go_ret
    all_goals exact ⟨by (rw [HF.out];first | (simp;done) | (simp;omega) | (simp [*];done) | (simp [*];omega) | (simp;repeat' split;all_goals first | rfl | omega) | (simp;intros;(repeat' split);all_goals first | rfl | omega)),HK.out⟩
theorem refOrder_any (B:Nat):∀ t:Tm,t.ok=true→∀ u:Tm,u.ok=true→RefO B t u:=by
  intro t;induction t using Tm.ind with
  | h kd nm i args ih =>
    intro ht u hu;exact refOrder_step ht hu (fun h4 u4 x hx y hy=>ih x hx ((Tm.ok_args ht h4).2.2.1 x hx) y ((Tm.ok_args hu u4).2.2.1 y hy))
set_option maxRecDepth 100000 in
set_option maxHeartbeats 4000000 in
theorem refSame_any {w:World} {t u:Tm} {a b:Option Addr} {c d:Nat} (hT:TmAt w.heap.size w t a c) (hU:TmAt w.heap.size w u b d) (ht:t.ok=true) (hu:u.ok=true) :
    Calls Try.prog 15 #[tv t a c,tv u b d] w fun e w'=>e=.returned (.bool (t.tree.cmp u.tree == 0))∧Keep (fun g=>g < w.heap.size) w w':=by
  have k0:Keep (fun g=>g < w.heap.size) w ((w.alloc (tb t a c)).alloc (tb u b d)):=((Keep.refl _ w).alloc _).alloc _;have hc:=refOrder_any w.heap.size t ht u hu ((w.alloc (tb t a c)).alloc (tb u b d)) a b c d (by simp;omega) (hT.keepX k0 (fun _ h=>h)) (hU.keepX k0 (fun _ h=>h));have HC:=Lib.hid hc;have HK:=Lib.hid k0;clear hc k0 hT hU;unfold tv tb at HC;unfold tb at HK;unfold tv;generalize t.tree.cmp u.tree=r at HC ⊢
  go_enter Try.func15,Try.ntmps15
  go_wp2_with fail
  refine HC.out.mono ?_;rintro e w1 ⟨rfl,k1⟩;have HE:=Lib.hid (HK.out.onto k1);clear k1
  go_wp2_with fail
  go_ret
  exact ⟨rfl,HE.out⟩
set_option maxRecDepth 100000 in
set_option maxHeartbeats 4000000 in
theorem x_any (w:World) (v:Int):Calls Try.prog 34 #[.int .i64 v] w fun e w'=>e=.returned (tv (.node 1 [] v []) none 0)∧Keep (fun g=>g < w.heap.size) w w':=by
  have hb2:=Blk.new w 24 #[.int .i64 0,.string ⟨#[]⟩,.int .i64 0,.slice none 0 0];have hk0:Keep (fun k=>k < w.heap.size) w (w.alloc zb):=(Keep.refl _ w).alloc _;have hc:=refV_any (w.alloc zb) v;show Calls _ _ _ _ (fun e w'=>e=.returned (.agg #[.int .i64 1,.string ⟨#[]⟩,.int .i64 v,.slice none 0 0])∧_);have es:str []=(⟨#[]⟩:ByteArray):=rfl;unfold tv at hc;simp only [Tm.k,Tm.nm,Tm.i,Tm.args,es,List.length_nil] at hc;have HC:=Lib.hid hc;have HK:=Lib.hid (And.intro hb2 hk0);clear hc hb2 hk0 es
  go_enter Try.func34,Try.ntmps34
  go_wp2_with fail
  refine HC.out.mono ?_;rintro e w1 ⟨rfl,k1⟩;obtain ⟨hb2,hk0⟩:=HK.out;have hb1:=hb2.keep k1 (by simp);have l1:=hb1.lt;have f0:=hb1.frozen 0;have f1:=hb1.frozen 1;have f2:=hb1.frozen 2;have f3:=hb1.frozen 3;have d0:=hb1.cell 0;have d1:=hb1.cell 1;have d2:=hb1.cell 2;have d3:=hb1.cell 3;simp at d0 d1 d2 d3;have hbf:=hb1.set4 (y0:=.int .i64 1) (y1:=.string ⟨#[]⟩) (y2:=.int .i64 v) (y3:=.slice none 0 0);have g0:=hbf.cell 0;have g1:=hbf.cell 1;have g2:=hbf.cell 2;have g3:=hbf.cell 3;simp at g0 g1 g2 g3;have hkf:=(hk0.onto k1).trans ((Keep.refl (fun g=>g ≠ w.heap.size) w1).set4 (g:=w.heap.size) (y0:=.int .i64 1) (y1:=.string ⟨#[]⟩) (y2:=.int .i64 v) (y3:=.slice none 0 0) (o:=0) (fun h=>h rfl) |>.less (fun k (hk:k < w.heap.size)=>by omega));have HF:=Lib.hid hkf;clear hkf hbf hb1 hb2 hk0 k1 HC HK
  go_wp2_with fail
  exact bodyPost_ret (v:=.agg #[.int .i64 1,.string ⟨#[]⟩,.int .i64 v,.slice none 0 0]) (by simp [results,Try.results34,go_sem,g0,g1,g2,g3]) rfl ⟨rfl,HF.out⟩
theorem exA (nm:List UInt8) (W:World):Calls Try.prog 32 #[.string (str nm)] W fun e w'=>e=.returned (.agg #[.int .i64 3,.string (str nm),.int .i64 0,.slice none 0 0])∧Keep (fun g=>g < W.heap.size) W w':=refA_any W nm
theorem exX (v:Int) (W:World):Calls Try.prog 34 #[.int .i64 v] W fun e w'=>e=.returned (.agg #[.int .i64 1,.string ⟨#[]⟩,.int .i64 v,.slice none 0 0])∧Keep (fun g=>g < W.heap.size) W w':=x_any W v
theorem exN (v:Int) (W:World):Calls Try.prog 31 #[.int .i64 v] W fun e w'=>e=.returned (.agg #[.int .i64 2,.string ⟨#[]⟩,.int .i64 v,.slice none 0 0])∧Keep (fun g=>g < W.heap.size) W w':=refN_any W v
theorem exC (nm:List UInt8) (ts:List Tm) (a:Option Addr) (c:Nat) (W:World):Calls Try.prog 30 #[.string (str nm),.slice a ts.length c] W fun e w'=>e=.returned (.agg #[.int .i64 4,.string (str nm),.int .i64 0,.slice a ts.length c])∧Keep (fun g=>g < W.heap.size) W w':=refC_any W nm ts a c
def lf0 (t:Tm):TP:=(t,none,0)
theorem tm_comp {w:World} {b c:Nat} {nm:List UInt8} {ts:List Tm} (hb:Blk w b 24 ((ts.map lf0).flatMap TP.cells).toArray) (hs:∀ t ∈ ts,t.args=[]∧(Lit.int .i64 t.k).wf=true∧(Lit.int .i64 t.i).wf=true∧t.nm.length ≤ maxLen) (hn:nm.length ≤ maxLen) (hl:ts.length=c) (h8:ts.length ≤ 8) :
    TmAt w.heap.size w (xC nm ts) (some ⟨b,0,none⟩) c:=by
  have h:Fr 0 (fun _=>False) w 0 w.heap.size (.node 4 nm 0 ((ts.map lf0).map (·.1))) (some ⟨b,0,none⟩) c:=by
    refine .node (rest:=[]) (by decide) (by decide) hn (by rw [List.length_map];unfold maxLen;omega) (Nat.zero_le _) hb.lt (fun h=>h) (by rw [List.append_nil];exact hb) ⟨by rw [List.length_map];omega,by unfold maxLen;omega,by rw [List.append_nil,flat_len,List.length_map,hl]⟩ fun j p hp=>?_;rw [List.getElem?_map] at hp;obtain ⟨t,ht,rfl⟩:=Option.map_eq_some_iff.1 hp;obtain ⟨h1,h2,h3,h4⟩:=hs t (List.mem_of_getElem? ht);cases t with
    | node k nm' i args =>
      change args=[] at h1;subst h1;exact .old (tm_leaf h2 h3 h4) (Nat.zero_le _)
  have e:(ts.map lf0).map (·.1)=ts:=by
    rw [List.map_map];have:((fun x:TP=>x.1) ∘ lf0)=id:=by funext x;rfl
    rw [this,List.map_id]
  rw [e] at h;exact h.at_ (Nat.zero_le _)
abbrev xN (n:Int):Tm:=.node 2 [] n []
abbrev F7:Tm:=xC [102] [xV 7,xV 3,xV 7]
abbrev RR:Tm:=xC [102] [xV 1,xV 2,xV 1]
abbrev LL:Tm:=xC [46] [xA [97],xC [46] [xA [98],xA [91,93]]]
abbrev FV:Tm:=xC [102] [xV 4,xV 5,xV 4]
theorem cl_rn:rnV F7 1=(RR,3,0):=by kernel_rfl
theorem cl_ls:lsV [xA [97],xA [98]] (xA [91,93])=(LL,0):=by kernel_rfl
theorem cl_it:itV LL=([xA [97],xA [98]],xA [91,93]):=by kernel_rfl
theorem cl_o1:ordV (xV 9) (xN 3)=-1:=by kernel_rfl
theorem cl_o2:ordV (xC [103] [xA [97]]) (xC [102] [xA [97],xA [97]])=-1:=by kernel_rfl
theorem cl_sz:LL.size=5:=by kernel_rfl
theorem cl_dp:LL.depth=3:=by kernel_rfl
theorem cl_va:vaV RR=[1,2]:=by kernel_rfl
theorem cl_sm:sameV RR RR=true:=by kernel_rfl
theorem cl_ck:RR.right=true:=by kernel_rfl
theorem cl_vt:vtV RR FV=true:=by kernel_rfl
theorem cl_rf:(RR.tree.cmp RR.tree == 0)=true:=by kernel_rfl
set_option maxRecDepth 1000000 in
set_option maxHeartbeats 8000000 in
theorem r8_any {W21:World} {ba bb:Nat} (hHS:∀ W,Keep (fun g=>g < W21.heap.size) W21 W→W.cell? ⟨ba,0,none⟩=some (.int .i64 3)∧W.cell? ⟨ba,1,none⟩=some (.string ⟨#[97]⟩)∧W.cell? ⟨ba,2,none⟩=some (.int .i64 0)∧W.cell? ⟨ba,3,none⟩=some (.slice none 0 0)∧W.cell? ⟨bb,0,none⟩=some (.int .i64 3)∧W.cell? ⟨bb,1,none⟩=some (.string ⟨#[98]⟩)∧W.cell? ⟨bb,2,none⟩=some (.int .i64 0)∧W.cell? ⟨bb,3,none⟩=some (.slice none 0 0)) {Q:Exit→Act→World→Prop} {u0 u3 u4 u5 u6 u7 u8 u9 u10 u11 u12 u13 u14 u15 u16 u17 u18 u19 u20 u21 u22 u23 u24 u25 u26 u27 u28 u29 u30 u31 u32 u33 u34 u35 u36 u37 u38 u39 u40 u41 u42 u43 u44 u45 u46 u47 u48 u49 u50 u51 u52 u53 u54 u55 u56 u57 u58 u59 u60 u61 u62 u63 u64 u65 u66 u67 u68 u69 u70 u71 u72 u73 u74 u75 u76 u77 u78 u79 u80 u81 u82 u83 u84 u85 u86 u87 u88 u89 u90 u91 u92 u93 u94 u95 u96 u97 u98 u99 u100 u101 u102 u103 u104 u105 u106 u107 u108 u109 u110 u111 u112 u113 u114 u115 u116 u117 u118 u119 u120 u121 u122 u123 u124 u125 u126 u127 u128 u129 u130 u131 u132 u133 u134 u135 u136 u137 u138 u139 u140 u141 u142 u143 u144 u145 u146 u147 u148 u149 u150 u151 u152 u153 u154 u155 u156 u157 u158 u159 u160 u161 u162 u163 u164 u165 u166 u167 u168 u169 u170 u171 u172 u173 u174 u175 u176 u177 u178 u179 u180 u181 u182 u183 u184 u185 u186 u187 u188 u189 u190 u191 u192 u193 u194 u195 u196 u197 u198 u199 u200 u201 u202 u203 u204 u205 u206 u207 u208 u209 u210 u211 u212 u213 u214:Value}
    (hQ:∀ (bl:Nat) (al:Option Addr) (cl:Nat) (W:World) (s129 s130 s131 s132 s133 s134 s135 s136:Value),Keep (fun g=>g < W21.heap.size) W21 W→W21.heap.size ≤ bl→Blk W bl 24 #[.int .i64 4,.string ⟨#[46]⟩,.int .i64 0,.slice al 2 cl]→TmAt W.heap.size W LL al cl→Q .normal { tmps:=#[u0,.pointer (some ⟨ba,0,none⟩),.pointer (some ⟨bb,0,none⟩),u3,u4,u5,u6,u7,u8,u9,u10,u11,u12,u13,u14,.pointer (some ⟨bl,0,none⟩),.int .i64 0,u17,u18,u19,u20,u21,u22,u23,u24,u25,u26,u27,u28,u29,u30,u31,u32,u33,u34,u35,u36,u37,u38,u39,u40,u41,u42,u43,u44,u45,u46,u47,u48,u49,u50,u51,u52,u53,u54,u55,u56,u57,u58,u59,u60,u61,u62,u63,u64,u65,u66,u67,u68,u69,u70,u71,u72,u73,u74,u75,u76,u77,u78,u79,u80,u81,u82,u83,u84,u85,u86,u87,u88,u89,u90,u91,u92,u93,u94,u95,u96,u97,u98,u99,u100,u101,u102,u103,u104,u105,u106,u107,u108,u109,u110,u111,u112,u113,u114,u115,u116,u117,u118,u119,u120,u121,u122,u123,u124,u125,u126,u127,u128,s129,s130,s131,s132,s133,s134,s135,s136,u137,u138,u139,u140,u141,u142,u143,u144,u145,u146,u147,u148,u149,u150,u151,u152,u153,u154,u155,u156,u157,u158,u159,u160,u161,u162,u163,u164,u165,u166,u167,u168,u169,u170,u171,u172,u173,u174,u175,u176,u177,u178,u179,u180,u181,u182,u183,u184,u185,u186,u187,u188,u189,u190,u191,u192,u193,u194,u195,u196,u197,u198,u199,u200,u201,u202,u203,u204,u205,u206,u207,u208,u209,u210,u211,u212,u213,u214],defers:=[] } W):(Code.region 8 #[{ dst:=some 130,op:=Go.Op.load 24 (Go.Operand.tmp 1),type:=24,pos := "law.go:24",after:=#[],guard:=none },{ dst:=some 131,op:=Go.Op.load 24 (Go.Operand.tmp 2),type:=24,pos := "law.go:24",after:=#[],guard:=none },{ dst:=some 132,op:=Go.Op.buildSlice 22 2 #[(0,Go.Operand.tmp 130),(1,Go.Operand.tmp 131)],type:=22,pos := "law.go:24",after:=#[{ on:=0,ground:=Go.Ground.data },{ on:=1,ground:=Go.Ground.data }],guard:=none },{ dst:=some 133,op:=Go.Op.call { callee:=Go.Callee.value (Go.Operand.func 32),args:=#[Go.Operand.const (Go.Value.string { data:=#[91,93] })],argTypes:=#[9] },type:=24,pos := "law.go:24",after:=#[],guard:=none },{ dst:=some 134,op:=Go.Op.call { callee:=Go.Callee.value (Go.Operand.func 16),args:=#[Go.Operand.tmp 132,Go.Operand.tmp 133],argTypes:=#[22,24] },type:=32,pos := "law.go:24",after:=#[{ on:=2,ground:=Go.Ground.data },{ on:=3,ground:=Go.Ground.data },{ on:=3,ground:=Go.Ground.chain }],guard:=none },{ dst:=some 129,op:=Go.Op.move (Go.Operand.tmp 134),type:=32,pos := "law.go:24",after:=#[{ on:=4,ground:=Go.Ground.data }],guard:=none },{ dst:=some 135,op:=Go.Op.extract (Go.Operand.tmp 129) 0,type:=24,pos := "law.go:24",after:=#[{ on:=5,ground:=Go.Ground.data }],guard:=none },{ dst:=some 136,op:=Go.Op.extract (Go.Operand.tmp 129) 1,type:=31,pos := "law.go:24",after:=#[{ on:=5,ground:=Go.Ground.data },{ on:=9,ground:=Go.Ground.gcOnly Go.Departure.lateStores }],guard:=none },{ dst:=some 15,op:=Go.Op.alloc 24,type:=0,pos := "law.go:24",after:=#[],guard:=none },{ dst:=none,op:=Go.Op.store 24 (Go.Operand.tmp 15) (Go.Operand.tmp 135),type:=0,pos := "law.go:24",after:=#[{ on:=8,ground:=Go.Ground.data },{ on:=6,ground:=Go.Ground.data },{ on:=4,ground:=Go.Ground.chain },{ on:=0,ground:=Go.Ground.phase },{ on:=1,ground:=Go.Ground.phase },{ on:=2,ground:=Go.Ground.phase },{ on:=3,ground:=Go.Ground.phase },{ on:=4,ground:=Go.Ground.phase },{ on:=5,ground:=Go.Ground.phase },{ on:=6,ground:=Go.Ground.phase },{ on:=7,ground:=Go.Ground.textOnly Go.Departure.lateStores },{ on:=8,ground:=Go.Ground.phase }],guard:=none },{ dst:=some 16,op:=Go.Op.assign (Go.Operand.tmp 136),type:=31,pos := "law.go:24",after:=#[{ on:=7,ground:=Go.Ground.data },{ on:=9,ground:=Go.Ground.chain },{ on:=0,ground:=Go.Ground.phase },{ on:=1,ground:=Go.Ground.phase },{ on:=2,ground:=Go.Ground.phase },{ on:=3,ground:=Go.Ground.phase },{ on:=4,ground:=Go.Ground.phase },{ on:=5,ground:=Go.Ground.phase },{ on:=6,ground:=Go.Ground.phase },{ on:=7,ground:=Go.Ground.phase },{ on:=8,ground:=Go.Ground.phase },{ on:=9,ground:=Go.Ground.phase }],guard:=none }] true).wp Try.prog Q { tmps:=#[u0,.pointer (some ⟨ba,0,none⟩),.pointer (some ⟨bb,0,none⟩),u3,u4,u5,u6,u7,u8,u9,u10,u11,u12,u13,u14,u15,u16,u17,u18,u19,u20,u21,u22,u23,u24,u25,u26,u27,u28,u29,u30,u31,u32,u33,u34,u35,u36,u37,u38,u39,u40,u41,u42,u43,u44,u45,u46,u47,u48,u49,u50,u51,u52,u53,u54,u55,u56,u57,u58,u59,u60,u61,u62,u63,u64,u65,u66,u67,u68,u69,u70,u71,u72,u73,u74,u75,u76,u77,u78,u79,u80,u81,u82,u83,u84,u85,u86,u87,u88,u89,u90,u91,u92,u93,u94,u95,u96,u97,u98,u99,u100,u101,u102,u103,u104,u105,u106,u107,u108,u109,u110,u111,u112,u113,u114,u115,u116,u117,u118,u119,u120,u121,u122,u123,u124,u125,u126,u127,u128,u129,u130,u131,u132,u133,u134,u135,u136,u137,u138,u139,u140,u141,u142,u143,u144,u145,u146,u147,u148,u149,u150,u151,u152,u153,u154,u155,u156,u157,u158,u159,u160,u161,u162,u163,u164,u165,u166,u167,u168,u169,u170,u171,u172,u173,u174,u175,u176,u177,u178,u179,u180,u181,u182,u183,u184,u185,u186,u187,u188,u189,u190,u191,u192,u193,u194,u195,u196,u197,u198,u199,u200,u201,u202,u203,u204,u205,u206,u207,u208,u209,u210,u211,u212,u213,u214],defers:=[] } W21:=by
  have KS:=Lib.hid hHS;have hE:=exA [91,93];rw [show str [91,93]=(⟨#[91,93]⟩:ByteArray) from rfl] at hE;have HNIL:=Lib.hid hE;have HQ:=Lib.hid hQ;clear hHS hE hQ;have hL:∀ (W:World) (b:Nat),Blk W b 24 #[.int .i64 3,.string ⟨#[97]⟩,.int .i64 0,.slice none 0 0,.int .i64 3,.string ⟨#[98]⟩,.int .i64 0,.slice none 0 0]→Calls Try.prog 16 #[.slice (some ⟨b,0,none⟩) 2 2,.agg #[.int .i64 3,.string ⟨#[91,93]⟩,.int .i64 0,.slice none 0 0]] W fun e w'=>∃ a' c',e=.returned (.tuple #[.agg #[.int .i64 4,.string ⟨#[46]⟩,.int .i64 0,.slice a' 2 c'],.int .i64 0])∧Fr 0 (fun _=>False) w' W.heap.size w'.heap.size LL a' c'∧Keep (fun g=>g < W.heap.size) W w':=fun W b hb=>by
    have h:=List_any (w:=W) (a:=some ⟨b,0,none⟩) (ps:=[(xA [97],none,0),(xA [98],none,0)]) (cap:=2) (t:=xA [91,93]) (b:=none) (d:=0) (fun j p hj=>by
      have hl:=hb.lt
      match j,hj with
      | 0,hj=>cases hj;exact ⟨⟨b,0,rfl,hl,fun f v hv=>by rw [hb.cell];have:=get_lt' hv;match f,this,hv with | 0,_,hv=>exact hv | 1,_,hv=>exact hv | 2,_,hv=>exact hv | 3,_,hv=>exact hv⟩,(tm_leaf (by decide) (by decide) (by decide))⟩
      | 1,hj=>cases hj;exact ⟨⟨b,0,rfl,hl,fun f v hv=>by rw [hb.cell];have:=get_lt' hv;match f,this,hv with | 0,_,hv=>exact hv | 1,_,hv=>exact hv | 2,_,hv=>exact hv | 3,_,hv=>exact hv⟩,(tm_leaf (by decide) (by decide) (by decide))⟩
      | j + 2,hj=>simp at hj) (tm_leaf (by decide) (by decide) (by decide)) (by decide) (fun g off h=>by cases h;exact hb.lt)
    simp only [List.map_cons,List.map_nil] at h;rw [cl_ls] at h;exact h
  have HL:=Lib.hid hL;clear hL;have K21':=Lib.hid (Keep.refl (fun g=>g < W21.heap.size) W21);have KD21:=Lib.hid K21'.out.drew;have TOK7:True:=trivial
  go_region_held3 (fun w'=>w'.cell? ⟨ba,0,none⟩=some (.int .i64 3)∧w'.cell? ⟨ba,1,none⟩=some (.string ⟨#[97]⟩)∧w'.cell? ⟨ba,2,none⟩=some (.int .i64 0)∧w'.cell? ⟨ba,3,none⟩=some (.slice none 0 0)∧w'.cell? ⟨bb,0,none⟩=some (.int .i64 3)∧w'.cell? ⟨bb,1,none⟩=some (.string ⟨#[98]⟩)∧w'.cell? ⟨bb,2,none⟩=some (.int .i64 0)∧w'.cell? ⟨bb,3,none⟩=some (.slice none 0 0)) (first | with_reducible exact KS.out _ KD21.out | with_reducible exact KS.out _ (K21'.out.alloc _).drew | with_reducible exact KS.out _ ((K21'.out.alloc _).alloc _).drew | with_reducible exact KS.out _ K22.out | with_reducible exact KS.out _ (K22.out.alloc _) | with_reducible exact KS.out _ ((K22.out.alloc _).alloc _) | with_reducible exact KS.out _ K23.out | with_reducible exact KS.out _ (K23.out.alloc _) | with_reducible exact KS.out _ ((K23.out.alloc _).alloc _) | (refine KS.out _ ?_;exact ((((K23.out.setCell (p:=⟨_,0,none⟩) (Nat.not_lt.2 HXz.out.2) _).setCell (p:=⟨_,1,none⟩) (Nat.not_lt.2 HXz.out.2) _).setCell (p:=⟨_,2,none⟩) (Nat.not_lt.2 HXz.out.2) _).setCell (p:=⟨_,3,none⟩) (Nat.not_lt.2 HXz.out.2) _)))
    (first
        | (have tok:=TOK7;go_at_call 32;with_reducible refine (HNIL.out (W21.drew)).mono ?_;rintro e w22 ⟨rfl,k22⟩;have K22:=Lib.hid (KD21.out.onto k22);clear TOK7 tok k22;have TOK00:True:=trivial)
        | (have tok:=TOK7;go_at_call 32;with_reducible refine (HNIL.out ((W21.alloc (.cells #[.int .i64 3,.string ⟨#[97]⟩,.int .i64 0,.slice none 0 0,.int .i64 3,.string ⟨#[98]⟩,.int .i64 0,.slice none 0 0] 24)).drew)).mono ?_;rintro e w22 ⟨rfl,k22⟩;have K22:=Lib.hid ((K21'.out.alloc _).drew.onto k22);have HBq:Hid (Blk w22 (W21.heap.size) 24 #[.int .i64 3,.string ⟨#[97]⟩,.int .i64 0,.slice none 0 0,.int .i64 3,.string ⟨#[98]⟩,.int .i64 0,.slice none 0 0]):=Lib.hid (((Blk.new W21 24 #[.int .i64 3,.string ⟨#[97]⟩,.int .i64 0,.slice none 0 0,.int .i64 3,.string ⟨#[98]⟩,.int .i64 0,.slice none 0 0]).drew).keep k22 (by (try simp [World.drew]);(try omega)));clear TOK7 tok k22;have TOK10:True:=trivial)
        | (have tok:=TOK7;go_at_call 32;with_reducible refine (HNIL.out ((W21.alloc (.cells #[.int .i64 0,.string ⟨#[]⟩,.int .i64 0,.slice none 0 0] 24)).drew)).mono ?_;rintro e w22 ⟨rfl,k22⟩;have K22:=Lib.hid ((K21'.out.alloc _).drew.onto k22);have HXq:Hid (Blk w22 (W21.heap.size) 24 #[.int .i64 0,.string ⟨#[]⟩,.int .i64 0,.slice none 0 0]∧W21.heap.size ≤ W21.heap.size):=Lib.hid ⟨((Blk.new W21 24 #[.int .i64 0,.string ⟨#[]⟩,.int .i64 0,.slice none 0 0]).drew).keep k22 (by (try simp [World.drew]);(try omega)),by omega⟩;clear TOK7 tok k22;have TOK01:True:=trivial)
        | (have tok:=TOK7;go_at_call 32;with_reducible refine (HNIL.out (((W21.alloc (.cells #[.int .i64 3,.string ⟨#[97]⟩,.int .i64 0,.slice none 0 0,.int .i64 3,.string ⟨#[98]⟩,.int .i64 0,.slice none 0 0] 24)).alloc (.cells #[.int .i64 0,.string ⟨#[]⟩,.int .i64 0,.slice none 0 0] 24)).drew)).mono ?_;rintro e w22 ⟨rfl,k22⟩;have K22:=Lib.hid (((K21'.out.alloc _).alloc _).drew.onto k22);have HBq:Hid (Blk w22 (W21.heap.size) 24 #[.int .i64 3,.string ⟨#[97]⟩,.int .i64 0,.slice none 0 0,.int .i64 3,.string ⟨#[98]⟩,.int .i64 0,.slice none 0 0]):=Lib.hid ((((Blk.new W21 24 #[.int .i64 3,.string ⟨#[97]⟩,.int .i64 0,.slice none 0 0,.int .i64 3,.string ⟨#[98]⟩,.int .i64 0,.slice none 0 0]).alloc _).drew).keep k22 (by (try simp [World.drew]);(try omega)));have HXq:Hid (Blk w22 (W21.heap.size + 1) 24 #[.int .i64 0,.string ⟨#[]⟩,.int .i64 0,.slice none 0 0]∧W21.heap.size ≤ W21.heap.size + 1):=Lib.hid ⟨((show Blk ((W21.alloc (.cells #[.int .i64 3,.string ⟨#[97]⟩,.int .i64 0,.slice none 0 0,.int .i64 3,.string ⟨#[98]⟩,.int .i64 0,.slice none 0 0] 24)).alloc (.cells #[.int .i64 0,.string ⟨#[]⟩,.int .i64 0,.slice none 0 0] 24)) (W21.heap.size + 1) _ _ from (by have h:=Blk.new (W21.alloc (.cells #[.int .i64 3,.string ⟨#[97]⟩,.int .i64 0,.slice none 0 0,.int .i64 3,.string ⟨#[98]⟩,.int .i64 0,.slice none 0 0] 24)) 24 #[.int .i64 0,.string ⟨#[]⟩,.int .i64 0,.slice none 0 0];rw [World.size_alloc] at h;exact h)).drew).keep k22 (by (try simp [World.drew]);(try omega)),by omega⟩;clear TOK7 tok k22;have TOK11a:True:=trivial)
        | (have tok:=TOK7;go_at_call 32;with_reducible refine (HNIL.out (((W21.alloc (.cells #[.int .i64 0,.string ⟨#[]⟩,.int .i64 0,.slice none 0 0] 24)).alloc (.cells #[.int .i64 3,.string ⟨#[97]⟩,.int .i64 0,.slice none 0 0,.int .i64 3,.string ⟨#[98]⟩,.int .i64 0,.slice none 0 0] 24)).drew)).mono ?_;rintro e w22 ⟨rfl,k22⟩;have K22:=Lib.hid (((K21'.out.alloc _).alloc _).drew.onto k22);have HBq:Hid (Blk w22 (W21.heap.size + 1) 24 #[.int .i64 3,.string ⟨#[97]⟩,.int .i64 0,.slice none 0 0,.int .i64 3,.string ⟨#[98]⟩,.int .i64 0,.slice none 0 0]):=Lib.hid (((show Blk ((W21.alloc (.cells #[.int .i64 0,.string ⟨#[]⟩,.int .i64 0,.slice none 0 0] 24)).alloc (.cells #[.int .i64 3,.string ⟨#[97]⟩,.int .i64 0,.slice none 0 0,.int .i64 3,.string ⟨#[98]⟩,.int .i64 0,.slice none 0 0] 24)) (W21.heap.size + 1) _ _ from (by have h:=Blk.new (W21.alloc (.cells #[.int .i64 0,.string ⟨#[]⟩,.int .i64 0,.slice none 0 0] 24)) 24 #[.int .i64 3,.string ⟨#[97]⟩,.int .i64 0,.slice none 0 0,.int .i64 3,.string ⟨#[98]⟩,.int .i64 0,.slice none 0 0];rw [World.size_alloc] at h;exact h)).drew).keep k22 (by (try simp [World.drew]);(try omega)));have HXq:Hid (Blk w22 (W21.heap.size) 24 #[.int .i64 0,.string ⟨#[]⟩,.int .i64 0,.slice none 0 0]∧W21.heap.size ≤ W21.heap.size):=Lib.hid ⟨(((Blk.new W21 24 #[.int .i64 0,.string ⟨#[]⟩,.int .i64 0,.slice none 0 0]).alloc _).drew).keep k22 (by (try simp [World.drew]);(try omega)),by omega⟩;clear TOK7 tok k22;have TOK11b:True:=trivial)
        | (have tok:=TOK11a;go_at_call 16;with_reducible refine (HL.out (w22) _ (HBq.out)).mono ?_;rintro e w23 ⟨al,cl,rfl,hfr,k23⟩;have K23:=Lib.hid (K22.out.onto k23);have HLT:=Lib.hid (hfr.at_ (Nat.zero_le _));have HXz:Hid (Blk w23 (W21.heap.size + 1) 24 #[.int .i64 0,.string ⟨#[]⟩,.int .i64 0,.slice none 0 0]∧W21.heap.size ≤ W21.heap.size + 1):=Lib.hid ⟨(HXq.out.1).keep k23 (by (have:=HXq.out.1.lt);(try simp);(try omega)),HXq.out.2⟩;have HLZ:=Lib.hid (fun W (hk:Keep (fun k=>k ≠ (W21.heap.size + 1)) w23 W)=>(hfr.keepR hk (fun k hk=>by (have h9:W21.heap.size + 1 < (w22).heap.size:=(by ((try have h8:=HXq.out.1.lt);(try simp);(try omega))));rcases hk with hk | hk;omega;omega)).at_ (Nat.zero_le _));have bxlt:=HXz.out.1.lt;have z0:=HXz.out.1.cell 0;have z1:=HXz.out.1.cell 1;have z2:=HXz.out.1.cell 2;have z3:=HXz.out.1.cell 3;simp at z0 z1 z2 z3;have y0:=HXz.out.1.frozen 0;have y1:=HXz.out.1.frozen 1;have y2:=HXz.out.1.frozen 2;have y3:=HXz.out.1.frozen 3;clear TOK11a tok k23 hfr)
        | (have tok:=TOK11b;go_at_call 16;with_reducible refine (HL.out (w22) _ (HBq.out)).mono ?_;rintro e w23 ⟨al,cl,rfl,hfr,k23⟩;have K23:=Lib.hid (K22.out.onto k23);have HLT:=Lib.hid (hfr.at_ (Nat.zero_le _));have HXz:Hid (Blk w23 (W21.heap.size) 24 #[.int .i64 0,.string ⟨#[]⟩,.int .i64 0,.slice none 0 0]∧W21.heap.size ≤ W21.heap.size):=Lib.hid ⟨(HXq.out.1).keep k23 (by (have:=HXq.out.1.lt);(try simp);(try omega)),HXq.out.2⟩;have HLZ:=Lib.hid (fun W (hk:Keep (fun k=>k ≠ (W21.heap.size)) w23 W)=>(hfr.keepR hk (fun k hk=>by (have h9:W21.heap.size < (w22).heap.size:=(by ((try have h8:=HXq.out.1.lt);(try simp);(try omega))));rcases hk with hk | hk;omega;omega)).at_ (Nat.zero_le _));have bxlt:=HXz.out.1.lt;have z0:=HXz.out.1.cell 0;have z1:=HXz.out.1.cell 1;have z2:=HXz.out.1.cell 2;have z3:=HXz.out.1.cell 3;simp at z0 z1 z2 z3;have y0:=HXz.out.1.frozen 0;have y1:=HXz.out.1.frozen 1;have y2:=HXz.out.1.frozen 2;have y3:=HXz.out.1.frozen 3;clear TOK11b tok k23 hfr)
        | (have tok:=TOK10;go_at_call 16;with_reducible refine (HL.out (w22) _ (HBq.out)).mono ?_;rintro e w23 ⟨al,cl,rfl,hfr,k23⟩;have K23:=Lib.hid (K22.out.onto k23);have HLT:=Lib.hid (hfr.at_ (Nat.zero_le _));clear TOK10 tok k23 hfr)
        | (have tok:=TOK10;go_at_call 16;with_reducible refine (HL.out (w22.alloc (.cells #[.int .i64 0,.string ⟨#[]⟩,.int .i64 0,.slice none 0 0] 24)) _ (HBq.out.alloc _)).mono ?_;rintro e w23 ⟨al,cl,rfl,hfr,k23⟩;have K23:=Lib.hid ((K22.out.alloc _).onto k23);have HLT:=Lib.hid (hfr.at_ (Nat.zero_le _));have HXz:Hid (Blk w23 (w22.heap.size) 24 #[.int .i64 0,.string ⟨#[]⟩,.int .i64 0,.slice none 0 0]∧W21.heap.size ≤ w22.heap.size):=Lib.hid ⟨(Blk.new w22 24 #[.int .i64 0,.string ⟨#[]⟩,.int .i64 0,.slice none 0 0]).keep k23 (by (have:=K22.out.size);simp),by have:=K22.out.size;omega⟩;have HLZ:=Lib.hid (fun W (hk:Keep (fun k=>k ≠ w22.heap.size) w23 W)=>(hfr.keepR hk (fun k hk=>by (have h9:w22.heap.size < (w22.alloc (.cells #[.int .i64 0,.string ⟨#[]⟩,.int .i64 0,.slice none 0 0] 24)).heap.size:=(by ((try have h8:=HXq.out.1.lt);simp)));rcases hk with hk | hk;omega;omega)).at_ (Nat.zero_le _));generalize hbx:w22.heap.size=bx at HXz HLZ ⊢;clear hbx;have bxlt:=HXz.out.1.lt;have z0:=HXz.out.1.cell 0;have z1:=HXz.out.1.cell 1;have z2:=HXz.out.1.cell 2;have z3:=HXz.out.1.cell 3;simp at z0 z1 z2 z3;have y0:=HXz.out.1.frozen 0;have y1:=HXz.out.1.frozen 1;have y2:=HXz.out.1.frozen 2;have y3:=HXz.out.1.frozen 3;clear TOK10 tok k23 hfr)
        | (have tok:=TOK01;go_at_call 16;with_reducible refine (HL.out (w22.alloc (.cells #[.int .i64 3,.string ⟨#[97]⟩,.int .i64 0,.slice none 0 0,.int .i64 3,.string ⟨#[98]⟩,.int .i64 0,.slice none 0 0] 24)) _ (Blk.new w22 24 #[.int .i64 3,.string ⟨#[97]⟩,.int .i64 0,.slice none 0 0,.int .i64 3,.string ⟨#[98]⟩,.int .i64 0,.slice none 0 0])).mono ?_;rintro e w23 ⟨al,cl,rfl,hfr,k23⟩;have K23:=Lib.hid ((K22.out.alloc _).onto k23);have HLT:=Lib.hid (hfr.at_ (Nat.zero_le _));have HXz:Hid (Blk w23 (W21.heap.size) 24 #[.int .i64 0,.string ⟨#[]⟩,.int .i64 0,.slice none 0 0]∧W21.heap.size ≤ W21.heap.size):=Lib.hid ⟨((HXq.out.1.alloc _)).keep k23 (by (have:=HXq.out.1.lt);(try simp);(try omega)),HXq.out.2⟩;have HLZ:=Lib.hid (fun W (hk:Keep (fun k=>k ≠ (W21.heap.size)) w23 W)=>(hfr.keepR hk (fun k hk=>by (have h9:W21.heap.size < (w22.alloc (.cells #[.int .i64 3,.string ⟨#[97]⟩,.int .i64 0,.slice none 0 0,.int .i64 3,.string ⟨#[98]⟩,.int .i64 0,.slice none 0 0] 24)).heap.size:=(by ((try have h8:=HXq.out.1.lt);(try simp);(try omega))));rcases hk with hk | hk;omega;omega)).at_ (Nat.zero_le _));have bxlt:=HXz.out.1.lt;have z0:=HXz.out.1.cell 0;have z1:=HXz.out.1.cell 1;have z2:=HXz.out.1.cell 2;have z3:=HXz.out.1.cell 3;simp at z0 z1 z2 z3;have y0:=HXz.out.1.frozen 0;have y1:=HXz.out.1.frozen 1;have y2:=HXz.out.1.frozen 2;have y3:=HXz.out.1.frozen 3;clear TOK01 tok k23 hfr)
        | (have tok:=TOK00;go_at_call 16;with_reducible refine (HL.out (w22.alloc (.cells #[.int .i64 3,.string ⟨#[97]⟩,.int .i64 0,.slice none 0 0,.int .i64 3,.string ⟨#[98]⟩,.int .i64 0,.slice none 0 0] 24)) _ (Blk.new w22 24 #[.int .i64 3,.string ⟨#[97]⟩,.int .i64 0,.slice none 0 0,.int .i64 3,.string ⟨#[98]⟩,.int .i64 0,.slice none 0 0])).mono ?_;rintro e w23 ⟨al,cl,rfl,hfr,k23⟩;have K23:=Lib.hid ((K22.out.alloc _).onto k23);have HLT:=Lib.hid (hfr.at_ (Nat.zero_le _));clear TOK00 tok k23 hfr)
        | (have tok:=TOK00;go_at_call 16;with_reducible refine (HL.out ((w22.alloc (.cells #[.int .i64 3,.string ⟨#[97]⟩,.int .i64 0,.slice none 0 0,.int .i64 3,.string ⟨#[98]⟩,.int .i64 0,.slice none 0 0] 24)).alloc (.cells #[.int .i64 0,.string ⟨#[]⟩,.int .i64 0,.slice none 0 0] 24)) _ ((Blk.new w22 24 #[.int .i64 3,.string ⟨#[97]⟩,.int .i64 0,.slice none 0 0,.int .i64 3,.string ⟨#[98]⟩,.int .i64 0,.slice none 0 0]).alloc _)).mono ?_;rintro e w23 ⟨al,cl,rfl,hfr,k23⟩;have K23:=Lib.hid (((K22.out.alloc _).alloc _).onto k23);have HLT:=Lib.hid (hfr.at_ (Nat.zero_le _));have HXz:Hid (Blk w23 ((w22.heap.size + 1)) 24 #[.int .i64 0,.string ⟨#[]⟩,.int .i64 0,.slice none 0 0]∧W21.heap.size ≤ (w22.heap.size + 1)):=Lib.hid ⟨((show Blk ((w22.alloc (.cells #[.int .i64 3,.string ⟨#[97]⟩,.int .i64 0,.slice none 0 0,.int .i64 3,.string ⟨#[98]⟩,.int .i64 0,.slice none 0 0] 24)).alloc (.cells #[.int .i64 0,.string ⟨#[]⟩,.int .i64 0,.slice none 0 0] 24)) (w22.heap.size + 1) 24 #[.int .i64 0,.string ⟨#[]⟩,.int .i64 0,.slice none 0 0] from (by have h:=Blk.new (w22.alloc (.cells #[.int .i64 3,.string ⟨#[97]⟩,.int .i64 0,.slice none 0 0,.int .i64 3,.string ⟨#[98]⟩,.int .i64 0,.slice none 0 0] 24)) 24 #[.int .i64 0,.string ⟨#[]⟩,.int .i64 0,.slice none 0 0];rw [World.size_alloc] at h;exact h))).keep k23 (by (have:=K22.out.size);simp),by have:=K22.out.size;omega⟩;have HLZ:=Lib.hid (fun W (hk:Keep (fun k=>k ≠ (w22.heap.size + 1)) w23 W)=>(hfr.keepR hk (fun k hk=>by (have h9:(w22.heap.size + 1) < ((w22.alloc (.cells #[.int .i64 3,.string ⟨#[97]⟩,.int .i64 0,.slice none 0 0,.int .i64 3,.string ⟨#[98]⟩,.int .i64 0,.slice none 0 0] 24)).alloc (.cells #[.int .i64 0,.string ⟨#[]⟩,.int .i64 0,.slice none 0 0] 24)).heap.size:=(by ((try have h8:=HXq.out.1.lt);simp)));rcases hk with hk | hk;omega;omega)).at_ (Nat.zero_le _));generalize hbx:(w22.heap.size + 1)=bx at HXz HLZ ⊢;clear hbx;have bxlt:=HXz.out.1.lt;have z0:=HXz.out.1.cell 0;have z1:=HXz.out.1.cell 1;have z2:=HXz.out.1.cell 2;have z3:=HXz.out.1.cell 3;simp at z0 z1 z2 z3;have y0:=HXz.out.1.frozen 0;have y1:=HXz.out.1.frozen 1;have y2:=HXz.out.1.frozen 2;have y3:=HXz.out.1.frozen 3;clear TOK00 tok k23 hfr)
        | (have tok:=TOK00;go_at_call 16;with_reducible refine (HL.out ((w22.alloc (.cells #[.int .i64 0,.string ⟨#[]⟩,.int .i64 0,.slice none 0 0] 24)).alloc (.cells #[.int .i64 3,.string ⟨#[97]⟩,.int .i64 0,.slice none 0 0,.int .i64 3,.string ⟨#[98]⟩,.int .i64 0,.slice none 0 0] 24)) _ (show Blk ((w22.alloc (.cells #[.int .i64 0,.string ⟨#[]⟩,.int .i64 0,.slice none 0 0] 24)).alloc (.cells #[.int .i64 3,.string ⟨#[97]⟩,.int .i64 0,.slice none 0 0,.int .i64 3,.string ⟨#[98]⟩,.int .i64 0,.slice none 0 0] 24)) (w22.heap.size + 1) 24 #[.int .i64 3,.string ⟨#[97]⟩,.int .i64 0,.slice none 0 0,.int .i64 3,.string ⟨#[98]⟩,.int .i64 0,.slice none 0 0] from (by have h:=Blk.new (w22.alloc (.cells #[.int .i64 0,.string ⟨#[]⟩,.int .i64 0,.slice none 0 0] 24)) 24 #[.int .i64 3,.string ⟨#[97]⟩,.int .i64 0,.slice none 0 0,.int .i64 3,.string ⟨#[98]⟩,.int .i64 0,.slice none 0 0];rw [World.size_alloc] at h;exact h))).mono ?_;rintro e w23 ⟨al,cl,rfl,hfr,k23⟩;have K23:=Lib.hid (((K22.out.alloc _).alloc _).onto k23);have HLT:=Lib.hid (hfr.at_ (Nat.zero_le _));have HXz:Hid (Blk w23 (w22.heap.size) 24 #[.int .i64 0,.string ⟨#[]⟩,.int .i64 0,.slice none 0 0]∧W21.heap.size ≤ w22.heap.size):=Lib.hid ⟨((Blk.new w22 24 #[.int .i64 0,.string ⟨#[]⟩,.int .i64 0,.slice none 0 0]).alloc _).keep k23 (by (have:=K22.out.size);simp;omega),by have:=K22.out.size;omega⟩;have HLZ:=Lib.hid (fun W (hk:Keep (fun k=>k ≠ w22.heap.size) w23 W)=>(hfr.keepR hk (fun k hk=>by (have h9:w22.heap.size < ((w22.alloc (.cells #[.int .i64 0,.string ⟨#[]⟩,.int .i64 0,.slice none 0 0] 24)).alloc (.cells #[.int .i64 3,.string ⟨#[97]⟩,.int .i64 0,.slice none 0 0,.int .i64 3,.string ⟨#[98]⟩,.int .i64 0,.slice none 0 0] 24)).heap.size:=(by ((try have h8:=HXq.out.1.lt);simp;omega)));rcases hk with hk | hk;omega;omega)).at_ (Nat.zero_le _));generalize hbx:w22.heap.size=bx at HXz HLZ ⊢;clear hbx;have bxlt:=HXz.out.1.lt;have z0:=HXz.out.1.cell 0;have z1:=HXz.out.1.cell 1;have z2:=HXz.out.1.cell 2;have z3:=HXz.out.1.cell 3;simp at z0 z1 z2 z3;have y0:=HXz.out.1.frozen 0;have y1:=HXz.out.1.frozen 1;have y2:=HXz.out.1.frozen 2;have y3:=HXz.out.1.frozen 3;clear TOK00 tok k23 hfr))
  all_goals first
    | exact HQ.out _ al cl _ _ _ _ _ _ _ _ _ (K23.out.alloc _) (by have:=K23.out.size;exact this) (Blk.new w23 _ _) (HLT.out.on ((Keep.refl _ w23).alloc _))
    | exact HQ.out _ al cl _ _ _ _ _ _ _ _ _ ((((K23.out.setCell (p:=⟨_,0,none⟩) (Nat.not_lt.2 HXz.out.2) _).setCell (p:=⟨_,1,none⟩) (Nat.not_lt.2 HXz.out.2) _).setCell (p:=⟨_,2,none⟩) (Nat.not_lt.2 HXz.out.2) _).setCell (p:=⟨_,3,none⟩) (Nat.not_lt.2 HXz.out.2) _) HXz.out.2 HXz.out.1.set4 ((HLZ.out _ ((Keep.refl (fun k=>k ≠ _) w23).set4 (o:=0) (fun h=>h rfl))).up (by simp [World.setCell]))
end Go.Proofs.Ytjinmnekfhekpaa
