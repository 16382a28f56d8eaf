/-
  Comparisons by name. No condition.
-/
import Derived.Test.YtmgephleogiaoaaNAr12
namespace Go.Proofs.Ytmgephleogiaoaa
open Go.RowKit Go.Maps
set_option linter.unusedVariables false
set_option linter.unusedSimpArgs false
def holdsR (nm:List UInt8) (a b:Int):Bool × Bool :=
  if nm=[61,58,61] then (a == b,true)
  else if nm=[61,92,61] then (!(a == b),true)
  else if nm=[60] then (decide (a < b),true)
  else if nm=[61,60] then (decide (a ≤ b),true)
  else if nm=[62] then (decide (b < a),true)
  else if nm=[62,61] then (decide (b ≤ a),true)
  else (false,false)
theorem ret_bb {fn:Func} {V:World} {a:Act} {w:World} {p q:Nat} {x y:Bool} {z:Bool × Bool} (hr:fn.results=#[.tmp p,.tmp q]) (hd:a.defers=[]) (hp:a.tmps[p]? = some (.bool x)) (hq:a.tmps[q]? = some (.bool y)) (hk:Keep (fun g=>g < V.heap.size) V w) (hz:(x,y)=z) :
    bodyPost Try.prog fn (fun e w'=>e=.returned (.tuple #[.bool z.1,.bool z.2])∧Keep (fun g=>g < V.heap.size) V w') .ret a w:=by
  subst hz
  exact ret_el2 hr hd hp hq ⟨rfl,hk⟩
theorem name_cmp (nm:List UInt8):nm=[61,58,61]∨nm=[61,92,61]∨nm=[60]∨nm=[61,60]∨nm=[62]∨nm=[62,61]∨(((str nm).toList == [61,58,61])=false∧((str nm).toList == [61,92,61])=false∧((str nm).toList == [60])=false∧((str nm).toList == [61,60])=false∧((str nm).toList == [62])=false∧((str nm).toList == [62,61])=false):=by
  by_cases h:nm ∈ [[61,58,61],[61,92,61],[60],[61,60],[62],[62,61]]
  · simp only [List.mem_cons,List.not_mem_nil,or_false] at h
    rcases h with h | h | h | h | h | h
    · exact (Or.inl h)
    · exact (Or.inr (Or.inl h))
    · exact (Or.inr (Or.inr (Or.inl h)))
    · exact (Or.inr (Or.inr (Or.inr (Or.inl h))))
    · exact (Or.inr (Or.inr (Or.inr (Or.inr (Or.inl h)))))
    · exact (Or.inr (Or.inr (Or.inr (Or.inr (Or.inr (Or.inl h))))))
  · simp only [List.mem_cons,List.not_mem_nil,or_false,not_or] at h
    obtain ⟨h0,h1,h2,h3,h4,h5⟩:=h
    refine Or.inr <| Or.inr <| Or.inr <| Or.inr <| Or.inr <| Or.inr <| ⟨str_ne h0,str_ne h1,str_ne h2,str_ne h3,str_ne h4,str_ne h5⟩
set_option maxHeartbeats 1000000 in
theorem holds_eq (w:World) (a b:Int):Calls Try.prog 17 #[.string (str [61,58,61]),.int .i64 a,.int .i64 b] w fun e w'=>e=.returned (.tuple #[.bool (holdsR [61,58,61] a b).1,.bool (holdsR [61,58,61] a b).2])∧Keep (fun g=>g < w.heap.size) w w':=by
  have hsp:holdsR [61,58,61] a b=(a == b,true):=rfl
  generalize holdsR [61,58,61] a b=z at hsp
  have HSP:=Lib.hid hsp;clear hsp
  go_enter Try.func17,Try.ntmps17
  generalize hs:str [61,58,61]=s
  have e0:(s.toList == [61,58,61])=true:=by rw [← hs,str_eq];decide
  have e1:(s.toList == [61,92,61])=false:=nq_ hs
  have e2:(s.toList == [60])=false:=nq_ hs
  have e3:(s.toList == [61,60])=false:=nq_ hs
  have e4:(s.toList == [62])=false:=nq_ hs
  have e5:(s.toList == [62,61])=false:=nq_ hs
  clear hs
  go_wp2
  all_goals (refine ret_bb rfl rfl rfl rfl (Keep.refl _ w) ?_;first | exact HSP.out.symm | (rw [HSP.out];simp [bne];done))
set_option maxHeartbeats 1000000 in
theorem holds_ne (w:World) (a b:Int):Calls Try.prog 17 #[.string (str [61,92,61]),.int .i64 a,.int .i64 b] w fun e w'=>e=.returned (.tuple #[.bool (holdsR [61,92,61] a b).1,.bool (holdsR [61,92,61] a b).2])∧Keep (fun g=>g < w.heap.size) w w':=by
  have hsp:holdsR [61,92,61] a b=(!(a == b),true):=rfl
  generalize holdsR [61,92,61] a b=z at hsp
  have HSP:=Lib.hid hsp;clear hsp
  go_enter Try.func17,Try.ntmps17
  generalize hs:str [61,92,61]=s
  have e0:(s.toList == [61,58,61])=false:=nq_ hs
  have e1:(s.toList == [61,92,61])=true:=by rw [← hs,str_eq];decide
  have e2:(s.toList == [60])=false:=nq_ hs
  have e3:(s.toList == [61,60])=false:=nq_ hs
  have e4:(s.toList == [62])=false:=nq_ hs
  have e5:(s.toList == [62,61])=false:=nq_ hs
  clear hs
  go_wp2
  all_goals (refine ret_bb rfl rfl rfl rfl (Keep.refl _ w) ?_;first | exact HSP.out.symm | (rw [HSP.out];simp [bne];done))
set_option maxHeartbeats 1000000 in
theorem holds_lt (w:World) (a b:Int):Calls Try.prog 17 #[.string (str [60]),.int .i64 a,.int .i64 b] w fun e w'=>e=.returned (.tuple #[.bool (holdsR [60] a b).1,.bool (holdsR [60] a b).2])∧Keep (fun g=>g < w.heap.size) w w':=by
  have hsp:holdsR [60] a b=(decide (a < b),true):=rfl
  generalize holdsR [60] a b=z at hsp
  have HSP:=Lib.hid hsp;clear hsp
  go_enter Try.func17,Try.ntmps17
  generalize hs:str [60]=s
  have e0:(s.toList == [61,58,61])=false:=nq_ hs
  have e1:(s.toList == [61,92,61])=false:=nq_ hs
  have e2:(s.toList == [60])=true:=by rw [← hs,str_eq];decide
  have e3:(s.toList == [61,60])=false:=nq_ hs
  have e4:(s.toList == [62])=false:=nq_ hs
  have e5:(s.toList == [62,61])=false:=nq_ hs
  clear hs
  go_wp2
  all_goals (refine ret_bb rfl rfl rfl rfl (Keep.refl _ w) ?_;first | exact HSP.out.symm | (rw [HSP.out];simp [bne];done))
set_option maxHeartbeats 1000000 in
theorem holds_le (w:World) (a b:Int):Calls Try.prog 17 #[.string (str [61,60]),.int .i64 a,.int .i64 b] w fun e w'=>e=.returned (.tuple #[.bool (holdsR [61,60] a b).1,.bool (holdsR [61,60] a b).2])∧Keep (fun g=>g < w.heap.size) w w':=by
  have hsp:holdsR [61,60] a b=(decide (a ≤ b),true):=rfl
  generalize holdsR [61,60] a b=z at hsp
  have HSP:=Lib.hid hsp;clear hsp
  go_enter Try.func17,Try.ntmps17
  generalize hs:str [61,60]=s
  have e0:(s.toList == [61,58,61])=false:=nq_ hs
  have e1:(s.toList == [61,92,61])=false:=nq_ hs
  have e2:(s.toList == [60])=false:=nq_ hs
  have e3:(s.toList == [61,60])=true:=by rw [← hs,str_eq];decide
  have e4:(s.toList == [62])=false:=nq_ hs
  have e5:(s.toList == [62,61])=false:=nq_ hs
  clear hs
  go_wp2
  all_goals (refine ret_bb rfl rfl rfl rfl (Keep.refl _ w) ?_;first | exact HSP.out.symm | (rw [HSP.out];simp [bne];done))
set_option maxHeartbeats 1000000 in
theorem holds_gt (w:World) (a b:Int):Calls Try.prog 17 #[.string (str [62]),.int .i64 a,.int .i64 b] w fun e w'=>e=.returned (.tuple #[.bool (holdsR [62] a b).1,.bool (holdsR [62] a b).2])∧Keep (fun g=>g < w.heap.size) w w':=by
  have hsp:holdsR [62] a b=(decide (b < a),true):=rfl
  generalize holdsR [62] a b=z at hsp
  have HSP:=Lib.hid hsp;clear hsp
  go_enter Try.func17,Try.ntmps17
  generalize hs:str [62]=s
  have e0:(s.toList == [61,58,61])=false:=nq_ hs
  have e1:(s.toList == [61,92,61])=false:=nq_ hs
  have e2:(s.toList == [60])=false:=nq_ hs
  have e3:(s.toList == [61,60])=false:=nq_ hs
  have e4:(s.toList == [62])=true:=by rw [← hs,str_eq];decide
  have e5:(s.toList == [62,61])=false:=nq_ hs
  clear hs
  go_wp2
  all_goals (refine ret_bb rfl rfl rfl rfl (Keep.refl _ w) ?_;first | exact HSP.out.symm | (rw [HSP.out];simp [bne];done))
set_option maxHeartbeats 1000000 in
theorem holds_ge (w:World) (a b:Int):Calls Try.prog 17 #[.string (str [62,61]),.int .i64 a,.int .i64 b] w fun e w'=>e=.returned (.tuple #[.bool (holdsR [62,61] a b).1,.bool (holdsR [62,61] a b).2])∧Keep (fun g=>g < w.heap.size) w w':=by
  have hsp:holdsR [62,61] a b=(decide (b ≤ a),true):=rfl
  generalize holdsR [62,61] a b=z at hsp
  have HSP:=Lib.hid hsp;clear hsp
  go_enter Try.func17,Try.ntmps17
  generalize hs:str [62,61]=s
  have e0:(s.toList == [61,58,61])=false:=nq_ hs
  have e1:(s.toList == [61,92,61])=false:=nq_ hs
  have e2:(s.toList == [60])=false:=nq_ hs
  have e3:(s.toList == [61,60])=false:=nq_ hs
  have e4:(s.toList == [62])=false:=nq_ hs
  have e5:(s.toList == [62,61])=true:=by rw [← hs,str_eq];decide
  clear hs
  go_wp2
  all_goals (refine ret_bb rfl rfl rfl rfl (Keep.refl _ w) ?_;first | exact HSP.out.symm | (rw [HSP.out];simp [bne];done))
set_option maxHeartbeats 1000000 in
theorem holds_none (w:World) (nm:List UInt8) (a b:Int) (h:((str nm).toList == [61,58,61])=false∧((str nm).toList == [61,92,61])=false∧((str nm).toList == [60])=false∧((str nm).toList == [61,60])=false∧((str nm).toList == [62])=false∧((str nm).toList == [62,61])=false):Calls Try.prog 17 #[.string (str nm),.int .i64 a,.int .i64 b] w fun e w'=>e=.returned (.tuple #[.bool (holdsR nm a b).1,.bool (holdsR nm a b).2])∧Keep (fun g=>g < w.heap.size) w w':=by
  have hs:holdsR nm a b=(false,false):=by
    simp only [str_eq,decide_eq_false_iff_not] at h
    simp only [holdsR,h,if_false]
  generalize holdsR nm a b=z at hs
  have HSP:=Lib.hid hs;clear hs
  obtain ⟨e0,e1,e2,e3,e4,e5⟩:=h
  go_enter Try.func17,Try.ntmps17
  go_wp2
  exact ret_bb rfl rfl rfl rfl (Keep.refl _ w) HSP.out.symm
theorem holds_any (w:World) (nm:List UInt8) (a b:Int):Calls Try.prog 17 #[.string (str nm),.int .i64 a,.int .i64 b] w fun e w'=>e=.returned (.tuple #[.bool (holdsR nm a b).1,.bool (holdsR nm a b).2])∧Keep (fun g=>g < w.heap.size) w w':=by
  rcases name_cmp nm with rfl | rfl | rfl | rfl | rfl | rfl | h
  · exact holds_eq w a b
  · exact holds_ne w a b
  · exact holds_lt w a b
  · exact holds_le w a b
  · exact holds_gt w a b
  · exact holds_ge w a b
  · exact holds_none w nm a b h
set_option maxHeartbeats 1000000 in
theorem refholds_eq (w:World) (a b:Int):Calls Try.prog 18 #[.string (str [61,58,61]),.int .i64 a,.int .i64 b] w fun e w'=>e=.returned (.tuple #[.bool (holdsR [61,58,61] a b).1,.bool (holdsR [61,58,61] a b).2])∧Keep (fun g=>g < w.heap.size) w w':=by
  have hsp:holdsR [61,58,61] a b=(a == b,true):=rfl
  generalize holdsR [61,58,61] a b=z at hsp
  have HSP:=Lib.hid hsp;clear hsp
  go_enter Try.func18,Try.ntmps18
  generalize hs:str [61,58,61]=s
  have e0:(s.toList == [61,58,61])=true:=by rw [← hs,str_eq];decide
  have e1:(s.toList == [61,92,61])=false:=nq_ hs
  have e2:(s.toList == [60])=false:=nq_ hs
  have e3:(s.toList == [61,60])=false:=nq_ hs
  have e4:(s.toList == [62])=false:=nq_ hs
  have e5:(s.toList == [62,61])=false:=nq_ hs
  clear hs
  go_wp2
  all_goals (refine ret_bb rfl rfl rfl rfl (Keep.refl _ w) ?_;first | exact HSP.out.symm | (rw [HSP.out];simp [bne];done))
set_option maxHeartbeats 1000000 in
theorem refholds_ne (w:World) (a b:Int):Calls Try.prog 18 #[.string (str [61,92,61]),.int .i64 a,.int .i64 b] w fun e w'=>e=.returned (.tuple #[.bool (holdsR [61,92,61] a b).1,.bool (holdsR [61,92,61] a b).2])∧Keep (fun g=>g < w.heap.size) w w':=by
  have hsp:holdsR [61,92,61] a b=(!(a == b),true):=rfl
  generalize holdsR [61,92,61] a b=z at hsp
  have HSP:=Lib.hid hsp;clear hsp
  go_enter Try.func18,Try.ntmps18
  generalize hs:str [61,92,61]=s
  have e0:(s.toList == [61,58,61])=false:=nq_ hs
  have e1:(s.toList == [61,92,61])=true:=by rw [← hs,str_eq];decide
  have e2:(s.toList == [60])=false:=nq_ hs
  have e3:(s.toList == [61,60])=false:=nq_ hs
  have e4:(s.toList == [62])=false:=nq_ hs
  have e5:(s.toList == [62,61])=false:=nq_ hs
  clear hs
  go_wp2
  all_goals (refine ret_bb rfl rfl rfl rfl (Keep.refl _ w) ?_;first | exact HSP.out.symm | (rw [HSP.out];simp [bne];done))
set_option maxHeartbeats 1000000 in
theorem refholds_lt (w:World) (a b:Int):Calls Try.prog 18 #[.string (str [60]),.int .i64 a,.int .i64 b] w fun e w'=>e=.returned (.tuple #[.bool (holdsR [60] a b).1,.bool (holdsR [60] a b).2])∧Keep (fun g=>g < w.heap.size) w w':=by
  have hsp:holdsR [60] a b=(decide (a < b),true):=rfl
  generalize holdsR [60] a b=z at hsp
  have HSP:=Lib.hid hsp;clear hsp
  go_enter Try.func18,Try.ntmps18
  generalize hs:str [60]=s
  have e0:(s.toList == [61,58,61])=false:=nq_ hs
  have e1:(s.toList == [61,92,61])=false:=nq_ hs
  have e2:(s.toList == [60])=true:=by rw [← hs,str_eq];decide
  have e3:(s.toList == [61,60])=false:=nq_ hs
  have e4:(s.toList == [62])=false:=nq_ hs
  have e5:(s.toList == [62,61])=false:=nq_ hs
  clear hs
  go_wp2
  all_goals (refine ret_bb rfl rfl rfl rfl (Keep.refl _ w) ?_;first | exact HSP.out.symm | (rw [HSP.out];simp [bne];done))
set_option maxHeartbeats 1000000 in
theorem refholds_le (w:World) (a b:Int):Calls Try.prog 18 #[.string (str [61,60]),.int .i64 a,.int .i64 b] w fun e w'=>e=.returned (.tuple #[.bool (holdsR [61,60] a b).1,.bool (holdsR [61,60] a b).2])∧Keep (fun g=>g < w.heap.size) w w':=by
  have hsp:holdsR [61,60] a b=(decide (a ≤ b),true):=rfl
  generalize holdsR [61,60] a b=z at hsp
  have HSP:=Lib.hid hsp;clear hsp
  go_enter Try.func18,Try.ntmps18
  generalize hs:str [61,60]=s
  have e0:(s.toList == [61,58,61])=false:=nq_ hs
  have e1:(s.toList == [61,92,61])=false:=nq_ hs
  have e2:(s.toList == [60])=false:=nq_ hs
  have e3:(s.toList == [61,60])=true:=by rw [← hs,str_eq];decide
  have e4:(s.toList == [62])=false:=nq_ hs
  have e5:(s.toList == [62,61])=false:=nq_ hs
  clear hs
  go_wp2
  all_goals (refine ret_bb rfl rfl rfl rfl (Keep.refl _ w) ?_;first | exact HSP.out.symm | (rw [HSP.out];simp [bne];done))
set_option maxHeartbeats 1000000 in
theorem refholds_gt (w:World) (a b:Int):Calls Try.prog 18 #[.string (str [62]),.int .i64 a,.int .i64 b] w fun e w'=>e=.returned (.tuple #[.bool (holdsR [62] a b).1,.bool (holdsR [62] a b).2])∧Keep (fun g=>g < w.heap.size) w w':=by
  have hsp:holdsR [62] a b=(decide (b < a),true):=rfl
  generalize holdsR [62] a b=z at hsp
  have HSP:=Lib.hid hsp;clear hsp
  go_enter Try.func18,Try.ntmps18
  generalize hs:str [62]=s
  have e0:(s.toList == [61,58,61])=false:=nq_ hs
  have e1:(s.toList == [61,92,61])=false:=nq_ hs
  have e2:(s.toList == [60])=false:=nq_ hs
  have e3:(s.toList == [61,60])=false:=nq_ hs
  have e4:(s.toList == [62])=true:=by rw [← hs,str_eq];decide
  have e5:(s.toList == [62,61])=false:=nq_ hs
  clear hs
  go_wp2
  all_goals (refine ret_bb rfl rfl rfl rfl (Keep.refl _ w) ?_;first | exact HSP.out.symm | (rw [HSP.out];simp [bne];done))
set_option maxHeartbeats 1000000 in
theorem refholds_ge (w:World) (a b:Int):Calls Try.prog 18 #[.string (str [62,61]),.int .i64 a,.int .i64 b] w fun e w'=>e=.returned (.tuple #[.bool (holdsR [62,61] a b).1,.bool (holdsR [62,61] a b).2])∧Keep (fun g=>g < w.heap.size) w w':=by
  have hsp:holdsR [62,61] a b=(decide (b ≤ a),true):=rfl
  generalize holdsR [62,61] a b=z at hsp
  have HSP:=Lib.hid hsp;clear hsp
  go_enter Try.func18,Try.ntmps18
  generalize hs:str [62,61]=s
  have e0:(s.toList == [61,58,61])=false:=nq_ hs
  have e1:(s.toList == [61,92,61])=false:=nq_ hs
  have e2:(s.toList == [60])=false:=nq_ hs
  have e3:(s.toList == [61,60])=false:=nq_ hs
  have e4:(s.toList == [62])=false:=nq_ hs
  have e5:(s.toList == [62,61])=true:=by rw [← hs,str_eq];decide
  clear hs
  go_wp2
  all_goals (refine ret_bb rfl rfl rfl rfl (Keep.refl _ w) ?_;first | exact HSP.out.symm | (rw [HSP.out];simp [bne];done))
set_option maxHeartbeats 1000000 in
theorem refholds_none (w:World) (nm:List UInt8) (a b:Int) (h:((str nm).toList == [61,58,61])=false∧((str nm).toList == [61,92,61])=false∧((str nm).toList == [60])=false∧((str nm).toList == [61,60])=false∧((str nm).toList == [62])=false∧((str nm).toList == [62,61])=false):Calls Try.prog 18 #[.string (str nm),.int .i64 a,.int .i64 b] w fun e w'=>e=.returned (.tuple #[.bool (holdsR nm a b).1,.bool (holdsR nm a b).2])∧Keep (fun g=>g < w.heap.size) w w':=by
  have hs:holdsR nm a b=(false,false):=by
    simp only [str_eq,decide_eq_false_iff_not] at h
    simp only [holdsR,h,if_false]
  generalize holdsR nm a b=z at hs
  have HSP:=Lib.hid hs;clear hs
  obtain ⟨e0,e1,e2,e3,e4,e5⟩:=h
  go_enter Try.func18,Try.ntmps18
  go_wp2
  exact ret_bb rfl rfl rfl rfl (Keep.refl _ w) HSP.out.symm
theorem refholds_any (w:World) (nm:List UInt8) (a b:Int):Calls Try.prog 18 #[.string (str nm),.int .i64 a,.int .i64 b] w fun e w'=>e=.returned (.tuple #[.bool (holdsR nm a b).1,.bool (holdsR nm a b).2])∧Keep (fun g=>g < w.heap.size) w w':=by
  rcases name_cmp nm with rfl | rfl | rfl | rfl | rfl | rfl | h
  · exact refholds_eq w a b
  · exact refholds_ne w a b
  · exact refholds_lt w a b
  · exact refholds_le w a b
  · exact refholds_gt w a b
  · exact refholds_ge w a b
  · exact refholds_none w nm a b h
end Go.Proofs.Ytmgephleogiaoaa
