/-
  The names of package arith's functions, which there are, and those of one number. No condition but that they are numbers of 64 bits.
-/
import Derived.Test.YtmgephleogiaoaaNAr1
namespace Go.Proofs.Ytmgephleogiaoaa
open Go.RowKit Go.Maps
set_option linter.unusedVariables false
set_option linter.unusedSimpArgs false
theorem str_list (nm:List UInt8):(str nm).toList=nm:=by
  rw [ByteArray.toList_eq];exact str_data nm
theorem str_eq (nm l:List UInt8):((str nm).toList == l)=decide (nm=l):=by rw [str_list];by_cases h:nm=l <;> simp [h]
theorem nq_ {nm l:List UInt8} {s:ByteArray} (hs:str nm=s) (h:decide (nm=l)=false:=by decide):(s.toList == l)=false:=by rw [← hs,str_eq];exact h
theorem str_ne {nm l:List UInt8} (h:¬ nm=l):((str nm).toList == l)=false:=by rw [str_eq];simpa using h
theorem name_all (nm:List UInt8):nm=[43]∨nm=[45]∨nm=[97,98,115]∨nm=[115,105,103,110]∨nm=[92]∨nm=[42]∨nm=[109,105,110]∨nm=[109,97,120]∨nm=[47,92]∨nm=[92,47]∨nm=[120,111,114]∨nm=[47,47]∨nm=[114,101,109]∨nm=[109,111,100]∨nm=[62,62]∨nm=[60,60]∨nm=[94]∨nm=[42,42]∨(((str nm).toList == [43])=false∧((str nm).toList == [45])=false∧((str nm).toList == [97,98,115])=false∧((str nm).toList == [115,105,103,110])=false∧((str nm).toList == [92])=false∧((str nm).toList == [42])=false∧((str nm).toList == [109,105,110])=false∧((str nm).toList == [109,97,120])=false∧((str nm).toList == [47,92])=false∧((str nm).toList == [92,47])=false∧((str nm).toList == [120,111,114])=false∧((str nm).toList == [47,47])=false∧((str nm).toList == [114,101,109])=false∧((str nm).toList == [109,111,100])=false∧((str nm).toList == [62,62])=false∧((str nm).toList == [60,60])=false∧((str nm).toList == [94])=false∧((str nm).toList == [42,42])=false):=by
  by_cases h:nm ∈ [[43],[45],[97,98,115],[115,105,103,110],[92],[42],[109,105,110],[109,97,120],[47,92],[92,47],[120,111,114],[47,47],[114,101,109],[109,111,100],[62,62],[60,60],[94],[42,42]]
  · simp only [List.mem_cons,List.not_mem_nil,or_false] at h
    rcases h with h | h | h | h | h | h | h | h | h | h | h | h | h | h | h | h | h | h
    · exact (Or.inl h)
    · exact (Or.inr (Or.inl h))
    · exact (Or.inr (Or.inr (Or.inl h)))
    · exact (Or.inr (Or.inr (Or.inr (Or.inl h))))
    · exact (Or.inr (Or.inr (Or.inr (Or.inr (Or.inl h)))))
    · exact (Or.inr (Or.inr (Or.inr (Or.inr (Or.inr (Or.inl h))))))
    · exact (Or.inr (Or.inr (Or.inr (Or.inr (Or.inr (Or.inr (Or.inl h)))))))
    · exact (Or.inr (Or.inr (Or.inr (Or.inr (Or.inr (Or.inr (Or.inr (Or.inl h))))))))
    · exact (Or.inr (Or.inr (Or.inr (Or.inr (Or.inr (Or.inr (Or.inr (Or.inr (Or.inl h)))))))))
    · exact (Or.inr (Or.inr (Or.inr (Or.inr (Or.inr (Or.inr (Or.inr (Or.inr (Or.inr (Or.inl h))))))))))
    · exact (Or.inr (Or.inr (Or.inr (Or.inr (Or.inr (Or.inr (Or.inr (Or.inr (Or.inr (Or.inr (Or.inl h)))))))))))
    · exact (Or.inr (Or.inr (Or.inr (Or.inr (Or.inr (Or.inr (Or.inr (Or.inr (Or.inr (Or.inr (Or.inr (Or.inl h))))))))))))
    · exact (Or.inr (Or.inr (Or.inr (Or.inr (Or.inr (Or.inr (Or.inr (Or.inr (Or.inr (Or.inr (Or.inr (Or.inr (Or.inl h)))))))))))))
    · exact (Or.inr (Or.inr (Or.inr (Or.inr (Or.inr (Or.inr (Or.inr (Or.inr (Or.inr (Or.inr (Or.inr (Or.inr (Or.inr (Or.inl h))))))))))))))
    · exact (Or.inr (Or.inr (Or.inr (Or.inr (Or.inr (Or.inr (Or.inr (Or.inr (Or.inr (Or.inr (Or.inr (Or.inr (Or.inr (Or.inr (Or.inl h)))))))))))))))
    · exact (Or.inr (Or.inr (Or.inr (Or.inr (Or.inr (Or.inr (Or.inr (Or.inr (Or.inr (Or.inr (Or.inr (Or.inr (Or.inr (Or.inr (Or.inr (Or.inl h))))))))))))))))
    · exact (Or.inr (Or.inr (Or.inr (Or.inr (Or.inr (Or.inr (Or.inr (Or.inr (Or.inr (Or.inr (Or.inr (Or.inr (Or.inr (Or.inr (Or.inr (Or.inr (Or.inl h)))))))))))))))))
    · exact (Or.inr (Or.inr (Or.inr (Or.inr (Or.inr (Or.inr (Or.inr (Or.inr (Or.inr (Or.inr (Or.inr (Or.inr (Or.inr (Or.inr (Or.inr (Or.inr (Or.inr (Or.inl h))))))))))))))))))
  · simp only [List.mem_cons,List.not_mem_nil,or_false,not_or] at h
    obtain ⟨h0,h1,h2,h3,h4,h5,h6,h7,h8,h9,h10,h11,h12,h13,h14,h15,h16,h17⟩:=h
    refine Or.inr <| Or.inr <| Or.inr <| Or.inr <| Or.inr <| Or.inr <| Or.inr <| Or.inr <| Or.inr <| Or.inr <| Or.inr <| Or.inr <| Or.inr <| Or.inr <| Or.inr <| Or.inr <| Or.inr <| Or.inr <| ⟨str_ne h0,str_ne h1,str_ne h2,str_ne h3,str_ne h4,str_ne h5,str_ne h6,str_ne h7,str_ne h8,str_ne h9,str_ne h10,str_ne h11,str_ne h12,str_ne h13,str_ne h14,str_ne h15,str_ne h16,str_ne h17⟩
theorem name_two (nm:List UInt8):nm=[43]∨nm=[45]∨nm=[42]∨nm=[109,105,110]∨nm=[109,97,120]∨nm=[47,92]∨nm=[92,47]∨nm=[120,111,114]∨nm=[47,47]∨nm=[114,101,109]∨nm=[109,111,100]∨nm=[62,62]∨nm=[60,60]∨(((str nm).toList == [43])=false∧((str nm).toList == [45])=false∧((str nm).toList == [42])=false∧((str nm).toList == [109,105,110])=false∧((str nm).toList == [109,97,120])=false∧((str nm).toList == [47,92])=false∧((str nm).toList == [92,47])=false∧((str nm).toList == [120,111,114])=false∧((str nm).toList == [47,47])=false∧((str nm).toList == [114,101,109])=false∧((str nm).toList == [109,111,100])=false∧((str nm).toList == [62,62])=false∧((str nm).toList == [60,60])=false):=by
  by_cases h:nm ∈ [[43],[45],[42],[109,105,110],[109,97,120],[47,92],[92,47],[120,111,114],[47,47],[114,101,109],[109,111,100],[62,62],[60,60]]
  · simp only [List.mem_cons,List.not_mem_nil,or_false] at h
    rcases h with h | h | h | h | h | h | h | h | h | h | h | h | h
    · exact (Or.inl h)
    · exact (Or.inr (Or.inl h))
    · exact (Or.inr (Or.inr (Or.inl h)))
    · exact (Or.inr (Or.inr (Or.inr (Or.inl h))))
    · exact (Or.inr (Or.inr (Or.inr (Or.inr (Or.inl h)))))
    · exact (Or.inr (Or.inr (Or.inr (Or.inr (Or.inr (Or.inl h))))))
    · exact (Or.inr (Or.inr (Or.inr (Or.inr (Or.inr (Or.inr (Or.inl h)))))))
    · exact (Or.inr (Or.inr (Or.inr (Or.inr (Or.inr (Or.inr (Or.inr (Or.inl h))))))))
    · exact (Or.inr (Or.inr (Or.inr (Or.inr (Or.inr (Or.inr (Or.inr (Or.inr (Or.inl h)))))))))
    · exact (Or.inr (Or.inr (Or.inr (Or.inr (Or.inr (Or.inr (Or.inr (Or.inr (Or.inr (Or.inl h))))))))))
    · exact (Or.inr (Or.inr (Or.inr (Or.inr (Or.inr (Or.inr (Or.inr (Or.inr (Or.inr (Or.inr (Or.inl h)))))))))))
    · exact (Or.inr (Or.inr (Or.inr (Or.inr (Or.inr (Or.inr (Or.inr (Or.inr (Or.inr (Or.inr (Or.inr (Or.inl h))))))))))))
    · exact (Or.inr (Or.inr (Or.inr (Or.inr (Or.inr (Or.inr (Or.inr (Or.inr (Or.inr (Or.inr (Or.inr (Or.inr (Or.inl h)))))))))))))
  · simp only [List.mem_cons,List.not_mem_nil,or_false,not_or] at h
    obtain ⟨h0,h1,h2,h3,h4,h5,h6,h7,h8,h9,h10,h11,h12⟩:=h
    refine Or.inr <| Or.inr <| Or.inr <| Or.inr <| Or.inr <| Or.inr <| Or.inr <| Or.inr <| Or.inr <| Or.inr <| Or.inr <| Or.inr <| Or.inr <| ⟨str_ne h0,str_ne h1,str_ne h2,str_ne h3,str_ne h4,str_ne h5,str_ne h6,str_ne h7,str_ne h8,str_ne h9,str_ne h10,str_ne h11,str_ne h12⟩
theorem name_one (nm:List UInt8):nm=[115,105,103,110]∨nm=[92]∨nm=[97,98,115]∨nm=[45]∨(((str nm).toList == [115,105,103,110])=false∧((str nm).toList == [92])=false∧((str nm).toList == [97,98,115])=false∧((str nm).toList == [45])=false):=by
  by_cases h:nm ∈ [[115,105,103,110],[92],[97,98,115],[45]]
  · simp only [List.mem_cons,List.not_mem_nil,or_false] at h
    rcases h with h | h | h | h
    · exact (Or.inl h)
    · exact (Or.inr (Or.inl h))
    · exact (Or.inr (Or.inr (Or.inl h)))
    · exact (Or.inr (Or.inr (Or.inr (Or.inl h))))
  · simp only [List.mem_cons,List.not_mem_nil,or_false,not_or] at h
    obtain ⟨h0,h1,h2,h3⟩:=h
    refine Or.inr <| Or.inr <| Or.inr <| Or.inr <| ⟨str_ne h0,str_ne h1,str_ne h2,str_ne h3⟩
def isFn (nm:List UInt8) (n:Nat):Bool :=
  if nm=[43]∨nm=[45] then n == 1 || n == 2
  else if nm=[97,98,115]∨nm=[115,105,103,110]∨nm=[92] then n == 1
  else if nm=[42]∨nm=[109,105,110]∨nm=[109,97,120]∨nm=[47,92]∨nm=[92,47]∨nm=[120,111,114]∨nm=[47,47]∨nm=[114,101,109]∨nm=[109,111,100]∨nm=[62,62]∨nm=[60,60]∨nm=[94]∨nm=[42,42] then n == 2
  else false
theorem cast1 (n:Nat):((n:Int) == 1)=(n == 1):=by rw [Bool.eq_iff_iff,beq_iff_eq,beq_iff_eq];omega
theorem cast2 (n:Nat):((n:Int) == 2)=(n == 2):=by rw [Bool.eq_iff_iff,beq_iff_eq,beq_iff_eq];omega
theorem ret_bo {fn:Func} {V:World} {a:Act} {w:World} {p:Nat} {x z:Bool} (hr:fn.results=#[.tmp p]) (hd:a.defers=[]) (hp:a.tmps[p]? = some (.bool x)) (hk:Keep (fun g=>g < V.heap.size) V w) (hz:x=z) :
    bodyPost Try.prog fn (fun e w'=>e=.returned (.bool z)∧Keep (fun g=>g < V.heap.size) V w') .ret a w:=by
  subst hz
  refine bodyPost_ret (v:=.bool x) ?_ hd ⟨rfl,hk⟩
  simp [results,hr,go_sem,Array.getD_eq_getD_getElem?,hp]
set_option maxHeartbeats 1000000 in
theorem isf_plus (w:World) (n:Nat):Calls Try.prog 41 #[.string (str [43]),.int .i64 n] w fun e w'=>e=.returned (.bool (isFn [43] n))∧Keep (fun g=>g < w.heap.size) w w':=by
  go_enter Try.func41,Try.ntmps41
  generalize hs:str [43]=s
  have e0:(s.toList == [43])=true:=by rw [← hs,str_eq];decide
  have e1:(s.toList == [45])=false:=nq_ hs
  have e2:(s.toList == [97,98,115])=false:=nq_ hs
  have e3:(s.toList == [115,105,103,110])=false:=nq_ hs
  have e4:(s.toList == [92])=false:=nq_ hs
  have e5:(s.toList == [42])=false:=nq_ hs
  have e6:(s.toList == [109,105,110])=false:=nq_ hs
  have e7:(s.toList == [109,97,120])=false:=nq_ hs
  have e8:(s.toList == [47,92])=false:=nq_ hs
  have e9:(s.toList == [92,47])=false:=nq_ hs
  have e10:(s.toList == [120,111,114])=false:=nq_ hs
  have e11:(s.toList == [47,47])=false:=nq_ hs
  have e12:(s.toList == [114,101,109])=false:=nq_ hs
  have e13:(s.toList == [109,111,100])=false:=nq_ hs
  have e14:(s.toList == [62,62])=false:=nq_ hs
  have e15:(s.toList == [60,60])=false:=nq_ hs
  have e16:(s.toList == [94])=false:=nq_ hs
  have e17:(s.toList == [42,42])=false:=nq_ hs
  clear hs
  go_wp2
  all_goals (refine ret_bo rfl rfl rfl (Keep.refl _ w) ?_;simp [isFn,cast1,cast2, *];try omega)
set_option maxHeartbeats 1000000 in
theorem isf_minus (w:World) (n:Nat):Calls Try.prog 41 #[.string (str [45]),.int .i64 n] w fun e w'=>e=.returned (.bool (isFn [45] n))∧Keep (fun g=>g < w.heap.size) w w':=by
  go_enter Try.func41,Try.ntmps41
  generalize hs:str [45]=s
  have e0:(s.toList == [43])=false:=nq_ hs
  have e1:(s.toList == [45])=true:=by rw [← hs,str_eq];decide
  have e2:(s.toList == [97,98,115])=false:=nq_ hs
  have e3:(s.toList == [115,105,103,110])=false:=nq_ hs
  have e4:(s.toList == [92])=false:=nq_ hs
  have e5:(s.toList == [42])=false:=nq_ hs
  have e6:(s.toList == [109,105,110])=false:=nq_ hs
  have e7:(s.toList == [109,97,120])=false:=nq_ hs
  have e8:(s.toList == [47,92])=false:=nq_ hs
  have e9:(s.toList == [92,47])=false:=nq_ hs
  have e10:(s.toList == [120,111,114])=false:=nq_ hs
  have e11:(s.toList == [47,47])=false:=nq_ hs
  have e12:(s.toList == [114,101,109])=false:=nq_ hs
  have e13:(s.toList == [109,111,100])=false:=nq_ hs
  have e14:(s.toList == [62,62])=false:=nq_ hs
  have e15:(s.toList == [60,60])=false:=nq_ hs
  have e16:(s.toList == [94])=false:=nq_ hs
  have e17:(s.toList == [42,42])=false:=nq_ hs
  clear hs
  go_wp2
  all_goals (refine ret_bo rfl rfl rfl (Keep.refl _ w) ?_;simp [isFn,cast1,cast2, *];try omega)
set_option maxHeartbeats 1000000 in
theorem isf_abs (w:World) (n:Nat):Calls Try.prog 41 #[.string (str [97,98,115]),.int .i64 n] w fun e w'=>e=.returned (.bool (isFn [97,98,115] n))∧Keep (fun g=>g < w.heap.size) w w':=by
  go_enter Try.func41,Try.ntmps41
  generalize hs:str [97,98,115]=s
  have e0:(s.toList == [43])=false:=nq_ hs
  have e1:(s.toList == [45])=false:=nq_ hs
  have e2:(s.toList == [97,98,115])=true:=by rw [← hs,str_eq];decide
  have e3:(s.toList == [115,105,103,110])=false:=nq_ hs
  have e4:(s.toList == [92])=false:=nq_ hs
  have e5:(s.toList == [42])=false:=nq_ hs
  have e6:(s.toList == [109,105,110])=false:=nq_ hs
  have e7:(s.toList == [109,97,120])=false:=nq_ hs
  have e8:(s.toList == [47,92])=false:=nq_ hs
  have e9:(s.toList == [92,47])=false:=nq_ hs
  have e10:(s.toList == [120,111,114])=false:=nq_ hs
  have e11:(s.toList == [47,47])=false:=nq_ hs
  have e12:(s.toList == [114,101,109])=false:=nq_ hs
  have e13:(s.toList == [109,111,100])=false:=nq_ hs
  have e14:(s.toList == [62,62])=false:=nq_ hs
  have e15:(s.toList == [60,60])=false:=nq_ hs
  have e16:(s.toList == [94])=false:=nq_ hs
  have e17:(s.toList == [42,42])=false:=nq_ hs
  clear hs
  go_wp2
  all_goals (refine ret_bo rfl rfl rfl (Keep.refl _ w) ?_;simp [isFn,cast1,cast2, *];try omega)
set_option maxHeartbeats 1000000 in
theorem isf_sign (w:World) (n:Nat):Calls Try.prog 41 #[.string (str [115,105,103,110]),.int .i64 n] w fun e w'=>e=.returned (.bool (isFn [115,105,103,110] n))∧Keep (fun g=>g < w.heap.size) w w':=by
  go_enter Try.func41,Try.ntmps41
  generalize hs:str [115,105,103,110]=s
  have e0:(s.toList == [43])=false:=nq_ hs
  have e1:(s.toList == [45])=false:=nq_ hs
  have e2:(s.toList == [97,98,115])=false:=nq_ hs
  have e3:(s.toList == [115,105,103,110])=true:=by rw [← hs,str_eq];decide
  have e4:(s.toList == [92])=false:=nq_ hs
  have e5:(s.toList == [42])=false:=nq_ hs
  have e6:(s.toList == [109,105,110])=false:=nq_ hs
  have e7:(s.toList == [109,97,120])=false:=nq_ hs
  have e8:(s.toList == [47,92])=false:=nq_ hs
  have e9:(s.toList == [92,47])=false:=nq_ hs
  have e10:(s.toList == [120,111,114])=false:=nq_ hs
  have e11:(s.toList == [47,47])=false:=nq_ hs
  have e12:(s.toList == [114,101,109])=false:=nq_ hs
  have e13:(s.toList == [109,111,100])=false:=nq_ hs
  have e14:(s.toList == [62,62])=false:=nq_ hs
  have e15:(s.toList == [60,60])=false:=nq_ hs
  have e16:(s.toList == [94])=false:=nq_ hs
  have e17:(s.toList == [42,42])=false:=nq_ hs
  clear hs
  go_wp2
  all_goals (refine ret_bo rfl rfl rfl (Keep.refl _ w) ?_;simp [isFn,cast1,cast2, *];try omega)
set_option maxHeartbeats 1000000 in
theorem isf_bs (w:World) (n:Nat):Calls Try.prog 41 #[.string (str [92]),.int .i64 n] w fun e w'=>e=.returned (.bool (isFn [92] n))∧Keep (fun g=>g < w.heap.size) w w':=by
  go_enter Try.func41,Try.ntmps41
  generalize hs:str [92]=s
  have e0:(s.toList == [43])=false:=nq_ hs
  have e1:(s.toList == [45])=false:=nq_ hs
  have e2:(s.toList == [97,98,115])=false:=nq_ hs
  have e3:(s.toList == [115,105,103,110])=false:=nq_ hs
  have e4:(s.toList == [92])=true:=by rw [← hs,str_eq];decide
  have e5:(s.toList == [42])=false:=nq_ hs
  have e6:(s.toList == [109,105,110])=false:=nq_ hs
  have e7:(s.toList == [109,97,120])=false:=nq_ hs
  have e8:(s.toList == [47,92])=false:=nq_ hs
  have e9:(s.toList == [92,47])=false:=nq_ hs
  have e10:(s.toList == [120,111,114])=false:=nq_ hs
  have e11:(s.toList == [47,47])=false:=nq_ hs
  have e12:(s.toList == [114,101,109])=false:=nq_ hs
  have e13:(s.toList == [109,111,100])=false:=nq_ hs
  have e14:(s.toList == [62,62])=false:=nq_ hs
  have e15:(s.toList == [60,60])=false:=nq_ hs
  have e16:(s.toList == [94])=false:=nq_ hs
  have e17:(s.toList == [42,42])=false:=nq_ hs
  clear hs
  go_wp2
  all_goals (refine ret_bo rfl rfl rfl (Keep.refl _ w) ?_;simp [isFn,cast1,cast2, *];try omega)
set_option maxHeartbeats 1000000 in
theorem isf_mul (w:World) (n:Nat):Calls Try.prog 41 #[.string (str [42]),.int .i64 n] w fun e w'=>e=.returned (.bool (isFn [42] n))∧Keep (fun g=>g < w.heap.size) w w':=by
  go_enter Try.func41,Try.ntmps41
  generalize hs:str [42]=s
  have e0:(s.toList == [43])=false:=nq_ hs
  have e1:(s.toList == [45])=false:=nq_ hs
  have e2:(s.toList == [97,98,115])=false:=nq_ hs
  have e3:(s.toList == [115,105,103,110])=false:=nq_ hs
  have e4:(s.toList == [92])=false:=nq_ hs
  have e5:(s.toList == [42])=true:=by rw [← hs,str_eq];decide
  have e6:(s.toList == [109,105,110])=false:=nq_ hs
  have e7:(s.toList == [109,97,120])=false:=nq_ hs
  have e8:(s.toList == [47,92])=false:=nq_ hs
  have e9:(s.toList == [92,47])=false:=nq_ hs
  have e10:(s.toList == [120,111,114])=false:=nq_ hs
  have e11:(s.toList == [47,47])=false:=nq_ hs
  have e12:(s.toList == [114,101,109])=false:=nq_ hs
  have e13:(s.toList == [109,111,100])=false:=nq_ hs
  have e14:(s.toList == [62,62])=false:=nq_ hs
  have e15:(s.toList == [60,60])=false:=nq_ hs
  have e16:(s.toList == [94])=false:=nq_ hs
  have e17:(s.toList == [42,42])=false:=nq_ hs
  clear hs
  go_wp2
  all_goals (refine ret_bo rfl rfl rfl (Keep.refl _ w) ?_;simp [isFn,cast1,cast2, *];try omega)
set_option maxHeartbeats 1000000 in
theorem isf_min (w:World) (n:Nat):Calls Try.prog 41 #[.string (str [109,105,110]),.int .i64 n] w fun e w'=>e=.returned (.bool (isFn [109,105,110] n))∧Keep (fun g=>g < w.heap.size) w w':=by
  go_enter Try.func41,Try.ntmps41
  generalize hs:str [109,105,110]=s
  have e0:(s.toList == [43])=false:=nq_ hs
  have e1:(s.toList == [45])=false:=nq_ hs
  have e2:(s.toList == [97,98,115])=false:=nq_ hs
  have e3:(s.toList == [115,105,103,110])=false:=nq_ hs
  have e4:(s.toList == [92])=false:=nq_ hs
  have e5:(s.toList == [42])=false:=nq_ hs
  have e6:(s.toList == [109,105,110])=true:=by rw [← hs,str_eq];decide
  have e7:(s.toList == [109,97,120])=false:=nq_ hs
  have e8:(s.toList == [47,92])=false:=nq_ hs
  have e9:(s.toList == [92,47])=false:=nq_ hs
  have e10:(s.toList == [120,111,114])=false:=nq_ hs
  have e11:(s.toList == [47,47])=false:=nq_ hs
  have e12:(s.toList == [114,101,109])=false:=nq_ hs
  have e13:(s.toList == [109,111,100])=false:=nq_ hs
  have e14:(s.toList == [62,62])=false:=nq_ hs
  have e15:(s.toList == [60,60])=false:=nq_ hs
  have e16:(s.toList == [94])=false:=nq_ hs
  have e17:(s.toList == [42,42])=false:=nq_ hs
  clear hs
  go_wp2
  all_goals (refine ret_bo rfl rfl rfl (Keep.refl _ w) ?_;simp [isFn,cast1,cast2, *];try omega)
set_option maxHeartbeats 1000000 in
theorem isf_max (w:World) (n:Nat):Calls Try.prog 41 #[.string (str [109,97,120]),.int .i64 n] w fun e w'=>e=.returned (.bool (isFn [109,97,120] n))∧Keep (fun g=>g < w.heap.size) w w':=by
  go_enter Try.func41,Try.ntmps41
  generalize hs:str [109,97,120]=s
  have e0:(s.toList == [43])=false:=nq_ hs
  have e1:(s.toList == [45])=false:=nq_ hs
  have e2:(s.toList == [97,98,115])=false:=nq_ hs
  have e3:(s.toList == [115,105,103,110])=false:=nq_ hs
  have e4:(s.toList == [92])=false:=nq_ hs
  have e5:(s.toList == [42])=false:=nq_ hs
  have e6:(s.toList == [109,105,110])=false:=nq_ hs
  have e7:(s.toList == [109,97,120])=true:=by rw [← hs,str_eq];decide
  have e8:(s.toList == [47,92])=false:=nq_ hs
  have e9:(s.toList == [92,47])=false:=nq_ hs
  have e10:(s.toList == [120,111,114])=false:=nq_ hs
  have e11:(s.toList == [47,47])=false:=nq_ hs
  have e12:(s.toList == [114,101,109])=false:=nq_ hs
  have e13:(s.toList == [109,111,100])=false:=nq_ hs
  have e14:(s.toList == [62,62])=false:=nq_ hs
  have e15:(s.toList == [60,60])=false:=nq_ hs
  have e16:(s.toList == [94])=false:=nq_ hs
  have e17:(s.toList == [42,42])=false:=nq_ hs
  clear hs
  go_wp2
  all_goals (refine ret_bo rfl rfl rfl (Keep.refl _ w) ?_;simp [isFn,cast1,cast2, *];try omega)
set_option maxHeartbeats 1000000 in
theorem isf_and (w:World) (n:Nat):Calls Try.prog 41 #[.string (str [47,92]),.int .i64 n] w fun e w'=>e=.returned (.bool (isFn [47,92] n))∧Keep (fun g=>g < w.heap.size) w w':=by
  go_enter Try.func41,Try.ntmps41
  generalize hs:str [47,92]=s
  have e0:(s.toList == [43])=false:=nq_ hs
  have e1:(s.toList == [45])=false:=nq_ hs
  have e2:(s.toList == [97,98,115])=false:=nq_ hs
  have e3:(s.toList == [115,105,103,110])=false:=nq_ hs
  have e4:(s.toList == [92])=false:=nq_ hs
  have e5:(s.toList == [42])=false:=nq_ hs
  have e6:(s.toList == [109,105,110])=false:=nq_ hs
  have e7:(s.toList == [109,97,120])=false:=nq_ hs
  have e8:(s.toList == [47,92])=true:=by rw [← hs,str_eq];decide
  have e9:(s.toList == [92,47])=false:=nq_ hs
  have e10:(s.toList == [120,111,114])=false:=nq_ hs
  have e11:(s.toList == [47,47])=false:=nq_ hs
  have e12:(s.toList == [114,101,109])=false:=nq_ hs
  have e13:(s.toList == [109,111,100])=false:=nq_ hs
  have e14:(s.toList == [62,62])=false:=nq_ hs
  have e15:(s.toList == [60,60])=false:=nq_ hs
  have e16:(s.toList == [94])=false:=nq_ hs
  have e17:(s.toList == [42,42])=false:=nq_ hs
  clear hs
  go_wp2
  all_goals (refine ret_bo rfl rfl rfl (Keep.refl _ w) ?_;simp [isFn,cast1,cast2, *];try omega)
set_option maxHeartbeats 1000000 in
theorem isf_or (w:World) (n:Nat):Calls Try.prog 41 #[.string (str [92,47]),.int .i64 n] w fun e w'=>e=.returned (.bool (isFn [92,47] n))∧Keep (fun g=>g < w.heap.size) w w':=by
  go_enter Try.func41,Try.ntmps41
  generalize hs:str [92,47]=s
  have e0:(s.toList == [43])=false:=nq_ hs
  have e1:(s.toList == [45])=false:=nq_ hs
  have e2:(s.toList == [97,98,115])=false:=nq_ hs
  have e3:(s.toList == [115,105,103,110])=false:=nq_ hs
  have e4:(s.toList == [92])=false:=nq_ hs
  have e5:(s.toList == [42])=false:=nq_ hs
  have e6:(s.toList == [109,105,110])=false:=nq_ hs
  have e7:(s.toList == [109,97,120])=false:=nq_ hs
  have e8:(s.toList == [47,92])=false:=nq_ hs
  have e9:(s.toList == [92,47])=true:=by rw [← hs,str_eq];decide
  have e10:(s.toList == [120,111,114])=false:=nq_ hs
  have e11:(s.toList == [47,47])=false:=nq_ hs
  have e12:(s.toList == [114,101,109])=false:=nq_ hs
  have e13:(s.toList == [109,111,100])=false:=nq_ hs
  have e14:(s.toList == [62,62])=false:=nq_ hs
  have e15:(s.toList == [60,60])=false:=nq_ hs
  have e16:(s.toList == [94])=false:=nq_ hs
  have e17:(s.toList == [42,42])=false:=nq_ hs
  clear hs
  go_wp2
  all_goals (refine ret_bo rfl rfl rfl (Keep.refl _ w) ?_;simp [isFn,cast1,cast2, *];try omega)
set_option maxHeartbeats 1000000 in
theorem isf_xor (w:World) (n:Nat):Calls Try.prog 41 #[.string (str [120,111,114]),.int .i64 n] w fun e w'=>e=.returned (.bool (isFn [120,111,114] n))∧Keep (fun g=>g < w.heap.size) w w':=by
  go_enter Try.func41,Try.ntmps41
  generalize hs:str [120,111,114]=s
  have e0:(s.toList == [43])=false:=nq_ hs
  have e1:(s.toList == [45])=false:=nq_ hs
  have e2:(s.toList == [97,98,115])=false:=nq_ hs
  have e3:(s.toList == [115,105,103,110])=false:=nq_ hs
  have e4:(s.toList == [92])=false:=nq_ hs
  have e5:(s.toList == [42])=false:=nq_ hs
  have e6:(s.toList == [109,105,110])=false:=nq_ hs
  have e7:(s.toList == [109,97,120])=false:=nq_ hs
  have e8:(s.toList == [47,92])=false:=nq_ hs
  have e9:(s.toList == [92,47])=false:=nq_ hs
  have e10:(s.toList == [120,111,114])=true:=by rw [← hs,str_eq];decide
  have e11:(s.toList == [47,47])=false:=nq_ hs
  have e12:(s.toList == [114,101,109])=false:=nq_ hs
  have e13:(s.toList == [109,111,100])=false:=nq_ hs
  have e14:(s.toList == [62,62])=false:=nq_ hs
  have e15:(s.toList == [60,60])=false:=nq_ hs
  have e16:(s.toList == [94])=false:=nq_ hs
  have e17:(s.toList == [42,42])=false:=nq_ hs
  clear hs
  go_wp2
  all_goals (refine ret_bo rfl rfl rfl (Keep.refl _ w) ?_;simp [isFn,cast1,cast2, *];try omega)
set_option maxHeartbeats 1000000 in
theorem isf_quo (w:World) (n:Nat):Calls Try.prog 41 #[.string (str [47,47]),.int .i64 n] w fun e w'=>e=.returned (.bool (isFn [47,47] n))∧Keep (fun g=>g < w.heap.size) w w':=by
  go_enter Try.func41,Try.ntmps41
  generalize hs:str [47,47]=s
  have e0:(s.toList == [43])=false:=nq_ hs
  have e1:(s.toList == [45])=false:=nq_ hs
  have e2:(s.toList == [97,98,115])=false:=nq_ hs
  have e3:(s.toList == [115,105,103,110])=false:=nq_ hs
  have e4:(s.toList == [92])=false:=nq_ hs
  have e5:(s.toList == [42])=false:=nq_ hs
  have e6:(s.toList == [109,105,110])=false:=nq_ hs
  have e7:(s.toList == [109,97,120])=false:=nq_ hs
  have e8:(s.toList == [47,92])=false:=nq_ hs
  have e9:(s.toList == [92,47])=false:=nq_ hs
  have e10:(s.toList == [120,111,114])=false:=nq_ hs
  have e11:(s.toList == [47,47])=true:=by rw [← hs,str_eq];decide
  have e12:(s.toList == [114,101,109])=false:=nq_ hs
  have e13:(s.toList == [109,111,100])=false:=nq_ hs
  have e14:(s.toList == [62,62])=false:=nq_ hs
  have e15:(s.toList == [60,60])=false:=nq_ hs
  have e16:(s.toList == [94])=false:=nq_ hs
  have e17:(s.toList == [42,42])=false:=nq_ hs
  clear hs
  go_wp2
  all_goals (refine ret_bo rfl rfl rfl (Keep.refl _ w) ?_;simp [isFn,cast1,cast2, *];try omega)
set_option maxHeartbeats 1000000 in
theorem isf_rem (w:World) (n:Nat):Calls Try.prog 41 #[.string (str [114,101,109]),.int .i64 n] w fun e w'=>e=.returned (.bool (isFn [114,101,109] n))∧Keep (fun g=>g < w.heap.size) w w':=by
  go_enter Try.func41,Try.ntmps41
  generalize hs:str [114,101,109]=s
  have e0:(s.toList == [43])=false:=nq_ hs
  have e1:(s.toList == [45])=false:=nq_ hs
  have e2:(s.toList == [97,98,115])=false:=nq_ hs
  have e3:(s.toList == [115,105,103,110])=false:=nq_ hs
  have e4:(s.toList == [92])=false:=nq_ hs
  have e5:(s.toList == [42])=false:=nq_ hs
  have e6:(s.toList == [109,105,110])=false:=nq_ hs
  have e7:(s.toList == [109,97,120])=false:=nq_ hs
  have e8:(s.toList == [47,92])=false:=nq_ hs
  have e9:(s.toList == [92,47])=false:=nq_ hs
  have e10:(s.toList == [120,111,114])=false:=nq_ hs
  have e11:(s.toList == [47,47])=false:=nq_ hs
  have e12:(s.toList == [114,101,109])=true:=by rw [← hs,str_eq];decide
  have e13:(s.toList == [109,111,100])=false:=nq_ hs
  have e14:(s.toList == [62,62])=false:=nq_ hs
  have e15:(s.toList == [60,60])=false:=nq_ hs
  have e16:(s.toList == [94])=false:=nq_ hs
  have e17:(s.toList == [42,42])=false:=nq_ hs
  clear hs
  go_wp2
  all_goals (refine ret_bo rfl rfl rfl (Keep.refl _ w) ?_;simp [isFn,cast1,cast2, *];try omega)
set_option maxHeartbeats 1000000 in
theorem isf_mod (w:World) (n:Nat):Calls Try.prog 41 #[.string (str [109,111,100]),.int .i64 n] w fun e w'=>e=.returned (.bool (isFn [109,111,100] n))∧Keep (fun g=>g < w.heap.size) w w':=by
  go_enter Try.func41,Try.ntmps41
  generalize hs:str [109,111,100]=s
  have e0:(s.toList == [43])=false:=nq_ hs
  have e1:(s.toList == [45])=false:=nq_ hs
  have e2:(s.toList == [97,98,115])=false:=nq_ hs
  have e3:(s.toList == [115,105,103,110])=false:=nq_ hs
  have e4:(s.toList == [92])=false:=nq_ hs
  have e5:(s.toList == [42])=false:=nq_ hs
  have e6:(s.toList == [109,105,110])=false:=nq_ hs
  have e7:(s.toList == [109,97,120])=false:=nq_ hs
  have e8:(s.toList == [47,92])=false:=nq_ hs
  have e9:(s.toList == [92,47])=false:=nq_ hs
  have e10:(s.toList == [120,111,114])=false:=nq_ hs
  have e11:(s.toList == [47,47])=false:=nq_ hs
  have e12:(s.toList == [114,101,109])=false:=nq_ hs
  have e13:(s.toList == [109,111,100])=true:=by rw [← hs,str_eq];decide
  have e14:(s.toList == [62,62])=false:=nq_ hs
  have e15:(s.toList == [60,60])=false:=nq_ hs
  have e16:(s.toList == [94])=false:=nq_ hs
  have e17:(s.toList == [42,42])=false:=nq_ hs
  clear hs
  go_wp2
  all_goals (refine ret_bo rfl rfl rfl (Keep.refl _ w) ?_;simp [isFn,cast1,cast2, *];try omega)
set_option maxHeartbeats 1000000 in
theorem isf_shr (w:World) (n:Nat):Calls Try.prog 41 #[.string (str [62,62]),.int .i64 n] w fun e w'=>e=.returned (.bool (isFn [62,62] n))∧Keep (fun g=>g < w.heap.size) w w':=by
  go_enter Try.func41,Try.ntmps41
  generalize hs:str [62,62]=s
  have e0:(s.toList == [43])=false:=nq_ hs
  have e1:(s.toList == [45])=false:=nq_ hs
  have e2:(s.toList == [97,98,115])=false:=nq_ hs
  have e3:(s.toList == [115,105,103,110])=false:=nq_ hs
  have e4:(s.toList == [92])=false:=nq_ hs
  have e5:(s.toList == [42])=false:=nq_ hs
  have e6:(s.toList == [109,105,110])=false:=nq_ hs
  have e7:(s.toList == [109,97,120])=false:=nq_ hs
  have e8:(s.toList == [47,92])=false:=nq_ hs
  have e9:(s.toList == [92,47])=false:=nq_ hs
  have e10:(s.toList == [120,111,114])=false:=nq_ hs
  have e11:(s.toList == [47,47])=false:=nq_ hs
  have e12:(s.toList == [114,101,109])=false:=nq_ hs
  have e13:(s.toList == [109,111,100])=false:=nq_ hs
  have e14:(s.toList == [62,62])=true:=by rw [← hs,str_eq];decide
  have e15:(s.toList == [60,60])=false:=nq_ hs
  have e16:(s.toList == [94])=false:=nq_ hs
  have e17:(s.toList == [42,42])=false:=nq_ hs
  clear hs
  go_wp2
  all_goals (refine ret_bo rfl rfl rfl (Keep.refl _ w) ?_;simp [isFn,cast1,cast2, *];try omega)
set_option maxHeartbeats 1000000 in
theorem isf_shl (w:World) (n:Nat):Calls Try.prog 41 #[.string (str [60,60]),.int .i64 n] w fun e w'=>e=.returned (.bool (isFn [60,60] n))∧Keep (fun g=>g < w.heap.size) w w':=by
  go_enter Try.func41,Try.ntmps41
  generalize hs:str [60,60]=s
  have e0:(s.toList == [43])=false:=nq_ hs
  have e1:(s.toList == [45])=false:=nq_ hs
  have e2:(s.toList == [97,98,115])=false:=nq_ hs
  have e3:(s.toList == [115,105,103,110])=false:=nq_ hs
  have e4:(s.toList == [92])=false:=nq_ hs
  have e5:(s.toList == [42])=false:=nq_ hs
  have e6:(s.toList == [109,105,110])=false:=nq_ hs
  have e7:(s.toList == [109,97,120])=false:=nq_ hs
  have e8:(s.toList == [47,92])=false:=nq_ hs
  have e9:(s.toList == [92,47])=false:=nq_ hs
  have e10:(s.toList == [120,111,114])=false:=nq_ hs
  have e11:(s.toList == [47,47])=false:=nq_ hs
  have e12:(s.toList == [114,101,109])=false:=nq_ hs
  have e13:(s.toList == [109,111,100])=false:=nq_ hs
  have e14:(s.toList == [62,62])=false:=nq_ hs
  have e15:(s.toList == [60,60])=true:=by rw [← hs,str_eq];decide
  have e16:(s.toList == [94])=false:=nq_ hs
  have e17:(s.toList == [42,42])=false:=nq_ hs
  clear hs
  go_wp2
  all_goals (refine ret_bo rfl rfl rfl (Keep.refl _ w) ?_;simp [isFn,cast1,cast2, *];try omega)
set_option maxHeartbeats 1000000 in
theorem isf_pow (w:World) (n:Nat):Calls Try.prog 41 #[.string (str [94]),.int .i64 n] w fun e w'=>e=.returned (.bool (isFn [94] n))∧Keep (fun g=>g < w.heap.size) w w':=by
  go_enter Try.func41,Try.ntmps41
  generalize hs:str [94]=s
  have e0:(s.toList == [43])=false:=nq_ hs
  have e1:(s.toList == [45])=false:=nq_ hs
  have e2:(s.toList == [97,98,115])=false:=nq_ hs
  have e3:(s.toList == [115,105,103,110])=false:=nq_ hs
  have e4:(s.toList == [92])=false:=nq_ hs
  have e5:(s.toList == [42])=false:=nq_ hs
  have e6:(s.toList == [109,105,110])=false:=nq_ hs
  have e7:(s.toList == [109,97,120])=false:=nq_ hs
  have e8:(s.toList == [47,92])=false:=nq_ hs
  have e9:(s.toList == [92,47])=false:=nq_ hs
  have e10:(s.toList == [120,111,114])=false:=nq_ hs
  have e11:(s.toList == [47,47])=false:=nq_ hs
  have e12:(s.toList == [114,101,109])=false:=nq_ hs
  have e13:(s.toList == [109,111,100])=false:=nq_ hs
  have e14:(s.toList == [62,62])=false:=nq_ hs
  have e15:(s.toList == [60,60])=false:=nq_ hs
  have e16:(s.toList == [94])=true:=by rw [← hs,str_eq];decide
  have e17:(s.toList == [42,42])=false:=nq_ hs
  clear hs
  go_wp2
  all_goals (refine ret_bo rfl rfl rfl (Keep.refl _ w) ?_;simp [isFn,cast1,cast2, *];try omega)
set_option maxHeartbeats 1000000 in
theorem isf_pow2 (w:World) (n:Nat):Calls Try.prog 41 #[.string (str [42,42]),.int .i64 n] w fun e w'=>e=.returned (.bool (isFn [42,42] n))∧Keep (fun g=>g < w.heap.size) w w':=by
  go_enter Try.func41,Try.ntmps41
  generalize hs:str [42,42]=s
  have e0:(s.toList == [43])=false:=nq_ hs
  have e1:(s.toList == [45])=false:=nq_ hs
  have e2:(s.toList == [97,98,115])=false:=nq_ hs
  have e3:(s.toList == [115,105,103,110])=false:=nq_ hs
  have e4:(s.toList == [92])=false:=nq_ hs
  have e5:(s.toList == [42])=false:=nq_ hs
  have e6:(s.toList == [109,105,110])=false:=nq_ hs
  have e7:(s.toList == [109,97,120])=false:=nq_ hs
  have e8:(s.toList == [47,92])=false:=nq_ hs
  have e9:(s.toList == [92,47])=false:=nq_ hs
  have e10:(s.toList == [120,111,114])=false:=nq_ hs
  have e11:(s.toList == [47,47])=false:=nq_ hs
  have e12:(s.toList == [114,101,109])=false:=nq_ hs
  have e13:(s.toList == [109,111,100])=false:=nq_ hs
  have e14:(s.toList == [62,62])=false:=nq_ hs
  have e15:(s.toList == [60,60])=false:=nq_ hs
  have e16:(s.toList == [94])=false:=nq_ hs
  have e17:(s.toList == [42,42])=true:=by rw [← hs,str_eq];decide
  clear hs
  go_wp2
  all_goals (refine ret_bo rfl rfl rfl (Keep.refl _ w) ?_;simp [isFn,cast1,cast2, *];try omega)
set_option maxHeartbeats 1000000 in
theorem isf_none (w:World) (nm:List UInt8) (n:Nat) (h:((str nm).toList == [43])=false∧((str nm).toList == [45])=false∧((str nm).toList == [97,98,115])=false∧((str nm).toList == [115,105,103,110])=false∧((str nm).toList == [92])=false∧((str nm).toList == [42])=false∧((str nm).toList == [109,105,110])=false∧((str nm).toList == [109,97,120])=false∧((str nm).toList == [47,92])=false∧((str nm).toList == [92,47])=false∧((str nm).toList == [120,111,114])=false∧((str nm).toList == [47,47])=false∧((str nm).toList == [114,101,109])=false∧((str nm).toList == [109,111,100])=false∧((str nm).toList == [62,62])=false∧((str nm).toList == [60,60])=false∧((str nm).toList == [94])=false∧((str nm).toList == [42,42])=false):Calls Try.prog 41 #[.string (str nm),.int .i64 n] w fun e w'=>e=.returned (.bool (isFn nm n))∧Keep (fun g=>g < w.heap.size) w w':=by
  have hs:isFn nm n=false:=by
    simp only [str_eq,decide_eq_false_iff_not] at h
    simp [isFn,h]
  rw [hs];clear hs
  obtain ⟨h0,h1,h2,h3,h4,h5,h6,h7,h8,h9,h10,h11,h12,h13,h14,h15,h16,h17⟩:=h
  go_enter Try.func41,Try.ntmps41
  go_wp2
  all_goals (refine ret_bo rfl rfl rfl (Keep.refl _ w) ?_;rfl)
theorem isFunction_any (w:World) (nm:List UInt8) (n:Nat):Calls Try.prog 41 #[.string (str nm),.int .i64 n] w fun e w'=>e=.returned (.bool (isFn nm n))∧Keep (fun g=>g < w.heap.size) w w':=by
  rcases name_all nm with rfl | rfl | rfl | rfl | rfl | rfl | rfl | rfl | rfl | rfl | rfl | rfl | rfl | rfl | rfl | rfl | rfl | rfl | h
  · exact isf_plus w n
  · exact isf_minus w n
  · exact isf_abs w n
  · exact isf_sign w n
  · exact isf_bs w n
  · exact isf_mul w n
  · exact isf_min w n
  · exact isf_max w n
  · exact isf_and w n
  · exact isf_or w n
  · exact isf_xor w n
  · exact isf_quo w n
  · exact isf_rem w n
  · exact isf_mod w n
  · exact isf_shr w n
  · exact isf_shl w n
  · exact isf_pow w n
  · exact isf_pow2 w n
  · exact isf_none w nm n h
end Go.Proofs.Ytmgephleogiaoaa
