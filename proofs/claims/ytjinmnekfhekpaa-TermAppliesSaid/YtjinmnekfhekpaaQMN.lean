/-
  Joined texts (Tv27a, Tv27b, Tv27c). No condition.
-/
import Derived.Test.YtjinmnekfhekpaaQMA
import Derived.Deep.RegionHeld3
import Derived.Lib.Hide
namespace Go.Proofs.Ytjinmnekfhekpaa
open Go.RowKit Go.Maps
set_option linter.unusedVariables false
set_option linter.unusedSimpArgs false
def lst10 (n:Nat):Array Bool:=(List.replicate n true ++ List.replicate (74 - n) false).toArray
theorem wanted_none10 {o:Oper} {y:Nat→Option Bool} (h:o.guard=none):Region.wanted o y=true:=by unfold Region.wanted;rw [h]
theorem wanted_some10 {ops:Array Oper} {o:Oper} {a:Act} {j d:Nat} (hg:o.guard=some (j,true)) (hj:(ops[j]?).bind (·.dst)=some d) (h:a.tmps[d]? = some (.bool true)):Region.wanted o (yielded ops a.tmps)=true:=by
  unfold Region.wanted yielded;rw [hg];simp [hj,h]
structure Fr10 (a0 a:Act):Prop where
  size:a.tmps.size=215
  defers:a.defers=[]
  low:∀ k,k < 142→k ≠ 0→a.tmps[k]? = a0.tmps[k]?
theorem Fr10.put {a0 a a':Act} (h:Fr10 a0 a) {d:Nat} {v:Value} (he:a'=a.put (some d) v) (hd:142 ≤ d∨d=0):Fr10 a0 a':=by
  subst he;refine ⟨?_,h.defers,fun k hk hk0=>?_⟩
  · show (a.tmps.setIfInBounds d v).size=215;rw [Array.size_setIfInBounds];exact h.size
  · show (a.tmps.setIfInBounds d v)[k]? = _;rw [Array.getElem?_setIfInBounds_ne (by omega)];exact h.low k hk hk0
theorem Fr10.at_ {a0 a a':Act} (h:Fr10 a0 a) {d:Nat} {v:Value} (he:a'=a.put (some d) v) (hd:d < 215):a'.tmps[d]? = some v:=by
  subst he;show (a.tmps.setIfInBounds d v)[d]? = _;rw [Array.getElem?_setIfInBounds_self,if_pos (by rw [h.size];exact hd)]
theorem Fr10.on {a a':Act} {d k:Nat} {v u:Value} (he:a'=a.put (some d) v) (hk:a.tmps[k]? = some u) (hne:d ≠ k):a'.tmps[k]? = some u:=by
  subst he;show (a.tmps.setIfInBounds d v)[k]? = _;rw [Array.getElem?_setIfInBounds_ne hne];exact hk
section
variable {P:Program} {ops:Array Oper} {Q:Exit→Act→World→Prop} {S:World→Prop}
theorem take10 {i:Nat} {oi:Oper} {d:Nat} {v:Value} {fuel:Nat} {listed l':Array Bool} {a:Act} {w:World}
    (hi:ops[i]? = some oi) (hd:oi.dst=some d) (hs:Region.noSelect ops=true) (hf:Region.free .any ops listed i=true) (hr:(Region.ready .any ops listed).contains i=true)
    (hl:listed.setIfInBounds i true=l') (hw:Region.wanted oi (yielded ops a.tmps)=true) (hS:S w)
    (hy:∀ w,S w→(execOp a.eval oi).run P w=.ok (.value v) w)
    (h:∀ a',a'=a.put (some d) v→wpAnyH P .any ops (NoPanic Q) S fuel l' a' w):wpAnyH P .any ops (NoPanic Q) S (fuel + 1) listed a w:=by
  subst hl;refine wpAnyH_take hi hs hf hr (fun _ _ _ h=>h) (Or.inl ⟨hw,hy⟩) hS ?_;rw [hd];exact h _ rfl
end
def fd_ (n:Nat):Edge:={ on:=n,ground:=.data }
def fc_ (n:Nat):Edge:={ on:=n,ground:=.chain }
def fg_ (n:Nat):Edge:={ on:=n,ground:=.guard }
def fp_ (n:Nat):Edge:={ on:=n,ground:=.phase }
def op0_10:Oper:={ dst:=some 142,op:=Op.load 24 (Operand.tmp 12),type:=24,pos := "law.go:26",after:=#[],guard:=none }
def op1_10:Oper:={ dst:=some 143,op:=Op.call { callee:=Callee.value (Operand.func 34),args:=#[Operand.const (Value.int IntKind.i64 1)],argTypes:=#[2] },type:=24,pos := "law.go:26",after:=#[],guard:=none }
def op2_10:Oper:={ dst:=some 144,op:=Op.call { callee:=Callee.value (Operand.func 34),args:=#[Operand.const (Value.int IntKind.i64 2)],argTypes:=#[2] },type:=24,pos := "law.go:26",after:=#[fc_ 1],guard:=none }
def op3_10:Oper:={ dst:=some 145,op:=Op.call { callee:=Callee.value (Operand.func 34),args:=#[Operand.const (Value.int IntKind.i64 1)],argTypes:=#[2] },type:=24,pos := "law.go:26",after:=#[fc_ 2],guard:=none }
def op4_10:Oper:={ dst:=some 146,op:=Op.buildSlice 22 3 #[(0,Operand.tmp 143),(1,Operand.tmp 144),(2,Operand.tmp 145)],type:=22,pos := "law.go:26",after:=#[fd_ 1,fd_ 2,fd_ 3],guard:=none }
def op5_10:Oper:={ dst:=some 147,op:=Op.call { callee:=Callee.value (Operand.func 30),args:=#[Operand.const (Value.string { data:=#[102] }),Operand.tmp 146],argTypes:=#[9,22] },type:=24,pos := "law.go:26",after:=#[fd_ 4,fc_ 3],guard:=none }
def op6_10:Oper:={ dst:=some 148,op:=Op.call { callee:=Callee.value (Operand.func 15),args:=#[Operand.tmp 142,Operand.tmp 147],argTypes:=#[24,24] },type:=4,pos := "law.go:26",after:=#[fd_ 0,fd_ 5,fc_ 5],guard:=none }
def op7_10:Oper:={ dst:=some 149,op:=Op.move (Operand.tmp 148),type:=4,pos := "law.go:26",after:=#[fd_ 6,fc_ 6],guard:=none }
def op8_10:Oper:={ dst:=some 150,op:=Op.call { callee:=Callee.value (Operand.func 34),args:=#[Operand.const (Value.int IntKind.i64 9)],argTypes:=#[2] },type:=24,pos := "law.go:26",after:=#[fc_ 7,fg_ 7],guard:=some (7,true) }
def op9_10:Oper:={ dst:=some 151,op:=Op.call { callee:=Callee.value (Operand.func 31),args:=#[Operand.const (Value.int IntKind.i64 3)],argTypes:=#[2] },type:=24,pos := "law.go:26",after:=#[fc_ 8,fg_ 7],guard:=some (7,true) }
def op10_10:Oper:={ dst:=some 152,op:=Op.call { callee:=Callee.value (Operand.func 35),args:=#[Operand.tmp 150,Operand.tmp 151],argTypes:=#[24,24] },type:=3,pos := "law.go:26",after:=#[fd_ 8,fd_ 9,fc_ 9,fg_ 7],guard:=some (7,true) }
def op11_10:Oper:={ dst:=some 153,op:=Op.binOp BinOp.eql 3 (Operand.tmp 152) (Operand.const (Value.int IntKind.i64 (-1))) 3,type:=4,pos := "law.go:26",after:=#[fd_ 10,fg_ 7],guard:=some (7,true) }
def op12_10:Oper:={ dst:=some 154,op:=Op.pick (Operand.tmp 149) (Operand.tmp 153) (Operand.const (Value.bool false)),type:=4,pos := "law.go:26",after:=#[fd_ 7,fd_ 11],guard:=none }
def op13_10:Oper:={ dst:=some 155,op:=Op.move (Operand.tmp 154),type:=4,pos := "law.go:26",after:=#[fd_ 12,fc_ 10],guard:=none }
def op14_10:Oper:={ dst:=some 156,op:=Op.load 24 (Operand.tmp 1),type:=24,pos := "law.go:26",after:=#[fg_ 13],guard:=some (13,true) }
def op15_10:Oper:={ dst:=some 157,op:=Op.buildSlice 22 1 #[(0,Operand.tmp 156)],type:=22,pos := "law.go:26",after:=#[fd_ 14,fg_ 13],guard:=some (13,true) }
def op16_10:Oper:={ dst:=some 158,op:=Op.call { callee:=Callee.value (Operand.func 30),args:=#[Operand.const (Value.string { data:=#[103] }),Operand.tmp 157],argTypes:=#[9,22] },type:=24,pos := "law.go:26",after:=#[fd_ 15,fc_ 13,fg_ 13],guard:=some (13,true) }
def op17_10:Oper:={ dst:=some 159,op:=Op.load 24 (Operand.tmp 1),type:=24,pos := "law.go:26",after:=#[fg_ 13],guard:=some (13,true) }
def op18_10:Oper:={ dst:=some 160,op:=Op.load 24 (Operand.tmp 1),type:=24,pos := "law.go:26",after:=#[fg_ 13],guard:=some (13,true) }
def op19_10:Oper:={ dst:=some 161,op:=Op.buildSlice 22 2 #[(0,Operand.tmp 159),(1,Operand.tmp 160)],type:=22,pos := "law.go:26",after:=#[fd_ 17,fd_ 18,fg_ 13],guard:=some (13,true) }
def op20_10:Oper:={ dst:=some 162,op:=Op.call { callee:=Callee.value (Operand.func 30),args:=#[Operand.const (Value.string { data:=#[102] }),Operand.tmp 161],argTypes:=#[9,22] },type:=24,pos := "law.go:26",after:=#[fd_ 19,fc_ 16,fg_ 13],guard:=some (13,true) }
def op21_10:Oper:={ dst:=some 163,op:=Op.call { callee:=Callee.value (Operand.func 35),args:=#[Operand.tmp 158,Operand.tmp 162],argTypes:=#[24,24] },type:=3,pos := "law.go:26",after:=#[fd_ 16,fd_ 20,fc_ 20,fg_ 13],guard:=some (13,true) }
def op22_10:Oper:={ dst:=some 164,op:=Op.binOp BinOp.eql 3 (Operand.tmp 163) (Operand.const (Value.int IntKind.i64 (-1))) 3,type:=4,pos := "law.go:26",after:=#[fd_ 21,fg_ 13],guard:=some (13,true) }
def op23_10:Oper:={ dst:=some 165,op:=Op.pick (Operand.tmp 155) (Operand.tmp 164) (Operand.const (Value.bool false)),type:=4,pos := "law.go:26",after:=#[fd_ 13,fd_ 22],guard:=none }
def op24_10:Oper:={ dst:=some 166,op:=Op.move (Operand.tmp 165),type:=4,pos := "law.go:26",after:=#[fd_ 23,fc_ 21],guard:=none }
def op25_10:Oper:={ dst:=some 167,op:=Op.move (Operand.tmp 16),type:=31,pos := "law.go:26",after:=#[fg_ 24],guard:=some (24,true) }
def op26_10:Oper:={ dst:=some 168,op:=Op.binOp BinOp.eql 31 (Operand.tmp 167) (Operand.const (Value.int IntKind.i64 0)) 31,type:=4,pos := "law.go:26",after:=#[fd_ 25,fg_ 24],guard:=some (24,true) }
def op27_10:Oper:={ dst:=some 169,op:=Op.pick (Operand.tmp 166) (Operand.tmp 168) (Operand.const (Value.bool false)),type:=4,pos := "law.go:26",after:=#[fd_ 24,fd_ 26],guard:=none }
def op28_10:Oper:={ dst:=some 170,op:=Op.move (Operand.tmp 169),type:=4,pos := "law.go:26",after:=#[fd_ 27,fc_ 24],guard:=none }
def op29_10:Oper:={ dst:=some 171,op:=Op.move (Operand.tmp 17),type:=22,pos := "law.go:26",after:=#[fg_ 28],guard:=some (28,true) }
def op30_10:Oper:={ dst:=some 172,op:=Op.call { callee:=Callee.builtin Builtin.len,args:=#[Operand.tmp 171],argTypes:=#[22] },type:=3,pos := "law.go:26",after:=#[fd_ 29,fg_ 28],guard:=some (28,true) }
def op31_10:Oper:={ dst:=some 173,op:=Op.binOp BinOp.eql 3 (Operand.tmp 172) (Operand.const (Value.int IntKind.i64 2)) 3,type:=4,pos := "law.go:26",after:=#[fd_ 30,fg_ 28],guard:=some (28,true) }
def op32_10:Oper:={ dst:=some 174,op:=Op.pick (Operand.tmp 170) (Operand.tmp 173) (Operand.const (Value.bool false)),type:=4,pos := "law.go:26",after:=#[fd_ 28,fd_ 31],guard:=none }
def op33_10:Oper:={ dst:=some 175,op:=Op.move (Operand.tmp 174),type:=4,pos := "law.go:26",after:=#[fd_ 32,fc_ 28],guard:=none }
def op34_10:Oper:={ dst:=some 176,op:=Op.fieldAddr 24 (Operand.tmp 18) 1,type:=0,pos := "law.go:26",after:=#[fg_ 33],guard:=some (33,true) }
def op35_10:Oper:={ dst:=some 177,op:=Op.load 9 (Operand.tmp 176),type:=9,pos := "law.go:26",after:=#[fd_ 34,fg_ 33],guard:=some (33,true) }
def op36_10:Oper:={ dst:=some 178,op:=Op.binOp BinOp.eql 9 (Operand.tmp 177) (Operand.const (Value.string { data:=#[91,93] })) 9,type:=4,pos := "law.go:26",after:=#[fd_ 35,fg_ 33],guard:=some (33,true) }
def op37_10:Oper:={ dst:=some 179,op:=Op.pick (Operand.tmp 175) (Operand.tmp 178) (Operand.const (Value.bool false)),type:=4,pos := "law.go:26",after:=#[fd_ 33,fd_ 36],guard:=none }
def op38_10:Oper:={ dst:=some 180,op:=Op.move (Operand.tmp 179),type:=4,pos := "law.go:26",after:=#[fd_ 37,fc_ 33],guard:=none }
def op39_10:Oper:={ dst:=some 181,op:=Op.load 24 (Operand.tmp 15),type:=24,pos := "law.go:26",after:=#[fg_ 38],guard:=some (38,true) }
def op40_10:Oper:={ dst:=some 182,op:=Op.call { callee:=Callee.value (Operand.func 36),args:=#[Operand.tmp 181],argTypes:=#[24] },type:=3,pos := "law.go:26",after:=#[fd_ 39,fc_ 38,fg_ 38],guard:=some (38,true) }
def op41_10:Oper:={ dst:=some 183,op:=Op.binOp BinOp.eql 3 (Operand.tmp 182) (Operand.const (Value.int IntKind.i64 5)) 3,type:=4,pos := "law.go:26",after:=#[fd_ 40,fg_ 38],guard:=some (38,true) }
def op42_10:Oper:={ dst:=some 184,op:=Op.pick (Operand.tmp 180) (Operand.tmp 183) (Operand.const (Value.bool false)),type:=4,pos := "law.go:26",after:=#[fd_ 38,fd_ 41],guard:=none }
def op43_10:Oper:={ dst:=some 185,op:=Op.move (Operand.tmp 184),type:=4,pos := "law.go:26",after:=#[fd_ 42,fc_ 40],guard:=none }
def op44_10:Oper:={ dst:=some 186,op:=Op.load 24 (Operand.tmp 15),type:=24,pos := "law.go:26",after:=#[fg_ 43],guard:=some (43,true) }
def op45_10:Oper:={ dst:=some 187,op:=Op.call { callee:=Callee.value (Operand.func 37),args:=#[Operand.tmp 186],argTypes:=#[24] },type:=3,pos := "law.go:26",after:=#[fd_ 44,fc_ 43,fg_ 43],guard:=some (43,true) }
def op46_10:Oper:={ dst:=some 188,op:=Op.binOp BinOp.eql 3 (Operand.tmp 187) (Operand.const (Value.int IntKind.i64 3)) 3,type:=4,pos := "law.go:26",after:=#[fd_ 45,fg_ 43],guard:=some (43,true) }
def op47_10:Oper:={ dst:=some 189,op:=Op.pick (Operand.tmp 185) (Operand.tmp 188) (Operand.const (Value.bool false)),type:=4,pos := "law.go:26",after:=#[fd_ 43,fd_ 46],guard:=none }
def op48_10:Oper:={ dst:=some 190,op:=Op.move (Operand.tmp 189),type:=4,pos := "law.go:26",after:=#[fd_ 47,fc_ 45],guard:=none }
def op49_10:Oper:={ dst:=some 191,op:=Op.load 24 (Operand.tmp 12),type:=24,pos := "law.go:26",after:=#[fg_ 48],guard:=some (48,true) }
def op50_10:Oper:={ dst:=some 192,op:=Op.call { callee:=Callee.value (Operand.func 38),args:=#[Operand.tmp 191],argTypes:=#[24] },type:=56,pos := "law.go:26",after:=#[fd_ 49,fc_ 48,fg_ 48],guard:=some (48,true) }
def op51_10:Oper:={ dst:=some 193,op:=Op.call { callee:=Callee.builtin Builtin.len,args:=#[Operand.tmp 192],argTypes:=#[56] },type:=3,pos := "law.go:26",after:=#[fd_ 50,fg_ 48],guard:=some (48,true) }
def op52_10:Oper:={ dst:=some 194,op:=Op.binOp BinOp.eql 3 (Operand.tmp 193) (Operand.const (Value.int IntKind.i64 2)) 3,type:=4,pos := "law.go:26",after:=#[fd_ 51,fg_ 48],guard:=some (48,true) }
def op53_10:Oper:={ dst:=some 195,op:=Op.pick (Operand.tmp 190) (Operand.tmp 194) (Operand.const (Value.bool false)),type:=4,pos := "law.go:26",after:=#[fd_ 48,fd_ 52],guard:=none }
def op54_10:Oper:={ dst:=some 196,op:=Op.move (Operand.tmp 195),type:=4,pos := "law.go:26",after:=#[fd_ 53,fc_ 50],guard:=none }
def op55_10:Oper:={ dst:=some 197,op:=Op.load 24 (Operand.tmp 12),type:=24,pos := "law.go:26",after:=#[fg_ 54],guard:=some (54,true) }
def op56_10:Oper:={ dst:=some 198,op:=Op.load 24 (Operand.tmp 12),type:=24,pos := "law.go:26",after:=#[fg_ 54],guard:=some (54,true) }
def op57_10:Oper:={ dst:=some 199,op:=Op.call { callee:=Callee.value (Operand.func 39),args:=#[Operand.tmp 197,Operand.tmp 198],argTypes:=#[24,24] },type:=4,pos := "law.go:26",after:=#[fd_ 55,fd_ 56,fc_ 54,fg_ 54],guard:=some (54,true) }
def op58_10:Oper:={ dst:=some 200,op:=Op.pick (Operand.tmp 196) (Operand.tmp 199) (Operand.const (Value.bool false)),type:=4,pos := "law.go:26",after:=#[fd_ 54,fd_ 57],guard:=none }
def op59_10:Oper:={ dst:=some 201,op:=Op.move (Operand.tmp 200),type:=4,pos := "law.go:26",after:=#[fd_ 58,fc_ 57],guard:=none }
def op60_10:Oper:={ dst:=some 202,op:=Op.load 24 (Operand.tmp 12),type:=24,pos := "law.go:26",after:=#[fg_ 59],guard:=some (59,true) }
def op61_10:Oper:={ dst:=some 203,op:=Op.call { callee:=Callee.value (Operand.func 40),args:=#[Operand.tmp 202],argTypes:=#[24] },type:=31,pos := "law.go:26",after:=#[fd_ 60,fc_ 59,fg_ 59],guard:=some (59,true) }
def op62_10:Oper:={ dst:=some 204,op:=Op.binOp BinOp.eql 31 (Operand.tmp 203) (Operand.const (Value.int IntKind.i64 0)) 31,type:=4,pos := "law.go:26",after:=#[fd_ 61,fg_ 59],guard:=some (59,true) }
def op63_10:Oper:={ dst:=some 205,op:=Op.pick (Operand.tmp 201) (Operand.tmp 204) (Operand.const (Value.bool false)),type:=4,pos := "law.go:26",after:=#[fd_ 59,fd_ 62],guard:=none }
def op64_10:Oper:={ dst:=some 206,op:=Op.move (Operand.tmp 205),type:=4,pos := "law.go:26",after:=#[fd_ 63,fc_ 61],guard:=none }
def op65_10:Oper:={ dst:=some 207,op:=Op.load 24 (Operand.tmp 12),type:=24,pos := "law.go:26",after:=#[fg_ 64],guard:=some (64,true) }
def op66_10:Oper:={ dst:=some 208,op:=Op.call { callee:=Callee.value (Operand.func 34),args:=#[Operand.const (Value.int IntKind.i64 4)],argTypes:=#[2] },type:=24,pos := "law.go:26",after:=#[fc_ 64,fg_ 64],guard:=some (64,true) }
def op67_10:Oper:={ dst:=some 209,op:=Op.call { callee:=Callee.value (Operand.func 34),args:=#[Operand.const (Value.int IntKind.i64 5)],argTypes:=#[2] },type:=24,pos := "law.go:26",after:=#[fc_ 66,fg_ 64],guard:=some (64,true) }
def op68_10:Oper:={ dst:=some 210,op:=Op.call { callee:=Callee.value (Operand.func 34),args:=#[Operand.const (Value.int IntKind.i64 4)],argTypes:=#[2] },type:=24,pos := "law.go:26",after:=#[fc_ 67,fg_ 64],guard:=some (64,true) }
def op69_10:Oper:={ dst:=some 211,op:=Op.buildSlice 22 3 #[(0,Operand.tmp 208),(1,Operand.tmp 209),(2,Operand.tmp 210)],type:=22,pos := "law.go:26",after:=#[fd_ 66,fd_ 67,fd_ 68,fg_ 64],guard:=some (64,true) }
def op70_10:Oper:={ dst:=some 212,op:=Op.call { callee:=Callee.value (Operand.func 30),args:=#[Operand.const (Value.string { data:=#[102] }),Operand.tmp 211],argTypes:=#[9,22] },type:=24,pos := "law.go:26",after:=#[fd_ 69,fc_ 68,fg_ 64],guard:=some (64,true) }
def op71_10:Oper:={ dst:=some 213,op:=Op.call { callee:=Callee.value (Operand.func 41),args:=#[Operand.tmp 207,Operand.tmp 212],argTypes:=#[24,24] },type:=4,pos := "law.go:26",after:=#[fd_ 65,fd_ 70,fc_ 70,fg_ 64],guard:=some (64,true) }
def op72_10:Oper:={ dst:=some 214,op:=Op.pick (Operand.tmp 206) (Operand.tmp 213) (Operand.const (Value.bool false)),type:=4,pos := "law.go:26",after:=#[fd_ 64,fd_ 71],guard:=none }
def op73_10:Oper:={ dst:=some 0,op:=Op.assign (Operand.tmp 214),type:=4,pos := "law.go:26",after:=([fd_ 72,fc_ 71,fp_ 0,fp_ 1,fp_ 2,fp_ 3,fp_ 4,fp_ 5,fp_ 6,fp_ 7,fp_ 8,fp_ 9,fp_ 10,fp_ 11,fp_ 12,fp_ 13,fp_ 14,fp_ 15,fp_ 16,fp_ 17,fp_ 18,fp_ 19,fp_ 20,fp_ 21,fp_ 22,fp_ 23,fp_ 24,fp_ 25,fp_ 26,fp_ 27,fp_ 28,fp_ 29,fp_ 30,fp_ 31,fp_ 32,fp_ 33,fp_ 34].append [fp_ 35,fp_ 36,fp_ 37,fp_ 38,fp_ 39,fp_ 40,fp_ 41,fp_ 42,fp_ 43,fp_ 44,fp_ 45,fp_ 46,fp_ 47,fp_ 48,fp_ 49,fp_ 50,fp_ 51,fp_ 52,fp_ 53,fp_ 54,fp_ 55,fp_ 56,fp_ 57,fp_ 58,fp_ 59,fp_ 60,fp_ 61,fp_ 62,fp_ 63,fp_ 64,fp_ 65,fp_ 66,fp_ 67,fp_ 68,fp_ 69,fp_ 70,fp_ 71,fp_ 72]).toArray,guard:=none }
set_option maxRecDepth 100000 in
def ops10:Array Oper:=List.toArray (op0_10::op1_10::op2_10::op3_10::op4_10::op5_10::op6_10::op7_10::op8_10::op9_10::op10_10::op11_10::op12_10::op13_10::op14_10::op15_10::op16_10::op17_10::op18_10::op19_10::op20_10::op21_10::op22_10::op23_10::op24_10::op25_10::op26_10::op27_10::op28_10::op29_10::op30_10::op31_10::op32_10::op33_10::op34_10::op35_10::op36_10::op37_10::op38_10::op39_10::op40_10::op41_10::op42_10::op43_10::op44_10::op45_10::op46_10::op47_10::op48_10::op49_10::op50_10::op51_10::op52_10::op53_10::op54_10::op55_10::op56_10::op57_10::op58_10::op59_10::op60_10::op61_10::op62_10::op63_10::op64_10::op65_10::op66_10::op67_10::op68_10::op69_10::op70_10::op71_10::op72_10::op73_10::[])
theorem g0_10:ops10[0]? = some op0_10:=by kernel_rfl
theorem g1_10:ops10[1]? = some op1_10:=by kernel_rfl
theorem g2_10:ops10[2]? = some op2_10:=by kernel_rfl
theorem g3_10:ops10[3]? = some op3_10:=by kernel_rfl
theorem g4_10:ops10[4]? = some op4_10:=by kernel_rfl
theorem g5_10:ops10[5]? = some op5_10:=by kernel_rfl
theorem g6_10:ops10[6]? = some op6_10:=by kernel_rfl
theorem g7_10:ops10[7]? = some op7_10:=by kernel_rfl
theorem g8_10:ops10[8]? = some op8_10:=by kernel_rfl
theorem g9_10:ops10[9]? = some op9_10:=by kernel_rfl
theorem g10_10:ops10[10]? = some op10_10:=by kernel_rfl
theorem g11_10:ops10[11]? = some op11_10:=by kernel_rfl
theorem g12_10:ops10[12]? = some op12_10:=by kernel_rfl
theorem g13_10:ops10[13]? = some op13_10:=by kernel_rfl
theorem g14_10:ops10[14]? = some op14_10:=by kernel_rfl
theorem g15_10:ops10[15]? = some op15_10:=by kernel_rfl
theorem g16_10:ops10[16]? = some op16_10:=by kernel_rfl
theorem g17_10:ops10[17]? = some op17_10:=by kernel_rfl
theorem g18_10:ops10[18]? = some op18_10:=by kernel_rfl
theorem g19_10:ops10[19]? = some op19_10:=by kernel_rfl
theorem g20_10:ops10[20]? = some op20_10:=by kernel_rfl
theorem g21_10:ops10[21]? = some op21_10:=by kernel_rfl
theorem g22_10:ops10[22]? = some op22_10:=by kernel_rfl
theorem g23_10:ops10[23]? = some op23_10:=by kernel_rfl
theorem g24_10:ops10[24]? = some op24_10:=by kernel_rfl
theorem g25_10:ops10[25]? = some op25_10:=by kernel_rfl
theorem g26_10:ops10[26]? = some op26_10:=by kernel_rfl
theorem g27_10:ops10[27]? = some op27_10:=by kernel_rfl
theorem g28_10:ops10[28]? = some op28_10:=by kernel_rfl
theorem g29_10:ops10[29]? = some op29_10:=by kernel_rfl
theorem g30_10:ops10[30]? = some op30_10:=by kernel_rfl
theorem g31_10:ops10[31]? = some op31_10:=by kernel_rfl
theorem g32_10:ops10[32]? = some op32_10:=by kernel_rfl
theorem g33_10:ops10[33]? = some op33_10:=by kernel_rfl
theorem g34_10:ops10[34]? = some op34_10:=by kernel_rfl
theorem g35_10:ops10[35]? = some op35_10:=by kernel_rfl
theorem g36_10:ops10[36]? = some op36_10:=by kernel_rfl
theorem g37_10:ops10[37]? = some op37_10:=by kernel_rfl
theorem g38_10:ops10[38]? = some op38_10:=by kernel_rfl
theorem g39_10:ops10[39]? = some op39_10:=by kernel_rfl
theorem g40_10:ops10[40]? = some op40_10:=by kernel_rfl
theorem g41_10:ops10[41]? = some op41_10:=by kernel_rfl
theorem g42_10:ops10[42]? = some op42_10:=by kernel_rfl
theorem g43_10:ops10[43]? = some op43_10:=by kernel_rfl
theorem g44_10:ops10[44]? = some op44_10:=by kernel_rfl
theorem g45_10:ops10[45]? = some op45_10:=by kernel_rfl
theorem g46_10:ops10[46]? = some op46_10:=by kernel_rfl
theorem g47_10:ops10[47]? = some op47_10:=by kernel_rfl
theorem g48_10:ops10[48]? = some op48_10:=by kernel_rfl
theorem g49_10:ops10[49]? = some op49_10:=by kernel_rfl
theorem g50_10:ops10[50]? = some op50_10:=by kernel_rfl
theorem g51_10:ops10[51]? = some op51_10:=by kernel_rfl
theorem g52_10:ops10[52]? = some op52_10:=by kernel_rfl
theorem g53_10:ops10[53]? = some op53_10:=by kernel_rfl
theorem g54_10:ops10[54]? = some op54_10:=by kernel_rfl
theorem g55_10:ops10[55]? = some op55_10:=by kernel_rfl
theorem g56_10:ops10[56]? = some op56_10:=by kernel_rfl
theorem g57_10:ops10[57]? = some op57_10:=by kernel_rfl
theorem g58_10:ops10[58]? = some op58_10:=by kernel_rfl
theorem g59_10:ops10[59]? = some op59_10:=by kernel_rfl
theorem g60_10:ops10[60]? = some op60_10:=by kernel_rfl
theorem g61_10:ops10[61]? = some op61_10:=by kernel_rfl
theorem g62_10:ops10[62]? = some op62_10:=by kernel_rfl
theorem g63_10:ops10[63]? = some op63_10:=by kernel_rfl
theorem g64_10:ops10[64]? = some op64_10:=by kernel_rfl
theorem g65_10:ops10[65]? = some op65_10:=by kernel_rfl
theorem g66_10:ops10[66]? = some op66_10:=by kernel_rfl
theorem g67_10:ops10[67]? = some op67_10:=by kernel_rfl
theorem g68_10:ops10[68]? = some op68_10:=by kernel_rfl
theorem g69_10:ops10[69]? = some op69_10:=by kernel_rfl
theorem g70_10:ops10[70]? = some op70_10:=by kernel_rfl
theorem g71_10:ops10[71]? = some op71_10:=by kernel_rfl
theorem g72_10:ops10[72]? = some op72_10:=by kernel_rfl
theorem g73_10:ops10[73]? = some op73_10:=by kernel_rfl
theorem ns_10:Region.noSelect ops10=true:=by kernel_rfl
def S10 (ba br bl be:Nat) (ar al:Option Addr) (cr cl:Nat):World→Prop:=fun w'=>w'.cell? ⟨ba,0,none⟩=some (.int .i64 3)∧w'.cell? ⟨ba,1,none⟩=some (.string ⟨#[97]⟩)∧w'.cell? ⟨ba,2,none⟩=some (.int .i64 0)∧w'.cell? ⟨ba,3,none⟩=some (.slice none 0 0)∧w'.cell? ⟨br,0,none⟩=some (.int .i64 4)∧w'.cell? ⟨br,1,none⟩=some (.string ⟨#[102]⟩)∧w'.cell? ⟨br,2,none⟩=some (.int .i64 0)∧w'.cell? ⟨br,3,none⟩=some (.slice ar 3 cr)∧w'.cell? ⟨bl,0,none⟩=some (.int .i64 4)∧w'.cell? ⟨bl,1,none⟩=some (.string ⟨#[46]⟩)∧w'.cell? ⟨bl,2,none⟩=some (.int .i64 0)∧w'.cell? ⟨bl,3,none⟩=some (.slice al 2 cl)∧w'.cell? ⟨be,1,none⟩=some (.string ⟨#[91,93]⟩)
structure Lo10 (a0:Act) (ba br bl be g3 c3:Nat):Prop where
  s1:a0.tmps[1]? = some (.pointer (some ⟨ba,0,none⟩))
  s12:a0.tmps[12]? = some (.pointer (some ⟨br,0,none⟩))
  s15:a0.tmps[15]? = some (.pointer (some ⟨bl,0,none⟩))
  s16:a0.tmps[16]? = some (.int .i64 0)
  s17:a0.tmps[17]? = some (.slice (some ⟨g3,0,none⟩) 2 c3)
  s18:a0.tmps[18]? = some (.pointer (some ⟨be,0,none⟩))
section
variable {a:Act} {w:World} {ba br bl be:Nat} {ar al:Option Addr} {cr cl:Nat}
theorem y0_10 (h12:a.tmps[12]? = some (.pointer (some ⟨br,0,none⟩))) (hS:S10 ba br bl be ar al cr cl w):(execOp a.eval op0_10).run Try.prog w=.ok (.value (.agg #[.int .i64 4,.string ⟨#[102]⟩,.int .i64 0,.slice ar 3 cr])) w:=by unfold op0_10;dsimp only [S10] at hS;go_simp
theorem y7_10 (h148:a.tmps[148]? = some (.bool true)):(execOp a.eval op7_10).run Try.prog w=.ok (.value (.bool true)) w:=by unfold op7_10;go_simp
theorem y11_10 (h152:a.tmps[152]? = some (.int .i64 (-1))):(execOp a.eval op11_10).run Try.prog w=.ok (.value (.bool true)) w:=by unfold op11_10;go_simp
theorem y12_10 (h149:a.tmps[149]? = some (.bool true)) (h153:a.tmps[153]? = some (.bool true)):(execOp a.eval op12_10).run Try.prog w=.ok (.value (.bool true)) w:=by unfold op12_10;go_simp
theorem y13_10 (h154:a.tmps[154]? = some (.bool true)):(execOp a.eval op13_10).run Try.prog w=.ok (.value (.bool true)) w:=by unfold op13_10;go_simp
theorem y14_10 (h1:a.tmps[1]? = some (.pointer (some ⟨ba,0,none⟩))) (hS:S10 ba br bl be ar al cr cl w):(execOp a.eval op14_10).run Try.prog w=.ok (.value (.agg #[.int .i64 3,.string ⟨#[97]⟩,.int .i64 0,.slice none 0 0])) w:=by unfold op14_10;dsimp only [S10] at hS;go_simp
theorem y17_10 (h1:a.tmps[1]? = some (.pointer (some ⟨ba,0,none⟩))) (hS:S10 ba br bl be ar al cr cl w):(execOp a.eval op17_10).run Try.prog w=.ok (.value (.agg #[.int .i64 3,.string ⟨#[97]⟩,.int .i64 0,.slice none 0 0])) w:=by unfold op17_10;dsimp only [S10] at hS;go_simp
theorem y18_10 (h1:a.tmps[1]? = some (.pointer (some ⟨ba,0,none⟩))) (hS:S10 ba br bl be ar al cr cl w):(execOp a.eval op18_10).run Try.prog w=.ok (.value (.agg #[.int .i64 3,.string ⟨#[97]⟩,.int .i64 0,.slice none 0 0])) w:=by unfold op18_10;dsimp only [S10] at hS;go_simp
theorem y22_10 (h163:a.tmps[163]? = some (.int .i64 (-1))):(execOp a.eval op22_10).run Try.prog w=.ok (.value (.bool true)) w:=by unfold op22_10;go_simp
theorem y23_10 (h155:a.tmps[155]? = some (.bool true)) (h164:a.tmps[164]? = some (.bool true)):(execOp a.eval op23_10).run Try.prog w=.ok (.value (.bool true)) w:=by unfold op23_10;go_simp
theorem y24_10 (h165:a.tmps[165]? = some (.bool true)):(execOp a.eval op24_10).run Try.prog w=.ok (.value (.bool true)) w:=by unfold op24_10;go_simp
theorem y25_10 (h16:a.tmps[16]? = some (.int .i64 0)):(execOp a.eval op25_10).run Try.prog w=.ok (.value (.int .i64 0)) w:=by unfold op25_10;go_simp
theorem y26_10 (h167:a.tmps[167]? = some (.int .i64 0)):(execOp a.eval op26_10).run Try.prog w=.ok (.value (.bool true)) w:=by unfold op26_10;go_simp
theorem y27_10 (h166:a.tmps[166]? = some (.bool true)) (h168:a.tmps[168]? = some (.bool true)):(execOp a.eval op27_10).run Try.prog w=.ok (.value (.bool true)) w:=by unfold op27_10;go_simp
theorem y28_10 (h169:a.tmps[169]? = some (.bool true)):(execOp a.eval op28_10).run Try.prog w=.ok (.value (.bool true)) w:=by unfold op28_10;go_simp
theorem y29_10 {g3 c3:Nat} (h17:a.tmps[17]? = some (.slice (some ⟨g3,0,none⟩) 2 c3)):(execOp a.eval op29_10).run Try.prog w=.ok (.value (.slice (some ⟨g3,0,none⟩) 2 c3)) w:=by unfold op29_10;go_simp
theorem y30_10 {g3 c3:Nat} (h171:a.tmps[171]? = some (.slice (some ⟨g3,0,none⟩) 2 c3)):(execOp a.eval op30_10).run Try.prog w=.ok (.value (.int .i64 2)) w:=by unfold op30_10;go_simp
theorem y31_10 (h172:a.tmps[172]? = some (.int .i64 2)):(execOp a.eval op31_10).run Try.prog w=.ok (.value (.bool true)) w:=by unfold op31_10;go_simp
theorem y32_10 (h170:a.tmps[170]? = some (.bool true)) (h173:a.tmps[173]? = some (.bool true)):(execOp a.eval op32_10).run Try.prog w=.ok (.value (.bool true)) w:=by unfold op32_10;go_simp
theorem y33_10 (h174:a.tmps[174]? = some (.bool true)):(execOp a.eval op33_10).run Try.prog w=.ok (.value (.bool true)) w:=by unfold op33_10;go_simp
theorem y34_10 (h18:a.tmps[18]? = some (.pointer (some ⟨be,0,none⟩))):(execOp a.eval op34_10).run Try.prog w=.ok (.value (.pointer (some ⟨be,1,none⟩))) w:=by unfold op34_10;go_simp
theorem y35_10 (h176:a.tmps[176]? = some (.pointer (some ⟨be,1,none⟩))) (hS:S10 ba br bl be ar al cr cl w):(execOp a.eval op35_10).run Try.prog w=.ok (.value (.string ⟨#[91,93]⟩)) w:=by unfold op35_10;dsimp only [S10] at hS;go_simp
theorem y36_10 (h177:a.tmps[177]? = some (.string ⟨#[91,93]⟩)):(execOp a.eval op36_10).run Try.prog w=.ok (.value (.bool true)) w:=by unfold op36_10;go_simp
theorem y37_10 (h175:a.tmps[175]? = some (.bool true)) (h178:a.tmps[178]? = some (.bool true)):(execOp a.eval op37_10).run Try.prog w=.ok (.value (.bool true)) w:=by unfold op37_10;go_simp
theorem y38_10 (h179:a.tmps[179]? = some (.bool true)):(execOp a.eval op38_10).run Try.prog w=.ok (.value (.bool true)) w:=by unfold op38_10;go_simp
theorem y39_10 (h15:a.tmps[15]? = some (.pointer (some ⟨bl,0,none⟩))) (hS:S10 ba br bl be ar al cr cl w):(execOp a.eval op39_10).run Try.prog w=.ok (.value (.agg #[.int .i64 4,.string ⟨#[46]⟩,.int .i64 0,.slice al 2 cl])) w:=by unfold op39_10;dsimp only [S10] at hS;go_simp
theorem y41_10 (h182:a.tmps[182]? = some (.int .i64 5)):(execOp a.eval op41_10).run Try.prog w=.ok (.value (.bool true)) w:=by unfold op41_10;go_simp
theorem y42_10 (h180:a.tmps[180]? = some (.bool true)) (h183:a.tmps[183]? = some (.bool true)):(execOp a.eval op42_10).run Try.prog w=.ok (.value (.bool true)) w:=by unfold op42_10;go_simp
theorem y43_10 (h184:a.tmps[184]? = some (.bool true)):(execOp a.eval op43_10).run Try.prog w=.ok (.value (.bool true)) w:=by unfold op43_10;go_simp
theorem y44_10 (h15:a.tmps[15]? = some (.pointer (some ⟨bl,0,none⟩))) (hS:S10 ba br bl be ar al cr cl w):(execOp a.eval op44_10).run Try.prog w=.ok (.value (.agg #[.int .i64 4,.string ⟨#[46]⟩,.int .i64 0,.slice al 2 cl])) w:=by unfold op44_10;dsimp only [S10] at hS;go_simp
theorem y46_10 (h187:a.tmps[187]? = some (.int .i64 3)):(execOp a.eval op46_10).run Try.prog w=.ok (.value (.bool true)) w:=by unfold op46_10;go_simp
theorem y47_10 (h185:a.tmps[185]? = some (.bool true)) (h188:a.tmps[188]? = some (.bool true)):(execOp a.eval op47_10).run Try.prog w=.ok (.value (.bool true)) w:=by unfold op47_10;go_simp
theorem y48_10 (h189:a.tmps[189]? = some (.bool true)):(execOp a.eval op48_10).run Try.prog w=.ok (.value (.bool true)) w:=by unfold op48_10;go_simp
theorem y49_10 (h12:a.tmps[12]? = some (.pointer (some ⟨br,0,none⟩))) (hS:S10 ba br bl be ar al cr cl w):(execOp a.eval op49_10).run Try.prog w=.ok (.value (.agg #[.int .i64 4,.string ⟨#[102]⟩,.int .i64 0,.slice ar 3 cr])) w:=by unfold op49_10;dsimp only [S10] at hS;go_simp
theorem y51_10 {gv cv:Nat} (h192:a.tmps[192]? = some (.slice (some ⟨gv,0,none⟩) 2 cv)):(execOp a.eval op51_10).run Try.prog w=.ok (.value (.int .i64 2)) w:=by unfold op51_10;go_simp
theorem y52_10 (h193:a.tmps[193]? = some (.int .i64 2)):(execOp a.eval op52_10).run Try.prog w=.ok (.value (.bool true)) w:=by unfold op52_10;go_simp
theorem y53_10 (h190:a.tmps[190]? = some (.bool true)) (h194:a.tmps[194]? = some (.bool true)):(execOp a.eval op53_10).run Try.prog w=.ok (.value (.bool true)) w:=by unfold op53_10;go_simp
theorem y54_10 (h195:a.tmps[195]? = some (.bool true)):(execOp a.eval op54_10).run Try.prog w=.ok (.value (.bool true)) w:=by unfold op54_10;go_simp
theorem y55_10 (h12:a.tmps[12]? = some (.pointer (some ⟨br,0,none⟩))) (hS:S10 ba br bl be ar al cr cl w):(execOp a.eval op55_10).run Try.prog w=.ok (.value (.agg #[.int .i64 4,.string ⟨#[102]⟩,.int .i64 0,.slice ar 3 cr])) w:=by unfold op55_10;dsimp only [S10] at hS;go_simp
theorem y56_10 (h12:a.tmps[12]? = some (.pointer (some ⟨br,0,none⟩))) (hS:S10 ba br bl be ar al cr cl w):(execOp a.eval op56_10).run Try.prog w=.ok (.value (.agg #[.int .i64 4,.string ⟨#[102]⟩,.int .i64 0,.slice ar 3 cr])) w:=by unfold op56_10;dsimp only [S10] at hS;go_simp
theorem y58_10 (h196:a.tmps[196]? = some (.bool true)) (h199:a.tmps[199]? = some (.bool true)):(execOp a.eval op58_10).run Try.prog w=.ok (.value (.bool true)) w:=by unfold op58_10;go_simp
theorem y59_10 (h200:a.tmps[200]? = some (.bool true)):(execOp a.eval op59_10).run Try.prog w=.ok (.value (.bool true)) w:=by unfold op59_10;go_simp
theorem y60_10 (h12:a.tmps[12]? = some (.pointer (some ⟨br,0,none⟩))) (hS:S10 ba br bl be ar al cr cl w):(execOp a.eval op60_10).run Try.prog w=.ok (.value (.agg #[.int .i64 4,.string ⟨#[102]⟩,.int .i64 0,.slice ar 3 cr])) w:=by unfold op60_10;dsimp only [S10] at hS;go_simp
theorem y62_10 (h203:a.tmps[203]? = some (.int .i64 0)):(execOp a.eval op62_10).run Try.prog w=.ok (.value (.bool true)) w:=by unfold op62_10;go_simp
theorem y63_10 (h201:a.tmps[201]? = some (.bool true)) (h204:a.tmps[204]? = some (.bool true)):(execOp a.eval op63_10).run Try.prog w=.ok (.value (.bool true)) w:=by unfold op63_10;go_simp
theorem y64_10 (h205:a.tmps[205]? = some (.bool true)):(execOp a.eval op64_10).run Try.prog w=.ok (.value (.bool true)) w:=by unfold op64_10;go_simp
theorem y65_10 (h12:a.tmps[12]? = some (.pointer (some ⟨br,0,none⟩))) (hS:S10 ba br bl be ar al cr cl w):(execOp a.eval op65_10).run Try.prog w=.ok (.value (.agg #[.int .i64 4,.string ⟨#[102]⟩,.int .i64 0,.slice ar 3 cr])) w:=by unfold op65_10;dsimp only [S10] at hS;go_simp
theorem y72_10 (h206:a.tmps[206]? = some (.bool true)) (h213:a.tmps[213]? = some (.bool true)):(execOp a.eval op72_10).run Try.prog w=.ok (.value (.bool true)) w:=by unfold op72_10;go_simp
theorem y73_10 (h214:a.tmps[214]? = some (.bool true)):(execOp a.eval op73_10).run Try.prog w=.ok (.value (.bool true)) w:=by unfold op73_10;go_simp
theorem y1_10  : (execOp a.eval op1_10).run Try.prog w=.ok (.enter 34 #[(Value.int IntKind.i64 1)]) w:=by unfold op1_10;go_simp
theorem y2_10  : (execOp a.eval op2_10).run Try.prog w=.ok (.enter 34 #[(Value.int IntKind.i64 2)]) w:=by unfold op2_10;go_simp
theorem y3_10  : (execOp a.eval op3_10).run Try.prog w=.ok (.enter 34 #[(Value.int IntKind.i64 1)]) w:=by unfold op3_10;go_simp
theorem y5_10 {x146:Value} (h146:a.tmps[146]? = some x146):(execOp a.eval op5_10).run Try.prog w=.ok (.enter 30 #[(Value.string ⟨#[102]⟩),x146]) w:=by unfold op5_10;go_simp
theorem y6_10 {x142 x147:Value} (h142:a.tmps[142]? = some x142) (h147:a.tmps[147]? = some x147):(execOp a.eval op6_10).run Try.prog w=.ok (.enter 15 #[x142,x147]) w:=by unfold op6_10;go_simp
theorem y8_10  : (execOp a.eval op8_10).run Try.prog w=.ok (.enter 34 #[(Value.int IntKind.i64 9)]) w:=by unfold op8_10;go_simp
theorem y9_10  : (execOp a.eval op9_10).run Try.prog w=.ok (.enter 31 #[(Value.int IntKind.i64 3)]) w:=by unfold op9_10;go_simp
theorem y10_10 {x150 x151:Value} (h150:a.tmps[150]? = some x150) (h151:a.tmps[151]? = some x151):(execOp a.eval op10_10).run Try.prog w=.ok (.enter 35 #[x150,x151]) w:=by unfold op10_10;go_simp
theorem y16_10 {x157:Value} (h157:a.tmps[157]? = some x157):(execOp a.eval op16_10).run Try.prog w=.ok (.enter 30 #[(Value.string ⟨#[103]⟩),x157]) w:=by unfold op16_10;go_simp
theorem y20_10 {x161:Value} (h161:a.tmps[161]? = some x161):(execOp a.eval op20_10).run Try.prog w=.ok (.enter 30 #[(Value.string ⟨#[102]⟩),x161]) w:=by unfold op20_10;go_simp
theorem y21_10 {x158 x162:Value} (h158:a.tmps[158]? = some x158) (h162:a.tmps[162]? = some x162):(execOp a.eval op21_10).run Try.prog w=.ok (.enter 35 #[x158,x162]) w:=by unfold op21_10;go_simp
theorem y40_10 {x181:Value} (h181:a.tmps[181]? = some x181):(execOp a.eval op40_10).run Try.prog w=.ok (.enter 36 #[x181]) w:=by unfold op40_10;go_simp
theorem y45_10 {x186:Value} (h186:a.tmps[186]? = some x186):(execOp a.eval op45_10).run Try.prog w=.ok (.enter 37 #[x186]) w:=by unfold op45_10;go_simp
theorem y50_10 {x191:Value} (h191:a.tmps[191]? = some x191):(execOp a.eval op50_10).run Try.prog w=.ok (.enter 38 #[x191]) w:=by unfold op50_10;go_simp
theorem y57_10 {x197 x198:Value} (h197:a.tmps[197]? = some x197) (h198:a.tmps[198]? = some x198):(execOp a.eval op57_10).run Try.prog w=.ok (.enter 39 #[x197,x198]) w:=by unfold op57_10;go_simp
theorem y61_10 {x202:Value} (h202:a.tmps[202]? = some x202):(execOp a.eval op61_10).run Try.prog w=.ok (.enter 40 #[x202]) w:=by unfold op61_10;go_simp
theorem y66_10  : (execOp a.eval op66_10).run Try.prog w=.ok (.enter 34 #[(Value.int IntKind.i64 4)]) w:=by unfold op66_10;go_simp
theorem y67_10  : (execOp a.eval op67_10).run Try.prog w=.ok (.enter 34 #[(Value.int IntKind.i64 5)]) w:=by unfold op67_10;go_simp
theorem y68_10  : (execOp a.eval op68_10).run Try.prog w=.ok (.enter 34 #[(Value.int IntKind.i64 4)]) w:=by unfold op68_10;go_simp
theorem y70_10 {x211:Value} (h211:a.tmps[211]? = some x211):(execOp a.eval op70_10).run Try.prog w=.ok (.enter 30 #[(Value.string ⟨#[102]⟩),x211]) w:=by unfold op70_10;go_simp
theorem y71_10 {x207 x212:Value} (h207:a.tmps[207]? = some x207) (h212:a.tmps[212]? = some x212):(execOp a.eval op71_10).run Try.prog w=.ok (.enter 41 #[x207,x212]) w:=by unfold op71_10;go_simp
theorem y4_10 (h143:a.tmps[143]? = some (.agg #[.int .i64 1,.string ⟨#[]⟩,.int .i64 1,.slice none 0 0])) (h144:a.tmps[144]? = some (.agg #[.int .i64 1,.string ⟨#[]⟩,.int .i64 2,.slice none 0 0])) (h145:a.tmps[145]? = some (.agg #[.int .i64 1,.string ⟨#[]⟩,.int .i64 1,.slice none 0 0])):(execOp a.eval op4_10).run Try.prog w=.ok (.value (.slice (some ⟨w.heap.size,0,none⟩) 3 3)) (w.alloc (.cells #[.int .i64 1,.string ⟨#[]⟩,.int .i64 1,.slice none 0 0,.int .i64 1,.string ⟨#[]⟩,.int .i64 2,.slice none 0 0,.int .i64 1,.string ⟨#[]⟩,.int .i64 1,.slice none 0 0] 24)):=by unfold op4_10;go_simp
theorem y15_10 (h156:a.tmps[156]? = some (.agg #[.int .i64 3,.string ⟨#[97]⟩,.int .i64 0,.slice none 0 0])):(execOp a.eval op15_10).run Try.prog w=.ok (.value (.slice (some ⟨w.heap.size,0,none⟩) 1 1)) (w.alloc (.cells #[.int .i64 3,.string ⟨#[97]⟩,.int .i64 0,.slice none 0 0] 24)):=by unfold op15_10;go_simp
theorem y19_10 (h159:a.tmps[159]? = some (.agg #[.int .i64 3,.string ⟨#[97]⟩,.int .i64 0,.slice none 0 0])) (h160:a.tmps[160]? = some (.agg #[.int .i64 3,.string ⟨#[97]⟩,.int .i64 0,.slice none 0 0])):(execOp a.eval op19_10).run Try.prog w=.ok (.value (.slice (some ⟨w.heap.size,0,none⟩) 2 2)) (w.alloc (.cells #[.int .i64 3,.string ⟨#[97]⟩,.int .i64 0,.slice none 0 0,.int .i64 3,.string ⟨#[97]⟩,.int .i64 0,.slice none 0 0] 24)):=by unfold op19_10;go_simp
theorem y69_10 (h208:a.tmps[208]? = some (.agg #[.int .i64 1,.string ⟨#[]⟩,.int .i64 4,.slice none 0 0])) (h209:a.tmps[209]? = some (.agg #[.int .i64 1,.string ⟨#[]⟩,.int .i64 5,.slice none 0 0])) (h210:a.tmps[210]? = some (.agg #[.int .i64 1,.string ⟨#[]⟩,.int .i64 4,.slice none 0 0])):(execOp a.eval op69_10).run Try.prog w=.ok (.value (.slice (some ⟨w.heap.size,0,none⟩) 3 3)) (w.alloc (.cells #[.int .i64 1,.string ⟨#[]⟩,.int .i64 4,.slice none 0 0,.int .i64 1,.string ⟨#[]⟩,.int .i64 5,.slice none 0 0,.int .i64 1,.string ⟨#[]⟩,.int .i64 4,.slice none 0 0] 24)):=by unfold op69_10;go_simp
end
section
variable {P:Program} {ops:Array Oper} {Q:Exit→Act→World→Prop} {S:World→Prop}
theorem arm10 {i:Nat} {oi:Oper} {d:Nat} {v:Value} {fuel:Nat} {listed l':Array Bool} {a:Act} {w w':World}
    (hi:ops[i]? = some oi) (hd:oi.dst=some d) (hl:listed.setIfInBounds i true=l') (hw:Region.wanted oi (yielded ops a.tmps)=true)
    (hy:(execOp a.eval oi).run P w=.ok (.value v) w') (hS:S w')
    (h:∀ a',a'=a.put (some d) v→wpAnyH P .any ops (NoPanic Q) S fuel l' a' w'):wpOp P ops (NoPanic Q) i (fun a' w'=>S w'∧wpAnyH P .any ops (NoPanic Q) S fuel (listed.setIfInBounds i true) a' w') a w:=by
  subst hl;unfold wpOp;rw [hi];show if Region.wanted oi (yielded ops a.tmps)=true then _ else _
  rw [if_pos hw];refine Or.inl ?_;show oi.upon P a _ (NoPanic Q) ((execOp a.eval oi).run P w);rw [hy,Oper.upon_value,hd];exact ⟨hS,h _ rfl⟩
theorem armc10 {i:Nat} {oi:Oper} {d:Nat} {fuel:Nat} {listed l':Array Bool} {a:Act} {w:World} {f:FuncId} {args:Array Value}
    (hi:ops[i]? = some oi) (hd:oi.dst=some d) (hl:listed.setIfInBounds i true=l') (hw:Region.wanted oi (yielded ops a.tmps)=true)
    (hy:(execOp a.eval oi).run P w=.ok (.enter f args) w)
    (h:Calls P f args w fun e w'=>∃ v,e=.returned v∧S w'∧∀ a',a'=a.put (some d) v→wpAnyH P .any ops (NoPanic Q) S fuel l' a' w'):wpOp P ops (NoPanic Q) i (fun a' w'=>S w'∧wpAnyH P .any ops (NoPanic Q) S fuel (listed.setIfInBounds i true) a' w') a w:=by
  subst hl;unfold wpOp;rw [hi];show if Region.wanted oi (yielded ops a.tmps)=true then _ else _
  rw [if_pos hw];refine Or.inl ?_;show oi.upon P a _ (NoPanic Q) ((execOp a.eval oi).run P w);rw [hy,Oper.upon_enter];refine Calls.mono h fun e w' he=>?_;obtain ⟨v,rfl,hS,hk⟩:=he;show S w'∧wpAnyH _ _ _ _ _ _ _ (a.put oi.dst v) w';rw [hd];exact ⟨hS,hk _ rfl⟩
theorem only10 {i:Nat} {fuel:Nat} {listed:Array Bool} {a:Act} {w:World} (hr:Region.ready .any ops listed=[i])
    (h:wpOp P ops (NoPanic Q) i (fun a' w'=>S w'∧wpAnyH P .any ops (NoPanic Q) S fuel (listed.setIfInBounds i true) a' w') a w):wpAnyH P .any ops (NoPanic Q) S (fuel + 1) listed a w :=
  wpAnyH_all hr (by simp) fun j hj=>by rw [List.mem_singleton.1 hj];exact h
theorem either10 {i k:Nat} {fuel:Nat} {listed:Array Bool} {a:Act} {w:World} (hr:Region.ready .any ops listed=[i,k])
    (h:wpOp P ops (NoPanic Q) i (fun a' w'=>S w'∧wpAnyH P .any ops (NoPanic Q) S fuel (listed.setIfInBounds i true) a' w') a w)
    (h':wpOp P ops (NoPanic Q) k (fun a' w'=>S w'∧wpAnyH P .any ops (NoPanic Q) S fuel (listed.setIfInBounds k true) a' w') a w):wpAnyH P .any ops (NoPanic Q) S (fuel + 1) listed a w :=
  wpAnyH_all hr (by simp) fun j hj=>by
    rcases List.mem_cons.1 hj with rfl | hj
    · exact h
    · rw [List.mem_singleton.1 hj];exact h'
end
theorem blk_on10 {w w':World} {g:Nat} {t:TypeId} {cs:Array Value} (h:Blk w g t cs) (k:Keep (fun g=>g < w.heap.size) w w'):Blk w' g t cs:=h.keep k h.lt
structure Con10 (W25:World) (ar al:Option Addr) (cr cl:Nat):Prop where
  CX:∀ (n:Int) W,Calls Try.prog 34 #[.int .i64 n] W fun e w'=>e=.returned (.agg #[.int .i64 1,.string ⟨#[]⟩,.int .i64 n,.slice none 0 0])∧Keep (fun g=>g < W.heap.size) W w'
  CC2:∀ p W,Calls Try.prog 30 #[.string ⟨#[102]⟩,.slice p 2 2] W fun e w'=>e=.returned (.agg #[.int .i64 4,.string ⟨#[102]⟩,.int .i64 0,.slice p 2 2])∧Keep (fun g=>g < W.heap.size) W w'
  CC3:∀ p W,Calls Try.prog 30 #[.string ⟨#[102]⟩,.slice p 3 3] W fun e w'=>e=.returned (.agg #[.int .i64 4,.string ⟨#[102]⟩,.int .i64 0,.slice p 3 3])∧Keep (fun g=>g < W.heap.size) W w'
  CO2:∀ W p1 p2,Keep (fun g=>g < W25.heap.size) W25 W→Blk W p1 24 #[.int .i64 3,.string ⟨#[97]⟩,.int .i64 0,.slice none 0 0]→Blk W p2 24 #[.int .i64 3,.string ⟨#[97]⟩,.int .i64 0,.slice none 0 0,.int .i64 3,.string ⟨#[97]⟩,.int .i64 0,.slice none 0 0]→Calls Try.prog 35 #[.agg #[.int .i64 4,.string ⟨#[103]⟩,.int .i64 0,.slice (some ⟨p1,0,none⟩) 1 1],.agg #[.int .i64 4,.string ⟨#[102]⟩,.int .i64 0,.slice (some ⟨p2,0,none⟩) 2 2]] W fun e w'=>e=.returned (.int .i64 (-1))∧Keep (fun g=>g < W.heap.size) W w'
  CS:∀ W,Keep (fun g=>g < W25.heap.size) W25 W→Calls Try.prog 36 #[(.agg #[.int .i64 4,.string ⟨#[46]⟩,.int .i64 0,.slice al 2 cl])] W fun e w'=>e=.returned (.int .i64 5)∧Keep (fun g=>g < W.heap.size) W w'
  CD:∀ W,Keep (fun g=>g < W25.heap.size) W25 W→Calls Try.prog 37 #[(.agg #[.int .i64 4,.string ⟨#[46]⟩,.int .i64 0,.slice al 2 cl])] W fun e w'=>e=.returned (.int .i64 3)∧Keep (fun g=>g < W.heap.size) W w'
  CV:∀ W,Keep (fun g=>g < W25.heap.size) W25 W→Calls Try.prog 38 #[(.agg #[.int .i64 4,.string ⟨#[102]⟩,.int .i64 0,.slice ar 3 cr])] W fun e w'=>∃ g k,e=.returned (.slice (some ⟨g,0,none⟩) 2 k)∧Keep (fun g=>g < W.heap.size) W w'
  CM:∀ W,Keep (fun g=>g < W25.heap.size) W25 W→Calls Try.prog 39 #[(.agg #[.int .i64 4,.string ⟨#[102]⟩,.int .i64 0,.slice ar 3 cr]),(.agg #[.int .i64 4,.string ⟨#[102]⟩,.int .i64 0,.slice ar 3 cr])] W fun e w'=>e=.returned (.bool true)∧Keep (fun g=>g < W.heap.size) W w'
  CK:∀ W,Keep (fun g=>g < W25.heap.size) W25 W→Calls Try.prog 40 #[(.agg #[.int .i64 4,.string ⟨#[102]⟩,.int .i64 0,.slice ar 3 cr])] W fun e w'=>e=.returned (.int .i64 0)∧Keep (fun g=>g < W.heap.size) W w'
  CT:∀ W b,Keep (fun g=>g < W25.heap.size) W25 W→Blk W b 24 #[.int .i64 1,.string ⟨#[]⟩,.int .i64 4,.slice none 0 0,.int .i64 1,.string ⟨#[]⟩,.int .i64 5,.slice none 0 0,.int .i64 1,.string ⟨#[]⟩,.int .i64 4,.slice none 0 0]→Calls Try.prog 41 #[(.agg #[.int .i64 4,.string ⟨#[102]⟩,.int .i64 0,.slice ar 3 cr]),.agg #[.int .i64 4,.string ⟨#[102]⟩,.int .i64 0,.slice (some ⟨b,0,none⟩) 3 3]] W fun e w'=>e=.returned (.bool true)∧Keep (fun g=>g < W.heap.size) W w'
  CN:∀ (n:Int) W,Calls Try.prog 31 #[.int .i64 n] W fun e w'=>e=.returned (.agg #[.int .i64 2,.string ⟨#[]⟩,.int .i64 n,.slice none 0 0])∧Keep (fun g=>g < W.heap.size) W w'
  CG1:∀ p W,Calls Try.prog 30 #[.string ⟨#[103]⟩,.slice p 1 1] W fun e w'=>e=.returned (.agg #[.int .i64 4,.string ⟨#[103]⟩,.int .i64 0,.slice p 1 1])∧Keep (fun g=>g < W.heap.size) W w'
  CE:∀ W b,Keep (fun g=>g < W25.heap.size) W25 W→Blk W b 24 #[.int .i64 1,.string ⟨#[]⟩,.int .i64 1,.slice none 0 0,.int .i64 1,.string ⟨#[]⟩,.int .i64 2,.slice none 0 0,.int .i64 1,.string ⟨#[]⟩,.int .i64 1,.slice none 0 0]→Calls Try.prog 15 #[(.agg #[.int .i64 4,.string ⟨#[102]⟩,.int .i64 0,.slice ar 3 cr]),.agg #[.int .i64 4,.string ⟨#[102]⟩,.int .i64 0,.slice (some ⟨b,0,none⟩) 3 3]] W fun e w'=>e=.returned (.bool true)∧Keep (fun g=>g < W.heap.size) W w'
  CO1:∀ W,Calls Try.prog 35 #[.agg #[.int .i64 1,.string ⟨#[]⟩,.int .i64 9,.slice none 0 0],.agg #[.int .i64 2,.string ⟨#[]⟩,.int .i64 3,.slice none 0 0]] W fun e w'=>e=.returned (.int .i64 (-1))∧Keep (fun g=>g < W.heap.size) W w'
set_option maxRecDepth 100000 in
set_option maxHeartbeats 4000000 in
theorem r10c {W25:World} {ba br bl be g3 c3:Nat} {ar al:Option Addr} {cr cl:Nat} {Q:Exit→Act→World→Prop} {a0 a:Act} {w:World} (HL:Lo10 a0 ba br bl be g3 c3) (KS:Hid (∀ W,Keep (fun g=>g < W25.heap.size) W25 W→S10 ba br bl be ar al cr cl W)) (HC:Con10 W25 ar al cr cl)
    (hQ:∀ a W,Fr10 a0 a→a.tmps[0]? = some (.bool true)→Keep (fun g=>g < W25.heap.size) W25 W→Q .normal a W) (R:Fr10 a0 a) (K:Keep (fun g=>g < W25.heap.size) W25 w) (h180:a.tmps[180]? = some (.bool true))  : wpAnyH Try.prog .any ops10 (NoPanic Q) (S10 ba br bl be ar al cr cl) 35 (lst10 39) a w:=by
  refine take10 (i:=39) (fuel:=34) (l':=(lst10 40)) g39_10 rfl ns_10 (by kernel_rfl) (by kernel_rfl) (by kernel_rfl) (wanted_some10 (j:=38) (d:=180) rfl (by kernel_rfl) h180) (KS.out _ K) (fun w hw=>y39_10 ((R.low 15 (by decide) (by decide)).trans HL.s15) hw) fun a' e=>?_;have h181:=R.at_ e (by decide);replace R:=R.put e (Or.inl (by decide));replace h180:=Fr10.on e h180 (by decide);clear e;refine only10 (i:=40) (fuel:=33) (by kernel_rfl) ?_;refine armc10 (l':=(lst10 41)) g40_10 rfl (by kernel_rfl) (wanted_some10 (j:=38) (d:=180) rfl (by kernel_rfl) h180) (y40_10 h181) ((HC.CS w K).mono ?_);rintro e9 w ⟨rfl,kk⟩;replace K:=K.trans kk.all;refine ⟨_,rfl,KS.out _ K,fun a' e=>?_⟩;clear kk;have h182:=R.at_ e (by decide);replace R:=R.put e (Or.inl (by decide));replace h180:=Fr10.on e h180 (by decide);clear h181;clear e;refine take10 (i:=41) (fuel:=32) (l':=(lst10 42)) g41_10 rfl ns_10 (by kernel_rfl) (by kernel_rfl) (by kernel_rfl) (wanted_some10 (j:=38) (d:=180) rfl (by kernel_rfl) h180) (KS.out _ K) (fun w hw=>y41_10 h182) fun a' e=>?_;have h183:=R.at_ e (by decide);replace R:=R.put e (Or.inl (by decide));replace h180:=Fr10.on e h180 (by decide);clear h182;clear e;refine take10 (i:=42) (fuel:=31) (l':=(lst10 43)) g42_10 rfl ns_10 (by kernel_rfl) (by kernel_rfl) (by kernel_rfl) (wanted_none10 rfl) (KS.out _ K) (fun w hw=>y42_10 h180 h183) fun a' e=>?_;have h184:=R.at_ e (by decide);replace R:=R.put e (Or.inl (by decide));clear h180;clear h183;clear e;refine take10 (i:=43) (fuel:=30) (l':=(lst10 44)) g43_10 rfl ns_10 (by kernel_rfl) (by kernel_rfl) (by kernel_rfl) (wanted_none10 rfl) (KS.out _ K) (fun w hw=>y43_10 h184) fun a' e=>?_;have h185:=R.at_ e (by decide);replace R:=R.put e (Or.inl (by decide));clear h184;clear e;refine take10 (i:=44) (fuel:=29) (l':=(lst10 45)) g44_10 rfl ns_10 (by kernel_rfl) (by kernel_rfl) (by kernel_rfl) (wanted_some10 (j:=43) (d:=185) rfl (by kernel_rfl) h185) (KS.out _ K) (fun w hw=>y44_10 ((R.low 15 (by decide) (by decide)).trans HL.s15) hw) fun a' e=>?_;have h186:=R.at_ e (by decide);replace R:=R.put e (Or.inl (by decide));replace h185:=Fr10.on e h185 (by decide);clear e;refine only10 (i:=45) (fuel:=28) (by kernel_rfl) ?_;refine armc10 (l':=(lst10 46)) g45_10 rfl (by kernel_rfl) (wanted_some10 (j:=43) (d:=185) rfl (by kernel_rfl) h185) (y45_10 h186) ((HC.CD w K).mono ?_);rintro e9 w ⟨rfl,kk⟩;replace K:=K.trans kk.all;refine ⟨_,rfl,KS.out _ K,fun a' e=>?_⟩;clear kk;have h187:=R.at_ e (by decide);replace R:=R.put e (Or.inl (by decide));replace h185:=Fr10.on e h185 (by decide);clear h186;clear e;refine take10 (i:=46) (fuel:=27) (l':=(lst10 47)) g46_10 rfl ns_10 (by kernel_rfl) (by kernel_rfl) (by kernel_rfl) (wanted_some10 (j:=43) (d:=185) rfl (by kernel_rfl) h185) (KS.out _ K) (fun w hw=>y46_10 h187) fun a' e=>?_;have h188:=R.at_ e (by decide);replace R:=R.put e (Or.inl (by decide));replace h185:=Fr10.on e h185 (by decide);clear h187;clear e;refine take10 (i:=47) (fuel:=26) (l':=(lst10 48)) g47_10 rfl ns_10 (by kernel_rfl) (by kernel_rfl) (by kernel_rfl) (wanted_none10 rfl) (KS.out _ K) (fun w hw=>y47_10 h185 h188) fun a' e=>?_;have h189:=R.at_ e (by decide);replace R:=R.put e (Or.inl (by decide));clear h185;clear h188;clear e;refine take10 (i:=48) (fuel:=25) (l':=(lst10 49)) g48_10 rfl ns_10 (by kernel_rfl) (by kernel_rfl) (by kernel_rfl) (wanted_none10 rfl) (KS.out _ K) (fun w hw=>y48_10 h189) fun a' e=>?_;have h190:=R.at_ e (by decide);replace R:=R.put e (Or.inl (by decide));clear h189;clear e;refine take10 (i:=49) (fuel:=24) (l':=(lst10 50)) g49_10 rfl ns_10 (by kernel_rfl) (by kernel_rfl) (by kernel_rfl) (wanted_some10 (j:=48) (d:=190) rfl (by kernel_rfl) h190) (KS.out _ K) (fun w hw=>y49_10 ((R.low 12 (by decide) (by decide)).trans HL.s12) hw) fun a' e=>?_;have h191:=R.at_ e (by decide);replace R:=R.put e (Or.inl (by decide));replace h190:=Fr10.on e h190 (by decide);clear e;refine only10 (i:=50) (fuel:=23) (by kernel_rfl) ?_;refine armc10 (l':=(lst10 51)) g50_10 rfl (by kernel_rfl) (wanted_some10 (j:=48) (d:=190) rfl (by kernel_rfl) h190) (y50_10 h191) ((HC.CV w K).mono ?_);rintro e9 w ⟨gv,cv,rfl,kk⟩;replace K:=K.trans kk.all;refine ⟨_,rfl,KS.out _ K,fun a' e=>?_⟩;clear kk;have h192:=R.at_ e (by decide);replace R:=R.put e (Or.inl (by decide));replace h190:=Fr10.on e h190 (by decide);clear h191;clear e;refine take10 (i:=51) (fuel:=22) (l':=(lst10 52)) g51_10 rfl ns_10 (by kernel_rfl) (by kernel_rfl) (by kernel_rfl) (wanted_some10 (j:=48) (d:=190) rfl (by kernel_rfl) h190) (KS.out _ K) (fun w hw=>y51_10 h192) fun a' e=>?_;have h193:=R.at_ e (by decide);replace R:=R.put e (Or.inl (by decide));replace h190:=Fr10.on e h190 (by decide);clear h192;clear e;refine take10 (i:=52) (fuel:=21) (l':=(lst10 53)) g52_10 rfl ns_10 (by kernel_rfl) (by kernel_rfl) (by kernel_rfl) (wanted_some10 (j:=48) (d:=190) rfl (by kernel_rfl) h190) (KS.out _ K) (fun w hw=>y52_10 h193) fun a' e=>?_;have h194:=R.at_ e (by decide);replace R:=R.put e (Or.inl (by decide));replace h190:=Fr10.on e h190 (by decide);clear h193;clear e;refine take10 (i:=53) (fuel:=20) (l':=(lst10 54)) g53_10 rfl ns_10 (by kernel_rfl) (by kernel_rfl) (by kernel_rfl) (wanted_none10 rfl) (KS.out _ K) (fun w hw=>y53_10 h190 h194) fun a' e=>?_;have h195:=R.at_ e (by decide);replace R:=R.put e (Or.inl (by decide));clear h190;clear h194;clear e;refine take10 (i:=54) (fuel:=19) (l':=(lst10 55)) g54_10 rfl ns_10 (by kernel_rfl) (by kernel_rfl) (by kernel_rfl) (wanted_none10 rfl) (KS.out _ K) (fun w hw=>y54_10 h195) fun a' e=>?_;have h196:=R.at_ e (by decide);replace R:=R.put e (Or.inl (by decide));clear h195;clear e;refine take10 (i:=55) (fuel:=18) (l':=(lst10 56)) g55_10 rfl ns_10 (by kernel_rfl) (by kernel_rfl) (by kernel_rfl) (wanted_some10 (j:=54) (d:=196) rfl (by kernel_rfl) h196) (KS.out _ K) (fun w hw=>y55_10 ((R.low 12 (by decide) (by decide)).trans HL.s12) hw) fun a' e=>?_;have h197:=R.at_ e (by decide);replace R:=R.put e (Or.inl (by decide));replace h196:=Fr10.on e h196 (by decide);clear e;refine take10 (i:=56) (fuel:=17) (l':=(lst10 57)) g56_10 rfl ns_10 (by kernel_rfl) (by kernel_rfl) (by kernel_rfl) (wanted_some10 (j:=54) (d:=196) rfl (by kernel_rfl) h196) (KS.out _ K) (fun w hw=>y56_10 ((R.low 12 (by decide) (by decide)).trans HL.s12) hw) fun a' e=>?_;have h198:=R.at_ e (by decide);replace R:=R.put e (Or.inl (by decide));replace h196:=Fr10.on e h196 (by decide);replace h197:=Fr10.on e h197 (by decide);clear e;refine only10 (i:=57) (fuel:=16) (by kernel_rfl) ?_;refine armc10 (l':=(lst10 58)) g57_10 rfl (by kernel_rfl) (wanted_some10 (j:=54) (d:=196) rfl (by kernel_rfl) h196) (y57_10 h197 h198) ((HC.CM w K).mono ?_);rintro e9 w ⟨rfl,kk⟩;replace K:=K.trans kk.all;refine ⟨_,rfl,KS.out _ K,fun a' e=>?_⟩;clear kk;have h199:=R.at_ e (by decide);replace R:=R.put e (Or.inl (by decide));replace h196:=Fr10.on e h196 (by decide);clear h197;clear h198;clear e;refine take10 (i:=58) (fuel:=15) (l':=(lst10 59)) g58_10 rfl ns_10 (by kernel_rfl) (by kernel_rfl) (by kernel_rfl) (wanted_none10 rfl) (KS.out _ K) (fun w hw=>y58_10 h196 h199) fun a' e=>?_;have h200:=R.at_ e (by decide);replace R:=R.put e (Or.inl (by decide));clear h196;clear h199;clear e;refine take10 (i:=59) (fuel:=14) (l':=(lst10 60)) g59_10 rfl ns_10 (by kernel_rfl) (by kernel_rfl) (by kernel_rfl) (wanted_none10 rfl) (KS.out _ K) (fun w hw=>y59_10 h200) fun a' e=>?_;have h201:=R.at_ e (by decide);replace R:=R.put e (Or.inl (by decide));clear h200;clear e;refine take10 (i:=60) (fuel:=13) (l':=(lst10 61)) g60_10 rfl ns_10 (by kernel_rfl) (by kernel_rfl) (by kernel_rfl) (wanted_some10 (j:=59) (d:=201) rfl (by kernel_rfl) h201) (KS.out _ K) (fun w hw=>y60_10 ((R.low 12 (by decide) (by decide)).trans HL.s12) hw) fun a' e=>?_;have h202:=R.at_ e (by decide);replace R:=R.put e (Or.inl (by decide));replace h201:=Fr10.on e h201 (by decide);clear e;refine only10 (i:=61) (fuel:=12) (by kernel_rfl) ?_;refine armc10 (l':=(lst10 62)) g61_10 rfl (by kernel_rfl) (wanted_some10 (j:=59) (d:=201) rfl (by kernel_rfl) h201) (y61_10 h202) ((HC.CK w K).mono ?_);rintro e9 w ⟨rfl,kk⟩;replace K:=K.trans kk.all;refine ⟨_,rfl,KS.out _ K,fun a' e=>?_⟩;clear kk;have h203:=R.at_ e (by decide);replace R:=R.put e (Or.inl (by decide));replace h201:=Fr10.on e h201 (by decide);clear h202;clear e;refine take10 (i:=62) (fuel:=11) (l':=(lst10 63)) g62_10 rfl ns_10 (by kernel_rfl) (by kernel_rfl) (by kernel_rfl) (wanted_some10 (j:=59) (d:=201) rfl (by kernel_rfl) h201) (KS.out _ K) (fun w hw=>y62_10 h203) fun a' e=>?_;have h204:=R.at_ e (by decide);replace R:=R.put e (Or.inl (by decide));replace h201:=Fr10.on e h201 (by decide);clear h203;clear e;refine take10 (i:=63) (fuel:=10) (l':=(lst10 64)) g63_10 rfl ns_10 (by kernel_rfl) (by kernel_rfl) (by kernel_rfl) (wanted_none10 rfl) (KS.out _ K) (fun w hw=>y63_10 h201 h204) fun a' e=>?_;have h205:=R.at_ e (by decide);replace R:=R.put e (Or.inl (by decide));clear h201;clear h204;clear e;refine take10 (i:=64) (fuel:=9) (l':=(lst10 65)) g64_10 rfl ns_10 (by kernel_rfl) (by kernel_rfl) (by kernel_rfl) (wanted_none10 rfl) (KS.out _ K) (fun w hw=>y64_10 h205) fun a' e=>?_;have h206:=R.at_ e (by decide);replace R:=R.put e (Or.inl (by decide));clear h205;clear e;refine take10 (i:=65) (fuel:=8) (l':=(lst10 66)) g65_10 rfl ns_10 (by kernel_rfl) (by kernel_rfl) (by kernel_rfl) (wanted_some10 (j:=64) (d:=206) rfl (by kernel_rfl) h206) (KS.out _ K) (fun w hw=>y65_10 ((R.low 12 (by decide) (by decide)).trans HL.s12) hw) fun a' e=>?_;have h207:=R.at_ e (by decide);replace R:=R.put e (Or.inl (by decide));replace h206:=Fr10.on e h206 (by decide);clear e;refine only10 (i:=66) (fuel:=7) (by kernel_rfl) ?_;refine armc10 (l':=(lst10 67)) g66_10 rfl (by kernel_rfl) (wanted_some10 (j:=64) (d:=206) rfl (by kernel_rfl) h206) (y66_10 ) ((HC.CX 4 w).mono ?_);rintro e9 w ⟨rfl,kk⟩;replace K:=K.trans kk.all;refine ⟨_,rfl,KS.out _ K,fun a' e=>?_⟩;clear kk;have h208:=R.at_ e (by decide);replace R:=R.put e (Or.inl (by decide));replace h206:=Fr10.on e h206 (by decide);replace h207:=Fr10.on e h207 (by decide);clear e;refine only10 (i:=67) (fuel:=6) (by kernel_rfl) ?_;refine armc10 (l':=(lst10 68)) g67_10 rfl (by kernel_rfl) (wanted_some10 (j:=64) (d:=206) rfl (by kernel_rfl) h206) (y67_10 ) ((HC.CX 5 w).mono ?_);rintro e9 w ⟨rfl,kk⟩;replace K:=K.trans kk.all;refine ⟨_,rfl,KS.out _ K,fun a' e=>?_⟩;clear kk;have h209:=R.at_ e (by decide);replace R:=R.put e (Or.inl (by decide));replace h206:=Fr10.on e h206 (by decide);replace h207:=Fr10.on e h207 (by decide);replace h208:=Fr10.on e h208 (by decide);clear e;refine only10 (i:=68) (fuel:=5) (by kernel_rfl) ?_;refine armc10 (l':=(lst10 69)) g68_10 rfl (by kernel_rfl) (wanted_some10 (j:=64) (d:=206) rfl (by kernel_rfl) h206) (y68_10 ) ((HC.CX 4 w).mono ?_);rintro e9 w ⟨rfl,kk⟩;replace K:=K.trans kk.all;refine ⟨_,rfl,KS.out _ K,fun a' e=>?_⟩;clear kk;have h210:=R.at_ e (by decide);replace R:=R.put e (Or.inl (by decide));replace h206:=Fr10.on e h206 (by decide);replace h207:=Fr10.on e h207 (by decide);replace h208:=Fr10.on e h208 (by decide);replace h209:=Fr10.on e h209 (by decide);clear e;refine only10 (i:=69) (fuel:=4) (by kernel_rfl) ?_;have HB:=Blk.new w 24 #[.int .i64 1,.string ⟨#[]⟩,.int .i64 4,.slice none 0 0,.int .i64 1,.string ⟨#[]⟩,.int .i64 5,.slice none 0 0,.int .i64 1,.string ⟨#[]⟩,.int .i64 4,.slice none 0 0];replace K:=K.alloc (.cells #[.int .i64 1,.string ⟨#[]⟩,.int .i64 4,.slice none 0 0,.int .i64 1,.string ⟨#[]⟩,.int .i64 5,.slice none 0 0,.int .i64 1,.string ⟨#[]⟩,.int .i64 4,.slice none 0 0] 24);have Y:=y69_10 (w:=w) h208 h209 h210;generalize w.alloc (.cells #[.int .i64 1,.string ⟨#[]⟩,.int .i64 4,.slice none 0 0,.int .i64 1,.string ⟨#[]⟩,.int .i64 5,.slice none 0 0,.int .i64 1,.string ⟨#[]⟩,.int .i64 4,.slice none 0 0] 24)=w at HB K Y;refine arm10 (l':=(lst10 70)) g69_10 rfl (by kernel_rfl) (wanted_some10 (j:=64) (d:=206) rfl (by kernel_rfl) h206) Y (KS.out _ K) fun a' e=>?_;clear Y;have h211:=R.at_ e (by decide);replace R:=R.put e (Or.inl (by decide));replace h206:=Fr10.on e h206 (by decide);replace h207:=Fr10.on e h207 (by decide);clear h208;clear h209;clear h210;clear e;refine only10 (i:=70) (fuel:=3) (by kernel_rfl) ?_;refine armc10 (l':=(lst10 71)) g70_10 rfl (by kernel_rfl) (wanted_some10 (j:=64) (d:=206) rfl (by kernel_rfl) h206) (y70_10 h211) ((HC.CC3 _ _).mono ?_);rintro e9 w ⟨rfl,kk⟩;replace K:=K.trans kk.all;replace HB:=blk_on10 HB kk;refine ⟨_,rfl,KS.out _ K,fun a' e=>?_⟩;clear kk;have h212:=R.at_ e (by decide);replace R:=R.put e (Or.inl (by decide));replace h206:=Fr10.on e h206 (by decide);replace h207:=Fr10.on e h207 (by decide);clear h211;clear e;refine only10 (i:=71) (fuel:=2) (by kernel_rfl) ?_;refine armc10 (l':=(lst10 72)) g71_10 rfl (by kernel_rfl) (wanted_some10 (j:=64) (d:=206) rfl (by kernel_rfl) h206) (y71_10 h207 h212) ((HC.CT w _ K HB).mono ?_);rintro e9 w ⟨rfl,kk⟩;replace K:=K.trans kk.all;clear HB;refine ⟨_,rfl,KS.out _ K,fun a' e=>?_⟩;clear kk;have h213:=R.at_ e (by decide);replace R:=R.put e (Or.inl (by decide));replace h206:=Fr10.on e h206 (by decide);clear h207;clear h212;clear e;refine take10 (i:=72) (fuel:=1) (l':=(lst10 73)) g72_10 rfl ns_10 (by kernel_rfl) (by kernel_rfl) (by kernel_rfl) (wanted_none10 rfl) (KS.out _ K) (fun w hw=>y72_10 h206 h213) fun a' e=>?_;have h214:=R.at_ e (by decide);replace R:=R.put e (Or.inl (by decide));clear h206;clear h213;clear e;refine take10 (i:=73) (fuel:=0) (l':=(lst10 74)) g73_10 rfl ns_10 (by kernel_rfl) (by kernel_rfl) (by kernel_rfl) (wanted_none10 rfl) (KS.out _ K) (fun w hw=>y73_10 h214) fun a' e=>?_;have h0:=R.at_ e (by decide);replace R:=R.put e (Or.inr rfl);clear h214;clear e;refine wpAnyH_done (by kernel_rfl) (NoPanic.normal ?_) _;exact hQ _ _ R h0 K
set_option maxRecDepth 100000 in
set_option maxHeartbeats 4000000 in
theorem r10b {W25:World} {ba br bl be g3 c3:Nat} {ar al:Option Addr} {cr cl:Nat} {Q:Exit→Act→World→Prop} {a0 a:Act} {p1 p2:Nat} {w:World} (HL:Lo10 a0 ba br bl be g3 c3) (KS:Hid (∀ W,Keep (fun g=>g < W25.heap.size) W25 W→S10 ba br bl be ar al cr cl W)) (HC:Con10 W25 ar al cr cl)
    (hQ:∀ a W,Fr10 a0 a→a.tmps[0]? = some (.bool true)→Keep (fun g=>g < W25.heap.size) W25 W→Q .normal a W) (R:Fr10 a0 a) (K:Keep (fun g=>g < W25.heap.size) W25 w) (h155:a.tmps[155]? = some (.bool true)) (h158:a.tmps[158]? = some (.agg #[.int .i64 4,.string ⟨#[103]⟩,.int .i64 0,.slice (some ⟨p1,0,none⟩) 1 1])) (h161:a.tmps[161]? = some (.slice (some ⟨p2,0,none⟩) 2 2)) (HB1:Blk w p1 24 #[.int .i64 3,.string ⟨#[97]⟩,.int .i64 0,.slice none 0 0]) (HB2:Blk w p2 24 #[.int .i64 3,.string ⟨#[97]⟩,.int .i64 0,.slice none 0 0,.int .i64 3,.string ⟨#[97]⟩,.int .i64 0,.slice none 0 0]):wpAnyH Try.prog .any ops10 (NoPanic Q) (S10 ba br bl be ar al cr cl) 54 (lst10 20) a w:=by
  refine only10 (i:=20) (fuel:=53) (by kernel_rfl) ?_;refine armc10 (l':=(lst10 21)) g20_10 rfl (by kernel_rfl) (wanted_some10 (j:=13) (d:=155) rfl (by kernel_rfl) h155) (y20_10 h161) ((HC.CC2 _ _).mono ?_);rintro e9 w ⟨rfl,kk⟩;replace K:=K.trans kk.all;replace HB1:=blk_on10 HB1 kk;replace HB2:=blk_on10 HB2 kk;refine ⟨_,rfl,KS.out _ K,fun a' e=>?_⟩;clear kk;have h162:=R.at_ e (by decide);replace R:=R.put e (Or.inl (by decide));replace h155:=Fr10.on e h155 (by decide);replace h158:=Fr10.on e h158 (by decide);clear h161;clear e;refine only10 (i:=21) (fuel:=52) (by kernel_rfl) ?_;refine armc10 (l':=(lst10 22)) g21_10 rfl (by kernel_rfl) (wanted_some10 (j:=13) (d:=155) rfl (by kernel_rfl) h155) (y21_10 h158 h162) ((HC.CO2 w _ _ K HB1 HB2).mono ?_);rintro e9 w ⟨rfl,kk⟩;replace K:=K.trans kk.all;clear HB1 HB2;refine ⟨_,rfl,KS.out _ K,fun a' e=>?_⟩;clear kk;have h163:=R.at_ e (by decide);replace R:=R.put e (Or.inl (by decide));replace h155:=Fr10.on e h155 (by decide);clear h158;clear h162;clear e;refine take10 (i:=22) (fuel:=51) (l':=(lst10 23)) g22_10 rfl ns_10 (by kernel_rfl) (by kernel_rfl) (by kernel_rfl) (wanted_some10 (j:=13) (d:=155) rfl (by kernel_rfl) h155) (KS.out _ K) (fun w hw=>y22_10 h163) fun a' e=>?_;have h164:=R.at_ e (by decide);replace R:=R.put e (Or.inl (by decide));replace h155:=Fr10.on e h155 (by decide);clear h163;clear e;refine take10 (i:=23) (fuel:=50) (l':=(lst10 24)) g23_10 rfl ns_10 (by kernel_rfl) (by kernel_rfl) (by kernel_rfl) (wanted_none10 rfl) (KS.out _ K) (fun w hw=>y23_10 h155 h164) fun a' e=>?_;have h165:=R.at_ e (by decide);replace R:=R.put e (Or.inl (by decide));clear h155;clear h164;clear e;refine take10 (i:=24) (fuel:=49) (l':=(lst10 25)) g24_10 rfl ns_10 (by kernel_rfl) (by kernel_rfl) (by kernel_rfl) (wanted_none10 rfl) (KS.out _ K) (fun w hw=>y24_10 h165) fun a' e=>?_;have h166:=R.at_ e (by decide);replace R:=R.put e (Or.inl (by decide));clear h165;clear e;refine take10 (i:=25) (fuel:=48) (l':=(lst10 26)) g25_10 rfl ns_10 (by kernel_rfl) (by kernel_rfl) (by kernel_rfl) (wanted_some10 (j:=24) (d:=166) rfl (by kernel_rfl) h166) (KS.out _ K) (fun w hw=>y25_10 ((R.low 16 (by decide) (by decide)).trans HL.s16)) fun a' e=>?_;have h167:=R.at_ e (by decide);replace R:=R.put e (Or.inl (by decide));replace h166:=Fr10.on e h166 (by decide);clear e;refine take10 (i:=26) (fuel:=47) (l':=(lst10 27)) g26_10 rfl ns_10 (by kernel_rfl) (by kernel_rfl) (by kernel_rfl) (wanted_some10 (j:=24) (d:=166) rfl (by kernel_rfl) h166) (KS.out _ K) (fun w hw=>y26_10 h167) fun a' e=>?_;have h168:=R.at_ e (by decide);replace R:=R.put e (Or.inl (by decide));replace h166:=Fr10.on e h166 (by decide);clear h167;clear e;refine take10 (i:=27) (fuel:=46) (l':=(lst10 28)) g27_10 rfl ns_10 (by kernel_rfl) (by kernel_rfl) (by kernel_rfl) (wanted_none10 rfl) (KS.out _ K) (fun w hw=>y27_10 h166 h168) fun a' e=>?_;have h169:=R.at_ e (by decide);replace R:=R.put e (Or.inl (by decide));clear h166;clear h168;clear e;refine take10 (i:=28) (fuel:=45) (l':=(lst10 29)) g28_10 rfl ns_10 (by kernel_rfl) (by kernel_rfl) (by kernel_rfl) (wanted_none10 rfl) (KS.out _ K) (fun w hw=>y28_10 h169) fun a' e=>?_;have h170:=R.at_ e (by decide);replace R:=R.put e (Or.inl (by decide));clear h169;clear e;refine take10 (i:=29) (fuel:=44) (l':=(lst10 30)) g29_10 rfl ns_10 (by kernel_rfl) (by kernel_rfl) (by kernel_rfl) (wanted_some10 (j:=28) (d:=170) rfl (by kernel_rfl) h170) (KS.out _ K) (fun w hw=>y29_10 ((R.low 17 (by decide) (by decide)).trans HL.s17)) fun a' e=>?_;have h171:=R.at_ e (by decide);replace R:=R.put e (Or.inl (by decide));replace h170:=Fr10.on e h170 (by decide);clear e;refine take10 (i:=30) (fuel:=43) (l':=(lst10 31)) g30_10 rfl ns_10 (by kernel_rfl) (by kernel_rfl) (by kernel_rfl) (wanted_some10 (j:=28) (d:=170) rfl (by kernel_rfl) h170) (KS.out _ K) (fun w hw=>y30_10 h171) fun a' e=>?_;have h172:=R.at_ e (by decide);replace R:=R.put e (Or.inl (by decide));replace h170:=Fr10.on e h170 (by decide);clear h171;clear e;refine take10 (i:=31) (fuel:=42) (l':=(lst10 32)) g31_10 rfl ns_10 (by kernel_rfl) (by kernel_rfl) (by kernel_rfl) (wanted_some10 (j:=28) (d:=170) rfl (by kernel_rfl) h170) (KS.out _ K) (fun w hw=>y31_10 h172) fun a' e=>?_;have h173:=R.at_ e (by decide);replace R:=R.put e (Or.inl (by decide));replace h170:=Fr10.on e h170 (by decide);clear h172;clear e;refine take10 (i:=32) (fuel:=41) (l':=(lst10 33)) g32_10 rfl ns_10 (by kernel_rfl) (by kernel_rfl) (by kernel_rfl) (wanted_none10 rfl) (KS.out _ K) (fun w hw=>y32_10 h170 h173) fun a' e=>?_;have h174:=R.at_ e (by decide);replace R:=R.put e (Or.inl (by decide));clear h170;clear h173;clear e;refine take10 (i:=33) (fuel:=40) (l':=(lst10 34)) g33_10 rfl ns_10 (by kernel_rfl) (by kernel_rfl) (by kernel_rfl) (wanted_none10 rfl) (KS.out _ K) (fun w hw=>y33_10 h174) fun a' e=>?_;have h175:=R.at_ e (by decide);replace R:=R.put e (Or.inl (by decide));clear h174;clear e;refine take10 (i:=34) (fuel:=39) (l':=(lst10 35)) g34_10 rfl ns_10 (by kernel_rfl) (by kernel_rfl) (by kernel_rfl) (wanted_some10 (j:=33) (d:=175) rfl (by kernel_rfl) h175) (KS.out _ K) (fun w hw=>y34_10 ((R.low 18 (by decide) (by decide)).trans HL.s18)) fun a' e=>?_;have h176:=R.at_ e (by decide);replace R:=R.put e (Or.inl (by decide));replace h175:=Fr10.on e h175 (by decide);clear e;refine take10 (i:=35) (fuel:=38) (l':=(lst10 36)) g35_10 rfl ns_10 (by kernel_rfl) (by kernel_rfl) (by kernel_rfl) (wanted_some10 (j:=33) (d:=175) rfl (by kernel_rfl) h175) (KS.out _ K) (fun w hw=>y35_10 h176 hw) fun a' e=>?_;have h177:=R.at_ e (by decide);replace R:=R.put e (Or.inl (by decide));replace h175:=Fr10.on e h175 (by decide);clear h176;clear e;refine take10 (i:=36) (fuel:=37) (l':=(lst10 37)) g36_10 rfl ns_10 (by kernel_rfl) (by kernel_rfl) (by kernel_rfl) (wanted_some10 (j:=33) (d:=175) rfl (by kernel_rfl) h175) (KS.out _ K) (fun w hw=>y36_10 h177) fun a' e=>?_;have h178:=R.at_ e (by decide);replace R:=R.put e (Or.inl (by decide));replace h175:=Fr10.on e h175 (by decide);clear h177;clear e;refine take10 (i:=37) (fuel:=36) (l':=(lst10 38)) g37_10 rfl ns_10 (by kernel_rfl) (by kernel_rfl) (by kernel_rfl) (wanted_none10 rfl) (KS.out _ K) (fun w hw=>y37_10 h175 h178) fun a' e=>?_;have h179:=R.at_ e (by decide);replace R:=R.put e (Or.inl (by decide));clear h175;clear h178;clear e;refine take10 (i:=38) (fuel:=35) (l':=(lst10 39)) g38_10 rfl ns_10 (by kernel_rfl) (by kernel_rfl) (by kernel_rfl) (wanted_none10 rfl) (KS.out _ K) (fun w hw=>y38_10 h179) fun a' e=>?_;have h180:=R.at_ e (by decide);replace R:=R.put e (Or.inl (by decide));clear h179;clear e;exact r10c HL KS HC hQ R K h180
set_option maxRecDepth 100000 in
set_option maxHeartbeats 4000000 in
theorem r10a {W25:World} {ba br bl be g3 c3:Nat} {ar al:Option Addr} {cr cl:Nat} {Q:Exit→Act→World→Prop} {a0 a:Act} {w:World} (HL:Lo10 a0 ba br bl be g3 c3) (KS:Hid (∀ W,Keep (fun g=>g < W25.heap.size) W25 W→S10 ba br bl be ar al cr cl W)) (HC:Con10 W25 ar al cr cl)
    (hQ:∀ a W,Fr10 a0 a→a.tmps[0]? = some (.bool true)→Keep (fun g=>g < W25.heap.size) W25 W→Q .normal a W) (R:Fr10 a0 a) (K:Keep (fun g=>g < W25.heap.size) W25 w)   : wpAnyH Try.prog .any ops10 (NoPanic Q) (S10 ba br bl be ar al cr cl) 74 (lst10 0) a w:=by
  refine take10 (i:=0) (fuel:=73) (l':=(lst10 1)) g0_10 rfl ns_10 (by kernel_rfl) (by kernel_rfl) (by kernel_rfl) (wanted_none10 rfl) (KS.out _ K) (fun w hw=>y0_10 ((R.low 12 (by decide) (by decide)).trans HL.s12) hw) fun a' e=>?_;have h142:=R.at_ e (by decide);replace R:=R.put e (Or.inl (by decide));clear e;refine only10 (i:=1) (fuel:=72) (by kernel_rfl) ?_;refine armc10 (l':=(lst10 2)) g1_10 rfl (by kernel_rfl) (wanted_none10 rfl) (y1_10 ) ((HC.CX 1 w).mono ?_);rintro e9 w ⟨rfl,kk⟩;replace K:=K.trans kk.all;refine ⟨_,rfl,KS.out _ K,fun a' e=>?_⟩;clear kk;have h143:=R.at_ e (by decide);replace R:=R.put e (Or.inl (by decide));replace h142:=Fr10.on e h142 (by decide);clear e;refine only10 (i:=2) (fuel:=71) (by kernel_rfl) ?_;refine armc10 (l':=(lst10 3)) g2_10 rfl (by kernel_rfl) (wanted_none10 rfl) (y2_10 ) ((HC.CX 2 w).mono ?_);rintro e9 w ⟨rfl,kk⟩;replace K:=K.trans kk.all;refine ⟨_,rfl,KS.out _ K,fun a' e=>?_⟩;clear kk;have h144:=R.at_ e (by decide);replace R:=R.put e (Or.inl (by decide));replace h142:=Fr10.on e h142 (by decide);replace h143:=Fr10.on e h143 (by decide);clear e;refine only10 (i:=3) (fuel:=70) (by kernel_rfl) ?_;refine armc10 (l':=(lst10 4)) g3_10 rfl (by kernel_rfl) (wanted_none10 rfl) (y3_10 ) ((HC.CX 1 w).mono ?_);rintro e9 w ⟨rfl,kk⟩;replace K:=K.trans kk.all;refine ⟨_,rfl,KS.out _ K,fun a' e=>?_⟩;clear kk;have h145:=R.at_ e (by decide);replace R:=R.put e (Or.inl (by decide));replace h142:=Fr10.on e h142 (by decide);replace h143:=Fr10.on e h143 (by decide);replace h144:=Fr10.on e h144 (by decide);clear e;refine only10 (i:=4) (fuel:=69) (by kernel_rfl) ?_;have HB:=Blk.new w 24 #[.int .i64 1,.string ⟨#[]⟩,.int .i64 1,.slice none 0 0,.int .i64 1,.string ⟨#[]⟩,.int .i64 2,.slice none 0 0,.int .i64 1,.string ⟨#[]⟩,.int .i64 1,.slice none 0 0];replace K:=K.alloc (.cells #[.int .i64 1,.string ⟨#[]⟩,.int .i64 1,.slice none 0 0,.int .i64 1,.string ⟨#[]⟩,.int .i64 2,.slice none 0 0,.int .i64 1,.string ⟨#[]⟩,.int .i64 1,.slice none 0 0] 24);have Y:=y4_10 (w:=w) h143 h144 h145;generalize w.alloc (.cells #[.int .i64 1,.string ⟨#[]⟩,.int .i64 1,.slice none 0 0,.int .i64 1,.string ⟨#[]⟩,.int .i64 2,.slice none 0 0,.int .i64 1,.string ⟨#[]⟩,.int .i64 1,.slice none 0 0] 24)=w at HB K Y;refine arm10 (l':=(lst10 5)) g4_10 rfl (by kernel_rfl) (wanted_none10 rfl) Y (KS.out _ K) fun a' e=>?_;clear Y;have h146:=R.at_ e (by decide);replace R:=R.put e (Or.inl (by decide));replace h142:=Fr10.on e h142 (by decide);clear h143;clear h144;clear h145;clear e;refine only10 (i:=5) (fuel:=68) (by kernel_rfl) ?_;refine armc10 (l':=(lst10 6)) g5_10 rfl (by kernel_rfl) (wanted_none10 rfl) (y5_10 h146) ((HC.CC3 _ _).mono ?_);rintro e9 w ⟨rfl,kk⟩;replace K:=K.trans kk.all;replace HB:=blk_on10 HB kk;refine ⟨_,rfl,KS.out _ K,fun a' e=>?_⟩;clear kk;have h147:=R.at_ e (by decide);replace R:=R.put e (Or.inl (by decide));replace h142:=Fr10.on e h142 (by decide);clear h146;clear e;refine only10 (i:=6) (fuel:=67) (by kernel_rfl) ?_;refine armc10 (l':=(lst10 7)) g6_10 rfl (by kernel_rfl) (wanted_none10 rfl) (y6_10 h142 h147) ((HC.CE w _ K HB).mono ?_);rintro e9 w ⟨rfl,kk⟩;replace K:=K.trans kk.all;clear HB;refine ⟨_,rfl,KS.out _ K,fun a' e=>?_⟩;clear kk;have h148:=R.at_ e (by decide);replace R:=R.put e (Or.inl (by decide));clear h142;clear h147;clear e;refine take10 (i:=7) (fuel:=66) (l':=(lst10 8)) g7_10 rfl ns_10 (by kernel_rfl) (by kernel_rfl) (by kernel_rfl) (wanted_none10 rfl) (KS.out _ K) (fun w hw=>y7_10 h148) fun a' e=>?_;have h149:=R.at_ e (by decide);replace R:=R.put e (Or.inl (by decide));clear h148;clear e;refine only10 (i:=8) (fuel:=65) (by kernel_rfl) ?_;refine armc10 (l':=(lst10 9)) g8_10 rfl (by kernel_rfl) (wanted_some10 (j:=7) (d:=149) rfl (by kernel_rfl) h149) (y8_10 ) ((HC.CX 9 w).mono ?_);rintro e9 w ⟨rfl,kk⟩;replace K:=K.trans kk.all;refine ⟨_,rfl,KS.out _ K,fun a' e=>?_⟩;clear kk;have h150:=R.at_ e (by decide);replace R:=R.put e (Or.inl (by decide));replace h149:=Fr10.on e h149 (by decide);clear e;refine only10 (i:=9) (fuel:=64) (by kernel_rfl) ?_;refine armc10 (l':=(lst10 10)) g9_10 rfl (by kernel_rfl) (wanted_some10 (j:=7) (d:=149) rfl (by kernel_rfl) h149) (y9_10 ) ((HC.CN 3 w).mono ?_);rintro e9 w ⟨rfl,kk⟩;replace K:=K.trans kk.all;refine ⟨_,rfl,KS.out _ K,fun a' e=>?_⟩;clear kk;have h151:=R.at_ e (by decide);replace R:=R.put e (Or.inl (by decide));replace h149:=Fr10.on e h149 (by decide);replace h150:=Fr10.on e h150 (by decide);clear e;refine only10 (i:=10) (fuel:=63) (by kernel_rfl) ?_;refine armc10 (l':=(lst10 11)) g10_10 rfl (by kernel_rfl) (wanted_some10 (j:=7) (d:=149) rfl (by kernel_rfl) h149) (y10_10 h150 h151) ((HC.CO1 w).mono ?_);rintro e9 w ⟨rfl,kk⟩;replace K:=K.trans kk.all;refine ⟨_,rfl,KS.out _ K,fun a' e=>?_⟩;clear kk;have h152:=R.at_ e (by decide);replace R:=R.put e (Or.inl (by decide));replace h149:=Fr10.on e h149 (by decide);clear h150;clear h151;clear e;refine take10 (i:=11) (fuel:=62) (l':=(lst10 12)) g11_10 rfl ns_10 (by kernel_rfl) (by kernel_rfl) (by kernel_rfl) (wanted_some10 (j:=7) (d:=149) rfl (by kernel_rfl) h149) (KS.out _ K) (fun w hw=>y11_10 h152) fun a' e=>?_;have h153:=R.at_ e (by decide);replace R:=R.put e (Or.inl (by decide));replace h149:=Fr10.on e h149 (by decide);clear h152;clear e;refine take10 (i:=12) (fuel:=61) (l':=(lst10 13)) g12_10 rfl ns_10 (by kernel_rfl) (by kernel_rfl) (by kernel_rfl) (wanted_none10 rfl) (KS.out _ K) (fun w hw=>y12_10 h149 h153) fun a' e=>?_;have h154:=R.at_ e (by decide);replace R:=R.put e (Or.inl (by decide));clear h149;clear h153;clear e;refine take10 (i:=13) (fuel:=60) (l':=(lst10 14)) g13_10 rfl ns_10 (by kernel_rfl) (by kernel_rfl) (by kernel_rfl) (wanted_none10 rfl) (KS.out _ K) (fun w hw=>y13_10 h154) fun a' e=>?_;have h155:=R.at_ e (by decide);replace R:=R.put e (Or.inl (by decide));clear h154;clear e;refine take10 (i:=14) (fuel:=59) (l':=(lst10 15)) g14_10 rfl ns_10 (by kernel_rfl) (by kernel_rfl) (by kernel_rfl) (wanted_some10 (j:=13) (d:=155) rfl (by kernel_rfl) h155) (KS.out _ K) (fun w hw=>y14_10 ((R.low 1 (by decide) (by decide)).trans HL.s1) hw) fun a' e=>?_;have h156:=R.at_ e (by decide);replace R:=R.put e (Or.inl (by decide));replace h155:=Fr10.on e h155 (by decide);clear e;refine take10 (i:=17) (fuel:=58) (l':=((lst10 15).setIfInBounds 17 true)) g17_10 rfl ns_10 (by kernel_rfl) (by kernel_rfl) (by kernel_rfl) (wanted_some10 (j:=13) (d:=155) rfl (by kernel_rfl) h155) (KS.out _ K) (fun w hw=>y17_10 ((R.low 1 (by decide) (by decide)).trans HL.s1) hw) fun a' e=>?_;have h159:=R.at_ e (by decide);replace R:=R.put e (Or.inl (by decide));replace h155:=Fr10.on e h155 (by decide);replace h156:=Fr10.on e h156 (by decide);clear e;refine take10 (i:=18) (fuel:=57) (l':=(((lst10 15).setIfInBounds 17 true).setIfInBounds 18 true)) g18_10 rfl ns_10 (by kernel_rfl) (by kernel_rfl) (by kernel_rfl) (wanted_some10 (j:=13) (d:=155) rfl (by kernel_rfl) h155) (KS.out _ K) (fun w hw=>y18_10 ((R.low 1 (by decide) (by decide)).trans HL.s1) hw) fun a' e=>?_;have h160:=R.at_ e (by decide);replace R:=R.put e (Or.inl (by decide));replace h155:=Fr10.on e h155 (by decide);replace h156:=Fr10.on e h156 (by decide);replace h159:=Fr10.on e h159 (by decide);clear e;refine either10 (i:=15) (k:=19) (fuel:=56) (by kernel_rfl) ?_ ?_
  · have HB1:=Blk.new w 24 #[.int .i64 3,.string ⟨#[97]⟩,.int .i64 0,.slice none 0 0];replace K:=K.alloc (.cells #[.int .i64 3,.string ⟨#[97]⟩,.int .i64 0,.slice none 0 0] 24);have Y:=y15_10 (w:=w) h156;generalize w.alloc (.cells #[.int .i64 3,.string ⟨#[97]⟩,.int .i64 0,.slice none 0 0] 24)=w at HB1 K Y;refine arm10 (l':=(((lst10 16).setIfInBounds 17 true).setIfInBounds 18 true)) g15_10 rfl (by kernel_rfl) (wanted_some10 (j:=13) (d:=155) rfl (by kernel_rfl) h155) Y (KS.out _ K) fun a' e=>?_;clear Y;have h157:=R.at_ e (by decide);replace R:=R.put e (Or.inl (by decide));replace h155:=Fr10.on e h155 (by decide);replace h159:=Fr10.on e h159 (by decide);replace h160:=Fr10.on e h160 (by decide);clear h156;clear e;refine either10 (i:=16) (k:=19) (fuel:=55) (by kernel_rfl) ?_ ?_
    · refine armc10 (l':=(lst10 19)) g16_10 rfl (by kernel_rfl) (wanted_some10 (j:=13) (d:=155) rfl (by kernel_rfl) h155) (y16_10 h157) ((HC.CG1 _ _).mono ?_);rintro e9 w ⟨rfl,kk⟩;replace K:=K.trans kk.all;replace HB1:=blk_on10 HB1 kk;refine ⟨_,rfl,KS.out _ K,fun a' e=>?_⟩;clear kk;have h158:=R.at_ e (by decide);replace R:=R.put e (Or.inl (by decide));replace h155:=Fr10.on e h155 (by decide);replace h159:=Fr10.on e h159 (by decide);replace h160:=Fr10.on e h160 (by decide);clear h157;clear e;refine only10 (i:=19) (fuel:=54) (by kernel_rfl) ?_;have HB2:=Blk.new w 24 #[.int .i64 3,.string ⟨#[97]⟩,.int .i64 0,.slice none 0 0,.int .i64 3,.string ⟨#[97]⟩,.int .i64 0,.slice none 0 0];replace K:=K.alloc (.cells #[.int .i64 3,.string ⟨#[97]⟩,.int .i64 0,.slice none 0 0,.int .i64 3,.string ⟨#[97]⟩,.int .i64 0,.slice none 0 0] 24);have Y:=y19_10 (w:=w) h159 h160;replace HB1:=HB1.alloc (.cells #[.int .i64 3,.string ⟨#[97]⟩,.int .i64 0,.slice none 0 0,.int .i64 3,.string ⟨#[97]⟩,.int .i64 0,.slice none 0 0] 24);generalize w.alloc (.cells #[.int .i64 3,.string ⟨#[97]⟩,.int .i64 0,.slice none 0 0,.int .i64 3,.string ⟨#[97]⟩,.int .i64 0,.slice none 0 0] 24)=w at HB2 K Y HB1;refine arm10 (l':=(lst10 20)) g19_10 rfl (by kernel_rfl) (wanted_some10 (j:=13) (d:=155) rfl (by kernel_rfl) h155) Y (KS.out _ K) fun a' e=>?_;clear Y;have h161:=R.at_ e (by decide);replace R:=R.put e (Or.inl (by decide));replace h155:=Fr10.on e h155 (by decide);replace h158:=Fr10.on e h158 (by decide);clear h159;clear h160;clear e;exact r10b HL KS HC hQ R K h155 h158 h161 HB1 HB2
    · have HB2:=Blk.new w 24 #[.int .i64 3,.string ⟨#[97]⟩,.int .i64 0,.slice none 0 0,.int .i64 3,.string ⟨#[97]⟩,.int .i64 0,.slice none 0 0];replace K:=K.alloc (.cells #[.int .i64 3,.string ⟨#[97]⟩,.int .i64 0,.slice none 0 0,.int .i64 3,.string ⟨#[97]⟩,.int .i64 0,.slice none 0 0] 24);have Y:=y19_10 (w:=w) h159 h160;replace HB1:=HB1.alloc (.cells #[.int .i64 3,.string ⟨#[97]⟩,.int .i64 0,.slice none 0 0,.int .i64 3,.string ⟨#[97]⟩,.int .i64 0,.slice none 0 0] 24);generalize w.alloc (.cells #[.int .i64 3,.string ⟨#[97]⟩,.int .i64 0,.slice none 0 0,.int .i64 3,.string ⟨#[97]⟩,.int .i64 0,.slice none 0 0] 24)=w at HB2 K Y HB1;refine arm10 (l':=((((lst10 16).setIfInBounds 17 true).setIfInBounds 18 true).setIfInBounds 19 true)) g19_10 rfl (by kernel_rfl) (wanted_some10 (j:=13) (d:=155) rfl (by kernel_rfl) h155) Y (KS.out _ K) fun a' e=>?_;clear Y;have h161:=R.at_ e (by decide);replace R:=R.put e (Or.inl (by decide));replace h155:=Fr10.on e h155 (by decide);replace h157:=Fr10.on e h157 (by decide);clear h159;clear h160;clear e;refine only10 (i:=16) (fuel:=54) (by kernel_rfl) ?_;refine armc10 (l':=(lst10 20)) g16_10 rfl (by kernel_rfl) (wanted_some10 (j:=13) (d:=155) rfl (by kernel_rfl) h155) (y16_10 h157) ((HC.CG1 _ _).mono ?_);rintro e9 w ⟨rfl,kk⟩;replace K:=K.trans kk.all;replace HB1:=blk_on10 HB1 kk;replace HB2:=blk_on10 HB2 kk;refine ⟨_,rfl,KS.out _ K,fun a' e=>?_⟩;clear kk;have h158:=R.at_ e (by decide);replace R:=R.put e (Or.inl (by decide));replace h155:=Fr10.on e h155 (by decide);replace h161:=Fr10.on e h161 (by decide);clear h157;clear e;exact r10b HL KS HC hQ R K h155 h158 h161 HB1 HB2
  · have HB2:=Blk.new w 24 #[.int .i64 3,.string ⟨#[97]⟩,.int .i64 0,.slice none 0 0,.int .i64 3,.string ⟨#[97]⟩,.int .i64 0,.slice none 0 0];replace K:=K.alloc (.cells #[.int .i64 3,.string ⟨#[97]⟩,.int .i64 0,.slice none 0 0,.int .i64 3,.string ⟨#[97]⟩,.int .i64 0,.slice none 0 0] 24);have Y:=y19_10 (w:=w) h159 h160;generalize w.alloc (.cells #[.int .i64 3,.string ⟨#[97]⟩,.int .i64 0,.slice none 0 0,.int .i64 3,.string ⟨#[97]⟩,.int .i64 0,.slice none 0 0] 24)=w at HB2 K Y;refine arm10 (l':=((((lst10 15).setIfInBounds 17 true).setIfInBounds 18 true).setIfInBounds 19 true)) g19_10 rfl (by kernel_rfl) (wanted_some10 (j:=13) (d:=155) rfl (by kernel_rfl) h155) Y (KS.out _ K) fun a' e=>?_;clear Y;have h161:=R.at_ e (by decide);replace R:=R.put e (Or.inl (by decide));replace h155:=Fr10.on e h155 (by decide);replace h156:=Fr10.on e h156 (by decide);clear h159;clear h160;clear e;refine only10 (i:=15) (fuel:=55) (by kernel_rfl) ?_;have HB1:=Blk.new w 24 #[.int .i64 3,.string ⟨#[97]⟩,.int .i64 0,.slice none 0 0];replace K:=K.alloc (.cells #[.int .i64 3,.string ⟨#[97]⟩,.int .i64 0,.slice none 0 0] 24);have Y:=y15_10 (w:=w) h156;replace HB2:=HB2.alloc (.cells #[.int .i64 3,.string ⟨#[97]⟩,.int .i64 0,.slice none 0 0] 24);generalize w.alloc (.cells #[.int .i64 3,.string ⟨#[97]⟩,.int .i64 0,.slice none 0 0] 24)=w at HB1 K Y HB2;refine arm10 (l':=((((lst10 16).setIfInBounds 17 true).setIfInBounds 18 true).setIfInBounds 19 true)) g15_10 rfl (by kernel_rfl) (wanted_some10 (j:=13) (d:=155) rfl (by kernel_rfl) h155) Y (KS.out _ K) fun a' e=>?_;clear Y;have h157:=R.at_ e (by decide);replace R:=R.put e (Or.inl (by decide));replace h155:=Fr10.on e h155 (by decide);replace h161:=Fr10.on e h161 (by decide);clear h156;clear e;refine only10 (i:=16) (fuel:=54) (by kernel_rfl) ?_;refine armc10 (l':=(lst10 20)) g16_10 rfl (by kernel_rfl) (wanted_some10 (j:=13) (d:=155) rfl (by kernel_rfl) h155) (y16_10 h157) ((HC.CG1 _ _).mono ?_);rintro e9 w ⟨rfl,kk⟩;replace K:=K.trans kk.all;replace HB1:=blk_on10 HB1 kk;replace HB2:=blk_on10 HB2 kk;refine ⟨_,rfl,KS.out _ K,fun a' e=>?_⟩;clear kk;have h158:=R.at_ e (by decide);replace R:=R.put e (Or.inl (by decide));replace h155:=Fr10.on e h155 (by decide);replace h161:=Fr10.on e h161 (by decide);clear h157;clear e;exact r10b HL KS HC hQ R K h155 h158 h161 HB1 HB2
theorem suf10 {l:List Value} (h:l.length=73):∃ s142 s143 s144 s145 s146 s147 s148 s149 s150 s151 s152 s153 s154 s155 s156 s157 s158 s159 s160 s161 s162 s163 s164 s165 s166 s167 s168 s169 s170 s171 s172 s173 s174 s175 s176 s177 s178 s179 s180 s181 s182 s183 s184 s185 s186 s187 s188 s189 s190 s191 s192 s193 s194 s195 s196 s197 s198 s199 s200 s201 s202 s203 s204 s205 s206 s207 s208 s209 s210 s211 s212 s213 s214:Value,l=s142::s143::s144::s145::s146::s147::s148::s149::s150::s151::s152::s153::s154::s155::s156::s157::s158::s159::s160::s161::s162::s163::s164::s165::s166::s167::s168::s169::s170::s171::s172::s173::s174::s175::s176::s177::s178::s179::s180::s181::s182::s183::s184::s185::s186::s187::s188::s189::s190::s191::s192::s193::s194::s195::s196::s197::s198::s199::s200::s201::s202::s203::s204::s205::s206::s207::s208::s209::s210::s211::s212::s213::s214::[]:=by
  rcases l with _ | ⟨s142,l⟩
  · simp at h
  replace h:=Nat.succ.inj h;rcases l with _ | ⟨s143,l⟩
  · simp at h
  replace h:=Nat.succ.inj h;rcases l with _ | ⟨s144,l⟩
  · simp at h
  replace h:=Nat.succ.inj h;rcases l with _ | ⟨s145,l⟩
  · simp at h
  replace h:=Nat.succ.inj h;rcases l with _ | ⟨s146,l⟩
  · simp at h
  replace h:=Nat.succ.inj h;rcases l with _ | ⟨s147,l⟩
  · simp at h
  replace h:=Nat.succ.inj h;rcases l with _ | ⟨s148,l⟩
  · simp at h
  replace h:=Nat.succ.inj h;rcases l with _ | ⟨s149,l⟩
  · simp at h
  replace h:=Nat.succ.inj h;rcases l with _ | ⟨s150,l⟩
  · simp at h
  replace h:=Nat.succ.inj h;rcases l with _ | ⟨s151,l⟩
  · simp at h
  replace h:=Nat.succ.inj h;rcases l with _ | ⟨s152,l⟩
  · simp at h
  replace h:=Nat.succ.inj h;rcases l with _ | ⟨s153,l⟩
  · simp at h
  replace h:=Nat.succ.inj h;rcases l with _ | ⟨s154,l⟩
  · simp at h
  replace h:=Nat.succ.inj h;rcases l with _ | ⟨s155,l⟩
  · simp at h
  replace h:=Nat.succ.inj h;rcases l with _ | ⟨s156,l⟩
  · simp at h
  replace h:=Nat.succ.inj h;rcases l with _ | ⟨s157,l⟩
  · simp at h
  replace h:=Nat.succ.inj h;rcases l with _ | ⟨s158,l⟩
  · simp at h
  replace h:=Nat.succ.inj h;rcases l with _ | ⟨s159,l⟩
  · simp at h
  replace h:=Nat.succ.inj h;rcases l with _ | ⟨s160,l⟩
  · simp at h
  replace h:=Nat.succ.inj h;rcases l with _ | ⟨s161,l⟩
  · simp at h
  replace h:=Nat.succ.inj h;rcases l with _ | ⟨s162,l⟩
  · simp at h
  replace h:=Nat.succ.inj h;rcases l with _ | ⟨s163,l⟩
  · simp at h
  replace h:=Nat.succ.inj h;rcases l with _ | ⟨s164,l⟩
  · simp at h
  replace h:=Nat.succ.inj h;rcases l with _ | ⟨s165,l⟩
  · simp at h
  replace h:=Nat.succ.inj h;rcases l with _ | ⟨s166,l⟩
  · simp at h
  replace h:=Nat.succ.inj h;rcases l with _ | ⟨s167,l⟩
  · simp at h
  replace h:=Nat.succ.inj h;rcases l with _ | ⟨s168,l⟩
  · simp at h
  replace h:=Nat.succ.inj h;rcases l with _ | ⟨s169,l⟩
  · simp at h
  replace h:=Nat.succ.inj h;rcases l with _ | ⟨s170,l⟩
  · simp at h
  replace h:=Nat.succ.inj h;rcases l with _ | ⟨s171,l⟩
  · simp at h
  replace h:=Nat.succ.inj h;rcases l with _ | ⟨s172,l⟩
  · simp at h
  replace h:=Nat.succ.inj h;rcases l with _ | ⟨s173,l⟩
  · simp at h
  replace h:=Nat.succ.inj h;rcases l with _ | ⟨s174,l⟩
  · simp at h
  replace h:=Nat.succ.inj h;rcases l with _ | ⟨s175,l⟩
  · simp at h
  replace h:=Nat.succ.inj h;rcases l with _ | ⟨s176,l⟩
  · simp at h
  replace h:=Nat.succ.inj h;rcases l with _ | ⟨s177,l⟩
  · simp at h
  replace h:=Nat.succ.inj h;rcases l with _ | ⟨s178,l⟩
  · simp at h
  replace h:=Nat.succ.inj h;rcases l with _ | ⟨s179,l⟩
  · simp at h
  replace h:=Nat.succ.inj h;rcases l with _ | ⟨s180,l⟩
  · simp at h
  replace h:=Nat.succ.inj h;rcases l with _ | ⟨s181,l⟩
  · simp at h
  replace h:=Nat.succ.inj h;rcases l with _ | ⟨s182,l⟩
  · simp at h
  replace h:=Nat.succ.inj h;rcases l with _ | ⟨s183,l⟩
  · simp at h
  replace h:=Nat.succ.inj h;rcases l with _ | ⟨s184,l⟩
  · simp at h
  replace h:=Nat.succ.inj h;rcases l with _ | ⟨s185,l⟩
  · simp at h
  replace h:=Nat.succ.inj h;rcases l with _ | ⟨s186,l⟩
  · simp at h
  replace h:=Nat.succ.inj h;rcases l with _ | ⟨s187,l⟩
  · simp at h
  replace h:=Nat.succ.inj h;rcases l with _ | ⟨s188,l⟩
  · simp at h
  replace h:=Nat.succ.inj h;rcases l with _ | ⟨s189,l⟩
  · simp at h
  replace h:=Nat.succ.inj h;rcases l with _ | ⟨s190,l⟩
  · simp at h
  replace h:=Nat.succ.inj h;rcases l with _ | ⟨s191,l⟩
  · simp at h
  replace h:=Nat.succ.inj h;rcases l with _ | ⟨s192,l⟩
  · simp at h
  replace h:=Nat.succ.inj h;rcases l with _ | ⟨s193,l⟩
  · simp at h
  replace h:=Nat.succ.inj h;rcases l with _ | ⟨s194,l⟩
  · simp at h
  replace h:=Nat.succ.inj h;rcases l with _ | ⟨s195,l⟩
  · simp at h
  replace h:=Nat.succ.inj h;rcases l with _ | ⟨s196,l⟩
  · simp at h
  replace h:=Nat.succ.inj h;rcases l with _ | ⟨s197,l⟩
  · simp at h
  replace h:=Nat.succ.inj h;rcases l with _ | ⟨s198,l⟩
  · simp at h
  replace h:=Nat.succ.inj h;rcases l with _ | ⟨s199,l⟩
  · simp at h
  replace h:=Nat.succ.inj h;rcases l with _ | ⟨s200,l⟩
  · simp at h
  replace h:=Nat.succ.inj h;rcases l with _ | ⟨s201,l⟩
  · simp at h
  replace h:=Nat.succ.inj h;rcases l with _ | ⟨s202,l⟩
  · simp at h
  replace h:=Nat.succ.inj h;rcases l with _ | ⟨s203,l⟩
  · simp at h
  replace h:=Nat.succ.inj h;rcases l with _ | ⟨s204,l⟩
  · simp at h
  replace h:=Nat.succ.inj h;rcases l with _ | ⟨s205,l⟩
  · simp at h
  replace h:=Nat.succ.inj h;rcases l with _ | ⟨s206,l⟩
  · simp at h
  replace h:=Nat.succ.inj h;rcases l with _ | ⟨s207,l⟩
  · simp at h
  replace h:=Nat.succ.inj h;rcases l with _ | ⟨s208,l⟩
  · simp at h
  replace h:=Nat.succ.inj h;rcases l with _ | ⟨s209,l⟩
  · simp at h
  replace h:=Nat.succ.inj h;rcases l with _ | ⟨s210,l⟩
  · simp at h
  replace h:=Nat.succ.inj h;rcases l with _ | ⟨s211,l⟩
  · simp at h
  replace h:=Nat.succ.inj h;rcases l with _ | ⟨s212,l⟩
  · simp at h
  replace h:=Nat.succ.inj h;rcases l with _ | ⟨s213,l⟩
  · simp at h
  replace h:=Nat.succ.inj h;rcases l with _ | ⟨s214,l⟩
  · simp at h
  replace h:=Nat.succ.inj h;cases l with
  | cons _ _=>simp at h
  | nil=>exact ⟨s142,s143,s144,s145,s146,s147,s148,s149,s150,s151,s152,s153,s154,s155,s156,s157,s158,s159,s160,s161,s162,s163,s164,s165,s166,s167,s168,s169,s170,s171,s172,s173,s174,s175,s176,s177,s178,s179,s180,s181,s182,s183,s184,s185,s186,s187,s188,s189,s190,s191,s192,s193,s194,s195,s196,s197,s198,s199,s200,s201,s202,s203,s204,s205,s206,s207,s208,s209,s210,s211,s212,s213,s214,rfl⟩
theorem last10 {a0 a:Act} (R:Fr10 a0 a) (h0:a.tmps[0]? = some (.bool true)) {p:List Value} {u0:Value} (hp:p.length=141) (q:List Value) (h:a0.tmps=(u0::(p ++ q)).toArray):∃ s142 s143 s144 s145 s146 s147 s148 s149 s150 s151 s152 s153 s154 s155 s156 s157 s158 s159 s160 s161 s162 s163 s164 s165 s166 s167 s168 s169 s170 s171 s172 s173 s174 s175 s176 s177 s178 s179 s180 s181 s182 s183 s184 s185 s186 s187 s188 s189 s190 s191 s192 s193 s194 s195 s196 s197 s198 s199 s200 s201 s202 s203 s204 s205 s206 s207 s208 s209 s210 s211 s212 s213 s214:Value,a={ tmps:=(Value.bool true::(p ++ (s142::s143::s144::s145::s146::s147::s148::s149::s150::s151::s152::s153::s154::s155::s156::s157::s158::s159::s160::s161::s162::s163::s164::s165::s166::s167::s168::s169::s170::s171::s172::s173::s174::s175::s176::s177::s178::s179::s180::s181::s182::s183::s184::s185::s186::s187::s188::s189::s190::s191::s192::s193::s194::s195::s196::s197::s198::s199::s200::s201::s202::s203::s204::s205::s206::s207::s208::s209::s210::s211::s212::s213::s214::[]))).toArray,defers:=[] }:=by
  obtain ⟨tm,df⟩:=a;obtain ⟨l⟩:=tm;have hs:=R.size;have hd:=R.defers;have hl:l.length=215:=hs;simp only at hd;subst hd;rcases l with _ | ⟨v0,l⟩
  · simp at hl
  have hv:v0=.bool true:=by simpa using h0
  subst hv;have hl2:l.length=214:=by simpa using hl
  have h2:(l.drop 141).length=73:=by rw [List.length_drop,hl2]
  obtain ⟨s142,s143,s144,s145,s146,s147,s148,s149,s150,s151,s152,s153,s154,s155,s156,s157,s158,s159,s160,s161,s162,s163,s164,s165,s166,s167,s168,s169,s170,s171,s172,s173,s174,s175,s176,s177,s178,s179,s180,s181,s182,s183,s184,s185,s186,s187,s188,s189,s190,s191,s192,s193,s194,s195,s196,s197,s198,s199,s200,s201,s202,s203,s204,s205,s206,s207,s208,s209,s210,s211,s212,s213,s214,he⟩:=suf10 h2;have h3:l.take 141=p:=by
    refine List.ext_getElem? fun k=>?_;rcases Nat.lt_or_ge k 141 with hk | hk
    · have h4:=R.low (k + 1) (by omega) (by omega);rw [h] at h4;simp only [List.getElem?_toArray,List.getElem?_cons_succ] at h4;rw [List.getElem?_take_of_lt hk,h4,List.getElem?_append_left (by omega)]
    · rw [List.getElem?_eq_none (by rw [List.length_take];omega),List.getElem?_eq_none (by omega)]
  refine ⟨s142,s143,s144,s145,s146,s147,s148,s149,s150,s151,s152,s153,s154,s155,s156,s157,s158,s159,s160,s161,s162,s163,s164,s165,s166,s167,s168,s169,s170,s171,s172,s173,s174,s175,s176,s177,s178,s179,s180,s181,s182,s183,s184,s185,s186,s187,s188,s189,s190,s191,s192,s193,s194,s195,s196,s197,s198,s199,s200,s201,s202,s203,s204,s205,s206,s207,s208,s209,s210,s211,s212,s213,s214,?_⟩;rw [← List.take_append_drop 141 l,h3,he]
end Go.Proofs.Ytjinmnekfhekpaa
