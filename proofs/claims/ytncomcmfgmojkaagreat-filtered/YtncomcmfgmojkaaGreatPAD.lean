import Derived.Test.YtncomcmfgmojkaaGreatP01
import Derived.Test.YtncomcmfgmojkaaGreatProg
import Derived.Deep.Light
import Derived.Deep.RegionHeld3
import Derived.Deep.DrawnRows
import Derived.Lib.BufferWrite
import Derived.RangeFuncBound
import Derived.Shelf.RegionOpen
import Derived.OwnWalkIn
import Derived.LoopNIn
import Derived.LoopIn
import Derived.Conc.Beside
import Derived.Test.YtncomcmfgmojkaaGreatPAC
set_option linter.all false
set_option maxRecDepth 100000
set_option maxHeartbeats 16000000
namespace Go.Proofs.YtncomcmfgmojkaaGreat
open Go.Proofs.Tryz
namespace av
section
section
variable(P:cg)(u:Bool)
@[simp] theorem aij:(ae P u).toTables=P.toTables:=rfl
@[simp] theorem A1 (t:TypeId):(ae P u).underlying t=P.underlying t:=rfl
@[simp] theorem aBn:(ae P u).depth=P.depth:=rfl
@[simp] theorem aBo (t:TypeId):(ae P u).stoodInHeld t=P.stoodInHeld t:=(K0 (C:=ed P u) Y t).symm
@[simp] theorem aBp (n:Nat) (t:TypeId):(ae P u).eqGuardType n t=P.eqGuardType n t:=(Wx (C:=ed P u) Y n t).symm
@[simp] theorem aBq (t:TypeId):(ae P u).cellsOf t=P.cellsOf t:=rfl
@[simp] theorem aBr (t:TypeId):(ae P u).bytesOf t=P.bytesOf t:=rfl
@[simp] theorem Xc (t:TypeId) (w:aO):Sem.run (ae P u) (typeInfo t) w=Sem.run P (typeInfo t) w:=by unfold typeInfo;simp only[mC,Go.program,Sem.run,aij];cases P.info? t<;>rfl
@[simp] theorem aik (t:TypeId) (w:aO):Sem.run (ae P u) (underlying t) w=Sem.run P (underlying t) w:=by unfold underlying;simp only[mC,Go.program,Sem.run,A1];cases P.underlying t<;>rfl
@[simp] theorem aBs (t:TypeId) (w:aO):Sem.run (ae P u) (Go.sizeOf t) w=Sem.run P (Go.sizeOf t) w:=by unfold Go.sizeOf;simp only[mC,Xc];cases Sem.run P (typeInfo t) w<;>rfl
@[simp] theorem aBt (t:TypeId) (w:aO):Sem.run (ae P u) (zeroValue t) w=Sem.run P (zeroValue t) w:=by unfold zeroValue;simp only[mC,Xc];cases Sem.run P (typeInfo t) w with|ok i w1=>simp only[];cases i.zero<;>rfl|halt h w1=>rfl
@[simp] theorem aBu (t:TypeId) (w:aO):Sem.run (ae P u) (isAgg t) w=Sem.run P (isAgg t) w:=by unfold isAgg;simp only[mC,aik];cases Sem.run P (underlying t) w with|ok i w1=>cases i<;>rfl|halt h w1=>rfl
end
def cB{P:cg}{u:Bool}{f:FuncId}{fn:Func}(h:(ae P u).funcs[f]?=some fn)(hk:hX P u fn=true)(args:Array Value)(w:aO):Sem.run (ae P u) (callFunc f args) w=.ok (.enter f args) w:=by
 unfold callFunc;simp only[hX,Bool.and_eq_true,bne_iff_ne]at hk;have hn:(fn.name== "runtime.NumGoroutine")=false:=AA;have a:fn.body.isNone=false:=by cases a:fn.body with|none=>grind|some c=>rfl
 simp only[mC,Go.program,Sem.run,h,hn,a];rfl
end
end av
namespace bN
open RowKit av
@[simp] theorem aBw (a:Array Value) (w:aO):Sem.run (ae prog true) (callFunc 101 a) w=.ok (.enter 101 a) w:=cB (a6 (upd:=true) func101 AV) AV a w
@[simp] theorem aBx (a:Array Value) (w:aO):Sem.run (ae prog true) (callFunc 67 a) w=.ok (.enter 67 a) w:=cB (a6 (upd:=true) func67 AV) AV a w
@[simp] theorem aBy (a:Array Value) (w:aO):Sem.run (ae prog true) (callFunc 106 a) w=.ok (.enter 106 a) w:=cB (a6 (upd:=true) func106 AV) AV a w
@[simp] theorem aBz (a:Array Value) (w:aO):Sem.run (ae prog true) (callFunc 141 a) w=.ok (.enter 141 a) w:=cB (a6 (upd:=true) func141 AV) AV a w
@[simp] theorem aBA (a:Array Value) (w:aO):Sem.run (ae prog true) (callFunc 105 a) w=.ok (.enter 105 a) w:=cB (a6 (upd:=true) func105 AV) AV a w
@[simp] theorem aBB (a:Array Value) (w:aO):Sem.run (ae prog true) (callFunc 102 a) w=.ok (.enter 102 a) w:=cB (a6 (upd:=true) func102 AV) AV a w
@[simp] theorem aBC (a:Array Value) (w:aO):Sem.run (ae prog true) (callFunc 144 a) w=.ok (.enter 144 a) w:=cB (a6 (upd:=true) func144 AV) AV a w
@[simp] theorem aBD (a:Array Value) (w:aO):Sem.run (ae prog true) (callFunc 69 a) w=.ok (.enter 69 a) w:=cB (a6 (upd:=true) func69 AV) AV a w
@[simp] theorem aBE (a:Array Value) (w:aO):Sem.run (ae prog true) (callFunc 124 a) w=.ok (.enter 124 a) w:=cB (a6 (upd:=true) func124 AV) AV a w
@[simp] theorem aBF (a:Array Value) (w:aO):Sem.run (ae prog true) (callFunc 125 a) w=.ok (.enter 125 a) w:=cB (a6 (upd:=true) func125 AV) AV a w
@[simp] theorem aBG (a:Array Value) (w:aO):Sem.run (ae prog true) (callFunc 126 a) w=.ok (.enter 126 a) w:=cB (a6 (upd:=true) func126 AV) AV a w
@[simp] theorem aBH (a:Array Value) (w:aO):Sem.run (ae prog true) (callFunc 103 a) w=.ok (.enter 103 a) w:=cB (a6 (upd:=true) func103 AV) AV a w
@[simp] theorem aBI (a:Array Value) (w:aO):Sem.run (ae prog true) (callFunc 68 a) w=.ok (.enter 68 a) w:=cB (a6 (upd:=true) func68 AV) AV a w
@[simp] theorem aBJ (a:Array Value) (w:aO):Sem.run (ae prog true) (callFunc 64 a) w=.ok (.enter 64 a) w:=cB (a6 (upd:=true) func64 AV) AV a w
@[simp] theorem aBK (a:Array Value) (w:aO):Sem.run (ae prog true) (callFunc 63 a) w=.ok (.enter 63 a) w:=cB (a6 (upd:=true) func63 AV) AV a w
@[simp] theorem aBL (a:Array Value) (w:aO):Sem.run (ae prog true) (callFunc 65 a) w=.ok (.enter 65 a) w:=cB (a6 (upd:=true) func65 AV) AV a w
@[simp] theorem aBM (a:Array Value) (w:aO):Sem.run (ae prog true) (callFunc 43 a) w=.ok (.enter 43 a) w:=cB (a6 (upd:=true) func43 AV) AV a w
@[simp] theorem aBN (a:Array Value) (w:aO):Sem.run (ae prog true) (callFunc 35 a) w=.ok (.enter 35 a) w:=cB (a6 (upd:=true) func35 AV) AV a w
@[simp] theorem aBO (a:Array Value) (w:aO):Sem.run (ae prog true) (callFunc 26 a) w=.ok (.enter 26 a) w:=cB (a6 (upd:=true) func26 AV) AV a w
@[simp] theorem aBP (a:Array Value) (w:aO):Sem.run (ae prog true) (callFunc 46 a) w=.ok (.enter 46 a) w:=cB (a6 (upd:=true) func46 AV) AV a w
@[simp] theorem aBQ (a:Array Value) (w:aO):Sem.run (ae prog true) (callFunc 66 a) w=.ok (.enter 66 a) w:=cB (a6 (upd:=true) func66 AV) AV a w
@[simp] theorem aBR (a:Array Value) (w:aO):Sem.run (ae prog true) (callFunc 45 a) w=.ok (.enter 45 a) w:=cB (a6 (upd:=true) func45 AV) AV a w
@[simp] theorem aBS (a:Array Value) (w:aO):Sem.run (ae prog true) (callFunc 44 a) w=.ok (.enter 44 a) w:=cB (a6 (upd:=true) func44 AV) AV a w
@[simp] theorem aBT (a:Array Value) (w:aO):Sem.run (ae prog true) (callFunc 36 a) w=.ok (.enter 36 a) w:=cB (a6 (upd:=true) func36 AV) AV a w
@[simp] theorem aBU (a:Array Value) (w:aO):Sem.run (ae prog true) (callFunc 38 a) w=.ok (.enter 38 a) w:=cB (a6 (upd:=true) func38 AV) AV a w
@[simp] theorem aBV (a:Array Value) (w:aO):Sem.run (ae prog true) (callFunc 48 a) w=.ok (.enter 48 a) w:=cB (a6 (upd:=true) func48 AV) AV a w
@[simp] theorem aBW (a:Array Value) (w:aO):Sem.run (ae prog true) (callFunc 37 a) w=.ok (.enter 37 a) w:=cB (a6 (upd:=true) func37 AV) AV a w
@[simp] theorem aBX (a:Array Value) (w:aO):Sem.run (ae prog true) (callFunc 27 a) w=.ok (.enter 27 a) w:=cB (a6 (upd:=true) func27 AV) AV a w
@[simp] theorem aBY (a:Array Value) (w:aO):Sem.run (ae prog true) (callFunc 28 a) w=.ok (.enter 28 a) w:=cB (a6 (upd:=true) func28 AV) AV a w
@[simp] theorem Xj (a:Array Value) (w:aO):Sem.run (ae prog true) (callFunc 21 a) w=.ok (.enter 21 a) w:=cB (a6 (upd:=true) func21 AV) AV a w
@[simp] theorem Xk (a:Array Value) (w:aO):Sem.run (ae prog true) (callFunc 20 a) w=.ok (.enter 20 a) w:=cB (a6 (upd:=true) func20 AV) AV a w
theorem Qv:oi (ae prog true) 83 118 (.agg #[.int .i64 0,.int .i64 0]) 2 16:=⟨Br,BA,Ae,Ae⟩
def ais:oi (ae prog true) 68 83 (.slice none 0 0) 1 24:=⟨Br,BA,Ae,Ae⟩
def HJ:oi (ae prog true) 41 4 (.bool false) 1 1:=⟨Br,BA,Ae,Ae⟩
def Xl:oi (ae prog true) 37 3 (.int .i64 0) 1 8:=⟨Br,BA,Ae,Ae⟩
def Qw:oi (ae prog true) 39 2 (.int .i64 0) 1 8:=⟨Br,BA,Ae,Ae⟩
def Qx:oi (ae prog true) 40 9 (.string ByteArray.empty) 1 16:=⟨Br,BA,Ae,Ae⟩
def Xm:oi (ae prog true) 26 43 (.agg #[.int .i64 0,.int .i64 0,.slice none 0 0,.slice none 0 0,.slice none 0 0]) 5 88:=⟨Br,BA,Ae,Ae⟩
def Li(s:Int):Bool:=decide (0<=s)&&decide (s<=6)
def Xn(t:Int×Int):Bool:=t.1==1||t.1==2
def ait(a:Int)(w:aO):
 Calls (ae prog true) 101 #[.int .i64 a] w λe w'=>e=.returned (.bool (Li a))/\w'=w:=by
 unfold Li;go_enter (a6 (upd:=true) func101 AV),ntmps101
 go_wp2
 all_goals(go_ret;refine⟨?_,Y⟩;simp[*]<;>omega)
def aBZ(t:Int×Int)(w:aO):
 Calls (ae prog true) 106 #[ee t] w λe w'=>e=.returned (.bool (Xn t))/\Below w.heap.size w w':=by
 obtain⟨k,s⟩:=t;unfold Xn;go_enter (a6 (upd:=true) func106 AV),ntmps106
 go_wp2
 all_goals(go_ret;refine⟨?_,(Below.refl _ _).alloc AA _⟩;simp[*])
def aiu(w:aO):
 Calls (ae prog true) 105 #[] w λe w'=>e=.returned (ee (1,0))/\Below w.heap.size w w':=by
 go_enter (a6 (upd:=true) func105 AV),ntmps105
 go_wp2
 exact bodyPost_ret (v:=ee (1,0)) (by simp[results,results105,go_sem]) Y ⟨Y,(Below.refl _ _).alloc AA _⟩
def HK(t:Int×Int):Bool:=if t.1=1\/t.1=3 then t.2==0 else if t.1=2 then Li t.2 else false
def aiv(t:Int×Int)(w:aO):
 Calls (ae prog true) 64 #[ee t] w λe w'=>e=.returned (.bool (HK t))/\Below w.heap.size w w':=by
 obtain⟨k,s⟩:=t;go_enter (a6 (upd:=true) func64 AV),ntmps64
 go_wp2_with (go_at_call 101;refine(ait _ _).mono ?_;rintro e w' ⟨rfl,rfl⟩)
 all_goals(go_ret;refine⟨?_,(Below.refl _ _).alloc AA _⟩;go_light;simp_all[HK])
def Xo(k s:Int)(bg vs a:Value)(w:aO):
 Calls (ae prog true) 63 #[.agg #[.int .i64 k,.int .i64 s,bg,vs,a]] w λe w'=>e=.returned (ee (k,s))/\Below w.heap.size w w':=by
 go_enter (a6 (upd:=true) func63 AV),ntmps63
 go_wp2
 exact bodyPost_ret (v:=ee (k,s)) (by simp[results,results63,go_sem]) Y ⟨Y,((Below.refl _ _).alloc AA _).alloc A_ _⟩
def operands(op:Int):Int×Bool:=
 if op=1\/op=2\/op=3\/op=4 then(0,true)else if op=8\/op=14\/op=15 then(1,true)
 else if op=5\/op=6\/op=7\/op=9\/op=10\/op=11\/op=12\/op=13 then(2,true)else(0,false)
def aiw(op:Int)(w:aO):
 Calls (ae prog true) 102 #[.int .i64 op] w λe w'=>e=.returned (.tuple #[.int .i64 (operands op).1,.bool (operands op).2])/\w'=w:=by
 go_enter (a6 (upd:=true) func102 AV),ntmps102
 go_wp2
 all_goals(go_ret2;refine⟨?_,Y⟩;go_light;simp_all[operands])
def tF(bd:List (Int×Int))(p:Int):(Int×Int)×Bool:=
 if 0<=p/\p<bd.length then(bd.getD p.toNat (0,0),true)else((0,0),false)
def aix(bd:List (Int×Int))(v:Value)(p:Int)(w:aO)(f:eP w v bd):
 Calls (ae prog true) 69 #[v,.int .i64 p] w λe w'=>e=.returned (.tuple #[ee (tF bd p).1,.bool (tF bd p).2])/\Below w.heap.size w w':=by
 obtain⟨l,cap,rfl,j,i⟩:=f;by_cases h:0<=p/\p<bd.length
 .have a:Hid (tF bd p=(bd.getD p.toNat (0,0),true)):=by unfold Hid tF;rw[if_pos h]
  obtain⟨h1,g⟩:=h;obtain⟨q,rfl⟩:=Int.eq_ofNat_of_zero_le h1;have h3:q<bd.length:=As;obtain⟨b,off,rfl,c,m⟩:=i q h3;simp at c;have k:=fS c;go_enter (a6 (upd:=true) func69 AV),ntmps69
  go_wp2
  exact bodyPost_ret (v:=.tuple #[ee (bd[q]),.bool true]) (by simp[results,results69,go_sem]) Y ⟨by rw[a.out];simp[h3],(Below.refl _ _).alloc AA _⟩
 .have a:Hid (tF bd p=((0,0),false)):=by unfold Hid tF;rw[if_neg h]
  by_cases h1:p<0;rotate_left
  focus
   have d:0<=p:=As;have g:(bd.length:Int)<=p:=As;obtain⟨q,rfl⟩:=Int.eq_ofNat_of_zero_le d;have h3:bd.length<=q:=As;clear h h1
  rotate_left
  all_goals
   go_enter (a6 (upd:=true) func69 AV),ntmps69
   go_wp2
   exact bodyPost_ret (v:=.tuple #[ee (0,0),.bool false]) (by simp[results,results69,go_sem]) Y ⟨by rw[a.out],(Below.refl _ _).alloc AA _⟩
section
attribute [local go_sem ↓] Go.wp_at_zero Go.wp_at_succ
theorem HM(a b c d:Int)(w:aO):(binOp .eql 118 (.agg #[.int .i64 a,.int .i64 b]) (.agg #[.int .i64 c,.int .i64 d])).run (ae prog true) w=.ok (.bool ((a,b)==(c,d))) w:=by
 by_cases h1:a=c<;>by_cases e:b=d
 all_goals go_simp
 all_goals simp[h1,e]
theorem HN(a b c d:Int)(w:aO):(binOp .neq 118 (.agg #[.int .i64 a,.int .i64 b]) (.agg #[.int .i64 c,.int .i64 d])).run (ae prog true) w=.ok (.bool ((a,b) != (c,d))) w:=by
 by_cases h1:a=c<;>by_cases e:b=d
 all_goals go_simp
 all_goals simp[h1,e,bne]
attribute [local go_sem ↓] HM HN
attribute [local go_sem ↓] Go.wp_at_zero Go.wp_at_succ
abbrev qW(t:bI):Value:=.agg #[.int .i64 t.op,.int .i64 t.a,.int .i64 t.v,.string t.s]
def aiy(a v:Int)(s:ByteArray)(bd:List (Int×Int))(b:Value)(w:aO)(f:eP w b bd):
 Calls (ae prog true) 124 #[.agg #[.int .i64 1,.int .i64 a,.int .i64 v,.string s],b] w λe w'=>e=.returned (.tuple #[ee (tF bd a).1,.bool (tF bd a).2])/\Below w.heap.size w w':=by
 go_enter (a6 (upd:=true) func124 AV),ntmps124
 go_wp2_with fail
 refine(aix bd b a _ (f.mono nL (((bo.refl _).alloc _).alloc _))).mono ?_;rintro e w1 ⟨rfl,c⟩;have g:Below w.heap.size w w1:=Below.step c (((Below.refl _ _).alloc A_ _).alloc A_ _) B1;obtain⟨d,h,i⟩:=after (w.heap.size+1+1) c A_;go_wp2_with fail
 exact bodyPost_ret (v:=.tuple #[ee (tF bd a).1,.bool (tF bd a).2]) (by simp[results,results124,go_sem,d]) Y ⟨Y,(g.setCell A_ _).setCell A_ _⟩
attribute [local go_sem ↓] Go.wp_at_zero Go.wp_at_succ
attribute [local go_sem ↓] HM HN
attribute [local go_sem ↓] Go.wp_at_zero Go.wp_at_succ
attribute [local go_sem ↓] HM HN
def Xq(w:aO)(lk ls a rs:Int):
 ag (((w.alloc (.cells #[.int .i64 lk,.int .i64 ls] 118)).alloc (.cells #[.int .i64 a,.int .i64 rs] 118)).alloc (.cells #[.int .i64 0,.int .i64 0] 118)) w.heap.size #[.int .i64 lk,.int .i64 ls] 118/\
 ag (((w.alloc (.cells #[.int .i64 lk,.int .i64 ls] 118)).alloc (.cells #[.int .i64 a,.int .i64 rs] 118)).alloc (.cells #[.int .i64 0,.int .i64 0] 118)) (w.heap.size+1) #[.int .i64 a,.int .i64 rs] 118:=by
 refine⟨((ag.new w _ _).alloc _).alloc _,?_⟩;have:=(ag.new (w.alloc (.cells #[.int .i64 lk,.int .i64 ls] 118)) #[.int .i64 a,.int .i64 rs] 118).alloc (.cells #[.int .i64 0,.int .i64 0] 118);simp_all
def Xr(w:aO)(lk ls a rs:Int):
 ag (((w.alloc (.cells #[.int .i64 lk,.int .i64 ls] 118)).alloc (.cells #[.int .i64 a,.int .i64 rs] 118)).alloc (.cells #[.int .i64 0,.int .i64 0] 118)) (w.heap.size+1+1) #[.int .i64 0,.int .i64 0] 118/\
 Below w.heap.size w (((w.alloc (.cells #[.int .i64 lk,.int .i64 ls] 118)).alloc (.cells #[.int .i64 a,.int .i64 rs] 118)).alloc (.cells #[.int .i64 0,.int .i64 0] 118)):=by
 refine⟨?_,(((Below.refl _ _).alloc A_ _).alloc A_ _).alloc B1 _⟩;have:=ag.new ((w.alloc (.cells #[.int .i64 lk,.int .i64 ls] 118)).alloc (.cells #[.int .i64 a,.int .i64 rs] 118)) #[.int .i64 0,.int .i64 0] 118;simp_all
end
section
attribute [local go_sem ↓] Go.wp_at_zero Go.wp_at_succ
attribute [local go_sem ↓] HM HN
@[simp] theorem aB2 (a:Array Value) (w:aO):Sem.run (ae prog true) (callFunc 142 a) w=.ok (.enter 142 a) w:=cB (a6 (upd:=true) func142 AV) AV a w
@[simp] theorem aB3 (a:Array Value) (w:aO):Sem.run (ae prog true) (callFunc 143 a) w=.ok (.enter 143 a) w:=cB (a6 (upd:=true) func143 AV) AV a w
theorem aiz(w:aO):
 Calls (ae prog true) 142 #[] w λe w'=>e=.returned (ee (3,0))/\Below w.heap.size w w':=by
 go_enter (a6 (upd:=true) func142 AV),ntmps142
 go_wp2
 exact bodyPost_ret (v:=ee (3,0)) (by simp[results,results142,go_sem]) Y ⟨Y,(Below.refl _ _).alloc J1 _⟩
def tG(w:aO):
 Calls (ae prog true) 143 #[] w λe w'=>e=.returned (ee (4,0))/\Below w.heap.size w w':=by
 go_enter (a6 (upd:=true) func143 AV),ntmps143
 go_wp2
 exact bodyPost_ret (v:=ee (4,0)) (by simp[results,results143,go_sem]) Y ⟨Y,(Below.refl _ _).alloc J1 _⟩
def aiA(a v:Int)(s:ByteArray)(f:Value)(w:aO):
 Calls (ae prog true) 124 #[.agg #[.int .i64 2,.int .i64 a,.int .i64 v,.string s],f] w λe w'=>e=.returned (.tuple #[ee (1,0),.bool true])/\Below w.heap.size w w':=by
 go_enter (a6 (upd:=true) func124 AV),ntmps124
 go_wp2_with fail
 refine(aiu _).mono ?_;rintro e w1 ⟨rfl,b⟩;have d:Below w.heap.size w w1:=Below.step b (((Below.refl _ _).alloc A_ _).alloc A_ _) B1;obtain⟨c,g,h⟩:=after (w.heap.size+1+1) b A_;go_wp2_with fail
 exact bodyPost_ret (v:=.tuple #[ee (1,0),.bool true]) (by simp[results,results124,go_sem,c]) Y ⟨Y,(d.setCell A_ _).setCell A_ _⟩
def aiB(a v:Int)(s:ByteArray)(g:s.size<=9223372036854775807)(f:Value)(w:aO):
 Calls (ae prog true) 124 #[.agg #[.int .i64 4,.int .i64 a,.int .i64 v,.string s],f] w λe w'=>e=.returned (.tuple #[ee (3,0),.bool (decide ((s.size:Int)<=16))])/\Below w.heap.size w w':=by
 go_enter (a6 (upd:=true) func124 AV),ntmps124
 go_wp2_with fail
 go_region_held3 (λW=>W.cell? ⟨w.heap.size,3,none⟩=some (.string s)) (first|(go_keep;done)|grind)
  (first|(go_at_call 142;refine(aiz _).mono ?_;rintro e w1 ⟨rfl,b⟩;obtain⟨c,h,i⟩:=after (w.heap.size+1+1) b A_))
 have d:Below w.heap.size w w1:=Below.step b (((Below.refl _ _).alloc A_ _).alloc A_ _).drew B1;go_wp2_with fail
 exact bodyPost_ret (v:=.tuple #[ee (3,0),.bool (decide ((s.size:Int)<=16))]) (by simp[results,results124,go_sem,c]) Y ⟨Y,(d.setCell A_ _).setCell A_ _⟩
def aiC(a v:Int)(s:ByteArray)(o:Int×Int)(w:aO):
 Calls (ae prog true) 125 #[.agg #[.int .i64 14,.int .i64 a,.int .i64 v,.string s],ee o] w λe w'=>e=.returned (.tuple #[ee (4,0),.bool (o==(4,0))])/\Below w.heap.size w w':=by
 obtain⟨ok,os⟩:=o;have f:=(ag.new ((w.alloc (.cells #[.int .i64 14,.int .i64 a,.int .i64 v,.string s] 32)).alloc (.cells #[.int .i64 ok,.int .i64 os] 118)) #[.int .i64 0,.int .i64 0] 118).drew;rw[show((w.alloc (.cells #[.int .i64 14,.int .i64 a,.int .i64 v,.string s] 32)).alloc (.cells #[.int .i64 ok,.int .i64 os] 118)).heap.size=w.heap.size+1+1 by simp]at f;go_enter (a6 (upd:=true) func125 AV),ntmps125
 go_wp2_with fail
 go_region_held3 (λW=>W.cell? ⟨w.heap.size+1,0,none⟩=some (.int .i64 ok)/\W.cell? ⟨w.heap.size+1,1,none⟩=some (.int .i64 os))
  ((go_split_ands;refine⟨?_,?_⟩<;>first|(exact(bo.cj b) _ _ _ Co)|(exact(bo.cj c) _ _ _ Co)|(exact sO (sO Co As) As)|(go_keep;done)))
  (first|(go_at_call 143;refine(tG _).mono ?_;rintro e w1 ⟨rfl,c⟩;have d:=f.call c;obtain⟨l,n,k⟩:=d.all)|(go_at_call 143;refine(tG _).mono ?_;rintro e h ⟨rfl,b⟩;have g:=d.call b;obtain⟨j,m,p⟩:=g.all))
 have i:Below w.heap.size w h:=Below.step b (Below.step c ((((Below.refl _ _).alloc A_ _).alloc A_ _).alloc B1 _).drew B1) As;go_wp2_with fail
 exact bodyPost_ret (v:=.tuple #[ee (4,0),.bool ((ok,os)==(4,0))]) (by simp[results,results125,go_sem,j]) Y ⟨Y,(i.setCell AA _).setCell AA _⟩
def aiD(a v:Int)(s:ByteArray)(o:Int×Int)(w:aO):
 Calls (ae prog true) 125 #[.agg #[.int .i64 15,.int .i64 a,.int .i64 v,.string s],ee o] w λe w'=>e=.returned (.tuple #[ee (4,0),.bool true])/\Below w.heap.size w w':=by
 obtain⟨ok,os⟩:=o;have b:=(ag.new ((w.alloc (.cells #[.int .i64 15,.int .i64 a,.int .i64 v,.string s] 32)).alloc (.cells #[.int .i64 ok,.int .i64 os] 118)) #[.int .i64 0,.int .i64 0] 118);rw[show((w.alloc (.cells #[.int .i64 15,.int .i64 a,.int .i64 v,.string s] 32)).alloc (.cells #[.int .i64 ok,.int .i64 os] 118)).heap.size=w.heap.size+1+1 by simp]at b;go_enter (a6 (upd:=true) func125 AV),ntmps125
 go_wp2_with fail
 refine(tG _).mono ?_;rintro e w1 ⟨rfl,c⟩;have f:Below w.heap.size w w1:=Below.step c ((((Below.refl _ _).alloc A_ _).alloc A_ _).alloc B1 _) B1;obtain⟨d,h,g⟩:=(b.call c).all;go_wp2_with fail
 exact bodyPost_ret (v:=.tuple #[ee (4,0),.bool true]) (by simp[results,results125,go_sem,d]) Y ⟨Y,(f.setCell AA _).setCell AA _⟩
end
def A9(ok:Nat->Bool)(n:Nat):Option Nat:=(List.range n).find? (λi=> !ok i)
variable{n:Nat}
def XM{ok:Nat->Bool}(h:∀j,j<n->ok j=true):A9 ok n=none:=by grind[A9]
variable{k:Nat}
def XN{ok:Nat->Bool}(hk:k<n)(h:∀j,j<k->ok j=true)(a:ok k=false):A9 ok n=some k:=by unfold A9;simp_all
def told(o:Option Nat):Int×Bool:=match o with|some k=>((k:Int),true)|none=>(0,false)
def rP(l:List ByteArray):Bool:=l.all λs=>decide (s.size<=16)
variable{l:List ByteArray}
def ai0(hk:k<l.length)(h:rP (l.take k)=true)(hs:l[k].size<=16):rP (l.take (k+1))=true:=by grind[rP,List.take_succ_eq_append_getElem]
def ai1(hk:k<l.length)(hs:¬l[k].size<=16):rP l=false:=by grind[rP]
def ai2(l:List ByteArray)(v:Value)(w:aO)(f:Qo w v l):
 Calls (ae prog true) 65 #[v] w λe w'=>e=.returned (.bool (rP l))/\w'=w:=by
 obtain⟨m,cap,rfl,j,h⟩:=f;go_enter (a6 (upd:=true) func65 AV),ntmps65
 go_wp2
 go_loop [4,7] (λ_ i=>∃k:Nat,k<=l.length/\i=.int .i64 k/\rP (l.take k)=true) (λ_ i=>l.length-(intOf i).toNat)
 case atStart=>exact⟨0,Nat.zero_le _,Y,Y⟩
 case round=>
  obtain⟨k,hk,rfl,ht⟩:=hrel;have c:Hid _:=ht;clear ht;by_cases a:k<l.length
  .obtain⟨b,off,rfl,g,hs⟩:=h k a;simp at g;by_cases d:l[k].size<=16
   .go_wp2
    go_round
    case rel=>exact⟨k+1,As,by go_num,ai0 a c.out d⟩
    case measure=>simp[intOf];omega
   .go_wp2
    go_ret
    exact⟨by rw[ai1 a d];rfl,Y⟩
  .go_wp2
   go_ret
   refine⟨?_,Y⟩;have e:rP l=true:=by have:=c.out;grind
   rw[e];rfl
def HU(k s:Int)(HV ns bm:Nat)(fit:Bool)(rows:Int):Bool:=
 HK (k,s)&&((bm:Int)==rows&&((HV:Int)==(if k=3 then 0 else rows)&&(ns:Int)==(if k=3 then rows else 0)))&&fit
def tJ(c:aA)(rows:Int):Bool:=HU c.kind c.ck c.fg.length c.dl.length c.cp.length (rP c.dl) rows
abbrev ai3(c:aA)(bg vs aY:Value):Value:=.agg #[.int .i64 c.kind,.int .i64 c.ck,bg,vs,aY]
def ai4(k s:Int)(l b an:Option Addr)(h a d ci c n:Nat)(dl:List ByteArray)(rows:Int)(w:aO)(r:a<=9223372036854775807)(p:Qo w (.slice b a c) dl):
 Calls (ae prog true) 43 #[.agg #[.int .i64 k,.int .i64 s,.slice l h ci,.slice b a c,.slice an d n],.int .i64 rows] w λe w'=>e=.returned (.bool (HU k s h a d (rP dl) rows))/\Below w.heap.size w w':=by
 go_enter (a6 (upd:=true) func43 AV),ntmps43
 go_wp2_with fail
 refine(Xo k s _ _ _ _).mono ?_;rintro e w1 ⟨rfl,g⟩;have cL:=(ag.new w #[.int .i64 k,.int .i64 s,.slice l h ci,.slice b a c,.slice an d n] 43).call g;have m:Below w.heap.size w w1:=Below.step g ((Below.refl _ _).alloc A_ _) A_;clear g;go_wp2_with fail
 refine(aiv (k,s) _).mono ?_;rintro e q ⟨rfl,f⟩;have o:=cL.call f;obtain⟨u,t,x⟩:=o.all;have i:Below w.heap.size w q:=Below.step f m (by have:=m.size;omega);have j:=p.mono Qn (bo.cj i);clear f cL o p;by_cases hst:HK (k,s)=true
 .go_wp2_with (go_at_call 65;refine(ai2 dl _ _ j).mono ?_;rintro e v ⟨rfl,rfl⟩)
  all_goals(go_ret;refine⟨?_,i⟩;go_light;clear u t j;simp_all[HU])
 .go_wp2
  go_ret
  simp_all[HU]
def ai5(c:aA)(bg vs b:Value)(rows:Int)(w:aO)(f:sN w bg vs b c):
 Calls (ae prog true) 43 #[ai3 c bg vs b,.int .i64 rows] w λe w'=>e=.returned (.bool (tJ c rows))/\Below w.heap.size w w':=by
 obtain⟨h1,a,h3⟩:=f;have d:=a;obtain⟨j,ci,rfl,m,-⟩:=h1;obtain⟨h,i,rfl,g,-⟩:=a;obtain⟨an,k,rfl,l,-⟩:=h3;exact ai4 _ _ _ _ _ _ _ _ _ _ _ c.dl rows w g d
def E2(t:List aA):Nat:=match t with| []=>0|c::_=>c.cp.length
def lM(t:List aA):Bool:=decide (1<=t.length)&&decide (t.length<=8)&&decide (E2 t<=40)&&t.all (λc=>tJ c (E2 t))
variable{t:List aA}
def ai6{n:Int}(hk:k<t.length)(h:((t.take k).all (λc=>tJ c n))=true)(hs:tJ t[k] n=true):((t.take (k+1)).all (λc=>tJ c n))=true:=by grind[List.take_succ_eq_append_getElem]
def ai7{n:Int}(hk:k<t.length)(hs:tJ t[k] n=false):(t.all (λc=>tJ c n))=false:=by grind
def ai8(h:0<t.length):E2 t=t[0].cp.length:=by cases t with|nil=>grind|cons c r=>rfl
def ai9(t:List aA)(v:Value)(w:aO)(J:m8 w v t):
 Calls (ae prog true) 35 #[.agg #[v]] w λe w'=>e=.returned (.bool (lM t))/\Below w.heap.size w w':=by
 obtain⟨bz,cap,rfl,U,D⟩:=J;by_cases h1:t.length<1
 .have e:Hid (lM t=false):=by grind[Hid,lM]
  go_enter (a6 (upd:=true) func35 AV),ntmps35
  go_wp2
  go_ret
  exact⟨by rw[e.out];rfl,(Below.refl _ _).alloc AA _⟩
 by_cases T:8<t.length
 .have e:Hid (lM t=false):=by grind[Hid,lM]
  go_enter (a6 (upd:=true) func35 AV),ntmps35
  go_wp2
  go_ret
  exact⟨by rw[e.out];rfl,(Below.refl _ _).alloc AA _⟩
 have h0:0<t.length:=As;obtain⟨b,off,rfl,bg,vs,aY,cX,c1,cr,dm,g,r⟩:=D 0 h0;simp at cX c1 cr dm g;have a0:=ai8 h0;obtain⟨an,X,rfl,P,-⟩:=r.cp;rw[<-a0]at g P;clear r cX c1 cr dm;generalize H:E2 t=N at *;have o:Hid (E2 t=N):=H;clear H a0;have QU:=fS g;by_cases O:40<N
 .have e:Hid (lM t=false):=by grind[Hid,lM]
  go_enter (a6 (upd:=true) func35 AV),ntmps35
  go_wp2
  go_ret
  exact⟨by rw[e.out];rfl,(Below.refl _ _).alloc AA _⟩
 go_enter (a6 (upd:=true) func35 AV),ntmps35
 go_wp2
 go_loopw [27] (λi W=>∃k:Nat,k<=t.length/\i=.int .i64 k/\((t.take k).all (λc=>tJ c N))=true/\Below w.heap.size w W) (λi _=>t.length-(intOf i).toNat)
 case atStart=>exact⟨0,Nat.zero_le _,Y,Y,(Below.refl _ _).alloc AA _⟩
 case round=>
  obtain⟨k,hk,rfl,s,u⟩:=hrel;have x:Hid _:=s;have f:Hid _:=u;clear s u;by_cases a:k<t.length
  .obtain⟨b',HO,p,n,m,l,j,d1,C,B,A,h⟩:=D k a;simp at p;obtain⟨rfl,rfl⟩:=p;simp at j;have d:=bo.cj f.out;have K:=d _ _ _ j;have e1:=d _ _ _ d1;have e2:=d _ _ _ C;have e3:=d _ _ _ B;have Z:=d _ _ _ A;have V:=fS K;have F:=(h.mono d).mono ((bo.refl _).alloc (.cells #[.int .i64 t[k].kind,.int .i64 t[k].ck,n,m,l] 43));clear d j d1 C B A g;obtain⟨S,ci,Q,R,M,L,rfl,rfl,rfl⟩:=h.shape;clear h;go_wp2_with fail
   refine(ai5 t[k] _ _ _ N _ F).mono ?_;rintro e w1 ⟨rfl,E⟩;have y:Below w.heap.size w w1:=Below.step E (f.out.alloc (by have:=f.out.size;omega) _) Fz;have z:Hid _:=y;clear y E F;by_cases q:tJ t[k] N=true
   .go_wp2
    go_roundw
    case rel=>exact⟨k+1,As,by go_num,ai6 a x.out q,z.out⟩
    case measure=>simp[intOf];omega
   .have I:tJ t[k] N=false:=by grind
    clear q;go_wp2
    go_ret
    refine⟨?_,z.out⟩;have e:lM t=false:=by unfold lM;rw[o.out,ai7 a I];simp
    rw[e];rfl
  .go_wp2
   go_ret
   refine⟨?_,f.out⟩;have e:lM t=true:=by have:=x.out;rw[List.take_of_length_le As]at this;unfold lM;rw[o.out,this];grind
   rw[e];rfl
def w7(ts:List (List aA))(i:Nat):Bool:=decide (i<4)&&lM (ts.getD i [])
def XQ{w:aO}{a:Option Addr}{ts:List (List aA)}(c:∀i(h:i<ts.length),∃b off,a=some ⟨b,off,none⟩/\Qp w (λj=>w.cell? ⟨b,off+i*1+j,none⟩) ts[i])(hn:n<ts.length):
 ∃b off v,a=some ⟨b,off,none⟩/\w.cell? ⟨b,off+n,none⟩=some v/\m8 w v ts[n]:=by
 obtain⟨b,off,e,v,h0,d⟩:=c n hn;grind
def ajc(ts:List (List aA))(v:Value)(w:aO)(t:A4 w v ts):
 Calls (ae prog true) 26 #[v] w λe w'=>e=.returned (.tuple #[.int .i64 (told (A9 (w7 ts) ts.length)).1,.bool (told (A9 (w7 ts) ts.length)).2])/\Below w.heap.size w w':=by
 obtain⟨D,cap,rfl,A,y⟩:=t;go_enter (a6 (upd:=true) func26 AV),ntmps26
 go_wp2
 go_loopw [8] (λi W=>∃k:Nat,k<=ts.length/\i=.int .i64 k/\(∀j,j<k->w7 ts j=true)/\Below w.heap.size w W) (λi _=>ts.length-(intOf i).toNat)
 case atStart=>exact⟨0,Nat.zero_le _,Y,AA,Below.refl _ _⟩
 case round=>
  obtain⟨k,hk,rfl,n,o⟩:=hrel;have d:Hid _:=n;have c:Hid _:=o;clear n o;by_cases a:k<ts.length
  .obtain⟨b,off,u,rfl,q,s⟩:=XQ y a;have f:=bo.cj c.out;have x:=f _ _ _ q;have C:=fS x;have g:=s.mono rM (f.alloc (.cells #[u] 28));obtain⟨E,ct,rfl,-,-⟩:=s;clear f q;by_cases B:k<4
   .go_wp2_with fail
    refine(ai9 ts[k] _ _ g).mono ?_;rintro e w1 ⟨rfl,r⟩;have p:Hid (Below w.heap.size w w1):=Below.step r (c.out.alloc Gm _) (by have:=c.out.size;simp;omega);clear r g;have hok:Hid (w7 ts k=lM ts[k]):=by grind[Hid,w7]
    by_cases l:lM ts[k]=true
    .go_wp2
     go_roundw
     case rel=>
      refine⟨k+1,As,by go_num,λj m=>?_,p.out⟩;rcases Nat.lt_succ_iff_lt_or_eq.1 m with h|rfl
      .exact d.out j h
      .rw[hok.out];exact l
     case measure=>simp[intOf];omega
    .have z:lM ts[k]=false:=by grind
     clear l;go_wp2
     go_ret2
     refine⟨?_,p.out⟩;rw[XN a d.out (by rw[hok.out];grind)];rfl
   .have hok:Hid (w7 ts k=false):=by grind[Hid,w7]
    clear g;go_wp2
    go_ret2
    refine⟨?_,c.out.alloc Gm _⟩;rw[XN a d.out hok.out];rfl
  .go_wp2
   go_ret2
   refine⟨?_,c.out⟩;rw[XM (λj m=>d.out j As)];rfl
def jn(t:List aA):List (Int×Int):=t.map λc=>(c.kind,c.ck)
def ajd(t:List aA)(v:Value)(w:aO)(M:m8 w v t)(N:t.length<=1000000):
 Calls (ae prog true) 46 #[.agg #[v]] w λe w'=>∃m,e=.returned m/\eP w' m (jn t)/\e7 118 w' m/\Below w.heap.size w w':=by
 obtain⟨V,cap,rfl,hl,I⟩:=M;have hlen:(jn t).length=t.length:=by simp[jn]
 go_enter (a6 (upd:=true) func46 AV),ntmps46
 go_wp2_with (at_make;refine QQ Qv _ Y _ _ Y _ _ t.length Y Y As As ?_;intro w1 be U a r;have B:=(ag.new w #[.slice V t.length cap] 28).call r;obtain⟨Ls,tK,Z⟩:=B.all)
 have C:Below w.heap.size w w1:=Below.step r ((Below.refl _ _).alloc A_ _) A_;have J:ag w1 (w.heap.size+1) be 118:=Br;have X:Hid (ag w1 (w.heap.size+1) be 118):=J;have P:Hid (Below w.heap.size w w1):=C;clear U J r C B;go_loopw [13] (λi W=>∃(k:Nat)(cs:Array Value),k<=t.length/\i=.int .i64 k/\ag W (w.heap.size+1) cs 118/\cs.size=t.length*2/\EZ cs (jn t) k/\Below w.heap.size w W)
  (λi _=>t.length-(intOf i).toNat)
 case atStart=>exact⟨0,be,Nat.zero_le _,Y,X.out,a,λj _ hj=>AA,P.out⟩
 case round=>
  obtain⟨k,cs,hk,rfl,y,u,x,A⟩:=hrel;have p:Hid (ag wr (w.heap.size+1) cs 118):=y;have s:Hid (EZ cs (jn t) k):=x;have f:Hid (Below w.heap.size w wr):=A;have h:Hid _:=u;have QV:Hid _:=a;clear y x A u a;by_cases n:k<t.length
  .obtain⟨b,off,rfl,bg,vs,aY,o,d1,H,F,E,z⟩:=I k n;simp at o;have c:=bo.cj f.out;have D:=c _ _ _ o;have T:=c _ _ _ d1;have S:=c _ _ _ H;have R:=c _ _ _ F;have Q:=c _ _ _ E;have f7:=fS D;clear c o d1 H F E;obtain⟨il,ci,kQ,jD,an,eF,rfl,rfl,rfl⟩:=z.shape;clear z I;have oq:(0:Int)<=(k:Int):=As;have lL:(k:Int)<(t.length:Int):=As;go_wp2_with fail
   refine(Xo _ _ _ _ _ _).mono ?_;rintro e g ⟨rfl,q⟩;have d:=(p.out.alloc _).call q;have K:Hid (ag g (w.heap.size+1) cs 118):=d;have O:Hid (Below w.heap.size w g):=Below.step q (f.out.alloc (by have:=f.out.size;omega) _) Fz;have XR:g.cell? ⟨w.heap.size+1,k*2,none⟩=some (cs[k*2]'(by have:=h.out;omega)):=by rw[d.rules.1];simp
   have XS:g.cell? ⟨w.heap.size+1,k*2+1,none⟩=some (cs[k*2+1]'(by have:=h.out;omega)):=by rw[d.rules.1];simp
   have XT:=d.rules.2;clear d q D T S R Q;go_wp2_with fail
   go_roundw
   case rel=>
    refine⟨k+1,(cs.setIfInBounds (k*2) (.int .i64 t[k].kind)).setIfInBounds (k*2+1) (.int .i64 t[k].ck),As,by go_num,(K.out.set _ _).set _ _,by simp;exact h.out,?_,(O.out.setCell A_ _).setCell A_ _⟩;have:=s.out.step AA (by rw[hlen];exact h.out);grind[jn]
   case measure=>simp[intOf];omega
  .have L:k=t.length:=by omega
   go_wp2_with fail
   go_ret
   refine⟨_,Y,?_,e7.box p.out _ _ _,f.out⟩;have:=eP.QR (l:=jn t) p.out AA (by rw[hlen,<-L];exact s.out) t.length;simp_all
@[simp] theorem aCy (a:Array Value) (w:aO):Sem.run (ae prog true) (callFunc 62 a) w=.ok (.enter 62 a) w:=cB (a6 (upd:=true) func62 AV) AV a w
@[simp] theorem aCz (a:Array Value) (w:aO):Sem.run (ae prog true) (callFunc 42 a) w=.ok (.enter 42 a) w:=cB (a6 (upd:=true) func42 AV) AV a w
theorem ajB(s:ByteArray)(w:aO)(hs:s.size<=1000000):
 Calls (ae prog true) 62 #[.string s] w λe w'=>e=.returned (.string s)/\Below w.heap.size w w':=by
 by_cases h0:s.size=0
 .have l:s=⟨#[]⟩:=ByteArray.ext (Array.eq_empty_of_size_eq_zero h0);subst l;go_enter (a6 (upd:=true) func62 AV),ntmps62
  go_wp2
  go_ret
  exact⟨Y,Below.refl _ _⟩
 obtain⟨i,hi,m,hsz,C⟩:=info_parts (show(prog.info? 5).map (λi=>(i.zero,i.size,i.bytes))=some (some (.int .u8 0),1,1)from BA);have f:(ae prog true).underlying 211=some (.slice 5):=(A1 _ _ _).trans underlying211;have h:(ae prog true).underlying 212=some (.pointer 5):=(A1 _ _ _).trans underlying212;have y:(ae prog true).info? 5=some i:=hi;obtain⟨A,o,u⟩:∃A:Array Value,A=madeCells (Value.int .u8 0).cells ((s.size:Int).toNat*i.size)/\A.size=s.size:=⟨_,Y,by grind[size_madeCells]⟩;have z:∀W:aO,(Instr.makeSlice 211 (.int .i64 (s.size:Int)) (.int .i64 (s.size:Int))).run (ae prog true) W=.ok (.slice (some ⟨W.heap.size,0,none⟩) s.size s.size) (W.alloc (.cells A 5)):=λW=>by have:=run_make (P:=ae prog true) W 211 5 i _ f y m .i64 .i64 s.size s.size As (Int.le_refl _) AA As;grind
 have a:=heap_alloc_new w (.cells A 5);have d:=Lib.run_copy_row_string (P:=ae prog true) (w.alloc (.cells A 5)) 211 9 3 5 w.heap.size 0 s.size s.size s A 5 f AA a J1 As;obtain⟨B,g,c⟩:∃B:Array Value,B=(A.toList.take 0++Lib.byteCells s.data.toList++A.toList.drop (0+s.size)).toArray/\B.toList=Lib.byteCells s.data.toList:=⟨_,Y,by
  simp_all⟩
 rw[<-g]at d;have q:((w.alloc (.cells A 5)).setRow w.heap.size B).heap[w.heap.size]?=some (.cells B 5 (0,0)):=setRow_heap _ _ A _ 5 (0,0) a;have t:B.size=s.size:=by grind[Lib.byteCells_length,Lib.size_eq]
 have b:=Lib.run_unsafeString_row (P:=ae prog true) ((w.alloc (.cells A 5)).setRow w.heap.size B) 212 3 9 5 h (by grind[Program.cellsOf]) w.heap.size B.size (by grind[World.shape?]) s.data.toList (λe=>h0 (by rw[Lib.size_eq,e];rfl)) Br (by grind[Lib.size_eq])
  (λj x n=>Lib.cells_of_row q B.size j _ (by rw[List.take_of_length_le AA,c];simp[Lib.byteCells,n]))
 rw[<-Lib.size_eq]at b;clear o g a;go_enter (a6 (upd:=true) func62 AV),ntmps62
 go_wp2
 go_ret
 have v:Below w.heap.size w (w.alloc (.cells A 5)):=(Below.refl _ w).alloc J1 _;have r:Below w.heap.size (w.alloc (.cells A 5)) ((w.alloc (.cells A 5)).setRow w.heap.size B):=⟨Y,Y,Y,A_,λk hk=>setRow_other _ _ _ _ As⟩;exact⟨Y,Lib.below_freeze (v.trans r) (p:=⟨w.heap.size,0,none⟩) J1 _⟩
def ajF(s:ByteArray)(w:aO)(hs:s.size<=1000000):
 Calls (ae prog true) 42 #[.string s] w λe w'=>e=.returned (.string s)/\Below w.heap.size w w':=by
 go_enter (a6 (upd:=true) func42 AV),ntmps42
 go_wp2
 refine(ajB s w hs).mono ?_;rintro e w' ⟨rfl,a⟩;go_wp2
 go_ret
 simp_all
end bN
namespace bZ
open RowKit Shelf av
variable{W W':aO}
section
attribute [local go_sem] Oper.semAt_some
def ajH:(ae prog false).funcs[(114:Nat)]?=some f114:=a6 (upd:=false) func114 AV
def Typed(nZ:Nat)(e t:TypeId)(W W':aO):Prop:=∀(b:Nat)(c:Array Value)(u:TypeId)(z:Nat×Nat),W.heap[b]?=some (Obj.cells c u z)->(b<nZ\/u≠e/\u≠t)->W'.heap[b]?=some (Obj.cells c u z)
def Typed.keep{nZ:Nat}{e t:TypeId}(h:jG W W'):Typed nZ e t W W':=λb c u z x _=>h.cells b c u z x
def ajI{w1:aO}{nZ B:Nat}{t e:TypeId}{size:Nat}{v:Value}(a:Value){k:Nat}{xs:List Value}{tmp:Obj}(d:Boxed W B t v)(i:W.ownsRow nZ e size v k xs)(l:(W.alloc tmp).grownBy w1 v.ownBlock)(n:nZ<=B):
 Typed nZ e t W (w1.setCell ⟨B,0,none⟩ a):=by
 intro b c u z x j;have m:b≠B:=by rintro rfl;rw[show W.heap[b]?=_ from d]at x;grind
 have f:=nd x;have h1:some b≠v.ownBlock:=by
  rcases i.2 with⟨rfl,_⟩|⟨g,cap,be,rfl,p,hg,_⟩
  .simp[Value.ownBlock]
  .intro h;simp[Value.ownBlock]at h;grind
 have o:=l.block b Bg h1;simp_all[Below.heap_alloc,World.setCell,Array.getElem?_modify,Ne.symm]
structure LC(nZ:Nat)(Row:Nat->aO->Value->Prop):Prop where
 shape:∀t W x,Row t W x->∃p pl pc q iB kj,x=.agg #[.slice p pl pc,.slice q iB kj]
 keep:∀t W W' x,Row t W x->Typed nZ 81 71 W W'->Row t W' x
def two(xs:List (Value×Value)):List Value:=xs.flatMap λp=>[p.1,p.2]
def X1(xs:List (Value×Value)):(two xs).length=xs.length*2:=by induction xs with|nil=>rfl|cons a l b=>grind[two]
theorem ajK(xs:List (Value×Value))(p:Value×Value):two (xs++[p])=two xs++[p.1,p.2]:=by simp[two]
structure E_(Row:Nat->aO->Value->Prop)(nZ t:Nat)(v:Value)(W:aO):Prop where
 own:∃xs:List (Value×Value),xs.length=t/\W.ownsRow nZ 81 2 v t (two xs)/\∀j(h:j<xs.length),Row j W (.agg #[xs[j].1,xs[j].2])
theorem Q7:(prog.info? 81).map (λi=>(i.zero,i.size,i.bytes))=some (some (.agg #[.slice none 0 0,.slice none 0 0]),2,48):=by kernel_rfl
def E_.X2{Row:Nat->aO->Value->Prop}{nZ t:Nat}(e:LC nZ Row){v:Value}(h:E_ Row nZ t v W)(hk:jG W W'):E_ Row nZ t v W':=by obtain⟨xs,h1,a,h3⟩:=h;refine⟨xs,h1,⟨a.1,a.2.imp_right ?_⟩,λj b=>e.keep _ _ _ _ (h3 j b) (.keep hk)⟩;rintro⟨g,cap,be,a1,f,d,c⟩;exact⟨g,cap,be,a1,f,hk.cells _ _ _ _ d,c⟩
def LD{l:Nat}{d:Option (List Deferred)}{o:Obj}(h:W.heap[l]?=some (.deferred d)):jG W (W.putObj l o):=
 ⟨A_,λb c e z x=>by
  grind[World.putObj_heap_other]⟩
def Bd(p:Prop):Prop:=p
def Fa{p:Prop}(h:Bd p):p:=h
def X3{Row:Nat->aO->Value->Prop}{gf:Nat}{lb:Array Value}{N:Nat}(a0:N<=300)(w:aO)(f:LC w.heap.size Row)(E:∀args w,(callFunc gf args).run (ae prog false) w=.ok (.enter gf args) w)(F:E9 2 (ae prog false) gf lb Row N w.heap.size w):
 Calls (ae prog false) 114 #[.func (.func gf) #[] lb] w λe w'=>∃v,e=.returned v/\E_ Row w.heap.size N v w'/\Below w.heap.size w w':=by
 refine(callsIn_wide (n:=3)).1 ?_;refine callsIn_of_wp_marks ajH Y trivial ?_;simp[Array.replicate_succ];gi_wp2
 have I:Boxed (w.alloc (.cells #[.slice none 0 0] 71)) w.heap.size 71 (.slice none 0 0):=Boxed.new w _ _;refine X0 (n:=3) (gf:=gf) (lb:=lb) (w0:=w) (nZ:=w.heap.size) (N:=N) (Row:=Row) Y E F ((Below.refl _ w).alloc J1 _) A_ (λ_=>False) AA
  (λt W=>∃v,Boxed W w.heap.size 71 v/\E_ Row w.heap.size t v W)
  (λt W W' h hk _=>by
   obtain⟨v,h1,r⟩:=h;exact⟨v,hk.cells _ _ _ _ h1,r.X2 f hk⟩)
  ⟨_,I,⟨[],Y,World.ownsRow_nil _ _ _ _,AA⟩⟩
  (λt x a' W=>∃c p pl pc q b a,W.heap[c]?=some (Obj.cells #[.slice p pl pc,.slice q b a] 81 (0,0))/\x=.agg #[.slice p pl pc,.slice q b a]/\Row t W x/\∃z,a'={tmps:=#[.func (.func gf) #[] lb,undef,.slice none 0 0,.pointer (some ⟨w.heap.size,0,none⟩),.pointer (some ⟨c,0,none⟩),.func (.func gf) #[] lb,z,undef,undef,undef,undef,undef,undef,undef,undef],defers:=[]})
  (λt x a' W W' h hk _=>by
   obtain⟨c,p,pl,pc,q,b,a,h1,r,h3,S⟩:=h;exact⟨c,p,pl,pc,q,b,a,hk.cells _ _ _ _ h1,r,f.keep _ _ _ _ h3 (.keep hk),S⟩)
  ?assign ?body ?done
 case assign=>
  rintro l t x W K- -d hK;obtain⟨p,pl,pc,q,b,a,rfl⟩:=f.shape _ _ _ d;gi_wp2
  have C:Below W.heap.size W (W.alloc (.cells #[.slice p pl pc,.slice q b a] 81)):=(Below.refl _ W).alloc J1 _;exact hK _ _ C ⟨W.heap.size,p,pl,pc,q,b,a,World.alloc_heap_new W _,Y,f.keep _ _ _ _ d (.keep (.below C)),_,Y⟩
 case body=>
  rintro l t x a' W ⟨v,g,⟨xs,hlen,d,vC⟩⟩ P ⟨c,p,pl,pc,q,b,a,s,rfl,O,z,rfl⟩ L;obtain⟨M,hi,V,X,U⟩:=info_parts Q7;have k:=g.cell;have H:W.cell? ⟨c,0,none⟩=some (.slice p pl pc):=by simp[World.cell?,s]
  have T:W.cell? ⟨c,1,none⟩=some (.slice q b a):=by simp[World.cell?,s]
  gi_wp2_with (gi_at_builtin;apply Fa)
  unfold Bd;refine wpListIn_append_own _ Y _ _ 71 Y w.heap.size 81 M _ 2 48 ((A1 _ _ _).trans underlying71) hi V X U Y Ae v t (two xs) Y (d.alloc _) ⟨W.heap.size,0,none⟩ 1 1 [.slice p pl pc,.slice q b a] Y Y ?cel ?one (by unfold maxLen;omega) As Bg ?_
  case cel=>
   have m6:=World.alloc_heap_new W (.cells #[.slice p pl pc,.slice q b a] 81);intro j u i;rcases j with _ | _ |j
   .simp at i;subst i;show World.cell? _ ⟨W.heap.size,0,none⟩=_;simp_all
   .simp at i;subst i;show World.cell? _ ⟨W.heap.size,1,none⟩=_;simp_all
   grind
  case one=>
   intro u B;simp at B;rcases B with rfl|rfl<;>rfl
  intro Z w1 m A _;obtain⟨g',cap',rfl⟩:=ownsRow_succ m;obtain⟨o,J,Fc,f8,bV⟩:=g.appended Ae d L J1 m A;have pg:=ajI (.slice (some ⟨g',0,none⟩) (t+1) cap') g d A J1;have ki:=o.cell;have p_:=o.frozen;have Ia:¬(300:Int)<(t:Int)+1:=As;clear m A d g k H T s o;gi_wp2
  refine⟨_,J,⟨xs++[(.slice p pl pc,.slice q b a)],AA,?_,λj i=>?_⟩⟩
  .grind[ajK]
  .by_cases D:j<xs.length
   .rw[List.getElem_append_left D];exact f.keep _ _ _ _ (vC j D) pg
   .have y:j=xs.length:=by grind
    subst y;simp;rw[hlen];exact f.keep _ _ _ _ O pg
 case done=>
  rintro W ⟨v,g,Q⟩ R hK;have k:=g.cell;gi_wp2
  refine⟨A_,.inl ⟨_,_,Y,run_takeDeferred hK,?_⟩⟩;refine⟨_,results_tmp Y _ _ _,v,Y,Q.X2 f (LD hK),?_⟩;exact(((Below.refl _ w).alloc J1 _).trans R).trans (xd _ A_)
end
structure bD where
 eG:Bool
 num:Int
 ck:Int
 text:ByteArray
abbrev eQ(d:bD):Value:=.agg #[.bool d.eG,.int .i64 d.num,.int .i64 d.ck,.string d.text]
def f9:ByteArray:=⟨#[]⟩
def fL:bD:=⟨true,0,0,f9⟩
def Q9(_:aO)(rd:Nat->Option Value)(d:bD):Prop:=
 rd 0=some (.bool d.eG)/\rd 1=some (.int .i64 d.num)/\rd 2=some (.int .i64 d.ck)/\rd 3=some (.string d.text)/\d.text.size<=9223372036854775807
abbrev lO(w:aO):=a8 w 4 Q9
def gE(c:aA)(i:Nat):bD:=
 if c.cp.getD i false then fL else if c.kind=3 then⟨false,0,0,c.dl.getD i f9⟩else⟨false,c.fg.getD i 0,c.ck,f9⟩
def X4:(ae prog false).funcs[(189:Nat)]?=some f189:=a6 (upd:=false) func189 AV
@[simp] theorem aCH (args:Array Value) (w:aO):Sem.run (ae prog false) (callFunc 189 args) w=.ok (.enter 189 args) w:=cB X4 AV args w
theorem LF:(ae prog false).funcs[(212:Nat)]?=some f212:=a6 (upd:=false) func212 AV
@[simp] theorem aCI (args:Array Value) (w:aO):Sem.run (ae prog false) (callFunc 212 args) w=.ok (.enter 212 args) w:=cB LF AV args w
theorem tL(w:aO):Calls (ae prog false) 189 #[] w λe w'=>e=.returned (eQ fL)/\w'=w.alloc (.cells #[.bool true,.int .i64 0,.int .i64 0,.string ⟨#[]⟩] 98):=by
 go_enter X4,ntmps189
 go_wp2
 exact bodyPost_ret (v:=eQ fL) (by simp[results,results189,go_sem,fL,f9]) Y ⟨Y,Y⟩
def ajM(c:aA)(i:Nat){bg vs l:Value}(w:aO)(h:sN w bg vs l c)(hn:i<c.cp.length)(hs:c.kind=3->i<c.dl.length)(hi:c.kind≠3->i<c.fg.length):
 Calls (ae prog false) 212 #[.agg #[.int .i64 c.kind,.int .i64 c.ck,bg,vs,l],.int .i64 i] w λe w'=>e=.returned (eQ (gE c i))/\Below w.heap.size w w':=by
 obtain⟨s,ci,rfl,-,b⟩:=h.fg;obtain⟨q,r,rfl,-,es⟩:=h.dl;obtain⟨an,t,rfl,-,aK⟩:=h.cp;obtain⟨o,on,rfl,m⟩:=aK i hn;have j:w.cell? ⟨o,on+i,none⟩=some (.bool c.cp[i]):=by simp_all[ze]
 have p:=fS j;clear m aK;cases k:c.cp[i]with
 |true=>
  have a:gE c i=fL:=by grind[gE]
  rw[a];rw[k]at j;clear b es h a;go_enter LF,ntmps212
  go_wp2_with (go_at_call 189;refine(tL _).mono ?_;rintro e w' ⟨rfl,rfl⟩)
  exact bodyPost_ret (v:=eQ fL) (by simp[results,results212,go_sem,fL,f9]) Y ⟨Y,(((Below.refl _ w).alloc J1 _).alloc A_ _).alloc Bg _⟩
 |false=>
  rw[k]at j;by_cases hk:c.kind=3
  .obtain⟨bs,os,rfl,d⟩:=es i (hs hk);have z:=hs hk;have a:gE c i=⟨false,0,0,c.dl[i]⟩:=by grind[gE]
   rw[a];have g:w.cell? ⟨bs,os+i,none⟩=some (.string c.dl[i]):=by simp_all[A2]
   have x:=fS g;clear b es h a d;go_enter LF,ntmps212
   go_wp2
   exact bodyPost_ret (v:=eQ ⟨false,0,0,c.dl[i]⟩) (by simp[results,results212,go_sem]) Y ⟨Y,((Below.refl _ w).alloc J1 _).alloc A_ _⟩
  .obtain⟨bi,cu,rfl,n⟩:=b i (hi hk);have y:=hi hk;have a:gE c i=⟨false,c.fg[i],c.ck,f9⟩:=by grind[gE]
   rw[a];have f:w.cell? ⟨bi,cu+i,none⟩=some (.int .i64 c.fg[i]):=by simp_all[tD]
   have u:=fS f;clear b es h a n;go_enter LF,ntmps212
   go_wp2
   go_region
   go_wp2
   exact bodyPost_ret (v:=eQ ⟨false,c.fg[i],c.ck,f9⟩) (by simp[results,results212,go_sem,f9]) Y ⟨Y,(((Below.refl _ w).alloc J1 _).alloc A_ _).drew⟩
def Ye:oi (ae prog false) 79 98 (.agg #[.bool false,.int .i64 0,.int .i64 0,.string ⟨#[]⟩]) 4 40:=⟨(A1 _ _ _).trans underlying79,BA,Ae,Ae⟩
def Yf:(ae prog false).funcs[(211:Nat)]?=some f211:=a6 (upd:=false) func211 AV
@[simp] theorem aCP (args:Array Value) (w:aO):Sem.run (ae prog false) (callFunc 211 args) w=.ok (.enter 211 args) w:=cB Yf AV args w
def zs(cs:Array Value)(l:List bD)(k:Nat):Prop:=∀j(h:j<l.length),j<k->cs[j*4]?=some (.bool l[j].eG)/\cs[j*4+1]?=some (.int .i64 l[j].num)/\cs[j*4+2]?=some (.int .i64 l[j].ck)/\cs[j*4+3]?=some (.string l[j].text)
abbrev Rj(cs:Array Value)(k:Nat)(d:bD):Array Value:=(((cs.setIfInBounds (k*4) (.bool d.eG)).setIfInBounds (k*4+1) (.int .i64 d.num)).setIfInBounds (k*4+2) (.int .i64 d.ck)).setIfInBounds (k*4+3) (.string d.text)
theorem zs.step{cs:Array Value}{l:List bD}{k:Nat}(h:zs cs l k)(hk:k<l.length)(hs:cs.size=l.length*4):zs (Rj cs k l[k]) l (k+1):=by
 intro j a b;by_cases e:j=k
 .subst e;grind
 .have:=h j a As;simp only[Rj,Array.getElem?_setIfInBounds];grind
def lO.QR{w:aO}{b:Nat}{cs:Array Value}{T:TypeId}{l:List bD}(h:ag w b cs T)(c:l.length<=9223372036854775807)(ht:∀d∈l,d.text.size<=9223372036854775807)(a:zs cs l l.length)(cap:Nat):lO w (.slice (some ⟨b,0,none⟩) l.length cap) l:=by
 refine⟨_,cap,Y,c,λi hi=>⟨b,0,Y,?_,?_,?_,?_,AA⟩⟩
 .simp;rw[h.rules.1];exact(a i hi hi).1
 .simp;rw[h.rules.1];exact(a i hi hi).2.1
 .simp;rw[h.rules.1];exact(a i hi hi).2.2.1
 .simp;rw[h.rules.1];exact(a i hi hi).2.2.2
structure vH(i:Nat)(c:aA):Prop where
 cp:i<c.cp.length
 dl:c.kind=3->i<c.dl.length
 fg:c.kind≠3->i<c.fg.length
 text:∀s∈c.dl,s.size<=9223372036854775807
def vH.small{i:Nat}{c:aA}(h:vH i c):(gE c i).text.size<=9223372036854775807:=by
 unfold gE;split
 .decide
 .split
  .rename_i hk;have:=h.dl hk;simp[this];exact h.text _ AA
  .show f9.size<=_;decide
def ajZ(t:List aA)(v:Value)(i:Nat)(w:aO)(N:m8 w v t)(O:t.length<=1000000)(cQ:∀c∈t,vH i c):
 Calls (ae prog false) 211 #[.agg #[v],.int .i64 i] w λe w'=>∃b cs,e=.returned (.slice (some ⟨b,0,none⟩) t.length t.length)/\ag w' b cs 98/\cs.size=t.length*4/\zs cs (t.map (gE · i)) t.length/\w.heap.size<=b/\Below w.heap.size w w':=by
 obtain⟨X,cap,rfl,hl,J⟩:=N;have hlen:(t.map (gE · i)).length=t.length:=A_;go_enter Yf,ntmps211
 go_wp2_with (at_make;refine QQ Ye _ Y _ _ Y _ _ t.length Y Y As As ?_;intro w1 be V f r;have B:=(ag.new w #[.slice X t.length cap] 116).call r;obtain⟨Ls,tK,vx⟩:=B.all)
 have C:Below w.heap.size w w1:=Below.step r ((Below.refl _ _).alloc A_ _) A_;have K:ag w1 (w.heap.size+1) be 98:=Br;have Bb:Hid (ag w1 (w.heap.size+1) be 98):=K;have Q:Hid (Below w.heap.size w w1):=C;clear V K r C B;go_loopw [17] (λn W=>∃(k:Nat)(cs:Array Value),k<=t.length/\n=.int .i64 k/\ag W (w.heap.size+1) cs 98/\cs.size=t.length*4/\zs cs (t.map (gE · i)) k/\Below w.heap.size w W)
  (λi _=>t.length-(intOf i).toNat)
 case atStart=>exact⟨0,be,Nat.zero_le _,Y,Bb.out,f,λj _ hj=>AA,Q.out⟩
 case round=>
  obtain⟨k,cs,hk,rfl,z,x,y,A⟩:=hrel;have I:Hid (ag wr (w.heap.size+1) cs 98):=z;have u:Hid (zs cs (t.map (gE · i)) k):=y;have m:Hid (Below w.heap.size w wr):=A;have d:Hid _:=x;have QV:Hid _:=f;clear z y A x f;by_cases l:k<t.length
  .obtain⟨b,off,rfl,bg,vs,aY,p,d1,H,F,E,o⟩:=J k l;simp at p;have g:=bo.cj m.out;have D:=g _ _ _ p;have U:=g _ _ _ d1;have T:=g _ _ _ H;have S:=g _ _ _ F;have R:=g _ _ _ E;have f7:=fS D;obtain⟨il,ci,kQ,jD,an,eF,rfl,rfl,rfl⟩:=o.shape;have HC:Hid (sN wr _ _ _ t[k]):=o.mono g;have s:=cQ _ (List.getElem_mem l);clear g p d1 H F E o J cQ;have oq:(0:Int)<=(k:Int):=As;have lL:(k:Int)<(t.length:Int):=As;go_wp2_with fail
   refine(ajM t[k] i _ (HC.out.mono (bo.cj ((Below.refl _ wr).alloc J1 _))) s.cp s.dl s.fg).mono ?_;rintro e h ⟨rfl,q⟩;have a:=(I.out.alloc _).call q;have L:Hid (ag h (w.heap.size+1) cs 98):=a;have P:Hid (Below w.heap.size w h):=Below.step q (m.out.alloc (by have:=m.out.size;omega) _) (by have:=m.out.size;simp;omega);have XR:h.cell? ⟨w.heap.size+1,k*4,none⟩=some (cs[k*4]'H2):=by rw[a.rules.1];simp
   have XS:h.cell? ⟨w.heap.size+1,k*4+1,none⟩=some (cs[k*4+1]'H2):=by rw[a.rules.1];simp
   have ajX:h.cell? ⟨w.heap.size+1,k*4+2,none⟩=some (cs[k*4+2]'H2):=by rw[a.rules.1];simp
   have Z:h.cell? ⟨w.heap.size+1,k*4+3,none⟩=some (cs[k*4+3]'H2):=by rw[a.rules.1];simp
   have XT:=a.rules.2;clear a q D U T S R;go_wp2_with fail
   go_roundw
   case rel=>
    refine⟨k+1,Rj cs k (gE t[k] i),As,by go_num,(((L.out.set _ _).set _ _).set _ _).set _ _,by simp;exact d.out,?_,(((P.out.setCell A_ _).setCell A_ _).setCell A_ _).setCell A_ _⟩;have:=u.out.step AA (by rw[hlen];exact d.out);grind
   case measure=>simp[intOf];omega
  .have M:k=t.length:=by omega
   go_wp2_with fail
   go_ret
   exact⟨_,_,Y,I.out,d.out,by rw[<-M];exact u.out,As,m.out⟩
def Yg:(ae prog false).funcs[(210:Nat)]?=some f210:=a6 (upd:=false) func210 AV
def LI(place:List Int)(vals:List bD)(W:aO)(x:Value):Prop:=
 ∃lP bv iM cs,x=.agg #[.slice (some ⟨lP,0,none⟩) place.length place.length,.slice (some ⟨bv,0,none⟩) vals.length vals.length]/\ag W lP iM 3/\iM.toList=place.map (Value.int .i64)/\ag W bv cs 98/\cs.size=vals.length*4/\zs cs vals vals.length
def aj0(nZ:Nat)(pl:Nat->List Int)(vs:Nat->List bD):LC nZ (λt=>LI (pl t) (vs t)):=by
 refine⟨λt W x h=>?_,λt W W' x h hk=>?_⟩
 .obtain⟨a,bv,b,cs,rfl,-⟩:=h;grind
 .obtain⟨a,bv,b,cs,rfl,h1,d,h3,c⟩:=h;exact⟨a,bv,b,cs,Y,hk _ _ _ _ h1 AA,d,hk _ _ _ _ h3 AA,c⟩
def aj1{n:Nat}(t:List aA)(v:Value)(fr aU:Nat)(w0:aO)(H:m8 w0 v t)(o:t.length<=1000000)(V:fr<=aU)(xh:aU<=1000000)(cQ:∀i,i<aU->∀c∈t,vH i c)(E M bs:Nat)(r:w0.cell? ⟨E,0,none⟩=some (.int .i64 fr))(ht:w0.cell? ⟨M,0,none⟩=some (.int .i64 aU))(hs:w0.cell? ⟨bs,0,none⟩=some v):
 E9 n (ae prog false) 210 #[.pointer (some ⟨E,0,none⟩),.pointer (some ⟨M,0,none⟩),.pointer (some ⟨bs,0,none⟩)] (λk=>LI [((fr+k:Nat):Int)] (t.map (gE · (fr+k)))) (aU-fr) w0.heap.size w0:=by
 intro l S J W a z y F h0;have L:=Q0 z y;clear y z;have m:=bo.cj a;have A:=m _ _ _ r;obtain⟨bz,cap,rfl,-,-⟩:=id H;refine callsIn_of_wp Yg Y trivial ?_ Y;simp[Array.replicate_succ];gi_wp2
 gi_loopw [5] (λp wr=>∃i:Nat,fr<=i/\i<=aU/\p=.int .i64 (i:Int)/\J (i-fr) wr/\Below w0.heap.size w0 wr/\Below w0.heap.size W wr) (λp _=>aU-(intOf p).toNat)
 case atStart=>exact⟨fr,Nat.le_refl _,V,Y,AA,a,Below.refl _ _⟩
 case round=>
  obtain⟨i,oq,lL,rfl,I,u,N⟩:=hrel;have d:=bo.cj u;have vJ:=d _ _ _ ht;have Z:=d _ _ _ hs;have Fe:=fS Z;have U:Hid (m8 wr _ t):=H.mono rM d;have B:Hid (J (i-fr) wr):=I;have g:Hid (Below w0.heap.size w0 wr):=u;have C:Hid (Below w0.heap.size W wr):=N;clear I u N d;by_cases q:i<aU
  .have X:(i:Int)<(aU:Int):=by omega
   have K:=cQ i q;clear r ht hs A h0 a m cQ;gi_wp2
   have j:Below wr.heap.size wr (wr.alloc (.cells #[.int .i64 (i:Int)] 3)):=(Below.refl _ wr).alloc J1 _;refine⟨PA,λh=>DT,(callsIn_wide.2 (ajZ t _ i _ (U.out.mono rM (bo.cj j)) o K)).mono ?_⟩;rintro e f ⟨b,cs,rfl,P,s,LJ,ov,x⟩;have w:Hid (Below wr.heap.size wr f):=Below.step x j A_;have R:=L _ _ _ B.out w.out;have T:fr+(i-fr)=i:=As;have O:LI [((fr+(i-fr):Nat):Int)] (t.map (gE · (fr+(i-fr)))) f (.agg #[.slice (some ⟨wr.heap.size,0,none⟩) 1 1,.slice (some ⟨b,0,none⟩) t.length t.length]):=by rw[T];refine⟨wr.heap.size,b,#[.int .i64 (i:Int)],cs,A_,(ag.new wr _ _).call x,Y,P,AA,AA⟩
   obtain⟨fn,tmps,assign,body,hy,Q⟩:=F (i-fr) _ f R As O;clear P s LJ ov x O R F L j T K;gi_wp2
   refine⟨λh=>DT,Q.mono ?_⟩;rintro e q2 ⟨rfl,Bi,D⟩;clear Q hy;gi_wp2
   go_roundw
   case rel=>exact⟨i+1,As,As,A_,AA,g.out.trans ((w.out.mono g.out.size).trans D),C.out.trans ((w.out.mono g.out.size).trans D)⟩
   case measure=>simp[intOf];omega
  .have X:¬(i:Int)<(aU:Int):=by omega
   clear r ht hs A h0 a m cQ;gi_wp2
   go_end0
   have e:aU=i:=As;subst e;exact⟨⟨_,Y⟩,B.out,C.out⟩
end bZ
namespace av
def Carry(ρ:Ren)(w w':aO):Prop:=∀a a' v,dt ρ a a'->w.cell? a=some v->∃v',w'.cell? a'=some v'/\ay ρ v v'
variable{w w':aO}
def ew.carry{C:cO}{S:Sync}{ρ:Ren}(h:ew C S ρ w w'):Carry ρ w w':=λ_ _ _ r a=>h.cell r a
def uh{al:Type}(R:aO->(Nat->Option Value)->al->Prop):Prop:=
 ∀(ρ:Ren) w w' rd i7 x,Carry ρ w w'->(∀j v,rd j=some v->∃v',i7 j=some v'/\ay ρ v v')->R w rd x->R w' i7 x
variable{v:Value}
section
variable{ρ:Ren}
def ay.qt{k:IntKind}{n:Int}(h:ay ρ (.int k n) v):v=.int k n:=by cases h;rfl
def ay.Sa{s:ByteArray}(h:ay ρ (.string s) v):v=.string s:=by cases h;rfl
def ay.Zc{b:Bool}(h:ay ρ (.bool b) v):v=.bool b:=by cases h;rfl
end
def a8.carry{al:Type}{c:Nat}{R:aO->(Nat->Option Value)->al->Prop}(q:uh R){ρ:Ren}(m:Carry ρ w w'){f:Value}(d:ay ρ v f){xs:List al}(h:a8 w c R v xs):a8 w' c R f xs:=by
 obtain⟨t,cap,rfl,l,n⟩:=h;cases d with
 |jy=>refine⟨none,cap,Y,l,λi hi=>?_⟩;obtain⟨b,off,e,_⟩:=n i hi;cases e
 |@slice a a' _ _ r=>refine⟨some a',cap,Y,l,λi hi=>?_⟩;obtain⟨b,off,e,p⟩:=n i hi;cases e;obtain⟨r1,k,g⟩:=r;obtain⟨o,u,s⟩:=a';simp only at r1 k g;subst k;subst g;exact⟨o,off,Y,q ρ w w' (λj=>w.cell? ⟨b,off+i*c+j,none⟩) _ _ m (λj v d=>m ⟨b,off+i*c+j,none⟩ ⟨o,off+i*c+j,none⟩ v ⟨r1,Y,Y⟩ d) p⟩
def IE:uh tD:=λρ w w' rd d x _ a h=>by obtain⟨c,h1,b⟩:=a 0 _ h;rw[b.qt]at h1;exact h1
def Mo:uh ze:=λρ w w' rd d x _ a h=>by obtain⟨c,h1,b⟩:=a 0 _ h;rw[b.Zc]at h1;exact h1
def Mp:uh A2:=λρ w w' rd d x _ a h=>by obtain⟨c,h1,b⟩:=a 0 _ h.1;rw[b.Sa]at h1;exact⟨h1,h.2⟩
def amg:uh Lb:=λρ w w' rd e x _ a h=>by obtain⟨d,h1,c⟩:=a 0 _ h.1;obtain⟨v2,h3,b⟩:=a 1 _ h.2;rw[c.qt]at h1;rw[b.qt]at h3;exact⟨h1,h3⟩
def vW:uh vp:=by rintro ρ w w' rd m x c a ⟨bg,vs,n,h0,h1,g,h3,f,b⟩;obtain⟨v0,d,b0⟩:=a 0 _ h0;obtain⟨v1,a1,b1⟩:=a 1 _ h1;obtain⟨v2,j,l⟩:=a 2 _ g;obtain⟨v3,i,k⟩:=a 3 _ h3;obtain⟨e,h,bc⟩:=a 4 _ f;rw[b0.qt]at d;rw[b1.qt]at a1;exact⟨v2,v3,e,d,a1,j,i,h,a8.carry IE c l b.fg,a8.carry Mp c k b.dl,a8.carry Mo c bc b.cp⟩
def zQ:uh HE:=by rintro ρ w w' rd i x j a ⟨h0,h1,f,h3,e⟩;obtain⟨v0,b,b0⟩:=a 0 _ h0;obtain⟨v1,a1,b1⟩:=a 1 _ h1;obtain⟨v2,d,h⟩:=a 2 _ f;obtain⟨v3,c,g⟩:=a 3 _ h3;rw[b0.qt]at b;rw[b1.qt]at a1;rw[h.qt]at d;rw[g.Sa]at c;exact⟨b,a1,d,c,e⟩
def gA.carry{C:cO}{D M:Nat->Prop}{w0:aO}(h:gA C D M w w0)(g:ik C D M w):Carry (e6 D M) w w0:=by
 rintro a a' v ⟨⟨h1,hd⟩,n,h3⟩ k;obtain⟨c,e,fr,f,j,d⟩:=tx k;rw[h1]at f;obtain⟨o,m,_⟩:=h.cells g hd f;refine⟨v,nE m (h3▸j) (n▸d),?_⟩;obtain⟨ob,i,b⟩:=g _ hd;rw[f]at i;cases i;rcases b with b|b
 .cases b with|cells _ l _=>exact l.get _ _ _ d d
 .exact b.elim
end av
namespace cz
open Conc ConcN av bn
def oK(Shun:Loc->Prop)(B:Nat)(e:Event):Prop:=(∀x,(MemAct.ofEvent e).touch?=some x->(x.loc.isMemory=true->(Shun x.loc->x.kind≠ .plain)/\(x.kind=.atomic->Shun x.loc))/\∀b,e8 x.loc=some b->b<B)/\∀a,MemAct.ofEvent e≠ .mark (.release a)
structure mS(Shun:Loc->Prop)(B d n:Nat)(t:Trace):Prop where
 gs:∀op∈t,op.g<n
 qj:∀op∈t,∀a,op.act≠ .mark (.release a)
 nT:∀i a,touchAt t i=some a->a.loc.isMemory=true->a.kind=.atomic->Shun a.loc
 II:∀said,¬Race said t
 known:∀i a,touchAt t i=some a->a.loc.isMemory=true->Knows t 0 i\/(Shun a.loc/\a.kind=.atomic)
 over:t.HandedOver
 hears:Deaf t 0=d
 low:∀i a b,touchAt t i=some a->e8 a.loc=some b->b<B
variable{es:Array Event}
section
variable{Shun:Loc->Prop}{B d n:Nat}{t:Trace}
theorem mS.mono{c:Nat}(h:mS Shun B d n t)(g:B<=c):mS Shun c d n t:=⟨h.gs,h.qj,h.nT,h.II,h.known,h.over,h.hears,λi a b f e=>Nat.lt_of_lt_of_le (h.low i a b f e) g⟩
def mS.own(h:mS Shun B d n t)(hn:0<n){fn:FuncId}{pos:String}(f:∀e∈es,oK Shun B e):mS Shun B (deafBehind d es) n (t++MemOp.ofEvents 0 fn pos es):=by
 have u:∀op∈MemOp.ofEvents 0 fn pos es,op.g=0:=λop c=>EU;refine⟨λop c=>(Array.mem_append.1 c).elim (h.gs op) AA,λop c=>(Array.mem_append.1 c).elim (h.qj op) (λx=>by obtain⟨e,g,rfl⟩:=Conc.mem_ofEvents x;exact(f e g).2),λi a j r hk=>?_,λsaid=>noRace_append (h.II said) u λi a j op c b m l=>?_,λi a j v=>?_,handedOver_app h.over AA,?_,λi a b j m=>?_⟩
 .obtain⟨x,k,p⟩:=touch_of j;rcases getElem?_append_cases k with⟨_,s⟩|⟨_,o⟩
  .exact h.nT i a Fi r hk
  .obtain⟨e,g,rfl⟩:=Conc.mem_ofEvents o;exact(((f e g).1 a p).1 r).2 hk
 .rcases h.known i a j l.2.1 with hk|⟨q,z⟩
  .exact hk
  .have y:b.kind≠ .plain:=by obtain⟨e,g,rfl⟩:=Conc.mem_ofEvents c;exact(((f e g).1 b m).1 (by rw[<-l.1];exact l.2.1)).1 (l.1▸q)
   obtain⟨_,_,_,w⟩:=l;grind
 .obtain⟨x,k,p⟩:=touch_of j;rcases getElem?_append_cases k with⟨_,s⟩|⟨_,o⟩
  .exact(h.known i a Fi v).imp (·.app _) id
  grind[knows_own]
 .rw[Deaf_own,h.hears]
 .obtain⟨x,k,p⟩:=touch_of j;rcases getElem?_append_cases k with⟨_,s⟩|⟨_,o⟩
  .exact h.low i a b Fi m
  .obtain⟨e,g,rfl⟩:=Conc.mem_ofEvents o;exact((f e g).1 a p).2 b m
theorem am5{e:Event}(h:e.mute=true)(a:Addr):MemAct.ofEvent e≠ .mark (.release a):=by
 obtain⟨loc,wr,b⟩:=e;cases loc<;>simp_all[Event.mute]
 grind[MemAct.ofEvent]
theorem mS.mute(h:mS Shun B d n t){g:Nat}(hg:g≠0)(s:g<n){fn:FuncId}{pos:String}(l:∀e∈es,e.mute=true):mS Shun B d n (t++MemOp.ofEvents g fn pos es):=by
 have k:∀op∈MemOp.ofEvents g fn pos es,op.g=g:=λop c=>EU;have hn:∀op∈MemOp.ofEvents g fn pos es,op.act.touch?=none:=λop c=>by grind[Conc.mem_ofEvents,touch_mute]
 refine⟨λop c=>(Array.mem_append.1 c).elim (h.gs op) AA,λop c=>(Array.mem_append.1 c).elim (h.qj op) (λx=>by grind[Conc.mem_ofEvents,am5]),λi a j q hk=>?_,λsaid=>noRace_append (h.II said) k AA,λi a j l=>?_,handedOver_app h.over AA,(Deaf_other t hg _ k).trans h.hears,λi a b j r=>?_⟩
 .obtain⟨x,f,p⟩:=touch_of j;rcases getElem?_append_cases f with⟨_,m⟩|⟨_,o⟩
  .exact h.nT i a Fi q hk
  grind
 .obtain⟨x,f,p⟩:=touch_of j;rcases getElem?_append_cases f with⟨_,m⟩|⟨_,o⟩
  .exact(h.known i a Fi l).imp (·.app _) id
  grind
 .obtain⟨x,f,p⟩:=touch_of j;rcases getElem?_append_cases f with⟨_,m⟩|⟨_,o⟩
  .exact h.low i a b Fi r
  grind
end
def lS(P:cg)(Post:Value->aO->Prop)(m:Machine)(t:Trace):Prop:=
 ∃N last o w' cA,runNT P (N+1) m t=(.ended o w',cA)/\runN P N m=.next last/\step P last=.ended o w'/\Conc.Good P Post last o w' cA
theorem lS.step{P:cg}{Post:Value->aO->Prop}{m a:Machine}{t:Trace}{ops:Array MemOp}(hs:stepT P m=(.next a,ops))(h:lS P Post a (t++ops)):lS P Post m t:=by obtain⟨N,last,o,w',c,h1,d,h3,b⟩:=h;refine⟨N+1,last,o,w',c,by grind[runNT],?_,h3,b⟩;grind[runN,Go.step]
theorem lS.leads{P:cg}{Post:Value->aO->Prop}{q:Machine->Trace->Prop}(hq:∀m t,q m t->lS P Post m t):∀(n:Nat){m a:Machine}{t b:Trace},runNT P n m t=(.next a,b)->q a b->lS P Post m t
 |0,m,a,t,b,h,k=>by grind[runNT]
 |n+1,m,a,t,b,h,k=>by simp[runNT]at h;cases hs:stepT P m with|mk r ops=>rw[hs]at h;cases r with|next m1=>exact lS.step hs (lS.leads hq n h k)|ended o w=>grind
def bS(P:cg)(Post:Value->aO->Prop)(n:Nat)(Shun:Loc->Prop)(d:Nat)(g:Goroutine)(w:aO):Prop:=
 ∀(gs:Array Goroutine)(sl:Option (Nat×Nat))(q:Nat->Nat)(t:Trace),gs.size=n->gs[0]?=some g->Leavers P t gs q->mS Shun w.heap.size d n t->lS P Post (crowd gs w sl) t
inductive eB(P:cg)(Shun:Loc->Prop)(Stop:Nat->Goroutine->aO->Prop):Nat->Goroutine->aO->Prop
 |stop {d:Nat} {g:Goroutine} {w:aO} (h:∀k,Stop d g (w.at k)):eB P Shun Stop d g w
 |step {d:Nat} {g:Goroutine} {w:aO} (hs:g.status=.running) (ok:∀k,∃g' w' es,stepG P true g (w.at k)=.go g' w' es/\(∀e∈es,oK Shun w'.heap.size e)/\w.heap.size<=w'.heap.size)
  (next:∀k g' w' es,stepG P true g (w.at k)=.go g' w' es->eB P Shun Stop (deafBehind d es) g' w'):eB P Shun Stop d g w
section
variable{P:cg}{Shun:Loc->Prop}{Stop Stop':Nat->Goroutine->aO->Prop}{d:Nat}{g:Goroutine}{w:aO}
def eB.mk(hs:g.status=.running)(h:∀k,∃g' w' es,stepG P true g (w.at k)=.go g' w' es/\(∀e∈es,oK Shun w'.heap.size e)/\w.heap.size<=w'.heap.size/\eB P Shun Stop (deafBehind d es) g' w'):eB P Shun Stop d g w:=
 .step hs (λk=>let⟨g',w',es,h1,c,h3,_⟩:=h k;AA) λk g1 w1 a e=>by obtain⟨g',w',es,h1,_,_,b⟩:=h k;grind
theorem eB.at(h:eB P Shun Stop d g w)(k:Nat):eB P Shun Stop d g (w.at k):=by cases h with|stop h=>exact .stop λk'=>h k'|step hs h hn=>exact .step hs (λk'=>h k') (λk'=>hn k')
theorem eB.bind(h:eB P Shun Stop d g w)(hS:∀d g w,Stop d g w->eB P Shun Stop' d g w):eB P Shun Stop' d g w:=by induction h with|@stop d g w h=>exact hS _ _ _ (h w.drawn)|step hs h hn a=>exact .step hs h AA
theorem lT{R:aO->aO->Prop}(a:∀w k,R w (w.at k)):∀(n:Nat)(g:Goroutine)(w:aO),Goes P true R Go.ConcR.DC0 (λg w=>eB P Shun Stop d g w) n g w->eB P Shun Stop d g w
 |0,g,w,h=>h w (a w w.drawn)
 |n+1,g,w,h=>by
  rcases h with h|⟨hs,h⟩
  .exact h w (a w w.drawn)
  .refine eB.mk hs λk=>?_;have h1:=h (w.at k) (a w k);cases hst:stepG P true g (w.at k)with
   |go g1 w1 es=>rw[hst]at h1;obtain⟨⟨rfl,rfl⟩,b⟩:=h1;exact⟨g1,w.at k,#[],Y,A_,Nat.le_refl _,lT a n g1 (w.at k) b⟩
   | _=>rw[hst]at h1;exact h1.elim
theorem Zp{g':Goroutine}:∀(n:Nat)(g:Goroutine)(w:aO),Goes P true (λ_ _=>True) Go.ConcR.DC0 (λc _=>c=g') n g w->(∀k,Stop d g' (w.at k))->eB P Shun Stop d g w
 |0,g,w,h,hs=>by have:=h w trivial;subst this;exact .stop hs
 |n+1,g,w,h,hs=>by
  rcases h with h|⟨a,h⟩
  .have:=h w trivial;subst this;exact .stop hs
  .refine eB.mk a λk=>?_;have h1:=h (w.at k) trivial;cases hst:stepG P true g (w.at k)with
   |go g1 w1 es=>rw[hst]at h1;obtain⟨⟨rfl,rfl⟩,b⟩:=h1;exact⟨g1,w.at k,#[],Y,A_,Nat.le_refl _,Zp n g1 (w.at k) b λk'=>hs k'⟩
   | _=>rw[hst]at h1;exact h1.elim
theorem B2(t:Trace)(fn:FuncId)(pos:String)(es:Array Event){j:Nat}(b:0≠j):Deaf (t++MemOp.ofEvents 0 fn pos es) j=Deaf t j:=
 Deaf_other t (g':=0) As _ (λop a=>EU)
def Sq{gs:Array Goroutine}{q:Nat->Nat}{t:Trace}{a:Goroutine}(h:Leavers P t gs q)(h0:gs[0]?=some a)(hrun:a.status=.running){i k:Nat}{g:Goroutine}{sl':Option (Nat×Nat)}(u:0<i)(hi:gs[i]?=some g)(hg:g.status=.running):
 ∃gs' l fn pos es,runT P (crowd gs (w.at k) sl') i=(.next (crowd gs' (w.at k) sl'),MemOp.ofEvents i fn pos es)/\gs'.size=gs.size/\gs'[0]?=some a/\Leavers P (t++MemOp.ofEvents i fn pos es) gs' l/\(∀e∈es,e.mute=true)/\sumTo gs'.size l<sumTo gs.size q:=by
 have hq:=h.old i g u hi;have s:(i==0)=false:=AA;have c:i<gs.size:=(Array.getElem?_eq_some_iff.1 hi).1;cases o:q i with
 |zero=>rw[o]at hq;rw[hq.1]at hg;cases hg
 |succ k'=>
  rw[o]at hq;rcases hq with⟨C,_⟩|⟨_,g',es,A,r,z⟩
  .grind
  have p:=runT_crowd_go (P:=P) (sl:=sl') (i:=i) hi (by rw[s];exact r (w.at k));have hsz:((gs.map (woken P g g' (w.at k))).setIfInBounds i g').size=gs.size:=A_;have B:sumTo gs.size (upd q i k')+(k'+1)=sumTo gs.size q+k':=by have:=sumTo_upd q k' id c;simp_all
  refine⟨_,upd q i k',_,_,es,p,hsz,?_,⟨λj x n m=>?_,λj n=>?_⟩,A,AA⟩
  .grind[woken_run]
  .by_cases d:i=j
   .grind[upd_same,Deaf_own]
   .rw[Array.getElem?_setIfInBounds_ne d,Array.getElem?_map]at m;obtain⟨y,v,rfl⟩:=Option.map_eq_some_iff.1 m;have f:=h.old j y n v;rw[woken_quitsD f,upd_ne q k' (Ne.symm d),Deaf_other t d _ (λop b=>EU)];grind
  .rw[Deaf_other t (g':=i) AA _ (λop b=>EU)];exact h.above j AA
def MC{gs:Array Goroutine}{q:Nat->Nat}{t:Trace}{a:Goroutine}{B n:Nat}(hn:gs.size=n)(m:Leavers P t gs q)(j:mS Shun B d n t)(h0:gs[0]?=some a)(hrun:a.status=.running){i k:Nat}{g:Goroutine}{sl':Option (Nat×Nat)}(c:0<i)(hi:gs[i]?=some g)(hg:g.status=.running):
 ∃gs' b ops,runT P (crowd gs (w.at k) sl') i=(.next (crowd gs' (w.at k) sl'),ops)/\gs'.size=gs.size/\gs'[0]?=some a/\Leavers P (t++ops) gs' b/\mS Shun B d n (t++ops)/\sumTo gs'.size b<sumTo gs.size q:=by
 obtain⟨gs',b,fn,pos,es,h1,h,h3,f,o,l⟩:=Sq (w:=w) (k:=k) (sl':=sl') m h0 hrun c hi hg;have e:i<gs.size:=(Array.getElem?_eq_some_iff.1 hi).1;exact⟨gs',b,_,h1,h,h3,f,j.mute As As o,l⟩
def FI{gs:Array Goroutine}{q:Nat->Nat}{t:Trace}{a:Goroutine}(c:Leavers P t gs q)(h0:gs[0]?=some a)(hrun:a.status=.running):∀g∈gs,awake g:=by
 intro g hg;obtain⟨i,hi,rfl⟩:=Array.mem_iff_getElem.1 hg;rcases Nat.eq_zero_or_pos i with rfl|b
 .grind[awake_of]
 .exact awake_of ((c.old i _ b (Array.getElem?_eq_getElem hi)).status.elim .inl AA)
def B3{Post:Value->aO->Prop}{n:Nat}(hs:g.status=.running)(h:∀k,∃g' w' es,stepG P true g (w.at k)=.go g' w' es/\(∀e∈es,oK Shun w'.heap.size e)/\w.heap.size<=w'.heap.size/\bS P Post n Shun (deafBehind d es) g' w'):bS P Post n Shun d g w:=by
 have key:∀(M:Nat)(gs:Array Goroutine)(sl:Option (Nat×Nat))(q:Nat->Nat)(t:Trace)(o:Nat),sumTo gs.size q<=M->gs.size=n->gs[0]?=some g->Leavers P t gs q->mS Shun w.heap.size d n t->lS P Post (crowd gs (w.at o) sl) t:=by
  intro M;induction M with
  |zero=>
   intro gs sl q t o C hn h0 a c;obtain⟨i,g1,k,sl',hi,hg,hst⟩:=crowd_pick (P:=P) (w:=w.at o) (sl:=sl) (FI a h0 hs) AA;rcases Nat.eq_zero_or_pos i with rfl|z
   .obtain rfl:g1=g:=by grind
    obtain⟨g',w',es,p,u,s,r⟩:=h k;have v:=runT_crowd_go (P:=P) (sl:=sl') (i:=0) hi (show stepG P (0==0) g1 (w.at k)=_ from p);have l:0<gs.size:=(Array.getElem?_eq_some_iff.1 h0).1;refine lS.step (hst.trans v) (r _ _ q _ AA AA ⟨λj x m f=>?_,λj m=>?_⟩ ((c.mono s).own As u))
    .have b:0≠j:=by omega
     rw[Array.getElem?_setIfInBounds_ne b,Array.getElem?_map]at f;obtain⟨y,A,rfl⟩:=Option.map_eq_some_iff.1 f;have hq:=a.old j y m A;grind[woken_quitsD,B2]
    .rw[B2 _ _ _ _ AA];exact a.above j AA
   .obtain⟨gs',B,ops,_,_,_,_,_,l⟩:=MC (w:=w) (k:=k) (sl':=sl') hn a c h0 hs z hi hg;omega
  |succ M D=>
   intro gs sl q t o C hn h0 a c;obtain⟨i,g1,k,sl',hi,hg,hst⟩:=crowd_pick (P:=P) (w:=w.at o) (sl:=sl) (FI a h0 hs) AA;rcases Nat.eq_zero_or_pos i with rfl|z
   .obtain rfl:g1=g:=by grind
    obtain⟨g',w',es,p,u,s,r⟩:=h k;have v:=runT_crowd_go (P:=P) (sl:=sl') (i:=0) hi (show stepG P (0==0) g1 (w.at k)=_ from p);have l:0<gs.size:=(Array.getElem?_eq_some_iff.1 h0).1;refine lS.step (hst.trans v) (r _ _ q _ AA AA ⟨λj x m f=>?_,λj m=>?_⟩ ((c.mono s).own As u))
    .have b:0≠j:=by omega
     rw[Array.getElem?_setIfInBounds_ne b,Array.getElem?_map]at f;obtain⟨y,A,rfl⟩:=Option.map_eq_some_iff.1 f;have hq:=a.old j y m A;grind[woken_quitsD,B2]
    .rw[B2 _ _ _ _ AA];exact a.above j AA
   .obtain⟨gs',B,ops,p,u,s,r,F,E⟩:=MC (w:=w) (k:=k) (sl':=sl') hn a c h0 hs z hi hg;exact lS.step (hst.trans p) AA
 intro gs sl q t hn h0 a c;exact key _ gs sl q t w.drawn J1 hn h0 a c
def zU{Post:Value->aO->Prop}{n:Nat}(h:eB P Shun (bS P Post n Shun) d g w):bS P Post n Shun d g w:=by induction h with|@stop d g w h=>exact h w.drawn|step hs h hn a=>refine B3 hs λk=>?_;obtain⟨g',w',es,e,c,b⟩:=h k;grind
def Zr{Post:Value->aO->Prop}{gs:Array Goroutine}{q:Nat->Nat}{t:Trace}{B n k f:Nat}{sl sl':Option (Nat×Nat)}(hn:0<n)(hst:stepT P (crowd gs (w.at f) sl)=runT P (crowd gs (w.at k) sl') 0)(h:Leavers P t gs q)(p:mS Shun B d n t)(hi:gs[0]?=some g){v:Value}(o:stepG P true g (w.at k)=.ended (.done v) (w.at k) es)(b:∀e∈es,oK Shun B e)(r:Post v (w.at k)):lS P Post (crowd gs (w.at f) sl) t:=by
 have m:=runT_many_ended (P:=P) (sl:=sl') (i:=0) hi (show stepG P (0==0) g (w.at k)=_ from o);have l:=p.own hn (fn:=g.frame.fn) (pos:=g.frame.place) b;have hs:=hst.trans m;refine⟨0,_,_,_,_,by simp[runNT,hs],Y,by simp[Go.step,hs],v,Y,r,l.II,l.over,⟨λx a=>?_,Y⟩,λj x a c=>?_⟩
 .obtain⟨j,c⟩:=List.mem_iff_getElem?.1 a;rw[List.getElem?_drop]at c;exact⟨_,(h.old (1+j) x As (by grind[crowd])).leaves⟩
 .have hq:=h.old j x As a;refine⟨q j,?_⟩;have e:(t++MemOp.ofEvents 0 g.frame.fn g.frame.place es).deaf j (t++MemOp.ofEvents 0 g.frame.fn g.frame.place es).size=Deaf t j:=B2 t _ _ _ As;rw[e];exact hq.hears _
def am7{Post:Value->aO->Prop}{n:Nat}(hs:g.status=.running)(h:∀k,∃v es,stepG P true g (w.at k)=.ended (.done v) (w.at k) es/\(∀e∈es,oK Shun w.heap.size e)/\Post v (w.at k)):bS P Post n Shun d g w:=by
 have key:∀(M:Nat)(gs:Array Goroutine)(sl:Option (Nat×Nat))(q:Nat->Nat)(t:Trace)(c:Nat),sumTo gs.size q<=M->gs.size=n->gs[0]?=some g->Leavers P t gs q->mS Shun w.heap.size d n t->lS P Post (crowd gs (w.at c) sl) t:=by
  intro M;induction M with
  |zero=>
   intro gs sl q t c r hn h0 a b;obtain⟨i,g1,k,sl',hi,hg,hst⟩:=crowd_pick (P:=P) (w:=w.at c) (sl:=sl) (FI a h0 hs) AA;rcases Nat.eq_zero_or_pos i with rfl|m
   .obtain rfl:g1=g:=by grind
    obtain⟨v,es,f,l,j⟩:=h k;exact Zr AA hst a b h0 f l j
   .obtain⟨gs',o,ops,_,_,_,_,_,p⟩:=MC (w:=w) (k:=k) (sl':=sl') hn a b h0 hs m hi hg;omega
  |succ M s=>
   intro gs sl q t c r hn h0 a b;obtain⟨i,g1,k,sl',hi,hg,hst⟩:=crowd_pick (P:=P) (w:=w.at c) (sl:=sl) (FI a h0 hs) AA;rcases Nat.eq_zero_or_pos i with rfl|m
   .obtain rfl:g1=g:=by grind
    obtain⟨v,es,f,l,j⟩:=h k;exact Zr AA hst a b h0 f l j
   .obtain⟨gs',o,ops,f,l,j,y,x,u⟩:=MC (w:=w) (k:=k) (sl':=sl') hn a b h0 hs m hi hg;exact lS.step (hst.trans f) AA
 intro gs sl q t hn h0 a b;exact key _ gs sl q t w.drawn J1 hn h0 a b
end
section
open ConcM
section
variable{P:cg}{Shun:Loc->Prop}{Stop:Nat->Goroutine->aO->Prop}{d:Nat}
def nX{g g1:Goroutine}{w w1:aO}(hs:g.status=.running)(h:∀k,stepG P true g (w.at k)=.go g1 (w1.at k) es)(a:∀e∈es,oK Shun w1.heap.size e)(hsz:w.heap.size<=w1.heap.size)(b:eB P Shun Stop (deafBehind d es) g1 w1):eB P Shun Stop d g w:=
 eB.mk hs λk=>⟨g1,w1.at k,es,h k,a,hsz,b.at k⟩
def dJ{a b c:aO}(h:AtRel a b)(k:AtRel b c):AtRel a c:=atRel_trans a b c h k
def MD{m:Mark}(d:∀a,m≠ .release a/\m≠ .read a/\m≠ .write a)(wr b:Bool){B:Nat}:oK Shun B ⟨.mark m,wr,b⟩:=by
 have h1:(MemAct.ofEvent ⟨.mark m,wr,b⟩)=.mark m:=by cases wr<;>cases b<;>rfl
 refine⟨λx c=>?_,λa e=>?_⟩
 .simp_all[MemAct.touch?]
 grind
def Zs{a:Addr}(hs:Shun (.cell a)){B:Nat}(e:a.block<B)(wr:Bool):oK Shun B ⟨.cell a,wr,true⟩:=by
 have h1:(MemAct.ofEvent ⟨.cell a,wr,true⟩)=.access ⟨.cell a,wr,true⟩:=by cases wr<;>rfl
 refine⟨λx c=>?_,AA⟩;rw[h1]at c;simp only[MemAct.touch?,Option.some.injEq]at c;subst c;exact⟨AA,λb d=>by cases d;exact e⟩
def IJ{a:Addr}(hs:¬Shun (.cell a)){B:Nat}(e:a.block<B)(wr:Bool):oK Shun B ⟨.cell a,wr,false⟩:=by
 have h1:(MemAct.ofEvent ⟨.cell a,wr,false⟩)=.access ⟨.cell a,wr,false⟩:=by cases wr<;>rfl
 refine⟨λx c=>?_,AA⟩;rw[h1]at c;simp only[MemAct.touch?,Option.some.injEq]at c;subst c;exact⟨AA,λb d=>by cases d;exact e⟩
theorem Zt{K mine:Nat->Prop}{e:Event}{B:Nat}(h:wU K mine e)(hs:∀b,K b\/mine b->∀l,e8 l=some b->¬Shun l)(j:∀b,K b\/mine b->b<B):oK Shun B e:=by
 obtain⟨loc,wr,f⟩:=e;cases loc with
 |cell a=>
  obtain⟨h1,_,h3⟩:=h;simp only at h3;subst h3;refine⟨λx c=>?_,λa e=>by cases wr<;>cases e⟩
  have d:x=⟨.cell a,wr,.plain⟩:=by grind[MemAct.ofEvent,MemAct.touch?]
  subst d;exact⟨λ_=>⟨λe=>absurd e (hs _ h1 _ Y),AA⟩,λb g=>by cases g;grind⟩
 |obj r=>
  obtain⟨h1,_,h3⟩:=h;simp only at h3;subst h3;refine⟨λx c=>?_,λa e=>by cases wr<;>cases e⟩
  have d:x=⟨.obj r,wr,.plain⟩:=by grind[MemAct.ofEvent,MemAct.touch?]
  subst d;exact⟨λ_=>⟨λe=>absurd e (hs _ h1 _ Y),AA⟩,λb g=>by cases g;grind⟩
 |output=>
  refine⟨λx c=>?_,λa e=>by cases wr<;>cases f<;>cases e⟩
  have d:x.loc=.output:=by grind[MemAct.ofEvent,MemAct.touch?]
  rw[d];exact⟨λe=>(by simp[Loc.isMemory]at e),λb e=>Dv⟩
 |goroutines=>exact h.elim
 |mark m=>
  have i:(MemAct.ofEvent ⟨.mark m,wr,f⟩)=.mark m:=by cases wr<;>cases f<;>rfl
  cases m<;>first|exact h.elim|exact⟨λx c=>(by rw[i]at c;cases c),AA⟩
structure Left(X Y:aV):Prop where
 sub:∀b,X.mine b->Y.mine b
 kept:∀b,b<X.w.heap.size->¬X.mine b->Y.w.heap[b]?=X.w.heap[b]?
 new:∀b,Y.mine b->X.mine b\/(X.w.heap.size<=b/\b<Y.w.heap.size)
 size:X.w.heap.size<=Y.w.heap.size
 os:OsLater X.w.os Y.w.os
 output:Y.w.output=X.w.output
 tape:Y.w.tape=X.w.tape
 run:X.g.status=.running->Y.g.status=.running
def Ss{K:Nat->Prop}{post:aV->Prop}{X:aV}(h:iZ P true K post X):X.g.status=.running->(∀b,K b\/X.mine b->b<X.w.heap.size)->(∀b,K b\/X.mine b\/X.w.heap.size<=b->∀l,e8 l=some b->¬Shun l)->
 (∀Y,post Y->Left X Y->eB P Shun Stop d Y.g Y.w)->eB P Shun Stop d X.g X.w:=by
 induction h with
 |@done X h=>exact λhs _ _ k=>k X h ⟨λ_ h=>h,λ_ _ _=>rfl,AA,Nat.le_refl _,.refl _,rfl,rfl,id⟩
 |@step X ok _ j=>
  intro hs t u k;refine eB.mk hs λn=>?_;have hrel:jB K X (X.w.at n):=⟨λ_ _=>rfl,Nat.le_refl _,.refl _⟩;obtain⟨g1,w1,es,hst,hg⟩:=ok (X.w.at n) hrel;have hsz:X.w.heap.size<=w1.heap.size:=hg.size;have o:∀b,grown X.mine (X.w.at n) w1 b->X.mine b\/(X.w.heap.size<=b/\b<w1.heap.size):=λb h=>h;have q:∀b,K b\/grown X.mine (X.w.at n) w1 b->∀l,e8 l=some b->¬Shun l:=AA;have f:∀b,K b\/grown X.mine (X.w.at n) w1 b->b<w1.heap.size:=AA;have p:deafBehind d es=d:=by
   have:∀(l:List Event)(d:Nat),(∀e∈l,wU K (grown X.mine (X.w.at n) w1) e)->deafBehind d l.toArray=d:=by
    intro l;induction l with
    |nil=>intro d _;rfl
    |cons e l ihl=>
     intro d a;have h1:deafBehind d (e::l).toArray=deafBehind (deafBehind d #[e]) l.toArray:=by simp[deafBehind]
     have g:deafBehind d #[e]=d:=by
      have c:=a e A_;obtain⟨loc,wr,r⟩:=e;cases loc with
      |mark m=>cases m<;>first|exact c.elim|rfl
      | _=>rfl
     grind
   exact this es.toList d λe c=>hg.evs e AA
  refine⟨g1,w1,es,hst,λe c=>Zt (hg.evs e c) q f,hsz,?_⟩;rw[p];refine j (X.w.at n) g1 w1 es hrel hst hg.run f (λb s=>?_) (λY i a=>k Y i ?_)
  .grind
  .refine⟨λb h=>a.sub b (.inl h),λb h1 g=>(a.kept b AA λh=>?_).trans (hg.kept b h1 g),λb h=>?_,Nat.le_trans hsz a.size,(show OsLater X.w.os Y.w.os from by rw[<-show w1.os=X.w.os from hg.os];exact a.os),a.output.trans hg.output,a.tape.trans hg.tape,λ_=>a.run hg.run⟩
   .grind
   .rcases a.new b h with h|h
    .rcases o b h with h|h
     .grind
     .exact .inr ⟨h.1,Nat.lt_of_lt_of_le h.2 a.size⟩
    grind
end
end
end cz
namespace kZ
open av
structure fc where
 T:Nat->Bool
 K:Nat->Bool
 V:Nat->Option Value
 sl:TypeId->Bool
 d:Nat
structure eL(D:fc)(a b:Frame):Prop where
 eq:b={a with tmps:=b.tmps}
 size:b.tmps.size=a.tmps.size
 same:∀i,D.T i=false->b.tmps[i]?=a.tmps[i]?
 gone:a.mode=.run->∀i v,D.T i=true->a.tmps[i]?=some v->v=undef
 kept:a.mode=.run->∀i,D.K i=true->b.tmps[i]?=D.V i
def zV(D:fc):Operand->Bool
 | .tmp t=> !D.T t
 | _=>true
def ZA(D:fc)(c:Call):Bool:=match c.callee with
 | .builtin .len=>match c.args.toList,c.argTypes.toList with
  | [.tmp t],[ty]=>D.T t&&D.sl ty
  | _,_=>false
 | _=>false
def ZB(D:fc)(o:Oper):Bool:=match o.op with
 | .load _ (.tmp t)=>D.T t
 | .indexAddr _ (.tmp t) _=>D.T t
 | .call c=>ZA D c
 | _=>false
def ZC(D:fc)(o:Oper):Bool:=match o.op,o.dst with
 | .move (.tmp t),some d=>D.T t&&D.T d
 | _,_=>false
def Sv(D:fc)(o:Oper):Bool:=match o.dst with
 |some d=> !D.T d
 |none=>true
def Sw(D:fc)(o:Oper):Bool:=match o.dst with
 |some d=> !D.K d
 |none=>true
def hR(D:fc)(o:Oper):Bool:=o.op.operands.all (zV D)&& !(o.op matches .select ..)&&Sv D o
def ME(D:fc)(ops:Array Oper)(o:Oper):Bool:=match o.guard with
 |some (g,_)=>match(ops[g]?).bind (·.dst)with
  |some t=> !D.T t
  |none=>true
 |none=>true
def sf(D:fc)(ops:Array Oper)(o:Oper):Bool:=ME D ops o&&Sw D o&&(hR D o||ZC D o||ZB D o)
def oL(D:fc):Code->Bool
 | .region _ ops _=>ops.all (sf D ops)
 | .seq a b=>oL D a&&oL D b
 | .cond c a b=>zV D c&&oL D a&&oL D b
 | .block _ c| .loop c=>oL D c
 | .skip| .exit _ | .ret=>true
 | _=>false
def gX(D:fc):Item->Bool
 | .code c=>oL D c
 | .inBlock _=>true
 | .inLoop c=>oL D c
 | .inRegion ops l=>l.all λi=>match ops[i]? with
  |some o=>sf D ops o
  |none=>true
 | _=>false
def B5(D:fc):ResultVar->Bool
 | .tmp t=> !D.T t
 | .cell t _=> !D.T t
structure mT(P:cg)(D:fc)(a:Frame):Prop where
 items:a.mode=.run->a.todo.all (gX D)=true
 round:a.roundOf=none
 FK:∃fn,P.funcs[a.fn]?=some fn/\fn.results.all (B5 D)=true
 sl:∀t,D.sl t=true->∃e,P.underlying t=some (.slice e)
 MF:P.inits.idxOf? a.fn=none
structure ZD(P:cg)(D:fc)(a:Frame):Prop extends mT P D a where
 be:a.mode=.run->∀ops i rest k,a.todo=.inRegion ops (i::rest)::k->∀o,ops[i]?=some o->∀d,o.dst=some d->D.T d=false
inductive mU(P:cg)(D:fc):List Frame->List Frame->Prop
 |here {a b:Frame} (h:eL D a b) (v:ZD P D a) (l:List Frame) (hl:l.length=D.d):mU P D (a::l) (b::l)
 |there (a:Frame) {l l':List Frame} (h:mU P D l l'):mU P D (a::l) (a::l')
inductive mr(P:cg)(D:fc):Goroutine->Goroutine->Prop
 |same (g:Goroutine) (hl:g.callers.length<D.d):mr P D g g
 |gt {a b:Frame} (h:eL D a b) (v:mT P D a) (cs:List Frame) (hl:cs.length=D.d) (s:GoStatus) (d:Option Dying):mr P D ⟨a,cs,s,d,none⟩ ⟨b,cs,s,d,none⟩
 |under (a:Frame) {cs a7:List Frame} (h:mU P D cs a7) (s:GoStatus) (d:Option Dying):mr P D ⟨a,cs,s,d,none⟩ ⟨a,a7,s,d,none⟩
def eS(P:cg)(D:fc)(s s':GStep):Prop:=∀g1 w1 es,s=.go g1 w1 es->g1.status=.running->g1.dying=none->∃zW,s'=.go zW w1 es/\mr P D g1 zW
variable{g g':Goroutine}{w:aO}{es:Array Event}{s:GStep}
section
variable{P:cg}{D:fc}{a b:Frame}
theorem eS.go(h:mr P D g g'):eS P D (.go g w es) (.go g' w es):=λg1 w1 a e _ _=>by grind
theorem eS.ended{o:Outcome}:eS P D (.ended o w es) s:=λ_ _ _ e=>by cases e
theorem eS.after{s':GStep}(es:Array Event)(h:eS P D s s'):eS P D (s.after es) (s'.after es):=λg1 w1 d e hs hd=>by
 cases s with
 |go g w a=>simp[GStep.after]at e;obtain⟨rfl,rfl,rfl⟩:=e;obtain⟨g',c,b⟩:=h g w a Y hs hd;exact⟨g',by rw[c];rfl,b⟩
 | _=>cases e
def eS.ul(h:g.status≠ .running\/g.dying≠none):eS P D (.go g w es) s:=λg1 w1 a e hs hd=>by grind
theorem eL.getD(h:eL D a b){t:Nat}(ht:D.T t=false):b.tmps.getD t undef=a.tmps.getD t undef:=by have:=h.same t ht;simp_all
theorem eL.eval(h:eL D a b){x:Operand}(c:zV D x=true):b.eval x=a.eval x:=by
 cases x with
 |tmp t=>
  have ht:D.T t=false:=by grind[zV]
  simp only[Frame.eval];exact h.getD ht
 | _=>rfl
def eL.MG(h:eL D a b)(d:a.mode=.run){t:Nat}(ht:D.T t=true):a.eval (.tmp t)=undef:=by simp[Frame.eval];cases c:a.tmps[t]? with|none=>rfl|some v=>rw[h.gone d t v ht c];rfl
theorem eL.todo(h:eL D a b):b.todo=a.todo:=by rw[h.eq]
theorem eL.fn(h:eL D a b):b.fn=a.fn:=by rw[h.eq]
theorem eL.mode(h:eL D a b):b.mode=a.mode:=by rw[h.eq]
theorem eL.kind(h:eL D a b):b.kind=a.kind:=by rw[h.eq]
theorem eL.defers(h:eL D a b):b.defers=a.defers:=by rw[h.eq]
theorem eL.roundOf(h:eL D a b):b.roundOf=a.roundOf:=by rw[h.eq]
def eL.aC(h:eL D a b){a' c:Frame}(h1:a'.tmps=a.tmps)(d:c.tmps=b.tmps)(e:c={a' with tmps:=c.tmps})(f:a'.mode=.run->a.mode=.run):eL D a' c:=
 ⟨e,by rw[h1,d];exact h.size,by rw[h1,d];exact h.same,λx=>by rw[h1];exact h.gone (f x),λx=>by rw[d];exact h.kept (f x)⟩
theorem eL.put(h:eL D a b){a' c:Frame}{d:Nat}{v u:Value}(h1:a'.tmps=a.tmps.setIfInBounds d v)(j:c.tmps=b.tmps.setIfInBounds d u)(e:c={a' with tmps:=c.tmps})(k:a'.mode=a.mode)(hs:D.T d=false->u=v)(hg:a.mode=.run->D.T d=true->v=undef)(hk:a.mode=.run->D.K d=false):eL D a' c:=by
 refine⟨e,by rw[h1,j];simpa using h.size,λi hi=>?_,λg i x hi f=>?_,λg i hi=>?_⟩
 .rw[h1,j,Array.getElem?_setIfInBounds,Array.getElem?_setIfInBounds];by_cases hd:d=i
  .subst hd;simp[hs hi,h.size]
  .simp[hd];exact h.same i hi
 .rw[h1,Array.getElem?_setIfInBounds]at f;by_cases hd:d=i
  .grind
  .simp[hd]at f;exact h.gone (k▸g) i x hi f
 .rw[j,Array.getElem?_setIfInBounds];by_cases hd:d=i
  .grind
  .simp[hd];exact h.kept (k▸g) i hi
def mT.aC{a':Frame}(h:mT P D a)(h1:a'.fn=a.fn)(b:a'.roundOf=a.roundOf)(h3:a'.mode=.run->a'.todo.all (gX D)=true):mT P D a':=⟨h3,b.trans h.round,by rw[h1];exact h.FK,h.sl,by rw[h1];exact h.MF⟩
def MH(h:eL D a b)(hi:mT P D a){v u:Value}(hn:a.mode≠ .run->u=v)(hd:a.mode=.run->∀ops i rest k,a.todo=.inRegion ops (i::rest)::k->∀o,ops[i]?=some o->∀d,o.dst=some d->(D.T d=false->u=v)/\(D.T d=true->v=undef)):eL D (a.finish v) (b.finish u)/\mT P D (a.finish v):=by
 have g:=hi.items;obtain⟨fn,tmps,todo,defers,mode,kind,ro⟩:=a;obtain⟨p,B,m,y,j,z,t⟩:=b;have e:=h.eq;simp at e;obtain⟨rfl,rfl,rfl,rfl,rfl,rfl⟩:=e;have g:j=.run->m.all (gX D)=true:=g;have hn:j≠ .run->u=v:=hn;have hd:j=.run->∀ops i rest k,m=.inRegion ops (i::rest)::k->∀o,ops[i]?=some o->∀d,o.dst=some d->(D.T d=false->u=v)/\(D.T d=true->v=undef):=hd;cases m with
 |nil=>exact⟨h,hi⟩
 |cons x k=>
  simp only[List.all_cons,Bool.and_eq_true]at g;cases x with
  |code c=>exact⟨h,hi⟩
  |inBlock id=>exact⟨h,hi⟩
  |inLoop c=>exact⟨h,hi⟩
  |inScope c=>exact⟨h,hi⟩
  |inRangeFunc l=>exact⟨h.aC Y Y Y λx=>x,hi.aC Y Y λx=>(by cases(g x).1)⟩
  |endRangeFunc l=>exact⟨h,hi⟩
  |beginRound=>exact⟨h.aC Y Y Y λx=>x,hi.aC Y Y λx=>(by cases(g x).1)⟩
  |call d w r s=>
   by_cases f:j=.run
   .cases(g f).1
   .obtain rfl:=hn f;exact⟨h.aC Y Y Y λx=>x,hi.aC Y Y λx=>absurd x f⟩
  |extern r aC=>
   by_cases f:j=.run
   .cases(g f).1
   .obtain rfl:=hn f;exact⟨⟨Y,Y,λ_ _=>Y,λx=>absurd x f,λx=>absurd x f⟩,hi.aC Y Y λx=>absurd x f⟩
  |inRegion ops l=>
   cases l with
   |nil=>exact⟨h,hi⟩
   |cons i rest=>
    have q:mT P D (Frame.finish ⟨p,tmps,.inRegion ops (i::rest)::k,y,j,z,t⟩ v):=hi.aC Y Y (λx=>by
     simp_all[gX,Frame.finish])
    refine⟨?_,q⟩;cases n:ops[i]? with
    |none=>exact h.aC JL JL JL λx=>x
    |some o=>
     cases A:o.dst with
     |none=>exact h.aC Jj Jj Jj λx=>x
     |some d=>
      refine h.put (d:=d) (v:=v) (u:=u) ?_ ?_ ?_ Y (λht=>?_) AA (λf=>?_)
      .grind[Frame.finish]
      .grind[Frame.finish]
      .grind[Frame.finish]
      .grind
      simp_all[gX,sf,Sw]
def ZE(h:eL D a b)(hi:mT P D a)(vs:List PanicEntry):eL D (a.raise vs) (b.raise vs)/\mT P D (a.raise vs):=by obtain⟨fn,tmps,todo,defers,mode,kind,ro⟩:=a;obtain⟨f,j,d,i,c,k,g⟩:=b;have e:=h.eq;simp at e;obtain⟨rfl,rfl,rfl,rfl,rfl,rfl⟩:=e;cases c<;>exact⟨h.aC Y Y Y (λx=>by cases x),hi.aC Y Y (λx=>by cases x)⟩
theorem Sx:∀{l:List Frame}{fr:Frame}{p:Value×List Frame},tryRecover fr l=some p->p.2.length=l.length
 | [],fr,p,e=>by obtain⟨g,h,f,d,c,b,i⟩:=fr;cases b<;>cases e
 |x::l,fr,p,e=>by
  cases a:fr.kind with
  |deferred=>
   simp[tryRecover,a]at e;split at e
   .cases e;rfl
   .cases e
  |wrapped=>simp only[tryRecover,a]at e;cases hq:tryRecover x l with|none=>rw[hq]at e;cases e|some q=>rw[hq]at e;cases e;simp[Sx hq]
  | _=>obtain⟨g,h,f,d,c,b,i⟩:=fr;have a:b=_:=a;subst a;cases e
def anb:∀{cs a7:List Frame},mU P D cs a7->∀(fr:Frame),(tryRecover fr cs=none->tryRecover fr a7=none)/\∀v c1,tryRecover fr cs=some (v,c1)->∃q,tryRecover fr a7=some (v,q)/\mU P D c1 q:=by
 intro cs a7 h;induction h with
 |@here a b h v l o=>
  intro fr;have F:=h.mode;have hk:=h.kind;obtain⟨fn,tmps,todo,defers,mode,kind,ro⟩:=a;obtain⟨j,B,f,m,g,d,k⟩:=b;have e:=h.eq;simp at e;obtain⟨rfl,rfl,rfl,rfl,rfl,rfl⟩:=e;cases c:fr.kind with
  |deferred=>
   simp[tryRecover,c];split
   .refine⟨AA,λv1 c1 e=>?_⟩;simp at e;obtain⟨rfl,rfl⟩:=e;refine⟨_,Y,mU.here ?_ ?_ l o⟩
    .exact h.aC Y Y Y AA
    .exact⟨v.tomT.aC Y Y AA,AA⟩
   .exact⟨λ_=>Y,AA⟩
  |wrapped=>
   simp only[tryRecover,c];have x:∀l,tryRecover ⟨j,B,f,m,g,d,k⟩ l=tryRecover ⟨j,tmps,f,m,g,d,k⟩ l:=by intro l;cases l<;>cases d<;>rfl
   rw[x];cases hq:tryRecover ⟨j,tmps,f,m,g,d,k⟩ l with|none=>exact⟨λ_=>Y,AA⟩|some p=>refine⟨AA,λv1 c1 e=>?_⟩;simp at e;obtain⟨rfl,rfl⟩:=e;exact⟨_,Y,.here h v _ ((Sx hq).trans o)⟩
  | _=>obtain⟨z,A,t,s,r,i,C⟩:=fr;have c:i=_:=c;subst c;exact⟨λ_=>Y,λv1 c1 e=>Dv⟩
 |@there a l E h u=>
  intro fr;cases c:fr.kind with
  |deferred=>
   simp[tryRecover,c];split
   .refine⟨AA,λv1 c1 e=>?_⟩;simp at e;obtain⟨rfl,rfl⟩:=e;exact⟨_,Y,.there _ h⟩
   .exact⟨λ_=>Y,AA⟩
  |wrapped=>simp only[tryRecover,c];obtain⟨h1,w⟩:=u a;cases n:tryRecover a l with|none=>rw[h1 n];exact⟨λ_=>Y,AA⟩|some p=>obtain⟨v0,cX⟩:=p;obtain⟨H,y,h0⟩:=w v0 cX n;refine⟨AA,λv1 c1 e=>?_⟩;simp at e;obtain⟨rfl,rfl⟩:=e;rw[y];exact⟨_,Y,.there _ h0⟩
  | _=>obtain⟨z,A,t,s,r,i,C⟩:=fr;have c:i=_:=c;subst c;exact⟨λ_=>Y,λv1 c1 e=>Dv⟩
end
inductive gL(P:cg)(D:fc):Frame->List Frame->Frame->List Frame->Prop
 |gt {a b:Frame} {cs:List Frame} (h:eL D a b) (v:ZD P D a) (hl:cs.length=D.d):gL P D a cs b cs
 |under (a:Frame) {cs a7:List Frame} (h:mU P D cs a7):gL P D a cs a a7
variable{aJ al:Type}
section
variable{P:cg}{D:fc}{a b:Frame}{cs a7:List Frame}
theorem eS.AL{o:Outcome}{es':Array Event}:eS P D (GStep.after es (.ended o w es')) s:=λ_ _ _ e=>by cases e
def eS.ite{c:Prop}[Decidable c]{A B a b:GStep}(h1:c->eS P D A a)(d:¬c->eS P D B b):eS P D (if c then A else B) (if c then a else b):=by grind
theorem gL.todo(h:gL P D a cs b a7):b.todo=a.todo:=by cases h with|gt h v c=>exact h.todo|under=>rfl
theorem gL.fn(h:gL P D a cs b a7):b.fn=a.fn:=by cases h with|gt h v c=>exact h.fn|under=>rfl
theorem gL.kind(h:gL P D a cs b a7):b.kind=a.kind:=by cases h with|gt h v c=>exact h.kind|under=>rfl
def gL.round(h:gL P D a cs b a7):b.roundOf=a.roundOf:=by cases h with|gt h v c=>exact h.roundOf|under=>rfl
theorem gL.mode(h:gL P D a cs b a7):b.mode=a.mode:=by cases h with|gt h v c=>exact h.mode|under=>rfl
theorem gL.defers(h:gL P D a cs b a7):b.defers=a.defers:=by cases h with|gt h v c=>exact h.defers|under=>rfl
def gL.xE(h:gL P D a cs b a7)(s:GoStatus)(d:Option Dying):mr P D ⟨a,cs,s,d,none⟩ ⟨b,a7,s,d,none⟩:=by cases h with|gt h v c=>exact .gt h v.tomT _ c _ _|under h=>exact .under _ h _ _
def gL.push(h:gL P D a cs b a7):mU P D (a::cs) (b::a7):=by cases h with|gt h v c=>exact .here h v _ c|under h=>exact .there _ h
def gL.eI(h:gL P D a cs b a7)(x:Value)(s:GoStatus)(d:Option Dying):mr P D ⟨a.finish x,cs,s,d,none⟩ ⟨b.finish x,a7,s,d,none⟩:=by
 cases h with
 |gt h v g=>obtain⟨h1,j⟩:=MH (v:=x) (u:=x) h v.tomT AA (λf ops i rest k e o c d hd=>⟨λ_=>Y,λht=>by rw[v.be f ops i rest k e o c d hd]at ht;cases ht⟩);exact .gt h1 j _ g _ _
 |under h=>exact .under _ h _ _
theorem gL.raise(h:gL P D a cs b a7)(vs:List PanicEntry)(s:GoStatus)(d:Option Dying):mr P D ⟨a.raise vs,cs,s,d,none⟩ ⟨b.raise vs,a7,s,d,none⟩:=by
 cases h with
 |gt h v c=>obtain⟨h1,e⟩:=ZE h v.tomT vs;exact .gt h1 e _ c _ _
 |under h=>exact .under _ h _ _
def gL.AU(h:gL P D a cs b a7)(ds:List Deferred):gL P D {a with defers:=ds} cs {b with defers:=ds} a7:=by
 cases h with
 |gt h v c=>
  refine gL.gt ?_ ?_ c
  .refine h.aC Y Y ?_ λx=>x;rw[h.eq]
  .exact⟨v.tomT.aC Y Y v.items,v.be⟩
 |under h=>exact .under _ h
def mU.data(h:mU P D cs a7):a7.map Frame.asData=cs.map Frame.asData:=by
 induction h with
 |@here a b h v l d=>
  have:b.asData=a.asData:=by rw[h.eq];rfl
  grind
 |there a h c=>grind
theorem mU.enter(h:mU P D cs a7)(l:List Frame):mU P D (l++cs) (l++a7):=by induction l with|nil=>exact h|cons x l a=>exact .there x a
def gL.recover(h:gL P D a cs b a7):(tryRecover a cs=none->tryRecover b a7=none)/\∀v c1,tryRecover a cs=some (v,c1)->∃d,tryRecover b a7=some (v,d)/\gL P D a c1 b d:=by
 cases h with
 |gt h v f=>
  have e:tryRecover b cs=tryRecover a cs:=by rw[h.eq];obtain⟨fn,tmps,todo,defers,mode,kind,ro⟩:=a;cases cs<;>cases kind<;>rfl
  rw[e];exact⟨id,λv1 c1 e=>⟨c1,e,.gt h v ((Sx e).trans f)⟩⟩
 |under h=>obtain⟨h1,i⟩:=anb h a;exact⟨h1,λv1 c1 e=>(i v1 c1 e).imp λc⟨h3,g⟩=>⟨h3,.under _ g⟩⟩
def anc(h:gL P D a cs b a7)(g:Nat)(w:aO):eS P D (early P a cs none g w) (early P b a7 none g w):=by
 have notYet:∀w:aO,eS P D (match w.heap[g]? with|some (.pending c elem)=>.go {frame:=a,callers:=cs,status:=.running,dying:=none} {w with heap:=w.heap.setIfInBounds g (.cells c elem)}| _=>.ended (.stuck "early: the variable does not wait" (a.pos P)) w)
  (match w.heap[g]? with|some (.pending c elem)=>.go {frame:=b,callers:=a7,status:=.running,dying:=none} {w with heap:=w.heap.setIfInBounds g (.cells c elem)}| _=>.ended (.stuck "early: the variable does not wait" (b.pos P)) w):=by
  intro w;split
  .exact .go (h.xE _ _)
  .exact .ended
 have there:∀(f:FuncId)(w:aO)(l:List Frame),eS P D (.go {frame:=Frame.enter P f #[] .early,callers:=l++a::cs,status:=.running,dying:=none} w) (.go {frame:=Frame.enter P f #[] .early,callers:=l++b::a7,status:=.running,dying:=none} w):=λf w l=>.go (.under _ (h.push.enter l) _ _);unfold early;simp only[h.kind];split
 .grind
 split
 .exact .ended
 split
 .grind
 split
 .grind
 split
 .exact .ended
 .grind
 .exact .ended
 .grind
 split
 .grind
 split
 .grind
 split
 .grind
 .grind
 .exact .ended
def ZG{m:String}:eS P D (endFatal P a cs none m w) s:=by unfold endFatal;intro g1 w1 es e hs hd;grind[dieOf]
theorem B8(hF:P.follows .rangeFuncRecover=true)(y:a.mode=.run)(h:gL P D a cs b a7)(s:Sem Next)(w:aO):eS P D (stepG.apply P true a cs none s w) (stepG.apply P true b a7 none s w):=by
 have ht:=h.todo;have c:∀r aC k,a.todo=.extern r aC::k->∃cs0 x,cs=cs0/\a7=x/\a=b/\mU P D cs a7:=by intro r aC k e;cases h with|gt h v o=>have:=v.items y;grind[gX]|under h=>grind
 unfold stepG.apply;rw[ht,h.fn,h.kind];simp only[if_true];rcases hr:s.runT P w #[]with⟨r,es⟩;simp only[];refine eS.after _ ?_;cases r with
 |ok n w1=>
  cases n with
  |value v=>exact .go (h.eI _ _ _)
  |skip=>exact .go (h.eI _ _ _)
  |enter f args=>exact .go (.under _ h.push _ _)
  |callThen d resume saved wrapper=>
   simp only[];split
   .rename_i e;obtain⟨_,_,_,_,rfl,i⟩:=c _ _ _ e;exact .go (.under _ i _ _)
   .exact .go (.under _ h.push _ _)
  |row row args=>
   simp only[];split
   .rename_i e;obtain⟨_,_,_,_,rfl,i⟩:=c _ _ _ e;exact .go (.under _ i _ _)
   .exact .go (.under _ h.push _ _)
  |stack resume saved=>
   have j:(b::a7).toArray.map Frame.asData=(a::cs).toArray.map Frame.asData:=by have:=h.push.data;grind
   simp only[j];split
   .rename_i e;obtain⟨_,_,_,_,rfl,i⟩:=c _ _ _ e;exact .go (.under _ i _ _)
   .exact .go (.under _ h.push _ _)
  |round l f tmps assign body=>exact .go (.under _ h.push _ _)
  |recover=>
   obtain⟨h1,z⟩:=h.recover;simp[h.round,hF];have key:eS P D (match tryRecover a cs with
    |some (v,callers)=>.go {frame:=a.finish v,callers,status:=.running,dying:=none} w1
    |none=>.go {frame:=a.finish .nilIface,callers:=cs,status:=.running,dying:=none} w1)
    (match tryRecover b a7 with
    |some (v,callers)=>.go {frame:=b.finish v,callers,status:=.running,dying:=none} w1
    |none=>.go {frame:=b.finish .nilIface,callers:=a7,status:=.running,dying:=none} w1):=by
    cases c:tryRecover a cs with|none=>rw[h1 c];exact .go (h.eI _ _ _)|some p=>obtain⟨v0,cX⟩:=p;obtain⟨B,A,h0⟩:=z v0 cX c;rw[A];exact .go (h0.eI _ _ _)
   grind
  |sleep t=>exact .ul AA
  |spawn d=>
   simp only[];split<;>split
   all_goals first|exact λg1 w1 es e hs hd=>(by grind[endThrow,dieOf])|exact λ_ _ _ e _ _=>Dv
  | _=>
   first
    |rename_i d
     have q:=(h.AU (d::a.defers)).eI undef .running none;rw[ht,h.fn,h.kind]at q;simp[h.defers];exact .go q
    |intro g1 w1 es e
     cases e
 |halt o w1=>
  cases o with
  |panic v=>exact .go (h.raise _ _ _)
  |goexit=>exact .go (h.raise _ _ _)
  |blocked=>exact .ul AA
  |waiting=>exact .ul AA
  |fatal m=>exact ZG
  |throw m=>exact .ul AA
  |unsupported u=>cases u with
   |initOrder g=>exact anc h g w1
   | _=>exact .ended
  | _=>exact .ended
theorem eL.wanted(h:eL D a b){ops:Array Oper}{o:Oper}(hg:ME D ops o=true):Region.wanted o (yielded ops b.tmps)=Region.wanted o (yielded ops a.tmps):=by
 unfold Region.wanted;cases e:o.guard with
 |none=>rfl
 |some ig=>
  obtain⟨g,want⟩:=ig;have d:yielded ops b.tmps g=yielded ops a.tmps g:=by
   unfold yielded;cases ht:(ops[g]?).bind (·.dst)with
   |none=>rfl
   |some t=>
    have c:D.T t=false:=by grind[ME]
    simp[h.same t c]
  grind
theorem Sy{p:Item->Bool}{id:Nat}:∀{k k':List Item},exitTo id k=some k'->k.all p=true->k'.all p=true
 | [],_,e,_=>Dv
 |x::k,k',e,h=>by
  simp only[List.all_cons,Bool.and_eq_true]at h;cases x with
  |inBlock a=>
   simp only[exitTo]at e;split at e
   .cases e;exact h.2
   .exact Sy e h.2
  | _=>simp only[exitTo]at e;exact Sy e h.2
inductive py{al:Type}:Result al->Prop
 |stuck {m:String} {w:aO}:py (.halt (.stuck m) w)
 |unsupported (u:Unsupported) {w:aO} (h:∀g,u≠ .initOrder g):py (.halt (.unsupported u) w)
theorem py.bind{m:Sem al}{k:al->Sem aJ}(h:py (m.run P w)):py ((m>>= k).run P w):=by rw[mC];generalize m.run P w=r at h;cases h with|stuck=>exact .stuck|unsupported u a=>exact .unsupported u a
def py.next{m:Sem al}{k:al->Sem aJ}(h:py (m.run P w)\/∃a,m.run P w=.ok a w/\py ((k a).run P w)):py ((m>>= k).run P w):=by
 rcases h with h|⟨a,e,h⟩
 .exact h.bind
 simp_all
def anf(t:TypeId)(i:Value)(w:aO):py ((do pure (Next.value (<-Instr.indexAt t undef i)):Sem Next).run P w):=by
 refine py.bind ?_;unfold Instr.indexAt;refine py.next ?_;cases i with
 |int k n=>refine .inr ⟨(k,n),Y,?_⟩;refine py.next ?_;cases b:P.underlying t with|none=>exact .inl (by simp only[underlying,Go.program,Bind.bind,Sem.bind,Sem.run,b];exact .stuck)|some d=>refine .inr ⟨d,by simp_all[underlying,Go.program,Sem.run],?_⟩;cases d<;>exact py.bind .stuck
 |pointer p=>cases p with
  |none=>exact .inl .stuck
  |some a=>exact .inl (.unsupported _ AA)
 | _=>exact .inl .stuck
def ang{ev:Operand->Value}{t:Nat}{c:Call}{at_ ty e:TypeId}(a:c.callee=.builtin .len)(h1:c.args=#[.tmp t])(b:c.argTypes=#[at_])(h:ev (.tmp t)=undef)(g:P.underlying at_=some (.slice e))(w:aO):py ((do let d <-resolve ev c ty;invoke d.target d.args:Sem Next).run P w):=by
 have f:(Go.underlying at_).run P w=.ok (.slice e) w:=by simp_all[underlying,Go.program,Sem.run]
 simp[resolve,invoke,builtin,Builtin.len_,go_sem,a,h1,b,h,f,undef];constructor
theorem anh(hF:P.follows .rangeFuncRecover=true)(g:a.mode=.run)(h:eL D a b)(j:mT P D a){ops:Array Oper}{i:Nat}{rest:List Nat}{k:List Item}(ht:a.todo=.inRegion ops (i::rest)::k){o:Oper}(z:ops[i]?=some o)(B:sf D ops o=true)(cs:List Frame)(A:cs.length=D.d)(w:aO):eS P D (stepG.oper P true a cs none w) (stepG.oper P true b cs none w):=by
 have E:a.oper?=some o:=HW;have ob:b.oper?=some o:=by simp[Frame.oper?,h.todo,ht,z]
 have C:=j.round;have N:b.roundOf=none:=h.roundOf.trans C;unfold stepG.oper;simp[E,ob,C,N];simp[sf]at B;rcases B.2 with(s|l)|hs
 .simp only[hR,Bool.and_eq_true,Bool.not_eq_true']at s;have hd:∀d,o.dst=some d->D.T d=false:=λd e=>by grind[Sv]
  have Q:∀c R,o.op≠ .select c R:=AA;have J:execOp b.eval o=execOp a.eval o:=execOp_congr o Q λx I=>h.eval (Array.all_eq_true_iff_forall_mem.1 s.1.1 x I);rw[J];refine B8 hF g (.gt h ⟨j,λ_ ops' H rest' k' e o' n d m=>?_⟩ A) _ _;grind
 .unfold ZC at l;split at l
  .rename_i t d f M;simp at l;have q:=MH (v:=a.eval (.tmp t)) (u:=b.eval (.tmp t)) h j AA (λ_ ops' H rest' k' e o' n T m=>by
    rw[ht]at e;cases e;rw[z]at n;cases n;rw[M]at m;cases m;exact⟨AA,λ_=>h.MG g l.1⟩)
   have L:execOp a.eval o=pure (.value (a.eval (.tmp t))):=by grind[execOp]
   have O:execOp b.eval o=pure (.value (b.eval (.tmp t))):=by grind[execOp]
   rw[L,O];simp only[stepG.apply,if_true,Sem.runT,pure,h.fn,h.kind];exact .after _ (.go (.gt q.1 q.2 _ A _ _))
  grind
 .have hst:∀w,py ((execOp a.eval o).run P w):=by
   unfold ZB at hs;split at hs
   .rename_i t x f;intro w;simp only[execOp,f,h.MG g hs];exact .stuck
   .rename_i t x y f;intro w;simp only[execOp,f,h.MG g hs];exact anf _ _ _
   .rename_i c f;intro w;simp only[execOp,f];unfold ZA at hs;split at hs
    .rename_i K;split at hs
     .rename_i t ty h1 S;simp at hs;obtain⟨e,p⟩:=j.sl _ hs.2;exact ang K AA AA (h.MG g hs.1) p w
     grind
    grind
   grind
  have:=hst w;simp only[stepG.apply,if_true];rcases hr:(execOp a.eval o).runT P w #[]with⟨r,es⟩;have F:(execOp a.eval o).run P w=r:=by simp_all
  rw[F]at this;cases this with|stuck=>exact eS.AL|unsupported u p=>grind[eS.AL]
def eL.wT(h:eL D a b)(k:List Item):eL D {a with todo:=k} {b with todo:=k}:=h.aC Y Y (by rw[h.eq]) λx=>x
def eL.tB(h:eL D a b){m:FrameMode}(c:m≠ .run):eL D {a with mode:=m} {b with mode:=m}:=h.aC Y Y (by rw[h.eq]) AA
def mT.tB(h:mT P D a){m:FrameMode}(b:m≠ .run):mT P D {a with mode:=m}:=h.aC Y Y AA
def mT.wT(h:mT P D a){k:List Item}(hk:k.all (gX D)=true):mT P D {a with todo:=k}:=h.aC Y Y λ_=>hk
theorem ani(hF:P.follows .rangeFuncRecover=true)(main:Bool)(z:a.mode=.run)(h:eL D a b)(f:mT P D a)(cs:List Frame)(g:cs.length=D.d)(w:aO):eS P D (stepG.exec P main true a cs none w) (stepG.exec P main true b cs none w):=by
 have n:=f.items z;have j:∀k:List Item,k.all (gX D)=true->eS P D (.go {frame:={a with todo:=k},callers:=cs,status:=.running,dying:=none} w) (.go {frame:={b with todo:=k},callers:=cs,status:=.running,dying:=none} w):=λk hk=>.go (.gt (h.wT k) (f.wT hk) _ g _ _);have B:eS P D (.go {frame:={a with mode:=.returning},callers:=cs,status:=.running,dying:=none} w) (.go {frame:={b with mode:=.returning},callers:=cs,status:=.running,dying:=none} w):=.go (.gt (h.tB A_) (f.tB A_) _ g _ _);have ht:=h.todo;have y:=f.round;have A:b.roundOf=none:=h.roundOf.trans y;unfold stepG.exec;rw[ht];rw[ht]at B;cases hk:a.todo with
 |nil=>grind
 |cons x k=>
  rw[hk]at n;simp only[List.all_cons,Bool.and_eq_true]at n;obtain⟨d,m⟩:=n;cases x with
  |code c=>
   have d:oL D c=true:=d;cases c with
   |ret=>grind
   |skip=>grind
   |seq c1 cr=>simp_all[oL,gX]
   |cond c t e=>
    simp[oL]at d;simp[h.eval d.1.1];split
    .rename_i E _;refine j _ ?_;simp only[List.all_cons,gX,Bool.and_eq_true];grind
    .exact .ended
   |block id c=>exact j _ (by simp only[List.all_cons,gX,Bool.and_eq_true];exact⟨d,PA,m⟩)
   |loop c=>exact j _ (by simp only[List.all_cons,gX,Bool.and_eq_true];exact⟨d,d,m⟩)
   |exit id=>simp only[];cases F:exitTo id k with|none=>simp only[Option.elim,y,A];exact .ended|some k'=>grind[Sy]
   |region id ops draw=>
    have C:∀l:List Nat,(Item.inRegion ops l::k).all (gX D)=true:=λl=>by rw[List.all_cons,Bool.and_eq_true];refine⟨?_,m⟩;simp[gX];intro i _;cases s:ops[i]? with|none=>rfl|some o=>exact Array.all_eq_true_iff_forall_mem.1 d o (Array.mem_of_getElem? s)
    cases draw with
    |false=>grind
    |true=>
     simp only[h.fn,Bool.not_true,Bool.false_eq_true,if_false];split
     .rename_i t _ _;have q:mr P D ⟨{a with todo:=_},cs,.running,none,none⟩ ⟨{b with todo:=_},cs,.running,none,none⟩:=.gt (h.wT _) (f.wT (C (Region.schedule (P.follows .mixedOrders) ops t))) cs g .running none;rw[h.fn]at q;exact .go q
     .exact .ended
   | _=>cases d
  |inBlock id=>grind
  |inLoop c=>simp_all[gX]
  |inRegion ops l=>
   cases l with
   |nil=>grind
   |cons i rest=>
    simp only[gX,List.all_cons,Bool.and_eq_true]at d;simp only[];cases s:ops[i]? with
    |none=>simp;obtain⟨p,r⟩:=MH (v:=undef) (u:=undef) h f AA AA;exact .go (.gt p r _ g _ _)
    |some o=>
     have H:sf D ops o=true:=AA;have hg:ME D ops o=true:=by simp_all[sf]
     simp[h.wanted hg];split
     .grind[anh]
     .obtain⟨p,r⟩:=MH (v:=undef) (u:=undef) h f AA AA;exact .go (.gt p r _ g _ _)
  | _=>cases d
theorem FN(d:mU P D cs a7)(main:Bool)(fr:Frame)(v:Value)(w:aO):eS P D (doReturn P main fr cs none v w) (doReturn P main fr a7 none v w):=by
 cases d with
 |there x h=>
  simp[doReturn];split
  .exact .go (.under _ h _ _)
  .exact .go (.under _ h _ _)
  .exact .go (.under _ h _ _)
  .exact .go (.under _ h _ _)
 |@here x y h a l b=>
  have c:=h.mode;simp[doReturn];have eI:eS P D (.go {frame:=x.finish v,callers:=l,status:=.running,dying:=none} w) (.go {frame:=y.finish v,callers:=l,status:=.running,dying:=none} w):=.go ((gL.gt h a b).eI v _ _);split
  .grind
  .grind
  .exact .go (.gt h a.tomT _ b _ _)
  .rw[c];split
   .split
    .exact .go (.gt (h.tB A_) (a.tomT.tB A_) _ b _ _)
    .exact .go (.gt (h.tB A_) (a.tomT.tB A_) _ b _ _)
   .exact .go (.gt h a.tomT _ b _ _)
def ZH(h:gL P D a cs b a7)(d:Deferred)(w:aO):eS P D (callDeferred P a cs none d w) (callDeferred P b a7 none d w):=by
 have xE:=h.xE .running none;unfold callDeferred;rw[h.mode,h.fn];refine eS.ite (λ_=>.ended) (λ_=>?_);rcases hr:(invoke d.target d.args).runT P w #[]with⟨r,es⟩;simp only[];refine eS.after _ ?_;cases r with
 |ok n w1=>
  cases n with
  |enter f args=>exact .go (.under _ h.push _ _)
  |round l f tmps assign body=>exact .go (.under _ h.push _ _)
  |callThen d resume saved wrapper=>exact .go (.under _ h.push _ _)
  |row row args=>exact .go (.under _ h.push _ _)
  |recover=>
   obtain⟨h1,j⟩:=h.recover;simp only[];cases g:tryRecover a cs with
   |none=>rw[h1 g];cases a.mode<;>exact .go xE
   |some p=>
    obtain⟨v0,cX⟩:=p;obtain⟨o,k,h0⟩:=j v0 cX g;rw[k];cases a.mode
    .exact .go xE
    .exact .go (h0.xE _ _)
    .exact .go xE
  |sleep t=>exact .ul AA
  |alone on v=>cases on<;>exact λ_ _ _ e=>Dv
  |timer op=>exact .ended
  |collect=>exact λ_ _ _ e=>Dv
  |watch v=>exact λ_ _ _ e=>Dv
  |coroswitch c ex=>cases ex<;>exact λ_ _ _ e=>Dv
  |newcoro c d=>exact .ended
  |stack r s=>exact .ended
  | _=>exact .go xE
 |halt i w1=>cases i with|panic v=>exact .go (h.raise _ _ _)|goexit=>exact .go (h.raise _ _ _)|blocked=>exact .ul AA|waiting=>exact .ul AA|fatal m=>exact ZG|throw m=>exact .ul AA| _=>exact .ended
theorem ZI{f g:al->Sem aJ}:∀{l:List al},(∀x∈l,f x=g x)->l.mapM f=l.mapM g
 | [],_=>rfl
 |x::l,h=>by rw[List.mapM_cons,List.mapM_cons,h x A_,ZI λy a=>h y (by simp[a])]
def anj(h:eL D a b){fn:Func}(c:fn.results.all (B5 D)=true):results fn b.tmps=results fn a.tmps:=by
 unfold results;congr 1
 rw[Array.mapM_eq_mapM_toList,Array.mapM_eq_mapM_toList];congr 1
 refine ZI λr e=>?_;have d:=Array.all_eq_true_iff_forall_mem.1 c r AA;cases r with|tmp t=>simp[h.getD (show D.T t=false by grind[B5])]|cell x t=>simp[h.getD (show D.T x=false by grind[B5])]
theorem ank(main:Bool)(n:a.mode≠ .run)(h:eL D a b)(f:mT P D a)(cs:List Frame)(e:cs.length=D.d)(w:aO):eS P D (unwind P main a cs none w) (unwind P main b cs none w):=by
 have j:gL P D a cs b cs:=.gt h ⟨f,AA⟩ e;unfold unwind;rw[h.defers];cases hd:a.defers with
 |nil=>
  simp only[h.mode];split
  .grind
  .rename_i chain _;have g:b.catches P=a.catches P:=by rw[h.eq];rfl
   rw[g];split
   .exact .ended
   cases cs with
   |cons c rest=>exact .go (.same _ AA)
   |nil=>
    simp only[];split
    .exact .ul AA
    split
    .exact .ul AA
    .exact .ended
    .exact .ended
  .obtain⟨fn,l,k⟩:=f.FK;simp only[h.fn,l,anj h k];rcases(results fn a.tmps).runT P w #[]with⟨r,es⟩;simp only[];refine eS.after _ ?_;cases r with
   |ok v w1=>
    simp only[doReturn,h.kind,h.fn];cases cs with
    |cons c rest=>simp only[];cases a.kind<;>exact .go (.same _ AA)
    |nil=>
     simp only[];split
     .grind
     .exact .ended
     .rw[f.MF];split
      .exact .ul AA
      .exact .ended
   |halt e w1=>cases e<;>exact .ended
 |cons d ds=>
  obtain⟨i,args⟩:=d;have g:=ZH (j.AU ds) ⟨i,args⟩ w;cases i with
  |collected m=>simp only[h.fn];rcases(Instr.takeDeferred m).runT P w #[]with⟨r,es⟩;simp only[];refine eS.after _ ?_;cases r with|ok calls w1=>have q:=(j.AU (calls++ds)).xE .running none;rw[h.fn]at q;exact .go q|halt e w1=>exact .ended
  | _=>exact g
theorem anl(main:Bool)(c:mU P D cs a7)(w:aO):eS P D (unwind P main a cs none w) (unwind P main a a7 none w):=by
 have g:gL P D a cs a a7:=.under a c;unfold unwind;cases hd:a.defers with
 |nil=>
  simp only[];split
  .exact .ended
  .rename_i chain _;split
   .exact .ended
   cases c with
   |@here x y h f l b=>obtain⟨h1,i⟩:=ZE h f.tomT chain;exact .go (.gt h1 i _ b _ _)
   |there x h=>exact .go (.under _ h _ _)
  .cases P.funcs[a.fn]? with|none=>grind[FN]|some fn=>simp only[];rcases(results fn a.tmps).runT P w #[]with⟨r,es⟩;simp only[];refine eS.after _ ?_;cases r with|ok v w1=>grind[FN]|halt b w1=>cases b<;>exact .ended
 |cons d ds=>
  obtain⟨e,args⟩:=d;have j:=ZH (g.AU ds) ⟨e,args⟩ w;cases e with
  |collected k=>simp only[];rcases(Instr.takeDeferred k).runT P w #[]with⟨r,es⟩;simp only[];refine eS.after _ ?_;cases r with|ok calls w1=>exact .go (.under _ c _ _)|halt b w1=>exact .ended
  | _=>grind
theorem anm(hF:P.follows .rangeFuncRecover=true)(main:Bool)(h:mU P D cs a7)(n:a.mode=.run)(w:aO):eS P D (stepG.exec P main true a cs none w) (stepG.exec P main true a a7 none w):=by
 have q:gL P D a cs a a7:=.under a h;have go:∀(fr:Frame)(w:aO)(es:Array Event),eS P D (.go {frame:=fr,callers:=cs,status:=.running,dying:=none} w es) (.go {frame:=fr,callers:=a7,status:=.running,dying:=none} w es):=λfr w es=>.go (.under _ h _ _);unfold stepG.exec;cases hk:a.todo with
 |nil=>cases m:a.roundOf with|none=>grind|some b=>simp only[];rcases(Instr.endRound b (none)).runT P w #[]with⟨r,es⟩;simp only[];refine eS.after _ ?_;cases r with|ok v w1=>grind[FN]|halt g w1=>exact .ended
 |cons x k=>
  cases x with
  |code c=>
   cases c with
   |ret=>cases m:a.roundOf with|none=>grind|some b=>simp only[];rcases(Instr.endRound b (some .ret)).runT P w #[]with⟨r,es⟩;simp only[];refine eS.after _ ?_;cases r with|ok v w1=>grind[FN]|halt g w1=>exact .ended
   |cond c t e=>
    simp only[];split
    .grind
    .exact .ended
   |exit id=>
    simp only[];cases o:exitTo id k with
    |none=>
     cases m:a.roundOf with
     |none=>simp only[Option.elim];first|exact go _ _ _ |exact .ended
     |some b=>simp only[Option.elim];rcases(Instr.endRound b (some (.exit id))).runT P w #[]with⟨r,es⟩;simp only[];refine eS.after _ ?_;cases r with|ok v w1=>grind[FN]|halt g w1=>exact .ended
    |some k'=>grind
   |goto l=>
    simp only[];cases o:gotoIn l k with
    |none=>
     cases m:a.roundOf with
     |none=>simp only[Option.elim];first|exact go _ _ _ |exact .ended
     |some b=>simp only[Option.elim];rcases(Instr.endRound b (some (.goto l))).runT P w #[]with⟨r,es⟩;simp only[];refine eS.after _ ?_;cases r with|ok v w1=>grind[FN]|halt g w1=>exact .ended
    |some k'=>grind
   |rangeFunc f params assign body=>
    simp only[];rcases(Instr.enterLoop a.fn a.tmps params assign body a.roundOf).runT P w #[]with⟨r,es⟩;simp only[];refine eS.after _ ?_;cases r with
    |ok lm w1=>obtain⟨l,mk⟩:=lm;exact B8 hF (by exact n) (gL.under _ h) _ _
    |halt g w1=>exact .ended
   |refuse p=>exact .ended
   |region id ops draw=>
    cases draw with
    |false=>grind
    |true=>
     simp only[Bool.not_true,Bool.false_eq_true,if_false];split
     .grind
     .exact .ended
   | _=>grind
  |inRegion ops l=>
   cases l with
   |nil=>grind
   |cons i rest=>
    simp only[];split
    .unfold stepG.oper;split
     .exact .ended
     .split
      .grind[B8]
      grind[B8]
    grind
  |inRangeFunc l=>exact .ended
  |beginRound=>grind[B8]
  |endRangeFunc l=>simp only[];rcases(Instr.endLoop l).runT P w #[]with⟨r,es⟩;simp only[];refine eS.after _ ?_;cases r with|ok j w1=>grind|halt g w1=>cases g with|panic v=>grind| _=>exact .ended
  |call d wr rs sv=>grind[B8]
  |extern row args=>simp only[];cases Extern.next row with|none=>exact .ended|some e=>grind[B8]
  | _=>grind
def ann(hF:P.follows .rangeFuncRecover=true)(main:Bool)(h:mr P D g g')(hn:D.d<=g.callers.length)(hd:g.dying=none)(w:aO):eS P D (stepG P main g w) (stepG P main g' w):=by
 cases h with
 |same g c=>omega
 |@gt a b h e cs c s d=>obtain rfl:d=none:=hd;unfold stepG;simp[h.mode];grind[ani,ank]
 |@under a cs a7 f s d=>obtain rfl:d=none:=hd;unfold stepG;grind[anm,anl]
end
def mr.parts{P:cg}{D:fc}(h:mr P D g g'):g'.status=g.status/\g'.dying=g.dying:=by cases h<;>exact⟨Y,Y⟩
def oh.var{P:cg}{D:fc}(hF:P.follows .rangeFuncRecover=true){main:Bool}{K:Nat->Prop}{post:aV->Prop}{base:List Frame}(r:D.d<=base.length){X:aV}(h:oh P main K (Hv base) post X):
 ∀g',mr P D X.g g'->iZ P main K (λg=>∃Y,post Y/\mr P D Y.g g.g/\g.w=Y.w/\g.mine=Y.mine) ⟨g',X.w,X.mine⟩:=by
 induction h with
 |@done X h=>exact λg' hs=>.done ⟨X,h,hs,rfl,rfl⟩
 |@step X inv ok _ p=>
  intro g' hs;obtain⟨fr,cs,hg⟩:=inv;have hstep:∀w' g1 w1 es,stepG P main X.g w'=.go g1 w1 es->g1.status=.running->g1.dying=none->∃c,stepG P main g' w'=.go c w1 es/\mr P D g1 c:=λw' g1 w1 es e h1 q=>ann hF main hs (by rw[hg];simp[aZ];omega) (by rw[hg];rfl) w' g1 w1 es e h1 q;refine .step (λw' b=>?_) (λw' g1 w1 es b e=>?_)
  .obtain⟨g1,w1,es,e,a⟩:=ok w' ⟨b.heap,b.size,b.env⟩;obtain⟨c,f,d⟩:=hstep w' g1 w1 es e a.run a.nI;obtain⟨o,n⟩:=d.parts;exact⟨c,w1,es,f,o.trans a.run,n.trans a.nI,a.kept,a.size,a.os,a.output,a.tape,a.drawn,a.evs⟩
  .have i:jB K X w':=⟨b.heap,b.size,b.env⟩;obtain⟨j,l,m,k,a⟩:=ok w' i;obtain⟨c,f,d⟩:=hstep w' j l m k a.run a.nI;rw[f]at e;cases e;exact p w' j _ _ i k _ d
def mU.lt{P:cg}{D:fc}{l b:List Frame}(h:mU P D l b):D.d<l.length:=by induction h with|here h v l d=>simp;omega|there a h c=>simp;omega
end kZ
namespace cM
open RowKit av
@[simp] theorem ar6 (a:Array Value) (w:aO):Sem.run (ae prog true) (callFunc 6 a) w=.ok (.enter 6 a) w:=cB (a6 (upd:=true) func6 AV) AV a w
@[simp] theorem aFm (a:Array Value) (w:aO):Sem.run (ae prog true) (callFunc 17 a) w=.ok (.enter 17 a) w:=cB (a6 (upd:=true) func17 AV) AV a w
@[simp] theorem aFn (a:Array Value) (w:aO):Sem.run (ae prog true) (callFunc 16 a) w=.ok (.enter 16 a) w:=cB (a6 (upd:=true) func16 AV) AV a w
@[simp] theorem aFo (a:Array Value) (w:aO):Sem.run (ae prog true) (callFunc 15 a) w=.ok (.enter 15 a) w:=cB (a6 (upd:=true) func15 AV) AV a w
@[simp] theorem ar7 (a:Array Value) (w:aO):Sem.run (ae prog true) (callFunc 8 a) w=.ok (.enter 8 a) w:=cB (a6 (upd:=true) func8 AV) AV a w
@[simp] theorem ar8 (a:Array Value) (w:aO):Sem.run (ae prog true) (callFunc 5 a) w=.ok (.enter 5 a) w:=cB (a6 (upd:=true) func5 AV) AV a w
@[simp] theorem ar9 (a:Array Value) (w:aO):Sem.run (ae prog true) (callFunc 7 a) w=.ok (.enter 7 a) w:=cB (a6 (upd:=true) func7 AV) AV a w
@[simp] theorem ar_ (a:Array Value) (w:aO):Sem.run (ae prog true) (callFunc 11 a) w=.ok (.enter 11 a) w:=cB (a6 (upd:=true) func11 AV) AV a w
@[simp] theorem asa (a:Array Value) (w:aO):Sem.run (ae prog true) (callFunc 9 a) w=.ok (.enter 9 a) w:=cB (a6 (upd:=true) func9 AV) AV a w
def cD(c:Int):Prop:= -9223372036854775808<=c/\c<=9223372036854775807
def j8(c n:Int):Int:=(if c<0 then -(c+1)else c) % n
def hQ(c:Int):Bool:=decide (c<0)&&decide (j8 c 3=0)
def fD(c:Int):Int:=if hQ c then 0 else j8 c 2001-1000
def k8(c:Int):Int:=if hQ c then 0 else j8 c 4
def lets:List String:=["","a","b","ab","ba","aa","c","é","A","0"," ","zz","z"]
def jv(c:Int):ByteArray:=if hQ c then "".toUTF8 else(lets[(j8 c 13).toNat]?.getD "").toUTF8
def su(c:Int){n:Int}(hn:0<n):0<=j8 c n/\j8 c n<n:=⟨Int.emod_nonneg _ As,Int.emod_lt_of_pos _ hn⟩
def aFp(c:Int): -1000<=fD c/\fD c<=1000:=by
 unfold fD;split
 .omega
 .have:=su c (n:=2001) As;omega
def aFq(c:Int):0<=k8 c/\k8 c<=3:=by
 unfold k8;split
 .omega
 .have:=su c (n:=4) As;omega
def Jv(c n:Int)(b:cD c)(hn:0<n/\n<=1000000)(w:aO):Calls (ae prog true) 6 #[.int .i64 c,.int .i64 n] w λe w'=>e=.returned (.int .i64 (j8 c n))/\w'=w:=by
 obtain⟨h1,g⟩:=b;obtain⟨h3,f⟩:=hn;have d:=su c h3;go_enter (a6 (upd:=true) func6 AV),ntmps6
 by_cases h:c<0
 .have a: -(c+1).tmod n=j8 c n:=by unfold j8;rw[if_pos h,<-Int.neg_tmod,Int.tmod_eq_emod_of_nonneg As]
  go_wp2
  go_ret
  simp_all
 .have a:c % n=j8 c n:=by simp_all[j8,if_neg]
  go_wp2
  go_ret
  simp_all
def tL(c:Int)(a:cD c)(w:aO):Calls (ae prog true) 17 #[.int .i64 c] w λe w'=>e=.returned (.bool (hQ c))/\w'=w:=by
 go_enter (a6 (upd:=true) func17 AV),ntmps17
 by_cases h:c<0
 .go_wp2_with (refine(Jv c 3 a As _).mono ?_;rintro e w' ⟨rfl,rfl⟩)
  go_ret
  refine⟨?_,Y⟩;unfold hQ;simp[h];rfl
 .go_wp2
  go_ret
  refine⟨?_,Y⟩;unfold hQ;simp[show¬c<0 by omega]
def O5(c:Int)(a:cD c)(w:aO):Calls (ae prog true) 16 #[.int .i64 c] w λe w'=>e=.returned (.int .i64 (fD c))/\w'=w:=by
 go_enter (a6 (upd:=true) func16 AV),ntmps16
 have b:=su c (n:=2001) As;cases hn:hQ c with
 |true=>
  go_wp2_with (refine(tL c a _).mono ?_;rintro e w' ⟨rfl,rfl⟩)
  go_ret
  simp_all[fD]
 |false=>
  go_wp2_with (first|(refine(tL c a _).mono ?_;rintro e w' ⟨rfl,rfl⟩)|(refine(Jv c 2001 a As _).mono ?_;rintro e w' ⟨rfl,rfl⟩))
  go_ret
  simp_all[fD]
def asb(c:Int)(a:cD c)(w:aO):Calls (ae prog true) 15 #[.int .i64 c] w λe w'=>e=.returned (.int .i64 (k8 c))/\w'=w:=by
 go_enter (a6 (upd:=true) func15 AV),ntmps15
 have b:=su c (n:=4) As;cases hn:hQ c with
 |true=>
  go_wp2_with (refine(tL c a _).mono ?_;rintro e w' ⟨rfl,rfl⟩)
  go_ret
  simp_all[k8]
 |false=>
  go_wp2_with (first|(refine(tL c a _).mono ?_;rintro e w' ⟨rfl,rfl⟩)|(refine(Jv c 4 a As _).mono ?_;rintro e w' ⟨rfl,rfl⟩))
  go_ret
  simp_all[k8]
def O4(c:Int)(a:cD c)(w:aO):Calls (ae prog true) 8 #[.int .i64 c] w λe w'=>e=.returned (.string (jv c))/\Below w.heap.size w w':=by
 go_enter (a6 (upd:=true) func8 AV),ntmps8
 cases hn:hQ c with
 |true=>
  go_wp2_with (refine(tL c a _).mono ?_;rintro e w' ⟨rfl,rfl⟩)
  go_ret
  exact⟨by simp[jv,hn];rfl,Below.refl _ _⟩
 |false=>
  obtain⟨k,hk,f⟩:∃k:Nat,k<13/\j8 c 13=(k:Int):=⟨(j8 c 13).toNat,by simp_all[su],by have:=su c (n:=13) As;omega⟩;have b:jv c=(lets[k]?.getD "").toUTF8:=by grind[jv]
  go_wp2_with (first|(refine(tL c a _).mono ?_;rintro e w' ⟨rfl,rfl⟩)|(refine(Jv c 13 a As _).mono ?_;rintro e w' ⟨rfl,rfl⟩))
  go_ret
  refine⟨?_,(Below.refl _ _).alloc J1 _⟩;rw[b];have d:k=0\/k=1\/k=2\/k=3\/k=4\/k=5\/k=6\/k=7\/k=8\/k=9\/k=10\/k=11\/k=12:=As;rcases d with rfl|rfl|rfl|rfl|rfl|rfl|rfl|rfl|rfl|rfl|rfl|rfl|rfl<;>rfl
def asc(k:Int)(w:aO):Calls (ae prog true) 5 #[.int .i64 k] w λe w'=>e=.returned (.agg #[.int .i64 1,.int .i64 k,.int .i64 0,.string ⟨#[]⟩])/\Below w.heap.size w w':=by
 go_enter (a6 (upd:=true) func5 AV),ntmps5
 go_wp2
 refine bodyPost_ret (v:=.agg #[.int .i64 1,.int .i64 k,.int .i64 0,.string ⟨#[]⟩]) (by simp[results,results5,go_sem]) Y ?_;exact⟨Y,(Below.refl _ _).alloc J1 _⟩
def asd(k:Int)(w:aO):Calls (ae prog true) 7 #[.int .i64 k] w λe w'=>e=.returned (.agg #[.int .i64 k,.int .i64 0,.int .i64 0,.string ⟨#[]⟩])/\Below w.heap.size w w':=by
 go_enter (a6 (upd:=true) func7 AV),ntmps7
 go_wp2
 refine bodyPost_ret (v:=.agg #[.int .i64 k,.int .i64 0,.int .i64 0,.string ⟨#[]⟩]) (by simp[results,results7,go_sem]) Y ?_;exact⟨Y,(Below.refl _ _).alloc J1 _⟩
def ase(k:Int)(w:aO):Calls (ae prog true) 11 #[.int .i64 k] w λe w'=>e=.returned (.agg #[.int .i64 1,.int .i64 k,.int .i64 0,.slice none 0 0,.slice none 0 0,.slice none 0 0,.slice none 0 0])/\Below w.heap.size w w':=by
 go_enter (a6 (upd:=true) func11 AV),ntmps11
 go_wp2
 refine bodyPost_ret (v:=.agg #[.int .i64 1,.int .i64 k,.int .i64 0,.slice none 0 0,.slice none 0 0,.slice none 0 0,.slice none 0 0]) (by simp[results,results11,go_sem]) Y ?_;exact⟨Y,(Below.refl _ _).alloc J1 _⟩
def asf(v:Value)(t:List aA)(ht:0<t.length)(w:aO)(f:m8 w v t):Calls (ae prog true) 9 #[.agg #[v]] w λe w'=>e=.returned (.int .i64 (t[0].cp.length:Int))/\Below w.heap.size w w':=by
 obtain⟨p,cap,rfl,m,d⟩:=f;obtain⟨b,off,rfl,bg,vs,q,c,d1,i,h,g,a⟩:=d 0 ht;obtain⟨l,ci,j,k,an,o,rfl,rfl,rfl⟩:=a.shape;have n:b<w.heap.size:=fS c;clear d a c d1 i h;simp at g;go_enter (a6 (upd:=true) func9 AV),ntmps9
 go_wp2
 go_ret
 exact⟨Y,(Below.refl _ _).alloc J1 _⟩
@[simp] theorem axO (a:Array Value) (w:aO):Sem.run (ae prog true) (callFunc 12 a) w=.ok (.enter 12 a) w:=cB (a6 (upd:=true) func12 AV) AV a w
theorem axP(k:Int)(a:Option Addr)(aK ec:Nat)(w:aO):Calls (ae prog true) 12 #[.int .i64 k,.slice a aK ec] w λe w'=>∃b,e=.returned (.agg #[.int .i64 2,.int .i64 k,.int .i64 0,.slice (some ⟨b,0,none⟩) 1 1,.slice none 0 0,.slice none 0 0,.slice none 0 0])/\w'.cell? ⟨b,0,none⟩=some (.slice a aK ec)/\w.heap.size<=b/\Below w.heap.size w w':=by
 go_enter (a6 (upd:=true) func12 AV),ntmps12
 go_wp2
 refine bodyPost_ret (v:=.agg #[.int .i64 2,.int .i64 k,.int .i64 0,.slice (some ⟨w.heap.size+1,0,none⟩) 1 1,.slice none 0 0,.slice none 0 0,.slice none 0 0]) (by simp[results,results12,go_sem]) Y ⟨w.heap.size+1,Y,?_,As,((Below.refl _ w).alloc J1 _).alloc A_ _⟩;simp
end cM
end Go.Proofs.YtncomcmfgmojkaaGreat
