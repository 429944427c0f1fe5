import Derived.Test.YtoehnnefaeoeoaaGreatP01
import Derived.Test.YtoehnnefaeoeoaaGreatProg
import Derived.Deep.Light
import Derived.Deep.RegionHeld3
import Derived.Deep.DrawnRows
import Derived.RangeFuncBound
import Derived.Shelf.RegionOpen
import Derived.OwnWalkIn
import Derived.LoopNIn
import Derived.LoopIn
import Derived.Conc.Beside
import Derived.Deep.RegionLaw
import Derived.Test.YtoehnnefaeoeoaaGreatPAC
set_option linter.all false
set_option maxRecDepth 100000
set_option maxHeartbeats 16000000
namespace Go.Proofs.YtoehnnefaeoeoaaGreat
open Go.Proofs.Tryz
namespace az
section
section
variable (P:Program) (u:Bool)
@[simp] theorem aid:(ai P u).toTables=P.toTables:=rfl
@[simp] theorem Fx (t:TypeId):(ai P u).underlying t=P.underlying t:=rfl
@[simp] theorem aBg:(ai P u).depth=P.depth:=rfl
@[simp] theorem aBh (t:TypeId):(ai P u).stoodInHeld t=P.stoodInHeld t:=(Lo (C:=ei P u) rfl t).symm
@[simp] theorem aBi (n:Nat) (t:TypeId):(ai P u).eqGuardType n t=P.eqGuardType n t:=(WA (C:=ei P u) rfl n t).symm
@[simp] theorem aBj (t:TypeId):(ai P u).cellsOf t=P.cellsOf t:=rfl
@[simp] theorem aBk (t:TypeId):(ai P u).bytesOf t=P.bytesOf t:=rfl
@[simp] theorem Xg (t:TypeId) (w:World):Sem.run (ai P u) (typeInfo t) w=Sem.run P (typeInfo t) w:=by unfold typeInfo;simp only[np,Go.program,Sem.run,aid];cases P.info? t<;>rfl
@[simp] theorem aie (t:TypeId) (w:World):Sem.run (ai P u) (underlying t) w=Sem.run P (underlying t) w:=by unfold underlying;simp only[np,Go.program,Sem.run,Fx];cases P.underlying t<;>rfl
@[simp] theorem aBl (t:TypeId) (w:World):Sem.run (ai P u) (Go.sizeOf t) w=Sem.run P (Go.sizeOf t) w:=by unfold Go.sizeOf;simp only[np,Xg];cases Sem.run P (typeInfo t) w<;>rfl
@[simp] theorem aBm (t:TypeId) (w:World):Sem.run (ai P u) (zeroValue t) w=Sem.run P (zeroValue t) w:=by unfold zeroValue;simp only[np,Xg];cases Sem.run P (typeInfo t) w with|ok i w1=>simp only[];cases i.zero<;>rfl|halt h w1=>rfl
@[simp] theorem aBn (t:TypeId) (w:World):Sem.run (ai P u) (isAgg t) w=Sem.run P (isAgg t) w:=by unfold isAgg;simp only[np,aie];cases Sem.run P (underlying t) w with|ok i w1=>cases i<;>rfl|halt h w1=>rfl
end
theorem c8{P:Program}{u:Bool}{f:FuncId}{fn:Func}(h:(ai P u).funcs[f]?=some fn)(b:i6 P u fn=true)(args:Array Value)(w:World):Sem.run (ai P u) (callFunc f args) w=.ok (.enter f args) w:=by
 unfold callFunc;simp only[i6,Bool.and_eq_true,bne_iff_ne]at b;have d:(fn.name== "runtime.NumGoroutine")=false:=AU;have a:fn.body.isNone=false:=by cases a:fn.body with|none=>grind|some c=>rfl
 simp only[np,Go.program,Sem.run,h,d,a];rfl
end
end az
namespace cA
open RowKit az
@[simp] theorem aBp (a:Array Value) (w:World):Sem.run (ai prog true) (callFunc 98 a) w=.ok (.enter 98 a) w:=c8 (bl (upd:=true) func98 AS) AS a w
@[simp] theorem aBq (a:Array Value) (w:World):Sem.run (ai prog true) (callFunc 64 a) w=.ok (.enter 64 a) w:=c8 (bl (upd:=true) func64 AS) AS a w
@[simp] theorem aBr (a:Array Value) (w:World):Sem.run (ai prog true) (callFunc 103 a) w=.ok (.enter 103 a) w:=c8 (bl (upd:=true) func103 AS) AS a w
@[simp] theorem aBs (a:Array Value) (w:World):Sem.run (ai prog true) (callFunc 138 a) w=.ok (.enter 138 a) w:=c8 (bl (upd:=true) func138 AS) AS a w
@[simp] theorem aBt (a:Array Value) (w:World):Sem.run (ai prog true) (callFunc 102 a) w=.ok (.enter 102 a) w:=c8 (bl (upd:=true) func102 AS) AS a w
@[simp] theorem aBu (a:Array Value) (w:World):Sem.run (ai prog true) (callFunc 99 a) w=.ok (.enter 99 a) w:=c8 (bl (upd:=true) func99 AS) AS a w
@[simp] theorem aBv (a:Array Value) (w:World):Sem.run (ai prog true) (callFunc 141 a) w=.ok (.enter 141 a) w:=c8 (bl (upd:=true) func141 AS) AS a w
@[simp] theorem aBw (a:Array Value) (w:World):Sem.run (ai prog true) (callFunc 66 a) w=.ok (.enter 66 a) w:=c8 (bl (upd:=true) func66 AS) AS a w
@[simp] theorem aBx (a:Array Value) (w:World):Sem.run (ai prog true) (callFunc 121 a) w=.ok (.enter 121 a) w:=c8 (bl (upd:=true) func121 AS) AS a w
@[simp] theorem aBy (a:Array Value) (w:World):Sem.run (ai prog true) (callFunc 122 a) w=.ok (.enter 122 a) w:=c8 (bl (upd:=true) func122 AS) AS a w
@[simp] theorem aBz (a:Array Value) (w:World):Sem.run (ai prog true) (callFunc 123 a) w=.ok (.enter 123 a) w:=c8 (bl (upd:=true) func123 AS) AS a w
@[simp] theorem aBA (a:Array Value) (w:World):Sem.run (ai prog true) (callFunc 100 a) w=.ok (.enter 100 a) w:=c8 (bl (upd:=true) func100 AS) AS a w
@[simp] theorem aBB (a:Array Value) (w:World):Sem.run (ai prog true) (callFunc 65 a) w=.ok (.enter 65 a) w:=c8 (bl (upd:=true) func65 AS) AS a w
@[simp] theorem aBC (a:Array Value) (w:World):Sem.run (ai prog true) (callFunc 61 a) w=.ok (.enter 61 a) w:=c8 (bl (upd:=true) func61 AS) AS a w
@[simp] theorem aBD (a:Array Value) (w:World):Sem.run (ai prog true) (callFunc 60 a) w=.ok (.enter 60 a) w:=c8 (bl (upd:=true) func60 AS) AS a w
@[simp] theorem aBE (a:Array Value) (w:World):Sem.run (ai prog true) (callFunc 62 a) w=.ok (.enter 62 a) w:=c8 (bl (upd:=true) func62 AS) AS a w
@[simp] theorem aBF (a:Array Value) (w:World):Sem.run (ai prog true) (callFunc 40 a) w=.ok (.enter 40 a) w:=c8 (bl (upd:=true) func40 AS) AS a w
@[simp] theorem aBG (a:Array Value) (w:World):Sem.run (ai prog true) (callFunc 32 a) w=.ok (.enter 32 a) w:=c8 (bl (upd:=true) func32 AS) AS a w
@[simp] theorem aBH (a:Array Value) (w:World):Sem.run (ai prog true) (callFunc 23 a) w=.ok (.enter 23 a) w:=c8 (bl (upd:=true) func23 AS) AS a w
@[simp] theorem aBI (a:Array Value) (w:World):Sem.run (ai prog true) (callFunc 43 a) w=.ok (.enter 43 a) w:=c8 (bl (upd:=true) func43 AS) AS a w
@[simp] theorem aBJ (a:Array Value) (w:World):Sem.run (ai prog true) (callFunc 63 a) w=.ok (.enter 63 a) w:=c8 (bl (upd:=true) func63 AS) AS a w
@[simp] theorem aBK (a:Array Value) (w:World):Sem.run (ai prog true) (callFunc 42 a) w=.ok (.enter 42 a) w:=c8 (bl (upd:=true) func42 AS) AS a w
@[simp] theorem aBL (a:Array Value) (w:World):Sem.run (ai prog true) (callFunc 41 a) w=.ok (.enter 41 a) w:=c8 (bl (upd:=true) func41 AS) AS a w
@[simp] theorem aBM (a:Array Value) (w:World):Sem.run (ai prog true) (callFunc 33 a) w=.ok (.enter 33 a) w:=c8 (bl (upd:=true) func33 AS) AS a w
@[simp] theorem aBN (a:Array Value) (w:World):Sem.run (ai prog true) (callFunc 35 a) w=.ok (.enter 35 a) w:=c8 (bl (upd:=true) func35 AS) AS a w
@[simp] theorem aBO (a:Array Value) (w:World):Sem.run (ai prog true) (callFunc 45 a) w=.ok (.enter 45 a) w:=c8 (bl (upd:=true) func45 AS) AS a w
@[simp] theorem aBP (a:Array Value) (w:World):Sem.run (ai prog true) (callFunc 34 a) w=.ok (.enter 34 a) w:=c8 (bl (upd:=true) func34 AS) AS a w
@[simp] theorem aBQ (a:Array Value) (w:World):Sem.run (ai prog true) (callFunc 24 a) w=.ok (.enter 24 a) w:=c8 (bl (upd:=true) func24 AS) AS a w
@[simp] theorem aBR (a:Array Value) (w:World):Sem.run (ai prog true) (callFunc 25 a) w=.ok (.enter 25 a) w:=c8 (bl (upd:=true) func25 AS) AS a w
@[simp] theorem aij (a:Array Value) (w:World):Sem.run (ai prog true) (callFunc 18 a) w=.ok (.enter 18 a) w:=c8 (bl (upd:=true) func18 AS) AS a w
@[simp] theorem aik (a:Array Value) (w:World):Sem.run (ai prog true) (callFunc 17 a) w=.ok (.enter 17 a) w:=c8 (bl (upd:=true) func17 AS) AS a w
theorem LG:uJ (ai prog true) 80 115 (.agg #[.int .i64 0,.int .i64 0]) 2 16:=⟨Bp,BB,AW,AW⟩
theorem ail:uJ (ai prog true) 65 80 (.slice none 0 0) 1 24:=⟨Bp,BB,AW,AW⟩
theorem LH:uJ (ai prog true) 46 4 (.bool false) 1 1:=⟨Bp,BB,AW,AW⟩
theorem Xp:uJ (ai prog true) 44 2 (.int .i64 0) 1 8:=⟨Bp,BB,AW,AW⟩
theorem Xq:uJ (ai prog true) 45 9 (.string ByteArray.empty) 1 16:=⟨Bp,BB,AW,AW⟩
theorem aim:uJ (ai prog true) 25 48 (.agg #[.int .i64 0,.int .i64 0,.slice none 0 0,.slice none 0 0,.slice none 0 0]) 5 88:=⟨Bp,BB,AW,AW⟩
def nu(s:Int):Bool:=decide (0<=s)&&decide (s<=6)
def n5(t:Int×Int):Bool:=t.1==1||t.1==2
theorem Xr(a:Int)(w:World):
 Calls (ai prog true) 98 #[.int .i64 a] w fun e w'=>e=.returned (.bool (nu a))/\w'=w:=by
 unfold nu;go_enter (bl (upd:=true) func98 AS),ntmps98
 go_wp2
 all_goals(go_ret;refine⟨?_,rfl⟩;simp[*]<;>omega)
theorem ain(a b c:Int)(w:World):
 Calls (ai prog true) 64 #[.int .i64 a,.int .i64 b,.int .i64 c] w fun e w'=>e=.returned (.bool (decide (b<=a)&&decide (a<=c)))/\w'=w:=by
 go_enter (bl (upd:=true) func64 AS),ntmps64
 go_wp2
 all_goals(go_ret;refine⟨?_,rfl⟩;simp[*]<;>omega)
theorem LI(t:Int×Int)(w:World):
 Calls (ai prog true) 103 #[eo t] w fun e w'=>e=.returned (.bool (n5 t))/\Below w.heap.size w w':=by
 obtain⟨k,s⟩:=t;unfold n5;go_enter (bl (upd:=true) func103 AS),ntmps103
 go_wp2
 all_goals(go_ret;refine⟨?_,(Below.refl _ _).alloc AU _⟩;simp[*])
theorem Xs(s:Int)(w:World):
 Calls (ai prog true) 138 #[.int .i64 s] w fun e w'=>e=.returned (.tuple #[eo (2,s),.bool (nu s)])/\Below w.heap.size w w':=by
 go_enter (bl (upd:=true) func138 AS),ntmps138
 go_wp2_with (go_at_call 98;refine(Xr _ _).mono ?_;rintro e w' ⟨rfl,rfl⟩)
 exact bodyPost_ret (v:=.tuple #[eo (2,s),.bool (nu s)]) (by simp[results,results138,go_sem]) rfl ⟨rfl,(Below.refl _ _).alloc AU _⟩
theorem aio(w:World):
 Calls (ai prog true) 102 #[] w fun e w'=>e=.returned (eo (1,0))/\Below w.heap.size w w':=by
 go_enter (bl (upd:=true) func102 AS),ntmps102
 go_wp2
 exact bodyPost_ret (v:=eo (1,0)) (by simp[results,results102,go_sem]) rfl ⟨rfl,(Below.refl _ _).alloc AU _⟩
def H7(t:Int×Int):Bool:=if t.1=1\/t.1=3 then t.2==0 else if t.1=2 then nu t.2 else false
theorem aip(t:Int×Int)(w:World):
 Calls (ai prog true) 61 #[eo t] w fun e w'=>e=.returned (.bool (H7 t))/\Below w.heap.size w w':=by
 obtain⟨k,s⟩:=t;go_enter (bl (upd:=true) func61 AS),ntmps61
 go_wp2_with (go_at_call 98;refine(Xr _ _).mono ?_;rintro e w' ⟨rfl,rfl⟩)
 all_goals(go_ret;refine⟨?_,(Below.refl _ _).alloc AU _⟩;go_light;simp_all[H7])
theorem Xt(k s:Int)(bQ vs a:Value)(w:World):
 Calls (ai prog true) 60 #[.agg #[.int .i64 k,.int .i64 s,bQ,vs,a]] w fun e w'=>e=.returned (eo (k,s))/\Below w.heap.size w w':=by
 go_enter (bl (upd:=true) func60 AS),ntmps60
 go_wp2
 exact bodyPost_ret (v:=eo (k,s)) (by simp[results,results60,go_sem]) rfl ⟨rfl,((Below.refl _ _).alloc AU _).alloc Aa _⟩
def operands(op:Int):Int×Bool:=
 if op=1\/op=2\/op=3\/op=4 then(0,true)else if op=8\/op=14\/op=15 then(1,true)
 else if op=5\/op=6\/op=7\/op=9\/op=10\/op=11\/op=12\/op=13 then(2,true)else(0,false)
theorem aiq(op:Int)(w:World):
 Calls (ai prog true) 99 #[.int .i64 op] w fun e w'=>e=.returned (.tuple #[.int .i64 (operands op).1,.bool (operands op).2])/\w'=w:=by
 go_enter (bl (upd:=true) func99 AS),ntmps99
 go_wp2
 all_goals(go_ret2;refine⟨?_,rfl⟩;go_light;simp_all[operands])
def vP(l r:Int×Int):(Int×Int)×Bool:=
 if n5 l&&n5 r then(if l.1=1/\r.1=1 then((1,0),true)else((2,wrap64 (l.2+r.2)),nu (wrap64 (l.2+r.2))))else((0,0),false)
theorem air(l r:Int×Int)(w:World):
 Calls (ai prog true) 141 #[eo l,eo r] w fun e w'=>e=.returned (.tuple #[eo (vP l r).1,.bool (vP l r).2])/\Below w.heap.size w w':=by
 obtain⟨lk,aU⟩:=l;obtain⟨b,rs⟩:=r;go_enter (bl (upd:=true) func141 AS),ntmps141
 go_wp2_with fail
 refine(LI (lk,aU) _).mono ?_;rintro e w1 ⟨rfl,k⟩;have p:Below w.heap.size w w1:=Below.step k ((((Below.refl _ _).alloc Aa _).alloc Aa _).alloc DF _) DF;obtain⟨c,z,B⟩:=after (w.heap.size+1+1+1) k Aa;clear k;by_cases hl:n5 (lk,aU)=true
 ·go_wp2_with fail
  refine(LI (b,rs) _).mono ?_;rintro e s ⟨rfl,m⟩;have j:Below w.heap.size w s:=Below.step m p Ay;obtain⟨f,y,A⟩:=after (w.heap.size+1+1+1) m Ay;clear m;by_cases h:n5 (b,rs)=true
  ·by_cases i:lk=1/\b=1
   ·obtain⟨rfl,rfl⟩:=i;go_wp2_with fail
    refine(aio _).mono ?_;rintro e d ⟨rfl,a⟩;have g:Below w.heap.size w d:=Below.step a j Ay;obtain⟨o,x,n⟩:=after (w.heap.size+1+1+1) a Ay;go_wp2_with fail
    exact bodyPost_ret (v:=.tuple #[eo (1,0),.bool true]) (by simp[results,results141,go_sem,o,f,c]) rfl ⟨by simp[vP,hl,h],(g.setCell AU _).setCell AU _⟩
   ·have q:vP (lk,aU) (b,rs)=((2,wrap64 (aU+rs)),nu (wrap64 (aU+rs))):=by unfold vP;rw[if_pos (by simp[hl,h]),if_neg i]
    have t:Hid _:=q;clear q;by_cases u:lk=1;all_goals
     simp[u]at i;go_wp2_with fail
     refine(Xs _ _).mono ?_;rintro e d ⟨rfl,a⟩;have g:Below w.heap.size w d:=Below.step a j Ay;obtain⟨o,x,n⟩:=after (w.heap.size+1+1+1) a Ay;go_wp2_with fail
     exact bodyPost_ret (v:=.tuple #[eo (2,wrap64 (aU+rs)),.bool (nu (wrap64 (aU+rs)))]) (by simp[results,results141,go_sem,o,f,c]) rfl ⟨by rw[t.out],(g.setCell AU _).setCell AU _⟩
  ·go_wp2_with fail
   exact bodyPost_ret (v:=.tuple #[eo (0,0),.bool false]) (by simp[results,results141,go_sem,f,c]) rfl ⟨by simp[vP,hl,h],(j.setCell AU _).setCell AU _⟩
 ·go_wp2_with fail
  exact bodyPost_ret (v:=.tuple #[eo (0,0),.bool false]) (by simp[results,results141,go_sem,c]) rfl ⟨by simp[vP,hl],(p.setCell AU _).setCell AU _⟩
def qk(bw:List (Int×Int))(p:Int):(Int×Int)×Bool:=
 if 0<=p/\p<bw.length then(bw.getD p.toNat (0,0),true)else((0,0),false)
theorem ait(bw:List (Int×Int))(v:Value)(p:Int)(w:World)(i:fh w v bw):
 Calls (ai prog true) 66 #[v,.int .i64 p] w fun e w'=>e=.returned (.tuple #[eo (qk bw p).1,.bool (qk bw p).2])/\Below w.heap.size w w':=by
 obtain⟨m,cap,rfl,hl,k⟩:=i;by_cases h:0<=p/\p<bw.length
 ·have a:Hid (qk bw p=(bw.getD p.toNat (0,0),true)):=by unfold Hid qk;rw[if_pos h]
  obtain⟨d,j⟩:=h;obtain⟨q,rfl⟩:=Int.eq_ofNat_of_zero_le d;have c:q<bw.length:=Ay;obtain⟨b,off,rfl,f,n⟩:=k q c;simp at f;have l:=gX f;go_enter (bl (upd:=true) func66 AS),ntmps66
  go_wp2
  exact bodyPost_ret (v:=.tuple #[eo (bw[q]),.bool true]) HN rfl ⟨by rw[a.out];simp[c],(Below.refl _ _).alloc AU _⟩
 ·have a:Hid (qk bw p=((0,0),false)):=by unfold Hid qk;rw[if_neg h]
  by_cases d:p<0
  ·go_enter (bl (upd:=true) func66 AS),ntmps66
   go_wp2
   exact bodyPost_ret (v:=.tuple #[eo (0,0),.bool false]) HN rfl ⟨by rw[a.out],(Below.refl _ _).alloc AU _⟩
  ·have g:0<=p:=by omega
   have j:(bw.length:Int)<=p:=Ay;obtain⟨q,rfl⟩:=Int.eq_ofNat_of_zero_le g;have c:bw.length<=q:=Ay;clear h d;go_enter (bl (upd:=true) func66 AS),ntmps66
   go_wp2
   exact bodyPost_ret (v:=.tuple #[eo (0,0),.bool false]) HN rfl ⟨by rw[a.out],(Below.refl _ _).alloc AU _⟩
section
attribute [local go_sem ↓] Go.wp_at_zero Go.wp_at_succ
theorem Qt(a b c d:Int)(w:World):(binOp .eql 115 (.agg #[.int .i64 a,.int .i64 b]) (.agg #[.int .i64 c,.int .i64 d])).run (ai prog true) w=.ok (.bool ((a,b)==(c,d))) w:=by
 by_cases f:a=c<;>by_cases e:b=d
 all_goals go_simp
 all_goals simp[f,e]
theorem Qu(a b c d:Int)(w:World):(binOp .neq 115 (.agg #[.int .i64 a,.int .i64 b]) (.agg #[.int .i64 c,.int .i64 d])).run (ai prog true) w=.ok (.bool ((a,b) != (c,d))) w:=by
 by_cases f:a=c<;>by_cases e:b=d
 all_goals go_simp
 all_goals simp[f,e,bne]
attribute [local go_sem ↓] Qt Qu
attribute [local go_sem ↓] Go.wp_at_zero Go.wp_at_succ
abbrev uL(t:cd):Value:=.agg #[.int .i64 t.op,.int .i64 t.a,.int .i64 t.v,.string t.s]
theorem aiw(a v:Int)(s:ByteArray)(bw:List (Int×Int))(b:Value)(w:World)(f:fh w b bw):
 Calls (ai prog true) 121 #[.agg #[.int .i64 1,.int .i64 a,.int .i64 v,.string s],b] w fun e w'=>e=.returned (.tuple #[eo (qk bw a).1,.bool (qk bw a).2])/\Below w.heap.size w w':=by
 go_enter (bl (upd:=true) func121 AS),ntmps121
 go_wp2_with fail
 refine(ait bw b a _ (f.mono s3 (((bC.refl _).alloc _).alloc _))).mono ?_;rintro e w1 ⟨rfl,c⟩;have g:Below w.heap.size w w1:=Below.step c (((Below.refl _ _).alloc Aa _).alloc Aa _) DF;obtain⟨d,h,i⟩:=after (w.heap.size+1+1) c Aa;go_wp2_with fail
 exact bodyPost_ret (v:=.tuple #[eo (qk bw a).1,.bool (qk bw a).2]) (by simp[results,results121,go_sem,d]) rfl ⟨rfl,(g.setCell Aa _).setCell Aa _⟩
attribute [local go_sem ↓] Go.wp_at_zero Go.wp_at_succ
attribute [local go_sem ↓] Qt Qu
theorem aix(a v:Int)(s:ByteArray)(o:Int×Int)(w:World):
 Calls (ai prog true) 122 #[.agg #[.int .i64 8,.int .i64 a,.int .i64 v,.string s],eo o] w fun e w'=>e=.returned (.tuple #[eo (2,a),.bool (nu a&&n5 o)])/\Below w.heap.size w w':=by
 obtain⟨ok,os⟩:=o;go_enter (bl (upd:=true) func122 AS),ntmps122
 go_wp2_with fail
 refine(Xs _ _).mono ?_;rintro e w1 ⟨rfl,b⟩;have i:Below w.heap.size w w1:=Below.step b ((((Below.refl _ _).alloc Aa _).alloc Aa _).alloc DF _) DF;have g:af w1 (w.heap.size+1) _ _:=af.call (af.alloc (by simpa using af.new (w.alloc _) _ _) _) b;have d:af w1 (w.heap.size+1+1) _ _:=af.call (by simpa using af.new ((w.alloc _).alloc _) _ _) b;have x:w.heap.size+1+1+1<=w1.heap.size:=by simpa using b.size
 obtain⟨q,p,r⟩:=g.all;obtain⟨l,u,k⟩:=d.all;clear b;by_cases h:nu a=true
 ·go_wp2_with fail
  go_region_held3 (fun W=>W.cell? ⟨w.heap.size+1,0,none⟩=some (.int .i64 ok)/\W.cell? ⟨w.heap.size+1,1,none⟩=some (.int .i64 os)/\W.cell? ⟨w1.heap.size,0,none⟩=some (.int .i64 2)/\W.cell? ⟨w1.heap.size,1,none⟩=some (.int .i64 a))
   ((go_split_ands;refine⟨?_,?_,?_,?_⟩<;>first|(exact(bC.cW c) _ _ _ DR)|(exact yg (yg DR Ay) Ay)|(go_keep;done)))
   (first|(go_at_call 103;refine(LI (ok,os) _).mono ?_;rintro e j ⟨rfl,c⟩;obtain⟨f,t⟩:=((d.alloc _).drew.call c).bT))
  have m:Below w.heap.size w j:=Below.step c (i.alloc Ay _).drew DF;have n:=(d.alloc _).drew.call c;go_wp2_with fail
  exact bodyPost_ret (v:=.tuple #[eo (2,a),.bool (nu a&&n5 (ok,os))]) (by simp[results,results122,go_sem,f,h]) rfl ⟨rfl,(m.setCell AU _).setCell AU _⟩
 ·have hd:nu a=false:=by grind
  clear h;go_wp2_with fail
  go_region
  go_wp2_with fail
  exact bodyPost_ret (v:=.tuple #[eo (2,a),.bool (nu a&&n5 (ok,os))]) (by simp[results,results122,go_sem,l,k,hd]) rfl ⟨rfl,(((i.setCell AU _).setCell AU _).alloc Bu _).drew⟩
attribute [local go_sem ↓] Go.wp_at_zero Go.wp_at_succ
attribute [local go_sem ↓] Qt Qu
theorem Xu(w:World)(lk aU a rs:Int):
 af (((w.alloc (.cells #[.int .i64 lk,.int .i64 aU] 115)).alloc (.cells #[.int .i64 a,.int .i64 rs] 115)).alloc (.cells #[.int .i64 0,.int .i64 0] 115)) (w.heap.size+1+1) #[.int .i64 0,.int .i64 0] 115/\
 Below w.heap.size w (((w.alloc (.cells #[.int .i64 lk,.int .i64 aU] 115)).alloc (.cells #[.int .i64 a,.int .i64 rs] 115)).alloc (.cells #[.int .i64 0,.int .i64 0] 115)):=by
 refine⟨?_,(((Below.refl _ _).alloc Aa _).alloc Aa _).alloc DF _⟩;have:=af.new ((w.alloc (.cells #[.int .i64 lk,.int .i64 aU] 115)).alloc (.cells #[.int .i64 a,.int .i64 rs] 115)) #[.int .i64 0,.int .i64 0] 115;simp_all
theorem aiA(op:Int)(b:op=5\/op=6)(l r:Int×Int)(w:World):
 Calls (ai prog true) 123 #[.int .i64 op,eo l,eo r] w fun e w'=>e=.returned (.tuple #[eo l,.bool (l==r&&n5 l)])/\Below w.heap.size w w':=by
 obtain⟨lk,aU⟩:=l;obtain⟨a,rs⟩:=r;obtain⟨d,k⟩:=Xu w lk aU a rs;by_cases g:((lk,aU)==(a,rs))=true
 ·rcases b with rfl|rfl;all_goals
   go_enter (bl (upd:=true) func123 AS),ntmps123
   go_wp2_with fail
   go_region_held3 (fun W=>W.cell? ⟨w.heap.size,0,none⟩=some (.int .i64 lk)/\W.cell? ⟨w.heap.size,1,none⟩=some (.int .i64 aU)/\W.cell? ⟨w.heap.size+1,0,none⟩=some (.int .i64 a)/\W.cell? ⟨w.heap.size+1,1,none⟩=some (.int .i64 rs))
    ((go_split_ands;refine⟨?_,?_,?_,?_⟩<;>first|(exact(bC.cW c) _ _ _ DR)|(exact yg (yg DR Ay) Ay)|(go_keep;done)))
    (first|(go_at_call 103;refine(LI (lk,aU) _).mono ?_;rintro e w1 ⟨rfl,c⟩;have h:=d.drew.call c;obtain⟨f,n,i⟩:=h.all))
   have m:Below w.heap.size w w1:=Below.step c k.drew DF;go_wp2_with fail
   exact bodyPost_ret (v:=.tuple #[eo (lk,aU),.bool ((lk,aU)==(a,rs)&&n5 (lk,aU))]) (by simp[results,results123,go_sem,f,g]) rfl ⟨rfl,(m.setCell AU _).setCell AU _⟩
 ·have j:((lk,aU)==(a,rs))=false:=by grind
  clear g;obtain⟨f,n,i⟩:=d.all;rcases b with rfl|rfl;all_goals
   go_enter (bl (upd:=true) func123 AS),ntmps123
   go_wp2_with fail
   go_region
   go_wp2_with fail
   exact bodyPost_ret (v:=.tuple #[eo (lk,aU),.bool ((lk,aU)==(a,rs)&&n5 (lk,aU))]) (by simp[results,results123,go_sem,j]) rfl ⟨rfl,((((Below.refl _ _).alloc Aa _).alloc Aa _).alloc DF _).drew⟩
theorem aiB(l r:Int×Int)(w:World):
 Calls (ai prog true) 123 #[.int .i64 7,eo l,eo r] w fun e w'=>e=.returned (.tuple #[eo (vP l r).1,.bool (vP l r).2])/\Below w.heap.size w w':=by
 obtain⟨lk,aU⟩:=l;obtain⟨a,rs⟩:=r;obtain⟨c,d⟩:=Xu w lk aU a rs;go_enter (bl (upd:=true) func123 AS),ntmps123
 go_wp2_with fail
 refine(air (lk,aU) (a,rs) _).mono ?_;rintro e w1 ⟨rfl,b⟩;have g:Below w.heap.size w w1:=Below.step b d DF;obtain⟨f,i,h⟩:=(c.call b).all;go_wp2_with fail
 exact bodyPost_ret (v:=.tuple #[eo (vP (lk,aU) (a,rs)).1,.bool (vP (lk,aU) (a,rs)).2]) (by simp[results,results123,go_sem,f]) rfl ⟨rfl,(g.setCell AU _).setCell AU _⟩
end
section
attribute [local go_sem ↓] Go.wp_at_zero Go.wp_at_succ
def Met(op:Int):Prop:=op=1\/op=5\/op=6\/op=7\/op=8
def AQ(op:Int)(l r:Int×Int):(Int×Int)×Bool:=if op=7 then vP l r else(l,l==r&&n5 l)
def CJ(t:cd)(a2 bw:List (Int×Int)):(Int×Int)×Bool:=
 match a2 with
 | []=>qk bw t.a
 | [o]=>((2,t.a),nu t.a&&n5 o)
 |l::r::_=>AQ t.op l r
theorem aiC(op:Int)(h:op=5\/op=6\/op=7)(l r:Int×Int)(w:World):
 Calls (ai prog true) 123 #[.int .i64 op,eo l,eo r] w fun e w'=>e=.returned (.tuple #[eo (AQ op l r).1,.bool (AQ op l r).2])/\Below w.heap.size w w':=by
 unfold AQ;by_cases a:op=7
 ·grind[aiB]
 simp_all[aiA]
theorem aiD(t:cd)(h:t.op=1)(bw:List (Int×Int))(a:Value)(w:World)(b:fh w a bw):
 Calls (ai prog true) 121 #[uL t,a] w fun e w'=>e=.returned (.tuple #[eo (qk bw t.a).1,.bool (qk bw t.a).2])/\Below w.heap.size w w':=by
 grind[aiw]
theorem aiE(t:cd)(h:t.op=8)(o:Int×Int)(w:World):
 Calls (ai prog true) 122 #[uL t,eo o] w fun e w'=>e=.returned (.tuple #[eo (2,t.a),.bool (nu t.a&&n5 o)])/\Below w.heap.size w w':=by
 grind[aix]
attribute [local go_sem ↓] Go.wp_at_zero Go.wp_at_succ
theorem Qv(w:World)(t:cd):
 af ((w.alloc (.cells #[.int .i64 t.op,.int .i64 t.a,.int .i64 t.v,.string t.s] 30)).alloc (.cells #[.int .i64 0,.int .i64 0] 115)) (w.heap.size+1) #[.int .i64 0,.int .i64 0] 115/\
 Below w.heap.size w ((w.alloc (.cells #[.int .i64 t.op,.int .i64 t.a,.int .i64 t.v,.string t.s] 30)).alloc (.cells #[.int .i64 0,.int .i64 0] 115)):=by
 refine⟨?_,((Below.refl _ _).alloc Aa _).alloc Aa _⟩;have:=af.new (w.alloc (.cells #[.int .i64 t.op,.int .i64 t.a,.int .i64 t.v,.string t.s] 30)) #[.int .i64 0,.int .i64 0] 115;simp_all
theorem aiF(t:cd)(c:t.op=1)(bw:List (Int×Int))(k:Option Addr)(ct:Nat)(a:Value)(w:World)(i:fh w a bw):
 Calls (ai prog true) 100 #[uL t,.slice k 0 ct,a] w fun e w'=>e=.returned (.tuple #[eo (qk bw t.a).1,.bool (qk bw t.a).2])/\Below w.heap.size w w':=by
 have l:Hid _:=c;clear c;obtain⟨f,b⟩:=Qv w t;have g:=i.mono s3 (bC.cW b);go_enter (bl (upd:=true) func100 AS),ntmps100
 go_wp2_with fail
 refine(aiD t l.out bw a _ g).mono ?_;rintro e w1 ⟨rfl,d⟩;have j:Below w.heap.size w w1:=Below.step d b DF;obtain⟨h,n,m⟩:=(f.call d).all;go_wp2_with fail
 exact bodyPost_ret (v:=.tuple #[eo (qk bw t.a).1,.bool (qk bw t.a).2]) (by simp[results,results100,go_sem,h]) rfl ⟨rfl,(j.setCell Aa _).setCell Aa _⟩
theorem aiG(t:cd)(c:t.op=8)(o:Int×Int)(b off ct:Nat)(j:Value)(w:World)(h0:w.cell? ⟨b,off,none⟩=some (.int .i64 o.1))(n:w.cell? ⟨b,off+1,none⟩=some (.int .i64 o.2)):
 Calls (ai prog true) 100 #[uL t,.slice (some ⟨b,off,none⟩) 1 ct,j] w fun e w'=>e=.returned (.tuple #[eo (((2,t.a),nu t.a&&n5 o)).1,.bool (((2,t.a),nu t.a&&n5 o)).2])/\Below w.heap.size w w':=by
 have k:Hid _:=c;clear c;obtain⟨f,g⟩:=Qv w t;obtain⟨ok,os⟩:=o;have m:=gX h0;go_enter (bl (upd:=true) func100 AS),ntmps100
 go_wp2_with fail
 go_region_held3 (fun W=>W.cell? ⟨w.heap.size,0,none⟩=some (.int .i64 t.op)/\W.cell? ⟨w.heap.size,1,none⟩=some (.int .i64 t.a)/\W.cell? ⟨w.heap.size,2,none⟩=some (.int .i64 t.v)/\W.cell? ⟨w.heap.size,3,none⟩=some (.string t.s)/\W.cell? ⟨b,off,none⟩=some (.int .i64 ok)/\W.cell? ⟨b,off+1,none⟩=some (.int .i64 os))
  ((go_split_ands;refine⟨?_,?_,?_,?_,?_,?_⟩<;>first|(exact(bC.cW a) _ _ _ DR)|(exact yg (yg DR Ay) Ay)|(go_keep;done)))
  (first|(go_at_call 122;refine(aiE t k.out (ok,os) _).mono ?_;rintro e w1 ⟨rfl,a⟩;have d:=f.drew.call a;obtain⟨h,p,l⟩:=d.all))
 have i:Below w.heap.size w w1:=Below.step a g.drew DF;go_wp2_with fail
 exact bodyPost_ret (v:=.tuple #[eo (((2,t.a),nu t.a&&n5 (ok,os))).1,.bool (((2,t.a),nu t.a&&n5 (ok,os))).2]) (by simp[results,results100,go_sem,h]) rfl ⟨rfl,(i.setCell Aa _).setCell Aa _⟩
theorem aiH(t:cd)(d:t.op=5\/t.op=6\/t.op=7)(l r:Int×Int)(b off ct:Nat)(k:Value)(w:World)(h0:w.cell? ⟨b,off,none⟩=some (.int .i64 l.1))(q:w.cell? ⟨b,off+1,none⟩=some (.int .i64 l.2))(p:w.cell? ⟨b,off+2,none⟩=some (.int .i64 r.1))(o:w.cell? ⟨b,off+2+1,none⟩=some (.int .i64 r.2)):
 Calls (ai prog true) 100 #[uL t,.slice (some ⟨b,off,none⟩) 2 ct,k] w fun e w'=>e=.returned (.tuple #[eo (AQ t.op l r).1,.bool (AQ t.op l r).2])/\Below w.heap.size w w':=by
 obtain⟨g,h⟩:=Qv w t;obtain⟨lk,aU⟩:=l;obtain⟨a,rs⟩:=r;have n:=gX h0;go_enter (bl (upd:=true) func100 AS),ntmps100
 go_wp2_with fail
 go_region_held3 (fun W=>W.cell? ⟨w.heap.size,0,none⟩=some (.int .i64 t.op)/\W.cell? ⟨b,off,none⟩=some (.int .i64 lk)/\W.cell? ⟨b,off+1,none⟩=some (.int .i64 aU)/\W.cell? ⟨b,off+2,none⟩=some (.int .i64 a)/\W.cell? ⟨b,off+2+1,none⟩=some (.int .i64 rs))
  ((go_split_ands;refine⟨?_,?_,?_,?_,?_⟩<;>first|(exact(bC.cW c) _ _ _ DR)|(exact yg (yg DR Ay) Ay)|(go_keep;done)))
  (first|(go_at_call 123;refine(aiC t.op d (lk,aU) (a,rs) _).mono ?_;rintro e w1 ⟨rfl,c⟩;have f:=g.drew.call c;obtain⟨i,s,m⟩:=f.all))
 have j:Below w.heap.size w w1:=Below.step c h.drew DF;go_wp2_with fail
 exact bodyPost_ret (v:=.tuple #[eo (AQ t.op (lk,aU) (a,rs)).1,.bool (AQ t.op (lk,aU) (a,rs)).2]) (by simp[results,results100,go_sem,i]) rfl ⟨rfl,(j.setCell Aa _).setCell Aa _⟩
end
end cA
namespace b_
open RowKit Shelf az
variable {W W':World}
section
attribute [local go_sem] Oper.semAt_some
theorem ajF:(ai prog false).funcs[(111:Nat)]?=some f111:=bl (upd:=false) func111 AS
def Typed(n₀:Nat)(e t:TypeId)(W W':World):Prop:=∀(b:Nat)(c:Array Value)(u:TypeId)(z:Nat×Nat),W.heap[b]?=some (Obj.cells c u z)->(b<n₀\/u≠e/\u≠t)->W'.heap[b]?=some (Obj.cells c u z)
theorem Typed.keep{n₀:Nat}{e t:TypeId}(h:ko W W'):Typed n₀ e t W W':=fun b c u z x _=>h.cells b c u z x
theorem ajG{w1:World}{n₀ B:Nat}{t e:TypeId}{size:Nat}{v:Value}(a:Value){k:Nat}{xs:List Value}{tmp:Obj}(d:Boxed W B t v)(j:W.ownsRow n₀ e size v k xs)(l:(W.alloc tmp).grownBy w1 v.ownBlock)(p:n₀<=B):
 Typed n₀ e t W (w1.setCell ⟨B,0,none⟩ a):=by
 intro b c u z x q;have n:b≠B:=by rintro rfl;rw[show W.heap[b]?=_ from d]at x;grind
 have f:=n9 x;have i:some b≠v.ownBlock:=by
  rcases j.2 with⟨rfl,_⟩|⟨g,cap,bp,rfl,r,m,_⟩
  ·simp[Value.ownBlock]
  ·intro h;simp[Value.ownBlock]at h;grind
 have o:=l.block b Bu i;simp_all[Below.heap_alloc,World.setCell,Array.getElem?_modify,Ne.symm]
structure L5(n₀:Nat)(Row:Nat->World->Value->Prop):Prop where
 shape:∀t W x,Row t W x->∃p pl pc q jj kZ,x=.agg #[.slice p pl pc,.slice q jj kZ]
 keep:∀t W W' x,Row t W x->Typed n₀ 78 68 W W'->Row t W' x
def two(xs:List (Value×Value)):List Value:=xs.flatMap fun p=>[p.1,p.2]
theorem X4(xs:List (Value×Value)):(two xs).length=xs.length*2:=by induction xs with|nil=>rfl|cons a l b=>grind[two]
theorem ajH(xs:List (Value×Value))(p:Value×Value):two (xs++[p])=two xs++[p.1,p.2]:=by simp[two]
structure FN(Row:Nat->World->Value->Prop)(n₀ t:Nat)(v:Value)(W:World):Prop where
 own:∃xs:List (Value×Value),xs.length=t/\W.ownsRow n₀ 78 2 v t (two xs)/\∀j(h:j<xs.length),Row j W (.agg #[xs[j].1,xs[j].2])
theorem X5:(prog.info? 78).map (fun i=>(i.zero,i.size,i.bytes))=some (some (.agg #[.slice none 0 0,.slice none 0 0]),2,48):=by kernel_rfl
theorem FN.X6{Row:Nat->World->Value->Prop}{n₀ t:Nat}(l:L5 n₀ Row){v:Value}(h:FN Row n₀ t v W)(a:ko W W'):FN Row n₀ t v W':=by obtain⟨xs,e,b,d⟩:=h;refine⟨xs,e,⟨b.1,b.2.imp_right ?_⟩,fun j c=>l.keep _ _ _ _ (d j c) (.keep a)⟩;rintro⟨g,cap,bp,a1,k,i,f⟩;exact⟨g,cap,bp,a1,k,a.cells _ _ _ _ i,f⟩
theorem L6{l:Nat}{d:Option (List Deferred)}{o:Obj}(h:W.heap[l]?=some (.deferred d)):ko W (W.putObj l o):=
 ⟨Aa,fun b c e z x=>by
  grind[World.putObj_heap_other]⟩
def xh(p:Prop):Prop:=p
theorem yn{p:Prop}(h:xh p):p:=h
theorem X7{Row:Nat->World->Value->Prop}{gf:Nat}{lb:Array Value}{N:Nat}(cj:N<=300)(w:World)(f:L5 w.heap.size Row)(AJ:∀args w,(callFunc gf args).run (ai prog false) w=.ok (.enter gf args) w)
 (J:FM 2 (ai prog false) gf lb Row N w.heap.size w):
 Calls (ai prog false) 111 #[.func (.func gf) #[] lb] w fun e w'=>∃v,e=.returned v/\FN Row w.heap.size N v w'/\Below w.heap.size w w':=by
 refine(callsIn_wide (n:=3)).1 ?_;refine callsIn_of_wp_marks ajF rfl trivial ?_;simp[Array.replicate_succ];gi_wp2
 have O:Boxed (w.alloc (.cells #[.slice none 0 0] 68)) w.heap.size 68 (.slice none 0 0):=Boxed.new w _ _;refine X3 (n:=3) (gf:=gf) (lb:=lb) (w0:=w) (n₀:=w.heap.size) (N:=N) (Row:=Row) rfl AJ J ((Below.refl _ w).alloc Jr _) Aa (fun _=>False) AU
  (fun t W=>∃v,Boxed W w.heap.size 68 v/\FN Row w.heap.size t v W)
  (fun t W W' h i _=>by
   obtain⟨v,y,s⟩:=h;exact⟨v,i.cells _ _ _ _ y,s.X6 f i⟩)
  ⟨_,O,⟨[],rfl,World.ownsRow_nil _ _ _ _,AU⟩⟩
  (fun t x a' W=>∃c p pl pc q b a,W.heap[c]?=some (Obj.cells #[.slice p pl pc,.slice q b a] 78 (0,0))/\x=.agg #[.slice p pl pc,.slice q b a]/\Row t W x/\∃z,a'={tmps:=#[.func (.func gf) #[] lb,undef,.slice none 0 0,.pointer (some ⟨w.heap.size,0,none⟩),.pointer (some ⟨c,0,none⟩),.func (.func gf) #[] lb,z,undef,undef,undef,undef,undef,undef,undef,undef],defers:=[]})
  (fun t x a' W W' h i _=>by
   obtain⟨c,p,pl,pc,q,b,a,y,s,T,S⟩:=h;exact⟨c,p,pl,pc,q,b,a,i.cells _ _ _ _ y,s,f.keep _ _ _ _ T (.keep i),S⟩)
  ?assign ?body ?done
 case assign=>
  rintro l t x W K- -d hK;obtain⟨p,pl,pc,q,b,a,rfl⟩:=f.shape _ _ _ d;gi_wp2
  have F:Below W.heap.size W (W.alloc (.cells #[.slice p pl pc,.slice q b a] 78)):=(Below.refl _ W).alloc Jr _;exact hK _ _ F ⟨W.heap.size,p,pl,pc,q,b,a,World.alloc_heap_new W _,rfl,f.keep _ _ _ _ d (.keep (.below F)),_,rfl⟩
 case body=>
  rintro l t x a' W ⟨v,g,⟨xs,ly,d,vV⟩⟩ R ⟨c,p,pl,pc,q,b,a,A,rfl,Q,z,rfl⟩ M;obtain⟨P,hi,Y,Z,X⟩:=info_parts X5;have m:=g.cell;have I:W.cell? ⟨c,0,none⟩=some (.slice p pl pc):=by simp[World.cell?,A]
  have U:W.cell? ⟨c,1,none⟩=some (.slice q b a):=by simp[World.cell?,A]
  gi_wp2_with (gi_at_builtin;apply yn)
  unfold xh;refine wpListIn_append_own _ rfl _ _ 68 rfl w.heap.size 78 P _ 2 48 ((Fx _ _ _).trans underlying68) hi Y Z X rfl AW v t (two xs) rfl (d.alloc _) ⟨W.heap.size,0,none⟩ 1 1 [.slice p pl pc,.slice q b a] rfl rfl ?cel ?one (by unfold maxLen;omega) Ay Bu ?_
  case cel=>
   have nZ:=World.alloc_heap_new W (.cells #[.slice p pl pc,.slice q b a] 78);intro j u k;rcases j with _ | _ |j
   ·simp at k;subst k;show World.cell? _ ⟨W.heap.size,0,none⟩=_;simp_all
   ·simp at k;subst k;show World.cell? _ ⟨W.heap.size,1,none⟩=_;simp_all
   grind
  case one=>
   intro u E;simp at E;rcases E with rfl|rfl<;>rfl
  intro v' w1 o C _;obtain⟨g',cap',rfl⟩:=ownsRow_succ o;obtain⟨r,L,X8,hB,bY⟩:=g.appended AW d M Jr o C;have D:=ajG (.slice (some ⟨g',0,none⟩) (t+1) cap') g d C Jr;have kI:=r.cell;have w_:=r.frozen;have FO:¬(300:Int)<(t:Int)+1:=Ay;clear o C d g m I U A r;gi_wp2
  refine⟨_,L,⟨xs++[(.slice p pl pc,.slice q b a)],AU,?_,fun j k=>?_⟩⟩
  ·grind[ajH]
  ·by_cases H:j<xs.length
   ·rw[List.getElem_append_left H];exact f.keep _ _ _ _ (vV j H) D
   ·have B:j=xs.length:=by grind
    subst B;simp;rw[ly];exact f.keep _ _ _ _ Q D
 case done=>
  rintro W ⟨v,g,hl⟩ V hK;have m:=g.cell;gi_wp2
  refine⟨Aa,.inl ⟨_,_,rfl,run_takeDeferred hK,?_⟩⟩;refine⟨_,results_tmp rfl _ _ _,v,rfl,hl.X6 f (L6 hK),?_⟩;exact(((Below.refl _ w).alloc Jr _).trans V).trans (zD _ Aa)
end
structure bU where
 fj:Bool
 cb:Int
 cE:Int
 text:ByteArray
abbrev ib(d:bU):Value:=.agg #[.bool d.fj,.int .i64 d.cb,.int .i64 d.cE,.string d.text]
def hR:ByteArray:=⟨#[]⟩
def g3:bU:=⟨true,0,0,hR⟩
def QU(_:World)(rd:Nat->Option Value)(d:bU):Prop:=
 rd 0=some (.bool d.fj)/\rd 1=some (.int .i64 d.cb)/\rd 2=some (.int .i64 d.cE)/\rd 3=some (.string d.text)/\d.text.size<=9223372036854775807
abbrev k0(w:World):=bd w 4 QU
def mW(c:br)(i:Nat):bU:=
 if c.fY.getD i false then g3 else if c.kind=3 then⟨false,0,0,c.hQ.getD i hR⟩else⟨false,c.jP.getD i 0,c.cE,hR⟩
theorem X9:(ai prog false).funcs[(186:Nat)]?=some f186:=bl (upd:=false) func186 AS
@[simp] theorem aCw (args:Array Value) (w:World):Sem.run (ai prog false) (callFunc 186 args) w=.ok (.enter 186 args) w:=c8 X9 AS args w
theorem L9:(ai prog false).funcs[(209:Nat)]?=some f209:=bl (upd:=false) func209 AS
@[simp] theorem aCx (args:Array Value) (w:World):Sem.run (ai prog false) (callFunc 209 args) w=.ok (.enter 209 args) w:=c8 L9 AS args w
theorem vW(w:World):Calls (ai prog false) 186 #[] w fun e w'=>e=.returned (ib g3)/\w'=w.alloc (.cells #[.bool true,.int .i64 0,.int .i64 0,.string ⟨#[]⟩] 95):=by
 go_enter X9,ntmps186
 go_wp2
 exact bodyPost_ret (v:=ib g3) (by simp[results,results186,go_sem,g3,hR]) rfl ⟨rfl,rfl⟩
theorem ajJ(c:br)(i:Nat){bQ vs n:Value}(w:World)(h:w6 w bQ vs n c)(s:i<c.fY.length)(k:c.kind=3->i<c.hQ.length)(hi:c.kind≠3->i<c.jP.length):
 Calls (ai prog false) 209 #[.agg #[.int .i64 c.kind,.int .i64 c.cE,bQ,vs,n],.int .i64 i] w fun e w'=>e=.returned (ib (mW c i))/\Below w.heap.size w w':=by
 obtain⟨B,ci,rfl,-,b⟩:=h.jP;obtain⟨A,z,rfl,-,es⟩:=h.hQ;obtain⟨an,C,rfl,-,m⟩:=h.fY;obtain⟨p,on,rfl,o⟩:=m i s;have j:w.cell? ⟨p,on+i,none⟩=some (.bool c.fY[i]):=by simp_all[AN]
 have x:=gX j;clear o m;cases l:c.fY[i]with
 |true=>
  have a:mW c i=g3:=by grind[mW]
  rw[a];rw[l]at j;clear b es h a;go_enter L9,ntmps209
  go_wp2_with (go_at_call 186;refine(vW _).mono ?_;rintro e w' ⟨rfl,rfl⟩)
  exact bodyPost_ret (v:=ib g3) (by simp[results,results209,go_sem,g3,hR]) rfl ⟨rfl,(((Below.refl _ w).alloc Jr _).alloc Aa _).alloc Bu _⟩
 |false=>
  rw[l]at j;by_cases d:c.kind=3
  ·obtain⟨bs,os,rfl,q⟩:=es i (k d);have E:=k d;have a:mW c i=⟨false,0,0,c.hQ[i]⟩:=by grind[mW]
   rw[a];have g:w.cell? ⟨bs,os+i,none⟩=some (.string c.hQ[i]):=by simp_all[CH]
   have D:=gX g;clear b es h a q;go_enter L9,ntmps209
   go_wp2
   exact bodyPost_ret (v:=ib ⟨false,0,0,c.hQ[i]⟩) (by simp[results,results209,go_sem]) rfl ⟨rfl,((Below.refl _ w).alloc Jr _).alloc Aa _⟩
  ·obtain⟨bi,r,rfl,u⟩:=b i (hi d);have y:=hi d;have a:mW c i=⟨false,c.jP[i],c.cE,hR⟩:=by grind[mW]
   rw[a];have f:w.cell? ⟨bi,r+i,none⟩=some (.int .i64 c.jP[i]):=by simp_all[w5]
   have t:=gX f;clear b es h a u;go_enter L9,ntmps209
   go_wp2
   go_region
   go_wp2
   exact bodyPost_ret (v:=ib ⟨false,c.jP[i],c.cE,hR⟩) (by simp[results,results209,go_sem,hR]) rfl ⟨rfl,(((Below.refl _ w).alloc Jr _).alloc Aa _).drew⟩
theorem Q2:uJ (ai prog false) 76 95 (.agg #[.bool false,.int .i64 0,.int .i64 0,.string ⟨#[]⟩]) 4 40:=⟨(Fx _ _ _).trans underlying76,BB,AW,AW⟩
theorem Yk:(ai prog false).funcs[(208:Nat)]?=some f208:=bl (upd:=false) func208 AS
@[simp] theorem aCG (args:Array Value) (w:World):Sem.run (ai prog false) (callFunc 208 args) w=.ok (.enter 208 args) w:=c8 Yk AS args w
def uY(cs:Array Value)(l:List bU)(k:Nat):Prop:=∀j(h:j<l.length),j<k->cs[j*4]?=some (.bool l[j].fj)/\cs[j*4+1]?=some (.int .i64 l[j].cb)/\cs[j*4+2]?=some (.int .i64 l[j].cE)/\cs[j*4+3]?=some (.string l[j].text)
abbrev Ma(cs:Array Value)(k:Nat)(d:bU):Array Value:=(((cs.setIfInBounds (k*4) (.bool d.fj)).setIfInBounds (k*4+1) (.int .i64 d.cb)).setIfInBounds (k*4+2) (.int .i64 d.cE)).setIfInBounds (k*4+3) (.string d.text)
theorem uY.step{cs:Array Value}{l:List bU}{k:Nat}(h:uY cs l k)(c:k<l.length)(b:cs.size=l.length*4):uY (Ma cs k l[k]) l (k+1):=by
 intro j a d;by_cases e:j=k
 ·subst e;grind
 ·have:=h j a Ay;simp only[Ma,Array.getElem?_setIfInBounds];grind
theorem k0.LR{w:World}{b:Nat}{cs:Array Value}{T:TypeId}{l:List bU}(h:af w b cs T)(hl:l.length<=9223372036854775807)(ht:∀d∈l,d.text.size<=9223372036854775807)(a:uY cs l l.length)(cap:Nat):k0 w (.slice (some ⟨b,0,none⟩) l.length cap) l:=by
 refine⟨_,cap,rfl,hl,fun i hi=>⟨b,0,rfl,?_,?_,?_,?_,AU⟩⟩
 ·simp;rw[h.bT.1];exact(a i hi hi).1
 ·simp;rw[h.bT.1];exact(a i hi hi).2.1
 ·simp;rw[h.bT.1];exact(a i hi hi).2.2.1
 ·simp;rw[h.bT.1];exact(a i hi hi).2.2.2
structure xk(i:Nat)(c:br):Prop where
 fY:i<c.fY.length
 hQ:c.kind=3->i<c.hQ.length
 jP:c.kind≠3->i<c.jP.length
 text:∀s∈c.hQ,s.size<=9223372036854775807
theorem xk.small{i:Nat}{c:br}(h:xk i c):(mW c i).text.size<=9223372036854775807:=by
 unfold mW;split
 ·decide
 ·split
  ·rename_i a;have:=h.hQ a;simp[this];exact h.text _ AU
  ·show hR.size<=_;decide
theorem ajW(t:List br)(v:Value)(i:Nat)(w:World)(J:lV w v t)(K:t.length<=1000000)(dF:∀c∈t,xk i c):
 Calls (ai prog false) 208 #[.agg #[v],.int .i64 i] w fun e w'=>∃b cs,e=.returned (.slice (some ⟨b,0,none⟩) t.length t.length)/\af w' b cs 95/\cs.size=t.length*4/\uY cs (t.map (mW · i)) t.length/\w.heap.size<=b/\Below w.heap.size w w':=by
 obtain⟨S,cap,rfl,hl,D⟩:=J;have ly:(t.map (mW · i)).length=t.length:=Aa;go_enter Yk,ntmps208
 go_wp2_with (at_make;refine LP Q2 _ rfl _ _ rfl _ _ t.length rfl rfl Ay Ay ?_;intro w1 bp R o p;have B:=(af.new w #[.slice S t.length cap] 113).call p;obtain⟨Ih,V,U⟩:=B.all)
 have A:Below w.heap.size w w1:=Below.step p ((Below.refl _ _).alloc Aa _) Aa;have F:af w1 (w.heap.size+1) bp 95:=Bp;have H:Hid (af w1 (w.heap.size+1) bp 95):=F;have Q:Hid (Below w.heap.size w w1):=A;clear R F p A B;go_loopw [17] (fun n W=>∃(k:Nat)(cs:Array Value),k<=t.length/\n=.int .i64 k/\af W (w.heap.size+1) cs 95/\cs.size=t.length*4/\uY cs (t.map (mW · i)) k/\Below w.heap.size w W)
  (fun i _=>t.length-(intOf i).toNat)
 case atStart=>exact⟨0,bp,Nat.zero_le _,rfl,H.out,o,fun j _ hj=>AU,Q.out⟩
 case round=>
  obtain⟨k,cs,Z,rfl,y,u,x,E⟩:=hrel;have z:Hid (af wr (w.heap.size+1) cs 95):=y;have s:Hid (uY cs (t.map (mW · i)) k):=x;have l:Hid (Below w.heap.size w wr):=E;have d:Hid _:=u;have LU:Hid _:=o;clear y x E u o;by_cases h:k<t.length
  ·obtain⟨b,off,rfl,bQ,vs,bo,dw,d1,gV,fS,gJ,m⟩:=D k h;simp at dw;have f:=bC.cW l.out;have C:=f _ _ _ dw;have P:=f _ _ _ d1;have O:=f _ _ _ gV;have N:=f _ _ _ fS;have M:=f _ _ _ gJ;have gK:=gX C;obtain⟨fi,ci,gY,gZ,an,bN,rfl,rfl,rfl⟩:=m.shape;have HC:Hid (w6 wr _ _ _ t[k]):=m.mono f;have r:=dF _ (List.getElem_mem h);clear f dw d1 gV fS gJ m D dF;have Y:(0:Int)<=(k:Int):=Ay;have X:(k:Int)<(t.length:Int):=Ay;go_wp2_with fail
   refine(ajJ t[k] i _ (HC.out.mono (bC.cW ((Below.refl _ wr).alloc Jr _))) r.fY r.hQ r.jP).mono ?_;rintro e g ⟨rfl,q⟩;have a:=(z.out.alloc _).call q;have T:Hid (af g (w.heap.size+1) cs 95):=a;have I:Hid (Below w.heap.size w g):=Below.step q (l.out.alloc (by have:=l.out.size;omega) _) (by have:=l.out.size;simp;omega);have QJ:g.cell? ⟨w.heap.size+1,k*4,none⟩=some (cs[k*4]'Hy):=by rw[a.bT.1];simp
   have QK:g.cell? ⟨w.heap.size+1,k*4+1,none⟩=some (cs[k*4+1]'Hy):=by rw[a.bT.1];simp
   have Yi:g.cell? ⟨w.heap.size+1,k*4+2,none⟩=some (cs[k*4+2]'Hy):=by rw[a.bT.1];simp
   have Yj:g.cell? ⟨w.heap.size+1,k*4+3,none⟩=some (cs[k*4+3]'Hy):=by rw[a.bT.1];simp
   have QL:=a.bT.2;clear a q C P O N M;go_wp2_with fail
   go_roundw
   case rel=>
    refine⟨k+1,Ma cs k (mW t[k] i),Ay,by go_num,(((T.out.set _ _).set _ _).set _ _).set _ _,by simp;exact d.out,?_,(((I.out.setCell Aa _).setCell Aa _).setCell Aa _).setCell Aa _⟩;have:=s.out.step AU (by rw[ly];exact d.out);grind
   case measure=>simp[intOf];omega
  ·have L:k=t.length:=by omega
   go_wp2_with fail
   go_ret
   exact⟨_,_,rfl,z.out,d.out,by rw[<-L];exact s.out,Ay,l.out⟩
theorem Yl:(ai prog false).funcs[(207:Nat)]?=some f207:=bl (upd:=false) func207 AS
def Mb(place:List Int)(vals:List bU)(W:World)(x:Value):Prop:=
 ∃mo bv jA cs,x=.agg #[.slice (some ⟨mo,0,none⟩) place.length place.length,.slice (some ⟨bv,0,none⟩) vals.length vals.length]/\af W mo jA 3/\jA.toList=place.map (Value.int .i64)/\af W bv cs 95/\cs.size=vals.length*4/\uY cs vals vals.length
theorem ajY(n₀:Nat)(pl:Nat->List Int)(vs:Nat->List bU):L5 n₀ (fun t=>Mb (pl t) (vs t)):=by
 refine⟨fun t W x h=>?_,fun t W W' x h c=>?_⟩
 ·obtain⟨a,bv,b,cs,rfl,-⟩:=h;grind
 ·obtain⟨a,bv,b,cs,rfl,g,f,e,d⟩:=h;exact⟨a,bv,b,cs,rfl,c _ _ _ _ g AU,f,c _ _ _ _ e AU,d⟩
theorem ajZ{n:Nat}(t:List br)(v:Value)(fr aL:Nat)(w0:World)(I:lV w0 v t)(q:t.length<=1000000)(V:fr<=aL)(ys:aL<=1000000)(dF:∀i,i<aL->∀c∈t,xk i c)(H N bs:Nat)
 (u:w0.cell? ⟨H,0,none⟩=some (.int .i64 fr)) (ht:w0.cell? ⟨N,0,none⟩=some (.int .i64 aL)) (r:w0.cell? ⟨bs,0,none⟩=some v):
 FM n (ai prog false) 207 #[.pointer (some ⟨H,0,none⟩),.pointer (some ⟨N,0,none⟩),.pointer (some ⟨bs,0,none⟩)] (fun k=>Mb [((fr+k:Nat):Int)] (t.map (mW · (fr+k)))) (aL-fr) w0.heap.size w0:=by
 intro l S J W a B T E h0;have F:=QM B T;clear T B;have m:=bC.cW a;have z:=m _ _ _ u;obtain⟨bL,cap,rfl,-,-⟩:=id I;refine callsIn_of_wp Yl rfl trivial ?_ rfl;simp[Array.replicate_succ];gi_wp2
 gi_loopw [5] (fun p wr=>∃i:Nat,fr<=i/\i<=aL/\p=.int .i64 (i:Int)/\J (i-fr) wr/\Below w0.heap.size w0 wr/\Below w0.heap.size W wr) (fun p _=>aL-(intOf p).toNat)
 case atStart=>exact⟨fr,Nat.le_refl _,V,rfl,AU,a,Below.refl _ _⟩
 case round=>
  obtain⟨i,ql,s7,rfl,K,w,M⟩:=hrel;have d:=bC.cW w;have A3:=d _ _ _ ht;have Y:=d _ _ _ r;have A1:=gX Y;have U:Hid (lV wr _ t):=I.mono se d;have y:Hid (J (i-fr) wr):=K;have g:Hid (Below w0.heap.size w0 wr):=w;have C:Hid (Below w0.heap.size W wr):=M;clear K w M d;by_cases s:i<aL
  ·have FD:(i:Int)<(aL:Int):=by omega
   have L:=dF i s;clear u ht r z h0 a m dF;gi_wp2
   have j:Below wr.heap.size wr (wr.alloc (.cells #[.int .i64 (i:Int)] 3)):=(Below.refl _ wr).alloc Jr _;refine⟨trivial,fun h=>Dn,(callsIn_wide.2 (ajW t _ i _ (U.out.mono se (bC.cW j)) q L)).mono ?_⟩;rintro e f ⟨b,cs,rfl,P,cI,CZ,X,x⟩;have o:Hid (Below wr.heap.size wr f):=Below.step x j Aa;have R:=F _ _ _ y.out o.out;have A:fr+(i-fr)=i:=Ay;have O:Mb [((fr+(i-fr):Nat):Int)] (t.map (mW · (fr+(i-fr)))) f (.agg #[.slice (some ⟨wr.heap.size,0,none⟩) 1 1,.slice (some ⟨b,0,none⟩) t.length t.length]):=by rw[A];refine⟨wr.heap.size,b,#[.int .i64 (i:Int)],cs,Aa,(af.new wr _ _).call x,rfl,P,AU,AU⟩
   obtain⟨fn,tmps,assign,body,Z,Q⟩:=E (i-fr) _ f R Ay O;clear P cI CZ X x O R E F j A L;gi_wp2
   refine⟨fun h=>Dn,Q.mono ?_⟩;rintro e tP ⟨rfl,C0,D⟩;clear Q Z;gi_wp2
   go_roundw
   case rel=>exact⟨i+1,Ay,Ay,Aa,AU,g.out.trans ((o.out.mono g.out.size).trans D),C.out.trans ((o.out.mono g.out.size).trans D)⟩
   case measure=>simp[intOf];omega
  ·have FD:¬(i:Int)<(aL:Int):=by omega
   clear u ht r z h0 a m dF;gi_wp2
   go_end0
   have e:aL=i:=Ay;subst e;exact⟨⟨_,rfl⟩,y.out,C.out⟩
end b_
namespace az
def vg(ρ:ay)(w w':World):Prop:=∀a a' v,dC ρ a a'->w.cell? a=some v->∃v',w'.cell? a'=some v'/\aA ρ v v'
variable {w w':World}
theorem eN.cw{C:cU}{S:Sync}{ρ:ay}(h:eN C S ρ w w'):vg ρ w w':=fun _ _ _ r a=>h.cell r a
def xK{ar:Type}(R:World->(Nat->Option Value)->ar->Prop):Prop:=
 ∀(ρ:ay) w w' rd mg x,vg ρ w w'->(∀j v,rd j=some v->∃v',mg j=some v'/\aA ρ v v')->R w rd x->R w' mg x
variable {v:Value}
section
variable {ρ:ay}
theorem aA.ts{k:IntKind}{n:Int}(h:aA ρ (.int k n) v):v=.int k n:=by cases h;rfl
theorem aA.RU{s:ByteArray}(h:aA ρ (.string s) v):v=.string s:=by cases h;rfl
theorem aA.Zk{b:Bool}(h:aA ρ (.bool b) v):v=.bool b:=by cases h;rfl
end
theorem bd.cw{ar:Type}{c:Nat}{R:World->(Nat->Option Value)->ar->Prop}(p:xK R){ρ:ay}(l:vg ρ w w'){f:Value}(d:aA ρ v f){xs:List ar}(h:bd w c R v xs):bd w' c R f xs:=by
 obtain⟨s,cap,rfl,hl,m⟩:=h;cases d with
 |hA=>refine⟨none,cap,rfl,hl,fun i hi=>?_⟩;obtain⟨b,off,e,_⟩:=m i hi;cases e
 |@slice a a' _ _ r=>refine⟨some a',cap,rfl,hl,fun i hi=>?_⟩;obtain⟨b,off,e,o⟩:=m i hi;cases e;obtain⟨r1,k,g⟩:=r;obtain⟨n,t,q⟩:=a';simp only at r1 k g;subst k;subst g;exact⟨n,off,rfl,p ρ w w' (fun j=>w.cell? ⟨b,off+i*c+j,none⟩) _ _ l (fun j v d=>l ⟨b,off+i*c+j,none⟩ ⟨n,off+i*c+j,none⟩ v ⟨r1,rfl,rfl⟩ d) o⟩
theorem RV:xK w5:=fun ρ w w' rd e x _ b h=>by obtain⟨d,a,c⟩:=b 0 _ h;rw[c.ts]at a;exact a
theorem Zl:xK AN:=fun ρ w w' rd e x _ b h=>by obtain⟨d,a,c⟩:=b 0 _ h;rw[c.Zk]at a;exact a
theorem Zm:xK CH:=fun ρ w w' rd e x _ b h=>by obtain⟨d,a,c⟩:=b 0 _ h.1;rw[c.RU]at a;exact⟨a,h.2⟩
theorem ame:xK Lz:=fun ρ w w' rd g x _ a h=>by obtain⟨f,c,e⟩:=a 0 _ h.1;obtain⟨v2,b,d⟩:=a 1 _ h.2;rw[e.ts]at c;rw[d.ts]at b;exact⟨c,b⟩
theorem yG:xK Qg:=by rintro ρ w w' rd n x c a ⟨bQ,vs,o,h0,h,g,f,e,b⟩;obtain⟨v0,ap,b0⟩:=a 0 _ h0;obtain⟨v1,a1,b1⟩:=a 1 _ h;obtain⟨v2,l,m⟩:=a 2 _ g;obtain⟨v3,k,j⟩:=a 3 _ f;obtain⟨d,i,bS⟩:=a 4 _ e;rw[b0.ts]at ap;rw[b1.ts]at a1;exact⟨v2,v3,d,ap,a1,l,k,i,bd.cw RV c m b.jP,bd.cw Zm c j b.hQ,bd.cw Zl c bS b.fY⟩
theorem amf:xK LB:=by rintro ρ w w' rd j x k a ⟨h0,g,f,e,d⟩;obtain⟨v0,ap,b0⟩:=a 0 _ h0;obtain⟨v1,a1,b1⟩:=a 1 _ g;obtain⟨v2,c,i⟩:=a 2 _ f;obtain⟨v3,b,h⟩:=a 3 _ e;rw[b0.ts]at ap;rw[b1.ts]at a1;rw[i.ts]at c;rw[h.RU]at b;exact⟨ap,a1,c,b,d⟩
theorem yH:xK Qi:=by rintro ρ w w' rd c x b a ⟨v,h0,h⟩;obtain⟨v0,ap,b0⟩:=a 0 _ h0;exact⟨v0,ap,bd.cw amf b b0 h⟩
theorem gW.cw{C:cU}{D M:Nat->Prop}{w0:World}(h:gW C D M w w0)(g:i7 C D M w):vg (fE D M) w w0:=by
 rintro a a' v ⟨⟨o,hd⟩,n,m⟩ j;obtain⟨c,e,fr,d,p,f⟩:=vJ j;rw[o]at d;obtain⟨q,l,_⟩:=h.cells g hd d;refine⟨v,kH l (m▸p) (n▸f),?_⟩;obtain⟨ob,i,b⟩:=g _ hd;rw[d]at i;cases i;rcases b with b|b
 ·cases b with|cells _ k _=>exact k.get _ _ _ f f
 ·exact b.elim
end az
namespace cZ
open Conc ConcN az bu
def qD(Shun:Loc->Prop)(B:Nat)(e:Event):Prop:=(∀x,(MemAct.ofEvent e).touch?=some x->(x.loc.isMemory=true->(Shun x.loc->x.kind≠ .plain)/\(x.kind=.atomic->Shun x.loc))/\∀b,fF x.loc=some b->b<B)/\∀a,MemAct.ofEvent e≠ .mark (.release a)
structure nF(Shun:Loc->Prop)(B d n:Nat)(t:Trace):Prop where
 gs:∀op∈t,op.g<n
 tS:∀op∈t,∀a,op.act≠ .mark (.release a)
 qq:∀i a,touchAt t i=some a->a.loc.isMemory=true->a.kind=.atomic->Shun a.loc
 I5:∀said,¬Race said t
 known:∀i a,touchAt t i=some a->a.loc.isMemory=true->Knows t 0 i\/(Shun a.loc/\a.kind=.atomic)
 over:t.HandedOver
 hears:Deaf t 0=d
 low:∀i a b,touchAt t i=some a->fF a.loc=some b->b<B
variable {es:Array Event}
section
variable {Shun:Loc->Prop} {B d n:Nat} {t:Trace}
theorem nF.mono{c:Nat}(h:nF Shun B d n t)(g:B<=c):nF Shun c d n t:=⟨h.gs,h.tS,h.qq,h.I5,h.known,h.over,h.hears,fun i a b f e=>Nat.lt_of_lt_of_le (h.low i a b f e) g⟩
theorem nF.own(h:nF Shun B d n t)(z:0<n){fn:FuncId}{pos:String}(hes:∀e∈es,qD Shun B e):nF Shun B (deafBehind d es) n (t++MemOp.ofEvents 0 fn pos es):=by
 have u:∀op∈MemOp.ofEvents 0 fn pos es,op.g=0:=fun op c=>E2;refine⟨fun op c=>(Array.mem_append.1 c).elim (h.gs op) AU,fun op c=>(Array.mem_append.1 c).elim (h.tS op) (fun x=>by obtain⟨e,f,rfl⟩:=Conc.mem_ofEvents x;exact(hes e f).2),fun i a g r l=>?_,fun said=>noRace_append (h.I5 said) u fun i a g op c b m k=>?_,fun i a g v=>?_,handedOver_app h.over AU,?_,fun i a b g m=>?_⟩
 ·obtain⟨x,j,p⟩:=touch_of g;rcases getElem?_append_cases j with⟨_,s⟩|⟨_,o⟩
  ·exact h.qq i a GC r l
  ·obtain⟨e,f,rfl⟩:=Conc.mem_ofEvents o;exact(((hes e f).1 a p).1 r).2 l
 ·rcases h.known i a g k.2.1 with l|⟨q,A⟩
  ·exact l
  ·have y:b.kind≠ .plain:=by obtain⟨e,f,rfl⟩:=Conc.mem_ofEvents c;exact(((hes e f).1 b m).1 (by rw[<-k.1];exact k.2.1)).1 (k.1▸q)
   obtain⟨_,_,_,w⟩:=k;grind
 ·obtain⟨x,j,p⟩:=touch_of g;rcases getElem?_append_cases j with⟨_,s⟩|⟨_,o⟩
  ·exact(h.known i a GC v).imp (·.app _) id
  grind[knows_own]
 ·rw[Deaf_own,h.hears]
 ·obtain⟨x,j,p⟩:=touch_of g;rcases getElem?_append_cases j with⟨_,s⟩|⟨_,o⟩
  ·exact h.low i a b GC m
  ·obtain⟨e,f,rfl⟩:=Conc.mem_ofEvents o;exact((hes e f).1 a p).2 b m
theorem am6{e:Event}(h:e.mute=true)(a:Addr):MemAct.ofEvent e≠ .mark (.release a):=by
 obtain⟨loc,wr,b⟩:=e;cases loc<;>simp_all[Event.mute]
 grind[MemAct.ofEvent]
theorem nF.mute(h:nF Shun B d n t){g:Nat}(s:g≠0)(v:g<n){fn:FuncId}{pos:String}(m:∀e∈es,e.mute=true):nF Shun B d n (t++MemOp.ofEvents g fn pos es):=by
 have l:∀op∈MemOp.ofEvents g fn pos es,op.g=g:=fun op c=>E2;have w:∀op∈MemOp.ofEvents g fn pos es,op.act.touch?=none:=fun op c=>by grind[Conc.mem_ofEvents,touch_mute]
 refine⟨fun op c=>(Array.mem_append.1 c).elim (h.gs op) AU,fun op c=>(Array.mem_append.1 c).elim (h.tS op) (fun x=>by grind[Conc.mem_ofEvents,am6]),fun i a j q r=>?_,fun said=>noRace_append (h.I5 said) l AU,fun i a j m=>?_,handedOver_app h.over AU,(Deaf_other t s _ l).trans h.hears,fun i a b j u=>?_⟩
 ·obtain⟨x,f,p⟩:=touch_of j;rcases getElem?_append_cases f with⟨_,k⟩|⟨_,o⟩
  ·exact h.qq i a GC q r
  grind
 ·obtain⟨x,f,p⟩:=touch_of j;rcases getElem?_append_cases f with⟨_,k⟩|⟨_,o⟩
  ·exact(h.known i a GC m).imp (·.app _) id
  grind
 ·obtain⟨x,f,p⟩:=touch_of j;rcases getElem?_append_cases f with⟨_,k⟩|⟨_,o⟩
  ·exact h.low i a b GC u
  grind
end
def mx(P:Program)(Post:Value->World->Prop)(m:Machine)(t:Trace):Prop:=
 ∃N last o w' cM,runNT P (N+1) m t=(.ended o w',cM)/\runN P N m=.next last/\step P last=.ended o w'/\Conc.Good P Post last o w' cM
theorem mx.step{P:Program}{Post:Value->World->Prop}{m a:Machine}{t:Trace}{ops:Array MemOp}(e:stepT P m=(.next a,ops))(h:mx P Post a (t++ops)):mx P Post m t:=by obtain⟨N,last,o,w',d,g,f,c,b⟩:=h;refine⟨N+1,last,o,w',d,by grind[runNT],?_,c,b⟩;grind[runN,Go.step]
theorem mx.leads{P:Program}{Post:Value->World->Prop}{q:Machine->Trace->Prop}(d:∀m t,q m t->mx P Post m t):∀(n:Nat){m a:Machine}{t b:Trace},runNT P n m t=(.next a,b)->q a b->mx P Post m t
 |0,m,a,t,b,h,k=>by grind[runNT]
 |n+1,m,a,t,b,h,k=>by simp[runNT]at h;cases c:stepT P m with|mk r ops=>rw[c]at h;cases r with|next m1=>exact mx.step c (mx.leads d n h k)|ended o w=>grind
def cp(P:Program)(Post:Value->World->Prop)(n:Nat)(Shun:Loc->Prop)(d:Nat)(g:Goroutine)(w:World):Prop:=
 ∀(gs:Array Goroutine)(sl:Option (Nat×Nat))(q:Nat->Nat)(t:Trace),gs.size=n->gs[0]?=some g->Leavers P t gs q->nF Shun w.heap.size d n t->mx P Post (crowd gs w sl) t
inductive eU(P:Program)(Shun:Loc->Prop)(Stop:Nat->Goroutine->World->Prop):Nat->Goroutine->World->Prop
 |stop {d:Nat} {g:Goroutine} {w:World} (h:∀k,Stop d g (w.at k)):eU P Shun Stop d g w
 |step {d:Nat} {g:Goroutine} {w:World} (hs:g.status=.running) (ok:∀k,∃g' w' es,stepG P true g (w.at k)=.go g' w' es/\(∀e∈es,qD Shun w'.heap.size e)/\w.heap.size<=w'.heap.size)
  (next:∀k g' w' es,stepG P true g (w.at k)=.go g' w' es->eU P Shun Stop (deafBehind d es) g' w'):eU P Shun Stop d g w
section
variable {P:Program} {Shun:Loc->Prop} {Stop Stop':Nat->Goroutine->World->Prop} {d:Nat} {g:Goroutine} {w:World}
theorem eU.mk(a:g.status=.running)(h:∀k,∃g' w' es,stepG P true g (w.at k)=.go g' w' es/\(∀e∈es,qD Shun w'.heap.size e)/\w.heap.size<=w'.heap.size/\eU P Shun Stop (deafBehind d es) g' w'):eU P Shun Stop d g w:=
 .step a (fun k=>let⟨g',w',es,b,j,i,_⟩:=h k;AU) fun k g1 w1 c e=>by obtain⟨g',w',es,b,_,_,f⟩:=h k;grind
theorem eU.at(h:eU P Shun Stop d g w)(k:Nat):eU P Shun Stop d g (w.at k):=by cases h with|stop h=>exact .stop fun k'=>h k'|step a h b=>exact .step a (fun k'=>h k') (fun k'=>b k')
theorem eU.bind(h:eU P Shun Stop d g w)(hS:∀d g w,Stop d g w->eU P Shun Stop' d g w):eU P Shun Stop' d g w:=by induction h with|@stop d g w h=>exact hS _ _ _ (h w.drawn)|step a h c b=>exact .step a h AU
theorem my{R:World->World->Prop}(c:∀w k,R w (w.at k)):∀(n:Nat)(g:Goroutine)(w:World),Goes P true R Go.ConcR.DC0 (fun g w=>eU P Shun Stop d g w) n g w->eU P Shun Stop d g w
 |0,g,w,h=>h w (c w w.drawn)
 |n+1,g,w,h=>by
  rcases h with h|⟨e,h⟩
  ·exact h w (c w w.drawn)
  ·refine eU.mk e fun k=>?_;have b:=h (w.at k) (c w k);cases a:stepG P true g (w.at k)with
   |go g1 w1 es=>rw[a]at b;obtain⟨⟨rfl,rfl⟩,f⟩:=b;exact⟨g1,w.at k,#[],rfl,Aa,Nat.le_refl _,my c n g1 (w.at k) f⟩
   | _=>rw[a]at b;exact b.elim
theorem Zz{g':Goroutine}:∀(n:Nat)(g:Goroutine)(w:World),Goes P true (fun _ _=>True) Go.ConcR.DC0 (fun i _=>i=g') n g w->(∀k,Stop d g' (w.at k))->eU P Shun Stop d g w
 |0,g,w,h,b=>by have:=h w trivial;subst this;exact .stop b
 |n+1,g,w,h,b=>by
  rcases h with h|⟨e,h⟩
  ·have:=h w trivial;subst this;exact .stop b
  ·refine eU.mk e fun k=>?_;have c:=h (w.at k) trivial;cases a:stepG P true g (w.at k)with
   |go g1 w1 es=>rw[a]at c;obtain⟨⟨rfl,rfl⟩,f⟩:=c;exact⟨g1,w.at k,#[],rfl,Aa,Nat.le_refl _,Zz n g1 (w.at k) f fun k'=>b k'⟩
   | _=>rw[a]at c;exact c.elim
theorem DH(t:Trace)(fn:FuncId)(pos:String)(es:Array Event){j:Nat}(b:0≠j):Deaf (t++MemOp.ofEvents 0 fn pos es) j=Deaf t j:=
 Deaf_other t (g':=0) Ay _ (fun op a=>E2)
theorem R8{gs:Array Goroutine}{q:Nat->Nat}{t:Trace}{a:Goroutine}(l:Leavers P t gs q)(h0:gs[0]?=some a)(hrun:a.status=.running){i k:Nat}{g:Goroutine}{sl':Option (Nat×Nat)}(z:0<i)(hi:gs[i]?=some g)(p:g.status=.running):
 ∃gs' m fn pos es,runT P (crowd gs (w.at k) sl') i=(.next (crowd gs' (w.at k) sl'),MemOp.ofEvents i fn pos es)/\gs'.size=gs.size/\gs'[0]?=some a/\Leavers P (t++MemOp.ofEvents i fn pos es) gs' m/\(∀e∈es,e.mute=true)/\sumTo gs'.size m<sumTo gs.size q:=by
 have b:=l.old i g z hi;have v:(i==0)=false:=AU;have d:i<gs.size:=(Array.getElem?_eq_some_iff.1 hi).1;cases r:q i with
 |zero=>rw[r]at b;rw[b.1]at p;cases p
 |succ k'=>
  rw[r]at b;rcases b with⟨D,_⟩|⟨_,g',es,B,u,E⟩
  ·grind
  have s:=runT_crowd_go (P:=P) (sl:=sl') (i:=i) hi (by rw[v];exact u (w.at k));have hsz:((gs.map (woken P g g' (w.at k))).setIfInBounds i g').size=gs.size:=Aa;have C:sumTo gs.size (upd q i k')+(k'+1)=sumTo gs.size q+k':=by have:=sumTo_upd q k' id d;simp_all
  refine⟨_,upd q i k',_,_,es,s,hsz,?_,⟨fun j x o n=>?_,fun j o=>?_⟩,B,AU⟩
  ·grind[woken_run]
  ·by_cases f:i=j
   ·grind[upd_same,Deaf_own]
   ·rw[Array.getElem?_setIfInBounds_ne f,Array.getElem?_map]at n;obtain⟨y,A,rfl⟩:=Option.map_eq_some_iff.1 n;have h:=l.old j y o A;rw[woken_quitsD h,upd_ne q k' (Ne.symm f),Deaf_other t f _ (fun op c=>E2)];grind
  ·rw[Deaf_other t (g':=i) AU _ (fun op c=>E2)];exact l.above j AU
theorem M7{gs:Array Goroutine}{q:Nat->Nat}{t:Trace}{a:Goroutine}{B n:Nat}(u:gs.size=n)(s:Leavers P t gs q)(o:nF Shun B d n t)(h0:gs[0]?=some a)(hrun:a.status=.running){i k:Nat}{g:Goroutine}{sl':Option (Nat×Nat)}(c:0<i)(hi:gs[i]?=some g)(f:g.status=.running):
 ∃gs' b ops,runT P (crowd gs (w.at k) sl') i=(.next (crowd gs' (w.at k) sl'),ops)/\gs'.size=gs.size/\gs'[0]?=some a/\Leavers P (t++ops) gs' b/\nF Shun B d n (t++ops)/\sumTo gs'.size b<sumTo gs.size q:=by
 obtain⟨gs',b,fn,pos,es,m,l,j,h,p,r⟩:=R8 (w:=w) (k:=k) (sl':=sl') s h0 hrun c hi f;have e:i<gs.size:=(Array.getElem?_eq_some_iff.1 hi).1;exact⟨gs',b,_,m,l,j,h,o.mute Ay Ay p,r⟩
theorem Gf{gs:Array Goroutine}{q:Nat->Nat}{t:Trace}{a:Goroutine}(d:Leavers P t gs q)(h0:gs[0]?=some a)(hrun:a.status=.running):∀g∈gs,awake g:=by
 intro g c;obtain⟨i,hi,rfl⟩:=Array.mem_iff_getElem.1 c;rcases Nat.eq_zero_or_pos i with rfl|b
 ·grind[awake_of]
 ·exact awake_of ((d.old i _ b (Array.getElem?_eq_getElem hi)).status.elim .inl AU)
theorem DI{Post:Value->World->Prop}{n:Nat}(u:g.status=.running)(h:∀k,∃g' w' es,stepG P true g (w.at k)=.go g' w' es/\(∀e∈es,qD Shun w'.heap.size e)/\w.heap.size<=w'.heap.size/\cp P Post n Shun (deafBehind d es) g' w'):cp P Post n Shun d g w:=by
 have key:∀(M:Nat)(gs:Array Goroutine)(sl:Option (Nat×Nat))(q:Nat->Nat)(t:Trace)(p:Nat),sumTo gs.size q<=M->gs.size=n->gs[0]?=some g->Leavers P t gs q->nF Shun w.heap.size d n t->mx P Post (crowd gs (w.at p) sl) t:=by
  intro M;induction M with
  |zero=>
   intro gs sl q t p I s h0 a f;obtain⟨i,g1,k,sl',hi,E,b⟩:=crowd_pick (P:=P) (w:=w.at p) (sl:=sl) (Gf a h0 u) AU;rcases Nat.eq_zero_or_pos i with rfl|C
   ·obtain rfl:g1=g:=by grind
    obtain⟨g',w',es,r,A,z,v⟩:=h k;have B:=runT_crowd_go (P:=P) (sl:=sl') (i:=0) hi (show stepG P (0==0) g1 (w.at k)=_ from r);have m:0<gs.size:=(Array.getElem?_eq_some_iff.1 h0).1;refine mx.step (b.trans B) (v _ _ q _ AU AU ⟨fun j x o l=>?_,fun j o=>?_⟩ ((f.mono z).own Ay A))
    ·have c:0≠j:=by omega
     rw[Array.getElem?_setIfInBounds_ne c,Array.getElem?_map]at l;obtain⟨y,D,rfl⟩:=Option.map_eq_some_iff.1 l;have H:=a.old j y o D;grind[woken_quitsD,DH]
    ·rw[DH _ _ _ _ AU];exact a.above j AU
   ·obtain⟨gs',F,ops,_,_,_,_,_,m⟩:=M7 (w:=w) (k:=k) (sl':=sl') s a f h0 u C hi E;omega
  |succ M L=>
   intro gs sl q t p I s h0 a f;obtain⟨i,g1,k,sl',hi,E,b⟩:=crowd_pick (P:=P) (w:=w.at p) (sl:=sl) (Gf a h0 u) AU;rcases Nat.eq_zero_or_pos i with rfl|C
   ·obtain rfl:g1=g:=by grind
    obtain⟨g',w',es,r,A,z,v⟩:=h k;have B:=runT_crowd_go (P:=P) (sl:=sl') (i:=0) hi (show stepG P (0==0) g1 (w.at k)=_ from r);have m:0<gs.size:=(Array.getElem?_eq_some_iff.1 h0).1;refine mx.step (b.trans B) (v _ _ q _ AU AU ⟨fun j x o l=>?_,fun j o=>?_⟩ ((f.mono z).own Ay A))
    ·have c:0≠j:=by omega
     rw[Array.getElem?_setIfInBounds_ne c,Array.getElem?_map]at l;obtain⟨y,D,rfl⟩:=Option.map_eq_some_iff.1 l;have H:=a.old j y o D;grind[woken_quitsD,DH]
    ·rw[DH _ _ _ _ AU];exact a.above j AU
   ·obtain⟨gs',F,ops,r,A,z,v,K,J⟩:=M7 (w:=w) (k:=k) (sl':=sl') s a f h0 u C hi E;exact mx.step (b.trans r) AU
 intro gs sl q t s h0 a f;exact key _ gs sl q t w.drawn Jr s h0 a f
theorem Bs{Post:Value->World->Prop}{n:Nat}(h:eU P Shun (cp P Post n Shun) d g w):cp P Post n Shun d g w:=by induction h with|@stop d g w h=>exact h w.drawn|step a h i b=>refine DI a fun k=>?_;obtain⟨g',w',es,f,e,c⟩:=h k;grind
theorem ZB{Post:Value->World->Prop}{gs:Array Goroutine}{q:Nat->Nat}{t:Trace}{B n k h:Nat}{sl sl':Option (Nat×Nat)}(u:0<n)(b:stepT P (crowd gs (w.at h) sl)=runT P (crowd gs (w.at k) sl') 0)(l:Leavers P t gs q)(s:nF Shun B d n t)(hi:gs[0]?=some g){v:Value}(p:stepG P true g (w.at k)=.ended (.done v) (w.at k) es)(hes:∀e∈es,qD Shun B e)(y:Post v (w.at k)):mx P Post (crowd gs (w.at h) sl) t:=by
 have o:=runT_many_ended (P:=P) (sl:=sl') (i:=0) hi (show stepG P (0==0) g (w.at k)=_ from p);have m:=s.own u (fn:=g.frame.fn) (pos:=g.frame.place) hes;have c:=b.trans o;refine⟨0,_,_,_,_,by simp[runNT,c],rfl,by simp[Go.step,c],v,rfl,y,m.I5,m.over,⟨fun x a=>?_,rfl⟩,fun j x a f=>?_⟩
 ·obtain⟨j,f⟩:=List.mem_iff_getElem?.1 a;rw[List.getElem?_drop]at f;exact⟨_,(l.old (1+j) x Ay (by grind[crowd])).leaves⟩
 ·have r:=l.old j x Ay a;refine⟨q j,?_⟩;have e:(t++MemOp.ofEvents 0 g.frame.fn g.frame.place es).deaf j (t++MemOp.ofEvents 0 g.frame.fn g.frame.place es).size=Deaf t j:=DH t _ _ _ Ay;rw[e];exact r.hears _
theorem am8{Post:Value->World->Prop}{n:Nat}(m:g.status=.running)(h:∀k,∃v es,stepG P true g (w.at k)=.ended (.done v) (w.at k) es/\(∀e∈es,qD Shun w.heap.size e)/\Post v (w.at k)):cp P Post n Shun d g w:=by
 have key:∀(M:Nat)(gs:Array Goroutine)(sl:Option (Nat×Nat))(q:Nat->Nat)(t:Trace)(f:Nat),sumTo gs.size q<=M->gs.size=n->gs[0]?=some g->Leavers P t gs q->nF Shun w.heap.size d n t->mx P Post (crowd gs (w.at f) sl) t:=by
  intro M;induction M with
  |zero=>
   intro gs sl q t f y l h0 b c;obtain⟨i,g1,k,sl',hi,s,a⟩:=crowd_pick (P:=P) (w:=w.at f) (sl:=sl) (Gf b h0 m) AU;rcases Nat.eq_zero_or_pos i with rfl|r
   ·obtain rfl:g1=g:=by grind
    obtain⟨v,es,j,p,o⟩:=h k;exact ZB AU a b c h0 j p o
   ·obtain⟨gs',u,ops,_,_,_,_,_,x⟩:=M7 (w:=w) (k:=k) (sl':=sl') l b c h0 m r hi s;omega
  |succ M B=>
   intro gs sl q t f y l h0 b c;obtain⟨i,g1,k,sl',hi,s,a⟩:=crowd_pick (P:=P) (w:=w.at f) (sl:=sl) (Gf b h0 m) AU;rcases Nat.eq_zero_or_pos i with rfl|r
   ·obtain rfl:g1=g:=by grind
    obtain⟨v,es,j,p,o⟩:=h k;exact ZB AU a b c h0 j p o
   ·obtain⟨gs',u,ops,j,p,o,C,A,z⟩:=M7 (w:=w) (k:=k) (sl':=sl') l b c h0 m r hi s;exact mx.step (a.trans j) AU
 intro gs sl q t l h0 b c;exact key _ gs sl q t w.drawn Jr l h0 b c
end
section
open ConcM
section
variable {P:Program} {Shun:Loc->Prop} {Stop:Nat->Goroutine->World->Prop} {d:Nat}
theorem pD{g g1:Goroutine}{w w1:World}(b:g.status=.running)(h:∀k,stepG P true g (w.at k)=.go g1 (w1.at k) es)(a:∀e∈es,qD Shun w1.heap.size e)(hsz:w.heap.size<=w1.heap.size)(c:eU P Shun Stop (deafBehind d es) g1 w1):eU P Shun Stop d g w:=
 eU.mk b fun k=>⟨g1,w1.at k,es,h k,a,hsz,c.at k⟩
theorem dU{a b c:World}(h:AtRel a b)(k:AtRel b c):AtRel a c:=atRel_trans a b c h k
theorem M8{m:Mark}(d:∀a,m≠ .release a/\m≠ .read a/\m≠ .write a)(wr b:Bool){B:Nat}:qD Shun B ⟨.mark m,wr,b⟩:=by
 have f:(MemAct.ofEvent ⟨.mark m,wr,b⟩)=.mark m:=by cases wr<;>cases b<;>rfl
 refine⟨fun x c=>?_,fun a e=>?_⟩
 ·simp_all[MemAct.touch?]
 grind
theorem ZC{a:Addr}(f:Shun (.cell a)){B:Nat}(d:a.block<B)(wr:Bool):qD Shun B ⟨.cell a,wr,true⟩:=by
 have e:(MemAct.ofEvent ⟨.cell a,wr,true⟩)=.access ⟨.cell a,wr,true⟩:=by cases wr<;>rfl
 refine⟨fun x c=>?_,AU⟩;rw[e]at c;simp only[MemAct.touch?,Option.some.injEq]at c;subst c;exact⟨AU,fun b hl=>by cases hl;exact d⟩
theorem I6{a:Addr}(f:¬Shun (.cell a)){B:Nat}(d:a.block<B)(wr:Bool):qD Shun B ⟨.cell a,wr,false⟩:=by
 have e:(MemAct.ofEvent ⟨.cell a,wr,false⟩)=.access ⟨.cell a,wr,false⟩:=by cases wr<;>rfl
 refine⟨fun x c=>?_,AU⟩;rw[e]at c;simp only[MemAct.touch?,Option.some.injEq]at c;subst c;exact⟨AU,fun b hl=>by cases hl;exact d⟩
theorem ZD{K mine:Nat->Prop}{e:Event}{B:Nat}(h:zq K mine e)(j:∀b,K b\/mine b->∀l,fF l=some b->¬Shun l)(n:∀b,K b\/mine b->b<B):qD Shun B e:=by
 obtain⟨loc,wr,g⟩:=e;cases loc with
 |cell a=>
  obtain⟨i,_,f⟩:=h;simp only at f;subst f;refine⟨fun x d=>?_,fun a e=>by cases wr<;>cases e⟩
  have c:x=⟨.cell a,wr,.plain⟩:=by grind[MemAct.ofEvent,MemAct.touch?]
  subst c;exact⟨fun _=>⟨fun e=>absurd e (j _ i _ rfl),AU⟩,fun b hl=>by cases hl;grind⟩
 |obj r=>
  obtain⟨i,_,f⟩:=h;simp only at f;subst f;refine⟨fun x d=>?_,fun a e=>by cases wr<;>cases e⟩
  have c:x=⟨.obj r,wr,.plain⟩:=by grind[MemAct.ofEvent,MemAct.touch?]
  subst c;exact⟨fun _=>⟨fun e=>absurd e (j _ i _ rfl),AU⟩,fun b hl=>by cases hl;grind⟩
 |output=>
  refine⟨fun x d=>?_,fun a e=>by cases wr<;>cases g<;>cases e⟩
  have c:x.loc=.output:=by grind[MemAct.ofEvent,MemAct.touch?]
  rw[c];exact⟨fun e=>(by simp[Loc.isMemory]at e),fun b e=>GR⟩
 |goroutines=>exact h.elim
 |mark m=>
  have k:(MemAct.ofEvent ⟨.mark m,wr,g⟩)=.mark m:=by cases wr<;>cases g<;>rfl
  cases m<;>first|exact h.elim|exact⟨fun x d=>(by rw[k]at d;cases d),AU⟩
structure Left(X Y:a6):Prop where
 sub:∀b,X.mine b->Y.mine b
 kept:∀b,b<X.w.heap.size->¬X.mine b->Y.w.heap[b]?=X.w.heap[b]?
 new:∀b,Y.mine b->X.mine b\/(X.w.heap.size<=b/\b<Y.w.heap.size)
 size:X.w.heap.size<=Y.w.heap.size
 os:OsLater X.w.os Y.w.os
 output:Y.w.output=X.w.output
 tape:Y.w.tape=X.w.tape
 run:X.g.status=.running->Y.g.status=.running
theorem R_{K:Nat->Prop}{post:a6->Prop}{X:a6}(h:jO P true K post X):X.g.status=.running->(∀b,K b\/X.mine b->b<X.w.heap.size)->(∀b,K b\/X.mine b\/X.w.heap.size<=b->∀l,fF l=some b->¬Shun l)->
 (∀Y,post Y->Left X Y->eU P Shun Stop d Y.g Y.w)->eU P Shun Stop d X.g X.w:=by
 induction h with
 |@done X h=>exact fun i _ _ k=>k X h ⟨fun _ h=>h,fun _ _ _=>rfl,AU,Nat.le_refl _,.refl _,rfl,rfl,id⟩
 |@step X ok _ q=>
  intro i x w k;refine eU.mk i fun n=>?_;have hrel:kl K X (X.w.at n):=⟨fun _ _=>rfl,Nat.le_refl _,.refl _⟩;obtain⟨g1,w1,es,c,a⟩:=ok (X.w.at n) hrel;have hsz:X.w.heap.size<=w1.heap.size:=a.size;have r:∀b,grown X.mine (X.w.at n) w1 b->X.mine b\/(X.w.heap.size<=b/\b<w1.heap.size):=fun b h=>h;have s:∀b,K b\/grown X.mine (X.w.at n) w1 b->∀l,fF l=some b->¬Shun l:=AU;have g:∀b,K b\/grown X.mine (X.w.at n) w1 b->b<w1.heap.size:=AU;have t:deafBehind d es=d:=by
   have:∀(l:List Event)(d:Nat),(∀e∈l,zq K (grown X.mine (X.w.at n) w1) e)->deafBehind d l.toArray=d:=by
    intro l;induction l with
    |nil=>intro d _;rfl
    |cons e l y=>
     intro d hl;have o:deafBehind d (e::l).toArray=deafBehind (deafBehind d #[e]) l.toArray:=by simp[deafBehind]
     have j:deafBehind d #[e]=d:=by
      have f:=hl e Aa;obtain⟨loc,wr,u⟩:=e;cases loc with
      |mark m=>cases m<;>first|exact f.elim|rfl
      | _=>rfl
     grind
   exact this es.toList d fun e f=>a.evs e AU
  refine⟨g1,w1,es,c,fun e f=>ZD (a.evs e f) s g,hsz,?_⟩;rw[t];refine q (X.w.at n) g1 w1 es hrel c a.run g (fun b v=>?_) (fun Y p hl=>k Y p ?_)
  ·grind
  ·refine⟨fun b h=>hl.sub b (.inl h),fun b o j=>(hl.kept b AU fun h=>?_).trans (a.kept b o j),fun b h=>?_,Nat.le_trans hsz hl.size,(show OsLater X.w.os Y.w.os from by rw[<-show w1.os=X.w.os from a.os];exact hl.os),hl.output.trans a.output,hl.tape.trans a.tape,fun _=>hl.run a.run⟩
   ·grind
   ·rcases hl.new b h with h|h
    ·rcases r b h with h|h
     ·grind
     ·exact .inr ⟨h.1,Nat.lt_of_lt_of_le h.2 hl.size⟩
    grind
end
end
end cZ
namespace nG
open az
structure gp where
 T:Nat->Bool
 K:Nat->Bool
 V:Nat->Option Value
 sl:TypeId->Bool
 d:Nat
structure fa(D:gp)(a b:Frame):Prop where
 eq:b={a with tmps:=b.tmps}
 size:b.tmps.size=a.tmps.size
 same:∀i,D.T i=false->b.tmps[i]?=a.tmps[i]?
 gone:a.mode=.run->∀i v,D.T i=true->a.tmps[i]?=some v->v=undef
 kept:a.mode=.run->∀i,D.K i=true->b.tmps[i]?=D.V i
def zU(D:gp):Operand->Bool
 | .tmp t=> !D.T t
 | _=>true
def ZJ(D:gp)(c:Call):Bool:=match c.callee with
 | .builtin .len=>match c.args.toList,c.argTypes.toList with
  | [.tmp t],[ty]=>D.T t&&D.sl ty
  | _,_=>false
 | _=>false
def ZK(D:gp)(o:Oper):Bool:=match o.op with
 | .load _ (.tmp t)=>D.T t
 | .indexAddr _ (.tmp t) _=>D.T t
 | .call c=>ZJ D c
 | _=>false
def ZL(D:gp)(o:Oper):Bool:=match o.op,o.dst with
 | .move (.tmp t),some d=>D.T t&&D.T d
 | _,_=>false
def Na(D:gp)(o:Oper):Bool:=match o.dst with
 |some d=> !D.T d
 |none=>true
def Sc(D:gp)(o:Oper):Bool:=match o.dst with
 |some d=> !D.K d
 |none=>true
def jf(D:gp)(o:Oper):Bool:=o.op.operands.all (zU D)&& !(o.op matches .select ..)&&Na D o
def Nb(D:gp)(ops:Array Oper)(o:Oper):Bool:=match o.guard with
 |some (g,_)=>match(ops[g]?).bind (·.dst)with
  |some t=> !D.T t
  |none=>true
 |none=>true
def wz(D:gp)(ops:Array Oper)(o:Oper):Bool:=Nb D ops o&&Sc D o&&(jf D o||ZL D o||ZK D o)
def qE(D:gp):Code->Bool
 | .region _ ops _=>ops.all (wz D ops)
 | .seq a b=>qE D a&&qE D b
 | .cond c a b=>zU D c&&qE D a&&qE D b
 | .block _ c| .loop c=>qE D c
 | .skip| .exit _ | .ret=>true
 | _=>false
def iP(D:gp):Item->Bool
 | .code c=>qE D c
 | .inBlock _=>true
 | .inLoop c=>qE D c
 | .inRegion ops l=>l.all fun i=>match ops[i]? with
  |some o=>wz D ops o
  |none=>true
 | _=>false
def DJ(D:gp):ResultVar->Bool
 | .tmp t=> !D.T t
 | .cell t _=> !D.T t
structure nH(P:Program)(D:gp)(a:Frame):Prop where
 items:a.mode=.run->a.todo.all (iP D)=true
 round:a.roundOf=none
 Gh:∃fn,P.funcs[a.fn]?=some fn/\fn.results.all (DJ D)=true
 sl:∀t,D.sl t=true->∃e,P.underlying t=some (.slice e)
 Nc:P.inits.idxOf? a.fn=none
structure ZM(P:Program)(D:gp)(a:Frame):Prop extends nH P D a where
 bp:a.mode=.run->∀ops i rest k,a.todo=.inRegion ops (i::rest)::k->∀o,ops[i]?=some o->∀d,o.dst=some d->D.T d=false
inductive nI(P:Program)(D:gp):List Frame->List Frame->Prop
 |here {a b:Frame} (h:fa D a b) (v:ZM P D a) (l:List Frame) (hl:l.length=D.d):nI P D (a::l) (b::l)
 |there (a:Frame) {l aW:List Frame} (h:nI P D l aW):nI P D (a::l) (a::aW)
inductive nJ(P:Program)(D:gp):Goroutine->Goroutine->Prop
 |same (g:Goroutine) (hl:g.callers.length<D.d):nJ P D g g
 |h5 {a b:Frame} (h:fa D a b) (v:nH P D a) (cs:List Frame) (hl:cs.length=D.d) (s:GoStatus) (d:Option Dying):nJ P D ⟨a,cs,s,d,none⟩ ⟨b,cs,s,d,none⟩
 |under (a:Frame) {cs bf:List Frame} (h:nI P D cs bf) (s:GoStatus) (d:Option Dying):nJ P D ⟨a,cs,s,d,none⟩ ⟨a,bf,s,d,none⟩
def fl(P:Program)(D:gp)(s s':GStep):Prop:=∀g1 w1 es,s=.go g1 w1 es->g1.status=.running->g1.dying=none->∃Bt,s'=.go Bt w1 es/\nJ P D g1 Bt
variable {g g':Goroutine}{w:World}{es:Array Event}{s:GStep}
section
variable {P:Program} {D:gp} {a b:Frame}
theorem fl.go(h:nJ P D g g'):fl P D (.go g w es) (.go g' w es):=fun g1 w1 a e _ _=>by grind
theorem fl.ended{o:Outcome}:fl P D (.ended o w es) s:=fun _ _ _ e=>by cases e
theorem fl.after{b:GStep}(es:Array Event)(h:fl P D s b):fl P D (s.after es) (b.after es):=fun g1 w1 i e d hd=>by
 cases s with
 |go g w a=>simp[GStep.after]at e;obtain⟨rfl,rfl,rfl⟩:=e;obtain⟨g',f,c⟩:=h g w a rfl d hd;exact⟨g',by rw[f];rfl,c⟩
 | _=>cases e
theorem fl.xP(h:g.status≠ .running\/g.dying≠none):fl P D (.go g w es) s:=fun g1 w1 a e b hd=>by grind
theorem fa.getD(h:fa D a b){t:Nat}(ht:D.T t=false):b.tmps.getD t undef=a.tmps.getD t undef:=by have:=h.same t ht;simp_all
theorem fa.eval(h:fa D a b){x:Operand}(c:zU D x=true):b.eval x=a.eval x:=by
 cases x with
 |tmp t=>
  have ht:D.T t=false:=by grind[zU]
  simp only[Frame.eval];exact h.getD ht
 | _=>rfl
theorem fa.Nd(h:fa D a b)(d:a.mode=.run){t:Nat}(ht:D.T t=true):a.eval (.tmp t)=undef:=by simp[Frame.eval];cases c:a.tmps[t]? with|none=>rfl|some v=>rw[h.gone d t v ht c];rfl
theorem fa.todo(h:fa D a b):b.todo=a.todo:=by rw[h.eq]
theorem fa.fn(h:fa D a b):b.fn=a.fn:=by rw[h.eq]
theorem fa.mode(h:fa D a b):b.mode=a.mode:=by rw[h.eq]
theorem fa.kind(h:fa D a b):b.kind=a.kind:=by rw[h.eq]
theorem fa.defers(h:fa D a b):b.defers=a.defers:=by rw[h.eq]
theorem fa.roundOf(h:fa D a b):b.roundOf=a.roundOf:=by rw[h.eq]
theorem fa.aDb(h:fa D a b){a' c:Frame}(f:a'.tmps=a.tmps)(d:c.tmps=b.tmps)(e:c={a' with tmps:=c.tmps})(g:a'.mode=.run->a.mode=.run):fa D a' c:=
 ⟨e,by rw[f,d];exact h.size,by rw[f,d];exact h.same,fun x=>by rw[f];exact h.gone (g x),fun x=>by rw[d];exact h.kept (g x)⟩
theorem fa.put(h:fa D a b){a' c:Frame}{d:Nat}{v u:Value}(k:a'.tmps=a.tmps.setIfInBounds d v)(j:c.tmps=b.tmps.setIfInBounds d u)(e:c={a' with tmps:=c.tmps})(l:a'.mode=a.mode)(m:D.T d=false->u=v)(o:a.mode=.run->D.T d=true->v=undef)(n:a.mode=.run->D.K d=false):fa D a' c:=by
 refine⟨e,by rw[k,j];simpa using h.size,fun i hi=>?_,fun g i x hi f=>?_,fun g i hi=>?_⟩
 ·rw[k,j,Array.getElem?_setIfInBounds,Array.getElem?_setIfInBounds];by_cases hd:d=i
  ·subst hd;simp[m hi,h.size]
  ·simp[hd];exact h.same i hi
 ·rw[k,Array.getElem?_setIfInBounds]at f;by_cases hd:d=i
  ·grind
  ·simp[hd]at f;exact h.gone (l▸g) i x hi f
 ·rw[j,Array.getElem?_setIfInBounds];by_cases hd:d=i
  ·grind
  ·simp[hd];exact h.kept (l▸g) i hi
theorem nH.aDb{a':Frame}(h:nH P D a)(b:a'.fn=a.fn)(d:a'.roundOf=a.roundOf)(c:a'.mode=.run->a'.todo.all (iP D)=true):nH P D a':=⟨c,d.trans h.round,by rw[b];exact h.Gh,h.sl,by rw[b];exact h.Nc⟩
theorem Nf(h:fa D a b)(hi:nH P D a){v u:Value}(m:a.mode≠ .run->u=v)(hd:a.mode=.run->∀ops i rest k,a.todo=.inRegion ops (i::rest)::k->∀o,ops[i]?=some o->∀d,o.dst=some d->(D.T d=false->u=v)/\(D.T d=true->v=undef)):fa D (a.finish v) (b.finish u)/\nH P D (a.finish v):=by
 have g:=hi.items;obtain⟨fn,tmps,todo,defers,mode,kind,ro⟩:=a;obtain⟨q,C,p,z,j,A,y⟩:=b;have e:=h.eq;simp at e;obtain⟨rfl,rfl,rfl,rfl,rfl,rfl⟩:=e;have g:j=.run->p.all (iP D)=true:=g;have m:j≠ .run->u=v:=m;have hd:j=.run->∀ops i rest k,p=.inRegion ops (i::rest)::k->∀o,ops[i]?=some o->∀d,o.dst=some d->(D.T d=false->u=v)/\(D.T d=true->v=undef):=hd;cases p with
 |nil=>exact⟨h,hi⟩
 |cons x k=>
  simp only[List.all_cons,Bool.and_eq_true]at g;cases x with
  |code c=>exact⟨h,hi⟩
  |inBlock id=>exact⟨h,hi⟩
  |inLoop c=>exact⟨h,hi⟩
  |inScope c=>exact⟨h,hi⟩
  |inRangeFunc l=>exact⟨h.aDb rfl rfl rfl fun x=>x,hi.aDb rfl rfl fun x=>(by cases(g x).1)⟩
  |endRangeFunc l=>exact⟨h,hi⟩
  |beginRound=>exact⟨h.aDb rfl rfl rfl fun x=>x,hi.aDb rfl rfl fun x=>(by cases(g x).1)⟩
  |call d w r s=>
   by_cases f:j=.run
   ·cases(g f).1
   ·obtain rfl:=m f;exact⟨h.aDb rfl rfl rfl fun x=>x,hi.aDb rfl rfl fun x=>absurd x f⟩
  |extern r aDb=>
   by_cases f:j=.run
   ·cases(g f).1
   ·obtain rfl:=m f;exact⟨⟨rfl,rfl,fun _ _=>rfl,fun x=>absurd x f,fun x=>absurd x f⟩,hi.aDb rfl rfl fun x=>absurd x f⟩
  |inRegion ops l=>
   cases l with
   |nil=>exact⟨h,hi⟩
   |cons i rest=>
    have t:nH P D (Frame.finish ⟨q,tmps,.inRegion ops (i::rest)::k,z,j,A,y⟩ v):=hi.aDb rfl rfl (fun x=>by
     simp_all[iP,Frame.finish])
    refine⟨?_,t⟩;cases n:ops[i]? with
    |none=>exact h.aDb I_ I_ I_ fun x=>x
    |some o=>
     cases B:o.dst with
     |none=>exact h.aDb Jq Jq Jq fun x=>x
     |some d=>
      refine h.put (d:=d) (v:=v) (u:=u) ?_ ?_ ?_ rfl (fun ht=>?_) AU (fun f=>?_)
      ·grind[Frame.finish]
      ·grind[Frame.finish]
      ·grind[Frame.finish]
      ·grind
      simp_all[iP,wz,Sc]
theorem ZN(h:fa D a b)(hi:nH P D a)(vs:List PanicEntry):fa D (a.raise vs) (b.raise vs)/\nH P D (a.raise vs):=by obtain⟨fn,tmps,todo,defers,mode,kind,ro⟩:=a;obtain⟨d,i,k,g,c,j,f⟩:=b;have e:=h.eq;simp at e;obtain⟨rfl,rfl,rfl,rfl,rfl,rfl⟩:=e;cases c<;>exact⟨h.aDb rfl rfl rfl (fun x=>by cases x),hi.aDb rfl rfl (fun x=>by cases x)⟩
theorem Sd:∀{l:List Frame}{fr:Frame}{p:Value×List Frame},tryRecover fr l=some p->p.2.length=l.length
 | [],fr,p,e=>by obtain⟨q1,i,h,g,f,b,d⟩:=fr;cases b<;>cases e
 |x::l,fr,p,e=>by
  cases a:fr.kind with
  |deferred=>
   simp[tryRecover,a]at e;split at e
   ·cases e;rfl
   ·cases e
  |wrapped=>simp only[tryRecover,a]at e;cases c:tryRecover x l with|none=>rw[c]at e;cases e|some q=>rw[c]at e;cases e;simp[Sd c]
  | _=>obtain⟨q1,i,h,g,f,b,d⟩:=fr;have a:b=_:=a;subst a;cases e
theorem anc:∀{cs bf:List Frame},nI P D cs bf->∀(fr:Frame),(tryRecover fr cs=none->tryRecover fr bf=none)/\∀v c1,tryRecover fr cs=some (v,c1)->∃o,tryRecover fr bf=some (v,o)/\nI P D c1 o:=by
 intro cs bf h;induction h with
 |@here a b h v l hl=>
  intro fr;have E:=h.mode;have F:=h.kind;obtain⟨fn,tmps,todo,defers,mode,kind,ro⟩:=a;obtain⟨i,C,m,k,f,d,j⟩:=b;have e:=h.eq;simp at e;obtain⟨rfl,rfl,rfl,rfl,rfl,rfl⟩:=e;cases c:fr.kind with
  |deferred=>
   simp[tryRecover,c];split
   ·refine⟨AU,fun v1 c1 e=>?_⟩;simp at e;obtain⟨rfl,rfl⟩:=e;refine⟨_,rfl,nI.here ?_ ?_ l hl⟩
    ·exact h.aDb rfl rfl rfl AU
    ·exact⟨v.tonH.aDb rfl rfl AU,AU⟩
   ·exact⟨fun _=>rfl,AU⟩
  |wrapped=>
   simp only[tryRecover,c];have z:∀l,tryRecover ⟨i,C,m,k,f,d,j⟩ l=tryRecover ⟨i,tmps,m,k,f,d,j⟩ l:=by intro l;cases l<;>cases d<;>rfl
   rw[z];cases w:tryRecover ⟨i,tmps,m,k,f,d,j⟩ l with|none=>exact⟨fun _=>rfl,AU⟩|some p=>refine⟨AU,fun v1 c1 e=>?_⟩;simp at e;obtain⟨rfl,rfl⟩:=e;exact⟨_,rfl,.here h v _ ((Sd w).trans hl)⟩
  | _=>obtain⟨q1,B,t,s,r,g,q⟩:=fr;have c:g=_:=c;subst c;exact⟨fun _=>rfl,fun v1 c1 e=>GR⟩
 |@there a l H h u=>
  intro fr;cases c:fr.kind with
  |deferred=>
   simp[tryRecover,c];split
   ·refine⟨AU,fun v1 c1 e=>?_⟩;simp at e;obtain⟨rfl,rfl⟩:=e;exact⟨_,rfl,.there _ h⟩
   ·exact⟨fun _=>rfl,AU⟩
  |wrapped=>simp only[tryRecover,c];obtain⟨y,x⟩:=u a;cases n:tryRecover a l with|none=>rw[y n];exact⟨fun _=>rfl,AU⟩|some p=>obtain⟨v0,cu⟩:=p;obtain⟨I,A,h0⟩:=x v0 cu n;refine⟨AU,fun v1 c1 e=>?_⟩;simp at e;obtain⟨rfl,rfl⟩:=e;rw[A];exact⟨_,rfl,.there _ h0⟩
  | _=>obtain⟨q1,B,t,s,r,g,q⟩:=fr;have c:g=_:=c;subst c;exact⟨fun _=>rfl,fun v1 c1 e=>GR⟩
end
inductive h6(P:Program)(D:gp):Frame->List Frame->Frame->List Frame->Prop
 |h5 {a b:Frame} {cs:List Frame} (h:fa D a b) (v:ZM P D a) (hl:cs.length=D.d):h6 P D a cs b cs
 |under (a:Frame) {cs bf:List Frame} (h:nI P D cs bf):h6 P D a cs a bf
variable {aQ ar:Type}
section
variable {P:Program} {D:gp} {a b:Frame} {cs bf:List Frame}
theorem fl.Cs{o:Outcome}{es':Array Event}:fl P D (GStep.after es (.ended o w es')) s:=fun _ _ _ e=>by cases e
theorem fl.ite{c:Prop}[Decidable c]{A B a b:GStep}(e:c->fl P D A a)(d:¬c->fl P D B b):fl P D (if c then A else B) (if c then a else b):=by grind
theorem h6.todo(h:h6 P D a cs b bf):b.todo=a.todo:=by cases h with|h5 h v hl=>exact h.todo|under=>rfl
theorem h6.fn(h:h6 P D a cs b bf):b.fn=a.fn:=by cases h with|h5 h v hl=>exact h.fn|under=>rfl
theorem h6.kind(h:h6 P D a cs b bf):b.kind=a.kind:=by cases h with|h5 h v hl=>exact h.kind|under=>rfl
theorem h6.round(h:h6 P D a cs b bf):b.roundOf=a.roundOf:=by cases h with|h5 h v hl=>exact h.roundOf|under=>rfl
theorem h6.mode(h:h6 P D a cs b bf):b.mode=a.mode:=by cases h with|h5 h v hl=>exact h.mode|under=>rfl
theorem h6.defers(h:h6 P D a cs b bf):b.defers=a.defers:=by cases h with|h5 h v hl=>exact h.defers|under=>rfl
theorem h6.zW(h:h6 P D a cs b bf)(s:GoStatus)(d:Option Dying):nJ P D ⟨a,cs,s,d,none⟩ ⟨b,bf,s,d,none⟩:=by cases h with|h5 h v hl=>exact .h5 h v.tonH _ hl _ _|under h=>exact .under _ h _ _
theorem h6.push(h:h6 P D a cs b bf):nI P D (a::cs) (b::bf):=by cases h with|h5 h v hl=>exact .here h v _ hl|under h=>exact .there _ h
theorem h6.gt(h:h6 P D a cs b bf)(x:Value)(s:GoStatus)(d:Option Dying):nJ P D ⟨a.finish x,cs,s,d,none⟩ ⟨b.finish x,bf,s,d,none⟩:=by
 cases h with
 |h5 h v hl=>obtain⟨j,g⟩:=Nf (v:=x) (u:=x) h v.tonH AU (fun f ops i rest k e o c d hd=>⟨fun _=>rfl,fun ht=>by rw[v.bp f ops i rest k e o c d hd]at ht;cases ht⟩);exact .h5 j g _ hl _ _
 |under h=>exact .under _ h _ _
theorem h6.raise(h:h6 P D a cs b bf)(vs:List PanicEntry)(s:GoStatus)(d:Option Dying):nJ P D ⟨a.raise vs,cs,s,d,none⟩ ⟨b.raise vs,bf,s,d,none⟩:=by
 cases h with
 |h5 h v hl=>obtain⟨e,c⟩:=ZN h v.tonH vs;exact .h5 e c _ hl _ _
 |under h=>exact .under _ h _ _
theorem h6.CC(h:h6 P D a cs b bf)(ds:List Deferred):h6 P D {a with defers:=ds} cs {b with defers:=ds} bf:=by
 cases h with
 |h5 h v hl=>
  refine h6.h5 ?_ ?_ hl
  ·refine h.aDb rfl rfl ?_ fun x=>x;rw[h.eq]
  ·exact⟨v.tonH.aDb rfl rfl v.items,v.bp⟩
 |under h=>exact .under _ h
theorem nI.data(h:nI P D cs bf):bf.map Frame.asData=cs.map Frame.asData:=by
 induction h with
 |@here a b h v l hl=>
  have:b.asData=a.asData:=by rw[h.eq];rfl
  grind
 |there a h c=>grind
theorem nI.enter(h:nI P D cs bf)(l:List Frame):nI P D (l++cs) (l++bf):=by induction l with|nil=>exact h|cons x l a=>exact .there x a
theorem h6.recover(h:h6 P D a cs b bf):(tryRecover a cs=none->tryRecover b bf=none)/\∀v c1,tryRecover a cs=some (v,c1)->∃d,tryRecover b bf=some (v,d)/\h6 P D a c1 b d:=by
 cases h with
 |h5 h v hl=>
  have e:tryRecover b cs=tryRecover a cs:=by rw[h.eq];obtain⟨fn,tmps,todo,defers,mode,kind,ro⟩:=a;cases cs<;>cases kind<;>rfl
  rw[e];exact⟨id,fun v1 c1 e=>⟨c1,e,.h5 h v ((Sd e).trans hl)⟩⟩
 |under h=>obtain⟨j,i⟩:=anc h a;exact⟨j,fun v1 c1 e=>(i v1 c1 e).imp fun c⟨g,f⟩=>⟨g,.under _ f⟩⟩
theorem ane(h:h6 P D a cs b bf)(g:Nat)(w:World):fl P D (early P a cs none g w) (early P b bf none g w):=by
 have notYet:∀w:World,fl P D (match w.heap[g]? with|some (.pending c elem)=>.go {frame:=a,callers:=cs,status:=.running,dying:=none} {w with heap:=w.heap.setIfInBounds g (.cells c elem)}| _=>.ended (.stuck "early: the variable does not wait" (a.pos P)) w)
  (match w.heap[g]? with|some (.pending c elem)=>.go {frame:=b,callers:=bf,status:=.running,dying:=none} {w with heap:=w.heap.setIfInBounds g (.cells c elem)}| _=>.ended (.stuck "early: the variable does not wait" (b.pos P)) w):=by
  intro w;split
  ·exact .go (h.zW _ _)
  ·exact .ended
 have there:∀(f:FuncId)(w:World)(l:List Frame),fl P D (.go {frame:=Frame.enter P f #[] .early,callers:=l++a::cs,status:=.running,dying:=none} w) (.go {frame:=Frame.enter P f #[] .early,callers:=l++b::bf,status:=.running,dying:=none} w):=fun f w l=>.go (.under _ (h.push.enter l) _ _);unfold early;simp only[h.kind];split
 ·grind
 split
 ·exact .ended
 split
 ·grind
 split
 ·grind
 split
 ·exact .ended
 ·grind
 ·exact .ended
 ·grind
 split
 ·grind
 split
 ·grind
 split
 ·grind
 ·grind
 ·exact .ended
theorem ZP{m:String}:fl P D (endFatal P a cs none m w) s:=by unfold endFatal;intro g1 w1 es e b hd;grind[dieOf]
theorem DL(hF:P.follows .rangeFuncRecover=true)(o:a.mode=.run)(h:h6 P D a cs b bf)(s:Sem Next)(w:World):fl P D (stepG.apply P true a cs none s w) (stepG.apply P true b bf none s w):=by
 have ht:=h.todo;have c:∀r aDb k,a.todo=.extern r aDb::k->∃cs0 j,cs=cs0/\bf=j/\a=b/\nI P D cs bf:=by intro r aDb k e;cases h with|h5 h v hl=>have:=v.items o;grind[iP]|under h=>grind
 unfold stepG.apply;rw[ht,h.fn,h.kind];simp only[if_true];rcases hr:s.runT P w #[]with⟨r,es⟩;simp only[];refine fl.after _ ?_;cases r with
 |ok n w1=>
  cases n with
  |value v=>exact .go (h.gt _ _ _)
  |skip=>exact .go (h.gt _ _ _)
  |enter f args=>exact .go (.under _ h.push _ _)
  |callThen d resume saved wrapper=>
   simp only[];split
   ·rename_i e;obtain⟨_,_,_,_,rfl,i⟩:=c _ _ _ e;exact .go (.under _ i _ _)
   ·exact .go (.under _ h.push _ _)
  |row row args=>
   simp only[];split
   ·rename_i e;obtain⟨_,_,_,_,rfl,i⟩:=c _ _ _ e;exact .go (.under _ i _ _)
   ·exact .go (.under _ h.push _ _)
  |stack resume saved=>
   have A:(b::bf).toArray.map Frame.asData=(a::cs).toArray.map Frame.asData:=by have:=h.push.data;grind
   simp only[A];split
   ·rename_i e;obtain⟨_,_,_,_,rfl,i⟩:=c _ _ _ e;exact .go (.under _ i _ _)
   ·exact .go (.under _ h.push _ _)
  |round l f tmps assign body=>exact .go (.under _ h.push _ _)
  |recover=>
   obtain⟨y,x⟩:=h.recover;simp[h.round,hF];have key:fl P D (match tryRecover a cs with
    |some (v,callers)=>.go {frame:=a.finish v,callers,status:=.running,dying:=none} w1
    |none=>.go {frame:=a.finish .nilIface,callers:=cs,status:=.running,dying:=none} w1)
    (match tryRecover b bf with
    |some (v,callers)=>.go {frame:=b.finish v,callers,status:=.running,dying:=none} w1
    |none=>.go {frame:=b.finish .nilIface,callers:=bf,status:=.running,dying:=none} w1):=by
    cases c:tryRecover a cs with|none=>rw[y c];exact .go (h.gt _ _ _)|some p=>obtain⟨v0,cu⟩:=p;obtain⟨C,z,h0⟩:=x v0 cu c;rw[z];exact .go (h0.gt _ _ _)
   grind
  |sleep t=>exact .xP AU
  |spawn d=>
   simp only[];split<;>split
   all_goals first|exact fun g1 w1 es e B hd=>(by grind[endThrow,dieOf])|exact fun _ _ _ e _ _=>GR
  | _=>
   first
    |rename_i d
     have q:=(h.CC (d::a.defers)).gt undef .running none;rw[ht,h.fn,h.kind]at q;simp[h.defers];exact .go q
    |intro g1 w1 es e
     cases e
 |halt hl w1=>
  cases hl with
  |panic v=>exact .go (h.raise _ _ _)
  |goexit=>exact .go (h.raise _ _ _)
  |blocked=>exact .xP AU
  |waiting=>exact .xP AU
  |fatal m=>exact ZP
  |throw m=>exact .xP AU
  |unsupported u=>cases u with
   |initOrder g=>exact ane h g w1
   | _=>exact .ended
  | _=>exact .ended
theorem fa.wanted(h:fa D a b){ops:Array Oper}{o:Oper}(f:Nb D ops o=true):Region.wanted o (yielded ops b.tmps)=Region.wanted o (yielded ops a.tmps):=by
 unfold Region.wanted;cases d:o.guard with
 |none=>rfl
 |some iX=>
  obtain⟨g,want⟩:=iX;have e:yielded ops b.tmps g=yielded ops a.tmps g:=by
   unfold yielded;cases ht:(ops[g]?).bind (·.dst)with
   |none=>rfl
   |some t=>
    have c:D.T t=false:=by grind[Nb]
    simp[h.same t c]
  grind
theorem Se{p:Item->Bool}{id:Nat}:∀{k k':List Item},exitTo id k=some k'->k.all p=true->k'.all p=true
 | [],_,e,_=>GR
 |x::k,k',e,h=>by
  simp only[List.all_cons,Bool.and_eq_true]at h;cases x with
  |inBlock a=>
   simp only[exitTo]at e;split at e
   ·cases e;exact h.2
   ·exact Se e h.2
  | _=>simp only[exitTo]at e;exact Se e h.2
inductive sF{ar:Type}:Result ar->Prop
 |stuck {m:String} {w:World}:sF (.halt (.stuck m) w)
 |unsupported (u:Unsupported) {w:World} (h:∀g,u≠ .initOrder g):sF (.halt (.unsupported u) w)
theorem sF.bind{m:Sem ar}{k:ar->Sem aQ}(h:sF (m.run P w)):sF ((m>>= k).run P w):=by rw[np];generalize m.run P w=r at h;cases h with|stuck=>exact .stuck|unsupported u a=>exact .unsupported u a
theorem sF.next{m:Sem ar}{k:ar->Sem aQ}(h:sF (m.run P w)\/∃a,m.run P w=.ok a w/\sF ((k a).run P w)):sF ((m>>= k).run P w):=by
 rcases h with h|⟨a,e,h⟩
 ·exact h.bind
 simp_all
theorem anf(t:TypeId)(i:Value)(w:World):sF ((do pure (Next.value (<-Instr.indexAt t undef i)):Sem Next).run P w):=by
 refine sF.bind ?_;unfold Instr.indexAt;refine sF.next ?_;cases i with
 |int k n=>refine .inr ⟨(k,n),rfl,?_⟩;refine sF.next ?_;cases b:P.underlying t with|none=>exact .inl (by simp only[underlying,Go.program,Bind.bind,Sem.bind,Sem.run,b];exact .stuck)|some d=>refine .inr ⟨d,by simp_all[underlying,Go.program,Sem.run],?_⟩;cases d<;>exact sF.bind .stuck
 |pointer p=>cases p with
  |none=>exact .inl .stuck
  |some a=>exact .inl (.unsupported _ AU)
 | _=>exact .inl .stuck
theorem ang{ev:Operand->Value}{t:Nat}{c:Call}{e9 ty e:TypeId}(a:c.callee=.builtin .len)(f:c.args=#[.tmp t])(b:c.argTypes=#[e9])(h:ev (.tmp t)=undef)(i:P.underlying e9=some (.slice e))(w:World):sF ((do let d <-resolve ev c ty;invoke d.target d.args:Sem Next).run P w):=by
 have g:(Go.underlying e9).run P w=.ok (.slice e) w:=by simp_all[underlying,Go.program,Sem.run]
 simp[resolve,invoke,builtin,Builtin.len_,go_sem,a,f,b,h,g,undef];constructor
theorem anh(hF:P.follows .rangeFuncRecover=true)(j:a.mode=.run)(h:fa D a b)(l:nH P D a){ops:Array Oper}{i:Nat}{rest:List Nat}{k:List Item}(ht:a.todo=.inRegion ops (i::rest)::k){o:Oper}(C:ops[i]?=some o)(E:wz D ops o=true)(cs:List Frame)(hl:cs.length=D.d)(w:World):fl P D (stepG.oper P true a cs none w) (stepG.oper P true b cs none w):=by
 have z:a.oper?=some o:=Gx;have ob:b.oper?=some o:=by simp[Frame.oper?,h.todo,ht,C]
 have H:=l.round;have J:b.roundOf=none:=h.roundOf.trans H;unfold stepG.oper;simp[z,ob,H,J];simp[wz]at E;rcases E.2 with(F|m)|f
 ·simp only[jf,Bool.and_eq_true,Bool.not_eq_true']at F;have hd:∀d,o.dst=some d->D.T d=false:=fun d e=>by grind[Na]
  have S:∀c T,o.op≠ .select c T:=AU;have N:execOp b.eval o=execOp a.eval o:=execOp_congr o S fun x M=>h.eval (Array.all_eq_true_iff_forall_mem.1 F.1.1 x M);rw[N];refine DL hF j (.h5 h ⟨l,fun _ ops' K s k' e o' A d p=>?_⟩ hl) _ _;grind
 ·unfold ZL at m;split at m
  ·rename_i t d g Q;simp at m;have q:=Nf (v:=a.eval (.tmp t)) (u:=b.eval (.tmp t)) h l AU (fun _ ops' K s k' e o' A W p=>by
    rw[ht]at e;cases e;rw[C]at A;cases A;rw[Q]at p;cases p;exact⟨AU,fun _=>h.Nd j m.1⟩)
   have R:execOp a.eval o=pure (.value (a.eval (.tmp t))):=by grind[execOp]
   have L:execOp b.eval o=pure (.value (b.eval (.tmp t))):=by grind[execOp]
   rw[R,L];simp only[stepG.apply,if_true,Sem.runT,pure,h.fn,h.kind];exact .after _ (.go (.h5 q.1 q.2 _ hl _ _))
  grind
 ·have n:∀w,sF ((execOp a.eval o).run P w):=by
   unfold ZK at f;split at f
   ·rename_i t x g;intro w;simp only[execOp,g,h.Nd j f];exact .stuck
   ·rename_i t x y g;intro w;simp only[execOp,g,h.Nd j f];exact anf _ _ _
   ·rename_i c g;intro w;simp only[execOp,g];unfold ZJ at f;split at f
    ·rename_i O;split at f
     ·rename_i t ty V U;simp at f;obtain⟨e,B⟩:=l.sl _ f.2;exact ang O AU AU (h.Nd j f.1) B w
     grind
    grind
   grind
  have:=n w;simp only[stepG.apply,if_true];rcases hr:(execOp a.eval o).runT P w #[]with⟨r,es⟩;have I:(execOp a.eval o).run P w=r:=by simp_all
  rw[I]at this;cases this with|stuck=>exact fl.Cs|unsupported u B=>grind[fl.Cs]
theorem fa.zp(h:fa D a b)(k:List Item):fa D {a with todo:=k} {b with todo:=k}:=h.aDb rfl rfl (by rw[h.eq]) fun x=>x
theorem fa.wX(h:fa D a b){m:FrameMode}(c:m≠ .run):fa D {a with mode:=m} {b with mode:=m}:=h.aDb rfl rfl (by rw[h.eq]) AU
theorem nH.wX(h:nH P D a){m:FrameMode}(b:m≠ .run):nH P D {a with mode:=m}:=h.aDb rfl rfl AU
theorem nH.zp(h:nH P D a){k:List Item}(b:k.all (iP D)=true):nH P D {a with todo:=k}:=h.aDb rfl rfl fun _=>b
theorem ank(hF:P.follows .rangeFuncRecover=true)(main:Bool)(A:a.mode=.run)(h:fa D a b)(f:nH P D a)(cs:List Frame)(hl:cs.length=D.d)(w:World):fl P D (stepG.exec P main true a cs none w) (stepG.exec P main true b cs none w):=by
 have j:=f.items A;have g:∀k:List Item,k.all (iP D)=true->fl P D (.go {frame:={a with todo:=k},callers:=cs,status:=.running,dying:=none} w) (.go {frame:={b with todo:=k},callers:=cs,status:=.running,dying:=none} w):=fun k m=>.go (.h5 (h.zp k) (f.zp m) _ hl _ _);have C:fl P D (.go {frame:={a with mode:=.returning},callers:=cs,status:=.running,dying:=none} w) (.go {frame:={b with mode:=.returning},callers:=cs,status:=.running,dying:=none} w):=.go (.h5 (h.wX Aa) (f.wX Aa) _ hl _ _);have ht:=h.todo;have s:=f.round;have z:b.roundOf=none:=h.roundOf.trans s;unfold stepG.exec;rw[ht];rw[ht]at C;cases m:a.todo with
 |nil=>grind
 |cons x k=>
  rw[m]at j;simp only[List.all_cons,Bool.and_eq_true]at j;obtain⟨d,n⟩:=j;cases x with
  |code c=>
   have d:qE D c=true:=d;cases c with
   |ret=>grind
   |skip=>grind
   |seq c1 bH=>simp_all[qE,iP]
   |cond c t e=>
    simp[qE]at d;simp[h.eval d.1.1];split
    ·rename_i H _;refine g _ ?_;simp only[List.all_cons,iP,Bool.and_eq_true];grind
    ·exact .ended
   |block id c=>exact g _ (by simp only[List.all_cons,iP,Bool.and_eq_true];exact⟨d,trivial,n⟩)
   |loop c=>exact g _ (by simp only[List.all_cons,iP,Bool.and_eq_true];exact⟨d,d,n⟩)
   |exit id=>simp only[];cases E:exitTo id k with|none=>simp only[Option.elim,s,z];exact .ended|some k'=>grind[Se]
   |region id ops draw=>
    have y:∀l:List Nat,(Item.inRegion ops l::k).all (iP D)=true:=fun l=>by rw[List.all_cons,Bool.and_eq_true];refine⟨?_,n⟩;simp[iP];intro i _;cases r:ops[i]? with|none=>rfl|some o=>exact Array.all_eq_true_iff_forall_mem.1 d o (Array.mem_of_getElem? r)
    cases draw with
    |false=>grind
    |true=>
     simp only[h.fn,Bool.not_true,Bool.false_eq_true,if_false];split
     ·rename_i t _ _;have q:nJ P D ⟨{a with todo:=_},cs,.running,none,none⟩ ⟨{b with todo:=_},cs,.running,none,none⟩:=.h5 (h.zp _) (f.zp (y (Region.schedule (P.follows .mixedOrders) ops t))) cs hl .running none;rw[h.fn]at q;exact .go q
     ·exact .ended
   | _=>cases d
  |inBlock id=>grind
  |inLoop c=>simp_all[iP]
  |inRegion ops l=>
   cases l with
   |nil=>grind
   |cons i rest=>
    simp only[iP,List.all_cons,Bool.and_eq_true]at d;simp only[];cases r:ops[i]? with
    |none=>simp;obtain⟨q1,p⟩:=Nf (v:=undef) (u:=undef) h f AU AU;exact .go (.h5 q1 p _ hl _ _)
    |some o=>
     have F:wz D ops o=true:=AU;have B:Nb D ops o=true:=by simp_all[wz]
     simp[h.wanted B];split
     ·grind[anh]
     ·obtain⟨q1,p⟩:=Nf (v:=undef) (u:=undef) h f AU AU;exact .go (.h5 q1 p _ hl _ _)
  | _=>cases d
theorem Gk(c:nI P D cs bf)(main:Bool)(fr:Frame)(v:Value)(w:World):fl P D (doReturn P main fr cs none v w) (doReturn P main fr bf none v w):=by
 cases c with
 |there x h=>
  simp[doReturn];split
  ·exact .go (.under _ h _ _)
  ·exact .go (.under _ h _ _)
  ·exact .go (.under _ h _ _)
  ·exact .go (.under _ h _ _)
 |@here x y h a l hl=>
  have b:=h.mode;simp[doReturn];have gt:fl P D (.go {frame:=x.finish v,callers:=l,status:=.running,dying:=none} w) (.go {frame:=y.finish v,callers:=l,status:=.running,dying:=none} w):=.go ((h6.h5 h a hl).gt v _ _);split
  ·grind
  ·grind
  ·exact .go (.h5 h a.tonH _ hl _ _)
  ·rw[b];split
   ·split
    ·exact .go (.h5 (h.wX Aa) (a.tonH.wX Aa) _ hl _ _)
    ·exact .go (.h5 (h.wX Aa) (a.tonH.wX Aa) _ hl _ _)
   ·exact .go (.h5 h a.tonH _ hl _ _)
theorem ZQ(h:h6 P D a cs b bf)(d:Deferred)(w:World):fl P D (callDeferred P a cs none d w) (callDeferred P b bf none d w):=by
 have zW:=h.zW .running none;unfold callDeferred;rw[h.mode,h.fn];refine fl.ite (fun _=>.ended) (fun _=>?_);rcases hr:(invoke d.target d.args).runT P w #[]with⟨r,es⟩;simp only[];refine fl.after _ ?_;cases r with
 |ok n w1=>
  cases n with
  |enter f args=>exact .go (.under _ h.push _ _)
  |round l f tmps assign body=>exact .go (.under _ h.push _ _)
  |callThen d resume saved wrapper=>exact .go (.under _ h.push _ _)
  |row row args=>exact .go (.under _ h.push _ _)
  |recover=>
   obtain⟨j,i⟩:=h.recover;simp only[];cases g:tryRecover a cs with
   |none=>rw[j g];cases a.mode<;>exact .go zW
   |some p=>
    obtain⟨v0,cu⟩:=p;obtain⟨o,k,h0⟩:=i v0 cu g;rw[k];cases a.mode
    ·exact .go zW
    ·exact .go (h0.zW _ _)
    ·exact .go zW
  |sleep t=>exact .xP AU
  |alone on v=>cases on<;>exact fun _ _ _ e=>GR
  |timer op=>exact .ended
  |collect=>exact fun _ _ _ e=>GR
  |watch v=>exact fun _ _ _ e=>GR
  |coroswitch c ex=>cases ex<;>exact fun _ _ _ e=>GR
  |newcoro c d=>exact .ended
  |stack r s=>exact .ended
  | _=>exact .go zW
 |halt hl w1=>cases hl with|panic v=>exact .go (h.raise _ _ _)|goexit=>exact .go (h.raise _ _ _)|blocked=>exact .xP AU|waiting=>exact .xP AU|fatal m=>exact ZP|throw m=>exact .xP AU| _=>exact .ended
theorem ZR{f g:ar->Sem aQ}:∀{l:List ar},(∀x∈l,f x=g x)->l.mapM f=l.mapM g
 | [],_=>rfl
 |x::l,h=>by rw[List.mapM_cons,List.mapM_cons,h x Aa,ZR fun y a=>h y (by simp[a])]
theorem anl(h:fa D a b){fn:Func}(c:fn.results.all (DJ D)=true):results fn b.tmps=results fn a.tmps:=by
 unfold results;congr 1
 rw[Array.mapM_eq_mapM_toList,Array.mapM_eq_mapM_toList];congr 1
 refine ZR fun r e=>?_;have d:=Array.all_eq_true_iff_forall_mem.1 c r AU;cases r with|tmp t=>simp[h.getD (show D.T t=false by grind[DJ])]|cell x t=>simp[h.getD (show D.T x=false by grind[DJ])]
theorem anm(main:Bool)(m:a.mode≠ .run)(h:fa D a b)(e:nH P D a)(cs:List Frame)(hl:cs.length=D.d)(w:World):fl P D (unwind P main a cs none w) (unwind P main b cs none w):=by
 have g:h6 P D a cs b cs:=.h5 h ⟨e,AU⟩ hl;unfold unwind;rw[h.defers];cases hd:a.defers with
 |nil=>
  simp only[h.mode];split
  ·grind
  ·rename_i chain _;have f:b.catches P=a.catches P:=by rw[h.eq];rfl
   rw[f];split
   ·exact .ended
   cases cs with
   |cons c rest=>exact .go (.same _ AU)
   |nil=>
    simp only[];split
    ·exact .xP AU
    split
    ·exact .xP AU
    ·exact .ended
    ·exact .ended
  ·obtain⟨fn,k,j⟩:=e.Gh;simp only[h.fn,k,anl h j];rcases(results fn a.tmps).runT P w #[]with⟨r,es⟩;simp only[];refine fl.after _ ?_;cases r with
   |ok v w1=>
    simp only[doReturn,h.kind,h.fn];cases cs with
    |cons c rest=>simp only[];cases a.kind<;>exact .go (.same _ AU)
    |nil=>
     simp only[];split
     ·grind
     ·exact .ended
     ·rw[e.Nc];split
      ·exact .xP AU
      ·exact .ended
   |halt hl w1=>cases hl<;>exact .ended
 |cons d ds=>
  obtain⟨i,args⟩:=d;have f:=ZQ (g.CC ds) ⟨i,args⟩ w;cases i with
  |collected l=>simp only[h.fn];rcases(Instr.takeDeferred l).runT P w #[]with⟨r,es⟩;simp only[];refine fl.after _ ?_;cases r with|ok calls w1=>have q:=(g.CC (calls++ds)).zW .running none;rw[h.fn]at q;exact .go q|halt hl w1=>exact .ended
  | _=>exact f
theorem ann(main:Bool)(b:nI P D cs bf)(w:World):fl P D (unwind P main a cs none w) (unwind P main a bf none w):=by
 have i:h6 P D a cs a bf:=.under a b;unfold unwind;cases hd:a.defers with
 |nil=>
  simp only[];split
  ·exact .ended
  ·rename_i chain _;split
   ·exact .ended
   cases b with
   |@here x y h e l hl=>obtain⟨g,f⟩:=ZN h e.tonH chain;exact .go (.h5 g f _ hl _ _)
   |there x h=>exact .go (.under _ h _ _)
  ·cases P.funcs[a.fn]? with|none=>grind[Gk]|some fn=>simp only[];rcases(results fn a.tmps).runT P w #[]with⟨r,es⟩;simp only[];refine fl.after _ ?_;cases r with|ok v w1=>grind[Gk]|halt hl w1=>cases hl<;>exact .ended
 |cons d ds=>
  obtain⟨c,args⟩:=d;have j:=ZQ (i.CC ds) ⟨c,args⟩ w;cases c with
  |collected k=>simp only[];rcases(Instr.takeDeferred k).runT P w #[]with⟨r,es⟩;simp only[];refine fl.after _ ?_;cases r with|ok calls w1=>exact .go (.under _ b _ _)|halt hl w1=>exact .ended
  | _=>grind
theorem ano(hF:P.follows .rangeFuncRecover=true)(main:Bool)(h:nI P D cs bf)(m:a.mode=.run)(w:World):fl P D (stepG.exec P main true a cs none w) (stepG.exec P main true a bf none w):=by
 have q:h6 P D a cs a bf:=.under a h;have go:∀(fr:Frame)(w:World)(es:Array Event),fl P D (.go {frame:=fr,callers:=cs,status:=.running,dying:=none} w es) (.go {frame:=fr,callers:=bf,status:=.running,dying:=none} w es):=fun fr w es=>.go (.under _ h _ _);unfold stepG.exec;cases p:a.todo with
 |nil=>cases g:a.roundOf with|none=>grind|some b=>simp only[];rcases(Instr.endRound b (none)).runT P w #[]with⟨r,es⟩;simp only[];refine fl.after _ ?_;cases r with|ok v w1=>grind[Gk]|halt hl w1=>exact .ended
 |cons x k=>
  cases x with
  |code c=>
   cases c with
   |ret=>cases g:a.roundOf with|none=>grind|some b=>simp only[];rcases(Instr.endRound b (some .ret)).runT P w #[]with⟨r,es⟩;simp only[];refine fl.after _ ?_;cases r with|ok v w1=>grind[Gk]|halt hl w1=>exact .ended
   |cond c t e=>
    simp only[];split
    ·grind
    ·exact .ended
   |exit id=>
    simp only[];cases n:exitTo id k with
    |none=>
     cases g:a.roundOf with
     |none=>simp only[Option.elim];first|exact go _ _ _ |exact .ended
     |some b=>simp only[Option.elim];rcases(Instr.endRound b (some (.exit id))).runT P w #[]with⟨r,es⟩;simp only[];refine fl.after _ ?_;cases r with|ok v w1=>grind[Gk]|halt hl w1=>exact .ended
    |some k'=>grind
   |goto l=>
    simp only[];cases n:gotoIn l k with
    |none=>
     cases g:a.roundOf with
     |none=>simp only[Option.elim];first|exact go _ _ _ |exact .ended
     |some b=>simp only[Option.elim];rcases(Instr.endRound b (some (.goto l))).runT P w #[]with⟨r,es⟩;simp only[];refine fl.after _ ?_;cases r with|ok v w1=>grind[Gk]|halt hl w1=>exact .ended
    |some k'=>grind
   |rangeFunc f params assign body=>
    simp only[];rcases(Instr.enterLoop a.fn a.tmps params assign body a.roundOf).runT P w #[]with⟨r,es⟩;simp only[];refine fl.after _ ?_;cases r with
    |ok lm w1=>obtain⟨l,mk⟩:=lm;exact DL hF (by exact m) (h6.under _ h) _ _
    |halt hl w1=>exact .ended
   |refuse o=>exact .ended
   |region id ops draw=>
    cases draw with
    |false=>grind
    |true=>
     simp only[Bool.not_true,Bool.false_eq_true,if_false];split
     ·grind
     ·exact .ended
   | _=>grind
  |inRegion ops l=>
   cases l with
   |nil=>grind
   |cons i rest=>
    simp only[];split
    ·unfold stepG.oper;split
     ·exact .ended
     ·split
      ·grind[DL]
      grind[DL]
    grind
  |inRangeFunc l=>exact .ended
  |beginRound=>grind[DL]
  |endRangeFunc l=>simp only[];rcases(Instr.endLoop l).runT P w #[]with⟨r,es⟩;simp only[];refine fl.after _ ?_;cases r with|ok j w1=>grind|halt hl w1=>cases hl with|panic v=>grind| _=>exact .ended
  |call d wr rs sv=>grind[DL]
  |extern row args=>simp only[];cases Extern.next row with|none=>exact .ended|some e=>grind[DL]
  | _=>grind
theorem anp(hF:P.follows .rangeFuncRecover=true)(main:Bool)(h:nJ P D g g')(f:D.d<=g.callers.length)(hd:g.dying=none)(w:World):fl P D (stepG P main g w) (stepG P main g' w):=by
 cases h with
 |same g hl=>omega
 |@h5 a b h c cs hl s d=>obtain rfl:d=none:=hd;unfold stepG;simp[h.mode];grind[ank,anm]
 |@under a cs bf e s d=>obtain rfl:d=none:=hd;unfold stepG;grind[ano,ann]
end
theorem nJ.zl{P:Program}{D:gp}(h:nJ P D g g'):g'.status=g.status/\g'.dying=g.dying:=by cases h<;>exact⟨rfl,rfl⟩
theorem qj.var{P:Program}{D:gp}(hF:P.follows .rangeFuncRecover=true){main:Bool}{K:Nat->Prop}{post:a6->Prop}{base:List Frame}(u:D.d<=base.length){X:a6}(h:qj P main K (HT base) post X):
 ∀g',nJ P D X.g g'->jO P main K (fun i=>∃Y,post Y/\nJ P D Y.g i.g/\i.w=Y.w/\i.mine=Y.mine) ⟨g',X.w,X.mine⟩:=by
 induction h with
 |@done X h=>exact fun g' f=>.done ⟨X,h,f,rfl,rfl⟩
 |@step X Fs ok _ q=>
  intro g' f;obtain⟨fr,cs,k⟩:=Fs;have hstep:∀w' g1 w1 es,stepG P main X.g w'=.go g1 w1 es->g1.status=.running->g1.dying=none->∃c,stepG P main g' w'=.go c w1 es/\nJ P D g1 c:=fun w' g1 w1 es e s r=>anp hF main f (by rw[k];simp[bb];omega) (by rw[k];rfl) w' g1 w1 es e s r;refine .step (fun w' b=>?_) (fun w' g1 w1 es b e=>?_)
  ·obtain⟨g1,w1,es,e,a⟩:=ok w' ⟨b.heap,b.size,b.env⟩;obtain⟨c,g,d⟩:=hstep w' g1 w1 es e a.run a.pq;obtain⟨t,p⟩:=d.zl;exact⟨c,w1,es,g,t.trans a.run,p.trans a.pq,a.kept,a.size,a.os,a.output,a.tape,a.drawn,a.evs⟩
  ·have j:kl K X w':=⟨b.heap,b.size,b.env⟩;obtain⟨l,n,o,m,a⟩:=ok w' j;obtain⟨c,g,d⟩:=hstep w' l n o m a.run a.pq;rw[g]at e;cases e;exact q w' l _ _ j m _ d
theorem nI.lt{P:Program}{D:gp}{l b:List Frame}(h:nI P D l b):D.d<l.length:=by induction h with|here h v l hl=>simp;omega|there a h c=>simp;omega
end nG
namespace b_
open RowKit az
theorem ZY:(ai prog false).funcs[(189:Nat)]?=some f189:=bl (upd:=false) func189 AS
@[simp] theorem aDQ (args:Array Value) (w:World):Sem.run (ai prog false) (callFunc 189 args) w=.ok (.enter 189 args) w:=c8 ZY AS args w
theorem ZZ:(ai prog false).funcs[(190:Nat)]?=some f190:=bl (upd:=false) func190 AS
@[simp] theorem aDR (args:Array Value) (w:World):Sem.run (ai prog false) (callFunc 190 args) w=.ok (.enter 190 args) w:=c8 ZZ AS args w
theorem Nn:(ai prog false).funcs[(188:Nat)]?=some f188:=bl (upd:=false) func188 AS
@[simp] theorem aDS (args:Array Value) (w:World):Sem.run (ai prog false) (callFunc 188 args) w=.ok (.enter 188 args) w:=c8 Nn AS args w
abbrev eW(n:Int):Prop:= -9223372036854775808<=n/\n<=9223372036854775807
theorem anJ(a b:Int)(d:eW a)(c:eW b)(h:eW (a+b))(w:World):
 Calls (ai prog false) 189 #[.int .i64 a,.int .i64 b] w fun e w'=>e=.returned (.tuple #[.int .i64 (a+b),.bool true])/\w'=w:=by
 obtain⟨l,f⟩:=d;obtain⟨j,k⟩:=c;obtain⟨i,g⟩:=h;go_enter ZY,ntmps189
 go_wp2
 have e:(decide (a+b<a)==decide (b<0))=true:=by grind
 simp_all[bodyPost_ret,results]
theorem Z0(a b:Int)(d:eW a)(c:eW b)(h:eW (a-b))(w:World):
 Calls (ai prog false) 190 #[.int .i64 a,.int .i64 b] w fun e w'=>e=.returned (.tuple #[.int .i64 (a-b),.bool true])/\w'=w:=by
 obtain⟨l,f⟩:=d;obtain⟨j,k⟩:=c;obtain⟨i,g⟩:=h;go_enter ZZ,ntmps190
 go_wp2
 have e:(decide (a-b<a)==decide (0<b))=true:=by grind
 simp_all[bodyPost_ret,results]
theorem Z1(a b:Int)(g:eW a)(f:eW b)(h:eW (a*b))(w:World):
 Calls (ai prog false) 188 #[.int .i64 a,.int .i64 b] w fun e w'=>e=.returned (.tuple #[.int .i64 (a*b),.bool true])/\(w'=w\/w'=w.drew):=by
 obtain⟨j,d⟩:=g;obtain⟨n,o⟩:=f;obtain⟨m,l⟩:=h;by_cases c:b=0
 ·subst c;go_enter Nn,ntmps188
  go_wp2
  simp_all[bodyPost_ret,results]
 ·by_cases i:b= -1
  ·subst i;go_enter Nn,ntmps188
   go_wp2_with (go_at_call 190;refine(Z0 _ _ AU ⟨j,d⟩ AU _).mono ?_;rintro e w' ⟨rfl,rfl⟩)
   simp_all[bodyPost_ret,results]
  ·have k:(a*b).tdiv b=a:=Int.mul_tdiv_cancel _ c;go_enter Nn,ntmps188
   go_wp2
   go_region
   go_wp2
   simp_all[bodyPost_ret,results]
theorem Z2:(ai prog false).funcs[(182:Nat)]?=some f182:=bl (upd:=false) func182 AS
@[simp] theorem aDT (args:Array Value) (w:World):Sem.run (ai prog false) (callFunc 182 args) w=.ok (.enter 182 args) w:=c8 Z2 AS args w
def wD(n:Int):Nat->Int|0=>n|k+1=>wD n k*10
def zZ(n:Int):Nat->Int|0=>n|k+1=>(zZ n k).tdiv 10
theorem Z3(n:Int):∀k,eW (wD n k)->∀j,j<=k->eW (wD n j)
 |0,h,j,a=>by grind
 |k+1,h,j,a=>by
  by_cases e:j=k+1
  ·grind
  ·refine Z3 n k ?_ j Ay;grind[wD]
theorem So(n:Int)(h:eW n):∀k,eW (zZ n k)
 |0=>h
 |k+1=>by have:=So n h k;grind[zZ]
def qI(n:Int)(fr aL:Nat):Int:=if fr<=aL then wD n (aL-fr)else zZ n (fr-aL)
theorem anK(n:Int)(fr aL:Nat)(x:eW n)(C:fr<=100)(z:aL<=100)(h:eW (qI n fr aL))(w:World):
 Calls (ai prog false) 182 #[.int .i64 n,.int .i64 fr,.int .i64 aL] w fun e w'=>e=.returned (.tuple #[.int .i64 (qI n fr aL),.bool true])/\Below w.heap.size w w':=by
 go_enter Z2,ntmps182
 go_wp2
 go_loopw [0,1,8] (fun a b c W=>∃k:Nat,fr<=k/\(k=fr\/k<=aL)/\a=.int .i64 (wD n (k-fr))/\b=.int .i64 (k:Int)/\c=.bool true/\Below w.heap.size w W) (fun _ b _ _=>aL-(intOf b).toNat)
 case atStart=>exact⟨fr,Nat.le_refl _,.inl rfl,by rw[Nat.sub_self];rfl,rfl,rfl,Below.refl _ _⟩
 case round=>
  obtain⟨k,B,A,rfl,rfl,rfl,f⟩:=hrel;by_cases q:k<aL
  ·have r:fr<=aL:=by omega
   have m:∀j,j<=aL-fr->eW (wD n j):=Z3 n (aL-fr) (by grind[qI]);have f1:=m (k-fr) Ay;have d:eW (wD n (k-fr)*10):=by have:=m (k-fr+1) Ay;exact this
   have s:(k:Int)<(aL:Int):=Ay;go_wp2_with (go_at_call 188;refine(Z1 _ _ f1 AW d _).mono ?_;rintro e w' ⟨rfl,p⟩;have o:Below w'.heap.size wr w':=(p.elim (fun h=>h▸Below.refl _ _) (fun h=>h▸(Below.refl _ _).drew));clear p)
   exact⟨⟨k+1,Ay,.inr Ay,by rw[show k+1-fr=k-fr+1 from Ay];rfl,Aa,rfl,f.trans (o.mono (Nat.le_trans f.size o.size))⟩,by simp[intOf];omega⟩
  ·have s:¬(k:Int)<(aL:Int):=by omega
   have l:zZ (wD n (k-fr)) (k-aL)=qI n fr aL:=by
    unfold qI;split
    ·rw[show k=aL from Ay,Nat.sub_self];rfl
    ·rw[show k=fr from Ay,Nat.sub_self];rfl
   have i:eW (wD n (k-fr)):=by
    unfold qI at h;split at h
    ·grind
    ·rw[show k=fr from Ay,Nat.sub_self];exact x
   generalize wD n (k-fr)=v at l i;go_wp2
   go_loopw [0,1] (fun a b W=>∃j:Nat,aL<=j/\j<=k/\a=.int .i64 (zZ v (k-j))/\b=.int .i64 (j:Int)/\Below w.heap.size w W) (fun _ b _=>(intOf b).toNat)
   case atStart=>exact⟨k,Ay,Nat.le_refl _,by rw[Nat.sub_self];rfl,rfl,f⟩
   case round=>
    obtain⟨j,D,E,rfl,rfl,t⟩:=hrel;by_cases u:aL<j
    ·have y:(aL:Int)<(j:Int):=by omega
     have f1:=So v i (k-j);have d:=So v i (k-j+1);simp[zZ]at d;obtain⟨f11,f12⟩:=f1;obtain⟨f21,f22⟩:=d;go_wp2
     exact⟨⟨j-1,Ay,Ay,by rw[show k-(j-1)=k-j+1 from Ay];rfl,AU,t⟩,by simp[intOf];omega⟩
    ·have y:¬(aL:Int)<(j:Int):=by omega
     have g:j=aL:=Ay;subst g;rw[l];go_wp2
     simp_all[bodyPost_ret,results]
theorem Z4:(ai prog false).funcs[(183:Nat)]?=some f183:=bl (upd:=false) func183 AS
@[simp] theorem aDU (args:Array Value) (w:World):Sem.run (ai prog false) (callFunc 183 args) w=.ok (.enter 183 args) w:=c8 Z4 AS args w
theorem No:(ai prog false).funcs[(187:Nat)]?=some f187:=bl (upd:=false) func187 AS
@[simp] theorem aDV (args:Array Value) (w:World):Sem.run (ai prog false) (callFunc 187 args) w=.ok (.enter 187 args) w:=c8 No AS args w
theorem Jn(m:Value)(n s:Int)(w:World):
 Calls (ai prog false) 183 #[m,.int .i64 n,.bool true,.int .i64 s] w fun e w'=>e=.returned (ib ⟨false,n,s,hR⟩)/\w'=w.alloc (.cells #[.bool false,.int .i64 n,.int .i64 s,.string ⟨#[]⟩] 95):=by
 go_enter Z4,ntmps183
 go_wp2
 exact bodyPost_ret (v:=ib ⟨false,n,s,hR⟩) (by simp[results,results183,go_sem,hR]) rfl ⟨rfl,rfl⟩
def jY(op:Int)(l r:bU):bU:=if op=5 then⟨false,l.cb+r.cb,l.cE,hR⟩else if op=6 then⟨false,l.cb-r.cb,l.cE,hR⟩else⟨false,l.cb*r.cb,l.cE+r.cE,hR⟩
theorem anM(m:Value)(op:Int)(l r:bU)(w:World)(hl:eW l.cb)(c:eW r.cb)(a:eW (jY op l r).cb)(b:eW (jY op l r).cE):
 Calls (ai prog false) 187 #[m,.int .i64 op,ib l,ib r] w fun e w'=>e=.returned (ib (jY op l r))/\Below w.heap.size w w':=by
 have k:∀(h g f d:Obj),Below w.heap.size w ((((w.alloc h).alloc g).alloc f).alloc d):=fun h g f d=>((((Below.refl _ w).alloc Jr _).alloc Aa _).alloc Bu _).alloc Bu _;unfold jY at *;by_cases i:op=5
 ·subst i;simp at a b⊢;go_enter No,ntmps187
  go_wp2_with (first|(go_at_call 189;refine(anJ _ _ hl c a _).mono ?_;rintro e w' ⟨rfl,rfl⟩)|(go_at_call 183;refine(Jn _ _ _ _).mono ?_;rintro e w' ⟨rfl,rfl⟩))
  exact bodyPost_ret (v:=ib ⟨false,l.cb+r.cb,l.cE,hR⟩) Fq rfl AU
 ·rw[if_neg i]at a b⊢;by_cases j:op=6
  ·subst j;simp at a b⊢;go_enter No,ntmps187
   go_wp2_with (first|(go_at_call 190;refine(Z0 _ _ hl c a _).mono ?_;rintro e w' ⟨rfl,rfl⟩)|(go_at_call 183;refine(Jn _ _ _ _).mono ?_;rintro e w' ⟨rfl,rfl⟩))
   exact bodyPost_ret (v:=ib ⟨false,l.cb-r.cb,l.cE,hR⟩) Fq rfl AU
  ·rw[if_neg j]at a b⊢;obtain⟨g1,n⟩:=b;go_enter No,ntmps187
   go_wp2
   refine(Z1 _ _ hl c a _).mono ?_;rintro e w' ⟨rfl,rfl|rfl⟩
   ·go_wp2_with (go_at_call 183;refine(Jn _ _ _ _).mono ?_;rintro e w' ⟨rfl,rfl⟩)
    exact bodyPost_ret (v:=ib ⟨false,l.cb*r.cb,l.cE+r.cE,hR⟩) Fq rfl AU
   ·go_wp2_with (go_at_call 183;refine(Jn _ _ _ _).mono ?_;rintro e w' ⟨rfl,rfl⟩)
    exact bodyPost_ret (v:=ib ⟨false,l.cb*r.cb,l.cE+r.cE,hR⟩) Fq rfl ⟨rfl,(k _ _ _ _).drew⟩
theorem Sq:(ai prog false).funcs[(179:Nat)]?=some f179:=bl (upd:=false) func179 AS
@[simp] theorem aDX (args:Array Value) (w:World):Sem.run (ai prog false) (callFunc 179 args) w=.ok (.enter 179 args) w:=c8 Sq AS args w
theorem Np:(ai prog false).funcs[(180:Nat)]?=some f180:=bl (upd:=false) func180 AS
@[simp] theorem aDY (args:Array Value) (w:World):Sem.run (ai prog false) (callFunc 180 args) w=.ok (.enter 180 args) w:=c8 Np AS args w
abbrev uL(t:cd):Value:=.agg #[.int .i64 t.op,.int .i64 t.a,.int .i64 t.v,.string t.s]
def kw(a:Int)(d:bU):bU:=if d.fj then d else⟨false,qI d.cb d.cE.toNat a.toNat,a,hR⟩
def sH(op:Int)(l r:bU):bU:=if l.fj||r.fj then g3 else jY op l r
theorem anN(m:Value)(t:cd)(d:bU)(w:World)(l:t.op=8)(u:eW d.cb)(y:0<=d.cE/\d.cE<=100)(z:0<=t.a/\t.a<=100)(h:eW (kw t.a d).cb):
 Calls (ai prog false) 179 #[m,uL t,ib d] w fun e w'=>e=.returned (ib (kw t.a d))/\Below w.heap.size w w':=by
 obtain⟨bG,c,ds,dt⟩:=d;obtain⟨op,a,o,q⟩:=t;simp only at l y z u;subst l;have r:∀(k j i:Obj),Below w.heap.size w (((w.alloc k).alloc j).alloc i):=fun k j i=>(((Below.refl _ w).alloc Jr _).alloc Aa _).alloc Bu _;cases bG with
 |true=>
  simp[kw];go_enter Sq,ntmps179
  go_wp2
  exact bodyPost_ret (v:=ib ⟨true,c,ds,dt⟩) (by simp[results,results179,go_sem]) rfl AU
 |false=>
  simp[kw]at h⊢;obtain⟨s,rfl⟩:∃s:Nat,ds=s:=AU;obtain⟨b,rfl⟩:∃b:Nat,a=b:=AU;simp at h⊢;go_enter Sq,ntmps179
  go_wp2
  refine(anK c s b u Ay Ay h _).mono ?_;rintro e w' ⟨rfl,f⟩;have n:=((af.new w #[.int .i64 8,.int .i64 (b:Int),.int .i64 o,.string q] 30).alloc (.cells #[.bool false,.int .i64 c,.int .i64 (s:Int),.string dt] 95)).alloc (.cells #[.bool false,.int .i64 0,.int .i64 0,.string ⟨#[]⟩] 95) |>.call f;have g:=(af.new ((w.alloc (.cells #[.int .i64 8,.int .i64 (b:Int),.int .i64 o,.string q] 30)).alloc (.cells #[.bool false,.int .i64 c,.int .i64 (s:Int),.string dt] 95)) #[.bool false,.int .i64 0,.int .i64 0,.string ⟨#[]⟩] 95).call f;simp at g;obtain⟨c1,f1,l1⟩:=n.all;obtain⟨eI,E,D⟩:=g.all;have p:Hid (Below w.heap.size w w'):=Below.step f (r _ _ _) Bu;have x:Hid (af w' (w.heap.size+1+1) #[.bool false,.int .i64 0,.int .i64 0,.string ⟨#[]⟩] 95):=g;clear f n g r;go_wp2_with (go_at_call 183;refine(Jn _ _ _ _).mono ?_;rintro e C ⟨rfl,rfl⟩)
  have B:=((((x.out.set 0 (.bool false)).set 1 (.int .i64 (qI c s b))).set 2 (.int .i64 (b:Int))).set 3 (.string hR)).alloc (.cells #[.bool false,.int .i64 (qI c s b),.int .i64 (b:Int),.string ⟨#[]⟩] 95);have A:=B.bT.1;refine bodyPost_ret (v:=ib ⟨false,qI c s b,b,hR⟩) (by simp[results,results179,go_sem,A]) rfl ⟨rfl,?_⟩;have:=p.out.size;exact((((p.out.setCell AU _).setCell AU _).setCell AU _).setCell AU _).alloc Bu _
theorem anO(m:Value)(op:Int)(l r:bU)(w:World)(B:op=5\/op=6\/op=7)(hl:eW l.cb)(s:eW r.cb)(t:eW (jY op l r).cb)(q:eW (jY op l r).cE):
 Calls (ai prog false) 180 #[m,.int .i64 op,ib l,ib r] w fun e w'=>e=.returned (ib (sH op l r))/\Below w.heap.size w w':=by
 have b:∀(h g f:Obj),Below w.heap.size w (((w.alloc h).alloc g).alloc f):=fun h g f=>(((Below.refl _ w).alloc Jr _).alloc Aa _).alloc Bu _;have h:op≠12:=Ay;have g:op≠13:=Ay;have f:op≠9:=Ay;have z:op≠10:=Ay;have E:op≠11:=Ay;obtain⟨k,j,aU,lt⟩:=l;obtain⟨d,c,rs,rt⟩:=r;unfold sH;cases u:(k||d)with
 |true=>
  simp;cases k with
  |true=>
   go_enter Np,ntmps180
   go_wp2_with (go_at_call 186;refine(vW _).mono ?_;rintro e w' ⟨rfl,rfl⟩)
   exact bodyPost_ret (v:=ib g3) (by simp[results,results180,go_sem]) rfl ⟨rfl,(b _ _ _).alloc Bu _⟩
  |false=>
   obtain rfl:d=true:=AU;go_enter Np,ntmps180
   go_wp2_with (go_at_call 186;refine(vW _).mono ?_;rintro e w' ⟨rfl,rfl⟩)
   exact bodyPost_ret (v:=ib g3) (by simp[results,results180,go_sem]) rfl ⟨rfl,(b _ _ _).alloc Bu _⟩
 |false=>
  simp;obtain rfl:k=false:=AU;obtain rfl:d=false:=AU;generalize n:jY op ⟨false,j,aU,lt⟩ ⟨false,c,rs,rt⟩=D at t q;go_enter Np,ntmps180
  go_wp2
  refine((n▸anM m op ⟨false,j,aU,lt⟩ ⟨false,c,rs,rt⟩ _ hl s AU AU:Calls _ _ _ _ (fun e w'=>e=.returned (ib D)/\Below _ _ w'))).mono ?_;rintro e w' ⟨rfl,i⟩;have a:=(af.new ((w.alloc (.cells #[.bool false,.int .i64 j,.int .i64 aU,.string lt] 95)).alloc (.cells #[.bool false,.int .i64 c,.int .i64 rs,.string rt] 95)) #[.bool false,.int .i64 0,.int .i64 0,.string ⟨#[]⟩] 95).call i;simp at a;obtain⟨eI,C,A⟩:=a.all;have o:Hid (Below w.heap.size w w'):=Below.step i (b _ _ _) Bu;have p:Hid (af w' (w.heap.size+1+1) #[.bool false,.int .i64 0,.int .i64 0,.string ⟨#[]⟩] 95):=a;clear i a b n;go_wp2
  have y:=(((p.out.set 0 (.bool D.fj)).set 1 (.int .i64 D.cb)).set 2 (.int .i64 D.cE)).set 3 (.string D.text);have x:=y.bT.1;refine bodyPost_ret (v:=ib D) (by simp[results,results180,go_sem,x]) rfl ⟨rfl,?_⟩;have:=o.out.size;exact(((o.out.setCell AU _).setCell AU _).setCell AU _).setCell AU _
theorem Z5:(ai prog false).funcs[(177:Nat)]?=some f177:=bl (upd:=false) func177 AS
@[simp] theorem aD0 (args:Array Value) (w:World):Sem.run (ai prog false) (callFunc 177 args) w=.ok (.enter 177 args) w:=c8 Z5 AS args w
def By(ds:List bU):List Value:=ds.flatMap fun d=>[.bool d.fj,.int .i64 d.cb,.int .i64 d.cE,.string d.text]
theorem Z6(ds:List bU)(d:bU):By (ds++[d])=By ds++[.bool d.fj,.int .i64 d.cb,.int .i64 d.cE,.string d.text]:=by simp[By]
variable {w:World}{g:Nat}{e:TypeId}
theorem Nq{b:Nat}{cs bp:Array Value}{T:TypeId}(h:af w b cs T)(c:w.heap[g]?=some (.cells bp e (0,0)))(a:T≠e):b≠g:=by rintro rfl;simp_all[af]
variable {n size:Nat}
theorem Nr{base:Nat}{v:Value}{xs:List Value}(h:w.ownsRow base e size v n xs)(a:v.ownBlock=some g):∃bp,w.heap[g]?=some (.cells bp e (0,0)):=by
 rcases h.2 with⟨rfl,_⟩|⟨g',cap,bp,rfl,_,b,_⟩
 ·simp[Value.ownBlock]at a
 grind[Value.ownBlock]
theorem L0{base:Nat}{v:Value}{xs:List Value}(h:w.ownsRow base e size v n xs){a:Addr}(b:∀g,v.ownBlock=some g->g≠a.block)(u:Value):(w.setCell a u).ownsRow base e size v n xs:=by refine⟨h.1,h.2.imp_right ?_⟩;rintro⟨g,cap,bp,rfl,f,d,c⟩;exact⟨g,cap,bp,rfl,f,by rw[Below.heap_setCell _ _ _ _ (b g rfl)];exact d,c⟩
structure kx(B m:Nat)(cv dZ:Value)(ds:List bU)(W:World):Prop where
 ge:B<=m
 own:∃sv,af W m #[cv,dZ,sv] 270/\W.ownsRow B 95 4 sv ds.length (By ds)
variable {B m:Nat}
theorem kx.call{c b:Value}{ds:List bU}{W W':World}(h:kx B m c b ds W)(a:Below W.heap.size W W'):kx B m c b ds W':=by obtain⟨sv,e,d⟩:=h.own;exact⟨h.ge,sv,e.call a,FA d a⟩
theorem Ss{i f:Value}{ds:List bU}(h:kx B m i f ds w)(Q:B<=w.heap.size)(aj:ds.length<=1000000)(d:bU):
 Calls (ai prog false) 177 #[.pointer (some ⟨m,0,none⟩),ib d] w fun e w'=>e=.returned (.tuple #[])/\kx B m i f (ds++[d]) w'/\Below B w w':=by
 obtain⟨E,sv,A,v⟩:=h;obtain⟨k,n,rfl⟩:=s4 v;have I:Hid (af w m #[i,f,.slice k ds.length n] 270):=A;obtain⟨bG,b,a,dt⟩:=d;go_enter Z5,ntmps177
 go_upto_region 1 with fail
 have q:Below w.heap.size w (w.alloc (.cells #[.bool bG,.int .i64 b,.int .i64 a,.string dt] 95)):=(Below.refl _ _).alloc Jr _;have M:Hid (af (w.alloc (.cells #[.bool bG,.int .i64 b,.int .i64 a,.string dt] 95)) w.heap.size #[.bool bG,.int .i64 b,.int .i64 a,.string dt] 95):=af.new _ _ _;have D:Hid (af (w.alloc (.cells #[.bool bG,.int .i64 b,.int .i64 a,.string dt] 95)) m #[i,f,.slice k ds.length n] 270):=A.call q;have S:Hid _:=FA v q;have H:Hid (Below w.heap.size w (w.alloc (.cells #[.bool bG,.int .i64 b,.int .i64 a,.string dt] 95))):=q;have Y:Hid (B<=(w.alloc (.cells #[.bool bG,.int .i64 b,.int .i64 a,.string dt] 95)).heap.size):=by unfold Hid;simp;omega
 clear q A v I;generalize w.alloc (.cells #[.bool bG,.int .i64 b,.int .i64 a,.string dt] 95)=c at *;obtain⟨db,dA,cY⟩:=D.out.all;obtain⟨jv,lR,Z⟩:=M.out.all;have p:Hid ((c.alloc (.cells #[.bool bG,.int .i64 b,.int .i64 a,.string dt] 95)).drew.ownsRow B 95 4 (.slice k ds.length n) ds.length (By ds)):=World.ownsRow.alloc S.out _;have L:Hid (∀j u,([.bool bG,.int .i64 b,.int .i64 a,.string dt]:List Value)[j]?=some u->(c.alloc (.cells #[.bool bG,.int .i64 b,.int .i64 a,.string dt] 95)).drew.cell? ⟨c.heap.size,j,none⟩=some u):=fun j u y=>by simp_all
 have J:Hid ((c.alloc (.cells #[.bool bG,.int .i64 b,.int .i64 a,.string dt] 95)).drew.heap.size=c.heap.size+1):=Bp;have C:Hid (B<=(c.alloc (.cells #[.bool bG,.int .i64 b,.int .i64 a,.string dt] 95)).drew.heap.size):=by grind[Hid]
 have K:Hid (∀u∈([.bool bG,.int .i64 b,.int .i64 a,.string dt]:List Value),u.oneCell'=true):=by intro u y;simp at y;rcases y with rfl|rfl|rfl|rfl<;>rfl
 have U:Hid (Below w.heap.size w (c.alloc (.cells #[.bool bG,.int .i64 b,.int .i64 a,.string dt] 95)).drew):=(H.out.alloc H.out.size _).drew;have r:Hid (af (c.alloc (.cells #[.bool bG,.int .i64 b,.int .i64 a,.string dt] 95)).drew m #[i,f,.slice k ds.length n] 270):=(D.out.alloc _).drew;go_region_law (refine LF Q2 _ B2 _ _ B2 B _ _ _ B2 p.out c.heap.size 1 1 _ B2 rfl L.out K.out Ay Ay Ay C.out (c.heap.size+1) J.out ?_;intro z t s W o V X;obtain⟨P,O,N⟩:=(r.out.grown o (fun g l=>by obtain⟨bp,x⟩:=Nr p.out l;exact Nq r.out x AW)).all)
 all_goals
  have F:af s m #[i,f,.slice k ds.length n] 270:=r.out.grown o (fun g l=>by obtain⟨bp,x⟩:=Nr p.out l;exact Nq r.out x AW);have T:Hid (kx B m i f (ds++[⟨bG,b,a,dt⟩]) (s.setCell ⟨m,2,none⟩ (.slice (some ⟨z,0,none⟩) (ds.length+1) t))):=by refine⟨E,_,by simpa using F.set 2 (.slice (some ⟨z,0,none⟩) (ds.length+1) t),?_⟩;grind[Z6,L0,Nr,Nq]
  have R:Hid (Below B w (s.setCell ⟨m,2,none⟩ (.slice (some ⟨z,0,none⟩) (ds.length+1) t))):=((U.out.mono Q).grown o C.out (fun g l=>(World.ownsRow.lt p.out g l).1)).setCell E _;clear W o V X P O N F;go_end0
  exact⟨rfl,T.out,R.out⟩
end b_
end Go.Proofs.YtoehnnefaeoeoaaGreat
