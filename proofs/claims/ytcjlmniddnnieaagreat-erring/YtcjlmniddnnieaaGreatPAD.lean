import Derived.Test.YtcjlmniddnnieaaGreatP01
import Derived.Test.YtcjlmniddnnieaaGreatProg
import Derived.Deep.Light
import Derived.Deep.RegionHeld3
import Derived.Deep.DrawnRows
import Derived.Lib.BufferWrite
import Derived.RangeFuncBound
import Derived.Shelf.RegionOpen
import Derived.OwnWalkIn
import Derived.LoopNIn
import Derived.LoopIn
import Derived.Conc.Beside
import Derived.Test.YtcjlmniddnnieaaGreatPAC
set_option linter.all false
set_option maxRecDepth 100000
set_option maxHeartbeats 16000000
namespace Go.Proofs.YtcjlmniddnnieaaGreat
def vbl:=@Go.wp_at_zero
def vbm:=@Go.wp_at_succ
def vcr:=@Go.wpIn_region_any
open Tryz
namespace au
section
section
variable(P:cf)(u:Bool)
@[simp] theorem ak4:(ae P u).toTables=P.toTables:=rfl
@[simp] theorem AE (t:uab):(ae P u).underlying t=P.underlying t:=rfl
@[simp] theorem aDW:(ae P u).depth=P.depth:=rfl
@[simp] theorem aDX (t:uab):(ae P u).stoodInHeld t=P.stoodInHeld t:=(Mo (C:=cr P u) Y t).symm
@[simp] theorem aDY (n:Nat) (t:uab):(ae P u).eqGuardType n t=P.eqGuardType n t:=(Yj (C:=cr P u) Y n t).symm
@[simp] theorem aDZ (t:uab):(ae P u).cellsOf t=P.cellsOf t:=rfl
@[simp] theorem aD0 (t:uab):(ae P u).bytesOf t=P.bytesOf t:=rfl
@[simp] theorem YW (t:uab) (w:aH):Sem.run (ae P u) (typeInfo t) w=Sem.run P (typeInfo t) w:=by unfold typeInfo;simp only[nd,Go.program,Sem.run,ak4];cases P.info? t<;>rfl
@[simp] theorem ak5 (t:uab) (w:aH):Sem.run (ae P u) (underlying t) w=Sem.run P (underlying t) w:=by unfold underlying;simp only[nd,Go.program,Sem.run,AE];cases P.underlying t<;>rfl
@[simp] theorem aD1 (t:uab) (w:aH):Sem.run (ae P u) (Go.sizeOf t) w=Sem.run P (Go.sizeOf t) w:=by unfold Go.sizeOf;simp only[nd,YW];cases Sem.run P (typeInfo t) w<;>rfl
@[simp] theorem aD2 (t:uab) (w:aH):Sem.run (ae P u) (zeroValue t) w=Sem.run P (zeroValue t) w:=by unfold zeroValue;simp only[nd,YW];cases Sem.run P (typeInfo t) w with|ok i w1=>simp only[];cases i.zero<;>rfl|halt h w1=>rfl
@[simp] theorem aD3 (t:uab) (w:aH):Sem.run (ae P u) (isAgg t) w=Sem.run P (isAgg t) w:=by unfold isAgg;simp only[nd,ak5];cases Sem.run P (underlying t) w with|ok i w1=>cases i<;>rfl|halt h w1=>rfl
end
def cq{P:cf}{u:Bool}{f:uah}{fn:Func}(h:(ae P u).funcs[f]?=some fn)(hk:gz P u fn=true)(args:fi)(w:aH):Sem.run (ae P u) (callFunc f args) w=.ok (.enter f args) w:=by
 unfold callFunc;simp only[gz,vah,bne_iff_ne]at hk;have hn:(fn.name== "runtime.NumGoroutine")=false:=AJ;have a:fn.body.isNone=false:=by cases a:fn.body with|none=>grind|some c=>rfl
 simp only[nd,Go.program,Sem.run,h,hn,a];rfl
end
end au
namespace bM
open RowKit au
abbrev _root_.Go.Proofs.YtcjlmniddnnieaaGreat.dk(u:Bool)(n:uah):Prop:=∀(a:fi)(w:aH),Sem.run (ae prog u) (callFunc n a) w=.ok (.enter n a) w
def _root_.Go.Proofs.YtcjlmniddnnieaaGreat.vea{P:cf}{f:FuncId}{fn:Func}(h:P.funcs[f]?=some fn)(hk:gz P true fn=true:=by decide+kernel):(ae P true).funcs[f]?=some fn:=a5 (upd:=true) h hk
def _root_.Go.Proofs.YtcjlmniddnnieaaGreat.ved{P:cf}{f:FuncId}{fn:Func}(h:P.funcs[f]?=some fn)(hk:gz P true fn=true:=by decide+kernel):∀a w,Sem.run (ae P true) (callFunc f a) w=.ok (.enter f a) w:=cq (vea h hk) hk
@[simp] theorem aD5:dk true 99:=ved func99
@[simp] theorem aD6:dk true 65:=ved func65
@[simp] theorem aD7:dk true 104:=ved func104
@[simp] theorem aD8:dk true 139:=ved func139
@[simp] theorem aD9:dk true 103:=ved func103
@[simp] theorem aD_:dk true 100:=ved func100
@[simp] theorem aEa:dk true 142:=ved func142
@[simp] theorem aEb:dk true 67:=ved func67
@[simp] theorem aEc:dk true 122:=ved func122
@[simp] theorem aEd:dk true 123:=ved func123
@[simp] theorem aEe:dk true 124:=ved func124
@[simp] theorem aEf:dk true 101:=ved func101
@[simp] theorem aEg:dk true 66:=ved func66
@[simp] theorem aEh:dk true 62:=ved func62
@[simp] theorem aEi:dk true 61:=ved func61
@[simp] theorem aEj:dk true 63:=ved func63
@[simp] theorem aEk:dk true 41:=ved func41
@[simp] theorem aEl:dk true 33:=ved func33
@[simp] theorem aEm:dk true 24:=ved func24
@[simp] theorem aEn:dk true 44:=ved func44
@[simp] theorem aEo:dk true 64:=ved func64
@[simp] theorem aEp:dk true 43:=ved func43
@[simp] theorem aEq:dk true 42:=ved func42
@[simp] theorem aEr:dk true 34:=ved func34
@[simp] theorem aEs:dk true 36:=ved func36
@[simp] theorem aEt:dk true 46:=ved func46
@[simp] theorem aEu:dk true 35:=ved func35
@[simp] theorem aEv:dk true 25:=ved func25
@[simp] theorem aEw:dk true 26:=ved func26
@[simp] theorem Y5:dk true 19:=ved func19
@[simp] theorem Y6:dk true 18:=ved func18
abbrev _root_.Go.Proofs.YtcjlmniddnnieaaGreat.vee(P:cf:=prog):cf:=ae P true
theorem ME:tV vee 81 116 (.agg #[.I 0,.I 0]) 2 16:=⟨BR,AS,AU,AU⟩
def ak_:tV vee 66 81 (.N) 1 24:=⟨BR,AS,AU,AU⟩
def MF:tV vee 32 4 (.F) 1 1:=⟨BR,AS,AU,AU⟩
def Y7:tV vee 30 2 (.I 0) 1 8:=⟨BR,AS,AU,AU⟩
def Y8:tV vee 31 9 (.string ByteArray.empty) 1 16:=⟨BR,AS,AU,AU⟩
def ala:tV vee 25 34 (.agg #[.I 0,.I 0,.N,.N,.N]) 5 88:=⟨BR,AS,AU,AU⟩
def vf(s:Int):Bool:=decide (0<=s)&&decide (s<=6)
def yu(t:ubj):Bool:=t.1==1||t.1==2
def Y9(a:Int)(w:aH):
 Calls vee 99 #[.I a] w λe w'=>e=.returned (.bool (vf a))/\w'=w:=by
 unfold vf;go_enter (vea func99),ntmps99
 go_wp2
 all_goals(go_ret;refine⟨?_,Y⟩;simp[*]<;>omega)
def alb(a b c:Int)(w:aH):
 Calls vee 65 #[.I a,.I b,.I c] w λe w'=>e=.returned (.bool (decide (b<=a)&&decide (a<=c)))/\w'=w:=by
 go_enter (vea func65),ntmps65
 go_wp2
 all_goals(go_ret;refine⟨?_,Y⟩;simp[*]<;>omega)
def Y_(t:ubj)(w:aH):
 Calls vee 104 #[fe t] w λe w'=>e=.returned (.bool (yu t))/\cy w w':=by
 obtain⟨k,s⟩:=t;unfold yu;go_enter (vea func104),ntmps104
 go_wp2
 all_goals(go_ret;refine⟨?_,(vaa _ _).alloc AJ _⟩;simp[*])
def alc(s:Int)(w:aH):
 Calls vee 139 #[.I s] w λe w'=>e=.returned (.tuple #[fe (2,s),.bool (vf s)])/\cy w w':=by
 go_enter (vea func139),ntmps139
 go_wp2_with (go_at_call 99;refine(Y9 _ _).mono ?_;rintro e w' ⟨rfl,rfl⟩)
 exact vai (v:=.tuple #[fe (2,s),.bool (vf s)]) (by simp[results,results139,go_sem]) Y ⟨Y,(vaa _ _).alloc AJ _⟩
def ald(w:aH):
 Calls vee 103 #[] w λe w'=>e=.returned (fe (1,0))/\cy w w':=by
 go_enter (vea func103),ntmps103
 go_wp2
 exact vai (v:=fe (1,0)) (by simp[results,results103,go_sem]) Y ⟨Y,(vaa _ _).alloc AJ _⟩
def IU(t:ubj):Bool:=if t.1=1\/t.1=3 then t.2==0 else if t.1=2 then vf t.2 else false
def ale(t:ubj)(w:aH):
 Calls vee 62 #[fe t] w λe w'=>e=.returned (.bool (IU t))/\cy w w':=by
 obtain⟨k,s⟩:=t;go_enter (vea func62),ntmps62
 go_wp2_with (go_at_call 99;refine(Y9 _ _).mono ?_;rintro e w' ⟨rfl,rfl⟩)
 all_goals(go_ret;refine⟨?_,(vaa _ _).alloc AJ _⟩;go_light;simp_all[IU])
def Za(k s:Int)(c7 vs a:Value)(w:aH):
 Calls vee 61 #[.agg #[.I k,.I s,c7,vs,a]] w λe w'=>e=.returned (fe (k,s))/\cy w w':=by
 go_enter (vea func61),ntmps61
 go_wp2
 exact vai (v:=fe (k,s)) (by simp[results,results61,go_sem]) Y ⟨Y,((vaa _ _).alloc AJ _).alloc AQ _⟩
def operands(op:Int):Int×Bool:=
 if op=1\/op=2\/op=3\/op=4 then(0,true)else if op=8\/op=14\/op=15 then(1,true)
 else if op=5\/op=6\/op=7\/op=9\/op=10\/op=11\/op=12\/op=13 then(2,true)else(0,false)
def alf(op:Int)(w:aH):
 Calls vee 100 #[.I op] w λe w'=>e=.returned (.tuple #[.I (operands op).1,.bool (operands op).2])/\w'=w:=by
 go_enter (vea func100),ntmps100
 go_wp2
 all_goals(go_ret2;refine⟨?_,Y⟩;go_light;simp_all[operands])
def vg(bl:fK)(p:Int):(Int×Int)×Bool:=
 if 0<=p/\p<bl.length then(bl.getD p.toNat (0,0),true)else((0,0),false)
def alg(bl:fK)(v:Value)(p:Int)(w:aH)(hv:eF w v bl):
 Calls vee 67 #[v,.I p] w λe w'=>e=.returned (.tuple #[fe (vg bl p).1,.bool (vg bl p).2])/\cy w w':=by
 obtain⟨m,cap,rfl,k,j⟩:=hv;by_cases h:0<=p/\p<bl.length
 .have a:Hid (vg bl p=(bl.getD p.toNat (0,0),true)):=by unfold Hid vg;rw[vbz h]
  obtain⟨d,i⟩:=h;obtain⟨q,rfl⟩:=Int.eq_ofNat_of_zero_le d;have c:q<bl.length:=AP;obtain⟨b,off,rfl,f,n⟩:=j q c;simp at f;have l:=fB f;go_enter (vea func67),ntmps67
  go_wp2
  exact vai (v:=.tuple #[fe (bl[q]),.T]) (by simp[results,results67,go_sem]) Y ⟨by rw[a.out];simp[c],(vaa _ _).alloc AJ _⟩
 .have a:Hid (vg bl p=((0,0),false)):=by unfold Hid vg;rw[vbt h]
  by_cases d:p<0;rotate_left
  focus
   have g:0<=p:=AP;have i:(bl.length:Int)<=p:=AP;obtain⟨q,rfl⟩:=Int.eq_ofNat_of_zero_le g;have c:bl.length<=q:=AP;clear h d
  rotate_left
  all_goals
   go_enter (vea func67),ntmps67
   go_wp2
   exact vai (v:=.tuple #[fe (0,0),.F]) (by simp[results,results67,go_sem]) Y ⟨by rw[a.out],(vaa _ _).alloc AJ _⟩
section
attribute [local go_sem ↓] Go.wp_at_zero Go.wp_at_succ
theorem IV(a b c d:Int)(w:aH):(binOp .eql 116 (.agg #[.I a,.I b]) (.agg #[.I c,.I d])).run vee w=.ok (.bool ((a,b)==(c,d))) w:=by
 by_cases f:a=c<;>by_cases e:b=d
 all_goals go_simp
 all_goals simp[f,e]
theorem IW(a b c d:Int)(w:aH):(binOp .neq 116 (.agg #[.I a,.I b]) (.agg #[.I c,.I d])).run vee w=.ok (.bool ((a,b) != (c,d))) w:=by
 by_cases f:a=c<;>by_cases e:b=d
 all_goals go_simp
 all_goals simp[f,e,bne]
attribute [local go_sem ↓] IV IW
attribute [local go_sem ↓] Go.wp_at_zero Go.wp_at_succ
abbrev vh(t:bH):Value:=.agg #[.I t.op,.I t.a,.I t.v,.string t.s]
def alh(a v:Int)(s:ByteArray)(bl:fK)(b:Value)(w:aH)(hv:eF w b bl):
 Calls vee 122 #[.agg #[.I 1,.I a,.I v,.string s],b] w λe w'=>e=.returned (.tuple #[fe (vg bl a).1,.bool (vg bl a).2])/\cy w w':=by
 go_enter (vea func122),ntmps122
 go_wp2_with fail
 refine(alg bl b a _ (hv.mono ni (((br.refl _).alloc _).alloc _))).mono ?_;rintro e w1 ⟨rfl,c⟩;have f:cy w w1:=Below.step c (((vaa _ _).alloc AQ _).alloc AQ _) CF;obtain⟨d,g,h⟩:=after (w.heap.size+1+1) c AQ;go_wp2_with fail
 exact vai (v:=.tuple #[fe (vg bl a).1,.bool (vg bl a).2]) (by simp[results,results122,go_sem,d]) Y ⟨Y,(f.setCell AQ _).setCell AQ _⟩
attribute [local go_sem ↓] Go.wp_at_zero Go.wp_at_succ
attribute [local go_sem ↓] IV IW
def aEy(a v:Int)(s:ByteArray)(o:ubj)(w:aH):
 Calls vee 123 #[.agg #[.I 8,.I a,.I v,.string s],fe o] w λe w'=>e=.returned (.tuple #[fe (2,a),.bool (vf a&&yu o)])/\cy w w':=by
 obtain⟨ok,os⟩:=o;go_enter (vea func123),ntmps123
 go_wp2_with fail
 refine(alc _ _).mono ?_;rintro e w1 ⟨rfl,b⟩;have g:cy w w1:=Below.step b ((((vaa _ _).alloc AQ _).alloc AQ _).alloc CF _) CF;have f:ag w1 (w.heap.size+1) _ _:=ag.call (ag.alloc (by simpa using ag.new (w.alloc _) _ _) _) b;have d:ag w1 (w.heap.size+1+1) _ _:=ag.call (by simpa using ag.new ((w.alloc _).alloc _) _ _) b;have t:w.heap.size+1+1+1<=w1.heap.size:=by simpa using b.size
 obtain⟨m,k,n⟩:=f.all;obtain⟨j,q,i⟩:=d.all;clear b;by_cases hs:vf a=true
 .go_wp2_with fail
  go_region_held3 (λW=>W.cell? (.a (w.heap.size+1) 0)=some (.I ok)/\W.cell? (.a (w.heap.size+1) 1)=some (.I os)/\W.cell? (.a w1.heap.size 0)=some (.I 2)/\W.cell? (.a w1.heap.size 1)=some (.I a))
   ((go_split_ands;refine⟨?_,?_,?_,?_⟩<;>first|(exact(br.ck c) _ _ _ CN)|(exact xe (xe CN AP) AP)|(go_keep;done)))
   (first|(go_at_call 104;refine(Y_ (ok,os) _).mono ?_;rintro e w2 ⟨rfl,c⟩;obtain⟨l,p⟩:=((d.alloc _).drew.call c).rules))
  have h:cy w w2:=Below.step c (g.alloc AP _).drew CF;have r:=(d.alloc _).drew.call c;go_wp2_with fail
  exact vai (v:=.tuple #[fe (2,a),.bool (vf a&&yu (ok,os))]) (by simp[results,results123,go_sem,l,hs]) Y ⟨Y,(h.setCell AJ _).setCell AJ _⟩
 .have hd:vf a=false:=by grind
  clear hs;go_wp2_with fail
  go_region
  go_wp2_with fail
  exact vai (v:=.tuple #[fe (2,a),.bool (vf a&&yu (ok,os))]) (by simp[results,results123,go_sem,j,i,hd]) Y ⟨Y,(((g.setCell AJ _).setCell AJ _).alloc An _).drew⟩
attribute [local go_sem ↓] Go.wp_at_zero Go.wp_at_succ
attribute [local go_sem ↓] IV IW
def alj(w:aH)(lk ls a rs:Int):
 ag (((w.alloc (.cells #[.I lk,.I ls] 116)).alloc (.cells #[.I a,.I rs] 116)).alloc (.cells #[.I 0,.I 0] 116)) w.heap.size #[.I lk,.I ls] 116/\
 ag (((w.alloc (.cells #[.I lk,.I ls] 116)).alloc (.cells #[.I a,.I rs] 116)).alloc (.cells #[.I 0,.I 0] 116)) (w.heap.size+1) #[.I a,.I rs] 116:=by
 refine⟨((ag.new w _ _).alloc _).alloc _,?_⟩;have:=(ag.new (w.alloc (.cells #[.I lk,.I ls] 116)) #[.I a,.I rs] 116).alloc (.cells #[.I 0,.I 0] 116);simp_all
def Zd(w:aH)(lk ls a rs:Int):
 ag (((w.alloc (.cells #[.I lk,.I ls] 116)).alloc (.cells #[.I a,.I rs] 116)).alloc (.cells #[.I 0,.I 0] 116)) (w.heap.size+1+1) #[.I 0,.I 0] 116/\
 cy w (((w.alloc (.cells #[.I lk,.I ls] 116)).alloc (.cells #[.I a,.I rs] 116)).alloc (.cells #[.I 0,.I 0] 116)):=by
 refine⟨?_,(((vaa _ _).alloc AQ _).alloc AQ _).alloc CF _⟩;have:=ag.new ((w.alloc (.cells #[.I lk,.I ls] 116)).alloc (.cells #[.I a,.I rs] 116)) #[.I 0,.I 0] 116;simp_all
def alk(op:Int)(b:op=5\/op=6)(l r:ubj)(w:aH):
 Calls vee 124 #[.I op,fe l,fe r] w λe w'=>e=.returned (.tuple #[fe l,.bool (l==r&&yu l)])/\cy w w':=by
 obtain⟨lk,ls⟩:=l;obtain⟨a,rs⟩:=r;obtain⟨d,i⟩:=Zd w lk ls a rs;by_cases hg:((lk,ls)==(a,rs))=true
 .rcases b with rfl|rfl;all_goals
   go_enter (vea func124),ntmps124
   go_wp2_with fail
   go_region_held3 (λW=>W.cell? (.a w.heap.size 0)=some (.I lk)/\W.cell? (.a w.heap.size 1)=some (.I ls)/\W.cell? (.a (w.heap.size+1) 0)=some (.I a)/\W.cell? (.a (w.heap.size+1) 1)=some (.I rs))
    ((go_split_ands;refine⟨?_,?_,?_,?_⟩<;>first|(exact(br.ck c) _ _ _ CN)|(exact xe (xe CN AP) AP)|(go_keep;done)))
    (first|(go_at_call 104;refine(Y_ (lk,ls) _).mono ?_;rintro e w1 ⟨rfl,c⟩;have g:=d.drew.call c;obtain⟨f,m,h⟩:=g.all))
   have k:cy w w1:=Below.step c i.drew CF;go_wp2_with fail
   exact vai (v:=.tuple #[fe (lk,ls),.bool ((lk,ls)==(a,rs)&&yu (lk,ls))]) (by simp[results,results124,go_sem,f,hg]) Y ⟨Y,(k.setCell AJ _).setCell AJ _⟩
 .have j:((lk,ls)==(a,rs))=false:=by grind
  clear hg;obtain⟨f,m,h⟩:=d.all;rcases b with rfl|rfl;all_goals
   go_enter (vea func124),ntmps124
   go_wp2_with fail
   go_region
   go_wp2_with fail
   exact vai (v:=.tuple #[fe (lk,ls),.bool ((lk,ls)==(a,rs)&&yu (lk,ls))]) (by simp[results,results124,go_sem,j]) Y ⟨Y,((((vaa _ _).alloc AQ _).alloc AQ _).alloc CF _).drew⟩
end
section
attribute [local go_sem ↓] Go.wp_at_zero Go.wp_at_succ
attribute [local go_sem ↓] IV IW
@[simp] theorem aEB:dk true 140:=ved func140
@[simp] theorem aEC:dk true 141:=ved func141
theorem RZ(w:aH):
 Calls vee 141 #[] w λe w'=>e=.returned (fe (4,0))/\cy w w':=by
 go_enter (vea func141),ntmps141
 go_wp2
 exact vai (v:=fe (4,0)) (by simp[results,results141,go_sem]) Y ⟨Y,(vaa _ _).alloc Kj _⟩
def alm(a v:Int)(s:ByteArray)(f:Value)(w:aH):
 Calls vee 122 #[.agg #[.I 2,.I a,.I v,.string s],f] w λe w'=>e=.returned (.tuple #[fe (1,0),.T])/\cy w w':=by
 go_enter (vea func122),ntmps122
 go_wp2_with fail
 refine(ald _).mono ?_;rintro e w1 ⟨rfl,b⟩;have d:cy w w1:=Below.step b (((vaa _ _).alloc AQ _).alloc AQ _) CF;obtain⟨c,g,h⟩:=after (w.heap.size+1+1) b AQ;go_wp2_with fail
 exact vai (v:=.tuple #[fe (1,0),.T]) (by simp[results,results122,go_sem,c]) Y ⟨Y,(d.setCell AQ _).setCell AQ _⟩
end
def Cs(ok:uaz)(n:Nat):Option Nat:=(List.range n).find? (λi=> !ok i)
def Zx{ok:uaz}{n:Nat}(h:∀j,j<n->ok j=true):Cs ok n=none:=by grind[Cs]
def Zy{ok:uaz}{n k:Nat}(hk:k<n)(h:∀j,j<k->ok j=true)(a:ok k=false):Cs ok n=some k:=by unfold Cs;simp_all
def told(o:ubc):Int×Bool:=match o with|some k=>((k:Int),true)|none=>(0,false)
def sT(l:List ByteArray):Bool:=l.all λs=>decide (s.size<=16)
variable{l:List ByteArray}
def alG{k:Nat}(hk:k<l.length)(h:sT (l.take k)=true)(hs:l[k].size<=16):sT (l.take (k+1))=true:=by grind[sT,List.take_succ_eq_append_getElem]
def alH{k:Nat}(hk:k<l.length)(hs:¬l[k].size<=16):sT l=false:=by grind[sT]
def alI(l:List ByteArray)(v:Value)(w:aH)(hv:RN w v l):
 Calls vee 63 #[v] w λe w'=>e=.returned (.bool (sT l))/\w'=w:=by
 obtain⟨j,cap,rfl,h,g⟩:=hv;go_enter (vea func63),ntmps63
 go_wp2
 go_loop [4,7] (λ_ i=>∃k:Nat,k<=l.length/\i=.I k/\sT (l.take k)=true) (λ_ i=>l.length-(intOf i).toNat)
 case atStart=>exact⟨0,vba _,Y,Y⟩
 case round=>
  obtain⟨k,hk,rfl,ht⟩:=hrel;have c:Hid _:=ht;clear ht;by_cases a:k<l.length
  .obtain⟨b,off,rfl,f,hs⟩:=g k a;simp at f;by_cases d:l[k].size<=16
   .go_wp2
    go_round
    case rel=>exact⟨k+1,AP,by go_num,alG a c.out d⟩
    case measure=>simp[intOf];omega
   .go_wp2
    go_ret
    exact⟨by rw[alH a d];rfl,Y⟩
  .go_wp2
   go_ret
   refine⟨?_,Y⟩;have e:sT l=true:=by have:=c.out;grind
   rw[e];rfl
def I3(k s:Int)(I4 ns cF:Nat)(fit:Bool)(rows:Int):Bool:=
 IU (k,s)&&((cF:Int)==rows&&((I4:Int)==(if k=3 then 0 else rows)&&(ns:Int)==(if k=3 then rows else 0)))&&fit
def vk(c:bo)(rows:Int):Bool:=I3 c.kind c.eK c.ko.length c.kJ.length c.gZ.length (sT c.kJ) rows
abbrev alJ(c:bo)(c7 vs bS:Value):Value:=.agg #[.I c.kind,.I c.eK,c7,vs,bS]
def alK(k s:Int)(j b an:uam)(h a d ci c n:Nat)(kJ:List ByteArray)(rows:Int)(w:aH)(q:a<=9223372036854775807)(p:RN w (.slice b a c) kJ):
 Calls vee 41 #[.agg #[.I k,.I s,.slice j h ci,.slice b a c,.slice an d n],.I rows] w λe w'=>e=.returned (.bool (I3 k s h a d (sT kJ) rows))/\cy w w':=by
 go_enter (vea func41),ntmps41
 go_wp2_with fail
 refine(Za k s _ _ _ _).mono ?_;rintro e w1 ⟨rfl,f⟩;have cZ:=(ag.new w #[.I k,.I s,.slice j h ci,.slice b a c,.slice an d n] 34).call f;have m:cy w w1:=Below.step f ((vaa _ _).alloc AQ _) AQ;clear f;go_wp2_with fail
 refine(ale (k,s) _).mono ?_;rintro e w2 ⟨rfl,g⟩;have o:=cZ.call g;obtain⟨t,r,v⟩:=o.all;have i:cy w w2:=Below.step g m (by have:=m.size;omega);have l:=p.mono YX (br.ck i);clear g cZ o p;by_cases hst:IU (k,s)=true
 .go_wp2_with (go_at_call 63;refine(alI kJ _ _ l).mono ?_;rintro e u ⟨rfl,rfl⟩)
  all_goals(go_ret;refine⟨?_,i⟩;go_light;clear t r l;simp_all[I3])
 .go_wp2
  go_ret
  simp_all[I3]
def alL(c:bo)(c7 vs b:Value)(rows:Int)(w:aH)(d:xd w c7 vs b c):
 Calls vee 41 #[alJ c c7 vs b,.I rows] w λe w'=>e=.returned (.bool (vk c rows))/\cy w w':=by
 obtain⟨g,a,f⟩:=d;have i:=a;obtain⟨l,ci,rfl,o,-⟩:=g;obtain⟨j,k,rfl,h,-⟩:=a;obtain⟨an,m,rfl,n,-⟩:=f;exact alK _ _ _ _ _ _ _ _ _ _ _ c.kJ rows w h i
def F5(t:List bo):Nat:=match t with| []=>0|c::_=>c.gZ.length
def mY(t:List bo):Bool:=decide (1<=t.length)&&decide (t.length<=8)&&decide (F5 t<=40)&&t.all (λc=>vk c (F5 t))
variable{t:List bo}
def alM{n:Int}{k:Nat}(hk:k<t.length)(h:((t.take k).all (λc=>vk c n))=true)(hs:vk t[k] n=true):((t.take (k+1)).all (λc=>vk c n))=true:=by grind[List.take_succ_eq_append_getElem]
def alN{n:Int}{k:Nat}(hk:k<t.length)(hs:vk t[k] n=false):(t.all (λc=>vk c n))=false:=by grind
def alO(h:0<t.length):F5 t=t[0].gZ.length:=by cases t with|nil=>grind|cons c r=>rfl
def alP(t:List bo)(v:Value)(w:aH)(hv:nO w v t):
 Calls vee 33 #[.agg #[v]] w λe w'=>e=.returned (.bool (mY t))/\cy w w':=by
 obtain⟨bm,cap,rfl,T,E⟩:=hv;by_cases U:t.length<1
 .have e:Hid (mY t=false):=by grind[Hid,mY]
  go_enter (vea func33),ntmps33
  go_wp2
  go_ret
  exact⟨by rw[e.out];rfl,(vaa _ _).alloc AJ _⟩
 by_cases S:8<t.length
 .have e:Hid (mY t=false):=by grind[Hid,mY]
  go_enter (vea func33),ntmps33
  go_wp2
  go_ret
  exact⟨by rw[e.out];rfl,(vaa _ _).alloc AJ _⟩
 have h0:0<t.length:=AP;obtain⟨b,off,rfl,c7,vs,bS,cz,c1,co,db,g,r⟩:=E 0 h0;simp at cz c1 co db g;have a3:=alO h0;obtain⟨an,V,rfl,O,-⟩:=r.gZ;rw[<-a3]at g O;clear r cz c1 co db;generalize H:F5 t=N at *;have o:Hid (F5 t=N):=H;clear H a3;have Sa:=fB g;by_cases M:40<N
 .have e:Hid (mY t=false):=by grind[Hid,mY]
  go_enter (vea func33),ntmps33
  go_wp2
  go_ret
  exact⟨by rw[e.out];rfl,(vaa _ _).alloc AJ _⟩
 go_enter (vea func33),ntmps33
 go_wp2
 go_loopw [27] (λi W=>∃k:Nat,k<=t.length/\i=.I k/\((t.take k).all (λc=>vk c N))=true/\cy w W) (λi _=>t.length-(intOf i).toNat)
 case atStart=>exact⟨0,vba _,rfl,rfl,(vaa _ _).alloc AJ _⟩
 case round=>
  obtain⟨k,hk,rfl,s,u⟩:=hrel;have y:Hid _:=s;have f:Hid _:=u;clear s u;by_cases a:k<t.length
  .obtain⟨b',F0,p,n,m,l,j,d1,C,B,A,h⟩:=E k a;simp at p;obtain⟨rfl,rfl⟩:=p;simp at j;have d:=br.ck f.out;have J:=d _ _ _ j;have e1:=d _ _ _ d1;have e2:=d _ _ _ C;have Z:=d _ _ _ B;have Y:=d _ _ _ A;have X:=fB J;have F:=(h.mono d).mono ((br.refl _).alloc (.cells #[.I t[k].kind,.I t[k].eK,n,m,l] 34));clear d j d1 C B A g;obtain⟨R,ci,P,Q,L,K,rfl,rfl,rfl⟩:=h.shape;clear h;go_wp2_with fail
   refine(alL t[k] _ _ _ N _ F).mono ?_;rintro e w1 ⟨rfl,D⟩;have x:cy w w1:=Below.step D (f.out.alloc (by have:=f.out.size;omega) _) FN;have z:Hid _:=x;clear x D F;by_cases q:vk t[k] N=true
   .go_wp2
    go_roundw
    case rel=>exact⟨k+1,AP,by go_num,alM a y.out q,z.out⟩
    case measure=>simp[intOf];omega
   .have I:vk t[k] N=false:=by grind
    clear q;go_wp2
    go_ret
    refine⟨?_,z.out⟩;have e:mY t=false:=by unfold mY;rw[o.out,alN a I];simp
    rw[e];rfl
  .go_wp2
   go_ret
   refine⟨?_,f.out⟩;have e:mY t=true:=by have:=y.out;rw[vco AP]at this;unfold mY;rw[o.out,this];grind
   rw[e];rfl
def yA(ts:List (List bo))(i:Nat):Bool:=decide (i<4)&&mY (ts.getD i [])
def ZC{w:aH}{a:uam}{n:Nat}{ts:List (List bo)}(c:∀i(h:i<ts.length),∃b off,a=some ⟨b,off,none⟩/\RO w (λj=>w.cell? (.a b (off+i*1+j))) ts[i])(hn:n<ts.length):
 ∃b off v,a=some ⟨b,off,none⟩/\w.cell? (.a b (off+n))=some v/\nO w v ts[n]:=by
 obtain⟨b,off,d,v,h0,hv⟩:=c n hn;grind
def alT(ts:List (List bo))(v:Value)(w:aH)(hv:Cj w v ts):
 Calls vee 24 #[v] w λe w'=>e=.returned (.tuple #[.I (told (Cs (yA ts) ts.length)).1,.bool (told (Cs (yA ts) ts.length)).2])/\cy w w':=by
 obtain⟨C,cap,rfl,z,x⟩:=hv;go_enter (vea func24),ntmps24
 go_wp2
 go_loopw [8] (λi W=>∃k:Nat,k<=ts.length/\i=.I k/\(∀j,j<k->yA ts j=true)/\cy w W) (λi _=>ts.length-(intOf i).toNat)
 case atStart=>exact⟨0,vba _,Y,AJ,vaa _ _⟩
 case round=>
  obtain⟨k,hk,rfl,n,o⟩:=hrel;have d:Hid _:=n;have c:Hid _:=o;clear n o;by_cases a:k<ts.length
  .obtain⟨b,off,t,rfl,q,s⟩:=ZC x a;have f:=br.ck c.out;have u:=f _ _ _ q;have B:=fB u;have g:=s.mono sO (f.alloc (.cells #[t] 27));obtain⟨D,ct,rfl,-,-⟩:=s;clear f q;by_cases A:k<4
   .go_wp2_with fail
    refine(alP ts[k] _ _ g).mono ?_;rintro e w1 ⟨rfl,r⟩;have p:Hid (cy w w1):=Below.step r (c.out.alloc Cz _) IS;clear r g;have hok:Hid (yA ts k=mY ts[k]):=by grind[Hid,yA]
    by_cases l:mY ts[k]=true
    .go_wp2
     go_roundw
     case rel=>
      refine⟨k+1,AP,by go_num,λj m=>?_,p.out⟩;rcases Nat.lt_succ_iff_lt_or_eq.1 m with h|rfl
      .exact d.out j h
      .rw[hok.out];exact l
     case measure=>simp[intOf];omega
    .have y:mY ts[k]=false:=by grind
     clear l;go_wp2
     go_ret2
     refine⟨?_,p.out⟩;rw[Zy a d.out (by rw[hok.out];grind)];rfl
   .have hok:Hid (yA ts k=false):=by grind[Hid,yA]
    clear g;go_wp2
    go_ret2
    refine⟨?_,c.out.alloc Cz _⟩;rw[Zy a d.out hok.out];rfl
  .go_wp2
   go_ret2
   refine⟨?_,c.out⟩;rw[Zx (λj m=>d.out j AP)];rfl
def sU(t:List bo):List (Int×Int):=t.map λc=>(c.kind,c.eK)
def alU(t:List bo)(v:Value)(w:aH)(hv:nO w v t)(M:t.length<=1000000):
 Calls vee 44 #[.agg #[v]] w λe w'=>∃h,e=.returned h/\eF w' h (sU t)/\eU 116 w' h/\cy w w':=by
 obtain⟨U,cap,rfl,hl,H⟩:=hv;have hlen:(sU t).length=t.length:=by simp[sU]
 go_enter (vea func44),ntmps44
 go_wp2_with (at_make;refine ML ME _ rfl _ _ rfl _ _ t.length rfl rfl AP AP ?_;intro w1 bq T a p;have B:=(ag.new w #[.slice U t.length cap] 27).call p;obtain⟨I6,Z,V⟩:=B.all)
 have A:cy w w1:=Below.step p ((vaa _ _).alloc AQ _) AQ;have I:ag w1 (w.heap.size+1) bq 116:=BR;have J:Hid (ag w1 (w.heap.size+1) bq 116):=I;have S:Hid (cy w w1):=A;clear T I p A B;go_loopw [13] (λi W=>∃(k:Nat)(cs:fi),k<=t.length/\i=.I k/\ag W (w.heap.size+1) cs 116/\cs.size=t.length*2/\F3 cs (sU t) k/\cy w W)
  (λi _=>t.length-(intOf i).toNat)
 case atStart=>exact⟨0,bq,vba _,rfl,J.out,a,λj _ hj=>AJ,S.out⟩
 case round=>
  obtain⟨k,cs,hk,rfl,y,s,u,z⟩:=hrel;have o:Hid (ag wr (w.heap.size+1) cs 116):=y;have r:Hid (F3 cs (sU t) k):=u;have f:Hid (cy w wr):=z;have g:Hid _:=s;have MP:Hid _:=a;clear y u z s a;by_cases m:k<t.length
  .obtain⟨b,off,rfl,c7,vs,bS,n,d1,F,E,D,x⟩:=H k m;simp at n;have c:=br.ck f.out;have C:=c _ _ _ n;have R:=c _ _ _ d1;have Q:=c _ _ _ F;have P:=c _ _ _ E;have O:=c _ _ _ D;have ew:=fB C;clear c n d1 F E D;obtain⟨mh,ci,X,Y,an,fV,rfl,rfl,rfl⟩:=x.shape;clear x H;have nS:(0:Int)<=(k:Int):=AP;have k0:(k:Int)<(t.length:Int):=AP;go_wp2_with fail
   refine(Za _ _ _ _ _ _).mono ?_;rintro e w2 ⟨rfl,q⟩;have d:=(o.out.alloc _).call q;have K:Hid (ag w2 (w.heap.size+1) cs 116):=d;have N:Hid (cy w w2):=Below.step q (f.out.alloc (by have:=f.out.size;omega) _) FN;have Sb:w2.cell? (.a (w.heap.size+1) (k*2))=some (cs[k*2]'EU):=by rw[d.rules.1];simp
   have Sc:w2.cell? (.a (w.heap.size+1) (k*2+1))=some (cs[k*2+1]'EU):=by rw[d.rules.1];simp
   have Sd:=d.rules.2;clear d q C R Q P O;go_wp2_with fail
   go_roundw
   case rel=>
    refine⟨k+1,(cs.setIfInBounds (k*2) (.I t[k].kind)).setIfInBounds (k*2+1) (.I t[k].eK),AP,by go_num,(K.out.set _ _).set _ _,by simp;exact g.out,?_,(N.out.setCell AQ _).setCell AQ _⟩;have:=r.out.step AJ (by rw[hlen];exact g.out);grind[sU]
   case measure=>simp[intOf];omega
  .have L:k=t.length:=by omega
   go_wp2_with fail
   go_ret
   refine⟨_,rfl,?_,eU.box o.out _ _ _,f.out⟩;have:=eF.MN (l:=sU t) o.out AJ (by rw[hlen,<-L];exact r.out) t.length;simp_all
@[simp] theorem aE3:dk true 60:=ved func60
@[simp] theorem aE4:dk true 40:=ved func40
theorem amj(s:ByteArray)(w:aH)(hs:s.size<=1000000):
 Calls vee 60 #[.string s] w λe w'=>e=.returned (.string s)/\cy w w':=by
 by_cases h0:s.size=0
 .have l:s=⟨#[]⟩:=ByteArray.ext (Array.eq_empty_of_size_eq_zero h0);subst l;go_enter (vea func60),ntmps60
  go_wp2
  go_ret
  exact⟨Y,vaa _ _⟩
 obtain⟨i,hi,m,hsz,C⟩:=vcv (show(prog.info? 5).map (λi=>(i.zero,i.size,i.bytes))=some (some (.int .u8 0),1,1)from AS);have f:vee.underlying 209=some (.slice 5):=(AE _ _ _).trans underlying209;have h:vee.underlying 210=some (.pointer 5):=(AE _ _ _).trans underlying210;have y:vee.info? 5=some i:=hi;obtain⟨A,o,v⟩:∃A:Array Value,A=madeCells (Value.int .u8 0).cells ((s.size:Int).toNat*i.size)/\A.size=s.size:=⟨_,Y,by grind[size_madeCells]⟩;have z:∀W:aH,(Instr.makeSlice 209 (.I (s.size:Int)) (.I (s.size:Int))).run vee W=.ok (.S W.heap.size 0 s.size s.size) (W.alloc (.cells A 5)):=λW=>by have:=run_make (P:=ae prog true) W 209 5 i _ f y m .i64 .i64 s.size s.size AP (Int.le_refl _) AJ AP;grind
 have a:=heap_alloc_new w (.cells A 5);have d:=Lib.run_copy_row_string (P:=ae prog true) (w.alloc (.cells A 5)) 209 9 3 5 w.heap.size 0 s.size s.size s A 5 f AJ a Kj AP;obtain⟨B,g,c⟩:∃B:Array Value,B=(A.toList.take 0++Lib.byteCells s.data.toList++A.toList.drop (0+s.size)).toArray/\B.toList=Lib.byteCells s.data.toList:=⟨_,Y,by
  simp_all⟩
 rw[<-g]at d;have t:((w.alloc (.cells A 5)).setRow w.heap.size B).heap[w.heap.size]?=some (.cells B 5 (0,0)):=setRow_heap _ _ A _ 5 (0,0) a;have u:B.size=s.size:=by grind[Lib.byteCells_length,Lib.size_eq]
 have b:=Lib.run_unsafeString_row (P:=ae prog true) ((w.alloc (.cells A 5)).setRow w.heap.size B) 210 3 9 5 h (by grind[Program.cellsOf]) w.heap.size B.size (by grind[World.shape?]) s.data.toList (λe=>h0 (by rw[Lib.size_eq,e];rfl)) BR (by grind[Lib.size_eq])
  (λj x n=>Lib.cells_of_row t B.size j _ (by rw[vco AJ,c];simp[Lib.byteCells,n]))
 rw[<-Lib.size_eq]at b;clear o g a;go_enter (vea func60),ntmps60
 go_wp2
 go_ret
 have q:cy w (w.alloc (.cells A 5)):=(vaa _ w).alloc Kj _;have r:Below w.heap.size (w.alloc (.cells A 5)) ((w.alloc (.cells A 5)).setRow w.heap.size B):=⟨Y,Y,Y,AQ,λk hk=>setRow_other _ _ _ _ AP⟩;exact⟨Y,Lib.below_freeze (q.trans r) (p:=⟨w.heap.size,0,none⟩) Kj _⟩
def Sk(s:ByteArray)(w:aH)(hs:s.size<=1000000):
 Calls vee 40 #[.string s] w λe w'=>e=.returned (.string s)/\cy w w':=by
 go_enter (vea func40),ntmps40
 go_wp2
 refine(amj s w hs).mono ?_;rintro e w' ⟨rfl,a⟩;go_wp2
 go_ret
 simp_all
end bM
namespace bU
open RowKit Shelf au
variable{W W':aH}
section
attribute [local go_sem] Oper.semAt_some
def _root_.Go.Proofs.YtcjlmniddnnieaaGreat.veb{P:cf}{f:FuncId}{fn:Func}(h:P.funcs[f]?=some fn)(hk:gz P false fn=true:=by decide+kernel):(ae P false).funcs[f]?=some fn:=a5 (upd:=false) h hk
abbrev _root_.Go.Proofs.YtcjlmniddnnieaaGreat.vef(P:cf:=prog):cf:=ae P false
def ZN:vef.funcs[(112:Nat)]?=some f112:=veb func112
def Typed(nQ:Nat)(e t:uab)(W W':aH):Prop:=∀(b:Nat)(c:fi)(u:uab)(z:ubv),W.heap[b]?=some (Obj.cells c u z)->(b<nQ\/u≠e/\u≠t)->W'.heap[b]?=some (Obj.cells c u z)
def Typed.keep{nQ:Nat}{e t:uab}(h:jh W W'):Typed nQ e t W W':=λb c u z x _=>h.cells b c u z x
def ZO{w1:aH}{nQ B:Nat}{t e:uab}{size:Nat}{v:Value}(d:Value){k:Nat}{xs:uaj}{tmp:Obj}(hv:Boxed W B t v)(j:W.ownsRow nQ e size v k xs)(a:(W.alloc tmp).grownBy w1 v.ownBlock)(o:nQ<=B):
 Typed nQ e t W (w1.setCell ⟨B,0,none⟩ d):=by
 intro b c u z x l;have n:b≠B:=by rintro rfl;rw[show W.heap[b]?=_ from hv]at x;grind
 have f:=ml x;have i:some b≠v.ownBlock:=by
  rcases j.2 with⟨rfl,_⟩|⟨g,cap,bq,rfl,m,hg,_⟩
  .simp[Value.ownBlock]
  .intro h;simp[Value.ownBlock]at h;grind
 have p:=a.block b An i;simp_all[vdm,World.setCell,vaz,Ne.symm]
structure Gb(nQ:Nat)(Row:uat):Prop where
 shape:∀t W x,Row t W x->∃p pl pc q fN g3,x=.agg #[.slice p pl pc,.slice q fN g3]
 keep:∀t W W' x,Row t W x->Typed nQ 79 69 W W'->Row t W' x
def two(xs:ubg):List Value:=xs.flatMap λp=>[p.1,p.2]
def ZP(xs:ubg):(two xs).length=xs.length*2:=by induction xs with|nil=>rfl|cons a l b=>grind[two]
theorem ZQ(xs:ubg)(p:Value×Value):two (xs++[p])=two xs++[p.1,p.2]:=by simp[two]
structure CC(Row:uat)(nQ t:Nat)(v:Value)(W:aH):Prop where
 own:∃xs:List (Value×Value),xs.length=t/\W.ownsRow nQ 79 2 v t (two xs)/\∀j(h:j<xs.length),Row j W (.agg #[xs[j].1,xs[j].2])
theorem M0:(prog.info? 79).map (λi=>(i.zero,i.size,i.bytes))=some (some (.agg #[.N,.N]),2,48):=by kernel_rfl
def CC.Sl{Row:uat}{nQ t:Nat}(i:Gb nQ Row){v:Value}(h:CC Row nQ t v W)(hk:jh W W'):CC Row nQ t v W':=by obtain⟨xs,d,a,c⟩:=h;refine⟨xs,d,⟨a.1,a.2.imp_right ?_⟩,λj b=>i.keep _ _ _ _ (c j b) (.keep hk)⟩;rintro⟨g,cap,bq,a1,k,e,f⟩;exact⟨g,cap,bq,a1,k,hk.cells _ _ _ _ e,f⟩
def M1{l:Nat}{d:Option (List Deferred)}{o:Obj}(h:W.heap[l]?=some (.deferred d)):jh W (W.putObj l o):=
 ⟨AQ,λb c e z x=>by
  grind[World.putObj_heap_other]⟩
def AR(p:Prop):Prop:=p
def CD{p:Prop}(h:AR p):p:=h
def Sm{Row:uat}{gf:Nat}{lb:fi}{N:Nat}(a3:N<=300)(w:aH)(d:Gb w.heap.size Row)(D:∀args w,(callFunc gf args).run vef w=.ok (.enter gf args) w)(F:Ga 2 vef gf lb Row N w.heap.size w):
 Calls vef 112 #[.func (.func gf) #[] lb] w λe w'=>∃v,e=.returned v/\CC Row w.heap.size N v w'/\cy w w':=by
 refine(callsIn_wide (n:=3)).1 ?_;refine callsIn_of_wp_marks ZN rfl trivial ?_;simp[vbq];gi_wp2
 have I:Boxed (w.alloc (.cells #[.N] 69)) w.heap.size 69 (.N):=Boxed.new w _ _;refine ZM (n:=3) (gf:=gf) (lb:=lb) (w0:=w) (nQ:=w.heap.size) (N:=N) (Row:=Row) rfl D F ((vaa _ w).alloc Kj _) AQ (λ_=>False) AJ
  (λt W=>∃v,Boxed W w.heap.size 69 v/\CC Row w.heap.size t v W)
  (λt W W' h hk _=>by
   obtain⟨v,s,r⟩:=h;exact⟨v,hk.cells _ _ _ _ s,r.Sl d hk⟩)
  ⟨_,I,⟨[],rfl,vcc _ _ _ _,AJ⟩⟩
  (λt x a' W=>∃c p pl pc q b a,W.heap[c]?=some (Obj.cells #[.slice p pl pc,.slice q b a] 79 (0,0))/\x=.agg #[.slice p pl pc,.slice q b a]/\Row t W x/\∃z,a'={tmps:=#[.func (.func gf) #[] lb,undef,.N,.P w.heap.size 0,.P c 0,.func (.func gf) #[] lb,z,.U,.U,.U,.U,.U,.U,.U,.U],defers:=[]})
  (λt x a' W W' h hk _=>by
   obtain⟨c,p,pl,pc,q,b,a,s,r,R,Q⟩:=h;exact⟨c,p,pl,pc,q,b,a,hk.cells _ _ _ _ s,r,d.keep _ _ _ _ R (.keep hk),Q⟩)
  ?assign ?body ?done
 case assign=>
  rintro l t x W K- -f hK;obtain⟨p,pl,pc,q,b,a,rfl⟩:=d.shape _ _ _ f;gi_wp2
  have B:cy W (W.alloc (.cells #[.slice p pl pc,.slice q b a] 79)):=(vaa _ W).alloc Kj _;exact hK _ _ B ⟨W.heap.size,p,pl,pc,q,b,a,vbi W _,rfl,d.keep _ _ _ _ f (.keep (.below B)),_,rfl⟩
 case body=>
  rintro l t x a' W ⟨v,hv,⟨xs,hlen,f,lB⟩⟩ M ⟨c,p,pl,pc,q,b,a,y,rfl,L,z,rfl⟩ T;obtain⟨J,hi,X,Y,V⟩:=vcv M0;have i:=hv.cell;have E:W.cell? (.a c 0)=some (.slice p pl pc):=GO;have S:W.cell? (.a c 1)=some (.slice q b a):=GO;gi_wp2_with (gi_at_builtin;apply CD)
  unfold AR;refine wpListIn_append_own _ rfl _ _ 69 rfl w.heap.size 79 J _ 2 48 ((AE _ _ _).trans underlying69) hi X Y V rfl AU v t (two xs) rfl (f.alloc _) ⟨W.heap.size,0,none⟩ 1 1 [.slice p pl pc,.slice q b a] rfl rfl ?cel ?one KL AP An ?_
  case cel=>
   have nh:=vbi W (.cells #[.slice p pl pc,.slice q b a] 79);intro j u g;rcases j with _ | _ |j
   .simp at g;subst g;show World.cell? _ ⟨W.heap.size,0,none⟩=_;simp_all
   .simp at g;subst g;show World.cell? _ ⟨W.heap.size,1,none⟩=_;simp_all
   grind
  case one=>
   intro u A;simp at A;rcases A with rfl|rfl<;>rfl
  intro v' w1 m k _;obtain⟨g',cap',rfl⟩:=ownsRow_succ m;obtain⟨o,H,Jk,e7,bW⟩:=hv.appended AU f T Kj m k;have nX:=ZO (.S g' 0 (t+1) cap') hv f k Kj;have lR:=o.cell;have o9:=o.frozen;have Z:¬(300:Int)<(t:Int)+1:=AP;clear m k f hv i E S y o;gi_wp2
  refine⟨_,H,⟨xs++[(.slice p pl pc,.slice q b a)],AJ,?_,λj g=>?_⟩⟩
  .grind[ZQ]
  .by_cases C:j<xs.length
   .rw[vdz C];exact d.keep _ _ _ _ (lB j C) nX
   .have U:j=xs.length:=by grind
    subst U;simp;rw[hlen];exact d.keep _ _ _ _ L nX
 case done=>
  rintro W ⟨v,hv,O⟩ P hK;have i:=hv.cell;gi_wp2
  refine⟨AQ,.inl ⟨_,_,rfl,run_takeDeferred hK,?_⟩⟩;refine⟨_,results_tmp rfl _ _ _,v,rfl,O.Sl d (M1 hK),?_⟩;exact(((vaa _ w).alloc Kj _).trans P).trans (t8 _ AQ)
end
structure bw where
 dL:Bool
 num:Int
 eK:Int
 text:ByteArray
abbrev du(d:bw):Value:=.agg #[.bool d.dL,.I d.num,.I d.eK,.string d.text]
def iS:ByteArray:=⟨#[]⟩
def g4:bw:=⟨true,0,0,iS⟩
def Sn(_:aH)(rd:uaq)(d:bw):Prop:=
 rd 0=some (.bool d.dL)/\rd 1=some (.I d.num)/\rd 2=some (.I d.eK)/\rd 3=some (.string d.text)/\d.text.size<=9223372036854775807
abbrev j5(w:aH):=aZ w 4 Sn
def mm(c:bo)(i:Nat):bw:=
 if c.gZ.getD i false then g4 else if c.kind=3 then⟨false,0,0,c.kJ.getD i iS⟩else⟨false,c.ko.getD i 0,c.eK,iS⟩
def ZR:vef.funcs[(187:Nat)]?=some f187:=veb func187
@[simp] theorem aFa:dk false 187:=cq ZR AM
theorem M3:vef.funcs[(210:Nat)]?=some f210:=veb func210
@[simp] theorem aFb:dk false 210:=cq M3 AM
theorem vr(w:aH):Calls vef 187 #[] w λe w'=>e=.returned (du g4)/\w'=w.alloc (.cells #[.T,.I 0,.I 0,.E] 96):=by
 go_enter ZR,ntmps187
 go_wp2
 exact vai (v:=du g4) (by simp[results,results187,go_sem,g4,iS]) Y ⟨Y,Y⟩
def amq(c:bo)(i:Nat){c7 vs l:Value}(w:aH)(h:xd w c7 vs l c)(hn:i<c.gZ.length)(hs:c.kind=3->i<c.kJ.length)(hi:c.kind≠3->i<c.ko.length):
 Calls vef 210 #[.agg #[.I c.kind,.I c.eK,c7,vs,l],.I i] w λe w'=>e=.returned (du (mm c i))/\cy w w':=by
 obtain⟨t,ci,rfl,-,b⟩:=h.ko;obtain⟨r,s,rfl,-,es⟩:=h.kJ;obtain⟨an,u,rfl,-,aW⟩:=h.gZ;obtain⟨p,on,rfl,m⟩:=aW i hn;have j:w.cell? (.a p (on+i))=some (.bool c.gZ[i]):=by simp_all[Ch]
 have q:=fB j;clear m aW;cases k:c.gZ[i]with
 |true=>
  have a:mm c i=g4:=by grind[mm]
  rw[a];rw[k]at j;clear b es h a;go_enter M3,ntmps210
  go_wp2_with (go_at_call 187;refine(vr _).mono ?_;rintro e w' ⟨rfl,rfl⟩)
  exact vai (v:=du g4) (by simp[results,results210,go_sem,g4,iS]) Y ⟨Y,(((vaa _ w).alloc Kj _).alloc AQ _).alloc An _⟩
 |false=>
  rw[k]at j;by_cases hk:c.kind=3
  .obtain⟨bs,os,rfl,d⟩:=es i (hs hk);have A:=hs hk;have a:mm c i=⟨false,0,0,c.kJ[i]⟩:=by grind[mm]
   rw[a];have g:w.cell? (.a bs (os+i))=some (.string c.kJ[i]):=by simp_all[IM]
   have z:=fB g;clear b es h a d;go_enter M3,ntmps210
   go_wp2
   exact vai (v:=du ⟨false,0,0,c.kJ[i]⟩) (by simp[results,results210,go_sem]) Y ⟨Y,((vaa _ w).alloc Kj _).alloc AQ _⟩
  .obtain⟨bi,n,rfl,o⟩:=b i (hi hk);have y:=hi hk;have a:mm c i=⟨false,c.ko[i],c.eK,iS⟩:=by grind[mm]
   rw[a];have f:w.cell? (.a bi (n+i))=some (.I c.ko[i]):=by simp_all[rQ]
   have x:=fB f;clear b es h a o;go_enter M3,ntmps210
   go_wp2
   go_region
   go_wp2
   exact vai (v:=du ⟨false,c.ko[i],c.eK,iS⟩) (by simp[results,results210,go_sem,iS]) Y ⟨Y,(((vaa _ w).alloc Kj _).alloc AQ _).drew⟩
def Sw:tV vef 77 96 (.agg #[.F,.I 0,.I 0,.E]) 4 40:=⟨(AE _ _ _).trans underlying77,AS,AU,AU⟩
def Z4:vef.funcs[(209:Nat)]?=some f209:=veb func209
@[simp] theorem aFj:dk false 209:=cq Z4 AM
def r7(cs:fi)(l:List bw)(k:Nat):Prop:=∀j(h:j<l.length),j<k->cs[j*4]?=some (.bool l[j].dL)/\cs[j*4+1]?=some (.I l[j].num)/\cs[j*4+2]?=some (.I l[j].eK)/\cs[j*4+3]?=some (.string l[j].text)
abbrev M6(cs:fi)(k:Nat)(d:bw):Array Value:=(((cs.setIfInBounds (k*4) (.bool d.dL)).setIfInBounds (k*4+1) (.I d.num)).setIfInBounds (k*4+2) (.I d.eK)).setIfInBounds (k*4+3) (.string d.text)
theorem r7.step{cs:fi}{l:List bw}{k:Nat}(h:r7 cs l k)(hk:k<l.length)(hs:cs.size=l.length*4):r7 (M6 cs k l[k]) l (k+1):=by
 intro j a b;by_cases e:j=k
 .subst e;grind
 .have:=h j a AP;simp only[M6,vam];grind
def j5.MN{w:aH}{b:Nat}{cs:fi}{T:uab}{l:List bw}(h:ag w b cs T)(c:l.length<=9223372036854775807)(ht:∀d∈l,d.text.size<=9223372036854775807)(a:r7 cs l l.length)(cap:Nat):j5 w (.S b 0 l.length cap) l:=by
 refine⟨_,cap,Y,c,λi hi=>⟨b,0,Y,?_,?_,?_,?_,AJ⟩⟩
 .simp;rw[h.rules.1];exact(a i hi hi).1
 .simp;rw[h.rules.1];exact(a i hi hi).2.1
 .simp;rw[h.rules.1];exact(a i hi hi).2.2.1
 .simp;rw[h.rules.1];exact(a i hi hi).2.2.2
structure xo(i:Nat)(c:bo):Prop where
 gZ:i<c.gZ.length
 kJ:c.kind=3->i<c.kJ.length
 ko:c.kind≠3->i<c.ko.length
 text:∀s∈c.kJ,s.size<=9223372036854775807
def xo.small{i:Nat}{c:bo}(h:xo i c):(mm c i).text.size<=9223372036854775807:=by
 unfold mm;split
 .decide
 .split
  .rename_i hk;have:=h.kJ hk;simp[this];exact h.text _ AJ
  .show iS.size<=_;decide
def amA(t:List bo)(v:Value)(i:Nat)(w:aH)(hv:nO w v t)(N:t.length<=1000000)(cR:∀c∈t,xo i c):
 Calls vef 209 #[.agg #[v],.I i] w λe w'=>∃b cs,e=.returned (.S b 0 t.length t.length)/\ag w' b cs 96/\cs.size=t.length*4/\r7 cs (t.map (mm · i)) t.length/\w.heap.size<=b/\cy w w':=by
 obtain⟨V,cap,rfl,hl,I⟩:=hv;have hlen:(t.map (mm · i)).length=t.length:=AQ;go_enter Z4,ntmps209
 go_wp2_with (at_make;refine ML Sw _ rfl _ _ rfl _ _ t.length rfl rfl AP AP ?_;intro w1 bq U f p;have B:=(ag.new w #[.slice V t.length cap] 114).call p;obtain⟨I6,nU,X⟩:=B.all)
 have A:cy w w1:=Below.step p ((vaa _ _).alloc AQ _) AQ;have J:ag w1 (w.heap.size+1) bq 96:=BR;have K:Hid (ag w1 (w.heap.size+1) bq 96):=J;have T:Hid (cy w w1):=A;clear U J p A B;go_loopw [17] (λn W=>∃(k:Nat)(cs:fi),k<=t.length/\n=.I k/\ag W (w.heap.size+1) cs 96/\cs.size=t.length*4/\r7 cs (t.map (mm · i)) k/\cy w W)
  (λi _=>t.length-(intOf i).toNat)
 case atStart=>exact⟨0,bq,vba _,rfl,K.out,f,λj _ hj=>AJ,T.out⟩
 case round=>
  obtain⟨k,cs,hk,rfl,y,u,x,z⟩:=hrel;have H:Hid (ag wr (w.heap.size+1) cs 96):=y;have s:Hid (r7 cs (t.map (mm · i)) k):=x;have l:Hid (cy w wr):=z;have d:Hid _:=u;have MP:Hid _:=f;clear y x z u f;by_cases h:k<t.length
  .obtain⟨b,off,rfl,c7,vs,bS,o,d1,F,E,D,m⟩:=I k h;simp at o;have g:=br.ck l.out;have C:=g _ _ _ o;have S:=g _ _ _ d1;have R:=g _ _ _ F;have Q:=g _ _ _ E;have P:=g _ _ _ D;have ew:=fB C;obtain⟨mh,ci,Y,Z,an,fV,rfl,rfl,rfl⟩:=m.shape;have HC:Hid (xd wr _ _ _ t[k]):=m.mono g;have r:=cR _ (vbe h);clear g o d1 F E D m I cR;have nS:(0:Int)<=(k:Int):=AP;have k0:(k:Int)<(t.length:Int):=AP;go_wp2_with fail
   refine(amq t[k] i _ (HC.out.mono (br.ck ((vaa _ wr).alloc Kj _))) r.gZ r.kJ r.ko).mono ?_;rintro e w2 ⟨rfl,q⟩;have a:=(H.out.alloc _).call q;have L:Hid (ag w2 (w.heap.size+1) cs 96):=a;have O:Hid (cy w w2):=Below.step q (l.out.alloc (by have:=l.out.size;omega) _) (by have:=l.out.size;simp;omega);have Sb:w2.cell? (.a (w.heap.size+1) (k*4))=some (cs[k*4]'IJ):=by rw[a.rules.1];simp
   have Sc:w2.cell? (.a (w.heap.size+1) (k*4+1))=some (cs[k*4+1]'IJ):=by rw[a.rules.1];simp
   have Z2:w2.cell? (.a (w.heap.size+1) (k*4+2))=some (cs[k*4+2]'IJ):=by rw[a.rules.1];simp
   have Z3:w2.cell? (.a (w.heap.size+1) (k*4+3))=some (cs[k*4+3]'IJ):=by rw[a.rules.1];simp
   have Sd:=a.rules.2;clear a q C S R Q P;go_wp2_with fail
   go_roundw
   case rel=>
    refine⟨k+1,M6 cs k (mm t[k] i),AP,by go_num,(((L.out.set _ _).set _ _).set _ _).set _ _,by simp;exact d.out,?_,(((O.out.setCell AQ _).setCell AQ _).setCell AQ _).setCell AQ _⟩;have:=s.out.step AJ (by rw[hlen];exact d.out);grind
   case measure=>simp[intOf];omega
  .have M:k=t.length:=by omega
   go_wp2_with fail
   go_ret
   exact⟨_,_,rfl,H.out,d.out,by rw[<-M];exact s.out,AP,l.out⟩
def Z5:vef.funcs[(208:Nat)]?=some f208:=veb func208
def M7(place:ubd)(vals:List bw)(W:aH)(x:Value):Prop:=
 ∃g_ bv iW cs,x=.agg #[.S g_ 0 place.length place.length,.S bv 0 vals.length vals.length]/\ag W g_ iW 3/\iW.toList=place.map (Value.int .i64)/\ag W bv cs 96/\cs.size=vals.length*4/\r7 cs vals vals.length
def amB(nQ:Nat)(pl:Nat->List Int)(vs:Nat->List bw):Gb nQ (λt=>M7 (pl t) (vs t)):=by
 refine⟨λt W x h=>?_,λt W W' x h hk=>?_⟩
 .obtain⟨b,bv,a,cs,rfl,-⟩:=h;grind
 .obtain⟨b,bv,a,cs,rfl,f,e,d,c⟩:=h;exact⟨b,bv,a,cs,Y,hk _ _ _ _ f AJ,e,hk _ _ _ _ d AJ,c⟩
def amC{n:Nat}(t:List bo)(v:Value)(fr a7:Nat)(w0:aH)(hv:nO w0 v t)(m:t.length<=1000000)(X:fr<=a7)(s3:a7<=1000000)(cR:∀i,i<a7->∀c∈t,xo i c)(H L bs:Nat)(q:w0.cell? (.a H 0)=some (.I fr))(ht:w0.cell? (.a L 0)=some (.I a7))(hs:w0.cell? (.a bs 0)=some v):
 Ga n vef 208 #[.P H 0,.P L 0,.P bs 0] (λk=>M7 [((fr+k:Nat):Int)] (t.map (mm · (fr+k)))) (a7-fr) w0.heap.size w0:=by
 intro l S J W a y x D h0;have I:=MZ y x;clear x y;have g:=br.ck a;have z:=g _ _ _ q;obtain⟨bm,cap,rfl,-,-⟩:=id hv;refine callsIn_of_wp Z5 rfl trivial ?_ rfl;simp[vbq];gi_wp2
 gi_loopw [5] (λp wr=>∃i:Nat,fr<=i/\i<=a7/\p=.I (i:Int)/\J (i-fr) wr/\cy w0 wr/\Below w0.heap.size W wr) (λp _=>a7-(intOf p).toNat)
 case atStart=>exact⟨fr,vad _,X,rfl,AJ,a,vaa _ _⟩
 case round=>
  obtain⟨i,nS,k0,rfl,E,s,K⟩:=hrel;have d:=br.ck s;have xp:=d _ _ _ ht;have U:=d _ _ _ hs;have Gd:=fB U;have T:Hid (nO wr _ t):=hv.mono sO d;have A:Hid (J (i-fr) wr):=E;have j:Hid (cy w0 wr):=s;have B:Hid (Below w0.heap.size W wr):=K;clear E s K d;by_cases o:i<a7
  .have R:(i:Int)<(a7:Int):=by omega
   have F:=cR i o;clear q ht hs z h0 a g cR;gi_wp2
   have f:cy wr (wr.alloc (.cells #[.I (i:Int)] 3)):=(vaa _ wr).alloc Kj _;refine⟨PA,λh=>Bu,(callsIn_wide.2 (amA t _ i _ (T.out.mono sO (br.ck f)) m F)).mono ?_⟩;rintro e w2 ⟨b,cs,rfl,M,r,Z,V,w⟩;have u:Hid (cy wr w2):=Below.step w f AQ;have P:=I _ _ _ A.out u.out;have Q:fr+(i-fr)=i:=AP;have O:M7 [((fr+(i-fr):Nat):Int)] (t.map (mm · (fr+(i-fr)))) w2 (.agg #[.S wr.heap.size 0 1 1,.S b 0 t.length t.length]):=by rw[Q];refine⟨wr.heap.size,b,#[.I (i:Int)],cs,AQ,(ag.new wr _ _).call w,rfl,M,AJ,AJ⟩
   obtain⟨fn,tmps,assign,body,Y,N⟩:=D (i-fr) _ w2 P AP O;clear M r Z V w O P D I f Q F;gi_wp2
   refine⟨λh=>Bu,N.mono ?_⟩;rintro e oD ⟨rfl,xq,C⟩;clear N Y;gi_wp2
   go_roundw
   case rel=>exact⟨i+1,AP,AP,AQ,AJ,j.out.trans ((u.out.mono j.out.size).trans C),B.out.trans ((u.out.mono j.out.size).trans C)⟩
   case measure=>simp[intOf];omega
  .have R:¬(i:Int)<(a7:Int):=by omega
   clear q ht hs z h0 a g cR;gi_wp2
   go_end0
   have e:a7=i:=AP;subst e;exact⟨⟨_,rfl⟩,A.out,B.out⟩
end bU
namespace au
def Carry(ρ:Ren)(w w':aH):Prop:=∀a a' v,dE ρ a a'->w.cell? a=some v->∃v',w'.cell? a'=some v'/\ax ρ v v'
variable{w w':aH}
def et.carry{C:cQ}{S:Sync}{ρ:Ren}(h:et C S ρ w w'):Carry ρ w w':=λ_ _ _ r hv=>h.cell r hv
def uy{ao:Type}(R:aH->(Nat->Option Value)->ao->Prop):Prop:=
 ∀(ρ:Ren) w w' rd j1 x,Carry ρ w w'->(∀j v,rd j=some v->∃v',j1 j=some v'/\ax ρ v v')->R w rd x->R w' j1 x
variable{v:Value}
section
variable{ρ:Ren}
def ax.mw{k:IntKind}{n:Int}(h:ax ρ (.int k n) v):v=.int k n:=by cases h;rfl
def ax.Tq{s:ByteArray}(h:ax ρ (.string s) v):v=.string s:=by cases h;rfl
def ax.aa3{b:Bool}(h:ax ρ (.bool b) v):v=.bool b:=by cases h;rfl
end
def aZ.carry{ao:Type}{c:Nat}{R:aH->(Nat->Option Value)->ao->Prop}(p:uy R){ρ:Ren}(l:Carry ρ w w'){d:Value}(hv:ax ρ v d){xs:List ao}(h:aZ w c R v xs):aZ w' c R d xs:=by
 obtain⟨s,cap,rfl,k,m⟩:=h;cases hv with
 |jV=>refine⟨none,cap,Y,k,λi hi=>?_⟩;obtain⟨b,off,e,_⟩:=m i hi;cases e
 |@slice a a' _ _ r=>refine⟨some a',cap,Y,k,λi hi=>?_⟩;obtain⟨b,off,e,o⟩:=m i hi;cases e;obtain⟨r1,g,f⟩:=r;obtain⟨n,t,q⟩:=a';simp only at r1 g f;subst g;subst f;exact⟨n,off,Y,p ρ w w' (λj=>w.cell? (.a b (off+i*c+j))) _ _ l (λj v hv=>l ⟨b,off+i*c+j,none⟩ ⟨n,off+i*c+j,none⟩ v ⟨r1,Y,Y⟩ hv) o⟩
def GB:uy rQ:=λρ w w' rd e x _ b h=>by obtain⟨d,a,c⟩:=b 0 _ h;rw[c.mw]at a;exact a
def Tr:uy Ch:=λρ w w' rd e x _ b h=>by obtain⟨d,a,c⟩:=b 0 _ h;rw[c.aa3]at a;exact a
def aa4:uy IM:=λρ w w' rd e x _ b h=>by obtain⟨d,a,c⟩:=b 0 _ h.1;rw[c.Tq]at a;exact⟨a,h.2⟩
def aoU:uy MA:=λρ w w' rd g x _ a h=>by obtain⟨f,c,e⟩:=a 0 _ h.1;obtain⟨v2,b,d⟩:=a 1 _ h.2;rw[e.mw]at c;rw[d.mw]at b;exact⟨c,b⟩
def xD:uy Ci:=by rintro ρ w w' rd n x c a ⟨c7,vs,o,h0,i,h,g,f,b⟩;obtain⟨v0,d,b0⟩:=a 0 _ h0;obtain⟨v1,a1,b1⟩:=a 1 _ i;obtain⟨v2,m,b2⟩:=a 2 _ h;obtain⟨v3,j,k⟩:=a 3 _ g;obtain⟨e,l,cm⟩:=a 4 _ f;rw[b0.mw]at d;rw[b1.mw]at a1;exact⟨v2,v3,e,d,a1,m,j,l,aZ.carry GB c b2 b.ko,aZ.carry aa4 c k b.kJ,aZ.carry Tr c cm b.gZ⟩
def C7:uy IP:=by rintro ρ w w' rd j x k a ⟨h0,h,g,f,e⟩;obtain⟨v0,d,b0⟩:=a 0 _ h0;obtain⟨v1,a1,b1⟩:=a 1 _ h;obtain⟨v2,c,b2⟩:=a 2 _ g;obtain⟨v3,b,i⟩:=a 3 _ f;rw[b0.mw]at d;rw[b1.mw]at a1;rw[b2.mw]at c;rw[i.Tq]at b;exact⟨d,a1,c,b,e⟩
def Bc:uy RP:=by rintro ρ w w' rd d x b a ⟨v,h0,h⟩;obtain⟨v0,c,b0⟩:=a 0 _ h0;exact⟨v0,c,aZ.carry C7 b b0 h⟩
def gm.carry{C:cQ}{D M:dY}{w0:aH}(h:gm C D M w w0)(g:fA C D M w):Carry (dz D M) w w0:=by
 rintro a a' v ⟨⟨o,hd⟩,n,m⟩ hv;obtain⟨c,e,fr,f,j,d⟩:=u9 hv;rw[o]at f;obtain⟨p,l,_⟩:=h.cells g hd f;refine⟨v,oo l (m▸j) (n▸d),?_⟩;obtain⟨ob,i,b⟩:=g _ hd;rw[f]at i;cases i;rcases b with b|b
 .cases b with|cells _ k _=>exact k.get _ _ _ d d
 .exact b.elim
end au
namespace dI
open RowKit Shelf au bU
variable{L:List PanicEntry}
section
attribute [local go_sem] Oper.semAt_some
def ZU(L:List PanicEntry)(n:Nat)(P:cf)(g:Nat)(lb:fi)(Row:uat)(N nQ:Nat)(w0:aH):Prop:=
 ∀(l:Nat)(S:dY)(J:ubh)(W:aH),Below nQ w0 W->(∀t W,J t W->∀b,S b->b<W.heap.size)->(∀t W W',J t W->jh W W'->(∀b,S b->W'.heap[b]?=W.heap[b]?)->J t W')->
  (∀t x W1,J t W1->t<N->Row t W1 x->YieldAt Fence.wide (n-1) P l #[x] W1 λe W'=>e=.returned (.T)/\J (t+1) W'/\Below nQ W1 W')->
  J 0 W->CallsIn Fence.wide n P g (#[.func (.yield l) #[] #[]]++lb) W λe W'=>e=.panicked L/\J N W'/\Below nQ W W'
def ap0{n:Nat}{P:cf}{g:uau}{p:Tmp}{assign body:Code}{Q:ual}{a:Act}{w:aH}{gf:Nat}{lb:fi}{Row:uat}{N nQ:Nat}{w0:aH}(hg:a.eval g=.func (.func gf) #[] lb)(vd:∀args w,(callFunc gf args).run P w=.ok (.enter gf args) w)(D:ZU L (n-1) P gf lb Row N nQ w0)(H:Below nQ w0 w)(hn:nQ<=w.heap.size)(S:dY)(hS:∀b,S b->b<w.heap.size)(I:ubh)(m:∀t W W',I t W->jh W W'->(∀b,S b->W'.heap[b]?=W.heap[b]?)->I t W')(h0:I 0 w)(j:ubo)(Jd:∀t x a' W W',j t x a' W->jh W W'->(∀b,S b->W'.heap[b]?=W.heap[b]?)->j t x a' W')(Je:∀(l t:Nat)(x:Value)(W:aH)(K:uag),I t W->t<N->Row t W x->(∀a' W',cy W W'->j t x a' W'->K a' W')->
  assign.wpIn (Fence.wide.inRound l) (n-1-1) P (Exit.then K (λ_ _ _=>False)) {tmps:=a.tmps.setIfInBounds p x,defers:=[]} W)(B:∀(l t:Nat)(x:Value)(a':Act)(W:aH),I t W->t<N->j t x a' W->nQ<=W.heap.size->body.wpIn (Fence.wide.inRound l) (n-1-1) P (λe _ W'=>e=.normal/\KeepsOthers W W'/\Below nQ W W'/\I (t+1) W') a' W)(hdone:∀W,Below nQ w W->W.heap[w.heap.size]?=some (.deferred (some []))->Q (.panic L) {a with defers:={target:=.collected w.heap.size,args:=#[]}::a.defers} W):
 (Code.rangeFunc g #[p] assign body).wpIn Fence.wide n P Q a w:=by
 refine wpIn_rangeFunc ?_;intro fn O;obtain⟨rec,CA⟩:∃rec:LoopState->Loop,rec=λst=>{state:=st,pending:=none,fn,tmps:=a.tmps,params:=#[p],assign,body,defers:=w.heap.size}:=⟨_,rfl⟩;obtain⟨c,Jf⟩:∃c,(w.alloc (.deferred (some []))).alloc (.loop (rec .ready))=c:=⟨_,rfl⟩;have Cd:c.heap[w.heap.size+1]?=some (.loop (rec .ready)):=by grind[World.alloc_heap_new,World.size_alloc]
 have Jg:c.heap[w.heap.size]?=some (.deferred (some [])):=by grind[Below.heap_alloc,World.alloc_heap_new]
 have i:cy w c:=by rw[<-Jf];exact((vaa _ w).alloc Kj _).alloc AQ _
 refine⟨w.heap.size+1,[{target:=.collected w.heap.size,args:=#[]}],c,{target:=.fn (.func gf) lb,args:=#[.func (.yield (w.heap.size+1)) #[] #[]]},c,gf,#[.func (.yield (w.heap.size+1)) #[] #[]]++lb,c,?_,?_,λ_ _=>trivial,?_,λh=>Bu,?_⟩
 .simp_all[run_enterLoop_outer]
 .simp only[resolve,hg];simp[go_sem]
 .grind[invoke]
 .refine(D (w.heap.size+1) (λb=>S b\/b=w.heap.size\/b=w.heap.size+1) (λt W=>(I t W/\nQ<=W.heap.size/\w.heap.size<=W.heap.size)/\W.heap[w.heap.size+1]?=some (.loop (rec .ready))/\W.heap[w.heap.size]?=some (.deferred (some []))) c (H.trans (i.mono hn)) ?_ ?_ ?_ ⟨⟨m _ _ _ h0 (.below i) (λb hs=>i.block b (hS b hs)),AJ,i.size⟩,Cd,Jg⟩).mono ?_
  .grind
  .grind
  .rintro t x W ⟨⟨hi,R,xc⟩,k,hk⟩ f X;have v:∀(W:aH)(o:Obj) b,S b->(W.putObj (w.heap.size+1) o).heap[b]?=W.heap[b]?:=λW o b hs=>vay AJ;have s:=run_yield (P:=P) (args:=#[x]) k AJ;rw[CA]at s;refine⟨fn,_,assign,body,s,roundIn_of_wpIn O ?_⟩;clear s;have V:(#[p].zip #[x]).foldl (λtmps(u:Tmp×Value)=>tmps.setIfInBounds u.1 u.2) a.tmps=a.tmps.setIfInBounds p x:=AQ;refine Eq.mp (vbp (λT=>Code.wpIn (Fence.wide.inRound (w.heap.size+1)) (n-1-1) P assign _ {tmps:=T,defers:=[]} W) V.symm) ?_;refine Je _ t x W _ hi f X ?_;intro a' A d Z;have q:=(d.block _ (ml k)).trans k;have U:=(d.block _ (ml hk)).trans hk;refine⟨_,run_beginRound q AJ,?_⟩;have F:(A.putObj (w.heap.size+1) (.loop {rec .ready with state:=.busy})).heap[w.heap.size+1]?=some (.loop {rec .ready with state:=.busy}):=World.putObj_heap_same (ml q);have E:(A.putObj (w.heap.size+1) (.loop {rec .ready with state:=.busy})).heap[w.heap.size]?=some (.deferred (some [])):=(vay AP).trans U;refine wpIn_mono (B _ t x a' _ (m _ _ _ (m _ _ _ hi (.below d) (λb hs=>d.block b AJ)) (.put q) (v _ _)) f (Jd _ _ _ _ _ Z (.put q) (v _ _)) AJ) ?_;rintro e cn oD ⟨rfl,y,r,C⟩;have z:=y.same _ _ F rfl;have Y:=y.same _ _ E rfl;have J:=run_endRound (P:=P) none z;refine⟨_,_,J,rfl,⟨⟨m _ _ _ C (.put z) (v _ _),by have:=d.size;have:=r.size;simp at this⊢;omega,by have:=d.size;have:=r.size;simp at this⊢;omega⟩,?_,(vay AP).trans Y⟩,?_⟩
   .grind[World.putObj_heap_same]
   .exact((d.mono R).trans ((t8 _ AP).trans r)).trans (t8 _ AP)
  .rintro e W2 ⟨rfl,⟨⟨hi,-⟩,k,hk⟩,M⟩;exact hdone _ ((i.mono hn).trans M) hk
def ap1{Row:uat}{gf:Nat}{lb:fi}{N:Nat}(a3:N<=300)(w:aH)(f:Gb w.heap.size Row)(D:∀args w,(callFunc gf args).run vef w=.ok (.enter gf args) w)(F:ZU L 2 vef gf lb Row N w.heap.size w):
 Calls vef 112 #[.func (.func gf) #[] lb] w λe w'=>e=.panicked L/\cy w w':=by
 refine(callsIn_wide (n:=3)).1 ?_;refine callsIn_of_wp_marks ZN rfl trivial ?_;simp[vbq];gi_wp2
 have I:Boxed (w.alloc (.cells #[.N] 69)) w.heap.size 69 (.N):=Boxed.new w _ _;refine ap0 (n:=3) (gf:=gf) (lb:=lb) (w0:=w) (nQ:=w.heap.size) (N:=N) (Row:=Row) rfl D F ((vaa _ w).alloc Kj _) AQ (λ_=>False) AJ
  (λt W=>∃v,Boxed W w.heap.size 69 v/\CC Row w.heap.size t v W)
  (λt W W' h hk _=>by
   obtain⟨v,s,r⟩:=h;exact⟨v,hk.cells _ _ _ _ s,r.Sl f hk⟩)
  ⟨_,I,⟨[],rfl,vcc _ _ _ _,AJ⟩⟩
  (λt x a' W=>∃c p pl pc q b a,W.heap[c]?=some (Obj.cells #[.slice p pl pc,.slice q b a] 79 (0,0))/\x=.agg #[.slice p pl pc,.slice q b a]/\Row t W x/\∃z,a'={tmps:=#[.func (.func gf) #[] lb,undef,.N,.P w.heap.size 0,.P c 0,.func (.func gf) #[] lb,z,.U,.U,.U,.U,.U,.U,.U,.U],defers:=[]})
  (λt x a' W W' h hk _=>by
   obtain⟨c,p,pl,pc,q,b,a,s,r,R,Q⟩:=h;exact⟨c,p,pl,pc,q,b,a,hk.cells _ _ _ _ s,r,f.keep _ _ _ _ R (.keep hk),Q⟩)
  ?assign ?body ?done
 case assign=>
  rintro l t x W K- -d hK;obtain⟨p,pl,pc,q,b,a,rfl⟩:=f.shape _ _ _ d;gi_wp2
  have B:cy W (W.alloc (.cells #[.slice p pl pc,.slice q b a] 79)):=(vaa _ W).alloc Kj _;exact hK _ _ B ⟨W.heap.size,p,pl,pc,q,b,a,vbi W _,rfl,f.keep _ _ _ _ d (.keep (.below B)),_,rfl⟩
 case body=>
  rintro l t x a' W ⟨v,hv,⟨xs,hlen,d,lB⟩⟩ O ⟨c,p,pl,pc,q,b,a,y,rfl,M,z,rfl⟩ T;obtain⟨J,hi,X,Y,V⟩:=vcv M0;have o:=hv.cell;have E:W.cell? (.a c 0)=some (.slice p pl pc):=GO;have S:W.cell? (.a c 1)=some (.slice q b a):=GO;gi_wp2_with (gi_at_builtin;apply CD)
  unfold AR;refine wpListIn_append_own _ rfl _ _ 69 rfl w.heap.size 79 J _ 2 48 ((AE _ _ _).trans underlying69) hi X Y V rfl AU v t (two xs) rfl (d.alloc _) ⟨W.heap.size,0,none⟩ 1 1 [.slice p pl pc,.slice q b a] rfl rfl ?cel ?one KL AP An ?_
  case cel=>
   have nh:=vbi W (.cells #[.slice p pl pc,.slice q b a] 79);intro j u g;rcases j with _ | _ |j
   .simp at g;subst g;show World.cell? _ ⟨W.heap.size,0,none⟩=_;simp_all
   .simp at g;subst g;show World.cell? _ ⟨W.heap.size,1,none⟩=_;simp_all
   grind
  case one=>
   intro u A;simp at A;rcases A with rfl|rfl<;>rfl
  intro v' w1 k i _;obtain⟨g',cap',rfl⟩:=ownsRow_succ k;obtain⟨m,H,Jk,e7,bW⟩:=hv.appended AU d T Kj k i;have nX:=ZO (.S g' 0 (t+1) cap') hv d i Kj;have lR:=m.cell;have o9:=m.frozen;have Z:¬(300:Int)<(t:Int)+1:=AP;clear k i d hv o E S y m;gi_wp2
  refine⟨_,H,⟨xs++[(.slice p pl pc,.slice q b a)],AJ,?_,λj g=>?_⟩⟩
  .grind[ZQ]
  .by_cases C:j<xs.length
   .rw[vdz C];exact f.keep _ _ _ _ (lB j C) nX
   .have U:j=xs.length:=by grind
    subst U;simp;rw[hlen];exact f.keep _ _ _ _ M nX
 case done=>
  rintro W P hK;refine⟨AQ,.inl ⟨_,_,rfl,run_takeDeferred hK,?_⟩⟩;exact⟨rfl,(((vaa _ w).alloc Kj _).trans P).trans (t8 _ AQ)⟩
end
end dI
namespace cC
open Conc ConcN au bn
def pq(Shun:uai)(B:Nat)(e:Event):Prop:=(∀x,(MemAct.ofEvent e).touch?=some x->(x.loc.isMemory=true->(Shun x.loc->x.kind≠ .plain)/\(x.kind=.atomic->Shun x.loc))/\∀b,e8 x.loc=some b->b<B)/\∀a,MemAct.ofEvent e≠ .mark (.release a)
structure nz(Shun:uai)(B d n:Nat)(t:Trace):Prop where
 gs:∀op∈t,op.g<n
 q2:∀op∈t,∀a,op.act≠ .mark (.release a)
 oG:∀i a,touchAt t i=some a->a.loc.isMemory=true->a.kind=.atomic->Shun a.loc
 Kg:∀said,¬Race said t
 known:∀i a,touchAt t i=some a->a.loc.isMemory=true->Knows t 0 i\/(Shun a.loc/\a.kind=.atomic)
 over:t.HandedOver
 hears:Deaf t 0=d
 low:∀i a b,touchAt t i=some a->e8 a.loc=some b->b<B
variable{es:uao}
section
variable{Shun:uai}{B d n:Nat}{t:Trace}
theorem nz.mono{c:Nat}(h:nz Shun B d n t)(g:B<=c):nz Shun c d n t:=⟨h.gs,h.q2,h.oG,h.Kg,h.known,h.over,h.hears,λi a b f e=>vav (h.low i a b f e) g⟩
def nz.own(h:nz Shun B d n t)(hn:0<n){fn:uah}{pos:String}(f:∀e∈es,pq Shun B e):nz Shun B (deafBehind d es) n (t++MemOp.ofEvents 0 fn pos es):=by
 have u:∀op∈MemOp.ofEvents 0 fn pos es,op.g=0:=λop c=>Dr;refine⟨λop c=>(vdn.1 c).elim (h.gs op) AJ,λop c=>(vdn.1 c).elim (h.q2 op) (λx=>by obtain⟨e,g,rfl⟩:=Conc.mem_ofEvents x;exact(f e g).2),λi a j r hk=>?_,λsaid=>noRace_append (h.Kg said) u λi a j op c b m l=>?_,λi a j v=>?_,handedOver_app h.over AJ,?_,λi a b j m=>?_⟩
 .obtain⟨x,k,p⟩:=touch_of j;rcases vbj k with⟨_,s⟩|⟨_,o⟩
  .exact h.oG i a FD r hk
  .obtain⟨e,g,rfl⟩:=Conc.mem_ofEvents o;exact(((f e g).1 a p).1 r).2 hk
 .rcases h.known i a j l.2.1 with hk|⟨q,z⟩
  .exact hk
  .have w:b.kind≠ .plain:=by obtain⟨e,g,rfl⟩:=Conc.mem_ofEvents c;exact(((f e g).1 b m).1 (by rw[<-l.1];exact l.2.1)).1 (l.1▸q)
   obtain⟨_,_,_,y⟩:=l;grind
 .obtain⟨x,k,p⟩:=touch_of j;rcases vbj k with⟨_,s⟩|⟨_,o⟩
  .exact(h.known i a FD v).imp (·.app _) id
  grind[knows_own]
 .rw[Deaf_own,h.hears]
 .obtain⟨x,k,p⟩:=touch_of j;rcases vbj k with⟨_,s⟩|⟨_,o⟩
  .exact h.low i a b FD m
  .obtain⟨e,g,rfl⟩:=Conc.mem_ofEvents o;exact((f e g).1 a p).2 b m
theorem aqE{e:Event}(h:e.mute=true)(a:Addr):MemAct.ofEvent e≠ .mark (.release a):=by
 obtain⟨loc,wr,b⟩:=e;cases loc<;>simp_all[Event.mute]
 grind[MemAct.ofEvent]
theorem nz.mute(h:nz Shun B d n t){g:Nat}(hg:g≠0)(s:g<n){fn:uah}{pos:String}(l:∀e∈es,e.mute=true):nz Shun B d n (t++MemOp.ofEvents g fn pos es):=by
 have k:∀op∈MemOp.ofEvents g fn pos es,op.g=g:=λop c=>Dr;have hn:∀op∈MemOp.ofEvents g fn pos es,op.act.touch?=none:=λop c=>by grind[Conc.mem_ofEvents,touch_mute]
 refine⟨λop c=>(vdn.1 c).elim (h.gs op) AJ,λop c=>(vdn.1 c).elim (h.q2 op) (λx=>by grind[Conc.mem_ofEvents,aqE]),λi a j q hk=>?_,λsaid=>noRace_append (h.Kg said) k AJ,λi a j l=>?_,handedOver_app h.over AJ,(Deaf_other t hg _ k).trans h.hears,λi a b j r=>?_⟩
 .obtain⟨x,f,p⟩:=touch_of j;rcases vbj f with⟨_,m⟩|⟨_,o⟩
  .exact h.oG i a FD q hk
  grind
 .obtain⟨x,f,p⟩:=touch_of j;rcases vbj f with⟨_,m⟩|⟨_,o⟩
  .exact(h.known i a FD l).imp (·.app _) id
  grind
 .obtain⟨x,f,p⟩:=touch_of j;rcases vbj f with⟨_,m⟩|⟨_,o⟩
  .exact h.low i a b FD r
  grind
end
def mC(P:cf)(Post:fX)(m:Machine)(t:Trace):Prop:=
 ∃N last o w' cJ,runNT P (N+1) m t=(.ended o w',cJ)/\runN P N m=.next last/\step P last=.ended o w'/\Conc.Good P Post last o w' cJ
theorem mC.step{P:cf}{Post:fX}{m a:Machine}{t:Trace}{ops:Array MemOp}(hs:stepT P m=(.next a,ops))(h:mC P Post a (t++ops)):mC P Post m t:=by obtain⟨N,last,o,w',d,f,e,c,b⟩:=h;refine⟨N+1,last,o,w',d,by grind[runNT],?_,c,b⟩;grind[runN,Go.step]
theorem mC.leads{P:cf}{Post:fX}{q:Machine->Trace->Prop}(hq:∀m t,q m t->mC P Post m t):∀(n:Nat){m a:Machine}{t b:Trace},runNT P n m t=(.next a,b)->q a b->mC P Post m t
 |0,m,a,t,b,h,k=>by grind[runNT]
 |n+1,m,a,t,b,h,k=>by simp[runNT]at h;cases hs:stepT P m with|mk r ops=>rw[hs]at h;cases r with|next m1=>exact mC.step hs (mC.leads hq n h k)|ended o w=>grind
def bK(P:cf)(Post:fX)(n:Nat)(Shun:uai)(d:Nat)(g:uaf)(w:aH):Prop:=
 ∀(gs:uax)(sl:uba)(q:uas)(t:Trace),gs.size=n->gs[0]?=some g->Leavers P t gs q->nz Shun w.heap.size d n t->mC P Post (crowd gs w sl) t
inductive en(P:cf)(Shun:uai)(Stop:uav):Nat->Goroutine->aH->Prop
 |stop {d:Nat} {g:uaf} {w:aH} (h:∀k,Stop d g (w.at k)):en P Shun Stop d g w
 |step {d:Nat} {g:uaf} {w:aH} (hs:g.status=.running) (ok:∀k,∃g' w' es,stepG P true g (w.at k)=.go g' w' es/\(∀e∈es,pq Shun w'.heap.size e)/\w.heap.size<=w'.heap.size)
  (next:∀k g' w' es,stepG P true g (w.at k)=.go g' w' es->en P Shun Stop (deafBehind d es) g' w'):en P Shun Stop d g w
section
variable{P:cf}{Shun:uai}{Stop Stop':uav}{d:Nat}{g:uaf}{w:aH}
def en.mk(hs:g.status=.running)(h:∀k,∃g' w' es,stepG P true g (w.at k)=.go g' w' es/\(∀e∈es,pq Shun w'.heap.size e)/\w.heap.size<=w'.heap.size/\en P Shun Stop (deafBehind d es) g' w'):en P Shun Stop d g w:=
 .step hs (λk=>let⟨g',w',es,a,i,f,_⟩:=h k;AJ) λk g1 w1 b e=>by obtain⟨g',w',es,a,_,_,c⟩:=h k;grind
theorem en.at(h:en P Shun Stop d g w)(k:Nat):en P Shun Stop d g (w.at k):=by cases h with|stop h=>exact .stop λk'=>h k'|step hs h hn=>exact .step hs (λk'=>h k') (λk'=>hn k')
theorem en.bind(h:en P Shun Stop d g w)(hS:∀d g w,Stop d g w->en P Shun Stop' d g w):en P Shun Stop' d g w:=by induction h with|@stop d g w h=>exact hS _ _ _ (h w.drawn)|step hs h hn a=>exact .step hs h AJ
theorem jP{R:aH->aH->Prop}(b:∀w k,R w (w.at k)):∀(n:Nat)(g:uaf)(w:aH),Goes P true R Go.ConcR.DC0 (λg w=>en P Shun Stop d g w) n g w->en P Shun Stop d g w
 |0,g,w,h=>h w (b w w.drawn)
 |n+1,g,w,h=>by
  rcases h with h|⟨hs,h⟩
  .exact h w (b w w.drawn)
  .refine en.mk hs λk=>?_;have a:=h (w.at k) (b w k);cases hst:stepG P true g (w.at k)with
   |go g1 w1 es=>rw[hst]at a;obtain⟨⟨rfl,rfl⟩,c⟩:=a;exact⟨g1,w.at k,#[],Y,AQ,vad _,jP b n g1 (w.at k) c⟩
   | _=>rw[hst]at a;exact a.elim
theorem ab3{g':uaf}:∀(n:Nat)(g:uaf)(w:aH),Goes P true (λ_ _=>True) Go.ConcR.DC0 (λe _=>e=g') n g w->(∀k,Stop d g' (w.at k))->en P Shun Stop d g w
 |0,g,w,h,hs=>by have:=h w trivial;subst this;exact .stop hs
 |n+1,g,w,h,hs=>by
  rcases h with h|⟨b,h⟩
  .have:=h w trivial;subst this;exact .stop hs
  .refine en.mk b λk=>?_;have a:=h (w.at k) trivial;cases hst:stepG P true g (w.at k)with
   |go g1 w1 es=>rw[hst]at a;obtain⟨⟨rfl,rfl⟩,c⟩:=a;exact⟨g1,w.at k,#[],Y,AQ,vad _,ab3 n g1 (w.at k) c λk'=>hs k'⟩
   | _=>rw[hst]at a;exact a.elim
theorem Dm(t:Trace)(fn:uah)(pos:String)(es:uao){j:Nat}(b:0≠j):Deaf (t++MemOp.ofEvents 0 fn pos es) j=Deaf t j:=
 Deaf_other t (g':=0) AP _ (λop a=>Dr)
def Uj{gs:uax}{q:uas}{t:Trace}{a:uaf}(l:Leavers P t gs q)(h0:gs[0]?=some a)(hrun:a.status=.running){i k:Nat}{g:uaf}{sl':uba}(u:0<i)(hi:gs[i]?=some g)(hg:g.status=.running):
 ∃gs' m fn pos es,runT P (crowd gs (w.at k) sl') i=(.next (crowd gs' (w.at k) sl'),MemOp.ofEvents i fn pos es)/\gs'.size=gs.size/\gs'[0]?=some a/\Leavers P (t++MemOp.ofEvents i fn pos es) gs' m/\(∀e∈es,e.mute=true)/\sumTo gs'.size m<sumTo gs.size q:=by
 have hq:=l.old i g u hi;have s:(i==0)=false:=AJ;have d:i<gs.size:=(vaj.1 hi).1;cases b:q i with
 |zero=>rw[b]at hq;rw[hq.1]at hg;cases hg
 |succ k'=>
  rw[b]at hq;rcases hq with⟨C,_⟩|⟨_,g',es,A,r,z⟩
  .grind
  have p:=runT_crowd_go (P:=P) (sl:=sl') (i:=i) hi (by rw[s];exact r (w.at k));have hsz:((gs.map (woken P g g' (w.at k))).setIfInBounds i g').size=gs.size:=AQ;have B:sumTo gs.size (upd q i k')+(k'+1)=sumTo gs.size q+k':=by have:=sumTo_upd q k' id d;simp_all
  refine⟨_,upd q i k',_,_,es,p,hsz,?_,⟨λj x o n=>?_,λj o=>?_⟩,A,AJ⟩
  .grind[woken_run]
  .by_cases f:i=j
   .grind[upd_same,Deaf_own]
   .rw[vdf f,vch]at n;obtain⟨y,v,rfl⟩:=vak.1 n;have h:=l.old j y o v;rw[woken_quitsD h,upd_ne q k' (Ne.symm f),Deaf_other t f _ (λop c=>Dr)];grind
  .rw[Deaf_other t (g':=i) AJ _ (λop c=>Dr)];exact l.above j AJ
def Od{gs:uax}{q:uas}{t:Trace}{a:uaf}{B n:Nat}(hn:gs.size=n)(r:Leavers P t gs q)(m:nz Shun B d n t)(h0:gs[0]?=some a)(hrun:a.status=.running){i k:Nat}{g:uaf}{sl':uba}(c:0<i)(hi:gs[i]?=some g)(hg:g.status=.running):
 ∃gs' b ops,runT P (crowd gs (w.at k) sl') i=(.next (crowd gs' (w.at k) sl'),ops)/\gs'.size=gs.size/\gs'[0]?=some a/\Leavers P (t++ops) gs' b/\nz Shun B d n (t++ops)/\sumTo gs'.size b<sumTo gs.size q:=by
 obtain⟨gs',b,fn,pos,es,l,j,h,f,p,o⟩:=Uj (w:=w) (k:=k) (sl':=sl') r h0 hrun c hi hg;have e:i<gs.size:=(vaj.1 hi).1;exact⟨gs',b,_,l,j,h,f,m.mute AP AP p,o⟩
def GJ{gs:uax}{q:uas}{t:Trace}{a:uaf}(c:Leavers P t gs q)(h0:gs[0]?=some a)(hrun:a.status=.running):∀g∈gs,awake g:=by
 intro g hg;obtain⟨i,hi,rfl⟩:=Array.mem_iff_getElem.1 hg;rcases vbn i with rfl|b
 .grind[awake_of]
 .exact awake_of ((c.old i _ b (vax hi)).status.elim .inl AJ)
def Dn{Post:fX}{n:Nat}(hs:g.status=.running)(h:∀k,∃g' w' es,stepG P true g (w.at k)=.go g' w' es/\(∀e∈es,pq Shun w'.heap.size e)/\w.heap.size<=w'.heap.size/\bK P Post n Shun (deafBehind d es) g' w'):bK P Post n Shun d g w:=by
 have key:∀(M:Nat)(gs:uax)(sl:uba)(q:uas)(t:Trace)(o:Nat),sumTo gs.size q<=M->gs.size=n->gs[0]?=some g->Leavers P t gs q->nz Shun w.heap.size d n t->mC P Post (crowd gs (w.at o) sl) t:=by
  intro M;induction M with
  |zero=>
   intro gs sl q t o C hn h0 a c;obtain⟨i,g1,k,sl',hi,hg,hst⟩:=crowd_pick (P:=P) (w:=w.at o) (sl:=sl) (GJ a h0 hs) AJ;rcases vbn i with rfl|z
   .obtain rfl:g1=g:=by grind
    obtain⟨g',w',es,p,u,s,r⟩:=h k;have v:=runT_crowd_go (P:=P) (sl:=sl') (i:=0) hi (show stepG P (0==0) g1 (w.at k)=_ from p);have l:0<gs.size:=(vaj.1 h0).1;refine mC.step (hst.trans v) (r _ _ q _ AJ AJ ⟨λj x m f=>?_,λj m=>?_⟩ ((c.mono s).own AP u))
    .have b:0≠j:=by omega
     rw[vdf b,vch]at f;obtain⟨y,A,rfl⟩:=vak.1 f;have hq:=a.old j y m A;grind[woken_quitsD,Dm]
    .rw[Dm _ _ _ _ AJ];exact a.above j AJ
   .obtain⟨gs',B,ops,_,_,_,_,_,l⟩:=Od (w:=w) (k:=k) (sl':=sl') hn a c h0 hs z hi hg;omega
  |succ M D=>
   intro gs sl q t o C hn h0 a c;obtain⟨i,g1,k,sl',hi,hg,hst⟩:=crowd_pick (P:=P) (w:=w.at o) (sl:=sl) (GJ a h0 hs) AJ;rcases vbn i with rfl|z
   .obtain rfl:g1=g:=by grind
    obtain⟨g',w',es,p,u,s,r⟩:=h k;have v:=runT_crowd_go (P:=P) (sl:=sl') (i:=0) hi (show stepG P (0==0) g1 (w.at k)=_ from p);have l:0<gs.size:=(vaj.1 h0).1;refine mC.step (hst.trans v) (r _ _ q _ AJ AJ ⟨λj x m f=>?_,λj m=>?_⟩ ((c.mono s).own AP u))
    .have b:0≠j:=by omega
     rw[vdf b,vch]at f;obtain⟨y,A,rfl⟩:=vak.1 f;have hq:=a.old j y m A;grind[woken_quitsD,Dm]
    .rw[Dm _ _ _ _ AJ];exact a.above j AJ
   .obtain⟨gs',B,ops,p,u,s,r,F,E⟩:=Od (w:=w) (k:=k) (sl':=sl') hn a c h0 hs z hi hg;exact mC.step (hst.trans p) AJ
 intro gs sl q t hn h0 a c;exact key _ gs sl q t w.drawn Kj hn h0 a c
def vU{Post:fX}{n:Nat}(h:en P Shun (bK P Post n Shun) d g w):bK P Post n Shun d g w:=by induction h with|@stop d g w h=>exact h w.drawn|step hs h hn a=>refine Dn hs λk=>?_;obtain⟨g',w',es,e,c,b⟩:=h k;grind
def ab5{Post:fX}{gs:uax}{q:uas}{t:Trace}{B n k f:Nat}{sl sl':uba}(hn:0<n)(hst:stepT P (crowd gs (w.at f) sl)=runT P (crowd gs (w.at k) sl') 0)(h:Leavers P t gs q)(p:nz Shun B d n t)(hi:gs[0]?=some g){v:Value}(o:stepG P true g (w.at k)=.ended (.done v) (w.at k) es)(b:∀e∈es,pq Shun B e)(r:Post v (w.at k)):mC P Post (crowd gs (w.at f) sl) t:=by
 have m:=runT_many_ended (P:=P) (sl:=sl') (i:=0) hi (show stepG P (0==0) g (w.at k)=_ from o);have l:=p.own hn (fn:=g.frame.fn) (pos:=g.frame.place) b;have hs:=hst.trans m;refine⟨0,_,_,_,_,by simp[runNT,hs],Y,by simp[Go.step,hs],v,Y,r,l.Kg,l.over,⟨λx a=>?_,Y⟩,λj x a c=>?_⟩
 .obtain⟨j,c⟩:=List.mem_iff_getElem?.1 a;rw[List.getElem?_drop]at c;exact⟨_,(h.old (1+j) x AP (by grind[crowd])).leaves⟩
 .have hq:=h.old j x AP a;refine⟨q j,?_⟩;have e:(t++MemOp.ofEvents 0 g.frame.fn g.frame.place es).deaf j (t++MemOp.ofEvents 0 g.frame.fn g.frame.place es).size=Deaf t j:=Dm t _ _ _ AP;rw[e];exact hq.hears _
def aqG{Post:fX}{n:Nat}(hs:g.status=.running)(h:∀k,∃v es,stepG P true g (w.at k)=.ended (.done v) (w.at k) es/\(∀e∈es,pq Shun w.heap.size e)/\Post v (w.at k)):bK P Post n Shun d g w:=by
 have key:∀(M:Nat)(gs:uax)(sl:uba)(q:uas)(t:Trace)(c:Nat),sumTo gs.size q<=M->gs.size=n->gs[0]?=some g->Leavers P t gs q->nz Shun w.heap.size d n t->mC P Post (crowd gs (w.at c) sl) t:=by
  intro M;induction M with
  |zero=>
   intro gs sl q t c r hn h0 a b;obtain⟨i,g1,k,sl',hi,hg,hst⟩:=crowd_pick (P:=P) (w:=w.at c) (sl:=sl) (GJ a h0 hs) AJ;rcases vbn i with rfl|m
   .obtain rfl:g1=g:=by grind
    obtain⟨v,es,f,l,j⟩:=h k;exact ab5 AJ hst a b h0 f l j
   .obtain⟨gs',o,ops,_,_,_,_,_,p⟩:=Od (w:=w) (k:=k) (sl':=sl') hn a b h0 hs m hi hg;omega
  |succ M s=>
   intro gs sl q t c r hn h0 a b;obtain⟨i,g1,k,sl',hi,hg,hst⟩:=crowd_pick (P:=P) (w:=w.at c) (sl:=sl) (GJ a h0 hs) AJ;rcases vbn i with rfl|m
   .obtain rfl:g1=g:=by grind
    obtain⟨v,es,f,l,j⟩:=h k;exact ab5 AJ hst a b h0 f l j
   .obtain⟨gs',o,ops,f,l,j,y,x,u⟩:=Od (w:=w) (k:=k) (sl':=sl') hn a b h0 hs m hi hg;exact mC.step (hst.trans f) AJ
 intro gs sl q t hn h0 a b;exact key _ gs sl q t w.drawn Kj hn h0 a b
end
section
open ConcM
section
variable{P:cf}{Shun:uai}{Stop:uav}{d:Nat}
def mD{g g1:uaf}{w w1:aH}(hs:g.status=.running)(h:∀k,stepG P true g (w.at k)=.go g1 (w1.at k) es)(a:∀e∈es,pq Shun w1.heap.size e)(hsz:w.heap.size<=w1.heap.size)(b:en P Shun Stop (deafBehind d es) g1 w1):en P Shun Stop d g w:=
 en.mk hs λk=>⟨g1,w1.at k,es,h k,a,hsz,b.at k⟩
def cL{a b c:aH}(h:AtRel a b)(k:AtRel b c):AtRel a c:=atRel_trans a b c h k
def Oe{m:Mark}(d:∀a,m≠ .release a/\m≠ .read a/\m≠ .write a)(wr b:Bool){B:Nat}:pq Shun B ⟨.mark m,wr,b⟩:=by
 have f:(MemAct.ofEvent ⟨.mark m,wr,b⟩)=.mark m:=by cases wr<;>cases b<;>rfl
 refine⟨λx c=>?_,λa e=>?_⟩
 .simp_all[MemAct.touch?]
 grind
def ab6{a:Addr}(hs:Shun (.cell a)){B:Nat}(e:a.block<B)(wr:Bool):pq Shun B ⟨.cell a,wr,true⟩:=by
 have f:(MemAct.ofEvent ⟨.cell a,wr,true⟩)=.access ⟨.cell a,wr,true⟩:=by cases wr<;>rfl
 refine⟨λx c=>?_,AJ⟩;rw[f]at c;simp only[MemAct.touch?,vbf]at c;subst c;exact⟨AJ,λb d=>by cases d;exact e⟩
def Bj{a:Addr}(hs:¬Shun (.cell a)){B:Nat}(e:a.block<B)(wr:Bool):pq Shun B ⟨.cell a,wr,false⟩:=by
 have f:(MemAct.ofEvent ⟨.cell a,wr,false⟩)=.access ⟨.cell a,wr,false⟩:=by cases wr<;>rfl
 refine⟨λx c=>?_,AJ⟩;rw[f]at c;simp only[MemAct.touch?,vbf]at c;subst c;exact⟨AJ,λb d=>by cases d;exact e⟩
theorem ab7{K mine:dY}{e:Event}{B:Nat}(h:yp K mine e)(hs:∀b,K b\/mine b->∀l,e8 l=some b->¬Shun l)(n:∀b,K b\/mine b->b<B):pq Shun B e:=by
 obtain⟨loc,wr,g⟩:=e;cases loc with
 |cell a=>
  obtain⟨j,_,d⟩:=h;simp only at d;subst d;refine⟨λx c=>?_,λa e=>by cases wr<;>cases e⟩
  have f:x=⟨.cell a,wr,.plain⟩:=by grind[MemAct.ofEvent,MemAct.touch?]
  subst f;exact⟨λ_=>⟨λe=>absurd e (hs _ j _ Y),AJ⟩,λb i=>by cases i;grind⟩
 |obj r=>
  obtain⟨j,_,d⟩:=h;simp only at d;subst d;refine⟨λx c=>?_,λa e=>by cases wr<;>cases e⟩
  have f:x=⟨.obj r,wr,.plain⟩:=by grind[MemAct.ofEvent,MemAct.touch?]
  subst f;exact⟨λ_=>⟨λe=>absurd e (hs _ j _ Y),AJ⟩,λb i=>by cases i;grind⟩
 |output=>
  refine⟨λx c=>?_,λa e=>by cases wr<;>cases g<;>cases e⟩
  have f:x.loc=.output:=by grind[MemAct.ofEvent,MemAct.touch?]
  rw[f];exact⟨λe=>(by simp[Loc.isMemory]at e),λb e=>Cy⟩
 |goroutines=>exact h.elim
 |mark m=>
  have k:(MemAct.ofEvent ⟨.mark m,wr,g⟩)=.mark m:=by cases wr<;>cases g<;>rfl
  cases m<;>first|exact h.elim|exact⟨λx c=>(by rw[k]at c;cases c),AJ⟩
structure Left(X Y:aX):Prop where
 sub:∀b,X.mine b->Y.mine b
 kept:∀b,b<X.w.heap.size->¬X.mine b->Y.w.heap[b]?=X.w.heap[b]?
 new:∀b,Y.mine b->X.mine b\/(X.w.heap.size<=b/\b<Y.w.heap.size)
 size:X.w.heap.size<=Y.w.heap.size
 os:OsLater X.w.os Y.w.os
 output:Y.w.output=X.w.output
 tape:Y.w.tape=X.w.tape
 run:X.g.status=.running->Y.g.status=.running
def Ul{K:dY}{post:aX->Prop}{X:aX}(h:iP P true K post X):X.g.status=.running->(∀b,K b\/X.mine b->b<X.w.heap.size)->(∀b,K b\/X.mine b\/X.w.heap.size<=b->∀l,e8 l=some b->¬Shun l)->
 (∀Y,post Y->Left X Y->en P Shun Stop d Y.g Y.w)->en P Shun Stop d X.g X.w:=by
 induction h with
 |@done X h=>exact λhs _ _ k=>k X h ⟨λ_ h=>h,λ_ _ _=>rfl,AJ,vad _,.refl _,rfl,rfl,id⟩
 |@step X ok _ o=>
  intro hs t u k;refine en.mk hs λn=>?_;have hrel:kn K X (X.w.at n):=⟨λ_ _=>rfl,vad _,.refl _⟩;obtain⟨g1,w1,es,hst,hg⟩:=ok (X.w.at n) hrel;have hsz:X.w.heap.size<=w1.heap.size:=hg.size;have p:∀b,grown X.mine (X.w.at n) w1 b->X.mine b\/(X.w.heap.size<=b/\b<w1.heap.size):=λb h=>h;have q:∀b,K b\/grown X.mine (X.w.at n) w1 b->∀l,e8 l=some b->¬Shun l:=AJ;have f:∀b,K b\/grown X.mine (X.w.at n) w1 b->b<w1.heap.size:=AJ;have r:deafBehind d es=d:=by
   have:∀(l:ubk)(d:Nat),(∀e∈l,yp K (grown X.mine (X.w.at n) w1) e)->deafBehind d l.toArray=d:=by
    intro l;induction l with
    |nil=>intro d _;rfl
    |cons e l ihl=>
     intro d a;have i:deafBehind d (e::l).toArray=deafBehind (deafBehind d #[e]) l.toArray:=by simp[deafBehind]
     have g:deafBehind d #[e]=d:=by
      have c:=a e AQ;obtain⟨loc,wr,s⟩:=e;cases loc with
      |mark m=>cases m<;>first|exact c.elim|rfl
      | _=>rfl
     grind
   exact this es.toList d λe c=>hg.evs e AJ
  refine⟨g1,w1,es,hst,λe c=>ab7 (hg.evs e c) q f,hsz,?_⟩;rw[r];refine o (X.w.at n) g1 w1 es hrel hst hg.run f (λb v=>?_) (λY j a=>k Y j ?_)
  .grind
  .refine⟨λb h=>a.sub b (.inl h),λb i g=>(a.kept b AJ λh=>?_).trans (hg.kept b i g),λb h=>?_,vac hsz a.size,(show OsLater X.w.os Y.w.os from by rw[<-show w1.os=X.w.os from hg.os];exact a.os),a.output.trans hg.output,a.tape.trans hg.tape,λ_=>a.run hg.run⟩
   .grind
   .rcases a.new b h with h|h
    .rcases p b h with h|h
     .grind
     .exact .inr ⟨h.1,vav h.2 a.size⟩
    grind
end
end
end cC
namespace kO
open au
structure fH where
 T:Nat->Bool
 K:Nat->Bool
 V:Nat->Option Value
 sl:TypeId->Bool
 d:Nat
structure eY(D:fH)(a b:Frame):Prop where
 eq:b={a with tmps:=b.tmps}
 size:b.tmps.size=a.tmps.size
 same:∀i,D.T i=false->b.tmps[i]?=a.tmps[i]?
 gone:a.mode=.run->∀i v,D.T i=true->a.tmps[i]?=some v->v=undef
 kept:a.mode=.run->∀i,D.K i=true->b.tmps[i]?=D.V i
def Bl(D:fH):Operand->Bool
 | .tmp t=> !D.T t
 | _=>true
def TN(D:fH)(c:Call):Bool:=match c.callee with
 | .builtin .len=>match c.args.toList,c.argTypes.toList with
  | [.tmp t],[ty]=>D.T t&&D.sl ty
  | _,_=>false
 | _=>false
def TI(D:fH)(o:Oper):Bool:=match o.op with
 | .load _ (.tmp t)=>D.T t
 | .indexAddr _ (.tmp t) _=>D.T t
 | .call c=>TN D c
 | _=>false
def Tp(D:fH)(o:Oper):Bool:=match o.op,o.dst with
 | .move (.tmp t),some d=>D.T t&&D.T d
 | _,_=>false
def Uo(D:fH)(o:Oper):Bool:=match o.dst with
 |some d=> !D.T d
 |none=>true
def Up(D:fH)(o:Oper):Bool:=match o.dst with
 |some d=> !D.K d
 |none=>true
def iz(D:fH)(o:Oper):Bool:=o.op.operands.all (Bl D)&& !(o.op matches .select ..)&&Uo D o
def Of(D:fH)(ops:fC)(o:Oper):Bool:=match o.guard with
 |some (g,_)=>match(ops[g]?).bind (·.dst)with
  |some t=> !D.T t
  |none=>true
 |none=>true
def tl(D:fH)(ops:fC)(o:Oper):Bool:=Of D ops o&&Up D o&&(iz D o||Tp D o||TI D o)
def pr(D:fH):Code->Bool
 | .region _ ops _=>ops.all (tl D ops)
 | .seq a b=>pr D a&&pr D b
 | .cond c a b=>Bl D c&&pr D a&&pr D b
 | .block _ c| .loop c=>pr D c
 | .skip| .exit _ | .ret=>true
 | _=>false
def hZ(D:fH):Item->Bool
 | .code c=>pr D c
 | .inBlock _=>true
 | .inLoop c=>pr D c
 | .R ops l=>l.all λi=>match ops[i]? with
  |some o=>tl D ops o
  |none=>true
 | _=>false
def Do(D:fH):ResultVar->Bool
 | .tmp t=> !D.T t
 | .cell t _=> !D.T t
structure nB(P:cf)(D:fH)(a:Frame):Prop where
 items:a.mode=.run->a.todo.all (hZ D)=true
 round:a.roundOf=none
 GK:∃fn,P.funcs[a.fn]?=some fn/\fn.results.all (Do D)=true
 sl:∀t,D.sl t=true->∃e,P.underlying t=some (.slice e)
 Og:P.inits.idxOf? a.fn=none
structure To(P:cf)(D:fH)(a:Frame):Prop extends nB P D a where
 bq:a.mode=.run->∀ops i rest k,a.todo=.R ops (i::rest)::k->∀o,ops[i]?=some o->∀d,o.dst=some d->D.T d=false
inductive nC(P:cf)(D:fH):List Frame->List Frame->Prop
 |here {a b:Frame} (h:eY D a b) (v:To P D a) (l:fG) (hl:l.length=D.d):nC P D (a::l) (b::l)
 |there (a:Frame) {l l':fG} (h:nC P D l l'):nC P D (a::l) (a::l')
inductive m7(P:cf)(D:fH):Goroutine->Goroutine->Prop
 |same (g:uaf) (hl:g.callers.length<D.d):m7 P D g g
 |g7 {a b:Frame} (h:eY D a b) (v:nB P D a) (cs:fG) (hl:cs.length=D.d) (s:GoStatus) (d:Option Dying):m7 P D ⟨a,cs,s,d,none⟩ ⟨b,cs,s,d,none⟩
 |under (a:Frame) {cs be:fG} (h:nC P D cs be) (s:GoStatus) (d:Option Dying):m7 P D ⟨a,cs,s,d,none⟩ ⟨a,be,s,d,none⟩
def fb(P:cf)(D:fH)(s s':GStep):Prop:=∀g1 w1 es,s=.go g1 w1 es->g1.status=.running->g1.dying=none->∃tn,s'=.go tn w1 es/\m7 P D g1 tn
variable{g g':uaf}{w:aH}{es:uao}{s:GStep}
section
variable{P:cf}{D:fH}{a b:Frame}
theorem fb.go(h:m7 P D g g'):fb P D (.go g w es) (.go g' w es):=λg1 w1 a e _ _=>by grind
theorem fb.ended{o:Outcome}:fb P D (.ended o w es) s:=λ_ _ _ e=>by cases e
theorem fb.after{s':GStep}(es:uao)(h:fb P D s s'):fb P D (s.after es) (s'.after es):=λg1 w1 d e hs hd=>by
 cases s with
 |go g w a=>simp[GStep.after]at e;obtain⟨rfl,rfl,rfl⟩:=e;obtain⟨g',c,b⟩:=h g w a Y hs hd;exact⟨g',by rw[c];rfl,b⟩
 | _=>cases e
def fb.vW(h:g.status≠ .running\/g.dying≠none):fb P D (.go g w es) s:=λg1 w1 a e hs hd=>by grind
theorem eY.getD(h:eY D a b){t:Nat}(ht:D.T t=false):b.tmps.getD t undef=a.tmps.getD t undef:=by have:=h.same t ht;simp_all
theorem eY.eval(h:eY D a b){x:uau}(c:Bl D x=true):b.eval x=a.eval x:=by
 cases x with
 |tmp t=>
  have ht:D.T t=false:=by grind[Bl]
  simp only[Frame.eval];exact h.getD ht
 | _=>rfl
def eY.Oh(h:eY D a b)(d:a.mode=.run){t:Nat}(ht:D.T t=true):a.eval (.tmp t)=undef:=by simp[Frame.eval];cases c:a.tmps[t]? with|none=>rfl|some v=>rw[h.gone d t v ht c];rfl
theorem eY.todo(h:eY D a b):b.todo=a.todo:=by rw[h.eq]
theorem eY.fn(h:eY D a b):b.fn=a.fn:=by rw[h.eq]
theorem eY.mode(h:eY D a b):b.mode=a.mode:=by rw[h.eq]
theorem eY.kind(h:eY D a b):b.kind=a.kind:=by rw[h.eq]
theorem eY.defers(h:eY D a b):b.defers=a.defers:=by rw[h.eq]
theorem eY.roundOf(h:eY D a b):b.roundOf=a.roundOf:=by rw[h.eq]
def eY.az(h:eY D a b){a' c:Frame}(f:a'.tmps=a.tmps)(d:c.tmps=b.tmps)(e:c={a' with tmps:=c.tmps})(g:a'.mode=.run->a.mode=.run):eY D a' c:=
 ⟨e,by rw[f,d];exact h.size,by rw[f,d];exact h.same,λx=>by rw[f];exact h.gone (g x),λx=>by rw[d];exact h.kept (g x)⟩
theorem eY.put(h:eY D a b){a' c:Frame}{d:Nat}{v u:Value}(k:a'.tmps=a.tmps.setIfInBounds d v)(j:c.tmps=b.tmps.setIfInBounds d u)(e:c={a' with tmps:=c.tmps})(l:a'.mode=a.mode)(hs:D.T d=false->u=v)(hg:a.mode=.run->D.T d=true->v=undef)(hk:a.mode=.run->D.K d=false):eY D a' c:=by
 refine⟨e,by rw[k,j];simpa using h.size,λi hi=>?_,λg i x hi f=>?_,λg i hi=>?_⟩
 .rw[k,j,vam,vam];by_cases hd:d=i
  .subst hd;simp[hs hi,h.size]
  .simp[hd];exact h.same i hi
 .rw[k,vam]at f;by_cases hd:d=i
  .grind
  .simp[hd]at f;exact h.gone (l▸g) i x hi f
 .rw[j,vam];by_cases hd:d=i
  .grind
  .simp[hd];exact h.kept (l▸g) i hi
def nB.az{a':Frame}(h:nB P D a)(b:a'.fn=a.fn)(d:a'.roundOf=a.roundOf)(c:a'.mode=.run->a'.todo.all (hZ D)=true):nB P D a':=⟨c,d.trans h.round,by rw[b];exact h.GK,h.sl,by rw[b];exact h.Og⟩
def Oi(h:eY D a b)(hi:nB P D a){v u:Value}(hn:a.mode≠ .run->u=v)(hd:a.mode=.run->∀ops i rest k,a.todo=.R ops (i::rest)::k->∀o,ops[i]?=some o->∀d,o.dst=some d->(D.T d=false->u=v)/\(D.T d=true->v=undef)):eY D (a.finish v) (b.finish u)/\nB P D (a.finish v):=by
 have g:=hi.items;obtain⟨fn,tmps,todo,defers,mode,kind,ro⟩:=a;obtain⟨p,A,n,t,j,y,q⟩:=b;have e:=h.eq;simp at e;obtain⟨rfl,rfl,rfl,rfl,rfl,rfl⟩:=e;have g:j=.run->n.all (hZ D)=true:=g;have hn:j≠ .run->u=v:=hn;have hd:j=.run->∀ops i rest k,n=.R ops (i::rest)::k->∀o,ops[i]?=some o->∀d,o.dst=some d->(D.T d=false->u=v)/\(D.T d=true->v=undef):=hd;cases n with
 |nil=>exact⟨h,hi⟩
 |cons x k=>
  simp only[vbk,vah]at g;cases x with
  |code c=>exact⟨h,hi⟩
  |inBlock id=>exact⟨h,hi⟩
  |inLoop c=>exact⟨h,hi⟩
  |inScope c=>exact⟨h,hi⟩
  |inRangeFunc l=>exact⟨h.az Y Y Y λx=>x,hi.az Y Y λx=>(by cases(g x).1)⟩
  |endRangeFunc l=>exact⟨h,hi⟩
  |beginRound=>exact⟨h.az Y Y Y λx=>x,hi.az Y Y λx=>(by cases(g x).1)⟩
  |call d w r s=>
   by_cases f:j=.run
   .cases(g f).1
   .obtain rfl:=hn f;exact⟨h.az Y Y Y λx=>x,hi.az Y Y λx=>absurd x f⟩
  |extern r az=>
   by_cases f:j=.run
   .cases(g f).1
   .obtain rfl:=hn f;exact⟨⟨Y,Y,λ_ _=>Y,λx=>absurd x f,λx=>absurd x f⟩,hi.az Y Y λx=>absurd x f⟩
  |inRegion ops l=>
   cases l with
   |nil=>exact⟨h,hi⟩
   |cons i rest=>
    have hv:nB P D (Frame.finish ⟨p,tmps,.R ops (i::rest)::k,t,j,y,q⟩ v):=hi.az Y Y (λx=>by
     simp_all[hZ,Frame.finish])
    refine⟨?_,hv⟩;cases m:ops[i]? with
    |none=>exact h.az KD KD KD λx=>x
    |some o=>
     cases z:o.dst with
     |none=>exact h.az KP KP KP λx=>x
     |some d=>
      refine h.put (d:=d) (v:=v) (u:=u) ?_ ?_ ?_ Y (λht=>?_) AJ (λf=>?_)
      .grind[Frame.finish]
      .grind[Frame.finish]
      .grind[Frame.finish]
      .grind
      simp_all[hZ,tl,Up]
def Tn(h:eY D a b)(hi:nB P D a)(vs:List PanicEntry):eY D (a.raise vs) (b.raise vs)/\nB P D (a.raise vs):=by obtain⟨fn,tmps,todo,defers,mode,kind,ro⟩:=a;obtain⟨d,i,k,g,c,j,f⟩:=b;have e:=h.eq;simp at e;obtain⟨rfl,rfl,rfl,rfl,rfl,rfl⟩:=e;cases c<;>exact⟨h.az Y Y Y (λx=>by cases x),hi.az Y Y (λx=>by cases x)⟩
theorem Uq:∀{l:fG}{fr:Frame}{p:Value×List Frame},tryRecover fr l=some p->p.2.length=l.length
 | [],fr,p,e=>by obtain⟨g,h,f,d,c,b,i⟩:=fr;cases b<;>cases e
 |x::l,fr,p,e=>by
  cases a:fr.kind with
  |deferred=>
   simp[tryRecover,a]at e;split at e
   .cases e;rfl
   .cases e
  |wrapped=>simp only[tryRecover,a]at e;cases hq:tryRecover x l with|none=>rw[hq]at e;cases e|some q=>rw[hq]at e;cases e;simp[Uq hq]
  | _=>obtain⟨g,h,f,d,c,b,i⟩:=fr;have a:b=_:=a;subst a;cases e
def aqK:∀{cs be:fG},nC P D cs be->∀(fr:Frame),(tryRecover fr cs=none->tryRecover fr be=none)/\∀v c1,tryRecover fr cs=some (v,c1)->∃q,tryRecover fr be=some (v,q)/\nC P D c1 q:=by
 intro cs be h;induction h with
 |@here a b h v l o=>
  intro fr;have H:=h.mode;have hk:=h.kind;obtain⟨fn,tmps,todo,defers,mode,kind,ro⟩:=a;obtain⟨i,E,m,k,f,d,j⟩:=b;have e:=h.eq;simp at e;obtain⟨rfl,rfl,rfl,rfl,rfl,rfl⟩:=e;cases c:fr.kind with
  |deferred=>
   simp[tryRecover,c];split
   .refine⟨AJ,λv1 c1 e=>?_⟩;simp at e;obtain⟨rfl,rfl⟩:=e;refine⟨_,Y,nC.here ?_ ?_ l o⟩
    .exact h.az Y Y Y AJ
    .exact⟨v.tonB.az Y Y AJ,AJ⟩
   .exact⟨λ_=>Y,AJ⟩
  |wrapped=>
   simp only[tryRecover,c];have y:∀l,tryRecover ⟨i,E,m,k,f,d,j⟩ l=tryRecover ⟨i,tmps,m,k,f,d,j⟩ l:=by intro l;cases l<;>cases d<;>rfl
   rw[y];cases hq:tryRecover ⟨i,tmps,m,k,f,d,j⟩ l with|none=>exact⟨λ_=>Y,AJ⟩|some p=>refine⟨AJ,λv1 c1 e=>?_⟩;simp at e;obtain⟨rfl,rfl⟩:=e;exact⟨_,Y,.here h v _ ((Uq hq).trans o)⟩
  | _=>obtain⟨A,B,t,s,r,g,C⟩:=fr;have c:g=_:=c;subst c;exact⟨λ_=>Y,λv1 c1 e=>Cy⟩
 |@there a l F h u=>
  intro fr;cases c:fr.kind with
  |deferred=>
   simp[tryRecover,c];split
   .refine⟨AJ,λv1 c1 e=>?_⟩;simp at e;obtain⟨rfl,rfl⟩:=e;exact⟨_,Y,.there _ h⟩
   .exact⟨λ_=>Y,AJ⟩
  |wrapped=>simp only[tryRecover,c];obtain⟨x,w⟩:=u a;cases n:tryRecover a l with|none=>rw[x n];exact⟨λ_=>Y,AJ⟩|some p=>obtain⟨v0,cz⟩:=p;obtain⟨I,z,h0⟩:=w v0 cz n;refine⟨AJ,λv1 c1 e=>?_⟩;simp at e;obtain⟨rfl,rfl⟩:=e;rw[z];exact⟨_,Y,.there _ h0⟩
  | _=>obtain⟨A,B,t,s,r,g,C⟩:=fr;have c:g=_:=c;subst c;exact⟨λ_=>Y,λv1 c1 e=>Cy⟩
end
inductive hN(P:cf)(D:fH):Frame->List Frame->Frame->List Frame->Prop
 |g7 {a b:Frame} {cs:fG} (h:eY D a b) (v:To P D a) (hl:cs.length=D.d):hN P D a cs b cs
 |under (a:Frame) {cs be:fG} (h:nC P D cs be):hN P D a cs a be
variable{aO ao:Type}
section
variable{P:cf}{D:fH}{a b:Frame}{cs be:fG}
theorem fb.B5{o:Outcome}{es':uao}:fb P D (GStep.after es (.ended o w es')) s:=λ_ _ _ e=>by cases e
def fb.ite{c:Prop}[Decidable c]{A B a b:GStep}(e:c->fb P D A a)(d:¬c->fb P D B b):fb P D (if c then A else B) (if c then a else b):=by grind
theorem hN.todo(h:hN P D a cs b be):b.todo=a.todo:=by cases h with|g7 h v c=>exact h.todo|under=>rfl
theorem hN.fn(h:hN P D a cs b be):b.fn=a.fn:=by cases h with|g7 h v c=>exact h.fn|under=>rfl
theorem hN.kind(h:hN P D a cs b be):b.kind=a.kind:=by cases h with|g7 h v c=>exact h.kind|under=>rfl
def hN.round(h:hN P D a cs b be):b.roundOf=a.roundOf:=by cases h with|g7 h v c=>exact h.roundOf|under=>rfl
theorem hN.mode(h:hN P D a cs b be):b.mode=a.mode:=by cases h with|g7 h v c=>exact h.mode|under=>rfl
theorem hN.defers(h:hN P D a cs b be):b.defers=a.defers:=by cases h with|g7 h v c=>exact h.defers|under=>rfl
def hN.zj(h:hN P D a cs b be)(s:GoStatus)(d:Option Dying):m7 P D ⟨a,cs,s,d,none⟩ ⟨b,be,s,d,none⟩:=by cases h with|g7 h v c=>exact .g7 h v.tonB _ c _ _|under h=>exact .under _ h _ _
def hN.push(h:hN P D a cs b be):nC P D (a::cs) (b::be):=by cases h with|g7 h v c=>exact .here h v _ c|under h=>exact .there _ h
def hN.e6(h:hN P D a cs b be)(x:Value)(s:GoStatus)(d:Option Dying):m7 P D ⟨a.finish x,cs,s,d,none⟩ ⟨b.finish x,be,s,d,none⟩:=by
 cases h with
 |g7 h v g=>obtain⟨l,j⟩:=Oi (v:=x) (u:=x) h v.tonB AJ (λf ops i rest k e o c d hd=>⟨λ_=>Y,λht=>by rw[v.bq f ops i rest k e o c d hd]at ht;cases ht⟩);exact .g7 l j _ g _ _
 |under h=>exact .under _ h _ _
theorem hN.raise(h:hN P D a cs b be)(vs:List PanicEntry)(s:GoStatus)(d:Option Dying):m7 P D ⟨a.raise vs,cs,s,d,none⟩ ⟨b.raise vs,be,s,d,none⟩:=by
 cases h with
 |g7 h v c=>obtain⟨f,e⟩:=Tn h v.tonB vs;exact .g7 f e _ c _ _
 |under h=>exact .under _ h _ _
def hN.Cc(h:hN P D a cs b be)(ds:List Deferred):hN P D {a with defers:=ds} cs {b with defers:=ds} be:=by
 cases h with
 |g7 h v c=>
  refine hN.g7 ?_ ?_ c
  .refine h.az Y Y ?_ λx=>x;rw[h.eq]
  .exact⟨v.tonB.az Y Y v.items,v.bq⟩
 |under h=>exact .under _ h
def nC.data(h:nC P D cs be):be.map Frame.asData=cs.map Frame.asData:=by
 induction h with
 |@here a b h v l d=>
  have:b.asData=a.asData:=by rw[h.eq];rfl
  grind
 |there a h c=>grind
theorem nC.enter(h:nC P D cs be)(l:fG):nC P D (l++cs) (l++be):=by induction l with|nil=>exact h|cons x l a=>exact .there x a
def hN.recover(h:hN P D a cs b be):(tryRecover a cs=none->tryRecover b be=none)/\∀v c1,tryRecover a cs=some (v,c1)->∃d,tryRecover b be=some (v,d)/\hN P D a c1 b d:=by
 cases h with
 |g7 h v f=>
  have e:tryRecover b cs=tryRecover a cs:=by rw[h.eq];obtain⟨fn,tmps,todo,defers,mode,kind,ro⟩:=a;cases cs<;>cases kind<;>rfl
  rw[e];exact⟨id,λv1 c1 e=>⟨c1,e,.g7 h v ((Uq e).trans f)⟩⟩
 |under h=>obtain⟨k,j⟩:=aqK h a;exact⟨k,λv1 c1 e=>(j v1 c1 e).imp λc⟨i,g⟩=>⟨i,.under _ g⟩⟩
def aqL(h:hN P D a cs b be)(g:Nat)(w:aH):fb P D (early P a cs none g w) (early P b be none g w):=by
 have notYet:∀w:aH,fb P D (match w.heap[g]? with|some (.pending c elem)=>.go {frame:=a,callers:=cs,status:=.running,dying:=none} {w with heap:=w.heap.setIfInBounds g (.cells c elem)}| _=>.ended (.stuck "early: the variable does not wait" (a.pos P)) w)
  (match w.heap[g]? with|some (.pending c elem)=>.go {frame:=b,callers:=be,status:=.running,dying:=none} {w with heap:=w.heap.setIfInBounds g (.cells c elem)}| _=>.ended (.stuck "early: the variable does not wait" (b.pos P)) w):=by
  intro w;split
  .exact .go (h.zj _ _)
  .exact .ended
 have there:∀(f:uah)(w:aH)(l:fG),fb P D (.go {frame:=Frame.enter P f #[] .early,callers:=l++a::cs,status:=.running,dying:=none} w) (.go {frame:=Frame.enter P f #[] .early,callers:=l++b::be,status:=.running,dying:=none} w):=λf w l=>.go (.under _ (h.push.enter l) _ _);unfold early;simp only[h.kind];split
 .grind
 split
 .exact .ended
 split
 .grind
 split
 .grind
 split
 .exact .ended
 .grind
 .exact .ended
 .grind
 split
 .grind
 split
 .grind
 split
 .grind
 .grind
 .exact .ended
def Tj{m:String}:fb P D (endFatal P a cs none m w) s:=by unfold endFatal;intro g1 w1 es e hs hd;grind[dieOf]
theorem Dq(hF:P.follows .rangeFuncRecover=true)(x:a.mode=.run)(h:hN P D a cs b be)(s:Sem Next)(w:aH):fb P D (stepG.apply P true a cs none s w) (stepG.apply P true b be none s w):=by
 have ht:=h.todo;have c:∀r az k,a.todo=.extern r az::k->∃cs0 o,cs=cs0/\be=o/\a=b/\nC P D cs be:=by intro r az k e;cases h with|g7 h v j=>have:=v.items x;grind[hZ]|under h=>grind
 unfold stepG.apply;rw[ht,h.fn,h.kind];simp only[vbr];rcases hr:s.runT P w #[]with⟨r,es⟩;simp only[];refine fb.after _ ?_;cases r with
 |ok n w1=>
  cases n with
  |value v=>exact .go (h.e6 _ _ _)
  |skip=>exact .go (h.e6 _ _ _)
  |enter f args=>exact .go (.under _ h.push _ _)
  |callThen d resume saved wrapper=>
   simp only[];split
   .rename_i e;obtain⟨_,_,_,_,rfl,i⟩:=c _ _ _ e;exact .go (.under _ i _ _)
   .exact .go (.under _ h.push _ _)
  |row row args=>
   simp only[];split
   .rename_i e;obtain⟨_,_,_,_,rfl,i⟩:=c _ _ _ e;exact .go (.under _ i _ _)
   .exact .go (.under _ h.push _ _)
  |stack resume saved=>
   have B:(b::be).toArray.map Frame.asData=(a::cs).toArray.map Frame.asData:=by have:=h.push.data;grind
   simp only[B];split
   .rename_i e;obtain⟨_,_,_,_,rfl,i⟩:=c _ _ _ e;exact .go (.under _ i _ _)
   .exact .go (.under _ h.push _ _)
  |round l f tmps assign body=>exact .go (.under _ h.push _ _)
  |recover=>
   obtain⟨z,y⟩:=h.recover;simp[h.round,hF];have key:fb P D (match tryRecover a cs with
    |some (v,callers)=>.go {frame:=a.finish v,callers,status:=.running,dying:=none} w1
    |none=>.go {frame:=a.finish .nilIface,callers:=cs,status:=.running,dying:=none} w1)
    (match tryRecover b be with
    |some (v,callers)=>.go {frame:=b.finish v,callers,status:=.running,dying:=none} w1
    |none=>.go {frame:=b.finish .nilIface,callers:=be,status:=.running,dying:=none} w1):=by
    cases c:tryRecover a cs with|none=>rw[z c];exact .go (h.e6 _ _ _)|some p=>obtain⟨v0,cz⟩:=p;obtain⟨C,A,h0⟩:=y v0 cz c;rw[A];exact .go (h0.e6 _ _ _)
   grind
  |sleep t=>exact .vW AJ
  |spawn d=>
   simp only[];split<;>split
   all_goals first|exact λg1 w1 es e hs hd=>(by grind[endThrow,dieOf])|exact λ_ _ _ e _ _=>Cy
  | _=>
   first
    |rename_i d
     have q:=(h.Cc (d::a.defers)).e6 undef .running none;rw[ht,h.fn,h.kind]at q;simp[h.defers];exact .go q
    |intro g1 w1 es e
     cases e
 |halt j w1=>
  cases j with
  |panic v=>exact .go (h.raise _ _ _)
  |goexit=>exact .go (h.raise _ _ _)
  |blocked=>exact .vW AJ
  |waiting=>exact .vW AJ
  |fatal m=>exact Tj
  |throw m=>exact .vW AJ
  |unsupported u=>cases u with
   |initOrder g=>exact aqL h g w1
   | _=>exact .ended
  | _=>exact .ended
theorem eY.wanted(h:eY D a b){ops:fC}{o:Oper}(hg:Of D ops o=true):Region.wanted o (yielded ops b.tmps)=Region.wanted o (yielded ops a.tmps):=by
 unfold Region.wanted;cases e:o.guard with
 |none=>rfl
 |some iN=>
  obtain⟨g,want⟩:=iN;have d:yielded ops b.tmps g=yielded ops a.tmps g:=by
   unfold yielded;cases ht:(ops[g]?).bind (·.dst)with
   |none=>rfl
   |some t=>
    have c:D.T t=false:=by grind[Of]
    simp[h.same t c]
  grind
theorem Ur{p:Item->Bool}{id:Nat}:∀{k k':uaa},exitTo id k=some k'->k.all p=true->k'.all p=true
 | [],_,e,_=>Cy
 |x::k,k',e,h=>by
  simp only[vbk,vah]at h;cases x with
  |inBlock a=>
   simp only[exitTo]at e;split at e
   .cases e;exact h.2
   .exact Ur e h.2
  | _=>simp only[exitTo]at e;exact Ur e h.2
inductive ql{ao:Type}:Result ao->Prop
 |stuck {m:String} {w:aH}:ql (.halt (.stuck m) w)
 |unsupported (u:Unsupported) {w:aH} (h:∀g,u≠ .initOrder g):ql (.halt (.unsupported u) w)
theorem ql.bind{m:Sem ao}{k:ao->Sem aO}(h:ql (m.run P w)):ql ((m>>= k).run P w):=by rw[nd];generalize m.run P w=r at h;cases h with|stuck=>exact .stuck|unsupported u a=>exact .unsupported u a
def ql.next{m:Sem ao}{k:ao->Sem aO}(h:ql (m.run P w)\/∃a,m.run P w=.ok a w/\ql ((k a).run P w)):ql ((m>>= k).run P w):=by
 rcases h with h|⟨a,e,h⟩
 .exact h.bind
 simp_all
def aqM(t:uab)(i:Value)(w:aH):ql ((do pure (Next.value (<-Instr.indexAt t undef i)):Sem Next).run P w):=by
 refine ql.bind ?_;unfold Instr.indexAt;refine ql.next ?_;cases i with
 |int k n=>refine .inr ⟨(k,n),Y,?_⟩;refine ql.next ?_;cases b:P.underlying t with|none=>exact .inl (by simp only[underlying,Go.program,Bind.bind,Sem.bind,Sem.run,b];exact .stuck)|some d=>refine .inr ⟨d,by simp_all[underlying,Go.program,Sem.run],?_⟩;cases d<;>exact ql.bind .stuck
 |pointer p=>cases p with
  |none=>exact .inl .stuck
  |some a=>exact .inl (.unsupported _ AJ)
 | _=>exact .inl .stuck
def aqN{ev:uak}{t:Nat}{c:Call}{at_ ty e:uab}(a:c.callee=.builtin .len)(f:c.args=#[.tmp t])(b:c.argTypes=#[at_])(h:ev (.tmp t)=undef)(i:P.underlying at_=some (.slice e))(w:aH):ql ((do let d <-resolve ev c ty;invoke d.target d.args:Sem Next).run P w):=by
 have g:(Go.underlying at_).run P w=.ok (.slice e) w:=by simp_all[underlying,Go.program,Sem.run]
 simp[resolve,invoke,builtin,Builtin.len_,go_sem,a,f,b,h,g,undef];constructor
theorem aqO(hF:P.follows .rangeFuncRecover=true)(g:a.mode=.run)(h:eY D a b)(hv:nB P D a){ops:fC}{i:Nat}{rest:uad}{k:uaa}(ht:a.todo=.R ops (i::rest)::k){o:Oper}(s:ops[i]?=some o)(A:tl D ops o=true)(cs:fG)(z:cs.length=D.d)(w:aH):fb P D (stepG.oper P true a cs none w) (stepG.oper P true b cs none w):=by
 have Q:a.oper?=some o:=G0;have ob:b.oper?=some o:=by simp[Frame.oper?,h.todo,ht,s]
 have B:=hv.round;have L:b.roundOf=none:=h.roundOf.trans B;unfold stepG.oper;simp[Q,ob,B,L];simp[tl]at A;rcases A.2 with(p|j)|hs
 .simp only[iz,vah,Bool.not_eq_true']at p;have hd:∀d,o.dst=some d->D.T d=false:=λd e=>by grind[Uo]
  have M:∀c O,o.op≠ .select c O:=AJ;have H:execOp b.eval o=execOp a.eval o:=execOp_congr o M λx F=>h.eval (vao.1 p.1.1 x F);rw[H];refine Dq hF g (.g7 h ⟨hv,λ_ ops' E rest' k' e o' l d m=>?_⟩ z) _ _;grind
 .unfold Tp at j;split at j
  .rename_i t d f J;simp at j;have q:=Oi (v:=a.eval (.tmp t)) (u:=b.eval (.tmp t)) h hv AJ (λ_ ops' E rest' k' e o' l T m=>by
    rw[ht]at e;cases e;rw[s]at l;cases l;rw[J]at m;cases m;exact⟨AJ,λ_=>h.Oh g j.1⟩)
   have K:execOp a.eval o=pure (.value (a.eval (.tmp t))):=by grind[execOp]
   have N:execOp b.eval o=pure (.value (b.eval (.tmp t))):=by grind[execOp]
   rw[K,N];simp only[stepG.apply,vbr,Sem.runT,pure,h.fn,h.kind];exact .after _ (.go (.g7 q.1 q.2 _ z _ _))
  grind
 .have hst:∀w,ql ((execOp a.eval o).run P w):=by
   unfold TI at hs;split at hs
   .rename_i t x f;intro w;simp only[execOp,f,h.Oh g hs];exact .stuck
   .rename_i t x y f;intro w;simp only[execOp,f,h.Oh g hs];exact aqM _ _ _
   .rename_i c f;intro w;simp only[execOp,f];unfold TN at hs;split at hs
    .rename_i I;split at hs
     .rename_i t ty S R;simp at hs;obtain⟨e,n⟩:=hv.sl _ hs.2;exact aqN I AJ AJ (h.Oh g hs.1) n w
     grind
    grind
   grind
  have:=hst w;simp only[stepG.apply,vbr];rcases hr:(execOp a.eval o).runT P w #[]with⟨r,es⟩;have C:(execOp a.eval o).run P w=r:=by simp_all
  rw[C]at this;cases this with|stuck=>exact fb.B5|unsupported u n=>grind[fb.B5]
def eY.yn(h:eY D a b)(k:uaa):eY D {a with todo:=k} {b with todo:=k}:=h.az Y Y (by rw[h.eq]) λx=>x
def eY.vc(h:eY D a b){m:FrameMode}(c:m≠ .run):eY D {a with mode:=m} {b with mode:=m}:=h.az Y Y (by rw[h.eq]) AJ
def nB.vc(h:nB P D a){m:FrameMode}(b:m≠ .run):nB P D {a with mode:=m}:=h.az Y Y AJ
def nB.yn(h:nB P D a){k:uaa}(hk:k.all (hZ D)=true):nB P D {a with todo:=k}:=h.az Y Y λ_=>hk
theorem aqP(hF:P.follows .rangeFuncRecover=true)(main:Bool)(y:a.mode=.run)(h:eY D a b)(hv:nB P D a)(cs:fG)(f:cs.length=D.d)(w:aH):fb P D (stepG.exec P main true a cs none w) (stepG.exec P main true b cs none w):=by
 have m:=hv.items y;have g:∀k:List Item,k.all (hZ D)=true->fb P D (.go {frame:={a with todo:=k},callers:=cs,status:=.running,dying:=none} w) (.go {frame:={b with todo:=k},callers:=cs,status:=.running,dying:=none} w):=λk hk=>.go (.g7 (h.yn k) (hv.yn hk) _ f _ _);have A:fb P D (.go {frame:={a with mode:=.returning},callers:=cs,status:=.running,dying:=none} w) (.go {frame:={b with mode:=.returning},callers:=cs,status:=.running,dying:=none} w):=.go (.g7 (h.vc AQ) (hv.vc AQ) _ f _ _);have ht:=h.todo;have s:=hv.round;have z:b.roundOf=none:=h.roundOf.trans s;unfold stepG.exec;rw[ht];rw[ht]at A;cases hk:a.todo with
 |nil=>grind
 |cons x k=>
  rw[hk]at m;simp only[vbk,vah]at m;obtain⟨d,j⟩:=m;cases x with
  |code c=>
   have d:pr D c=true:=d;cases c with
   |ret=>grind
   |skip=>grind
   |seq c1 co=>simp_all[pr,hZ]
   |cond c t e=>
    simp[pr]at d;simp[h.eval d.1.1];split
    .rename_i C _;refine g _ ?_;simp only[vbk,hZ,vah];grind
    .exact .ended
   |block id c=>exact g _ (by simp only[vbk,hZ,vah];exact⟨d,PA,j⟩)
   |loop c=>exact g _ (by simp only[vbk,hZ,vah];exact⟨d,d,j⟩)
   |exit id=>simp only[];cases E:exitTo id k with|none=>simp only[Option.elim,s,z];exact .ended|some k'=>grind[Ur]
   |region id ops draw=>
    have B:∀l:List Nat,(Item.inRegion ops l::k).all (hZ D)=true:=λl=>by rw[vbk,vah];refine⟨?_,j⟩;simp[hZ];intro i _;cases r:ops[i]? with|none=>rfl|some o=>exact vao.1 d o (vbd r)
    cases draw with
    |false=>grind
    |true=>
     simp only[h.fn,Bool.not_true,vaf,vbv];split
     .rename_i t _ _;have q:m7 P D ⟨{a with todo:=_},cs,.running,none,none⟩ ⟨{b with todo:=_},cs,.running,none,none⟩:=.g7 (h.yn _) (hv.yn (B (Region.schedule (P.follows .mixedOrders) ops t))) cs f .running none;rw[h.fn]at q;exact .go q
     .exact .ended
   | _=>cases d
  |inBlock id=>grind
  |inLoop c=>simp_all[hZ]
  |inRegion ops l=>
   cases l with
   |nil=>grind
   |cons i rest=>
    simp only[hZ,vbk,vah]at d;simp only[];cases r:ops[i]? with
    |none=>simp;obtain⟨n,p⟩:=Oi (v:=undef) (u:=undef) h hv AJ AJ;exact .go (.g7 n p _ f _ _)
    |some o=>
     have F:tl D ops o=true:=AJ;have hg:Of D ops o=true:=by simp_all[tl]
     simp[h.wanted hg];split
     .grind[aqO]
     .obtain⟨n,p⟩:=Oi (v:=undef) (u:=undef) h hv AJ AJ;exact .go (.g7 n p _ f _ _)
  | _=>cases d
theorem GN(c:nC P D cs be)(main:Bool)(fr:Frame)(v:Value)(w:aH):fb P D (doReturn P main fr cs none v w) (doReturn P main fr be none v w):=by
 cases c with
 |there x h=>
  simp[doReturn];split
  .exact .go (.under _ h _ _)
  .exact .go (.under _ h _ _)
  .exact .go (.under _ h _ _)
  .exact .go (.under _ h _ _)
 |@here x y h hv l a=>
  have b:=h.mode;simp[doReturn];have e6:fb P D (.go {frame:=x.finish v,callers:=l,status:=.running,dying:=none} w) (.go {frame:=y.finish v,callers:=l,status:=.running,dying:=none} w):=.go ((hN.g7 h hv a).e6 v _ _);split
  .grind
  .grind
  .exact .go (.g7 h hv.tonB _ a _ _)
  .rw[b];split
   .split
    .exact .go (.g7 (h.vc AQ) (hv.tonB.vc AQ) _ a _ _)
    .exact .go (.g7 (h.vc AQ) (hv.tonB.vc AQ) _ a _ _)
   .exact .go (.g7 h hv.tonB _ a _ _)
def Tf(h:hN P D a cs b be)(d:Deferred)(w:aH):fb P D (callDeferred P a cs none d w) (callDeferred P b be none d w):=by
 have zj:=h.zj .running none;unfold callDeferred;rw[h.mode,h.fn];refine fb.ite (λ_=>.ended) (λ_=>?_);rcases hr:(invoke d.target d.args).runT P w #[]with⟨r,es⟩;simp only[];refine fb.after _ ?_;cases r with
 |ok n w1=>
  cases n with
  |enter f args=>exact .go (.under _ h.push _ _)
  |round l f tmps assign body=>exact .go (.under _ h.push _ _)
  |callThen d resume saved wrapper=>exact .go (.under _ h.push _ _)
  |row row args=>exact .go (.under _ h.push _ _)
  |recover=>
   obtain⟨k,j⟩:=h.recover;simp only[];cases g:tryRecover a cs with
   |none=>rw[k g];cases a.mode<;>exact .go zj
   |some p=>
    obtain⟨v0,cz⟩:=p;obtain⟨q,o,h0⟩:=j v0 cz g;rw[o];cases a.mode
    .exact .go zj
    .exact .go (h0.zj _ _)
    .exact .go zj
  |sleep t=>exact .vW AJ
  |alone on v=>cases on<;>exact λ_ _ _ e=>Cy
  |timer op=>exact .ended
  |collect=>exact λ_ _ _ e=>Cy
  |watch v=>exact λ_ _ _ e=>Cy
  |coroswitch c ex=>cases ex<;>exact λ_ _ _ e=>Cy
  |newcoro c d=>exact .ended
  |stack r s=>exact .ended
  | _=>exact .go zj
 |halt i w1=>cases i with|panic v=>exact .go (h.raise _ _ _)|goexit=>exact .go (h.raise _ _ _)|blocked=>exact .vW AJ|waiting=>exact .vW AJ|fatal m=>exact Tj|throw m=>exact .vW AJ| _=>exact .ended
theorem S7{f g:ao->Sem aO}:∀{l:List ao},(∀x∈l,f x=g x)->l.mapM f=l.mapM g
 | [],_=>rfl
 |x::l,h=>by rw[List.mapM_cons,List.mapM_cons,h x AQ,S7 λy a=>h y (by simp[a])]
def aqQ(h:eY D a b){fn:Func}(c:fn.results.all (Do D)=true):results fn b.tmps=results fn a.tmps:=by
 unfold results;congr 1
 rw[vci,vci];congr 1
 refine S7 λr e=>?_;have d:=vao.1 c r AJ;cases r with|tmp t=>simp[h.getD (show D.T t=false by grind[Do])]|cell x t=>simp[h.getD (show D.T x=false by grind[Do])]
theorem aqR(main:Bool)(l:a.mode≠ .run)(h:eY D a b)(hv:nB P D a)(cs:fG)(e:cs.length=D.d)(w:aH):fb P D (unwind P main a cs none w) (unwind P main b cs none w):=by
 have g:hN P D a cs b cs:=.g7 h ⟨hv,AJ⟩ e;unfold unwind;rw[h.defers];cases hd:a.defers with
 |nil=>
  simp only[h.mode];split
  .grind
  .rename_i chain _;have f:b.catches P=a.catches P:=by rw[h.eq];rfl
   rw[f];split
   .exact .ended
   cases cs with
   |cons c rest=>exact .go (.same _ AJ)
   |nil=>
    simp only[];split
    .exact .vW AJ
    split
    .exact .vW AJ
    .exact .ended
    .exact .ended
  .obtain⟨fn,j,i⟩:=hv.GK;simp only[h.fn,j,aqQ h i];rcases(results fn a.tmps).runT P w #[]with⟨r,es⟩;simp only[];refine fb.after _ ?_;cases r with
   |ok v w1=>
    simp only[doReturn,h.kind,h.fn];cases cs with
    |cons c rest=>simp only[];cases a.kind<;>exact .go (.same _ AJ)
    |nil=>
     simp only[];split
     .grind
     .exact .ended
     .rw[hv.Og];split
      .exact .vW AJ
      .exact .ended
   |halt e w1=>cases e<;>exact .ended
 |cons d ds=>
  obtain⟨oN,args⟩:=d;have f:=Tf (g.Cc ds) ⟨oN,args⟩ w;cases oN with
  |collected k=>simp only[h.fn];rcases(Instr.takeDeferred k).runT P w #[]with⟨r,es⟩;simp only[];refine fb.after _ ?_;cases r with|ok calls w1=>have q:=(g.Cc (calls++ds)).zj .running none;rw[h.fn]at q;exact .go q|halt e w1=>exact .ended
  | _=>exact f
theorem aqS(main:Bool)(c:nC P D cs be)(w:aH):fb P D (unwind P main a cs none w) (unwind P main a be none w):=by
 have e:hN P D a cs a be:=.under a c;unfold unwind;cases hd:a.defers with
 |nil=>
  simp only[];split
  .exact .ended
  .rename_i chain _;split
   .exact .ended
   cases c with
   |@here x y h hv l b=>obtain⟨g,f⟩:=Tn h hv.tonB chain;exact .go (.g7 g f _ b _ _)
   |there x h=>exact .go (.under _ h _ _)
  .cases P.funcs[a.fn]? with|none=>grind[GN]|some fn=>simp only[];rcases(results fn a.tmps).runT P w #[]with⟨r,es⟩;simp only[];refine fb.after _ ?_;cases r with|ok v w1=>grind[GN]|halt b w1=>cases b<;>exact .ended
 |cons d ds=>
  obtain⟨oN,args⟩:=d;have i:=Tf (e.Cc ds) ⟨oN,args⟩ w;cases oN with
  |collected j=>simp only[];rcases(Instr.takeDeferred j).runT P w #[]with⟨r,es⟩;simp only[];refine fb.after _ ?_;cases r with|ok calls w1=>exact .go (.under _ c _ _)|halt b w1=>exact .ended
  | _=>grind
theorem aqT(hF:P.follows .rangeFuncRecover=true)(main:Bool)(m:nC P D cs be)(n:a.mode=.run)(w:aH):fb P D (stepG.exec P main true a cs none w) (stepG.exec P main true a be none w):=by
 have q:hN P D a cs a be:=.under a m;have go:∀(fr:Frame)(w:aH)(es:uao),fb P D (.go {frame:=fr,callers:=cs,status:=.running,dying:=none} w es) (.go {frame:=fr,callers:=be,status:=.running,dying:=none} w es):=λfr w es=>.go (.under _ m _ _);unfold stepG.exec;cases hk:a.todo with
 |nil=>cases h:a.roundOf with|none=>grind|some b=>simp only[];rcases(Instr.endRound b (none)).runT P w #[]with⟨r,es⟩;simp only[];refine fb.after _ ?_;cases r with|ok v w1=>grind[GN]|halt g w1=>exact .ended
 |cons x k=>
  cases x with
  |code c=>
   cases c with
   |ret=>cases h:a.roundOf with|none=>grind|some b=>simp only[];rcases(Instr.endRound b (some .ret)).runT P w #[]with⟨r,es⟩;simp only[];refine fb.after _ ?_;cases r with|ok v w1=>grind[GN]|halt g w1=>exact .ended
   |cond c t e=>
    simp only[];split
    .grind
    .exact .ended
   |exit id=>
    simp only[];cases o:exitTo id k with
    |none=>
     cases h:a.roundOf with
     |none=>simp only[Option.elim];first|exact go _ _ _ |exact .ended
     |some b=>simp only[Option.elim];rcases(Instr.endRound b (some (.exit id))).runT P w #[]with⟨r,es⟩;simp only[];refine fb.after _ ?_;cases r with|ok v w1=>grind[GN]|halt g w1=>exact .ended
    |some k'=>grind
   |goto l=>
    simp only[];cases o:gotoIn l k with
    |none=>
     cases h:a.roundOf with
     |none=>simp only[Option.elim];first|exact go _ _ _ |exact .ended
     |some b=>simp only[Option.elim];rcases(Instr.endRound b (some (.goto l))).runT P w #[]with⟨r,es⟩;simp only[];refine fb.after _ ?_;cases r with|ok v w1=>grind[GN]|halt g w1=>exact .ended
    |some k'=>grind
   |rangeFunc f params assign body=>
    simp only[];rcases(Instr.enterLoop a.fn a.tmps params assign body a.roundOf).runT P w #[]with⟨r,es⟩;simp only[];refine fb.after _ ?_;cases r with
    |ok lm w1=>obtain⟨l,mk⟩:=lm;exact Dq hF (by exact n) (hN.under _ m) _ _
    |halt g w1=>exact .ended
   |refuse p=>exact .ended
   |region id ops draw=>
    cases draw with
    |false=>grind
    |true=>
     simp only[Bool.not_true,vaf,vbv];split
     .grind
     .exact .ended
   | _=>grind
  |inRegion ops l=>
   cases l with
   |nil=>grind
   |cons i rest=>
    simp only[];split
    .unfold stepG.oper;split
     .exact .ended
     .split
      .grind[Dq]
      grind[Dq]
    grind
  |inRangeFunc l=>exact .ended
  |beginRound=>grind[Dq]
  |endRangeFunc l=>simp only[];rcases(Instr.endLoop l).runT P w #[]with⟨r,es⟩;simp only[];refine fb.after _ ?_;cases r with|ok j w1=>grind|halt g w1=>cases g with|panic v=>grind| _=>exact .ended
  |call d wr rs sv=>grind[Dq]
  |extern row args=>simp only[];cases Extern.next row with|none=>exact .ended|some e=>grind[Dq]
  | _=>grind
def aqU(hF:P.follows .rangeFuncRecover=true)(main:Bool)(h:m7 P D g g')(hn:D.d<=g.callers.length)(hd:g.dying=none)(w:aH):fb P D (stepG P main g w) (stepG P main g' w):=by
 cases h with
 |same g c=>omega
 |@g7 a b h hv cs c s d=>obtain rfl:d=none:=hd;unfold stepG;simp[h.mode];grind[aqP,aqR]
 |@under a cs be e s d=>obtain rfl:d=none:=hd;unfold stepG;grind[aqT,aqS]
end
def m7.parts{P:cf}{D:fH}(h:m7 P D g g'):g'.status=g.status/\g'.dying=g.dying:=by cases h<;>exact⟨Y,Y⟩
def o7.var{P:cf}{D:fH}(hF:P.follows .rangeFuncRecover=true){main:Bool}{K:dY}{post:aX->Prop}{base:fG}(r:D.d<=base.length){X:aX}(h:o7 P main K (IF base) post X):
 ∀g',m7 P D X.g g'->iP P main K (λg=>∃Y,post Y/\m7 P D Y.g g.g/\g.w=Y.w/\g.mine=Y.mine) ⟨g',X.w,X.mine⟩:=by
 induction h with
 |@done X h=>exact λg' hs=>.done ⟨X,h,hs,rfl,rfl⟩
 |@step X inv ok _ o=>
  intro g' hs;obtain⟨fr,cs,hg⟩:=inv;have hstep:∀w' g1 w1 es,stepG P main X.g w'=.go g1 w1 es->g1.status=.running->g1.dying=none->∃c,stepG P main g' w'=.go c w1 es/\m7 P D g1 c:=λw' g1 w1 es e q p=>aqU hF main hs (by rw[hg];simp[a0];omega) (by rw[hg];rfl) w' g1 w1 es e q p;refine .step (λw' b=>?_) (λw' g1 w1 es b e=>?_)
  .obtain⟨g1,w1,es,e,a⟩:=ok w' ⟨b.heap,b.size,b.env⟩;obtain⟨c,f,d⟩:=hstep w' g1 w1 es e a.run a.ov;obtain⟨n,m⟩:=d.parts;exact⟨c,w1,es,f,n.trans a.run,m.trans a.ov,a.kept,a.size,a.os,a.output,a.tape,a.drawn,a.evs⟩
  .have i:kn K X w':=⟨b.heap,b.size,b.env⟩;obtain⟨j,w2,l,k,a⟩:=ok w' i;obtain⟨c,f,d⟩:=hstep w' j w2 l k a.run a.ov;rw[f]at e;cases e;exact o w' j _ _ i k _ d
def nC.lt{P:cf}{D:fH}{l b:fG}(h:nC P D l b):D.d<l.length:=by induction h with|here h v l d=>simp;omega|there a h c=>simp;omega
end kO
namespace eb
open RowKit au
@[simp] theorem au2:dk true 11:=ved func11
@[simp] theorem aH1:dk true 15:=ved func15
@[simp] theorem aH2:dk true 14:=ved func14
@[simp] theorem aH3:dk true 13:=ved func13
@[simp] theorem aH4:dk true 16:=ved func16
@[simp] theorem au3:dk true 6:=ved func6
@[simp] theorem au4:dk true 7:=ved func7
@[simp] theorem au5:dk true 9:=ved func9
@[simp] theorem au6:dk true 5:=ved func5
def c9(c:Int):Prop:= -9223372036854775808<=c/\c<=9223372036854775807
def m9(c n:Int):Int:=(if c<0 then -(c+1)else c) % n
def ij(c:Int):Bool:=decide (c<0)&&decide (m9 c 3=0)
def gw(c:Int):Int:=if ij c then 0 else m9 c 2001-1000
def mb(c:Int):Int:=if ij c then 0 else m9 c 4
def lets:List String:=["","a","b","ab","ba","aa","c","é","A","0"," ","zz","z"]
def qB(c:Int):ByteArray:=if ij c then "".toUTF8 else(lets[(m9 c 13).toNat]?.getD "").toUTF8
def tA(c:Int){n:Int}(hn:0<n):0<=m9 c n/\m9 c n<n:=⟨Int.emod_nonneg _ AP,Int.emod_lt_of_pos _ hn⟩
def au7(c:Int): -1000<=gw c/\gw c<=1000:=by
 unfold gw;split
 .omega
 .have:=tA c (n:=2001) AP;omega
def aH5(c:Int):0<=mb c/\mb c<=3:=by
 unfold mb;split
 .omega
 .have:=tA c (n:=4) AP;omega
def K2(c n:Int)(b:c9 c)(hn:0<n/\n<=1000000)(w:aH):Calls vee 11 #[.I c,.I n] w λe w'=>e=.returned (.I (m9 c n))/\w'=w:=by
 obtain⟨j,i⟩:=b;obtain⟨d,g⟩:=hn;have f:=tA c d;go_enter (vea func11),ntmps11
 by_cases h:c<0
 .have a: -(c+1).tmod n=m9 c n:=by unfold m9;rw[vbz h,<-Int.neg_tmod,Int.tmod_eq_emod_of_nonneg AP]
  go_wp2
  go_ret
  simp_all
 .have a:c % n=m9 c n:=by simp_all[m9,vbt]
  go_wp2
  go_ret
  simp_all
def vr(c:Int)(a:c9 c)(w:aH):Calls vee 15 #[.I c] w λe w'=>e=.returned (.bool (ij c))/\w'=w:=by
 go_enter (vea func15),ntmps15
 by_cases h:c<0
 .go_wp2_with (refine(K2 c 3 a AP _).mono ?_;rintro e w' ⟨rfl,rfl⟩)
  go_ret
  refine⟨?_,Y⟩;unfold ij;simp[h];rfl
 .go_wp2
  go_ret
  refine⟨?_,Y⟩;unfold ij;simp[show¬c<0 by omega]
def yo(c:Int)(a:c9 c)(w:aH):Calls vee 14 #[.I c] w λe w'=>e=.returned (.I (gw c))/\w'=w:=by
 go_enter (vea func14),ntmps14
 have b:=tA c (n:=2001) AP;cases hn:ij c with
 |true=>
  go_wp2_with (refine(vr c a _).mono ?_;rintro e w' ⟨rfl,rfl⟩)
  go_ret
  simp_all[gw]
 |false=>
  go_wp2_with (first|(refine(vr c a _).mono ?_;rintro e w' ⟨rfl,rfl⟩)|(refine(K2 c 2001 a AP _).mono ?_;rintro e w' ⟨rfl,rfl⟩))
  go_ret
  simp_all[gw]
def au8(c:Int)(a:c9 c)(w:aH):Calls vee 13 #[.I c] w λe w'=>e=.returned (.I (mb c))/\w'=w:=by
 go_enter (vea func13),ntmps13
 have b:=tA c (n:=4) AP;cases hn:ij c with
 |true=>
  go_wp2_with (refine(vr c a _).mono ?_;rintro e w' ⟨rfl,rfl⟩)
  go_ret
  simp_all[mb]
 |false=>
  go_wp2_with (first|(refine(vr c a _).mono ?_;rintro e w' ⟨rfl,rfl⟩)|(refine(K2 c 4 a AP _).mono ?_;rintro e w' ⟨rfl,rfl⟩))
  go_ret
  simp_all[mb]
def au9(c:Int)(a:c9 c)(w:aH):Calls vee 16 #[.I c] w λe w'=>e=.returned (.string (qB c))/\cy w w':=by
 go_enter (vea func16),ntmps16
 cases hn:ij c with
 |true=>
  go_wp2_with (refine(vr c a _).mono ?_;rintro e w' ⟨rfl,rfl⟩)
  go_ret
  exact⟨by simp[qB,hn];rfl,vaa _ _⟩
 |false=>
  obtain⟨k,hk,f⟩:∃k:Nat,k<13/\m9 c 13=(k:Int):=⟨(m9 c 13).toNat,by simp_all[tA],by have:=tA c (n:=13) AP;omega⟩;have b:qB c=(lets[k]?.getD "").toUTF8:=by grind[qB]
  go_wp2_with (first|(refine(vr c a _).mono ?_;rintro e w' ⟨rfl,rfl⟩)|(refine(K2 c 13 a AP _).mono ?_;rintro e w' ⟨rfl,rfl⟩))
  go_ret
  refine⟨?_,(vaa _ _).alloc Kj _⟩;rw[b];have d:k=0\/k=1\/k=2\/k=3\/k=4\/k=5\/k=6\/k=7\/k=8\/k=9\/k=10\/k=11\/k=12:=AP;rcases d with rfl|rfl|rfl|rfl|rfl|rfl|rfl|rfl|rfl|rfl|rfl|rfl|rfl<;>rfl
def au_(k:Int)(w:aH):Calls vee 6 #[.I k] w λe w'=>e=.returned (.agg #[.I 1,.I k,.I 0,.E])/\cy w w':=by
 go_enter (vea func6),ntmps6
 go_wp2
 refine vai (v:=.agg #[.I 1,.I k,.I 0,.E]) (by simp[results,results6,go_sem]) Y ?_;exact⟨Y,(vaa _ _).alloc Kj _⟩
def ava(k:Int)(w:aH):Calls vee 7 #[.I k] w λe w'=>e=.returned (.agg #[.I k,.I 0,.I 0,.E])/\cy w w':=by
 go_enter (vea func7),ntmps7
 go_wp2
 refine vai (v:=.agg #[.I k,.I 0,.I 0,.E]) (by simp[results,results7,go_sem]) Y ?_;exact⟨Y,(vaa _ _).alloc Kj _⟩
def avb(k:Int)(w:aH):Calls vee 9 #[.I k] w λe w'=>e=.returned (.agg #[.I 1,.I k,.I 0,.N,.N,.N,.N])/\cy w w':=by
 go_enter (vea func9),ntmps9
 go_wp2
 refine vai (v:=.agg #[.I 1,.I k,.I 0,.N,.N,.N,.N]) (by simp[results,results9,go_sem]) Y ?_;exact⟨Y,(vaa _ _).alloc Kj _⟩
def avc(v:Value)(t:List bo)(ht:0<t.length)(w:aH)(hv:nO w v t):Calls vee 5 #[.agg #[v]] w λe w'=>e=.returned (.I (t[0].gZ.length:Int))/\cy w w':=by
 obtain⟨o,cap,rfl,l,d⟩:=hv;obtain⟨b,off,rfl,c7,vs,p,c,d1,h,g,f,a⟩:=d 0 ht;obtain⟨k,ci,i,j,an,m,rfl,rfl,rfl⟩:=a.shape;have n:b<w.heap.size:=fB c;clear d a c d1 h g;simp at f;go_enter (vea func5),ntmps5
 go_wp2
 go_ret
 exact⟨Y,(vaa _ _).alloc Kj _⟩
@[simp] theorem aA7:dk true 8:=ved func8
