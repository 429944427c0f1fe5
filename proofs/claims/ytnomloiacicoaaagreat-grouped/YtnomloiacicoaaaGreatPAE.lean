import Derived.Test.YtnomloiacicoaaaGreatP01
import Derived.Test.YtnomloiacicoaaaGreatProg
import Derived.Deep.Light
import Derived.Deep.DeepCutAuto
import Derived.Deep.RegionHeld3
import Derived.Deep.DrawnRows
import Derived.Lib.BufferWrite
import Derived.RangeFuncBound
import Derived.Shelf.RegionOpen
import Derived.OwnWalkIn
import Derived.LoopNIn
import Derived.LoopIn
import Derived.Deep.RegionLaw
import Derived.Conc.Beside
import Derived.Test.YtnomloiacicoaaaGreatPAC
set_option linter.all false
set_option maxRecDepth 100000
set_option maxHeartbeats 16000000
namespace Go.Proofs.YtnomloiacicoaaaGreat
open Tryz
namespace av
section
section
variable(P:cE)(u:Bool)
@[simp] theorem al7:(ae P u).toTables=P.toTables:=rfl
@[simp] theorem tf (t:uaa):(ae P u).underlying t=P.underlying t:=rfl
@[simp] theorem aFZ:(ae P u).depth=P.depth:=rfl
@[simp] theorem aF0 (t:uaa):(ae P u).stoodInHeld t=P.stoodInHeld t:=(MJ (C:=da P u) Y t).symm
@[simp] theorem aF1 (n:Nat) (t:uaa):(ae P u).eqGuardType n t=P.eqGuardType n t:=(YT (C:=da P u) Y n t).symm
@[simp] theorem aF2 (t:uaa):(ae P u).cellsOf t=P.cellsOf t:=rfl
@[simp] theorem aF3 (t:uaa):(ae P u).bytesOf t=P.bytesOf t:=rfl
@[simp] theorem ZD (t:uaa) (w:aR):Sem.run (ae P u) (typeInfo t) w=Sem.run P (typeInfo t) w:=by unfold typeInfo;simp only[m9,Go.program,Sem.run,al7];cases P.info? t<;>rfl
@[simp] theorem al8 (t:uaa) (w:aR):Sem.run (ae P u) (underlying t) w=Sem.run P (underlying t) w:=by unfold underlying;simp only[m9,Go.program,Sem.run,tf];cases P.underlying t<;>rfl
@[simp] theorem aF4 (t:uaa) (w:aR):Sem.run (ae P u) (Go.sizeOf t) w=Sem.run P (Go.sizeOf t) w:=by unfold Go.sizeOf;simp only[m9,ZD];cases Sem.run P (typeInfo t) w<;>rfl
@[simp] theorem aF5 (t:uaa) (w:aR):Sem.run (ae P u) (zeroValue t) w=Sem.run P (zeroValue t) w:=by unfold zeroValue;simp only[m9,ZD];cases Sem.run P (typeInfo t) w with|ok i w1=>simp only[];cases i.zero<;>rfl|halt h w1=>rfl
@[simp] theorem aF6 (t:uaa) (w:aR):Sem.run (ae P u) (isAgg t) w=Sem.run P (isAgg t) w:=by unfold isAgg;simp only[m9,al8];cases Sem.run P (underlying t) w with|ok i w1=>cases i<;>rfl|halt h w1=>rfl
end
def cR{P:cE}{u:Bool}{f:uak}{fn:Func}(h:(ae P u).funcs[f]?=some fn)(hk:gE P u fn=true)(args:dX)(w:aR):Sem.run (ae P u) (callFunc f args) w=.ok (.enter f args) w:=by
 unfold callFunc;simp only[gE,vag,bne_iff_ne]at hk;have hn:(fn.name== "runtime.NumGoroutine")=false:=AA;have a:fn.body.isNone=false:=by cases a:fn.body with|none=>grind|some c=>rfl
 simp only[m9,Go.program,Sem.run,h,hn,a];rfl
end
end av
namespace b_
open RowKit av
abbrev _root_.Go.Proofs.YtnomloiacicoaaaGreat.dc(u:Bool)(n:uak):Prop:=∀(a:dX)(w:aR),Sem.run (ae prog u) (callFunc n a) w=.ok (.enter n a) w
def _root_.Go.Proofs.YtnomloiacicoaaaGreat.vez{P:cE}{f:FuncId}{fn:Func}(h:P.funcs[f]?=some fn)(hk:gE P true fn=true:=by decide+kernel):(ae P true).funcs[f]?=some fn:=bb (upd:=true) h hk
def _root_.Go.Proofs.YtnomloiacicoaaaGreat.vfb{P f fn}(h:P.funcs[f]?=some fn)(hk:gE P true fn=true:=by decide+kernel):∀a w,Sem.run (ae P true) (callFunc f a) w=.ok (.enter f a) w:=cR (vez h hk) hk
@[simp] theorem aF8:dc true 97:=vfb func97
@[simp] theorem aF9:dc true 63:=vfb func63
@[simp] theorem aF_:dc true 102:=vfb func102
@[simp] theorem aGa:dc true 137:=vfb func137
@[simp] theorem aGb:dc true 101:=vfb func101
@[simp] theorem aGc:dc true 98:=vfb func98
@[simp] theorem aGd:dc true 140:=vfb func140
@[simp] theorem aGe:dc true 65:=vfb func65
@[simp] theorem aGf:dc true 120:=vfb func120
@[simp] theorem aGg:dc true 121:=vfb func121
@[simp] theorem aGh:dc true 122:=vfb func122
@[simp] theorem aGi:dc true 99:=vfb func99
@[simp] theorem aGj:dc true 64:=vfb func64
@[simp] theorem aGk:dc true 60:=vfb func60
@[simp] theorem aGl:dc true 59:=vfb func59
@[simp] theorem aGm:dc true 61:=vfb func61
@[simp] theorem aGn:dc true 39:=vfb func39
@[simp] theorem aGo:dc true 31:=vfb func31
@[simp] theorem aGp:dc true 22:=vfb func22
@[simp] theorem aGq:dc true 42:=vfb func42
@[simp] theorem aGr:dc true 62:=vfb func62
@[simp] theorem aGs:dc true 41:=vfb func41
@[simp] theorem aGt:dc true 40:=vfb func40
@[simp] theorem aGu:dc true 32:=vfb func32
@[simp] theorem aGv:dc true 34:=vfb func34
@[simp] theorem aGw:dc true 44:=vfb func44
@[simp] theorem aGx:dc true 33:=vfb func33
@[simp] theorem aGy:dc true 23:=vfb func23
@[simp] theorem aGz:dc true 24:=vfb func24
@[simp] theorem ZO:dc true 17:=vfb func17
@[simp] theorem ZP:dc true 16:=vfb func16
abbrev _root_.Go.Proofs.YtnomloiacicoaaaGreat.vfc(P:cE:=prog):cE:=ae P true
theorem SH:um vfc 79 115 (.agg #[.I 0,.I 0]) 2 16:=⟨BB,AB,AF,AF⟩
def amf:um vfc 64 79 (.N) 1 24:=⟨BB,AB,AF,AF⟩
def M3:um vfc 43 4 (.F) 1 1:=⟨BB,AB,AF,AF⟩
def ZQ:um vfc 41 2 (.I 0) 1 8:=⟨BB,AB,AF,AF⟩
def ZR:um vfc 42 9 (.string ByteArray.empty) 1 16:=⟨BB,AB,AF,AF⟩
def amg:um vfc 25 45 (.agg #[.I 0,.I 0,.N,.N,.N]) 5 88:=⟨BB,AB,AF,AF⟩
def M4(s:Int):Bool:=decide (0<=s)&&decide (s<=6)
def CF(t:ubs):Bool:=t.1==1||t.1==2
def amh(a:Int)(w:aR):
 Calls vfc 97 #[.I a] w λe w'=>e=.returned (.bool (M4 a))/\w'=w:=by
 unfold M4;go_enter (vez func97),ntmps97
 go_wp2
 all_goals(go_ret;refine⟨?_,Y⟩;simp[*]<;>omega)
def ami(a b c:Int)(w:aR):
 Calls vfc 63 #[.I a,.I b,.I c] w λe w'=>e=.returned (.bool (decide (b<=a)&&decide (a<=c)))/\w'=w:=by
 go_enter (vez func63),ntmps63
 go_wp2
 all_goals(go_ret;refine⟨?_,Y⟩;simp[*]<;>omega)
def amj(t:ubs)(w:aR):
 Calls vfc 102 #[n_ t] w λe w'=>e=.returned (.bool (CF t))/\c6 w w':=by
 obtain⟨k,s⟩:=t;unfold CF;go_enter (vez func102),ntmps102
 go_wp2
 all_goals(go_ret;refine⟨?_,(vaa _ _).alloc AA _⟩;simp[*])
def ZS(w:aR):
 Calls vfc 101 #[] w λe w'=>e=.returned (n_ (1,0))/\c6 w w':=by
 go_enter (vez func101),ntmps101
 go_wp2
 exact vav (v:=n_ (1,0)) (by simp[results,results101,go_sem]) Y ⟨Y,(vaa _ _).alloc AA _⟩
def Jq(t:ubs):Bool:=if t.1=1\/t.1=3 then t.2==0 else if t.1=2 then M4 t.2 else false
def amk(t:ubs)(w:aR):
 Calls vfc 60 #[n_ t] w λe w'=>e=.returned (.bool (Jq t))/\c6 w w':=by
 obtain⟨k,s⟩:=t;go_enter (vez func60),ntmps60
 go_wp2_with (go_at_call 97;refine(amh _ _).mono ?_;rintro e w' ⟨rfl,rfl⟩)
 all_goals(go_ret;refine⟨?_,(vaa _ _).alloc AA _⟩;go_light;simp_all[Jq])
def ZT(k s:Int)(a vs bJ:Value)(w:aR):
 Calls vfc 59 #[.agg #[.I k,.I s,a,vs,bJ]] w λe w'=>e=.returned (n_ (k,s))/\c6 w w':=by
 go_enter (vez func59),ntmps59
 go_wp2
 exact vav (v:=n_ (k,s)) (by simp[results,results59,go_sem]) Y ⟨Y,((vaa _ _).alloc AA _).alloc AS _⟩
def operands(op:Int):Int×Bool:=
 if op=1\/op=2\/op=3\/op=4 then(0,true)else if op=8\/op=14\/op=15 then(1,true)
 else if op=5\/op=6\/op=7\/op=9\/op=10\/op=11\/op=12\/op=13 then(2,true)else(0,false)
def gN(cQ:g7)(p:Int):(Int×Int)×Bool:=
 if 0<=p/\p<cQ.length then(cQ.getD p.toNat (0,0),true)else((0,0),false)
def Jr(cQ:g7)(v:Value)(p:Int)(w:aR)(hv:hJ w v cQ):
 Calls vfc 65 #[v,.I p] w λe w'=>e=.returned (.tuple #[n_ (gN cQ p).1,.bool (gN cQ p).2])/\c6 w w':=by
 obtain⟨j,cap,rfl,g,f⟩:=hv;by_cases h:0<=p/\p<cQ.length
 .have a:Hid (gN cQ p=(cQ.getD p.toNat (0,0),true)):=by unfold Hid gN;rw[vca h]
  obtain⟨h1,h2⟩:=h;obtain⟨q,rfl⟩:=Int.eq_ofNat_of_zero_le h1;have h3:q<cQ.length:=AQ;obtain⟨b,off,rfl,c,k⟩:=f q h3;simp at c;have i:=ef c;go_enter (vez func65),ntmps65
  go_wp2
  exact vav (v:=.tuple #[n_ (cQ[q]),.T]) (by simp[results,results65,go_sem]) Y ⟨by rw[a.out];simp[h3],(vaa _ _).alloc AA _⟩
 .have a:Hid (gN cQ p=((0,0),false)):=by unfold Hid gN;rw[vby h]
  by_cases h1:p<0;rotate_left
  focus
   have d:0<=p:=AQ;have h2:(cQ.length:Int)<=p:=AQ;obtain⟨q,rfl⟩:=Int.eq_ofNat_of_zero_le d;have h3:cQ.length<=q:=AQ;clear h h1
  rotate_left
  all_goals
   go_enter (vez func65),ntmps65
   go_wp2
   exact vav (v:=.tuple #[n_ (0,0),.F]) (by simp[results,results65,go_sem]) Y ⟨by rw[a.out],(vaa _ _).alloc AA _⟩
def CG(ok:ube)(n:Nat):Option Nat:=(List.range n).find? (λi=> !ok i)
def ZW{ok n}(h:∀j,j<n->ok j=true):CG ok n=none:=by grind[CG]
def ZX{ok n k}(hk:k<n)(h:∀j,j<k->ok j=true)(a:ok k=false):CG ok n=some k:=by unfold CG;simp_all
def told(o:ubg):Int×Bool:=match o with|some k=>((k:Int),true)|none=>(0,false)
def th(l:List ByteArray):Bool:=l.all λs=>decide (s.size<=16)
variable{l:List ByteArray}
def aml{k}(hk:k<l.length)(h:th (l.take k)=true)(hs:l[k].size<=16):th (l.take (k+1))=true:=by grind[th,List.take_succ_eq_append_getElem]
def amm{k}(hk:k<l.length)(hs:¬l[k].size<=16):th l=false:=by grind[th]
def amn l v w(hv:Sy w v l):
 Calls vfc 61 #[v] w λe w'=>e=.returned (.bool (th l))/\w'=w:=by
 obtain⟨j,cap,rfl,h,g⟩:=hv;go_enter (vez func61),ntmps61
 go_wp2
 go_loop [4,7] (λ_ i=>∃k:Nat,k<=l.length/\i=.I k/\th (l.take k)=true) (λ_ i=>l.length-(intOf i).toNat)
 case atStart=>exact⟨0,vax _,Y,Y⟩
 case round=>
  obtain⟨k,hk,rfl,ht⟩:=hrel;have c:Hid _:=ht;clear ht;by_cases a:k<l.length
  .obtain⟨b,off,rfl,f,hs⟩:=g k a;simp at f;by_cases d:l[k].size<=16
   .go_wp2
    go_round
    case rel=>exact⟨k+1,AQ,by go_num,aml a c.out d⟩
    case measure=>simp[intOf];omega
   .go_wp2
    go_ret
    exact⟨by rw[amm a d];rfl,Y⟩
  .go_wp2
   go_ret
   refine⟨?_,Y⟩;have e:th l=true:=by have:=c.out;grind
   rw[e];rfl
def Js(k s:Int)(AP ns cd:Nat)(fit:Bool)(rows:Int):Bool:=
 Jq (k,s)&&((cd:Int)==rows&&((AP:Int)==(if k=3 then 0 else rows)&&(ns:Int)==(if k=3 then rows else 0)))&&fit
def vu(c:a9)(rows:Int):Bool:=Js c.kind c.dg c.im.length c.iJ.length c.ff.length (th c.iJ) rows
abbrev amo(c:a9)(dA vs bJ:Value):Value:=.agg #[.I c.kind,.I c.dg,dA,vs,bJ]
def amp(k s:Int)(h a an:uag)(f ns cd ci b l:Nat)(iJ:List ByteArray)(rows:Int)(w:aR)(p:ns<=9223372036854775807)(m:Sy w (.slice a ns b) iJ):
 Calls vfc 39 #[.agg #[.I k,.I s,.slice h f ci,.slice a ns b,.slice an cd l],.I rows] w λe w'=>e=.returned (.bool (Js k s f ns cd (th iJ) rows))/\c6 w w':=by
 go_enter (vez func39),ntmps39
 go_wp2_with fail
 refine(ZT k s _ _ _ _).mono ?_;rintro e w1 ⟨rfl,d⟩;have bO:=(ag.new w #[.I k,.I s,.slice h f ci,.slice a ns b,.slice an cd l] 45).call d;have j:c6 w w1:=Below.step d ((vaa _ _).alloc AS _) AS;clear d;go_wp2_with fail
 refine(amk (k,s) _).mono ?_;rintro e w2 ⟨rfl,c⟩;have n:=bO.call c;obtain⟨o,q,r⟩:=n.all;have g:c6 w w2:=Below.step c j (by have:=j.size;omega);have i:=m.mono Sx (bp.cy g);clear c bO n m;by_cases hst:Jq (k,s)=true
 .go_wp2_with (go_at_call 61;refine(amn iJ _ _ i).mono ?_;rintro e t ⟨rfl,rfl⟩)
  all_goals(go_ret;refine⟨?_,g⟩;go_light;clear o q i;simp_all[Js])
 .go_wp2
  go_ret
  simp_all[Js]
def amq c a vs bJ rows w(b:xl w a vs bJ c):
 Calls vfc 39 #[amo c a vs bJ,.I rows] w λe w'=>e=.returned (.bool (vu c rows))/\c6 w w':=by
 obtain⟨h1,h2,h3⟩:=b;have f:=h2;obtain⟨i,ci,rfl,l,-⟩:=h1;obtain⟨g,h,rfl,d,-⟩:=h2;obtain⟨an,j,rfl,k,-⟩:=h3;exact amp _ _ _ _ _ _ _ _ _ _ _ c.iJ rows w d f
def Gx(t:List a9):Nat:=match t with| []=>0|c::_=>c.ff.length
def nh(t:List a9):Bool:=decide (1<=t.length)&&decide (t.length<=8)&&decide (Gx t<=40)&&t.all (λc=>vu c (Gx t))
variable{t:List a9}
def amr{n k}(hk:k<t.length)(h:((t.take k).all (λc=>vu c n))=true)(hs:vu t[k] n=true):((t.take (k+1)).all (λc=>vu c n))=true:=by grind[List.take_succ_eq_append_getElem]
def ams{n k}(hk:k<t.length)(hs:vu t[k] n=false):(t.all (λc=>vu c n))=false:=by grind
def amt(h:0<t.length):Gx t=t[0].ff.length:=by cases t with|nil=>grind|cons c r=>rfl
def amu t v w(hv:n8 w v t):
 Calls vfc 31 #[.agg #[v]] w λe w'=>e=.returned (.bool (nh t))/\c6 w w':=by
 obtain⟨X,cap,rfl,S,A⟩:=hv;by_cases h1:t.length<1
 .have e:Hid (nh t=false):=by grind[Hid,nh]
  go_enter (vez func31),ntmps31
  go_wp2
  go_ret
  exact⟨by rw[e.out];rfl,(vaa _ _).alloc AA _⟩
 by_cases Q:8<t.length
 .have e:Hid (nh t=false):=by grind[Hid,nh]
  go_enter (vez func31),ntmps31
  go_wp2
  go_ret
  exact⟨by rw[e.out];rfl,(vaa _ _).alloc AA _⟩
 have h0:0<t.length:=AQ;obtain⟨b,off,rfl,V,vs,bJ,b3,c1,bt,cF,g,s⟩:=A 0 h0;simp at b3 c1 bt cF g;have a5:=amt h0;obtain⟨an,T,rfl,M,-⟩:=s.ff;rw[<-a5]at g M;clear s b3 c1 bt cF;generalize H:Gx t=N at *;have p:Hid (Gx t=N):=H;clear H a5;have SO:=ef g;by_cases L:40<N
 .have e:Hid (nh t=false):=by grind[Hid,nh]
  go_enter (vez func31),ntmps31
  go_wp2
  go_ret
  exact⟨by rw[e.out];rfl,(vaa _ _).alloc AA _⟩
 go_enter (vez func31),ntmps31
 go_wp2
 go_loopw [27] (λi W=>∃k:Nat,k<=t.length/\i=.I k/\((t.take k).all (λc=>vu c N))=true/\c6 w W) (λi _=>t.length-(intOf i).toNat)
 case atStart=>exact⟨0,vax _,Y,Y,(vaa _ _).alloc AA _⟩
 case round=>
  obtain⟨k,hk,rfl,u,x⟩:=hrel;have z:Hid _:=u;have f:Hid _:=x;clear u x;by_cases a:k<t.length
  .obtain⟨Z,SJ,o,n,m,l,j,d1,D,C,B,h⟩:=A k a;simp at o;obtain⟨rfl,rfl⟩:=o;simp at j;have d:=bp.cy f.out;have e0:=d _ _ _ j;have e1:=d _ _ _ d1;have e2:=d _ _ _ D;have e3:=d _ _ _ C;have e4:=d _ _ _ B;have U:=ef e0;have F:=(h.mono d).mono ((bp.refl _).alloc (.cells #[.I t[k].kind,.I t[k].dg,n,m,l] 45));clear d j d1 D C B g;obtain⟨R,ci,O,P,K,J,rfl,rfl,rfl⟩:=h.shape;clear h;go_wp2_with fail
   refine(amq t[k] _ _ _ N _ F).mono ?_;rintro e w1 ⟨rfl,E⟩;have q:c6 w w1:=Below.step E (f.out.alloc (by have:=f.out.size;omega) _) (by have:=f.out.size;simp;omega);have y:Hid _:=q;clear q E F;by_cases r:vu t[k] N=true
   .go_wp2
    go_roundw
    case rel=>exact⟨k+1,AQ,by go_num,amr a z.out r,y.out⟩
    case measure=>simp[intOf];omega
   .have I:vu t[k] N=false:=by grind
    clear r;go_wp2
    go_ret
    refine⟨?_,y.out⟩;have e:nh t=false:=by unfold nh;rw[p.out,ams a I];simp
    rw[e];rfl
  .go_wp2
   go_ret
   refine⟨?_,f.out⟩;have e:nh t=true:=by have:=z.out;rw[vbo AQ]at this;unfold nh;rw[p.out,this];grind
   rw[e];rfl
def yF(ts:List (List a9))(i:Nat):Bool:=decide (i<4)&&nh (ts.getD i [])
variable{w:aR}{ts:List (List a9)}
def Z1{a:uag}{n:Nat}(c:∀i(h:i<ts.length),∃b off,a=some ⟨b,off,none⟩/\Sz w (λj=>w.cell? (.a b (off+i*1+j))) ts[i])(hn:n<ts.length):
 ∃b off v,a=some ⟨b,off,none⟩/\w.cell? (.a b (off+n))=some v/\n8 w v ts[n]:=by
 obtain⟨b,off,d,v,h0,hv⟩:=c n hn;grind
def amy ts v w(hv:CB w v ts):
 Calls vfc 22 #[v] w λe w'=>e=.returned (.tuple #[.I (told (CG (yF ts) ts.length)).1,.bool (told (CG (yF ts) ts.length)).2])/\c6 w w':=by
 obtain⟨z,cap,rfl,x,t⟩:=hv;go_enter (vez func22),ntmps22
 go_wp2
 go_loopw [8] (λi W=>∃k:Nat,k<=ts.length/\i=.I k/\(∀j,j<k->yF ts j=true)/\c6 w W) (λi _=>ts.length-(intOf i).toNat)
 case atStart=>exact⟨0,vax _,Y,AA,vaa _ _⟩
 case round=>
  obtain⟨k,hk,rfl,n,o⟩:=hrel;have d:Hid _:=n;have c:Hid _:=o;clear n o;by_cases a:k<ts.length
  .obtain⟨b,off,eo,rfl,q,s⟩:=Z1 t a;have f:=bp.cy c.out;have e0:=f _ _ _ q;have y:=ef e0;have g:=s.mono si (f.alloc (.cells #[eo] 27));obtain⟨vv,ct,rfl,-,-⟩:=s;clear f q;by_cases h4:k<4
   .go_wp2_with fail
    refine(amu ts[k] _ _ g).mono ?_;rintro e w1 ⟨rfl,r⟩;have p:Hid (c6 w w1):=Below.step r (c.out.alloc (by have:=c.out.size;omega) _) (by have:=c.out.size;simp;omega);clear r g;have hok:Hid (yF ts k=nh ts[k]):=by grind[Hid,yF]
    by_cases l:nh ts[k]=true
    .go_wp2
     go_roundw
     case rel=>
      refine⟨k+1,AQ,by go_num,λj m=>?_,p.out⟩;rcases Nat.lt_succ_iff_lt_or_eq.1 m with h|rfl
      .exact d.out j h
      .rw[hok.out];exact l
     case measure=>simp[intOf];omega
    .have u:nh ts[k]=false:=by grind
     clear l;go_wp2
     go_ret2
     refine⟨?_,p.out⟩;rw[ZX a d.out (by rw[hok.out];grind)];rfl
   .have hok:Hid (yF ts k=false):=by grind[Hid,yF]
    clear g;go_wp2
    go_ret2
    refine⟨?_,c.out.alloc (by have:=c.out.size;omega) _⟩;rw[ZX a d.out hok.out];rfl
  .go_wp2
   go_ret2
   refine⟨?_,c.out⟩;rw[ZW (λj m=>d.out j AQ)];rfl
def q_(t:List a9):List (Int×Int):=t.map λc=>(c.kind,c.dg)
def amz t v w(hv:n8 w v t)(I:t.length<=1000000):
 Calls vfc 42 #[.agg #[v]] w λe w'=>∃v',e=.returned v'/\hJ w' v' (q_ t)/\fM 115 w' v'/\c6 w w':=by
 obtain⟨M,cap,rfl,V,z⟩:=hv;have hlen:(q_ t).length=t.length:=by simp[q_]
 go_enter (vez func42),ntmps42
 go_wp2_with (at_make;refine SI SH _ Y _ _ Y _ _ t.length Y Y AQ AQ ?_;intro w1 bq L a p;have gF:=(ag.new w #[.slice M t.length cap] 27).call p;obtain⟨M6,P,O⟩:=gF.all)
 have x:c6 w w1:=Below.step p ((vaa _ _).alloc AS _) AS;have D:ag w1 (w.heap.size+1) bq 115:=BB;have H:Hid (ag w1 (w.heap.size+1) bq 115):=D;have K:Hid (c6 w w1):=x;clear L D p x gF;go_loopw [13] (λi W=>∃(k:Nat)(cs:dX),k<=t.length/\i=.I k/\ag W (w.heap.size+1) cs 115/\cs.size=t.length*2/\Gt cs (q_ t) k/\c6 w W)
  (λi _=>t.length-(intOf i).toNat)
 case atStart=>exact⟨0,bq,vax _,Y,H.out,a,λj _ X=>AA,K.out⟩
 case round=>
  obtain⟨k,cs,hk,rfl,r,E,q,y⟩:=hrel;have m:Hid (ag wr (w.heap.size+1) cs 115):=r;have u:Hid (Gt cs (q_ t) k):=q;have f:Hid (c6 w wr):=y;have g:Hid _:=E;have SP:Hid _:=a;clear r q y E a;by_cases h:k<t.length
  .obtain⟨b,off,rfl,dA,vs,bJ,n,d1,C,B,A,s⟩:=z k h;simp at n;have c:=bp.cy f.out;have e0:=c _ _ _ n;have e1:=c _ _ _ d1;have e2:=c _ _ _ C;have e3:=c _ _ _ B;have e4:=c _ _ _ A;have eC:=ef e0;clear c n d1 C B A;obtain⟨T,ci,Q,S,an,Z,rfl,rfl,rfl⟩:=s.shape;clear s z;have R:(0:Int)<=(k:Int):=AQ;have U:(k:Int)<(t.length:Int):=AQ;go_wp2_with fail
   refine(ZT _ _ _ _ _ _).mono ?_;rintro e w2 ⟨rfl,o⟩;have d:=(m.out.alloc _).call o;have N:Hid (ag w2 (w.heap.size+1) cs 115):=d;have J:Hid (c6 w w2):=Below.step o (f.out.alloc (by have:=f.out.size;omega) _) (by have:=f.out.size;simp;omega);have SQ:w2.cell? (.a (w.heap.size+1) (k*2))=some (cs[k*2]'(by have:=g.out;omega)):=by rw[d.rules.1];simp
   have SR:w2.cell? (.a (w.heap.size+1) (k*2+1))=some (cs[k*2+1]'(by have:=g.out;omega)):=by rw[d.rules.1];simp
   have M7:=d.rules.2;clear d o e0 e1 e2 e3 e4;go_wp2_with fail
   go_roundw
   case rel=>
    refine⟨k+1,(cs.setIfInBounds (k*2) (.I t[k].kind)).setIfInBounds (k*2+1) (.I t[k].dg),AQ,by go_num,(N.out.set _ _).set _ _,by simp;exact g.out,?_,(J.out.setCell AS _).setCell AS _⟩;have:=u.out.step AA (by rw[hlen];exact g.out);grind[q_]
   case measure=>simp[intOf];omega
  .have F:k=t.length:=by omega
   go_wp2_with fail
   go_ret
   refine⟨_,Y,?_,fM.box m.out _ _ _,f.out⟩;have:=hJ.SK (l:=q_ t) m.out AA (by rw[hlen,<-F];exact u.out) t.length;simp_all
variable{v:Value}
section
attribute [local go_sem ↓] Go.wp_at_zero Go.wp_at_succ
def CH(w':aR)(e:Ending)(o:Option (List (Int×Int))):Prop:=
 match o with
 |some l=>∃v,e=.returned (.tuple #[v,.T])/\hJ w' v l/\fM 115 w' v
 |none=>∃v,e=.returned (.tuple #[v,.F])
abbrev Z5(n:ng)(pq dM n9 b9:Value):Value:=.agg #[.I n.op,.I n.a,.I n.b,pq,dM,n9,b9]
@[simp] theorem aGH:dc true 67:=vfb func67
@[simp] theorem aGI:dc true 46:=vfb func46
def qn(g:ubs)(cQ:g7):(Int×Int)×Bool:=
 if g.1=1/\g.2= -1 then((1,0),true)else if g.1=1 then((1,0),(gN cQ g.2).2)
 else if g.1=2 then((gN cQ g.2).1,(gN cQ g.2).2&&CF (gN cQ g.2).1)else if g.1=3\/g.1=4 then gN cQ g.2 else((0,0),false)
def Z6(w:aR)(k a:Int):
 ag ((w.alloc (.cells #[.I k,.I a] 31)).alloc (.cells #[.I 0,.I 0] 115)) (w.heap.size+1) #[.I 0,.I 0] 115/\
 ag ((w.alloc (.cells #[.I k,.I a] 31)).alloc (.cells #[.I 0,.I 0] 115)) w.heap.size #[.I k,.I a] 31/\
 c6 w ((w.alloc (.cells #[.I k,.I a] 31)).alloc (.cells #[.I 0,.I 0] 115)):=by
 refine⟨?_,(ag.new w _ _).alloc _,((vaa _ _).alloc AS _).alloc AS _⟩;have:=ag.new (w.alloc (.cells #[.I k,.I a] 31)) #[.I 0,.I 0] 115;simp_all
def amD(d:Value)(w:aR):
 Calls vfc 67 #[.agg #[.I 1,.I (-1)],d] w λe w'=>e=.returned (.tuple #[n_ (1,0),.T])/\c6 w w':=by
 obtain⟨f,i,b⟩:=Z6 w 1 (-1);go_enter (vez func67),ntmps67
 go_wp2_with fail
 refine(ZS _).mono ?_;rintro e w1 ⟨rfl,a⟩;have c:c6 w w1:=Below.step a b Fl;obtain⟨g,h,j⟩:=(f.call a).all;go_wp2_with fail
 exact vav (v:=.tuple #[n_ (1,0),.T]) (by simp[results,results67,go_sem,g]) Y ⟨Y,(c.setCell AS _).setCell AS _⟩
theorem amE(k a:Int)(C:¬(k=1/\a= -1))(cQ:g7)(i:Value)(w:aR)(hv:hJ w i cQ):
 Calls vfc 67 #[.agg #[.I k,.I a],i] w λe w'=>e=.returned (.tuple #[n_ (qn (k,a) cQ).1,.bool (qn (k,a) cQ).2])/\c6 w w':=by
 obtain⟨p,o,m⟩:=Z6 w k a;have n:=hv.mono nf (bp.cy m);have HC:Hid (qn (k,a) cQ=if k=1 then((1,0),(gN cQ a).2)else if k=2 then((gN cQ a).1,(gN cQ a).2&&CF (gN cQ a).1)else if k=3\/k=4 then gN cQ a else((0,0),false)):=by unfold Hid qn;grind
 have hg:(decide (k=1)&&decide (a= -1))=false:=AA;have t:∀(P:Prop),P->P:=λ_ h=>h;clear t;have D:((k==1)&&(a== -1))=false:=AA;by_cases E:k=1
 .subst E;have O:(a== -1)=false:=AA;have d:Hid (qn (1,a) cQ=((1,0),(gN cQ a).2)):=AA;clear hg D C;go_enter (vez func67),ntmps67
  go_wp2_with fail
  refine(Jr cQ i a _ n).mono ?_;rintro e w1 ⟨rfl,b⟩;have f:c6 w w1:=Below.step b m Fl;have c:=p.call b;have z:=o.call b;obtain⟨l,u,j⟩:=c.all;obtain⟨s,B,r⟩:=z.all;go_wp2_with fail
  refine(ZS _).mono ?_;rintro e w2 ⟨rfl,g⟩;have q:c6 w w2:=Below.step g (f.alloc AQ _) Fl;obtain⟨A,F,y⟩:=((c.alloc _).call g).all;go_wp2_with fail
  exact vav (v:=.tuple #[n_ (1,0),.bool (gN cQ a).2]) (by simp[results,results67,go_sem,A]) Y ⟨by rw[d.out],(q.setCell AS _).setCell AS _⟩
 have M:(k==1)=false:=AA;clear hg D C;by_cases I:k=2
 .subst I;have d:Hid (qn (2,a) cQ=((gN cQ a).1,(gN cQ a).2&&CF (gN cQ a).1)):=AA;go_enter (vez func67),ntmps67
  go_wp2_with fail
  refine(Jr cQ i a _ n).mono ?_;rintro e w1 ⟨rfl,b⟩;have f:c6 w w1:=Below.step b m Fl;have c:=p.call b;obtain⟨l,u,j⟩:=c.all;obtain⟨s,B,r⟩:=(o.call b).all;by_cases hok:(gN cQ a).2=true
  .go_wp2_with fail
   go_region_held3 (λW=>W.cell? (.a w1.heap.size 0)=some (.I (gN cQ a).1.1)/\W.cell? (.a w1.heap.size 1)=some (.I (gN cQ a).1.2))
    ((go_split_ands;refine⟨?_,?_⟩<;>first|(exact(bp.cy g) _ _ _ G_)|(exact ZI (ZI G_ AQ) AQ)|simp_all))
    (first|(go_at_call 102;refine(amj (gN cQ a).1 _).mono ?_;rintro e w2 ⟨rfl,g⟩;have x:=(c.alloc _).drew.call g;obtain⟨A,F,y⟩:=x.all))
   have q:c6 w w2:=Below.step g (f.alloc AQ _).drew Fl;go_wp2_with fail
   exact vav (v:=.tuple #[n_ (gN cQ a).1,.bool ((gN cQ a).2&&CF (gN cQ a).1)]) (by simp[results,results67,go_sem,A,hok]) Y ⟨by rw[d.out],(q.setCell AS _).setCell AS _⟩
  .have N:(gN cQ a).2=false:=by grind
   clear hok;go_wp2_with fail
   go_region
   go_wp2_with fail
   exact vav (v:=.tuple #[n_ (gN cQ a).1,.bool ((gN cQ a).2&&CF (gN cQ a).1)]) (by simp[results,results67,go_sem,l,j,N]) Y ⟨by rw[d.out],(((f.setCell AS _).setCell AS _).alloc BA _).drew⟩
 have L:(k==2)=false:=AA;by_cases H:k=3\/k=4
 .have d:Hid (qn (k,a) cQ=gN cQ a):=by grind
  rcases H with rfl|rfl;all_goals
   go_enter (vez func67),ntmps67
   go_wp2_with fail
   refine(Jr cQ i a _ n).mono ?_;rintro e w1 ⟨rfl,b⟩;have f:c6 w w1:=Below.step b m Fl;have c:=p.call b;obtain⟨l,u,j⟩:=c.all;obtain⟨s,B,r⟩:=(o.call b).all;go_wp2_with fail
   exact vav (v:=.tuple #[n_ (gN cQ a).1,.bool (gN cQ a).2]) (by simp[results,results67,go_sem,l,j]) Y ⟨by rw[d.out],((f.setCell AS _).setCell AS _).alloc BA _⟩
 have d:Hid (qn (k,a) cQ=((0,0),false)):=AA;have K:(k==3)=false:=AA;have J:(k==4)=false:=AA;go_enter (vez func67),ntmps67
 go_wp2_with fail
 refine(Jr cQ i a _ n).mono ?_;rintro e w1 ⟨rfl,b⟩;have f:c6 w w1:=Below.step b m Fl;have c:=p.call b;obtain⟨l,u,j⟩:=c.all;obtain⟨s,B,r⟩:=(o.call b).all;go_wp2_with fail
 exact vav (v:=.tuple #[n_ (0,0),.F]) (by simp[results,results67,go_sem,l,j]) Y ⟨by rw[d.out],((f.setCell AS _).setCell AS _).alloc BA _⟩
def amI(g:ubs)(cQ:g7)(b:Value)(w:aR)(hv:hJ w b cQ):
 Calls vfc 67 #[n_ g,b] w λe w'=>e=.returned (.tuple #[n_ (qn g cQ).1,.bool (qn g cQ).2])/\c6 w w':=by
 obtain⟨k,a⟩:=g;by_cases h:k=1/\a= -1
 .obtain⟨rfl,rfl⟩:=h;exact amD b w
 grind[amE]
def ints_at{l:ubm}(h:h5 w v l){k:Nat}(hk:k<l.length):
 ∃b off cap,v=.S b off l.length cap/\b<w.heap.size/\w.cell? (.a b (off+k))=some (.I l[k]):=by
 obtain⟨d,cap,rfl,c,a⟩:=h;obtain⟨b,off,rfl,h0⟩:=a k hk;simp only[sg,Nat.mul_one,vcc]at h0;exact⟨b,off,cap,Y,ef h0,h0⟩
def amJ{l:g7}(h:M0 w v l){k:Nat}(hk:k<l.length):
 ∃b off cap,v=.S b off l.length cap/\b<w.heap.size/\w.cell? (.a b (off+k*2))=some (.I l[k].1)/\w.cell? (.a b (off+k*2+1))=some (.I l[k].2):=by
 obtain⟨d,cap,rfl,c,a⟩:=h;obtain⟨b,off,rfl,h0,h1⟩:=a k hk;simp only[vcc]at h0;exact⟨b,off,cap,Y,ef h0,h0,h1⟩
def AT(n:ng)(cQ:g7):Option (List (Int×Int)):=
 match lQ (gN cQ) n.iT with
 |none=>none
 |some a=>match lQ (λg=>qn g cQ) n.e5 with
  |none=>none
  |some b=>if 1<=(a++b).length/\(a++b).length<=8 then some (a++b)else none
def amK(n:ng)(pq dM n9 b9 K:Value)(cQ:g7)(w:aR)(hn:CC w pq dM n9 b9 n)(h4:n.iT.length<=4)(bE:n.e5.length<=6)(hv:hJ w K cQ):
 Calls vfc 46 #[Z5 n pq dM n9 b9,K] w λe w'=>CH w' e (AT n cQ)/\c6 w w':=by
 have Z7:=hn.iT;have amL:=hn.e5;obtain⟨s,ce,P,u,A,co,aa,ca,rfl,rfl,rfl,rfl⟩:=hn.shape;clear hn;have xp:=ag.new w #[.I n.op,.I n.a,.I n.b,.slice s n.xm.length ce,.slice P n.iT.length u,.slice A n.others.length co,.slice aa n.e5.length ca] 35;go_enter (vez func46),ntmps46
 go_wp2
 go_loopw [6,18] (λv i W=>∃(k:Nat)(st:g7),k<=n.iT.length/\i=.I k/\lQ (gN cQ) (n.iT.take k)=some st/\st.length=k/\W.ownsRow (w.heap.size+1) 115 2 v st.length (oc st)/\Below (w.heap.size+1) (w.alloc (.cells #[.I n.op,.I n.a,.I n.b,.slice s n.xm.length ce,.slice P n.iT.length u,.slice A n.others.length co,.slice aa n.e5.length ca] 35)) W)
  (λ_ i _=>n.iT.length-(intOf i).toNat)
 case atStart=>exact⟨0,[],vax _,Y,Y,Y,vcg _ _ _ _,vaa _ _⟩
 case round=>
  obtain⟨k,st,hk,rfl,hrun,SV,J,F⟩:=hrel;have ra:Hid _:=hrun;have Z8:Hid (Below (w.heap.size+1) (w.alloc (.cells #[.I n.op,.I n.a,.I n.b,.slice s n.xm.length ce,.slice P n.iT.length u,.slice A n.others.length co,.slice aa n.e5.length ca] 35)) wr):=F;have Z9:w.heap.size+1<=wr.heap.size:=by have:=F.size;simp_all
  have L:Hid (c6 w wr):=((vaa _ _).alloc JR _).trans (F.mono AQ);have Z_:Hid _:=SV;by_cases x:k<n.iT.length
  .obtain⟨b,off,cap,t,hb,y⟩:=ints_at Z7 x;simp only[vex,true_and]at t;obtain⟨rfl,rfl⟩:=t;have j:=bp.cy L.out;have e0:=j _ _ _ y;have eC:=ef e0;have d:=bo.mono nf j hv;have S:Hid (wr.ownsRow (w.heap.size+1) 115 2 u6 st.length (oc st)):=J;clear hrun SV J F j y;go_wp2_with fail
   refine(Jr cQ K n.iT[k] _ d).mono ?_;rintro e w1 ⟨rfl,h⟩;have r:Hid (w1.ownsRow (w.heap.size+1) 115 2 u6 st.length (oc st)):=M1 S.out h;have I:Hid (c6 w w1):=Below.step h L.out L.out.size;have amM:Hid (Below (w.heap.size+1) (w.alloc (.cells #[.I n.op,.I n.a,.I n.b,.slice s n.xm.length ce,.S b off n.iT.length u,.slice A n.others.length co,.slice aa n.e5.length ca] 35)) w1):=Below.step h Z8.out Z9;have amN:w.heap.size+1<=w1.heap.size:=by have:=h.size;omega
   clear h d e0;generalize z:gN cQ n.iT[k]=R at *;have E:Hid _:=z;clear z;by_cases SW:R.2=true
   .have M:Hid (lQ (gN cQ) (n.iT.take (k+1))=some (st++[R.1])):=by have:=Z4 x ra.out (by rw[E.out];grind);rw[E.out]at this;exact this
    have m:=(ag.new (w1.alloc (.cells #[.I R.1.1,.I R.1.2] 115)) #[.I R.1.1,.I R.1.2] 115);rw[show(w1.alloc (.cells #[.I R.1.1,.I R.1.2] 115)).heap.size=w1.heap.size+1 by simp]at m;have O:Hid _:=ZM m;have N:Hid _:=(r.out.alloc (.cells #[.I R.1.1,.I R.1.2] 115)).alloc (.cells #[.I R.1.1,.I R.1.2] 115);have AU:Hid (((w1.alloc (.cells #[.I R.1.1,.I R.1.2] 115)).alloc (.cells #[.I R.1.1,.I R.1.2] 115)).heap.size=w1.heap.size+1+1):=BB;have AV:Hid (w.heap.size+1<=((w1.alloc (.cells #[.I R.1.1,.I R.1.2] 115)).alloc (.cells #[.I R.1.1,.I R.1.2] 115)).heap.size):=GB;have o:Hid (st.length<=8):=GB;have SX:Hid (∀g,u6.ownBlock=some g->w.heap.size+1<=g):=λg hg=>(r.out.lt g hg).1;clear m;go_wp2_with (at_builtin;refine Gr SH _ Ao _ _ Ao (w.heap.size+1) u6 st.length (oc st) Ao N.out (w1.heap.size+1) 1 1 _ Ao Y O.out (ZN _ _) AQ GL GL AV.out (w1.heap.size+1+1) AU.out ?_;intro T CJ l SY p SZ M9)
    have D:=(amM.out.alloc AQ (.cells #[.I R.1.1,.I R.1.2] 115)).alloc BA (.cells #[.I R.1.1,.I R.1.2] 115);have S0:Hid (Below (w.heap.size+1) (w.alloc (.cells #[.I n.op,.I n.a,.I n.b,.slice s n.xm.length ce,.S b off n.iT.length u,.slice A n.others.length co,.slice aa n.e5.length ca] 35)) l):=D.grown p BA (λk' U=>by have:=SX.out k' U;omega);have hlen:(st++[R.1]).length=st.length+1:=AS;have JA:Hid (l.ownsRow (w.heap.size+1) 115 2 (.S T 0 (st.length+1) CJ) (st++[R.1]).length (oc (st++[R.1]))):=by grind[Hid,ZK]
    clear D p SY SZ M9;go_roundw
    case rel=>exact⟨k+1,st++[R.1],AQ,by go_num,M.out,by rw[hlen,Z_.out],JA.out,S0.out⟩
    case measure=>simp[intOf];omega
   .have amO:R.2=false:=by grind
    have Q:Hid (AT n cQ=none):=by grind[Hid,AT,Z3]
    clear SW;go_wp2_with fail
    go_ret2
    exact⟨by rw[Q.out];exact⟨_,Y⟩,I.out.alloc AA _⟩
  .have xr:n.iT.take k=n.iT:=vbo AQ;have sm:Hid (lQ (gN cQ) n.iT=some st):=AA;have S:Hid (wr.ownsRow (w.heap.size+1) 115 2 u6 st.length (oc st)):=J;obtain⟨nH,Gu,yC⟩:=(xp.below Z8.out AQ).all;clear hrun J F xr xp;have aGN:Hid (st.length<=4):=AA;clear Z_ SV;go_wp2_with fail
   go_loopw [6,38] (λv i W=>∃(c:Nat)(a:g7),c<=n.e5.length/\i=.I c/\lQ (λg=>qn g cQ) (n.e5.take c)=some a/\a.length=c/\W.ownsRow (w.heap.size+1) 115 2 v (st++a).length (oc (st++a))/\c6 w W/\w.heap.size+1<=W.heap.size)
    (λ_ i _=>n.e5.length-(intOf i).toNat)
   case atStart=>exact⟨0,[],vax _,Y,Y,Y,by simpa using S.out,L.out,Z9⟩
   case round=>
    obtain⟨c,a,fp,rfl,C,B,sn,yD,aGO⟩:=hrel;have AW:Hid _:=C;have S1:Hid (c6 w wr):=yD;have amP:Hid _:=B;have H:Hid (wr.ownsRow (w.heap.size+1) 115 2 u6 (st++a).length (oc (st++a))):=sn;have o:Hid ((st++a).length<=10):=GB;clear C B sn yD nH Gu yC Z7;by_cases S2:c<n.e5.length
    .obtain⟨b,off,cap,t,hb,y,d1⟩:=amJ amL S2;simp only[vex,true_and]at t;obtain⟨rfl,rfl⟩:=t;have j:=bp.cy S1.out;have e0:=j _ _ _ y;have e1:=j _ _ _ d1;have eC:=ef e0;have d:=(bo.mono nf j hv).mono nf ((bp.refl wr).alloc (.cells #[.I n.e5[c].1,.I n.e5[c].2] 31));clear j y d1;go_wp2_with fail
     refine(amI n.e5[c] cQ K _ d).mono ?_;rintro e w1 ⟨rfl,h⟩;have r:Hid (w1.ownsRow (w.heap.size+1) 115 2 u6 (st++a).length (oc (st++a))):=M1 (H.out.alloc _) h;have amN:w.heap.size+1<=w1.heap.size:=by have:=h.size;simp at this;omega
     have I:Hid (c6 w w1):=Below.step h (S1.out.alloc AQ _) BA;clear h d e0 e1;generalize z:qn n.e5[c] cQ=R at *;have E:Hid _:=z;clear z;by_cases SW:R.2=true
     .have M:Hid (lQ (λg=>qn g cQ) (n.e5.take (c+1))=some (a++[R.1])):=by have:=Z4 (f:=λg=>qn g cQ) S2 AW.out (by rw[E.out];grind);rw[E.out]at this;exact this
      have m:=(ag.new (w1.alloc (.cells #[.I R.1.1,.I R.1.2] 115)) #[.I R.1.1,.I R.1.2] 115);rw[show(w1.alloc (.cells #[.I R.1.1,.I R.1.2] 115)).heap.size=w1.heap.size+1 by simp]at m;have O:Hid _:=ZM m;have N:Hid _:=(r.out.alloc (.cells #[.I R.1.1,.I R.1.2] 115)).alloc (.cells #[.I R.1.1,.I R.1.2] 115);have AU:Hid (((w1.alloc (.cells #[.I R.1.1,.I R.1.2] 115)).alloc (.cells #[.I R.1.1,.I R.1.2] 115)).heap.size=w1.heap.size+1+1):=BB;have AV:Hid (w.heap.size+1<=((w1.alloc (.cells #[.I R.1.1,.I R.1.2] 115)).alloc (.cells #[.I R.1.1,.I R.1.2] 115)).heap.size):=GB;have SX:Hid (∀g,u6.ownBlock=some g->w.heap.size+1<=g):=λg hg=>(r.out.lt g hg).1;clear m;generalize hq:(st++a).length=q at *;have mi:Hid _:=hq;clear hq;go_wp2_with (at_builtin;refine Gr SH _ Ao _ _ Ao (w.heap.size+1) u6 q (oc (st++a)) Ao N.out (w1.heap.size+1) 1 1 _ Ao Y O.out (ZN _ _) AQ GL GL AV.out (w1.heap.size+1+1) AU.out ?_;intro T CJ l SY p SZ M9)
      have D:=(I.out.alloc AQ (.cells #[.I R.1.1,.I R.1.2] 115)).alloc BA (.cells #[.I R.1.1,.I R.1.2] 115);have S0:Hid (c6 w l):=D.grown p BA (λk' U=>by have:=SX.out k' U;omega);have Z:w.heap.size+1<=l.heap.size:=by have:=p.size;simp at this;omega
      have hlen:(st++(a++[R.1])).length=q+1:=by rw[<-mi.out];grind
      have JA:Hid (l.ownsRow (w.heap.size+1) 115 2 (.S T 0 (q+1) CJ) (st++(a++[R.1])).length (oc (st++(a++[R.1])))):=by grind[Hid,ZK]
      clear D p SY SZ M9;go_roundw
      case rel=>exact⟨c+1,a++[R.1],AQ,by go_num,M.out,by simp;exact amP.out,JA.out,S0.out,Z⟩
      case measure=>simp[intOf];omega
     .have amO:R.2=false:=by grind
      have Q:Hid (AT n cQ=none):=by grind[Hid,AT,Z3]
      clear SW;go_wp2_with fail
      go_ret2
      exact⟨by rw[Q.out];exact⟨_,Y⟩,I.out.alloc AQ _⟩
    .have X:n.e5.take c=n.e5:=vbo AQ;have aGP:Hid (lQ (λg=>qn g cQ) n.e5=some a):=AA;have fh:Hid (hJ wr u6 (st++a)/\fM 115 wr u6):=⟨hJ.CE H.out GL,fM.CE H.out⟩;obtain⟨q9,oO,rfl⟩:=mg H.out;have V:Hid (AT n cQ=if 1<=(st++a).length/\(st++a).length<=8 then some (st++a)else none):=by grind[Hid,AT]
     clear X;generalize hq:(st++a).length=q at *;have mi:Hid _:=hq;clear hq;go_wp2_with (go_at_call 63;refine(ami _ _ _ _).mono ?_;rintro e l ⟨rfl,rfl⟩)
     go_ret2
     refine⟨?_,S1.out⟩;rw[V.out];by_cases hq:1<=q/\q<=8
     .rw[vca hq];refine⟨_,?_,fh.out⟩;simp;omega
     .rw[vby hq];refine⟨.slice q9 q oO,?_⟩;simp;omega
end
variable{o:Option (List (Int×Int))}
section
attribute [local go_sem ↓] Go.wp_at_zero Go.wp_at_succ
def aac(w:aR)(rd:uan)(x:g7):Prop:=∃v,rd 0=some v/\hJ w v x
def amT:p_ aac:=λ_ _ _ _ _ hk a⟨v,h0,h⟩=>⟨v,a _ _ h0,h.mono nf hk⟩
abbrev GC(w:aR):=bo w 1 aac
attribute [local go_sem ↓] Go.wp_at_zero Go.wp_at_succ
def M_(w:aR)(v:Value)(ok:Bool)(o:Option (List (Int×Int))):Prop:=
 match o with
 |some l=>ok=true/\hJ w v l/\fM 115 w v
 |none=>ok=false
theorem CH.shape{e}(h:CH w e o):∃v ok,e=.returned (.tuple #[v,.bool ok])/\M_ w v ok o:=by
 cases o with
 |none=>obtain⟨v,h⟩:=h;exact⟨v,false,h,Y⟩
 |some l=>obtain⟨v,h,hv⟩:=h;exact⟨v,true,h,Y,hv⟩
def M_.ret{ok}(h:M_ w v ok o):CH w (.returned (.tuple #[v,.bool ok])) o:=by cases o with|none=>simp[M_]at h;subst h;exact⟨v,Y⟩|some l=>obtain⟨h,hv⟩:=h;subst h;exact⟨v,Y,hv⟩
def amU{dk:List (List (Int×Int))}(h:GC w v dk){k:Nat}(hk:k<dk.length):
 ∃b off cap a c,v=.S b off dk.length cap/\b<w.heap.size/\w.cell? (.a b (off+k))=some (.slice a dk[k].length c)/\hJ w (.slice a dk[k].length c) dk[k]:=by
 obtain⟨f,cap,rfl,e,d⟩:=h;obtain⟨b,off,rfl,v,h0,hv⟩:=d k hk;simp at h0;obtain⟨a,c,rfl,-⟩:=hv.shape;exact⟨b,off,cap,a,c,Y,ef h0,h0,hv⟩
def amV(h:CB w v ts){k}(hk:k<ts.length):
 ∃b off cap a c,v=.S b off ts.length cap/\b<w.heap.size/\w.cell? (.a b (off+k))=some (.slice a ts[k].length c)/\n8 w (.slice a ts[k].length c) ts[k]:=by
 obtain⟨f,cap,rfl,e,d⟩:=h;obtain⟨b,off,v,rfl,h0,hv⟩:=Z1 d hk;obtain⟨a,c,rfl,-⟩:=hv.shape;exact⟨b,off,cap,a,c,Y,ef h0,h0,hv⟩
def amW(bs p:Nat)(b:Int)(eo:Value)(ts:List (List a9))(f g j aa:uag)(le lk lo oh ce h co ca:Nat)(w:aR)(o:w.cell? (.a bs 0)=some eo)(ht:CB w eo ts)(r:p<ts.length)(y:ts[p].length<=8):
 Calls vfc 33 #[.P bs 0,.agg #[.I 1,.I p,.I b,.slice f le ce,.slice g lk h,.slice j lo co,.slice aa oh ca]] w λe w'=>CH w' e (some (q_ ts[p]))/\c6 w w':=by
 obtain⟨gF,k,ct,a,c,rfl,v,A,n⟩:=amV ht r;have B:=ef o;have x:(0:Int)<=(p:Int):=AQ;have z:(p:Int)<(ts.length:Int):=AQ;have m:=((bp.refl w).alloc (.cells #[.I 1,.I p,.I b,.slice f le ce,.slice g lk h,.slice j lo co,.slice aa oh ca] 35)).drew;have d:=bo.mono si m n;have HC:Hid _:=d;have l:=((vaa w.heap.size w).alloc JR (.cells #[.I 1,.I p,.I b,.slice f le ce,.slice g lk h,.slice j lo co,.slice aa oh ca] 35)).drew;have t:Hid _:=l;clear m n d ht l;go_enter (vez func33),ntmps33
 go_wp2_with fail
 go_region_held3 (λW=>W.cell? (.a bs 0)=some (.S gF k ts.length ct)/\W.cell? (.a w.heap.size 1)=some (.I p)/\W.cell? (.a gF (k+p))=some (.slice a ts[p].length c))
  ((go_split_ands;refine⟨?_,?_,?_⟩<;>first|(exact(bp.cy i) _ _ _ AA)|(go_keep;done)))
  (first|(go_at_call 42;refine(amz ts[p] _ _ HC.out AQ).mono ?_;rintro e w1 ⟨v1,rfl,q,u,i⟩))
 have s:Hid (c6 w w1):=Below.step i t.out AS;clear i;go_wp2_with fail
 go_ret2
 exact⟨⟨_,Y,q,u⟩,s.out⟩
def kU(op a:Int)(ka:uag)(br kc:Nat)(bZ:uag)(n gc:Nat):Array Value:=#[.I op,.I a,.I 0,.N,.slice ka br kc,.N,.slice bZ n gc]
def jN:List (Int×Int):=[(1,-1),(1,1),(2,2),(3,1),(4,3)]
def GF:List (Int×Int):=[(1,0),(1,0),(2,2),(3,0)]
def mF:List (Int×Int):=[(1,0),(1,0),(1,0),(2,2),(1,0),(3,0)]
def Na:ng:=⟨5,0,0,[],[0],[],jN⟩
def amX:AT Na GF=some mF:=by decide
def amY(bs:Nat)(ka bZ:uag)(b gc:Nat)(eD:Value)(dk:List (List (Int×Int)))(w:aR)(hk:h5 w (.slice ka 1 b) [0])(hg:M0 w (.slice bZ 5 gc) jN)(l:w.cell? (.a bs 2)=some eD)(ht:GC w eD dk)(n:0<dk.length)(j:dk[0]=GF):
 Calls vfc 33 #[.P bs 0,.agg (kU 5 0 ka 1 b bZ 5 gc)] w λe w'=>CH w' e (some mF)/\c6 w w':=by
 obtain⟨gF,i,ct,a,c,rfl,r,k,g⟩:=amU ht n;rw[j]at g k;have t:=ef l;have s:(0:Int)<(dk.length:Int):=AQ;unfold kU;have f:=((bp.refl w).alloc (.cells #[.I 5,.I 0,.I 0,.N,.slice ka 1 b,.N,.slice bZ 5 gc] 35)).drew;have d:Hid _:=amK Na (.N) (.slice ka 1 b) (.N) (.slice bZ 5 gc) _ GF _ ⟨bo.nil _ _ _,bo.mono q8 f hk,bo.nil _ _ _,bo.mono nf f hg⟩ AF AF (bo.mono nf f g);rw[amX]at d;unfold Z5 Na at d;have p:Hid _:=((vaa w.heap.size w).alloc JR (.cells #[.I 5,.I 0,.I 0,.N,.slice ka 1 b,.N,.slice bZ 5 gc] 35)).drew;clear f g ht hk hg j;simp only[vcc,show GF.length=4 from Y]at k d;go_enter (vez func33),ntmps33
 go_wp2_with fail
 go_region_held3 (λW=>W.cell? (.a bs 2)=some (.S gF i dk.length ct)/\W.cell? (.a w.heap.size 0)=some (.I 5)/\W.cell? (.a w.heap.size 1)=some (.I 0)/\W.cell? (.a w.heap.size 2)=some (.I 0)/\W.cell? (.a w.heap.size 3)=some (.N)/\W.cell? (.a w.heap.size 4)=some (.slice ka 1 b)/\W.cell? (.a w.heap.size 5)=some (.N)/\W.cell? (.a w.heap.size 6)=some (.slice bZ 5 gc)/\W.cell? (.a gF i)=some (.slice a 4 c))
  ((go_split_ands;refine⟨?_,?_,?_,?_,?_,?_,?_,?_,?_⟩<;>first|(exact(bp.cy h) _ _ _ G_)|(go_keep;done)))
  (first|(go_at_call 46;refine vdm d.out ?_;rintro e w1 ⟨⟨v1,rfl,m,q⟩,h⟩))
 have o:Hid (c6 w w1):=Below.step h p.out AS;clear h;go_wp2_with fail
 go_ret2
 exact⟨⟨_,Y,m,q⟩,o.out⟩
end
end b_
open RowKit av b_
variable{w w' w0 w2:aR}{bJ dM eD eo v:Value}{b bs cap g n q size:Nat}{cs:dX}{T e:uaa}{ts:List (List a9)}{ns:List ng}{dk:List (List (Int×Int))}{aX:uba}{vals xs:uai}
section
attribute [local go_sem ↓] Go.wp_at_zero Go.wp_at_succ
attribute [local go_sem ↓] Go.wp_at_zero Go.wp_at_succ
def ints_at{l:ubm}(h:h5 w v l){k:Nat}(hk:k<l.length):
 ∃b off cap,v=.S b off l.length cap/\b<w.heap.size/\w.cell? (.a b (off+k))=some (.I l[k]):=by
 obtain⟨d,cap,rfl,c,a⟩:=h;obtain⟨b,off,rfl,h0⟩:=a k hk;simp[sg]at h0;exact⟨b,off,cap,Y,ef h0,h0⟩
def h5.box(h:ag w b cs T)(xs:ubm)(cap:Nat)(a:xs.length<=9223372036854775807)(c:∀i(h:i<xs.length),cs[i]?=some (.I xs[i])):h5 w (.S b 0 xs.length cap) xs:=
 ⟨_,cap,Y,a,λi hi=>⟨b,0,Y,by simp[sg];rw[h.rules.1 i];grind⟩⟩
structure Nb(w:aR)(bs:Nat)(eo bJ eD dM:Value)(ts:List (List a9))(ns:List ng)(dk:List (List (Int×Int)))(aX:uba):Prop where
 b3:w.cell? (.a bs 0)=some eo
 c1:w.cell? (.a bs 1)=some bJ
 bt:w.cell? (.a bs 2)=some eD
 cF:w.cell? (.a bs 3)=some dM
 AX:CB w eo ts
 nodes:SC w bJ ns
 types:GC w eD dk
 taken:Jn w dM aX
theorem Nb.mono(hk:bp w w')(h:Nb w bs eo bJ eD dM ts ns dk aX):Nb w' bs eo bJ eD dM ts ns dk aX:=
 ⟨hk _ _ _ h.b3,hk _ _ _ h.c1,hk _ _ _ h.bt,hk _ _ _ h.cF,h.AX.mono MZ hk,h.nodes.mono SB hk,h.types.mono amT hk,h.taken.mono Sw hk⟩
def JB(h:ag w b cs T):w.shape? b=some (T,cs.size):=by grind[ag,World.shape?]
def fM.ne{a off c}(h:fM T w (.S b off n c))(hg:ag w g cs a)(d:T≠a):b≠g:=by rintro rfl;obtain⟨k,hk⟩:=h _ _ _ _ Y;rw[JB hg]at hk;grind
theorem bo.typed{aq:Type}{d}{R:aR->(Nat->Option Value)->aq->Prop}{xs:List aq}(h:bo w d R v xs)(l:∀rd a x,(∀j,a j=rd j)->R w rd x->R w' a x)(hk:∀b off n c,v=.S b off n c->∀o,w'.cell? (.a b o)=w.cell? (.a b o)):bo w' d R v xs:=by
 obtain⟨g,cap,rfl,e,f⟩:=h;refine⟨g,cap,Y,e,λi hi=>?_⟩;obtain⟨b,off,rfl,k⟩:=f i hi;grind
def hJ.yL{l:g7}(h:hJ w v l)(hk:∀b off n c,v=.S b off n c->w'.heap[b]?=w.heap[b]?):hJ w' v l:=by refine bo.typed h ?_ (λb off n c e o=>vba (w:=w) AA);intro rd f x d a;exact⟨by rw[d];exact a.1,by rw[d];exact a.2⟩
def h5.yL{l:ubm}(h:h5 w v l)(hk:∀b off n c,v=.S b off n c->w'.heap[b]?=w.heap[b]?):h5 w' v l:=by grind[bo.typed,World.cell?_of_block,sg]
def fM.yL(h:fM T w v)(hk:∀b off n c,v=.S b off n c->w'.heap[b]?=w.heap[b]?):fM T w' v:=by intro b off n c e;obtain⟨k,a⟩:=h b off n c e;grind[World.shape?]
structure Own(w0 w:aR)(bs:Nat)(eo bJ eD dM:Value)(ts:List (List a9))(ns:List ng)(dk:List (List (Int×Int)))(aX:uba)(vals:uai):Prop where
 below:c6 w0 w
 AX:CB w0 eo ts
 nodes:SC w0 bJ ns
 GG:w0.heap.size<=bs
 box:ag w bs #[eo,bJ,eD,dM] 84
 sr:w.ownsRow w0.heap.size 79 1 eD dk.length vals
 re:w.ownsRow w0.heap.size 4 1 dM aX.length (aX.map .bool)
 small:dk.length<=1000
 Nc:aX.length<=1000
 each:∀j(h:j<dk.length),∃v,vals[j]?=some v/\hJ w v dk[j]/\fM 115 w v
def Jn.CE{base:Nat}{l:uba}(h:w.ownsRow base e 1 v l.length (l.map .bool))(a:l.length<=9223372036854775807):Jn w v l:=by
 have b:=h;rcases b.2 with⟨rfl,h0⟩|⟨g,cap,bq,rfl,c⟩
 .grind[bo.nil]
 .refine⟨_,cap,Y,a,λi hi=>⟨g,0,Y,?_⟩⟩;simp[CA];grind[CD]
def GC.CE{base:Nat}{l:List (List (Int×Int))}(h:w.ownsRow base e 1 v l.length vals)(b:l.length<=9223372036854775807)(c:∀j(h:j<l.length),∃v,vals[j]?=some v/\hJ w v l[j]):GC w v l:=by
 have d:=h;rcases d.2 with⟨rfl,h0⟩|⟨g,cap,bq,rfl,a⟩
 .grind[bo.nil]
 .refine⟨_,cap,Y,b,λi hi=>⟨g,0,Y,?_⟩⟩;obtain⟨u,f,a⟩:=c i hi;refine⟨u,?_,a⟩;simp;grind[CD]
def Own.am0(h:Own w0 w bs eo bJ eD dM ts ns dk aX vals):Nb w bs eo bJ eD dM ts ns dk aX:=by have e:=h.box.rules.1;have c:=bp.cy h.below;have hs:=h.small;have f:=h.Nc;exact⟨AA,AA,AA,AA,h.AX.mono MZ c,h.nodes.mono SB c,GC.CE h.sr AQ (λj d=>let⟨v,a,b,_⟩:=h.each j d;⟨v,a,b⟩),Jn.CE h.re AQ⟩
theorem Own.call(h:Own w0 w bs eo bJ eD dM ts ns dk aX vals)(d:c6 w w'):Own w0 w' bs eo bJ eD dM ts ns dk aX vals:=
 ⟨h.below.trans (d.mono h.below.size),h.AX,h.nodes,h.GG,h.box.call d,M1 h.sr d,M1 h.re d,h.small,h.Nc,λj e=>let⟨v,a,b,c⟩:=h.each j e;⟨v,a,bo.mono nf (bp.cy d) b,c.call d⟩⟩
theorem am1{base}(h:w.ownsRow base e 1 (.S g 0 n cap) n xs)(d:q<n)u:(w.setCell ⟨g,q,none⟩ u).ownsRow base e 1 (.S g 0 n cap) n (xs.set q u):=by
 obtain⟨f,h2⟩:=h;rcases h2 with⟨h0,_⟩|⟨g',cap',bq,hv,c,hg,b,a,hs,ht⟩
 .grind
 .simp at hv;obtain⟨rfl,rfl⟩:=hv;refine⟨AA,.inr ⟨g,cap,bq.setIfInBounds q u,Y,c,?_,b,a,AA,?_⟩⟩
  .exact ag.set (show ag w g bq e from hg) q u
  .rw[Array.toList_setIfInBounds,List.take_set,ht]
def Own.take{gk tj l}(h:Own w0 w bs eo bJ eD (.S gk 0 tj l) ts ns dk aX vals)(hq:q<aX.length):
 Own w0 (w.setCell ⟨gk,q,none⟩ (.T)) bs eo bJ eD (.S gk 0 tj l) ts ns dk (aX.set q true) vals:=by
 have hok:=h.re;have i:tj=aX.length:=by
  rcases hok.2 with⟨h0,_⟩|⟨g,c,bq,h0,_⟩
  .grind
  grind
 subst i;obtain⟨f,s⟩:=hok.lt gk Y;obtain⟨bq,k⟩:∃bq,ag w gk bq 4:=by
  rcases hok.2 with⟨h0,_⟩|⟨g,c,bq,h0,_,hg,_⟩
  .grind
  .simp only[vex,vbm,Addr.mk.injEq,and_true]at h0;obtain⟨rfl,-,-⟩:=h0;exact⟨bq,hg⟩
 have m:∀{T:uaa}{v:Value},fM T w v->T≠4->∀b off n c,v=.S b off n c->(w.setCell ⟨gk,q,none⟩ (.T)).heap[b]?=w.heap[b]?:=by intro T v hv r b off n c e;subst e;exact vat _ _ _ _ (hv.ne k r)
 refine⟨h.below.setCell f _,h.AX,h.nodes,h.GG,?_,?_,?_,h.small,by simpa using h.Nc,?_⟩
 .refine h.box.fg ?_ _;rintro rfl;have h1:=JB h.box;rw[JB k]at h1;grind
 .refine⟨h.sr.1,?_⟩;rcases h.sr.2 with hn|⟨g,cap,d,e,p,hg,rest⟩
  .grind
  .refine .inr ⟨g,cap,d,e,p,?_,rest⟩;rw[vat _ _ _ _ (show g≠gk from ?_)]
   .exact hg
   .rintro rfl;grind[ag]
 .grind[am1,List.map_set]
 .intro j o;obtain⟨v,a,b,c⟩:=h.each j o;exact⟨v,a,b.yL AA,c.set _ _⟩
def am5{base}(h:w.ownsRow base e size (.S g 0 n cap) n xs):∃bq,ag w g bq e:=by
 rcases h.2 with⟨h0,_⟩|⟨g',c,bq,h0,_,hg,_⟩
 .grind
 .simp only[vex,vbm,Addr.mk.injEq,and_true]at h0;obtain⟨rfl,-,-⟩:=h0;exact⟨bq,hg⟩
theorem xt{base}(h:w.ownsRow base e size v n xs)(hg:v.ownBlock=some g):∃bq,ag w g bq e:=by
 rcases h.2 with⟨rfl,_⟩|⟨g',c,bq,rfl,_,a,_⟩
 .simp[Value.ownBlock]at hg
 .simp[Value.ownBlock]at hg;subst hg;exact⟨bq,a⟩
def ag.ne{a ca cb d c}(f:ag w a ca d)(e:ag w b cb c)(h:d≠c):a≠b:=by rintro rfl;have:=JB f;rw[JB e]at this;grind
theorem GH{base}(h:w.ownsRow base e size v n xs)(hk:∀g,v.ownBlock=some g->w'.heap[g]?=w.heap[g]?):w'.ownsRow base e size v n xs:=by
 refine⟨h.1,?_⟩;rcases h.2 with hn|⟨g,cap,bq,rfl,a,b,rest⟩
 .grind
 .exact .inr ⟨g,cap,bq,Y,a,by rw[hk g Y];grind,rest⟩
def Own.am6(h:Own w0 w bs eo bJ eD dM ts ns dk aX vals){v1:Value}{l:g7}(hv:hJ w v1 l)(q:fM 115 w v1)(u:dk.length+1<=1000)(H:w2.ownsRow w0.heap.size 79 1 (.S g 0 (dk.length+1) cap) (dk.length+1) (vals++[v1]))(o:(w.alloc (.cells #[v1] 79)).grownBy w2 eD.ownBlock):
 Own w0 (w2.setCell ⟨bs,2,none⟩ (.S g 0 (dk.length+1) cap)) bs eo bJ (.S g 0 (dk.length+1) cap) dM ts ns (dk++[l]) aX (vals++[v1]):=by
 have h1:=h.call ((vaa w.heap.size w).alloc AA (.cells #[v1] 79));have F:hJ (w.alloc (.cells #[v1] 79)) v1 l:=bo.mono nf ((bp.refl w).alloc _) hv;have I:fM 115 (w.alloc (.cells #[v1] 79)) v1:=q.call ((vaa w.heap.size w).alloc AA _);generalize w.alloc (.cells #[v1] 79)=w1 at *;clear h hv q;have z:∀k,eD.ownBlock=some k->w0.heap.size<=k:=λk hk=>(h1.sr.lt k hk).1;have t:c6 w0 w2:=h1.below.grown o h1.below.size z;have hst:∀{T:uaa}{b:Nat}{cs:dX},ag w1 b cs T->T≠79->w2.heap[b]?=w1.heap[b]?:=by intro T b cs i m;refine o.block b i.lt (λe=>?_);obtain⟨bq,f⟩:=xt h1.sr e.symm;exact i.ne f m Y
 have r:ag w2 bs #[eo,bJ,eD,dM] 84:=by have:=hst h1.box AF;unfold ag;rw[this];exact h1.box
 have E:∀{T:uaa}{b:Nat}{cs:dX},ag w2 b cs T->T≠84->(w2.setCell ⟨bs,2,none⟩ (.S g 0 (dk.length+1) cap)).heap[b]?=w2.heap[b]?:=by intro T b cs i m;exact vat _ _ _ _ (i.ne r m)
 have D:∀{v:Value}{l:g7},hJ w1 v l->fM 115 w1 v->hJ (w2.setCell ⟨bs,2,none⟩ (.S g 0 (dk.length+1) cap)) v l/\fM 115 (w2.setCell ⟨bs,2,none⟩ (.S g 0 (dk.length+1) cap)) v:=by
  intro v l x p;have hk:∀b off n c,v=.S b off n c->(w2.setCell ⟨bs,2,none⟩ (.S g 0 (dk.length+1) cap)).heap[b]?=w1.heap[b]?:=by
   intro b off n c e;obtain⟨k,hk⟩:=p b off n c e;obtain⟨cs,d⟩:∃cs fr,w1.heap[b]?=some (.cells cs 115 fr):=by simp[World.shape?]at hk;grind
   obtain⟨fr,d⟩:=d;have B:w2.heap[b]?=w1.heap[b]?:=by refine o.block b AA (λe=>?_);obtain⟨bq,f⟩:=xt h1.sr e.symm;grind[ag]
   rw[vat _ _ _ _ (show b≠bs from ?_),B];rintro rfl;grind[ag]
  exact⟨x.yL hk,p.yL hk⟩
 refine⟨t.setCell h1.GG _,h1.AX,h1.nodes,h1.GG,r.set 2 _,?_,?_,AA,h1.Nc,?_⟩
 .grind[GH,xt]
 .refine GH h1.re (λg' s=>?_);obtain⟨bq,f⟩:=xt h1.re s;have h2:=hst f AF;have A:ag w2 g' bq 4:=by grind[ag]
  grind
 .intro j y;rw[vcl,List.length_singleton]at y;have tm:vals.length=dk.length:=by have:=h1.sr.1;omega
  by_cases C:j<dk.length
  .obtain⟨v,a,b,c⟩:=h1.each j C;grind
  grind
def Own.am8(h:Own w0 w bs eo bJ eD dM ts ns dk aX vals)(s:aX.length+1<=1000)(B:w2.ownsRow w0.heap.size 4 1 (.S g 0 (aX.length+1) cap) (aX.length+1) (aX.map .bool++[.F]))(m:(w.alloc (.cells #[.F] 4)).grownBy w2 dM.ownBlock):
 Own w0 (w2.setCell ⟨bs,3,none⟩ (.S g 0 (aX.length+1) cap)) bs eo bJ eD (.S g 0 (aX.length+1) cap) ts ns dk (aX++[false]) vals:=by
 have h1:=h.call ((vaa w.heap.size w).alloc AA (.cells #[.F] 4));generalize w.alloc (.cells #[.F] 4)=w1 at *;clear h;have x:∀k,dM.ownBlock=some k->w0.heap.size<=k:=λk hk=>(h1.re.lt k hk).1;have r:c6 w0 w2:=h1.below.grown m h1.below.size x;have hst:∀{T:uaa}{b:Nat}{cs:dX},ag w1 b cs T->T≠4->w2.heap[b]?=w1.heap[b]?:=by intro T b cs i l;refine m.block b i.lt (λe=>?_);obtain⟨bq,f⟩:=xt h1.re e.symm;exact i.ne f l Y
 have p:ag w2 bs #[eo,bJ,eD,dM] 84:=by have:=hst h1.box AF;unfold ag;rw[this];exact h1.box
 have A:∀{T:uaa}{b:Nat}{cs:dX},ag w2 b cs T->T≠84->(w2.setCell ⟨bs,3,none⟩ (.S g 0 (aX.length+1) cap)).heap[b]?=w2.heap[b]?:=by intro T b cs i l;exact vat _ _ _ _ (i.ne p l)
 refine⟨r.setCell h1.GG _,h1.AX,h1.nodes,h1.GG,p.set 3 _,?_,?_,h1.small,AA,?_⟩
 .refine GH h1.sr (λg' q=>?_);obtain⟨bq,f⟩:=xt h1.sr q;have h2:=hst f AF;have y:ag w2 g' bq 79:=by grind[ag]
  grind
 .grind[GH,xt]
 .intro j u;obtain⟨v,a,t,o⟩:=h1.each j u;have hk:∀b off n c,v=.S b off n c->(w2.setCell ⟨bs,3,none⟩ (.S g 0 (aX.length+1) cap)).heap[b]?=w1.heap[b]?:=by
   intro b off n c e;obtain⟨k,hk⟩:=o b off n c e;obtain⟨cs,d⟩:∃cs fr,w1.heap[b]?=some (.cells cs 115 fr):=by simp[World.shape?]at hk;grind
   obtain⟨fr,d⟩:=d;have z:w2.heap[b]?=w1.heap[b]?:=by refine m.block b AA (λe=>?_);obtain⟨bq,f⟩:=xt h1.re e.symm;grind[ag]
   rw[vat _ _ _ _ (show b≠bs from ?_),z];rintro rfl;grind[ag]
  exact⟨v,a,t.yL hk,o.yL hk⟩
def Own.am9(h:Own w0 w bs eo bJ eD dM ts ns dk aX vals){o}(b:(w.alloc o).grownBy w2 eD.ownBlock):ag w2 bs #[eo,bJ,eD,dM] 84:=by have h1:=h.call ((vaa w.heap.size w).alloc AA o);refine h1.box.grown b (λg hg=>?_);obtain⟨bq,a⟩:=xt h1.sr hg;exact h1.box.ne a AF
def Own.am_(h:Own w0 w bs eo bJ eD dM ts ns dk aX vals){o}(b:(w.alloc o).grownBy w2 dM.ownBlock):ag w2 bs #[eo,bJ,eD,dM] 84:=by have h1:=h.call ((vaa w.heap.size w).alloc AA o);refine h1.box.grown b (λg hg=>?_);obtain⟨bq,a⟩:=xt h1.re hg;exact h1.box.ne a AF
def Nd{x}(h:ag w b #[x] T):∀j u,([x]:uai)[j]?=some u->w.cell? (.a b j)=some u:=by intro j u a;rw[h.rules.1 j];grind
def mj(aX:uba)(cs:ubm):List Bool:=cs.foldl (λt c=>t.set c.toNat true) aX
theorem aag aX cs:(mj aX cs).length=aX.length:=by induction cs generalizing aX with|nil=>rfl|cons c r a=>simp_all[mj]
theorem ana aX cs c:mj aX (cs++[c])=(mj aX cs).set c.toNat true:=by simp[mj]
end
namespace b_
open RowKit av
@[simp] theorem aGT:dc true 58:=vfb func58
@[simp] theorem aGU:dc true 38:=vfb func38
theorem anb(s:ByteArray)(w:aR)(hs:s.size<=1000000):
 Calls vfc 58 #[.string s] w λe w'=>e=.returned (.string s)/\c6 w w':=by
 by_cases h0:s.size=0
 .have l:s=⟨#[]⟩:=ByteArray.ext (Array.eq_empty_of_size_eq_zero h0);subst l;go_enter (vez func58),ntmps58
  go_wp2
  go_ret
  exact⟨Y,vaa _ _⟩
 obtain⟨i,hi,m,hsz,z⟩:=vce (show(prog.info? 5).map (λi=>(i.zero,i.size,i.bytes))=some (some (.int .u8 0),1,1)from AB);have f:vfc.underlying 206=some (.slice 5):=(tf _ _ _).trans underlying206;have h:vfc.underlying 207=some (.pointer 5):=(tf _ _ _).trans underlying207;have hin:vfc.info? 5=some i:=hi;obtain⟨A,o,v⟩:∃A:Array Value,A=madeCells (Value.int .u8 0).cells ((s.size:Int).toNat*i.size)/\A.size=s.size:=⟨_,Y,by grind[size_madeCells]⟩;have y:∀W:aR,(Instr.makeSlice 206 (.I (s.size:Int)) (.I (s.size:Int))).run vfc W=.ok (.S W.heap.size 0 s.size s.size) (W.alloc (.cells A 5)):=λW=>by have:=run_make (P:=ae prog true) W 206 5 i _ f hin m .i64 .i64 s.size s.size AQ (Int.le_refl _) AA AQ;grind
 have a:=heap_alloc_new w (.cells A 5);have d:=Lib.run_copy_row_string (P:=ae prog true) (w.alloc (.cells A 5)) 206 9 3 5 w.heap.size 0 s.size s.size s A 5 f AA a JR AQ;obtain⟨B,g,c⟩:∃B:Array Value,B=(A.toList.take 0++Lib.byteCells s.data.toList++A.toList.drop (0+s.size)).toArray/\B.toList=Lib.byteCells s.data.toList:=⟨_,Y,by
  simp_all⟩
 rw[<-g]at d;have t:((w.alloc (.cells A 5)).setRow w.heap.size B).heap[w.heap.size]?=some (.cells B 5 (0,0)):=setRow_heap _ _ A _ 5 (0,0) a;have u:B.size=s.size:=by grind[Lib.byteCells_length,Lib.size_eq]
 have b:=Lib.run_unsafeString_row (P:=ae prog true) ((w.alloc (.cells A 5)).setRow w.heap.size B) 207 3 9 5 h (by grind[Program.cellsOf]) w.heap.size B.size (by grind[World.shape?]) s.data.toList (λe=>h0 (by rw[Lib.size_eq,e];rfl)) BB (by grind[Lib.size_eq])
  (λj x n=>Lib.cells_of_row t B.size j _ (by rw[vbo AA,c];simp[Lib.byteCells,n]))
 rw[<-Lib.size_eq]at b;clear o g a;go_enter (vez func58),ntmps58
 go_wp2
 go_ret
 have r:c6 w (w.alloc (.cells A 5)):=(vaa _ w).alloc JR _;have q:Below w.heap.size (w.alloc (.cells A 5)) ((w.alloc (.cells A 5)).setRow w.heap.size B):=⟨Y,Y,Y,AS,λk hk=>setRow_other _ _ _ _ AQ⟩;exact⟨Y,Lib.below_freeze (r.trans q) (p:=⟨w.heap.size,0,none⟩) JR _⟩
def ang(s:ByteArray)(w:aR)(hs:s.size<=1000000):
 Calls vfc 38 #[.string s] w λe w'=>e=.returned (.string s)/\c6 w w':=by
 go_enter (vez func38),ntmps38
 go_wp2
 refine(anb s w hs).mono ?_;rintro e w' ⟨rfl,a⟩;go_wp2
 go_ret
 simp_all
end b_
namespace bd
open RowKit Shelf av
variable{W W':aR}
section
attribute [local go_sem] Oper.semAt_some
def _root_.Go.Proofs.YtnomloiacicoaaaGreat.vfa{P:cE}{f:FuncId}{fn:Func}(h:P.funcs[f]?=some fn)(hk:gE P false fn=true:=by decide+kernel):(ae P false).funcs[f]?=some fn:=bb (upd:=false) h hk
abbrev _root_.Go.Proofs.YtnomloiacicoaaaGreat.vfd(P:cE:=prog):cE:=ae P false
def aai:vfd.funcs[(110:Nat)]?=some f110:=vfa func110
def Typed(n₀:Nat)(e t:uaa)(W W':aR):Prop:=∀(b:Nat)(c:dX)(u:uaa)(z:ubr),W.heap[b]?=some (Obj.cells c u z)->(b<n₀\/u≠e/\u≠t)->W'.heap[b]?=some (Obj.cells c u z)
def Typed.keep{n₀ e t}(h:gP W W'):Typed n₀ e t W W':=λb c u z x _=>h.cells b c u z x
def S9{w1:aR}{n₀ B:Nat}{t e:uaa}{size:Nat}{v:Value}(v':Value){k:Nat}{xs:uai}{tmp:Obj}(hv:Boxed W B t v)(f:W.ownsRow n₀ e size v k xs)(a:(W.alloc tmp).grownBy w1 v.ownBlock)(l:n₀<=B):
 Typed n₀ e t W (w1.setCell ⟨B,0,none⟩ v'):=by
 intro b c u z x i;have j:b≠B:=by rintro rfl;rw[show W.heap[b]?=_ from hv]at x;grind
 have d:=lR x;have h1:some b≠v.ownBlock:=by
  rcases f.2 with⟨rfl,_⟩|⟨g,cap,bq,rfl,m,hg,_⟩
  .simp[Value.ownBlock]
  .intro h;simp[Value.ownBlock]at h;grind
 have h2:=a.block b BA h1;simp_all[vcw,World.setCell,vbh,Ne.symm]
structure JH(n₀:Nat)(Row:uau):Prop where
 shape:∀t W x,Row t W x->∃p cw pc q fV cg,x=.agg #[.slice p cw pc,.slice q fV cg]
 keep:∀t W W' x,Row t W x->Typed n₀ 77 67 W W'->Row t W' x
def two(xs:uav):List Value:=xs.flatMap λp=>[p.1,p.2]
def aaj xs:(two xs).length=xs.length*2:=by induction xs with|nil=>rfl|cons a l b=>grind[two]
theorem aak xs p:two (xs++[p])=two xs++[p.1,p.2]:=by simp[two]
structure yO(Row:uau)(n₀ t:Nat)(v:Value)(W:aR):Prop where
 own:∃xs:List (Value×Value),xs.length=t/\W.ownsRow n₀ 77 2 v t (two xs)/\∀j(h:j<xs.length),Row j W (.agg #[xs[j].1,xs[j].2])
theorem Ng:(prog.info? 77).map (λi=>(i.zero,i.size,i.bytes))=some (some (.agg #[.N,.N]),2,48):=by kernel_rfl
def yO.oU{Row n₀ t}(c:JH n₀ Row){v}(h:yO Row n₀ t v W)(hk:gP W W'):yO Row n₀ t v W':=by obtain⟨xs,h1,h2,h3⟩:=h;refine⟨xs,h1,⟨h2.1,h2.2.imp_right ?_⟩,λj a=>c.keep _ _ _ _ (h3 j a) (.keep hk)⟩;rintro⟨g,cap,bq,a1,e,d,b⟩;exact⟨g,cap,bq,a1,e,hk.cells _ _ _ _ d,b⟩
def CP{l d o}(h:W.heap[l]?=some (.deferred d)):gP W (W.putObj l o):=
 ⟨AS,λb c e z x=>by
  grind[World.putObj_heap_other]⟩
def hM(p:Prop):Prop:=p
def qq{p}(h:hM p):p:=h
def ank{Row}{gf:Nat}{lb}{N:Nat}(a5:N<=300)w(d:JH w.heap.size Row)(F:∀args w,(callFunc gf args).run vfd w=.ok (.enter gf args) w)(I:CM 2 vfd gf lb Row N w.heap.size w):
 Calls vfd 110 #[.func (.func gf) #[] lb] w λe w'=>∃v,e=.returned v/\yO Row w.heap.size N v w'/\c6 w w':=by
 refine(callsIn_wide (n:=3)).1 ?_;refine vdi aai Y trivial ?_;simp[vbk];gi_wp2
 have T:Boxed (w.alloc (.cells #[.N] 67)) w.heap.size 67 (.N):=Boxed.new w _ _;refine aah (n:=3) (gf:=gf) (lb:=lb) (w0:=w) (n₀:=w.heap.size) (N:=N) (Row:=Row) Y F I ((vaa _ w).alloc JR _) AS (λ_=>False) AA
  (λt W=>∃v,Boxed W w.heap.size 67 v/\yO Row w.heap.size t v W)
  (λt W W' h hk _=>by
   obtain⟨v,h1,h2⟩:=h;exact⟨v,hk.cells _ _ _ _ h1,h2.oU d hk⟩)
  ⟨_,T,⟨[],Y,vcg _ _ _ _,AA⟩⟩
  (λt x a' W=>∃c p cw pc q a b,W.heap[c]?=some (Obj.cells #[.slice p cw pc,.slice q a b] 77 (0,0))/\x=.agg #[.slice p cw pc,.slice q a b]/\Row t W x/\∃z,a'={tmps:=#[.func (.func gf) #[] lb,undef,.N,.P w.heap.size 0,.P c 0,.func (.func gf) #[] lb,z,.U,.U,.U,.U,.U,.U,.U,.U],defers:=[]})
  (λt x a' W W' h hk _=>by
   obtain⟨c,p,cw,pc,q,a,b,h1,h2,h3,h4⟩:=h;exact⟨c,p,cw,pc,q,a,b,hk.cells _ _ _ _ h1,h2,d.keep _ _ _ _ h3 (.keep hk),h4⟩)
  ?assign ?body ?done
 case assign=>
  rintro l t x W K- -f hK;obtain⟨p,cw,pc,q,a,b,rfl⟩:=d.shape _ _ _ f;gi_wp2
  have A:c6 W (W.alloc (.cells #[.slice p cw pc,.slice q a b] 77)):=(vaa _ W).alloc JR _;exact hK _ _ A ⟨W.heap.size,p,cw,pc,q,a,b,vbb W _,Y,d.keep _ _ _ _ f (.keep (.below A)),_,Y⟩
 case body=>
  rintro l t x a' W ⟨v,hv,⟨xs,hlen,f,ss⟩⟩ P ⟨c,p,cw,pc,q,a,b,r,rfl,O,z,rfl⟩ J;obtain⟨M,hi,E,H,D⟩:=vce Ng;have i:=hv.cell;have C:W.cell? (.a c 0)=some (.slice p cw pc):=Hu;have R:W.cell? (.a c 1)=some (.slice q a b):=Hu;gi_wp2_with (gi_at_builtin;apply qq)
  unfold hM;refine wpListIn_append_own _ Y _ _ 67 Y w.heap.size 77 M _ 2 48 ((tf _ _ _).trans underlying67) hi E H D Y AF v t (two xs) Y (f.alloc _) ⟨W.heap.size,0,none⟩ 1 1 [.slice p cw pc,.slice q a b] Y Y ?cel ?one Dv AQ BA ?_
  case cel=>
   have lP:=vbb W (.cells #[.slice p cw pc,.slice q a b] 77);intro j u g;rcases j with _ | _ |j
   .simp at g;subst g;show World.cell? _ ⟨W.heap.size,0,none⟩=_;simp_all
   .simp at g;subst g;show World.cell? _ ⟨W.heap.size,1,none⟩=_;simp_all
   grind
  case one=>
   intro u y;simp at y;rcases y with rfl|rfl<;>rfl
  intro v' w1 m k _;obtain⟨g',cap',rfl⟩:=ven m;obtain⟨o,L,V,fp,cp⟩:=hv.appended AF f J JR m k;have s:=S9 (.S g' 0 (t+1) cap') hv f k JR;have Z:=o.cell;have X:=o.frozen;have GK:¬(300:Int)<(t:Int)+1:=AQ;clear m k f hv i C R r o;gi_wp2
  refine⟨_,L,⟨xs++[(.slice p cw pc,.slice q a b)],AA,?_,λj g=>?_⟩⟩
  .grind[aak]
  .by_cases B:j<xs.length
   .rw[vcp B];exact d.keep _ _ _ _ (ss j B) s
   .have U:j=xs.length:=by grind
    subst U;simp;rw[hlen];exact d.keep _ _ _ _ O s
 case done=>
  rintro W ⟨v,hv,Q⟩ S hK;have i:=hv.cell;gi_wp2
  refine⟨AS,.inl ⟨_,_,Y,veb hK,?_⟩⟩;refine⟨_,results_tmp Y _ _ _,v,Y,Q.oU d (CP hK),?_⟩;exact(((vaa _ w).alloc JR _).trans S).trans (tn _ AS)
end
structure bz where
 bR:Bool
 num:Int
 dg:Int
 text:ByteArray
abbrev h8(d:bz):Value:=.agg #[.bool d.bR,.I d.num,.I d.dg,.string d.text]
def g5:ByteArray:=⟨#[]⟩
def h9:bz:=⟨true,0,0,g5⟩
def Nh(_:aR)(rd:uan)(d:bz):Prop:=
 rd 0=some (.bool d.bR)/\rd 1=some (.I d.num)/\rd 2=some (.I d.dg)/\rd 3=some (.string d.text)/\d.text.size<=9223372036854775807
abbrev oi(w:aR):=bo w 4 Nh
def nk(c:a9)(i:Nat):bz:=
 if c.ff.getD i false then h9 else if c.kind=3 then⟨false,0,0,c.iJ.getD i g5⟩else⟨false,c.im.getD i 0,c.dg,g5⟩
def aal:vfd.funcs[(185:Nat)]?=some f185:=vfa func185
@[simp] theorem aG2:dc false 185:=cR aal AD
theorem Ni:vfd.funcs[(208:Nat)]?=some f208:=vfa func208
@[simp] theorem aG3:dc false 208:=cR Ni AD
theorem vA(w:aR):Calls vfd 185 #[] w λe w'=>e=.returned (h8 h9)/\w'=w.alloc (.cells #[.T,.I 0,.I 0,.E] 94):=by
 go_enter aal,ntmps185
 go_wp2
 exact vav (v:=h8 h9) (by simp[results,results185,go_sem,h9,g5]) Y ⟨Y,Y⟩
def anl c i{l vs bJ}w(h:xl w l vs bJ c)(hn:i<c.ff.length)(hs:c.kind=3->i<c.iJ.length)(hi:c.kind≠3->i<c.im.length):
 Calls vfd 208 #[.agg #[.I c.kind,.I c.dg,l,vs,bJ],.I i] w λe w'=>e=.returned (h8 (nk c i))/\c6 w w':=by
 obtain⟨y,ci,rfl,-,b⟩:=h.im;obtain⟨u,x,rfl,-,es⟩:=h.iJ;obtain⟨an,z,rfl,-,bh⟩:=h.ff;obtain⟨m,on,rfl,n⟩:=bh i hn;have j:w.cell? (.a m (on+i))=some (.bool c.ff[i]):=by simp_all[CA]
 have s:=ef j;clear n bh;cases k:c.ff[i]with
 |true=>
  have a:nk c i=h9:=by grind[nk]
  rw[a];rw[k]at j;clear b es h a;go_enter Ni,ntmps208
  go_wp2_with (go_at_call 185;refine(vA _).mono ?_;rintro e w' ⟨rfl,rfl⟩)
  exact vav (v:=h8 h9) (by simp[results,results208,go_sem,h9,g5]) Y ⟨Y,(((vaa _ w).alloc JR _).alloc AS _).alloc BA _⟩
 |false=>
  rw[k]at j;by_cases hk:c.kind=3
  .obtain⟨bs,os,rfl,d⟩:=es i (hs hk);have r:=hs hk;have a:nk c i=⟨false,0,0,c.iJ[i]⟩:=by grind[nk]
   rw[a];have g:w.cell? (.a bs (os+i))=some (.string c.iJ[i]):=by simp_all[Gp]
   have A:=ef g;clear b es h a d;go_enter Ni,ntmps208
   go_wp2
   exact vav (v:=h8 ⟨false,0,0,c.iJ[i]⟩) (by simp[results,results208,go_sem]) Y ⟨Y,((vaa _ w).alloc JR _).alloc AS _⟩
  .obtain⟨bi,o,rfl,q⟩:=b i (hi hk);have t:=hi hk;have a:nk c i=⟨false,c.im[i],c.dg,g5⟩:=by grind[nk]
   rw[a];have f:w.cell? (.a bi (o+i))=some (.I c.im[i]):=by simp_all[sg]
   have p:=ef f;clear b es h a q;go_enter Ni,ntmps208
   go_wp2
   go_region
   go_wp2
   exact vav (v:=h8 ⟨false,c.im[i],c.dg,g5⟩) (by simp[results,results208,go_sem,g5]) Y ⟨Y,(((vaa _ w).alloc JR _).alloc AS _).drew⟩
end bd
namespace b_
open RowKit av bd
structure fi where
 e:TypeId
 v:Value
 xs:List Value
structure fa(B:Nat)(W:aR)(L:List fi):Prop where
 own:∀i(h:i<L.length),W.ownsRow B L[i].e 1 L[i].v L[i].xs.length L[i].xs
 apart:∀i j(hi:i<L.length)(hj:j<L.length) g,i≠j->L[i].v.ownBlock=some g->L[j].v.ownBlock≠some g
def iz(L:List fi)(b:Nat):Prop:=∀i(h:i<L.length),L[i].v.ownBlock≠some b
variable{B g i:Nat}{W:aR}{L:List fi}
theorem fa.lt(h:fa B W L)(hi:i<L.length)(hg:L[i].v.ownBlock=some g):B<=g/\g<W.heap.size:=(h.own i hi).lt g hg
variable{b:Nat}
def fa.ol(h:fa B W L)(a:W.heap.size<=b\/b<B):iz L b:=λi hi hg=>by have:=h.lt hi hg;omega
variable{W':aR}
def fa.kept(h:fa B W L)(hk:∀g,¬iz L g->W'.heap[g]?=W.heap[g]?):fa B W' L:=
 ⟨λi hi=>GH (h.own i hi) λg hg=>hk g λa=>a i hi hg,h.apart⟩
variable{cap:Nat}{xs:uai}
def fa.push(h:fa B W L)(hi:i<L.length)(o:W'.ownsRow B L[i].e 1 (.S g 0 xs.length cap) xs.length xs)(hg:W.grownBy W' L[i].v.ownBlock)(d:L[i].v.ownBlock=some g\/g=W.heap.size):
 fa B W' (L.set i ⟨L[i].e,.S g 0 xs.length cap,xs⟩):=by
 have m:∀j(a:j<L.length),j≠i->L[j].v.ownBlock≠some g:=λj a b l=>by
  rcases d with d|d
  .exact h.apart i j hi a g (Ne.symm b) d l
  .have:=(h.lt a l).2;omega
 refine⟨λj a=>?_,λj k a hk g' b c=>?_⟩
 .rw[vdq]at a;by_cases e:i=j
  .grind
  .simp only[List.getElem_set,e,vcr];exact GH (h.own j a) λg' f=>hg.block g' (h.lt a f).2 λn=>h.apart i j hi a g' e n.symm f
 .rw[vdq]at a hk;simp only[List.getElem_set]at c⊢;by_cases e1:i=j
  .simp_all[Value.ownBlock,Ne.symm]
  .simp[e1]at c;by_cases e2:i=k
   .simp only[e2,vcx,Value.ownBlock];grind
   .simp only[e2,vcr];exact h.apart j k a hk g' b c
theorem ano(h:fa B W L)(hi:i<L.length){n:Nat}{e:uaa}(c:L[i].v.ownBlock=some g\/g=W.heap.size)(k:b<W.heap.size)(f:iz L b):iz (L.set i ⟨e,.S g 0 n cap,xs⟩) b:=by
 intro j d a;rw[vdq]at d;simp[List.getElem_set]at a;by_cases e1:i=j
 .simp[e1,Value.ownBlock]at a;subst a;rcases c with c|c
  .exact f i hi c
  .omega
 .simp[e1]at a;exact f j d a
structure rl(L:List fi)(w w':aR):Prop where
 size:w.heap.size<=w'.heap.size
 os:w'.os=w.os
 tape:w'.tape=w.tape
 output:w'.output=w.output
 block:∀b,b<w.heap.size->iz L b->w'.heap[b]?=w.heap[b]?
@[simp] theorem aG6:dc true 30:=vfb func30
theorem fa.at(h:fa B W L){r}(a:L[i]?=some r):W.ownsRow B r.e 1 r.v r.xs.length r.xs:=by obtain⟨hi,rfl⟩:=vab.1 a;exact h.own i hi
theorem fa.alloc(h:fa B W L)o:fa B (W.alloc o) L:=h.kept λg hg=>vcw _ _ _ (by
 apply vaz;intro a;exact hg (h.ol AA))
def fa.set(h:fa B W L)(a:iz L b)o v:fa B (W.setCell ⟨b,o,none⟩ v) L:=h.kept λg hg=>vat _ _ _ _ AA
def fa.JJ(h:fa B W L){e:uaa}{v:Value}(c:L[i]?=some ⟨e,v,xs⟩){x:Value}(f:W'.ownsRow B e 1 (.S g 0 (xs.length+1) cap) (xs.length+1) (xs++[x]))(hg:W.grownBy W' v.ownBlock)(j:v.ownBlock=some g\/g=W.heap.size):
 fa B W' (L.set i ⟨e,.S g 0 (xs.length+1) cap,xs++[x]⟩)/\∀b,b<W.heap.size->iz L b->iz (L.set i ⟨e,.S g 0 (xs.length+1) cap,xs++[x]⟩) b:=by
 obtain⟨hi,a⟩:=vab.1 c;have h1:L[i].e=e:=by rw[a]
 have h2:L[i].v=v:=by rw[a]
 have d:(xs++[x]).length=xs.length+1:=AS;have:=h.push hi (xs:=xs++[x]) (by rw[d,h1];exact f) AA AA;grind[ano]
def fa.below(h:fa B W L)(a:Below W.heap.size W.drew W'):fa B W' L:=h.kept λg hg=>a.block g (by
 apply vaz;intro b;exact hg (h.ol AA))
variable{w:aR}{K:uae}{Q:uao}{ats:uaq}
def anp{P:cE}{ops:fF}{o:Oper}{a:Act}{F:Prop}(k:o.guard=none){f:uak}{fn:Func}{args:uay}(b:o.op=.call {callee:=.value (.func f),args,argTypes:=ats})(g:P.funcs[f]?=some fn)(c:(fn.name== "runtime.NumGoroutine")=false)(i:fn.body.isNone=false){vs:dX}(hv:args.map a.eval=vs)(h:Calls P f vs w λ| .returned v,w'=>K (a.put o.dst v) w'| _,_=>False):if Region.wanted o (yielded ops a.tmps)=true then Oper.wp P o a w K Q else F:=by
 subst hv;have d:Region.wanted o (yielded ops a.tmps)=true:=by grind[Region.wanted]
 rw[vca d];unfold Oper.wp;rw[Conc.run_call_body b g c i];refine h.mono λe w' j=>?_;grind
def anq{ops:fF}{o:Oper}{a:Act}{F:Prop}(c:o.guard=none){x:uam}(b:o.op=.call {callee:=.value (.func 38),args:=#[x],argTypes:=ats}){s:ByteArray}(hv:a.eval x=.string s)(ht:s.size<=1000000)(h:∀w',c6 w w'->K (a.put o.dst (.string s)) w'):if Region.wanted o (yielded ops a.tmps)=true then Oper.wp vfc o a w K Q else F:=
 anp c b (vez func38) AB Y (vs:=#[.string s]) AA ((ang s w ht).mono AA)
variable{j:Nat}
def jb(h:i≠j)x:(L.set i x)[j]?=L[j]?:=by simp[h]
variable{cs:dX}
def Nj{c T}(h:ag w c cs T)(a:c≠b)o v:ag (w.setCell ⟨b,o,none⟩ v) c cs T:=by grind[ag,Below.heap_setCell]
def rl.set{w'}(h:rl L w w')o v(c:w.heap.size<=b):rl L w (w'.setCell ⟨b,o,none⟩ v):=
 ⟨by simp[World.setCell];exact h.size,h.os,h.tape,h.output,λk hk a=>(vat _ _ _ _ AA).trans (h.block k hk a)⟩
def rl.aap{w1 w2}(h:rl L w w1)(hs:w1.heap.size<=w2.heap.size)(e:w2.os=w1.os)(ht:w2.tape=w1.tape)(d:w2.output=w1.output)(f:∀b,b<w.heap.size->iz L b->w2.heap[b]?=w1.heap[b]?):rl L w w2:=
 ⟨vad h.size hs,e.trans h.os,ht.trans h.tape,d.trans h.output,λb a c=>(f b a c).trans (h.block b a c)⟩
def anr(h:fa B w L)(hB:B<=w.heap.size){k:Nat}{dA vs bJ:Value}{is j ns:uai}(h0:L[k]?=some ⟨2,dA,is⟩)(h1:L[k+1]?=some ⟨9,vs,j⟩)(h2:L[k+2]?=some ⟨4,bJ,ns⟩)(kind dg:Int)(d:bz)(ht:d.text.size<=1000000)(hl:is.length<=1000/\j.length<=1000/\ns.length<=1000):
 Calls vfc 30 #[.agg #[.I kind,.I dg,dA,vs,bJ],h8 d] w λe w'=>(∃g c cA a,(kind≠3/\e=.returned (.agg #[.I kind,.I dg,.S g 0 (is.length+1) c,vs,.S cA 0 (ns.length+1) a])/\
  fa B w' ((L.set (k+2) ⟨4,.S cA 0 (ns.length+1) a,ns++[.bool d.bR]⟩).set k ⟨2,.S g 0 (is.length+1) c,is++[.I d.num]⟩))\/
  (kind=3/\e=.returned (.agg #[.I kind,.I dg,dA,.S g 0 (j.length+1) c,.S cA 0 (ns.length+1) a])/\
   fa B w' ((L.set (k+2) ⟨4,.S cA 0 (ns.length+1) a,ns++[.bool d.bR]⟩).set (k+1) ⟨9,.S g 0 (j.length+1) c,j++[.string d.text]⟩)))/\rl L w w':=by
 obtain⟨sa,q,e0⟩:=mg (show w.ownsRow B 9 1 vs j.length j from h.at h1);subst e0;obtain⟨r,o,e1⟩:=mg (show w.ownsRow B 2 1 dA is.length is from h.at h0);obtain⟨an,y,e2⟩:=mg (show w.ownsRow B 4 1 bJ ns.length ns from h.at h2);subst e1;subst e2;have AZ:Hid _:=h0;have JK:Hid _:=h1;have j0:Hid _:=h2;have E:Hid _:=hl;have M:Hid (fa B w L):=h;clear h0 h1 h2 hl h;have b2:=(((ag.new w #[.I kind,.I dg,.slice r is.length o,.slice sa j.length q,.slice an ns.length y] 45).alloc (.cells #[.bool d.bR,.I d.num,.I d.dg,.string d.text] 94)).alloc (.cells #[.I 0,.I 0,.N,.N,.N] 45)).alloc (.cells #[.bool d.bR] 4);have bH:=((ag.new (w.alloc (.cells #[.I kind,.I dg,.slice r is.length o,.slice sa j.length q,.slice an ns.length y] 45)) #[.bool d.bR,.I d.num,.I d.dg,.string d.text] 94).alloc (.cells #[.I 0,.I 0,.N,.N,.N] 45)).alloc (.cells #[.bool d.bR] 4);have bV:=(ag.new ((w.alloc (.cells #[.I kind,.I dg,.slice r is.length o,.slice sa j.length q,.slice an ns.length y] 45)).alloc (.cells #[.bool d.bR,.I d.num,.I d.dg,.string d.text] 94)) #[.I 0,.I 0,.N,.N,.N] 45).alloc (.cells #[.bool d.bR] 4);have bS:=ag.new (((w.alloc (.cells #[.I kind,.I dg,.slice r is.length o,.slice sa j.length q,.slice an ns.length y] 45)).alloc (.cells #[.bool d.bR,.I d.num,.I d.dg,.string d.text] 94)).alloc (.cells #[.I 0,.I 0,.N,.N,.N] 45)) #[.bool d.bR] 4;have Tc:=(((M.out.alloc (.cells #[.I kind,.I dg,.slice r is.length o,.slice sa j.length q,.slice an ns.length y] 45)).alloc (.cells #[.bool d.bR,.I d.num,.I d.dg,.string d.text] 94)).alloc (.cells #[.I 0,.I 0,.N,.N,.N] 45)).alloc (.cells #[.bool d.bR] 4);simp at bH bV bS;have nK:Hid _:=b2;have CS:Hid _:=bH;have CU:Hid _:=bV;have D:Hid _:=Nd bS;have JL:Hid _:=Tc;have C:Hid _:=Tc.at j0.out;have p:Hid (∀u∈([.bool d.bR]:uai),u.oneCell'=true):=HN;have pw:Hid (B<=w.heap.size):=hB;clear b2 bH bV bS Tc hB;go_enter (vez func30),ntmps30
 go_wp2_with (at_builtin;apply qq)
 unfold hM;refine Gr M3 _ Y _ _ Y B (.slice an ns.length y) ns.length ns Y C.out (w.heap.size+1+1+1) 1 1 _ Y Y D.out p.out AF FU FU (by have:=pw.out;simp;omega) (w.heap.size+1+1+1+1) AS ?_;intro cA a iK Td m W V;have dS:∀i g,i<3->(Value.slice an ns.length y).ownBlock=some g->w.heap.size+i≠g:=λi g _ hg=>by obtain⟨hi,x⟩:=vab.1 j0.out;have:=(M.out.lt hi (by rw[x];exact hg)).2;omega
 obtain⟨nL,fO⟩:=fa.JJ JL.out j0.out Td m BB;have bt:=(ag.grown nK.out m (λg hg=>dS 0 g AF hg)).set 4 (.S cA 0 (ns.length+1) a);have cF:=ag.grown CS.out m BB;have c4:=ag.grown CU.out m (λg hg=>dS 2 g AF hg);have z:∀i,i<3->iz (L.set (k+2) ⟨4,.S cA 0 (ns.length+1) a,ns++[.bool d.bR]⟩) (w.heap.size+i):=λi hi=>fO _ BA (M.out.ol AA);have Nk:rl L w iK:=⟨by have:=m.size;simp at this;omega,m.os,m.tape,m.output,λb hb Q=>(m.block b BA (λe=>by
  obtain⟨hi,x⟩:=vab.1 j0.out;exact Q _ hi AA)).trans (by
   grind[Below.heap_alloc])⟩
 obtain⟨F,gG,fx⟩:=(ag.grown nK.out m (λg hg=>dS 0 g AF hg)).all;by_cases JM:kind=3
 .subst JM;go_upto_region 3 with fail
  have A:=nL.set (z 0 AF) 4 (.S cA 0 (ns.length+1) a);have H:=Nj cF (b:=w.heap.size) AQ 4 (.S cA 0 (ns.length+1) a);have R:=Nj c4 (b:=w.heap.size) AQ 4 (.S cA 0 (ns.length+1) a);have JN:=Nk.set 4 (.S cA 0 (ns.length+1) a) JR;simp at A;generalize iK.setCell ⟨w.heap.size,4,none⟩ (.S cA 0 (ns.length+1) a)=P at *;simp at bt;clear F gG fx nL cF c4 Nk Td m W V JL C D p;have K:(L.set (k+2) ⟨4,.S cA 0 (ns.length+1) a,ns++[.bool d.bR]⟩)[k+1]?=some ⟨9,.slice sa j.length q,j⟩:=(jb AQ _).trans JK.out;have J:Hid _:=bt;have U:Hid _:=H;have JO:Hid _:=R;have n:Hid _:=JN;have T:Hid _:=A;have I:Hid _:=K;have uu:Hid _:=z;have p:Hid (∀u∈([.string d.text]:uai),u.oneCell'=true):=HN;obtain⟨F,gG,fx⟩:=bt.all;obtain⟨lL,oM,N⟩:=H.all;clear K bt H R JN z A;have O:∀i g,i<3->(Value.slice sa j.length q).ownBlock=some g->w.heap.size+i≠g:=λi g ur hg=>by obtain⟨hi,x⟩:=vab.1 JK.out;have:=(M.out.lt hi (by rw[x];exact hg)).2;omega
  have HOW:Hid _:=O;clear O;go_region_law
   (first|(refine anq Ao Ao (s:=d.text) Ao ht ?_;intro CV l;obtain⟨dG,d_,eN⟩:=(ag.call (ag.drew J.out) l).all)|(refine amc ZR _ Ao _ _ Ao B (.slice sa j.length q) j.length j Ao ((fa.alloc (fa.below T.out l) _).at I.out) CV.heap.size 1 1 [.string d.text] Ao Y BB p.out AQ FU FU (by have:=pw.out;have:=n.out.size;have:=l.size;simp at this⊢;omega) (CV.heap.size+1) AS ?_;intro g c GO JP f Te Tf;have e2:=ag.grown ((ag.call (ag.drew J.out) l).alloc _) f (λg hg=>HOW.out 0 g AF hg);have e3:=ag.grown ((ag.call (ag.drew U.out) l).alloc _) f (λg hg=>HOW.out 1 g AF hg);obtain⟨u1,u2,u3⟩:=e2.all))
  all_goals
   obtain⟨CW,A0⟩:=fa.JJ (fa.alloc (fa.below T.out l) _) I.out JP f BB;have e4:=ag.grown ((ag.call (ag.drew JO.out) l).alloc _) f (λg hg=>HOW.out 2 g AF hg);have Z:rl L w GO:=n.out.aap (by have jJ:=f.size;have tb:=l.size;simp at jJ tb;omega) (f.os.trans l.os) (f.tape.trans l.tape) (f.output.trans l.output) (λb hb Q=>(f.block b (by have:=n.out.size;have:=l.size;simp at this⊢;omega) (λe=>by
    obtain⟨hi,x⟩:=vab.1 JK.out;exact Q _ hi AA)).trans ((vcw _ _ _ AA).trans (l.block b (by have:=n.out.size;simp;omega))))
   obtain⟨t1,t2,t3⟩:=e4.all;have ml:Hid _:=Z;have Tg:Hid _:=CW;have X:Hid (∀i,i<3->iz _ (w.heap.size+i)):=λi hi=>A0 _ (by have:=n.out.size;have:=N;have:=l.size;simp at this⊢;omega) (uu.out i hi);clear e2 e3 e4 Z CW A0 F gG fx lL oM N dG d_ eN JP f Te Tf I J U JO n p l;go_wp2
   have q0:=X.out 0 AF;have a3:=X.out 2 AF;simp at q0;exact vav (v:=.agg #[.I 3,.I dg,.slice r is.length o,.S g 0 (j.length+1) c,.S cA 0 (ns.length+1) a]) (by simp[results,results30,go_sem,t1]) Y
    ⟨⟨g,c,cA,a,Y,(((((Tg.out.set q0 _ _).set a3 _ _).set a3 _ _).set a3 _ _).set a3 _ _).set a3 _ _⟩,(((((ml.out.set _ _ AA).set _ _ AQ).set _ _ AQ).set _ _ AQ).set _ _ AQ).set _ _ AQ⟩
 .have jL:(kind==3)=false:=by grind
  have ans:Hid _:=JM;clear JM;go_upto_region 4 with fail
  have A:=nL.set (z 0 AF) 4 (.S cA 0 (ns.length+1) a);have H:=Nj cF (b:=w.heap.size) AQ 4 (.S cA 0 (ns.length+1) a);have R:=Nj c4 (b:=w.heap.size) AQ 4 (.S cA 0 (ns.length+1) a);have JN:=Nk.set 4 (.S cA 0 (ns.length+1) a) JR;simp at A;generalize iK.setCell ⟨w.heap.size,4,none⟩ (.S cA 0 (ns.length+1) a)=P at *;simp at bt;clear F gG fx nL cF c4 Nk Td m W V JL C D p;have K:(L.set (k+2) ⟨4,.S cA 0 (ns.length+1) a,ns++[.bool d.bR]⟩)[k]?=some ⟨2,.slice r is.length o,is⟩:=(jb AQ _).trans AZ.out;have Ti:=A.alloc (.cells #[.I d.num] 2);have C:Hid _:=Ti.at K;have D:Hid _:=Nd (ag.new P #[.I d.num] 2);have p:Hid (∀u∈([.I d.num]:uai),u.oneCell'=true):=HN;have J:Hid _:=bt.alloc (.cells #[.I d.num] 2);have JO:Hid _:=R.alloc (.cells #[.I d.num] 2);have n:Hid _:=JN;have S:Hid _:=Ti;have I:Hid _:=K;have uu:Hid _:=z;have ant:Hid (B<=(P.alloc (.cells #[.I d.num] 2)).heap.size):=GB;obtain⟨F,gG,fx⟩:=bt.all;obtain⟨lL,oM,N⟩:=H.all;clear Ti K bt H R JN z;go_wp2_with (at_builtin;apply qq)
  unfold hM;refine Gr ZQ _ Y _ _ Y B (.slice r is.length o) is.length is Y C.out P.heap.size 1 1 _ Y Y D.out p.out AF FU FU ant.out (P.heap.size+1) AS ?_;intro uv ci GO JP f Te Tf;have O:∀i g,i<3->(Value.slice r is.length o).ownBlock=some g->w.heap.size+i≠g:=λi g ur hg=>by obtain⟨hi,x⟩:=vab.1 AZ.out;have:=(M.out.lt hi (by rw[x];exact hg)).2;omega
  obtain⟨CW,A0⟩:=fa.JJ S.out I.out JP f BB;have e2:=ag.grown J.out f (λg hg=>O 0 g AF hg);have e4:=ag.grown JO.out f (λg hg=>O 2 g AF hg);have Z:rl L w GO:=n.out.aap (by have:=f.size;simp at this;omega) f.os f.tape f.output (λb hb Q=>(f.block b (by have:=n.out.size;simp;omega) (λe=>by
   obtain⟨hi,x⟩:=vab.1 AZ.out;exact Q _ hi AA)).trans (vcw _ _ _ AA))
  obtain⟨u1,u2,u3⟩:=e2.all;obtain⟨t1,t2,t3⟩:=e4.all;have ml:Hid _:=Z;have Tg:Hid _:=CW;have X:Hid (∀i,i<3->iz _ (w.heap.size+i)):=λi hi=>A0 _ (by have:=n.out.size;have:=N;simp;omega) (uu.out i hi);clear e2 e4 Z CW A0 F gG fx lL oM N JP f Te Tf S I J JO n C D p;go_wp2
  have q0:=X.out 0 AF;have a3:=X.out 2 AF;simp at q0;exact vav (v:=.agg #[.I kind,.I dg,.S uv 0 (is.length+1) ci,.slice sa j.length q,.S cA 0 (ns.length+1) a]) (by simp[results,results30,go_sem,t1]) Y
   ⟨⟨uv,ci,cA,a,.inl ⟨ans.out,Y,(((((Tg.out.set q0 _ _).set a3 _ _).set a3 _ _).set a3 _ _).set a3 _ _).set a3 _ _⟩⟩,(((((ml.out.set _ _ AA).set _ _ AQ).set _ _ AQ).set _ _ AQ).set _ _ AQ).set _ _ AQ⟩
open Shelf
@[simp] theorem aG8:dc true 29:=vfb func29
def CX(cs:dX)(l:g7)(k:Nat):Prop:=∀j(h:j<l.length),j<k->cs[j*5]?=some (.I l[j].1)/\cs[j*5+1]?=some (.I l[j].2)/\cs[j*5+2]?=some (.N)/\cs[j*5+3]?=some (.N)/\cs[j*5+4]?=some (.N)
abbrev sw(cs:dX)(k:Nat)(a b c d e:Value):Array Value:=((((cs.setIfInBounds (k*5) a).setIfInBounds (k*5+1) b).setIfInBounds (k*5+2) c).setIfInBounds (k*5+3) d).setIfInBounds (k*5+4) e
def xx{k}a b c d e(h:j≠k)(hi:i<5):(sw cs k a b c d e)[j*5+i]?=cs[j*5+i]?:=by simp only[sw,vam];grind
theorem aav{k}a b c d e(h:k*5+4<cs.size):(sw cs k a b c d e)[k*5]?=some a/\(sw cs k a b c d e)[k*5+1]?=some b/\(sw cs k a b c d e)[k*5+2]?=some c/\(sw cs k a b c d e)[k*5+3]?=some d/\(sw cs k a b c d e)[k*5+4]?=some e:=by simp[sw,vam];omega
theorem CX.step{cs l k}(h:CX cs l k)(hk:k<l.length)(hs:cs.size=l.length*5):CX (sw cs k (.I l[k].1) (.I l[k].2) (.N) (.N) (.N)) l (k+1):=by
 intro j a b;by_cases e:j=k
 .grind[aav]
 .have:=h j a AQ;refine⟨(xx (i:=0) _ _ _ _ _ e AF).trans this.1,(xx _ _ _ _ _ e AF).trans this.2.1,(xx _ _ _ _ _ e AF).trans this.2.2.1,(xx _ _ _ _ _ e AF).trans this.2.2.2.1,(xx _ _ _ _ _ e AF).trans this.2.2.2.2⟩
def anu(l:g7)(v:Value)(w:aR)(hv:hJ w v l)(A:l.length<=1000000):
 Calls vfc 29 #[v] w λe w'=>∃b cs,e=.returned (.S b 0 l.length l.length)/\ag w' b cs 45/\cs.size=l.length*5/\CX cs l l.length/\w.heap.size<=b/\c6 w w':=by
 obtain⟨N,cap,rfl,K,s⟩:=hv;go_enter (vez func29),ntmps29
 go_wp2_with (at_make;refine SI amg _ Y _ _ Y _ _ l.length Y Y AQ AQ ?_;intro w1 bq t f u)
 have z:Hid (ag w1 w.heap.size bq 45):=t;have B:Hid (c6 w w1):=u;have H:Hid _:=f;clear t u f;go_loopw [11] (λn W=>∃(k:Nat)(cs:dX),k<=l.length/\n=.I k/\ag W w.heap.size cs 45/\cs.size=l.length*5/\CX cs l k/\c6 w W)
  (λi _=>l.length-(intOf i).toNat)
 case atStart=>exact⟨0,bq,vax _,Y,z.out,H.out,λj _ L=>AA,B.out⟩
 case round=>
  obtain⟨k,cs,hk,rfl,p,x,o,r⟩:=hrel;have a:Hid (ag wr w.heap.size cs 45):=p;have q:Hid (CX cs l k):=o;have m:Hid (c6 w wr):=r;have c:Hid _:=x;clear p o r x;by_cases d:k<l.length
  .obtain⟨b,off,rfl,g,d1⟩:=s k d;simp at g;have h:=bp.cy m.out;have e0:=h _ _ _ g;have e1:=h _ _ _ d1;have M:=ef e0;have F:w.heap.size<wr.heap.size:=a.out.lt;clear h g d1 s;have I:(0:Int)<=(k:Int):=AQ;have J:(k:Int)<(l.length:Int):=AQ;have P:wr.cell? (.a w.heap.size (k*5))=some (cs[k*5]'GM):=by rw[a.out.rules.1];simp
   have O:wr.cell? (.a w.heap.size (k*5+1))=some (cs[k*5+1]'GM):=by rw[a.out.rules.1];simp
   have D:wr.cell? (.a w.heap.size (k*5+2))=some (cs[k*5+2]'GM):=by rw[a.out.rules.1];simp
   have C:wr.cell? (.a w.heap.size (k*5+3))=some (cs[k*5+3]'GM):=by rw[a.out.rules.1];simp
   have E:wr.cell? (.a w.heap.size (k*5+4))=some (cs[k*5+4]'GM):=by rw[a.out.rules.1];simp
   have Q:=a.out.rules.2;go_wp2_with fail
   go_roundw
   case rel=>
    exact⟨k+1,_,AQ,by go_num,(((((a.out.set _ _).set _ _).set _ _).set _ _).set _ _).alloc _,by simp;exact c.out,q.out.step d c.out,(((((m.out.setCell AS _).setCell AS _).setCell AS _).setCell AS _).setCell AS _).alloc BA _⟩
   case measure=>simp[intOf];omega
  .have y:k=l.length:=by omega
   go_wp2_with fail
   go_ret
   exact⟨_,_,Y,a.out,c.out,by rw[<-y];exact q.out,AQ,m.out⟩
end b_
namespace bd
open RowKit Shelf av
def anv:um vfd 75 94 (.agg #[.F,.I 0,.I 0,.E]) 4 40:=⟨(tf _ _ _).trans underlying75,AB,AF,AF⟩
def aay:vfd.funcs[(207:Nat)]?=some f207:=vfa func207
@[simp] theorem aHa:dc false 207:=cR aay AD
def A1(cs:dX)(l:List bz)(k:Nat):Prop:=∀j(h:j<l.length),j<k->cs[j*4]?=some (.bool l[j].bR)/\cs[j*4+1]?=some (.I l[j].num)/\cs[j*4+2]?=some (.I l[j].dg)/\cs[j*4+3]?=some (.string l[j].text)
abbrev CY(cs:dX)(k:Nat)(d:bz):Array Value:=(((cs.setIfInBounds (k*4) (.bool d.bR)).setIfInBounds (k*4+1) (.I d.num)).setIfInBounds (k*4+2) (.I d.dg)).setIfInBounds (k*4+3) (.string d.text)
theorem A1.step{cs l k}(h:A1 cs l k)(hk:k<l.length)(hs:cs.size=l.length*4):A1 (CY cs k l[k]) l (k+1):=by
 intro j a b;by_cases e:j=k
 .subst e;grind
 .have:=h j a AQ;simp only[CY,vam];grind
def oi.SK{w b cs T l}(h:ag w b cs T)(c:l.length<=9223372036854775807)(ht:∀d∈l,d.text.size<=9223372036854775807)(a:A1 cs l l.length)cap:oi w (.S b 0 l.length cap) l:=by
 refine⟨_,cap,Y,c,λi hi=>⟨b,0,Y,?_,?_,?_,?_,AA⟩⟩
 .simp;rw[h.rules.1];exact(a i hi hi).1
 .simp;rw[h.rules.1];exact(a i hi hi).2.1
 .simp;rw[h.rules.1];exact(a i hi hi).2.2.1
 .simp;rw[h.rules.1];exact(a i hi hi).2.2.2
structure xy(i:Nat)(c:a9):Prop where
 ff:i<c.ff.length
 iJ:c.kind=3->i<c.iJ.length
 im:c.kind≠3->i<c.im.length
 text:∀s∈c.iJ,s.size<=9223372036854775807
def xy.small{i c}(h:xy i c):(nk c i).text.size<=9223372036854775807:=by
 unfold nk;split
 .decide
 .split
  .rename_i hk;have:=h.iJ hk;simp[this];exact h.text _ AA
  .show g5.size<=_;decide
def anw t v i w(hv:n8 w v t)(L:t.length<=1000000)(F:∀c∈t,xy i c):
 Calls vfd 207 #[.agg #[v],.I i] w λe w'=>∃b cs,e=.returned (.S b 0 t.length t.length)/\ag w' b cs 94/\cs.size=t.length*4/\A1 cs (t.map (nk · i)) t.length/\w.heap.size<=b/\c6 w w':=by
 obtain⟨P,cap,rfl,hl,A⟩:=hv;have hlen:(t.map (nk · i)).length=t.length:=AS;go_enter aay,ntmps207
 go_wp2_with (at_make;refine SI anv _ Y _ _ Y _ _ t.length Y Y AQ AQ ?_;intro w1 bq O f r;have gF:=(ag.new w #[.slice P t.length cap] 113).call r;obtain⟨M6,U,T⟩:=gF.all)
 have y:c6 w w1:=Below.step r ((vaa _ _).alloc AS _) AS;have H:ag w1 (w.heap.size+1) bq 94:=BB;have K:Hid (ag w1 (w.heap.size+1) bq 94):=H;have N:Hid (c6 w w1):=y;clear O H r y gF;go_loopw [17] (λn W=>∃(k:Nat)(cs:dX),k<=t.length/\n=.I k/\ag W (w.heap.size+1) cs 94/\cs.size=t.length*4/\A1 cs (t.map (nk · i)) k/\c6 w W)
  (λi _=>t.length-(intOf i).toNat)
 case atStart=>exact⟨0,bq,vax _,Y,K.out,f,λj _ hj=>AA,N.out⟩
 case round=>
  obtain⟨k,cs,hk,rfl,u,I,s,z⟩:=hrel;have B:Hid (ag wr (w.heap.size+1) cs 94):=u;have x:Hid (A1 cs (t.map (nk · i)) k):=s;have l:Hid (c6 w wr):=z;have d:Hid _:=I;have SP:Hid _:=f;clear u s z I f;by_cases h:k<t.length
  .obtain⟨b,off,rfl,dA,vs,bJ,p,d1,E,D,C,o⟩:=A k h;simp at p;have g:=bp.cy l.out;have e0:=g _ _ _ p;have e1:=g _ _ _ d1;have e2:=g _ _ _ E;have e3:=g _ _ _ D;have e4:=g _ _ _ C;have eC:=ef e0;obtain⟨mE,ci,V,Z,an,eg,rfl,rfl,rfl⟩:=o.shape;have HC:Hid (xl wr _ _ _ t[k]):=o.mono g;have m:=F _ (vae h);clear g p d1 E D C o A F;have X:(0:Int)<=(k:Int):=AQ;have li:(k:Int)<(t.length:Int):=AQ;go_wp2_with fail
   refine(anl t[k] i _ (HC.out.mono (bp.cy ((vaa _ wr).alloc JR _))) m.ff m.iJ m.im).mono ?_;rintro e w2 ⟨rfl,q⟩;have a:=(B.out.alloc _).call q;have S:Hid (ag w2 (w.heap.size+1) cs 94):=a;have M:Hid (c6 w w2):=Below.step q (l.out.alloc (by have:=l.out.size;omega) _) (by have:=l.out.size;simp;omega);have SQ:w2.cell? (.a (w.heap.size+1) (k*4))=some (cs[k*4]'Hm):=by rw[a.rules.1];simp
   have SR:w2.cell? (.a (w.heap.size+1) (k*4+1))=some (cs[k*4+1]'Hm):=by rw[a.rules.1];simp
   have R:w2.cell? (.a (w.heap.size+1) (k*4+2))=some (cs[k*4+2]'Hm):=by rw[a.rules.1];simp
   have Q:w2.cell? (.a (w.heap.size+1) (k*4+3))=some (cs[k*4+3]'Hm):=by rw[a.rules.1];simp
   have M7:=a.rules.2;clear a q e0 e1 e2 e3 e4;go_wp2_with fail
   go_roundw
   case rel=>
    refine⟨k+1,CY cs k (nk t[k] i),AQ,by go_num,(((S.out.set _ _).set _ _).set _ _).set _ _,by simp;exact d.out,?_,(((M.out.setCell AS _).setCell AS _).setCell AS _).setCell AS _⟩;have:=x.out.step AA (by rw[hlen];exact d.out);grind
   case measure=>simp[intOf];omega
  .have J:k=t.length:=by omega
   go_wp2_with fail
   go_ret
   exact⟨_,_,Y,B.out,d.out,by rw[<-J];exact x.out,AQ,l.out⟩
def aaz:vfd.funcs[(206:Nat)]?=some f206:=vfa func206
def Nl(place:ubm)(vals:List bz)(W:aR)(x:Value):Prop:=
 ∃j1 bv jc cs,x=.agg #[.S j1 0 place.length place.length,.S bv 0 vals.length vals.length]/\ag W j1 jc 3/\jc.toList=place.map (Value.int .i64)/\ag W bv cs 94/\cs.size=vals.length*4/\A1 cs vals vals.length
def anz(n₀:Nat)(cw:Nat->List Int)(vs:Nat->List bz):JH n₀ (λt=>Nl (cw t) (vs t)):=by
 refine⟨λt W x h=>?_,λt W W' x h hk=>?_⟩
 .obtain⟨b,bv,a,cs,rfl,-⟩:=h;grind
 .obtain⟨b,bv,a,cs,rfl,h1,h2,h3,h4⟩:=h;exact⟨b,bv,a,cs,Y,hk _ _ _ _ h1 AA,h2,hk _ _ _ _ h3 AA,h4⟩
def anA{n}t v fr aT w0(hv:n8 w0 v t)(q:t.length<=1000000)(U:fr<=aT)(A2:aT<=1000000)(y:∀i,i<aT->∀c∈t,xy i c)E gF bs(s:w0.cell? (.a E 0)=some (.I fr))(ht:w0.cell? (.a gF 0)=some (.I aT))(hs:w0.cell? (.a bs 0)=some v):
 CM n vfd 206 #[.P E 0,.P gF 0,.P bs 0] (λk=>Nl [((fr+k:Nat):Int)] (t.map (nk · (fr+k)))) (aT-fr) w0.heap.size w0:=by
 intro l S J W d B z F h0;have L:=JD B z;clear z B;have j:=bp.cy d;have A:=j _ _ _ s;obtain⟨bY,cap,rfl,-,-⟩:=id hv;refine callsIn_of_wp aaz Y trivial ?_ Y;simp[vbk];gi_wp2
 gi_loopw [5] (λp wr=>∃i:Nat,fr<=i/\i<=aT/\p=.I (i:Int)/\J (i-fr) wr/\c6 w0 wr/\Below w0.heap.size W wr) (λp _=>aT-(intOf p).toNat)
 case atStart=>exact⟨fr,vac _,U,Y,AA,d,vaa _ _⟩
 case round=>
  obtain⟨i,oe,li,rfl,I,o,M⟩:=hrel;have f:=bp.cy o;have yR:=f _ _ _ ht;have T:=f _ _ _ hs;have yP:=ef T;have X:Hid (n8 wr _ t):=hv.mono si f;have D:Hid (J (i-fr) wr):=I;have m:Hid (c6 w0 wr):=o;have C:Hid (Below w0.heap.size W wr):=M;clear I o M f;by_cases r:i<aT
  .have V:(i:Int)<(aT:Int):=by omega
   have K:=y i r;clear s ht hs A h0 d j y;gi_wp2
   have g:c6 wr (wr.alloc (.cells #[.I (i:Int)] 3)):=(vaa _ wr).alloc JR _;refine⟨NE,λh=>CI,(callsIn_wide.2 (anw t _ i _ (X.out.mono si (bp.cy g)) q K)).mono ?_⟩;rintro e w2 ⟨b,cs,rfl,N,u,Nm,R,x⟩;have w:Hid (c6 wr w2):=Below.step x g AS;have a:=L _ _ _ D.out w.out;have Q:fr+(i-fr)=i:=AQ;have P:Nl [((fr+(i-fr):Nat):Int)] (t.map (nk · (fr+(i-fr)))) w2 (.agg #[.S wr.heap.size 0 1 1,.S b 0 t.length t.length]):=by rw[Q];refine⟨wr.heap.size,b,#[.I (i:Int)],cs,AS,(ag.new wr _ _).call x,Y,N,AA,AA⟩
   obtain⟨fn,tmps,assign,body,Z,O⟩:=F (i-fr) _ w2 a AQ P;clear N u Nm R x P a F L g Q K;gi_wp2
   refine⟨λh=>CI,O.mono ?_⟩;rintro e mH ⟨rfl,yS,H⟩;clear O Z;gi_wp2
   go_roundw
   case rel=>exact⟨i+1,AQ,AQ,AS,AA,m.out.trans ((w.out.mono m.out.size).trans H),C.out.trans ((w.out.mono m.out.size).trans H)⟩
   case measure=>simp[intOf];omega
  .have V:¬(i:Int)<(aT:Int):=by omega
   clear s ht hs A h0 d j y;gi_wp2
   go_end0
   have e:aT=i:=AQ;subst e;exact⟨⟨_,Y⟩,D.out,C.out⟩
end bd
namespace av
def Carry(ρ:Ren)(w w':aR):Prop:=∀a a' v,dR ρ a a'->w.cell? a=some v->∃v',w'.cell? a'=some v'/\au ρ v v'
variable{w w':aR}
theorem e_.carry{C S ρ}(h:e_ C S ρ w w'):Carry ρ w w':=λ_ _ _ r hv=>h.cell r hv
def xO{aq:Type}(R:aR->(Nat->Option Value)->aq->Prop):Prop:=
 ∀(ρ:Ren) w w' rd lg x,Carry ρ w w'->(∀j v,rd j=some v->∃v',lg j=some v'/\au ρ v v')->R w rd x->R w' lg x
variable{v:Value}
section
variable{ρ:Ren}
def au.uM{k n}(h:au ρ (.int k n) v):v=.int k n:=by cases h;rfl
def au.abu{s}(h:au ρ (.string s) v):v=.string s:=by cases h;rfl
def au.abv{b}(h:au ρ (.bool b) v):v=.bool b:=by cases h;rfl
end
theorem bo.carry{aq:Type}{c}{R:aR->(Nat->Option Value)->aq->Prop}(o:xO R){ρ}(k:Carry ρ w w'){v'}(hv:au ρ v v'){xs:List aq}(h:bo w c R v xs):bo w' c R v' xs:=by
 obtain⟨q,cap,rfl,g,l⟩:=h;cases hv with
 |iH=>refine⟨none,cap,Y,g,λi hi=>?_⟩;obtain⟨b,off,e,_⟩:=l i hi;cases e
 |@slice a a' _ _ r=>refine⟨some a',cap,Y,g,λi hi=>?_⟩;obtain⟨b,off,e,n⟩:=l i hi;cases e;obtain⟨r1,f,d⟩:=r;obtain⟨m,s,p⟩:=a';simp only at r1 f d;subst f;subst d;exact⟨m,off,Y,o ρ w w' (λj=>w.cell? (.a b (off+i*c+j))) _ _ k (λj v hv=>k ⟨b,off+i*c+j,none⟩ ⟨m,off+i*c+j,none⟩ v ⟨r1,Y,Y⟩ hv) n⟩
def Dq:xO sg:=λρ w w' rd b x _ a h=>by obtain⟨v',h1,h2⟩:=a 0 _ h;rw[h2.uM]at h1;exact h1
def T2:xO CA:=λρ w w' rd b x _ a h=>by obtain⟨v',h1,h2⟩:=a 0 _ h;rw[h2.abv]at h1;exact h1
def T3:xO Gp:=λρ w w' rd b x _ a h=>by obtain⟨v',h1,h2⟩:=a 0 _ h.1;rw[h2.abu]at h1;exact⟨h1,h.2⟩
def N0:xO Gq:=λρ w w' rd b x _ a h=>by obtain⟨v',h1,h2⟩:=a 0 _ h.1;obtain⟨v2,h3,h4⟩:=a 1 _ h.2;rw[h2.uM]at h1;rw[h4.uM]at h3;exact⟨h1,h3⟩
theorem xP:xO AO:=by rintro ρ w w' rd k x c a ⟨l,vs,bJ,h0,h1,h2,h3,h4,b⟩;obtain⟨v0,d,b0⟩:=a 0 _ h0;obtain⟨v1,a1,b1⟩:=a 1 _ h1;obtain⟨v2,j,i⟩:=a 2 _ h2;obtain⟨v3,g,h⟩:=a 3 _ h3;obtain⟨e,f,bV⟩:=a 4 _ h4;rw[b0.uM]at d;rw[b1.uM]at a1;exact⟨v2,v3,e,d,a1,j,g,f,bo.carry Dq c i b.im,bo.carry T3 c h b.iJ,bo.carry T2 c bV b.ff⟩
theorem iy.carry{C D M w0}(h:iy C D M w w0)(g:fG C D M w):Carry (dp D M) w w0:=by
 rintro a a' v ⟨⟨h1,hd⟩,h2,h3⟩ hv;obtain⟨c,e,fr,f,j,d⟩:=xd hv;rw[h1]at f;obtain⟨l,h4,_⟩:=h.cells g hd f;refine⟨v,n2 h4 (h3▸j) (h2▸d),?_⟩;obtain⟨ob,i,b⟩:=g _ hd;rw[f]at i;cases i;rcases b with b|b
 .cases b with|cells _ k _=>exact k.get _ _ _ d d
 .exact b.elim
end av
namespace cV
open Conc ConcN av bj
def pJ(Shun:ual)(B:Nat)(e:Event):Prop:=(∀x,(MemAct.ofEvent e).touch?=some x->(x.loc.isMemory=true->(Shun x.loc->x.kind≠ .plain)/\(x.kind=.atomic->Shun x.loc))/\∀b,fy x.loc=some b->b<B)/\∀a,MemAct.ofEvent e≠ .mark (.release a)
structure nQ(Shun:ual)(B d n:Nat)(t:Trace):Prop where
 gs:∀op∈t,op.g<n
 rp:∀op∈t,∀a,op.act≠ .mark (.release a)
 oW:∀i a,touchAt t i=some a->a.loc.isMemory=true->a.kind=.atomic->Shun a.loc
 Ki:∀said,¬Race said t
 known:∀i a,touchAt t i=some a->a.loc.isMemory=true->Knows t 0 i\/(Shun a.loc/\a.kind=.atomic)
 over:t.HandedOver
 hears:Deaf t 0=d
 low:∀i a b,touchAt t i=some a->fy a.loc=some b->b<B
variable{es:uat}
section
variable{Shun:ual}{B d n:Nat}{t:Trace}
theorem nQ.mono{c}(h:nQ Shun B d n t)(g:B<=c):nQ Shun c d n t:=⟨h.gs,h.rp,h.oW,h.Ki,h.known,h.over,h.hears,λi a b f e=>vak (h.low i a b f e) g⟩
def nQ.own(h:nQ Shun B d n t)(hn:0<n){fn:uak}{pos:String}(f:∀e∈es,pJ Shun B e):nQ Shun B (deafBehind d es) n (t++MemOp.ofEvents 0 fn pos es):=by
 have u:∀op∈MemOp.ofEvents 0 fn pos es,op.g=0:=λop c=>C7;refine⟨λop c=>(vei.1 c).elim (h.gs op) AA,λop c=>(vei.1 c).elim (h.rp op) (λx=>by obtain⟨e,g,rfl⟩:=Conc.mem_ofEvents x;exact(f e g).2),λi a j r hk=>?_,λsaid=>noRace_append (h.Ki said) u λi a j op c b m l=>?_,λi a j v=>?_,handedOver_app h.over AA,?_,λi a b j m=>?_⟩
 .obtain⟨x,k,p⟩:=touch_of j;rcases vbn k with⟨_,s⟩|⟨_,o⟩
  .exact h.oW i a Fe r hk
  .obtain⟨e,g,rfl⟩:=Conc.mem_ofEvents o;exact(((f e g).1 a p).1 r).2 hk
 .rcases h.known i a j l.2.1 with hk|⟨q,z⟩
  .exact hk
  .have y:b.kind≠ .plain:=by obtain⟨e,g,rfl⟩:=Conc.mem_ofEvents c;exact(((f e g).1 b m).1 (by rw[<-l.1];exact l.2.1)).1 (l.1▸q)
   obtain⟨_,_,_,w⟩:=l;grind
 .obtain⟨x,k,p⟩:=touch_of j;rcases vbn k with⟨_,s⟩|⟨_,o⟩
  .exact(h.known i a Fe v).imp (·.app _) id
  grind[knows_own]
 .rw[Deaf_own,h.hears]
 .obtain⟨x,k,p⟩:=touch_of j;rcases vbn k with⟨_,s⟩|⟨_,o⟩
  .exact h.low i a b Fe m
  .obtain⟨e,g,rfl⟩:=Conc.mem_ofEvents o;exact((f e g).1 a p).2 b m
theorem aqn{e}(h:e.mute=true)a:MemAct.ofEvent e≠ .mark (.release a):=by
 obtain⟨loc,wr,b⟩:=e;cases loc<;>simp_all[Event.mute]
 grind[MemAct.ofEvent]
theorem nQ.mute(h:nQ Shun B d n t){g:Nat}(hg:g≠0)(s:g<n){fn:uak}{pos:String}(m:∀e∈es,e.mute=true):nQ Shun B d n (t++MemOp.ofEvents g fn pos es):=by
 have l:∀op∈MemOp.ofEvents g fn pos es,op.g=g:=λop c=>C7;have hn:∀op∈MemOp.ofEvents g fn pos es,op.act.touch?=none:=λop c=>by grind[Conc.mem_ofEvents,touch_mute]
 refine⟨λop c=>(vei.1 c).elim (h.gs op) AA,λop c=>(vei.1 c).elim (h.rp op) (λx=>by grind[Conc.mem_ofEvents,aqn]),λi a j q hk=>?_,λsaid=>noRace_append (h.Ki said) l AA,λi a j m=>?_,handedOver_app h.over AA,(Deaf_other t hg _ l).trans h.hears,λi a b j r=>?_⟩
 .obtain⟨x,f,p⟩:=touch_of j;rcases vbn f with⟨_,k⟩|⟨_,o⟩
  .exact h.oW i a Fe q hk
  grind
 .obtain⟨x,f,p⟩:=touch_of j;rcases vbn f with⟨_,k⟩|⟨_,o⟩
  .exact(h.known i a Fe m).imp (·.app _) id
  grind
 .obtain⟨x,f,p⟩:=touch_of j;rcases vbn f with⟨_,k⟩|⟨_,o⟩
  .exact h.low i a b Fe r
  grind
end
def mQ(P:cE)(Post:hV)(m:Machine)(t:Trace):Prop:=
 ∃N last o w' c7,runNT P (N+1) m t=(.ended o w',c7)/\runN P N m=.next last/\step P last=.ended o w'/\Conc.Good P Post last o w' c7
theorem mQ.step{P:cE}{Post:hV}{m a:Machine}{t:Trace}{ops:Array MemOp}(hs:stepT P m=(.next a,ops))(h:mQ P Post a (t++ops)):mQ P Post m t:=by obtain⟨N,last,o,w',b,h1,h2,h3,h4⟩:=h;refine⟨N+1,last,o,w',b,by grind[runNT],?_,h3,h4⟩;grind[runN,Go.step]
theorem mQ.leads{P:cE}{Post:hV}{q:Machine->Trace->Prop}(hq:∀m t,q m t->mQ P Post m t):∀(n:Nat){m a:Machine}{t b:Trace},runNT P n m t=(.next a,b)->q a b->mQ P Post m t
 |0,m,a,t,b,h,k=>by grind[runNT]
 |n+1,m,a,t,b,h,k=>by simp[runNT]at h;cases hs:stepT P m with|mk r ops=>rw[hs]at h;cases r with|next m1=>exact mQ.step hs (mQ.leads hq n h k)|ended o w=>grind
def bT(P:cE)(Post:hV)(n:Nat)(Shun:ual)(d:Nat)(g:uaj)(w:aR):Prop:=
 ∀(gs:uaz)(sl:ubb)(q:uas)(t:Trace),gs.size=n->gs[0]?=some g->Leavers P t gs q->nQ Shun w.heap.size d n t->mQ P Post (crowd gs w sl) t
inductive e8(P:cE)(Shun:ual)(Stop:uax):Nat->Goroutine->aR->Prop
 |stop {d:Nat} {g:uaj} {w:aR} (h:∀k,Stop d g (w.at k)):e8 P Shun Stop d g w
 |step {d:Nat} {g:uaj} {w:aR} (hs:g.status=.running) (ok:∀k,∃g' w' es,stepG P true g (w.at k)=.go g' w' es/\(∀e∈es,pJ Shun w'.heap.size e)/\w.heap.size<=w'.heap.size)
  (next:∀k g' w' es,stepG P true g (w.at k)=.go g' w' es->e8 P Shun Stop (deafBehind d es) g' w'):e8 P Shun Stop d g w
section
variable{P:cE}{Shun:ual}{Stop Stop':uax}{d:Nat}{g:uaj}{w:aR}
def e8.mk(hs:g.status=.running)(h:∀k,∃g' w' es,stepG P true g (w.at k)=.go g' w' es/\(∀e∈es,pJ Shun w'.heap.size e)/\w.heap.size<=w'.heap.size/\e8 P Shun Stop (deafBehind d es) g' w'):e8 P Shun Stop d g w:=
 .step hs (λk=>let⟨g',w',es,h1,h2,h3,_⟩:=h k;AA) λk g1 w1 a e=>by obtain⟨g',w',es,h1,_,_,h4⟩:=h k;grind
theorem e8.at(h:e8 P Shun Stop d g w)k:e8 P Shun Stop d g (w.at k):=by cases h with|stop h=>exact .stop λk'=>h k'|step hs h hn=>exact .step hs (λk'=>h k') (λk'=>hn k')
theorem e8.bind(h:e8 P Shun Stop d g w)(a:∀d g w,Stop d g w->e8 P Shun Stop' d g w):e8 P Shun Stop' d g w:=by induction h with|@stop d g w h=>exact a _ _ _ (h w.drawn)|step hs h hn b=>exact .step hs h AA
theorem mR{R:aR->aR->Prop}(a:∀w k,R w (w.at k)):∀(n:Nat)(g:uaj)(w:aR),Goes P true R Go.ConcR.DC0 (λg w=>e8 P Shun Stop d g w) n g w->e8 P Shun Stop d g w
 |0,g,w,h=>h w (a w w.drawn)
 |n+1,g,w,h=>by
  rcases h with h|⟨hs,h⟩
  .exact h w (a w w.drawn)
  .refine e8.mk hs λk=>?_;have h1:=h (w.at k) (a w k);cases hst:stepG P true g (w.at k)with
   |go g1 w1 es=>rw[hst]at h1;obtain⟨⟨rfl,rfl⟩,h2⟩:=h1;exact⟨g1,w.at k,#[],Y,AS,vac _,mR a n g1 (w.at k) h2⟩
   | _=>rw[hst]at h1;exact h1.elim
theorem abM{g':uaj}:∀(n:Nat)(g:uaj)(w:aR),Goes P true (λ_ _=>True) Go.ConcR.DC0 (λb _=>b=g') n g w->(∀k,Stop d g' (w.at k))->e8 P Shun Stop d g w
 |0,g,w,h,hs=>by have:=h w trivial;subst this;exact .stop hs
 |n+1,g,w,h,hs=>by
  rcases h with h|⟨a,h⟩
  .have:=h w trivial;subst this;exact .stop hs
  .refine e8.mk a λk=>?_;have h1:=h (w.at k) trivial;cases hst:stepG P true g (w.at k)with
   |go g1 w1 es=>rw[hst]at h1;obtain⟨⟨rfl,rfl⟩,h2⟩:=h1;exact⟨g1,w.at k,#[],Y,AS,vac _,abM n g1 (w.at k) h2 λk'=>hs k'⟩
   | _=>rw[hst]at h1;exact h1.elim
theorem Dx(t:Trace)(fn:uak)(pos:String)(es:uat){j:Nat}(b:0≠j):Deaf (t++MemOp.ofEvents 0 fn pos es) j=Deaf t j:=
 Deaf_other t (g':=0) AQ _ (λop a=>C7)
def Uo{gs:uaz}{q:uas}{t:Trace}{a:uaj}(l:Leavers P t gs q)(h0:gs[0]?=some a)(hrun:a.status=.running){i k:Nat}{g:uaj}{sl':ubb}(u:0<i)(hi:gs[i]?=some g)(hg:g.status=.running):
 ∃gs' m fn pos es,runT P (crowd gs (w.at k) sl') i=(.next (crowd gs' (w.at k) sl'),MemOp.ofEvents i fn pos es)/\gs'.size=gs.size/\gs'[0]?=some a/\Leavers P (t++MemOp.ofEvents i fn pos es) gs' m/\(∀e∈es,e.mute=true)/\sumTo gs'.size m<sumTo gs.size q:=by
 have hq:=l.old i g u hi;have s:(i==0)=false:=AA;have d:i<gs.size:=(vao.1 hi).1;cases b:q i with
 |zero=>rw[b]at hq;rw[hq.1]at hg;cases hg
 |succ k'=>
  rw[b]at hq;rcases hq with⟨C,_⟩|⟨_,g',es,A,r,z⟩
  .grind
  have p:=runT_crowd_go (P:=P) (sl:=sl') (i:=i) hi (by rw[s];exact r (w.at k));have hsz:((gs.map (woken P g g' (w.at k))).setIfInBounds i g').size=gs.size:=AS;have B:sumTo gs.size (upd q i k')+(k'+1)=sumTo gs.size q+k':=by have:=sumTo_upd q k' id d;simp_all
  refine⟨_,upd q i k',_,_,es,p,hsz,?_,⟨λj x o n=>?_,λj o=>?_⟩,A,AA⟩
  .grind[woken_run]
  .by_cases f:i=j
   .grind[upd_same,Deaf_own]
   .rw[vdw f,vcf]at n;obtain⟨y,v,rfl⟩:=vai.1 n;have h:=l.old j y o v;rw[woken_quitsD h,upd_ne q k' (Ne.symm f),Deaf_other t f _ (λop c=>C7)];grind
  .rw[Deaf_other t (g':=i) AA _ (λop c=>C7)];exact l.above j AA
def Oa{gs:uaz}{q:uas}{t:Trace}{a:uaj}{B n:Nat}(hn:gs.size=n)(l:Leavers P t gs q)(f:nQ Shun B d n t)(h0:gs[0]?=some a)(hrun:a.status=.running){i k:Nat}{g:uaj}{sl':ubb}(c:0<i)(hi:gs[i]?=some g)(hg:g.status=.running):
 ∃gs' b ops,runT P (crowd gs (w.at k) sl') i=(.next (crowd gs' (w.at k) sl'),ops)/\gs'.size=gs.size/\gs'[0]?=some a/\Leavers P (t++ops) gs' b/\nQ Shun B d n (t++ops)/\sumTo gs'.size b<sumTo gs.size q:=by
 obtain⟨gs',b,fn,pos,es,h1,h2,h3,h4,j,h⟩:=Uo (w:=w) (k:=k) (sl':=sl') l h0 hrun c hi hg;have e:i<gs.size:=(vao.1 hi).1;exact⟨gs',b,_,h1,h2,h3,h4,f.mute AQ AQ j,h⟩
def Hd{gs:uaz}{q:uas}{t:Trace}{a:uaj}(c:Leavers P t gs q)(h0:gs[0]?=some a)(hrun:a.status=.running):∀g∈gs,awake g:=by
 intro g hg;obtain⟨i,hi,rfl⟩:=Array.mem_iff_getElem.1 hg;rcases vbq i with rfl|b
 .grind[awake_of]
 .exact awake_of ((c.old i _ b (vas hi)).status.elim .inl AA)
def Dy{Post n}(hs:g.status=.running)(h:∀k,∃g' w' es,stepG P true g (w.at k)=.go g' w' es/\(∀e∈es,pJ Shun w'.heap.size e)/\w.heap.size<=w'.heap.size/\bT P Post n Shun (deafBehind d es) g' w'):bT P Post n Shun d g w:=by
 have key:∀(M:Nat)(gs:uaz)(sl:ubb)(q:uas)(t:Trace)(o:Nat),sumTo gs.size q<=M->gs.size=n->gs[0]?=some g->Leavers P t gs q->nQ Shun w.heap.size d n t->mQ P Post (crowd gs (w.at o) sl) t:=by
  intro M;induction M with
  |zero=>
   intro gs sl q t o v hn h0 a c;obtain⟨i,g1,k,sl',hi,hg,hst⟩:=crowd_pick (P:=P) (w:=w.at o) (sl:=sl) (Hd a h0 hs) AA;rcases vbq i with rfl|r
   .obtain rfl:g1=g:=by grind
    obtain⟨g',w',es,e1,e2,e3,e4⟩:=h k;have p:=runT_crowd_go (P:=P) (sl:=sl') (i:=0) hi (show stepG P (0==0) g1 (w.at k)=_ from e1);have l:0<gs.size:=(vao.1 h0).1;refine mQ.step (hst.trans p) (e4 _ _ q _ AA AA ⟨λj x m f=>?_,λj m=>?_⟩ ((c.mono e3).own AQ e2))
    .have b:0≠j:=by omega
     rw[vdw b,vcf]at f;obtain⟨y,s,rfl⟩:=vai.1 f;have hq:=a.old j y m s;grind[woken_quitsD,Dx]
    .rw[Dx _ _ _ _ AA];exact a.above j AA
   .obtain⟨gs',u,ops,_,_,_,_,_,l⟩:=Oa (w:=w) (k:=k) (sl':=sl') hn a c h0 hs r hi hg;omega
  |succ M z=>
   intro gs sl q t o v hn h0 a c;obtain⟨i,g1,k,sl',hi,hg,hst⟩:=crowd_pick (P:=P) (w:=w.at o) (sl:=sl) (Hd a h0 hs) AA;rcases vbq i with rfl|r
   .obtain rfl:g1=g:=by grind
    obtain⟨g',w',es,e1,e2,e3,e4⟩:=h k;have p:=runT_crowd_go (P:=P) (sl:=sl') (i:=0) hi (show stepG P (0==0) g1 (w.at k)=_ from e1);have l:0<gs.size:=(vao.1 h0).1;refine mQ.step (hst.trans p) (e4 _ _ q _ AA AA ⟨λj x m f=>?_,λj m=>?_⟩ ((c.mono e3).own AQ e2))
    .have b:0≠j:=by omega
     rw[vdw b,vcf]at f;obtain⟨y,s,rfl⟩:=vai.1 f;have hq:=a.old j y m s;grind[woken_quitsD,Dx]
    .rw[Dx _ _ _ _ AA];exact a.above j AA
   .obtain⟨gs',u,ops,e1,e2,e3,e4,eE,A⟩:=Oa (w:=w) (k:=k) (sl':=sl') hn a c h0 hs r hi hg;exact mQ.step (hst.trans e1) AA
 intro gs sl q t hn h0 a c;exact key _ gs sl q t w.drawn JR hn h0 a c
def Dz{Post n}(h:e8 P Shun (bT P Post n Shun) d g w):bT P Post n Shun d g w:=by induction h with|@stop d g w h=>exact h w.drawn|step hs h hn a=>refine Dy hs λk=>?_;obtain⟨g',w',es,e1,e2,e3⟩:=h k;grind
def abO{Post:hV}{gs:uaz}{q:uas}{t:Trace}{B n k f:Nat}{sl sl':ubb}(hn:0<n)(hst:stepT P (crowd gs (w.at f) sl)=runT P (crowd gs (w.at k) sl') 0)(h:Leavers P t gs q)(p:nQ Shun B d n t)(hi:gs[0]?=some g){v:Value}(o:stepG P true g (w.at k)=.ended (.done v) (w.at k) es)(b:∀e∈es,pJ Shun B e)(r:Post v (w.at k)):mQ P Post (crowd gs (w.at f) sl) t:=by
 have m:=runT_many_ended (P:=P) (sl:=sl') (i:=0) hi (show stepG P (0==0) g (w.at k)=_ from o);have l:=p.own hn (fn:=g.frame.fn) (pos:=g.frame.place) b;have hs:=hst.trans m;refine⟨0,_,_,_,_,by simp[runNT,hs],Y,by simp[Go.step,hs],v,Y,r,l.Ki,l.over,⟨λx a=>?_,Y⟩,λj x a c=>?_⟩
 .obtain⟨j,c⟩:=List.mem_iff_getElem?.1 a;rw[List.getElem?_drop]at c;exact⟨_,(h.old (1+j) x AQ (by grind[crowd])).leaves⟩
 .have hq:=h.old j x AQ a;refine⟨q j,?_⟩;have e:(t++MemOp.ofEvents 0 g.frame.fn g.frame.place es).deaf j (t++MemOp.ofEvents 0 g.frame.fn g.frame.place es).size=Deaf t j:=Dx t _ _ _ AQ;rw[e];exact hq.hears _
def aqq{Post n}(hs:g.status=.running)(h:∀k,∃v es,stepG P true g (w.at k)=.ended (.done v) (w.at k) es/\(∀e∈es,pJ Shun w.heap.size e)/\Post v (w.at k)):bT P Post n Shun d g w:=by
 have key:∀(M:Nat)(gs:uaz)(sl:ubb)(q:uas)(t:Trace)(c:Nat),sumTo gs.size q<=M->gs.size=n->gs[0]?=some g->Leavers P t gs q->nQ Shun w.heap.size d n t->mQ P Post (crowd gs (w.at c) sl) t:=by
  intro M;induction M with
  |zero=>
   intro gs sl q t c m hn h0 a b;obtain⟨i,g1,k,sl',hi,hg,hst⟩:=crowd_pick (P:=P) (w:=w.at c) (sl:=sl) (Hd a h0 hs) AA;rcases vbq i with rfl|f
   .obtain rfl:g1=g:=by grind
    obtain⟨v,es,e1,e2,e3⟩:=h k;exact abO AA hst a b h0 e1 e2 e3
   .obtain⟨gs',j,ops,_,_,_,_,_,l⟩:=Oa (w:=w) (k:=k) (sl':=sl') hn a b h0 hs f hi hg;omega
  |succ M o=>
   intro gs sl q t c m hn h0 a b;obtain⟨i,g1,k,sl',hi,hg,hst⟩:=crowd_pick (P:=P) (w:=w.at c) (sl:=sl) (Hd a h0 hs) AA;rcases vbq i with rfl|f
   .obtain rfl:g1=g:=by grind
    obtain⟨v,es,e1,e2,e3⟩:=h k;exact abO AA hst a b h0 e1 e2 e3
   .obtain⟨gs',j,ops,e1,e2,e3,e4,eE,p⟩:=Oa (w:=w) (k:=k) (sl':=sl') hn a b h0 hs f hi hg;exact mQ.step (hst.trans e1) AA
 intro gs sl q t hn h0 a b;exact key _ gs sl q t w.drawn JR hn h0 a b
end
section
open ConcM
section
variable{P:cE}{Shun:ual}{Stop:uax}{d:Nat}
def o7{g g1:uaj}{w w1:aR}(hs:g.status=.running)(h:∀k,stepG P true g (w.at k)=.go g1 (w1.at k) es)(a:∀e∈es,pJ Shun w1.heap.size e)(hsz:w.heap.size<=w1.heap.size)(b:e8 P Shun Stop (deafBehind d es) g1 w1):e8 P Shun Stop d g w:=
 e8.mk hs λk=>⟨g1,w1.at k,es,h k,a,hsz,b.at k⟩
def eh{a b c:aR}(h:AtRel a b)(k:AtRel b c):AtRel a c:=atRel_trans a b c h k
def Ob{m}(d:∀a,m≠ .release a/\m≠ .read a/\m≠ .write a)wr b{B}:pJ Shun B ⟨.mark m,wr,b⟩:=by
 have h1:(MemAct.ofEvent ⟨.mark m,wr,b⟩)=.mark m:=by cases wr<;>cases b<;>rfl
 refine⟨λx c=>?_,λa e=>?_⟩
 .simp_all[MemAct.touch?]
 grind
def abP{a}(hs:Shun (.cell a)){B}(e:a.block<B)wr:pJ Shun B ⟨.cell a,wr,true⟩:=by
 have h1:(MemAct.ofEvent ⟨.cell a,wr,true⟩)=.access ⟨.cell a,wr,true⟩:=by cases wr<;>rfl
 refine⟨λx c=>?_,AA⟩;rw[h1]at c;simp only[MemAct.touch?,vbm]at c;subst c;exact⟨AA,λb d=>by cases d;exact e⟩
def Kj{a}(hs:¬Shun (.cell a)){B}(e:a.block<B)wr:pJ Shun B ⟨.cell a,wr,false⟩:=by
 have h1:(MemAct.ofEvent ⟨.cell a,wr,false⟩)=.access ⟨.cell a,wr,false⟩:=by cases wr<;>rfl
 refine⟨λx c=>?_,AA⟩;rw[h1]at c;simp only[MemAct.touch?,vbm]at c;subst c;exact⟨AA,λb d=>by cases d;exact e⟩
theorem abQ{K mine e B}(h:yz K mine e)(hs:∀b,K b\/mine b->∀l,fy l=some b->¬Shun l)(j:∀b,K b\/mine b->b<B):pJ Shun B e:=by
 obtain⟨loc,wr,f⟩:=e;cases loc with
 |cell a=>
  obtain⟨h1,_,h3⟩:=h;simp only at h3;subst h3;refine⟨λx d=>?_,λa e=>by cases wr<;>cases e⟩
  have c:x=⟨.cell a,wr,.plain⟩:=by grind[MemAct.ofEvent,MemAct.touch?]
  subst c;exact⟨λ_=>⟨λe=>absurd e (hs _ h1 _ Y),AA⟩,λb g=>by cases g;grind⟩
 |obj r=>
  obtain⟨h1,_,h3⟩:=h;simp only at h3;subst h3;refine⟨λx d=>?_,λa e=>by cases wr<;>cases e⟩
  have c:x=⟨.obj r,wr,.plain⟩:=by grind[MemAct.ofEvent,MemAct.touch?]
  subst c;exact⟨λ_=>⟨λe=>absurd e (hs _ h1 _ Y),AA⟩,λb g=>by cases g;grind⟩
 |output=>
  refine⟨λx d=>?_,λa e=>by cases wr<;>cases f<;>cases e⟩
  have c:x.loc=.output:=by grind[MemAct.ofEvent,MemAct.touch?]
  rw[c];exact⟨λe=>(by simp[Loc.isMemory]at e),λb e=>GA⟩
 |goroutines=>exact h.elim
 |mark m=>
  have i:(MemAct.ofEvent ⟨.mark m,wr,f⟩)=.mark m:=by cases wr<;>cases f<;>rfl
  cases m<;>first|exact h.elim|exact⟨λx d=>(by rw[i]at d;cases d),AA⟩
structure Left(X Y:a0):Prop where
 sub:∀b,X.mine b->Y.mine b
 kept:∀b,b<X.w.heap.size->¬X.mine b->Y.w.heap[b]?=X.w.heap[b]?
 new:∀b,Y.mine b->X.mine b\/(X.w.heap.size<=b/\b<Y.w.heap.size)
 size:X.w.heap.size<=Y.w.heap.size
 os:OsLater X.w.os Y.w.os
 output:Y.w.output=X.w.output
 tape:Y.w.tape=X.w.tape
 run:X.g.status=.running->Y.g.status=.running
def Uq{K post X}(h:ix P true K post X):X.g.status=.running->(∀b,K b\/X.mine b->b<X.w.heap.size)->(∀b,K b\/X.mine b\/X.w.heap.size<=b->∀l,fy l=some b->¬Shun l)->
 (∀Y,post Y->Left X Y->e8 P Shun Stop d Y.g Y.w)->e8 P Shun Stop d X.g X.w:=by
 induction h with
 |@done X h=>exact λhs _ _ k=>k X h ⟨λ_ h=>h,λ_ _ _=>rfl,AA,vac _,.refl _,rfl,rfl,id⟩
 |@step X ok _ j=>
  intro hs r s k;refine e8.mk hs λn=>?_;have hrel:me K X (X.w.at n):=⟨λ_ _=>rfl,vac _,.refl _⟩;obtain⟨g1,w1,es,hst,hg⟩:=ok (X.w.at n) hrel;have hsz:X.w.heap.size<=w1.heap.size:=hg.size;have o:∀b,grown X.mine (X.w.at n) w1 b->X.mine b\/(X.w.heap.size<=b/\b<w1.heap.size):=λb h=>h;have p:∀b,K b\/grown X.mine (X.w.at n) w1 b->∀l,fy l=some b->¬Shun l:=AA;have f:∀b,K b\/grown X.mine (X.w.at n) w1 b->b<w1.heap.size:=AA;have g:deafBehind d es=d:=by
   have:∀(l:ubk)(d:Nat),(∀e∈l,yz K (grown X.mine (X.w.at n) w1) e)->deafBehind d l.toArray=d:=by
    intro l;induction l with
    |nil=>intro d _;rfl
    |cons e l ihl=>
     intro d a;have h1:deafBehind d (e::l).toArray=deafBehind (deafBehind d #[e]) l.toArray:=by simp[deafBehind]
     have h2:deafBehind d #[e]=d:=by
      have c:=a e AS;obtain⟨loc,wr,q⟩:=e;cases loc with
      |mark m=>cases m<;>first|exact c.elim|rfl
      | _=>rfl
     grind
   exact this es.toList d λe c=>hg.evs e AA
  refine⟨g1,w1,es,hst,λe c=>abQ (hg.evs e c) p f,hsz,?_⟩;rw[g];refine j (X.w.at n) g1 w1 es hrel hst hg.run f (λb t=>?_) (λY i a=>k Y i ?_)
  .grind
  .refine⟨λb h=>a.sub b (.inl h),λb h1 h2=>(a.kept b AA λh=>?_).trans (hg.kept b h1 h2),λb h=>?_,vad hsz a.size,(show OsLater X.w.os Y.w.os from by rw[<-show w1.os=X.w.os from hg.os];exact a.os),a.output.trans hg.output,a.tape.trans hg.tape,λ_=>a.run hg.run⟩
   .grind
   .rcases a.new b h with h|h
    .rcases o b h with h|h
     .grind
     .exact .inr ⟨h.1,vak h.2 a.size⟩
    grind
end
end
end cV
namespace bd
open RowKit Shelf av
abbrev yi(s:Int):Value:=.agg #[.I (s / 18446744073709551616),.int .u64 (s % 18446744073709551616)]
abbrev r4(s:Int):Prop:= -1267650600228229401496703205376<=s/\s<=1267650600228229401496703205376
abbrev nX(n:Int):Prop:= -9223372036854775808<=n/\n<=9223372036854775807
def azX u:(ae prog u).funcs[(133:Nat)]?=some f133:=by simp only[ae,vcf,func133,vcy,Cy];rw[vca A8]
def azY(u:Bool)(x y:Int)(i:0<=x)(g:0<=y)(w:aR):Sem.run (ae prog u) (callFunc 133 #[.int .u64 x,.int .u64 y,.int .u64 0]) w=.ok (.value (.tuple #[.int .u64 ((x+y) % 18446744073709551616),.int .u64 ((x+y) / 18446744073709551616)])) w:=by
 obtain⟨f,e,d,c⟩:=Sr (fn:=f133) AD;have h:Sem.run (ae prog u) (callFunc 133 #[.int .u64 x,.int .u64 y,.int .u64 0]) w=.ok (.value (Extern.MathBitsCarry.pair ((x.toNat+y.toNat) % 18446744073709551616) ((x.toNat+y.toNat) / 18446744073709551616))) w:=by unfold callFunc;simp only[m9,Go.program,Sem.run,azX u,c,d,Option.isNone_none,vcx,vah,vcr,f,e];rfl
 obtain⟨a,rfl⟩:=Int.eq_ofNat_of_zero_le i;obtain⟨b,rfl⟩:=Int.eq_ofNat_of_zero_le g;rw[h];simp only[Extern.MathBitsCarry.pair,Int.toNat_natCast,Int.ofNat_eq_natCast,Int.natCast_emod,Int.natCast_ediv,Int.natCast_add];rfl
theorem wrap_u64 n:IntKind.wrap .u64 n=n % 18446744073709551616:=by simp[IntKind.wrap,show IntKind.signed .u64=false from Y,show IntKind.bits .u64=64 from Y]
def vD u:(ae prog u).funcs[(215:Nat)]?=some f215:=bb (upd:=u) func215 A8
@[simp] theorem aJ3 (u:Bool) (args:dX) (w:aR):Sem.run (ae prog u) (callFunc 215 args) w=.ok (.enter 215 args) w:=cR (vD u) A8 args w
theorem yN u:(ae prog u).funcs[(118:Nat)]?=some f118:=bb (upd:=u) func118 A8
@[simp] theorem aJ4 (u:Bool) (args:dX) (w:aR):Sem.run (ae prog u) (callFunc 118 args) w=.ok (.enter 118 args) w:=cR (yN u) A8 args w
theorem W9 u:(ae prog u).funcs[(222:Nat)]?=some f222:=bb (upd:=u) func222 A8
@[simp] theorem aJ5 (u:Bool) (args:dX) (w:aR):Sem.run (ae prog u) (callFunc 222 args) w=.ok (.enter 222 args) w:=cR (W9 u) A8 args w
variable{u:Bool}
def W_(n:Int)(hn:nX n)(w:aR):
 Calls (ae prog u) 215 #[.I n] w λe w'=>e=.returned (yi n)/\c6 w w':=by
 have e1:n / 9223372036854775808=n / 18446744073709551616:=AQ;have e2:=wrap_u64 n;go_enter (vD u),ntmps215
 go_wp2
 exact vav (v:=yi n) (by simp[results,results215,go_sem]) Y ⟨Y,(vaa _ w).alloc JR _⟩
def yK(s t:Int)(hs:r4 s)(ht:r4 t)(w:aR):
 Calls (ae prog u) 118 #[yi s,yi t] w λe w'=>e=.returned (yi (s+t))/\c6 w w':=by
 have a:=azY u (s % 18446744073709551616) (t % 18446744073709551616) AQ AQ;go_enter (yN u),ntmps118
 go_wp2
 have e:s / 18446744073709551616+t / 18446744073709551616+(s % 18446744073709551616+t % 18446744073709551616) / 18446744073709551616=(s+t) / 18446744073709551616:=AQ;rw[e];exact vav (v:=yi (s+t)) (by simp[results,results118,go_sem]) Y ⟨Y,(((vaa _ w).alloc JR _).alloc AS _).alloc BA _⟩
def s2(s:Int):Int:=wrap64 (s % 18446744073709551616)
def azZ s:nX (s2 s):=by unfold s2 wrap64;omega
def az0 s:(s2 s / 18446744073709551616=s / 18446744073709551616/\s2 s % 18446744073709551616=s % 18446744073709551616)↔nX s:=by unfold s2 wrap64;omega
theorem yH{s}(h:nX s):s2 s=s:=by unfold s2 wrap64;omega
def az1(s m:Int)(b:Bool)(hs:r4 s)(i:wrap64 (s % 18446744073709551616)=m)(d:nX m)(f:(b=true/\s=m)\/(b=false/\m / 18446744073709551616=s / 18446744073709551616/\¬m % 18446744073709551616=s % 18446744073709551616)\/(b=false/\¬m / 18446744073709551616=s / 18446744073709551616))(w:aR):
 Calls (ae prog u) 222 #[yi s] w λe w'=>e=.returned (.tuple #[.I m,.bool b])/\c6 w w':=by
 have dF:∀(W w1:aR),c6 w W->Below W.drew.heap.size W.drew w1->c6 w w1:=λW w1 h1 h2=>h1.trans ((show Below w.heap.size W W.drew from⟨Y,Y,Y,vac _,λ_ _=>Y⟩).trans (h2.mono h1.size));rcases f with⟨rfl,h0⟩|⟨rfl,h1,h2⟩|⟨rfl,h1⟩
 .subst h0;go_enter (W9 u),ntmps222
  go_wp2
  have b0:=ag.new w #[.I (s / 18446744073709551616),.int .u64 (s % 18446744073709551616)] 201;have c:Hid _:=(vaa w.heap.size w).alloc JR (.cells #[.I (s / 18446744073709551616),.int .u64 (s % 18446744073709551616)] 201);generalize(w.alloc _)=W at *;obtain⟨c1,bt,cF⟩:=b0.all;go_region_with (go_at_call 215;refine(W_ _ d _).mono ?_;rintro e w1 ⟨rfl,a⟩;obtain⟨d1,h,g⟩:=(b0.drew.call a).all)
  all_goals
   go_wp2
   exact vav (v:=.tuple #[.I s,.T]) (by simp[results,results222,Act.put,go_sem]) Y ⟨Y,dF _ _ c.out a⟩
 all_goals
  go_enter (W9 u),ntmps222
  go_wp2
  have b0:=ag.new w #[.I (s / 18446744073709551616),.int .u64 (s % 18446744073709551616)] 201;have c:Hid _:=(vaa w.heap.size w).alloc JR (.cells #[.I (s / 18446744073709551616),.int .u64 (s % 18446744073709551616)] 201);generalize(w.alloc _)=W at *;obtain⟨c1,bt,cF⟩:=b0.all;go_region_with (go_at_call 215;refine(W_ _ d _).mono ?_;rintro e w1 ⟨rfl,a⟩;obtain⟨d1,h,g⟩:=(b0.drew.call a).all)
  all_goals
   go_wp2
   exact vav (v:=.tuple #[.I m,.F]) (by simp[results,results222,Act.put,go_sem]) Y ⟨Y,dF _ _ c.out a⟩
def az2(s:Int)(hs:r4 s)(w:aR):
 Calls (ae prog u) 222 #[yi s] w λe w'=>e=.returned (.tuple #[.I (s2 s),.bool (decide (nX s))])/\c6 w w':=by
 refine az1 s (s2 s) _ hs Y (azZ s) ?_ w;have hq:=az0 s;by_cases hI:nX s
 .exact .inl ⟨decide_eq_true hI,(yH hI).symm⟩
 .by_cases h1:s2 s / 18446744073709551616=s / 18446744073709551616
  .exact .inr (.inl ⟨decide_eq_false hI,h1,λh=>hI (hq.1 ⟨h1,h⟩)⟩)
  .exact .inr (.inr ⟨decide_eq_false hI,h1⟩)
