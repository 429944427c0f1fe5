import Derived.Test.YtebcnmadaaimoaaGreatP01
import Derived.Test.YtebcnmadaaimoaaGreatProg
import Derived.Deep.Light
import Derived.RangeFuncBound
import Derived.Shelf.RegionOpen
import Derived.LoopNIn
import Derived.LoopIn
import Derived.Maps.OwnIn
import Derived.Lib.BufferWrite
import Derived.Conc.Beside
import Derived.Test.YtebcnmadaaimoaaGreatPAC
set_option linter.all false
set_option maxRecDepth 100000
set_option maxHeartbeats 16000000
namespace Go.Proofs.YtebcnmadaaimoaaGreat
open Go.Proofs.Tryz
namespace az
section
section
variable(P:cf)(u:Bool)
@[simp] theorem akb:(ae P u).toTables=P.toTables:=rfl
@[simp] theorem rL (t:uaa):(ae P u).underlying t=P.underlying t:=rfl
@[simp] theorem aDl:(ae P u).depth=P.depth:=rfl
@[simp] theorem aDm (t:uaa):(ae P u).stoodInHeld t=P.stoodInHeld t:=(LU (C:=da P u) U t).symm
@[simp] theorem aDn (n:Nat) (t:uaa):(ae P u).eqGuardType n t=P.eqGuardType n t:=(Xf (C:=da P u) U n t).symm
@[simp] theorem aDo (t:uaa):(ae P u).cellsOf t=P.cellsOf t:=rfl
@[simp] theorem aDp (t:uaa):(ae P u).bytesOf t=P.bytesOf t:=rfl
@[simp] theorem XU (t:uaa) (w:aL):Sem.run (ae P u) (typeInfo t) w=Sem.run P (typeInfo t) w:=by unfold typeInfo;simp only[m2,Go.program,Sem.run,akb];cases P.info? t<;>rfl
@[simp] theorem akc (t:uaa) (w:aL):Sem.run (ae P u) (underlying t) w=Sem.run P (underlying t) w:=by unfold underlying;simp only[m2,Go.program,Sem.run,rL];cases P.underlying t<;>rfl
@[simp] theorem aDq (t:uaa) (w:aL):Sem.run (ae P u) (Go.sizeOf t) w=Sem.run P (Go.sizeOf t) w:=by unfold Go.sizeOf;simp only[m2,XU];cases Sem.run P (typeInfo t) w<;>rfl
@[simp] theorem aDr (t:uaa) (w:aL):Sem.run (ae P u) (zeroValue t) w=Sem.run P (zeroValue t) w:=by unfold zeroValue;simp only[m2,XU];cases Sem.run P (typeInfo t) w with|ok i w1=>simp only[];cases i.zero<;>rfl|halt h w1=>rfl
@[simp] theorem aDs (t:uaa) (w:aL):Sem.run (ae P u) (isAgg t) w=Sem.run P (isAgg t) w:=by unfold isAgg;simp only[m2,akc];cases Sem.run P (underlying t) w with|ok i w1=>cases i<;>rfl|halt h w1=>rfl
end
def dg{P:cf}{u:Bool}{f:uaj}{fn:Func}(h:(ae P u).funcs[f]?=some fn)(hk:ir P u fn=true)(args:df)(w:aL):Sem.run (ae P u) (callFunc f args) w=.ok (.enter f args) w:=by
 unfold callFunc;simp only[ir,vaf,bne_iff_ne]at hk;have hn:(fn.name== "runtime.NumGoroutine")=false:=AF;have a:fn.body.isNone=false:=by cases a:fn.body with|none=>grind|some c=>rfl
 simp only[m2,Go.program,Sem.run,h,hn,a];rfl
end
end az
namespace cu
open RowKit az
abbrev _root_.Go.Proofs.YtebcnmadaaimoaaGreat.cX(u:Bool)(n:uaj):Prop:=∀(a:df)(w:aL),Sem.run (ae prog u) (callFunc n a) w=.ok (.enter n a) w
@[simp] theorem aDu:cX true 97:=dg (bB (upd:=true) func97 AQ) AQ
@[simp] theorem aDv:cX true 63:=dg (bB (upd:=true) func63 AQ) AQ
@[simp] theorem aDw:cX true 102:=dg (bB (upd:=true) func102 AQ) AQ
@[simp] theorem aDx:cX true 137:=dg (bB (upd:=true) func137 AQ) AQ
@[simp] theorem aDy:cX true 101:=dg (bB (upd:=true) func101 AQ) AQ
@[simp] theorem aDz:cX true 98:=dg (bB (upd:=true) func98 AQ) AQ
@[simp] theorem aDA:cX true 140:=dg (bB (upd:=true) func140 AQ) AQ
@[simp] theorem aDB:cX true 65:=dg (bB (upd:=true) func65 AQ) AQ
@[simp] theorem aDC:cX true 120:=dg (bB (upd:=true) func120 AQ) AQ
@[simp] theorem aDD:cX true 121:=dg (bB (upd:=true) func121 AQ) AQ
@[simp] theorem aDE:cX true 122:=dg (bB (upd:=true) func122 AQ) AQ
@[simp] theorem aDF:cX true 99:=dg (bB (upd:=true) func99 AQ) AQ
@[simp] theorem aDG:cX true 64:=dg (bB (upd:=true) func64 AQ) AQ
@[simp] theorem aDH:cX true 60:=dg (bB (upd:=true) func60 AQ) AQ
@[simp] theorem aDI:cX true 59:=dg (bB (upd:=true) func59 AQ) AQ
@[simp] theorem aDJ:cX true 61:=dg (bB (upd:=true) func61 AQ) AQ
@[simp] theorem aDK:cX true 39:=dg (bB (upd:=true) func39 AQ) AQ
@[simp] theorem aDL:cX true 31:=dg (bB (upd:=true) func31 AQ) AQ
@[simp] theorem aDM:cX true 22:=dg (bB (upd:=true) func22 AQ) AQ
@[simp] theorem aDN:cX true 42:=dg (bB (upd:=true) func42 AQ) AQ
@[simp] theorem aDO:cX true 62:=dg (bB (upd:=true) func62 AQ) AQ
@[simp] theorem aDP:cX true 41:=dg (bB (upd:=true) func41 AQ) AQ
@[simp] theorem aDQ:cX true 40:=dg (bB (upd:=true) func40 AQ) AQ
@[simp] theorem aDR:cX true 32:=dg (bB (upd:=true) func32 AQ) AQ
@[simp] theorem aDS:cX true 34:=dg (bB (upd:=true) func34 AQ) AQ
@[simp] theorem aDT:cX true 44:=dg (bB (upd:=true) func44 AQ) AQ
@[simp] theorem aDU:cX true 33:=dg (bB (upd:=true) func33 AQ) AQ
@[simp] theorem aDV:cX true 23:=dg (bB (upd:=true) func23 AQ) AQ
@[simp] theorem aDW:cX true 24:=dg (bB (upd:=true) func24 AQ) AQ
@[simp] theorem X1:cX true 17:=dg (bB (upd:=true) func17 AQ) AQ
@[simp] theorem X2:cX true 16:=dg (bB (upd:=true) func16 AQ) AQ
theorem akk:pN (ae prog true) 76 112 (.agg #[.I 0,.I 0]) 2 16:=⟨Bc,Ao,AU,AU⟩
def akl:pN (ae prog true) 61 76 (.N) 1 24:=⟨Bc,Ao,AU,AU⟩
def Iy:pN (ae prog true) 34 4 (.F) 1 1:=⟨Bc,Ao,AU,AU⟩
def X3:pN (ae prog true) 29 3 (.I 0) 1 8:=⟨Bc,Ao,AU,AU⟩
def Q4:pN (ae prog true) 32 2 (.I 0) 1 8:=⟨Bc,Ao,AU,AU⟩
def Q5:pN (ae prog true) 33 9 (.string ByteArray.empty) 1 16:=⟨Bc,Ao,AU,AU⟩
def Q6:pN (ae prog true) 25 36 (.agg #[.I 0,.I 0,.N,.N,.N]) 5 88:=⟨Bc,Ao,AU,AU⟩
def Mf(s:Int):Bool:=decide (0<=s)&&decide (s<=6)
def X4(t:ubp):Bool:=t.1==1||t.1==2
def akm(a:Int)(w:aL):
 Calls (ae prog true) 97 #[.I a] w λe w'=>e=.returned (.bool (Mf a))/\w'=w:=by
 unfold Mf;go_enter (bB (upd:=true) func97 AQ),ntmps97
 go_wp2
 all_goals(go_ret;refine⟨?_,U⟩;simp[*]<;>omega)
def akn(a b c:Int)(w:aL):
 Calls (ae prog true) 63 #[.I a,.I b,.I c] w λe w'=>e=.returned (.bool (decide (b<=a)&&decide (a<=c)))/\w'=w:=by
 go_enter (bB (upd:=true) func63 AQ),ntmps63
 go_wp2
 all_goals(go_ret;refine⟨?_,U⟩;simp[*]<;>omega)
def aDX(t:ubp)(w:aL):
 Calls (ae prog true) 102 #[Cd t] w λe w'=>e=.returned (.bool (X4 t))/\cC w w':=by
 obtain⟨k,s⟩:=t;unfold X4;go_enter (bB (upd:=true) func102 AQ),ntmps102
 go_wp2
 all_goals(go_ret;refine⟨?_,(vaa _ _).alloc AF _⟩;simp[*])
def Iz(t:ubp):Bool:=if t.1=1\/t.1=3 then t.2==0 else if t.1=2 then Mf t.2 else false
def ako(t:ubp)(w:aL):
 Calls (ae prog true) 60 #[Cd t] w λe w'=>e=.returned (.bool (Iz t))/\cC w w':=by
 obtain⟨k,s⟩:=t;go_enter (bB (upd:=true) func60 AQ),ntmps60
 go_wp2_with (go_at_call 97;refine(akm _ _).mono ?_;rintro e w' ⟨rfl,rfl⟩)
 all_goals(go_ret;refine⟨?_,(vaa _ _).alloc AF _⟩;go_light;simp_all[Iz])
def X5(k s:Int)(be vs a:Value)(w:aL):
 Calls (ae prog true) 59 #[.agg #[.I k,.I s,be,vs,a]] w λe w'=>e=.returned (Cd (k,s))/\cC w w':=by
 go_enter (bB (upd:=true) func59 AQ),ntmps59
 go_wp2
 exact vbw (v:=Cd (k,s)) (by simp[results,results59,go_sem]) U ⟨U,((vaa _ _).alloc AF _).alloc Ab _⟩
def operands(op:Int):Int×Bool:=
 if op=1\/op=2\/op=3\/op=4 then(0,true)else if op=8\/op=14\/op=15 then(1,true)
 else if op=5\/op=6\/op=7\/op=9\/op=10\/op=11\/op=12\/op=13 then(2,true)else(0,false)
def sM(fz:uae)(p:Int):(Int×Int)×Bool:=
 if 0<=p/\p<fz.length then(fz.getD p.toNat (0,0),true)else((0,0),false)
def X6(fz:uae)(v:Value)(p:Int)(w:aL)(hv:gC w v fz):
 Calls (ae prog true) 65 #[v,.I p] w λe w'=>e=.returned (.tuple #[Cd (sM fz p).1,.bool (sM fz p).2])/\cC w w':=by
 obtain⟨m,cap,rfl,k,j⟩:=hv;by_cases h:0<=p/\p<fz.length
 .have a:Hid (sM fz p=(fz.getD p.toNat (0,0),true)):=by unfold Hid sM;rw[vbv h]
  obtain⟨d,i⟩:=h;obtain⟨q,rfl⟩:=Int.eq_ofNat_of_zero_le d;have c:q<fz.length:=AX;obtain⟨b,off,rfl,f,n⟩:=j q c;simp at f;have l:=fp f;go_enter (bB (upd:=true) func65 AQ),ntmps65
  go_wp2
  exact vbw (v:=.tuple #[Cd (fz[q]),.T]) (by simp[results,results65,go_sem]) U ⟨by rw[a.out];simp[c],(vaa _ _).alloc AF _⟩
 .have a:Hid (sM fz p=((0,0),false)):=by unfold Hid sM;rw[vbp h]
  by_cases d:p<0;rotate_left
  focus
   have g:0<=p:=AX;have i:(fz.length:Int)<=p:=AX;obtain⟨q,rfl⟩:=Int.eq_ofNat_of_zero_le g;have c:fz.length<=q:=AX;clear h d
  rotate_left
  all_goals
   go_enter (bB (upd:=true) func65 AQ),ntmps65
   go_wp2
   exact vbw (v:=.tuple #[Cd (0,0),.F]) (by simp[results,results65,go_sem]) U ⟨by rw[a.out],(vaa _ _).alloc AF _⟩
def Cf(ok:ube)(n:Nat):Option Nat:=(List.range n).find? (λi=> !ok i)
def X_{ok:ube}{n:Nat}(h:∀j,j<n->ok j=true):Cf ok n=none:=by grind[Cf]
def Ya{ok:ube}{n k:Nat}(hk:k<n)(h:∀j,j<k->ok j=true)(a:ok k=false):Cf ok n=some k:=by unfold Cf;simp_all
def told(o:ubf):Int×Bool:=match o with|some k=>((k:Int),true)|none=>(0,false)
def sN(l:List ByteArray):Bool:=l.all λs=>decide (s.size<=16)
variable{l:List ByteArray}
def akp{k:Nat}(hk:k<l.length)(h:sN (l.take k)=true)(hs:l[k].size<=16):sN (l.take (k+1))=true:=by grind[sN,List.take_succ_eq_append_getElem]
def akq{k:Nat}(hk:k<l.length)(hs:¬l[k].size<=16):sN l=false:=by grind[sN]
def akr(l:List ByteArray)(v:Value)(w:aL)(hv:QW w v l):
 Calls (ae prog true) 61 #[v] w λe w'=>e=.returned (.bool (sN l))/\w'=w:=by
 obtain⟨j,cap,rfl,h,g⟩:=hv;go_enter (bB (upd:=true) func61 AQ),ntmps61
 go_wp2
 go_loop [4,7] (λ_ i=>∃k:Nat,k<=l.length/\i=.I k/\sN (l.take k)=true) (λ_ i=>l.length-(intOf i).toNat)
 case atStart=>exact⟨0,vav _,U,U⟩
 case round=>
  obtain⟨k,hk,rfl,ht⟩:=hrel;have c:Hid _:=ht;clear ht;by_cases a:k<l.length
  .obtain⟨b,off,rfl,f,hs⟩:=g k a;simp at f;by_cases d:l[k].size<=16
   .go_wp2
    go_round
    case rel=>exact⟨k+1,AX,by go_num,akp a c.out d⟩
    case measure=>simp[intOf];omega
   .go_wp2
    go_ret
    exact⟨by rw[akq a d];rfl,U⟩
  .go_wp2
   go_ret
   refine⟨?_,U⟩;have e:sN l=true:=by have:=c.out;grind
   rw[e];rfl
def IA(k s:Int)(IB ns cH:Nat)(fit:Bool)(rows:Int):Bool:=
 Iz (k,s)&&((cH:Int)==rows&&((IB:Int)==(if k=3 then 0 else rows)&&(ns:Int)==(if k=3 then rows else 0)))&&fit
def uT(c:aI)(rows:Int):Bool:=IA c.kind c.bV c.fy.length c.dT.length c.dt.length (sN c.dT) rows
abbrev aks(c:aI)(be vs aV:Value):Value:=.agg #[.I c.kind,.I c.bV,be,vs,aV]
def akt(k s:Int)(j b an:uan)(g ns c ci a m:Nat)(dT:List ByteArray)(rows:Int)(w:aL)(q:ns<=9223372036854775807)(o:QW w (.slice b ns a) dT):
 Calls (ae prog true) 39 #[.agg #[.I k,.I s,.slice j g ci,.slice b ns a,.slice an c m],.I rows] w λe w'=>e=.returned (.bool (IA k s g ns c (sN dT) rows))/\cC w w':=by
 go_enter (bB (upd:=true) func39 AQ),ntmps39
 go_wp2_with fail
 refine(X5 k s _ _ _ _).mono ?_;rintro e w1 ⟨rfl,f⟩;have cW:=(ah.new w #[.I k,.I s,.slice j g ci,.slice b ns a,.slice an c m] 36).call f;have i:cC w w1:=Below.step f ((vaa _ _).alloc Ab _) Ab;clear f;go_wp2_with fail
 refine(ako (k,s) _).mono ?_;rintro e p ⟨rfl,d⟩;have n:=cW.call d;obtain⟨t,r,v⟩:=n.all;have h:cC w p:=Below.step d i (by have:=i.size;omega);have l:=o.mono QV (bp.b7 h);clear d cW n o;by_cases hst:Iz (k,s)=true
 .go_wp2_with (go_at_call 61;refine(akr dT _ _ l).mono ?_;rintro e u ⟨rfl,rfl⟩)
  all_goals(go_ret;refine⟨?_,h⟩;go_light;clear t r l;simp_all[IA])
 .go_wp2
  go_ret
  simp_all[IA]
def aku(c:aI)(be vs b:Value)(rows:Int)(w:aL)(d:tD w be vs b c):
 Calls (ae prog true) 39 #[aks c be vs b,.I rows] w λe w'=>e=.returned (.bool (uT c rows))/\cC w w':=by
 obtain⟨g,a,f⟩:=d;have i:=a;obtain⟨m,ci,rfl,o,-⟩:=g;obtain⟨l,k,rfl,h,-⟩:=a;obtain⟨an,n,rfl,j,-⟩:=f;exact akt _ _ _ _ _ _ _ _ _ _ _ c.dT rows w h i
def FF(t:List aI):Nat:=match t with| []=>0|c::_=>c.dt.length
def mH(t:List aI):Bool:=decide (1<=t.length)&&decide (t.length<=8)&&decide (FF t<=40)&&t.all (λc=>uT c (FF t))
variable{t:List aI}
def akv{n:Int}{k:Nat}(hk:k<t.length)(h:((t.take k).all (λc=>uT c n))=true)(hs:uT t[k] n=true):((t.take (k+1)).all (λc=>uT c n))=true:=by grind[List.take_succ_eq_append_getElem]
def akw{n:Int}{k:Nat}(hk:k<t.length)(hs:uT t[k] n=false):(t.all (λc=>uT c n))=false:=by grind
def akx(h:0<t.length):FF t=t[0].dt.length:=by cases t with|nil=>grind|cons c r=>rfl
def aky(t:List aI)(v:Value)(w:aL)(hv:oy w v t):
 Calls (ae prog true) 31 #[.agg #[v]] w λe w'=>e=.returned (.bool (mH t))/\cC w w':=by
 obtain⟨bP,cap,rfl,T,E⟩:=hv;by_cases U:t.length<1
 .have e:Hid (mH t=false):=by grind[Hid,mH]
  go_enter (bB (upd:=true) func31 AQ),ntmps31
  go_wp2
  go_ret
  exact⟨by rw[e.out];rfl,(vaa _ _).alloc AF _⟩
 by_cases S:8<t.length
 .have e:Hid (mH t=false):=by grind[Hid,mH]
  go_enter (bB (upd:=true) func31 AQ),ntmps31
  go_wp2
  go_ret
  exact⟨by rw[e.out];rfl,(vaa _ _).alloc AF _⟩
 have h0:0<t.length:=AX;obtain⟨b,off,rfl,be,vs,aV,c_,c1,bG,dH,g,u⟩:=E 0 h0;simp at c_ c1 bG dH g;have a4:=akx h0;obtain⟨an,X,rfl,I,-⟩:=u.dt;rw[<-a4]at g I;clear u c_ c1 bG dH;generalize H:FF t=N at *;have o:Hid (FF t=N):=H;clear H a4;have Ye:=fp g;by_cases L:40<N
 .have e:Hid (mH t=false):=by grind[Hid,mH]
  go_enter (bB (upd:=true) func31 AQ),ntmps31
  go_wp2
  go_ret
  exact⟨by rw[e.out];rfl,(vaa _ _).alloc AF _⟩
 go_enter (bB (upd:=true) func31 AQ),ntmps31
 go_wp2
 go_loopw [27] (λi W=>∃k:Nat,k<=t.length/\i=.I k/\((t.take k).all (λc=>uT c N))=true/\cC w W) (λi _=>t.length-(intOf i).toNat)
 case atStart=>exact⟨0,vav _,rfl,rfl,(vaa _ _).alloc AF _⟩
 case round=>
  obtain⟨k,hk,rfl,x,y⟩:=hrel;have z:Hid _:=x;have f:Hid _:=y;clear x y;by_cases a:k<t.length
  .obtain⟨b',An,p,l,n,m,j,d1,C,B,A,h⟩:=E k a;simp at p;obtain⟨rfl,rfl⟩:=p;simp at j;have d:=bp.b7 f.out;have K:=d _ _ _ j;have e1:=d _ _ _ d1;have e2:=d _ _ _ C;have Z:=d _ _ _ B;have Y:=d _ _ _ A;have V:=fp K;have F:=(h.mono d).mono ((bp.refl _).alloc (.cells #[.I t[k].kind,.I t[k].bV,l,n,m] 36));clear d j d1 C B A g;obtain⟨R,ci,Q,P,O,M,rfl,rfl,rfl⟩:=h.shape;clear h;go_wp2_with fail
   refine(aku t[k] _ _ _ N _ F).mono ?_;rintro e w1 ⟨rfl,D⟩;have q:cC w w1:=Below.step D (f.out.alloc (by have:=f.out.size;omega) _) (by have:=f.out.size;simp;omega);have r:Hid _:=q;clear q D F;by_cases s:uT t[k] N=true
   .go_wp2
    go_roundw
    case rel=>exact⟨k+1,AX,by go_num,akv a z.out s,r.out⟩
    case measure=>simp[intOf];omega
   .have J:uT t[k] N=false:=by grind
    clear s;go_wp2
    go_ret
    refine⟨?_,r.out⟩;have e:mH t=false:=by unfold mH;rw[o.out,akw a J];simp
    rw[e];rfl
  .go_wp2
   go_ret
   refine⟨?_,f.out⟩;have e:mH t=true:=by have:=z.out;rw[vbz AX]at this;unfold mH;rw[o.out,this];grind
   rw[e];rfl
def x7(ts:List (List aI))(i:Nat):Bool:=decide (i<4)&&mH (ts.getD i [])
def Yf{w:aL}{a:uan}{n:Nat}{ts:List (List aI)}(c:∀i(h:i<ts.length),∃b off,a=some ⟨b,off,none⟩/\QX w (λj=>w.cell? (.a b (off+i*1+j))) ts[i])(hn:n<ts.length):
 ∃b off v,a=some ⟨b,off,none⟩/\w.cell? (.a b (off+n))=some v/\oy w v ts[n]:=by
 obtain⟨b,off,d,v,h0,hv⟩:=c n hn;grind
def akC(ts:List (List aI))(v:Value)(w:aL)(hv:Ca w v ts):
 Calls (ae prog true) 22 #[v] w λe w'=>e=.returned (.tuple #[.I (told (Cf (x7 ts) ts.length)).1,.bool (told (Cf (x7 ts) ts.length)).2])/\cC w w':=by
 obtain⟨D,cap,rfl,A,x⟩:=hv;go_enter (bB (upd:=true) func22 AQ),ntmps22
 go_wp2
 go_loopw [8] (λi W=>∃k:Nat,k<=ts.length/\i=.I k/\(∀j,j<k->x7 ts j=true)/\cC w W) (λi _=>ts.length-(intOf i).toNat)
 case atStart=>exact⟨0,vav _,U,AF,vaa _ _⟩
 case round=>
  obtain⟨k,hk,rfl,o,p⟩:=hrel;have d:Hid _:=o;have c:Hid _:=p;clear o p;by_cases a:k<ts.length
  .obtain⟨b,off,t,rfl,q,s⟩:=Yf x a;have f:=bp.b7 c.out;have u:=f _ _ _ q;have C:=fp u;have g:=s.mono tE (f.alloc (.cells #[t] 27));obtain⟨y,ct,rfl,-,-⟩:=s;clear f q;by_cases B:k<4
   .go_wp2_with fail
    refine(aky ts[k] _ _ g).mono ?_;rintro e w1 ⟨rfl,r⟩;have l:Hid (cC w w1):=Below.step r (c.out.alloc FD _) (by have:=c.out.size;simp;omega);clear r g;have hok:Hid (x7 ts k=mH ts[k]):=by grind[Hid,x7]
    by_cases m:mH ts[k]=true
    .go_wp2
     go_roundw
     case rel=>
      refine⟨k+1,AX,by go_num,λj n=>?_,l.out⟩;rcases Nat.lt_succ_iff_lt_or_eq.1 n with h|rfl
      .exact d.out j h
      .rw[hok.out];exact m
     case measure=>simp[intOf];omega
    .have z:mH ts[k]=false:=by grind
     clear m;go_wp2
     go_ret2
     refine⟨?_,l.out⟩;rw[Ya a d.out (by rw[hok.out];grind)];rfl
   .have hok:Hid (x7 ts k=false):=by grind[Hid,x7]
    clear g;go_wp2
    go_ret2
    refine⟨?_,c.out.alloc FD _⟩;rw[Ya a d.out hok.out];rfl
  .go_wp2
   go_ret2
   refine⟨?_,c.out⟩;rw[X_ (λj n=>d.out j AX)];rfl
def eL(t:List aI):List (Int×Int):=t.map λc=>(c.kind,c.bV)
def akD(t:List aI)(v:Value)(w:aL)(hv:oy w v t)(N:t.length<=1000000):
 Calls (ae prog true) 42 #[.agg #[v]] w λe w'=>∃m,e=.returned m/\gC w' m (eL t)/\fF 112 w' m/\cC w w':=by
 obtain⟨T,cap,rfl,hl,F⟩:=hv;have hlen:(eL t).length=t.length:=by simp[eL]
 go_enter (bB (upd:=true) func42 AQ),ntmps42
 go_wp2_with (at_make;refine Q7 akk _ rfl _ _ rfl _ _ t.length rfl rfl AX AX ?_;intro w1 bf S a r;have A:=(ah.new w #[.slice T t.length cap] 27).call r;obtain⟨Mh,X,Y⟩:=A.all)
 have y:cC w w1:=Below.step r ((vaa _ _).alloc Ab _) Ab;have H:ah w1 (w.heap.size+1) bf 112:=Bc;have U:Hid (ah w1 (w.heap.size+1) bf 112):=H;have K:Hid (cC w w1):=y;clear S H r y A;go_loopw [13] (λi W=>∃(k:Nat)(cs:df),k<=t.length/\i=.I k/\ah W (w.heap.size+1) cs 112/\cs.size=t.length*2/\FC cs (eL t) k/\cC w W)
  (λi _=>t.length-(intOf i).toNat)
 case atStart=>exact⟨0,bf,vav _,rfl,U.out,a,λj _ hj=>AF,K.out⟩
 case round=>
  obtain⟨k,cs,hk,rfl,u,J,s,z⟩:=hrel;have n:Hid (ah wr (w.heap.size+1) cs 112):=u;have I:Hid (FC cs (eL t) k):=s;have f:Hid (cC w wr):=z;have h:Hid _:=J;have Q9:Hid _:=a;clear u s z J a;by_cases o:k<t.length
  .obtain⟨b,off,rfl,be,vs,aV,p,d1,E,D,C,x⟩:=F k o;simp at p;have c:=bp.b7 f.out;have B:=c _ _ _ p;have R:=c _ _ _ d1;have Q:=c _ _ _ E;have P:=c _ _ _ D;have O:=c _ _ _ C;have fA:=fp B;clear c p d1 E D C;obtain⟨ja,ci,kM,kN,an,eZ,rfl,rfl,rfl⟩:=x.shape;clear x F;have Z:(0:Int)<=(k:Int):=AX;have kx:(k:Int)<(t.length:Int):=AX;go_wp2_with fail
   refine(X5 _ _ _ _ _ _).mono ?_;rintro e g ⟨rfl,q⟩;have d:=(n.out.alloc _).call q;have V:Hid (ah g (w.heap.size+1) cs 112):=d;have M:Hid (cC w g):=Below.step q (f.out.alloc (by have:=f.out.size;omega) _) (by have:=f.out.size;simp;omega);have Q_:g.cell? (.a (w.heap.size+1) (k*2))=some (cs[k*2]'(by have:=h.out;omega)):=by rw[d.rules.1];simp
   have Ra:g.cell? (.a (w.heap.size+1) (k*2+1))=some (cs[k*2+1]'(by have:=h.out;omega)):=by rw[d.rules.1];simp
   have Mi:=d.rules.2;clear d q B R Q P O;go_wp2_with fail
   go_roundw
   case rel=>
    refine⟨k+1,(cs.setIfInBounds (k*2) (.I t[k].kind)).setIfInBounds (k*2+1) (.I t[k].bV),AX,by go_num,(V.out.set _ _).set _ _,by simp;exact h.out,?_,(M.out.setCell Ab _).setCell Ab _⟩;have:=I.out.step AF (by rw[hlen];exact h.out);grind[eL]
   case measure=>simp[intOf];omega
  .have L:k=t.length:=by omega
   go_wp2_with fail
   go_ret
   refine⟨_,rfl,?_,fF.box n.out _ _ _,f.out⟩;have:=gC.eT (l:=eL t) n.out AF (by rw[hlen,<-L];exact I.out) t.length;simp_all
end cu
namespace bX
open RowKit Shelf az
variable{N gf nQ:Nat}{W W':aL}{v:Value}
section
attribute [local go_sem] Oper.semAt_some
def akK:(ae prog false).funcs[(110:Nat)]?=some f110:=bB (upd:=false) func110 AQ
def Typed(nQ:Nat)(e t:uaa)(W W':aL):Prop:=∀(b:Nat)(c:df)(u:uaa)(z:ubu),W.heap[b]?=some (Obj.cells c u z)->(b<nQ\/u≠e/\u≠t)->W'.heap[b]?=some (Obj.cells c u z)
def Typed.keep{e t:uaa}(h:jb W W'):Typed nQ e t W W':=λb c u z x _=>h.cells b c u z x
def akL{w1:aL}{B:Nat}{t e:uaa}{size:Nat}(a:Value){k:Nat}{xs:uad}{tmp:Obj}(hv:Boxed W B t v)(i:W.ownsRow nQ e size v k xs)(l:(W.alloc tmp).grownBy w1 v.ownBlock)(n:nQ<=B):
 Typed nQ e t W (w1.setCell ⟨B,0,none⟩ a):=by
 intro b c u z x j;have m:b≠B:=by rintro rfl;rw[show W.heap[b]?=_ from hv]at x;grind
 have d:=jS x;have f:some b≠v.ownBlock:=by
  rcases i.2 with⟨rfl,_⟩|⟨g,cap,bf,rfl,p,hg,_⟩
  .simp[Value.ownBlock]
  .intro h;simp[Value.ownBlock]at h;grind
 have o:=l.block b A2 f;simp_all[vcj,World.setCell,vbb,Ne.symm]
structure IJ(nQ:Nat)(Row:uau):Prop where
 shape:∀t W x,Row t W x->∃p pl pc q jp k9,x=.agg #[.slice p pl pc,.slice q jp k9]
 keep:∀t W W' x,Row t W x->Typed nQ 74 64 W W'->Row t W' x
def two(xs:ubg):List Value:=xs.flatMap λp=>[p.1,p.2]
def Yk(xs:ubg):(two xs).length=xs.length*2:=by induction xs with|nil=>rfl|cons a l b=>grind[two]
theorem Yl(xs:ubg)(p:Value×Value):two (xs++[p])=two xs++[p.1,p.2]:=by simp[two]
structure Au(Row:uau)(nQ t:Nat)(v:Value)(W:aL):Prop where
 own:∃xs:List (Value×Value),xs.length=t/\W.ownsRow nQ 74 2 v t (two xs)/\∀j(h:j<xs.length),Row j W (.agg #[xs[j].1,xs[j].2])
theorem Mk:(prog.info? 74).map (λi=>(i.zero,i.size,i.bytes))=some (some (.agg #[.N,.N]),2,48):=by kernel_rfl
def Au.Rh{Row:uau}{t:Nat}(f:IJ nQ Row)(h:Au Row nQ t v W)(hk:jb W W'):Au Row nQ t v W':=by obtain⟨xs,d,a,c⟩:=h;refine⟨xs,d,⟨a.1,a.2.imp_right ?_⟩,λj b=>f.keep _ _ _ _ (c j b) (.keep hk)⟩;rintro⟨g,cap,bf,a1,e,i,k⟩;exact⟨g,cap,bf,a1,e,hk.cells _ _ _ _ i,k⟩
def IK{l:Nat}{d:Option (List Deferred)}{o:Obj}(h:W.heap[l]?=some (.deferred d)):jb W (W.putObj l o):=
 ⟨Ab,λb c e z x=>by
  grind[World.putObj_heap_other]⟩
def ky(p:Prop):Prop:=p
def sQ{p:Prop}(h:ky p):p:=h
def Ym{Row:uau}{lb:df}(w:aL)(d:IJ w.heap.size Row)(rJ:∀args w,(callFunc gf args).run (ae prog false) w=.ok (.enter gf args) w)(rO:Mj True 301 2 (ae prog false) gf lb Row N w.heap.size w):
 Calls (ae prog false) 110 #[.func (.func gf) #[] lb] w λe w'=>∃v,e=.returned v/\Au Row w.heap.size (min N 301) v w'/\cC w w':=by
 refine(callsIn_wide (n:=3)).1 ?_;refine callsIn_of_wp_marks akK rfl trivial ?_;simp[vcg];gi_wp2
 have iH:Boxed (w.alloc (.cells #[.N] 64)) w.heap.size 64 (.N):=Boxed.new w _ _;refine Yi (L:=301) (id:=0) AX (n:=3) (gf:=gf) (lb:=lb) (w0:=w) (nQ:=w.heap.size) (N:=N) (Row:=Row) rfl rJ rO ((vaa _ w).alloc Jb _) Ab (λ_=>False) AF
  (λt D W=>∃v,Boxed W w.heap.size 64 v/\Au Row w.heap.size t v W/\∀b,D b↔b=w.heap.size\/v.ownBlock=some b)
  (λt D W W' h hk _=>by
   obtain⟨v,y,s,r⟩:=h;exact⟨v,hk.cells _ _ _ _ y,s.Rh d hk,r⟩)
  (λt D W⟨v,y,⟨_,_,s,_⟩,r⟩ b i=>by
   rcases(r b).1 i with rfl|i
   .exact jS y
   .exact(vdn s b i).2)
  (D0:=λb=>b=w.heap.size) ⟨_,iH,⟨[],rfl,vbm _ _ _ _,AF⟩,λb=>by simp[Value.ownBlock]⟩
  (λt x a' W=>∃f p pl pc q c a,W.heap[f]?=some (Obj.cells #[.slice p pl pc,.slice q c a] 74 (0,0))/\x=.agg #[.slice p pl pc,.slice q c a]/\Row t W x/\∃z,a'={tmps:=#[.func (.func gf) #[] lb,undef,.N,.P w.heap.size 0,.P f 0,.func (.func gf) #[] lb,z,.U,.U,.U,.U,.U,.U,.U,.U],defers:=[]})
  (λt x a' W W' h hk _=>by
   obtain⟨f,p,pl,pc,q,c,a,y,s,r,h4⟩:=h;exact⟨f,p,pl,pc,q,c,a,hk.cells _ _ _ _ y,s,d.keep _ _ _ _ r (.keep hk),h4⟩)
  ?assign ?body ?done
 case assign=>
  rintro l t x D W K- - -g hK;obtain⟨p,pl,pc,q,c,a,rfl⟩:=d.shape _ _ _ g;gi_wp2
  have X:cC W (W.alloc (.cells #[.slice p pl pc,.slice q c a] 74)):=(vaa _ W).alloc Jb _;exact hK _ _ X ⟨W.heap.size,p,pl,pc,q,c,a,vbg W _,rfl,d.keep _ _ _ _ g (.keep (.below X)),_,rfl⟩
 case body=>
  rintro l t x a' D W ⟨v,hv,⟨xs,hlen,g,tH⟩,B⟩ hlt Re ⟨f,p,pl,pc,q,c,a,I,rfl,S,z,rfl⟩ qI;obtain⟨i0,hi,qJ,rQ,rR⟩:=vci Mk;have o:=hv.cell;have Ac:W.cell? (.a f 0)=some (.slice p pl pc):=by simp[World.cell?,I]
  have gO:W.cell? (.a f 1)=some (.slice q c a):=by simp[World.cell?,I]
  gi_wp2_with (gi_at_builtin;apply sQ)
  unfold ky;refine wpListIn_append_own_at _ rfl _ _ 64 rfl w.heap.size 74 i0 _ 2 48 ((rL _ _ _).trans underlying64) hi qJ rQ rR rfl AU v t (two xs) rfl (g.alloc _) ⟨W.heap.size,0,none⟩ 1 1 [.slice p pl pc,.slice q c a] rfl rfl ?cel ?one C6 AX A2 ?_
  case cel=>
   have nI:=vbg W (.cells #[.slice p pl pc,.slice q c a] 74);intro j u m;rcases j with _ | _ |j
   .simp at m;subst m;show World.cell? _ ⟨W.heap.size,0,none⟩=_;simp_all
   .simp at m;subst m;show World.cell? _ ⟨W.heap.size,1,none⟩=_;simp_all
   grind
  case one=>
   intro u T;simp at T;rcases T with rfl|rfl<;>rfl
  intro v' w1 E C _ Mm;obtain⟨g',cap',rfl⟩:=ownsRow_succ E;obtain⟨F,R,x8,Y,Z⟩:=hv.appended AU g qI Jb E C;have P:=akL (.S g' 0 (t+1) cap') hv g C Jb;have lB:=F.cell;have jK:=F.frozen;have Q:∀D',(∀b,D' b↔b=w.heap.size\/(Value.slice (some {block:=g',off:=0}) (t+1) cap').ownBlock=some b)->IE D D' W (w1.setCell {block:=w.heap.size,off:=0} (.slice (some {block:=g',off:=0}) (t+1) cap')):=λD' M=>by
   refine⟨λb i h=>(B b).2 ?_,λb i h=>?_⟩
   .rcases(M b).1 h with e|e
    .exact .inl e
    .rcases Mm with k|k
     .exact .inr (k▸e)
     .rw[k]at e;simp at e;omega
   .have n1:b≠w.heap.size:=λe=>h ((B b).2 (.inl e));have eJ:some b≠v.ownBlock:=λe=>h ((B b).2 (.inr e.symm));rw[vat _ _ _ _ n1,C.block b A2 eJ,vcj _ _ _ i]
  have dN:Hid (∃D',(∃v,Boxed (w1.setCell {block:=w.heap.size,off:=0} (.slice (some {block:=g',off:=0}) (t+1) cap')) w.heap.size 64 v/\Au Row w.heap.size (t+1) v (w1.setCell {block:=w.heap.size,off:=0} (.slice (some {block:=g',off:=0}) (t+1) cap'))/\∀b,D' b↔b=w.heap.size\/v.ownBlock=some b)/\(IE D D' W (w1.setCell {block:=w.heap.size,off:=0} (.slice (some {block:=g',off:=0}) (t+1) cap')))):=by
   refine⟨_,⟨_,R,⟨xs++[(.slice p pl pc,.slice q c a)],AF,?_,λj m=>?_⟩,λb=>Iff.rfl⟩,Q _ λb=>Iff.rfl⟩
   .grind[Yl]
   .by_cases Mn:j<xs.length
    .rw[vcu Mn];exact d.keep _ _ _ _ (tH j Mn) P
    .have J:j=xs.length:=by grind
     subst J;simp;rw[hlen];exact d.keep _ _ _ _ S P
  have O:Hid _:=Y;have H:Hid _:=Z;clear P tH S R x8 Y Z Q Mm B E C g hv o Ac gO I F;by_cases A:t+1=301
  .have tI:(300:Int)<(t:Int)+1:=by omega
   gi_wp2
   .rw[A]at dN O H;exact⟨O.out,H.out,dN.out⟩
  .have tI:¬(300:Int)<(t:Int)+1:=by omega
   gi_wp2
   exact⟨O.out,H.out,dN.out⟩
 case done=>
  rintro D W ⟨v,hv,U,-⟩ V hK;have o:=hv.cell;by_cases A:301<=N
  .have e:(if 301<=N then Exit.exit 0 else Exit.normal)=Exit.exit 0:=vbv A;rw[e];clear e;gi_wp2
   refine⟨Ab,.inl ⟨_,_,rfl,run_takeDeferred hK,?_⟩⟩;refine⟨_,results_tmp rfl _ _ _,v,rfl,U.Rh d (IK hK),?_⟩;exact(((vaa _ w).alloc Jb _).trans V).trans (wC _ Ab)
  .have e:(if 301<=N then Exit.exit 0 else Exit.normal)=Exit.normal:=vbp A;rw[e];clear e;gi_wp2
   refine⟨Ab,.inl ⟨_,_,rfl,run_takeDeferred hK,?_⟩⟩;refine⟨_,results_tmp rfl _ _ _,v,rfl,U.Rh d (IK hK),?_⟩;exact(((vaa _ w).alloc Jb _).trans V).trans (wC _ Ab)
def akP{Row:uau}{lb:df}(a4:N<=300)(w:aL)(c:IJ w.heap.size Row)(b:∀args w,(callFunc gf args).run (ae prog false) w=.ok (.enter gf args) w)(a:Cj 2 (ae prog false) gf lb Row N w.heap.size w):
 Calls (ae prog false) 110 #[.func (.func gf) #[] lb] w λe w'=>∃v,e=.returned v/\Au Row w.heap.size N v w'/\cC w w':=by
 have:=Ym w c b (a.Yh (L:=301) AX);rwa[vdh AX]at this
end
structure cZ where
 dU:Bool
 num:Int
 bV:Int
 text:ByteArray
abbrev o6(d:cZ):Value:=.agg #[.bool d.dU,.I d.num,.I d.bV,.string d.text]
def jc:ByteArray:=⟨#[]⟩
def sR:cZ:=⟨true,0,0,jc⟩
def Ri(_:aL)(rd:ual)(d:cZ):Prop:=
 rd 0=some (.bool d.dU)/\rd 1=some (.I d.num)/\rd 2=some (.I d.bV)/\rd 3=some (.string d.text)/\d.text.size<=9223372036854775807
abbrev jq(w:aL):=a0 w 4 Ri
def gz(c:aI)(i:Nat):cZ:=
 if c.dt.getD i false then sR else if c.kind=3 then⟨false,0,0,c.dT.getD i jc⟩else⟨false,c.fy.getD i 0,c.bV,jc⟩
def Yn:(ae prog false).funcs[(186:Nat)]?=some f186:=bB (upd:=false) func186 AQ
@[simp] theorem aD8:cX false 186:=dg Yn AQ
theorem Mo:(ae prog false).funcs[(209:Nat)]?=some f209:=bB (upd:=false) func209 AQ
@[simp] theorem aD9:cX false 209:=dg Mo AQ
theorem wE(w:aL):Calls (ae prog false) 186 #[] w λe w'=>e=.returned (o6 sR)/\w'=w.alloc (.cells #[.T,.I 0,.I 0,.E] 91):=by
 go_enter Yn,ntmps186
 go_wp2
 exact vbw (v:=o6 sR) (by simp[results,results186,go_sem,sR,jc]) U ⟨U,U⟩
def akQ(c:aI)(i:Nat){be vs l:Value}(w:aL)(h:tD w be vs l c)(hn:i<c.dt.length)(hs:c.kind=3->i<c.dT.length)(hi:c.kind≠3->i<c.fy.length):
 Calls (ae prog false) 209 #[.agg #[.I c.kind,.I c.bV,be,vs,l],.I i] w λe w'=>e=.returned (o6 (gz c i))/\cC w w':=by
 obtain⟨r,ci,rfl,-,b⟩:=h.fy;obtain⟨q,p,rfl,-,es⟩:=h.dT;obtain⟨an,s,rfl,-,a3⟩:=h.dt;obtain⟨m,on,rfl,n⟩:=a3 i hn;have j:w.cell? (.a m (on+i))=some (.bool c.dt[i]):=by simp_all[Am]
 have rP:=fp j;clear n a3;cases k:c.dt[i]with
 |true=>
  have a:gz c i=sR:=by grind[gz]
  rw[a];rw[k]at j;clear b es h a;go_enter Mo,ntmps209
  go_wp2_with (go_at_call 186;refine(wE _).mono ?_;rintro e w' ⟨rfl,rfl⟩)
  exact vbw (v:=o6 sR) (by simp[results,results209,go_sem,sR,jc]) U ⟨U,(((vaa _ w).alloc Jb _).alloc Ab _).alloc A2 _⟩
 |false=>
  rw[k]at j;by_cases hk:c.kind=3
  .obtain⟨bs,os,rfl,d⟩:=es i (hs hk);have y:=hs hk;have a:gz c i=⟨false,0,0,c.dT[i]⟩:=by grind[gz]
   rw[a];have g:w.cell? (.a bs (os+i))=some (.string c.dT[i]):=by simp_all[B_]
   have u:=fp g;clear b es h a d;go_enter Mo,ntmps209
   go_wp2
   exact vbw (v:=o6 ⟨false,0,0,c.dT[i]⟩) (by simp[results,results209,go_sem]) U ⟨U,((vaa _ w).alloc Jb _).alloc Ab _⟩
  .obtain⟨bi,cw,rfl,o⟩:=b i (hi hk);have x:=hi hk;have a:gz c i=⟨false,c.fy[i],c.bV,jc⟩:=by grind[gz]
   rw[a];have f:w.cell? (.a bi (cw+i))=some (.I c.fy[i]):=by simp_all[qG]
   have t:=fp f;clear b es h a o;go_enter Mo,ntmps209
   go_wp2
   go_region
   go_wp2
   exact vbw (v:=o6 ⟨false,c.fy[i],c.bV,jc⟩) (by simp[results,results209,go_sem,jc]) U ⟨U,(((vaa _ w).alloc Jb _).alloc Ab _).drew⟩
def akU:pN (ae prog false) 72 91 (.agg #[.F,.I 0,.I 0,.E]) 4 40:=⟨(rL _ _ _).trans underlying72,Ao,AU,AU⟩
def Yp:(ae prog false).funcs[(208:Nat)]?=some f208:=bB (upd:=false) func208 AQ
@[simp] theorem aD_:cX false 208:=dg Yp AQ
def Av(cs:df)(l:List cZ)(k:Nat):Prop:=∀j(h:j<l.length),j<k->cs[j*4]?=some (.bool l[j].dU)/\cs[j*4+1]?=some (.I l[j].num)/\cs[j*4+2]?=some (.I l[j].bV)/\cs[j*4+3]?=some (.string l[j].text)
abbrev IM(cs:df)(k:Nat)(d:cZ):Array Value:=(((cs.setIfInBounds (k*4) (.bool d.dU)).setIfInBounds (k*4+1) (.I d.num)).setIfInBounds (k*4+2) (.I d.bV)).setIfInBounds (k*4+3) (.string d.text)
theorem Av.step{cs:df}{l:List cZ}{k:Nat}(h:Av cs l k)(hk:k<l.length)(hs:cs.size=l.length*4):Av (IM cs k l[k]) l (k+1):=by
 intro j a b;by_cases e:j=k
 .subst e;grind
 .have:=h j a AX;simp only[IM,vak];grind
def jq.eT{w:aL}{b:Nat}{cs:df}{T:uaa}{l:List cZ}(h:ah w b cs T)(c:l.length<=9223372036854775807)(ht:∀d∈l,d.text.size<=9223372036854775807)(a:Av cs l l.length)(cap:Nat):jq w (.S b 0 l.length cap) l:=by
 refine⟨_,cap,U,c,λi hi=>⟨b,0,U,?_,?_,?_,?_,AF⟩⟩
 .simp;rw[h.rules.1];exact(a i hi hi).1
 .simp;rw[h.rules.1];exact(a i hi hi).2.1
 .simp;rw[h.rules.1];exact(a i hi hi).2.2.1
 .simp;rw[h.rules.1];exact(a i hi hi).2.2.2
structure wG(i:Nat)(c:aI):Prop where
 dt:i<c.dt.length
 dT:c.kind=3->i<c.dT.length
 fy:c.kind≠3->i<c.fy.length
 text:∀s∈c.dT,s.size<=9223372036854775807
def wG.small{i:Nat}{c:aI}(h:wG i c):(gz c i).text.size<=9223372036854775807:=by
 unfold gz;split
 .decide
 .split
  .rename_i hk;have:=h.dT hk;simp[this];exact h.text _ AF
  .show jc.size<=_;decide
def akV(t:List aI)(v:Value)(i:Nat)(w:aL)(hv:oy w v t)(O:t.length<=1000000)(c6:∀c∈t,wG i c):
 Calls (ae prog false) 208 #[.agg #[v],.I i] w λe w'=>∃b cs,e=.returned (.S b 0 t.length t.length)/\ah w' b cs 91/\cs.size=t.length*4/\Av cs (t.map (gz · i)) t.length/\w.heap.size<=b/\cC w w':=by
 obtain⟨U,cap,rfl,hl,H⟩:=hv;have hlen:(t.map (gz · i)).length=t.length:=Ab;go_enter Yp,ntmps208
 go_wp2_with (at_make;refine Q7 akU _ rfl _ _ rfl _ _ t.length rfl rfl AX AX ?_;intro w1 bf T f r;have B:=(ah.new w #[.slice U t.length cap] 110).call r;obtain⟨Mh,Y,Z⟩:=B.all)
 have y:cC w w1:=Below.step r ((vaa _ _).alloc Ab _) Ab;have I:ah w1 (w.heap.size+1) bf 91:=Bc;have V:Hid (ah w1 (w.heap.size+1) bf 91):=I;have L:Hid (cC w w1):=y;clear T I r y B;go_loopw [17] (λn W=>∃(k:Nat)(cs:df),k<=t.length/\n=.I k/\ah W (w.heap.size+1) cs 91/\cs.size=t.length*4/\Av cs (t.map (gz · i)) k/\cC w W)
  (λi _=>t.length-(intOf i).toNat)
 case atStart=>exact⟨0,bf,vav _,rfl,V.out,f,λj _ hj=>AF,L.out⟩
 case round=>
  obtain⟨k,cs,hk,rfl,x,K,u,A⟩:=hrel;have z:Hid (ah wr (w.heap.size+1) cs 91):=x;have J:Hid (Av cs (t.map (gz · i)) k):=u;have m:Hid (cC w wr):=A;have d:Hid _:=K;have Q9:Hid _:=f;clear x u A K f;by_cases l:k<t.length
  .obtain⟨b,off,rfl,be,vs,aV,p,d1,F,E,D,o⟩:=H k l;simp at p;have g:=bp.b7 m.out;have C:=g _ _ _ p;have S:=g _ _ _ d1;have R:=g _ _ _ F;have Q:=g _ _ _ E;have P:=g _ _ _ D;have fA:=fp C;obtain⟨ja,ci,kM,kN,an,eZ,rfl,rfl,rfl⟩:=o.shape;have HC:Hid (tD wr _ _ _ t[k]):=o.mono g;have s:=c6 _ (vax l);clear g p d1 F E D o H c6;have ml:(0:Int)<=(k:Int):=AX;have kx:(k:Int)<(t.length:Int):=AX;go_wp2_with fail
   refine(akQ t[k] i _ (HC.out.mono (bp.b7 ((vaa _ wr).alloc Jb _))) s.dt s.dT s.fy).mono ?_;rintro e h ⟨rfl,q⟩;have a:=(z.out.alloc _).call q;have X:Hid (ah h (w.heap.size+1) cs 91):=a;have N:Hid (cC w h):=Below.step q (m.out.alloc (by have:=m.out.size;omega) _) (by have:=m.out.size;simp;omega);have Q_:h.cell? (.a (w.heap.size+1) (k*4))=some (cs[k*4]'GZ):=by rw[a.rules.1];simp
   have Ra:h.cell? (.a (w.heap.size+1) (k*4+1))=some (cs[k*4+1]'GZ):=by rw[a.rules.1];simp
   have Yq:h.cell? (.a (w.heap.size+1) (k*4+2))=some (cs[k*4+2]'GZ):=by rw[a.rules.1];simp
   have Yr:h.cell? (.a (w.heap.size+1) (k*4+3))=some (cs[k*4+3]'GZ):=by rw[a.rules.1];simp
   have Mi:=a.rules.2;clear a q C S R Q P;go_wp2_with fail
   go_roundw
   case rel=>
    refine⟨k+1,IM cs k (gz t[k] i),AX,by go_num,(((X.out.set _ _).set _ _).set _ _).set _ _,by simp;exact d.out,?_,(((N.out.setCell Ab _).setCell Ab _).setCell Ab _).setCell Ab _⟩;have:=J.out.step AF (by rw[hlen];exact d.out);grind
   case measure=>simp[intOf];omega
  .have M:k=t.length:=by omega
   go_wp2_with fail
   go_ret
   exact⟨_,_,rfl,z.out,d.out,by rw[<-M];exact J.out,AX,m.out⟩
abbrev db:=cZ×cZ×cZ×cZ
def lX:cZ:=⟨false,0,0,jc⟩
def cq(q:db):Array Value:=#[.bool q.1.dU,.I q.1.num,.I q.1.bV,.string q.1.text,.bool q.2.1.dU,.I q.2.1.num,.I q.2.1.bV,.string q.2.1.text,.bool q.2.2.1.dU,.I q.2.2.1.num,.I q.2.2.1.bV,.string q.2.2.1.text,.bool q.2.2.2.dU,.I q.2.2.2.num,.I q.2.2.2.bV,.string q.2.2.2.text]
def jr(l:List cZ):db:=(l.getD 0 lX,l.getD 1 lX,l.getD 2 lX,l.getD 3 lX)
def akX(l:List cZ)(a:l.length<4)(d:cZ):IM (cq (jr l)) l.length d=cq (jr (l++[d])):=by match l,a with| [],_=>rfl| [_],_=>rfl| [_,_],_=>rfl| [_,_,_],_=>rfl
theorem akY(q:db):(cq q).size=16:=rfl
def Ys(u:Bool):(ae prog u).funcs[(54:Nat)]?=some f54:=bB (upd:=u) func54 E8
@[simp] theorem aEa (u:Bool) (args:df) (w:aL):Sem.run (ae prog u) (callFunc 54 args) w=.ok (.enter 54 args) w:=dg (Ys u) E8 args w
theorem Yt(u:Bool):(ae prog u).funcs[(200:Nat)]?=some f200:=bB (upd:=u) func200 E8
@[simp] theorem aEb (u:Bool) (args:df) (w:aL):Sem.run (ae prog u) (callFunc 200 args) w=.ok (.enter 200 args) w:=dg (Yt u) E8 args w
theorem Yu(u:Bool)(aE:e8)(vals:List cZ)(d:uan)(pl pc:Nat)(F H:Value)(w:aL)(hv:jq w F vals)(hk:eb w H (aE.map Int.ofNat))(m:∀k∈aE,k<vals.length)(h4:aE.length<=4):
 Calls (ae prog u) 54 #[.agg #[.slice d pl pc,F],H] w λe w'=>e=.returned (.agg (cq (jr (aE.map λk=>vals.getD k lX))))/\cC w w':=by
 obtain⟨g,h,rfl,nM,D⟩:=hv;obtain⟨ka,kc,rfl,wH,C⟩:=hk;rw[vcd]at *;obtain⟨q,hq⟩:∃q,q=jr (aE.map λk=>vals.getD k lX):=⟨_,rfl⟩;rw[<-hq];have rT:Hid _:=hq;clear hq;go_enter (Ys u),ntmps54
 go_wp2
 have E:=((ah.new w #[.slice d pl pc,.slice g vals.length h] 74).alloc (.cells (cq (jr [])) 138)).alloc (.cells (cq (jr [])) 138);have j:=(ah.new (w.alloc (.cells #[.slice d pl pc,.slice g vals.length h] 74)) (cq (jr [])) 138).alloc (.cells (cq (jr [])) 138);have l:=ah.new ((w.alloc (.cells #[.slice d pl pc,.slice g vals.length h] 74)).alloc (.cells (cq (jr [])) 138)) (cq (jr [])) 138;simp at j l;go_loopw [6,7,10] (λ_ _ x W=>∃k:Nat,k<=aE.length/\x=.I k/\ah W w.heap.size #[.slice d pl pc,.slice g vals.length h] 74/\(∃c1,ah W (w.heap.size+1) c1 138/\c1.size=16)/\ah W (w.heap.size+1+1) (cq (jr ((aE.take k).map λk=>vals.getD k lX))) 138/\cC w W)
  (λ_ _ x _=>aE.length-(intOf x).toNat)
 case atStart=>exact⟨0,vav _,rfl,E,⟨_,j,rfl⟩,l,(((vaa _ w).alloc Jb _).alloc Ab _).alloc A2 _⟩
 case round=>
  obtain⟨k,hk,rfl,iH,⟨c1,f,Q⟩,b,n⟩:=hrel;have Rl:Hid (ah wr w.heap.size #[.slice d pl pc,.slice g vals.length h] 74):=iH;have L:Hid (ah wr (w.heap.size+1) c1 138):=f;have K:Hid (ah wr (w.heap.size+1+1) (cq (jr ((aE.take k).map λk=>vals.getD k lX))) 138):=b;have I:Hid (cC w wr):=n;have c:=bp.b7 n;obtain⟨eU,gR,hh⟩:=iH.all;clear E j l iH n;by_cases B:k<aE.length
  .obtain⟨kb,ii,rfl,i⟩:=C k (by simpa using B);have p:=m aE[k] (vax B);obtain⟨Mq,nK,rfl,f0,f1,iu,f3,-⟩:=D aE[k] p;simp[qG]at i f0;replace i:=c _ _ _ i;replace f0:=c _ _ _ f0;replace f1:=c _ _ _ f1;replace iu:=c _ _ _ iu;replace f3:=c _ _ _ f3;have Rn:=fp i;have U:=fp f0;have hlen:((aE.take k).map λk=>vals.getD k lX).length=k:=AF;have hsz:=akY (jr ((aE.take k).map λk=>vals.getD k lX));have hst:=akX ((aE.take k).map λk=>vals.getD k lX) AX vals[aE[k]];rw[hlen]at hst;have Z:Hid (IM (cq (jr ((aE.take k).map λk=>vals.getD k lX))) k vals[aE[k]]=cq (jr ((aE.take (k+1)).map λk=>vals.getD k lX))):=by have N:vals.getD aE[k] lX=vals[aE[k]]:=AF;rw[hst,vcn B,vcr,vcy,veo,N];exact rfl
   clear hst;generalize hq:cq (jr ((aE.take k).map λk=>vals.getD k lX))=cs at *;have Q_:wr.cell? (.a (w.heap.size+1+1) (k*4))=some (cs[k*4]'AX):=Hb;have Ra:wr.cell? (.a (w.heap.size+1+1) (k*4+1))=some (cs[k*4+1]'AX):=Hb;have Yq:wr.cell? (.a (w.heap.size+1+1) (k*4+2))=some (cs[k*4+2]'AX):=Hb;have Yr:wr.cell? (.a (w.heap.size+1+1) (k*4+3))=some (cs[k*4+3]'AX):=Hb;have Mi:=b.rules.2;have fA:=b.lt;have ml:(0:Int)<=(k:Int):=AX;have kx:(k:Int)<(aE.length:Int):=AX;have O:(k:Int)<(4:Int):=AX;have IQ:(0:Int)<=(aE[k]:Int):=AX;have IR:(aE[k]:Int)<(vals.length:Int):=AX;clear f b c D C hq;go_wp2_with fail
   go_roundw
   case rel=>
    refine⟨k+1,AX,by go_num,(((Rl.out.fl A2 _).fl A2 _).fl A2 _).fl A2 _,⟨c1,(((L.out.fl Ab _).fl Ab _).fl Ab _).fl Ab _,Q⟩,?_,(((I.out.setCell A2 _).setCell A2 _).setCell A2 _).setCell A2 _⟩;rw[<-Z.out];exact(((K.out.set _ _).set _ _).set _ _).set _ _
   case measure=>simp[intOf];omega
  .have S:aE.take k=aE:=vbz AX;rw[S,<-rT.out]at b;clear K;have Mi:=f.rules.2;have J:=f.rules.1;have M:=b.rules.1;have x9:=f.lt;have ek:=b.lt;clear f b c D C;have a:∀o,o<16->∃v,wr.cell? (.a (w.heap.size+1) o)=some v:=λo ho=>by rw[J];exact⟨c1[o]'AX,Ab⟩
   obtain⟨mF,IS⟩:=a 0 AX;obtain⟨dw,T⟩:=a 1 AX;obtain⟨dI,R⟩:=a 2 AX;obtain⟨gh,P⟩:=a 3 AX;obtain⟨nO,Y⟩:=a 4 AX;obtain⟨x_,V⟩:=a 5 AX;obtain⟨Yw,Mr⟩:=a 6 AX;obtain⟨uW,IT⟩:=a 7 AX;obtain⟨IU,FL⟩:=a 8 AX;obtain⟨Rq,X⟩:=a 9 AX;obtain⟨Yx,A⟩:=a 10 AX;obtain⟨Yy,z⟩:=a 11 AX;obtain⟨Aw,y⟩:=a 12 AX;obtain⟨Yz,t⟩:=a 13 AX;obtain⟨Ax,s⟩:=a 14 AX;obtain⟨YA,r⟩:=a 15 AX;clear a J;unfold cq at M;have O:¬(k:Int)<(aE.length:Int):=AX;go_wp2_with fail
   refine vbw (v:=.agg (cq q)) (by simp[results,results54,go_sem,cq,IS,T,R,P,Y,V,Mr,IT,FL,X,A,z,y,t,s,r]) rfl ⟨rfl,?_⟩;iterate 16 refine Below.setCell ?_ Ab _
   exact I.out
variable{n:Nat}
section
def nP(n:Nat)(v:Value):Prop:=∃a c,v=.slice a n c/\n<=c
def nP.carry{ρ:az.Ren}{b:Value}(h:nP n v)(hv:ar ρ v b):nP n b:=by obtain⟨a,c,rfl,d⟩:=h;cases hv with|j2=>exact⟨_,_,U,d⟩|slice=>exact⟨_,_,U,d⟩
def IV(q:db):List cZ:=[q.1,q.2.1,q.2.2.1,q.2.2.2]
theorem ak6(u:Bool)(q:db)(w:aL)(k:Nat)(h:k<4):Sem.run (ae prog u) (Instr.index 138 (.agg #[.bool q.1.dU,.I q.1.num,.I q.1.bV,.string q.1.text,.bool q.2.1.dU,.I q.2.1.num,.I q.2.1.bV,.string q.2.1.text,.bool q.2.2.1.dU,.I q.2.2.1.num,.I q.2.2.1.bV,.string q.2.2.1.text,.bool q.2.2.2.dU,.I q.2.2.2.num,.I q.2.2.2.bV,.string q.2.2.2.text]) (.I (k:Int))) w=.ok (o6 (IV q)[k]) w:=by rcases k with _ | _ | _ | _ |k<;>first|omega|kernel_rfl
def sS(q:db):List Bool:=[q.1.dU,q.2.1.dU,q.2.2.1.dU,q.2.2.2.dU]
attribute [local go_sem ↓] ak6
def ak7(u:Bool)(q:db)(w:aL):Calls (ae prog u) 200 #[.agg (cq q)] w λe w'=>e=.returned (.bool ((sS q).any id))/\cC w w':=by
 obtain⟨r,f⟩:∃r,r=(sS q).any id:=⟨_,U⟩;rw[<-f];have g:Hid _:=f;clear f;unfold cq;go_enter (Yt u),ntmps200
 go_wp2
 go_loopw [4,6] (λ_ x W=>∃k:Nat,k<=4/\x=.I k/\(∀j,j<k->(sS q)[j]?=some false)/\cC w W) (λ_ x _=>4-(intOf x).toNat)
 case atStart=>exact⟨0,vav _,U,λj h=>AX,(vaa _ w).alloc Jb _⟩
 case round=>
  obtain⟨k,hk,rfl,hn,i⟩:=hrel;have c:Hid (cC w wr):=i;have a:Hid _:=hn;clear hn i;by_cases n:k<4
  .have hi:(k:Int)<(4:Int):=by omega
   have rT:Hid ((sS q)[k]?=some (IV q)[k].dU):=by show(sS q)[k]?=some (IV q)[k].dU;rcases k with _ | _ | _ | _ |k<;>first|rfl|omega
   cases hq:(IV q)[k].dU
   .go_wp2_with fail
    go_roundw
    case rel=>
     refine⟨k+1,AX,by go_num,λj h=>?_,c.out.alloc FD _⟩;by_cases m:j=k
     .rw[m,rT.out,hq]
     .exact a.out j AX
    case measure=>simp[intOf];omega
   .go_wp2_with fail
    go_ret
    refine⟨?_,c.out.alloc FD _⟩;have b:=rT.out;rw[hq]at b;have d:(sS q).any id=true:=List.any_eq_true.2 ⟨true,vco b,U⟩;simp[g.out,d]
  .have hi:¬(k:Int)<(4:Int):=by omega
   go_wp2_with fail
   go_ret
   refine⟨?_,c.out⟩;rw[g.out];obtain rfl:k=4:=AX;have h0:=a.out 0 AX;have b:=a.out 1 AX;have d:=a.out 2 AX;have l:=a.out 3 AX;simp[sS]at h0 b d l;simp[sS,h0,b,d,l]
end
def YB:(ae prog false).funcs[(207:Nat)]?=some f207:=bB (upd:=false) func207 AQ
def Ms(place:uaz)(vals:List cZ)(W:aL)(x:Value):Prop:=
 ∃k_ bv hE cs,x=.agg #[.S k_ 0 place.length place.length,.S bv 0 vals.length vals.length]/\ah W k_ hE 3/\hE.toList=place.map (Value.int .i64)/\ah W bv cs 91/\cs.size=vals.length*4/\Av cs vals vals.length
def ak8(nQ:Nat)(pl:Nat->List Int)(vs:Nat->List cZ):IJ nQ (λt=>Ms (pl t) (vs t)):=by
 refine⟨λt W x h=>?_,λt W W' x h hk=>?_⟩
 .obtain⟨a,bv,b,cs,rfl,-⟩:=h;grind
 .obtain⟨a,bv,b,cs,rfl,f,e,d,c⟩:=h;exact⟨a,bv,b,cs,U,hk _ _ _ _ f AF,e,hk _ _ _ _ d AF,c⟩
def ak9(t:List aI)(v:Value)(fr aZ:Nat)(w0:aL)(hv:oy w0 v t)(o:t.length<=1000000)(T:fr<=aZ)(ya:aZ<=1000000)(c6:∀i,i<aZ->∀c∈t,wG i c)(D K bs:Nat)(r:w0.cell? (.a D 0)=some (.I fr))(ht:w0.cell? (.a K 0)=some (.I aZ))(hs:w0.cell? (.a bs 0)=some v):
 Cj n (ae prog false) 207 #[.P D 0,.P K 0,.P bs 0] (λk=>Ms [((fr+k:Nat):Int)] (t.map (gz · (fr+k)))) (aZ-fr) w0.heap.size w0:=by
 intro l S J W a B R C h0;have I:=Yg B R;clear R B;have j:=bp.b7 a;have y:=j _ _ _ r;obtain⟨bP,cap,rfl,-,-⟩:=id hv;refine callsIn_of_wp YB rfl trivial ?_ rfl;simp[vcg];gi_wp2
 gi_loopw [5] (λp wr=>∃i:Nat,fr<=i/\i<=aZ/\p=.I (i:Int)/\J (i-fr) wr/\cC w0 wr/\Below w0.heap.size W wr) (λp _=>aZ-(intOf p).toNat)
 case atStart=>exact⟨fr,vac _,T,rfl,AF,a,vaa _ _⟩
 case round=>
  obtain⟨i,ml,kx,rfl,F,w,L⟩:=hrel;have d:=bp.b7 w;have hH:=d _ _ _ ht;have U:=d _ _ _ hs;have FJ:=fp U;have IW:Hid (oy wr _ t):=hv.mono tE d;have A:Hid (J (i-fr) wr):=F;have g:Hid (cC w0 wr):=w;have z:Hid (Below w0.heap.size W wr):=L;clear F w L d;by_cases q:i<aZ
  .have X:(i:Int)<(aZ:Int):=by omega
   have H:=c6 i q;clear r ht hs y h0 a j c6;gi_wp2
   have u:cC wr (wr.alloc (.cells #[.I (i:Int)] 3)):=(vaa _ wr).alloc Jb _;refine⟨NE,λh=>Cl,(callsIn_wide.2 (akV t _ i _ (IW.out.mono tE (bp.b7 u)) o H)).mono ?_⟩;rintro e f ⟨b,cs,rfl,N,s,Z,V,x⟩;have m:Hid (cC wr f):=Below.step x u Ab;have P:=I _ _ _ A.out m.out;have Q:fr+(i-fr)=i:=AX;have M:Ms [((fr+(i-fr):Nat):Int)] (t.map (gz · (fr+(i-fr)))) f (.agg #[.S wr.heap.size 0 1 1,.S b 0 t.length t.length]):=by rw[Q];refine⟨wr.heap.size,b,#[.I (i:Int)],cs,Ab,(ah.new wr _ _).call x,rfl,N,AF,AF⟩
   obtain⟨fn,tmps,assign,body,Y,O⟩:=C (i-fr) _ f P AX M;clear N s Z V x M P C I u Q H;gi_wp2
   refine⟨λh=>Cl,O.mono ?_⟩;rintro e o5 ⟨rfl,Co,E⟩;clear O Y;gi_wp2
   go_roundw
   case rel=>exact⟨i+1,AX,AX,Ab,AF,g.out.trans ((m.out.mono g.out.size).trans E),z.out.trans ((m.out.mono g.out.size).trans E)⟩
   case measure=>simp[intOf];omega
  .have X:¬(i:Int)<(aZ:Int):=by omega
   clear r ht hs y h0 a j c6;gi_wp2
   go_end0
   have e:aZ=i:=AX;subst e;exact⟨⟨_,rfl⟩,A.out,z.out⟩
end bX
namespace az
structure Carry(ρ:Ren)(w w':aL):Prop where
 cell:∀a a' v,dA ρ a a'->w.cell? a=some v->∃v',w'.cell? a'=some v'/\ar ρ v v'
 map:∀b b' es k,ρ.rel b b'->w.heap[b]?=some (.map es k)->∃es',w'.heap[b']?=some (.map es' k)/\cL (rH ρ) es.toList es'.toList
variable{w w':aL}
def eI.carry{C:cM}{S:Sync}{ρ:Ren}(h:eI C S ρ w w'):Carry ρ w w':=⟨λ_ _ _ r hv=>h.cell r hv,λb f es k r e=>by
 obtain⟨o,o',a,d,c⟩:=h.obj b f r;rw[e]at a;cases a;cases c with
 |map _ h=>exact⟨_,d,h⟩⟩
def wS{ap:Type}(R:aL->(Nat->Option Value)->ap->Prop):Prop:=
 ∀(ρ:Ren) w w' rd j8 x,Carry ρ w w'->(∀j v,rd j=some v->∃v',j8 j=some v'/\ar ρ v v')->R w rd x->R w' j8 x
variable{v:Value}
section
variable{ρ:Ren}
def ar.ud{k:IntKind}{n:Int}(h:ar ρ (.int k n) v):v=.int k n:=by cases h;rfl
def ar.Zy{s:ByteArray}(h:ar ρ (.string s) v):v=.string s:=by cases h;rfl
def ar.Zz{b:Bool}(h:ar ρ (.bool b) v):v=.bool b:=by cases h;rfl
end
def a0.carry{ap:Type}{c:Nat}{R:aL->(Nat->Option Value)->ap->Prop}(p:wS R){ρ:Ren}(l:Carry ρ w w'){d:Value}(hv:ar ρ v d){xs:List ap}(h:a0 w c R v xs):a0 w' c R d xs:=by
 obtain⟨s,cap,rfl,k,m⟩:=h;cases hv with
 |j2=>refine⟨none,cap,U,k,λi hi=>?_⟩;obtain⟨b,off,e,_⟩:=m i hi;cases e
 |@slice a a' _ _ r=>refine⟨some a',cap,U,k,λi hi=>?_⟩;obtain⟨b,off,e,o⟩:=m i hi;cases e;obtain⟨r1,g,f⟩:=r;obtain⟨n,t,q⟩:=a';simp only at r1 g f;subst g;subst f;exact⟨n,off,U,p ρ w w' (λj=>w.cell? (.a b (off+i*c+j))) _ _ l (λj v hv=>l.cell ⟨b,off+i*c+j,none⟩ ⟨n,off+i*c+j,none⟩ v ⟨r1,U,U⟩ hv) o⟩
def wT:wS qG:=λρ w w' rd e x _ b h=>by obtain⟨d,a,c⟩:=b 0 _ h;rw[c.ud]at a;exact a
def M5:wS Am:=λρ w w' rd e x _ b h=>by obtain⟨d,a,c⟩:=b 0 _ h;rw[c.Zz]at a;exact a
def M6:wS B_:=λρ w w' rd e x _ b h=>by obtain⟨d,a,c⟩:=b 0 _ h.1;rw[c.Zy]at a;exact⟨a,h.2⟩
def ano:wS Ma:=λρ w w' rd g x _ a h=>by obtain⟨f,c,e⟩:=a 0 _ h.1;obtain⟨v2,b,d⟩:=a 1 _ h.2;rw[e.ud]at c;rw[d.ud]at b;exact⟨c,b⟩
def yu:wS wy:=by rintro ρ w w' rd n x c a ⟨be,vs,o,h0,i,h,g,f,b⟩;obtain⟨v0,d,b0⟩:=a 0 _ h0;obtain⟨v1,a1,b1⟩:=a 1 _ i;obtain⟨v2,j,b2⟩:=a 2 _ h;obtain⟨v3,k,m⟩:=a 3 _ g;obtain⟨e,l,bk⟩:=a 4 _ f;rw[b0.ud]at d;rw[b1.ud]at a1;exact⟨v2,v3,e,d,a1,j,k,l,a0.carry wT c b2 b.fy,a0.carry M6 c m b.dT,a0.carry M5 c bk b.dt⟩
def gb.carry{C:cM}{D M:c7}{w0:aL}(h:gb C D M w w0)(g:ie C D M w)(l:C.upd=false\/∀b,D b->M b):Carry (eh D M) w w0:=by
 refine⟨?_,λb t es k⟨r,hd⟩ e=>?_⟩
 .rintro a a' v ⟨⟨q,hd⟩,p,o⟩ hv;obtain⟨c,e,fr,f,j,k3⟩:=xN hv;rw[q]at f;obtain⟨s,n,_⟩:=h.cells g hd f;refine⟨v,oq n (o▸j) (p▸k3),?_⟩;obtain⟨ob,i,d⟩:=g _ hd;rw[f]at i;cases i;rcases d with d|d
  .cases d with|cells _ m _=>exact m.get _ _ _ k3 k3
  .exact d.elim
 .subst r;exact⟨es,h.B9 g l hd e⟩
end az
namespace cu
open RowKit az
@[simp] theorem aFh:cX true 58:=dg (bB (upd:=true) func58 AQ) AQ
@[simp] theorem aFi:cX true 38:=dg (bB (upd:=true) func38 AQ) AQ
theorem aoj(s:ByteArray)(w:aL)(hs:s.size<=1000000):
 Calls (ae prog true) 58 #[.string s] w λe w'=>e=.returned (.string s)/\cC w w':=by
 by_cases h0:s.size=0
 .have l:s=⟨#[]⟩:=ByteArray.ext (Array.eq_empty_of_size_eq_zero h0);subst l;go_enter (bB (upd:=true) func58 AQ),ntmps58
  go_wp2
  go_ret
  exact⟨U,vaa _ _⟩
 obtain⟨i,hi,m,hsz,C⟩:=vci (show(prog.info? 5).map (λi=>(i.zero,i.size,i.bytes))=some (some (.int .u8 0),1,1)from Ao);have f:(ae prog true).underlying 205=some (.slice 5):=(rL _ _ _).trans underlying205;have h:(ae prog true).underlying 206=some (.pointer 5):=(rL _ _ _).trans underlying206;have y:(ae prog true).info? 5=some i:=hi;obtain⟨A,o,v⟩:∃A:Array Value,A=madeCells (Value.int .u8 0).cells ((s.size:Int).toNat*i.size)/\A.size=s.size:=⟨_,U,by grind[size_madeCells]⟩;have z:∀W:aL,(Instr.makeSlice 205 (.I (s.size:Int)) (.I (s.size:Int))).run (ae prog true) W=.ok (.S W.heap.size 0 s.size s.size) (W.alloc (.cells A 5)):=λW=>by have:=run_make (P:=ae prog true) W 205 5 i _ f y m .i64 .i64 s.size s.size AX (Int.le_refl _) AF AX;grind
 have a:=heap_alloc_new w (.cells A 5);have d:=Lib.run_copy_row_string (P:=ae prog true) (w.alloc (.cells A 5)) 205 9 3 5 w.heap.size 0 s.size s.size s A 5 f AF a Jb AX;obtain⟨B,g,c⟩:∃B:Array Value,B=(A.toList.take 0++Lib.byteCells s.data.toList++A.toList.drop (0+s.size)).toArray/\B.toList=Lib.byteCells s.data.toList:=⟨_,U,by
  simp_all⟩
 rw[<-g]at d;have q:((w.alloc (.cells A 5)).setRow w.heap.size B).heap[w.heap.size]?=some (.cells B 5 (0,0)):=setRow_heap _ _ A _ 5 (0,0) a;have u:B.size=s.size:=by grind[Lib.byteCells_length,Lib.size_eq]
 have b:=Lib.run_unsafeString_row (P:=ae prog true) ((w.alloc (.cells A 5)).setRow w.heap.size B) 206 3 9 5 h (by grind[Program.cellsOf]) w.heap.size B.size (by grind[World.shape?]) s.data.toList (λe=>h0 (by rw[Lib.size_eq,e];rfl)) Bc (by grind[Lib.size_eq])
  (λj x n=>Lib.cells_of_row q B.size j _ (by rw[vbz AF,c];simp[Lib.byteCells,n]))
 rw[<-Lib.size_eq]at b;clear o g a;go_enter (bB (upd:=true) func58 AQ),ntmps58
 go_wp2
 go_ret
 have t:cC w (w.alloc (.cells A 5)):=(vaa _ w).alloc Jb _;have r:Below w.heap.size (w.alloc (.cells A 5)) ((w.alloc (.cells A 5)).setRow w.heap.size B):=⟨U,U,U,Ab,λk hk=>setRow_other _ _ _ _ AX⟩;exact⟨U,Lib.below_freeze (t.trans r) (p:=⟨w.heap.size,0,none⟩) Jb _⟩
def aon(s:ByteArray)(w:aL)(hs:s.size<=1000000):
 Calls (ae prog true) 38 #[.string s] w λe w'=>e=.returned (.string s)/\cC w w':=by
 go_enter (bB (upd:=true) func38 AQ),ntmps38
 go_wp2
 refine(aoj s w hs).mono ?_;rintro e w' ⟨rfl,a⟩;go_wp2
 go_ret
 simp_all
end cu
namespace cF
open Conc ConcN az bo
def pk(Shun:uam)(B:Nat)(e:Event):Prop:=(∀x,(MemAct.ofEvent e).touch?=some x->(x.loc.isMemory=true->(Shun x.loc->x.kind≠ .plain)/\(x.kind=.atomic->Shun x.loc))/\∀b,fq x.loc=some b->b<B)/\∀a,MemAct.ofEvent e≠ .mark (.release a)
structure nl(Shun:uam)(B d n:Nat)(t:Trace):Prop where
 gs:∀op∈t,op.g<n
 qK:∀op∈t,∀a,op.act≠ .mark (.release a)
 oC:∀i a,touchAt t i=some a->a.loc.isMemory=true->a.kind=.atomic->Shun a.loc
 JN:∀said,¬Race said t
 known:∀i a,touchAt t i=some a->a.loc.isMemory=true->Knows t 0 i\/(Shun a.loc/\a.kind=.atomic)
 over:t.HandedOver
 hears:Deaf t 0=d
 low:∀i a b,touchAt t i=some a->fq a.loc=some b->b<B
variable{es:uaq}
section
variable{Shun:uam}{B d n:Nat}{t:Trace}
theorem nl.mono{c:Nat}(h:nl Shun B d n t)(g:B<=c):nl Shun c d n t:=⟨h.gs,h.qK,h.oC,h.JN,h.known,h.over,h.hears,λi a b f e=>vap (h.low i a b f e) g⟩
def nl.own(h:nl Shun B d n t)(hn:0<n){fn:uaj}{pos:String}(f:∀e∈es,pk Shun B e):nl Shun B (deafBehind d es) n (t++MemOp.ofEvents 0 fn pos es):=by
 have s:∀op∈MemOp.ofEvents 0 fn pos es,op.g=0:=λop c=>C1;refine⟨λop c=>(vee.1 c).elim (h.gs op) AF,λop c=>(vee.1 c).elim (h.qK op) (λx=>by obtain⟨e,g,rfl⟩:=Conc.mem_ofEvents x;exact(f e g).2),λi a j q hk=>?_,λsaid=>noRace_append (h.JN said) s λi a j op c b m l=>?_,λi a j u=>?_,handedOver_app h.over AF,?_,λi a b j m=>?_⟩
 .obtain⟨x,k,p⟩:=touch_of j;rcases vbj k with⟨_,r⟩|⟨_,o⟩
  .exact h.oC i a EP q hk
  .obtain⟨e,g,rfl⟩:=Conc.mem_ofEvents o;exact(((f e g).1 a p).1 q).2 hk
 .rcases h.known i a j l.2.1 with hk|⟨w,sf⟩
  .exact hk
  .have JO:b.kind≠ .plain:=by obtain⟨e,g,rfl⟩:=Conc.mem_ofEvents c;exact(((f e g).1 b m).1 (by rw[<-l.1];exact l.2.1)).1 (l.1▸w)
   obtain⟨_,_,_,v⟩:=l;grind
 .obtain⟨x,k,p⟩:=touch_of j;rcases vbj k with⟨_,r⟩|⟨_,o⟩
  .exact(h.known i a EP u).imp (·.app _) id
  grind[knows_own]
 .rw[Deaf_own,h.hears]
 .obtain⟨x,k,p⟩:=touch_of j;rcases vbj k with⟨_,r⟩|⟨_,o⟩
  .exact h.low i a b EP m
  .obtain⟨e,g,rfl⟩:=Conc.mem_ofEvents o;exact((f e g).1 a p).2 b m
theorem ao2{e:Event}(h:e.mute=true)(a:Addr):MemAct.ofEvent e≠ .mark (.release a):=by
 obtain⟨loc,wr,b⟩:=e;cases loc<;>simp_all[Event.mute]
 grind[MemAct.ofEvent]
theorem nl.mute(h:nl Shun B d n t){g:Nat}(hg:g≠0)(s:g<n){fn:uaj}{pos:String}(m:∀e∈es,e.mute=true):nl Shun B d n (t++MemOp.ofEvents g fn pos es):=by
 have l:∀op∈MemOp.ofEvents g fn pos es,op.g=g:=λop c=>C1;have hn:∀op∈MemOp.ofEvents g fn pos es,op.act.touch?=none:=λop c=>by grind[Conc.mem_ofEvents,touch_mute]
 refine⟨λop c=>(vee.1 c).elim (h.gs op) AF,λop c=>(vee.1 c).elim (h.qK op) (λx=>by grind[Conc.mem_ofEvents,ao2]),λi a j q hk=>?_,λsaid=>noRace_append (h.JN said) l AF,λi a j m=>?_,handedOver_app h.over AF,(Deaf_other t hg _ l).trans h.hears,λi a b j r=>?_⟩
 .obtain⟨x,f,p⟩:=touch_of j;rcases vbj f with⟨_,k⟩|⟨_,o⟩
  .exact h.oC i a EP q hk
  grind
 .obtain⟨x,f,p⟩:=touch_of j;rcases vbj f with⟨_,k⟩|⟨_,o⟩
  .exact(h.known i a EP m).imp (·.app _) id
  grind
 .obtain⟨x,f,p⟩:=touch_of j;rcases vbj f with⟨_,k⟩|⟨_,o⟩
  .exact h.low i a b EP r
  grind
end
def mq(P:cf)(Post:uab)(m:Machine)(t:Trace):Prop:=
 ∃N last o w' cN,runNT P (N+1) m t=(.ended o w',cN)/\runN P N m=.next last/\step P last=.ended o w'/\Conc.Good P Post last o w' cN
theorem mq.step{P:cf}{Post:uab}{m a:Machine}{t:Trace}{ops:Array MemOp}(hs:stepT P m=(.next a,ops))(h:mq P Post a (t++ops)):mq P Post m t:=by obtain⟨N,last,o,w',d,f,e,c,b⟩:=h;refine⟨N+1,last,o,w',d,by grind[runNT],?_,c,b⟩;grind[runN,Go.step]
theorem mq.leads{P:cf}{Post:uab}{q:Machine->Trace->Prop}(hq:∀m t,q m t->mq P Post m t):∀(n:Nat){m a:Machine}{t b:Trace},runNT P n m t=(.next a,b)->q a b->mq P Post m t
 |0,m,a,t,b,h,k=>by grind[runNT]
 |n+1,m,a,t,b,h,k=>by simp[runNT]at h;cases hs:stepT P m with|mk r ops=>rw[hs]at h;cases r with|next m1=>exact mq.step hs (mq.leads hq n h k)|ended o w=>grind
def bU(P:cf)(Post:uab)(n:Nat)(Shun:uam)(d:Nat)(g:uai)(w:aL):Prop:=
 ∀(gs:uay)(sl:ubb)(q:uas)(t:Trace),gs.size=n->gs[0]?=some g->Leavers P t gs q->nl Shun w.heap.size d n t->mq P Post (crowd gs w sl) t
inductive eW(P:cf)(Shun:uam)(Stop:uaw):Nat->Goroutine->aL->Prop
 |stop {d:Nat} {g:uai} {w:aL} (h:∀k,Stop d g (w.at k)):eW P Shun Stop d g w
 |step {d:Nat} {g:uai} {w:aL} (hs:g.status=.running) (ok:∀k,∃g' w' es,stepG P true g (w.at k)=.go g' w' es/\(∀e∈es,pk Shun w'.heap.size e)/\w.heap.size<=w'.heap.size)
  (next:∀k g' w' es,stepG P true g (w.at k)=.go g' w' es->eW P Shun Stop (deafBehind d es) g' w'):eW P Shun Stop d g w
section
variable{P:cf}{Shun:uam}{Stop Stop':uaw}{d:Nat}{g:uai}{w:aL}
def eW.mk(hs:g.status=.running)(h:∀k,∃g' w' es,stepG P true g (w.at k)=.go g' w' es/\(∀e∈es,pk Shun w'.heap.size e)/\w.heap.size<=w'.heap.size/\eW P Shun Stop (deafBehind d es) g' w'):eW P Shun Stop d g w:=
 .step hs (λk=>let⟨g',w',es,a,f,c,_⟩:=h k;AF) λk g1 w1 i e=>by obtain⟨g',w',es,a,_,_,b⟩:=h k;grind
theorem eW.at(h:eW P Shun Stop d g w)(k:Nat):eW P Shun Stop d g (w.at k):=by cases h with|stop h=>exact .stop λk'=>h k'|step hs h hn=>exact .step hs (λk'=>h k') (λk'=>hn k')
theorem eW.bind(h:eW P Shun Stop d g w)(hS:∀d g w,Stop d g w->eW P Shun Stop' d g w):eW P Shun Stop' d g w:=by induction h with|@stop d g w h=>exact hS _ _ _ (h w.drawn)|step hs h hn a=>exact .step hs h AF
theorem mr{R:aL->aL->Prop}(b:∀w k,R w (w.at k)):∀(n:Nat)(g:uai)(w:aL),Goes P true R Go.ConcR.DC0 (λg w=>eW P Shun Stop d g w) n g w->eW P Shun Stop d g w
 |0,g,w,h=>h w (b w w.drawn)
 |n+1,g,w,h=>by
  rcases h with h|⟨hs,h⟩
  .exact h w (b w w.drawn)
  .refine eW.mk hs λk=>?_;have a:=h (w.at k) (b w k);cases hst:stepG P true g (w.at k)with
   |go g1 w1 es=>rw[hst]at a;obtain⟨⟨rfl,rfl⟩,c⟩:=a;exact⟨g1,w.at k,#[],U,Ab,vac _,mr b n g1 (w.at k) c⟩
   | _=>rw[hst]at a;exact a.elim
theorem WL{g':uai}:∀(n:Nat)(g:uai)(w:aL),Goes P true (λ_ _=>True) Go.ConcR.DC0 (λe _=>e=g') n g w->(∀k,Stop d g' (w.at k))->eW P Shun Stop d g w
 |0,g,w,h,hs=>by have:=h w trivial;subst this;exact .stop hs
 |n+1,g,w,h,hs=>by
  rcases h with h|⟨b,h⟩
  .have:=h w trivial;subst this;exact .stop hs
  .refine eW.mk b λk=>?_;have a:=h (w.at k) trivial;cases hst:stepG P true g (w.at k)with
   |go g1 w1 es=>rw[hst]at a;obtain⟨⟨rfl,rfl⟩,c⟩:=a;exact⟨g1,w.at k,#[],U,Ab,vac _,WL n g1 (w.at k) c λk'=>hs k'⟩
   | _=>rw[hst]at a;exact a.elim
theorem C2(t:Trace)(fn:uaj)(pos:String)(es:uaq){j:Nat}(b:0≠j):Deaf (t++MemOp.ofEvents 0 fn pos es) j=Deaf t j:=
 Deaf_other t (g':=0) AX _ (λop a=>C1)
def S7{gs:uay}{q:uas}{t:Trace}{a:uai}(l:Leavers P t gs q)(h0:gs[0]?=some a)(hrun:a.status=.running){i k:Nat}{g:uai}{sl':ubb}(u:0<i)(hi:gs[i]?=some g)(hg:g.status=.running):
 ∃gs' m fn pos es,runT P (crowd gs (w.at k) sl') i=(.next (crowd gs' (w.at k) sl'),MemOp.ofEvents i fn pos es)/\gs'.size=gs.size/\gs'[0]?=some a/\Leavers P (t++MemOp.ofEvents i fn pos es) gs' m/\(∀e∈es,e.mute=true)/\sumTo gs'.size m<sumTo gs.size q:=by
 have hq:=l.old i g u hi;have s:(i==0)=false:=AF;have d:i<gs.size:=(vam.1 hi).1;cases b:q i with
 |zero=>rw[b]at hq;rw[hq.1]at hg;cases hg
 |succ k'=>
  rw[b]at hq;rcases hq with⟨C,_⟩|⟨_,g',es,A,r,z⟩
  .grind
  have p:=runT_crowd_go (P:=P) (sl:=sl') (i:=i) hi (by rw[s];exact r (w.at k));have hsz:((gs.map (woken P g g' (w.at k))).setIfInBounds i g').size=gs.size:=Ab;have B:sumTo gs.size (upd q i k')+(k'+1)=sumTo gs.size q+k':=by have:=sumTo_upd q k' id d;simp_all
  refine⟨_,upd q i k',_,_,es,p,hsz,?_,⟨λj x o n=>?_,λj o=>?_⟩,A,AF⟩
  .grind[woken_run]
  .by_cases f:i=j
   .grind[upd_same,Deaf_own]
   .rw[vdy f,vcl]at n;obtain⟨y,v,rfl⟩:=vaj.1 n;have h:=l.old j y o v;rw[woken_quitsD h,upd_ne q k' (Ne.symm f),Deaf_other t f _ (λop c=>C1)];grind
  .rw[Deaf_other t (g':=i) AF _ (λop c=>C1)];exact l.above j AF
def Nx{gs:uay}{q:uas}{t:Trace}{a:uai}{B n:Nat}(hn:gs.size=n)(r:Leavers P t gs q)(m:nl Shun B d n t)(h0:gs[0]?=some a)(hrun:a.status=.running){i k:Nat}{g:uai}{sl':ubb}(c:0<i)(hi:gs[i]?=some g)(hg:g.status=.running):
 ∃gs' b ops,runT P (crowd gs (w.at k) sl') i=(.next (crowd gs' (w.at k) sl'),ops)/\gs'.size=gs.size/\gs'[0]?=some a/\Leavers P (t++ops) gs' b/\nl Shun B d n (t++ops)/\sumTo gs'.size b<sumTo gs.size q:=by
 obtain⟨gs',b,fn,pos,es,l,j,h,f,p,o⟩:=S7 (w:=w) (k:=k) (sl':=sl') r h0 hrun c hi hg;have e:i<gs.size:=(vam.1 hi).1;exact⟨gs',b,_,l,j,h,f,m.mute AX AX p,o⟩
def Gq{gs:uay}{q:uas}{t:Trace}{a:uai}(c:Leavers P t gs q)(h0:gs[0]?=some a)(hrun:a.status=.running):∀g∈gs,awake g:=by
 intro g hg;obtain⟨i,hi,rfl⟩:=Array.mem_iff_getElem.1 hg;rcases vbn i with rfl|b
 .grind[awake_of]
 .exact awake_of ((c.old i _ b (vao hi)).status.elim .inl AF)
def AY{Post:uab}{n:Nat}(hs:g.status=.running)(h:∀k,∃g' w' es,stepG P true g (w.at k)=.go g' w' es/\(∀e∈es,pk Shun w'.heap.size e)/\w.heap.size<=w'.heap.size/\bU P Post n Shun (deafBehind d es) g' w'):bU P Post n Shun d g w:=by
 have key:∀(M:Nat)(gs:uay)(sl:ubb)(q:uas)(t:Trace)(o:Nat),sumTo gs.size q<=M->gs.size=n->gs[0]?=some g->Leavers P t gs q->nl Shun w.heap.size d n t->mq P Post (crowd gs (w.at o) sl) t:=by
  intro M;induction M with
  |zero=>
   intro gs sl q t o C hn h0 a c;obtain⟨i,g1,k,sl',hi,hg,hst⟩:=crowd_pick (P:=P) (w:=w.at o) (sl:=sl) (Gq a h0 hs) AF;rcases vbn i with rfl|z
   .obtain rfl:g1=g:=by grind
    obtain⟨g',w',es,p,u,s,r⟩:=h k;have v:=runT_crowd_go (P:=P) (sl:=sl') (i:=0) hi (show stepG P (0==0) g1 (w.at k)=_ from p);have l:0<gs.size:=(vam.1 h0).1;refine mq.step (hst.trans v) (r _ _ q _ AF AF ⟨λj x m f=>?_,λj m=>?_⟩ ((c.mono s).own AX u))
    .have b:0≠j:=by omega
     rw[vdy b,vcl]at f;obtain⟨y,A,rfl⟩:=vaj.1 f;have hq:=a.old j y m A;grind[woken_quitsD,C2]
    .rw[C2 _ _ _ _ AF];exact a.above j AF
   .obtain⟨gs',B,ops,_,_,_,_,_,l⟩:=Nx (w:=w) (k:=k) (sl':=sl') hn a c h0 hs z hi hg;omega
  |succ M D=>
   intro gs sl q t o C hn h0 a c;obtain⟨i,g1,k,sl',hi,hg,hst⟩:=crowd_pick (P:=P) (w:=w.at o) (sl:=sl) (Gq a h0 hs) AF;rcases vbn i with rfl|z
   .obtain rfl:g1=g:=by grind
    obtain⟨g',w',es,p,u,s,r⟩:=h k;have v:=runT_crowd_go (P:=P) (sl:=sl') (i:=0) hi (show stepG P (0==0) g1 (w.at k)=_ from p);have l:0<gs.size:=(vam.1 h0).1;refine mq.step (hst.trans v) (r _ _ q _ AF AF ⟨λj x m f=>?_,λj m=>?_⟩ ((c.mono s).own AX u))
    .have b:0≠j:=by omega
     rw[vdy b,vcl]at f;obtain⟨y,A,rfl⟩:=vaj.1 f;have hq:=a.old j y m A;grind[woken_quitsD,C2]
    .rw[C2 _ _ _ _ AF];exact a.above j AF
   .obtain⟨gs',B,ops,p,u,s,r,F,E⟩:=Nx (w:=w) (k:=k) (sl':=sl') hn a c h0 hs z hi hg;exact mq.step (hst.trans p) AF
 intro gs sl q t hn h0 a c;exact key _ gs sl q t w.drawn Jb hn h0 a c
def AZ{Post:uab}{n:Nat}(h:eW P Shun (bU P Post n Shun) d g w):bU P Post n Shun d g w:=by induction h with|@stop d g w h=>exact h w.drawn|step hs h hn a=>refine AY hs λk=>?_;obtain⟨g',w',es,e,c,b⟩:=h k;grind
def Wz{Post:uab}{gs:uay}{q:uas}{t:Trace}{B n k f:Nat}{sl sl':ubb}(hn:0<n)(hst:stepT P (crowd gs (w.at f) sl)=runT P (crowd gs (w.at k) sl') 0)(h:Leavers P t gs q)(p:nl Shun B d n t)(hi:gs[0]?=some g){v:Value}(o:stepG P true g (w.at k)=.ended (.done v) (w.at k) es)(b:∀e∈es,pk Shun B e)(r:Post v (w.at k)):mq P Post (crowd gs (w.at f) sl) t:=by
 have m:=runT_many_ended (P:=P) (sl:=sl') (i:=0) hi (show stepG P (0==0) g (w.at k)=_ from o);have l:=p.own hn (fn:=g.frame.fn) (pos:=g.frame.place) b;have hs:=hst.trans m;refine⟨0,_,_,_,_,by simp[runNT,hs],U,by simp[Go.step,hs],v,U,r,l.JN,l.over,⟨λx a=>?_,U⟩,λj x a c=>?_⟩
 .obtain⟨j,c⟩:=List.mem_iff_getElem?.1 a;rw[List.getElem?_drop]at c;exact⟨_,(h.old (1+j) x AX (by grind[crowd])).leaves⟩
 .have hq:=h.old j x AX a;refine⟨q j,?_⟩;have e:(t++MemOp.ofEvents 0 g.frame.fn g.frame.place es).deaf j (t++MemOp.ofEvents 0 g.frame.fn g.frame.place es).size=Deaf t j:=C2 t _ _ _ AX;rw[e];exact hq.hears _
def ao4{Post:uab}{n:Nat}(hs:g.status=.running)(h:∀k,∃v es,stepG P true g (w.at k)=.ended (.done v) (w.at k) es/\(∀e∈es,pk Shun w.heap.size e)/\Post v (w.at k)):bU P Post n Shun d g w:=by
 have key:∀(M:Nat)(gs:uay)(sl:ubb)(q:uas)(t:Trace)(c:Nat),sumTo gs.size q<=M->gs.size=n->gs[0]?=some g->Leavers P t gs q->nl Shun w.heap.size d n t->mq P Post (crowd gs (w.at c) sl) t:=by
  intro M;induction M with
  |zero=>
   intro gs sl q t c r hn h0 a b;obtain⟨i,g1,k,sl',hi,hg,hst⟩:=crowd_pick (P:=P) (w:=w.at c) (sl:=sl) (Gq a h0 hs) AF;rcases vbn i with rfl|m
   .obtain rfl:g1=g:=by grind
    obtain⟨v,es,f,l,j⟩:=h k;exact Wz AF hst a b h0 f l j
   .obtain⟨gs',o,ops,_,_,_,_,_,p⟩:=Nx (w:=w) (k:=k) (sl':=sl') hn a b h0 hs m hi hg;omega
  |succ M s=>
   intro gs sl q t c r hn h0 a b;obtain⟨i,g1,k,sl',hi,hg,hst⟩:=crowd_pick (P:=P) (w:=w.at c) (sl:=sl) (Gq a h0 hs) AF;rcases vbn i with rfl|m
   .obtain rfl:g1=g:=by grind
    obtain⟨v,es,f,l,j⟩:=h k;exact Wz AF hst a b h0 f l j
   .obtain⟨gs',o,ops,f,l,j,y,x,u⟩:=Nx (w:=w) (k:=k) (sl':=sl') hn a b h0 hs m hi hg;exact mq.step (hst.trans f) AF
 intro gs sl q t hn h0 a b;exact key _ gs sl q t w.drawn Jb hn h0 a b
end
section
open ConcM
section
variable{P:cf}{Shun:uam}{Stop:uaw}{d:Nat}
def oL{g g1:uai}{w w1:aL}(hs:g.status=.running)(h:∀k,stepG P true g (w.at k)=.go g1 (w1.at k) es)(a:∀e∈es,pk Shun w1.heap.size e)(hsz:w.heap.size<=w1.heap.size)(b:eW P Shun Stop (deafBehind d es) g1 w1):eW P Shun Stop d g w:=
 eW.mk hs λk=>⟨g1,w1.at k,es,h k,a,hsz,b.at k⟩
def d_{a b c:aL}(h:AtRel a b)(k:AtRel b c):AtRel a c:=atRel_trans a b c h k
def Ny{m:Mark}(d:∀a,m≠ .release a/\m≠ .read a/\m≠ .write a)(wr b:Bool){B:Nat}:pk Shun B ⟨.mark m,wr,b⟩:=by
 have f:(MemAct.ofEvent ⟨.mark m,wr,b⟩)=.mark m:=by cases wr<;>cases b<;>rfl
 refine⟨λx c=>?_,λa e=>?_⟩
 .simp_all[MemAct.touch?]
 grind
def Ww{a:Addr}(hs:Shun (.cell a)){B:Nat}(e:a.block<B)(wr:Bool):pk Shun B ⟨.cell a,wr,true⟩:=by
 have f:(MemAct.ofEvent ⟨.cell a,wr,true⟩)=.access ⟨.cell a,wr,true⟩:=by cases wr<;>rfl
 refine⟨λx c=>?_,AF⟩;rw[f]at c;simp only[MemAct.touch?,vbh]at c;subst c;exact⟨AF,λb d=>by cases d;exact e⟩
def Gr{a:Addr}(hs:¬Shun (.cell a)){B:Nat}(e:a.block<B)(wr:Bool):pk Shun B ⟨.cell a,wr,false⟩:=by
 have f:(MemAct.ofEvent ⟨.cell a,wr,false⟩)=.access ⟨.cell a,wr,false⟩:=by cases wr<;>rfl
 refine⟨λx c=>?_,AF⟩;rw[f]at c;simp only[MemAct.touch?,vbh]at c;subst c;exact⟨AF,λb d=>by cases d;exact e⟩
theorem Wu{K mine:c7}{e:Event}{B:Nat}(h:x2 K mine e)(hs:∀b,K b\/mine b->∀l,fq l=some b->¬Shun l)(n:∀b,K b\/mine b->b<B):pk Shun B e:=by
 obtain⟨loc,wr,g⟩:=e;cases loc with
 |cell a=>
  obtain⟨j,_,f⟩:=h;simp only at f;subst f;refine⟨λx d=>?_,λa e=>by cases wr<;>cases e⟩
  have c:x=⟨.cell a,wr,.plain⟩:=by grind[MemAct.ofEvent,MemAct.touch?]
  subst c;exact⟨λ_=>⟨λe=>absurd e (hs _ j _ U),AF⟩,λb i=>by cases i;grind⟩
 |obj r=>
  obtain⟨j,_,f⟩:=h;simp only at f;subst f;refine⟨λx d=>?_,λa e=>by cases wr<;>cases e⟩
  have c:x=⟨.obj r,wr,.plain⟩:=by grind[MemAct.ofEvent,MemAct.touch?]
  subst c;exact⟨λ_=>⟨λe=>absurd e (hs _ j _ U),AF⟩,λb i=>by cases i;grind⟩
 |output=>
  refine⟨λx d=>?_,λa e=>by cases wr<;>cases g<;>cases e⟩
  have c:x.loc=.output:=by grind[MemAct.ofEvent,MemAct.touch?]
  rw[c];exact⟨λe=>(by simp[Loc.isMemory]at e),λb e=>Cn⟩
 |goroutines=>exact h.elim
 |mark m=>
  have k:(MemAct.ofEvent ⟨.mark m,wr,g⟩)=.mark m:=by cases wr<;>cases g<;>rfl
  cases m<;>first|exact h.elim|exact⟨λx d=>(by rw[k]at d;cases d),AF⟩
structure Left(X Y:aX):Prop where
 sub:∀b,X.mine b->Y.mine b
 kept:∀b,b<X.w.heap.size->¬X.mine b->Y.w.heap[b]?=X.w.heap[b]?
 new:∀b,Y.mine b->X.mine b\/(X.w.heap.size<=b/\b<Y.w.heap.size)
 size:X.w.heap.size<=Y.w.heap.size
 os:OsLater X.w.os Y.w.os
 output:Y.w.output=X.w.output
 tape:Y.w.tape=X.w.tape
 run:X.g.status=.running->Y.g.status=.running
def S9{K:c7}{post:aX->Prop}{X:aX}(h:i_ P true K post X):X.g.status=.running->(∀b,K b\/X.mine b->b<X.w.heap.size)->(∀b,K b\/X.mine b\/X.w.heap.size<=b->∀l,fq l=some b->¬Shun l)->
 (∀Y,post Y->Left X Y->eW P Shun Stop d Y.g Y.w)->eW P Shun Stop d X.g X.w:=by
 induction h with
 |@done X h=>exact λhs _ _ k=>k X h ⟨λ_ h=>h,λ_ _ _=>U,AF,vac _,.refl _,U,U,id⟩
 |@step X ok _ o=>
  intro hs u v k;refine eW.mk hs λn=>?_;have hrel:kv K X (X.w.at n):=⟨λ_ _=>U,vac _,.refl _⟩;obtain⟨g1,w1,es,hst,hg⟩:=ok (X.w.at n) hrel;have hsz:X.w.heap.size<=w1.heap.size:=hg.size;have p:∀b,grown X.mine (X.w.at n) w1 b->X.mine b\/(X.w.heap.size<=b/\b<w1.heap.size):=λb h=>h;have r:∀b,K b\/grown X.mine (X.w.at n) w1 b->∀l,fq l=some b->¬Shun l:=AF;have f:∀b,K b\/grown X.mine (X.w.at n) w1 b->b<w1.heap.size:=AF;have q:deafBehind d es=d:=by
   have:∀(l:ubj)(d:Nat),(∀e∈l,x2 K (grown X.mine (X.w.at n) w1) e)->deafBehind d l.toArray=d:=by
    intro l;induction l with
    |nil=>intro d _;rfl
    |cons e l ihl=>
     intro d a;have i:deafBehind d (e::l).toArray=deafBehind (deafBehind d #[e]) l.toArray:=by simp[deafBehind]
     have g:deafBehind d #[e]=d:=by
      have c:=a e Ab;obtain⟨loc,wr,s⟩:=e;cases loc with
      |mark m=>cases m<;>first|exact c.elim|rfl
      | _=>rfl
     grind
   exact this es.toList d λe c=>hg.evs e AF
  refine⟨g1,w1,es,hst,λe c=>Wu (hg.evs e c) r f,hsz,?_⟩;rw[q];refine o (X.w.at n) g1 w1 es hrel hst hg.run f (λb t=>?_) (λY j a=>k Y j ?_)
  .grind
  .refine⟨λb h=>a.sub b (.inl h),λb i g=>(a.kept b AF λh=>?_).trans (hg.kept b i g),λb h=>?_,vad hsz a.size,(show OsLater X.w.os Y.w.os from by rw[<-show w1.os=X.w.os from hg.os];exact a.os),a.output.trans hg.output,a.tape.trans hg.tape,λ_=>a.run hg.run⟩
   .grind
   .rcases a.new b h with h|h
    .rcases p b h with h|h
     .grind
     .exact .inr ⟨h.1,vap h.2 a.size⟩
    grind
end
end
end cF
namespace lK
open az
structure fv where
 T:Nat->Bool
 K:Nat->Bool
 V:Nat->Option Value
 sl:TypeId->Bool
 d:Nat
structure fc(D:fv)(a b:Frame):Prop where
 eq:b={a with tmps:=b.tmps}
 size:b.tmps.size=a.tmps.size
 same:∀i,D.T i=false->b.tmps[i]?=a.tmps[i]?
 gone:a.mode=.run->∀i v,D.T i=true->a.tmps[i]?=some v->v=undef
 kept:a.mode=.run->∀i,D.K i=true->b.tmps[i]?=D.V i
def A0(D:fv):Operand->Bool
 | .tmp t=> !D.T t
 | _=>true
def Wf(D:fv)(c:Call):Bool:=match c.callee with
 | .builtin .len=>match c.args.toList,c.argTypes.toList with
  | [.tmp t],[ty]=>D.T t&&D.sl ty
  | _,_=>false
 | _=>false
def Wa(D:fv)(o:Oper):Bool:=match o.op with
 | .load _ (.tmp t)=>D.T t
 | .indexAddr _ (.tmp t) _=>D.T t
 | .call c=>Wf D c
 | _=>false
def V7(D:fv)(o:Oper):Bool:=match o.op,o.dst with
 | .move (.tmp t),some d=>D.T t&&D.T d
 | _,_=>false
def Ta(D:fv)(o:Oper):Bool:=match o.dst with
 |some d=> !D.T d
 |none=>true
def Tb(D:fv)(o:Oper):Bool:=match o.dst with
 |some d=> !D.K d
 |none=>true
def i7(D:fv)(o:Oper):Bool:=o.op.operands.all (A0 D)&& !(o.op matches .select ..)&&Ta D o
def Nz(D:fv)(ops:du)(o:Oper):Bool:=match o.guard with
 |some (g,_)=>match(ops[g]?).bind (·.dst)with
  |some t=> !D.T t
  |none=>true
 |none=>true
def td(D:fv)(ops:du)(o:Oper):Bool:=Nz D ops o&&Tb D o&&(i7 D o||V7 D o||Wa D o)
def pm(D:fv):Code->Bool
 | .region _ ops _=>ops.all (td D ops)
 | .seq a b=>pm D a&&pm D b
 | .cond c a b=>A0 D c&&pm D a&&pm D b
 | .block _ c| .loop c=>pm D c
 | .skip| .exit _ | .ret=>true
 | _=>false
def im(D:fv):Item->Bool
 | .code c=>pm D c
 | .inBlock _=>true
 | .inLoop c=>pm D c
 | .R ops l=>l.all λi=>match ops[i]? with
  |some o=>td D ops o
  |none=>true
 | _=>false
def C5(D:fv):ResultVar->Bool
 | .tmp t=> !D.T t
 | .cell t _=> !D.T t
structure nn(P:cf)(D:fv)(a:Frame):Prop where
 items:a.mode=.run->a.todo.all (im D)=true
 round:a.roundOf=none
 Gs:∃fn,P.funcs[a.fn]?=some fn/\fn.results.all (C5 D)=true
 sl:∀t,D.sl t=true->∃e,P.underlying t=some (.slice e)
 NA:P.inits.idxOf? a.fn=none
structure V6(P:cf)(D:fv)(a:Frame):Prop extends nn P D a where
 bf:a.mode=.run->∀ops i rest k,a.todo=.R ops (i::rest)::k->∀o,ops[i]?=some o->∀d,o.dst=some d->D.T d=false
inductive np(P:cf)(D:fv):List Frame->List Frame->Prop
 |here {a b:Frame} (h:fc D a b) (v:V6 P D a) (l:dZ) (hl:l.length=D.d):np P D (a::l) (b::l)
 |there (a:Frame) {l l':dZ} (h:np P D l l'):np P D (a::l) (a::l')
inductive mS(P:cf)(D:fv):Goroutine->Goroutine->Prop
 |same (g:uai) (hl:g.callers.length<D.d):mS P D g g
 |hL {a b:Frame} (h:fc D a b) (v:nn P D a) (cs:dZ) (hl:cs.length=D.d) (s:GoStatus) (d:Option Dying):mS P D ⟨a,cs,s,d,none⟩ ⟨b,cs,s,d,none⟩
 |under (a:Frame) {cs a_:dZ} (h:np P D cs a_) (s:GoStatus) (d:Option Dying):mS P D ⟨a,cs,s,d,none⟩ ⟨a,a_,s,d,none⟩
def fg(P:cf)(D:fv)(s s':GStep):Prop:=∀g1 w1 es,s=.go g1 w1 es->g1.status=.running->g1.dying=none->∃A1,s'=.go A1 w1 es/\mS P D g1 A1
variable{g g':uai}{w:aL}{es:uaq}{s:GStep}
section
variable{P:cf}{D:fv}{a b:Frame}
theorem fg.go(h:mS P D g g'):fg P D (.go g w es) (.go g' w es):=λg1 w1 a e _ _=>by grind
theorem fg.ended{o:Outcome}:fg P D (.ended o w es) s:=λ_ _ _ e=>by cases e
theorem fg.after{s':GStep}(es:uaq)(h:fg P D s s'):fg P D (s.after es) (s'.after es):=λg1 w1 d e hs hd=>by
 cases s with
 |go g w c=>simp[GStep.after]at e;obtain⟨rfl,rfl,rfl⟩:=e;obtain⟨g',b,a⟩:=h g w c U hs hd;exact⟨g',by rw[b];rfl,a⟩
 | _=>cases e
def fg.vx(h:g.status≠ .running\/g.dying≠none):fg P D (.go g w es) s:=λg1 w1 a e hs hd=>by grind
theorem fc.getD(h:fc D a b){t:Nat}(ht:D.T t=false):b.tmps.getD t undef=a.tmps.getD t undef:=by have:=h.same t ht;simp_all
theorem fc.eval(h:fc D a b){x:uap}(c:A0 D x=true):b.eval x=a.eval x:=by
 cases x with
 |tmp t=>
  have ht:D.T t=false:=by grind[A0]
  simp only[Frame.eval];exact h.getD ht
 | _=>rfl
def fc.NB(h:fc D a b)(d:a.mode=.run){t:Nat}(ht:D.T t=true):a.eval (.tmp t)=undef:=by simp[Frame.eval];cases c:a.tmps[t]? with|none=>rfl|some v=>rw[h.gone d t v ht c];rfl
theorem fc.todo(h:fc D a b):b.todo=a.todo:=by rw[h.eq]
theorem fc.fn(h:fc D a b):b.fn=a.fn:=by rw[h.eq]
theorem fc.mode(h:fc D a b):b.mode=a.mode:=by rw[h.eq]
theorem fc.kind(h:fc D a b):b.kind=a.kind:=by rw[h.eq]
theorem fc.defers(h:fc D a b):b.defers=a.defers:=by rw[h.eq]
theorem fc.roundOf(h:fc D a b):b.roundOf=a.roundOf:=by rw[h.eq]
def fc.aB(h:fc D a b){a' c:Frame}(f:a'.tmps=a.tmps)(d:c.tmps=b.tmps)(e:c={a' with tmps:=c.tmps})(g:a'.mode=.run->a.mode=.run):fc D a' c:=
 ⟨e,by rw[f,d];exact h.size,by rw[f,d];exact h.same,λx=>by rw[f];exact h.gone (g x),λx=>by rw[d];exact h.kept (g x)⟩
theorem fc.put(h:fc D a b){a' c:Frame}{d:Nat}{v u:Value}(k:a'.tmps=a.tmps.setIfInBounds d v)(j:c.tmps=b.tmps.setIfInBounds d u)(e:c={a' with tmps:=c.tmps})(l:a'.mode=a.mode)(hs:D.T d=false->u=v)(hg:a.mode=.run->D.T d=true->v=undef)(hk:a.mode=.run->D.K d=false):fc D a' c:=by
 refine⟨e,by rw[k,j];simpa using h.size,λi hi=>?_,λg i x hi f=>?_,λg i hi=>?_⟩
 .rw[k,j,vak,vak];by_cases hd:d=i
  .subst hd;simp[hs hi,h.size]
  .simp[hd];exact h.same i hi
 .rw[k,vak]at f;by_cases hd:d=i
  .grind
  .simp[hd]at f;exact h.gone (l▸g) i x hi f
 .rw[j,vak];by_cases hd:d=i
  .grind
  .simp[hd];exact h.kept (l▸g) i hi
def nn.aB{a':Frame}(h:nn P D a)(b:a'.fn=a.fn)(d:a'.roundOf=a.roundOf)(c:a'.mode=.run->a'.todo.all (im D)=true):nn P D a':=⟨c,d.trans h.round,by rw[b];exact h.Gs,h.sl,by rw[b];exact h.NA⟩
def NC(h:fc D a b)(hi:nn P D a){v u:Value}(hn:a.mode≠ .run->u=v)(hd:a.mode=.run->∀ops i rest k,a.todo=.R ops (i::rest)::k->∀o,ops[i]?=some o->∀d,o.dst=some d->(D.T d=false->u=v)/\(D.T d=true->v=undef)):fc D (a.finish v) (b.finish u)/\nn P D (a.finish v):=by
 have g:=hi.items;obtain⟨fn,tmps,todo,defers,mode,kind,ro⟩:=a;obtain⟨p,A,n,t,j,y,q⟩:=b;have e:=h.eq;simp at e;obtain⟨rfl,rfl,rfl,rfl,rfl,rfl⟩:=e;have g:j=.run->n.all (im D)=true:=g;have hn:j≠ .run->u=v:=hn;have hd:j=.run->∀ops i rest k,n=.R ops (i::rest)::k->∀o,ops[i]?=some o->∀d,o.dst=some d->(D.T d=false->u=v)/\(D.T d=true->v=undef):=hd;cases n with
 |nil=>exact⟨h,hi⟩
 |cons x k=>
  simp only[vbi,vaf]at g;cases x with
  |code c=>exact⟨h,hi⟩
  |inBlock id=>exact⟨h,hi⟩
  |inLoop c=>exact⟨h,hi⟩
  |inScope c=>exact⟨h,hi⟩
  |inRangeFunc l=>exact⟨h.aB U U U λx=>x,hi.aB U U λx=>(by cases(g x).1)⟩
  |endRangeFunc l=>exact⟨h,hi⟩
  |beginRound=>exact⟨h.aB U U U λx=>x,hi.aB U U λx=>(by cases(g x).1)⟩
  |call d w r s=>
   by_cases f:j=.run
   .cases(g f).1
   .obtain rfl:=hn f;exact⟨h.aB U U U λx=>x,hi.aB U U λx=>absurd x f⟩
  |extern r aB=>
   by_cases f:j=.run
   .cases(g f).1
   .obtain rfl:=hn f;exact⟨⟨U,U,λ_ _=>U,λx=>absurd x f,λx=>absurd x f⟩,hi.aB U U λx=>absurd x f⟩
  |inRegion ops l=>
   cases l with
   |nil=>exact⟨h,hi⟩
   |cons i rest=>
    have hv:nn P D (Frame.finish ⟨p,tmps,.R ops (i::rest)::k,t,j,y,q⟩ v):=hi.aB U U (λx=>by
     simp_all[im,Frame.finish])
    refine⟨?_,hv⟩;cases m:ops[i]? with
    |none=>exact h.aB I8 I8 I8 λx=>x
    |some o=>
     cases z:o.dst with
     |none=>exact h.aB JZ JZ JZ λx=>x
     |some d=>
      refine h.put (d:=d) (v:=v) (u:=u) ?_ ?_ ?_ U (λht=>?_) AF (λf=>?_)
      .grind[Frame.finish]
      .grind[Frame.finish]
      .grind[Frame.finish]
      .grind
      simp_all[im,td,Tb]
def VN(h:fc D a b)(hi:nn P D a)(vs:List PanicEntry):fc D (a.raise vs) (b.raise vs)/\nn P D (a.raise vs):=by obtain⟨fn,tmps,todo,defers,mode,kind,ro⟩:=a;obtain⟨d,i,k,g,c,j,f⟩:=b;have e:=h.eq;simp at e;obtain⟨rfl,rfl,rfl,rfl,rfl,rfl⟩:=e;cases c<;>exact⟨h.aB U U U (λx=>by cases x),hi.aB U U (λx=>by cases x)⟩
theorem Td:∀{l:dZ}{fr:Frame}{p:Value×List Frame},tryRecover fr l=some p->p.2.length=l.length
 | [],fr,p,e=>by obtain⟨h,g,f,d,c,b,i⟩:=fr;cases b<;>cases e
 |x::l,fr,p,e=>by
  cases a:fr.kind with
  |deferred=>
   simp[tryRecover,a]at e;split at e
   .cases e;rfl
   .cases e
  |wrapped=>simp only[tryRecover,a]at e;cases hq:tryRecover x l with|none=>rw[hq]at e;cases e|some q=>rw[hq]at e;cases e;simp[Td hq]
  | _=>obtain⟨h,g,f,d,c,b,i⟩:=fr;have a:b=_:=a;subst a;cases e
def ao8:∀{cs a_:dZ},np P D cs a_->∀(fr:Frame),(tryRecover fr cs=none->tryRecover fr a_=none)/\∀v c1,tryRecover fr cs=some (v,c1)->∃q,tryRecover fr a_=some (v,q)/\np P D c1 q:=by
 intro cs a_ h;induction h with
 |@here a b h v l o=>
  intro fr;have H:=h.mode;have hk:=h.kind;obtain⟨fn,tmps,todo,defers,mode,kind,ro⟩:=a;obtain⟨i,E,m,k,f,d,j⟩:=b;have e:=h.eq;simp at e;obtain⟨rfl,rfl,rfl,rfl,rfl,rfl⟩:=e;cases c:fr.kind with
  |deferred=>
   simp[tryRecover,c];split
   .refine⟨AF,λv1 c1 e=>?_⟩;simp at e;obtain⟨rfl,rfl⟩:=e;refine⟨_,U,np.here ?_ ?_ l o⟩
    .exact h.aB U U U AF
    .exact⟨v.tonn.aB U U AF,AF⟩
   .exact⟨λ_=>U,AF⟩
  |wrapped=>
   simp only[tryRecover,c];have y:∀l,tryRecover ⟨i,E,m,k,f,d,j⟩ l=tryRecover ⟨i,tmps,m,k,f,d,j⟩ l:=by intro l;cases l<;>cases d<;>rfl
   rw[y];cases hq:tryRecover ⟨i,tmps,m,k,f,d,j⟩ l with|none=>exact⟨λ_=>U,AF⟩|some p=>refine⟨AF,λv1 c1 e=>?_⟩;simp at e;obtain⟨rfl,rfl⟩:=e;exact⟨_,U,.here h v _ ((Td hq).trans o)⟩
  | _=>obtain⟨B,A,t,s,r,g,C⟩:=fr;have c:g=_:=c;subst c;exact⟨λ_=>U,λv1 c1 e=>Cn⟩
 |@there a l F h u=>
  intro fr;cases c:fr.kind with
  |deferred=>
   simp[tryRecover,c];split
   .refine⟨AF,λv1 c1 e=>?_⟩;simp at e;obtain⟨rfl,rfl⟩:=e;exact⟨_,U,.there _ h⟩
   .exact⟨λ_=>U,AF⟩
  |wrapped=>simp only[tryRecover,c];obtain⟨x,w⟩:=u a;cases n:tryRecover a l with|none=>rw[x n];exact⟨λ_=>U,AF⟩|some p=>obtain⟨v0,c_⟩:=p;obtain⟨I,z,h0⟩:=w v0 c_ n;refine⟨AF,λv1 c1 e=>?_⟩;simp at e;obtain⟨rfl,rfl⟩:=e;rw[z];exact⟨_,U,.there _ h0⟩
  | _=>obtain⟨B,A,t,s,r,g,C⟩:=fr;have c:g=_:=c;subst c;exact⟨λ_=>U,λv1 c1 e=>Cn⟩
end
inductive h5(P:cf)(D:fv):Frame->List Frame->Frame->List Frame->Prop
 |hL {a b:Frame} {cs:dZ} (h:fc D a b) (v:V6 P D a) (hl:cs.length=D.d):h5 P D a cs b cs
 |under (a:Frame) {cs a_:dZ} (h:np P D cs a_):h5 P D a cs a a_
variable{aK ap:Type}
section
variable{P:cf}{D:fv}{a b:Frame}{cs a_:dZ}
theorem fg.BV{o:Outcome}{es':uaq}:fg P D (GStep.after es (.ended o w es')) s:=λ_ _ _ e=>by cases e
def fg.ite{c:Prop}[Decidable c]{A B a b:GStep}(e:c->fg P D A a)(d:¬c->fg P D B b):fg P D (if c then A else B) (if c then a else b):=by grind
theorem h5.todo(h:h5 P D a cs b a_):b.todo=a.todo:=by cases h with|hL h v c=>exact h.todo|under=>rfl
theorem h5.fn(h:h5 P D a cs b a_):b.fn=a.fn:=by cases h with|hL h v c=>exact h.fn|under=>rfl
theorem h5.kind(h:h5 P D a cs b a_):b.kind=a.kind:=by cases h with|hL h v c=>exact h.kind|under=>rfl
def h5.round(h:h5 P D a cs b a_):b.roundOf=a.roundOf:=by cases h with|hL h v c=>exact h.roundOf|under=>rfl
theorem h5.mode(h:h5 P D a cs b a_):b.mode=a.mode:=by cases h with|hL h v c=>exact h.mode|under=>rfl
theorem h5.defers(h:h5 P D a cs b a_):b.defers=a.defers:=by cases h with|hL h v c=>exact h.defers|under=>rfl
def h5.yJ(h:h5 P D a cs b a_)(s:GoStatus)(d:Option Dying):mS P D ⟨a,cs,s,d,none⟩ ⟨b,a_,s,d,none⟩:=by cases h with|hL h v c=>exact .hL h v.tonn _ c _ _|under h=>exact .under _ h _ _
def h5.push(h:h5 P D a cs b a_):np P D (a::cs) (b::a_):=by cases h with|hL h v c=>exact .here h v _ c|under h=>exact .there _ h
def h5.dN(h:h5 P D a cs b a_)(x:Value)(s:GoStatus)(d:Option Dying):mS P D ⟨a.finish x,cs,s,d,none⟩ ⟨b.finish x,a_,s,d,none⟩:=by
 cases h with
 |hL h v g=>obtain⟨l,j⟩:=NC (v:=x) (u:=x) h v.tonn AF (λf ops i rest k e o c d hd=>⟨λ_=>U,λht=>by rw[v.bf f ops i rest k e o c d hd]at ht;cases ht⟩);exact .hL l j _ g _ _
 |under h=>exact .under _ h _ _
theorem h5.raise(h:h5 P D a cs b a_)(vs:List PanicEntry)(s:GoStatus)(d:Option Dying):mS P D ⟨a.raise vs,cs,s,d,none⟩ ⟨b.raise vs,a_,s,d,none⟩:=by
 cases h with
 |hL h v c=>obtain⟨f,e⟩:=VN h v.tonn vs;exact .hL f e _ c _ _
 |under h=>exact .under _ h _ _
def h5.B4(h:h5 P D a cs b a_)(ds:List Deferred):h5 P D {a with defers:=ds} cs {b with defers:=ds} a_:=by
 cases h with
 |hL h v c=>
  refine h5.hL ?_ ?_ c
  .refine h.aB U U ?_ λx=>x;rw[h.eq]
  .exact⟨v.tonn.aB U U v.items,v.bf⟩
 |under h=>exact .under _ h
def np.data(h:np P D cs a_):a_.map Frame.asData=cs.map Frame.asData:=by
 induction h with
 |@here a b h v l d=>
  have:b.asData=a.asData:=by rw[h.eq];rfl
  grind
 |there a h c=>grind
theorem np.enter(h:np P D cs a_)(l:dZ):np P D (l++cs) (l++a_):=by induction l with|nil=>exact h|cons x l a=>exact .there x a
def h5.recover(h:h5 P D a cs b a_):(tryRecover a cs=none->tryRecover b a_=none)/\∀v c1,tryRecover a cs=some (v,c1)->∃d,tryRecover b a_=some (v,d)/\h5 P D a c1 b d:=by
 cases h with
 |hL h v f=>
  have e:tryRecover b cs=tryRecover a cs:=by rw[h.eq];obtain⟨fn,tmps,todo,defers,mode,kind,ro⟩:=a;cases cs<;>cases kind<;>rfl
  rw[e];exact⟨id,λv1 c1 e=>⟨c1,e,.hL h v ((Td e).trans f)⟩⟩
 |under h=>obtain⟨k,j⟩:=ao8 h a;exact⟨k,λv1 c1 e=>(j v1 c1 e).imp λc⟨i,g⟩=>⟨i,.under _ g⟩⟩
def ao9(h:h5 P D a cs b a_)(g:Nat)(w:aL):fg P D (early P a cs none g w) (early P b a_ none g w):=by
 have notYet:∀w:aL,fg P D (match w.heap[g]? with|some (.pending c elem)=>.go {frame:=a,callers:=cs,status:=.running,dying:=none} {w with heap:=w.heap.setIfInBounds g (.cells c elem)}| _=>.ended (.stuck "early: the variable does not wait" (a.pos P)) w)
  (match w.heap[g]? with|some (.pending c elem)=>.go {frame:=b,callers:=a_,status:=.running,dying:=none} {w with heap:=w.heap.setIfInBounds g (.cells c elem)}| _=>.ended (.stuck "early: the variable does not wait" (b.pos P)) w):=by
  intro w;split
  .exact .go (h.yJ _ _)
  .exact .ended
 have there:∀(f:uaj)(w:aL)(l:dZ),fg P D (.go {frame:=Frame.enter P f #[] .early,callers:=l++a::cs,status:=.running,dying:=none} w) (.go {frame:=Frame.enter P f #[] .early,callers:=l++b::a_,status:=.running,dying:=none} w):=λf w l=>.go (.under _ (h.push.enter l) _ _);unfold early;simp only[h.kind];split
 .grind
 split
 .exact .ended
 split
 .grind
 split
 .grind
 split
 .exact .ended
 .grind
 .exact .ended
 .grind
 split
 .grind
 split
 .grind
 split
 .grind
 .grind
 .exact .ended
def VM{m:String}:fg P D (endFatal P a cs none m w) s:=by unfold endFatal;intro g1 w1 es e hs hd;grind[dieOf]
theorem C7(hF:P.follows .rangeFuncRecover=true)(y:a.mode=.run)(h:h5 P D a cs b a_)(s:Sem Next)(w:aL):fg P D (stepG.apply P true a cs none s w) (stepG.apply P true b a_ none s w):=by
 have ht:=h.todo;have c:∀r aB k,a.todo=.extern r aB::k->∃cs0 x,cs=cs0/\a_=x/\a=b/\np P D cs a_:=by intro r aB k e;cases h with|hL h v o=>have:=v.items y;grind[im]|under h=>grind
 unfold stepG.apply;rw[ht,h.fn,h.kind];simp only[vdg];rcases hr:s.runT P w #[]with⟨r,es⟩;simp only[];refine fg.after _ ?_;cases r with
 |ok n w1=>
  cases n with
  |value v=>exact .go (h.dN _ _ _)
  |skip=>exact .go (h.dN _ _ _)
  |enter f args=>exact .go (.under _ h.push _ _)
  |callThen d resume saved wrapper=>
   simp only[];split
   .rename_i e;obtain⟨_,_,_,_,rfl,i⟩:=c _ _ _ e;exact .go (.under _ i _ _)
   .exact .go (.under _ h.push _ _)
  |row row args=>
   simp only[];split
   .rename_i e;obtain⟨_,_,_,_,rfl,i⟩:=c _ _ _ e;exact .go (.under _ i _ _)
   .exact .go (.under _ h.push _ _)
  |stack resume saved=>
   have j:(b::a_).toArray.map Frame.asData=(a::cs).toArray.map Frame.asData:=by have:=h.push.data;grind
   simp only[j];split
   .rename_i e;obtain⟨_,_,_,_,rfl,i⟩:=c _ _ _ e;exact .go (.under _ i _ _)
   .exact .go (.under _ h.push _ _)
  |round l f tmps assign body=>exact .go (.under _ h.push _ _)
  |recover=>
   obtain⟨A,z⟩:=h.recover;simp[h.round,hF];have key:fg P D (match tryRecover a cs with
    |some (v,callers)=>.go {frame:=a.finish v,callers,status:=.running,dying:=none} w1
    |none=>.go {frame:=a.finish .nilIface,callers:=cs,status:=.running,dying:=none} w1)
    (match tryRecover b a_ with
    |some (v,callers)=>.go {frame:=b.finish v,callers,status:=.running,dying:=none} w1
    |none=>.go {frame:=b.finish .nilIface,callers:=a_,status:=.running,dying:=none} w1):=by
    cases c:tryRecover a cs with|none=>rw[A c];exact .go (h.dN _ _ _)|some p=>obtain⟨v0,c_⟩:=p;obtain⟨C,B,h0⟩:=z v0 c_ c;rw[B];exact .go (h0.dN _ _ _)
   grind
  |sleep t=>exact .vx AF
  |spawn d=>
   simp only[];split<;>split
   all_goals first|exact λg1 w1 es e hs hd=>(by grind[endThrow,dieOf])|exact λ_ _ _ e _ _=>Cn
  | _=>
   first
    |rename_i d
     have q:=(h.B4 (d::a.defers)).dN undef .running none;rw[ht,h.fn,h.kind]at q;simp[h.defers];exact .go q
    |intro g1 w1 es e
     cases e
 |halt o w1=>
  cases o with
  |panic v=>exact .go (h.raise _ _ _)
  |goexit=>exact .go (h.raise _ _ _)
  |blocked=>exact .vx AF
  |waiting=>exact .vx AF
  |fatal m=>exact VM
  |throw m=>exact .vx AF
  |unsupported u=>cases u with
   |initOrder g=>exact ao9 h g w1
   | _=>exact .ended
  | _=>exact .ended
theorem fc.wanted(h:fc D a b){ops:du}{o:Oper}(hg:Nz D ops o=true):Region.wanted o (yielded ops b.tmps)=Region.wanted o (yielded ops a.tmps):=by
 unfold Region.wanted;cases e:o.guard with
 |none=>rfl
 |some i8=>
  obtain⟨g,want⟩:=i8;have d:yielded ops b.tmps g=yielded ops a.tmps g:=by
   unfold yielded;cases ht:(ops[g]?).bind (·.dst)with
   |none=>rfl
   |some t=>
    have c:D.T t=false:=by grind[Nz]
    simp[h.same t c]
  grind
theorem Te{p:Item->Bool}{id:Nat}:∀{k k':fC},exitTo id k=some k'->k.all p=true->k'.all p=true
 | [],_,e,_=>Cn
 |x::k,k',e,h=>by
  simp only[vbi,vaf]at h;cases x with
  |inBlock a=>
   simp only[exitTo]at e;split at e
   .cases e;exact h.2
   .exact Te e h.2
  | _=>simp only[exitTo]at e;exact Te e h.2
inductive qb{ap:Type}:Result ap->Prop
 |stuck {m:String} {w:aL}:qb (.halt (.stuck m) w)
 |unsupported (u:Unsupported) {w:aL} (h:∀g,u≠ .initOrder g):qb (.halt (.unsupported u) w)
theorem qb.bind{m:Sem ap}{k:ap->Sem aK}(h:qb (m.run P w)):qb ((m>>= k).run P w):=by rw[m2];generalize m.run P w=r at h;cases h with|stuck=>exact .stuck|unsupported u a=>exact .unsupported u a
def qb.next{m:Sem ap}{k:ap->Sem aK}(h:qb (m.run P w)\/∃a,m.run P w=.ok a w/\qb ((k a).run P w)):qb ((m>>= k).run P w):=by
 rcases h with h|⟨a,e,h⟩
 .exact h.bind
 simp_all
def apa(t:uaa)(i:Value)(w:aL):qb ((do pure (Next.value (<-Instr.indexAt t undef i)):Sem Next).run P w):=by
 refine qb.bind ?_;unfold Instr.indexAt;refine qb.next ?_;cases i with
 |int k n=>refine .inr ⟨(k,n),U,?_⟩;refine qb.next ?_;cases b:P.underlying t with|none=>exact .inl (by simp only[underlying,Go.program,Bind.bind,Sem.bind,Sem.run,b];exact .stuck)|some d=>refine .inr ⟨d,by simp_all[underlying,Go.program,Sem.run],?_⟩;cases d<;>exact qb.bind .stuck
 |pointer p=>cases p with
  |none=>exact .inl .stuck
  |some a=>exact .inl (.unsupported _ AF)
 | _=>exact .inl .stuck
def apb{ev:uak}{t:Nat}{c:Call}{at_ ty e:uaa}(a:c.callee=.builtin .len)(f:c.args=#[.tmp t])(b:c.argTypes=#[at_])(h:ev (.tmp t)=undef)(i:P.underlying at_=some (.slice e))(w:aL):qb ((do let d <-resolve ev c ty;invoke d.target d.args:Sem Next).run P w):=by
 have g:(Go.underlying at_).run P w=.ok (.slice e) w:=by simp_all[underlying,Go.program,Sem.run]
 simp[resolve,invoke,builtin,Builtin.len_,go_sem,a,f,b,h,g,undef];constructor
theorem apc(hF:P.follows .rangeFuncRecover=true)(g:a.mode=.run)(h:fc D a b)(hv:nn P D a){ops:du}{i:Nat}{rest:e8}{k:fC}(ht:a.todo=.R ops (i::rest)::k){o:Oper}(s:ops[i]?=some o)(A:td D ops o=true)(cs:dZ)(z:cs.length=D.d)(w:aL):fg P D (stepG.oper P true a cs none w) (stepG.oper P true b cs none w):=by
 have L:a.oper?=some o:=FQ;have ob:b.oper?=some o:=by simp[Frame.oper?,h.todo,ht,s]
 have B:=hv.round;have O:b.roundOf=none:=h.roundOf.trans B;unfold stepG.oper;simp[L,ob,B,O];simp[td]at A;rcases A.2 with(p|j)|hs
 .simp only[i7,vaf,Bool.not_eq_true']at p;have hd:∀d,o.dst=some d->D.T d=false:=λd e=>by grind[Ta]
  have N:∀c E,o.op≠ .select c E:=AF;have J:execOp b.eval o=execOp a.eval o:=execOp_congr o N λx I=>h.eval (van.1 p.1.1 x I);rw[J];refine C7 hF g (.hL h ⟨hv,λ_ ops' H rest' k' e o' m d l=>?_⟩ z) _ _;grind
 .unfold V7 at j;split at j
  .rename_i t d f M;simp at j;have q:=NC (v:=a.eval (.tmp t)) (u:=b.eval (.tmp t)) h hv AF (λ_ ops' H rest' k' e o' m T l=>by
    rw[ht]at e;cases e;rw[s]at m;cases m;rw[M]at l;cases l;exact⟨AF,λ_=>h.NB g j.1⟩)
   have C:execOp a.eval o=pure (.value (a.eval (.tmp t))):=by grind[execOp]
   have Q:execOp b.eval o=pure (.value (b.eval (.tmp t))):=by grind[execOp]
   rw[C,Q];simp only[stepG.apply,vdg,Sem.runT,pure,h.fn,h.kind];exact .after _ (.go (.hL q.1 q.2 _ z _ _))
  grind
 .have hst:∀w,qb ((execOp a.eval o).run P w):=by
   unfold Wa at hs;split at hs
   .rename_i t x f;intro w;simp only[execOp,f,h.NB g hs];exact .stuck
   .rename_i t x y f;intro w;simp only[execOp,f,h.NB g hs];exact apa _ _ _
   .rename_i c f;intro w;simp only[execOp,f];unfold Wf at hs;split at hs
    .rename_i K;split at hs
     .rename_i t ty S R;simp at hs;obtain⟨e,n⟩:=hv.sl _ hs.2;exact apb K AF AF (h.NB g hs.1) n w
     grind
    grind
   grind
  have:=hst w;simp only[stepG.apply,vdg];rcases hr:(execOp a.eval o).runT P w #[]with⟨r,es⟩;have F:(execOp a.eval o).run P w=r:=by simp_all
  rw[F]at this;cases this with|stuck=>exact fg.BV|unsupported u n=>grind[fg.BV]
def fc.xZ(h:fc D a b)(k:fC):fc D {a with todo:=k} {b with todo:=k}:=h.aB U U (by rw[h.eq]) λx=>x
def fc.uP(h:fc D a b){m:FrameMode}(c:m≠ .run):fc D {a with mode:=m} {b with mode:=m}:=h.aB U U (by rw[h.eq]) AF
def nn.uP(h:nn P D a){m:FrameMode}(b:m≠ .run):nn P D {a with mode:=m}:=h.aB U U AF
def nn.xZ(h:nn P D a){k:fC}(hk:k.all (im D)=true):nn P D {a with todo:=k}:=h.aB U U λ_=>hk
theorem apd(hF:P.follows .rangeFuncRecover=true)(main:Bool)(y:a.mode=.run)(h:fc D a b)(hv:nn P D a)(cs:dZ)(f:cs.length=D.d)(w:aL):fg P D (stepG.exec P main true a cs none w) (stepG.exec P main true b cs none w):=by
 have j:=hv.items y;have g:∀k:List Item,k.all (im D)=true->fg P D (.go {frame:={a with todo:=k},callers:=cs,status:=.running,dying:=none} w) (.go {frame:={b with todo:=k},callers:=cs,status:=.running,dying:=none} w):=λk hk=>.go (.hL (h.xZ k) (hv.xZ hk) _ f _ _);have z:fg P D (.go {frame:={a with mode:=.returning},callers:=cs,status:=.running,dying:=none} w) (.go {frame:={b with mode:=.returning},callers:=cs,status:=.running,dying:=none} w):=.go (.hL (h.uP Ab) (hv.uP Ab) _ f _ _);have ht:=h.todo;have s:=hv.round;have A:b.roundOf=none:=h.roundOf.trans s;unfold stepG.exec;rw[ht];rw[ht]at z;cases hk:a.todo with
 |nil=>grind
 |cons x k=>
  rw[hk]at j;simp only[vbi,vaf]at j;obtain⟨d,m⟩:=j;cases x with
  |code c=>
   have d:pm D c=true:=d;cases c with
   |ret=>grind
   |skip=>grind
   |seq c1 bG=>simp_all[pm,im]
   |cond c t e=>
    simp[pm]at d;simp[h.eval d.1.1];split
    .rename_i C _;refine g _ ?_;simp only[vbi,im,vaf];grind
    .exact .ended
   |block id c=>exact g _ (by simp only[vbi,im,vaf];exact⟨d,NE,m⟩)
   |loop c=>exact g _ (by simp only[vbi,im,vaf];exact⟨d,d,m⟩)
   |exit id=>simp only[];cases E:exitTo id k with|none=>simp only[Option.elim,s,A];exact .ended|some k'=>grind[Te]
   |region id ops draw=>
    have B:∀l:List Nat,(Item.inRegion ops l::k).all (im D)=true:=λl=>by rw[vbi,vaf];refine⟨?_,m⟩;simp[im];intro i _;cases r:ops[i]? with|none=>rfl|some o=>exact van.1 d o (vbe r)
    cases draw with
    |false=>grind
    |true=>
     simp only[h.fn,Bool.not_true,vai,vef];split
     .rename_i t _ _;have q:mS P D ⟨{a with todo:=_},cs,.running,none,none⟩ ⟨{b with todo:=_},cs,.running,none,none⟩:=.hL (h.xZ _) (hv.xZ (B (Region.schedule (P.follows .mixedOrders) ops t))) cs f .running none;rw[h.fn]at q;exact .go q
     .exact .ended
   | _=>cases d
  |inBlock id=>grind
  |inLoop c=>simp_all[im]
  |inRegion ops l=>
   cases l with
   |nil=>grind
   |cons i rest=>
    simp only[im,vbi,vaf]at d;simp only[];cases r:ops[i]? with
    |none=>simp;obtain⟨p,n⟩:=NC (v:=undef) (u:=undef) h hv AF AF;exact .go (.hL p n _ f _ _)
    |some o=>
     have F:td D ops o=true:=AF;have hg:Nz D ops o=true:=by simp_all[td]
     simp[h.wanted hg];split
     .grind[apc]
     .obtain⟨p,n⟩:=NC (v:=undef) (u:=undef) h hv AF AF;exact .go (.hL p n _ f _ _)
  | _=>cases d
theorem Gv(c:np P D cs a_)(main:Bool)(fr:Frame)(v:Value)(w:aL):fg P D (doReturn P main fr cs none v w) (doReturn P main fr a_ none v w):=by
 cases c with
 |there x h=>
  simp[doReturn];split
  .exact .go (.under _ h _ _)
  .exact .go (.under _ h _ _)
  .exact .go (.under _ h _ _)
  .exact .go (.under _ h _ _)
 |@here x y h hv l a=>
  have b:=h.mode;simp[doReturn];have dN:fg P D (.go {frame:=x.finish v,callers:=l,status:=.running,dying:=none} w) (.go {frame:=y.finish v,callers:=l,status:=.running,dying:=none} w):=.go ((h5.hL h hv a).dN v _ _);split
  .grind
  .grind
  .exact .go (.hL h hv.tonn _ a _ _)
  .rw[b];split
   .split
    .exact .go (.hL (h.uP Ab) (hv.tonn.uP Ab) _ a _ _)
    .exact .go (.hL (h.uP Ab) (hv.tonn.uP Ab) _ a _ _)
   .exact .go (.hL h hv.tonn _ a _ _)
def VL(h:h5 P D a cs b a_)(d:Deferred)(w:aL):fg P D (callDeferred P a cs none d w) (callDeferred P b a_ none d w):=by
 have yJ:=h.yJ .running none;unfold callDeferred;rw[h.mode,h.fn];refine fg.ite (λ_=>.ended) (λ_=>?_);rcases hr:(invoke d.target d.args).runT P w #[]with⟨r,es⟩;simp only[];refine fg.after _ ?_;cases r with
 |ok n w1=>
  cases n with
  |enter f args=>exact .go (.under _ h.push _ _)
  |round l f tmps assign body=>exact .go (.under _ h.push _ _)
  |callThen d resume saved wrapper=>exact .go (.under _ h.push _ _)
  |row row args=>exact .go (.under _ h.push _ _)
  |recover=>
   obtain⟨k,j⟩:=h.recover;simp only[];cases g:tryRecover a cs with
   |none=>rw[k g];cases a.mode<;>exact .go yJ
   |some p=>
    obtain⟨v0,c_⟩:=p;obtain⟨q,o,h0⟩:=j v0 c_ g;rw[o];cases a.mode
    .exact .go yJ
    .exact .go (h0.yJ _ _)
    .exact .go yJ
  |sleep t=>exact .vx AF
  |alone on v=>cases on<;>exact λ_ _ _ e=>Cn
  |timer op=>exact .ended
  |collect=>exact λ_ _ _ e=>Cn
  |watch v=>exact λ_ _ _ e=>Cn
  |coroswitch c ex=>cases ex<;>exact λ_ _ _ e=>Cn
  |newcoro c d=>exact .ended
  |stack r s=>exact .ended
  | _=>exact .go yJ
 |halt i w1=>cases i with|panic v=>exact .go (h.raise _ _ _)|goexit=>exact .go (h.raise _ _ _)|blocked=>exact .vx AF|waiting=>exact .vx AF|fatal m=>exact VM|throw m=>exact .vx AF| _=>exact .ended
theorem Vg{f g:ap->Sem aK}:∀{l:List ap},(∀x∈l,f x=g x)->l.mapM f=l.mapM g
 | [],_=>rfl
 |x::l,h=>by rw[List.mapM_cons,List.mapM_cons,h x Ab,Vg λy a=>h y (by simp[a])]
def ape(h:fc D a b){fn:Func}(c:fn.results.all (C5 D)=true):results fn b.tmps=results fn a.tmps:=by
 unfold results;congr 1
 rw[vcm,vcm];congr 1
 refine Vg λr e=>?_;have d:=van.1 c r AF;cases r with|tmp t=>simp[h.getD (show D.T t=false by grind[C5])]|cell x t=>simp[h.getD (show D.T x=false by grind[C5])]
theorem apf(main:Bool)(l:a.mode≠ .run)(h:fc D a b)(hv:nn P D a)(cs:dZ)(e:cs.length=D.d)(w:aL):fg P D (unwind P main a cs none w) (unwind P main b cs none w):=by
 have g:h5 P D a cs b cs:=.hL h ⟨hv,AF⟩ e;unfold unwind;rw[h.defers];cases hd:a.defers with
 |nil=>
  simp only[h.mode];split
  .grind
  .rename_i chain _;have f:b.catches P=a.catches P:=by rw[h.eq];rfl
   rw[f];split
   .exact .ended
   cases cs with
   |cons c rest=>exact .go (.same _ AF)
   |nil=>
    simp only[];split
    .exact .vx AF
    split
    .exact .vx AF
    .exact .ended
    .exact .ended
  .obtain⟨fn,k,j⟩:=hv.Gs;simp only[h.fn,k,ape h j];rcases(results fn a.tmps).runT P w #[]with⟨r,es⟩;simp only[];refine fg.after _ ?_;cases r with
   |ok v w1=>
    simp only[doReturn,h.kind,h.fn];cases cs with
    |cons c rest=>simp only[];cases a.kind<;>exact .go (.same _ AF)
    |nil=>
     simp only[];split
     .grind
     .exact .ended
     .rw[hv.NA];split
      .exact .vx AF
      .exact .ended
   |halt e w1=>cases e<;>exact .ended
 |cons d ds=>
  obtain⟨qc,args⟩:=d;have f:=VL (g.B4 ds) ⟨qc,args⟩ w;cases qc with
  |collected i=>simp only[h.fn];rcases(Instr.takeDeferred i).runT P w #[]with⟨r,es⟩;simp only[];refine fg.after _ ?_;cases r with|ok calls w1=>have q:=(g.B4 (calls++ds)).yJ .running none;rw[h.fn]at q;exact .go q|halt e w1=>exact .ended
  | _=>exact f
theorem apg(main:Bool)(c:np P D cs a_)(w:aL):fg P D (unwind P main a cs none w) (unwind P main a a_ none w):=by
 have f:h5 P D a cs a a_:=.under a c;unfold unwind;cases hd:a.defers with
 |nil=>
  simp only[];split
  .exact .ended
  .rename_i chain _;split
   .exact .ended
   cases c with
   |@here x y h hv l b=>obtain⟨i,g⟩:=VN h hv.tonn chain;exact .go (.hL i g _ b _ _)
   |there x h=>exact .go (.under _ h _ _)
  .cases P.funcs[a.fn]? with|none=>grind[Gv]|some fn=>simp only[];rcases(results fn a.tmps).runT P w #[]with⟨r,es⟩;simp only[];refine fg.after _ ?_;cases r with|ok v w1=>grind[Gv]|halt b w1=>cases b<;>exact .ended
 |cons d ds=>
  obtain⟨qc,args⟩:=d;have j:=VL (f.B4 ds) ⟨qc,args⟩ w;cases qc with
  |collected e=>simp only[];rcases(Instr.takeDeferred e).runT P w #[]with⟨r,es⟩;simp only[];refine fg.after _ ?_;cases r with|ok calls w1=>exact .go (.under _ c _ _)|halt b w1=>exact .ended
  | _=>grind
theorem aph(hF:P.follows .rangeFuncRecover=true)(main:Bool)(m:np P D cs a_)(n:a.mode=.run)(w:aL):fg P D (stepG.exec P main true a cs none w) (stepG.exec P main true a a_ none w):=by
 have q:h5 P D a cs a a_:=.under a m;have go:∀(fr:Frame)(w:aL)(es:uaq),fg P D (.go {frame:=fr,callers:=cs,status:=.running,dying:=none} w es) (.go {frame:=fr,callers:=a_,status:=.running,dying:=none} w es):=λfr w es=>.go (.under _ m _ _);unfold stepG.exec;cases hk:a.todo with
 |nil=>cases h:a.roundOf with|none=>grind|some b=>simp only[];rcases(Instr.endRound b (none)).runT P w #[]with⟨r,es⟩;simp only[];refine fg.after _ ?_;cases r with|ok v w1=>grind[Gv]|halt g w1=>exact .ended
 |cons x k=>
  cases x with
  |code c=>
   cases c with
   |ret=>cases h:a.roundOf with|none=>grind|some b=>simp only[];rcases(Instr.endRound b (some .ret)).runT P w #[]with⟨r,es⟩;simp only[];refine fg.after _ ?_;cases r with|ok v w1=>grind[Gv]|halt g w1=>exact .ended
   |cond c t e=>
    simp only[];split
    .grind
    .exact .ended
   |exit id=>
    simp only[];cases o:exitTo id k with
    |none=>
     cases h:a.roundOf with
     |none=>simp only[Option.elim];first|exact go _ _ _ |exact .ended
     |some b=>simp only[Option.elim];rcases(Instr.endRound b (some (.exit id))).runT P w #[]with⟨r,es⟩;simp only[];refine fg.after _ ?_;cases r with|ok v w1=>grind[Gv]|halt g w1=>exact .ended
    |some k'=>grind
   |goto l=>
    simp only[];cases o:gotoIn l k with
    |none=>
     cases h:a.roundOf with
     |none=>simp only[Option.elim];first|exact go _ _ _ |exact .ended
     |some b=>simp only[Option.elim];rcases(Instr.endRound b (some (.goto l))).runT P w #[]with⟨r,es⟩;simp only[];refine fg.after _ ?_;cases r with|ok v w1=>grind[Gv]|halt g w1=>exact .ended
    |some k'=>grind
   |rangeFunc f params assign body=>
    simp only[];rcases(Instr.enterLoop a.fn a.tmps params assign body a.roundOf).runT P w #[]with⟨r,es⟩;simp only[];refine fg.after _ ?_;cases r with
    |ok lm w1=>obtain⟨l,mk⟩:=lm;exact C7 hF (by exact n) (h5.under _ m) _ _
    |halt g w1=>exact .ended
   |refuse p=>exact .ended
   |region id ops draw=>
    cases draw with
    |false=>grind
    |true=>
     simp only[Bool.not_true,vai,vef];split
     .grind
     .exact .ended
   | _=>grind
  |inRegion ops l=>
   cases l with
   |nil=>grind
   |cons i rest=>
    simp only[];split
    .unfold stepG.oper;split
     .exact .ended
     .split
      .grind[C7]
      grind[C7]
    grind
  |inRangeFunc l=>exact .ended
  |beginRound=>grind[C7]
  |endRangeFunc l=>simp only[];rcases(Instr.endLoop l).runT P w #[]with⟨r,es⟩;simp only[];refine fg.after _ ?_;cases r with|ok j w1=>grind|halt g w1=>cases g with|panic v=>grind| _=>exact .ended
  |call d wr rs sv=>grind[C7]
  |extern row args=>simp only[];cases Extern.next row with|none=>exact .ended|some e=>grind[C7]
  | _=>grind
def api(hF:P.follows .rangeFuncRecover=true)(main:Bool)(h:mS P D g g')(hn:D.d<=g.callers.length)(hd:g.dying=none)(w:aL):fg P D (stepG P main g w) (stepG P main g' w):=by
 cases h with
 |same g c=>omega
 |@hL a b h hv cs c s d=>obtain rfl:d=none:=hd;unfold stepG;simp[h.mode];grind[apd,apf]
 |@under a cs a_ e s d=>obtain rfl:d=none:=hd;unfold stepG;grind[aph,apg]
end
def mS.parts{P:cf}{D:fv}(h:mS P D g g'):g'.status=g.status/\g'.dying=g.dying:=by cases h<;>exact⟨U,U⟩
def oX.var{P:cf}{D:fv}(hF:P.follows .rangeFuncRecover=true){main:Bool}{K:c7}{post:aX->Prop}{base:dZ}(s:D.d<=base.length){X:aX}(h:oX P main K (Ij base) post X):
 ∀g',mS P D X.g g'->i_ P main K (λg=>∃Y,post Y/\mS P D Y.g g.g/\g.w=Y.w/\g.mine=Y.mine) ⟨g',X.w,X.mine⟩:=by
 induction h with
 |@done X h=>exact λg' hs=>.done ⟨X,h,hs,U,U⟩
 |@step X inv ok _ p=>
  intro g' hs;obtain⟨fr,cs,hg⟩:=inv;have hstep:∀w' g1 w1 es,stepG P main X.g w'=.go g1 w1 es->g1.status=.running->g1.dying=none->∃c,stepG P main g' w'=.go c w1 es/\mS P D g1 c:=λw' g1 w1 es e r q=>api hF main hs (by rw[hg];simp[aY];omega) (by rw[hg];rfl) w' g1 w1 es e r q;refine .step (λw' b=>?_) (λw' g1 w1 es b e=>?_)
  .obtain⟨g1,w1,es,e,a⟩:=ok w' ⟨b.heap,b.size,b.env⟩;obtain⟨c,f,d⟩:=hstep w' g1 w1 es e a.run a.ow;obtain⟨n,m⟩:=d.parts;exact⟨c,w1,es,f,n.trans a.run,m.trans a.ow,a.kept,a.size,a.os,a.output,a.tape,a.drawn,a.evs⟩
  .have i:kv K X w':=⟨b.heap,b.size,b.env⟩;obtain⟨j,l,o,k,a⟩:=ok w' i;obtain⟨c,f,d⟩:=hstep w' j l o k a.run a.ow;rw[f]at e;cases e;exact p w' j _ _ i k _ d
def np.lt{P:cf}{D:fv}{l b:dZ}(h:np P D l b):D.d<l.length:=by induction h with|here h v l d=>simp;omega|there a h c=>simp;omega
end lK
namespace ej
open RowKit az
@[simp] theorem auw:cX true 5:=dg (bB (upd:=true) func5 AQ) AQ
@[simp] theorem aGZ:cX true 13:=dg (bB (upd:=true) func13 AQ) AQ
@[simp] theorem aG0:cX true 12:=dg (bB (upd:=true) func12 AQ) AQ
@[simp] theorem aG1:cX true 11:=dg (bB (upd:=true) func11 AQ) AQ
@[simp] theorem aG2:cX true 14:=dg (bB (upd:=true) func14 AQ) AQ
@[simp] theorem aux:cX true 7:=dg (bB (upd:=true) func7 AQ) AQ
@[simp] theorem auy:cX true 6:=dg (bB (upd:=true) func6 AQ) AQ
def eC(c:Int):Prop:= -9223372036854775808<=c/\c<=9223372036854775807
def l_(c n:Int):Int:=(if c<0 then -(c+1)else c) % n
def jl(c:Int):Bool:=decide (c<0)&&decide (l_ c 3=0)
def gq(c:Int):Int:=if jl c then 0 else l_ c 2001-1000
def lO(c:Int):Int:=if jl c then 0 else l_ c 4
def lets:List String:=["","a","b","ab","ba","aa","c","é","A","0"," ","zz","z"]
def nz(c:Int):ByteArray:=if jl c then "".toUTF8 else(lets[(l_ c 13).toNat]?.getD "").toUTF8
def uB(c:Int){n:Int}(hn:0<n):0<=l_ c n/\l_ c n<n:=⟨Int.emod_nonneg _ AX,Int.emod_lt_of_pos _ hn⟩
def aG3(c:Int): -1000<=gq c/\gq c<=1000:=by
 unfold gq;split
 .omega
 .have:=uB c (n:=2001) AX;omega
def aG4(c:Int):0<=lO c/\lO c<=3:=by
 unfold lO;split
 .omega
 .have:=uB c (n:=4) AX;omega
def Kz(c n:Int)(b:eC c)(hn:0<n/\n<=1000000)(w:aL):Calls (ae prog true) 5 #[.I c,.I n] w λe w'=>e=.returned (.I (l_ c n))/\w'=w:=by
 obtain⟨j,i⟩:=b;obtain⟨d,g⟩:=hn;have f:=uB c d;go_enter (bB (upd:=true) func5 AQ),ntmps5
 by_cases h:c<0
 .have a: -(c+1).tmod n=l_ c n:=by unfold l_;rw[vbv h,<-Int.neg_tmod,Int.tmod_eq_emod_of_nonneg AX]
  go_wp2
  go_ret
  simp_all
 .have a:c % n=l_ c n:=by simp_all[l_,vbp]
  go_wp2
  go_ret
  simp_all
def wE(c:Int)(a:eC c)(w:aL):Calls (ae prog true) 13 #[.I c] w λe w'=>e=.returned (.bool (jl c))/\w'=w:=by
 go_enter (bB (upd:=true) func13 AQ),ntmps13
 by_cases h:c<0
 .go_wp2_with (refine(Kz c 3 a AX _).mono ?_;rintro e w' ⟨rfl,rfl⟩)
  go_ret
  refine⟨?_,U⟩;unfold jl;simp[h];rfl
 .go_wp2
  go_ret
  refine⟨?_,U⟩;unfold jl;simp[show¬c<0 by omega]
def Oh(c:Int)(a:eC c)(w:aL):Calls (ae prog true) 12 #[.I c] w λe w'=>e=.returned (.I (gq c))/\w'=w:=by
 go_enter (bB (upd:=true) func12 AQ),ntmps12
 have b:=uB c (n:=2001) AX;cases hn:jl c with
 |true=>
  go_wp2_with (refine(wE c a _).mono ?_;rintro e w' ⟨rfl,rfl⟩)
  go_ret
  simp_all[gq]
 |false=>
  go_wp2_with (first|(refine(wE c a _).mono ?_;rintro e w' ⟨rfl,rfl⟩)|(refine(Kz c 2001 a AX _).mono ?_;rintro e w' ⟨rfl,rfl⟩))
  go_ret
  simp_all[gq]
def auz(c:Int)(a:eC c)(w:aL):Calls (ae prog true) 11 #[.I c] w λe w'=>e=.returned (.I (lO c))/\w'=w:=by
 go_enter (bB (upd:=true) func11 AQ),ntmps11
 have b:=uB c (n:=4) AX;cases hn:jl c with
 |true=>
  go_wp2_with (refine(wE c a _).mono ?_;rintro e w' ⟨rfl,rfl⟩)
  go_ret
  simp_all[lO]
 |false=>
  go_wp2_with (first|(refine(wE c a _).mono ?_;rintro e w' ⟨rfl,rfl⟩)|(refine(Kz c 4 a AX _).mono ?_;rintro e w' ⟨rfl,rfl⟩))
  go_ret
  simp_all[lO]
def auA(c:Int)(a:eC c)(w:aL):Calls (ae prog true) 14 #[.I c] w λe w'=>e=.returned (.string (nz c))/\cC w w':=by
 go_enter (bB (upd:=true) func14 AQ),ntmps14
 cases hn:jl c with
 |true=>
  go_wp2_with (refine(wE c a _).mono ?_;rintro e w' ⟨rfl,rfl⟩)
  go_ret
  exact⟨by simp[nz,hn];rfl,vaa _ _⟩
 |false=>
  obtain⟨k,hk,f⟩:∃k:Nat,k<13/\l_ c 13=(k:Int):=⟨(l_ c 13).toNat,by simp_all[uB],by have:=uB c (n:=13) AX;omega⟩;have d:nz c=(lets[k]?.getD "").toUTF8:=by grind[nz]
  go_wp2_with (first|(refine(wE c a _).mono ?_;rintro e w' ⟨rfl,rfl⟩)|(refine(Kz c 13 a AX _).mono ?_;rintro e w' ⟨rfl,rfl⟩))
  go_ret
  refine⟨?_,(vaa _ _).alloc Jb _⟩;rw[d];have b:k=0\/k=1\/k=2\/k=3\/k=4\/k=5\/k=6\/k=7\/k=8\/k=9\/k=10\/k=11\/k=12:=AX;rcases b with rfl|rfl|rfl|rfl|rfl|rfl|rfl|rfl|rfl|rfl|rfl|rfl|rfl<;>rfl
def auB(k:Int)(w:aL):Calls (ae prog true) 7 #[.I k] w λe w'=>e=.returned (.agg #[.I 1,.I k,.I 0,.N,.N,.N,.N])/\cC w w':=by
 go_enter (bB (upd:=true) func7 AQ),ntmps7
 go_wp2
 refine vbw (v:=.agg #[.I 1,.I k,.I 0,.N,.N,.N,.N]) (by simp[results,results7,go_sem]) U ?_;exact⟨U,(vaa _ _).alloc Jb _⟩
def auC(v:Value)(t:List aI)(ht:0<t.length)(w:aL)(hv:oy w v t):Calls (ae prog true) 6 #[.agg #[v]] w λe w'=>e=.returned (.I (t[0].dt.length:Int))/\cC w w':=by
 obtain⟨o,cap,rfl,l,d⟩:=hv;obtain⟨b,off,rfl,be,vs,p,c,d1,h,g,f,a⟩:=d 0 ht;obtain⟨k,ci,j,i,an,n,rfl,rfl,rfl⟩:=a.shape;have m:b<w.heap.size:=fp c;clear d a c d1 h g;simp at f;go_enter (bB (upd:=true) func6 AQ),ntmps6
 go_wp2
 go_ret
 exact⟨U,(vaa _ _).alloc Jb _⟩
