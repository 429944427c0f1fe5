import Derived.Test.YtmlddfohidhniaaGreatP01
import Derived.Test.YtmlddfohidhniaaGreatProg
import Derived.Deep.Light
import Derived.RangeFuncBound
import Derived.Shelf.RegionOpen
import Derived.LoopNIn
import Derived.LoopIn
import Derived.Maps.OwnIn
import Derived.Lib.BufferWrite
import Derived.Conc.Beside
import Derived.Test.YtmlddfohidhniaaGreatPAC
set_option linter.all false
set_option maxRecDepth 100000
set_option maxHeartbeats 16000000
namespace Go.Proofs.YtmlddfohidhniaaGreat
open Go.Proofs.Tryz
namespace ax
section
section
variable(P:b4)(u:Bool)
@[simp] theorem aiW:(ae P u).toTables=P.toTables:=rfl
@[simp] theorem qZ (t:g4):(ae P u).underlying t=P.underlying t:=rfl
@[simp] theorem aBw:(ae P u).depth=P.depth:=rfl
@[simp] theorem aBx (t:g4):(ae P u).stoodInHeld t=P.stoodInHeld t:=(Lp (C:=ej P u) Y t).symm
@[simp] theorem aBy (n:Nat) (t:g4):(ae P u).eqGuardType n t=P.eqGuardType n t:=(WM (C:=ej P u) Y n t).symm
@[simp] theorem aBz (t:g4):(ae P u).cellsOf t=P.cellsOf t:=rfl
@[simp] theorem aBA (t:g4):(ae P u).bytesOf t=P.bytesOf t:=rfl
@[simp] theorem Xs (t:g4) (w:aS):Sem.run (ae P u) (typeInfo t) w=Sem.run P (typeInfo t) w:=by unfold typeInfo;simp only[mH,Go.program,Sem.run,aiW];cases P.info? t<;>rfl
@[simp] theorem aiX (t:g4) (w:aS):Sem.run (ae P u) (underlying t) w=Sem.run P (underlying t) w:=by unfold underlying;simp only[mH,Go.program,Sem.run,qZ];cases P.underlying t<;>rfl
@[simp] theorem aBB (t:g4) (w:aS):Sem.run (ae P u) (Go.sizeOf t) w=Sem.run P (Go.sizeOf t) w:=by unfold Go.sizeOf;simp only[mH,Xs];cases Sem.run P (typeInfo t) w<;>rfl
@[simp] theorem aBC (t:g4) (w:aS):Sem.run (ae P u) (zeroValue t) w=Sem.run P (zeroValue t) w:=by unfold zeroValue;simp only[mH,Xs];cases Sem.run P (typeInfo t) w with|ok i w1=>simp only[];cases i.zero<;>rfl|halt h w1=>rfl
@[simp] theorem aBD (t:g4) (w:aS):Sem.run (ae P u) (isAgg t) w=Sem.run P (isAgg t) w:=by unfold isAgg;simp only[mH,aiX];cases Sem.run P (underlying t) w with|ok i w1=>cases i<;>rfl|halt h w1=>rfl
end
def c0{P:b4}{u:Bool}{f:uaj}{fn:Func}(h:(ae P u).funcs[f]?=some fn)(hk:iK P u fn=true)(args:dp)(w:aS):Sem.run (ae P u) (callFunc f args) w=.ok (.enter f args) w:=by
 unfold callFunc;simp only[iK,vaf,bne_iff_ne]at hk;have hn:(fn.name== "runtime.NumGoroutine")=false:=AA;have a:fn.body.isNone=false:=by cases a:fn.body with|none=>grind|some c=>rfl
 simp only[mH,Go.program,Sem.run,h,hn,a];rfl
end
end ax
namespace cq
open RowKit ax
abbrev _root_.Go.Proofs.YtmlddfohidhniaaGreat.cQ(u:Bool)(n:uaj):Prop:=∀(a:dp)(w:aS),Sem.run (ae prog u) (callFunc n a) w=.ok (.enter n a) w
@[simp] theorem aBF:cQ true 99:=c0 (bw (upd:=true) func99 AJ) AJ
@[simp] theorem aBG:cQ true 65:=c0 (bw (upd:=true) func65 AJ) AJ
@[simp] theorem aBH:cQ true 104:=c0 (bw (upd:=true) func104 AJ) AJ
@[simp] theorem aBI:cQ true 139:=c0 (bw (upd:=true) func139 AJ) AJ
@[simp] theorem aBJ:cQ true 103:=c0 (bw (upd:=true) func103 AJ) AJ
@[simp] theorem aBK:cQ true 100:=c0 (bw (upd:=true) func100 AJ) AJ
@[simp] theorem aBL:cQ true 142:=c0 (bw (upd:=true) func142 AJ) AJ
@[simp] theorem aBM:cQ true 67:=c0 (bw (upd:=true) func67 AJ) AJ
@[simp] theorem aBN:cQ true 122:=c0 (bw (upd:=true) func122 AJ) AJ
@[simp] theorem aBO:cQ true 123:=c0 (bw (upd:=true) func123 AJ) AJ
@[simp] theorem aBP:cQ true 124:=c0 (bw (upd:=true) func124 AJ) AJ
@[simp] theorem aBQ:cQ true 101:=c0 (bw (upd:=true) func101 AJ) AJ
@[simp] theorem aBR:cQ true 66:=c0 (bw (upd:=true) func66 AJ) AJ
@[simp] theorem aBS:cQ true 62:=c0 (bw (upd:=true) func62 AJ) AJ
@[simp] theorem aBT:cQ true 61:=c0 (bw (upd:=true) func61 AJ) AJ
@[simp] theorem aBU:cQ true 63:=c0 (bw (upd:=true) func63 AJ) AJ
@[simp] theorem aBV:cQ true 41:=c0 (bw (upd:=true) func41 AJ) AJ
@[simp] theorem aBW:cQ true 33:=c0 (bw (upd:=true) func33 AJ) AJ
@[simp] theorem aBX:cQ true 24:=c0 (bw (upd:=true) func24 AJ) AJ
@[simp] theorem aBY:cQ true 44:=c0 (bw (upd:=true) func44 AJ) AJ
@[simp] theorem aBZ:cQ true 64:=c0 (bw (upd:=true) func64 AJ) AJ
@[simp] theorem aB0:cQ true 43:=c0 (bw (upd:=true) func43 AJ) AJ
@[simp] theorem aB1:cQ true 42:=c0 (bw (upd:=true) func42 AJ) AJ
@[simp] theorem aB2:cQ true 34:=c0 (bw (upd:=true) func34 AJ) AJ
@[simp] theorem aB3:cQ true 36:=c0 (bw (upd:=true) func36 AJ) AJ
@[simp] theorem aB4:cQ true 46:=c0 (bw (upd:=true) func46 AJ) AJ
@[simp] theorem aB5:cQ true 35:=c0 (bw (upd:=true) func35 AJ) AJ
@[simp] theorem aB6:cQ true 25:=c0 (bw (upd:=true) func25 AJ) AJ
@[simp] theorem aB7:cQ true 26:=c0 (bw (upd:=true) func26 AJ) AJ
@[simp] theorem Xz:cQ true 19:=c0 (bw (upd:=true) func19 AJ) AJ
@[simp] theorem XA:cQ true 18:=c0 (bw (upd:=true) func18 AJ) AJ
theorem ai5:py (ae prog true) 78 114 (.agg #[.I 0,.I 0]) 2 16:=⟨BK,Ah,AX,AX⟩
def ai6:py (ae prog true) 63 78 (.N) 1 24:=⟨BK,Ah,AX,AX⟩
def H5:py (ae prog true) 51 4 (.F) 1 1:=⟨BK,Ah,AX,AX⟩
def ai7:py (ae prog true) 31 3 (.I 0) 1 8:=⟨BK,Ah,AX,AX⟩
def QV:py (ae prog true) 49 2 (.I 0) 1 8:=⟨BK,Ah,AX,AX⟩
def QW:py (ae prog true) 50 9 (.string ByteArray.empty) 1 16:=⟨BK,Ah,AX,AX⟩
def XB:py (ae prog true) 25 53 (.agg #[.I 0,.I 0,.N,.N,.N]) 5 88:=⟨BK,Ah,AX,AX⟩
def LL(s:Int):Bool:=decide (0<=s)&&decide (s<=6)
def XC(t:ubl):Bool:=t.1==1||t.1==2
def ai8(a:Int)(w:aS):
 Calls (ae prog true) 99 #[.I a] w λe w'=>e=.returned (.bool (LL a))/\w'=w:=by
 unfold LL;go_enter (bw (upd:=true) func99 AJ),ntmps99
 go_wp2
 all_goals(go_ret;refine⟨?_,Y⟩;simp[*]<;>omega)
def ai9(a b c:Int)(w:aS):
 Calls (ae prog true) 65 #[.I a,.I b,.I c] w λe w'=>e=.returned (.bool (decide (b<=a)&&decide (a<=c)))/\w'=w:=by
 go_enter (bw (upd:=true) func65 AJ),ntmps65
 go_wp2
 all_goals(go_ret;refine⟨?_,Y⟩;simp[*]<;>omega)
def aB8(t:ubl)(w:aS):
 Calls (ae prog true) 104 #[Br t] w λe w'=>e=.returned (.bool (XC t))/\cJ w w':=by
 obtain⟨k,s⟩:=t;unfold XC;go_enter (bw (upd:=true) func104 AJ),ntmps104
 go_wp2
 all_goals(go_ret;refine⟨?_,(vaa _ _).alloc AA _⟩;simp[*])
def H6(t:ubl):Bool:=if t.1=1\/t.1=3 then t.2==0 else if t.1=2 then LL t.2 else false
def ai_(t:ubl)(w:aS):
 Calls (ae prog true) 62 #[Br t] w λe w'=>e=.returned (.bool (H6 t))/\cJ w w':=by
 obtain⟨k,s⟩:=t;go_enter (bw (upd:=true) func62 AJ),ntmps62
 go_wp2_with (go_at_call 99;refine(ai8 _ _).mono ?_;rintro e w' ⟨rfl,rfl⟩)
 all_goals(go_ret;refine⟨?_,(vaa _ _).alloc AA _⟩;go_light;simp_all[H6])
def XD(k s:Int)(bj vs a:Value)(w:aS):
 Calls (ae prog true) 61 #[.agg #[.I k,.I s,bj,vs,a]] w λe w'=>e=.returned (Br (k,s))/\cJ w w':=by
 go_enter (bw (upd:=true) func61 AJ),ntmps61
 go_wp2
 exact vbu (v:=Br (k,s)) (by simp[results,results61,go_sem]) Y ⟨Y,((vaa _ _).alloc AA _).alloc Ad _⟩
def operands(op:Int):Int×Bool:=
 if op=1\/op=2\/op=3\/op=4 then(0,true)else if op=8\/op=14\/op=15 then(1,true)
 else if op=5\/op=6\/op=7\/op=9\/op=10\/op=11\/op=12\/op=13 then(2,true)else(0,false)
def r8(iM:uac)(p:Int):(Int×Int)×Bool:=
 if 0<=p/\p<iM.length then(iM.getD p.toNat (0,0),true)else((0,0),false)
def XE(iM:uac)(v:Value)(p:Int)(w:aS)(hv:gl w v iM):
 Calls (ae prog true) 67 #[v,.I p] w λe w'=>e=.returned (.tuple #[Br (r8 iM p).1,.bool (r8 iM p).2])/\cJ w w':=by
 obtain⟨n,cap,rfl,l,j⟩:=hv;by_cases h:0<=p/\p<iM.length
 .have a:Hid (r8 iM p=(iM.getD p.toNat (0,0),true)):=by unfold Hid r8;rw[vby h]
  obtain⟨d,i⟩:=h;obtain⟨q,rfl⟩:=Int.eq_ofNat_of_zero_le d;have c:q<iM.length:=AP;obtain⟨b,off,rfl,f,k⟩:=j q c;simp at f;have m:=ff f;go_enter (bw (upd:=true) func67 AJ),ntmps67
  go_wp2
  exact vbu (v:=.tuple #[Br (iM[q]),.T]) (by simp[results,results67,go_sem]) Y ⟨by rw[a.out];simp[c],(vaa _ _).alloc AA _⟩
 .have a:Hid (r8 iM p=((0,0),false)):=by unfold Hid r8;rw[vbq h]
  by_cases d:p<0;rotate_left
  focus
   have g:0<=p:=AP;have i:(iM.length:Int)<=p:=AP;obtain⟨q,rfl⟩:=Int.eq_ofNat_of_zero_le g;have c:iM.length<=q:=AP;clear h d
  rotate_left
  all_goals
   go_enter (bw (upd:=true) func67 AJ),ntmps67
   go_wp2
   exact vbu (v:=.tuple #[Br (0,0),.F]) (by simp[results,results67,go_sem]) Y ⟨by rw[a.out],(vaa _ _).alloc AA _⟩
def Bt(ok:ubd)(n:Nat):Option Nat:=(List.range n).find? (λi=> !ok i)
variable{n:Nat}
def XI{ok:ubd}(h:∀j,j<n->ok j=true):Bt ok n=none:=by grind[Bt]
variable{k:Nat}
def XJ{ok:ubd}(hk:k<n)(h:∀j,j<k->ok j=true)(a:ok k=false):Bt ok n=some k:=by unfold Bt;simp_all
def told(o:ubg):Int×Bool:=match o with|some k=>((k:Int),true)|none=>(0,false)
def r9(l:List ByteArray):Bool:=l.all λs=>decide (s.size<=16)
variable{l:List ByteArray}
def aja(hk:k<l.length)(h:r9 (l.take k)=true)(hs:l[k].size<=16):r9 (l.take (k+1))=true:=by grind[r9,List.take_succ_eq_append_getElem]
def ajb(hk:k<l.length)(hs:¬l[k].size<=16):r9 l=false:=by grind[r9]
def ajc(l:List ByteArray)(v:Value)(w:aS)(hv:QM w v l):
 Calls (ae prog true) 63 #[v] w λe w'=>e=.returned (.bool (r9 l))/\w'=w:=by
 obtain⟨h,cap,rfl,g,f⟩:=hv;go_enter (bw (upd:=true) func63 AJ),ntmps63
 go_wp2
 go_loop [4,7] (λ_ i=>∃k:Nat,k<=l.length/\i=.I k/\r9 (l.take k)=true) (λ_ i=>l.length-(intOf i).toNat)
 case atStart=>exact⟨0,vav _,Y,Y⟩
 case round=>
  obtain⟨k,hk,rfl,ht⟩:=hrel;have c:Hid _:=ht;clear ht;by_cases a:k<l.length
  .obtain⟨b,off,rfl,hc,hs⟩:=f k a;simp at hc;by_cases d:l[k].size<=16
   .go_wp2
    go_round
    case rel=>exact⟨k+1,AP,by go_num,aja a c.out d⟩
    case measure=>simp[intOf];omega
   .go_wp2
    go_ret
    exact⟨by rw[ajb a d];rfl,Y⟩
  .go_wp2
   go_ret
   refine⟨?_,Y⟩;have e:r9 l=true:=by have:=c.out;grind
   rw[e];rfl
def H7(k s:Int)(H8 ns cu:Nat)(fit:Bool)(rows:Int):Bool:=
 H6 (k,s)&&((cu:Int)==rows&&((H8:Int)==(if k=3 then 0 else rows)&&(ns:Int)==(if k=3 then rows else 0)))&&fit
def ul(c:aG)(rows:Int):Bool:=H7 c.kind c.bV c.fU.length c.eF.length c.dk.length (r9 c.eF) rows
abbrev ajd(c:aG)(bj vs aY:Value):Value:=.agg #[.I c.kind,.I c.bV,bj,vs,aY]
def aje(k s:Int)(l a an:uan)(g ns d ci b m:Nat)(eF:List ByteArray)(rows:Int)(w:aS)(q:ns<=9223372036854775807)(o:QM w (.slice a ns b) eF):
 Calls (ae prog true) 41 #[.agg #[.I k,.I s,.slice l g ci,.slice a ns b,.slice an d m],.I rows] w λe w'=>e=.returned (.bool (H7 k s g ns d (r9 eF) rows))/\cJ w w':=by
 go_enter (bw (upd:=true) func41 AJ),ntmps41
 go_wp2_with fail
 refine(XD k s _ _ _ _).mono ?_;rintro e w1 ⟨rfl,f⟩;have c8:=(ai.new w #[.I k,.I s,.slice l g ci,.slice a ns b,.slice an d m] 53).call f;have i:cJ w w1:=Below.step f ((vaa _ _).alloc Ad _) Ad;clear f;go_wp2_with fail
 refine(ai_ (k,s) _).mono ?_;rintro e p ⟨rfl,c⟩;have n:=c8.call c;obtain⟨t,r,v⟩:=n.all;have h:cJ w p:=Below.step c i (by have:=i.size;omega);have j:=o.mono QL (bo.bX h);clear c c8 n o;by_cases hst:H6 (k,s)=true
 .go_wp2_with (go_at_call 63;refine(ajc eF _ _ j).mono ?_;rintro e u ⟨rfl,rfl⟩)
  all_goals(go_ret;refine⟨?_,h⟩;go_light;clear t r j;simp_all[H7])
 .go_wp2
  go_ret
  simp_all[H7]
def ajf(c:aG)(bj vs b:Value)(rows:Int)(w:aS)(hc:tf w bj vs b c):
 Calls (ae prog true) 41 #[ajd c bj vs b,.I rows] w λe w'=>e=.returned (.bool (ul c rows))/\cJ w w':=by
 obtain⟨f,a,d⟩:=hc;have h:=a;obtain⟨l,ci,rfl,n,-⟩:=f;obtain⟨j,k,rfl,g,-⟩:=a;obtain⟨an,m,rfl,i,-⟩:=d;exact aje _ _ _ _ _ _ _ _ _ _ _ c.eF rows w g h
def E2(t:List aG):Nat:=match t with| []=>0|c::_=>c.dk.length
def mO(t:List aG):Bool:=decide (1<=t.length)&&decide (t.length<=8)&&decide (E2 t<=40)&&t.all (λc=>ul c (E2 t))
variable{t:List aG}
def ajg{n:Int}(hk:k<t.length)(h:((t.take k).all (λc=>ul c n))=true)(hs:ul t[k] n=true):((t.take (k+1)).all (λc=>ul c n))=true:=by grind[List.take_succ_eq_append_getElem]
def ajh{n:Int}(hk:k<t.length)(hs:ul t[k] n=false):(t.all (λc=>ul c n))=false:=by grind
def aji(h:0<t.length):E2 t=t[0].dk.length:=by cases t with|nil=>grind|cons c r=>rfl
def ajj(t:List aG)(v:Value)(w:aS)(hv:nX w v t):
 Calls (ae prog true) 33 #[.agg #[v]] w λe w'=>e=.returned (.bool (mO t))/\cJ w w':=by
 obtain⟨bK,cap,rfl,T,E⟩:=hv;by_cases U:t.length<1
 .have e:Hid (mO t=false):=by grind[Hid,mO]
  go_enter (bw (upd:=true) func33 AJ),ntmps33
  go_wp2
  go_ret
  exact⟨by rw[e.out];rfl,(vaa _ _).alloc AA _⟩
 by_cases S:8<t.length
 .have e:Hid (mO t=false):=by grind[Hid,mO]
  go_enter (bw (upd:=true) func33 AJ),ntmps33
  go_wp2
  go_ret
  exact⟨by rw[e.out];rfl,(vaa _ _).alloc AA _⟩
 have h0:0<t.length:=AP;obtain⟨b,off,rfl,bj,vs,aY,di,c1,bH,dB,g,hc⟩:=E 0 h0;simp at di c1 bH dB g;have a7:=aji h0;obtain⟨an,X,rfl,H,-⟩:=hc.dk;rw[<-a7]at g H;clear hc di c1 bH dB;generalize o:E2 t=N at *;have p:Hid (E2 t=N):=o;clear o a7;have XN:=ff g;by_cases M:40<N
 .have e:Hid (mO t=false):=by grind[Hid,mO]
  go_enter (bw (upd:=true) func33 AJ),ntmps33
  go_wp2
  go_ret
  exact⟨by rw[e.out];rfl,(vaa _ _).alloc AA _⟩
 go_enter (bw (upd:=true) func33 AJ),ntmps33
 go_wp2
 go_loopw [27] (λi W=>∃k:Nat,k<=t.length/\i=.I k/\((t.take k).all (λc=>ul c N))=true/\cJ w W) (λi _=>t.length-(intOf i).toNat)
 case atStart=>exact⟨0,vav _,rfl,rfl,(vaa _ _).alloc AA _⟩
 case round=>
  obtain⟨k,hk,rfl,u,x⟩:=hrel;have z:Hid _:=u;have f:Hid _:=x;clear u x;by_cases a:k<t.length
  .obtain⟨b',O,q,n,m,l,j,d1,C,B,A,h⟩:=E k a;simp at q;obtain⟨rfl,rfl⟩:=q;simp at j;have d:=bo.bX f.out;have J:=d _ _ _ j;have e1:=d _ _ _ d1;have e2:=d _ _ _ C;have Z:=d _ _ _ B;have Y:=d _ _ _ A;have V:=ff J;have F:=(h.mono d).mono ((bo.refl _).alloc (.cells #[.I t[k].kind,.I t[k].bV,n,m,l] 53));clear d j d1 C B A g;obtain⟨R,ci,P,Q,L,K,rfl,rfl,rfl⟩:=h.shape;clear h;go_wp2_with fail
   refine(ajf t[k] _ _ _ N _ F).mono ?_;rintro e w1 ⟨rfl,D⟩;have r:cJ w w1:=Below.step D (f.out.alloc (by have:=f.out.size;omega) _) (by have:=f.out.size;simp;omega);have y:Hid _:=r;clear r D F;by_cases s:ul t[k] N=true
   .go_wp2
    go_roundw
    case rel=>exact⟨k+1,AP,by go_num,ajg a z.out s,y.out⟩
    case measure=>simp[intOf];omega
   .have I:ul t[k] N=false:=by grind
    clear s;go_wp2
    go_ret
    refine⟨?_,y.out⟩;have e:mO t=false:=by unfold mO;rw[p.out,ajh a I];simp
    rw[e];rfl
  .go_wp2
   go_ret
   refine⟨?_,f.out⟩;have e:mO t=true:=by have:=z.out;rw[vbv AP]at this;unfold mO;rw[p.out,this];grind
   rw[e];rfl
def xF(ts:List (List aG))(i:Nat):Bool:=decide (i<4)&&mO (ts.getD i [])
def XO{w:aS}{a:uan}{ts:List (List aG)}(c:∀i(h:i<ts.length),∃b off,a=some ⟨b,off,none⟩/\QN w (λj=>w.cell? (.a b (off+i*1+j))) ts[i])(hn:n<ts.length):
 ∃b off v,a=some ⟨b,off,none⟩/\w.cell? (.a b (off+n))=some v/\nX w v ts[n]:=by
 obtain⟨b,off,d,v,h0,hv⟩:=c n hn;grind
def ajn(ts:List (List aG))(v:Value)(w:aS)(hv:Bp w v ts):
 Calls (ae prog true) 24 #[v] w λe w'=>e=.returned (.tuple #[.I (told (Bt (xF ts) ts.length)).1,.bool (told (Bt (xF ts) ts.length)).2])/\cJ w w':=by
 obtain⟨D,cap,rfl,A,x⟩:=hv;go_enter (bw (upd:=true) func24 AJ),ntmps24
 go_wp2
 go_loopw [8] (λi W=>∃k:Nat,k<=ts.length/\i=.I k/\(∀j,j<k->xF ts j=true)/\cJ w W) (λi _=>ts.length-(intOf i).toNat)
 case atStart=>exact⟨0,vav _,Y,AA,vaa _ _⟩
 case round=>
  obtain⟨k,hk,rfl,n,o⟩:=hrel;have d:Hid _:=n;have c:Hid _:=o;clear n o;by_cases a:k<ts.length
  .obtain⟨b,off,t,rfl,q,s⟩:=XO x a;have f:=bo.bX c.out;have u:=f _ _ _ q;have C:=ff u;have g:=s.mono tg (f.alloc (.cells #[t] 27));obtain⟨y,ct,rfl,-,-⟩:=s;clear f q;by_cases B:k<4
   .go_wp2_with fail
    refine(ajj ts[k] _ _ g).mono ?_;rintro e w1 ⟨rfl,r⟩;have p:Hid (cJ w w1):=Below.step r (c.out.alloc FD _) (by have:=c.out.size;simp;omega);clear r g;have hok:Hid (xF ts k=mO ts[k]):=by grind[Hid,xF]
    by_cases l:mO ts[k]=true
    .go_wp2
     go_roundw
     case rel=>
      refine⟨k+1,AP,by go_num,λj m=>?_,p.out⟩;rcases Nat.lt_succ_iff_lt_or_eq.1 m with h|rfl
      .exact d.out j h
      .rw[hok.out];exact l
     case measure=>simp[intOf];omega
    .have z:mO ts[k]=false:=by grind
     clear l;go_wp2
     go_ret2
     refine⟨?_,p.out⟩;rw[XJ a d.out (by rw[hok.out];grind)];rfl
   .have hok:Hid (xF ts k=false):=by grind[Hid,xF]
    clear g;go_wp2
    go_ret2
    refine⟨?_,c.out.alloc FD _⟩;rw[XJ a d.out hok.out];rfl
  .go_wp2
   go_ret2
   refine⟨?_,c.out⟩;rw[XI (λj m=>d.out j AP)];rfl
def ek(t:List aG):List (Int×Int):=t.map λc=>(c.kind,c.bV)
def ajo(t:List aG)(v:Value)(w:aS)(hv:nX w v t)(N:t.length<=1000000):
 Calls (ae prog true) 44 #[.agg #[v]] w λe w'=>∃m,e=.returned m/\gl w' m (ek t)/\fv 114 w' m/\cJ w w':=by
 obtain⟨U,cap,rfl,hl,I⟩:=hv;have hlen:(ek t).length=t.length:=by simp[ek]
 go_enter (bw (upd:=true) func44 AJ),ntmps44
 go_wp2_with (at_make;refine QX ai5 _ rfl _ _ rfl _ _ t.length rfl rfl AP AP ?_;intro w1 bd T a r;have C:=(ai.new w #[.slice U t.length cap] 27).call r;obtain⟨LN,Y,X⟩:=C.all)
 have A:cJ w w1:=Below.step r ((vaa _ _).alloc Ad _) Ad;have J:ai w1 (w.heap.size+1) bd 114:=BK;have V:Hid (ai w1 (w.heap.size+1) bd 114):=J;have O:Hid (cJ w w1):=A;clear T J r A C;go_loopw [13] (λi W=>∃(k:Nat)(cs:dp),k<=t.length/\i=.I k/\ai W (w.heap.size+1) cs 114/\cs.size=t.length*2/\EZ cs (ek t) k/\cJ w W)
  (λi _=>t.length-(intOf i).toNat)
 case atStart=>exact⟨0,bd,vav _,rfl,V.out,a,λj _ hj=>AA,O.out⟩
 case round=>
  obtain⟨k,cs,hk,rfl,y,u,x,B⟩:=hrel;have n:Hid (ai wr (w.heap.size+1) cs 114):=y;have s:Hid (EZ cs (ek t) k):=x;have f:Hid (cJ w wr):=B;have h:Hid _:=u;have QZ:Hid _:=a;clear y x B u a;by_cases o:k<t.length
  .obtain⟨b,off,rfl,bj,vs,aY,p,d1,H,F,E,z⟩:=I k o;simp at p;have c:=bo.bX f.out;have D:=c _ _ _ p;have S:=c _ _ _ d1;have R:=c _ _ _ H;have Q:=c _ _ _ F;have P:=c _ _ _ E;have fo:=ff D;clear c p d1 H F E;obtain⟨iL,ci,Z,km,an,eT,rfl,rfl,rfl⟩:=z.shape;clear z I;have l3:(0:Int)<=(k:Int):=AP;have j7:(k:Int)<(t.length:Int):=AP;go_wp2_with fail
   refine(XD _ _ _ _ _ _).mono ?_;rintro e g ⟨rfl,q⟩;have d:=(n.out.alloc _).call q;have K:Hid (ai g (w.heap.size+1) cs 114):=d;have M:Hid (cJ w g):=Below.step q (f.out.alloc (by have:=f.out.size;omega) _) (by have:=f.out.size;simp;omega);have Q0:g.cell? (.a (w.heap.size+1) (k*2))=some (cs[k*2]'(by have:=h.out;omega)):=by rw[d.rules.1];simp
   have Q1:g.cell? (.a (w.heap.size+1) (k*2+1))=some (cs[k*2+1]'(by have:=h.out;omega)):=by rw[d.rules.1];simp
   have LO:=d.rules.2;clear d q D S R Q P;go_wp2_with fail
   go_roundw
   case rel=>
    refine⟨k+1,(cs.setIfInBounds (k*2) (.I t[k].kind)).setIfInBounds (k*2+1) (.I t[k].bV),AP,by go_num,(K.out.set _ _).set _ _,by simp;exact h.out,?_,(M.out.setCell Ad _).setCell Ad _⟩;have:=s.out.step AA (by rw[hlen];exact h.out);grind[ek]
   case measure=>simp[intOf];omega
  .have L:k=t.length:=by omega
   go_wp2_with fail
   go_ret
   refine⟨_,rfl,?_,fv.box n.out _ _ _,f.out⟩;have:=gl.eN (l:=ek t) n.out AA (by rw[hlen,<-L];exact s.out) t.length;simp_all
end cq
namespace bS
open RowKit Shelf ax
variable{N gf nZ:Nat}{W W':aS}{v:Value}
section
attribute [local go_sem] Oper.semAt_some
def ajv:(ae prog false).funcs[(112:Nat)]?=some f112:=bw (upd:=false) func112 AJ
def Typed(nZ:Nat)(e t:g4)(W W':aS):Prop:=∀(b:Nat)(c:dp)(u:g4)(z:ubs),W.heap[b]?=some (Obj.cells c u z)->(b<nZ\/u≠e/\u≠t)->W'.heap[b]?=some (Obj.cells c u z)
def Typed.keep{e t:g4}(h:jp W W'):Typed nZ e t W W':=λb c u z x _=>h.cells b c u z x
def ajw{w1:aS}{B:Nat}{t e:g4}{size:Nat}(a:Value){k:Nat}{xs:uad}{tmp:Obj}(hv:Boxed W B t v)(i:W.ownsRow nZ e size v k xs)(l:(W.alloc tmp).grownBy w1 v.ownBlock)(n:nZ<=B):
 Typed nZ e t W (w1.setCell ⟨B,0,none⟩ a):=by
 intro b c u z x j;have m:b≠B:=by rintro rfl;rw[show W.heap[b]?=_ from hv]at x;grind
 have d:=jE x;have f:some b≠v.ownBlock:=by
  rcases i.2 with⟨rfl,_⟩|⟨g,cap,bd,rfl,p,hg,_⟩
  .simp[Value.ownBlock]
  .intro h;simp[Value.ownBlock]at h;grind
 have o:=l.block b Aq f;simp_all[vci,World.setCell,vbb,Ne.symm]
structure If(nZ:Nat)(Row:uau):Prop where
 shape:∀t W x,Row t W x->∃p pl pc q i7 kL,x=.agg #[.slice p pl pc,.slice q i7 kL]
 keep:∀t W W' x,Row t W x->Typed nZ 76 66 W W'->Row t W' x
def two(xs:ubf):List Value:=xs.flatMap λp=>[p.1,p.2]
def XR(xs:ubf):(two xs).length=xs.length*2:=by induction xs with|nil=>rfl|cons a l b=>grind[two]
theorem XS(xs:ubf)(p:Value×Value):two (xs++[p])=two xs++[p.1,p.2]:=by simp[two]
structure zJ(Row:uau)(nZ t:Nat)(v:Value)(W:aS):Prop where
 own:∃xs:List (Value×Value),xs.length=t/\W.ownsRow nZ 76 2 v t (two xs)/\∀j(h:j<xs.length),Row j W (.agg #[xs[j].1,xs[j].2])
theorem LQ:(prog.info? 76).map (λi=>(i.zero,i.size,i.bytes))=some (some (.agg #[.N,.N]),2,48):=by kernel_rfl
def zJ.Q8{Row:uau}{t:Nat}(k:If nZ Row)(h:zJ Row nZ t v W)(hk:jp W W'):zJ Row nZ t v W':=by obtain⟨xs,d,a,c⟩:=h;refine⟨xs,d,⟨a.1,a.2.imp_right ?_⟩,λj b=>k.keep _ _ _ _ (c j b) (.keep hk)⟩;rintro⟨g,cap,bd,a1,f,e,i⟩;exact⟨g,cap,bd,a1,f,hk.cells _ _ _ _ e,i⟩
def E6{l:Nat}{d:Option (List Deferred)}{o:Obj}(h:W.heap[l]?=some (.deferred d)):jp W (W.putObj l o):=
 ⟨Ad,λb c e z x=>by
  grind[World.putObj_heap_other]⟩
def j8(p:Prop):Prop:=p
def sf{p:Prop}(h:j8 p):p:=h
def XT{Row:uau}{lb:dp}(w:aS)(d:If w.heap.size Row)(tb:∀args w,(callFunc gf args).run (ae prog false) w=.ok (.enter gf args) w)(ti:E4 True 301 2 (ae prog false) gf lb Row N w.heap.size w):
 Calls (ae prog false) 112 #[.func (.func gf) #[] lb] w λe w'=>∃v,e=.returned v/\zJ Row w.heap.size (min N 301) v w'/\cJ w w':=by
 refine(callsIn_wide (n:=3)).1 ?_;refine callsIn_of_wp_marks ajv rfl trivial ?_;simp[vce];gi_wp2
 have jF:Boxed (w.alloc (.cells #[.N] 66)) w.heap.size 66 (.N):=Boxed.new w _ _;refine XP (L:=301) (.inl ⟨0,rfl,rfl⟩) AP (n:=3) (gf:=gf) (lb:=lb) (w0:=w) (nZ:=w.heap.size) (N:=N) (Row:=Row) rfl tb ti ((vaa _ w).alloc JT _) Ad (λ_=>False) AA
  (λt D W=>∃v,Boxed W w.heap.size 66 v/\zJ Row w.heap.size t v W/\∀b,D b↔b=w.heap.size\/v.ownBlock=some b)
  (λt D W W' h hk _=>by
   obtain⟨v,y,s,r⟩:=h;exact⟨v,hk.cells _ _ _ _ y,s.Q8 d hk,r⟩)
  (λt D W⟨v,y,⟨_,_,s,_⟩,r⟩ b i=>by
   rcases(r b).1 i with rfl|i
   .exact jE y
   .exact(vdl s b i).2)
  (D0:=λb=>b=w.heap.size) ⟨_,jF,⟨[],rfl,vbp _ _ _ _,AA⟩,λb=>by simp[Value.ownBlock]⟩
  (λt x a' W=>∃f p pl pc q c a,W.heap[f]?=some (Obj.cells #[.slice p pl pc,.slice q c a] 76 (0,0))/\x=.agg #[.slice p pl pc,.slice q c a]/\Row t W x/\∃z,a'={tmps:=#[.func (.func gf) #[] lb,undef,.N,.P w.heap.size 0,.P f 0,.func (.func gf) #[] lb,z,.U,.U,.U,.U,.U,.U,.U,.U],defers:=[]})
  (λt x a' W W' h hk _=>by
   obtain⟨f,p,pl,pc,q,c,a,y,s,r,h4⟩:=h;exact⟨f,p,pl,pc,q,c,a,hk.cells _ _ _ _ y,s,d.keep _ _ _ _ r (.keep hk),h4⟩)
  ?assign ?body ?done
 case assign=>
  rintro l t x D W K- - -g hK;obtain⟨p,pl,pc,q,c,a,rfl⟩:=d.shape _ _ _ g;gi_wp2
  have X:cJ W (W.alloc (.cells #[.slice p pl pc,.slice q c a] 76)):=(vaa _ W).alloc JT _;exact hK _ _ X ⟨W.heap.size,p,pl,pc,q,c,a,vaz W _,rfl,d.keep _ _ _ _ g (.keep (.below X)),_,rfl⟩
 case body=>
  rintro l t x a' D W ⟨v,hv,⟨xs,hlen,g,tj⟩,B⟩ hlt Ib ⟨f,p,pl,pc,q,c,a,I,rfl,S,z,rfl⟩ nj;obtain⟨i0,hi,qc,q1,q2⟩:=vch LQ;have o:=hv.cell;have zt:W.cell? (.a f 0)=some (.slice p pl pc):=by simp[World.cell?,I]
  have gw:W.cell? (.a f 1)=some (.slice q c a):=by simp[World.cell?,I]
  gi_wp2_with (gi_at_builtin;apply sf)
  unfold j8;refine wpListIn_append_own_at _ rfl _ _ 66 rfl w.heap.size 76 i0 _ 2 48 ((qZ _ _ _).trans underlying66) hi qc q1 q2 rfl AX v t (two xs) rfl (g.alloc _) ⟨W.heap.size,0,none⟩ 1 1 [.slice p pl pc,.slice q c a] rfl rfl ?cel ?one EE AP Aq ?_
  case cel=>
   have ng:=vaz W (.cells #[.slice p pl pc,.slice q c a] 76);intro j u m;rcases j with _ | _ |j
   .simp at m;subst m;show World.cell? _ ⟨W.heap.size,0,none⟩=_;simp_all
   .simp at m;subst m;show World.cell? _ ⟨W.heap.size,1,none⟩=_;simp_all
   grind
  case one=>
   intro u T;simp at T;rcases T with rfl|rfl<;>rfl
  intro v' w1 E C _ LS;obtain⟨g',cap',rfl⟩:=ownsRow_succ E;obtain⟨F,R,By,Y,Z⟩:=hv.appended AX g nj JT E C;have O:=ajw (.S g' 0 (t+1) cap') hv g C JT;have kI:=F.cell;have iN:=F.frozen;have Q:∀D',(∀b,D' b↔b=w.heap.size\/(Value.slice (some {block:=g',off:=0}) (t+1) cap').ownBlock=some b)->Ia D D' W (w1.setCell {block:=w.heap.size,off:=0} (.slice (some {block:=g',off:=0}) (t+1) cap')):=λD' M=>by
   refine⟨λb i h=>(B b).2 ?_,λb i h=>?_⟩
   .rcases(M b).1 h with e|e
    .exact .inl e
    .rcases LS with k|k
     .exact .inr (k▸e)
     .rw[k]at e;simp at e;omega
   .have n1:b≠w.heap.size:=λe=>h ((B b).2 (.inl e));have ey:some b≠v.ownBlock:=λe=>h ((B b).2 (.inr e.symm));rw[vaq _ _ _ _ n1,C.block b Aq ey,vci _ _ _ i]
  have dK:Hid (∃D',(∃v,Boxed (w1.setCell {block:=w.heap.size,off:=0} (.slice (some {block:=g',off:=0}) (t+1) cap')) w.heap.size 66 v/\zJ Row w.heap.size (t+1) v (w1.setCell {block:=w.heap.size,off:=0} (.slice (some {block:=g',off:=0}) (t+1) cap'))/\∀b,D' b↔b=w.heap.size\/v.ownBlock=some b)/\(Ia D D' W (w1.setCell {block:=w.heap.size,off:=0} (.slice (some {block:=g',off:=0}) (t+1) cap')))):=by
   refine⟨_,⟨_,R,⟨xs++[(.slice p pl pc,.slice q c a)],AA,?_,λj m=>?_⟩,λb=>Iff.rfl⟩,Q _ λb=>Iff.rfl⟩
   .grind[XS]
   .by_cases LU:j<xs.length
    .rw[vdr LU];exact d.keep _ _ _ _ (tj j LU) O
    .have J:j=xs.length:=by grind
     subst J;simp;rw[hlen];exact d.keep _ _ _ _ S O
  have P:Hid _:=Y;have H:Hid _:=Z;clear O tj S R By Y Z Q LS B E C g hv o zt gw I F;by_cases A:t+1=301
  .have uw:(300:Int)<(t:Int)+1:=by omega
   gi_wp2
   .rw[A]at dK P H;exact⟨P.out,H.out,dK.out⟩
  .have uw:¬(300:Int)<(t:Int)+1:=by omega
   gi_wp2
   exact⟨P.out,H.out,dK.out⟩
 case done=>
  rintro D W ⟨v,hv,U,-⟩ V hK;have o:=hv.cell;by_cases A:301<=N
  .have e:(if 301<=N then Exit.exit 0 else Exit.normal)=Exit.exit 0:=vby A;rw[e];clear e;gi_wp2
   refine⟨Ad,.inl ⟨_,_,rfl,run_takeDeferred hK,?_⟩⟩;refine⟨_,results_tmp rfl _ _ _,v,rfl,U.Q8 d (E6 hK),?_⟩;exact(((vaa _ w).alloc JT _).trans V).trans (uq _ Ad)
  .have e:(if 301<=N then Exit.exit 0 else Exit.normal)=Exit.normal:=vbq A;rw[e];clear e;gi_wp2
   refine⟨Ad,.inl ⟨_,_,rfl,run_takeDeferred hK,?_⟩⟩;refine⟨_,results_tmp rfl _ _ _,v,rfl,U.Q8 d (E6 hK),?_⟩;exact(((vaa _ w).alloc JT _).trans V).trans (uq _ Ad)
def ajA{Row:uau}{lb:dp}(a7:N<=300)(w:aS)(c:If w.heap.size Row)(b:∀args w,(callFunc gf args).run (ae prog false) w=.ok (.enter gf args) w)(a:LP 2 (ae prog false) gf lb Row N w.heap.size w):
 Calls (ae prog false) 112 #[.func (.func gf) #[] lb] w λe w'=>∃v,e=.returned v/\zJ Row w.heap.size N v w'/\cJ w w':=by
 have:=XT w c b (a.ajq (L:=301) AP);rwa[vcp AP]at this
end
structure cR where
 dH:Bool
 num:Int
 bV:Int
 text:ByteArray
abbrev oI(d:cR):Value:=.agg #[.bool d.dH,.I d.num,.I d.bV,.string d.text]
def ko:ByteArray:=⟨#[]⟩
def sg:cR:=⟨true,0,0,ko⟩
def Q9(_:aS)(rd:ual)(d:cR):Prop:=
 rd 0=some (.bool d.dH)/\rd 1=some (.I d.num)/\rd 2=some (.I d.bV)/\rd 3=some (.string d.text)/\d.text.size<=9223372036854775807
abbrev i8(w:aS):=aX w 4 Q9
def hR(c:aG)(i:Nat):cR:=
 if c.dk.getD i false then sg else if c.kind=3 then⟨false,0,0,c.eF.getD i ko⟩else⟨false,c.fU.getD i 0,c.bV,ko⟩
def XU:(ae prog false).funcs[(187:Nat)]?=some f187:=bw (upd:=false) func187 AJ
@[simp] theorem aCi:cQ false 187:=c0 XU AJ
theorem LV:(ae prog false).funcs[(210:Nat)]?=some f210:=bw (upd:=false) func210 AJ
@[simp] theorem aCj:cQ false 210:=c0 LV AJ
theorem vY(w:aS):Calls (ae prog false) 187 #[] w λe w'=>e=.returned (oI sg)/\w'=w.alloc (.cells #[.T,.I 0,.I 0,.E] 93):=by
 go_enter XU,ntmps187
 go_wp2
 exact vbu (v:=oI sg) (by simp[results,results187,go_sem,sg,ko]) Y ⟨Y,Y⟩
def ajB(c:aG)(i:Nat){bj vs l:Value}(w:aS)(h:tf w bj vs l c)(hn:i<c.dk.length)(hs:c.kind=3->i<c.eF.length)(hi:c.kind≠3->i<c.fU.length):
 Calls (ae prog false) 210 #[.agg #[.I c.kind,.I c.bV,bj,vs,l],.I i] w λe w'=>e=.returned (oI (hR c i))/\cJ w w':=by
 obtain⟨s,ci,rfl,-,b⟩:=h.fU;obtain⟨q,r,rfl,-,es⟩:=h.eF;obtain⟨an,t,rfl,-,a2⟩:=h.dk;obtain⟨m,on,rfl,n⟩:=a2 i hn;have j:w.cell? (.a m (on+i))=some (.bool c.dk[i]):=by simp_all[zC]
 have p:=ff j;clear n a2;cases k:c.dk[i]with
 |true=>
  have a:hR c i=sg:=by grind[hR]
  rw[a];rw[k]at j;clear b es h a;go_enter LV,ntmps210
  go_wp2_with (go_at_call 187;refine(vY _).mono ?_;rintro e w' ⟨rfl,rfl⟩)
  exact vbu (v:=oI sg) (by simp[results,results210,go_sem,sg,ko]) Y ⟨Y,(((vaa _ w).alloc JT _).alloc Ad _).alloc Aq _⟩
 |false=>
  rw[k]at j;by_cases hk:c.kind=3
  .obtain⟨bs,os,rfl,d⟩:=es i (hs hk);have y:=hs hk;have a:hR c i=⟨false,0,0,c.eF[i]⟩:=by grind[hR]
   rw[a];have g:w.cell? (.a bs (os+i))=some (.string c.eF[i]):=by simp_all[Bo]
   have x:=ff g;clear b es h a d;go_enter LV,ntmps210
   go_wp2
   exact vbu (v:=oI ⟨false,0,0,c.eF[i]⟩) (by simp[results,results210,go_sem]) Y ⟨Y,((vaa _ w).alloc JT _).alloc Ad _⟩
  .obtain⟨bi,cn,rfl,o⟩:=b i (hi hk);have z:=hi hk;have a:hR c i=⟨false,c.fU[i],c.bV,ko⟩:=by grind[hR]
   rw[a];have f:w.cell? (.a bi (cn+i))=some (.I c.fU[i]):=by simp_all[qb]
   have u:=ff f;clear b es h a o;go_enter LV,ntmps210
   go_wp2
   go_region
   go_wp2
   exact vbu (v:=oI ⟨false,c.fU[i],c.bV,ko⟩) (by simp[results,results210,go_sem,ko]) Y ⟨Y,(((vaa _ w).alloc JT _).alloc Ad _).drew⟩
def ajF:py (ae prog false) 74 93 (.agg #[.F,.I 0,.I 0,.E]) 4 40:=⟨(qZ _ _ _).trans underlying74,Ah,AX,AX⟩
def XW:(ae prog false).funcs[(209:Nat)]?=some f209:=bw (upd:=false) func209 AJ
@[simp] theorem aCk:cQ false 209:=c0 XW AJ
def zK(cs:dp)(l:List cR)(k:Nat):Prop:=∀j(h:j<l.length),j<k->cs[j*4]?=some (.bool l[j].dH)/\cs[j*4+1]?=some (.I l[j].num)/\cs[j*4+2]?=some (.I l[j].bV)/\cs[j*4+3]?=some (.string l[j].text)
abbrev Ih(cs:dp)(k:Nat)(d:cR):Array Value:=(((cs.setIfInBounds (k*4) (.bool d.dH)).setIfInBounds (k*4+1) (.I d.num)).setIfInBounds (k*4+2) (.I d.bV)).setIfInBounds (k*4+3) (.string d.text)
theorem zK.step{cs:dp}{l:List cR}{k:Nat}(h:zK cs l k)(hk:k<l.length)(hs:cs.size=l.length*4):zK (Ih cs k l[k]) l (k+1):=by
 intro j a b;by_cases e:j=k
 .subst e;grind
 .have:=h j a AP;simp only[Ih,vak];grind
def i8.eN{w:aS}{b:Nat}{cs:dp}{T:g4}{l:List cR}(h:ai w b cs T)(c:l.length<=9223372036854775807)(ht:∀d∈l,d.text.size<=9223372036854775807)(a:zK cs l l.length)(cap:Nat):i8 w (.S b 0 l.length cap) l:=by
 refine⟨_,cap,Y,c,λi hi=>⟨b,0,Y,?_,?_,?_,?_,AA⟩⟩
 .simp;rw[h.rules.1];exact(a i hi hi).1
 .simp;rw[h.rules.1];exact(a i hi hi).2.1
 .simp;rw[h.rules.1];exact(a i hi hi).2.2.1
 .simp;rw[h.rules.1];exact(a i hi hi).2.2.2
structure v_(i:Nat)(c:aG):Prop where
 dk:i<c.dk.length
 eF:c.kind=3->i<c.eF.length
 fU:c.kind≠3->i<c.fU.length
 text:∀s∈c.eF,s.size<=9223372036854775807
def v_.small{i:Nat}{c:aG}(h:v_ i c):(hR c i).text.size<=9223372036854775807:=by
 unfold hR;split
 .decide
 .split
  .rename_i hk;have:=h.eF hk;simp[this];exact h.text _ AA
  .show ko.size<=_;decide
def ajG(t:List aG)(v:Value)(i:Nat)(w:aS)(hv:nX w v t)(O:t.length<=1000000)(cX:∀c∈t,v_ i c):
 Calls (ae prog false) 209 #[.agg #[v],.I i] w λe w'=>∃b cs,e=.returned (.S b 0 t.length t.length)/\ai w' b cs 93/\cs.size=t.length*4/\zK cs (t.map (hR · i)) t.length/\w.heap.size<=b/\cJ w w':=by
 obtain⟨V,cap,rfl,hl,J⟩:=hv;have hlen:(t.map (hR · i)).length=t.length:=Ad;go_enter XW,ntmps209
 go_wp2_with (at_make;refine QX ajF _ rfl _ _ rfl _ _ t.length rfl rfl AP AP ?_;intro w1 bd U f r;have D:=(ai.new w #[.slice V t.length cap] 112).call r;obtain⟨LN,Z,Y⟩:=D.all)
 have B:cJ w w1:=Below.step r ((vaa _ _).alloc Ad _) Ad;have K:ai w1 (w.heap.size+1) bd 93:=BK;have X:Hid (ai w1 (w.heap.size+1) bd 93):=K;have P:Hid (cJ w w1):=B;clear U K r B D;go_loopw [17] (λn W=>∃(k:Nat)(cs:dp),k<=t.length/\n=.I k/\ai W (w.heap.size+1) cs 93/\cs.size=t.length*4/\zK cs (t.map (hR · i)) k/\cJ w W)
  (λi _=>t.length-(intOf i).toNat)
 case atStart=>exact⟨0,bd,vav _,rfl,X.out,f,λj _ hj=>AA,P.out⟩
 case round=>
  obtain⟨k,cs,hk,rfl,z,x,y,C⟩:=hrel;have A:Hid (ai wr (w.heap.size+1) cs 93):=z;have u:Hid (zK cs (t.map (hR · i)) k):=y;have m:Hid (cJ w wr):=C;have d:Hid _:=x;have QZ:Hid _:=f;clear z y C x f;by_cases l:k<t.length
  .obtain⟨b,off,rfl,bj,vs,aY,p,d1,I,H,F,o⟩:=J k l;simp at p;have g:=bo.bX m.out;have E:=g _ _ _ p;have T:=g _ _ _ d1;have S:=g _ _ _ I;have R:=g _ _ _ H;have Q:=g _ _ _ F;have fo:=ff E;obtain⟨iL,ci,lz,km,an,eT,rfl,rfl,rfl⟩:=o.shape;have HC:Hid (tf wr _ _ _ t[k]):=o.mono g;have s:=cX _ (vax l);clear g p d1 I H F o J cX;have l3:(0:Int)<=(k:Int):=AP;have j7:(k:Int)<(t.length:Int):=AP;go_wp2_with fail
   refine(ajB t[k] i _ (HC.out.mono (bo.bX ((vaa _ wr).alloc JT _))) s.dk s.eF s.fU).mono ?_;rintro e h ⟨rfl,q⟩;have a:=(A.out.alloc _).call q;have L:Hid (ai h (w.heap.size+1) cs 93):=a;have N:Hid (cJ w h):=Below.step q (m.out.alloc (by have:=m.out.size;omega) _) (by have:=m.out.size;simp;omega);have Q0:h.cell? (.a (w.heap.size+1) (k*4))=some (cs[k*4]'F5):=by rw[a.rules.1];simp
   have Q1:h.cell? (.a (w.heap.size+1) (k*4+1))=some (cs[k*4+1]'F5):=by rw[a.rules.1];simp
   have XX:h.cell? (.a (w.heap.size+1) (k*4+2))=some (cs[k*4+2]'F5):=by rw[a.rules.1];simp
   have XY:h.cell? (.a (w.heap.size+1) (k*4+3))=some (cs[k*4+3]'F5):=by rw[a.rules.1];simp
   have LO:=a.rules.2;clear a q E T S R Q;go_wp2_with fail
   go_roundw
   case rel=>
    refine⟨k+1,Ih cs k (hR t[k] i),AP,by go_num,(((L.out.set _ _).set _ _).set _ _).set _ _,by simp;exact d.out,?_,(((N.out.setCell Ad _).setCell Ad _).setCell Ad _).setCell Ad _⟩;have:=u.out.step AA (by rw[hlen];exact d.out);grind
   case measure=>simp[intOf];omega
  .have M:k=t.length:=by omega
   go_wp2_with fail
   go_ret
   exact⟨_,_,rfl,A.out,d.out,by rw[<-M];exact u.out,AP,m.out⟩
abbrev c2:=cR×cR×cR×cR
def lB:cR:=⟨false,0,0,ko⟩
def cg(q:c2):Array Value:=#[.bool q.1.dH,.I q.1.num,.I q.1.bV,.string q.1.text,.bool q.2.1.dH,.I q.2.1.num,.I q.2.1.bV,.string q.2.1.text,.bool q.2.2.1.dH,.I q.2.2.1.num,.I q.2.2.1.bV,.string q.2.2.1.text,.bool q.2.2.2.dH,.I q.2.2.2.num,.I q.2.2.2.bV,.string q.2.2.2.text]
def i9(l:List cR):c2:=(l.getD 0 lB,l.getD 1 lB,l.getD 2 lB,l.getD 3 lB)
def ajI(l:List cR)(a:l.length<4)(d:cR):Ih (cg (i9 l)) l.length d=cg (i9 (l++[d])):=by match l,a with| [],_=>rfl| [_],_=>rfl| [_,_],_=>rfl| [_,_,_],_=>rfl
theorem ajJ(q:c2):(cg q).size=16:=rfl
def XZ(u:Bool):(ae prog u).funcs[(56:Nat)]?=some f56:=bw (upd:=u) func56 FB
@[simp] theorem aCl (u:Bool) (args:dp) (w:aS):Sem.run (ae prog u) (callFunc 56 args) w=.ok (.enter 56 args) w:=c0 (XZ u) FB args w
theorem X0(u:Bool):(ae prog u).funcs[(201:Nat)]?=some f201:=bw (upd:=u) func201 FB
@[simp] theorem aCm (u:Bool) (args:dp) (w:aS):Sem.run (ae prog u) (callFunc 201 args) w=.ok (.enter 201 args) w:=c0 (X0 u) FB args w
theorem X1(u:Bool)(aD:uaa)(vals:List cR)(d:uan)(pl pc:Nat)(H I:Value)(w:aS)(hv:i8 w H vals)(hk:dP w I (aD.map Int.ofNat))(n:∀k∈aD,k<vals.length)(h4:aD.length<=4):
 Calls (ae prog u) 56 #[.agg #[.slice d pl pc,H],I] w λe w'=>e=.returned (.agg (cg (i9 (aD.map λk=>vals.getD k lB))))/\cJ w w':=by
 obtain⟨g,h,rfl,nl,D⟩:=hv;obtain⟨ka,kc,rfl,zL,C⟩:=hk;rw[vcf]at *;obtain⟨q,hq⟩:∃q,q=i9 (aD.map λk=>vals.getD k lB):=⟨_,rfl⟩;rw[<-hq];have Q:Hid _:=hq;clear hq;go_enter (XZ u),ntmps56
 go_wp2
 have F:=((ai.new w #[.slice d pl pc,.slice g vals.length h] 76).alloc (.cells (cg (i9 [])) 140)).alloc (.cells (cg (i9 [])) 140);have j:=(ai.new (w.alloc (.cells #[.slice d pl pc,.slice g vals.length h] 76)) (cg (i9 [])) 140).alloc (.cells (cg (i9 [])) 140);have m:=ai.new ((w.alloc (.cells #[.slice d pl pc,.slice g vals.length h] 76)).alloc (.cells (cg (i9 [])) 140)) (cg (i9 [])) 140;simp at j m;go_loopw [6,7,10] (λ_ _ x W=>∃k:Nat,k<=aD.length/\x=.I k/\ai W w.heap.size #[.slice d pl pc,.slice g vals.length h] 76/\(∃c1,ai W (w.heap.size+1) c1 140/\c1.size=16)/\ai W (w.heap.size+1+1) (cg (i9 ((aD.take k).map λk=>vals.getD k lB))) 140/\cJ w W)
  (λ_ _ x _=>aD.length-(intOf x).toNat)
 case atStart=>exact⟨0,vav _,rfl,F,⟨_,j,rfl⟩,m,(((vaa _ w).alloc JT _).alloc Ad _).alloc Aq _⟩
 case round=>
  obtain⟨k,hk,rfl,l,⟨c1,f,U⟩,b,p⟩:=hrel;have Rb:Hid (ai wr w.heap.size #[.slice d pl pc,.slice g vals.length h] 76):=l;have N:Hid (ai wr (w.heap.size+1) c1 140):=f;have E:Hid (ai wr (w.heap.size+1+1) (cg (i9 ((aD.take k).map λk=>vals.getD k lB))) 140):=b;have J:Hid (cJ w wr):=p;have c:=bo.bX p;obtain⟨fx,g7,g8⟩:=l.all;clear F j m l p;by_cases B:k<aD.length
  .obtain⟨kb,g9,rfl,i⟩:=C k (by simpa using B);have A:=n aD[k] (vax B);obtain⟨Re,ni,rfl,f0,f1,ir,f3,-⟩:=D aD[k] A;simp[qb]at i f0;replace i:=c _ _ _ i;replace f0:=c _ _ _ f0;replace f1:=c _ _ _ f1;replace ir:=c _ _ _ ir;replace f3:=c _ _ _ f3;have Rf:=ff i;have Y:=ff f0;have hlen:((aD.take k).map λk=>vals.getD k lB).length=k:=AA;have hsz:=ajJ (i9 ((aD.take k).map λk=>vals.getD k lB));have hst:=ajI ((aD.take k).map λk=>vals.getD k lB) AP vals[aD[k]];rw[hlen]at hst;have Rg:Hid (Ih (cg (i9 ((aD.take k).map λk=>vals.getD k lB))) k vals[aD[k]]=cg (i9 ((aD.take (k+1)).map λk=>vals.getD k lB))):=by have O:vals.getD aD[k] lB=vals[aD[k]]:=AA;rw[hst,vcl B,vcr,vdg,List.map_nil,O];exact rfl
   clear hst;generalize hq:cg (i9 ((aD.take k).map λk=>vals.getD k lB))=cs at *;have Q0:wr.cell? (.a (w.heap.size+1+1) (k*4))=some (cs[k*4]'AP):=HK;have Q1:wr.cell? (.a (w.heap.size+1+1) (k*4+1))=some (cs[k*4+1]'AP):=HK;have XX:wr.cell? (.a (w.heap.size+1+1) (k*4+2))=some (cs[k*4+2]'AP):=HK;have XY:wr.cell? (.a (w.heap.size+1+1) (k*4+3))=some (cs[k*4+3]'AP):=HK;have LO:=b.rules.2;have fo:=b.lt;have l3:(0:Int)<=(k:Int):=AP;have j7:(k:Int)<(aD.length:Int):=AP;have R:(k:Int)<(4:Int):=AP;have Ik:(0:Int)<=(aD[k]:Int):=AP;have Il:(aD[k]:Int)<(vals.length:Int):=AP;clear f b c D C hq;go_wp2_with fail
   go_roundw
   case rel=>
    refine⟨k+1,AP,by go_num,(((Rb.out.gx Aq _).gx Aq _).gx Aq _).gx Aq _,⟨c1,(((N.out.gx Ad _).gx Ad _).gx Ad _).gx Ad _,U⟩,?_,(((J.out.setCell Aq _).setCell Aq _).setCell Aq _).setCell Aq _⟩;rw[<-Rg.out];exact(((E.out.set _ _).set _ _).set _ _).set _ _
   case measure=>simp[intOf];omega
  .have X:aD.take k=aD:=vbv AP;rw[X,<-Q.out]at b;clear E;have LO:=f.rules.2;have K:=f.rules.1;have P:=b.rules.1;have xI:=f.lt;have dX:=b.lt;clear f b c D C;have a:∀o,o<16->∃v,wr.cell? (.a (w.heap.size+1) o)=some v:=λo ho=>by rw[K];exact⟨c1[o]'AP,Ad⟩
   obtain⟨mL,Im⟩:=a 0 AP;obtain⟨c9,V⟩:=a 1 AP;obtain⟨ed,T⟩:=a 2 AP;obtain⟨ge,S⟩:=a 3 AP;obtain⟨l4,Rh⟩:=a 4 AP;obtain⟨tl,Z⟩:=a 5 AP;obtain⟨In,L⟩:=a 6 AP;obtain⟨q_,Io⟩:=a 7 AP;obtain⟨zN,M⟩:=a 8 AP;obtain⟨E8,Ri⟩:=a 9 AP;obtain⟨Ip,LY⟩:=a 10 AP;obtain⟨Iq,z⟩:=a 11 AP;obtain⟨Ir,y⟩:=a 12 AP;obtain⟨Is,t⟩:=a 13 AP;obtain⟨It,s⟩:=a 14 AP;obtain⟨Iu,r⟩:=a 15 AP;clear a K;unfold cg at P;have R:¬(k:Int)<(aD.length:Int):=AP;go_wp2_with fail
   refine vbu (v:=.agg (cg q)) (by simp[results,results56,go_sem,cg,Im,V,T,S,Rh,Z,L,Io,M,Ri,LY,z,y,t,s,r]) rfl ⟨rfl,?_⟩;iterate 16 refine Below.setCell ?_ Ad _
   exact J.out
variable{n:Nat}
section
def nn(n:Nat)(v:Value):Prop:=∃a c,v=.slice a n c/\n<=c
def nn.carry{ρ:ax.Ren}{b:Value}(h:nn n v)(hv:ar ρ v b):nn n b:=by obtain⟨a,c,rfl,hc⟩:=h;cases hv with|jP=>exact⟨_,_,Y,hc⟩|slice=>exact⟨_,_,Y,hc⟩
def Iv(q:c2):List cR:=[q.1,q.2.1,q.2.2.1,q.2.2.2]
theorem ajQ(u:Bool)(q:c2)(w:aS)(k:Nat)(h:k<4):Sem.run (ae prog u) (Instr.index 140 (.agg #[.bool q.1.dH,.I q.1.num,.I q.1.bV,.string q.1.text,.bool q.2.1.dH,.I q.2.1.num,.I q.2.1.bV,.string q.2.1.text,.bool q.2.2.1.dH,.I q.2.2.1.num,.I q.2.2.1.bV,.string q.2.2.1.text,.bool q.2.2.2.dH,.I q.2.2.2.num,.I q.2.2.2.bV,.string q.2.2.2.text]) (.I (k:Int))) w=.ok (oI (Iv q)[k]) w:=by rcases k with _ | _ | _ | _ |k<;>first|omega|kernel_rfl
def si(q:c2):List Bool:=[q.1.dH,q.2.1.dH,q.2.2.1.dH,q.2.2.2.dH]
attribute [local go_sem ↓] ajQ
def ajR(u:Bool)(q:c2)(w:aS):Calls (ae prog u) 201 #[.agg (cg q)] w λe w'=>e=.returned (.bool ((si q).any id))/\cJ w w':=by
 obtain⟨r,f⟩:∃r,r=(si q).any id:=⟨_,Y⟩;rw[<-f];have i:Hid _:=f;clear f;unfold cg;go_enter (X0 u),ntmps201
 go_wp2
 go_loopw [4,6] (λ_ x W=>∃k:Nat,k<=4/\x=.I k/\(∀j,j<k->(si q)[j]?=some false)/\cJ w W) (λ_ x _=>4-(intOf x).toNat)
 case atStart=>exact⟨0,vav _,Y,λj h=>AP,(vaa _ w).alloc JT _⟩
 case round=>
  obtain⟨k,hk,rfl,hn,l⟩:=hrel;have c:Hid (cJ w wr):=l;have a:Hid _:=hn;clear hn l;by_cases o:k<4
  .have hi:(k:Int)<(4:Int):=by omega
   have g:Hid ((si q)[k]?=some (Iv q)[k].dH):=by show(si q)[k]?=some (Iv q)[k].dH;rcases k with _ | _ | _ | _ |k<;>first|rfl|omega
   cases hq:(Iv q)[k].dH
   .go_wp2_with fail
    go_roundw
    case rel=>
     refine⟨k+1,AP,by go_num,λj h=>?_,c.out.alloc FD _⟩;by_cases n:j=k
     .rw[n,g.out,hq]
     .exact a.out j AP
    case measure=>simp[intOf];omega
   .go_wp2_with fail
    go_ret
    refine⟨?_,c.out.alloc FD _⟩;have b:=g.out;rw[hq]at b;have d:(si q).any id=true:=List.any_eq_true.2 ⟨true,vcd b,Y⟩;simp[i.out,d]
  .have hi:¬(k:Int)<(4:Int):=by omega
   go_wp2_with fail
   go_ret
   refine⟨?_,c.out⟩;rw[i.out];obtain rfl:k=4:=AP;have h0:=a.out 0 AP;have b:=a.out 1 AP;have d:=a.out 2 AP;have m:=a.out 3 AP;simp[si]at h0 b d m;simp[si,h0,b,d,m]
end
def X3:(ae prog false).funcs[(208:Nat)]?=some f208:=bw (upd:=false) func208 AJ
def LZ(place:uay)(vals:List cR)(W:aS)(x:Value):Prop:=
 ∃kM bv g_ cs,x=.agg #[.S kM 0 place.length place.length,.S bv 0 vals.length vals.length]/\ai W kM g_ 3/\g_.toList=place.map (Value.int .i64)/\ai W bv cs 93/\cs.size=vals.length*4/\zK cs vals vals.length
def ajS(nZ:Nat)(pl:Nat->List Int)(vs:Nat->List cR):If nZ (λt=>LZ (pl t) (vs t)):=by
 refine⟨λt W x h=>?_,λt W W' x h hk=>?_⟩
 .obtain⟨a,bv,b,cs,rfl,-⟩:=h;grind
 .obtain⟨a,bv,b,cs,rfl,f,e,d,c⟩:=h;exact⟨a,bv,b,cs,Y,hk _ _ _ _ f AA,e,hk _ _ _ _ d AA,c⟩
def ajT(t:List aG)(v:Value)(fr aU:Nat)(w0:aS)(hv:nX w0 v t)(o:t.length<=1000000)(R:fr<=aU)(xK:aU<=1000000)(cX:∀i,i<aU->∀c∈t,v_ i c)(H K bs:Nat)(r:w0.cell? (.a H 0)=some (.I fr))(ht:w0.cell? (.a K 0)=some (.I aU))(hs:w0.cell? (.a bs 0)=some v):
 LP n (ae prog false) 208 #[.P H 0,.P K 0,.P bs 0] (λk=>LZ [((fr+k:Nat):Int)] (t.map (hR · (fr+k)))) (aU-fr) w0.heap.size w0:=by
 intro l S J W a A y C h0;have I:=ajp A y;clear y A;have j:=bo.bX a;have z:=j _ _ _ r;obtain⟨bK,cap,rfl,-,-⟩:=id hv;refine callsIn_of_wp X3 rfl trivial ?_ rfl;simp[vce];gi_wp2
 gi_loopw [5] (λp wr=>∃i:Nat,fr<=i/\i<=aU/\p=.I (i:Int)/\J (i-fr) wr/\cJ w0 wr/\Below w0.heap.size W wr) (λp _=>aU-(intOf p).toNat)
 case atStart=>exact⟨fr,vac _,R,rfl,AA,a,vaa _ _⟩
 case round=>
  obtain⟨i,l3,j7,rfl,E,u,L⟩:=hrel;have d:=bo.bX u;have gE:=d _ _ _ ht;have T:=d _ _ _ hs;have LW:=ff T;have Z:Hid (nX wr _ t):=hv.mono tg d;have B:Hid (J (i-fr) wr):=E;have g:Hid (cJ w0 wr):=u;have tm:Hid (Below w0.heap.size W wr):=L;clear E u L d;by_cases q:i<aU
  .have U:(i:Int)<(aU:Int):=by omega
   have F:=cX i q;clear r ht hs z h0 a j cX;gi_wp2
   have w:cJ wr (wr.alloc (.cells #[.I (i:Int)] 3)):=(vaa _ wr).alloc JT _;refine⟨PJ,λh=>Cm,(callsIn_wide.2 (ajG t _ i _ (Z.out.mono tg (bo.bX w)) o F)).mono ?_⟩;rintro e f ⟨b,cs,rfl,M,s,Y,V,x⟩;have m:Hid (cJ wr f):=Below.step x w Ad;have P:=I _ _ _ B.out m.out;have Q:fr+(i-fr)=i:=AP;have O:LZ [((fr+(i-fr):Nat):Int)] (t.map (hR · (fr+(i-fr)))) f (.agg #[.S wr.heap.size 0 1 1,.S b 0 t.length t.length]):=by rw[Q];refine⟨wr.heap.size,b,#[.I (i:Int)],cs,Ad,(ai.new wr _ _).call x,rfl,M,AA,AA⟩
   obtain⟨fn,tmps,assign,body,X,N⟩:=C (i-fr) _ f P AP O;clear M s Y V x O P C I w Q F;gi_wp2
   refine⟨λh=>Cm,N.mono ?_⟩;rintro e oH ⟨rfl,zP,D⟩;clear N X;gi_wp2
   go_roundw
   case rel=>exact⟨i+1,AP,AP,Ad,AA,g.out.trans ((m.out.mono g.out.size).trans D),tm.out.trans ((m.out.mono g.out.size).trans D)⟩
   case measure=>simp[intOf];omega
  .have U:¬(i:Int)<(aU:Int):=by omega
   clear r ht hs z h0 a j cX;gi_wp2
   go_end0
   have e:aU=i:=AP;subst e;exact⟨⟨_,rfl⟩,B.out,tm.out⟩
end bS
namespace ax
structure Carry(ρ:Ren)(w w':aS):Prop where
 cell:∀a a' v,dr ρ a a'->w.cell? a=some v->∃v',w'.cell? a'=some v'/\ar ρ v v'
 map:∀b b' es k,ρ.rel b b'->w.heap[b]?=some (.map es k)->∃es',w'.heap[b']?=some (.map es' k)/\cE (qV ρ) es.toList es'.toList
variable{w w':aS}
def eL.carry{C:cH}{S:Sync}{ρ:Ren}(h:eL C S ρ w w'):Carry ρ w w':=⟨λ_ _ _ r hv=>h.cell r hv,λb f es k r e=>by
 obtain⟨o,o',a,d,c⟩:=h.obj b f r;rw[e]at a;cases a;cases c with
 |map _ h=>exact⟨_,d,h⟩⟩
def ww{ao:Type}(R:aS->(Nat->Option Value)->ao->Prop):Prop:=
 ∀(ρ:Ren) w w' rd jV x,Carry ρ w w'->(∀j v,rd j=some v->∃v',jV j=some v'/\ar ρ v v')->R w rd x->R w' jV x
variable{v:Value}
section
variable{ρ:Ren}
def ar.tI{k:IntKind}{n:Int}(h:ar ρ (.int k n) v):v=.int k n:=by cases h;rfl
def ar.YV{s:ByteArray}(h:ar ρ (.string s) v):v=.string s:=by cases h;rfl
def ar.YW{b:Bool}(h:ar ρ (.bool b) v):v=.bool b:=by cases h;rfl
end
def aX.carry{ao:Type}{c:Nat}{R:aS->(Nat->Option Value)->ao->Prop}(o:ww R){ρ:Ren}(hc:Carry ρ w w'){d:Value}(hv:ar ρ v d){xs:List ao}(h:aX w c R v xs):aX w' c R d xs:=by
 obtain⟨s,cap,rfl,k,l⟩:=h;cases hv with
 |jP=>refine⟨none,cap,Y,k,λi hi=>?_⟩;obtain⟨b,off,e,_⟩:=l i hi;cases e
 |@slice a a' _ _ r=>refine⟨some a',cap,Y,k,λi hi=>?_⟩;obtain⟨b,off,e,n⟩:=l i hi;cases e;obtain⟨r1,g,f⟩:=r;obtain⟨m,q,p⟩:=a';simp only at r1 g f;subst g;subst f;exact⟨m,off,Y,o ρ w w' (λj=>w.cell? (.a b (off+i*c+j))) _ _ hc (λj v hv=>hc.cell ⟨b,off+i*c+j,none⟩ ⟨m,off+i*c+j,none⟩ v ⟨r1,Y,Y⟩ hv) n⟩
def wx:ww qb:=λρ w w' rd e x _ b h=>by obtain⟨d,a,c⟩:=b 0 _ h;rw[c.tI]at a;exact a
def MD:ww zC:=λρ w w' rd e x _ b h=>by obtain⟨d,a,c⟩:=b 0 _ h;rw[c.YW]at a;exact a
def ME:ww Bo:=λρ w w' rd e x _ b h=>by obtain⟨d,a,c⟩:=b 0 _ h.1;rw[c.YV]at a;exact⟨a,h.2⟩
def al6:ww LG:=λρ w w' rd g x _ a h=>by obtain⟨f,c,e⟩:=a 0 _ h.1;obtain⟨v2,b,d⟩:=a 1 _ h.2;rw[e.tI]at c;rw[d.tI]at b;exact⟨c,b⟩
def xY:ww vS:=by rintro ρ w w' rd n x hc a ⟨bj,vs,o,h0,h,g,f,e,b⟩;obtain⟨v0,c,b0⟩:=a 0 _ h0;obtain⟨v1,a1,b1⟩:=a 1 _ h;obtain⟨v2,j,m⟩:=a 2 _ g;obtain⟨v3,i,k⟩:=a 3 _ f;obtain⟨d,l,a8⟩:=a 4 _ e;rw[b0.tI]at c;rw[b1.tI]at a1;exact⟨v2,v3,d,c,a1,j,i,l,aX.carry wx hc m b.fU,aX.carry ME hc k b.eF,aX.carry MD hc a8 b.dk⟩
def gP.carry{C:cH}{D M:dh}{w0:aS}(h:gP C D M w w0)(i:io C D M w)(m:C.upd=false\/∀b,D b->M b):Carry (eS D M) w w0:=by
 refine⟨?_,λb t es k⟨r,hd⟩ e=>?_⟩
 .rintro a a' v ⟨⟨q,hd⟩,p,o⟩ hv;obtain⟨c,e,fr,g,l,f⟩:=xq hv;rw[q]at g;obtain⟨s,n,_⟩:=h.cells i hd g;refine⟨v,mj n (o▸l) (p▸f),?_⟩;obtain⟨ob,j,d⟩:=i _ hd;rw[g]at j;cases j;rcases d with d|d
  .cases d with|cells _ hc _=>exact hc.get _ _ _ f f
  .exact d.elim
 .subst r;exact⟨es,h.Bm i m hd e⟩
end ax
namespace cq
open RowKit ax
@[simp] theorem aDr:cQ true 60:=c0 (bw (upd:=true) func60 AJ) AJ
@[simp] theorem aDs:cQ true 40:=c0 (bw (upd:=true) func40 AJ) AJ
theorem am7(s:ByteArray)(w:aS)(hs:s.size<=1000000):
 Calls (ae prog true) 60 #[.string s] w λe w'=>e=.returned (.string s)/\cJ w w':=by
 by_cases h0:s.size=0
 .have l:s=⟨#[]⟩:=ByteArray.ext (Array.eq_empty_of_size_eq_zero h0);subst l;go_enter (bw (upd:=true) func60 AJ),ntmps60
  go_wp2
  go_ret
  exact⟨Y,vaa _ _⟩
 obtain⟨i,hi,m,hsz,C⟩:=vch (show(prog.info? 5).map (λi=>(i.zero,i.size,i.bytes))=some (some (.int .u8 0),1,1)from Ah);have f:(ae prog true).underlying 207=some (.slice 5):=(qZ _ _ _).trans underlying207;have h:(ae prog true).underlying 208=some (.pointer 5):=(qZ _ _ _).trans underlying208;have y:(ae prog true).info? 5=some i:=hi;obtain⟨A,o,v⟩:∃A:Array Value,A=madeCells (Value.int .u8 0).cells ((s.size:Int).toNat*i.size)/\A.size=s.size:=⟨_,Y,by grind[size_madeCells]⟩;have z:∀W:aS,(Instr.makeSlice 207 (.I (s.size:Int)) (.I (s.size:Int))).run (ae prog true) W=.ok (.S W.heap.size 0 s.size s.size) (W.alloc (.cells A 5)):=λW=>by have:=run_make (P:=ae prog true) W 207 5 i _ f y m .i64 .i64 s.size s.size AP (Int.le_refl _) AA AP;grind
 have a:=heap_alloc_new w (.cells A 5);have d:=Lib.run_copy_row_string (P:=ae prog true) (w.alloc (.cells A 5)) 207 9 3 5 w.heap.size 0 s.size s.size s A 5 f AA a JT AP;obtain⟨B,g,c⟩:∃B:Array Value,B=(A.toList.take 0++Lib.byteCells s.data.toList++A.toList.drop (0+s.size)).toArray/\B.toList=Lib.byteCells s.data.toList:=⟨_,Y,by
  simp_all⟩
 rw[<-g]at d;have t:((w.alloc (.cells A 5)).setRow w.heap.size B).heap[w.heap.size]?=some (.cells B 5 (0,0)):=setRow_heap _ _ A _ 5 (0,0) a;have u:B.size=s.size:=by grind[Lib.byteCells_length,Lib.size_eq]
 have b:=Lib.run_unsafeString_row (P:=ae prog true) ((w.alloc (.cells A 5)).setRow w.heap.size B) 208 3 9 5 h (by grind[Program.cellsOf]) w.heap.size B.size (by grind[World.shape?]) s.data.toList (λe=>h0 (by rw[Lib.size_eq,e];rfl)) BK (by grind[Lib.size_eq])
  (λj x n=>Lib.cells_of_row t B.size j _ (by rw[vbv AA,c];simp[Lib.byteCells,n]))
 rw[<-Lib.size_eq]at b;clear o g a;go_enter (bw (upd:=true) func60 AJ),ntmps60
 go_wp2
 go_ret
 have r:cJ w (w.alloc (.cells A 5)):=(vaa _ w).alloc JT _;have q:Below w.heap.size (w.alloc (.cells A 5)) ((w.alloc (.cells A 5)).setRow w.heap.size B):=⟨Y,Y,Y,Ad,λk hk=>setRow_other _ _ _ _ AP⟩;exact⟨Y,Lib.below_freeze (r.trans q) (p:=⟨w.heap.size,0,none⟩) JT _⟩
def ana(s:ByteArray)(w:aS)(hs:s.size<=1000000):
 Calls (ae prog true) 40 #[.string s] w λe w'=>e=.returned (.string s)/\cJ w w':=by
 go_enter (bw (upd:=true) func40 AJ),ntmps40
 go_wp2
 refine(am7 s w hs).mono ?_;rintro e w' ⟨rfl,a⟩;go_wp2
 go_ret
 simp_all
end cq
namespace cI
open Conc ConcN ax bp
def oW(Shun:uam)(B:Nat)(e:Event):Prop:=(∀x,(MemAct.ofEvent e).touch?=some x->(x.loc.isMemory=true->(Shun x.loc->x.kind≠ .plain)/\(x.kind=.atomic->Shun x.loc))/\∀b,fg x.loc=some b->b<B)/\∀a,MemAct.ofEvent e≠ .mark (.release a)
structure mU(Shun:uam)(B d n:Nat)(t:Trace):Prop where
 gs:∀op∈t,op.g<n
 qd:∀op∈t,∀a,op.act≠ .mark (.release a)
 n6:∀i a,touchAt t i=some a->a.loc.isMemory=true->a.kind=.atomic->Shun a.loc
 Jj:∀said,¬Race said t
 known:∀i a,touchAt t i=some a->a.loc.isMemory=true->Knows t 0 i\/(Shun a.loc/\a.kind=.atomic)
 over:t.HandedOver
 hears:Deaf t 0=d
 low:∀i a b,touchAt t i=some a->fg a.loc=some b->b<B
variable{es:uao}
section
variable{Shun:uam}{B d n:Nat}{t:Trace}
theorem mU.mono{c:Nat}(h:mU Shun B d n t)(g:B<=c):mU Shun c d n t:=⟨h.gs,h.qd,h.n6,h.Jj,h.known,h.over,h.hears,λi a b f e=>vap (h.low i a b f e) g⟩
def mU.own(h:mU Shun B d n t)(hn:0<n){fn:uaj}{pos:String}(f:∀e∈es,oW Shun B e):mU Shun B (deafBehind d es) n (t++MemOp.ofEvents 0 fn pos es):=by
 have s:∀op∈MemOp.ofEvents 0 fn pos es,op.g=0:=λop c=>DZ;refine⟨λop c=>(ved.1 c).elim (h.gs op) AA,λop c=>(ved.1 c).elim (h.qd op) (λx=>by obtain⟨e,g,rfl⟩:=Conc.mem_ofEvents x;exact(f e g).2),λi a j q hk=>?_,λsaid=>noRace_append (h.Jj said) s λi a j op c b l hc=>?_,λi a j u=>?_,handedOver_app h.over AA,?_,λi a b j l=>?_⟩
 .obtain⟨x,k,o⟩:=touch_of j;rcases vbk k with⟨_,r⟩|⟨_,m⟩
  .exact h.n6 i a Ev q hk
  .obtain⟨e,g,rfl⟩:=Conc.mem_ofEvents m;exact(((f e g).1 a o).1 q).2 hk
 .rcases h.known i a j hc.2.1 with hk|⟨p,y⟩
  .exact hk
  .have w:b.kind≠ .plain:=by obtain⟨e,g,rfl⟩:=Conc.mem_ofEvents c;exact(((f e g).1 b l).1 (by rw[<-hc.1];exact hc.2.1)).1 (hc.1▸p)
   obtain⟨_,_,_,v⟩:=hc;grind
 .obtain⟨x,k,o⟩:=touch_of j;rcases vbk k with⟨_,r⟩|⟨_,m⟩
  .exact(h.known i a Ev u).imp (·.app _) id
  grind[knows_own]
 .rw[Deaf_own,h.hears]
 .obtain⟨x,k,o⟩:=touch_of j;rcases vbk k with⟨_,r⟩|⟨_,m⟩
  .exact h.low i a b Ev l
  .obtain⟨e,g,rfl⟩:=Conc.mem_ofEvents m;exact((f e g).1 a o).2 b l
theorem anT{e:Event}(h:e.mute=true)(a:Addr):MemAct.ofEvent e≠ .mark (.release a):=by
 obtain⟨loc,wr,b⟩:=e;cases loc<;>simp_all[Event.mute]
 grind[MemAct.ofEvent]
theorem mU.mute(h:mU Shun B d n t){g:Nat}(hg:g≠0)(s:g<n){fn:uaj}{pos:String}(m:∀e∈es,e.mute=true):mU Shun B d n (t++MemOp.ofEvents g fn pos es):=by
 have l:∀op∈MemOp.ofEvents g fn pos es,op.g=g:=λop c=>DZ;have hn:∀op∈MemOp.ofEvents g fn pos es,op.act.touch?=none:=λop c=>by grind[Conc.mem_ofEvents,touch_mute]
 refine⟨λop c=>(ved.1 c).elim (h.gs op) AA,λop c=>(ved.1 c).elim (h.qd op) (λx=>by grind[Conc.mem_ofEvents,anT]),λi a j q hk=>?_,λsaid=>noRace_append (h.Jj said) l AA,λi a j m=>?_,handedOver_app h.over AA,(Deaf_other t hg _ l).trans h.hears,λi a b j r=>?_⟩
 .obtain⟨x,f,p⟩:=touch_of j;rcases vbk f with⟨_,k⟩|⟨_,o⟩
  .exact h.n6 i a Ev q hk
  grind
 .obtain⟨x,f,p⟩:=touch_of j;rcases vbk f with⟨_,k⟩|⟨_,o⟩
  .exact(h.known i a Ev m).imp (·.app _) id
  grind
 .obtain⟨x,f,p⟩:=touch_of j;rcases vbk f with⟨_,k⟩|⟨_,o⟩
  .exact h.low i a b Ev r
  grind
end
def l9(P:b4)(Post:uab)(m:Machine)(t:Trace):Prop:=
 ∃N last o w' cA,runNT P (N+1) m t=(.ended o w',cA)/\runN P N m=.next last/\step P last=.ended o w'/\Conc.Good P Post last o w' cA
theorem l9.step{P:b4}{Post:uab}{m a:Machine}{t:Trace}{ops:Array MemOp}(hs:stepT P m=(.next a,ops))(h:l9 P Post a (t++ops)):l9 P Post m t:=by obtain⟨N,last,o,w',d,f,e,c,b⟩:=h;refine⟨N+1,last,o,w',d,by grind[runNT],?_,c,b⟩;grind[runN,Go.step]
theorem l9.leads{P:b4}{Post:uab}{q:Machine->Trace->Prop}(hq:∀m t,q m t->l9 P Post m t):∀(n:Nat){m a:Machine}{t b:Trace},runNT P n m t=(.next a,b)->q a b->l9 P Post m t
 |0,m,a,t,b,h,k=>by grind[runNT]
 |n+1,m,a,t,b,h,k=>by simp[runNT]at h;cases hs:stepT P m with|mk r ops=>rw[hs]at h;cases r with|next m1=>exact l9.step hs (l9.leads hq n h k)|ended o w=>grind
def bP(P:b4)(Post:uab)(n:Nat)(Shun:uam)(d:Nat)(g:uah)(w:aS):Prop:=
 ∀(gs:uax)(sl:ubb)(q:uas)(t:Trace),gs.size=n->gs[0]?=some g->Leavers P t gs q->mU Shun w.heap.size d n t->l9 P Post (crowd gs w sl) t
inductive eQ(P:b4)(Shun:uam)(Stop:uav):Nat->Goroutine->aS->Prop
 |stop {d:Nat} {g:uah} {w:aS} (h:∀k,Stop d g (w.at k)):eQ P Shun Stop d g w
 |step {d:Nat} {g:uah} {w:aS} (hs:g.status=.running) (ok:∀k,∃g' w' es,stepG P true g (w.at k)=.go g' w' es/\(∀e∈es,oW Shun w'.heap.size e)/\w.heap.size<=w'.heap.size)
  (next:∀k g' w' es,stepG P true g (w.at k)=.go g' w' es->eQ P Shun Stop (deafBehind d es) g' w'):eQ P Shun Stop d g w
section
variable{P:b4}{Shun:uam}{Stop Stop':uav}{d:Nat}{g:uah}{w:aS}
def eQ.mk(hs:g.status=.running)(h:∀k,∃g' w' es,stepG P true g (w.at k)=.go g' w' es/\(∀e∈es,oW Shun w'.heap.size e)/\w.heap.size<=w'.heap.size/\eQ P Shun Stop (deafBehind d es) g' w'):eQ P Shun Stop d g w:=
 .step hs (λk=>let⟨g',w',es,a,f,c,_⟩:=h k;AA) λk g1 w1 i e=>by obtain⟨g',w',es,a,_,_,b⟩:=h k;grind
theorem eQ.at(h:eQ P Shun Stop d g w)(k:Nat):eQ P Shun Stop d g (w.at k):=by cases h with|stop h=>exact .stop λk'=>h k'|step hs h hn=>exact .step hs (λk'=>h k') (λk'=>hn k')
theorem eQ.bind(h:eQ P Shun Stop d g w)(hS:∀d g w,Stop d g w->eQ P Shun Stop' d g w):eQ P Shun Stop' d g w:=by induction h with|@stop d g w h=>exact hS _ _ _ (h w.drawn)|step hs h hn a=>exact .step hs h AA
theorem l_{R:aS->aS->Prop}(b:∀w k,R w (w.at k)):∀(n:Nat)(g:uah)(w:aS),Goes P true R Go.ConcR.DC0 (λg w=>eQ P Shun Stop d g w) n g w->eQ P Shun Stop d g w
 |0,g,w,h=>h w (b w w.drawn)
 |n+1,g,w,h=>by
  rcases h with h|⟨hs,h⟩
  .exact h w (b w w.drawn)
  .refine eQ.mk hs λk=>?_;have a:=h (w.at k) (b w k);cases hst:stepG P true g (w.at k)with
   |go g1 w1 es=>rw[hst]at a;obtain⟨⟨rfl,rfl⟩,c⟩:=a;exact⟨g1,w.at k,#[],Y,Ad,vac _,l_ b n g1 (w.at k) c⟩
   | _=>rw[hst]at a;exact a.elim
theorem ZC{g':uah}:∀(n:Nat)(g:uah)(w:aS),Goes P true (λ_ _=>True) Go.ConcR.DC0 (λe _=>e=g') n g w->(∀k,Stop d g' (w.at k))->eQ P Shun Stop d g w
 |0,g,w,h,hs=>by have:=h w trivial;subst this;exact .stop hs
 |n+1,g,w,h,hs=>by
  rcases h with h|⟨b,h⟩
  .have:=h w trivial;subst this;exact .stop hs
  .refine eQ.mk b λk=>?_;have a:=h (w.at k) trivial;cases hst:stepG P true g (w.at k)with
   |go g1 w1 es=>rw[hst]at a;obtain⟨⟨rfl,rfl⟩,c⟩:=a;exact⟨g1,w.at k,#[],Y,Ad,vac _,ZC n g1 (w.at k) c λk'=>hs k'⟩
   | _=>rw[hst]at a;exact a.elim
theorem Co(t:Trace)(fn:uaj)(pos:String)(es:uao){j:Nat}(b:0≠j):Deaf (t++MemOp.ofEvents 0 fn pos es) j=Deaf t j:=
 Deaf_other t (g':=0) AP _ (λop a=>DZ)
def SL{gs:uax}{q:uas}{t:Trace}{a:uah}(h:Leavers P t gs q)(h0:gs[0]?=some a)(hrun:a.status=.running){i k:Nat}{g:uah}{sl':ubb}(u:0<i)(hi:gs[i]?=some g)(hg:g.status=.running):
 ∃gs' l fn pos es,runT P (crowd gs (w.at k) sl') i=(.next (crowd gs' (w.at k) sl'),MemOp.ofEvents i fn pos es)/\gs'.size=gs.size/\gs'[0]?=some a/\Leavers P (t++MemOp.ofEvents i fn pos es) gs' l/\(∀e∈es,e.mute=true)/\sumTo gs'.size l<sumTo gs.size q:=by
 have hq:=h.old i g u hi;have s:(i==0)=false:=AA;have c:i<gs.size:=(vas.1 hi).1;cases o:q i with
 |zero=>rw[o]at hq;rw[hq.1]at hg;cases hg
 |succ k'=>
  rw[o]at hq;rcases hq with⟨C,_⟩|⟨_,g',es,A,r,z⟩
  .grind
  have p:=runT_crowd_go (P:=P) (sl:=sl') (i:=i) hi (by rw[s];exact r (w.at k));have hsz:((gs.map (woken P g g' (w.at k))).setIfInBounds i g').size=gs.size:=Ad;have B:sumTo gs.size (upd q i k')+(k'+1)=sumTo gs.size q+k':=by have:=sumTo_upd q k' id c;simp_all
  refine⟨_,upd q i k',_,_,es,p,hsz,?_,⟨λj x n m=>?_,λj n=>?_⟩,A,AA⟩
  .grind[woken_run]
  .by_cases d:i=j
   .grind[upd_same,Deaf_own]
   .rw[vdw d,vcj]at m;obtain⟨y,v,rfl⟩:=vaj.1 m;have f:=h.old j y n v;rw[woken_quitsD f,upd_ne q k' (Ne.symm d),Deaf_other t d _ (λop b=>DZ)];grind
  .rw[Deaf_other t (g':=i) AA _ (λop b=>DZ)];exact h.above j AA
def M6{gs:uax}{q:uas}{t:Trace}{a:uah}{B n:Nat}(hn:gs.size=n)(p:Leavers P t gs q)(m:mU Shun B d n t)(h0:gs[0]?=some a)(hrun:a.status=.running){i k:Nat}{g:uah}{sl':ubb}(c:0<i)(hi:gs[i]?=some g)(hg:g.status=.running):
 ∃gs' b ops,runT P (crowd gs (w.at k) sl') i=(.next (crowd gs' (w.at k) sl'),ops)/\gs'.size=gs.size/\gs'[0]?=some a/\Leavers P (t++ops) gs' b/\mU Shun B d n (t++ops)/\sumTo gs'.size b<sumTo gs.size q:=by
 obtain⟨gs',b,fn,pos,es,l,j,h,f,r,o⟩:=SL (w:=w) (k:=k) (sl':=sl') p h0 hrun c hi hg;have e:i<gs.size:=(vas.1 hi).1;exact⟨gs',b,_,l,j,h,f,m.mute AP AP r,o⟩
def FR{gs:uax}{q:uas}{t:Trace}{a:uah}(c:Leavers P t gs q)(h0:gs[0]?=some a)(hrun:a.status=.running):∀g∈gs,awake g:=by
 intro g hg;obtain⟨i,hi,rfl⟩:=Array.mem_iff_getElem.1 hg;rcases vbl i with rfl|b
 .grind[awake_of]
 .exact awake_of ((c.old i _ b (vao hi)).status.elim .inl AA)
def Cp{Post:uab}{n:Nat}(hs:g.status=.running)(h:∀k,∃g' w' es,stepG P true g (w.at k)=.go g' w' es/\(∀e∈es,oW Shun w'.heap.size e)/\w.heap.size<=w'.heap.size/\bP P Post n Shun (deafBehind d es) g' w'):bP P Post n Shun d g w:=by
 have key:∀(M:Nat)(gs:uax)(sl:ubb)(q:uas)(t:Trace)(o:Nat),sumTo gs.size q<=M->gs.size=n->gs[0]?=some g->Leavers P t gs q->mU Shun w.heap.size d n t->l9 P Post (crowd gs (w.at o) sl) t:=by
  intro M;induction M with
  |zero=>
   intro gs sl q t o C hn h0 a c;obtain⟨i,g1,k,sl',hi,hg,hst⟩:=crowd_pick (P:=P) (w:=w.at o) (sl:=sl) (FR a h0 hs) AA;rcases vbl i with rfl|z
   .obtain rfl:g1=g:=by grind
    obtain⟨g',w',es,p,u,s,r⟩:=h k;have v:=runT_crowd_go (P:=P) (sl:=sl') (i:=0) hi (show stepG P (0==0) g1 (w.at k)=_ from p);have l:0<gs.size:=(vas.1 h0).1;refine l9.step (hst.trans v) (r _ _ q _ AA AA ⟨λj x m f=>?_,λj m=>?_⟩ ((c.mono s).own AP u))
    .have b:0≠j:=by omega
     rw[vdw b,vcj]at f;obtain⟨y,A,rfl⟩:=vaj.1 f;have hq:=a.old j y m A;grind[woken_quitsD,Co]
    .rw[Co _ _ _ _ AA];exact a.above j AA
   .obtain⟨gs',B,ops,_,_,_,_,_,l⟩:=M6 (w:=w) (k:=k) (sl':=sl') hn a c h0 hs z hi hg;omega
  |succ M D=>
   intro gs sl q t o C hn h0 a c;obtain⟨i,g1,k,sl',hi,hg,hst⟩:=crowd_pick (P:=P) (w:=w.at o) (sl:=sl) (FR a h0 hs) AA;rcases vbl i with rfl|z
   .obtain rfl:g1=g:=by grind
    obtain⟨g',w',es,p,u,s,r⟩:=h k;have v:=runT_crowd_go (P:=P) (sl:=sl') (i:=0) hi (show stepG P (0==0) g1 (w.at k)=_ from p);have l:0<gs.size:=(vas.1 h0).1;refine l9.step (hst.trans v) (r _ _ q _ AA AA ⟨λj x m f=>?_,λj m=>?_⟩ ((c.mono s).own AP u))
    .have b:0≠j:=by omega
     rw[vdw b,vcj]at f;obtain⟨y,A,rfl⟩:=vaj.1 f;have hq:=a.old j y m A;grind[woken_quitsD,Co]
    .rw[Co _ _ _ _ AA];exact a.above j AA
   .obtain⟨gs',B,ops,p,u,s,r,F,E⟩:=M6 (w:=w) (k:=k) (sl':=sl') hn a c h0 hs z hi hg;exact l9.step (hst.trans p) AA
 intro gs sl q t hn h0 a c;exact key _ gs sl q t w.drawn JT hn h0 a c
def Ae{Post:uab}{n:Nat}(h:eQ P Shun (bP P Post n Shun) d g w):bP P Post n Shun d g w:=by induction h with|@stop d g w h=>exact h w.drawn|step hs h hn a=>refine Cp hs λk=>?_;obtain⟨g',w',es,e,c,b⟩:=h k;grind
def ZE{Post:uab}{gs:uax}{q:uas}{t:Trace}{B n k f:Nat}{sl sl':ubb}(hn:0<n)(hst:stepT P (crowd gs (w.at f) sl)=runT P (crowd gs (w.at k) sl') 0)(h:Leavers P t gs q)(p:mU Shun B d n t)(hi:gs[0]?=some g){v:Value}(o:stepG P true g (w.at k)=.ended (.done v) (w.at k) es)(b:∀e∈es,oW Shun B e)(r:Post v (w.at k)):l9 P Post (crowd gs (w.at f) sl) t:=by
 have m:=runT_many_ended (P:=P) (sl:=sl') (i:=0) hi (show stepG P (0==0) g (w.at k)=_ from o);have l:=p.own hn (fn:=g.frame.fn) (pos:=g.frame.place) b;have hs:=hst.trans m;refine⟨0,_,_,_,_,by simp[runNT,hs],Y,by simp[Go.step,hs],v,Y,r,l.Jj,l.over,⟨λx a=>?_,Y⟩,λj x a c=>?_⟩
 .obtain⟨j,c⟩:=List.mem_iff_getElem?.1 a;rw[List.getElem?_drop]at c;exact⟨_,(h.old (1+j) x AP (by grind[crowd])).leaves⟩
 .have hq:=h.old j x AP a;refine⟨q j,?_⟩;have e:(t++MemOp.ofEvents 0 g.frame.fn g.frame.place es).deaf j (t++MemOp.ofEvents 0 g.frame.fn g.frame.place es).size=Deaf t j:=Co t _ _ _ AP;rw[e];exact hq.hears _
def anV{Post:uab}{n:Nat}(hs:g.status=.running)(h:∀k,∃v es,stepG P true g (w.at k)=.ended (.done v) (w.at k) es/\(∀e∈es,oW Shun w.heap.size e)/\Post v (w.at k)):bP P Post n Shun d g w:=by
 have key:∀(M:Nat)(gs:uax)(sl:ubb)(q:uas)(t:Trace)(c:Nat),sumTo gs.size q<=M->gs.size=n->gs[0]?=some g->Leavers P t gs q->mU Shun w.heap.size d n t->l9 P Post (crowd gs (w.at c) sl) t:=by
  intro M;induction M with
  |zero=>
   intro gs sl q t c r hn h0 a b;obtain⟨i,g1,k,sl',hi,hg,hst⟩:=crowd_pick (P:=P) (w:=w.at c) (sl:=sl) (FR a h0 hs) AA;rcases vbl i with rfl|m
   .obtain rfl:g1=g:=by grind
    obtain⟨v,es,f,l,j⟩:=h k;exact ZE AA hst a b h0 f l j
   .obtain⟨gs',o,ops,_,_,_,_,_,p⟩:=M6 (w:=w) (k:=k) (sl':=sl') hn a b h0 hs m hi hg;omega
  |succ M s=>
   intro gs sl q t c r hn h0 a b;obtain⟨i,g1,k,sl',hi,hg,hst⟩:=crowd_pick (P:=P) (w:=w.at c) (sl:=sl) (FR a h0 hs) AA;rcases vbl i with rfl|m
   .obtain rfl:g1=g:=by grind
    obtain⟨v,es,f,l,j⟩:=h k;exact ZE AA hst a b h0 f l j
   .obtain⟨gs',o,ops,f,l,j,y,x,u⟩:=M6 (w:=w) (k:=k) (sl':=sl') hn a b h0 hs m hi hg;exact l9.step (hst.trans f) AA
 intro gs sl q t hn h0 a b;exact key _ gs sl q t w.drawn JT hn h0 a b
end
section
open ConcM
section
variable{P:b4}{Shun:uam}{Stop:uav}{d:Nat}
def oi{g g1:uah}{w w1:aS}(hs:g.status=.running)(h:∀k,stepG P true g (w.at k)=.go g1 (w1.at k) es)(a:∀e∈es,oW Shun w1.heap.size e)(hsz:w.heap.size<=w1.heap.size)(b:eQ P Shun Stop (deafBehind d es) g1 w1):eQ P Shun Stop d g w:=
 eQ.mk hs λk=>⟨g1,w1.at k,es,h k,a,hsz,b.at k⟩
def dN{a b c:aS}(h:AtRel a b)(k:AtRel b c):AtRel a c:=atRel_trans a b c h k
def M7{m:Mark}(d:∀a,m≠ .release a/\m≠ .read a/\m≠ .write a)(wr b:Bool){B:Nat}:oW Shun B ⟨.mark m,wr,b⟩:=by
 have f:(MemAct.ofEvent ⟨.mark m,wr,b⟩)=.mark m:=by cases wr<;>cases b<;>rfl
 refine⟨λx c=>?_,λa e=>?_⟩
 .simp_all[MemAct.touch?]
 grind
def ZF{a:Addr}(hs:Shun (.cell a)){B:Nat}(e:a.block<B)(wr:Bool):oW Shun B ⟨.cell a,wr,true⟩:=by
 have f:(MemAct.ofEvent ⟨.cell a,wr,true⟩)=.access ⟨.cell a,wr,true⟩:=by cases wr<;>rfl
 refine⟨λx c=>?_,AA⟩;rw[f]at c;simp only[MemAct.touch?,vbi]at c;subst c;exact⟨AA,λb d=>by cases d;exact e⟩
def Jk{a:Addr}(hs:¬Shun (.cell a)){B:Nat}(e:a.block<B)(wr:Bool):oW Shun B ⟨.cell a,wr,false⟩:=by
 have f:(MemAct.ofEvent ⟨.cell a,wr,false⟩)=.access ⟨.cell a,wr,false⟩:=by cases wr<;>rfl
 refine⟨λx c=>?_,AA⟩;rw[f]at c;simp only[MemAct.touch?,vbi]at c;subst c;exact⟨AA,λb d=>by cases d;exact e⟩
theorem ZG{K mine:dh}{e:Event}{B:Nat}(h:xB K mine e)(hs:∀b,K b\/mine b->∀l,fg l=some b->¬Shun l)(n:∀b,K b\/mine b->b<B):oW Shun B e:=by
 obtain⟨loc,wr,g⟩:=e;cases loc with
 |cell a=>
  obtain⟨j,_,f⟩:=h;simp only at f;subst f;refine⟨λx d=>?_,λa e=>by cases wr<;>cases e⟩
  have c:x=⟨.cell a,wr,.plain⟩:=by grind[MemAct.ofEvent,MemAct.touch?]
  subst c;exact⟨λ_=>⟨λe=>absurd e (hs _ j _ Y),AA⟩,λb i=>by cases i;grind⟩
 |obj r=>
  obtain⟨j,_,f⟩:=h;simp only at f;subst f;refine⟨λx d=>?_,λa e=>by cases wr<;>cases e⟩
  have c:x=⟨.obj r,wr,.plain⟩:=by grind[MemAct.ofEvent,MemAct.touch?]
  subst c;exact⟨λ_=>⟨λe=>absurd e (hs _ j _ Y),AA⟩,λb i=>by cases i;grind⟩
 |output=>
  refine⟨λx d=>?_,λa e=>by cases wr<;>cases g<;>cases e⟩
  have c:x.loc=.output:=by grind[MemAct.ofEvent,MemAct.touch?]
  rw[c];exact⟨λe=>(by simp[Loc.isMemory]at e),λb e=>Cn⟩
 |goroutines=>exact h.elim
 |mark m=>
  have k:(MemAct.ofEvent ⟨.mark m,wr,g⟩)=.mark m:=by cases wr<;>cases g<;>rfl
  cases m<;>first|exact h.elim|exact⟨λx d=>(by rw[k]at d;cases d),AA⟩
structure Left(X Y:aV):Prop where
 sub:∀b,X.mine b->Y.mine b
 kept:∀b,b<X.w.heap.size->¬X.mine b->Y.w.heap[b]?=X.w.heap[b]?
 new:∀b,Y.mine b->X.mine b\/(X.w.heap.size<=b/\b<Y.w.heap.size)
 size:X.w.heap.size<=Y.w.heap.size
 os:OsLater X.w.os Y.w.os
 output:Y.w.output=X.w.output
 tape:Y.w.tape=X.w.tape
 run:X.g.status=.running->Y.g.status=.running
def SO{K:dh}{post:aV->Prop}{X:aV}(h:jD P true K post X):X.g.status=.running->(∀b,K b\/X.mine b->b<X.w.heap.size)->(∀b,K b\/X.mine b\/X.w.heap.size<=b->∀l,fg l=some b->¬Shun l)->
 (∀Y,post Y->Left X Y->eQ P Shun Stop d Y.g Y.w)->eQ P Shun Stop d X.g X.w:=by
 induction h with
 |@done X h=>exact λhs _ _ k=>k X h ⟨λ_ h=>h,λ_ _ _=>rfl,AA,vac _,.refl _,rfl,rfl,id⟩
 |@step X ok _ o=>
  intro hs u v k;refine eQ.mk hs λn=>?_;have hrel:j5 K X (X.w.at n):=⟨λ_ _=>rfl,vac _,.refl _⟩;obtain⟨g1,w1,es,hst,hg⟩:=ok (X.w.at n) hrel;have hsz:X.w.heap.size<=w1.heap.size:=hg.size;have p:∀b,grown X.mine (X.w.at n) w1 b->X.mine b\/(X.w.heap.size<=b/\b<w1.heap.size):=λb h=>h;have q:∀b,K b\/grown X.mine (X.w.at n) w1 b->∀l,fg l=some b->¬Shun l:=AA;have f:∀b,K b\/grown X.mine (X.w.at n) w1 b->b<w1.heap.size:=AA;have r:deafBehind d es=d:=by
   have:∀(l:ubi)(d:Nat),(∀e∈l,xB K (grown X.mine (X.w.at n) w1) e)->deafBehind d l.toArray=d:=by
    intro l;induction l with
    |nil=>intro d _;rfl
    |cons e l ihl=>
     intro d a;have i:deafBehind d (e::l).toArray=deafBehind (deafBehind d #[e]) l.toArray:=by simp[deafBehind]
     have g:deafBehind d #[e]=d:=by
      have c:=a e Ad;obtain⟨loc,wr,s⟩:=e;cases loc with
      |mark m=>cases m<;>first|exact c.elim|rfl
      | _=>rfl
     grind
   exact this es.toList d λe c=>hg.evs e AA
  refine⟨g1,w1,es,hst,λe c=>ZG (hg.evs e c) q f,hsz,?_⟩;rw[r];refine o (X.w.at n) g1 w1 es hrel hst hg.run f (λb t=>?_) (λY j a=>k Y j ?_)
  .grind
  .refine⟨λb h=>a.sub b (.inl h),λb i g=>(a.kept b AA λh=>?_).trans (hg.kept b i g),λb h=>?_,vad hsz a.size,(show OsLater X.w.os Y.w.os from by rw[<-show w1.os=X.w.os from hg.os];exact a.os),a.output.trans hg.output,a.tape.trans hg.tape,λ_=>a.run hg.run⟩
   .grind
   .rcases a.new b h with h|h
    .rcases p b h with h|h
     .grind
     .exact .inr ⟨h.1,vap h.2 a.size⟩
    grind
end
end
end cI
namespace lM
open ax
structure fi where
 T:Nat->Bool
 K:Nat->Bool
 V:Nat->Option Value
 sl:TypeId->Bool
 d:Nat
structure e6(D:fi)(a b:Frame):Prop where
 eq:b={a with tmps:=b.tmps}
 size:b.tmps.size=a.tmps.size
 same:∀i,D.T i=false->b.tmps[i]?=a.tmps[i]?
 gone:a.mode=.run->∀i v,D.T i=true->a.tmps[i]?=some v->v=undef
 kept:a.mode=.run->∀i,D.K i=true->b.tmps[i]?=D.V i
def Af(D:fi):Operand->Bool
 | .tmp t=> !D.T t
 | _=>true
def ZN(D:fi)(c:Call):Bool:=match c.callee with
 | .builtin .len=>match c.args.toList,c.argTypes.toList with
  | [.tmp t],[ty]=>D.T t&&D.sl ty
  | _,_=>false
 | _=>false
def ZO(D:fi)(o:Oper):Bool:=match o.op with
 | .load _ (.tmp t)=>D.T t
 | .indexAddr _ (.tmp t) _=>D.T t
 | .call c=>ZN D c
 | _=>false
def ZP(D:fi)(o:Oper):Bool:=match o.op,o.dst with
 | .move (.tmp t),some d=>D.T t&&D.T d
 | _,_=>false
def SQ(D:fi)(o:Oper):Bool:=match o.dst with
 |some d=> !D.T d
 |none=>true
def SR(D:fi)(o:Oper):Bool:=match o.dst with
 |some d=> !D.K d
 |none=>true
def ik(D:fi)(o:Oper):Bool:=o.op.operands.all (Af D)&& !(o.op matches .select ..)&&SQ D o
def M8(D:fi)(ops:eY)(o:Oper):Bool:=match o.guard with
 |some (g,_)=>match(ops[g]?).bind (·.dst)with
  |some t=> !D.T t
  |none=>true
 |none=>true
def sH(D:fi)(ops:eY)(o:Oper):Bool:=M8 D ops o&&SR D o&&(ik D o||ZP D o||ZO D o)
def oX(D:fi):Code->Bool
 | .region _ ops _=>ops.all (sH D ops)
 | .seq a b=>oX D a&&oX D b
 | .cond c a b=>Af D c&&oX D a&&oX D b
 | .block _ c| .loop c=>oX D c
 | .skip| .exit _ | .ret=>true
 | _=>false
def hN(D:fi):Item->Bool
 | .code c=>oX D c
 | .inBlock _=>true
 | .inLoop c=>oX D c
 | .inRegion ops l=>l.all λi=>match ops[i]? with
  |some o=>sH D ops o
  |none=>true
 | _=>false
def Cr(D:fi):ResultVar->Bool
 | .tmp t=> !D.T t
 | .cell t _=> !D.T t
structure mV(P:b4)(D:fi)(a:Frame):Prop where
 items:a.mode=.run->a.todo.all (hN D)=true
 round:a.roundOf=none
 FT:∃fn,P.funcs[a.fn]?=some fn/\fn.results.all (Cr D)=true
 sl:∀t,D.sl t=true->∃e,P.underlying t=some (.slice e)
 M9:P.inits.idxOf? a.fn=none
structure ZQ(P:b4)(D:fi)(a:Frame):Prop extends mV P D a where
 bd:a.mode=.run->∀ops i rest k,a.todo=.inRegion ops (i::rest)::k->∀o,ops[i]?=some o->∀d,o.dst=some d->D.T d=false
inductive mW(P:b4)(D:fi):List Frame->List Frame->Prop
 |here {a b:Frame} (h:e6 D a b) (v:ZQ P D a) (l:fV) (hl:l.length=D.d):mW P D (a::l) (b::l)
 |there (a:Frame) {l l':fV} (h:mW P D l l'):mW P D (a::l) (a::l')
inductive mA(P:b4)(D:fi):Goroutine->Goroutine->Prop
 |same (g:uah) (hl:g.callers.length<D.d):mA P D g g
 |gK {a b:Frame} (h:e6 D a b) (v:mV P D a) (cs:fV) (hl:cs.length=D.d) (s:GoStatus) (d:Option Dying):mA P D ⟨a,cs,s,d,none⟩ ⟨b,cs,s,d,none⟩
 |under (a:Frame) {cs a9:fV} (h:mW P D cs a9) (s:GoStatus) (d:Option Dying):mA P D ⟨a,cs,s,d,none⟩ ⟨a,a9,s,d,none⟩
def fa(P:b4)(D:fi)(s s':GStep):Prop:=∀g1 w1 es,s=.go g1 w1 es->g1.status=.running->g1.dying=none->∃Ag,s'=.go Ag w1 es/\mA P D g1 Ag
variable{g g':uah}{w:aS}{es:uao}{s:GStep}
section
variable{P:b4}{D:fi}{a b:Frame}
theorem fa.go(h:mA P D g g'):fa P D (.go g w es) (.go g' w es):=λg1 w1 a e _ _=>by grind
theorem fa.ended{o:Outcome}:fa P D (.ended o w es) s:=λ_ _ _ e=>by cases e
theorem fa.after{s':GStep}(es:uao)(h:fa P D s s'):fa P D (s.after es) (s'.after es):=λg1 w1 d e hs hd=>by
 cases s with
 |go g w c=>simp[GStep.after]at e;obtain⟨rfl,rfl,rfl⟩:=e;obtain⟨g',b,a⟩:=h g w c Y hs hd;exact⟨g',by rw[b];rfl,a⟩
 | _=>cases e
def fa.u9(h:g.status≠ .running\/g.dying≠none):fa P D (.go g w es) s:=λg1 w1 a e hs hd=>by grind
theorem e6.getD(h:e6 D a b){t:Nat}(ht:D.T t=false):b.tmps.getD t undef=a.tmps.getD t undef:=by have:=h.same t ht;simp_all
theorem e6.eval(h:e6 D a b){x:uar}(c:Af D x=true):b.eval x=a.eval x:=by
 cases x with
 |tmp t=>
  have ht:D.T t=false:=by grind[Af]
  simp only[Frame.eval];exact h.getD ht
 | _=>rfl
def e6.M_(h:e6 D a b)(d:a.mode=.run){t:Nat}(ht:D.T t=true):a.eval (.tmp t)=undef:=by simp[Frame.eval];cases c:a.tmps[t]? with|none=>rfl|some v=>rw[h.gone d t v ht c];rfl
theorem e6.todo(h:e6 D a b):b.todo=a.todo:=by rw[h.eq]
theorem e6.fn(h:e6 D a b):b.fn=a.fn:=by rw[h.eq]
theorem e6.mode(h:e6 D a b):b.mode=a.mode:=by rw[h.eq]
theorem e6.kind(h:e6 D a b):b.kind=a.kind:=by rw[h.eq]
theorem e6.defers(h:e6 D a b):b.defers=a.defers:=by rw[h.eq]
theorem e6.roundOf(h:e6 D a b):b.roundOf=a.roundOf:=by rw[h.eq]
def e6.aA(h:e6 D a b){a' c:Frame}(f:a'.tmps=a.tmps)(d:c.tmps=b.tmps)(e:c={a' with tmps:=c.tmps})(g:a'.mode=.run->a.mode=.run):e6 D a' c:=
 ⟨e,by rw[f,d];exact h.size,by rw[f,d];exact h.same,λx=>by rw[f];exact h.gone (g x),λx=>by rw[d];exact h.kept (g x)⟩
theorem e6.put(h:e6 D a b){a' c:Frame}{d:Nat}{v u:Value}(k:a'.tmps=a.tmps.setIfInBounds d v)(j:c.tmps=b.tmps.setIfInBounds d u)(e:c={a' with tmps:=c.tmps})(l:a'.mode=a.mode)(hs:D.T d=false->u=v)(hg:a.mode=.run->D.T d=true->v=undef)(hk:a.mode=.run->D.K d=false):e6 D a' c:=by
 refine⟨e,by rw[k,j];simpa using h.size,λi hi=>?_,λg i x hi f=>?_,λg i hi=>?_⟩
 .rw[k,j,vak,vak];by_cases hd:d=i
  .subst hd;simp[hs hi,h.size]
  .simp[hd];exact h.same i hi
 .rw[k,vak]at f;by_cases hd:d=i
  .grind
  .simp[hd]at f;exact h.gone (l▸g) i x hi f
 .rw[j,vak];by_cases hd:d=i
  .grind
  .simp[hd];exact h.kept (l▸g) i hi
def mV.aA{a':Frame}(h:mV P D a)(b:a'.fn=a.fn)(d:a'.roundOf=a.roundOf)(c:a'.mode=.run->a'.todo.all (hN D)=true):mV P D a':=⟨c,d.trans h.round,by rw[b];exact h.FT,h.sl,by rw[b];exact h.M9⟩
def Na(h:e6 D a b)(hi:mV P D a){v u:Value}(hn:a.mode≠ .run->u=v)(hd:a.mode=.run->∀ops i rest k,a.todo=.inRegion ops (i::rest)::k->∀o,ops[i]?=some o->∀d,o.dst=some d->(D.T d=false->u=v)/\(D.T d=true->v=undef)):e6 D (a.finish v) (b.finish u)/\mV P D (a.finish v):=by
 have g:=hi.items;obtain⟨fn,tmps,todo,defers,mode,kind,ro⟩:=a;obtain⟨p,A,n,t,j,y,q⟩:=b;have e:=h.eq;simp at e;obtain⟨rfl,rfl,rfl,rfl,rfl,rfl⟩:=e;have g:j=.run->n.all (hN D)=true:=g;have hn:j≠ .run->u=v:=hn;have hd:j=.run->∀ops i rest k,n=.inRegion ops (i::rest)::k->∀o,ops[i]?=some o->∀d,o.dst=some d->(D.T d=false->u=v)/\(D.T d=true->v=undef):=hd;cases n with
 |nil=>exact⟨h,hi⟩
 |cons x k=>
  simp only[vbj,vaf]at g;cases x with
  |code c=>exact⟨h,hi⟩
  |inBlock id=>exact⟨h,hi⟩
  |inLoop c=>exact⟨h,hi⟩
  |inScope c=>exact⟨h,hi⟩
  |inRangeFunc l=>exact⟨h.aA Y Y Y λx=>x,hi.aA Y Y λx=>(by cases(g x).1)⟩
  |endRangeFunc l=>exact⟨h,hi⟩
  |beginRound=>exact⟨h.aA Y Y Y λx=>x,hi.aA Y Y λx=>(by cases(g x).1)⟩
  |call d w r s=>
   by_cases f:j=.run
   .cases(g f).1
   .obtain rfl:=hn f;exact⟨h.aA Y Y Y λx=>x,hi.aA Y Y λx=>absurd x f⟩
  |extern r aA=>
   by_cases f:j=.run
   .cases(g f).1
   .obtain rfl:=hn f;exact⟨⟨Y,Y,λ_ _=>Y,λx=>absurd x f,λx=>absurd x f⟩,hi.aA Y Y λx=>absurd x f⟩
  |inRegion ops l=>
   cases l with
   |nil=>exact⟨h,hi⟩
   |cons i rest=>
    have hv:mV P D (Frame.finish ⟨p,tmps,.inRegion ops (i::rest)::k,t,j,y,q⟩ v):=hi.aA Y Y (λx=>by
     simp_all[hN,Frame.finish])
    refine⟨?_,hv⟩;cases m:ops[i]? with
    |none=>exact h.aA I3 I3 I3 λx=>x
    |some o=>
     cases z:o.dst with
     |none=>exact h.aA JR JR JR λx=>x
     |some d=>
      refine h.put (d:=d) (v:=v) (u:=u) ?_ ?_ ?_ Y (λht=>?_) AA (λf=>?_)
      .grind[Frame.finish]
      .grind[Frame.finish]
      .grind[Frame.finish]
      .grind
      simp_all[hN,sH,SR]
def ZR(h:e6 D a b)(hi:mV P D a)(vs:List PanicEntry):e6 D (a.raise vs) (b.raise vs)/\mV P D (a.raise vs):=by obtain⟨fn,tmps,todo,defers,mode,kind,ro⟩:=a;obtain⟨d,i,k,g,c,j,f⟩:=b;have e:=h.eq;simp at e;obtain⟨rfl,rfl,rfl,rfl,rfl,rfl⟩:=e;cases c<;>exact⟨h.aA Y Y Y (λx=>by cases x),hi.aA Y Y (λx=>by cases x)⟩
theorem SU:∀{l:fV}{fr:Frame}{p:Value×List Frame},tryRecover fr l=some p->p.2.length=l.length
 | [],fr,p,e=>by obtain⟨g,h,f,d,c,b,i⟩:=fr;cases b<;>cases e
 |x::l,fr,p,e=>by
  cases a:fr.kind with
  |deferred=>
   simp[tryRecover,a]at e;split at e
   .cases e;rfl
   .cases e
  |wrapped=>simp only[tryRecover,a]at e;cases hq:tryRecover x l with|none=>rw[hq]at e;cases e|some q=>rw[hq]at e;cases e;simp[SU hq]
  | _=>obtain⟨g,h,f,d,c,b,i⟩:=fr;have a:b=_:=a;subst a;cases e
def anZ:∀{cs a9:fV},mW P D cs a9->∀(fr:Frame),(tryRecover fr cs=none->tryRecover fr a9=none)/\∀v c1,tryRecover fr cs=some (v,c1)->∃q,tryRecover fr a9=some (v,q)/\mW P D c1 q:=by
 intro cs a9 h;induction h with
 |@here a b h v l o=>
  intro fr;have H:=h.mode;have hk:=h.kind;obtain⟨fn,tmps,todo,defers,mode,kind,ro⟩:=a;obtain⟨i,E,m,k,f,d,j⟩:=b;have e:=h.eq;simp at e;obtain⟨rfl,rfl,rfl,rfl,rfl,rfl⟩:=e;cases c:fr.kind with
  |deferred=>
   simp[tryRecover,c];split
   .refine⟨AA,λv1 c1 e=>?_⟩;simp at e;obtain⟨rfl,rfl⟩:=e;refine⟨_,Y,mW.here ?_ ?_ l o⟩
    .exact h.aA Y Y Y AA
    .exact⟨v.tomV.aA Y Y AA,AA⟩
   .exact⟨λ_=>Y,AA⟩
  |wrapped=>
   simp only[tryRecover,c];have y:∀l,tryRecover ⟨i,E,m,k,f,d,j⟩ l=tryRecover ⟨i,tmps,m,k,f,d,j⟩ l:=by intro l;cases l<;>cases d<;>rfl
   rw[y];cases hq:tryRecover ⟨i,tmps,m,k,f,d,j⟩ l with|none=>exact⟨λ_=>Y,AA⟩|some p=>refine⟨AA,λv1 c1 e=>?_⟩;simp at e;obtain⟨rfl,rfl⟩:=e;exact⟨_,Y,.here h v _ ((SU hq).trans o)⟩
  | _=>obtain⟨A,B,t,s,r,g,C⟩:=fr;have c:g=_:=c;subst c;exact⟨λ_=>Y,λv1 c1 e=>Cn⟩
 |@there a l F h u=>
  intro fr;cases c:fr.kind with
  |deferred=>
   simp[tryRecover,c];split
   .refine⟨AA,λv1 c1 e=>?_⟩;simp at e;obtain⟨rfl,rfl⟩:=e;exact⟨_,Y,.there _ h⟩
   .exact⟨λ_=>Y,AA⟩
  |wrapped=>simp only[tryRecover,c];obtain⟨x,w⟩:=u a;cases n:tryRecover a l with|none=>rw[x n];exact⟨λ_=>Y,AA⟩|some p=>obtain⟨v0,di⟩:=p;obtain⟨I,z,h0⟩:=w v0 di n;refine⟨AA,λv1 c1 e=>?_⟩;simp at e;obtain⟨rfl,rfl⟩:=e;rw[z];exact⟨_,Y,.there _ h0⟩
  | _=>obtain⟨A,B,t,s,r,g,C⟩:=fr;have c:g=_:=c;subst c;exact⟨λ_=>Y,λv1 c1 e=>Cn⟩
end
inductive gX(P:b4)(D:fi):Frame->List Frame->Frame->List Frame->Prop
 |gK {a b:Frame} {cs:fV} (h:e6 D a b) (v:ZQ P D a) (hl:cs.length=D.d):gX P D a cs b cs
 |under (a:Frame) {cs a9:fV} (h:mW P D cs a9):gX P D a cs a a9
variable{aI ao:Type}
section
variable{P:b4}{D:fi}{a b:Frame}{cs a9:fV}
theorem fa.A8{o:Outcome}{es':uao}:fa P D (GStep.after es (.ended o w es')) s:=λ_ _ _ e=>by cases e
def fa.ite{c:Prop}[Decidable c]{A B a b:GStep}(e:c->fa P D A a)(d:¬c->fa P D B b):fa P D (if c then A else B) (if c then a else b):=by grind
theorem gX.todo(h:gX P D a cs b a9):b.todo=a.todo:=by cases h with|gK h v c=>exact h.todo|under=>rfl
theorem gX.fn(h:gX P D a cs b a9):b.fn=a.fn:=by cases h with|gK h v c=>exact h.fn|under=>rfl
theorem gX.kind(h:gX P D a cs b a9):b.kind=a.kind:=by cases h with|gK h v c=>exact h.kind|under=>rfl
def gX.round(h:gX P D a cs b a9):b.roundOf=a.roundOf:=by cases h with|gK h v c=>exact h.roundOf|under=>rfl
theorem gX.mode(h:gX P D a cs b a9):b.mode=a.mode:=by cases h with|gK h v c=>exact h.mode|under=>rfl
theorem gX.defers(h:gX P D a cs b a9):b.defers=a.defers:=by cases h with|gK h v c=>exact h.defers|under=>rfl
def gX.x_(h:gX P D a cs b a9)(s:GoStatus)(d:Option Dying):mA P D ⟨a,cs,s,d,none⟩ ⟨b,a9,s,d,none⟩:=by cases h with|gK h v c=>exact .gK h v.tomV _ c _ _|under h=>exact .under _ h _ _
def gX.push(h:gX P D a cs b a9):mW P D (a::cs) (b::a9):=by cases h with|gK h v c=>exact .here h v _ c|under h=>exact .there _ h
def gX.dK(h:gX P D a cs b a9)(x:Value)(s:GoStatus)(d:Option Dying):mA P D ⟨a.finish x,cs,s,d,none⟩ ⟨b.finish x,a9,s,d,none⟩:=by
 cases h with
 |gK h v g=>obtain⟨l,j⟩:=Na (v:=x) (u:=x) h v.tomV AA (λf ops i rest k e o c d hd=>⟨λ_=>Y,λht=>by rw[v.bd f ops i rest k e o c d hd]at ht;cases ht⟩);exact .gK l j _ g _ _
 |under h=>exact .under _ h _ _
theorem gX.raise(h:gX P D a cs b a9)(vs:List PanicEntry)(s:GoStatus)(d:Option Dying):mA P D ⟨a.raise vs,cs,s,d,none⟩ ⟨b.raise vs,a9,s,d,none⟩:=by
 cases h with
 |gK h v c=>obtain⟨f,e⟩:=ZR h v.tomV vs;exact .gK f e _ c _ _
 |under h=>exact .under _ h _ _
def gX.Bh(h:gX P D a cs b a9)(ds:List Deferred):gX P D {a with defers:=ds} cs {b with defers:=ds} a9:=by
 cases h with
 |gK h v c=>
  refine gX.gK ?_ ?_ c
  .refine h.aA Y Y ?_ λx=>x;rw[h.eq]
  .exact⟨v.tomV.aA Y Y v.items,v.bd⟩
 |under h=>exact .under _ h
def mW.data(h:mW P D cs a9):a9.map Frame.asData=cs.map Frame.asData:=by
 induction h with
 |@here a b h v l d=>
  have:b.asData=a.asData:=by rw[h.eq];rfl
  grind
 |there a h c=>grind
theorem mW.enter(h:mW P D cs a9)(l:fV):mW P D (l++cs) (l++a9):=by induction l with|nil=>exact h|cons x l a=>exact .there x a
def gX.recover(h:gX P D a cs b a9):(tryRecover a cs=none->tryRecover b a9=none)/\∀v c1,tryRecover a cs=some (v,c1)->∃d,tryRecover b a9=some (v,d)/\gX P D a c1 b d:=by
 cases h with
 |gK h v f=>
  have e:tryRecover b cs=tryRecover a cs:=by rw[h.eq];obtain⟨fn,tmps,todo,defers,mode,kind,ro⟩:=a;cases cs<;>cases kind<;>rfl
  rw[e];exact⟨id,λv1 c1 e=>⟨c1,e,.gK h v ((SU e).trans f)⟩⟩
 |under h=>obtain⟨k,j⟩:=anZ h a;exact⟨k,λv1 c1 e=>(j v1 c1 e).imp λc⟨i,g⟩=>⟨i,.under _ g⟩⟩
def an0(h:gX P D a cs b a9)(g:Nat)(w:aS):fa P D (early P a cs none g w) (early P b a9 none g w):=by
 have notYet:∀w:aS,fa P D (match w.heap[g]? with|some (.pending c elem)=>.go {frame:=a,callers:=cs,status:=.running,dying:=none} {w with heap:=w.heap.setIfInBounds g (.cells c elem)}| _=>.ended (.stuck "early: the variable does not wait" (a.pos P)) w)
  (match w.heap[g]? with|some (.pending c elem)=>.go {frame:=b,callers:=a9,status:=.running,dying:=none} {w with heap:=w.heap.setIfInBounds g (.cells c elem)}| _=>.ended (.stuck "early: the variable does not wait" (b.pos P)) w):=by
  intro w;split
  .exact .go (h.x_ _ _)
  .exact .ended
 have there:∀(f:uaj)(w:aS)(l:fV),fa P D (.go {frame:=Frame.enter P f #[] .early,callers:=l++a::cs,status:=.running,dying:=none} w) (.go {frame:=Frame.enter P f #[] .early,callers:=l++b::a9,status:=.running,dying:=none} w):=λf w l=>.go (.under _ (h.push.enter l) _ _);unfold early;simp only[h.kind];split
 .grind
 split
 .exact .ended
 split
 .grind
 split
 .grind
 split
 .exact .ended
 .grind
 .exact .ended
 .grind
 split
 .grind
 split
 .grind
 split
 .grind
 .grind
 .exact .ended
def ZT{m:String}:fa P D (endFatal P a cs none m w) s:=by unfold endFatal;intro g1 w1 es e hs hd;grind[dieOf]
theorem Ct(hF:P.follows .rangeFuncRecover=true)(x:a.mode=.run)(h:gX P D a cs b a9)(s:Sem Next)(w:aS):fa P D (stepG.apply P true a cs none s w) (stepG.apply P true b a9 none s w):=by
 have ht:=h.todo;have c:∀r aA k,a.todo=.extern r aA::k->∃cs0 o,cs=cs0/\a9=o/\a=b/\mW P D cs a9:=by intro r aA k e;cases h with|gK h v j=>have:=v.items x;grind[hN]|under h=>grind
 unfold stepG.apply;rw[ht,h.fn,h.kind];simp only[vdh];rcases hr:s.runT P w #[]with⟨r,es⟩;simp only[];refine fa.after _ ?_;cases r with
 |ok n w1=>
  cases n with
  |value v=>exact .go (h.dK _ _ _)
  |skip=>exact .go (h.dK _ _ _)
  |enter f args=>exact .go (.under _ h.push _ _)
  |callThen d resume saved wrapper=>
   simp only[];split
   .rename_i e;obtain⟨_,_,_,_,rfl,hc⟩:=c _ _ _ e;exact .go (.under _ hc _ _)
   .exact .go (.under _ h.push _ _)
  |row row args=>
   simp only[];split
   .rename_i e;obtain⟨_,_,_,_,rfl,hc⟩:=c _ _ _ e;exact .go (.under _ hc _ _)
   .exact .go (.under _ h.push _ _)
  |stack resume saved=>
   have i:(b::a9).toArray.map Frame.asData=(a::cs).toArray.map Frame.asData:=by have:=h.push.data;grind
   simp only[i];split
   .rename_i e;obtain⟨_,_,_,_,rfl,hc⟩:=c _ _ _ e;exact .go (.under _ hc _ _)
   .exact .go (.under _ h.push _ _)
  |round l f tmps assign body=>exact .go (.under _ h.push _ _)
  |recover=>
   obtain⟨z,y⟩:=h.recover;simp[h.round,hF];have key:fa P D (match tryRecover a cs with
    |some (v,callers)=>.go {frame:=a.finish v,callers,status:=.running,dying:=none} w1
    |none=>.go {frame:=a.finish .nilIface,callers:=cs,status:=.running,dying:=none} w1)
    (match tryRecover b a9 with
    |some (v,callers)=>.go {frame:=b.finish v,callers,status:=.running,dying:=none} w1
    |none=>.go {frame:=b.finish .nilIface,callers:=a9,status:=.running,dying:=none} w1):=by
    cases c:tryRecover a cs with|none=>rw[z c];exact .go (h.dK _ _ _)|some p=>obtain⟨v0,di⟩:=p;obtain⟨B,A,h0⟩:=y v0 di c;rw[A];exact .go (h0.dK _ _ _)
   grind
  |sleep t=>exact .u9 AA
  |spawn d=>
   simp only[];split<;>split
   all_goals first|exact λg1 w1 es e hs hd=>(by grind[endThrow,dieOf])|exact λ_ _ _ e _ _=>Cn
  | _=>
   first
    |rename_i d
     have q:=(h.Bh (d::a.defers)).dK undef .running none;rw[ht,h.fn,h.kind]at q;simp[h.defers];exact .go q
    |intro g1 w1 es e
     cases e
 |halt j w1=>
  cases j with
  |panic v=>exact .go (h.raise _ _ _)
  |goexit=>exact .go (h.raise _ _ _)
  |blocked=>exact .u9 AA
  |waiting=>exact .u9 AA
  |fatal m=>exact ZT
  |throw m=>exact .u9 AA
  |unsupported u=>cases u with
   |initOrder g=>exact an0 h g w1
   | _=>exact .ended
  | _=>exact .ended
theorem e6.wanted(h:e6 D a b){ops:eY}{o:Oper}(hg:M8 D ops o=true):Region.wanted o (yielded ops b.tmps)=Region.wanted o (yielded ops a.tmps):=by
 unfold Region.wanted;cases e:o.guard with
 |none=>rfl
 |some iH=>
  obtain⟨g,want⟩:=iH;have d:yielded ops b.tmps g=yielded ops a.tmps g:=by
   unfold yielded;cases ht:(ops[g]?).bind (·.dst)with
   |none=>rfl
   |some t=>
    have c:D.T t=false:=by grind[M8]
    simp[h.same t c]
  grind
theorem SV{p:Item->Bool}{id:Nat}:∀{k k':il},exitTo id k=some k'->k.all p=true->k'.all p=true
 | [],_,e,_=>Cn
 |x::k,k',e,h=>by
  simp only[vbj,vaf]at h;cases x with
  |inBlock a=>
   simp only[exitTo]at e;split at e
   .cases e;exact h.2
   .exact SV e h.2
  | _=>simp only[exitTo]at e;exact SV e h.2
inductive pP{ao:Type}:Result ao->Prop
 |stuck {m:String} {w:aS}:pP (.halt (.stuck m) w)
 |unsupported (u:Unsupported) {w:aS} (h:∀g,u≠ .initOrder g):pP (.halt (.unsupported u) w)
theorem pP.bind{m:Sem ao}{k:ao->Sem aI}(h:pP (m.run P w)):pP ((m>>= k).run P w):=by rw[mH];generalize m.run P w=r at h;cases h with|stuck=>exact .stuck|unsupported u a=>exact .unsupported u a
def pP.next{m:Sem ao}{k:ao->Sem aI}(h:pP (m.run P w)\/∃a,m.run P w=.ok a w/\pP ((k a).run P w)):pP ((m>>= k).run P w):=by
 rcases h with h|⟨a,e,h⟩
 .exact h.bind
 simp_all
def an2(t:g4)(i:Value)(w:aS):pP ((do pure (Next.value (<-Instr.indexAt t undef i)):Sem Next).run P w):=by
 refine pP.bind ?_;unfold Instr.indexAt;refine pP.next ?_;cases i with
 |int k n=>refine .inr ⟨(k,n),Y,?_⟩;refine pP.next ?_;cases b:P.underlying t with|none=>exact .inl (by simp only[underlying,Go.program,Bind.bind,Sem.bind,Sem.run,b];exact .stuck)|some d=>refine .inr ⟨d,by simp_all[underlying,Go.program,Sem.run],?_⟩;cases d<;>exact pP.bind .stuck
 |pointer p=>cases p with
  |none=>exact .inl .stuck
  |some a=>exact .inl (.unsupported _ AA)
 | _=>exact .inl .stuck
def an3{ev:uak}{t:Nat}{c:Call}{at_ ty e:g4}(hc:c.callee=.builtin .len)(b:c.args=#[.tmp t])(a:c.argTypes=#[at_])(h:ev (.tmp t)=undef)(g:P.underlying at_=some (.slice e))(w:aS):pP ((do let d <-resolve ev c ty;invoke d.target d.args:Sem Next).run P w):=by
 have f:(Go.underlying at_).run P w=.ok (.slice e) w:=by simp_all[underlying,Go.program,Sem.run]
 simp[resolve,invoke,builtin,Builtin.len_,go_sem,hc,b,a,h,f,undef];constructor
theorem an4(hF:P.follows .rangeFuncRecover=true)(g:a.mode=.run)(h:e6 D a b)(hv:mV P D a){ops:eY}{i:Nat}{rest:uaa}{k:il}(ht:a.todo=.inRegion ops (i::rest)::k){o:Oper}(s:ops[i]?=some o)(A:sH D ops o=true)(cs:fV)(z:cs.length=D.d)(w:aS):fa P D (stepG.oper P true a cs none w) (stepG.oper P true b cs none w):=by
 have K:a.oper?=some o:=FL;have ob:b.oper?=some o:=by simp[Frame.oper?,h.todo,ht,s]
 have B:=hv.round;have N:b.roundOf=none:=h.roundOf.trans B;unfold stepG.oper;simp[K,ob,B,N];simp[sH]at A;rcases A.2 with(p|j)|hs
 .simp only[ik,vaf,Bool.not_eq_true']at p;have hd:∀d,o.dst=some d->D.T d=false:=λd e=>by grind[SQ]
  have M:∀c E,o.op≠ .select c E:=AA;have J:execOp b.eval o=execOp a.eval o:=execOp_congr o M λx I=>h.eval (vam.1 p.1.1 x I);rw[J];refine Ct hF g (.gK h ⟨hv,λ_ ops' H rest' k' e o' m d l=>?_⟩ z) _ _;grind
 .unfold ZP at j;split at j
  .rename_i t d f L;simp at j;have q:=Na (v:=a.eval (.tmp t)) (u:=b.eval (.tmp t)) h hv AA (λ_ ops' H rest' k' e o' m S l=>by
    rw[ht]at e;cases e;rw[s]at m;cases m;rw[L]at l;cases l;exact⟨AA,λ_=>h.M_ g j.1⟩)
   have C:execOp a.eval o=pure (.value (a.eval (.tmp t))):=by grind[execOp]
   have O:execOp b.eval o=pure (.value (b.eval (.tmp t))):=by grind[execOp]
   rw[C,O];simp only[stepG.apply,vdh,Sem.runT,pure,h.fn,h.kind];exact .after _ (.go (.gK q.1 q.2 _ z _ _))
  grind
 .have hst:∀w,pP ((execOp a.eval o).run P w):=by
   unfold ZO at hs;split at hs
   .rename_i t x f;intro w;simp only[execOp,f,h.M_ g hs];exact .stuck
   .rename_i t x y f;intro w;simp only[execOp,f,h.M_ g hs];exact an2 _ _ _
   .rename_i c f;intro w;simp only[execOp,f];unfold ZN at hs;split at hs
    .rename_i hc;split at hs
     .rename_i t ty R Q;simp at hs;obtain⟨e,n⟩:=hv.sl _ hs.2;exact an3 hc AA AA (h.M_ g hs.1) n w
     grind
    grind
   grind
  have:=hst w;simp only[stepG.apply,vdh];rcases hr:(execOp a.eval o).runT P w #[]with⟨r,es⟩;have F:(execOp a.eval o).run P w=r:=by simp_all
  rw[F]at this;cases this with|stuck=>exact fa.A8|unsupported u n=>grind[fa.A8]
def e6.xz(h:e6 D a b)(k:il):e6 D {a with todo:=k} {b with todo:=k}:=h.aA Y Y (by rw[h.eq]) λx=>x
def e6.uh(h:e6 D a b){m:FrameMode}(c:m≠ .run):e6 D {a with mode:=m} {b with mode:=m}:=h.aA Y Y (by rw[h.eq]) AA
def mV.uh(h:mV P D a){m:FrameMode}(b:m≠ .run):mV P D {a with mode:=m}:=h.aA Y Y AA
def mV.xz(h:mV P D a){k:il}(hk:k.all (hN D)=true):mV P D {a with todo:=k}:=h.aA Y Y λ_=>hk
theorem an5(hF:P.follows .rangeFuncRecover=true)(main:Bool)(y:a.mode=.run)(h:e6 D a b)(hv:mV P D a)(cs:fV)(f:cs.length=D.d)(w:aS):fa P D (stepG.exec P main true a cs none w) (stepG.exec P main true b cs none w):=by
 have j:=hv.items y;have g:∀k:List Item,k.all (hN D)=true->fa P D (.go {frame:={a with todo:=k},callers:=cs,status:=.running,dying:=none} w) (.go {frame:={b with todo:=k},callers:=cs,status:=.running,dying:=none} w):=λk hk=>.go (.gK (h.xz k) (hv.xz hk) _ f _ _);have z:fa P D (.go {frame:={a with mode:=.returning},callers:=cs,status:=.running,dying:=none} w) (.go {frame:={b with mode:=.returning},callers:=cs,status:=.running,dying:=none} w):=.go (.gK (h.uh Ad) (hv.uh Ad) _ f _ _);have ht:=h.todo;have s:=hv.round;have A:b.roundOf=none:=h.roundOf.trans s;unfold stepG.exec;rw[ht];rw[ht]at z;cases hk:a.todo with
 |nil=>grind
 |cons x k=>
  rw[hk]at j;simp only[vbj,vaf]at j;obtain⟨d,m⟩:=j;cases x with
  |code c=>
   have d:oX D c=true:=d;cases c with
   |ret=>grind
   |skip=>grind
   |seq c1 bH=>simp_all[oX,hN]
   |cond c t e=>
    simp[oX]at d;simp[h.eval d.1.1];split
    .rename_i C _;refine g _ ?_;simp only[vbj,hN,vaf];grind
    .exact .ended
   |block id c=>exact g _ (by simp only[vbj,hN,vaf];exact⟨d,PJ,m⟩)
   |loop c=>exact g _ (by simp only[vbj,hN,vaf];exact⟨d,d,m⟩)
   |exit id=>simp only[];cases E:exitTo id k with|none=>simp only[Option.elim,s,A];exact .ended|some k'=>grind[SV]
   |region id ops draw=>
    have B:∀l:List Nat,(Item.inRegion ops l::k).all (hN D)=true:=λl=>by rw[vbj,vaf];refine⟨?_,m⟩;simp[hN];intro i _;cases r:ops[i]? with|none=>rfl|some o=>exact vam.1 d o (vbf r)
    cases draw with
    |false=>grind
    |true=>
     simp only[h.fn,vef,vah,vee];split
     .rename_i t _ _;have q:mA P D ⟨{a with todo:=_},cs,.running,none,none⟩ ⟨{b with todo:=_},cs,.running,none,none⟩:=.gK (h.xz _) (hv.xz (B (Region.schedule (P.follows .mixedOrders) ops t))) cs f .running none;rw[h.fn]at q;exact .go q
     .exact .ended
   | _=>cases d
  |inBlock id=>grind
  |inLoop c=>simp_all[hN]
  |inRegion ops l=>
   cases l with
   |nil=>grind
   |cons i rest=>
    simp only[hN,vbj,vaf]at d;simp only[];cases r:ops[i]? with
    |none=>simp;obtain⟨n,p⟩:=Na (v:=undef) (u:=undef) h hv AA AA;exact .go (.gK n p _ f _ _)
    |some o=>
     have F:sH D ops o=true:=AA;have hg:M8 D ops o=true:=by simp_all[sH]
     simp[h.wanted hg];split
     .grind[an4]
     .obtain⟨n,p⟩:=Na (v:=undef) (u:=undef) h hv AA AA;exact .go (.gK n p _ f _ _)
  | _=>cases d
theorem FW(hc:mW P D cs a9)(main:Bool)(fr:Frame)(v:Value)(w:aS):fa P D (doReturn P main fr cs none v w) (doReturn P main fr a9 none v w):=by
 cases hc with
 |there x h=>
  simp[doReturn];split
  .exact .go (.under _ h _ _)
  .exact .go (.under _ h _ _)
  .exact .go (.under _ h _ _)
  .exact .go (.under _ h _ _)
 |@here x y h hv l a=>
  have b:=h.mode;simp[doReturn];have dK:fa P D (.go {frame:=x.finish v,callers:=l,status:=.running,dying:=none} w) (.go {frame:=y.finish v,callers:=l,status:=.running,dying:=none} w):=.go ((gX.gK h hv a).dK v _ _);split
  .grind
  .grind
  .exact .go (.gK h hv.tomV _ a _ _)
  .rw[b];split
   .split
    .exact .go (.gK (h.uh Ad) (hv.tomV.uh Ad) _ a _ _)
    .exact .go (.gK (h.uh Ad) (hv.tomV.uh Ad) _ a _ _)
   .exact .go (.gK h hv.tomV _ a _ _)
def ZU(h:gX P D a cs b a9)(d:Deferred)(w:aS):fa P D (callDeferred P a cs none d w) (callDeferred P b a9 none d w):=by
 have x_:=h.x_ .running none;unfold callDeferred;rw[h.mode,h.fn];refine fa.ite (λ_=>.ended) (λ_=>?_);rcases hr:(invoke d.target d.args).runT P w #[]with⟨r,es⟩;simp only[];refine fa.after _ ?_;cases r with
 |ok n w1=>
  cases n with
  |enter f args=>exact .go (.under _ h.push _ _)
  |round l f tmps assign body=>exact .go (.under _ h.push _ _)
  |callThen d resume saved wrapper=>exact .go (.under _ h.push _ _)
  |row row args=>exact .go (.under _ h.push _ _)
  |recover=>
   obtain⟨k,j⟩:=h.recover;simp only[];cases g:tryRecover a cs with
   |none=>rw[k g];cases a.mode<;>exact .go x_
   |some p=>
    obtain⟨v0,di⟩:=p;obtain⟨q,o,h0⟩:=j v0 di g;rw[o];cases a.mode
    .exact .go x_
    .exact .go (h0.x_ _ _)
    .exact .go x_
  |sleep t=>exact .u9 AA
  |alone on v=>cases on<;>exact λ_ _ _ e=>Cn
  |timer op=>exact .ended
  |collect=>exact λ_ _ _ e=>Cn
  |watch v=>exact λ_ _ _ e=>Cn
  |coroswitch c ex=>cases ex<;>exact λ_ _ _ e=>Cn
  |newcoro c d=>exact .ended
  |stack r s=>exact .ended
  | _=>exact .go x_
 |halt i w1=>cases i with|panic v=>exact .go (h.raise _ _ _)|goexit=>exact .go (h.raise _ _ _)|blocked=>exact .u9 AA|waiting=>exact .u9 AA|fatal m=>exact ZT|throw m=>exact .u9 AA| _=>exact .ended
theorem ZV{f g:ao->Sem aI}:∀{l:List ao},(∀x∈l,f x=g x)->l.mapM f=l.mapM g
 | [],_=>rfl
 |x::l,h=>by rw[List.mapM_cons,List.mapM_cons,h x Ad,ZV λy a=>h y (by simp[a])]
def an6(h:e6 D a b){fn:Func}(c:fn.results.all (Cr D)=true):results fn b.tmps=results fn a.tmps:=by
 unfold results;congr 1
 rw[vck,vck];congr 1
 refine ZV λr e=>?_;have d:=vam.1 c r AA;cases r with|tmp t=>simp[h.getD (show D.T t=false by grind[Cr])]|cell x t=>simp[h.getD (show D.T x=false by grind[Cr])]
theorem an7(main:Bool)(l:a.mode≠ .run)(h:e6 D a b)(hv:mV P D a)(cs:fV)(e:cs.length=D.d)(w:aS):fa P D (unwind P main a cs none w) (unwind P main b cs none w):=by
 have g:gX P D a cs b cs:=.gK h ⟨hv,AA⟩ e;unfold unwind;rw[h.defers];cases hd:a.defers with
 |nil=>
  simp only[h.mode];split
  .grind
  .rename_i chain _;have hc:b.catches P=a.catches P:=by rw[h.eq];rfl
   rw[hc];split
   .exact .ended
   cases cs with
   |cons c rest=>exact .go (.same _ AA)
   |nil=>
    simp only[];split
    .exact .u9 AA
    split
    .exact .u9 AA
    .exact .ended
    .exact .ended
  .obtain⟨fn,k,j⟩:=hv.FT;simp only[h.fn,k,an6 h j];rcases(results fn a.tmps).runT P w #[]with⟨r,es⟩;simp only[];refine fa.after _ ?_;cases r with
   |ok v w1=>
    simp only[doReturn,h.kind,h.fn];cases cs with
    |cons c rest=>simp only[];cases a.kind<;>exact .go (.same _ AA)
    |nil=>
     simp only[];split
     .grind
     .exact .ended
     .rw[hv.M9];split
      .exact .u9 AA
      .exact .ended
   |halt e w1=>cases e<;>exact .ended
 |cons d ds=>
  obtain⟨f,args⟩:=d;have hc:=ZU (g.Bh ds) ⟨f,args⟩ w;cases f with
  |collected i=>simp only[h.fn];rcases(Instr.takeDeferred i).runT P w #[]with⟨r,es⟩;simp only[];refine fa.after _ ?_;cases r with|ok calls w1=>have q:=(g.Bh (calls++ds)).x_ .running none;rw[h.fn]at q;exact .go q|halt e w1=>exact .ended
  | _=>exact hc
theorem an8(main:Bool)(hc:mW P D cs a9)(w:aS):fa P D (unwind P main a cs none w) (unwind P main a a9 none w):=by
 have f:gX P D a cs a a9:=.under a hc;unfold unwind;cases hd:a.defers with
 |nil=>
  simp only[];split
  .exact .ended
  .rename_i chain _;split
   .exact .ended
   cases hc with
   |@here x y h hv l b=>obtain⟨i,g⟩:=ZR h hv.tomV chain;exact .go (.gK i g _ b _ _)
   |there x h=>exact .go (.under _ h _ _)
  .cases P.funcs[a.fn]? with|none=>grind[FW]|some fn=>simp only[];rcases(results fn a.tmps).runT P w #[]with⟨r,es⟩;simp only[];refine fa.after _ ?_;cases r with|ok v w1=>grind[FW]|halt b w1=>cases b<;>exact .ended
 |cons d ds=>
  obtain⟨c,args⟩:=d;have j:=ZU (f.Bh ds) ⟨c,args⟩ w;cases c with
  |collected e=>simp only[];rcases(Instr.takeDeferred e).runT P w #[]with⟨r,es⟩;simp only[];refine fa.after _ ?_;cases r with|ok calls w1=>exact .go (.under _ hc _ _)|halt b w1=>exact .ended
  | _=>grind
theorem an9(hF:P.follows .rangeFuncRecover=true)(main:Bool)(hc:mW P D cs a9)(m:a.mode=.run)(w:aS):fa P D (stepG.exec P main true a cs none w) (stepG.exec P main true a a9 none w):=by
 have p:gX P D a cs a a9:=.under a hc;have go:∀(fr:Frame)(w:aS)(es:uao),fa P D (.go {frame:=fr,callers:=cs,status:=.running,dying:=none} w es) (.go {frame:=fr,callers:=a9,status:=.running,dying:=none} w es):=λfr w es=>.go (.under _ hc _ _);unfold stepG.exec;cases hk:a.todo with
 |nil=>cases h:a.roundOf with|none=>grind|some b=>simp only[];rcases(Instr.endRound b (none)).runT P w #[]with⟨r,es⟩;simp only[];refine fa.after _ ?_;cases r with|ok v w1=>grind[FW]|halt g w1=>exact .ended
 |cons x k=>
  cases x with
  |code c=>
   cases c with
   |ret=>cases h:a.roundOf with|none=>grind|some b=>simp only[];rcases(Instr.endRound b (some .ret)).runT P w #[]with⟨r,es⟩;simp only[];refine fa.after _ ?_;cases r with|ok v w1=>grind[FW]|halt g w1=>exact .ended
   |cond c t e=>
    simp only[];split
    .grind
    .exact .ended
   |exit id=>
    simp only[];cases n:exitTo id k with
    |none=>
     cases h:a.roundOf with
     |none=>simp only[Option.elim];first|exact go _ _ _ |exact .ended
     |some b=>simp only[Option.elim];rcases(Instr.endRound b (some (.exit id))).runT P w #[]with⟨r,es⟩;simp only[];refine fa.after _ ?_;cases r with|ok v w1=>grind[FW]|halt g w1=>exact .ended
    |some k'=>grind
   |goto l=>
    simp only[];cases n:gotoIn l k with
    |none=>
     cases h:a.roundOf with
     |none=>simp only[Option.elim];first|exact go _ _ _ |exact .ended
     |some b=>simp only[Option.elim];rcases(Instr.endRound b (some (.goto l))).runT P w #[]with⟨r,es⟩;simp only[];refine fa.after _ ?_;cases r with|ok v w1=>grind[FW]|halt g w1=>exact .ended
    |some k'=>grind
   |rangeFunc f params assign body=>
    simp only[];rcases(Instr.enterLoop a.fn a.tmps params assign body a.roundOf).runT P w #[]with⟨r,es⟩;simp only[];refine fa.after _ ?_;cases r with
    |ok lm w1=>obtain⟨l,mk⟩:=lm;exact Ct hF (by exact m) (gX.under _ hc) _ _
    |halt g w1=>exact .ended
   |refuse o=>exact .ended
   |region id ops draw=>
    cases draw with
    |false=>grind
    |true=>
     simp only[vef,vah,vee];split
     .grind
     .exact .ended
   | _=>grind
  |inRegion ops l=>
   cases l with
   |nil=>grind
   |cons i rest=>
    simp only[];split
    .unfold stepG.oper;split
     .exact .ended
     .split
      .grind[Ct]
      grind[Ct]
    grind
  |inRangeFunc l=>exact .ended
  |beginRound=>grind[Ct]
  |endRangeFunc l=>simp only[];rcases(Instr.endLoop l).runT P w #[]with⟨r,es⟩;simp only[];refine fa.after _ ?_;cases r with|ok j w1=>grind|halt g w1=>cases g with|panic v=>grind| _=>exact .ended
  |call d wr rs sv=>grind[Ct]
  |extern row args=>simp only[];cases Extern.next row with|none=>exact .ended|some e=>grind[Ct]
  | _=>grind
def an_(hF:P.follows .rangeFuncRecover=true)(main:Bool)(h:mA P D g g')(hn:D.d<=g.callers.length)(hd:g.dying=none)(w:aS):fa P D (stepG P main g w) (stepG P main g' w):=by
 cases h with
 |same g c=>omega
 |@gK a b h hv cs c s d=>obtain rfl:d=none:=hd;unfold stepG;simp[h.mode];grind[an5,an7]
 |@under a cs a9 hc s d=>obtain rfl:d=none:=hd;unfold stepG;grind[an9,an8]
end
def mA.parts{P:b4}{D:fi}(h:mA P D g g'):g'.status=g.status/\g'.dying=g.dying:=by cases h<;>exact⟨Y,Y⟩
def oD.var{P:b4}{D:fi}(hF:P.follows .rangeFuncRecover=true){main:Bool}{K:dh}{post:aV->Prop}{base:fV}(s:D.d<=base.length){X:aV}(h:oD P main K (HP base) post X):
 ∀g',mA P D X.g g'->jD P main K (λg=>∃Y,post Y/\mA P D Y.g g.g/\g.w=Y.w/\g.mine=Y.mine) ⟨g',X.w,X.mine⟩:=by
 induction h with
 |@done X h=>exact λg' hs=>.done ⟨X,h,hs,rfl,rfl⟩
 |@step X inv ok _ p=>
  intro g' hs;obtain⟨fr,cs,hg⟩:=inv;have hstep:∀w' g1 w1 es,stepG P main X.g w'=.go g1 w1 es->g1.status=.running->g1.dying=none->∃c,stepG P main g' w'=.go c w1 es/\mA P D g1 c:=λw' g1 w1 es e r q=>an_ hF main hs (by rw[hg];simp[a0];omega) (by rw[hg];rfl) w' g1 w1 es e r q;refine .step (λw' b=>?_) (λw' g1 w1 es b e=>?_)
  .obtain⟨g1,w1,es,e,a⟩:=ok w' ⟨b.heap,b.size,b.env⟩;obtain⟨c,f,d⟩:=hstep w' g1 w1 es e a.run a.nW;obtain⟨n,m⟩:=d.parts;exact⟨c,w1,es,f,n.trans a.run,m.trans a.nW,a.kept,a.size,a.os,a.output,a.tape,a.drawn,a.evs⟩
  .have i:j5 K X w':=⟨b.heap,b.size,b.env⟩;obtain⟨j,l,o,k,a⟩:=ok w' i;obtain⟨c,f,d⟩:=hstep w' j l o k a.run a.nW;rw[f]at e;cases e;exact p w' j _ _ i k _ d
def mW.lt{P:b4}{D:fi}{l b:fV}(h:mW P D l b):D.d<l.length:=by induction h with|here h v l d=>simp;omega|there a h c=>simp;omega
end lM
namespace eC
open RowKit ax
@[simp] theorem atl:cQ true 8:=c0 (bw (upd:=true) func8 AJ) AJ
@[simp] theorem aE8:cQ true 15:=c0 (bw (upd:=true) func15 AJ) AJ
@[simp] theorem aE9:cQ true 14:=c0 (bw (upd:=true) func14 AJ) AJ
@[simp] theorem aE_:cQ true 13:=c0 (bw (upd:=true) func13 AJ) AJ
@[simp] theorem aFa:cQ true 16:=c0 (bw (upd:=true) func16 AJ) AJ
@[simp] theorem atm:cQ true 5:=c0 (bw (upd:=true) func5 AJ) AJ
@[simp] theorem atn:cQ true 7:=c0 (bw (upd:=true) func7 AJ) AJ
def cT(c:Int):Prop:= -9223372036854775808<=c/\c<=9223372036854775807
def lR(c n:Int):Int:=(if c<0 then -(c+1)else c) % n
def h6(c:Int):Bool:=decide (c<0)&&decide (lR c 3=0)
def gt(c:Int):Int:=if h6 c then 0 else lR c 2001-1000
def kB(c:Int):Int:=if h6 c then 0 else lR c 4
def lets:List String:=["","a","b","ab","ba","aa","c","é","A","0"," ","zz","z"]
def o9(c:Int):ByteArray:=if h6 c then "".toUTF8 else(lets[(lR c 13).toNat]?.getD "").toUTF8
def rL(c:Int){n:Int}(hn:0<n):0<=lR c n/\lR c n<n:=⟨Int.emod_nonneg _ AP,Int.emod_lt_of_pos _ hn⟩
def aFb(c:Int): -1000<=gt c/\gt c<=1000:=by
 unfold gt;split
 .omega
 .have:=rL c (n:=2001) AP;omega
def aFc(c:Int):0<=kB c/\kB c<=3:=by
 unfold kB;split
 .omega
 .have:=rL c (n:=4) AP;omega
def J8(c n:Int)(hc:cT c)(hn:0<n/\n<=1000000)(w:aS):Calls (ae prog true) 8 #[.I c,.I n] w λe w'=>e=.returned (.I (lR c n))/\w'=w:=by
 obtain⟨i,g⟩:=hc;obtain⟨b,f⟩:=hn;have d:=rL c b;go_enter (bw (upd:=true) func8 AJ),ntmps8
 by_cases h:c<0
 .have a: -(c+1).tmod n=lR c n:=by unfold lR;rw[vby h,<-Int.neg_tmod,Int.tmod_eq_emod_of_nonneg AP]
  go_wp2
  go_ret
  simp_all
 .have a:c % n=lR c n:=by simp_all[lR,vbq]
  go_wp2
  go_ret
  simp_all
def vY(c:Int)(hc:cT c)(w:aS):Calls (ae prog true) 15 #[.I c] w λe w'=>e=.returned (.bool (h6 c))/\w'=w:=by
 go_enter (bw (upd:=true) func15 AJ),ntmps15
 by_cases h:c<0
 .go_wp2_with (refine(J8 c 3 hc AP _).mono ?_;rintro e w' ⟨rfl,rfl⟩)
  go_ret
  refine⟨?_,Y⟩;unfold h6;simp[h];rfl
 .go_wp2
  go_ret
  refine⟨?_,Y⟩;unfold h6;simp[show¬c<0 by omega]
def Li(c:Int)(hc:cT c)(w:aS):Calls (ae prog true) 14 #[.I c] w λe w'=>e=.returned (.I (gt c))/\w'=w:=by
 go_enter (bw (upd:=true) func14 AJ),ntmps14
 have a:=rL c (n:=2001) AP;cases hn:h6 c with
 |true=>
  go_wp2_with (refine(vY c hc _).mono ?_;rintro e w' ⟨rfl,rfl⟩)
  go_ret
  simp_all[gt]
 |false=>
  go_wp2_with (first|(refine(vY c hc _).mono ?_;rintro e w' ⟨rfl,rfl⟩)|(refine(J8 c 2001 hc AP _).mono ?_;rintro e w' ⟨rfl,rfl⟩))
  go_ret
  simp_all[gt]
def ato(c:Int)(hc:cT c)(w:aS):Calls (ae prog true) 13 #[.I c] w λe w'=>e=.returned (.I (kB c))/\w'=w:=by
 go_enter (bw (upd:=true) func13 AJ),ntmps13
 have a:=rL c (n:=4) AP;cases hn:h6 c with
 |true=>
  go_wp2_with (refine(vY c hc _).mono ?_;rintro e w' ⟨rfl,rfl⟩)
  go_ret
  simp_all[kB]
 |false=>
  go_wp2_with (first|(refine(vY c hc _).mono ?_;rintro e w' ⟨rfl,rfl⟩)|(refine(J8 c 4 hc AP _).mono ?_;rintro e w' ⟨rfl,rfl⟩))
  go_ret
  simp_all[kB]
def atp(c:Int)(hc:cT c)(w:aS):Calls (ae prog true) 16 #[.I c] w λe w'=>e=.returned (.string (o9 c))/\cJ w w':=by
 go_enter (bw (upd:=true) func16 AJ),ntmps16
 cases hn:h6 c with
 |true=>
  go_wp2_with (refine(vY c hc _).mono ?_;rintro e w' ⟨rfl,rfl⟩)
  go_ret
  exact⟨by simp[o9,hn];rfl,vaa _ _⟩
 |false=>
  obtain⟨k,hk,d⟩:∃k:Nat,k<13/\lR c 13=(k:Int):=⟨(lR c 13).toNat,by simp_all[rL],by have:=rL c (n:=13) AP;omega⟩;have a:o9 c=(lets[k]?.getD "").toUTF8:=by grind[o9]
  go_wp2_with (first|(refine(vY c hc _).mono ?_;rintro e w' ⟨rfl,rfl⟩)|(refine(J8 c 13 hc AP _).mono ?_;rintro e w' ⟨rfl,rfl⟩))
  go_ret
  refine⟨?_,(vaa _ _).alloc JT _⟩;rw[a];have b:k=0\/k=1\/k=2\/k=3\/k=4\/k=5\/k=6\/k=7\/k=8\/k=9\/k=10\/k=11\/k=12:=AP;rcases b with rfl|rfl|rfl|rfl|rfl|rfl|rfl|rfl|rfl|rfl|rfl|rfl|rfl<;>rfl
def atq(k:Int)(w:aS):Calls (ae prog true) 5 #[.I k] w λe w'=>e=.returned (.agg #[.I 1,.I k,.I 0,.N,.N,.N,.N])/\cJ w w':=by
 go_enter (bw (upd:=true) func5 AJ),ntmps5
 go_wp2
 refine vbu (v:=.agg #[.I 1,.I k,.I 0,.N,.N,.N,.N]) (by simp[results,results5,go_sem]) Y ?_;exact⟨Y,(vaa _ _).alloc JT _⟩
def atr(v:Value)(t:List aG)(ht:0<t.length)(w:aS)(hv:nX w v t):Calls (ae prog true) 7 #[.agg #[v]] w λe w'=>e=.returned (.I (t[0].dk.length:Int))/\cJ w w':=by
 obtain⟨n,cap,rfl,k,c⟩:=hv;obtain⟨b,off,rfl,bj,vs,o,a,d1,g,f,d,hc⟩:=c 0 ht;obtain⟨j,ci,h,i,an,m,rfl,rfl,rfl⟩:=hc.shape;have l:b<w.heap.size:=ff a;clear c hc a d1 g f;simp at d;go_enter (bw (upd:=true) func7 AJ),ntmps7
 go_wp2
 go_ret
 exact⟨Y,(vaa _ _).alloc JT _⟩
