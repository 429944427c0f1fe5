import Derived.Test.YtnkpmooengcinaaGreatP01
import Derived.Test.YtnkpmooengcinaaGreatProg
import Derived.Deep.Light
import Derived.Deep.DeepCutAuto
import Derived.Deep.RegionHeld3
import Derived.Deep.DrawnRows
import Derived.BigQuiet
import Derived.Lib.BufferWrite
import Derived.Test.YtnkpmooengcinaaGreatPAC
set_option linter.all false
set_option maxRecDepth 100000
set_option maxHeartbeats 16000000
namespace Go.Proofs.YtnkpmooengcinaaGreat
open Go.Proofs.Tryz
namespace cv
open RowKit av
abbrev _root_.Go.Proofs.YtnkpmooengcinaaGreat.cSf(u:Bool)(n:ual):Prop:=∀(a:dC)(w:aH),Sem.run (aa prog u) (callFunc n a) w=.ok (.enter n a) w
@[simp] theorem aBz:cSf true 90:=cN (bo (upd:=true) func90 AT) AT
@[simp] theorem aBA:cSf true 56:=cN (bo (upd:=true) func56 AT) AT
@[simp] theorem aBB:cSf true 95:=cN (bo (upd:=true) func95 AT) AT
@[simp] theorem aBC:cSf true 130:=cN (bo (upd:=true) func130 AT) AT
@[simp] theorem aBD:cSf true 94:=cN (bo (upd:=true) func94 AT) AT
@[simp] theorem aBE:cSf true 91:=cN (bo (upd:=true) func91 AT) AT
@[simp] theorem aBF:cSf true 133:=cN (bo (upd:=true) func133 AT) AT
@[simp] theorem aBG:cSf true 58:=cN (bo (upd:=true) func58 AT) AT
@[simp] theorem aBH:cSf true 113:=cN (bo (upd:=true) func113 AT) AT
@[simp] theorem aBI:cSf true 114:=cN (bo (upd:=true) func114 AT) AT
@[simp] theorem aBJ:cSf true 115:=cN (bo (upd:=true) func115 AT) AT
@[simp] theorem aBK:cSf true 92:=cN (bo (upd:=true) func92 AT) AT
@[simp] theorem aBL:cSf true 57:=cN (bo (upd:=true) func57 AT) AT
@[simp] theorem aBM:cSf true 53:=cN (bo (upd:=true) func53 AT) AT
@[simp] theorem aBN:cSf true 52:=cN (bo (upd:=true) func52 AT) AT
@[simp] theorem aBO:cSf true 54:=cN (bo (upd:=true) func54 AT) AT
@[simp] theorem aBP:cSf true 32:=cN (bo (upd:=true) func32 AT) AT
@[simp] theorem aBQ:cSf true 24:=cN (bo (upd:=true) func24 AT) AT
@[simp] theorem aBR:cSf true 15:=cN (bo (upd:=true) func15 AT) AT
@[simp] theorem aBS:cSf true 35:=cN (bo (upd:=true) func35 AT) AT
@[simp] theorem aBT:cSf true 55:=cN (bo (upd:=true) func55 AT) AT
@[simp] theorem aBU:cSf true 34:=cN (bo (upd:=true) func34 AT) AT
@[simp] theorem aBV:cSf true 33:=cN (bo (upd:=true) func33 AT) AT
@[simp] theorem aBW:cSf true 25:=cN (bo (upd:=true) func25 AT) AT
@[simp] theorem aBX:cSf true 27:=cN (bo (upd:=true) func27 AT) AT
@[simp] theorem aBY:cSf true 37:=cN (bo (upd:=true) func37 AT) AT
@[simp] theorem aBZ:cSf true 26:=cN (bo (upd:=true) func26 AT) AT
@[simp] theorem aB0:cSf true 16:=cN (bo (upd:=true) func16 AT) AT
@[simp] theorem aB1:cSf true 17:=cN (bo (upd:=true) func17 AT) AT
@[simp] theorem LR:cSf true 10:=cN (bo (upd:=true) func10 AT) AT
@[simp] theorem LJ:cSf true 9:=cN (bo (upd:=true) func9 AT) AT
theorem LI:rh (aa prog true) 69 105 (.agg #[.I 0,.I 0]) 2 16:=⟨BB,AU,AX,AX⟩
def apl:rh (aa prog true) 54 69 (.N) 1 24:=⟨BB,AU,AX,AX⟩
def LG:rh (aa prog true) 27 4 (.F) 1 1:=⟨BB,AU,AX,AX⟩
def Jd:rh (aa prog true) 26 2 (.I 0) 1 8:=⟨BB,AU,AX,AX⟩
def apm:rh (aa prog true) 28 9 (.string ByteArray.empty) 1 16:=⟨BB,AU,AX,AX⟩
def apn:rh (aa prog true) 39 30 (.agg #[.I 0,.I 0,.N,.N,.N]) 5 88:=⟨BB,AU,AX,AX⟩
def SB(s:Int):Bool:=decide (0<=s)&&decide (s<=6)
def Lz(t:ubu):Bool:=t.1==1||t.1==2
def apo(a:Int)(w:aH):
 Calls (aa prog true) 90 #[.I a] w λe w'=>e=.returned (.bool (SB a))/\w'=w:=by
 unfold SB;go_enter (bo (upd:=true) func90 AT),ntmps90
 go_wp2
 all_goals(go_ret;refine⟨?_,U⟩;simp[*]<;>omega)
def apq(a b c:Int)(w:aH):
 Calls (aa prog true) 56 #[.I a,.I b,.I c] w λe w'=>e=.returned (.bool (decide (b<=a)&&decide (a<=c)))/\w'=w:=by
 go_enter (bo (upd:=true) func56 AT),ntmps56
 go_wp2
 all_goals(go_ret;refine⟨?_,U⟩;simp[*]<;>omega)
def apr(t:ubu)(w:aH):
 Calls (aa prog true) 95 #[xZ t] w λe w'=>e=.returned (.bool (Lz t))/\cC w w':=by
 obtain⟨k,s⟩:=t;unfold Lz;go_enter (bo (upd:=true) func95 AT),ntmps95
 go_wp2
 all_goals(go_ret;refine⟨?_,(vaa _ _).alloc AN _⟩;simp[*])
def Je(t:ubu):Bool:=if t.1=1\/t.1=3 then t.2==0 else if t.1=2 then SB t.2 else false
def aps(t:ubu)(w:aH):
 Calls (aa prog true) 53 #[xZ t] w λe w'=>e=.returned (.bool (Je t))/\cC w w':=by
 obtain⟨k,s⟩:=t;go_enter (bo (upd:=true) func53 AT),ntmps53
 go_wp2_with (go_at_call 90;refine(apo _ _).mono ?_;rintro e w' ⟨rfl,rfl⟩)
 all_goals(go_ret;refine⟨?_,(vaa _ _).alloc AN _⟩;go_light;simp_all[Je])
def Ly(k s:Int)(b9 vs bt:Value)(w:aH):
 Calls (aa prog true) 52 #[.agg #[.I k,.I s,b9,vs,bt]] w λe w'=>e=.returned (xZ (k,s))/\cC w w':=by
 go_enter (bo (upd:=true) func52 AT),ntmps52
 go_wp2
 exact vbe (v:=xZ (k,s)) (by simp[results,results52,go_sem]) U ⟨U,((vaa _ _).alloc AN _).alloc Ab _⟩
def operands(op:Int):Int×Bool:=
 if op=1\/op=2\/op=3\/op=4 then(0,true)else if op=8\/op=14\/op=15 then(1,true)
 else if op=5\/op=6\/op=7\/op=9\/op=10\/op=11\/op=12\/op=13 then(2,true)else(0,false)
def Dz(pN:uah)(p:Int):(Int×Int)×Bool:=
 if 0<=p/\p<pN.length then(pN.getD p.toNat (0,0),true)else((0,0),false)
def apt(pN:uah)(v:Value)(p:Int)(w:aH)(hv:gR w v pN):
 Calls (aa prog true) 58 #[v,.I p] w λe w'=>e=.returned (.tuple #[xZ (Dz pN p).1,.bool (Dz pN p).2])/\cC w w':=by
 obtain⟨n,cap,rfl,l,j⟩:=hv;by_cases h:0<=p/\p<pN.length
 .have a:Hid (Dz pN p=(pN.getD p.toNat (0,0),true)):=by unfold Hid Dz;rw[vdi h]
  obtain⟨d,i⟩:=h;obtain⟨q,rfl⟩:=Int.eq_ofNat_of_zero_le d;have c:q<pN.length:=AY;obtain⟨b,off,rfl,f,k⟩:=j q c;simp at f;have m:=dx f;go_enter (bo (upd:=true) func58 AT),ntmps58
  go_wp2
  exact vbe (v:=.tuple #[xZ (pN[q]),.T]) (by simp[results,results58,go_sem]) U ⟨by rw[a.out];simp[c],(vaa _ _).alloc AN _⟩
 .have a:Hid (Dz pN p=((0,0),false)):=by unfold Hid Dz;rw[vcy h]
  by_cases d:p<0;rotate_left
  focus
   have g:0<=p:=AY;have i:(pN.length:Int)<=p:=AY;obtain⟨q,rfl⟩:=Int.eq_ofNat_of_zero_le g;have c:pN.length<=q:=AY;clear h d
  rotate_left
  all_goals
   go_enter (bo (upd:=true) func58 AT),ntmps58
   go_wp2
   exact vbe (v:=.tuple #[xZ (0,0),.F]) (by simp[results,results58,go_sem]) U ⟨by rw[a.out],(vaa _ _).alloc AN _⟩
end cv
namespace iD
open RowKit av
@[simp] theorem apu:cSf true 4:=cN (bo (upd:=true) func4 AT) AT
@[simp] theorem apv:cSf true 5:=cN (bo (upd:=true) func5 AT) AT
def fg(c:Int):Prop:= -9223372036854775808<=c/\c<=9223372036854775807
def jc(c n:Int):Int:=(if c<0 then -(c+1)else c) % n
def y3(c:Int){n:Int}(hn:0<n):0<=jc c n/\jc c n<n:=⟨Int.emod_nonneg _ AY,Int.emod_lt_of_pos _ hn⟩
def apw(c n:Int)(b:fg c)(hn:0<n/\n<=1000000)(w:aH):Calls (aa prog true) 4 #[.I c,.I n] w λe w'=>e=.returned (.I (jc c n))/\w'=w:=by
 obtain⟨j,i⟩:=b;obtain⟨d,g⟩:=hn;have f:=y3 c d;go_enter (bo (upd:=true) func4 AT),ntmps4
 by_cases h:c<0
 .have a: -(c+1).tmod n=jc c n:=by unfold jc;rw[vdi h,<-Int.neg_tmod,Int.tmod_eq_emod_of_nonneg AY]
  go_wp2
  go_ret
  simp_all
 .have a:c % n=jc c n:=by simp_all[jc,vcy]
  go_wp2
  go_ret
  simp_all
def apx(k:Int)(w:aH):Calls (aa prog true) 5 #[.I k] w λe w'=>e=.returned (.agg #[.I 1,.I k,.I 0,.N,.N,.N,.N])/\cC w w':=by
 go_enter (bo (upd:=true) func5 AT),ntmps5
 go_wp2
 refine vbe (v:=.agg #[.I 1,.I k,.I 0,.N,.N,.N,.N]) (by simp[results,results5,go_sem]) U ?_;exact⟨U,(vaa _ _).alloc IB _⟩
end iD
namespace cv
open RowKit av
def DR(ok:ubg)(n:Nat):Option Nat:=(List.range n).find? (λi=> !ok i)
def Kd{ok:ubg}{n:Nat}(h:∀j,j<n->ok j=true):DR ok n=none:=by grind[DR]
def J7{ok:ubg}{n k:Nat}(hk:k<n)(h:∀j,j<k->ok j=true)(a:ok k=false):DR ok n=some k:=by unfold DR;simp_all
def told(o:ubj):Int×Bool:=match o with|some k=>((k:Int),true)|none=>(0,false)
def vE(l:List ByteArray):Bool:=l.all λs=>decide (s.size<=16)
variable{l:List ByteArray}
def aqy{k:Nat}(hk:k<l.length)(h:vE (l.take k)=true)(hs:l[k].size<=16):vE (l.take (k+1))=true:=by grind[vE,List.take_succ_eq_append_getElem]
def aqz{k:Nat}(hk:k<l.length)(hs:¬l[k].size<=16):vE l=false:=by grind[vE]
def aqA(l:List ByteArray)(v:Value)(w:aH)(hv:Qo w v l):
 Calls (aa prog true) 54 #[v] w λe w'=>e=.returned (.bool (vE l))/\w'=w:=by
 obtain⟨j,cap,rfl,h,g⟩:=hv;go_enter (bo (upd:=true) func54 AT),ntmps54
 go_wp2
 go_loop [4,7] (λ_ i=>∃k:Nat,k<=l.length/\i=.I k/\vE (l.take k)=true) (λ_ i=>l.length-(intOf i).toNat)
 case atStart=>exact⟨0,vaz _,U,U⟩
 case round=>
  obtain⟨k,hk,rfl,ht⟩:=hrel;have d:Hid _:=ht;clear ht;by_cases a:k<l.length
  .obtain⟨b,off,rfl,f,hs⟩:=g k a;simp at f;by_cases c:l[k].size<=16
   .go_wp2
    go_round
    case rel=>exact⟨k+1,AY,by go_num,aqy a d.out c⟩
    case measure=>simp[intOf];omega
   .go_wp2
    go_ret
    exact⟨by rw[aqz a c];rfl,U⟩
  .go_wp2
   go_ret
   refine⟨?_,U⟩;have e:vE l=true:=by have:=d.out;grind
   rw[e];rfl
def JA(k s:Int)(JB ns bY:Nat)(fit:Bool)(rows:Int):Bool:=
 Je (k,s)&&((bY:Int)==rows&&((JB:Int)==(if k=3 then 0 else rows)&&(ns:Int)==(if k=3 then rows else 0)))&&fit
def vF(c:bQ)(rows:Int):Bool:=JA c.kind c.cY c.k7.length c.jC.length c.j_.length (vE c.jC) rows
abbrev aqB(c:bQ)(b9 vs bt:Value):Value:=.agg #[.I c.kind,.I c.cY,b9,vs,bt]
def aqC(k s:Int)(m d an:uad)(j ns h ci f o:Nat)(jC:List ByteArray)(rows:Int)(w:aH)(q:ns<=9223372036854775807)(c:Qo w (.slice d ns f) jC):
 Calls (aa prog true) 32 #[.agg #[.I k,.I s,.slice m j ci,.slice d ns f,.slice an h o],.I rows] w λe w'=>e=.returned (.bool (JA k s j ns h (vE jC) rows))/\cC w w':=by
 go_enter (bo (upd:=true) func32 AT),ntmps32
 go_wp2_with fail
 refine(Ly k s _ _ _ _).mono ?_;rintro e w1 ⟨rfl,i⟩;have bI:=(ag.new w #[.I k,.I s,.slice m j ci,.slice d ns f,.slice an h o] 30).call i;have n:cC w w1:=Below.step i ((vaa _ _).alloc Ab _) Ab;clear i;go_wp2_with fail
 refine(aps (k,s) _).mono ?_;rintro e w2 ⟨rfl,g⟩;have b:=bI.call g;obtain⟨p,r,u⟩:=b.all;have a:cC w w2:=Below.step g n (by have:=n.size;omega);have l:=c.mono XB (bm.b4 a);clear g bI b c;by_cases hst:Je (k,s)=true
 .go_wp2_with (go_at_call 54;refine(aqA jC _ _ l).mono ?_;rintro e t ⟨rfl,rfl⟩)
  all_goals(go_ret;refine⟨?_,a⟩;go_light;clear p r l;simp_all[JA])
 .go_wp2
  go_ret
  simp_all[JA]
def aqD(c:bQ)(b9 vs bt:Value)(rows:Int)(w:aH)(b:uE w b9 vs bt c):
 Calls (aa prog true) 32 #[aqB c b9 vs bt,.I rows] w λe w'=>e=.returned (.bool (vF c rows))/\cC w w':=by
 obtain⟨f,a,d⟩:=b;have h:=a;obtain⟨k,ci,rfl,n,-⟩:=f;obtain⟨i,j,rfl,g,-⟩:=a;obtain⟨an,l,rfl,m,-⟩:=d;exact aqC _ _ _ _ _ _ _ _ _ _ _ c.jC rows w g h
def Gk(t:List bQ):Nat:=match t with| []=>0|c::_=>c.j_.length
def oa(t:List bQ):Bool:=decide (1<=t.length)&&decide (t.length<=8)&&decide (Gk t<=40)&&t.all (λc=>vF c (Gk t))
variable{t:List bQ}
def aqE{n:Int}{k:Nat}(hk:k<t.length)(h:((t.take k).all (λc=>vF c n))=true)(hs:vF t[k] n=true):((t.take (k+1)).all (λc=>vF c n))=true:=by grind[List.take_succ_eq_append_getElem]
def aqF{n:Int}{k:Nat}(hk:k<t.length)(hs:vF t[k] n=false):(t.all (λc=>vF c n))=false:=by grind
def aqG(h:0<t.length):Gk t=t[0].j_.length:=by cases t with|nil=>grind|cons c r=>rfl
def aqH(t:List bQ)(v:Value)(w:aH)(hv:nV w v t):
 Calls (aa prog true) 24 #[.agg #[v]] w λe w'=>e=.returned (.bool (oa t))/\cC w w':=by
 obtain⟨bJ,cap,rfl,U,A⟩:=hv;by_cases V:t.length<1
 .have e:Hid (oa t=false):=by grind[Hid,oa]
  go_enter (bo (upd:=true) func24 AT),ntmps24
  go_wp2
  go_ret
  exact⟨by rw[e.out];rfl,(vaa _ _).alloc AN _⟩
 by_cases R:8<t.length
 .have e:Hid (oa t=false):=by grind[Hid,oa]
  go_enter (bo (upd:=true) func24 AT),ntmps24
  go_wp2
  go_ret
  exact⟨by rw[e.out];rfl,(vaa _ _).alloc AN _⟩
 have h0:0<t.length:=AY;obtain⟨b,off,rfl,b9,vs,bt,cw,c1,cg,du,g,u⟩:=A 0 h0;simp at cw c1 cg du g;have a5:=aqG h0;obtain⟨an,dm,rfl,M,-⟩:=u.j_;rw[<-a5]at g M;clear u cw c1 cg du;generalize H:Gk t=N at *;have o:Hid (Gk t=N):=H;clear H a5;have S:=dx g;by_cases O:40<N
 .have e:Hid (oa t=false):=by grind[Hid,oa]
  go_enter (bo (upd:=true) func24 AT),ntmps24
  go_wp2
  go_ret
  exact⟨by rw[e.out];rfl,(vaa _ _).alloc AN _⟩
 go_enter (bo (upd:=true) func24 AT),ntmps24
 go_wp2
 go_loopw [27] (λi W=>∃k:Nat,k<=t.length/\i=.I k/\((t.take k).all (λc=>vF c N))=true/\cC w W) (λi _=>t.length-(intOf i).toNat)
 case atStart=>exact⟨0,vaz _,rfl,rfl,(vaa _ _).alloc AN _⟩
 case round=>
  obtain⟨k,hk,rfl,x,y⟩:=hrel;have z:Hid _:=x;have f:Hid _:=y;clear x y;by_cases a:k<t.length
  .obtain⟨b',Qt,p,n,m,l,j,d1,D,C,B,h⟩:=A k a;simp at p;obtain⟨rfl,rfl⟩:=p;simp at j;have d:=bm.b4 f.out;have J:=d _ _ _ j;have e1:=d _ _ _ d1;have e2:=d _ _ _ D;have Z:=d _ _ _ C;have Y:=d _ _ _ B;have X:=dx J;have F:=(h.mono d).mono ((bm.refl _).alloc (.cells #[.I t[k].kind,.I t[k].cY,n,m,l] 30));clear d j d1 D C B g;obtain⟨T,ci,P,Q,L,K,rfl,rfl,rfl⟩:=h.shape;clear h;go_wp2_with fail
   refine(aqD t[k] _ _ _ N _ F).mono ?_;rintro e w1 ⟨rfl,E⟩;have q:cC w w1:=Below.step E (f.out.alloc (by have:=f.out.size;omega) _) (by have:=f.out.size;simp;omega);have r:Hid _:=q;clear q E F;by_cases s:vF t[k] N=true
   .go_wp2
    go_roundw
    case rel=>exact⟨k+1,AY,by go_num,aqE a z.out s,r.out⟩
    case measure=>simp[intOf];omega
   .have I:vF t[k] N=false:=by grind
    clear s;go_wp2
    go_ret
    refine⟨?_,r.out⟩;have e:oa t=false:=by unfold oa;rw[o.out,aqF a I];simp
    rw[e];rfl
  .go_wp2
   go_ret
   refine⟨?_,f.out⟩;have e:oa t=true:=by have:=z.out;rw[vcp AY]at this;unfold oa;rw[o.out,this];grind
   rw[e];rfl
def za(ts:List (List bQ))(i:Nat):Bool:=decide (i<4)&&oa (ts.getD i [])
variable{w:aH}{ts:List (List bQ)}
def J6{a:uad}{n:Nat}(c:∀i(h:i<ts.length),∃b off,a=some ⟨b,off,none⟩/\Qp w (λj=>w.cell? (.a b (off+i*1+j))) ts[i])(hn:n<ts.length):
 ∃b off v,a=some ⟨b,off,none⟩/\w.cell? (.a b (off+n))=some v/\nV w v ts[n]:=by
 obtain⟨b,off,d,v,h0,hv⟩:=c n hn;grind
def aqL(ts:List (List bQ))(v:Value)(w:aH)(hv:BS w v ts):
 Calls (aa prog true) 15 #[v] w λe w'=>e=.returned (.tuple #[.I (told (DR (za ts) ts.length)).1,.bool (told (DR (za ts) ts.length)).2])/\cC w w':=by
 obtain⟨C,cap,rfl,z,u⟩:=hv;go_enter (bo (upd:=true) func15 AT),ntmps15
 go_wp2
 go_loopw [8] (λi W=>∃k:Nat,k<=ts.length/\i=.I k/\(∀j,j<k->za ts j=true)/\cC w W) (λi _=>ts.length-(intOf i).toNat)
 case atStart=>exact⟨0,vaz _,U,AN,vaa _ _⟩
 case round=>
  obtain⟨k,hk,rfl,o,p⟩:=hrel;have d:Hid _:=o;have c:Hid _:=p;clear o p;by_cases a:k<ts.length
  .obtain⟨b,off,eH,rfl,q,s⟩:=J6 u a;have f:=bm.b4 c.out;have t:=f _ _ _ q;have B:=dx t;have g:=s.mono q_ (f.alloc (.cells #[eH] 41));obtain⟨x,ct,rfl,-,-⟩:=s;clear f q;by_cases A:k<4
   .go_wp2_with fail
    refine(aqH ts[k] _ _ g).mono ?_;rintro e w1 ⟨rfl,r⟩;have l:Hid (cC w w1):=Below.step r (c.out.alloc (by have:=c.out.size;omega) _) (by have:=c.out.size;simp;omega);clear r g;have hok:Hid (za ts k=oa ts[k]):=by grind[Hid,za]
    by_cases m:oa ts[k]=true
    .go_wp2
     go_roundw
     case rel=>
      refine⟨k+1,AY,by go_num,λj n=>?_,l.out⟩;rcases Nat.lt_succ_iff_lt_or_eq.1 n with h|rfl
      .exact d.out j h
      .rw[hok.out];exact m
     case measure=>simp[intOf];omega
    .have y:oa ts[k]=false:=by grind
     clear m;go_wp2
     go_ret2
     refine⟨?_,l.out⟩;rw[J7 a d.out (by rw[hok.out];grind)];rfl
   .have hok:Hid (za ts k=false):=by grind[Hid,za]
    clear g;go_wp2
    go_ret2
    refine⟨?_,c.out.alloc (by have:=c.out.size;omega) _⟩;rw[J7 a d.out hok.out];rfl
  .go_wp2
   go_ret2
   refine⟨?_,c.out⟩;rw[Kd (λj n=>d.out j AY)];rfl
def ru(t:List bQ):List (Int×Int):=t.map λc=>(c.kind,c.cY)
def aqM(t:List bQ)(v:Value)(w:aH)(hv:nV w v t)(L:t.length<=1000000):
 Calls (aa prog true) 35 #[.agg #[v]] w λe w'=>∃v',e=.returned v'/\gR w' v' (ru t)/\fB 105 w' v'/\cC w w':=by
 obtain⟨S,cap,rfl,hl,A⟩:=hv;have hlen:(ru t).length=t.length:=by simp[ru]
 go_enter (bo (upd:=true) func35 AT),ntmps35
 go_wp2_with (at_make;refine Q_ LI _ rfl _ _ rfl _ _ t.length rfl rfl AY AY ?_;intro w1 bc R a p;have E:=(ag.new w #[.slice S t.length cap] 41).call p;obtain⟨Mg,U,X⟩:=E.all)
 have x:cC w w1:=Below.step p ((vaa _ _).alloc Ab _) Ab;have F:ag w1 (w.heap.size+1) bc 105:=BB;have J:Hid (ag w1 (w.heap.size+1) bc 105):=F;have K:Hid (cC w w1):=x;clear R F p x E;go_loopw [13] (λi W=>∃(k:Nat)(cs:dC),k<=t.length/\i=.I k/\ag W (w.heap.size+1) cs 105/\cs.size=t.length*2/\Fu cs (ru t) k/\cC w W)
  (λi _=>t.length-(intOf i).toNat)
 case atStart=>exact⟨0,bc,vaz _,rfl,J.out,a,λj _ hj=>AN,K.out⟩
 case round=>
  obtain⟨k,cs,hk,rfl,r,H,q,y⟩:=hrel;have n:Hid (ag wr (w.heap.size+1) cs 105):=r;have u:Hid (Fu cs (ru t) k):=q;have f:Hid (cC w wr):=y;have g:Hid _:=H;have Rh:Hid _:=a;clear r q y H a;by_cases h:k<t.length
  .obtain⟨b,off,rfl,b9,vs,bt,m,d1,D,C,B,s⟩:=A k h;simp at m;have c:=bm.b4 f.out;have z:=c _ _ _ m;have Q:=c _ _ _ d1;have P:=c _ _ _ D;have O:=c _ _ _ C;have N:=c _ _ _ B;have eu:=dx z;clear c m d1 D C B;obtain⟨jD,ci,V,Z,an,dm,rfl,rfl,rfl⟩:=s.shape;clear s A;have Y:(0:Int)<=(k:Int):=AY;have lX:(k:Int)<(t.length:Int):=AY;go_wp2_with fail
   refine(Ly _ _ _ _ _ _).mono ?_;rintro e w2 ⟨rfl,o⟩;have d:=(n.out.alloc _).call o;have T:Hid (ag w2 (w.heap.size+1) cs 105):=d;have M:Hid (cC w w2):=Below.step o (f.out.alloc (by have:=f.out.size;omega) _) (by have:=f.out.size;simp;omega);have Yw:w2.cell? (.a (w.heap.size+1) (k*2))=some (cs[k*2]'(by have:=g.out;omega)):=by rw[d.rules.1];simp
   have Yx:w2.cell? (.a (w.heap.size+1) (k*2+1))=some (cs[k*2+1]'(by have:=g.out;omega)):=by rw[d.rules.1];simp
   have Yy:=d.rules.2;clear d o z Q P O N;go_wp2_with fail
   go_roundw
   case rel=>
    refine⟨k+1,(cs.setIfInBounds (k*2) (.I t[k].kind)).setIfInBounds (k*2+1) (.I t[k].cY),AY,by go_num,(T.out.set _ _).set _ _,by simp;exact g.out,?_,(M.out.setCell Ab _).setCell Ab _⟩;have:=u.out.step AN (by rw[hlen];exact g.out);grind[ru]
   case measure=>simp[intOf];omega
  .have I:k=t.length:=by omega
   go_wp2_with fail
   go_ret
   refine⟨_,rfl,?_,fB.box n.out _ _ _,f.out⟩;have:=gR.Ra (l:=ru t) n.out AN (by rw[hlen,<-I];exact u.out) t.length;simp_all
section
attribute [local go_sem ↓] Go.wp_at_zero Go.wp_at_succ
def DS(w':aH)(e:Ending)(o:Option (List (Int×Int))):Prop:=
 match o with
 |some l=>∃v,e=.returned (.tuple #[v,.T])/\gR w' v l/\fB 105 w' v
 |none=>∃v,e=.returned (.tuple #[v,.F])
def fR(op a:Int)(b5:uad)(n gc:Nat):Array Value:=#[.I op,.I a,.I 0,.N,.N,.N,.slice b5 n gc]
@[simp] theorem aCh:cSf true 60:=cN (bo (upd:=true) func60 AT) AT
@[simp] theorem aCi:cSf true 39:=cN (bo (upd:=true) func39 AT) AT
theorem J5{b off cap:Nat}{t:ubu}(h0:w.cell? (.a b off)=some (.I t.1))(a:w.cell? (.a b (off+1))=some (.I t.2)):gR w (.S b off 1 cap) [t]:=by refine⟨_,cap,U,Ab,λi hi=>⟨b,off,U,?_⟩⟩;obtain rfl:i=0:=AN;exact⟨AN,AN⟩
def aqP(v:Value)(w:aH)(hv:gR w v [(1,0)]):
 Calls (aa prog true) 60 #[.agg #[.I 2,.I 0],v] w λe w'=>e=.returned (.tuple #[xZ (1,0),.T])/\cC w w':=by
 obtain⟨ta,cL,rfl,-⟩:=hv.shape;have c:=(((vaa w.heap.size w).alloc IB (.cells #[.I 2,.I 0] 37)).alloc Ab (.cells #[.I 0,.I 0] 105));have HC:Hid _:=apt [(1,0)] _ 0 _ (bw.mono oH (bm.b4 c) hv);rw[show Dz [(1,0)] 0=((1,0),true)from U]at HC;have f:Hid _:=c;have b0:=(ag.new w #[.I 2,.I 0] 37).alloc (.cells #[.I 0,.I 0] 105);have b1:=ag.new (w.alloc (.cells #[.I 2,.I 0] 37)) #[.I 0,.I 0] 105;simp only[vce]at b1;clear hv c;go_enter (bo (upd:=true) func60 AT),ntmps60
 go_wp2_with fail
 refine vct HC.out ?_;rintro e w1 ⟨rfl,b⟩;obtain⟨c1,cg,du⟩:=(b0.call b).all;obtain⟨d1,o,n⟩:=(b1.call b).all;have h:Hid (cC w w1):=f.out.trans (b.mono f.out.size);clear b0 f HC;have g:=((b1.call b).alloc (.cells #[.I 1,.I 0] 105)).drew;have j:=(ag.new w1 #[.I 1,.I 0] 105).drew;have i:Hid (cC w (w1.alloc (.cells #[.I 1,.I 0] 105)).drew):=(h.out.alloc h.out.size _).drew;have hn:∀W,Calls (aa prog true) 95 #[.agg #[.I 1,.I 0]] W λe w'=>e=.returned (.T)/\cC W w':=λW=>apr (1,0) W;have a:w.heap.size<=w.heap.size+1:=vcl _;clear b b1;go_wp2_with fail
 go_region_with (go_at_call 95;refine(hn _).mono ?_;rintro e w2 ⟨rfl,d⟩;obtain⟨f1,m,f3⟩:=(g.call d).all;obtain⟨g1,l,k⟩:=(j.call d).all)
 all_goals
  go_wp2_with fail
  exact vbe (v:=.tuple #[xZ (1,0),.T]) (by simp[results,results60,go_sem,Act.put,f1,f3]) U ⟨U,((Below.step d i.out i.out.size).setCell a _).setCell a _⟩
def aqR(aA aR gc:Nat)(I:Value)(w:aH)(hk:w.cell? (.a aA aR)=some (.I 2))(D:w.cell? (.a aA (aR+1))=some (.I 0))(s:gR w I [(1,0)]):
 Calls (aa prog true) 39 #[.agg (fR 5 0 (some (.a aA aR)) 1 gc),I] w λe w'=>DS w' e (some [(1,0)])/\cC w w':=by
 obtain⟨Nc,U,rfl,-⟩:=s.shape;unfold fR;have p:=ag.new w #[.I 5,.I 0,.I 0,.N,.N,.N,.S aA aR 1 gc] 34;have d:=(vaa w.heap.size w).alloc IB (.cells #[.I 5,.I 0,.I 0,.N,.N,.N,.S aA aR 1 gc] 34);have P:Hid _:=bw.mono oH (bm.b4 d) s;have b:=(bm.b4 d) _ _ _ hk;have o:=(bm.b4 d) _ _ _ D;have LL:=dx b;have F:Hid _:=d;have T:Hid _:=p;clear hk D s;go_enter (bo (upd:=true) func39 AT),ntmps39
 go_wp2
 generalize w.alloc (.cells #[.I 5,.I 0,.I 0,.N,.N,.N,.S aA aR 1 gc] 34)=M at *;go_loopw [6,18] (λv i W=>v=.N/\i=.I 0/\W=M) (λ_ _ _=>0)
 case atStart=>grind
 case round=>
  obtain⟨rfl,rfl,rfl⟩:=hrel;obtain⟨n1,O,B⟩:=p.all;go_wp2
  have r:Hid (w.heap.size<wr.heap.size):=B;have m:Hid _:=b;have k:Hid _:=o;clear n1 O B b o d p;go_loopw [6,38] (λv i W=>(v=.N/\i=.I 0/\W=wr)\/(i=.I 1/\(∃a c,v=.slice a 1 c)/\gR W v [(1,0)]/\fB 105 W v/\cC w W)) (λ_ i _=>1-(intOf i).toNat)
  case atStart=>simp_all
  case round=>
   rcases hrel with⟨rfl,rfl,rfl⟩|⟨rfl,⟨cZ,dw,rfl⟩,A,z,C⟩
   .have b:=m.out;have o:=k.out;have DT:=dx b;have j:=aqP _ (wr.alloc (.cells #[.I 2,.I 0] 37)) (bw.mono oH (bm.b4 ((vaa _ wr).alloc IB _)) P.out);have E:Hid _:=j;clear j;go_wp2_with fail
    refine vct E.out ?_;rintro e w1 ⟨rfl,H⟩;have n:Hid (cC wr w1):=Below.step H ((vaa _ wr).alloc IB _) Ab;have q:=ag.new (w1.alloc (.cells #[.I 1,.I 0] 105)) #[.I 1,.I 0] 105;rw[show(w1.alloc (.cells #[.I 1,.I 0] 105)).heap.size=w1.heap.size+1 by simp]at q;have K:Hid _:=alC q;have Y:Hid (((w1.alloc (.cells #[.I 1,.I 0] 105)).alloc (.cells #[.I 1,.I 0] 105)).heap.size=w1.heap.size+1+1):=BB;have J:Hid (w.heap.size<=((w1.alloc (.cells #[.I 1,.I 0] 105)).alloc (.cells #[.I 1,.I 0] 105)).heap.size):=by have:=n.out.size;have:=r.out;unfold Hid;simp;omega
    clear H q b o E;go_wp2_with (at_builtin;refine Iz LI _ Av _ _ Av w.heap.size (.N) 0 [] Av (vbo _ _ _ _) (w1.heap.size+1) 1 1 _ Av rfl K.out (alD _ _) AY AY AY J.out (w1.heap.size+1+1) Y.out ?_;intro L Nd y f V S R)
    have x:=((F.out.trans (n.out.mono F.out.size)).alloc (by have:=n.out.size;have:=r.out;omega) (.cells #[.I 1,.I 0] 105)).alloc (by have:=n.out.size;have:=r.out;simp;omega) (.cells #[.I 1,.I 0] 105);have u:Hid (cC w y):=x.grown V J.out (λk' Q=>by simp[Value.ownBlock]at Q);go_roundw
    case rel=>exact .inr ⟨rfl,⟨_,_,rfl⟩,gR.Ft (l:=[(1,0)]) f Ab,(by obtain⟨bc,Z⟩:=(show∃bc,ag y L bc 105 by rcases f.2 with⟨h,-⟩|⟨g,cap,bc,h,-,hg,-⟩<;>cases h;exact⟨bc,hg⟩);grind[fB.box]),u.out⟩
    case measure=>simp[intOf]
   .have N:Hid _:=A;have t:Hid _:=z;have X:Hid _:=C;clear A z C m k;go_wp2_with (go_at_call 56;refine(apq _ _ _ _).mono ?_;rintro e w2 ⟨rfl,rfl⟩)
    go_ret2
    exact⟨⟨_,rfl,N.out,t.out⟩,X.out⟩
end
variable{o:Option (List (Int×Int))}{v:Value}
section
attribute [local go_sem ↓] Go.wp_at_zero Go.wp_at_succ
def z9(w:aH)(rd:uar)(x:uah):Prop:=∃v,rd 0=some v/\gR w v x
def aqV:pg z9:=λ_ _ _ _ _ hk a⟨v,h0,h⟩=>⟨v,a _ _ h0,h.mono oH hk⟩
abbrev Gp(w:aH):=bw w 1 z9
attribute [local go_sem ↓] Go.wp_at_zero Go.wp_at_succ
def Nf(w:aH)(v:Value)(ok:Bool)(o:Option (List (Int×Int))):Prop:=
 match o with
 |some l=>ok=true/\gR w v l/\fB 105 w v
 |none=>ok=false
theorem DS.shape{e:Ending}(h:DS w e o):∃v ok,e=.returned (.tuple #[v,.bool ok])/\Nf w v ok o:=by
 cases o with
 |none=>obtain⟨v,h⟩:=h;exact⟨v,false,h,U⟩
 |some l=>obtain⟨v,h,hv⟩:=h;exact⟨v,true,h,U,hv⟩
def Nf.ret{ok:Bool}(h:Nf w v ok o):DS w (.returned (.tuple #[v,.bool ok])) o:=by cases o with|none=>simp[Nf]at h;subst h;exact⟨v,U⟩|some l=>obtain⟨h,hv⟩:=h;subst h;exact⟨v,U,hv⟩
def aqW{dc:List (List (Int×Int))}(h:Gp w v dc){k:Nat}(hk:k<dc.length):
 ∃b off cap a c,v=.S b off dc.length cap/\b<w.heap.size/\w.cell? (.a b (off+k))=some (.slice a dc[k].length c)/\gR w (.slice a dc[k].length c) dc[k]:=by
 obtain⟨f,cap,rfl,e,d⟩:=h;obtain⟨b,off,rfl,v,h0,hv⟩:=d k hk;simp at h0;obtain⟨a,c,rfl,-⟩:=hv.shape;exact⟨b,off,cap,a,c,U,dx h0,h0,hv⟩
def aqX(h:BS w v ts){k:Nat}(hk:k<ts.length):
 ∃b off cap a c,v=.S b off ts.length cap/\b<w.heap.size/\w.cell? (.a b (off+k))=some (.slice a ts[k].length c)/\nV w (.slice a ts[k].length c) ts[k]:=by
 obtain⟨f,cap,rfl,e,d⟩:=h;obtain⟨b,off,v,rfl,h0,hv⟩:=J6 d hk;obtain⟨a,c,rfl,-⟩:=hv.shape;exact⟨b,off,cap,a,c,U,dx h0,h0,hv⟩
def aqY(bs p:Nat)(b:Int)(eH:Value)(ts:List (List bQ))(l k h j:uad)(le lk lo nl ce f dV g:Nat)(w:aH)(y:w.cell? (.a bs 0)=some eH)(ht:BS w eH ts)(t:p<ts.length)(C:ts[p].length<=8):
 Calls (aa prog true) 26 #[.P bs 0,.agg #[.I 1,.I p,.I b,.slice l le ce,.slice k lk f,.slice h lo dV,.slice j nl g]] w λe w'=>DS w' e (some (ru ts[p]))/\cC w w':=by
 obtain⟨q,m,ct,a,c,rfl,A,E,r⟩:=aqX ht t;have F:=dx y;have B:(0:Int)<=(p:Int):=AY;have D:(p:Int)<(ts.length:Int):=AY;have o:=((bm.refl w).alloc (.cells #[.I 1,.I p,.I b,.slice l le ce,.slice k lk f,.slice h lo dV,.slice j nl g] 34)).drew;have d:=bw.mono q_ o r;have HC:Hid _:=d;have n:=((vaa w.heap.size w).alloc IB (.cells #[.I 1,.I p,.I b,.slice l le ce,.slice k lk f,.slice h lo dV,.slice j nl g] 34)).drew;have v:Hid _:=n;clear o r d ht n;go_enter (bo (upd:=true) func26 AT),ntmps26
 go_wp2_with fail
 go_region_held3 (λW=>W.cell? (.a bs 0)=some (.S q m ts.length ct)/\W.cell? (.a w.heap.size 1)=some (.I p)/\W.cell? (.a q (m+p))=some (.slice a ts[p].length c))
  ((go_split_ands;refine⟨?_,?_,?_⟩<;>first|(exact(bm.b4 i) _ _ _ AN)|(go_keep;done)))
  (first|(go_at_call 35;refine(aqM ts[p] _ _ HC.out AY).mono ?_;rintro e w1 ⟨z,rfl,u,x,i⟩))
 have s:Hid (cC w w1):=Below.step i v.out Ab;clear i;go_wp2_with fail
 go_ret2
 exact⟨⟨_,U,u,x⟩,s.out⟩
def aqZ(bs aA aR gc:Nat)(ee:Value)(dc:List (List (Int×Int)))(w:aH)(hk:w.cell? (.a aA aR)=some (.I 2))(j:w.cell? (.a aA (aR+1))=some (.I 0))(m:w.cell? (.a bs 2)=some ee)(ht:Gp w ee dc)(o:0<dc.length)(i:dc[0]=[(1,0)]):
 Calls (aa prog true) 26 #[.P bs 0,.agg (fR 5 0 (some (.a aA aR)) 1 gc)] w λe w'=>DS w' e (some [(1,0)])/\cC w w':=by
 obtain⟨l,g,ct,a,c,rfl,t,k,d⟩:=aqW ht o;rw[i]at d k;have v:=dx m;have u:(0:Int)<(dc.length:Int):=AY;unfold fR;have b:=((bm.refl w).alloc (.cells #[.I 5,.I 0,.I 0,.N,.N,.N,.S aA aR 1 gc] 34)).drew;have h:Hid _:=aqR aA aR gc _ _ (b _ _ _ hk) (b _ _ _ j) (bw.mono oH b d);unfold fR at h;have q:Hid _:=((vaa w.heap.size w).alloc IB (.cells #[.I 5,.I 0,.I 0,.N,.N,.N,.S aA aR 1 gc] 34)).drew;clear b d ht hk j i;simp only[vcg]at k;go_enter (bo (upd:=true) func26 AT),ntmps26
 go_wp2_with fail
 go_region_held3 (λW=>W.cell? (.a bs 2)=some (.S l g dc.length ct)/\W.cell? (.a w.heap.size 0)=some (.I 5)/\W.cell? (.a w.heap.size 1)=some (.I 0)/\W.cell? (.a w.heap.size 2)=some (.I 0)/\W.cell? (.a w.heap.size 3)=some (.N)/\W.cell? (.a w.heap.size 4)=some (.N)/\W.cell? (.a w.heap.size 5)=some (.N)/\W.cell? (.a w.heap.size 6)=some (.S aA aR 1 gc)/\W.cell? (.a l g)=some (.slice a [(1,0)].length c))
  ((go_split_ands;refine⟨?_,?_,?_,?_,?_,?_,?_,?_,?_⟩<;>first|(exact(bm.b4 f) _ _ _ (by assumption))|(go_keep;done)))
  (first|(go_at_call 39;refine vct h.out ?_;rintro e w1 ⟨⟨s,rfl,p,r⟩,f⟩))
 have n:Hid (cC w w1):=Below.step f q.out Ab;clear f;go_wp2_with fail
 go_ret2
 exact⟨⟨_,U,p,r⟩,n.out⟩
end
end cv
open RowKit av cv
variable{w w' w0 w2:aH}{bt dL eH ee v:Value}{b bs cap g n q size:Nat}{cs:dC}{T e:uaa}{ts:List (List bQ)}{ns:List oI}{dc:List (List (Int×Int))}{aW:ubs}{vals xs:uam}
section
attribute [local go_sem ↓] Go.wp_at_zero Go.wp_at_succ
attribute [local go_sem ↓] Go.wp_at_zero Go.wp_at_succ
def ints_at{l:uaf}(h:jB w v l){k:Nat}(hk:k<l.length):
 ∃b off cap,v=.S b off l.length cap/\b<w.heap.size/\w.cell? (.a b (off+k))=some (.I l[k]):=by
 obtain⟨d,cap,rfl,c,a⟩:=h;obtain⟨b,off,rfl,h0⟩:=a k hk;simp[q9]at h0;exact⟨b,off,cap,U,dx h0,h0⟩
theorem jB.box(h:ag w b cs T)(xs:uaf)(cap:Nat)(a:xs.length<=9223372036854775807)(c:∀i(h:i<xs.length),cs[i]?=some (.I xs[i])):jB w (.S b 0 xs.length cap) xs:=
 ⟨_,cap,U,a,λi hi=>⟨b,0,U,by simp[q9];rw[h.rules.1 i];grind⟩⟩
structure Ng(w:aH)(bs:Nat)(eH bt ee dL:Value)(ts:List (List bQ))(ns:List oI)(dc:List (List (Int×Int)))(aW:ubs):Prop where
 cw:w.cell? (.a bs 0)=some eH
 c1:w.cell? (.a bs 1)=some bt
 cg:w.cell? (.a bs 2)=some ee
 du:w.cell? (.a bs 3)=some dL
 AG:BS w eH ts
 nodes:Qs w bt ns
 types:Gp w ee dc
 taken:If w dL aW
theorem Ng.mono(hk:bm w w')(h:Ng w bs eH bt ee dL ts ns dc aW):Ng w' bs eH bt ee dL ts ns dc aW:=
 ⟨hk _ _ _ h.cw,hk _ _ _ h.c1,hk _ _ _ h.cg,hk _ _ _ h.du,h.AG.mono LQ hk,h.nodes.mono Qr hk,h.types.mono aqV hk,h.taken.mono Qn hk⟩
def JE(h:ag w b cs T):w.shape? b=some (T,cs.size):=by grind[ag,World.shape?]
def fB.ne{a:uaa}{off c:Nat}(h:fB T w (.S b off n c))(hg:ag w g cs a)(d:T≠a):b≠g:=by rintro rfl;obtain⟨k,hk⟩:=h _ _ _ _ U;rw[JE hg]at hk;grind
theorem bw.typed{ao:Type}{sz:Nat}{R:aH->(Nat->Option Value)->ao->Prop}{xs:List ao}(h:bw w sz R v xs)(k:∀rd a x,(∀j,a j=rd j)->R w rd x->R w' a x)(hk:∀b off n c,v=.S b off n c->∀o,w'.cell? (.a b o)=w.cell? (.a b o)):bw w' sz R v xs:=by
 obtain⟨f,cap,rfl,d,e⟩:=h;refine⟨f,cap,U,d,λi hi=>?_⟩;obtain⟨b,off,rfl,g⟩:=e i hi;grind
def gR.zc{l:uah}(h:gR w v l)(hk:∀b off n c,v=.S b off n c->w'.heap[b]?=w.heap[b]?):gR w' v l:=by refine bw.typed h ?_ (λb off n c e o=>vam (w:=w) AN);intro rd f x d a;exact⟨by rw[d];exact a.1,by rw[d];exact a.2⟩
def jB.zc{l:uaf}(h:jB w v l)(hk:∀b off n c,v=.S b off n c->w'.heap[b]?=w.heap[b]?):jB w' v l:=by grind[bw.typed,World.cell?_of_block,q9]
def fB.zc(h:fB T w v)(hk:∀b off n c,v=.S b off n c->w'.heap[b]?=w.heap[b]?):fB T w' v:=by intro b off n c e;obtain⟨k,a⟩:=h b off n c e;grind[World.shape?]
structure Own(w0 w:aH)(bs:Nat)(eH bt ee dL:Value)(ts:List (List bQ))(ns:List oI)(dc:List (List (Int×Int)))(aW:ubs)(vals:uam):Prop where
 below:cC w0 w
 AG:BS w0 eH ts
 nodes:Qs w0 bt ns
 Gr:w0.heap.size<=bs
 box:ag w bs #[eH,bt,ee,dL] 74
 rx:w.ownsRow w0.heap.size 69 1 ee dc.length vals
 qK:w.ownsRow w0.heap.size 4 1 dL aW.length (aW.map .bool)
 small:dc.length<=1000
 Nh:aW.length<=1000
 each:∀j(h:j<dc.length),∃v,vals[j]?=some v/\gR w v dc[j]/\fB 105 w v
def If.Ft{base:Nat}{l:ubs}(h:w.ownsRow base e 1 v l.length (l.map .bool))(a:l.length<=9223372036854775807):If w v l:=by
 have b:=h;rcases b.2 with⟨rfl,h0⟩|⟨g,cap,bc,rfl,c⟩
 .grind[bw.nil]
 .refine⟨_,cap,U,a,λi hi=>⟨g,0,U,?_⟩⟩;simp[BR];grind[B8]
def Gp.Ft{base:Nat}{l:List (List (Int×Int))}(h:w.ownsRow base e 1 v l.length vals)(b:l.length<=9223372036854775807)(c:∀j(h:j<l.length),∃v,vals[j]?=some v/\gR w v l[j]):Gp w v l:=by
 have d:=h;rcases d.2 with⟨rfl,h0⟩|⟨g,cap,bc,rfl,a⟩
 .grind[bw.nil]
 .refine⟨_,cap,U,b,λi hi=>⟨g,0,U,?_⟩⟩;obtain⟨u,f,a⟩:=c i hi;refine⟨u,?_,a⟩;simp;grind[B8]
def Own.aq0(h:Own w0 w bs eH bt ee dL ts ns dc aW vals):Ng w bs eH bt ee dL ts ns dc aW:=by have e:=h.box.rules.1;have c:=bm.b4 h.below;have hs:=h.small;have f:=h.Nh;exact⟨AN,AN,AN,AN,h.AG.mono LQ c,h.nodes.mono Qr c,Gp.Ft h.rx AY (λj d=>let⟨v,a,b,_⟩:=h.each j d;⟨v,a,b⟩),If.Ft h.qK AY⟩
theorem Own.call(h:Own w0 w bs eH bt ee dL ts ns dc aW vals)(d:cC w w'):Own w0 w' bs eH bt ee dL ts ns dc aW vals:=
 ⟨h.below.trans (d.mono h.below.size),h.AG,h.nodes,h.Gr,h.box.call d,Yo h.rx d,Yo h.qK d,h.small,h.Nh,λj e=>let⟨v,a,b,c⟩:=h.each j e;⟨v,a,bw.mono oH (bm.b4 d) b,c.call d⟩⟩
theorem aq1{base:Nat}(h:w.ownsRow base e 1 (.S g 0 n cap) n xs)(f:q<n)(u:Value):(w.setCell ⟨g,q,none⟩ u).ownsRow base e 1 (.S g 0 n cap) n (xs.set q u):=by
 obtain⟨i,d⟩:=h;rcases d with⟨h0,_⟩|⟨g',cap',bc,hv,c,hg,b,a,hs,ht⟩
 .grind
 .simp at hv;obtain⟨rfl,rfl⟩:=hv;refine⟨AN,.inr ⟨g,cap,bc.setIfInBounds q u,U,c,?_,b,a,AN,?_⟩⟩
  .exact ag.set (show ag w g bc e from hg) q u
  .rw[Array.toList_setIfInBounds,List.take_set,ht]
def Own.take{gk r7 k:Nat}(h:Own w0 w bs eH bt ee (.S gk 0 r7 k) ts ns dc aW vals)(hq:q<aW.length):
 Own w0 (w.setCell ⟨gk,q,none⟩ (.T)) bs eH bt ee (.S gk 0 r7 k) ts ns dc (aW.set q true) vals:=by
 have hok:=h.qK;have i:r7=aW.length:=by
  rcases hok.2 with⟨h0,_⟩|⟨g,c,bc,h0,_⟩
  .grind
  grind
 subst i;obtain⟨f,t⟩:=hok.lt gk U;obtain⟨bc,l⟩:∃bc,ag w gk bc 4:=by
  rcases hok.2 with⟨h0,_⟩|⟨g,c,bc,h0,_,hg,_⟩
  .grind
  .simp only[Value.slice.injEq,vbk,Addr.mk.injEq,and_true]at h0;obtain⟨rfl,-,-⟩:=h0;exact⟨bc,hg⟩
 have m:∀{T:uaa}{v:Value},fB T w v->T≠4->∀b off n c,v=.S b off n c->(w.setCell ⟨gk,q,none⟩ (.T)).heap[b]?=w.heap[b]?:=by intro T v hv r b off n c e;subst e;exact vav _ _ _ _ (hv.ne l r)
 refine⟨h.below.setCell f _,h.AG,h.nodes,h.Gr,?_,?_,?_,h.small,by simpa using h.Nh,?_⟩
 .refine h.box.fL ?_ _;rintro rfl;have s:=JE h.box;rw[JE l]at s;grind
 .refine⟨h.rx.1,?_⟩;rcases h.rx.2 with hn|⟨g,cap,d,e,p,hg,rest⟩
  .grind
  .refine .inr ⟨g,cap,d,e,p,?_,rest⟩;rw[vav _ _ _ _ (show g≠gk from ?_)]
   .exact hg
   .rintro rfl;grind[ag]
 .grind[aq1,List.map_set]
 .intro j o;obtain⟨v,a,b,c⟩:=h.each j o;exact⟨v,a,b.zc AN,c.set _ _⟩
def aq5{base:Nat}(h:w.ownsRow base e size (.S g 0 n cap) n xs):∃bc,ag w g bc e:=by
 rcases h.2 with⟨h0,_⟩|⟨g',c,bc,h0,_,hg,_⟩
 .grind
 .simp only[Value.slice.injEq,vbk,Addr.mk.injEq,and_true]at h0;obtain⟨rfl,-,-⟩:=h0;exact⟨bc,hg⟩
theorem w5{base:Nat}(h:w.ownsRow base e size v n xs)(hg:v.ownBlock=some g):∃bc,ag w g bc e:=by
 rcases h.2 with⟨rfl,_⟩|⟨g',c,bc,rfl,_,a,_⟩
 .simp[Value.ownBlock]at hg
 .simp[Value.ownBlock]at hg;subst hg;exact⟨bc,a⟩
def ag.ne{a:Nat}{g i:dC}{d c:uaa}(f:ag w a g d)(e:ag w b i c)(h:d≠c):a≠b:=by rintro rfl;have:=JE f;rw[JE e]at this;grind
theorem Gs{base:Nat}(h:w.ownsRow base e size v n xs)(hk:∀g,v.ownBlock=some g->w'.heap[g]?=w.heap[g]?):w'.ownsRow base e size v n xs:=by
 refine⟨h.1,?_⟩;rcases h.2 with hn|⟨g,cap,bc,rfl,a,b,rest⟩
 .grind
 .exact .inr ⟨g,cap,bc,U,a,by rw[hk g U];grind,rest⟩
def Own.aq6(h:Own w0 w bs eH bt ee dL ts ns dc aW vals){f:Value}{l:uah}(hv:gR w f l)(s:fB 105 w f)(z:dc.length+1<=1000)(L:w2.ownsRow w0.heap.size 69 1 (.S g 0 (dc.length+1) cap) (dc.length+1) (vals++[f]))(q:(w.alloc (.cells #[f] 69)).grownBy w2 ee.ownBlock):
 Own w0 (w2.setCell ⟨bs,2,none⟩ (.S g 0 (dc.length+1) cap)) bs eH bt (.S g 0 (dc.length+1) cap) dL ts ns (dc++[l]) aW (vals++[f]):=by
 have d:=h.call ((vaa w.heap.size w).alloc AN (.cells #[f] 69));have K:gR (w.alloc (.cells #[f] 69)) f l:=bw.mono oH ((bm.refl w).alloc _) hv;have M:fB 105 (w.alloc (.cells #[f] 69)) f:=s.call ((vaa w.heap.size w).alloc AN _);generalize w.alloc (.cells #[f] 69)=w1 at *;clear h hv s;have C:∀k,ee.ownBlock=some k->w0.heap.size<=k:=λk hk=>(d.rx.lt k hk).1;have y:cC w0 w2:=d.below.grown q d.below.size C;have hst:∀{T:uaa}{b:Nat}{cs:dC},ag w1 b cs T->T≠69->w2.heap[b]?=w1.heap[b]?:=by intro T b cs o p;refine q.block b o.lt (λe=>?_);obtain⟨bc,m⟩:=w5 d.rx e.symm;exact o.ne m p U
 have t:ag w2 bs #[eH,bt,ee,dL] 74:=by have:=hst d.box AX;unfold ag;rw[this];exact d.box
 have H:∀{T:uaa}{b:Nat}{cs:dC},ag w2 b cs T->T≠74->(w2.setCell ⟨bs,2,none⟩ (.S g 0 (dc.length+1) cap)).heap[b]?=w2.heap[b]?:=by intro T b cs o p;exact vav _ _ _ _ (o.ne t p)
 have I:∀{v:Value}{l:uah},gR w1 v l->fB 105 w1 v->gR (w2.setCell ⟨bs,2,none⟩ (.S g 0 (dc.length+1) cap)) v l/\fB 105 (w2.setCell ⟨bs,2,none⟩ (.S g 0 (dc.length+1) cap)) v:=by
  intro v l A r;have hk:∀b off n c,v=.S b off n c->(w2.setCell ⟨bs,2,none⟩ (.S g 0 (dc.length+1) cap)).heap[b]?=w1.heap[b]?:=by
   intro b off n c e;obtain⟨k,hk⟩:=r b off n c e;obtain⟨cs,i⟩:∃cs fr,w1.heap[b]?=some (.cells cs 105 fr):=by simp[World.shape?]at hk;grind
   obtain⟨fr,i⟩:=i;have E:w2.heap[b]?=w1.heap[b]?:=by refine q.block b AN (λe=>?_);obtain⟨bc,m⟩:=w5 d.rx e.symm;grind[ag]
   rw[vav _ _ _ _ (show b≠bs from ?_),E];rintro rfl;grind[ag]
  exact⟨A.zc hk,r.zc hk⟩
 refine⟨y.setCell d.Gr _,d.AG,d.nodes,d.Gr,t.set 2 _,?_,?_,AN,d.Nh,?_⟩
 .grind[Gs,w5]
 .refine Gs d.qK (λg' x=>?_);obtain⟨bc,m⟩:=w5 d.qK x;have J:=hst m AX;have D:ag w2 g' bc 4:=by grind[ag]
  grind
 .intro j B;rw[List.length_append,List.length_singleton]at B;have F:vals.length=dc.length:=by have:=d.rx.1;omega
  by_cases u:j<dc.length
  .obtain⟨v,a,b,c⟩:=d.each j u;grind
  grind
def Own.aq8(h:Own w0 w bs eH bt ee dL ts ns dc aW vals)(t:aW.length+1<=1000)(D:w2.ownsRow w0.heap.size 4 1 (.S g 0 (aW.length+1) cap) (aW.length+1) (aW.map .bool++[.F]))(o:(w.alloc (.cells #[.F] 4)).grownBy w2 dL.ownBlock):
 Own w0 (w2.setCell ⟨bs,3,none⟩ (.S g 0 (aW.length+1) cap)) bs eH bt ee (.S g 0 (aW.length+1) cap) ts ns dc (aW++[false]) vals:=by
 have d:=h.call ((vaa w.heap.size w).alloc AN (.cells #[.F] 4));generalize w.alloc (.cells #[.F] 4)=w1 at *;clear h;have y:∀k,dL.ownBlock=some k->w0.heap.size<=k:=λk hk=>(d.qK.lt k hk).1;have s:cC w0 w2:=d.below.grown o d.below.size y;have hst:∀{T:uaa}{b:Nat}{cs:dC},ag w1 b cs T->T≠4->w2.heap[b]?=w1.heap[b]?:=by intro T b cs l m;refine o.block b l.lt (λe=>?_);obtain⟨bc,i⟩:=w5 d.qK e.symm;exact l.ne i m U
 have q:ag w2 bs #[eH,bt,ee,dL] 74:=by have:=hst d.box AX;unfold ag;rw[this];exact d.box
 have B:∀{T:uaa}{b:Nat}{cs:dC},ag w2 b cs T->T≠74->(w2.setCell ⟨bs,3,none⟩ (.S g 0 (aW.length+1) cap)).heap[b]?=w2.heap[b]?:=by intro T b cs l m;exact vav _ _ _ _ (l.ne q m)
 refine⟨s.setCell d.Gr _,d.AG,d.nodes,d.Gr,q.set 3 _,?_,?_,d.small,AN,?_⟩
 .refine Gs d.rx (λg' r=>?_);obtain⟨bc,i⟩:=w5 d.rx r;have C:=hst i AX;have z:ag w2 g' bc 69:=by grind[ag]
  grind
 .grind[Gs,w5]
 .intro j x;obtain⟨v,a,u,p⟩:=d.each j x;have hk:∀b off n c,v=.S b off n c->(w2.setCell ⟨bs,3,none⟩ (.S g 0 (aW.length+1) cap)).heap[b]?=w1.heap[b]?:=by
   intro b off n c e;obtain⟨k,hk⟩:=p b off n c e;obtain⟨cs,f⟩:∃cs fr,w1.heap[b]?=some (.cells cs 105 fr):=by simp[World.shape?]at hk;grind
   obtain⟨fr,f⟩:=f;have A:w2.heap[b]?=w1.heap[b]?:=by refine o.block b AN (λe=>?_);obtain⟨bc,i⟩:=w5 d.qK e.symm;grind[ag]
   rw[vav _ _ _ _ (show b≠bs from ?_),A];rintro rfl;grind[ag]
  exact⟨v,a,u.zc hk,p.zc hk⟩
def Own.aq9(h:Own w0 w bs eH bt ee dL ts ns dc aW vals){o:Obj}(c:(w.alloc o).grownBy w2 ee.ownBlock):ag w2 bs #[eH,bt,ee,dL] 74:=by have a:=h.call ((vaa w.heap.size w).alloc AN o);refine a.box.grown c (λg hg=>?_);obtain⟨bc,b⟩:=w5 a.rx hg;exact a.box.ne b AX
def Own.aq_(h:Own w0 w bs eH bt ee dL ts ns dc aW vals){o:Obj}(c:(w.alloc o).grownBy w2 dL.ownBlock):ag w2 bs #[eH,bt,ee,dL] 74:=by have a:=h.call ((vaa w.heap.size w).alloc AN o);refine a.box.grown c (λg hg=>?_);obtain⟨bc,b⟩:=w5 a.qK hg;exact a.box.ne b AX
def Nj{x:Value}(h:ag w b #[x] T):∀j u,([x]:uam)[j]?=some u->w.cell? (.a b j)=some u:=by intro j u a;rw[h.rules.1 j];grind
def lF(aW:ubs)(cs:uaf):List Bool:=cs.foldl (λt c=>t.set c.toNat true) aW
theorem z4(aW:ubs)(cs:uaf):(lF aW cs).length=aW.length:=by induction cs generalizing aW with|nil=>rfl|cons c r a=>simp_all[lF]
theorem ara(aW:ubs)(cs:uaf)(c:Int):lF aW (cs++[c])=(lF aW cs).set c.toNat true:=by simp[lF]
end
namespace cv
open RowKit av
@[simp] theorem aCF:cSf true 51:=cN (bo (upd:=true) func51 AT) AT
@[simp] theorem aCG:cSf true 31:=cN (bo (upd:=true) func31 AT) AT
theorem ary(s:ByteArray)(w:aH)(hs:s.size<=1000000):
 Calls (aa prog true) 51 #[.string s] w λe w'=>e=.returned (.string s)/\cC w w':=by
 by_cases h0:s.size=0
 .have h:s=⟨#[]⟩:=ByteArray.ext (Array.eq_empty_of_size_eq_zero h0);subst h;go_enter (bo (upd:=true) func51 AT),ntmps51
  go_wp2
  go_ret
  exact⟨U,vaa _ _⟩
 obtain⟨i,hi,m,hsz,C⟩:=vbt (show(prog.info? 5).map (λi=>(i.zero,i.size,i.bytes))=some (some (.int .u8 0),1,1)from AU);have d:(aa prog true).underlying 196=some (.slice 5):=(qc _ _ _).trans underlying196;have g:(aa prog true).underlying 197=some (.pointer 5):=(qc _ _ _).trans underlying197;have l:(aa prog true).info? 5=some i:=hi;obtain⟨A,o,v⟩:∃A:Array Value,A=madeCells (Value.int .u8 0).cells ((s.size:Int).toNat*i.size)/\A.size=s.size:=⟨_,U,by grind[size_madeCells]⟩;have z:∀W:aH,(Instr.makeSlice 196 (.I (s.size:Int)) (.I (s.size:Int))).run (aa prog true) W=.ok (.S W.heap.size 0 s.size s.size) (W.alloc (.cells A 5)):=λW=>by have:=run_make (P:=aa prog true) W 196 5 i _ d l m .i64 .i64 s.size s.size AY (Int.le_refl _) AN AY;grind
 have a:=heap_alloc_new w (.cells A 5);have y:=Lib.run_copy_row_string (P:=aa prog true) (w.alloc (.cells A 5)) 196 9 3 5 w.heap.size 0 s.size s.size s A 5 d AN a IB AY;obtain⟨B,f,b⟩:∃B:Array Value,B=(A.toList.take 0++Lib.byteCells s.data.toList++A.toList.drop (0+s.size)).toArray/\B.toList=Lib.byteCells s.data.toList:=⟨_,U,by
  simp_all⟩
 rw[<-f]at y;have r:((w.alloc (.cells A 5)).setRow w.heap.size B).heap[w.heap.size]?=some (.cells B 5 (0,0)):=setRow_heap _ _ A _ 5 (0,0) a;have u:B.size=s.size:=by grind[Lib.byteCells_length,Lib.size_eq]
 have c:=Lib.run_unsafeString_row (P:=aa prog true) ((w.alloc (.cells A 5)).setRow w.heap.size B) 197 3 9 5 g (by grind[Program.cellsOf]) w.heap.size B.size (by grind[World.shape?]) s.data.toList (λe=>h0 (by rw[Lib.size_eq,e];rfl)) BB (by grind[Lib.size_eq])
  (λj x n=>Lib.cells_of_row r B.size j _ (by rw[vcp AN,b];simp[Lib.byteCells,n]))
 rw[<-Lib.size_eq]at c;clear o f a;go_enter (bo (upd:=true) func51 AT),ntmps51
 go_wp2
 go_ret
 have t:cC w (w.alloc (.cells A 5)):=(vaa _ w).alloc IB _;have q:Below w.heap.size (w.alloc (.cells A 5)) ((w.alloc (.cells A 5)).setRow w.heap.size B):=⟨U,U,U,Ab,λk hk=>setRow_other _ _ _ _ AY⟩;exact⟨U,Lib.below_freeze (t.trans q) (p:=⟨w.heap.size,0,none⟩) IB _⟩
def Tm(s:ByteArray)(w:aH)(hs:s.size<=1000000):
 Calls (aa prog true) 31 #[.string s] w λe w'=>e=.returned (.string s)/\cC w w':=by
 go_enter (bo (upd:=true) func31 AT),ntmps31
 go_wp2
 refine(ary s w hs).mono ?_;rintro e w' ⟨rfl,a⟩;go_wp2
 go_ret
 simp_all
