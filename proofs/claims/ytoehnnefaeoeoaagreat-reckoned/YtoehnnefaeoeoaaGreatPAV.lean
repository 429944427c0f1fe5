import Derived.Test.YtoehnnefaeoeoaaGreatPAT
import Derived.Test.YtoehnnefaeoeoaaGreatPAU
set_option linter.all false
set_option maxRecDepth 100000
set_option maxHeartbeats 16000000
namespace Go.Proofs.YtoehnnefaeoeoaaGreat
open Go.Proofs.Tryz
namespace bD
open Conc ConcM RowKit az bu cZ dD b_ cA
variable {l:List Value}{u:Value}
section
section
variable {ρ:ay}
theorem TY:∀{l b:List Value},l.length=b.length->(∀(i:Nat)(v a:Value),l[i]?=some v->b[i]?=some a->aA ρ v a)->dJ (aA ρ) l b
 | [],[],_,_=>.nil
 | [],_::_,c,_=>AU
 | _::_,[],c,_=>AU
 | _::_,_::_,c,h=>.cons (h 0 _ _ rfl rfl) (TY AU fun i v a e d=>h (i+1) v a AU AU)
theorem acy{b:Array Value}(d:l.toArray.size=b.size)(h:∀(i:Nat)(v a:Value),l.toArray[i]?=some v->b[i]?=some a->aA ρ v a):∃c,b=c.toArray/\dJ (aA ρ) l c:=by grind[TY]
theorem TZ(h:aA ρ (.tuple l.toArray) u):∃a,u=.tuple a.toArray/\dJ (aA ρ) l a:=by cases h with|tuple b c=>obtain⟨a,rfl,k⟩:=acy b c;grind
theorem B0(h:aA ρ (.agg l.toArray) u):∃a,u=.agg a.toArray/\dJ (aA ρ) l a:=by cases h with|agg b c=>obtain⟨a,rfl,k⟩:=acy b c;grind
theorem jJ{k:IntKind}{n:Int}(h:aA ρ (.int k n) u):u=.int k n:=by cases h;rfl
theorem acz{b:Bool}(h:aA ρ (.bool b) u):u=.bool b:=by cases h;rfl
theorem pg{l c:Nat}(h:aA ρ (.slice none l c) u):u=.slice none l c:=by cases h;rfl
theorem B1{b o l c:Nat}(h:aA ρ (.slice (some ⟨b,o,none⟩) l c) u):∃a,u=.slice (some ⟨a,o,none⟩) l c/\ρ.rel b a:=by cases h with|@slice _ a' _ _ r=>obtain⟨a,o',d⟩:=a';obtain⟨e,g,f⟩:=r;grind
theorem acA{a:Option Addr}{l c:Nat}(h:aA ρ (.slice a l c) u):∃b,u=.slice b l c:=by cases h with|hA=>grind|slice=>grind
theorem y3{b o:Nat}(h:aA ρ (.pointer (some ⟨b,o,none⟩)) u):∃a,u=.pointer (some ⟨a,o,none⟩)/\ρ.rel b a:=by cases h with|@e7 _ a' r=>obtain⟨a,o',c⟩:=a';obtain⟨d,f,e⟩:=r;grind
end
variable {n0:Nat}
def cy(x:Value)(_:World)(v:Value):Prop:=v=x
theorem wL(k:IntKind)(i:Int):gR n0 (cy (.int k i)):=fun _ _ _ _ _ _ a h=>by cases h;exact jJ a
theorem T0(b:Bool):gR n0 (cy (.bool b)):=fun _ _ _ _ _ _ a h=>by cases h;exact acz a
theorem acB(a b:Int):gR n0 (cy (.agg #[.int .i64 a,.int .i64 b])):=fun _ _ _ _ _ _ c h=>by
 cases h;obtain⟨f,rfl,k⟩:=B0 c;cases k with
 |cons e k=>cases k with
  |cons d k=>cases k;rw[jJ e,jJ d];rfl
def tD(n0:Nat)(T:TypeId)(N:Nat)(w:World)(v:Value):Prop:=∃b cs,v=.pointer (some ⟨b,0,none⟩)/\n0<=b/\af w b cs T/\cs.size=N
theorem Ey(T:TypeId)(N:Nat):gR n0 (tD n0 T N):=by rintro ρ w w' v k a c ⟨b,cs,rfl,i,e,d⟩;obtain⟨j,rfl,r⟩:=y3 c;obtain⟨h,g,f⟩:=a.types _ _ _ _ _ r e;exact⟨j,h,rfl,a.new _ _ r i,g,f.trans d⟩
def kz(t:List br)(w:World)(v:Value):Prop:=∃dg kR dI v',v=.slice (some ⟨dg,kR,none⟩) 1 dI/\w.cell? ⟨dg,kR,none⟩=some v'/\lV w v' t
theorem Ak(t:List br):gR n0 (kz t):=by rintro ρ w w' v l b d ⟨i,a,j,x,rfl,h,g⟩;obtain⟨c,rfl,r⟩:=B1 d;obtain⟨k,f,e⟩:=b.cells ⟨i,a,none⟩ ⟨c,a,none⟩ x ⟨r,rfl,rfl⟩ h;exact⟨c,a,j,k,rfl,f,az.bd.cw yG b.cells e g⟩
theorem acC{ρ:ay}{w w':World}(u:vg ρ w w'){nb d no:Nat}(r:ρ.rel nb d){op:Int}{e:Option Addr}{n c:Nat}(h:nP w nb no op (.slice e n c)):∃b,aA ρ (.slice e n c) (.slice b n c)/\nP w' d no op (.slice b n c):=by have key:∀j v,(eY op (.slice e n c))[j]?=some v->∃f,w'.cell? ⟨d,no+j,none⟩=some f/\aA ρ v f:=fun j v a=>u ⟨nb,no+j,none⟩ ⟨d,no+j,none⟩ v ⟨r,rfl,rfl⟩ (h j v a);obtain⟨B,h0,y⟩:=key 0 _ rfl;obtain⟨D,k,s⟩:=key 1 _ rfl;obtain⟨F,i,z⟩:=key 2 _ rfl;obtain⟨H,x,l⟩:=key 3 _ rfl;obtain⟨C,g,t⟩:=key 4 _ rfl;obtain⟨E,m,q⟩:=key 5 _ rfl;obtain⟨A,o,p⟩:=key 6 _ rfl;rw[jJ y]at h0;rw[jJ s]at k;rw[jJ z]at i;rw[pg t]at g;rw[pg q]at m;rw[pg p]at o;obtain⟨b,rfl⟩:=acA l;refine⟨b,l,fun j v a=>?_⟩;match j with|0=>cases a;exact h0|1=>cases a;exact k|2=>cases a;exact i|3=>cases a;exact x|4=>cases a;exact g|5=>cases a;exact m|6=>cases a;exact o|j+7=>simp[eY]at a
def kA(es:List (List cd))(w:World)(v:Value):Prop:=∃nb no bj dV ec,v=.slice (some ⟨nb,no,none⟩) 2 bj/\nP w nb no 1 (.slice none 0 0)/\nP w nb (no+7) 3 (.slice dV 7 ec)/\mP w (.slice dV 7 ec) es
theorem Al(es:List (List cd)):gR n0 (kA es):=by rintro ρ w w' v m a c ⟨nb,no,j,o,ec,rfl,f,e,d⟩;obtain⟨l,rfl,r⟩:=B1 c;obtain⟨n,g,b⟩:=acC a.cells r f;obtain⟨h,k,i⟩:=acC a.cells r e;have:=pg g;rw[this]at b;exact⟨l,no,j,h,ec,rfl,b,i,az.bd.cw yH a.cells k d⟩
def T1(l:List (Int×Int))(w:World)(x:Value):Prop:=∃g c v,x=.slice (some ⟨g,0,none⟩) 2 c/\w.cell? ⟨g,1,none⟩=some v/\fh w v l
theorem atx(l:List (Int×Int)):gR n0 (T1 l):=by rintro ρ w w' v k a d ⟨g,c,x,rfl,i,h⟩;obtain⟨b,rfl,r⟩:=B1 d;obtain⟨j,f,e⟩:=a.cells ⟨g,1,none⟩ ⟨b,1,none⟩ x ⟨r,rfl,rfl⟩ i;exact⟨b,c,j,rfl,f,az.bd.cw ame a.cells e h⟩
def tE:Value:=.agg #[.int .i64 0,.slice none 0 0]
theorem T2{ρ:ay}(h:aA ρ tE u):u=tE:=by
 obtain⟨c,rfl,k⟩:=B0 h;cases k with
 |cons b k=>cases k with
  |cons a k=>cases k;rw[jJ b,pg a];rfl
def J7(rs:List dY)(w:World)(u:Value):Prop:=∃a9,u=.tuple #[a9,.int .i64 0,tE]/\g9 w a9 rs
theorem aty(rs:List dY):gR n0 (J7 rs):=by
 rintro ρ w w' v f b a ⟨a9,rfl,h⟩;obtain⟨g,rfl,k⟩:=TZ a;cases k with
 |cons e k=>cases k with
  |cons d k=>cases k with
   |cons c k=>cases k;exact⟨_,by rw[jJ d,T2 c],az.bd.cw m0 b.cells e h⟩
theorem Oi{ρ:ay}{w w':World}(i:Bx n0 ρ w w'){v f:Value}(g:aA ρ v f){e:TypeId}(h:xO w v e):xO w' f e:=by
 intro b d;cases g with
 |@slice a a' l c r=>simp[Value.ownBlock]at d;subst d;obtain⟨c,z,j⟩:=h a.block rfl;obtain⟨m,k,-⟩:=i.types _ _ _ _ _ r.1 j;grind
 | _=>cases d
theorem Oj(t:List br):gR n0 fun w v=>iB w v t:=by rintro ρ w w' v L a c ⟨⟨P,cap,rfl,hl,J⟩,ht⟩;obtain⟨K,rfl⟩:=acA c;refine⟨⟨K,cap,rfl,hl,fun i hi=>?_⟩,Oi a c ht⟩;obtain⟨b,off,rfl,bQ,vs,O,h0,B,A,z,y,d,p,o,n⟩:=J i hi;obtain⟨f,e,r⟩:=B1 c;cases e;have key:∀j x,w.cell? ⟨b,off+i*5+j,none⟩=some x->∃m,w'.cell? ⟨f,off+i*5+j,none⟩=some m/\aA ρ x m:=fun j x u=>a.cells ⟨b,off+i*5+j,none⟩ ⟨f,off+i*5+j,none⟩ x ⟨r,rfl,rfl⟩ u;obtain⟨M,h,F⟩:=key 0 _ h0;obtain⟨N,g1,s⟩:=key 1 _ B;obtain⟨H,E,l⟩:=key 2 _ A;obtain⟨I,C,k⟩:=key 3 _ z;obtain⟨D,q,g⟩:=key 4 _ y;rw[jJ F]at h;rw[jJ s]at g1;exact⟨f,off,rfl,H,I,D,h,g1,E,C,q,⟨az.bd.cw RV a.cells l d.jP,az.bd.cw Zm a.cells k d.hQ,az.bd.cw Zl a.cells g d.fY⟩,Oi a l p,Oi a k o,Oi a g n⟩
def rW(t:List br)(w:World)(u:Value):Prop:=∃a9,u=.tuple #[.agg #[a9],.int .i64 0,tE]/\iB w a9 t
theorem Ok(t:List br):gR n0 (rW t):=by
 rintro ρ w w' v f b a ⟨a9,rfl,h⟩;obtain⟨g,rfl,k⟩:=TZ a;cases k with
 |cons e k=>cases k with
  |cons d k=>cases k with
   |cons c k=>cases k;obtain⟨m,rfl,q⟩:=B0 e;cases q with|cons q1 q=>cases q;exact⟨_,by rw[jJ d,T2 c],Oj t _ _ _ _ _ b q1 h⟩
end
end bD
namespace cA
open RowKit az bD
theorem atz(w:World):Calls (ai prog true) 42 #[.agg (eY 1 (.slice none 0 0))] w fun e w'=>e=.returned (.bool true)/\Below w.heap.size w w':=by
 unfold eY;go_enter (bl (upd:=true) func42 AS),ntmps42
 go_wp2
 go_ret
 exact⟨rfl,(Below.refl _ _).alloc Jr _⟩
theorem atA(a:Option Addr)(ec:Nat)(w:World):Calls (ai prog true) 42 #[.agg (eY 3 (.slice a 7 ec))] w fun e w'=>e=.returned (.bool true)/\Below w.heap.size w w':=by
 unfold eY;go_enter (bl (upd:=true) func42 AS),ntmps42
 go_wp2
 refine(ain 7 1 8 _).mono ?_;rintro e w' ⟨rfl,rfl⟩;go_wp2
 go_ret
 exact⟨rfl,(Below.refl _ _).alloc Jr _⟩
theorem atB(a b:Nat)(fV:Option Addr)(w:World)(h0:w.cell? ⟨a,0,none⟩=some (.slice fV 1 b)):Calls (ai prog true) 41 #[.pointer (some ⟨a,0,none⟩),.agg (eY 1 (.slice none 0 0))] w fun e w'=>e=.returned (.bool true)/\Below w.heap.size w w':=by
 unfold eY;have c:=gX h0;go_enter (bl (upd:=true) func41 AS),ntmps41
 go_wp2
 go_region
 go_wp2
 go_ret
 exact⟨rfl,((Below.refl _ _).alloc Jr _).drew⟩
theorem atC(a kb kc:Nat)(w:World)(c:w.cell? ⟨a,3,none⟩=some (.slice (some ⟨kb,0,none⟩) 1 kc))(b:w.cell? ⟨kb,0,none⟩=some (.bool false)):Calls (ai prog true) 63 #[.pointer (some ⟨a,0,none⟩),.int .i64 0] w fun e w'=>e=.returned (.bool true)/\w'=w:=by
 go_enter (bl (upd:=true) func63 AS),ntmps63
 go_wp2
 go_ret
 simp_all
theorem atD(a kb kc ec:Nat)(d:Option Addr)(w:World)(c:w.cell? ⟨a,3,none⟩=some (.slice (some ⟨kb,0,none⟩) 1 kc))(b:w.cell? ⟨kb,0,none⟩=some (.bool false)):Calls (ai prog true) 41 #[.pointer (some ⟨a,0,none⟩),.agg (eY 3 (.slice d 7 ec))] w fun e w'=>e=.returned (.bool true)/\Below w.heap.size w w':=by
 unfold eY;go_enter (bl (upd:=true) func41 AS),ntmps41
 go_wp2
 refine(atC a kb kc _ (nO c _) (nO b _)).mono ?_;rintro e w' ⟨rfl,rfl⟩;go_wp2
 go_ret
 exact⟨rfl,(Below.refl _ _).alloc Jr _⟩
variable {w:World}{nb no:Nat}{ev:Value}
theorem GO{op:Int}(h:nP w nb no op ev):w.cell? ⟨nb,no,none⟩=some (.int .i64 op)/\w.cell? ⟨nb,no+1,none⟩=some (.int .i64 0)/\w.cell? ⟨nb,no+2,none⟩=some (.int .i64 0)/\w.cell? ⟨nb,no+3,none⟩=some ev/\w.cell? ⟨nb,no+4,none⟩=some (.slice none 0 0)/\w.cell? ⟨nb,no+5,none⟩=some (.slice none 0 0)/\w.cell? ⟨nb,no+6,none⟩=some (.slice none 0 0):=
 ⟨h 0 _ rfl,h 1 _ rfl,h 2 _ rfl,h 3 _ rfl,h 4 _ rfl,h 5 _ rfl,h 6 _ rfl⟩
theorem GP{w':World}{op:Int}(h:nP w nb no op ev)(b:bC w w'):nP w' nb no op ev:=fun j v a=>b _ _ _ (h j v a)
theorem atE(a c nb no j:Nat)(fV:Option Addr)(w:World)(h0:w.cell? ⟨a,0,none⟩=some (.slice fV 1 c))(l:w.cell? ⟨a,1,none⟩=some (.slice (some ⟨nb,no,none⟩) 2 j))(k:nP w nb no 1 (.slice none 0 0)):Calls (ai prog true) 33 #[.pointer (some ⟨a,0,none⟩),.int .i64 0] w fun e w'=>e=.returned (.bool true)/\Below w.heap.size w w':=by
 obtain⟨dw,d1,gV,fS,gJ,p,o⟩:=GO k;go_enter (bl (upd:=true) func33 AS),ntmps33
 go_wp2
 refine(atB a c fV _ (nO h0 _)).mono ?_;rintro e w1 ⟨rfl,b⟩;have cV:=(af.new w (eY 1 (.slice none 0 0)) 37).call b;obtain⟨i,n,m⟩:=cV.all;have d:Hid (Below w.heap.size w w1):=Below.step b ((Below.refl _ _).alloc Jr _) Aa;clear b cV;unfold eY at i;go_wp2
 refine(atz _).mono ?_;rintro e g ⟨rfl,f⟩;have h:Hid (Below w.heap.size w g):=Below.step f d.out d.out.size;clear f;go_wp2
 go_ret
 exact⟨rfl,h.out⟩
theorem atF(a kb kc nb no l ec:Nat)(b:Option Addr)(w:World)(j:w.cell? ⟨a,3,none⟩=some (.slice (some ⟨kb,0,none⟩) 1 kc))(i:w.cell? ⟨kb,0,none⟩=some (.bool false))(n:w.cell? ⟨a,1,none⟩=some (.slice (some ⟨nb,no,none⟩) 2 l))(m:nP w nb (no+7) 3 (.slice b 7 ec)):Calls (ai prog true) 33 #[.pointer (some ⟨a,0,none⟩),.int .i64 1] w fun e w'=>e=.returned (.bool true)/\Below w.heap.size w w':=by
 obtain⟨dw,d1,gV,fS,gJ,r,q⟩:=GO m;go_enter (bl (upd:=true) func33 AS),ntmps33
 go_wp2
 refine(atD a kb kc ec b _ (nO j _) (nO i _)).mono ?_;rintro e w1 ⟨rfl,c⟩;have cV:=(af.new w (eY 3 (.slice b 7 ec)) 37).call c;obtain⟨k,p,o⟩:=cV.all;have d:Hid (Below w.heap.size w w1):=Below.step c ((Below.refl _ _).alloc Jr _) Aa;clear c cV;unfold eY at k;go_wp2
 refine(atA b ec _).mono ?_;rintro e g ⟨rfl,f⟩;have h:Hid (Below w.heap.size w g):=Below.step f d.out d.out.size;clear f;go_wp2
 go_ret
 exact⟨rfl,h.out⟩
variable {w0:World}{bs:Nat}{c9 d3 ea:Value}{bJ:List (List br)}{cX:List (List (Int×Int))}
section
attribute [local go_sem ↓] Go.wp_at_zero Go.wp_at_succ
theorem atG(w:World):Calls (ai prog true) 35 #[.agg (eY 1 (.slice none 0 0))] w fun e w'=>∃v,e=.returned v/\km w' v []/\fT 3 w' v/\Below w.heap.size w w':=by
 unfold eY;go_enter (bl (upd:=true) func35 AS),ntmps35
 go_wp2
 go_ret
 exact⟨_,rfl,bd.nil _ _ _,fun _ _ _ _ e=>by simp at e,(Below.refl _ _).alloc Jr _⟩
theorem atH(a:Option Addr)(ec:Nat)(w:World):Calls (ai prog true) 35 #[.agg (eY 3 (.slice a 7 ec))] w fun e w'=>∃v,e=.returned v/\km w' v [0]/\fT 3 w' v/\Below w.heap.size w w':=by
 unfold eY;go_enter (bl (upd:=true) func35 AS),ntmps35
 go_wp2
 go_ret
 have cV:=af.new (w.alloc (.cells #[.int .i64 3,.int .i64 0,.int .i64 0,.slice a 7 ec,.slice none 0 0,.slice none 0 0,.slice none 0 0] 37)) #[.int .i64 0] 3;simp at cV;exact⟨_,rfl,km.box cV [0] 1 Aa AU,fT.box cV _ _ _,((Below.refl _ _).alloc Jr _).alloc Aa _⟩
theorem acD{i a:Nat}{op:Int}{dV:Option Addr}{hN ec:Nat}{d:List ps}{a2:List Bool}{vals:List Value}(h:Own w0 w bs ea (.slice (some ⟨nb,no,none⟩) 2 a) d3 c9 bJ d cX a2 vals)(hi:i<2)(y:cX.length<=20/\a2.length<=20)
 (aj:nP w0 nb (no+i*7) op (.slice dV hN ec)) {l:List (Int×Int)} {ch:List Int} (P:∀x∈ch,∃q:Nat,x=(q:Int)/\q<a2.length) (aFC:ch.length<=2)
 (O:Calls (ai prog true) 33 #[.pointer (some ⟨bs,0,none⟩),.int .i64 i] w fun e w'=>e=.returned (.bool true)/\Below w.heap.size w w')
 (sh:∀w',Own w0 w' bs ea (.slice (some ⟨nb,no,none⟩) 2 a) d3 c9 bJ d cX a2 vals->Calls (ai prog true) 34 #[.pointer (some ⟨bs,0,none⟩),.agg (eY op (.slice dV hN ec))] w' fun e m=>AX m e (some l)/\Below w'.heap.size w' m)
 (N:∀w',Calls (ai prog true) 35 #[.agg (eY op (.slice dV hN ec))] w' fun e m=>∃v,e=.returned v/\km m v ch/\fT 3 m v/\Below w'.heap.size w' m):
 Calls (ai prog true) 24 #[.pointer (some ⟨bs,0,none⟩),.int .i64 i] w fun e w'=>e=.returned (.int .i64 0)/\∃T3 T4 T5,Own w0 w' bs ea (.slice (some ⟨nb,no,none⟩) 2 a) T3 T4 bJ d (cX++[l]) (mV a2 ch++[false]) T5:=by
 have zu:Hid _:=y;have mi:Hid _:=aj;have HC:Hid _:=sh;have p:Hid _:=N;have atI:Hid _:=P;have M:Hid (Own w0 w bs ea (.slice (some ⟨nb,no,none⟩) 2 a) d3 c9 bJ d cX a2 vals):=h;have L:Hid _:=O;have ql:(0:Int)<=(i:Int):=Ay;have s7:(i:Int)<2:=Ay;clear aj sh N P y h O;go_enter (bl (upd:=true) func24 AS),ntmps24
 go_wp2_with fail
 refine Calls.mono L.out ?_;rintro e w1 ⟨rfl,bm⟩;have Q:Hid (Own w0 w1 bs ea (.slice (some ⟨nb,no,none⟩) 2 a) d3 c9 bJ d cX a2 vals):=M.out.call bm;obtain⟨dW,er,fx⟩:=Q.out.box.all;obtain⟨dw,d1,gV,fS,gJ,d5,d6⟩:=GO (GP mi.out (bC.cW Q.out.below));clear bm M L;go_wp2_with fail
 refine Calls.mono (HC.out _ Q.out) ?_;rintro e w2 ⟨⟨v1,rfl,mN,LW⟩,bY⟩;have Z:Hid (Own w0 w2 bs ea (.slice (some ⟨nb,no,none⟩) 2 a) d3 c9 bJ d cX a2 vals):=Q.out.call bY;have K:Hid (fh w2 v1 l):=mN;have J:Hid (fT 115 w2 v1):=LW;obtain⟨a1,c1,rfl,-⟩:=mN.shape;clear dW er fx dw d1 gV fS gJ d5 d6 bY mN LW Q HC;obtain⟨dW,er,fx⟩:=Z.out.box.all;obtain⟨dw,d1,gV,fS,gJ,d5,d6⟩:=GO (GP mi.out (bC.cW Z.out.below));go_wp2_with fail
 refine Calls.mono (p.out _) ?_;rintro e s ⟨aFD,rfl,j,I,g2⟩;obtain⟨ac,cc,rfl,-⟩:=j.shape;have sP:Hid (Own w0 s bs ea (.slice (some ⟨nb,no,none⟩) 2 a) d3 c9 bJ d cX a2 vals):=Z.out.call g2;have M1:Hid (fh s (.slice a1 l.length c1) l):=bd.mono s3 (bC.cW g2) K.out;have H:Hid (fT 115 s (.slice a1 l.length c1)):=J.out.call g2;have F:Hid (km s (.slice ac ch.length cc) ch):=j;have E:Hid (fT 3 s (.slice ac ch.length cc)):=I;clear dW er fx dw d1 gV fS gJ d5 d6 j I g2 K J Z p;go_wp2_with fail
 go_loopw [36] (fun x W=>∃k:Nat,k<=ch.length/\x=.int .i64 k/\Own w0 W bs ea (.slice (some ⟨nb,no,none⟩) 2 a) d3 c9 bJ d cX (mV a2 (ch.take k)) vals/\km W (.slice ac ch.length cc) ch/\fT 3 W (.slice ac ch.length cc)/\fh W (.slice a1 l.length c1) l/\fT 115 W (.slice a1 l.length c1))
  (fun x _=>ch.length-(intOf x).toNat)
 case atStart=>exact⟨0,Nat.zero_le _,rfl,by simpa[mV]using sP.out,F.out,E.out,M1.out,H.out⟩
 case round=>
  obtain⟨k,hk,rfl,dr,It,R,CZ,D⟩:=hrel;have f:Hid (Own w0 wr bs ea (.slice (some ⟨nb,no,none⟩) 2 a) d3 c9 bJ d cX (mV a2 (ch.take k)) vals):=dr;have p:Hid (km wr (.slice ac ch.length cc) ch):=It;have rX:Hid (fT 3 wr (.slice ac ch.length cc)):=R;have T6:Hid (fh wr (.slice a1 l.length c1) l):=CZ;have Ol:Hid (fT 115 wr (.slice a1 l.length c1)):=D;clear dr R CZ D sP F E M1 H;by_cases hlt:k<ch.length
  ·obtain⟨Dx,aFE,aae,M0,QH,atJ⟩:=Il p.out hlt;simp at M0;obtain⟨rfl,rfl⟩:=M0;obtain⟨q,hq,aFF⟩:=atI.out ch[k] AU;have SF:q<(mV a2 (ch.take k)).length:=by grind[X2]
   rw[hq]at atJ;have Am:Hid _:=hq;obtain⟨gk,C,rfl,XI,yX⟩:=World.ownsRow.form f.out.s_ Ay;have atK:=f.out.take SF;have hP:=f.out.box.bT.1 3;have aFG:wr.cell? ⟨bs,3,none⟩=some (.slice (some ⟨gk,0,none⟩) (mV a2 (ch.take k)).length C):=AU;have aFH:=uK f.out.s_ q (.bool (mV a2 (ch.take k))[q]) AU;obtain⟨bp,jy⟩:=ajr f.out.s_;have aFI:=jy.bT.2;have g:∀{T:TypeId}{v:Value},fT T wr v->T≠4->∀b off n c,v=.slice (some ⟨b,off,none⟩) n c->(wr.setCell ⟨gk,q,none⟩ (.bool true)).heap[b]?=wr.heap[b]?:=by intro T v hv hT b off n c e;subst e;exact Below.heap_setCell _ _ _ _ (hv.zB jy hT)
   have B:Own w0 (wr.setCell ⟨gk,q,none⟩ (.bool true)) bs ea (.slice (some ⟨nb,no,none⟩) 2 a) d3 (.slice (some ⟨gk,0,none⟩) (mV a2 (ch.take k)).length C) bJ d cX (mV a2 (ch.take (k+1))) vals:=by grind[List.take_succ_eq_append_getElem,ajx]
   have atL:Hid _:=B;have z3:Hid (km (wr.setCell ⟨gk,q,none⟩ (.bool true)) _ ch):=p.out.zC (g rX.out AW);have atM:Hid (fT 3 (wr.setCell ⟨gk,q,none⟩ (.bool true)) _):=rX.out.set _ _;have Ix:Hid (fh (wr.setCell ⟨gk,q,none⟩ (.bool true)) _ l):=T6.out.zC (g Ol.out AW);have atN:Hid (fT 115 (wr.setCell ⟨gk,q,none⟩ (.bool true)) _):=Ol.out.set _ _;have Jm:(0:Int)<=(q:Int):=Ay;have Ja:(q:Int)<((mV a2 (ch.take k)).length:Int):=Ay;have aFJ:=f.out.box.lt;clear hP g B atK jy hq It;go_wp2_with fail
   go_roundw
   case rel=>exact⟨k+1,Ay,by go_num,atL.out,z3.out,atM.out,Ix.out,atN.out⟩
   case measure=>simp[intOf];omega
  ·have Ie:ch.take k=ch:=AU;have o:Hid (Own w0 wr bs ea (.slice (some ⟨nb,no,none⟩) 2 a) d3 c9 bJ d cX (mV a2 ch) vals):=AU;clear Ie f p rX It;have ca:=o.out.box;obtain⟨R,LS,CU⟩:=ca.all;clear ca;have Y:Hid _:=L3 (af.new wr #[.slice a1 l.length c1] 80);have V:Hid (∀u∈([.slice a1 l.length c1]:List Value),u.oneCell'=true):=by intro u t;simp at t;subst t;rfl
   have X:Hid _:=o.out.tO.alloc (.cells #[.slice a1 l.length c1] 80);have S:Hid ((wr.alloc (.cells #[.slice a1 l.length c1] 80)).heap.size=wr.heap.size+1):=Bp;have U:Hid (w0.heap.size<=(wr.alloc (.cells #[.slice a1 l.length c1] 80)).heap.size):=by have:=o.out.below.size;grind[Hid]
   go_upto_region 12 with(at_builtin;refine H5 ail _ B2 _ _ B2 w0.heap.size d3 cX.length vals B2 X.out wr.heap.size 1 1 _ B2 rfl Y.out V.out Ay (by have:=zu.out;omega) (by have:=zu.out;omega) U.out (wr.heap.size+1) S.out ?_;intro gL uO w4 A T7 atO acT;obtain⟨T8,atP,nW⟩:=(o.out.ajv T7).all)
   have r:Hid (Own w0 (w4.setCell ⟨bs,2,none⟩ (.slice (some ⟨gL,0,none⟩) (cX.length+1) uO)) bs ea (.slice (some ⟨nb,no,none⟩) 2 a) (.slice (some ⟨gL,0,none⟩) (cX.length+1) uO) c9 bJ d (cX++[l]) (mV a2 ch) (vals++[.slice a1 l.length c1])):=o.out.ajs T6.out Ol.out (by have:=zu.out;omega) A T7;clear A T7 atO acT T8 atP nW Y V X S U T6 Ol o R LS CU;generalize w4.setCell ⟨bs,2,none⟩ (.slice (some ⟨gL,0,none⟩) (cX.length+1) uO)=lz at *;obtain⟨R,LS,CU⟩:=r.out.box.all;have qy:(mV a2 ch).length=a2.length:=X2 _ _;have T9:Hid ((mV a2 ch).length<=20):=by grind[Hid]
   clear qy;have Y:Hid _:=L3 (af.new lz #[.bool false] 4);have V:Hid (∀u∈([.bool false]:List Value),u.oneCell'=true):=by intro u t;simp at t;subst t;rfl
   have X:Hid _:=r.out.s_.alloc (.cells #[.bool false] 4);have S:Hid ((lz.alloc (.cells #[.bool false] 4)).heap.size=lz.heap.size+1):=Bp;have U:Hid (w0.heap.size<=(lz.alloc (.cells #[.bool false] 4)).heap.size):=by have:=r.out.below.size;grind[Hid]
   go_wp2_with (at_builtin;refine H5 LH _ B2 _ _ B2 w0.heap.size c9 (mV a2 ch).length ((mV a2 ch).map .bool) B2 X.out lz.heap.size 1 1 _ B2 rfl Y.out V.out Ay (by have:=T9.out;omega) (by have:=T9.out;omega) U.out (lz.heap.size+1) S.out ?_;intro ka aFK uX atQ z aFL acV;obtain⟨Tl,aFM,aFN⟩:=(r.out.ajw z).all)
   have atR:=r.out.aju (by have:=T9.out;omega) atQ z;go_ret
   exact⟨rfl,_,_,_,atR⟩
end
section
attribute [local go_sem ↓] Go.wp_at_zero Go.wp_at_succ
theorem atS(bs g kc:Nat)(a:Option Addr)(b:Nat)(w:World)(f:w.cell? ⟨bs,1,none⟩=some (.slice a 2 b))(d:w.cell? ⟨bs,3,none⟩=some (.slice (some ⟨g,0,none⟩) 2 kc))(c:w.cell? ⟨g,0,none⟩=some (.bool true)):
 Calls (ai prog true) 25 #[.pointer (some ⟨bs,0,none⟩)] w fun e w'=>e=.returned (.tuple #[.int .i64 0,.bool false])/\w'=w:=by
 go_enter (bl (upd:=true) func25 AS),ntmps25
 go_wp2
 go_loopw [17] (fun x W=>W=w/\(x=.int .i64 0\/x=.int .i64 1)) (fun x _=>1-(intOf x).toNat)
 case atStart=>grind
 case round=>
  obtain⟨rfl,rfl|rfl⟩:=hrel
  ·go_wp2
   simp_all[intOf]
  ·go_wp2
   go_ret2
   simp_all
theorem acW{a:Value}{d:List ps}{b:Bool}{a2:List Bool}{vals:List Value}(h:Own w0 w bs ea a d3 c9 bJ d cX (b::a2) vals):∃g c,c9=.slice (some ⟨g,0,none⟩) (a2.length+1) c/\w.cell? ⟨g,0,none⟩=some (.bool b)/\w.cell? ⟨bs,3,none⟩=some (.slice (some ⟨g,0,none⟩) (a2.length+1) c)/\w.cell? ⟨bs,1,none⟩=some a/\w.cell? ⟨bs,0,none⟩=some ea/\w.cell? ⟨bs,2,none⟩=some d3:=by obtain⟨g,c,rfl,-,-⟩:=World.ownsRow.form h.s_ Aa;have e:=h.box.bT.1;exact⟨g,c,rfl,uK h.s_ 0 (.bool b) Aa,AU,AU,AU,AU⟩
theorem atU(t:List br)(es:List (List cd))(l1:List (Int×Int))(h f k nb no m ec:Nat)(n:Option Addr)(w:World)(J8:CI w (.slice (some ⟨h,f,none⟩) 1 k) [t])(T_:ml t=true)
 (J:nP w nb no 1 (.slice none 0 0)) (I:nP w nb (no+7) 3 (.slice n 7 ec)) (K:mP w (.slice n 7 ec) es) (hes:es.length=7) (s6:∀e∈es,∀t∈e,Met t.op) (hrun:kL (qn t) es=some l1):
 Calls (ai prog true) 18 #[.slice (some ⟨h,f,none⟩) 1 k,.slice (some ⟨nb,no,none⟩) 2 m] w fun e w'=>∃g c v,e=.returned (.tuple #[.slice (some ⟨g,0,none⟩) 2 c,.int .i64 0,.int .i64 0])/\w'.cell? ⟨g,1,none⟩=some v/\fh w' v l1/\Below w.heap.size w w':=by
 have h_:t.length<=8:=by simp_all[ml]
 have hO:QE (CR (zy [t]) [t].length)=(0,false):=by
  rw[XN (fun j hj=>by
   grind[zy])]
  rfl
 have A:Qk w (.slice (some ⟨nb,no,none⟩) 2 m) [⟨1,0,0,[],[],[],[]⟩,⟨3,0,0,es,[],[],[]⟩]:=by
  refine⟨_,_,rfl,Aa,fun i hi=>⟨nb,no,rfl,?_⟩⟩;match i,hi with
  |0,_=>obtain⟨dw,d1,gV,fS,gJ,d5,d6⟩:=GO J;exact⟨_,_,_,_,AU,AU,AU,AU,AU,AU,AU,⟨bd.nil _ _ _,bd.nil _ _ _,bd.nil _ _ _,bd.nil _ _ _⟩⟩
  |1,_=>obtain⟨dw,d1,gV,fS,gJ,d5,d6⟩:=GO I;exact⟨_,_,_,_,AU,AU,AU,AU,AU,AU,AU,⟨K,bd.nil _ _ _,bd.nil _ _ _,bd.nil _ _ _⟩⟩
 have N:Hid _:=J8;have U:Hid _:=J;have J9:Hid _:=I;have z:Hid _:=K;have y:Hid _:=A;have CK:Hid _:=s6;have SA:Hid _:=hrun;clear J I K A s6 hrun J8 T_;go_enter (bl (upd:=true) func18 AS),ntmps18
 go_wp2_with fail
 refine(ai7 [t] _ _ N.out).mono ?_;rintro e w1 ⟨rfl,O⟩;rw[hO];have Y:Hid (Below w.heap.size w w1):=O;have o:=bC.cW O;have E:Hid (Own w1 (w1.alloc (.cells #[.slice (some ⟨h,f,none⟩) 1 k,.slice (some ⟨nb,no,none⟩) 2 m,.slice none 0 0,.slice none 0 0] 85)) w1.heap.size (.slice (some ⟨h,f,none⟩) 1 k) (.slice (some ⟨nb,no,none⟩) 2 m) (.slice none 0 0) (.slice none 0 0) [t] [⟨1,0,0,[],[],[],[]⟩,⟨3,0,0,es,[],[],[]⟩] [] [] []):=
  ⟨(Below.refl _ _).alloc Jr _,bd.mono LA o N.out,bd.mono Qj o y.out,Nat.le_refl _,af.new _ _ _,World.ownsRow_nil _ _ _ _,World.ownsRow_nil _ _ _ _,Aa,Aa,AU⟩
 have Z:Hid (nP w1 nb no 1 (.slice none 0 0)):=GP U.out o;have Bz:Hid (nP w1 nb (no+7) 3 (.slice n 7 ec)):=GP J9.out o;have T:Hid (mP w1 (.slice n 7 ec) es):=bd.mono ns o z.out;clear O o N U J9 z y;go_wp2_with fail
 go_loopw [27] (fun x W=>(x=.int .i64 0/\Own w1 W w1.heap.size (.slice (some ⟨h,f,none⟩) 1 k) (.slice (some ⟨nb,no,none⟩) 2 m) (.slice none 0 0) (.slice none 0 0) [t] [⟨1,0,0,[],[],[],[]⟩,⟨3,0,0,es,[],[],[]⟩] [] [] [])\/(x=.int .i64 1/\∃d3 c9 vals,Own w1 W w1.heap.size (.slice (some ⟨h,f,none⟩) 1 k) (.slice (some ⟨nb,no,none⟩) 2 m) d3 c9 [t] [⟨1,0,0,[],[],[],[]⟩,⟨3,0,0,es,[],[],[]⟩] [qn t] [false] vals)\/(x=.int .i64 2/\∃d3 c9 vals,Own w1 W w1.heap.size (.slice (some ⟨h,f,none⟩) 1 k) (.slice (some ⟨nb,no,none⟩) 2 m) d3 c9 [t] [⟨1,0,0,[],[],[],[]⟩,⟨3,0,0,es,[],[],[]⟩] [qn t,l1] [true,false] vals)) (fun x _=>2-(intOf x).toNat)
 case atStart=>exact .inl ⟨rfl,E.out⟩
 case round=>
  clear E;rcases hrel with⟨rfl,a⟩|⟨rfl,d3,c9,vals,a⟩|⟨rfl,d3,c9,vals,a⟩
  ·have b:Hid _:=a;clear a;go_wp2_with fail
   have L:=b.out.box.bT.1;refine(acD (i:=0) (l:=qn t) (ch:=[]) b.out AW Aa (by simpa using Z.out) Aa Aa (atE _ _ _ _ _ _ _ (by rw[L];rfl) (by rw[L];rfl) (GP Z.out (bC.cW b.out.below))) (fun w' d=>?_) (fun w'=>atG w')).mono ?_
   ·have:=ajj w1.heap.size 0 0 _ [t] none none none none 0 0 0 0 0 0 0 0 w' (by rw[d.box.bT.1];rfl) (bd.mono LA (bC.cW d.below) d.AZ) Aa AU;exact this
   rintro e V ⟨rfl,T3,T4,T5,r⟩;have M:Hid _:=r;clear r L b;go_wp2_with fail
   go_roundw
   case rel=>exact .inr (.inl ⟨rfl,_,_,_,M.out⟩)
   case measure=>simp[intOf]
  ·have b:Hid _:=a;obtain⟨g,c,rfl,s,u,p,-,P⟩:=acW a;clear a;have dP:Hid _:=s;have F:Hid _:=p;have H_:Hid _:=P;have H:Hid _:=u;clear s p P u;go_wp2_with fail
   refine(acD (i:=1) (l:=l1) (ch:=[0]) b.out AW Aa (by simpa using Bz.out) Aa Aa (atF _ g c _ _ _ _ _ _ H.out dP.out F.out (GP Bz.out (bC.cW b.out.below))) (fun w' d=>?_) (fun w'=>atH n ec w')).mono ?_
   ·have S:=bC.cW d.below;have:=ajk w1.heap.size 0 0 es [] [] [] d3 [qn t] (.slice n 7 ec) (.slice none 0 0) (.slice none 0 0) (.slice none 0 0) w' ⟨bd.mono ns S T.out,bd.nil _ _ _,bd.nil _ _ _,bd.nil _ _ _⟩ (by rw[d.box.bT.1];rfl) d.ajn.types Aa CK.out Ay;rw[show [qn t][0]=qn t from rfl,SA.out]at this;exact this
   rintro e V ⟨rfl,T3,T4,T5,r⟩;have M:Hid _:=r;clear r b dP F H_ H;go_wp2_with fail
   go_roundw
   case rel=>exact .inr (.inr ⟨rfl,_,_,_,M.out⟩)
   case measure=>simp[intOf]
  ·have b:Hid _:=a;obtain⟨g,c,rfl,s,u,p,-,P⟩:=acW a;obtain⟨D,C,rfl,-,-⟩:=World.ownsRow.form a.tO Aa;obtain⟨v2,X,q,-⟩:=a.each 1 Aa;have B:=uK a.tO 1 v2 X;have R:Hid _:=B;have Q:Hid _:=q;have dP:Hid _:=s;have F:Hid _:=p;have H:Hid _:=u;clear a s p u B q X;go_wp2_with fail
   refine(atS _ g c _ _ _ F.out H.out dP.out).mono ?_;rintro e V ⟨rfl,rfl⟩;go_wp2_with fail
   exact bodyPost_ret (v:=.tuple #[.slice (some ⟨D,0,none⟩) 2 C,.int .i64 0,.int .i64 0]) (by simp[results,results18,go_sem]) rfl ⟨D,C,v2,rfl,R.out,Q.out,Below.step b.out.below Y.out Y.out.size⟩
end
end cA
end Go.Proofs.YtoehnnefaeoeoaaGreat
