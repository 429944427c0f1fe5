/- Proved: the statement JoinedSaid of quarrykeep.Joined at this commit, whole and without further conditions: for every argument within the seat's bounds the call ends as the law asks, whatever the goroutines' order. The texts are packed: names shortened by program. -/
import Derived.Test.YtebcnmadaaimoaaGreatRows
import Derived.Deep.Fields
import Derived.Test.YtebcnmadaaimoaaGreatPAW
set_option linter.all false
set_option maxRecDepth 100000
set_option maxHeartbeats 16000000
namespace Go.Proofs.YtebcnmadaaimoaaGreat
open Go.Proofs.Tryz
namespace bc
open Conc ConcM RowKit az bo cF c3 bX cu ej
def aA1(a:df)(w:aL):Sem.run (ae prog true) (callFunc 10 a) w=.ok (.enter 10 a) w:=dg (bB (upd:=true) func10 AQ) AQ a w
def aA2(a:df)(w:aL):Sem.run (ae prog true) (callFunc 9 a) w=.ok (.enter 9 a) w:=dg (bB (upd:=true) func9 AQ) AQ a w
section
variable{N:Nat}{K:bJ}{o:Oper}{F:a5}{x y z u:uap}{ats:uar}
def P0{t:List aI}{n:Nat}(c:o.op=.call {callee:=.value (.func 6),args:=#[x],argTypes:=ats})(b:bl K x (mD t))(h0:0<t.length)(hn:t[0].dt.length=n):bA (ae prog true) N K o (bd (n:Int)):=OE c (λa w=>auy a w) b λv w h=>by obtain⟨bE,rfl,f⟩:=h;refine(auC bE t h0 w f.fz).mono ?_;rintro e w' ⟨rfl,d⟩;exact⟨_,U,by rw[hn];rfl,d⟩
def aA3{t:List aI}(f:o.op=.call {callee:=.value (.func 10),args:=#[x,y],argTypes:=ats})(d:bl K x (mD t))(b:bl K y (mD t))(ht:t.length<9000000000000000000)(g:∀c∈t,BO c)(hn:∀c∈t,c.dt.length<9000000000000000000):bA (ae prog true) N K o (eN true):=OF f aA1 d b λv a w h j=>by refine(az6 t ht g hn v a w h j).mono ?_;rintro e w' ⟨r,rfl,rfl,i⟩;exact⟨_,U,U,i⟩
def pC.low{B b:Nat}{W:aL}{a:Value}{cells:uad}{fz:List aI}(h:pC b W a cells fz)(c:B<=b):pC B W a cells fz:=
 ⟨⟨h.own.1,h.own.2.imp id λ⟨g,cap,bf,e,hg,r⟩=>⟨g,cap,bf,e,vad c hg,r⟩⟩,h.mR⟩
def C9(B:Nat)(t:List aI):a5:=⟨λw v=>∃bN cells,v=.agg #[bN]/\pC B w bN cells t,λ_ _ _ hb⟨o,c,e,h⟩=>⟨o,c,e,h.below hb⟩,λ_=>False,λ_ h=>h.elim⟩
def Lu(B:Nat)(t:List aI):a5:=⟨λw v=>∃b bN cells,v=.P b 0/\B<=b/\ah w b #[bN] 27/\pC B w bN cells t,λ_ _ _ hb⟨b,o,c,e,h1,h2,h⟩=>⟨b,o,c,e,h1,h2.call hb,h.below hb⟩,λ_=>False,λ_ h=>h.elim⟩
def pe{t:List aI}{want:e8}{B s:Nat}(g:o.op=.call {callee:=.value (.func 9),args:=#[x,y],argTypes:=ats})(d:bl K x (mD t))(b:bl K y (c9 1 ip (gr want)))(k:K s=some (qo B F))(ht:t.length<=1000)(hs:∀c∈t,∀s∈c.dT,s.size<=1000)(f:∀c∈t,∀j∈want,Li c j)(h:want.length<=1000):bA (ae prog true) N K o (C9 B (qu t want)):=KD g aA2 λa w hk=>by obtain⟨v,-,i,-⟩:=hk.has s _ k;have:=aAu t want ht hs f h _ _ w (hk.ev d) (hk.ev b);simp only[List.map_toArray,vcy,veo];exact this.mono λe w'⟨r,p,⟨q,cells,n,m⟩,l⟩=>⟨r,p,⟨q,cells,n,m.low i⟩,l⟩
def pd{B i d s:Nat}{t:List aI}{ops:du}{o2:Oper}{Q:uah}{rest:e8}{a:Act}{w:aL}(p:ops[i]?=some o)(n:ops[i+1]?=some o2)(e:o.op=.alloc 27)(c:o2.op=.store 27 (.tmp d) (.tmp s))(l:K s=some (C9 B t))(hk:af N K a w)(hd:o.dst=some d)(j:o2.dst=none)(g1:o.guard=none)(q:o2.guard=none)(a4:d<N)(f:d≠s)(m:B<=w.heap.size)(k:∀a' w1,af N (up K d (Lu B t)) a' w1->a'.defers=a.defers->cC w w1->wpOps (ae prog true) ops Q rest a' w1):wpOps (ae prog true) ops Q (i::(i+1)::rest) a w:=by
 obtain⟨v,u,D,cells,rfl,h⟩:=hk.has s _ l;obtain⟨y,z,rfl⟩:=gQ h.own;have b:cC w (w.alloc (.cells #[.slice y t.length z] 27)):=(vaa _ w).alloc Jb _;have g:Hid _:=h.below b;clear h;refine OG (F:=Lu B t) (ED:=w.alloc (.cells #[.N] 27)) p n g1 q hd j a4 f hk u (λev=>?_) (λev C A=>?_) b ⟨w.heap.size,_,cells,U,m,ah.new _ _ _,g.out⟩ λa' x r=>k a' _ x r b
 .cases o;simp only at e;subst e;go_simp
 .cases o2;simp only at c;subst c;go_simp
def P1{v:Value}{t:List aI}(a:o.op=.load 27 x)(c:bl K x (sr v (cY t))):bA (ae prog true) N K o (mD t):=dM c λev w h=>by obtain⟨b,e,bE,f,d⟩:=PM h.2;exact⟨.agg #[bE],w,A7,⟨bE,U,d⟩,vaa _ _⟩
def P2{n:Int}(a:o.op=.buildSlice 29 1 #[(0,x)])(b:bl K x (bd n)):bA (ae prog true) N K o (z2 [.I n]):=dM b λev w h=>by
 have e:ev x=.I n:=h;refine⟨.S w.heap.size 0 1 1,w.alloc (.cells #[.I n] 3),?_,⟨w.heap.size,1,U,λj v c=>?_⟩,(vaa _ w).alloc Jb _⟩
 .cases o;simp only at a;subst a;go_simp
 .rw[(ah.new w _ _).rules.1];simpa using c
end
def g8(l:du){l':du}(e:l=l':=by simp only[ay,qs,Tryz.f3,vae,Nat.reduceBEq,vai,↓reduceIte];exact rfl):l=l':=e
def o9(F:Func):Code:=.seq (.seq (.region 12 (ay F 12) false) (.cond (.tmp 64) (.exit 3) .skip)) (.seq (.region 13 (ay F 13) true) (.seq (.seq (.region 14 (ay F 14) false) (.cond (.tmp 87) (.region 15 (ay F 15) true) .skip)) (.seq (.region 16 (ay F 16) false) (.cond (.tmp 107) (.seq (.region 17 (ay F 17) false) (.region 18 (ay F 18) false)) .skip))))
def BQ(F:Func):Code:=.seq (.seq (.region 10 (ay F 10) false) (.cond (.tmp 42) .skip (.exit 2))) (.seq (.block 3 (o9 F)) (.region 11 (ay F 11) false))
def Lv(F:Func):Code:=.seq (.seq (.region 7 (ay F 7) false) (.cond (.tmp 36) .skip (.exit 0))) (.seq (.block 1 (.seq (.region 9 (ay F 9) false) (.block 2 (.loop (BQ F))))) (.region 8 (ay F 8) false))
def oV{P:cf}{t e:uaa}{z:Value}{bytes:Nat}(E:pN P t e z 1 bytes){ops:du}{N i d1 h kt sv:Nat}{d o2:Oper}{K:bJ}{a:Act}{w:aL}{rest:e8}{Q:uah}(p:ops[i]?=some d)(o:ops[i+1]?=some o2)(g1:d.guard=none)(C:o2.guard=none)(r:d.dst=some d1)(u:o2.dst=some sv)(m:d.op=.call {callee:=.builtin .append,args:=#[.tmp h,.tmp kt],argTypes:=#[t,t]})(L:o2.op=.assign (.tmp d1))(hs:d1<N/\sv<N)(hk:af N K a w){v x:Value}(F:K h=some (ew v))(D:K kt=some (z2 [x])){B n:Nat}{xs:uad}(H:w.ownsRow B e 1 v n xs)(O:x.oneCell'=true)(hn:n+1<=1000000)(y:bytes<=1000)(A:B<=w.heap.size)(k:∀a' w1 b,w1.ownsRow B e 1 b (n+1) (xs++[x])->w.grownBy w1 v.ownBlock->(b.ownBlock=v.ownBlock\/b.ownBlock=some w.heap.size)->a'.tmps[sv]?=some b->(∀s,s≠d1->s≠sv->a'.tmps[s]?=a.tmps[s]?)->a'.tmps.size=N->a'.defers=a.defers->wpOps P ops Q rest a' w1):wpOps P ops Q (i::(i+1)::rest) a w:=by
 obtain⟨v0,J,rfl⟩:=hk.has h _ F;obtain⟨u2,I,g,c,rfl,M⟩:=hk.has kt _ D;refine h7 (R:=λa1 w1=>∃b,a1=a.put (some d1) b/\w1.ownsRow B e 1 b (n+1) (xs++[x])/\w.grownBy w1 v0.ownBlock/\(b.ownBlock=v0.ownBlock\/b.ownBlock=some w.heap.size)) (Wd E p g1 r m (cB J) H (cB I) U M AF hn y A λb w' r1 l j=>⟨b,U,r1,l,j⟩) ?_;rintro a1 w1 ⟨b,rfl,r1,l,j⟩;refine h7 (R:=λq f=>q=(a.put (some d1) b).put (some sv) b/\f=w1) (nu o C u (v:=b) (w1:=w1) ?_ ⟨U,U⟩) ?_
 .have:=cB (a:=a.put (some d1) b) (t:=d1) (jz (by rw[hk.size];grind));simp_all[execOp]
 rintro q f ⟨rfl,rfl⟩;exact k _ f b r1 l j (jz (by rw[fo,hk.size];grind)) (λs p o=>(dF (Ne.symm o)).trans (dF (Ne.symm p))) (by rw[fo,fo];exact hk.size) Gm
def sD(l:e8):List Value:=l.map λ(j:Nat)=>.I (j:Int)
theorem oU(l:e8)(i:Nat):sD (l++[i])=sD l++[.I (i:Int)]:=by simp[sD]
def rC(p:ubh)(n i j:Nat):List (Nat×Nat):=kJ p i n++((List.range j).filter (p i)).map λx=>(i,x)
def aA4(p:ubh)(n i:Nat):rC p n i 0=kJ p i n:=by simp[rC]
def oP(p:ubh)(n i:Nat):rC p n i n=kJ p (i+1) n:=by simp[rC,kJ,vcq]
def oO(p:ubh)(n i j:Nat):rC p n i (j+1)=if p i j then rC p n i j++[(i,j)]else rC p n i j:=by simp only[rC,vcq,List.filter_append,vcr];split<;>simp_all
theorem oA(p:ubh)(n:Nat):∀i,(kJ p i n).length<=i*n
 |0=>by simp[kJ]
 |i+1=>by have b:=oA p n i;have a:=List.length_filter_le (p i) (List.range n);rw[List.length_range]at a;rw[<-oP,rC,vbf,vcd,Nat.succ_mul];omega
def aA5{p:ubh}{n i j:Nat}(hi:i<=40)(b:j<=40)(hn:n<=40):(rC p n i j).length<=2000:=by have c:=oA p n i;have a:=List.length_filter_le (p i) (List.range j);rw[List.length_range]at a;rw[rC,vbf,vcd];have:i*n<=40*40:=Nat.mul_le_mul hi hn;omega
structure E4(bh bu:List aI)(bM aS:aI)(k h_ bT B:Nat)(fk:aL)(iJ iK:Value):Prop where
 eq:B=fk.heap.size
 f9:(cY bh).R fk iJ
 f10:(cY bu).R fk iK
 ot:0<bh.length
 iH:0<bu.length
 n3:bh[0].dt.length=h_
 rP:bu[0].dt.length=bT
 sf:bh[k]?=some bM
 JO:bu[k]?=some aS
 aA6:bM.dt.length=h_
 aA7:aS.dt.length=bT
 k3:k=3->bM.kind=3/\bM.dT.length=h_/\aS.dT.length=bT
 aE:k<3->bM.kind≠3/\bM.fy.length=h_/\aS.fy.length=bT
 aA8:k=3\/k<3
 n2:h_<=40
 ble:bT<=40
structure qz(B:Nat)(fk:aL)(lw lb:e8)(W:aL)(cx bv:Value):Prop where
 kq:Below B fk W
 HV:W.ownsRow B 3 1 cx lw.length (sD lw)
 ob:W.ownsRow B 3 1 bv lb.length (sD lb)
 dj:∀g,cx.ownBlock=some g->bv.ownBlock≠some g
def qz.below{B:Nat}{fk W W':aL}{lw lb:e8}{b bv:Value}(h:qz B fk lw lb W b bv)(c:B<=fk.heap.size)(a:cC W W'):qz B fk lw lb W' b bv:=
 ⟨h.kq.trans (a.mono (vad c h.kq.size)),HO h.HV a,HO h.ob a,h.dj⟩
def qz.aA9{B:Nat}{fk W W':aL}{lw lb:e8}{d bv b:Value}(h:qz B fk lw lb W d bv)(j:B<=fk.heap.size){i:Nat}(r1:W'.ownsRow B 3 1 b (lw.length+1) (sD lw++[.I (i:Int)]))(f:W.grownBy W' d.ownBlock)(a:b.ownBlock=d.ownBlock\/b.ownBlock=some W.heap.size):qz B fk (lw++[i]) lb W' b bv:=by
 have k:=vad j h.kq.size;refine⟨h.kq.trans (E2 h.HV f k),by grind[oU],h.ob.kept f ?_,λg hg=>?_⟩
 .cases c:bv.ownBlock with|none=>grind|some g=>exact .inr λe=>h.dj g e.symm c
 .rcases a with a|a
  .exact h.dj g (a▸hg)
  .intro c;rw[a]at hg;cases hg;have:=(h.ob.lt _ c).2;omega
def qz.aA_{B:Nat}{fk W W':aL}{lw lb:e8}{d bv b:Value}(h:qz B fk lw lb W d bv)(j:B<=fk.heap.size){i:Nat}(r1:W'.ownsRow B 3 1 b (lb.length+1) (sD lb++[.I (i:Int)]))(f:W.grownBy W' bv.ownBlock)(a:b.ownBlock=bv.ownBlock\/b.ownBlock=some W.heap.size):qz B fk lw (lb++[i]) W' d b:=by
 have k:=vad j h.kq.size;refine⟨h.kq.trans (E2 h.ob f k),h.HV.kept f ?_,by grind[oU],λg hg=>?_⟩
 .cases c:d.ownBlock with|none=>grind|some g=>exact .inr λe=>h.dj g c e.symm
 .rcases a with a|a
  .rw[a];exact h.dj g hg
  .intro c;rw[a]at c;cases c;have:=(h.HV.lt _ hg).2;omega
def oo(bh bu:List aI)(k:Nat)(v7 iJ iK gM rv:Value)(i:Nat):List (Nat×a5):=[(7,ew v7),(9,sr iJ (cY bh)),(10,sr iK (cY bu)),(11,bd k),(12,ew gM),(13,ew rv),(14,bd i)]
def nR{bh bu:List aI}{bM aS:aI}{k h_ bT B:Nat}{fk W W':aL}{v7 iJ iK gM rv rD rE:Value}{i j:Nat}{K:bJ}{a a':Act}(C:E4 bh bu bM aS k h_ bT B fk iJ iK)(h:af 183 K a W)(hi:Ba K ((15,bd j)::oo bh bu k v7 iJ iK gM rv i))(a4:a'.tmps.size=183)(hs:∀s,s<17->s≠12->s≠13->a'.tmps[s]?=a.tmps[s]?)(l:a'.tmps[12]?=some rD)(e:a'.tmps[13]?=some rE)(b:Below B fk W'):af 183 (a3 ((15,bd j)::oo bh bu k v7 iJ iK rD rE i)) a' W':=by
 obtain⟨d,g,o,n,m,r,q,c,-⟩:=hi;have b:=C.eq▸b;refine af.of a4 λp f=>?_;simp[oo]at f;rcases f with rfl|rfl|rfl|rfl|rfl|rfl|rfl|rfl
 .exact h.get d (hs 15 AU AU AU) λv hv=>hv
 .exact h.get g (hs 7 AU AU AU) λv hv=>hv
 .exact h.get o (hs 9 AU AU AU) λv hv=>⟨hv.1,hv.1▸(cY bh).h8 _ _ _ b C.f9⟩
 .exact h.get n (hs 10 AU AU AU) λv hv=>⟨hv.1,hv.1▸(cY bu).h8 _ _ _ b C.f10⟩
 .exact h.get m (hs 11 AU AU AU) λv hv=>hv
 .exact⟨_,l,U⟩
 .exact⟨_,e,U⟩
 .exact h.get c (hs 14 AU AU AU) λv hv=>hv
def aBd(a b:ByteArray):(a.toList=b.toList)↔a=b:=by rw[ByteArray.toList_eq,ByteArray.toList_eq];exact⟨λh=>by obtain⟨a⟩:=a;obtain⟨b⟩:=b;simp at h;rw[h],λh=>by rw[h]⟩
def aBe{N:Nat}{K:bJ}{o:Oper}{b c:Bool}(h:bA (ae prog true) N K o (eN b))(e:b=c):bA (ae prog true) N K o (eN c):=e▸h
section
variable{bh bu:List aI}{bM aS:aI}{k h_ bT B:Nat}{fk W:aL}{v7 iJ iK gM rv:Value}{i j:Nat}{lw lb:e8}{a:Act}{ks ks':fC}{Q:uaf}
def aBf(C:E4 bh bu bM aS k h_ bT B fk iJ iK)(P:lw.length<=2000/\lb.length<=2000)(E:qz B fk lw lb W gM rv)(I:af 183 (a3 ((15,bd j)::oo bh bu k v7 iJ iK gM rv i)) a W)(kk:∀a' W' rD rE,qz B fk (lw++[i]) (lb++[j]) W' rD rE->af 183 (a3 ((15,bd j)::oo bh bu k v7 iJ iK rD rE i)) a' W'->a'.defers=a.defers->bO (ae prog true) ks ks' Q a' W'):bO (ae prog true) (.code (.seq (.region 17 (ay Tryz.f3 17) false) (.region 18 (ay Tryz.f3 18) false))::ks) ks' Q a W:=by
 have b:=vbk C.eq;refine bq ?_;rw[g8 (ay Tryz.f3 17)];refine xz (m:=3) I (ao U Jc<|ao U Jc<|ao U (P2 U U)<|rfl) AU λa1 w1 g d1 b1=>?_;have l:=E.below b b1;refine oV (i:=3) (sv:=12) X3 U U U U U U U U AU g U U l.HV U AX AU (vad b l.kq.size) λN M y r1 f e K p x o=>n8 ?_;have A:=l.aA9 b r1 f e;obtain⟨b0,w,rfl⟩:=g.has 13 _ U;have D:=nR (rD:=y) C g ⟨U,U,U,U,U,U,U,U,NE⟩ x (λs F q _=>p s AX q) K ((p 13 AU AU).trans w) A.kq;have o:=o.trans d1;clear g p r1 f e;rw[g8 (ay Tryz.f3 18)];refine xz (m:=3) D (ao U Jc<|ao U Jc<|ao U (P2 U U)<|rfl) AU λO L n J bk=>?_;have h:=A.below b bk;refine oV (i:=3) (sv:=13) X3 U U U U U U U U AU n U U h.ob U AX AU (vad b h.kq.size) λH dK d r1 f e v c u t=>n8 ?_;have z:=h.aA_ b r1 f e;obtain⟨w0,r,rfl⟩:=n.has 12 _ U;exact kk H dK _ d z (nR (rE:=d) C n ⟨U,U,U,U,U,U,U,U,NE⟩ u (λs F _ q=>c s AX q) ((c 12 AU AU).trans r) v z.kq) (t.trans (J.trans o))
def aBn{c:Code}(C:E4 bh bu bM aS k h_ bT B fk iJ iK)(hi:i<h_)(N:j<bT)(w:bM.dt.getD i false=false)(v:aS.dt.getD j false=false)(u:qz B fk lw lb W gM rv)(x:af 183 (a3 ((15,bd j)::oo bh bu k v7 iJ iK gM rv i)) a W)(kk:∀a' W',qz B fk lw lb W' gM rv->af 183 (a3 ((16,eN (hO bM aS i j))::(15,bd j)::oo bh bu k v7 iJ iK gM rv i)) a' W'->a'.defers=a.defers->bO (ae prog true) (.code c::ks) ks' Q a' W'):bO (ae prog true) (.code (.region 13 (ay Tryz.f3 13) true):: .code (.seq (.seq (.region 14 (ay Tryz.f3 14) false) (.cond (.tmp 87) (.region 15 (ay Tryz.f3 15) true) .skip)) c)::ks) ks' Q a W:=by
 have d:=vbk C.eq;rw[g8 (ay Tryz.f3 13)];rcases C.aA8 with rfl|E
 .obtain⟨p,I,A⟩:=C.k3 U;have L:=getD_some (show i<bM.dT.length by omega) jc;have M:=getD_some (show j<aS.dT.length by omega) jc;refine yS (m:=22) x (dq U Jc<|dq U (uC (n:=3) U U Jx AU)<|dq U Jc<|dL U K9<|dL U Jr<|dL U (dQ (i:=3) U U Jx C.sf AU)<|dL U K_<|dL U Jr<|dL U Jc<|dL U (dQ U U U L AU)<|dL U Lc<|dL U K9<|dL U Jr<|dL U (dQ (i:=3) U U Jx C.JO AU)<|dL U K_<|dL U Jr<|dL U Jc<|dL U (dQ U U U M AU)<|dL U Lc<|dL U (auH U U U)<|dq U Kk<|dq U KV<|rfl) U z4 AQ λa1 w1 h d1 b1=>⟨U,?_⟩;have g:=u.below d b1;refine bq (bq ?_);rw[g8 (ay Tryz.f3 14)];refine c5 h (ao U Jc<|ao U (zP (n:=3) U U Jx AU AU)<|rfl) λq f b o b2=>fI (t:=false) (ly b U) (nt ?_);have e:hO bM aS i j=((bM.dT.getD i jc).toList==(aS.dT.getD j jc).toList):=by unfold hO;rw[w,v,vbv p];simp only[Bool.not_false,Bool.true_and];rw[Bool.eq_iff_iff,decide_eq_true_iff,beq_iff_eq,aBd]
  rw[e]at kk;exact kk q f (g.below d b2) (b.aZ ⟨U,U,U,U,U,U,U,U,U,NE⟩) (o.trans d1)
 .obtain⟨p,I,A⟩:=C.aE E;have r:=getD_some (show i<bM.fy.length by omega) 0;have s:=getD_some (show j<aS.fy.length by omega) 0;have D:((k:Int)==3)=false:=by have:(k:Int)≠3:=AX;simpa using this
  have l:(k:Int)<3:=AX;refine yS (m:=22) x (dq U Jc<|dq U (aBe (uC (n:=3) U U Jx AU) D)<|dq U Jc<|gZ U<|gZ U<|gZ U<|gZ U<|gZ U<|gZ U<|gZ U<|gZ U<|gZ U<|gZ U<|gZ U<|gZ U<|gZ U<|gZ U<|gZ U<|gZ U<|gZ U<|dq U (kn (F:=eN false) U U Jx)<|dq U KV<|rfl) U z4 AQ λa1 w1 h d1 b1=>⟨U,?_⟩;have g:=u.below d b1;refine bq (bq ?_);rw[g8 (ay Tryz.f3 14)];refine c5 h (ao U Jc<|ao U (EC (n:=3) U U Jx AU l)<|rfl) λq f b o b2=>fI (t:=true) (ly b U) ?_;have z:=g.below d b2;have b:af 183 (a3 ((15,bd j)::oo bh bu k v7 iJ iK gM rv i)) q f:=b.aZ ⟨U,U,U,U,U,U,U,U,NE⟩;rw[g8 (ay Tryz.f3 15)];refine yS (m:=20) b (dq U K9<|dq U Jr<|dq U Jc<|dq U (dQ U U U C.sf AU)<|dq U LA<|dq U Jr<|dq U Jc<|dq U (dQ U U U r AU)<|dq U J5<|dq U K9<|dq U Jr<|dq U Jc<|dq U (dQ U U U C.JO AU)<|dq U LA<|dq U Jr<|dq U Jc<|dq U (dQ U U U s AU)<|dq U J5<|dq U (uC U U U AU)<|dq U KV<|rfl) U z4 AQ λJ y k3 H K=>⟨U,?_⟩;have e:hO bM aS i j=(bM.fy.getD i 0==aS.fy.getD j 0):=by unfold hO;rw[w,v,vbp p];simp
  rw[e]at kk;exact kk J y (z.below d K) (k3.aZ ⟨U,U,U,U,U,U,U,U,U,NE⟩) (H.trans (o.trans d1))
end
section
section
variable{bh bu:List aI}{bM aS:aI}{k h_ bT B:Nat}{fk:aL}{v7 iJ iK:Value}{ks ks':fC}{Q:uaf}
def agT(i:Nat)(h:i<=1000000):eC ((i:Int)+1):=by unfold eC;omega
abbrev z6(bM aS:aI)(bT B:Nat)(fk:aL)(i j:Nat)(W:aL)(gM rv:Value):Prop:=qz B fk ((rC (hO bM aS) bT i j).map (·.1)) ((rC (hO bM aS) bT i j).map (·.2)) W gM rv
def aBp(C:E4 bh bu bM aS k h_ bT B fk iJ iK){i:Nat}(hi:i<h_)(kk:∀a' W' gM rv,z6 bM aS bT B fk i bT W' gM rv->af 183 (a3 (oo bh bu k v7 iJ iK gM rv i)) a' W'->a'.defers=[]->bO (ae prog true) ks ks' Q a' W'):
 ∀m j a W gM rv,j+m=bT->z6 bM aS bT B fk i j W gM rv->af 183 (a3 ((15,bd j)::oo bh bu k v7 iJ iK gM rv i)) a W->a.defers=[]->bO (ae prog true) (.code (BQ Tryz.f3):: .inLoop (BQ Tryz.f3):: .inBlock 2::ks) ks' Q a W:=by
 have f:=vbk C.eq;have X:=C.n2;have V:=C.ble;intro m;induction m with
 |zero=>intro j a W gM rv y z D hd;obtain rfl:j=bT:=AX;have d:¬((j:Nat):Int)<((j:Nat):Int):=AX;unfold BQ;refine bq (bq ?_);rw[g8 (ay Tryz.f3 10)];refine c5 D (ao rfl Jc<|ao rfl (P1 rfl rfl)<|ao rfl (P0 rfl rfl C.iH C.rP)<|ao rfl (zP rfl rfl rfl AU d)<|rfl) λa1 w1 g d1 b1=>?_;exact fI (t:=false) (ly g rfl) (xe (te:=ks) FA (kk a1 w1 gM rv (z.below f b1) (g.aZ ⟨rfl,rfl,rfl,rfl,rfl,rfl,rfl,NE⟩) (d1.trans hd)))
 |succ m R=>
  intro j a W gM rv U z D hd;have y:j<bT:=AX;have d:(j:Int)<(bT:Int):=AX;have s:=getD_some (show i<bM.dt.length by rw[C.aA6];exact hi) false;have w:=getD_some (show j<aS.dt.length by rw[C.aA7];exact y) false;have S:=aA5 (p:=hO bM aS) (n:=bT) (i:=i) (j:=j) AX AX AX;unfold BQ;refine bq (bq ?_);rw[g8 (ay Tryz.f3 10)];refine c5 D (ao rfl Jc<|ao rfl (P1 rfl rfl)<|ao rfl (P0 rfl rfl C.iH C.rP)<|ao rfl (EC rfl rfl rfl AU d)<|rfl) λa1 w1 g d1 b1=>?_;have x:=z.below f b1;have H:af 183 (a3 ((15,bd j)::oo bh bu k v7 iJ iK gM rv i)) a1 w1:=g.aZ ⟨rfl,rfl,rfl,rfl,rfl,rfl,rfl,rfl,NE⟩;refine fI (t:=true) (ly g rfl) (nt (bq (nr ?_)));clear g;have dN:∀a' W' rD rE,z6 bM aS bT B fk i (j+1) W' rD rE->af 183 (a3 ((15,bd j)::oo bh bu k v7 iJ iK rD rE i)) a' W'->a'.defers=[]->bO (ae prog true) (.code (.region 11 (ay Tryz.f3 11) false):: .inLoop (BQ Tryz.f3):: .inBlock 2::ks) ks' Q a' W':=by intro a' W' rD rE Z k' T;rw[g8 (ay Tryz.f3 11)];refine c5 k' LO λA dK v E bt=>A5 ?_;have e:((j:Int)+1)=((j+1:Nat):Int):=AX;rw[e]at v;exact R (j+1) A dK rD rE AX (Z.below f bt) (v.aZ ⟨rfl,rfl,rfl,rfl,rfl,rfl,rfl,rfl,NE⟩) (E.trans T)
  have no:hO bM aS i j=false->rC (hO bM aS) bT i (j+1)=rC (hO bM aS) bT i j:=λh=>by rw[oO,h];rfl
  unfold o9;refine bq (bq ?_);rw[g8 (ay Tryz.f3 12)];cases r:bM.dt.getD i false with|true=>rw[r]at s;refine c5 H (ao rfl K9<|ao rfl Jr<|ao rfl Jc<|ao rfl (dQ rfl rfl rfl C.sf AU)<|ao rfl Kl<|ao rfl Jr<|ao rfl Jc<|ao rfl (dQ rfl rfl rfl s AU)<|ao rfl Ks<|ao rfl Jc<|yP rfl<|yP rfl<|yP rfl<|yP rfl<|yP rfl<|yP rfl<|yP rfl<|yP rfl<|yP rfl<|ao rfl (kn (F:=eN true) rfl rfl Jx)<|rfl) λl o b c b2=>fI (t:=true) (ly b rfl) ?_;refine xe (te:=.code (.region 11 (ay Tryz.f3 11) false):: .inLoop (BQ Tryz.f3):: .inBlock 2::ks) (by simp[exitTo];rfl) (dN l o gM rv ?_ (b.aZ ⟨rfl,rfl,rfl,rfl,rfl,rfl,rfl,rfl,NE⟩) (c.trans (d1.trans hd)));rw[z6,no (by unfold hO;rw[r];rfl)];exact x.below f b2|false=>rw[r]at s;cases u:aS.dt.getD j false with|true=>rw[u]at w;refine c5 H (ao rfl K9<|ao rfl Jr<|ao rfl Jc<|ao rfl (dQ rfl rfl rfl C.sf AU)<|ao rfl Kl<|ao rfl Jr<|ao rfl Jc<|ao rfl (dQ rfl rfl rfl s AU)<|ao rfl Ks<|ao rfl Jc<|ea rfl K9<|ea rfl Jr<|ea rfl Jc<|ea rfl (dQ rfl rfl rfl C.JO AU)<|ea rfl Kl<|ea rfl Jr<|ea rfl Jc<|ea rfl (dQ rfl rfl rfl w AU)<|ea rfl Ks<|ao rfl Kk<|rfl) λl o b c b2=>fI (t:=true) (ly b rfl) ?_;refine xe (te:=.code (.region 11 (ay Tryz.f3 11) false):: .inLoop (BQ Tryz.f3):: .inBlock 2::ks) (by simp[exitTo];rfl) (dN l o gM rv ?_ (b.aZ ⟨rfl,rfl,rfl,rfl,rfl,rfl,rfl,rfl,NE⟩) (c.trans (d1.trans hd)));rw[z6,no (by unfold hO;rw[r,u];rfl)];exact x.below f b2|false=>rw[u]at w;refine c5 H (ao rfl K9<|ao rfl Jr<|ao rfl Jc<|ao rfl (dQ rfl rfl rfl C.sf AU)<|ao rfl Kl<|ao rfl Jr<|ao rfl Jc<|ao rfl (dQ rfl rfl rfl s AU)<|ao rfl Ks<|ao rfl Jc<|ea rfl K9<|ea rfl Jr<|ea rfl Jc<|ea rfl (dQ rfl rfl rfl C.JO AU)<|ea rfl Kl<|ea rfl Jr<|ea rfl Jc<|ea rfl (dQ rfl rfl rfl w AU)<|ea rfl Ks<|ao rfl Kk<|rfl) λl o b c b2=>fI (t:=false) (ly b rfl) (nt (bq ?_));have P:=x.below f b2;have b:af 183 (a3 ((15,bd j)::oo bh bu k v7 iJ iK gM rv i)) l o:=b.aZ ⟨rfl,rfl,rfl,rfl,rfl,rfl,rfl,rfl,NE⟩;have c:l.defers=[]:=c.trans (d1.trans hd);refine aBn C hi y r u P b λbI w3 Y k3 M=>bq ?_;rw[g8 (ay Tryz.f3 16)];refine c5 k3 (ao rfl Jc<|rfl) λN J q L bk=>?_;have I:=Y.below f bk;refine fI (ly q rfl) ?_;have q:af 183 (a3 ((15,bd j)::oo bh bu k v7 iJ iK gM rv i)) N J:=q.aZ ⟨rfl,rfl,rfl,rfl,rfl,rfl,rfl,rfl,NE⟩;cases K:hO bM aS i j with|false=>rw[vbp AU];refine nt (vz (dN N J gM rv ?_ q (L.trans (M.trans c))));rw[z6,no K];exact I|true=>rw[vbv rfl];refine aBf C (by simpa using S) I q λA dK rD rE O v E=>vz (dN A dK rD rE ?_ v (E.trans (L.trans (M.trans c))));rw[z6,oO,K];simpa using O
def aBr(C:E4 bh bu bM aS k h_ bT B fk iJ iK)(kk:∀a' W' gM rv,qz B fk ((kJ (hO bM aS) h_ bT).map (·.1)) ((kJ (hO bM aS) h_ bT).map (·.2)) W' gM rv->af 183 (a3 (oo bh bu k v7 iJ iK gM rv h_)) a' W'->a'.defers=[]->bO (ae prog true) ks ks' Q a' W'):
 ∀m i a W gM rv,i+m=h_->qz B fk ((kJ (hO bM aS) i bT).map (·.1)) ((kJ (hO bM aS) i bT).map (·.2)) W gM rv->af 183 (a3 (oo bh bu k v7 iJ iK gM rv i)) a W->a.defers=[]->bO (ae prog true) (.code (Lv Tryz.f3):: .inLoop (Lv Tryz.f3):: .inBlock 0::ks) ks' Q a W:=by
 have d:=vbk C.eq;have x:=C.n2;intro m;induction m with
 |zero=>intro i a W gM rv hi f g hd;obtain rfl:i=h_:=AX;have b:¬((i:Nat):Int)<((i:Nat):Int):=AX;unfold Lv;refine bq (bq ?_);rw[g8 (ay Tryz.f3 7)];refine c5 g (ao U Jc<|ao U (P1 U U)<|ao U (P0 U U C.ot C.n3)<|ao U (zP U U U AU b)<|rfl) λa1 w1 c d1 b1=>?_;exact fI (t:=false) (ly c U) (xe (te:=ks) FA (kk a1 w1 gM rv (f.below d b1) (c.aZ ⟨U,U,U,U,U,U,U,NE⟩) (d1.trans hd)))
 |succ m q=>
  intro i a W gM rv z f g hd;have hi:i<h_:=AX;have b:(i:Int)<(h_:Int):=AX;unfold Lv;refine bq (bq ?_);rw[g8 (ay Tryz.f3 7)];refine c5 g (ao U Jc<|ao U (P1 U U)<|ao U (P0 U U C.ot C.n3)<|ao U (EC U U U AU b)<|rfl) λa1 w1 c d1 b1=>?_;have n:=f.below d b1;have y:af 183 (a3 (oo bh bu k v7 iJ iK gM rv i)) a1 w1:=c.aZ ⟨U,U,U,U,U,U,U,NE⟩;refine fI (t:=true) (ly c U) (nt (bq (nr (bq ?_))));clear c;rw[g8 (ay Tryz.f3 9)];refine c5 y (ao U (dX (F:=bd ((0:Nat):Int)) U Jx)<|rfl) λw l p u b2=>nr (A4 ?_);have o:=n.below d b2;refine aBp (v7:=v7) C hi (λa' W' rD rE j k' v=>vz ?_) bT 0 w l gM rv (vbr _) ?_ (p.aZ ⟨U,U,U,U,U,U,U,U,NE⟩) (u.trans (d1.trans hd))
  .rw[z6,oP]at j;rw[g8 (ay Tryz.f3 8)];refine c5 k' LO λr dK h s bt=>A5 ?_;have e:((i:Int)+1)=((i+1:Nat):Int):=AX;rw[e]at h;exact q (i+1) r dK rD rE AX (j.below d bt) (h.aZ ⟨U,U,U,U,U,U,U,NE⟩) (s.trans v)
  .rw[z6,aA4];exact o
end
end
def WA(k:Nat):a5:=KA [.I 1,.I (k:Int),.I 0,.N,.N,.N,.N] (by
 intro x hx
 simp at hx
 rcases hx with rfl|rfl|rfl|rfl<;>first|exact .int _ _ |exact .nil _ _)
def aBs(k:Nat)(w:aL)(v:Value):Prop:=∃kb kc ob cK,v=.agg [.I 4,.I 0,.I 1,.N,.S kb 0 1 kc,.S ob 0 1 cK,.N].toArray/\w.cell? (.a kb 0)=some (.I k)/\w.cell? (.a ob 0)=some (.I k)
def nL(k:Nat):a5:=⟨aBs k,λw w' v hb⟨kb,kc,ob,cK,e,h1,h2⟩=>⟨kb,kc,ob,cK,e,bp.b7 hb _ _ _ h1,bp.b7 hb _ _ _ h2⟩,λ_=>True,λn _ ρ w w' v v' hc hv⟨kb,kc,ob,cK,e,h1,h2⟩=>by
 subst e
 obtain⟨l',rfl,q⟩:=ra hv
 cases q with
 |cons k1 q=>cases q with
  |cons k2 q=>cases q with
   |cons k3 q=>cases q with
    |cons k4 q=>cases q with
     |cons dn q=>cases q with
      |cons iq q=>cases q with
       |cons oe q=>
        cases q
        obtain⟨KO,fd,uj⟩:=xf dn
        obtain⟨KP,iD,w7⟩:=xf iq
        subst fd
        subst iD
        obtain⟨x_,dl,bt⟩:=hc.cells.cell ⟨kb,0,none⟩ ⟨KO,0,none⟩ _ ⟨uj,U,U⟩ h1
        obtain⟨Yw,iT,e7⟩:=hc.cells.cell ⟨ob,0,none⟩ ⟨KP,0,none⟩ _ ⟨w7,U,U⟩ h2
        rw[gX bt]at dl
        rw[gX e7]at iT
        rw[gX k1,gX k2,gX k3,l8 k4,l8 oe]
        exact⟨KO,kc,KP,cK,U,dl,iT⟩⟩
section
variable{N:Nat}{K:bJ}{o:Oper}{F:a5}{x y z:uap}{ats:uar}
def nJ{k:Nat}(c:o.op=.call {callee:=.value (.func 7),args:=#[x],argTypes:=ats})(b:bl K x (bd (k:Int))):bA (ae prog true) N K o (WA k):=OE c (λa w=>aux a w) b λv w h=>by cases h;refine(auB k w).mono ?_;rintro e w' ⟨rfl,d⟩;exact⟨_,U,U,d⟩
def WB{c n:Int}(f:o.op=.call {callee:=.value (.func 5),args:=#[x,y],argTypes:=ats})(d:bl K x (bd c))(b:bl K y (bd n))(g:eC c)(hn:0<n/\n<=1000000):bA (ae prog true) N K o (bd (l_ c n)):=OF f (λa w=>auw a w) d b λv u w h i=>by cases h;cases i;refine(Kz c n g hn w).mono ?_;rintro e w' ⟨rfl,rfl⟩;exact⟨_,U,U,vaa _ _⟩
def aBt(b:o.op=.buildSlice 29 3 #[(0,.const (.I 0)),(1,.const (.I 1)),(2,.const (.I 3))]):bA (ae prog true) N K o (c9 1 ip [0,1,3]):=λa w hk=>by
 have cW:=ah.new w #[.I 0,.I 1,.I 3] 3;refine .inl ⟨.S w.heap.size 0 3 3,w.alloc (.cells #[.I 0,.I 1,.I 3] 3),?_,⟨_,3,U,Ab,λi hi=>⟨w.heap.size,0,U,?_⟩⟩,(vaa _ w).alloc Jb _⟩
 .have e:a.eval (.const (.I 0))=.I 0:=rfl;have d:a.eval (.const (.I 1))=.I 1:=rfl;have c:a.eval (.const (.I 3))=.I 3:=rfl;generalize a.eval=ev at e d c⊢;cases o;simp only at b;subst b;go_simp
 .obtain rfl|rfl|rfl:i=0\/i=1\/i=2:=by simp at hi;omega
  .exact cW.rules.1 0
  .exact cW.rules.1 1
  .exact cW.rules.1 2
def aBu{k:Nat}(b:o.op=.build 40 #[(0,.const (.I 4)),(1,.const (.I 0)),(2,.const (.I 1)),(4,x),(5,y)])(g:bl K x (z2 [.I (k:Int)]))(f:bl K y (z2 [.I (k:Int)])):bA (ae prog true) N K o (nL k):=λa w hk=>by obtain⟨kb,kc,i,c⟩:=hk.ev g;obtain⟨ob,d,h,e⟩:=hk.ev f;refine .inl ⟨.agg #[.I 4,.I 0,.I 1,.N,.S kb 0 1 kc,.S ob 0 1 d,.N],w,?_,⟨kb,kc,ob,d,U,c 0 _ U,e 0 _ U⟩,vaa _ _⟩;clear c e;have m:a.eval (.const (.I 4))=.I 4:=rfl;have l:a.eval (.const (.I 0))=.I 0:=rfl;have j:a.eval (.const (.I 1))=.I 1:=rfl;generalize a.eval=ev at m l j i h⊢;cases o;simp only at b;subst b;go_simp
def aBv{k:Nat}(f:o.op=.buildSlice 42 3 #[(0,x),(1,y),(2,z)])(p:bl K x (WA 0))(n:bl K y (WA 1))(m:bl K z (nL k)):bA (ae prog true) N K o (Hv (k:Int)):=λa w hk=>by
 have d:=hk.ev p;have c:=hk.ev n;obtain⟨kb,kc,ob,e,q,h,l⟩:=hk.ev m;unfold yO;have HC:Hid _:=And.intro h l;clear h l;generalize a.eval=ev at d c q⊢;have d:ev x=.agg #[.I 1,.I 0,.I 0,.N,.N,.N,.N]:=d;have c:ev y=.agg #[.I 1,.I 1,.I 0,.N,.N,.N,.N]:=c;have g:cC w (w.alloc (.cells #[.I 1,.I 0,.I 0,.N,.N,.N,.N,.I 1,.I 1,.I 0,.N,.N,.N,.N,.I 4,.I 0,.I 1,.N,.S kb 0 1 kc,.S ob 0 1 e,.N] 40)):=(vaa _ w).alloc Jb _;have cW:=ah.new w #[.I 1,.I 0,.I 0,.N,.N,.N,.N,.I 1,.I 1,.I 0,.N,.N,.N,.N,.I 4,.I 0,.I 1,.N,.S kb 0 1 kc,.S ob 0 1 e,.N] 40;have i:=bp.b7 g;refine .inl ⟨.S w.heap.size 0 3 3,_,by cases o;simp only at f;subst f;go_simp,⟨w.heap.size,0,3,kb,0,ob,0,kc,e,U,λj u b=>?_,λj u b=>?_,λj u b=>?_,i _ _ _ HC.out.1,i _ _ _ HC.out.2⟩,g⟩;all_goals
  rw[cW.rules.1];match j,b with|0,b|1,b|2,b|3,b|4,b|5,b|6,b=>exact b|j+7,b=>simp[kW]at b
def aBw{bh bu:List aI}(g:o.op=.buildSlice 48 2 #[(0,x),(1,y)])(l:bl K x (mD bh))(k:bl K y (mD bu)):bA (ae prog true) N K o (KQ [bh,bu]):=λa w hk=>by
 obtain⟨bE,n,d⟩:=hk.ev l;obtain⟨p,m,c⟩:=hk.ev k;obtain⟨⟨h,j,rfl,-,-⟩,-⟩:=id d;obtain⟨⟨e,uc,rfl,-,-⟩,-⟩:=id c;have b:cC w (w.alloc (.cells #[.slice h bh.length j,.slice e bu.length uc] 27)):=(vaa _ w).alloc Jb _;have cW:=ah.new w #[.slice h bh.length j,.slice e bu.length uc] 27;have f:Hid _:=And.intro d c;clear d c;unfold yO;generalize a.eval=ev at n m⊢;refine .inl ⟨.S w.heap.size 0 2 2,_,by cases o;simp only at g;subst g;go_simp,⟨_,2,U,Ab,λi hi=>⟨w.heap.size,0,U,?_⟩⟩,b⟩;obtain rfl|rfl:i=0\/i=1:=by simp at hi;omega
 .exact⟨_,cW.rules.1 0,(lJ.kept (zX b) f.out.1).fz⟩
 .exact⟨_,cW.rules.1 1,(lJ.kept (zX b) f.out.2).fz⟩
end
def P5(F:Func):Code:=.seq (.region 23 (ay F 23) false) (.seq (.region 24 (ay F 24) false) (.seq (.region 25 (ay F 25) false) (.seq (.region 26 (ay F 26) false) (.seq (.region 27 (ay F 27) false) .ret))))
def z7(F:Func):Code:=.seq (.seq (.region 21 (ay F 21) false) (.cond (.tmp 143) (.seq (.region 22 (ay F 22) false) .ret) .skip)) (P5 F)
def nA(F:Func):Code:=.seq (.region 19 (ay F 19) false) (.seq (.region 20 (ay F 20) true) (z7 F))
def P6(F:Func):Code:=.seq (.region 3 (ay F 3) false) (.seq (.region 4 (ay F 4) false) (.seq (.region 5 (ay F 5) false) (.seq (.seq (.region 6 (ay F 6) false) (.block 0 (.loop (Lv F)))) (nA F))))
theorem nj:Tryz.f3.body=some (.seq (.region 0 (ay Tryz.f3 0) false) (.seq (.region 1 (ay Tryz.f3 1) false) (.seq (.region 2 (ay Tryz.f3 2) false) (P6 Tryz.f3)))):=by kernel_rfl
def ni{W:aL}{B:Nat}{v:Value}{l:e8}{T:uaa}(h:W.ownsRow B T 1 v l.length (sD l)):(c9 1 ip (gr l)).R W v:=by
 have a:l.length=(sD l).length:=by simp[sD]
 have b:W.ownsRow B T 1 v (sD l).length (sD l):=a▸h;refine yG (R:=qG) b (by simp[gr,sD]) λi hi rd h0=>?_;simp only[sD,gr,vdp]at h0⊢;exact h0
def HY(bh bu:List aI)(bM aS:aI)(k h_ bT:Nat)(x y:Int):List (Nat×a5):=[(7,sA x y),(9,cY bh),(10,cY bu),(12,c9 1 ip (gr ((kJ (hO bM aS) h_ bT).map (·.1)))),(13,c9 1 ip (gr ((kJ (hO bM aS) h_ bT).map (·.2)))),(17,Hv (k:Int))]
def aBx(b:Int):([0,1,3]:uaz)[(l_ b 3).toNat]?=some ((om b:Nat):Int):=by
 have h:=uB b (n:=3) AX;obtain⟨k,hk,a⟩:∃k:Nat,k<3/\(l_ b 3).toNat=k:=⟨_,AX,U⟩;unfold om;rw[a];obtain rfl|rfl|rfl:k=0\/k=1\/k=2:=AX
 .rfl
 .rfl
 .rfl
def aBy{N:Nat}{K:bJ}{o:Oper}{b c:Int}(h:bA (ae prog true) N K o (bd b))(e:b=c):bA (ae prog true) N K o (bd c):=e▸h
def aBz{bh bu:List aI}{bM aS:aI}{h_ bT:Nat}{b:Int}(N:eC b)(P:∀(B:Nat)(fk:aL)(iJ iK:Value),B=fk.heap.size->(cY bh).R fk iJ->(cY bu).R fk iK->E4 bh bu bM aS (om b) h_ bT B fk iJ iK)(x y:Int)(a:Act)(w:aL)(hd:a.defers=[])(hk:af 183 (a3 [(2,bd b),(7,sA x y),(9,cY bh),(27,mD bu)]) a w):
 bO (ae prog true) [.R (ay Tryz.f3 2) [2,3],.code (P6 Tryz.f3)] [.code (.region 20 (ay Tryz.f3 20) true),.code (z7 Tryz.f3)] (λa1 w1=>a1.defers=[]/\af 183 (a3 (HY bh bu bM aS (om b) h_ bT x y)) a1 w1/\cC w w1) a w:=by
 have uV:=uB b (n:=3) AX;rw[g8 (ay Tryz.f3 2)];refine xg (azV (i:=2) rfl rfl rfl rfl rfl hk rfl rfl rfl rfl AU AU λa1 w1 e d1 b1=>n8 ?_);have e:af 183 (a3 [(2,bd b),(7,sA x y),(9,cY bh),(10,cY bu)]) a1 w1:=e.aZ ⟨rfl,rfl,rfl,rfl,NE⟩;unfold P6;refine bq ?_;rw[g8 (ay Tryz.f3 3)];refine c5 e (ao rfl (aBt rfl)<|ao rfl Jc<|ao rfl (aBy (WB rfl rfl Jx N AU) (show l_ b 3=(((l_ b 3).toNat:Nat):Int) by omega))<|ao rfl (dQ rfl rfl rfl (aBx b) AU)<|ao rfl J5<|ao rfl KV<|rfl) λV M k3 U J=>bq ?_;have k3:af 183 (a3 [(7,sA x y),(9,cY bh),(10,cY bu),(11,bd (om b))]) V M:=k3.aZ ⟨rfl,rfl,rfl,rfl,NE⟩;rw[g8 (ay Tryz.f3 4)];refine c5 k3 (ao rfl (dX (F:=ew (.N)) rfl Jx)<|rfl) λdl dK Q T bt=>bq ?_;rw[g8 (ay Tryz.f3 5)];refine c5 Q (ao rfl (dX (F:=ew (.N)) rfl Jx)<|rfl) λiT jg O S I=>bq (bq ?_);rw[g8 (ay Tryz.f3 6)];refine c5 O (ao rfl (dX (F:=bd ((0:Nat):Int)) rfl Jx)<|rfl) λt m c u H=>nr (A4 ?_);have u:t.defers=[]:=u.trans (S.trans (T.trans (U.trans (d1.trans hd))));have s:=b1.trans (J.mono b1.size);have q:=s.trans (bt.mono s.size);have r:=q.trans (I.mono q.size);have K:=r.trans (H.mono r.size);clear b1 J bt I H s q r;obtain⟨v7,E,D⟩:=c.has 7 _ rfl;obtain⟨o,Y,h⟩:=c.has 9 _ rfl;obtain⟨v10,Z,j⟩:=c.has 10 _ rfl;have C:=P m.heap.size m o v10 rfl h j;have L:af 183 (a3 (oo bh bu (om b) v7 o v10 (.N) (.N) 0)) t m:=af.of c.size λp f=>by
  simp[oo]at f;rcases f with rfl|rfl|rfl|rfl|rfl|rfl|rfl
  .exact⟨v7,E,rfl⟩
  .exact⟨o,Y,rfl,h⟩
  .exact⟨v10,Z,rfl,j⟩
  .exact c.get rfl rfl λv hv=>hv
  .exact c.get rfl rfl λv hv=>hv
  .exact c.get rfl rfl λv hv=>hv
  .exact c.get rfl rfl λv hv=>hv
 refine aBr C (λX W gM rv l d R=>?_) h_ 0 t m _ _ (vbr _) ⟨vaa _ _,vbm _ _ _ _,vbm _ _ _ _,λg hg=>by cases hg⟩ L u;have A:af 183 (a3 [(7,sA x y),(9,cY bh),(10,cY bu),(11,bd (om b)),(12,c9 1 ip (gr ((kJ (hO bM aS) h_ bT).map (·.1)))),(13,c9 1 ip (gr ((kJ (hO bM aS) h_ bT).map (·.2))))]) X W:=af.of d.size λp f=>by
  simp at f;rcases f with rfl|rfl|rfl|rfl|rfl|rfl
  .exact d.get rfl rfl λv hv=>hv▸(sA x y).h8 _ _ _ l.kq D
  .exact d.get rfl rfl λv hv=>hv.2
  .exact d.get rfl rfl λv hv=>hv.2
  .exact d.get rfl rfl λv hv=>hv
  .exact d.get rfl rfl λv hv=>hv▸ni l.HV
  .exact d.get rfl rfl λv hv=>hv▸ni l.ob
 unfold nA;refine bq ?_;rw[g8 (ay Tryz.f3 19)];refine c5 A (ao rfl (nJ (k:=0) rfl Jx)<|ao rfl (nJ (k:=1) rfl Jx)<|ao rfl Jc<|ao rfl (P2 rfl rfl)<|ao rfl Jc<|ao rfl (P2 rfl rfl)<|ao rfl (aBu rfl rfl rfl)<|ao rfl (aBv rfl rfl rfl rfl)<|ao rfl KV<|rfl) λb1 w1 e d1 z=>bq (lp ⟨d1.trans R,e.aZ ⟨rfl,rfl,rfl,rfl,rfl,rfl,NE⟩,?_⟩);have:=l.kq.trans (z.mono l.kq.size);exact K.trans (this.mono K.size)
end bc
namespace ol
open Conc ConcM RowKit az bo cF c3 bX cu ej bc
variable{F:a5}
section
section
variable{N n0:Nat}{K:bJ}{o:Oper}
def aBE{s v:Nat}{t:List aI}(e:o.op=.store 27 (.tmp s) (.tmp v))(hs:K s=some (me n0 27 1))(hv:K v=some (mD t))(hg:o.guard=none:=by rfl)(hd:o.dst=none:=by rfl):Bp (ae prog true) N n0 K o (27,s) (O4 n0 t):=⟨hg,hd,λa w hk=>by
 obtain⟨x,b,r1⟩:=hk.has s _ hs;obtain⟨y,i,d⟩:=hk.has v _ hv;obtain⟨w',h,g,f,c⟩:=xO (n0:=n0) (t:=t) (ev:=a.eval) (w:=w) e (by rw[cB b];exact r1) (by rw[cB i];exact d);rw[cB b]at c;exact⟨w',h,g,f,x,b,c⟩⟩
def aBF{s v:Nat}(e:o.op=.store 45 (.tmp s) (.tmp v))(hs:K s=some (me n0 45 2))(hv:K v=some EO)(hg:o.guard=none:=by rfl)(hd:o.dst=none:=by rfl):Bp (ae prog true) N n0 K o (45,s) (Hg n0):=⟨hg,hd,λa w hk=>by
 obtain⟨x,b,r1⟩:=hk.has s _ hs;obtain⟨y,i,d⟩:=hk.has v _ hv;obtain⟨w',h,g,f,c⟩:=Vt (n0:=n0) (ev:=a.eval) (w:=w) e (by rw[cB b];exact r1) (by rw[cB i];exact d);rw[cB b]at c;exact⟨w',h,g,f,x,b,c⟩⟩
end
def P8:a5:=⟨λw v=>∃b,v=.P b 0/\ah w b #[.N] 27,λ_ _ _ hb⟨b,e,h⟩=>⟨b,e,h.call hb⟩,λ_=>True,λn _ ρ w w' v v' hc hv⟨b,e,h⟩=>by
 subst e
 obtain⟨b',rfl,r⟩:=A9 hv
 obtain⟨c',k1,k2,key⟩:=OJ hc r h
 obtain⟨u0,q0,e0⟩:=key 0 _ U
 rw[l8 e0]at q0
 refine⟨b',U,?_⟩
 have:c'=#[.N]:=by
  apply vcf
  intro i
  match i with
  |0=>exact q0
  |i+1=>simp[k2]
 exact this▸k1⟩
def aBG:a5:=⟨OI 0,(Hg 0).h8,λ_=>True,λn _ ρ w w' v v' hc hv h=>OU (n0:=0) ρ w w' v v' ⟨hc.cells,hc.types,λ_ _ _ _=>vav _,hc.inj⟩ hv h⟩
def Ly(k:Nat):a5:=⟨λw v=>∃b,v=.P b 0/\ah w b #[.I k,.N] 45,λ_ _ _ hb⟨b,e,h⟩=>⟨b,e,h.call hb⟩,λ_=>True,λn _ ρ w w' v v' hc hv⟨b,e,h⟩=>by
 subst e
 obtain⟨b',rfl,r⟩:=A9 hv
 obtain⟨c',k1,k2,key⟩:=OJ hc r h
 obtain⟨u0,q0,e0⟩:=key 0 _ U
 obtain⟨u1,bj,e1⟩:=key 1 _ U
 rw[gX e0]at q0
 rw[l8 e1]at bj
 refine⟨b',U,?_⟩
 have:c'=#[.I k,.N]:=by
  apply vcf
  intro i
  match i with
  |0=>exact q0
  |1=>exact bj
  |i+2=>simp[k2]
 exact this▸k1⟩
def qy{T T':uaa}{w w':aL}(h:mB T w w'){b:Nat}{cs:df}(d:ah w b cs T')(a:T'≠T):ah w' b cs T':=by obtain⟨e,c,-,k3⟩:=h.box d;rw[<-k3 a];exact c
structure RK where
 g:a5
 v0:a5
 v2:a5
 b0:a5
 b2:a5
 e:Int
 ok:∀n,g.ok n/\v0.ok n/\v2.ok n/\b0.ok n/\b2.ok n
 mF:∀{N:Nat}{K:bJ}{o:Oper}{x:uap},o.op=.extract x 0->bl K x g->bA (ae prog true) N K o v0
 dw:∀{N:Nat}{K:bJ}{o:Oper}{x:uap},o.op=.extract x 1->bl K x g->bA (ae prog true) N K o (bd e)
 dI:∀{N:Nat}{K:bJ}{o:Oper}{x:uap},o.op=.extract x 2->bl K x g->bA (ae prog true) N K o v2
 s0:∀{N n0:Nat}{K:bJ}{o:Oper}{s v:Nat},o.op=.store 27 (.tmp s) (.tmp v)->K s=some (me n0 27 1)->K v=some v0->o.guard=none->o.dst=none->Bp (ae prog true) N n0 K o (27,s) b0
 kt:∀{N n0:Nat}{K:bJ}{o:Oper}{s v:Nat},o.op=.store 45 (.tmp s) (.tmp v)->K s=some (me n0 45 2)->K v=some v2->o.guard=none->o.dst=none->Bp (ae prog true) N n0 K o (45,s) b2
 qc:∀T,wl T->lu T g
 t0:∀T,wl T->lu T v0
 gv:∀T,wl T->lu T v2
 WC:lu 45 b0
 WE:lu 27 b2
def qx{N n0:Nat}{K:bJ}{o:Oper}{p:TypeId×Nat}{b:a5}(hF:∀w v,F.R w v->b.R w v)(h:Bp (ae prog true) N n0 K o p F):Bp (ae prog true) N n0 K o p b:=⟨h.1,h.2.1,λa w hk=>by
 obtain⟨w',f,e,d,v,c,g⟩:=h.2.2 a w hk;exact⟨w',f,e,d,v,c,hF _ _ g⟩⟩
def aBH(t:List aI):RK where
 g:=EN t
 v0:=mD t
 v2:=EO
 b0:=cY t
 b2:=aBG
 e:=0
 ok _:=⟨NE,NE,NE,NE,NE⟩
 mF:=q7
 dw:=qY
 dI:=qV
 s0 {N n0 K o s v} ho hs hv hg hd:=qx (F:=O4 n0 t) (λw v⟨b,bE,e,_,h1,h2⟩=>⟨b,bE,e,vav _,h1,h2⟩) (aBE ho hs hv hg hd)
 kt {N n0 K o s v} ho hs hv hg hd:=qx (F:=Hg n0) (λw v⟨b,e,_,h1⟩=>⟨b,e,vav _,h1⟩) (aBF ho hs hv hg hd)
 qc _:=awd
 t0 _:=awc
 gv _ _ _ _ _ _ h:=h
 WC w w' v h r:=xP (n0:=0) U w w' v h r
 WE w w' v h r:=awb (n0:=0) U w w' v h r
def aBI(k:Nat):RK where
 g:=ol.BM k
 v0:=kP
 v2:=ol.Wr k
 b0:=P8
 b2:=Ly k
 e:=6
 ok _:=⟨NE,NE,NE,NE,NE⟩
 mF:=kK
 dw:=kI
 dI:=kF
 s0 {N n0 K o s v} ho hs hv hg hd:=⟨hg,hd,λa w hk=>by
  obtain⟨x,bj,b,cs,rfl,hn,hb,hsz⟩:=hk.has s _ hs
  obtain⟨y,bm,r2⟩:=hk.has v _ hv
  obtain⟨u1,u2⟩:=Ws (ev:=a.eval) ho hb hsz (cB bj) ((cB bm).trans r2)
  exact⟨_,u1,mB.set hb 0 _,(vaa n0 w).setCell (p:=⟨b,0,none⟩) hn _,_,bj,b,U,u2⟩⟩
 kt {N n0 K o s v} ho hs hv hg hd:=⟨hg,hd,λa w hk=>by
  obtain⟨x,bj,b,cs,rfl,hn,hb,hsz⟩:=hk.has s _ hs
  obtain⟨y,bm,r2⟩:=hk.has v _ hv
  obtain⟨u1,u2⟩:=PX (ev:=a.eval) ho hb hsz (cB bj) ((cB bm).trans r2)
  have b_:=hb.set 0 (.I k)
  exact⟨_,u1,(mB.set hb 0 _).trans (mB.set b_ 1 _),((vaa n0 w).setCell (p:=⟨b,0,none⟩) hn _).setCell (p:=⟨b,1,none⟩) hn _,_,bj,b,U,u2⟩⟩
 qc _ _ _ _ _ _ h:=h
 t0 _ _ _ _ _ _ h:=h
 gv _ _ _ _ _ _ h:=h
 WC w w' v h:=λ⟨b,e,r⟩=>⟨b,e,qy h r AU⟩
 WE w w' v h:=λ⟨b,e,r⟩=>⟨b,e,qy h r AU⟩
end
section
open lK
variable{O:gW}
def qh:ll prog 3:=C8 func3 AQ nj
def qA(V:ual)(n:Nat):fv:=⟨λi=>i==0||i==1||i==24||i==26,λi=>i==0||i==1||i==24||i==26,V,λ_=>false,n⟩
abbrev E6:fv:=qA (λ_=>none) 0
variable{V:ual}
def p6(n:Nat){l:fC}(h:l.all (im E6)=true):l.all (im (qA V n))=true:=(vr (D:=qA V n) (D':=E6) U U U l).trans h
def pY(n:Nat):A3 prog (qA V n) 3:=by
 refine⟨⟨_,func3,?_⟩,λt h=>?_,Bc⟩
 .rw[results3];simp[C5,qA]
 .cases h
def aBJ{ops:du}{k:fC}(b:ops.all (td E6 ops)=true)(a:k.all (im E6)=true):K1 prog 3 ops k (qA V):=
 ⟨λ_=>U,pY,λn=>by rw[VO (D:=qA V n) (D':=E6) U U U];exact b,λn=>p6 n a,λn i h=>h,follows,λ_ _ _=>⟨U,U,U⟩⟩
def WF{N:Nat}{l:List (Nat×a5)}{a:Act}{w:aL}(h:af N (a3 l) a w){s:Nat}(hs:∃v,a.tmps[s]?=some v/\F.R w v):af N (a3 ((s,F)::l)) a w:=ga hs.choose_spec.1 hs.choose_spec.2 h
def pU(K:bJ)(a:Act):BN K a a:=λ_ _ _=>U
def aBK{S:oc}{j d x c:Nat}{T T':uaa}(h:S.j1=[(j,T,x),(d,T',c)])(hF:lu T' F):∀p∈S.j1,p.1≠j->lu p.2.1 F:=by
 rw[h];intro p b a;simp at b;rcases b with rfl|rfl
 .exact absurd U a
 .exact hF
def aBL{S:oc}{j b x d:Nat}{T T':uaa}(h:S.j1=[(j,T,x),(b,T',d)])(hF:lu T F):∀p∈S.j1,p.1≠b->lu p.2.1 F:=by
 rw[h];intro p c a;simp at c;rcases c with rfl|rfl
 .exact hF
 .exact absurd U a
def aBM{Post:uab}{b:ubc}{N W am d:Nat}{c:bJ}{a:Act}{M:c7}{w:aL}(hk:af N c a w)(p:aM (b9 M) a.tmps a.tmps){g kt f e:Nat}{ts:List (List aI)}{k:Int}(y:c g=some (KQ ts))(x:c kt=some (Hv k))(v:c f=some (bd W))(u:c e=some (bd am))(h:∀i j,aM (b9 M) #[i,j] #[i,j]->wk ts w i->uG k w j->gJ O prog Post 8 #[i,j,.I W,.I am] M w d b):gJ O prog Post 8 (#[Operand.tmp g,.tmp kt,.tmp f,.tmp e].map a.eval) M w d b:=by
 obtain⟨u1,n,r1⟩:=hk.has g _ y;obtain⟨u2,m,q⟩:=hk.has kt _ x;obtain⟨u3,s,rfl⟩:=hk.has f _ v;obtain⟨u4,r,rfl⟩:=hk.has e _ u;have t:(#[Operand.tmp g,.tmp kt,.tmp f,.tmp e].map a.eval)=#[u1,u2,.I W,.I am]:=by simp[Act.eval,n,m,s,r]
 rw[t];refine h u1 u2 (oK (l:=[u1,u2]) λz o=>?_) r1 q;simp at o;rcases o with rfl|rfl
 .exact p.get _ _ _ n n
 .exact p.get _ _ _ m m
def aBN(O:gW)(Post:uab)(ts:List (List aI))(c:Int)(k:RK):Prop:=∀(W am:Nat),0<W->W<=16->0<am->am<=64->∀(M:c7)(w:aL) br bS,aM (b9 M) #[br,bS] #[br,bS]->wk ts w br->uG c w bS->gJ O prog Post 8 #[br,bS,.I W,.I am] M w 3 (λu _ w'=>k.g.R w' u/\cS M w w')
def pO{x:Int}(n:Nat)(hn:0<n/\n<=1000):∃p:Nat,l_ x n=p/\p<n/\(1:Int)+(p:Int)=((1+p:Nat):Int):=by have:=uB x (n:=n) AX;exact⟨(l_ x n).toNat,AX,AX,AX⟩
section
variable{Post:uab}{n:Nat}{Shun:uam}{a8 M:c7}{w0 w:aL}{a b nB:Act}{cs:dZ}{bh bu:List aI}{bM aS:aI}{c h_ bT:Nat}{x y:Int}
def m9(k:RK)(v:iE (qA V cs.length) a b)(p:HM O prog 183 (a3 (HY bh bu bM aS c h_ bT x y)) a8 w0 nB)(H:Held O prog a8 w0 w0.heap.size a M w Shun)(J:BN (a3 (HY bh bu bM aS c h_ bT x y)) nB a)(E:aBN O Post [bh,bu] (c:Int) k)(u:eC x)(t:eC y)(hn:n+48<=200)(hsz:a.tmps.size=183)(m:∀a' l M' w' g j,g<=n+48->Held O prog a8 w0 w0.heap.size a' M' w' j->iE (qA V cs.length) a' l->af 183 (a3 ((18,k.b0)::(19,bd k.e)::(20,k.b2)::HY bh bu bM aS c h_ bT x y)) a' w'->bU prog Post g j 0 (aY ((base 3).at l [.R (ay Tryz.f3 20) [],.code (z7 Tryz.f3)]) cs) w'):
 bU prog Post n Shun 0 (aY ((base 3).at b [.code (.region 20 (ay Tryz.f3 20) true),.code (z7 Tryz.f3)]) cs) w:=by
 obtain⟨P,A,K,r⟩:=pO (x:=x) 16 AU;obtain⟨q,hq,N,D⟩:=pO (x:=y) 64 AU;rw[g8 (ay Tryz.f3 20)]at m⊢;refine azT (S:=⟨12,λi=>i==15||i==16||decide (19<i),λi=>decide (12<i),[(19,27,18),(21,45,20)]⟩) (L:=a3 []) (d:=3) (dS:=k.g) qn mixed qh (aBJ AQ AQ) AQ p (jO trivial) AQ U U U U func8 Ao qP U (λn=>show lK.i7 E6 _=true by decide+kernel) hn U (bc.hq U (HL U U)<|bc.hq U (HL U U)<|bc.hq U (aBw U U U)<|bc.hq U Jc<|bc.hq U (azN U U)<|bc.hq U J5<|bc.hq (F:=bd P) U (by rw[<-A];exact WB U U Jx u AU)<|bc.hq (F:=bd (1+P:Nat)) U (by rw[<-r];exact zM U Jx U Cv AU)<|bc.hq U (azO U U)<|bc.hq U J5<|bc.hq (F:=bd q) U (by rw[<-hq];exact WB U U Jx t AU)<|bc.hq (F:=bd (1+q:Nat)) U (by rw[<-D];exact zM U Jx U Cv AU)<|bc.hg U (λa M w hk C=>aBM (W:=1+P) (am:=1+q) hk C U U U U (E _ _ AX AX AX AX M w)) (hok:=(k.ok _).1)<|bc.hk (B:=wl) U Jc k.qc AU (hok:=(k.ok _).1)<|bc.hk (B:=wl) U (k.mF U U) k.t0 AU (hok:=(k.ok _).2.1)<|bc.hk (B:=wl) U (k.dw U U) (λ_ _ _ _ _ _ h=>h) AU<|bc.hk (B:=wl) U (k.dI U U) k.gv AU (hok:=(k.ok _).2.2.1)<|bc.hn (F:=me w0.heap.size 27 1) U (λa w' hn _=>s6 U a w' hn) (hs:=λ_ _ _ _=>Vs)<|bc.hn (F:=me w0.heap.size 45 2) U (λa w' hn _=>s5 U a w' hn) (hs:=λ_ _ _ _=>Vs)<|bc.hst U (k.s0 U U U U U) (hs:=λ_=>aBK U k.WC) (hok:=(k.ok _).2.2.2.1)<|bc.hk (B:=wl) U KV (λ_ _ _ _ _ _ h=>h) AU<|bc.hst U (k.kt U U U U U) (hs:=λ_=>aBL U k.WE) (hok:=(k.ok _).2.2.2.2)<|rfl) v H J ⟨hsz,λs F e=>Cn⟩ ?_;intro a' l M' w' g j hKn f o z I Q;exact m a' l M' w' g j o z I (WF (WF (WF hKn (f.has 20 k.b2 U)) (f.has 19 (bd k.e) U)) (f.has 18 k.b0 U))
end
end
open lK
def WG:a5:=⟨λw v=>∃b k,v=.P b k/\w.cell? (.a b k)=some (.N),λ_ _ _ hb⟨b,k,e,h⟩=>⟨b,k,e,bp.b7 hb _ _ _ h⟩,λ_=>False,λ_ h=>h.elim⟩
section
variable{N:Nat}{K:bJ}{o:Oper}{x y:uap}{T T':uaa}{m n:Int}{k:Nat}
def aBO(a:o.op=.fieldAddr 45 x 0)(c:bl K x (Ly k)):bA (ae prog true) N K o (eY ip (k:Int)):=dM c λev w h=>by obtain⟨b,e,d⟩:=h;exact⟨.P b 0,w,A7,⟨b,0,U,d.rules.1 0⟩,vaa _ _⟩
def aBP(a:o.op=.fieldAddr 45 x 1)(c:bl K x (Ly k)):bA (ae prog true) N K o WG:=dM c λev w h=>by obtain⟨b,e,h⟩:=h;exact⟨.P b 1,w,A7,⟨b,1,U,h.rules.1 1⟩,vaa _ _⟩
def aBQ(a:o.op=.fieldAddr 27 x 0)(c:bl K x P8):bA (ae prog true) N K o WG:=dM c λev w h=>by obtain⟨b,e,h⟩:=h;exact⟨.P b 0,w,A7,⟨b,0,U,h.rules.1 0⟩,vaa _ _⟩
def kp(a:o.op=.load T x)(d:T=29\/T=25)(c:bl K x WG):bA (ae prog true) N K o qq:=dM c λev w h=>by obtain⟨b,k,e,h⟩:=h;exact⟨.N,w,by rcases d with rfl|rfl<;>(cases o;simp only at a;subst a;go_simp),U,vaa _ _⟩
def ko(a:o.op=.call {callee:=.builtin .len,args:=#[x],argTypes:=#[T]})(c:T=29\/T=25)(b:bl K x qq):bA (ae prog true) N K o (bd 0):=dM b λev w h=>by have e:ev x=.N:=h;exact⟨.I 0,w,by rcases c with rfl|rfl<;>(cases o;simp only at a;subst a;go_simp),U,vaa _ _⟩
def j9(a:o.op=.binOp .eql 43 x y T')(c:bl K x (bd m))(b:bl K y (bd m)):bA (ae prog true) N K o (eN true):=Bo c b (λ_=>U) λev w e d=>by cases o;simp only at a;subst a;go_simp
def WH(c:o.op=.binOp .eql T x y T')(b:bl K x (bd m))(a:bl K y (bd n))(d:we T)(h:m=n):bA (ae prog true) N K o (eN true):=by have:=uC (N:=N) c b a d;rwa[h,beq_self_eq_true]at this
end
section
variable{a:Act}{w:aL}
def aBR{L:e8}(g:300<L.length)(hd:a.defers=[])(hk:af 183 (a3 [(18,P8),(19,bd 6),(20,Ly 2),(12,c9 1 ip (gr L))]) a w):
 bO (ae prog true) [.R (ay Tryz.f3 20) [],.code (z7 Tryz.f3)] (.code .ret::[.code (P5 Tryz.f3)]) (λa1 w1=>a1.defers=[]/\af 183 (a3 [(8,eN true)]) a1 w1/\cC w w1) a w:=by
 have c:(300:Int)<((gr L).length:Nat):=by simp[gr];omega
 unfold z7;refine vA (bq (bq ?_));rw[g8 (ay Tryz.f3 21)];refine c5 hk (ao U Jc<|ao U Kh<|ao U (UL (n:=300) U U Jx AU c)<|rfl) λa1 w1 b d1 b1=>fI (t:=true) (ly b U) (bq ?_);rw[g8 (ay Tryz.f3 22)];refine c5 b (ao U Jc<|ao U (j9 U U Jx)<|ao U Jc<|ea U (aBO U U)<|ea U J5<|ea U (WH (n:=2) U U Jx AU U)<|ao U Kk<|ao U Jc<|ea U (aBP U U)<|ea U (kp U AU U)<|ea U (ko U AU U)<|ea U (WH (n:=0) U U Jx AU U)<|ao U Kk<|ao U Jc<|ea U (aBQ U U)<|ea U (kp U AU U)<|ea U (ko U AU U)<|ea U (WH (n:=0) U U Jx AU U)<|ao U Kk<|ao U KV<|rfl) λh f d e b2=>lp ⟨e.trans (d1.trans hd),d.aZ ⟨U,NE⟩,b1.trans (b2.mono b1.size)⟩
def aBS{B:Nat}{W:aL}{i:Value}{cells:uad}{fz:List aI}(h:pC B W i cells fz):∀u∈cells,u.oneCell'=true:=by intro u c;obtain⟨j,d,rfl⟩:=vel c;have k:=h.own.1;have a:j / 5<fz.length:=AX;obtain⟨be,vs,l,g,b⟩:=h.mR (j / 5) _ (vag a);obtain⟨_,_,rfl,-⟩:=b.is.fy;obtain⟨_,_,rfl,-⟩:=b.is.dT;obtain⟨_,_,rfl,-⟩:=b.is.dt;have e:=g (j % 5) AX;rw[show j / 5*5+j % 5=j by omega,vag d]at e;have a:j % 5<5:=AX;generalize j % 5=f at e a;match f,a with|0,_ |1,_ |2,_ |3,_ |4,_=>simp at e;rw[e];rfl
def aBT{B:Nat}{W W':aL}{p q m:Value}{c1 bG:uad}{a gv:List aI}(n:pC B W p c1 a)(o:pC B W q bG gv)(r:W'.ownsRow B 36 5 m (a.length+gv.length) (c1++bG))(hk:∀e,e=2\/e=9\/e=4->∀(b:Nat) c z,W.heap[b]?=some (.cells c e z)->W'.heap[b]?=some (.cells c e z)):pC B W' m (c1++bG) (a++gv):=by
 refine⟨by rw[vbf];exact r,λj c d=>?_⟩;have s:=n.own.1;rcases vcx j a.length with h|h
 .rw[vcb h]at d;obtain⟨be,vs,l,k,i⟩:=n.mR j c d;exact⟨be,vs,l,λf g=>by rw[vcb AX];exact k f g,i.keep hk⟩
 .rw[vby h]at d;obtain⟨be,vs,l,k,i⟩:=o.mR _ c d;exact⟨be,vs,l,λf g=>by rw[vby AX,show j*5+f-c1.length=(j-a.length)*5+f by omega];exact k f g,i.keep hk⟩
def aBU{B:Nat}{rz km:List aI}{v18 v19:Value}(h2:0<km.length)(hl:rz.length+km.length<=100)(hB:B<=w.heap.size){ks ks':fC}{Q:uaf}(hk:af 183 (a3 [(18,ew v18),(19,ew v19),(21,Lu B rz),(22,Lu B km)]) a w)(kk:∀a' w',Below B w w'->af 183 (a3 [(18,ew v18),(19,ew v19),(21,cY (rz++km))]) a' w'->a'.defers=a.defers->bO (ae prog true) ks ks' Q a' w'):bO (ae prog true) (.code (.region 25 (ay Tryz.f3 25) false)::ks) ks' Q a w:=by
 obtain⟨v21,U6,b1,X,c1,rfl,W,dw,K⟩:=hk.has 21 _ rfl;obtain⟨v22,V,b2,WI,bG,rfl,aAv,dI,o2⟩:=hk.has 22 _ rfl;have jX:af 183 (a3 [(18,ew v18),(19,ew v19),(21,tt b1 #[X] 27),(22,tt b2 #[WI] 27)]) a w:=af.of hk.size λp hp=>by
  simp at hp;rcases hp with rfl|rfl|rfl|rfl
  .exact hk.get rfl rfl λv hv=>hv
  .exact hk.get rfl rfl λv hv=>hv
  .exact⟨_,U6,rfl,dw⟩
  .exact⟨_,V,rfl,dI⟩
 obtain⟨kM,E,rfl⟩:=gQ K.own;obtain⟨Nf,aIk,rfl⟩:=gQ o2.own;rw[g8 (ay Tryz.f3 25)];refine xz (m:=4) jX (ao rfl (Wc rfl rfl)<|ao rfl (E1 rfl rfl AU)<|ao rfl (Wc rfl rfl)<|ao rfl (E1 rfl rfl AU)<|rfl) AU λn H i d2 r=>?_;have l:=K.below r;have q:=o2.below r;have rM:=vad hB r.size;have D:=r.mono hB;obtain⟨-,⟨-,hn⟩|⟨g,cap,bf,e,-,L,-,-,-,h4⟩⟩:=id q.own
 .omega
 cases e;obtain⟨u1,e1,rfl⟩:=i.has 170 (ew _) rfl;obtain⟨u2,e2,rfl⟩:=i.has 172 (ew _) rfl;obtain⟨u3,e3,rfl,O⟩:=i.has 21 (tt b1 _ _) rfl;obtain⟨u4,e4,rfl⟩:=i.has 18 (ew _) rfl;obtain⟨u5,fd,rfl⟩:=i.has 19 (ew _) rfl;have hsz:=i.size;clear i jX;obtain⟨U,C,A,T,Y⟩:∃o,(ay Tryz.f3 25)[6]?=some o/\o.op=.store 25 (.tmp 174) (.tmp 173)/\o.guard=none/\o.dst=none:=⟨_,rfl,rfl,rfl,rfl⟩;rw[g8 (ay Tryz.f3 25)]at C;show wpOps _ _ _ [4,5,6] _ _;refine h7 (R:=λbI d=>∃f,bI=n.put (some 173) f/\d.ownsRow B 36 5 f (rz.length+km.length) (c1++bG)/\H.grownBy d (Value.slice kM rz.length E).ownBlock) (Wd Q6 rfl rfl rfl rfl (cB e1) l.own (cB e2) q.own.1 (λj u I=>?_) (aBS q) AX AU rM λf w' r1 k r3=>⟨f,rfl,r1,k⟩) ?_
 .rw[(ah.rules (show ah H g bf _ from L)).1,<-vea];rw[<-h4,List.getElem?_take]at I;split at I
  .exact I
  .cases I
 rintro bI d ⟨f,rfl,r1,k⟩;have P:ah d b1 #[.slice kM rz.length E] 27:=ah.grown O k λg hg e=>by subst e;exact PP l.own O AU hg
 have Lk:∀e,e=2\/e=9\/e=4->∀(b:Nat) c z,H.heap[b]?=some (.cells c e z)->(d.setCell ⟨b1,0,none⟩ f).heap[b]?=some (.cells c e z):=λe he b c z L=>by
  have N:b<H.heap.size:=AF;have M:b≠b1:=λS=>by subst S;have:=O;rcases he with rfl|rfl|rfl<;>simp_all[ah]
  rw[vat _ _ _ _ M,k.block b N λS=>?_]
  .exact L
  .obtain⟨c',hc'⟩:=Le l.own S.symm;rcases he with rfl|rfl|rfl<;>simp_all[ah]
 have cO:=aBT l q (uJ r1 P AU 0 f) Lk;have BR:Below B w (d.setCell ⟨b1,0,none⟩ f):=(D.trans (E2 l.own k rM)).trans ((vaa _ d).setCell (p:=⟨b1,0,none⟩) W _);have cD:=P.set 0 f;obtain⟨x,y,rfl⟩:=gQ r1;have Z:Hid _:=And.intro cO (And.intro BR cD);clear cO BR cD Lk r1 k l q K o2 D r;obtain⟨l1,l2,fE⟩:=P.all;refine h7 (R:=λh J=>h=(n.put (some 173) (.slice x (rz.length+km.length) y)).put (some 174) (.P b1 0)/\J=d) (nu (v:=.P b1 0) (w1:=d) rfl rfl rfl ?_ ⟨rfl,rfl⟩) ?_
 .have e:=cB (a:=n.put (some 173) (.slice x (rz.length+km.length) y)) (t:=21) ((dF AU).trans e3);generalize(n.put (some 173) (.slice x (rz.length+km.length) y)).eval=ev at e⊢;go_simp
 rintro h J ⟨F,rfl⟩;have ne:∀{s:Nat}{u:Value},s≠173->s≠174->n.tmps[s]?=some u->h.tmps[s]?=some u:=λh1 h2 e=>by rw[F];exact(dF (Ne.symm h2)).trans ((dF (Ne.symm h1)).trans e)
 have f1:h.tmps[173]?=some (.slice x (rz.length+km.length) y):=by rw[F];exact(dF AU).trans (jz (by rw[hsz];decide))
 have iu:h.tmps[174]?=some (.P b1 0):=by rw[F];exact jz (by rw[fo,hsz];decide)
 have f3:h.defers=n.defers:=by rw[F,put_defers,put_defers]
 have f4:h.tmps.size=183:=by rw[F,fo,fo];exact hsz
 refine qf (w1:=J.setCell ⟨b1,0,none⟩ (.slice x (rz.length+km.length) y)) C T Y ?_ (vA (kk h _ Z.out.2.1 ?_ (f3.trans d2)))
 .have g1:=cB f1;have g2:=cB iu;generalize h.eval=ev at g1 g2⊢;cases U;simp only at A;subst A;go_simp
 .exact ga (ne AU AU e4) rfl<|ga (ne AU AU fd) rfl<|ga (ne AU AU e3) ⟨b1,_,rfl,vav _,Z.out.2.2,Z.out.1.read A2⟩<|Hk f4
end
section
variable{O:gW}{n0:Nat}{V:ual}
structure WJ(t:List aI)(want:e8):Prop where
 n:t.length=4
 s:∀c∈t,∀s∈c.dT,s.size<=1000
 i:∀c∈t,∀j∈want,Li c j
 l:want.length<=300
def aB1{a:List aI}{l:e8}:∀c∈qu a l,BO c:=λc b=>by obtain⟨d,-,rfl⟩:=vbl.1 b;grind[BO,nC]
def jI{a:List aI}{l:e8}:∀c∈qu a l,c.dt.length=l.length:=λc b=>by obtain⟨d,-,rfl⟩:=vbl.1 b;simp[nC]
def aB2{a:Act}{w:aL}{bh bu t:List aI}{L R:e8}(A:WJ bh L)(B:WJ bu R)(x:t=qu bh L++qu bu R)(hd:a.defers=[])(hk:af 183 (a3 [(18,cY t),(19,bd 0),(9,cY bh),(10,cY bu),(12,c9 1 ip (gr L)),(13,c9 1 ip (gr R))]) a w):
 bO (ae prog true) [.R (ay Tryz.f3 20) [],.code (z7 Tryz.f3)] [.code .ret] (λa1 w1=>a1.defers=[]/\af 183 (a3 [(8,eN true)]) a1 w1/\cC w w1) a w:=by
 have E:¬(300:Int)<((gr L).length:Nat):=by have:=A.l;simp[gr];omega
 have n1:(qu bh L).length=4:=by simp[qu,A.n]
 have eJ:(qu bu R).length=4:=by simp[qu,B.n]
 unfold z7;refine vA (bq (bq ?_));rw[g8 (ay Tryz.f3 21)];refine c5 hk (ao rfl Jc<|ao rfl Kh<|ao rfl (UM (n:=300) rfl rfl Jx AU E)<|rfl) λa1 w1 b d1 b1=>fI (t:=false) (ly b rfl) (nt ?_);obtain⟨v18,V,W⟩:=b.has 18 (cY t) rfl;have Y:af 183 (a3 [(9,cY bh),(10,cY bu),(12,c9 1 ip (gr L)),(13,c9 1 ip (gr R)),(18,ew v18),(19,qo w1.heap.size (bd 0))]) a1 w1:=af.of b.size λp d=>by
  simp at d;rcases d with rfl|rfl|rfl|rfl|rfl|rfl
  .exact b.get rfl rfl λv hv=>hv
  .exact b.get rfl rfl λv hv=>hv
  .exact b.get rfl rfl λv hv=>hv
  .exact b.get rfl rfl λv hv=>hv
  .exact⟨_,V,rfl⟩
  .exact b.get rfl rfl λv hv=>⟨vac _,hv⟩
 unfold P5;refine bq ?_;rw[g8 (ay Tryz.f3 23)];refine xz (m:=3) Y (ao rfl (HL rfl rfl)<|ao rfl Jc<|ao rfl (pe (s:=19) rfl rfl rfl rfl (by have:=A.n;omega) A.s A.i (by have:=A.l;omega))<|rfl) AU λbb w2 I U b2=>pd (i:=3) rfl rfl rfl rfl rfl I rfl rfl rfl rfl AU AU b2.size λbI w3 k3 T y=>n8 (bq ?_);rw[g8 (ay Tryz.f3 24)];refine xz (m:=3) (k3.aZ (l:=[(10,cY bu),(13,c9 1 ip (gr R)),(18,ew v18),(19,qo w1.heap.size (bd 0)),(21,Lu w1.heap.size (qu bh L))]) ⟨rfl,rfl,rfl,rfl,rfl,NE⟩) (ao rfl (HL rfl rfl)<|ao rfl Jc<|ao rfl (pe (s:=19) rfl rfl rfl rfl (by have:=B.n;omega) B.s B.i (by have:=B.l;omega))<|rfl) AU λbC Z H S bk=>pd (i:=3) rfl rfl rfl rfl rfl H rfl rfl rfl rfl AU AU (vad b2.size (vad y.size bk.size)) λdl dK f Q bt=>n8 (bq ?_);have u:=b2.trans (y.mono b2.size);have q:=u.trans (bk.mono u.size);have r:=q.trans (bt.mono q.size);refine aBU (B:=w1.heap.size) (rz:=qu bh L) (km:=qu bu R) (v18:=v18) (v19:=.I 0) AX AX r.size (af.of f.size λp d=>?_) λK J M e P=>bq ?_
 .simp at d;rcases d with rfl|rfl|rfl|rfl
  .exact f.get rfl rfl λv hv=>hv
  .exact f.get rfl rfl λv hv=>hv.2
  .exact f.get rfl rfl λv hv=>hv
  .exact f.get rfl rfl λv hv=>hv
 have g:=r.trans M;rw[<-x]at e;have o:af 183 (a3 [(18,cY t),(19,bd 0),(21,cY t)]) K J:=af.of e.size λp d=>by
  simp at d;rcases d with rfl|rfl|rfl
  .exact e.get rfl rfl λv hv=>hv▸(cY t).h8 _ _ _ g W
  .exact e.get rfl rfl λv hv=>hv
  .exact e.get rfl rfl λv hv=>hv
 have k:t.length<9000000000000000000/\(∀c∈t,BO c)/\∀c∈t,c.dt.length<9000000000000000000:=by
  rw[x];refine⟨by rw[vbf];omega,λc j=>?_,λc j=>?_⟩
  .rcases List.mem_append.1 j with h|h<;>exact aB1 _ h
  .have:=A.l;have:=B.l;rcases List.mem_append.1 j with h|h
   .rw[jI _ h];omega
   .rw[jI _ h];omega
 rw[g8 (ay Tryz.f3 26)];refine c5 o (ao rfl (HL rfl rfl)<|ao rfl (HL rfl rfl)<|ao rfl (aA3 rfl rfl rfl k.1 k.2.1 k.2.2)<|ao rfl KV<|rfl) λnk vu D O cU=>bq ?_;rw[g8 (ay Tryz.f3 27)];refine c5 D (ao rfl Jc<|ao rfl (j9 rfl rfl Jx)<|ao rfl Jc<|ea rfl Jc<|ao rfl Kk<|ao rfl KV<|rfl) λp8 ul C N F=>lp ⟨N.trans (O.trans (P.trans (Q.trans (S.trans (T.trans (U.trans (d1.trans hd))))))),C.aZ ⟨rfl,NE⟩,?_⟩;have z:=g.trans (cU.mono g.size);have X:=z.trans (F.mono z.size);exact b1.trans (X.mono b1.size)
def jF{Post:uab}{n:Nat}{Shun:uam}{w:aL}{a:Act}{ks:fC}(hd:a.defers=[])(f:a.tmps[8]?=some (.T))(e:∀k,Post (.T) (w.at k)):bU prog Post n Shun 0 (aY ((base 3).at a (.code .ret::ks)) []) w:=by
 refine AY U λk=>⟨aY {(base 3).at a (.code .ret::ks)with mode:=.returning} [],w.at k,#[],?_,Ab,vac _,?_⟩
 .simp[aY,stepG,stepG.exec,Frame.at,base]
 .refine ao4 U λk'=>⟨.T,#[],?_,Ab,e k'⟩;have c:=func3;have b:(results Tryz.f3 a.tmps).run prog ((w.at k).at k')=.ok (.T) ((w.at k).at k'):=by simp_all[results]
  have d:(results Tryz.f3 a.tmps).events prog ((w.at k).at k') #[]=#[]:=by simp_all[results]
  simp[aY,stepG,unwind,doReturn,Frame.at,base,hd,c,b,d,seen,GStep.after]
def jD(rs:List fJ){l:e8}(h:∀j∈l,j<rs.length)(b:l.length<=300):WJ (dp rs) l:=by
 refine⟨U,λc a t ht=>?_,λc a j d=>?_,b⟩
 .simp[dp]at a;rcases a with rfl|rfl|rfl|rfl
  .grind
  .grind
  .grind
  grind[KY]
 .have:=rr rs (h j d) c a;exact⟨this.dt,this.dT,this.fy⟩
def aB4{rs os:List fJ}(c:rs.length<=40)(a:os.length<=40)(b:Int):∃bM aS,(dp rs)[om b]?=some bM/\(dp os)[om b]?=some aS/\bM.kind=aS.kind/\bM.bV=aS.bV/\∀(B:Nat)(fk:aL)(iJ iK:Value),B=fk.heap.size->(cY (dp rs)).R fk iJ->(cY (dp os)).R fk iK->E4 (dp rs) (dp os) bM aS (om b) rs.length os.length B fk iJ iK:=by rcases Wy b with h|h|h<;>rw[h]<;>refine⟨_,_,U,U,U,U,λB fk iJ iK e f g=>⟨e,f,g,H1,H1,H1,H1,U,U,Ab,Ab,Ab,Ab,AX,c,a⟩⟩
section
variable{Post:uab}{n:Nat}{Shun:uam}{a8 M:c7}{w0 w:aL}{a b:Act}
def WK{K K':bJ}(f:iE (qA V 0) a b)(H:Held O prog a8 w0 n0 a M w Shun){k k':fC}(sf:k.all (im E6)=true)(hk:k.all (gI prog)=true)(m:k'.all (gI prog)=true)(ok:∀s F,K s=some F->F.ok n0)(ok':∀s F,K' s=some F->F.ok n0)(o:af 183 K a w)(hrun:∀W,af 183 K a W->bO (ae prog true) k k' (λa1 w1=>a1.defers=[]/\af 183 K' a1 w1/\cC W w1) a W)(l:∀a' c M' w',Held O prog a8 w0 n0 a' M' w' Shun->iE (qA V 0) a' c->af 183 K' a' w'->bU prog Post n Shun 0 (aY ((base 3).at c k') []) w'):
 bU prog Post n Shun 0 (aY ((base 3).at b k) []) w:=by
 refine K0 qn follows qh U (pY _) f (p6 _ sf) H hk m (I:=af 183 K) (J:=af 183 K') (lq _ ok) (lq _ ok') o (λW d e b cs=>?_) l;obtain⟨a1,w1,⟨j,i,h⟩,g⟩:=hrun W e b cs;exact⟨a1,w1,⟨j,i,h.mono d⟩,g⟩
def aB5(h6:iE (qA V 0) a b)(H:Held O prog a8 w0 n0 a M w Shun)(rs os:List fJ)(U:rs.length<=40)(Q:os.length<=40){c x y:Int}(hc:eC c)(T:eC x)(S:eC y)(hs:af 183 (a3 [(2,bd c),(7,sA x y),(9,cY (dp rs)),(27,mD (dp os))]) a w)(hn:n+48<=200)(X:∀a' M' w' bQ,Held O prog a8 w0 n0 a' M' w' bQ->Post (.T) w'):
 bU prog Post n Shun 0 (aY ((base 3).at b [.R (ay Tryz.f3 2) [2,3],.code (P6 Tryz.f3)]) []) w:=by
 obtain⟨bM,aS,ka,kb,i,es,hC⟩:=aB4 U Q c;have fa:=po rs U (Wy c);have Y:=po os Q (Wy c);have R:(dp rs).length+(dp os).length<=8:=H1;have VK:(xE (dp rs) (dp os) rs.length os.length (om c)).length=(kJ (hO bM aS) rs.length os.length).length:=by rw[pH ka kb i es,vcd]
 have okB:∀m,∀s F,a3 (HY (dp rs) (dp os) bM aS (om c) rs.length os.length x y) s=some F->F.ok m:=λm=>Fb;refine WK h6 H (K':=a3 (HY (dp rs) (dp os) bM aS (om c) rs.length os.length x y)) (k':=[.code (.region 20 (ay Tryz.f3 20) true),.code (z7 Tryz.f3)]) AQ AQ AQ Gw (okB _) hs (λW f=>aBz hc hC x y a W H.defers f) ?_;intro a1 b1 dv w1 o h t;have P:=o.phase t (okB _);by_cases N:(kJ (hO bM aS) rs.length os.length).length<=300
 .refine m9 (aBH (Lt (dp rs) (dp os) rs.length os.length (om c))) h P o.m0 (pU _ _) (λW am E D C B M w I J A ht hn=>aAU fa Y R AX E D C B M w I J A ht hn) T S AX t.size λbb b2 M2 w2 eJ KK A8 d L q=>?_;have d:=o.back d;refine WK L d (k':=[.code .ret]) (K:=a3 [(18,cY (Lt (dp rs) (dp os) rs.length os.length (om c))),(19,bd 0),(9,cY (dp rs)),(10,cY (dp os)),(12,c9 1 ip (gr ((kJ (hO bM aS) rs.length os.length).map (·.1)))),(13,c9 1 ip (gr ((kJ (hO bM aS) rs.length os.length).map (·.2))))]) (K':=a3 [(8,eN true)]) AQ AQ AQ Fb (by exact jO ⟨NE,NE⟩) (q.aZ ⟨rfl,rfl,rfl,rfl,rfl,rfl,NE⟩) (λW f=>aB2 (jD rs (λj z=>?_) (by simpa using N)) (jD os (λj z=>?_) (by simpa using N)) (aA0 ka kb i es (lC rs) (lC os)) d.defers f) ?_
  .obtain⟨p,u,rfl⟩:=vbl.1 z;exact(Wx u).1
  .obtain⟨p,u,rfl⟩:=vbl.1 z;exact(Wx u).2
  intro bI b5 mV Z g l k3;obtain⟨v,e,r⟩:=k3.has 8 (eN true) rfl;cases r;exact jF (l.defers.trans g.defers) ((l.same 8 rfl).trans e) λk=>X _ _ _ _ (g.at k)
 .refine m9 (aBI 2) h P o.m0 (pU _ _) (λW am E D C B M w I J A ht hn=>aAV fa Y R AX E D C B M w I J A ht hn) T S AX t.size λbb b2 M2 w2 eJ KK A8 d L q=>?_;have d:=o.back d;refine WK L d (k':=.code .ret::[.code (P5 Tryz.f3)]) (K:=a3 [(18,P8),(19,bd 6),(20,Ly 2),(12,c9 1 ip (gr ((kJ (hO bM aS) rs.length os.length).map (·.1))))]) (K':=a3 [(8,eN true)]) AQ AQ AQ Gw (by exact jO ⟨NE,NE⟩) (q.aZ ⟨rfl,rfl,rfl,rfl,NE⟩) (λW f=>aBR A2 d.defers f) ?_;intro bI b5 mV Z g l k3;obtain⟨v,e,r⟩:=k3.has 8 (eN true) rfl;cases r;exact jF (l.defers.trans g.defers) ((l.same 8 rfl).trans e) λk=>X _ _ _ _ (g.at k)
end
end
section
variable{O:gW}{n0:Nat}
abbrev hv(x y:Int):Value:=.agg #[.I x,.I y]
section
variable{P:cf}{Post:uab}{n:Nat}{Shun:uam}{w:aL}{f:uaj}{b:Act}{ops ops':du}{i:Nat}{rest:e8}{k k':fC}{cs:dZ}{o:Oper}
def WM(h:∀w,stepG P true (aY ((base f).at b k) cs) w=.go (aY ((base f).at b k') cs) w #[])(hn:∀j,bU P Post n Shun 0 (aY ((base f).at b k') cs) (w.at j)):bU P Post n Shun 0 (aY ((base f).at b k) cs) w:=
 AY U λj=>⟨_,w.at j,#[],h _,Ab,vac _,hn j⟩
def jC{id:Nat}{l:e8}(a:List.range ops.size=l)(h:∀j,bU P Post n Shun 0 (aY ((base f).at b (.R ops l::k)) cs) (w.at j)):bU P Post n Shun 0 (aY ((base f).at b (.code (.region id ops false)::k)) cs) w:=by refine WM (λw=>?_) h;subst a;simp[aY,stepG,stepG.exec,Frame.at,base]
def jj{x y:Code}(h:∀j,bU P Post n Shun 0 (aY ((base f).at b (.code x:: .code y::k)) cs) (w.at j)):bU P Post n Shun 0 (aY ((base f).at b (.code (.seq x y)::k)) cs) w:=
 WM (λw=>by simp[aY,stepG,stepG.exec,Frame.at,base]) h
def iN{id:Nat}{l:e8}{y:Code}(a:List.range ops'.size=l)(h:∀j,bU P Post n Shun 0 (aY ((base f).at b (.R ops' l:: .code y::k)) cs) (w.at j)):bU P Post n Shun 0 (aY ((base f).at b (.R ops []:: .code (.seq (.region id ops' false) y)::k)) cs) w:=
 WM (k':=.code (.seq (.region id ops' false) y)::k) (λw=>by simp[aY,stepG,stepG.exec,Frame.at,base]) λ_=>jj λ_=>jC a h
def P9(g:ops[i]?=some o)(l:o.guard=none){d:Tmp}(hd:o.dst=some d){v:Value}{w1:aL}(e:∀j,(execOp b.eval o).run P (w.at j)=.ok (.value v) (w1.at j))(p:∀j,(execOp b.eval o).events P (w.at j) #[]=#[])(hs:w.heap.size<=w1.heap.size)(m:∀j,bU P Post n Shun 0 (aY ((base f).at (b.put (some d) v) (.R ops rest::k)) cs) (w1.at j)):bU P Post n Shun 0 (aY ((base f).at b (.R ops (i::rest)::k)) cs) w:=by
 refine AY U λj=>⟨_,w1.at j,#[],?_,Ab,hs,m j⟩;have c:=vay (P:=P) (main:=true) (b:=base f) (a:=b) (k:=k) (cs:=cs) (rest:=rest) g (vB l _) IC (e j);have h:listed P (base f).fn b o (w.at j)=#[]:=by grind[listed,seen_none]
 rw[h,hd]at c;exact c
def aB6{a:Addr}(h:ops[i]?=some o)(q:o.guard=none)(hd:o.dst=none){w1:aL}(g:∀j,(execOp b.eval o).run P (w.at j)=.ok .skip (w1.at j))(c:∀j,(execOp b.eval o).events P (w.at j) #[]=#[⟨.cell a,true,false⟩])(hs:seen P f #[⟨.cell a,true,false⟩]=#[⟨.cell a,true,false⟩])(m:¬Shun (.cell a))(l:a.block<w1.heap.size)(hsz:w.heap.size<=w1.heap.size)(r:∀j,bU P Post n Shun 0 (aY ((base f).at b (.R ops rest::k)) cs) (w1.at j)):bU P Post n Shun 0 (aY ((base f).at b (.R ops (i::rest)::k)) cs) w:=by
 refine AY U λj=>⟨_,w1.at j,#[⟨.cell a,true,false⟩],?_,λe c=>?_,hsz,r j⟩
 .have d:=vdj (P:=P) (main:=true) (b:=base f) (a:=b) (k:=k) (cs:=cs) (rest:=rest) h (vB q _) IC (g j);have p:listed P (base f).fn b o (w.at j)=#[⟨.cell a,true,false⟩]:=by unfold listed;rw[c j];exact hs
  rw[p,hd]at d;exact d
 .simp at c;subst c;exact Gr m l _
def _root_.Go.Proofs.YtebcnmadaaimoaaGreat.bc.Home.lay{M:c7}(d:Home O P M Shun w){c:df}(T:uaa)(e:aM (b9 M) c c):Home O P (λb=>M b\/b=w.heap.size) Shun (w.alloc (.cells c T)):=by
 have le:=qd (M':=λb=>M b\/b=w.heap.size) λb(h:M b)=>.inl h;have hs:(w.alloc (.cells c T)).heap.size=w.heap.size+1:=Ab;have j:=d.ob;refine⟨λb a=>?_,λg hg=>.inl (d.C4 g hg),λb a=>d.sh b ?_,λb a h0=>?_,AX,λb h0 a=>(vcj _ _ _ AX).trans (d.old b h0 a),d.so⟩
 .rcases a with a|rfl
  .obtain⟨o,i,f⟩:=d.cl b a;exact⟨o,(vcj _ _ _ (d.lt a)).trans i,f.imp (λh=>h.mono le) id⟩
  .exact⟨_,vbg w _,.inl (.cells _ (e.mono le) ⟨λ_ h=>h,λ_=>U⟩)⟩
 .rcases a with(a|rfl)|a
  .exact .inl a
  .exact .inr Jb
  .exact .inr AX
 .rcases a with a|rfl
  .exact d.new b a h0
  .exact j
def iL{w:aL}{o:Obj}(j:Nat):mw w ((w.alloc o).at j):=⟨by show w.heap.size<=(w.alloc o).heap.size;simp,.refl _,U,U⟩
end
def WN(mF dw dI a:Value)(i:Nat):(#[mF,dw,dI,a]++Array.replicate 179 undef:df)[i]?=if i=0 then some mF else if i=1 then some dw else if i=2 then some dI else if i=3 then some a else if i<183 then some undef else none:=by
 rcases i with _ | _ | _ | _ |i
 .simp_all
 .simp_all
 .simp_all
 .simp_all
 .rw[Array.getElem?_append_right Ab,Array.getElem?_replicate];grind
def HZ(rv sv dI gh p u q v:Value):Act:=(((((((⟨#[rv,sv,dI,gh]++Array.replicate 179 undef,[]⟩:Act).put (some 7) p).put (some 8) (.F)).put (some 24) rv).put (some 25) u).put (some 9) q).put (some 26) sv).put (some 27) v
def wt(dI gh p u q v:Value):Act:=(((((⟨#[.U,.U,dI,gh]++Array.replicate 179 undef,[]⟩:Act).put (some 7) p).put (some 8) (.F)).put (some 25) u).put (some 9) q).put (some 27) v
def LC(dI a p u q v:Value)(i:Nat):(wt dI a p u q v).tmps[i]?=if 27=i then some v else if 9=i then some q else if 25=i then some u else if 8=i then some (.F)else if 7=i then some p else if i=0 then some undef else if i=1 then some undef else if i=2 then some dI else if i=3 then some a else if i<183 then some undef else none:=by simp only[wt,Act.put,vak,vcv,Array.size_append,ves,vdo,List.length_nil,Array.size_replicate,WN];rfl
def aB7(rv sv dI a p u q v:Value):iE (qA (λi=>if i=0\/i=24 then some rv else some sv) 0) (wt dI a p u q v) (HZ rv sv dI a p u q v):=by
 have c:=LC dI a p u q v;have b:∀i,(HZ rv sv dI a p u q v).tmps[i]?=if 27=i then some v else if 26=i then some sv else if 9=i then some q else if 25=i then some u else if 24=i then some rv else if 8=i then some (.F)else if 7=i then some p else if i=0 then some rv else if i=1 then some sv else if i=2 then some dI else if i=3 then some a else if i<183 then some undef else none:=by intro i;simp only[HZ,Act.put,vak,vcv,Array.size_append,ves,vdo,List.length_nil,Array.size_replicate,WN];rfl
 have four:∀i,(qA (λi=>if i=0\/i=24 then some rv else some sv) 0).T i=true->i=0\/i=1\/i=24\/i=26:=λi h=>by simp[qA]at h;omega
 refine⟨by simp[wt,HZ,Act.put],λi hi=>?_,λi z hi d=>?_,λi hi=>?_,by simp[wt,HZ,Act.put]⟩
 .rw[c,b];simp[qA]at hi;obtain⟨⟨⟨h0,g⟩,f⟩,e⟩:=hi;simp[h0,g,Ne.symm f,Ne.symm e]
 .rw[c]at d;rcases four i hi with rfl|rfl|rfl|rfl<;>simp at d<;>exact d.symm
 .rw[b];rcases four i hi with rfl|rfl|rfl|rfl<;>rfl
structure iF(W w':aL):Prop where
 old:∀b,0<b->b<W.heap.size->w'.heap[b]?=W.heap[b]?
 first:∀c e fr,W.heap[0]?=some (.cells c e fr)->w'.heap[0]?=some (.cells c e fr)
 since:mw W w'
section
variable{Post:uab}{n:Nat}{Shun:uam}{W:aL}{b:Act}{cs:dZ}{rv:Value}{x y:Int}{rest:e8}{k:fC}{id i s d:Nat}{o:Oper}{v:Value}
def aB_(c:(ay Tryz.f3 id)[i]?=some o)(a:o.op=.box 24 (.tmp s))(hg:o.guard=none)(hd:o.dst=some d)(f:b.tmps[s]?=some (hv x y))(h:∀j,bU prog Post n Shun 0 (aY ((base 3).at (b.put (some d) (.P W.heap.size 0)) (.R (ay Tryz.f3 id) rest::k)) cs) ((W.alloc (.cells #[.I x,.I y] 24)).at j)):bU prog Post n Shun 0 (aY ((base 3).at b (.R (ay Tryz.f3 id) (i::rest)::k)) cs) W:=by
 have e:=cB f;refine P9 c hg hd (v:=.P W.heap.size 0) (w1:=(W.alloc (.cells #[.I x,.I y] 24))) (λj=>?_) (λj=>?_) Ab h
 .generalize b.eval=ev at e⊢;cases o;simp only at a;subst a;simp[go_sem,e];exact⟨U,U⟩
 .generalize b.eval=ev at e⊢;cases o;simp only at a;subst a;simp[go_sem,e]
def aCa(c:(ay Tryz.f3 id)[i]?=some o)(a:o.op=.assign (.const (.F)))(hg:o.guard=none)(hd:o.dst=some d)(h:∀j,bU prog Post n Shun 0 (aY ((base 3).at (b.put (some d) (.F)) (.R (ay Tryz.f3 id) rest::k)) cs) (W.at j)):bU prog Post n Shun 0 (aY ((base 3).at b (.R (ay Tryz.f3 id) (i::rest)::k)) cs) W:=
 P9 c hg hd (v:=.F) (w1:=W) (λj=>by cases o;simp only at a;subst a;simp[go_sem]) (λj=>by cases o;simp only at a;subst a;simp[go_sem]) Jb h
def ia(e:(ay Tryz.f3 id)[i]?=some o)(a:o.op=.move (.tmp s))(hg:o.guard=none)(hd:o.dst=some d)(c:b.tmps[s]?=some v)(h:∀j,bU prog Post n Shun 0 (aY ((base 3).at (b.put (some d) v) (.R (ay Tryz.f3 id) rest::k)) cs) (W.at j)):bU prog Post n Shun 0 (aY ((base 3).at b (.R (ay Tryz.f3 id) (i::rest)::k)) cs) W:=
 P9 e hg hd (v:=v) (w1:=W) (λj=>Ja) (λj=>Ja) Jb h
def hQ{O:gW}{M:c7}{rs:List fJ}(g:(ay Tryz.f3 id)[i]?=some o)(c:o.op=.call {callee:=.value (.func 4),args:=#[.tmp s,.const (.I 40)],argTypes:=#[22,3]})(hg:o.guard=none)(hd:o.dst=some d)(t:b.tmps[s]?=some rv)(x:Home O prog M Shun W)(v:E0 O rv rs)(h:∀u M' w',Home O prog M' Shun w'->(∀b,M b->M' b)->ar (b9 M') u u->mw W w'->cS M W w'->xC (dp (rs.take 40)) w' u->bU prog Post n Shun 0 (aY ((base 3).at (b.put (some d) u) (.R (ay Tryz.f3 id) rest::k)) cs) w'):bU prog Post n Shun 0 (aY ((base 3).at b (.R (ay Tryz.f3 id) (i::rest)::k)) cs) W:=by
 have e:#[Operand.tmp s,.const (.I 40)].map b.eval=#[rv,.I 40]:=by simp[t,Act.eval]
 have f:=iS.pf (b:=base 3) (Q:=prog) (o:=o) (a:=b) c func4 Ao U e;refine AZ (oL U (w1:=W) (es:=#[]) (λk'=>(stepG_enter g (vB hg _) IC (f _).1).trans (vbx (λes=>GStep.go _ _ es) (f _).2)) Ab Jb (.stop λj=>azK (x.at j) v λu M' w' r q p m y w=>?_));have l:Frame.finish ((base 3).at b (.R (ay Tryz.f3 id) (i::rest)::k)) u=(base 3).at (b.put (some d) u) (.R (ay Tryz.f3 id) rest::k):=by grind[Frame.finish_at]
 rw[l];exact h u M' w' r q p ((show mw W (W.at j)from⟨vac _,.refl _,U,U⟩).trans m) y w
def aCc(c:(ay Tryz.f3 id)[i]?=some o)(a:o.op=.alloc 27)(hg:o.guard=none)(hd:o.dst=some d)(h:∀j,bU prog Post n Shun 0 (aY ((base 3).at (b.put (some d) (.P W.heap.size 0)) (.R (ay Tryz.f3 id) rest::k)) cs) ((W.alloc (.cells #[.N] 27)).at j)):bU prog Post n Shun 0 (aY ((base 3).at b (.R (ay Tryz.f3 id) (i::rest)::k)) cs) W:=by
 refine P9 c hg hd (v:=.P W.heap.size 0) (w1:=W.alloc (.cells #[.N] 27)) (λj=>?_) (λj=>?_) Ab h
 .generalize b.eval=ev;cases o;simp only at a;subst a;go_simp;exact⟨U,U⟩
 .generalize b.eval=ev;cases o;simp only at a;subst a;simp[go_sem]
def aCd{w:aL}{bM:uan}{cl cc:Nat}(g:(ay Tryz.f3 id)[i]?=some o)(c:o.op=.store 27 (.tmp d) (.tmp s))(hg:o.guard=none)(hd:o.dst=none)(q:b.tmps[d]?=some (.P w.heap.size 0))(p:b.tmps[s]?=some (.agg #[.slice bM cl cc]))(hs:¬Shun (.cell ⟨w.heap.size,0,none⟩))(f:Nat)(h:∀j,bU prog Post n Shun 0 (aY ((base 3).at b (.R (ay Tryz.f3 id) rest::k)) cs) ((w.alloc (.cells #[.slice bM cl cc] 27)).at j)):bU prog Post n Shun 0 (aY ((base 3).at b (.R (ay Tryz.f3 id) (i::rest)::k)) cs) ((w.alloc (.cells #[.N] 27)).at f):=by
 have g1:=cB q;have e:=cB p;have key:∀v:aL,v.heap.size=w.heap.size->(execOp b.eval o).run prog (v.alloc (.cells #[.N] 27))=.ok .skip (v.alloc (.cells #[.slice bM cl cc] 27))/\(execOp b.eval o).events prog (v.alloc (.cells #[.N] 27)) #[]=#[⟨.cell ⟨w.heap.size,0,none⟩,true,false⟩]:=λv hv=>by rw[<-hv]at g1⊢;obtain⟨m,l,r⟩:=(ah.new v #[.N] 27).all;generalize b.eval=ev at g1 e⊢;cases o;simp only at c;subst c;exact⟨Ar,by simp[go_sem,g1,e];rw[events_store _ _ _ _ _ _ U];simp[m,l]⟩
 exact aB6 (a:=⟨w.heap.size,0,none⟩) (w1:=w.alloc (.cells #[.slice bM cl cc] 27)) g hg hd (λj=>(key (w.at j) U).1) (λj=>(key (w.at j) U).2) (seen_eq (by rw[func3];rfl) AF) hs Ab (by show(w.alloc _).heap.size<=_;simp) h
end
def aCe{Post:uab}{W:aL}{rv sv:Value}{rs os:List fJ}{c x y:Int}(hc:eC c)(hx:eC x)(hy:eC y)(h0:∃c e,W.heap[0]?=some (.cells c e)/\∀v∈c,K2 v)(bL:E0 ⟨W.heap.size,W.heap⟩ rv rs)(hS:E0 ⟨W.heap.size,W.heap⟩ sv os)(fH:∀w',iF W w'->Post (.T) w'):
 bU prog Post 1 (λ_=>False) 0 (aY (Frame.enter prog 3 #[rv,sv,.I c,hv x y] .normal) []) W:=by
 obtain⟨c_,aIo,AW,s3⟩:=h0;have N:0<W.heap.size:=jS AW;rw[bc.vdv func3 nj];have hg:=WN rv sv (.I c) (hv x y);have hsz:(⟨#[rv,sv,.I c,hv x y]++Array.replicate 179 undef,[]⟩:Act).tmps.size=183:=Ab;have YH:Tryz.f3.ntmps-(#[rv,sv,.I c,hv x y]:df).size=179:=Ab;rw[YH];have k8:=aB7 rv sv (.I c) (hv x y);unfold HZ at k8;have e0:(⟨#[rv,sv,.I c,hv x y]++Array.replicate 179 undef,[]⟩:Act).tmps[0]?=some rv:=hg 0;have e1:(⟨#[rv,sv,.I c,hv x y]++Array.replicate 179 undef,[]⟩:Act).tmps[1]?=some sv:=hg 1;have e3:(⟨#[rv,sv,.I c,hv x y]++Array.replicate 179 undef,[]⟩:Act).tmps[3]?=some (hv x y):=hg 3;clear hg;generalize(⟨#[rv,sv,.I c,hv x y]++Array.replicate 179 undef,[]⟩:Act)=b at *;obtain⟨fL,I⟩:∃o,(ay Tryz.f3 0)[0]?=some o/\o.op=.box 24 (.tmp 3)/\o.guard=none/\o.dst=some 7:=Il;obtain⟨o1,F⟩:∃o,(ay Tryz.f3 0)[1]?=some o/\o.op=.assign (.const (.F))/\o.guard=none/\o.dst=some 8:=Il;obtain⟨o2,K⟩:∃o,(ay Tryz.f3 1)[0]?=some o/\o.op=.move (.tmp 0)/\o.guard=none/\o.dst=some 24:=Ct;obtain⟨o3,J⟩:∃o,(ay Tryz.f3 1)[1]?=some o/\o.op=.call {callee:=.value (.func 4),args:=#[.tmp 24,.const (.I 40)],argTypes:=#[22,3]}/\o.guard=none/\o.dst=some 25:=Ct;obtain⟨o4,C⟩:∃o,(ay Tryz.f3 1)[2]?=some o/\o.op=.alloc 27/\o.guard=none/\o.dst=some 9:=Ct;obtain⟨ael,z⟩:∃o,(ay Tryz.f3 1)[3]?=some o/\o.op=.store 27 (.tmp 9) (.tmp 25)/\o.guard=none/\o.dst=none:=Ct;obtain⟨aIp,A⟩:∃o,(ay Tryz.f3 2)[0]?=some o/\o.op=.move (.tmp 1)/\o.guard=none/\o.dst=some 26:=Ie;obtain⟨aIq,E⟩:∃o,(ay Tryz.f3 2)[1]?=some o/\o.op=.call {callee:=.value (.func 4),args:=#[.tmp 26,.const (.I 40)],argTypes:=#[22,3]}/\o.guard=none/\o.dst=some 27:=Ie;have ME:Home ⟨W.heap.size,W.heap⟩ prog (λb=>b=0) (λ_=>False) W:=by refine⟨λb f=>?_,λg hg=>Bc,AF,λb f h=>absurd f h,vac _,λb _ f=>rfl,AF⟩;cases f;refine⟨_,AW,.inl (.cells _ ?_ AF)⟩;obtain⟨l⟩:=c_;refine oK λv hv=>?_;have hv:=s3 v AF;cases v<;>first|exact hv.elim|exact .int _ _ |exact .bool _ |exact .string _
 have w:=ME.lay (c:=#[.I x,.I y]) 24 (oK (l:=[.I x,.I y]) λv hv=>by
  simp at hv;rcases hv with rfl|rfl<;>exact .int _ _)
 have f7:(sA x y).R (W.alloc (.cells #[.I x,.I y] 24)) (.P W.heap.size 0):=⟨W.heap.size,0,rfl,oq (vbg W _) rfl rfl,oq (vbg W _) rfl rfl⟩;have t:∀j,mw W ((W.alloc (.cells #[.I x,.I y] 24)).at j):=iL;have U:cS (λb=>b=0) W (W.alloc (.cells #[.I x,.I y] 24)):=cS.F1 λb f=>vcj _ _ _ (ME.lt f);refine jj λ_=>jC (l:=[0,1]) AQ λ_=>aB_ I.1 I.2.1 I.2.2.1 I.2.2.2 e3 λ_=>aCa F.1 F.2.1 F.2.2.1 F.2.2.2 λ_=>iN (l:=[0,1,2,3]) AQ λ_=>ia (v:=rv) K.1 K.2.1 K.2.2.1 K.2.2.2 ((dF AU).trans ((dF AU).trans e0)) λn=>?_;show bU _ _ _ _ _ (aY ((base 3).at (((b.put (some 7) (.P W.heap.size 0)).put (some 8) (.F)).put (some 24) rv) _) []) ((W.alloc (.cells #[.I x,.I y] 24)).at n);have k:ar (b9 λb=>b=0\/b=W.heap.size) (.P W.heap.size 0) (.P W.heap.size 0):=.ptr ⟨⟨rfl,.inr rfl⟩,rfl,rfl⟩;generalize(W.alloc (.cells #[.I x,.I y] 24))=W1 at *;refine hQ J.1 J.2.1 J.2.2.1 J.2.2.2 (jz (by grind[fo])) (w.at n) bL λu M' w' yw L hu AG jU OX=>?_;have T:=(sA x y).io 0 trivial _ _ _ _ _ (jU.kX (n0:=0) (w.at n)) k f7;have qQ:=k.mono (qd L);obtain⟨bE,rfl,m⟩:=OX;obtain⟨⟨a,d,rfl,-,-⟩,-⟩:=id m;have S:ar (b9 M') (.slice a (dp (rs.take 40)).length d) (.slice a (dp (rs.take 40)).length d):=by cases hu with|agg _ h=>exact h 0 _ _ rfl rfl
 have D:=yw.lay (c:=#[.slice a (dp (rs.take 40)).length d]) 27 (.one S);have cG:Below w'.heap.size w' (w'.alloc (.cells #[.slice a (dp (rs.take 40)).length d] 27)):=(vaa _ w').alloc Jb _;have f9:(cY (dp (rs.take 40))).R (w'.alloc (.cells #[.slice a (dp (rs.take 40)).length d] 27)) (.P w'.heap.size 0):=⟨w'.heap.size,_,rfl,vav _,ah.new _ _ _,lJ.kept (zX cG) m⟩;have R:=(sA x y).h8 _ _ _ cG T;have s:∀j,mw w' ((w'.alloc (.cells #[.slice a (dp (rs.take 40)).length d] 27)).at j):=iL;have Q:cS M' w' (w'.alloc (.cells #[.slice a (dp (rs.take 40)).length d] 27)):=cS.F1 λb f=>vcj _ _ _ (yw.lt f);have hq:ar (b9 λb=>M' b\/b=w'.heap.size) (.P w'.heap.size 0) (.P w'.heap.size 0):=.ptr ⟨⟨rfl,.inr rfl⟩,rfl,rfl⟩;have Y:=qd (M':=λb=>M' b\/b=w'.heap.size) λb(h:M' b)=>.inl h;refine aCc C.1 C.2.1 C.2.2.1 C.2.2.2 λeX=>aCd z.1 z.2.1 z.2.2.1 z.2.2.2 (jz (by grind[fo])) ((dF AU).trans (jz (by grind[fo]))) K8 eX λ_=>iN (l:=[0,1,2,3]) AQ λ_=>ia (v:=sv) A.1 A.2.1 A.2.2.1 A.2.2.2 ((dF AU).trans ((dF AU).trans ((dF AU).trans ((dF AU).trans ((dF AU).trans e1))))) λi=>?_;show bU _ _ _ _ _ _ ((w'.alloc (.cells #[.slice a (dp (rs.take 40)).length d] 27)).at i);generalize(w'.alloc (.cells #[.slice a (dp (rs.take 40)).length d] 27))=W2 at *;refine hQ E.1 E.2.1 E.2.2.1 E.2.2.2 (jz (by grind[fo])) (D.at i) hS λv Z B P r yW q X O=>?_;have V:=qd r;have oe:=(sA x y).io 0 trivial _ _ _ _ _ (X.kX (n0:=0) (D.at i)) (qQ.mono Y) R;have uK:=(cY (dp (rs.take 40))).io 0 trivial _ _ _ _ _ (X.kX (n0:=0) (D.at i)) hq ((cY (dp (rs.take 40))).io 0 trivial _ _ _ _ _ ((cS.Gx _ W2 i).kX (n0:=0) D) hq f9);have eB:aM (b9 Z) (wt (.I c) (hv x y) (.P W.heap.size 0) (.agg #[.slice a (dp (rs.take 40)).length d]) (.P w'.heap.size 0) v).tmps (wt (.I c) (hv x y) (.P W.heap.size 0) (.agg #[.slice a (dp (rs.take 40)).length d]) (.P w'.heap.size 0) v).tmps:=by
  unfold wt;simp only[Act.put];refine aM.set (aM.set (aM.set (aM.set (aM.set (aM.append (oK (l:=[.U,.U,.I c,hv x y]) λv hv=>?_) (KI _ _)) ((qQ.mono Y).mono V) _) (.bool _) _) ((hu.mono Y).mono V) _) (hq.mono V) _) yW _;simp at hv;rcases hv with rfl|rfl|rfl
  .exact .undef _
  .exact .int _ _
  .exact .rF (oK (l:=[.I x,.I y]) λv hv=>by
    simp at hv;rcases hv with rfl|rfl<;>exact .int _ _)
 have sG:1<=B.heap.size:=vad (vad (vad N (t n).size) AG.size) (vad (s i).size q.size);have H:Held ⟨W.heap.size,W.heap⟩ prog Z B 1 (wt (.I c) (hv x y) (.P W.heap.size 0) (.agg #[.slice a (dp (rs.take 40)).length d]) (.P w'.heap.size 0) v) Z B (λ_=>False):=.start P sG eB rfl;have dJ:af 183 (a3 [(2,bd c),(7,sA x y),(9,cY (dp (rs.take 40))),(27,mD (dp (os.take 40)))]) (wt (.I c) (hv x y) (.P W.heap.size 0) (.agg #[.slice a (dp (rs.take 40)).length d]) (.P w'.heap.size 0) v) B:=by
  refine af.of (by simp[wt,Act.put]) λp k=>?_;simp at k;rcases k with rfl|rfl|rfl|rfl
  .exact⟨_,LC _ _ _ _ _ _ 2,rfl⟩
  .exact⟨_,LC _ _ _ _ _ _ 7,oe⟩
  .exact⟨_,LC _ _ _ _ _ _ 9,uK⟩
  .exact⟨_,LC _ _ _ _ _ _ 27,O⟩
 refine aB5 (n0:=1) (k8 _ _ _ v) H (rs.take 40) (os.take 40) AF AF hc hx hy dJ AU λbI mV w3 xB M=>fH w3 ⟨λb h0 f=>M.gn.old b h0 f,λc e fr hw=>?_,?_⟩
 .exact M.keep.cells 0 c e fr ⟨r 0 (.inl (L 0 KB)),AX⟩ (X.cells 0 c e fr (.inl (L 0 KB)) (Q.cells 0 c e fr (L 0 KB) (jU.cells 0 c e fr KB (U.cells 0 c e fr rfl hw))))
 .exact(t n).trans (AG.trans ((s i).trans (q.trans M.since)))
end
section
open ChangeShapes WideShapes ChangeAt Deep
section
variable{H:Type}{enc:TypeId×Value->H}{spare:ube}{held:Bool}{fuel:Nat}{cs:uad}{x:DataW H×List MemPlace}{w:aL}
theorem wf_i64{n:Int}(h:(Lit.int .i64 n).wf=true):eC n:=by simp[Lit.wf,IntKind.min,IntKind.max,IntKind.signed,IntKind.bits]at h;exact h
def kB{t:uaa}{fs:Array Field}(ht:prog.underlying t=some (.struct fs))(a:oneCellFields prog fs=true)(hn:prog.cellsOf t=fs.size)(h:DataW.trod enc prog w 0 spare held fuel t cs=some x):
 cs.length=fs.size/\∀(i:Nat)(f:Field),fs[i]?=some f->∃u y n,cs[i]?=some u/\DataW.trod enc prog w 0 spare held n f.type [u]=some y:=by
 obtain⟨xs,n,-,rfl,e,k,j⟩:=DataW.trod_struct ht h;refine⟨e.trans hn,λi f hi=>?_⟩;obtain⟨c,b⟩:=hone_of a i f hi;have d:i<fs.size:=(vam.1 hi).1;have g:=j i f hi;rw[c,b,take1_drop cs i undef AX,vag AX]at g;grind
def E7{e:uaa}(a:prog.underlying e=some (.int .i64)){u:Value}(h:DataW.trod enc prog w 0 spare held fuel e [u]=some x):∃n,u=.I n/\eC n:=by grind[DataW.trod_int,wf_i64]
def aCm(h:DataW.trod enc prog w 0 spare held fuel 54 cs=some x):∃r:fJ,cs=[.I r.1,.I r.2.1,.I r.2.2.1,.I r.2.2.2]/\eC r.1/\eC r.2.1/\eC r.2.2.1/\eC r.2.2.2:=by obtain⟨a,hs⟩:=kB underlying54 Ao Ao h;obtain⟨u0,y,n0,c_,t0⟩:=hs 0 _ U;obtain⟨u1,q,n1,c1,e⟩:=hs 1 _ U;obtain⟨u2,o,eJ,bG,gv⟩:=hs 2 _ U;obtain⟨u3,n,m,dH,d⟩:=hs 3 _ U;obtain⟨l,rfl,w0⟩:=E7 underlying52 t0;obtain⟨k,rfl,w1⟩:=E7 underlying52 e;obtain⟨j,rfl,c⟩:=E7 underlying52 gv;obtain⟨f,rfl,b⟩:=E7 underlying52 d;refine⟨(l,k,j,f),?_,w0,w1,c,b⟩;have a:cs.length=4:=a;obtain⟨t,l0,rfl,h0⟩:=Ph a;obtain⟨a1,l1,rfl,i⟩:=Ph h0;obtain⟨u,l2,rfl,g⟩:=Ph i;obtain⟨v,s,rfl,p⟩:=Ph g;grind
def kr{v:Value}(K:∀(c:df) e z,w.heap[0]?=some (.cells c e z)->∀(i:Nat)(n:Int),c[i]?≠some (Value.int .i64 n))(h:DataW.trod enc prog w 0 spare held fuel 22 [v]=some x):∃rs,E0 ⟨w.heap.size,w.heap⟩ v rs:=by
 rcases open_slice underlying22 h with⟨l,rfl⟩|⟨a,len,cap,m,n,D,H,l,-,P,-,N,rfl,E⟩
 .obtain rfl:v=_:=by simpa using l
  exact⟨[],none,0,U,AF⟩
 obtain rfl:v=_:=by simpa using l
 have F:len<=m:=AF;have I:prog.cellsOf 54=4:=Ao;have k:∀i,∃r:fJ,i<len->(∀j u,[Value.int .i64 r.1,.I r.2.1,.I r.2.2.1,.I r.2.2.2][j]?=some u->w.cell? ((a.add (i*4)).add j)=some u)/\eC r.1/\eC r.2.1/\eC r.2.2.1/\eC r.2.2.2:=λi=>by
  by_cases hi:i<len
  .obtain⟨O,f,o⟩:=E i AX;obtain⟨r,rfl,M⟩:=aCm o;rw[I]at f;obtain⟨-,J,hcell⟩:=World.cells?_some f;grind
  .exact⟨(0,0,0,0),AF⟩
 obtain⟨R,q⟩:=vdq.1 k;refine⟨(List.range len).map R,some a,cap,Ab,λi hi=>?_⟩;have t:i<len:=AF;obtain⟨d,C,B,A,y⟩:=q i t;simp;obtain⟨b,off,spot⟩:=a;have s:spot=none:=by have:=(q 0 AX).1 0 _ U;simpa[Addr.add]using World.cell?_spot this
 subst s;have key:∀j,((⟨b,off,none⟩:Addr).add (i*4)).add j=⟨b,off+i*4+j,none⟩:=λj=>by unfold Addr.add;by_cases f:i*4=0<;>by_cases o:j=0<;>simp[f,o]
 have c_:=d 0 _ U;have c1:=d 1 _ U;have bG:=d 2 _ U;have dH:=d 3 _ U;rw[key]at c_ c1 bG dH;obtain⟨c,e,z,p,-,k3⟩:=xN c_;have g:∀j u,w.cell? (.a b j)=some u->c[j]?=some u:=λj u L=>by grind[World.cell?]
 have iH:0<b:=by grind
 exact⟨b,off,c,e,z,U,iH,jS p,p,AF,C,B,A,y⟩
end
def aCn(P:cf)(t:Nat->Question->Nat)(os:Os):(begin P t os).world.heap[P.globals.size]?=some (.cells ((Array.range P.types.size).map λt=>.int .u64 (Int.ofNat t)) 0):=by have key:∀(A:Array Obj)(n:Nat),n=A.size->∀a b c d e,(((((A.push a).push b).push c).push d).push e)[n]?=some a:=AF;exact key _ _ Ab _ _ _ _ _
def aCo{W:aL}(h:W.ShapedOpen prog):W.heap[0]?=some (.cells ((Array.range prog.types.size).map λt=>.int .u64 (Int.ofNat t)) 0):=by have h0:prog.globals.size=0:=Ab;have a:=aCn prog (λ_ _=>0) default;rw[h0]at a;obtain⟨o,e,d,c,b⟩:=h.2 0 AX (jS a);simp_all[World.looseAt]
def aCp{B:Nat}:nl (λ_=>False) B 0 1 #[]:=
 ⟨AF,AF,λi a h=>G7,λsaid=>by rintro⟨i,j,_,⟨a,b,c,_⟩,_⟩;simp[Trace.act?]at c,λi a h=>G7,λi g h=>by simp[Trace.g?]at h,U,λi a b h=>G7⟩
def aCq{P:cf}{Post:uab}{g:uai}{W:aL}(h:bU P Post 1 (λ_=>False) 0 g W):cF.mq P Post (solo g W) #[]:=by rw[solo_eq_crowd];refine h #[g] none (λ_=>0) #[] U U ⟨λi x hi a=>?_,λj b=>U⟩ aCp;grind
theorem aCr:ownKnob prog.godebug=none:=by kernel_rfl
theorem Qd:laidOutB prog=true:=by kernel_rfl
def aCs{H:Type}{enc:TypeId×Value->H}{spare:ube}{held:Bool}{fuel:Nat}{x:DataW H×List MemPlace}{w:aL}{cs:df}(g:DataW.trod enc prog w 0 spare held fuel 24 cs.toList=some x):∃a b:Int,cs=#[.I a,.I b]/\eC a/\eC b:=by obtain⟨f,hs⟩:=kB underlying24 Ao Ao g;obtain⟨u0,i,n0,c_,s0⟩:=hs 0 _ U;obtain⟨u1,h,n1,c1,c⟩:=hs 1 _ U;obtain⟨x,rfl,e⟩:=E7 underlying3 s0;obtain⟨y,rfl,d⟩:=E7 underlying3 c;refine⟨x,y,?_,e,d⟩;obtain⟨l⟩:=cs;simp only at c_ c1 f;grind
def aCt{H:Type}{enc:TypeId×Value->H}{P:cf}{w:aL}{base:Nat}{spare:ube}{held:Bool}{t0 k gv j:uaa}{args:df}{ds:List (DataW H)}{ps:List MemPlace}(h:DataW.TrodAll enc P w base spare held [t0,k,gv,j] args.toList ds ps):
 ∃v0 v1 v2 v3 i d1 g f e d c b,args=#[v0,v1,v2,v3]/\ds=[i,d1,g,f]/\ps=e++(d++(c++b))/\DataW.Trod enc P w base spare held t0 v0 i e/\DataW.Trod enc P w base spare held k v1 d1 d/\DataW.Trod enc P w base spare held gv v2 g c/\DataW.Trod enc P w base spare held j v3 f b:=by
 obtain⟨v0,vs,i,v,e,q,y,rfl,rfl,h0,a⟩:=trodAll_cons h;obtain⟨v1,s,d1,r,d,A,rfl,rfl,rfl,n,a⟩:=trodAll_cons a;obtain⟨v2,p,g,o,c,z,rfl,rfl,rfl,m,a⟩:=trodAll_cons a;obtain⟨v3,u,f,t,b,x,rfl,rfl,rfl,l,a⟩:=trodAll_cons a;obtain⟨rfl,rfl,rfl⟩:=trodAll_nil a;exact⟨v0,v1,v2,v3,i,d1,g,f,e,d,c,b,by cases args;simp_all,U,Ab,h0,n,m,l⟩
def aCu(os:Os)(started:os.Started)(H:Type)(enc:TypeId×Value->H)(F:Stop.Interp):
 ReturnsInLeavingWide Rows.joinedRow.assume checked os 3 .any (Rows.joinedSpec.pre6 enc prog Tryz.f3 Rows.joinedRow.domain false) ((OpenSpec.ofChange Rows.joinedSpec).postWith enc prog Tryz.f3 F (outsideKept [.timePasses]) false true false):=by
 refine returnsInLeavingWide_of_good (C:=checked) aCr started
  (ChangeSpec.witness6c (enc:=enc) (C:=checked) ⟨#[],#[.N,.N,.I 0,.agg #[.I 0,.I 0]],[]⟩ 8 Ao Ao Ao Ao) ?_
 intro w tape i _ g _ hok KJ _;obtain⟨_,_,_,O,F5,_,_,_,_,hval⟩:=hok;obtain rfl:O=Tryz.f3:=vaq (F5.symm.trans func3);obtain⟨⟨ds,gs,before,z,-⟩,-⟩:=KJ;have k:=DataW.Whole.of_heap (w':=w.forCall tape i) BK z;have g:(w.forCall tape i).ShapedOpen prog:=g;clear z;generalize aIC:w.forCall tape i=W at *;obtain⟨vars,args,more⟩:=i;simp only at hval k⊢;have hval:∀(j:Nat) t v,Tryz.f3.params[j]?=some t->args[j]?=some v->Value.okWide prog W .any w.heap.size t v:=hval;have r:=k;obtain⟨p,q,hA0,A,rfl,_,_⟩:=k;have l:DataW.TrodAll enc prog W 0 (λ_=>true) true Tryz.f3.params.toList args.toList ds p:=hA0;rw[params3]at l hval;obtain⟨v0,v1,v2,v3,d0,d1,d2,d3,M,L,K,J,rfl,rfl,rfl,t0,u,gv,s⟩:=aCt l;obtain⟨rfl,rfl⟩:=trodVars_none A;clear hA0 l;simp only[vce]at r;have R:∀x∈M++(L++(K++J)),x.block<W.heap.size:=λx f=>by simpa using r.lt x f
 have h0:=aCo g;obtain⟨Z,len,cap,rfl⟩:=okWide_slice underlying22 (hval 0 22 v0 rfl rfl);obtain⟨a1,n,m,rfl⟩:=okWide_slice underlying22 (hval 1 22 v1 rfl rfl);obtain⟨aID,rfl,aIE⟩:=okWide_struct underlying24 (hval 3 24 v3 rfl rfl);obtain⟨f0,V⟩:=id t0;obtain⟨f1,g1⟩:=id u;obtain⟨iu,U⟩:=id gv;obtain⟨f3,X⟩:=id s;obtain⟨rs,bL⟩:=kr (w:=W) AF (by simpa[Value.cells]using V);obtain⟨os,hS⟩:=kr (w:=W) AF (by simpa[Value.cells]using g1);obtain⟨c,rfl⟩:=okWide_int underlying3 (hval 2 3 v2 rfl rfl);obtain⟨c',Y,S⟩:=E7 underlying3 (by simpa[Value.cells]using U);cases Y;obtain⟨x,y,rfl,f,P⟩:=aCs X;obtain⟨N,last,o,w',cN,r1,D,B,v,e,Q,bj,bm,I,E⟩:=aCq (aCe (Post:=λv w'=>v=.T/\iF W w') S f P ⟨_,_,h0,λv hv=>by
  obtain⟨t,-,rfl⟩:=Array.mem_map.1 hv;trivial⟩ bL hS AF)
 refine⟨N,last,o,w',cN,r1,D,B,v,e,?_,bj,bm,I,E⟩;obtain⟨rfl,a⟩:=Q;have d:cC W {w' with os:=W.os}:=by
  refine⟨rfl,a.since.tape,a.since.output,a.since.size,λb T=>?_⟩;rcases vbn b with rfl|h
  .exact(a.first _ _ _ h0).trans h0.symm
  .exact a.old b h T
 have Ik:Rows.joinedSpec.post enc prog Tryz.f3 false true false false W #[.slice Z len cap,.slice a1 n m,.I c,.agg #[.I x,.I y]] (.T) {w' with os:=W.os}:=
  ⟨_,_,_,[],_,[],r,trodAll_mk1 (shut_bool underlying4 true),trodAll_mk4 (Below.trod Qd Ao (vdx Ab) t0 d AF) (Below.trod Qd Ao (vdx Ab) u d AF) (Below.trod Qd Ao (vdx Ab) gv d AF) (Below.trod Qd Ao (vdx Ab) s d AF),rfl,d.frame _,AF⟩
 exact postWith_blind (postWith_of_post Ik a.since.later)
end
end ol
theorem joined_holds:Rows.JoinedSaid:=
 OpenClaim.holds_of_wide_leaving_time 3 Tryz.f3 U U U U U U U ⟨U,U,U,U,U⟩ U U U U U Ao func3 Ao
  (vdx Ao) (by unfold Func.isWrapper;first|(rw[vbv AQ];kernel_rfl)|(rw[vbp AQ];exact⟨U,U⟩))
  (λos started H enc _ F=>ol.aCu os started H enc F)
