import Derived.Test.YtcjlmniddnnieaaGreatPAY
set_option linter.all false
set_option maxRecDepth 100000
set_option maxHeartbeats 16000000
namespace Go.Proofs.YtcjlmniddnnieaaGreat
open Tryz
namespace dI
open Conc ConcM RowKit au bn cC c5 bU bM eb aK
def Fu(F:Func):Code:=.seq (.region 23 (aI F 23) false) .ret
def Fv(F:Func):Code:=.seq (.region 21 (aI F 21) false) (.seq (.region 22 (aI F 22) true) (Fu F))
def QS(F:Func):Code:=.seq (.seq (.region 17 (aI F 17) false) (.cond (.tmp 182) (.seq (.region 18 (aI F 18) false) .ret) .skip)) (.seq (.region 19 (aI F 19) false) (.seq (.region 20 (aI F 20) true) (Fv F)))
def yd(F:Func):Code:=.seq (.seq (.region 15 (aI F 15) false) (.cond (.tmp 107) (.seq (.region 16 (aI F 16) true) .ret) .skip)) (QS F)
def Fw(F:Func):Code:=.seq (.region 14 (aI F 14) true) (yd F)
def qL(F:Func):Code:=.seq (.region 8 (aI F 8) false) (.seq (.region 9 (aI F 9) true) (.seq (.region 10 (aI F 10) false) (.seq (.region 11 (aI F 11) false) (.seq (.region 12 (aI F 12) true) (.seq (.region 13 (aI F 13) true) (Fw F))))))
def H_(F:Func):Code:=.seq (.seq (.region 4 (aI F 4) false) (.cond (.tmp 33) .skip (.exit 0))) (.seq (.block 1 (.seq (.region 6 (aI F 6) false) (.cond (.tmp 55) (.region 7 (aI F 7) false) .skip))) (.region 5 (aI F 5) false))
def uY(F:Func):Code:=.seq (.region 2 (aI F 2) false) (.seq (.seq (.region 3 (aI F 3) false) (.block 0 (.loop (H_ F)))) (qL F))
theorem aBR:Tryz.f3.body=some (.seq (.region 0 (aI Tryz.f3 0) false) (.seq (.region 1 (aI Tryz.f3 1) false) (uY Tryz.f3))):=by kernel_rfl
def sF(c:bo)(i:Nat):Bool:= !c.gZ.getD i false&&decide (0<c.ko.getD i 0)
def mP(e:uaz)(n k:Nat):Int:=((iu e k n).map λi:Nat=>(i:Int)).getD (-1)
def aBS(e:uaz)(n:Nat):mP e n n= -1:=by simp[mP,iu]
def aBT(e:uaz){n k:Nat}(h:k<n):mP e n k=if e k then(k:Int)else mP e n (k+1):=by unfold mP iu;rw[show n-k=(n-(k+1))+1 by omega,vdk,vdt];cases e k<;>rfl
def aBU{N:Nat}{K:bF}{o:Oper}{x y:uau}{m n:Int}{T T':uab}(c:o.op=.binOp .geq T x y T')(b:bg K x (a9 m))(a:bg K y (a9 n))(d:tB T)(h:n<=m):bD vee N K o (eB true):=by have:=oB (N:=N) c b a d;rwa[decide_eq_true h]at this
def aBV{N:Nat}{K:bF}{o:Oper}{x y:uau}{m n:Int}{T T':uab}(c:o.op=.binOp .geq T x y T')(b:bg K x (a9 m))(a:bg K y (a9 n))(d:tB T)(h:¬n<=m):bD vee N K o (eB false):=by have:=oB (N:=N) c b a d;rwa[decide_eq_false h]at this
def L3(bN:List bo)(Ia Ib:a4)(i j:Int):List (Nat×a4):=[(4,Ia),(5,Ib),(7,jv bN),(8,a9 i),(9,a9 j),(246,lL)]
def aBW{bN:List bo}{c:bo}{n B:Nat}{s r:a4}{QT:aH}(y:bN[1]?=some c)(l1:c.gZ.length=n/\c.ko.length=n)(le:n<=1000){ks ks':uaa}{Q:uag}(kk:∀a' b,Below B QT b->ah 247 (aW (L3 bN s r (mP (sF c) n 0) (-1))) a' b->a'.defers=[]->b8 vee ks ks' Q a' b):
 ∀m a W,m<=n->B<=W.heap.size->Below B QT W->ah 247 (aW (L3 bN s r (mP (sF c) n m) ((m:Int)-1))) a W->a.defers=[]->b8 vee (.code (H_ Tryz.f3):: .inLoop (H_ Tryz.f3):: .inBlock 0::ks) ks' Q a W:=by
 intro m;induction m with
 |zero=>intro a W _ l x j hd;unfold H_;refine cg (cg ?_);rw[jF (aI Tryz.f3 4)];refine gg j (aE Y Kl<|aE Y (aBV (n:=0) Y Y Kk AU AP)<|rfl) λa1 w1 d d1 b1=>?_;exact lv (t:=false) (Fs d Y) (VI (Hg:=ks) (by simp[exitTo]) (kk a1 w1 (x.trans (b1.mono l)) (d.a7 ⟨Y,Y,Y,Y,Y,Y,PA⟩) (d1.trans hd)))
 |succ m K=>
  intro a W v l x j hd;have L:(((m+1:Nat):Int)-1)=(m:Int):=AP;rw[L]at j;have q:=getD_some (show m<c.gZ.length by rw[l1.1];exact v) false;have A:=getD_some (show m<c.ko.length by rw[l1.2];exact v) 0;have hst:=aBT (sF c) (n:=n) (k:=m) v;unfold H_;refine cg (cg ?_);rw[jF (aI Tryz.f3 4)];refine gg j (aE Y Kl<|aE Y (aBU (n:=0) Y Y Kk AU AP)<|rfl) λa1 w1 d d1 b1=>?_;refine lv (t:=true) (Fs d Y) (uL (cg (wG (cg ?_))));have d:ah 247 (aW (L3 bN s r (mP (sF c) n (m+1)) m)) a1 w1:=d.a7 ⟨Y,Y,Y,Y,Y,Y,PA⟩;have g:=x.trans (b1.mono l);have h:=vac l b1.size;have d1:=d1.trans hd;have e6:∀a' b,B<=b.heap.size->Below B QT b->ah 247 (aW (L3 bN s r (mP (sF c) n m) m)) a' b->a'.defers=[]->b8 vee (.inBlock 1:: .code (.region 5 (aI Tryz.f3 5) false):: .inLoop (H_ Tryz.f3):: .inBlock 0::ks) ks' Q a' b:=by intro a' b H C k' P;refine KV ?_;rw[jF (aI Tryz.f3 5)];refine gg k' (aE Y Kl<|aE Y (Pa Y Y Kk CG AU)<|aE Y K6<|rfl) λfO io M N cK=>VH ?_;exact K fO io AP (vac H cK.size) (C.trans (cK.mono H)) (M.a7 ⟨Y,Y,Y,Y,Y,Y,PA⟩) (N.trans P)
  rw[jF (aI Tryz.f3 6)];cases p:c.gZ.getD m false with
  |true=>
   rw[p]at q;have w:sF c m=false:=by simp only[sF,p];rfl
   rw[w]at hst;refine gg d (aE Y (QG Y Y)<|aE Y LU<|aE Y (iF (i:=1) Y Y Kk y AU)<|aE Y (VZ Y Y AU NB)<|aE Y LU<|aE Y Kl<|aE Y (iF Y Y Y q AU)<|aE Y (h6 Y Y (NA _) AU)<|aE Y (VY Y Y)<|aE Y Kl<|Ac Y<|Ac Y<|Ac Y<|Ac Y<|Ac Y<|Ac Y<|Ac Y<|Ac Y<|Ac Y<|aE Y (ey (F:=eB false) Y Y Kk)<|rfl) λz w2 e o b2=>?_;refine lv (t:=false) (Fs e Y) (uL (e6 z w2 (vac h b2.size) (g.trans (b2.mono h)) ?_ (o.trans d1)));rw[hst];exact e.a7 ⟨Y,Y,Y,Y,Y,Y,PA⟩
  |false=>
   rw[p]at q;refine gg d (aE Y (QG Y Y)<|aE Y LU<|aE Y (iF (i:=1) Y Y Kk y AU)<|aE Y (VZ Y Y AU NB)<|aE Y LU<|aE Y Kl<|aE Y (iF Y Y Y q AU)<|aE Y (h6 Y Y (NA _) AU)<|aE Y (VY Y Y)<|aE Y Kl<|dD Y (QG Y Y)<|dD Y LU<|dD Y (iF (i:=1) Y Y Kk y AU)<|dD Y (VZ Y Y AU avh)<|dD Y LU<|dD Y Kl<|dD Y (iF Y Y Y A AU)<|dD Y Kp<|dD Y (NM (n:=0) Y Y Kk AU)<|aE Y LP<|rfl) λz w2 e o b2=>?_;have f:=g.trans (b2.mono h);have u:=vac h b2.size;have w:sF c m=decide (0<c.ko.getD m 0):=by simp only[sF,p];simp
   rw[w]at hst;refine lv (Fs e Y) ?_;cases D:decide (0<c.ko.getD m 0)with|true=>rw[D,vbz Y]at hst;rw[vbz Y,jF (aI Tryz.f3 7)];refine gg e (aE Y Kl<|aE Y K6<|rfl) λR I J O E=>e6 R I (vac u E.size) (f.trans (E.mono u)) ?_ (O.trans (o.trans d1));rw[hst];exact J.a7 ⟨Y,Y,Y,Y,Y,Y,PA⟩|false=>rw[D,vbt AU]at hst;rw[vbt AU];refine uL (e6 z w2 u f ?_ (o.trans d1));rw[hst];exact e.a7 ⟨Y,Y,Y,Y,Y,Y,PA⟩
def sG(aBY:a4)(bN:List bo)(i x y x' y':Int):List (Nat×a4):=[(4,kW x y),(5,kW x' y'),(7,jv bN),(8,a9 i),(11,aBY),(12,uX rJ),(13,Ft bN),(14,x8 tI)]
def aBZ{bN:List bo}{i x y x' y':Int}{n0:Nat}{ks ks':uaa}{Q:uag}{a:Act}{w:aH}(hn:n0<=w.heap.size)(hk:ah 247 (aW [(4,kW x y),(5,kW x' y'),(7,jv bN),(8,a9 i),(10,er qC (nm 9223372036854775807)),(246,lL)]) a w)(kk:∀a' w',cy w w'->ah 247 (aW [(4,kW x y),(5,kW x' y'),(7,jv bN),(8,a9 i),(11,sD n0 0),(246,lL)]) a' w'->a'.defers=a.defers->b8 vee ks ks' Q a' w'):b8 vee (.code (.region 9 (aI Tryz.f3 9) true)::ks) ks' Q a w:=by
 obtain⟨v,K,D⟩:=hk.has 4 _ rfl;obtain⟨u,J,E⟩:=hk.has 5 _ rfl;obtain⟨t,W,q⟩:=hk.has 7 _ rfl;obtain⟨r,T,C⟩:=hk.has 8 _ rfl;obtain⟨v10,p,n⟩:=hk.has 10 _ rfl;obtain⟨S,l,k⟩:=hk.has 246 _ rfl;have N:ah 247 (aW [(4,qz v),(5,qz u),(7,qz t),(8,qz r),(10,er qC (nm 9223372036854775807)),(246,x0 w.heap.size lL)]) a w:=dQ K rfl<|dQ J rfl<|dQ W rfl<|dQ T rfl<|dQ p n<|dQ l ⟨vad _,k⟩<|x3 hk.size;rw[jF (aI Tryz.f3 9)];refine VT (m:=9) N (dq rfl (QN rfl Kk)<|dq rfl (aBF rfl rfl)<|dq rfl (QN rfl Kk)<|dq rfl (aA0 rfl rfl)<|dq rfl (XC rfl Kk)<|dq rfl (XJ rfl rfl rfl rfl)<|dq rfl (aBG rfl rfl rfl)<|dq rfl (aBH rfl Kk Kk rfl)<|dq rfl (aBx (s:=246) rfl rfl)<|rfl) rfl XF AM λa1 w1 c d1 b1=>?_;obtain⟨u4,L,rfl⟩:=c.has 4 (qz v) rfl;obtain⟨u5,c3,rfl⟩:=c.has 5 (qz u) rfl;obtain⟨u7,U,rfl⟩:=c.has 7 (qz t) rfl;obtain⟨u8,j,rfl⟩:=c.has 8 (qz r) rfl;obtain⟨u246,h,-,O⟩:=c.has 246 _ rfl;obtain⟨u65,f,eu,rfl,B⟩:=c.has 65 (nN [tm 1 0] [tm 1 1,nm 9223372036854775807,tm 5 0]) rfl;obtain⟨u11,e,b,rfl,z,P⟩:=c.has 11 (oR w.heap.size) rfl;have hsz:=c.size;clear c;obtain⟨g,g1,Z,rfl,-⟩:=id B;obtain⟨o,A,M,X,V⟩:∃o,(aI Tryz.f3 9)[9]?=some o/\o.op=.store 43 (.tmp 11) (.tmp 65)/\o.guard=none/\o.dst=none:=⟨_,rfl,rfl,rfl,rfl⟩;rw[jF (aI Tryz.f3 9)]at A;obtain⟨w2,I,d_,H,F⟩:=aBI (ev:=a1.eval) M P (c2 e) (c2 f);have d:cy w w2:=b1.trans (F _ z);refine i_ (R:=λa' w'=>a1=a'/\w2=w') (tx A X V I ⟨rfl,rfl⟩) ?_;rintro _ _ ⟨rfl,rfl⟩;refine⟨rfl,kk a1 w2 d ?_ d1⟩;refine dQ L ((kW x y).iI _ _ _ d D)<|dQ c3 ((kW x' y').iI _ _ _ d E)<|dQ U ((jv bN).iI _ _ _ d q)<|dQ j ((a9 i).iI _ _ _ d C)<|dQ e ?_<|dQ h O<|x3 hsz;exact⟨⟨b,_,rfl,d_,B.only H⟩,b,0,rfl,vac hn z⟩
def aB8{bN:List bo}{c:bo}{n n0:Nat}(h0:0<bN.length)(hn:bN[0].gZ.length=n)(S:bN[1]?=some c)(l1:c.gZ.length=n/\c.ko.length=n)(le:n<=1000)(x y x' y':Int)(a:Act)(w:aH)(hd:a.defers=[])(b:n0<=w.heap.size)(hk:ah 247 (aW [(4,kW x y),(5,kW x' y'),(28,qF bN),(246,lL)]) a w):
 b8 vee [.R (aI Tryz.f3 1) [2,3],.code (uY Tryz.f3)] [.code (.region 13 (aI Tryz.f3 13) true),.code (Fw Tryz.f3)] (λa1 w1=>a1.defers=[]/\ah 247 (aW (sG (sD n0 0) bN (mP (sF c) n 0) x y x' y')) a1 w1/\Below n0 w w1) a w:=by
 rw[jF (aI Tryz.f3 1)];refine xX (aA8 (i:=2) rfl rfl rfl rfl rfl hk rfl rfl rfl rfl AU AU λa1 w1 R d1 b1=>qy ?_);unfold uY;refine cg ?_;rw[jF (aI Tryz.f3 2)];refine gg R (aE rfl (eC (F:=a9 (-1)) rfl Kk)<|rfl) λbV w2 Q d2 b2=>cg (cg ?_);rw[jF (aI Tryz.f3 3)];refine gg Q (aE rfl (QH rfl rfl)<|aE rfl (XE rfl rfl h0 hn)<|aE rfl (Pa rfl rfl Kk CG AU)<|aE rfl K6<|rfl) λo h j k cd=>wG (VG ?_);have v:Below n0 w h:=((b1.mono b).trans (b2.mono (vac b b1.size))).trans (cd.mono (vac b (vac b1.size b2.size)));have K:=vac b v.size;have k:o.defers=[]:=k.trans (d2.trans (d1.trans hd));have j:ah 247 (aW (L3 bN (kW x y) (kW x' y') (mP (sF c) n n) ((n:Int)-1))) o h:=by rw[aBS];exact j.a7 ⟨rfl,rfl,rfl,rfl,rfl,rfl,PA⟩
 refine aBW S l1 le (B:=n0) (QT:=w) (λcN w4 u P d4=>?_) n o h Kj K v j k;have M:=vac b u.size;unfold qL;refine cg ?_;rw[jF (aI Tryz.f3 8)];refine Pg (m:=1) P (aE rfl (aBv rfl Kk Kk)<|rfl) AU λfO io T d5 cK=>aBz (t:=nm 9223372036854775807) rfl rfl rfl rfl rfl AU T rfl rfl rfl rfl AU AU λlG lY O Z V=>qy (cg ?_);have D:=u.trans (cK.mono M);have U:=vac b D.size;have C:=D.trans (V.mono U);have z:=vac b C.size;refine aBZ z (O.a7 ⟨rfl,rfl,rfl,rfl,rfl,rfl,PA⟩) λn6 xm I J c3=>cg ?_;have A:=C.trans (I.mono z);have L:=vac b A.size;rw[jF (aI Tryz.f3 10)];refine Pg (m:=5) J (aE rfl (QN rfl Kk)<|aE rfl (oQ rfl Kk)<|aE rfl (XC rfl Kk)<|aE rfl (XJ rfl rfl rfl rfl)<|aE rfl (qP rfl Kk rfl)<|rfl) AU λs2 AT L4 X N=>qN (e:=rJ) rfl rfl rfl rfl rfl L4 rfl rfl rfl rfl AU AU λXM XN s W E=>qy (cg ?_);have g:=A.trans (N.mono L);have Xb:=vac b g.size;have f:=g.trans (E.mono Xb);have r:=vac b f.size;have s:ah 247 (aW [(4,kW x y),(5,kW x' y'),(7,jv bN),(8,a9 (mP (sF c) n 0)),(11,sD n0 0),(12,uX rJ)]) XM XN:=s.a7 ⟨rfl,rfl,rfl,rfl,rfl,rfl,PA⟩;rw[jF (aI Tryz.f3 11)];refine gg s (aE rfl (QH rfl rfl)<|aE rfl (aBP rfl rfl)<|aE rfl K6<|rfl) λaa yh ka q ba=>cg ?_;have d:=f.trans (ba.mono r);have WI:=vac b d.size;rw[jF (aI Tryz.f3 12)];refine VT (m:=4) (ka.a7 (l:=[(4,kW x y),(5,kW x' y'),(7,jv bN),(8,a9 (mP (sF c) n 0)),(11,sD n0 0),(12,uX rJ),(13,Ft bN)]) ⟨rfl,rfl,rfl,rfl,rfl,rfl,rfl,PA⟩) (dq rfl (XD rfl Kk)<|dq rfl (aBQ rfl rfl)<|dq rfl (aBy rfl rfl rfl)<|dq rfl K6<|rfl) rfl XF AM λab B6 kb p H=>⟨rfl,?_⟩;refine cg (jS ⟨p.trans (q.trans (W.trans (X.trans (c3.trans (Z.trans (d5.trans d4)))))),kb.a7 ⟨rfl,rfl,rfl,rfl,rfl,rfl,rfl,rfl,PA⟩,d.trans (H.mono WI)⟩)
variable{F:a4}
section
open kO
variable{O:fk}
def Kf:gz prog true Tryz.f3=true:=by decide+kernel
def L5:ln prog 3:=EP func3 Kf Y
def jG(v0 v27:ubf)(n:Nat):fH:=⟨λi=>i==0||i==27,λi=>i==0||i==27,λi=>if i=0 then v0 else v27,λ_=>false,n⟩
def j2(v0 v27:ubf)(n:Nat){l:uaa}(h:l.all (hZ (jG none none 0))=true):l.all (hZ (jG v0 v27 n))=true:=(tX (D:=jG v0 v27 n) (D':=jG none none 0) Y Y Y l).trans h
def jW(v0 v27:ubf)(n:Nat):Bn prog (jG v0 v27 n) 3:=by
 refine⟨⟨_,func3,?_⟩,λt h=>?_,BR⟩
 .rw[results3];simp[Do,jG]
 .cases h
def QW(v0 v27:ubf){ops:fC}{k:uaa}(b:ops.all (tl (jG none none 0) ops)=true)(a:k.all (hZ (jG none none 0))=true):LH prog 3 ops k (jG v0 v27):=
 ⟨λ_=>Y,jW v0 v27,λn=>by rw[Xe (D:=jG v0 v27 n) (D':=jG none none 0) Y Y Y];exact b,λn=>j2 v0 v27 n a,λn i h=>h,follows,λ_ _ _=>⟨Y,Y,Y⟩⟩
def QX(v0 v27:ubf)(n:Nat){o:Oper}(h:kO.iz (jG none none 0) o=true):kO.iz (jG v0 v27 n) o=true:=h
def kj{N:Nat}{l:List (Nat×a4)}{a:Act}{w:aH}(h:ah N (aW l) a w){s:Nat}(hs:∃v,a.tmps[s]?=some v/\F.R w v):ah N (aW ((s,F)::l)) a w:=dQ hs.choose_spec.1 hs.choose_spec.2 h
def QY(K:bF)(a:Act):pK K a a:=λ_ _ _=>Y
def XO{S:na}{j c x x':Nat}{T T':uab}(h:S.ja=[(j,T,x),(c,T',x')])(hF:kg T' F):∀p∈S.ja,p.1≠j->kg p.2.1 F:=by
 rw[h];intro p b a;simp at b;rcases b with rfl|rfl
 .exact absurd Y a
 .exact hF
def XP{S:na}{j b x x':Nat}{T T':uab}(h:S.ja=[(j,T,x),(b,T',x')])(hF:kg T F):∀p∈S.ja,p.1≠b->kg p.2.1 F:=by
 rw[h];intro p c a;simp at c;rcases c with rfl|rfl
 .exact hF
 .exact absurd Y a
def XQ{Post:fX}{c:ube}{N W af d:Nat}{b:bF}{a:Act}{M:dY}{w:aH}(hk:ah N b a w)(o:aM (bG M) a.tmps a.tmps){f je g e:Nat}{bN:List bo}{ps:List jb}(x:b f=some (BP bN))(v:b je=some (x8 ps))(u:b g=some (a9 W))(t:b e=some (a9 af))(h:∀j i,aM (bG M) #[j,i] #[j,i]->od bN w j->oU ps w i->ei O prog Post 10 #[j,i,.I W,.I af] M w d c):ei O prog Post 10 (#[Operand.tmp f,.tmp je,.tmp g,.tmp e].map a.eval) M w d c:=by
 obtain⟨u1,k,r1⟩:=hk.has f _ x;obtain⟨u2,m,p⟩:=hk.has je _ v;obtain⟨u3,r,rfl⟩:=hk.has g _ u;obtain⟨u4,q,rfl⟩:=hk.has e _ t;have s:(#[Operand.tmp f,.tmp je,.tmp g,.tmp e].map a.eval)=#[u1,u2,.I W,.I af]:=by simp[Act.eval,k,m,r,q]
 rw[s];refine h u1 u2 (lg (l:=[u1,u2]) λz n=>?_) r1 p;simp at n;rcases n with rfl|rfl
 .exact o.get _ _ _ k k
 .exact o.get _ _ _ m m
def QZ(O:fk)(Post:fX)(bN:List bo)(ps:List jb)(d:Nat)(k:RK):Prop:=∀(W af:Nat),0<W->W<=16->0<af->af<=64->∀(M:dY)(w:aH) aV bd,aM (bG M) #[aV,bd] #[aV,bd]->od bN w aV->oU ps w bd->ei O prog Post 10 #[aV,bd,.I W,.I af] M w d (λu _ w'=>k.g.R w' u/\cP M w w')
def jL(O:fk)(Post:fX)(bN:List bo)(ps:List jb)(d:Nat)(t:List bo)(x y:Int):Prop:=∀(M:dY)(w:aH) aV bd,aM (bG M) #[aV,bd] #[aV,bd]->od bN w aV->oU ps w bd->ei O prog Post 12 #[.agg #[.I x,.I y],aV,bd] M w d (λu _ w'=>BO t w' u/\cP M w w')
def Ic{x:Int}(n:Nat)(hn:0<n/\n<=1000):∃p:Nat,m9 x n=p/\p<n/\(1:Int)+(p:Int)=((1+p:Nat):Int):=by have:=tA x (n:=n) AP;exact⟨(m9 x n).toNat,AP,AP,AP⟩
section
variable{Post:fX}{n:Nat}{Shun:uai}{aT M:dY}{w0 w:aH}{a b ix:Act}{v0 v27:ubf}{cs:fG}{bN:List bo}{i x y x' y':Int}
abbrev Fy(bN:List bo)(i x y x' y':Int):List (Nat×a4):=[(4,x7 x y),(5,x7 x' y'),(7,jv bN),(8,a9 i),(11,er As ((3,qI),0)),(12,er As ((2,[rJ]),0)),(13,BP bN),(14,x8 tI)]
abbrev Fz(bN:List bo)(i x y:Int):List (Nat×a4):=[(4,x7 x y),(8,a9 i),(11,er As ((3,qI),1)),(12,er As ((2,[rJ]),0)),(13,BP bN)]
def aCb(k:RK)(z:gb (jG v0 v27 cs.length) a b)(p:Ap O prog 247 (aW (Fy bN i x y x' y')) aT w0 ix)(H:Held O prog aT w0 w0.heap.size a M w Shun)(m:pK (aW (Fy bN i x y x' y')) ix a)(E:QZ O Post bN tI 2 k)(v:c9 x)(u:c9 y)(hn:n+32<=200)(hsz:a.tmps.size=247)(l:∀a' g M' w' f j,f<=n+32->Held O prog aT w0 w0.heap.size a' M' w' j->gb (jG v0 v27 cs.length) a' g->pK (aW (Fy bN i x y x' y')) ix a'->ah 247 (aW ((15,k.b0)::(16,a9 k.e)::(17,k.b2)::Fy bN i x y x' y')) a' w'->bK prog Post f j 0 (a0 ((base 3).at g [.R (aI Tryz.f3 13) [],.code (Fw Tryz.f3)]) cs) w'):
 bK prog Post n Shun 0 (a0 ((base 3).at b [.code (.region 13 (aI Tryz.f3 13) true),.code (Fw Tryz.f3)]) cs) w:=by
 obtain⟨P,A,K,r⟩:=Ic (x:=x) 16 AU;obtain⟨q,hq,N,I⟩:=Ic (x:=y) 64 AU;rw[jF (aI Tryz.f3 13)]at l⊢;refine QJ (S:=⟨10,λi=>i==13||i==14||decide (17<i),λi=>decide (10<i),[(17,27,15),(19,50,17)]⟩) (L:=aW []) (d:=2) (c6:=k.g) mH mixed L5 (QW v0 v27 AM AM) AM p (fc trivial) AM Y Y Y Y func10 AS Ln Y (λn=>QX v0 v27 n AM) hn Y (aK.hq Y Kl<|aK.hq Y Kl<|aK.hq Y (P3 Y Y)<|aK.hq (F:=a9 x) Y Kp<|aK.hq (F:=a9 P) Y (A▸BU Y Y Kk v AU)<|aK.hq (F:=a9 (1+P:Nat)) Y (r▸Af Y Kk Y CG AU)<|aK.hq Y (P4 Y Y)<|aK.hq (F:=a9 y) Y Kp<|aK.hq (F:=a9 q) Y (hq▸BU Y Y Kk u AU)<|aK.hq (F:=a9 (1+q:Nat)) Y (I▸Af Y Kk Y CG AU)<|aK.hg Y (λa M w hk D=>XQ (W:=1+P) (af:=1+q) hk D Y Y Y Y (E _ _ AP AP AP AP M w)) (hok:=(k.ok _).1)<|aK.hk (B:=jU) Y Kl k.oN AU (hok:=(k.ok _).1)<|aK.hk (B:=jU) Y (k.lS Y Y) k.t0 AU (hok:=(k.ok _).2.1)<|aK.hk (B:=jU) Y (k.cu Y Y) LQ AU<|aK.hk (B:=jU) Y (k.dr Y Y) k.d_ AU (hok:=(k.ok _).2.2.1)<|aK.hn (F:=iw w0.heap.size 27 1) Y L9 (hs:=λ_ _ _ _=>wO)<|aK.hn (F:=iw w0.heap.size 50 2) Y MJ (hs:=λ_ _ _ _=>wO)<|aK.hst Y (k.s0 Y Y Y Y Y) (hs:=λ_=>XO Y k.LZ) (hok:=(k.ok _).2.2.2.1)<|aK.hk (B:=jU) Y K6 LQ AU<|aK.hst Y (k.je Y Y Y Y Y) (hs:=λ_=>XP Y k.L0) (hok:=(k.ok _).2.2.2.2)<|rfl) z H m ⟨hsz,λs F e=>Cy⟩ ?_;intro a' g M' w' f j hKn c t C J o;exact l a' g M' w' f j t C J o (kj (kj (kj hKn (c.has 17 k.b2 Y)) (c.has 16 (a9 k.e) Y)) (c.has 15 k.b0 Y))
def aCc(k:RK){l:List (Nat×a4)}(A:l=(15,k.b0)::(16,a9 k.e)::(17,k.b2)::Fy bN i x y x' y')(C:gb (jG v0 v27 cs.length) a b)(p:Ap O prog 247 (aW l) aT w0 ix)(H:Held O prog aT w0 w0.heap.size a M w Shun)(o:pK (aW l) ix a)(J:QZ O Post bN tI 2 k)(z:c9 x')(v:c9 y')(hn:n+32<=200)(hsz:a.tmps.size=247)(m:∀a' g M' w' f j,f<=n+32->Held O prog aT w0 w0.heap.size a' M' w' j->gb (jG v0 v27 cs.length) a' g->pK (aW l) ix a'->ah 247 (aW ((18,k.b0)::(19,a9 k.e)::(20,k.b2)::l)) a' w'->bK prog Post f j 0 (a0 ((base 3).at g [.R (aI Tryz.f3 14) [],.code (yd Tryz.f3)]) cs) w'):
 bK prog Post n Shun 0 (a0 ((base 3).at b [.code (.region 14 (aI Tryz.f3 14) true),.code (yd Tryz.f3)]) cs) w:=by
 subst A;obtain⟨P,D,Q,t⟩:=Ic (x:=x') 16 AU;obtain⟨q,hq,R,K⟩:=Ic (x:=y') 64 AU;rw[jF (aI Tryz.f3 14)]at m⊢;refine QJ (S:=⟨10,λi=>i==13||i==14||decide (17<i),λi=>decide (10<i),[(17,27,18),(19,50,20)]⟩) (L:=aW []) (d:=2) (c6:=k.g) mH mixed L5 (QW v0 v27 AM AM) AM p (fc trivial) AM Y Y Y Y func10 AS Ln Y (λn=>QX v0 v27 n AM) hn Y (aK.hq Y Kl<|aK.hq Y Kl<|aK.hq Y (P3 Y Y)<|aK.hq (F:=a9 x') Y Kp<|aK.hq (F:=a9 P) Y (D▸BU Y Y Kk z AU)<|aK.hq (F:=a9 (1+P:Nat)) Y (t▸Af Y Kk Y CG AU)<|aK.hq Y (P4 Y Y)<|aK.hq (F:=a9 y') Y Kp<|aK.hq (F:=a9 q) Y (hq▸BU Y Y Kk v AU)<|aK.hq (F:=a9 (1+q:Nat)) Y (K▸Af Y Kk Y CG AU)<|aK.hg Y (λa M w hk I=>XQ (W:=1+P) (af:=1+q) hk I Y Y Y Y (J _ _ AP AP AP AP M w)) (hok:=(k.ok _).1)<|aK.hk (B:=jU) Y Kl k.oN AU (hok:=(k.ok _).1)<|aK.hk (B:=jU) Y (k.lS Y Y) k.t0 AU (hok:=(k.ok _).2.1)<|aK.hk (B:=jU) Y (k.cu Y Y) LQ AU<|aK.hk (B:=jU) Y (k.dr Y Y) k.d_ AU (hok:=(k.ok _).2.2.1)<|aK.hn (F:=iw w0.heap.size 27 1) Y L9 (hs:=λ_ _ _ _=>wO)<|aK.hn (F:=iw w0.heap.size 50 2) Y MJ (hs:=λ_ _ _ _=>wO)<|aK.hst Y (k.s0 Y Y Y Y Y) (hs:=λ_=>XO Y k.LZ) (hok:=(k.ok _).2.2.2.1)<|aK.hk (B:=jU) Y K6 LQ AU<|aK.hst Y (k.je Y Y Y Y Y) (hs:=λ_=>XP Y k.L0) (hok:=(k.ok _).2.2.2.2)<|rfl) C H o ⟨hsz,λs F e=>Cy⟩ ?_;intro a' g M' w' f j hKn c u E N r;exact m a' g M' w' f j u E N r (kj (kj (kj hKn (c.has 20 k.b2 Y)) (c.has 19 (a9 k.e) Y)) (c.has 18 k.b0 Y))
end
end
section
open kO
variable{O:fk}
def aCd{Post:fX}{N d:Nat}{b:bF}{a:Act}{M:dY}{w:aH}(hk:ah N b a w)(i:aM (bG M) a.tmps a.tmps){c je e:Nat}{x y:Int}{bN t:List bo}{ps:List jb}(q:b c=some (P2 x y))(p:b je=some (BP bN))(o:b e=some (x8 ps))(h:jL O Post bN ps d t x y):ei O prog Post 12 (#[Operand.tmp c,.tmp je,.tmp e].map a.eval) M w d (λu _ w'=>(Le t).R w' u/\cP M w w'):=by
 obtain⟨u1,r,r1⟩:=hk.has c _ q;obtain⟨u2,j,m⟩:=hk.has je _ p;obtain⟨u3,f,k⟩:=hk.has e _ o;cases r1;have n:(#[Operand.tmp c,.tmp je,.tmp e].map a.eval)=#[.agg #[.I x,.I y],u2,u3]:=by grind[c2]
 rw[n];refine h M w u2 u3 (lg (l:=[u2,u3]) λz g=>?_) m k;simp at g;rcases g with rfl|rfl
 .exact i.get _ _ _ j j
 .exact i.get _ _ _ f f
section
variable{Post:fX}{n:Nat}{Shun:uai}{aT M:dY}{w0 w:aH}{a b ix:Act}{v0 v27:ubf}{cs:fG}{bN:List bo}{i x y:Int}
def aCe{t:List bo}(r:gb (jG v0 v27 cs.length) a b)(p:Ap O prog 247 (aW (Fz bN i x y)) aT w0 ix)(H:Held O prog aT w0 w0.heap.size a M w Shun)(m:pK (aW (Fz bN i x y)) ix a)(z:jL O Post bN H3 3 t x y)(hn:n+48<=200)(hsz:a.tmps.size=247)(l:∀a' g M' w' f k,f<=n+48->Held O prog aT w0 w0.heap.size a' M' w' k->gb (jG v0 v27 cs.length) a' g->pK (aW (Fz bN i x y)) ix a'->ah 247 (aW ((21,jv t)::(22,eB true)::Fz bN i x y)) a' w'->bK prog Post f k 0 (a0 ((base 3).at g [.R (aI Tryz.f3 20) [],.code (Fv Tryz.f3)]) cs) w'):
 bK prog Post n Shun 0 (a0 ((base 3).at b [.code (.region 20 (aI Tryz.f3 20) true),.code (Fv Tryz.f3)]) cs) w:=by
 rw[jF (aI Tryz.f3 20)]at l⊢;refine QJ (S:=⟨6,λj=>j==9||j==12,λj=>decide (6<j),[(11,27,21)]⟩) (L:=aW []) (d:=3) (c6:=Le t) mH mixed L5 (QW v0 v27 AM AM) AM p (fc trivial) AM Y Y Y Y func12 AS Y Y (λn=>QX v0 v27 n AM) hn Y (aK.hq Y (aAZ Y Y)<|aK.hq Y Kl<|aK.hq Y (XD Y Kk)<|aK.hq Y (QO Y Y)<|aK.hq Y (QO Y Y)<|aK.hq Y (oP Y Y Y Y)<|aK.hg Y (λa M w hk v=>aCd hk v Y Y Y z)<|aK.hk (B:=jU) Y Kl (λ_=>awB) AU<|aK.hk (B:=jU) Y (aA1 Y Y) (λ_=>WC) AU<|aK.hk (B:=jU) Y (aA2 Y Y) LQ AU<|aK.hn (F:=iw w0.heap.size 27 1) Y L9 (hs:=λ_ _ _ _=>wO)<|aK.hst (F:=jv t) Y ((H5 t).s0 Y Y Y Y Y) (hs:=λ_=>avm Y) (hok:=trivial)<|aK.hk (B:=jU) Y K6 LQ AU<|rfl) r H m ⟨hsz,λs F e=>Cy⟩ ?_;intro a' g M' w' f k hKn c q u A o;exact l a' g M' w' f k q u A o (kj (kj hKn (c.has 22 (eB true) Y)) (c.has 21 (jv t) Y))
def aCf{t:List bo}(k:RK){l:List (Nat×a4)}(C:l=(21,jv t)::(22,eB true)::(23,er As ((2,[wW]),0))::Fz bN i x y)(D:gb (jG v0 v27 cs.length) a b)(p:Ap O prog 247 (aW l) aT w0 ix)(H:Held O prog aT w0 w0.heap.size a M w Shun)(o:pK (aW l) ix a)(K:QZ O Post bN QM 3 k)(A:c9 x)(z:c9 y)(hn:n+48<=200)(hsz:a.tmps.size=247)(m:∀a' g M' w' f j,f<=n+48->Held O prog aT w0 w0.heap.size a' M' w' j->gb (jG v0 v27 cs.length) a' g->pK (aW l) ix a'->ah 247 (aW ((24,k.b0)::(25,a9 k.e)::(26,k.b2)::l)) a' w'->bK prog Post f j 0 (a0 ((base 3).at g [.R (aI Tryz.f3 22) [],.code (Fu Tryz.f3)]) cs) w'):
 bK prog Post n Shun 0 (a0 ((base 3).at b [.code (.region 22 (aI Tryz.f3 22) true),.code (Fu Tryz.f3)]) cs) w:=by
 subst C;obtain⟨P,E,R,u⟩:=Ic (x:=x) 16 AU;obtain⟨q,hq,T,N⟩:=Ic (x:=y) 64 AU;rw[jF (aI Tryz.f3 22)]at m⊢;refine QJ (S:=⟨13,λi=>i==16||i==17||decide (20<i),λi=>decide (13<i),[(20,27,24),(22,50,26)]⟩) (L:=aW []) (d:=3) (c6:=k.g) mH mixed L5 (QW v0 v27 AM AM) AM p (fc trivial) AM Y Y Y Y func10 AS Ln Y (λn=>QX v0 v27 n AM) hn Y (aK.hq Y Kl<|aK.hq Y (XD Y Kk)<|aK.hq Y (QO Y Y)<|aK.hq Y (QO Y Y)<|aK.hq Y (oP Y Y Y Y)<|aK.hq Y (P3 Y Y)<|aK.hq (F:=a9 x) Y Kp<|aK.hq (F:=a9 P) Y (E▸BU Y Y Kk A AU)<|aK.hq (F:=a9 (1+P:Nat)) Y (u▸Af Y Kk Y CG AU)<|aK.hq Y (P4 Y Y)<|aK.hq (F:=a9 y) Y Kp<|aK.hq (F:=a9 q) Y (hq▸BU Y Y Kk z AU)<|aK.hq (F:=a9 (1+q:Nat)) Y (N▸Af Y Kk Y CG AU)<|aK.hg Y (λa M w hk J=>XQ (W:=1+P) (af:=1+q) hk J Y Y Y Y (K _ _ AP AP AP AP M w)) (hok:=(k.ok _).1)<|aK.hk (B:=jU) Y Kl k.oN AU (hok:=(k.ok _).1)<|aK.hk (B:=jU) Y (k.lS Y Y) k.t0 AU (hok:=(k.ok _).2.1)<|aK.hk (B:=jU) Y (k.cu Y Y) LQ AU<|aK.hk (B:=jU) Y (k.dr Y Y) k.d_ AU (hok:=(k.ok _).2.2.1)<|aK.hn (F:=iw w0.heap.size 27 1) Y L9 (hs:=λ_ _ _ _=>wO)<|aK.hn (F:=iw w0.heap.size 50 2) Y MJ (hs:=λ_ _ _ _=>wO)<|aK.hst Y (k.s0 Y Y Y Y Y) (hs:=λ_=>XO Y k.LZ) (hok:=(k.ok _).2.2.2.1)<|aK.hk (B:=jU) Y K6 LQ AU<|aK.hst Y (k.je Y Y Y Y Y) (hs:=λ_=>XP Y k.L0) (hok:=(k.ok _).2.2.2.2)<|rfl) D H o ⟨hsz,λs F e=>Cy⟩ ?_;intro a' g M' w' f j hKn c v I Q r;exact m a' g M' w' f j v I Q r (kj (kj (kj hKn (c.has 26 k.b2 Y)) (c.has 25 (a9 k.e) Y)) (c.has 24 k.b0 Y))
end
end
section
open kO
section
variable{N:Nat}{K:bF}{o:Oper}{x y:uau}{T T':uab}{m n:Int}
def FA(c:o.op=.binOp .eql T x y T')(b:bg K x (a9 m))(a:bg K y (a9 n))(d:tB T)(h:m=n):bD vee N K o (eB true):=by have:=BB (N:=N) c b a d;rwa[h,beq_self_eq_true]at this
def XR(c:o.op=.binOp .eql 48 x y T')(b:bg K x (a9 m))(a:bg K y (a9 m)):bD vee N K o (eB true):=by have:=ayj (N:=N) c b a;rwa[beq_self_eq_true]at this
def jK(c:o.op=.binOp .neq 48 x y T')(b:bg K x (a9 m))(a:bg K y (a9 m)):bD vee N K o (eB false):=by have:=PE (N:=N) c b a;rwa[bne_self_eq_false]at this
def Ie{xs:ubd}(a:o.op=.load 40 x)(d:bg K x (er (pE 1 xZ) xs)):bD vee N K o (dS 1 xZ xs):=dK d λev w h=>by obtain⟨b,f,e,v,h0,h⟩:=h;simp only[vcg]at h0;refine⟨v,w,?_,h,vaa _ _⟩;obtain⟨g,c,rfl,-,-⟩:=h;cases o;simp only at a;subst a;go_simp
end
section
variable{bN:List bo}{i x y x' y':Int}{n0:Nat}{a:Act}{w:aH}
abbrev rK(k:RK)(s1 je nM:Nat)(l:List (Nat×a4)):List (Nat×a4):=(s1,k.b0)::(je,a9 k.e)::(nM,k.b2)::l
def aCg{K:bF}(hd:a.defers=[])(hk:ah 247 K a w):b8 vee [.R (aI Tryz.f3 13) [],.code (Fw Tryz.f3)] [.code (.region 14 (aI Tryz.f3 14) true),.code (yd Tryz.f3)] (λa1 w1=>a1.defers=[]/\ah 247 K a1 w1/\Below n0 w w1) a w:=by unfold Fw;exact tv (cg (jS ⟨hd,hk,vaa _ _⟩))
def aCh{t:List bo}{n:Nat}(ht:0<t.length)(hn:t[0].gZ.length=n)(h0:0<bN.length)(d:bN[0].gZ.length=n)(hd:a.defers=[])(hk:ah 247 (aW (rK (H5 t) 18 19 20 (rK (H5 t) 15 16 17 [(7,jv bN),(8,a9 (-1))]))) a w):
 b8 vee [.R (aI Tryz.f3 14) [],.code (yd Tryz.f3)] (.code .ret::[.code (QS Tryz.f3)]) (λa1 w1=>a1.defers=[]/\ah 247 (aW [(6,eB true)]) a1 w1/\cy w w1) a w:=by
 unfold yd;refine tv (cg (cg ?_));rw[jF (aI Tryz.f3 15)];refine gg hk (aE Y Kl<|aE Y (avj (n:=0) Y Y Kk AU AU)<|rfl) λa1 w1 b d1 b1=>lv (t:=true) (Fs b Y) (cg ?_);rw[jF (aI Tryz.f3 16)];refine VT (m:=26) (b.a7 (l:=[(7,jv bN),(15,jv t),(16,a9 0),(17,QP),(19,a9 0),(20,QP)]) ⟨Y,Y,Y,Y,Y,Y,PA⟩) (dq Y Kl<|dq Y (XR Y Y Kk)<|dq Y Kl<|rC Y Kl<|rC Y (XR Y Y Kk)<|dq Y LP<|dq Y Kl<|rC Y (QH Y Y)<|rC Y (XE Y Y ht hn)<|rC Y (QH Y Y)<|rC Y (XE Y Y h0 d)<|rC Y (FA Y Y Y AU Y)<|dq Y LP<|dq Y Kl<|rC Y (nT Y Y)<|rC Y (vt Y Y)<|rC Y (vp Y Y)<|rC Y (FA (n:=0) Y Y Kk AU Y)<|dq Y LP<|dq Y Kl<|rC Y (nT Y Y)<|rC Y (vt Y Y)<|rC Y (vp Y Y)<|rC Y (FA (n:=0) Y Y Kk AU Y)<|dq Y LP<|dq Y K6<|rfl) Y XF AM λf w2 c e b2=>⟨Y,?_⟩;exact jS ⟨e.trans (d1.trans hd),c.a7 ⟨Y,PA⟩,b1.trans (b2.mono b1.size)⟩
abbrev rL(n0:Nat)(c:Int)(bN:List bo)(i x y:Int):List (Nat×a4):=[(4,kW x y),(8,a9 i),(11,sD n0 c),(12,uX rJ),(13,Ft bN)]
def aCi{ks ks':uaa}{Q:uag}(hk:ah 247 (aW (rL n0 0 bN i x y)) a w)(kk:∀a' w',Below n0 w w'->ah 247 (aW (rL n0 1 bN i x y)) a' w'->a'.defers=a.defers->b8 vee ks ks' Q a' w'):b8 vee (.code (.region 19 (aI Tryz.f3 19) false)::ks) ks' Q a w:=by
 obtain⟨T,I,cm,rfl,F⟩:=hk.has 4 _ rfl;obtain⟨S,O,E⟩:=hk.has 8 _ rfl;obtain⟨v11,d,⟨b,c3,rfl,r1,A⟩,N,M,e,hn⟩:=hk.has 11 _ rfl;obtain⟨v12,P,l,r,rfl,z,je⟩:=hk.has 12 _ rfl;obtain⟨v13,q,m,aA,rfl,H,d_⟩:=hk.has 13 _ rfl;cases e;have j:l≠b:=λe=>by subst e;have:=van ((show w.heap[l]?=_ from z).symm.trans r1);simp at this
 have c:=iJ.set r1 1 (.I 1);have D:=(vaa n0 w).setCell (p:=⟨b,1,none⟩) hn (.I 1);have hsz:=hk.size;clear hk;obtain⟨g,g1,X,rfl,-⟩:=id A;obtain⟨o,C,B,K,J⟩:∃o,(aI Tryz.f3 19)[1]?=some o/\o.op=.store 3 (.tmp 183) (.const (.I 1))/\o.guard=none/\o.dst=none:=⟨_,rfl,rfl,rfl,rfl⟩;rw[jF (aI Tryz.f3 19)]at C⊢;refine O5 (n:=2) rfl (i_ (R:=λa' w'=>a'=a.put (some 183) (.P b 1)/\w=w') (pC (v:=.P b 1) rfl rfl rfl ?_ ⟨rfl,rfl⟩) ?_)
 .have e:=c2 d;generalize a.eval=ev at e⊢;go_simp
 rintro a1 _ ⟨f,rfl⟩;have ne:∀{s:Nat}{u:Value},s≠183->a.tmps[s]?=some u->a1.tmps[s]?=some u:=λh e=>by rw[f];exact(dV (Ne.symm h)).trans e
 refine i_ (R:=λa' w'=>a1=a'/\w'=w.setCell ⟨b,1,none⟩ (.I 1)) (tx C K J ?_ ⟨rfl,rfl⟩) ?_
 .have e:=c2 (a:=a1) (t:=183) (by rw[f];exact kS (by rw[hsz];decide));have L:a1.eval (.const (.I 1))=.I 1:=rfl;obtain⟨W,V,U⟩:=r1.all;generalize a1.eval=ev at e L⊢;cases o;simp only at B;subst B;go_simp
 rintro _ w2 ⟨rfl,k⟩;rw[<-k]at c D;refine qy (kk a1 w2 D ?_ (by rw[f,put_defers]));refine dQ (ne AU I) ⟨cm,rfl,w5 c F AU⟩<|dQ (ne AU O) E<|dQ (ne AU d) ⟨⟨b,_,rfl,by rw[k];exact r1.set 1 _,A.only c⟩,b,0,rfl,hn⟩<|dQ (ne AU P) ⟨l,r,rfl,by rw[k];exact z.ek j _,je.only c⟩<|dQ (ne AU q) ⟨m,aA,rfl,w5 c H AU,d_.kept (c.kept (by simp[qh]))⟩<|x3 (by rw[f,gY];exact hsz)
def aCm{j:Nat}(f:n0<=w.heap.size)(hd:a.defers=[])(hk:ah 247 (aW (rK (B1 1 j) 18 19 20 (rK (B1 1 j) 15 16 17 (rL n0 0 bN j x y)))) a w):
 b8 vee [.R (aI Tryz.f3 14) [],.code (yd Tryz.f3)] [.code (.region 20 (aI Tryz.f3 20) true),.code (Fv Tryz.f3)] (λa1 w1=>a1.defers=[]/\ah 247 (aW (rL n0 1 bN j x y)) a1 w1/\Below n0 w w1) a w:=by
 unfold yd;refine tv (cg (cg ?_));rw[jF (aI Tryz.f3 15)];refine gg hk (aE Y Kl<|aE Y (V0 (n:=0) Y Y Kk AU AP)<|rfl) λa1 w1 b d1 b1=>lv (t:=false) (Fs b Y) (uL ?_);have b:ah 247 (aW ((15,XG)::(16,a9 5)::(17,LY 1 j)::(19,a9 5)::(20,LY 1 j)::rL n0 0 bN j x y)) a1 w1:=b.a7 ⟨Y,Y,Y,Y,Y,Y,Y,Y,Y,Y,PA⟩;unfold QS;refine cg (cg ?_);rw[jF (aI Tryz.f3 17)];refine gg b (aE Y Kl<|aE Y (jK Y Y Kk)<|aE Y Kl<|dD Y Kl<|dD Y (jK Y Y Kk)<|aE Y LP<|aE Y Kl<|dD Y (aBC Y Y)<|dD Y (aBD Y Y)<|dD Y (aBE Y Y)<|dD Y MI<|aE Y LP<|aE Y Kl<|dD Y (XH Y Y)<|dD Y Kp<|dD Y MI<|aE Y LP<|aE Y Kl<|dD Y (XH Y Y)<|dD Y Kp<|dD Y MI<|aE Y LP<|aE Y Kl<|dD Y (H6 Y Y)<|dD Y (Ie Y Y)<|dD Y (K4 Y Y AU)<|dD Y MI<|aE Y LP<|aE Y Kl<|dD Y (H6 Y Y)<|dD Y (Ie Y Y)<|dD Y (K4 Y Y AU)<|dD Y MI<|aE Y LP<|aE Y Kl<|dD Y (H6 Y Y)<|dD Y (Ie Y Y)<|dD Y (iF (i:=0) Y Y Kk Y AU)<|dD Y Kp<|dD Y Kl<|dD Y (EQ Y Y Y AU)<|aE Y LP<|aE Y Kl<|dD Y (H6 Y Y)<|dD Y (Ie Y Y)<|dD Y (iF (i:=0) Y Y Kk Y AU)<|dD Y Kp<|dD Y Kl<|dD Y (EQ Y Y Y AU)<|aE Y LP<|rfl) λo w2 c h b2=>lv (t:=false) (Fs c Y) (uL (cg ?_));have d:=b1.trans (b2.mono b1.size);refine aCi (c.a7 ⟨Y,Y,Y,Y,Y,PA⟩) λm l k e g=>cg (jS ⟨g.trans (h.trans (d1.trans hd)),e,(d.mono f).trans k⟩)
def aCn{t:List bo}(hd:a.defers=[])(hk:ah 247 (aW ((21,jv t)::(22,eB true)::rL n0 1 bN i x y)) a w):
 b8 vee [.R (aI Tryz.f3 20) [],.code (Fv Tryz.f3)] [.code (.region 22 (aI Tryz.f3 22) true),.code (Fu Tryz.f3)] (λa1 w1=>a1.defers=[]/\ah 247 (aW ((21,jv t)::(22,eB true)::(23,uX wW)::rL n0 1 bN i x y)) a1 w1/\cy w w1) a w:=by
 unfold Fv;refine tv (cg ?_);rw[jF (aI Tryz.f3 21)];refine Pg (m:=5) hk (aE Y (oQ Y Kk)<|aE Y (QN Y Kk)<|aE Y (XC Y Kk)<|aE Y (XJ Y Y Y Y)<|aE Y (qP Y Kk Y)<|rfl) AU λj n g f b=>qN (e:=wW) Y Y Y Y Y g Y Y Y Y AU AU λl k h d c=>qy (cg (jS ⟨d.trans (f.trans hd),h.a7 ⟨Y,Y,Y,Y,Y,Y,Y,Y,PA⟩,b.trans (c.mono b.size)⟩))
def aCo{t:List bo}{j:Nat}(ht:t.length=2)(hd:a.defers=[])(hk:ah 247 (aW (rK (B1 2 j) 24 25 26 [(8,a9 j),(21,jv t),(22,eB true)])) a w):
 b8 vee [.R (aI Tryz.f3 22) [],.code (Fu Tryz.f3)] [.code .ret] (λa1 w1=>a1.defers=[]/\ah 247 (aW [(6,eB true)]) a1 w1/\cy w w1) a w:=by
 unfold Fu;refine tv (cg ?_);rw[jF (aI Tryz.f3 23)];refine gg hk (aE Y Kl<|aE Y Kl<|dD Y (QG Y Y)<|dD Y LU<|dD Y (K4 Y Y AU)<|dD Y (FA (n:=2) Y Y Kk AU AP)<|aE Y LP<|aE Y Kl<|dD Y Kl<|dD Y (XR Y Y Kk)<|aE Y LP<|aE Y Kl<|dD Y (XH Y Y)<|dD Y Kp<|dD Y (FA (n:=2) Y Y Kk AU Y)<|aE Y LP<|aE Y Kl<|dD Y (H6 Y Y)<|dD Y (Ie Y Y)<|dD Y (K4 Y Y AU)<|dD Y (FA (n:=1) Y Y Kk AU Y)<|aE Y LP<|aE Y Kl<|dD Y (H6 Y Y)<|dD Y (Ie Y Y)<|dD Y (iF (i:=0) Y Y Kk Y AU)<|dD Y Kp<|dD Y Kl<|dD Y (FA Y Y Y AU Y)<|aE Y LP<|aE Y K6<|rfl) λd w2 b c b2=>jS ⟨c.trans hd,b.a7 ⟨Y,PA⟩,b2⟩
end
end
section
open kO
variable{O:fk}{n0:Nat}
def jC{Post:fX}{n:Nat}{Shun:uai}{w:aH}{a:Act}{ks:uaa}(hd:a.defers=[])(f:a.tmps[6]?=some (.T))(e:∀k,Post (.T) (w.at k)):bK prog Post n Shun 0 (a0 ((base 3).at a (.code .ret::ks)) []) w:=by
 refine Dn Y λk=>⟨a0 {(base 3).at a (.code .ret::ks)with mode:=.returning} [],w.at k,#[],?_,AQ,vad _,?_⟩
 .simp[a0,stepG,stepG.exec,Frame.at,base]
 .refine aqG Y λk'=>⟨.T,#[],?_,AQ,e k'⟩;have c:=func3;have b:(results Tryz.f3 a.tmps).run prog ((w.at k).at k')=.ok (.T) ((w.at k).at k'):=by simp_all[results]
  have d:(results Tryz.f3 a.tmps).events prog ((w.at k).at k') #[]=#[]:=by simp_all[results]
  simp[a0,stepG,unwind,doReturn,Frame.at,base,hd,c,b,d,seen,GStep.after]
def jw{l:List (Nat×a4)}{s:Nat}:(∃F,aW l s=some F)↔s∈l.map (·.1):=by
 induction l with
 |nil=>simp[aW]
 |cons p l a=>
  obtain⟨t,F⟩:=p;simp only[aW,vdd,vbh];by_cases h:s=t
  .simp[h]
  .simp[h,a,Ne.symm]
def XS{l b:List (Nat×a4)}{ix a:Act}(h:pK (aW l) ix a)(hk:∀s∈b.map (·.1),s∈l.map (·.1)):pK (aW b) ix a:=λs F e=>by obtain⟨c,d⟩:=jw.2 (hk s (jw.1 ⟨F,e⟩));exact h s c d
def If(K:bF)(a:Act)(w:aH):List (Nat×a4)->Prop
 | []=>True
 |(s,F)::l=>(∃tJ,K s=some tJ/\∀v,a.tmps[s]?=some v->tJ.R w v->F.R w v)/\If K a w l
theorem FB{N:Nat}{K:bF}{a:Act}{w:aH}(h:ah N K a w):∀{l:List (Nat×a4)},If K a w l->ah N (aW l) a w
 | [],_=>x3 h.size
 |(s,F)::l,⟨⟨b,e,c⟩,k⟩=>by obtain⟨v,q,r⟩:=h.has s b e;exact dQ q (c v q r) (FB h k)
def kX{K:bF}{a:Act}{w:aH}{s:Nat}{l:List (Nat×a4)}(e:K s=some F)(h:If K a w l):If K a w ((s,F)::l):=⟨⟨F,e,λ_ _ r=>r⟩,h⟩
def tL{K:bF}{a:Act}{w:aH}{s:Nat}{b:a4}{l:List (Nat×a4)}(e:K s=some b)(c:∀v,a.tmps[s]?=some v->b.R w v->F.R w v)(h:If K a w l):If K a w ((s,F)::l):=⟨⟨b,e,c⟩,h⟩
section
variable{bN:List bo}{i x y x' y':Int}{a:Act}{w:aH}
abbrev L6(n0:Nat)(a:Act):Prop:=∀v,a.tmps[11]?=some v->oX n0 v
def jr(k:ah 247 (aW (sG (Au 0) bN i x y x' y')) a w):ah 247 (aW (Fy bN i x y x' y')) a w:=
 FB k<|tL Y (λ_ _=>H9.sE)<|tL Y (λ_ _=>H9.sE)<|kX Y<|kX Y<|tL Y (λ_ _=>H7.sE)<|tL Y (λ_ _ r=>H8.sE r AU qX)<|tL Y (λ_ _=>L1.sE)<|kX Y trivial
def iA(k:ah 247 (aW [(4,kW x y),(8,a9 i),(11,Au 1),(12,uX rJ),(13,Ft bN)]) a w):ah 247 (aW (Fz bN i x y)) a w:=
 FB k<|tL Y (λ_ _=>H9.sE)<|kX Y<|tL Y (λ_ _=>H7.sE)<|tL Y (λ_ _ r=>H8.sE r AU qX)<|tL Y (λ_ _=>L1.sE) trivial
def h8(k:ah 247 (aW (sG (Au 0) bN i x y x' y')) a w)(b:L6 n0 a):ah 247 (aW (sG (sD n0 0) bN i x y x' y')) a w:=
 FB k<|kX Y<|kX Y<|kX Y<|kX Y<|tL Y (λv e r=>⟨r,b v e⟩)<|kX Y<|kX Y<|kX Y trivial
def hV{l:List (Nat×a4)}{c:Int}(k:ah 247 (aW l) a w)(e:aW l 11=some (sD n0 c)):L6 n0 a:=λv hv=>by obtain⟨u,q,r⟩:=k.has 11 _ e;rw[hv]at q;cases q;exact r.2
def hP(k:ah 247 (aW (sG (sD n0 0) bN i x y x' y')) a w):ah 247 (aW (sG (Au 0) bN i x y x' y')) a w/\L6 n0 a:=
 ⟨FB k<|kX Y<|kX Y<|kX Y<|kX Y<|tL Y (λ_ _ r=>r.1)<|kX Y<|kX Y<|kX Y trivial,hV k Y⟩
def hM{c:Int}(k:ah 247 (aW (rL n0 c bN i x y)) a w):ah 247 (aW [(4,kW x y),(8,a9 i),(11,Au c),(12,uX rJ),(13,Ft bN)]) a w/\L6 n0 a:=
 ⟨FB k<|kX Y<|kX Y<|tL Y (λ_ _ r=>r.1)<|kX Y<|kX Y trivial,hV k Y⟩
def aCp{c:Int}(k:ah 247 (aW [(4,kW x y),(8,a9 i),(11,Au c),(12,uX rJ),(13,Ft bN)]) a w)(b:L6 n0 a):ah 247 (aW (rL n0 c bN i x y)) a w:=
 FB k<|kX Y<|kX Y<|tL Y (λv e r=>⟨r,b v e⟩)<|kX Y<|kX Y trivial
end
section
variable{Post:fX}{n:Nat}{Shun:uai}{aT M:dY}{w0 w:aH}{a b:Act}{v0 v27:ubf}{rs:List dw}{x y x' y':Int}
def Q0(rs:List dw):bo:=⟨1,0,rs.map λr=>gw r.2.1,[],rs.map λr=>ij r.2.1⟩
def aCq(rs:List dw):sF (Q0 rs)=oV rs:=by
 funext i
 rfl
def Ig{K K':bF}(l:gb (jG v0 v27 0) a b)(H:Held O prog aT w0 n0 a M w Shun){k k':uaa}(p:k.all (hZ (jG none none 0))=true)(hk:k.all (gL prog)=true)(o:k'.all (gL prog)=true)(ok:∀s F,K s=some F->F.ok n0)(ok':∀s F,K' s=some F->F.ok n0)(d:ah 247 K a w)(hrun:∀W,n0<=W.heap.size->ah 247 K a W->b8 vee k k' (λa1 w1=>a1.defers=[]/\ah 247 K' a1 w1/\Below n0 W w1) a W)(m:∀a' c M' w',Held O prog aT w0 n0 a' M' w' Shun->gb (jG v0 v27 0) a' c->ah 247 K' a' w'->bK prog Post n Shun 0 (a0 ((base 3).at c k') []) w'):
 bK prog Post n Shun 0 (a0 ((base 3).at b k) []) w:=by
 refine LG mH follows L5 Y (jW v0 v27 _) l (j2 v0 v27 _ p) H hk o (I:=ah 247 K) (J:=ah 247 K') (kT _ ok) (kT _ ok') d (λW e f b cs=>?_) m;obtain⟨a1,w1,⟨j,i,h⟩,g⟩:=hrun W e f b cs;exact⟨a1,w1,⟨j,i,h⟩,g⟩
def XT{k k':uaa}{K':bF}{W:aH}(c:n0<=W.heap.size)(h:b8 vee k k' (λa1 w1=>a1.defers=[]/\ah 247 K' a1 w1/\cy W w1) a W):b8 vee k k' (λa1 w1=>a1.defers=[]/\ah 247 K' a1 w1/\Below n0 W w1) a W:=λb cs=>by obtain⟨a1,w1,⟨g,f,e⟩,d⟩:=h b cs;exact⟨a1,w1,⟨g,f,e.mono c⟩,d⟩
def gX(k:RK)(hl:rs.length<=40)(hx:c9 x)(hy:c9 y)(gy:c9 x')(A:c9 y')(c3:QZ O Post (eD rs) tI 2 k){i:Int}(hi:mP (oV rs) rs.length 0=i)(fl:gb (jG v0 v27 0) a b)(H:Held O prog aT w0 n0 a M w Shun)(hs:ah 247 (aW [(4,kW x y),(5,kW x' y'),(28,qF (eD rs)),(246,lL)]) a w)(hn:n+64<=200)(cx:∀a' Z M' w' T a8,T<=n+64->Held O prog aT w0 n0 a' M' w' a8->gb (jG v0 v27 0) a' Z->ah 247 (aW (rK k 18 19 20 (rK k 15 16 17 (sG (sD n0 0) (eD rs) i x y x' y')))) a' w'->bK prog Post T a8 0 (a0 ((base 3).at Z [.R (aI Tryz.f3 14) [],.code (yd Tryz.f3)]) []) w'):
 bK prog Post n Shun 0 (a0 ((base 3).at b [.R (aI Tryz.f3 1) [2,3],.code (uY Tryz.f3)]) []) w:=by
 subst hi;have r:∀m,∀s F,aW (sG (Au 0) (eD rs) (mP (oV rs) rs.length 0) x y x' y') s=some F->F.ok m:=λm=>Bz;refine Ig fl H (K':=aW (sG (sD n0 0) (eD rs) (mP (oV rs) rs.length 0) x y x' y')) (k':=[.code (.region 13 (aI Tryz.f3 13) true),.code (Fw Tryz.f3)]) AM AM AM (by exact fc ⟨PA,PA,PA,PA,PA⟩) (by exact fc ⟨PA,PA,PA,PA,rfl,PA,PA,PA,PA⟩) hs (λW V B=>?_) ?_
 .have:=aB8 (bN:=eD rs) (c:=Q0 rs) (n:=rs.length) JI JI rfl ⟨by simp[Q0],by simp[Q0]⟩ AP x y x' y' a W H.defers V B;rw[aCq]at this;exact this
 intro a1 b1 dv w1 z P U;obtain⟨q,N⟩:=hP U;have p1:=z.phase q (r _);refine aCb k P (z.phase (jr q) Bz) z.QI (QY _ _) c3 hx hy AP U.size λbV b2 M2 w2 iy EV wH h L p f=>?_;have K:=p1.now h (XS p (by intro s hs;simpa[sG]using hs)) f.size;have J:=h8 K (λv e=>N v ((p 11 _ rfl).symm.trans e));have h:=z.back h;have f:ah 247 (aW (rK k 15 16 17 (sG (sD n0 0) (eD rs) (mP (oV rs) rs.length 0) x y x' y'))) bV w2:=kj (kj (kj J (f.has 17 k.b2 rfl)) (f.has 16 (a9 k.e) rfl)) (f.has 15 k.b0 rfl);have o:∀s F,aW (rK k 15 16 17 (sG (sD n0 0) (eD rs) (mP (oV rs) rs.length 0) x y x' y')) s=some F->F.ok n0:=by exact fc ⟨(k.ok _).2.2.2.1,PA,(k.ok _).2.2.2.2,PA,PA,PA,PA,rfl,PA,PA,PA,PA⟩
 refine Ig L h (k':=[.code (.region 14 (aI Tryz.f3 14) true),.code (yd Tryz.f3)]) AM AM AM o o f (λW V B=>aCg h.defers B) ?_;intro X cd l8 S u I g;have E:ah 247 (aW (sG (sD n0 0) (eD rs) (mP (oV rs) rs.length 0) x y x' y')) X S:=g.a7 ⟨rfl,rfl,rfl,rfl,rfl,rfl,rfl,rfl,PA⟩;obtain⟨l,D⟩:=hP E;have p3:=u.phase l (r _);have C:ah 247 (aW (rK k 15 16 17 (Fy (eD rs) (mP (oV rs) rs.length 0) x y x' y'))) X S:=kj (kj (kj (jr l) (g.has 17 k.b2 rfl)) (g.has 16 (a9 k.e) rfl)) (g.has 15 k.b0 rfl);refine aCc k rfl I (u.phase C (by exact fc ⟨(k.ok _).2.2.2.1,PA,(k.ok _).2.2.2.2,PA,PA,PA,PA,PA,PA,PA,PA,PA⟩)) u.QI (QY _ _) c3 gy A AP g.size λcN cm E5 w4 mS XU yb t L8 j d=>?_;have R:=p3.now t (XS j (by intro s hs;simp[sG]at hs;simp;omega)) d.size;have Q:=h8 R (λv e=>D v ((j 11 _ rfl).symm.trans e));have t:=u.back t;exact cx cN cm E5 w4 mS XU AP t L8 (kj (kj (kj (kj (kj (kj Q (d.has 17 k.b2 rfl)) (d.has 16 (a9 k.e) rfl)) (d.has 15 k.b0 rfl)) (d.has 20 k.b2 rfl)) (d.has 19 (a9 k.e) rfl)) (d.has 18 k.b0 rfl))
def aCC(fl:gb (jG v0 v27 0) a b)(H:Held O prog aT w0 n0 a M w Shun)(rs:List dw)(m:rs.length<=40)(P:c9 x)(N:c9 y)(gy:c9 x')(u:c9 y')(hs:ah 247 (aW [(4,kW x y),(5,kW x' y'),(28,qF (eD rs)),(246,lL)]) a w)(hn:n+160<=200)(fa:∀a' M' w' a8,Held O prog aT w0 n0 a' M' w' a8->Post (.T) w'):
 bK prog Post n Shun 0 (a0 ((base 3).at b [.R (aI Tryz.f3 1) [2,3],.code (uY Tryz.f3)]) []) w:=by
 cases q:iu (oV rs) 0 rs.length with
 |none=>refine gX (H5 (sC (eE rs))) m P N gy u (λW af C B A z M w X V f ht hn=>aBr m q C B A z f ht hn) (i:= -1) (by simp[mP,q]) fl H hs AP λcN cm E5 w4 mS XU yb o L8 U=>?_;refine Ig L8 o (k':=.code .ret::[.code (QS Tryz.f3)]) (K:=aW (rK (H5 (sC (eE rs))) 18 19 20 (rK (H5 (sC (eE rs))) 15 16 17 [(7,jv (eD rs)),(8,a9 (-1))]))) (K':=aW [(6,eB true)]) AM AM AM Bz (by exact fc ⟨PA,PA⟩) (U.a7 ⟨rfl,rfl,rfl,rfl,rfl,rfl,rfl,rfl,PA⟩) (λW g h=>XT g (aCh (n:=rs.length) (by rw[XB];decide) ((aBm _).trans (wZ rs)) JI JI o.defers h)) ?_;intro fO cK aCD io d R Q;obtain⟨v,e,r⟩:=Q.has 6 (eB true) rfl;cases r;exact jC (R.defers.trans d.defers) ((R.same 6 rfl).trans e) λk=>fa _ _ _ _ (d.at k)
 |some j=>
  refine gX (B1 1 j) m P N gy u (λW af C B A z M w X V f ht hn=>aBs m q C B A z f ht hn) (i:=(j:Int)) (by simp[mP,q]) fl H hs AP λcN cm E5 w4 mS XU yb o L8 U=>?_;have aCE:∀c:Int,∀s F,aW (rL n0 c (eD rs) j x y) s=some F->F.ok n0:=λc=>by exact fc ⟨PA,PA,rfl,PA,PA,PA⟩
  refine Ig L8 o (k':=[.code (.region 20 (aI Tryz.f3 20) true),.code (Fv Tryz.f3)]) (K:=aW (rK (B1 1 j) 18 19 20 (rK (B1 1 j) 15 16 17 (rL n0 0 (eD rs) j x y)))) (K':=aW (rL n0 1 (eD rs) j x y)) AM AM AM (by exact fc ⟨PA,PA,PA,PA,PA,PA,PA,PA,rfl,PA,PA,PA⟩) (aCE 1) (U.a7 ⟨rfl,rfl,rfl,rfl,rfl,rfl,rfl,rfl,rfl,rfl,rfl,PA⟩) (λW g h=>aCm g o.defers h) ?_;intro fO cK aCD io d R Q;obtain⟨J,aCF⟩:=hM Q;have Aj:=d.phase J HH;refine aCe (t:=sC ((eE rs).filter tH)) R (d.phase (iA J) HH) d.QI (QY _ _) (λM w X V f ht hn=>aBt m P N f ht hn) AP Q.size λlG ff aJx lY Lz aJy aJz L aCG I T=>?_;have aCH:=Aj.now L (XS I (by intro s hs;simpa using hs)) T.size;have aCI:=aCp aCH (λv e=>aCF v ((I 11 _ rfl).symm.trans e));have L:=d.back L;refine Ig aCG L (k':=[.code (.region 22 (aI Tryz.f3 22) true),.code (Fu Tryz.f3)]) (K:=aW ((21,jv (sC ((eE rs).filter tH)))::(22,eB true)::rL n0 1 (eD rs) j x y)) (K':=aW ((21,jv (sC ((eE rs).filter tH)))::(22,eB true)::(23,uX wW)::rL n0 1 (eD rs) j x y)) AM AM AM (by exact fc ⟨PA,PA,PA,PA,rfl,PA,PA,PA⟩) (by exact fc ⟨PA,PA,PA,PA,PA,rfl,PA,PA,PA⟩) (kj (kj aCI (T.has 22 (eB true) rfl)) (T.has 21 (jv _) rfl)) (λW g h=>XT g (aCn L.defers h)) ?_;intro n6 rG aJA xm Lh aCJ p;obtain⟨aCK,aJB⟩:=hM (p.a7 (l:=rL n0 1 (eD rs) j x y) ⟨rfl,rfl,rfl,rfl,rfl,PA⟩);have Z:ah 247 (aW ((21,jv (sC ((eE rs).filter tH)))::(22,eB true)::(23,er As ((2,[wW]),0))::Fz (eD rs) j x y)) n6 xm:=kj (kj (kj (iA aCK) (by obtain⟨v,e,r⟩:=p.has 23 (uX wW) rfl;exact⟨v,e,H8.sE r AU aBN⟩)) (p.has 22 (eB true) rfl)) (p.has 21 (jv _) rfl);refine aCf (B1 2 j) rfl aCJ (Lh.phase Z Bz) Lh.QI (QY _ _) (λW af C B A z M w X V f ht hn=>aBu m q C B A z f ht hn) P N AP p.size λs2 ki kG AT Xb aJC ags S c3 aJD L4=>?_;have S:=Lh.back S;refine Ig c3 S (k':=[.code .ret]) (K:=aW (rK (B1 2 j) 24 25 26 [(8,a9 j),(21,jv (sC ((eE rs).filter tH))),(22,eB true)])) (K':=aW [(6,eB true)]) AM AM AM (by exact fc ⟨PA,PA,PA,PA,PA,PA,PA⟩) (by exact fc ⟨PA,PA⟩) (L4.a7 ⟨rfl,rfl,rfl,rfl,rfl,rfl,PA⟩) (λW g h=>XT g (aCo (XB _) S.defers h)) ?_;intro XM wT aJE XN E D Fx;obtain⟨v,e,r⟩:=Fx.has 6 (eB true) rfl;cases r;exact jC (D.defers.trans E.defers) ((D.same 6 rfl).trans e) λk=>fa _ _ _ _ (E.at k)
