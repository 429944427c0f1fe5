/- Proved: the statement PagedSaid of quarrykeep.Paged at this commit, whole and without further conditions: for every argument within the seat's bounds the call ends as the law asks, whatever the goroutines' order. The texts are packed: names shortened by program. -/
import Derived.Test.YtmlddfohidhniaaGreatRows
import Derived.Deep.Fields
import Derived.Test.YtmlddfohidhniaaGreatPAU
import Derived.Test.YtmlddfohidhniaaGreatPAV
set_option linter.all false
set_option maxRecDepth 100000
set_option maxHeartbeats 16000000
namespace Go.Proofs.YtmlddfohidhniaaGreat
open Go.Proofs.Tryz
namespace a3
open Conc ConcM RowKit ax bp cI dm bS cq eC
def Wb(a:dp)(w:aS):Sem.run (ae prog true) (callFunc 10 a) w=.ok (.enter 10 a) w:=c0 (bw (upd:=true) func10 AJ) AJ a w
def V8(a:dp)(w:aS):Sem.run (ae prog true) (callFunc 11 a) w=.ok (.enter 11 a) w:=c0 (bw (upd:=true) func11 AJ) AJ a w
section
variable{N:Nat}{K:bL}{o:Oper}{F:bb}{x y z u:uar}{ats:uaq}
def vM{t:List aG}{n:Nat}(c:o.op=.call {callee:=.value (.func 7),args:=#[x],argTypes:=ats})(b:bh K x (k8 t))(h0:0<t.length)(hn:t[0].dk.length=n):bF (ae prog true) N K o (a5 (n:Int)):=J_ c (λa w=>atn a w) b λv w h=>by obtain⟨bq,rfl,f⟩:=h;refine(atr bq t h0 w f.iM).mono ?_;rintro e w' ⟨rfl,d⟩;exact⟨_,Y,by rw[hn];rfl,d⟩
def V3{t:List aG}(f:o.op=.call {callee:=.value (.func 10),args:=#[x,y],argTypes:=ats})(d:bh K x (k8 t))(b:bh K y (k8 t))(ht:t.length<9000000000000000000)(hc:∀c∈t,Es c)(hn:∀c∈t,c.dk.length<9000000000000000000):bF (ae prog true) N K o (dV true):=Ka f Wb d b λv a w h i=>by refine(ayT t ht hc hn v a w h i).mono ?_;rintro e w' ⟨r,rfl,rfl,g⟩;exact⟨_,Y,Y,g⟩
def V2{t:List aG}{want:uaa}(i:o.op=.call {callee:=.value (.func 11),args:=#[x,y],argTypes:=ats})(d:bh K x (k8 t))(b:bh K y (dO 1 lS (kE want)))(ht:t.length<=1000)(hs:∀c∈t,∀s∈c.eF,s.size<=1000)(f:∀c∈t,∀j∈want,Eu c j)(k:want.length<=1000):bF (ae prog true) N K o (k8 (A1 t want)):=Ka i V8 d b λv a w h m=>by refine(WN t want ht hs f k v a w h m).mono ?_;rintro e w' ⟨r,rfl,g,l⟩;exact⟨_,Y,g,l⟩
def mR{v:Value}{t:List aG}(a:o.op=.load 27 x)(c:bh K x (sQ v (eD t))):bF (ae prog true) N K o (k8 t):=eb c λev w h=>by obtain⟨b,e,bq,f,d⟩:=PK h.2;exact⟨.agg #[bq],w,BB,⟨bq,Y,d⟩,vaa _ _⟩
def V9{n:Int}(a:o.op=.buildSlice 31 1 #[(0,x)])(b:bh K x (a5 n)):bF (ae prog true) N K o (zl [.I n]):=eb b λev w h=>by
 have e:ev x=.I n:=h;refine⟨.S w.heap.size 0 1 1,w.alloc (.cells #[.I n] 3),?_,⟨w.heap.size,1,Y,λj v c=>?_⟩,(vaa _ w).alloc JT _⟩
 .cases o;simp only at a;subst a;go_simp
 .rw[(ai.new w _ _).rules.1];simpa using c
end
def V_(k:Nat):bb:=Ut [.I 1,.I (k:Int),.I 0,.N,.N,.N,.N] (by
 intro x hx
 simp at hx
 rcases hx with rfl|rfl|rfl|rfl<;>first|exact .int _ _ |exact .nil _ _)
def VV(k:Nat)(w:aS)(v:Value):Prop:=∃kb kc ob cx,v=.agg [.I 4,.I 0,.I 1,.N,.S kb 0 1 kc,.S ob 0 1 cx,.N].toArray/\w.cell? (.a kb 0)=some (.I k)/\w.cell? (.a ob 0)=some (.I k)
def mN(k:Nat):bb:=⟨VV k,λw w' v hb⟨kb,kc,ob,cx,e,h1,h2⟩=>⟨kb,kc,ob,cx,e,bo.bX hb _ _ _ h1,bo.bX hb _ _ _ h2⟩,λ_=>True,λn _ ρ w w' v v' hc hv⟨kb,kc,ob,cx,e,h1,h2⟩=>by
 subst e
 obtain⟨l',rfl,q⟩:=sK hv
 cases q with
 |cons k1 q=>cases q with
  |cons k2 q=>cases q with
   |cons k3 q=>cases q with
    |cons k4 q=>cases q with
     |cons dG q=>cases q with
      |cons ie q=>cases q with
       |cons mh q=>
        cases q
        obtain⟨Ko,eO,tN⟩:=wQ dG
        obtain⟨Kp,gI,wG⟩:=wQ ie
        subst eO
        subst gI
        obtain⟨tl,dz,bt⟩:=hc.cells.cell ⟨kb,0,none⟩ ⟨Ko,0,none⟩ _ ⟨tN,Y,Y⟩ h1
        obtain⟨In,jw,ea⟩:=hc.cells.cell ⟨ob,0,none⟩ ⟨Kp,0,none⟩ _ ⟨wG,Y,Y⟩ h2
        rw[hO bt]at dz
        rw[hO ea]at jw
        rw[hO k1,hO k2,hO k3,om k4,om mh]
        exact⟨Ko,kc,Kp,cx,Y,dz,jw⟩⟩
section
variable{N:Nat}{K:bL}{o:Oper}{F:bb}{x y z:uar}{ats:uaq}
def mG{k:Nat}(c:o.op=.call {callee:=.value (.func 5),args:=#[x],argTypes:=ats})(b:bh K x (a5 (k:Int))):bF (ae prog true) N K o (V_ k):=J_ c (λa w=>atm a w) b λv w h=>by cases h;refine(atq k w).mono ?_;rintro e w' ⟨rfl,d⟩;exact⟨_,Y,Y,d⟩
def VR{k:Nat}(b:o.op=.build 34 #[(0,.const (.I 4)),(1,.const (.I 0)),(2,.const (.I 1)),(4,x),(5,y)])(g:bh K x (zl [.I (k:Int)]))(f:bh K y (zl [.I (k:Int)])):bF (ae prog true) N K o (mN k):=λa w hk=>by obtain⟨kb,kc,i,c⟩:=hk.ev g;obtain⟨ob,d,h,e⟩:=hk.ev f;refine .inl ⟨.agg #[.I 4,.I 0,.I 1,.N,.S kb 0 1 kc,.S ob 0 1 d,.N],w,?_,⟨kb,kc,ob,d,Y,c 0 _ Y,e 0 _ Y⟩,vaa _ _⟩;clear c e;have m:a.eval (.const (.I 4))=.I 4:=rfl;have l:a.eval (.const (.I 0))=.I 0:=rfl;have j:a.eval (.const (.I 1))=.I 1:=rfl;generalize a.eval=ev at m l j i h⊢;cases o;simp only at b;subst b;go_simp
def VQ{k:Nat}(f:o.op=.buildSlice 36 3 #[(0,x),(1,y),(2,z)])(p:bh K x (V_ 0))(n:bh K y (V_ 0))(m:bh K z (mN k)):bF (ae prog true) N K o (qN (k:Int)):=λa w hk=>by
 have d:=hk.ev p;have c:=hk.ev n;obtain⟨kb,kc,ob,e,q,h,l⟩:=hk.ev m;unfold yf;have HC:Hid _:=And.intro h l;clear h l;generalize a.eval=ev at d c q⊢;have d:ev x=.agg #[.I 1,.I 0,.I 0,.N,.N,.N,.N]:=d;have c:ev y=.agg #[.I 1,.I 0,.I 0,.N,.N,.N,.N]:=c;have g:cJ w (w.alloc (.cells #[.I 1,.I 0,.I 0,.N,.N,.N,.N,.I 1,.I 0,.I 0,.N,.N,.N,.N,.I 4,.I 0,.I 1,.N,.S kb 0 1 kc,.S ob 0 1 e,.N] 34)):=(vaa _ w).alloc JT _;have c8:=ai.new w #[.I 1,.I 0,.I 0,.N,.N,.N,.N,.I 1,.I 0,.I 0,.N,.N,.N,.N,.I 4,.I 0,.I 1,.N,.S kb 0 1 kc,.S ob 0 1 e,.N] 34;have i:=bo.bX g;refine .inl ⟨.S w.heap.size 0 3 3,_,by cases o;simp only at f;subst f;go_simp,⟨w.heap.size,0,3,kb,0,ob,0,kc,e,Y,λj u b=>?_,λj u b=>?_,λj u b=>?_,i _ _ _ HC.out.1,i _ _ _ HC.out.2⟩,g⟩;all_goals
  rw[c8.rules.1];match j,b with|0,b|1,b|2,b|3,b|4,b|5,b|6,b=>exact b|j+7,b=>simp[kx]at b
def VP{b:List aG}(d:o.op=.buildSlice 29 1 #[(0,x)])(j:bh K x (k8 b)):bF (ae prog true) N K o (qM [b]):=λa w hk=>by obtain⟨bq,k,c⟩:=hk.ev j;obtain⟨⟨f,g,rfl,-,-⟩,-⟩:=id c;have e:cJ w (w.alloc (.cells #[.slice f b.length g] 27)):=(vaa _ w).alloc JT _;have c8:=ai.new w #[.slice f b.length g] 27;have h:Hid _:=c;clear c;unfold yf;generalize a.eval=ev at k⊢;refine .inl ⟨.S w.heap.size 0 1 1,_,by cases o;simp only at d;subst d;go_simp,⟨_,1,Y,Ad,λi hi=>⟨w.heap.size,0,Y,?_⟩⟩,e⟩;obtain rfl:i=0:=IL;exact⟨_,c8.rules.1 0,(ke.kept (AM e) h.out).iM⟩
end
def Vt{P:b4}{t e:g4}{z:Value}{bytes:Nat}(E:py P t e z 1 bytes){ops:eY}{N i d1 j h sv:Nat}{d o2:Oper}{K:bL}{a:Act}{w:aS}{rest:uaa}{Q:uai}(q:ops[i]?=some d)(p:ops[i+1]?=some o2)(g1:d.guard=none)(D:o2.guard=none)(u:d.dst=some d1)(y:o2.dst=some sv)(o:d.op=.call {callee:=.builtin .append,args:=#[.tmp j,.tmp h],argTypes:=#[t,t]})(M:o2.op=.assign (.tmp d1))(hs:d1<N/\sv<N)(hk:af N K a w){v x:Value}(H:K j=some (e8 v))(F:K h=some (zl [x])){B n:Nat}{xs:uad}(I:w.ownsRow B e 1 v n xs)(S:x.oneCell'=true)(hn:n+1<=1000000)(A:bytes<=1000)(C:B<=w.heap.size)(k:∀a' w1 b,w1.ownsRow B e 1 b (n+1) (xs++[x])->w.grownBy w1 v.ownBlock->(b.ownBlock=v.ownBlock\/b.ownBlock=some w.heap.size)->a'.tmps[sv]?=some b->(∀s,s≠d1->s≠sv->a'.tmps[s]?=a.tmps[s]?)->a'.tmps.size=N->a'.defers=a.defers->wpOps P ops Q rest a' w1):wpOps P ops Q (i::(i+1)::rest) a w:=by
 obtain⟨v0,J,rfl⟩:=hk.has j _ H;obtain⟨u2,L,g,c,rfl,O⟩:=hk.has h _ F;refine kh (R:=λa1 w1=>∃b,a1=a.put (some d1) b/\w1.ownsRow B e 1 b (n+1) (xs++[x])/\w.grownBy w1 v0.ownBlock/\(b.ownBlock=v0.ownBlock\/b.ownBlock=some w.heap.size)) (nz E q g1 u o (d_ J) I (d_ L) Y O AA hn A C λb w' r1 m l=>⟨b,Y,r1,m,l⟩) ?_;rintro a1 w1 ⟨b,rfl,r1,m,l⟩;refine kh (R:=λr f=>r=(a.put (some d1) b).put (some sv) b/\f=w1) (rD p D y (v:=b) (w1:=w1) ?_ ⟨Y,Y⟩) ?_
 .have:=d_ (a:=a.put (some d1) b) (t:=d1) (mY (by rw[hk.size];grind));simp_all[execOp]
 rintro r f ⟨rfl,rfl⟩;exact k _ f b r1 m l (mY (by rw[iS,hk.size];grind)) (λs q p=>(fY (Ne.symm p)).trans (fY (Ne.symm q))) (by rw[iS,iS];exact hk.size) GX
def s4(l:uaa):List Value:=l.map λ(j:Nat)=>.I (j:Int)
def U3(l:uaa)(i:Nat):s4 (l++[i])=s4 l++[.I (i:Int)]:=by simp[s4]
def p6(p:ubh)(n i j:Nat):List (Nat×Nat):=qT p i n++((List.range j).filter (p i)).map λx=>(i,x)
def U2(p:ubh)(n i:Nat):p6 p n i 0=qT p i n:=by simp[p6]
def mo(p:ubh)(n i:Nat):p6 p n i n=qT p (i+1) n:=by simp[p6,qT,vcq]
def YM(p:ubh)(n i j:Nat):p6 p n i (j+1)=if p i j then p6 p n i j++[(i,j)]else p6 p n i j:=by simp only[p6,vcq,List.filter_append,vcr];split<;>simp_all
theorem Wa(p:ubh)(n:Nat):∀i,(qT p i n).length<=i*n
 |0=>by simp[qT]
 |i+1=>by have b:=Wa p n i;have a:=List.length_filter_le (p i) (List.range n);rw[List.length_range]at a;rw[<-mo,p6,vbg,vcf,Nat.succ_mul];omega
def YB{p:ubh}{n i j:Nat}(hi:i<=40)(b:j<=40)(hn:n<=40):(p6 p n i j).length<=2000:=by have c:=Wa p n i;have a:=List.length_filter_le (p i) (List.range j);rw[List.length_range]at a;rw[p6,vbg,vcf];have:i*n<=40*40:=Nat.mul_le_mul hi hn;omega
section
variable{N:Nat}{K:bL}{o:Oper}{x y:uar}{T T':g4}{m n:Int}
def mm(a:o.op=.binOp .leq T x y T')(c:bh K x (a5 m))(b:bh K y (a5 n))(d:rN T):bF (ae prog true) N K o (dV (decide (m<=n))):=y_ c b (λ_=>Y) λev w f e=>by rcases d with rfl|rfl<;>(cases o;simp only at a;subst a;go_simp)
def Yw(c:o.op=.binOp .leq T x y T')(b:bh K x (a5 m))(a:bh K y (a5 n))(d:rN T)(h:m<=n):bF (ae prog true) N K o (dV true):=by have:=mm (N:=N) c b a d;rwa[decide_eq_true h]at this
def Yu(c:o.op=.binOp .leq T x y T')(b:bh K x (a5 m))(a:bh K y (a5 n))(d:rN T)(h:¬m<=n):bF (ae prog true) N K o (dV false):=by have:=mm (N:=N) c b a d;rwa[decide_eq_false h]at this
def mb(c:o.op=.binOp .eql T x y T')(b:bh K x (a5 m))(a:bh K y (a5 n))(d:rN T)(h:m=n):bF (ae prog true) N K o (dV true):=by have:=w9 (N:=N) c b a d;rwa[h,beq_self_eq_true]at this
def Yd(a:o.op=.binOp .neq 41 x y T')(c:bh K x (a5 m))(b:bh K y (a5 m)):bF (ae prog true) N K o (dV false):=y_ c b (λ_=>Y) λev w e d=>by cases o;simp only at a;subst a;go_simp
end
def s5(l:eY){l':eY}(e:l=l':=by simp only[av,pa,Tryz.f12,vae,Nat.reduceBEq,vah,↓reduceIte];exact rfl):l=l':=e
def KZ(F:Func):Code:=.seq (.seq (.region 6 (av F 6) false) (.cond (.tmp 15) .skip (.exit 2))) (.seq (.block 3 (.seq (.region 8 (av F 8) true) (.cond (.tmp 56) (.region 9 (av F 9) false) .skip))) (.region 7 (av F 7) false))
def K0(F:Func):Code:=.seq (.seq (.region 3 (av F 3) false) (.cond (.tmp 9) .skip (.exit 0))) (.seq (.block 1 (.seq (.region 5 (av F 5) false) (.block 2 (.loop (KZ F))))) (.region 4 (av F 4) false))
theorem X_:Tryz.f12.body=some (.seq (.region 0 (av Tryz.f12 0) false) (.seq (.region 1 (av Tryz.f12 1) false) (.seq (.seq (.region 2 (av Tryz.f12 2) false) (.block 0 (.loop (K0 Tryz.f12)))) (.seq (.region 10 (av Tryz.f12 10) false) .ret)))):=by kernel_rfl
structure Ew(t:List aG)(c:aG)(n:Nat):Prop where
 h0:0<t.length
 hn:t[0].dk.length=n
 hc:t[0]?=some c
 Hk:c.dk.length=n
 Hj:c.fU.length=n
 Hi:c.kind≠3
 le:n<=40
def Hn(t:List aG)(m i:Nat):List (Nat×bb):=[(1,eD t),(3,a5 m),(4,a5 i)]
section
variable{t:List aG}{c:aG}{n i:Nat}{B:Nat}{rU:aS}{ks ks':il}{Q:uag}
def X7(C:Ew t c n){j m:Nat}(hi:i<n)(y:j<n)(x:m<=10000){a:Act}{w:aS}(hk:af 60 (a2 ((5,a5 j)::Hn t m i)) a w)(kk:∀a' w',cJ w w'->af 60 (a2 ((5,a5 j)::Hn t (if jO c c i j then m+1 else m) i)) a' w'->a'.defers=a.defers->bI (ae prog true) ks ks' Q a' w'):bI (ae prog true) (.code (.seq (.region 8 (av Tryz.f12 8) true) (.cond (.tmp 56) (.region 9 (av Tryz.f12 9) false) .skip))::ks) ks' Q a w:=by
 have d:=getD_some (show i<c.dk.length by have:=C.Hk;omega) false;have h:=getD_some (show j<c.dk.length by have:=C.Hk;omega) false;have v:=getD_some (show i<c.fU.length by have:=C.Hj;omega) 0;have k:=getD_some (show j<c.fU.length by have:=C.Hj;omega) 0;refine bm ?_;rw[s5 (av Tryz.f12 8)];cases g:c.dk.getD i false with
 |true=>
  rw[g]at d;have e:jO c c i j=false:=by unfold jO;rw[g];rfl
  rw[e]at kk;refine wR (m:=39) hk (dq Y Kh<|dq Y JV<|dq Y (ee (i:=0) Y Y Jd C.hc AX)<|dq Y KM<|dq Y JV<|dq Y JU<|dq Y (ee Y Y Y d AX)<|dq Y KP<|dq Y (AC Y Y)<|dq Y JU<|dv Y<|dv Y<|dv Y<|dv Y<|dv Y<|dv Y<|dv Y<|dv Y<|dv Y<|dq Y (ki (F:=dV false) Y Y Jd)<|dq Y JU<|dv Y<|dv Y<|dv Y<|dv Y<|dv Y<|dv Y<|dv Y<|dv Y<|dv Y<|dv Y<|dv Y<|dv Y<|dv Y<|dv Y<|dv Y<|dv Y<|dv Y<|dq Y (ki (F:=dV false) Y Y Jd)<|rfl) Y xn AJ λa1 w1 b d1 b1=>⟨Y,fj (t:=false) (j0 b Y) (lN (kk a1 w1 b1 (b.aU ⟨Y,Y,Y,Y,PJ⟩) d1))⟩
 |false=>
  rw[g]at d;cases f:c.dk.getD j false with
  |true=>
   rw[f]at h;have e:jO c c i j=false:=by unfold jO;rw[f];simp only[vef,Bool.and_false,Bool.false_and]
   rw[e]at kk;refine wR (m:=39) hk (dq rfl (sY rfl rfl)<|dq rfl (ck rfl rfl (eX _) AX)<|dq rfl (ee (i:=0) rfl rfl Jd C.hc AX)<|dq rfl (hP rfl rfl AX rO)<|dq rfl (ck rfl rfl (eX _) AX)<|dq rfl (bf rfl rfl)<|dq rfl (ee rfl rfl rfl d AX)<|dq rfl (ck rfl rfl (w_ _) AX)<|dq rfl (AC rfl rfl)<|dq rfl (bf rfl rfl)<|cG rfl (sY rfl rfl)<|cG rfl (ck rfl rfl (eX _) AX)<|cG rfl (ee (i:=0) rfl rfl Jd C.hc AX)<|cG rfl (hP rfl rfl AX rO)<|cG rfl (ck rfl rfl (eX _) AX)<|cG rfl (bf rfl rfl)<|cG rfl (ee rfl rfl rfl h AX)<|cG rfl (ck rfl rfl (w_ _) AX)<|cG rfl (AC rfl rfl)<|dq rfl (ki (F:=dV false) rfl rfl rfl)<|dq rfl (bf rfl rfl)<|dv Y<|dv Y<|dv Y<|dv Y<|dv Y<|dv Y<|dv Y<|dv Y<|dv Y<|dv Y<|dv Y<|dv Y<|dv Y<|dv Y<|dv Y<|dv Y<|dv Y<|dq rfl (ki (F:=dV false) rfl rfl Jd)<|rfl) rfl xn AJ λa1 w1 b d1 b1=>⟨Y,fj (t:=false) (j0 b rfl) (lN (kk a1 w1 b1 (b.aU ⟨Y,Y,Y,Y,PJ⟩) d1))⟩
  |false=>
   rw[f]at h;have e:jO c c i j=(c.fU.getD i 0==c.fU.getD j 0):=by unfold jO;rw[g,f,vbq C.Hi];simp
   rw[e]at kk;refine wR (m:=39) hk (dq rfl (sY rfl rfl)<|dq rfl (ck rfl rfl (eX _) AX)<|dq rfl (ee (i:=0) rfl rfl Jd C.hc AX)<|dq rfl (hP rfl rfl AX rO)<|dq rfl (ck rfl rfl (eX _) AX)<|dq rfl (bf rfl rfl)<|dq rfl (ee rfl rfl rfl d AX)<|dq rfl (ck rfl rfl (w_ _) AX)<|dq rfl (AC rfl rfl)<|dq rfl (bf rfl rfl)<|cG rfl (sY rfl rfl)<|cG rfl (ck rfl rfl (eX _) AX)<|cG rfl (ee (i:=0) rfl rfl Jd C.hc AX)<|cG rfl (hP rfl rfl AX rO)<|cG rfl (ck rfl rfl (eX _) AX)<|cG rfl (bf rfl rfl)<|cG rfl (ee rfl rfl rfl h AX)<|cG rfl (ck rfl rfl (w_ _) AX)<|cG rfl (AC rfl rfl)<|dq rfl (ki (F:=dV true) rfl rfl rfl)<|dq rfl (bf rfl rfl)<|cG rfl (sY rfl rfl)<|cG rfl (ck rfl rfl (eX _) AX)<|cG rfl (ee (i:=0) rfl rfl Jd C.hc AX)<|cG rfl (hP rfl rfl AX za)<|cG rfl (ck rfl rfl (eX _) AX)<|cG rfl (bf rfl rfl)<|cG rfl (ee rfl rfl rfl v AX)<|cG rfl (ck rfl rfl (lr _) AX)<|cG rfl (sY rfl rfl)<|cG rfl (ck rfl rfl (eX _) AX)<|cG rfl (ee (i:=0) rfl rfl Jd C.hc AX)<|cG rfl (hP rfl rfl AX za)<|cG rfl (ck rfl rfl (eX _) AX)<|cG rfl (bf rfl rfl)<|cG rfl (ee rfl rfl rfl k AX)<|cG rfl (ck rfl rfl (lr _) AX)<|cG rfl (w9 rfl rfl rfl AX)<|dq rfl (ki rfl rfl rfl)<|rfl) rfl xn AJ λa1 w1 b d1 b1=>⟨Y,?_⟩;cases o:(c.fU.getD i 0==c.fU.getD j 0)with|false=>rw[o]at b kk;exact fj (t:=false) (j0 b rfl) (lN (kk a1 w1 b1 (b.aU ⟨Y,Y,Y,Y,PJ⟩) d1))|true=>rw[o]at b kk;refine fj (t:=true) (j0 b rfl) ?_;rw[s5 (av Tryz.f12 9)];refine cD b Jr λs p l r u=>kk s p (b1.trans (u.mono b1.size)) ?_ (r.trans d1);have q:((m:Int)+1)=((m+1:Nat):Int):=AP;rw[q]at l;exact l.aU ⟨Y,Y,Y,Y,PJ⟩
def X6(C:Ew t c n)(hi:i<n)(f:B<=rU.heap.size)(kk:∀a' w',Below B rU w'->af 60 (a2 (Hn t (p6 (jO c c) n i n).length i)) a' w'->a'.defers=[]->bI (ae prog true) ks ks' Q a' w'):
 ∀m j a w,j+m=n->Below B rU w->af 60 (a2 ((5,a5 j)::Hn t (p6 (jO c c) n i j).length i)) a w->a.defers=[]->bI (ae prog true) (.code (KZ Tryz.f12):: .inLoop (KZ Tryz.f12):: .inBlock 2::ks) ks' Q a w:=by
 intro m;induction m with
 |zero=>intro j a w D d hk hd;obtain rfl:j=n:=AP;unfold KZ;refine bm (bm ?_);rw[s5 (av Tryz.f12 6)];refine cD hk (aq Y JU<|aq Y Kc<|aq Y (vM Y Y C.h0 C.hn)<|aq Y (vE Y Y Y AX AP)<|rfl) λa1 w1 b d1 b1=>?_;exact fj (t:=false) (j0 b Y) (va (rz:=ks) D2 (kk a1 w1 (d.trans (b1.mono (vad f d.size))) (b.aU ⟨Y,Y,Y,PJ⟩) (d1.trans hd)))
 |succ m r=>
  intro j a w D d hk hd;have u:j<n:=AP;have s:=YB (p:=jO c c) (n:=n) (i:=i) (j:=j) (by have:=C.le;omega) (by have:=C.le;omega) C.le;unfold KZ;refine bm (bm ?_);rw[s5 (av Tryz.f12 6)];refine cD hk (aq Y JU<|aq Y Kc<|aq Y (vM Y Y C.h0 C.hn)<|aq Y (zb Y Y Y AX AP)<|rfl) λa1 w1 b d1 b1=>?_;refine fj (t:=true) (j0 b Y) (lN (bm (ln ?_)));have h:=d.trans (b1.mono (vad f d.size));refine X7 C hi u AP (b.aU ⟨Y,Y,Y,Y,PJ⟩) λF E A q x=>tT ?_;have l:=h.trans (A.mono (vad f h.size));rw[s5 (av Tryz.f12 7)];refine cD q (aq Y JU<|aq Y (nL Y Y Jd (by unfold cT;have:=C.le;omega) AX)<|aq Y Jq<|rfl) λy o k v z=>wN ?_;have e:((j:Int)+1)=((j+1:Nat):Int):=AP;have g:(if jO c c i j then(p6 (jO c c) n i j).length+1 else(p6 (jO c c) n i j).length)=(p6 (jO c c) n i (j+1)).length:=by rw[YM];split<;>simp
  rw[e,g]at k;exact r (j+1) y o AP (l.trans (z.mono (vad f l.size))) (k.aU ⟨Y,Y,Y,Y,PJ⟩) (v.trans (x.trans (d1.trans hd)))
def XV(C:Ew t c n)(f:B<=rU.heap.size)(kk:∀a' w',Below B rU w'->af 60 (a2 (Hn t (qT (jO c c) n n).length n)) a' w'->a'.defers=[]->bI (ae prog true) ks ks' Q a' w'):
 ∀m i a w,i+m=n->Below B rU w->af 60 (a2 (Hn t (qT (jO c c) i n).length i)) a w->a.defers=[]->bI (ae prog true) (.code (K0 Tryz.f12):: .inLoop (K0 Tryz.f12):: .inBlock 0::ks) ks' Q a w:=by
 intro m;induction m with
 |zero=>intro i a w A d hk hd;obtain rfl:i=n:=AP;unfold K0;refine bm (bm ?_);rw[s5 (av Tryz.f12 3)];refine cD hk (aq Y JU<|aq Y Kc<|aq Y (vM Y Y C.h0 C.hn)<|aq Y (vE Y Y Y AX AP)<|rfl) λa1 w1 b d1 b1=>?_;exact fj (t:=false) (j0 b Y) (va (rz:=ks) D2 (kk a1 w1 (d.trans (b1.mono (vad f d.size))) (b.aU ⟨Y,Y,Y,PJ⟩) (d1.trans hd)))
 |succ m q=>intro i a w A d hk hd;unfold K0;refine bm (bm ?_);rw[s5 (av Tryz.f12 3)];refine cD hk (aq Y JU<|aq Y Kc<|aq Y (vM Y Y C.h0 C.hn)<|aq Y (zb Y Y Y AX AP)<|rfl) λa1 w1 b d1 b1=>?_;refine fj (t:=true) (j0 b Y) (lN (bm (ln (bm ?_))));have h:=d.trans (b1.mono (vad f d.size));rw[s5 (av Tryz.f12 5)];refine cD b (aq Y (df (F:=a5 ((0:Nat):Int)) Y Jd)<|rfl) λx l p v z=>ln (wM ?_);have r:=h.trans (z.mono (vad f h.size));refine X6 (i:=i) C AP f (λE D g o u=>tT ?_) n 0 x l (vbm _) r (by rw[U2];exact p.aU ⟨Y,Y,Y,Y,PJ⟩) (v.trans (d1.trans hd));rw[s5 (av Tryz.f12 4)];refine cD o (aq Y JU<|aq Y (nL Y Y Jd (by unfold cT;have:=C.le;omega) AX)<|aq Y Jq<|rfl) λy k j s a8=>wN ?_;have e:((i:Int)+1)=((i+1:Nat):Int):=AP;rw[e,mo]at j;exact q (i+1) y k AP (g.trans (a8.mono (vad f g.size))) (j.aU ⟨Y,Y,Y,PJ⟩) (s.trans u)
end
def XM{t:List aG}{c:aG}{n:Nat}(C:Ew t c n)(v:Value)(w:aS)(h:ub t w v):Calls (ae prog true) 12 #[v] w λe w'=>∃r,e=.returned r/\(a5 ((qT (jO c c) n n).length:Int)).R w' r/\cJ w w':=by
 refine VY (ks:=[]) (bw (upd:=true) func12 AJ) X_ ?_;have hk:af 60 (a2 [(0,k8 t)]) ⟨#[v]++Array.replicate (Tryz.f12.ntmps-(#[v]:dp).size) undef,[]⟩ w:=Uy (l:=[v]) Ad BJ λp f=>by simp at f;rcases f with rfl;exact⟨_,Y,h⟩
 have hd:(⟨#[v]++Array.replicate (Tryz.f12.ntmps-(#[v]:dp).size) undef,[]⟩:Act).defers=[]:=rfl;generalize(⟨#[v]++Array.replicate (Tryz.f12.ntmps-(#[v]:dp).size) undef,[]⟩:Act)=a at hk hd;refine bm ?_;rw[s5 (av Tryz.f12 0)];refine cD hk (aq Y (VX Y Y)<|aq Y (df (F:=a5 0) Y Jd)<|rfl) λa1 w1 o d1 b1=>bm ?_;rw[s5 (av Tryz.f12 1)];refine cD o (aq Y (df (F:=a5 ((0:Nat):Int)) Y Jd)<|rfl) λL J m A H=>bm (bm ?_);rw[s5 (av Tryz.f12 2)];refine cD m (aq Y (df (F:=a5 ((0:Nat):Int)) Y Jd)<|rfl) λD g k z E=>ln (wM ?_);have d:=b1.trans (H.mono b1.size);have i:=d.trans (E.mono d.size);refine XV C (rU:=w) (B:=w.heap.size) JT (λM I b j y=>bm ?_) n 0 D g (vbm _) i (by exact k.aU ⟨Y,Y,Y,PJ⟩) (z.trans (A.trans (d1.trans hd)));rw[s5 (av Tryz.f12 10)];refine cD j (aq Y JU<|aq Y Jq<|rfl) λK er s x bt=>kf ⟨x.trans y,.I ((qT (jO c c) n n).length:Int),?_,Y,b.trans (bt.mono b.size)⟩;obtain⟨u,q,rfl⟩:=s.has 2 (a5 _) Y;simp[results,results12,go_sem,q]
def XL(a:dp)(w:aS):Sem.run (ae prog true) (callFunc 12 a) w=.ok (.enter 12 a) w:=c0 (bw (upd:=true) func12 AJ) AJ a w
def XK{N:Nat}{K:bL}{o:Oper}{x:uar}{ats:uaq}{t:List aG}{c:aG}{n:Nat}(C:Ew t c n)(b:o.op=.call {callee:=.value (.func 12),args:=#[x],argTypes:=ats})(a:bh K x (k8 t)):bF (ae prog true) N K o (a5 ((qT (jO c c) n n).length:Int)):=J_ b XL a λv w h=>XM C v w h
def j1(l:eY){l':eY}(e:l=l':=by simp only[av,pa,Tryz.f3,vae,Nat.reduceBEq,vah,↓reduceIte];exact rfl):l=l':=e
def K2(F:Func):Code:=.seq (.region 22 (av F 22) false) .ret
def K3(F:Func):Code:=.seq (.seq (.region 15 (av F 15) false) (.cond (.tmp 85) .skip (.exit 2))) (.seq (.block 3 (.region 17 (av F 17) false)) (.region 16 (av F 16) false))
def lU(F:Func):Code:=.seq (.seq (.region 19 (av F 19) false) (.cond (.tmp 107) (.seq (.region 20 (av F 20) false) .ret) .skip)) (.region 21 (av F 21) false)
def K4(F:Func):Code:=.seq (.region 13 (av F 13) false) (.seq (.seq (.region 14 (av F 14) false) (.block 2 (.loop (K3 F)))) (.seq (.region 18 (av F 18) true) (lU F)))
def Ho(F:Func):Code:=.seq (.seq (.region 10 (av F 10) false) (.cond (.tmp 53) .skip (.exit 0))) (.seq (.block 1 (.seq (.region 12 (av F 12) true) (K4 F))) (.region 11 (av F 11) false))
def lC(F:Func):Code:=.seq (.region 7 (av F 7) false) (.seq (.region 8 (av F 8) false) (.seq (.seq (.region 9 (av F 9) false) (.block 0 (.loop (Ho F)))) (K2 F)))
def K5(F:Func):Code:=.seq (.seq (.region 5 (av F 5) false) (.cond (.tmp 46) (.seq (.region 6 (av F 6) false) .ret) .skip)) (lC F)
def PW(F:Func):Code:=.seq (.region 2 (av F 2) false) (.seq (.region 3 (av F 3) false) (.seq (.region 4 (av F 4) false) (K5 F)))
theorem lA:Tryz.f3.body=some (.seq (.region 0 (av Tryz.f3 0) false) (.seq (.region 1 (av Tryz.f3 1) false) (PW Tryz.f3))):=by kernel_rfl
abbrev Hp(t:List aG)(z x' y':Int):List (Nat×bb):=[(1,a5 z),(7,mF x' y'),(9,eD t),(10,qM [t]),(11,qN ((0:Nat):Int))]
abbrev p7(t all:List aG)(c:Nat)(x' y':Int)(g3 fr:Nat):List (Nat×bb):=[(7,mF x' y'),(9,eD t),(10,qM [t]),(11,qN ((0:Nat):Int)),(12,eD all),(14,a5 c),(15,a5 g3),(16,a5 fr)]
abbrev xo(F:Func):List Item:=[.code (Ho F),.inLoop (Ho F),.inBlock 0,.code (K2 F)]
abbrev Hq(F:Func):List Item:=[.code (K4 F),.inBlock 1,.code (.region 11 (av F 11) false),.inLoop (Ho F),.inBlock 0,.code (K2 F)]
section
variable{t all:List aG}{z x y x' y':Int}{a:Act}{w:aS}
def XH(hd:a.defers=[])(hk:af 122 (a2 [(1,a5 z),(6,mF x y),(7,mF x' y'),(24,k8 t)]) a w):
 bI (ae prog true) [.R (av Tryz.f3 1) [2,3],.code (PW Tryz.f3)] [.R (av Tryz.f3 4) (3::List.range' 4 6),.code (K5 Tryz.f3)] (λa1 w1=>a1.defers=[]/\af 122 (a2 ((34,xg x y)::(35,qM [t])::(36,qN ((0:Nat):Int))::Hp t z x' y')) a1 w1/\cJ w w1) a w:=by
 rw[j1 (av Tryz.f3 1)];refine ye (oh (i:=2) Y Y Y Y Y hk Y Y Y Y AX AX λa1 w1 g d1 b1=>rE ?_);unfold PW;refine bm ?_;rw[j1 (av Tryz.f3 2)];refine cD g (aq Y Kc<|aq Y (VP Y Y)<|aq Y Jq<|rfl) λu r f l o=>bm ?_;rw[j1 (av Tryz.f3 3)];refine cD f (aq Y (mG (k:=0) Y Jd)<|aq Y (mG (k:=0) Y Jd)<|aq Y (V9 (n:=((0:Nat):Int)) Y Jd)<|aq Y (V9 (n:=((0:Nat):Int)) Y Jd)<|aq Y (VR (k:=0) Y Y Y)<|aq Y (VQ Y Y Y Y)<|aq Y Jq<|rfl) λs q e j m=>bm (sI ?_);rw[j1 (av Tryz.f3 4)];refine(show bI _ (.R _ (List.range' 0 (3+7))::_) _ _ _ _ from rP e (aq Y (Zk Y Y)<|aq Y JU<|aq Y JU<|rfl) AX λv p d h a8=>kf ⟨h.trans (j.trans (l.trans (d1.trans hd))),d.aU ⟨Y,Y,Y,Y,Y,Y,Y,Y,PJ⟩,?_⟩);have c:=b1.trans (o.mono b1.size);have b:=c.trans (m.mono c.size);exact b.trans (a8.mono b.size)
def XG{c:Nat}(ht:0<all.length)(B:cT z)(hc:(1:Int)+lR z 40=(c:Int))(hd:a.defers=[])(hk:af 122 (up (a2 ((34,xg x y)::(35,qM [t])::(36,qN ((0:Nat):Int))::Hp t z x' y')) 37 (OE all)) a w):
 bI (ae prog true) [.R (av Tryz.f3 4) (List.range' 4 6),.code (K5 Tryz.f3)] (xo Tryz.f3) (λa1 w1=>a1.defers=[]/\af 122 (a2 (p7 t all c x' y' 0 0)) a1 w1/\cJ w w1) a w:=by
 have O:=rL z (n:=40) AP;rw[j1 (av Tryz.f3 4)];refine(show bI _ (.R _ (List.range' 4 (3+3))::_) _ _ _ _ from rP hk (aq Y JU<|aq Y (Zj Y Y)<|aq Y (Zf Y Y)<|rfl) AX λa1 w1 u d1 b1=>ye (oh (i:=7) Y Y Y Y Y u Y Y Y Y AX AX λp q g K M=>?_));obtain⟨v39,d,b⟩:=g.has 39 (dV true) Y;refine kh (R:=λa' w'=>a'=p.put (some 13) v39/\q=w') (rD (v:=v39) Y Y Y (GL Y (d_ d) _) ⟨Y,Y⟩) ?_;rintro L _ ⟨l,rfl⟩;have f:=g.put (s:=13) (F:=dV true) AX (vaa _ _) b;rw[<-l]at f;have J:L.defers=p.defers:=by rw[l,put_defers]
 refine rE ?_;unfold K5;refine bm (bm ?_);rw[j1 (av Tryz.f3 5)];refine cD f (aq rfl (bf rfl rfl)<|aq rfl (AC rfl rfl)<|aq rfl (bf rfl rfl)<|eV rfl (sZ rfl rfl)<|eV rfl (vM rfl rfl ht rfl)<|eV rfl (vE (n:=0) rfl rfl Jd AX AP)<|aq rfl (ki (F:=dV false) rfl rfl rfl)<|rfl) λV N e I a8=>fj (t:=false) (j0 e rfl) (lN ?_);unfold lC;refine bm ?_;rw[j1 (av Tryz.f3 7)];refine cD e (aq rfl (bf rfl rfl)<|aq rfl (Kz rfl rfl Jd B AX)<|aq rfl (nL rfl Jd rfl Bu AX)<|aq rfl (df rfl rfl)<|rfl) λU er o H bt=>bm ?_;rw[hc]at o;rw[j1 (av Tryz.f3 8)];refine cD o (aq rfl (df (F:=a5 ((0:Nat):Int)) rfl Jd)<|rfl) λS T A E C=>bm (bm ?_);rw[j1 (av Tryz.f3 9)];refine cD A (aq rfl (df (F:=a5 ((0:Nat):Int)) rfl Jd)<|rfl) λQ P r D cK=>ln (wM (kf ⟨D.trans (E.trans (H.trans (I.trans (J.trans (K.trans (d1.trans hd)))))),r.aU ⟨Y,Y,Y,Y,Y,Y,Y,Y,PJ⟩,?_⟩));have m:=b1.trans (M.mono b1.size);have k:=m.trans (a8.mono m.size);have j:=k.trans (bt.mono k.size);have h:=j.trans (C.mono j.size);exact h.trans (cK.mono h.size)
def XF{c g3 fr n:Nat}(ht:0<all.length)(hn:all[0].dk.length=n)(d:fr<=n)(hd:a.defers=[])(hk:af 122 (a2 (p7 t all c x' y' g3 fr)) a w):
 bI (ae prog true) (xo Tryz.f3) (.code (.region 12 (av Tryz.f3 12) true)::Hq Tryz.f3) (λa1 w1=>a1.defers=[]/\af 122 (a2 (p7 t all c x' y' g3 fr)) a1 w1/\cJ w w1) a w:=by
 unfold xo;rw[show Ho Tryz.f3=.seq (.seq (.region 10 (av Tryz.f3 10) false) (.cond (.tmp 53) .skip (.exit 0))) (.seq (.block 1 (.seq (.region 12 (av Tryz.f3 12) true) (K4 Tryz.f3))) (.region 11 (av Tryz.f3 11) false))from Y];refine bm (bm ?_);rw[j1 (av Tryz.f3 10)];refine cD hk (aq Y JU<|aq Y Kc<|aq Y (vM Y Y ht hn)<|aq Y (Yw Y Y Y AX AP)<|rfl) λa1 w1 b d1 b1=>fj (t:=true) (j0 b Y) (lN (bm (ln (bm (kf ⟨d1.trans hd,b.aU ⟨Y,Y,Y,Y,Y,Y,Y,Y,PJ⟩,b1⟩)))))
def Xr{c g3 fr n m:Nat}{d:aG}(C:Ew t d m)(ht:0<all.length)(hn:all[0].dk.length=n)(l:n<fr)(h:g3=n)(j:(qT (jO d d) m m).length=n)(hd:a.defers=[])(hk:af 122 (a2 (p7 t all c x' y' g3 fr)) a w):
 bI (ae prog true) (xo Tryz.f3) [.code .ret] (λa1 w1=>a1.defers=[]/\af 122 (a2 [(8,dV true)]) a1 w1/\cJ w w1) a w:=by
 unfold xo;rw[show Ho Tryz.f3=.seq (.seq (.region 10 (av Tryz.f3 10) false) (.cond (.tmp 53) .skip (.exit 0))) (.seq (.block 1 (.seq (.region 12 (av Tryz.f3 12) true) (K4 Tryz.f3))) (.region 11 (av Tryz.f3 11) false))from Y];refine bm (bm ?_);rw[j1 (av Tryz.f3 10)];refine cD hk (aq Y JU<|aq Y Kc<|aq Y (vM Y Y ht hn)<|aq Y (Yu Y Y Y AX AP)<|rfl) λa1 w1 b d1 b1=>fj (t:=false) (j0 b Y) (va (rz:=[.code (K2 Tryz.f3)]) D2 ?_);unfold K2;refine bm ?_;rw[j1 (av Tryz.f3 22)];refine cD b (aq Y JU<|aq Y Kc<|aq Y (vM Y Y ht hn)<|aq Y (mb Y Y Y AX AP)<|aq Y JU<|eV Y Kc<|eV Y (XK C Y Y)<|eV Y JU<|eV Y (mb Y Y Y AX AP)<|aq Y KL<|aq Y Jq<|rfl) λk i e f g=>kf ⟨f.trans (d1.trans hd),e.aU ⟨Y,PJ⟩,b1.trans (g.mono b1.size)⟩
end
def Xl{W:aS}{B:Nat}{v:Value}{l:uaa}{T:g4}(h:W.ownsRow B T 1 v l.length (s4 l)):(dO 1 lS (kE l)).R W v:=by
 have a:l.length=(s4 l).length:=by simp[s4]
 have b:W.ownsRow B T 1 v (s4 l).length (s4 l):=a▸h;refine x7 (R:=qb) b (by simp[kE,s4]) λi hi rd h0=>?_;simp only[s4,kE,List.getElem_map]at h0⊢;exact h0
def Ex:bb:=⟨Of 0,(AG 0).fZ,λ_=>True,λn _ ρ w w' v v' hc hv h=>wi (n0:=0) ρ w w' v v' ⟨hc.cells,hc.types,λ_ _ _ _=>vav _,hc.inj⟩ hv h⟩
def Xj{N:Nat}{K:bL}{o:Oper}{x:uar}(a:o.op=.fieldAddr 43 x 0)(c:bh K x Ex):bF (ae prog true) N K o (eR lS 0):=eb c λev w h=>by obtain⟨b,e,-,h⟩:=h;exact⟨.P b 0,w,BB,⟨b,0,Y,h.rules.1 0⟩,vaa _ _⟩
structure o8(all:List aG)(n B:Nat)(rU:aS)(s6:Value):Prop where
 eq:B=rU.heap.size
 f12:(eD all).R rU s6
 h0:0<all.length
 hn:all[0].dk.length=n
 le:n<=300
abbrev Hr(v7 v9 v10 v11 v15 v17 v18 v19 s6 s7:Value)(all:List aG)(c fr i:Nat):List (Nat×bb):=[(7,e8 v7),(9,e8 v9),(10,e8 v10),(11,e8 v11),(15,e8 v15),(17,e8 v17),(18,e8 v18),(19,e8 v19),(12,sQ s6 (eD all)),(14,a5 c),(16,a5 fr),(20,e8 s7),(21,a5 i)]
section
variable{all:List aG}{n B c fr:Nat}{rU:aS}{v7 v9 v10 v11 v15 v17 v18 v19 s6:Value}{ks ks':il}{Q:uag}
def Xi(C:o8 all n B rU s6)(hc:c<=40)(b6:fr<=n)(kk:∀a' W f,Below B rU W->W.ownsRow B 3 1 f (List.range' fr (min c (n-fr))).length (s4 (List.range' fr (min c (n-fr))))->af 122 (a2 (Hr v7 v9 v10 v11 v15 v17 v18 v19 s6 f all c fr (fr+min c (n-fr)))) a' W->a'.defers=[]->bI (ae prog true) ks ks' Q a' W):
 ∀m j a W f,j+m=min c (n-fr)->Below B rU W->W.ownsRow B 3 1 f (List.range' fr j).length (s4 (List.range' fr j))->af 122 (a2 (Hr v7 v9 v10 v11 v15 v17 v18 v19 s6 f all c fr (fr+j))) a W->a.defers=[]->bI (ae prog true) (.code (K3 Tryz.f3):: .inLoop (K3 Tryz.f3):: .inBlock 2::ks) ks' Q a W:=by
 have k:=vbr C.eq;have U:=C.le;intro m;induction m with
 |zero=>
  intro j a W f Jx o w hk hd;obtain rfl:j=min c (n-fr):=AP;unfold K3;refine bm (bm ?_);rw[j1 (av Tryz.f3 15)];have dK:∀a1 w1,af 122 (a2 (Hr v7 v9 v10 v11 v15 v17 v18 v19 s6 f all c fr (fr+min c (n-fr)))) a1 w1->a1.defers=a.defers->cJ W w1->bI (ae prog true) ks ks' Q a1 w1:=λa1 w1 g d1 b1=>kk a1 w1 f (o.trans (b1.mono (vad k o.size))) (A0 w b1) g (d1.trans hd);by_cases ca:c<=n-fr
  .have h:¬(((fr+min c (n-fr):Nat):Int)<(fr:Int)+(c:Int)):=by omega
   refine cD hk (aq rfl JU<|aq rfl JU<|aq rfl JU<|aq rfl LX<|aq rfl (vE rfl rfl rfl AX h)<|aq rfl JU<|Nm rfl<|Nm rfl<|Nm rfl<|Nm rfl<|aq rfl (ki (F:=dV false) rfl rfl Jd)<|rfl) λa1 w1 g d1 b1=>fj (t:=false) (j0 g rfl) (va (rz:=ks) D2 (dK a1 w1 (g.aU ⟨rfl,rfl,rfl,rfl,rfl,rfl,rfl,rfl,rfl,rfl,rfl,rfl,rfl,PJ⟩) d1 b1))
  .have h:(((fr+min c (n-fr):Nat):Int)<(fr:Int)+(c:Int)):=by omega
   have q:¬(((fr+min c (n-fr):Nat):Int)<(n:Int)):=AP;refine cD hk (aq rfl JU<|aq rfl JU<|aq rfl JU<|aq rfl LX<|aq rfl (zb rfl rfl rfl AX h)<|aq rfl JU<|eV rfl JU<|eV rfl (mR rfl rfl)<|eV rfl (vM rfl rfl C.h0 C.hn)<|eV rfl (vE rfl rfl rfl AX q)<|aq rfl KL<|rfl) λa1 w1 g d1 b1=>fj (t:=false) (j0 g rfl) (va (rz:=ks) D2 (dK a1 w1 (g.aU ⟨rfl,rfl,rfl,rfl,rfl,rfl,rfl,rfl,rfl,rfl,rfl,rfl,rfl,PJ⟩) d1 b1))
 |succ m S=>
  intro j a W f Jx o w hk hd;have h:(((fr+j:Nat):Int)<(fr:Int)+(c:Int)):=AP;have q:(((fr+j:Nat):Int)<(n:Int)):=AP;unfold K3;refine bm (bm ?_);rw[j1 (av Tryz.f3 15)];refine cD hk (aq rfl JU<|aq rfl JU<|aq rfl JU<|aq rfl LX<|aq rfl (zb rfl rfl rfl AX h)<|aq rfl JU<|eV rfl JU<|eV rfl (mR rfl rfl)<|eV rfl (vM rfl rfl C.h0 C.hn)<|eV rfl (zb rfl rfl rfl AX q)<|aq rfl KL<|rfl) λa1 w1 g d1 b1=>fj (t:=true) (j0 g rfl) (lN (bm (ln ?_)));have A:=o.trans (b1.mono (vad k o.size));have N:=A0 w b1;rw[j1 (av Tryz.f3 17)];refine GF (m:=3) (g.aU (l:=Hr v7 v9 v10 v11 v15 v17 v18 v19 s6 f all c fr (fr+j)) ⟨rfl,rfl,rfl,rfl,rfl,rfl,rfl,rfl,rfl,rfl,rfl,rfl,rfl,PJ⟩) (aq rfl JU<|aq rfl JU<|aq rfl (V9 rfl rfl)<|rfl) AX λY w2 b X I=>?_;have u:=A.trans (I.mono (vad k A.size));have o2:=A0 N I;refine Vt (i:=3) (sv:=20) ai7 rfl rfl rfl rfl rfl rfl rfl rfl AX b rfl rfl o2 rfl Aq AX (vad k u.size) λH z y r1 L r3 x R J O=>rE (tT ?_);have r:=u.trans (KS o2 L (vad k u.size));have T:List.range' fr (j+1)=List.range' fr j++[fr+j]:=by rw[List.range'_concat];simp
  have d:∀s,s≠91->s≠20->H.tmps[s]?=Y.tmps[s]?:=λs h q=>R s h q;have P:af 122 (a2 (Hr v7 v9 v10 v11 v15 v17 v18 v19 s6 y all c fr (fr+j))) H z:=af.of J λp E=>by
   simp at E;rcases E with rfl|rfl|rfl|rfl|rfl|rfl|rfl|rfl|rfl|rfl|rfl|rfl|rfl
   .exact b.get rfl (d 7 AX AX) λv hv=>hv
   .exact b.get rfl (d 9 AX AX) λv hv=>hv
   .exact b.get rfl (d 10 AX AX) λv hv=>hv
   .exact b.get rfl (d 11 AX AX) λv hv=>hv
   .exact b.get rfl (d 15 AX AX) λv hv=>hv
   .exact b.get rfl (d 17 AX AX) λv hv=>hv
   .exact b.get rfl (d 18 AX AX) λv hv=>hv
   .exact b.get rfl (d 19 AX AX) λv hv=>hv
   .exact b.get rfl (d 12 AX AX) λv hv=>⟨hv.1,hv.1▸(eD all).fZ _ _ _ (by have h:=r;rw[C.eq]at h;exact h) C.f12⟩
   .exact b.get rfl (d 14 AX AX) λv hv=>hv
   .exact b.get rfl (d 16 AX AX) λv hv=>hv
   .exact⟨_,x,rfl⟩
   .exact b.get rfl (d 21 AX AX) λv hv=>hv
  have M:z.ownsRow B 3 1 y (List.range' fr (j+1)).length (s4 (List.range' fr (j+1))):=by rw[T,U3,vbg];exact r1
  rw[j1 (av Tryz.f3 16)];refine cD P Jr λZ K D V a8=>wN ?_;have e:(((fr+j:Nat):Int)+1)=((fr+(j+1):Nat):Int):=AP;rw[e]at D;exact S (j+1) Z K y AP (r.trans (a8.mono (vad k r.size))) (A0 M a8) (D.aU ⟨rfl,rfl,rfl,rfl,rfl,rfl,rfl,rfl,rfl,rfl,rfl,rfl,rfl,PJ⟩) (V.trans (O.trans (X.trans (d1.trans hd))))
end
section
variable{t all:List aG}{x' y':Int}{a:Act}{w:aS}{c g3 fr n:Nat}
def W9(h0:0<all.length)(X:all.length<=1000)(hn:all[0].dk.length=n)(o:n<=300)(hs:∀c∈all,∀s∈c.eF,s.size<=1000)(I6:∀d∈all,∀j,j<n->Eu d j)(hc:c<=40)(b6:fr<=n)(af0:g3<=1000){na:List aG}(l:na=A1 all (List.range' fr (min c (n-fr))))(Q:0<na.length)(T_:na[0].dk.length=min c (n-fr))(hd:a.defers=[])(hk:af 122 (a2 ((17,eD na)::(18,a5 0)::(19,Ex)::p7 t all c x' y' g3 fr)) a w):
 bI (ae prog true) (.R (av Tryz.f3 12) []::Hq Tryz.f3) (xo Tryz.f3) (λa1 w1=>a1.defers=[]/\af 122 (a2 (p7 t all c x' y' (g3+min c (n-fr)) (fr+c))) a1 w1/\cJ w w1) a w:=by
 refine wO ?_;unfold Hq K4;refine bm ?_;rw[j1 (av Tryz.f3 13)];refine cD hk (aq rfl (df (F:=e8 (.N)) rfl Jd)<|rfl) λa1 w1 V d1 b1=>bm (bm ?_);rw[j1 (av Tryz.f3 14)];refine cD V (aq rfl JU<|aq rfl Jq<|rfl) λO k b d2 b2=>ln (wM ?_);obtain⟨v7,q,D⟩:=b.has 7 (mF x' y') rfl;obtain⟨v9,Eh,Vy⟩:=b.has 9 (eD t) rfl;obtain⟨v10,Ei,B⟩:=b.has 10 (qM [t]) rfl;obtain⟨v11,GN,A⟩:=b.has 11 (qN ((0:Nat):Int)) rfl;obtain⟨s6,z,i⟩:=b.has 12 (eD all) rfl;obtain⟨v15,y,x⟩:=b.has 15 (a5 g3) rfl;obtain⟨v17,Wc,Wd⟩:=b.has 17 (eD na) rfl;obtain⟨v18,Vx,UW⟩:=b.has 18 (a5 0) rfl;obtain⟨v19,We,Kk⟩:=b.has 19 Ex rfl;have C:o8 all n k.heap.size k s6:=⟨rfl,i,h0,hn,o⟩;have kw:af 122 (a2 (Hr v7 v9 v10 v11 v15 v17 v18 v19 s6 (.N) all c fr (fr+0))) O k:=af.of b.size λp h=>by
  simp at h;rcases h with rfl|rfl|rfl|rfl|rfl|rfl|rfl|rfl|rfl|rfl|rfl|rfl|rfl
  .exact⟨_,q,rfl⟩
  .exact⟨_,Eh,rfl⟩
  .exact⟨_,Ei,rfl⟩
  .exact⟨_,GN,rfl⟩
  .exact⟨_,y,rfl⟩
  .exact⟨_,Wc,rfl⟩
  .exact⟨_,Vx,rfl⟩
  .exact⟨_,We,rfl⟩
  .exact⟨_,z,rfl,i⟩
  .exact b.get rfl rfl λv hv=>hv
  .exact b.get rfl rfl λv hv=>hv
  .exact b.get rfl rfl λv hv=>hv
  .exact b.get rfl rfl λv hv=>hv
 refine Xi C hc b6 (λbz P s7 g R f d3=>bm ?_) (min c (n-fr)) 0 O k _ (vbm _) (vaa _ _) (vbp _ _ _ _) kw (d2.trans (d1.trans hd));have u:af 122 (a2 ((20,dO 1 lS (kE (List.range' fr (min c (n-fr)))))::(17,eD na)::(18,a5 0)::(19,Ex)::p7 t all c x' y' g3 fr)) bz P:=af.of f.size λp h=>by
  simp at h;rcases h with rfl|rfl|rfl|rfl|rfl|rfl|rfl|rfl|rfl|rfl|rfl|rfl
  .exact f.get rfl rfl λv hv=>hv▸Xl R
  .exact f.get rfl rfl λv hv=>hv▸(eD na).fZ _ _ _ g Wd
  .exact f.get rfl rfl λv hv=>hv▸(a5 0).fZ _ _ _ g UW
  .exact f.get rfl rfl λv hv=>hv▸Ex.fZ _ _ _ g Kk
  .exact f.get rfl rfl λv hv=>hv▸(mF x' y').fZ _ _ _ g D
  .exact f.get rfl rfl λv hv=>hv▸(eD t).fZ _ _ _ g Vy
  .exact f.get rfl rfl λv hv=>hv▸(qM [t]).fZ _ _ _ g B
  .exact f.get rfl rfl λv hv=>hv▸(qN ((0:Nat):Int)).fZ _ _ _ g A
  .exact f.get rfl rfl λv hv=>hv.2
  .exact f.get rfl rfl λv hv=>hv
  .exact f.get rfl rfl λv hv=>hv▸(a5 g3).fZ _ _ _ g x
  .exact f.get rfl rfl λv hv=>hv
 have T:∀d∈na,Es d:=l▸λd hd=>by obtain⟨e,-,rfl⟩:=vbh.1 hd;grind[Es,nP]
 have E:∀d∈na,d.dk.length<9000000000000000000:=l▸λd hd=>by obtain⟨e,-,rfl⟩:=vbh.1 hd;simp[nP];omega
 have S:na.length<9000000000000000000:=by rw[l];simp[A1];omega
 have r:∀d∈all,∀j∈List.range' fr (min c (n-fr)),Eu d j:=λd hd j Y=>I6 d hd j (by rw[List.mem_range'_1]at Y;omega);rw[j1 (av Tryz.f3 18)];refine wR (m:=6) u (dq rfl Kc<|dq rfl Kc<|dq rfl JU<|dq (F:=k8 na) rfl (by rw[l];exact V2 rfl rfl rfl X hs r Aq)<|dq rfl (V3 rfl rfl rfl S T E)<|dq rfl Jq<|rfl) rfl xn AJ λbO w4 U d4 a8=>⟨rfl,?_⟩;unfold lU;refine bm (bm ?_);rw[j1 (av Tryz.f3 19)];refine cD U (aq rfl JU<|aq rfl (Yd rfl rfl Jd)<|aq rfl JU<|eV rfl (Xj rfl rfl)<|eV rfl Jp<|eV rfl (AD rfl rfl Jd AX)<|aq rfl KL<|aq rfl JU<|eV rfl JU<|eV rfl (AC rfl rfl)<|aq rfl KL<|rfl) λdz er N d5 bt=>fj (t:=false) (j0 N rfl) (lN ?_);rw[j1 (av Tryz.f3 21)];refine cD N (aq rfl JU<|aq rfl Kc<|aq rfl (vM rfl rfl Q T_)<|aq rfl LX<|aq rfl Jq<|rfl) λjw jf W d6 Z=>tT ?_;rw[j1 (av Tryz.f3 11)];refine cD W (aq rfl JU<|aq rfl JU<|aq rfl LX<|aq rfl Jq<|rfl) λnC uW H d7 cK=>wN ?_;have e1:((g3:Int)+((min c (n-fr):Nat):Int))=((g3+min c (n-fr):Nat):Int):=AP;have e2:((fr:Int)+(c:Int))=((fr+c:Nat):Int):=AP;rw[e1,e2]at H;refine kf ⟨d7.trans (d6.trans (d5.trans (d4.trans d3))),H.aU ⟨rfl,rfl,rfl,rfl,rfl,rfl,rfl,rfl,PJ⟩,?_⟩;have L:=b1.trans (b2.mono b1.size);have M:=L.trans (g.mono L.size);have K:=M.trans (a8.mono M.size);have J:=K.trans (bt.mono K.size);have I:=J.trans (Z.mono J.size);exact I.trans (cK.mono I.size)
end
end a3
namespace zn
open Conc ConcM RowKit ax bp cI dm bS cq eC a3 lM
section
variable{O:gJ}{n0:Nat}{V:ual}
def Wf:kA prog 3:=Aj func3 AJ lA
def nS(V:ual)(n:Nat):fi:=⟨λi=>i==0||i==23,λi=>i==0||i==23,V,λ_=>false,n⟩
abbrev A4:fi:=nS (λ_=>none) 0
def o7(n:Nat){l:il}(h:l.all (hN A4)=true):l.all (hN (nS V n))=true:=(tw (D:=nS V n) (D':=A4) Y Y Y l).trans h
def o5(n:Nat):Ai prog (nS V n) 3:=by
 refine⟨⟨_,func3,?_⟩,λt h=>?_,BK⟩
 .rw[results3];simp[Cr,nS]
 .cases h
def oP{ops:eY}{k:il}(b:ops.all (sH A4 ops)=true)(a:k.all (hN A4)=true):KD prog 3 ops k (nS V):=
 ⟨λ_=>Y,o5,λn=>by rw[Vz (D:=nS V n) (D':=A4) Y Y Y];exact b,λn=>o7 n a,λn i h=>h,follows,λ_ _ _=>⟨Y,Y,Y⟩⟩
def Wg{N:Nat}{l:List (Nat×bb)}{a:Act}{w:aS}(h:af N (a2 l) a w){s:Nat}{F:bb}(hs:∃v,a.tmps[s]?=some v/\F.R w v):af N (a2 ((s,F)::l)) a w:=fu hs.choose_spec.1 hs.choose_spec.2 h
def YU(K:bL)(a:Act):AZ K a a:=λ_ _ _=>Y
def YS{S:m5}{j c x x':Nat}{T T':g4}{F:bb}(h:S.jy=[(j,T,x),(c,T',x')])(hF:m4 T' F):∀p∈S.jy,p.1≠j->m4 p.2.1 F:=by
 rw[h];intro p b a;simp at b;rcases b with rfl|rfl
 .exact absurd Y a
 .exact hF
def W8{S:m5}{j b x x':Nat}{T T':g4}{F:bb}(h:S.jy=[(j,T,x),(b,T',x')])(hF:m4 T F):∀p∈S.jy,p.1≠b->m4 p.2.1 F:=by
 rw[h];intro p c a;simp at c;rcases c with rfl|rfl
 .exact hF
 .exact absurd Y a
def Wh{x:Int}(n:Nat)(hn:0<n/\n<=1000):∃p:Nat,lR x n=p/\p<n/\(1:Int)+(p:Int)=((1+p:Nat):Int):=by have:=rL x (n:=n) AP;exact⟨(lR x n).toNat,AP,AP,AP⟩
def aAa(O:gJ)(Post:uab)(t:List aG)(fr c:Nat)(na:List aG):Prop:=∀(W ak:Nat),0<W->W<=16->0<ak->ak<=64->∀(M:dh)(w:aS) be bB,aJ (bQ M) #[be,bB] #[be,bB]->vI [t] w be->t_ ((0:Nat):Int) w bB->gi O prog Post 9 #[be,bB,.I W,.I ak,.I (fr:Int),.I (c:Int)] M w 3 (λu _ w'=>ua na w' u/\cy M w w')
def HF{M:dh}{a:Act}{g f:Nat}{u1 u2:Value}(c:aJ (bQ M) a.tmps a.tmps)(d:a.tmps[g]?=some u1)(e:a.tmps[f]?=some u2):aJ (bQ M) #[u1,u2] #[u1,u2]:=og (l:=[u1,u2]) λz b=>by
 simp at b;rcases b with rfl|rfl
 .exact c.get _ _ _ d d
 .exact c.get _ _ _ e e
section
variable{Post:uab}{n:Nat}{Shun:uam}{a6 M:dh}{w0 w:aS}{a b m_:Act}{cs:fV}{t all na:List aG}{c g3 fr:Nat}{z x y x' y':Int}
def aAb(Q:gY (nS V cs.length) a b)(p:Hf O prog 122 (a2 (p7 t all c x' y' g3 fr)) a6 w0 m_)(H:Held O prog a6 w0 w0.heap.size a M w Shun)(LC:AZ (a2 (p7 t all c x' y' g3 fr)) m_ a)(bC:aAa O Post t fr c na)(D:cT x')(C:cT y')(hn:n+48<=900000)(hsz:a.tmps.size=122)(u:∀a' k M' w' g j,g<=n+48->Held O prog a6 w0 w0.heap.size a' M' w' j->gY (nS V cs.length) a' k->af 122 (a2 ((17,eD na)::(18,a5 0)::(19,Ex)::p7 t all c x' y' g3 fr)) a' w'->bP prog Post g j 0 (a0 ((base 3).at k (.R (av Tryz.f3 12) []::Hq Tryz.f3)) cs) w'):
 bP prog Post n Shun 0 (a0 ((base 3).at b (.code (.region 12 (av Tryz.f3 12) true)::Hq Tryz.f3)) cs) w:=by
 obtain⟨P,T,p1,A⟩:=Wh (x:=x') 16 AX;obtain⟨q,hq,br,Z⟩:=Wh (x:=y') 64 AX;rw[j1 (av Tryz.f3 12)]at u⊢;refine ayE (S:=⟨12,λi=>i==15||i==16||decide (19<i),λi=>decide (12<i),[(19,27,17),(21,43,19)]⟩) (L:=a2 []) (d:=3) (dF:=AN na) nJ mixed Wf (oP AJ AJ) AJ p (iz trivial) AJ rfl rfl rfl rfl func9 Ah Vs rfl (λn=>show lM.ik A4 _=true by decide+kernel) hn rfl (a3.hq rfl JU<|a3.hq rfl JU<|a3.hq rfl (uk rfl rfl)<|a3.hq rfl Jp<|a3.hq (F:=a5 P) rfl (by rw[<-T];exact Kz rfl rfl Jd D AX)<|a3.hq (F:=a5 (1+P:Nat)) rfl (by rw[<-A];exact nL rfl Jd rfl Bu AX)<|a3.hq rfl (ui rfl rfl)<|a3.hq rfl Jp<|a3.hq (F:=a5 q) rfl (by rw[<-hq];exact Kz rfl rfl Jd C AX)<|a3.hq (F:=a5 (1+q:Nat)) rfl (by rw[<-Z];exact nL rfl Jd rfl Bu AX)<|a3.hq rfl JU<|a3.hq rfl JU<|a3.hg rfl (λa M w hk Y=>by
  obtain⟨u1,r,r1⟩:=hk.has 58 _ rfl;obtain⟨u2,o,y⟩:=hk.has 59 _ rfl;obtain⟨u3,X,rfl⟩:=hk.has 63 (a5 (1+P:Nat)) rfl;obtain⟨u4,W,rfl⟩:=hk.has 67 (a5 (1+q:Nat)) rfl;obtain⟨u5,U,rfl⟩:=hk.has 68 (a5 fr) rfl;obtain⟨u6,N,rfl⟩:=hk.has 69 (a5 c) rfl;rw[show(#[Operand.tmp 58,.tmp 59,.tmp 63,.tmp 67,.tmp 68,.tmp 69].map a.eval)=#[u1,u2,.I (1+P:Nat),.I (1+q:Nat),.I (fr:Int),.I (c:Int)]from by simp[Act.eval,r,o,X,W,U,N]];exact bC _ _ AP AP AP AP M w u1 u2 (HF Y r o) r1 y)<|a3.hk (B:=zi) rfl JU (λ_=>xO) AX<|a3.hk (B:=zi) rfl (Vu rfl rfl) (λ_=>xZ) AX<|a3.hk (B:=zi) rfl (Vv rfl rfl) LD AX<|a3.hk (B:=zi) rfl (Vw rfl rfl) LD AX<|a3.hn (F:=k7 w0.heap.size 27 1) rfl (λa w' hn _=>Vo rfl a w' hn) (hs:=λ_ _ _ _=>G1)<|a3.hn (F:=k7 w0.heap.size 43 2) rfl (λa w' hn _=>Vp rfl a w' hn) (hs:=λ_ _ _ _=>G1)<|a3.hst rfl (uf rfl rfl rfl) (hs:=λ_=>YS rfl (Ve rfl))<|a3.hk (B:=zi) rfl Jq LD AX<|a3.hst rfl (tR rfl rfl rfl) (hs:=λ_=>W8 rfl (x3 rfl))<|rfl) Q H LC ⟨hsz,λs F e=>Cn⟩ ?_
 intro a' k M' w' g j hKn f z R VW BO;obtain⟨v17,Wc,m,bq,K,-,J,I⟩:=f.has 17 (GZ w0.heap.size na) rfl;obtain⟨v19,We,l,E,-,aL⟩:=f.has 19 (AG w0.heap.size) rfl;have Kk:∃v,a'.tmps[19]?=some v/\Ex.R w' v:=⟨v19,We,l,E,vav _,aL⟩;have Wd:∃v,a'.tmps[17]?=some v/\(eD na).R w' v:=⟨v17,Wc,m,bq,K,vav _,J,I⟩;exact u a' k M' w' g j z R VW (Wg (Wg (Wg hKn Kk) (f.has 18 (a5 0) rfl)) Wd)
def aAe:∃o ats,(av Tryz.f3 4)[3]?=some o/\o.op=.call {callee:=.value (.func 6),args:=#[.tmp 34,.tmp 35,.tmp 36],argTypes:=ats}/\o.guard=none/\o.dst=some 37/\lM.ik A4 o=true:=⟨_,_,Y,Y,Y,Y,AJ⟩
def K6{K K':bL}(j:gY (nS V 0) a b)(H:Held O prog a6 w0 n0 a M w Shun){k k':il}(p:k.all (hN A4)=true)(hk:k.all (gr prog)=true)(m:k'.all (gr prog)=true)(ok:∀s F,K s=some F->F.ok n0)(ok':∀s F,K' s=some F->F.ok n0)(l:af 122 K a w)(hrun:∀W,af 122 K a W->bI (ae prog true) k k' (λa1 w1=>a1.defers=[]/\af 122 K' a1 w1/\cJ W w1) a W)(o:∀a' c M' w',Held O prog a6 w0 n0 a' M' w' Shun->gY (nS V 0) a' c->af 122 K' a' w'->bP prog Post n Shun 0 (a0 ((base 3).at c k') []) w'):
 bP prog Post n Shun 0 (a0 ((base 3).at b k) []) w:=by
 refine KC nJ follows Wf Y (o5 _) j (o7 _ p) H hk m (I:=af 122 K) (J:=af 122 K') (jx _ ok) (jx _ ok') l (λW d e b cs=>?_) o;obtain⟨a1,w1,⟨i,h,g⟩,f⟩:=hrun W e b cs;exact⟨a1,w1,⟨i,h,g.mono d⟩,f⟩
def aAf{ks:il}(hd:a.defers=[])(f:a.tmps[8]?=some (.T))(e:∀k,Post (.T) (w.at k)):bP prog Post n Shun 0 (a0 ((base 3).at a (.code .ret::ks)) []) w:=by
 refine Cp Y λk=>⟨a0 {(base 3).at a (.code .ret::ks)with mode:=.returning} [],w.at k,#[],?_,Ad,vac _,?_⟩
 .simp[a0,stepG,stepG.exec,Frame.at,base]
 .refine anV Y λk'=>⟨.T,#[],?_,Ad,e k'⟩;have c:=func3;have b:(results Tryz.f3 a.tmps).run prog ((w.at k).at k')=.ok (.T) ((w.at k).at k'):=by simp_all[results]
  have d:(results Tryz.f3 a.tmps).events prog ((w.at k).at k') #[]=#[]:=by simp_all[results]
  simp[a0,stepG,unwind,doReturn,Frame.at,base,hd,c,b,d,seen,GStep.after]
end
def aAg(l:uac)(rs:List aZ)(f c:Nat):kz l (jz (jl f c rs)) (jl f c rs).length=A1 (kz l (jz rs) rs.length) (List.range' f (min c (rs.length-f))):=by
 have key:∀{aI:Type}(g:cR->aI)(d:aI)(q:Nat),(List.range (jl f c rs).length).map (λr=>g (jz (jl f c rs) r q))=(List.range' f (min c (rs.length-f))).map λi=>((List.range rs.length).map λr=>g (jz rs r q)).getD i d:=λg d q=>by
  apply List.ext_getElem (by simp[G3]);intro r h j;simp[G3]at h;have e:jz (jl f c rs) r q=jz rs (f+r) q:=by simp only[jz,jl,List.getElem?_take,List.getElem?_drop];rw[vby AP]
  have a:f+r<rs.length:=AP;simp[e,a]
 unfold kz A1;rw[List.map_map];refine List.map_congr_left λq _=>?_;simp only[Function.comp,oU,nP];rw[key (·.num) 0 q,key (·.text) ko q,key (·.dH) false q];by_cases b:(l[q]?.getD (0,0)).1=3<;>simp[b]
def aAh{l:uac}{rs:List aZ}{d:aG}(hd:d∈kz l (jz rs) rs.length){j:Nat}(a:j<rs.length):Eu d j:=by
 unfold kz at hd;obtain⟨q,-,rfl⟩:=vbh.1 hd;refine⟨by simpa[oU]using a,λh=>?_,λh=>?_⟩
 .simp only[oU]at h⊢;simpa[h]using a
 .simp only[oU]at h⊢;simpa[h]using a
def aAi{l:uac}{rs:List aZ}{d:aG}(hd:d∈kz l (jz rs) rs.length)(h:∀r∈rs,∀x∈r.2,x.text.size<=1000):∀s∈d.eF,s.size<=1000:=by
 unfold kz at hd;obtain⟨q,-,rfl⟩:=vbh.1 hd;intro s hs;simp only[oU]at hs;split at hs
 .obtain⟨r,a,rfl⟩:=vbh.1 hs;have a:r<rs.length:=by simpa using a
  simp only[jz,vag a,vae];cases b:rs[r].2[q]? with|none=>simp only[vdt,vae,b,Option.getD_none];decide|some x=>simp only[vdt,vae,b];exact h _ (vax a) x (vcd b)
 .cases hs
section
variable{Post:uab}{n:Nat}{Shun:uam}{a6 M:dh}{w0 w:aS}{a b:Act}{z x y x' y':Int}
structure oB(rs:List fA)(full:List aZ)(all:List aG)(d:aG):Prop where
 PX:full=sX (ew rs) (ew rs) rs.length rs.length 0
 vT:all=PU (ew rs) (ew rs) rs.length rs.length 0
 pr:Ew (ew rs) d rs.length
 len:(qT (jO d d) rs.length rs.length).length=full.length
 le:full.length<=225
 G4:∀r∈full,∀x∈r.2,x.text.size<=1000
def aAj(rs:List fA)(e:rs.length<=15):∃full all d,oB rs full all d:=by
 have b:(ew rs)[0]?=some (⟨1,0,rs.map λr=>kB r.1,[],rs.map λr=>h6 r.1⟩:aG):=rfl;have f:=Wn b b Y Y rs.length rs.length;have hlen:=Wa (jO (⟨1,0,rs.map λr=>kB r.1,[],rs.map λr=>h6 r.1⟩:aG) ⟨1,0,rs.map λr=>kB r.1,[],rs.map λr=>h6 r.1⟩) rs.length rs.length;have m:rs.length*rs.length<=15*15:=Nat.mul_le_mul e e;refine⟨_,_,_,Y,Y,⟨Iz,Iz,b,Ad,Ad,by show(1:Int)≠3;decide,by omega⟩,by rw[f,vcf],by rw[f,vcf];omega,λr g x a=>?_⟩;obtain⟨r1,k,q,l,h,rfl⟩:=Tq g;obtain⟨i,hi,rfl⟩:=vJ k;obtain⟨j,n,rfl⟩:=vJ (OK h);rcases List.mem_append.1 a with a|a
 .obtain⟨c,hc,rfl⟩:=vbh.1 a;have:=V1 rs hc i;omega
 .obtain⟨c,hc,rfl⟩:=vbh.1 a;have:=V1 rs hc j;omega
def Hs(t all:List aG)(c:Nat)(x' y':Int)(g3 fr m:Nat):∀s F,a2 (p7 t all c x' y' g3 fr) s=some F->F.ok m:=by exact iz ⟨PJ,PJ,PJ,PJ,PJ,PJ,PJ,PJ,PJ⟩
def aAk{rs:List fA}(hl:rs.length<=15){full:List aZ}{all:List aG}{d:aG}(C:oB rs full all d){c:Nat}(hc:0<c/\c<=40)(I:cT x')(F:cT y')(S:∀a' M' w' bJ,Held O prog a6 w0 n0 a' M' w' bJ->Post (.T) w'):
 ∀(m fr g3 n:Nat)(Shun:uam)(a b:Act)(M:dh)(w:aS),full.length<fr+m->fr<=1000->g3=min fr full.length->n+48*m<=900000->gY (nS V 0) a b->Held O prog a6 w0 n0 a M w Shun->af 122 (a2 (p7 (ew rs) all c x' y' g3 fr)) a w->bP prog Post n Shun 0 (a0 ((base 3).at b (xo Tryz.f3)) []) w:=by
 have J:=C.le;have f:all=kz (ek (ew rs)++ek (ew rs)) (jz full) full.length:=by rw[C.vT,C.PX];rfl
 have iJ:all.length=8:=by rw[f];simp[kz,ek,ew]
 have h0:0<all.length:=AP;have Yk:∀d∈all,d.dk.length=full.length:=λd hd=>by rw[f]at hd;unfold kz at hd;obtain⟨q,-,rfl⟩:=vbh.1 hd;simp[oU]
 have s:all[0].dk.length=full.length:=Yk _ (vax h0);have dK:∀(fr g3 n:Nat)(Shun:uam)(a b:Act)(M:dh)(w:aS),full.length<fr->g3=min fr full.length->gY (nS V 0) a b->Held O prog a6 w0 n0 a M w Shun->af 122 (a2 (p7 (ew rs) all c x' y' g3 fr)) a w->bP prog Post n Shun 0 (a0 ((base 3).at b (xo Tryz.f3)) []) w:=by intro fr g3 n Shun a b M w x af0 g H hk;refine K6 g H (k':=[.code .ret]) (K':=a2 [(8,dV true)]) AJ AJ AJ (Hs _ _ _ _ _ _ _ _) (by exact iz ⟨PJ,PJ⟩) hk (λW i=>Xr C.pr h0 s x AP C.len H.defers i) ?_;intro a1 b1 U w1 h p l;obtain⟨v,e,r⟩:=l.has 8 (dV true) rfl;cases r;exact aAf (p.defers.trans h.defers) ((p.same 8 rfl).trans e) λk=>S _ _ _ _ (h.at k)
 intro m;induction m with
 |zero=>exact λfr g3 n Shun a b M w N _ t _ g H hk=>dK fr g3 n Shun a b M w AP t g H hk
 |succ m E=>
  intro fr g3 n Shun a b M w N b6 t hn g H hk;by_cases x:full.length<fr
  .exact dK fr g3 n Shun a b M w x t g H hk
  refine K6 g H (k':=.code (.region 12 (av Tryz.f3 12) true)::Hq Tryz.f3) (K':=a2 (p7 (ew rs) all c x' y' g3 fr)) AJ AJ AJ (Hs _ _ _ _ _ _ _ _) (Hs _ _ _ _ _ _ _ _) hk (λW i=>XF h0 s AP H.defers i) ?_;intro a1 b1 U w1 h p l;have u:=aAg (ek (ew rs)++ek (ew rs)) full fr c;refine aAb (na:=kz (ek (ew rs)++ek (ew rs)) (jz (jl fr c full)) (jl fr c full).length) p (h.phase l (Hs _ _ _ _ _ _ _ _)) h.ayC (YU _ _) (λW ak g1 R T P M w Y bB L ht hn=>?_) I F AP l.size λbc b2 M2 w2 ey y wP o Wi D=>?_
  .rw[C.PX];exact Wy (mS rs AP J1) Iz AP AP (by rw[<-C.PX];omega) g1 R T P M w Y bB L ht hn
  have o:=h.back o;refine K6 Wi o (k':=xo Tryz.f3) (K':=a2 (p7 (ew rs) all c x' y' (g3+min c (full.length-fr)) (fr+c))) AJ AJ AJ (by exact iz ⟨PJ,PJ,PJ,PJ,PJ,PJ,PJ,PJ,PJ,PJ,PJ,PJ⟩) (Hs _ _ _ _ _ _ _ _) D (λW i=>W9 h0 AP s AP (λd hd=>aAi (f▸hd) C.G4) (λd hd j K=>aAh (f▸hd) K) hc.2 AP AP (by rw[u,<-f]) (by rw[u,<-f];simp[A1];omega) ?_ o.defers i) ?_
  .simp only[u,<-f];simp[A1,nP]
  intro X Z A z Q Wj B;exact E (fr+c) _ ey y X Z A z AP AP AP AP Wj Q B
def aAl(fz:gY (nS V 0) a b)(H:Held O prog a6 w0 n0 a M w Shun)(rs:List fA)(q:rs.length<=15)(T:cT z)(X:cT x)(U:cT y)(S:cT x')(j:cT y')(hs:af 122 (a2 [(1,a5 z),(6,mF x y),(7,mF x' y'),(24,k8 (ew rs))]) a w)(hn:n+20000<=900000)(fF:∀a' M' w' bJ,Held O prog a6 w0 n0 a' M' w' bJ->Post (.T) w'):
 bP prog Post n Shun 0 (a0 ((base 3).at b [.R (av Tryz.f3 1) [2,3],.code (PW Tryz.f3)]) []) w:=by
 obtain⟨full,all,d,C⟩:=aAj rs q;obtain⟨c,hc,kI,td⟩:=Wh (x:=z) 40 AX;have hle:=C.le;have iJ:all.length=8:=by rw[C.vT];simp[PU,kz,ek,ew]
 have g:∀m,∀s F,a2 ((34,xg x y)::(35,qM [ew rs])::(36,qN ((0:Nat):Int))::Hp (ew rs) z x' y') s=some F->F.ok m:=λm=>by exact iz ⟨PJ,PJ,PJ,PJ,PJ,PJ,PJ,PJ,PJ⟩
 refine K6 fz H (k':=[.R (av Tryz.f3 4) (3::List.range' 4 6),.code (K5 Tryz.f3)]) (K':=a2 ((34,xg x y)::(35,qM [ew rs])::(36,qN ((0:Nat):Int))::Hp (ew rs) z x' y')) AJ AJ AJ (by exact iz ⟨PJ,PJ,PJ,PJ,PJ⟩) (g _) hs (λW f=>XH H.defers f) ?_;intro a1 b1 p w1 h Ht i;obtain⟨o,ats,Z,l,dY,R,L⟩:=aAe;refine tG (d:=3) l func6 Ah Pg AP Wf (D:=nS V) (oP AJ AJ) Ht h AJ Z dY ⟨R,by rw[i.size];decide⟩ (λm=>L) (I:=af 122 (a2 ((34,xg x y)::(35,qM [ew rs])::(36,qN ((0:Nat):Int))::Hp (ew rs) z x' y'))) (J:=af 122 (up (a2 ((34,xg x y)::(35,qM [ew rs])::(36,qN ((0:Nat):Int))::Hp (ew rs) z x' y')) 37 (OE all))) (mX:=Eb all) (jx _ (g _)) i (λk=>?_) (λu w' f Y=>f.put AX (vaa _ _) Y) λbc b2 M2 w2 ey A wP r Wi Q=>?_
 .have kk:=jx (n:=n0) (g _) (bQ p) a1 a1 w1 (w1.at k) ((cy.FY p w1 k).kX h.fH) h.all i;obtain⟨u1,e1,rfl⟩:=kk.has 34 (xg x y) rfl;obtain⟨u2,v,K⟩:=kk.has 35 (qM [ew rs]) rfl;obtain⟨u3,t,E⟩:=kk.has 36 (qN ((0:Nat):Int)) rfl;rw[show(#[Operand.tmp 34,.tmp 35,.tmp 36].map a1.eval)=#[.agg #[.I x,.I y],u2,u3]from by simp[Act.eval,e1,v,t]];rw[C.vT];exact WA (mS rs AP J1) Iz (by rw[<-C.PX];omega) X U p (w1.at k) u2 u3 (HF h.all v t) K E
 refine K6 Wi r (k':=xo Tryz.f3) (K':=a2 (p7 (ew rs) all (1+c) x' y' 0 0)) AJ AJ AJ (λs F e=>?_) (Hs _ _ _ _ _ _ _ _) Q (λW f=>XG AP T (by have:lR z 40=c:=hc;omega) r.defers f) ?_
 .unfold up at e;split at e
  .cases e;trivial
  .exact g _ s F e
 intro bz bZ N B gM Wj P;exact aAk q C (c:=1+c) AP S j fF 300 0 0 ey A bz bZ N B AP AP Ad AP Wj gM P
end
end
section
variable{O:gJ}{n0:Nat}
abbrev hv(x y:Int):Value:=.agg #[.I x,.I y]
section
variable{P:b4}{Post:uab}{n:Nat}{Shun:uam}{w:aS}{f:uaj}{b:Act}{ops ops':eY}{i:Nat}{rest:uaa}{k k':il}{cs:fV}{o:Oper}
def Wk(h:∀w,stepG P true (a0 ((base f).at b k) cs) w=.go (a0 ((base f).at b k') cs) w #[])(hn:∀j,bP P Post n Shun 0 (a0 ((base f).at b k') cs) (w.at j)):bP P Post n Shun 0 (a0 ((base f).at b k) cs) w:=
 Cp Y λj=>⟨_,w.at j,#[],h _,Ad,vac _,hn j⟩
def oA{id:Nat}{l:uaa}(a:List.range ops.size=l)(h:∀j,bP P Post n Shun 0 (a0 ((base f).at b (.R ops l::k)) cs) (w.at j)):bP P Post n Shun 0 (a0 ((base f).at b (.code (.region id ops false)::k)) cs) w:=by refine Wk (λw=>?_) h;subst a;simp[a0,stepG,stepG.exec,Frame.at,base]
def ow{x y:Code}(h:∀j,bP P Post n Shun 0 (a0 ((base f).at b (.code x:: .code y::k)) cs) (w.at j)):bP P Post n Shun 0 (a0 ((base f).at b (.code (.seq x y)::k)) cs) w:=
 Wk (λw=>by simp[a0,stepG,stepG.exec,Frame.at,base]) h
def aAm{id:Nat}{l:uaa}{y:Code}(a:List.range ops'.size=l)(h:∀j,bP P Post n Shun 0 (a0 ((base f).at b (.R ops' l:: .code y::k)) cs) (w.at j)):bP P Post n Shun 0 (a0 ((base f).at b (.R ops []:: .code (.seq (.region id ops' false) y)::k)) cs) w:=
 Wk (k':=.code (.seq (.region id ops' false) y)::k) (λw=>by simp[a0,stepG,stepG.exec,Frame.at,base]) λ_=>ow λ_=>oA a h
def Wl(g:ops[i]?=some o)(m:o.guard=none){d:Tmp}(hd:o.dst=some d){v:Value}{w1:aS}(e:∀j,(execOp b.eval o).run P (w.at j)=.ok (.value v) (w1.at j))(p:∀j,(execOp b.eval o).events P (w.at j) #[]=#[])(hs:w.heap.size<=w1.heap.size)(l:∀j,bP P Post n Shun 0 (a0 ((base f).at (b.put (some d) v) (.R ops rest::k)) cs) (w1.at j)):bP P Post n Shun 0 (a0 ((base f).at b (.R ops (i::rest)::k)) cs) w:=by
 refine Cp Y λj=>⟨_,w1.at j,#[],?_,Ad,hs,l j⟩;have c:=vbc (P:=P) (main:=true) (b:=base f) (a:=b) (k:=k) (cs:=cs) (rest:=rest) g (ya m _) (by simp[base]) (e j);have h:listed P (base f).fn b o (w.at j)=#[]:=by grind[listed,seen_none]
 rw[h,hd]at c;exact c
def _root_.Go.Proofs.YtmlddfohidhniaaGreat.a3.Home.lay{M:dh}(d:Home O P M Shun w){c:dp}(T:g4)(hc:aJ (bQ M) c c):Home O P (λb=>M b\/b=w.heap.size) Shun (w.alloc (.cells c T)):=by
 have le:=qx (M':=λb=>M b\/b=w.heap.size) λb(h:M b)=>.inl h;have hs:(w.alloc (.cells c T)).heap.size=w.heap.size+1:=Ad;have i:=d.ob;refine⟨λb a=>?_,λg hg=>.inl (d.Cq g hg),λb a=>d.sh b ?_,λb a h0=>?_,AP,λb h0 a=>(vci _ _ _ AP).trans (d.old b h0 a),d.so⟩
 .rcases a with a|rfl
  .obtain⟨o,f,e⟩:=d.cl b a;exact⟨o,(vci _ _ _ (d.lt a)).trans f,e.imp (λh=>h.mono le) id⟩
  .exact⟨_,vaz w _,.inl (.cells _ (hc.mono le) ⟨λ_ h=>h,λ_=>Y⟩)⟩
 .rcases a with(a|rfl)|a
  .exact .inl a
  .exact .inr JT
  .exact .inr AP
 .rcases a with a|rfl
  .exact d.new b a h0
  .exact i
def aAn{w:aS}{o:Obj}:lL w (w.alloc o):=⟨Ad,.refl _,Y,Y⟩
def aAo{w:aS}{o:Obj}(j:Nat):lL w ((w.alloc o).at j):=⟨by show w.heap.size<=(w.alloc o).heap.size;simp,.refl _,Y,Y⟩
end
def Wm(a c ed b:Value)(i:Nat):(#[a,c,ed,b]++Array.replicate 118 undef:dp)[i]?=if i=0 then some a else if i=1 then some c else if i=2 then some ed else if i=3 then some b else if i<122 then some undef else none:=by
 rcases i with _ | _ | _ | _ |i
 .simp_all
 .simp_all
 .simp_all
 .simp_all
 .rw[Array.getElem?_append_right Ad,Array.getElem?_replicate];grind
def Hu(rv c9 ed ge p q u:Value):Act:=(((((⟨#[rv,c9,ed,ge]++Array.replicate 118 undef,[]⟩:Act).put (some 6) p).put (some 7) q).put (some 8) (.F)).put (some 23) rv).put (some 24) u
def vN(c9 ed ge p q u:Value):Act:=((((⟨#[undef,c9,ed,ge]++Array.replicate 118 undef,[]⟩:Act).put (some 6) p).put (some 7) q).put (some 8) (.F)).put (some 24) u
def K7(b ed a p q u:Value)(i:Nat):(vN b ed a p q u).tmps[i]?=if 24=i then some u else if 8=i then some (.F)else if 7=i then some q else if 6=i then some p else if i=0 then some undef else if i=1 then some b else if i=2 then some ed else if i=3 then some a else if i<122 then some undef else none:=by simp only[vN,Act.put,vak,vct,Array.size_append,veq,vdm,List.length_nil,Array.size_replicate,Wm];rfl
def aAp(rv b ed a p q u:Value):gY (nS (λ_=>some rv) 0) (vN b ed a p q u) (Hu rv b ed a p q u):=by
 have d:=K7 b ed a p q u;have c:∀i,(Hu rv b ed a p q u).tmps[i]?=if 24=i then some u else if 23=i then some rv else if 8=i then some (.F)else if 7=i then some q else if 6=i then some p else if i=0 then some rv else if i=1 then some b else if i=2 then some ed else if i=3 then some a else if i<122 then some undef else none:=by intro i;simp only[Hu,Act.put,vak,vct,Array.size_append,veq,vdm,List.length_nil,Array.size_replicate,Wm];rfl
 have two:∀i,(nS (λ_=>some rv) 0).T i=true->i=0\/i=23:=λi h=>by simp[nS]at h;omega
 refine⟨by simp[vN,Hu,Act.put],λi hi=>?_,λi z hi e=>?_,λi hi=>?_,by simp[vN,Hu,Act.put]⟩
 .rw[d,c];simp[nS]at hi;obtain⟨h0,f⟩:=hi;simp[h0,Ne.symm f]
 .rw[d]at e;rcases two i hi with rfl|rfl<;>simp at e<;>exact e.symm
 .rw[c];rcases two i hi with rfl|rfl<;>rfl
structure iZ(W w':aS):Prop where
 old:∀b,0<b->b<W.heap.size->w'.heap[b]?=W.heap[b]?
 first:∀c e fr,W.heap[0]?=some (.cells c e fr)->w'.heap[0]?=some (.cells c e fr)
 since:lL W w'
section
variable{Post:uab}{n:Nat}{Shun:uam}{W:aS}{b:Act}{cs:fV}{rv:Value}{x y:Int}{rest:uaa}{k:il}{id i s d:Nat}{o:Oper}{v:Value}
def iT(c:(av Tryz.f3 id)[i]?=some o)(a:o.op=.box 24 (.tmp s))(hg:o.guard=none)(hd:o.dst=some d)(f:b.tmps[s]?=some (hv x y))(h:∀j,bP prog Post n Shun 0 (a0 ((base 3).at (b.put (some d) (.P W.heap.size 0)) (.R (av Tryz.f3 id) rest::k)) cs) ((W.alloc (.cells #[.I x,.I y] 24)).at j)):bP prog Post n Shun 0 (a0 ((base 3).at b (.R (av Tryz.f3 id) (i::rest)::k)) cs) W:=by
 have e:=d_ f;refine Wl c hg hd (v:=.P W.heap.size 0) (w1:=(W.alloc (.cells #[.I x,.I y] 24))) (λj=>?_) (λj=>?_) Ad h
 .generalize b.eval=ev at e⊢;cases o;simp only at a;subst a;simp[go_sem,e];exact⟨Y,Y⟩
 .generalize b.eval=ev at e⊢;cases o;simp only at a;subst a;simp[go_sem,e]
def aAr(c:(av Tryz.f3 id)[i]?=some o)(a:o.op=.assign (.const (.F)))(hg:o.guard=none)(hd:o.dst=some d)(h:∀j,bP prog Post n Shun 0 (a0 ((base 3).at (b.put (some d) (.F)) (.R (av Tryz.f3 id) rest::k)) cs) (W.at j)):bP prog Post n Shun 0 (a0 ((base 3).at b (.R (av Tryz.f3 id) (i::rest)::k)) cs) W:=
 Wl c hg hd (v:=.F) (w1:=W) (λj=>by cases o;simp only at a;subst a;simp[go_sem]) (λj=>by cases o;simp only at a;subst a;simp[go_sem]) JT h
def aAs(e:(av Tryz.f3 id)[i]?=some o)(a:o.op=.move (.tmp s))(hg:o.guard=none)(hd:o.dst=some d)(c:b.tmps[s]?=some v)(h:∀j,bP prog Post n Shun 0 (a0 ((base 3).at (b.put (some d) v) (.R (av Tryz.f3 id) rest::k)) cs) (W.at j)):bP prog Post n Shun 0 (a0 ((base 3).at b (.R (av Tryz.f3 id) (i::rest)::k)) cs) W:=
 Wl e hg hd (v:=v) (w1:=W) (λj=>JS) (λj=>JS) JT h
def aAt{O:gJ}{M:dh}{rs:List fA}(g:(av Tryz.f3 id)[i]?=some o)(c:o.op=.call {callee:=.value (.func 4),args:=#[.tmp s,.const (.I 15)],argTypes:=#[22,3]})(hg:o.guard=none)(hd:o.dst=some d)(t:b.tmps[s]?=some rv)(x:Home O prog M Shun W)(w:Hc O rv rs)(h:∀u M' w',Home O prog M' Shun w'->(∀b,M b->M' b)->ar (bQ M') u u->lL W w'->cy M W w'->ub (ew (rs.take 15)) w' u->bP prog Post n Shun 0 (a0 ((base 3).at (b.put (some d) u) (.R (av Tryz.f3 id) rest::k)) cs) w'):bP prog Post n Shun 0 (a0 ((base 3).at b (.R (av Tryz.f3 id) (i::rest)::k)) cs) W:=by
 have e:#[Operand.tmp s,.const (.I 15)].map b.eval=#[rv,.I 15]:=by simp[t,Act.eval]
 have f:=jd.rl (b:=base 3) (Q:=prog) (o:=o) (a:=b) c func4 Ah Y e;refine Ae (oi Y (w1:=W) (es:=#[]) (λk'=>(stepG_enter g (ya hg _) (by simp[base]) (f _).1).trans (vcm (λes=>GStep.go _ _ es) (f _).2)) Ad JT (.stop λj=>Zn (x.at j) w λu M' w' r q p m y v=>?_));have l:Frame.finish ((base 3).at b (.R (av Tryz.f3 id) (i::rest)::k)) u=(base 3).at (b.put (some d) u) (.R (av Tryz.f3 id) rest::k):=by grind[Frame.finish_at]
 rw[l];exact h u M' w' r q p ((show lL W (W.at j)from⟨vac _,.refl _,Y,Y⟩).trans m) y v
end
def aAv{Post:uab}{W:aS}{rv:Value}{rs:List fA}{z x y x' y':Int}(hz:cT z)(hx:cT x)(hy:cT y)(iF:cT x')(D:cT y')(h0:∃c e,W.heap[0]?=some (.cells c e)/\∀v∈c,KE v)(bC:Hc ⟨W.heap.size,W.heap⟩ rv rs)(fF:∀w',iZ W w'->Post (.T) w'):
 bP prog Post 1 (λ_=>False) 0 (a0 (Frame.enter prog 3 #[rv,.I z,hv x y,hv x' y'] .normal) []) W:=by
 obtain⟨di,aGp,Q,T⟩:=h0;have Zy:0<W.heap.size:=jE Q;rw[a3.vds func3 lA];have hg:=Wm rv (.I z) (hv x y) (hv x' y');have hsz:(⟨#[rv,.I z,hv x y,hv x' y']++Array.replicate 118 undef,[]⟩:Act).tmps.size=122:=Ad;have X9:Tryz.f3.ntmps-(#[rv,.I z,hv x y,hv x' y']:dp).size=118:=Ad;rw[X9];have N:=aAp rv (.I z) (hv x y) (hv x' y');unfold Hu at N;have e0:(⟨#[rv,.I z,hv x y,hv x' y']++Array.replicate 118 undef,[]⟩:Act).tmps[0]?=some rv:=hg 0;have e2:(⟨#[rv,.I z,hv x y,hv x' y']++Array.replicate 118 undef,[]⟩:Act).tmps[2]?=some (hv x y):=hg 2;have e3:(⟨#[rv,.I z,hv x y,hv x' y']++Array.replicate 118 undef,[]⟩:Act).tmps[3]?=some (hv x' y'):=hg 3;clear hg;generalize(⟨#[rv,.I z,hv x y,hv x' y']++Array.replicate 118 undef,[]⟩:Act)=b at *;obtain⟨fC,s⟩:∃o,(av Tryz.f3 0)[0]?=some o/\o.op=.box 24 (.tmp 2)/\o.guard=none/\o.dst=some 6:=Ee;obtain⟨o1,B⟩:∃o,(av Tryz.f3 0)[1]?=some o/\o.op=.box 24 (.tmp 3)/\o.guard=none/\o.dst=some 7:=Ee;obtain⟨o2,A⟩:∃o,(av Tryz.f3 0)[2]?=some o/\o.op=.assign (.const (.F))/\o.guard=none/\o.dst=some 8:=Ee;obtain⟨o3,w⟩:∃o,(av Tryz.f3 1)[0]?=some o/\o.op=.move (.tmp 0)/\o.guard=none/\o.dst=some 23:=ID;obtain⟨o4,t⟩:∃o,(av Tryz.f3 1)[1]?=some o/\o.op=.call {callee:=.value (.func 4),args:=#[.tmp 23,.const (.I 15)],argTypes:=#[22,3]}/\o.guard=none/\o.dst=some 24:=ID;have hrel:∀{M:dh}(x y:Int),aJ (bQ M) #[.I x,.I y] #[.I x,.I y]:=λx y=>og (l:=[.I x,.I y]) λv hv=>by simp at hv;rcases hv with rfl|rfl<;>exact .int _ _
 have O:Home ⟨W.heap.size,W.heap⟩ prog (λb=>b=0) (λ_=>False) W:=by refine⟨λb d=>?_,λg hg=>BK,AA,λb d h=>absurd d h,vac _,λb _ d=>rfl,AA⟩;cases d;refine⟨_,Q,.inl (.cells _ ?_ AA)⟩;obtain⟨l⟩:=di;refine og λv hv=>?_;have hv:=T v AA;cases v<;>first|exact hv.elim|exact .int _ _ |exact .bool _ |exact .string _
 have r:=O.lay (c:=#[.I x,.I y]) 24 (hrel x y);have f6:(mF x y).R (W.alloc (.cells #[.I x,.I y] 24)) (.P W.heap.size 0):=⟨W.heap.size,0,rfl,mj (vaz W _) rfl rfl,mj (vaz W _) rfl rfl⟩;have q:lL W (W.alloc (.cells #[.I x,.I y] 24)):=aAn;have J:cy (λb=>b=0) W (W.alloc (.cells #[.I x,.I y] 24)):=cy.Fo λb d=>vci _ _ _ (O.lt d);have i:ar (bQ λb=>b=0\/b=W.heap.size) (.P W.heap.size 0) (.P W.heap.size 0):=.ptr ⟨⟨rfl,.inr rfl⟩,rfl,rfl⟩;refine ow λ_=>oA (l:=[0,1,2]) AJ λ_=>iT s.1 s.2.1 s.2.2.1 s.2.2.2 e2 λY=>?_;show bP _ _ _ _ _ (a0 ((base 3).at (b.put (some 6) (.P W.heap.size 0)) _) []) ((W.alloc (.cells #[.I x,.I y] 24)).at Y);generalize(W.alloc (.cells #[.I x,.I y] 24))=a at *;have K:=r.lay (c:=#[.I x',.I y']) 24 (hrel x' y');have cw:cJ a (a.alloc (.cells #[.I x',.I y'] 24)):=(vaa _ a).alloc JT _;have X:=(mF x y).fZ _ _ _ cw f6;have I:(mF x' y').R (a.alloc (.cells #[.I x',.I y'] 24)) (.P a.heap.size 0):=⟨a.heap.size,0,rfl,mj (vaz a _) rfl rfl,mj (vaz a _) rfl rfl⟩;have n:∀j,lL a ((a.alloc (.cells #[.I x',.I y'] 24)).at j):=aAo;have F:cy (λb=>b=0\/b=W.heap.size) a (a.alloc (.cells #[.I x',.I y'] 24)):=cy.Fo λb d=>vci _ _ _ (r.lt d);have hq:ar (bQ λb=>(b=0\/b=W.heap.size)\/b=a.heap.size) (.P a.heap.size 0) (.P a.heap.size 0):=.ptr ⟨⟨rfl,.inr rfl⟩,rfl,rfl⟩;have m:=qx (M':=λb=>(b=0\/b=W.heap.size)\/b=a.heap.size) λb(h:b=0\/b=W.heap.size)=>.inl h;refine iT B.1 B.2.1 B.2.2.1 B.2.2.2 ((fY AX).trans e3) λ_=>aAr A.1 A.2.1 A.2.2.1 A.2.2.2 λ_=>aAm (l:=[0,1,2,3]) AJ λ_=>aAs (v:=rv) w.1 w.2.1 w.2.2.1 w.2.2.2 ((fY AX).trans ((fY AX).trans ((fY AX).trans e0))) λf=>?_;show bP _ _ _ _ _ (a0 ((base 3).at ((((b.put (some 6) (.P W.heap.size 0)).put (some 7) (.P a.heap.size 0)).put (some 8) (.F)).put (some 23) rv) _) []) ((a.alloc (.cells #[.I x',.I y'] 24)).at f);generalize(a.alloc (.cells #[.I x',.I y'] 24))=W2 at *;refine aAt t.1 t.2.1 t.2.2.1 t.2.2.2 (mY (by grind[iS])) (K.at f) bC λu M' w' R P hu L C Ox=>?_;have k:=qx P;have Z:=(mF x y).ic 0 trivial _ _ _ _ _ (C.kX (n0:=0) (K.at f)) (i.mono m) X;have V:=(mF x' y').ic 0 trivial _ _ _ _ _ (C.kX (n0:=0) (K.at f)) hq I;have dy:aJ (bQ M') (vN (.I z) (hv x y) (hv x' y') (.P W.heap.size 0) (.P a.heap.size 0) u).tmps (vN (.I z) (hv x y) (hv x' y') (.P W.heap.size 0) (.P a.heap.size 0) u).tmps:=by
  unfold vN;simp only[Act.put];refine aJ.set (aJ.set (aJ.set (aJ.set (aJ.append (og (l:=[undef,.I z,hv x y,hv x' y']) λv hv=>?_) (GJ _ _)) ((i.mono m).mono k) _) (hq.mono k) _) (.bool _) _) hu _;simp at hv;rcases hv with rfl|rfl|rfl|rfl
  .exact .undef _
  .exact .int _ _
  .exact .pk (hrel _ _)
  .exact .pk (hrel _ _)
 have U:1<=w'.heap.size:=vad (vad (vad Zy q.size) (n f).size) L.size;have H:Held ⟨W.heap.size,W.heap⟩ prog M' w' 1 (vN (.I z) (hv x y) (hv x' y') (.P W.heap.size 0) (.P a.heap.size 0) u) M' w' (λ_=>False):=.start R U dy rfl;have eA:af 122 (a2 [(1,a5 z),(6,mF x y),(7,mF x' y'),(24,k8 (ew (rs.take 15)))]) (vN (.I z) (hv x y) (hv x' y') (.P W.heap.size 0) (.P a.heap.size 0) u) w':=by
  refine af.of (by simp[vN,Act.put]) λp i=>?_;simp at i;rcases i with rfl|rfl|rfl|rfl
  .exact⟨_,K7 _ _ _ _ _ _ 1,rfl⟩
  .exact⟨_,K7 _ _ _ _ _ _ 6,Z⟩
  .exact⟨_,K7 _ _ _ _ _ _ 7,V⟩
  .exact⟨_,K7 _ _ _ _ _ _ 24,Ox⟩
 refine aAl (n0:=1) (N _ _ u) H (rs.take 15) AA hz hx hy iF D eA AX λbz m6 S xc E=>fF S ⟨λb h0 d=>E.fH.old b h0 d,λc e fr hw=>?_,?_⟩
 .exact E.keep.cells 0 c e fr ⟨P 0 (.inl J1),AP⟩ (C.cells 0 c e fr (.inl J1) (F.cells 0 c e fr J1 (J.cells 0 c e fr rfl hw)))
 .exact q.trans ((n f).trans (L.trans E.since))
end
section
open ChangeShapes WideShapes ChangeAt Deep
section
variable{H:Type}{enc:TypeId×Value->H}{spare:ubd}{held:Bool}{fuel:Nat}{cs:uad}{x:DataW H×List MemPlace}{w:aS}
theorem wf_i64{n:Int}(h:(Lit.int .i64 n).wf=true):cT n:=by simp[Lit.wf,IntKind.min,IntKind.max,IntKind.signed,IntKind.bits]at h;exact h
def iA{t:g4}{fs:Array Field}(ht:prog.underlying t=some (.struct fs))(a:oneCellFields prog fs=true)(hn:prog.cellsOf t=fs.size)(h:DataW.trod enc prog w 0 spare held fuel t cs=some x):
 cs.length=fs.size/\∀(i:Nat)(f:Field),fs[i]?=some f->∃u y n,cs[i]?=some u/\DataW.trod enc prog w 0 spare held n f.type [u]=some y:=by
 obtain⟨xs,n,-,rfl,e,k,j⟩:=DataW.trod_struct ht h;refine⟨e.trans hn,λi f hi=>?_⟩;obtain⟨c,b⟩:=hone_of a i f hi;have d:i<fs.size:=(vas.1 hi).1;have g:=j i f hi;rw[c,b,take1_drop cs i undef AP,vag AP]at g;grind
def Ey{e:g4}(a:prog.underlying e=some (.int .i64)){u:Value}(h:DataW.trod enc prog w 0 spare held fuel e [u]=some x):∃n,u=.I n/\cT n:=by grind[DataW.trod_int,wf_i64]
def aAz(h:DataW.trod enc prog w 0 spare held fuel 56 cs=some x):∃r:fA,cs=[.I r.1,.I r.2.1,.I r.2.2.1,.I r.2.2.2]/\cT r.1/\cT r.2.1/\cT r.2.2.1/\cT r.2.2.2:=by obtain⟨a,hs⟩:=iA underlying56 Ah Ah h;obtain⟨u0,A,n0,di,g⟩:=hs 0 _ Y;obtain⟨u1,s,n1,c1,f⟩:=hs 1 _ Y;obtain⟨u2,q,ey,bH,e⟩:=hs 2 _ Y;obtain⟨u3,p,o,dB,d⟩:=hs 3 _ Y;obtain⟨n,rfl,w0⟩:=Ey underlying54 g;obtain⟨m,rfl,w1⟩:=Ey underlying54 f;obtain⟨l,rfl,c⟩:=Ey underlying54 e;obtain⟨k,rfl,b⟩:=Ey underlying54 d;refine⟨(n,m,l,k),?_,w0,w1,c,b⟩;have a:cs.length=4:=a;obtain⟨v,l0,rfl,h0⟩:=OT a;obtain⟨a1,l1,rfl,j⟩:=OT h0;obtain⟨z,l2,rfl,i⟩:=OT j;obtain⟨y,t,rfl,u⟩:=OT i;grind
def aAA{v:Value}(L:∀(c:dp) e z,w.heap[0]?=some (.cells c e z)->∀(i:Nat)(n:Int),c[i]?≠some (Value.int .i64 n))(h:DataW.trod enc prog w 0 spare held fuel 22 [v]=some x):∃rs,Hc ⟨w.heap.size,w.heap⟩ v rs:=by
 rcases open_slice underlying22 h with⟨k,rfl⟩|⟨a,len,cap,m,n,D,H,k,-,Q,-,O,rfl,E⟩
 .obtain rfl:v=_:=by simpa using k
  exact⟨[],none,0,Y,AA⟩
 obtain rfl:v=_:=by simpa using k
 have F:len<=m:=AA;have I:prog.cellsOf 56=4:=Ah;have f:∀i,∃r:fA,i<len->(∀j u,[Value.int .i64 r.1,.I r.2.1,.I r.2.2.1,.I r.2.2.2][j]?=some u->w.cell? ((a.add (i*4)).add j)=some u)/\cT r.1/\cT r.2.1/\cT r.2.2.1/\cT r.2.2.2:=λi=>by
  by_cases hi:i<len
  .obtain⟨P,d,l⟩:=E i AP;obtain⟨r,rfl,N⟩:=aAz l;rw[I]at d;obtain⟨-,J,hcell⟩:=World.cells?_some d;grind
  .exact⟨(0,0,0,0),AA⟩
 obtain⟨R,p⟩:=vdn.1 f;refine⟨(List.range len).map R,some a,cap,Ad,λi hi=>?_⟩;have t:i<len:=AA;obtain⟨hc,C,B,A,y⟩:=p i t;simp;obtain⟨b,off,spot⟩:=a;have q:spot=none:=by have:=(p 0 AP).1 0 _ Y;simpa[Addr.add]using World.cell?_spot this
 subst q;have key:∀j,((⟨b,off,none⟩:Addr).add (i*4)).add j=⟨b,off+i*4+j,none⟩:=λj=>by unfold Addr.add;by_cases d:i*4=0<;>by_cases l:j=0<;>simp[d,l]
 have di:=hc 0 _ Y;have c1:=hc 1 _ Y;have bH:=hc 2 _ Y;have dB:=hc 3 _ Y;rw[key]at di c1 bH dB;obtain⟨c,e,z,o,-,K⟩:=xq di;have g:∀j u,w.cell? (.a b j)=some u->c[j]?=some u:=λj u M=>by grind[World.cell?]
 have s:0<b:=by grind
 exact⟨b,off,c,e,z,Y,s,jE o,o,AA,C,B,A,y⟩
end
def aAB(P:b4)(t:Nat->Question->Nat)(os:Os):(begin P t os).world.heap[P.globals.size]?=some (.cells ((Array.range P.types.size).map λt=>.int .u64 (Int.ofNat t)) 0):=by have key:∀(A:Array Obj)(n:Nat),n=A.size->∀a b c d e,(((((A.push a).push b).push c).push d).push e)[n]?=some a:=AA;exact key _ _ Ad _ _ _ _ _
def aAC{W:aS}(h:W.ShapedOpen prog):W.heap[0]?=some (.cells ((Array.range prog.types.size).map λt=>.int .u64 (Int.ofNat t)) 0):=by have h0:prog.globals.size=0:=Ad;have a:=aAB prog (λ_ _=>0) default;rw[h0]at a;obtain⟨o,e,d,c,b⟩:=h.2 0 AP (jE a);simp_all[World.looseAt]
def aAD{B:Nat}:mU (λ_=>False) B 0 1 #[]:=
 ⟨AA,AA,λi a h=>Gm,λsaid=>by rintro⟨i,j,_,⟨a,b,c,_⟩,_⟩;simp[Trace.act?]at c,λi a h=>Gm,λi g h=>by simp[Trace.g?]at h,Y,λi a b h=>Gm⟩
def aAE{P:b4}{Post:uab}{g:uah}{W:aS}(h:bP P Post 1 (λ_=>False) 0 g W):cI.l9 P Post (solo g W) #[]:=by rw[solo_eq_crowd];refine h #[g] none (λ_=>0) #[] Y Y ⟨λi x hi a=>?_,λj b=>Y⟩ aAD;grind
theorem aAF:ownKnob prog.godebug=none:=by kernel_rfl
theorem P4:laidOutB prog=true:=by kernel_rfl
def im{H:Type}{enc:TypeId×Value->H}{spare:ubd}{held:Bool}{fuel:Nat}{x:DataW H×List MemPlace}{w:aS}{cs:dp}(g:DataW.trod enc prog w 0 spare held fuel 24 cs.toList=some x):∃a b:Int,cs=#[.I a,.I b]/\cT a/\cT b:=by obtain⟨h,hs⟩:=iA underlying24 Ah Ah g;obtain⟨u0,j,n0,di,d⟩:=hs 0 _ Y;obtain⟨u1,i,n1,c1,c⟩:=hs 1 _ Y;obtain⟨x,rfl,f⟩:=Ey underlying3 d;obtain⟨y,rfl,e⟩:=Ey underlying3 c;refine⟨x,y,?_,f,e⟩;obtain⟨l⟩:=cs;simp only at di c1 h;grind
def aAG{H:Type}{enc:TypeId×Value->H}{P:b4}{w:aS}{base:Nat}{spare:ubd}{held:Bool}{m l k j:g4}{args:dp}{ds:List (DataW H)}{ps:List MemPlace}(h:DataW.TrodAll enc P w base spare held [m,l,k,j] args.toList ds ps):
 ∃v0 v1 v2 v3 i d1 g f e d c b,args=#[v0,v1,v2,v3]/\ds=[i,d1,g,f]/\ps=e++(d++(c++b))/\DataW.Trod enc P w base spare held m v0 i e/\DataW.Trod enc P w base spare held l v1 d1 d/\DataW.Trod enc P w base spare held k v2 g c/\DataW.Trod enc P w base spare held j v3 f b:=by
 obtain⟨v0,vs,i,y,e,q,A,rfl,rfl,h0,a⟩:=trodAll_cons h;obtain⟨v1,v,d1,u,d,B,rfl,rfl,rfl,p,a⟩:=trodAll_cons a;obtain⟨v2,t,g,s,c,C,rfl,rfl,rfl,o,a⟩:=trodAll_cons a;obtain⟨v3,r,f,x,b,z,rfl,rfl,rfl,n,a⟩:=trodAll_cons a;obtain⟨rfl,rfl,rfl⟩:=trodAll_nil a;exact⟨v0,v1,v2,v3,i,d1,g,f,e,d,c,b,by cases args;simp_all,Y,Ad,h0,p,o,n⟩
def aAH(os:Os)(started:os.Started)(H:Type)(enc:TypeId×Value->H)(F:Stop.Interp):
 ReturnsInLeavingWide Rows.pagedRow.assume checked os 3 .any (Rows.pagedSpec.pre6 enc prog Tryz.f3 Rows.pagedRow.domain false) ((OpenSpec.ofChange Rows.pagedSpec).postWith enc prog Tryz.f3 F (outsideKept [.timePasses]) false true false):=by
 refine returnsInLeavingWide_of_good (C:=checked) aAF started
  (ChangeSpec.witness6c (enc:=enc) (C:=checked) ⟨#[],#[.N,.I 0,.agg #[.I 0,.I 0],.agg #[.I 0,.I 0]],[]⟩ 8 Ah Ah Ah Ah) ?_
 intro w tape i _ l _ hok Kf _;obtain⟨_,_,_,O,R1,_,_,_,_,hval⟩:=hok;obtain rfl:O=Tryz.f3:=van (R1.symm.trans func3);obtain⟨⟨ds,gs,before,A,-⟩,-⟩:=Kf;have g:=DataW.Whole.of_heap (w':=w.forCall tape i) BJ A;have l:(w.forCall tape i).ShapedOpen prog:=l;clear A;generalize aGB:w.forCall tape i=W at *;obtain⟨vars,args,more⟩:=i;simp only at hval g⊢;have hval:∀(j:Nat) t v,Tryz.f3.params[j]?=some t->args[j]?=some v->Value.okWide prog W .any w.heap.size t v:=hval;have m:=g;obtain⟨p,q,hA0,B4,rfl,_,_⟩:=g;have k:DataW.TrodAll enc prog W 0 (λ_=>true) true Tryz.f3.params.toList args.toList ds p:=hA0;rw[params3]at k hval;obtain⟨v0,v1,v2,v3,d0,d1,d2,d3,M,L,K,J,rfl,rfl,rfl,u,s,r,n⟩:=aAG k;obtain⟨rfl,rfl⟩:=trodVars_none B4;clear hA0 k;simp only[vcb]at m;have T:∀x∈M++(L++(K++J)),x.block<W.heap.size:=λx f=>by simpa using m.lt x f
 have h0:=aAC l;obtain⟨cC,len,cap,rfl⟩:=okWide_slice underlying22 (hval 0 22 v0 rfl rfl);obtain⟨uU,rfl,pp⟩:=okWide_struct underlying24 (hval 2 24 v2 rfl rfl);obtain⟨aGC,rfl,aGD⟩:=okWide_struct underlying24 (hval 3 24 v3 rfl rfl);obtain⟨f0,X⟩:=id u;obtain⟨f1,g1⟩:=id s;obtain⟨ir,V⟩:=id r;obtain⟨f3,Y⟩:=id n;obtain⟨rs,bC⟩:=aAA (w:=W) AA (by simpa[Value.cells]using X);obtain⟨z,rfl⟩:=okWide_int underlying3 (hval 1 3 v1 rfl rfl);obtain⟨z',Z,Q⟩:=Ey underlying3 (by simpa[Value.cells]using g1);cases Z;obtain⟨x,y,rfl,f,R⟩:=im V;obtain⟨x',y',rfl,P,d⟩:=im Y;obtain⟨N,last,o,w',cA,r1,D,B,v,e,S,br,bn,I,E⟩:=aAE (aAv (Post:=λv w'=>v=.T/\iZ W w') Q f R P d ⟨_,_,h0,λv hv=>by
  obtain⟨t,-,rfl⟩:=Array.mem_map.1 hv;trivial⟩ bC AA)
 refine⟨N,last,o,w',cA,r1,D,B,v,e,?_,br,bn,I,E⟩;obtain⟨rfl,a⟩:=S;have c:cJ W {w' with os:=W.os}:=by
  refine⟨rfl,a.since.tape,a.since.output,a.since.size,λb U=>?_⟩;rcases vbl b with rfl|h
  .exact(a.first _ _ _ h0).trans h0.symm
  .exact a.old b h U
 have HQ:Rows.pagedSpec.post enc prog Tryz.f3 false true false false W #[.slice cC len cap,.I z,.agg #[.I x,.I y],.agg #[.I x',.I y']] (.T) {w' with os:=W.os}:=
  ⟨_,_,_,[],_,[],m,trodAll_mk1 (shut_bool underlying4 true),trodAll_mk4 (Below.trod P4 Ah (vdv Ad) u c AA) (Below.trod P4 Ah (vdv Ad) s c AA) (Below.trod P4 Ah (vdv Ad) r c AA) (Below.trod P4 Ah (vdv Ad) n c AA),rfl,c.frame _,AA⟩
 exact postWith_blind (postWith_of_post HQ a.since.later)
end
end zn
theorem paged_holds:Rows.PagedSaid:=
 OpenClaim.holds_of_wide_leaving_time 3 Tryz.f3 Y Y Y Y Y Y Y ⟨Y,Y,Y,Y,Y⟩ Y Y Y Y Y Ah func3 Ah
  (vdv Ah) (by unfold Func.isWrapper;first|(rw[vby AJ];kernel_rfl)|(rw[vbq AJ];exact⟨Y,Y⟩))
  (λos started H enc _ F=>zn.aAH os started H enc F)
