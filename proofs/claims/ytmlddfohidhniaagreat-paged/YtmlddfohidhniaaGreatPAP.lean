import Derived.Test.YtmlddfohidhniaaGreatPAL
import Derived.Test.YtmlddfohidhniaaGreatPAM
set_option linter.all false
set_option maxRecDepth 100000
set_option maxHeartbeats 16000000
namespace Go.Proofs.YtmlddfohidhniaaGreat
open Go.Proofs.Tryz
namespace bS
open RowKit ax a3
def mB(l:List cR):List Value:=l.flatMap λd=>[.bool d.dH,.I d.num,.I d.bV,.string d.text]
def S0(l:List cR):(mB l).length=l.length*4:=by induction l with|nil=>rfl|cons a l b=>simp only[mB,List.flatMap_cons,vbg,vdm]at b⊢;simp at b⊢;omega
def aoE(l l':List cR):mB (l++l')=mB l++mB l':=by simp[mB]
theorem S9:∀(l:List cR)(i:Nat)(h:i<l.length),(mB l)[i*4]?=some (.bool l[i].dH)/\(mB l)[i*4+1]?=some (.I l[i].num)/\(mB l)[i*4+2]?=some (.I l[i].bV)/\(mB l)[i*4+3]?=some (.string l[i].text)
 | [],i,h=>by simp at h
 |d::l,0,_=>⟨Y,Y,Y,Y⟩
 |d::l,i+1,h=>by have:=S9 l i EJ;have e:mB (d::l)=[.bool d.dH,.I d.num,.I d.bV,.string d.text]++mB l:=rfl;rw[e,show(i+1)*4=i*4+4 by omega,show i*4+4+1=(i*4+1)+4 by omega,show i*4+4+2=(i*4+2)+4 by omega,show i*4+4+3=(i*4+3)+4 by omega];simpa using this
variable{w:aS}{v:Value}
def SZ{l:List cR}(h:i8 w v l):x1 4 w (λ_=>some v) (l.length,mB l):=by
 obtain⟨a,c,rfl,-,g⟩:=h;refine⟨a,c,Y,S0 l,λu f=>?_,λh0=>?_⟩
 .simp only[mB,List.mem_flatMap]at f;obtain⟨d,-,f⟩:=f;simp at f;rcases f with rfl|rfl|rfl|rfl<;>rfl
 .obtain⟨b,off,rfl,-⟩:=g 0 h0;refine⟨b,off,Y,λj u f=>?_⟩;have q:j<l.length*4:=by rw[<-S0];exact(vab.1 f).1
  obtain⟨i,r,rfl,p⟩:∃i r,j=i*4+r/\r<4:=⟨j / 4,j % 4,AP,AP⟩;have hi:i<l.length:=AP;obtain⟨s,o,e,f0,f1,ir,f3,-⟩:=g i hi;cases e;obtain⟨m,g1,k,n⟩:=S9 l i hi;simp only[Nat.add_assoc,vbz]at f0 f1 ir f3;obtain rfl|rfl|rfl|rfl:r=0\/r=1\/r=2\/r=3:=AP
  .rw[vbz,m]at f;cases f;exact f0
  .rw[g1]at f;cases f;exact f1
  .rw[k]at f;cases f;exact ir
  .rw[n]at f;cases f;exact f3
def SY{l:uay}(h:dP w v l):x1 1 w (λ_=>some v) (l.length,l.map (Value.int .i64)):=by
 obtain⟨a,c,rfl,-,g⟩:=h;refine⟨a,c,Y,Ad,λu f=>?_,λh0=>?_⟩
 .simp at f;obtain⟨d,-,rfl⟩:=f;rfl
 .obtain⟨b,off,rfl,-⟩:=g 0 h0;refine⟨b,off,Y,λj u f=>?_⟩;simp only[vbd,vaj]at f;obtain⟨n,hn,rfl⟩:=f;obtain⟨i,rfl⟩:=vab.1 hn;obtain⟨m,k,e,f0⟩:=g j i;cases e;simpa[qb]using f0
variable{e:g4}
def aoF{base:Nat}{l:List cR}(h:w.ownsRow base e 4 v l.length (mB l))(a:l.length<=9223372036854775807)(ht:∀d∈l,d.text.size<=9223372036854775807):i8 w v l:=by
 rcases h.2 with⟨rfl,h0⟩|⟨g,cap,bd,rfl,-,hg,-,-,-,j⟩
 .have:l=[]:=vbo AA;subst this;exact aX.nil _ _ _
 .refine⟨_,cap,Y,a,λi hi=>⟨g,0,Y,?_⟩⟩;obtain⟨c,g1,b,f⟩:=S9 l i hi;have hc:∀o v,(mB l)[o]?=some v->w.cell? (.a g (0+o))=some v:=by intro o v k;rw[vbm];grind[World.cell?]
  exact⟨hc _ _ c,hc _ _ g1,hc _ _ b,hc _ _ f,ht _ (vax hi)⟩
def aoG{base:Nat}{l:uay}(h:w.ownsRow base e 1 v l.length (l.map (Value.int .i64)))(a:l.length<=9223372036854775807):dP w v l:=by
 rcases h.2 with⟨rfl,h0⟩|⟨g,cap,bd,rfl,-,hg,-,-,-,b⟩
 .have:l=[]:=vbo AA;subst this;exact aX.nil _ _ _
 .refine⟨_,cap,Y,a,λi hi=>⟨g,0,Y,?_⟩⟩;have hc:(l.map (Value.int .i64))[i]?=some (.I l[i]):=by simp[hi]
  simp only[qb];grind[World.cell?]
def wS(place:uay)(vals:List cR)(W:aS)(x:Value):Prop:=
 ∃pv jH b1 b2,x=.agg #[pv,jH]/\W.ownsRow b1 3 1 pv place.length (place.map (Value.int .i64))/\W.ownsRow b2 93 4 jH vals.length (mB vals)
def SS:(ae prog false).funcs[(200:Nat)]?=some f200:=bw (upd:=false) func200 AJ
@[simp] theorem aDX:cQ false 200:=c0 SS AJ
variable{w':aS}{ats:uaq}
section
def H3{base:Nat}{size n:Nat}{xs:uad}(h:w.ownsRow base e size v n xs)(b:cJ w w'):w'.ownsRow base e size v n xs:=by refine⟨h.1,h.2.imp_right ?_⟩;rintro⟨g,cap,bd,f,d,a,c⟩;exact⟨g,cap,bd,f,d,(b.block g (jE a)).trans a,c⟩
def Nq{base B k:Nat}{T:g4}{size n:Nat}{u:Value}{xs:uad}{cs:dp}(h:w.ownsRow base e size v n xs)(c:ai w B cs T)(a:e≠T):(w.setCell ⟨B,k,none⟩ u).ownsRow base e size v n xs:=by
 refine⟨h.1,h.2.imp_right ?_⟩;rintro⟨g,cap,bd,i,f,b,d⟩;refine⟨g,cap,bd,i,f,?_,d⟩;rw[vaq _ _ _ _ (show g≠B from ?_)]
 .exact b
 .rintro rfl;rw[show w.heap[g]?=_ from c]at b;cases b;exact a Y
def wS.fZ{p:uay}{l:List cR}:rC (wS p l):=λ_ _ _ a⟨pv,b,b1,f,e,d,c⟩=>⟨pv,b,b1,f,e,H3 d a,H3 c a⟩
def yi{p:uay}(a:cJ w w')(h:dP w v p):dP w' v p:=aX.mono j6 (bo.bX a) h
def yj{p:List cR}(a:cJ w w')(h:i8 w v p):i8 w' v p:=aX.mono wy (bo.bX a) h
def wT(R:uaz)(h:rC R):bb:=⟨R,h,λ_=>False,λ_ h=>h.elim⟩
def Nr(p:uay)(l:List cR):bb:=wT (λw v=>∃B x y,v=.P B 0/\w.cell? (.a B 0)=some x/\w.cell? (.a B 1)=some y/\dP w x p/\i8 w y l) λ_ _ _ hb⟨B,x,y,h0,h1,h2,h3,h4⟩=>⟨B,x,y,h0,bo.bX hb _ _ _ h1,bo.bX hb _ _ _ h2,yi hb h3,yj hb h4⟩
def SN(p:uay):bb:=wT (λw v=>∃B k x,v=.P B k/\w.cell? (.a B k)=some x/\dP w x p) λ_ _ _ hb⟨B,k,x,h0,h1,h2⟩=>⟨B,k,x,h0,bo.bX hb _ _ _ h1,yi hb h2⟩
def SD(l:List cR):bb:=wT (λw v=>∃B k x,v=.P B k/\w.cell? (.a B k)=some x/\i8 w x l) λ_ _ _ hb⟨B,k,x,h0,h1,h2⟩=>⟨B,k,x,h0,bo.bX hb _ _ _ h1,yj hb h2⟩
def S_(p:uay):bb:=wT (λw v=>dP w v p) λ_ _ _ hb h=>yi hb h
def Ta(l:List cR):bb:=wT (λw v=>i8 w v l) λ_ _ _ hb h=>yj hb h
def Su(p p':uay):bb:=wT (λw v=>∃b x y,v=.S b 0 2 2/\w.cell? (.a b 0)=some x/\w.cell? (.a b 1)=some y/\dP w x p/\dP w y p') λ_ _ _ hb⟨B,x,y,h0,h1,h2,h3,h4⟩=>⟨B,x,y,h0,bo.bX hb _ _ _ h1,bo.bX hb _ _ _ h2,yi hb h3,yi hb h4⟩
def Ss(p p':List cR):bb:=wT (λw v=>∃b x y,v=.S b 0 2 2/\w.cell? (.a b 0)=some x/\w.cell? (.a b 1)=some y/\i8 w x p/\i8 w y p') λ_ _ _ hb⟨B,x,y,h0,h1,h2,h3,h4⟩=>⟨B,x,y,h0,bo.bX hb _ _ _ h1,bo.bX hb _ _ _ h2,yj hb h3,yj hb h4⟩
def Ns(T:g4)(c6 n:Nat)(xs:uad):bb:=wT (λw v=>∃b,w.ownsRow b T c6 v n xs) λ_ _ _ hb⟨b,h⟩=>⟨b,H3 h hb⟩
def Sr(p:uay)(l:List cR):bb:=wT (wS p l) wS.fZ
def Sq(n0:Nat):bb:=wT (λw v=>∃B cs,v=.P B 0/\n0<=B/\ai w B cs 76/\cs.size=2) λ_ _ _ hb⟨B,cs,h0,h1,h2,h3⟩=>⟨B,cs,h0,h1,h2.call hb,h3⟩
variable{N:Nat}{K:bL}{o:Oper}{x y:uar}{p p':uay}{l l':List cR}
def Sp(b:o.op=.fieldAddr 76 x 0)(c:bh K x (Nr p l)):bF (ae prog false) N K o (SN p):=λa w hk=>.inl (by
 obtain⟨B,u,v,e,f,h,d,g⟩:=hk.ev c;generalize a.eval=ev at *;refine⟨.P B 0,w,?_,⟨B,0,u,Y,f,d⟩,vaa _ _⟩;cases o;simp only at b;subst b;go_simp)
def Sn(b:o.op=.fieldAddr 76 x 1)(c:bh K x (Nr p l)):bF (ae prog false) N K o (SD l):=λa w hk=>.inl (by
 obtain⟨B,u,v,e,h,f,g,d⟩:=hk.ev c;generalize a.eval=ev at *;refine⟨.P B 1,w,?_,⟨B,1,v,Y,f,d⟩,vaa _ _⟩;cases o;simp only at b;subst b;go_simp)
def Sf(b:o.op=.load 73 x)(d:bh K x (SN p)):bF (ae prog false) N K o (S_ p):=λa w hk=>.inl (by
 obtain⟨B,k,u,e,f,c⟩:=hk.ev d;have h:=ff f;obtain⟨g,i,rfl,-⟩:=c.shape;generalize a.eval=ev at *;refine⟨_,w,?_,c,vaa _ _⟩;cases o;simp only at b;subst b;go_simp)
def Sb(b:o.op=.load 74 x)(d:bh K x (SD l)):bF (ae prog false) N K o (Ta l):=λa w hk=>.inl (by
 obtain⟨B,k,u,e,f,c⟩:=hk.ev d;have h:=ff f;obtain⟨g,i,rfl,-⟩:=c.shape;generalize a.eval=ev at *;refine⟨_,w,?_,c,vaa _ _⟩;cases o;simp only at b;subst b;go_simp)
def aoI(e:o.op=.buildSlice 289 2 #[(0,x),(1,y)])(h:bh K x (S_ p))(g:bh K y (S_ p')):bF (ae prog false) N K o (Su p p'):=λa w hk=>.inl (by
 have d:dP w (a.eval x) p:=hk.ev h;have c:dP w (a.eval y) p':=hk.ev g;obtain⟨a1,c1,j,-⟩:=d.shape;obtain⟨f,bH,i,-⟩:=c.shape;rw[j]at d;rw[i]at c;generalize a.eval=ev at *;cases o;simp only at e;subst e;have b:=(vaa _ w).alloc JT (.cells #[.slice a1 p.length c1,.slice f p'.length bH] 73);exact⟨.S w.heap.size 0 2 2,w.alloc (.cells #[.slice a1 p.length c1,.slice f p'.length bH] 73),Ap,⟨_,_,_,Y,(ai.new w _ _).rules.1 0,(ai.new w _ _).rules.1 1,yi b d,yi b c⟩,b⟩)
def aoJ(e:o.op=.buildSlice 291 2 #[(0,x),(1,y)])(h:bh K x (Ta l))(g:bh K y (Ta l')):bF (ae prog false) N K o (Ss l l'):=λa w hk=>.inl (by
 have d:i8 w (a.eval x) l:=hk.ev h;have c:i8 w (a.eval y) l':=hk.ev g;obtain⟨a1,c1,j,-⟩:=d.shape;obtain⟨f,bH,i,-⟩:=c.shape;rw[j]at d;rw[i]at c;generalize a.eval=ev at *;cases o;simp only at e;subst e;have b:=(vaa _ w).alloc JT (.cells #[.slice a1 l.length c1,.slice f l'.length bH] 74);exact⟨.S w.heap.size 0 2 2,w.alloc (.cells #[.slice a1 l.length c1,.slice f l'.length bH] 74),Ap,⟨_,_,_,Y,(ai.new w _ _).rules.1 0,(ai.new w _ _).rules.1 1,yj b d,yj b c⟩,b⟩)
def Sa{d:Nat}{b:Nat}{x y:Value}{q q':Nat×List Value}(j:w.cell? (.a b 0)=some x)(g:w.cell? (.a b 1)=some y)(r1:x1 d w (λ_=>some x) q)(f:x1 d w (λ_=>some y) q'):aX w 1 (x1 d) (.S b 0 2 2) [q,q']:=by
 refine⟨_,_,Y,Ad,λi hi=>⟨b,0,Y,?_⟩⟩;obtain rfl|rfl:i=0\/i=1:=by simp at hi;omega
 .obtain⟨a,c,e,h⟩:=r1;exact⟨a,c,j.trans e,h⟩
 .obtain⟨a,c,e,h⟩:=f;exact⟨a,c,g.trans e,h⟩
def R_(q q':Nat×List Value)(k:Nat):dS [q,q'] k<=q.1+q'.1:=by rcases k with _ | _ |k<;>simp[dS]
def aoK(c:o.op=.call {callee:=.value (.func 202),args:=#[x],argTypes:=ats})(d:bh K x (Su p p'))(hs:p.length+p'.length<=1000):bF (ae prog false) N K o (Ns 3 1 (p++p').length ((p++p').map (Value.int .i64))):=λa w hk=>.inr (by
 obtain⟨b,u,v,e,m,l,j,i⟩:=hk.ev d;refine⟨_,#[a.eval x],?_,(amC [(p.length,p.map (Value.int .i64)),(p'.length,p'.map (Value.int .i64))] _ w (by rw[e];exact Sa m l (SY j) (SY i)) Ad (λk=>vad (R_ _ _ k) Aq)).mono ?_⟩
 .have ef:∀f,a.eval (.func f)=.func (.func f) #[] #[]:=λ_=>Y;generalize a.eval=ev at *;cases o;simp only at c;subst c;simp[execOp,resolve,invoke,ef,go_sem]
 .rintro _ w' ⟨v,rfl,h,g⟩;exact⟨v,Y,⟨w.heap.size,by simpa[dS,l7]using h⟩,g⟩)
def aoL(c:o.op=.call {callee:=.value (.func 203),args:=#[x],argTypes:=ats})(d:bh K x (Ss l l'))(hs:l.length+l'.length<=1000):bF (ae prog false) N K o (Ns 93 4 (l++l').length (mB (l++l'))):=λa w hk=>.inr (by
 obtain⟨b,u,v,e,n,m,j,i⟩:=hk.ev d;refine⟨_,#[a.eval x],?_,(amF [(l.length,mB l),(l'.length,mB l')] _ w (by rw[e];exact Sa n m (SZ j) (SZ i)) Ad (λk=>vad (R_ _ _ k) Aq)).mono ?_⟩
 .have ef:∀f,a.eval (.func f)=.func (.func f) #[] #[]:=λ_=>Y;generalize a.eval=ev at *;cases o;simp only at c;subst c;simp[execOp,resolve,invoke,ef,go_sem]
 .rintro _ w' ⟨v,rfl,h,g⟩;exact⟨v,Y,⟨w.heap.size,by simpa[dS,l7,aoE]using h⟩,g⟩)
def aoM(b:o.op=.build 76 #[(0,x),(1,y)])(f:bh K x (Ns 3 1 p.length (p.map (Value.int .i64))))(e:bh K y (Ns 93 4 l.length (mB l))):bF (ae prog false) N K o (Sr p l):=λa w hk=>.inl (by
 obtain⟨b1,d⟩:=hk.ev f;obtain⟨i,c⟩:=hk.ev e;obtain⟨a1,c1,h⟩:=h9 d;obtain⟨j,bH,g⟩:=h9 c;refine⟨.agg #[a.eval x,a.eval y],w,?_,⟨_,_,b1,i,Y,d,c⟩,vaa _ _⟩;rw[h,g];generalize a.eval=ev at *;cases o;simp only at b;subst b;go_simp)
def aoN{N:Nat}{a':Act}{l:List (Nat×bb)}(a7:a'.tmps.size=N)(b:∀p∈l,∃v,a'.tmps[p.1]?=some v/\p.2.R w' v):af N (a2 l) a' w':=by
 refine⟨a7,λs F e=>?_⟩;have key:∀l:List (Nat×bb),a2 l s=some F->(s,F)∈l:=by intro l;induction l with|nil=>intro e;cases e|cons p l a=>grind[a2]
 grind
end
def aoO(b a:uay)(l1 l2:List cR)(k j n l:Value)(w:aS)(M:dP w k b)(E:i8 w j l1)(z:dP w n a)(D:i8 w l l2)(hs:b.length+a.length<=1000/\l1.length+l2.length<=1000):
 Calls (ae prog false) 200 #[.agg #[k,j],.agg #[n,l]] w λe w'=>∃x,e=.returned x/\wS (b++a) (l1++l2) w' x/\cJ w w':=by
 obtain⟨a1,c1,rfl,-⟩:=M.shape;obtain⟨g,bH,rfl,-⟩:=E.shape;obtain⟨f,dB,rfl,-⟩:=z.shape;obtain⟨h,d,rfl,-⟩:=D.shape;go_enter SS,ntmps200
 go_wp2_with fail
 have C:=((ai.new w #[.slice a1 b.length c1,.slice g l1.length bH] 76).alloc (.cells #[.slice f a.length dB,.slice h l2.length d] 76)).alloc (.cells #[.N,.N] 76);have r:=(ai.new (w.alloc (.cells #[.slice a1 b.length c1,.slice g l1.length bH] 76)) #[.slice f a.length dB,.slice h l2.length d] 76).alloc (.cells #[.N,.N] 76);have F:=ai.new ((w.alloc (.cells #[.slice a1 b.length c1,.slice g l1.length bH] 76)).alloc (.cells #[.slice f a.length dB,.slice h l2.length d] 76)) #[.N,.N] 76;have c:cJ w (((w.alloc (.cells #[.slice a1 b.length c1,.slice g l1.length bH] 76)).alloc (.cells #[.slice f a.length dB,.slice h l2.length d] 76)).alloc (.cells #[.N,.N] 76)):=(((vaa _ w).alloc JT _).alloc Ad _).alloc Aq _;simp at r F;generalize((w.alloc (.cells #[.slice a1 b.length c1,.slice g l1.length bH] 76)).alloc (.cells #[.slice f a.length dB,.slice h l2.length d] 76)).alloc (.cells #[.N,.N] 76)=W at *;refine S4 (N:=18) (m:=13) (K:=a2 [(2,Nr b l1),(3,Nr a l2),(4,Sq w.heap.size)]) (dq rfl (Sp rfl rfl)<|dq rfl (Sf rfl rfl)<|dq rfl (Sp rfl rfl)<|dq rfl (Sf rfl rfl)<|dq rfl (aoI rfl rfl rfl)<|dq rfl (aoK rfl rfl hs.1)<|dq rfl (Sn rfl rfl)<|dq rfl (Sb rfl rfl)<|dq rfl (Sn rfl rfl)<|dq rfl (Sb rfl rfl)<|dq rfl (aoJ rfl rfl rfl)<|dq rfl (aoL rfl rfl hs.2)<|dq rfl (aoM rfl rfl rfl)<|rfl) (aoN rfl λq hq=>?_) rfl Ah AJ ?_
 .simp only[vbn,vcy,or_false]at hq;rcases hq with rfl|rfl|rfl
  .exact⟨_,rfl,_,_,_,rfl,C.rules.1 0,C.rules.1 1,aX.mono j6 (bo.bX c) M,aX.mono wy (bo.bX c) E⟩
  .exact⟨_,rfl,_,_,_,rfl,r.rules.1 0,r.rules.1 1,aX.mono j6 (bo.bX c) z,aX.mono wy (bo.bX c) D⟩
  .exact⟨_,rfl,_,_,rfl,AP,F,rfl⟩
 .intro a' w' hk hd S;obtain⟨x,H,P⟩:=hk.has 17 (Sr (b++a) (l1++l2)) rfl;obtain⟨X,u,B,cs,rfl,A,p,Q⟩:=hk.has 4 (Sq w.heap.size) rfl;obtain⟨pv,Y,b1,U,rfl,t,s⟩:=P;obtain⟨y,d1,rfl⟩:=h9 t;obtain⟨ed,I,rfl⟩:=h9 s;have g1:=d_ H;have T:=d_ u;obtain⟨o,g7,Z⟩:=p.all;have V:w'.cell? (.a B 0)=some (cs[0]'AP):=by rw[o];simp
  have O:w'.cell? (.a B 1)=some (cs[1]'AP):=by rw[o];simp
  rename_i J;refine kh (i:=13) (rest:=[]) (R:=λa1 w1=>a1=a'/\w1=(w'.setCell ⟨B,0,none⟩ (.slice y (b++a).length d1)).setCell ⟨B,1,none⟩ (.slice ed (l1++l2).length I)) (tV rfl rfl rfl ?_ ⟨rfl,rfl⟩) ?_
  .clear J hk H u o;generalize a'.eval=ev at *;go_simp
  .rintro _ _ ⟨rfl,rfl⟩;refine J _ _ ?_;have L:=p.set 0 (.slice y (b++a).length d1);clear hk g1 T o;refine wp_ret ?_;change bodyPost (ae prog false) f200 (λe w'=>∃x,e=.returned x/\wS (b++a) (l1++l2) w' x/\cJ w w') .ret _ _;refine vbu (v:=.agg #[.slice y (b++a).length d1,.slice ed (l1++l2).length I]) ?_ hd ⟨_,rfl,⟨_,_,b1,U,rfl,Nq (Nq t p AX) L AX,Nq (Nq s p AX) L AX⟩,?_⟩
   .clear t s;simp[results,results200,go_sem,vdf,u,V,O]
   .exact((c.trans (S.mono c.size)).setCell A _).setCell A _
end bS
namespace bS
open RowKit ax
def aoQ{a b:ByteArray}(h:a.toList=b.toList):a=b:=by rw[ByteArray.toList_eq,ByteArray.toList_eq]at h;obtain⟨⟨a⟩⟩:=a;obtain⟨⟨b⟩⟩:=b;simp at h;rw[h]
def tW(a b:cR):Bool:=a.dH==b.dH&&a.num==b.num&&a.bV==b.bV&&decide (a.text=b.text)
def aoR{a b:cR}:tW a b=true↔a=b:=by obtain⟨a1,d,c,f⟩:=a;obtain⟨b1,g,e,a8⟩:=b;simp[tW];grind
def wU(q q':c2):Bool:=tW q.1 q'.1&&tW q.2.1 q'.2.1&&tW q.2.2.1 q'.2.2.1&&tW q.2.2.2 q'.2.2.2
variable{q q':c2}
def F3:wU q q'=true↔q=q':=by obtain⟨a,b,c,d⟩:=q;obtain⟨a',g,f,e⟩:=q';simp[wU,aoR];grind
def Ur(u:Bool)(a b:cR)(w:aS):(Op.equalIn 9999 93 (oI a) (oI b)).run (ae prog u) w=.ok (tW a b) w:=by
 obtain⟨a1,i,h,k⟩:=a;obtain⟨b1,l,j,a8⟩:=b;by_cases g:a1=b1<;>by_cases f:i=l<;>by_cases d:h=j<;>by_cases c:k=a8
 all_goals go_simp
 all_goals simp[tW,g,f,d,c]
 all_goals exact λe=>c (aoQ e)
def Nt(u:Bool)(q:c2)(k:Nat)(h:k<4)(w:aS):(part 93 (cg q) (k*4)).run (ae prog u) w=.ok (oI (Iv q)[k]) w:=by rcases k with _ | _ | _ | _ |k<;>first|omega|kernel_rfl
def aoS(u:Bool)(q q':c2)(w:aS):(Op.equal 140 (.agg (cg q)) (.agg (cg q'))).run (ae prog u) w=.ok (wU q q') w:=by obtain⟨i,hi⟩:∃i,(ae prog u).info? 93=some i:=Option.isSome_iff_exists.1 Ah;show(Op.equalIn (9999+1) _ _ _).run _ w=_;rw[run_equalIn_array (P:=ae prog u) w 9999 (n:=4) (e:=93) (cg q) (cg q') Ah hi];have hc:(ae prog u).cellsOf 93=4:=Ah;rw[hc,show List.range 4=[0,1,2,3]from Y];have d:∀q w,(part 93 (cg q) 0).run (ae prog u) w=.ok (oI q.1) w:=λq w=>Nt u q 0 AP w;have c:∀q w,(part 93 (cg q) 4).run (ae prog u) w=.ok (oI q.2.1) w:=λq w=>Nt u q 1 AP w;have b:∀q w,(part 93 (cg q) 8).run (ae prog u) w=.ok (oI q.2.2.1) w:=λq w=>Nt u q 2 AP w;have a:∀q w,(part 93 (cg q) 12).run (ae prog u) w=.ok (oI q.2.2.2) w:=λq w=>Nt u q 3 AP w;simp only[Op.eqItems,vdp,Nat.zero_mul,Nat.one_mul,Nat.reduceMul,d,c,b,a,vbt,Ur];cases j:tW q.1 q'.1<;>cases h:tW q.2.1 q'.2.1<;>cases g:tW q.2.2.1 q'.2.2.1<;>cases f:tW q.2.2.2 q'.2.2.2<;>simp[c,b,a,Ur,j,h,g,f,wU]
def Nu(es:List MapEntry):Prop:=∀e∈es,∃q,e.key=.agg (cg q)
def Nv(h:Value.agg (cg q)=.agg (cg q')):q=q':=by obtain⟨⟨a1,s,r,u⟩,⟨b1,v,t,a8⟩,⟨c1,bH,dB,p⟩,⟨d1,o,n,m⟩⟩:=q;obtain⟨⟨l,k,j,i⟩,⟨f1,ir,f3,f4⟩,⟨g1,f,g,e⟩,⟨d,c,b,a⟩⟩:=q';simp[cg]at h;grind
theorem Uq(u:Bool)(q:c2)(w:aS):∀(es:List MapEntry)(i:Nat),Nu es->
 ((Instr.findAsking 140 (.agg (cg q)) es i).run (ae prog u) w=.ok none w/\∀e∈es,e.key≠ .agg (cg q))\/∃j e,(Instr.findAsking 140 (.agg (cg q)) es i).run (ae prog u) w=.ok (some (i+j,e.val)) w/\es[j]?=some e/\e.key=.agg (cg q)
 | [],i,_=>.inl ⟨by simp[Instr.findAsking],Ad⟩
 |e::es,i,hk=>by
  obtain⟨q',hq⟩:=hk e Ad;simp only[Instr.findAsking,vdp,hq,aoS,vbt];cases f:wU q q' with
  |true=>obtain rfl:=F3.1 f;exact .inr ⟨0,e,Ad,Y,hq⟩
  |false=>
   rcases Uq u q w es (i+1) (λe g=>hk e (by simp[g]))with⟨c,b⟩|⟨j,d,c,b,k⟩
   .refine .inl ⟨FZ,λd a=>?_⟩;simp at a;rcases a with rfl|a
    .rw[hq];intro h;have:=Nv h;subst this;rw[F3.2 Y]at f;cases f
    .exact b d a
   .exact .inr ⟨j+1,d,by rw[show i+(j+1)=i+1+j by omega];simpa using c,by simpa using b,k⟩
def Uk(u:Bool)(q:c2)(w:aS)(es:List MapEntry)(hk:Nu es):
 ((Instr.findKey 140 (.agg (cg q)) es).run (ae prog u) w=.ok none w/\∀e∈es,e.key≠ .agg (cg q))\/∃j e,(Instr.findKey 140 (.agg (cg q)) es).run (ae prog u) w=.ok (some (j,e.val)) w/\es[j]?=some e/\e.key=.agg (cg q):=by
 have b:(ae prog u).underlying 140=some (.array 4 93):=Ah;have d:(Instr.findKey 140 (.agg (cg q)) es).run (ae prog u) w=(Instr.findAsking 140 (.agg (cg q)) es).run (ae prog u) w:=by unfold Instr.findKey;simp only[vdp,run_underlying b,vbt];cases es with|nil=>simp[Instr.findNow,Instr.findAsking]|cons e es=>simp[Instr.findNow,Instr.sameNow]
 rw[d];rcases Uq u q w es 0 hk with h|⟨j,e,a,c⟩
 .exact .inl h
 .exact .inr ⟨j,e,by rw[vbm]at a;exact a,c⟩
def F4(u em:Bool)(q:c2)(w:aS):(Instr.checkKey em 10000 140 (.agg (cg q))).run (ae prog u) w=.ok () w:=by cases em<;>kernel_rfl
def aoT(s:ByteArray):(s==s)=true:=by obtain⟨d⟩:=s;show(d==d)=true;simp
def lO(w:aS)(m:Nat)(F:c2->List aZ):Prop:=
 ∃es eW,w.heap[m]?=some (.map es eW)/\(∀e∈es.toList,∃q,e.key=.agg (cg q)/\fG w e.val (F q))/\∀q,(∀e∈es.toList,e.key≠ .agg (cg q))->F q=[]
theorem Ui(u:Bool)(w:aS):(zeroValue 66).run (ae prog u) w=.ok (.N) w:=by kernel_rfl
theorem Uh(u:Bool):(ae prog u).underlying 106=some (.map 140 66):=by kernel_rfl
variable{m:Nat}
def aoU(u:Bool){w w0:aS}{F:c2->List aZ}(h:lO w0 m F)(f:w.heap[m]?=w0.heap[m]?)(q:c2):∃v,(Instr.lookup 106 (.map (some m)) (.agg (cg q)) false).run (ae prog u) w=.ok v w/\fG w0 v (F q):=by
 obtain⟨es,eW,c,d,i⟩:=h;rw[<-f]at c;have hk:Nu es.toList:=λe g=>let⟨q,h,_⟩:=d e g;⟨q,h⟩
 have hg:=MapKept.run_getObj_map (P:=ae prog u) c;unfold Instr.lookup;simp only[vdp,run_underlying (Uh u),vbt,hg,F4];rcases Uk u q w es.toList hk with⟨b,a⟩|⟨j,e,b,a,n⟩
 .refine⟨.N,by simp[b,F4,Ui],?_⟩;rw[i q a];exact aX.nil _ _ _
 .obtain⟨q',l,k⟩:=d e (vcd a);obtain rfl:=Nv (n.symm.trans l);exact⟨e.val,by simp[b,F4],k⟩
def rG(nZ:Nat)(w W:aS)(v:Value)(l:List aZ):Prop:=
 ∃xs:List (Value×Value),xs.length=l.length/\W.ownsRow nZ 76 2 v l.length (two xs)/\∀i(h:i<xs.length)(h':i<l.length),dP w xs[i].1 l[i].1/\i8 w xs[i].2 l[i].2
def zQ(a b:MapEntry):Prop:=a.born≠b.born/\a.key≠b.key/\∀g,a.val.ownBlock=some g->b.val.ownBlock≠some g
structure mZ(nZ:Nat)(w W:aS)(es:List MapEntry)(eW:Nat)(F:c2->List aZ):Prop where
 born:∀e∈es,e.born<eW
 apart:es.Pairwise zQ
 val:∀e∈es,∃q,e.key=.agg (cg q)/\rG nZ w W e.val (F q)
 none:∀q,(∀e∈es,e.key≠ .agg (cg q))->F q=[]
variable{eW nZ:Nat}
def mZ.Bq{w W:aS}{es:List MapEntry}{F:c2->List aZ}(h:mZ nZ w W es eW F):Nu es:=λe a=>let⟨q,h,_⟩:=h.val e a;⟨q,h⟩
def aoV(nZ:Nat)(w W:aS):rG nZ w W (.N) []:=⟨[],Y,vbp _ _ _ _,λi h=>by simp at h⟩
variable{v:Value}
def rG.keep{w W W':aS}{l:List aZ}(h:rG nZ w W v l)(hk:∀g,v.ownBlock=some g->W'.heap[g]?=W.heap[g]?):rG nZ w W' v l:=by
 obtain⟨xs,e,a,d⟩:=h;refine⟨xs,e,⟨a.1,?_⟩,d⟩;rcases a.2 with h|⟨g,cap,bd,rfl,b,hg,c⟩
 .exact .inl h
 .exact .inr ⟨g,cap,bd,Y,b,(hk g Y).trans hg,c⟩
def rG.qr{w W:aS}{l:List aZ}(h:rG nZ w W v l){g:Nat}(hg:v.ownBlock=some g):∃bd,ai W g bd 76:=by
 obtain⟨xs,f,b,e⟩:=h;rcases b.2 with⟨rfl,h⟩|⟨g',cap,bd,rfl,c,a,d⟩
 .simp[Value.ownBlock]at hg
 .simp[Value.ownBlock]at hg;subst hg;exact⟨bd,a⟩
theorem mZ.put{w W:aS}{es:List MapEntry}{F:c2->List aZ}{i:Array MapEntry}{di:Nat}(h:mZ nZ w W es eW F)(a:W.heap[m]?=some (.map i di))(o:Obj):mZ nZ w (W.putObj m o) es eW F:=by refine⟨h.born,h.apart,λe c=>?_,h.none⟩;obtain⟨q,f,b⟩:=h.val e c;refine⟨q,f,b.keep λg hg=>vat ?_⟩;rintro rfl;obtain⟨bd,d⟩:=b.qr hg;rw[show W.heap[g]?=_ from d]at a;cases a
def aoW{w W:aS}{es:Array MapEntry}{F:c2->List aZ}(h:mZ nZ w W es.toList eW F)(l:W.heap[m]?=some (.map es eW))(q:c2):
 ∃(v:Value)(b:Nat)(n:Array MapEntry)(p i:Nat),(Instr.mapEntry 106 (.map (some m)) (.agg (cg q))).run (ae prog true) W=.ok (.tuple #[v,.I ((b:Nat):Int)]) (W.putObj m (.map n p))/\mZ nZ w (W.putObj m (.map n p)) n.toList p F/\n.toList[i]?=some (⟨.agg (cg q),v,b⟩:MapEntry):=by
 have hg:=MapKept.run_getObj_map (P:=ae prog true) l;have hs:=λo=>MapKept.run_setObj_map (P:=ae prog true) o l;unfold Instr.mapEntry;simp only[vdp,run_underlying (Uh true),vbt,hg,F4];rcases Uk true q W es.toList h.Bq with⟨s,d⟩|⟨j,e,s,d,f⟩
 .refine⟨.N,eW,es.push ⟨.agg (cg q),.N,eW⟩,eW+1,es.size,?_,?_,Ad⟩
  .simp[s,F4,Ui,hs,goInt,World.putObj]
  .refine mZ.put ?_ l _;rw[Array.toList_push];refine⟨λe c=>?_,List.pairwise_append.2 ⟨h.apart,List.pairwise_singleton _ _,λa y b x=>?_⟩,λe c=>?_,λq' r=>h.none q' λe c=>r e (by simp[c])⟩
   .simp at c;rcases c with c|rfl
    .have:=h.born e FZ;omega
    .exact Nat.lt_succ_self _
   .simp at x;subst x;exact⟨Nat.ne_of_lt (h.born a y),d a y,λg _=>by simp[Value.ownBlock]⟩
   .simp at c;rcases c with c|rfl
    .exact h.val e FZ
    .exact⟨q,Y,by rw[h.none q d];exact aoV _ _ _⟩
 .have u:es[j]?=some e:=by simpa using d
  have B:(Instr.keyThatStays (.agg (cg q)) (.agg (cg q))).run (ae prog true) W=.ok (.agg (cg q)) W:=by unfold Instr.keyThatStays;rw[show Instr.sameBits 10000 (.agg (cg q)) (.agg (cg q))=true by simp[Instr.sameBits,cg,aoT]];rfl
  have t:es.modify j (λe=>{e with key:=.agg (cg q)})=es:=by
   apply vdb;intro k;rw[vbb];split
   .rename_i z;subst z;rw[u];obtain⟨A,v1,b1⟩:=e;simp only at f;subst f;rfl
   .rfl
  refine⟨e.val,e.born,es,eW,j,?_,h.put l _,?_⟩
  .simp[s,F4,u,f,B,t,hs,goInt,World.putObj]
  .rw[d];obtain⟨A,v1,b1⟩:=e;simp only at f;subst f;rfl
def nG(F:c2->List aZ)(q:c2)(r:aZ):c2->List aZ:=λq'=>if wU q q' then F q'++[r]else F q'
variable{i:Nat}
def aoY{l:List MapEntry}(h:l.Pairwise zQ){e:MapEntry}(hi:l[i]?=some e):l.findIdx? (λx=>(x.born:Int)==(e.born:Int))=some i:=by obtain⟨a,rfl⟩:=vab.1 hi;rw[List.findIdx?_eq_some_iff_getElem];refine⟨a,Ad,λj b=>?_⟩;have:=(vdk.1 h j i AP a b).1;simp;omega
variable{b:Nat}{v':Value}{r:aZ}
def run_store{w u f:aS}{es:Array MapEntry}{F:c2->List aZ}(h:mZ nZ w u es.toList eW F)(I:u.heap[m]?=some (.map es eW))(hi:es.toList[i]?=some (⟨.agg (cg q),v,b⟩:MapEntry))(hg:u.grownBy f v.ownBlock)(O:rG nZ w f v' (F q++[r]))(W:v'.ownBlock=v.ownBlock\/v'.ownBlock=some u.heap.size):
 ∃N,(Instr.entryStore 106 (.map (some m)) (.I (b:Int)) v').run (ae prog true) f=.ok () (f.putObj m (.map N eW))/\mZ nZ w (f.putObj m (.map N eW)) N.toList eW (nG F q r)/\f.heap[m]?=some (.map es eW):=by
 have C:=(vab.1 hi).1;have z:es.toList[i]=(⟨.agg (cg q),v,b⟩:MapEntry):=(vab.1 hi).2;have E:(⟨.agg (cg q),v,b⟩:MapEntry)∈es.toList:=vcd hi;obtain⟨q0,Z,hv⟩:=h.val _ E;obtain rfl:=Nv Z;have J:f.heap[m]?=some (.map es eW):=by refine(hg.block m (jE I) λe=>?_).trans I;obtain⟨bd,t⟩:=hv.qr e.symm;rw[show u.heap[m]?=_ from t]at I;cases I
 have Y:=MapKept.run_getObj_map (P:=ae prog true) J;have hs:=λo=>MapKept.run_setObj_map (P:=ae prog true) o J;have R:=aoY h.apart hi;have S:es.findIdx? (λx=>(x.born:Int)==(b:Int))=some i:=by obtain⟨l⟩:=es;simpa using R
 refine⟨es.modify i λe=>{e with val:=v'},?_,mZ.put ?_ J _,J⟩
 .unfold Instr.entryStore;simp[Y,S,hs,World.putObj,go_sem]
 .have hlen:(es.modify i λe=>{e with val:=v'}).toList.length=es.toList.length:=by simp
  have y:∀j(a:j<(es.modify i λe=>{e with val:=v'}).toList.length),(es.modify i λe=>{e with val:=v'}).toList[j]=if i=j then(⟨.agg (cg q),v',b⟩:MapEntry)else es.toList[j]'AP:=by
   intro j a;simp only[vek,List.getElem_modify];split
   .rename_i e;subst e;rw[z]
   .rfl
  have hV:∀j(a:j<es.toList.length),j≠i->∃d,es.toList[j].key=.agg (cg d)/\rG nZ w f es.toList[j].val (F d)/\d≠q/\∀g,es.toList[j].val.ownBlock=some g->v'.ownBlock≠some g:=by
   intro j a B;obtain⟨d,s,p⟩:=h.val _ (vax a);have c:zQ es.toList[j] es.toList[i]\/zQ es.toList[i] es.toList[j]:=by
    rcases vdd j i with x|x
    .exact .inl (vdk.1 h.apart j i a C x)
    .exact .inr (vdk.1 h.apart i j C a AP)
   rw[z]at c;have D:∀g,es.toList[j].val.ownBlock=some g->v.ownBlock≠some g:=by
    intro g n T;rcases c with⟨_,_,x⟩|⟨_,_,x⟩
    .exact x g n T
    .exact x g T n
   refine⟨d,s,p.keep λg n=>?_,?_,λg n=>?_⟩
   .obtain⟨bd,t⟩:=p.qr n;exact hg.block g (jE t) λe=>D g n e.symm
   .rintro rfl;rcases c with⟨_,x,_⟩|⟨_,x,_⟩
    .exact x s
    .exact x s.symm
   .rcases W with e|e
    .rw[e];exact D g n
    .rw[e];obtain⟨bd,t⟩:=p.qr n;have:=jE (show u.heap[g]?=_ from t);intro X;cases X;omega
  refine⟨λe Q=>?_,vdk.2 λj k a hk V=>?_,λe Q=>?_,λq' A=>?_⟩
  .obtain⟨j,a,rfl⟩:=List.getElem_of_mem Q;rw[y j a];split
   .exact show b<eW from h.born _ E
   .exact h.born _ (vax _)
  .rw[y j a,y k hk];have c:=vdk.1 h.apart j k AP AP V;by_cases U:i=j
   .subst U;rw[vby rfl,vbq AP];obtain⟨d,s,p,M,H⟩:=hV k AP AP;rw[z]at c;exact⟨c.1,c.2.1,λg hg L=>H g L hg⟩
   .rw[vbq U];by_cases K:i=k
    .subst K;rw[vby rfl];obtain⟨d,s,p,M,H⟩:=hV j AP AP;rw[z]at c;exact⟨c.1,c.2.1,λg hg L=>H g hg L⟩
    .rw[vbq K];exact c
  .obtain⟨j,a,rfl⟩:=List.getElem_of_mem Q;rw[y j a];split
   .refine⟨q,rfl,?_⟩;unfold nG;rw[F3.2 rfl];exact O
   .rename_i B;obtain⟨d,s,p,M,H⟩:=hV j AP (λe=>B e.symm);refine⟨d,s,?_⟩;unfold nG;rw[vbq (λx=>M (F3.1 x).symm)];exact p
  .unfold nG;by_cases e:wU q q'=true
   .obtain rfl:=F3.1 e;refine absurd rfl (A (⟨.agg (cg q),v',b⟩:MapEntry) ?_);have:=y i AP;rw[vby rfl]at this;rw[<-this];exact vax _
   .rw[vbq e];refine h.none q' λx t=>?_;obtain⟨j,a,rfl⟩:=List.getElem_of_mem t;have:=A _ (vax (AP:j<(es.modify i λe=>{e with val:=v'}).toList.length));rw[y j AP]at this;split at this
    .rename_i K;subst K;rw[z];exact this
    .exact this
def mZ.below{w W W':aS}{es:List MapEntry}{F:c2->List aZ}(h:mZ nZ w W es eW F)(d:cJ W W'):mZ nZ w W' es eW F:=by refine⟨h.born,h.apart,λe c=>?_,h.none⟩;obtain⟨q,f,a⟩:=h.val e c;refine⟨q,f,a.keep λg hg=>d.block g ?_⟩;obtain⟨bd,b⟩:=a.qr hg;exact b.lt
variable{P:b4}
def Jz{ops:eY}{rest:uba}{o:Oper}{a:Act}{w w1:aS}{Q:uai}(c:o.guard=none)(b:(execOp a.eval o).run P w=.ok (.value v) w1)(h:wpList P ops Q rest (a.put o.dst v) w1):wpList P ops Q (o::rest) a w:=by refine wpList_plain c λK hK=>?_;unfold Oper.wp;rw[b];exact hK _ _ h
def wpList_skip{ops:eY}{rest:uba}{o:Oper}{a:Act}{w w1:aS}{Q:uai}(c:o.guard=none)(b:(execOp a.eval o).run P w=.ok .skip w1)(h:wpList P ops Q rest (a.put o.dst undef) w1):wpList P ops Q (o::rest) a w:=by refine wpList_plain c λK hK=>?_;unfold Oper.wp;rw[b];exact hK _ _ h
variable{t:g4}
def ao1{ops:eY}{rest:uba}{o:Oper}{a:Act}{w:aS}{Q:uai}{m k:uar}(_:o.op=.mapEntry t m k)(h:j8 (wpList P ops Q (o::rest) a w)):wpList P ops Q (o::rest) a w:=h
def ao2{ops:eY}{rest:uba}{o:Oper}{a:Act}{w:aS}{Q:uai}{m k v:uar}(_:o.op=.entryStore t m k v)(h:j8 (wpList P ops Q (o::rest) a w)):wpList P ops Q (o::rest) a w:=h
def ai.cast{w:aS}{cs a:dp}{T:g4}(h:ai w b cs T)(e:cs=a):ai w b a T:=e▸h
def T3{ops:eY}{rest:uba}{o:Oper}{a:Act}{w:aS}{Q:uai}(_:o.op=.alloc 140)(h:j8 (wpList P ops Q (o::rest) a w)):wpList P ops Q (o::rest) a w:=h
def Tc{ops:eY}{rest:uba}{o:Oper}{a:Act}{w:aS}{Q:uai}{x:uar}(_:o.op=.load 140 x)(h:j8 (wpList P ops Q (o::rest) a w)):wpList P ops Q (o::rest) a w:=h
def T1(u:Bool){o:Oper}(a:o.op=.alloc 140)(ev:uak)(w:aS):(execOp ev o).run (ae prog u) w=.ok (.value (.P w.heap.size 0)) (w.alloc (.cells (cg (i9 [])) 140)):=by cases o;simp only at a;subst a;kernel_rfl
def ao3(u:Bool){o:Oper}{x:uar}(a:o.op=.load 140 x){ev:uak}{w:aS}(c:ev x=.P b 0)(h:ai w b (cg q) 140):(execOp ev o).run (ae prog u) w=.ok (.value (.agg (cg q))) w:=by cases o;simp only at a;subst a;obtain⟨f,e,d⟩:=h.all;unfold cg at *;go_simp
variable{q0:c2}
def ao4(u:Bool){o:Oper}{x y:uar}(a:o.op=.store 140 x y){ev:uak}{w:aS}(i:ev x=.P b 0)(e:ev y=.agg (cg q))(h:ai w b (cg q0) 140):∃w',(execOp ev o).run (ae prog u) w=.ok .skip w'/\ai w' b (cg q) 140/\∀B,B<=b->Below B w w':=by
 cases o;simp only at a;subst a;obtain⟨g,k,j⟩:=h.all;have c:=(((((((((((((((h.set 0 (.bool q.1.dH)).set 1 (.I q.1.num)).set 2 (.I q.1.bV)).set 3 (.string q.1.text)).set 4 (.bool q.2.1.dH)).set 5 (.I q.2.1.num)).set 6 (.I q.2.1.bV)).set 7 (.string q.2.1.text)).set 8 (.bool q.2.2.1.dH)).set 9 (.I q.2.2.1.num)).set 10 (.I q.2.2.1.bV)).set 11 (.string q.2.2.1.text)).set 12 (.bool q.2.2.2.dH)).set 13 (.I q.2.2.2.num)).set 14 (.I q.2.2.2.bV)).set 15 (.string q.2.2.2.text);unfold cg at g e;have d:=ai.cast c (show _=cg q by kernel_rfl);clear c;refine⟨_,?_,d,λB f=>?_⟩
 .clear d;go_simp
 iterate 16 refine Below.setCell ?_ f _
 exact vaa _ _
theorem ao5(t:g4)(w:aS):Sem.run P (Instr.makeMap t none) w=.ok (.map (some w.heap.size)) (w.alloc (.map #[] 0)):=rfl
def TX:(ae prog true).funcs[(38:Nat)]?=some f38:=bw (upd:=true) func38 AJ
@[simp] theorem ao6:cQ true 38:=c0 TX AJ
def F7(aD:uaa)(r:aZ):c2:=i9 (aD.map λk=>r.2.getD k lB)
def ma(aD:uaa)(rs:List aZ):c2->List aZ:=λq=>rs.filter λr=>wU (F7 aD r) q
def ao7(aD:uaa)(rs:List aZ)(r:aZ):ma aD (rs++[r])=nG (ma aD rs) (F7 aD r) r:=by
 funext q
 unfold ma nG;rw[List.filter_append];split
 .rename_i h;simp[h]
 .rename_i h;simp[h]
section
attribute [local go_sem] ao5
section
variable{ops:eY}{rest:uba}{o:Oper}{a:Act}{w:aS}{Q:uai}{x y z:uar}
def TN(u:Bool)(e:o.op=.store 140 x y)(k:o.guard=none)(d:a.eval x=.P b 0)(c:a.eval y=.agg (cg q))(f:ai w b (cg q0) 140)(h:∀w',ai w' b (cg q) 140->(∀B,B<=b->Below B w w')->wpList (ae prog u) ops Q rest (a.put o.dst undef) w'):wpList (ae prog u) ops Q (o::rest) a w:=by obtain⟨w',j,i,g⟩:=ao4 u e d c f;exact wpList_skip k j (h w' i g)
def Td(u:Bool)(d:o.op=.load 140 x)(f:o.guard=none)(c:a.eval x=.P b 0)(e:ai w b (cg q) 140)(h:wpList (ae prog u) ops Q rest (a.put o.dst (.agg (cg q))) w):wpList (ae prog u) ops Q (o::rest) a w:=Jz f (ao3 u d c e) h
def ao8(g:o.op=.mapEntry 106 x y)(r:o.guard=none)(f:a.eval x=.map (some m))(e:a.eval y=.agg (cg q)){w0:aS}{es:Array MapEntry}{F:c2->List aZ}(k:mZ nZ w0 w es.toList eW F)(j:w.heap[m]?=some (.map es eW))(h:∀(v:Value)(b:Nat)(c:Array MapEntry)(d i:Nat),mZ nZ w0 (w.putObj m (.map c d)) c.toList d F->c.toList[i]?=some (⟨.agg (cg q),v,b⟩:MapEntry)->wpList (ae prog true) ops Q rest (a.put o.dst (.tuple #[v,.I ((b:Nat):Int)])) (w.putObj m (.map c d))):wpList (ae prog true) ops Q (o::rest) a w:=by
 obtain⟨v,b,c,d,i,p,n,l⟩:=aoW k j q;refine Jz r ?_ (h v b c d i n l);simp[execOp,g,f,e,p]
def ao9(k:o.op=.entryStore 106 x y z)(u:o.guard=none)(j:a.eval x=.map (some m))(g:a.eval y=.I (b:Int))(f:a.eval z=v'){w0 d:aS}{es:Array MapEntry}{F:c2->List aZ}(n:mZ nZ w0 d es.toList eW F)(l:d.heap[m]?=some (.map es eW))(hi:es.toList[i]?=some (⟨.agg (cg q),v,b⟩:MapEntry))(hg:d.grownBy w v.ownBlock)(e:rG nZ w0 w v' (F q++[r]))(p:v'.ownBlock=v.ownBlock\/v'.ownBlock=some d.heap.size)(h:∀c,mZ nZ w0 (w.putObj m (.map c eW)) c.toList eW (nG F q r)->wpList (ae prog true) ops Q rest (a.put o.dst undef) (w.putObj m (.map c eW))):wpList (ae prog true) ops Q (o::rest) a w:=by
 obtain⟨c,t,s,-⟩:=run_store n l hi hg e p;refine wpList_skip u ?_ (h c s);simp[execOp,k,j,g,f,t]
end
def Te(aD:uaa)(rs:List aZ)(q:c2):(ma aD rs q).length<=rs.length:=List.length_filter_le _ _
def ao_{fn:Func}{p:Tmp}{ty:g4}(h:fn.results=#[.cell p ty])(tmps:dp)(P:b4)(w:aS):
 (results fn tmps).run P w=(do loadVar ty (<-asAddr (tmps.getD p undef)):Sem Value).run P w:=by
 unfold results;rw[h];simp[vdp]
def Tf{w:aS}{c o:Nat}(v:Value)(h:b≠c):(w.setCell ⟨c,o,none⟩ v).heap[b]?=w.heap[b]?:=by grind[World.setCell]
def rG.rows{w W:aS}{l:List aZ}(h:rG nZ w W v l)(hk:bo w W)(c:l.length<=9223372036854775807):fG W v l:=by
 obtain⟨xs,i,g,f⟩:=h;exact MI (Row:=λj W x=>∃h:j<xs.length,x=.agg #[xs[j].1,xs[j].2]) (N:=l.length) ⟨xs,i,g,AA⟩ l Y c (λj d p q⟨b,e⟩=>by
  simp at e;obtain⟨rfl,rfl⟩:=e;obtain⟨r1,a⟩:=f j b d;exact⟨aX.mono j6 hk r1,aX.mono wy hk a⟩)
def apa{w W c:aS}{d o2:Obj}{row:ubg}(a:cJ w W)(hg:(W.putObj m d).grownBy c row)(j:w.heap.size<=m)(h:m<W.heap.size)(i:∀g,row=some g->m+1<=g):
 cJ w (c.putObj m o2)/\(∀b,b<m->(c.putObj m o2).heap[b]?=W.heap[b]?)/\(c.putObj m o2).heap[m]?=some o2:=by
 have hs:(W.putObj m d).heap.size=W.heap.size:=by simp[World.putObj]
 have f:∀b,b<m->(c.putObj m o2).heap[b]?=W.heap[b]?:=λb l=>by rw[vat AP,hg.block b AP (λe=>by have:=i b e.symm;omega),vat AP]
 have n:=hg.size;refine⟨⟨hg.os.trans a.os,hg.tape.trans a.tape,hg.output.trans a.output,?_,λk hk=>(f k AP).trans (a.block k hk)⟩,f,vcz AP⟩;have:=a.size;simp only[World.putObj,vct,Array.size_set!]at *;omega
def apb(n0 n1 ey:Int)(aD:uaa)(rs:List aZ)(nY c7 ni b8 b7 be:Value)(w:aS)(he:∃a l c,nY=.slice a l c)(hk:∃a l c,c7=.slice a l c)(ha:∃a l c,b8=.slice a l c)(yl:∃a l c,b7=.slice a l c)(ho:dP w ni (aD.map Int.ofNat))(hr:fG w be rs)(wV:rs.length<=1000)(hlt:∀r∈rs,∀k∈aD,k<r.2.length)(h4:aD.length<=4):
 Calls (ae prog true) 38 #[.agg #[.I n0,.I n1,.I ey,nY,c7,ni,b8],b7,be] w λe w'=>∃m,e=.returned (.agg #[c7,b7,.map (some m)])/\lO w' m (ma aD rs)/\w.heap.size<=m/\cJ w w':=by
 obtain⟨a1,l1,c1,rfl⟩:=he;obtain⟨o,l2,bH,rfl⟩:=hk;obtain⟨F,B,dB,rfl⟩:=ha;obtain⟨I,A,E,rfl⟩:=yl;obtain⟨z,t,rfl,-⟩:=ho.shape;obtain⟨jw,Tg,rfl,aD1,bT⟩:=hr;go_enter TX,ntmps38
 go_wp2
 rw[vcf]at *;have oJ:=((ai.new w #[.I n0,.I n1,.I ey,.slice a1 l1 c1,.slice o l2 bH,.slice z aD.length t,.slice F B dB] 34).alloc (.cells #[.N,.N,.map none] 108)).alloc (.map #[] 0);have kp:=(ai.new (w.alloc (.cells #[.I n0,.I n1,.I ey,.slice a1 l1 c1,.slice o l2 bH,.slice z aD.length t,.slice F B dB] 34)) #[.N,.N,.map none] 108).alloc (.map #[] 0);have i_:=vaz ((w.alloc (.cells #[.I n0,.I n1,.I ey,.slice a1 l1 c1,.slice o l2 bH,.slice z aD.length t,.slice F B dB] 34)).alloc (.cells #[.N,.N,.map none] 108)) (.map #[] 0);simp at kp;rw[show((w.alloc (.cells #[.I n0,.I n1,.I ey,.slice a1 l1 c1,.slice o l2 bH,.slice z aD.length t,.slice F B dB] 34)).alloc (.cells #[.N,.N,.map none] 108)).heap.size=w.heap.size+1+1 by simp]at i_;go_loopw [9,10,14] (λ_ _ x W=>∃(k:Nat)(es:Array MapEntry)(eW:Nat),k<=rs.length/\x=.I k/\ai W w.heap.size #[.I n0,.I n1,.I ey,.slice a1 l1 c1,.slice o l2 bH,.slice z aD.length t,.slice F B dB] 34/\(∃c1,ai W (w.heap.size+1) c1 108/\c1.size=3)/\W.heap[w.heap.size+1+1]?=some (.map es eW)/\mZ (w.heap.size+3) w W es.toList eW (ma aD (rs.take k))/\cJ w W)
  (λ_ _ x _=>rs.length-(intOf x).toNat)
 case atStart=>exact⟨0,#[],0,vav _,rfl,oJ,⟨_,kp,rfl⟩,i_,⟨Ad,Ad,Ad,λq _=>rfl⟩,(((vaa _ w).alloc JT _).alloc Ad _).alloc Aq _⟩
 case round=>
  obtain⟨k,es,eW,hk,rfl,jF,⟨Ti,bY,Tj⟩,Tk,T,hB⟩:=hrel;have Rb:Hid _:=jF;have tk:Hid (ai wr (w.heap.size+1) Ti 108):=bY;have S:Hid (wr.heap[w.heap.size+1+1]?=some (.map es eW)):=Tk;have Nw:Hid (mZ (w.heap.size+3) w wr es.toList eW (ma aD (rs.take k))):=T;have cf:Hid (cJ w wr):=hB;have H:=bo.bX hB;obtain⟨fx,g7,g8⟩:=jF.all;have wo:=jE Tk;clear oJ kp i_ jF bY Tk T hB;by_cases Ji:k<rs.length
  .obtain⟨Nb,ro,rfl,pv,jH,D,e1,fh,Cy⟩:=bT k Ji;simp at D e1;obtain⟨f,pc,rfl,-⟩:=fh.shape;obtain⟨d,h,rfl,-⟩:=Cy.shape;replace D:=H _ _ _ D;replace e1:=H _ _ _ e1;have fJ:=ff D;have l3:(0:Int)<=(k:Int):=AP;have j7:(k:Int)<(rs.length:Int):=AP;have apc:Hid (dP w (.slice f rs[k].1.length pc) rs[k].1):=fh;have apd:Hid (i8 w (.slice d rs[k].2.length h) rs[k].2):=Cy;have sc:=aX.mono j6 H ho;have Nx:=aX.mono wy H Cy;have Z:=(vaa _ wr).alloc JT (.cells #[.slice f rs[k].1.length pc,.slice d rs[k].2.length h] 76);have wW:Hid _:=X1 true aD rs[k].2 f rs[k].1.length pc (.slice d rs[k].2.length h) (.slice z aD.length t) (wr.alloc (.cells #[.slice f rs[k].1.length pc,.slice d rs[k].2.length h] 76)) (yj Z Nx) (yi Z (by simpa using sc)) (λx hx=>hlt rs[k] (vax Ji) x hx) h4;clear fh Cy bT sc Nx;obtain⟨q,hq⟩:∃q,i9 (aD.map λx=>rs[k].2.getD x lB)=q:=⟨_,rfl⟩;rw[hq]at wW;have q8:Hid (F7 aD rs[k]=q):=hq;clear hq;go_wp2_with fail
   refine vco wW.out ?_;rintro e s ⟨rfl,cw⟩;have ga:=(ai.new wr #[.slice f rs[k].1.length pc,.slice d rs[k].2.length h] 76).call cw;obtain⟨jm,ml,n4⟩:=ga.all;have ip:Hid (cJ wr s):=Below.step cw Z Ad;clear cw Z fx g7 g8 D e1 wW;have pC:Hid (ai s wr.heap.size #[.slice f rs[k].1.length pc,.slice d rs[k].2.length h] 76):=ga;clear ga;go_wp2_with (with_reducible refine T3 rfl ?_)
   unfold j8;refine Jz rfl (T1 true rfl _ _) (TN true rfl rfl (b:=s.heap.size) rfl (q:=q) rfl (ai.new s _ _) λn uS V=>?_);have R:=(pC.out.alloc (.cells (cg (i9 [])) 140)).below (V s.heap.size JT) n4;have qv:Hid (cJ wr n):=(ip.out.alloc (vdq n4) _).trans (V _ (vdq n4));have jo:=(V s.heap.size JT).size;replace jo:s.heap.size+1<=n.heap.size:=by simpa using jo
   have JA:Hid (ai n s.heap.size (cg q) 140):=uS;clear jm ml V uS ip pC;obtain⟨jm,ml,Rh⟩:=R.all;clear R;go_wp2_with (with_reducible refine Tc rfl ?_)
   unfold j8;refine Td true rfl rfl (b:=s.heap.size) rfl (q:=q) JA.out ?_;go_wp2_with (with_reducible refine ao1 rfl ?_)
   unfold j8;have Ny:=qv.out.alloc (vdq Rh) (.cells #[.slice f rs[k].1.length pc,.slice d rs[k].2.length h] 76);have Q:=Nw.out.below Ny;have P:=(Ny.block _ wo).trans S.out;have U:Hid (cJ wr (n.alloc (.cells #[.slice f rs[k].1.length pc,.slice d rs[k].2.length h] 76))):=Ny;refine ao8 rfl rfl (m:=w.heap.size+1+1) (q:=q) rfl rfl Q P ?_;intro v b Y y i Tl Tm;obtain⟨q0,Cx,lY⟩:=Tl.val _ (vcd Tm);obtain rfl:=Nv Cx;obtain⟨xs,MO,cM,IX⟩:=lY;obtain⟨ju,gc,rfl⟩:=h9 cM;have hn:=Te aD (rs.take k) q;rw[List.length_take,vcp hk]at hn;have Sg:Hid _:=IX;have HOW:Hid _:=cM;have ape:Hid _:=Tl;have apf:Hid _:=Tm;have x0:Hid (∀j u,(two [((Value.slice f rs[k].1.length pc,Value.slice d rs[k].2.length h):Value×Value)])[j]?=some u->((n.alloc (Obj.cells #[Value.slice f rs[k].fst.length pc,Value.slice d rs[k].snd.length h] 76)).putObj (w.heap.size+1+1) (Obj.map Y y)).cell? (Addr.add ⟨n.heap.size,0,none⟩ j)=some u):=λj u hu=>by rw[vdz,vdi (w:=n.alloc (Obj.cells #[Value.slice f rs[k].fst.length pc,Value.slice d rs[k].snd.length h] 76)) (vat (by simp only;omega))];obtain⟨t1,-,-⟩:=(ai.new n #[.slice f rs[k].1.length pc,.slice d rs[k].2.length h] 76).all;rw[t1];simpa[two]using hu
   have mz:Hid (w.heap.size+3<=((n.alloc (Obj.cells #[Value.slice f rs[k].fst.length pc,Value.slice d rs[k].snd.length h] 76)).putObj (w.heap.size+1+1) (Obj.map Y y)).heap.size):=by show _<=_;simp[World.putObj];omega
   obtain⟨i0,hi,qc,q1,q2⟩:=vch LQ;clear Tl Tm Cx cM IX Ny Q P jm ml;generalize F9:(n.alloc (Obj.cells #[Value.slice f rs[k].fst.length pc,Value.slice d rs[k].snd.length h] 76)).putObj (w.heap.size+1+1) (Obj.map Y y)=er at *;have O:Hid _:=F9;clear F9;go_wp2_with (at_builtin;apply sf)
   unfold j8;refine wpList_append_own_at _ rfl _ _ 66 rfl (w.heap.size+3) 76 i0 _ 2 48 ((qZ _ _ _).trans underlying66) hi qc q1 q2 rfl AX (.slice ju (ma aD (rs.take k) q).length gc) (ma aD (rs.take k) q).length (two xs) rfl HOW.out ⟨n.heap.size,0,none⟩ 1 1 (two [(.slice f rs[k].1.length pc,.slice d rs[k].2.length h)]) rfl rfl x0.out (by simp[two,Value.oneCell']) EE AP mz.out ?_;intro v' jf JB F_ _ N;have M:er.heap[w.heap.size+1+1]?=some (.map Y y):=by rw[<-O.out];exact vcz (vap wo U.out.size)
   have L:rG (w.heap.size+3) w jf v' (ma aD (rs.take k) q++[rs[k]]):=by
    refine⟨xs++[(.slice f rs[k].1.length pc,.slice d rs[k].2.length h)],by simp[MO],?_,λi h1 h2=>?_⟩
    .rw[XS,vbg];exact JB
    .by_cases sA:i<xs.length
     .rw[vdr sA,vdr AP];exact Sg.out i sA AP
     .rw[vep AP,vep AP];simp only[List.getElem_singleton];exact⟨apc.out,apd.out⟩
   have Cz:=λX=>apa (o2:=.map X y) (Below.step U.out cf.out cf.out.size) (O.out▸F_) AP (vap wo U.out.size) (λg hg=>by have:=(vdl HOW.out g hg).1;omega);obtain⟨aD2,aD3,rfl⟩:=h9 JB;have apg:Hid _:=Cz;have aph:Hid _:=M;have api:Hid _:=L;have apj:Hid _:=F_;have Nz:Hid _:=N;clear Cz M L F_ N JB;go_wp2_with (with_reducible refine ao2 rfl ?_)
   unfold j8;refine ao9 rfl rfl (m:=w.heap.size+1+1) (b:=b) (q:=q) rfl rfl rfl ape.out aph.out apf.out apj.out api.out Nz.out ?_;intro X K;obtain⟨p1,p2,p3⟩:=apg.out X;have NA:Hid _:=p1;have JC:Hid _:=p2;have Tn:Hid _:=p3;have apk:Hid _:=K;clear p1 p2 p3 K;go_wp2
   go_roundw
   case rel=>
    have J:=λb(C:b<w.heap.size+1+1)=>(JC.out b C).trans (U.out.block b AP);refine⟨k+1,X,y,AP,Ad,(J _ AP).trans Rb.out,⟨Ti,(J _ AP).trans tk.out,Tj⟩,Tn.out,?_,NA.out⟩;rw[vcl Ji,ao7,q8.out];exact apk.out
   case measure=>simp[intOf];omega
  .have iq:k=rs.length:=by omega
   subst iq;have jG:¬((rs.length:Int)<(rs.length:Int)):=AP;obtain⟨s1,s2,Lr⟩:=tk.out.all;clear bT H;rw[List.take_length]at Nw;go_wp2
   try simp only[Exit.inBlock,Exit.then]
   obtain⟨cl⟩:=Ti;obtain⟨mL,c9,ed,rfl⟩:∃mL c9 ed,cl=[mL,c9,ed]:=by match cl,Tj with| [mL,c9,ed],_=>exact⟨_,_,_,rfl⟩
   have hf:=((tk.out.set 0 (.slice o l2 bH)).set 1 (.slice I A E)).set 2 (.map (some (w.heap.size+1+1)));simp at hf;have n8:∀b,b≠w.heap.size+1->(((wr.setCell {block:=w.heap.size+1,off:=0} (Value.slice o l2 bH)).setCell {block:=w.heap.size+1,off:=1} (Value.slice I A E)).setCell {block:=w.heap.size+1,off:=2} (Value.map (some (w.heap.size+1+1)))).heap[b]?=wr.heap[b]?:=λb C=>by rw[Tf _ C,Tf _ C,Tf _ C]
   have tX:=((cf.out.setCell (p:=⟨w.heap.size+1,0,none⟩) (vdu _) (.slice o l2 bH)).setCell (p:=⟨w.heap.size+1,1,none⟩) (vdu _) (.slice I A E)).setCell (p:=⟨w.heap.size+1,2,none⟩) (vdu _) (.map (some (w.heap.size+1+1)));generalize(((wr.setCell {block:=w.heap.size+1,off:=0} (Value.slice o l2 bH)).setCell {block:=w.heap.size+1,off:=1} (Value.slice I A E)).setCell {block:=w.heap.size+1,off:=2} (Value.map (some (w.heap.size+1+1))))=wf at *;obtain⟨f1,ir,f3⟩:=hf.all;refine vbu (v:=.agg #[.slice o l2 bH,.slice I A E,.map (some (w.heap.size+1+1))]) ?_ rfl ⟨w.heap.size+1+1,rfl,⟨es,eW,(n8 _ AP).trans S.out,λe he=>?_,Nw.out.none⟩,AP,tX⟩
   .rw[ao_ rfl];go_simp
   .obtain⟨q,h1,h2⟩:=Nw.out.val e he;have hl:=Te aD rs q;refine⟨q,h1,rG.rows (h2.keep λg hg=>n8 g ?_) (bo.bX tX) AP⟩;obtain⟨xs,-,h3,-⟩:=h2;have:=(vdl h3 g hg).1;omega
end
def TM:(ae prog false).funcs[(199:Nat)]?=some f199:=bw (upd:=false) func199 AJ
@[simp] theorem aD5:cQ false 199:=c0 TM AJ
theorem apl{ops:eY}{rest:uba}{o:Oper}{a:Act}{w:aS}{Q:uai}{x y:uar}{b:Bool}(_:o.op=.lookup t x y b)(h:j8 (wpList P ops Q (o::rest) a w)):wpList P ops Q (o::rest) a w:=h
def apm{ops:eY}{rest:uba}{o:Oper}{a:Act}{w:aS}{Q:uai}{x y:uar}(u:Bool)(e:o.op=.lookup 106 x y false)(j:o.guard=none){F:c2->List aZ}(c:a.eval x=.map (some m))(b:a.eval y=.agg (cg q)){w0:aS}(f:lO w0 m F)(d:w.heap[m]?=w0.heap[m]?)(h:∀v,fG w0 v (F q)->wpList (ae prog u) ops Q rest (a.put o.dst v) w):wpList (ae prog u) ops Q (o::rest) a w:=by obtain⟨v,i,g⟩:=aoU u f d q;refine Jz j ?_ (h v g);simp[execOp,e,c,b,i]
def lO.lt{w:aS}{F:c2->List aZ}(h:lO w m F):m<w.heap.size:=let⟨_,_,h,_⟩:=h;jE h
def lO.below{w w':aS}{F:c2->List aZ}(h:lO w m F)(a:cJ w w'):lO w' m F:=by obtain⟨es,eW,b,g,f⟩:=h;refine⟨es,eW,(a.block m (jE b)).trans b,λe c=>?_,f⟩;obtain⟨q,d,i⟩:=g e c;exact⟨q,d,aX.mono qp (bo.bX a) i⟩
def nH(aD:uaa)(F:c2->List aZ)(vals:List cR):List aZ:=if(si (i9 (aD.map λk=>vals.getD k lB))).any id then []else F (i9 (aD.map λk=>vals.getD k lB))
def apn(aD:uaa)(vals:List cR)(F:c2->List aZ)(m:Nat)(o:uan)(pl pc:Nat)(O S W:Value)(w w0:aS)(hv:i8 w O vals)(hk:dP w S (aD.map Int.ofNat))(Z:∃a l c,W=.slice a l c)(Q:lO w0 m F)(X:w.heap[m]?=w0.heap[m]?)(wo:m<w.heap.size)(y:∀k∈aD,k<vals.length)(h4:aD.length<=4):
 Calls (ae prog false) 199 #[.agg #[S,W,.map (some m)],.agg #[.slice o pl pc,O]] w λe w'=>∃v,e=.returned v/\fG w0 v (nH aD F vals)/\cJ w w':=by
 obtain⟨V,M,U,rfl⟩:=Z;obtain⟨z,s,rfl,-⟩:=hk.shape;obtain⟨u,B,rfl,-⟩:=hv.shape;rw[vcf]at *;have n:=((vaa _ w).alloc JT (.cells #[.slice z aD.length s,.slice V M U,.map (some m)] 108)).alloc Ad (.cells #[.slice o pl pc,.slice u vals.length B] 76);have p:Hid _:=X1 false aD vals o pl pc (.slice u vals.length B) (.slice z aD.length s) _ (yj n hv) (yi n (by simpa using hk)) y h4;have L:=(ai.new w #[.slice z aD.length s,.slice V M U,.map (some m)] 108).alloc (.cells #[.slice o pl pc,.slice u vals.length B] 76);have tY:Hid _:=Q;have E:Hid (w.heap[m]?=w0.heap[m]?):=X;have f:Hid (∀q,i9 (aD.map λk=>vals.getD k lB)=q->nH aD F vals=if(si q).any id then []else F q):=λq e=>by subst e;rfl
 clear Q hv hk X;generalize nH aD F vals=R at f⊢;obtain⟨q,hq⟩:∃q,i9 (aD.map λx=>vals.getD x lB)=q:=⟨_,rfl⟩;rw[hq]at p;replace f:=f.out q hq;have g:Hid _:=f;clear f hq;have K:Hid _:=n;have Y:Hid _:=L;clear n L;go_enter TM,ntmps199
 go_wp2
 refine vco p.out ?_;rintro e d ⟨rfl,A⟩;have P:Hid (cJ w d):=Below.step A K.out Aq;have h:Hid (ai d w.heap.size _ 108):=ai.call (T:=108) Y.out A;clear A K Y p;go_wp2_with (with_reducible refine T3 rfl ?_)
 unfold j8;refine Jz rfl (T1 false rfl _ _) (TN false rfl rfl (b:=d.heap.size) rfl (q:=q) rfl (ai.new d _ _) λI J N=>?_);have i:Hid (cJ d I):=((vaa _ d).alloc JT _).trans (N _ JT);have H:Hid _:=J;clear N J;go_wp2_with (with_reducible refine Tc rfl ?_)
 unfold j8;refine Td false rfl rfl (b:=d.heap.size) rfl (q:=q) H.out ?_;go_wp2
 refine vco (ajR false q I) ?_;rintro e r ⟨rfl,j⟩;have t:Hid (cJ w r):=Below.step (Below.step j i.out i.out.size) P.out P.out.size;have D:Hid (ai r w.heap.size _ _):=ai.call (ai.call (T:=108) h.out i.out) j;have C:Hid (ai r d.heap.size _ _):=ai.call (T:=140) H.out j;clear j h H i;cases hn:(si q).any id
 .obtain⟨jm,ml,n4⟩:=ai.all (T:=108) D.out;go_wp2_with (with_reducible refine Tc rfl ?_)
  unfold j8;refine Td false rfl rfl (b:=d.heap.size) rfl (q:=q) C.out ?_;go_wp2_with (with_reducible refine apl rfl ?_)
  unfold j8;refine apm false rfl rfl (m:=m) (q:=q) rfl rfl tY.out ((t.out.block m wo).trans E.out) λv hv=>?_;obtain⟨sa,ll,rfl,-⟩:=id hv;have Iw:Hid _:=hv;clear hv;go_wp2
  go_ret
  refine⟨_,rfl,?_,t.out⟩;rw[g.out,hn];exact Iw.out
 .go_wp2
  go_ret
  refine⟨_,rfl,?_,t.out⟩;rw[g.out,hn];exact aX.nil _ _ _
def U1:(ae prog false).funcs[(198:Nat)]?=some f198:=bw (upd:=false) func198 AJ
def CA(aD:uaa)(F:c2->List aZ)(r:aZ):List aZ:=(nH aD F r.2).map λr'=>(r.1++r'.1,r.2++r'.2)
def eN(aD:uaa)(F:c2->List aZ)(rs:List aZ)(fr i:Nat):List aZ:=((rs.drop fr).take i).flatMap (CA aD F)
variable{fr:Nat}
def U0{aD:uaa}{F:c2->List aZ}{rs:List aZ}(h:fr+i<rs.length):eN aD F rs fr (i+1)=eN aD F rs fr i++CA aD F rs[fr+i]:=by unfold eN;rw[vcl Aq,List.flatMap_append];simp
def aps(aD:uaa)(F:c2->List aZ)(rs:List aZ)(fr i m:Nat):∃l,eN aD F rs fr (i+m)=eN aD F rs fr i++l:=by unfold eN;rw[List.take_add,List.flatMap_append];exact⟨_,Y⟩
def apt{aD:uaa}{F:c2->List aZ}{rs:List aZ}{k:Nat}(h:fr+i<rs.length)(b:i<m)(hk:k<(nH aD F rs[fr+i].2).length):
 (eN aD F rs fr i).length+k<(eN aD F rs fr m).length/\(eN aD F rs fr m)[(eN aD F rs fr i).length+k]?=some (rs[fr+i].1++(nH aD F rs[fr+i].2)[k].1,rs[fr+i].2++(nH aD F rs[fr+i].2)[k].2):=by
 obtain⟨l,e⟩:=aps aD F rs fr (i+1) (m-(i+1));rw[show i+1+(m-(i+1))=m by omega,U0 h]at e;rw[e,List.append_assoc];have a:(CA aD F rs[fr+i]).length=(nH aD F rs[fr+i].2).length:=by simp[CA]
 refine⟨by simp only[vbg];omega,?_⟩;rw[List.getElem?_append_right AP,Nat.add_sub_cancel_left,List.getElem?_append_left AP];simp[CA,hk]
def apu{aD:uaa}{F:c2->List aZ}{rs:List aZ}(h:fr+i<rs.length):(eN aD F rs fr (i+1)).length=(eN aD F rs fr i).length+(nH aD F rs[fr+i].2).length:=by rw[U0 h];simp[CA]
def UM{aD:uaa}{F:c2->List aZ}{l:List cR}(h:r∈nH aD F l):∃q,r∈F q:=by
 unfold nH at h;split at h
 .simp at h
 .exact⟨_,h⟩
def apv(nZ:Nat)(r:Nat->aZ):If nZ (λt=>wS (r t).1 (r t).2):=by
 refine⟨λt W x h=>?_,λt W W' x h hk=>?_⟩
 .obtain⟨pv,i,b1,j,rfl,b,a⟩:=h;obtain⟨a1,c1,rfl⟩:=h9 b;obtain⟨k,bH,rfl⟩:=h9 a;exact⟨_,_,_,_,_,_,Y⟩
 .obtain⟨pv,i,b1,j,rfl,b,a⟩:=h;refine⟨pv,i,b1,j,Y,⟨b.1,b.2.imp_right ?_⟩,⟨a.1,a.2.imp_right ?_⟩⟩
  .rintro⟨g,cap,bd,f,e,d,c⟩;exact⟨g,cap,bd,f,e,hk _ _ _ _ d (.inr AX),c⟩
  .rintro⟨g,cap,bd,f,e,d,c⟩;exact⟨g,cap,bd,f,e,hk _ _ _ _ d (.inr AX),c⟩
def apw{S:dh}{J:ubj}(a:∀t D W,J t D W->∀b,S b\/D b->b<W.heap.size)(d:∀t D W W',J t D W->jp W W'->(∀b,S b->W'.heap[b]?=W.heap[b]?)->J t D W'):∀t D W W',J t D W->cJ W W'->J t D W':=
 λt D W W' h c=>d t D W W' h (.below c) λb hs=>c.block b (a t D W h b (.inl hs))
def apx{n:Nat}(aD:uaa)(F:c2->List aZ)(rs:List aZ)(m:Nat)(fW b7:Value)(fr d:Nat)(w0:aS)(hk:dP w0 fW (aD.map Int.ofNat))(ho:fG w0 b7 rs)(hm:lO w0 m F)(r_:fr<d)(xK:d<=rs.length)(wV:rs.length<=1000000)(w:∀r∈rs,∀k∈aD,k<r.2.length)(h4:aD.length<=4)(hF:∀q,(F q).length<=1000000)(hsz:∀r∈rs,∀q,∀r'∈F q,r.1.length+r'.1.length<=1000/\r.2.length+r'.2.length<=1000)(IY:nn rs.length b7)(kM hU gD:Nat)(Z:w0.cell? (.a kM 0)=some fW)(Ao:w0.cell? (.a kM 1)=some b7)(Y:w0.cell? (.a kM 2)=some (.map (some m)))(hf:w0.cell? (.a hU 0)=some (.I fr))(ht:w0.cell? (.a gD 0)=some (.I d)):
 E4 True 301 n (ae prog false) 198 #[.P kM 0,.P hU 0,.P gD 0] (λk=>wS ((eN aD F rs fr (d-fr))[k]?.getD ([],[])).1 ((eN aD F rs fr (d-fr))[k]?.getD ([],[])).2) (eN aD F rs fr (d-fr)).length w0.heap.size w0:=by
 intro l S J D W E uo zO jI h0;have gb:=apw uo zO;have NB:=λt D W(h:J t D W) b E=>uo t D W h b (.inr E);clear zO uo;have wo:=hm.lt;have tY:Hid (lO w0 m F):=hm;clear hm;have u:=bo.bX E;have wa:=u _ _ _ hf;have wA:=u _ _ _ ht;have Cx:=u _ _ _ Z;have To:=u _ _ _ Ao;have NC:=u _ _ _ Y;obtain⟨ka,kc,rfl,-⟩:=hk.shape;rw[vcf]at *;obtain⟨fm,UK,rfl,IY⟩:=IY;obtain⟨aD7,aD8,hce,-,bT⟩:=id ho;cases hce;obtain⟨bE,te,rfl,-⟩:=bT 0 AP;refine callsIn_of_wp U1 rfl trivial ?_ rfl;simp[vce];gi_wp2
 gi_loopw [6,8,15] (λ_ _ p wr=>∃(i:Nat)(D:dh),fr+i<=d/\p=.I (i:Int)/\J (eN aD F rs fr i).length D wr/\(eN aD F rs fr i).length<301/\cJ w0 wr/\Below w0.heap.size W wr) (λ_ _ p _=>d-fr-(intOf p).toNat)
 case atStart=>exact⟨0,D,AP,rfl,by simpa[eN]using h0,by simp[eN],E,vaa _ _⟩
 case round=>
  obtain⟨a,rfl⟩:∃x:aS,x=wr:=⟨wr,rfl⟩;obtain⟨i,K,j7,rfl,hj,kI,o,fo⟩:=hrel;have f:=bo.bX o;have HE:=f _ _ _ Z;have apy:=f _ _ _ Ao;have apz:=f _ _ _ Y;have UC:=ff HE;have ra:Hid (J (eN aD F rs fr i).length K a):=hj;have pC:Hid (cJ w0 a):=o;have tm:Hid (Below w0.heap.size W a):=fo;have BA:Hid (dP w0 (.slice ka aD.length kc) (aD.map Int.ofNat)):=by show dP w0 _ _;simpa using hk
  by_cases Ji:fr+i<d
  .have N:fr+i<rs.length:=by omega
   obtain⟨b',zD,tX,pv,jH,A,d1,s,j⟩:=bT (fr+i) N;cases tX;obtain⟨z,pc,rfl,-,-⟩:=id s;obtain⟨B,C,rfl,-,-⟩:=id j;simp at A;have I:=f _ _ _ A;have e1:=f _ _ _ d1;have ca:=ff I;have apA:Hid (dP w0 _ _):=s;have Jf:Hid (i8 w0 _ _):=j;have nU:(i:Int)<((d-fr:Nat):Int):=AP;have zI:(0:Int)<=(i:Int):=AP;have c9:te+(fr+i)*2=te+fr*2+i*2:=AP;rw[c9]at I e1;have mz:Hid (∀r'∈nH aD F rs[fr+i].2,rs[fr+i].1.length+r'.1.length<=1000/\rs[fr+i].2.length+r'.2.length<=1000):=λr' nf=>by obtain⟨q,hq⟩:=UM nf;exact hsz _ (vax N) q r' hq
   have apB:Hid (∀k∈aD,k<rs[fr+i].2.length):=w _ (vax N);have MP:Hid ((eN aD F rs fr (i+1)).length=(eN aD F rs fr i).length+(nH aD F rs[fr+i].2).length):=apu N;have apC:Hid _:=λk hk=>apt (aD:=aD) (F:=F) (k:=k) N (show i<d-fr by omega) hk;have aD9:Hid ((nH aD F rs[fr+i].2).length<=1000000):=by
    show(nH aD F rs[fr+i].2).length<=1000000;unfold nH;split
    .simp
    .exact hF _
   have apD:Hid (∀b,K b->b<a.heap.size):=NB _ _ _ hj;have y:cJ a (a.alloc (.cells #[.slice z rs[fr+i].1.length pc,.slice B rs[fr+i].2.length C] 76)):=(vaa _ a).alloc JT _;have g:=f.trans (bo.bX y);have X:Hid _:=apn aD rs[fr+i].2 F m z rs[fr+i].1.length pc (.slice B rs[fr+i].2.length C) (.slice ka aD.length kc) (.S bE te rs.length UK) (a.alloc (.cells #[.slice z rs[fr+i].1.length pc,.slice B rs[fr+i].2.length C] 76)) w0 (aX.mono wy g j) (aX.mono j6 g BA.out) ⟨_,_,_,rfl⟩ tY.out ((y.block m (vap wo o.size)).trans (o.block m wo)) (by have:=o.size;simp;omega) apB.out h4;have ans:Hid (Below w0.heap.size a (a.alloc (.cells #[.slice z rs[fr+i].1.length pc,.slice B rs[fr+i].2.length C] 76))):=y.mono o.size;have St:Hid _:=jI;have V:Hid _:=gb;have aD_:Hid _:=NB;clear hj o fo f hf ht Z Ao Y wa wA Cx To NC h0 E u A d1 bT c9 s j hsz hF y g jI gb NB hk ho w;gi_wp2
   refine⟨PJ,λh=>Cm,(callsIn_wide.2 X.out).mono ?_⟩;rintro e w2 ⟨v,rfl,hv,cw⟩;have apE:Hid (ai w2 a.heap.size #[.slice z rs[fr+i].1.length pc,.slice B rs[fr+i].2.length C] 76):=(ai.new a _ _).call cw;have ip:Hid (cJ a w2):=Below.step cw ((vaa _ a).alloc JT _) Ad;obtain⟨sa,ll,rfl,-,U⟩:=hv;have T:Hid _:=U;clear cw X U I e1 HE apy apz;gi_wp2
   have apF:¬K a.heap.size:=λh=>by have:=apD.out _ h;omega
   generalize gQ:nH aD F rs[fr+i].2=H at *;generalize hc:(eN aD F rs fr i).length=c at *;gi_loopw [8,23] (λ_ p w3=>∃(k:Nat)(D:dh),k<=H.length/\p=.I (k:Int)/\J (c+k) D w3/\c+k<301/\Below w0.heap.size a w3/\ai w3 a.heap.size #[.slice z rs[fr+i].1.length pc,.slice B rs[fr+i].2.length C] 76/\¬D a.heap.size) (λ_ p _=>H.length-(intOf p).toNat)
   case atStart=>exact⟨0,K,vav _,rfl,V.out _ _ _ _ ra.out ip.out,kI,ip.out.mono pC.out.size,apE.out,apF⟩
   case round=>
    obtain⟨k,Cg,jK,rfl,Ix,td,jg,cB,mq⟩:=hrel;have R:Hid (J (c+k) Cg wr):=Ix;have qv:Hid (cJ w0 wr):=pC.out.trans jg;have nB:Hid (Below w0.heap.size a wr):=jg;have Bw:Hid (ai wr a.heap.size _ 76):=cB;have Q:Hid (¬Cg a.heap.size):=mq;obtain⟨jm,ml,n4⟩:=cB.all;clear Ix jg mq cB;by_cases rg:k<H.length
    .obtain⟨b',zD,rfl,pv,jH,A,d1,s,j⟩:=T.out k rg;obtain⟨ND,NE,rfl,-,-⟩:=id s;obtain⟨NF,NG,rfl,-,-⟩:=id j;simp at A;have f:=bo.bX qv.out;have I:=f _ _ _ A;have e1:=f _ _ _ d1;have aEa:=ff I;have eH:(k:Int)<(H.length:Int):=AP;have jG:(0:Int)<=(k:Int):=AP;have y:cJ wr (wr.alloc (.cells #[.slice ND H[k].1.length NE,.slice NF H[k].2.length NG] 76)):=(vaa _ wr).alloc JT _;have g:=f.trans (bo.bX y);have P:Hid _:=aoO rs[fr+i].1 H[k].1 rs[fr+i].2 H[k].2 (.slice z rs[fr+i].1.length pc) (.slice B rs[fr+i].2.length C) (.slice ND H[k].1.length NE) (.slice NF H[k].2.length NG) (wr.alloc (.cells #[.slice ND H[k].1.length NE,.slice NF H[k].2.length NG] 76)) (aX.mono j6 g apA.out) (aX.mono wy g Jf.out) (aX.mono j6 g s) (aX.mono wy g j) (mz.out _ (vax rg));clear A d1 s j f g y;gi_wp2
     refine⟨PJ,λh=>Cm,(callsIn_wide.2 P.out).mono ?_⟩;rintro e L ⟨x,rfl,hx,jv⟩;have sE:cJ wr L:=Below.step jv ((vaa _ wr).alloc JT _) Ad;obtain⟨t1,t2⟩:=apC.out k rg;have b9:wS ((eN aD F rs fr (d-fr))[c+k]?.getD ([],[])).1 ((eN aD F rs fr (d-fr))[c+k]?.getD ([],[])).2 L x:=by rw[t2];exact hx
     obtain⟨pv,jH,o1,o2,rfl,gw,dn⟩:=id hx;obtain⟨p3,dB,rfl⟩:=h9 gw;obtain⟨p4,c4,rfl⟩:=h9 dn;obtain⟨fn,tmps,assign,body,hy,bC⟩:=St.out _ _ Cg L (V.out _ _ _ _ R.out sE) t1 td b9;have Tp:Hid (ai L a.heap.size _ 76):=Bw.out.call sE;have apG:Hid (Below w0.heap.size a L):=nB.out.trans (sE.mono qv.out.size);have rn:Hid (c+k<(eN aD F rs fr (d-fr)).length):=t1;simp only[vbg]at hy;clear b9 hx gw dn t1 t2 P I e1 jm ml jv sE;gi_wp2
     refine⟨λh=>Cm,bC.mono ?_⟩;rintro e oH ⟨rfl,⟨Cd,zP,M⟩,O⟩;replace M:=M trivial;have Jg:Hid (J (c+k+1) Cd oH):=zP;have Nz:Hid (Below w0.heap.size a oH):=apG.out.trans O;have apH:Hid (ai oH a.heap.size _ 76):=(M.same _ Tp.out.lt Q.out).trans Tp.out;have apI:Hid (¬Cd a.heap.size):=λh=>Q.out (M.less _ Tp.out.lt h);clear bC hy zP O M;by_cases hz:c+k+1=301
     .have e:decide (c+k+1≠301)=false:=by simp[hz]
      rw[e];clear e;gi_wp2
      (try simp only[Exit.inBlock,Exit.then])
      refine vbu (results_none rfl _ _ _) rfl ?_;refine⟨⟨_,rfl⟩,⟨Cd,?_⟩,tm.out.trans Nz.out⟩;have e:min (eN aD F rs fr (d-fr)).length 301=c+k+1:=by have:=rn.out;omega
      rw[e];exact Jg.out
     .have e:decide (c+k+1≠301)=true:=by simp[hz]
      rw[e];clear e;gi_wp2
      go_roundw
      case rel=>exact⟨k+1,Cd,AP,Ad,Jg.out,AP,Nz.out,apH.out,apI.out⟩
      case measure=>simp[intOf];omega
    .have iq:k=H.length:=by omega
     subst iq;have eH:¬((H.length:Int)<(H.length:Int)):=AP;clear T jm ml;gi_wp2
     go_roundw
     case rel=>exact⟨i+1,Cg,AP,Ad,by rw[MP.out];exact R.out,by rw[MP.out];exact td,qv.out,tm.out.trans nB.out⟩
     case measure=>simp[intOf];omega
  .have nU:¬(i:Int)<((d-fr:Nat):Int):=by omega
   clear hj o fo f hf ht Z Ao Y wa wA Cx To NC h0 E u bT jI gb NB hsz hF hk ho w;gi_wp2
   go_end0
   have e:d-fr=i:=AP;rw[e,vcp AP];exact⟨⟨_,rfl⟩,⟨K,ra.out⟩,tm.out⟩
open Conc ConcM bp ag fq iu gg jd dm
def PZ{ρ:ax.Ren}(h:ar ρ (.agg (cg q)) v):v=.agg (cg q):=by
 cases h with
 |agg hs h=>
  rename_i a';congr 1
  apply vdb;intro i;by_cases hi:i<16
  .have a:i<(cg q).size:=hi;have c:i<a'.size:=by rw[<-hs];exact hi
   rw[vao a,vao c];have d:=h i _ _ (vao a) (vao c);have f:∀v∈(cg q).toList,(∃b,v=.bool b)\/(∃k n,v=.int k n)\/∃s,v=.string s:=by unfold cg;simp
   rcases f (cg q)[i] Ad with⟨b,e⟩|⟨k,n,e⟩|⟨s,e⟩;all_goals
    rw[e]at d⊢;generalize a'[i]=y at d⊢;cases d;rfl
  .have a:(cg q).size<=i:=Nat.le_of_not_lt hi;have c:a'.size<=i:=by rw[<-hs];exact a
   rw[Array.getElem?_eq_none a,Array.getElem?_eq_none c]
def cE.apJ{ao aI:Type}{R:ao->aI->Prop}{l:List ao}{m:List aI}(h:cE R l m):∀y∈m,∃x∈l,R x y:=by
 induction h with
 |nil=>simp
 |cons h t b=>
  intro y a;rcases vbn.1 a with rfl|a
  .exact⟨_,Ad,h⟩
  .obtain⟨x,c,d⟩:=b y a;exact⟨x,by simp[c],d⟩
def cE.apK{ao aI:Type}{R:ao->aI->Prop}{l:List ao}{m:List aI}(h:cE R l m):∀x∈l,∃y∈m,R x y:=by
 induction h with
 |nil=>simp
 |cons h t b=>
  intro y a;rcases vbn.1 a with rfl|a
  .exact⟨_,Ad,h⟩
  .obtain⟨x,c,d⟩:=b y a;exact⟨x,by simp[c],d⟩
theorem lO.carry{ρ:ax.Ren}{w w':aS}{F:c2->List aZ}(h:lO w m F)(hc:Carry ρ w w')(hv:ar ρ (.map (some m)) v'):∃f,v'=.map (some f)/\lO w' f F:=by
 cases hv with
 |map r=>
  obtain⟨es,eW,o,n,l⟩:=h;obtain⟨es',k,g⟩:=hc.map _ _ _ _ r o;refine⟨_,Y,es',eW,k,λe b=>?_,λq hq=>l q λe b hk=>?_⟩
  .obtain⟨s,d,a⟩:=cE.apJ g e b;obtain⟨q,j,i⟩:=n s d;exact⟨q,PZ (j▸a.key),ax.aX.carry qo hc a.val i⟩
  .obtain⟨p,c,a⟩:=cE.apK g e b;exact hq p c (PZ (hk▸a.key))
theorem lO.heap{w w':aS}{F:c2->List aZ}(h:lO w m F)(e:w'.heap=w.heap):lO w' m F:=by obtain⟨es,eW,i,g,f⟩:=h;refine⟨es,eW,by rw[e];exact i,λx d=>?_,f⟩;obtain⟨q,c,a⟩:=g x d;exact⟨q,c,aX.mono qp (λb o v hv=>by simpa[World.cell?,e]using hv) a⟩
def ym(aD:uaa)(F:c2->List aZ)(rs:List aZ)(fr ei:Nat)(w:aS)(u:Value):Prop:=
 ∃kM hU gD fW b7 m,u=.func (.func 198) #[] #[.P kM 0,.P hU 0,.P gD 0]/\
  w.cell? (.a kM 0)=some fW/\w.cell? (.a kM 1)=some b7/\w.cell? (.a kM 2)=some (.map (some m))/\w.cell? (.a hU 0)=some (.I fr)/\w.cell? (.a gD 0)=some (.I ei)/\dP w fW (aD.map Int.ofNat)/\fG w b7 rs/\nn rs.length b7/\lO w m F
def apN(aD:uaa)(F:c2->List aZ)(rs:List aZ)(fr s:Nat):B3 (ym aD F rs fr s):=by rintro ρ w w' u E hc k ⟨b,H,J,K,L,m,rfl,h0,q,p,o,n,D,B,r,j⟩;obtain⟨c1,bH,dB,rfl,a,i,h⟩:=Y0 k;obtain⟨f,z,y⟩:=hc.cell _ _ _ a h0;obtain⟨A,a1,c⟩:=hc.cell ⟨b,1,none⟩ ⟨c1,1,none⟩ _ ⟨a.1,Y,Y⟩ q;obtain⟨ed,C,x⟩:=hc.cell ⟨b,2,none⟩ ⟨c1,2,none⟩ _ ⟨a.1,Y,Y⟩ p;obtain⟨I,d,v⟩:=hc.cell _ _ _ i o;obtain⟨l4,e,t⟩:=hc.cell _ _ _ h n;rw[v.tI]at d;rw[t.tI]at e;obtain⟨g,rfl,l⟩:=j.carry hc x;exact⟨c1,bH,dB,f,A,g,Y,z,a1,C,d,e,ax.aX.carry wx hc y D,ax.aX.carry qo hc c B,r.carry c,l⟩
theorem ym.tape{aD:uaa}{F:c2->List aZ}{rs:List aZ}{b:Nat}{w:aS}{u:Value}(a:Nat->Question->Nat)(h:ym aD F rs fr b w u):ym aD F rs fr b {w with tape:=a} u:=by obtain⟨c,e,k,n,p,m,rfl,h0,j,i,g,f,q,o,l,d⟩:=h;exact⟨c,e,k,n,p,m,Y,h0,j,i,g,f,aX.mono j6 (z_ w a) q,aX.mono qp (z_ w a) o,l,d.heap Y⟩
def apO:(ae prog false).funcs[(196:Nat)]?=some f196:=bw (upd:=false) func196 AJ
def apP(aD:uaa)(F:c2->List aZ)(rs:List aZ)(g d:Value)(m fr a:Nat)(w:aS)(hv:dP w g (aD.map Int.ofNat))(hc:fG w d rs)(hd:nn rs.length d)(k:lO w m F):
 Calls (ae prog false) 196 #[.agg #[g,d,.map (some m)],.I fr,.I a] w λe w'=>∃u,e=.returned u/\ym aD F rs fr a w' u:=by
 obtain⟨c,cap,rfl,-,-⟩:=id hv;obtain⟨b,cc,rfl,l⟩:=id hd;go_enter apO,ntmps196
 go_wp2
 go_ret
 have b1:=((ai.new w #[.slice c (aD.map Int.ofNat).length cap,.slice b rs.length cc,.map (some m)] 108).alloc (.cells #[.I (fr:Int)] 3)).alloc (.cells #[.I (a:Int)] 3);have j:=(ai.new (w.alloc (.cells #[.slice c (aD.map Int.ofNat).length cap,.slice b rs.length cc,.map (some m)] 108)) #[.I (fr:Int)] 3).alloc (.cells #[.I (a:Int)] 3);have i:=ai.new ((w.alloc (.cells #[.slice c (aD.map Int.ofNat).length cap,.slice b rs.length cc,.map (some m)] 108)).alloc (.cells #[.I (fr:Int)] 3)) #[.I (a:Int)] 3;have f:=((((vaa _ w).alloc JT (.cells #[.slice c (aD.map Int.ofNat).length cap,.slice b rs.length cc,.map (some m)] 108)).alloc Ad (.cells #[.I (fr:Int)] 3)).alloc Aq (.cells #[.I (a:Int)] 3));simp only[vcf]at *;simp at j i;have h:=bo.bX f;exact⟨_,Y,w.heap.size,w.heap.size+1,w.heap.size+1+1,.slice c aD.length cap,.slice b rs.length cc,m,Y,b1.rules.1 0,b1.rules.1 1,b1.rules.1 2,j.rules.1 0,i.rules.1 0,aX.mono j6 h hv,aX.mono qp h hc,hd,lO.below k f⟩
def apQ:iK prog false f196=true:=by decide+kernel
def apR:iK prog false f198=true:=by decide+kernel
structure JD(aD:uaa)(F:c2->List aZ)(rs:List aZ):Prop where
 rows:rs.length<=1000000
 lt:∀r∈rs,∀k∈aD,k<r.2.length
 four:aD.length<=4
 od:∀q,(F q).length<=1000000
 size:∀r∈rs,∀q,∀r'∈F q,r.1.length+r'.1.length<=1000/\r.2.length+r'.2.length<=1000
 text:∀r∈rs,∀d∈r.2,d.text.size<=9223372036854775807
 apS:∀q,∀r∈F q,∀d∈r.2,d.text.size<=9223372036854775807
def rH(aD:uaa)(F:c2->List aZ)(rs:List aZ)(fr ei:Nat):List aZ:=(eN aD F rs fr (ei-fr)).take 301
def JE(aD:uaa)(F:c2->List aZ)(rs:List aZ)(fr a:Nat):(rH aD F rs fr a).length=min (eN aD F rs fr (a-fr)).length 301:=by simp[rH,Nat.min_comm]
def Tq{aD:uaa}{F:c2->List aZ}{rs:List aZ}(h:r∈eN aD F rs fr i):∃a∈rs,∃q,∃b∈F q,r=(a.1++b.1,a.2++b.2):=by unfold eN at h;obtain⟨a,e,c⟩:=List.mem_flatMap.1 h;obtain⟨b,d,rfl⟩:=vbh.1 c;obtain⟨q,hq⟩:=UM d;exact⟨a,List.mem_of_mem_drop (List.mem_of_mem_take e),q,b,hq,Y⟩
def apT{p:uay}{l:List cR}{w:aS}{x y:Value}(h:wS p l w (.agg #[x,y]))(a:p.length<=9223372036854775807)(b:l.length<=9223372036854775807)(ht:∀d∈l,d.text.size<=9223372036854775807):dP w x p/\i8 w y l:=by obtain⟨pv,g,b1,i,e,f,c⟩:=h;simp at e;obtain⟨rfl,rfl⟩:=e;exact⟨aoG f a,aoF c b ht⟩
def apU(aD:uaa)(F:c2->List aZ)(rs:List aZ)(ok:JD aD F rs)(fr c:Nat)(n:fr<c)(l:c<=rs.length)(w:aS)(u:Value)(h:ym aD F rs fr c w u):
 Calls (ae prog false) 112 #[u] w λe w'=>∃v,e=.returned v/\fG w' v (rH aD F rs fr c):=by
 obtain⟨o,x,C,E,K,m,rfl,h0,B,A,z,y,L,J,D,r⟩:=h;refine(XT w (apv _ _) (λargs w=>c0 U1 apR args w) (apx aD F rs m E K fr c w L J r n l ok.rows ok.lt ok.four ok.od ok.size D o x C h0 B A z y)).mono ?_;rintro e w' ⟨v',rfl,s,-⟩;refine⟨v',Y,MI s _ (JE _ _ _ _ _) AP λj t p q g=>?_⟩;have f:j<(eN aD F rs fr (c-fr)).length:=by rw[JE]at t;omega
 have I:(rH aD F rs fr c)[j]=(eN aD F rs fr (c-fr))[j]:=by simp[rH]
 rw[I];simp only[vag f,vae]at g;obtain⟨a,k,q',b,i,H⟩:=Tq (vax f);rw[H]at g⊢;have hs:=ok.size a k q' b i;refine apT g Aq Aq λd hd=>?_;rcases List.mem_append.1 hd with hd|hd
 .exact ok.text a k d hd
 .exact ok.apS q' b i d hd
def apV{Stop:Bool->ag.Lo At->aV->Prop}{c:dD}{cb:aS}{dE:dh}(y:∀b,dE b->c.K b)(hg:∀g,g<=prog.globals.size->dE g)(n:io (ej prog false) (λb=>dE b\/de b) de cb){o i d:Value}{aD:uaa}{F:c2->List aZ}{rs:List aZ}(ok:JD aD F rs){fr a:uas}(hv:dP cb i (aD.map Int.ofNat))(hc:fG cb d rs)(hd:nn rs.length d)(f:lO cb m F)(r:ar (eS (λb=>dE b\/de b) de) i i)(l:ar (eS (λb=>dE b\/de b) de) d d)(q:ar (eS (λb=>dE b\/de b) de) (.map (some m)) (.map (some m)))(hinv:∀(args:dp)(w:aS),(callMethod o "Piece" args).run prog w=.ok (.enter 196 (#[.agg #[i,d,.map (some m)]]++args)) w/\(callMethod o "Piece" args).events prog w #[]=#[])(s:∀T,T<c.N->fr T<a T/\a T<=rs.length)(tj:∀T,T<c.N->c.rows T=(rH aD F rs (fr T) (a T)).length)(pw:∀T,c.cj T=false):
 uM c cb prog Stop 112 o 196 (.agg #[i,d,.map (some m)]) fr a
  (λT u M w=>pK (ej prog false) dE c.K (ym aD F rs (fr T) (a T)) u M w) (λT v M w=>pK (ej prog false) dE c.K (λw v=>T<c.N/\fG w v (rH aD F rs (fr T) (a T))) v M w):=by
 refine YY kJ Y func196 apQ Y AJ func112 Y2 Y AJ y hg n hinv (.pk (og λv f=>?_))
  (B5:=λT=>ym aD F rs (fr T) (a T)) (B6:=λT w v=>T<c.N/\fG w v (rH aD F rs (fr T) (a T))) (λT=>apN _ _ _ _ _) (λT _ _ _ _ _ hc hv h=>⟨h.1,Y1 _ _ _ _ _ _ hc hv h.2⟩) (λT j w t p D k=>?_) pw (λT j p u f k=>?_) (λT w v h=>?_)
 .simp at f;rcases f with rfl|rfl|rfl
  .exact r
  .exact l
  .exact q
 .have x:=z_ p k;have c1:=tJ t n;have bH:=D.carry (uN n t) J1;obtain⟨m1,C,A⟩:=f.carry c1 q;cases C;obtain⟨E,B,z⟩:=A.carry bH q;cases B;exact apP aD F rs i d m (fr T) (a T) {p with tape:=k} (aX.mono j6 x (ax.aX.carry wx bH r (ax.aX.carry wx c1 r hv))) (aX.mono qp x (ax.aX.carry qo bH l (ax.aX.carry qo c1 l hc))) hd (z.heap Y)
 .refine(apU aD F rs ok (fr T) (a T) (s T j).1 (s T j).2 _ u (f.tape k)).mono ?_;rintro e w' ⟨v,rfl,h⟩;exact⟨v,Y,j,h⟩
 .obtain⟨j,H,cap,rfl,-,-⟩:=h;simp_all
end bS
namespace bS
open Conc ConcM RowKit ax bp ag iu gg jd pT dm
variable{M a6:dh}{w0:aS}{bs:uap}
def PT{P:b4}{upd:Bool}(A:(ej P upd).Good)(U:upd=false){f:uaj}{fn:Func}{z:Code}(s:P.funcs[f]?=some fn)(hk:iK P upd fn=true)(a:fn.body=some z)(y:B0 fn=true)(k:∀b,M b->a6 b)(hg:∀g,g<=P.globals.size->M g){args:dp}(t:aJ (eS M de) args args)(C:io (ej P upd) M de w0){n:Int}(S:∀w,(∀b,M b->w.heap[b]?=w0.heap[b]?)->∀i,gP (ej P upd) M de w i->∀T,Calls (ae P upd) f args {i with tape:=T} (λe _=>e=.returned (.I n))){ST:Bool->fb.Lo->aV->Prop}(q:∀m l g w N j,(∀b,N b->j b)->ST m l ⟨g,w,N⟩->ST m l ⟨g,w,j⟩){m:Bool}:
 jJ P ST m f args (jL fb () a6 w0 bs) (λu D=>u=.I n/\D=jL fb () a6 w0 bs):=by
 intro a4 aF aC aK aM aH csZ K w γ hS
 have hF:af fb a6 w0 bs w:=hS
 have J:∀b,M b->w.heap[b]?=w0.heap[b]?:=λb a=>hF.rw.heap b AA
 have I:io (ej P upd) M de w:=uN C J
 obtain⟨i,H⟩:=HV (ej P upd) M de w
 have p:=jD.more (K':=M) AA (R0 A s hk a y I hg AA t (R:=λv _=>v=.I n) H AA m (a4.at aF (.inRegion aC (aK::aM)::aH)) csZ)
 have Q:(⟨a0 (Frame.enter P f args .normal) (a4.at aF (.inRegion aC (aK::aM)::aH)::csZ),w,cd a6 bs⟩:aV)=qf ⟨a0 (Frame.enter P f args .normal) (a4.at aF (.inRegion aC (aK::aM)::aH)::csZ),w,de⟩ (cd a6 bs):=by
  unfold qf;congr 1
  funext b
  exact propext ⟨.inr,λh=>h.resolve_left (λx=>x)⟩
 show bg _ _ _ _ () γ ⟨a0 (Frame.enter P f args .normal) (a4.at aF (.inRegion aC (aK::aM)::aH)::csZ),w,cd a6 bs⟩
 rw[Q]
 have c:∀b,cd a6 bs b->b<w.heap.size:=by
  rintro b (h|h)
  .exact hF.lt b (.inr (.inl h))
  .obtain⟨x,r,rfl⟩:=vbh.1 h;exact jE (hF.c8 x r)
 refine YQ tZ rfl (λ_ _ h=>h) p γ (cd a6 bs) (λb a=>.inr (.inl (k b a))) rfl (λb _ h=>h) (λb a=>⟨λx=>x,λh=>h,c b a⟩) AA AA ?_
 rintro Y F ⟨ρ,w1,v,v',d⟩ V Z MB W hsz E X MC o O L
 obtain rfl:v'=.I n:=by have:=d.val;rw[d.post]at this;exact this.tI
 have B:af fb a6 w0 bs Y.w:=hF.on ⟨AA,hsz,o,O,L⟩
 have:=K (.I n) (jL fb () a6 w0 bs) ⟨rfl,rfl⟩ Y.w F B
 unfold qf
 have e:=d.g
 rw[vde]at e
 rw[e]
 exact bg.more q this (λb a=>.inr a)
def apZ:(ae prog false).funcs[(207:Nat)]?=some f207:=bw (upd:=false) func207 AJ
def ap0:(ae prog false).funcs[(197:Nat)]?=some f197:=bw (upd:=false) func197 AJ
def ap1(t:List aG)(v:Value)(w:aS)(hv:nX w v t)(h0:0<t.length):
 Calls (ae prog false) 207 #[.agg #[v]] w λe _=>e=.returned (.I (t[0].dk.length:Int)):=by
 obtain⟨k,cap,rfl,-,d⟩:=hv;obtain⟨b,off,rfl,bj,vs,l,-,-,-,-,c,a⟩:=d 0 h0;obtain⟨h,ci,f,g,an,j,-,-,rfl⟩:=a.shape;simp at c;have i:=ff c;clear d a;have hi:(0:Int)<(t.length:Int):=AP;go_enter apZ,ntmps207
 go_wp2
 go_ret
 rfl
def ap2(b d:Value)(m:Nat)(rs:List aZ)(w:aS)(f:∃a n c,b=.slice a n c)(hc:fG w d rs):
 Calls (ae prog false) 197 #[.agg #[b,d,.map (some m)]] w λe _=>e=.returned (.I (rs.length:Int)):=by
 obtain⟨g,a2,ec,rfl⟩:=f;obtain⟨h,cap,rfl,-,-⟩:=hc;go_enter ap0,ntmps197
 go_wp2
 go_ret
 rfl
def ap3:iK prog false f207=true:=by decide+kernel
def ap4:iK prog false f197=true:=by decide+kernel
theorem ap5(h:∀b,M b->a6 b)(hg:∀g,g<=prog.globals.size->M g)(a:io (ej prog false) M de w0){t:List aG}{v:Value}(hv:nX w0 v t)(hrel:ar (eS M de) v v)(h0:0<t.length){ST:Bool->fb.Lo->aV->Prop}(i:∀m l g w N f,(∀b,N b->f b)->ST m l ⟨g,w,N⟩->ST m l ⟨g,w,f⟩):
 jJ prog ST true 207 (#[.agg #[v]]++#[]) (jL fb () a6 w0 bs) (λu j=>u=.I (t[0].dk.length:Int)/\j=jL fb () a6 w0 bs):=
 PT kJ Y func207 ap3 Y AJ h hg (.one (.pk (.one hrel))) a (λw e d k c=>ap1 t v {d with tape:=c} (aX.mono tg (z_ d c) (ax.aX.carry xY (k.carry (uN a e) J1) hrel (ax.aX.carry xY (tJ e a) hrel hv))) h0) i
def ap6(p:∀b,M b->a6 b)(hg:∀g,g<=prog.globals.size->M g)(f:io (ej prog false) M de w0){rs:List aZ}{d e:Value}{m:Nat}(r:∃a n c,d=.slice a n c)(hv:fG w0 e rs)(x:ar (eS M de) d d)(h:ar (eS M de) e e)(v:ar (eS M de) (.map (some m)) (.map (some m))){ST:Bool->fb.Lo->aV->Prop}(q:∀m l g w N o,(∀b,N b->o b)->ST m l ⟨g,w,N⟩->ST m l ⟨g,w,o⟩):
 jJ prog ST true 197 (#[.agg #[d,e,.map (some m)]]++#[]) (jL fb () a6 w0 bs) (λu s=>u=.I (rs.length:Int)/\s=jL fb () a6 w0 bs):=
 PT kJ Y func197 ap4 Y AJ p hg (.one (.pk (og AA))) f (λw k j t i=>ap2 d e m rs {j with tape:=i} r (aX.mono qp (z_ j i) (ax.aX.carry qo (t.carry (uN f k) J1) h (ax.aX.carry qo (tJ k f) h hv)))) q
end bS
namespace bS
open Conc ConcM RowKit ax
def ap7(v:Value)(args:dp)(w:aS):(callMethod (.iface 112 (.agg #[v])) "Piece" args).run prog w=.ok (.enter 206 (#[.agg #[v]]++args)) w/\(callMethod (.iface 112 (.agg #[v])) "Piece" args).events prog w #[]=#[]:=⟨Ah,Ah⟩
def ap8(v:Value)(w:aS):(callMethod (.iface 112 (.agg #[v])) "Size" #[]).run prog w=.ok (.enter 207 (#[.agg #[v]]++#[])) w/\(callMethod (.iface 112 (.agg #[v])) "Size" #[]).events prog w #[]=#[]:=⟨Ah,Ah⟩
def ap9(v u m:Value)(args:dp)(w:aS):(callMethod (.iface 108 (.agg #[v,u,m])) "Piece" args).run prog w=.ok (.enter 196 (#[.agg #[v,u,m]]++args)) w/\(callMethod (.iface 108 (.agg #[v,u,m])) "Piece" args).events prog w #[]=#[]:=⟨Ah,Ah⟩
def ap_(v u m:Value)(w:aS):(callMethod (.iface 108 (.agg #[v,u,m])) "Size" #[]).run prog w=.ok (.enter 197 (#[.agg #[v,u,m]]++#[])) w/\(callMethod (.iface 108 (.agg #[v,u,m])) "Size" #[]).events prog w #[]=#[]:=⟨Ah,Ah⟩
