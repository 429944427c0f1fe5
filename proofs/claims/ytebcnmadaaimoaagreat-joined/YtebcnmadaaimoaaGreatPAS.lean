import Derived.Test.YtebcnmadaaimoaaGreatPAM
import Derived.Test.YtebcnmadaaimoaaGreatPAP
set_option linter.all false
set_option maxRecDepth 100000
set_option maxHeartbeats 16000000
namespace Go.Proofs.YtebcnmadaaimoaaGreat
open Go.Proofs.Tryz
namespace bX
open RowKit az bc
def mT(l:List cZ):List Value:=l.flatMap λd=>[.bool d.dU,.I d.num,.I d.bV,.string d.text]
def W3(l:List cZ):(mT l).length=l.length*4:=by induction l with|nil=>rfl|cons a l b=>simp only[mT,List.flatMap_cons,vbf,vdo]at b⊢;simp at b⊢;omega
def apN(l l':List cZ):mT (l++l')=mT l++mT l':=by simp[mT]
theorem Tw:∀(l:List cZ)(i:Nat)(h:i<l.length),(mT l)[i*4]?=some (.bool l[i].dU)/\(mT l)[i*4+1]?=some (.I l[i].num)/\(mT l)[i*4+2]?=some (.I l[i].bV)/\(mT l)[i*4+3]?=some (.string l[i].text)
 | [],i,h=>by simp at h
 |d::l,0,_=>⟨U,U,U,U⟩
 |d::l,i+1,h=>by have:=Tw l i Dd;have e:mT (d::l)=[.bool d.dU,.I d.num,.I d.bV,.string d.text]++mT l:=rfl;rw[e,show(i+1)*4=i*4+4 by omega,show i*4+4+1=(i*4+1)+4 by omega,show i*4+4+2=(i*4+2)+4 by omega,show i*4+4+3=(i*4+3)+4 by omega];simpa using this
variable{w:aL}{v:Value}
def WZ{l:List cZ}(h:jq w v l):yA 4 w (λ_=>some v) (l.length,mT l):=by
 obtain⟨a,c,rfl,-,g⟩:=h;refine⟨a,c,U,W3 l,λu f=>?_,λh0=>?_⟩
 .simp only[mT,List.mem_flatMap]at f;obtain⟨d,-,f⟩:=f;simp at f;rcases f with rfl|rfl|rfl|rfl<;>rfl
 .obtain⟨b,off,rfl,-⟩:=g 0 h0;refine⟨b,off,U,λj u f=>?_⟩;have p:j<l.length*4:=by rw[<-W3];exact(vab.1 f).1
  obtain⟨i,r,rfl,o⟩:∃i r,j=i*4+r/\r<4:=⟨j / 4,j % 4,AX,AX⟩;have hi:i<l.length:=AX;obtain⟨q,s,e,f0,f1,iu,f3,-⟩:=g i hi;cases e;obtain⟨m,g1,k,n⟩:=Tw l i hi;simp only[Nat.add_assoc,vcc]at f0 f1 iu f3;obtain rfl|rfl|rfl|rfl:r=0\/r=1\/r=2\/r=3:=AX
  .rw[vcc,m]at f;cases f;exact f0
  .rw[g1]at f;cases f;exact f1
  .rw[k]at f;cases f;exact iu
  .rw[n]at f;cases f;exact f3
def WX{l:uaz}(h:eb w v l):yA 1 w (λ_=>some v) (l.length,l.map (Value.int .i64)):=by
 obtain⟨a,c,rfl,-,g⟩:=h;refine⟨a,c,U,Ab,λu f=>?_,λh0=>?_⟩
 .simp at f;obtain⟨d,-,rfl⟩:=f;rfl
 .obtain⟨b,off,rfl,-⟩:=g 0 h0;refine⟨b,off,U,λj u f=>?_⟩;simp only[vbc,vaj]at f;obtain⟨n,hn,rfl⟩:=f;obtain⟨i,rfl⟩:=vab.1 hn;obtain⟨k,m,e,f0⟩:=g j i;cases e;simpa[qG]using f0
variable{e:uaa}
def apO{base:Nat}{l:List cZ}(h:w.ownsRow base e 4 v l.length (mT l))(b:l.length<=9223372036854775807)(ht:∀d∈l,d.text.size<=9223372036854775807):jq w v l:=by
 rcases h.2 with⟨rfl,h0⟩|⟨g,cap,bf,rfl,-,hg,-,-,-,k⟩
 .have:l=[]:=vbq AF;subst this;exact a0.nil _ _ _
 .refine⟨_,cap,U,b,λi hi=>⟨g,0,U,?_⟩⟩;obtain⟨f,g1,c,j⟩:=Tw l i hi;have a:∀o v,(mT l)[o]?=some v->w.cell? (.a g (0+o))=some v:=by intro o v m;rw[vbr];grind[World.cell?]
  exact⟨a _ _ f,a _ _ g1,a _ _ c,a _ _ j,ht _ (vax hi)⟩
def apP{base:Nat}{l:uaz}(h:w.ownsRow base e 1 v l.length (l.map (Value.int .i64)))(a:l.length<=9223372036854775807):eb w v l:=by
 rcases h.2 with⟨rfl,h0⟩|⟨g,cap,bf,rfl,-,hg,-,-,-,b⟩
 .have:l=[]:=vbq AF;subst this;exact a0.nil _ _ _
 .refine⟨_,cap,U,a,λi hi=>⟨g,0,U,?_⟩⟩;have c:(l.map (Value.int .i64))[i]?=some (.I l[i]):=by simp[hi]
  simp only[qG];grind[World.cell?]
def xh(place:uaz)(vals:List cZ)(W:aL)(x:Value):Prop:=
 ∃pv jT b1 b2,x=.agg #[pv,jT]/\W.ownsRow b1 3 1 pv place.length (place.map (Value.int .i64))/\W.ownsRow b2 91 4 jT vals.length (mT vals)
def Zu:(ae prog false).funcs[(199:Nat)]?=some f199:=bB (upd:=false) func199 AQ
@[simp] theorem aFL:cX false 199:=dg Zu AQ
variable{w':aL}{ats:uar}
section
def Iw{base:Nat}{size n:Nat}{xs:uad}(h:w.ownsRow base e size v n xs)(b:cC w w'):w'.ownsRow base e size v n xs:=by refine⟨h.1,h.2.imp_right ?_⟩;rintro⟨g,cap,bf,f,d,a,c⟩;exact⟨g,cap,bf,f,d,(b.block g (jS a)).trans a,c⟩
def NN{base B k:Nat}{T:uaa}{size n:Nat}{u:Value}{xs:uad}{cs:df}(h:w.ownsRow base e size v n xs)(c:ah w B cs T)(a:e≠T):(w.setCell ⟨B,k,none⟩ u).ownsRow base e size v n xs:=by
 refine⟨h.1,h.2.imp_right ?_⟩;rintro⟨g,cap,bf,i,f,b,d⟩;refine⟨g,cap,bf,i,f,?_,d⟩;rw[vat _ _ _ _ (show g≠B from ?_)]
 .exact b
 .rintro rfl;rw[show w.heap[g]?=_ from c]at b;cases b;exact a U
def xh.h8{p:uaz}{l:List cZ}:rb (xh p l):=λ_ _ _ a⟨pv,b,b1,b2,e,d,c⟩=>⟨pv,b,b1,b2,e,Iw d a,Iw c a⟩
def yT{p:uaz}(a:cC w w')(h:eb w v p):eb w' v p:=a0.mono kw (bp.b7 a) h
def yU{p:List cZ}(a:cC w w')(h:jq w v p):jq w' v p:=a0.mono wU (bp.b7 a) h
def xj(R:uax)(h:rb R):a5:=⟨R,h,λ_=>False,λ_ h=>h.elim⟩
def NO(p:uaz)(l:List cZ):a5:=xj (λw v=>∃B x y,v=.P B 0/\w.cell? (.a B 0)=some x/\w.cell? (.a B 1)=some y/\eb w x p/\jq w y l) λ_ _ _ hb⟨B,x,y,h0,h1,h2,h3,h4⟩=>⟨B,x,y,h0,bp.b7 hb _ _ _ h1,bp.b7 hb _ _ _ h2,yT hb h3,yU hb h4⟩
def Zm(p:uaz):a5:=xj (λw v=>∃B k x,v=.P B k/\w.cell? (.a B k)=some x/\eb w x p) λ_ _ _ hb⟨B,k,x,h0,h1,h2⟩=>⟨B,k,x,h0,bp.b7 hb _ _ _ h1,yT hb h2⟩
def Zk(l:List cZ):a5:=xj (λw v=>∃B k x,v=.P B k/\w.cell? (.a B k)=some x/\jq w x l) λ_ _ _ hb⟨B,k,x,h0,h1,h2⟩=>⟨B,k,x,h0,bp.b7 hb _ _ _ h1,yU hb h2⟩
def Tx(p:uaz):a5:=xj (λw v=>eb w v p) λ_ _ _ hb h=>yT hb h
def Ty(l:List cZ):a5:=xj (λw v=>jq w v l) λ_ _ _ hb h=>yU hb h
def Y9(p p':uaz):a5:=xj (λw v=>∃b x y,v=.S b 0 2 2/\w.cell? (.a b 0)=some x/\w.cell? (.a b 1)=some y/\eb w x p/\eb w y p') λ_ _ _ hb⟨B,x,y,h0,h1,h2,h3,h4⟩=>⟨B,x,y,h0,bp.b7 hb _ _ _ h1,bp.b7 hb _ _ _ h2,yT hb h3,yT hb h4⟩
def Y4(p p':List cZ):a5:=xj (λw v=>∃b x y,v=.S b 0 2 2/\w.cell? (.a b 0)=some x/\w.cell? (.a b 1)=some y/\jq w x p/\jq w y p') λ_ _ _ hb⟨B,x,y,h0,h1,h2,h3,h4⟩=>⟨B,x,y,h0,bp.b7 hb _ _ _ h1,bp.b7 hb _ _ _ h2,yU hb h3,yU hb h4⟩
def C9(T:uaa)(dh n:Nat)(xs:uad):a5:=xj (λw v=>∃b,w.ownsRow b T dh v n xs) λ_ _ _ hb⟨b,h⟩=>⟨b,Iw h hb⟩
def Y2(p:uaz)(l:List cZ):a5:=xj (xh p l) xh.h8
def YM(n0:Nat):a5:=xj (λw v=>∃B cs,v=.P B 0/\n0<=B/\ah w B cs 74/\cs.size=2) λ_ _ _ hb⟨B,cs,h0,h1,h2,h3⟩=>⟨B,cs,h0,h1,h2.call hb,h3⟩
variable{N:Nat}{K:bJ}{o:Oper}{x y:uap}{p p':uaz}{l l':List cZ}
def YI(b:o.op=.fieldAddr 74 x 0)(c:bl K x (NO p l)):bA (ae prog false) N K o (Zm p):=λa w hk=>.inl (by
 obtain⟨B,u,v,e,f,h,d,g⟩:=hk.ev c;generalize a.eval=ev at *;refine⟨.P B 0,w,?_,⟨B,0,u,U,f,d⟩,vaa _ _⟩;cases o;simp only at b;subst b;go_simp)
def YF(b:o.op=.fieldAddr 74 x 1)(c:bl K x (NO p l)):bA (ae prog false) N K o (Zk l):=λa w hk=>.inl (by
 obtain⟨B,u,v,e,h,f,g,d⟩:=hk.ev c;generalize a.eval=ev at *;refine⟨.P B 1,w,?_,⟨B,1,v,U,f,d⟩,vaa _ _⟩;cases o;simp only at b;subst b;go_simp)
def Yo(b:o.op=.load 71 x)(d:bl K x (Zm p)):bA (ae prog false) N K o (Tx p):=λa w hk=>.inl (by
 obtain⟨B,k,u,e,f,c⟩:=hk.ev d;have h:=fp f;obtain⟨g,i,rfl,-⟩:=c.shape;generalize a.eval=ev at *;refine⟨_,w,?_,c,vaa _ _⟩;cases o;simp only at b;subst b;go_simp)
def WT(b:o.op=.load 72 x)(d:bl K x (Zk l)):bA (ae prog false) N K o (Ty l):=λa w hk=>.inl (by
 obtain⟨B,k,u,e,f,c⟩:=hk.ev d;have h:=fp f;obtain⟨g,i,rfl,-⟩:=c.shape;generalize a.eval=ev at *;refine⟨_,w,?_,c,vaa _ _⟩;cases o;simp only at b;subst b;go_simp)
def apR(e:o.op=.buildSlice 288 2 #[(0,x),(1,y)])(h:bl K x (Tx p))(g:bl K y (Tx p')):bA (ae prog false) N K o (Y9 p p'):=λa w hk=>.inl (by
 have d:eb w (a.eval x) p:=hk.ev h;have c:eb w (a.eval y) p':=hk.ev g;obtain⟨a1,c1,j,-⟩:=d.shape;obtain⟨f,bG,i,-⟩:=c.shape;rw[j]at d;rw[i]at c;generalize a.eval=ev at *;cases o;simp only at e;subst e;have b:=(vaa _ w).alloc Jb (.cells #[.slice a1 p.length c1,.slice f p'.length bG] 71);exact⟨.S w.heap.size 0 2 2,w.alloc (.cells #[.slice a1 p.length c1,.slice f p'.length bG] 71),Ar,⟨_,_,_,U,(ah.new w _ _).rules.1 0,(ah.new w _ _).rules.1 1,yT b d,yT b c⟩,b⟩)
def apS(e:o.op=.buildSlice 290 2 #[(0,x),(1,y)])(h:bl K x (Ty l))(g:bl K y (Ty l')):bA (ae prog false) N K o (Y4 l l'):=λa w hk=>.inl (by
 have d:jq w (a.eval x) l:=hk.ev h;have c:jq w (a.eval y) l':=hk.ev g;obtain⟨a1,c1,j,-⟩:=d.shape;obtain⟨f,bG,i,-⟩:=c.shape;rw[j]at d;rw[i]at c;generalize a.eval=ev at *;cases o;simp only at e;subst e;have b:=(vaa _ w).alloc Jb (.cells #[.slice a1 l.length c1,.slice f l'.length bG] 72);exact⟨.S w.heap.size 0 2 2,w.alloc (.cells #[.slice a1 l.length c1,.slice f l'.length bG] 72),Ar,⟨_,_,_,U,(ah.new w _ _).rules.1 0,(ah.new w _ _).rules.1 1,yU b d,yU b c⟩,b⟩)
def Ti{d:Nat}{b:Nat}{x y:Value}{q q':Nat×List Value}(j:w.cell? (.a b 0)=some x)(g:w.cell? (.a b 1)=some y)(r1:yA d w (λ_=>some x) q)(f:yA d w (λ_=>some y) q'):a0 w 1 (yA d) (.S b 0 2 2) [q,q']:=by
 refine⟨_,_,U,Ab,λi hi=>⟨b,0,U,?_⟩⟩;obtain rfl|rfl:i=0\/i=1:=by simp at hi;omega
 .obtain⟨a,c,e,h⟩:=r1;exact⟨a,c,j.trans e,h⟩
 .obtain⟨a,c,e,h⟩:=f;exact⟨a,c,g.trans e,h⟩
def Tc(q q':Nat×List Value)(k:Nat):ee [q,q'] k<=q.1+q'.1:=by rcases k with _ | _ |k<;>simp[ee]
def apT(c:o.op=.call {callee:=.value (.func 201),args:=#[x],argTypes:=ats})(d:bl K x (Y9 p p'))(hs:p.length+p'.length<=1000):bA (ae prog false) N K o (C9 3 1 (p++p').length ((p++p').map (Value.int .i64))):=λa w hk=>.inr (by
 obtain⟨b,u,v,e,m,l,j,i⟩:=hk.ev d;refine⟨_,#[a.eval x],?_,(anP [(p.length,p.map (Value.int .i64)),(p'.length,p'.map (Value.int .i64))] _ w (by rw[e];exact Ti m l (WX j) (WX i)) Ab (λk=>vad (Tc _ _ k) A2)).mono ?_⟩
 .have ef:∀f,a.eval (.func f)=.func (.func f) #[] #[]:=λ_=>U;generalize a.eval=ev at *;cases o;simp only at c;subst c;simp[execOp,resolve,invoke,ef,go_sem]
 .rintro _ w' ⟨v,rfl,h,g⟩;exact⟨v,U,⟨w.heap.size,by simpa[ee,mo]using h⟩,g⟩)
def apU(c:o.op=.call {callee:=.value (.func 202),args:=#[x],argTypes:=ats})(d:bl K x (Y4 l l'))(hs:l.length+l'.length<=1000):bA (ae prog false) N K o (C9 91 4 (l++l').length (mT (l++l'))):=λa w hk=>.inr (by
 obtain⟨b,u,v,e,n,m,j,i⟩:=hk.ev d;refine⟨_,#[a.eval x],?_,(anS [(l.length,mT l),(l'.length,mT l')] _ w (by rw[e];exact Ti n m (WZ j) (WZ i)) Ab (λk=>vad (Tc _ _ k) A2)).mono ?_⟩
 .have ef:∀f,a.eval (.func f)=.func (.func f) #[] #[]:=λ_=>U;generalize a.eval=ev at *;cases o;simp only at c;subst c;simp[execOp,resolve,invoke,ef,go_sem]
 .rintro _ w' ⟨v,rfl,h,g⟩;exact⟨v,U,⟨w.heap.size,by simpa[ee,mo,apN]using h⟩,g⟩)
def apV(b:o.op=.build 74 #[(0,x),(1,y)])(f:bl K x (C9 3 1 p.length (p.map (Value.int .i64))))(e:bl K y (C9 91 4 l.length (mT l))):bA (ae prog false) N K o (Y2 p l):=λa w hk=>.inl (by
 obtain⟨b1,d⟩:=hk.ev f;obtain⟨b2,c⟩:=hk.ev e;obtain⟨a1,c1,h⟩:=gQ d;obtain⟨i,bG,g⟩:=gQ c;refine⟨.agg #[a.eval x,a.eval y],w,?_,⟨_,_,b1,b2,U,d,c⟩,vaa _ _⟩;rw[h,g];generalize a.eval=ev at *;cases o;simp only at b;subst b;go_simp)
def apW{N:Nat}{a':Act}{l:List (Nat×a5)}(a4:a'.tmps.size=N)(b:∀p∈l,∃v,a'.tmps[p.1]?=some v/\p.2.R w' v):af N (a3 l) a' w':=by
 refine⟨a4,λs F e=>?_⟩;have key:∀l:List (Nat×a5),a3 l s=some F->(s,F)∈l:=by intro l;induction l with|nil=>intro e;cases e|cons p l a=>grind[a3]
 grind
end
def apX(b a:uaz)(l1 l2:List cZ)(n l k j:Value)(w:aL)(L:eb w n b)(D:jq w l l1)(J:eb w k a)(C:jq w j l2)(hs:b.length+a.length<=1000/\l1.length+l2.length<=1000):
 Calls (ae prog false) 199 #[.agg #[n,l],.agg #[k,j]] w λe w'=>∃x,e=.returned x/\xh (b++a) (l1++l2) w' x/\cC w w':=by
 obtain⟨a1,c1,rfl,-⟩:=L.shape;obtain⟨f,bG,rfl,-⟩:=D.shape;obtain⟨g,dH,rfl,-⟩:=J.shape;obtain⟨h,d,rfl,-⟩:=C.shape;go_enter Zu,ntmps199
 go_wp2_with fail
 have z:=((ah.new w #[.slice a1 b.length c1,.slice f l1.length bG] 74).alloc (.cells #[.slice g a.length dH,.slice h l2.length d] 74)).alloc (.cells #[.N,.N] 74);have r:=(ah.new (w.alloc (.cells #[.slice a1 b.length c1,.slice f l1.length bG] 74)) #[.slice g a.length dH,.slice h l2.length d] 74).alloc (.cells #[.N,.N] 74);have A:=ah.new ((w.alloc (.cells #[.slice a1 b.length c1,.slice f l1.length bG] 74)).alloc (.cells #[.slice g a.length dH,.slice h l2.length d] 74)) #[.N,.N] 74;have c:cC w (((w.alloc (.cells #[.slice a1 b.length c1,.slice f l1.length bG] 74)).alloc (.cells #[.slice g a.length dH,.slice h l2.length d] 74)).alloc (.cells #[.N,.N] 74)):=(((vaa _ w).alloc Jb _).alloc Ab _).alloc A2 _;simp at r A;generalize((w.alloc (.cells #[.slice a1 b.length c1,.slice f l1.length bG] 74)).alloc (.cells #[.slice g a.length dH,.slice h l2.length d] 74)).alloc (.cells #[.N,.N] 74)=W at *;refine W5 (N:=18) (m:=13) (K:=a3 [(2,NO b l1),(3,NO a l2),(4,YM w.heap.size)]) (dq rfl (YI rfl rfl)<|dq rfl (Yo rfl rfl)<|dq rfl (YI rfl rfl)<|dq rfl (Yo rfl rfl)<|dq rfl (apR rfl rfl rfl)<|dq rfl (apT rfl rfl hs.1)<|dq rfl (YF rfl rfl)<|dq rfl (WT rfl rfl)<|dq rfl (YF rfl rfl)<|dq rfl (WT rfl rfl)<|dq rfl (apS rfl rfl rfl)<|dq rfl (apU rfl rfl hs.2)<|dq rfl (apV rfl rfl rfl)<|rfl) (apW rfl λq hq=>?_) rfl Ao AQ ?_
 .simp only[vbo,vdd,or_false]at hq;rcases hq with rfl|rfl|rfl
  .exact⟨_,rfl,_,_,_,rfl,z.rules.1 0,z.rules.1 1,a0.mono kw (bp.b7 c) L,a0.mono wU (bp.b7 c) D⟩
  .exact⟨_,rfl,_,_,_,rfl,r.rules.1 0,r.rules.1 1,a0.mono kw (bp.b7 c) J,a0.mono wU (bp.b7 c) C⟩
  .exact⟨_,rfl,_,_,rfl,AX,A,rfl⟩
 .intro a' w' hk hd Q;obtain⟨x,E,O⟩:=hk.has 17 (Y2 (b++a) (l1++l2)) rfl;obtain⟨U,u,B,cs,rfl,y,p,P⟩:=hk.has 4 (YM w.heap.size) rfl;obtain⟨pv,V,b1,b2,rfl,t,s⟩:=O;obtain⟨dw,d1,rfl⟩:=gQ t;obtain⟨dI,F,rfl⟩:=gQ s;have g1:=cB E;have S:=cB u;obtain⟨o,Y,X⟩:=p.all;have T:w'.cell? (.a B 0)=some (cs[0]'AX):=by rw[o];simp
  have M:w'.cell? (.a B 1)=some (cs[1]'AX):=by rw[o];simp
  rename_i H;refine h7 (i:=13) (rest:=[]) (R:=λa1 w1=>a1=a'/\w1=(w'.setCell ⟨B,0,none⟩ (.slice dw (b++a).length d1)).setCell ⟨B,1,none⟩ (.slice dI (l1++l2).length F)) (qf rfl rfl rfl ?_ ⟨rfl,rfl⟩) ?_
  .clear H hk E u o;generalize a'.eval=ev at *;go_simp
  .rintro _ _ ⟨rfl,rfl⟩;refine H _ _ ?_;have I:=p.set 0 (.slice dw (b++a).length d1);clear hk g1 S o;refine wp_ret ?_;change bodyPost (ae prog false) f199 (λe w'=>∃x,e=.returned x/\xh (b++a) (l1++l2) w' x/\cC w w') .ret _ _;refine vbw (v:=.agg #[.slice dw (b++a).length d1,.slice dI (l1++l2).length F]) ?_ hd ⟨_,rfl,⟨_,_,b1,b2,rfl,NN (NN t p AU) I AU,NN (NN s p AU) I AU⟩,?_⟩
   .clear t s;simp[results,results199,go_sem,vdi,u,T,M]
   .exact((c.trans (Q.mono c.size)).setCell y _).setCell y _
end bX
namespace bX
open RowKit az
def apZ{a b:ByteArray}(h:a.toList=b.toList):a=b:=by rw[ByteArray.toList_eq,ByteArray.toList_eq]at h;obtain⟨⟨a⟩⟩:=a;obtain⟨⟨b⟩⟩:=b;simp at h;rw[h]
def ut(a b:cZ):Bool:=a.dU==b.dU&&a.num==b.num&&a.bV==b.bV&&decide (a.text=b.text)
def ap0{a b:cZ}:ut a b=true↔a=b:=by obtain⟨a1,c,d,e⟩:=a;obtain⟨b1,b2,f,bk⟩:=b;simp[ut];grind
def xk(q q':db):Bool:=ut q.1 q'.1&&ut q.2.1 q'.2.1&&ut q.2.2.1 q'.2.2.1&&ut q.2.2.2 q'.2.2.2
variable{q q':db}
def GC:xk q q'=true↔q=q':=by obtain⟨a,b,c,d⟩:=q;obtain⟨a',g,f,e⟩:=q';simp[xk,ap0];grind
def S8(u:Bool)(a b:cZ)(w:aL):(Op.equalIn 9999 91 (o6 a) (o6 b)).run (ae prog u) w=.ok (ut a b) w:=by
 obtain⟨a1,h,i,j⟩:=a;obtain⟨b1,b2,k,bk⟩:=b;by_cases g:a1=b1<;>by_cases f:h=b2<;>by_cases d:i=k<;>by_cases c:j=bk
 all_goals go_simp
 all_goals simp[ut,g,f,d,c]
 all_goals exact λe=>c (apZ e)
def NP(u:Bool)(q:db)(k:Nat)(h:k<4)(w:aL):(part 91 (cq q) (k*4)).run (ae prog u) w=.ok (o6 (IV q)[k]) w:=by rcases k with _ | _ | _ | _ |k<;>first|omega|kernel_rfl
def ap1(u:Bool)(q q':db)(w:aL):(Op.equal 138 (.agg (cq q)) (.agg (cq q'))).run (ae prog u) w=.ok (xk q q') w:=by obtain⟨i,hi⟩:∃i,(ae prog u).info? 91=some i:=Option.isSome_iff_exists.1 Ao;show(Op.equalIn (9999+1) _ _ _).run _ w=_;rw[run_equalIn_array (P:=ae prog u) w 9999 (n:=4) (e:=91) (cq q) (cq q') Ao hi];have f:(ae prog u).cellsOf 91=4:=Ao;rw[f,show List.range 4=[0,1,2,3]from U];have d:∀q w,(part 91 (cq q) 0).run (ae prog u) w=.ok (o6 q.1) w:=λq w=>NP u q 0 AX w;have c:∀q w,(part 91 (cq q) 4).run (ae prog u) w=.ok (o6 q.2.1) w:=λq w=>NP u q 1 AX w;have b:∀q w,(part 91 (cq q) 8).run (ae prog u) w=.ok (o6 q.2.2.1) w:=λq w=>NP u q 2 AX w;have a:∀q w,(part 91 (cq q) 12).run (ae prog u) w=.ok (o6 q.2.2.2) w:=λq w=>NP u q 3 AX w;simp only[Op.eqItems,vdt,Nat.zero_mul,Nat.one_mul,Nat.reduceMul,d,c,b,a,vbt,S8];cases k:ut q.1 q'.1<;>cases j:ut q.2.1 q'.2.1<;>cases h:ut q.2.2.1 q'.2.2.1<;>cases g:ut q.2.2.2 q'.2.2.2<;>simp[c,b,a,S8,k,j,h,g,xk]
def NQ(es:List MapEntry):Prop:=∀e∈es,∃q,e.key=.agg (cq q)
def NR(h:Value.agg (cq q)=.agg (cq q')):q=q':=by obtain⟨⟨a1,r,s,t⟩,⟨b1,b2,u,bk⟩,⟨c1,bG,dH,p⟩,⟨d1,o,n,m⟩⟩:=q;obtain⟨⟨l,k,j,i⟩,⟨f1,iu,f3,f4⟩,⟨g1,f,g,a⟩,⟨e,d,c,b⟩⟩:=q';simp[cq]at h;grind
theorem S6(u:Bool)(q:db)(w:aL):∀(es:List MapEntry)(i:Nat),NQ es->
 ((Instr.findAsking 138 (.agg (cq q)) es i).run (ae prog u) w=.ok none w/\∀e∈es,e.key≠ .agg (cq q))\/∃j e,(Instr.findAsking 138 (.agg (cq q)) es i).run (ae prog u) w=.ok (some (i+j,e.val)) w/\es[j]?=some e/\e.key=.agg (cq q)
 | [],i,_=>.inl ⟨by simp[Instr.findAsking],Ab⟩
 |e::es,i,hk=>by
  obtain⟨q',hq⟩:=hk e Ab;simp only[Instr.findAsking,vdt,hq,ap1,vbt];cases f:xk q q' with
  |true=>obtain rfl:=GC.1 f;exact .inr ⟨0,e,Ab,U,hq⟩
  |false=>
   rcases S6 u q w es (i+1) (λe g=>hk e (by simp[g]))with⟨c,b⟩|⟨j,d,c,b,k⟩
   .refine .inl ⟨Fz,λd a=>?_⟩;simp at a;rcases a with rfl|a
    .rw[hq];intro h;have:=NR h;subst this;rw[GC.2 U]at f;cases f
    .exact b d a
   .exact .inr ⟨j+1,d,by rw[show i+(j+1)=i+1+j by omega];simpa using c,by simpa using b,k⟩
def SP(u:Bool)(q:db)(w:aL)(es:List MapEntry)(hk:NQ es):
 ((Instr.findKey 138 (.agg (cq q)) es).run (ae prog u) w=.ok none w/\∀e∈es,e.key≠ .agg (cq q))\/∃j e,(Instr.findKey 138 (.agg (cq q)) es).run (ae prog u) w=.ok (some (j,e.val)) w/\es[j]?=some e/\e.key=.agg (cq q):=by
 have b:(ae prog u).underlying 138=some (.array 4 91):=Ao;have d:(Instr.findKey 138 (.agg (cq q)) es).run (ae prog u) w=(Instr.findAsking 138 (.agg (cq q)) es).run (ae prog u) w:=by unfold Instr.findKey;simp only[vdt,run_underlying b,vbt];cases es with|nil=>simp[Instr.findNow,Instr.findAsking]|cons e es=>simp[Instr.findNow,Instr.sameNow]
 rw[d];rcases S6 u q w es 0 hk with h|⟨j,e,a,c⟩
 .exact .inl h
 .exact .inr ⟨j,e,by rw[vbr]at a;exact a,c⟩
def GD(u em:Bool)(q:db)(w:aL):(Instr.checkKey em 10000 138 (.agg (cq q))).run (ae prog u) w=.ok () w:=by cases em<;>kernel_rfl
def ap2(s:ByteArray):(s==s)=true:=by obtain⟨d⟩:=s;show(d==d)=true;simp
def l9(w:aL)(m:Nat)(F:db->List a7):Prop:=
 ∃es e6,w.heap[m]?=some (.map es e6)/\(∀e∈es.toList,∃q,e.key=.agg (cq q)/\gm w e.val (F q))/\∀q,(∀e∈es.toList,e.key≠ .agg (cq q))->F q=[]
theorem SN(u:Bool)(w:aL):(zeroValue 64).run (ae prog u) w=.ok (.N) w:=by kernel_rfl
theorem SL(u:Bool):(ae prog u).underlying 104=some (.map 138 64):=by kernel_rfl
variable{m:Nat}
def ap3(u:Bool){w w0:aL}{F:db->List a7}(h:l9 w0 m F)(g:w.heap[m]?=w0.heap[m]?)(q:db):∃v,(Instr.lookup 104 (.map (some m)) (.agg (cq q)) false).run (ae prog u) w=.ok v w/\gm w0 v (F q):=by
 obtain⟨es,e6,c,d,k⟩:=h;rw[<-g]at c;have hk:NQ es.toList:=λe i=>let⟨q,h,_⟩:=d e i;⟨q,h⟩
 have hg:=MapKept.run_getObj_map (P:=ae prog u) c;unfold Instr.lookup;simp only[vdt,run_underlying (SL u),vbt,hg,GD];rcases SP u q w es.toList hk with⟨b,a⟩|⟨j,e,b,a,n⟩
 .refine⟨.N,by simp[b,GD,SN],?_⟩;rw[k q a];exact a0.nil _ _ _
 .obtain⟨q',l,f⟩:=d e (vco a);obtain rfl:=NR (n.symm.trans l);exact⟨e.val,by simp[b,GD],f⟩
def sk(nQ:Nat)(w W:aL)(v:Value)(l:List a7):Prop:=
 ∃xs:List (Value×Value),xs.length=l.length/\W.ownsRow nQ 74 2 v l.length (two xs)/\∀i(h:i<xs.length)(h':i<l.length),eb w xs[i].1 l[i].1/\jq w xs[i].2 l[i].2
def Az(a b:MapEntry):Prop:=a.born≠b.born/\a.key≠b.key/\∀g,a.val.ownBlock=some g->b.val.ownBlock≠some g
structure nv(nQ:Nat)(w W:aL)(es:List MapEntry)(e6:Nat)(F:db->List a7):Prop where
 born:∀e∈es,e.born<e6
 apart:es.Pairwise Az
 val:∀e∈es,∃q,e.key=.agg (cq q)/\sk nQ w W e.val (F q)
 none:∀q,(∀e∈es,e.key≠ .agg (cq q))->F q=[]
variable{e6 nQ:Nat}
def nv.Cc{w W:aL}{es:List MapEntry}{F:db->List a7}(h:nv nQ w W es e6 F):NQ es:=λe a=>let⟨q,h,_⟩:=h.val e a;⟨q,h⟩
def ap4(nQ:Nat)(w W:aL):sk nQ w W (.N) []:=⟨[],U,vbm _ _ _ _,λi h=>by simp at h⟩
variable{v:Value}
def sk.keep{w W W':aL}{l:List a7}(h:sk nQ w W v l)(hk:∀g,v.ownBlock=some g->W'.heap[g]?=W.heap[g]?):sk nQ w W' v l:=by
 obtain⟨xs,e,a,d⟩:=h;refine⟨xs,e,⟨a.1,?_⟩,d⟩;rcases a.2 with h|⟨g,cap,bf,rfl,b,hg,c⟩
 .exact .inl h
 .exact .inr ⟨g,cap,bf,U,b,(hk g U).trans hg,c⟩
def sk.qZ{w W:aL}{l:List a7}(h:sk nQ w W v l){g:Nat}(hg:v.ownBlock=some g):∃bf,ah W g bf 74:=by
 obtain⟨xs,f,b,e⟩:=h;rcases b.2 with⟨rfl,h⟩|⟨g',cap,bf,rfl,c,a,d⟩
 .simp[Value.ownBlock]at hg
 .simp[Value.ownBlock]at hg;subst hg;exact⟨bf,a⟩
theorem nv.put{w W:aL}{es:List MapEntry}{F:db->List a7}{i:Array MapEntry}{c_:Nat}(h:nv nQ w W es e6 F)(a:W.heap[m]?=some (.map i c_))(o:Obj):nv nQ w (W.putObj m o) es e6 F:=by refine⟨h.born,h.apart,λe c=>?_,h.none⟩;obtain⟨q,f,b⟩:=h.val e c;refine⟨q,f,b.keep λg hg=>vas ?_⟩;rintro rfl;obtain⟨bf,d⟩:=b.qZ hg;rw[show W.heap[g]?=_ from d]at a;cases a
def ap5{w W:aL}{es:Array MapEntry}{F:db->List a7}(h:nv nQ w W es.toList e6 F)(l:W.heap[m]?=some (.map es e6))(q:db):
 ∃(v:Value)(b:Nat)(n:Array MapEntry)(p i:Nat),(Instr.mapEntry 104 (.map (some m)) (.agg (cq q))).run (ae prog true) W=.ok (.tuple #[v,.I ((b:Nat):Int)]) (W.putObj m (.map n p))/\nv nQ w (W.putObj m (.map n p)) n.toList p F/\n.toList[i]?=some (⟨.agg (cq q),v,b⟩:MapEntry):=by
 have hg:=MapKept.run_getObj_map (P:=ae prog true) l;have hs:=λo=>MapKept.run_setObj_map (P:=ae prog true) o l;unfold Instr.mapEntry;simp only[vdt,run_underlying (SL true),vbt,hg,GD];rcases SP true q W es.toList h.Cc with⟨s,d⟩|⟨j,e,s,d,f⟩
 .refine⟨.N,e6,es.push ⟨.agg (cq q),.N,e6⟩,e6+1,es.size,?_,?_,Ab⟩
  .simp[s,GD,SN,hs,goInt,World.putObj]
  .refine nv.put ?_ l _;rw[Array.toList_push];refine⟨λe c=>?_,List.pairwise_append.2 ⟨h.apart,List.pairwise_singleton _ _,λa y b x=>?_⟩,λe c=>?_,λq' r=>h.none q' λe c=>r e (by simp[c])⟩
   .simp at c;rcases c with c|rfl
    .have:=h.born e Fz;omega
    .exact Nat.lt_succ_self _
   .simp at x;subst x;exact⟨Nat.ne_of_lt (h.born a y),d a y,λg _=>by simp[Value.ownBlock]⟩
   .simp at c;rcases c with c|rfl
    .exact h.val e Fz
    .exact⟨q,U,by rw[h.none q d];exact ap4 _ _ _⟩
 .have u:es[j]?=some e:=by simpa using d
  have B:(Instr.keyThatStays (.agg (cq q)) (.agg (cq q))).run (ae prog true) W=.ok (.agg (cq q)) W:=by unfold Instr.keyThatStays;rw[show Instr.sameBits 10000 (.agg (cq q)) (.agg (cq q))=true by simp[Instr.sameBits,cq,ap2]];rfl
  have t:es.modify j (λe=>{e with key:=.agg (cq q)})=es:=by
   apply vcf;intro k;rw[vbb];split
   .rename_i z;subst z;rw[u];obtain⟨A,v1,b1⟩:=e;simp only at f;subst f;rfl
   .rfl
  refine⟨e.val,e.born,es,e6,j,?_,h.put l _,?_⟩
  .simp[s,GD,u,f,B,t,hs,goInt,World.putObj]
  .rw[d];obtain⟨A,v1,b1⟩:=e;simp only at f;subst f;rfl
def n9(F:db->List a7)(q:db)(r:a7):db->List a7:=λq'=>if xk q q' then F q'++[r]else F q'
variable{i:Nat}
def ap7{l:List MapEntry}(h:l.Pairwise Az){e:MapEntry}(hi:l[i]?=some e):l.findIdx? (λx=>(x.born:Int)==(e.born:Int))=some i:=by obtain⟨a,rfl⟩:=vab.1 hi;rw[List.findIdx?_eq_some_iff_getElem];refine⟨a,Ab,λj b=>?_⟩;have:=(vdl.1 h j i AX a b).1;simp;omega
variable{b:Nat}{v':Value}{r:a7}
def run_store{w u f:aL}{es:Array MapEntry}{F:db->List a7}(h:nv nQ w u es.toList e6 F)(I:u.heap[m]?=some (.map es e6))(hi:es.toList[i]?=some (⟨.agg (cq q),v,b⟩:MapEntry))(hg:u.grownBy f v.ownBlock)(N:sk nQ w f v' (F q++[r]))(W:v'.ownBlock=v.ownBlock\/v'.ownBlock=some u.heap.size):
 ∃M,(Instr.entryStore 104 (.map (some m)) (.I (b:Int)) v').run (ae prog true) f=.ok () (f.putObj m (.map M e6))/\nv nQ w (f.putObj m (.map M e6)) M.toList e6 (n9 F q r)/\f.heap[m]?=some (.map es e6):=by
 have C:=(vab.1 hi).1;have z:es.toList[i]=(⟨.agg (cq q),v,b⟩:MapEntry):=(vab.1 hi).2;have E:(⟨.agg (cq q),v,b⟩:MapEntry)∈es.toList:=vco hi;obtain⟨q0,Y,hv⟩:=h.val _ E;obtain rfl:=NR Y;have J:f.heap[m]?=some (.map es e6):=by refine(hg.block m (jS I) λe=>?_).trans I;obtain⟨bf,t⟩:=hv.qZ e.symm;rw[show u.heap[m]?=_ from t]at I;cases I
 have S:=MapKept.run_getObj_map (P:=ae prog true) J;have hs:=λo=>MapKept.run_setObj_map (P:=ae prog true) o J;have R:=ap7 h.apart hi;have Q:es.findIdx? (λx=>(x.born:Int)==(b:Int))=some i:=by obtain⟨l⟩:=es;simpa using R
 refine⟨es.modify i λe=>{e with val:=v'},?_,nv.put ?_ J _,J⟩
 .unfold Instr.entryStore;simp[S,Q,hs,World.putObj,go_sem]
 .have hlen:(es.modify i λe=>{e with val:=v'}).toList.length=es.toList.length:=by simp
  have y:∀j(a:j<(es.modify i λe=>{e with val:=v'}).toList.length),(es.modify i λe=>{e with val:=v'}).toList[j]=if i=j then(⟨.agg (cq q),v',b⟩:MapEntry)else es.toList[j]'AX:=by
   intro j a;simp only[vem,List.getElem_modify];split
   .rename_i e;subst e;rw[z]
   .rfl
  have iv:∀j(a:j<es.toList.length),j≠i->∃d,es.toList[j].key=.agg (cq d)/\sk nQ w f es.toList[j].val (F d)/\d≠q/\∀g,es.toList[j].val.ownBlock=some g->v'.ownBlock≠some g:=by
   intro j a B;obtain⟨d,s,p⟩:=h.val _ (vax a);have c:Az es.toList[j] es.toList[i]\/Az es.toList[i] es.toList[j]:=by
    rcases vcx j i with x|x
    .exact .inl (vdl.1 h.apart j i a C x)
    .exact .inr (vdl.1 h.apart i j C a AX)
   rw[z]at c;have D:∀g,es.toList[j].val.ownBlock=some g->v.ownBlock≠some g:=by
    intro g n T;rcases c with⟨_,_,x⟩|⟨_,_,x⟩
    .exact x g n T
    .exact x g T n
   refine⟨d,s,p.keep λg n=>?_,?_,λg n=>?_⟩
   .obtain⟨bf,t⟩:=p.qZ n;exact hg.block g (jS t) λe=>D g n e.symm
   .rintro rfl;rcases c with⟨_,x,_⟩|⟨_,x,_⟩
    .exact x s
    .exact x s.symm
   .rcases W with e|e
    .rw[e];exact D g n
    .rw[e];obtain⟨bf,t⟩:=p.qZ n;have:=jS (show u.heap[g]?=_ from t);intro X;cases X;omega
  refine⟨λe O=>?_,vdl.2 λj k a hk V=>?_,λe O=>?_,λq' A=>?_⟩
  .obtain⟨j,a,rfl⟩:=vel O;rw[y j a];split
   .exact show b<e6 from h.born _ E
   .exact h.born _ (vax _)
  .rw[y j a,y k hk];have c:=vdl.1 h.apart j k AX AX V;by_cases U:i=j
   .subst U;rw[vbv rfl,vbp AX];obtain⟨d,s,p,k3,H⟩:=iv k AX AX;rw[z]at c;exact⟨c.1,c.2.1,λg hg L=>H g L hg⟩
   .rw[vbp U];by_cases K:i=k
    .subst K;rw[vbv rfl];obtain⟨d,s,p,k3,H⟩:=iv j AX AX;rw[z]at c;exact⟨c.1,c.2.1,λg hg L=>H g hg L⟩
    .rw[vbp K];exact c
  .obtain⟨j,a,rfl⟩:=vel O;rw[y j a];split
   .refine⟨q,rfl,?_⟩;unfold n9;rw[GC.2 rfl];exact N
   .rename_i B;obtain⟨d,s,p,k3,H⟩:=iv j AX (λe=>B e.symm);refine⟨d,s,?_⟩;unfold n9;rw[vbp (λx=>k3 (GC.1 x).symm)];exact p
  .unfold n9;by_cases e:xk q q'=true
   .obtain rfl:=GC.1 e;refine absurd rfl (A (⟨.agg (cq q),v',b⟩:MapEntry) ?_);have:=y i AX;rw[vbv rfl]at this;rw[<-this];exact vax _
   .rw[vbp e];refine h.none q' λx t=>?_;obtain⟨j,a,rfl⟩:=vel t;have:=A _ (vax (AX:j<(es.modify i λe=>{e with val:=v'}).toList.length));rw[y j AX]at this;split at this
    .rename_i K;subst K;rw[z];exact this
    .exact this
def nv.below{w W W':aL}{es:List MapEntry}{F:db->List a7}(h:nv nQ w W es e6 F)(d:cC W W'):nv nQ w W' es e6 F:=by refine⟨h.born,h.apart,λe c=>?_,h.none⟩;obtain⟨q,f,a⟩:=h.val e c;refine⟨q,f,a.keep λg hg=>d.block g ?_⟩;obtain⟨bf,b⟩:=a.qZ hg;exact b.lt
variable{P:cf}
def J1{ops:du}{rest:uba}{o:Oper}{a:Act}{w w1:aL}{Q:uah}(c:o.guard=none)(b:(execOp a.eval o).run P w=.ok (.value v) w1)(h:wpList P ops Q rest (a.put o.dst v) w1):wpList P ops Q (o::rest) a w:=by refine wpList_plain c λK hK=>?_;unfold Oper.wp;rw[b];exact hK _ _ h
def wpList_skip{ops:du}{rest:uba}{o:Oper}{a:Act}{w w1:aL}{Q:uah}(c:o.guard=none)(b:(execOp a.eval o).run P w=.ok .skip w1)(h:wpList P ops Q rest (a.put o.dst undef) w1):wpList P ops Q (o::rest) a w:=by refine wpList_plain c λK hK=>?_;unfold Oper.wp;rw[b];exact hK _ _ h
variable{t:uaa}
def aqa{ops:du}{rest:uba}{o:Oper}{a:Act}{w:aL}{Q:uah}{m k:uap}(_:o.op=.mapEntry t m k)(h:ky (wpList P ops Q (o::rest) a w)):wpList P ops Q (o::rest) a w:=h
def aqb{ops:du}{rest:uba}{o:Oper}{a:Act}{w:aL}{Q:uah}{m k v:uap}(_:o.op=.entryStore t m k v)(h:ky (wpList P ops Q (o::rest) a w)):wpList P ops Q (o::rest) a w:=h
def ah.cast{w:aL}{cs a:df}{T:uaa}(h:ah w b cs T)(e:cs=a):ah w b a T:=e▸h
def SK{ops:du}{rest:uba}{o:Oper}{a:Act}{w:aL}{Q:uah}(_:o.op=.alloc 138)(h:ky (wpList P ops Q (o::rest) a w)):wpList P ops Q (o::rest) a w:=h
def Tz{ops:du}{rest:uba}{o:Oper}{a:Act}{w:aL}{Q:uah}{x:uap}(_:o.op=.load 138 x)(h:ky (wpList P ops Q (o::rest) a w)):wpList P ops Q (o::rest) a w:=h
def SJ(u:Bool){o:Oper}(a:o.op=.alloc 138)(ev:uak)(w:aL):(execOp ev o).run (ae prog u) w=.ok (.value (.P w.heap.size 0)) (w.alloc (.cells (cq (jr [])) 138)):=by cases o;simp only at a;subst a;kernel_rfl
def aqc(u:Bool){o:Oper}{x:uap}(a:o.op=.load 138 x){ev:uak}{w:aL}(c:ev x=.P b 0)(h:ah w b (cq q) 138):(execOp ev o).run (ae prog u) w=.ok (.value (.agg (cq q))) w:=by cases o;simp only at a;subst a;obtain⟨f,e,d⟩:=h.all;unfold cq at *;go_simp
variable{q0:db}
def aqd(u:Bool){o:Oper}{x y:uap}(a:o.op=.store 138 x y){ev:uak}{w:aL}(i:ev x=.P b 0)(e:ev y=.agg (cq q))(h:ah w b (cq q0) 138):∃w',(execOp ev o).run (ae prog u) w=.ok .skip w'/\ah w' b (cq q) 138/\∀B,B<=b->Below B w w':=by
 cases o;simp only at a;subst a;obtain⟨g,k,j⟩:=h.all;have c:=(((((((((((((((h.set 0 (.bool q.1.dU)).set 1 (.I q.1.num)).set 2 (.I q.1.bV)).set 3 (.string q.1.text)).set 4 (.bool q.2.1.dU)).set 5 (.I q.2.1.num)).set 6 (.I q.2.1.bV)).set 7 (.string q.2.1.text)).set 8 (.bool q.2.2.1.dU)).set 9 (.I q.2.2.1.num)).set 10 (.I q.2.2.1.bV)).set 11 (.string q.2.2.1.text)).set 12 (.bool q.2.2.2.dU)).set 13 (.I q.2.2.2.num)).set 14 (.I q.2.2.2.bV)).set 15 (.string q.2.2.2.text);unfold cq at g e;have d:=ah.cast c (show _=cq q by kernel_rfl);clear c;refine⟨_,?_,d,λB f=>?_⟩
 .clear d;go_simp
 iterate 16 refine Below.setCell ?_ f _
 exact vaa _ _
theorem aqe(t:uaa)(w:aL):Sem.run P (Instr.makeMap t none) w=.ok (.map (some w.heap.size)) (w.alloc (.map #[] 0)):=rfl
def SI:(ae prog true).funcs[(36:Nat)]?=some f36:=bB (upd:=true) func36 AQ
@[simp] theorem aqf:cX true 36:=dg SI AQ
def GG(aE:e8)(r:a7):db:=jr (aE.map λk=>r.2.getD k lX)
def my(aE:e8)(rs:List a7):db->List a7:=λq=>rs.filter λr=>xk (GG aE r) q
def aqg(aE:e8)(rs:List a7)(r:a7):my aE (rs++[r])=n9 (my aE rs) (GG aE r) r:=by
 funext q
 unfold my n9;rw[List.filter_append];split
 .rename_i h;simp[h]
 .rename_i h;simp[h]
section
attribute [local go_sem] aqe
section
variable{ops:du}{rest:uba}{o:Oper}{a:Act}{w:aL}{Q:uah}{x y z:uap}
def SB(u:Bool)(e:o.op=.store 138 x y)(k:o.guard=none)(d:a.eval x=.P b 0)(c:a.eval y=.agg (cq q))(f:ah w b (cq q0) 138)(h:∀w',ah w' b (cq q) 138->(∀B,B<=b->Below B w w')->wpList (ae prog u) ops Q rest (a.put o.dst undef) w'):wpList (ae prog u) ops Q (o::rest) a w:=by obtain⟨w',j,i,g⟩:=aqd u e d c f;exact wpList_skip k j (h w' i g)
def TA(u:Bool)(d:o.op=.load 138 x)(f:o.guard=none)(c:a.eval x=.P b 0)(e:ah w b (cq q) 138)(h:wpList (ae prog u) ops Q rest (a.put o.dst (.agg (cq q))) w):wpList (ae prog u) ops Q (o::rest) a w:=J1 f (aqc u d c e) h
def aqh(g:o.op=.mapEntry 104 x y)(r:o.guard=none)(f:a.eval x=.map (some m))(e:a.eval y=.agg (cq q)){w0:aL}{es:Array MapEntry}{F:db->List a7}(k:nv nQ w0 w es.toList e6 F)(j:w.heap[m]?=some (.map es e6))(h:∀(v:Value)(b:Nat)(c:Array MapEntry)(d i:Nat),nv nQ w0 (w.putObj m (.map c d)) c.toList d F->c.toList[i]?=some (⟨.agg (cq q),v,b⟩:MapEntry)->wpList (ae prog true) ops Q rest (a.put o.dst (.tuple #[v,.I ((b:Nat):Int)])) (w.putObj m (.map c d))):wpList (ae prog true) ops Q (o::rest) a w:=by
 obtain⟨v,b,c,d,i,p,n,l⟩:=ap5 k j q;refine J1 r ?_ (h v b c d i n l);simp[execOp,g,f,e,p]
def aqi(k:o.op=.entryStore 104 x y z)(u:o.guard=none)(j:a.eval x=.map (some m))(g:a.eval y=.I (b:Int))(f:a.eval z=v'){w0 d:aL}{es:Array MapEntry}{F:db->List a7}(n:nv nQ w0 d es.toList e6 F)(l:d.heap[m]?=some (.map es e6))(hi:es.toList[i]?=some (⟨.agg (cq q),v,b⟩:MapEntry))(hg:d.grownBy w v.ownBlock)(e:sk nQ w0 w v' (F q++[r]))(p:v'.ownBlock=v.ownBlock\/v'.ownBlock=some d.heap.size)(h:∀c,nv nQ w0 (w.putObj m (.map c e6)) c.toList e6 (n9 F q r)->wpList (ae prog true) ops Q rest (a.put o.dst undef) (w.putObj m (.map c e6))):wpList (ae prog true) ops Q (o::rest) a w:=by
 obtain⟨c,t,s,-⟩:=run_store n l hi hg e p;refine wpList_skip u ?_ (h c s);simp[execOp,k,j,g,f,t]
end
def TB(aE:e8)(rs:List a7)(q:db):(my aE rs q).length<=rs.length:=List.length_filter_le _ _
def aqj{fn:Func}{p:Tmp}{ty:uaa}(h:fn.results=#[.cell p ty])(tmps:df)(P:cf)(w:aL):
 (results fn tmps).run P w=(do loadVar ty (<-asAddr (tmps.getD p undef)):Sem Value).run P w:=by
 unfold results;rw[h];simp[vdt]
def TC{w:aL}{c o:Nat}(v:Value)(h:b≠c):(w.setCell ⟨c,o,none⟩ v).heap[b]?=w.heap[b]?:=by grind[World.setCell]
def sk.rows{w W:aL}{l:List a7}(h:sk nQ w W v l)(hk:bp w W)(c:l.length<=9223372036854775807):gm W v l:=by
 obtain⟨xs,i,g,f⟩:=h;exact M7 (Row:=λj W x=>∃h:j<xs.length,x=.agg #[xs[j].1,xs[j].2]) (N:=l.length) ⟨xs,i,g,AF⟩ l U c (λj d p q⟨b,e⟩=>by
  simp at e;obtain⟨rfl,rfl⟩:=e;obtain⟨r1,a⟩:=f j b d;exact⟨a0.mono kw hk r1,a0.mono wU hk a⟩)
def aqk{w W c:aL}{d o2:Obj}{row:ubf}(a:cC w W)(hg:(W.putObj m d).grownBy c row)(j:w.heap.size<=m)(h:m<W.heap.size)(i:∀g,row=some g->m+1<=g):
 cC w (c.putObj m o2)/\(∀b,b<m->(c.putObj m o2).heap[b]?=W.heap[b]?)/\(c.putObj m o2).heap[m]?=some o2:=by
 have hs:(W.putObj m d).heap.size=W.heap.size:=by simp[World.putObj]
 have f:∀b,b<m->(c.putObj m o2).heap[b]?=W.heap[b]?:=λb l=>by rw[vas AX,hg.block b AX (λe=>by have:=i b e.symm;omega),vas AX]
 have n:=hg.size;refine⟨⟨hg.os.trans a.os,hg.tape.trans a.tape,hg.output.trans a.output,?_,λk hk=>(f k AX).trans (a.block k hk)⟩,f,vde AX⟩;have:=a.size;simp only[World.putObj,vcv,Array.size_set!]at *;omega
def aql(n0 n1 eJ:Int)(aE:e8)(rs:List a7)(oz di nK bZ bN br:Value)(w:aL)(he:∃a l c,oz=.slice a l c)(hk:∃a l c,di=.slice a l c)(ha:∃a l c,bZ=.slice a l c)(yV:∃a l c,bN=.slice a l c)(ho:eb w nK (aE.map Int.ofNat))(hr:gm w br rs)(Bf:rs.length<=1000)(hlt:∀r∈rs,∀k∈aE,k<r.2.length)(h4:aE.length<=4):
 Calls (ae prog true) 36 #[.agg #[.I n0,.I n1,.I eJ,oz,di,nK,bZ],bN,br] w λe w'=>∃m,e=.returned (.agg #[di,bN,.map (some m)])/\l9 w' m (my aE rs)/\w.heap.size<=m/\cC w w':=by
 obtain⟨a1,l1,c1,rfl⟩:=he;obtain⟨o,l2,bG,rfl⟩:=hk;obtain⟨H,C,dH,rfl⟩:=ha;obtain⟨I,B,E,rfl⟩:=yV;obtain⟨z,t,rfl,-⟩:=ho.shape;obtain⟨iT,aFP,rfl,aFQ,b8⟩:=hr;go_enter SI,ntmps36
 go_wp2
 rw[vcd]at *;have o7:=((ah.new w #[.I n0,.I n1,.I eJ,.slice a1 l1 c1,.slice o l2 bG,.slice z aE.length t,.slice H C dH] 40).alloc (.cells #[.N,.N,.map none] 106)).alloc (.map #[] 0);have o8:=(ah.new (w.alloc (.cells #[.I n0,.I n1,.I eJ,.slice a1 l1 c1,.slice o l2 bG,.slice z aE.length t,.slice H C dH] 40)) #[.N,.N,.map none] 106).alloc (.map #[] 0);have nN:=vbg ((w.alloc (.cells #[.I n0,.I n1,.I eJ,.slice a1 l1 c1,.slice o l2 bG,.slice z aE.length t,.slice H C dH] 40)).alloc (.cells #[.N,.N,.map none] 106)) (.map #[] 0);simp at o8;rw[show((w.alloc (.cells #[.I n0,.I n1,.I eJ,.slice a1 l1 c1,.slice o l2 bG,.slice z aE.length t,.slice H C dH] 40)).alloc (.cells #[.N,.N,.map none] 106)).heap.size=w.heap.size+1+1 by simp]at nN;go_loopw [9,10,14] (λ_ _ x W=>∃(k:Nat)(es:Array MapEntry)(e6:Nat),k<=rs.length/\x=.I k/\ah W w.heap.size #[.I n0,.I n1,.I eJ,.slice a1 l1 c1,.slice o l2 bG,.slice z aE.length t,.slice H C dH] 40/\(∃c1,ah W (w.heap.size+1) c1 106/\c1.size=3)/\W.heap[w.heap.size+1+1]?=some (.map es e6)/\nv (w.heap.size+3) w W es.toList e6 (my aE (rs.take k))/\cC w W)
  (λ_ _ x _=>rs.length-(intOf x).toNat)
 case atStart=>exact⟨0,#[],0,vav _,rfl,o7,⟨_,o8,rfl⟩,nN,⟨Ab,Ab,Ab,λq _=>rfl⟩,(((vaa _ w).alloc Jb _).alloc Ab _).alloc A2 _⟩
 case round=>
  obtain⟨k,es,e6,hk,rfl,iH,⟨TD,b_,TE⟩,TF,R,hB⟩:=hrel;have Rl:Hid _:=iH;have tJ:Hid (ah wr (w.heap.size+1) TD 106):=b_;have Q:Hid (wr.heap[w.heap.size+1+1]?=some (.map es e6)):=TF;have NS:Hid (nv (w.heap.size+3) w wr es.toList e6 (my aE (rs.take k))):=R;have cp:Hid (cC w wr):=hB;have F:=bp.b7 hB;obtain⟨eU,gR,hh⟩:=iH.all;have wQ:=jS TF;clear o7 o8 nN iH b_ TF R hB;by_cases JM:k<rs.length
  .obtain⟨ND,ro,rfl,pv,jT,D,e1,fu,V⟩:=b8 k JM;simp at D e1;obtain⟨f,pc,rfl,-⟩:=fu.shape;obtain⟨d,h,rfl,-⟩:=V.shape;replace D:=F _ _ _ D;replace e1:=F _ _ _ e1;have fR:=fp D;have ml:(0:Int)<=(k:Int):=AX;have kx:(k:Int)<(rs.length:Int):=AX;have aqm:Hid (eb w (.slice f rs[k].1.length pc) rs[k].1):=fu;have aqn:Hid (jq w (.slice d rs[k].2.length h) rs[k].2):=V;have sP:=a0.mono kw F ho;have NT:=a0.mono wU F V;have hU:=(vaa _ wr).alloc Jb (.cells #[.slice f rs[k].1.length pc,.slice d rs[k].2.length h] 74);have xl:Hid _:=Yu true aE rs[k].2 f rs[k].1.length pc (.slice d rs[k].2.length h) (.slice z aE.length t) (wr.alloc (.cells #[.slice f rs[k].1.length pc,.slice d rs[k].2.length h] 74)) (yU hU NT) (yT hU (by simpa using sP)) (λx hx=>hlt rs[k] (vax JM) x hx) h4;clear fu V b8 sP NT;obtain⟨q,hq⟩:∃q,jr (aE.map λx=>rs[k].2.getD x lX)=q:=⟨_,rfl⟩;rw[hq]at xl;have rT:Hid (GG aE rs[k]=q):=hq;clear hq;go_wp2_with fail
   refine vcp xl.out ?_;rintro e s ⟨rfl,cG⟩;have gw:=(ah.new wr #[.slice f rs[k].1.length pc,.slice d rs[k].2.length h] 74).call cG;obtain⟨gB,kZ,lE⟩:=gw.all;have iP:Hid (cC wr s):=Below.step cG hU Ab;clear cG hU eU gR hh D e1 xl;have pQ:Hid (ah s wr.heap.size #[.slice f rs[k].1.length pc,.slice d rs[k].2.length h] 74):=gw;clear gw;go_wp2_with (with_reducible refine SK rfl ?_)
   unfold ky;refine J1 rfl (SJ true rfl _ _) (SB true rfl rfl (b:=s.heap.size) rfl (q:=q) rfl (ah.new s _ _) λn vp Z=>?_);have P:=(pQ.out.alloc (.cells (cq (jr [])) 138)).below (Z s.heap.size Jb) lE;have tg:Hid (cC wr n):=(iP.out.alloc (vdu lE) _).trans (Z _ (vdu lE));have j3:=(Z s.heap.size Jb).size;replace j3:s.heap.size+1<=n.heap.size:=by simpa using j3
   have J2:Hid (ah n s.heap.size (cq q) 138):=vp;clear gB kZ Z vp iP pQ;obtain⟨gB,kZ,Rp⟩:=P.all;clear P;go_wp2_with (with_reducible refine Tz rfl ?_)
   unfold ky;refine TA true rfl rfl (b:=s.heap.size) rfl (q:=q) J2.out ?_;go_wp2_with (with_reducible refine aqa rfl ?_)
   unfold ky;have NU:=tg.out.alloc (vdu Rp) (.cells #[.slice f rs[k].1.length pc,.slice d rs[k].2.length h] 74);have O:=NS.out.below NU;have N:=(NU.block _ wQ).trans Q.out;have X:Hid (cC wr (n.alloc (.cells #[.slice f rs[k].1.length pc,.slice d rs[k].2.length h] 74))):=NU;refine aqh rfl rfl (m:=w.heap.size+1+1) (q:=q) rfl rfl O N ?_;intro v b gN y i TG TH;obtain⟨q0,Db,m8⟩:=TG.val _ (vco TH);obtain rfl:=NR Db;obtain⟨xs,Nc,cO,Js⟩:=m8;obtain⟨jN,gc,rfl⟩:=gQ cO;have hn:=TB aE (rs.take k) q;rw[List.length_take,vdh hk]at hn;have SC:Hid _:=Js;have HOW:Hid _:=cO;have aqo:Hid _:=TG;have aqp:Hid _:=TH;have yz:Hid (∀j u,(two [((Value.slice f rs[k].1.length pc,Value.slice d rs[k].2.length h):Value×Value)])[j]?=some u->((n.alloc (Obj.cells #[Value.slice f rs[k].fst.length pc,Value.slice d rs[k].snd.length h] 74)).putObj (w.heap.size+1+1) (Obj.map gN y)).cell? (Addr.add ⟨n.heap.size,0,none⟩ j)=some u):=λj u hu=>by rw[vdz,World.cell?_of_block (w:=n.alloc (Obj.cells #[Value.slice f rs[k].fst.length pc,Value.slice d rs[k].snd.length h] 74)) (vas (by simp only;omega))];obtain⟨t1,-,-⟩:=(ah.new n #[.slice f rs[k].1.length pc,.slice d rs[k].2.length h] 74).all;rw[t1];simpa[two]using hu
   have mQ:Hid (w.heap.size+3<=((n.alloc (Obj.cells #[Value.slice f rs[k].fst.length pc,Value.slice d rs[k].snd.length h] 74)).putObj (w.heap.size+1+1) (Obj.map gN y)).heap.size):=by show _<=_;simp[World.putObj];omega
   obtain⟨i0,hi,qJ,rQ,rR⟩:=vci Mk;clear TG TH Db cO Js NU O N gB kZ;generalize GI:(n.alloc (Obj.cells #[Value.slice f rs[k].fst.length pc,Value.slice d rs[k].snd.length h] 74)).putObj (w.heap.size+1+1) (Obj.map gN y)=dK at *;have M:Hid _:=GI;clear GI;go_wp2_with (at_builtin;apply sQ)
   unfold ky;refine wpList_append_own_at _ rfl _ _ 64 rfl (w.heap.size+3) 74 i0 _ 2 48 ((rL _ _ _).trans underlying64) hi qJ rQ rR rfl AU (.slice jN (my aE (rs.take k) q).length gc) (my aE (rs.take k) q).length (two xs) rfl HOW.out ⟨n.heap.size,0,none⟩ 1 1 (two [(.slice f rs[k].1.length pc,.slice d rs[k].2.length h)]) rfl rfl yz.out (by simp[two,Value.oneCell']) C6 AX mQ.out ?_;intro v' jg J3 GJ _ L;have K:dK.heap[w.heap.size+1+1]?=some (.map gN y):=by rw[<-M.out];exact vde (vap wQ X.out.size)
   have J:sk (w.heap.size+3) w jg v' (my aE (rs.take k) q++[rs[k]]):=by
    refine⟨xs++[(.slice f rs[k].1.length pc,.slice d rs[k].2.length h)],by simp[Nc],?_,λi h1 h2=>?_⟩
    .rw[Yl,vbf];exact J3
    .by_cases qU:i<xs.length
     .rw[vcu qU,vcu AX];exact SC.out i qU AX
     .rw[vdm AX,vdm AX];simp only[List.getElem_singleton];exact⟨aqm.out,aqn.out⟩
   have U:=λY=>aqk (o2:=.map Y y) (Below.step X.out cp.out cp.out.size) (M.out▸GJ) AX (vap wQ X.out.size) (λg hg=>by have:=(vdn HOW.out g hg).1;omega);obtain⟨aFR,aFS,rfl⟩:=gQ J3;have aqq:Hid _:=U;have aqr:Hid _:=K;have aqs:Hid _:=J;have aqt:Hid _:=GJ;have NV:Hid _:=L;clear U K J GJ L J3;go_wp2_with (with_reducible refine aqb rfl ?_)
   unfold ky;refine aqi rfl rfl (m:=w.heap.size+1+1) (b:=b) (q:=q) rfl rfl rfl aqo.out aqr.out aqp.out aqt.out aqs.out NV.out ?_;intro Y T;obtain⟨p1,p2,p3⟩:=aqq.out Y;have NW:Hid _:=p1;have J4:Hid _:=p2;have TI:Hid _:=p3;have aqu:Hid _:=T;clear p1 p2 p3 T;go_wp2
   go_roundw
   case rel=>
    have S:=λb(A:b<w.heap.size+1+1)=>(J4.out b A).trans (X.out.block b AX);refine⟨k+1,Y,y,AX,Ab,(S _ AX).trans Rl.out,⟨TD,(S _ AX).trans tJ.out,TE⟩,TI.out,?_,NW.out⟩;rw[vcn JM,aqg,rT.out];exact aqu.out
   case measure=>simp[intOf];omega
  .have iQ:k=rs.length:=by omega
   subst iQ;have jJ:¬((rs.length:Int)<(rs.length:Int)):=AX;obtain⟨s1,kt,xQ⟩:=tJ.out.all;clear b8 F;rw[List.take_length]at NS;go_wp2
   try simp only[Exit.inBlock,Exit.then]
   obtain⟨cl⟩:=TD;obtain⟨mF,dw,dI,rfl⟩:∃mF dw dI,cl=[mF,dw,dI]:=by match cl,TE with| [mF,dw,dI],_=>exact⟨_,_,_,rfl⟩
   have hf:=((tJ.out.set 0 (.slice o l2 bG)).set 1 (.slice I B E)).set 2 (.map (some (w.heap.size+1+1)));simp at hf;have nc:∀b,b≠w.heap.size+1->(((wr.setCell {block:=w.heap.size+1,off:=0} (Value.slice o l2 bG)).setCell {block:=w.heap.size+1,off:=1} (Value.slice I B E)).setCell {block:=w.heap.size+1,off:=2} (Value.map (some (w.heap.size+1+1)))).heap[b]?=wr.heap[b]?:=λb A=>by rw[TC _ A,TC _ A,TC _ A]
   have xm:=((cp.out.setCell (p:=⟨w.heap.size+1,0,none⟩) (vdw _) (.slice o l2 bG)).setCell (p:=⟨w.heap.size+1,1,none⟩) (vdw _) (.slice I B E)).setCell (p:=⟨w.heap.size+1,2,none⟩) (vdw _) (.map (some (w.heap.size+1+1)));generalize(((wr.setCell {block:=w.heap.size+1,off:=0} (Value.slice o l2 bG)).setCell {block:=w.heap.size+1,off:=1} (Value.slice I B E)).setCell {block:=w.heap.size+1,off:=2} (Value.map (some (w.heap.size+1+1))))=wf at *;obtain⟨f1,iu,f3⟩:=hf.all;refine vbw (v:=.agg #[.slice o l2 bG,.slice I B E,.map (some (w.heap.size+1+1))]) ?_ rfl ⟨w.heap.size+1+1,rfl,⟨es,e6,(nc _ AX).trans Q.out,λe he=>?_,NS.out.none⟩,AX,xm⟩
   .rw[aqj rfl];go_simp
   .obtain⟨q,h1,h2⟩:=NS.out.val e he;have hl:=TB aE rs q;refine⟨q,h1,sk.rows (h2.keep λg hg=>nc g ?_) (bp.b7 xm) AX⟩;obtain⟨xs,-,h3,-⟩:=h2;have:=(vdn h3 g hg).1;omega
end
def Ud:(ae prog false).funcs[(198:Nat)]?=some f198:=bB (upd:=false) func198 AQ
@[simp] theorem aFU:cX false 198:=dg Ud AQ
theorem aqv{ops:du}{rest:uba}{o:Oper}{a:Act}{w:aL}{Q:uah}{x y:uap}{b:Bool}(_:o.op=.lookup t x y b)(h:ky (wpList P ops Q (o::rest) a w)):wpList P ops Q (o::rest) a w:=h
def aqw{ops:du}{rest:uba}{o:Oper}{a:Act}{w:aL}{Q:uah}{x y:uap}(u:Bool)(e:o.op=.lookup 104 x y false)(j:o.guard=none){F:db->List a7}(c:a.eval x=.map (some m))(b:a.eval y=.agg (cq q)){w0:aL}(f:l9 w0 m F)(d:w.heap[m]?=w0.heap[m]?)(h:∀v,gm w0 v (F q)->wpList (ae prog u) ops Q rest (a.put o.dst v) w):wpList (ae prog u) ops Q (o::rest) a w:=by obtain⟨v,i,g⟩:=ap3 u f d q;refine J1 j ?_ (h v g);simp[execOp,e,c,b,i]
def l9.lt{w:aL}{F:db->List a7}(h:l9 w m F):m<w.heap.size:=let⟨_,_,h,_⟩:=h;jS h
def l9.below{w w':aL}{F:db->List a7}(h:l9 w m F)(a:cC w w'):l9 w' m F:=by obtain⟨es,e6,b,g,f⟩:=h;refine⟨es,e6,(a.block m (jS b)).trans b,λe c=>?_,f⟩;obtain⟨q,d,i⟩:=g e c;exact⟨q,d,a0.mono qX (bp.b7 a) i⟩
def n_(aE:e8)(F:db->List a7)(vals:List cZ):List a7:=if(sS (jr (aE.map λk=>vals.getD k lX))).any id then []else F (jr (aE.map λk=>vals.getD k lX))
def aqx(aE:e8)(vals:List cZ)(F:db->List a7)(m:Nat)(o:uan)(pl pc:Nat)(M S V:Value)(w w0:aL)(hv:jq w M vals)(hk:eb w S (aE.map Int.ofNat))(Z:∃a l c,V=.slice a l c)(P:l9 w0 m F)(X:w.heap[m]?=w0.heap[m]?)(wQ:m<w.heap.size)(y:∀k∈aE,k<vals.length)(h4:aE.length<=4):
 Calls (ae prog false) 198 #[.agg #[S,V,.map (some m)],.agg #[.slice o pl pc,M]] w λe w'=>∃v,e=.returned v/\gm w0 v (n_ aE F vals)/\cC w w':=by
 obtain⟨W,Q,U,rfl⟩:=Z;obtain⟨z,s,rfl,-⟩:=hk.shape;obtain⟨u,B,rfl,-⟩:=hv.shape;rw[vcd]at *;have n:=((vaa _ w).alloc Jb (.cells #[.slice z aE.length s,.slice W Q U,.map (some m)] 106)).alloc Ab (.cells #[.slice o pl pc,.slice u vals.length B] 74);have p:Hid _:=Yu false aE vals o pl pc (.slice u vals.length B) (.slice z aE.length s) _ (yU n hv) (yT n (by simpa using hk)) y h4;have L:=(ah.new w #[.slice z aE.length s,.slice W Q U,.map (some m)] 106).alloc (.cells #[.slice o pl pc,.slice u vals.length B] 74);have uu:Hid _:=P;have D:Hid (w.heap[m]?=w0.heap[m]?):=X;have f:Hid (∀q,jr (aE.map λk=>vals.getD k lX)=q->n_ aE F vals=if(sS q).any id then []else F q):=λq e=>by subst e;rfl
 clear P hv hk X;generalize n_ aE F vals=R at f⊢;obtain⟨q,hq⟩:∃q,jr (aE.map λx=>vals.getD x lX)=q:=⟨_,rfl⟩;rw[hq]at p;replace f:=f.out q hq;have h:Hid _:=f;clear f hq;have K:Hid _:=n;have Y:Hid _:=L;clear n L;go_enter Ud,ntmps198
 go_wp2
 refine vcp p.out ?_;rintro e d ⟨rfl,A⟩;have O:Hid (cC w d):=Below.step A K.out A2;have g:Hid (ah d w.heap.size _ 106):=ah.call (T:=106) Y.out A;clear A K Y p;go_wp2_with (with_reducible refine SK rfl ?_)
 unfold ky;refine J1 rfl (SJ false rfl _ _) (SB false rfl rfl (b:=d.heap.size) rfl (q:=q) rfl (ah.new d _ _) λI J N=>?_);have i:Hid (cC d I):=((vaa _ d).alloc Jb _).trans (N _ Jb);have H:Hid _:=J;clear N J;go_wp2_with (with_reducible refine Tz rfl ?_)
 unfold ky;refine TA false rfl rfl (b:=d.heap.size) rfl (q:=q) H.out ?_;go_wp2
 refine vcp (ak7 false q I) ?_;rintro e r ⟨rfl,j⟩;have t:Hid (cC w r):=Below.step (Below.step j i.out i.out.size) O.out O.out.size;have C:Hid (ah r w.heap.size _ _):=ah.call (ah.call (T:=106) g.out i.out) j;have E:Hid (ah r d.heap.size _ _):=ah.call (T:=138) H.out j;clear j g H i;cases hn:(sS q).any id
 .obtain⟨gB,kZ,lE⟩:=ah.all (T:=106) C.out;go_wp2_with (with_reducible refine Tz rfl ?_)
  unfold ky;refine TA false rfl rfl (b:=d.heap.size) rfl (q:=q) E.out ?_;go_wp2_with (with_reducible refine aqv rfl ?_)
  unfold ky;refine aqw false rfl rfl (m:=m) (q:=q) rfl rfl uu.out ((t.out.block m wQ).trans D.out) λv hv=>?_;obtain⟨sa,lI,rfl,-⟩:=id hv;have IW:Hid _:=hv;clear hv;go_wp2
  go_ret
  refine⟨_,rfl,?_,t.out⟩;rw[h.out,hn];exact IW.out
 .go_wp2
  go_ret
  refine⟨_,rfl,?_,t.out⟩;rw[h.out,hn];exact a0.nil _ _ _
def T3:(ae prog false).funcs[(197:Nat)]?=some f197:=bB (upd:=false) func197 AQ
def Dc(aE:e8)(F:db->List a7)(r:a7):List a7:=(n_ aE F r.2).map λr'=>(r.1++r'.1,r.2++r'.2)
def eT(aE:e8)(F:db->List a7)(rs:List a7)(fr i:Nat):List a7:=((rs.drop fr).take i).flatMap (Dc aE F)
variable{fr:Nat}
def T2{aE:e8}{F:db->List a7}{rs:List a7}(h:fr+i<rs.length):eT aE F rs fr (i+1)=eT aE F rs fr i++Dc aE F rs[fr+i]:=by unfold eT;rw[vcn A2,List.flatMap_append];simp
def aqB(aE:e8)(F:db->List a7)(rs:List a7)(fr i m:Nat):∃l,eT aE F rs fr (i+m)=eT aE F rs fr i++l:=by unfold eT;rw[List.take_add,List.flatMap_append];exact⟨_,U⟩
def aqC{aE:e8}{F:db->List a7}{rs:List a7}{k:Nat}(h:fr+i<rs.length)(b:i<m)(hk:k<(n_ aE F rs[fr+i].2).length):
 (eT aE F rs fr i).length+k<(eT aE F rs fr m).length/\(eT aE F rs fr m)[(eT aE F rs fr i).length+k]?=some (rs[fr+i].1++(n_ aE F rs[fr+i].2)[k].1,rs[fr+i].2++(n_ aE F rs[fr+i].2)[k].2):=by
 obtain⟨l,e⟩:=aqB aE F rs fr (i+1) (m-(i+1));rw[show i+1+(m-(i+1))=m by omega,T2 h]at e;rw[e,List.append_assoc];have a:(Dc aE F rs[fr+i]).length=(n_ aE F rs[fr+i].2).length:=by simp[Dc]
 refine⟨by simp only[vbf];omega,?_⟩;rw[vby AX,Nat.add_sub_cancel_left,vcb AX];simp[Dc,hk]
def aqD{aE:e8}{F:db->List a7}{rs:List a7}(h:fr+i<rs.length):(eT aE F rs fr (i+1)).length=(eT aE F rs fr i).length+(n_ aE F rs[fr+i].2).length:=by rw[T2 h];simp[Dc]
def TZ{aE:e8}{F:db->List a7}{l:List cZ}(h:r∈n_ aE F l):∃q,r∈F q:=by
 unfold n_ at h;split at h
 .simp at h
 .exact⟨_,h⟩
def aqE(nQ:Nat)(r:Nat->a7):IJ nQ (λt=>xh (r t).1 (r t).2):=by
 refine⟨λt W x h=>?_,λt W W' x h hk=>?_⟩
 .obtain⟨pv,f,b1,b2,rfl,b,a⟩:=h;obtain⟨a1,c1,rfl⟩:=gQ b;obtain⟨i,bG,rfl⟩:=gQ a;exact⟨_,_,_,_,_,_,U⟩
 .obtain⟨pv,f,b1,b2,rfl,b,a⟩:=h;refine⟨pv,f,b1,b2,U,⟨b.1,b.2.imp_right ?_⟩,⟨a.1,a.2.imp_right ?_⟩⟩
  .rintro⟨g,cap,bf,e,d,k3,c⟩;exact⟨g,cap,bf,e,d,hk _ _ _ _ k3 (.inr AU),c⟩
  .rintro⟨g,cap,bf,e,d,k3,c⟩;exact⟨g,cap,bf,e,d,hk _ _ _ _ k3 (.inr AU),c⟩
def aqF{S:c7}{J:ubk}(a:∀t D W,J t D W->∀b,S b\/D b->b<W.heap.size)(d:∀t D W W',J t D W->jb W W'->(∀b,S b->W'.heap[b]?=W.heap[b]?)->J t D W'):∀t D W W',J t D W->cC W W'->J t D W':=
 λt D W W' h c=>d t D W W' h (.below c) λb hs=>c.block b (a t D W h b (.inl hs))
def aqG{n:Nat}(aE:e8)(F:db->List a7)(rs:List a7)(m:Nat)(gg bN:Value)(fr d:Nat)(w0:aL)(hk:eb w0 gg (aE.map Int.ofNat))(ho:gm w0 bN rs)(hm:l9 w0 m F)(sO:fr<d)(ya:d<=rs.length)(Bf:rs.length<=1000000)(w:∀r∈rs,∀k∈aE,k<r.2.length)(h4:aE.length<=4)(hF:∀q,(F q).length<=1000000)(hsz:∀r∈rs,∀q,∀r'∈F q,r.1.length+r'.1.length<=1000/\r.2.length+r'.2.length<=1000)(Jt:nP rs.length bN)(k_ j_ g9:Nat)(yD:w0.cell? (.a k_ 0)=some gg)(C_:w0.cell? (.a k_ 1)=some bN)(Da:w0.cell? (.a k_ 2)=some (.map (some m)))(hf:w0.cell? (.a j_ 0)=some (.I fr))(ht:w0.cell? (.a g9 0)=some (.I d)):
 Mj True 301 n (ae prog false) 197 #[.P k_ 0,.P j_ 0,.P g9 0] (λk=>xh ((eT aE F rs fr (d-fr))[k]?.getD ([],[])).1 ((eT aE F rs fr (d-fr))[k]?.getD ([],[])).2) (eT aE F rs fr (d-fr)).length w0.heap.size w0:=by
 intro l S J D W E rN Ay kz h0;have g_:=aqF rN Ay;have NY:=λt D W(h:J t D W) b E=>rN t D W h b (.inr E);clear Ay rN;have wQ:=hm.lt;have uu:Hid (l9 w0 m F):=hm;clear hm;have u:=bp.b7 E;have wI:=u _ _ _ hf;have wW:=u _ _ _ ht;have Db:=u _ _ _ yD;have Y:=u _ _ _ C_;have GK:=u _ _ _ Da;obtain⟨ka,kc,rfl,-⟩:=hk.shape;rw[vcd]at *;obtain⟨bM,TY,rfl,Jt⟩:=Jt;obtain⟨aFW,aFX,hce,-,b8⟩:=id ho;cases hce;obtain⟨aS,tC,rfl,-⟩:=b8 0 AX;refine callsIn_of_wp T3 rfl trivial ?_ rfl;simp[vcg];gi_wp2
 gi_loopw [6,8,15] (λ_ _ p wr=>∃(i:Nat)(D:c7),fr+i<=d/\p=.I (i:Int)/\J (eT aE F rs fr i).length D wr/\(eT aE F rs fr i).length<301/\cC w0 wr/\Below w0.heap.size W wr) (λ_ _ p _=>d-fr-(intOf p).toNat)
 case atStart=>exact⟨0,D,AX,rfl,by simpa[eT]using h0,by simp[eT],E,vaa _ _⟩
 case round=>
  obtain⟨a,rfl⟩:∃x:aL,x=wr:=⟨wr,rfl⟩;obtain⟨i,Z,kx,rfl,hj,lB,o,fA⟩:=hrel;have f:=bp.b7 o;have H9:=f _ _ _ yD;have aqH:=f _ _ _ C_;have aqI:=f _ _ _ Da;have Tv:=fp H9;have sT:Hid (J (eT aE F rs fr i).length Z a):=hj;have pQ:Hid (cC w0 a):=o;have tK:Hid (Below w0.heap.size W a):=fA;have Cm:Hid (eb w0 (.slice ka aE.length kc) (aE.map Int.ofNat)):=by show eb w0 _ _;simpa using hk
  by_cases JM:fr+i<d
  .have M:fr+i<rs.length:=by omega
   obtain⟨b',An,xm,pv,jT,A,d1,s,j⟩:=b8 (fr+i) M;cases xm;obtain⟨z,pc,rfl,-,-⟩:=id s;obtain⟨B,C,rfl,-,-⟩:=id j;simp at A;have I:=f _ _ _ A;have e1:=f _ _ _ d1;have ca:=fp I;have aqJ:Hid (eb w0 _ _):=s;have JJ:Hid (jq w0 _ _):=j;have ou:(i:Int)<((d-fr:Nat):Int):=AX;have As:(0:Int)<=(i:Int):=AX;have dw:tC+(fr+i)*2=tC+fr*2+i*2:=AX;rw[dw]at I e1;have mQ:Hid (∀r'∈n_ aE F rs[fr+i].2,rs[fr+i].1.length+r'.1.length<=1000/\rs[fr+i].2.length+r'.2.length<=1000):=λr' nH=>by obtain⟨q,hq⟩:=TZ nH;exact hsz _ (vax M) q r' hq
   have aqK:Hid (∀k∈aE,k<rs[fr+i].2.length):=w _ (vax M);have Nd:Hid ((eT aE F rs fr (i+1)).length=(eT aE F rs fr i).length+(n_ aE F rs[fr+i].2).length):=aqD M;have aqL:Hid _:=λk hk=>aqC (aE:=aE) (F:=F) (k:=k) M (show i<d-fr by omega) hk;have aFY:Hid ((n_ aE F rs[fr+i].2).length<=1000000):=by
    show(n_ aE F rs[fr+i].2).length<=1000000;unfold n_;split
    .simp
    .exact hF _
   have aqM:Hid (∀b,Z b->b<a.heap.size):=NY _ _ _ hj;have y:cC a (a.alloc (.cells #[.slice z rs[fr+i].1.length pc,.slice B rs[fr+i].2.length C] 74)):=(vaa _ a).alloc Jb _;have g:=f.trans (bp.b7 y);have X:Hid _:=aqx aE rs[fr+i].2 F m z rs[fr+i].1.length pc (.slice B rs[fr+i].2.length C) (.slice ka aE.length kc) (.S aS tC rs.length TY) (a.alloc (.cells #[.slice z rs[fr+i].1.length pc,.slice B rs[fr+i].2.length C] 74)) w0 (a0.mono wU g j) (a0.mono kw g Cm.out) ⟨_,_,_,rfl⟩ uu.out ((y.block m (vap wQ o.size)).trans (o.block m wQ)) (by have:=o.size;simp;omega) aqK.out h4;have aoE:Hid (Below w0.heap.size a (a.alloc (.cells #[.slice z rs[fr+i].1.length pc,.slice B rs[fr+i].2.length C] 74))):=y.mono o.size;have SO:Hid _:=kz;have V:Hid _:=g_;have aFZ:Hid _:=NY;clear hj o fA f hf ht yD C_ Da wI wW Db Y GK h0 E u A d1 b8 dw s j hsz hF y g kz g_ NY hk ho w;gi_wp2
   refine⟨NE,λh=>Cl,(callsIn_wide.2 X.out).mono ?_⟩;rintro e w2 ⟨v,rfl,hv,cG⟩;have aqN:Hid (ah w2 a.heap.size #[.slice z rs[fr+i].1.length pc,.slice B rs[fr+i].2.length C] 74):=(ah.new a _ _).call cG;have iP:Hid (cC a w2):=Below.step cG ((vaa _ a).alloc Jb _) Ab;obtain⟨sa,lI,rfl,-,U⟩:=hv;have T:Hid _:=U;clear cG X U I e1 H9 aqH aqI;gi_wp2
   have aqO:¬Z a.heap.size:=λh=>by have:=aqM.out _ h;omega
   generalize hR:n_ aE F rs[fr+i].2=H at *;generalize hc:(eT aE F rs fr i).length=c at *;gi_loopw [8,23] (λ_ p w3=>∃(k:Nat)(D:c7),k<=H.length/\p=.I (k:Int)/\J (c+k) D w3/\c+k<301/\Below w0.heap.size a w3/\ah w3 a.heap.size #[.slice z rs[fr+i].1.length pc,.slice B rs[fr+i].2.length C] 74/\¬D a.heap.size) (λ_ p _=>H.length-(intOf p).toNat)
   case atStart=>exact⟨0,Z,vav _,rfl,V.out _ _ _ _ sT.out iP.out,lB,iP.out.mono pQ.out.size,aqN.out,aqO⟩
   case round=>
    obtain⟨k,NZ,kR,rfl,IX,uQ,jA,cD,mJ⟩:=hrel;have R:Hid (J (c+k) NZ wr):=IX;have tg:Hid (cC w0 wr):=pQ.out.trans jA;have qi:Hid (Below w0.heap.size a wr):=jA;have Ci:Hid (ah wr a.heap.size _ 74):=cD;have Q:Hid (¬NZ a.heap.size):=mJ;obtain⟨gB,kZ,lE⟩:=cD.all;clear IX jA mJ cD;by_cases rX:k<H.length
    .obtain⟨b',An,rfl,pv,jT,A,d1,s,j⟩:=T.out k rX;obtain⟨N0,N1,rfl,-,-⟩:=id s;obtain⟨N2,N3,rfl,-,-⟩:=id j;simp at A;have f:=bp.b7 tg.out;have I:=f _ _ _ A;have e1:=f _ _ _ d1;have aF0:=fp I;have eo:(k:Int)<(H.length:Int):=AX;have jJ:(0:Int)<=(k:Int):=AX;have y:cC wr (wr.alloc (.cells #[.slice N0 H[k].1.length N1,.slice N2 H[k].2.length N3] 74)):=(vaa _ wr).alloc Jb _;have g:=f.trans (bp.b7 y);have P:Hid _:=apX rs[fr+i].1 H[k].1 rs[fr+i].2 H[k].2 (.slice z rs[fr+i].1.length pc) (.slice B rs[fr+i].2.length C) (.slice N0 H[k].1.length N1) (.slice N2 H[k].2.length N3) (wr.alloc (.cells #[.slice N0 H[k].1.length N1,.slice N2 H[k].2.length N3] 74)) (a0.mono kw g aqJ.out) (a0.mono wU g JJ.out) (a0.mono kw g s) (a0.mono wU g j) (mQ.out _ (vax rX));clear A d1 s j f g y;gi_wp2
     refine⟨NE,λh=>Cl,(callsIn_wide.2 P.out).mono ?_⟩;rintro e K ⟨x,rfl,hx,kh⟩;have w9:cC wr K:=Below.step kh ((vaa _ wr).alloc Jb _) Ab;obtain⟨t1,gv⟩:=aqL.out k rX;have cm:xh ((eT aE F rs fr (d-fr))[c+k]?.getD ([],[])).1 ((eT aE F rs fr (d-fr))[c+k]?.getD ([],[])).2 K x:=by rw[gv];exact hx
     obtain⟨pv,jT,o1,o2,rfl,gO,dz⟩:=id hx;obtain⟨p3,dH,rfl⟩:=gQ gO;obtain⟨p4,c4,rfl⟩:=gQ dz;obtain⟨fn,tmps,assign,body,hy,bL⟩:=SO.out _ _ NZ K (V.out _ _ _ _ R.out w9) t1 uQ cm;have TJ:Hid (ah K a.heap.size _ 74):=Ci.out.call w9;have aqP:Hid (Below w0.heap.size a K):=qi.out.trans (w9.mono tg.out.size);have r6:Hid (c+k<(eT aE F rs fr (d-fr)).length):=t1;simp only[vbf]at hy;clear cm hx gO dz t1 gv P I e1 gB kZ kh w9;gi_wp2
     refine⟨λh=>Cl,bL.mono ?_⟩;rintro e o5 ⟨rfl,⟨CU,Co,L⟩,O⟩;replace L:=L trivial;have N:Hid (J (c+k+1) CU o5):=Co;have NV:Hid (Below w0.heap.size a o5):=aqP.out.trans O;have aqQ:Hid (ah o5 a.heap.size _ 74):=(L.same _ TJ.out.lt Q.out).trans TJ.out;have aqR:Hid (¬CU a.heap.size):=λh=>Q.out (L.less _ TJ.out.lt h);clear bL hy Co O L;by_cases hz:c+k+1=301
     .have e:decide (c+k+1≠301)=false:=by simp[hz]
      rw[e];clear e;gi_wp2
      (try simp only[Exit.inBlock,Exit.then])
      refine vbw (results_none rfl _ _ _) rfl ?_;refine⟨⟨_,rfl⟩,⟨CU,?_⟩,tK.out.trans NV.out⟩;have e:min (eT aE F rs fr (d-fr)).length 301=c+k+1:=by have:=r6.out;omega
      rw[e];exact N.out
     .have e:decide (c+k+1≠301)=true:=by simp[hz]
      rw[e];clear e;gi_wp2
      go_roundw
      case rel=>exact⟨k+1,CU,AX,Ab,N.out,AX,NV.out,aqQ.out,aqR.out⟩
      case measure=>simp[intOf];omega
    .have iQ:k=H.length:=by omega
     subst iQ;have eo:¬((H.length:Int)<(H.length:Int)):=AX;clear T gB kZ;gi_wp2
     go_roundw
     case rel=>exact⟨i+1,NZ,AX,Ab,by rw[Nd.out];exact R.out,by rw[Nd.out];exact uQ,tg.out,tK.out.trans qi.out⟩
     case measure=>simp[intOf];omega
  .have ou:¬(i:Int)<((d-fr:Nat):Int):=by omega
   clear hj o fA f hf ht yD C_ Da wI wW Db Y GK h0 E u b8 kz g_ NY hsz hF hk ho w;gi_wp2
   go_end0
   have e:d-fr=i:=AX;rw[e,vdh AX];exact⟨⟨_,rfl⟩,⟨Z,sT.out⟩,tK.out⟩
open Conc ConcM bo ag ft ix gi iS c3
def Tt{ρ:az.Ren}(h:ar ρ (.agg (cq q)) v):v=.agg (cq q):=by
 cases h with
 |agg hs h=>
  rename_i a';congr 1
  apply vcf;intro i;by_cases hi:i<16
  .have a:i<(cq q).size:=hi;have c:i<a'.size:=by rw[<-hs];exact hi
   rw[vao a,vao c];have d:=h i _ _ (vao a) (vao c);have f:∀v∈(cq q).toList,(∃b,v=.bool b)\/(∃k n,v=.int k n)\/∃s,v=.string s:=by unfold cq;simp
   rcases f (cq q)[i] Ab with⟨b,e⟩|⟨k,n,e⟩|⟨s,e⟩;all_goals
    rw[e]at d⊢;generalize a'[i]=y at d⊢;cases d;rfl
  .have a:(cq q).size<=i:=Nat.le_of_not_lt hi;have c:a'.size<=i:=by rw[<-hs];exact a
   rw[Array.getElem?_eq_none a,Array.getElem?_eq_none c]
def cL.aqS{ap aK:Type}{R:ap->aK->Prop}{l:List ap}{m:List aK}(h:cL R l m):∀y∈m,∃x∈l,R x y:=by
 induction h with
 |nil=>simp
 |cons h t b=>
  intro y a;rcases vbo.1 a with rfl|a
  .exact⟨_,Ab,h⟩
  .obtain⟨x,c,d⟩:=b y a;exact⟨x,by simp[c],d⟩
def cL.aqT{ap aK:Type}{R:ap->aK->Prop}{l:List ap}{m:List aK}(h:cL R l m):∀x∈l,∃y∈m,R x y:=by
 induction h with
 |nil=>simp
 |cons h t b=>
  intro y a;rcases vbo.1 a with rfl|a
  .exact⟨_,Ab,h⟩
  .obtain⟨x,c,d⟩:=b y a;exact⟨x,by simp[c],d⟩
theorem l9.carry{ρ:az.Ren}{w w':aL}{F:db->List a7}(h:l9 w m F)(g:Carry ρ w w')(hv:ar ρ (.map (some m)) v'):∃f,v'=.map (some f)/\l9 w' f F:=by
 cases hv with
 |map r=>
  obtain⟨es,e6,p,o,n⟩:=h;obtain⟨es',l,i⟩:=g.map _ _ _ _ r p;refine⟨_,U,es',e6,l,λe b=>?_,λq hq=>n q λe b hk=>?_⟩
  .obtain⟨t,d,a⟩:=cL.aqS i e b;obtain⟨q,k,j⟩:=o t d;exact⟨q,Tt (k▸a.key),az.a0.carry qW g a.val j⟩
  .obtain⟨s,c,a⟩:=cL.aqT i e b;exact hq s c (Tt (hk▸a.key))
theorem l9.heap{w w':aL}{F:db->List a7}(h:l9 w m F)(e:w'.heap=w.heap):l9 w' m F:=by obtain⟨es,e6,i,g,f⟩:=h;refine⟨es,e6,by rw[e];exact i,λx d=>?_,f⟩;obtain⟨q,c,a⟩:=g x d;exact⟨q,c,a0.mono qX (λb o v hv=>by simpa[World.cell?,e]using hv) a⟩
def yX(aE:e8)(F:db->List a7)(rs:List a7)(fr ey:Nat)(w:aL)(u:Value):Prop:=
 ∃k_ j_ g9 gg bN m,u=.func (.func 197) #[] #[.P k_ 0,.P j_ 0,.P g9 0]/\
  w.cell? (.a k_ 0)=some gg/\w.cell? (.a k_ 1)=some bN/\w.cell? (.a k_ 2)=some (.map (some m))/\w.cell? (.a j_ 0)=some (.I fr)/\w.cell? (.a g9 0)=some (.I ey)/\eb w gg (aE.map Int.ofNat)/\gm w bN rs/\nP rs.length bN/\l9 w m F
def aqW(aE:e8)(F:db->List a7)(rs:List a7)(fr r:Nat):yv (yX aE F rs fr r):=by rintro ρ w w' u D a k ⟨c,C,I,H,J,m,rfl,h0,q,p,o,n,B,A,i,j⟩;obtain⟨c1,bG,dH,rfl,b,h,k3⟩:=ZE k;obtain⟨mF,y,x⟩:=a.cell _ _ _ b h0;obtain⟨dw,a1,d⟩:=a.cell ⟨c,1,none⟩ ⟨c1,1,none⟩ _ ⟨b.1,U,U⟩ q;obtain⟨dI,z,v⟩:=a.cell ⟨c,2,none⟩ ⟨c1,2,none⟩ _ ⟨b.1,U,U⟩ p;obtain⟨E,e,t⟩:=a.cell _ _ _ h o;obtain⟨nO,f,s⟩:=a.cell _ _ _ k3 n;rw[t.ud]at e;rw[s.ud]at f;obtain⟨g,rfl,l⟩:=j.carry a v;exact⟨c1,bG,dH,mF,dw,g,U,y,a1,z,e,f,az.a0.carry wT a x B,az.a0.carry qW a d A,i.carry d,l⟩
theorem yX.tape{aE:e8}{F:db->List a7}{rs:List a7}{b:Nat}{w:aL}{u:Value}(a:Nat->Question->Nat)(h:yX aE F rs fr b w u):yX aE F rs fr b {w with tape:=a} u:=by obtain⟨c,d,n,l,o,m,rfl,h0,k,j,i,g,q,p,e,f⟩:=h;exact⟨c,d,n,l,o,m,U,h0,k,j,i,g,a0.mono kw (AV w a) q,a0.mono qX (AV w a) p,e,f.heap U⟩
def aqX:(ae prog false).funcs[(195:Nat)]?=some f195:=bB (upd:=false) func195 AQ
def aqY(aE:e8)(F:db->List a7)(rs:List a7)(g d:Value)(m fr a:Nat)(w:aL)(hv:eb w g (aE.map Int.ofNat))(l:gm w d rs)(hd:nP rs.length d)(j:l9 w m F):
 Calls (ae prog false) 195 #[.agg #[g,d,.map (some m)],.I fr,.I a] w λe w'=>∃u,e=.returned u/\yX aE F rs fr a w' u:=by
 obtain⟨b,cap,rfl,-,-⟩:=id hv;obtain⟨c,cc,rfl,k⟩:=id hd;go_enter aqX,ntmps195
 go_wp2
 go_ret
 have b1:=((ah.new w #[.slice b (aE.map Int.ofNat).length cap,.slice c rs.length cc,.map (some m)] 106).alloc (.cells #[.I (fr:Int)] 3)).alloc (.cells #[.I (a:Int)] 3);have b2:=(ah.new (w.alloc (.cells #[.slice b (aE.map Int.ofNat).length cap,.slice c rs.length cc,.map (some m)] 106)) #[.I (fr:Int)] 3).alloc (.cells #[.I (a:Int)] 3);have i:=ah.new ((w.alloc (.cells #[.slice b (aE.map Int.ofNat).length cap,.slice c rs.length cc,.map (some m)] 106)).alloc (.cells #[.I (fr:Int)] 3)) #[.I (a:Int)] 3;have f:=((((vaa _ w).alloc Jb (.cells #[.slice b (aE.map Int.ofNat).length cap,.slice c rs.length cc,.map (some m)] 106)).alloc Ab (.cells #[.I (fr:Int)] 3)).alloc A2 (.cells #[.I (a:Int)] 3));simp only[vcd]at *;simp at b2 i;have h:=bp.b7 f;exact⟨_,U,w.heap.size,w.heap.size+1,w.heap.size+1+1,.slice b aE.length cap,.slice c rs.length cc,m,U,b1.rules.1 0,b1.rules.1 1,b1.rules.1 2,b2.rules.1 0,i.rules.1 0,a0.mono kw h hv,a0.mono qX h l,hd,l9.below j f⟩
def aqZ:ir prog false f195=true:=by decide+kernel
def aq0:ir prog false f197=true:=by decide+kernel
structure J6(aE:e8)(F:db->List a7)(rs:List a7):Prop where
 rows:rs.length<=1000000
 lt:∀r∈rs,∀k∈aE,k<r.2.length
 four:aE.length<=4
 oH:∀q,(F q).length<=1000000
 size:∀r∈rs,∀q,∀r'∈F q,r.1.length+r'.1.length<=1000/\r.2.length+r'.2.length<=1000
 text:∀r∈rs,∀d∈r.2,d.text.size<=9223372036854775807
 aq1:∀q,∀r∈F q,∀d∈r.2,d.text.size<=9223372036854775807
def sm(aE:e8)(F:db->List a7)(rs:List a7)(fr ey:Nat):List a7:=(eT aE F rs fr (ey-fr)).take 301
def J7(aE:e8)(F:db->List a7)(rs:List a7)(fr a:Nat):(sm aE F rs fr a).length=min (eT aE F rs fr (a-fr)).length 301:=by simp[sm,Nat.min_comm]
def Tp{aE:e8}{F:db->List a7}{rs:List a7}(h:r∈eT aE F rs fr i):∃a∈rs,∃q,∃b∈F q,r=(a.1++b.1,a.2++b.2):=by unfold eT at h;obtain⟨a,e,c⟩:=List.mem_flatMap.1 h;obtain⟨b,d,rfl⟩:=vbl.1 c;obtain⟨q,hq⟩:=TZ d;exact⟨a,List.mem_of_mem_drop (List.mem_of_mem_take e),q,b,hq,U⟩
def aq2{p:uaz}{l:List cZ}{w:aL}{x y:Value}(h:xh p l w (.agg #[x,y]))(a:p.length<=9223372036854775807)(b:l.length<=9223372036854775807)(ht:∀d∈l,d.text.size<=9223372036854775807):eb w x p/\jq w y l:=by obtain⟨pv,g,b1,b2,e,f,c⟩:=h;simp at e;obtain⟨rfl,rfl⟩:=e;exact⟨apP f a,apO c b ht⟩
def aq3(aE:e8)(F:db->List a7)(rs:List a7)(ok:J6 aE F rs)(fr c:Nat)(n:fr<c)(l:c<=rs.length)(w:aL)(u:Value)(h:yX aE F rs fr c w u):
 Calls (ae prog false) 110 #[u] w λe w'=>∃v,e=.returned v/\gm w' v (sm aE F rs fr c):=by
 obtain⟨o,r,E,D,J,m,rfl,h0,C,B,A,z,L,K,s,t⟩:=h;refine(Ym w (aqE _ _) (λargs w=>dg T3 aq0 args w) (aqG aE F rs m D J fr c w L K t n l ok.rows ok.lt ok.four ok.oH ok.size s o r E h0 C B A z)).mono ?_;rintro e w' ⟨v',rfl,x,-⟩;refine⟨v',U,M7 x _ (J7 _ _ _ _ _) AX λj y p q g=>?_⟩;have f:j<(eT aE F rs fr (c-fr)).length:=by rw[J7]at y;omega
 have I:(sm aE F rs fr c)[j]=(eT aE F rs fr (c-fr))[j]:=by simp[sm]
 rw[I];simp only[vag f,vae]at g;obtain⟨a,k,q',b,i,H⟩:=Tp (vax f);rw[H]at g⊢;have hs:=ok.size a k q' b i;refine aq2 g A2 A2 λd hd=>?_;rcases List.mem_append.1 hd with hd|hd
 .exact ok.text a k d hd
 .exact ok.aq1 q' b i d hd
def aq4{Stop:Bool->ag.Lo At->aX->Prop}{c:dy}{b4:aL}{cd:c7}(z:∀b,cd b->c.K b)(hg:∀g,g<=prog.globals.size->cd g)(o:ie (da prog false) (λb=>cd b\/cJ b) cJ b4){q i d:Value}{aE:e8}{F:db->List a7}{rs:List a7}(ok:J6 aE F rs){fr a:uas}(hv:eb b4 i (aE.map Int.ofNat))(p:gm b4 d rs)(hd:nP rs.length d)(f:l9 b4 m F)(t:ar (eh (λb=>cd b\/cJ b) cJ) i i)(n:ar (eh (λb=>cd b\/cJ b) cJ) d d)(s:ar (eh (λb=>cd b\/cJ b) cJ) (.map (some m)) (.map (some m)))(hinv:∀(args:df)(w:aL),(callMethod q "Piece" args).run prog w=.ok (.enter 195 (#[.agg #[i,d,.map (some m)]]++args)) w/\(callMethod q "Piece" args).events prog w #[]=#[])(x:∀T,T<c.N->fr T<a T/\a T<=rs.length)(tH:∀T,T<c.N->c.rows T=(sm aE F rs (fr T) (a T)).length)(ox:∀T,c.b3 T=false):
 ub c b4 prog Stop 110 q 195 (.agg #[i,d,.map (some m)]) fr a
  (λT u M w=>oJ (da prog false) cd c.K (yX aE F rs (fr T) (a T)) u M w) (λT v M w=>oJ (da prog false) cd c.K (λw v=>T<c.N/\gm w v (sm aE F rs (fr T) (a T))) v M w):=by
 refine ZC lU U func195 aqZ U AQ func110 ZG U AQ z hg o hinv (.rF (oK λv f=>?_))
  (uf:=λT=>yX aE F rs (fr T) (a T)) (ug:=λT w v=>T<c.N/\gm w v (sm aE F rs (fr T) (a T))) (λT=>aqW _ _ _ _ _) (λT _ _ _ _ _ p hv h=>⟨h.1,ZF _ _ _ _ _ _ p hv h.2⟩) (λT j w y r E l=>?_) ox (λT j r u f l=>?_) (λT w v h=>?_)
 .simp at f;rcases f with rfl|rfl|rfl
  .exact t
  .exact n
  .exact s
 .have k:=AV r l;have c1:=ue y o;have bG:=E.carry (vm o y) KB;obtain⟨m1,D,A⟩:=f.carry c1 s;cases D;obtain⟨H,C,B⟩:=A.carry bG s;cases C;exact aqY aE F rs i d m (fr T) (a T) {r with tape:=l} (a0.mono kw k (az.a0.carry wT bG t (az.a0.carry wT c1 t hv))) (a0.mono qX k (az.a0.carry qW bG n (az.a0.carry qW c1 n p))) hd (B.heap U)
 .refine(aq3 aE F rs ok (fr T) (a T) (x T j).1 (x T j).2 _ u (f.tape l)).mono ?_;rintro e w' ⟨v,rfl,h⟩;exact⟨v,U,j,h⟩
 .obtain⟨j,I,cap,rfl,-,-⟩:=h;simp_all
end bX
namespace bX
open Conc ConcM RowKit az bo ag ix gi iS qj c3
variable{M a8:c7}{w0:aL}{bs:uao}
def Ve{P:cf}{upd:Bool}(z:(da P upd).Good)(U:upd=false){f:uaj}{fn:Func}{A:Code}(s:P.funcs[f]?=some fn)(hk:ir P upd fn=true)(a:fn.body=some A)(y:vi fn=true)(k:∀b,M b->a8 b)(hg:∀g,g<=P.globals.size->M g){args:df}(t:aM (eh M cJ) args args)(C:ie (da P upd) M cJ w0){n:Int}(S:∀w,(∀b,M b->w.heap[b]?=w0.heap[b]?)->∀i,gb (da P upd) M cJ w i->∀T,Calls (ae P upd) f args {i with tape:=T} (λe _=>e=.returned (.I n))){ST:Bool->fi.Lo->aX->Prop}(q:∀m l g w N j,(∀b,N b->j b)->ST m l ⟨g,w,N⟩->ST m l ⟨g,w,j⟩){m:Bool}:
 jw P ST m f args (jV fi () a8 w0 bs) (λu D=>u=.I n/\D=jV fi () a8 w0 bs):=by
 intro a2 aF aC aJ aO aH csZ K w γ hS
 have hF:af fi a8 w0 bs w:=hS
 have J:∀b,M b->w.heap[b]?=w0.heap[b]?:=λb a=>hF.rw.heap b AF
 have I:ie (da P upd) M cJ w:=vm C J
 obtain⟨i,H⟩:=Ip (da P upd) M cJ w
 have p:=i_.more (K':=M) AF (Zj z s hk a y I hg AF t (R:=λv _=>v=.I n) H AF m (a2.at aF (.R aC (aJ::aO)::aH)) csZ)
 have Q:(⟨aY (Frame.enter P f args .normal) (a2.at aF (.R aC (aJ::aO)::aH)::csZ),w,cj a8 bs⟩:aX)=qM ⟨aY (Frame.enter P f args .normal) (a2.at aF (.R aC (aJ::aO)::aH)::csZ),w,cJ⟩ (cj a8 bs):=by
  unfold qM;congr 1
  funext b
  exact propext ⟨.inr,λh=>h.resolve_left (λx=>x)⟩
 show bg _ _ _ _ () γ ⟨aY (Frame.enter P f args .normal) (a2.at aF (.R aC (aJ::aO)::aH)::csZ),w,cj a8 bs⟩
 rw[Q]
 have c:∀b,cj a8 bs b->b<w.heap.size:=by
  rintro b (h|h)
  .exact hF.lt b (.inr (.inl h))
  .obtain⟨x,r,rfl⟩:=vbl.1 h;exact jS (hF.cW x r)
 refine Zs uv rfl (λ_ _ h=>h) p γ (cj a8 bs) (λb a=>.inr (.inl (k b a))) rfl (λb _ h=>h) (λb a=>⟨λx=>x,λh=>h,c b a⟩) AF AF ?_
 rintro Y F ⟨ρ,w1,v,v',d⟩ V Z M3 W hsz E X M4 o O L
 obtain rfl:v'=.I n:=by have:=d.val;rw[d.post]at this;exact this.ud
 have B:af fi a8 w0 bs Y.w:=hF.on ⟨AF,hsz,o,O,L⟩
 have:=K (.I n) (jV fi () a8 w0 bs) ⟨rfl,rfl⟩ Y.w F B
 unfold qM
 have e:=d.g
 rw[vct]at e
 rw[e]
 exact bg.more q this (λb a=>.inr a)
def aq8:(ae prog false).funcs[(206:Nat)]?=some f206:=bB (upd:=false) func206 AQ
def aq9:(ae prog false).funcs[(196:Nat)]?=some f196:=bB (upd:=false) func196 AQ
def aq_(t:List aI)(v:Value)(w:aL)(hv:oy w v t)(h0:0<t.length):
 Calls (ae prog false) 206 #[.agg #[v]] w λe _=>e=.returned (.I (t[0].dt.length:Int)):=by
 obtain⟨k,cap,rfl,-,d⟩:=hv;obtain⟨b,off,rfl,be,vs,l,-,-,-,-,c,a⟩:=d 0 h0;obtain⟨h,ci,g,f,an,j,-,-,rfl⟩:=a.shape;simp at c;have i:=fp c;clear d a;have hi:(0:Int)<(t.length:Int):=AX;go_enter aq8,ntmps206
 go_wp2
 go_ret
 rfl
def ara(b d:Value)(m:Nat)(rs:List a7)(w:aL)(f:∃a n c,b=.slice a n c)(g:gm w d rs):
 Calls (ae prog false) 196 #[.agg #[b,d,.map (some m)]] w λe _=>e=.returned (.I (rs.length:Int)):=by
 obtain⟨h,a3,ec,rfl⟩:=f;obtain⟨i,cap,rfl,-,-⟩:=g;go_enter aq9,ntmps196
 go_wp2
 go_ret
 rfl
def arb:ir prog false f206=true:=by decide+kernel
def arc:ir prog false f196=true:=by decide+kernel
theorem ard(h:∀b,M b->a8 b)(hg:∀g,g<=prog.globals.size->M g)(a:ie (da prog false) M cJ w0){t:List aI}{v:Value}(hv:oy w0 v t)(hrel:ar (eh M cJ) v v)(h0:0<t.length){ST:Bool->fi.Lo->aX->Prop}(i:∀m l g w N f,(∀b,N b->f b)->ST m l ⟨g,w,N⟩->ST m l ⟨g,w,f⟩):
 jw prog ST true 206 (#[.agg #[v]]++#[]) (jV fi () a8 w0 bs) (λu j=>u=.I (t[0].dt.length:Int)/\j=jV fi () a8 w0 bs):=
 Ve lU U func206 arb U AQ h hg (.one (.rF (.one hrel))) a (λw d e k c=>aq_ t v {e with tape:=c} (a0.mono tE (AV e c) (az.a0.carry yu (k.carry (vm a d) KB) hrel (az.a0.carry yu (ue d a) hrel hv))) h0) i
def are(p:∀b,M b->a8 b)(hg:∀g,g<=prog.globals.size->M g)(f:ie (da prog false) M cJ w0){rs:List a7}{d e:Value}{m:Nat}(r:∃a n c,d=.slice a n c)(hv:gm w0 e rs)(x:ar (eh M cJ) d d)(h:ar (eh M cJ) e e)(v:ar (eh M cJ) (.map (some m)) (.map (some m))){ST:Bool->fi.Lo->aX->Prop}(q:∀m l g w N o,(∀b,N b->o b)->ST m l ⟨g,w,N⟩->ST m l ⟨g,w,o⟩):
 jw prog ST true 196 (#[.agg #[d,e,.map (some m)]]++#[]) (jV fi () a8 w0 bs) (λu s=>u=.I (rs.length:Int)/\s=jV fi () a8 w0 bs):=
 Ve lU U func196 arc U AQ p hg (.one (.rF (oK AF))) f (λw j k t i=>ara d e m rs {k with tape:=i} r (a0.mono qX (AV k i) (az.a0.carry qW (t.carry (vm f j) KB) h (az.a0.carry qW (ue j f) h hv)))) q
end bX
namespace bX
open Conc ConcM RowKit az
def arf(v:Value)(args:df)(w:aL):(callMethod (.iface 110 (.agg #[v])) "Piece" args).run prog w=.ok (.enter 205 (#[.agg #[v]]++args)) w/\(callMethod (.iface 110 (.agg #[v])) "Piece" args).events prog w #[]=#[]:=⟨Ao,Ao⟩
def arg(v:Value)(w:aL):(callMethod (.iface 110 (.agg #[v])) "Size" #[]).run prog w=.ok (.enter 206 (#[.agg #[v]]++#[])) w/\(callMethod (.iface 110 (.agg #[v])) "Size" #[]).events prog w #[]=#[]:=⟨Ao,Ao⟩
def arh(v u m:Value)(args:df)(w:aL):(callMethod (.iface 106 (.agg #[v,u,m])) "Piece" args).run prog w=.ok (.enter 195 (#[.agg #[v,u,m]]++args)) w/\(callMethod (.iface 106 (.agg #[v,u,m])) "Piece" args).events prog w #[]=#[]:=⟨Ao,Ao⟩
def ari(v u m:Value)(w:aL):(callMethod (.iface 106 (.agg #[v,u,m])) "Size" #[]).run prog w=.ok (.enter 196 (#[.agg #[v,u,m]]++#[])) w/\(callMethod (.iface 106 (.agg #[v,u,m])) "Size" #[]).events prog w #[]=#[]:=⟨Ao,Ao⟩
