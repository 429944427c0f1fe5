import Derived.Test.YtmlddfohidhniaaGreatPAT
set_option linter.all false
set_option maxRecDepth 100000
set_option maxHeartbeats 16000000
namespace Go.Proofs.YtmlddfohidhniaaGreat
open Go.Proofs.Tryz
namespace a3
open Conc ConcM RowKit ax bp cI dm bS cq eC
def ph(l:eY){l':eY}(e:l=l':=by simp only[av,pa,Tryz.f11,vae,Nat.reduceBEq,vah,↓reduceIte];exact rfl):l=l':=e
def Hh(F:Func):Code:=(.seq (.seq (.region 7 (av F 7) false) (.cond (.tmp 32) .skip (.exit 2))) (.seq (.block 3 (.seq (.region 9 (av F 9) true) (.seq (.region 10 (av F 10) false) (.cond (.tmp 54) (.region 11 (av F 11) true) (.region 12 (av F 12) true))))) (.region 8 (av F 8) false)))
def KV(F:Func):Code:=(.seq (.seq (.region 3 (av F 3) false) (.cond (.tmp 13) .skip (.exit 0))) (.seq (.block 1 (.seq (.region 5 (av F 5) true) (.seq (.seq (.region 6 (av F 6) false) (.block 2 (.loop (Hh F)))) (.region 13 (av F 13) false)))) (.region 4 (av F 4) false)))
theorem ayX:f11.body=some (.seq (.region 0 (av f11 0) false) (.seq (.region 1 (av f11 1) false) (.seq (.seq (.region 2 (av f11 2) false) (.block 0 (.loop (KV f11)))) (.seq (.region 14 (av f11 14) false) .ret)))):=by kernel_rfl
structure pZ(B:Nat)(W:aS)(b:Nat)(Hi ll:Int)(bj vs aY:Value)(xi xs p5:uad):Prop where
 lo:B<=b
 box:ai W b #[.I Hi,.I ll,bj,vs,aY] 53
 cn:W.ownsRow B 2 1 bj xi.length xi
 os:W.ownsRow B 9 1 vs xs.length xs
 on:W.ownsRow B 4 1 aY p5.length p5
variable{W W':aS}{aY vs:Value}{p5 xi xs:uad}
def pZ.below{B:Nat}{b:Nat}{Hi a:Int}{bj:Value}(h:pZ B W b Hi a bj vs aY xi xs p5)(hb:cJ W W'):pZ B W' b Hi a bj vs aY xi xs p5:=
 ⟨h.lo,h.box.call hb,A0 h.cn hb,A0 h.os hb,A0 h.on hb⟩
structure Et(t:List aG)(cb:uay)(cU p2:Value)(B:Nat)(eh:aS):Prop where
 eq:B=eh.heap.size
 f1:(dO 1 lS cb).R eh cU
 ir:(eD t).R eh p2
def ox(t:List aG)(cb:uay)(cU p2 p4 kC:Value)(k i cK:Nat)(cs:dp):List (Nat×bb):=[(1,sQ cU (dO 1 lS cb)),(2,sQ p2 (eD t)),(4,e8 p4),(5,e8 kC),(6,a5 k),(7,xl cK cs 53),(8,a5 i)]
variable{cU kC p2 p4:Value}{t:List aG}{cb:uay}{a:Act}
theorem ox.zx{k i cK:Nat}{cs c:dp}{B:Nat}{eh:aS}{K:bL}{a':Act}(C:Et t cb cU p2 B eh)(h:af 96 K a W)(hi:Cw K (ox t cb cU p2 p4 kC k i cK cs))(a7:a'.tmps.size=96)(hs:∀s,s<9->a'.tmps[s]?=a.tmps[s]?)(hb:Below B eh W')(e:ai W' cK c 53):af 96 (a2 (ox t cb cU p2 p4 kC k i cK c)) a' W':=by
 obtain⟨j,g,f,n,m,l,d,-⟩:=hi;have hb:=C.eq▸hb;refine h.zx a7 λp b=>?_;simp[ox]at b;rcases b with rfl|rfl|rfl|rfl|rfl|rfl|rfl
 .exact⟨hs 1 AX,_,j,λv hv=>⟨hv.1,hv.1▸(dO 1 lS cb).fZ _ _ _ hb C.f1⟩⟩
 .exact⟨hs 2 AX,_,g,λv hv=>⟨hv.1,hv.1▸(eD t).fZ _ _ _ hb C.ir⟩⟩
 .exact⟨hs 4 AX,_,f,λv hv=>hv⟩
 .exact⟨hs 5 AX,_,n,λv hv=>hv⟩
 .exact⟨hs 6 AX,_,m,λv hv=>hv⟩
 .exact⟨hs 7 AX,_,l,λv hv=>⟨hv.1,e⟩⟩
 .exact⟨hs 8 AX,_,d,λv hv=>hv⟩
variable{c:aG}{ks ks':il}{Q:uag}
def ayY{k i j cK:Nat}{y:Bool}{B:Nat}{eh:aS}{bj:Value}(C:Et t cb cU p2 B eh)(hk:t[k]?=some c)(H:cb[i]?=some ((j:Nat):Int))(I:c.dk[j]?=some y)(hn:p5.length+1<=1000000)(hS:pZ B W cK c.kind c.bV bj vs aY xi xs p5)(q:Below B eh W)(J:af 96 (a2 (ox t cb cU p2 p4 kC k i cK #[.I c.kind,.I c.bV,bj,vs,aY])) a W)(kk:∀a' W' v2,pZ B W' cK c.kind c.bV bj vs v2 xi xs (p5++[.bool y])->af 96 (a2 (ox t cb cU p2 p4 kC k i cK #[.I c.kind,.I c.bV,bj,vs,v2])) a' W'->a'.defers=a.defers->Below B eh W'->bI (ae prog true) ks ks' Q a' W'):bI (ae prog true) (.code (.region 9 (av f11 9) true)::ks) ks' Q a W:=by
 rw[ph (av f11 9)];refine wR (m:=15) J (dq Y (PM Y Y AX Y)<|dq Y (KR Y Y AX)<|dq Y (Er Y Y)<|dq Y JV<|dq Y JU<|dq Y LK<|dq Y KM<|dq Y JV<|dq Y (GC Y Y)<|dq Y JU<|dq Y (ee Y Y Y (H) AX)<|dq Y Jp<|dq Y (ee Y Y Y (I) AX)<|dq Y KP<|dq Y (ayL Y Y)<|rfl) Y xn AJ λS h r K z=>?_;have d:=hS.below z;have v:Below B eh h:=q.trans (z.mono (vad (vbr C.eq) q.size));have o:B<=h.heap.size:=vad (vbr C.eq) v.size;refine PO (i:=15) (B:=B) (n:=p5.length) (b:=cK) (f:=4) (sb:=7) (zm:=53) (cs:=#[.I c.kind,.I c.bV,bj,vs,aY]) H5 Y Y Y Y Y Y Y Y Y Y (λev w e=>Ap) (λev w T n cc hb R P=>FV) AX r Y Y Y d.on Y FN hn AX o AX λL g v2 r1 g1 l E A D=>⟨Y,?_⟩;have F:Below B h g:=KS d.on g1 o;have u:Below B eh (g.setCell ⟨cK,4,none⟩ v2):=v.trans (F.trans ((vaa B g).setCell (p:=⟨cK,4,none⟩) hS.lo _));have x:ai (g.setCell ⟨cK,4,none⟩ v2) cK #[.I c.kind,.I c.bV,bj,vs,v2] 53:=l.set 4 v2;refine kk L _ v2 ⟨hS.lo,x,xm (Hg d.cn d.on AX g1) l AX _ _,xm (Hg d.os d.on AX g1) l AX _ _,by grind[xm]⟩ (ox.zx C r ⟨Y,Y,Y,Y,Y,Y,Y,PJ⟩ A (λs hs=>E s AP AP) u x) (D.trans K) u
def ayZ{k i j cK:Nat}{y:ByteArray}{B:Nat}{eh:aS}{bj:Value}(C:Et t cb cU p2 B eh)(hk:t[k]?=some c)(H:cb[i]?=some ((j:Nat):Int))(I:c.eF[j]?=some y)(hn:xs.length+1<=1000000)(hS:pZ B W cK c.kind c.bV bj vs aY xi xs p5)(q:Below B eh W)(J:af 96 (a2 (ox t cb cU p2 p4 kC k i cK #[.I c.kind,.I c.bV,bj,vs,aY])) a W)(kk:∀a' W' v2,pZ B W' cK c.kind c.bV bj v2 aY xi (xs++[.string y]) p5->af 96 (a2 (ox t cb cU p2 p4 kC k i cK #[.I c.kind,.I c.bV,bj,v2,aY])) a' W'->a'.defers=a.defers->Below B eh W'->bI (ae prog true) ks ks' Q a' W'):bI (ae prog true) (.code (.region 11 (av f11 11) true)::ks) ks' Q a W:=by
 rw[ph (av f11 11)];refine wR (m:=15) J (dq Y (PM Y Y AX Y)<|dq Y (KR Y Y AX)<|dq Y (Er Y Y)<|dq Y JV<|dq Y JU<|dq Y LK<|dq Y LH<|dq Y JV<|dq Y (GC Y Y)<|dq Y JU<|dq Y (ee Y Y Y (H) AX)<|dq Y Jp<|dq Y (ee Y Y Y (I) AX)<|dq Y (ck Y Y (Uw _) AX)<|dq Y (ayK Y Y)<|rfl) Y xn AJ λS h r K z=>?_;have d:=hS.below z;have v:Below B eh h:=q.trans (z.mono (vad (vbr C.eq) q.size));have o:B<=h.heap.size:=vad (vbr C.eq) v.size;refine PO (i:=15) (B:=B) (n:=xs.length) (b:=cK) (f:=3) (sb:=7) (zm:=53) (cs:=#[.I c.kind,.I c.bV,bj,vs,aY]) QW Y Y Y Y Y Y Y Y Y Y (λev w e=>Ap) (λev w T n cc hb R P=>FV) AX r Y Y Y d.os Y FN hn AX o AX λL g v2 r1 g1 l E A D=>⟨Y,?_⟩;have F:Below B h g:=KS d.os g1 o;have u:Below B eh (g.setCell ⟨cK,3,none⟩ v2):=v.trans (F.trans ((vaa B g).setCell (p:=⟨cK,3,none⟩) hS.lo _));have x:ai (g.setCell ⟨cK,3,none⟩ v2) cK #[.I c.kind,.I c.bV,bj,v2,aY] 53:=l.set 3 v2;refine kk L _ v2 ⟨hS.lo,x,xm (Hg d.cn d.os AX g1) l AX _ _,by grind[xm],xm (Hg d.on d.os AX g1) l AX _ _⟩ (ox.zx C r ⟨Y,Y,Y,Y,Y,Y,Y,PJ⟩ A (λs hs=>E s AP AP) u x) (D.trans K) u
def ay0{k i j cK:Nat}{y:Int}{B:Nat}{eh:aS}{bj:Value}(C:Et t cb cU p2 B eh)(hk:t[k]?=some c)(H:cb[i]?=some ((j:Nat):Int))(I:c.fU[j]?=some y)(hn:xi.length+1<=1000000)(hS:pZ B W cK c.kind c.bV bj vs aY xi xs p5)(q:Below B eh W)(J:af 96 (a2 (ox t cb cU p2 p4 kC k i cK #[.I c.kind,.I c.bV,bj,vs,aY])) a W)(kk:∀a' W' v2,pZ B W' cK c.kind c.bV v2 vs aY (xi++[.I y]) xs p5->af 96 (a2 (ox t cb cU p2 p4 kC k i cK #[.I c.kind,.I c.bV,v2,vs,aY])) a' W'->a'.defers=a.defers->Below B eh W'->bI (ae prog true) ks ks' Q a' W'):bI (ae prog true) (.code (.region 12 (av f11 12) true)::ks) ks' Q a W:=by
 rw[ph (av f11 12)];refine wR (m:=15) J (dq Y (PM Y Y AX Y)<|dq Y (KR Y Y AX)<|dq Y (Er Y Y)<|dq Y JV<|dq Y JU<|dq Y LK<|dq Y KY<|dq Y JV<|dq Y (GC Y Y)<|dq Y JU<|dq Y (ee Y Y Y (H) AX)<|dq Y Jp<|dq Y (ee Y Y Y (I) AX)<|dq Y Jp<|dq Y (ayJ Y Y)<|rfl) Y xn AJ λS h r K z=>?_;have d:=hS.below z;have v:Below B eh h:=q.trans (z.mono (vad (vbr C.eq) q.size));have o:B<=h.heap.size:=vad (vbr C.eq) v.size;refine PO (i:=15) (B:=B) (n:=xi.length) (b:=cK) (f:=2) (sb:=7) (zm:=53) (cs:=#[.I c.kind,.I c.bV,bj,vs,aY]) QV Y Y Y Y Y Y Y Y Y Y (λev w e=>Ap) (λev w T n cc hb R P=>FV) AX r Y Y Y d.cn Y FN hn AX o AX λL g v2 r1 g1 l E A D=>⟨Y,?_⟩;have F:Below B h g:=KS d.cn g1 o;have u:Below B eh (g.setCell ⟨cK,2,none⟩ v2):=v.trans (F.trans ((vaa B g).setCell (p:=⟨cK,2,none⟩) hS.lo _));have x:ai (g.setCell ⟨cK,2,none⟩ v2) cK #[.I c.kind,.I c.bV,v2,vs,aY] 53:=l.set 2 v2;refine kk L _ v2 ⟨hS.lo,x,by grind[xm],xm (Hg d.os d.cn AX g1) l AX _ _,xm (Hg d.on d.cn AX g1) l AX _ _⟩ (ox.zx C r ⟨Y,Y,Y,Y,Y,Y,Y,PJ⟩ A (λs hs=>E s AP AP) u x) (D.trans K) u
def kE(l:uaa):List Int:=l.map λ(j:Nat)=>(j:Int)
def m8(l:uaa):(kE l).length=l.length:=by simp[kE]
def nQ(c:aG)(l:uaa):List Value:=if c.kind=3 then []else l.map λj=>.I (c.fU.getD j 0)
def nR(c:aG)(l:uaa):List Value:=if c.kind=3 then l.map λj=>.string (c.eF.getD j ko)else []
def qS(c:aG)(l:uaa):List Value:=l.map λj=>.bool (c.dk.getD j false)
def ay1(c:aG)(l:uaa):(nQ c l).length<=l.length/\(nR c l).length<=l.length/\(qS c l).length=l.length:=by grind[nQ,nR,qS]
def Eu(c:aG)(j:Nat):Prop:=j<c.dk.length/\(c.kind=3->j<c.eF.length)/\(¬c.kind=3->j<c.fU.length)
def getD_some{ao:Type}{l:List ao}{j:Nat}(h:j<l.length)(d:ao):l[j]?=some (l.getD j d):=by simp[h]
def ay2{want:uaa}{k cK:Nat}{B:Nat}{eh:aS}(C:Et t (kE want) cU p2 B eh)(hk:t[k]?=some c)(N:∀j∈want,Eu c j)(hl:want.length<=1000)(kk:∀a' W' bj vs aY,pZ B W' cK c.kind c.bV bj vs aY (nQ c want) (nR c want) (qS c want)->af 96 (a2 (ox t (kE want) cU p2 p4 kC k want.length cK #[.I c.kind,.I c.bV,bj,vs,aY])) a' W'->a'.defers=[]->Below B eh W'->bI (ae prog true) ks ks' Q a' W'):
 ∀m i a W bj vs aY,i+m=want.length->pZ B W cK c.kind c.bV bj vs aY (nQ c (want.take i)) (nR c (want.take i)) (qS c (want.take i))->af 96 (a2 (ox t (kE want) cU p2 p4 kC k i cK #[.I c.kind,.I c.bV,bj,vs,aY])) a W->a.defers=[]->Below B eh W->bI (ae prog true) (.code (Hh f11):: .inLoop (Hh f11):: .inBlock 2::ks) ks' Q a W:=by
 intro m;induction m with
 |zero=>
  intro i a W bj vs aY hi hS r hd hb;obtain rfl:i=want.length:=AP;have g:¬((want.length:Nat):Int)<((kE want).length:Int):=by rw[m8];omega
  unfold Hh;refine bm (bm ?_);rw[ph (av f11 7)];refine cD r (aq rfl JU<|aq rfl (GC rfl rfl)<|aq rfl J9<|aq rfl (vE rfl rfl rfl AX g)<|rfl) λa1 w1 n d1 b1=>?_;have u:Below B eh w1:=hb.trans (b1.mono (vad (vbr C.eq) hb.size));rw[List.take_length]at hS;have y:=hS.below b1;exact fj (t:=false) (j0 n rfl) (va (rz:=ks) D2 (kk a1 w1 bj vs aY y (n.aU ⟨rfl,rfl,rfl,rfl,rfl,rfl,rfl,PJ⟩) (d1.trans hd) u))
 |succ m M=>
  intro i a W bj vs aY hi hS r hd hb;have z:i<want.length:=AP;have g:(i:Int)<((kE want).length:Int):=by rw[m8];omega
  have v:=N _ (vax z);have E:want.take (i+1)=want.take i++[want[i]]:=(List.take_append_getElem z).symm;have hlen:(want.take i).length<=1000:=AA;have V:=ay1 c (want.take i);have w:(kE want)[i]?=some ((want[i]:Nat):Int):=by simp[kE,z]
  unfold Hh;refine bm (bm ?_);rw[ph (av f11 7)];refine cD r (aq rfl JU<|aq rfl (GC rfl rfl)<|aq rfl J9<|aq rfl (zb rfl rfl rfl AX g)<|rfl) λa1 w1 n d1 b1=>?_;have u:Below B eh w1:=hb.trans (b1.mono (vad (vbr C.eq) hb.size));have y:=hS.below b1;refine fj (t:=true) (j0 n rfl) (lN (bm (ln (bm ?_))));refine ayY C hk w (getD_some v.1 false) AP y u (n.aU ⟨rfl,rfl,rfl,rfl,rfl,rfl,rfl,PJ⟩) λbc Z v2 K L T I=>bm ?_;rw[ph (av f11 10)];refine cD L (aq rfl (PM rfl rfl AX rfl)<|aq rfl (ayI rfl rfl)<|aq rfl KO<|rfl) λU A l p H=>?_;have D:Below B eh A:=I.trans (H.mono (vad (vbr C.eq) I.size));have J:=K.below H;have Y:=j0 l rfl (s:=54);have l:af 96 (a2 (ox t (kE want) cU p2 p4 kC k i cK #[.I c.kind,.I c.bV,bj,vs,v2])) U A:=l.aU ⟨rfl,rfl,rfl,rfl,rfl,rfl,rfl,PJ⟩;have p:=p.trans (T.trans (d1.trans hd));have dK:∀f b bj vs aY,pZ B b cK c.kind c.bV bj vs aY (nQ c (want.take (i+1))) (nR c (want.take (i+1))) (qS c (want.take (i+1)))->af 96 (a2 (ox t (kE want) cU p2 p4 kC k i cK #[.I c.kind,.I c.bV,bj,vs,aY])) f b->f.defers=[]->Below B eh b->bI (ae prog true) (.inBlock 3:: .code (.region 8 (av f11 8) false):: .inLoop (Hh f11):: .inBlock 2::ks) ks' Q f b:=by intro f b bj vs aY x h o a8;refine tT ?_;rw[ph (av f11 8)];refine cD h Jr λR er F S bt=>wN ?_;have e:((i:Int)+1)=((i+1:Nat):Int):=AP;rw[e]at F;exact M (i+1) R er bj vs aY AP (x.below bt) (F.aU ⟨rfl,rfl,rfl,rfl,rfl,rfl,rfl,PJ⟩) (S.trans o) (a8.trans (bt.mono (vad (vbr C.eq) a8.size)))
  have X:qS c (want.take (i+1))=qS c (want.take i)++[.bool (c.dk.getD want[i] false)]:=by grind[qS]
  by_cases d:c.kind=3
  .refine fj (t:=true) AA ?_;rw[vby rfl];refine ayZ C hk w (getD_some (v.2.1 d) ko) AP J D l λf b q x h o a8=>dK f b bj q v2 ?_ h (o.trans p) a8;have P:nQ c (want.take (i+1))=nQ c (want.take i):=by simp[nQ,d]
   have O:nR c (want.take (i+1))=nR c (want.take i)++[.string (c.eF.getD want[i] ko)]:=by rw[E,nR,nR,vby d,vby d,vcr];rfl
   grind
  .refine fj (t:=false) AA ?_;rw[vbq AX];refine ay0 C hk w (getD_some (v.2.2 d) 0) AP J D l λf b q x h o a8=>dK f b q vs v2 ?_ h (o.trans p) a8;have P:nR c (want.take (i+1))=nR c (want.take i):=by simp[nR,d]
   have O:nQ c (want.take (i+1))=nQ c (want.take i)++[.I (c.fU.getD want[i] 0)]:=by rw[E,nQ,nQ,vbq d,vbq d,vcr];rfl
   grind
variable{db:aS}{b7 bq v:Value}
section
section
variable{N:Nat}{K:bL}{o:Oper}{F:bb}{x y z:uar}{s:Nat}{B:Nat}
def ay3{m n:Int}(a:o.op=.build 53 #[(0,x),(1,y)])(e:bh K x (a5 m))(d:bh K y (a5 n)):bF (ae prog true) N K o (e8 (.agg #[.I m,.I n,.N,.N,.N])):=y9 e d λev w c b=>⟨_,w,by
 have c:ev x=.I m:=c;have b:ev y=.I n:=b;cases o;simp only at a;subst a;go_simp,Y,vaa _ _⟩
def ay4(b:o.op=.alloc 53)(c:K s=some (rM B F)):bF (ae prog true) N K o (Us B #[.I 0,.I 0,.N,.N,.N] 53):=λa w hk=>by obtain⟨v,-,hb,-⟩:=hk.has s _ c;refine .inl ⟨.P w.heap.size 0,w.alloc (.cells #[.I 0,.I 0,.N,.N,.N] 53),?_,⟨w.heap.size,Y,hb,ai.new _ _ _⟩,(vaa _ w).alloc JT _⟩;cases o;simp only at b;subst b;go_simp
def m3(b:o.op=.alloc 27)(c:K s=some (rM B F)):bF (ae prog true) N K o (Us B #[.N] 27):=λa w hk=>by obtain⟨v,-,hb,-⟩:=hk.has s _ c;refine .inl ⟨.P w.heap.size 0,w.alloc (.cells #[.N] 27),?_,⟨w.heap.size,Y,hb,ai.new _ _ _⟩,(vaa _ w).alloc JT _⟩;cases o;simp only at b;subst b;go_simp
def ay5{b:Nat}{v0 v1 v2 v3 a:Value}(c:o.op=.load 53 x)(d:bh K x (xl b #[v0,v1,v2,v3,a] 53)):bF (ae prog true) N K o (e8 (.agg #[v0,v1,v2,v3,a])):=eb d λev w h=>by obtain⟨e,h⟩:=h;obtain⟨i,g,f⟩:=h.all;refine⟨_,w,?_,Y,vaa _ _⟩;cases o;simp only at c;subst c;go_simp
def ay6{b:Nat}(a:o.op=.load 27 x)(c:bh K x (xl b #[v] 27)):bF (ae prog true) N K o (e8 (.agg #[v])):=eb c λev w h=>by obtain⟨e,h⟩:=h;obtain⟨g,f,d⟩:=h.all;refine⟨_,w,?_,Y,vaa _ _⟩;cases o;simp only at a;subst a;go_simp
def ay7{m n:Int}{c a an:uan}{Hj ci f b Hk d:Nat}(g:o.op=.buildSlice 25 1 #[(0,x)])(i:bh K x (e8 (.agg #[.I m,.I n,.slice c Hj ci,.slice a f b,.slice an Hk d]))):bF (ae prog true) N K o (zl [.I m,.I n,.slice c Hj ci,.slice a f b,.slice an Hk d]):=eb i λev w h=>by
 have e:ev x=_:=h;refine⟨.S w.heap.size 0 1 1,w.alloc (.cells #[.I m,.I n,.slice c Hj ci,.slice a f b,.slice an Hk d] 53),?_,⟨w.heap.size,1,Y,λj v k=>?_⟩,(vaa _ w).alloc JT _⟩
 .cases o;simp only at g;subst g;go_simp
 simp_all
end
def V4{ao:Type}{R:aS->(Nat->Option Value)->ao->Prop}(l:∀w w' rd a x,(∀j v,rd j=some v->a j=some v)->R w rd x->R w' a x){w w':aS}{e:g4}(hk:∀(b:Nat) c z,w.heap[b]?=some (.cells c e z)->w'.heap[b]?=some (.cells c e z))(ht:oV w v e){xs:List ao}(h:aX w 1 R v xs):aX w' 1 R v xs/\oV w' v e:=by obtain⟨k,cap,rfl,d,g⟩:=h;refine⟨⟨k,cap,Y,d,λi hi=>?_⟩,λb hb=>by obtain⟨c,z,f⟩:=ht b hb;grind⟩;obtain⟨b,off,rfl,h⟩:=g i hi;refine⟨b,off,Y,l _ _ _ _ _ (λj v hv=>?_) h⟩;obtain⟨c,z,f⟩:=ht b Y;grind[World.cell?]
structure KX(W:aS)(bj vs aY:Value)(c:aG):Prop where
 is:tf W bj vs aY c
 GK:oV W bj 2
 ts:oV W vs 9
 m0:oV W aY 4
def KX.keep{bj:Value}(h:KX W bj vs aY c)(hk:∀e,e=2\/e=9\/e=4->∀(b:Nat) c z,W.heap[b]?=some (.cells c e z)->W'.heap[b]?=some (.cells c e z)):KX W' bj vs aY c:=by obtain⟨i,g⟩:=V4 (R:=qb) Lc (hk _ J1) h.GK h.is.fU;obtain⟨f,d⟩:=V4 (R:=Bo) (λ_ _ _ _ _ a h=>⟨a _ _ h.1,h.2⟩) (hk _ (.inr J1)) h.ts h.is.eF;obtain⟨n1,ey⟩:=V4 (R:=zC) Lc (hk _ (.inr KK)) h.m0 h.is.dk;exact⟨⟨i,f,n1⟩,g,d,ey⟩
structure Hl(B:Nat)(W:aS)(b:Nat)(b7:Value)(cells:uad)(iM:List aG):Prop where
 lo:B<=b
 box:ai W b #[b7] 27
 own:W.ownsRow B 53 5 b7 iM.length cells
 tP:∀j c,iM[j]?=some c->∃bj vs aY,(∀f,f<5->cells[j*5+f]?=[Value.int .i64 c.kind,.I c.bV,bj,vs,aY][f]?)/\KX W bj vs aY c
def Hl.below{B:Nat}{b:Nat}{cells:uad}{iM:List aG}(h:Hl B W b b7 cells iM)(hb:cJ W W'):Hl B W' b b7 cells iM:=
 ⟨h.lo,h.box.call hb,A0 h.own hb,λj c d=>by
  obtain⟨bj,vs,aY,g,f⟩:=h.tP j c d;exact⟨bj,vs,aY,g,f.keep λe _ b c z a=>(hb.block b AA).trans a⟩⟩
def PQ{B:Nat}{e:g4}{size:Nat}{n:Nat}(h:W.ownsRow B e size v n xs):oV W v e:=λb hb=>by obtain⟨c,hc⟩:=PN h hb;exact⟨c,_,hc⟩
def Hl.read{B:Nat}{b:Nat}{cells:uad}{iM:List aG}(h:Hl B W b b7 cells iM)(k:iM.length<=1000):ke W b7 iM:=by
 refine⟨?_,PQ h.own⟩;obtain⟨hc,⟨rfl,hn⟩|⟨g,cap,bd,rfl,hg,c,n,m,l,e⟩⟩:=id h.own
 .grind[aX.nil]
 .refine⟨some ⟨g,0,none⟩,cap,Y,AP,λi hi=>⟨g,0,Y,?_⟩⟩;obtain⟨bj,vs,aY,j,a⟩:=h.tP i iM[i] (vag hi);have rd:∀f,f<5->W.cell? (.a g (0+i*5+f))=[Value.int .i64 iM[i].kind,.I iM[i].bV,bj,vs,aY][f]?:=λf d=>by rw[(ai.rules (show ai W g bd _ from c)).1,<-j f d,<-e,List.getElem?_take,vby AP,Array.getElem?_toList];grind
  exact⟨bj,vs,aY,rd 0 AX,rd 1 AX,rd 2 AX,rd 3 AX,rd 4 AX,a.is,a.GK,a.ts,a.m0⟩
def pZ.ay8{B:Nat}{b:Nat}{bj:Value}{want:uaa}(h:pZ B W b c.kind c.bV bj vs aY (nQ c want) (nR c want) (qS c want))(hs:∀s∈c.eF,s.size<=1000):KX W bj vs aY (nP c want):=by
 refine⟨⟨?_,?_,?_⟩,PQ h.cn,PQ h.os,PQ h.on⟩
 .refine x7 h.cn (by grind[nP,nQ]) λi hi rd h0=>?_;unfold nQ at h0;unfold nP at hi⊢;simp only at hi⊢;by_cases a:c.kind=3
  .grind
  .simp only[a,vee,List.getElem_map]at h0⊢;exact h0
 .refine x7 h.os (by grind[nP,nR]) λi hi rd h0=>?_;unfold nR at h0;unfold nP at hi⊢;simp only at hi⊢;by_cases a:c.kind=3
  .simp only[a,vdh,List.getElem_map]at h0⊢;refine⟨h0,?_⟩;have:(c.eF.getD (want[i]'AA) ko).size<=1000:=by rw[vel];cases d:c.eF[(want[i]'AA)]? with|none=>decide|some s=>grind
   omega
  grind
 .refine x7 h.on (by unfold nP qS;simp) λi hi rd h0=>?_;simp only[qS,nP,List.getElem_map]at h0⊢;exact h0
structure s3(t:List aG)(want:uaa)(db:aS)(cU bq:Value)(b2 a8 bt:Nat)(k:Nat)(W:aS)(b7:Value)(cells:uad):Prop where
 A2:cJ db W
 f1:(dO 1 lS (kE want)).R db cU
 ir:ke db bq t
 ed:ai W b2 #[bq] 27
 l4:ai W a8 #[.N] 27
 ey:b2≠bt
 oz:db.heap.size<=a8/\a8≠bt
 out:Hl db.heap.size W bt b7 cells ((t.take k).map (nP · want))
def s3.iB{want:uaa}{a a8 bt k:Nat}{cells:uad}(h:s3 t want db cU bq a a8 bt k W b7 cells):(eD t).R W (.P a 0):=⟨a,bq,Y,vav _,h.ed,ke.kept (AM h.A2) h.ir⟩
theorem s3.below{want:uaa}{a a8 bt k:Nat}{cells:uad}(h:s3 t want db cU bq a a8 bt k W b7 cells)(hb:cJ W W'):s3 t want db cU bq a a8 bt k W' b7 cells:=
 ⟨h.A2.trans (hb.mono h.A2.size),h.f1,h.ir,h.ed.call hb,h.l4.call hb,h.ey,h.oz,h.out.below hb⟩
def A3(cU:Value)(b2 a8 bt k:Nat):List (Nat×bb):=[(1,e8 cU),(2,e8 (.P b2 0)),(4,e8 (.P a8 0)),(5,e8 (.P bt 0)),(6,a5 k)]
def Hm(t:List aG)(want:uaa)(B:Nat)(cU:Value)(b2 a8 bt k:Nat):List (Nat×bb):=[(1,sQ cU (dO 1 lS (kE want))),(2,sQ (.P b2 0) (eD t)),(4,rM B (e8 (.P a8 0))),(5,e8 (.P bt 0)),(6,a5 k)]
def s3.aD{want:uaa}{b a8 bt k:Nat}{cells:uad}(h:s3 t want db cU bq b a8 bt k W b7 cells)(hk:af 96 (a2 (A3 cU b a8 bt k)) a W):af 96 (a2 (Hm t want W.heap.size cU b a8 bt k)) a W:=by
 refine hk.zx hk.size λp c=>⟨Y,?_⟩;simp[Hm]at c;rcases c with rfl|rfl|rfl|rfl|rfl
 .exact⟨_,Y,λv hv=>⟨hv,hv▸(dO 1 lS (kE want)).fZ _ _ _ h.A2 h.f1⟩⟩
 .exact⟨_,Y,λv hv=>⟨hv,hv▸h.iB⟩⟩
 .exact⟨_,Y,λv hv=>⟨vac _,hv⟩⟩
 .exact⟨_,Y,λv hv=>hv⟩
 .exact⟨_,Y,λv hv=>hv⟩
def Hm.free{want:uaa}{B:Nat}{c a8 bt k:Nat}{K:bL}(hk:af 96 K a W)(hi:Cw K (Hm t want B cU c a8 bt k)):af 96 (a2 (A3 cU c a8 bt k)) a W':=by
 obtain⟨f,e,d,h,g,-⟩:=hi;refine hk.zx hk.size λp b=>⟨Y,?_⟩;simp[A3]at b;rcases b with rfl|rfl|rfl|rfl|rfl
 .exact⟨_,f,λv hv=>hv.1⟩
 .exact⟨_,e,λv hv=>hv.1⟩
 .exact⟨_,d,λv hv=>hv.2⟩
 .exact⟨_,h,λv hv=>hv⟩
 .exact⟨_,g,λv hv=>hv⟩
end
def ay_{want:uaa}{eh:aS}{d a8 bt k:Nat}{cells:uad}(hk:t[k]?=some c)(h:s3 t want db cU bq d a8 bt k eh b7 cells)(l:af 96 (a2 (A3 cU d a8 bt k)) a eh)(kk:∀a' W' cK,Et t (kE want) cU (.P d 0) eh.heap.size eh->pZ eh.heap.size W' cK c.kind c.bV (.N) (.N) (.N) [] [] []->af 96 (a2 ((7,xl cK #[.I c.kind,.I c.bV,.N,.N,.N] 53)::[(1,sQ cU (dO 1 lS (kE want))),(2,sQ (.P d 0) (eD t)),(4,e8 (.P a8 0)),(5,e8 (.P bt 0)),(6,a5 k)])) a' W'->a'.defers=a.defers->cJ eh W'->bI (ae prog true) ks ks' Q a' W'):bI (ae prog true) (.code (.region 5 (av f11 5) true)::ks) ks' Q a eh:=by
 have C:Et t (kE want) cU (.P d 0) eh.heap.size eh:=⟨Y,(dO 1 lS (kE want)).fZ _ _ _ h.A2 h.f1,h.iB⟩;have hg:=h.aD l;rw[ph (av f11 5)];refine wR (m:=14) hg (dq Y (Er Y Y)<|dq Y JV<|dq Y JU<|dq Y LK<|dq Y (hP Y Y AX Uu)<|dq Y Jp<|dq Y (Er Y Y)<|dq Y JV<|dq Y JU<|dq Y LK<|dq Y (hP Y Y AX Uv)<|dq Y Jp<|dq Y (ay3 Y Y Y)<|dq Y (ay4 Y (s:=4) Y)<|rfl) Y xn AJ λo f b n q=>?_;obtain⟨u7,r,cK,rfl,e,g⟩:=b.has 7 _ Y;obtain⟨u28,z,rfl⟩:=b.has 28 _ Y;have i:cJ eh (er f cK 0 (.I c.kind) (.I c.bV) (.N) (.N) (.N)):=q.trans (SJ f e _ _ _ _ _ _);have c8:ai (er f cK 0 (.I c.kind) (.I c.bV) (.N) (.N) (.N)) cK #[.I c.kind,.I c.bV,.N,.N,.N] 53:=ZA g 0 _ _ _ _ _;have u:Hid _:=g;obtain⟨y,x,w⟩:=g.all;clear g;show wpOps _ _ _ [14] _ _;refine tV (w1:=er f cK 0 (.I c.kind) (.I c.bV) (.N) (.N) (.N)) Y Y Y Ap ?_;refine kk o _ cK C ⟨e,c8,vbp _ _ _ _,vbp _ _ _ _,vbp _ _ _ _⟩ ?_ n i;refine af.of b.size λp j=>?_;simp at j;rcases j with rfl|rfl|rfl|rfl|rfl|rfl
 .exact⟨_,r,Y,c8⟩
 .exact b.get Y Y λv hv=>⟨hv.1,hv.1▸(dO 1 lS (kE want)).fZ _ _ _ i C.f1⟩
 .exact b.get Y Y λv hv=>⟨hv.1,hv.1▸(eD t).fZ _ _ _ i C.ir⟩
 .exact b.get Y Y λv hv=>hv.2
 .exact b.get Y Y λv hv=>hv
 .exact b.get Y Y λv hv=>hv
def W5{want:uaa}{eh:aS}{F a8 bt cK k i:Nat}{cells:uad}{bj:Value}(hk:t[k]?=some c)(ht:t.length<=1000)(hs:∀s∈c.eF,s.size<=1000)(h:s3 t want db cU bq F a8 bt k eh b7 cells)(hS:pZ eh.heap.size W cK c.kind c.bV bj vs aY (nQ c want) (nR c want) (qS c want))(hb:cJ eh W)(o:af 96 (a2 (ox t (kE want) cU (.P F 0) (.P a8 0) (.P bt 0) k i cK #[.I c.kind,.I c.bV,bj,vs,aY])) a W)(kk:∀a' W' V5 V6,s3 t want db cU bq F a8 bt (k+1) W' V5 V6->af 96 (a2 (A3 cU F a8 bt k)) a' W'->a'.defers=a.defers->bI (ae prog true) ks ks' Q a' W'):bI (ae prog true) (.code (.region 13 (av f11 13) false)::ks) ks' Q a W:=by
 have D:=h.below hb;have V7:k<t.length:=(vab.1 hk).1;obtain⟨P,ci,rfl⟩:=h9 hS.cn;obtain⟨N,O,rfl⟩:=h9 hS.os;obtain⟨an,S,rfl⟩:=h9 hS.on;have lP:af 96 (a2 [(5,xl bt #[b7] 27),(7,xl cK #[.I c.kind,.I c.bV,.slice P _ ci,.slice N _ O,.slice an _ S] 53),(1,e8 cU),(2,e8 (.P F 0)),(4,e8 (.P a8 0)),(6,a5 k)]) a W:=af.of o.size λp C=>by
  simp at C;rcases C with rfl|rfl|rfl|rfl|rfl|rfl
  .exact o.get rfl rfl λv hv=>⟨hv,D.out.box⟩
  .exact o.get rfl rfl λv hv=>hv
  .exact o.get rfl rfl λv hv=>hv.1
  .exact o.get rfl rfl λv hv=>hv.1
  .exact o.get rfl rfl λv hv=>hv
  .exact o.get rfl rfl λv hv=>hv
 rw[ph (av f11 13)];refine GF (m:=4) lP (aq rfl (ayH rfl rfl)<|aq rfl (KR rfl rfl AX)<|aq rfl (ay5 rfl rfl)<|aq rfl (ay7 rfl rfl)<|rfl) AX λbc u x d2 V=>?_;have kD:=hS.below V;have q:=D.below V;have R:db.heap.size<=u.heap.size:=q.A2.size;have U:((t.take k).map (nP · want)).length=k:=AA;have E:=q.out.own;refine PO (i:=4) (B:=db.heap.size) (n:=((t.take k).map (nP · want)).length) (b:=bt) (f:=0) (sb:=5) (zm:=27) (cs:=#[b7]) XB rfl rfl rfl rfl rfl rfl rfl rfl rfl rfl (λev w e=>Ap) (λev w bK n cc hb e1 e2=>by obtain⟨fx,g7,g8⟩:=hb.all;go_simp) AX x rfl rfl rfl E rfl FN AP AX R AX λbz r v2 r1 g1 c9 A X lQ=>rE ?_;have jg:Below db.heap.size u r:=KS E g1 R;have jv:Below db.heap.size u (r.setCell ⟨bt,0,none⟩ v2):=jg.trans ((vaa _ r).setCell (p:=⟨bt,0,none⟩) h.out.lo _);have J:∀{b:Nat}{cs:dp}{T:g4},ai u b cs T->T≠53->b≠bt->ai (r.setCell ⟨bt,0,none⟩ v2) b cs T:=λI J l=>(ai.grown I g1 λg hg e=>by subst e;exact VZ E I (Ne.symm J) hg).gx l _;have H:∀e,e≠53->e≠27->∀(b:Nat) c z,u.heap[b]?=some (.cells c e z)->(r.setCell ⟨bt,0,none⟩ v2).heap[b]?=some (.cells c e z):=λe h1 h2 b c z I=>by
  have K:b<u.heap.size:=AA;have l:b≠bt:=λL=>by subst L;have:=q.out.box;simp_all[ai]
  rw[vaq _ _ _ _ l,g1.block b K λL=>?_]
  .exact I
  .obtain⟨c',hc'⟩:=PN E L.symm;simp_all[ai]
 have n2:=(kD.ay8 hs).keep (W':=r.setCell ⟨bt,0,none⟩ v2) λe he=>H e AA AA;have hE:(t.take (k+1)).map (nP · want)=(t.take k).map (nP · want)++[nP c want]:=by grind[List.take_succ]
 have sC:cells.length=((t.take k).map (nP · want)).length*5:=E.1;refine kk bz _ v2 (cells++[.I c.kind,.I c.bV,.slice P (nQ c want).length ci,.slice N (nR c want).length O,.slice an (qS c want).length S]) ⟨q.A2.trans jv,h.f1,h.ir,J q.ed AX h.ey,J q.l4 AX h.oz.2,h.ey,h.oz,⟨h.out.lo,c9.set 0 v2,?_,λj d y=>?_⟩⟩ ?_ (lQ.trans d2)
 .grind[xm]
 .rw[hE]at y;rcases vdd j k with Y|Y
  .rw[List.getElem?_append_left AP]at y;obtain⟨M,Z,un,br,bn⟩:=q.out.tP j d y;refine⟨M,Z,un,λf hf=>?_,bn.keep λe he=>H e AA AA⟩;grind
  .rw[List.getElem?_append_right AP,U]at y;obtain rfl:j=k:=by grind
   rw[Nat.sub_self]at y;cases y;refine⟨_,_,_,λf hf=>?_,n2⟩;rw[List.getElem?_append_right AP,sC,U,Nat.add_sub_cancel_left];rfl
 .refine af.of X λp C=>?_;simp[A3]at C;rcases C with rfl|rfl|rfl|rfl|rfl
  .exact x.get rfl (A 1 AX AX) λv hv=>hv
  .exact x.get rfl (A 2 AX AX) λv hv=>hv
  .exact x.get rfl (A 4 AX AX) λv hv=>hv
  .exact x.get rfl (A 5 AX AX) λv hv=>hv.1
  .exact x.get rfl (A 6 AX AX) λv hv=>hv
def WX{N:Nat}{K:bL}{o:Oper}{F:bb}{x:uar}{s B:Nat}{b:uan}{n c:Nat}(d:o.op=.box 27 x)(f:bh K x (e8 (.agg #[.slice b n c])))(g:K s=some (rM B F)):bF (ae prog true) N K o (Us B #[.slice b n c] 27):=λa w hk=>by have e:=hk.ev f;obtain⟨v,-,hb,-⟩:=hk.has s _ g;unfold yf;generalize a.eval=ev at e⊢;have e:ev x=.agg #[.slice b n c]:=e;refine .inl ⟨.P w.heap.size 0,w.alloc (.cells #[.slice b n c] 27),?_,⟨w.heap.size,Y,hb,ai.new _ _ _⟩,(vaa _ w).alloc JT _⟩;cases o;simp only at d;subst d;go_simp
def WV{want:uaa}{d a8 bt:Nat}(ht:t.length<=1000)(hs:∀c∈t,∀s∈c.eF,s.size<=1000)(B:∀c∈t,∀j∈want,Eu c j)(D:want.length<=1000)(kk:∀a' W' b7 cells,s3 t want db cU bq d a8 bt t.length W' b7 cells->af 96 (a2 (A3 cU d a8 bt t.length)) a' W'->a'.defers=[]->bI (ae prog true) ks ks' Q a' W'):
 ∀m k a W b7 cells,k+m=t.length->s3 t want db cU bq d a8 bt k W b7 cells->af 96 (a2 (A3 cU d a8 bt k)) a W->a.defers=[]->bI (ae prog true) (.code (KV f11):: .inLoop (KV f11):: .inBlock 0::ks) ks' Q a W:=by
 intro m;induction m with
 |zero=>intro k a W b7 cells l g i hd;obtain rfl:k=t.length:=AP;have b:¬((t.length:Nat):Int)<((t.length:Nat):Int):=AP;unfold KV;refine bm (bm ?_);rw[ph (av f11 3)];refine cD (g.aD i) (aq rfl JU<|aq rfl (Er rfl rfl)<|aq rfl JV<|aq rfl J9<|aq rfl (vE rfl rfl rfl AX b)<|rfl) λa1 w1 f d1 b1=>?_;exact fj (t:=false) (j0 f rfl) (va (rz:=ks) D2 (kk a1 w1 b7 cells (g.below b1) (Hm.free f ⟨rfl,rfl,rfl,rfl,rfl,PJ⟩) (d1.trans hd)))
 |succ m A=>
  intro k a W b7 cells l g i hd;have q:k<t.length:=AP;have b:(k:Int)<(t.length:Int):=AP;have hk:t[k]?=some t[k]:=vag q;have o:=vax q;unfold KV;refine bm (bm ?_);rw[ph (av f11 3)];refine cD (g.aD i) (aq rfl JU<|aq rfl (Er rfl rfl)<|aq rfl JV<|aq rfl J9<|aq rfl (zb rfl rfl rfl AX b)<|rfl) λa1 w1 f d1 b1=>?_;have h:=g.below b1;refine fj (t:=true) (j0 f rfl) (lN (bm (ln (bm ?_))));refine ay_ hk h (Hm.free f ⟨rfl,rfl,rfl,rfl,rfl,PJ⟩) λY U cK C u x M d=>bm (bm ?_);rw[ph (av f11 6)];refine cD x (aq rfl (df (F:=a5 0) rfl Jd)<|rfl) λN r w L p=>ln (wM ?_);have AY:=u.below p;have V:nQ t[k] (want.take 0)=[]/\nR t[k] (want.take 0)=[]/\qS t[k] (want.take 0)=[]:=by simp[nQ,nR,qS]
  refine ay2 (cK:=cK) C hk (B _ o) D (λZ T bj vs aY S v K a8=>?_) want.length 0 N r _ _ _ (vbm _) AA (w.aU ⟨rfl,rfl,rfl,rfl,rfl,rfl,rfl,PJ⟩) (L.trans (M.trans (d1.trans hd))) (d.trans (p.mono d.size));refine W5 hk ht (hs _ o) h S a8 v λX er P O R H J=>tT ?_;rw[ph (av f11 4)];refine cD H Jr λy z n I E=>wN ?_;have e:((k:Int)+1)=((k+1:Nat):Int):=AP;rw[e]at n;exact A (k+1) y z P O AP (R.below E) (n.aU ⟨rfl,rfl,rfl,rfl,rfl,PJ⟩) (I.trans (J.trans K))
def WN(t:List aG)(want:uaa)(ht:t.length<=1000)(hs:∀c∈t,∀s∈c.eF,s.size<=1000)(U:∀c∈t,∀j∈want,Eu c j)(V:want.length<=1000)(v1 cU:Value)(w:aS)(X:ub t w v1)(W:(dO 1 lS (kE want)).R w cU):Calls (ae prog true) 11 #[v1,cU] w λe w'=>∃v,e=.returned v/\ub (A1 t want) w' v/\cJ w w':=by
 obtain⟨bq,rfl,i⟩:=X;obtain⟨⟨d,f,rfl,-,-⟩,-⟩:=id i;refine VY (ks:=[]) (bw (upd:=true) func11 AJ) ayX ?_;have hk:af 96 (a2 [(0,e8 (.agg #[.slice d t.length f])),(1,rM w.heap.size (e8 cU))]) ⟨#[.agg #[.slice d t.length f],cU]++Array.replicate (f11.ntmps-(#[.agg #[.slice d t.length f],cU]:dp).size) undef,[]⟩ w:=Uy (l:=[.agg #[.slice d t.length f],cU]) Ad BJ λp b=>by
  simp at b;rcases b with rfl|rfl
  .exact⟨_,rfl,rfl⟩
  .exact⟨cU,rfl,vac _,rfl⟩
 have hd:(⟨#[.agg #[.slice d t.length f],cU]++Array.replicate (f11.ntmps-(#[.agg #[.slice d t.length f],cU]:dp).size) undef,[]⟩:Act).defers=[]:=rfl;generalize(⟨#[.agg #[.slice d t.length f],cU]++Array.replicate (f11.ntmps-(#[.agg #[.slice d t.length f],cU]:dp).size) undef,[]⟩:Act)=a at hk hd;refine bm ?_;rw[ph (av f11 0)];refine cD hk (aq rfl (WX rfl rfl (s:=1) rfl)<|aq rfl (m3 rfl (s:=1) rfl)<|rfl) λa1 w1 o d1 b1=>bm ?_;obtain⟨u2,bn,A,rfl,aGc,ed⟩:=o.has 2 _ rfl;obtain⟨u4,O,a8,rfl,n,l4⟩:=o.has 4 _ rfl;have S:af 96 (a2 [(1,rM w1.heap.size (e8 cU)),(2,e8 (.P A 0)),(4,e8 (.P a8 0))]) a1 w1:=af.of o.size λp b=>by
  simp at b;rcases b with rfl|rfl|rfl
  .exact o.get rfl rfl λv hv=>⟨vac _,hv.2⟩
  .exact⟨_,bn,rfl⟩
  .exact⟨_,O,rfl⟩
 rw[ph (av f11 1)];refine cD S (aq rfl (m3 rfl (s:=1) rfl)<|rfl) λbc L g d2 x=>bm (bm ?_);obtain⟨u5,N,bt,rfl,aGd,M⟩:=g.has 5 _ rfl;have Y:af 96 (a2 [(1,e8 cU),(2,e8 (.P A 0)),(4,e8 (.P a8 0)),(5,e8 (.P bt 0))]) bc L:=af.of g.size λp b=>by
  simp at b;rcases b with rfl|rfl|rfl|rfl
  .exact g.get rfl rfl λv hv=>hv.2
  .exact g.get rfl rfl λv hv=>hv
  .exact g.get rfl rfl λv hv=>hv
  .exact⟨_,N,rfl⟩
 rw[ph (av f11 2)];refine cD Y (aq rfl (df (F:=a5 0) rfl Jd)<|rfl) λbz y Q d3 u=>ln (wM ?_);have l2:=ed.lt;have kF:=l4.lt;have lw:w.heap.size<=w1.heap.size:=b1.size;have J:cJ w y:=b1.trans ((x.mono b1.size).trans (u.mono (vad b1.size x.size)));have C:s3 t want w cU (.slice d t.length f) A a8 bt 0 y (.N) []:=⟨J,W,i,(ed.call x).call u,(l4.call x).call u,AP,⟨n,AP⟩,⟨AP,M.call u,vbp _ _ _ _,λj c hj=>AA⟩⟩;refine WV ht hs U V (λbO K b7 cells k z d4=>bm ?_) t.length 0 bz y _ _ (vbm _) C (Q.aU ⟨rfl,rfl,rfl,rfl,rfl,PJ⟩) (d3.trans (d2.trans (d1.trans hd)));have Ie:af 96 (a2 [(5,xl bt #[b7] 27),(4,e8 (.P a8 0))]) bO K:=af.of z.size λp b=>by
  simp at b;rcases b with rfl|rfl
  .exact z.get rfl rfl λv hv=>⟨hv,k.out.box⟩
  .exact z.get rfl rfl λv hv=>hv
 rw[ph (av f11 14)];refine GF (m:=1) Ie (aq rfl (ay6 rfl rfl)<|rfl) AX λdz er I d5 VB=>?_;have E:=k.below VB;obtain⟨u95,B,rfl⟩:=I.has 95 _ rfl;obtain⟨v4,Z,rfl⟩:=I.has 4 _ rfl;have h:=E.out.read AA;rw[List.take_length]at h;obtain⟨⟨q,r,rfl,-,-⟩,-⟩:=id h;rw[vcf]at B h;have D:=E.l4;have H:Hid _:=D;have P:Hid _:=h;obtain⟨fx,g7,g8⟩:=D.all;clear D h;show wpOps _ _ _ [1] _ _;refine tV (w1:=er.setCell ⟨a8,0,none⟩ (.slice q t.length r)) rfl rfl rfl Ap (wO (kf ⟨d5.trans d4,.agg #[.slice q t.length r],?_,⟨_,rfl,?_⟩,E.A2.trans ((vaa _ er).setCell (p:=⟨a8,0,none⟩) n _)⟩))
 .have T:=ai.set H.out 0 (.slice q t.length r);obtain⟨R,ml,n4⟩:=T.all;generalize er.setCell ⟨a8,0,none⟩ (.slice q t.length r)=jf at *;simp[results,results11,go_sem,Z,R]
 .exact ke.kept (hM.set H.out (by grind[pN]) _ _) P.out
end a3
namespace eC
open RowKit ax bS cq a3 zn
def jO(fm bE:aG)(i j:Nat):Bool:= !(fm.dk.getD i false)&& !(bE.dk.getD j false)&&(if fm.kind=3 then decide (fm.eF.getD i ko=bE.eF.getD j ko)else fm.fU.getD i 0==bE.fU.getD j 0)
def qT(p:ubh)(m n:Nat):List (Nat×Nat):=(List.range m).flatMap λi=>((List.range n).filter (p i)).map λj=>(i,j)
def Ww(u:cR):(si (i9 [u])).any id=u.dH:=by simp[si,i9,lB]
def Wu(u v:cR):wU (i9 [u]) (i9 [v])=true↔u=v:=by rw[F3];simp[i9]
def Wq{fm bE:aG}(hk:fm.kind=bE.kind)(hs:fm.bV=bE.bV){i j:Nat}(h:(hR fm i).dH=false):hR bE j=hR fm i↔jO fm bE i j=true:=by
 rw[m9]at h;unfold jO hR;rw[h,<-hk,<-hs];by_cases hn:bE.dk.getD j false=true
 .rw[hn];simp[sg];split<;>simp
 .have hn:bE.dk.getD j false=false:=by simpa using hn
  rw[hn];by_cases a:fm.kind=3
  .simp[a];exact eq_comm
  .simp[a];exact eq_comm
section
variable{bG iB:List aG}{k:Nat}{fm bE:aG}(ha:bG[k]?=some fm)(hb:iB[k]?=some bE)(hk:fm.kind=bE.kind)(hs:fm.bV=bE.bV)
include ha hb hk hs
theorem Wo(a i:Nat):nH [k] (ma [k] (hY iB 0 a)) (rowAt bG i).2=((List.range a).filter (jO fm bE i)).map (rowAt iB):=by
 have b:(rowAt bG i).2.getD k lB=hR fm i:=by simp[rowAt,vel,ha]
 have c:∀j,F7 [k] (rowAt iB j)=i9 [hR bE j]:=λj=>by simp[F7,rowAt,vel,hb]
 unfold nH;simp only[vdg,List.map_nil,b,Ww];by_cases hn:(hR fm i).dH=true
 .rw[vby hn];have:∀j,jO fm bE i j=false:=λj=>by rw[m9]at hn;simp only[jO,hn,vef,Bool.false_and]
  simp[this]
 .have hn:(hR fm i).dH=false:=by simpa using hn
  rw[vbq (by simp[hn])];unfold ma;rw[nh,List.filter_map];congr 1
  refine List.filter_congr λj _=>?_;have:wU (F7 [k] (rowAt iB j)) (i9 [hR fm i])=jO fm bE i j:=by rw[c,Bool.eq_iff_iff,Wu,Wq hk hs hn]
  exact this
theorem Wn(a b:Nat):sX bG iB a b k=(qT (jO fm bE) a b).map λp=>((rowAt bG p.1).1++(rowAt iB p.2).1,(rowAt bG p.1).2++(rowAt iB p.2).2):=by
 unfold sX eN qT;rw[vdx,List.take_length,nh bG a,List.flatMap_map,List.map_flatMap];congr 1
 funext i
 unfold CA;rw[Wo ha hb hk hs,List.map_map,List.map_map];rfl
end
def mS(rs:List fA)(h:rs.length<=40){k:Nat}(hk:k=0\/k=1\/k=3):Kv (ew rs) rs.length k (if k=3 then(3,0)else(1,0)):=by
 refine⟨Iz,AP,Iz,λi hi=>av0 rs hi,avZ rs h,?_,?_,λi hi c hc=>by have:=V1 rs hc i;omega⟩
 .rw[ayU];rcases hk with rfl|rfl|rfl<;>rfl
 .simp[ew];omega
