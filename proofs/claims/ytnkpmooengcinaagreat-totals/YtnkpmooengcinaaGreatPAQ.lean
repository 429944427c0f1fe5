import Derived.Test.YtnkpmooengcinaaGreatPAK
import Derived.Test.YtnkpmooengcinaaGreatPAM
set_option linter.all false
set_option maxRecDepth 100000
set_option maxHeartbeats 16000000
namespace Go.Proofs.YtnkpmooengcinaaGreat
open Go.Proofs.Tryz
namespace tM
open Conc RowKit Conc.Lib ConcR.Gen ConcM bn cW bM
section
section
variable{Shun:uan}{Stop:uax}{st:Nat}
variable{aY:Frame}{aF:Act}{az:eQ}{aI:Nat}{aK:uag}{aG:uab}{csZ:fA}
def am8{w:aH}{a:Addr}{v x:Value}(h:w.cell? a=some x):(w.setCell a v).cell? a=some v:=World.cell?_setCell_same _ _ _ h
def Zj{B:Nat}:oz Shun B ⟨.mark .disable,false,true⟩:=Lm AN _ _
def Zk{B:Nat}:oz Shun B ⟨.mark .enable,false,true⟩:=Lm AN _ _
def am9{B:Nat}(a:Addr):oz Shun B ⟨.mark (.acquire a),false,true⟩:=Lm AN _ _
def am_{B:Nat}(a:Addr):oz Shun B ⟨.mark (.releaseMerge a),false,true⟩:=Lm AN _ _
def Zl{w:aH}(f:w.cell? (.a st 0)=some (.int .i32 0))(h:w.frozen? ⟨st,0,none⟩=false)(l:Shun (.cell ⟨st,0,none⟩))(i:st<w.heap.size)(hk:er prog Shun Stop 0 (Conc.G (aY.at (aF.put ((az[aI]?).bind (·.dst)) (.tuple #[])) (.inRegion az aK::aG)) csZ) (w.setCell ⟨st,0,none⟩ (.int .i32 1))):
 er prog Shun Stop 0 (Conc.G ((base 81).at ⟨#[.P st 0,.U,.U,.U,.U,.U],[]⟩ [.code (f81.body.getD .skip)]) (aY.at aF (.inRegion az (aI::aK)::aG)::csZ)) w:=by
 have hF:=atRel_refl w;simp[f81];refine jz (R:=AtRel) IZ 300 _ _ ?_;repeat w_go cI
 u_call func105 Y3 f105 cI hF
 repeat w_go cI
 refine vaf (λc a=>?_);replace hF:=cI hF a;obtain⟨b,rfl⟩:=hF;clear a;refine mh U (w1:=w.at b) (λk=>vbs .disable Ab U U Ad U func62 Ce Cf Cg Ch) (by simp[Zj]) IB ?_;have hF:AtRel w (w.at b):=⟨b,U⟩;refine jz (R:=AtRel) IZ 300 _ _ ?_;walk_nrm
 repeat w_go cI
 refine vaf (λc a=>?_);replace hF:=cI hF a;obtain⟨b,rfl⟩:=hF;clear a;refine mh U (w1:=(w.at b).setCell ⟨st,0,none⟩ (.int .i32 1)) (λk=>stepG_cas_hit U U Ad U func117 yc yd ye .i32 yf U U U f h) ?_ (Nat.le_of_eq (ae.k6 _ _ _).symm) ?_
 .rw[ae.k6];intro e j;simp at j;rcases j with rfl|rfl<;>exact WO l i _
 have g:(w.setCell ⟨st,0,none⟩ (.int .i32 1)).cell? (.a st 0)=some (.int .i32 1):=am8 f;generalize fS:w.setCell ⟨st,0,none⟩ (.int .i32 1)=w2 at g hk;have hF:AtRel w2 ((w.at b).setCell ⟨st,0,none⟩ (.int .i32 1)):=⟨b,by rw[<-fS];rfl⟩;have hsz:w.heap.size=w2.heap.size:=by rw[<-fS,ae.k6]
 rw[hsz]at i;clear f h hsz;generalize(w.at b).setCell ⟨st,0,none⟩ (.int .i32 1)=w3 at hF⊢;show er prog Shun Stop 1 _ _;refine jz (R:=AtRel) IZ 300 _ _ ?_;walk_nrm
 repeat w_go cI
 refine vaf (λc a=>?_);replace hF:=cI hF a;obtain⟨d,rfl⟩:=hF;clear a;refine mh U (w1:=w2.at d) (λk=>vbs .enable Ab U U Ad U func63 qv qw qx qy) (by simp[Zk]) IB ?_;show er prog Shun Stop 0 _ _;have hF:AtRel w2 (w2.at d):=⟨d,U⟩;refine jz (R:=AtRel) IZ 300 _ _ ?_;walk_nrm
 repeat w_go cI
 refine vaf (λc a=>?_);replace hF:=cI hF a;obtain⟨d,rfl⟩:=hF;clear a;refine mh U (w1:=w2.at d) (λk=>FE U U Ad U U g) Ab IB ?_;show er prog Shun Stop 0 _ _;have hF:AtRel w2 (w2.at d):=⟨d,U⟩;refine jz (R:=AtRel) IZ 300 _ _ ?_;walk_nrm
 repeat w_go cI
 refine vaf (λc a=>?_);replace hF:=cI hF a;obtain⟨d,rfl⟩:=hF;clear a;refine mh U (w1:=w2.at d) (es:=#[⟨.mark (.acquire ⟨st,0,none⟩),false,true⟩]) (λk=>vck .acquire Ab U U Ad U func76 FA FB FC FD BF) (by simp[am9]) IB ?_;show er prog Shun Stop 0 _ _;have hF:AtRel w2 (w2.at d):=⟨d,U⟩;refine jz (R:=AtRel) IZ 300 _ _ ?_;walk_nrm
 repeat w_go cI
 u_leave0 func105 cI hF
 repeat w_go cI
 u_leave0 func81 cI hF
 refine vaf (λc a=>?_);replace hF:=cI hF a;obtain⟨m,rfl⟩:=hF;exact hk.at m
end
end
section
section
variable{Shun:uan}{Stop:uax}{st:Nat}
variable{aY:Frame}{aF:Act}{az:eQ}{aI:Nat}{aK:uag}{aG:uab}{csZ:fA}
def Zm{w:aH}{c:Frame}{cs:fA}(l:c.mode=.returning)(g:w.cell? (.a st 0)=some (.int .i32 1))(h:w.frozen? ⟨st,0,none⟩=false)(m:Shun (.cell ⟨st,0,none⟩))(i:st<w.heap.size)(hk:er prog Shun Stop 0 (Conc.G c cs) (w.setCell ⟨st,0,none⟩ (.int .i32 0))):
 er prog Shun Stop 0 (Conc.G ((baseD 82).at ⟨#[.P st 0,.U,.U,.U,.U,.U],[]⟩ [.code (f82.body.getD .skip)]) (c::cs)) w:=by
 have hF:=atRel_refl w;simp[f82];refine jz (R:=AtRel) IZ 300 _ _ ?_;repeat w_go cI
 u_call func106 Y4 f106 cI hF
 repeat w_go cI
 refine vaf (λb a=>?_);replace hF:=cI hF a;obtain⟨d,rfl⟩:=hF;clear a;refine mh U (w1:=w.at d) (λk=>Al U U Ad U U g Y5) Ab IB ?_;show er prog Shun Stop 0 _ _;have hF:AtRel w (w.at d):=⟨d,U⟩;refine jz (R:=AtRel) IZ 300 _ _ ?_;walk_nrm
 repeat w_go cI
 refine vaf (λb a=>?_);replace hF:=cI hF a;obtain⟨d,rfl⟩:=hF;clear a;refine mh U (w1:=w.at d) (λk=>FE U U Ad U U g) Ab IB ?_;show er prog Shun Stop 0 _ _;have hF:AtRel w (w.at d):=⟨d,U⟩;refine jz (R:=AtRel) IZ 300 _ _ ?_;walk_nrm
 repeat w_go cI
 refine vaf (λb a=>?_);replace hF:=cI hF a;obtain⟨d,rfl⟩:=hF;clear a;refine mh U (w1:=w.at d) (es:=#[⟨.mark (.releaseMerge ⟨st,0,none⟩),false,true⟩]) (λk=>vck .releaseMerge Ab U U Ad U func61 Ry Rz RA RB BF) (by simp[am_]) IB ?_;show er prog Shun Stop 0 _ _;have hF:AtRel w (w.at d):=⟨d,U⟩;refine jz (R:=AtRel) IZ 300 _ _ ?_;walk_nrm
 repeat w_go cI
 refine vaf (λb a=>?_);replace hF:=cI hF a;obtain⟨d,rfl⟩:=hF;clear a;refine mh U (w1:=w.at d) (λk=>vbs .disable Ab U U Ad U func62 Ce Cf Cg Ch) (by simp[Zj]) IB ?_;show er prog Shun Stop 1 _ _;have hF:AtRel w (w.at d):=⟨d,U⟩;refine jz (R:=AtRel) IZ 300 _ _ ?_;walk_nrm
 repeat w_go cI
 refine vaf (λb a=>?_);replace hF:=cI hF a;obtain⟨f,rfl⟩:=hF;clear a;refine mh U (w1:=(w.at f).setCell ⟨st,0,none⟩ (.int .i32 (IntKind.wrap .i32 (1+ -1)))) (λk=>vco U U Ad U func119 IK IL IM .i32 IN U U g h) ?_ (Nat.le_of_eq (ae.k6 _ _ _).symm) ?_
 .rw[ae.k6];intro e j;simp at j;rcases j with rfl|rfl<;>exact WO m i _
 rw[show IntKind.wrap .i32 (1+ -1)=0 from AX];generalize fS:w.setCell ⟨st,0,none⟩ (.int .i32 0)=w2 at hk;have hF:AtRel w2 ((w.at f).setCell ⟨st,0,none⟩ (.int .i32 0)):=⟨f,by rw[<-fS];rfl⟩;clear g h i;generalize(w.at f).setCell ⟨st,0,none⟩ (.int .i32 0)=w3 at hF⊢;show er prog Shun Stop 1 _ _;refine jz (R:=AtRel) IZ 300 _ _ ?_;walk_nrm
 repeat w_go cI
 refine vaf (λb a=>?_);replace hF:=cI hF a;obtain⟨d,rfl⟩:=hF;clear a;refine mh U (w1:=w2.at d) (λk=>vbs .enable Ab U U Ad U func63 qv qw qx qy) (by simp[Zk]) IB ?_;show er prog Shun Stop 0 _ _;have hF:AtRel w2 (w2.at d):=⟨d,U⟩;refine jz (R:=AtRel) IZ 300 _ _ ?_;walk_nrm
 repeat w_go cI
 u_leave0 func106 cI hF
 repeat w_go cI
 u_in cI hF
 refine I1 U U func82 U l ⟨Be,?_⟩;refine vaf (λb a=>?_);replace hF:=cI hF a;obtain⟨n,rfl⟩:=hF;exact hk.at n
end
end
end tM
namespace cv
open RowKit Shelf av bB
abbrev gg(w:aH)(b k:Nat)(cD a1 bA bR cu:Value):aH:=((((w.setCell ⟨b,k*5,none⟩ cD).setCell ⟨b,k*5+1,none⟩ a1).setCell ⟨b,k*5+2,none⟩ bA).setCell ⟨b,k*5+3,none⟩ bR).setCell ⟨b,k*5+4,none⟩ cu
variable{w:aH}{b:Nat}{cs:dC}{T:uaa}
def ar_(h:ag w b cs T)(k:Nat)(c a1 e d a:Value):ag (gg w b k c a1 e d a) b (rz cs k c a1 e d a) T:=((((h.set _ _).set _ _).set _ _).set _ _).set _ _
theorem NA(w:aH)(b k:Nat)(d a1 f e c:Value){x:Nat}(a:x≠b):(gg w b k d a1 f e c).heap[x]?=w.heap[x]?:=
 (vav _ _ _ _ a).trans ((vav _ _ _ _ a).trans ((vav _ _ _ _ a).trans ((vav _ _ _ _ a).trans (vav _ _ _ _ a))))
def asa(w:aH)(b k:Nat)(c a1 e d a:Value):KeepsOthers w (gg w b k c a1 e d a):=
 ((((vcx _ _ _).trans (vcx _ _ _)).trans (vcx _ _ _)).trans (vcx _ _ _)).trans (vcx _ _ _)
def asb(h:ag w b cs T){Y:ubh}(i:¬Y T)(k:Nat)(d a1 g f a:Value):iS Y w (gg w b k d a1 g f a):=
 ⟨BB,λx c e z j y=>by
  grind[ag,NA]⟩
variable{n:Nat}
def KH(w:aH)(hn:n<=b)(k:Nat)(c a1 e d a:Value):Below n w (gg w b k c a1 e d a):=
 (((((vaa n w).setCell (p:=⟨b,_,none⟩) hn _).setCell (p:=⟨b,_,none⟩) hn _).setCell (p:=⟨b,_,none⟩) hn _).setCell (p:=⟨b,_,none⟩) hn _).setCell (p:=⟨b,_,none⟩) hn _
variable{l:uah}{D:Nat->Nat->dM}{L:List gZ}
def vL.congr{m a:uas}(h:vL l D m L cs)(b:∀i,i<l.length->m i=a i):vL l D a L cs:=
 ⟨h.size,λi hi=>by rw[<-b i hi];exact h.jK i hi,h.D2⟩
def t_(t:ubu)(D:Nat->dM)(n:Nat):bQ:=
 ⟨t.1,t.2,if t.1=3 then []else(List.range n).map λr=>(D r).num,if t.1=3 then(List.range n).map λr=>(D r).text else [],(List.range n).map λr=>(D r).dN⟩
def sJ(l:uah)(D:Nat->Nat->dM)(n:Nat):List bQ:=(List.range l.length).map λi=>t_ (l[i]?.getD (0,0)) (D · i) n
variable{W:aH}{B:Nat}{e:uaa}{v:Value}
def TA{ao:Type}{R:aH->(Nat->Option Value)->ao->Prop}{xs:uam}{a:List ao}(h:W.ownsRow B e 1 v xs.length xs)(b:a.length=xs.length)(m:∀i(h:i<a.length),∀rd:Nat->Option Value,rd 0=some (xs[i]'(b▸h))->R W rd a[i]):bw W 1 R v a:=by
 obtain⟨-,⟨hv,hn⟩|⟨g,cap,bc,hv,-,k,j,n,-,d⟩⟩:=h
 .grind[bw.nil]
 .refine⟨_,_,by rw[hv,b],HY,λi hi=>⟨_,_,U,m i hi _ ?_⟩⟩;have f:i<xs.length:=b▸hi;have l:xs[i]?=some xs[i]:=vas f;have c:(bc.toList.take (xs.length*1))[i]?=xs[i]?:=by rw[d]
  rw[List.getElem?_take_of_lt AY,vdl]at c;have b0:ag W g bc e:=k;show W.cell? (.a g (0+i*1+0))=_;rw[b0.rules.1,show 0+i*1+0=i by omega,c,l]
def vM(w:aH)(v:Value)(e:uaa):Prop:=∀b,v.ownBlock=some b->∃c z,w.heap[b]?=some (.cells c e z)
def TB{xs:uam}(h:W.ownsRow B e 1 v n xs):vM W v e:=by
 intro b a;obtain⟨-,⟨hv,-⟩|⟨g,cap,bc,hv,-,c,-⟩⟩:=h
 .rw[hv]at a;cases a
 .rw[hv]at a;cases a;grind
def asc(w:aH)(rd:uar)(c:bQ):Prop:=
 ∃b9 vs bt,rd 0=some (.I c.kind)/\rd 1=some (.I c.cY)/\rd 2=some b9/\rd 3=some vs/\rd 4=some bt/\uE w b9 vs bt c/\vM w b9 2/\vM w vs 9/\vM w bt 4
def o5(w:aH)(v:Value)(t:List bQ):Prop:=bw w 5 asc v t/\vM w v 30
def o5.pN{t:List bQ}(h:o5 w v t):nV w v t:=by obtain⟨⟨l,cap,hv,a,j⟩,-⟩:=h;refine⟨l,cap,hv,a,λi hi=>?_⟩;obtain⟨b,off,c,b9,vs,k,h0,g,f,e,d,m,-⟩:=j i hi;exact⟨b,off,c,b9,vs,k,h0,g,f,e,d,m⟩
def sK(e:uaa):Prop:=e=30\/e=2\/e=9\/e=4
variable{w':aH}
theorem xJ(hk:iS sK w w'){l c:Nat}{off:Nat}(ht:vM w (.S b off l c) e)(a:sK e)(o:Nat):w'.cell? (.a b o)=w.cell? (.a b o):=by obtain⟨cs,z,h⟩:=ht b U;have:=hk.cells _ _ _ _ h a;grind[World.cell?]
def TC{ao:Type}{R:aH->(Nat->Option Value)->ao->Prop}(g:∀w w' rd a x,(∀j v,rd j=some v->a j=some v)->R w rd x->R w' a x)(hk:iS sK w w')(ht:vM w v e)(d:sK e){xs:List ao}(h:bw w 1 R v xs):bw w' 1 R v xs:=by obtain⟨c,cap,rfl,b,f⟩:=h;refine⟨c,cap,U,b,λi hi=>?_⟩;grind[xJ]
def o5.kept{t:List bQ}(hk:iS sK w w')(h:o5 w v t):o5 w' v t:=by
 obtain⟨⟨A,cap,rfl,n,u⟩,ht⟩:=h;have hd:∀{v e},sK e->vM w v e->vM w' v e:=λl h b p=>by obtain⟨c,z,d⟩:=h b p;exact⟨c,z,hk.cells _ _ _ _ d l⟩
 refine⟨⟨A,cap,U,n,λi hi=>?_⟩,hd Ij ht⟩;obtain⟨b,off,rfl,b9,vs,y,h0,d,s,r,q,f,k,j,g⟩:=u i hi;have key:∀o x,w.cell? (.a b o)=some x->w'.cell? (.a b o)=some x:=λo x m=>(xJ hk ht Ij o).trans m;exact⟨b,off,U,b9,vs,y,key _ _ h0,key _ _ d,key _ _ s,key _ _ r,key _ _ q,⟨TC (R:=q9) (λ_ _ _ _ _ a h=>a _ _ h) hk k (.inr Ij) f.k7,TC (R:=Ie) (λ_ _ _ _ _ a h=>⟨a _ _ h.1,h.2⟩) hk j (.inr AN) f.jC,TC (R:=BR) (λ_ _ _ _ _ a h=>a _ _ h) hk g (.inr AN) f.j_⟩,hd (.inr Ij) k,hd (.inr AN) j,hd (.inr AN) g⟩
variable{V:aH}{cf:Nat}
def asd(a:fh B V L)(o:vL l D (λ_=>n) L cs)(c:ag V cf cs 30)(v:l.length<=1000)(ht:∀r i,r<n->i<l.length->(D r i).text.size<=1000000):
 o5 V (.S cf 0 l.length l.length) (sJ l D n):=by
 have m:(sJ l D n).length=l.length:=by simp[sJ]
 refine⟨⟨_,_,by rw[m],AY,λi hi=>⟨_,_,U,?_⟩⟩,λb h=>by cases h;exact⟨_,_,c⟩⟩;rw[m]at hi;have p:(sJ l D n)[i]'AY=t_ l[i] (D · i) n:=by simp[sJ,hi]
 rw[p];obtain⟨b9,vs,e,s,a1,u,t,q,k,g,f⟩:=o.jK i hi;refine⟨b9,vs,e,?_,?_,?_,?_,?_,⟨?_,?_,?_⟩,TB (show V.ownsRow _ 2 1 b9 (oZ l[i].1 (D · i) n).length _ from a.at k),TB (show V.ownsRow _ 9 1 vs (o0 l[i].1 (D · i) n).length _ from a.at g),TB (show V.ownsRow _ 4 1 e (sI (D · i) n).length _ from a.at f)⟩
 .show V.cell? _=_;rw[c.rules.1,show 0+i*5+0=i*5 by omega,s];rfl
 .show V.cell? _=_;rw[c.rules.1,show 0+i*5+1=i*5+1 by omega,a1];rfl
 .show V.cell? _=_;rw[c.rules.1,show 0+i*5+2=i*5+2 by omega,u]
 .show V.cell? _=_;rw[c.rules.1,show 0+i*5+3=i*5+3 by omega,t]
 .show V.cell? _=_;rw[c.rules.1,show 0+i*5+4=i*5+4 by omega,q]
 .refine TA (show V.ownsRow _ 2 1 b9 (oZ l[i].1 (D · i) n).length _ from a.at k) ?_ ?_
  .grind[t_,oZ]
  .intro j d rd h0;by_cases hk:l[i].1=3
   .grind[t_]
   .simp[t_,oZ,hk]at h0⊢;exact h0
 .refine TA (show V.ownsRow _ 9 1 vs (o0 l[i].1 (D · i) n).length _ from a.at g) ?_ ?_
  .grind[t_,o0]
  .intro j d rd h0;by_cases hk:l[i].1=3
   .simp[t_,hk]at d;simp[t_,o0,hk]at h0⊢;exact⟨h0,AN⟩
   grind[t_]
 .refine TA (show V.ownsRow _ 4 1 e (sI (D · i) n).length _ from a.at f) ?_ ?_
  .simp[t_,sI]
  .intro j d rd h0;simp[t_,sI]at h0⊢;exact h0
section
@[simp] theorem ass:cS true 14:=cN (bo (upd:=true) func14 AT) AT
theorem ast(h:¬ry L b):∃i,∃(hi:i<L.length),L[i].v.ownBlock=some b:=vax λhn=>h λi hi hg=>AN
def xm{c:aH}{Y:ubh}(h:fh B W L)(hk:iS Y W c)(d:∀i(h:i<L.length),Y L[i].e):fh B c L:=h.kept λg hg=>by
 obtain⟨i,hi,a⟩:=ast hg;rcases(h.own i hi).2 with⟨hn,-⟩|⟨g',cap,bc,hv,-,b,-⟩
 .rw[hn]at a;cases a
 .rw[hv]at a;cases a;exact(hk.cells _ _ _ _ b (d i hi)).trans b.symm
def xk(h:e=2\/e=9\/e=4):¬sH e:=by unfold sH;grind
structure GF(B cf t4 t5:Nat)(l:uah)(D:Nat->Nat->dM)(m:uas)(V:aH)(L:List gZ)(cs:dC):Prop where
 oc:fh B V L
 at_:vL l D m L cs
 box:ag V cf cs 30
 cr:ag V t5 #[.S cf 0 l.length l.length] 39
 cH:ag V t4 #[.N] 41
def GF.NI{b a:Nat}{m:uas}{oC:aH}(h:GF B cf b a l D m V L cs)(hk:iS (λe=>¬sH e) V oC):GF B cf b a l D m oC L cs:=
 ⟨xm h.oc hk λi hi=>xk (h.at_.D2 i hi),h.at_,hk.cells _ _ _ _ h.box (by grind[sH]),hk.cells _ _ _ _ h.cr (by grind[sH]),hk.cells _ _ _ _ h.cH (by grind[sH])⟩
def o7(rs:List dg)(t i:Nat):dM:=((rs[t]?.map (·.2)).getD [])[i]?.getD uP
def asu(D:Nat->Nat->dM)(hs:cs.size=l.length*5)(a:DZ cs l l.length):vL l D (λ_=>0) ((List.range (3*l.length)).map λi=>⟨if i % 3=0 then 2 else if i % 3=1 then 9 else 4,.N,[]⟩) cs:=by
 refine⟨hs,λi hi=>?_,λi hi=>?_⟩
 .obtain⟨c,a1,e,d,b⟩:=a i hi hi;refine⟨_,_,_,c,a1,e,d,b,?_,?_,?_⟩
  .grind[oZ]
  .grind[o0]
  grind[sI]
 grind
def asv(B:Nat)(w:aH)(n:Nat)(e:Nat->TypeId):fh B w ((List.range n).map λi=>⟨e i,.N,[]⟩):=by
 refine⟨λi hi=>?_,λi j hi b g a hg=>?_⟩
 .grind[World.ownsRow_nil]
 grind[Value.ownBlock]
attribute [local go_sem] Oper.semAt_some
def asw(l:uah)(v:Value)(rs:List dg){gf:Nat}{lb:dC}(w:aH)(hv:gR w v l)(hl:l.length<=1000)(Ju:rs.length<=1000)(hlen:∀r∈rs,r.2.length=l.length)(GG:∀r∈rs,∀d∈r.2,d.text.size<=1000000)(ov:∀args w,(callFunc gf args).run (aa prog true) w=.ok (.enter gf args) w)(lV:∀n,Tv sH n (aa prog true) gf lb (Nw w rs) rs.length w.heap.size w):
 Calls (aa prog true) 14 #[v,.func (.func gf) #[] lb] w λe w'=>∃v',e=.returned (.agg #[v'])/\o5 w' v' (sJ l (o7 rs) rs.length)/\cC w w':=by
 obtain⟨ta,cL,rfl,-,-⟩:=id hv;have qs:Hid (gR w _ l):=hv;have xj:Hid _:=hlen;have xb:Hid _:=GG;clear hv hlen GG;refine(vea (n:=3)).1 ?_;refine vcm (bo (upd:=true) func14 AT) rfl trivial ?_;simp[vbb];gi_wp2_with (refine⟨PA,(vea.2 (arH l _ _ (qs.out.mono oH (bm.b4 ((vaa _ w).alloc AN _))) AY)).mono ?_⟩;rintro e w1 ⟨cf,cs0,rfl,dX,hsz,Mg,rY,bG⟩)
 have TG:ag w1 w.heap.size #[.N] 41:=(ag.new w _ _).call bG;have j5:cC w w1:=Below.step bG ((vaa _ w).alloc AN _) Ab;have aCZ:w.heap.size<w1.heap.size:=TG.lt;have cE:cC w1 (w1.alloc (.cells #[.S cf 0 l.length l.length] 39)):=(vaa _ w1).alloc AN _;have hst:GF (w1.heap.size+1) cf w.heap.size w1.heap.size l (o7 rs) (λ_=>0) (w1.alloc (.cells #[.S cf 0 l.length l.length] 39)) _ cs0:=⟨asv _ _ _ _,asu _ hsz Mg,dX.alloc _,ag.new _ _ _,TG.alloc _⟩;refine arK (n:=3) (gf:=gf) (lb:=lb) (w0:=w) (n₀:=w.heap.size) (N:=rs.length) (Row:=Nw w rs) rfl ov (lV _) (j5.trans (cE.mono AY)) BC
  (λt V=>∃L cs,GF (w1.heap.size+1) cf w.heap.size w1.heap.size l (o7 rs) (λ_=>t) V L cs)
  (λt V oC h hk=>by
   obtain⟨L,cs,h⟩:=h;exact⟨L,cs,h.NI hk⟩)
  AN
  (λt x a' V=>∃M pa fj pc y F u,ag V M #[.slice pa fj pc,.slice y F u] 67/\x=.agg #[.slice pa fj pc,.slice y F u]/\Nw w rs t V x/\∃z,a'={tmps:=#[.slice ta l.length cL,.func (.func gf) #[] lb,.U,.U,.P w.heap.size 0,.P w1.heap.size 0,.P M 0,.U,.U,.slice ta l.length cL,.S cf 0 l.length l.length,.func (.func gf) #[] lb,z,.U,.U,.U,.U,.U,.U,.U,.U,.U,.U,.U,.U,.U,.U,.U,.U,.U,.U,.U,.U],defers:=[]})
  (λt x a' V oC h hk=>by
   obtain⟨M,pa,fj,pc,y,F,u,h1,h2,⟨h3,p1,p2,p3,p4,DO,GH,TH⟩,h4⟩:=h;exact⟨M,pa,fj,pc,y,F,u,hk.cells _ _ _ _ h1,h2,⟨h3,p1,p2,p3,p4,DO,GH,λ_ _ _ s=>D1 hk (TH _ _ _ s)⟩,h4⟩)
  ?assign ?body ?done
 case assign=>
  rintro l' t x V K- -⟨D,pa,pc,y,u,rfl,sE,jT⟩ hK;gi_wp2
  have eu:cC V (V.alloc (.cells #[.slice pa rs[t].1.length pc,.slice y rs[t].2.length u] 67)):=(vaa _ V).alloc AN _;exact hK _ _ eu ⟨V.heap.size,_,_,_,_,_,_,ag.new V _ _,rfl,⟨D,pa,pc,y,u,rfl,sE,λ_ _ _ s=>bm.b4 eu _ _ _ (jT _ _ _ s)⟩,_,rfl⟩
 case body=>
  rintro l' t x a' V ⟨aC0,cs1,w6⟩ hlt ⟨M,pa,fj,pc,y,F,u,asx,rfl,⟨D,aC1,aC2,aC3,aC4,asy,sE,jT⟩,z,rfl⟩ iO;cases asy;have NJ:rs[t].2.length=l.length:=xj.out _ AN;have t7:Hid _:=sE;have TI:Hid _:=NJ;have asz:Hid _:=w6;have q:Hid (cf<w1.heap.size):=dX.lt;have TJ:Hid (w.heap.size<cf):=by unfold Hid;simp at rY;omega
  have asA:Hid _:=jT;obtain⟨c9,dF,eB⟩:=asx.all;clear sE NJ w6 jT lV hst dX cE j5 bG Mg hsz TG rY;gi_wp2
  gi_loopw [16] (λp wr=>∃(k:Nat)(L:List gZ)(cs:dC),k<=l.length/\p=.I k/\GF (w1.heap.size+1) cf w.heap.size w1.heap.size l (o7 rs) (λi=>if i<k then t+1 else t) wr L cs/\KeepsOthers V wr/\Below w.heap.size V wr/\iS sH V wr/\bm w wr)
   (λi _=>l.length-(intOf i).toNat)
  case atStart=>exact⟨0,_,_,vaz _,rfl,by simpa using asz.out,KeepsOthers.refl _,vaa _ _,.pS ⟨vad _,AN⟩,asA.out⟩
  case round=>
   obtain⟨k,L,cs,hk,rfl,E,sm,NK,tz,wS⟩:=hrel;have m:Hid _:=E;have aC5:w1.heap.size<wr.heap.size:=m.out.cr.lt;have wR:Hid (KeepsOthers V wr):=sm;have wP:Hid (Below w.heap.size V wr):=NK;have Z:Hid (iS sH V wr):=tz;have JU:Hid (bm w wr):=wS;clear E sm NK tz wS;by_cases wu:k<l.length
   .obtain⟨oK,aC6,NL,-,dk⟩:=id t7.out;cases NL;have asB:k<rs[t].2.length:=by have:=TI.out;omega
    obtain⟨b,off,rfl,d0,d1,d2,d3,-⟩:=dk k asB;simp at d0;have e0:=JU.out _ _ _ d0;have e1:=JU.out _ _ _ d1;have e2:=JU.out _ _ _ d2;have e3:=JU.out _ _ _ d3;have ld:=dx e0;have nj:(0:Int)<=(k:Int):=AY;have lX:(k:Int)<(l.length:Int):=AY;have hD:o7 rs t k=rs[t].2[k]:=by grind[o7]
    have X:Hid _:=hD;have pH:cC wr (wr.alloc (.cells #[.bool rs[t].2[k].dN,.I rs[t].2[k].num,.I rs[t].2[k].cY,.string rs[t].2[k].text] 84)):=(vaa _ wr).alloc AN _;have pR:Hid _:=pH;have a:Hid _:=m.out.NI (.pS (.below pH));have AM:Hid _:=ag.new wr #[.bool rs[t].2[k].dN,.I rs[t].2[k].num,.I rs[t].2[k].cY,.string rs[t].2[k].text] 84;have Bl:(rs[t].2.length:Int)=(l.length:Int):=by have:=TI.out;omega
    clear d0 d1 d2 d3 dk hD pH;gi_wp2
    have asC:Hid ((wr.alloc (.cells #[.bool rs[t].2[k].dN,.I rs[t].2[k].num,.I rs[t].2[k].cY,.string rs[t].2[k].text] 84)).heap.size=wr.heap.size+1):=by unfold Hid;simp
    clear e0 e1 e2 e3;generalize wr.alloc (.cells #[.bool rs[t].2[k].dN,.I rs[t].2[k].num,.I rs[t].2[k].cY,.string rs[t].2[k].text] 84)=j at *;obtain⟨b9,vs,F,cD,a1,bA,bR,cu,fQ,iR,mH⟩:=a.out.at_.jK k wu;obtain⟨p0,q0,rfl⟩:=qq (show j.ownsRow _ 2 1 b9 (oZ l[k].1 (o7 rs · k) _).length _ from a.out.oc.at fQ);obtain⟨p1,aQ,rfl⟩:=qq (show j.ownsRow _ 9 1 vs (o0 l[k].1 (o7 rs · k) _).length _ from a.out.oc.at iR);obtain⟨p2,aT,rfl⟩:=qq (show j.ownsRow _ 4 1 F (sI (o7 rs · k) _).length _ from a.out.oc.at mH);have im:=ar0 a.out.at_ (w:=j.drew) (B:=w1.heap.size+1) ⟨a.out.oc.own,a.out.oc.apart⟩ (by have:=a.out.cr.lt;simp;omega) wu AN (by simp;rw[X.out];exact xb.out _ (vdq D) _ AN) bA bR cu;simp only[Nat.lt_irrefl,vcj]at im;rw[X.out]at im;have HC:Hid _:=im;obtain⟨f1,f2,f3⟩:=a.out.box.all;have g0:j.cell? (.a cf (k*5))=_:=(f1 _).trans cD;have g1:j.cell? (.a cf (k*5+1))=_:=(f1 _).trans a1;have g2:j.cell? (.a cf (k*5+2))=_:=(f1 _).trans bA;have jb:j.cell? (.a cf (k*5+3))=_:=(f1 _).trans bR;have rn:j.cell? (.a cf (k*5+4))=_:=(f1 _).trans cu;obtain⟨asD,asE,asF⟩:=a.out.cr.all;obtain⟨gO,j3,asG⟩:=ag.all (show ag j wr.heap.size _ _ from AM.out);have U:∀w2,qM L j.drew w2->ag w2 cf cs 30/\ag w2 w1.heap.size #[.S cf 0 l.length l.length] 39/\ag w2 w.heap.size #[.N] 41:=λw2 hF=>
     ⟨(hF.block cf a.out.box.lt (a.out.oc.AI (.inr (by have:=q.out;omega)))).trans a.out.box,(hF.block _ a.out.cr.lt (a.out.oc.AI AN)).trans a.out.cr,(hF.block _ a.out.cH.lt (a.out.oc.AI AN)).trans a.out.cH⟩
    have m2:Hid _:=U;have I:Hid _:=a.out.at_.size;clear im cD a1 bA bR cu fQ iR mH f1 f2 U;refine KQ AU AU (AJ (C:=λW=>ag W w1.heap.size #[.S cf 0 l.length l.length] 39/\ag W wr.heap.size #[.bool rs[t].2[k].dN,.I rs[t].2[k].num,.I rs[t].2[k].cY,.string rs[t].2[k].text] 84) _ _ _ _ ?_);have H:Hid (ag j.drew w1.heap.size #[.S cf 0 l.length l.length] 39/\ag j.drew wr.heap.size #[.bool rs[t].2[k].dN,.I rs[t].2[k].num,.I rs[t].2[k].cY,.string rs[t].2[k].text] 84):=⟨a.out.cr,AM.out⟩;refine cR (i:=1) (v:=.I k) rfl AU AU AU IG H.out ⟨Av,λW _=>Ah,AN,λ_=>rfl⟩ ?_;refine cR (i:=3) (v:=.I k) rfl AU AU AU IG H.out ⟨Av,λW _=>Ah,AN,λ_=>rfl⟩ ?_;refine cR (i:=0) (v:=.S cf 0 l.length l.length) rfl AU AU AU IG H.out ⟨Av,λW J=>by obtain⟨cK,c_,hX⟩:=J.1.all;go_simp,AN,λ_=>rfl⟩ ?_;refine cR (i:=2) (v:=.S cf 0 l.length l.length) rfl AU AU AU IG H.out ⟨Av,λW J=>by obtain⟨cK,c_,hX⟩:=J.1.all;go_simp,AN,λ_=>rfl⟩ ?_;refine cR (i:=6) (v:=jZ rs[t].2[k]) rfl AU AU AU IG H.out ⟨Av,λW J=>by obtain⟨cK,c_,hX⟩:=J.2.all;go_simp,AN,λ_=>rfl⟩ ?_;refine js (i:=4) AU rfl λK hK=>?_;go_simp
    refine hK _ _ H.out ?_;clear hK K;refine js (i:=5) AU rfl λK hK=>?_;go_simp
    refine hK _ _ H.out ?_;clear hK K;refine js (i:=7) AU rfl λK hK=>?_;go_simp
    refine⟨PA,(vea.2 HC.out).mono ?_⟩;rintro e w2 ⟨r0,n0,cw,r1,n1,c1,r2,fx,cg,L',rfl,S,R,hF⟩;obtain⟨A,TK,Q⟩:=m2.out w2 hF;have TL:ag w2 wr.heap.size #[.bool rs[t].2[k].dN,.I rs[t].2[k].num,.I rs[t].2[k].cY,.string rs[t].2[k].text] 84:=(hF.block _ BB (Tz a.out.oc λc e z s i hi he=>by
     have f:ag j wr.heap.size _ _:=AM.out;unfold ag at f;rw[f]at s;cases s;rcases a.out.at_.D2 i hi with h|h|h<;>rw[h]at he<;>exact absurd he AX)).trans AM.out
    refine hK _ _ ⟨TK,TL⟩ ?_;clear hK K g0 g1 g2 jb rn asD asE asF gO j3 asG;have i0:w2.cell? (.a cf (k*5))=some (cs[k*5]'Ew):=FG;have i1:w2.cell? (.a cf (k*5+1))=some (cs[k*5+1]'Ew):=FG;have i2:w2.cell? (.a cf (k*5+2))=some (cs[k*5+2]'Ew):=FG;have i3:w2.cell? (.a cf (k*5+3))=some (cs[k*5+3]'Ew):=FG;have i4:w2.cell? (.a cf (k*5+4))=some (cs[k*5+4]'Ew):=FG;have i5:=A.rules.2;have P:Hid (ag w2 cf cs 30):=A;have TM:Hid (ag w2 w1.heap.size #[.S cf 0 l.length l.length] 39):=TK;have asH:Hid (ag w2 w.heap.size #[.N] 41):=Q;have O:Hid (ag w2 wr.heap.size #[.bool rs[t].2[k].dN,.I rs[t].2[k].num,.I rs[t].2[k].cY,.string rs[t].2[k].text] 84):=TL;have Fz:Hid _:=S;have D7:Hid _:=R;have TN:Hid _:=hF;clear A TK Q TL S R hF;refine js (i:=8) AU rfl λK hK=>?_;go_simp
    refine hK _ _ ⟨TM.out,O.out⟩ ?_;clear hK K;refine js (i:=9) AU rfl λK hK=>?_;go_simp
    refine hK _ _ ⟨((((TM.out.fL Bv _).fL Bv _).fL Bv _).fL Bv _).fL Bv _,((((O.out.fL Bv _).fL Bv _).fL Bv _).fL Bv _).fL Bv _⟩ ?_;clear hK K;refine AK AU ?_ _;clear i0 i1 i2 i3 i4 i5;have hA0:KeepsOthers wr w2:=(arJ pR.out).trans (by have f:=ar1 TN.out ⟨a.out.oc.own,a.out.oc.apart⟩;exact⟨f.size,f.same⟩);have hA1:iS sH wr w2:=(iS.pS (.below pR.out)).trans (by have f:=ar2 (Y:=sH) TN.out ⟨a.out.oc.own,a.out.oc.apart⟩ λi hi=>xk (a.out.at_.D2 i hi);exact⟨f.size,f.cells⟩);have hA2:Below w.heap.size wr w2:=(pR.out.mono AY).trans (by have f:=ar3 (n:=w.heap.size) TN.out ⟨a.out.oc.own,a.out.oc.apart⟩ AY (by have:=asC.out;simp;omega);exact⟨f.os,f.tape,f.output,f.size,f.block⟩);have asI:Hid _:=hA0;have asJ:Hid _:=hA1;have zR:Hid _:=hA2;clear hA0 hA1 hA2;gi_wp2
    go_roundw
    case rel=>
     refine⟨_,_,.I ((k:Int)+1),⟨k+1,AY,Ab,⟨L',rz cs k (.I l[k].1) (.I l[k].2) (.slice r0 n0 cw) (.slice r1 n1 c1) (.slice r2 fx cg),⟨?_,?_,?_,?_,?_⟩⟩,?_,?_,?_,?_⟩,rfl,rfl,rfl⟩
     .exact Fz.out.kept λg hg=>NA _ _ _ _ _ _ _ _ λe=>hg (e▸Fz.out.AI (.inr (by have:=q.out;omega)))
     .refine D7.out.congr λi hi=>?_;grind[w9]
     .exact ar_ P.out _ _ _ _ _ _
     .exact(NA _ _ _ _ _ _ _ _ (by have:=q.out;omega)).trans TM.out
     .exact(NA _ _ _ _ _ _ _ _ (by have:=TJ.out;omega)).trans asH.out
     .exact(wR.out.trans asI.out).trans (asa ..)
     .exact(wP.out.trans zR.out).trans (KH _ (by have:=TJ.out;omega) _ _ _ _ _ _)
     .exact(Z.out.trans asJ.out).trans (asb P.out (by grind[sH]) _ _ _ _ _ _)
     .exact λb o x s=>((zR.out.trans (KH _ (by have:=TJ.out;omega) _ _ _ _ _ _)).cell (p:=⟨b,o,none⟩) (dx s)).trans (JU.out _ _ _ s)
    case measure=>simp[intOf];omega
   .have mr:k=l.length:=by omega
    have Bl:(rs[t].2.length:Int)=(l.length:Int):=by have:=TI.out;omega
    gi_wp2
    refine⟨wR.out,wP.out,Z.out,L,cs,m.out.oc,m.out.at_.congr λi hi=>?_,m.out.box,m.out.cr,m.out.cH⟩;grind
 case done=>
  rintro V ⟨L,cs,E⟩ hB hK;obtain⟨aQ,aT,q3⟩:=E.cr.all;obtain⟨jM,mI,mn⟩:=E.cH.all;have m:Hid _:=E;have zk:Hid _:=hK;have bV:Hid _:=hB;clear E hB hK;gi_wp2
  have hne:(w1.alloc (.cells #[.S cf 0 l.length l.length] 39)).heap.size≠w.heap.size:=BC;have TO:=(vav V ⟨w.heap.size,0,none⟩ (.S cf 0 l.length l.length) _ hne).trans zk.out;refine⟨Ab,.inl ⟨_,_,rfl,vcw TO,?_⟩⟩;have KP:w.heap.size<cf:=by simp at rY;omega
  have kk:iS (λe=>e≠41) V ((V.setCell ⟨w.heap.size,0,none⟩ (.S cf 0 l.length l.length)).putObj (w1.alloc (.cells #[.S cf 0 l.length l.length] 39)).heap.size (.deferred none)):=
   (iS.set m.out.cH AN _ _).trans (.pS (B9 TO))
  refine⟨.agg #[.S cf 0 l.length l.length],?_,_,rfl,asd (xm m.out.oc kk λi hi=>?_) m.out.at_ (kk.cells _ _ _ _ m.out.box AX) hl ?_,?_⟩
  .have asK:(V.setCell ⟨w.heap.size,0,none⟩ (.S cf 0 l.length l.length)).heap[w.heap.size]?=some (.cells #[.S cf 0 l.length l.length] 41):=m.out.cH.set _ _;have zD:((V.setCell ⟨w.heap.size,0,none⟩ (.S cf 0 l.length l.length)).putObj (w1.alloc (.cells #[.S cf 0 l.length l.length] 39)).heap.size (.deferred none)).cell? (.a w.heap.size 0)=some (.S cf 0 l.length l.length):=D1 (B9 TO) (((ag.rules (T:=41) asK).1 0).trans rfl);simp at zD⊢;simp[results,results14,go_sem,zD]
  .rcases m.out.at_.D2 i hi with h|h|h<;>rw[h]<;>decide
  .intro r i D hi;simp[o7,vas D];have Td:=xj.out _ (vdq D);rw[vas AY];exact xb.out _ (vdq D) _ AN
  .exact((j5.trans (cE.mono AY)).trans bV.out).trans ((Below.setCell (vaa _ V) (p:=⟨w.heap.size,0,none⟩) AN _).trans (pC _ BC))
