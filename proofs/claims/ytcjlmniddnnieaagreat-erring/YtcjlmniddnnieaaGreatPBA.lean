import Derived.Maps.OwnIn
import Derived.Test.YtcjlmniddnnieaaGreatPAY
set_option linter.all false
set_option maxRecDepth 100000
set_option maxHeartbeats 16000000
namespace Go.Proofs.YtcjlmniddnnieaaGreat
open Tryz
namespace eb
open RowKit Shelf au bU bM
variable{C:aH->Prop}{fuel i j n:Nat}{P:cf}{ops:fC}{Q:ual}{cU oj:Oper}{a:Act}{w:aH}
def ayC{listed:uar}(c:Region.ready .any ops listed=[i,j])(hi:ops[i]?=some cU)(d:ops[j]?=some oj)(h:∀K':Act->aH->Prop,(∀a w,C w->qg C n P ops Q fuel (listed.setIfInBounds i true) a w->K' a w)->if Region.wanted cU (yielded ops a.tmps)=true then Oper.wpIn Fence.wide n P cU a w K' Q else(∀f,cU.about P w a.eval=some f->Fence.wide.fn f)/\K' (a.put cU.dst undef) w)(k:∀K':Act->aH->Prop,(∀a w,C w->qg C n P ops Q fuel (listed.setIfInBounds j true) a w->K' a w)->if Region.wanted oj (yielded ops a.tmps)=true then Oper.wpIn Fence.wide n P oj a w K' Q else(∀f,oj.about P w a.eval=some f->Fence.wide.fn f)/\K' (a.put oj.dst undef) w):qg C n P ops Q (fuel+1) listed a w:=
 ⟨AJ,by
  rw[c];intro x b;simp at b;rcases b with rfl|rfl
  .exact wpOpIn_step hi λK' hK=>h K' AJ
  .exact wpOpIn_step d λK' hK=>k K' AJ⟩
variable{d:Nat}{v:Value}
def Qa{t:Nat}(h:d≠t):(a.put (some d) v).eval (.tmp t)=a.eval (.tmp t):=by simp[Act.eval,Act.put,h]
def BV(h:d<a.tmps.size):(a.put (some d) v).eval (.tmp d)=v:=by simp[Act.eval,Act.put,h]
def ik{listed:uar}(hi:ops[i]?=some cU)(hd:cU.dst=some d)(hs:Region.noSelect ops=true)(f:Region.free .any ops listed i=true)(e:(Region.ready .any ops listed).contains i=true)(j:∀c a w,Q (.panic c) (a.put (some d) v) w->Q (.panic c) a w)(g:C w)(b:tk C P ops cU v a)(h:qg C n P ops Q fuel (listed.setIfInBounds i true) (a.put (some d) v) w):qg C n P ops Q (fuel+1) listed a w:=
 lh hi hs f e AJ g b AJ
variable{cF:Nat}{o:Oper}{w1:aH}{K:uag}
def Qb{F:Prop}(e:o.guard=none)(b:∀c,o.op≠ .defer c)(f:o.about P w a.eval=none)(d:(execOp a.eval o).run P w=.ok (.value v) w1)(h:K (a.put o.dst v) w1):
 if veg o ops a.tmps=true then Oper.wpIn Fence.wide cF P o a w K Q else F:=by
 simp_all[Region.wanted,Oper.wpIn,Oper.semAt_eq,Oper.uponIn]
variable{u:Value}
def Qc{d dj:Nat}{listed:uar}(q:Region.ready .any ops listed=[i,j])(l:Region.ready .any ops (listed.setIfInBounds i true)=[j])(x:Region.ready .any ops (listed.setIfInBounds j true)=[i])(hi:ops[i]?=some cU)(k:ops[j]?=some oj)(r:i≠j)(f:cU.dst=some d)(e:oj.dst=some dj)(hd:d≠dj)(hg:cU.guard=none/\oj.guard=none)(y:∀c,cU.op≠ .defer c/\oj.op≠ .defer c)(b:∀w(ev:uak),cU.about P w ev=none/\oj.about P w ev=none)(p:(execOp a.eval cU).run P w=.ok (.value v) w)(t:(execOp (a.put (some d) v).eval oj).run P w=.ok (.value u) w1)(m:(execOp a.eval oj).run P w=.ok (.value u) w1)(o:(execOp (a.put (some dj) u).eval cU).run P w1=.ok (.value v) w1)(s:C w)(g:C w1)(h:qg C n P ops Q fuel ((listed.setIfInBounds i true).setIfInBounds j true) ((a.put (some d) v).put (some dj) u) w1):qg C n P ops Q (fuel+2) listed a w:=by
 refine ayC q hi k (λK hK=>?_) (λK hK=>?_)
 .refine Qb hg.1 AJ (b _ _).1 p (hK _ _ s ?_);rw[f];refine ir l k λK hK=>Qb hg.2 AJ (b _ _).2 t (hK _ _ g ?_);grind
 .refine Qb hg.2 AJ (b _ _).2 m (hK _ _ g ?_);rw[e];refine ir x hi λK hK=>Qb hg.1 AJ (b _ _).1 o (hK _ _ g ?_);simp_all[Array.setIfInBounds_comm,Ne.symm,Act.put]
variable{e:uab}
def Qd{t:uab}{z:Value}{bytes:Nat}(E:tV P t e z 1 bytes)(w:aH){F:Prop}(J:o.guard=none)(s x:uau)(c:o.op=.call {callee:=.builtin .append,args:=#[s,x],argTypes:=#[t,t]})(base:Nat)(v:Value)(n:Nat)(xs:uaj)(hs:a.eval s=v)(A:w.ownsRow base e 1 v n xs)(b:Nat)(u:Value)(p:a.eval x=.S b 0 1 1)(k:w.cell? (.a b 0)=some u)(I:u.oneCell'=true)(B:(n+1)*bytes<=140737488355328)(N:n+1<=9223372036854775807)(f:base<=w.heap.size)(h:∀g cap w',w'.ownsRow base e 1 (.S g 0 (n+1) cap) (n+1) (xs++[u])->w.grownBy w' v.ownBlock->(v.ownBlock=some g\/g=w.heap.size)->K (a.put o.dst (.S g 0 (n+1) cap)) w'):
 if veg o ops a.tmps=true then Oper.wpIn Fence.wide cF P o a w K Q else F:=by
 rw[vbz (by grind[Region.wanted])];obtain⟨i,hi,m,hsz,l⟩:=vcv E.hi;obtain⟨C,w',q,r,H,D,M⟩:=run_append_own_at (P:=P) w base t o.type e i z 1 bytes E.ht hi m hsz l E.RR E.hsz v n xs A ⟨b,0,none⟩ 1 1 [u] Y (λj y d=>by
  rcases j with _ |j
  .simp at d;subst d;exact k
  grind) AJ H0 B f
 unfold Oper.wpIn;refine⟨by simp[Oper.about,c,resolve,Target.leads,Sem.run_pure],?_⟩;rw[Oper.semAt_plain Fence.wide _ _ AJ];obtain⟨-,⟨-,L⟩|⟨g,cap,bq,rfl,-⟩⟩:=id r
 .omega
 simp only[execOp,c,resolve,invoke,builtin,hs,p,q,Result.andThen,Sem.run_bind,Sem.run_pure,List.map_toArray,vdd,List.map_nil,Oper.uponIn];grind[Value.ownBlock]
def jE(j:Nat):TypeId:=if j % 3=0 then 2 else if j % 3=1 then 9 else 4
structure iK(B bT t5:Nat)(X:ubs)(W:aH)(L:List eV)(cs:fi):Prop where
 gP:eQ B W L
 len:L.length=12
 box:ag W bT cs 34
 size:cs.size=20
 head:∀c x,(c,x)∈[(0,1),(1,0),(5,1),(6,0),(10,2),(11,2),(15,3),(16,0)]->cs[c]?=some (.I x)
 at_:∀j,j<12->∃v,L[j]?=some ⟨jE j,v,X j⟩/\cs[j / 3*5+2+j % 3]?=some v
 cK:ag W t5 #[.S bT 0 4 4] 27
 lo:B<=bT/\bT≠t5
variable{B bT t5:Nat}{W:aH}{X:ubs}{L:List eV}{cs:fi}
def iK.below{c:aH}(h:iK B bT t5 X W L cs)(b:cy W c):iK B bT t5 X c L cs:=
 ⟨h.gP.kept λg hg=>by
  obtain⟨i,hi,a⟩:∃i,∃(hi:i<L.length),L[i].v.ownBlock=some g:=vap λhn=>hg λi hi a=>AJ;exact b.block g (h.gP.lt hi a).2,h.len,h.box.call b,h.size,h.head,h.at_,h.cK.call b,h.lo⟩
theorem ayF(j:Nat):jE j≠34/\jE j≠27:=by grind[jE]
def iK.ty(h:iK B bT t5 X W L cs)(hi:i<L.length):L[i].e=jE i:=by obtain⟨v,a,-⟩:=h.at_ i (by rw[<-h.len];exact hi);grind
def iK.nY(h:iK B bT t5 X W L cs){b:Nat}{c:fi}{T:uab}(d:ag W b c T)(f:T=34\/T=27):ia L b:=
 NQ h.gP λg e z a i hi=>by rw[show W.heap[b]?=some (.cells c T)from d]at a;cases a;rw[h.ty hi];grind[ayF]
variable{cap g:Nat}{W2:aH}
def iK.push(h:iK B bT t5 X W L cs)(t:j<12)(hv:L[j]?=some ⟨jE j,v,X j⟩){x:Value}(n:W2.ownsRow B (jE j) 1 (.S g 0 ((X j).length+1) cap) ((X j).length+1) (X j++[x]))(hg:W.grownBy W2 v.ownBlock)(cR:v.ownBlock=some g\/g=W.heap.size):
 ag W2 bT cs 34/\ag W2 t5 #[.S bT 0 4 4] 27/\
 iK B bT t5 (λi=>if i=j then X j++[x]else X i) (W2.setCell ⟨bT,j / 3*5+2+j % 3,none⟩ (.S g 0 ((X j).length+1) cap)) (L.set j ⟨jE j,.S g 0 ((X j).length+1) cap,X j++[x]⟩) (cs.setIfInBounds (j / 3*5+2+j % 3) (.S g 0 ((X j).length+1) cap)):=by
 obtain⟨k,fO⟩:=eQ.Jo h.gP hv n hg cR;have p:j<L.length:=AJ;have w:L[j]=⟨jE j,v,X j⟩:=by grind
 have a:∀b,ia L b->v.ownBlock≠some b:=λb m s=>m j p AJ;have cZ:=ag.grown h.box hg (λg' l e=>a bT (h.nY h.box LF) AJ);have cK:=ag.grown h.cK hg (λg' l e=>a t5 (h.nY h.cK LO) AJ);refine⟨cZ,cK,?_⟩;have f:ia (L.set j ⟨jE j,.S g 0 ((X j).length+1) cap,X j++[x]⟩) bT:=fO bT h.box.lt (h.nY h.box LF);refine⟨k.set f _ _,by simp[h.len],cZ.set _ _,by simp[h.size],λc y d=>?_,λi hi=>?_,cK.ek (Ne.symm h.lo.2) _,h.lo⟩
 .have hq:=h.head c y d;have o:j / 3*5+2+j % 3≠c:=by have z:j % 3<3:=AJ;simp at d;omega
  grind
 .obtain⟨u,r,q⟩:=h.at_ i hi;grind
def iK.congr{a:ubs}(h:iK B bT t5 X W L cs)(c:∀j,j<12->X j=a j):iK B bT t5 a W L cs:=
 ⟨h.gP,h.len,h.box,h.size,h.head,λj b=>by rw[<-c j b];exact h.at_ j b,h.cK,h.lo⟩
variable{N:Nat}
def ayG{row:ubc}(hg:W.grownBy W2 row)(a:∀g,row=some g->N<=g)(a3:N<=W.heap.size):Below N W W2:=
 ⟨hg.os,hg.tape,hg.output,hg.size,λk hk=>hg.block k AP AJ⟩
def ayH(c:fi)(e:uab):cy W (W.drew.alloc (.cells c e)):=(show cy W W.drew from⟨Y,Y,Y,vad _,λ_ _=>Y⟩).alloc (vad _) _
def iK.Qe(h:iK B bT t5 X W L cs)(x:j<12){xs:uaj}(y:X j=xs)(f:jE j=e)(hv:L[j]?=some ⟨jE j,v,xs⟩)(l:W2.ownsRow B e 1 (.S g 0 (xs.length+1) cap) (xs.length+1) (xs++[u]))(hg:(W.drew.alloc (.cells #[u] e)).grownBy W2 v.ownBlock)(cR:v.ownBlock=some g\/g=(W.drew.alloc (.cells #[u] e)).heap.size)(a3:N<=B)(E:B<=W.heap.size){o:Nat}(t:o=j / 3*5+2+j % 3):
 Below N W W2/\(∀b c T,ia L b->ag W b c T->ag W2 b c T)/\ag W2 bT cs 34/\ag W2 t5 #[.S bT 0 4 4] 27/\
 ∃n z,iK B bT t5 (λi=>if i=j then xs++[u]else X i) (W2.setCell ⟨bT,o,none⟩ (.S g 0 (xs.length+1) cap)) n z/\∀b,b<W.heap.size->ia L b->ia n b:=by
 subst y;subst f;subst t;have a:=ayH (W:=W) #[u] (jE j);have k:=h.below a;obtain⟨r,q,p⟩:=k.push x hv l hg cR;obtain⟨A,fO⟩:=eQ.Jo k.gP hv l hg cR;have m:j<L.length:=AJ;have f:L[j]=⟨jE j,v,X j⟩:=by grind
 have D:∀g,v.ownBlock=some g->B<=g:=λg hg=>(h.gP.lt m AJ).1;refine⟨(a.mono AP).trans (ayG hg AJ An),λb c T d s=>ag.grown (s.call a) hg (λg' C e=>d j m AJ),r,q,_,_,p,λb w d=>fO b An d⟩
@[simp] theorem aIW:dk true 4:=ved func4
def wR(r:dw)(j:Nat):List Value:=
 if j=0 then [.I (mb r.1)]else if j=2 then [.bool (ij r.1)]else if j=3 then [.I (gw r.2.1)]else if j=5 then [.bool (ij r.2.1)]else if j=6 then [.I (gw r.2.2.1)]else if j=8 then [.bool (ij r.2.2.1)]else if j=10 then [.string (qB r.2.2.2)]else if j=11 then [.bool (ij r.2.2.2)]else []
def b_(rs:List dw)(n:Nat)(j:Nat):List Value:=(rs.take n).flatMap (wR · j)
theorem Fe(rs:List dw)(h:n<rs.length)(j:Nat):b_ rs (n+1) j=b_ rs n j++wR rs[n] j:=by grind[b_,List.take_succ_eq_append_getElem]
theorem ayI(r:dw)(j:Nat):(wR r j).length<=1:=by grind[wR]
theorem BW(rs:List dw)(n:Nat)(j:Nat):(b_ rs n j).length<=n:=by induction n with|zero=>simp[b_]|succ n a=>grind[Fe,ayI,b_,List.take_of_length_le]
def BX(rs:List dw)(n j:Nat)(f:dw->Value)(h:∀r,wR r j=[f r]):b_ rs n j=(rs.take n).map f:=by unfold b_;induction rs.take n with|nil=>rfl|cons r l a=>grind
def Qf(rs:List dw)(n j:Nat)(h:∀r,wR r j=[]):b_ rs n j=[]:=by simp_all[b_]
def BY{ao:Type}{R:aH->(Nat->Option Value)->ao->Prop}{l:List dw}{f:dw->Value}{g:dw->ao}(h:W.ownsRow B e 1 v (l.map f).length (l.map f))(a:∀r rd,rd 0=some (f r)->R W rd (g r)):aZ W 1 R v (l.map g):=
 J0 h AQ AJ
def Qg{ao:Type}{R:aH->(Nat->Option Value)->ao->Prop}(h:W.ownsRow B e 1 v ([]:uaj).length []):aZ W 1 R v []:=
 J0 h Y AJ
def ayJ{rs:List dw}(h:iK B bT t5 (b_ rs n) W L cs):l6 W (.S bT 0 4 4) (eD (rs.take n)):=by
 have own:∀j(_:j<12),∃v,cs[j / 3*5+2+j % 3]?=some v/\W.ownsRow B (jE j) 1 v (b_ rs n j).length (b_ rs n j):=λj k=>by obtain⟨v,p,m⟩:=h.at_ j k;exact⟨v,m,h.gP.at p⟩
 have cell:∀o x,cs[o]?=some x->W.cell? (.a bT o)=some x:=λo x g=>(h.box.rules.1 o).trans g;refine⟨⟨some ⟨bT,0,none⟩,4,Y,by show 4<=9223372036854775807;decide,λi hi=>⟨bT,0,Y,?_⟩⟩,λb l=>by cases l;exact⟨_,_,h.box⟩⟩;have f:i=0\/i=1\/i=2\/i=3:=by have:(eD (rs.take n)).length=4:=rfl;omega
 rcases f with rfl|rfl|rfl|rfl
 .obtain⟨c7,cz,d⟩:=own 0 AP;obtain⟨vs,c1,c⟩:=own 1 AP;obtain⟨e,co,a⟩:=own 2 AP;rw[BX rs n 0 _ λ_=>Y]at d;rw[Qf rs n 1 λ_=>Y]at c;rw[BX rs n 2 _ λ_=>Y]at a;exact⟨c7,vs,e,cell 0 _ (h.head 0 1 AQ),cell 1 _ (h.head 1 0 AQ),cell 2 _ cz,cell 3 _ c1,cell 4 _ co,⟨BY d λ_ _ h=>h,Qg c,BY a λ_ _ h=>h⟩,rj d,rj c,rj a⟩
 .obtain⟨c7,cz,d⟩:=own 3 AP;obtain⟨vs,c1,c⟩:=own 4 AP;obtain⟨e,co,a⟩:=own 5 AP;rw[BX rs n 3 _ λ_=>Y]at d;rw[Qf rs n 4 λ_=>Y]at c;rw[BX rs n 5 _ λ_=>Y]at a;exact⟨c7,vs,e,cell 5 _ (h.head 5 1 AQ),cell 6 _ (h.head 6 0 AQ),cell 7 _ cz,cell 8 _ c1,cell 9 _ co,⟨BY d λ_ _ h=>h,Qg c,BY a λ_ _ h=>h⟩,rj d,rj c,rj a⟩
 .obtain⟨c7,cz,d⟩:=own 6 AP;obtain⟨vs,c1,c⟩:=own 7 AP;obtain⟨e,co,a⟩:=own 8 AP;rw[BX rs n 6 _ λ_=>Y]at d;rw[Qf rs n 7 λ_=>Y]at c;rw[BX rs n 8 _ λ_=>Y]at a;exact⟨c7,vs,e,cell 10 _ (h.head 10 2 AQ),cell 11 _ (h.head 11 2 AQ),cell 12 _ cz,cell 13 _ c1,cell 14 _ co,⟨BY d λ_ _ h=>h,Qg c,BY a λ_ _ h=>h⟩,rj d,rj c,rj a⟩
 .obtain⟨c7,cz,d⟩:=own 9 AP;obtain⟨vs,c1,c⟩:=own 10 AP;obtain⟨e,co,a⟩:=own 11 AP;rw[Qf rs n 9 λ_=>Y]at d;rw[BX rs n 10 _ λ_=>Y]at c;rw[BX rs n 11 _ λ_=>Y]at a;exact⟨c7,vs,e,cell 15 _ (h.head 15 3 AQ),cell 16 _ (h.head 16 0 AQ),cell 17 _ cz,cell 18 _ c1,cell 19 _ co,⟨Qg d,BY c λr _ h=>⟨h,by grind[P_]⟩,BY a λ_ _ h=>h⟩,rj d,rj c,rj a⟩
end eb
namespace aK
open Conc ConcM RowKit au bn cC c5 bU bM eb
section
variable{n0:Nat}
def LI:Value->Prop
 | .int .. | .bool _ | .string _=>True
 | _=>False
theorem tW{ρ:Ren}{x y:Value}(hs:LI x)(h:ax ρ x y):y=x:=by cases h<;>first|rfl|exact hs.elim
def ayP{ρ:Ren}{w w':aH}(b:rA n0 ρ w w'){v a:Value}(hv:ax ρ v a){e:uab}{n:Nat}{xs:uaj}(hS:∀x∈xs,LI x)(h:w.ownsRow n0 e 1 v n xs):w'.ownsRow n0 e 1 a n xs/\∀g',a.ownBlock=some g'->∃g,v.ownBlock=some g/\ρ.rel g g':=by
 obtain⟨c,⟨rfl,hn⟩|⟨g,cap,bq,rfl,hg,d,l,k,s,j⟩⟩:=h
 .rw[kR hv];exact⟨⟨c,AJ⟩,λg' e=>Cy⟩
 .obtain⟨g',rfl,r⟩:=rB hv;obtain⟨o,f,q⟩:=b.types _ _ _ _ _ r d;refine⟨⟨c,.inr ⟨g',cap,o,Y,b.new _ _ r hg,f,l,k,AJ,?_⟩⟩,λt e=>by cases e;exact⟨g,Y,r⟩⟩;rw[<-j];refine vbw λi=>?_;rw[List.getElem?_take,List.getElem?_take];split
  .rename_i hi;have p:i<xs.length:=AJ;have A:bq.toList[i]?=some xs[i]:=by grind
   have m:w.cell? (.a g i)=some xs[i]:=by grind[World.cell?]
   obtain⟨y,z,u⟩:=b.cells ⟨g,i,none⟩ ⟨g',i,none⟩ _ ⟨r,Y,Y⟩ m;grind[tW,List.getElem_mem,World.cell?]
  .rfl
def Fg(n0:Nat)(X:ubs)(W:aH)(v:Value):Prop:=∃bT cK L cs,v=.P cK 0/\iK n0 bT cK X W L cs
def Fh(n0:Nat)(W:aH)(v:Value):Prop:=∃b,v=.P b 0/\n0<=b/\ag W b #[.N] 27
theorem ayQ:kf n0 (Fh n0):=by rintro ρ w w' v f a hv ⟨b,rfl,hn,h⟩;obtain⟨e,rfl,r⟩:=uO hv;obtain⟨g,c,k⟩:=Ff (l:=[.N]) a r h;cases k with|cons d k=>cases k;rw[kR d]at c;exact⟨e,Y,a.new _ _ r hn,c⟩
theorem ayR{X:ubs}(M:∀j,∀x∈X j,LI x):kf n0 (Fg n0 X):=by
 rintro ρ w w' v b f hv ⟨bT,cK,L,cs,rfl,h⟩;obtain⟨A,rfl,B⟩:=uO hv;obtain⟨O,F,p⟩:=Ff (l:=[.S bT 0 4 4]) f B h.cK;cases p with
 |cons p K=>
  cases K;obtain⟨z,rfl,rc⟩:=rB p;obtain⟨lc,E,kc⟩:=Ff (l:=cs.toList) f rc h.box;have hlen:lc.length=20:=by rw[<-kc.length];simpa using h.size
  have get:∀i x,cs[i]?=some x->∃y,lc[i]?=some y/\ax ρ x y:=λi x C=>by
   have hi:i<cs.size:=by
    rcases vcf i cs.size with q|q
    .exact q
    .rw[Array.getElem?_eq_none q]at C;cases C
   have m:i<lc.length:=by rw[hlen,<-h.size];exact hi
   refine⟨lc[i],vat m,?_⟩;have:=(aM.Mc kc).get i x lc[i] AJ AJ;grind
  have at_:∀j,j<12->∃v b,L[j]?=some ⟨jE j,v,X j⟩/\lc[j / 3*5+2+j % 3]?=some b/\ax ρ v b:=λj d=>by obtain⟨v,D,o⟩:=h.at_ j d;grind
  let a:List eV:=(List.range 12).map λj=>⟨jE j,lc[j / 3*5+2+j % 3]?.getD undef,X j⟩
  have N:a.length=12:=AJ;have u:∀j(d:j<12),∃v b,L[j]?=some ⟨jE j,v,X j⟩/\a[j]?=some ⟨jE j,b,X j⟩/\lc[j / 3*5+2+j % 3]?=some b/\ax ρ v b:=AJ;have own:∀j(d:j<a.length),w'.ownsRow n0 a[j].e 1 a[j].v a[j].xs.length a[j].xs/\∀g',a[j].v.ownBlock=some g'->∃(k:j<L.length)(g:Nat),L[j].v.ownBlock=some g/\ρ.rel g g':=λj d=>by obtain⟨v,b,D,o,P,H⟩:=u j AJ;rw[vat d]at o;rw[van o];have S:j<L.length:=AJ;obtain⟨Q,R⟩:=ayP f H (M j) (h.gP.at D);grind
  refine⟨z,A,a,lc.toArray,Y,⟨⟨AJ,λi j hi d g n s r=>?_⟩,N,E,AJ,λc x t=>?_,λj d=>?_,F,f.new _ _ rc h.lo.1,λe=>?_⟩⟩
  .obtain⟨m,g1,f1,J⟩:=(own i hi).2 g s;obtain⟨k,I,f3,f4⟩:=(own j d).2 g r;rw[f.inj _ _ _ J f4]at f1;exact h.gP.apart i j m k I n f1 f3
  .obtain⟨y,s,r⟩:=get _ _ (h.head c x t);rw[tW (x:=.I x) trivial r]at s;grind
  .grind
  .rw[e]at rc;exact h.lo.2 (f.inj _ _ _ rc B)
theorem ayW(rs:List dw)(n j:Nat):∀x∈b_ rs n j,LI x:=by
 intro x a;simp only[b_,List.mem_flatMap]at a;obtain⟨r,-,a⟩:=a;unfold wR at a;repeat' split at a
 all_goals first|(simp only[vbh,vbs,vdo]at a;subst a;trivial)|grind
end
end aK
namespace eb
open RowKit Shelf au bU bM aK
section
attribute [local go_sem] Oper.semAt_some
def ayX(n0 bC mS gQ:Nat)(j_:Value)(w0:aH)(rs:List dw)(n:Nat)(a:Act)(W:aH):Prop:=(a.defers=[]/\a.tmps.size=123/\a.tmps[1]?=some (.I 40)/\a.tmps[4]?=some j_/\a.tmps[5]?=some (.P gQ 0)/\a.tmps[6]?=some (.I n))/\(∃L cs,iK n0 bC gQ (b_ rs (n+1)) W L cs)/\ag W mS #[.N] 27/\Below n0 w0 W
def ayY(rs:List dw)(n:Nat)(Da:n<rs.length)(dt:n<40)(i0:c9 rs[n].1)(i1:c9 rs[n].2.1)(i2:c9 rs[n].2.2.1)(i3:c9 rs[n].2.2.2)(n0 b mS l q:Nat)(w0 f:aH)(L:List eV)(cs:fi)(fM:n0<=w0.heap.size)(hq:iK n0 b l (b_ rs n) f L cs)(Qi:ag f q #[.I rs[n].1,.I rs[n].2.1,.I rs[n].2.2.1,.I rs[n].2.2.2] 59)(z9:ag f mS #[.N] 27)(hb:Below n0 w0 f)(tu:ia L q)(agV:b≠q)(agW:b≠mS)(lS dr gB j_ n_ pw qs qt mI qu mJ px PJ PK PL PM mK ma qv py qw PN PO PP PQ PR PS PT PU PV PW PX PY PZ P0 P1 ayZ ay0 ay1 ay2 ay3 zi xr ay4 ay5 ay6 ay7 ay8 ay9 ay_ aza azb azc azd aze azf azg azh azi azj azk azl azm azn azo azp azq azr azs azt azu azv azw azx azy azz azA azB azC azD azE azF azG azH azI azJ azK azL azM azN azO azP azQ azR azS azT azU azV azW azX azY azZ az0 az1 az2 az3 az4 az5 az6 az7 az8 az9 az_ aAa aAb aAc aAd aAe aAf:Value):
 Code.wpIn Fence.wide 3 vee (tD Tryz.f4 5) (kE (ayX n0 b mS l j_ w0 rs n)) ⟨#[lS,.I 40,dr,gB,j_,.P l 0,.I n,.P q 0,n_,pw,qs,qt,mI,qu,mJ,px,PJ,PK,PL,PM,mK,ma,qv,py,qw,PN,PO,PP,PQ,PR,PS,PT,PU,PV,PW,PX,PY,PZ,P0,P1,ayZ,ay0,ay1,ay2,ay3,zi,xr,ay4,ay5,ay6,ay7,ay8,ay9,ay_,aza,azb,azc,azd,aze,azf,azg,azh,azi,azj,azk,azl,azm,azn,azo,azp,azq,azr,azs,azt,azu,azv,azw,azx,azy,azz,azA,azB,azC,azD,azE,azF,azG,azH,azI,azJ,azK,azL,azM,azN,azO,azP,azQ,azR,azS,azT,azU,azV,azW,azX,azY,azZ,az0,az1,az2,az3,az4,az5,az6,az7,az8,az9,az_,aAa,aAb,aAc,aAd,aAe,aAf],[]⟩ f:=by
 simp[tD,Tryz.f4,bz.dJ,bz.kC];have aIY:l<f.heap.size:=hq.cK.lt;have aIZ:b<f.heap.size:=hq.box.lt;have aI0:mS<f.heap.size:=z9.lt;have aI1:q<f.heap.size:=Qi.lt;have aI2:b≠l:=hq.lo.2;have jX:n0<=b:=hq.lo.1;have E9:Hid (iK n0 b l (b_ rs n) f L cs):=hq;have HR:Hid (ag f mS #[.N] 27):=z9;have bP:Hid (Below n0 w0 f):=hb;have aAg:Hid (ia L q):=tu;have c3:Hid (n0<=w0.heap.size):=fM;obtain⟨f1,f2,f3⟩:=Qi.all;have aAh:Hid _:=Qi;clear hq z9 hb tu Qi;gi_wp2
 have lD:cy f (f.alloc (.cells #[.I rs[n].1,.I rs[n].2.1,.I rs[n].2.2.1] 57)):=(vaa _ f).alloc Kj _;have nH:ag (f.alloc (.cells #[.I rs[n].1,.I rs[n].2.1,.I rs[n].2.2.1] 57)) q #[.I rs[n].1,.I rs[n].2.1,.I rs[n].2.2.1,.I rs[n].2.2.2] 59:=ag.alloc aAh.out _;have n_:ag (f.alloc (.cells #[.I rs[n].1,.I rs[n].2.1,.I rs[n].2.2.1] 57)) f.heap.size #[.I rs[n].1,.I rs[n].2.1,.I rs[n].2.2.1] 57:=ag.new f _ _;have tt:(f.alloc (.cells #[.I rs[n].1,.I rs[n].2.1,.I rs[n].2.2.1] 57)).heap.size=f.heap.size+1:=AQ;have LJ:Hid _:=nH;have td:Hid _:=n_;have th:Hid _:=lD;clear nH n_ lD f1 f2 f3;generalize(f.alloc (.cells #[.I rs[n].1,.I rs[n].2.1,.I rs[n].2.2.1] 57))=U at *;refine vcr AS (Bd (C:=λW=>ag W q #[.I rs[n].1,.I rs[n].2.1,.I rs[n].2.2.1,.I rs[n].2.2.2] 59) _ _ _ _ ?_);have HC:Hid (ag U.drew q #[.I rs[n].1,.I rs[n].2.1,.I rs[n].2.2.1,.I rs[n].2.2.2] 59):=LJ.out;refine lh (i:=0) (v:=.P q 0) rfl AS AS AS Km HC.out ⟨A_,λW _=>A0,λc=>AQ,λ_=>rfl⟩ ?_;refine lh (i:=3) (v:=.P q 1) rfl AS AS AS Km HC.out ⟨A_,λW _=>A0,λc=>AQ,λ_=>rfl⟩ ?_;refine lh (i:=6) (v:=.P q 2) rfl AS AS AS Km HC.out ⟨A_,λW _=>A0,λc=>AQ,λ_=>rfl⟩ ?_;refine lh (i:=1) (v:=.I rs[n].1) rfl AS AS AS Km HC.out ⟨A_,λW d=>Bm,λc=>AQ,λ_=>rfl⟩ ?_;refine lh (i:=4) (v:=.I rs[n].2.1) rfl AS AS AS Km HC.out ⟨A_,λW d=>Bm,λc=>AQ,λ_=>rfl⟩ ?_;refine lh (i:=7) (v:=.I rs[n].2.2.1) rfl AS AS AS Km HC.out ⟨A_,λW d=>Bm,λc=>AQ,λ_=>rfl⟩ ?_;refine ir (i:=2) AS rfl λK hK=>?_;go_simp
 refine⟨PA,(callsIn_wide.2 (au8 _ i0 _)).mono ?_⟩;rintro e w' ⟨rfl,rfl⟩;refine hK _ _ HC.out ?_;clear hK K;refine ir (i:=5) AS rfl λK hK=>?_;go_simp
 refine⟨PA,(callsIn_wide.2 (yo _ i1 _)).mono ?_⟩;rintro e w' ⟨rfl,rfl⟩;refine hK _ _ HC.out ?_;clear hK K;refine ir (i:=8) AS rfl λK hK=>?_;go_simp
 refine⟨PA,(callsIn_wide.2 (yo _ i2 _)).mono ?_⟩;rintro e w' ⟨rfl,rfl⟩;refine hK _ _ HC.out ?_;clear hK K;refine ir (i:=9) AS rfl λK hK=>?_;go_simp
 refine hK _ _ (ag.alloc HC.out _) ?_;clear hK K;refine ir (i:=10) AS rfl λK hK=>?_;go_simp
 refine hK _ _ (ag.alloc HC.out _) ?_;clear hK K;refine De AS ?_ _;gi_wp2
 have AK:cy f (U.alloc (.cells #[.I (mb rs[n].1),.I (gw rs[n].2.1),.I (gw rs[n].2.2.1)] 2)).drew:=(th.out.alloc AP _).trans (show Below _ _ _ from⟨rfl,rfl,rfl,vad _,λ_ _=>rfl⟩);have Ws:ag (U.alloc (.cells #[.I (mb rs[n].1),.I (gw rs[n].2.1),.I (gw rs[n].2.2.1)] 2)).drew q #[.I rs[n].1,.I rs[n].2.1,.I rs[n].2.2.1,.I rs[n].2.2.2] 59:=ag.alloc LJ.out _;have E4:ag (U.alloc (.cells #[.I (mb rs[n].1),.I (gw rs[n].2.1),.I (gw rs[n].2.2.1)] 2)).drew (f.heap.size) #[.I rs[n].1,.I rs[n].2.1,.I rs[n].2.2.1] 57:=ag.alloc td.out _;have aAi:ag (U.alloc (.cells #[.I (mb rs[n].1),.I (gw rs[n].2.1),.I (gw rs[n].2.2.1)] 2)).drew (f.heap.size+1) #[.I (mb rs[n].1),.I (gw rs[n].2.1),.I (gw rs[n].2.2.1)] 2:=by have:=ag.new U #[.I (mb rs[n].1),.I (gw rs[n].2.1),.I (gw rs[n].2.2.1)] 2;rw[tt]at this;exact this
 have aAj:=E9.out.below AK;have aAk:=HR.out.call AK;have aAl:Below n0 w0 (U.alloc (.cells #[.I (mb rs[n].1),.I (gw rs[n].2.1),.I (gw rs[n].2.2.1)] 2)).drew:=bP.out.trans (AK.mono AJ);have aAm:ia L q/\ia L (f.heap.size)/\ia L (f.heap.size+1):=⟨aAg.out,E9.out.gP.nY AJ,E9.out.gP.nY AJ⟩;have OD:n0<=f.heap.size:=AJ;clear LJ td th HC;generalize(U.alloc (.cells #[.I (mb rs[n].1),.I (gw rs[n].2.1),.I (gw rs[n].2.2.1)] 2)).drew=aI3 at *;clear tt;gi_loopw [10] (λp W=>∃(k:Nat)(L:List eV)(cs:fi),k<=3/\p=.I k/\iK (n0) (b) (l) (λj=>if j / 3<k then b_ rs (n+1) j else b_ rs n j) W L cs/\ag W mS #[.N] 27/\Below n0 w0 W/\
  (ag W q #[.I rs[n].1,.I rs[n].2.1,.I rs[n].2.2.1,.I rs[n].2.2.2] 59/\ag W (f.heap.size) #[.I rs[n].1,.I rs[n].2.1,.I rs[n].2.2.1] 57/\ag W (f.heap.size+1) #[.I (mb rs[n].1),.I (gw rs[n].2.1),.I (gw rs[n].2.2.1)] 2)/\
  (ia L q/\ia L (f.heap.size)/\ia L (f.heap.size+1)))
  (λi _=>3-(intOf i).toNat)
 case atStart=>grind
 case round=>
  obtain⟨k,Qj,cs1,kq,rfl,Xf,gj,bc,⟨S,tF,LC⟩,Qk⟩:=hrel;have I:Hid (iK (n0) (b) (l) (λj=>if j / 3<k then b_ rs (n+1) j else b_ rs n j) wr Qj cs1):=Xf;clear aAj aAk aAl Ws E4 aAi aAm AK;by_cases hk:k<3
  .obtain⟨M,P,TL,TK,hI,q0,bj,a_⟩:∃M P,(#[.I rs[n].1,.I rs[n].2.1,.I rs[n].2.2.1]:fi)[k]?=some (.I M)/\(#[.I (mb rs[n].1),.I (gw rs[n].2.1),.I (gw rs[n].2.2.1)]:fi)[k]?=some (.I P)/\c9 M/\wR rs[n] (3*k)=[.I P]/\wR rs[n] (3*k+1)=[]/\wR rs[n] (3*k+2)=[.bool (ij M)]:=by
    have:k=0\/k=1\/k=2:=AP;rcases this with rfl|rfl|rfl
    .exact⟨_,_,rfl,rfl,i0,rfl,rfl,rfl⟩
    .exact⟨_,_,rfl,rfl,i1,rfl,rfl,rfl⟩
    .exact⟨_,_,rfl,rfl,i2,rfl,rfl,rfl⟩
   have sY:=λW(h:ag W (f.heap.size) #[.I rs[n].1,.I rs[n].2.1,.I rs[n].2.2.1] 57)=>(h.rules.1 k).trans TL;have wy:=λW(h:ag W (f.heap.size+1) #[.I (mb rs[n].1),.I (gw rs[n].2.1),.I (gw rs[n].2.2.1)] 2)=>(h.rules.1 k).trans TK;have aAn:Hid _:=sY;have aAo:Hid _:=wy;have xH:Hid _:=(⟨S,tF,LC⟩:_/\_/\_);have rW:Hid _:=gj;have V:Hid _:=bc;have R:Hid _:=Qk;have Xg:Hid _:=(⟨q0,bj,a_⟩:_/\_/\_);obtain⟨aAp,qT,Xh⟩:=I.out.at_ (3*k) AP;rw[show 3*k / 3*5+2+3*k % 3=k*5+2 by omega]at Xh;have RG:(if 3*k / 3<k then b_ rs (n+1) (3*k)else b_ rs n (3*k))=b_ rs n (3*k):=AJ;simp at qT;obtain⟨p0,r0,rfl⟩:=qS (show wr.ownsRow _ (jE (3*k)) 1 aAp (b_ rs n (3*k)).length _ from I.out.gP.at qT);have Xi:Hid _:=qT;have Xj:Hid _:=Xh;have nS:(0:Int)<=(k:Int):=AP;have vq:(k:Int)<3:=AP;have agQ:(k:Int)<4:=AP;clear TL TK sY wy S tF LC gj bc Qk q0 bj a_ Xf qT Xh RG;gi_wp2
   refine vcr AS (Bd (C:=λW=>ag W (l) #[.S b 0 4 4] 27/\ag W (f.heap.size+1) #[.I (mb rs[n].1),.I (gw rs[n].2.1),.I (gw rs[n].2.2.1)] 2) _ _ _ _ ?_);have HC:Hid (ag wr.drew (l) #[.S b 0 4 4] 27/\ag wr.drew (f.heap.size+1) #[.I (mb rs[n].1),.I (gw rs[n].2.1),.I (gw rs[n].2.2.1)] 2):=⟨I.out.cK,xH.out.2.2⟩;refine ik (i:=0) (v:=.P l 0) rfl rfl AS AS AS Km HC.out ⟨A_,λW d=>A0,λc=>AQ,λ_=>rfl⟩ ?_;refine ik (i:=3) (v:=.P l 0) rfl rfl AS AS AS Km HC.out ⟨A_,λW d=>A0,λc=>AQ,λ_=>rfl⟩ ?_;refine ik (i:=2) (v:=.I k) rfl rfl AS AS AS Km HC.out ⟨A_,λW d=>A0,λc=>AQ,λ_=>rfl⟩ ?_;refine ik (i:=5) (v:=.I k) rfl rfl AS AS AS Km HC.out ⟨A_,λW d=>A0,λc=>AQ,λ_=>rfl⟩ ?_;refine ik (i:=9) (v:=.S (f.heap.size+1) 0 3 3) rfl rfl AS AS AS Km HC.out ⟨A_,λW d=>A0,λc=>AQ,λ_=>rfl⟩ ?_;refine ik (i:=10) (v:=.I k) rfl rfl AS AS AS Km HC.out ⟨A_,λW d=>A0,λc=>AQ,λ_=>rfl⟩ ?_;refine ik (i:=1) (v:=.S b 0 4 4) rfl rfl AS AS AS Km HC.out ⟨A_,λW d=>by obtain⟨B,O,J⟩:=ag.all d.1;go_simp,λc=>AQ,λ_=>rfl⟩ ?_;refine ik (i:=4) (v:=.S b 0 4 4) rfl rfl AS AS AS Km HC.out ⟨A_,λW d=>by obtain⟨B,O,J⟩:=ag.all d.1;go_simp,λc=>AQ,λ_=>rfl⟩ ?_;refine ik (i:=6) (v:=.P b (k*5)) rfl rfl AS AS AS Km HC.out ⟨A_,λW d=>A0,λc=>AQ,λ_=>rfl⟩ ?_;refine ik (i:=7) (v:=.P b (k*5+2)) rfl rfl AS AS AS Km HC.out ⟨A_,λW d=>A0,λc=>AQ,λ_=>rfl⟩ ?_;refine ik (i:=11) (v:=.P (f.heap.size+1) k) rfl rfl AS AS AS Km HC.out ⟨A_,λW d=>A0,λc=>AQ,λ_=>rfl⟩ ?_;refine ik (i:=12) (v:=.I P) rfl rfl AS AS AS Km HC.out ⟨A_,λW d=>by have B:=aAo.out _ d.2;go_simp,λc=>AQ,λ_=>rfl⟩ ?_;have A:wr.drew.cell? (.a b (k*5+2))=some (.slice p0 (b_ rs n (3*k)).length r0):=(I.out.box.rules.1 _).trans Xj.out;refine Qc (i:=8) (j:=13) (v:=.slice p0 (b_ rs n (3*k)).length r0) (u:=.S wr.heap.size 0 1 1) (w1:=wr.drew.alloc (.cells #[.I P] 2)) AS AS AS rfl rfl AU rfl rfl AU ⟨rfl,rfl⟩ (λc=>⟨AQ,AQ⟩) (λ_ _=>⟨rfl,rfl⟩) A0 A0 A0 (by have g1:(wr.alloc (.cells #[.I P] 2)).drew.cell? (.a b (k*5+2))=_:=aK.su A (.cells #[.I P] 2);go_simp) HC.out ⟨ag.alloc HC.out.1 _,ag.alloc HC.out.2 _⟩ ?_;have vY:jE (3*k)=2:=by simp[jE]
   refine ir (i:=14) AS rfl λK hK=>?_;refine Qd Y7 _ rfl _ _ rfl (n0) (.slice p0 (b_ rs n (3*k)).length r0) (b_ rs n (3*k)).length (b_ rs n (3*k)) ((Qa AU).trans (BV Dp)) (by have h:=I.out.gP.at Xi.out;rw[show(jE (3*k))=2 from vY]at h;exact vcl (w:=wr.drew) h _) wr.heap.size (.I P) (BV Dp) (oo (vbi wr.drew _) rfl rfl) rfl (by have:=BW rs n (3*k);omega) (by have:=BW rs n (3*k);omega) (by have:=vac c3.out V.out.size;simp;omega) ?_;intro g c W2 D F cR;obtain⟨z,s,t,x,L2,aAq,vV,Ql⟩:=iK.Qe (N:=n0) I.out (j:=3*k) AP (xs:=b_ rs n (3*k)) (vbt AP) vY Xi.out D F cR AP (vac c3.out V.out.size) (o:=k*5+2) AP;have rG:=s _ _ _ R.out.1 xH.out.1;have ki:=s _ _ _ R.out.2.1 xH.out.2.1;have wT:=s _ _ _ R.out.2.2 xH.out.2.2;have cm:=s _ _ _ (I.out.nY rW.out LO) rW.out;have aAr:f.heap.size+1<wr.heap.size:=xH.out.2.2.lt;have m:Hid (ag W2 (l) #[.S b 0 4 4] 27/\ag W2 (f.heap.size+1) #[.I (mb rs[n].1),.I (gw rs[n].2.1),.I (gw rs[n].2.2.1)] 2):=⟨x,wT⟩;refine hK _ _ m.out ?_;clear hK K;have g2:W2.cell? (.a b (k*5+2))=some (.slice p0 (b_ rs n (3*k)).length r0):=(t.rules.1 _).trans Xj.out;have Z:=t.rules.2;refine ir (i:=15) AS rfl λK hK=>?_;go_simp
   refine hK _ _ m.out ?_;clear hK K;refine ir (i:=16) AS rfl λK hK=>?_;go_simp
   refine hK _ _ m.out ?_;clear hK K;refine ir (i:=17) AS rfl λK hK=>?_;go_simp
   refine hK _ _ ⟨ag.ek m.out.1 An _,ag.ek m.out.2 An _⟩ ?_;clear hK K;refine De AS ?_ _;have LK:=rG.ek (a:=⟨b,k*5+2,none⟩) An (.S g 0 ((b_ rs n (3*k)).length+1) c);have HS:=ki.ek (a:=⟨b,k*5+2,none⟩) An (.S g 0 ((b_ rs n (3*k)).length+1) c);have HT:=wT.ek (a:=⟨b,k*5+2,none⟩) An (.S g 0 ((b_ rs n (3*k)).length+1) c);have E:=cm.ek (a:=⟨b,k*5+2,none⟩) An (.S g 0 ((b_ rs n (3*k)).length+1) c);have nE:Below n0 w0 (W2.setCell ⟨b,k*5+2,none⟩ (.S g 0 ((b_ rs n (3*k)).length+1) c)):=(V.out.trans z).setCell (p:=⟨b,k*5+2,none⟩) AP _;have vS:ia L2 q/\ia L2 (f.heap.size)/\ia L2 (f.heap.size+1):=⟨Ql _ AP R.out.1,Ql _ AP R.out.2.1,Ql _ AP R.out.2.2⟩;have AL:f.heap.size+1<(W2.setCell ⟨b,k*5+2,none⟩ (.S g 0 ((b_ rs n (3*k)).length+1) c)).heap.size:=HT.lt;clear A g2 Z m HC rG ki wT cm z s t x Ql D F cR I xH rW V R Xi Xj;generalize W2.setCell ⟨b,k*5+2,none⟩ (.S g 0 ((b_ rs n (3*k)).length+1) c)=oD at *;clear aAr W2;have kI:=aAn.out _ HS;have T:Hid (iK (n0) (b) (l) _ oD L2 aAq):=vV;have Qm:Hid _:=(⟨LK,HS,HT⟩:_/\_/\_);have Xk:Hid _:=E;have po:Hid _:=nE;have Fi:Hid _:=vS;clear vV LK HS HT E nE vS;gi_wp2_with (refine⟨PA,(callsIn_wide.2 (vr M hI _)).mono ?_⟩;rintro e y ⟨rfl,rfl⟩)
   clear kI;obtain⟨aAs,mV,Xl⟩:=T.out.at_ (3*k+2) AP;rw[show(3*k+2) / 3*5+2+(3*k+2) % 3=k*5+4 by omega]at Xl;have k6:(if 3*k+2=3*k then b_ rs n (3*k)++[.I P]else if(3*k+2) / 3<k then b_ rs (n+1) (3*k+2)else b_ rs n (3*k+2))=b_ rs n (3*k+2):=by rw[vbt AP,vbt AP]
   simp only[k6]at mV;obtain⟨p2,r2,rfl⟩:=qS (show y.ownsRow _ (jE (3*k+2)) 1 aAs (b_ rs n (3*k+2)).length _ from T.out.gP.at mV);have JY:Hid _:=mV;have Xm:Hid _:=Xl;have vn:Hid _:=k6;clear mV Xl k6;refine vcr AS (Bd (C:=λW=>ag W (l) #[.S b 0 4 4] 27) _ _ _ _ ?_);have HC:Hid (ag y.drew (l) #[.S b 0 4 4] 27):=T.out.cK;refine ik (i:=0) (v:=.P l 0) rfl rfl AS AS AS Km HC.out ⟨A_,λW d=>A0,λc=>AQ,λ_=>rfl⟩ ?_;refine ik (i:=3) (v:=.P l 0) rfl rfl AS AS AS Km HC.out ⟨A_,λW d=>A0,λc=>AQ,λ_=>rfl⟩ ?_;refine ik (i:=2) (v:=.I k) rfl rfl AS AS AS Km HC.out ⟨A_,λW d=>A0,λc=>AQ,λ_=>rfl⟩ ?_;refine ik (i:=5) (v:=.I k) rfl rfl AS AS AS Km HC.out ⟨A_,λW d=>A0,λc=>AQ,λ_=>rfl⟩ ?_;refine ik (i:=9) (v:=.bool (ij M)) rfl rfl AS AS AS Km HC.out ⟨A_,λW d=>A0,λc=>AQ,λ_=>rfl⟩ ?_;refine ik (i:=1) (v:=.S b 0 4 4) rfl rfl AS AS AS Km HC.out ⟨A_,λW d=>Bm,λc=>AQ,λ_=>rfl⟩ ?_;refine ik (i:=4) (v:=.S b 0 4 4) rfl rfl AS AS AS Km HC.out ⟨A_,λW d=>Bm,λc=>AQ,λ_=>rfl⟩ ?_;refine ik (i:=6) (v:=.P b (k*5)) rfl rfl AS AS AS Km HC.out ⟨A_,λW d=>A0,λc=>AQ,λ_=>rfl⟩ ?_;refine ik (i:=7) (v:=.P b (k*5+4)) rfl rfl AS AS AS Km HC.out ⟨A_,λW d=>A0,λc=>AQ,λ_=>rfl⟩ ?_;have A:y.drew.cell? (.a b (k*5+4))=some (.slice p2 (b_ rs n (3*k+2)).length r2):=(T.out.box.rules.1 _).trans Xm.out;refine Qc (i:=8) (j:=10) (v:=.slice p2 (b_ rs n (3*k+2)).length r2) (u:=.S y.heap.size 0 1 1) (w1:=y.drew.alloc (.cells #[.bool (ij M)] 4)) AS AS AS rfl rfl AU rfl rfl AU ⟨rfl,rfl⟩ (λc=>⟨AQ,AQ⟩) (λ_ _=>⟨rfl,rfl⟩) A0 A0 A0 (by have g1:(y.alloc (.cells #[.bool (ij M)] 4)).drew.cell? (.a b (k*5+4))=_:=aK.su A (.cells #[.bool (ij M)] 4);go_simp) HC.out (ag.alloc HC.out _) ?_;have vR:jE (3*k+2)=4:=by simp[jE]
   refine ir (i:=11) AS rfl λK hK=>?_;refine Qd MF _ rfl _ _ rfl (n0) (.slice p2 (b_ rs n (3*k+2)).length r2) (b_ rs n (3*k+2)).length (b_ rs n (3*k+2)) ((Qa AU).trans (BV Dp)) (by have h:=T.out.gP.at JY.out;rw[show(jE (3*k+2))=4 from vR]at h;exact vcl (w:=y.drew) h _) y.heap.size (.bool (ij M)) (BV Dp) (oo (vbi y.drew _) rfl rfl) rfl (by have:=BW rs n (3*k+2);omega) (by have:=BW rs n (3*k+2);omega) (by have:=AP;simp;omega) ?_;intro g' c' r D F cR;obtain⟨z,s,t,x,LL,vF,vD,Qn⟩:=iK.Qe (N:=n0) T.out (j:=3*k+2) AP (xs:=b_ rs n (3*k+2)) vn.out vR JY.out D F cR AP AP (o:=k*5+4) AP;have rG:=s _ _ _ Fi.out.1 Qm.out.1;have ki:=s _ _ _ Fi.out.2.1 Qm.out.2.1;have wT:=s _ _ _ Fi.out.2.2 Qm.out.2.2;have cm:=s _ _ _ (T.out.nY Xk.out LO) Xk.out;refine hK _ _ x ?_;clear hK K;have g2:r.cell? (.a b (k*5+4))=some (.slice p2 (b_ rs n (3*k+2)).length r2):=(t.rules.1 _).trans Xm.out;have Z:=t.rules.2;have m:Hid (ag r (l) #[.S b 0 4 4] 27):=x;refine ir (i:=12) AS rfl λK hK=>?_;go_simp
   refine hK _ _ m.out ?_;clear hK K;refine ir (i:=13) AS rfl λK hK=>?_;go_simp
   refine hK _ _ m.out ?_;clear hK K;refine ir (i:=14) AS rfl λK hK=>?_;go_simp
   refine hK _ _ (ag.ek m.out An _) ?_;clear hK K;refine De AS ?_ _;have LK:=rG.ek (a:=⟨b,k*5+4,none⟩) AJ (.S g' 0 ((b_ rs n (3*k+2)).length+1) c');have HS:=ki.ek (a:=⟨b,k*5+4,none⟩) AJ (.S g' 0 ((b_ rs n (3*k+2)).length+1) c');have HT:=wT.ek (a:=⟨b,k*5+4,none⟩) AJ (.S g' 0 ((b_ rs n (3*k+2)).length+1) c');have E:=cm.ek (a:=⟨b,k*5+4,none⟩) AJ (.S g' 0 ((b_ rs n (3*k+2)).length+1) c');have qp:Below n0 w0 (r.setCell ⟨b,k*5+4,none⟩ (.S g' 0 ((b_ rs n (3*k+2)).length+1) c')):=(po.out.trans z).setCell (p:=⟨b,k*5+4,none⟩) AP _;have vB:ia LL q/\ia LL (f.heap.size)/\ia LL (f.heap.size+1):=⟨Qn _ AP Fi.out.1,Qn _ AP Fi.out.2.1,Qn _ AP Fi.out.2.2⟩;have oe:Hid (iK (n0) (b) (l) _ (r.setCell ⟨b,k*5+4,none⟩ (.S g' 0 ((b_ rs n (3*k+2)).length+1) c')) LL vF):=vD;have pV:Hid _:=And.intro E (And.intro qp (And.intro (And.intro LK (And.intro HS HT)) vB));clear A g2 Z m HC rG ki wT cm z s t x Qn D F cR T Qm Xk po Fi JY Xm vD E qp LK HS HT vB;generalize r.setCell ⟨b,k*5+4,none⟩ (.S g' 0 ((b_ rs n (3*k+2)).length+1) c')=aI4 at *;clear r;gi_wp2
   go_roundw
   case rel=>
    refine⟨k+1,LL,vF,AP,AQ,oe.out.congr λj hj=>?_,pV.out.1,pV.out.2.1,pV.out.2.2.1,pV.out.2.2.2⟩;by_cases e2:j=3*k+2
    .subst e2;rw[vbz rfl,vbz AP,Fe rs Da,Xg.out.2.2]
    .rw[vbt e2];by_cases e0:j=3*k
     .subst e0;rw[vbz rfl,vbz AP,Fe rs Da,Xg.out.1]
     .rw[vbt e0];by_cases e1:j=3*k+1
      .subst e1;rw[vbt AP,vbz AP,Fe rs Da,Xg.out.2.1,vde]
      .by_cases e3:j / 3<k
       .rw[vbz e3,vbz AP]
       .rw[vbt e3,vbt AP]
   case measure=>simp[intOf];omega
  .obtain rfl:k=3:=by omega
   clear E9 HR bP;obtain⟨f1,f2,f3⟩:=S.all;have rW:Hid _:=gj;have V:Hid _:=bc;have R:Hid _:=Qk;have vA:Hid _:=S;clear S tF LC gj bc Qk Xf;gi_wp2_with (first|(refine⟨PA,(callsIn_wide.2 (au9 _ i3 _)).mono ?_⟩;rintro e y ⟨rfl,si⟩;apply CD))
   unfold AR;have S:=ag.call vA.out si;have vy:=I.out.below si;have h4:=ag.call rW.out si;have z7:Below n0 w0 y:=V.out.trans (si.mono (vac c3.out V.out.size));clear f1 f2 f3 si vA rW V I;obtain⟨f1,f2,f3⟩:=S.all;have Q:Hid (iK (n0) (b) (l) _ y Qj cs1):=vy;have HR:Hid _:=h4;have zd:Hid _:=z7;clear vy h4 z7 S;gi_wp2_with (refine⟨PA,(callsIn_wide.2 (vr _ i3 _)).mono ?_⟩;rintro e r ⟨rfl,rfl⟩)
   clear f1 f2 f3;obtain⟨aAt,Qo,sW⟩:=Q.out.at_ 10 AP;have nj:(if 10 / 3<3 then b_ rs (n+1) 10 else b_ rs n 10)=b_ rs n 10:=by rw[vbt AP]
   simp at Qo;obtain⟨Qp,Qq,rfl⟩:=qS (show r.ownsRow _ (jE 10) 1 aAt (b_ rs n 10).length _ from Q.out.gP.at Qo);have Xn:Hid _:=Qo;have Xo:Hid (cs1[18]?=some _):=sW;have nc:Hid _:=nj;clear Qo sW nj;refine vcr AS (Bd (C:=λW=>ag W (l) #[.S b 0 4 4] 27) _ _ _ _ ?_);have HC:Hid (ag r.drew (l) #[.S b 0 4 4] 27):=Q.out.cK;refine ik (i:=0) (v:=.P l 0) rfl rfl AS AS AS Km HC.out ⟨A_,λW d=>A0,λc=>AQ,λ_=>rfl⟩ ?_;refine ik (i:=2) (v:=.P l 0) rfl rfl AS AS AS Km HC.out ⟨A_,λW d=>A0,λc=>AQ,λ_=>rfl⟩ ?_;refine ik (i:=7) (v:=.string (qB rs[n].2.2.2)) rfl rfl AS AS AS Km HC.out ⟨A_,λW d=>A0,λc=>AQ,λ_=>rfl⟩ ?_;refine ik (i:=1) (v:=.S b 0 4 4) rfl rfl AS AS AS Km HC.out ⟨A_,λW d=>Bm,λc=>AQ,λ_=>rfl⟩ ?_;refine ik (i:=3) (v:=.S b 0 4 4) rfl rfl AS AS AS Km HC.out ⟨A_,λW d=>Bm,λc=>AQ,λ_=>rfl⟩ ?_;refine ik (i:=4) (v:=.P b 15) rfl rfl AS AS AS Km HC.out ⟨A_,λW d=>A0,λc=>AQ,λ_=>rfl⟩ ?_;refine ik (i:=5) (v:=.P b 18) rfl rfl AS AS AS Km HC.out ⟨A_,λW d=>A0,λc=>AQ,λ_=>rfl⟩ ?_;have A:r.drew.cell? (.a b 18)=some (.slice Qp (b_ rs n 10).length Qq):=(Q.out.box.rules.1 _).trans Xo.out;refine Qc (i:=6) (j:=8) (v:=.slice Qp (b_ rs n 10).length Qq) (u:=.S r.heap.size 0 1 1) (w1:=r.drew.alloc (.cells #[.string (qB rs[n].2.2.2)] 9)) AS AS AS rfl rfl AU rfl rfl AU ⟨rfl,rfl⟩ (λc=>⟨AQ,AQ⟩) (λ_ _=>⟨rfl,rfl⟩) A0 A0 A0 (by have g1:(r.alloc (.cells #[.string (qB rs[n].2.2.2)] 9)).drew.cell? (.a b 18)=_:=aK.su A (.cells #[.string (qB rs[n].2.2.2)] 9);go_simp) HC.out (ag.alloc HC.out _) ?_;refine ir (i:=9) AS rfl λK hK=>?_;refine Qd Y8 _ rfl _ _ rfl (n0) (.slice Qp (b_ rs n 10).length Qq) (b_ rs n 10).length (b_ rs n 10) ((Qa AU).trans (BV Dp)) (vcl (w:=r.drew) (show r.ownsRow _ 9 1 _ (b_ rs n 10).length _ from Q.out.gP.at Xn.out) _) r.heap.size (.string (qB rs[n].2.2.2)) (BV Dp) (oo (vbi r.drew _) rfl rfl) rfl (by grind[BW]) (by grind[BW]) (by have:=vac c3.out zd.out.size;simp;omega) ?_;intro Qr Qs HU D F cR;obtain⟨z,s,t,x,L7,mF,LM,-⟩:=iK.Qe (N:=n0) Q.out (j:=10) AP (xs:=b_ rs n 10) nc.out rfl Xn.out D F cR AP (vac c3.out zd.out.size) (o:=18) AP;have cm:=s _ _ _ (Q.out.nY HR.out LO) HR.out;refine hK _ _ x ?_;clear hK K;have g2:HU.cell? (.a b 18)=some (.slice Qp (b_ rs n 10).length Qq):=(t.rules.1 _).trans Xo.out;have Z:=t.rules.2;have m:Hid (ag HU (l) #[.S b 0 4 4] 27):=x;refine ir (i:=10) AS rfl λK hK=>?_;go_simp
   refine hK _ _ m.out ?_;clear hK K;refine ir (i:=11) AS rfl λK hK=>?_;go_simp
   refine hK _ _ m.out ?_;clear hK K;refine ir (i:=12) AS rfl λK hK=>?_;go_simp
   refine hK _ _ (ag.ek m.out AJ _) ?_;clear hK K;refine De AS ?_ _;have E:=cm.ek (a:=⟨b,18,none⟩) AJ (.S Qr 0 ((b_ rs n 10).length+1) Qs);have LN:Below n0 w0 (HU.setCell ⟨b,18,none⟩ (.S Qr 0 ((b_ rs n 10).length+1) Qs)):=(zd.out.trans z).setCell (p:=⟨b,18,none⟩) AP _;have X:Hid (iK (n0) (b) (l) _ (HU.setCell ⟨b,18,none⟩ (.S Qr 0 ((b_ rs n 10).length+1) Qs)) L7 mF):=LM;have Xp:Hid _:=E;have Qt:Hid _:=LN;clear A g2 Z m HC cm z s t x D F cR Q Xn Xo nc LM E LN HR zd;generalize HU.setCell ⟨b,18,none⟩ (.S Qr 0 ((b_ rs n 10).length+1) Qs)=H at *;clear HU;gi_wp2
   obtain⟨aAu,Qu,mB⟩:=X.out.at_ 11 AP;have mj:(if 11=10 then b_ rs n 10++[.string (qB rs[n].2.2.2)]else if 11 / 3<3 then b_ rs (n+1) 11 else b_ rs n 11)=b_ rs n 11:=by rw[vbt AP,vbt AP]
   simp at Qu;obtain⟨Qv,Qw,rfl⟩:=qS (show H.ownsRow _ (jE 11) 1 aAu (b_ rs n 11).length _ from X.out.gP.at Qu);have Xq:Hid _:=Qu;have Xr:Hid (mF[19]?=some _):=mB;have mi:Hid _:=mj;clear Qu mB mj;refine vcr AS (Bd (C:=λW=>ag W (l) #[.S b 0 4 4] 27) _ _ _ _ ?_);have HC:Hid (ag H.drew (l) #[.S b 0 4 4] 27):=X.out.cK;refine ik (i:=0) (v:=.P l 0) rfl rfl AS AS AS Km HC.out ⟨A_,λW d=>A0,λc=>AQ,λ_=>rfl⟩ ?_;refine ik (i:=2) (v:=.P l 0) rfl rfl AS AS AS Km HC.out ⟨A_,λW d=>A0,λc=>AQ,λ_=>rfl⟩ ?_;refine ik (i:=7) (v:=.bool (ij rs[n].2.2.2)) rfl rfl AS AS AS Km HC.out ⟨A_,λW d=>A0,λc=>AQ,λ_=>rfl⟩ ?_;refine ik (i:=1) (v:=.S b 0 4 4) rfl rfl AS AS AS Km HC.out ⟨A_,λW d=>Bm,λc=>AQ,λ_=>rfl⟩ ?_;refine ik (i:=3) (v:=.S b 0 4 4) rfl rfl AS AS AS Km HC.out ⟨A_,λW d=>Bm,λc=>AQ,λ_=>rfl⟩ ?_;refine ik (i:=4) (v:=.P b 15) rfl rfl AS AS AS Km HC.out ⟨A_,λW d=>A0,λc=>AQ,λ_=>rfl⟩ ?_;refine ik (i:=5) (v:=.P b 19) rfl rfl AS AS AS Km HC.out ⟨A_,λW d=>A0,λc=>AQ,λ_=>rfl⟩ ?_;have A:H.drew.cell? (.a b 19)=some (.slice Qv (b_ rs n 11).length Qw):=(X.out.box.rules.1 _).trans Xr.out;refine Qc (i:=6) (j:=8) (v:=.slice Qv (b_ rs n 11).length Qw) (u:=.S H.heap.size 0 1 1) (w1:=H.drew.alloc (.cells #[.bool (ij rs[n].2.2.2)] 4)) AS AS AS rfl rfl AU rfl rfl AU ⟨rfl,rfl⟩ (λc=>⟨AQ,AQ⟩) (λ_ _=>⟨rfl,rfl⟩) A0 A0 A0 (by have g1:(H.alloc (.cells #[.bool (ij rs[n].2.2.2)] 4)).drew.cell? (.a b 19)=_:=aK.su A (.cells #[.bool (ij rs[n].2.2.2)] 4);go_simp) HC.out (ag.alloc HC.out _) ?_;refine ir (i:=9) AS rfl λK hK=>?_;refine Qd MF _ rfl _ _ rfl (n0) (.slice Qv (b_ rs n 11).length Qw) (b_ rs n 11).length (b_ rs n 11) ((Qa AU).trans (BV Dp)) (vcl (w:=H.drew) (show H.ownsRow _ 4 1 _ (b_ rs n 11).length _ from X.out.gP.at Xq.out) _) H.heap.size (.bool (ij rs[n].2.2.2)) (BV Dp) (oo (vbi H.drew _) rfl rfl) rfl (by grind[BW]) (by grind[BW]) (by have:=vac c3.out Qt.out.size;simp;omega) ?_;intro Qx Qy HV D F cR;obtain⟨z,s,t,x,lX,lO,LM,-⟩:=iK.Qe (N:=n0) X.out (j:=11) AP (xs:=b_ rs n 11) mi.out rfl Xq.out D F cR AP (vac c3.out Qt.out.size) (o:=19) AP;have cm:=s _ _ _ (X.out.nY Xp.out LO) Xp.out;refine hK _ _ x ?_;clear hK K;have g2:HV.cell? (.a b 19)=some (.slice Qv (b_ rs n 11).length Qw):=(t.rules.1 _).trans Xr.out;have Z:=t.rules.2;have m:Hid (ag HV (l) #[.S b 0 4 4] 27):=x;refine ir (i:=10) AS rfl λK hK=>?_;go_simp
   refine hK _ _ m.out ?_;clear hK K;refine ir (i:=11) AS rfl λK hK=>?_;go_simp
   refine hK _ _ m.out ?_;clear hK K;refine ir (i:=12) AS rfl λK hK=>?_;go_simp
   refine hK _ _ (ag.ek m.out AJ _) ?_;clear hK K;refine De AS ?_ _;have E:=cm.ek (a:=⟨b,19,none⟩) AJ (.S Qx 0 ((b_ rs n 11).length+1) Qy);have LN:Below n0 w0 (HV.setCell ⟨b,19,none⟩ (.S Qx 0 ((b_ rs n 11).length+1) Qy)):=(Qt.out.trans z).setCell (p:=⟨b,19,none⟩) AP _;have aAv:Hid (iK (n0) (b) (l) _ (HV.setCell ⟨b,19,none⟩ (.S Qx 0 ((b_ rs n 11).length+1) Qy)) lX lO):=LM;have aAw:Hid _:=E;have aAx:Hid _:=LN;clear A g2 Z m HC cm z s t x D F cR X Xq Xr mi LM E LN Xp Qt;generalize HV.setCell ⟨b,19,none⟩ (.S Qx 0 ((b_ rs n 11).length+1) Qy)=aI5 at *;clear HV;gi_wp2
   refine⟨rfl,⟨rfl,rfl,rfl,rfl,rfl,rfl⟩,⟨lX,lO,aAv.out.congr λj hj=>?_⟩,aAw.out,aAx.out⟩;by_cases Pr:j=11
   .subst Pr;rw[vbz rfl,Fe rs Da];rfl
   .rw[vbt Pr];by_cases LB:j=10
    .subst LB;rw[vbz rfl,Fe rs Da];rfl
    .rw[vbt LB];by_cases LA:j / 3<3
     .rw[vbz LA]
     .obtain rfl:j=9:=by omega
      rw[vbt LA,Fe rs Da,show wR rs[n] 9=[]from rfl,vde]
end
end eb
namespace aK
open Conc ConcM RowKit au bn cC c5 bU bM eb
section
variable{n0:Nat}
def Qz{a:Act}(h:a.tmps.size=123)(hd:a.defers=[]):∃f:Nat->Value,a=⟨#[f 0,f 1,f 2,f 3,f 4,f 5,f 6,f 7,f 8,f 9,f 10,f 11,f 12,f 13,f 14,f 15,f 16,f 17,f 18,f 19,f 20,f 21,f 22,f 23,f 24,f 25,f 26,f 27,f 28,f 29,f 30,f 31,f 32,f 33,f 34,f 35,f 36,f 37,f 38,f 39,f 40,f 41,f 42,f 43,f 44,f 45,f 46,f 47,f 48,f 49,f 50,f 51,f 52,f 53,f 54,f 55,f 56,f 57,f 58,f 59,f 60,f 61,f 62,f 63,f 64,f 65,f 66,f 67,f 68,f 69,f 70,f 71,f 72,f 73,f 74,f 75,f 76,f 77,f 78,f 79,f 80,f 81,f 82,f 83,f 84,f 85,f 86,f 87,f 88,f 89,f 90,f 91,f 92,f 93,f 94,f 95,f 96,f 97,f 98,f 99,f 100,f 101,f 102,f 103,f 104,f 105,f 106,f 107,f 108,f 109,f 110,f 111,f 112,f 113,f 114,f 115,f 116,f 117,f 118,f 119,f 120,f 121,f 122],[]⟩:=by
 obtain⟨l,ds⟩:=a;have hd:ds=[]:=hd;subst hd;have h:l.size=123:=h;refine⟨λi=>l.getD i undef,?_⟩;have b:l.toList=(List.range 123).map λi=>l.getD i undef:=by
  apply List.ext_getElem
  .grind
  simp_all
 have d:List.range 123=[0,1,2,3,4,5,6,7,8,9,10,11,12,13,14,15,16,17,18,19,20,21,22,23,24,25,26,27,28,29,30,31,32,33,34,35,36,37,38,39,40,41,42,43,44,45,46,47,48,49,50,51,52,53,54,55,56,57,58,59,60,61,62,63,64,65,66,67,68,69,70,71,72,73,74,75,76,77,78,79,80,81,82,83,84,85,86,87,88,89,90,91,92,93,94,95,96,97,98,99,100,101,102,103,104,105,106,107,108,109,110,111,112,113,114,115,116,117,118,119,120,121,122]:=AM;rw[d]at b;simp only[vdd,List.map_nil]at b;have c:l=l.toList.toArray:=AQ;rw[b]at c;grind
def HW(f:Func):Code:=.seq (.seq (.region 3 (df f 3) false) (.cond (.tmp 28) .skip (.exit 0))) (.seq (.block 1 (.seq (.region 5 (df f 5) false) (tD f 5))) (.region 4 (aI f 4) false))
def Fj(f:Func):List Item:=[.inLoop (HW f),.inBlock 0,.code (.seq (.region 18 (df f 18) false) .ret)]
def pJ(f:Func):List Item:=.code (.cond (.tmp 28) .skip (.exit 0)):: .code (.seq (.block 1 (.seq (.region 5 (df f 5) false) (tD f 5))) (.region 4 (aI f 4) false))::Fj f
def Fl(f:Func):List Item:=.code (tD f 5):: .inBlock 1:: .code (.region 4 (aI f 4) false)::Fj f
theorem aAy:BG Tryz.f4=.seq (.region 0 (df Tryz.f4 0) false) (.seq (.region 1 (df Tryz.f4 1) false) (.seq (.seq (.region 2 (df Tryz.f4 2) false) (.block 0 (.loop (HW Tryz.f4)))) (.seq (.region 18 (df Tryz.f4 18) false) .ret))):=by kernel_rfl
def iL(n0:Nat)(rs:List dw)(n:Nat):List (Nat×(aH->Value->Prop)):=[(1,eA (.I 40)),(4,Fh n0),(5,Fg n0 (b_ rs n)),(6,eA (.I n))]
theorem HX(rs:List dw)(n:Nat):∀p∈iL n0 rs n,kf n0 p.2:=by intro p a;simp[iL]at a;grind[By,ayQ,ayR,ayW]
end
section
variable{n0:Nat}
def aAz(rs:List dw)(w:aH)(hn:n0<=w.heap.size):b8 vee [.code (BG Tryz.f4)] (.R (df Tryz.f4 3) (List.range' 1 8)::pJ Tryz.f4) (λa1 w1=>a1.defers=[]/\pz 123 ((20,eA (.I 0))::iL n0 rs 0) a1 w1/\Below n0 w w1)
 ⟨#[undef,.I 40]++Array.replicate 121 undef,[]⟩ w:=by
 have a:iK n0 (w.heap.size+1) (w.heap.size+2) (b_ rs 0) (((w.alloc (.cells #[.N] 27)).alloc (.cells #[.I 1,.I 0,.N,.N,.N,.I 1,.I 0,.N,.N,.N,.I 2,.I 2,.N,.N,.N,.I 3,.I 0,.N,.N,.N] 34)).alloc (.cells #[.S (w.heap.size+1) 0 4 4] 27)) ((List.range 12).map λi=>⟨jE i,.N,[]⟩) #[.I 1,.I 0,.N,.N,.N,.I 1,.I 0,.N,.N,.N,.I 2,.I 2,.N,.N,.N,.I 3,.I 0,.N,.N,.N]:=by
  refine⟨?_,AQ,?_,Y,λc x h=>?_,λj f=>⟨.N,?_,?_⟩,?_,AP,AP⟩
  .refine⟨λi hi=>?_,λi j hi f g k hg=>?_⟩
   .grind[World.ownsRow_nil]
   grind[Value.ownBlock]
  .have:=(ag.new (w.alloc (.cells #[.N] 27)) #[.I 1,.I 0,.N,.N,.N,.I 1,.I 0,.N,.N,.N,.I 2,.I 2,.N,.N,.N,.I 3,.I 0,.N,.N,.N] 34).alloc (.cells #[.S (w.heap.size+1) 0 4 4] 27);simp_all
  .simp at h;rcases h with⟨rfl,rfl⟩|⟨rfl,rfl⟩|⟨rfl,rfl⟩|⟨rfl,rfl⟩|⟨rfl,rfl⟩|⟨rfl,rfl⟩|⟨rfl,rfl⟩|⟨rfl,rfl⟩<;>rfl
  .simp[f,b_]
  .have o:j=0\/j=1\/j=2\/j=3\/j=4\/j=5\/j=6\/j=7\/j=8\/j=9\/j=10\/j=11:=by omega
   rcases o with rfl|rfl|rfl|rfl|rfl|rfl|rfl|rfl|rfl|rfl|rfl|rfl<;>rfl
  .have:=ag.new ((w.alloc (.cells #[.N] 27)).alloc (.cells #[.I 1,.I 0,.N,.N,.N,.I 1,.I 0,.N,.N,.N,.I 2,.I 2,.N,.N,.N,.I 3,.I 0,.N,.N,.N] 34)) #[.S (w.heap.size+1) 0 4 4] 27;simp_all
 have d:cy w (((w.alloc (.cells #[.N] 27)).alloc (.cells #[.I 1,.I 0,.N,.N,.N,.I 1,.I 0,.N,.N,.N,.I 2,.I 2,.N,.N,.N,.I 3,.I 0,.N,.N,.N] 34)).alloc (.cells #[.S (w.heap.size+1) 0 4 4] 27)):=(((vaa _ w).alloc Kj _).alloc AQ _).alloc An _;have b:ag (((w.alloc (.cells #[.N] 27)).alloc (.cells #[.I 1,.I 0,.N,.N,.N,.I 1,.I 0,.N,.N,.N,.I 2,.I 2,.N,.N,.N,.I 3,.I 0,.N,.N,.N] 34)).alloc (.cells #[.S (w.heap.size+1) 0 4 4] 27)) w.heap.size #[.N] 27:=((ag.new w _ _).alloc _).alloc _;have n:Hid _:=a;have m:Hid _:=d;have l:Hid _:=b;clear a d b;rw[aAy];simp only[df,aI,ss,tD,BG,HW,pJ,Fl,Tryz.f4,vae,bz.dJ,bz.kC,bz.mE,Nat.reduceBEq,vaf,↓reduceIte,Fj];simp[vbq];refine cg (Bv ?_);go_wp2
 refine⟨Y,cg (Bv ?_)⟩;go_wp2
 refine⟨Y,cg (cg (Bv ?_))⟩;go_wp2
 refine⟨Y,wG (VG (cg (cg (uM (KW 1 AU AU ?_)))))⟩;simp only[List.drop_zero,vdu,List.take_zero];go_wp2
 refine⟨Y,jS ⟨Y,⟨Y,λp e=>?_⟩,m.out.mono hn⟩⟩;simp only[iL,vbh,vbs,vdo]at e;rcases e with rfl|rfl|rfl|rfl|rfl
 .exact⟨_,Y,Y⟩
 .exact⟨_,Y,Y⟩
 .exact⟨_,Y,_,Y,hn,l.out⟩
 .exact⟨_,Y,_,_,_,_,Y,n.out⟩
 .exact⟨_,Y,Y⟩
end
section
variable{n0:Nat}
def aAA(rs:List dw)(n:Nat)(I:n<rs.length)(H:n<40)(a:Act)(w:aH)(hd:a.defers=[])(hs:pz 123 ((20,eA (.I n))::(22,eA (.I rs.length))::iL n0 rs n) a w):b8 vee (.R (df Tryz.f4 3) (List.range' 3 6)::pJ Tryz.f4) (.R (df Tryz.f4 5) (List.range' 0 6)::Fl Tryz.f4) (λa1 w1=>a1.defers=[]/\pz 123 (iL n0 rs n) a1 w1/\Below n0 w w1) a w:=by
 obtain⟨hsz,b⟩:=hs;obtain⟨v20,c,B⟩:=b (20,eA (.I n)) AQ;obtain⟨v22,s,A⟩:=b (22,eA (.I rs.length)) AQ;obtain⟨v1,m,y⟩:=b (1,eA (.I 40)) Dl;obtain⟨D,l,j⟩:=b (4,Fh n0) Dl;obtain⟨C,k,o⟩:=b (5,Fg n0 (b_ rs n)) Dl;obtain⟨u,i,z⟩:=b (6,eA (.I n)) Dl;have v:Hid _:=j;have x:Hid _:=o;clear b j o;obtain rfl:v20=.I n:=B;obtain rfl:v22=.I rs.length:=A;obtain rfl:v1=.I 40:=y;obtain rfl:u=.I n:=z;obtain⟨f,rfl⟩:=Qz hsz hd;have r:f 20=_:=van (show some (f 20)=some _ from c);have q:f 22=_:=van (show some (f 22)=some _ from s);have g1:f 1=_:=van (show some (f 1)=some _ from m);have d:f 6=_:=van (show some (f 6)=some _ from i);have g:f 4=_:=van (show some (f 4)=some _ from l);have e:f 5=_:=van (show some (f 5)=some _ from k);clear c s m i l k hsz hd;simp[r,q,g1,d,g,e];clear r q g1 d g e;have F:(n:Int)<(rs.length:Int):=AP;have E:(n:Int)<40:=AP;simp only[df,aI,ss,tD,BG,HW,pJ,Fl,Tryz.f4,vae,bz.dJ,bz.kC,bz.mE,Nat.reduceBEq,vaf,↓reduceIte,Fj];refine KW 6 AU AU ?_;simp only[List.drop_succ_cons,List.drop_zero,vdu,List.take_zero];go_wp2
 refine⟨Y,tv (lv (t:=true) Y ?_)⟩;rw[vbz Y];refine uL (cg (wG (cg (uM (jS ⟨Y,⟨Y,λp h=>?_⟩,vaa _ _⟩)))));simp[iL]at h;rcases h with rfl|rfl|rfl|rfl
 .exact⟨_,Y,Y⟩
 .exact⟨_,Y,v.out⟩
 .exact⟨_,Y,x.out⟩
 .exact⟨_,Y,Y⟩
end
section
variable{n0:Nat}
def Ao(n0:Nat)(bN:List bo):List (Nat×(aH->Value->Prop)):=[(4,HE n0 bN),(122,HD bN)]
def aAB(rs:List dw)(n:Nat)(P:n<=rs.length)(O:n<=40)(N:¬(n<rs.length/\n<40))(a:Act)(w:aH)(hd:a.defers=[])(hs:pz 123 ((20,eA (.I n))::(22,eA (.I rs.length))::iL n0 rs n) a w):b8 vee (.R (df Tryz.f4 3) (List.range' 3 6)::pJ Tryz.f4) [.code .ret] (λa1 w1=>a1.defers=[]/\pz 123 (Ao n0 (eD (rs.take 40))) a1 w1/\Below n0 w w1) a w:=by
 obtain⟨hsz,b⟩:=hs;obtain⟨v20,j,H⟩:=b (20,eA (.I n)) AQ;obtain⟨v22,z,F⟩:=b (22,eA (.I rs.length)) AQ;obtain⟨v1,v,D⟩:=b (1,eA (.I 40)) Dl;obtain⟨J,u,cm,rfl,e,d⟩:=b (4,Fh n0) Dl;obtain⟨I,s,bT,cK,L,cs,rfl,g⟩:=b (5,Fg n0 (b_ rs n)) Dl;obtain⟨A,r,E⟩:=b (6,eA (.I n)) Dl;clear b;obtain rfl:v20=.I n:=H;obtain rfl:v22=.I rs.length:=F;obtain rfl:v1=.I 40:=D;obtain rfl:A=.I n:=E;have B:rs.take n=rs.take 40:=by grind
 have e6:l6 (w.setCell ⟨cm,0,none⟩ (.S bT 0 4 4)) (.S bT 0 4 4) (eD (rs.take 40)):=by rw[<-B];exact l6.kept (iq.set d (by grind[qh]) _ _) (ayJ g)
 have l:Below n0 w (w.setCell ⟨cm,0,none⟩ (.S bT 0 4 4)):=(vaa _ w).setCell (p:=⟨cm,0,none⟩) e _;have u4:ag (w.setCell ⟨cm,0,none⟩ (.S bT 0 4 4)) cm #[.S bT 0 4 4] 27:=d.set 0 _;obtain⟨f1,S,f3⟩:=g.cK.all;obtain⟨f4,R,Q⟩:=d.all;have c:Hid _:=e6;have BE:Hid _:=l;have i:Hid _:=u4;have h:Hid _:=e;clear e6 l u4 d g e;obtain⟨f,rfl⟩:=Qz hsz hd;have y:f 20=_:=van (show some (f 20)=some _ from j);have x:f 22=_:=van (show some (f 22)=some _ from z);have g1:f 1=_:=van (show some (f 1)=some _ from v);have k:f 6=_:=van (show some (f 6)=some _ from r);have o:f 4=_:=van (show some (f 4)=some _ from u);have m:f 5=_:=van (show some (f 5)=some _ from s);clear j z v r u s hsz hd;simp[y,x,g1,k,o,m];clear y x g1 k o m;simp only[df,aI,ss,tD,BG,HW,pJ,Fl,Tryz.f4,vae,bz.dJ,bz.kC,bz.mE,Nat.reduceBEq,vaf,↓reduceIte,Fj];refine KW 6 AU AU ?_;simp only[List.drop_succ_cons,List.drop_zero,vdu,List.take_zero];by_cases M:n<rs.length;all_goals
  first
   |(have C:(n:Int)<(rs.length:Int):=AP)
   |(have C:¬(n:Int)<(rs.length:Int):=AP)
  try(have K:¬(n:Int)<40:=AP)
  go_wp2
  refine⟨Y,tv (lv (t:=false) Y ?_)⟩;rw[vbt AU];refine VI Y (cg (Bv ?_));go_wp2
  refine⟨Y,jS ⟨Y,⟨Y,λp q=>?_⟩,BE.out⟩⟩;simp[Ao]at q;rcases q with rfl|rfl
  .exact⟨_,Y,_,_,Y,h.out,i.out,c.out⟩
  .exact⟨_,Y,_,Y,c.out⟩
end
section
variable{n0:Nat}
def aAE{P:cf}{c:Code}{ks ks':uaa}{Q d:uag}{a:Act}{w:aH}(h:c.wp P (kE d) a w)(hq:∀a1 w1,d a1 w1->b8 P ks ks' Q a1 w1):b8 P (.code c::ks) ks' Q a w:=
 Bv λb k cs=>let⟨e,a1,w1,⟨i,g⟩,f⟩:=h b k cs;⟨e,a1,w1,⟨i,hq _ _ g⟩,f⟩
def aAF(rs:List dw)(n:Nat)(z:n<40)(a:Act)(w:aH)(hd:a.defers=[])(hs:pz 123 [(1,eA (.I 40)),(4,Fh n0),(5,Fg n0 (b_ rs (n+1))),(6,eA (.I n))] a w):b8 vee (.inBlock 1:: .code (.region 4 (aI Tryz.f4 4) false)::Fj Tryz.f4) (.R (df Tryz.f4 3) (List.range' 1 8)::pJ Tryz.f4) (λa1 w1=>a1.defers=[]/\pz 123 ((20,eA (.I (n+1:Nat)))::iL n0 rs (n+1)) a1 w1/\w1=w) a w:=by
 obtain⟨hsz,b⟩:=hs;obtain⟨v1,m,t⟩:=b (1,eA (.I 40)) AQ;obtain⟨y,l,j⟩:=b (4,Fh n0) AQ;obtain⟨x,k,o⟩:=b (5,Fg n0 (b_ rs (n+1))) AQ;obtain⟨q,i,v⟩:=b (6,eA (.I n)) AQ;have r:Hid _:=j;have s:Hid _:=o;clear b j o;obtain rfl:v1=.I 40:=t;obtain rfl:q=.I n:=v;obtain⟨f,rfl⟩:=Qz hsz hd;have g1:f 1=_:=van (show some (f 1)=some _ from m);have c:f 6=_:=van (show some (f 6)=some _ from i);have e:f 4=_:=van (show some (f 4)=some _ from l);have d:f 5=_:=van (show some (f 5)=some _ from k);clear m i l k hsz hd;simp only[g1,c,e,d];clear g1 c e d;have g:(n:Int)+1=((n+1:Nat):Int):=AP;have rV:Hid _:=g;clear g;refine KV ?_;have u:(aI Tryz.f4 4).size=3:=AM;simp only[Fj,pJ];refine Bv ?_;have hq:aI Tryz.f4 4=(aI Tryz.f4 4):=rfl;simp only[aI,ss,Tryz.f4,vae,Nat.reduceBEq,vaf,↓reduceIte];go_wp2
 refine⟨Y,VH ?_⟩;simp only[df,aI,ss,tD,BG,HW,pJ,Fl,Tryz.f4,vae,bz.dJ,bz.kC,bz.mE,Nat.reduceBEq,vaf,↓reduceIte];refine cg (cg (uM (KW 1 AU AU ?_)));simp only[List.drop_zero,vdu,List.take_zero];go_wp2
 refine⟨Y,jS ⟨Y,⟨Y,λp h=>?_⟩,Y⟩⟩;simp only[iL,vbh,vbs,vdo]at h;rcases h with rfl|rfl|rfl|rfl|rfl
 .simp_all[eA]
 .exact⟨_,Y,Y⟩
 .exact⟨_,Y,r.out⟩
 .exact⟨_,Y,s.out⟩
 simp_all[eA]
end
section
variable{n0:Nat}
def aAG(rs:List dw)(n:Nat)(Z:n<rs.length)(I:n<40)(c3:c9 rs[n].1)(X:c9 rs[n].2.1)(W:c9 rs[n].2.2.1)(V:c9 rs[n].2.2.2)(a:Act)(w:aH)(hn:n0<=w.heap.size)(hd:a.defers=[])(hs:pz 123 ((34,eA (.agg #[.I rs[n].1,.I rs[n].2.1,.I rs[n].2.2.1,.I rs[n].2.2.2]))::iL n0 rs n) a w):b8 vee (.R (df Tryz.f4 5) (List.range' 4 2)::Fl Tryz.f4) (.R (df Tryz.f4 3) (List.range' 1 8)::pJ Tryz.f4) (λa1 w1=>a1.defers=[]/\pz 123 ((20,eA (.I (n+1:Nat)))::iL n0 rs (n+1)) a1 w1/\Below n0 w w1) a w:=by
 obtain⟨hsz,b⟩:=hs;obtain⟨v34,g,y⟩:=b (34,eA (.agg #[.I rs[n].1,.I rs[n].2.1,.I rs[n].2.2.1,.I rs[n].2.2.2])) AQ;obtain⟨v1,c,U⟩:=b (1,eA (.I 40)) Dl;obtain⟨v4,K,cm,rfl,z,q⟩:=b (4,Fh n0) Dl;obtain⟨v5,J,bT,cK,L,cs,rfl,i⟩:=b (5,Fg n0 (b_ rs n)) Dl;obtain⟨P,F,bE⟩:=b (6,eA (.I n)) Dl;clear b;obtain rfl:v34=.agg #[.I rs[n].1,.I rs[n].2.1,.I rs[n].2.2.1,.I rs[n].2.2.2]:=y;obtain rfl:v1=.I 40:=U;obtain rfl:P=.I n:=bE;have m:=(vaa w.heap.size w).alloc Kj (.cells #[.I rs[n].1,.I rs[n].2.1,.I rs[n].2.2.1,.I rs[n].2.2.2] 59);have D:ag (w.alloc (.cells #[.I rs[n].1,.I rs[n].2.1,.I rs[n].2.2.1,.I rs[n].2.2.2] 59)) w.heap.size #[.I rs[n].1,.I rs[n].2.1,.I rs[n].2.2.1,.I rs[n].2.2.2] 59:=ag.new w _ _;have l:=q.call m;have j:=i.below m;have C:Below n0 w (w.alloc (.cells #[.I rs[n].1,.I rs[n].2.1,.I rs[n].2.2.1,.I rs[n].2.2.2] 59)):=m.mono hn;have N:ia L w.heap.size:=i.gP.nY AJ;have s:bT≠w.heap.size:=by have:=i.box.lt;omega
 have r:bT≠cm:=λe=>by have c:=i.box;rw[e]at c;have M:w.heap[cm]?=some (.cells cs 34):=c;rw[show w.heap[cm]?=some (.cells #[.N] 27)from q]at M;cases M
 have LJ:Hid _:=D;have O:Hid _:=l;have x:Hid _:=j;have bP:Hid _:=C;have v:Hid _:=z;clear D l j C m q i z;obtain⟨f,rfl⟩:=Qz hsz hd;have d:f 34=_:=van (show some (f 34)=some _ from g);have g1:f 1=_:=van (show some (f 1)=some _ from c);have A:f 6=_:=van (show some (f 6)=some _ from F);have o:f 4=_:=van (show some (f 4)=some _ from K);have B:f 5=_:=van (show some (f 5)=some _ from J);clear g c F K J hsz hd;simp only[d,g1,A,o,B];clear d g1 A o B;have step:∀(k:uaa)(Q:uag),b8 vee k (.R (df Tryz.f4 3) (List.range' 1 8)::pJ Tryz.f4) Q ⟨#[(f 0),.I 40,(f 2),(f 3),.P cm 0,.P cK 0,.I n,.P w.heap.size 0,(f 8),(f 9),(f 10),(f 11),(f 12),(f 13),(f 14),(f 15),(f 16),(f 17),(f 18),(f 19),(f 20),(f 21),(f 22),(f 23),(f 24),(f 25),(f 26),(f 27),(f 28),(f 29),(f 30),(f 31),(f 32),(f 33),.agg #[.I rs[n].1,.I rs[n].2.1,.I rs[n].2.2.1,.I rs[n].2.2.2],(f 35),(f 36),(f 37),(f 38),(f 39),(f 40),(f 41),(f 42),(f 43),(f 44),(f 45),(f 46),(f 47),(f 48),(f 49),(f 50),(f 51),(f 52),(f 53),(f 54),(f 55),(f 56),(f 57),(f 58),(f 59),(f 60),(f 61),(f 62),(f 63),(f 64),(f 65),(f 66),(f 67),(f 68),(f 69),(f 70),(f 71),(f 72),(f 73),(f 74),(f 75),(f 76),(f 77),(f 78),(f 79),(f 80),(f 81),(f 82),(f 83),(f 84),(f 85),(f 86),(f 87),(f 88),(f 89),(f 90),(f 91),(f 92),(f 93),(f 94),(f 95),(f 96),(f 97),(f 98),(f 99),(f 100),(f 101),(f 102),(f 103),(f 104),(f 105),(f 106),(f 107),(f 108),(f 109),(f 110),(f 111),(f 112),(f 113),(f 114),(f 115),(f 116),(f 117),(f 118),(f 119),(f 120),(f 121),(f 122)],[]⟩ (w.alloc (.cells #[.I rs[n].1,.I rs[n].2.1,.I rs[n].2.2.1,.I rs[n].2.2.2] 59))->b8 vee (.R (df Tryz.f4 5) (List.range' 4 2)::k) (.R (df Tryz.f4 3) (List.range' 1 8)::pJ Tryz.f4) Q ⟨#[(f 0),.I 40,(f 2),(f 3),.P cm 0,.P cK 0,.I n,(f 7),(f 8),(f 9),(f 10),(f 11),(f 12),(f 13),(f 14),(f 15),(f 16),(f 17),(f 18),(f 19),(f 20),(f 21),(f 22),(f 23),(f 24),(f 25),(f 26),(f 27),(f 28),(f 29),(f 30),(f 31),(f 32),(f 33),.agg #[.I rs[n].1,.I rs[n].2.1,.I rs[n].2.2.1,.I rs[n].2.2.2],(f 35),(f 36),(f 37),(f 38),(f 39),(f 40),(f 41),(f 42),(f 43),(f 44),(f 45),(f 46),(f 47),(f 48),(f 49),(f 50),(f 51),(f 52),(f 53),(f 54),(f 55),(f 56),(f 57),(f 58),(f 59),(f 60),(f 61),(f 62),(f 63),(f 64),(f 65),(f 66),(f 67),(f 68),(f 69),(f 70),(f 71),(f 72),(f 73),(f 74),(f 75),(f 76),(f 77),(f 78),(f 79),(f 80),(f 81),(f 82),(f 83),(f 84),(f 85),(f 86),(f 87),(f 88),(f 89),(f 90),(f 91),(f 92),(f 93),(f 94),(f 95),(f 96),(f 97),(f 98),(f 99),(f 100),(f 101),(f 102),(f 103),(f 104),(f 105),(f 106),(f 107),(f 108),(f 109),(f 110),(f 111),(f 112),(f 113),(f 114),(f 115),(f 116),(f 117),(f 118),(f 119),(f 120),(f 121),(f 122)],[]⟩ w:=by
  intro k Q h;have H:Hid _:=h;clear h;simp only[df,Tryz.f4,vae,bz.dJ,bz.mE,Nat.reduceBEq,vaf,↓reduceIte]at H⊢;refine KW 2 AU AU ?_;simp only[List.drop_succ_cons,List.drop_zero,vdu,List.take_zero];go_wp2
  exact⟨rfl,tv H.out⟩
 refine step _ _ (aAE (wpIn_wide.1 (ayY rs n Z I c3 X W V n0 bT cm cK w.heap.size w (w.alloc (.cells #[.I rs[n].1,.I rs[n].2.1,.I rs[n].2.2.1,.I rs[n].2.2.2] 59)) L cs hn x.out LJ.out O.out bP.out N s r (f 0) (f 2) (f 3) (.P cm 0) (f 8) (f 9) (f 10) (f 11) (f 12) (f 13) (f 14) (f 15) (f 16) (f 17) (f 18) (f 19) (f 20) (f 21) (f 22) (f 23) (f 24) (f 25) (f 26) (f 27) (f 28) (f 29) (f 30) (f 31) (f 32) (f 33) (.agg #[.I rs[n].1,.I rs[n].2.1,.I rs[n].2.2.1,.I rs[n].2.2.2]) (f 35) (f 36) (f 37) (f 38) (f 39) (f 40) (f 41) (f 42) (f 43) (f 44) (f 45) (f 46) (f 47) (f 48) (f 49) (f 50) (f 51) (f 52) (f 53) (f 54) (f 55) (f 56) (f 57) (f 58) (f 59) (f 60) (f 61) (f 62) (f 63) (f 64) (f 65) (f 66) (f 67) (f 68) (f 69) (f 70) (f 71) (f 72) (f 73) (f 74) (f 75) (f 76) (f 77) (f 78) (f 79) (f 80) (f 81) (f 82) (f 83) (f 84) (f 85) (f 86) (f 87) (f 88) (f 89) (f 90) (f 91) (f 92) (f 93) (f 94) (f 95) (f 96) (f 97) (f 98) (f 99) (f 100) (f 101) (f 102) (f 103) (f 104) (f 105) (f 106) (f 107) (f 108) (f 109) (f 110) (f 111) (f 112) (f 113) (f 114) (f 115) (f 116) (f 117) (f 118) (f 119) (f 120) (f 121) (f 122))) ?_);rintro a1 w1 ⟨⟨bj,a_,T,l,j,S⟩,⟨Qj,cs1,r1⟩,R,r3⟩;intro u t;obtain⟨bV,w2,⟨g1,g2,gA⟩,o⟩:=aAF rs n I a1 w1 bj ⟨a_,λp E=>by
  simp at E;rcases E with rfl|rfl|rfl|rfl
  .exact⟨_,T,rfl⟩
  .exact⟨_,l,cm,rfl,v.out,R⟩
  .exact⟨_,j,bT,cK,Qj,cs1,rfl,r1⟩
  .exact⟨_,S,rfl⟩⟩ u t
 grind
end
variable{d:Tmp}
section
open kO
variable{O:fk}{n0:Nat}
section
variable{P:cf}{Post:fX}{n:Nat}{Shun:uai}{w:aH}{f:uah}{b:Act}{ops:fC}{i:Nat}{rest:uad}{k:uaa}{cs:fG}{o:Oper}
def HY(j:ops[i]?=some o)(p:o.guard=none)(hd:o.dst=some d){v:Value}{es:uao}(h:∀k',(execOp b.eval o).run P (w.at k')=.ok (.value v) (w.at k'))(l:∀k',(execOp b.eval o).events P (w.at k') #[]=es)(hs:seen P f es=es)(c:∀e∈es,pq Shun w.heap.size e)(r:deafBehind 0 es=0)(q:∀k',bK P Post n Shun 0 (a0 ((base f).at (b.put (some d) v) (.R ops rest::k)) cs) (w.at k')):bK P Post n Shun 0 (a0 ((base f).at b (.R ops (i::rest)::k)) cs) w:=by
 refine Dn Y λk'=>⟨_,w.at k',es,?_,c,vad _,by rw[r];exact q k'⟩;have g:=vaq (P:=P) (main:=true) (b:=base f) (a:=b) (k:=k) (cs:=cs) (rest:=rest) j (xW p _) (by simp[base]) (h k');have m:listed P (base f).fn b o (w.at k')=es:=by unfold listed;rw[l k'];exact hs
 rw[m,hd]at g;exact g
end
def rI(v0:Value)(n:Nat):fH:=⟨λi=>i==0||i==21||i==31||i==33,λi=>i==0,λ_=>some v0,λt=>t==22,n⟩
def QA(v0:Value)(n:Nat){l:uaa}(h:l.all (hZ (rI undef 0))=true):l.all (hZ (rI v0 n))=true:=(tX (D:=rI v0 n) (D':=rI undef 0) Y Y Y l).trans h
def QB(v0:Value)(n:Nat):Bn prog (rI v0 n) 4:=by
 refine⟨⟨_,func4,?_⟩,λt h=>?_,BR⟩
 .rw[results4];simp[Do,rI]
 grind[rI,underlying22]
def aAM:gz prog true Tryz.f4=true:=by decide+kernel
def QC:ln prog 4:=EP func4 aAM Y
structure oi(O:fk)(n0:Nat)(aT:dY)(w0:aH)(D:fH)(Shun:uai)(fs:List (Nat×(aH->Value->Prop)))(a b:Act)(M:dY)(w:aH):Prop where
 held:Held O prog aT w0 n0 a M w Shun
 n8:gb D a b
 slots:pz 123 fs a w
 ii:∀p∈fs,kf n0 p.2
section
variable{aT:dY}{w0:aH}{D:fH}{Shun:uai}{fs:List (Nat×(aH->Value->Prop))}{a b:Act}{M:dY}{w:aH}
theorem oi.at(h:oi O n0 aT w0 D Shun fs a b M w)(k:Nat):oi O n0 aT w0 D Shun fs a b M (w.at k):=
 ⟨h.held.at k,h.n8,z_ h.ii _ _ _ _ _ ((show cP M w (w.at k)from λ_ _ _ _ _ x=>x).mL h.held.gq) h.held.all h.slots,h.ii⟩
theorem Held.put(h:Held O prog aT w0 n0 a M w Shun)(d:Tmp){v:Value}(hv:ax (bG M) v v):Held O prog aT w0 n0 (a.put (some d) v) M w Shun:=
 ⟨h.gq,h.sub,h.since,h.keep,h.all.set hv _,Iq,h.size⟩
def gb.LR(h:gb D a b)(g:D.T d=true)(hK:D.K d=false)(v:Value):gb D (a.put (some d) undef) (b.put (some d) v):=by
 refine⟨by rw[gY,gY];exact h.size,λi hi=>?_,λi x hi f=>?_,λi hi=>?_,by rw[put_defers,put_defers];exact h.defers⟩
 .have c:d≠i:=AJ;simp[Act.put,c];exact h.same i hi
 .by_cases e:d=i
  .simp_all[Act.put,vam]
  .simp[Act.put,e]at f;exact h.gone i x hi f
 .have c:d≠i:=AJ;simp[Act.put,c];exact h.kept i hi
def lK(h:pz 123 fs a w)(hd:∀p∈fs,d≠p.1)(v:Value):pz 123 fs (a.put (some d) v) w:=
 ⟨by rw[gY];exact h.1,λp b=>by
  obtain⟨x,e,c⟩:=h.2 p b;grind[dV]⟩
theorem oi.LR(h:oi O n0 aT w0 D Shun fs a b M w)(c:D.T d=true)(hK:D.K d=false)(hd:∀p∈fs,d≠p.1)(v:Value):oi O n0 aT w0 D Shun fs (a.put (some d) undef) (b.put (some d) v) M w:=
 ⟨h.held.put d (.undef _),h.n8.LR c hK v,lK h.slots hd _,h.ii⟩
def oi.Xu(h:oi O n0 aT w0 D Shun fs a b M w)(f:D.T d=false)(hK:D.K d=false)(hd:∀p∈fs,d≠p.1)(hs:d<123){v:Value}(hv:ax (bG M) v v)(e:kf n0 (eA v)):oi O n0 aT w0 D Shun ((d,eA v)::fs) (a.put (some d) v) (b.put (some d) v) M w:=
 ⟨h.held.put d hv,h.n8.put f hK v,⟨by rw[gY];exact h.slots.1,λp c=>by
  rcases vbh.1 c with rfl|c
  .exact⟨v,kS (by rw[h.slots.1];exact hs),Y⟩
  .exact(lK h.slots hd v).2 p c⟩,λp c=>by
  rcases vbh.1 c with rfl|c
  .exact e
  .exact h.ii p c⟩
def oi.less(h:oi O n0 aT w0 D Shun fs a b M w){gs:List (Nat×(aH->Value->Prop))}(hg:∀p∈gs,p∈fs):oi O n0 aT w0 D Shun gs a b M w:=
 ⟨h.held,h.n8,⟨h.slots.1,λp c=>h.slots.2 p (hg p c)⟩,λp c=>h.ii p (hg p c)⟩
end
end
section
open kO
variable{O:fk}{n0:Nat}
def aAN(O:fk)(bm:uam)(i:Nat)(r:dw):Prop:=∃B off c e z,bm=some ⟨B,off,none⟩/\0<B/\B<O.n/\O.heap[B]?=some (.cells c e z)/\(c[off+i*4]?=some (.I r.1)/\c[off+i*4+1]?=some (.I r.2.1)/\c[off+i*4+2]?=some (.I r.2.2.1)/\c[off+i*4+3]?=some (.I r.2.2.2))/\c9 r.1/\c9 r.2.1/\c9 r.2.2.1/\c9 r.2.2.2
def LS(O:fk)(rv:Value)(rs:List dw):Prop:=∃bm cap,rv=.slice bm rs.length cap/\∀i(h:i<rs.length),aAN O bm i rs[i]
def HZ{fs:List (Nat×(aH->Value->Prop))}{d:Nat}(h:(fs.map (·.1)).all (λx=>x != d)=true):∀p∈fs,d≠p.1:=AJ
section
variable{Post:fX}{n:Nat}{Shun:uai}{aT:dY}{w0:aH}{rv:Value}{rs:List dw}{c:Frame}{csZ:fG}
def lJ{es:uao}(h:∀e∈es,∀m,e.loc≠ .mark m):seen prog 4 es=es:=
 seen_eq (by rw[func4];rfl) AJ
def aAO{x y z u:Int}:kf n0 (eA (.agg #[.I x,.I y,.I z,.I u])):=λ_ _ _ _ _ _ hv h=>by
 cases h;obtain⟨e,rfl,k⟩:=pB hv;cases k with
 |cons d k=>cases k with
  |cons c k=>cases k with
   |cons b k=>cases k with
    |cons a k=>cases k;rw[gM d,gM c,gM b,gM a];rfl
def lH{bN:List bo}:∀p∈Ao n0 bN,kf n0 p.2:=by intro p a;simp[Ao]at a;grind[WA,wV]
theorem ly(bt:LS O rv rs)(m6:∀a b M w,oi O n0 aT w0 (rI rv (c::csZ).length) Shun (Ao n0 (eD (rs.take 40))) a b M w->bK prog Post n Shun 0 (a0 ((base 4).at b [.code .ret]) (c::csZ)) w){cF:Nat}(cx:∀a b M w,cF<rs.length/\cF<40->oi O n0 aT w0 (rI rv (c::csZ).length) Shun ((20,eA (.I (cF+1:Nat)))::iL n0 rs (cF+1)) a b M w->bK prog Post n Shun 0 (a0 ((base 4).at b (.R (df Tryz.f4 3) (List.range' 1 8)::pJ Tryz.f4)) (c::csZ)) w)(a b:Act)(M:dY)(w:aH)(h1:cF<=rs.length)(h2:cF<=40)(u:oi O n0 aT w0 (rI rv (c::csZ).length) Shun ((20,eA (.I cF))::iL n0 rs cF) a b M w):bK prog Post n Shun 0 (a0 ((base 4).at b (.R (df Tryz.f4 3) (List.range' 1 8)::pJ Tryz.f4)) (c::csZ)) w:=by
 obtain⟨bm,cap,ND,b4⟩:=id bt;have A:b.tmps[0]?=some rv:=u.n8.kept 0 rfl;rw[show List.range' 1 8=1::List.range' 2 7 from rfl];obtain⟨o,f⟩:∃o,(df Tryz.f4 3)[1]?=some o:=⟨_,A_⟩;obtain rfl:=Hp f;have ev:=A;refine HY f rfl rfl (v:=rv) (es:=#[]) (λk'=>EF) (λk'=>EF) (vcm _ _) AQ rfl λi=>?_;have O1:=(u.LR (d:=21) rfl rfl (HZ rfl) rv).at i;have Pq:(b.put (some 21) rv).tmps[21]?=some (.slice bm rs.length cap):=by rw[<-ND];exact kS (by rw[u.n8.size,u.slots.1];decide)
 have H:(b.put (some 21) rv).tmps[0]?=some rv:=(dV AU).trans A;clear f ev A u;generalize b.put (some 21) rv=b1 at *;generalize a.put (some 21) undef=a1 at *;generalize w.at i=w1 at *;clear i a b w;rw[show List.range' 2 7=2::List.range' 3 6 from rfl];obtain⟨o,f⟩:∃o,(df Tryz.f4 3)[2]?=some o:=⟨_,A_⟩;obtain rfl:=Hp f;have ev:=Pq;refine HY f rfl rfl (v:=.I rs.length) (es:=#[]) (λk'=>EF) (λk'=>EF) (vcm _ _) AQ rfl λk=>?_;have qq:=(O1.Xu (d:=22) rfl rfl (HZ rfl) AU (v:=.I rs.length) (.int _ _) (By _ _)).at k;have A:(b1.put (some 22) (.I rs.length)).tmps[0]?=some rv:=(dV AU).trans H;clear f ev H Pq O1;generalize b1.put (some 22) (.I rs.length)=b2 at *;generalize a1.put (some 22) (.I rs.length)=bV at *;generalize w1.at k=w2 at *;clear k a1 b1 w1;have h:=qq.less (gs:=(20,eA (.I cF))::(22,eA (.I rs.length))::iL n0 rs cF) AJ;clear qq;by_cases g:cF<rs.length/\cF<40
 .refine LG mH follows QC rfl (QB rv _) h.n8 (QA rv _ AM) h.held (k':=.R (df Tryz.f4 5) (List.range' 0 6)::Fl Tryz.f4) AM AM (z_ h.ii) (z_ (HX rs cF)) h.slots (λW Z y=>aAA rs cF g.1 g.2 bV W h.held.defers y) ?_;intro C q T t L K Q;have P:oi O n0 aT w0 (rI rv (c::csZ).length) Shun (iL n0 rs cF) C q T t:=⟨L,K,Q,HX rs cF⟩;have f0:q.tmps[0]?=some rv:=K.kept 0 rfl;clear h L K Q A;obtain⟨B,off,cc,e,z,aAP,ox,hB,hc,⟨cz,c1,co,db⟩,i0,i1,i2,i3⟩:=b4 cF g.1;subst aAP;rw[show List.range' 0 6=0::1::2::3::List.range' 4 2 from rfl];obtain⟨o,f⟩:∃o,(df Tryz.f4 5)[0]?=some o:=⟨_,A_⟩;obtain rfl:=Hp f;have ev:=f0;refine HY f rfl rfl (v:=rv) (es:=#[]) (λk'=>EF) (λk'=>EF) (vcm _ _) AQ rfl λi=>?_;have s:=(P.LR (d:=31) rfl rfl (HZ rfl) rv).at i;have F:(q.put (some 31) rv).tmps[31]?=some (.S B off rs.length cap):=(kS (by rw[P.n8.size,P.slots.1];decide)).trans (congrArg some ND)
  clear f ev f0 P;generalize q.put (some 31) rv=cm at *;generalize C.put (some 31) undef=cN at *;generalize t.at i=w4 at *;clear i C q t;obtain⟨o,f⟩:∃o,(df Tryz.f4 5)[1]?=some o:=⟨_,A_⟩;obtain rfl:=Hp f;have hX:cm.tmps[6]?=some (.I cF):=by obtain⟨v,h1,h2⟩:=s.slots.2 (6,eA (.I cF)) Dl;obtain rfl:v=_:=h2;exact(s.n8.same 6 rfl).trans h1
  have ev:=hX;refine HY f rfl rfl (v:=.I cF) (es:=#[]) (λk'=>EF) (λk'=>EF) (vcm _ _) AQ rfl λk=>?_;have N:=(s.Xu (d:=32) rfl rfl (HZ rfl) AU (v:=.I cF) (.int _ _) (By _ _)).at k;have f31:(cm.put (some 32) (.I cF)).tmps[31]?=some (.S B off rs.length cap):=(dV AU).trans F;have f32:(cm.put (some 32) (.I cF)).tmps[32]?=some (.I cF):=kS (by rw[s.n8.size,s.slots.1];decide);clear f ev hX F s;generalize cm.put (some 32) (.I cF)=cK at *;generalize cN.put (some 32) (.I cF)=fO at *;generalize w4.at k=io at *;clear k cN cm w4;obtain⟨o,f⟩:∃o,(df Tryz.f4 5)[2]?=some o:=⟨_,A_⟩;obtain rfl:=Hp f;have ev:=f31;have Xv:=f32;have i:(cF:Int)<(rs.length:Int):=AP;have ez:(0:Int)<=(cF:Int):=AP;refine HY f rfl rfl (v:=.P B (off+cF*4)) (es:=#[]) (λk'=>by simp[go_sem,ev,Xv,ez,g.1,Addr.add]) (λk'=>by simp[go_sem,ev,Xv,ez,g.1]) (vcm _ _) AQ rfl λV=>?_;have Xw:=(N.LR (d:=33) rfl rfl (HZ rfl) (.P B (off+cF*4))).at V;have f33:(cK.put (some 33) (.P B (off+cF*4))).tmps[33]?=some (.P B (off+cF*4)):=kS (by rw[N.n8.size,N.slots.1];decide);clear f ev Xv f31 f32 N;generalize cK.put (some 33) (.P B (off+cF*4))=ff at *;generalize fO.put (some 33) undef=lG at *;generalize io.at V=r at *;clear V fO cK io;obtain⟨o,f⟩:∃o,(df Tryz.f4 5)[3]?=some o:=⟨_,A_⟩;obtain rfl:=Hp f;have ev:=f33;have aQ:=Xw.held.gq;have E:r.heap[B]?=some (.cells cc e z):=(aQ.old B ox hB).trans hc;have d:∀k' j x,cc[j]?=some x->(r.at k').cell? (.a B j)=some x:=λk' j x X=>by have:(r.at k').heap[B]?=some (.cells cc e z):=E;grind[World.cell?]
  refine HY f rfl rfl (v:=.agg #[.I rs[cF].1,.I rs[cF].2.1,.I rs[cF].2.2.1,.I rs[cF].2.2.2]) (es:=#[⟨.cell ⟨B,off+cF*4,none⟩,false,false⟩,⟨.cell ⟨B,off+cF*4+1,none⟩,false,false⟩,⟨.cell ⟨B,off+cF*4+2,none⟩,false,false⟩,⟨.cell ⟨B,off+cF*4+3,none⟩,false,false⟩]) (λk'=>?_) (λk'=>?_) (lJ λe c3 m hm=>?_) (λe c3=>?_) rfl λU=>?_
  .have S:=d k' _ _ cz;have bj:=d k' _ _ c1;have a_:=d k' _ _ co;have R:=d k' _ _ db;simp[go_sem,ev,S,bj,a_,R]
  .have S:=d k' _ _ cz;have bj:=d k' _ _ c1;have a_:=d k' _ _ co;have R:=d k' _ _ db;simp[go_sem,ev,S,bj,a_,R]
  .grind
  .have xG:B<r.heap.size:=AJ;simp at c3;rcases c3 with rfl|rfl|rfl|rfl<;>exact Bj (aQ.so B hB _ rfl) xG _
  have D:=(Xw.Xu (d:=34) rfl rfl (HZ rfl) AU (v:=.agg #[.I rs[cF].1,.I rs[cF].2.1,.I rs[cF].2.2.1,.I rs[cF].2.2.2]) (.oW (lg (l:=[.I rs[cF].1,.I rs[cF].2.1,.I rs[cF].2.2.1,.I rs[cF].2.2.2]) λx X=>by
   simp at X;rcases X with rfl|rfl|rfl|rfl<;>exact .int _ _)) aAO).at U
  clear f ev f33 Xw aQ E d;generalize ff.put (some 34) (.agg #[.I rs[cF].1,.I rs[cF].2.1,.I rs[cF].2.2.1,.I rs[cF].2.2.2])=rG at *;generalize lG.put (some 34) (.agg #[.I rs[cF].1,.I rs[cF].2.1,.I rs[cF].2.2.1,.I rs[cF].2.2.2])=n6 at *;generalize r.at U=xm at *;clear U lG ff r;have I:=D.less (gs:=(34,eA (.agg #[.I rs[cF].1,.I rs[cF].2.1,.I rs[cF].2.2.1,.I rs[cF].2.2.2]))::iL n0 rs cF) AJ;clear D;refine LG mH follows QC rfl (QB rv _) I.n8 (QA rv _ AM) I.held (k':=.R (df Tryz.f4 3) (List.range' 1 8)::pJ Tryz.f4) AM AM (z_ I.ii) (J:=pz 123 ((20,eA (.I (cF+1:Nat)))::iL n0 rs (cF+1))) (z_ λp hp=>?_) I.slots (λW Z y=>aAG rs cF g.1 g.2 i0 i1 i2 i3 n6 W Z I.held.defers y) ?_
  .grind[By,HX]
  .intro s2 ki kG AT H2 aAQ aAR;refine cx s2 ki kG AT g ⟨H2,aAQ,aAR,λp hp=>?_⟩;grind[By,HX]
 .refine LG mH follows QC rfl (QB rv _) h.n8 (QA rv _ AM) h.held (k':=[.code .ret]) AM AM (z_ h.ii) (J:=pz 123 (Ao n0 (eD (rs.take 40)))) (z_ lH) h.slots (λW Z y=>aAB rs cF h1 h2 g bV W h.held.defers y) ?_;intro C q T t L K Q;exact m6 C q T t ⟨L,K,Q,lH⟩
def aAS(j:LS O rv rs)(d:∀a b M w,oi O n0 aT w0 (rI rv (c::csZ).length) Shun (Ao n0 (eD (rs.take 40))) a b M w->bK prog Post n Shun 0 (a0 ((base 4).at b [.code .ret]) (c::csZ)) w):
 ∀(m cF:Nat)(a b:Act)(M:dY)(w:aH),40-cF<=m->cF<=rs.length->cF<=40->oi O n0 aT w0 (rI rv (c::csZ).length) Shun ((20,eA (.I cF))::iL n0 rs cF) a b M w->bK prog Post n Shun 0 (a0 ((base 4).at b (.R (df Tryz.f4 3) (List.range' 1 8)::pJ Tryz.f4)) (c::csZ)) w:=by
 intro m;induction m with|zero=>grind[ly]|succ m e=>intro cF a b M w k i h f;exact ly j d (λa b M w l g=>e (cF+1) a b M w AP AP AP g) a b M w i h f
end
end
section
open kO
variable{O:fk}{n0:Nat}
section
variable{Post:fX}{n:Nat}{Shun:uai}{aT:dY}{w0:aH}{rv:Value}{rs:List dw}{c:Frame}{csZ:fG}
def aAT{D:fH}{bN:List bo}{a b:Act}{M:dY}{w:aH}(q:D.T 4=false)(d:oi O n0 aT w0 D Shun (Ao n0 bN) a b M w)(t:∀u k,ax (bG M) u u->HD bN (w.at k) u->bK prog Post n Shun 0 (a0 (c.finish u) csZ) (w.at k)):bK prog Post n Shun 0 (a0 ((base 4).at b [.code .ret]) (c::csZ)) w:=by
 have i:=d.held.gq;have hd:b.defers=[]:=d.n8.defers.trans d.held.defers;obtain⟨v,s,cm,aA,rfl,y,o,h⟩:=d.slots.2 (4,HE n0 bN) (by simp[Ao]);have j:a.tmps[4]?=some (.P cm 0):=s;have f4:b.tmps[4]?=some (.P cm 0):=(d.n8.same 4 q).trans j;have g:M cm:=by have:=d.held.all.get 4 _ _ j j;cases this with|ptr r=>exact r.1.2
 have l:w.cell? (.a cm 0)=some aA:=by rw[o.rules.1];rfl
 have hv:ax (bG M) aA aA:=i.cell (a:=⟨cm,0,none⟩) g l;refine Dn Y λk=>⟨a0 {(base 4).at b [.code .ret]with mode:=.returning} (c::csZ),w.at k,#[],?_,AQ,vad _,?_⟩
 .simp[a0,stepG,stepG.exec,Frame.at,base]
 .refine Dn Y λk'=>⟨a0 (c.finish (.agg #[aA])) csZ,w.at k',#[⟨.cell ⟨cm,0,none⟩,false,false⟩],?_,λe f=>?_,vad _,?_⟩
  .have p:=func4;have m:((w.at k).at k').cell? (.a cm 0)=some aA:=l;have h:(results Tryz.f4 b.tmps).run prog ((w.at k).at k')=.ok (.agg #[aA]) ((w.at k).at k'):=by simp[results,results4,go_sem,f4,m]
   have f:(results Tryz.f4 b.tmps).events prog ((w.at k).at k') #[]=#[⟨.cell ⟨cm,0,none⟩,false,false⟩]:=by simp[results,results4,go_sem,f4,m]
   have hs:=lJ (es:=#[⟨.cell ⟨cm,0,none⟩,false,false⟩]) AJ;simp only[a0,stepG,unwind,doReturn,Frame.at,base,hd,p,h,f,hs,vas,GStep.after];rfl
  .simp at f;subst f;exact Bj (i.sh cm (.inl g) _ Y) (i.lt g) _
  .exact t _ k' (.oW (.one hv)) ⟨aA,Y,l6.kept (show iq qh w (w.at k')from⟨vad _,λ_ _ _ _ x _=>x⟩) h⟩
def aAU(rv:Value)(d:Nat):gb (rI rv d) ⟨#[undef,.I 40]++Array.replicate 121 undef,[]⟩ ⟨#[rv,.I 40]++Array.replicate 121 undef,[]⟩:=by
 have get:∀(x:Value)(i:Nat),(#[x,.I 40]++Array.replicate 121 undef:fi)[i]?=if i=0 then some x else if i=1 then some (.I 40)else if i<123 then some undef else none:=by
  intro x i;rcases i with _ | _ |i
  .grind
  .simp_all
  grind[Array.getElem?_append_right]
 refine⟨AQ,λi hi=>?_,λi v hi hv=>?_,λi hi=>?_,Y⟩
 .have h0:i≠0:=λe=>by subst e;cases hi
  grind
 .rw[get]at hv;by_cases h0:i=0
  .grind
  .have a:i≠1:=λe=>by subst e;cases hi
   grind
 simp_all[rI]
def aAV{M:dY}{w:aH}(y:Home O prog M Shun w)(v:LS O rv rs)(t:∀u M' w',Home O prog M' Shun w'->(∀b,M b->M' b)->ax (bG M') u u->oM w w'->cP M w w'->HD (eD (rs.take 40)) w' u->bK prog Post n Shun 0 (a0 (c.finish u) csZ) w'):
 bK prog Post n Shun 0 (a0 (Frame.enter prog 4 #[rv,.I 40] .normal) (c::csZ)) w:=by
 rw[vdc func4 (c:=BG Tryz.f4) Y];have s:aM (bG M) (#[undef,.I 40]++Array.replicate 121 undef) (#[undef,.I 40]++Array.replicate 121 undef):=by
  refine aM.append (lg (l:=[undef,.I 40]) λx h=>?_) (Hq _ _);simp at h;rcases h with rfl|rfl
  .exact .undef _
  .exact .int _ _
 have H:Held O prog M w w.heap.size ⟨#[undef,.I 40]++Array.replicate 121 undef,[]⟩ M w Shun:=.start y Kj s Y;refine LG mH follows QC Y (QB rv _) (aAU rv _) (QA rv _ AM) H (k:=[.code (BG Tryz.f4)]) (k':=.R (df Tryz.f4 3) (List.range' 1 8)::pJ Tryz.f4) AM AM (I:=pz 123 []) (J:=pz 123 ((20,eA (.I (0:Nat)))::iL w.heap.size rs 0)) (z_ AJ) (z_ λp o=>?_) ⟨AQ,AJ⟩ (λW q _=>aAz rs W q) ?_
 .grind[By,HX]
 intro a1 b1 r w1 A g f;refine aAS v (λa b z w2 i=>?_) 40 0 a1 b1 r w1 AP AP AP ⟨A,g,f,λp o=>?_⟩
 .refine aAT Y i λu k m ht=>?_;have d:=i.held.at k;exact t u z (w2.at k) d.gq d.sub m d.since (λb cc e fr B j=>d.keep b cc e fr AJ j) ht
 grind[By,HX]
