import Derived.Test.YtebcnmadaaimoaaGreatPAV
set_option linter.all false
set_option maxRecDepth 100000
set_option maxHeartbeats 16000000
namespace Go.Proofs.YtebcnmadaaimoaaGreat
open Go.Proofs.Tryz
namespace ej
open RowKit Shelf az bX cu
variable{C:aL->Prop}{fuel i j n:Nat}{P:cf}{ops:du}{Q:uah}{cw oj:Oper}{a:Act}{w:aL}
def aw5{listed:uat}(c:Region.ready .any ops listed=[i,j])(hi:ops[i]?=some cw)(d:ops[j]?=some oj)(h:∀K':Act->aL->Prop,(∀a w,C w->p_ C n P ops Q fuel (listed.setIfInBounds i true) a w->K' a w)->if Region.wanted cw (yielded ops a.tmps)=true then Oper.wpIn Fence.wide n P cw a w K' Q else(∀f,cw.about P w a.eval=some f->Fence.wide.fn f)/\K' (a.put cw.dst undef) w)(k:∀K':Act->aL->Prop,(∀a w,C w->p_ C n P ops Q fuel (listed.setIfInBounds j true) a w->K' a w)->if Region.wanted oj (yielded ops a.tmps)=true then Oper.wpIn Fence.wide n P oj a w K' Q else(∀f,oj.about P w a.eval=some f->Fence.wide.fn f)/\K' (a.put oj.dst undef) w):p_ C n P ops Q (fuel+1) listed a w:=
 ⟨AF,by
  rw[c];intro x b;simp at b;rcases b with rfl|rfl
  .exact wpOpIn_step hi λK' hK=>h K' AF
  .exact wpOpIn_step d λK' hK=>k K' AF⟩
variable{d:Nat}{v:Value}
def O_{t:Nat}(h:d≠t):(a.put (some d) v).eval (.tmp t)=a.eval (.tmp t):=by simp[Act.eval,Act.put,h]
def BF(h:d<a.tmps.size):(a.put (some d) v).eval (.tmp d)=v:=by simp[Act.eval,Act.put,h]
def iG{listed:uat}(hi:ops[i]?=some cw)(hd:cw.dst=some d)(hs:Region.noSelect ops=true)(f:Region.free .any ops listed i=true)(e:(Region.ready .any ops listed).contains i=true)(j:∀c a w,Q (.panic c) (a.put (some d) v) w->Q (.panic c) a w)(g:C w)(b:ta C P ops cw v a)(h:p_ C n P ops Q fuel (listed.setIfInBounds i true) (a.put (some d) v) w):p_ C n P ops Q (fuel+1) listed a w:=
 um hi hs f e AF g b AF
variable{cH:Nat}{o:Oper}{w1:aL}{K:uaf}
def Pa{F:Prop}(e:o.guard=none)(b:∀c,o.op≠ .defer c)(f:o.about P w a.eval=none)(d:(execOp a.eval o).run P w=.ok (.value v) w1)(h:K (a.put o.dst v) w1):
 if Region.wanted o (yielded ops a.tmps)=true then Oper.wpIn Fence.wide cH P o a w K Q else F:=by
 simp_all[Region.wanted,Oper.wpIn,Oper.semAt_eq,Oper.uponIn]
variable{u:Value}
def Pb{d dj:Nat}{listed:uat}(q:Region.ready .any ops listed=[i,j])(l:Region.ready .any ops (listed.setIfInBounds i true)=[j])(x:Region.ready .any ops (listed.setIfInBounds j true)=[i])(hi:ops[i]?=some cw)(k:ops[j]?=some oj)(r:i≠j)(f:cw.dst=some d)(e:oj.dst=some dj)(hd:d≠dj)(hg:cw.guard=none/\oj.guard=none)(y:∀c,cw.op≠ .defer c/\oj.op≠ .defer c)(b:∀w(ev:uak),cw.about P w ev=none/\oj.about P w ev=none)(p:(execOp a.eval cw).run P w=.ok (.value v) w)(t:(execOp (a.put (some d) v).eval oj).run P w=.ok (.value u) w1)(m:(execOp a.eval oj).run P w=.ok (.value u) w1)(o:(execOp (a.put (some dj) u).eval cw).run P w1=.ok (.value v) w1)(s:C w)(g:C w1)(h:p_ C n P ops Q fuel ((listed.setIfInBounds i true).setIfInBounds j true) ((a.put (some d) v).put (some dj) u) w1):p_ C n P ops Q (fuel+2) listed a w:=by
 refine aw5 q hi k (λK hK=>?_) (λK hK=>?_)
 .refine Pa hg.1 AF (b _ _).1 p (hK _ _ s ?_);rw[f];refine ki l k λK hK=>Pa hg.2 AF (b _ _).2 t (hK _ _ g ?_);grind
 .refine Pa hg.2 AF (b _ _).2 m (hK _ _ g ?_);rw[e];refine ki x hi λK hK=>Pa hg.1 AF (b _ _).1 o (hK _ _ g ?_);simp_all[Array.setIfInBounds_comm,Ne.symm,Act.put]
variable{e:uaa}
def Pd{t:uaa}{z:Value}{bytes:Nat}(E:pN P t e z 1 bytes)(w:aL){F:Prop}(J:o.guard=none)(s x:uap)(c:o.op=.call {callee:=.builtin .append,args:=#[s,x],argTypes:=#[t,t]})(base:Nat)(v:Value)(n:Nat)(xs:uad)(hs:a.eval s=v)(A:w.ownsRow base e 1 v n xs)(b:Nat)(u:Value)(p:a.eval x=.S b 0 1 1)(k:w.cell? (.a b 0)=some u)(I:u.oneCell'=true)(B:(n+1)*bytes<=140737488355328)(N:n+1<=9223372036854775807)(f:base<=w.heap.size)(h:∀g cap w',w'.ownsRow base e 1 (.S g 0 (n+1) cap) (n+1) (xs++[u])->w.grownBy w' v.ownBlock->(v.ownBlock=some g\/g=w.heap.size)->K (a.put o.dst (.S g 0 (n+1) cap)) w'):
 if Region.wanted o (yielded ops a.tmps)=true then Oper.wpIn Fence.wide cH P o a w K Q else F:=by
 rw[vbv (by grind[Region.wanted])];obtain⟨i,hi,m,hsz,l⟩:=vci E.hi;obtain⟨C,w',q,r,H,D,M⟩:=run_append_own_at (P:=P) w base t o.type e i z 1 bytes E.ht hi m hsz l E.Mc E.hsz v n xs A ⟨b,0,none⟩ 1 1 [u] U (λj y d=>by
  rcases j with _ |j
  .simp at d;subst d;exact k
  grind) AF GU B f
 unfold Oper.wpIn;refine⟨by simp[Oper.about,c,resolve,Target.leads,Sem.run_pure],?_⟩;rw[Oper.semAt_plain Fence.wide _ _ AF];obtain⟨-,⟨-,L⟩|⟨g,cap,bf,rfl,-⟩⟩:=id r
 .omega
 simp only[execOp,c,resolve,invoke,builtin,hs,p,q,Result.andThen,vdt,Sem.run_pure,List.map_toArray,vcy,veo,Oper.uponIn];grind[Value.ownBlock]
def jP(j:Nat):TypeId:=if j % 3=0 then 2 else if j % 3=1 then 9 else 4
structure iX(B aS t5:Nat)(X:ubr)(W:aL)(L:List fb)(cs:df):Prop where
 gL:e5 B W L
 len:L.length=12
 box:ah W aS cs 36
 size:cs.size=20
 head:∀c x,(c,x)∈[(0,1),(1,0),(5,1),(6,0),(10,2),(11,2),(15,3),(16,0)]->cs[c]?=some (.I x)
 at_:∀j,j<12->∃v,L[j]?=some ⟨jP j,v,X j⟩/\cs[j / 3*5+2+j % 3]?=some v
 bt:ah W t5 #[.S aS 0 4 4] 27
 lo:B<=aS/\aS≠t5
variable{B aS t5:Nat}{W:aL}{X:ubr}{L:List fb}{cs:df}
def iX.below{W':aL}(h:iX B aS t5 X W L cs)(hb:cC W W'):iX B aS t5 X W' L cs:=
 ⟨h.gL.kept λg hg=>by
  obtain⟨i,hi,a⟩:∃i,∃(hi:i<L.length),L[i].v.ownBlock=some g:=vaw λhn=>hg λi hi a=>AF;exact hb.block g (h.gL.lt hi a).2,h.len,h.box.call hb,h.size,h.head,h.at_,h.bt.call hb,h.lo⟩
theorem aw8(j:Nat):jP j≠36/\jP j≠27:=by grind[jP]
def iX.ty(h:iX B aS t5 X W L cs)(hi:i<L.length):L[i].e=jP i:=by obtain⟨v,a,-⟩:=h.at_ i (by rw[<-h.len];exact hi);grind
def iX.n4(h:iX B aS t5 X W L cs){b:Nat}{c:df}{T:uaa}(hb:ah W b c T)(d:T=36\/T=27):iC L b:=
 Nv h.gL λf e z a i hi=>by rw[show W.heap[b]?=some (.cells c T)from hb]at a;cases a;rw[h.ty hi];grind[aw8]
variable{cap g:Nat}{W2:aL}
def iX.push(h:iX B aS t5 X W L cs)(s:j<12)(hv:L[j]?=some ⟨jP j,v,X j⟩){x:Value}(n:W2.ownsRow B (jP j) 1 (.S g 0 ((X j).length+1) cap) ((X j).length+1) (X j++[x]))(hg:W.grownBy W2 v.ownBlock)(c6:v.ownBlock=some g\/g=W.heap.size):
 ah W2 aS cs 36/\ah W2 t5 #[.S aS 0 4 4] 27/\
 iX B aS t5 (λi=>if i=j then X j++[x]else X i) (W2.setCell ⟨aS,j / 3*5+2+j % 3,none⟩ (.S g 0 ((X j).length+1) cap)) (L.set j ⟨jP j,.S g 0 ((X j).length+1) cap,X j++[x]⟩) (cs.setIfInBounds (j / 3*5+2+j % 3) (.S g 0 ((X j).length+1) cap)):=by
 obtain⟨k,m⟩:=e5.JA h.gL hv n hg c6;have o:j<L.length:=AF;have t:L[j]=⟨jP j,v,X j⟩:=by grind
 have a:∀b,iC L b->v.ownBlock≠some b:=λb hb r=>hb j o AF;have cW:=ah.grown h.box hg (λg' l e=>a aS (h.n4 h.box KB) AF);have bt:=ah.grown h.bt hg (λg' l e=>a t5 (h.n4 h.bt Kj) AF);refine⟨cW,bt,?_⟩;have f:iC (L.set j ⟨jP j,.S g 0 ((X j).length+1) cap,X j++[x]⟩) aS:=m aS h.box.lt (h.n4 h.box KB);refine⟨k.set f _ _,by simp[h.len],cW.set _ _,by simp[h.size],λc y d=>?_,λi hi=>?_,bt.fl (Ne.symm h.lo.2) _,h.lo⟩
 .have hq:=h.head c y d;have z:j / 3*5+2+j % 3≠c:=by have w:j % 3<3:=AF;simp at d;omega
  grind
 .obtain⟨u,q,p⟩:=h.at_ i hi;grind
def iX.congr{a:ubr}(h:iX B aS t5 X W L cs)(c:∀j,j<12->X j=a j):iX B aS t5 a W L cs:=
 ⟨h.gL,h.len,h.box,h.size,h.head,λj b=>by rw[<-c j b];exact h.at_ j b,h.bt,h.lo⟩
variable{N:Nat}
def aw9{row:ubf}(hg:W.grownBy W2 row)(a:∀g,row=some g->N<=g)(a4:N<=W.heap.size):Below N W W2:=
 ⟨hg.os,hg.tape,hg.output,hg.size,λk hk=>hg.block k AX AF⟩
def aw_(c:df)(e:uaa):cC W (W.drew.alloc (.cells c e)):=(show cC W W.drew from⟨U,U,U,vac _,λ_ _=>U⟩).alloc (vac _) _
def iX.Pe(h:iX B aS t5 X W L cs)(w:j<12){xs:uad}(q:X j=xs)(a:jP j=e)(hv:L[j]?=some ⟨jP j,v,xs⟩)(f:W2.ownsRow B e 1 (.S g 0 (xs.length+1) cap) (xs.length+1) (xs++[u]))(hg:(W.drew.alloc (.cells #[u] e)).grownBy W2 v.ownBlock)(c6:v.ownBlock=some g\/g=(W.drew.alloc (.cells #[u] e)).heap.size)(a4:N<=B)(D:B<=W.heap.size){o:Nat}(s:o=j / 3*5+2+j % 3):
 Below N W W2/\(∀b c T,iC L b->ah W b c T->ah W2 b c T)/\ah W2 aS cs 36/\ah W2 t5 #[.S aS 0 4 4] 27/\
 ∃k y,iX B aS t5 (λi=>if i=j then xs++[u]else X i) (W2.setCell ⟨aS,o,none⟩ (.S g 0 (xs.length+1) cap)) k y/\∀b,b<W.heap.size->iC L b->iC k b:=by
 subst q;subst a;subst s;have hb:=aw_ (W:=W) #[u] (jP j);have d:=h.below hb;obtain⟨p,n,m⟩:=d.push w hv f hg c6;obtain⟨z,x⟩:=e5.JA d.gL hv f hg c6;have l:j<L.length:=AF;have a:L[j]=⟨jP j,v,X j⟩:=by grind
 have C:∀g,v.ownBlock=some g->B<=g:=λg hg=>(h.gL.lt l AF).1;refine⟨(hb.mono AX).trans (aw9 hg AF A2),λb c T ha r=>ah.grown (r.call hb) hg (λg' A e=>ha j l AF),p,n,_,_,m,λb t ha=>x b A2 ha⟩
@[simp] theorem aHy:cX true 4:=dg (bB (upd:=true) func4 AQ) AQ
def wm(r:fJ)(j:Nat):List Value:=
 if j=0 then [.I (lO r.1)]else if j=2 then [.bool (jl r.1)]else if j=3 then [.I (gq r.2.1)]else if j=5 then [.bool (jl r.2.1)]else if j=6 then [.I (gq r.2.2.1)]else if j=8 then [.bool (jl r.2.2.1)]else if j=10 then [.string (nz r.2.2.2)]else if j=11 then [.bool (jl r.2.2.2)]else []
def cg(rs:List fJ)(n:Nat)(j:Nat):List Value:=(rs.take n).flatMap (wm · j)
theorem ER(rs:List fJ)(h:n<rs.length)(j:Nat):cg rs (n+1) j=cg rs n j++wm rs[n] j:=by grind[cg,List.take_succ_eq_append_getElem]
theorem axa(r:fJ)(j:Nat):(wm r j).length<=1:=by grind[wm]
theorem BG(rs:List fJ)(n:Nat)(j:Nat):(cg rs n j).length<=n:=by induction n with|zero=>simp[cg]|succ n a=>grind[ER,axa,cg,List.take_of_length_le]
def BH(rs:List fJ)(n j:Nat)(f:fJ->Value)(h:∀r,wm r j=[f r]):cg rs n j=(rs.take n).map f:=by unfold cg;induction rs.take n with|nil=>rfl|cons r l a=>grind
def Pf(rs:List fJ)(n j:Nat)(h:∀r,wm r j=[]):cg rs n j=[]:=by simp_all[cg]
def BI{ap:Type}{R:aL->(Nat->Option Value)->ap->Prop}{l:List fJ}{f:fJ->Value}{g:fJ->ap}(h:W.ownsRow B e 1 v (l.map f).length (l.map f))(a:∀r rd,rd 0=some (f r)->R W rd (g r)):a0 W 1 R v (l.map g):=
 yG h Ab AF
def Pg{ap:Type}{R:aL->(Nat->Option Value)->ap->Prop}(h:W.ownsRow B e 1 v ([]:uad).length []):a0 W 1 R v []:=
 yG h U AF
def axb{rs:List fJ}(h:iX B aS t5 (cg rs n) W L cs):lJ W (.S aS 0 4 4) (dp (rs.take n)):=by
 have own:∀j(_:j<12),∃v,cs[j / 3*5+2+j % 3]?=some v/\W.ownsRow B (jP j) 1 v (cg rs n j).length (cg rs n j):=λj g=>by obtain⟨v,l,k⟩:=h.at_ j g;exact⟨v,k,h.gL.at l⟩
 have cell:∀o x,cs[o]?=some x->W.cell? (.a aS o)=some x:=λo x f=>(h.box.rules.1 o).trans f;refine⟨⟨some ⟨aS,0,none⟩,4,U,by show 4<=9223372036854775807;decide,λi hi=>⟨aS,0,U,?_⟩⟩,λb hb=>by cases hb;exact⟨_,_,h.box⟩⟩;have e:i=0\/i=1\/i=2\/i=3:=by have:(dp (rs.take n)).length=4:=rfl;omega
 rcases e with rfl|rfl|rfl|rfl
 .obtain⟨be,c_,c⟩:=own 0 AX;obtain⟨vs,c1,a⟩:=own 1 AX;obtain⟨d,bG,o2⟩:=own 2 AX;rw[BH rs n 0 _ λ_=>U]at c;rw[Pf rs n 1 λ_=>U]at a;rw[BH rs n 2 _ λ_=>U]at o2;exact⟨be,vs,d,cell 0 _ (h.head 0 1 Ab),cell 1 _ (h.head 1 0 Ab),cell 2 _ c_,cell 3 _ c1,cell 4 _ bG,⟨BI c λ_ _ h=>h,Pg a,BI o2 λ_ _ h=>h⟩,q8 c,q8 a,q8 o2⟩
 .obtain⟨be,c_,c⟩:=own 3 AX;obtain⟨vs,c1,a⟩:=own 4 AX;obtain⟨d,bG,o2⟩:=own 5 AX;rw[BH rs n 3 _ λ_=>U]at c;rw[Pf rs n 4 λ_=>U]at a;rw[BH rs n 5 _ λ_=>U]at o2;exact⟨be,vs,d,cell 5 _ (h.head 5 1 Ab),cell 6 _ (h.head 6 0 Ab),cell 7 _ c_,cell 8 _ c1,cell 9 _ bG,⟨BI c λ_ _ h=>h,Pg a,BI o2 λ_ _ h=>h⟩,q8 c,q8 a,q8 o2⟩
 .obtain⟨be,c_,c⟩:=own 6 AX;obtain⟨vs,c1,a⟩:=own 7 AX;obtain⟨d,bG,o2⟩:=own 8 AX;rw[BH rs n 6 _ λ_=>U]at c;rw[Pf rs n 7 λ_=>U]at a;rw[BH rs n 8 _ λ_=>U]at o2;exact⟨be,vs,d,cell 10 _ (h.head 10 2 Ab),cell 11 _ (h.head 11 2 Ab),cell 12 _ c_,cell 13 _ c1,cell 14 _ bG,⟨BI c λ_ _ h=>h,Pg a,BI o2 λ_ _ h=>h⟩,q8 c,q8 a,q8 o2⟩
 .obtain⟨be,c_,c⟩:=own 9 AX;obtain⟨vs,c1,a⟩:=own 10 AX;obtain⟨d,bG,o2⟩:=own 11 AX;rw[Pf rs n 9 λ_=>U]at c;rw[BH rs n 10 _ λ_=>U]at a;rw[BH rs n 11 _ λ_=>U]at o2;exact⟨be,vs,d,cell 15 _ (h.head 15 3 Ab),cell 16 _ (h.head 16 0 Ab),cell 17 _ c_,cell 18 _ c1,cell 19 _ bG,⟨Pg c,BI a λr _ h=>⟨h,by grind[KY]⟩,BI o2 λ_ _ h=>h⟩,q8 c,q8 a,q8 o2⟩
end ej
namespace bc
open Conc ConcM RowKit az bo cF c3 bX cu ej
section
variable{n0:Nat}
def K2:Value->Prop
 | .int .. | .bool _ | .string _=>True
 | _=>False
theorem vq{ρ:Ren}{x y:Value}(hs:K2 x)(h:ar ρ x y):y=x:=by cases h<;>first|rfl|exact hs.elim
def axk{ρ:Ren}{w w':aL}(b:yL n0 ρ w w'){v a:Value}(hv:ar ρ v a){e:uaa}{n:Nat}{xs:uad}(hS:∀x∈xs,K2 x)(h:w.ownsRow n0 e 1 v n xs):w'.ownsRow n0 e 1 a n xs/\∀g',a.ownBlock=some g'->∃g,v.ownBlock=some g/\ρ.rel g g':=by
 obtain⟨hl,⟨rfl,hn⟩|⟨g,cap,bf,rfl,hg,c,k,j,q,f⟩⟩:=h
 .rw[l8 hv];exact⟨⟨hl,AF⟩,λg' e=>Cn⟩
 .obtain⟨g',rfl,r⟩:=xf hv;obtain⟨m,d,p⟩:=b.types _ _ _ _ _ r c;refine⟨⟨hl,.inr ⟨g',cap,m,U,b.new _ _ r hg,d,k,j,AF,?_⟩⟩,λs e=>by cases e;exact⟨g,U,r⟩⟩;rw[<-f];refine vca λi=>?_;rw[List.getElem?_take,List.getElem?_take];split
  .rename_i hi;have o:i<xs.length:=AF;have z:bf.toList[i]?=some xs[i]:=by grind
   have l:w.cell? (.a g i)=some xs[i]:=by grind[World.cell?]
   obtain⟨y,u,t⟩:=b.cells.cell ⟨g,i,none⟩ ⟨g',i,none⟩ _ ⟨r,U,U⟩ l;grind[vq,List.getElem_mem,World.cell?]
  .rfl
def ES(n0:Nat)(X:ubr)(W:aL)(v:Value):Prop:=∃aS bt L cs,v=.P bt 0/\iX n0 aS bt X W L cs
def ET(n0:Nat)(W:aL)(v:Value):Prop:=∃b,v=.P b 0/\n0<=b/\ah W b #[.N] 27
theorem axl:kE n0 (ET n0):=by rintro ρ w w' v f a hv ⟨b,rfl,hn,h⟩;obtain⟨e,rfl,r⟩:=A9 hv;obtain⟨g,c,k⟩:=VQ (l:=[.N]) a r h;cases k with|cons d k=>cases k;rw[l8 d]at c;exact⟨e,U,a.new _ _ r hn,c⟩
theorem axm{X:ubr}(E:∀j,∀x∈X j,K2 x):kE n0 (ES n0 X):=by
 rintro ρ w w' v b f hv ⟨aS,bt,L,cs,rfl,h⟩;obtain⟨J,rfl,A⟩:=A9 hv;obtain⟨N,D,s⟩:=VQ (l:=[.S aS 0 4 4]) f A h.bt;cases s with
 |cons s I=>
  cases I;obtain⟨z,rfl,rc⟩:=xf s;obtain⟨lc,M,kc⟩:=VQ (l:=cs.toList) f rc h.box;have hlen:lc.length=20:=by rw[<-kc.length];simpa using h.size
  have get:∀i x,cs[i]?=some x->∃y,lc[i]?=some y/\ar ρ x y:=λi x B=>by
   have hi:i<cs.size:=by
    rcases vcx i cs.size with q|q
    .exact q
    .rw[Array.getElem?_eq_none q]at B;cases B
   have m:i<lc.length:=by rw[hlen,<-h.size];exact hi
   refine⟨lc[i],vag m,?_⟩;have:=(aM.LD kc).get i x lc[i] AF AF;grind
  have at_:∀j,j<12->∃v b,L[j]?=some ⟨jP j,v,X j⟩/\lc[j / 3*5+2+j % 3]?=some b/\ar ρ v b:=λj d=>by obtain⟨v,C,o⟩:=h.at_ j d;grind
  let a:List fb:=(List.range 12).map λj=>⟨jP j,lc[j / 3*5+2+j % 3]?.getD undef,X j⟩
  have K:a.length=12:=AF;have u:∀j(d:j<12),∃v b,L[j]?=some ⟨jP j,v,X j⟩/\a[j]?=some ⟨jP j,b,X j⟩/\lc[j / 3*5+2+j % 3]?=some b/\ar ρ v b:=AF;have own:∀j(d:j<a.length),w'.ownsRow n0 a[j].e 1 a[j].v a[j].xs.length a[j].xs/\∀g',a[j].v.ownBlock=some g'->∃(k:j<L.length)(g:Nat),L[j].v.ownBlock=some g/\ρ.rel g g':=λj d=>by obtain⟨v,b,C,o,O,F⟩:=u j AF;rw[vag d]at o;rw[vaq o];have R:j<L.length:=AF;obtain⟨Q,P⟩:=axk f F (E j) (h.gL.at C);grind
  refine⟨z,J,a,lc.toArray,U,⟨⟨AF,λi j hi d g n r p=>?_⟩,K,M,AF,λc x t=>?_,λj d=>?_,D,f.new _ _ rc h.lo.1,λe=>?_⟩⟩
  .obtain⟨m,g1,f1,iu⟩:=(own i hi).2 g r;obtain⟨k,H,f3,f4⟩:=(own j d).2 g p;rw[f.inj _ _ _ iu f4]at f1;exact h.gL.apart i j m k H n f1 f3
  .obtain⟨y,r,p⟩:=get _ _ (h.head c x t);rw[vq (x:=.I x) trivial p]at r;grind
  .grind
  .rw[e]at rc;exact h.lo.2 (f.inj _ _ _ rc A)
theorem axq(rs:List fJ)(n j:Nat):∀x∈cg rs n j,K2 x:=by
 intro x a;simp only[cg,List.mem_flatMap]at a;obtain⟨r,-,a⟩:=a;unfold wm at a;repeat' split at a
 all_goals first|(simp only[vbo,vdd,or_false]at a;subst a;trivial)|grind
end
end bc
namespace ej
open RowKit Shelf az bX cu bc
section
attribute [local go_sem] Oper.semAt_some
def axr(n0 bK nF hN:Nat)(nO:Value)(w0:aL)(rs:List fJ)(n:Nat)(a:Act)(W:aL):Prop:=(a.defers=[]/\a.tmps.size=123/\a.tmps[1]?=some (.I 40)/\a.tmps[4]?=some nO/\a.tmps[5]?=some (.P hN 0)/\a.tmps[6]?=some (.I n))/\(∃L cs,iX n0 bK hN (cg rs (n+1)) W L cs)/\ah W nF #[.N] 27/\Below n0 w0 W
def axs(rs:List fJ)(n:Nat)(x9:n<rs.length)(ek:n<40)(i0:eC rs[n].1)(i1:eC rs[n].2.1)(i2:eC rs[n].2.2.1)(i3:eC rs[n].2.2.2)(n0 b nF l q:Nat)(w0 f:aL)(L:List fb)(cs:df)(qI:n0<=w0.heap.size)(hq:iX n0 b l (cg rs n) f L cs)(Pk:ah f q #[.I rs[n].1,.I rs[n].2.1,.I rs[n].2.2.1,.I rs[n].2.2.2] 54)(zJ:ah f nF #[.N] 27)(hb:Below n0 w0 f)(vn:iC L q)(afD:b≠q)(afE:b≠nF)(mF dI gh nO IU Rq Yx Yy Aw Yz Ax YA axt axu axv axw EU Bu axx aee axy axz axA axB axC axD axE axF axG axH axI axJ axK axL axM axN axO axP axQ axR axS xb w6 axT axU axV axW axX axY axZ ax0 ax1 ax2 ax3 ax4 ax5 ax6 ax7 ax8 ax9 ax_ aya ayb ayc ayd aye ayf ayg ayh ayi ayj ayk ayl aym ayn ayo ayp ayq ayr ays ayt ayu ayv ayw ayx ayy ayz ayA ayB ayC ayD ayE ayF ayG ayH ayI ayJ ayK ayL ayM ayN ayO ayP ayQ ayR ayS ayT ayU ayV ayW ayX ayY ayZ ay0 ay1 ay2 ay3 ay4 ay5:Value):
 Code.wpIn Fence.wide 3 (ae prog true) (zT Tryz.f4 5) (kj (axr n0 b nF l nO w0 rs n)) ⟨#[mF,.I 40,dI,gh,nO,.P l 0,.I n,.P q 0,IU,Rq,Yx,Yy,Aw,Yz,Ax,YA,axt,axu,axv,axw,EU,Bu,axx,aee,axy,axz,axA,axB,axC,axD,axE,axF,axG,axH,axI,axJ,axK,axL,axM,axN,axO,axP,axQ,axR,axS,xb,w6,axT,axU,axV,axW,axX,axY,axZ,ax0,ax1,ax2,ax3,ax4,ax5,ax6,ax7,ax8,ax9,ax_,aya,ayb,ayc,ayd,aye,ayf,ayg,ayh,ayi,ayj,ayk,ayl,aym,ayn,ayo,ayp,ayq,ayr,ays,ayt,ayu,ayv,ayw,ayx,ayy,ayz,ayA,ayB,ayC,ayD,ayE,ayF,ayG,ayH,ayI,ayJ,ayK,ayL,ayM,ayN,ayO,ayP,ayQ,ayR,ayS,ayT,ayU,ayV,ayW,ayX,ayY,ayZ,ay0,ay1,ay2,ay3,ay4,ay5],[]⟩ f:=by
 simp[zT,Tryz.f4,bR.er,bR.lM];have aHB:l<f.heap.size:=hq.bt.lt;have aHC:b<f.heap.size:=hq.box.lt;have aHD:nF<f.heap.size:=zJ.lt;have aHE:q<f.heap.size:=Pk.lt;have aHF:b≠l:=hq.lo.2;have iZ:n0<=b:=hq.lo.1;have rT:Hid (iX n0 b l (cg rs n) f L cs):=hq;have Hy:Hid (ah f nF #[.N] 27):=zJ;have cp:Hid (Below n0 w0 f):=hb;have ay6:Hid (iC L q):=vn;have EV:Hid (n0<=w0.heap.size):=qI;obtain⟨f1,iu,f3⟩:=Pk.all;have ay7:Hid _:=Pk;clear hq zJ hb vn Pk;gi_wp2
 have hU:cC f (f.alloc (.cells #[.I rs[n].1,.I rs[n].2.1,.I rs[n].2.2.1] 52)):=(vaa _ f).alloc Jb _;have uW:ah (f.alloc (.cells #[.I rs[n].1,.I rs[n].2.1,.I rs[n].2.2.1] 52)) q #[.I rs[n].1,.I rs[n].2.1,.I rs[n].2.2.1,.I rs[n].2.2.2] 54:=ah.alloc ay7.out _;have IU:ah (f.alloc (.cells #[.I rs[n].1,.I rs[n].2.1,.I rs[n].2.2.1] 52)) f.heap.size #[.I rs[n].1,.I rs[n].2.1,.I rs[n].2.2.1] 52:=ah.new f _ _;have ve:(f.alloc (.cells #[.I rs[n].1,.I rs[n].2.1,.I rs[n].2.2.1] 52)).heap.size=f.heap.size+1:=Ab;have K3:Hid _:=uW;have vc:Hid _:=IU;have p7:Hid _:=hU;clear uW IU hU f1 iu f3;generalize(f.alloc (.cells #[.I rs[n].1,.I rs[n].2.1,.I rs[n].2.2.1] 52))=T at *;refine wpIn_region_any Ao (Gn (C:=λW=>ah W q #[.I rs[n].1,.I rs[n].2.1,.I rs[n].2.2.1,.I rs[n].2.2.2] 54) _ _ _ _ ?_);have HC:Hid (ah T.drew q #[.I rs[n].1,.I rs[n].2.1,.I rs[n].2.2.1,.I rs[n].2.2.2] 54):=K3.out;refine um (i:=0) (v:=.P q 0) rfl Ao Ao Ao Jy HC.out ⟨BK,λW _=>Ar,λc=>Ab,λ_=>rfl⟩ ?_;refine um (i:=3) (v:=.P q 1) rfl Ao Ao Ao Jy HC.out ⟨BK,λW _=>Ar,λc=>Ab,λ_=>rfl⟩ ?_;refine um (i:=6) (v:=.P q 2) rfl Ao Ao Ao Jy HC.out ⟨BK,λW _=>Ar,λc=>Ab,λ_=>rfl⟩ ?_;refine um (i:=1) (v:=.I rs[n].1) rfl Ao Ao Ao Jy HC.out ⟨BK,λW d=>B0,λc=>Ab,λ_=>rfl⟩ ?_;refine um (i:=4) (v:=.I rs[n].2.1) rfl Ao Ao Ao Jy HC.out ⟨BK,λW d=>B0,λc=>Ab,λ_=>rfl⟩ ?_;refine um (i:=7) (v:=.I rs[n].2.2.1) rfl Ao Ao Ao Jy HC.out ⟨BK,λW d=>B0,λc=>Ab,λ_=>rfl⟩ ?_;refine ki (i:=2) Ao rfl λK hK=>?_;go_simp
 refine⟨NE,(callsIn_wide.2 (auz _ i0 _)).mono ?_⟩;rintro e w' ⟨rfl,rfl⟩;refine hK _ _ HC.out ?_;clear hK K;refine ki (i:=5) Ao rfl λK hK=>?_;go_simp
 refine⟨NE,(callsIn_wide.2 (Oh _ i1 _)).mono ?_⟩;rintro e w' ⟨rfl,rfl⟩;refine hK _ _ HC.out ?_;clear hK K;refine ki (i:=8) Ao rfl λK hK=>?_;go_simp
 refine⟨NE,(callsIn_wide.2 (Oh _ i2 _)).mono ?_⟩;rintro e w' ⟨rfl,rfl⟩;refine hK _ _ HC.out ?_;clear hK K;refine ki (i:=9) Ao rfl λK hK=>?_;go_simp
 refine hK _ _ (ah.alloc HC.out _) ?_;clear hK K;refine ki (i:=10) Ao rfl λK hK=>?_;go_simp
 refine hK _ _ (ah.alloc HC.out _) ?_;clear hK K;refine Gp Ao ?_ _;gi_wp2
 have Pl:cC f (T.alloc (.cells #[.I (lO rs[n].1),.I (gq rs[n].2.1),.I (gq rs[n].2.2.1)] 2)).drew:=(p7.out.alloc AX _).trans (show Below _ _ _ from⟨rfl,rfl,rfl,vac _,λ_ _=>rfl⟩);have IT:ah (T.alloc (.cells #[.I (lO rs[n].1),.I (gq rs[n].2.1),.I (gq rs[n].2.2.1)] 2)).drew q #[.I rs[n].1,.I rs[n].2.1,.I rs[n].2.2.1,.I rs[n].2.2.2] 54:=ah.alloc K3.out _;have FL:ah (T.alloc (.cells #[.I (lO rs[n].1),.I (gq rs[n].2.1),.I (gq rs[n].2.2.1)] 2)).drew (f.heap.size) #[.I rs[n].1,.I rs[n].2.1,.I rs[n].2.2.1] 52:=ah.alloc vc.out _;have Rr:ah (T.alloc (.cells #[.I (lO rs[n].1),.I (gq rs[n].2.1),.I (gq rs[n].2.2.1)] 2)).drew (f.heap.size+1) #[.I (lO rs[n].1),.I (gq rs[n].2.1),.I (gq rs[n].2.2.1)] 2:=by have:=ah.new T #[.I (lO rs[n].1),.I (gq rs[n].2.1),.I (gq rs[n].2.2.1)] 2;rw[ve]at this;exact this
 have ay8:=rT.out.below Pl;have ay9:=Hy.out.call Pl;have ay_:Below n0 w0 (T.alloc (.cells #[.I (lO rs[n].1),.I (gq rs[n].2.1),.I (gq rs[n].2.2.1)] 2)).drew:=cp.out.trans (Pl.mono AF);have aza:iC L q/\iC L (f.heap.size)/\iC L (f.heap.size+1):=⟨ay6.out,rT.out.gL.n4 AF,rT.out.gL.n4 AF⟩;have Of:n0<=f.heap.size:=AF;clear K3 vc p7 HC;generalize(T.alloc (.cells #[.I (lO rs[n].1),.I (gq rs[n].2.1),.I (gq rs[n].2.2.1)] 2)).drew=aHG at *;clear ve;gi_loopw [10] (λp W=>∃(k:Nat)(L:List fb)(cs:df),k<=3/\p=.I k/\iX (n0) (b) (l) (λj=>if j / 3<k then cg rs (n+1) j else cg rs n j) W L cs/\ah W nF #[.N] 27/\Below n0 w0 W/\
  (ah W q #[.I rs[n].1,.I rs[n].2.1,.I rs[n].2.2.1,.I rs[n].2.2.2] 54/\ah W (f.heap.size) #[.I rs[n].1,.I rs[n].2.1,.I rs[n].2.2.1] 52/\ah W (f.heap.size+1) #[.I (lO rs[n].1),.I (gq rs[n].2.1),.I (gq rs[n].2.2.1)] 2)/\
  (iC L q/\iC L (f.heap.size)/\iC L (f.heap.size+1)))
  (λi _=>3-(intOf i).toNat)
 case atStart=>grind
 case round=>
  obtain⟨k,Gg,cs1,jJ,rfl,VS,gO,b_,⟨S,wh,VT⟩,Pm⟩:=hrel;have I:Hid (iX (n0) (b) (l) (λj=>if j / 3<k then cg rs (n+1) j else cg rs n j) wr Gg cs1):=VS;clear ay8 ay9 ay_ IT FL Rr aza Pl;by_cases hk:k<3
  .obtain⟨J,P,S3,S2,hI,q0,bj,bm⟩:∃J P,(#[.I rs[n].1,.I rs[n].2.1,.I rs[n].2.2.1]:df)[k]?=some (.I J)/\(#[.I (lO rs[n].1),.I (gq rs[n].2.1),.I (gq rs[n].2.2.1)]:df)[k]?=some (.I P)/\eC J/\wm rs[n] (3*k)=[.I P]/\wm rs[n] (3*k+1)=[]/\wm rs[n] (3*k+2)=[.bool (jl J)]:=by
    have:k=0\/k=1\/k=2:=AX;rcases this with rfl|rfl|rfl
    .exact⟨_,_,rfl,rfl,i0,rfl,rfl,rfl⟩
    .exact⟨_,_,rfl,rfl,i1,rfl,rfl,rfl⟩
    .exact⟨_,_,rfl,rfl,i2,rfl,rfl,rfl⟩
   have vb:=λW(h:ah W (f.heap.size) #[.I rs[n].1,.I rs[n].2.1,.I rs[n].2.2.1] 52)=>(h.rules.1 k).trans S3;have u_:=λW(h:ah W (f.heap.size+1) #[.I (lO rs[n].1),.I (gq rs[n].2.1),.I (gq rs[n].2.2.1)] 2)=>(h.rules.1 k).trans S2;have azb:Hid _:=vb;have azc:Hid _:=u_;have Hz:Hid _:=(⟨S,wh,VT⟩:_/\_/\_);have tJ:Hid _:=gO;have U:Hid _:=b_;have R:Hid _:=Pm;have VU:Hid _:=(⟨q0,bj,bm⟩:_/\_/\_);obtain⟨azd,Pn,VV⟩:=I.out.at_ (3*k) AX;rw[show 3*k / 3*5+2+3*k % 3=k*5+2 by omega]at VV;have QQ:(if 3*k / 3<k then cg rs (n+1) (3*k)else cg rs n (3*k))=cg rs n (3*k):=AF;simp at Pn;obtain⟨p0,r0,rfl⟩:=gQ (show wr.ownsRow _ (jP (3*k)) 1 azd (cg rs n (3*k)).length _ from I.out.gL.at Pn);have VW:Hid _:=Pn;have VX:Hid _:=VV;have ml:(0:Int)<=(k:Int):=AX;have As:(k:Int)<3:=AX;have afr:(k:Int)<4:=AX;clear S3 S2 vb u_ S wh VT gO b_ Pm q0 bj bm VS Pn VV QQ;gi_wp2
   refine wpIn_region_any Ao (Gn (C:=λW=>ah W (l) #[.S b 0 4 4] 27/\ah W (f.heap.size+1) #[.I (lO rs[n].1),.I (gq rs[n].2.1),.I (gq rs[n].2.2.1)] 2) _ _ _ _ ?_);have HC:Hid (ah wr.drew (l) #[.S b 0 4 4] 27/\ah wr.drew (f.heap.size+1) #[.I (lO rs[n].1),.I (gq rs[n].2.1),.I (gq rs[n].2.2.1)] 2):=⟨I.out.bt,Hz.out.2.2⟩;refine iG (i:=0) (v:=.P l 0) rfl rfl Ao Ao Ao Jy HC.out ⟨BK,λW d=>Ar,λc=>Ab,λ_=>rfl⟩ ?_;refine iG (i:=3) (v:=.P l 0) rfl rfl Ao Ao Ao Jy HC.out ⟨BK,λW d=>Ar,λc=>Ab,λ_=>rfl⟩ ?_;refine iG (i:=2) (v:=.I k) rfl rfl Ao Ao Ao Jy HC.out ⟨BK,λW d=>Ar,λc=>Ab,λ_=>rfl⟩ ?_;refine iG (i:=5) (v:=.I k) rfl rfl Ao Ao Ao Jy HC.out ⟨BK,λW d=>Ar,λc=>Ab,λ_=>rfl⟩ ?_;refine iG (i:=9) (v:=.S (f.heap.size+1) 0 3 3) rfl rfl Ao Ao Ao Jy HC.out ⟨BK,λW d=>Ar,λc=>Ab,λ_=>rfl⟩ ?_;refine iG (i:=10) (v:=.I k) rfl rfl Ao Ao Ao Jy HC.out ⟨BK,λW d=>Ar,λc=>Ab,λ_=>rfl⟩ ?_;refine iG (i:=1) (v:=.S b 0 4 4) rfl rfl Ao Ao Ao Jy HC.out ⟨BK,λW d=>by obtain⟨B,O,M⟩:=ah.all d.1;go_simp,λc=>Ab,λ_=>rfl⟩ ?_;refine iG (i:=4) (v:=.S b 0 4 4) rfl rfl Ao Ao Ao Jy HC.out ⟨BK,λW d=>by obtain⟨B,O,M⟩:=ah.all d.1;go_simp,λc=>Ab,λ_=>rfl⟩ ?_;refine iG (i:=6) (v:=.P b (k*5)) rfl rfl Ao Ao Ao Jy HC.out ⟨BK,λW d=>Ar,λc=>Ab,λ_=>rfl⟩ ?_;refine iG (i:=7) (v:=.P b (k*5+2)) rfl rfl Ao Ao Ao Jy HC.out ⟨BK,λW d=>Ar,λc=>Ab,λ_=>rfl⟩ ?_;refine iG (i:=11) (v:=.P (f.heap.size+1) k) rfl rfl Ao Ao Ao Jy HC.out ⟨BK,λW d=>Ar,λc=>Ab,λ_=>rfl⟩ ?_;refine iG (i:=12) (v:=.I P) rfl rfl Ao Ao Ao Jy HC.out ⟨BK,λW d=>by have B:=azc.out _ d.2;go_simp,λc=>Ab,λ_=>rfl⟩ ?_;have A:wr.drew.cell? (.a b (k*5+2))=some (.slice p0 (cg rs n (3*k)).length r0):=(I.out.box.rules.1 _).trans VX.out;refine Pb (i:=8) (j:=13) (v:=.slice p0 (cg rs n (3*k)).length r0) (u:=.S wr.heap.size 0 1 1) (w1:=wr.drew.alloc (.cells #[.I P] 2)) Ao Ao Ao rfl rfl AU rfl rfl AU ⟨rfl,rfl⟩ (λc=>⟨Ab,Ab⟩) (λ_ _=>⟨rfl,rfl⟩) Ar Ar Ar (by have g1:(wr.alloc (.cells #[.I P] 2)).drew.cell? (.a b (k*5+2))=_:=bc.rq A (.cells #[.I P] 2);go_simp) HC.out ⟨ah.alloc HC.out.1 _,ah.alloc HC.out.2 _⟩ ?_;have u9:jP (3*k)=2:=by simp[jP]
   refine ki (i:=14) Ao rfl λK hK=>?_;refine Pd Q4 _ rfl _ _ rfl (n0) (.slice p0 (cg rs n (3*k)).length r0) (cg rs n (3*k)).length (cg rs n (3*k)) ((O_ AU).trans (BF C0)) (by have h:=I.out.gL.at VW.out;rw[show(jP (3*k))=2 from u9]at h;exact World.ownsRow.alloc (w:=wr.drew) h _) wr.heap.size (.I P) (BF C0) (oq (vbg wr.drew _) rfl rfl) rfl (by have:=BG rs n (3*k);omega) (by have:=BG rs n (3*k);omega) (by have:=vad EV.out U.out.size;simp;omega) ?_;intro g c W2 D E c6;obtain⟨z,s,t,x,L2,aze,uZ,Po⟩:=iX.Pe (N:=n0) I.out (j:=3*k) AX (xs:=cg rs n (3*k)) (vbp AX) u9 VW.out D E c6 AX (vad EV.out U.out.size) (o:=k*5+2) AX;have cU:=s _ _ _ R.out.1 Hz.out.1;have kH:=s _ _ _ R.out.2.1 Hz.out.2.1;have BJ:=s _ _ _ R.out.2.2 Hz.out.2.2;have bk:=s _ _ _ (I.out.n4 tJ.out Kj) tJ.out;have azf:f.heap.size+1<wr.heap.size:=Hz.out.2.2.lt;have m:Hid (ah W2 (l) #[.S b 0 4 4] 27/\ah W2 (f.heap.size+1) #[.I (lO rs[n].1),.I (gq rs[n].2.1),.I (gq rs[n].2.2.1)] 2):=⟨x,BJ⟩;refine hK _ _ m.out ?_;clear hK K;have Y:W2.cell? (.a b (k*5+2))=some (.slice p0 (cg rs n (3*k)).length r0):=(t.rules.1 _).trans VX.out;have Z:=t.rules.2;refine ki (i:=15) Ao rfl λK hK=>?_;go_simp
   refine hK _ _ m.out ?_;clear hK K;refine ki (i:=16) Ao rfl λK hK=>?_;go_simp
   refine hK _ _ m.out ?_;clear hK K;refine ki (i:=17) Ao rfl λK hK=>?_;go_simp
   refine hK _ _ ⟨ah.fl m.out.1 A2 _,ah.fl m.out.2 A2 _⟩ ?_;clear hK K;refine Gp Ao ?_ _;have K4:=cU.fl (a:=⟨b,k*5+2,none⟩) A2 (.S g 0 ((cg rs n (3*k)).length+1) c);have HA:=kH.fl (a:=⟨b,k*5+2,none⟩) A2 (.S g 0 ((cg rs n (3*k)).length+1) c);have HB:=BJ.fl (a:=⟨b,k*5+2,none⟩) A2 (.S g 0 ((cg rs n (3*k)).length+1) c);have F:=bk.fl (a:=⟨b,k*5+2,none⟩) A2 (.S g 0 ((cg rs n (3*k)).length+1) c);have ny:Below n0 w0 (W2.setCell ⟨b,k*5+2,none⟩ (.S g 0 ((cg rs n (3*k)).length+1) c)):=(U.out.trans z).setCell (p:=⟨b,k*5+2,none⟩) AX _;have uU:iC L2 q/\iC L2 (f.heap.size)/\iC L2 (f.heap.size+1):=⟨Po _ AX R.out.1,Po _ AX R.out.2.1,Po _ AX R.out.2.2⟩;have aHH:f.heap.size+1<(W2.setCell ⟨b,k*5+2,none⟩ (.S g 0 ((cg rs n (3*k)).length+1) c)).heap.size:=HB.lt;clear A Y Z m HC cU kH BJ bk z s t x Po D E c6 I Hz tJ U R VW VX;generalize W2.setCell ⟨b,k*5+2,none⟩ (.S g 0 ((cg rs n (3*k)).length+1) c)=o5 at *;clear azf W2;have iM:=azb.out _ HA;have V:Hid (iX (n0) (b) (l) _ o5 L2 aze):=uZ;have Pp:Hid _:=(⟨K4,HA,HB⟩:_/\_/\_);have VY:Hid _:=F;have tg:Hid _:=ny;have EW:Hid _:=uU;clear uZ K4 HA HB F ny uU;gi_wp2_with (refine⟨NE,(callsIn_wide.2 (wE J hI _)).mono ?_⟩;rintro e y ⟨rfl,rfl⟩)
   clear iM;obtain⟨azg,k6,VZ⟩:=V.out.at_ (3*k+2) AX;rw[show(3*k+2) / 3*5+2+(3*k+2) % 3=k*5+4 by omega]at VZ;have o0:(if 3*k+2=3*k then cg rs n (3*k)++[.I P]else if(3*k+2) / 3<k then cg rs (n+1) (3*k+2)else cg rs n (3*k+2))=cg rs n (3*k+2):=by rw[vbp AX,vbp AX]
   simp only[o0]at k6;obtain⟨p2,r2,rfl⟩:=gQ (show y.ownsRow _ (jP (3*k+2)) 1 azg (cg rs n (3*k+2)).length _ from V.out.gL.at k6);have JK:Hid _:=k6;have V0:Hid _:=VZ;have Aq:Hid _:=o0;clear k6 VZ o0;refine wpIn_region_any Ao (Gn (C:=λW=>ah W (l) #[.S b 0 4 4] 27) _ _ _ _ ?_);have HC:Hid (ah y.drew (l) #[.S b 0 4 4] 27):=V.out.bt;refine iG (i:=0) (v:=.P l 0) rfl rfl Ao Ao Ao Jy HC.out ⟨BK,λW d=>Ar,λc=>Ab,λ_=>rfl⟩ ?_;refine iG (i:=3) (v:=.P l 0) rfl rfl Ao Ao Ao Jy HC.out ⟨BK,λW d=>Ar,λc=>Ab,λ_=>rfl⟩ ?_;refine iG (i:=2) (v:=.I k) rfl rfl Ao Ao Ao Jy HC.out ⟨BK,λW d=>Ar,λc=>Ab,λ_=>rfl⟩ ?_;refine iG (i:=5) (v:=.I k) rfl rfl Ao Ao Ao Jy HC.out ⟨BK,λW d=>Ar,λc=>Ab,λ_=>rfl⟩ ?_;refine iG (i:=9) (v:=.bool (jl J)) rfl rfl Ao Ao Ao Jy HC.out ⟨BK,λW d=>Ar,λc=>Ab,λ_=>rfl⟩ ?_;refine iG (i:=1) (v:=.S b 0 4 4) rfl rfl Ao Ao Ao Jy HC.out ⟨BK,λW d=>B0,λc=>Ab,λ_=>rfl⟩ ?_;refine iG (i:=4) (v:=.S b 0 4 4) rfl rfl Ao Ao Ao Jy HC.out ⟨BK,λW d=>B0,λc=>Ab,λ_=>rfl⟩ ?_;refine iG (i:=6) (v:=.P b (k*5)) rfl rfl Ao Ao Ao Jy HC.out ⟨BK,λW d=>Ar,λc=>Ab,λ_=>rfl⟩ ?_;refine iG (i:=7) (v:=.P b (k*5+4)) rfl rfl Ao Ao Ao Jy HC.out ⟨BK,λW d=>Ar,λc=>Ab,λ_=>rfl⟩ ?_;have A:y.drew.cell? (.a b (k*5+4))=some (.slice p2 (cg rs n (3*k+2)).length r2):=(V.out.box.rules.1 _).trans V0.out;refine Pb (i:=8) (j:=10) (v:=.slice p2 (cg rs n (3*k+2)).length r2) (u:=.S y.heap.size 0 1 1) (w1:=y.drew.alloc (.cells #[.bool (jl J)] 4)) Ao Ao Ao rfl rfl AU rfl rfl AU ⟨rfl,rfl⟩ (λc=>⟨Ab,Ab⟩) (λ_ _=>⟨rfl,rfl⟩) Ar Ar Ar (by have g1:(y.alloc (.cells #[.bool (jl J)] 4)).drew.cell? (.a b (k*5+4))=_:=bc.rq A (.cells #[.bool (jl J)] 4);go_simp) HC.out (ah.alloc HC.out _) ?_;have uS:jP (3*k+2)=4:=by simp[jP]
   refine ki (i:=11) Ao rfl λK hK=>?_;refine Pd Iy _ rfl _ _ rfl (n0) (.slice p2 (cg rs n (3*k+2)).length r2) (cg rs n (3*k+2)).length (cg rs n (3*k+2)) ((O_ AU).trans (BF C0)) (by have h:=V.out.gL.at JK.out;rw[show(jP (3*k+2))=4 from uS]at h;exact World.ownsRow.alloc (w:=y.drew) h _) y.heap.size (.bool (jl J)) (BF C0) (oq (vbg y.drew _) rfl rfl) rfl (by have:=BG rs n (3*k+2);omega) (by have:=BG rs n (3*k+2);omega) (by have:=AX;simp;omega) ?_;intro g' c' r D E c6;obtain⟨z,s,t,x,K5,uN,uL,Pq⟩:=iX.Pe (N:=n0) V.out (j:=3*k+2) AX (xs:=cg rs n (3*k+2)) Aq.out uS JK.out D E c6 AX AX (o:=k*5+4) AX;have cU:=s _ _ _ EW.out.1 Pp.out.1;have kH:=s _ _ _ EW.out.2.1 Pp.out.2.1;have BJ:=s _ _ _ EW.out.2.2 Pp.out.2.2;have bk:=s _ _ _ (V.out.n4 VY.out Kj) VY.out;refine hK _ _ x ?_;clear hK K;have Y:r.cell? (.a b (k*5+4))=some (.slice p2 (cg rs n (3*k+2)).length r2):=(t.rules.1 _).trans V0.out;have Z:=t.rules.2;have m:Hid (ah r (l) #[.S b 0 4 4] 27):=x;refine ki (i:=12) Ao rfl λK hK=>?_;go_simp
   refine hK _ _ m.out ?_;clear hK K;refine ki (i:=13) Ao rfl λK hK=>?_;go_simp
   refine hK _ _ m.out ?_;clear hK K;refine ki (i:=14) Ao rfl λK hK=>?_;go_simp
   refine hK _ _ (ah.fl m.out A2 _) ?_;clear hK K;refine Gp Ao ?_ _;have K4:=cU.fl (a:=⟨b,k*5+4,none⟩) AF (.S g' 0 ((cg rs n (3*k+2)).length+1) c');have HA:=kH.fl (a:=⟨b,k*5+4,none⟩) AF (.S g' 0 ((cg rs n (3*k+2)).length+1) c');have HB:=BJ.fl (a:=⟨b,k*5+4,none⟩) AF (.S g' 0 ((cg rs n (3*k+2)).length+1) c');have F:=bk.fl (a:=⟨b,k*5+4,none⟩) AF (.S g' 0 ((cg rs n (3*k+2)).length+1) c');have qm:Below n0 w0 (r.setCell ⟨b,k*5+4,none⟩ (.S g' 0 ((cg rs n (3*k+2)).length+1) c')):=(tg.out.trans z).setCell (p:=⟨b,k*5+4,none⟩) AX _;have uI:iC K5 q/\iC K5 (f.heap.size)/\iC K5 (f.heap.size+1):=⟨Pq _ AX EW.out.1,Pq _ AX EW.out.2.1,Pq _ AX EW.out.2.2⟩;have wj:Hid (iX (n0) (b) (l) _ (r.setCell ⟨b,k*5+4,none⟩ (.S g' 0 ((cg rs n (3*k+2)).length+1) c')) K5 uN):=uL;have Pr:Hid _:=And.intro F (And.intro qm (And.intro (And.intro K4 (And.intro HA HB)) uI));clear A Y Z m HC cU kH BJ bk z s t x Pq D E c6 V Pp VY tg EW JK V0 uL F qm K4 HA HB uI;generalize r.setCell ⟨b,k*5+4,none⟩ (.S g' 0 ((cg rs n (3*k+2)).length+1) c')=GH at *;clear r;gi_wp2
   go_roundw
   case rel=>
    refine⟨k+1,K5,uN,AX,Ab,wj.out.congr λj hj=>?_,Pr.out.1,Pr.out.2.1,Pr.out.2.2.1,Pr.out.2.2.2⟩;by_cases e2:j=3*k+2
    .subst e2;rw[vbv rfl,vbv AX,ER rs x9,VU.out.2.2]
    .rw[vbp e2];by_cases e0:j=3*k
     .subst e0;rw[vbv rfl,vbv AX,ER rs x9,VU.out.1]
     .rw[vbp e0];by_cases e1:j=3*k+1
      .subst e1;rw[vbp AX,vbv AX,ER rs x9,VU.out.2.1,vce]
      .by_cases e3:j / 3<k
       .rw[vbv e3,vbv AX]
       .rw[vbp e3,vbp AX]
   case measure=>simp[intOf];omega
  .obtain rfl:k=3:=by omega
   clear rT Hy cp;obtain⟨f1,iu,f3⟩:=S.all;have tJ:Hid _:=gO;have U:Hid _:=b_;have R:Hid _:=Pm;have uH:Hid _:=S;clear S wh VT gO b_ Pm VS;gi_wp2_with (first|(refine⟨NE,(callsIn_wide.2 (auA _ i3 _)).mono ?_⟩;rintro e y ⟨rfl,kh⟩;apply sQ))
   unfold ky;have S:=ah.call uH.out kh;have uF:=I.out.below kh;have h4:=ah.call tJ.out kh;have zH:Below n0 w0 y:=U.out.trans (kh.mono (vad EV.out U.out.size));clear f1 iu f3 kh uH tJ U I;obtain⟨f1,iu,f3⟩:=S.all;have Q:Hid (iX (n0) (b) (l) _ y Gg cs1):=uF;have Hy:Hid _:=h4;have qi:Hid _:=zH;clear uF h4 zH S;gi_wp2_with (refine⟨NE,(callsIn_wide.2 (wE _ i3 _)).mono ?_⟩;rintro e r ⟨rfl,rfl⟩)
   clear f1 iu f3;obtain⟨azh,Ps,uE⟩:=Q.out.at_ 10 AX;have uo:(if 10 / 3<3 then cg rs (n+1) 10 else cg rs n 10)=cg rs n 10:=by rw[vbp AX]
   simp at Ps;obtain⟨Pt,Pu,rfl⟩:=gQ (show r.ownsRow _ (jP 10) 1 azh (cg rs n 10).length _ from Q.out.gL.at Ps);have V1:Hid _:=Ps;have V2:Hid (cs1[18]?=some _):=uE;have ui:Hid _:=uo;clear Ps uE uo;refine wpIn_region_any Ao (Gn (C:=λW=>ah W (l) #[.S b 0 4 4] 27) _ _ _ _ ?_);have HC:Hid (ah r.drew (l) #[.S b 0 4 4] 27):=Q.out.bt;refine iG (i:=0) (v:=.P l 0) rfl rfl Ao Ao Ao Jy HC.out ⟨BK,λW d=>Ar,λc=>Ab,λ_=>rfl⟩ ?_;refine iG (i:=2) (v:=.P l 0) rfl rfl Ao Ao Ao Jy HC.out ⟨BK,λW d=>Ar,λc=>Ab,λ_=>rfl⟩ ?_;refine iG (i:=7) (v:=.string (nz rs[n].2.2.2)) rfl rfl Ao Ao Ao Jy HC.out ⟨BK,λW d=>Ar,λc=>Ab,λ_=>rfl⟩ ?_;refine iG (i:=1) (v:=.S b 0 4 4) rfl rfl Ao Ao Ao Jy HC.out ⟨BK,λW d=>B0,λc=>Ab,λ_=>rfl⟩ ?_;refine iG (i:=3) (v:=.S b 0 4 4) rfl rfl Ao Ao Ao Jy HC.out ⟨BK,λW d=>B0,λc=>Ab,λ_=>rfl⟩ ?_;refine iG (i:=4) (v:=.P b 15) rfl rfl Ao Ao Ao Jy HC.out ⟨BK,λW d=>Ar,λc=>Ab,λ_=>rfl⟩ ?_;refine iG (i:=5) (v:=.P b 18) rfl rfl Ao Ao Ao Jy HC.out ⟨BK,λW d=>Ar,λc=>Ab,λ_=>rfl⟩ ?_;have A:r.drew.cell? (.a b 18)=some (.slice Pt (cg rs n 10).length Pu):=(Q.out.box.rules.1 _).trans V2.out;refine Pb (i:=6) (j:=8) (v:=.slice Pt (cg rs n 10).length Pu) (u:=.S r.heap.size 0 1 1) (w1:=r.drew.alloc (.cells #[.string (nz rs[n].2.2.2)] 9)) Ao Ao Ao rfl rfl AU rfl rfl AU ⟨rfl,rfl⟩ (λc=>⟨Ab,Ab⟩) (λ_ _=>⟨rfl,rfl⟩) Ar Ar Ar (by have g1:(r.alloc (.cells #[.string (nz rs[n].2.2.2)] 9)).drew.cell? (.a b 18)=_:=bc.rq A (.cells #[.string (nz rs[n].2.2.2)] 9);go_simp) HC.out (ah.alloc HC.out _) ?_;refine ki (i:=9) Ao rfl λK hK=>?_;refine Pd Q5 _ rfl _ _ rfl (n0) (.slice Pt (cg rs n 10).length Pu) (cg rs n 10).length (cg rs n 10) ((O_ AU).trans (BF C0)) (World.ownsRow.alloc (w:=r.drew) (show r.ownsRow _ 9 1 _ (cg rs n 10).length _ from Q.out.gL.at V1.out) _) r.heap.size (.string (nz rs[n].2.2.2)) (BF C0) (oq (vbg r.drew _) rfl rfl) rfl (by grind[BG]) (by grind[BG]) (by have:=vad EV.out qi.out.size;simp;omega) ?_;intro Pv Pw HD D E c6;obtain⟨z,s,t,x,L7,tZ,K6,-⟩:=iX.Pe (N:=n0) Q.out (j:=10) AX (xs:=cg rs n 10) ui.out rfl V1.out D E c6 AX (vad EV.out qi.out.size) (o:=18) AX;have bk:=s _ _ _ (Q.out.n4 Hy.out Kj) Hy.out;refine hK _ _ x ?_;clear hK K;have Y:HD.cell? (.a b 18)=some (.slice Pt (cg rs n 10).length Pu):=(t.rules.1 _).trans V2.out;have Z:=t.rules.2;have m:Hid (ah HD (l) #[.S b 0 4 4] 27):=x;refine ki (i:=10) Ao rfl λK hK=>?_;go_simp
   refine hK _ _ m.out ?_;clear hK K;refine ki (i:=11) Ao rfl λK hK=>?_;go_simp
   refine hK _ _ m.out ?_;clear hK K;refine ki (i:=12) Ao rfl λK hK=>?_;go_simp
   refine hK _ _ (ah.fl m.out AF _) ?_;clear hK K;refine Gp Ao ?_ _;have F:=bk.fl (a:=⟨b,18,none⟩) AF (.S Pv 0 ((cg rs n 10).length+1) Pw);have K7:Below n0 w0 (HD.setCell ⟨b,18,none⟩ (.S Pv 0 ((cg rs n 10).length+1) Pw)):=(qi.out.trans z).setCell (p:=⟨b,18,none⟩) AX _;have X:Hid (iX (n0) (b) (l) _ (HD.setCell ⟨b,18,none⟩ (.S Pv 0 ((cg rs n 10).length+1) Pw)) L7 tZ):=K6;have V3:Hid _:=F;have Px:Hid _:=K7;clear A Y Z m HC bk z s t x D E c6 Q V1 V2 ui K6 F K7 Hy qi;generalize HD.setCell ⟨b,18,none⟩ (.S Pv 0 ((cg rs n 10).length+1) Pw)=H at *;clear HD;gi_wp2
   obtain⟨azi,Py,tS⟩:=X.out.at_ 11 AX;have tF:(if 11=10 then cg rs n 10++[.string (nz rs[n].2.2.2)]else if 11 / 3<3 then cg rs (n+1) 11 else cg rs n 11)=cg rs n 11:=by rw[vbp AX,vbp AX]
   simp at Py;obtain⟨Pz,PA,rfl⟩:=gQ (show H.ownsRow _ (jP 11) 1 azi (cg rs n 11).length _ from X.out.gL.at Py);have V4:Hid _:=Py;have V5:Hid (tZ[19]?=some _):=tS;have tr:Hid _:=tF;clear Py tS tF;refine wpIn_region_any Ao (Gn (C:=λW=>ah W (l) #[.S b 0 4 4] 27) _ _ _ _ ?_);have HC:Hid (ah H.drew (l) #[.S b 0 4 4] 27):=X.out.bt;refine iG (i:=0) (v:=.P l 0) rfl rfl Ao Ao Ao Jy HC.out ⟨BK,λW d=>Ar,λc=>Ab,λ_=>rfl⟩ ?_;refine iG (i:=2) (v:=.P l 0) rfl rfl Ao Ao Ao Jy HC.out ⟨BK,λW d=>Ar,λc=>Ab,λ_=>rfl⟩ ?_;refine iG (i:=7) (v:=.bool (jl rs[n].2.2.2)) rfl rfl Ao Ao Ao Jy HC.out ⟨BK,λW d=>Ar,λc=>Ab,λ_=>rfl⟩ ?_;refine iG (i:=1) (v:=.S b 0 4 4) rfl rfl Ao Ao Ao Jy HC.out ⟨BK,λW d=>B0,λc=>Ab,λ_=>rfl⟩ ?_;refine iG (i:=3) (v:=.S b 0 4 4) rfl rfl Ao Ao Ao Jy HC.out ⟨BK,λW d=>B0,λc=>Ab,λ_=>rfl⟩ ?_;refine iG (i:=4) (v:=.P b 15) rfl rfl Ao Ao Ao Jy HC.out ⟨BK,λW d=>Ar,λc=>Ab,λ_=>rfl⟩ ?_;refine iG (i:=5) (v:=.P b 19) rfl rfl Ao Ao Ao Jy HC.out ⟨BK,λW d=>Ar,λc=>Ab,λ_=>rfl⟩ ?_;have A:H.drew.cell? (.a b 19)=some (.slice Pz (cg rs n 11).length PA):=(X.out.box.rules.1 _).trans V5.out;refine Pb (i:=6) (j:=8) (v:=.slice Pz (cg rs n 11).length PA) (u:=.S H.heap.size 0 1 1) (w1:=H.drew.alloc (.cells #[.bool (jl rs[n].2.2.2)] 4)) Ao Ao Ao rfl rfl AU rfl rfl AU ⟨rfl,rfl⟩ (λc=>⟨Ab,Ab⟩) (λ_ _=>⟨rfl,rfl⟩) Ar Ar Ar (by have g1:(H.alloc (.cells #[.bool (jl rs[n].2.2.2)] 4)).drew.cell? (.a b 19)=_:=bc.rq A (.cells #[.bool (jl rs[n].2.2.2)] 4);go_simp) HC.out (ah.alloc HC.out _) ?_;refine ki (i:=9) Ao rfl λK hK=>?_;refine Pd Iy _ rfl _ _ rfl (n0) (.slice Pz (cg rs n 11).length PA) (cg rs n 11).length (cg rs n 11) ((O_ AU).trans (BF C0)) (World.ownsRow.alloc (w:=H.drew) (show H.ownsRow _ 4 1 _ (cg rs n 11).length _ from X.out.gL.at V4.out) _) H.heap.size (.bool (jl rs[n].2.2.2)) (BF C0) (oq (vbg H.drew _) rfl rfl) rfl (by grind[BG]) (by grind[BG]) (by have:=vad EV.out Px.out.size;simp;omega) ?_;intro PB PC HE D E c6;obtain⟨z,s,t,x,tq,wo,K6,-⟩:=iX.Pe (N:=n0) X.out (j:=11) AX (xs:=cg rs n 11) tr.out rfl V4.out D E c6 AX (vad EV.out Px.out.size) (o:=19) AX;have bk:=s _ _ _ (X.out.n4 V3.out Kj) V3.out;refine hK _ _ x ?_;clear hK K;have Y:HE.cell? (.a b 19)=some (.slice Pz (cg rs n 11).length PA):=(t.rules.1 _).trans V5.out;have Z:=t.rules.2;have m:Hid (ah HE (l) #[.S b 0 4 4] 27):=x;refine ki (i:=10) Ao rfl λK hK=>?_;go_simp
   refine hK _ _ m.out ?_;clear hK K;refine ki (i:=11) Ao rfl λK hK=>?_;go_simp
   refine hK _ _ m.out ?_;clear hK K;refine ki (i:=12) Ao rfl λK hK=>?_;go_simp
   refine hK _ _ (ah.fl m.out AF _) ?_;clear hK K;refine Gp Ao ?_ _;have F:=bk.fl (a:=⟨b,19,none⟩) AF (.S PB 0 ((cg rs n 11).length+1) PC);have K7:Below n0 w0 (HE.setCell ⟨b,19,none⟩ (.S PB 0 ((cg rs n 11).length+1) PC)):=(Px.out.trans z).setCell (p:=⟨b,19,none⟩) AX _;have azj:Hid (iX (n0) (b) (l) _ (HE.setCell ⟨b,19,none⟩ (.S PB 0 ((cg rs n 11).length+1) PC)) tq wo):=K6;have azk:Hid _:=F;have azl:Hid _:=K7;clear A Y Z m HC bk z s t x D E c6 X V4 V5 tr K6 F K7 V3 Px;generalize HE.setCell ⟨b,19,none⟩ (.S PB 0 ((cg rs n 11).length+1) PC)=aHI at *;clear HE;gi_wp2
   refine⟨rfl,⟨rfl,rfl,rfl,rfl,rfl,rfl⟩,⟨tq,wo,azj.out.congr λj hj=>?_⟩,azk.out,azl.out⟩;by_cases OM:j=11
   .subst OM;rw[vbv rfl,ER rs x9];rfl
   .rw[vbp OM];by_cases PD:j=10
    .subst PD;rw[vbv rfl,ER rs x9];rfl
    .rw[vbp PD];by_cases PE:j / 3<3
     .rw[vbv PE]
     .obtain rfl:j=9:=by omega
      rw[vbp PE,ER rs x9,show wm rs[n] 9=[]from rfl,vce]
end
end ej
namespace bc
open Conc ConcM RowKit az bo cF c3 bX cu ej
section
variable{n0:Nat}
def PF{a:Act}(h:a.tmps.size=123)(hd:a.defers=[]):∃f:Nat->Value,a=⟨#[f 0,f 1,f 2,f 3,f 4,f 5,f 6,f 7,f 8,f 9,f 10,f 11,f 12,f 13,f 14,f 15,f 16,f 17,f 18,f 19,f 20,f 21,f 22,f 23,f 24,f 25,f 26,f 27,f 28,f 29,f 30,f 31,f 32,f 33,f 34,f 35,f 36,f 37,f 38,f 39,f 40,f 41,f 42,f 43,f 44,f 45,f 46,f 47,f 48,f 49,f 50,f 51,f 52,f 53,f 54,f 55,f 56,f 57,f 58,f 59,f 60,f 61,f 62,f 63,f 64,f 65,f 66,f 67,f 68,f 69,f 70,f 71,f 72,f 73,f 74,f 75,f 76,f 77,f 78,f 79,f 80,f 81,f 82,f 83,f 84,f 85,f 86,f 87,f 88,f 89,f 90,f 91,f 92,f 93,f 94,f 95,f 96,f 97,f 98,f 99,f 100,f 101,f 102,f 103,f 104,f 105,f 106,f 107,f 108,f 109,f 110,f 111,f 112,f 113,f 114,f 115,f 116,f 117,f 118,f 119,f 120,f 121,f 122],[]⟩:=by
 obtain⟨l,ds⟩:=a;have hd:ds=[]:=hd;subst hd;have h:l.size=123:=h;refine⟨λi=>l.getD i undef,?_⟩;have b:l.toList=(List.range 123).map λi=>l.getD i undef:=by
  apply List.ext_getElem
  .grind
  simp_all
 have d:List.range 123=[0,1,2,3,4,5,6,7,8,9,10,11,12,13,14,15,16,17,18,19,20,21,22,23,24,25,26,27,28,29,30,31,32,33,34,35,36,37,38,39,40,41,42,43,44,45,46,47,48,49,50,51,52,53,54,55,56,57,58,59,60,61,62,63,64,65,66,67,68,69,70,71,72,73,74,75,76,77,78,79,80,81,82,83,84,85,86,87,88,89,90,91,92,93,94,95,96,97,98,99,100,101,102,103,104,105,106,107,108,109,110,111,112,113,114,115,116,117,118,119,120,121,122]:=AQ;rw[d]at b;simp only[vcy,veo]at b;have c:l=l.toList.toArray:=Ab;rw[b]at c;grind
def HF(f:Func):Code:=.seq (.seq (.region 3 (dD f 3) false) (.cond (.tmp 28) .skip (.exit 0))) (.seq (.block 1 (.seq (.region 5 (dD f 5) false) (zT f 5))) (.region 4 (ay f 4) false))
def EX(f:Func):List Item:=[.inLoop (HF f),.inBlock 0,.code (.seq (.region 18 (dD f 18) false) .ret)]
def pA(f:Func):List Item:=.code (.cond (.tmp 28) .skip (.exit 0)):: .code (.seq (.block 1 (.seq (.region 5 (dD f 5) false) (zT f 5))) (.region 4 (ay f 4) false))::EX f
def EY(f:Func):List Item:=.code (zT f 5):: .inBlock 1:: .code (.region 4 (ay f 4) false)::EX f
theorem azm:Br Tryz.f4=.seq (.region 0 (dD Tryz.f4 0) false) (.seq (.region 1 (dD Tryz.f4 1) false) (.seq (.seq (.region 2 (dD Tryz.f4 2) false) (.block 0 (.loop (HF Tryz.f4)))) (.seq (.region 18 (dD Tryz.f4 18) false) .ret))):=by kernel_rfl
def iY(n0:Nat)(rs:List fJ)(n:Nat):List (Nat×(aL->Value->Prop)):=[(1,eE (.I 40)),(4,ET n0),(5,ES n0 (cg rs n)),(6,eE (.I n))]
theorem HG(rs:List fJ)(n:Nat):∀p∈iY n0 rs n,kE n0 p.2:=by intro p a;simp[iY]at a;grind[A_,axl,axm,axq]
end
section
variable{n0:Nat}
def Z9(rs:List fJ)(w:aL)(hn:n0<=w.heap.size):bO (ae prog true) [.code (Br Tryz.f4)] (.R (dD Tryz.f4 3) (List.range' 1 8)::pA Tryz.f4) (λa1 w1=>a1.defers=[]/\pn 123 ((20,eE (.I 0))::iY n0 rs 0) a1 w1/\Below n0 w w1)
 ⟨#[undef,.I 40]++Array.replicate 121 undef,[]⟩ w:=by
 have a:iX n0 (w.heap.size+1) (w.heap.size+2) (cg rs 0) (((w.alloc (.cells #[.N] 27)).alloc (.cells #[.I 1,.I 0,.N,.N,.N,.I 1,.I 0,.N,.N,.N,.I 2,.I 2,.N,.N,.N,.I 3,.I 0,.N,.N,.N] 36)).alloc (.cells #[.S (w.heap.size+1) 0 4 4] 27)) ((List.range 12).map λi=>⟨jP i,.N,[]⟩) #[.I 1,.I 0,.N,.N,.N,.I 1,.I 0,.N,.N,.N,.I 2,.I 2,.N,.N,.N,.I 3,.I 0,.N,.N,.N]:=by
  refine⟨?_,Ab,?_,U,λc x e=>?_,λj d=>⟨.N,?_,?_⟩,?_,AX,AX⟩
  .refine⟨λi hi=>?_,λi j hi d g l hg=>?_⟩
   .grind[World.ownsRow_nil]
   grind[Value.ownBlock]
  .have:=(ah.new (w.alloc (.cells #[.N] 27)) #[.I 1,.I 0,.N,.N,.N,.I 1,.I 0,.N,.N,.N,.I 2,.I 2,.N,.N,.N,.I 3,.I 0,.N,.N,.N] 36).alloc (.cells #[.S (w.heap.size+1) 0 4 4] 27);simp_all
  .simp at e;rcases e with⟨rfl,rfl⟩|⟨rfl,rfl⟩|⟨rfl,rfl⟩|⟨rfl,rfl⟩|⟨rfl,rfl⟩|⟨rfl,rfl⟩|⟨rfl,rfl⟩|⟨rfl,rfl⟩<;>rfl
  .simp[d,cg]
  .have h:j=0\/j=1\/j=2\/j=3\/j=4\/j=5\/j=6\/j=7\/j=8\/j=9\/j=10\/j=11:=by omega
   rcases h with rfl|rfl|rfl|rfl|rfl|rfl|rfl|rfl|rfl|rfl|rfl|rfl<;>rfl
  .have:=ah.new ((w.alloc (.cells #[.N] 27)).alloc (.cells #[.I 1,.I 0,.N,.N,.N,.I 1,.I 0,.N,.N,.N,.I 2,.I 2,.N,.N,.N,.I 3,.I 0,.N,.N,.N] 36)) #[.S (w.heap.size+1) 0 4 4] 27;simp_all
 have iH:cC w (((w.alloc (.cells #[.N] 27)).alloc (.cells #[.I 1,.I 0,.N,.N,.N,.I 1,.I 0,.N,.N,.N,.I 2,.I 2,.N,.N,.N,.I 3,.I 0,.N,.N,.N] 36)).alloc (.cells #[.S (w.heap.size+1) 0 4 4] 27)):=(((vaa _ w).alloc Jb _).alloc Ab _).alloc A2 _;have f:ah (((w.alloc (.cells #[.N] 27)).alloc (.cells #[.I 1,.I 0,.N,.N,.N,.I 1,.I 0,.N,.N,.N,.I 2,.I 2,.N,.N,.N,.I 3,.I 0,.N,.N,.N] 36)).alloc (.cells #[.S (w.heap.size+1) 0 4 4] 27)) w.heap.size #[.N] 27:=((ah.new w _ _).alloc _).alloc _;have rT:Hid _:=a;have m:Hid _:=iH;have k:Hid _:=f;clear a iH f;rw[azm];simp only[dD,ay,qs,zT,Br,HF,pA,EY,Tryz.f4,vae,bR.er,bR.lM,bR.oM,Nat.reduceBEq,vai,↓reduceIte,EX];simp[vcg];refine bq (A6 ?_);go_wp2
 refine⟨U,bq (A6 ?_)⟩;go_wp2
 refine⟨U,bq (bq (A6 ?_))⟩;go_wp2
 refine⟨U,nr (A4 (bq (bq (uq (JW 1 AU AU ?_)))))⟩;simp only[ver,vdr,veq];go_wp2
 refine⟨U,lp ⟨U,⟨U,λp b=>?_⟩,m.out.mono hn⟩⟩;simp only[iY,vbo,vdd,or_false]at b;rcases b with rfl|rfl|rfl|rfl|rfl
 .exact⟨_,U,U⟩
 .exact⟨_,U,U⟩
 .exact⟨_,U,_,U,hn,k.out⟩
 .exact⟨_,U,_,_,_,_,U,rT.out⟩
 .exact⟨_,U,U⟩
end
section
variable{n0:Nat}
def Z2(rs:List fJ)(n:Nat)(I:n<rs.length)(H:n<40)(a:Act)(w:aL)(hd:a.defers=[])(hs:pn 123 ((20,eE (.I n))::(22,eE (.I rs.length))::iY n0 rs n) a w):bO (ae prog true) (.R (dD Tryz.f4 3) (List.range' 3 6)::pA Tryz.f4) (.R (dD Tryz.f4 5) (List.range' 0 6)::EY Tryz.f4) (λa1 w1=>a1.defers=[]/\pn 123 (iY n0 rs n) a1 w1/\Below n0 w w1) a w:=by
 obtain⟨hsz,b⟩:=hs;obtain⟨v20,c,u⟩:=b (20,eE (.I n)) Ab;obtain⟨v22,s,A⟩:=b (22,eE (.I rs.length)) Ab;obtain⟨v1,m,y⟩:=b (1,eE (.I 40)) Cw;obtain⟨D,l,j⟩:=b (4,ET n0) Cw;obtain⟨C,k,o⟩:=b (5,ES n0 (cg rs n)) Cw;obtain⟨x,h,z⟩:=b (6,eE (.I n)) Cw;have B:Hid _:=j;have v:Hid _:=o;clear b j o;obtain rfl:v20=.I n:=u;obtain rfl:v22=.I rs.length:=A;obtain rfl:v1=.I 40:=y;obtain rfl:x=.I n:=z;obtain⟨f,rfl⟩:=PF hsz hd;have r:f 20=_:=vaq (show some (f 20)=some _ from c);have q:f 22=_:=vaq (show some (f 22)=some _ from s);have g1:f 1=_:=vaq (show some (f 1)=some _ from m);have d:f 6=_:=vaq (show some (f 6)=some _ from h);have g:f 4=_:=vaq (show some (f 4)=some _ from l);have e:f 5=_:=vaq (show some (f 5)=some _ from k);clear c s m h l k hsz hd;simp[r,q,g1,d,g,e];clear r q g1 d g e;have F:(n:Int)<(rs.length:Int):=AX;have E:(n:Int)<40:=AX;simp only[dD,ay,qs,zT,Br,HF,pA,EY,Tryz.f4,vae,bR.er,bR.lM,bR.oM,Nat.reduceBEq,vai,↓reduceIte,EX];refine JW 6 AU AU ?_;simp only[List.drop_succ_cons,ver,vdr,veq];go_wp2
 refine⟨U,vA (fI (t:=true) U ?_)⟩;rw[vbv U];refine nt (bq (nr (bq (uq (lp ⟨U,⟨U,λp i=>?_⟩,vaa _ _⟩)))));simp[iY]at i;rcases i with rfl|rfl|rfl|rfl
 .exact⟨_,U,U⟩
 .exact⟨_,U,B.out⟩
 .exact⟨_,U,v.out⟩
 .exact⟨_,U,U⟩
end
section
variable{n0:Nat}
def z1(n0:Nat)(mY:List aI):List (Nat×(aL->Value->Prop)):=[(4,Hu n0 mY),(122,xC mY)]
def ZZ(rs:List fJ)(n:Nat)(O:n<=rs.length)(N:n<=40)(M:¬(n<rs.length/\n<40))(a:Act)(w:aL)(hd:a.defers=[])(hs:pn 123 ((20,eE (.I n))::(22,eE (.I rs.length))::iY n0 rs n) a w):bO (ae prog true) (.R (dD Tryz.f4 3) (List.range' 3 6)::pA Tryz.f4) [.code .ret] (λa1 w1=>a1.defers=[]/\pn 123 (z1 n0 (dp (rs.take 40))) a1 w1/\Below n0 w w1) a w:=by
 obtain⟨hsz,b⟩:=hs;obtain⟨v20,k,A⟩:=b (20,eE (.I n)) Ab;obtain⟨v22,z,H⟩:=b (22,eE (.I rs.length)) Ab;obtain⟨v1,v,D⟩:=b (1,eE (.I 40)) Cw;obtain⟨J,u,bk,rfl,i,d⟩:=b (4,ET n0) Cw;obtain⟨I,s,aS,bt,L,cs,rfl,h⟩:=b (5,ES n0 (cg rs n)) Cw;obtain⟨B,q,F⟩:=b (6,eE (.I n)) Cw;clear b;obtain rfl:v20=.I n:=A;obtain rfl:v22=.I rs.length:=H;obtain rfl:v1=.I 40:=D;obtain rfl:B=.I n:=F;have E:rs.take n=rs.take 40:=by grind
 have dN:lJ (w.setCell ⟨bk,0,none⟩ (.S aS 0 4 4)) (.S aS 0 4 4) (dp (rs.take 40)):=by rw[<-E];exact lJ.kept (jh.set d (by grind[q9]) _ _) (axb h)
 have j:Below n0 w (w.setCell ⟨bk,0,none⟩ (.S aS 0 4 4)):=(vaa _ w).setCell (p:=⟨bk,0,none⟩) i _;have u4:ah (w.setCell ⟨bk,0,none⟩ (.S aS 0 4 4)) bk #[.S aS 0 4 4] 27:=d.set 0 _;obtain⟨f1,iu,f3⟩:=h.bt.all;obtain⟨f4,Q,P⟩:=d.all;have c:Hid _:=dN;have BE:Hid _:=j;have g:Hid _:=u4;have e:Hid _:=i;clear dN j u4 d h i;obtain⟨f,rfl⟩:=PF hsz hd;have y:f 20=_:=vaq (show some (f 20)=some _ from k);have x:f 22=_:=vaq (show some (f 22)=some _ from z);have g1:f 1=_:=vaq (show some (f 1)=some _ from v);have l:f 6=_:=vaq (show some (f 6)=some _ from q);have o:f 4=_:=vaq (show some (f 4)=some _ from u);have m:f 5=_:=vaq (show some (f 5)=some _ from s);clear k z v q u s hsz hd;simp[y,x,g1,l,o,m];clear y x g1 l o m;simp only[dD,ay,qs,zT,Br,HF,pA,EY,Tryz.f4,vae,bR.er,bR.lM,bR.oM,Nat.reduceBEq,vai,↓reduceIte,EX];refine JW 6 AU AU ?_;simp only[List.drop_succ_cons,ver,vdr,veq];by_cases hl:n<rs.length;all_goals
  first
   |(have C:(n:Int)<(rs.length:Int):=AX)
   |(have C:¬(n:Int)<(rs.length:Int):=AX)
  try(have K:¬(n:Int)<40:=AX)
  go_wp2
  refine⟨U,vA (fI (t:=false) U ?_)⟩;rw[vbp AU];refine xe U (bq (A6 ?_));go_wp2
  refine⟨U,lp ⟨U,⟨U,λp r=>?_⟩,BE.out⟩⟩;simp[z1]at r;rcases r with rfl|rfl
  .exact⟨_,U,_,_,U,e.out,g.out,c.out⟩
  .exact⟨_,U,_,U,c.out⟩
end
section
variable{n0:Nat}
def ZY{P:cf}{c:Code}{ks ks':fC}{Q d:uaf}{a:Act}{w:aL}(h:c.wp P (kj d) a w)(hq:∀a1 w1,d a1 w1->bO P ks ks' Q a1 w1):bO P (.code c::ks) ks' Q a w:=
 A6 λb k cs=>let⟨e,a1,w1,⟨i,g⟩,f⟩:=h b k cs;⟨e,a1,w1,⟨i,hq _ _ g⟩,f⟩
def ZU(rs:List fJ)(n:Nat)(z:n<40)(a:Act)(w:aL)(hd:a.defers=[])(hs:pn 123 [(1,eE (.I 40)),(4,ET n0),(5,ES n0 (cg rs (n+1))),(6,eE (.I n))] a w):bO (ae prog true) (.inBlock 1:: .code (.region 4 (ay Tryz.f4 4) false)::EX Tryz.f4) (.R (dD Tryz.f4 3) (List.range' 1 8)::pA Tryz.f4) (λa1 w1=>a1.defers=[]/\pn 123 ((20,eE (.I (n+1:Nat)))::iY n0 rs (n+1)) a1 w1/\w1=w) a w:=by
 obtain⟨hsz,b⟩:=hs;obtain⟨v1,m,s⟩:=b (1,eE (.I 40)) Ab;obtain⟨y,l,j⟩:=b (4,ET n0) Ab;obtain⟨x,k,o⟩:=b (5,ES n0 (cg rs (n+1))) Ab;obtain⟨r,h,u⟩:=b (6,eE (.I n)) Ab;have v:Hid _:=j;have q:Hid _:=o;clear b j o;obtain rfl:v1=.I 40:=s;obtain rfl:r=.I n:=u;obtain⟨f,rfl⟩:=PF hsz hd;have g1:f 1=_:=vaq (show some (f 1)=some _ from m);have c:f 6=_:=vaq (show some (f 6)=some _ from h);have g:f 4=_:=vaq (show some (f 4)=some _ from l);have d:f 5=_:=vaq (show some (f 5)=some _ from k);clear m h l k hsz hd;simp only[g1,c,g,d];clear g1 c g d;have e:(n:Int)+1=((n+1:Nat):Int):=AX;have zU:Hid _:=e;clear e;refine vz ?_;have t:(ay Tryz.f4 4).size=3:=AQ;simp only[EX,pA];refine A6 ?_;have hq:ay Tryz.f4 4=(ay Tryz.f4 4):=rfl;simp only[ay,qs,Tryz.f4,vae,Nat.reduceBEq,vai,↓reduceIte];go_wp2
 refine⟨U,A5 ?_⟩;simp only[dD,ay,qs,zT,Br,HF,pA,EY,Tryz.f4,vae,bR.er,bR.lM,bR.oM,Nat.reduceBEq,vai,↓reduceIte];refine bq (bq (uq (JW 1 AU AU ?_)));simp only[ver,vdr,veq];go_wp2
 refine⟨U,lp ⟨U,⟨U,λp i=>?_⟩,U⟩⟩;simp only[iY,vbo,vdd,or_false]at i;rcases i with rfl|rfl|rfl|rfl|rfl
 .simp_all[eE]
 .exact⟨_,U,U⟩
 .exact⟨_,U,v.out⟩
 .exact⟨_,U,q.out⟩
 simp_all[eE]
end
section
variable{n0:Nat}
def ZT(rs:List fJ)(n:Nat)(W:n<rs.length)(C:n<40)(V:eC rs[n].1)(U:eC rs[n].2.1)(T:eC rs[n].2.2.1)(S:eC rs[n].2.2.2)(a:Act)(w:aL)(hn:n0<=w.heap.size)(hd:a.defers=[])(hs:pn 123 ((34,eE (.agg #[.I rs[n].1,.I rs[n].2.1,.I rs[n].2.2.1,.I rs[n].2.2.2]))::iY n0 rs n) a w):bO (ae prog true) (.R (dD Tryz.f4 5) (List.range' 4 2)::EY Tryz.f4) (.R (dD Tryz.f4 3) (List.range' 1 8)::pA Tryz.f4) (λa1 w1=>a1.defers=[]/\pn 123 ((20,eE (.I (n+1:Nat)))::iY n0 rs (n+1)) a1 w1/\Below n0 w w1) a w:=by
 obtain⟨hsz,b⟩:=hs;obtain⟨v34,g,t⟩:=b (34,eE (.agg #[.I rs[n].1,.I rs[n].2.1,.I rs[n].2.2.1,.I rs[n].2.2.2])) Ab;obtain⟨v1,c,R⟩:=b (1,eE (.I 40)) Cw;obtain⟨v4,E,bk,rfl,I,o⟩:=b (4,ET n0) Cw;obtain⟨v5,D,aS,bt,L,cs,rfl,i⟩:=b (5,ES n0 (cg rs n)) Cw;obtain⟨M,A,bH⟩:=b (6,eE (.I n)) Cw;clear b;obtain rfl:v34=.agg #[.I rs[n].1,.I rs[n].2.1,.I rs[n].2.2.1,.I rs[n].2.2.2]:=t;obtain rfl:v1=.I 40:=R;obtain rfl:M=.I n:=bH;have hb:=(vaa w.heap.size w).alloc Jb (.cells #[.I rs[n].1,.I rs[n].2.1,.I rs[n].2.2.1,.I rs[n].2.2.2] 54);have x:ah (w.alloc (.cells #[.I rs[n].1,.I rs[n].2.1,.I rs[n].2.2.1,.I rs[n].2.2.2] 54)) w.heap.size #[.I rs[n].1,.I rs[n].2.1,.I rs[n].2.2.1,.I rs[n].2.2.2] 54:=ah.new w _ _;have l:=o.call hb;have j:=i.below hb;have rP:Below n0 w (w.alloc (.cells #[.I rs[n].1,.I rs[n].2.1,.I rs[n].2.2.1,.I rs[n].2.2.2] 54)):=hb.mono hn;have K:iC L w.heap.size:=i.gL.n4 AF;have v:aS≠w.heap.size:=by have:=i.box.lt;omega
 have u:aS≠bk:=λe=>by have c:=i.box;rw[e]at c;have F:w.heap[bk]?=some (.cells cs 36):=c;rw[show w.heap[bk]?=some (.cells #[.N] 27)from o]at F;cases F
 have K3:Hid _:=x;have J:Hid _:=l;have s:Hid _:=j;have X:Hid _:=rP;have r:Hid _:=I;clear x l j rP hb o i I;obtain⟨f,rfl⟩:=PF hsz hd;have d:f 34=_:=vaq (show some (f 34)=some _ from g);have g1:f 1=_:=vaq (show some (f 1)=some _ from c);have y:f 6=_:=vaq (show some (f 6)=some _ from A);have m:f 4=_:=vaq (show some (f 4)=some _ from E);have z:f 5=_:=vaq (show some (f 5)=some _ from D);clear g c A E D hsz hd;simp only[d,g1,y,m,z];clear d g1 y m z;have step:∀(k:fC)(Q:uaf),bO (ae prog true) k (.R (dD Tryz.f4 3) (List.range' 1 8)::pA Tryz.f4) Q ⟨#[(f 0),.I 40,(f 2),(f 3),.P bk 0,.P bt 0,.I n,.P w.heap.size 0,(f 8),(f 9),(f 10),(f 11),(f 12),(f 13),(f 14),(f 15),(f 16),(f 17),(f 18),(f 19),(f 20),(f 21),(f 22),(f 23),(f 24),(f 25),(f 26),(f 27),(f 28),(f 29),(f 30),(f 31),(f 32),(f 33),.agg #[.I rs[n].1,.I rs[n].2.1,.I rs[n].2.2.1,.I rs[n].2.2.2],(f 35),(f 36),(f 37),(f 38),(f 39),(f 40),(f 41),(f 42),(f 43),(f 44),(f 45),(f 46),(f 47),(f 48),(f 49),(f 50),(f 51),(f 52),(f 53),(f 54),(f 55),(f 56),(f 57),(f 58),(f 59),(f 60),(f 61),(f 62),(f 63),(f 64),(f 65),(f 66),(f 67),(f 68),(f 69),(f 70),(f 71),(f 72),(f 73),(f 74),(f 75),(f 76),(f 77),(f 78),(f 79),(f 80),(f 81),(f 82),(f 83),(f 84),(f 85),(f 86),(f 87),(f 88),(f 89),(f 90),(f 91),(f 92),(f 93),(f 94),(f 95),(f 96),(f 97),(f 98),(f 99),(f 100),(f 101),(f 102),(f 103),(f 104),(f 105),(f 106),(f 107),(f 108),(f 109),(f 110),(f 111),(f 112),(f 113),(f 114),(f 115),(f 116),(f 117),(f 118),(f 119),(f 120),(f 121),(f 122)],[]⟩ (w.alloc (.cells #[.I rs[n].1,.I rs[n].2.1,.I rs[n].2.2.1,.I rs[n].2.2.2] 54))->bO (ae prog true) (.R (dD Tryz.f4 5) (List.range' 4 2)::k) (.R (dD Tryz.f4 3) (List.range' 1 8)::pA Tryz.f4) Q ⟨#[(f 0),.I 40,(f 2),(f 3),.P bk 0,.P bt 0,.I n,(f 7),(f 8),(f 9),(f 10),(f 11),(f 12),(f 13),(f 14),(f 15),(f 16),(f 17),(f 18),(f 19),(f 20),(f 21),(f 22),(f 23),(f 24),(f 25),(f 26),(f 27),(f 28),(f 29),(f 30),(f 31),(f 32),(f 33),.agg #[.I rs[n].1,.I rs[n].2.1,.I rs[n].2.2.1,.I rs[n].2.2.2],(f 35),(f 36),(f 37),(f 38),(f 39),(f 40),(f 41),(f 42),(f 43),(f 44),(f 45),(f 46),(f 47),(f 48),(f 49),(f 50),(f 51),(f 52),(f 53),(f 54),(f 55),(f 56),(f 57),(f 58),(f 59),(f 60),(f 61),(f 62),(f 63),(f 64),(f 65),(f 66),(f 67),(f 68),(f 69),(f 70),(f 71),(f 72),(f 73),(f 74),(f 75),(f 76),(f 77),(f 78),(f 79),(f 80),(f 81),(f 82),(f 83),(f 84),(f 85),(f 86),(f 87),(f 88),(f 89),(f 90),(f 91),(f 92),(f 93),(f 94),(f 95),(f 96),(f 97),(f 98),(f 99),(f 100),(f 101),(f 102),(f 103),(f 104),(f 105),(f 106),(f 107),(f 108),(f 109),(f 110),(f 111),(f 112),(f 113),(f 114),(f 115),(f 116),(f 117),(f 118),(f 119),(f 120),(f 121),(f 122)],[]⟩ w:=by
  intro k Q h;have H:Hid _:=h;clear h;simp only[dD,Tryz.f4,vae,bR.er,bR.oM,Nat.reduceBEq,vai,↓reduceIte]at H⊢;refine JW 2 AU AU ?_;simp only[List.drop_succ_cons,ver,vdr,veq];go_wp2
  exact⟨rfl,vA H.out⟩
 refine step _ _ (ZY (wpIn_wide.1 (axs rs n W C V U T S n0 aS bk bt w.heap.size w (w.alloc (.cells #[.I rs[n].1,.I rs[n].2.1,.I rs[n].2.2.1,.I rs[n].2.2.2] 54)) L cs hn s.out K3.out J.out X.out K v u (f 0) (f 2) (f 3) (.P bk 0) (f 8) (f 9) (f 10) (f 11) (f 12) (f 13) (f 14) (f 15) (f 16) (f 17) (f 18) (f 19) (f 20) (f 21) (f 22) (f 23) (f 24) (f 25) (f 26) (f 27) (f 28) (f 29) (f 30) (f 31) (f 32) (f 33) (.agg #[.I rs[n].1,.I rs[n].2.1,.I rs[n].2.2.1,.I rs[n].2.2.2]) (f 35) (f 36) (f 37) (f 38) (f 39) (f 40) (f 41) (f 42) (f 43) (f 44) (f 45) (f 46) (f 47) (f 48) (f 49) (f 50) (f 51) (f 52) (f 53) (f 54) (f 55) (f 56) (f 57) (f 58) (f 59) (f 60) (f 61) (f 62) (f 63) (f 64) (f 65) (f 66) (f 67) (f 68) (f 69) (f 70) (f 71) (f 72) (f 73) (f 74) (f 75) (f 76) (f 77) (f 78) (f 79) (f 80) (f 81) (f 82) (f 83) (f 84) (f 85) (f 86) (f 87) (f 88) (f 89) (f 90) (f 91) (f 92) (f 93) (f 94) (f 95) (f 96) (f 97) (f 98) (f 99) (f 100) (f 101) (f 102) (f 103) (f 104) (f 105) (f 106) (f 107) (f 108) (f 109) (f 110) (f 111) (f 112) (f 113) (f 114) (f 115) (f 116) (f 117) (f 118) (f 119) (f 120) (f 121) (f 122))) ?_);rintro a1 w1 ⟨⟨Z,Y,P,l,j,O⟩,⟨Gg,cs1,r1⟩,N,r3⟩;intro PG q;obtain⟨bb,w2,⟨g1,g2,ff⟩,m⟩:=ZU rs n C a1 w1 Z ⟨Y,λp B=>by
  simp at B;rcases B with rfl|rfl|rfl|rfl
  .exact⟨_,P,rfl⟩
  .exact⟨_,l,bk,rfl,r.out,N⟩
  .exact⟨_,j,aS,bt,Gg,cs1,rfl,r1⟩
  .exact⟨_,O,rfl⟩⟩ PG q
 grind
end
variable{d:Tmp}
section
open lK
variable{O:gW}{n0:Nat}
section
variable{P:cf}{Post:uab}{n:Nat}{Shun:uam}{w:aL}{f:uaj}{b:Act}{ops:du}{i:Nat}{rest:e8}{k:fC}{cs:dZ}{o:Oper}
def HH(j:ops[i]?=some o)(p:o.guard=none)(hd:o.dst=some d){v:Value}{es:uaq}(h:∀k',(execOp b.eval o).run P (w.at k')=.ok (.value v) (w.at k'))(l:∀k',(execOp b.eval o).events P (w.at k') #[]=es)(hs:seen P f es=es)(c:∀e∈es,pk Shun w.heap.size e)(r:deafBehind 0 es=0)(q:∀k',bU P Post n Shun 0 (aY ((base f).at (b.put (some d) v) (.R ops rest::k)) cs) (w.at k')):bU P Post n Shun 0 (aY ((base f).at b (.R ops (i::rest)::k)) cs) w:=by
 refine AY U λk'=>⟨_,w.at k',es,?_,c,vac _,by rw[r];exact q k'⟩;have g:=vay (P:=P) (main:=true) (b:=base f) (a:=b) (k:=k) (cs:=cs) (rest:=rest) j (vB p _) IC (h k');have m:listed P (base f).fn b o (w.at k')=es:=by unfold listed;rw[l k'];exact hs
 rw[m,hd]at g;exact g
end
def ry(v0:Value)(n:Nat):fv:=⟨λi=>i==0||i==21||i==31||i==33,λi=>i==0,λ_=>some v0,λt=>t==22,n⟩
def PH(v0:Value)(n:Nat){l:fC}(h:l.all (im (ry undef 0))=true):l.all (im (ry v0 n))=true:=(vr (D:=ry v0 n) (D':=ry undef 0) U U U l).trans h
def PI(v0:Value)(n:Nat):A3 prog (ry v0 n) 4:=by
 refine⟨⟨_,func4,?_⟩,λt h=>?_,Bc⟩
 .rw[results4];simp[C5,ry]
 grind[ry,underlying22]
def Zw:ir prog true Tryz.f4=true:=by decide+kernel
def PJ:ll prog 4:=C8 func4 Zw U
structure og(O:gW)(n0:Nat)(a8:c7)(w0:aL)(D:fv)(Shun:uam)(fs:List (Nat×(aL->Value->Prop)))(a b:Act)(M:c7)(w:aL):Prop where
 held:Held O prog a8 w0 n0 a M w Shun
 n6:iE D a b
 slots:pn 123 fs a w
 io:∀p∈fs,kE n0 p.2
section
variable{a8:c7}{w0:aL}{D:fv}{Shun:uam}{fs:List (Nat×(aL->Value->Prop))}{a b:Act}{M:c7}{w:aL}
theorem og.at(h:og O n0 a8 w0 D Shun fs a b M w)(k:Nat):og O n0 a8 w0 D Shun fs a b M (w.at k):=
 ⟨h.held.at k,h.n6,yM h.io _ _ _ _ _ ((cS.Gx M w k).kX h.held.gn) h.held.all h.slots,h.io⟩
theorem Held.put(h:Held O prog a8 w0 n0 a M w Shun)(d:Tmp){v:Value}(hv:ar (b9 M) v v):Held O prog a8 w0 n0 (a.put (some d) v) M w Shun:=
 ⟨h.gn,h.sub,h.since,h.keep,h.all.set hv _,Ge,h.size⟩
def iE.La(h:iE D a b)(g:D.T d=true)(hK:D.K d=false)(v:Value):iE D (a.put (some d) undef) (b.put (some d) v):=by
 refine⟨by rw[fo,fo];exact h.size,λi hi=>?_,λi x hi f=>?_,λi hi=>?_,by rw[put_defers,put_defers];exact h.defers⟩
 .have c:d≠i:=AF;simp[Act.put,c];exact h.same i hi
 .by_cases e:d=i
  .simp_all[Act.put,vak]
  .simp[Act.put,e]at f;exact h.gone i x hi f
 .have c:d≠i:=AF;simp[Act.put,c];exact h.kept i hi
def wb(h:pn 123 fs a w)(hd:∀p∈fs,d≠p.1)(v:Value):pn 123 fs (a.put (some d) v) w:=
 ⟨by rw[fo];exact h.1,λp b=>by
  obtain⟨x,e,c⟩:=h.2 p b;grind[dF]⟩
theorem og.La(h:og O n0 a8 w0 D Shun fs a b M w)(c:D.T d=true)(hK:D.K d=false)(hd:∀p∈fs,d≠p.1)(v:Value):og O n0 a8 w0 D Shun fs (a.put (some d) undef) (b.put (some d) v) M w:=
 ⟨h.held.put d (.undef _),h.n6.La c hK v,wb h.slots hd _,h.io⟩
def og.V8(h:og O n0 a8 w0 D Shun fs a b M w)(f:D.T d=false)(hK:D.K d=false)(hd:∀p∈fs,d≠p.1)(hs:d<123){v:Value}(hv:ar (b9 M) v v)(e:kE n0 (eE v)):og O n0 a8 w0 D Shun ((d,eE v)::fs) (a.put (some d) v) (b.put (some d) v) M w:=
 ⟨h.held.put d hv,h.n6.put f hK v,⟨by rw[fo];exact h.slots.1,λp c=>by
  rcases vbo.1 c with rfl|c
  .exact⟨v,jz (by rw[h.slots.1];exact hs),U⟩
  .exact(wb h.slots hd v).2 p c⟩,λp c=>by
  rcases vbo.1 c with rfl|c
  .exact e
  .exact h.io p c⟩
def og.less(h:og O n0 a8 w0 D Shun fs a b M w){gs:List (Nat×(aL->Value->Prop))}(hg:∀p∈gs,p∈fs):og O n0 a8 w0 D Shun gs a b M w:=
 ⟨h.held,h.n6,⟨h.slots.1,λp c=>h.slots.2 p (hg p c)⟩,λp c=>h.io p (hg p c)⟩
end
end
section
open lK
variable{O:gW}{n0:Nat}
def azA(O:gW)(bP:uan)(i:Nat)(r:fJ):Prop:=∃B off c e z,bP=some ⟨B,off,none⟩/\0<B/\B<O.n/\O.heap[B]?=some (.cells c e z)/\(c[off+i*4]?=some (.I r.1)/\c[off+i*4+1]?=some (.I r.2.1)/\c[off+i*4+2]?=some (.I r.2.2.1)/\c[off+i*4+3]?=some (.I r.2.2.2))/\eC r.1/\eC r.2.1/\eC r.2.2.1/\eC r.2.2.2
def E0(O:gW)(rv:Value)(rs:List fJ):Prop:=∃bP cap,rv=.slice bP rs.length cap/\∀i(h:i<rs.length),azA O bP i rs[i]
def HI{fs:List (Nat×(aL->Value->Prop))}{d:Nat}(h:(fs.map (·.1)).all (λx=>x != d)=true):∀p∈fs,d≠p.1:=AF
section
variable{Post:uab}{n:Nat}{Shun:uam}{a8:c7}{w0:aL}{rv:Value}{rs:List fJ}{c:Frame}{csZ:dZ}
def vY{es:uaq}(h:∀e∈es,∀m,e.loc≠ .mark m):seen prog 4 es=es:=
 seen_eq (by rw[func4];rfl) AF
def azB{x y z u:Int}:kE n0 (eE (.agg #[.I x,.I y,.I z,.I u])):=λ_ _ _ _ _ _ hv h=>by
 cases h;obtain⟨e,rfl,k⟩:=ra hv;cases k with
 |cons d k=>cases k with
  |cons c k=>cases k with
   |cons b k=>cases k with
    |cons a k=>cases k;rw[gX d,gX c,gX b,gX a];rfl
def vw{a:List aI}:∀p∈z1 n0 a,kE n0 p.2:=by intro p b;simp[z1]at b;grind[Vr,xR]
theorem vt(bL:E0 O rv rs)(m_:∀a b M w,og O n0 a8 w0 (ry rv (c::csZ).length) Shun (z1 n0 (dp (rs.take 40))) a b M w->bU prog Post n Shun 0 (aY ((base 4).at b [.code .ret]) (c::csZ)) w){cH:Nat}(dr:∀a b M w,cH<rs.length/\cH<40->og O n0 a8 w0 (ry rv (c::csZ).length) Shun ((20,eE (.I (cH+1:Nat)))::iY n0 rs (cH+1)) a b M w->bU prog Post n Shun 0 (aY ((base 4).at b (.R (dD Tryz.f4 3) (List.range' 1 8)::pA Tryz.f4)) (c::csZ)) w)(a b:Act)(M:c7)(w:aL)(h1:cH<=rs.length)(Z:cH<=40)(u:og O n0 a8 w0 (ry rv (c::csZ).length) Shun ((20,eE (.I cH))::iY n0 rs cH) a b M w):bU prog Post n Shun 0 (aY ((base 4).at b (.R (dD Tryz.f4 3) (List.range' 1 8)::pA Tryz.f4)) (c::csZ)) w:=by
 obtain⟨bP,cap,M1,cm⟩:=id bL;have A:b.tmps[0]?=some rv:=u.n6.kept 0 rfl;rw[show List.range' 1 8=1::List.range' 2 7 from rfl];obtain⟨o,f⟩:∃o,(dD Tryz.f4 3)[1]?=some o:=⟨_,BK⟩;obtain rfl:=Hf f;have ev:=A;refine HH f rfl rfl (v:=rv) (es:=#[]) (λk'=>De) (λk'=>De) (vcz _ _) Ab rfl λi=>?_;have rz:=(u.La (d:=21) rfl rfl (HI rfl) rv).at i;have OL:(b.put (some 21) rv).tmps[21]?=some (.slice bP rs.length cap):=by rw[<-M1];exact jz (by rw[u.n6.size,u.slots.1];decide)
 have H:(b.put (some 21) rv).tmps[0]?=some rv:=(dF AU).trans A;clear f ev A u;generalize b.put (some 21) rv=b1 at *;generalize a.put (some 21) undef=a1 at *;generalize w.at i=w1 at *;clear i a b w;rw[show List.range' 2 7=2::List.range' 3 6 from rfl];obtain⟨o,f⟩:∃o,(dD Tryz.f4 3)[2]?=some o:=⟨_,BK⟩;obtain rfl:=Hf f;have ev:=OL;refine HH f rfl rfl (v:=.I rs.length) (es:=#[]) (λk'=>De) (λk'=>De) (vcz _ _) Ab rfl λk=>?_;have km:=(rz.V8 (d:=22) rfl rfl (HI rfl) AU (v:=.I rs.length) (.int _ _) (A_ _ _)).at k;have A:(b1.put (some 22) (.I rs.length)).tmps[0]?=some rv:=(dF AU).trans H;clear f ev H OL rz;generalize b1.put (some 22) (.I rs.length)=b2 at *;generalize a1.put (some 22) (.I rs.length)=bb at *;generalize w1.at k=w2 at *;clear k a1 b1 w1;have h:=km.less (gs:=(20,eE (.I cH))::(22,eE (.I rs.length))::iY n0 rs cH) AF;clear km;by_cases g:cH<rs.length/\cH<40
 .refine K0 qn follows PJ rfl (PI rv _) h.n6 (PH rv _ AQ) h.held (k':=.R (dD Tryz.f4 5) (List.range' 0 6)::EY Tryz.f4) AQ AQ (yM h.io) (yM (HG rs cH)) h.slots (λW Y y=>Z2 rs cH g.1 g.2 bb W h.held.defers y) ?_;intro C q T t L K Q;have P:og O n0 a8 w0 (ry rv (c::csZ).length) Shun (iY n0 rs cH) C q T t:=⟨L,K,Q,HG rs cH⟩;have f0:q.tmps[0]?=some rv:=K.kept 0 rfl;clear h L K Q A;obtain⟨B,off,cc,e,z,azC,uR,hB,hc,⟨c_,c1,bG,dH⟩,i0,i1,i2,i3⟩:=cm cH g.1;subst azC;rw[show List.range' 0 6=0::1::2::3::List.range' 4 2 from rfl];obtain⟨o,f⟩:∃o,(dD Tryz.f4 5)[0]?=some o:=⟨_,BK⟩;obtain rfl:=Hf f;have ev:=f0;refine HH f rfl rfl (v:=rv) (es:=#[]) (λk'=>De) (λk'=>De) (vcz _ _) Ab rfl λi=>?_;have s:=(P.La (d:=31) rfl rfl (HI rfl) rv).at i;have F:(q.put (some 31) rv).tmps[31]?=some (.S B off rs.length cap):=(jz (by rw[P.n6.size,P.slots.1];decide)).trans (congrArg some M1)
  clear f ev f0 P;generalize q.put (some 31) rv=bk at *;generalize C.put (some 31) undef=bC at *;generalize t.at i=w4 at *;clear i C q t;obtain⟨o,f⟩:∃o,(dD Tryz.f4 5)[1]?=some o:=⟨_,BK⟩;obtain rfl:=Hf f;have iD:bk.tmps[6]?=some (.I cH):=by obtain⟨v,h1,Z⟩:=s.slots.2 (6,eE (.I cH)) Cw;obtain rfl:v=_:=Z;exact(s.n6.same 6 rfl).trans h1
  have ev:=iD;refine HH f rfl rfl (v:=.I cH) (es:=#[]) (λk'=>De) (λk'=>De) (vcz _ _) Ab rfl λk=>?_;have N:=(s.V8 (d:=32) rfl rfl (HI rfl) AU (v:=.I cH) (.int _ _) (A_ _ _)).at k;have f31:(bk.put (some 32) (.I cH)).tmps[31]?=some (.S B off rs.length cap):=(dF AU).trans F;have f32:(bk.put (some 32) (.I cH)).tmps[32]?=some (.I cH):=jz (by rw[s.n6.size,s.slots.1];decide);clear f ev iD F s;generalize bk.put (some 32) (.I cH)=bt at *;generalize bC.put (some 32) (.I cH)=dl at *;generalize w4.at k=dK at *;clear k bC bk w4;obtain⟨o,f⟩:∃o,(dD Tryz.f4 5)[2]?=some o:=⟨_,BK⟩;obtain rfl:=Hf f;have ev:=f31;have V9:=f32;have i:(cH:Int)<(rs.length:Int):=AX;have eO:(0:Int)<=(cH:Int):=AX;refine HH f rfl rfl (v:=.P B (off+cH*4)) (es:=#[]) (λk'=>by simp[go_sem,ev,V9,eO,g.1,Addr.add]) (λk'=>by simp[go_sem,ev,V9,eO,g.1]) (vcz _ _) Ab rfl λk3=>?_;have V_:=(N.La (d:=33) rfl rfl (HI rfl) (.P B (off+cH*4))).at k3;have f33:(bt.put (some 33) (.P B (off+cH*4))).tmps[33]?=some (.P B (off+cH*4)):=jz (by rw[N.n6.size,N.slots.1];decide);clear f ev V9 f31 f32 N;generalize bt.put (some 33) (.P B (off+cH*4))=e7 at *;generalize dl.put (some 33) undef=iT at *;generalize dK.at k3=r at *;clear k3 dl bt dK;obtain⟨o,f⟩:∃o,(dD Tryz.f4 5)[3]?=some o:=⟨_,BK⟩;obtain rfl:=Hf f;have ev:=f33;have aT:=V_.held.gn;have E:r.heap[B]?=some (.cells cc e z):=(aT.old B uR hB).trans hc;have d:∀k' j x,cc[j]?=some x->(r.at k').cell? (.a B j)=some x:=λk' j x V=>by have:(r.at k').heap[B]?=some (.cells cc e z):=E;grind[World.cell?]
  refine HH f rfl rfl (v:=.agg #[.I rs[cH].1,.I rs[cH].2.1,.I rs[cH].2.2.1,.I rs[cH].2.2.2]) (es:=#[⟨.cell ⟨B,off+cH*4,none⟩,false,false⟩,⟨.cell ⟨B,off+cH*4+1,none⟩,false,false⟩,⟨.cell ⟨B,off+cH*4+2,none⟩,false,false⟩,⟨.cell ⟨B,off+cH*4+3,none⟩,false,false⟩]) (λk'=>?_) (λk'=>?_) (vY λe X m hm=>?_) (λe X=>?_) rfl λU=>?_
  .have S:=d k' _ _ c_;have bj:=d k' _ _ c1;have bm:=d k' _ _ bG;have R:=d k' _ _ dH;simp[go_sem,ev,S,bj,bm,R]
  .have S:=d k' _ _ c_;have bj:=d k' _ _ c1;have bm:=d k' _ _ bG;have R:=d k' _ _ dH;simp[go_sem,ev,S,bj,bm,R]
  .grind
  .have xU:B<r.heap.size:=AF;simp at X;rcases X with rfl|rfl|rfl|rfl<;>exact Gr (aT.so B hB _ rfl) xU _
  have D:=(V_.V8 (d:=34) rfl rfl (HI rfl) AU (v:=.agg #[.I rs[cH].1,.I rs[cH].2.1,.I rs[cH].2.2.1,.I rs[cH].2.2.2]) (.rF (oK (l:=[.I rs[cH].1,.I rs[cH].2.1,.I rs[cH].2.2.1,.I rs[cH].2.2.2]) λx V=>by
   simp at V;rcases V with rfl|rfl|rfl|rfl<;>exact .int _ _)) azB).at U
  clear f ev f33 V_ aT E d;generalize e7.put (some 34) (.agg #[.I rs[cH].1,.I rs[cH].2.1,.I rs[cH].2.2.1,.I rs[cH].2.2.2])=cU at *;generalize iT.put (some 34) (.agg #[.I rs[cH].1,.I rs[cH].2.1,.I rs[cH].2.2.1,.I rs[cH].2.2.2])=nk at *;generalize r.at U=vu at *;clear U iT e7 r;have I:=D.less (gs:=(34,eE (.agg #[.I rs[cH].1,.I rs[cH].2.1,.I rs[cH].2.2.1,.I rs[cH].2.2.2]))::iY n0 rs cH) AF;clear D;refine K0 qn follows PJ rfl (PI rv _) I.n6 (PH rv _ AQ) I.held (k':=.R (dD Tryz.f4 3) (List.range' 1 8)::pA Tryz.f4) AQ AQ (yM I.io) (J:=pn 123 ((20,eE (.I (cH+1:Nat)))::iY n0 rs (cH+1))) (yM λp hp=>?_) I.slots (λW Y y=>ZT rs cH g.1 g.2 i0 i1 i2 i3 nk W Y I.held.defers y) ?_
  .grind[A_,HG]
  .intro p8 kH azD ul azE azF azG;refine dr p8 kH azD ul g ⟨azE,azF,azG,λp hp=>?_⟩;grind[A_,HG]
 .refine K0 qn follows PJ rfl (PI rv _) h.n6 (PH rv _ AQ) h.held (k':=[.code .ret]) AQ AQ (yM h.io) (J:=pn 123 (z1 n0 (dp (rs.take 40)))) (yM vw) h.slots (λW Y y=>ZZ rs cH h1 Z g bb W h.held.defers y) ?_;intro C q T t L K Q;exact m_ C q T t ⟨L,K,Q,vw⟩
def azH(j:E0 O rv rs)(d:∀a b M w,og O n0 a8 w0 (ry rv (c::csZ).length) Shun (z1 n0 (dp (rs.take 40))) a b M w->bU prog Post n Shun 0 (aY ((base 4).at b [.code .ret]) (c::csZ)) w):
 ∀(m cH:Nat)(a b:Act)(M:c7)(w:aL),40-cH<=m->cH<=rs.length->cH<=40->og O n0 a8 w0 (ry rv (c::csZ).length) Shun ((20,eE (.I cH))::iY n0 rs cH) a b M w->bU prog Post n Shun 0 (aY ((base 4).at b (.R (dD Tryz.f4 3) (List.range' 1 8)::pA Tryz.f4)) (c::csZ)) w:=by
 intro m;induction m with|zero=>grind[vt]|succ m e=>intro cH a b M w k i h f;exact vt j d (λa b M w l g=>e (cH+1) a b M w AX AX AX g) a b M w i h f
end
end
section
open lK
variable{O:gW}{n0:Nat}
section
variable{Post:uab}{n:Nat}{Shun:uam}{a8:c7}{w0:aL}{rv:Value}{rs:List fJ}{c:Frame}{csZ:dZ}
def azI{D:fv}{i:List aI}{a b:Act}{M:c7}{w:aL}(s:D.T 4=false)(d:og O n0 a8 w0 D Shun (z1 n0 i) a b M w)(y:∀u k,ar (b9 M) u u->xC i (w.at k) u->bU prog Post n Shun 0 (aY (c.finish u) csZ) (w.at k)):bU prog Post n Shun 0 (aY ((base 4).at b [.code .ret]) (c::csZ)) w:=by
 have l:=d.held.gn;have hd:b.defers=[]:=d.n6.defers.trans d.held.defers;obtain⟨v,t,bk,bE,rfl,z,p,j⟩:=d.slots.2 (4,Hu n0 i) (by simp[z1]);have m:a.tmps[4]?=some (.P bk 0):=t;have f4:b.tmps[4]?=some (.P bk 0):=(d.n6.same 4 s).trans m;have h:M bk:=by have:=d.held.all.get 4 _ _ m m;cases this with|ptr r=>exact r.1.2
 have o:w.cell? (.a bk 0)=some bE:=by rw[p.rules.1];rfl
 have hv:ar (b9 M) bE bE:=l.cell (a:=⟨bk,0,none⟩) h o;refine AY U λk=>⟨aY {(base 4).at b [.code .ret]with mode:=.returning} (c::csZ),w.at k,#[],?_,Ab,vac _,?_⟩
 .simp[aY,stepG,stepG.exec,Frame.at,base]
 .refine AY U λk'=>⟨aY (c.finish (.agg #[bE])) csZ,w.at k',#[⟨.cell ⟨bk,0,none⟩,false,false⟩],?_,λe g=>?_,vac _,?_⟩
  .have q:=func4;have f:((w.at k).at k').cell? (.a bk 0)=some bE:=o;have j:(results Tryz.f4 b.tmps).run prog ((w.at k).at k')=.ok (.agg #[bE]) ((w.at k).at k'):=by simp[results,results4,go_sem,f4,f]
   have g:(results Tryz.f4 b.tmps).events prog ((w.at k).at k') #[]=#[⟨.cell ⟨bk,0,none⟩,false,false⟩]:=by simp[results,results4,go_sem,f4,f]
   have hs:=vY (es:=#[⟨.cell ⟨bk,0,none⟩,false,false⟩]) AF;simp only[aY,stepG,unwind,doReturn,Frame.at,base,hd,q,j,g,hs,vau,GStep.after];rfl
  .simp at g;subst g;exact Gr (l.sh bk (.inl h) _ U) (l.lt h) _
  .exact y _ k' (.rF (.one hv)) ⟨bE,U,lJ.kept (show jh q9 w (w.at k')from⟨vac _,λ_ _ _ _ x _=>x⟩) j⟩
def azJ(rv:Value)(d:Nat):iE (ry rv d) ⟨#[undef,.I 40]++Array.replicate 121 undef,[]⟩ ⟨#[rv,.I 40]++Array.replicate 121 undef,[]⟩:=by
 have get:∀(x:Value)(i:Nat),(#[x,.I 40]++Array.replicate 121 undef:df)[i]?=if i=0 then some x else if i=1 then some (.I 40)else if i<123 then some undef else none:=by
  intro x i;rcases i with _ | _ |i
  .grind
  .simp_all
  grind[Array.getElem?_append_right]
 refine⟨Ab,λi hi=>?_,λi v hi hv=>?_,λi hi=>?_,U⟩
 .have h0:i≠0:=λe=>by subst e;cases hi
  grind
 .rw[get]at hv;by_cases h0:i=0
  .grind
  .have a:i≠1:=λe=>by subst e;cases hi
   grind
 simp_all[ry]
def azK{M:c7}{w:aL}(v:Home O prog M Shun w)(t:E0 O rv rs)(s:∀u M' w',Home O prog M' Shun w'->(∀b,M b->M' b)->ar (b9 M') u u->mw w w'->cS M w w'->xC (dp (rs.take 40)) w' u->bU prog Post n Shun 0 (aY (c.finish u) csZ) w'):
 bU prog Post n Shun 0 (aY (Frame.enter prog 4 #[rv,.I 40] .normal) (c::csZ)) w:=by
 rw[vdv func4 (c:=Br Tryz.f4) U];have q:aM (b9 M) (#[undef,.I 40]++Array.replicate 121 undef) (#[undef,.I 40]++Array.replicate 121 undef):=by
  refine aM.append (oK (l:=[undef,.I 40]) λx f=>?_) (KI _ _);simp at f;rcases f with rfl|rfl
  .exact .undef _
  .exact .int _ _
 have H:Held O prog M w w.heap.size ⟨#[undef,.I 40]++Array.replicate 121 undef,[]⟩ M w Shun:=.start v Jb q U;refine K0 qn follows PJ U (PI rv _) (azJ rv _) (PH rv _ AQ) H (k:=[.code (Br Tryz.f4)]) (k':=.R (dD Tryz.f4 3) (List.range' 1 8)::pA Tryz.f4) AQ AQ (I:=pn 123 []) (J:=pn 123 ((20,eE (.I (0:Nat)))::iY w.heap.size rs 0)) (yM AF) (yM λp m=>?_) ⟨Ab,AF⟩ (λW o _=>Z9 rs W o) ?_
 .grind[A_,HG]
 intro a1 b1 r w1 A e z;refine azH t (λa b y h g=>?_) 40 0 a1 b1 r w1 AX AX AX ⟨A,e,z,λp m=>?_⟩
 .refine azI U g λu k j ht=>?_;have d:=g.held.at k;exact s u y (h.at k) d.gn d.sub j d.since (d.keep.sub λb hb i=>⟨hb,i⟩) ht
 grind[A_,HG]
end
end
end bc
namespace bc
open Conc ConcM RowKit az bo cF c3 lK
section
variable{O:gW}
section
variable{P:cf}{Post:uab}{n:Nat}{Shun:uam}{M:c7}{w:aL}{f:uaj}{a b:Act}{k k':fC}{cs:dZ}{n0:Nat}{a8:c7}{w0:aL}{N:Nat}{K:bJ}
def azQ(t:(c8 P).Good)(hF:P.follows .rangeFuncRecover=true)(E:ll P f){D:fv}(hd:D.d=cs.length)(C:A3 P D f)(L:iE D a b)(sf:k.all (im D)=true)(H:Held O P a8 w0 n0 a M w Shun)(hk:k.all (gI P)=true)(V:k'.all (gI P)=true){U:c7}{I J:uaf}(K:qe n0 I)(N:qe n0 J)(h0:I a w)(hrun:∀W,n0<=W.heap.size->I a W->bO (ae P true) k k' (λa1 w1=>a1.defers=[]/\(∀s,U s->a1.tmps[s]?=a.tmps[s]?)/\J a1 w1/\Below n0 W w1) a W)(Q:∀a' i M' w',Held O P a8 w0 n0 a' M' w' Shun->iE D a' i->(∀s,U s->a'.tmps[s]?=a.tmps[s]?)->J a' w'->bU P Post n Shun 0 (aY ((base f).at i k') cs) w'):
 bU P Post n Shun 0 (aY ((base f).at b k) cs) w:=by
 refine Tf t hF (D:=D) H.gn (f:=f) (cs0:=[]) (bs:=cs) (g:=aY ((base f).at b k) cs) AX (.hL (L.Tg f k) (C.be sf a) cs hd.symm _ _) (JQ t E H.all H.defers hk) .nil ⟨rfl,rfl⟩ (R:=λu cse h r=>cse=[]/\∃a1,u=(base f).at a1 k'/\a1.defers=[]/\(∀s,U s->a1.tmps[s]?=a.tmps[s]?)/\J a1 r/\∃T,Below n0 {h with tape:=T} r) (λh j T=>?_) ?_
 .obtain⟨a1,w1,⟨q,l,p,c⟩,o⟩:=hrun {h with tape:=T} (by show n0<=h.heap.size;rw[j.size];exact H.size) (K _ _ _ _ _ (H.gn.kX j T) H.all h0) (base f) [eS f];exact⟨_,[],w1,o,rfl,a1,rfl,q,l,p,T,c⟩
 .rintro ρ u cse h r Z Y w' g' j ⟨rfl,a1,rfl,y,l,q,T,p⟩ z m d x;cases m;obtain⟨a',rfl,c,o⟩:=JR y V z;obtain⟨i,rfl,hb⟩:=mS.act hd x;refine Q a' i (qa ρ) w' (H.next j d p (d.all c) o) hb (λs hs=>?_) (N _ _ _ _ _ (d.kX H.size) c q);have e:=l s hs;cases ha:a.tmps[s]? with|none=>rw[ha]at e;have:=c.size;grind|some v=>rw[ha]at e;obtain⟨X,B,A⟩:=c.some e;obtain⟨S,F⟩:=d.rel;rw[B,JP F.one A ((H.all.get _ _ _ ha ha).mono d.le)]
structure HM(O:gW)(P:cf)(N:Nat)(K:bJ)(a8:c7)(w0:aL)(nB:Act):Prop where
 gn:∃Shun,Home O P a8 Shun w0
 all:aM (b9 a8) nB.tmps nB.tmps
 aE:af N K nB w0
 ok:∀s F,K s=some F->F.ok w0.heap.size
def BN(K:bJ)(nB a:Act):Prop:=∀s F,K s=some F->a.tmps[s]?=nB.tmps[s]?
def HM.now{nB:Act}(p:HM O P N K a8 w0 nB)(H:Held O P a8 w0 w0.heap.size a M w Shun)(hs:BN K nB a)(a4:a.tmps.size=N):af N K a w:=by
 obtain⟨S,f⟩:=p.gn;have h:∀b,a8 b->b<w0.heap.size:=λb hb=>by obtain⟨o,c,-⟩:=f.cl b hb;grind
 have d:cS a8 w0 w:=H.keep.sub λb hb g=>⟨hb,g⟩;refine⟨a4,λs F e=>?_⟩;obtain⟨v,c,i⟩:=p.aE.has s F e;exact⟨v,(hs s F e).trans c,F.io _ (p.ok s F e) _ _ _ _ _ (d.kX f) (p.all.get _ _ _ c c) i⟩
def Held.m0(H:Held O P a8 w0 n0 a M w Shun):Held O P M w w.heap.size a M w Shun:=.start H.gn (vac _) H.all H.defers
def Held.phase(H:Held O P a8 w0 n0 a M w Shun)(hk:af N K a w)(hok:∀s F,K s=some F->F.ok w.heap.size):HM O P N K M w a:=⟨⟨_,H.gn⟩,H.all,hk,hok⟩
def Held.back{a':Act}{M':c7}{w':aL}{d:uam}(H:Held O P a8 w0 n0 a M w Shun)(c:Held O P M w w.heap.size a' M' w' d):Held O P a8 w0 n0 a' M' w' d:=
 ⟨c.gn,λb hb=>c.sub b (H.sub b hb),H.since.trans c.since,H.keep.trans (M':=λb=>M b/\b<w.heap.size) (λb hb=>⟨H.sub b hb.1,vap hb.2 H.size⟩) c.keep,c.all,c.defers,vad H.size c.since.size⟩
variable{ops:du}{i:Nat}{rest:e8}{o:Oper}{nB:Act}
def azS(hC:(c8 P).Good)(vy:P.follows .mixedOrders=true)(hf:ll P f){D:Nat->fv}(q:K1 P f ops k D)(hk:(Item.inRegion ops []::k).all (gI P)=true)(p:HM O P N K a8 w0 nB)(agf:∀(i:Nat)(o:Oper)(d:Nat),ops[i]?=some o->o.dst=some d->K d=none)(g:Nat){j:Oper}{d:Nat}{gf:uaj}{S:Func}{gH:Code}{args:uav}{ats:uar}(Z:ops[g]?=some j)(Q:j.op=.call {callee:=.value (.func gf),args,argTypes:=ats})(yN:P.funcs[gf]?=some S)(lG:(S.name== "runtime.NumGoroutine")=false)(hb:S.body=some gH)(en:j.guard=none)(mP:∀n,lK.i7 (D n) j=true)(hn:n+16*d<=200){I:ubn}(A:∀au,qe w0.heap.size (I au)){t:Tmp}(jy:j.dst=some t)(NH:t<N){n7:uax}(hsz:∀au a w,I au a w->au.size=ops.size/\a.tmps.size=N)(B:iE (D cs.length) a b)(H:Held O P a8 w0 w0.heap.size a M w Shun)(hst:BN K nB a)(h0:I (Array.replicate ops.size false) a w)(hstep:∀au a W i o,af N K a W->I au a W->a.defers=[]->w0.heap.size<=W.heap.size->i≠g->au.getD i true=false->ops[i]?=some o->(∀e∈o.after,Region.binds .any e=true->au.getD e.on false=true)->wpOps (ae P true) ops (kj λa1 w1=>((∃d v,o.dst=some d/\a1=a.put (some d) v)\/a1=a)/\I (au.setIfInBounds i true) a1 w1/\Below w0.heap.size W w1) [i] a W)(j7:∀au a M w Shun,Held O P a8 w0 w0.heap.size a M w Shun->af N K a w->I au a w->au.getD g false=false->(∀e∈j.after,Region.binds .any e=true->au.getD e.on false=true)->gJ O P Post gf (args.map a.eval) M w d (λu _ w'=>n7 w' u/\cS M w w'))(kl:∀au a w u,I au a w->au.getD g false=false->(∀e∈j.after,Region.binds .any e=true->au.getD e.on false=true)->n7 w u->I (au.setIfInBounds g true) (a.put (some t) u) w)(iO:∀au a b M' w' c C,af N K a w'->I au a w'->Region.ready .any ops au=[]->c<=n+16*d->Held O P a8 w0 w0.heap.size a M' w' C->iE (D cs.length) a b->BN K nB a->bU P Post c C 0 (aY ((base f).at b (.R ops []::k)) cs) w'){id:Nat}:bU P Post n Shun 0 (aY ((base f).at b (.code (.region id ops true)::k)) cs) w:=by
 have ca:∀au a M w Shun k,Held O P a8 w0 w0.heap.size a M w Shun->I au a w->I au a (w.at k):=λau a M w Shun k H h=>A au _ _ _ _ _ ((cS.Gx M w k).kX H.gn) H.all h;have eB:∀l:List Nat,(Item.inRegion ops l::k).all (im (D cs.length))=true:=λl=>by rw[vbi,vaf];refine⟨?_,q.items _⟩;simp[im];intro i _;cases y:ops[i]? with|none=>rfl|some o=>exact van.1 (q.ops _) o (vbe y)
 refine X8 vy (I:=λau b M w c Shun=>∃a,iE (D cs.length) a b/\Held O P a8 w0 w0.heap.size a M w Shun/\BN K nB a/\I au a w/\c<=n+16*d/\(au.getD g false=false->c<=n)) (λau b M w c Shun k⟨a,hv,h,hs,hi,h'⟩=>⟨a,hv,h.at k,hs,ca _ _ _ _ _ _ h hi,h'⟩) ?_ (λau b M w c Shun⟨a,hv,h,hs,hi,r,_⟩ hr=>iO au a b M w c Shun (p.now h hs (hsz _ _ _ hi).2) hi hr r h hv hs) ⟨a,B,H,hst,h0,vdc _ _,λ_=>vac _⟩;intro au b M w c Shun i o rest ⟨a,B,H,hst,hi,Aj,A8⟩ lD y E K';have FK:i<au.size:=by grind
 by_cases Y:i=g
 .subst Y;rw[Z]at y;cases y;have jd:au.getD i false=false:=by grind
  have V:=(hsz _ _ _ hi).2;refine axe Q yN lG hb AF hf q B H hk Z en ⟨jy,AF⟩ mP (I:=I au) (J:=λa' w'=>(∃u,a'=a.put (some t) u)/\I (au.setIfInBounds i true) a' w') (n7:=n7) (A au) hi (λk=>j7 au a M (w.at k) Shun (H.at k) (p.now (H.at k) hst V) (ca _ _ _ _ _ _ H hi) jd E) (λu w' r m=>⟨⟨u,rfl⟩,kl au a w' u r jd E m⟩) ?_;rintro a' T M' w' eJ C r m L ⟨⟨u,rfl⟩,z⟩;refine K' T M' w' eJ C ⟨_,L,m,λs F e=>?_,z,AF,λh=>?_⟩
  .have R:t≠s:=λx=>by grind
   exact(dF R).trans (hst s F e)
  .simp_all
 .have V:=(hsz _ _ _ hi).2;refine azQ hC q.follows hf (q.d _) (q.fn _) B (eB _) H (k:=.R ops (i::rest)::k) (k':=.R ops rest::k) CE CE (U:=λs=>∃F,K s=some F) (I:=λa w=>af N K a w/\I au a w) (J:=I (au.setIfInBounds i true)) (λρ a1 bb w1 X hc ha h=>⟨lq _ p.ok ρ a1 bb w1 X hc ha h.1,A au ρ a1 bb w1 X hc ha h.2⟩) (A _) ⟨p.now H hst V,hi⟩ (λW hW NI b cs=>?_) ?_
  .obtain⟨a1,w1,r,m⟩:=JV rest [i] a W (hstep au a W i o NI.1 NI.2 H.defers hW Y lD y E) b k cs;refine⟨a1,w1,?_,m⟩;obtain⟨z,h4,aQ⟩:=r;rcases z with⟨d',v,fK,rfl⟩|rfl
   .refine⟨Gj,λs hs=>?_,h4,aQ⟩;grind[dF]
   .exact⟨H.defers,λ_ _=>rfl,h4,aQ⟩
  .intro a' T M' w' m L hu z;refine K' T M' w' c Shun ⟨a',L,m,λs F e=>(hu s ⟨F,e⟩).trans (hst s F e),z,Aj,λh=>A8 ?_⟩;simp_all
end
end
section
open bX cu ej
variable{O:gW}
section
variable{P:cf}{Post:uab}{n:Nat}{Shun:uam}{M a8:c7}{w w0:aL}{f:uaj}{a b nB:Act}{k:fC}{cs:dZ}{N:Nat}{K L K':bJ}{ops:du}{S:oc}
def azT{id:Nat}(hC:(c8 P).Good)(Z:P.follows .mixedOrders=true)(hf:ll P f){D:Nat->fv}(hD:K1 P f ops k D)(hk:(Item.inRegion ops []::k).all (gI P)=true)(p:HM O P N K a8 w0 nB)(aG:∀s F,L s=some F->F.ok w0.heap.size)(hZ:KE ops S=true)(UR:qg L ops.toList=true)(U:qg K ops.toList=true){g:Oper}{d:Nat}{gf:uaj}{R:Func}{gH:Code}{args:uav}{ats:uar}(l:ops[S.g]?=some g)(z:g.op=.call {callee:=.value (.func gf),args,argTypes:=ats})(Y:P.funcs[gf]?=some R)(lG:(R.name== "runtime.NumGoroutine")=false)(hb:R.body=some gH)(en:g.guard=none)(mP:∀n,lK.i7 (D n) g=true)(hn:n+16*d<=200){iV:Tmp}(x:g.dst=some iV){dS:a5}(hq:tn (ae P true) N w0.heap.size ops S L K dS (λE=>∀a M w,af N E a w->aM (b9 M) a.tmps a.tmps->gJ O P Post gf (args.map a.eval) M w d (λu _ w'=>dS.R w' u/\cS M w w')) ops.toList 0 (λ_=>none) K K')(h6:iE (D cs.length) a b)(H:Held O P a8 w0 w0.heap.size a M w Shun)(L8:BN K nB a)(h0:af N L a w)(iO:∀a b M' w' m v,af N K a w'->af N K' a w'->m<=n+16*d->Held O P a8 w0 w0.heap.size a M' w' v->iE (D cs.length) a b->BN K nB a->bU P Post m v 0 (aY ((base f).at b (.R ops []::k)) cs) w'):
 bU P Post n Shun 0 (aY ((base f).at b (.code (.region id ops true)::k)) cs) w:=by
 obtain⟨T,B,A⟩:=yQ.all hq;have c:=mA.of (Q:=λ_=>none) hZ UR GY U;have c6:∀(j:Nat) o,ops[j]?=some o->_:=λj o V=>B j o AF;simp only[vbr]at c6;have US:∀j,j<ops.size->(T j).ok w0.heap.size:=λj hj=>by obtain⟨d',-,-,q,-⟩:=c6 j _ (vao hj);exact q
 obtain⟨auO,t,X,-,-,J⟩:=c6 S.g g l;unfold Bq at J;unfold rm at t;simp only[c.g.2]at J t;rw[x]at t;cases t;obtain⟨-,fd,iD⟩:_/\_/\T S.g=dS:=J.resolve_right λh=>absurd rfl h.1;refine azS hC Z hf hD hk p (λi o d B A=>(c.l i o d B A).2.2) S.g l z Y lG hb en mP hn (I:=mC N ops S L (λ_=>none) T) (λau=>MN aG (λ_ _ e=>Cn) US) x X (n7:=dS.R) (λau a w h=>⟨h.len,h.size⟩) h6 H L8 (mC.start h0 ⟨h0.size,λ_ _ e=>Cn⟩) ?_ ?_ ?_ ?_
 .intro au a W i o hKn h hd hW vC lD V r;exact h.step c (λ_ _ e=>Cn) c6 hKn vC hW lD V r
 .intro au a M w Shun C hKn h y r;exact fd a M w (h.env c hKn l y r) C.all
 .intro au a w u h y r hu;exact h.put c l x c.g.2 X y (vaa _ _) (by rw[iD];exact hu)
 .intro au a b M' w' m v hKn h hr pJ C Wb Cz;exact iO a b M' w' m v hKn (h.dN c hKn hr (λs F e=>.inl e) A) pJ C Wb Cz
end
end
end bc
namespace bc
open Conc ConcM RowKit az bo cF c3 bX cu ej
variable{ks ks':fC}{Q:uaf}
def aAq{t:List aI}{want:e8}{A eu W:aL}{F bE:Value}{b2 bk bt cU k i:Nat}{M:Value}{cells:uad}{c:aI}{be vs X:Value}(hk:t[k]?=some c)(ht:t.length<=1000)(hs:∀s∈c.dT,s.size<=1000)(h:tu t want A F bE b2 bk bt k eu M cells)(hS:qv eu.heap.size W cU c.kind c.bV be vs X (oh c want) (oi c want) (rB c want))(hb:cC eu W){a:Act}(q:af 96 (a3 (oT t (gr want) F (.P b2 0) (.P bk 0) (.P bt 0) k i cU #[.I c.kind,.I c.bV,be,vs,X])) a W)(kk:∀a' W' Wm Wn,tu t want A F bE b2 bk bt (k+1) W' Wm Wn->af 96 (a3 (BP F b2 bk bt k)) a' W'->a'.defers=a.defers->bO (ae prog true) ks ks' Q a' W'):bO (ae prog true) (.code (.region 13 (ay Tryz.f9 13) false)::ks) ks' Q a W:=by
 have E:=h.below hb;have Wo:k<t.length:=(vab.1 hk).1;obtain⟨R,ci,rfl⟩:=gQ hS.cw;obtain⟨P,O,rfl⟩:=gQ hS.os;obtain⟨an,U,rfl⟩:=gQ hS.on;have jX:af 96 (a3 [(5,tt bt #[M] 27),(7,tt cU #[.I c.kind,.I c.bV,.slice R _ ci,.slice P _ O,.slice an _ U] 36),(1,ew F),(2,ew (.P b2 0)),(4,ew (.P bk 0)),(6,bd k)]) a W:=af.of q.size λp D=>by
  simp at D;rcases D with rfl|rfl|rfl|rfl|rfl|rfl
  .exact q.get rfl rfl λv hv=>⟨hv,E.out.box⟩
  .exact q.get rfl rfl λv hv=>hv
  .exact q.get rfl rfl λv hv=>hv.1
  .exact q.get rfl rfl λv hv=>hv.1
  .exact q.get rfl rfl λv hv=>hv
  .exact q.get rfl rfl λv hv=>hv
 rw[pB (ay Tryz.f9 13)];refine xz (m:=4) jX (ao rfl (Wc rfl rfl)<|ao rfl (E1 rfl rfl AU)<|ao rfl (aAk rfl rfl)<|ao rfl (aAm rfl rfl)<|rfl) AU λbb u x d2 Y=>?_;have kY:=hS.below Y;have l:=E.below Y;have S:A.heap.size<=u.heap.size:=l.kq.size;have V:((t.take k).map (nC · want)).length=k:=AF;have H:=l.out.own;refine PQ (i:=4) (B:=A.heap.size) (n:=((t.take k).map (nC · want)).length) (b:=bt) (f:=0) (sb:=5) (z3:=27) (cs:=#[M]) Q6 rfl rfl rfl rfl rfl rfl rfl rfl rfl rfl (λev w e=>Ar) (λev w bP n cc hb e1 e2=>by obtain⟨eU,gR,hh⟩:=hb.all;go_simp) AU x rfl rfl rfl H rfl Fh AX AU S AU λbI r v2 r1 g1 dw C By mU=>n8 ?_;have jA:Below A.heap.size u r:=E2 H g1 S;have kh:Below A.heap.size u (r.setCell ⟨bt,0,none⟩ v2):=jA.trans ((vaa _ r).setCell (p:=⟨bt,0,none⟩) h.out.lo _);have J:∀{b:Nat}{cs:df}{T:uaa},ah u b cs T->T≠36->b≠bt->ah (r.setCell ⟨bt,0,none⟩ v2) b cs T:=λI J o=>(ah.grown I g1 λg hg e=>by subst e;exact PP H I (Ne.symm J) hg).fl o _;have Z:∀e,e≠36->e≠27->∀(b:Nat) c z,u.heap[b]?=some (.cells c e z)->(r.setCell ⟨bt,0,none⟩ v2).heap[b]?=some (.cells c e z):=λe h1 h2 b c z I=>by
  have K:b<u.heap.size:=AF;have o:b≠bt:=λL=>by subst L;have:=l.out.box;simp_all[ah]
  rw[vat _ _ _ _ o,g1.block b K λL=>?_]
  .exact I
  .obtain⟨c',hc'⟩:=Le H L.symm;simp_all[ah]
 have oB:=(kY.aAn hs).keep (W':=r.setCell ⟨bt,0,none⟩ v2) λe he=>Z e AF AF;have ik:(t.take (k+1)).map (nC · want)=(t.take k).map (nC · want)++[nC c want]:=by grind[List.take_succ]
 have s7:cells.length=((t.take k).map (nC · want)).length*5:=H.1;refine kk bI _ v2 (cells++[.I c.kind,.I c.bV,.slice R (oh c want).length ci,.slice P (oi c want).length O,.slice an (rB c want).length U]) ⟨l.kq.trans kh,h.f1,h.iu,J l.dI AU h.eJ,J l.nO AU h.nF.2,h.eJ,h.nF,⟨h.out.lo,dw.set 0 v2,?_,λj d y=>?_⟩⟩ ?_ (mU.trans d2)
 .grind[uJ]
 .rw[ik]at y;rcases vcx j k with wA|wA
  .rw[vcb AX]at y;obtain⟨N,us,un,bj,bm⟩:=l.out.mR j d y;refine⟨N,us,un,λf hf=>?_,bm.keep λe he=>Z e AF AF⟩;grind
  .rw[vby AX,V]at y;obtain rfl:j=k:=by grind
   rw[Nat.sub_self]at y;cases y;refine⟨_,_,_,λf hf=>?_,oB⟩;rw[vby AX,s7,V,Nat.add_sub_cancel_left];rfl
 .refine af.of By λp D=>?_;simp[BP]at D;rcases D with rfl|rfl|rfl|rfl|rfl
  .exact x.get rfl (C 1 AU AU) λv hv=>hv
  .exact x.get rfl (C 2 AU AU) λv hv=>hv
  .exact x.get rfl (C 4 AU AU) λv hv=>hv
  .exact x.get rfl (C 5 AU AU) λv hv=>hv.1
  .exact x.get rfl (C 6 AU AU) λv hv=>hv
def aAs{N:Nat}{K:bJ}{o:Oper}{F:a5}{x:uap}{s B:Nat}{b:uan}{n c:Nat}(d:o.op=.box 27 x)(f:bl K x (ew (.agg #[.slice b n c])))(g:K s=some (qo B F)):bA (ae prog true) N K o (UI B #[.slice b n c] 27):=λa w hk=>by have e:=hk.ev f;obtain⟨v,-,hb,-⟩:=hk.has s _ g;unfold yO;generalize a.eval=ev at e⊢;have e:ev x=.agg #[.slice b n c]:=e;refine .inl ⟨.P w.heap.size 0,w.alloc (.cells #[.slice b n c] 27),?_,⟨w.heap.size,U,hb,ah.new _ _ _⟩,(vaa _ w).alloc Jb _⟩;cases o;simp only at d;subst d;go_simp
def aAt{t:List aI}{want:e8}{q:aL}{h bE:Value}{b2 bk bt:Nat}(ht:t.length<=1000)(hs:∀c∈t,∀s∈c.dT,s.size<=1000)(E:∀c∈t,∀j∈want,Li c j)(hl:want.length<=1000)(kk:∀a' W' d cells,tu t want q h bE b2 bk bt t.length W' d cells->af 96 (a3 (BP h b2 bk bt t.length)) a' W'->a'.defers=[]->bO (ae prog true) ks ks' Q a' W'):
 ∀m k a W d cells,k+m=t.length->tu t want q h bE b2 bk bt k W d cells->af 96 (a3 (BP h b2 bk bt k)) a W->a.defers=[]->bO (ae prog true) (.code (Lh Tryz.f9):: .inLoop (Lh Tryz.f9):: .inBlock 0::ks) ks' Q a W:=by
 intro m;induction m with
 |zero=>intro k a W d cells l g i hd;obtain rfl:k=t.length:=AX;have b:¬((t.length:Nat):Int)<((t.length:Nat):Int):=AX;unfold Lh;refine bq (bq ?_);rw[pB (ay Tryz.f9 3)];refine c5 (g.aE i) (ao rfl Jc<|ao rfl K9<|ao rfl Jr<|ao rfl Kh<|ao rfl (zP rfl rfl rfl AU b)<|rfl) λa1 w1 f d1 b1=>?_;exact fI (t:=false) (ly f rfl) (xe (te:=ks) FA (kk a1 w1 d cells (g.below b1) (HR.free f ⟨rfl,rfl,rfl,rfl,rfl,NE⟩) (d1.trans hd)))
 |succ m B=>
  intro k a W d cells l g i hd;have u:k<t.length:=AX;have b:(k:Int)<(t.length:Int):=AX;have hk:t[k]?=some t[k]:=vag u;have p:=vax u;unfold Lh;refine bq (bq ?_);rw[pB (ay Tryz.f9 3)];refine c5 (g.aE i) (ao rfl Jc<|ao rfl K9<|ao rfl Jr<|ao rfl Kh<|ao rfl (EC rfl rfl rfl AU b)<|rfl) λa1 w1 f d1 b1=>?_;have n:=g.below b1;refine fI (t:=true) (ly f rfl) (nt (bq (nr (bq ?_))));refine aAp hk n (HR.free f ⟨rfl,rfl,rfl,rfl,rfl,NE⟩) λY U cU C x z N b2=>bq (bq ?_);rw[pB (ay Tryz.f9 6)];refine c5 z (ao rfl (dX (F:=bd 0) rfl Jx)<|rfl) λO w k3 M r=>nr (A4 ?_);have BL:=x.below r;have V:oh t[k] (want.take 0)=[]/\oi t[k] (want.take 0)=[]/\rB t[k] (want.take 0)=[]:=by simp[oh,oi,rB]
  refine aAh (cU:=cU) C hk (E _ p) hl (λZ T be vs aV S y L bk=>?_) want.length 0 O w _ _ _ (vbr _) AF (k3.aZ ⟨rfl,rfl,rfl,rfl,rfl,rfl,rfl,NE⟩) (M.trans (N.trans (d1.trans hd))) (b2.trans (r.mono b2.size));refine aAq hk ht (hs _ p) n S bk y λX dK R P v I K=>vz ?_;rw[pB (ay Tryz.f9 4)];refine c5 I Ki λD A o J H=>A5 ?_;have e:((k:Int)+1)=((k+1:Nat):Int):=AX;rw[e]at o;exact B (k+1) D A R P AX (v.below H) (o.aZ ⟨rfl,rfl,rfl,rfl,rfl,NE⟩) (J.trans (K.trans L))
def aAu(t:List aI)(want:e8)(ht:t.length<=1000)(hs:∀c∈t,∀s∈c.dT,s.size<=1000)(X:∀c∈t,∀j∈want,Li c j)(hl:want.length<=1000)(v1 d:Value)(w:aL)(J:xC t w v1)(I:(c9 1 ip (gr want)).R w d):Calls (ae prog true) 9 #[v1,d] w λe w'=>∃v,e=.returned v/\(∃r cells,v=.agg #[r]/\pC w.heap.size w' r cells (qu t want))/\cC w w':=by
 obtain⟨bE,rfl,n⟩:=J;obtain⟨⟨g,h,rfl,-,-⟩,-⟩:=id n;refine lW (ks:=[]) (bB (upd:=true) func9 AQ) aAc ?_;have hk:af 96 (a3 [(0,ew (.agg #[.slice g t.length h])),(1,qo w.heap.size (ew d))]) ⟨#[.agg #[.slice g t.length h],d]++Array.replicate (Tryz.f9.ntmps-(#[.agg #[.slice g t.length h],d]:df).size) undef,[]⟩ w:=MW (l:=[.agg #[.slice g t.length h],d]) Ab BK λp f=>by
  simp at f;rcases f with rfl|rfl
  .exact⟨_,rfl,rfl⟩
  .exact⟨d,rfl,vac _,rfl⟩
 have hd:(⟨#[.agg #[.slice g t.length h],d]++Array.replicate (Tryz.f9.ntmps-(#[.agg #[.slice g t.length h],d]:df).size) undef,[]⟩:Act).defers=[]:=rfl;generalize(⟨#[.agg #[.slice g t.length h],d]++Array.replicate (Tryz.f9.ntmps-(#[.agg #[.slice g t.length h],d]:df).size) undef,[]⟩:Act)=a at hk hd;refine bq ?_;rw[pB (ay Tryz.f9 0)];refine c5 hk (ao rfl (aAs rfl rfl (s:=1) rfl)<|ao rfl (kV rfl (s:=1) rfl)<|rfl) λa1 w1 y d1 b1=>bq ?_;obtain⟨u2,bm,b2,rfl,aAv,dI⟩:=y.has 2 _ rfl;obtain⟨u4,V,bk,rfl,u,nO⟩:=y.has 4 _ rfl;have W:af 96 (a3 [(1,qo w1.heap.size (ew d)),(2,ew (.P b2 0)),(4,ew (.P bk 0))]) a1 w1:=af.of y.size λp f=>by
  simp at f;rcases f with rfl|rfl|rfl
  .exact y.get rfl rfl λv hv=>⟨vac _,hv.2⟩
  .exact⟨_,bm,rfl⟩
  .exact⟨_,V,rfl⟩
 rw[pB (ay Tryz.f9 1)];refine c5 W (ao rfl (kV rfl (s:=1) rfl)<|rfl) λbb T i d2 B=>bq (bq ?_);obtain⟨u5,U,bt,rfl,aH1,Q⟩:=i.has 5 _ rfl;have eo:af 96 (a3 [(1,ew d),(2,ew (.P b2 0)),(4,ew (.P bk 0)),(5,ew (.P bt 0))]) bb T:=af.of i.size λp f=>by
  simp at f;rcases f with rfl|rfl|rfl|rfl
  .exact i.get rfl rfl λv hv=>hv.2
  .exact i.get rfl rfl λv hv=>hv
  .exact i.get rfl rfl λv hv=>hv
  .exact⟨_,U,rfl⟩
 rw[pB (ay Tryz.f9 2)];refine c5 eo (ao rfl (dX (F:=bd 0) rfl Jx)<|rfl) λbI C k3 d3 A=>nr (A4 ?_);have l2:=dI.lt;have gt:=nO.lt;have lw:w.heap.size<=w1.heap.size:=b1.size;have R:cC w C:=b1.trans ((B.mono b1.size).trans (A.mono (vad b1.size B.size)));have Wp:tu t want w d (.slice g t.length h) b2 bk bt 0 C (.N) []:=⟨R,I,n,(dI.call B).call A,(nO.call B).call A,AX,⟨u,AX⟩,⟨AX,Q.call A,vbm _ _ _ _,λj c O=>AF⟩⟩;refine aAt ht hs X hl (λbC S r cells M E d4=>bq ?_) t.length 0 bI C _ _ (vbr _) Wp (k3.aZ ⟨rfl,rfl,rfl,rfl,rfl,NE⟩) (d3.trans (d2.trans (d1.trans hd)));have II:af 96 (a3 [(5,tt bt #[r] 27),(4,ew (.P bk 0))]) bC S:=af.of E.size λp f=>by
  simp at f;rcases f with rfl|rfl
  .exact E.get rfl rfl λv hv=>⟨hv,M.out.box⟩
  .exact E.get rfl rfl λv hv=>hv
 rw[pB (ay Tryz.f9 14)];refine xz (m:=1) II (ao rfl (aAl rfl rfl)<|rfl) AU λdl dK P d5 VR=>?_;have x:=M.below VR;obtain⟨u95,K,rfl⟩:=P.has 95 _ rfl;obtain⟨v4,e4,rfl⟩:=P.has 4 _ rfl;have k:pC w.heap.size dK r cells ((t.take t.length).map (nC · want)):=⟨x.out.own,x.out.mR⟩;rw[List.take_length]at k;obtain⟨o,q,rfl⟩:=gQ k.own;rw[vcd]at K k;have L:=x.nO;have D:Hid _:=L;have N:Hid _:=k;obtain⟨eU,gR,hh⟩:=L.all;clear L k;show wpOps _ _ _ [1] _ _;refine qf (w1:=dK.setCell ⟨bk,0,none⟩ (.slice o t.length q)) rfl rfl rfl Ar (vA (lp ⟨d5.trans d4,.agg #[.slice o t.length q],?_,⟨_,cells,rfl,?_⟩,x.kq.trans ((vaa _ dK).setCell (p:=⟨bk,0,none⟩) u _)⟩))
 .have H:=ah.set D.out 0 (.slice o t.length q);obtain⟨gB,kZ,lE⟩:=H.all;generalize dK.setCell ⟨bk,0,none⟩ (.slice o t.length q)=jg at *;simp[results,results9,go_sem,e4,gB]
 .have hk:=jh.set D.out (Y:=q9) (by grind[q9]) 0 (.slice o t.length q);refine⟨uJ N.out.own D.out AU 0 _,λj c O=>?_⟩;obtain⟨be,vs,aV,J,I⟩:=N.out.mR j c O;exact⟨be,vs,aV,J,I.keep λe Z b c z H=>hk.2 b c e z H (by rcases Z with rfl|rfl|rfl<;>simp[q9])⟩
end bc
namespace ol
open Conc ConcM RowKit az bo cF c3 bX cu ej bc
section
variable{O:gW}
def Ll(k:Nat):a5:=⟨λ_ u=>Hm k u,λ_ _ _ _ h=>h,λ_=>True,λ_ _=>wF⟩
def BM(k:Nat):a5:=⟨λ_ u=>Ht k u,λ_ _ _ _ h=>h,λ_=>True,λ_ _=>av_⟩
def Wr(k:Nat):a5:=KA [.I k,.N] Fa
def kP:a5:=⟨eE (.agg #[.N]),rb.eq _,λ_=>True,λ_ _ _ _ _ _ _ _ hv h=>by
 cases h
 obtain⟨l1,rfl,q⟩:=ra (l:=[.N]) hv
 cases q with
 |cons h0 q=>cases q;rw[l8 h0];rfl⟩
section
variable{N:Nat}{K:bJ}{o:Oper}{x y:uap}{k:Nat}
def aAx(a:o.op=.extract x 0)(b:bl K x (Ll k)):bA (ae prog true) N K o qq:=dM b λev w h=>by have e:ev x=_:=h;refine⟨.N,w,?_,U,vaa _ _⟩;clear h;cases o;simp only at a;subst a;go_simp
def aAy(a:o.op=.extract x 1)(b:bl K x (Ll k)):bA (ae prog true) N K o (bd 6):=dM b λev w h=>by have e:ev x=_:=h;refine⟨.I 6,w,?_,U,vaa _ _⟩;clear h;cases o;simp only at a;subst a;go_simp
def aAz(a:o.op=.extract x 2)(b:bl K x (Ll k)):bA (ae prog true) N K o (Wr k):=dM b λev w h=>by have e:ev x=_:=h;refine⟨.agg #[.I k,.N],w,?_,U,vaa _ _⟩;clear h;cases o;simp only at a;subst a;go_simp
def kK(a:o.op=.extract x 0)(b:bl K x (BM k)):bA (ae prog true) N K o kP:=dM b λev w h=>by have e:ev x=_:=h;refine⟨.agg #[.N],w,?_,U,vaa _ _⟩;clear h;cases o;simp only at a;subst a;go_simp
def kI(a:o.op=.extract x 1)(b:bl K x (BM k)):bA (ae prog true) N K o (bd 6):=dM b λev w h=>by have e:ev x=_:=h;refine⟨.I 6,w,?_,U,vaa _ _⟩;clear h;cases o;simp only at a;subst a;go_simp
def kF(a:o.op=.extract x 2)(b:bl K x (BM k)):bA (ae prog true) N K o (Wr k):=dM b λev w h=>by have e:ev x=_:=h;refine⟨.agg #[.I k,.N],w,?_,U,vaa _ _⟩;clear h;cases o;simp only at a;subst a;go_simp
end
section
variable{o:Oper}{x y:uap}{ev:uak}{w:aL}{b:Nat}{cs:df}
def Ws(a:o.op=.store 27 x y)(hb:ah w b cs 27)(hs:cs.size=1)(d:ev x=.P b 0)(c:ev y=.agg #[.N]):(execOp ev o).run (ae prog true) w=.ok .skip (w.setCell ⟨b,0,none⟩ (.N))/\ah (w.setCell ⟨b,0,none⟩ (.N)) b #[.N] 27:=by
 obtain⟨q,rfl⟩:∃q,cs=#[q]:=by obtain⟨l⟩:=cs;match l,hs with| [q],_=>grind
 refine⟨?_,hb.set 0 _⟩;obtain⟨g,f,e⟩:=hb.all;clear hb;cases o;simp only at a;subst a;go_simp
def PX{k:Int}{a:uan}{n0 c_:Nat}(c:o.op=.store 45 x y)(hb:ah w b cs 45)(hs:cs.size=2)(e:ev x=.P b 0)(d:ev y=.agg #[.I k,.slice a n0 c_]):(execOp ev o).run (ae prog true) w=.ok .skip ((w.setCell ⟨b,0,none⟩ (.I k)).setCell ⟨b,1,none⟩ (.slice a n0 c_))/\ah ((w.setCell ⟨b,0,none⟩ (.I k)).setCell ⟨b,1,none⟩ (.slice a n0 c_)) b #[.I k,.slice a n0 c_] 45:=by
 obtain⟨q,r,rfl⟩:∃q r,cs=#[q,r]:=by obtain⟨l⟩:=cs;match l,hs with| [q,r],_=>grind
 refine⟨?_,(hb.set 0 _).set 1 _⟩;obtain⟨h,g,f⟩:=hb.all;clear hb;cases o;simp only at c;subst c;go_simp
end
def aAA:∃b o2 a,((ay Tryz.f8 1)[8]?=some b/\b.op=.store 27 (.tmp 8) (.tmp 16)/\b.guard=none/\b.dst=none)/\((ay Tryz.f8 1)[8+1]?=some o2/\o2.op=.assign (.tmp 17)/\o2.guard=none/\o2.dst=some 9)/\(ay Tryz.f8 1)[8+2]?=some a/\a.op=.store 45 (.tmp 10) (.tmp 18)/\a.guard=none/\a.dst=none:=qL
def aAB{g6 g7:a5}{W am k:Nat}(n0:Nat)(a:Act)(w:aL)(hd:a.defers=[])(hn:n0<=w.heap.size)(hk:af 19 (up (a3 [(8,me n0 27 1),(10,me n0 45 2),(11,g6),(12,g7),(13,bd W),(14,bd am)]) 15 (BM k)) a w):
 sg (ae prog true) Tryz.f8 (.R (ay Tryz.f8 1) (List.range' 5 6)::[.code .ret]) (λv w1=>Ht k v/\Below n0 w w1) a w:=by
 refine yK (ks':=[.R (ay Tryz.f8 1) (List.range' 8 3),.code .ret]) ?_;obtain⟨Q,o2,P,⟨y,K,J,I⟩,⟨z,M,H,F⟩,r1,E,D,A⟩:=aAA;rw[fj (ay Tryz.f8 1)]at y z r1⊢;refine(show bO _ (.R _ (List.range' 5 (3+3))::_) _ _ _ _ from sw hk (ao U (kK U U)<|ao U (kI U U)<|ao U (kF U U)<|rfl) AU λa1 w1 b d1 b1=>lp (yK (ks':=[.code .ret]) (xg ?_)));obtain⟨S,x,g,N,rfl,t,O,s⟩:=b.has 8 _ U;obtain⟨T,r,d,q,rfl,c,p,o⟩:=b.has 10 _ U;obtain⟨v16,n,rfl⟩:=b.has 16 _ U;obtain⟨v17,m,rfl⟩:=b.has 17 _ U;obtain⟨v18,l,rfl⟩:=b.has 18 _ U;obtain⟨C,gv⟩:=Ws (ev:=a1.eval) K O s (cB x) (cB n);refine h7 (R:=λa' w'=>a1=a'/\w'=w1.setCell ⟨g,0,none⟩ (.N)) (qf y J I C ⟨U,U⟩) ?_;rintro _ f ⟨rfl,i⟩;rw[<-i]at gv;have n1:d≠g:=λe=>by simp_all[ah]
 have j:ah f d q 45:=by rw[i];exact p.fl n1 _
 refine h7 (R:=λa' w'=>a'=a1.put (some 9) (.I 6)/\f=w') (nu z H F (Bs M (cB m) _) ⟨U,U⟩) ?_;rintro _ _ ⟨rfl,rfl⟩;have f8:(a1.put (some 9) (.I 6)).tmps[8]?=_:=(dF AU).trans x;have f10:(a1.put (some 9) (.I 6)).tmps[10]?=_:=(dF AU).trans r;have f18:(a1.put (some 9) (.I 6)).tmps[18]?=_:=(dF AU).trans l;have f9:(a1.put (some 9) (.I 6)).tmps[9]?=some (.I 6):=jz (by rw[b.size];decide);obtain⟨u1,u2⟩:=PX (ev:=(a1.put (some 9) (.I 6)).eval) E j o (cB f10) (cB f18);refine h7 (R:=λa' w'=>a'=a1.put (some 9) (.I 6)/\w'=(f.setCell ⟨d,0,none⟩ (.I k)).setCell ⟨d,1,none⟩ (.N)) (qf r1 D A u1 ⟨U,U⟩) ?_;rintro _ u ⟨rfl,h⟩;rw[<-h]at u2;have B:ah u g #[.N] 27:=by rw[h];exact(gv.fl (Ne.symm n1) _).fl (Ne.symm n1) _
 have L:Below n0 w u:=by rw[h,i];exact(((b1.mono hn).setCell t _).setCell c _).setCell c _
 refine n8 (lp (Gy (v:=.tuple #[.agg #[.N],.I 6,.agg #[.I k,.N]]) ((put_defers _ _ _).trans (d1.trans hd)) ?_ ⟨U,L⟩));clear f18;generalize(a1.put (some 9) (.I 6)).tmps=tm at f8 f9 f10⊢;simp[results,results8,go_sem,f8,f9,f10,B.rules.1,u2.rules.1]
def aAM{P:cf}{ops:du}{Q:uah}{I:ubn}(hstep:∀au a w i o,I au a w->au.getD i true=false->ops[i]?=some o->(∀e∈o.after,Region.binds .any e=true->au.getD e.on false=true)->o.guard=none/\∃v w',((execOp a.eval o).run P w=.ok (.value v) w'\/((execOp a.eval o).run P w=.ok .skip w'/\v=undef))/\I (au.setIfInBounds i true) (a.put o.dst v) w')(c:∀au a w,I au a w->Region.ready .any ops au=[]->Q .normal a w):∀(fuel:Nat)(au:uat)(a:Act)(w:aL),au.toList.count false<=fuel->I au a w->wpAny P .any ops Q fuel au a w:=by
 intro fuel;induction fuel with
 |zero=>
  intro au a w g h;have b:Region.ready .any ops au=[]:=by cases b:Region.ready .any ops au with|nil=>rfl|cons x xs=>have l:x∈Region.ready .any ops au:=AF;grind[count_set,mem_ready]
  exact⟨b,c au a w h b⟩
 |succ fuel f=>intro au a w g h;refine⟨λb=>c au a w h b,λi hi=>?_⟩;obtain⟨g1,o,d,k⟩:=mem_ready.1 hi;obtain⟨hg,v,w',hrun,j⟩:=hstep au a w i o h g1 d k;have:=f _ _ _ (by grind[count_set]) j;unfold wpOp;simp only[d,vB hg,vdg];refine .inl ?_;unfold Oper.wp;rcases hrun with hrun|⟨hrun,rfl⟩<;>simp only[hrun,Oper.upon]<;>exact this
section
variable{n0 sB sC xK k:Nat}{w0:aL}
structure HS(n0 sB sC xK k:Nat)(w0:aL)(l0 l1 l2 fE gt m5:Bool)(a:Act)(w:aL):Prop where
 ds:a.defers=[]
 size:a.tmps.size=78
 HT:a.tmps[12]?=some (.P sB 0)
 HU:a.tmps[14]?=some (.P sC 0)
 Lm:a.tmps[17]?=some (.I 6)
 Ln:a.tmps[20]?=some (.P xK 0)
 Lp:l0=true->a.tmps[61]?=some (.agg #[.N])
 Lq:l1=true->a.tmps[62]?=some (.I 6)
 Lr:l2=true->a.tmps[63]?=some (.agg #[.I k,.N])
 Ls:gt=true->a.tmps[13]?=some (.I 6)
 Aw:∃d,ah w sB d 27/\d.size=1/\(fE=true->d=#[.N])
 Ax:∃d,ah w sC d 45/\d.size=2/\(m5=true->d=#[.I k,.N])
 EU:ah w xK #[.I k,.N] 45
 kq:Below n0 w0 w
theorem HS.put{l0 l1 l2 g f d:Bool}{a:Act}{w:aL}(h:HS n0 sB sC xK k w0 l0 l1 l2 g f d a w){s:Nat}{v:Value}(hs:s=61\/s=62\/s=63\/s=13){i m1 c j:Bool}(h0:i=true->(s=61/\v=.agg #[.N])\/(s≠61/\l0=true))(r:m1=true->(s=62/\v=.I 6)\/(s≠62/\l1=true))(q:c=true->(s=63/\v=.agg #[.I k,.N])\/(s≠63/\l2=true))(p:j=true->(s=13/\v=.I 6)\/(s≠13/\f=true)):HS n0 sB sC xK k w0 i m1 c g j d (a.put (some s) v) w:=by
 have hsz:s<a.tmps.size:=by rw[h.size];omega
 have ne:∀{t:Nat}{u:Value},s≠t->a.tmps[t]?=some u->(a.put (some s) v).tmps[t]?=some u:=λb e=>(dF b).trans e;have key:∀{t:Nat}{u:Value}{l m:Bool},(l=true->a.tmps[t]?=some u)->(m=true->(s=t/\v=u)\/(s≠t/\l=true))->m=true->(a.put (some s) v).tmps[t]?=some u:=by
  intro t u l m e o n;rcases o n with⟨rfl,rfl⟩|⟨b,hl⟩
  .exact jz hsz
  .exact ne b (e hl)
 exact⟨(put_defers _ _ _).trans h.ds,(fo _ _ _).trans h.size,ne AX h.HT,ne AX h.HU,ne AX h.Lm,ne AX h.Ln,key h.Lp h0,key h.Lq r,key h.Lr q,key h.Ls p,h.Aw,h.Ax,h.EU,h.kq⟩
def aAN{Q:uaf}{ks ks':fC}{a:Act}{w:aL}(n1:sB≠sC/\sB≠xK)(eJ:sC≠xK)(y:n0<=sB)(r:n0<=sC)(h:HS n0 sB sC xK k w0 false false false false false false a w)(s:∀a w,HS n0 sB sC xK k w0 true true true true true true a w->bO (ae prog true) ks ks' Q a w):bO (ae prog true) (.code (.region 9 (ay f15 9) true)::ks) ks' Q a w:=by
 refine A6 (wp_region_any Ao (aAM (I:=λau a w=>∃l0 l1 l2 f c b:Bool,au=#[l0,l1,l2,f,c,b]/\HS n0 sB sC xK k w0 l0 l1 l2 f c b a w) ?_ ?_ _ _ _ _ Ab ⟨false,false,false,false,false,false,U,h.ds,h.size,h.HT,h.HU,h.Lm,h.Ln,h.Lp,h.Lq,h.Lr,h.Ls,h.Aw,h.Ax,h.EU,h.kq.drew⟩))
 .rintro au a w i o ⟨l0,l1,l2,f,c,b,rfl,h⟩ hi g q;rw[fj (ay f15 9)]at g;have x:i<6:=(vam.1 g).1;have p:i=0\/i=1\/i=2\/i=3\/i=4\/i=5:=AX;rcases p with rfl|rfl|rfl|rfl|rfl|rfl<;>(obtain rfl:=vaq g)
  .refine⟨U,.agg #[.N],w,.inl ?_,true,l1,l2,f,c,b,U,h.put Ab Ab Ab Ab Ab⟩;go_simp
  .refine⟨U,.I 6,w,.inl ?_,l0,true,l2,f,c,b,U,h.put Ab Ab Ab Ab Ab⟩;have e:=cB h.Lm;generalize a.eval=ev at e⊢;go_simp
  .refine⟨U,.agg #[.I k,.N],w,.inl ?_,l0,l1,true,f,c,b,U,h.put Ab Ab Ab Ab Ab⟩;have e:=cB h.Ln;obtain⟨B,A,z⟩:=h.EU.all;clear h;generalize a.eval=ev at e⊢;go_simp
  .obtain rfl:l0=true:=by simpa using q ⟨0,.data⟩ Ab U
   obtain⟨d,dw,dI,v⟩:=h.Aw;have t:=λo(g:o.op=.store 27 (.tmp 12) (.tmp 61))=>Ws (ev:=a.eval) (o:=o) g dw dI (cB h.HT) (cB (h.Lp U));have gv:=(t {dst:=none,op:=.store 27 (.tmp 12) (.tmp 61),type:=0,pos:= "",after:=#[],guard:=none} U).2;refine⟨U,undef,_,.inr ⟨(t _ U).1,U⟩,true,l1,l2,true,c,b,U,h.ds,h.size,h.HT,h.HU,h.Lm,h.Ln,h.Lp,h.Lq,h.Lr,h.Ls,⟨_,gv,U,λ_=>U⟩,?_,h.EU.fl (Ne.symm n1.2) _,h.kq.setCell y _⟩;obtain⟨n,m,l,j⟩:=h.Ax;exact⟨n,m.fl (Ne.symm n1.1) _,l,j⟩
  .obtain rfl:l1=true:=by simpa using q ⟨1,.data⟩ Ab U
   refine⟨U,.I 6,w,.inl ?_,l0,true,l2,f,true,b,U,h.put Ab Ab Ab Ab Ab⟩;have e:=cB (h.Lq U);generalize a.eval=ev at e⊢;go_simp
  .obtain rfl:l2=true:=by simpa using q ⟨2,.data⟩ Ab U
   obtain⟨d,dw,dI,v⟩:=h.Ax;have t:=λo(g:o.op=.store 45 (.tmp 14) (.tmp 63))=>PX (ev:=a.eval) (o:=o) g dw dI (cB h.HU) (cB (h.Lr U));have gv:=(t {dst:=none,op:=.store 45 (.tmp 14) (.tmp 63),type:=0,pos:= "",after:=#[],guard:=none} U).2;refine⟨U,undef,_,.inr ⟨(t _ U).1,U⟩,l0,l1,true,f,c,true,U,h.ds,h.size,h.HT,h.HU,h.Lm,h.Ln,h.Lp,h.Lq,h.Lr,h.Ls,?_,⟨_,gv,U,λ_=>U⟩,(h.EU.fl (Ne.symm eJ) _).fl (Ne.symm eJ) _,(h.kq.setCell r _).setCell r _⟩;obtain⟨n,m,l,j⟩:=h.Aw;exact⟨n,(m.fl n1.1 _).fl n1.1 _,l,j⟩
 .rintro au a w ⟨l0,l1,l2,f,c,b,rfl,h⟩ u;have hd:=Tl (ops:=ay f15 9) AQ U u;obtain rfl:l0=true:=by simpa using hd 0 AQ
  obtain rfl:l1=true:=by simpa using hd 1 AQ
  obtain rfl:l2=true:=by simpa using hd 2 AQ
  obtain rfl:f=true:=by simpa using hd 3 AQ
  obtain rfl:c=true:=by simpa using hd 4 AQ
  obtain rfl:b=true:=by simpa using hd 5 AQ
  exact⟨U,s a w h⟩
end
section
variable{g6 g7:a5}{mZ W am k:Nat}{l:uae}
def aAO(n0:Nat)(a:Act)(w:aL)(hd:a.defers=[])(hn:n0<=w.heap.size)(hk:af 78 (up (a3 (KU g6 g7 n0 mZ l W am)) 55 (Ll k)) a w):
 sg (ae prog true) f15 (.R (ay f15 7) (List.range' 4 8)::[.code (zY f15)]) (λv w1=>Ht k v/\Below n0 w w1) a w:=by
 refine yK (ks':=[.code .ret,.code (.seq (.region 10 (ay f15 10) false) (.seq (.region 11 (ay f15 11) false) .ret))]) ?_;obtain⟨o,H,M,JL,VH⟩:∃o,(ay f15 7)[11]?=some o/\o.op=.store 45 (.tmp 20) (.tmp 58)/\o.guard=none/\o.dst=none:=⟨_,rfl,rfl,rfl,rfl⟩;rw[fj (ay f15 7)]at H⊢;refine(show bO _ (.R _ (List.range' 4 (4+4))::_) _ _ _ _ from sw hk (ao rfl Jc<|ao rfl (aAx rfl rfl)<|ao rfl (aAy rfl rfl)<|ao rfl (aAz rfl rfl)<|rfl) AU λa1 w1 f d1 b1=>xg ?_);obtain⟨v56,VE,rfl⟩:=f.has 56 _ rfl;obtain⟨v57,VF,rfl⟩:=f.has 57 _ rfl;obtain⟨v58,VG,rfl⟩:=f.has 58 _ rfl;obtain⟨v12,Wv,sB,Z,rfl,Wt,j,D⟩:=f.has 12 _ rfl;obtain⟨v14,C,sC,Y,rfl,PZ,p,B⟩:=f.has 14 _ rfl;have blt:∀{b d T},ah w1 b d T->b<w1.heap.size:=λh=>(vam.1 h).1;refine h7 (R:=λa' w'=>a'=a1.put (some 20) (.P w1.heap.size 0)/\w'=w1.alloc (.cells #[.I 0,.N] 45)) (nu rfl rfl rfl (VC rfl _ _) ⟨rfl,rfl⟩) ?_;rintro bb g ⟨rfl,J⟩;have b2:cC w1 g:=by rw[J];exact(vaa _ w1).alloc Jb _
 have K:ah g w1.heap.size #[.I 0,.N] 45:=by rw[J];exact ah.new _ _ _
 refine h7 (R:=λa' w'=>a'=(a1.put (some 20) (.P w1.heap.size 0)).put (some 19) (.N)/\g=w') (nu (v:=.N) rfl rfl rfl (Bs rfl (cB ((dF AU).trans VE)) _) ⟨rfl,rfl⟩) ?_;rintro _ _ ⟨rfl,rfl⟩;refine h7 (R:=λa' w'=>a'=((a1.put (some 20) (.P w1.heap.size 0)).put (some 19) (.N)).put (some 17) (.I 6)/\g=w') (nu (v:=.I 6) rfl rfl rfl (Bs rfl (cB ((dF AU).trans ((dF AU).trans VF))) _) ⟨rfl,rfl⟩) ?_;rintro c _ ⟨i,rfl⟩;have t:∀{s:Nat}{v:Value},s≠20->s≠19->s≠17->a1.tmps[s]?=some v->c.tmps[s]?=some v:=λy x Q e=>by rw[i];exact(dF (Ne.symm Q)).trans ((dF (Ne.symm x)).trans ((dF (Ne.symm y)).trans e))
 have F:c.tmps[20]?=some (.P w1.heap.size 0):=by rw[i];exact(dF AU).trans ((dF AU).trans (jz (by rw[f.size];decide)))
 have m:c.tmps[17]?=some (.I 6):=by rw[i];exact jz (by rw[fo,fo,f.size];decide)
 have E:c.tmps.size=78:=by rw[i,fo,fo,fo];exact f.size
 have X:c.defers=[]:=by rw[i,put_defers,put_defers,put_defers];exact d1.trans hd
 obtain⟨u1,u2⟩:=PX (ev:=c.eval) (w:=g) M K rfl (cB F) (cB (t AU AU AU VG));refine h7 (R:=λa' w'=>c=a'/\w'=(g.setCell ⟨w1.heap.size,0,none⟩ (.I k)).setCell ⟨w1.heap.size,1,none⟩ (.N)) (qf H JL VH u1 ⟨rfl,rfl⟩) ?_;rintro _ u ⟨rfl,I⟩;rw[<-I]at u2;have z:cC w1 u:=by rw[I];exact(b2.setCell Jb _).setCell Jb _
 refine n8 ?_;unfold zY;refine bq (bq ?_);rw[fj (ay f15 8)];refine Tr (n:=2) rfl (h7 (R:=λa' w'=>a'=c.put (some 59) (.I 6)/\u=w') (nu (v:=.I 6) rfl rfl rfl ?_ ⟨rfl,rfl⟩) ?_)
 .have e:=cB m;generalize c.eval=ev at e⊢;go_simp
 rintro _ _ ⟨rfl,rfl⟩;have A:(c.put (some 59) (.I 6)).tmps[59]?=some (.I 6):=jz (by rw[E];decide);refine h7 (R:=λa' w'=>a'=(c.put (some 59) (.I 6)).put (some 60) (.T)/\u=w') (nu (v:=.T) rfl rfl rfl ?_ ⟨rfl,rfl⟩) ?_
 .have e:=cB A;have V:(c.put (some 59) (.I 6)).eval (.const (.I 0))=.I 0:=rfl;generalize(c.put (some 59) (.I 6)).eval=ev at e V⊢;go_simp
 rintro O _ ⟨r,rfl⟩;have q:∀{s:Nat}{v:Value},s≠59->s≠60->c.tmps[s]?=some v->O.tmps[s]?=some v:=λy x e=>by rw[r];exact(dF (Ne.symm x)).trans ((dF (Ne.symm y)).trans e)
 refine n8 (fI (t:=true) (cB (by rw[r];exact jz (by rw[fo,E];decide))) (bq ?_));have n1:sB≠sC:=λe=>by subst e;simp_all[ah]
 have nF:sB≠w1.heap.size:=Nat.ne_of_lt (blt j);have P:sC≠w1.heap.size:=Nat.ne_of_lt (blt p);refine aAN (n0:=n0) (k:=k) (w0:=w) ⟨n1,nF⟩ P Wt PZ ⟨by rw[r,put_defers,put_defers];exact X,by rw[r,fo,fo];exact E,q AU AU (t AU AU AU Wv),q AU AU (t AU AU AU C),q AU AU m,q AU AU F,Ab,Ab,Ab,Ab,⟨_,j.call z,D,Ab⟩,⟨_,p.call z,B,Ab⟩,u2,(b1.mono hn).trans (z.mono (vad hn b1.size))⟩ λL vu h=>lp ?_;obtain⟨d,dw,-,S⟩:=h.Aw;obtain⟨d',U,-,N⟩:=h.Ax;obtain rfl:=S rfl;obtain rfl:=N rfl;refine Gy (v:=.tuple #[.agg #[.N],.I 6,.agg #[.I k,.N]]) h.ds ?_ ⟨rfl,h.kq⟩;have f12:=h.HT;have f13:=h.Ls rfl;have f14:=h.HU;clear h;generalize L.tmps=tm at f12 f13 f14⊢;simp[results,results15,go_sem,f12,f13,f14,dw.rules.1,U.rules.1]
def aAT{Post:uab}{M:c7}{w:aL}{d:Nat}{a b:Value}(f:∀n,g6.ok n)(c:∀n,g7.ok n)(p:aM (b9 M) #[a,b] #[a,b])(g:g6.R w a)(h:g7.R w b)(o:0<W)(m:W<=16)(j:0<am)(i:am<=64)(r:∀w a b,g6.R w a->g7.R w b->Calls (ae prog true) 17 #[a,b] w λe w'=>∃v,e=.returned v/\(BC mZ l).R w' v/\cC w w')(q:∀M w a b,aM (b9 M) #[a,b,.agg #[.I W,.I am]] #[a,b,.agg #[.I W,.I am]]->g6.R w a->g7.R w b->gJ O prog Post 18 #[a,b,.agg #[.I W,.I am]] M w d (λu _ w'=>Hm k u/\cS M w w')):
 gJ O prog Post 8 #[a,b,.I W,.I am] M w d (λu _ w'=>Ht k u/\cS M w w'):=
 qH (Fr:=BM k) U f c p g h (λM w a b ha t n=>r5 (dS:=Ll k) (Fr:=BM k) U U f c ha t n o m j i r q aAO) aAB
end
end
section
variable{O:gW}
def Lt(bh bu:List aI)(jE iW k:Nat):List aI:=tc (eL bh++eL bu) (mX (xE bh bu jE iW k)) (xE bh bu jE iW k).length
section
variable{bh bu:List aI}{jE iW k:Nat}{ty:ubp}(A:KX bh jE k ty)(B:KX bu iW k ty)(hl:bh.length+bu.length<=8)
include A B hl
theorem aAU(o:(xE bh bu jE iW k).length<=300){Post:uab}{W am:Nat}(g:0<W)(f:W<=16)(e:0<am)(d:am<=64)(M:c7)(w:aL)(a b:Value)(l:aM (b9 M) #[a,b] #[a,b])(i:wk [bh,bu] w a)(j:uG (k:Int) w b):
 gJ O prog Post 8 #[a,b,.I W,.I am] M w 3 (λu _ w'=>BA (Lt bh bu jE iW k) w' u/\cS M w w'):=
 axd (g6:=KQ [bh,bu]) (g7:=Hv (k:Int)) (λ_=>trivial) (λ_=>trivial) l i j λM w a b ha t n=>awZ (g6:=KQ [bh,bu]) (g7:=Hv (k:Int)) (λ_=>trivial) (λ_=>trivial) ha t n g f e d (mZ:=3) AX (by simp[eL];omega) AX (λr c=>by rw[(VJ A B hl c).2.1];simp[eL]) (λr c=>(VJ A B hl c).2.2) (rV A B hl) λM w a b ha t n=>(rU A B hl g f e d M w a b ha t n).mono λu M w⟨p,m⟩=>⟨(p.resolve_right λh=>AX).2,m⟩
theorem aAV(m:300<(xE bh bu jE iW k).length){Post:uab}{W am:Nat}(f:0<W)(e:W<=16)(d:0<am)(c:am<=64)(M:c7)(w:aL)(a b:Value)(j:aM (b9 M) #[a,b] #[a,b])(g:wk [bh,bu] w a)(i:uG (k:Int) w b):
 gJ O prog Post 8 #[a,b,.I W,.I am] M w 3 (λu _ w'=>Ht 2 u/\cS M w w'):=
 aAT (g6:=KQ [bh,bu]) (g7:=Hv (k:Int)) (k:=2) (mZ:=3) (λ_=>trivial) (λ_=>trivial) j g i f e d c (rV A B hl) λM w a b ha t n=>(rU A B hl f e d c M w a b ha t n).mono λu M w⟨p,l⟩=>⟨(p.resolve_left λh=>AX).2,l⟩
end
end
end ol
namespace ej
open RowKit az bX cu bc ol
def hO(bM aS:aI)(i j:Nat):Bool:= !(bM.dt.getD i false)&& !(aS.dt.getD j false)&&(if bM.kind=3 then decide (bM.dT.getD i jc=aS.dT.getD j jc)else bM.fy.getD i 0==aS.fy.getD j 0)
def kJ(p:ubh)(m n:Nat):List (Nat×Nat):=(List.range m).flatMap λi=>((List.range n).filter (p i)).map λj=>(i,j)
def aAW(u:cZ):(sS (jr [u])).any id=u.dU:=by simp[sS,jr,lX]
def aAX(u v:cZ):xk (jr [u]) (jr [v])=true↔u=v:=by rw[GC];simp[jr]
def aAY{bM aS:aI}(hk:bM.kind=aS.kind)(hs:bM.bV=aS.bV){i j:Nat}(h:(gz bM i).dU=false):gz aS j=gz bM i↔hO bM aS i j=true:=by
 rw[Wh]at h;unfold hO gz;rw[h,<-hk,<-hs];by_cases hn:aS.dt.getD j false=true
 .rw[hn];simp[sR];split<;>simp
 .have hn:aS.dt.getD j false=false:=by simpa using hn
  rw[hn];by_cases a:bM.kind=3
  .simp[a];exact eq_comm
  .simp[a];exact eq_comm
section
variable{bh bu:List aI}{k:Nat}{bM aS:aI}(ha:bh[k]?=some bM)(hb:bu[k]?=some aS)(hk:bM.kind=aS.kind)(hs:bM.bV=aS.bV)
include ha hb hk hs
theorem aAZ(iW i:Nat):n_ [k] (my [k] (iA bu 0 iW)) (rowAt bh i).2=((List.range iW).filter (hO bM aS i)).map (rowAt bu):=by
 have a:(rowAt bh i).2.getD k lX=gz bM i:=by simp[rowAt,ven,ha]
 have b:∀j,GG [k] (rowAt bu j)=jr [gz aS j]:=λj=>by simp[GG,rowAt,ven,hb]
 unfold n_;simp only[vcy,veo,a,aAW];by_cases hn:(gz bM i).dU=true
 .rw[vbv hn];have:∀j,hO bM aS i j=false:=λj=>by rw[Wh]at hn;simp only[hO,hn,Bool.not_true,Bool.false_and]
  simp[this]
 .have hn:(gz bM i).dU=false:=by simpa using hn
  rw[vbp (by simp[hn])];unfold my;rw[lL,List.filter_map];congr 1
  refine List.filter_congr λj _=>?_;have:xk (GG [k] (rowAt bu j)) (jr [gz bM i])=hO bM aS i j:=by rw[b,Bool.eq_iff_iff,aAX,aAY hk hs hn]
  exact this
theorem pH(jE iW:Nat):xE bh bu jE iW k=(kJ (hO bM aS) jE iW).map λp=>((rowAt bh p.1).1++(rowAt bu p.2).1,(rowAt bh p.1).2++(rowAt bu p.2).2):=by
 unfold xE eT kJ;rw[ver,List.take_length,lL bh jE,List.flatMap_map,List.map_flatMap];congr 1
 funext i
 unfold Dc;rw[aAZ ha hb hk hs,List.map_map,List.map_map];rfl
end
def Wx{p:ubh}{m n:Nat}{x:ubu}(h:x∈kJ p m n):x.1<m/\x.2<n:=by unfold kJ at h;obtain⟨i,hi,h⟩:=List.mem_flatMap.1 h;obtain⟨j,a,rfl⟩:=vbl.1 h;have:=(List.mem_filter.1 a).1;exact⟨Iu,by simpa using this⟩
def pz{ps:List (Nat×Nat)}{l:List a7}(f:Nat×Nat->Nat){c:aI}{S q:Nat}(hl:l.length=ps.length)(b:∀p∈ps,f p<S)(n:∀r(h:r<ps.length),mX l r q=gz c (f ps[r]))(j:∀i,i<S->xJ c i):tb (c.kind,c.bV) (mX l · q) l.length=nC c (ps.map f):=by
 have a:∀{aK:Type}(g:cZ->aK),(List.range l.length).map (λr=>g (mX l r q))=(ps.map f).map λi=>g (gz c i):=λg=>by rw[hl,List.map_map];apply List.ext_getElem Ab;intro r k o;simp at k;simp[n r k]
 have e:∀i∈ps.map f,i<S:=λi hi=>by obtain⟨p,m,rfl⟩:=vbl.1 hi;exact b p m
 unfold tb nC;simp only;rw[a (·.num),a (·.text),a (·.dU)];congr 1
 .split
  .rfl
  .rename_i d;exact List.map_congr_left λi hi=>az9 (j i (e i hi)) d
 .split
  .rename_i d;exact List.map_congr_left λi hi=>az_ (j i (e i hi)) d
  .rfl
 .exact List.map_congr_left λi hi=>Wh
def aA0{bh bu:List aI}{k:Nat}{bM aS:aI}(ha:bh[k]?=some bM)(hb:bu[k]?=some aS)(hk:bM.kind=aS.kind)(hs:bM.bV=aS.bV){jE iW:Nat}(j:∀c∈bh,∀i,i<jE->xJ c i)(g:∀c∈bu,∀i,i<iW->xJ c i):
 Lt bh bu jE iW k=qu bh ((kJ (hO bM aS) jE iW).map (·.1))++qu bu ((kJ (hO bM aS) jE iW).map (·.2)):=by
 unfold Lt;rw[pH ha hb hk hs];have e:=λx(h:x∈kJ (hO bM aS) jE iW)=>Wx h;generalize kJ (hO bM aS) jE iW=ps at *;unfold tc qu;apply List.ext_getElem (by simp[eL]);intro q m n;simp[eL]at m;simp only[vdp,List.getElem_range];by_cases hq:q<bh.length
 .rw[vcu (by simpa using hq),vdp];have b:(eL bh++eL bu)[q]?.getD (0,0)=(bh[q].kind,bh[q].bV):=by rw[vcb (by simpa[eL]using hq)];simp[eL,hq]
  rw[b];refine pz (S:=jE) (·.1) Ab (λp h=>(e p h).1) (λr a=>?_) (j _ (vax hq));simp[mX,a,rowAt,vcb,hq]
 .have d:q-bh.length<bu.length:=by omega
  rw[vdm (by simpa using hq),vdp];simp only[vcd];have b:(eL bh++eL bu)[q]?.getD (0,0)=(bu[q-bh.length].kind,bu[q-bh.length].bV):=by rw[vby (by simpa[eL]using hq)];simp[eL,d]
  rw[b];have f:=pz (ps:=ps) (l:=ps.map λp=>((rowAt bh p.1).1++(rowAt bu p.2).1,(rowAt bh p.1).2++(rowAt bu p.2).2)) (q:=q) (c:=bu[q-bh.length]) (S:=iW) (·.2) Ab (λp h=>(e p h).2) (λr a=>by
   have:bh.length<=q:=AX;simp[mX,a,rowAt,vby,this,d]) (g _ (vax d))
  simpa only[vcd]using f
def om(b:Int):Nat:=[0,1,3].getD (l_ b 3).toNat 0
def Wy(b:Int):om b=0\/om b=1\/om b=3:=by
 have h:=uB b (n:=3) AX;obtain⟨k,hk,a⟩:∃k:Nat,k<3/\(l_ b 3).toNat=k:=⟨_,AX,U⟩;unfold om;rw[a];obtain rfl|rfl|rfl:k=0\/k=1\/k=2:=AX
 .exact .inl U
 .exact .inr KB
 .exact .inr Kj
def po(rs:List fJ)(h:rs.length<=40){k:Nat}(hk:k=0\/k=1\/k=3):KX (dp rs) rs.length k (if k=3 then(3,0)else(1,0)):=by
 refine⟨H1,AX,H1,λi hi=>rr rs hi,aw4 rs h,?_,?_,λi hi c a=>by have:=az8 rs a i;omega⟩
 .rw[az7];rcases hk with rfl|rfl|rfl<;>rfl
 .simp[dp];omega
