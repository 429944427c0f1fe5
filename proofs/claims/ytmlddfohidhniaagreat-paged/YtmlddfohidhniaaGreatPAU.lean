import Derived.Test.YtmlddfohidhniaaGreatPAT
set_option linter.all false
set_option maxRecDepth 100000
set_option maxHeartbeats 16000000
namespace Go.Proofs.YtmlddfohidhniaaGreat
open Go.Proofs.Tryz
namespace eC
open RowKit Shelf ax bS cq
variable{C:aS->Prop}{fuel i j n:Nat}{P:b4}{ops:eY}{Q:uai}{cn oj:Oper}{a:Act}{w:aS}
def av1{listed:uat}(c:Region.ready .any ops listed=[i,j])(hi:ops[i]?=some cn)(d:ops[j]?=some oj)(h:∀K':Act->aS->Prop,(∀a w,C w->pM C n P ops Q fuel (listed.setIfInBounds i true) a w->K' a w)->if Region.wanted cn (yielded ops a.tmps)=true then Oper.wpIn Fence.wide n P cn a w K' Q else(∀f,cn.about P w a.eval=some f->Fence.wide.fn f)/\K' (a.put cn.dst undef) w)(k:∀K':Act->aS->Prop,(∀a w,C w->pM C n P ops Q fuel (listed.setIfInBounds j true) a w->K' a w)->if Region.wanted oj (yielded ops a.tmps)=true then Oper.wpIn Fence.wide n P oj a w K' Q else(∀f,oj.about P w a.eval=some f->Fence.wide.fn f)/\K' (a.put oj.dst undef) w):pM C n P ops Q (fuel+1) listed a w:=
 ⟨AA,by
  rw[c];intro x b;simp at b;rcases b with rfl|rfl
  .exact wpOpIn_step hi λK' hK=>h K' AA
  .exact wpOpIn_step d λK' hK=>k K' AA⟩
variable{d:Nat}{v:Value}
def OM{t:Nat}(h:d≠t):(a.put (some d) v).eval (.tmp t)=a.eval (.tmp t):=by simp[Act.eval,Act.put,h]
def AS(h:d<a.tmps.size):(a.put (some d) v).eval (.tmp d)=v:=by simp[Act.eval,Act.put,h]
def h7{listed:uat}(hi:ops[i]?=some cn)(hd:cn.dst=some d)(hs:Region.noSelect ops=true)(f:Region.free .any ops listed i=true)(e:(Region.ready .any ops listed).contains i=true)(j:∀c a w,Q (.panic c) (a.put (some d) v) w->Q (.panic c) a w)(g:C w)(b:sG C P ops cn v a)(h:pM C n P ops Q fuel (listed.setIfInBounds i true) (a.put (some d) v) w):pM C n P ops Q (fuel+1) listed a w:=
 tQ hi hs f e AA g b AA
variable{cu:Nat}{o:Oper}{w1:aS}{K:uag}
def ON{F:Prop}(f:o.guard=none)(b:∀c,o.op≠ .defer c)(e:o.about P w a.eval=none)(d:(execOp a.eval o).run P w=.ok (.value v) w1)(h:K (a.put o.dst v) w1):
 if Region.wanted o (yielded ops a.tmps)=true then Oper.wpIn Fence.wide cu P o a w K Q else F:=by
 simp_all[Region.wanted,Oper.wpIn,Oper.semAt_eq,Oper.uponIn]
variable{u:Value}
def OO{d dj:Nat}{listed:uat}(q:Region.ready .any ops listed=[i,j])(m:Region.ready .any ops (listed.setIfInBounds i true)=[j])(x:Region.ready .any ops (listed.setIfInBounds j true)=[i])(hi:ops[i]?=some cn)(k:ops[j]?=some oj)(r:i≠j)(f:cn.dst=some d)(e:oj.dst=some dj)(hd:d≠dj)(hg:cn.guard=none/\oj.guard=none)(y:∀c,cn.op≠ .defer c/\oj.op≠ .defer c)(b:∀w(ev:uak),cn.about P w ev=none/\oj.about P w ev=none)(p:(execOp a.eval cn).run P w=.ok (.value v) w)(t:(execOp (a.put (some d) v).eval oj).run P w=.ok (.value u) w1)(l:(execOp a.eval oj).run P w=.ok (.value u) w1)(o:(execOp (a.put (some dj) u).eval cn).run P w1=.ok (.value v) w1)(s:C w)(g:C w1)(h:pM C n P ops Q fuel ((listed.setIfInBounds i true).setIfInBounds j true) ((a.put (some d) v).put (some dj) u) w1):pM C n P ops Q (fuel+2) listed a w:=by
 refine av1 q hi k (λK hK=>?_) (λK hK=>?_)
 .refine ON hg.1 AA (b _ _).1 p (hK _ _ s ?_);rw[f];refine jY m k λK hK=>ON hg.2 AA (b _ _).2 t (hK _ _ g ?_);grind
 .refine ON hg.2 AA (b _ _).2 l (hK _ _ g ?_);rw[e];refine jY x hi λK hK=>ON hg.1 AA (b _ _).1 o (hK _ _ g ?_);simp_all[Array.setIfInBounds_comm,Ne.symm,Act.put]
variable{e:g4}
def OP{t:g4}{z:Value}{bytes:Nat}(E:py P t e z 1 bytes)(w:aS){F:Prop}(L:o.guard=none)(s x:uar)(c:o.op=.call {callee:=.builtin .append,args:=#[s,x],argTypes:=#[t,t]})(base:Nat)(v:Value)(n:Nat)(xs:uad)(hs:a.eval s=v)(A:w.ownsRow base e 1 v n xs)(b:Nat)(u:Value)(p:a.eval x=.S b 0 1 1)(k:w.cell? (.a b 0)=some u)(I:u.oneCell'=true)(B:(n+1)*bytes<=140737488355328)(N:n+1<=9223372036854775807)(f:base<=w.heap.size)(h:∀g cap w',w'.ownsRow base e 1 (.S g 0 (n+1) cap) (n+1) (xs++[u])->w.grownBy w' v.ownBlock->(v.ownBlock=some g\/g=w.heap.size)->K (a.put o.dst (.S g 0 (n+1) cap)) w'):
 if Region.wanted o (yielded ops a.tmps)=true then Oper.wpIn Fence.wide cu P o a w K Q else F:=by
 rw[vby (by grind[Region.wanted])];obtain⟨i,hi,m,hsz,l⟩:=vch E.hi;obtain⟨C,w',q,r,H,D,M⟩:=run_append_own_at (P:=P) w base t o.type e i z 1 bytes E.ht hi m hsz l E.LI E.hsz v n xs A ⟨b,0,none⟩ 1 1 [u] Y (λj y d=>by
  rcases j with _ |j
  .simp at d;subst d;exact k
  grind) AA Fu B f
 unfold Oper.wpIn;refine⟨by simp[Oper.about,c,resolve,Target.leads,Sem.run_pure],?_⟩;rw[Oper.semAt_plain Fence.wide _ _ AA];obtain⟨-,⟨-,J⟩|⟨g,cap,bd,rfl,-⟩⟩:=id r
 .omega
 simp only[execOp,c,resolve,invoke,builtin,hs,p,q,Result.andThen,vdp,Sem.run_pure,List.map_toArray,vdg,List.map_nil,Oper.uponIn];grind[Value.ownBlock]
def jA(j:Nat):TypeId:=if j % 3=0 then 2 else if j % 3=1 then 9 else 4
structure iD(B bE t5:Nat)(X:ubq)(W:aS)(L:List e5)(cs:dp):Prop where
 gu:eU B W L
 len:L.length=12
 box:ai W bE cs 53
 size:cs.size=20
 head:∀c x,(c,x)∈[(0,1),(1,0),(5,1),(6,0),(10,2),(11,2),(15,3),(16,0)]->cs[c]?=some (.I x)
 at_:∀j,j<12->∃v,L[j]?=some ⟨jA j,v,X j⟩/\cs[j / 3*5+2+j % 3]?=some v
 bt:ai W t5 #[.S bE 0 4 4] 27
 lo:B<=bE/\bE≠t5
variable{B bE t5:Nat}{W:aS}{X:ubq}{L:List e5}{cs:dp}
def iD.below{W':aS}(h:iD B bE t5 X W L cs)(b:cJ W W'):iD B bE t5 X W' L cs:=
 ⟨h.gu.kept λg hg=>by
  obtain⟨i,hi,a⟩:∃i,∃(hi:i<L.length),L[i].v.ownBlock=some g:=vaw λhn=>hg λi hi a=>AA;exact b.block g (h.gu.lt hi a).2,h.len,h.box.call b,h.size,h.head,h.at_,h.bt.call b,h.lo⟩
theorem av4(j:Nat):jA j≠53/\jA j≠27:=by grind[jA]
def iD.ty(h:iD B bE t5 X W L cs)(hi:i<L.length):L[i].e=jA i:=by obtain⟨v,a,-⟩:=h.at_ i (by rw[<-h.len];exact hi);grind
def iD.nA(h:iD B bE t5 X W L cs){b:Nat}{c:dp}{T:g4}(a:ai W b c T)(d:T=53\/T=27):h5 L b:=
 M4 h.gu λf e z hc i hi=>by rw[show W.heap[b]?=some (.cells c T)from a]at hc;cases hc;rw[h.ty hi];grind[av4]
variable{cap g:Nat}{W2:aS}
def iD.push(h:iD B bE t5 X W L cs)(s:j<12)(hv:L[j]?=some ⟨jA j,v,X j⟩){x:Value}(n:W2.ownsRow B (jA j) 1 (.S g 0 ((X j).length+1) cap) ((X j).length+1) (X j++[x]))(hg:W.grownBy W2 v.ownBlock)(cX:v.ownBlock=some g\/g=W.heap.size):
 ai W2 bE cs 53/\ai W2 t5 #[.S bE 0 4 4] 27/\
 iD B bE t5 (λi=>if i=j then X j++[x]else X i) (W2.setCell ⟨bE,j / 3*5+2+j % 3,none⟩ (.S g 0 ((X j).length+1) cap)) (L.set j ⟨jA j,.S g 0 ((X j).length+1) cap,X j++[x]⟩) (cs.setIfInBounds (j / 3*5+2+j % 3) (.S g 0 ((X j).length+1) cap)):=by
 obtain⟨f,m⟩:=eU.I7 h.gu hv n hg cX;have o:j<L.length:=AA;have t:L[j]=⟨jA j,v,X j⟩:=by grind
 have a:∀b,h5 L b->v.ownBlock≠some b:=λb l r=>l j o AA;have c8:=ai.grown h.box hg (λg' k e=>a bE (h.nA h.box J1) AA);have bt:=ai.grown h.bt hg (λg' k e=>a t5 (h.nA h.bt KK) AA);refine⟨c8,bt,?_⟩;have d:h5 (L.set j ⟨jA j,.S g 0 ((X j).length+1) cap,X j++[x]⟩) bE:=m bE h.box.lt (h.nA h.box J1);refine⟨f.set d _ _,by simp[h.len],c8.set _ _,by simp[h.size],λc y hc=>?_,λi hi=>?_,bt.gx (Ne.symm h.lo.2) _,h.lo⟩
 .have hq:=h.head c y hc;have z:j / 3*5+2+j % 3≠c:=by have w:j % 3<3:=AA;simp at hc;omega
  grind
 .obtain⟨u,q,p⟩:=h.at_ i hi;grind
def iD.congr{a:ubq}(h:iD B bE t5 X W L cs)(c:∀j,j<12->X j=a j):iD B bE t5 a W L cs:=
 ⟨h.gu,h.len,h.box,h.size,h.head,λj b=>by rw[<-c j b];exact h.at_ j b,h.bt,h.lo⟩
variable{N:Nat}
def av5{row:ubg}(hg:W.grownBy W2 row)(a:∀g,row=some g->N<=g)(a7:N<=W.heap.size):Below N W W2:=
 ⟨hg.os,hg.tape,hg.output,hg.size,λk hk=>hg.block k AP AA⟩
def av6(c:dp)(e:g4):cJ W (W.drew.alloc (.cells c e)):=(show cJ W W.drew from⟨Y,Y,Y,vac _,λ_ _=>Y⟩).alloc (vac _) _
def iD.OQ(h:iD B bE t5 X W L cs)(y:j<12){xs:uad}(s:X j=xs)(f:jA j=e)(hv:L[j]?=some ⟨jA j,v,xs⟩)(l:W2.ownsRow B e 1 (.S g 0 (xs.length+1) cap) (xs.length+1) (xs++[u]))(hg:(W.drew.alloc (.cells #[u] e)).grownBy W2 v.ownBlock)(cX:v.ownBlock=some g\/g=(W.drew.alloc (.cells #[u] e)).heap.size)(a7:N<=B)(F:B<=W.heap.size){o:Nat}(w:o=j / 3*5+2+j % 3):
 Below N W W2/\(∀b c T,h5 L b->ai W b c T->ai W2 b c T)/\ai W2 bE cs 53/\ai W2 t5 #[.S bE 0 4 4] 27/\
 ∃m A,iD B bE t5 (λi=>if i=j then xs++[u]else X i) (W2.setCell ⟨bE,o,none⟩ (.S g 0 (xs.length+1) cap)) m A/\∀b,b<W.heap.size->h5 L b->h5 m b:=by
 subst s;subst f;subst w;have a:=av6 (W:=W) #[u] (jA j);have k:=h.below a;obtain⟨r,q,p⟩:=k.push y hv l hg cX;obtain⟨C,z⟩:=eU.I7 k.gu hv l hg cX;have n:j<L.length:=AA;have f:L[j]=⟨jA j,v,X j⟩:=by grind
 have E:∀g,v.ownBlock=some g->B<=g:=λg hg=>(h.gu.lt n AA).1;refine⟨(a.mono AP).trans (av5 hg AA Aq),λb c T d t=>ai.grown (t.call a) hg (λg' D e=>d j n AA),r,q,_,_,p,λb x d=>z b Aq d⟩
@[simp] theorem aFG:cQ true 4:=c0 (bw (upd:=true) func4 AJ) AJ
def vK(r:fA)(j:Nat):List Value:=
 if j=0 then [.I (kB r.1)]else if j=2 then [.bool (h6 r.1)]else if j=3 then [.I (gt r.2.1)]else if j=5 then [.bool (h6 r.2.1)]else if j=6 then [.I (gt r.2.2.1)]else if j=8 then [.bool (h6 r.2.2.1)]else if j=10 then [.string (o9 r.2.2.2)]else if j=11 then [.bool (h6 r.2.2.2)]else []
def b3(rs:List fA)(n:Nat)(j:Nat):List Value:=(rs.take n).flatMap (vK · j)
theorem Eg(rs:List fA)(h:n<rs.length)(j:Nat):b3 rs (n+1) j=b3 rs n j++vK rs[n] j:=by grind[b3,List.take_succ_eq_append_getElem]
theorem av7(r:fA)(j:Nat):(vK r j).length<=1:=by grind[vK]
theorem AT(rs:List fA)(n:Nat)(j:Nat):(b3 rs n j).length<=n:=by induction n with|zero=>simp[b3]|succ n a=>grind[Eg,av7,b3,List.take_of_length_le]
def AU(rs:List fA)(n j:Nat)(f:fA->Value)(h:∀r,vK r j=[f r]):b3 rs n j=(rs.take n).map f:=by unfold b3;induction rs.take n with|nil=>rfl|cons r l a=>grind
def OR(rs:List fA)(n j:Nat)(h:∀r,vK r j=[]):b3 rs n j=[]:=by simp_all[b3]
def AV{ao:Type}{R:aS->(Nat->Option Value)->ao->Prop}{l:List fA}{f:fA->Value}{g:fA->ao}(h:W.ownsRow B e 1 v (l.map f).length (l.map f))(a:∀r rd,rd 0=some (f r)->R W rd (g r)):aX W 1 R v (l.map g):=
 x7 h Ad AA
def OS{ao:Type}{R:aS->(Nat->Option Value)->ao->Prop}(h:W.ownsRow B e 1 v ([]:uad).length []):aX W 1 R v []:=
 x7 h Y AA
def av8{rs:List fA}(h:iD B bE t5 (b3 rs n) W L cs):ke W (.S bE 0 4 4) (ew (rs.take n)):=by
 have own:∀j(_:j<12),∃v,cs[j / 3*5+2+j % 3]?=some v/\W.ownsRow B (jA j) 1 v (b3 rs n j).length (b3 rs n j):=λj g=>by obtain⟨v,m,l⟩:=h.at_ j g;exact⟨v,l,h.gu.at m⟩
 have cell:∀o x,cs[o]?=some x->W.cell? (.a bE o)=some x:=λo x f=>(h.box.rules.1 o).trans f;refine⟨⟨some ⟨bE,0,none⟩,4,Y,by show 4<=9223372036854775807;decide,λi hi=>⟨bE,0,Y,?_⟩⟩,λb k=>by cases k;exact⟨_,_,h.box⟩⟩;have e:i=0\/i=1\/i=2\/i=3:=by have:(ew (rs.take n)).length=4:=rfl;omega
 rcases e with rfl|rfl|rfl|rfl
 .obtain⟨bj,di,c⟩:=own 0 AP;obtain⟨vs,c1,a⟩:=own 1 AP;obtain⟨d,bH,o2⟩:=own 2 AP;rw[AU rs n 0 _ λ_=>Y]at c;rw[OR rs n 1 λ_=>Y]at a;rw[AU rs n 2 _ λ_=>Y]at o2;exact⟨bj,vs,d,cell 0 _ (h.head 0 1 Ad),cell 1 _ (h.head 1 0 Ad),cell 2 _ di,cell 3 _ c1,cell 4 _ bH,⟨AV c λ_ _ h=>h,OS a,AV o2 λ_ _ h=>h⟩,qw c,qw a,qw o2⟩
 .obtain⟨bj,di,c⟩:=own 3 AP;obtain⟨vs,c1,a⟩:=own 4 AP;obtain⟨d,bH,o2⟩:=own 5 AP;rw[AU rs n 3 _ λ_=>Y]at c;rw[OR rs n 4 λ_=>Y]at a;rw[AU rs n 5 _ λ_=>Y]at o2;exact⟨bj,vs,d,cell 5 _ (h.head 5 1 Ad),cell 6 _ (h.head 6 0 Ad),cell 7 _ di,cell 8 _ c1,cell 9 _ bH,⟨AV c λ_ _ h=>h,OS a,AV o2 λ_ _ h=>h⟩,qw c,qw a,qw o2⟩
 .obtain⟨bj,di,c⟩:=own 6 AP;obtain⟨vs,c1,a⟩:=own 7 AP;obtain⟨d,bH,o2⟩:=own 8 AP;rw[AU rs n 6 _ λ_=>Y]at c;rw[OR rs n 7 λ_=>Y]at a;rw[AU rs n 8 _ λ_=>Y]at o2;exact⟨bj,vs,d,cell 10 _ (h.head 10 2 Ad),cell 11 _ (h.head 11 2 Ad),cell 12 _ di,cell 13 _ c1,cell 14 _ bH,⟨AV c λ_ _ h=>h,OS a,AV o2 λ_ _ h=>h⟩,qw c,qw a,qw o2⟩
 .obtain⟨bj,di,c⟩:=own 9 AP;obtain⟨vs,c1,a⟩:=own 10 AP;obtain⟨d,bH,o2⟩:=own 11 AP;rw[OR rs n 9 λ_=>Y]at c;rw[AU rs n 10 _ λ_=>Y]at a;rw[AU rs n 11 _ λ_=>Y]at o2;exact⟨bj,vs,d,cell 15 _ (h.head 15 3 Ad),cell 16 _ (h.head 16 0 Ad),cell 17 _ di,cell 18 _ c1,cell 19 _ bH,⟨OS c,AV a λr _ h=>⟨h,by grind[OL]⟩,AV o2 λ_ _ h=>h⟩,qw c,qw a,qw o2⟩
end eC
namespace a3
open Conc ConcM RowKit ax bp cI dm bS cq eC
section
variable{n0:Nat}
def KE:Value->Prop
 | .int .. | .bool _ | .string _=>True
 | _=>False
theorem sW{ρ:Ren}{x y:Value}(hs:KE x)(h:ar ρ x y):y=x:=by cases h<;>first|rfl|exact hs.elim
def awq{ρ:Ren}{w w':aS}(hc:yb n0 ρ w w'){v a:Value}(hv:ar ρ v a){e:g4}{n:Nat}{xs:uad}(hS:∀x∈xs,KE x)(h:w.ownsRow n0 e 1 v n xs):w'.ownsRow n0 e 1 a n xs/\∀g',a.ownBlock=some g'->∃g,v.ownBlock=some g/\ρ.rel g g':=by
 obtain⟨b,⟨rfl,hn⟩|⟨g,cap,bd,rfl,hg,c,k,j,q,f⟩⟩:=h
 .rw[om hv];exact⟨⟨b,AA⟩,λg' e=>Cn⟩
 .obtain⟨g',rfl,r⟩:=wQ hv;obtain⟨m,d,p⟩:=hc.types _ _ _ _ _ r c;refine⟨⟨b,.inr ⟨g',cap,m,Y,hc.new _ _ r hg,d,k,j,AA,?_⟩⟩,λs e=>by cases e;exact⟨g,Y,r⟩⟩;rw[<-f];refine vca λi=>?_;rw[List.getElem?_take,List.getElem?_take];split
  .rename_i hi;have o:i<xs.length:=AA;have z:bd.toList[i]?=some xs[i]:=by grind
   have l:w.cell? (.a g i)=some xs[i]:=by grind[World.cell?]
   obtain⟨y,u,t⟩:=hc.cells.cell ⟨g,i,none⟩ ⟨g',i,none⟩ _ ⟨r,Y,Y⟩ l;grind[sW,List.getElem_mem,World.cell?]
  .rfl
def Ej(n0:Nat)(X:ubq)(W:aS)(v:Value):Prop:=∃bE bt L cs,v=.P bt 0/\iD n0 bE bt X W L cs
def Ek(n0:Nat)(W:aS)(v:Value):Prop:=∃b,v=.P b 0/\n0<=b/\ai W b #[.N] 27
theorem awr:kg n0 (Ek n0):=by rintro ρ w w' v e hc hv ⟨b,rfl,hn,h⟩;obtain⟨d,rfl,r⟩:=F1 hv;obtain⟨f,a,k⟩:=VA (l:=[.N]) hc r h;cases k with|cons c k=>cases k;rw[om c]at a;exact⟨d,Y,hc.new _ _ r hn,a⟩
theorem aws{X:ubq}(C:∀j,∀x∈X j,KE x):kg n0 (Ej n0 X):=by
 rintro ρ w w' v b hc hv ⟨bE,bt,L,cs,rfl,h⟩;obtain⟨I,rfl,u⟩:=F1 hv;obtain⟨P,B,r⟩:=VA (l:=[.S bE 0 4 4]) hc u h.bt;cases r with
 |cons r H=>
  cases H;obtain⟨t,rfl,rc⟩:=wQ r;obtain⟨lc,K,kc⟩:=VA (l:=cs.toList) hc rc h.box;have hlen:lc.length=20:=by rw[<-kc.length];simpa using h.size
  have get:∀i x,cs[i]?=some x->∃y,lc[i]?=some y/\ar ρ x y:=λi x z=>by
   have hi:i<cs.size:=by
    rcases vdd i cs.size with q|q
    .exact q
    .rw[Array.getElem?_eq_none q]at z;cases z
   have k:i<lc.length:=by rw[hlen,<-h.size];exact hi
   refine⟨lc[i],vag k,?_⟩;have:=(aJ.K9 kc).get i x lc[i] AA AA;grind
  have at_:∀j,j<12->∃v b,L[j]?=some ⟨jA j,v,X j⟩/\lc[j / 3*5+2+j % 3]?=some b/\ar ρ v b:=λj d=>by obtain⟨v,A,n⟩:=h.at_ j d;grind
  let a:List e5:=(List.range 12).map λj=>⟨jA j,lc[j / 3*5+2+j % 3]?.getD undef,X j⟩
  have J:a.length=12:=AA;have E:∀j(d:j<12),∃v b,L[j]?=some ⟨jA j,v,X j⟩/\a[j]?=some ⟨jA j,b,X j⟩/\lc[j / 3*5+2+j % 3]?=some b/\ar ρ v b:=AA;have own:∀j(d:j<a.length),w'.ownsRow n0 a[j].e 1 a[j].v a[j].xs.length a[j].xs/\∀g',a[j].v.ownBlock=some g'->∃(f:j<L.length)(g:Nat),L[j].v.ownBlock=some g/\ρ.rel g g':=λj d=>by obtain⟨v,b,A,n,M,D⟩:=E j AA;rw[vag d]at n;rw[van n];have Q:j<L.length:=AA;obtain⟨N,O⟩:=awq hc D (C j) (h.gu.at A);grind
  refine⟨t,I,a,lc.toArray,Y,⟨⟨AA,λi j hi d g m p o=>?_⟩,J,K,AA,λc x s=>?_,λj d=>?_,B,hc.new _ _ rc h.lo.1,λe=>?_⟩⟩
  .obtain⟨k,g1,f1,ir⟩:=(own i hi).2 g p;obtain⟨f,F,f3,f4⟩:=(own j d).2 g o;rw[hc.inj _ _ _ ir f4]at f1;exact h.gu.apart i j k f F m f1 f3
  .obtain⟨y,p,o⟩:=get _ _ (h.head c x s);rw[sW (x:=.I x) trivial o]at p;grind
  .grind
  .rw[e]at rc;exact h.lo.2 (hc.inj _ _ _ rc u)
theorem awv(rs:List fA)(n j:Nat):∀x∈b3 rs n j,KE x:=by
 intro x a;simp only[b3,List.mem_flatMap]at a;obtain⟨r,-,a⟩:=a;unfold vK at a;repeat' split at a
 all_goals first|(simp only[vbn,vcy,or_false]at a;subst a;trivial)|grind
end
end a3
namespace eC
open RowKit Shelf ax bS cq a3
section
attribute [local go_sem] Oper.semAt_some
def aww(n0 bD oz hQ:Nat)(l4:Value)(w0:aS)(rs:List fA)(n:Nat)(a:Act)(W:aS):Prop:=(a.defers=[]/\a.tmps.size=123/\a.tmps[1]?=some (.I 15)/\a.tmps[4]?=some l4/\a.tmps[5]?=some (.P hQ 0)/\a.tmps[6]?=some (.I n))/\(∃L cs,iD n0 bD hQ (b3 rs (n+1)) W L cs)/\ai W oz #[.N] 27/\Below n0 w0 W
def awx(rs:List fA)(n:Nat)(xI:n<rs.length)(dX:n<15)(i0:cT rs[n].1)(i1:cT rs[n].2.1)(i2:cT rs[n].2.2.1)(i3:cT rs[n].2.2.2)(n0 b oz l q:Nat)(w0 f:aS)(L:List e5)(cs:dp)(nj:n0<=w0.heap.size)(hq:iD n0 b l (b3 rs n) f L cs)(Pl:ai f q #[.I rs[n].1,.I rs[n].2.1,.I rs[n].2.2.1,.I rs[n].2.2.2] 56)(y8:ai f oz #[.N] 27)(hb:Below n0 w0 f)(sN:h5 L q)(aeS:b≠q)(aeT:b≠oz)(mL ed ge l4 zN E8 Ip Iq Ir Is It Iu OU OV OW OX OY vF OZ Kj O0 O1 O2 O3 O4 O5 O6 O7 O8 O9 O_ Pa Pb Pd Pe Pf awy awz awA awB awC vy vb awD awE awF awG awH awI awJ awK awL awM awN awO awP awQ awR awS awT awU awV awW awX awY awZ aw0 aw1 aw2 aw3 aw4 aw5 aw6 aw7 aw8 aw9 aw_ axa axb axc axd axe axf axg axh axi axj axk axl axm axn axo axp axq axr axs axt axu axv axw axx axy axz axA axB axC axD axE axF axG axH axI axJ axK axL axM axN axO axP:Value):
 Code.wpIn Fence.wide 3 (ae prog true) (sU Tryz.f4 5) (jZ (aww n0 b oz l l4 w0 rs n)) ⟨#[mL,.I 15,ed,ge,l4,.P l 0,.I n,.P q 0,zN,E8,Ip,Iq,Ir,Is,It,Iu,OU,OV,OW,OX,OY,vF,OZ,Kj,O0,O1,O2,O3,O4,O5,O6,O7,O8,O9,O_,Pa,Pb,Pd,Pe,Pf,awy,awz,awA,awB,awC,vy,vb,awD,awE,awF,awG,awH,awI,awJ,awK,awL,awM,awN,awO,awP,awQ,awR,awS,awT,awU,awV,awW,awX,awY,awZ,aw0,aw1,aw2,aw3,aw4,aw5,aw6,aw7,aw8,aw9,aw_,axa,axb,axc,axd,axe,axf,axg,axh,axi,axj,axk,axl,axm,axn,axo,axp,axq,axr,axs,axt,axu,axv,axw,axx,axy,axz,axA,axB,axC,axD,axE,axF,axG,axH,axI,axJ,axK,axL,axM,axN,axO,axP],[]⟩ f:=by
 simp[sU,Tryz.f4,bM.dW,bM.k0];have aFN:l<f.heap.size:=hq.bt.lt;have aFO:b<f.heap.size:=hq.box.lt;have aFP:oz<f.heap.size:=y8.lt;have aFQ:q<f.heap.size:=Pl.lt;have aFR:b≠l:=hq.lo.2;have iG:n0<=b:=hq.lo.1;have q8:Hid (iD n0 b l (b3 rs n) f L cs):=hq;have G5:Hid (ai f oz #[.N] 27):=y8;have cf:Hid (Below n0 w0 f):=hb;have axQ:Hid (h5 L q):=sN;have El:Hid (n0<=w0.heap.size):=nj;obtain⟨f1,ir,f3⟩:=Pl.all;have axR:Hid _:=Pl;clear hq y8 hb sN Pl;gi_wp2
 have gR:cJ f (f.alloc (.cells #[.I rs[n].1,.I rs[n].2.1,.I rs[n].2.2.1] 54)):=(vaa _ f).alloc JT _;have q_:ai (f.alloc (.cells #[.I rs[n].1,.I rs[n].2.1,.I rs[n].2.2.1] 54)) q #[.I rs[n].1,.I rs[n].2.1,.I rs[n].2.2.1,.I rs[n].2.2.2] 56:=ai.alloc axR.out _;have zN:ai (f.alloc (.cells #[.I rs[n].1,.I rs[n].2.1,.I rs[n].2.2.1] 54)) f.heap.size #[.I rs[n].1,.I rs[n].2.1,.I rs[n].2.2.1] 54:=ai.new f _ _;have sD:(f.alloc (.cells #[.I rs[n].1,.I rs[n].2.1,.I rs[n].2.2.1] 54)).heap.size=f.heap.size+1:=Ad;have KF:Hid _:=q_;have r5:Hid _:=zN;have pL:Hid _:=gR;clear q_ zN gR f1 ir f3;generalize(f.alloc (.cells #[.I rs[n].1,.I rs[n].2.1,.I rs[n].2.2.1] 54))=S at *;refine wpIn_region_any Ah (FP (C:=λW=>ai W q #[.I rs[n].1,.I rs[n].2.1,.I rs[n].2.2.1,.I rs[n].2.2.2] 56) _ _ _ _ ?_);have HC:Hid (ai S.drew q #[.I rs[n].1,.I rs[n].2.1,.I rs[n].2.2.1,.I rs[n].2.2.2] 56):=KF.out;refine tQ (i:=0) (v:=.P q 0) rfl Ah Ah Ah Je HC.out ⟨BJ,λW _=>Ap,λc=>Ad,λ_=>rfl⟩ ?_;refine tQ (i:=3) (v:=.P q 1) rfl Ah Ah Ah Je HC.out ⟨BJ,λW _=>Ap,λc=>Ad,λ_=>rfl⟩ ?_;refine tQ (i:=6) (v:=.P q 2) rfl Ah Ah Ah Je HC.out ⟨BJ,λW _=>Ap,λc=>Ad,λ_=>rfl⟩ ?_;refine tQ (i:=1) (v:=.I rs[n].1) rfl Ah Ah Ah Je HC.out ⟨BJ,λW d=>B7,λc=>Ad,λ_=>rfl⟩ ?_;refine tQ (i:=4) (v:=.I rs[n].2.1) rfl Ah Ah Ah Je HC.out ⟨BJ,λW d=>B7,λc=>Ad,λ_=>rfl⟩ ?_;refine tQ (i:=7) (v:=.I rs[n].2.2.1) rfl Ah Ah Ah Je HC.out ⟨BJ,λW d=>B7,λc=>Ad,λ_=>rfl⟩ ?_;refine jY (i:=2) Ah rfl λK hK=>?_;go_simp
 refine⟨PJ,(callsIn_wide.2 (ato _ i0 _)).mono ?_⟩;rintro e w' ⟨rfl,rfl⟩;refine hK _ _ HC.out ?_;clear hK K;refine jY (i:=5) Ah rfl λK hK=>?_;go_simp
 refine⟨PJ,(callsIn_wide.2 (Li _ i1 _)).mono ?_⟩;rintro e w' ⟨rfl,rfl⟩;refine hK _ _ HC.out ?_;clear hK K;refine jY (i:=8) Ah rfl λK hK=>?_;go_simp
 refine⟨PJ,(callsIn_wide.2 (Li _ i2 _)).mono ?_⟩;rintro e w' ⟨rfl,rfl⟩;refine hK _ _ HC.out ?_;clear hK K;refine jY (i:=9) Ah rfl λK hK=>?_;go_simp
 refine hK _ _ (ai.alloc HC.out _) ?_;clear hK K;refine jY (i:=10) Ah rfl λK hK=>?_;go_simp
 refine hK _ _ (ai.alloc HC.out _) ?_;clear hK K;refine FQ Ah ?_ _;gi_wp2
 have Pm:cJ f (S.alloc (.cells #[.I (kB rs[n].1),.I (gt rs[n].2.1),.I (gt rs[n].2.2.1)] 2)).drew:=(pL.out.alloc AP _).trans (show Below _ _ _ from⟨rfl,rfl,rfl,vac _,λ_ _=>rfl⟩);have Io:ai (S.alloc (.cells #[.I (kB rs[n].1),.I (gt rs[n].2.1),.I (gt rs[n].2.2.1)] 2)).drew q #[.I rs[n].1,.I rs[n].2.1,.I rs[n].2.2.1,.I rs[n].2.2.2] 56:=ai.alloc KF.out _;have xJ:ai (S.alloc (.cells #[.I (kB rs[n].1),.I (gt rs[n].2.1),.I (gt rs[n].2.2.1)] 2)).drew (f.heap.size) #[.I rs[n].1,.I rs[n].2.1,.I rs[n].2.2.1] 54:=ai.alloc r5.out _;have Ri:ai (S.alloc (.cells #[.I (kB rs[n].1),.I (gt rs[n].2.1),.I (gt rs[n].2.2.1)] 2)).drew (f.heap.size+1) #[.I (kB rs[n].1),.I (gt rs[n].2.1),.I (gt rs[n].2.2.1)] 2:=by have:=ai.new S #[.I (kB rs[n].1),.I (gt rs[n].2.1),.I (gt rs[n].2.2.1)] 2;rw[sD]at this;exact this
 have axS:=q8.out.below Pm;have axT:=G5.out.call Pm;have axU:Below n0 w0 (S.alloc (.cells #[.I (kB rs[n].1),.I (gt rs[n].2.1),.I (gt rs[n].2.2.1)] 2)).drew:=cf.out.trans (Pm.mono AA);have axV:h5 L q/\h5 L (f.heap.size)/\h5 L (f.heap.size+1):=⟨axQ.out,q8.out.gu.nA AA,q8.out.gu.nA AA⟩;have NR:n0<=f.heap.size:=AA;clear KF r5 pL HC;generalize(S.alloc (.cells #[.I (kB rs[n].1),.I (gt rs[n].2.1),.I (gt rs[n].2.2.1)] 2)).drew=aFS at *;clear sD;gi_loopw [10] (λp W=>∃(k:Nat)(L:List e5)(cs:dp),k<=3/\p=.I k/\iD (n0) (b) (l) (λj=>if j / 3<k then b3 rs (n+1) j else b3 rs n j) W L cs/\ai W oz #[.N] 27/\Below n0 w0 W/\
  (ai W q #[.I rs[n].1,.I rs[n].2.1,.I rs[n].2.2.1,.I rs[n].2.2.2] 56/\ai W (f.heap.size) #[.I rs[n].1,.I rs[n].2.1,.I rs[n].2.2.1] 54/\ai W (f.heap.size+1) #[.I (kB rs[n].1),.I (gt rs[n].2.1),.I (gt rs[n].2.2.1)] 2)/\
  (h5 L q/\h5 L (f.heap.size)/\h5 L (f.heap.size+1)))
  (λi _=>3-(intOf i).toNat)
 case atStart=>grind
 case round=>
  obtain⟨k,FF,cs1,jG,rfl,VC,gw,bY,⟨R,sV,KA⟩,Pn⟩:=hrel;have H:Hid (iD (n0) (b) (l) (λj=>if j / 3<k then b3 rs (n+1) j else b3 rs n j) wr FF cs1):=VC;clear axS axT axU Io xJ Ri axV Pm;by_cases hk:k<3
  .obtain⟨I,O,rY,rR,hI,q0,br,bn⟩:∃I O,(#[.I rs[n].1,.I rs[n].2.1,.I rs[n].2.2.1]:dp)[k]?=some (.I I)/\(#[.I (kB rs[n].1),.I (gt rs[n].2.1),.I (gt rs[n].2.2.1)]:dp)[k]?=some (.I O)/\cT I/\vK rs[n] (3*k)=[.I O]/\vK rs[n] (3*k+1)=[]/\vK rs[n] (3*k+2)=[.bool (h6 I)]:=by
    have:k=0\/k=1\/k=2:=AP;rcases this with rfl|rfl|rfl
    .exact⟨_,_,rfl,rfl,i0,rfl,rfl,rfl⟩
    .exact⟨_,_,rfl,rfl,i1,rfl,rfl,rfl⟩
    .exact⟨_,_,rfl,rfl,i2,rfl,rfl,rfl⟩
   have rK:=λW(h:ai W (f.heap.size) #[.I rs[n].1,.I rs[n].2.1,.I rs[n].2.2.1] 54)=>(h.rules.1 k).trans rY;have rI:=λW(h:ai W (f.heap.size+1) #[.I (kB rs[n].1),.I (gt rs[n].2.1),.I (gt rs[n].2.2.1)] 2)=>(h.rules.1 k).trans rR;have axW:Hid _:=rK;have axX:Hid _:=rI;have l8:Hid _:=(⟨R,sV,KA⟩:_/\_/\_);have tk:Hid _:=gw;have U:Hid _:=bY;have Q:Hid _:=Pn;have VD:Hid _:=(⟨q0,br,bn⟩:_/\_/\_);obtain⟨axY,Po,VE⟩:=H.out.at_ (3*k) AP;rw[show 3*k / 3*5+2+3*k % 3=k*5+2 by omega]at VE;have QG:(if 3*k / 3<k then b3 rs (n+1) (3*k)else b3 rs n (3*k))=b3 rs n (3*k):=AA;simp at Po;obtain⟨p0,r0,rfl⟩:=h9 (show wr.ownsRow _ (jA (3*k)) 1 axY (b3 rs n (3*k)).length _ from H.out.gu.at Po);have VF:Hid _:=Po;have VG:Hid _:=VE;have l3:(0:Int)<=(k:Int):=AP;have zI:(k:Int)<3:=AP;have aeC:(k:Int)<4:=AP;clear rY rR rK rI R sV KA gw bY Pn q0 br bn VC Po VE QG;gi_wp2
   refine wpIn_region_any Ah (FP (C:=λW=>ai W (l) #[.S b 0 4 4] 27/\ai W (f.heap.size+1) #[.I (kB rs[n].1),.I (gt rs[n].2.1),.I (gt rs[n].2.2.1)] 2) _ _ _ _ ?_);have HC:Hid (ai wr.drew (l) #[.S b 0 4 4] 27/\ai wr.drew (f.heap.size+1) #[.I (kB rs[n].1),.I (gt rs[n].2.1),.I (gt rs[n].2.2.1)] 2):=⟨H.out.bt,l8.out.2.2⟩;refine h7 (i:=0) (v:=.P l 0) rfl rfl Ah Ah Ah Je HC.out ⟨BJ,λW d=>Ap,λc=>Ad,λ_=>rfl⟩ ?_;refine h7 (i:=3) (v:=.P l 0) rfl rfl Ah Ah Ah Je HC.out ⟨BJ,λW d=>Ap,λc=>Ad,λ_=>rfl⟩ ?_;refine h7 (i:=2) (v:=.I k) rfl rfl Ah Ah Ah Je HC.out ⟨BJ,λW d=>Ap,λc=>Ad,λ_=>rfl⟩ ?_;refine h7 (i:=5) (v:=.I k) rfl rfl Ah Ah Ah Je HC.out ⟨BJ,λW d=>Ap,λc=>Ad,λ_=>rfl⟩ ?_;refine h7 (i:=9) (v:=.S (f.heap.size+1) 0 3 3) rfl rfl Ah Ah Ah Je HC.out ⟨BJ,λW d=>Ap,λc=>Ad,λ_=>rfl⟩ ?_;refine h7 (i:=10) (v:=.I k) rfl rfl Ah Ah Ah Je HC.out ⟨BJ,λW d=>Ap,λc=>Ad,λ_=>rfl⟩ ?_;refine h7 (i:=1) (v:=.S b 0 4 4) rfl rfl Ah Ah Ah Je HC.out ⟨BJ,λW d=>by obtain⟨A,M,J⟩:=ai.all d.1;go_simp,λc=>Ad,λ_=>rfl⟩ ?_;refine h7 (i:=4) (v:=.S b 0 4 4) rfl rfl Ah Ah Ah Je HC.out ⟨BJ,λW d=>by obtain⟨A,M,J⟩:=ai.all d.1;go_simp,λc=>Ad,λ_=>rfl⟩ ?_;refine h7 (i:=6) (v:=.P b (k*5)) rfl rfl Ah Ah Ah Je HC.out ⟨BJ,λW d=>Ap,λc=>Ad,λ_=>rfl⟩ ?_;refine h7 (i:=7) (v:=.P b (k*5+2)) rfl rfl Ah Ah Ah Je HC.out ⟨BJ,λW d=>Ap,λc=>Ad,λ_=>rfl⟩ ?_;refine h7 (i:=11) (v:=.P (f.heap.size+1) k) rfl rfl Ah Ah Ah Je HC.out ⟨BJ,λW d=>Ap,λc=>Ad,λ_=>rfl⟩ ?_;refine h7 (i:=12) (v:=.I O) rfl rfl Ah Ah Ah Je HC.out ⟨BJ,λW d=>by have A:=axX.out _ d.2;go_simp,λc=>Ad,λ_=>rfl⟩ ?_;have z:wr.drew.cell? (.a b (k*5+2))=some (.slice p0 (b3 rs n (3*k)).length r0):=(H.out.box.rules.1 _).trans VG.out;refine OO (i:=8) (j:=13) (v:=.slice p0 (b3 rs n (3*k)).length r0) (u:=.S wr.heap.size 0 1 1) (w1:=wr.drew.alloc (.cells #[.I O] 2)) Ah Ah Ah rfl rfl AX rfl rfl AX ⟨rfl,rfl⟩ (λc=>⟨Ad,Ad⟩) (λ_ _=>⟨rfl,rfl⟩) Ap Ap Ap (by have g1:(wr.alloc (.cells #[.I O] 2)).drew.cell? (.a b (k*5+2))=_:=a3.qK z (.cells #[.I O] 2);go_simp) HC.out ⟨ai.alloc HC.out.1 _,ai.alloc HC.out.2 _⟩ ?_;have uV:jA (3*k)=2:=by simp[jA]
   refine jY (i:=14) Ah rfl λK hK=>?_;refine OP QV _ rfl _ _ rfl (n0) (.slice p0 (b3 rs n (3*k)).length r0) (b3 rs n (3*k)).length (b3 rs n (3*k)) ((OM AX).trans (AS DR)) (by have h:=H.out.gu.at VF.out;rw[show(jA (3*k))=2 from uV]at h;exact World.ownsRow.alloc (w:=wr.drew) h _) wr.heap.size (.I O) (AS DR) (mj (vaz wr.drew _) rfl rfl) rfl (by have:=AT rs n (3*k);omega) (by have:=AT rs n (3*k);omega) (by have:=vad El.out U.out.size;simp;omega) ?_;intro g c W2 D B cX;obtain⟨y,s,t,rT,L2,uU,uR,Pp⟩:=iD.OQ (N:=n0) H.out (j:=3*k) AP (xs:=b3 rs n (3*k)) (vbq AP) uV VF.out D B cX AP (vad El.out U.out.size) (o:=k*5+2) AP;have cK:=s _ _ _ Q.out.1 l8.out.1;have nN:=s _ _ _ Q.out.2.1 l8.out.2.1;have AW:=s _ _ _ Q.out.2.2 l8.out.2.2;have a8:=s _ _ _ (H.out.nA tk.out KK) tk.out;have axZ:f.heap.size+1<wr.heap.size:=l8.out.2.2.lt;have m:Hid (ai W2 (l) #[.S b 0 4 4] 27/\ai W2 (f.heap.size+1) #[.I (kB rs[n].1),.I (gt rs[n].2.1),.I (gt rs[n].2.2.1)] 2):=⟨rT,AW⟩;refine hK _ _ m.out ?_;clear hK K;have X:W2.cell? (.a b (k*5+2))=some (.slice p0 (b3 rs n (3*k)).length r0):=(t.rules.1 _).trans VG.out;have Y:=t.rules.2;refine jY (i:=15) Ah rfl λK hK=>?_;go_simp
   refine hK _ _ m.out ?_;clear hK K;refine jY (i:=16) Ah rfl λK hK=>?_;go_simp
   refine hK _ _ m.out ?_;clear hK K;refine jY (i:=17) Ah rfl λK hK=>?_;go_simp
   refine hK _ _ ⟨ai.gx m.out.1 Aq _,ai.gx m.out.2 Aq _⟩ ?_;clear hK K;refine FQ Ah ?_ _;have KG:=cK.gx (a:=⟨b,k*5+2,none⟩) Aq (.S g 0 ((b3 rs n (3*k)).length+1) c);have G6:=nN.gx (a:=⟨b,k*5+2,none⟩) Aq (.S g 0 ((b3 rs n (3*k)).length+1) c);have G7:=AW.gx (a:=⟨b,k*5+2,none⟩) Aq (.S g 0 ((b3 rs n (3*k)).length+1) c);have E:=a8.gx (a:=⟨b,k*5+2,none⟩) Aq (.S g 0 ((b3 rs n (3*k)).length+1) c);have qF:Below n0 w0 (W2.setCell ⟨b,k*5+2,none⟩ (.S g 0 ((b3 rs n (3*k)).length+1) c)):=(U.out.trans y).setCell (p:=⟨b,k*5+2,none⟩) AP _;have uQ:h5 L2 q/\h5 L2 (f.heap.size)/\h5 L2 (f.heap.size+1):=⟨Pp _ AP Q.out.1,Pp _ AP Q.out.2.1,Pp _ AP Q.out.2.2⟩;have aFT:f.heap.size+1<(W2.setCell ⟨b,k*5+2,none⟩ (.S g 0 ((b3 rs n (3*k)).length+1) c)).heap.size:=G7.lt;clear z X Y m HC cK nN AW a8 y s t rT Pp D B cX H l8 tk U Q VF VG;generalize W2.setCell ⟨b,k*5+2,none⟩ (.S g 0 ((b3 rs n (3*k)).length+1) c)=oH at *;clear axZ W2;have iJ:=axW.out _ G6;have T:Hid (iD (n0) (b) (l) _ oH L2 uU):=uR;have Pq:Hid _:=(⟨KG,G6,G7⟩:_/\_/\_);have VH:Hid _:=E;have qv:Hid _:=qF;have Em:Hid _:=uQ;clear uR KG G6 G7 E qF uQ;gi_wp2_with (refine⟨PJ,(callsIn_wide.2 (vY I hI _)).mono ?_⟩;rintro e x ⟨rfl,rfl⟩)
   clear iJ;obtain⟨ax0,kH,VI⟩:=T.out.at_ (3*k+2) AP;rw[show(3*k+2) / 3*5+2+(3*k+2) % 3=k*5+4 by omega]at VI;have oG:(if 3*k+2=3*k then b3 rs n (3*k)++[.I O]else if(3*k+2) / 3<k then b3 rs (n+1) (3*k+2)else b3 rs n (3*k+2))=b3 rs n (3*k+2):=by rw[vbq AP,vbq AP]
   simp only[oG]at kH;obtain⟨p2,r2,rfl⟩:=h9 (show x.ownsRow _ (jA (3*k+2)) 1 ax0 (b3 rs n (3*k+2)).length _ from T.out.gu.at kH);have Cj:Hid _:=kH;have VJ:Hid _:=VI;have zH:Hid _:=oG;clear kH VI oG;refine wpIn_region_any Ah (FP (C:=λW=>ai W (l) #[.S b 0 4 4] 27) _ _ _ _ ?_);have HC:Hid (ai x.drew (l) #[.S b 0 4 4] 27):=T.out.bt;refine h7 (i:=0) (v:=.P l 0) rfl rfl Ah Ah Ah Je HC.out ⟨BJ,λW d=>Ap,λc=>Ad,λ_=>rfl⟩ ?_;refine h7 (i:=3) (v:=.P l 0) rfl rfl Ah Ah Ah Je HC.out ⟨BJ,λW d=>Ap,λc=>Ad,λ_=>rfl⟩ ?_;refine h7 (i:=2) (v:=.I k) rfl rfl Ah Ah Ah Je HC.out ⟨BJ,λW d=>Ap,λc=>Ad,λ_=>rfl⟩ ?_;refine h7 (i:=5) (v:=.I k) rfl rfl Ah Ah Ah Je HC.out ⟨BJ,λW d=>Ap,λc=>Ad,λ_=>rfl⟩ ?_;refine h7 (i:=9) (v:=.bool (h6 I)) rfl rfl Ah Ah Ah Je HC.out ⟨BJ,λW d=>Ap,λc=>Ad,λ_=>rfl⟩ ?_;refine h7 (i:=1) (v:=.S b 0 4 4) rfl rfl Ah Ah Ah Je HC.out ⟨BJ,λW d=>B7,λc=>Ad,λ_=>rfl⟩ ?_;refine h7 (i:=4) (v:=.S b 0 4 4) rfl rfl Ah Ah Ah Je HC.out ⟨BJ,λW d=>B7,λc=>Ad,λ_=>rfl⟩ ?_;refine h7 (i:=6) (v:=.P b (k*5)) rfl rfl Ah Ah Ah Je HC.out ⟨BJ,λW d=>Ap,λc=>Ad,λ_=>rfl⟩ ?_;refine h7 (i:=7) (v:=.P b (k*5+4)) rfl rfl Ah Ah Ah Je HC.out ⟨BJ,λW d=>Ap,λc=>Ad,λ_=>rfl⟩ ?_;have z:x.drew.cell? (.a b (k*5+4))=some (.slice p2 (b3 rs n (3*k+2)).length r2):=(T.out.box.rules.1 _).trans VJ.out;refine OO (i:=8) (j:=10) (v:=.slice p2 (b3 rs n (3*k+2)).length r2) (u:=.S x.heap.size 0 1 1) (w1:=x.drew.alloc (.cells #[.bool (h6 I)] 4)) Ah Ah Ah rfl rfl AX rfl rfl AX ⟨rfl,rfl⟩ (λc=>⟨Ad,Ad⟩) (λ_ _=>⟨rfl,rfl⟩) Ap Ap Ap (by have g1:(x.alloc (.cells #[.bool (h6 I)] 4)).drew.cell? (.a b (k*5+4))=_:=a3.qK z (.cells #[.bool (h6 I)] 4);go_simp) HC.out (ai.alloc HC.out _) ?_;have uL:jA (3*k+2)=4:=by simp[jA]
   refine jY (i:=11) Ah rfl λK hK=>?_;refine OP H5 _ rfl _ _ rfl (n0) (.slice p2 (b3 rs n (3*k+2)).length r2) (b3 rs n (3*k+2)).length (b3 rs n (3*k+2)) ((OM AX).trans (AS DR)) (by have h:=T.out.gu.at Cj.out;rw[show(jA (3*k+2))=4 from uL]at h;exact World.ownsRow.alloc (w:=x.drew) h _) x.heap.size (.bool (h6 I)) (AS DR) (mj (vaz x.drew _) rfl rfl) rfl (by have:=AT rs n (3*k+2);omega) (by have:=AT rs n (3*k+2);omega) (by have:=AP;simp;omega) ?_;intro g' Z r D B cX;obtain⟨y,s,t,rT,KH,uG,uE,Pr⟩:=iD.OQ (N:=n0) T.out (j:=3*k+2) AP (xs:=b3 rs n (3*k+2)) zH.out uL Cj.out D B cX AP AP (o:=k*5+4) AP;have cK:=s _ _ _ Em.out.1 Pq.out.1;have nN:=s _ _ _ Em.out.2.1 Pq.out.2.1;have AW:=s _ _ _ Em.out.2.2 Pq.out.2.2;have a8:=s _ _ _ (T.out.nA VH.out KK) VH.out;refine hK _ _ rT ?_;clear hK K;have X:r.cell? (.a b (k*5+4))=some (.slice p2 (b3 rs n (3*k+2)).length r2):=(t.rules.1 _).trans VJ.out;have Y:=t.rules.2;have m:Hid (ai r (l) #[.S b 0 4 4] 27):=rT;refine jY (i:=12) Ah rfl λK hK=>?_;go_simp
   refine hK _ _ m.out ?_;clear hK K;refine jY (i:=13) Ah rfl λK hK=>?_;go_simp
   refine hK _ _ m.out ?_;clear hK K;refine jY (i:=14) Ah rfl λK hK=>?_;go_simp
   refine hK _ _ (ai.gx m.out Aq _) ?_;clear hK K;refine FQ Ah ?_ _;have KG:=cK.gx (a:=⟨b,k*5+4,none⟩) AA (.S g' 0 ((b3 rs n (3*k+2)).length+1) Z);have G6:=nN.gx (a:=⟨b,k*5+4,none⟩) AA (.S g' 0 ((b3 rs n (3*k+2)).length+1) Z);have G7:=AW.gx (a:=⟨b,k*5+4,none⟩) AA (.S g' 0 ((b3 rs n (3*k+2)).length+1) Z);have E:=a8.gx (a:=⟨b,k*5+4,none⟩) AA (.S g' 0 ((b3 rs n (3*k+2)).length+1) Z);have qG:Below n0 w0 (r.setCell ⟨b,k*5+4,none⟩ (.S g' 0 ((b3 rs n (3*k+2)).length+1) Z)):=(qv.out.trans y).setCell (p:=⟨b,k*5+4,none⟩) AP _;have uC:h5 KH q/\h5 KH (f.heap.size)/\h5 KH (f.heap.size+1):=⟨Pr _ AP Em.out.1,Pr _ AP Em.out.2.1,Pr _ AP Em.out.2.2⟩;have vH:Hid (iD (n0) (b) (l) _ (r.setCell ⟨b,k*5+4,none⟩ (.S g' 0 ((b3 rs n (3*k+2)).length+1) Z)) KH uG):=uE;have Ps:Hid _:=And.intro E (And.intro qG (And.intro (And.intro KG (And.intro G6 G7)) uC));clear z X Y m HC cK nN AW a8 y s t rT Pr D B cX T Pq VH qv Em Cj VJ uE E qG KG G6 G7 uC;generalize r.setCell ⟨b,k*5+4,none⟩ (.S g' 0 ((b3 rs n (3*k+2)).length+1) Z)=F8 at *;clear r;gi_wp2
   go_roundw
   case rel=>
    refine⟨k+1,KH,uG,AP,Ad,vH.out.congr λj hj=>?_,Ps.out.1,Ps.out.2.1,Ps.out.2.2.1,Ps.out.2.2.2⟩;by_cases e2:j=3*k+2
    .subst e2;rw[vby rfl,vby AP,Eg rs xI,VD.out.2.2]
    .rw[vbq e2];by_cases e0:j=3*k
     .subst e0;rw[vby rfl,vby AP,Eg rs xI,VD.out.1]
     .rw[vbq e0];by_cases e1:j=3*k+1
      .subst e1;rw[vbq AP,vby AP,Eg rs xI,VD.out.2.1,vcb]
      .by_cases e3:j / 3<k
       .rw[vby e3,vby AP]
       .rw[vbq e3,vbq AP]
   case measure=>simp[intOf];omega
  .obtain rfl:k=3:=by omega
   clear q8 G5 cf;obtain⟨f1,ir,f3⟩:=R.all;have tk:Hid _:=gw;have U:Hid _:=bY;have Q:Hid _:=Pn;have uB:Hid _:=R;clear R sV KA gw bY Pn VC;gi_wp2_with (first|(refine⟨PJ,(callsIn_wide.2 (atp _ i3 _)).mono ?_⟩;rintro e x ⟨rfl,jv⟩;apply sf))
   unfold j8;have R:=ai.call uB.out jv;have uz:=H.out.below jv;have h4:=ai.call tk.out jv;have y7:Below n0 w0 x:=U.out.trans (jv.mono (vad El.out U.out.size));clear f1 ir f3 jv uB tk U H;obtain⟨f1,ir,f3⟩:=R.all;have P:Hid (iD (n0) (b) (l) _ x FF cs1):=uz;have G5:Hid _:=h4;have nB:Hid _:=y7;clear uz h4 y7 R;gi_wp2_with (refine⟨PJ,(callsIn_wide.2 (vY _ i3 _)).mono ?_⟩;rintro e r ⟨rfl,rfl⟩)
   clear f1 ir f3;obtain⟨ax1,Pt,rp⟩:=P.out.at_ 10 AP;have lv:(if 10 / 3<3 then b3 rs (n+1) 10 else b3 rs n 10)=b3 rs n 10:=by rw[vbq AP]
   simp at Pt;obtain⟨Pu,Pv,rfl⟩:=h9 (show r.ownsRow _ (jA 10) 1 ax1 (b3 rs n 10).length _ from P.out.gu.at Pt);have VK:Hid _:=Pt;have VL:Hid (cs1[18]?=some _):=rp;have lp:Hid _:=lv;clear Pt rp lv;refine wpIn_region_any Ah (FP (C:=λW=>ai W (l) #[.S b 0 4 4] 27) _ _ _ _ ?_);have HC:Hid (ai r.drew (l) #[.S b 0 4 4] 27):=P.out.bt;refine h7 (i:=0) (v:=.P l 0) rfl rfl Ah Ah Ah Je HC.out ⟨BJ,λW d=>Ap,λc=>Ad,λ_=>rfl⟩ ?_;refine h7 (i:=2) (v:=.P l 0) rfl rfl Ah Ah Ah Je HC.out ⟨BJ,λW d=>Ap,λc=>Ad,λ_=>rfl⟩ ?_;refine h7 (i:=7) (v:=.string (o9 rs[n].2.2.2)) rfl rfl Ah Ah Ah Je HC.out ⟨BJ,λW d=>Ap,λc=>Ad,λ_=>rfl⟩ ?_;refine h7 (i:=1) (v:=.S b 0 4 4) rfl rfl Ah Ah Ah Je HC.out ⟨BJ,λW d=>B7,λc=>Ad,λ_=>rfl⟩ ?_;refine h7 (i:=3) (v:=.S b 0 4 4) rfl rfl Ah Ah Ah Je HC.out ⟨BJ,λW d=>B7,λc=>Ad,λ_=>rfl⟩ ?_;refine h7 (i:=4) (v:=.P b 15) rfl rfl Ah Ah Ah Je HC.out ⟨BJ,λW d=>Ap,λc=>Ad,λ_=>rfl⟩ ?_;refine h7 (i:=5) (v:=.P b 18) rfl rfl Ah Ah Ah Je HC.out ⟨BJ,λW d=>Ap,λc=>Ad,λ_=>rfl⟩ ?_;have z:r.drew.cell? (.a b 18)=some (.slice Pu (b3 rs n 10).length Pv):=(P.out.box.rules.1 _).trans VL.out;refine OO (i:=6) (j:=8) (v:=.slice Pu (b3 rs n 10).length Pv) (u:=.S r.heap.size 0 1 1) (w1:=r.drew.alloc (.cells #[.string (o9 rs[n].2.2.2)] 9)) Ah Ah Ah rfl rfl AX rfl rfl AX ⟨rfl,rfl⟩ (λc=>⟨Ad,Ad⟩) (λ_ _=>⟨rfl,rfl⟩) Ap Ap Ap (by have g1:(r.alloc (.cells #[.string (o9 rs[n].2.2.2)] 9)).drew.cell? (.a b 18)=_:=a3.qK z (.cells #[.string (o9 rs[n].2.2.2)] 9);go_simp) HC.out (ai.alloc HC.out _) ?_;refine jY (i:=9) Ah rfl λK hK=>?_;refine OP QW _ rfl _ _ rfl (n0) (.slice Pu (b3 rs n 10).length Pv) (b3 rs n 10).length (b3 rs n 10) ((OM AX).trans (AS DR)) (World.ownsRow.alloc (w:=r.drew) (show r.ownsRow _ 9 1 _ (b3 rs n 10).length _ from P.out.gu.at VK.out) _) r.heap.size (.string (o9 rs[n].2.2.2)) (AS DR) (mj (vaz r.drew _) rfl rfl) rfl (by grind[AT]) (by grind[AT]) (by have:=vad El.out nB.out.size;simp;omega) ?_;intro Pw Px G8 D B cX;obtain⟨y,s,t,rT,L7,lh,KI,-⟩:=iD.OQ (N:=n0) P.out (j:=10) AP (xs:=b3 rs n 10) lp.out rfl VK.out D B cX AP (vad El.out nB.out.size) (o:=18) AP;have a8:=s _ _ _ (P.out.nA G5.out KK) G5.out;refine hK _ _ rT ?_;clear hK K;have X:G8.cell? (.a b 18)=some (.slice Pu (b3 rs n 10).length Pv):=(t.rules.1 _).trans VL.out;have Y:=t.rules.2;have m:Hid (ai G8 (l) #[.S b 0 4 4] 27):=rT;refine jY (i:=10) Ah rfl λK hK=>?_;go_simp
   refine hK _ _ m.out ?_;clear hK K;refine jY (i:=11) Ah rfl λK hK=>?_;go_simp
   refine hK _ _ m.out ?_;clear hK K;refine jY (i:=12) Ah rfl λK hK=>?_;go_simp
   refine hK _ _ (ai.gx m.out AA _) ?_;clear hK K;refine FQ Ah ?_ _;have E:=a8.gx (a:=⟨b,18,none⟩) AA (.S Pw 0 ((b3 rs n 10).length+1) Px);have KJ:Below n0 w0 (G8.setCell ⟨b,18,none⟩ (.S Pw 0 ((b3 rs n 10).length+1) Px)):=(nB.out.trans y).setCell (p:=⟨b,18,none⟩) AP _;have V:Hid (iD (n0) (b) (l) _ (G8.setCell ⟨b,18,none⟩ (.S Pw 0 ((b3 rs n 10).length+1) Px)) L7 lh):=KI;have VM:Hid _:=E;have Py:Hid _:=KJ;clear z X Y m HC a8 y s t rT D B cX P VK VL lp KI E KJ G5 nB;generalize G8.setCell ⟨b,18,none⟩ (.S Pw 0 ((b3 rs n 10).length+1) Px)=F at *;clear G8;gi_wp2
   obtain⟨ax2,Pz,kV⟩:=V.out.at_ 11 AP;have kO:(if 11=10 then b3 rs n 10++[.string (o9 rs[n].2.2.2)]else if 11 / 3<3 then b3 rs (n+1) 11 else b3 rs n 11)=b3 rs n 11:=by rw[vbq AP,vbq AP]
   simp at Pz;obtain⟨PA,PB,rfl⟩:=h9 (show F.ownsRow _ (jA 11) 1 ax2 (b3 rs n 11).length _ from V.out.gu.at Pz);have VN:Hid _:=Pz;have VO:Hid (lh[19]?=some _):=kV;have kv:Hid _:=kO;clear Pz kV kO;refine wpIn_region_any Ah (FP (C:=λW=>ai W (l) #[.S b 0 4 4] 27) _ _ _ _ ?_);have HC:Hid (ai F.drew (l) #[.S b 0 4 4] 27):=V.out.bt;refine h7 (i:=0) (v:=.P l 0) rfl rfl Ah Ah Ah Je HC.out ⟨BJ,λW d=>Ap,λc=>Ad,λ_=>rfl⟩ ?_;refine h7 (i:=2) (v:=.P l 0) rfl rfl Ah Ah Ah Je HC.out ⟨BJ,λW d=>Ap,λc=>Ad,λ_=>rfl⟩ ?_;refine h7 (i:=7) (v:=.bool (h6 rs[n].2.2.2)) rfl rfl Ah Ah Ah Je HC.out ⟨BJ,λW d=>Ap,λc=>Ad,λ_=>rfl⟩ ?_;refine h7 (i:=1) (v:=.S b 0 4 4) rfl rfl Ah Ah Ah Je HC.out ⟨BJ,λW d=>B7,λc=>Ad,λ_=>rfl⟩ ?_;refine h7 (i:=3) (v:=.S b 0 4 4) rfl rfl Ah Ah Ah Je HC.out ⟨BJ,λW d=>B7,λc=>Ad,λ_=>rfl⟩ ?_;refine h7 (i:=4) (v:=.P b 15) rfl rfl Ah Ah Ah Je HC.out ⟨BJ,λW d=>Ap,λc=>Ad,λ_=>rfl⟩ ?_;refine h7 (i:=5) (v:=.P b 19) rfl rfl Ah Ah Ah Je HC.out ⟨BJ,λW d=>Ap,λc=>Ad,λ_=>rfl⟩ ?_;have z:F.drew.cell? (.a b 19)=some (.slice PA (b3 rs n 11).length PB):=(V.out.box.rules.1 _).trans VO.out;refine OO (i:=6) (j:=8) (v:=.slice PA (b3 rs n 11).length PB) (u:=.S F.heap.size 0 1 1) (w1:=F.drew.alloc (.cells #[.bool (h6 rs[n].2.2.2)] 4)) Ah Ah Ah rfl rfl AX rfl rfl AX ⟨rfl,rfl⟩ (λc=>⟨Ad,Ad⟩) (λ_ _=>⟨rfl,rfl⟩) Ap Ap Ap (by have g1:(F.alloc (.cells #[.bool (h6 rs[n].2.2.2)] 4)).drew.cell? (.a b 19)=_:=a3.qK z (.cells #[.bool (h6 rs[n].2.2.2)] 4);go_simp) HC.out (ai.alloc HC.out _) ?_;refine jY (i:=9) Ah rfl λK hK=>?_;refine OP H5 _ rfl _ _ rfl (n0) (.slice PA (b3 rs n 11).length PB) (b3 rs n 11).length (b3 rs n 11) ((OM AX).trans (AS DR)) (World.ownsRow.alloc (w:=F.drew) (show F.ownsRow _ 4 1 _ (b3 rs n 11).length _ from V.out.gu.at VN.out) _) F.heap.size (.bool (h6 rs[n].2.2.2)) (AS DR) (mj (vaz F.drew _) rfl rfl) rfl (by grind[AT]) (by grind[AT]) (by have:=vad El.out Py.out.size;simp;omega) ?_;intro PC PD G9 D B cX;obtain⟨y,s,t,rT,kn,kl,KI,-⟩:=iD.OQ (N:=n0) V.out (j:=11) AP (xs:=b3 rs n 11) kv.out rfl VN.out D B cX AP (vad El.out Py.out.size) (o:=19) AP;have a8:=s _ _ _ (V.out.nA VM.out KK) VM.out;refine hK _ _ rT ?_;clear hK K;have X:G9.cell? (.a b 19)=some (.slice PA (b3 rs n 11).length PB):=(t.rules.1 _).trans VO.out;have Y:=t.rules.2;have m:Hid (ai G9 (l) #[.S b 0 4 4] 27):=rT;refine jY (i:=10) Ah rfl λK hK=>?_;go_simp
   refine hK _ _ m.out ?_;clear hK K;refine jY (i:=11) Ah rfl λK hK=>?_;go_simp
   refine hK _ _ m.out ?_;clear hK K;refine jY (i:=12) Ah rfl λK hK=>?_;go_simp
   refine hK _ _ (ai.gx m.out AA _) ?_;clear hK K;refine FQ Ah ?_ _;have E:=a8.gx (a:=⟨b,19,none⟩) AA (.S PC 0 ((b3 rs n 11).length+1) PD);have KJ:Below n0 w0 (G9.setCell ⟨b,19,none⟩ (.S PC 0 ((b3 rs n 11).length+1) PD)):=(Py.out.trans y).setCell (p:=⟨b,19,none⟩) AP _;have ax3:Hid (iD (n0) (b) (l) _ (G9.setCell ⟨b,19,none⟩ (.S PC 0 ((b3 rs n 11).length+1) PD)) kn kl):=KI;have ax4:Hid _:=E;have ax5:Hid _:=KJ;clear z X Y m HC a8 y s t rT D B cX V VN VO kv KI E KJ VM Py;generalize G9.setCell ⟨b,19,none⟩ (.S PC 0 ((b3 rs n 11).length+1) PD)=aFU at *;clear G9;gi_wp2
   refine⟨rfl,⟨rfl,rfl,rfl,rfl,rfl,rfl⟩,⟨kn,kl,ax3.out.congr λj hj=>?_⟩,ax4.out,ax5.out⟩;by_cases GN:j=11
   .subst GN;rw[vby rfl,Eg rs xI];rfl
   .rw[vbq GN];by_cases Ei:j=10
    .subst Ei;rw[vby rfl,Eg rs xI];rfl
    .rw[vbq Ei];by_cases Eh:j / 3<3
     .rw[vby Eh]
     .obtain rfl:j=9:=by omega
      rw[vbq Eh,Eg rs xI,show vK rs[n] 9=[]from rfl,vcb]
end
end eC
namespace a3
open Conc ConcM RowKit ax bp cI dm bS cq eC
section
variable{n0:Nat}
def PE{a:Act}(h:a.tmps.size=123)(hd:a.defers=[]):∃f:Nat->Value,a=⟨#[f 0,f 1,f 2,f 3,f 4,f 5,f 6,f 7,f 8,f 9,f 10,f 11,f 12,f 13,f 14,f 15,f 16,f 17,f 18,f 19,f 20,f 21,f 22,f 23,f 24,f 25,f 26,f 27,f 28,f 29,f 30,f 31,f 32,f 33,f 34,f 35,f 36,f 37,f 38,f 39,f 40,f 41,f 42,f 43,f 44,f 45,f 46,f 47,f 48,f 49,f 50,f 51,f 52,f 53,f 54,f 55,f 56,f 57,f 58,f 59,f 60,f 61,f 62,f 63,f 64,f 65,f 66,f 67,f 68,f 69,f 70,f 71,f 72,f 73,f 74,f 75,f 76,f 77,f 78,f 79,f 80,f 81,f 82,f 83,f 84,f 85,f 86,f 87,f 88,f 89,f 90,f 91,f 92,f 93,f 94,f 95,f 96,f 97,f 98,f 99,f 100,f 101,f 102,f 103,f 104,f 105,f 106,f 107,f 108,f 109,f 110,f 111,f 112,f 113,f 114,f 115,f 116,f 117,f 118,f 119,f 120,f 121,f 122],[]⟩:=by
 obtain⟨l,ds⟩:=a;have hd:ds=[]:=hd;subst hd;have h:l.size=123:=h;refine⟨λi=>l.getD i undef,?_⟩;have b:l.toList=(List.range 123).map λi=>l.getD i undef:=by
  apply List.ext_getElem
  .grind
  simp_all
 have d:List.range 123=[0,1,2,3,4,5,6,7,8,9,10,11,12,13,14,15,16,17,18,19,20,21,22,23,24,25,26,27,28,29,30,31,32,33,34,35,36,37,38,39,40,41,42,43,44,45,46,47,48,49,50,51,52,53,54,55,56,57,58,59,60,61,62,63,64,65,66,67,68,69,70,71,72,73,74,75,76,77,78,79,80,81,82,83,84,85,86,87,88,89,90,91,92,93,94,95,96,97,98,99,100,101,102,103,104,105,106,107,108,109,110,111,112,113,114,115,116,117,118,119,120,121,122]:=AJ;rw[d]at b;simp only[vdg,List.map_nil]at b;have c:l=l.toList.toArray:=Ad;rw[b]at c;grind
def G_(f:Func):Code:=.seq (.seq (.region 3 (dw f 3) false) (.cond (.tmp 28) .skip (.exit 0))) (.seq (.block 1 (.seq (.region 5 (dw f 5) false) (sU f 5))) (.region 4 (av f 4) false))
def En(f:Func):List Item:=[.inLoop (G_ f),.inBlock 0,.code (.seq (.region 18 (dw f 18) false) .ret)]
def pg(f:Func):List Item:=.code (.cond (.tmp 28) .skip (.exit 0)):: .code (.seq (.block 1 (.seq (.region 5 (dw f 5) false) (sU f 5))) (.region 4 (av f 4) false))::En f
def Eo(f:Func):List Item:=.code (sU f 5):: .inBlock 1:: .code (.region 4 (av f 4) false)::En f
theorem ax6:AF Tryz.f4=.seq (.region 0 (dw Tryz.f4 0) false) (.seq (.region 1 (dw Tryz.f4 1) false) (.seq (.seq (.region 2 (dw Tryz.f4 2) false) (.block 0 (.loop (G_ Tryz.f4)))) (.seq (.region 18 (dw Tryz.f4 18) false) .ret))):=by kernel_rfl
def iE(n0:Nat)(rs:List fA)(n:Nat):List (Nat×(aS->Value->Prop)):=[(1,eB (.I 15)),(4,Ek n0),(5,Ej n0 (b3 rs n)),(6,eB (.I n))]
theorem Ha(rs:List fA)(n:Nat):∀p∈iE n0 rs n,kg n0 p.2:=by intro p a;simp[iE]at a;grind[Ak,awr,aws,awv]
end
section
variable{n0:Nat}
def ax7(rs:List fA)(w:aS)(hn:n0<=w.heap.size):bI (ae prog true) [.code (AF Tryz.f4)] (.R (dw Tryz.f4 3) (List.range' 1 8)::pg Tryz.f4) (λa1 w1=>a1.defers=[]/\oY 123 ((20,eB (.I 0))::iE n0 rs 0) a1 w1/\Below n0 w w1)
 ⟨#[undef,.I 15]++Array.replicate 121 undef,[]⟩ w:=by
 have a:iD n0 (w.heap.size+1) (w.heap.size+2) (b3 rs 0) (((w.alloc (.cells #[.N] 27)).alloc (.cells #[.I 1,.I 0,.N,.N,.N,.I 1,.I 0,.N,.N,.N,.I 2,.I 2,.N,.N,.N,.I 3,.I 0,.N,.N,.N] 53)).alloc (.cells #[.S (w.heap.size+1) 0 4 4] 27)) ((List.range 12).map λi=>⟨jA i,.N,[]⟩) #[.I 1,.I 0,.N,.N,.N,.I 1,.I 0,.N,.N,.N,.I 2,.I 2,.N,.N,.N,.I 3,.I 0,.N,.N,.N]:=by
  refine⟨?_,Ad,?_,Y,λc x hc=>?_,λj f=>⟨.N,?_,?_⟩,?_,AP,AP⟩
  .refine⟨λi hi=>?_,λi j hi f g l hg=>?_⟩
   .grind[World.ownsRow_nil]
   grind[Value.ownBlock]
  .have:=(ai.new (w.alloc (.cells #[.N] 27)) #[.I 1,.I 0,.N,.N,.N,.I 1,.I 0,.N,.N,.N,.I 2,.I 2,.N,.N,.N,.I 3,.I 0,.N,.N,.N] 53).alloc (.cells #[.S (w.heap.size+1) 0 4 4] 27);simp_all
  .simp at hc;rcases hc with⟨rfl,rfl⟩|⟨rfl,rfl⟩|⟨rfl,rfl⟩|⟨rfl,rfl⟩|⟨rfl,rfl⟩|⟨rfl,rfl⟩|⟨rfl,rfl⟩|⟨rfl,rfl⟩<;>rfl
  .simp[f,b3]
  .have n:j=0\/j=1\/j=2\/j=3\/j=4\/j=5\/j=6\/j=7\/j=8\/j=9\/j=10\/j=11:=by omega
   rcases n with rfl|rfl|rfl|rfl|rfl|rfl|rfl|rfl|rfl|rfl|rfl|rfl<;>rfl
  .have:=ai.new ((w.alloc (.cells #[.N] 27)).alloc (.cells #[.I 1,.I 0,.N,.N,.N,.I 1,.I 0,.N,.N,.N,.I 2,.I 2,.N,.N,.N,.I 3,.I 0,.N,.N,.N] 53)) #[.S (w.heap.size+1) 0 4 4] 27;simp_all
 have d:cJ w (((w.alloc (.cells #[.N] 27)).alloc (.cells #[.I 1,.I 0,.N,.N,.N,.I 1,.I 0,.N,.N,.N,.I 2,.I 2,.N,.N,.N,.I 3,.I 0,.N,.N,.N] 53)).alloc (.cells #[.S (w.heap.size+1) 0 4 4] 27)):=(((vaa _ w).alloc JT _).alloc Ad _).alloc Aq _;have b:ai (((w.alloc (.cells #[.N] 27)).alloc (.cells #[.I 1,.I 0,.N,.N,.N,.I 1,.I 0,.N,.N,.N,.I 2,.I 2,.N,.N,.N,.I 3,.I 0,.N,.N,.N] 53)).alloc (.cells #[.S (w.heap.size+1) 0 4 4] 27)) w.heap.size #[.N] 27:=((ai.new w _ _).alloc _).alloc _;have h:Hid _:=a;have m:Hid _:=d;have k:Hid _:=b;clear a d b;rw[ax6];simp only[dw,av,pa,sU,AF,G_,pg,Eo,Tryz.f4,vae,bM.dW,bM.k0,bM.oo,Nat.reduceBEq,vah,↓reduceIte,En];simp[vce];refine bm (Cu ?_);go_wp2
 refine⟨Y,bm (Cu ?_)⟩;go_wp2
 refine⟨Y,bm (bm (Cu ?_))⟩;go_wp2
 refine⟨Y,ln (wM (bm (bm (sI (Jt 1 AX AX ?_)))))⟩;simp only[vdx,vdo,veo];go_wp2
 refine⟨Y,kf ⟨Y,⟨Y,λp e=>?_⟩,m.out.mono hn⟩⟩;simp only[iE,vbn,vcy,or_false]at e;rcases e with rfl|rfl|rfl|rfl|rfl
 .exact⟨_,Y,Y⟩
 .exact⟨_,Y,Y⟩
 .exact⟨_,Y,_,Y,hn,k.out⟩
 .exact⟨_,Y,_,_,_,_,Y,h.out⟩
 .exact⟨_,Y,Y⟩
end
section
variable{n0:Nat}
def ax8(rs:List fA)(n:Nat)(I:n<rs.length)(H:n<15)(a:Act)(w:aS)(hd:a.defers=[])(hs:oY 123 ((20,eB (.I n))::(22,eB (.I rs.length))::iE n0 rs n) a w):bI (ae prog true) (.R (dw Tryz.f4 3) (List.range' 3 6)::pg Tryz.f4) (.R (dw Tryz.f4 5) (List.range' 0 6)::Eo Tryz.f4) (λa1 w1=>a1.defers=[]/\oY 123 (iE n0 rs n) a1 w1/\Below n0 w w1) a w:=by
 obtain⟨hsz,b⟩:=hs;obtain⟨v20,s,A⟩:=b (20,eB (.I n)) Ad;obtain⟨v22,r,z⟩:=b (22,eB (.I rs.length)) Ad;obtain⟨v1,l,x⟩:=b (1,eB (.I 15)) DH;obtain⟨D,k,g⟩:=b (4,Ek n0) DH;obtain⟨C,j,m⟩:=b (5,Ej n0 (b3 rs n)) DH;obtain⟨v,i,y⟩:=b (6,eB (.I n)) DH;have B:Hid _:=g;have u:Hid _:=m;clear b g m;obtain rfl:v20=.I n:=A;obtain rfl:v22=.I rs.length:=z;obtain rfl:v1=.I 15:=x;obtain rfl:v=.I n:=y;obtain⟨f,rfl⟩:=PE hsz hd;have q:f 20=_:=van (show some (f 20)=some _ from s);have o:f 22=_:=van (show some (f 22)=some _ from r);have g1:f 1=_:=van (show some (f 1)=some _ from l);have c:f 6=_:=van (show some (f 6)=some _ from i);have h:f 4=_:=van (show some (f 4)=some _ from k);have d:f 5=_:=van (show some (f 5)=some _ from j);clear s r l i k j hsz hd;simp[q,o,g1,c,h,d];clear q o g1 c h d;have F:(n:Int)<(rs.length:Int):=AP;have E:(n:Int)<15:=AP;simp only[dw,av,pa,sU,AF,G_,pg,Eo,Tryz.f4,vae,bM.dW,bM.k0,bM.oo,Nat.reduceBEq,vah,↓reduceIte,En];refine Jt 6 AX AX ?_;simp only[List.drop_succ_cons,vdx,vdo,veo];go_wp2
 refine⟨Y,wO (fj (t:=true) Y ?_)⟩;rw[vby Y];refine lN (bm (ln (bm (sI (kf ⟨Y,⟨Y,λp e=>?_⟩,vaa _ _⟩)))));simp[iE]at e;rcases e with rfl|rfl|rfl|rfl
 .exact⟨_,Y,Y⟩
 .exact⟨_,Y,B.out⟩
 .exact⟨_,Y,u.out⟩
 .exact⟨_,Y,Y⟩
end
section
variable{n0:Nat}
def zk(n0:Nat)(iC:List aG):List (Nat×(aS->Value->Prop)):=[(4,GY n0 iC),(122,ub iC)]
def ax9(rs:List fA)(n:Nat)(P:n<=rs.length)(O:n<=15)(N:¬(n<rs.length/\n<15))(a:Act)(w:aS)(hd:a.defers=[])(hs:oY 123 ((20,eB (.I n))::(22,eB (.I rs.length))::iE n0 rs n) a w):bI (ae prog true) (.R (dw Tryz.f4 3) (List.range' 3 6)::pg Tryz.f4) [.code .ret] (λa1 w1=>a1.defers=[]/\oY 123 (zk n0 (ew (rs.take 15))) a1 w1/\Below n0 w w1) a w:=by
 obtain⟨hsz,b⟩:=hs;obtain⟨v20,z,H⟩:=b (20,eB (.I n)) Ad;obtain⟨v22,y,F⟩:=b (22,eB (.I rs.length)) Ad;obtain⟨v1,u,C⟩:=b (1,eB (.I 15)) DH;obtain⟨J,s,a8,rfl,i,d⟩:=b (4,Ek n0) DH;obtain⟨I,r,bE,bt,L,cs,rfl,h⟩:=b (5,Ej n0 (b3 rs n)) DH;obtain⟨A,q,E⟩:=b (6,eB (.I n)) DH;clear b;obtain rfl:v20=.I n:=H;obtain rfl:v22=.I rs.length:=F;obtain rfl:v1=.I 15:=C;obtain rfl:A=.I n:=E;have D:rs.take n=rs.take 15:=by grind
 have dK:ke (w.setCell ⟨a8,0,none⟩ (.S bE 0 4 4)) (.S bE 0 4 4) (ew (rs.take 15)):=by rw[<-D];exact ke.kept (hM.set d (by grind[pN]) _ _) (av8 h)
 have j:Below n0 w (w.setCell ⟨a8,0,none⟩ (.S bE 0 4 4)):=(vaa _ w).setCell (p:=⟨a8,0,none⟩) i _;have u4:ai (w.setCell ⟨a8,0,none⟩ (.S bE 0 4 4)) a8 #[.S bE 0 4 4] 27:=d.set 0 _;obtain⟨f1,ir,f3⟩:=h.bt.all;obtain⟨f4,Q,f6⟩:=d.all;have c:Hid _:=dK;have BE:Hid _:=j;have g:Hid _:=u4;have e:Hid _:=i;clear dK j u4 d h i;obtain⟨f,rfl⟩:=PE hsz hd;have x:f 20=_:=van (show some (f 20)=some _ from z);have v:f 22=_:=van (show some (f 22)=some _ from y);have g1:f 1=_:=van (show some (f 1)=some _ from u);have k:f 6=_:=van (show some (f 6)=some _ from q);have o:f 4=_:=van (show some (f 4)=some _ from s);have l:f 5=_:=van (show some (f 5)=some _ from r);clear z y u q s r hsz hd;simp[x,v,g1,k,o,l];clear x v g1 k o l;simp only[dw,av,pa,sU,AF,G_,pg,Eo,Tryz.f4,vae,bM.dW,bM.k0,bM.oo,Nat.reduceBEq,vah,↓reduceIte,En];refine Jt 6 AX AX ?_;simp only[List.drop_succ_cons,vdx,vdo,veo];by_cases M:n<rs.length;all_goals
  first
   |(have B:(n:Int)<(rs.length:Int):=AP)
   |(have B:¬(n:Int)<(rs.length:Int):=AP)
  try(have K:¬(n:Int)<15:=AP)
  go_wp2
  refine⟨Y,wO (fj (t:=false) Y ?_)⟩;rw[vbq AX];refine va Y (bm (Cu ?_));go_wp2
  refine⟨Y,kf ⟨Y,⟨Y,λp m=>?_⟩,BE.out⟩⟩;simp[zk]at m;rcases m with rfl|rfl
  .exact⟨_,Y,_,_,Y,e.out,g.out,c.out⟩
  .exact⟨_,Y,_,Y,c.out⟩
end
section
variable{n0:Nat}
def ayb{P:b4}{c:Code}{ks ks':il}{Q d:uag}{a:Act}{w:aS}(h:c.wp P (jZ d) a w)(hq:∀a1 w1,d a1 w1->bI P ks ks' Q a1 w1):bI P (.code c::ks) ks' Q a w:=
 Cu λb k cs=>let⟨e,a1,w1,⟨i,g⟩,f⟩:=h b k cs;⟨e,a1,w1,⟨i,hq _ _ g⟩,f⟩
def ayc(rs:List fA)(n:Nat)(z:n<15)(a:Act)(w:aS)(hd:a.defers=[])(hs:oY 123 [(1,eB (.I 15)),(4,Ek n0),(5,Ej n0 (b3 rs (n+1))),(6,eB (.I n))] a w):bI (ae prog true) (.inBlock 1:: .code (.region 4 (av Tryz.f4 4) false)::En Tryz.f4) (.R (dw Tryz.f4 3) (List.range' 1 8)::pg Tryz.f4) (λa1 w1=>a1.defers=[]/\oY 123 ((20,eB (.I (n+1:Nat)))::iE n0 rs (n+1)) a1 w1/\w1=w) a w:=by
 obtain⟨hsz,b⟩:=hs;obtain⟨v1,m,s⟩:=b (1,eB (.I 15)) Ad;obtain⟨y,l,h⟩:=b (4,Ek n0) Ad;obtain⟨x,k,o⟩:=b (5,Ej n0 (b3 rs (n+1))) Ad;obtain⟨r,j,u⟩:=b (6,eB (.I n)) Ad;have v:Hid _:=h;have q:Hid _:=o;clear b h o;obtain rfl:v1=.I 15:=s;obtain rfl:r=.I n:=u;obtain⟨f,rfl⟩:=PE hsz hd;have g1:f 1=_:=van (show some (f 1)=some _ from m);have c:f 6=_:=van (show some (f 6)=some _ from j);have i:f 4=_:=van (show some (f 4)=some _ from l);have d:f 5=_:=van (show some (f 5)=some _ from k);clear m j l k hsz hd;simp only[g1,c,i,d];clear g1 c i d;have e:(n:Int)+1=((n+1:Nat):Int):=AP;have ze:Hid _:=e;clear e;refine tT ?_;have t:(av Tryz.f4 4).size=3:=AJ;simp only[En,pg];refine Cu ?_;have hq:av Tryz.f4 4=(av Tryz.f4 4):=rfl;simp only[av,pa,Tryz.f4,vae,Nat.reduceBEq,vah,↓reduceIte];go_wp2
 refine⟨Y,wN ?_⟩;simp only[dw,av,pa,sU,AF,G_,pg,Eo,Tryz.f4,vae,bM.dW,bM.k0,bM.oo,Nat.reduceBEq,vah,↓reduceIte];refine bm (bm (sI (Jt 1 AX AX ?_)));simp only[vdx,vdo,veo];go_wp2
 refine⟨Y,kf ⟨Y,⟨Y,λp g=>?_⟩,Y⟩⟩;simp only[iE,vbn,vcy,or_false]at g;rcases g with rfl|rfl|rfl|rfl|rfl
 .simp_all[eB]
 .exact⟨_,Y,Y⟩
 .exact⟨_,Y,v.out⟩
 .exact⟨_,Y,q.out⟩
 simp_all[eB]
end
section
variable{n0:Nat}
def ayd(rs:List fA)(n:Nat)(Z:n<rs.length)(E:n<15)(Y:cT rs[n].1)(X:cT rs[n].2.1)(W:cT rs[n].2.2.1)(V:cT rs[n].2.2.2)(a:Act)(w:aS)(hn:n0<=w.heap.size)(hd:a.defers=[])(hs:oY 123 ((34,eB (.agg #[.I rs[n].1,.I rs[n].2.1,.I rs[n].2.2.1,.I rs[n].2.2.2]))::iE n0 rs n) a w):bI (ae prog true) (.R (dw Tryz.f4 5) (List.range' 4 2)::Eo Tryz.f4) (.R (dw Tryz.f4 3) (List.range' 1 8)::pg Tryz.f4) (λa1 w1=>a1.defers=[]/\oY 123 ((20,eB (.I (n+1:Nat)))::iE n0 rs (n+1)) a1 w1/\Below n0 w w1) a w:=by
 obtain⟨hsz,b⟩:=hs;obtain⟨v34,g,v⟩:=b (34,eB (.agg #[.I rs[n].1,.I rs[n].2.1,.I rs[n].2.2.1,.I rs[n].2.2.2])) Ad;obtain⟨v1,c,U⟩:=b (1,eB (.I 15)) DH;obtain⟨v4,J,a8,rfl,M,o⟩:=b (4,Ek n0) DH;obtain⟨v5,I,bE,bt,L,cs,rfl,i⟩:=b (5,Ej n0 (b3 rs n)) DH;obtain⟨P,F,bx⟩:=b (6,eB (.I n)) DH;clear b;obtain rfl:v34=.agg #[.I rs[n].1,.I rs[n].2.1,.I rs[n].2.2.1,.I rs[n].2.2.2]:=v;obtain rfl:v1=.I 15:=U;obtain rfl:P=.I n:=bx;have m:=(vaa w.heap.size w).alloc JT (.cells #[.I rs[n].1,.I rs[n].2.1,.I rs[n].2.2.1,.I rs[n].2.2.2] 56);have A:ai (w.alloc (.cells #[.I rs[n].1,.I rs[n].2.1,.I rs[n].2.2.1,.I rs[n].2.2.2] 56)) w.heap.size #[.I rs[n].1,.I rs[n].2.1,.I rs[n].2.2.1,.I rs[n].2.2.2] 56:=ai.new w _ _;have l:=o.call m;have j:=i.below m;have z:Below n0 w (w.alloc (.cells #[.I rs[n].1,.I rs[n].2.1,.I rs[n].2.2.1,.I rs[n].2.2.2] 56)):=m.mono hn;have O:h5 L w.heap.size:=i.gu.nA AA;have y:bE≠w.heap.size:=by have:=i.box.lt;omega
 have x:bE≠a8:=λe=>by have c:=i.box;rw[e]at c;have K:w.heap[a8]?=some (.cells cs 53):=c;rw[show w.heap[a8]?=some (.cells #[.N] 27)from o]at K;cases K
 have KF:Hid _:=A;have N:Hid _:=l;have u:Hid _:=j;have cf:Hid _:=z;have t:Hid _:=M;clear A l j z m o i M;obtain⟨f,rfl⟩:=PE hsz hd;have d:f 34=_:=van (show some (f 34)=some _ from g);have g1:f 1=_:=van (show some (f 1)=some _ from c);have B:f 6=_:=van (show some (f 6)=some _ from F);have q:f 4=_:=van (show some (f 4)=some _ from J);have C:f 5=_:=van (show some (f 5)=some _ from I);clear g c F J I hsz hd;simp only[d,g1,B,q,C];clear d g1 B q C;have step:∀(k:il)(Q:uag),bI (ae prog true) k (.R (dw Tryz.f4 3) (List.range' 1 8)::pg Tryz.f4) Q ⟨#[(f 0),.I 15,(f 2),(f 3),.P a8 0,.P bt 0,.I n,.P w.heap.size 0,(f 8),(f 9),(f 10),(f 11),(f 12),(f 13),(f 14),(f 15),(f 16),(f 17),(f 18),(f 19),(f 20),(f 21),(f 22),(f 23),(f 24),(f 25),(f 26),(f 27),(f 28),(f 29),(f 30),(f 31),(f 32),(f 33),.agg #[.I rs[n].1,.I rs[n].2.1,.I rs[n].2.2.1,.I rs[n].2.2.2],(f 35),(f 36),(f 37),(f 38),(f 39),(f 40),(f 41),(f 42),(f 43),(f 44),(f 45),(f 46),(f 47),(f 48),(f 49),(f 50),(f 51),(f 52),(f 53),(f 54),(f 55),(f 56),(f 57),(f 58),(f 59),(f 60),(f 61),(f 62),(f 63),(f 64),(f 65),(f 66),(f 67),(f 68),(f 69),(f 70),(f 71),(f 72),(f 73),(f 74),(f 75),(f 76),(f 77),(f 78),(f 79),(f 80),(f 81),(f 82),(f 83),(f 84),(f 85),(f 86),(f 87),(f 88),(f 89),(f 90),(f 91),(f 92),(f 93),(f 94),(f 95),(f 96),(f 97),(f 98),(f 99),(f 100),(f 101),(f 102),(f 103),(f 104),(f 105),(f 106),(f 107),(f 108),(f 109),(f 110),(f 111),(f 112),(f 113),(f 114),(f 115),(f 116),(f 117),(f 118),(f 119),(f 120),(f 121),(f 122)],[]⟩ (w.alloc (.cells #[.I rs[n].1,.I rs[n].2.1,.I rs[n].2.2.1,.I rs[n].2.2.2] 56))->bI (ae prog true) (.R (dw Tryz.f4 5) (List.range' 4 2)::k) (.R (dw Tryz.f4 3) (List.range' 1 8)::pg Tryz.f4) Q ⟨#[(f 0),.I 15,(f 2),(f 3),.P a8 0,.P bt 0,.I n,(f 7),(f 8),(f 9),(f 10),(f 11),(f 12),(f 13),(f 14),(f 15),(f 16),(f 17),(f 18),(f 19),(f 20),(f 21),(f 22),(f 23),(f 24),(f 25),(f 26),(f 27),(f 28),(f 29),(f 30),(f 31),(f 32),(f 33),.agg #[.I rs[n].1,.I rs[n].2.1,.I rs[n].2.2.1,.I rs[n].2.2.2],(f 35),(f 36),(f 37),(f 38),(f 39),(f 40),(f 41),(f 42),(f 43),(f 44),(f 45),(f 46),(f 47),(f 48),(f 49),(f 50),(f 51),(f 52),(f 53),(f 54),(f 55),(f 56),(f 57),(f 58),(f 59),(f 60),(f 61),(f 62),(f 63),(f 64),(f 65),(f 66),(f 67),(f 68),(f 69),(f 70),(f 71),(f 72),(f 73),(f 74),(f 75),(f 76),(f 77),(f 78),(f 79),(f 80),(f 81),(f 82),(f 83),(f 84),(f 85),(f 86),(f 87),(f 88),(f 89),(f 90),(f 91),(f 92),(f 93),(f 94),(f 95),(f 96),(f 97),(f 98),(f 99),(f 100),(f 101),(f 102),(f 103),(f 104),(f 105),(f 106),(f 107),(f 108),(f 109),(f 110),(f 111),(f 112),(f 113),(f 114),(f 115),(f 116),(f 117),(f 118),(f 119),(f 120),(f 121),(f 122)],[]⟩ w:=by
  intro k Q h;have H:Hid _:=h;clear h;simp only[dw,Tryz.f4,vae,bM.dW,bM.oo,Nat.reduceBEq,vah,↓reduceIte]at H⊢;refine Jt 2 AX AX ?_;simp only[List.drop_succ_cons,vdx,vdo,veo];go_wp2
  exact⟨rfl,wO H.out⟩
 refine step _ _ (ayb (wpIn_wide.1 (awx rs n Z E Y X W V n0 bE a8 bt w.heap.size w (w.alloc (.cells #[.I rs[n].1,.I rs[n].2.1,.I rs[n].2.2.1,.I rs[n].2.2.2] 56)) L cs hn u.out KF.out N.out cf.out O y x (f 0) (f 2) (f 3) (.P a8 0) (f 8) (f 9) (f 10) (f 11) (f 12) (f 13) (f 14) (f 15) (f 16) (f 17) (f 18) (f 19) (f 20) (f 21) (f 22) (f 23) (f 24) (f 25) (f 26) (f 27) (f 28) (f 29) (f 30) (f 31) (f 32) (f 33) (.agg #[.I rs[n].1,.I rs[n].2.1,.I rs[n].2.2.1,.I rs[n].2.2.2]) (f 35) (f 36) (f 37) (f 38) (f 39) (f 40) (f 41) (f 42) (f 43) (f 44) (f 45) (f 46) (f 47) (f 48) (f 49) (f 50) (f 51) (f 52) (f 53) (f 54) (f 55) (f 56) (f 57) (f 58) (f 59) (f 60) (f 61) (f 62) (f 63) (f 64) (f 65) (f 66) (f 67) (f 68) (f 69) (f 70) (f 71) (f 72) (f 73) (f 74) (f 75) (f 76) (f 77) (f 78) (f 79) (f 80) (f 81) (f 82) (f 83) (f 84) (f 85) (f 86) (f 87) (f 88) (f 89) (f 90) (f 91) (f 92) (f 93) (f 94) (f 95) (f 96) (f 97) (f 98) (f 99) (f 100) (f 101) (f 102) (f 103) (f 104) (f 105) (f 106) (f 107) (f 108) (f 109) (f 110) (f 111) (f 112) (f 113) (f 114) (f 115) (f 116) (f 117) (f 118) (f 119) (f 120) (f 121) (f 122))) ?_);rintro a1 w1 ⟨⟨br,bn,T,l,j,S⟩,⟨FF,cs1,r1⟩,R,r3⟩;intro s r;obtain⟨bc,w2,⟨g1,g2,eP⟩,q⟩:=ayc rs n E a1 w1 br ⟨bn,λp D=>by
  simp at D;rcases D with rfl|rfl|rfl|rfl
  .exact⟨_,T,rfl⟩
  .exact⟨_,l,a8,rfl,t.out,R⟩
  .exact⟨_,j,bE,bt,FF,cs1,rfl,r1⟩
  .exact⟨_,S,rfl⟩⟩ s r
 grind
end
variable{d:Tmp}
section
open lM
variable{O:gJ}{n0:Nat}
section
variable{P:b4}{Post:uab}{n:Nat}{Shun:uam}{w:aS}{f:uaj}{b:Act}{ops:eY}{i:Nat}{rest:uaa}{k:il}{cs:fV}{o:Oper}
def Hb(j:ops[i]?=some o)(q:o.guard=none)(hd:o.dst=some d){v:Value}{es:uao}(h:∀k',(execOp b.eval o).run P (w.at k')=.ok (.value v) (w.at k'))(l:∀k',(execOp b.eval o).events P (w.at k') #[]=es)(hs:seen P f es=es)(c:∀e∈es,oW Shun w.heap.size e)(r:deafBehind 0 es=0)(p:∀k',bP P Post n Shun 0 (a0 ((base f).at (b.put (some d) v) (.R ops rest::k)) cs) (w.at k')):bP P Post n Shun 0 (a0 ((base f).at b (.R ops (i::rest)::k)) cs) w:=by
 refine Cp Y λk'=>⟨_,w.at k',es,?_,c,vac _,by rw[r];exact p k'⟩;have g:=vbc (P:=P) (main:=true) (b:=base f) (a:=b) (k:=k) (cs:=cs) (rest:=rest) j (ya q _) (by simp[base]) (h k');have m:listed P (base f).fn b o (w.at k')=es:=by unfold listed;rw[l k'];exact hs
 rw[m,hd]at g;exact g
end
def qQ(v0:Value)(n:Nat):fi:=⟨λi=>i==0||i==21||i==31||i==33,λi=>i==0,λ_=>some v0,λt=>t==22,n⟩
def PF(v0:Value)(n:Nat){l:il}(h:l.all (hN (qQ undef 0))=true):l.all (hN (qQ v0 n))=true:=(tw (D:=qQ v0 n) (D':=qQ undef 0) Y Y Y l).trans h
def PG(v0:Value)(n:Nat):Ai prog (qQ v0 n) 4:=by
 refine⟨⟨_,func4,?_⟩,λt h=>?_,BK⟩
 .rw[results4];simp[Cr,qQ]
 grind[qQ,underlying22]
def ayj:iK prog true Tryz.f4=true:=by decide+kernel
def PH:kA prog 4:=Aj func4 ayj Y
structure nO(O:gJ)(n0:Nat)(a6:dh)(w0:aS)(D:fi)(Shun:uam)(fs:List (Nat×(aS->Value->Prop)))(a b:Act)(M:dh)(w:aS):Prop where
 held:Held O prog a6 w0 n0 a M w Shun
 nE:gY D a b
 slots:oY 123 fs a w
 ic:∀p∈fs,kg n0 p.2
section
variable{a6:dh}{w0:aS}{D:fi}{Shun:uam}{fs:List (Nat×(aS->Value->Prop))}{a b:Act}{M:dh}{w:aS}
theorem nO.at(h:nO O n0 a6 w0 D Shun fs a b M w)(k:Nat):nO O n0 a6 w0 D Shun fs a b M (w.at k):=
 ⟨h.held.at k,h.nE,yc h.ic _ _ _ _ _ ((cy.FY M w k).kX h.held.fH) h.held.all h.slots,h.ic⟩
theorem Held.put(h:Held O prog a6 w0 n0 a M w Shun)(d:Tmp){v:Value}(hv:ar (bQ M) v v):Held O prog a6 w0 n0 (a.put (some d) v) M w Shun:=
 ⟨h.fH,h.sub,h.since,h.keep,h.all.set hv _,GA,h.size⟩
def gY.KN(h:gY D a b)(g:D.T d=true)(hK:D.K d=false)(v:Value):gY D (a.put (some d) undef) (b.put (some d) v):=by
 refine⟨by rw[iS,iS];exact h.size,λi hi=>?_,λi x hi f=>?_,λi hi=>?_,by rw[put_defers,put_defers];exact h.defers⟩
 .have c:d≠i:=AA;simp[Act.put,c];exact h.same i hi
 .by_cases e:d=i
  .simp_all[Act.put,vak]
  .simp[Act.put,e]at f;exact h.gone i x hi f
 .have c:d≠i:=AA;simp[Act.put,c];exact h.kept i hi
def j9(h:oY 123 fs a w)(hd:∀p∈fs,d≠p.1)(v:Value):oY 123 fs (a.put (some d) v) w:=
 ⟨by rw[iS];exact h.1,λp b=>by
  obtain⟨x,e,c⟩:=h.2 p b;grind[fY]⟩
theorem nO.KN(h:nO O n0 a6 w0 D Shun fs a b M w)(c:D.T d=true)(hK:D.K d=false)(hd:∀p∈fs,d≠p.1)(v:Value):nO O n0 a6 w0 D Shun fs (a.put (some d) undef) (b.put (some d) v) M w:=
 ⟨h.held.put d (.undef _),h.nE.KN c hK v,j9 h.slots hd _,h.ic⟩
def nO.VS(h:nO O n0 a6 w0 D Shun fs a b M w)(e:D.T d=false)(hK:D.K d=false)(hd:∀p∈fs,d≠p.1)(hs:d<123){v:Value}(hv:ar (bQ M) v v)(hc:kg n0 (eB v)):nO O n0 a6 w0 D Shun ((d,eB v)::fs) (a.put (some d) v) (b.put (some d) v) M w:=
 ⟨h.held.put d hv,h.nE.put e hK v,⟨by rw[iS];exact h.slots.1,λp c=>by
  rcases vbn.1 c with rfl|c
  .exact⟨v,mY (by rw[h.slots.1];exact hs),Y⟩
  .exact(j9 h.slots hd v).2 p c⟩,λp c=>by
  rcases vbn.1 c with rfl|c
  .exact hc
  .exact h.ic p c⟩
def nO.less(h:nO O n0 a6 w0 D Shun fs a b M w){gs:List (Nat×(aS->Value->Prop))}(hg:∀p∈gs,p∈fs):nO O n0 a6 w0 D Shun gs a b M w:=
 ⟨h.held,h.nE,⟨h.slots.1,λp c=>h.slots.2 p (hg p c)⟩,λp c=>h.ic p (hg p c)⟩
end
end
section
open lM
variable{O:gJ}{n0:Nat}
def ayk(O:gJ)(bK:uan)(i:Nat)(r:fA):Prop:=∃B off c e z,bK=some ⟨B,off,none⟩/\0<B/\B<O.n/\O.heap[B]?=some (.cells c e z)/\(c[off+i*4]?=some (.I r.1)/\c[off+i*4+1]?=some (.I r.2.1)/\c[off+i*4+2]?=some (.I r.2.2.1)/\c[off+i*4+3]?=some (.I r.2.2.2))/\cT r.1/\cT r.2.1/\cT r.2.2.1/\cT r.2.2.2
def Hc(O:gJ)(rv:Value)(rs:List fA):Prop:=∃bK cap,rv=.slice bK rs.length cap/\∀i(h:i<rs.length),ayk O bK i rs[i]
def Hd{fs:List (Nat×(aS->Value->Prop))}{d:Nat}(h:(fs.map (·.1)).all (λx=>x != d)=true):∀p∈fs,d≠p.1:=AA
section
variable{Post:uab}{n:Nat}{Shun:uam}{a6:dh}{w0:aS}{rv:Value}{rs:List fA}{c:Frame}{csZ:fV}
def j3{es:uao}(h:∀e∈es,∀m,e.loc≠ .mark m):seen prog 4 es=es:=
 seen_eq (by rw[func4];rfl) AA
def ayl{x y z u:Int}:kg n0 (eB (.agg #[.I x,.I y,.I z,.I u])):=λ_ _ _ _ _ _ hv h=>by
 cases h;obtain⟨e,rfl,k⟩:=sK hv;cases k with
 |cons d k=>cases k with
  |cons c k=>cases k with
   |cons b k=>cases k with
    |cons a k=>cases k;rw[hO d,hO c,hO b,hO a];rfl
def j2{a:List aG}:∀p∈zk n0 a,kg n0 p.2:=by intro p b;simp[zk]at b;grind[Vd,x6]
theorem jW(bC:Hc O rv rs)(n3:∀a b M w,nO O n0 a6 w0 (qQ rv (c::csZ).length) Shun (zk n0 (ew (rs.take 15))) a b M w->bP prog Post n Shun 0 (a0 ((base 4).at b [.code .ret]) (c::csZ)) w){cu:Nat}(dg:∀a b M w,cu<rs.length/\cu<15->nO O n0 a6 w0 (qQ rv (c::csZ).length) Shun ((20,eB (.I (cu+1:Nat)))::iE n0 rs (cu+1)) a b M w->bP prog Post n Shun 0 (a0 ((base 4).at b (.R (dw Tryz.f4 3) (List.range' 1 8)::pg Tryz.f4)) (c::csZ)) w)(a b:Act)(M:dh)(w:aS)(h1:cu<=rs.length)(h2:cu<=15)(u:nO O n0 a6 w0 (qQ rv (c::csZ).length) Shun ((20,eB (.I cu))::iE n0 rs cu) a b M w):bP prog Post n Shun 0 (a0 ((base 4).at b (.R (dw Tryz.f4 3) (List.range' 1 8)::pg Tryz.f4)) (c::csZ)) w:=by
 obtain⟨bK,cap,Mz,b9⟩:=id bC;have A:b.tmps[0]?=some rv:=u.nE.kept 0 rfl;rw[show List.range' 1 8=1::List.range' 2 7 from rfl];obtain⟨o,f⟩:∃o,(dw Tryz.f4 3)[1]?=some o:=⟨_,BJ⟩;obtain rfl:=GI f;have ev:=A;refine Hb f rfl rfl (v:=rv) (es:=#[]) (λk'=>EP) (λk'=>EP) (vdy _ _) Ad rfl λi=>?_;have I:=(u.KN (d:=21) rfl rfl (Hd rfl) rv).at i;have Oh:(b.put (some 21) rv).tmps[21]?=some (.slice bK rs.length cap):=by rw[<-Mz];exact mY (by rw[u.nE.size,u.slots.1];decide)
 have H:(b.put (some 21) rv).tmps[0]?=some rv:=(fY AX).trans A;clear f ev A u;generalize b.put (some 21) rv=b1 at *;generalize a.put (some 21) undef=a1 at *;generalize w.at i=w1 at *;clear i a b w;rw[show List.range' 2 7=2::List.range' 3 6 from rfl];obtain⟨o,f⟩:∃o,(dw Tryz.f4 3)[2]?=some o:=⟨_,BJ⟩;obtain rfl:=GI f;have ev:=Oh;refine Hb f rfl rfl (v:=.I rs.length) (es:=#[]) (λk'=>EP) (λk'=>EP) (vdy _ _) Ad rfl λk=>?_;have pW:=(I.VS (d:=22) rfl rfl (Hd rfl) AX (v:=.I rs.length) (.int _ _) (Ak _ _)).at k;have A:(b1.put (some 22) (.I rs.length)).tmps[0]?=some rv:=(fY AX).trans H;clear f ev H Oh I;generalize b1.put (some 22) (.I rs.length)=b2 at *;generalize a1.put (some 22) (.I rs.length)=bc at *;generalize w1.at k=w2 at *;clear k a1 b1 w1;have h:=pW.less (gs:=(20,eB (.I cu))::(22,eB (.I rs.length))::iE n0 rs cu) AA;clear pW;by_cases g:cu<rs.length/\cu<15
 .refine KC nJ follows PH rfl (PG rv _) h.nE (PF rv _ AJ) h.held (k':=.R (dw Tryz.f4 5) (List.range' 0 6)::Eo Tryz.f4) AJ AJ (yc h.ic) (yc (Ha rs cu)) h.slots (λW hW y=>ax8 rs cu g.1 g.2 bc W h.held.defers y) ?_;intro C q U t N L R;have Q:nO O n0 a6 w0 (qQ rv (c::csZ).length) Shun (iE n0 rs cu) C q U t:=⟨N,L,R,Ha rs cu⟩;have f0:q.tmps[0]?=some rv:=L.kept 0 rfl;clear h N L R A;obtain⟨B,off,cc,e,z,aym,uj,hB,hc,⟨di,c1,bH,dB⟩,i0,i1,i2,i3⟩:=b9 cu g.1;subst aym;rw[show List.range' 0 6=0::1::2::3::List.range' 4 2 from rfl];obtain⟨o,f⟩:∃o,(dw Tryz.f4 5)[0]?=some o:=⟨_,BJ⟩;obtain rfl:=GI f;have ev:=f0;refine Hb f rfl rfl (v:=rv) (es:=#[]) (λk'=>EP) (λk'=>EP) (vdy _ _) Ad rfl λi=>?_;have s:=(Q.KN (d:=31) rfl rfl (Hd rfl) rv).at i;have F:(q.put (some 31) rv).tmps[31]?=some (.S B off rs.length cap):=(mY (by rw[Q.nE.size,Q.slots.1];decide)).trans (congrArg some Mz)
  clear f ev f0 Q;generalize q.put (some 31) rv=a8 at *;generalize C.put (some 31) undef=bO at *;generalize t.at i=w4 at *;clear i C q t;obtain⟨o,f⟩:∃o,(dw Tryz.f4 5)[1]?=some o:=⟨_,BJ⟩;obtain rfl:=GI f;have gI:a8.tmps[6]?=some (.I cu):=by obtain⟨v,h1,h2⟩:=s.slots.2 (6,eB (.I cu)) DH;obtain rfl:v=_:=h2;exact(s.nE.same 6 rfl).trans h1
  have ev:=gI;refine Hb f rfl rfl (v:=.I cu) (es:=#[]) (λk'=>EP) (λk'=>EP) (vdy _ _) Ad rfl λk=>?_;have P:=(s.VS (d:=32) rfl rfl (Hd rfl) AX (v:=.I cu) (.int _ _) (Ak _ _)).at k;have f31:(a8.put (some 32) (.I cu)).tmps[31]?=some (.S B off rs.length cap):=(fY AX).trans F;have f32:(a8.put (some 32) (.I cu)).tmps[32]?=some (.I cu):=mY (by rw[s.nE.size,s.slots.1];decide);clear f ev gI F s;generalize a8.put (some 32) (.I cu)=bt at *;generalize bO.put (some 32) (.I cu)=dz at *;generalize w4.at k=er at *;clear k bO a8 w4;obtain⟨o,f⟩:∃o,(dw Tryz.f4 5)[2]?=some o:=⟨_,BJ⟩;obtain rfl:=GI f;have ev:=f31;have VT:=f32;have i:(cu:Int)<(rs.length:Int):=AP;have eE:(0:Int)<=(cu:Int):=AP;refine Hb f rfl rfl (v:=.P B (off+cu*4)) (es:=#[]) (λk'=>by simp[go_sem,ev,VT,eE,g.1,Addr.add]) (λk'=>by simp[go_sem,ev,VT,eE,g.1]) (vdy _ _) Ad rfl λX=>?_;have VU:=(P.KN (d:=33) rfl rfl (Hd rfl) (.P B (off+cu*4))).at X;have f33:(bt.put (some 33) (.P B (off+cu*4))).tmps[33]?=some (.P B (off+cu*4)):=mY (by rw[P.nE.size,P.slots.1];decide);clear f ev VT f31 f32 P;generalize bt.put (some 33) (.P B (off+cu*4))=ea at *;generalize dz.put (some 33) undef=jw at *;generalize er.at X=r at *;clear X dz bt er;obtain⟨o,f⟩:∃o,(dw Tryz.f4 5)[3]?=some o:=⟨_,BJ⟩;obtain rfl:=GI f;have ev:=f33;have aP:=VU.held.fH;have E:r.heap[B]?=some (.cells cc e z):=(aP.old B uj hB).trans hc;have d:∀k' j x,cc[j]?=some x->(r.at k').cell? (.a B j)=some x:=λk' j x Y=>by have:(r.at k').heap[B]?=some (.cells cc e z):=E;grind[World.cell?]
  refine Hb f rfl rfl (v:=.agg #[.I rs[cu].1,.I rs[cu].2.1,.I rs[cu].2.2.1,.I rs[cu].2.2.2]) (es:=#[⟨.cell ⟨B,off+cu*4,none⟩,false,false⟩,⟨.cell ⟨B,off+cu*4+1,none⟩,false,false⟩,⟨.cell ⟨B,off+cu*4+2,none⟩,false,false⟩,⟨.cell ⟨B,off+cu*4+3,none⟩,false,false⟩]) (λk'=>?_) (λk'=>?_) (j3 λe Z m hm=>?_) (λe Z=>?_) rfl λV=>?_
  .have T:=d k' _ _ di;have br:=d k' _ _ c1;have bn:=d k' _ _ bH;have S:=d k' _ _ dB;simp[go_sem,ev,T,br,bn,S]
  .have T:=d k' _ _ di;have br:=d k' _ _ c1;have bn:=d k' _ _ bH;have S:=d k' _ _ dB;simp[go_sem,ev,T,br,bn,S]
  .grind
  .have xk:B<r.heap.size:=AA;simp at Z;rcases Z with rfl|rfl|rfl|rfl<;>exact Jk (aP.so B hB _ rfl) xk _
  have D:=(VU.VS (d:=34) rfl rfl (Hd rfl) AX (v:=.agg #[.I rs[cu].1,.I rs[cu].2.1,.I rs[cu].2.2.1,.I rs[cu].2.2.2]) (.pk (og (l:=[.I rs[cu].1,.I rs[cu].2.1,.I rs[cu].2.2.1,.I rs[cu].2.2.2]) λx Y=>by
   simp at Y;rcases Y with rfl|rfl|rfl|rfl<;>exact .int _ _)) ayl).at V
  clear f ev f33 VU aP E d;generalize ea.put (some 34) (.agg #[.I rs[cu].1,.I rs[cu].2.1,.I rs[cu].2.2.1,.I rs[cu].2.2.2])=cK at *;generalize jw.put (some 34) (.agg #[.I rs[cu].1,.I rs[cu].2.1,.I rs[cu].2.2.1,.I rs[cu].2.2.2])=nC at *;generalize r.at V=uW at *;clear V jw ea r;have K:=D.less (gs:=(34,eB (.agg #[.I rs[cu].1,.I rs[cu].2.1,.I rs[cu].2.2.1,.I rs[cu].2.2.2]))::iE n0 rs cu) AA;clear D;refine KC nJ follows PH rfl (PG rv _) K.nE (PF rv _ AJ) K.held (k':=.R (dw Tryz.f4 3) (List.range' 1 8)::pg Tryz.f4) AJ AJ (yc K.ic) (J:=oY 123 ((20,eB (.I (cu+1:Nat)))::iE n0 rs (cu+1))) (yc λp hp=>?_) K.slots (λW hW y=>ayd rs cu g.1 g.2 i0 i1 i2 i3 nC W hW K.held.defers y) ?_
  .grind[Ak,Ha]
  .intro Ab nN ayn FM Z2 ZJ ZH;refine dg Ab nN ayn FM g ⟨Z2,ZJ,ZH,λp hp=>?_⟩;grind[Ak,Ha]
 .refine KC nJ follows PH rfl (PG rv _) h.nE (PF rv _ AJ) h.held (k':=[.code .ret]) AJ AJ (yc h.ic) (J:=oY 123 (zk n0 (ew (rs.take 15)))) (yc j2) h.slots (λW hW y=>ax9 rs cu h1 h2 g bc W h.held.defers y) ?_;intro C q U t N L R;exact n3 C q U t ⟨N,L,R,j2⟩
def ZD(j:Hc O rv rs)(d:∀a b M w,nO O n0 a6 w0 (qQ rv (c::csZ).length) Shun (zk n0 (ew (rs.take 15))) a b M w->bP prog Post n Shun 0 (a0 ((base 4).at b [.code .ret]) (c::csZ)) w):
 ∀(m cu:Nat)(a b:Act)(M:dh)(w:aS),15-cu<=m->cu<=rs.length->cu<=15->nO O n0 a6 w0 (qQ rv (c::csZ).length) Shun ((20,eB (.I cu))::iE n0 rs cu) a b M w->bP prog Post n Shun 0 (a0 ((base 4).at b (.R (dw Tryz.f4 3) (List.range' 1 8)::pg Tryz.f4)) (c::csZ)) w:=by
 intro m;induction m with|zero=>grind[jW]|succ m e=>intro cu a b M w k i h f;exact jW j d (λa b M w l g=>e (cu+1) a b M w AP AP AP g) a b M w i h f
end
end
section
open lM
variable{O:gJ}{n0:Nat}
section
variable{Post:uab}{n:Nat}{Shun:uam}{a6:dh}{w0:aS}{rv:Value}{rs:List fA}{c:Frame}{csZ:fV}
def Zx{D:fi}{i:List aG}{a b:Act}{M:dh}{w:aS}(q:D.T 4=false)(d:nO O n0 a6 w0 D Shun (zk n0 i) a b M w)(t:∀u k,ar (bQ M) u u->ub i (w.at k) u->bP prog Post n Shun 0 (a0 (c.finish u) csZ) (w.at k)):bP prog Post n Shun 0 (a0 ((base 4).at b [.code .ret]) (c::csZ)) w:=by
 have l:=d.held.fH;have hd:b.defers=[]:=d.nE.defers.trans d.held.defers;obtain⟨v,s,a8,bq,rfl,y,o,j⟩:=d.slots.2 (4,GY n0 i) (by simp[zk]);have m:a.tmps[4]?=some (.P a8 0):=s;have f4:b.tmps[4]?=some (.P a8 0):=(d.nE.same 4 q).trans m;have h:M a8:=by have:=d.held.all.get 4 _ _ m m;cases this with|ptr r=>exact r.1.2
 have hc:w.cell? (.a a8 0)=some bq:=by rw[o.rules.1];rfl
 have hv:ar (bQ M) bq bq:=l.cell (a:=⟨a8,0,none⟩) h hc;refine Cp Y λk=>⟨a0 {(base 4).at b [.code .ret]with mode:=.returning} (c::csZ),w.at k,#[],?_,Ad,vac _,?_⟩
 .simp[a0,stepG,stepG.exec,Frame.at,base]
 .refine Cp Y λk'=>⟨a0 (c.finish (.agg #[bq])) csZ,w.at k',#[⟨.cell ⟨a8,0,none⟩,false,false⟩],?_,λe g=>?_,vac _,?_⟩
  .have p:=func4;have f:((w.at k).at k').cell? (.a a8 0)=some bq:=hc;have j:(results Tryz.f4 b.tmps).run prog ((w.at k).at k')=.ok (.agg #[bq]) ((w.at k).at k'):=by simp[results,results4,go_sem,f4,f]
   have g:(results Tryz.f4 b.tmps).events prog ((w.at k).at k') #[]=#[⟨.cell ⟨a8,0,none⟩,false,false⟩]:=by simp[results,results4,go_sem,f4,f]
   have hs:=j3 (es:=#[⟨.cell ⟨a8,0,none⟩,false,false⟩]) AA;simp only[a0,stepG,unwind,doReturn,Frame.at,base,hd,p,j,g,hs,vau,GStep.after];rfl
  .simp at g;subst g;exact Jk (l.sh a8 (.inl h) _ Y) (l.lt h) _
  .exact t _ k' (.pk (.one hv)) ⟨bq,Y,ke.kept (show hM pN w (w.at k')from⟨vac _,λ_ _ _ _ x _=>x⟩) j⟩
def Zu(rv:Value)(d:Nat):gY (qQ rv d) ⟨#[undef,.I 15]++Array.replicate 121 undef,[]⟩ ⟨#[rv,.I 15]++Array.replicate 121 undef,[]⟩:=by
 have get:∀(x:Value)(i:Nat),(#[x,.I 15]++Array.replicate 121 undef:dp)[i]?=if i=0 then some x else if i=1 then some (.I 15)else if i<123 then some undef else none:=by
  intro x i;rcases i with _ | _ |i
  .grind
  .simp_all
  grind[Array.getElem?_append_right]
 refine⟨Ad,λi hi=>?_,λi v hi hv=>?_,λi hi=>?_,Y⟩
 .have h0:i≠0:=λe=>by subst e;cases hi
  grind
 .rw[get]at hv;by_cases h0:i=0
  .grind
  .have a:i≠1:=λe=>by subst e;cases hi
   grind
 simp_all[qQ]
def Zn{M:dh}{w:aS}(y:Home O prog M Shun w)(v:Hc O rv rs)(s:∀u M' w',Home O prog M' Shun w'->(∀b,M b->M' b)->ar (bQ M') u u->lL w w'->cy M w w'->ub (ew (rs.take 15)) w' u->bP prog Post n Shun 0 (a0 (c.finish u) csZ) w'):
 bP prog Post n Shun 0 (a0 (Frame.enter prog 4 #[rv,.I 15] .normal) (c::csZ)) w:=by
 rw[vds func4 (c:=AF Tryz.f4) Y];have r:aJ (bQ M) (#[undef,.I 15]++Array.replicate 121 undef) (#[undef,.I 15]++Array.replicate 121 undef):=by
  refine aJ.append (og (l:=[undef,.I 15]) λx f=>?_) (GJ _ _);simp at f;rcases f with rfl|rfl
  .exact .undef _
  .exact .int _ _
 have H:Held O prog M w w.heap.size ⟨#[undef,.I 15]++Array.replicate 121 undef,[]⟩ M w Shun:=.start y JT r Y;refine KC nJ follows PH Y (PG rv _) (Zu rv _) (PF rv _ AJ) H (k:=[.code (AF Tryz.f4)]) (k':=.R (dw Tryz.f4 3) (List.range' 1 8)::pg Tryz.f4) AJ AJ (I:=oY 123 []) (J:=oY 123 ((20,eB (.I (0:Nat)))::iE w.heap.size rs 0)) (yc AA) (yc λp m=>?_) ⟨Ad,AA⟩ (λW q _=>ax7 rs W q) ?_
 .grind[Ak,Ha]
 intro a1 b1 t w1 B e A;refine ZD v (λa b z h g=>?_) 15 0 a1 b1 t w1 AP AP AP ⟨B,e,A,λp m=>?_⟩
 .refine Zx Y g λu k j ht=>?_;have d:=g.held.at k;exact s u z (h.at k) d.fH d.sub j d.since (d.keep.sub λb o i=>⟨o,i⟩) ht
 grind[Ak,Ha]
