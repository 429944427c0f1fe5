import Derived.Maps.OwnIn
import Derived.Test.YtoehnnefaeoeoaaGreatPAW
set_option linter.all false
set_option maxRecDepth 100000
set_option maxHeartbeats 16000000
namespace Go.Proofs.YtoehnnefaeoeoaaGreat
open Go.Proofs.Tryz
namespace gi
open RowKit Shelf az b_ cA
variable {C:World->Prop}{fuel i j n:Nat}{P:Program}{ops:Array Oper}{Q:Exit->Act->World->Prop}{bc fU:Oper}{a:Act}{w:World}
theorem avL{listed:Array Bool}(c:Region.ready .any ops listed=[i,j])(hi:ops[i]?=some bc)(d:ops[j]?=some fU)
 (h:∀K':Act->World->Prop,(∀a w,C w->sD C n P ops Q fuel (listed.setIfInBounds i true) a w->K' a w)->if Region.wanted bc (yielded ops a.tmps)=true then Oper.wpIn Fence.wide n P bc a w K' Q else(∀f,bc.about P w a.eval=some f->Fence.wide.fn f)/\K' (a.put bc.dst undef) w)
 (k:∀K':Act->World->Prop,(∀a w,C w->sD C n P ops Q fuel (listed.setIfInBounds j true) a w->K' a w)->if Region.wanted fU (yielded ops a.tmps)=true then Oper.wpIn Fence.wide n P fU a w K' Q else(∀f,fU.about P w a.eval=some f->Fence.wide.fn f)/\K' (a.put fU.dst undef) w):sD C n P ops Q (fuel+1) listed a w:=
 ⟨AU,by
  rw[c];intro x b;simp at b;rcases b with rfl|rfl
  ·exact wpOpIn_step hi fun K' hK=>h K' AU
  ·exact wpOpIn_step d fun K' hK=>k K' AU⟩
variable {d:Nat}{v:Value}
theorem OE{t:Nat}(h:d≠t):(a.put (some d) v).eval (.tmp t)=a.eval (.tmp t):=by simp[Act.eval,Act.put,h]
theorem B6(h:d<a.tmps.size):(a.put (some d) v).eval (.tmp d)=v:=by simp[Act.eval,Act.put,h]
theorem iv{listed:Array Bool}(hi:ops[i]?=some bc)(hd:bc.dst=some d)(e:Region.noSelect ops=true)(g:Region.free .any ops listed i=true)(f:(Region.ready .any ops listed).contains i=true)
 (k:∀c a w,Q (.panic c) (a.put (some d) v) w->Q (.panic c) a w) (j:C w) (b:vi C P ops bc v a) (h:sD C n P ops Q fuel (listed.setIfInBounds i true) (a.put (some d) v) w):sD C n P ops Q (fuel+1) listed a w:=
 wx hi e g f AU j b AU
variable {cf:Nat}{o:Oper}{w1:World}{K:Act->World->Prop}
theorem OF{F:Prop}(b:o.guard=none)(f:∀c,o.op≠ .defer c)(e:o.about P w a.eval=none)(d:(execOp a.eval o).run P w=.ok (.value v) w1)(h:K (a.put o.dst v) w1):
 if Region.wanted o (yielded ops a.tmps)=true then Oper.wpIn Fence.wide cf P o a w K Q else F:=by
 simp_all[Region.wanted,Oper.wpIn,Oper.semAt_eq,Oper.uponIn]
variable {u:Value}
theorem OG{f e:Nat}{listed:Array Bool}(s:Region.ready .any ops listed=[i,j])(o:Region.ready .any ops (listed.setIfInBounds i true)=[j])(z:Region.ready .any ops (listed.setIfInBounds j true)=[i])(hi:ops[i]?=some bc)(m:ops[j]?=some fU)(t:i≠j)(k:bc.dst=some f)(g:fU.dst=some e)(hd:f≠e)
 (b:bc.guard=none/\fU.guard=none) (A:∀c,bc.op≠ .defer c/\fU.op≠ .defer c) (d:∀w(ev:Operand->Value),bc.about P w ev=none/\fU.about P w ev=none)
 (r:(execOp a.eval bc).run P w=.ok (.value v) w) (y:(execOp (a.put (some f) v).eval fU).run P w=.ok (.value u) w1) (p:(execOp a.eval fU).run P w=.ok (.value u) w1) (q:(execOp (a.put (some e) u).eval bc).run P w1=.ok (.value v) w1) (x:C w) (l:C w1)
 (h:sD C n P ops Q fuel ((listed.setIfInBounds i true).setIfInBounds j true) ((a.put (some f) v).put (some e) u) w1):sD C n P ops Q (fuel+2) listed a w:=by
 refine avL s hi m (fun K hK=>?_) (fun K hK=>?_)
 ·refine OF b.1 AU (d _ _).1 r (hK _ _ x ?_);rw[k];refine j9 o m fun K hK=>OF b.2 AU (d _ _).2 y (hK _ _ l ?_);grind
 ·refine OF b.2 AU (d _ _).2 p (hK _ _ l ?_);rw[g];refine j9 z hi fun K hK=>OF b.1 AU (d _ _).1 q (hK _ _ l ?_);simp_all[Array.setIfInBounds_comm,Ne.symm,Act.put]
variable {e:TypeId}
theorem OJ{t:TypeId}{z:Value}{bytes:Nat}(E:uJ P t e z 1 bytes)(w:World){F:Prop}(H:o.guard=none)(s x:Operand)
 (c:o.op=.call {callee:=.builtin .append,args:=#[s,x],argTypes:=#[t,t]})
 (base:Nat) (v:Value) (n:Nat) (xs:List Value) (q:a.eval s=v) (B:w.ownsRow base e 1 v n xs)
 (b:Nat) (u:Value) (p:a.eval x=.slice (some ⟨b,0,none⟩) 1 1) (l:w.cell? ⟨b,0,none⟩=some u) (L:u.oneCell'=true)
 (C:(n+1)*bytes<=140737488355328) (O:n+1<=9223372036854775807) (f:base<=w.heap.size)
 (h:∀g cap w',w'.ownsRow base e 1 (.slice (some ⟨g,0,none⟩) (n+1) cap) (n+1) (xs++[u])->w.grownBy w' v.ownBlock->(v.ownBlock=some g\/g=w.heap.size)->K (a.put o.dst (.slice (some ⟨g,0,none⟩) (n+1) cap)) w'):
 if Region.wanted o (yielded ops a.tmps)=true then Oper.wpIn Fence.wide cf P o a w K Q else F:=by
 rw[if_pos (by grind[Region.wanted])];obtain⟨i,hi,m,hsz,k⟩:=info_parts E.hi;obtain⟨D,w',r,A,J,I,N⟩:=run_append_own_at (P:=P) w base t o.type e i z 1 bytes E.ht hi m hsz k E.Ql E.hsz v n xs B ⟨b,0,none⟩ 1 1 [u] rfl (fun j y d=>by
  rcases j with _ |j
  ·simp at d;subst d;exact l
  grind) AU HX C f
 unfold Oper.wpIn;refine⟨by simp[Oper.about,c,resolve,Target.leads,Sem.run_pure],?_⟩;rw[Oper.semAt_plain Fence.wide _ _ AU];obtain⟨-,⟨-,M⟩|⟨g,cap,bp,rfl,-⟩⟩:=id A
 ·omega
 simp only[execOp,c,resolve,invoke,builtin,q,p,r,Result.andThen,Sem.run_bind,Sem.run_pure,List.map_toArray,List.map_cons,List.map_nil,Oper.uponIn];grind[Value.ownBlock]
def jK(j:Nat):TypeId:=if j % 3=0 then 2 else if j % 3=1 then 9 else 4
structure iT(B b6 gI:Nat)(X:Nat->List Value)(W:World)(L:List e8)(cs:Array Value):Prop where
 gU:eZ B W L
 len:L.length=12
 box:af W b6 cs 48
 size:cs.size=20
 head:∀c x,(c,x)∈[(0,1),(1,0),(5,1),(6,0),(10,2),(11,2),(15,3),(16,0)]->cs[c]?=some (.int .i64 x)
 e9:∀j,j<12->∃v,L[j]?=some ⟨jK j,v,X j⟩/\cs[j / 3*5+2+j % 3]?=some v
 aO:af W gI #[.slice (some ⟨b6,0,none⟩) 4 4] 27
 lo:B<=b6/\b6≠gI
variable {B b6 gI:Nat}{W:World}{X:Nat->List Value}{L:List e8}{cs:Array Value}
theorem iT.below{c:World}(h:iT B b6 gI X W L cs)(b:Below W.heap.size W c):iT B b6 gI X c L cs:=
 ⟨h.gU.kept fun g d=>by
  obtain⟨i,hi,a⟩:∃i,∃(hi:i<L.length),L[i].v.ownBlock=some g:=Classical.byContradiction fun e=>d fun i hi a=>AU;exact b.block g (h.gU.lt hi a).2,h.len,h.box.call b,h.size,h.head,h.e9,h.aO.call b,h.lo⟩
theorem avO(j:Nat):jK j≠48/\jK j≠27:=by grind[jK]
theorem iT.ty(h:iT B b6 gI X W L cs)(hi:i<L.length):L[i].e=jK i:=by obtain⟨v,a,-⟩:=h.e9 i (by rw[<-h.len];exact hi);grind
theorem iT.oa(h:iT B b6 gI X W L cs){b:Nat}{c:Array Value}{T:TypeId}(d:af W b c T)(f:T=48\/T=27):ip L b:=
 M4 h.gU fun g e z a i hi=>by rw[show W.heap[b]?=some (.cells c T)from d]at a;cases a;rw[h.ty hi];grind[avO]
variable {cap g:Nat}{W2:World}
theorem iT.push(h:iT B b6 gI X W L cs)(A:j<12)(m:L[j]?=some ⟨jK j,v,X j⟩){x:Value}(q:W2.ownsRow B (jK j) 1 (.slice (some ⟨g,0,none⟩) ((X j).length+1) cap) ((X j).length+1) (X j++[x]))(d:W.grownBy W2 v.ownBlock)(dF:v.ownBlock=some g\/g=W.heap.size):
 af W2 b6 cs 48/\af W2 gI #[.slice (some ⟨b6,0,none⟩) 4 4] 27/\
 iT B b6 gI (fun i=>if i=j then X j++[x]else X i) (W2.setCell ⟨b6,j / 3*5+2+j % 3,none⟩ (.slice (some ⟨g,0,none⟩) ((X j).length+1) cap)) (L.set j ⟨jK j,.slice (some ⟨g,0,none⟩) ((X j).length+1) cap,X j++[x]⟩) (cs.setIfInBounds (j / 3*5+2+j % 3) (.slice (some ⟨g,0,none⟩) ((X j).length+1) cap)):=by
 obtain⟨o,p⟩:=eZ.Iu h.gU m q d dF;have s:j<L.length:=AU;have C:L[j]=⟨jK j,v,X j⟩:=by grind
 have a:∀b,ip L b->v.ownBlock≠some b:=fun b n w=>n j s AU;have cV:=af.grown h.box d (fun g' l e=>a b6 (h.oa h.box Jt) AU);have aO:=af.grown h.aO d (fun g' l e=>a gI (h.oa h.aO K0) AU);refine⟨cV,aO,?_⟩;have k:ip (L.set j ⟨jK j,.slice (some ⟨g,0,none⟩) ((X j).length+1) cap,X j++[x]⟩) b6:=p b6 h.box.lt (h.oa h.box Jt);refine⟨o.set k _ _,by simp[h.len],cV.set _ _,by simp[h.size],fun c y f=>?_,fun i hi=>?_,aO.fu (Ne.symm h.lo.2) _,h.lo⟩
 ·have z:=h.head c y f;have r:j / 3*5+2+j % 3≠c:=by have D:j % 3<3:=AU;simp at f;omega
  grind
 ·obtain⟨u,t,E⟩:=h.e9 i hi;grind
theorem iT.congr{a:Nat->List Value}(h:iT B b6 gI X W L cs)(c:∀j,j<12->X j=a j):iT B b6 gI a W L cs:=
 ⟨h.gU,h.len,h.box,h.size,h.head,fun j b=>by rw[<-c j b];exact h.e9 j b,h.aO,h.lo⟩
variable {N:Nat}
theorem avP{row:Option Nat}(a:W.grownBy W2 row)(c:∀g,row=some g->N<=g)(cj:N<=W.heap.size):Below N W W2:=
 ⟨a.os,a.tape,a.output,a.size,fun k b=>a.block k Ay AU⟩
theorem avQ(c:Array Value)(e:TypeId):Below W.heap.size W (W.drew.alloc (.cells c e)):=(show Below W.heap.size W W.drew from⟨rfl,rfl,rfl,Nat.le_refl _,fun _ _=>rfl⟩).alloc (Nat.le_refl _) _
theorem iT.OK(h:iT B b6 gI X W L cs)(z:j<12){xs:List Value}(r:X j=xs)(l:jK j=e)(k:L[j]?=some ⟨jK j,v,xs⟩)(n:W2.ownsRow B e 1 (.slice (some ⟨g,0,none⟩) (xs.length+1) cap) (xs.length+1) (xs++[u]))(a:(W.drew.alloc (.cells #[u] e)).grownBy W2 v.ownBlock)(dF:v.ownBlock=some g\/g=(W.drew.alloc (.cells #[u] e)).heap.size)(cj:N<=B)(I:B<=W.heap.size){o:Nat}(x:o=j / 3*5+2+j % 3):
 Below N W W2/\(∀b c T,ip L b->af W b c T->af W2 b c T)/\af W2 b6 cs 48/\af W2 gI #[.slice (some ⟨b6,0,none⟩) 4 4] 27/\
 ∃p D,iT B b6 gI (fun i=>if i=j then xs++[u]else X i) (W2.setCell ⟨b6,o,none⟩ (.slice (some ⟨g,0,none⟩) (xs.length+1) cap)) p D/\∀b,b<W.heap.size->ip L b->ip p b:=by
 subst r;subst l;subst x;have d:=avQ (W:=W) #[u] (jK j);have m:=h.below d;obtain⟨C,t,s⟩:=m.push z k n a dF;obtain⟨H,A⟩:=eZ.Iu m.gU k n a dF;have q:j<L.length:=AU;have l:L[j]=⟨jK j,v,X j⟩:=by grind
 have F:∀g,v.ownBlock=some g->B<=g:=fun g a=>(h.gU.lt q AU).1;refine⟨(d.mono Ay).trans (avP a AU Bu),fun b c T f w=>af.grown (w.call d) a (fun g' E e=>f j q AU),C,t,_,_,s,fun b y f=>A b Bu f⟩
@[simp] theorem aGR (a:Array Value) (w:World):Sem.run (ai prog true) (callFunc 4 a) w=.ok (.enter 4 a) w:=c8 (bl (upd:=true) func4 AS) AS a w
def x7(r:cL)(j:Nat):List Value:=
 if j=0 then [.int .i64 (jc r.1)]else if j=2 then [.bool (c3 r.1)]else if j=3 then [.int .i64 (dp r.2.1)]else if j=5 then [.bool (c3 r.2.1)]else if j=6 then [.int .i64 (dp r.2.2.1)]else if j=8 then [.bool (c3 r.2.2.1)]else if j=10 then [.string (mF r.2.2.2)]else if j=11 then [.bool (c3 r.2.2.2)]else []
def b8(rs:List cL)(n:Nat)(j:Nat):List Value:=(rs.take n).flatMap (x7 · j)
theorem ED(rs:List cL)(h:n<rs.length)(j:Nat):b8 rs (n+1) j=b8 rs n j++x7 rs[n] j:=by grind[b8,List.take_succ_eq_append_getElem]
theorem avR(r:cL)(j:Nat):(x7 r j).length<=1:=by grind[x7]
theorem B7(rs:List cL)(n:Nat)(j:Nat):(b8 rs n j).length<=n:=by induction n with|zero=>simp[b8]|succ n a=>grind[ED,avR,b8,List.take_of_length_le]
theorem B8(rs:List cL)(n j:Nat)(f:cL->Value)(h:∀r,x7 r j=[f r]):b8 rs n j=(rs.take n).map f:=by unfold b8;induction rs.take n with|nil=>rfl|cons r l a=>grind
theorem OL(rs:List cL)(n j:Nat)(h:∀r,x7 r j=[]):b8 rs n j=[]:=by simp_all[b8]
theorem B9{ar:Type}{R:World->(Nat->Option Value)->ar->Prop}{l:List cL}{f:cL->Value}{g:cL->ar}(h:W.ownsRow B e 1 v (l.map f).length (l.map f))(a:∀r rd,rd 0=some (f r)->R W rd (g r)):bd W 1 R v (l.map g):=
 I4 h Aa AU
theorem OM{ar:Type}{R:World->(Nat->Option Value)->ar->Prop}(h:W.ownsRow B e 1 v ([]:List Value).length []):bd W 1 R v []:=
 I4 h rfl AU
theorem avS{rs:List cL}(h:iT B b6 gI (b8 rs n) W L cs):iB W (.slice (some ⟨b6,0,none⟩) 4 4) (d8 (rs.take n)):=by
 have own:∀j(_:j<12),∃v,cs[j / 3*5+2+j % 3]?=some v/\W.ownsRow B (jK j) 1 v (b8 rs n j).length (b8 rs n j):=fun j k=>by obtain⟨v,p,m⟩:=h.e9 j k;exact⟨v,m,h.gU.at p⟩
 have cell:∀o x,cs[o]?=some x->W.cell? ⟨b6,o,none⟩=some x:=fun o x g=>(h.box.bT.1 o).trans g;refine⟨⟨some ⟨b6,0,none⟩,4,rfl,by show 4<=9223372036854775807;decide,fun i hi=>⟨b6,0,rfl,?_⟩⟩,fun b l=>by cases l;exact⟨_,_,h.box⟩⟩;have f:i=0\/i=1\/i=2\/i=3:=by have:(d8 (rs.take n)).length=4:=rfl;omega
 rcases f with rfl|rfl|rfl|rfl
 ·obtain⟨bQ,cu,d⟩:=own 0 Ay;obtain⟨vs,c1,c⟩:=own 1 Ay;obtain⟨e,bH,a⟩:=own 2 Ay;rw[B8 rs n 0 _ fun _=>rfl]at d;rw[OL rs n 1 fun _=>rfl]at c;rw[B8 rs n 2 _ fun _=>rfl]at a;exact⟨bQ,vs,e,cell 0 _ (h.head 0 1 Aa),cell 1 _ (h.head 1 0 Aa),cell 2 _ cu,cell 3 _ c1,cell 4 _ bH,⟨B9 d fun _ _ h=>h,OM c,B9 a fun _ _ h=>h⟩,tt d,tt c,tt a⟩
 ·obtain⟨bQ,cu,d⟩:=own 3 Ay;obtain⟨vs,c1,c⟩:=own 4 Ay;obtain⟨e,bH,a⟩:=own 5 Ay;rw[B8 rs n 3 _ fun _=>rfl]at d;rw[OL rs n 4 fun _=>rfl]at c;rw[B8 rs n 5 _ fun _=>rfl]at a;exact⟨bQ,vs,e,cell 5 _ (h.head 5 1 Aa),cell 6 _ (h.head 6 0 Aa),cell 7 _ cu,cell 8 _ c1,cell 9 _ bH,⟨B9 d fun _ _ h=>h,OM c,B9 a fun _ _ h=>h⟩,tt d,tt c,tt a⟩
 ·obtain⟨bQ,cu,d⟩:=own 6 Ay;obtain⟨vs,c1,c⟩:=own 7 Ay;obtain⟨e,bH,a⟩:=own 8 Ay;rw[B8 rs n 6 _ fun _=>rfl]at d;rw[OL rs n 7 fun _=>rfl]at c;rw[B8 rs n 8 _ fun _=>rfl]at a;exact⟨bQ,vs,e,cell 10 _ (h.head 10 2 Aa),cell 11 _ (h.head 11 2 Aa),cell 12 _ cu,cell 13 _ c1,cell 14 _ bH,⟨B9 d fun _ _ h=>h,OM c,B9 a fun _ _ h=>h⟩,tt d,tt c,tt a⟩
 ·obtain⟨bQ,cu,d⟩:=own 9 Ay;obtain⟨vs,c1,c⟩:=own 10 Ay;obtain⟨e,bH,a⟩:=own 11 Ay;rw[OL rs n 9 fun _=>rfl]at d;rw[B8 rs n 10 _ fun _=>rfl]at c;rw[B8 rs n 11 _ fun _=>rfl]at a;exact⟨bQ,vs,e,cell 15 _ (h.head 15 3 Aa),cell 16 _ (h.head 16 0 Aa),cell 17 _ cu,cell 18 _ c1,cell 19 _ bH,⟨OM d,B9 c fun r _ h=>⟨h,by grind[Oz]⟩,B9 a fun _ _ h=>h⟩,tt d,tt c,tt a⟩
end gi
end Go.Proofs.YtoehnnefaeoeoaaGreat
