import Derived.Maps.OwnIn
import Derived.Test.YtncomcmfgmojkaaGreatPAV
set_option linter.all false
set_option maxRecDepth 100000
set_option maxHeartbeats 16000000
namespace Go.Proofs.YtncomcmfgmojkaaGreat
open Go.Proofs.Tryz
namespace cM
open RowKit Shelf av bZ bN
variable{C:aO->Prop}{fuel i j n:Nat}{P:cg}{ops:Array Oper}{Q:Exit->Act->aO->Prop}{cu oj:Oper}{a:Act}{w:aO}
def au6{listed:Array Bool}(c:Region.ready .any ops listed=[i,j])(hi:ops[i]?=some cu)(d:ops[j]?=some oj)(h:∀K':Act->aO->Prop,(∀a w,C w->pu C n P ops Q fuel (listed.setIfInBounds i true) a w->K' a w)->if Region.wanted cu (yielded ops a.tmps)=true then Oper.wpIn Fence.wide n P cu a w K' Q else(∀f,cu.about P w a.eval=some f->Fence.wide.fn f)/\K' (a.put cu.dst undef) w)(k:∀K':Act->aO->Prop,(∀a w,C w->pu C n P ops Q fuel (listed.setIfInBounds j true) a w->K' a w)->if Region.wanted oj (yielded ops a.tmps)=true then Oper.wpIn Fence.wide n P oj a w K' Q else(∀f,oj.about P w a.eval=some f->Fence.wide.fn f)/\K' (a.put oj.dst undef) w):pu C n P ops Q (fuel+1) listed a w:=
 ⟨AA,by
  rw[c];intro x b;simp at b;rcases b with rfl|rfl
  .exact wpOpIn_step hi λK' hK=>h K' AA
  .exact wpOpIn_step d λK' hK=>k K' AA⟩
variable{d:Nat}{v:Value}
def N5{t:Nat}(h:d≠t):(a.put (some d) v).eval (.tmp t)=a.eval (.tmp t):=by simp[Act.eval,Act.put,h]
def Aw(h:d<a.tmps.size):(a.put (some d) v).eval (.tmp d)=v:=by simp[Act.eval,Act.put,h]
def hL{listed:Array Bool}(hi:ops[i]?=some cu)(hd:cu.dst=some d)(hs:Region.noSelect ops=true)(f:Region.free .any ops listed i=true)(e:(Region.ready .any ops listed).contains i=true)(j:∀c a w,Q (.panic c) (a.put (some d) v) w->Q (.panic c) a w)(g:C w)(b:sc C P ops cu v a)(h:pu C n P ops Q fuel (listed.setIfInBounds i true) (a.put (some d) v) w):pu C n P ops Q (fuel+1) listed a w:=
 mR hi hs f e AA g b AA
variable{bm:Nat}{o:Oper}{w1:aO}{K:Act->aO->Prop}
def N6{F:Prop}(e:o.guard=none)(b:∀c,o.op≠ .defer c)(f:o.about P w a.eval=none)(d:(execOp a.eval o).run P w=.ok (.value v) w1)(h:K (a.put o.dst v) w1):
 if Region.wanted o (yielded ops a.tmps)=true then Oper.wpIn Fence.wide bm P o a w K Q else F:=by
 simp_all[Region.wanted,Oper.wpIn,Oper.semAt_eq,Oper.uponIn]
variable{u:Value}
def N7{d dj:Nat}{listed:Array Bool}(q:Region.ready .any ops listed=[i,j])(l:Region.ready .any ops (listed.setIfInBounds i true)=[j])(x:Region.ready .any ops (listed.setIfInBounds j true)=[i])(hi:ops[i]?=some cu)(k:ops[j]?=some oj)(r:i≠j)(f:cu.dst=some d)(e:oj.dst=some dj)(hd:d≠dj)(hg:cu.guard=none/\oj.guard=none)(y:∀c,cu.op≠ .defer c/\oj.op≠ .defer c)(b:∀w(ev:Operand->Value),cu.about P w ev=none/\oj.about P w ev=none)(p:(execOp a.eval cu).run P w=.ok (.value v) w)(t:(execOp (a.put (some d) v).eval oj).run P w=.ok (.value u) w1)(m:(execOp a.eval oj).run P w=.ok (.value u) w1)(o:(execOp (a.put (some dj) u).eval cu).run P w1=.ok (.value v) w1)(s:C w)(g:C w1)(h:pu C n P ops Q fuel ((listed.setIfInBounds i true).setIfInBounds j true) ((a.put (some d) v).put (some dj) u) w1):pu C n P ops Q (fuel+2) listed a w:=by
 refine au6 q hi k (λK hK=>?_) (λK hK=>?_)
 .refine N6 hg.1 AA (b _ _).1 p (hK _ _ s ?_);rw[f];refine h7 l k λK hK=>N6 hg.2 AA (b _ _).2 t (hK _ _ g ?_);grind
 .refine N6 hg.2 AA (b _ _).2 m (hK _ _ g ?_);rw[e];refine h7 x hi λK hK=>N6 hg.1 AA (b _ _).1 o (hK _ _ g ?_);simp_all[Array.setIfInBounds_comm,Ne.symm,Act.put]
variable{e:TypeId}
def N8{t:TypeId}{z:Value}{bytes:Nat}(E:oi P t e z 1 bytes)(w:aO){F:Prop}(H:o.guard=none)(s x:Operand)(c:o.op=.call {callee:=.builtin .append,args:=#[s,x],argTypes:=#[t,t]})(base:Nat)(v:Value)(n:Nat)(xs:List Value)(hs:a.eval s=v)(A:w.ownsRow base e 1 v n xs)(b:Nat)(u:Value)(p:a.eval x=.slice (some ⟨b,0,none⟩) 1 1)(k:w.cell? ⟨b,0,none⟩=some u)(h1:u.oneCell'=true)(B:(n+1)*bytes<=140737488355328)(L:n+1<=9223372036854775807)(f:base<=w.heap.size)(h:∀g cap w',w'.ownsRow base e 1 (.slice (some ⟨g,0,none⟩) (n+1) cap) (n+1) (xs++[u])->w.grownBy w' v.ownBlock->(v.ownBlock=some g\/g=w.heap.size)->K (a.put o.dst (.slice (some ⟨g,0,none⟩) (n+1) cap)) w'):
 if Region.wanted o (yielded ops a.tmps)=true then Oper.wpIn Fence.wide bm P o a w K Q else F:=by
 rw[if_pos (by grind[Region.wanted])];obtain⟨i,hi,m,hsz,l⟩:=info_parts E.hi;obtain⟨C,w',q,r,h3,D,J⟩:=run_append_own_at (P:=P) w base t o.type e i z 1 bytes E.ht hi m hsz l E.HG E.hsz v n xs A ⟨b,0,none⟩ 1 1 [u] Y (λj y d=>by
  rcases j with _ |j
  .simp at d;subst d;exact k
  grind) AA Hx B f
 unfold Oper.wpIn;refine⟨by simp[Oper.about,c,resolve,Target.leads,Sem.run_pure],?_⟩;rw[Oper.semAt_plain Fence.wide _ _ AA];obtain⟨-,⟨-,I⟩|⟨g,cap,be,rfl,-⟩⟩:=id r
 .omega
 simp only[execOp,c,resolve,invoke,builtin,hs,p,q,Result.andThen,Sem.run_bind,Sem.run_pure,List.map_toArray,List.map_cons,List.map_nil,Oper.uponIn];grind[Value.ownBlock]
def iS(j:Nat):TypeId:=if j % 3=0 then 2 else if j % 3=1 then 9 else 4
structure ib(B bT t5:Nat)(X:Nat->List Value)(W:aO)(L:List eJ)(cs:Array Value):Prop where
 f2:eH B W L
 len:L.length=12
 box:ag W bT cs 43
 size:cs.size=20
 head:∀c x,(c,x)∈[(0,1),(1,0),(5,1),(6,0),(10,2),(11,2),(15,3),(16,0)]->cs[c]?=some (.int .i64 x)
 at_:∀j,j<12->∃v,L[j]?=some ⟨iS j,v,X j⟩/\cs[j / 3*5+2+j % 3]?=some v
 br:ag W t5 #[.slice (some ⟨bT,0,none⟩) 4 4] 28
 lo:B<=bT/\bT≠t5
variable{B bT t5:Nat}{W:aO}{X:Nat->List Value}{L:List eJ}{cs:Array Value}
def ib.below{W':aO}(h:ib B bT t5 X W L cs)(b:Below W.heap.size W W'):ib B bT t5 X W' L cs:=
 ⟨h.f2.kept λg hg=>by
  obtain⟨i,hi,a⟩:∃i,∃(hi:i<L.length),L[i].v.ownBlock=some g:=Classical.byContradiction λhn=>hg λi hi a=>AA;exact b.block g (h.f2.lt hi a).2,h.len,h.box.call b,h.size,h.head,h.at_,h.br.call b,h.lo⟩
theorem au9(j:Nat):iS j≠43/\iS j≠28:=by grind[iS]
def ib.ty(h:ib B bT t5 X W L cs)(hi:i<L.length):L[i].e=iS i:=by obtain⟨v,h1,-⟩:=h.at_ i (by rw[<-h.len];exact hi);grind
def ib.ng(h:ib B bT t5 X W L cs){b:Nat}{c:Array Value}{T:TypeId}(d:ag W b c T)(f:T=43\/T=28):g8 L b:=
 MA h.f2 λc' e z a i hi=>by rw[show W.heap[b]?=some (.cells c T)from d]at a;cases a;rw[h.ty hi];grind[au9]
variable{cap g:Nat}{W2:aO}
def ib.push(h:ib B bT t5 X W L cs)(z:j<12)(m:L[j]?=some ⟨iS j,v,X j⟩){x:Value}(p:W2.ownsRow B (iS j) 1 (.slice (some ⟨g,0,none⟩) ((X j).length+1) cap) ((X j).length+1) (X j++[x]))(hg:W.grownBy W2 v.ownBlock)(cQ:v.ownBlock=some g\/g=W.heap.size):
 ag W2 bT cs 43/\ag W2 t5 #[.slice (some ⟨bT,0,none⟩) 4 4] 28/\
 ib B bT t5 (λi=>if i=j then X j++[x]else X i) (W2.setCell ⟨bT,j / 3*5+2+j % 3,none⟩ (.slice (some ⟨g,0,none⟩) ((X j).length+1) cap)) (L.set j ⟨iS j,.slice (some ⟨g,0,none⟩) ((X j).length+1) cap,X j++[x]⟩) (cs.setIfInBounds (j / 3*5+2+j % 3) (.slice (some ⟨g,0,none⟩) ((X j).length+1) cap)):=by
 obtain⟨k,o⟩:=eH.Ic h.f2 m p hg cQ;have r:j<L.length:=AA;have A:L[j]=⟨iS j,v,X j⟩:=by grind
 have a:∀b,g8 L b->v.ownBlock≠some b:=λb n w=>n j r AA;have cL:=ag.grown h.box hg (λg' l e=>a bT (h.ng h.box Kg) AA);have br:=ag.grown h.br hg (λg' l e=>a t5 (h.ng h.br K1) AA);refine⟨cL,br,?_⟩;have f:g8 (L.set j ⟨iS j,.slice (some ⟨g,0,none⟩) ((X j).length+1) cap,X j++[x]⟩) bT:=o bT h.box.lt (h.ng h.box Kg);refine⟨k.set f _ _,by simp[h.len],cL.set _ _,by simp[h.size],λc y d=>?_,λi hi=>?_,br.iA (Ne.symm h.lo.2) _,h.lo⟩
 .have hq:=h.head c y d;have q:j / 3*5+2+j % 3≠c:=by have h3:j % 3<3:=AA;simp at d;omega
  grind
 .obtain⟨u,t,s⟩:=h.at_ i hi;grind
def ib.congr{a:Nat->List Value}(h:ib B bT t5 X W L cs)(c:∀j,j<12->X j=a j):ib B bT t5 a W L cs:=
 ⟨h.f2,h.len,h.box,h.size,h.head,λj b=>by rw[<-c j b];exact h.at_ j b,h.br,h.lo⟩
variable{N:Nat}
def au_{row:Option Nat}(hg:W.grownBy W2 row)(a:∀g,row=some g->N<=g)(a0:N<=W.heap.size):Below N W W2:=
 ⟨hg.os,hg.tape,hg.output,hg.size,λk hk=>hg.block k As AA⟩
def ava(c:Array Value)(e:TypeId):Below W.heap.size W (W.drew.alloc (.cells c e)):=(show Below W.heap.size W W.drew from⟨Y,Y,Y,Nat.le_refl _,λ_ _=>Y⟩).alloc (Nat.le_refl _) _
def ib.N9(h:ib B bT t5 X W L cs)(x:j<12){xs:List Value}(y:X j=xs)(k:iS j=e)(f:L[j]?=some ⟨iS j,v,xs⟩)(l:W2.ownsRow B e 1 (.slice (some ⟨g,0,none⟩) (xs.length+1) cap) (xs.length+1) (xs++[u]))(hg:(W.drew.alloc (.cells #[u] e)).grownBy W2 v.ownBlock)(cQ:v.ownBlock=some g\/g=(W.drew.alloc (.cells #[u] e)).heap.size)(a0:N<=B)(F:B<=W.heap.size){o:Nat}(t:o=j / 3*5+2+j % 3):
 Below N W W2/\(∀b c T,g8 L b->ag W b c T->ag W2 b c T)/\ag W2 bT cs 43/\ag W2 t5 #[.slice (some ⟨bT,0,none⟩) 4 4] 28/\
 ∃m A,ib B bT t5 (λi=>if i=j then xs++[u]else X i) (W2.setCell ⟨bT,o,none⟩ (.slice (some ⟨g,0,none⟩) (xs.length+1) cap)) m A/\∀b,b<W.heap.size->g8 L b->g8 m b:=by
 subst y;subst k;subst t;have a:=ava (W:=W) #[u] (iS j);have h1:=h.below a;obtain⟨r,q,p⟩:=h1.push x f l hg cQ;obtain⟨C,z⟩:=eH.Ic h1.f2 f l hg cQ;have n:j<L.length:=AA;have k:L[j]=⟨iS j,v,X j⟩:=by grind
 have E:∀g,v.ownBlock=some g->B<=g:=λg hg=>(h.f2.lt n AA).1;refine⟨(a.mono As).trans (au_ hg AA Bg),λb c T d s=>ag.grown (s.call a) hg (λg' D e=>d j n AA),r,q,_,_,p,λb w d=>z b Bg d⟩
@[simp] theorem aF5 (a:Array Value) (w:aO):Sem.run (ae prog true) (callFunc 4 a) w=.ok (.enter 4 a) w:=cB (a6 (upd:=true) func4 AV) AV a w
def vd(r:dX)(j:Nat):List Value:=
 if j=0 then [.int .i64 (k8 r.1)]else if j=2 then [.bool (hQ r.1)]else if j=3 then [.int .i64 (fD r.2.1)]else if j=5 then [.bool (hQ r.2.1)]else if j=6 then [.int .i64 (fD r.2.2.1)]else if j=8 then [.bool (hQ r.2.2.1)]else if j=10 then [.string (jv r.2.2.2)]else if j=11 then [.bool (hQ r.2.2.2)]else []
def b5(rs:List dX)(n:Nat)(j:Nat):List Value:=(rs.take n).flatMap (vd · j)
theorem D8(rs:List dX)(h:n<rs.length)(j:Nat):b5 rs (n+1) j=b5 rs n j++vd rs[n] j:=by grind[b5,List.take_succ_eq_append_getElem]
theorem avb(r:dX)(j:Nat):(vd r j).length<=1:=by grind[vd]
theorem Ax(rs:List dX)(n:Nat)(j:Nat):(b5 rs n j).length<=n:=by induction n with|zero=>simp[b5]|succ n a=>grind[D8,avb,b5,List.take_of_length_le]
def Ay(rs:List dX)(n j:Nat)(f:dX->Value)(h:∀r,vd r j=[f r]):b5 rs n j=(rs.take n).map f:=by unfold b5;induction rs.take n with|nil=>rfl|cons r l a=>grind
def N_(rs:List dX)(n j:Nat)(h:∀r,vd r j=[]):b5 rs n j=[]:=by simp_all[b5]
def Az{al:Type}{R:aO->(Nat->Option Value)->al->Prop}{l:List dX}{f:dX->Value}{g:dX->al}(h:W.ownsRow B e 1 v (l.map f).length (l.map f))(a:∀r rd,rd 0=some (f r)->R W rd (g r)):a8 W 1 R v (l.map g):=
 xB h A_ AA
def Oa{al:Type}{R:aO->(Nat->Option Value)->al->Prop}(h:W.ownsRow B e 1 v ([]:List Value).length []):a8 W 1 R v []:=
 xB h Y AA
def avc{rs:List dX}(h:ib B bT t5 (b5 rs n) W L cs):jM W (.slice (some ⟨bT,0,none⟩) 4 4) (ca (rs.take n)):=by
 have own:∀j(_:j<12),∃v,cs[j / 3*5+2+j % 3]?=some v/\W.ownsRow B (iS j) 1 v (b5 rs n j).length (b5 rs n j):=λj k=>by obtain⟨v,h1,m⟩:=h.at_ j k;exact⟨v,m,h.f2.at h1⟩
 have cell:∀o x,cs[o]?=some x->W.cell? ⟨bT,o,none⟩=some x:=λo x g=>(h.box.rules.1 o).trans g;refine⟨⟨some ⟨bT,0,none⟩,4,Y,by show 4<=9223372036854775807;decide,λi hi=>⟨bT,0,Y,?_⟩⟩,λb l=>by cases l;exact⟨_,_,h.box⟩⟩;have f:i=0\/i=1\/i=2\/i=3:=by have:(ca (rs.take n)).length=4:=rfl;omega
 rcases f with rfl|rfl|rfl|rfl
 .obtain⟨bg,cX,d⟩:=own 0 As;obtain⟨vs,c1,c⟩:=own 1 As;obtain⟨e,cr,a⟩:=own 2 As;rw[Ay rs n 0 _ λ_=>Y]at d;rw[N_ rs n 1 λ_=>Y]at c;rw[Ay rs n 2 _ λ_=>Y]at a;exact⟨bg,vs,e,cell 0 _ (h.head 0 1 A_),cell 1 _ (h.head 1 0 A_),cell 2 _ cX,cell 3 _ c1,cell 4 _ cr,⟨Az d λ_ _ h=>h,Oa c,Az a λ_ _ h=>h⟩,qu d,qu c,qu a⟩
 .obtain⟨bg,cX,d⟩:=own 3 As;obtain⟨vs,c1,c⟩:=own 4 As;obtain⟨e,cr,a⟩:=own 5 As;rw[Ay rs n 3 _ λ_=>Y]at d;rw[N_ rs n 4 λ_=>Y]at c;rw[Ay rs n 5 _ λ_=>Y]at a;exact⟨bg,vs,e,cell 5 _ (h.head 5 1 A_),cell 6 _ (h.head 6 0 A_),cell 7 _ cX,cell 8 _ c1,cell 9 _ cr,⟨Az d λ_ _ h=>h,Oa c,Az a λ_ _ h=>h⟩,qu d,qu c,qu a⟩
 .obtain⟨bg,cX,d⟩:=own 6 As;obtain⟨vs,c1,c⟩:=own 7 As;obtain⟨e,cr,a⟩:=own 8 As;rw[Ay rs n 6 _ λ_=>Y]at d;rw[N_ rs n 7 λ_=>Y]at c;rw[Ay rs n 8 _ λ_=>Y]at a;exact⟨bg,vs,e,cell 10 _ (h.head 10 2 A_),cell 11 _ (h.head 11 2 A_),cell 12 _ cX,cell 13 _ c1,cell 14 _ cr,⟨Az d λ_ _ h=>h,Oa c,Az a λ_ _ h=>h⟩,qu d,qu c,qu a⟩
 .obtain⟨bg,cX,d⟩:=own 9 As;obtain⟨vs,c1,c⟩:=own 10 As;obtain⟨e,cr,a⟩:=own 11 As;rw[N_ rs n 9 λ_=>Y]at d;rw[Ay rs n 10 _ λ_=>Y]at c;rw[Ay rs n 11 _ λ_=>Y]at a;exact⟨bg,vs,e,cell 15 _ (h.head 15 3 A_),cell 16 _ (h.head 16 0 A_),cell 17 _ cX,cell 18 _ c1,cell 19 _ cr,⟨Oa d,Az c λr _ h=>⟨h,by grind[D7]⟩,Az a λ_ _ h=>h⟩,qu d,qu c,qu a⟩
end cM
namespace aG
open Conc ConcM RowKit av bn cz c5 bZ bN cM
section
variable{n0:Nat}
def J7:Value->Prop
 | .int .. | .bool _ | .string _=>True
 | _=>False
theorem vR{ρ:Ren}{x y:Value}(hs:J7 x)(h:ay ρ x y):y=x:=by cases h<;>first|rfl|exact hs.elim
def avB{ρ:Ren}{w w':aO}(b:xH n0 ρ w w'){v a:Value}(c:ay ρ v a){e:TypeId}{n:Nat}{xs:List Value}(hS:∀x∈xs,J7 x)(h:w.ownsRow n0 e 1 v n xs):w'.ownsRow n0 e 1 a n xs/\∀g',a.ownBlock=some g'->∃g,v.ownBlock=some g/\ρ.rel g g':=by
 obtain⟨d,⟨rfl,hn⟩|⟨g,cap,be,rfl,hg,f,h1,l,h3,k⟩⟩:=h
 .rw[qv c];exact⟨⟨d,AA⟩,λg' e=>Dv⟩
 .obtain⟨g',rfl,r⟩:=xK c;obtain⟨c',j,p⟩:=b.types _ _ _ _ _ r f;refine⟨⟨d,.inr ⟨g',cap,c',Y,b.new _ _ r hg,j,h1,l,AA,?_⟩⟩,λq e=>by cases e;exact⟨g,Y,r⟩⟩;rw[<-k];refine List.ext_getElem? λi=>?_;rw[List.getElem?_take,List.getElem?_take];split
  .rename_i hi;have o:i<xs.length:=AA;have u:be.toList[i]?=some xs[i]:=by grind
   have m:w.cell? ⟨g,i,none⟩=some xs[i]:=by grind[World.cell?]
   obtain⟨y,t,s⟩:=b.cells ⟨g,i,none⟩ ⟨g',i,none⟩ _ ⟨r,Y,Y⟩ m;grind[vR,List.getElem_mem,World.cell?]
  .rfl
def D9(n0:Nat)(X:Nat->List Value)(W:aO)(v:Value):Prop:=∃bT br L cs,v=.pointer (some ⟨br,0,none⟩)/\ib n0 bT br X W L cs
def D_(n0:Nat)(W:aO)(v:Value):Prop:=∃b,v=.pointer (some ⟨b,0,none⟩)/\n0<=b/\ag W b #[.slice none 0 0] 28
theorem avC:j2 n0 (D_ n0):=by rintro ρ w w' v f a d ⟨b,rfl,hn,h⟩;obtain⟨e,rfl,r⟩:=FR d;obtain⟨g,h1,k⟩:=Vi (l:=[.slice none 0 0]) a r h;cases k with|cons c k=>cases k;rw[qv c]at h1;exact⟨e,Y,a.new _ _ r hn,h1⟩
theorem avD{X:Nat->List Value}(I:∀j,∀x∈X j,J7 x):j2 n0 (D9 n0 X):=by
 rintro ρ w w' v b f E ⟨bT,br,L,cs,rfl,h⟩;obtain⟨K,rfl,A⟩:=FR E;obtain⟨P,C,s⟩:=Vi (l:=[.slice (some ⟨bT,0,none⟩) 4 4]) f A h.br;cases s with
 |cons s J=>
  cases J;obtain⟨z,rfl,rc⟩:=xK s;obtain⟨lc,D,kc⟩:=Vi (l:=cs.toList) f rc h.box;have hlen:lc.length=20:=by rw[<-kc.length];simpa using h.size
  have get:∀i x,cs[i]?=some x->∃y,lc[i]?=some y/\ay ρ x y:=λi x B=>by
   have hi:i<cs.size:=by
    rcases Nat.lt_or_ge i cs.size with q|q
    .exact q
    .rw[Array.getElem?_eq_none q]at B;cases B
   have m:i<lc.length:=by rw[hlen,<-h.size];exact hi
   refine⟨lc[i],List.getElem?_eq_getElem m,?_⟩;have:=(aS.KO kc).get i x lc[i] AA AA;grind
  have at_:∀j,j<12->∃v b,L[j]?=some ⟨iS j,v,X j⟩/\lc[j / 3*5+2+j % 3]?=some b/\ay ρ v b:=λj d=>by obtain⟨v,h1,o⟩:=h.at_ j d;grind
  let a:List eJ:=(List.range 12).map λj=>⟨iS j,lc[j / 3*5+2+j % 3]?.getD undef,X j⟩
  have M:a.length=12:=AA;have u:∀j(d:j<12),∃v b,L[j]?=some ⟨iS j,v,X j⟩/\a[j]?=some ⟨iS j,b,X j⟩/\lc[j / 3*5+2+j % 3]?=some b/\ay ρ v b:=AA;have own:∀j(d:j<a.length),w'.ownsRow n0 a[j].e 1 a[j].v a[j].xs.length a[j].xs/\∀g',a[j].v.ownBlock=some g'->∃(k:j<L.length)(g:Nat),L[j].v.ownBlock=some g/\ρ.rel g g':=λj d=>by obtain⟨v,b,h1,o,h3,F⟩:=u j AA;rw[List.getElem?_eq_getElem d]at o;rw[Option.some.inj o];have Q:j<L.length:=AA;obtain⟨N,O⟩:=avB f F (I j) (h.f2.at h1);grind
  refine⟨z,K,a,lc.toArray,Y,⟨⟨AA,λi j hi d g n r p=>?_⟩,M,D,AA,λc x t=>?_,λj d=>?_,C,f.new _ _ rc h.lo.1,λe=>?_⟩⟩
  .obtain⟨m,g1,f1,kA⟩:=(own i hi).2 g r;obtain⟨k,H,f3,f4⟩:=(own j d).2 g p;rw[f.inj _ _ _ kA f4]at f1;exact h.f2.apart i j m k H n f1 f3
  .obtain⟨y,r,p⟩:=get _ _ (h.head c x t);rw[vR (x:=.int .i64 x) trivial p]at r;grind
  .grind
  .rw[e]at rc;exact h.lo.2 (f.inj _ _ _ rc A)
theorem avH(rs:List dX)(n j:Nat):∀x∈b5 rs n j,J7 x:=by
 intro x a;simp only[b5,List.mem_flatMap]at a;obtain⟨r,-,a⟩:=a;unfold vd at a;repeat' split at a
 all_goals first|(simp only[List.mem_cons,List.not_mem_nil,or_false]at a;subst a;trivial)|grind
end
end aG
namespace cM
open RowKit Shelf av bZ bN aG
section
attribute [local go_sem] Oper.semAt_some
def avI(n0 bA nF g5:Nat)(gM:Value)(w0:aO)(rs:List dX)(n:Nat)(a:Act)(W:aO):Prop:=(a.defers=[]/\a.tmps.size=123/\a.tmps[1]?=some (.int .i64 40)/\a.tmps[4]?=some gM/\a.tmps[5]?=some (.pointer (some ⟨g5,0,none⟩))/\a.tmps[6]?=some (.int .i64 n))/\(∃L cs,ib n0 bA g5 (b5 rs (n+1)) W L cs)/\ag W nF #[.slice none 0 0] 28/\Below n0 w0 W
def avJ(rs:List dX)(n:Nat)(BU:n<rs.length)(ej:n<40)(i0:cD rs[n].1)(i1:cD rs[n].2.1)(i2:cD rs[n].2.2.1)(i3:cD rs[n].2.2.2)(n0 b nF l q:Nat)(w0 f:aO)(L:List eJ)(cs:Array Value)(kT:n0<=w0.heap.size)(hq:ib n0 b l (b5 rs n) f L cs)(OL:ag f q #[.int .i64 rs[n].1,.int .i64 rs[n].2.1,.int .i64 rs[n].2.2.1,.int .i64 rs[n].2.2.2] 57)(yB:ag f nF #[.slice none 0 0] 28)(hb:Below n0 w0 f)(vP:g8 L q)(ad5:b≠q)(ad6:b≠nF)(pY dA eX gM yP JK Oc Od Oe Of Og Oh Oi Oj Ok Ol Om va On JJ Oo Oq Ot Ou Ov Ow Ox Oy Oz OA OB OC OD OE OF OG avK avL avM avN avO wv zP avP avQ avR avS avT avU avV avW avX avY avZ av0 av1 av2 av3 av4 av5 av6 av7 av8 av9 av_ awa awb awc awd awe awf awg awh awi awj awk awl awm awn awo awp awq awr aws awt awu awv aww awx awy awz awA awB awC awD awE awF awG awH awI awJ awK awL awM awN awO awP awQ awR awS awT awU awV awW awX awY awZ aw0 aw1:Value):
 Code.wpIn Fence.wide 3 (ae prog true) (sy Tryz.f4 5) (jb (avI n0 b nF l gM w0 rs n)) ⟨#[pY,.int .i64 40,dA,eX,gM,.pointer (some ⟨l,0,none⟩),.int .i64 n,.pointer (some ⟨q,0,none⟩),yP,JK,Oc,Od,Oe,Of,Og,Oh,Oi,Oj,Ok,Ol,Om,va,On,JJ,Oo,Oq,Ot,Ou,Ov,Ow,Ox,Oy,Oz,OA,OB,OC,OD,OE,OF,OG,avK,avL,avM,avN,avO,wv,zP,avP,avQ,avR,avS,avT,avU,avV,avW,avX,avY,avZ,av0,av1,av2,av3,av4,av5,av6,av7,av8,av9,av_,awa,awb,awc,awd,awe,awf,awg,awh,awi,awj,awk,awl,awm,awn,awo,awp,awq,awr,aws,awt,awu,awv,aww,awx,awy,awz,awA,awB,awC,awD,awE,awF,awG,awH,awI,awJ,awK,awL,awM,awN,awO,awP,awQ,awR,awS,awT,awU,awV,awW,awX,awY,awZ,aw0,aw1],[]⟩ f:=by
 simp[sy,Tryz.f4,bO.dR,bO.ky];have aGb:l<f.heap.size:=hq.br.lt;have aGc:b<f.heap.size:=hq.box.lt;have aGd:nF<f.heap.size:=yB.lt;have aGe:q<f.heap.size:=OL.lt;have aGf:b≠l:=hq.lo.2;have iX:n0<=b:=hq.lo.1;have D4:Hid (ib n0 b l (b5 rs n) f L cs):=hq;have GL:Hid (ag f nF #[.slice none 0 0] 28):=yB;have b_:Hid (Below n0 w0 f):=hb;have aw2:Hid (g8 L q):=vP;have Z:Hid (n0<=w0.heap.size):=kT;obtain⟨f1,kA,f3⟩:=OL.all;have aw3:Hid _:=OL;clear hq yB hb vP OL;gi_wp2
 have mM:Below f.heap.size f (f.alloc (.cells #[.int .i64 rs[n].1,.int .i64 rs[n].2.1,.int .i64 rs[n].2.2.1] 23)):=(Below.refl _ f).alloc J1 _;have sC:ag (f.alloc (.cells #[.int .i64 rs[n].1,.int .i64 rs[n].2.1,.int .i64 rs[n].2.2.1] 23)) q #[.int .i64 rs[n].1,.int .i64 rs[n].2.1,.int .i64 rs[n].2.2.1,.int .i64 rs[n].2.2.2] 57:=ag.alloc aw3.out _;have yP:ag (f.alloc (.cells #[.int .i64 rs[n].1,.int .i64 rs[n].2.1,.int .i64 rs[n].2.2.1] 23)) f.heap.size #[.int .i64 rs[n].1,.int .i64 rs[n].2.1,.int .i64 rs[n].2.2.1] 23:=ag.new f _ _;have vL:(f.alloc (.cells #[.int .i64 rs[n].1,.int .i64 rs[n].2.1,.int .i64 rs[n].2.2.1] 23)).heap.size=f.heap.size+1:=A_;have J8:Hid _:=sC;have vK:Hid _:=yP;have xy:Hid _:=mM;clear sC yP mM f1 kA f3;generalize(f.alloc (.cells #[.int .i64 rs[n].1,.int .i64 rs[n].2.1,.int .i64 rs[n].2.2.1] 23))=U at *;refine wpIn_region_any BA (BY (C:=λW=>ag W q #[.int .i64 rs[n].1,.int .i64 rs[n].2.1,.int .i64 rs[n].2.2.1,.int .i64 rs[n].2.2.2] 57) _ _ _ _ ?_);have HC:Hid (ag U.drew q #[.int .i64 rs[n].1,.int .i64 rs[n].2.1,.int .i64 rs[n].2.2.1,.int .i64 rs[n].2.2.2] 57):=J8.out;refine mR (i:=0) (v:=.pointer (some ⟨q,0,none⟩)) Y BA BA BA KU HC.out ⟨Bo,λW _=>Be,λc=>A_,λ_=>Y⟩ ?_;refine mR (i:=3) (v:=.pointer (some ⟨q,1,none⟩)) Y BA BA BA KU HC.out ⟨Bo,λW _=>Be,λc=>A_,λ_=>Y⟩ ?_;refine mR (i:=6) (v:=.pointer (some ⟨q,2,none⟩)) Y BA BA BA KU HC.out ⟨Bo,λW _=>Be,λc=>A_,λ_=>Y⟩ ?_;refine mR (i:=1) (v:=.int .i64 rs[n].1) Y BA BA BA KU HC.out ⟨Bo,λW d=>Ci,λc=>A_,λ_=>Y⟩ ?_;refine mR (i:=4) (v:=.int .i64 rs[n].2.1) Y BA BA BA KU HC.out ⟨Bo,λW d=>Ci,λc=>A_,λ_=>Y⟩ ?_;refine mR (i:=7) (v:=.int .i64 rs[n].2.2.1) Y BA BA BA KU HC.out ⟨Bo,λW d=>Ci,λc=>A_,λ_=>Y⟩ ?_;refine h7 (i:=2) BA Y λK hK=>?_;go_simp
 refine⟨PA,(callsIn_wide.2 (asb _ i0 _)).mono ?_⟩;rintro e w' ⟨rfl,rfl⟩;refine hK _ _ HC.out ?_;clear hK K;refine h7 (i:=5) BA Y λK hK=>?_;go_simp
 refine⟨PA,(callsIn_wide.2 (O5 _ i1 _)).mono ?_⟩;rintro e w' ⟨rfl,rfl⟩;refine hK _ _ HC.out ?_;clear hK K;refine h7 (i:=8) BA Y λK hK=>?_;go_simp
 refine⟨PA,(callsIn_wide.2 (O5 _ i2 _)).mono ?_⟩;rintro e w' ⟨rfl,rfl⟩;refine hK _ _ HC.out ?_;clear hK K;refine h7 (i:=9) BA Y λK hK=>?_;go_simp
 refine hK _ _ (ag.alloc HC.out _) ?_;clear hK K;refine h7 (i:=10) BA Y λK hK=>?_;go_simp
 refine hK _ _ (ag.alloc HC.out _) ?_;clear hK K;refine BZ BA ?_ _;gi_wp2
 have zk:Below f.heap.size f (U.alloc (.cells #[.int .i64 (k8 rs[n].1),.int .i64 (fD rs[n].2.1),.int .i64 (fD rs[n].2.2.1)] 2)).drew:=(xy.out.alloc As _).trans (show Below _ _ _ from⟨Y,Y,Y,Nat.le_refl _,λ_ _=>Y⟩);have acG:ag (U.alloc (.cells #[.int .i64 (k8 rs[n].1),.int .i64 (fD rs[n].2.1),.int .i64 (fD rs[n].2.2.1)] 2)).drew q #[.int .i64 rs[n].1,.int .i64 rs[n].2.1,.int .i64 rs[n].2.2.1,.int .i64 rs[n].2.2.2] 57:=ag.alloc J8.out _;have Gx:ag (U.alloc (.cells #[.int .i64 (k8 rs[n].1),.int .i64 (fD rs[n].2.1),.int .i64 (fD rs[n].2.2.1)] 2)).drew (f.heap.size) #[.int .i64 rs[n].1,.int .i64 rs[n].2.1,.int .i64 rs[n].2.2.1] 23:=ag.alloc vK.out _;have aw4:ag (U.alloc (.cells #[.int .i64 (k8 rs[n].1),.int .i64 (fD rs[n].2.1),.int .i64 (fD rs[n].2.2.1)] 2)).drew (f.heap.size+1) #[.int .i64 (k8 rs[n].1),.int .i64 (fD rs[n].2.1),.int .i64 (fD rs[n].2.2.1)] 2:=by have:=ag.new U #[.int .i64 (k8 rs[n].1),.int .i64 (fD rs[n].2.1),.int .i64 (fD rs[n].2.2.1)] 2;rw[vL]at this;exact this
 have aw5:=D4.out.below zk;have aw6:=GL.out.call zk;have aw7:Below n0 w0 (U.alloc (.cells #[.int .i64 (k8 rs[n].1),.int .i64 (fD rs[n].2.1),.int .i64 (fD rs[n].2.2.1)] 2)).drew:=b_.out.trans (zk.mono AA);have aw8:g8 L q/\g8 L (f.heap.size)/\g8 L (f.heap.size+1):=⟨aw2.out,D4.out.f2.ng AA,D4.out.f2.ng AA⟩;have Nm:n0<=f.heap.size:=AA;clear J8 vK xy HC;generalize(U.alloc (.cells #[.int .i64 (k8 rs[n].1),.int .i64 (fD rs[n].2.1),.int .i64 (fD rs[n].2.2.1)] 2)).drew=aGg at *;clear vL;gi_loopw [10] (λp W=>∃(k:Nat)(L:List eJ)(cs:Array Value),k<=3/\p=.int .i64 k/\ib (n0) (b) (l) (λj=>if j / 3<k then b5 rs (n+1) j else b5 rs n j) W L cs/\ag W nF #[.slice none 0 0] 28/\Below n0 w0 W/\
  (ag W q #[.int .i64 rs[n].1,.int .i64 rs[n].2.1,.int .i64 rs[n].2.2.1,.int .i64 rs[n].2.2.2] 57/\ag W (f.heap.size) #[.int .i64 rs[n].1,.int .i64 rs[n].2.1,.int .i64 rs[n].2.2.1] 23/\ag W (f.heap.size+1) #[.int .i64 (k8 rs[n].1),.int .i64 (fD rs[n].2.1),.int .i64 (fD rs[n].2.2.1)] 2)/\
  (g8 L q/\g8 L (f.heap.size)/\g8 L (f.heap.size+1)))
  (λi _=>3-(intOf i).toNat)
 case atStart=>grind
 case round=>
  obtain⟨k,OM,cs1,lN,rfl,Vk,fQ,a9,⟨R,wB,J3⟩,ON⟩:=hrel;have I:Hid (ib (n0) (b) (l) (λj=>if j / 3<k then b5 rs (n+1) j else b5 rs n j) wr OM cs1):=Vk;clear aw5 aw6 aw7 acG Gx aw4 aw8 zk;by_cases hk:k<3
  .obtain⟨J,P,Sl,Sk,hI,q0,bu,bb⟩:∃J P,(#[.int .i64 rs[n].1,.int .i64 rs[n].2.1,.int .i64 rs[n].2.2.1]:Array Value)[k]?=some (.int .i64 J)/\(#[.int .i64 (k8 rs[n].1),.int .i64 (fD rs[n].2.1),.int .i64 (fD rs[n].2.2.1)]:Array Value)[k]?=some (.int .i64 P)/\cD J/\vd rs[n] (3*k)=[.int .i64 P]/\vd rs[n] (3*k+1)=[]/\vd rs[n] (3*k+2)=[.bool (hQ J)]:=by
    have:k=0\/k=1\/k=2:=As;rcases this with rfl|rfl|rfl
    .exact⟨_,_,Y,Y,i0,Y,Y,Y⟩
    .exact⟨_,_,Y,Y,i1,Y,Y,Y⟩
    .exact⟨_,_,Y,Y,i2,Y,Y,Y⟩
   have vE:=λW(h:ag W (f.heap.size) #[.int .i64 rs[n].1,.int .i64 rs[n].2.1,.int .i64 rs[n].2.2.1] 23)=>(h.rules.1 k).trans Sl;have tR:=λW(h:ag W (f.heap.size+1) #[.int .i64 (k8 rs[n].1),.int .i64 (fD rs[n].2.1),.int .i64 (fD rs[n].2.2.1)] 2)=>(h.rules.1 k).trans Sk;have aw9:Hid _:=vE;have aw_:Hid _:=tR;have Ck:Hid _:=(⟨R,wB,J3⟩:_/\_/\_);have qY:Hid _:=fQ;have V:Hid _:=a9;have S:Hid _:=ON;have Vl:Hid _:=(⟨q0,bu,bb⟩:_/\_/\_);obtain⟨axa,nM,Vm⟩:=I.out.at_ (3*k) As;rw[show 3*k / 3*5+2+3*k % 3=k*5+2 by omega]at Vm;have Qi:(if 3*k / 3<k then b5 rs (n+1) (3*k)else b5 rs n (3*k))=b5 rs n (3*k):=AA;simp at nM;obtain⟨p0,r0,rfl⟩:=m9 (show wr.ownsRow _ (iS (3*k)) 1 axa (b5 rs n (3*k)).length _ from I.out.f2.at nM);have Vn:Hid _:=nM;have Vo:Hid _:=Vm;have oq:(0:Int)<=(k:Int):=As;have zr:(k:Int)<3:=As;have adP:(k:Int)<4:=As;clear Sl Sk vE tR R wB J3 fQ a9 ON q0 bu bb Vk nM Vm Qi;gi_wp2
   refine wpIn_region_any BA (BY (C:=λW=>ag W (l) #[.slice (some ⟨b,0,none⟩) 4 4] 28/\ag W (f.heap.size+1) #[.int .i64 (k8 rs[n].1),.int .i64 (fD rs[n].2.1),.int .i64 (fD rs[n].2.2.1)] 2) _ _ _ _ ?_);have HC:Hid (ag wr.drew (l) #[.slice (some ⟨b,0,none⟩) 4 4] 28/\ag wr.drew (f.heap.size+1) #[.int .i64 (k8 rs[n].1),.int .i64 (fD rs[n].2.1),.int .i64 (fD rs[n].2.2.1)] 2):=⟨I.out.br,Ck.out.2.2⟩;refine hL (i:=0) (v:=.pointer (some ⟨l,0,none⟩)) Y Y BA BA BA KU HC.out ⟨Bo,λW d=>Be,λc=>A_,λ_=>Y⟩ ?_;refine hL (i:=3) (v:=.pointer (some ⟨l,0,none⟩)) Y Y BA BA BA KU HC.out ⟨Bo,λW d=>Be,λc=>A_,λ_=>Y⟩ ?_;refine hL (i:=2) (v:=.int .i64 k) Y Y BA BA BA KU HC.out ⟨Bo,λW d=>Be,λc=>A_,λ_=>Y⟩ ?_;refine hL (i:=5) (v:=.int .i64 k) Y Y BA BA BA KU HC.out ⟨Bo,λW d=>Be,λc=>A_,λ_=>Y⟩ ?_;refine hL (i:=9) (v:=.slice (some ⟨f.heap.size+1,0,none⟩) 3 3) Y Y BA BA BA KU HC.out ⟨Bo,λW d=>Be,λc=>A_,λ_=>Y⟩ ?_;refine hL (i:=10) (v:=.int .i64 k) Y Y BA BA BA KU HC.out ⟨Bo,λW d=>Be,λc=>A_,λ_=>Y⟩ ?_;refine hL (i:=1) (v:=.slice (some ⟨b,0,none⟩) 4 4) Y Y BA BA BA KU HC.out ⟨Bo,λW d=>by obtain⟨B,O,M⟩:=ag.all d.1;go_simp,λc=>A_,λ_=>Y⟩ ?_;refine hL (i:=4) (v:=.slice (some ⟨b,0,none⟩) 4 4) Y Y BA BA BA KU HC.out ⟨Bo,λW d=>by obtain⟨B,O,M⟩:=ag.all d.1;go_simp,λc=>A_,λ_=>Y⟩ ?_;refine hL (i:=6) (v:=.pointer (some ⟨b,k*5,none⟩)) Y Y BA BA BA KU HC.out ⟨Bo,λW d=>Be,λc=>A_,λ_=>Y⟩ ?_;refine hL (i:=7) (v:=.pointer (some ⟨b,k*5+2,none⟩)) Y Y BA BA BA KU HC.out ⟨Bo,λW d=>Be,λc=>A_,λ_=>Y⟩ ?_;refine hL (i:=11) (v:=.pointer (some ⟨f.heap.size+1,k,none⟩)) Y Y BA BA BA KU HC.out ⟨Bo,λW d=>Be,λc=>A_,λ_=>Y⟩ ?_;refine hL (i:=12) (v:=.int .i64 P) Y Y BA BA BA KU HC.out ⟨Bo,λW d=>by have B:=aw_.out _ d.2;go_simp,λc=>A_,λ_=>Y⟩ ?_;have A:wr.drew.cell? ⟨b,k*5+2,none⟩=some (.slice p0 (b5 rs n (3*k)).length r0):=(I.out.box.rules.1 _).trans Vo.out;refine N7 (i:=8) (j:=13) (v:=.slice p0 (b5 rs n (3*k)).length r0) (u:=.slice (some ⟨wr.heap.size,0,none⟩) 1 1) (w1:=wr.drew.alloc (.cells #[.int .i64 P] 2)) BA BA BA Y Y Ae Y Y Ae ⟨Y,Y⟩ (λc=>⟨A_,A_⟩) (λ_ _=>⟨Y,Y⟩) Be Be Be (by have g1:(wr.alloc (.cells #[.int .i64 P] 2)).drew.cell? ⟨b,k*5+2,none⟩=_:=aG.ru A (.cells #[.int .i64 P] 2);go_simp) HC.out ⟨ag.alloc HC.out.1 _,ag.alloc HC.out.2 _⟩ ?_;have oc:iS (3*k)=2:=by simp[iS]
   refine h7 (i:=14) BA Y λK hK=>?_;refine N8 Qw _ Y _ _ Y (n0) (.slice p0 (b5 rs n (3*k)).length r0) (b5 rs n (3*k)).length (b5 rs n (3*k)) ((N5 Ae).trans (Aw EI)) (by have h:=I.out.f2.at Vn.out;rw[show(iS (3*k))=2 from oc]at h;exact World.ownsRow.alloc (w:=wr.drew) h _) wr.heap.size (.int .i64 P) (Aw EI) (nE (World.alloc_heap_new wr.drew _) Y Y) Y (by have:=Ax rs n (3*k);omega) (by have:=Ax rs n (3*k);omega) (by have:=Nat.le_trans Z.out V.out.size;simp;omega) ?_;intro g c W2 D F cQ;obtain⟨z,s,t,x,L2,axb,oa,OO⟩:=ib.N9 (N:=n0) I.out (j:=3*k) As (xs:=b5 rs n (3*k)) (if_neg As) oc Vn.out D F cQ As (Nat.le_trans Z.out V.out.size) (o:=k*5+2) As;have cI:=s _ _ _ S.out.1 Ck.out.1;have l7:=s _ _ _ S.out.2.1 Ck.out.2.1;have yS:=s _ _ _ S.out.2.2 Ck.out.2.2;have bc:=s _ _ _ (I.out.ng qY.out K1) qY.out;have axc:f.heap.size+1<wr.heap.size:=Ck.out.2.2.lt;have m:Hid (ag W2 (l) #[.slice (some ⟨b,0,none⟩) 4 4] 28/\ag W2 (f.heap.size+1) #[.int .i64 (k8 rs[n].1),.int .i64 (fD rs[n].2.1),.int .i64 (fD rs[n].2.2.1)] 2):=⟨x,yS⟩;refine hK _ _ m.out ?_;clear hK K;have g2:W2.cell? ⟨b,k*5+2,none⟩=some (.slice p0 (b5 rs n (3*k)).length r0):=(t.rules.1 _).trans Vo.out;have fh:=t.rules.2;refine h7 (i:=15) BA Y λK hK=>?_;go_simp
   refine hK _ _ m.out ?_;clear hK K;refine h7 (i:=16) BA Y λK hK=>?_;go_simp
   refine hK _ _ m.out ?_;clear hK K;refine h7 (i:=17) BA Y λK hK=>?_;go_simp
   refine hK _ _ ⟨ag.iA m.out.1 Bg _,ag.iA m.out.2 Bg _⟩ ?_;clear hK K;refine BZ BA ?_ _;have J9:=cI.iA (a:=⟨b,k*5+2,none⟩) Bg (.slice (some ⟨g,0,none⟩) ((b5 rs n (3*k)).length+1) c);have GM:=l7.iA (a:=⟨b,k*5+2,none⟩) Bg (.slice (some ⟨g,0,none⟩) ((b5 rs n (3*k)).length+1) c);have GN:=yS.iA (a:=⟨b,k*5+2,none⟩) Bg (.slice (some ⟨g,0,none⟩) ((b5 rs n (3*k)).length+1) c);have E:=bc.iA (a:=⟨b,k*5+2,none⟩) Bg (.slice (some ⟨g,0,none⟩) ((b5 rs n (3*k)).length+1) c);have qF:Below n0 w0 (W2.setCell ⟨b,k*5+2,none⟩ (.slice (some ⟨g,0,none⟩) ((b5 rs n (3*k)).length+1) c)):=(V.out.trans z).setCell (p:=⟨b,k*5+2,none⟩) As _;have n7:g8 L2 q/\g8 L2 (f.heap.size)/\g8 L2 (f.heap.size+1):=⟨OO _ As S.out.1,OO _ As S.out.2.1,OO _ As S.out.2.2⟩;have EY:f.heap.size+1<(W2.setCell ⟨b,k*5+2,none⟩ (.slice (some ⟨g,0,none⟩) ((b5 rs n (3*k)).length+1) c)).heap.size:=GN.lt;clear A g2 fh m HC cI l7 yS bc z s t x OO D F cQ I Ck qY V S Vn Vo;generalize W2.setCell ⟨b,k*5+2,none⟩ (.slice (some ⟨g,0,none⟩) ((b5 rs n (3*k)).length+1) c)=q2 at *;clear axc W2;have iY:=aw9.out _ GM;have T:Hid (ib (n0) (b) (l) _ q2 L2 axb):=oa;have OP:Hid _:=(⟨J9,GM,GN⟩:_/\_/\_);have Vp:Hid _:=E;have qx:Hid _:=qF;have Ea:Hid _:=n7;clear oa J9 GM GN E qF n7;gi_wp2_with (refine⟨PA,(callsIn_wide.2 (tL J hI _)).mono ?_⟩;rintro e y ⟨rfl,rfl⟩)
   clear iY;obtain⟨axd,m5,Vq⟩:=T.out.at_ (3*k+2) As;rw[show(3*k+2) / 3*5+2+(3*k+2) % 3=k*5+4 by omega]at Vq;have ot:(if 3*k+2=3*k then b5 rs n (3*k)++[.int .i64 P]else if(3*k+2) / 3<k then b5 rs (n+1) (3*k+2)else b5 rs n (3*k+2))=b5 rs n (3*k+2):=by rw[if_neg As,if_neg As]
   simp only[ot]at m5;obtain⟨p2,r2,rfl⟩:=m9 (show y.ownsRow _ (iS (3*k+2)) 1 axd (b5 rs n (3*k+2)).length _ from T.out.f2.at m5);have IG:Hid _:=m5;have Vr:Hid _:=Vq;have w8:Hid _:=ot;clear m5 Vq ot;refine wpIn_region_any BA (BY (C:=λW=>ag W (l) #[.slice (some ⟨b,0,none⟩) 4 4] 28) _ _ _ _ ?_);have HC:Hid (ag y.drew (l) #[.slice (some ⟨b,0,none⟩) 4 4] 28):=T.out.br;refine hL (i:=0) (v:=.pointer (some ⟨l,0,none⟩)) Y Y BA BA BA KU HC.out ⟨Bo,λW d=>Be,λc=>A_,λ_=>Y⟩ ?_;refine hL (i:=3) (v:=.pointer (some ⟨l,0,none⟩)) Y Y BA BA BA KU HC.out ⟨Bo,λW d=>Be,λc=>A_,λ_=>Y⟩ ?_;refine hL (i:=2) (v:=.int .i64 k) Y Y BA BA BA KU HC.out ⟨Bo,λW d=>Be,λc=>A_,λ_=>Y⟩ ?_;refine hL (i:=5) (v:=.int .i64 k) Y Y BA BA BA KU HC.out ⟨Bo,λW d=>Be,λc=>A_,λ_=>Y⟩ ?_;refine hL (i:=9) (v:=.bool (hQ J)) Y Y BA BA BA KU HC.out ⟨Bo,λW d=>Be,λc=>A_,λ_=>Y⟩ ?_;refine hL (i:=1) (v:=.slice (some ⟨b,0,none⟩) 4 4) Y Y BA BA BA KU HC.out ⟨Bo,λW d=>Ci,λc=>A_,λ_=>Y⟩ ?_;refine hL (i:=4) (v:=.slice (some ⟨b,0,none⟩) 4 4) Y Y BA BA BA KU HC.out ⟨Bo,λW d=>Ci,λc=>A_,λ_=>Y⟩ ?_;refine hL (i:=6) (v:=.pointer (some ⟨b,k*5,none⟩)) Y Y BA BA BA KU HC.out ⟨Bo,λW d=>Be,λc=>A_,λ_=>Y⟩ ?_;refine hL (i:=7) (v:=.pointer (some ⟨b,k*5+4,none⟩)) Y Y BA BA BA KU HC.out ⟨Bo,λW d=>Be,λc=>A_,λ_=>Y⟩ ?_;have A:y.drew.cell? ⟨b,k*5+4,none⟩=some (.slice p2 (b5 rs n (3*k+2)).length r2):=(T.out.box.rules.1 _).trans Vr.out;refine N7 (i:=8) (j:=10) (v:=.slice p2 (b5 rs n (3*k+2)).length r2) (u:=.slice (some ⟨y.heap.size,0,none⟩) 1 1) (w1:=y.drew.alloc (.cells #[.bool (hQ J)] 4)) BA BA BA Y Y Ae Y Y Ae ⟨Y,Y⟩ (λc=>⟨A_,A_⟩) (λ_ _=>⟨Y,Y⟩) Be Be Be (by have g1:(y.alloc (.cells #[.bool (hQ J)] 4)).drew.cell? ⟨b,k*5+4,none⟩=_:=aG.ru A (.cells #[.bool (hQ J)] 4);go_simp) HC.out (ag.alloc HC.out _) ?_;have nS:iS (3*k+2)=4:=by simp[iS]
   refine h7 (i:=11) BA Y λK hK=>?_;refine N8 HJ _ Y _ _ Y (n0) (.slice p2 (b5 rs n (3*k+2)).length r2) (b5 rs n (3*k+2)).length (b5 rs n (3*k+2)) ((N5 Ae).trans (Aw EI)) (by have h:=T.out.f2.at IG.out;rw[show(iS (3*k+2))=4 from nS]at h;exact World.ownsRow.alloc (w:=y.drew) h _) y.heap.size (.bool (hQ J)) (Aw EI) (nE (World.alloc_heap_new y.drew _) Y Y) Y (by have:=Ax rs n (3*k+2);omega) (by have:=Ax rs n (3*k+2);omega) (by have:=As;simp;omega) ?_;intro g' c' r D F cQ;obtain⟨z,s,t,x,J_,nO,m7,OQ⟩:=ib.N9 (N:=n0) T.out (j:=3*k+2) As (xs:=b5 rs n (3*k+2)) w8.out nS IG.out D F cQ As As (o:=k*5+4) As;have cI:=s _ _ _ Ea.out.1 OP.out.1;have l7:=s _ _ _ Ea.out.2.1 OP.out.2.1;have yS:=s _ _ _ Ea.out.2.2 OP.out.2.2;have bc:=s _ _ _ (T.out.ng Vp.out K1) Vp.out;refine hK _ _ x ?_;clear hK K;have g2:r.cell? ⟨b,k*5+4,none⟩=some (.slice p2 (b5 rs n (3*k+2)).length r2):=(t.rules.1 _).trans Vr.out;have fh:=t.rules.2;have m:Hid (ag r (l) #[.slice (some ⟨b,0,none⟩) 4 4] 28):=x;refine h7 (i:=12) BA Y λK hK=>?_;go_simp
   refine hK _ _ m.out ?_;clear hK K;refine h7 (i:=13) BA Y λK hK=>?_;go_simp
   refine hK _ _ m.out ?_;clear hK K;refine h7 (i:=14) BA Y λK hK=>?_;go_simp
   refine hK _ _ (ag.iA m.out Bg _) ?_;clear hK K;refine BZ BA ?_ _;have J9:=cI.iA (a:=⟨b,k*5+4,none⟩) AA (.slice (some ⟨g',0,none⟩) ((b5 rs n (3*k+2)).length+1) c');have GM:=l7.iA (a:=⟨b,k*5+4,none⟩) AA (.slice (some ⟨g',0,none⟩) ((b5 rs n (3*k+2)).length+1) c');have GN:=yS.iA (a:=⟨b,k*5+4,none⟩) AA (.slice (some ⟨g',0,none⟩) ((b5 rs n (3*k+2)).length+1) c');have E:=bc.iA (a:=⟨b,k*5+4,none⟩) AA (.slice (some ⟨g',0,none⟩) ((b5 rs n (3*k+2)).length+1) c');have qG:Below n0 w0 (r.setCell ⟨b,k*5+4,none⟩ (.slice (some ⟨g',0,none⟩) ((b5 rs n (3*k+2)).length+1) c')):=(qx.out.trans z).setCell (p:=⟨b,k*5+4,none⟩) As _;have mZ:g8 J_ q/\g8 J_ (f.heap.size)/\g8 J_ (f.heap.size+1):=⟨OQ _ As Ea.out.1,OQ _ As Ea.out.2.1,OQ _ As Ea.out.2.2⟩;have sB:Hid (ib (n0) (b) (l) _ (r.setCell ⟨b,k*5+4,none⟩ (.slice (some ⟨g',0,none⟩) ((b5 rs n (3*k+2)).length+1) c')) J_ nO):=m7;have vu:Hid _:=And.intro E (And.intro qG (And.intro (And.intro J9 (And.intro GM GN)) mZ));clear A g2 fh m HC cI l7 yS bc z s t x OQ D F cQ T OP Vp qx Ea IG Vr m7 E qG J9 GM GN mZ;generalize r.setCell ⟨b,k*5+4,none⟩ (.slice (some ⟨g',0,none⟩) ((b5 rs n (3*k+2)).length+1) c')=aGh at *;clear r;gi_wp2
   go_roundw
   case rel=>
    refine⟨k+1,J_,nO,As,A_,sB.out.congr λj hj=>?_,vu.out.1,vu.out.2.1,vu.out.2.2.1,vu.out.2.2.2⟩;by_cases e2:j=3*k+2
    .subst e2;rw[if_pos Y,if_pos As,D8 rs BU,Vl.out.2.2]
    .rw[if_neg e2];by_cases e0:j=3*k
     .subst e0;rw[if_pos Y,if_pos As,D8 rs BU,Vl.out.1]
     .rw[if_neg e0];by_cases e1:j=3*k+1
      .subst e1;rw[if_neg As,if_pos As,D8 rs BU,Vl.out.2.1,List.append_nil]
      .by_cases e3:j / 3<k
       .rw[if_pos e3,if_pos As]
       .rw[if_neg e3,if_neg As]
   case measure=>simp[intOf];omega
  .obtain rfl:k=3:=by omega
   clear D4 GL b_;obtain⟨f1,kA,f3⟩:=R.all;have qY:Hid _:=fQ;have V:Hid _:=a9;have S:Hid _:=ON;have mL:Hid _:=R;clear R wB J3 fQ a9 ON Vk;gi_wp2_with (first|(refine⟨PA,(callsIn_wide.2 (O4 _ i3 _)).mono ?_⟩;rintro e y ⟨rfl,lA⟩;apply Fa))
   unfold Bd;have R:=ag.call mL.out lA;have mK:=I.out.below lA;have h4:=ag.call qY.out lA;have yA:Below n0 w0 y:=V.out.trans (lA.mono (Nat.le_trans Z.out V.out.size));clear f1 kA f3 lA mL qY V I;obtain⟨f1,kA,f3⟩:=R.all;have Q:Hid (ib (n0) (b) (l) _ y OM cs1):=mK;have GL:Hid _:=h4;have xO:Hid _:=yA;clear mK h4 yA R;gi_wp2_with (refine⟨PA,(callsIn_wide.2 (tL _ i3 _)).mono ?_⟩;rintro e r ⟨rfl,rfl⟩)
   clear f1 kA f3;obtain⟨axe,OR,mJ⟩:=Q.out.at_ 10 As;have mI:(if 10 / 3<3 then b5 rs (n+1) 10 else b5 rs n 10)=b5 rs n 10:=by rw[if_neg As]
   simp at OR;obtain⟨OS,OT,rfl⟩:=m9 (show r.ownsRow _ (iS 10) 1 axe (b5 rs n 10).length _ from Q.out.f2.at OR);have Vs:Hid _:=OR;have Vt:Hid (cs1[18]?=some _):=mJ;have mH:Hid _:=mI;clear OR mJ mI;refine wpIn_region_any BA (BY (C:=λW=>ag W (l) #[.slice (some ⟨b,0,none⟩) 4 4] 28) _ _ _ _ ?_);have HC:Hid (ag r.drew (l) #[.slice (some ⟨b,0,none⟩) 4 4] 28):=Q.out.br;refine hL (i:=0) (v:=.pointer (some ⟨l,0,none⟩)) Y Y BA BA BA KU HC.out ⟨Bo,λW d=>Be,λc=>A_,λ_=>Y⟩ ?_;refine hL (i:=2) (v:=.pointer (some ⟨l,0,none⟩)) Y Y BA BA BA KU HC.out ⟨Bo,λW d=>Be,λc=>A_,λ_=>Y⟩ ?_;refine hL (i:=7) (v:=.string (jv rs[n].2.2.2)) Y Y BA BA BA KU HC.out ⟨Bo,λW d=>Be,λc=>A_,λ_=>Y⟩ ?_;refine hL (i:=1) (v:=.slice (some ⟨b,0,none⟩) 4 4) Y Y BA BA BA KU HC.out ⟨Bo,λW d=>Ci,λc=>A_,λ_=>Y⟩ ?_;refine hL (i:=3) (v:=.slice (some ⟨b,0,none⟩) 4 4) Y Y BA BA BA KU HC.out ⟨Bo,λW d=>Ci,λc=>A_,λ_=>Y⟩ ?_;refine hL (i:=4) (v:=.pointer (some ⟨b,15,none⟩)) Y Y BA BA BA KU HC.out ⟨Bo,λW d=>Be,λc=>A_,λ_=>Y⟩ ?_;refine hL (i:=5) (v:=.pointer (some ⟨b,18,none⟩)) Y Y BA BA BA KU HC.out ⟨Bo,λW d=>Be,λc=>A_,λ_=>Y⟩ ?_;have A:r.drew.cell? ⟨b,18,none⟩=some (.slice OS (b5 rs n 10).length OT):=(Q.out.box.rules.1 _).trans Vt.out;refine N7 (i:=6) (j:=8) (v:=.slice OS (b5 rs n 10).length OT) (u:=.slice (some ⟨r.heap.size,0,none⟩) 1 1) (w1:=r.drew.alloc (.cells #[.string (jv rs[n].2.2.2)] 9)) BA BA BA Y Y Ae Y Y Ae ⟨Y,Y⟩ (λc=>⟨A_,A_⟩) (λ_ _=>⟨Y,Y⟩) Be Be Be (by have g1:(r.alloc (.cells #[.string (jv rs[n].2.2.2)] 9)).drew.cell? ⟨b,18,none⟩=_:=aG.ru A (.cells #[.string (jv rs[n].2.2.2)] 9);go_simp) HC.out (ag.alloc HC.out _) ?_;refine h7 (i:=9) BA Y λK hK=>?_;refine N8 Qx _ Y _ _ Y (n0) (.slice OS (b5 rs n 10).length OT) (b5 rs n 10).length (b5 rs n 10) ((N5 Ae).trans (Aw EI)) (World.ownsRow.alloc (w:=r.drew) (show r.ownsRow _ 9 1 _ (b5 rs n 10).length _ from Q.out.f2.at Vs.out) _) r.heap.size (.string (jv rs[n].2.2.2)) (Aw EI) (nE (World.alloc_heap_new r.drew _) Y Y) Y (by grind[Ax]) (by grind[Ax]) (by have:=Nat.le_trans Z.out xO.out.size;simp;omega) ?_;intro Ka OU GO D F cQ;obtain⟨z,s,t,x,L7,mG,Kb,-⟩:=ib.N9 (N:=n0) Q.out (j:=10) As (xs:=b5 rs n 10) mH.out Y Vs.out D F cQ As (Nat.le_trans Z.out xO.out.size) (o:=18) As;have bc:=s _ _ _ (Q.out.ng GL.out K1) GL.out;refine hK _ _ x ?_;clear hK K;have g2:GO.cell? ⟨b,18,none⟩=some (.slice OS (b5 rs n 10).length OT):=(t.rules.1 _).trans Vt.out;have fh:=t.rules.2;have m:Hid (ag GO (l) #[.slice (some ⟨b,0,none⟩) 4 4] 28):=x;refine h7 (i:=10) BA Y λK hK=>?_;go_simp
   refine hK _ _ m.out ?_;clear hK K;refine h7 (i:=11) BA Y λK hK=>?_;go_simp
   refine hK _ _ m.out ?_;clear hK K;refine h7 (i:=12) BA Y λK hK=>?_;go_simp
   refine hK _ _ (ag.iA m.out AA _) ?_;clear hK K;refine BZ BA ?_ _;have E:=bc.iA (a:=⟨b,18,none⟩) AA (.slice (some ⟨Ka,0,none⟩) ((b5 rs n 10).length+1) OU);have Kc:Below n0 w0 (GO.setCell ⟨b,18,none⟩ (.slice (some ⟨Ka,0,none⟩) ((b5 rs n 10).length+1) OU)):=(xO.out.trans z).setCell (p:=⟨b,18,none⟩) As _;have X:Hid (ib (n0) (b) (l) _ (GO.setCell ⟨b,18,none⟩ (.slice (some ⟨Ka,0,none⟩) ((b5 rs n 10).length+1) OU)) L7 mG):=Kb;have Vu:Hid _:=E;have OV:Hid _:=Kc;clear A g2 fh m HC bc z s t x D F cQ Q Vs Vt mH Kb E Kc GL xO;generalize GO.setCell ⟨b,18,none⟩ (.slice (some ⟨Ka,0,none⟩) ((b5 rs n 10).length+1) OU)=H at *;clear GO;gi_wp2
   obtain⟨axf,OW,mz⟩:=X.out.at_ 11 As;have mm:(if 11=10 then b5 rs n 10++[.string (jv rs[n].2.2.2)]else if 11 / 3<3 then b5 rs (n+1) 11 else b5 rs n 11)=b5 rs n 11:=by rw[if_neg As,if_neg As]
   simp at OW;obtain⟨OX,OY,rfl⟩:=m9 (show H.ownsRow _ (iS 11) 1 axf (b5 rs n 11).length _ from X.out.f2.at OW);have Vv:Hid _:=OW;have Vw:Hid (mG[19]?=some _):=mz;have ml:Hid _:=mm;clear OW mz mm;refine wpIn_region_any BA (BY (C:=λW=>ag W (l) #[.slice (some ⟨b,0,none⟩) 4 4] 28) _ _ _ _ ?_);have HC:Hid (ag H.drew (l) #[.slice (some ⟨b,0,none⟩) 4 4] 28):=X.out.br;refine hL (i:=0) (v:=.pointer (some ⟨l,0,none⟩)) Y Y BA BA BA KU HC.out ⟨Bo,λW d=>Be,λc=>A_,λ_=>Y⟩ ?_;refine hL (i:=2) (v:=.pointer (some ⟨l,0,none⟩)) Y Y BA BA BA KU HC.out ⟨Bo,λW d=>Be,λc=>A_,λ_=>Y⟩ ?_;refine hL (i:=7) (v:=.bool (hQ rs[n].2.2.2)) Y Y BA BA BA KU HC.out ⟨Bo,λW d=>Be,λc=>A_,λ_=>Y⟩ ?_;refine hL (i:=1) (v:=.slice (some ⟨b,0,none⟩) 4 4) Y Y BA BA BA KU HC.out ⟨Bo,λW d=>Ci,λc=>A_,λ_=>Y⟩ ?_;refine hL (i:=3) (v:=.slice (some ⟨b,0,none⟩) 4 4) Y Y BA BA BA KU HC.out ⟨Bo,λW d=>Ci,λc=>A_,λ_=>Y⟩ ?_;refine hL (i:=4) (v:=.pointer (some ⟨b,15,none⟩)) Y Y BA BA BA KU HC.out ⟨Bo,λW d=>Be,λc=>A_,λ_=>Y⟩ ?_;refine hL (i:=5) (v:=.pointer (some ⟨b,19,none⟩)) Y Y BA BA BA KU HC.out ⟨Bo,λW d=>Be,λc=>A_,λ_=>Y⟩ ?_;have A:H.drew.cell? ⟨b,19,none⟩=some (.slice OX (b5 rs n 11).length OY):=(X.out.box.rules.1 _).trans Vw.out;refine N7 (i:=6) (j:=8) (v:=.slice OX (b5 rs n 11).length OY) (u:=.slice (some ⟨H.heap.size,0,none⟩) 1 1) (w1:=H.drew.alloc (.cells #[.bool (hQ rs[n].2.2.2)] 4)) BA BA BA Y Y Ae Y Y Ae ⟨Y,Y⟩ (λc=>⟨A_,A_⟩) (λ_ _=>⟨Y,Y⟩) Be Be Be (by have g1:(H.alloc (.cells #[.bool (hQ rs[n].2.2.2)] 4)).drew.cell? ⟨b,19,none⟩=_:=aG.ru A (.cells #[.bool (hQ rs[n].2.2.2)] 4);go_simp) HC.out (ag.alloc HC.out _) ?_;refine h7 (i:=9) BA Y λK hK=>?_;refine N8 HJ _ Y _ _ Y (n0) (.slice OX (b5 rs n 11).length OY) (b5 rs n 11).length (b5 rs n 11) ((N5 Ae).trans (Aw EI)) (World.ownsRow.alloc (w:=H.drew) (show H.ownsRow _ 4 1 _ (b5 rs n 11).length _ from X.out.f2.at Vv.out) _) H.heap.size (.bool (hQ rs[n].2.2.2)) (Aw EI) (nE (World.alloc_heap_new H.drew _) Y Y) Y (by grind[Ax]) (by grind[Ax]) (by have:=Nat.le_trans Z.out OV.out.size;simp;omega) ?_;intro Kd OZ GQ D F cQ;obtain⟨z,s,t,x,mj,mb,Kb,-⟩:=ib.N9 (N:=n0) X.out (j:=11) As (xs:=b5 rs n 11) ml.out Y Vv.out D F cQ As (Nat.le_trans Z.out OV.out.size) (o:=19) As;have bc:=s _ _ _ (X.out.ng Vu.out K1) Vu.out;refine hK _ _ x ?_;clear hK K;have g2:GQ.cell? ⟨b,19,none⟩=some (.slice OX (b5 rs n 11).length OY):=(t.rules.1 _).trans Vw.out;have fh:=t.rules.2;have m:Hid (ag GQ (l) #[.slice (some ⟨b,0,none⟩) 4 4] 28):=x;refine h7 (i:=10) BA Y λK hK=>?_;go_simp
   refine hK _ _ m.out ?_;clear hK K;refine h7 (i:=11) BA Y λK hK=>?_;go_simp
   refine hK _ _ m.out ?_;clear hK K;refine h7 (i:=12) BA Y λK hK=>?_;go_simp
   refine hK _ _ (ag.iA m.out AA _) ?_;clear hK K;refine BZ BA ?_ _;have E:=bc.iA (a:=⟨b,19,none⟩) AA (.slice (some ⟨Kd,0,none⟩) ((b5 rs n 11).length+1) OZ);have Kc:Below n0 w0 (GQ.setCell ⟨b,19,none⟩ (.slice (some ⟨Kd,0,none⟩) ((b5 rs n 11).length+1) OZ)):=(OV.out.trans z).setCell (p:=⟨b,19,none⟩) As _;have axg:Hid (ib (n0) (b) (l) _ (GQ.setCell ⟨b,19,none⟩ (.slice (some ⟨Kd,0,none⟩) ((b5 rs n 11).length+1) OZ)) mj mb):=Kb;have axh:Hid _:=E;have axi:Hid _:=Kc;clear A g2 fh m HC bc z s t x D F cQ X Vv Vw ml Kb E Kc Vu OV;generalize GQ.setCell ⟨b,19,none⟩ (.slice (some ⟨Kd,0,none⟩) ((b5 rs n 11).length+1) OZ)=aGi at *;clear GQ;gi_wp2
   refine⟨Y,⟨Y,Y,Y,Y,Y,Y⟩,⟨mj,mb,axg.out.congr λj hj=>?_⟩,axh.out,axi.out⟩;by_cases yJ:j=11
   .subst yJ;rw[if_pos Y,D8 rs BU];rfl
   .rw[if_neg yJ];by_cases J2:j=10
    .subst J2;rw[if_pos Y,D8 rs BU];rfl
    .rw[if_neg J2];by_cases wF:j / 3<3
     .rw[if_pos wF]
     .obtain rfl:j=9:=by omega
      rw[if_neg wF,D8 rs BU,show vd rs[n] 9=[]from Y,List.append_nil]
end
end cM
namespace aG
open Conc ConcM RowKit av bn cz c5 bZ bN cM
section
variable{n0:Nat}
def O0{a:Act}(h:a.tmps.size=123)(hd:a.defers=[]):∃f:Nat->Value,a=⟨#[f 0,f 1,f 2,f 3,f 4,f 5,f 6,f 7,f 8,f 9,f 10,f 11,f 12,f 13,f 14,f 15,f 16,f 17,f 18,f 19,f 20,f 21,f 22,f 23,f 24,f 25,f 26,f 27,f 28,f 29,f 30,f 31,f 32,f 33,f 34,f 35,f 36,f 37,f 38,f 39,f 40,f 41,f 42,f 43,f 44,f 45,f 46,f 47,f 48,f 49,f 50,f 51,f 52,f 53,f 54,f 55,f 56,f 57,f 58,f 59,f 60,f 61,f 62,f 63,f 64,f 65,f 66,f 67,f 68,f 69,f 70,f 71,f 72,f 73,f 74,f 75,f 76,f 77,f 78,f 79,f 80,f 81,f 82,f 83,f 84,f 85,f 86,f 87,f 88,f 89,f 90,f 91,f 92,f 93,f 94,f 95,f 96,f 97,f 98,f 99,f 100,f 101,f 102,f 103,f 104,f 105,f 106,f 107,f 108,f 109,f 110,f 111,f 112,f 113,f 114,f 115,f 116,f 117,f 118,f 119,f 120,f 121,f 122],[]⟩:=by
 obtain⟨l,ds⟩:=a;have hd:ds=[]:=hd;subst hd;have h:l.size=123:=h;refine⟨λi=>l.getD i undef,?_⟩;have b:l.toList=(List.range 123).map λi=>l.getD i undef:=by
  apply List.ext_getElem
  .grind
  simp_all
 have d:List.range 123=[0,1,2,3,4,5,6,7,8,9,10,11,12,13,14,15,16,17,18,19,20,21,22,23,24,25,26,27,28,29,30,31,32,33,34,35,36,37,38,39,40,41,42,43,44,45,46,47,48,49,50,51,52,53,54,55,56,57,58,59,60,61,62,63,64,65,66,67,68,69,70,71,72,73,74,75,76,77,78,79,80,81,82,83,84,85,86,87,88,89,90,91,92,93,94,95,96,97,98,99,100,101,102,103,104,105,106,107,108,109,110,111,112,113,114,115,116,117,118,119,120,121,122]:=AV;rw[d]at b;simp only[List.map_cons,List.map_nil]at b;have c:l=l.toList.toArray:=A_;rw[b]at c;grind
def GR(f:Func):Code:=.seq (.seq (.region 3 (dx f 3) false) (.cond (.tmp 28) .skip (.exit 0))) (.seq (.block 1 (.seq (.region 5 (dx f 5) false) (sy f 5))) (.region 4 (aq f 4) false))
def Eb(f:Func):List Item:=[.inLoop (GR f),.inBlock 0,.code (.seq (.region 18 (dx f 18) false) .ret)]
def o0(f:Func):List Item:=.code (.cond (.tmp 28) .skip (.exit 0)):: .code (.seq (.block 1 (.seq (.region 5 (dx f 5) false) (sy f 5))) (.region 4 (aq f 4) false))::Eb f
def Ec(f:Func):List Item:=.code (sy f 5):: .inBlock 1:: .code (.region 4 (aq f 4) false)::Eb f
theorem axj:Aj Tryz.f4=.seq (.region 0 (dx Tryz.f4 0) false) (.seq (.region 1 (dx Tryz.f4 1) false) (.seq (.seq (.region 2 (dx Tryz.f4 2) false) (.block 0 (.loop (GR Tryz.f4)))) (.seq (.region 18 (dx Tryz.f4 18) false) .ret))):=by kernel_rfl
def ic(n0:Nat)(rs:List dX)(n:Nat):List (Nat×(aO->Value->Prop)):=[(1,eo (.int .i64 40)),(4,D_ n0),(5,D9 n0 (b5 rs n)),(6,eo (.int .i64 n))]
theorem GU(rs:List dX)(n:Nat):∀p∈ic n0 rs n,j2 n0 p.2:=by intro p a;simp[ic]at a;grind[z0,avC,avD,avH]
end
section
variable{n0:Nat}
def axk(rs:List dX)(w:aO)(hn:n0<=w.heap.size):bK (ae prog true) [.code (Aj Tryz.f4)] (.inRegion (dx Tryz.f4 3) (List.range' 1 8)::o0 Tryz.f4) (λa1 w1=>a1.defers=[]/\oN 123 ((20,eo (.int .i64 0))::ic n0 rs 0) a1 w1/\Below n0 w w1)
 ⟨#[undef,.int .i64 40]++Array.replicate 121 undef,[]⟩ w:=by
 have a:ib n0 (w.heap.size+1) (w.heap.size+2) (b5 rs 0) (((w.alloc (.cells #[.slice none 0 0] 28)).alloc (.cells #[.int .i64 1,.int .i64 0,.slice none 0 0,.slice none 0 0,.slice none 0 0,.int .i64 1,.int .i64 0,.slice none 0 0,.slice none 0 0,.slice none 0 0,.int .i64 2,.int .i64 2,.slice none 0 0,.slice none 0 0,.slice none 0 0,.int .i64 3,.int .i64 0,.slice none 0 0,.slice none 0 0,.slice none 0 0] 43)).alloc (.cells #[.slice (some ⟨w.heap.size+1,0,none⟩) 4 4] 28)) ((List.range 12).map λi=>⟨iS i,.slice none 0 0,[]⟩) #[.int .i64 1,.int .i64 0,.slice none 0 0,.slice none 0 0,.slice none 0 0,.int .i64 1,.int .i64 0,.slice none 0 0,.slice none 0 0,.slice none 0 0,.int .i64 2,.int .i64 2,.slice none 0 0,.slice none 0 0,.slice none 0 0,.int .i64 3,.int .i64 0,.slice none 0 0,.slice none 0 0,.slice none 0 0]:=by
  refine⟨?_,A_,?_,Y,λc x h=>?_,λj f=>⟨.slice none 0 0,?_,?_⟩,?_,As,As⟩
  .refine⟨λi hi=>?_,λi j hi f g l hg=>?_⟩
   .grind[World.ownsRow_nil]
   grind[Value.ownBlock]
  .have:=(ag.new (w.alloc (.cells #[.slice none 0 0] 28)) #[.int .i64 1,.int .i64 0,.slice none 0 0,.slice none 0 0,.slice none 0 0,.int .i64 1,.int .i64 0,.slice none 0 0,.slice none 0 0,.slice none 0 0,.int .i64 2,.int .i64 2,.slice none 0 0,.slice none 0 0,.slice none 0 0,.int .i64 3,.int .i64 0,.slice none 0 0,.slice none 0 0,.slice none 0 0] 43).alloc (.cells #[.slice (some ⟨w.heap.size+1,0,none⟩) 4 4] 28);simp_all
  .simp at h;rcases h with⟨rfl,rfl⟩|⟨rfl,rfl⟩|⟨rfl,rfl⟩|⟨rfl,rfl⟩|⟨rfl,rfl⟩|⟨rfl,rfl⟩|⟨rfl,rfl⟩|⟨rfl,rfl⟩<;>rfl
  .simp[f,b5]
  .have k:j=0\/j=1\/j=2\/j=3\/j=4\/j=5\/j=6\/j=7\/j=8\/j=9\/j=10\/j=11:=by omega
   rcases k with rfl|rfl|rfl|rfl|rfl|rfl|rfl|rfl|rfl|rfl|rfl|rfl<;>rfl
  .have:=ag.new ((w.alloc (.cells #[.slice none 0 0] 28)).alloc (.cells #[.int .i64 1,.int .i64 0,.slice none 0 0,.slice none 0 0,.slice none 0 0,.int .i64 1,.int .i64 0,.slice none 0 0,.slice none 0 0,.slice none 0 0,.int .i64 2,.int .i64 2,.slice none 0 0,.slice none 0 0,.slice none 0 0,.int .i64 3,.int .i64 0,.slice none 0 0,.slice none 0 0,.slice none 0 0] 43)) #[.slice (some ⟨w.heap.size+1,0,none⟩) 4 4] 28;simp_all
 have d:Below w.heap.size w (((w.alloc (.cells #[.slice none 0 0] 28)).alloc (.cells #[.int .i64 1,.int .i64 0,.slice none 0 0,.slice none 0 0,.slice none 0 0,.int .i64 1,.int .i64 0,.slice none 0 0,.slice none 0 0,.slice none 0 0,.int .i64 2,.int .i64 2,.slice none 0 0,.slice none 0 0,.slice none 0 0,.int .i64 3,.int .i64 0,.slice none 0 0,.slice none 0 0,.slice none 0 0] 43)).alloc (.cells #[.slice (some ⟨w.heap.size+1,0,none⟩) 4 4] 28)):=(((Below.refl _ w).alloc J1 _).alloc A_ _).alloc Bg _;have b:ag (((w.alloc (.cells #[.slice none 0 0] 28)).alloc (.cells #[.int .i64 1,.int .i64 0,.slice none 0 0,.slice none 0 0,.slice none 0 0,.int .i64 1,.int .i64 0,.slice none 0 0,.slice none 0 0,.slice none 0 0,.int .i64 2,.int .i64 2,.slice none 0 0,.slice none 0 0,.slice none 0 0,.int .i64 3,.int .i64 0,.slice none 0 0,.slice none 0 0,.slice none 0 0] 43)).alloc (.cells #[.slice (some ⟨w.heap.size+1,0,none⟩) 4 4] 28)) w.heap.size #[.slice none 0 0] 28:=((ag.new w _ _).alloc _).alloc _;have o:Hid _:=a;have n:Hid _:=d;have m:Hid _:=b;clear a d b;rw[axj];simp only[dx,aq,pL,sy,Aj,GR,o0,Ec,Tryz.f4,Option.getD_some,bO.dR,bO.ky,bO.n2,Nat.reduceBEq,Bool.false_eq_true,↓reduceIte,Eb];simp[Array.replicate_succ];refine bq (Cd ?_);go_wp2
 refine⟨Y,bq (Cd ?_)⟩;go_wp2
 refine⟨Y,bq (bq (Cd ?_))⟩;go_wp2
 refine⟨Y,oM (Ca (bq (bq (uo (IQ 1 Ae Ae ?_)))))⟩;simp only[List.drop_zero,List.take_succ_cons,List.take_zero];go_wp2
 refine⟨Y,j1 ⟨Y,⟨Y,λp e=>?_⟩,n.out.mono hn⟩⟩;simp only[ic,List.mem_cons,List.not_mem_nil,or_false]at e;rcases e with rfl|rfl|rfl|rfl|rfl
 .exact⟨_,Y,Y⟩
 .exact⟨_,Y,Y⟩
 .exact⟨_,Y,_,Y,hn,m.out⟩
 .exact⟨_,Y,_,_,_,_,Y,o.out⟩
 .exact⟨_,Y,Y⟩
end
section
variable{n0:Nat}
def axl(rs:List dX)(n:Nat)(h1:n<rs.length)(H:n<40)(a:Act)(w:aO)(hd:a.defers=[])(hs:oN 123 ((20,eo (.int .i64 n))::(22,eo (.int .i64 rs.length))::ic n0 rs n) a w):bK (ae prog true) (.inRegion (dx Tryz.f4 3) (List.range' 3 6)::o0 Tryz.f4) (.inRegion (dx Tryz.f4 5) (List.range' 0 6)::Ec Tryz.f4) (λa1 w1=>a1.defers=[]/\oN 123 (ic n0 rs n) a1 w1/\Below n0 w w1) a w:=by
 obtain⟨hsz,b⟩:=hs;obtain⟨v20,s,A⟩:=b (20,eo (.int .i64 n)) A_;obtain⟨v22,r,z⟩:=b (22,eo (.int .i64 rs.length)) A_;obtain⟨v1,l,x⟩:=b (1,eo (.int .i64 40)) ED;obtain⟨D,k,i⟩:=b (4,D_ n0) ED;obtain⟨C,j,m⟩:=b (5,D9 n0 (b5 rs n)) ED;obtain⟨u,h,y⟩:=b (6,eo (.int .i64 n)) ED;have B:Hid _:=i;have v:Hid _:=m;clear b i m;obtain rfl:v20=.int .i64 n:=A;obtain rfl:v22=.int .i64 rs.length:=z;obtain rfl:v1=.int .i64 40:=x;obtain rfl:u=.int .i64 n:=y;obtain⟨f,rfl⟩:=O0 hsz hd;have q:f 20=_:=Option.some.inj (show some (f 20)=some _ from s);have o:f 22=_:=Option.some.inj (show some (f 22)=some _ from r);have g1:f 1=_:=Option.some.inj (show some (f 1)=some _ from l);have c:f 6=_:=Option.some.inj (show some (f 6)=some _ from h);have e:f 4=_:=Option.some.inj (show some (f 4)=some _ from k);have d:f 5=_:=Option.some.inj (show some (f 5)=some _ from j);clear s r l h k j hsz hd;simp[q,o,g1,c,e,d];clear q o g1 c e d;have F:(n:Int)<(rs.length:Int):=As;have E:(n:Int)<40:=As;simp only[dx,aq,pL,sy,Aj,GR,o0,Ec,Tryz.f4,Option.getD_some,bO.dR,bO.ky,bO.n2,Nat.reduceBEq,Bool.false_eq_true,↓reduceIte,Eb];refine IQ 6 Ae Ae ?_;simp only[List.drop_succ_cons,List.drop_zero,List.take_succ_cons,List.take_zero];go_wp2
 refine⟨Y,sg (g3 (t:=true) Y ?_)⟩;rw[if_pos Y];refine lU (bq (oM (bq (uo (j1 ⟨Y,⟨Y,λp g=>?_⟩,Below.refl _ _⟩)))));simp[ic]at g;rcases g with rfl|rfl|rfl|rfl
 .exact⟨_,Y,Y⟩
 .exact⟨_,Y,B.out⟩
 .exact⟨_,Y,v.out⟩
 .exact⟨_,Y,Y⟩
end
section
variable{n0:Nat}
def yT(n0:Nat)(a3:List aA):List (Nat×(aO->Value->Prop)):=[(4,sA n0 a3),(122,wD a3)]
def axm(rs:List dX)(n:Nat)(h1:n<=rs.length)(N:n<=40)(h3:¬(n<rs.length/\n<40))(a:Act)(w:aO)(hd:a.defers=[])(hs:oN 123 ((20,eo (.int .i64 n))::(22,eo (.int .i64 rs.length))::ic n0 rs n) a w):bK (ae prog true) (.inRegion (dx Tryz.f4 3) (List.range' 3 6)::o0 Tryz.f4) [.code .ret] (λa1 w1=>a1.defers=[]/\oN 123 (yT n0 (ca (rs.take 40))) a1 w1/\Below n0 w w1) a w:=by
 obtain⟨hsz,b⟩:=hs;obtain⟨v20,z,H⟩:=b (20,eo (.int .i64 n)) A_;obtain⟨v22,y,F⟩:=b (22,eo (.int .i64 rs.length)) A_;obtain⟨v1,u,C⟩:=b (1,eo (.int .i64 40)) ED;obtain⟨J,s,bc,rfl,i,d⟩:=b (4,D_ n0) ED;obtain⟨I,r,bT,br,L,cs,rfl,h⟩:=b (5,D9 n0 (b5 rs n)) ED;obtain⟨A,q,E⟩:=b (6,eo (.int .i64 n)) ED;clear b;obtain rfl:v20=.int .i64 n:=H;obtain rfl:v22=.int .i64 rs.length:=F;obtain rfl:v1=.int .i64 40:=C;obtain rfl:A=.int .i64 n:=E;have D:rs.take n=rs.take 40:=by grind
 have eI:jM (w.setCell ⟨bc,0,none⟩ (.slice (some ⟨bT,0,none⟩) 4 4)) (.slice (some ⟨bT,0,none⟩) 4 4) (ca (rs.take 40)):=by rw[<-D];exact jM.kept (hH.set d (by grind[pw]) _ _) (avc h)
 have j:Below n0 w (w.setCell ⟨bc,0,none⟩ (.slice (some ⟨bT,0,none⟩) 4 4)):=(Below.refl _ w).setCell (p:=⟨bc,0,none⟩) i _;have u4:ag (w.setCell ⟨bc,0,none⟩ (.slice (some ⟨bT,0,none⟩) 4 4)) bc #[.slice (some ⟨bT,0,none⟩) 4 4] 28:=d.set 0 _;obtain⟨f1,kA,f3⟩:=h.br.all;obtain⟨f4,P,O⟩:=d.all;have c:Hid _:=eI;have BE:Hid _:=j;have g:Hid _:=u4;have e:Hid _:=i;clear eI j u4 d h i;obtain⟨f,rfl⟩:=O0 hsz hd;have x:f 20=_:=Option.some.inj (show some (f 20)=some _ from z);have v:f 22=_:=Option.some.inj (show some (f 22)=some _ from y);have g1:f 1=_:=Option.some.inj (show some (f 1)=some _ from u);have k:f 6=_:=Option.some.inj (show some (f 6)=some _ from q);have m:f 4=_:=Option.some.inj (show some (f 4)=some _ from s);have l:f 5=_:=Option.some.inj (show some (f 5)=some _ from r);clear z y u q s r hsz hd;simp[x,v,g1,k,m,l];clear x v g1 k m l;simp only[dx,aq,pL,sy,Aj,GR,o0,Ec,Tryz.f4,Option.getD_some,bO.dR,bO.ky,bO.n2,Nat.reduceBEq,Bool.false_eq_true,↓reduceIte,Eb];refine IQ 6 Ae Ae ?_;simp only[List.drop_succ_cons,List.drop_zero,List.take_succ_cons,List.take_zero];by_cases M:n<rs.length;all_goals
  first
   |(have B:(n:Int)<(rs.length:Int):=As)
   |(have B:¬(n:Int)<(rs.length:Int):=As)
  try(have K:¬(n:Int)<40:=As)
  go_wp2
  refine⟨Y,sg (g3 (t:=false) Y ?_)⟩;rw[if_neg Ae];refine Cc Y (bq (Cd ?_));go_wp2
  refine⟨Y,j1 ⟨Y,⟨Y,λp o=>?_⟩,BE.out⟩⟩;simp[yT]at o;rcases o with rfl|rfl
  .exact⟨_,Y,_,_,Y,e.out,g.out,c.out⟩
  .exact⟨_,Y,_,Y,c.out⟩
end
section
variable{n0:Nat}
def axp{P:cg}{c:Code}{ks ks':List Item}{Q d:Act->aO->Prop}{a:Act}{w:aO}(h:c.wp P (jb d) a w)(hq:∀a1 w1,d a1 w1->bK P ks ks' Q a1 w1):bK P (.code c::ks) ks' Q a w:=
 Cd λb k cs=>let⟨e,a1,w1,⟨h1,f⟩,h3⟩:=h b k cs;⟨e,a1,w1,⟨h1,hq _ _ f⟩,h3⟩
def axq(rs:List dX)(n:Nat)(z:n<40)(a:Act)(w:aO)(hd:a.defers=[])(hs:oN 123 [(1,eo (.int .i64 40)),(4,D_ n0),(5,D9 n0 (b5 rs (n+1))),(6,eo (.int .i64 n))] a w):bK (ae prog true) (.inBlock 1:: .code (.region 4 (aq Tryz.f4 4) false)::Eb Tryz.f4) (.inRegion (dx Tryz.f4 3) (List.range' 1 8)::o0 Tryz.f4) (λa1 w1=>a1.defers=[]/\oN 123 ((20,eo (.int .i64 (n+1:Nat)))::ic n0 rs (n+1)) a1 w1/\w1=w) a w:=by
 obtain⟨hsz,b⟩:=hs;obtain⟨v1,m,s⟩:=b (1,eo (.int .i64 40)) A_;obtain⟨y,l,j⟩:=b (4,D_ n0) A_;obtain⟨x,k,o⟩:=b (5,D9 n0 (b5 rs (n+1))) A_;obtain⟨q,i,u⟩:=b (6,eo (.int .i64 n)) A_;have v:Hid _:=j;have r:Hid _:=o;clear b j o;obtain rfl:v1=.int .i64 40:=s;obtain rfl:q=.int .i64 n:=u;obtain⟨f,rfl⟩:=O0 hsz hd;have g1:f 1=_:=Option.some.inj (show some (f 1)=some _ from m);have c:f 6=_:=Option.some.inj (show some (f 6)=some _ from i);have g:f 4=_:=Option.some.inj (show some (f 4)=some _ from l);have d:f 5=_:=Option.some.inj (show some (f 5)=some _ from k);clear m i l k hsz hd;simp only[g1,c,g,d];clear g1 c g d;have e:(n:Int)+1=((n+1:Nat):Int):=As;have rO:Hid _:=e;clear e;refine xF ?_;have t:(aq Tryz.f4 4).size=3:=AV;simp only[Eb,o0];refine Cd ?_;have hq:aq Tryz.f4 4=(aq Tryz.f4 4):=rfl;simp only[aq,pL,Tryz.f4,Option.getD_some,Nat.reduceBEq,Bool.false_eq_true,↓reduceIte];go_wp2
 refine⟨Y,Cb ?_⟩;simp only[dx,aq,pL,sy,Aj,GR,o0,Ec,Tryz.f4,Option.getD_some,bO.dR,bO.ky,bO.n2,Nat.reduceBEq,Bool.false_eq_true,↓reduceIte];refine bq (bq (uo (IQ 1 Ae Ae ?_)));simp only[List.drop_zero,List.take_succ_cons,List.take_zero];go_wp2
 refine⟨Y,j1 ⟨Y,⟨Y,λp h=>?_⟩,Y⟩⟩;simp only[ic,List.mem_cons,List.not_mem_nil,or_false]at h;rcases h with rfl|rfl|rfl|rfl|rfl
 .simp_all[eo]
 .exact⟨_,Y,Y⟩
 .exact⟨_,Y,v.out⟩
 .exact⟨_,Y,r.out⟩
 simp_all[eo]
end
section
variable{n0:Nat}
def axr(rs:List dX)(n:Nat)(h1:n<rs.length)(F:n<40)(Z:cD rs[n].1)(X:cD rs[n].2.1)(W:cD rs[n].2.2.1)(V:cD rs[n].2.2.2)(a:Act)(w:aO)(hn:n0<=w.heap.size)(hd:a.defers=[])(hs:oN 123 ((34,eo (.agg #[.int .i64 rs[n].1,.int .i64 rs[n].2.1,.int .i64 rs[n].2.2.1,.int .i64 rs[n].2.2.2]))::ic n0 rs n) a w):bK (ae prog true) (.inRegion (dx Tryz.f4 5) (List.range' 4 2)::Ec Tryz.f4) (.inRegion (dx Tryz.f4 3) (List.range' 1 8)::o0 Tryz.f4) (λa1 w1=>a1.defers=[]/\oN 123 ((20,eo (.int .i64 (n+1:Nat)))::ic n0 rs (n+1)) a1 w1/\Below n0 w w1) a w:=by
 obtain⟨hsz,b⟩:=hs;obtain⟨v34,g,v⟩:=b (34,eo (.agg #[.int .i64 rs[n].1,.int .i64 rs[n].2.1,.int .i64 rs[n].2.2.1,.int .i64 rs[n].2.2.2])) A_;obtain⟨v1,c,U⟩:=b (1,eo (.int .i64 40)) ED;obtain⟨v4,J,bc,rfl,M,q⟩:=b (4,D_ n0) ED;obtain⟨v5,I,bT,br,L,cs,rfl,i⟩:=b (5,D9 n0 (b5 rs n)) ED;obtain⟨P,E,bP⟩:=b (6,eo (.int .i64 n)) ED;clear b;obtain rfl:v34=.agg #[.int .i64 rs[n].1,.int .i64 rs[n].2.1,.int .i64 rs[n].2.2.1,.int .i64 rs[n].2.2.2]:=v;obtain rfl:v1=.int .i64 40:=U;obtain rfl:P=.int .i64 n:=bP;have m:=(Below.refl w.heap.size w).alloc J1 (.cells #[.int .i64 rs[n].1,.int .i64 rs[n].2.1,.int .i64 rs[n].2.2.1,.int .i64 rs[n].2.2.2] 57);have B:ag (w.alloc (.cells #[.int .i64 rs[n].1,.int .i64 rs[n].2.1,.int .i64 rs[n].2.2.1,.int .i64 rs[n].2.2.2] 57)) w.heap.size #[.int .i64 rs[n].1,.int .i64 rs[n].2.1,.int .i64 rs[n].2.2.1,.int .i64 rs[n].2.2.2] 57:=ag.new w _ _;have l:=q.call m;have j:=i.below m;have z:Below n0 w (w.alloc (.cells #[.int .i64 rs[n].1,.int .i64 rs[n].2.1,.int .i64 rs[n].2.2.1,.int .i64 rs[n].2.2.2] 57)):=m.mono hn;have O:g8 L w.heap.size:=i.f2.ng AA;have y:bT≠w.heap.size:=by have:=i.box.lt;omega
 have x:bT≠bc:=λe=>by have c:=i.box;rw[e]at c;have K:w.heap[bc]?=some (.cells cs 43):=c;rw[show w.heap[bc]?=some (.cells #[.slice none 0 0] 28)from q]at K;cases K
 have J8:Hid _:=B;have N:Hid _:=l;have u:Hid _:=j;have b_:Hid _:=z;have t:Hid _:=M;clear B l j z m q i M;obtain⟨f,rfl⟩:=O0 hsz hd;have d:f 34=_:=Option.some.inj (show some (f 34)=some _ from g);have g1:f 1=_:=Option.some.inj (show some (f 1)=some _ from c);have A:f 6=_:=Option.some.inj (show some (f 6)=some _ from E);have o:f 4=_:=Option.some.inj (show some (f 4)=some _ from J);have C:f 5=_:=Option.some.inj (show some (f 5)=some _ from I);clear g c E J I hsz hd;simp only[d,g1,A,o,C];clear d g1 A o C;have step:∀(k:List Item)(Q:Act->aO->Prop),bK (ae prog true) k (.inRegion (dx Tryz.f4 3) (List.range' 1 8)::o0 Tryz.f4) Q ⟨#[(f 0),.int .i64 40,(f 2),(f 3),.pointer (some ⟨bc,0,none⟩),.pointer (some ⟨br,0,none⟩),.int .i64 n,.pointer (some ⟨w.heap.size,0,none⟩),(f 8),(f 9),(f 10),(f 11),(f 12),(f 13),(f 14),(f 15),(f 16),(f 17),(f 18),(f 19),(f 20),(f 21),(f 22),(f 23),(f 24),(f 25),(f 26),(f 27),(f 28),(f 29),(f 30),(f 31),(f 32),(f 33),.agg #[.int .i64 rs[n].1,.int .i64 rs[n].2.1,.int .i64 rs[n].2.2.1,.int .i64 rs[n].2.2.2],(f 35),(f 36),(f 37),(f 38),(f 39),(f 40),(f 41),(f 42),(f 43),(f 44),(f 45),(f 46),(f 47),(f 48),(f 49),(f 50),(f 51),(f 52),(f 53),(f 54),(f 55),(f 56),(f 57),(f 58),(f 59),(f 60),(f 61),(f 62),(f 63),(f 64),(f 65),(f 66),(f 67),(f 68),(f 69),(f 70),(f 71),(f 72),(f 73),(f 74),(f 75),(f 76),(f 77),(f 78),(f 79),(f 80),(f 81),(f 82),(f 83),(f 84),(f 85),(f 86),(f 87),(f 88),(f 89),(f 90),(f 91),(f 92),(f 93),(f 94),(f 95),(f 96),(f 97),(f 98),(f 99),(f 100),(f 101),(f 102),(f 103),(f 104),(f 105),(f 106),(f 107),(f 108),(f 109),(f 110),(f 111),(f 112),(f 113),(f 114),(f 115),(f 116),(f 117),(f 118),(f 119),(f 120),(f 121),(f 122)],[]⟩ (w.alloc (.cells #[.int .i64 rs[n].1,.int .i64 rs[n].2.1,.int .i64 rs[n].2.2.1,.int .i64 rs[n].2.2.2] 57))->bK (ae prog true) (.inRegion (dx Tryz.f4 5) (List.range' 4 2)::k) (.inRegion (dx Tryz.f4 3) (List.range' 1 8)::o0 Tryz.f4) Q ⟨#[(f 0),.int .i64 40,(f 2),(f 3),.pointer (some ⟨bc,0,none⟩),.pointer (some ⟨br,0,none⟩),.int .i64 n,(f 7),(f 8),(f 9),(f 10),(f 11),(f 12),(f 13),(f 14),(f 15),(f 16),(f 17),(f 18),(f 19),(f 20),(f 21),(f 22),(f 23),(f 24),(f 25),(f 26),(f 27),(f 28),(f 29),(f 30),(f 31),(f 32),(f 33),.agg #[.int .i64 rs[n].1,.int .i64 rs[n].2.1,.int .i64 rs[n].2.2.1,.int .i64 rs[n].2.2.2],(f 35),(f 36),(f 37),(f 38),(f 39),(f 40),(f 41),(f 42),(f 43),(f 44),(f 45),(f 46),(f 47),(f 48),(f 49),(f 50),(f 51),(f 52),(f 53),(f 54),(f 55),(f 56),(f 57),(f 58),(f 59),(f 60),(f 61),(f 62),(f 63),(f 64),(f 65),(f 66),(f 67),(f 68),(f 69),(f 70),(f 71),(f 72),(f 73),(f 74),(f 75),(f 76),(f 77),(f 78),(f 79),(f 80),(f 81),(f 82),(f 83),(f 84),(f 85),(f 86),(f 87),(f 88),(f 89),(f 90),(f 91),(f 92),(f 93),(f 94),(f 95),(f 96),(f 97),(f 98),(f 99),(f 100),(f 101),(f 102),(f 103),(f 104),(f 105),(f 106),(f 107),(f 108),(f 109),(f 110),(f 111),(f 112),(f 113),(f 114),(f 115),(f 116),(f 117),(f 118),(f 119),(f 120),(f 121),(f 122)],[]⟩ w:=by
  intro k Q h;have H:Hid _:=h;clear h;simp only[dx,Tryz.f4,Option.getD_some,bO.dR,bO.n2,Nat.reduceBEq,Bool.false_eq_true,↓reduceIte]at H⊢;refine IQ 2 Ae Ae ?_;simp only[List.drop_succ_cons,List.drop_zero,List.take_succ_cons,List.take_zero];go_wp2
  exact⟨Y,sg H.out⟩
 refine step _ _ (axp (wpIn_wide.1 (avJ rs n h1 F Z X W V n0 bT bc br w.heap.size w (w.alloc (.cells #[.int .i64 rs[n].1,.int .i64 rs[n].2.1,.int .i64 rs[n].2.2.1,.int .i64 rs[n].2.2.2] 57)) L cs hn u.out J8.out N.out b_.out O y x (f 0) (f 2) (f 3) (.pointer (some ⟨bc,0,none⟩)) (f 8) (f 9) (f 10) (f 11) (f 12) (f 13) (f 14) (f 15) (f 16) (f 17) (f 18) (f 19) (f 20) (f 21) (f 22) (f 23) (f 24) (f 25) (f 26) (f 27) (f 28) (f 29) (f 30) (f 31) (f 32) (f 33) (.agg #[.int .i64 rs[n].1,.int .i64 rs[n].2.1,.int .i64 rs[n].2.2.1,.int .i64 rs[n].2.2.2]) (f 35) (f 36) (f 37) (f 38) (f 39) (f 40) (f 41) (f 42) (f 43) (f 44) (f 45) (f 46) (f 47) (f 48) (f 49) (f 50) (f 51) (f 52) (f 53) (f 54) (f 55) (f 56) (f 57) (f 58) (f 59) (f 60) (f 61) (f 62) (f 63) (f 64) (f 65) (f 66) (f 67) (f 68) (f 69) (f 70) (f 71) (f 72) (f 73) (f 74) (f 75) (f 76) (f 77) (f 78) (f 79) (f 80) (f 81) (f 82) (f 83) (f 84) (f 85) (f 86) (f 87) (f 88) (f 89) (f 90) (f 91) (f 92) (f 93) (f 94) (f 95) (f 96) (f 97) (f 98) (f 99) (f 100) (f 101) (f 102) (f 103) (f 104) (f 105) (f 106) (f 107) (f 108) (f 109) (f 110) (f 111) (f 112) (f 113) (f 114) (f 115) (f 116) (f 117) (f 118) (f 119) (f 120) (f 121) (f 122))) ?_);rintro a1 w1 ⟨⟨bu,bb,T,l,j,S⟩,⟨OM,cs1,r1⟩,R,r3⟩;intro s r;obtain⟨bC,w2,⟨g1,g2,fh⟩,o⟩:=axq rs n F a1 w1 bu ⟨bb,λp D=>by
  simp at D;rcases D with rfl|rfl|rfl|rfl
  .exact⟨_,T,Y⟩
  .exact⟨_,l,bc,Y,t.out,R⟩
  .exact⟨_,j,bT,br,OM,cs1,Y,r1⟩
  .exact⟨_,S,Y⟩⟩ s r
 grind
end
variable{d:Tmp}
section
open kZ
variable{O:gW}{n0:Nat}
section
variable{P:cg}{Post:Value->aO->Prop}{n:Nat}{Shun:Loc->Prop}{w:aO}{f:FuncId}{b:Act}{ops:Array Oper}{i:Nat}{rest:List Nat}{k:List Item}{cs:List Frame}{o:Oper}
def GV(h:ops[i]?=some o)(m:o.guard=none)(hd:o.dst=some d){v:Value}{es:Array Event}(g:∀k',(execOp b.eval o).run P (w.at k')=.ok (.value v) (w.at k'))(j:∀k',(execOp b.eval o).events P (w.at k') #[]=es)(hs:seen P f es=es)(c:∀e∈es,oK Shun w.heap.size e)(q:deafBehind 0 es=0)(p:∀k',bS P Post n Shun 0 (aZ ((base f).at (b.put (some d) v) (.inRegion ops rest::k)) cs) (w.at k')):bS P Post n Shun 0 (aZ ((base f).at b (.inRegion ops (i::rest)::k)) cs) w:=by
 refine B3 Y λk'=>⟨_,w.at k',es,?_,c,Nat.le_refl _,by rw[q];exact p k'⟩;have h1:=stepG_value (P:=P) (main:=true) (b:=base f) (a:=b) (k:=k) (cs:=cs) (rest:=rest) h (xG m _) (by simp[base]) (g k');have l:listed P (base f).fn b o (w.at k')=es:=by unfold listed;rw[j k'];exact hs
 rw[l,hd]at h1;exact h1
end
def qN(v0:Value)(n:Nat):fc:=⟨λi=>i==0||i==21||i==31||i==33,λi=>i==0,λ_=>some v0,λt=>t==22,n⟩
def O1(v0:Value)(n:Nat){l:List Item}(h:l.all (gX (qN undef 0))=true):l.all (gX (qN v0 n))=true:=(wj (D:=qN v0 n) (D':=qN undef 0) Y Y Y l).trans h
def O2(v0:Value)(n:Nat):zY prog (qN v0 n) 4:=by
 refine⟨⟨_,func4,?_⟩,λt h=>?_,Br⟩
 .rw[results4];simp[B5,qN]
 grind[qN,underlying22]
def axx:hX prog true Tryz.f4=true:=by decide+kernel
def O3:kY prog 4:=FQ func4 axx Y
structure ny(O:gW)(n0:Nat)(aX:Nat->Prop)(w0:aO)(D:fc)(Shun:Loc->Prop)(fs:List (Nat×(aO->Value->Prop)))(a b:Act)(M:Nat->Prop)(w:aO):Prop where
 held:Held O prog aX w0 n0 a M w Shun
 nn:fp D a b
 slots:oN 123 fs a w
 j3:∀p∈fs,j2 n0 p.2
section
variable{aX:Nat->Prop}{w0:aO}{D:fc}{Shun:Loc->Prop}{fs:List (Nat×(aO->Value->Prop))}{a b:Act}{M:Nat->Prop}{w:aO}
theorem ny.at(h:ny O n0 aX w0 D Shun fs a b M w)(k:Nat):ny O n0 aX w0 D Shun fs a b M (w.at k):=
 ⟨h.held.at k,h.nn,xI h.j3 _ _ _ _ _ ((show ea M w (w.at k)from λ_ _ _ _ _ x=>x).lV h.held.fF) h.held.all h.slots,h.j3⟩
theorem Held.put(h:Held O prog aX w0 n0 a M w Shun)(d:Tmp){v:Value}(b:ay (cq M) v v):Held O prog aX w0 n0 (a.put (some d) v) M w Shun:=
 ⟨h.fF,h.sub,h.since,h.keep,h.all.set b _,H4,h.size⟩
def fp.Kh(h:fp D a b)(g:D.T d=true)(hK:D.K d=false)(v:Value):fp D (a.put (some d) undef) (b.put (some d) v):=by
 refine⟨by rw[gu,gu];exact h.size,λi hi=>?_,λi x hi f=>?_,λi hi=>?_,by rw[put_defers,put_defers];exact h.defers⟩
 .have c:d≠i:=AA;simp[Act.put,c];exact h.same i hi
 .by_cases e:d=i
  .simp_all[Act.put,Array.getElem?_setIfInBounds]
  .simp[Act.put,e]at f;exact h.gone i x hi f
 .have c:d≠i:=AA;simp[Act.put,c];exact h.kept i hi
def lY(h:oN 123 fs a w)(hd:∀p∈fs,d≠p.1)(v:Value):oN 123 fs (a.put (some d) v) w:=
 ⟨by rw[gu];exact h.1,λp b=>by
  obtain⟨x,h1,c⟩:=h.2 p b;grind[dP]⟩
theorem ny.Kh(h:ny O n0 aX w0 D Shun fs a b M w)(c:D.T d=true)(hK:D.K d=false)(hd:∀p∈fs,d≠p.1)(v:Value):ny O n0 aX w0 D Shun fs (a.put (some d) undef) (b.put (some d) v) M w:=
 ⟨h.held.put d (.undef _),h.nn.Kh c hK v,lY h.slots hd _,h.j3⟩
def ny.Vz(h:ny O n0 aX w0 D Shun fs a b M w)(g:D.T d=false)(hK:D.K d=false)(hd:∀p∈fs,d≠p.1)(hs:d<123){v:Value}(e:ay (cq M) v v)(f:j2 n0 (eo v)):ny O n0 aX w0 D Shun ((d,eo v)::fs) (a.put (some d) v) (b.put (some d) v) M w:=
 ⟨h.held.put d e,h.nn.put g hK v,⟨by rw[gu];exact h.slots.1,λp c=>by
  rcases List.mem_cons.1 c with rfl|c
  .exact⟨v,kt (by rw[h.slots.1];exact hs),Y⟩
  .exact(lY h.slots hd v).2 p c⟩,λp c=>by
  rcases List.mem_cons.1 c with rfl|c
  .exact f
  .exact h.j3 p c⟩
def ny.less(h:ny O n0 aX w0 D Shun fs a b M w){gs:List (Nat×(aO->Value->Prop))}(hg:∀p∈gs,p∈fs):ny O n0 aX w0 D Shun gs a b M w:=
 ⟨h.held,h.nn,⟨h.slots.1,λp c=>h.slots.2 p (hg p c)⟩,λp c=>h.j3 p (hg p c)⟩
end
end
section
open kZ
variable{O:gW}{n0:Nat}
def axy(O:gW)(bz:Option Addr)(i:Nat)(r:dX):Prop:=∃B off c e z,bz=some ⟨B,off,none⟩/\0<B/\B<O.n/\O.heap[B]?=some (.cells c e z)/\(c[off+i*4]?=some (.int .i64 r.1)/\c[off+i*4+1]?=some (.int .i64 r.2.1)/\c[off+i*4+2]?=some (.int .i64 r.2.2.1)/\c[off+i*4+3]?=some (.int .i64 r.2.2.2))/\cD r.1/\cD r.2.1/\cD r.2.2.1/\cD r.2.2.2
def Ki(O:gW)(rv:Value)(rs:List dX):Prop:=∃bz cap,rv=.slice bz rs.length cap/\∀i(h:i<rs.length),axy O bz i rs[i]
def GX{fs:List (Nat×(aO->Value->Prop))}{d:Nat}(h:(fs.map (·.1)).all (λx=>x != d)=true):∀p∈fs,d≠p.1:=AA
section
variable{Post:Value->aO->Prop}{n:Nat}{Shun:Loc->Prop}{aX:Nat->Prop}{w0:aO}{rv:Value}{rs:List dX}{c:Frame}{csZ:List Frame}
def lX{es:Array Event}(h:∀e∈es,∀m,e.loc≠ .mark m):seen prog 4 es=es:=
 seen_eq (by rw[func4];rfl) AA
def axz{x y z u:Int}:j2 n0 (eo (.agg #[.int .i64 x,.int .i64 y,.int .i64 z,.int .i64 u])):=λ_ _ _ _ _ _ a h=>by
 cases h;obtain⟨d,rfl,k⟩:=tg a;cases k with
 |cons h1 k=>cases k with
  |cons c k=>cases k with
   |cons h3 k=>cases k with
    |cons b k=>cases k;rw[js h1,js c,js h3,js b];rfl
def lW{a3:List aA}:∀p∈yT n0 a3,j2 n0 p.2:=by intro p a;simp[yT]at a;grind[US,zp]
theorem rf(bE:Ki O rv rs)(uf:∀a b M w,ny O n0 aX w0 (qN rv (c::csZ).length) Shun (yT n0 (ca (rs.take 40))) a b M w->bS prog Post n Shun 0 (aZ ((base 4).at b [.code .ret]) (c::csZ)) w){bm:Nat}(cT:∀a b M w,bm<rs.length/\bm<40->ny O n0 aX w0 (qN rv (c::csZ).length) Shun ((20,eo (.int .i64 (bm+1:Nat)))::ic n0 rs (bm+1)) a b M w->bS prog Post n Shun 0 (aZ ((base 4).at b (.inRegion (dx Tryz.f4 3) (List.range' 1 8)::o0 Tryz.f4)) (c::csZ)) w)(a b:Act)(M:Nat->Prop)(w:aO)(h1:bm<=rs.length)(h2:bm<=40)(u:ny O n0 aX w0 (qN rv (c::csZ).length) Shun ((20,eo (.int .i64 bm))::ic n0 rs bm) a b M w):bS prog Post n Shun 0 (aZ ((base 4).at b (.inRegion (dx Tryz.f4 3) (List.range' 1 8)::o0 Tryz.f4)) (c::csZ)) w:=by
 obtain⟨bz,cap,Mk,cb⟩:=id bE;have A:b.tmps[0]?=some rv:=u.nn.kept 0 Y;rw[show List.range' 1 8=1::List.range' 2 7 from Y];obtain⟨o,f⟩:∃o,(dx Tryz.f4 3)[1]?=some o:=⟨_,Bo⟩;obtain rfl:=Gr f;have ev:=A;refine GV f Y Y (v:=rv) (es:=#[]) (λk'=>FL) (λk'=>FL) (seen_none _ _) A_ Y λi=>?_;have I:=(u.Kh (d:=21) Y Y (GX Y) rv).at i;have DZ:(b.put (some 21) rv).tmps[21]?=some (.slice bz rs.length cap):=by rw[<-Mk];exact kt (by rw[u.nn.size,u.slots.1];decide)
 have H:(b.put (some 21) rv).tmps[0]?=some rv:=(dP Ae).trans A;clear f ev A u;generalize b.put (some 21) rv=b1 at *;generalize a.put (some 21) undef=a1 at *;generalize w.at i=w1 at *;clear i a b w;rw[show List.range' 2 7=2::List.range' 3 6 from Y];obtain⟨o,f⟩:∃o,(dx Tryz.f4 3)[2]?=some o:=⟨_,Bo⟩;obtain rfl:=Gr f;have ev:=DZ;refine GV f Y Y (v:=.int .i64 rs.length) (es:=#[]) (λk'=>FL) (λk'=>FL) (seen_none _ _) A_ Y λk=>?_;have pH:=(I.Vz (d:=22) Y Y (GX Y) Ae (v:=.int .i64 rs.length) (.int _ _) (z0 _ _)).at k;have A:(b1.put (some 22) (.int .i64 rs.length)).tmps[0]?=some rv:=(dP Ae).trans H;clear f ev H DZ I;generalize b1.put (some 22) (.int .i64 rs.length)=b2 at *;generalize a1.put (some 22) (.int .i64 rs.length)=bC at *;generalize w1.at k=w2 at *;clear k a1 b1 w1;have h:=pH.less (gs:=(20,eo (.int .i64 bm))::(22,eo (.int .i64 rs.length))::ic n0 rs bm) AA;clear pH;by_cases g:bm<rs.length/\bm<40
 .refine J5 l3 follows O3 Y (O2 rv _) h.nn (O1 rv _ AV) h.held (k':=.inRegion (dx Tryz.f4 5) (List.range' 0 6)::Ec Tryz.f4) AV AV (xI h.j3) (xI (GU rs bm)) h.slots (λW hW y=>axl rs bm g.1 g.2 bC W h.held.defers y) ?_;intro C q S t N L R;have Q:ny O n0 aX w0 (qN rv (c::csZ).length) Shun (ic n0 rs bm) C q S t:=⟨N,L,R,GU rs bm⟩;have f0:q.tmps[0]?=some rv:=L.kept 0 Y;clear h N L R A;obtain⟨B,off,cc,e,z,axA,mf,hB,hc,⟨cX,c1,cr,dm⟩,i0,i1,i2,i3⟩:=cb bm g.1;subst axA;rw[show List.range' 0 6=0::1::2::3::List.range' 4 2 from Y];obtain⟨o,f⟩:∃o,(dx Tryz.f4 5)[0]?=some o:=⟨_,Bo⟩;obtain rfl:=Gr f;have ev:=f0;refine GV f Y Y (v:=rv) (es:=#[]) (λk'=>FL) (λk'=>FL) (seen_none _ _) A_ Y λi=>?_;have s:=(Q.Kh (d:=31) Y Y (GX Y) rv).at i;have F:(q.put (some 31) rv).tmps[31]?=some (.slice (some ⟨B,off,none⟩) rs.length cap):=by rw[<-Mk];exact kt (by rw[Q.nn.size,Q.slots.1];decide)
  clear f ev f0 Q;generalize q.put (some 31) rv=bc at *;generalize C.put (some 31) undef=cC at *;generalize t.at i=w4 at *;clear i C q t;obtain⟨o,f⟩:∃o,(dx Tryz.f4 5)[1]?=some o:=⟨_,Bo⟩;obtain rfl:=Gr f;have h8:bc.tmps[6]?=some (.int .i64 bm):=by obtain⟨v,h1,h2⟩:=s.slots.2 (6,eo (.int .i64 bm)) ED;obtain rfl:v=_:=h2;exact(s.nn.same 6 Y).trans h1
  have ev:=h8;refine GV f Y Y (v:=.int .i64 bm) (es:=#[]) (λk'=>FL) (λk'=>FL) (seen_none _ _) A_ Y λk=>?_;have P:=(s.Vz (d:=32) Y Y (GX Y) Ae (v:=.int .i64 bm) (.int _ _) (z0 _ _)).at k;have f31:(bc.put (some 32) (.int .i64 bm)).tmps[31]?=some (.slice (some ⟨B,off,none⟩) rs.length cap):=(dP Ae).trans F;have f32:(bc.put (some 32) (.int .i64 bm)).tmps[32]?=some (.int .i64 bm):=kt (by rw[s.nn.size,s.slots.1];decide);clear f ev h8 F s;generalize bc.put (some 32) (.int .i64 bm)=br at *;generalize cC.put (some 32) (.int .i64 bm)=dL at *;generalize w4.at k=en at *;clear k cC bc w4;obtain⟨o,f⟩:∃o,(dx Tryz.f4 5)[2]?=some o:=⟨_,Bo⟩;obtain rfl:=Gr f;have ev:=f31;have VA:=f32;have i:(bm:Int)<(rs.length:Int):=As;have eC:(0:Int)<=(bm:Int):=As;refine GV f Y Y (v:=.pointer (some ⟨B,off+bm*4,none⟩)) (es:=#[]) (λk'=>by simp[go_sem,ev,VA,eC,g.1,Addr.add]) (λk'=>by simp[go_sem,ev,VA,eC,g.1]) (seen_none _ _) A_ Y λX=>?_;have VB:=(P.Kh (d:=33) Y Y (GX Y) (.pointer (some ⟨B,off+bm*4,none⟩))).at X;have f33:(br.put (some 33) (.pointer (some ⟨B,off+bm*4,none⟩))).tmps[33]?=some (.pointer (some ⟨B,off+bm*4,none⟩)):=kt (by rw[P.nn.size,P.slots.1];decide);clear f ev VA f31 f32 P;generalize br.put (some 33) (.pointer (some ⟨B,off+bm*4,none⟩))=dD at *;generalize dL.put (some 33) undef=io at *;generalize en.at X=r at *;clear X dL br en;obtain⟨o,f⟩:∃o,(dx Tryz.f4 5)[3]?=some o:=⟨_,Bo⟩;obtain rfl:=Gr f;have ev:=f33;have a5:=VB.held.fF;have E:r.heap[B]?=some (.cells cc e z):=(a5.old B mf hB).trans hc;have d:∀k' j x,cc[j]?=some x->(r.at k').cell? ⟨B,j,none⟩=some x:=λk' j x Z=>by have:(r.at k').heap[B]?=some (.cells cc e z):=E;grind[World.cell?]
  refine GV f Y Y (v:=.agg #[.int .i64 rs[bm].1,.int .i64 rs[bm].2.1,.int .i64 rs[bm].2.2.1,.int .i64 rs[bm].2.2.2]) (es:=#[⟨.cell ⟨B,off+bm*4,none⟩,false,false⟩,⟨.cell ⟨B,off+bm*4+1,none⟩,false,false⟩,⟨.cell ⟨B,off+bm*4+2,none⟩,false,false⟩,⟨.cell ⟨B,off+bm*4+3,none⟩,false,false⟩]) (λk'=>?_) (λk'=>?_) (lX λe he m hm=>?_) (λe he=>?_) Y λV=>?_
  .have U:=d k' _ _ cX;have bu:=d k' _ _ c1;have bb:=d k' _ _ cr;have T:=d k' _ _ dm;simp[go_sem,ev,U,bu,bb,T]
  .have U:=d k' _ _ cX;have bu:=d k' _ _ c1;have bb:=d k' _ _ cr;have T:=d k' _ _ dm;simp[go_sem,ev,U,bu,bb,T]
  .grind
  .have y0:B<r.heap.size:=AA;simp at he;rcases he with rfl|rfl|rfl|rfl<;>exact IJ (a5.so B hB _ Y) y0 _
  have D:=(VB.Vz (d:=34) Y Y (GX Y) Ae (v:=.agg #[.int .i64 rs[bm].1,.int .i64 rs[bm].2.1,.int .i64 rs[bm].2.2.1,.int .i64 rs[bm].2.2.2]) (.pU (mQ (l:=[.int .i64 rs[bm].1,.int .i64 rs[bm].2.1,.int .i64 rs[bm].2.2.1,.int .i64 rs[bm].2.2.2]) λx Z=>by
   simp at Z;rcases Z with rfl|rfl|rfl|rfl<;>exact .int _ _)) axz).at V
  clear f ev f33 VB a5 E d;generalize dD.put (some 34) (.agg #[.int .i64 rs[bm].1,.int .i64 rs[bm].2.1,.int .i64 rs[bm].2.2.1,.int .i64 rs[bm].2.2.2])=cI at *;generalize io.put (some 34) (.agg #[.int .i64 rs[bm].1,.int .i64 rs[bm].2.1,.int .i64 rs[bm].2.2.1,.int .i64 rs[bm].2.2.2])=lB at *;generalize r.at V=qf at *;clear V io dD r;have K:=D.less (gs:=(34,eo (.agg #[.int .i64 rs[bm].1,.int .i64 rs[bm].2.1,.int .i64 rs[bm].2.2.1,.int .i64 rs[bm].2.2.2]))::ic n0 rs bm) AA;clear D;refine J5 l3 follows O3 Y (O2 rv _) K.nn (O1 rv _ AV) K.held (k':=.inRegion (dx Tryz.f4 3) (List.range' 1 8)::o0 Tryz.f4) AV AV (xI K.j3) (J:=oN 123 ((20,eo (.int .i64 (bm+1:Nat)))::ic n0 rs (bm+1))) (xI λp hp=>?_) K.slots (λW hW y=>axr rs bm g.1 g.2 i0 i1 i2 i3 lB W hW K.held.defers y) ?_
  .grind[z0,GU]
  .intro qi l7 re qh zi axB axC;refine cT qi l7 re qh g ⟨zi,axB,axC,λp hp=>?_⟩;grind[z0,GU]
 .refine J5 l3 follows O3 Y (O2 rv _) h.nn (O1 rv _ AV) h.held (k':=[.code .ret]) AV AV (xI h.j3) (J:=oN 123 (yT n0 (ca (rs.take 40)))) (xI lW) h.slots (λW hW y=>axm rs bm h1 h2 g bC W h.held.defers y) ?_;intro C q S t N L R;exact uf C q S t ⟨N,L,R,lW⟩
def axD(i:Ki O rv rs)(d:∀a b M w,ny O n0 aX w0 (qN rv (c::csZ).length) Shun (yT n0 (ca (rs.take 40))) a b M w->bS prog Post n Shun 0 (aZ ((base 4).at b [.code .ret]) (c::csZ)) w):
 ∀(m bm:Nat)(a b:Act)(M:Nat->Prop)(w:aO),40-bm<=m->bm<=rs.length->bm<=40->ny O n0 aX w0 (qN rv (c::csZ).length) Shun ((20,eo (.int .i64 bm))::ic n0 rs bm) a b M w->bS prog Post n Shun 0 (aZ ((base 4).at b (.inRegion (dx Tryz.f4 3) (List.range' 1 8)::o0 Tryz.f4)) (c::csZ)) w:=by
 intro m;induction m with|zero=>grind[rf]|succ m e=>intro bm a b M w j h1 h f;exact rf i d (λa b M w h3 g=>e (bm+1) a b M w As As As g) a b M w h1 h f
end
end
section
open kZ
variable{O:gW}{n0:Nat}
section
variable{Post:Value->aO->Prop}{n:Nat}{Shun:Loc->Prop}{aX:Nat->Prop}{w0:aO}{rv:Value}{rs:List dX}{c:Frame}{csZ:List Frame}
def axE{D:fc}{a3:List aA}{a b:Act}{M:Nat->Prop}{w:aO}(s:D.T 4=false)(d:ny O n0 aX w0 D Shun (yT n0 a3) a b M w)(y:∀u k,ay (cq M) u u->wD a3 (w.at k) u->bS prog Post n Shun 0 (aZ (c.finish u) csZ) (w.at k)):bS prog Post n Shun 0 (aZ ((base 4).at b [.code .ret]) (c::csZ)) w:=by
 have i:=d.held.fF;have hd:b.defers=[]:=d.nn.defers.trans d.held.defers;obtain⟨v,t,bc,aT,rfl,z,o,h⟩:=d.slots.2 (4,sA n0 a3) (by simp[yT]);have j:a.tmps[4]?=some (.pointer (some ⟨bc,0,none⟩)):=t;have f4:b.tmps[4]?=some (.pointer (some ⟨bc,0,none⟩)):=(d.nn.same 4 s).trans j;have g:M bc:=by have:=d.held.all.get 4 _ _ j j;cases this with|ptr r=>exact r.1.2
 have l:w.cell? ⟨bc,0,none⟩=some aT:=by rw[o.rules.1];rfl
 have p:ay (cq M) aT aT:=i.cell (a:=⟨bc,0,none⟩) g l;refine B3 Y λk=>⟨aZ {(base 4).at b [.code .ret]with mode:=.returning} (c::csZ),w.at k,#[],?_,A_,Nat.le_refl _,?_⟩
 .simp[aZ,stepG,stepG.exec,Frame.at,base]
 .refine B3 Y λk'=>⟨aZ (c.finish (.agg #[aT])) csZ,w.at k',#[⟨.cell ⟨bc,0,none⟩,false,false⟩],?_,λe f=>?_,Nat.le_refl _,?_⟩
  .have q:=func4;have m:((w.at k).at k').cell? ⟨bc,0,none⟩=some aT:=l;have h:(results Tryz.f4 b.tmps).run prog ((w.at k).at k')=.ok (.agg #[aT]) ((w.at k).at k'):=by simp[results,results4,go_sem,f4,m]
   have f:(results Tryz.f4 b.tmps).events prog ((w.at k).at k') #[]=#[⟨.cell ⟨bc,0,none⟩,false,false⟩]:=by simp[results,results4,go_sem,f4,m]
   have hs:=lX (es:=#[⟨.cell ⟨bc,0,none⟩,false,false⟩]) AA;simp only[aZ,stepG,unwind,doReturn,Frame.at,base,hd,q,h,f,hs,Sem.runT_eq,GStep.after];rfl
  .simp at f;subst f;exact IJ (i.sh bc (.inl g) _ Y) (i.lt g) _
  .exact y _ k' (.pU (.one p)) ⟨aT,Y,jM.kept (show hH pw w (w.at k')from⟨Nat.le_refl _,λ_ _ _ _ x _=>x⟩) h⟩
def axF(rv:Value)(d:Nat):fp (qN rv d) ⟨#[undef,.int .i64 40]++Array.replicate 121 undef,[]⟩ ⟨#[rv,.int .i64 40]++Array.replicate 121 undef,[]⟩:=by
 have get:∀(x:Value)(i:Nat),(#[x,.int .i64 40]++Array.replicate 121 undef:Array Value)[i]?=if i=0 then some x else if i=1 then some (.int .i64 40)else if i<123 then some undef else none:=by
  intro x i;rcases i with _ | _ |i
  .grind
  .simp_all
  grind[Array.getElem?_append_right]
 refine⟨A_,λi hi=>?_,λi v hi a=>?_,λi hi=>?_,Y⟩
 .have h0:i≠0:=λe=>by subst e;cases hi
  grind
 .rw[get]at a;by_cases h0:i=0
  .grind
  .have h1:i≠1:=λe=>by subst e;cases hi
   grind
 simp_all[qN]
def axG{M:Nat->Prop}{w:aO}(y:Home O prog M Shun w)(v:Ki O rv rs)(t:∀u M' w',Home O prog M' Shun w'->(∀b,M b->M' b)->ay (cq M') u u->nY w w'->ea M w w'->wD (ca (rs.take 40)) w' u->bS prog Post n Shun 0 (aZ (c.finish u) csZ) w'):
 bS prog Post n Shun 0 (aZ (Frame.enter prog 4 #[rv,.int .i64 40] .normal) (c::csZ)) w:=by
 rw[enter_at func4 (c:=Aj Tryz.f4) Y];have s:aS (cq M) (#[undef,.int .i64 40]++Array.replicate 121 undef) (#[undef,.int .i64 40]++Array.replicate 121 undef):=by
  refine aS.append (mQ (l:=[undef,.int .i64 40]) λx g=>?_) (Gs _ _);simp at g;rcases g with rfl|rfl
  .exact .undef _
  .exact .int _ _
 have H:Held O prog M w w.heap.size ⟨#[undef,.int .i64 40]++Array.replicate 121 undef,[]⟩ M w Shun:=.start y J1 s Y;refine J5 l3 follows O3 Y (O2 rv _) (axF rv _) (O1 rv _ AV) H (k:=[.code (Aj Tryz.f4)]) (k':=.inRegion (dx Tryz.f4 3) (List.range' 1 8)::o0 Tryz.f4) AV AV (I:=oN 123 []) (J:=oN 123 ((20,eo (.int .i64 (0:Nat)))::ic w.heap.size rs 0)) (xI AA) (xI λp o=>?_) ⟨A_,AA⟩ (λW q _=>axk rs W q) ?_
 .grind[z0,GU]
 intro a1 b1 r w1 B f A;refine axD v (λa b z i h=>?_) 40 0 a1 b1 r w1 As As As ⟨B,f,A,λp o=>?_⟩
 .refine axE Y h λu k m ht=>?_;have d:=h.held.at k;exact t u z (i.at k) d.fF d.sub m d.since (λb cc e fr C j=>d.keep b cc e fr AA j) ht
 grind[z0,GU]
end
end
section
open kZ
variable{O:gW}
section
variable{P:cg}{Post:Value->aO->Prop}{n:Nat}{Shun:Loc->Prop}{M aX:Nat->Prop}{w w0:aO}{f:FuncId}{a b gN:Act}{k:List Item}{cs:List Frame}{N:Nat}{K L K':bJ}{ops:Array Oper}{S:nu}
def Kp{id:Nat}(hC:(cU P).Good)(um:P.follows .mixedOrders=true)(hf:kY P f){D:Nat->fc}(hD:J6 P f ops k D)(hk:(Item.inRegion ops []::k).all (fX P)=true)(p:wK O P N K aX w0 gN)(aM:∀s F,L s=some F->F.ok w0.heap.size)(gJ:JB ops S=true)(Uu:pB L ops.toList=true)(T:pB K ops.toList=true){g:Oper}{d:Nat}{gf:FuncId}{J:Func}{gV:Code}{args:Array Operand}{ats:Array TypeId}(l:ops[S.g]?=some g)(z:g.op=.call {callee:=.value (.func gf),args,argTypes:=ats})(X:P.funcs[gf]?=some J)(lr:(J.name== "runtime.NumGoroutine")=false)(hb:J.body=some gV)(fK:g.guard=none)(ta:∀n,kZ.hR (D n) g=true)(hn:n+16*d<=200){cZ:Tmp}(y:g.dst=some cZ){eu:bp}(hq:sx (ae P true) N w0.heap.size ops S L K eu (λE=>∀a M w,af N E a w->aS (cq M) a.tmps a.tmps->jN O P Post gf (args.map a.eval) M w d (λu _ w'=>eu.R w' u/\ea M w w')) ops.toList 0 (λ_=>none) K K')(fd:fp (D cs.length) a b)(H:Held O P aX w0 w0.heap.size a M w Shun)(sM:n8 K gN a)(h0:af N L a w)(jk:∀a b M' w' m v,af N K a w'->af N K' a w'->m<=n+16*d->Held O P aX w0 w0.heap.size a M' w' v->fp (D cs.length) a b->n8 K gN a->bS P Post m v 0 (aZ ((base f).at b (.inRegion ops []::k)) cs) w'):
 bS P Post n Shun 0 (aZ ((base f).at b (.code (.region id ops true)::k)) cs) w:=by
 obtain⟨R,h1,A⟩:=xL.all hq;have c:=lZ.of (Q:=λ_=>none) gJ Uu Hy T;have cQ:∀(j:Nat) o,ops[j]?=some o->_:=λj o U=>h1 j o AA;simp only[Nat.zero_add]at cQ;have Uv:∀j,j<ops.size->(R j).ok w0.heap.size:=λj hj=>by obtain⟨d',-,-,q,-⟩:=cQ j _ (Array.getElem?_eq_getElem hj);exact q
 obtain⟨ast,t,V,-,-,C⟩:=cQ S.g g l;unfold Ah at C;unfold qI at t;simp only[c.g.2]at C t;rw[y]at t;cases t;obtain⟨-,f_,h8⟩:_/\_/\R S.g=eu:=C.resolve_right λh=>absurd Y h.1;refine axN hC um hf hD hk p (λi o d h1 A=>(c.l i o d h1 A).2.2) S.g l z X lr hb fK ta hn (I:=l4 N ops S L (λ_=>none) R) (λau=>Qs aM (λ_ _ e=>Dv) Uv) y V (np:=eu.R) (λau a w h=>⟨h.len,h.size⟩) fd H sM (l4.start h0 ⟨h0.size,λ_ _ e=>Dv⟩) ?_ ?_ ?_ ?_
 .intro au a W i o hKn h hd hW ut kO U r;exact h.step c (λ_ _ e=>Dv) cQ hKn ut hW kO U r
 .intro au a M w Shun B hKn h x r;exact f_ a M w (h.env c hKn l x r) B.all
 .intro au a w u h x r hu;exact h.put c l y c.g.2 V x (Below.refl _ _) (by rw[h8];exact hu)
 .intro au a b M' w' m v hKn h hr kN B Z pk;exact jk a b M' w' m v hKn (h.eI c hKn hr (λs F e=>.inl e) A) kN B Z pk
end
end
def Zb{t:List aA}{want:List Nat}{C d_ W:aO}{I aT:Value}{J bc br cI k i:Nat}{P:Value}{cells:List Value}{c:aA}{bg vs aY:Value}(hk:t[k]?=some c)(ht:t.length<=1000)(hs:∀s∈c.dl,s.size<=1000)(l:sE t want C I aT J bc br k d_ P cells)(hS:pP d_.heap.size W cI c.kind c.ck bg vs aY (nA c want) (nB c want) (qP c want))(O:Below d_.heap.size d_ W){ks ks':List Item}{Q:Act->aO->Prop}{a:Act}(r:af 96 (aK (n9 t (iU want) I (.pointer (some ⟨J,0,none⟩)) (.pointer (some ⟨bc,0,none⟩)) (.pointer (some ⟨br,0,none⟩)) k i cI #[.int .i64 c.kind,.int .i64 c.ck,bg,vs,aY])) a W)(kk:∀a' W' VO VP,sE t want C I aT J bc br (k+1) W' VO VP->af 96 (aK (AF I J bc br k)) a' W'->a'.defers=a.defers->bK (ae prog true) ks ks' Q a' W'):bK (ae prog true) (.code (.region 13 (aq Tryz.f14 13) false)::ks) ks' Q a W:=by
 have F:=l.below O;have VQ:k<t.length:=(List.getElem?_eq_some_iff.1 hk).1;obtain⟨X,ci,rfl⟩:=m9 hS.cu;obtain⟨U,V,rfl⟩:=m9 hS.os;obtain⟨an,eF,rfl⟩:=m9 hS.on;have lD:af 96 (aK [(5,wL br #[P] 28),(7,wL cI #[.int .i64 c.kind,.int .i64 c.ck,.slice X _ ci,.slice U _ V,.slice an _ eF] 43),(1,de I),(2,de (.pointer (some ⟨J,0,none⟩))),(4,de (.pointer (some ⟨bc,0,none⟩))),(6,bt k)]) a W:=af.of r.size λp E=>by
  simp at E;rcases E with rfl|rfl|rfl|rfl|rfl|rfl
  .exact r.get Y Y λv h=>⟨h,F.out.box⟩
  .exact r.get Y Y λv h=>h
  .exact r.get Y Y λv h=>h.1
  .exact r.get Y Y λv h=>h.1
  .exact r.get Y Y λv h=>h
  .exact r.get Y Y λv h=>h
 rw[o5 (aq Tryz.f14 13)];refine DQ (m:=4) lD (ar Y (axT Y Y)<|ar Y (Kq Y Y Ae)<|ar Y (Zu Y Y)<|ar Y (Zl Y Y)<|rfl) Ae λbC x y d2 El=>?_;have j_:=hS.below El;have o:=F.below El;have Z:C.heap.size<=x.heap.size:=o.lF.size;have cK:((t.take k).map (nz · want)).length=k:=AA;have H:=o.out.own;refine Pb (i:=4) (B:=C.heap.size) (n:=((t.take k).map (nz · want)).length) (b:=br) (f:=0) (sb:=5) (yU:=28) (cs:=#[P]) Xm Y Y Y Y Y Y Y Y Y Y (λev w e=>Be) (λev w bz n cc O e1 e2=>by obtain⟨fM,gQ,gR⟩:=O.all;go_simp) Ae y Y Y Y H Y Ha As Ae Z Ae λbX u v2 r1 g1 c0 D Aq mw=>pA ?_;have i8:Below C.heap.size x u:=Ee H g1 Z;have lA:Below C.heap.size x (u.setCell ⟨br,0,none⟩ v2):=i8.trans ((Below.refl _ u).setCell (p:=⟨br,0,none⟩) l.out.lo _);have M:∀{b:Nat}{cs:Array Value}{T:TypeId},ag x b cs T->T≠43->b≠br->ag (u.setCell ⟨br,0,none⟩ v2) b cs T:=λL M q=>(ag.grown L g1 λg hg e=>by subst e;exact VE H L (Ne.symm M) hg).iA q _;have K:∀e,e≠43->e≠28->∀(b:Nat) c z,x.heap[b]?=some (.cells c e z)->(u.setCell ⟨br,0,none⟩ v2).heap[b]?=some (.cells c e z):=λe h1 h2 b c z L=>by
  have N:b<x.heap.size:=AA;have q:b≠br:=λR=>by subst R;have:=o.out.box;simp_all[ag]
  rw[Below.heap_setCell _ _ _ _ q,g1.block b N λR=>?_]
  .exact L
  .obtain⟨c',hc'⟩:=Pa H R.symm;simp_all[ag]
 have nQ:=(j_.Zj hs).keep (W':=u.setCell ⟨br,0,none⟩ v2) λe he=>K e AA AA;have jJ:(t.take (k+1)).map (nz · want)=(t.take k).map (nz · want)++[nz c want]:=by grind[List.take_succ]
 have Na:cells.length=((t.take k).map (nz · want)).length*5:=H.1;refine kk bX _ v2 (cells++[.int .i64 c.kind,.int .i64 c.ck,.slice X (nA c want).length ci,.slice U (nB c want).length V,.slice an (qP c want).length eF]) ⟨o.lF.trans lA,l.f1,l.kA,M o.dA Ae l.iv,M o.gM Ae l.nF.2,l.iv,l.nF,⟨l.out.lo,c0.set 0 v2,?_,λj d A=>?_⟩⟩ ?_ (mw.trans d2)
 .grind[wM]
 .rw[jJ]at A;rcases Nat.lt_or_ge j k with E0|E0
  .rw[List.getElem?_append_left As]at A;obtain⟨S,us,un,bu,bb⟩:=o.out.xA j d A;refine⟨S,us,un,λf hf=>?_,bb.keep λe he=>K e AA AA⟩;grind
  .rw[List.getElem?_append_right As,cK]at A;obtain rfl:j=k:=by grind
   rw[Nat.sub_self]at A;cases A;refine⟨_,_,_,λf hf=>?_,nQ⟩;rw[List.getElem?_append_right As,Na,cK,Nat.add_sub_cancel_left];rfl
 .refine af.of Aq λp E=>?_;simp[AF]at E;rcases E with rfl|rfl|rfl|rfl|rfl
  .exact y.get Y (D 1 Ae Ae) λv h=>h
  .exact y.get Y (D 2 Ae Ae) λv h=>h
  .exact y.get Y (D 4 Ae Ae) λv h=>h
  .exact y.get Y (D 5 Ae Ae) λv h=>h.1
  .exact y.get Y (D 6 Ae Ae) λv h=>h
def Y_{N:Nat}{K:bJ}{o:Oper}{F:bp}{x:Operand}{s B:Nat}{c:Option Addr}{n b:Nat}(d:o.op=.box 28 x)(f:bl K x (de (.agg #[.slice c n b])))(h:K s=some (rp B F)):bG (ae prog true) N K o (Ui B #[.slice c n b] 28):=λa w hk=>by have e:=hk.ev f;obtain⟨v,-,g,-⟩:=hk.has s _ h;unfold we;generalize a.eval=ev at e⊢;have e:ev x=.agg #[.slice c n b]:=e;refine .inl ⟨.pointer (some ⟨w.heap.size,0,none⟩),w.alloc (.cells #[.slice c n b] 28),?_,⟨w.heap.size,Y,g,ag.new _ _ _⟩,(Below.refl _ w).alloc J1 _⟩;cases o;simp only at d;subst d;go_simp
def Y4{t:List aA}{want:List Nat}{q:aO}{i aT:Value}{d bc br:Nat}(ht:t.length<=1000)(hs:∀c∈t,∀s∈c.dl,s.size<=1000)(H:∀c∈t,∀j∈want,Ek c j)(I:want.length<=1000){ks ks':List Item}{Q:Act->aO->Prop}(kk:∀a' W' f cells,sE t want q i aT d bc br t.length W' f cells->af 96 (aK (AF i d bc br t.length)) a' W'->a'.defers=[]->bK (ae prog true) ks ks' Q a' W'):
 ∀m k a W f cells,k+m=t.length->sE t want q i aT d bc br k W f cells->af 96 (aK (AF i d bc br k)) a W->a.defers=[]->bK (ae prog true) (.code (Kx Tryz.f14):: .inLoop (Kx Tryz.f14):: .inBlock 0::ks) ks' Q a W:=by
 intro m;induction m with
 |zero=>intro k a W f cells n h l hd;obtain rfl:k=t.length:=As;have b:¬((t.length:Nat):Int)<((t.length:Nat):Int):=As;unfold Kx;refine bq (bq ?_);rw[o5 (aq Tryz.f14 3)];refine di (h.mq l) (ar Y KJ<|ar Y L3<|ar Y KT<|ar Y Kk<|ar Y (DL Y Y Y Ae b)<|rfl) λa1 w1 g d1 b1=>?_;exact g3 (t:=false) (l_ g Y) (Cc (wa:=ks) Hz (kk a1 w1 f cells (h.below b1) (G4.free g ⟨Y,Y,Y,Y,Y,PA⟩) (d1.trans hd)))
 |succ m E=>
  intro k a W f cells n h l hd;have u:k<t.length:=As;have b:(k:Int)<(t.length:Int):=As;have hk:t[k]?=some t[k]:=List.getElem?_eq_getElem u;have o:=List.getElem_mem u;unfold Kx;refine bq (bq ?_);rw[o5 (aq Tryz.f14 3)];refine di (h.mq l) (ar Y KJ<|ar Y L3<|ar Y KT<|ar Y Kk<|ar Y (Jz Y Y Y Ae b)<|rfl) λa1 w1 g d1 b1=>?_;have v:=h.below b1;refine g3 (t:=true) (l_ g Y) (lU (bq (oM (bq ?_))));refine Zi hk v (G4.free g ⟨Y,Y,Y,Y,Y,PA⟩) λbC Z cI C B A R d=>bq (bq ?_);rw[o5 (aq Tryz.f14 6)];refine di A (ar Y (dv (F:=bt 0) Y KS)<|rfl) λS x z P r=>oM (Ca ?_);have AC:=B.below r;have e0:nA t[k] (want.take 0)=[]/\nB t[k] (want.take 0)=[]/\qP t[k] (want.take 0)=[]:=by simp[nA,nB,qP]
  refine ZY (cI:=cI) C hk (H _ o) I (λcC X bg vs aY V y O bc=>?_) want.length 0 S x _ _ _ (Nat.zero_add _) AA (z.aU ⟨Y,Y,Y,Y,Y,Y,Y,PA⟩) (P.trans (R.trans (d1.trans hd))) (d.trans (r.mono d.size));refine Zb hk ht (hs _ o) v V bc y λdL en U T w K N=>xF ?_;rw[o5 (aq Tryz.f14 4)];refine di K Kl λD J p M L=>Cb ?_;have e:((k:Int)+1)=((k+1:Nat):Int):=As;rw[e]at p;exact E (k+1) D J U T As (w.below L) (p.aU ⟨Y,Y,Y,Y,Y,PA⟩) (M.trans (N.trans O))
def YS(t:List aA)(want:List Nat)(ht:t.length<=1000)(hs:∀c∈t,∀s∈c.dl,s.size<=1000)(U:∀c∈t,∀j∈want,Ek c j)(V:want.length<=1000)(v1 b:Value)(w:aO)(h1:wD t w v1)(W:(b6 1 j9 (iU want)).R w b):Calls (ae prog true) 14 #[v1,b] w λe w'=>∃v,e=.returned v/\wD (jT t want) w' v/\Below w.heap.size w w':=by
 obtain⟨aT,rfl,n⟩:=h1;obtain⟨⟨h,g,rfl,-,-⟩,-⟩:=id n;refine qg (ks:=[]) (a6 (upd:=true) func14 AV) aye ?_;have hk:af 96 (aK [(0,de (.agg #[.slice h t.length g])),(1,rp w.heap.size (de b))]) ⟨#[.agg #[.slice h t.length g],b]++Array.replicate (Tryz.f14.ntmps-(#[.agg #[.slice h t.length g],b]:Array Value).size) undef,[]⟩ w:=Qu (l:=[.agg #[.slice h t.length g],b]) A_ Bo λp f=>by
  simp at f;rcases f with rfl|rfl
  .exact⟨_,Y,Y⟩
  .exact⟨b,Y,Nat.le_refl _,Y⟩
 have hd:(⟨#[.agg #[.slice h t.length g],b]++Array.replicate (Tryz.f14.ntmps-(#[.agg #[.slice h t.length g],b]:Array Value).size) undef,[]⟩:Act).defers=[]:=rfl;generalize(⟨#[.agg #[.slice h t.length g],b]++Array.replicate (Tryz.f14.ntmps-(#[.agg #[.slice h t.length g],b]:Array Value).size) undef,[]⟩:Act)=a at hk hd;refine bq ?_;rw[o5 (aq Tryz.f14 0)];refine di hk (ar Y (Y_ Y Y (s:=1) Y)<|ar Y (oo Y (s:=1) Y)<|rfl) λa1 w1 r d1 b1=>bq ?_;obtain⟨u2,bb,C,rfl,aGB,dA⟩:=r.has 2 _ Y;obtain⟨u4,P,bc,rfl,o,gM⟩:=r.has 4 _ Y;have N:af 96 (aK [(1,rp w1.heap.size (de b)),(2,de (.pointer (some ⟨C,0,none⟩))),(4,de (.pointer (some ⟨bc,0,none⟩)))]) a1 w1:=af.of r.size λp f=>by
  simp at f;rcases f with rfl|rfl|rfl
  .exact r.get Y Y λv d=>⟨Nat.le_refl _,d.2⟩
  .exact⟨_,bb,Y⟩
  .exact⟨_,P,Y⟩
 rw[o5 (aq Tryz.f14 1)];refine di N (ar Y (oo Y (s:=1) Y)<|rfl) λbC M i d2 y=>bq (bq ?_);obtain⟨u5,O,br,rfl,aGC,K⟩:=i.has 5 _ Y;have X:af 96 (aK [(1,de b),(2,de (.pointer (some ⟨C,0,none⟩))),(4,de (.pointer (some ⟨bc,0,none⟩))),(5,de (.pointer (some ⟨br,0,none⟩)))]) bC M:=af.of i.size λp f=>by
  simp at f;rcases f with rfl|rfl|rfl|rfl
  .exact i.get Y Y λv d=>d.2
  .exact i.get Y Y λv d=>d
  .exact i.get Y Y λv d=>d
  .exact⟨_,O,Y⟩
 rw[o5 (aq Tryz.f14 2)];refine di X (ar Y (dv (F:=bt 0) Y KS)<|rfl) λbX A S d3 u=>oM (Ca ?_);have l2:=dA.lt;have EB:=gM.lt;have lw:w.heap.size<=w1.heap.size:=b1.size;have B_:Below w.heap.size w A:=b1.trans ((y.mono b1.size).trans (u.mono (Nat.le_trans b1.size y.size)));have KA:sE t want w b (.slice h t.length g) C bc br 0 A (.slice none 0 0) []:=⟨B_,W,n,(dA.call y).call u,(gM.call y).call u,As,⟨o,As⟩,⟨As,K.call u,World.ownsRow_nil _ _ _ _,λj c hj=>AA⟩⟩;refine Y4 ht hs U V (λcC L Z cells H B d4=>bq ?_) t.length 0 bX A _ _ (Nat.zero_add _) KA (S.aU ⟨Y,Y,Y,Y,Y,PA⟩) (d3.trans (d2.trans (d1.trans hd)));have H9:af 96 (aK [(5,wL br #[Z] 28),(4,de (.pointer (some ⟨bc,0,none⟩)))]) cC L:=af.of B.size λp f=>by
  simp at f;rcases f with rfl|rfl
  .exact B.get Y Y λv d=>⟨d,H.out.box⟩
  .exact B.get Y Y λv d=>d
 rw[o5 (aq Tryz.f14 14)];refine DQ (m:=1) H9 (ar Y (Zq Y Y)<|rfl) Ae λdL en I d5 Vj=>?_;have z:=H.below Vj;obtain⟨u95,D,rfl⟩:=I.has 95 _ Y;obtain⟨v4,e4,rfl⟩:=I.has 4 _ Y;have k:=z.out.read AA;rw[List.take_length]at k;obtain⟨⟨q,x,rfl,-,-⟩,-⟩:=id k;rw[List.length_map]at D k;have E:=z.gM;have J:Hid _:=E;have Q:Hid _:=k;obtain⟨fM,gQ,gR⟩:=E.all;clear E k;show wpOps _ _ _ [1] _ _;refine wb (w1:=en.setCell ⟨bc,0,none⟩ (.slice q t.length x)) Y Y Y Be (sg (j1 ⟨d5.trans d4,.agg #[.slice q t.length x],?_,⟨_,Y,?_⟩,z.lF.trans ((Below.refl _ en).setCell (p:=⟨bc,0,none⟩) o _)⟩))
 .have T:=ag.set J.out 0 (.slice q t.length x);obtain⟨R,o9,qe⟩:=T.all;generalize en.setCell ⟨bc,0,none⟩ (.slice q t.length x)=gS at *;simp[results,results14,go_sem,e4,R]
 .exact jM.kept (hH.set J.out (by grind[pw]) _ _) Q.out
end aG
end Go.Proofs.YtncomcmfgmojkaaGreat
