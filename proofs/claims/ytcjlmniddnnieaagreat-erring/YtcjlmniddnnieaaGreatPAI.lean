import Derived.Conc.CompanyDraw
import Derived.Test.YtcjlmniddnnieaaGreatPAE
set_option linter.all false
set_option maxRecDepth 100000
set_option maxHeartbeats 16000000
namespace Go.Proofs.YtcjlmniddnnieaaGreat
open Tryz
namespace g6
open Conc au bn ai
structure cv(Z:eX) where
 l:Z.Lo
 mine:Nat->Prop
 S:aH->Z.aN->Prop
variable{i n:Nat}{a:Act}{v:Value}
section
variable{Z:eX}{Q:cf}{Stop:Bool->Z.Lo->aX->Prop}{m:Bool}{b:Frame}{k:uaa}{cs:fG}{ops:fC}{md:Region.Mode}
def s8(σ:cv Z):Prop:=∀w γ w' aj g,σ.S w γ->Z.dM σ.l γ aj->dN Z σ.l aj ⟨g,w,σ.mine⟩ w'->σ.S w' aj
def anP(σ:cv Z)(γ:Z.aN)(w' w1:aH)(es:uao)(bu:cv Z):Prop:=
 bu.mine=grown σ.mine w' w1/\lE Z σ.mine w' w1/\
 ((bu.l=σ.l/\bu.S w1 γ/\(∀b,b<w'.heap.size->Z.hE b->w1.heap[b]?=w'.heap[b]?)/\oI Z σ.l (grown σ.mine w' w1) (Z.deaf σ.l) es.toList/\¬ ∃e∈es,vw Z e)\/
  (∃bB,bu.S w1 bB/\(∃e∈es,vw Z e)/\Z.ug bB w1/\CM Z σ.l γ bu.l bB/\Says Z σ.l bu.l (grown σ.mine w' w1) es/\(∀k8,Z.oH k8 γ->Z.oH k8 bB)/\¬Z.Left bu.l))
variable(Q Stop m b k cs ops) in
def se(todo:uad)(σ:cv Z)(a:Act):Prop:=∀w γ,σ.S w γ->bf Z Q Stop m σ.l γ ⟨G (b.at a (.inRegion ops todo::k)) cs,w,σ.mine⟩
variable(Q b) in
def CX(o:Oper)(σ:cv Z)(a:Act)(K:cv Z->Act->Prop):Prop:=
 ∀w γ w' aj g,σ.S w γ->Z.dM σ.l γ aj->dN Z σ.l aj ⟨g,w,σ.mine⟩ w'->∃u w1 bu,((execOp a.eval o).run Q w'=.ok (.value u) w1\/((execOp a.eval o).run Q w'=.ok .skip w1/\u=undef))/\anP σ aj w' w1 (listed Q b.fn a o w') bu/\K bu (a.put o.dst u)
variable(Q Stop m) in
def iG(f:uah)(args:fi)(σ:cv Z)(V:Value->cv Z->Prop):Prop:=
 ∀(a2:Frame)(aD:Act)(aB:fC)(aJ:Nat)(aL:uad)(aG:uaa)(csZ:fG),
  (∀u bu,V u bu->∀w γ,bu.S w γ->bf Z Q Stop m bu.l γ ⟨G (a2.at (aD.put ((aB[aJ]?).bind (·.dst)) u) (.inRegion aB aL::aG)) csZ,w,bu.mine⟩)->
  ∀w γ,σ.S w γ->bf Z Q Stop m σ.l γ ⟨G (Frame.enter Q f args .normal) (a2.at aD (.inRegion aB (aJ::aL)::aG)::csZ),w,σ.mine⟩
def Gs(c:Frame):Ending->Frame
 | .returned v=>c.finish v
 | .panicked l=>c.raise l
 | .outgrown=>c
variable(Q Stop m) in
def Gt(f:uah)(args:fi)(σ:cv Z)(V:Ending->cv Z->Prop):Prop:=
 ∀(a2:Frame)(aD:Act)(aB:fC)(aJ:Nat)(aL:uad)(aG:uaa)(csZ:fG),
  (∀e bu,V e bu->∀w γ,bu.S w γ->bf Z Q Stop m bu.l γ ⟨G (Gs (a2.at aD (.inRegion aB (aJ::aL)::aG)) e) csZ,w,bu.mine⟩)->
  ∀w γ,σ.S w γ->bf Z Q Stop m σ.l γ ⟨G (Frame.enter Q f args .normal) (a2.at aD (.inRegion aB (aJ::aL)::aG)::csZ),w,σ.mine⟩
def Gt.ret{f:uah}{args:fi}{σ:cv Z}{V:Ending->cv Z->Prop}{pf:Value->cv Z->Prop}(h:Gt Q Stop m f args σ V)(c:∀e a,V e a->∃v,e=.returned v/\pf v a):iG Q Stop m f args σ pf:=by intro a2 aD aB aJ aL aG csZ hK;refine h a2 aD aB aJ aL aG csZ λe a hv w γ hS=>?_;obtain⟨v,rfl,b⟩:=c e a hv;rw[Gs,vcj];exact hK v a b w γ hS
variable(Q Stop m b) in
def SY(o:Oper)(σ:cv Z)(a:Act)(K:cv Z->Act->Prop):Prop:=
 ∃f args V,(∀w γ w' aj g,σ.S w γ->Z.dM σ.l γ aj->dN Z σ.l aj ⟨g,w,σ.mine⟩ w'->(execOp a.eval o).run Q w'=.ok (.enter f args) w'/\oI Z σ.l σ.mine (Z.deaf σ.l) (listed Q b.fn a o w').toList/\¬ ∃e∈listed Q b.fn a o w',vw Z e)/\iG Q Stop m f args σ V/\∀u bu,V u bu->K bu (a.put o.dst u)
variable(Q Stop m b k cs ops) in
def SZ(o:Oper)(σ:cv Z)(a:Act):Prop:=
 ∃f args,(∀w γ w' aj g,σ.S w γ->Z.dM σ.l γ aj->dN Z σ.l aj ⟨g,w,σ.mine⟩ w'->(execOp a.eval o).run Q w'=.ok (.enter f args) w'/\oI Z σ.l σ.mine (Z.deaf σ.l) (listed Q b.fn a o w').toList/\¬ ∃e∈listed Q b.fn a o w',vw Z e)/\
  ∀(a':Act)(i:Nat)(rest:uad),a'.defers=a.defers->∀w γ,σ.S w γ->bf Z Q Stop m σ.l γ ⟨G (Frame.enter Q f args .normal) (b.at a' (.inRegion ops (i::rest)::k)::cs),w,σ.mine⟩
variable(Q Stop m b k cs ops) in
def nv(i:Nat)(σ:cv Z)(a:Act)(K:cv Z->Act->Prop):Prop:=
 match ops[i]? with
 |none=>False
 |some o=>if Region.wanted o (yielded ops a.tmps)then CX Q b o σ a K\/SY Q Stop m b o σ a K\/SZ Q Stop m b k cs ops o σ a else K σ (a.put o.dst undef)
theorem nv.mono{σ:cv Z}{K K':cv Z->Act->Prop}(h:nv Q Stop m b k cs ops i σ a K)(hk:∀σ a,K σ a->K' σ a):nv Q Stop m b k cs ops i σ a K':=by
 unfold nv at *;split
 .simp_all
 .rename_i o l;simp[l]at h;split
  .rename_i j;simp[j]at h;rcases h with h|⟨f,args,V,d,c,e⟩|h
   .refine .inl λw γ w' n g d c e=>?_;obtain⟨u,w1,r,r1,q,p⟩:=h w γ w' n g d c e;grind
   .exact .inr (.inl ⟨f,args,V,d,c,AJ⟩)
   .exact .inr (.inr h)
  grind
def anQ(n:∀l g g1,¬Z.o_ l g g1)(hk:b.kind≠ .early){rest:uad}{σ:cv Z}(hst:s8 σ)(h:nv Q Stop m b k cs ops i σ a (λp a1=>se Q Stop m b k cs ops rest p a1)):se Q Stop m b k cs ops (i::rest) σ a:=by
 intro w γ hS;unfold nv at h;split at h
 .grind
 .rename_i o s;split at h
  .rename_i r;refine bf.mk Y λw' c d j=>?_;rcases h with h|⟨f,args,V,x,v,K⟩|⟨f,args,x,v⟩;rotate_left
   rotate_left
   .obtain⟨r1,E,q⟩:=x w γ w' c _ hS d j;refine .quiet (stepG_enter s r hk r1) ⟨Y,p_ _ _ _,AJ,by grind[kx],λe=>e.elim q (n _ _ _)⟩ ?_;rw[kx Y];exact v a i rest Y w' c (hst w γ w' c _ hS d j)
   rotate_left
   .obtain⟨r1,E,q⟩:=x w γ w' c _ hS d j;refine .quiet (stepG_enter s r hk r1) ⟨Y,p_ _ _ _,AJ,by grind[kx],λe=>e.elim q (n _ _ _)⟩ ?_;rw[kx Y];refine v b a ops i rest k cs (λu p hv w2 D M=>?_) w' c (hst w γ w' c _ hS d j);have:=K u p hv w2 D M;grind
   obtain⟨u,w1,p,hrun,⟨O,A,J⟩,hK⟩:=h w γ w' c _ hS d j;have hs:stepG Q m (G (b.at a (.inRegion ops (i::rest)::k)) cs) w'=.go (G (b.at (a.put o.dst u) (.inRegion ops rest::k)) cs) w1 (listed Q b.fn a o w'):=by grind[stepG_value,stepG_none]
   rcases J with⟨P,z,L,F,t⟩|⟨bB,z,I,H,B,y,C,N⟩
   .refine .quiet hs ⟨Y,A,L,F,λe=>e.elim t (n _ _ _)⟩ ?_;have:=hK w1 c z;grind
   .refine .turn hs ⟨Y,.inl I,A,H,B,y,.inr C⟩ AJ ?_;have:=hK w1 bB z;grind
  .rename_i r;refine bf.mk Y λw' c d j=>?_;have hs:stepG Q m (G (b.at a (.inRegion ops (i::rest)::k)) cs) w'=.go (G (b.at (a.put o.dst undef) (.inRegion ops rest::k)) cs) w' #[]:=stepG_unwanted s AJ;refine .quiet hs ⟨Y,p_ _ _ _,AJ,PA,λe=>e.elim AJ (n _ _ _)⟩ ?_;rw[kx Y];exact h w' c (hst w γ w' c _ hS d j)
variable(Q Stop m b k cs md ops) in
def sf(C:cv Z->Prop)(ic:cv Z->Act->Prop):Nat->Array Bool->cv Z->Act->Prop
 |0,aq,σ,a=>Region.ready md ops aq=[]/\ic σ a
 |n+1,aq,σ,a=>(Region.ready md ops aq=[]->ic σ a)/\∀i∈Region.ready md ops aq,nv Q Stop m b k cs ops i σ a (λbu a1=>C bu/\sf C ic n (aq.setIfInBounds i true) bu a1)
def anS(f:∀l g g1,¬Z.o_ l g g1)(hk:b.kind≠ .early){C:cv Z->Prop}(j:∀σ,C σ->s8 σ){ic:cv Z->Act->Prop}(hK:∀σ a,C σ->ic σ a->se Q Stop m b k cs ops [] σ a):
 ∀(n t:Nat)(aq:uar)(σ:cv Z)(a:Act),C σ->sf Q Stop m b k cs ops md C ic n aq σ a->se Q Stop m b k cs ops (Region.linearise.go md ops n t aq []) σ a:=by
 intro n;induction n with
 |zero=>intro t aq σ a d h;simpa[Region.linearise.go]using hK σ a d h.2
 |succ n p=>
  intro t aq σ a d h;obtain⟨e,c⟩:=h;simp only[Region.linearise.go];change se Q Stop m b k cs ops (match(Region.ready md ops aq)[t % (Region.ready md ops aq).length]? with
   |some i=>Region.linearise.go md ops n (t / (Region.ready md ops aq).length) (aq.setIfInBounds i true) [i]
   |none=>[].reverse) σ a
  cases hi:(Region.ready md ops aq)[t % (Region.ready md ops aq).length]? with
  |none=>
   have o:Region.ready md ops aq=[]:=by cases q:Region.ready md ops aq with|nil=>rfl|cons x xs=>grind[Nat.mod_lt]
   grind
  |some i=>simp only[];rw[linearise_go_acc,List.reverse_singleton,List.singleton_append];exact anQ f hk (j σ d) ((c i (vcb hi)).mono AJ)
variable(Q b ops) in
def n2(C:cv Z->Prop)(o:Oper)(v:Value)(a:Act):Prop:=
 (veg o ops a.tmps=true/\∀σ,C σ->∀w γ w' aj g,σ.S w γ->Z.dM σ.l γ aj->dN Z σ.l aj ⟨g,w,σ.mine⟩ w'->(execOp a.eval o).run Q w'=.ok (.value v) w'/\oI Z σ.l σ.mine (Z.deaf σ.l) (listed Q b.fn a o w').toList/\¬ ∃e∈listed Q b.fn a o w',vw Z e)\/
 (veg o ops a.tmps=false/\v=undef)
def n2.JF{C:cv Z->Prop}{o:Oper}{a':Act}(c:n2 Q b ops C o v a)(e:execOp a'.eval o=execOp a.eval o)(d:Region.wanted o (yielded ops a'.tmps)=veg o ops a.tmps):n2 Q b ops C o v a':=by
 grind[n2,listed]
def n2.aax{C:cv Z->Prop}{o:Oper}{σ:cv Z}(hi:ops[i]?=some o)(n:n2 Q b ops C o v a)(p:C σ)(hst:s8 σ){K:cv Z->Act->Prop}(h:K σ (a.put o.dst v)):nv Q Stop m b k cs ops i σ a K:=by
 unfold nv;simp[hi];rcases n with⟨c,hv⟩|⟨c,rfl⟩
 .simp[c];refine .inl λw γ w' j g f e d=>?_;obtain⟨r1,q,l⟩:=hv σ p w γ w' j g f e d;have hg:grown σ.mine w' w'=σ.mine:=kx Y;exact⟨v,w',σ,.inl r1,⟨hg.symm,p_ _ _ _,.inl ⟨Y,hst w γ w' j g f e d,AJ,AJ,l⟩⟩,h⟩
 grind
def anU{C:cv Z->Prop}{j:Nat}{c oj:Oper}(D:ops[j]?=some oj)(E:c.apart ops oj=true)(F:∀cs b,c.op≠ .select cs b)(t:∀cs b,oj.op≠ .select cs b){K:cv Z->Act->Prop}{σ:cv Z}(r:n2 Q b ops C c v a)(h:nv Q Stop m b k cs ops j σ (a.put c.dst v) K):
 nv Q Stop m b k cs ops j σ a (λs a1=>n2 Q b ops C c v a1/\K s (a1.put c.dst v)):=by
 obtain⟨n,I,y⟩:=Oper.apart_spec E;have keep:∀(a:Act),n2 Q b ops C c v a->∀u,n2 Q b ops C c v (a.put oj.dst u):=λa r u=>
  r.JF (execOp_put c F a oj.dst u y) (wanted_put c a oj.dst u y)
 unfold nv at *;simp only[D]at *;rw[wanted_put oj a c.dst v n]at h;split
 .rename_i B;simp[B]at h;rcases h with h|⟨f,args,V,d,l,x⟩|⟨f,args,d,l⟩
  .refine .inl λw γ w' e g d l x=>?_;obtain⟨u,w1,s,r1,z,H⟩:=h w γ w' e g d l x;unfold listed at *;rw[execOp_put oj t a c.dst v n]at r1 z;grind[Act.put_comm]
  .refine .inr (.inl ⟨f,args,V,λw γ w' e g q p o=>?_,l,λu s hv=>⟨keep a r u,by grind[Act.put_comm]⟩⟩);have r1:=d w γ w' e g q p o;unfold listed at *;rw[execOp_put oj t a c.dst v n]at r1;exact r1
  .refine .inr (.inr ⟨f,args,λw γ w' e g q p o=>?_,λa' i rest hd=>l a' i rest (by cases A:c.dst<;>simp[Act.put,A,hd])⟩)
   have r1:=d w γ w' e g q p o;unfold listed at *;rw[execOp_put oj t a c.dst v n]at r1;exact r1
 grind[Act.put_comm]
def anV{C:cv Z->Prop}(r:∀σ,C σ->s8 σ){ic:cv Z->Act->Prop}{f:Oper}(hi:ops[i]?=some f)(K:∀(j:Nat)(o:Oper) cs b,ops[j]?=some o->o.op≠ .select cs b):
 ∀(n:Nat)(aq:uar)(σ:cv Z)(a:Act),
  (∀j oj,ops[j]?=some oj->j≠i->aq.getD j true=false->(∀e∈oj.after,Region.binds md e=true->e.on≠i)->f.apart ops oj=true)->
  i∈Region.ready md ops aq->n2 Q b ops C f v a->C σ->
  sf Q Stop m b k cs ops md C ic n (aq.setIfInBounds i true) σ (a.put f.dst v)->sf Q Stop m b k cs ops md C ic (n+1) aq σ a:=by
 intro n;induction n with
 |zero=>
  intro aq σ a _ q g c H;refine⟨AJ,λj h=>?_⟩;by_cases d:j=i
  .subst d;exact g.aax hi c (r σ c) ⟨c,H⟩
  .have:=ready_mono h d;rw[H.1]at this;grind
 |succ n s=>
  intro aq σ a B q g c H;refine⟨AJ,λj h=>?_⟩;by_cases d:j=i
  .subst d;exact g.aax hi c (r σ c) ⟨c,H⟩
  .have w:=H.2 j (ready_mono h d);obtain⟨y,oj,A,J⟩:=mem_ready.1 h;have E:∀e∈oj.after,Region.binds md e=true->e.on≠i:=λe F I t=>by grind[mem_ready]
   have u:=anU A AJ AJ AJ g w;have z:∀k ok,ops[k]?=some ok->k≠i->(aq.setIfInBounds j true).getD k true=false->
    (∀e∈ok.after,Region.binds md e=true->e.on≠i)->f.apart ops ok=true:=λk ok hk D M l=>by
    refine B k ok hk D ?_ l;by_cases L:j=k
    .grind
    simp_all
   refine u.mono λx a1 p=>⟨p.2.1,s (aq.setIfInBounds j true) x a1 z (ready_mono q (Ne.symm d)) p.1 p.2.1 ?_⟩;grind[Array.setIfInBounds_comm]
def iY{C:cv Z->Prop}(g:∀σ,C σ->s8 σ){ic:cv Z->Act->Prop}{c:Oper}{aq:uar}{σ:cv Z}(hi:ops[i]?=some c)(hs:Region.noSelect ops=true)(e:Region.free md ops aq i=true)(j:(Region.ready md ops aq).contains i=true)(d:n2 Q b ops C c v a)(f:C σ)(h:sf Q Stop m b k cs ops md C ic n (aq.setIfInBounds i true) σ (a.put c.dst v)):sf Q Stop m b k cs ops md C ic (n+1) aq σ a:=
 anV g hi (Region.noSelect_spec hs) n aq σ a (Region.free_spec hi e) AJ d f h
def S5{C:cv Z->Prop}{ic:cv Z->Act->Prop}{rs:uad}{aq:uar}{σ:cv Z}(d:Region.ready md ops aq=rs)(e:rs≠[])(h:∀i∈rs,nv Q Stop m b k cs ops i σ a (λc a1=>C c/\sf Q Stop m b k cs ops md C ic n (aq.setIfInBounds i true) c a1)):sf Q Stop m b k cs ops md C ic (n+1) aq σ a:=
 ⟨AJ,d▸h⟩
def A2{C:cv Z->Prop}{ic:cv Z->Act->Prop}{aq:uar}{σ:cv Z}(c:Region.ready md ops aq=[])(h:ic σ a):∀n,sf Q Stop m b k cs ops md C ic n aq σ a
 |0=>⟨c,h⟩
 | _+1=>⟨λ_=>h,AJ⟩
def A3(i:∀l g g1,¬Z.o_ l g g1)(hk:b.kind≠ .early)(p:Q.follows .mixedOrders=true){C:cv Z->Prop}(j:∀σ,C σ->s8 σ)(d:∀σ,C σ->∀w γ,σ.S w γ->σ.S {w with drawn:=w.drawn+1} γ){ic:cv Z->Act->Prop}(hK:∀σ a,C σ->ic σ a->se Q Stop m b k cs ops [] σ a){id:Nat}{σ:cv Z}(c:C σ)(h:sf Q Stop m b k cs ops .any C ic ops.size (Array.replicate ops.size false) σ a)(w:aH)(γ:Z.aN)(hS:σ.S w γ):
 bf Z Q Stop m σ.l γ ⟨G (b.at a (.code (.region id ops true)::k)) cs,w,σ.mine⟩:=by
 refine bf.mk Y λw' f n o=>?_;refine .quiet stepG_region_draw ⟨Y,⟨AJ,vad _,.refl _,Y,Y⟩,AJ,PA,λe=>e.elim AJ (i _ _ _)⟩ ?_;rw[kx (w:=w') (w1:={w' with drawn:=w'.drawn+1}) Y];simp only[Region.schedule,p,Bool.true_or,vbr];exact anS i hk j hK ops.size _ _ σ a c h _ f (d σ c w' f (j σ c w γ w' f _ hS n o))
end
section
section
variable{Z:eX}{Q:cf}{Stop:Bool->Z.Lo->aX->Prop}{m:Bool}{l:Z.Lo}{γ:Z.aN}{X:aX}{w':aH}
def Gu(Z:eX)(mine:dY)(e:Event):Prop:=
 match e.loc with
 | .cell a=>e.sync=false/\((Z.K a.block/\e.write=false)\/mine a.block)
 | .obj r=>e.sync=false/\((Z.K r/\e.write=false)\/mine r)
 | .mark .noRoom| .mark (.extern _)=>True
 | _=>False
def S6(t:∀l g g1,¬Z.o_ l g g1)(u:Z.past l=false){g1:uaf}{w1:aH}{es:uao}(hs:stepG Q m X.g w'=.go g1 w1 es)(hrun:g1.status=.running)(hk:∀b,b<w'.heap.size->¬X.mine b->w1.heap[b]?=w'.heap[b]?)(hsz:w'.heap.size<=w1.heap.size)(k:w1.os=w'.os)(s:w1.output=w'.output)(q:w1.tape=w'.tape)(p:∀b,grown X.mine w' w1 b->¬Z.hE b)(c:∀e∈es,Gu Z (grown X.mine w' w1) e)(h:bf Z Q Stop m l γ ⟨g1,w1,grown X.mine w' w1⟩):Then (Z:=Z) Q Stop m l γ X w':=by
 refine .quiet hs ⟨hrun,⟨AJ,hsz,by rw[k];exact .refl _,s,q⟩,λb j hS=>hk b j λn=>p b (.inl n) hS,AZ _ _ λe i d=>?_,?_⟩ h
 .have:=c e AJ;unfold Gu at this;unfold uh;cases o:e.loc with
  |cell a=>grind
  |obj r=>grind
  |mark mk=>rw[o]at this;cases mk<;>first|exact .inl this|grind
  |output=>trivial
  |goroutines=>grind
 .rintro(⟨e,i,f⟩|h)
  .have:=c e i;unfold Gu at this;rcases f with h|h|⟨a,h⟩|⟨a,h⟩|⟨f,b,j,hS⟩
   .grind
   .grind
   .grind
   .grind
   grind[e8]
  grind
end
end
end g6
namespace fF
open Conc ConcM au bn ai g6
variable{es:uao}{g g1:uaf}
section
section
variable{Z:eX}{Q:cf}{Stop:Bool->Z.Lo->aX->Prop}{m:Bool}{l:Z.Lo}{γ:Z.aN}
def uh.more{M M':dY}(h:∀b,M b->M' b){d:Nat}{e:Event}(k:uh Z l M d e):uh Z l M' d e:=by grind[uh]
theorem oI.more{M M':dY}(h:∀b,M b->M' b):∀{es:ubk}{d:Nat},oI Z l M d es->oI Z l M' d es
 | [],_,_=>trivial
 | _::_,_,k=>⟨uh.more h k.1,oI.more h k.2⟩
def CZ{M M':dY}(h:∀b,M b->M' b)(w w1:aH):∀b,grown M w w1 b->grown M' w w1 b:=λ_ k=>k.imp (h _) id
def lE.more{M M':dY}(h:∀b,M b->M' b){w w1:aH}(k:lE Z M w w1):lE Z M' w w1:=
 ⟨λb c d a=>k.kept b c AJ a,k.size,k.os,k.output,k.tape⟩
theorem Says.more{M M':dY}(h:∀b,M b->M' b){l1:Z.Lo}(k:Says Z l l1 M es):Says Z l l1 M' es:=by
 rcases k with⟨e,d,c,a⟩|k|k|k
 .exact .inl ⟨e,d,c,oI.more h a⟩
 .exact .inr (.inl k)
 .exact .inr (.inr (.inl k))
 .exact .inr (.inr (.inr k))
theorem bf.more(hS:∀m l g w M M',(∀b,M b->M' b)->Stop m l ⟨g,w,M⟩->Stop m l ⟨g,w,M'⟩){X:aX}(h:bf Z Q Stop m l γ X):∀{M':dY},(∀b,X.mine b->M' b)->bf Z Q Stop m l γ ⟨X.g,X.w,M'⟩:=by
 induction h with
 |stop h=>exact λd=>.stop (hS _ _ _ _ _ _ d h)
 |@step m l γ X hs ch ok hq u t v s r p o=>
  intro M' d;have j:∀{w' f},dN Z l f ⟨X.g,X.w,M'⟩ w'->dN Z l f X w':=λa=>⟨⟨λb x=>a.rely.heap b AJ,a.rely.size,a.rely.env⟩,a.mt,a.sees,a.later,a.output,a.tape⟩;refine .step hs ch (λw' f i a=>?_) (λw' f g1 w1 es i a e hrun k=>s w' f g1 w1 es i (j a) e hrun k (CZ d w' w1)) (λw' f g1 w1 es i a e k=>r w' f g1 w1 es i (j a) e k (CZ d w' w1)) (λw' f g1 c w1 es i a e=>p w' f g1 c w1 es i (j a) e (CZ d w' w1)) AJ;rcases ok w' f i (j a)with⟨g1,w1,es,e,q⟩|⟨g1,w1,es,e,q,n⟩|h|⟨em,g1,c,w1,es,e,q⟩
  .exact .inl ⟨g1,w1,es,e,q.run,lE.more d q.keep,q.sh,oI.more (CZ d w' w1) q.evs,q.low⟩
  .exact .inr (.inl ⟨g1,w1,es,e,⟨q.run,q.Na,lE.more d q.keep,q.mt,q.AY,Says.more (CZ d w' w1) q.says,q.Jx⟩,λh=>⟨(n h).1,hS _ _ _ _ _ _ (CZ d w' w1) (n h).2⟩⟩)
  .exact .inr (.inr (.inl h))
  .exact .inr (.inr (.inr ⟨em,g1,c,w1,es,e,⟨q.run,q.aad,lE.more d q.keep,q.mt,q.a6,q.AY,oI.more (CZ d w' w1) q.evs,q.deaf,q.tok,q.past,q.Jx,q.stays⟩⟩))
def ca(mine:dY)(bs:uan)(b:Nat):Prop:=mine b\/b∈bs.map (·.1)
structure ah(Z:eX)(mine:dY)(w0:aH)(bs:uan)(w:aH):Prop where
 rw:ak Z mine w0 w
 cZ:∀x∈bs,w.heap[x.1]?=some x.2
 lt:∀b,Z.K b\/mine b\/Z.hE b->b<w.heap.size
 eL:∀b,Z.K b\/ca mine bs b->¬Z.hE b
 sX:∀b∈bs.map (·.1),¬(Z.K b\/mine b)
 la:(bs.map (·.1)).Nodup
 vE:∀b,mine b->¬Z.K b
variable{mine:dY}{w0:aH}{bs:uan}{w w1:aH}
def ah.on(h:ah Z mine w0 bs w)(r:ak Z (ca mine bs) w w1):ah Z mine w0 bs w1:=
 ⟨h.rw.trans ⟨λb a=>r.heap b (a.imp id .inl),r.size,r.later,r.output,r.tape⟩,λx c=>(r.heap x.1 (.inr (.inr AJ))).trans (h.cZ x c),λb a=>vav (h.lt b a) r.size,h.eL,h.sX,h.la,h.vE⟩
def fZ{X:Z.aN->Prop}{n:Nat}(hs:g.status=.running)(hF:ah Z mine w0 bs w)(h:∀b,ak Z (ca mine bs) w b->∀e,X e->∀a d,Z.dM l e d->dN Z l d ⟨g,b,ca mine bs⟩ a->ah Z mine w0 bs a->Then Q Stop m l d ⟨g,b,ca mine bs⟩ a):
 Goes Q m (ak Z (ca mine bs)) Go.ConcR.DC0 (λg w=>g.status=.running/\∀i,X i->bf Z Q Stop m l i ⟨g,w,ca mine bs⟩) n g w:=
 vag λb c=>⟨hs,λe j=>bf.mk hs λa d k f=>h b c e j a d k f ((hF.on c).on (dN.rw f))⟩
def ah.start(hK:∀b,Z.K b\/mine b\/Z.hE b->b<w.heap.size)(c:∀b,Z.K b\/mine b->¬Z.hE b)(hd:∀b,mine b->¬Z.K b):ah Z mine w [] w:=
 ⟨.refl _ _ _,AQ,hK,λb a=>c b (a.imp id (λx=>x.elim id AQ)),AQ,AQ,hd⟩
def ca.cons{b0:Nat}{o:Obj}:(λb=>ca mine bs b\/b=b0)=ca mine ((b0,o)::bs):=by grind[ca]
def S8(M:dY)(w:aH)(o:Obj):grown M w (w.alloc o)=λb=>M b\/b=w.heap.size:=by grind[grown,World.alloc]
def C0{o:Obj}{b:Nat}(h:b<w.heap.size):(w.alloc o).heap[b]?=w.heap[b]?:=by show(w.heap.push o)[b]?=_;grind
def anZ{o:Obj}:(w.alloc o).heap[w.heap.size]?=some o:=by show(w.heap.push o)[w.heap.size]?=_;grind
def an0{o:Obj}:(w.alloc o).heap.size=w.heap.size+1:=by simp_all
def ah.S9(h:ah Z mine w0 bs w){b:Nat}(c:b∈bs.map (·.1)):b<w.heap.size:=by obtain⟨x,a,rfl⟩:=vbx.1 c;have:=h.cZ x a;grind
theorem ah.alloc(h:ah Z mine w0 bs w)(d:∀b,Z.K b->¬Z.hE b)(o:Obj):ah Z mine w0 ((w.heap.size,o)::bs) (w.alloc o):=by
 have hn:∀b,Z.K b\/mine b\/Z.hE b->b≠w.heap.size:=λb a=>Nat.ne_of_lt (h.lt b a);refine⟨h.rw.trans ⟨λb a=>C0 (h.lt b AJ),BR,.refl _,Y,Y⟩,λx c=>?_,λb a=>by rw[an0];have:=h.lt b a;omega,λb a hs=>?_,λb a=>?_,?_,h.vE⟩
 .rcases vbh.1 c with rfl|c
  .exact anZ
  .rw[C0 (h.S9 AJ)];exact h.cZ x c
 .rcases a with a|a|a
  .grind
  .exact h.eL b (.inr (.inl a)) hs
  .rcases vbh.1 a with rfl|a
   .grind
   .exact h.eL b (.inr (.inr a)) hs
 .rcases vbh.1 a with rfl|a
  .grind
  .exact h.sX b a
 .simp only[vdd,List.nodup_cons];exact⟨λe=>Nat.lt_irrefl _ (h.S9 e),h.la⟩
def uo(f:∀l g g1,¬Z.o_ l g g1)(i:∀b,Z.K b->¬Z.hE b)(j:Z.past l=false){o:Obj}(hk:ah Z mine w0 bs w)(hs:stepG Q m g w=.go g1 (w.alloc o) es)(hrun:g1.status=.running)(k:es=#[]){d:aH}(h:ah Z mine w0 ((w.heap.size,o)::bs) (w.alloc o)->bf Z Q Stop m l γ ⟨g1,w.alloc o,ca mine ((w.heap.size,o)::bs)⟩):Then (Z:=Z) Q Stop m l γ ⟨g,d,ca mine bs⟩ w:=by
 have e:=hk.alloc i o;have hg:grown (ca mine bs) w (w.alloc o)=ca mine ((w.heap.size,o)::bs):=by rw[S8];exact ca.cons
 refine S6 f j hs hrun (λb a _=>C0 a) BR Y Y Y ?_ AJ ?_
 .intro b a hS;have c:grown (ca mine bs) w (w.alloc o) b:=a;rw[hg]at c;exact e.eL b (.inr c) hS
 grind
def s9(c:∀l g g1,¬Z.o_ l g g1)(d:Z.past l=false){M:dY}(i:∀b,M b->¬Z.hE b)(hs:stepG Q m g w=.go g1 w es)(hrun:g1.status=.running)(f:∀e∈es,Gu Z M e){a:aH}(h:bf Z Q Stop m l γ ⟨g1,w,M⟩):Then (Z:=Z) Q Stop m l γ ⟨g,a,M⟩ w:=by
 have hg:grown M w w=M:=kx Y;refine S6 c d hs hrun AJ Kj Y Y Y (λb k=>i b ?_) (λe j=>?_) ?_
 .simp_all
 .grind
 grind
def ah.write(h:ah Z mine w0 bs w){b:Nat}{bs':uan}(i:b∈bs.map (·.1))(c:bs'.map (·.1)=bs.map (·.1))(f:∀x∈bs',w1.heap[x.1]?=some x.2)(a:∀k,k≠b->w1.heap[k]?=w.heap[k]?)(hsz:w1.heap.size=w.heap.size)(d:w1.os=w.os)(g:w1.output=w.output)(ht:w1.tape=w.tape):ah Z mine w0 bs' w1:=by
 have j:ca mine bs'=ca mine bs:=by grind[ca]
 refine⟨h.rw.trans ⟨λk hk=>a k λe=>h.sX b i (e▸hk),AJ,by rw[d];exact .refl _,g,ht⟩,f,λk hk=>by rw[hsz];exact h.lt k hk,by rw[j];exact h.eL,by rw[c];exact h.sX,by rw[c];exact h.la,h.vE⟩
def an1(n:∀l g g1,¬Z.o_ l g g1)(p:Z.past l=false)(hk:ah Z mine w0 bs w)(hs:stepG Q m g w=.go g1 w1 es)(hrun:g1.status=.running){b:Nat}{bs':uan}(f:b∈bs.map (·.1))(q:bs'.map (·.1)=bs.map (·.1))(o:∀x∈bs',w1.heap[x.1]?=some x.2)(a:∀k,k≠b->w1.heap[k]?=w.heap[k]?)(hsz:w1.heap.size=w.heap.size)(c:w1.os=w.os)(d:w1.output=w.output)(ht:w1.tape=w.tape)(r:∀e∈es,Gu Z (ca mine bs) e){j:aH}(h:ah Z mine w0 bs' w1->bf Z Q Stop m l γ ⟨g1,w1,ca mine bs'⟩):Then (Z:=Z) Q Stop m l γ ⟨g,j,ca mine bs⟩ w:=by
 have s:=hk.write f q o a hsz c d ht;have hg:grown (ca mine bs) w w1=ca mine bs:=kx hsz;have u:ca mine bs'=ca mine bs:=by grind[ca]
 refine S6 n p hs hrun (λk _ i=>a k λe=>i (.inr (e▸f))) AJ c d ht (λk i=>hk.eL k (.inr ?_)) (λe t=>?_) ?_
 .simp_all
 .grind
 grind
end
end
end fF
namespace bz
open Conc RowKit Conc.Lib ConcR.Gen ConcM au bn ai
def G2:Code->Option Code
 | .block _ (.seq (.seq _ (.cond _ x _)) _)=>some x
 | _=>none
def uH(A:e9)(Stop:Bool->ai.Lo A.ao->aX->Prop)(m:Bool)(mine:dY)(a2:Frame)(aD:Act)(aB:fC)(aJ:Nat)(aL:uad)(aG:uaa)(csZ:fG)(l:ai.Lo A.ao)(γ:ai.aN A.aO)(cw:Int)(sv aw:Bool)(it old:Int)(w:aH):Prop:=
 jQ [.code ((dJ 8 ((dC (f127.body.getD .skip)).getD .skip)).getD .skip),.code ((dJ 11 ((dC (f127.body.getD .skip)).getD .skip)).getD .skip),.inBlock 1,.inLoop ((dC (f127.body.getD .skip)).getD .skip),.inBlock 0,.code ((lr (f127.body.getD .skip)).getD .skip)] A Stop m mine a2 aD aB aJ aL aG csZ l γ cw sv aw it old w
def xS(A:e9)(Stop:Bool->ai.Lo A.ao->aX->Prop)(m:Bool)(mine:dY)(a2:Frame)(aD:Act)(aB:fC)(aJ:Nat)(aL:uad)(aG:uaa)(csZ:fG)(l:ai.Lo A.ao)(γ:ai.aN A.aO)(cw:Int)(sv aw:Bool)(it old:Int)(w:aH):Prop:=
 jQ [.code ((G2 ((dC (f127.body.getD .skip)).getD .skip)).getD .skip),.code ((dJ 11 ((dC (f127.body.getD .skip)).getD .skip)).getD .skip),.inBlock 1,.inLoop ((dC (f127.body.getD .skip)).getD .skip),.inBlock 0,.code ((lr (f127.body.getD .skip)).getD .skip)] A Stop m mine a2 aD aB aJ aL aG csZ l γ cw sv aw it old w
variable{cw it old:Int}{w:aH}
section
variable{A:e9}{Stop:Bool->ai.Lo A.ao->aX->Prop}{m:Bool}{mine:dY}
variable{a2:Frame}{aD:Act}{aB:fC}{aJ:Nat}{aL:uad}{aG:uaa}{csZ:fG}
def asx(G:A.Good){l:ai.Lo A.ao}{γ:ai.aN A.aO}{sv aw:Bool}(g:(bits .and .i32 old 5==1)=false)(c:∀w' d,(am A).dM l γ d->ak (am A) mine w w'->Bp A Stop m mine a2 aD aB aJ aL aG csZ l d cw sv aw it old w'):
 qm A Stop m mine a2 aD aB aJ aL aG csZ l γ cw sv aw it old w:=by
 unfold qm jQ;intros
 unfold Bp jQ at c;have hF:=ak.refl (am A) mine w;simp only[f127,vae,dC,lr,dJ,Nat.reduceBEq,vaf,↓reduceIte]at c⊢;refine bb G ?_;u_c stepG_block ak.trans hF
 u_c vdp ak.trans hF
 u_c vdp ak.trans hF
 repeat w_but "code.seq" ak.trans
 exact vag (λa b=>⟨Y,λf e=>c a f e (ak.trans hF b) ..⟩)
def asy(G:A.Good){l:ai.Lo A.ao}{γ:ai.aN A.aO}{sv aw:Bool}(r:bits .and .i32 old 5=1)(g:∀w' f,(am A).dM l γ f->ak (am A) mine w w'->Bp A Stop m mine a2 aD aB aJ aL aG csZ l f cw sv aw it old w')(hS:it<4->∀w' f,(am A).dM l γ f->ak (am A) mine w w'->xS A Stop m mine a2 aD aB aJ aL aG csZ l f cw sv aw it old w'):
 qm A Stop m mine a2 aD aB aJ aL aG csZ l γ cw sv aw it old w:=by
 unfold qm jQ;intros
 unfold Bp jQ at g;unfold xS jQ at hS;have hF:=ak.refl (am A) mine w;simp only[f127,vae,dC,lr,dJ,G2,Nat.reduceBEq,vaf,↓reduceIte]at g hS⊢;refine bb G ?_;repeat w_go ak.trans
 refine dU Y hF λb a d i c q j o hF=>?_;have h:=(c_ G).trans _ _ _ _ i j;by_cases p:it<4
 .refine l5 (stepG_canSpin_ask Y Y Ag Y func144 Wh Wd V5 VV (k:=.i64) (n:=it) Bi p) Y Y (.refl _) Y Y ?_;replace hF:=ak.trans hF (⟨λ_ _=>Y,vad _,.refl _,Y,Y⟩:ak (am A) mine c c.asked);clear o j i a;cases c.spins with
  |false=>
   refine bb G ?_;walk_nrm
   repeat w_but "code.seq" ak.trans
   exact vag (λb a=>⟨Y,λd e=>g b d ((c_ G).trans _ _ _ _ h e) (ak.trans hF a) ..⟩)
  |true=>
   refine bb G ?_;walk_nrm
   repeat w_but "code.seq" ak.trans
   exact vag (λb a=>⟨Y,λd e=>hS p b d ((c_ G).trans _ _ _ _ h e) (ak.trans hF a) ..⟩)
 .refine l5 (stepG_canSpin_no Y Y Ag Y func144 Wh Wd V5 VV (k:=.i64) (n:=it) Bi AP) Y Y (.refl _) Y Y ?_;clear o j i a;refine bb G ?_;walk_nrm
  repeat w_but "code.seq" ak.trans
  exact vag (λb a=>⟨Y,λd e=>g b d ((c_ G).trans _ _ _ _ h e) (ak.trans hF a) ..⟩)
def QD(G:A.Good){l:ai.Lo A.ao}{γ:ai.aN A.aO}{sv aw:Bool}(r:0<=it)(q:it<4)(h:∀w' e,(e=γ\/e.a6<γ.a6)->ak (am A) mine w w'->hH (am A) l e->qm A Stop m mine a2 aD aB aJ aL aG csZ l e cw sv aw (it+1) (e.mu.word:Int) w'):
 uH A Stop m mine a2 aD aB aJ aL aG csZ l γ cw sv aw it old w:=by
 unfold uH jQ;intros
 unfold qm jQ at h;have hF:=ak.refl (am A) mine w;have t:IntKind.wrap .i64 (it+1)=it+1:=GL;simp only[f127,vae,dC,lr,dJ,Nat.reduceBEq,vaf,↓reduceIte]at h⊢;refine bb G ?_;repeat w_go ak.trans
 refine dU Y hF λb a k d j s f c hF=>?_;have g:=(c_ G).trans _ _ _ _ d f;refine l5 (stepG_entry_pure (.tuple #[]) Y Y Ag Y func145 art aru arv arw) Y Y (.refl _) Y Y ?_;clear c f d a;refine bb G ?_;walk_nrm
 repeat w_go ak.trans
 refine dU Y hF λb a k d i p f c hF=>?_;have n:=(c_ G).less _ _ _ ((c_ G).trans _ _ _ _ g ((c_ G).trans _ _ _ _ d f));have o:=c.sees;refine l5 (Bo Y Y Ag Y Y (l4 c.mt.1) Kw) Y Y (.refl _) Y Y ?_;clear c f d a;refine bb G ?_;walk_nrm
 repeat w_nl ak.trans
 u_c stepG_inLoop ak.trans hF
 exact vag (λb a=>⟨Y,λk g=>(h b p n (ak.trans hF a) o ..).k9 (c_ G) g⟩)
