import Derived.Conc.CompanyDraw
import Derived.Test.YtnomloiacicoaaaGreatPAD
import Derived.Test.YtnomloiacicoaaaGreatPAE
set_option linter.all false
set_option maxRecDepth 100000
set_option maxHeartbeats 16000000
namespace Go.Proofs.YtnomloiacicoaaaGreat
open Tryz
namespace hO
open Conc av bj ah
structure de(Z:fz) where
 l:Z.Lo
 mine:Nat->Prop
 S:aR->Z.aQ->Prop
variable{i n:Nat}{a:Act}{v:Value}
section
variable{Z:fz}{Q:cE}{Stop:Bool->Z.Lo->a0->Prop}{m:Bool}{b:Frame}{k:uab}{cs:hH}{ops:fF}{md:Region.Mode}
def tv(σ:de Z):Prop:=∀w γ w' aj g,σ.S w γ->Z.ey σ.l γ aj->ep Z σ.l aj ⟨g,w,σ.mine⟩ w'->σ.S w' aj
def aoK(σ:de Z)(γ:Z.aQ)(w' w1:aR)(es:uat)(bX:de Z):Prop:=
 bX.mine=grown σ.mine w' w1/\lU Z σ.mine w' w1/\
 ((bX.l=σ.l/\bX.S w1 γ/\(∀b,b<w'.heap.size->Z.ia b->w1.heap[b]?=w'.heap[b]?)/\pz Z σ.l (grown σ.mine w' w1) (Z.deaf σ.l) es.toList/\¬ ∃e∈es,xC Z e)\/
  (∃bu,bX.S w1 bu/\(∃e∈es,xC Z e)/\Z.uy bu w1/\C4 Z σ.l γ bX.l bu/\Says Z σ.l bX.l (grown σ.mine w' w1) es/\(∀ll,Z.oX ll γ->Z.oX ll bu)/\¬Z.Left bX.l))
variable(Q Stop m b k cs ops) in
def tw(todo:uac)(σ:de Z)(a:Act):Prop:=∀w γ,σ.S w γ->bc Z Q Stop m σ.l γ ⟨G (b.at a (.inRegion ops todo::k)) cs,w,σ.mine⟩
variable(Q b) in
def Df(o:Oper)(σ:de Z)(a:Act)(K:de Z->Act->Prop):Prop:=
 ∀w γ w' aj g,σ.S w γ->Z.ey σ.l γ aj->ep Z σ.l aj ⟨g,w,σ.mine⟩ w'->∃u w1 bX,((execOp a.eval o).run Q w'=.ok (.value u) w1\/((execOp a.eval o).run Q w'=.ok .skip w1/\u=undef))/\aoK σ aj w' w1 (listed Q b.fn a o w') bX/\K bX (a.put o.dst u)
variable(Q Stop m) in
def iU(f:uak)(args:dX)(σ:de Z)(V:Value->de Z->Prop):Prop:=
 ∀(a2:Frame)(aI:Act)(aC:fF)(aL:Nat)(aO:uac)(aK:uab)(csZ:hH),
  (∀u bX,V u bX->∀w γ,bX.S w γ->bc Z Q Stop m bX.l γ ⟨G (a2.at (aI.put ((aC[aL]?).bind (·.dst)) u) (.inRegion aC aO::aK)) csZ,w,bX.mine⟩)->
  ∀w γ,σ.S w γ->bc Z Q Stop m σ.l γ ⟨G (Frame.enter Q f args .normal) (a2.at aI (.inRegion aC (aL::aO)::aK)::csZ),w,σ.mine⟩
variable(Q Stop m b) in
def TF(o:Oper)(σ:de Z)(a:Act)(K:de Z->Act->Prop):Prop:=
 ∃f args V,(∀w γ w' aj g,σ.S w γ->Z.ey σ.l γ aj->ep Z σ.l aj ⟨g,w,σ.mine⟩ w'->(execOp a.eval o).run Q w'=.ok (.enter f args) w'/\pz Z σ.l σ.mine (Z.deaf σ.l) (listed Q b.fn a o w').toList/\¬ ∃e∈listed Q b.fn a o w',xC Z e)/\iU Q Stop m f args σ V/\∀u bX,V u bX->K bX (a.put o.dst u)
variable(Q Stop m b ops) in
def o0(i:Nat)(σ:de Z)(a:Act)(K:de Z->Act->Prop):Prop:=
 match ops[i]? with
 |none=>False
 |some o=>if Region.wanted o (yielded ops a.tmps)then Df Q b o σ a K\/TF Q Stop m b o σ a K else K σ (a.put o.dst undef)
theorem o0.mono{σ K K'}(h:o0 Q Stop m b ops i σ a K)(hk:∀σ a,K σ a->K' σ a):o0 Q Stop m b ops i σ a K':=by
 unfold o0 at *;split
 .simp_all
 .rename_i o d;simp[d]at h;split
  .rename_i c;simp[c]at h;rcases h with h|⟨f,args,V,h1,h2,h3⟩
   .refine .inl λw γ w' e g h1 h2 h3=>?_;obtain⟨u,w1,l,r1,k,j⟩:=h w γ w' e g h1 h2 h3;grind
   .exact .inr ⟨f,args,V,h1,h2,AA⟩
  grind
def aoL(q:∀l g g1,¬Z.py l g g1)(hk:b.kind≠ .early){rest σ}(hst:tv σ)(h:o0 Q Stop m b ops i σ a (λp a1=>tw Q Stop m b k cs ops rest p a1)):tw Q Stop m b k cs ops (i::rest) σ a:=by
 intro w γ n;unfold o0 at h;split at h
 .grind
 .rename_i o z;split at h
  .rename_i y;refine bc.mk Y λw' c d j=>?_;rcases h with h|⟨f,args,V,h1,h2,h3⟩;rotate_left
   .obtain⟨r1,L,E⟩:=h1 w γ w' c _ n d j;refine .quiet (stepG_enter z y hk r1) ⟨Y,rz _ _ _,AA,by grind[lq],λe=>e.elim E (q _ _ _)⟩ ?_;rw[lq Y];refine h2 b a ops i rest k cs (λu p hv B D t=>?_) w' c (hst w γ w' c _ n d j);have:=h3 u p hv B D t;grind
   obtain⟨u,w1,p,hrun,⟨N,x,J⟩,hK⟩:=h w γ w' c _ n d j;have hs:stepG Q m (G (b.at a (.inRegion ops (i::rest)::k)) cs) w'=.go (G (b.at (a.put o.dst u) (.inRegion ops rest::k)) cs) w1 (listed Q b.fn a o w'):=by grind[stepG_value,stepG_none]
   rcases J with⟨O,v,K,F,r⟩|⟨bu,v,I,H,A,s,C,M⟩
   .refine .quiet hs ⟨Y,x,K,F,λe=>e.elim r (q _ _ _)⟩ ?_;have:=hK w1 c v;grind
   .refine .turn hs ⟨Y,.inl I,x,H,A,s,.inr C⟩ AA ?_;have:=hK w1 bu v;grind
  .rename_i y;refine bc.mk Y λw' c d j=>?_;have hs:stepG Q m (G (b.at a (.inRegion ops (i::rest)::k)) cs) w'=.go (G (b.at (a.put o.dst undef) (.inRegion ops rest::k)) cs) w' #[]:=stepG_unwanted z AA;refine .quiet hs ⟨Y,rz _ _ _,AA,NE,λe=>e.elim AA (q _ _ _)⟩ ?_;rw[lq Y];exact h w' c (hst w γ w' c _ n d j)
variable(Q Stop m b md ops) in
def sB(C:de Z->Prop)(iM:de Z->Act->Prop):Nat->Array Bool->de Z->Act->Prop
 |0,ar,σ,a=>Region.ready md ops ar=[]/\iM σ a
 |n+1,ar,σ,a=>(Region.ready md ops ar=[]->iM σ a)/\∀i∈Region.ready md ops ar,o0 Q Stop m b ops i σ a (λbX a1=>C bX/\sB C iM n (ar.setIfInBounds i true) bX a1)
def aoN(f:∀l g g1,¬Z.py l g g1)(hk:b.kind≠ .early){C}(j:∀σ,C σ->tv σ){iM}(hK:∀σ a,C σ->iM σ a->tw Q Stop m b k cs ops [] σ a):
 ∀(n t:Nat)(ar:uap)(σ:de Z)(a:Act),C σ->sB Q Stop m b ops md C iM n ar σ a->tw Q Stop m b k cs ops (Region.linearise.go md ops n t ar []) σ a:=by
 intro n;induction n with
 |zero=>intro t ar σ a d h;simpa[Region.linearise.go]using hK σ a d h.2
 |succ n p=>
  intro t ar σ a d h;obtain⟨e,c⟩:=h;simp only[Region.linearise.go];change tw Q Stop m b k cs ops (match(Region.ready md ops ar)[t % (Region.ready md ops ar).length]? with
   |some i=>Region.linearise.go md ops n (t / (Region.ready md ops ar).length) (ar.setIfInBounds i true) [i]
   |none=>[].reverse) σ a
  cases hi:(Region.ready md ops ar)[t % (Region.ready md ops ar).length]? with
  |none=>
   have o:Region.ready md ops ar=[]:=by cases q:Region.ready md ops ar with|nil=>rfl|cons x xs=>grind[Nat.mod_lt]
   grind
  |some i=>simp only[];rw[linearise_go_acc,List.reverse_singleton,List.singleton_append];exact aoL f hk (j σ d) ((c i (List.mem_of_getElem? hi)).mono AA)
variable(Q b ops) in
def ot(C:de Z->Prop)(o:Oper)(v:Value)(a:Act):Prop:=
 (vfe o ops a.tmps=true/\∀σ,C σ->∀w γ w' aj g,σ.S w γ->Z.ey σ.l γ aj->ep Z σ.l aj ⟨g,w,σ.mine⟩ w'->(execOp a.eval o).run Q w'=.ok (.value v) w'/\pz Z σ.l σ.mine (Z.deaf σ.l) (listed Q b.fn a o w').toList/\¬ ∃e∈listed Q b.fn a o w',xC Z e)\/
 (vfe o ops a.tmps=false/\v=undef)
def ot.J3{C:de Z->Prop}{o a'}(c:ot Q b ops C o v a)(e:execOp a'.eval o=execOp a.eval o)(d:Region.wanted o (yielded ops a'.tmps)=vfe o ops a.tmps):ot Q b ops C o v a':=by
 grind[ot,listed]
def ot.aa1{C o σ}(hi:ops[i]?=some o)(f:ot Q b ops C o v a)(j:C σ)(hst:tv σ){K}(h:K σ (a.put o.dst v)):o0 Q Stop m b ops i σ a K:=by
 unfold o0;simp[hi];rcases f with⟨c,hv⟩|⟨c,rfl⟩
 .simp[c];refine .inl λw γ w' d g h1 h2 h3=>?_;obtain⟨r1,k,e⟩:=hv σ j w γ w' d g h1 h2 h3;have hg:grown σ.mine w' w'=σ.mine:=lq Y;exact⟨v,w',σ,.inl r1,⟨hg.symm,rz _ _ _,.inl ⟨Y,hst w γ w' d g h1 h2 h3,AA,AA,e⟩⟩,h⟩
 grind
def aoP{C:de Z->Prop}{j cX oj}(p:ops[j]?=some oj)(q:cX.apart ops oj=true)(r:∀cs b,cX.op≠ .select cs b)(i:∀cs b,oj.op≠ .select cs b){K σ}(c:ot Q b ops C cX v a)(h:o0 Q Stop m b ops j σ (a.put cX.dst v) K):
 o0 Q Stop m b ops j σ a (λd a1=>ot Q b ops C cX v a1/\K d (a1.put cX.dst v)):=by
 obtain⟨h1,h2,h3⟩:=Oper.apart_spec q;have keep:∀(a:Act),ot Q b ops C cX v a->∀u,ot Q b ops C cX v (a.put oj.dst u):=λa c u=>
  c.J3 (execOp_put cX r a oj.dst u h3) (wanted_put cX a oj.dst u h3)
 unfold o0 at *;simp only[p]at *;rw[wanted_put oj a cX.dst v h1]at h;split
 .rename_i o;simp[o]at h;rcases h with h|⟨f,args,V,aZ,a3,q3⟩
  .refine .inl λw γ w' e g aZ a3 q3=>?_;obtain⟨u,w1,d,r1,k,s⟩:=h w γ w' e g aZ a3 q3;unfold listed at *;rw[execOp_put oj i a cX.dst v h1]at r1 k;grind[Act.put_comm]
  .refine .inr ⟨f,args,V,λw γ w' e g n j2 l=>?_,a3,λu d hv=>⟨keep a c u,by grind[Act.put_comm]⟩⟩;have r1:=aZ w γ w' e g n j2 l;unfold listed at *;rw[execOp_put oj i a cX.dst v h1]at r1;exact r1
 grind[Act.put_comm]
def aoQ{C}(p:∀σ,C σ->tv σ){iM cX}(hi:ops[i]?=some cX)(u:∀(j:Nat)(o:Oper) cs b,ops[j]?=some o->o.op≠ .select cs b):
 ∀(n:Nat)(ar:uap)(σ:de Z)(a:Act),
  (∀j oj,ops[j]?=some oj->j≠i->ar.getD j true=false->(∀e∈oj.after,Region.binds md e=true->e.on≠i)->cX.apart ops oj=true)->
  i∈Region.ready md ops ar->ot Q b ops C cX v a->C σ->
  sB Q Stop m b ops md C iM n (ar.setIfInBounds i true) σ (a.put cX.dst v)->sB Q Stop m b ops md C iM (n+1) ar σ a:=by
 intro n;induction n with
 |zero=>
  intro ar σ a _ l f c H;refine⟨AA,λj g=>?_⟩;by_cases d:j=i
  .subst d;exact f.aa1 hi c (p σ c) ⟨c,H⟩
  .have:=ready_mono g d;rw[H.1]at this;grind
 |succ n q=>
  intro ar σ a y l f c H;refine⟨AA,λj g=>?_⟩;by_cases d:j=i
  .subst d;exact f.aa1 hi c (p σ c) ⟨c,H⟩
  .have h1:=H.2 j (ready_mono g d);obtain⟨t,oj,x,E⟩:=mem_ready.1 g;have A:∀e∈oj.after,Region.binds md e=true->e.on≠i:=λe B D r=>by grind[mem_ready]
   have h2:=aoP x AA AA AA f h1;have w:∀k ok,ops[k]?=some ok->k≠i->(ar.setIfInBounds j true).getD k true=false->
    (∀e∈ok.after,Region.binds md e=true->e.on≠i)->cX.apart ops ok=true:=λk ok hk z I h=>by
    refine y k ok hk z ?_ h;by_cases F:j=k
    .grind
    simp_all
   refine h2.mono λs a1 h3=>⟨h3.2.1,q (ar.setIfInBounds j true) s a1 w (ready_mono l (Ne.symm d)) h3.1 h3.2.1 ?_⟩;grind[Array.setIfInBounds_comm]
def j3{C:de Z->Prop}(f:∀σ,C σ->tv σ){iM:de Z->Act->Prop}{cX:Oper}{ar:uap}{σ:de Z}(hi:ops[i]?=some cX)(hs:Region.noSelect ops=true)(d:Region.free md ops ar i=true)(g:(Region.ready md ops ar).contains i=true)(c:ot Q b ops C cX v a)(e:C σ)(h:sB Q Stop m b ops md C iM n (ar.setIfInBounds i true) σ (a.put cX.dst v)):sB Q Stop m b ops md C iM (n+1) ar σ a:=
 aoQ f hi (Region.noSelect_spec hs) n ar σ a (Region.free_spec hi d) AA c e h
def TK{C:de Z->Prop}{iM:de Z->Act->Prop}{rs:uac}{ar:uap}{σ:de Z}(d:Region.ready md ops ar=rs)(e:rs≠[])(h:∀i∈rs,o0 Q Stop m b ops i σ a (λc a1=>C c/\sB Q Stop m b ops md C iM n (ar.setIfInBounds i true) c a1)):sB Q Stop m b ops md C iM (n+1) ar σ a:=
 ⟨AA,d▸h⟩
def Dg{C:de Z->Prop}{iM:de Z->Act->Prop}{ar:uap}{σ:de Z}(c:Region.ready md ops ar=[])(h:iM σ a):∀n,sB Q Stop m b ops md C iM n ar σ a
 |0=>⟨c,h⟩
 | _+1=>⟨λ_=>h,AA⟩
def Dh(i:∀l g g1,¬Z.py l g g1)(hk:b.kind≠ .early)(p:Q.follows .mixedOrders=true){C}(j:∀σ,C σ->tv σ)(d:∀σ,C σ->∀w γ,σ.S w γ->σ.S {w with drawn:=w.drawn+1} γ){iM}(hK:∀σ a,C σ->iM σ a->tw Q Stop m b k cs ops [] σ a){id σ}(c:C σ)(h:sB Q Stop m b ops .any C iM ops.size (Array.replicate ops.size false) σ a)w γ(q:σ.S w γ):
 bc Z Q Stop m σ.l γ ⟨G (b.at a (.code (.region id ops true)::k)) cs,w,σ.mine⟩:=by
 refine bc.mk Y λw' f n o=>?_;refine .quiet stepG_region_draw ⟨Y,⟨AA,vac _,.refl _,Y,Y⟩,AA,NE,λe=>e.elim AA (i _ _ _)⟩ ?_;rw[lq (w:=w') (w1:={w' with drawn:=w'.drawn+1}) Y];simp only[Region.schedule,p,Bool.true_or,vcx];exact aoN i hk j hK ops.size _ _ σ a c h _ f (d σ c w' f (j σ c w γ w' f _ q n o))
end
section
section
variable{Z:fz}{Q:cE}{Stop:Bool->Z.Lo->a0->Prop}{m:Bool}{l:Z.Lo}{γ:Z.aQ}{X:a0}{w':aR}
def G5(Z:fz)(mine:dL)(e:Event):Prop:=
 match e.loc with
 | .cell a=>e.sync=false/\((Z.K a.block/\e.write=false)\/mine a.block)
 | .obj r=>e.sync=false/\((Z.K r/\e.write=false)\/mine r)
 | .mark .noRoom| .mark (.extern _)=>True
 | _=>False
def TL(u:∀l g g1,¬Z.py l g g1)(v:Z.past l=false){g1:uaj}{w1:aR}{es:uat}(hs:stepG Q m X.g w'=.go g1 w1 es)(hrun:g1.status=.running)(hk:∀b,b<w'.heap.size->¬X.mine b->w1.heap[b]?=w'.heap[b]?)(hsz:w'.heap.size<=w1.heap.size)(n:w1.os=w'.os)(t:w1.output=w'.output)(s:w1.tape=w'.tape)(q:∀b,grown X.mine w' w1 b->¬Z.ia b)(c:∀e∈es,G5 Z (grown X.mine w' w1) e)(h:bc Z Q Stop m l γ ⟨g1,w1,grown X.mine w' w1⟩):Then (Z:=Z) Q Stop m l γ X w':=by
 refine .quiet hs ⟨hrun,⟨AA,hsz,by rw[n];exact .refl _,t,s⟩,λb j k=>hk b j λo=>q b (.inl o) k,A7 _ _ λe i d=>?_,?_⟩ h
 .have:=c e AA;unfold G5 at this;unfold uz;cases p:e.loc with
  |cell a=>grind
  |obj r=>grind
  |mark mk=>rw[p]at this;cases mk<;>first|exact .inl this|grind
  |output=>trivial
  |goroutines=>grind
 .rintro(⟨e,i,f⟩|h)
  .have:=c e i;unfold G5 at this;rcases f with h|h|⟨a,h⟩|⟨a,h⟩|⟨f,b,j,k⟩
   .grind
   .grind
   .grind
   .grind
   grind[fy]
  grind
end
end
end hO
namespace fH
open Conc ConcM av bj ah hO
variable{es:uat}{g g1:uaj}
section
section
variable{Z:fz}{Q:cE}{Stop:Bool->Z.Lo->a0->Prop}{m:Bool}{l:Z.Lo}{γ:Z.aQ}
def uz.more{M M'}(h:∀b,M b->M' b){d e}(k:uz Z l M d e):uz Z l M' d e:=by grind[uz]
theorem pz.more{M M'}(h:∀b,M b->M' b):∀{es:ubk}{d:Nat},pz Z l M d es->pz Z l M' d es
 | [],_,_=>trivial
 | _::_,_,k=>⟨uz.more h k.1,pz.more h k.2⟩
def Dj{M M'}(h:∀b,M b->M' b)w w1:∀b,grown M w w1 b->grown M' w w1 b:=λ_ k=>k.imp (h _) id
def lU.more{M M'}(h:∀b,M b->M' b){w w1}(k:lU Z M w w1):lU Z M' w w1:=
 ⟨λb h1 h2 h3=>k.kept b h1 AA h3,k.size,k.os,k.output,k.tape⟩
theorem Says.more{M M'}(h:∀b,M b->M' b){l1}(k:Says Z l l1 M es):Says Z l l1 M' es:=by
 rcases k with⟨e,d,c,a⟩|k|k|k
 .exact .inl ⟨e,d,c,pz.more h a⟩
 .exact .inr (.inl k)
 .exact .inr (.inr (.inl k))
 .exact .inr (.inr (.inr k))
theorem bc.more(n:∀m l g w M M',(∀b,M b->M' b)->Stop m l ⟨g,w,M⟩->Stop m l ⟨g,w,M'⟩){X}(h:bc Z Q Stop m l γ X):∀{M':dL},(∀b,X.mine b->M' b)->bc Z Q Stop m l γ ⟨X.g,X.w,M'⟩:=by
 induction h with
 |stop h=>exact λd=>.stop (n _ _ _ _ _ _ d h)
 |@step m l γ X hs ch ok hq v u x t s r p=>
  intro M' d;have j:∀{w' f},ep Z l f ⟨X.g,X.w,M'⟩ w'->ep Z l f X w':=λa=>⟨⟨λb y=>a.rely.heap b AA,a.rely.size,a.rely.env⟩,a.mt,a.sees,a.later,a.output,a.tape⟩;refine .step hs ch (λw' f i a=>?_) (λw' f g1 w1 es i a e hrun k=>t w' f g1 w1 es i (j a) e hrun k (Dj d w' w1)) (λw' f g1 w1 es i a e k=>s w' f g1 w1 es i (j a) e k (Dj d w' w1)) (λw' f g1 c w1 es i a e=>r w' f g1 c w1 es i (j a) e (Dj d w' w1)) AA;rcases ok w' f i (j a)with⟨g1,w1,es,e,q⟩|⟨g1,w1,es,e,q,o⟩|h|⟨em,g1,c,w1,es,e,q⟩
  .exact .inl ⟨g1,w1,es,e,q.run,lU.more d q.keep,q.sh,pz.more (Dj d w' w1) q.evs,q.low⟩
  .exact .inr (.inl ⟨g1,w1,es,e,⟨q.run,q.Nq,lU.more d q.keep,q.mt,q.A6,Says.more (Dj d w' w1) q.says,q.JU⟩,λh=>⟨(o h).1,n _ _ _ _ _ _ (Dj d w' w1) (o h).2⟩⟩)
  .exact .inr (.inr (.inl h))
  .exact .inr (.inr (.inr ⟨em,g1,c,w1,es,e,⟨q.run,q.aaH,lU.more d q.keep,q.mt,q.a7,q.A6,pz.more (Dj d w' w1) q.evs,q.deaf,q.tok,q.past,q.JU,q.stays⟩⟩))
def cv(mine:dL)(bs:uar)(b:Nat):Prop:=mine b\/b∈bs.map (·.1)
structure ak(Z:fz)(mine:dL)(w0:aR)(bs:uar)(w:aR):Prop where
 rw:ai Z mine w0 w
 bO:∀x∈bs,w.heap[x.1]?=some x.2
 lt:∀b,Z.K b\/mine b\/Z.ia b->b<w.heap.size
 fA:∀b,Z.K b\/cv mine bs b->¬Z.ia b
 tj:∀b∈bs.map (·.1),¬(Z.K b\/mine b)
 bN:(bs.map (·.1)).Nodup
 tz:∀b,mine b->¬Z.K b
variable{mine:dL}{w0:aR}{bs:uar}{w w1:aR}
def ak.on(h:ak Z mine w0 bs w)(r:ai Z (cv mine bs) w w1):ak Z mine w0 bs w1:=
 ⟨h.rw.trans ⟨λb a=>r.heap b (a.imp id .inl),r.size,r.later,r.output,r.tape⟩,λx c=>(r.heap x.1 (.inr (.inr AA))).trans (h.bO x c),λb a=>vak (h.lt b a) r.size,h.fA,h.tj,h.bN,h.tz⟩
def iA{X:Z.aQ->Prop}{n:Nat}(hs:g.status=.running)(hF:ak Z mine w0 bs w)(h:∀b,ai Z (cv mine bs) w b->∀e,X e->∀a d,Z.ey l e d->ep Z l d ⟨g,b,cv mine bs⟩ a->ak Z mine w0 bs a->Then Q Stop m l d ⟨g,b,cv mine bs⟩ a):
 Goes Q m (ai Z (cv mine bs)) Go.ConcR.DC0 (λg w=>g.status=.running/\∀i,X i->bc Z Q Stop m l i ⟨g,w,cv mine bs⟩) n g w:=
 vaj λb c=>⟨hs,λe k=>bc.mk hs λa d j f=>h b c e k a d j f ((hF.on c).on (ep.rw f))⟩
def ak.start(hK:∀b,Z.K b\/mine b\/Z.ia b->b<w.heap.size)(c:∀b,Z.K b\/mine b->¬Z.ia b)(hd:∀b,mine b->¬Z.K b):ak Z mine w [] w:=
 ⟨.refl _ _ _,AS,hK,λb a=>c b (a.imp id (λx=>x.elim id AS)),AS,AS,hd⟩
def cv.cons{b0 o}:(λb=>cv mine bs b\/b=b0)=cv mine ((b0,o)::bs):=by grind[cv]
def TN M w o:grown M w (w.alloc o)=λb=>M b\/b=w.heap.size:=by grind[grown,World.alloc]
def Dk{o b}(h:b<w.heap.size):(w.alloc o).heap[b]?=w.heap[b]?:=by show(w.heap.push o)[b]?=_;grind
def aoV{o}:(w.alloc o).heap[w.heap.size]?=some o:=by show(w.heap.push o)[w.heap.size]?=_;grind
def aoW{o}:(w.alloc o).heap.size=w.heap.size+1:=by simp_all
def ak.TO(h:ak Z mine w0 bs w){b}(c:b∈bs.map (·.1)):b<w.heap.size:=by obtain⟨x,a,rfl⟩:=vbl.1 c;have:=h.bO x a;grind
theorem ak.alloc(h:ak Z mine w0 bs w)(d:∀b,Z.K b->¬Z.ia b)o:ak Z mine w0 ((w.heap.size,o)::bs) (w.alloc o):=by
 have hn:∀b,Z.K b\/mine b\/Z.ia b->b≠w.heap.size:=λb a=>Nat.ne_of_lt (h.lt b a);refine⟨h.rw.trans ⟨λb a=>Dk (h.lt b AA),BB,.refl _,Y,Y⟩,λx c=>?_,λb a=>by rw[aoW];have:=h.lt b a;omega,λb a hs=>?_,λb a=>?_,?_,h.tz⟩
 .rcases vaw.1 c with rfl|c
  .exact aoV
  .rw[Dk (h.TO AA)];exact h.bO x c
 .rcases a with a|a|a
  .grind
  .exact h.fA b (.inr (.inl a)) hs
  .rcases vaw.1 a with rfl|a
   .grind
   .exact h.fA b (.inr (.inr a)) hs
 .rcases vaw.1 a with rfl|a
  .grind
  .exact h.tj b a
 .simp only[vej,List.nodup_cons];exact⟨λe=>Nat.lt_irrefl _ (h.TO e),h.bN⟩
def uE(f:∀l g g1,¬Z.py l g g1)(i:∀b,Z.K b->¬Z.ia b)(j:Z.past l=false){o}(hk:ak Z mine w0 bs w)(hs:stepG Q m g w=.go g1 (w.alloc o) es)(hrun:g1.status=.running)(k:es=#[]){d}(h:ak Z mine w0 ((w.heap.size,o)::bs) (w.alloc o)->bc Z Q Stop m l γ ⟨g1,w.alloc o,cv mine ((w.heap.size,o)::bs)⟩):Then (Z:=Z) Q Stop m l γ ⟨g,d,cv mine bs⟩ w:=by
 have e:=hk.alloc i o;have hg:grown (cv mine bs) w (w.alloc o)=cv mine ((w.heap.size,o)::bs):=by rw[TN];exact cv.cons
 refine TL f j hs hrun (λb a _=>Dk a) BB Y Y Y ?_ AA ?_
 .intro b a n;have c:grown (cv mine bs) w (w.alloc o) b:=a;rw[hg]at c;exact e.fA b (.inr c) n
 grind
def tA(c:∀l g g1,¬Z.py l g g1)(d:Z.past l=false){M}(i:∀b,M b->¬Z.ia b)(hs:stepG Q m g w=.go g1 w es)(hrun:g1.status=.running)(f:∀e∈es,G5 Z M e){a}(h:bc Z Q Stop m l γ ⟨g1,w,M⟩):Then (Z:=Z) Q Stop m l γ ⟨g,a,M⟩ w:=by
 have hg:grown M w w=M:=lq Y;refine TL c d hs hrun AA JR Y Y Y (λb k=>i b ?_) (λe j=>?_) ?_
 .simp_all
 .grind
 grind
def ak.write(h:ak Z mine w0 bs w){b bs'}(i:b∈bs.map (·.1))(c:bs'.map (·.1)=bs.map (·.1))(f:∀x∈bs',w1.heap[x.1]?=some x.2)(a:∀k,k≠b->w1.heap[k]?=w.heap[k]?)(hsz:w1.heap.size=w.heap.size)(d:w1.os=w.os)(g:w1.output=w.output)(ht:w1.tape=w.tape):ak Z mine w0 bs' w1:=by
 have j:cv mine bs'=cv mine bs:=by grind[cv]
 refine⟨h.rw.trans ⟨λk hk=>a k λe=>h.tj b i (e▸hk),AA,by rw[d];exact .refl _,g,ht⟩,f,λk hk=>by rw[hsz];exact h.lt k hk,by rw[j];exact h.fA,by rw[c];exact h.tj,by rw[c];exact h.bN,h.tz⟩
def aoX(n:∀l g g1,¬Z.py l g g1)(p:Z.past l=false)(hk:ak Z mine w0 bs w)(hs:stepG Q m g w=.go g1 w1 es)(hrun:g1.status=.running){b bs'}(f:b∈bs.map (·.1))(q:bs'.map (·.1)=bs.map (·.1))(o:∀x∈bs',w1.heap[x.1]?=some x.2)(a:∀k,k≠b->w1.heap[k]?=w.heap[k]?)(hsz:w1.heap.size=w.heap.size)(c:w1.os=w.os)(d:w1.output=w.output)(ht:w1.tape=w.tape)(r:∀e∈es,G5 Z (cv mine bs) e){j}(h:ak Z mine w0 bs' w1->bc Z Q Stop m l γ ⟨g1,w1,cv mine bs'⟩):Then (Z:=Z) Q Stop m l γ ⟨g,j,cv mine bs⟩ w:=by
 have s:=hk.write f q o a hsz c d ht;have hg:grown (cv mine bs) w w1=cv mine bs:=lq hsz;have u:cv mine bs'=cv mine bs:=by grind[cv]
 refine TL n p hs hrun (λk _ i=>a k λe=>i (.inr (e▸f))) AA c d ht (λk i=>hk.fA k (.inr ?_)) (λe t=>?_) ?_
 .simp_all
 .grind
 grind
end
end
end fH
namespace eK
open Conc bj ah
section
section
variable{N:Nat}{rows:uas}{cq:ube}{b:cO}{xs:List At}{i:Nat}{l:uad}
def db.ao_(h:db N rows cq b xs)(hi:xs[i]?=some (.work .rel l)):1<=b.aS:=by have h1:=h.aS;grind[o5,gI]
def db.apa(h:db N rows cq b xs)(hi:xs[i]?=some (.work .oh l)):b.aS=0/\b.eF=true:=by
 have:=o5 gU xs i _ hi;simp[gU]at this;obtain⟨s,_,a⟩:=h.main;cases s with
 |tB=>
  rcases a with⟨m1,_,_,c⟩|⟨_,_,d,_⟩
  .grind
  .omega
 |spawn k q=>have:=a.2.2.1;omega
 |qx=>have:=a.2.2.1;omega
 |over=>have:=a.2.2.2.1;omega
def db.apb(h:db N rows cq b xs)(hi:xs[i]?=some (.work .lb l)):b.gT=0:=by
 have:=o5 g6 xs i _ hi;simp[g6]at this;obtain⟨s,_,a⟩:=h.main;cases s with
 |tB=>rcases a with⟨_,_,d,_⟩|⟨_,_,_,c⟩<;>omega
 |spawn k q=>have:=a.2.2.2;omega
 |qx=>have:=a.2.2.2;omega
 |over=>have:=a.2.2.2.2;omega
end
section
variable{c:dU}{l:ah.Lo At}{γ:ah.aQ cO}{p:uad}
def vM(h:ib (ao (ay c)) l γ):∃(xs:List At)(i:Nat),xs[i]?=some l.am/\db c.N c.rows c.cq γ.am xs:=by obtain⟨ls,i,hi,hg⟩:∃(ls:List (ah.Lo At))(i:Nat),ls[i]?=some l/\tt (ay c) γ ls:=h;exact⟨ls.map (·.am),i,AA,hg.pC⟩
def apc(h:ib (ao (ay c)) l γ)(a:l.am=.work .rel p):1<=γ.am.aS:=by obtain⟨xs,i,hi,hg⟩:=vM h;rw[a]at hi;exact hg.ao_ hi
def abb(h:ib (ao (ay c)) l γ)(a:l.am=.work .oh p):γ.am.aS=0/\γ.am.eF=true:=by obtain⟨xs,i,hi,hg⟩:=vM h;rw[a]at hi;exact hg.apa hi
def apd(h:ib (ao (ay c)) l γ)(a:l.am=.work .lb p):γ.am.gT=0:=by obtain⟨xs,i,hi,hg⟩:=vM h;rw[a]at hi;exact hg.apb hi
end
end
end eK
namespace fH
open Conc ConcM av bj ah eK hO
structure ir where
 T:Nat
 M:Nat
 D:List Value
 L:Option Nat
def ir.of(b:cO):ir:=⟨b.taken,b.came,b.done,b.least⟩
variable{d:ir}{Z:fz}{v:Value}
section
variable{c:dU}{Q:cE}{Stop:Bool->ah.Lo At->a0->Prop}{m:Bool}{mine:dL}{w0:aR}
def Held(c:dU)(mine:dL)(w0:aR)(d:ir)(bs:uar)(w:aR)(γ:ah.aQ cO):Prop:=ak (ao (ay c)) mine w0 bs w/\ir.of γ.am=d
def np(c:dU)(mine:dL)(w0:aR)(d:ir)(l:ah.Lo At)(bs:uar):de (ao (ay c)):=⟨l,cv mine bs,Held c mine w0 d bs⟩
def Dm(c:dU)(mine:dL)(w0:aR)(d:ir)(l:ah.Lo At)(σ:de (ao (ay c))):Prop:=∃bs,σ=np c mine w0 d l bs
def vN{l:ah.Lo At}(d:l.mx=.own){γ a:ah.aQ cO}(b:(ao (ay c)).ey l γ a):ir.of a.am=ir.of γ.am:=by
 rcases b with rfl|⟨_,⟨h,_⟩,_⟩
 .rfl
 .rw[d]at h;obtain⟨h1,h2,h3,h4⟩:=h Y;grind[ir.of]
theorem Held.on{l:ah.Lo At}(e:l.mx=.own){bs:uar}{w w':aR}{γ a:ah.aQ cO}(h:Held c mine w0 d bs w γ)(b:(ao (ay c)).ey l γ a)(r:ai (ao (ay c)) (cv mine bs) w w'):Held c mine w0 d bs w' a:=
 ⟨h.1.on r,(vN e b).trans h.2⟩
def mO{l}(e:l.mx=.own):∀σ,Dm c mine w0 d l σ->tv σ:=by rintro _ ⟨bs,rfl⟩ w γ w' f g h b a;exact Held.on e h b (ep.rw a)
def Ka{l}:∀σ,Dm c mine w0 d l σ->∀w γ,σ.S w γ->σ.S {w with drawn:=w.drawn+1} γ:=by rintro _ ⟨bs,rfl⟩ w γ ⟨h,hd⟩;exact⟨⟨h.rw.trans ⟨λ_ _=>Y,vac _,.refl _,Y,Y⟩,h.bO,h.lt,h.fA,h.tj,h.bN,h.tz⟩,hd⟩
variable{b:Frame}{ops:fF}
def G8{C:de Z->Prop}{o a}(c:vfe o ops a.tmps=true)(h:∀w,(execOp a.eval o).run Q w=.ok (.value v) w)(d:∀w,listed Q b.fn a o w=#[]):ot Q b ops C o v a:=
 .inl ⟨c,λσ _ w γ w' e g _ _ _=>⟨h w',by rw[d];exact trivial,AA⟩⟩
def e7{C:de Z->Prop}{iM:de Z->Act->Prop}{Stop:Bool->Z.Lo->a0->Prop}{md:Region.Mode}{cX:Oper}{n:Nat}{ar:uap}{σ:de Z}{a:Act}(i:Nat)(v:Value)(h:sB Q Stop m b ops md C iM n (ar.setIfInBounds i true) σ (a.put cX.dst v))(k:∀σ,C σ->tv σ:=by exact mO Y)(j:C σ:=by exact⟨_,Y⟩)(hi:ops[i]?=some cX:=by rfl)(hs:Region.noSelect ops=true:=by decide+kernel)(f:Region.free md ops ar i=true:=by decide+kernel)(e:(Region.ready md ops ar).contains i=true:=by decide+kernel)(d:Region.wanted cX (yielded ops a.tmps)=true:=by rfl)(c:∀w,(execOp a.eval cX).run Q w=.ok (.value v) w:=by intro _;go_simp)(g:∀w,listed Q b.fn a cX w=#[]:=by intro _;simp[listed,go_sem];rfl):sB Q Stop m b ops md C iM (n+1) ar σ a:=
 j3 k hi hs f e (G8 d c g) j h
def Kb{C:de Z->Prop}{o a}(c:vfe o ops a.tmps=false):ot Q b ops C o undef a:=.inr ⟨c,Y⟩
def Kc{mu:be}{x:cO}{w:aR}(h:w.heap[c.st]?=some (iq (ay c) mu x))(k:Nat):w.cell? (.a c.st (k+2))=((ay c).cells x)[k]?:=by simp_all[World.cell?,iq]
def vO{l}(q:l.mx=.own)(ht:l.tok=true)(n:lr l.am=false){o a}k(f:vfe o ops a.tmps=true)(hv:∀x,ir.of x=d->((ay c).cells x)[k]?=some v)(h:∀w,w.cell? (.a c.st (k+2))=some v->(execOp a.eval o).run Q w=.ok (.value v) w/\listed Q b.fn a o w=#[⟨.cell ⟨c.st,k+2,none⟩,false,false⟩]):ot Q b ops (Dm c mine w0 d l) o v a:=by
 refine .inl ⟨f,?_⟩;rintro _ ⟨bs,rfl⟩ w γ w' t g s p i;have m:=Held.on q s p (ep.rw i);have r:w'.cell? (.a c.st (k+2))=some v:=by rw[Kc i.mt.1,hv _ m.2]
 obtain⟨h1,h2⟩:=h w' r;refine⟨h1,?_,?_⟩
 .rw[h2];exact⟨.inl ⟨Y,.inr (.inr ⟨AA,ht⟩),n⟩,NE⟩
 .rw[h2];rintro⟨e,j,f⟩;simp at j;subst j;rcases f with h|h|⟨_,h⟩|⟨_,h⟩|⟨h,_⟩<;>cases h
end
def bc.seen{Q Stop m l γ X}(G:Z.Good)(hs:X.g.status=.running)(h:∀a,Z.ey l γ a->ib Z l a->bc Z Q Stop m l a X):bc Z Q Stop m l γ X:=by
 by_cases hst:Stop m l X
 .exact .stop hst
 .refine bc.mk hs λw' a c b=>?_;rcases(h a c b.sees).next with h1|⟨_,h1⟩
  .grind
  .exact h1 w' a (G.refl _ _) b
section
variable{P:cE}{main:Bool}{b:Frame}{a:Act}{cs:hH}{w:aR}
def abe{fn:Func}{todo:uab}{c:Frame}{es:uat}(hn:b.kind=.normal)(hd:a.defers=[])(e:P.funcs[b.fn]?=some fn)(d:(results fn a.tmps).run P w=.ok v w)(f:(results fn a.tmps).events P w #[]=es):
 stepG P main (G {b.at a todo with mode:=.returning} (c::cs)) w=.go (G (c.finish v) cs) w (seen P b.fn es):=by
 simp[G,stepG,unwind,doReturn,Frame.at,hn,hd,e,d,f,GStep.after]
end
variable{g1:uaj}
section
variable{c:dU}{Q:cE}{Stop:Bool->ah.Lo At->a0->Prop}{m:Bool}{mine:dL}{w0:aR}{l:ah.Lo At}{γ:ah.aQ cO}{X:a0}{w':aR}
def apj{loc d}(h:∀mk,loc≠ .mark mk):¬ ∃e∈(#[⟨loc,false,d⟩]:uat),xC (ao (ay c)) e:=by
 rintro⟨e,b,f⟩;simp at b;subst b;rcases f with a|a|⟨_,a⟩|⟨_,a⟩|⟨a,_⟩
 .grind
 .grind
 .grind
 .grind
 grind
def abf(a:lr l.am=false)(ht:l.tok=true){k}(hs:stepG Q m X.g w'=.go g1 w' #[⟨.cell ⟨c.st,k+2,none⟩,false,false⟩])(hrun:g1.status=.running)(h:bc (ao (ay c)) Q Stop m l γ ⟨g1,w',X.mine⟩):Then (Z:=ao (ay c)) Q Stop m l γ X w':=by refine .quiet hs ⟨hrun,rz _ _ _,λ_ _ _=>Y,⟨.inl AA,NE⟩,λe=>e.elim (apj AS) Ke⟩ ?_;grind[lq]
def abg{mu:be}{x a:cO}{w:aR}(h:w.heap[c.st]?=some (iq (ay c) mu x)){k:Nat}(b:((ay c).cells x).setIfInBounds k v=(ay c).cells a):(w.setCell ⟨c.st,k+2,none⟩ v).heap[c.st]?=some (iq (ay c) mu a):=by unfold World.setCell;simp_all[vbh,iq]
def abh{x a:cO}{w:aR}(h:(ay c).oZ x w)(h1:a.aS=x.aS)(h2:a.eF=x.eF)(h3:a.gT=x.gT)(h4:a.done=x.done)(off:Nat)(sp)(v:Value):(ay c).oZ a (w.setCell ⟨c.st,off,sp⟩ v):=by
 refine⟨?_,λe=>?_⟩
 .rw[mN w _ v (Ne.symm c.fA.1),h.1];grind[tD]
 .rw[mN w _ v (Ne.symm c.fA.2.1),h.2 e];grind[G7]
def apk(d:ep (ao (ay c)) l γ X w'){p f1}(hs:stepG Q m X.g w'=.go g1 (w'.setCell ⟨c.st,4,none⟩ v) #[⟨.cell ⟨c.st,4,none⟩,true,false⟩])(hrun:g1.status=.running)(hv:v=.I ((γ.am.taken+1:Nat):Int))(j:l.am=.work .free p)(b:l.mx=.own)(g:l.tok=true)(a5:γ.am.taken<c.N)(n:f1+1<=l.fuel+c.C)(h:bc (ao (ay c)) Q Stop m ({l with am:=.work (.has γ.am.taken) p,fuel:=f1}:ah.Lo At) ({γ with am:={γ.am with taken:=γ.am.taken+1},a7:=γ.a7-1}:ah.aQ cO) ⟨g1,w'.setCell ⟨c.st,4,none⟩ v,X.mine⟩):Then (Z:=ao (ay c)) Q Stop m l γ X w':=by
 have o:c.C*(c.N-(γ.am.taken+1))+c.C=c.C*(c.N-γ.am.taken):=by have:c.N-γ.am.taken=(c.N-(γ.am.taken+1))+1:=AQ;grind
 refine Dn (a1:=.work (.has γ.am.taken) p) (b1:={γ.am with taken:=γ.am.taken+1}) (d1:=l.deaf) d hs hrun ⟨⟨.cell ⟨c.st,4,none⟩,true,false⟩,AS,.inr (.inr (.inr (.inr ⟨Y,c.st,Y,.inl Y⟩)))⟩ (aba w' 4 none _) (oq _ _ _) ⟨abg (k:=2) d.mt.1 AA,abh d.mt.2 Y Y Y Y _ _ _⟩
  (λaB i hi hg=>hg.take a5 AA) AA (.inl b) (vct _) AA (λe=>e.elim) (λ_=>b)
  (.inl ⟨Y,?_,Y,.inl ⟨Y,AA,?_⟩,NE⟩) (.inr λa f=>f) (λe=>e.elim) h
 .grind[lr]
 grind[lr]
def apl{mu:be}{x:cO}{w:aR}(h1:w.heap[c.st]?=some (iq (ay c) mu x))(h2:(ay c).oZ x w)(p:Nat)(v:Value):
 (w.setCell ⟨c.cU,p,none⟩ v).heap[c.st]?=some (iq (ay c) mu {x with done:=x.done.set p v})/\(ay c).oZ {x with done:=x.done.set p v} (w.setCell ⟨c.cU,p,none⟩ v):=by
 refine⟨?_,?_,λe=>?_⟩
 .rw[mN w _ _ c.fA.2.1,h1];rfl
 .rw[mN w _ _ c.fA.2.2,h2.1];rfl
 simp_all[World.setCell,vbh,G7]
def apm(d:ep (ao (ay c)) l γ X w'){q p f1 u}(hs:stepG Q m X.g w'=.go g1 (w'.setCell ⟨c.st,5,none⟩ u) #[⟨.cell ⟨c.st,5,none⟩,true,false⟩])(hrun:g1.status=.running)(f:c.cq p=false)(o:u=.I ((γ.am.came+c.rows p:Nat):Int))(n:l.am=.work (.half p v) q)(b:l.mx=.own)(j:l.tok=true)(r:f1<l.fuel)(h:bc (ao (ay c)) Q Stop m ({l with am:=.work .free ((p,v)::q),fuel:=f1}:ah.Lo At) ({γ with am:={γ.am with came:=γ.am.came+c.rows p},a7:=γ.a7-1}:ah.aQ cO) ⟨g1,w'.setCell ⟨c.st,5,none⟩ u,X.mine⟩):Then (Z:=ao (ay c)) Q Stop m l γ X w':=by
 refine Dn (a1:=.work .free ((p,v)::q)) (b1:={γ.am with came:=γ.am.came+c.rows p}) (d1:=l.deaf) d hs hrun ⟨⟨.cell ⟨c.st,5,none⟩,true,false⟩,AS,.inr (.inr (.inr (.inr ⟨Y,c.st,Y,.inl Y⟩)))⟩ (aba w' 5 none _) (oq _ _ _) ⟨abg (k:=3) d.mt.1 AA,abh d.mt.2 Y Y Y Y _ _ _⟩
  (λaB i hi hg=>hg.count f AA) AA (.inl b) (vac _) AA (λe=>e.elim) (λ_=>b)
  (.inl ⟨Y,?_,Y,.inl ⟨Y,AA,?_⟩,NE⟩) (.inr λa g=>g) (λe=>e.elim) h
 .grind[lr]
 grind[lr]
end
end fH
namespace dx
open Conc av
def y3(fn:Func):Bool:=fn.results.all λ| .tmp _=>true| _=>false
def uI(fn:Func)(t:dX):List Value:=fn.results.toList.map λ| .tmp x=>t.getD x undef| .cell _ _=>undef
def vQ(fn:Func)(t:dX):Value:=if h:(uI fn t).toArray.size=1 then(uI fn t).toArray[0]else .tuple (uI fn t).toArray
theorem abi{t:dX}:∀(l:List ResultVar),(∀r∈l,∃x,r=.tmp x)->(l.mapM λ| .tmp x=>(pure (t.getD x undef):Sem Value)| .cell a ty=>do Go.loadVar ty (<-Go.asAddr (t.getD a undef)))=pure (l.map λ| .tmp x=>t.getD x undef| .cell _ _=>undef)
 | [],_=>rfl
 |r::l,h=>by obtain⟨x,rfl⟩:=h r AS;rw[List.mapM_cons,abi l AA];simp
theorem G9{P:cE}{fn:Func}(h:y3 fn=true)(t:dX)(w:aR):(results fn t).run P w=.ok (vQ fn t) w/\(results fn t).events P w #[]=#[]:=by
 have a:∀r∈fn.results.toList,∃x,r=.tmp x:=by intro r b;unfold y3 at h;grind[Array.all_eq_true_iff_forall_mem]
 have e:results fn t=pure (vQ fn t):=by
  unfold results;rw[vev];erw[abi (t:=t) _ a]
  rfl
 simp_all
def apo{ρ}fn{t b}(h:aJ ρ t b):au ρ (vQ fn t) (vQ fn b):=by
 have f:dJ (au ρ) (uI fn t) (uI fn b):=by unfold uI;induction fn.results.toList with|nil=>exact .nil|cons r l e=>refine .cons ?_ e;cases r with|tmp x=>exact h.getD (.undef ρ) x|cell a ty=>exact .undef ρ
 have c:=aJ.My f;unfold vQ;by_cases h1:(uI fn t).toArray.size=1
 .have d:(uI fn b).toArray.size=1:=c.size▸h1;rw[dif_pos h1,dif_pos d];exact c.get 0 _ _ AA AA
 .have d:¬(uI fn b).toArray.size=1:=c.size▸h1;rw[dif_neg h1,dif_neg d];exact .F_ c
theorem ix.bind{Q main K post a X}(h:ix Q main K post X)(c:∀Y,post Y->ix Q main K a Y):ix Q main K a X:=by induction h with|done h=>grind|step ok _ b=>exact .step ok AA
def ix.more{Q main K K'}(hK:∀b,K b->K' b){post X}(h:ix Q main K post X):ix Q main K' post X:=by have hrel:∀{X:a0}{w':aR},me K' X w'->me K X w':=λa=>⟨λb f=>a.heap b AA,a.size,a.env⟩;induction h with|done h=>exact .done h|step ok _ d=>refine .step (λw' a=>?_) AA;obtain⟨g1,w1,es,e,hg⟩:=ok w' (hrel a);refine⟨g1,w1,es,e,hg.run,hg.q1,hg.kept,hg.size,hg.os,hg.output,hg.tape,hg.drawn,λev c=>?_⟩;have:=hg.evs ev c;grind[yz]
structure apq(C:cM)(D M:dL)(n0:Nat)(R:hV)(c:Frame)(cs:hH)(Y:a0)(ρ:Ren)(w1:aR)(v v':Value):Prop where
 post:R v w1
 val:au ρ v v'
 g:Y.g=a4 (c.finish v') cs
 world:∃S,e_ C S ρ w1 Y.w
 le:Ren.le (dp D M) ρ
 mine:∀b,ρ.mine b->Y.mine b
 dom:∀a b,ρ.rel a b->(D b/\¬M b)\/Y.mine b
 old:∀a b,ρ.rel a b->(dp D M).rel a b\/n0<=b
def NR{P:cE}{upd:Bool}(B:(da P upd).Good){f:uak}{fn:Func}{C:Code}(j:P.funcs[f]?=some fn)(hk:gE P upd fn=true)(z:fn.body=some C)(q:y3 fn=true){D M:dL}{w:aR}(F:fG (da P upd) D M w)(hg:∀g,g<=P.globals.size->D g)(x:upd=true->∀b,D b->M b){args:dX}(A:aJ (dp D M) args args){R:hV}{w0:aR}(N:iy (da P upd) D M w w0)(u:∀T,Calls (ae P upd) f args {w0 with tape:=T} (λe w=>∃v,e=.returned v/\R v w))(main:Bool)(c:Frame)(cs:hH):
 ix P main (λb=>D b/\¬M b) (λY=>∃ρ w1 v v',apq (da P upd) D M w.heap.size R c cs Y ρ w1 v v') ⟨a4 (Frame.enter P f args .normal) (c::cs),w,M⟩:=by
 refine ix.bind (al5 B j hk z F hg x A (R:=λe w=>∃v,e=.returned v/\R v w) AA N u main (c::cs)) ?_;rintro Y ⟨ρ,fr,w1,T,e,⟨v,rfl,H⟩,o,m,ht⟩;obtain⟨d,S,l,i,k⟩:=ht.frames;cases k;obtain⟨y,hd,K,I,n,Q⟩:=m;have L:(ae P upd).funcs[f]?=some fn:=bb j hk;rw[o,L]at n;cases n;have hv:v=vQ fn fr.tmps:=by grind[G9]
 have t:d.mode=.returning:=by have:=i.mode;rw[y]at this;generalize d.mode=md at this⊢;cases this;rfl
 have s:d.defers=[]:=by have:=i.defers;rw[hd]at this;generalize d.defers=ds at this⊢;cases this;rfl
 have E:d.kind=.normal:=i.kind.symm.trans K;have J:d.fn=f:=i.fn.symm.trans o;have hstep:∀w',stepG P main Y.g w'=.go (a4 (c.finish (vQ fn d.tmps)) cs) w' #[]:=by intro w';rw[l];simp[a4,stepG,unwind,doReturn,t,s,E,J,j,(G9 q d.tmps w').1,(G9 q d.tmps w').2,GStep.after,vdy]
 refine .step (λw' p=>⟨_,_,_,hstep w',rfl,rfl,λ_ _ _=>rfl,vac _,rfl,rfl,rfl,vac _,AS⟩) λw' g1 O es p e=>?_;rw[hstep w']at e;cases e;have r:∀b,grown Y.mine w' w' b↔Y.mine b:=λb=>⟨λh=>h.elim id AA,.inl⟩;exact .done ⟨ρ,w1,v,vQ fn d.tmps,H,by rw[hv];exact apo fn i.tmps,rfl,⟨_,ht.world.rely (bound:=0) p ht.dom AA⟩,ht.le,λb h=>(r b).2 (ht.mine b h),λa b h=>(ht.dom a b h).imp id (r b).2,ht.old⟩
end dx
namespace fH
open Conc ConcM av bj ah eK hO
variable{t:uaa}
section
section
variable{Z:fz}{Q:cE}{Stop Stop':Bool->Z.Lo->a0->Prop}
def bc.seq{I:Z.Lo->Z.aQ->Prop}(f:∀l γ a,I l γ->Z.ey l γ a->I l a)(g:∀l γ l1 bu,I l γ->ib Z l γ->C4 Z l γ l1 bu->I l1 bu)(t:∀m l X,Stop' m l X->¬Z.Left l)(k:∀l γ X,Stop' false l X->I l γ->bc Z Q Stop false l γ X){m:Bool}{l:Z.Lo}{γ:Z.aQ}{X:a0}(h:bc Z Q Stop' m l γ X):m=false->I l γ->bc Z Q Stop false l γ X:=by
 induction h with
 |stop h=>grind
 |@step m l γ X hs ch ok hq p o r n j u i=>
  rintro rfl hi;refine bc.mk hs λw' a c b=>?_;have d:=f _ _ _ hi c;rcases ok w' a c b with⟨g1,w1,es,e,q⟩|⟨g1,w1,es,e,q,s⟩|⟨e,q0,q,a3⟩|⟨em,_⟩
  .exact .quiet e q (n w' a g1 w1 es c b e q.run q.low Y d)
  .exact .turn e q AA (j w' a g1 w1 es c b e q.Nq Y (g _ _ _ _ d b.sees q.A6))
  .exact .wait e q0 q a3
  grind
end
def Bc(w:aR){b k:Nat}(v:dX)(h:k≠b):(w.setRow b v).heap[k]?=w.heap[k]?:=by simp[World.setRow,vbh,Ne.symm h]
def setRow_size(w:aR)(b:Nat)(v:dX):(w.setRow b v).heap.size=w.heap.size:=by simp_all
section
variable{Z:fz}{Q:cE}{Stop:Bool->Z.Lo->a0->Prop}{m:Bool}{l:Z.Lo}{γ:Z.aQ}{mine:dL}{w0 w:aR}
def ak.row{pre post:uar}{b:Nat}{bq new:dX}(hk:ak Z mine w0 (pre++(b,.cells bq t)::post) w):ak Z mine w0 (pre++(b,.cells new t)::post) (w.setRow b new):=by
 have f:b∈(pre++(b,.cells bq t)::post).map (·.1):=AS;have g:w.heap[b]?=some (.cells bq t):=hk.bO (b,.cells bq t) AS;refine hk.write f (bs':=pre++(b,.cells new t)::post) AS (λx e=>?_) (λk a=>Bc w new a) (setRow_size _ _ _) Y Y Y;have d:=hk.bN;simp only[vda,vej,List.nodup_append,List.nodup_cons]at d;rcases vcz.1 e with c|c
 .have a:x.1≠b:=AA;rw[Bc w new a];exact hk.bO x AA
 .rcases vaw.1 c with rfl|c
  .grind[setRow_heap]
  .have a:x.1≠b:=AA;rw[Bc w new a];exact hk.bO x AA
def Do(i:∀l g g1,¬Z.py l g g1)(j:Z.past l=false){pre post:uar}{b:Nat}{bq new:dX}{g g1:uaj}{es:uat}(hk:ak Z mine w0 (pre++(b,.cells bq t)::post) w)(hs:stepG Q m g w=.go g1 (w.setRow b new) es)(hrun:g1.status=.running)(c:∀e∈es,∃off,e.loc=.cell ⟨b,off,none⟩/\e.sync=false){f:aR}(h:ak Z mine w0 (pre++(b,.cells new t)::post) (w.setRow b new)->bc Z Q Stop m l γ ⟨g1,w.setRow b new,cv mine (pre++(b,.cells new t)::post)⟩):Then (Z:=Z) Q Stop m l γ ⟨g,f,cv mine (pre++(b,.cells bq t)::post)⟩ w:=by
 have d:b∈(pre++(b,.cells bq t)::post).map (·.1):=AS;refine aoX i j hk hs hrun d (bs':=pre++(b,.cells new t)::post) AS (hk.row (new:=new)).bO (λk a=>Bc w new a) (setRow_size _ _ _) Y Y Y (λe n=>?_) h;obtain⟨off,e1,e2⟩:=c e n;unfold G5;rw[e1];exact⟨e2,.inr (.inr d)⟩
def TS(c:∀l g g1,¬Z.py l g g1){M:dL}{g g1:uaj}{es:uat}(hs:stepG Q m g w=.go g1 w es)(hrun:g1.status=.running)(a:es=#[]){b:aR}(h:bc Z Q Stop m l γ ⟨g1,w,M⟩):Then (Z:=Z) Q Stop m l γ ⟨g,b,M⟩ w:=by subst a;have hg:grown M w w=M:=lq Y;refine .quiet hs ⟨hrun,rz _ _ _,λ_ _ _=>Y,NE,λe=>e.elim AA (c _ _ _)⟩ ?_;grind
end
section
variable{c:dU}
def Ha(c:dU)(l:ah.Lo At)(γ:ah.aQ cO):Prop:=¬Ba l.am/\c.N<=γ.am.taken
def vR{l:ah.Lo At}{γ a:ah.aQ cO}(b:(ao (ay c)).ey l γ a):γ.am.taken<=a.am.taken:=by grind
def NS(l:ah.Lo At)(γ a:ah.aQ cO)(h:Ha c l γ)(b:(ao (ay c)).ey l γ a):Ha c l a:=⟨h.1,vad h.2 (vR b)⟩
def apt(l:ah.Lo At)(γ:ah.aQ cO)(l1:ah.Lo At)(bu:ah.aQ cO)(h:Ha c l γ)(hs:ib (ao (ay c)) l γ)(ht:C4 (ao (ay c)) l γ l1 bu):Ha c l1 bu:=by
 obtain⟨ls,i,hi,hg⟩:∃(ls:List (ah.Lo At))(i:Nat),ls[i]?=some l/\tt (ay c) γ ls:=hs;obtain⟨s,h0,_⟩:=hg.pC.main;rw[vbf]at h0;obtain⟨l0,f,j⟩:=vai.1 h0;have a:0≠i:=by rintro rfl;rw[hi]at f;cases f;exact h.1 (by rw[j];trivial)
 obtain⟨_,h2⟩:=ht;obtain⟨k,h3⟩:=h2 ls i hi hg;have b:tt (ay c) bu (ls.set i l1):=k;refine⟨λe=>?_,vad h.2 AA⟩;have g:i<ls.length:=(vab.1 hi).1;have h4:((ls.set i l1).map (·.am))[i]?=some l1.am:=AA;cases d:l1.am with|main s'=>rw[d]at h4;exact a (b.pC.only i s' h4).symm| _=>rw[d]at e;exact e
end
end
variable{a:Act}
section
section
variable{c:dU}{Q:cE}{Stop:Bool->ah.Lo At->a0->Prop}{m:Bool}{mine:dL}{w0:aR}{b:Frame}{ops:fF}
def y5{Z:fz}{Stop:Bool->Z.Lo->a0->Prop}{σ:de Z}{K:de Z->Act->Prop}{i o}(hi:ops[i]?=some o)(c:vfe o ops a.tmps=true)(h:Df Q b o σ a K):o0 Q Stop m b ops i σ a K:=by simp_all[o0]
def Bd{Z:fz}{Stop:Bool->Z.Lo->a0->Prop}{σ:de Z}{K:de Z->Act->Prop}{i o}(hi:ops[i]?=some o)(c:vfe o ops a.tmps=true)(h:TF Q Stop m b o σ a K):o0 Q Stop m b ops i σ a K:=by simp_all[o0]
def tE{Z:fz}{Stop:Bool->Z.Lo->a0->Prop}{md:Region.Mode}{C:de Z->Prop}{iM:de Z->Act->Prop}{i n:Nat}{ar:uap}{σ:de Z}(d:Region.ready md ops ar=[i])(h:o0 Q Stop m b ops i σ a (λc a1=>C c/\sB Q Stop m b ops md C iM n (ar.setIfInBounds i true) c a1)):sB Q Stop m b ops md C iM (n+1) ar σ a:=
 TK d AS AA
def ak.shared{Z bs w}(h:ak Z mine w0 bs w){k off}{sp}(hk:Z.ia k)v:ak Z mine w0 bs (w.setCell ⟨k,off,sp⟩ v):=
 h.on ⟨λb a=>mN w _ v λe=>h.fA b a (e▸hk),Nat.le_of_eq (oq _ _ _).symm,.refl _,Y,Y⟩
def apv{d l}(m:l.mx=.own){bs o ob K}(h:∀w,(execOp a.eval o).run Q w=.ok (.value (.P w.heap.size 0)) (w.alloc ob)/\listed Q b.fn a o w=#[])(k:∀n,K (np c mine w0 d l ((n,ob)::bs)) (a.put o.dst (.P n 0))):Df Q b o (np c mine w0 d l bs) a K:=by
 intro w γ w' q g p j i;have f:=Held.on m p j (ep.rw i);obtain⟨h1,h2⟩:=h w';refine⟨_,_,np c mine w0 d l ((w'.heap.size,ob)::bs),.inl h1,⟨?_,?_,.inl ⟨Y,⟨f.1.alloc (dE (bW c)).oo ob,f.2⟩,λb e _=>Dk e,?_,?_⟩⟩,k _⟩
 .show cv mine ((w'.heap.size,ob)::bs)=grown (cv mine bs) w' (w'.alloc ob);rw[TN];exact cv.cons.symm
 .exact⟨λb e _ _=>Dk e,BB,.refl _,Y,Y⟩
 .rw[h2];exact trivial
 grind
def apw{d:ir}{l:ah.Lo At}(s:l.mx=.own)(q:lr l.am=false){pre post:uar}{b0:Nat}{bq new:dX}{o:Oper}{K:de (ao (ay c))->Act->Prop}(h:∀w,w.heap[b0]?=some (.cells bq t)->(execOp a.eval o).run Q w=.ok .skip (w.setRow b0 new)/\∀e∈listed Q b.fn a o w,∃off,e.loc=.cell ⟨b0,off,none⟩/\e.sync=false)(k:K (np c mine w0 d l (pre++(b0,.cells new t)::post)) (a.put o.dst undef)):Df Q b o (np c mine w0 d l (pre++(b0,.cells bq t)::post)) a K:=by
 intro w γ w' x g u r p;have f:=Held.on s u r (ep.rw p);have j:cv mine (pre++(b0,.cells bq t)::post) b0:=.inr AS;have y:cv mine (pre++(b0,.cells new t)::post)=cv mine (pre++(b0,.cells bq t)::post):=by grind[cv]
 obtain⟨h1,h2⟩:=h w' (f.1.bO (b0,.cells bq t) AS);have hg:grown (cv mine (pre++(b0,.cells bq t)::post)) w' (w'.setRow b0 new)=cv mine (pre++(b0,.cells bq t)::post):=lq (setRow_size _ _ _);refine⟨_,_,np c mine w0 d l (pre++(b0,.cells new t)::post),AA,⟨?_,?_,.inl ⟨Y,⟨f.1.row,f.2⟩,λb v m=>Bc _ _ ?_,?_,?_⟩⟩,k⟩
 .show cv mine (pre++(b0,.cells new t)::post)=grown (cv mine (pre++(b0,.cells bq t)::post)) w' (w'.setRow b0 new);grind
 .exact⟨λk _ hk _=>Bc _ _ λe=>hk (e▸j),Nat.le_of_eq (setRow_size _ _ _).symm,.refl _,Y,Y⟩
 .rintro rfl;exact f.1.fA b (.inr j) m
 .refine A7 _ _ λe n d=>?_;obtain⟨off,e1,e2⟩:=h2 e AA;unfold uz;rw[e1];refine .inl ⟨e2,.inr (.inl ?_),q⟩;show grown (cv mine (pre++(b0,.cells bq t)::post)) w' (w'.setRow b0 new) b0;simp_all
 .rintro⟨e,n,i⟩;obtain⟨off,e1,e2⟩:=h2 e n;rcases i with i|i|⟨_,i⟩|⟨_,i⟩|⟨_,k,hk,m⟩
  .grind
  .grind
  .grind
  .grind
  .rw[e1]at hk;cases hk;exact f.1.fA b0 (.inr j) m
end
end
variable{v:Value}
section
section
variable{c:dU}{Q:cE}{Stop:Bool->ah.Lo At->a0->Prop}{m:Bool}{mine:dL}{w0:aR}{b:Frame}{ops:fF}
def Kd(c:dU)(mine:dL)(w0:aR)(x:ubt)(σ:de (ao (ay c))):Prop:=∃d l bs,l.mx=.own/\l.tok=true/\lr l.am=false/\x∈bs/\σ=np c mine w0 d l bs
def y6{x}:∀σ,Kd c mine w0 x σ->tv σ:=by rintro _ ⟨d,l,bs,a,_,_,_,rfl⟩;exact mO (d:=d) a _ ⟨bs,Y⟩
def apy{x}:∀σ,Kd c mine w0 x σ->∀w γ,σ.S w γ->σ.S {w with drawn:=w.drawn+1} γ:=by rintro _ ⟨d,l,bs,a,_,_,_,rfl⟩;exact Ka (d:=d) (l:=l) _ ⟨bs,Y⟩
def apz{x o}k(e:vfe o ops a.tmps=true)(hv:∀y,((ay c).cells y)[k]?=some v)(h:∀w,w.cell? (.a c.st (k+2))=some v->(execOp a.eval o).run Q w=.ok (.value v) w/\listed Q b.fn a o w=#[⟨.cell ⟨c.st,k+2,none⟩,false,false⟩]):ot Q b ops (Kd c mine w0 x) o v a:=by
 refine .inl ⟨e,?_⟩;rintro _ ⟨d,l,bs,g,ht,f,i,rfl⟩;rcases vO (c:=c) (Q:=Q) (mine:=mine) (w0:=w0) (b:=b) (ops:=ops) (d:=d) g ht f k e AA h with⟨_,h1⟩|⟨h1,_⟩
 .exact h1 _ ⟨bs,Y⟩
 grind
def apA{x o}(f:vfe o ops a.tmps=true)(h:∀w,w.heap[x.1]?=some x.2->(execOp a.eval o).run Q w=.ok (.value v) w/\∀e∈listed Q b.fn a o w,∃off,e=⟨.cell ⟨x.1,off,none⟩,false,false⟩):ot Q b ops (Kd c mine w0 x) o v a:=by
 refine .inl ⟨f,?_⟩;rintro _ ⟨d,l,bs,q,ht,n,k,rfl⟩ w γ w' s g r p m;have j:=Held.on q r p (ep.rw m);obtain⟨h1,h2⟩:=h w' (j.1.bO x k);refine⟨h1,A7 _ _ λe i d=>?_,?_⟩
 .obtain⟨off,rfl⟩:=h2 e AA;exact .inl ⟨Y,.inr (.inl (.inr AA)),n⟩
 .rintro⟨e,i,f⟩;obtain⟨off,rfl⟩:=h2 e i;rcases f with f|f|⟨_,f⟩|⟨_,f⟩|⟨f,_⟩<;>cases f
def abk{l:ah.Lo At}{γ:ah.aQ cO}(h:ib (ao (ay c)) l γ){p:Nat}{q:uad}(d:l.am=.work (.has p) q):p<c.N:=by obtain⟨xs,cT,a,b⟩:=vM h;rw[d]at a;have h1:=b.own p;have h2:=o5 (eb p) xs cT _ a;have h3:=b.aX;grind[eb,hand]
def apB{l:ah.Lo At}{γ:ah.aQ cO}(h:ib (ao (ay c)) l γ){p:Nat}{q:uad}(e:c.cq p=false)(b:l.am=.work (.half p v) q):γ.am.came+c.rows p<=je c.rows c.N:=by obtain⟨xs,cT,a,d⟩:=vM h;rw[b]at a;exact(d.count e a).aa7
def apC{d l}(s:l.mx=.own)(ht:l.tok=true){bs o K q p f1}(m:l.am=.work (.has p) q)(J:f1<l.fuel)(h:∀w D,w.heap[c.cU]?=some (.cells D c.Dl)->p<D.size->(execOp a.eval o).run Q w=.ok .skip (w.setCell ⟨c.cU,p,none⟩ v)/\listed Q b.fn a o w=#[⟨.cell ⟨c.cU,p,none⟩,true,false⟩])(k:K (np c mine w0 ⟨d.T,d.M,d.D.set p v,d.L⟩ ({l with am:=.work (.half p v) q,fuel:=f1}:ah.Lo At) bs) (a.put o.dst undef)):Df Q b o (np c mine w0 d l bs) a K:=by
 intro w γ w' f g B r j;have t:=Held.on s B r (ep.rw j);have n:w'.heap[c.st]?=some (iq (ay c) f.mu f.am)/\(ay c).oZ f.am w':=j.mt;obtain⟨xs,cT,F,z⟩:=vM j.sees;have C:=abk j.sees m;have u:=n.2.2 trivial;obtain⟨h1,h2⟩:=h w' f.am.done.toArray u (by rw[vdv,z.len];grind);have y:=apl n.1 n.2 p v;refine⟨undef,w'.setCell ⟨c.cU,p,none⟩ v,np c mine w0 ⟨d.T,d.M,d.D.set p v,d.L⟩ ({l with am:=.work (.half p v) q,fuel:=f1}:ah.Lo At) bs,AA,⟨?_,ao8 w' p none v,.inr ⟨({f with am:={f.am with done:=f.am.done.set p v},a7:=f.a7-1}:ah.aQ cO),⟨t.1.shared AA v,?_⟩,?_,y,?_,?_,?_,?_⟩⟩,k⟩
 .exact(lq (oq _ _ _)).symm
 .have e:=t.2;subst e;rfl
 .rw[h2];exact⟨⟨.cell ⟨c.cU,p,none⟩,true,false⟩,AS,.inr (.inr (.inr (.inr ⟨Y,c.cU,Y,.inr Jz⟩)))⟩
 .exact TD (A:=ay c) (bW c) j.sees (a1:=.work (.half p v) q) (b1:={f.am with done:=f.am.done.set p v}) (f1:=f1) (d1:=l.deaf) (nn:=l.tok) (λaB i hi hg=>hg.lay (by rw[<-m];exact hi)) (by show f1+c.C*(c.N-f.am.taken)+1<=l.fuel+c.C*(c.N-f.am.taken);omega) (λo a' r I=>⟨λe=>absurd e (by rw[r s];simp),vac _,AA⟩) KQ (λ_=>s)
 .rw[h2];refine .inl ⟨Y,?_,Y,.inl ⟨Y,.inr (.inr ⟨.inr Y,ht⟩),?_⟩,NE⟩
  .show lr (.work (.half p v) q)=lr l.am;rw[m];rfl
  .show lr l.am=false;rw[m];rfl
 .exact λH E=>E.imp id (λx=>⟨x.1,x.2⟩)
 .exact λe=>e.elim
end
end
end fH
end Go.Proofs.YtnomloiacicoaaaGreat
namespace Go.Conc
open Go.Proofs.YtnomloiacicoaaaGreat
variable{P:cE}{main:Bool}{b:Frame}{a:Act}{k:uab}{cs:hH}{w:aR}
def tF(f:uak)(cap:dX):Deferred:={target:=.fn (.func f) cap,args:=#[]}
def apE{ops:fF}{i:Nat}{rest:uac}{o:Oper}{f:uak}{x:uam}{cap:dX}{ats:uaq}(c:ops[i]?=some o)(e:vfe o ops a.tmps=true)(hk:b.kind≠ .early)(g:o.op=.defer {callee:=.value x,args:=#[],argTypes:=ats})(h:a.eval x=.func (.func f) #[] cap):
 stepG P main (G (b.at a (.inRegion ops (i::rest)::k)) cs) w=.go (G (b.at (Act.put ⟨a.tmps,tF f cap::a.defers⟩ o.dst undef) (.inRegion ops rest::k)) cs) w #[]:=by
 have j:(execOp a.eval o).run P w=.ok (.defer (tF f cap)) w:=by simp_all[execOp,resolve,Deferred.ofValue,tF]
 have l:(execOp a.eval o).events P w #[]=#[]:=by simp_all[execOp,resolve,Deferred.ofValue]
 have d:(b.at ⟨a.tmps,tF f cap::a.defers⟩ (.inRegion ops (i::rest)::k)).finish undef=b.at (Act.put ⟨a.tmps,tF f cap::a.defers⟩ o.dst undef) (.inRegion ops rest::k):=by rw[vco,c];rfl
 have m:(b.kind==CallKind.early)=false:=AA;rw[stepG_oper c e,<-d];simp_all[stepG.apply,G,Frame.at,GStep.after,vdy]
section
variable{todo:uab}{ds:List Deferred}{f:uak}{fn:Func}{cap:dX}
def abl{c}(hd:a.defers=tF f cap::ds)(d:P.funcs[f]?=some fn)(g:(fn.name== "runtime.NumGoroutine")=false)(e:fn.body=some c):
 stepG P main (G {b.at a todo with mode:=.returning} cs) w=
  .go (G ((baseD f).at {tmps:=cap++Array.replicate (fn.ntmps-cap.size) undef,defers:=[]} [.code c]) ({b.at ⟨a.tmps,ds⟩ todo with mode:=.returning}::cs)) w #[]:=by
 have h1:¬fn.name= "runtime.NumGoroutine" :=AA;rw[<-enter_atD cap d e];simp[G,stepG,unwind,callDeferred,Frame.at,hd,tF,invoke,callFunc,d,h1,e,GStep.after,vdy]
end
def apF{ops:fF}{i:Nat}{rest:uac}{o:Oper}{c:Frame}(d:ops[i]?=some o)(f:vfe o ops a.tmps=true)(hk:b.kind=.deferred)(j:c.mode=.returning)(h:(execOp a.eval o).run P w=.ok .recover w)(g:listed P b.fn a o w=#[]):
 stepG P main (G (b.at a (.inRegion ops (i::rest)::k)) (c::cs)) w=.go (G (b.at (a.put o.dst .nilIface) (.inRegion ops rest::k)) (c::cs)) w #[]:=by
 have e:(b.at a (.inRegion ops (i::rest)::k)).finish .nilIface=b.at (a.put o.dst .nilIface) (.inRegion ops rest::k):=by rw[vco,d];rfl
 have ht:tryRecover (b.at a (.inRegion ops (i::rest)::k)) (c::cs)=none:=by grind[tryRecover,Frame.at]
 have l:(b.kind==CallKind.early)=false:=AA;rw[stepG_oper d f,<-e,<-g];simp_all[Frame.at,stepG.apply,G,GStep.after,listed]
end Go.Conc
namespace Go.Proofs.YtnomloiacicoaaaGreat
open Tryz
namespace fH
open Conc ConcM av bj ah eK hO
theorem abm:∀{n:Nat}{l:uac},l.Nodup->(∀p∈l,p<n)->l.length<=n
 |0,l,_,h=>by cases l with|nil=>simp|cons a l=>exact absurd (h a AS) AQ
 |n+1,l,hn,h=>by
  have h1:(l.filter (· != n)).Nodup:=hn.filter _;have h2:=abm (n:=n) h1 AA;have h3:l.length<=(l.filter (· != n)).length+l.count n:=by clear h h1 h2 hn;induction l with|nil=>simp|cons a l b=>grind
  grind
section
variable{c:dU}
def apG{l:ah.Lo At}{γ:ah.aQ cO}(h:ib (ao (ay c)) l γ){p:Nat}{q:uad}(d:l.am=.work (.has p) q):q.length<c.N:=by
 obtain⟨xs,cT,b,a⟩:=vM h;rw[d]at b;have key:∀r,(p::q.map (·.1)).count r<=if r<γ.am.taken then 1 else 0:=λr=>by have h1:=a.own r;grind[o5,eb,hand,ou]
 have h1:=abm (n:=c.N) (l:=p::q.map (·.1)) AA (λr e=>by
  have:=key r;have h2:=veq.2 e;have h3:=a.aX;grind)
 grind
end
end fH
namespace iu
open Conc ConcM av bj ah eK hO fH
variable{a:Act}{f:uak}
section
section
variable{Z:fz}{mine M M':dL}{w0 w w1:aR}{bs:uar}
theorem js:cv M []=M:=by grind[cv]
def ak.sD(h:ak Z mine w0 bs w):ak Z (cv mine bs) w [] w:=by
 refine⟨.refl _ _ _,AS,λb a=>?_,λb a=>h.fA b (by simp_all[js]),AS,AS,λb a hK=>a.elim (λx=>h.tz b x hK) (λx=>h.tj b x (.inl hK))⟩;rcases a with a|(a|a)|a
 .exact h.lt b (.inl a)
 .exact h.lt b (.inr (.inl a))
 .exact h.TO a
 .exact h.lt b (.inr (.inr a))
structure jf(Z:fz)(M:dL)(w:aR)(M':dL)(w':aR):Prop where
 sub:∀b,M b->M' b
 rw:ai Z M w w'
 br:ak Z M' w' [] w'
theorem jf.heap(h:jf Z M w M' w1){b o}(c:M b)(a:w.heap[b]?=some o):w1.heap[b]?=some o:=(h.rw.heap b (.inr c)).trans a
theorem jf.trans{d c}(h:jf Z M w M' w1)(k:jf Z M' w1 d c):jf Z M w d c:=
 ⟨λb a=>k.sub b (h.sub b a),h.rw.trans ⟨λb a=>k.rw.heap b (a.imp id (h.sub b)),k.rw.size,k.rw.later,k.rw.output,k.rw.tape⟩,k.br⟩
def jf.now(h:jf Z M w M' w1){a}(k:ak Z M' w1 [] a):jf Z M w M' a:=by refine⟨h.sub,h.rw.trans ⟨λb c=>k.rw.heap b (c.imp id (h.sub b)),k.rw.size,k.rw.later,k.rw.output,k.rw.tape⟩,?_⟩;have:=ak.sD k;grind[js]
def jf.start(h:ak Z mine w0 bs w)(k:jf Z (cv mine bs) w M' w1):jf Z mine w0 M' w1:=
 ⟨λb a=>k.sub b (.inl a),h.rw.trans ⟨λb a=>k.rw.heap b (a.imp id .inl),k.rw.size,k.rw.later,k.rw.output,k.rw.tape⟩,k.br⟩
end
section
variable{c:dU}
def gg(c:dU)(l:ah.Lo At)(M:dL)(w0:aR):de (ao (ay c)):=⟨l,M,λw _=>ak (ao (ay c)) M w0 [] w⟩
def xN(c:dU)(l:ah.Lo At)(M:dL)(w0:aR):de (ao (ay c)):=⟨l,M,λw γ=>ak (ao (ay c)) M w0 [] w/\c.N<=γ.am.taken⟩
def ak.rel{l:ah.Lo At}{γ:ah.aQ cO}{M:dL}{w0 w w':aR}{g:uaj}(h:ak (ao (ay c)) M w0 [] w)(a:ep (ao (ay c)) l γ ⟨g,w,M⟩ w'):ak (ao (ay c)) M w0 [] w':=
 h.on (by rw[js];exact ep.rw a)
def abn l M w0:tv (gg c l M w0):=λ_ _ _ _ _ h _ a=>ak.rel h a
def NT(c:dU)(x y:ubt)(σ:de (ao (ay c))):Prop:=∃l M w0,lr l.am=false/\(M x.1/\w0.heap[x.1]?=some x.2)/\(M y.1/\w0.heap[y.1]?=some y.2)/\σ=gg c l M w0
def Be{x y}:∀σ,NT c x y σ->tv σ:=by rintro _ ⟨l,M,w0,_,_,_,rfl⟩;exact abn _ _ _
def apH{x y}:∀σ,NT c x y σ->∀w γ,σ.S w γ->σ.S {w with drawn:=w.drawn+1} γ:=by rintro _ ⟨l,M,w0,_,_,_,rfl⟩ w γ h;exact⟨h.rw.trans ⟨λ_ _=>Y,vac _,.refl _,Y,Y⟩,h.bO,h.lt,h.fA,h.tj,h.bN,h.tz⟩
variable{Q:cE}{Stop:Bool->ah.Lo At->a0->Prop}{m:Bool}{b:Frame}{ops:fF}
def NU{x y z}(s:z=x\/z=y){o v}(f:vfe o ops a.tmps=true)(h:∀w,w.heap[z.1]?=some z.2->(execOp a.eval o).run Q w=.ok (.value v) w/\∀e∈listed Q b.fn a o w,∃off,e=⟨.cell ⟨z.1,off,none⟩,false,false⟩):ot Q b ops (NT c x y) o v a:=by
 refine .inl ⟨f,?_⟩;rintro _ ⟨l,M,w0,n,u,t,rfl⟩ w γ w' r g q p m;have k:=abn (c:=c) l M w0 w γ w' r g q p m;have i:M z.1/\w0.heap[z.1]?=some z.2:=AA;obtain⟨h1,h2⟩:=h w' ((k.rw.heap z.1 (.inr i.1)).trans i.2);refine⟨h1,A7 _ _ λe j d=>?_,?_⟩
 .obtain⟨off,rfl⟩:=h2 e AA;exact .inl ⟨Y,.inr (.inl i.1),n⟩
 .rintro⟨e,j,f⟩;obtain⟨off,rfl⟩:=h2 e j;rcases f with f|f|⟨_,f⟩|⟨_,f⟩|⟨f,_⟩<;>cases f
def Bf{Z:fz}{Stop:Bool->Z.Lo->a0->Prop}{σ:de Z}{K:de Z->Act->Prop}{o:Oper}{args:dX}{V:Value->de Z->Prop}(h:∀w,(execOp a.eval o).run Q w=.ok (.enter f args) w/\listed Q b.fn a o w=#[])(d:iU Q Stop m f args σ V)(k:∀u c,V u c->K c (a.put o.dst u)):TF Q Stop m b o σ a K:=
 ⟨f,args,V,λw γ w' e g _ _ _=>⟨(h w').1,by rw[(h w').2];exact trivial,AA⟩,d,k⟩
def sE{o:Oper}{fn:Func}{d:Code}{args:uay}{ats:uaq}(c:o.op=.call {callee:=.value (.func f),args,argTypes:=ats})(g:Q.funcs[f]?=some fn)(e:(fn.name== "runtime.NumGoroutine")=false)(h:fn.body=some d){vs:dX}(hv:args.map a.eval=vs)(w:aR):(execOp a.eval o).run Q w=.ok (.enter f vs) w/\listed Q b.fn a o w=#[]:=by
 grind[run_call_body,listed,events_call_body,seen_none]
def TU{o:Oper}{r:uam}{name:String}{args:uay}{ats:uaq}(c:o.op=.call {callee:=.invoke r name,args,argTypes:=ats}){w:aR}{n:Next}{rv:Value}{vs:dX}(d:a.eval r=rv)(hv:args.map a.eval=vs)(h:(callMethod rv name vs).run Q w=.ok n w/\(callMethod rv name vs).events Q w #[]=#[]):(execOp a.eval o).run Q w=.ok n w/\listed Q b.fn a o w=#[]:=by
 subst hv;subst d;obtain⟨h1,h2⟩:=h;unfold listed;have e:execOp a.eval o=callMethod (a.eval r) name (args.map a.eval):=by unfold execOp;simp only[c,resolve,invoke];generalize args.map a.eval=u;simp_all[Array.getElem?_append_left]
 grind[seen_none]
def NW{Z:fz}{Stop:Bool->Z.Lo->a0->Prop}(e:∀l g g1,¬Z.py l g g1){σ:de Z}{γ:Z.aQ}{w d:aR}{V:Value->de Z->Prop}{o:Oper}{args:dX}{i:Nat}{rest:uac}{k:uab}{cs:hH}(n:ops[i]?=some o)(j:vfe o ops a.tmps=true)(hk:b.kind≠ .early)(h:(execOp a.eval o).run Q w=.ok (.enter f args) w/\listed Q b.fn a o w=#[])(p:iU Q Stop m f args σ V)(q:σ.S w γ)(hK:∀u c,V u c->∀w γ,c.S w γ->bc Z Q Stop m c.l γ ⟨G (b.at (a.put o.dst u) (.inRegion ops rest::k)) cs,w,c.mine⟩):Then (Z:=Z) Q Stop m σ.l γ ⟨G (b.at a (.inRegion ops (i::rest)::k)) cs,d,σ.mine⟩ w:=by
 refine TS e (stepG_enter n j hk h.1) Y h.2 (p b a ops i rest k cs (λu c hv s t r=>?_) w γ q);grind
def qA(c:dU)(cH w:aR):Prop:=(∀b,c.K b->w.heap[b]?=cH.heap[b]?)/\cH.heap.size<=w.heap.size
def qA.more{cH w w' M M'}(h:qA c cH w)(a:jf (ao (ay c)) M w M' w'):qA c cH w':=⟨λb d=>(a.rw.heap b (.inl d)).trans (h.1 b d),vad h.2 a.rw.size⟩
def qA.br{cH w0 w M bs}(h:qA c cH w0)(k:ak (ao (ay c)) M w0 bs w):qA c cH w:=⟨λb a=>(k.rw.heap b (.inl a)).trans (h.1 b a),vad h.2 k.rw.size⟩
structure uK(c:dU)(cH:aR)(Q:cE)(Stop:Bool->ah.Lo At->a0->Prop)(y7:uak)(fX:Value)(j4:uak)(ie:Value)(fr aT:uas)(ox cJ:uaf):Prop where
 inv:∀(args:dX)(w:aR),(callMethod fX "Piece" args).run Q w=.ok (.enter j4 (#[ie]++args)) w/\(callMethod fX "Piece" args).events Q w #[]=#[]
 abo:∀T l M w0,T<c.N->lr l.am=false->ak (ao (ay c)) M w0 [] w0->qA c cH w0->iU Q Stop false j4 #[ie,.I (fr T:Int),.I (aT T:Int)] (gg c l M w0) (λu bX=>∃M' w1,jf (ao (ay c)) M w0 M' w1/\ox T u (λb=>M' b/\¬M b) w1/\bX=gg c l M' w1)
 abp:∀T l M w0 u X,(∀b,X b->M b)->T<c.N->lr l.am=false->ak (ao (ay c)) M w0 [] w0->qA c cH w0->ox T u X w0->iU Q Stop false y7 #[u] (gg c l M w0) (λv bX=>∃M' w1,jf (ao (ay c)) M w0 M' w1/\cJ T v (λb=>X b\/M' b/\¬M b) w1/\bX=gg c l M' w1)
 slice:∀T v M w,cJ T v M w->∃s aW,v=.slice s (c.rows T) aW
 uL:∀T,c.cq T=false
 mono:∀T v M w M' w',cJ T v M w->(∀b,c.K b\/M b->w'.heap[b]?=w.heap[b]?)->(∀b,M b->M' b)->cJ T v M' w'
def kX(c:dU)(cJ:uaf):List (Nat×Value)->(Nat->Prop)->aR->Prop
 | [],_,_=>True
 |x::q,M,w=>∃cx M2:Nat->Prop,(∀b,cx b->M b)/\(∀b,M2 b->M b/\¬cx b)/\(c.cq x.1=false->cJ x.1 x.2 cx w)/\kX c cJ q M2 w
theorem kX.same{cJ}(d:∀T v M w M' w',cJ T v M w->(∀b,c.K b\/M b->w'.heap[b]?=w.heap[b]?)->(∀b,M b->M' b)->cJ T v M' w'){w w'}:∀{q:uad}{M M':dL},kX c cJ q M w->(∀b,c.K b\/M b->w'.heap[b]?=w.heap[b]?)->(∀b,M b->M' b)->kX c cJ q M' w'
 | [],_,_,_,_,_=>trivial
 |x::q,M,M',⟨g,i,h1,h2,h3,h4⟩,e,f=>⟨g,i,λb a=>f b (h1 b a),λb a=>⟨f b (h2 b a).1,(h2 b a).2⟩,λa=>d _ _ _ _ _ _ (h3 a) (λb a=>e b (a.imp_right (h1 b))) (λ_ h=>h),kX.same d h4 (λb a=>e b (a.imp_right λx=>(h2 b x).1)) (λ_ h=>h)⟩
theorem kX.pick{cJ w}:∀{q:uad}{M:dL},kX c cJ q M w->∃G:Nat×Value->Nat->Prop,(∀x∈q,(∀b,G x b->M b)/\(c.cq x.1=false->cJ x.1 x.2 (G x) w))/\∀x∈q,∀y∈q,x≠y->∀b,G x b->¬G y b
 | [],_,_=>⟨λ_ _=>False,AS,AS⟩
 |x::q,M,⟨i,m,h1,h2,h3,h4⟩=>by
  obtain⟨G,g1,l⟩:=kX.pick h4;obtain⟨F,hF⟩:∃F:Nat×Value->Nat->Prop,F=λy b=>(y=x/\i b)\/(y≠x/\G y b):=⟨_,Y⟩;have e1:F x=i:=by rw[hF];funext b;simp
  have e2:∀y,y≠x->F y=G y:=λy f=>by rw[hF];funext b;simp[f]
  refine⟨F,λy f=>?_,λy f z h g b a d=>?_⟩
  .by_cases e:y=x
   .subst e;rw[e1];exact⟨h1,h3⟩
   .obtain⟨k,j⟩:=g1 y ((vaw.1 f).resolve_left e);rw[e2 y e];exact⟨λb a=>(h2 b (k b a)).1,j⟩
  .rw[hF]at a d;rcases a with⟨rfl,a⟩|⟨n1,a⟩<;>rcases d with⟨rfl,d⟩|⟨ik,d⟩
   .exact g Y
   .exact(h2 b ((g1 z ((vaw.1 h).resolve_left ik)).1 b d)).2 a
   .exact(h2 b ((g1 y ((vaw.1 f).resolve_left n1)).1 b a)).2 d
   .exact l y ((vaw.1 f).resolve_left n1) z ((vaw.1 h).resolve_left ik) g b a d
end
end
end iu
namespace dx
open Conc ConcM av bj ah eK hO fH iu
section
section
variable{Z:fz}{Q:cE}{Stop:Bool->Z.Lo->a0->Prop}{m:Bool}{l:Z.Lo}
def abq(G:Z.Good)(w:Z.past l=false)(R:∀g g1,¬Z.py l g g1){post X K'}(h:ix Q m K' post X):
 ∀γ fr,(∀b,K' b->Z.K b\/fr b)->X.g.status=.running->(∀b,X.mine b\/fr b->¬Z.ia b)->(∀b,fr b->¬X.mine b/\¬Z.K b/\b<X.w.heap.size)->(∀b,Z.ia b->b<X.w.heap.size)->(∀b,Z.K b->b<X.w.heap.size/\¬X.mine b)->
  (∀Y o,post Y->Z.ey l γ o->Y.g.status=.running->(∀b,Y.mine b\/fr b->¬Z.ia b)->(∀b,fr b->¬Y.mine b/\b<Y.w.heap.size/\Y.w.heap[b]?=X.w.heap[b]?)->X.w.heap.size<=Y.w.heap.size->
   (∀b,Z.K b->¬Y.mine b/\Y.w.heap[b]?=X.w.heap[b]?)->(∀b,X.mine b->Y.mine b)->(∀b,Y.mine b->X.mine b\/(X.w.heap.size<=b/\b<Y.w.heap.size))->OsLater X.w.os Y.w.os->Y.w.output=X.w.output->Y.w.tape=X.w.tape->bc Z Q Stop m l o (rr Y fr))->bc Z Q Stop m l γ (rr X fr):=by
 induction h with
 |done h=>intro γ fr _ hs x r _ v k;exact k _ γ h (G.refl _ _) hs x AA JR AA (λ_ h=>h) AA (.refl _) rfl rfl
 |@step X ok U E=>
  intro γ fr p hs x r hsz v k;refine bc.mk hs λw' o F f=>?_;have n:me K' X w':=⟨λb c=>f.rely.heap b (c.elim (λh=>(p b h).imp id .inr) (λh=>.inr (.inl h))),f.rely.size,f.rely.env⟩;obtain⟨g1,w1,es,hst,hg⟩:=ok w' n;have T:∀b,grown X.mine w' w1 b->¬Z.ia b:=by
   rintro b (c|⟨c,_⟩)
   .grind
   .intro s;have:=hsz b s;have:=f.rely.size;grind[rr]
  have V:∀b,fr b->¬grown X.mine w' w1 b:=by
   rintro b c (h|⟨h,_⟩)
   .grind
   .have:=(r b c).2.2;have:=f.rely.size;grind[rr]
  have L:∀b,fr b->w1.heap[b]?=X.w.heap[b]?:=λb c=>by have h1:=f.rely.heap b (.inr (.inr c));simp[rr]at h1;rw[<-h1];refine hg.kept b ?_ (r b c).1;grind
  have z:(⟨g1,w1,grown (rr X fr).mine w' w1⟩:a0)=rr ⟨g1,w1,grown X.mine w' w1⟩ fr:=by
   unfold rr;congr 1
   grind[grown]
  refine .quiet hst ⟨hg.run,⟨λb c D _=>hg.kept b c λh=>D (.inl h),hg.size,by rw[hg.os];exact .refl _,hg.output,hg.tape⟩,λb c s=>hg.kept b c AA,A7 _ _ λe y d=>?_,?_⟩ ?_
  .have:=hg.evs e AA;unfold yz at this;unfold uz;cases q:e.loc with
   |cell a=>
    rw[q]at this;obtain⟨h1,h2,h3⟩:=this;refine .inl ⟨h3,?_,w⟩;cases i:e.write with
    |true=>exact .inr (.inl ((h2 i).imp .inl id))
    |false=>
     rcases h1 with h1|h1
     .rcases p _ h1 with h|h
      .grind
      .exact .inr (.inl (.inl (.inr h)))
     .exact .inr (.inl (h1.imp .inl id))
   |obj a=>
    rw[q]at this;obtain⟨h1,h2,h3⟩:=this;refine⟨h3,?_,w⟩;cases i:e.write with
    |true=>exact .inr ((h2 i).imp .inl id)
    |false=>
     rcases h1 with h1|h1
     .rcases p _ h1 with h|h
      .grind
      .exact .inr (.inl (.inr h))
     .exact .inr (h1.imp .inl id)
   |mark mk=>rw[q]at this;cases mk<;>first|exact .inl this|grind
   |output=>trivial
   |goroutines=>grind
  .rintro(⟨e,y,i⟩|h)
   .have:=hg.evs e y;unfold yz at this;rcases i with h|h|⟨a,h⟩|⟨a,h⟩|⟨i,b,c,s⟩
    .grind
    .grind
    .grind
    .grind
    grind[fy]
   grind
  .rw[z];have S:X.w.heap.size<=w1.heap.size:=vad f.rely.size hg.size;refine E w' g1 w1 es n hst o fr p hg.run AA AA AA (λb hK=>⟨AA,?_⟩) ?_
   .rintro(h|⟨h,_⟩)
    .grind
    .have:=(v b hK).1;have:=n.size;omega
   intro Y A C B O N H K j M P J u t;refine k Y A C (G.trans _ _ _ _ F B) O N AA AA (λb hK=>⟨(j b hK).1,?_⟩) (λb h=>M b (.inl h)) (λb h=>?_) ?_ ?_ ?_
   .have h1:=f.rely.heap b (.inl hK);simp[rr]at h1;rw[(j b hK).2,<-h1];exact hg.kept b AA (v b hK).2
   .have I:X.w.heap.size<=w'.heap.size:=n.size;rcases P b h with(h|h)|h
    .grind
    .grind
    grind
   .exact(show OsLater X.w.os w'.os from f.later).trans (by rw[<-hg.os];grind)
   .rw[u];exact hg.output.trans f.output
   .rw[t];exact hg.tape.trans f.tape
end
def bL(_:Nat):Prop:=False
structure Dp(C:cM)(a8 G:dL)(w:aR)(R:hV)(v':Value)(nr:dL)(w':aR)(ρ:Ren)(w1:aR)(v:Value):Prop where
 post:R v w1
 val:au ρ v v'
 world:∃S,e_ C S ρ w1 w'
 le:Ren.le (dp (λb=>a8 b\/G b) bL) ρ
 dom:∀a b,ρ.rel a b->a8 b\/nr b
 sub:∀b,G b->nr b
 old:∀a b,ρ.rel a b->a=b\/w.heap.size<=b
section
variable{c:dU}{Stop:Bool->ah.Lo At->a0->Prop}{m:Bool}
def NZ{P:cE}{upd:Bool}(D:(da P upd).Good)(X:upd=false){f:uak}{fn:Func}{E:Code}(A:P.funcs[f]?=some fn)(hk:gE P upd fn=true)(d:fn.body=some E)(C:y3 fn=true){l:ah.Lo At}(Z:lr l.am=false){a8 G M:dL}{w0:aR}(V:∀b,a8 b->c.K b)(hG:∀b,G b->M b)(hg:∀g,g<=P.globals.size->a8 g){args:dX}(B:aJ (dp (λb=>a8 b\/G b) bL) args args){R:ubq}(F:fG (da P upd) (λb=>a8 b\/G b) bL w0)(W:∀w,(∀b,a8 b\/G b->w.heap[b]?=w0.heap[b]?)->∀i,iy (da P upd) (λb=>a8 b\/G b) bL w i->∀T,Calls (ae P upd) f args {i with tape:=T} (λe w1=>∃v,e=.returned v/\R i v w1)):
 iU P Stop m f args (gg c l M w0) (λu H=>∃r M' w',(∃w i ρ w1 v,((∀b,a8 b\/G b->w.heap[b]?=w0.heap[b]?)/\w0.heap.size<=w.heap.size)/\iy (da P upd) (λb=>a8 b\/G b) bL w i/\Dp (da P upd) a8 G w (R i) u r w' ρ w1 v)/\(∀b,r b->M' b/\(G b\/¬M b))/\jf (ao (ay c)) M w0 M' w'/\H=gg c l M' w'):=by
 intro a2 aI aC aL aO aK csZ L w γ n;have hF:ak (ao (ay c)) M w0 [] w:=n;have k:=dE (bW c);have O:∀b,a8 b\/G b->w.heap[b]?=w0.heap[b]?:=λb d=>hF.rw.heap b AA;have N:fG (da P upd) (λb=>a8 b\/G b) bL w:=λb d=>by obtain⟨o,h1,h2⟩:=F b d;grind
 obtain⟨i,s⟩:=Jm (da P upd) (λb=>a8 b\/G b) bL w;have z:=ix.more (K':=λb=>a8 b\/G b) AA (NR D A hk d C N AA AA B (R:=R i) s AA m (a2.at aI (.inRegion aC (aL::aO)::aK)) csZ);have y:(⟨a4 (Frame.enter P f args .normal) (a2.at aI (.inRegion aC (aL::aO)::aK)::csZ),w,M⟩:a0)=rr ⟨a4 (Frame.enter P f args .normal) (a2.at aI (.inRegion aC (aL::aO)::aK)::csZ),w,bL⟩ M:=by
  unfold rr;congr 1
  funext b
  exact propext ⟨.inr,λh=>h.resolve_left (λx=>x)⟩
 show bc _ _ _ _ l γ ⟨a4 (Frame.enter P f args .normal) (a2.at aI (.inRegion aC (aL::aO)::aK)::csZ),w,M⟩;rw[y];have p:∀b,M b->¬(ao (ay c)).ia b:=λb h=>hF.fA b (.inr (.inl h));refine abq k AA LK z γ M AA rfl (λb d=>p b (d.resolve_left (λx=>x))) (λb d=>⟨λx=>x,hF.tz b d,hF.lt b (.inr (.inl d))⟩) (λb n=>hF.lt b (.inr (.inr n))) (λb hK=>⟨hF.lt b (.inl hK),λx=>x⟩) ?_;rintro Y J ⟨ρ,w1,v,v',j⟩ ho TW TX K hsz I TY Q t U S;have hsz':w.heap.size<=Y.w.heap.size:=hsz;have q:jf (ao (ay c)) M w0 (λb=>Y.mine b\/M b) Y.w:=by
  refine⟨AA,hF.rw.trans ⟨λb d=>?_,hsz,t,U,S⟩,.refl _ _ _,AS,λb d=>?_,λb d=>?_,AS,AS,λb d hK=>?_⟩
  .grind
  .rcases d with h|(h|h)|h
   .exact vak (hF.lt b (.inl h)) hsz'
   .exact(Q b h).elim (λx=>x.elim) (λx=>x.2)
   .grind
   .exact vak (hF.lt b (.inr (.inr h))) hsz'
  .rw[js]at d;rcases d with h|h
   .exact k.oo b h
   grind
  .rcases d with h|h
   .grind
   .exact hF.tz b h hK
 have:=L v' (gg c l (λb=>Y.mine b\/M b) Y.w) ⟨λb=>G b\/Y.mine b,_,Y.w,⟨w,i,ρ,w1,v,⟨O,hF.rw.size⟩,s,j.post,j.val,j.world,j.le,λa b h=>?_,AA,λa b h=>?_⟩,AA,q,rfl⟩ Y.w J q.br
 .unfold rr;have e:=j.g;rw[vco]at e;rw[e];exact this
 .rcases j.dom a b h with h|h
  .grind
  grind
 .rcases j.old a b h with h|h
  .exact .inl h.1
  grind
end
end
def Bh(R:uaw):Prop:=∀(ρ:Ren)(w w':aR)(v v':Value),Carry ρ w w'->au ρ v v'->R w v->R w' v'
def N1(a8:dL)(R:uaw):Prop:=∀(ρ:Ren)(w w':aR)(v v':Value),(∀b,a8 b->ρ.rel b b)->(∀a b b',ρ.rel a b->ρ.rel a b'->b=b')->Carry ρ w w'->au ρ v v'->R w v->R w' v'
def Bh.k{R}(h:Bh R)a8:N1 a8 R:=λρ w w' v v' _ _ b hv a=>h ρ w w' v v' b hv a
def o6(C:cM)(a8 X:dL)(R:uaw)(u:Value)(M:dL)(w:aR):Prop:=
 ∃G:Nat->Prop,(∀b,G b->M b/\¬X b)/\fG C (λb=>a8 b\/G b) bL w/\au (dp (λb=>a8 b\/G b) bL) u u/\R w u
variable{w w':aR}
section
variable{C:cM}{a8 X:dL}
theorem pE{D}(h:fG C D bL w)(c:∀b,D b->w'.heap[b]?=w.heap[b]?):fG C D bL w':=λb a=>by obtain⟨o,h1,h2⟩:=h b a;grind
def sF{D}(l:∀b,D b->w'.heap[b]?=w.heap[b]?)(k:fG C D bL w):Carry (dp D bL) w w':=by
 rintro a a' v ⟨⟨h1,hd⟩,h2,h3⟩ hv;obtain⟨c,e,fr,g,i,f⟩:=xd hv;rw[h1]at g;have h4:=(l _ hd).trans g;refine⟨v,n2 h4 (h3▸i) (h2▸f),?_⟩;obtain⟨ob,h,d⟩:=k _ hd;rw[g]at h;cases h;rcases d with d|d
 .cases d with|cells _ j _=>exact j.get _ _ _ f f
 .exact d.elim
theorem o6.mono{R}(c:Bh R){u M M'}(h:o6 C a8 X R u M w)(e:∀b,a8 b\/M b->w'.heap[b]?=w.heap[b]?)(d:∀b,M b->M' b):o6 C a8 X R u M' w':=by obtain⟨G,h1,h2,h3,h4⟩:=h;have a:∀b,a8 b\/G b->w'.heap[b]?=w.heap[b]?:=AA;exact⟨G,AA,pE h2 a,h3,c _ _ _ _ _ (sF a h2) h3 h4⟩
def Dp.abw{G R v' f M' ρ w1 v}(h:Dp C a8 G w R v' f w' ρ w1 v)(k:∀b,f b->M' b/\¬X b){Q}(g:N1 a8 Q)(i:Q w1 v):o6 C a8 X Q v' M' w':=by
 obtain⟨S,d⟩:=h.world;have e:(λb=>a8 b\/((∃a,ρ.rel a b)/\¬a8 b))=λb=>∃a,ρ.rel a b:=by
  funext b
  apply propext;constructor
  .rintro(c|c)
   .exact⟨b,h.le.1 b b ⟨Y,.inl c⟩⟩
   grind
  grind
 refine⟨λb=>(∃a,ρ.rel a b)/\¬a8 b,λb c=>?_,?_,?_,g ρ w1 w' v v' (λb c=>h.le.1 b b ⟨Y,.inl c⟩) d.one d.carry h.val i⟩
 .obtain⟨⟨a,j⟩,hk⟩:=c;exact k b ((h.dom a b j).resolve_left hk)
 .rw[e];exact d.closed bL
 .rw[e];exact au.right (σ:=dp (λb=>∃a,ρ.rel a b) bL) (λa b l=>⟨Y,a,l⟩) h.val
end
theorem iU.mono{Z:fz}{Q}{Stop:Bool->Z.Lo->a0->Prop}{m f args}{σ:de Z}{V a:Value->de Z->Prop}(h:iU Q Stop m f args σ V)(d:∀u b,V u b->a u b):iU Q Stop m f args σ a:=
 λa2 aI aC aL aO aK csZ hK w γ c=>h a2 aI aC aL aO aK csZ AA w γ c
def mw{ρ}{l:uai}(h:∀v∈l,au ρ v v):aJ ρ l.toArray l.toArray:=by apply aJ.My;induction l with|nil=>exact .nil|cons a l b=>exact .cons (h a AS) AA
variable{cH:aR}
def abx{P:cE}{upd:Bool}(D:(da P upd).Good)(B:upd=false){j4 q:uak}{p o:Func}{T4 T5:Code}(T6:P.funcs[j4]?=some p)(T7:gE P upd p=true)(T8:p.body=some T4)(T9:y3 p=true)(T_:P.funcs[q]?=some o)(Z:gE P upd o=true)(W:o.body=some T5)(V:y3 o=true){Stop:Bool->ah.Lo At->a0->Prop}{c:dU}{a8:dL}(r:∀b,a8 b->c.K b)(hg:∀g,g<=P.globals.size->a8 g)(H:fG (da P upd) (λb=>a8 b\/bL b) bL cH){y m:Value}{fr aT:uas}(hinv:∀(args:dX)(w:aR),(callMethod y "Piece" args).run P w=.ok (.enter j4 (#[m]++args)) w/\(callMethod y "Piece" args).events P w #[]=#[])(S:au (dp (λb=>a8 b\/bL b) bL) m m){uN uO:uau}(z:∀T,N1 a8 (uN T))(F:∀T,Bh (uO T))(fY:∀T,T<c.N->∀w,(∀b,a8 b\/bL b->w.heap[b]?=cH.heap[b]?)->∀f,iy (da P upd) (λb=>a8 b\/bL b) bL w f->∀k,Calls (ae P upd) j4 #[m,.I (fr T:Int),.I (aT T:Int)] {f with tape:=k} (λe w1=>∃v,e=.returned v/\uN T w1 v))(mf:∀T,c.cq T=false)(L:∀T,T<c.N->∀f u,uN T f u->∀k,Calls (ae P upd) q #[u] {f with tape:=k} (λe w1=>∃v,e=.returned v/\uO T w1 v))(yP:∀T w v,uO T w v->∃s aW,v=.slice s (c.rows T) aW):
 uK c cH P Stop q y j4 m fr aT (λT u M w=>o6 (da P upd) a8 c.K (uN T) u M w) (λT v M w=>o6 (da P upd) a8 c.K (uO T) v M w):=by
 refine⟨hinv,λT l M w0 C t hk hI=>?_,λT l M w0 u X fv C t hk hI J=>?_,λT v M w h=>?_,mf,λT v M w M' w' h E K=>o6.mono (F T) h AA K⟩
 .have E:∀b,a8 b\/bL b->w0.heap[b]?=cH.heap[b]?:=λb d=>hI.1 b (r b (d.resolve_right (λx=>x)));refine iU.mono (NZ D B T6 T7 T8 T9 t (G:=bL) (M:=M) r (λb h=>h.elim) hg (R:=λ_ v w1=>uN T w1 v) (mw λv hv=>?_) (pE H E) AA) ?_
  .simp at hv;rcases hv with rfl|rfl|rfl
   .grind
   .exact .int _ _
   .exact .int _ _
  .rintro u O ⟨I,M',w',⟨w,f,ρ,w1,v,_,_,n⟩,i,j,rfl⟩;exact⟨M',w',j,n.abw (λb d=>⟨⟨(i b d).1,(i b d).2.resolve_left id⟩,λx=>j.br.tz b (i b d).1 x⟩) (z T) n.post,Y⟩
 .obtain⟨G,h1,h2,h3,h4⟩:=J;refine iU.mono (NZ D B T_ Z W V t (G:=G) (M:=M) r AA hg (R:=λ_ v w1=>uO T w1 v) (mw λv hv=>?_) h2 (λw A f U k=>L T C f u ?_ k)) ?_
  .grind
  .have N:=pE h2 A;exact z T (dp (λb=>a8 b\/G b) bL) _ _ _ _ (λb d=>⟨Y,.inl d⟩) (λa b Q h1 h2=>h1.1.symm.trans h2.1) (U.carry N) h3 (z T (dp (λb=>a8 b\/G b) bL) _ _ _ _ (λb d=>⟨Y,.inl d⟩) (λa b Q h1 h2=>h1.1.symm.trans h2.1) (sF A h2) h3 h4)
  .rintro gz O ⟨I,M',w',⟨w,f,ρ,w1,v,_,_,n⟩,i,j,rfl⟩;exact⟨M',w',j,n.abw (λb d=>⟨(i b d).2.elim (λx=>.inl (h1 b x).1) λx=>.inr ⟨(i b d).1,x⟩,λx=>j.br.tz b (i b d).1 x⟩) ((F T).k a8) n.post,Y⟩
 .obtain⟨G,_,_,_,h4⟩:=h;grind
def apM{P:cE}{upd:Bool}(q:(da P upd).Good)(p:upd=false){j4 i:uak}{h f:Func}{H F:Code}(E:P.funcs[j4]?=some h)(D:gE P upd h=true)(C:h.body=some H)(B:y3 h=true)(A:P.funcs[i]?=some f)(z:gE P upd f=true)(y:f.body=some F)(x:y3 f=true){Stop:Bool->ah.Lo At->a0->Prop}{c:dU}{a8:dL}(o:∀b,a8 b->c.K b)(hg:∀g,g<=P.globals.size->a8 g)(n:fG (da P upd) (λb=>a8 b\/bL b) bL cH){k a:Value}{fr aT:uas}(hinv:∀(args:dX)(w:aR),(callMethod k "Piece" args).run P w=.ok (.enter j4 (#[a]++args)) w/\(callMethod k "Piece" args).events P w #[]=#[])(l:au (dp (λb=>a8 b\/bL b) bL) a a){uN uO:uau}(I:∀T,Bh (uN T))(J:∀T,Bh (uO T))(r:∀T,T<c.N->∀w,(∀b,a8 b\/bL b->w.heap[b]?=cH.heap[b]?)->∀d,iy (da P upd) (λb=>a8 b\/bL b) bL w d->∀j,Calls (ae P upd) j4 #[a,.I (fr T:Int),.I (aT T:Int)] {d with tape:=j} (λe w1=>∃v,e=.returned v/\uN T w1 v))(mf:∀T,c.cq T=false)(t:∀T,T<c.N->∀d u,uN T d u->∀j,Calls (ae P upd) i #[u] {d with tape:=j} (λe w1=>∃v,e=.returned v/\uO T w1 v))(m:∀T w v,uO T w v->∃s aW,v=.slice s (c.rows T) aW):
 uK c cH P Stop i k j4 a fr aT (λT u M w=>o6 (da P upd) a8 c.K (uN T) u M w) (λT v M w=>o6 (da P upd) a8 c.K (uO T) v M w):=
 abx q p E D C B A z y x o hg n hinv l (λT=>(I T).k a8) J r mf t m
end dx
namespace bd
open Conc ConcM RowKit av bj ah eK hO fH iu dx
abbrev cP:=List Int×List bz
def Ue(w:aR)(rd:uan)(r:cP):Prop:=∃pv rD,rd 0=some pv/\rd 1=some rD/\h5 w pv r.1/\oi w rD r.2
abbrev ko(w:aR):=bo w 2 Ue
def abz:xO Nh:=by rintro ρ w w' rd f x-hr ⟨h0,h1,h2,h3,h4⟩;obtain⟨v0,a,b0⟩:=hr 0 _ h0;obtain⟨v1,a1,b1⟩:=hr 1 _ h1;obtain⟨v2,c,e⟩:=hr 2 _ h2;obtain⟨v3,b,d⟩:=hr 3 _ h3;rw[b0.abv]at a;rw[b1.uM]at a1;rw[e.uM]at c;rw[d.abu]at b;exact⟨a,a1,c,b,h4⟩
theorem Bj:xO Ue:=by rintro ρ w w' rd f x b a ⟨pv,e,h0,h1,h2,h3⟩;obtain⟨c,d,b0⟩:=a 0 _ h0;obtain⟨v',a1,b1⟩:=a 1 _ h1;exact⟨c,v',d,a1,av.bo.carry Dq b b0 h2,av.bo.carry abz b b1 h3⟩
theorem Hc:p_ Nh:=λ_ _ _ _ _ _ a h=>⟨a _ _ h.1,a _ _ h.2.1,a _ _ h.2.2.1,a _ _ h.2.2.2.1,h.2.2.2.2⟩
def zb:p_ Ue:=λ_ _ _ _ _ hk a⟨pv,b,h0,h1,h2,h3⟩=>⟨pv,b,a _ _ h0,a _ _ h1,h2.mono q8 hk,h3.mono Hc hk⟩
def Kf xs:∀j(h:j<xs.length),(two xs)[j*2]?=some xs[j].1/\(two xs)[j*2+1]?=some xs[j].2:=by induction xs with|nil=>grind|cons a l b=>intro j h;cases j with|zero=>exact⟨Y,Y⟩|succ j=>have:=b j AA;rw[show(j+1)*2=j*2+1+1 from AQ];exact this
variable{v:Value}
def Uf{Row n₀ N w}(h:yO Row n₀ N v w)rs(a5:rs.length=N)(hs:N<=9223372036854775807)(b:∀j(h:j<rs.length) p q,Row j w (.agg #[p,q])->h5 w p rs[j].1/\oi w q rs[j].2):ko w v rs:=by
 obtain⟨xs,h1,h2,h3⟩:=h;subst a5;rcases h2.2 with⟨rfl,h0⟩|⟨g,cap,bq,rfl,-,hg,-,-,-,ht⟩
 .grind[bo.nil]
 .refine⟨_,cap,Y,hs,λi hi=>⟨g,0,Y,?_⟩⟩;have a:i<xs.length:=AQ;have c:=b i hi _ _ (h3 i a);have d:=Kf xs i a;have e:∀o v,(two xs)[o]?=some v->w.cell? (.a g o)=some v:=by grind[World.cell?]
  refine⟨xs[i].1,xs[i].2,?_,?_,c⟩
  .grind
  grind
def apN{cw vs w p q}(h:Nl cw vs w (.agg #[p,q]))(c:cw.length<=9223372036854775807)(hv:vs.length<=9223372036854775807)(ht:∀d∈vs,d.text.size<=9223372036854775807):h5 w p cw/\oi w q vs:=by obtain⟨b,bv,a,cs,e,h1,h2,h3,h4,f⟩:=h;simp at e;obtain⟨rfl,rfl⟩:=e;refine⟨⟨_,_,Y,c,λi hi=>⟨b,0,Y,?_⟩⟩,oi.SK h3 hv ht f _⟩;show w.cell? (.a b (0+i*1+0))=_;rw[h1.rules.1];have:a[0+i*1+0]?=a.toList[i]?:=AS;grind
def xQ(t:List a9)(fr aT:Nat)(w:aR)(u:Value):Prop:=
 ∃jo gF bs v,u=.func (.func 206) #[] #[.P jo 0,.P gF 0,.P bs 0]/\
  w.cell? (.a jo 0)=some (.I fr)/\w.cell? (.a gF 0)=some (.I aT)/\w.cell? (.a bs 0)=some v/\n8 w v t
def N2{ρ b}(h:au ρ (.P b 0) v):∃a,v=.P a 0/\dR ρ ⟨b,0,none⟩ ⟨a,0,none⟩:=by cases h with|@ptr _ a' k=>obtain⟨a,o',s'⟩:=a';obtain⟨e,d,c⟩:=k;simp only at e d c;subst d;subst c;exact⟨a,Y,e,Y,Y⟩
def abA{ρ:Ren}{f:uak}{b1 e d:Nat}(h:au ρ (.func (.func f) #[] #[.P b1 0,.P e 0,.P d 0]) v):
 ∃c1 bt cF,v=.func (.func f) #[] #[.P c1 0,.P bt 0,.P cF 0]/\dR ρ ⟨b1,0,none⟩ ⟨c1,0,none⟩/\dR ρ ⟨e,0,none⟩ ⟨bt,0,none⟩/\dR ρ ⟨d,0,none⟩ ⟨cF,0,none⟩:=by
 cases h with|@func fn n a a' b k i j c h1 h2=>cases i;obtain⟨l⟩:=a';obtain⟨m⟩:=k;simp only[vdv,List.length_nil,vdg]at j c;have g:l=[]:=AA;subst g;match m,c with| [x,y,z],_=>obtain⟨c1,rfl,q⟩:=N2 (h2 0 _ x Y Y);obtain⟨bt,rfl,p⟩:=N2 (h2 1 _ y Y Y);obtain⟨cF,rfl,o⟩:=N2 (h2 2 _ z Y Y);grind
def apO t fr aT:Bh (xQ t fr aT):=by rintro ρ w w' u j a f ⟨i,gF,bs,v,rfl,h1,h2,h3,h4⟩;obtain⟨c1,bt,cF,rfl,e,d,c⟩:=abA f;obtain⟨l,a1,e1⟩:=a _ _ _ e h1;obtain⟨k,b,e2⟩:=a _ _ _ d h2;obtain⟨g,h,e3⟩:=a _ _ _ c h3;rw[e1.uM]at a1;rw[e2.uM]at b;exact⟨c1,bt,cF,g,Y,a1,b,h,av.bo.carry xP a e3 h4⟩
def abB rs:Bh (λw v=>ko w v rs):=λ_ _ _ _ _ a hv h=>av.bo.carry Bj a hv h
def apP:vfd.funcs[(204:Nat)]?=some f204:=vfa func204
def apQ t v(fr aT:Nat)w(hv:n8 w v t):
 Calls vfd 204 #[.agg #[v],.I fr,.I aT] w λe w'=>∃u,e=.returned u/\xQ t fr aT w' u:=by
 obtain⟨a,cap,rfl,-,-⟩:=id hv;go_enter apP,ntmps204
 go_wp2
 go_ret
 have b1:=((ag.new w #[.slice a t.length cap] 113).alloc (.cells #[.I (fr:Int)] 3)).alloc (.cells #[.I (aT:Int)] 3);have c:=(ag.new (w.alloc (.cells #[.slice a t.length cap] 113)) #[.I (fr:Int)] 3).alloc (.cells #[.I (aT:Int)] 3);have b:=ag.new ((w.alloc (.cells #[.slice a t.length cap] 113)).alloc (.cells #[.I (fr:Int)] 3)) #[.I (aT:Int)] 3;simp at c b;refine⟨_,Y,w.heap.size+1,w.heap.size+1+1,w.heap.size,.slice a t.length cap,Y,c.rules.1 0,b.rules.1 0,b1.rules.1 0,hv.mono si (bp.cy ?_)⟩;exact(((vaa _ w).alloc JR _).alloc AS _).alloc BA _
end bd
namespace b_
open RowKit Shelf av bd
def N3(w0:aR)(rs:List cP)(t:Nat)(W:aR)(x:Value):Prop:=∃(h:t<rs.length)(ez:uag)(pc:Nat)(b9:uag)(ck:Nat),x=.agg #[.slice ez rs[t].1.length pc,.slice b9 rs[t].2.length ck]/\oi w0 (.slice b9 rs[t].2.length ck) rs[t].2/\bp w0 W
theorem func28:vfc.funcs[(28:Nat)]?=some f28:=bb (upd:=true) Tryz.func28 AD
variable{n:Nat}
def apR rs aW bO w0(N:ko w0 aW rs)(M:rs.length<=1000000)(h1:w0.cell? (.a bO 0)=some aW):
 CM n vfc 28 #[.P bO 0] (N3 w0 rs) rs.length w0.heap.size w0:=by
 intro l S J W f t r z h0;have C:=JD t r;clear r t;have g:=bp.cy f;have s:=g _ _ _ h1;obtain⟨U,cap,rfl,-,j⟩:=N;refine callsIn_of_wp func28 Y trivial ?_ Y;simp[vbk];gi_wp2
 gi_loopw [7] (λp wr=>∃i:Nat,i<=rs.length/\p=.I (i:Int)/\J i wr/\c6 w0 wr/\Below w0.heap.size W wr) (λp _=>rs.length-(intOf p).toNat)
 case atStart=>exact⟨0,vax _,Y,h0,f,vaa _ _⟩
 case round=>
  obtain⟨i,R,rfl,B,y,E⟩:=hrel;have x:Hid (J i wr):=B;have c:Hid (c6 w0 wr):=y;have u:Hid (Below w0.heap.size W wr):=E;clear B y E;by_cases a:i<rs.length
  .obtain⟨b,off,rfl,pv,P,k,d1,w,tm⟩:=j i a;obtain⟨D,pc,rfl,-,-⟩:=id w;obtain⟨q,m,rfl,-,-⟩:=id tm;have o:=bp.cy c.out;simp at k;have e0:=o _ _ _ k;have e1:=o _ _ _ d1;have T:=ef e0;have I:Hid (oi w0 (.slice q rs[i].2.length m) rs[i].2):=tm;have K:(i:Int)<(rs.length:Int):=AQ;have O:(0:Int)<=(i:Int):=AQ;clear o k d1 j w tm h0 f g s h1;have d:c6 wr (wr.alloc (.cells #[.slice D rs[i].1.length pc,.slice q rs[i].2.length m] 77)):=(vaa _ wr).alloc JR _;obtain⟨fn,tmps,assign,body,L,F⟩:=z i _ _ (C _ _ _ x.out d) a ⟨a,D,pc,q,m,Y,I.out,bp.cy (c.out.trans (d.mono c.out.size))⟩;have v:Hid _:=d;clear z C d;gi_wp2
   refine⟨λh=>CI,F.mono ?_⟩;rintro e Q ⟨rfl,H,A⟩;clear F L;gi_wp2
   go_roundw
   case rel=>exact⟨i+1,AQ,AS,H,c.out.trans ((v.out.mono c.out.size).trans A),u.out.trans ((v.out.mono c.out.size).trans A)⟩
   case measure=>simp[intOf];omega
  .have K:¬(i:Int)<(rs.length:Int):=by omega
   clear j h0 f g s h1;gi_wp2
   go_end0
   have e:rs.length=i:=AQ;rw[e];exact⟨⟨_,Y⟩,x.out,u.out⟩
structure iN(Y:ubd)(W W':aR):Prop where
 size:W.heap.size<=W'.heap.size
 cells:∀(b:Nat)(c:dX)(e:uaa)(z:ubr),W.heap[b]?=some (Obj.cells c e z)->Y e->W'.heap[b]?=some (Obj.cells c e z)
variable{Y:ubd}
theorem iN.trans{A B C}(h:iN Y A B)(k:iN Y B C):iN Y A C:=⟨vad h.size k.size,λb c e z x y=>k.cells b c e z (h.cells b c e z x y) y⟩
variable{W W':aR}
def iN.qC(h:gP W W'):iN Y W W':=⟨h.size,λb c e z x _=>h.cells b c e z x⟩
variable{b:Nat}{cs:dX}
def iN.set{T}(h:ag W b cs T)(a:¬Y T)o v:iN Y W (W.setCell ⟨b,o,none⟩ v):=
 ⟨BB,λk c e z x y=>by
  grind[ag,Below.heap_setCell]⟩
def apS(h:c6 W W'):KeepsOthers W W':=⟨h.size,λ_ _ x _=>(h.block _ (lR x)).trans x⟩
def Ug(Y:ubd)(n:Nat)(P:cE)(g:Nat)(lb:dX)(Row:uau)(N n₀:Nat)(w0:aR):Prop:=
 ∀(l:Nat)(S:dL)(J:ubj)(W:aR),Below n₀ w0 W->n₀<=W.heap.size->(∀b,S b->b<W.heap.size)->(∀t W W',J t W->iN (λe=>¬Y e) W W'->(∀b,S b->W'.heap[b]?=W.heap[b]?)->J t W')->
  (∀t x W1,J t W1->t<N->Row t W1 x->n₀<=W1.heap.size->YieldAt Fence.wide (n-1) P l #[x] W1 λe W'=>e=.returned (.T)/\J (t+1) W'/\Below n₀ W1 W'/\KeepsOthers W1 W'/\iN Y W1 W')->
  J 0 W->CallsIn Fence.wide n P g (#[.func (.yield l) #[] #[]]++lb) W λe W'=>(∃v,e=.returned v)/\J N W'/\Below n₀ W W'
variable{N gf:Nat}{w:aR}{lb:dX}{assign body:Code}
def apT{P:cE}{g:uam}{p:Tmp}{Q:uao}{a:Act}{Row:uau}{n₀:Nat}{w0:aR}(hg:a.eval g=.func (.func gf) #[] lb)(qf:∀args w,(callFunc gf args).run P w=.ok (.enter gf args) w)(H:Ug Y (n-1) P gf lb Row N n₀ w0)(X:Below n₀ w0 w)(hn:n₀<=w.heap.size)(I:ubj)(hI:∀t W W',I t W->iN (λe=>¬Y e) W W'->I t W')(h0:I 0 w)(q:ubo)(hAx:∀t x a' W W',q t x a' W->gP W W'->q t x a' W')(JE:∀(l t:Nat)(x:Value)(W:aR)(K:uae),I t W->t<N->Row t W x->(∀a' W',c6 W W'->q t x a' W'->K a' W')->
  assign.wpIn (Fence.wide.inRound l) (n-1-1) P (Exit.then K (λ_ _ _=>False)) {tmps:=a.tmps.setIfInBounds p x,defers:=[]} W)(AJ:∀(l t:Nat)(x:Value)(a':Act)(W:aR),I t W->t<N->q t x a' W->n₀<=W.heap.size->body.wpIn (Fence.wide.inRound l) (n-1-1) P (λe _ W'=>e=.normal/\KeepsOthers W W'/\Below n₀ W W'/\iN Y W W'/\I (t+1) W') a' W)(hdone:∀W,I N W->Below n₀ w W->W.heap[w.heap.size]?=some (.deferred (some []))->Q .normal {a with defers:={target:=.collected w.heap.size,args:=#[]}::a.defers} W):
 (Code.rangeFunc g #[p] assign body).wpIn Fence.wide n P Q a w:=by
 refine wpIn_rangeFunc ?_;intro fn M;obtain⟨rec,C⟩:∃rec:LoopState->Loop,rec=λst=>{state:=st,pending:=none,fn,tmps:=a.tmps,params:=#[p],assign,body,defers:=w.heap.size}:=⟨_,rfl⟩;obtain⟨c,S4⟩:∃c,(w.alloc (.deferred (some []))).alloc (.loop (rec .ready))=c:=⟨_,rfl⟩;have S5:c.heap[w.heap.size+1]?=some (.loop (rec .ready)):=by grind[World.alloc_heap_new,World.size_alloc]
 have S6:c.heap[w.heap.size]?=some (.deferred (some [])):=by grind[Below.heap_alloc,World.alloc_heap_new]
 have z:c6 w c:=by rw[<-S4];exact((vaa _ w).alloc JR _).alloc AS _
 refine⟨w.heap.size+1,[{target:=.collected w.heap.size,args:=#[]}],c,{target:=.fn (.func gf) lb,args:=#[.func (.yield (w.heap.size+1)) #[] #[]]},c,gf,#[.func (.yield (w.heap.size+1)) #[] #[]]++lb,c,?_,?_,λ_ _=>trivial,?_,λh=>CI,?_⟩
 .simp_all[run_enterLoop_outer]
 .simp only[resolve,hg];simp[go_sem]
 .grind[invoke]
 .refine(H (w.heap.size+1) (λb=>b=w.heap.size\/b=w.heap.size+1) (λt W=>I t W/\W.heap[w.heap.size+1]?=some (.loop (rec .ready))/\W.heap[w.heap.size]?=some (.deferred (some []))) c (X.trans (z.mono hn)) AA ?_ ?_ ?_ ⟨hI _ _ _ h0 (.qC (gP.below z)),S5,S6⟩).mono ?_
  .grind
  .grind
  .rintro t x W ⟨hi,f,hk⟩ i Z L;have s:=run_yield (P:=P) (args:=#[x]) f AA;rw[C]at s;refine⟨fn,_,assign,body,s,roundIn_of_wpIn M ?_⟩;clear s;have e1:(#[p].zip #[x]).foldl (λtmps(u:Tmp×Value)=>tmps.setIfInBounds u.1 u.2) a.tmps=a.tmps.setIfInBounds p x:=AS;refine Eq.mp (vcd (λT=>Code.wpIn (Fence.wide.inRound (w.heap.size+1)) (n-1-1) P assign _ {tmps:=T,defers:=[]} W) e1.symm) ?_;refine JE _ t x W _ hi i Z ?_;intro a' B d S8;have j:=(d.block _ (lR f)).trans f;have V:=(d.block _ (lR hk)).trans hk;refine⟨_,run_beginRound j AA,?_⟩;have R:(B.putObj (w.heap.size+1) (.loop {rec .ready with state:=.busy})).heap[w.heap.size+1]?=some (.loop {rec .ready with state:=.busy}):=World.putObj_heap_same (lR j);have O:(B.putObj (w.heap.size+1) (.loop {rec .ready with state:=.busy})).heap[w.heap.size]?=some (.deferred (some [])):=(vap AQ).trans V;refine wpIn_mono (AJ _ t x a' _ (hI _ _ _ (hI _ _ _ hi (.qC (gP.below d))) (.qC (gP.put j))) i (hAx _ _ _ _ _ S8 (.put j)) AA) ?_;rintro e bK J ⟨rfl,m,D,F,E⟩;have r:=m.same _ _ R rfl;have CO:=m.same _ _ O rfl;have S:=run_endRound (P:=P) none r;have ki:(J.putObj (w.heap.size+1) (.loop (rec .ready))).heap[w.heap.size+1]?=some (.loop (rec .ready)):=World.putObj_heap_same (lR r);refine⟨_,_,S,rfl,⟨hI _ _ _ E (.qC (gP.put r)),?_,(vap AQ).trans CO⟩,?_,⟨?_,λk o x y=>?_⟩,?_⟩
   .grind
   .exact((d.mono L).trans ((tn _ AQ).trans D)).trans (tn _ AQ)
   .have:=d.size;have:=m.size;simp at this⊢;omega
   .by_cases A:k=w.heap.size+1
    .grind
    .exact(vap A).trans (m.same _ _ ((vap A).trans ((d.block _ (lR x)).trans x)) y)
   .exact(((iN.qC (gP.below d)).trans (.qC (gP.put j))).trans F).trans (.qC (gP.put r))
  .rintro e W2 ⟨⟨v,rfl⟩,⟨hi,f,hk⟩,U⟩;refine⟨none,_,by have:=run_endLoop (P:=P) f AA;rw[C]at this;exact this,hdone _ (hI _ _ _ hi (.qC (gP.put f))) ?_ ((vap AQ).trans hk)⟩;exact((z.mono hn).trans U).trans (tn _ AQ)
def apU{m a l b:Nat}{P:cE}{f:uak}{tmps:dX}{R:Ending->aR->Prop}(h:RoundIn Fence.wide m P l f tmps assign body w R):RoundIn (Fence.wide.inRound b) a P l f tmps assign body w R:=⟨h.1,λc cs _=>h.2 c cs (λd hd=>by simp[Fence.wide]at hd)⟩
section
theorem func27:vfc.funcs[(27:Nat)]?=some f27:=bb (upd:=true) Tryz.func27 AD
attribute [local go_sem] Oper.semAt_some
def tG(e:uaa):Prop:=e=3\/e=91
def Dr(h:gP W W'){o v}(a:W.cell? (.a b o)=some v):W'.cell? (.a b o)=some v:=by
 have:∃c e z,W.heap[b]?=some (.cells c e z)/\c[o]?=some v:=by unfold World.cell? at a;grind
 obtain⟨c,e,z,h1,h2⟩:=this;have:=h.cells _ _ _ _ h1;grind[World.cell?]
def apV{Row}gF d f w0(oT:∀n,CM n vfc gf lb Row N w0.heap.size w0)(qf:∀args w,(callFunc gf args).run vfc w=.ok (.enter gf args) w)(L:∀t W x,Row t W x->∃p cw pc q a c,x=.agg #[.slice p cw pc,.slice q a c])(bM:∀t W W' x,gP W W'->Row t W x->Row t W' x)(a5:N<=1000000)(h1:w0.cell? (.a gF 0)=some (.func (.func gf) #[] lb))(h2:w0.cell? (.a d 0)=some (.I 0))(h3:w0.cell? (.a f 0)=some (.I 9223372036854775807)):
 Ug tG n vfc 27 #[.P gF 0,.P d 0,.P f 0] Row N w0.heap.size w0:=by
 intro l S J W A C i j P h0;have g:=bp.cy A;have r:=g _ _ _ h1;have o:=g _ _ _ h2;have B:=g _ _ _ h3;have xR:=ef r;refine vdi func27 rfl trivial ?_;simp[vbk];gi_wp2
 have hbA:c6 W ((W.alloc (.cells #[.func (.yield l) #[] #[]] 91)).alloc (.cells #[.I 0] 3)):=((vaa _ W).alloc JR _).alloc AS _;refine aah (n:=n) (gf:=gf) (lb:=lb) (w0:=w0) (n₀:=w0.heap.size) (N:=N) (Row:=Row) rfl qf (oT _) (A.trans (hbA.mono C)) BA S (λb hs=>by have:=i b hs;simp;omega)
  (λt V=>J t V/\ag V W.heap.size #[.func (.yield l) #[] #[]] 91/\ag V (W.heap.size+1) #[.I t] 3/\V.cell? (.a d 0)=some (.I 0)/\V.cell? (.a f 0)=some (.I 9223372036854775807))
  (λt V Z h hk hs=>⟨j _ _ _ h.1 (.qC hk) hs,hk.cells _ _ _ _ h.2.1,hk.cells _ _ _ _ h.2.2.1,Dr hk h.2.2.2.1,Dr hk h.2.2.2.2⟩)
  ⟨j _ _ _ h0 (.qC (.below hbA)) (λb hs=>hbA.block b (i b hs)),(ag.new W _ _).alloc _,by have:=ag.new (W.alloc (.cells #[.func (.yield l) #[] #[]] 91)) #[.I 0] 3;simp_all,Dr (.below hbA) o,Dr (.below hbA) B⟩
  (λt x a' V=>∃k p cw pc q a c,ag V k #[.slice p cw pc,.slice q a c] 77/\x=.agg #[.slice p cw pc,.slice q a c]/\Row t V x/\∃z,a'={tmps:=#[.func (.yield l) #[] #[],.P gF 0,.P d 0,.P f 0,.P W.heap.size 0,.P (W.heap.size+1) 0,.P k 0,.func (.func gf) #[] lb,z,.U,.U,.U,.U,.U,.U,.U,.U,.U,.U,.U,.U,.U,.U,.U,.U],defers:=[]})
  (λt x a' V Z h hk _=>by
   obtain⟨k,p,cw,pc,q,a,c,h1,h2,h3,h4⟩:=h;exact⟨k,p,cw,pc,q,a,c,hk.cells _ _ _ _ h1,h2,AA,h4⟩)
  ?assign ?body ?done
 case assign=>
  rintro l' t x V K- -v hK;obtain⟨p,cw,pc,q,a,c,rfl⟩:=L _ _ _ v;clear r o B h1 h2 h3 A g h0;gi_wp2
  have R:c6 V (V.alloc (.cells #[.slice p cw pc,.slice q a c] 77)):=(vaa _ V).alloc JR _;exact hK _ _ R ⟨V.heap.size,p,cw,pc,q,a,c,ag.new V _ _,rfl,bM _ _ _ _ (.below R) v,_,rfl⟩
 case body=>
  rintro l' t x a' V ⟨y,E,M,I,N6⟩ F ⟨k,p,cw,pc,q,a,c,dD,rfl,v,z,rfl⟩ mG;obtain⟨fn,tmps,assign,body,hy,bn⟩:=P t _ _ y F v mG;obtain⟨dG,d_,eN⟩:=dD.all;obtain⟨lL,oM,px⟩:=E.all;obtain⟨gQ,gG,fx⟩:=M.all;have Q:=ef h2;have T:=ef h3;have kE:Hid _:=@j;have JK:Hid _:=i;have h4:Hid _:=E;have aP:Hid _:=M;have Kg:Hid _:=I;have N7:Hid _:=N6;have m:Hid _:=Q;have H:Hid _:=T;have O:Hid _:=C;have Uj:¬(9223372036854775807:Int)<=(t:Int):=AQ;have Uk:(0:Int)<=(t:Int):=AQ;have aHX:Hid _:=hbA;clear r o B h1 h2 h3 A g h0 P j i E M y Q T hbA C;gi_wp2_with (refine⟨λh=>CI,(apU bn).mono ?_⟩;rintro e s ⟨rfl,X,u,Ul,U⟩;have c4:ag s W.heap.size _ _:=U.cells _ _ _ _ h4.out Jz;have D:ag s (W.heap.size+1) _ _:=U.cells _ _ _ _ aP.out Jv;obtain⟨u1,u2,u3⟩:=D.all)
  have k2:=u.block;have e1:(s.setCell ⟨W.heap.size+1,0,none⟩ (.I (t+1))).cell? (.a d 0)=V.cell? (.a d 0):=vba ((vat _ _ _ _ (by have:=m.out;have:=O.out;grind)).trans (u.block _ m.out));have e2:(s.setCell ⟨W.heap.size+1,0,none⟩ (.I (t+1))).cell? (.a f 0)=V.cell? (.a f 0):=vba ((vat _ _ _ _ AA).trans (u.block _ H.out));refine⟨Ul.trans (vdl _ _ _),u.setCell (by have:=O.out;grind) _,kE.out _ _ _ X (iN.set D (λh=>h Jv) _ _) (λb hs=>vat _ _ _ _ (by have:=JK.out b hs;grind)),c4.fg AS _,?_,e1.trans Kg.out,e2.trans N7.out⟩;have:=D.set 0 (.I (t+1));grind
 case done=>
  rintro V ⟨y,-⟩ hB hK;clear r o B h1 h2 h3;gi_wp2
  refine⟨AS,.inl ⟨_,_,rfl,veb hK,?_⟩⟩;refine⟨.tuple #[],by simp[results,results27,go_sem],⟨_,rfl⟩,j _ _ _ y (.qC (CP hK)) (λb hs=>vap (by have:=i b hs;simp;omega)),((hbA.mono C).trans hB).trans (tn _ BA)⟩
end
def pH(k:Int)(D:Nat->bz)(n:Nat):List Value:=if k=3 then []else(List.range n).map λr=>.I (D r).num
def pI(k:Int)(D:Nat->bz)(n:Nat):List Value:=if k=3 then(List.range n).map λr=>.string (D r).text else []
def tH(D:Nat->bz)(n:Nat):List Value:=(List.range n).map λr=>.bool (D r).bR
def apZ k D n:(pH k D n).length<=n:=by grind[pH]
def ap0 k D n:(pI k D n).length<=n:=by grind[pI]
def ap1 D n:(tH D n).length=n:=by simp[tH]
theorem abE D n:tH D (n+1)=tH D n++[.bool (D n).bR]:=by simp[tH,vdo]
theorem ap2{k}(h:k≠3)D n:pH k D (n+1)=pH k D n++[.I (D n).num]:=by simp[pH,vdo,h]
theorem ap3{k}(h:k=3)D n m:pH k D n=pH k D m:=by simp[pH,h]
theorem ap4{k}(h:k=3)D n:pI k D (n+1)=pI k D n++[.string (D n).text]:=by simp[pI,vdo,h]
theorem ap5{k}(h:k≠3)D n m:pI k D n=pI k D m:=by simp[pI,h]
structure vT(l:g7)(D:Nat->Nat->bz)(m:uas)(L:List fi)(cs:dX):Prop where
 size:cs.size=l.length*5
 zc:∀i(h:i<l.length),∃dA vs bJ,cs[i*5]?=some (.I l[i].1)/\cs[i*5+1]?=some (.I l[i].2)/\cs[i*5+2]?=some dA/\cs[i*5+3]?=some vs/\cs[i*5+4]?=some bJ/\
  L[3*i]?=some ⟨2,dA,pH l[i].1 (D · i) (m i)⟩/\L[3*i+1]?=some ⟨9,vs,pI l[i].1 (D · i) (m i)⟩/\L[3*i+2]?=some ⟨4,bJ,tH (D · i) (m i)⟩
 Du:∀i(h:i<L.length),L[i].e=2\/L[i].e=9\/L[i].e=4
variable{L:List fi}
def N8(h:∀i(h:i<L.length),L[i].e=2\/L[i].e=9\/L[i].e=4)q x(a:x.e=2\/x.e=9\/x.e=4):∀i(h:i<(L.set q x).length),(L.set q x)[i].e=2\/(L.set q x)[i].e=9\/(L.set q x)[i].e=4:=by grind
def xS(m:uas)(i j:Nat):Nat:=if j=i then m j+1 else m j
theorem ap6 m i:xS m i i=m i+1:=by simp[xS]
variable{i:Nat}
def ap7 m{j}(h:j≠i):xS m i j=m j:=by simp[xS,h]
def Um{r}(h:L[i]?=some r):i<L.length:=(vab.1 h).1
theorem vT.xS{l D m}(h:vT l D m L cs)(hi:i<l.length){a b vs c}(v:∀q,q≠3*i->q≠3*i+1->q≠3*i+2->a[q]?=L[q]?)(ht:∀i(h:i<a.length),a[i].e=2\/a[i].e=9\/a[i].e=4)(h0:a[3*i]?=some ⟨2,b,pH l[i].1 (D · i) (m i+1)⟩)(h1:a[3*i+1]?=some ⟨9,vs,pI l[i].1 (D · i) (m i+1)⟩)(h2:a[3*i+2]?=some ⟨4,c,tH (D · i) (m i+1)⟩):
 vT l D (xS m i) a (sw cs i (.I l[i].1) (.I l[i].2) b vs c):=by
 refine⟨by simp[sw];exact h.size,λj r=>?_,ht⟩;by_cases e:j=i
 .subst e;have u:=h.size;obtain⟨g,a1,o,n,f⟩:=aav (cs:=cs) (k:=j) (.I l[j].1) (.I l[j].2) b vs c AQ;grind[ap6]
 .rw[ap7 m e];obtain⟨d,p,wn,g,a1,o,n,f,fO,t,s⟩:=h.zc j r;refine⟨d,p,wn,(xx (i:=0) _ _ _ _ _ e AF).trans g,(xx _ _ _ _ _ e AF).trans a1,(xx _ _ _ _ _ e AF).trans o,(xx _ _ _ _ _ e AF).trans n,(xx _ _ _ _ _ e AF).trans f,?_,?_,?_⟩
  .grind
  .grind
  grind
variable{B:Nat}
def ap8{l D m}(h:vT l D m L cs)(d:fa B w L)(s:B<=w.heap.size)(hi:i<l.length)(A:m i<=1000)(ht:(D (m i) i).text.size<=1000000){f vs q}(h2:cs[i*5+2]?=some f)(h3:cs[i*5+3]?=some vs)(h4:cs[i*5+4]?=some q):
 Calls vfc 30 #[.agg #[.I l[i].1,.I l[i].2,f,vs,q],h8 (D (m i) i)] w λe w'=>∃j n0 b3 a1 n1 c1 a ik bt r,e=.returned (.agg #[.I l[i].1,.I l[i].2,.slice j n0 b3,.slice a1 n1 c1,.slice a ik bt])/\fa B w' r/\
  vT l D (xS m i) r (sw cs i (.I l[i].1) (.I l[i].2) (.slice j n0 b3) (.slice a1 n1 c1) (.slice a ik bt))/\rl L w w':=by
 obtain⟨u,x,wn,j,a1,a,p,o,fO,b,n⟩:=h.zc i hi;rw[h2]at a;cases a;rw[h3]at p;cases p;rw[h4]at o;cases o;obtain⟨z,q0,rfl⟩:=mg (show w.ownsRow B 2 1 f (pH l[i].1 (D · i) (m i)).length _ from d.at fO);obtain⟨y,aZ,rfl⟩:=mg (show w.ownsRow B 9 1 vs (pI l[i].1 (D · i) (m i)).length _ from d.at b);have l0:=apZ l[i].1 (D · i) (m i);have l1:=ap0 l[i].1 (D · i) (m i);have l2:=ap1 (D · i) (m i);have t:=Um fO;have v:=Um b;have E:=Um n;refine(anr d s fO b n l[i].1 l[i].2 (D (m i) i) ht AA).mono ?_;rintro e w' ⟨⟨g,c,cA,C,⟨hk,rfl,k⟩|⟨hk,rfl,k⟩⟩,hF⟩
 .refine⟨_,_,_,_,_,_,_,_,_,_,rfl,k,h.xS hi ?_ ?_ ?_ ?_ ?_,hF⟩
  .grind
  .exact N8 (N8 h.Du _ _ AA) _ _ Jv
  .grind[ap2]
  .grind[ap5]
  grind[abE]
 .refine⟨_,_,_,_,_,_,_,_,_,_,rfl,k,h.xS hi ?_ ?_ ?_ ?_ ?_,hF⟩
  .grind
  .exact N8 (N8 h.Du _ _ AA) _ _ AA
  .grind[ap3]
  .grind[ap4]
  grind[abE]
def N9(h:fa B W L)(d:∀c e z,W.heap[b]?=some (.cells c e z)->∀i(h:i<L.length),L[i].e≠e):iz L b:=by
 intro i hi hg;rcases(h.own i hi).2 with⟨hn,-⟩|⟨g,cap,bq,hv,-,a,-⟩
 .rw[hn]at hg;cases hg
 .rw[hv]at hg;cases hg;grind
variable{w':aR}
def ap9(h:rl L w w')(b:fa B w L):KeepsOthers w w':=
 ⟨h.size,λk o x y=>(h.block k (lR x) (N9 b λc e z a=>by rw[x]at a;cases a;cases y)).trans x⟩
def ap_(h:rl L w w')(a:fa B w L)(d:∀i(h:i<L.length),¬Y L[i].e):iN Y w w':=
 ⟨h.size,λb c e z x y=>(h.block b (lR x) (N9 a AA)).trans x⟩
def aqa(h:rl L w w')(a:fa B w L)(hn:n<=B)(hs:n<=w.heap.size):Below n w w':=
 ⟨h.os,h.tape,h.output,h.size,λk hk=>h.block k AQ (a.ol AA)⟩
end b_
namespace b_
open RowKit
variable{i l n:Nat}{P:cE}{ops:fF}{Q:uao}{K:uae}{a:Act}{w:aR}
def aqc{K':uae}(d:∀(i:Nat)(o:Oper),ops[i]?=some o->∀c,o.op≠ .defer c)(hK:∀a w,K a w->K' a w)(h:wpOpIn Fence.wide n P ops Q i K a w):wpOpIn (Fence.wide.inRound l) n P ops Q i K' a w:=by
 have h:=wpOpIn_mono (λa w=>hK a w) h;unfold wpOpIn at *;cases b:ops[i]? with
 |none=>grind
 |some o=>
  simp only[b]at h⊢;split
  .rename_i e;simp[e]at h;refine⟨h.1,?_⟩;have h2:=h.2;rw[Oper.semAt_eq _ _ _ (d i o b)]at h2⊢;generalize(execOp a.eval o).run P w=r at h2⊢;cases r with|ok x w'=>cases x<;>exact h2|halt x w'=>cases x<;>exact h2
  simp_all
def aqd{md}(b:∀(i:Nat)(o:Oper),ops[i]?=some o->∀c,o.op≠ .defer c):∀(fuel:Nat)(listed:uap)(a:Act)(w:aR),wpAnyIn Fence.wide n P md ops Q fuel listed a w->wpAnyIn (Fence.wide.inRound l) n P md ops Q fuel listed a w:=by intro fuel;induction fuel with|zero=>intro listed a w h;exact h|succ fuel d=>exact λlisted a w h=>⟨h.1,λi hi=>aqc b AA (h.2 i hi)⟩
def abH:Op->Bool
 | .defer _=>true
 | _=>false
def abI{id}(b:P.follows .mixedOrders=true)(hd:(ops.all λo=> !abH o.op)=true)(h:wpAnyIn Fence.wide n P .any ops Q ops.size (Array.replicate ops.size false) a w.drew):(Code.region id ops true).wpIn (Fence.wide.inRound l) n P Q a w:=
 wpIn_region_any b (aqd (λi o d c e=>by
  grind[abH]) _ _ _ _ h)
def oz(C:aR->Prop)(n:Nat)(P:cE)(ops:fF)(Q:uao):Nat->Array Bool->Act->aR->Prop
 |0,listed,a,w=>Region.ready .any ops listed=[]/\Q .normal a w
 |fuel+1,listed,a,w=>(Region.ready .any ops listed=[]->Q .normal a w)/\∀i∈Region.ready .any ops listed,wpOpIn Fence.wide n P ops Q i (λa' w'=>C w'/\oz C n P ops Q fuel (listed.setIfInBounds i true) a' w') a w
variable{C:aR->Prop}
def uP:∀(fuel:Nat)(listed:uap)(a:Act)(w:aR),oz C n P ops Q fuel listed a w->wpAnyIn Fence.wide n P .any ops Q fuel listed a w:=by intro fuel;induction fuel with|zero=>intro listed a w h;exact h|succ fuel b=>exact λlisted a w h=>⟨h.1,λi hi=>wpOpIn_mono AA (h.2 i hi)⟩
def tI(C:aR->Prop)(P:cE)(ops:fF)(o:Oper)(v:Value)(a:Act):Prop:=
 vfe o ops a.tmps=true/\(∀w,C w->(execOp a.eval o).run P w=.ok (.value v) w)/\(∀c,o.op≠ .defer c)/\∀w,o.about P w a.eval=none
variable{o:Oper}{v:Value}
def tI.op(hi:ops[i]?=some o)(b:tI C P ops o v a)(d:C w)(h:K (a.put o.dst v) w):wpOpIn Fence.wide n P ops Q i K a w:=by unfold wpOpIn;simp[hi,b.1,Oper.wpIn,Oper.semAt_eq _ _ _ b.2.2.1,b.2.1 w d,Oper.uponIn];exact⟨λf c=>(by rw[b.2.2.2 w]at c;cases c),h⟩
theorem tI.put(c:tI C P ops o v a)(hs:∀cs b,o.op≠ .select cs b){d}u(h3:∀t,d=some t->t ∉ o.looksAt ops):tI C P ops o v (a.put d u):=
 ⟨(wanted_put o a d u h3).trans c.1,λw e=>by rw[execOp_put o hs a d u h3];exact c.2.1 w e,c.2.2.1,λw=>by rw[about_put o w a d u h3];exact c.2.2.2 w⟩
variable{cX:Oper}
def aqe{j oj}(i:ops[j]?=some oj)(m:cX.apart ops oj=true)(o:∀cs b,cX.op≠ .select cs b)(l:∀cs b,oj.op≠ .select cs b)(p:∀c a w,Q (.panic c) (a.put cX.dst v) w->Q (.panic c) a w)(e:tI C P ops cX v a)(h:wpOpIn Fence.wide n P ops Q j K (a.put cX.dst v) w):
 wpOpIn Fence.wide n P ops Q j (λa' w'=>tI C P ops cX v a'/\K (a'.put cX.dst v) w') a w:=by
 obtain⟨h1,h2,h3⟩:=Oper.apart_spec m;have keep:∀(a:Act),tI C P ops cX v a->∀u,tI C P ops cX v (a.put oj.dst u):=λa e u=>e.put o u h3;have k:∀d,tI C P ops cX v {a with defers:=d::a.defers}:=λd=>⟨e.1,e.2.1,e.2.2.1,e.2.2.2⟩;unfold wpOpIn at *;simp only[i]at *;rw[wanted_put oj a cX.dst v h1,about_put oj w a cX.dst v h1]at h;split
 .rename_i g;simp[g]at h;unfold Oper.wpIn at *;rw[about_put oj w a cX.dst v h1]at h;refine⟨h.1,?_⟩;have h:=h.2;have e0:Fence.wide.round=none:=rfl;rw[e0,Oper.semAt_none,execOp_put oj l a cX.dst v h1]at h;rw[e0,Oper.semAt_none];generalize(execOp a.eval oj).run P w=r at *;cases r with
  |ok x w'=>
   cases x<;>simp only[Oper.uponIn]at h⊢
   case value u=>grind[Act.put_comm]
   case skip=>grind[Act.put_comm]
   case defer d=>
    grind[Act.put_comm,Act.put_defers]
   case enter f args=>
    grind[CallsIn.mono,Act.put_comm]
   case row row args=>grind[Act.put_comm]
   grind[RoundIn.mono,Act.put_comm]
  |halt x w'=>
   cases x<;>simp only[Oper.uponIn]at h⊢
   grind
 grind[Act.put_comm]
def aqf(hi:ops[i]?=some cX)(t:∀(j:Nat)(o:Oper) cs b,ops[j]?=some o->o.op≠ .select cs b)(p:∀c a w,Q (.panic c) (a.put cX.dst v) w->Q (.panic c) a w):
 ∀(fuel:Nat)(listed:uap)(a:Act)(w:aR),
  (∀j oj,ops[j]?=some oj->j≠i->listed.getD j true=false->(∀e∈oj.after,Region.binds .any e=true->e.on≠i)->cX.apart ops oj=true)->
  i∈Region.ready .any ops listed->tI C P ops cX v a->C w->oz C n P ops Q fuel (listed.setIfInBounds i true) (a.put cX.dst v) w->oz C n P ops Q (fuel+1) listed a w:=by
 intro fuel;induction fuel with
 |zero=>
  intro listed a w _ m g f H;refine⟨AA,λj h=>?_⟩;by_cases d:j=i
  .subst d;exact g.op hi f ⟨f,H⟩
  .have:=ready_mono h d;rw[H.1]at this;grind
 |succ fuel q=>
  intro listed a w y m g f H;refine⟨AA,λj h=>?_⟩;by_cases d:j=i
  .subst d;exact g.op hi f ⟨f,H⟩
  .have h1:=H.2 j (ready_mono h d);obtain⟨s,oj,x,E⟩:=mem_ready.1 h;have A:∀e∈oj.after,Region.binds .any e=true->e.on≠i:=λe B D r=>by grind[mem_ready]
   have h2:=aqe x AA AA AA p g h1;have u:∀k ok,ops[k]?=some ok->k≠i->(listed.setIfInBounds j true).getD k true=false->(∀e∈ok.after,Region.binds .any e=true->e.on≠i)->cX.apart ops ok=true:=λk ok hk z I l=>by
    refine y k ok hk z ?_ l;by_cases F:j=k
    .grind
    simp_all
   refine wpOpIn_mono (λa' w' h3=>⟨h3.2.1,q (listed.setIfInBounds j true) a' w' u (ready_mono m (Ne.symm d)) h3.1 h3.2.1 ?_⟩) h2;grind[Array.setIfInBounds_comm]
variable{fuel:Nat}
def c0{listed:uap}(hi:ops[i]?=some cX)(hs:Region.noSelect ops=true)(e:Region.free .any ops listed i=true)(g:(Region.ready .any ops listed).contains i=true)(b:∀c a w,Q (.panic c) (a.put cX.dst v) w->Q (.panic c) a w)(f:C w)(d:tI C P ops cX v a)(h:oz C n P ops Q fuel (listed.setIfInBounds i true) (a.put cX.dst v) w):oz C n P ops Q (fuel+1) listed a w:=
 aqf hi (Region.noSelect_spec hs) b fuel listed a w (Region.free_spec hi e) AA d f h
def fc{listed:uap}(b:Region.ready .any ops listed=[i])(c:ops[i]?=some o)(h:∀K':Act->aR->Prop,(∀a w,C w->oz C n P ops Q fuel (listed.setIfInBounds i true) a w->K' a w)->if Region.wanted o (yielded ops a.tmps)=true then Oper.wpIn Fence.wide n P o a w K' Q else(∀f,o.about P w a.eval=some f->Fence.wide.fn f)/\K' (a.put o.dst undef) w):oz C n P ops Q (fuel+1) listed a w:=
 ⟨AA,by
  rw[b];intro j d;cases vdr.1 d;exact wpOpIn_step c λK' hK=>h K' AA⟩
def uQ{listed:uap}(b:Region.ready .any ops listed=[])(h:Q .normal a w):∀fuel,oz C n P ops Q fuel listed a w
 |0=>⟨b,h⟩
 | _+1=>⟨λ_=>h,AA⟩
end b_
namespace bd
open RowKit av b_
def yE u:(ae prog u).funcs[(149:Nat)]?=some f149:=bb (upd:=u) func149 A8
@[simp] theorem aJ6 (u:Bool) (args:dX) (w:aR):Sem.run (ae prog u) (callFunc 149 args) w=.ok (.enter 149 args) w:=cR (yE u) A8 args w
theorem yB u:(ae prog u).funcs[(150:Nat)]?=some f150:=bb (upd:=u) func150 A8
@[simp] theorem aJ7 (u:Bool) (args:dX) (w:aR):Sem.run (ae prog u) (callFunc 150 args) w=.ok (.enter 150 args) w:=cR (yB u) A8 args w
theorem Xa u:(ae prog u).funcs[(135:Nat)]?=some f135:=bb (upd:=u) func135 A8
@[simp] theorem aJ8 (u:Bool) (args:dX) (w:aR):Sem.run (ae prog u) (callFunc 135 args) w=.ok (.enter 135 args) w:=cR (Xa u) A8 args w
theorem Xb u:(ae prog u).funcs[(136:Nat)]?=some f136:=bb (upd:=u) func136 A8
@[simp] theorem aJ9 (u:Bool) (args:dX) (w:aR):Sem.run (ae prog u) (callFunc 136 args) w=.ok (.enter 136 args) w:=cR (Xb u) A8 args w
theorem yw u:(ae prog u).funcs[(134:Nat)]?=some f134:=bb (upd:=u) func134 A8
@[simp] theorem aJ_ (u:Bool) (args:dX) (w:aR):Sem.run (ae prog u) (callFunc 134 args) w=.ok (.enter 134 args) w:=cR (yw u) A8 args w
theorem yv u:(ae prog u).funcs[(119:Nat)]?=some f119:=bb (upd:=u) func119 A8
@[simp] theorem aKa (u:Bool) (args:dX) (w:aR):Sem.run (ae prog u) (callFunc 119 args) w=.ok (.enter 119 args) w:=cR (yv u) A8 args w
def Iw(a b:Int):Int:=if a<b then -1 else if b<a then 1 else 0
def Ix(a b:ByteArray):Int:=if Op.bytesLess a.toList b.toList then -1 else if !Op.bytesLess a.toList b.toList&& !(a.toList==b.toList)then 1 else 0
variable{u:Bool}
def yj(a:Int)(w:aR):Calls (ae prog u) 149 #[.I a] w λe w'=>e=.returned (.F)/\w'=w:=by
 go_enter (yE u),ntmps149
 go_wp2
 go_ret
 simp
def yh(a:ByteArray)(w:aR):Calls (ae prog u) 150 #[.string a] w λe w'=>e=.returned (.F)/\w'=w:=by
 go_enter (yB u),ntmps150
 go_wp2
 go_ret
 simp
def az3(a b:Int)(w:aR):Calls (ae prog u) 135 #[.I a,.I b] w λe w'=>e=.returned (.I (Iw a b))/\w'=w:=by
 unfold Iw;by_cases h1:a<b
 .simp only[h1,vcx];go_enter (Xa u),ntmps135
  go_wp2_with (go_at_call 149;refine(yj _ _).mono ?_;rintro e w' ⟨rfl,rfl⟩)
  go_ret
  simp
 .by_cases h2:b<a;focus
   simp only[h1,h2,vcx,vcr]
  rotate_left
  focus
   simp only[h1,h2,vcr]
  rotate_left
  all_goals
   go_enter (Xa u),ntmps135
   go_wp2_with (go_at_call 149;refine(yj _ _).mono ?_;rintro e w' ⟨rfl,rfl⟩)
   go_ret
   simp
def az4(a b:ByteArray)(w:aR):Calls (ae prog u) 136 #[.string a,.string b] w λe w'=>e=.returned (.I (Ix a b))/\w'=w:=by
 unfold Ix;by_cases h1:Op.bytesLess a.toList b.toList=true
 .simp only[h1,vcx];go_enter (Xb u),ntmps136
  go_wp2_with (go_at_call 150;refine(yh _ _).mono ?_;rintro e w' ⟨rfl,rfl⟩)
  go_ret
  simp
 .have h1:Op.bytesLess a.toList b.toList=false:=by grind
  by_cases h2:(a.toList==b.toList)=true;focus
   simp only[h1,h2,Bool.not_true,Bool.and_false,vah,vcr]
  rotate_left
  focus
   have h2:(a.toList==b.toList)=false:=AA;simp only[h1,h2,Bool.not_false,Bool.and_true,vah,vcr,vcx]
  rotate_left
  all_goals
   go_enter (Xb u),ntmps136
   go_wp2_with (go_at_call 150;refine(yh _ _).mono ?_;rintro e w' ⟨rfl,rfl⟩)
   go_ret
   simp
def LQ(x y:Int):Int:=if x≠0 then x else y
def az5(b:Nat)(x y:Int)(w:aR)(h0:w.cell? (.a b 0)=some (.I x))(h1:w.cell? (.a b 1)=some (.I y)):Calls (ae prog u) 134 #[.S b 0 2 2] w λe w'=>e=.returned (.I (LQ x y))/\w'=w:=by
 unfold LQ;have d:=ef h0;go_enter (yw u),ntmps134
 go_wp2
 go_loopw [8] (λi W=>∃k:Nat,k<=2/\i=.I (k:Int)/\W=w/\(1<=k->x=0)/\(k=2->y=0)) (λi _=>2-(intOf i).toNat)
 case atStart=>grind
 case round=>
  obtain⟨k,hk,rfl,rfl,a,c⟩:=hrel;obtain rfl|rfl|rfl:k=0\/k=1\/k=2:=AQ
  .by_cases a:x=0
   .subst a;go_wp2
    go_roundw
    case rel=>grind
    case measure=>simp[intOf]
   .go_wp2
    go_ret
    simp
  .obtain rfl:=a AQ;by_cases c:y=0
   .subst c;go_wp2
    go_roundw
    case rel=>grind
    case measure=>simp[intOf]
   .go_wp2
    go_ret
    simp
  .obtain rfl:=a AQ;obtain rfl:=c Y;go_wp2
   go_ret
   simp
def m3(l r:bz):Int:=LQ (Iw l.num r.num) (Ix l.text r.text)
def yg(l r:bz)(w:aR):Calls (ae prog u) 119 #[h8 l,h8 r] w λe w'=>e=.returned (.I (m3 l r))/\c6 w w':=by
 obtain⟨f,a,ls,lt⟩:=l;obtain⟨g,b,rs,rt⟩:=r;unfold m3;simp only;go_enter (yv u),ntmps119
 go_upto_region 1 with fail
 have p:=(ag.new w #[.bool f,.I a,.I ls,.string lt] 94).alloc (.cells #[.bool g,.I b,.I rs,.string rt] 94);have m:=ag.new (w.alloc (.cells #[.bool f,.I a,.I ls,.string lt] 94)) #[.bool g,.I b,.I rs,.string rt] 94;have q:Hid (c6 w ((w.alloc (.cells #[.bool f,.I a,.I ls,.string lt] 94)).alloc (.cells #[.bool g,.I b,.I rs,.string rt] 94)).drew):=(((vaa _ w).alloc JR _).alloc AS _).drew;have s:Hid (((w.alloc (.cells #[.bool f,.I a,.I ls,.string lt] 94)).alloc (.cells #[.bool g,.I b,.I rs,.string rt] 94)).heap.size=w.heap.size+1+1):=by unfold Hid;simp
 simp only[ved]at m;have HC:Hid (ag ((w.alloc (.cells #[.bool f,.I a,.I ls,.string lt] 94)).alloc (.cells #[.bool g,.I b,.I rs,.string rt] 94)).drew w.heap.size #[.bool f,.I a,.I ls,.string lt] 94/\ag ((w.alloc (.cells #[.bool f,.I a,.I ls,.string lt] 94)).alloc (.cells #[.bool g,.I b,.I rs,.string rt] 94)).drew (w.heap.size+1) #[.bool g,.I b,.I rs,.string rt] 94):=⟨p,m⟩;clear p m;generalize(w.alloc (.cells #[.bool f,.I a,.I ls,.string lt] 94)).alloc (.cells #[.bool g,.I b,.I rs,.string rt] 94)=t at *;refine wpIn_wide.1 (wpIn_region_any (n:=0) AB (uP (C:=λW=>ag W w.heap.size #[.bool f,.I a,.I ls,.string lt] 94/\ag W (w.heap.size+1) #[.bool g,.I b,.I rs,.string rt] 94) _ _ _ _ ?_));refine c0 (i:=0) (v:=.P w.heap.size 1) Y AB AB AB Jf HC.out ⟨Ao,λW d=>Ak,(λc h=>nomatch h),λ_=>Y⟩ ?_;refine c0 (i:=2) (v:=.P (w.heap.size+1) 1) Y AB AB AB Jf HC.out ⟨Ao,λW d=>Ak,(λc h=>nomatch h),λ_=>Y⟩ ?_;refine c0 (i:=5) (v:=.P w.heap.size 3) Y AB AB AB Jf HC.out ⟨Ao,λW d=>Ak,(λc h=>nomatch h),λ_=>Y⟩ ?_;refine c0 (i:=7) (v:=.P (w.heap.size+1) 3) Y AB AB AB Jf HC.out ⟨Ao,λW d=>Ak,(λc h=>nomatch h),λ_=>Y⟩ ?_;refine c0 (i:=1) (v:=.I a) Y AB AB AB Jf HC.out ⟨Ao,λW d=>by obtain⟨o,k,j⟩:=d.1.all;go_simp,(λc h=>nomatch h),λ_=>Y⟩ ?_;refine c0 (i:=3) (v:=.I b) Y AB AB AB Jf HC.out ⟨Ao,λW d=>by obtain⟨o,k,j⟩:=d.2.all;go_simp,(λc h=>nomatch h),λ_=>Y⟩ ?_;refine c0 (i:=6) (v:=.string lt) Y AB AB AB Jf HC.out ⟨Ao,λW d=>by obtain⟨o,k,j⟩:=d.1.all;go_simp,(λc h=>nomatch h),λ_=>Y⟩ ?_;refine c0 (i:=8) (v:=.string rt) Y AB AB AB Jf HC.out ⟨Ao,λW d=>by obtain⟨o,k,j⟩:=d.2.all;go_simp,(λc h=>nomatch h),λ_=>Y⟩ ?_;refine fc (i:=4) AB Y λK hK=>?_;go_simp
 refine⟨NE,Y,(callsIn_wide.2 (az3 _ _ _)).mono ?_⟩;rintro e w' ⟨rfl,rfl⟩;refine hK _ _ HC.out ?_;clear hK K;refine fc (i:=9) AB Y λK hK=>?_;go_simp
 refine⟨NE,Y,(callsIn_wide.2 (az4 _ _ _)).mono ?_⟩;rintro e w' ⟨rfl,rfl⟩;refine hK _ _ HC.out ?_;clear hK K;refine fc (i:=10) AB Y λK hK=>?_;go_simp
 refine hK _ _ ⟨HC.out.1.alloc _,HC.out.2.alloc _⟩ ?_;clear hK K;refine fc (i:=11) AB Y λK hK=>?_;go_simp
 refine⟨NE,Y,(callsIn_wide.2 (az5 _ (Iw a b) (Ix lt rt) _ Ak Ak)).mono ?_⟩;rintro e w' ⟨rfl,rfl⟩;refine hK _ _ ⟨HC.out.1.alloc _,HC.out.2.alloc _⟩ ?_;clear hK K;refine fc (i:=12) AB Y λK hK=>?_;go_simp
 refine hK _ _ ⟨HC.out.1.alloc _,HC.out.2.alloc _⟩ ?_;clear hK K;refine uQ AB ?_ _;go_wp2
 go_ret
 exact⟨Y,q.out.alloc q.out.size _⟩
