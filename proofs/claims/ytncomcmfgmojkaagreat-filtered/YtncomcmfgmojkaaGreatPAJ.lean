import Derived.Conc.CompanyDraw
import Derived.Test.YtncomcmfgmojkaaGreatPAE
set_option linter.all false
set_option maxRecDepth 100000
set_option maxHeartbeats 16000000
namespace Go.Proofs.YtncomcmfgmojkaaGreat
open Go.Proofs.Tryz
namespace hZ
open Conc av bn ah
structure cR(Z:eY) where
 l:Z.Lo
 mine:Nat->Prop
 S:aO->Z.aN->Prop
variable{i n:Nat}{a:Act}{v:Value}
section
variable{Z:eY}{Q:cg}{Stop:Bool->Z.Lo->aV->Prop}{m:Bool}{b:Frame}{k:List Item}{cs:List Frame}{ops:Array Oper}{md:Region.Mode}
def rV(σ:cR Z):Prop:=∀w γ w' aj g,σ.S w γ->Z.dY σ.l γ aj->dO Z σ.l aj ⟨g,w,σ.mine⟩ w'->σ.S w' aj
def alb(σ:cR Z)(γ:Z.aN)(w' w1:aO)(es:Array Event)(bY:cR Z):Prop:=
 bY.mine=grown σ.mine w' w1/\kW Z σ.mine w' w1/\
 ((bY.l=σ.l/\bY.S w1 γ/\(∀b,b<w'.heap.size->Z.gG b->w1.heap[b]?=w'.heap[b]?)/\oy Z σ.l (grown σ.mine w' w1) (Z.deaf σ.l) es.toList/\¬ ∃e∈es,vN Z e)\/
  (∃bx,bY.S w1 bx/\(∃e∈es,vN Z e)/\Z.sY bx w1/\Bn Z σ.l γ bY.l bx/\Says Z σ.l bY.l (grown σ.mine w' w1) es/\(∀kl,Z.nU kl γ->Z.nU kl bx)/\¬Z.Left bY.l))
variable(Q Stop m b k cs ops) in
def rW(todo:List Nat)(σ:cR Z)(a:Act):Prop:=∀w γ,σ.S w γ->bh Z Q Stop m σ.l γ ⟨G (b.at a (.inRegion ops todo::k)) cs,w,σ.mine⟩
variable(Q b) in
def Bz(o:Oper)(σ:cR Z)(a:Act)(K:cR Z->Act->Prop):Prop:=
 ∀w γ w' aj g,σ.S w γ->Z.dY σ.l γ aj->dO Z σ.l aj ⟨g,w,σ.mine⟩ w'->∃u w1 bY,((execOp a.eval o).run Q w'=.ok (.value u) w1\/((execOp a.eval o).run Q w'=.ok .skip w1/\u=undef))/\alb σ aj w' w1 (listed Q b.fn a o w') bY/\K bY (a.put o.dst u)
variable(Q Stop m) in
def i_(f:FuncId)(args:Array Value)(σ:cR Z)(V:Value->cR Z->Prop):Prop:=
 ∀(a2:Frame)(aF:Act)(aD:Array Oper)(aI:Nat)(aL:List Nat)(aH:List Item)(csZ:List Frame),
  (∀u bY,V u bY->∀w γ,bY.S w γ->bh Z Q Stop m bY.l γ ⟨G (a2.at (aF.put ((aD[aI]?).bind (·.dst)) u) (.inRegion aD aL::aH)) csZ,w,bY.mine⟩)->
  ∀w γ,σ.S w γ->bh Z Q Stop m σ.l γ ⟨G (Frame.enter Q f args .normal) (a2.at aF (.inRegion aD (aI::aL)::aH)::csZ),w,σ.mine⟩
variable(Q Stop m b) in
def RI(o:Oper)(σ:cR Z)(a:Act)(K:cR Z->Act->Prop):Prop:=
 ∃f args V,(∀w γ w' aj g,σ.S w γ->Z.dY σ.l γ aj->dO Z σ.l aj ⟨g,w,σ.mine⟩ w'->(execOp a.eval o).run Q w'=.ok (.enter f args) w'/\oy Z σ.l σ.mine (Z.deaf σ.l) (listed Q b.fn a o w').toList/\¬ ∃e∈listed Q b.fn a o w',vN Z e)/\i_ Q Stop m f args σ V/\∀u bY,V u bY->K bY (a.put o.dst u)
variable(Q Stop m b ops) in
def nW(i:Nat)(σ:cR Z)(a:Act)(K:cR Z->Act->Prop):Prop:=
 match ops[i]? with
 |none=>False
 |some o=>if Region.wanted o (yielded ops a.tmps)then Bz Q b o σ a K\/RI Q Stop m b o σ a K else K σ (a.put o.dst undef)
theorem nW.mono{σ:cR Z}{K K':cR Z->Act->Prop}(h:nW Q Stop m b ops i σ a K)(hk:∀σ a,K σ a->K' σ a):nW Q Stop m b ops i σ a K':=by
 unfold nW at *;split
 .simp_all
 .rename_i o e;simp[e]at h;split
  .rename_i d;simp[d]at h;rcases h with h|⟨f,args,V,h1,c,h3⟩
   .refine .inl λw γ w' j g h1 c h3=>?_;obtain⟨u,w1,n,r1,l,k⟩:=h w γ w' j g h1 c h3;grind
   .exact .inr ⟨f,args,V,h1,c,AA⟩
  grind
def alc(p:∀l g g1,¬Z.ox l g g1)(hk:b.kind≠ .early){rest:List Nat}{σ:cR Z}(hst:rV σ)(h:nW Q Stop m b ops i σ a (λn a1=>rW Q Stop m b k cs ops rest n a1)):rW Q Stop m b k cs ops (i::rest) σ a:=by
 intro w γ hS;unfold nW at h;split at h
 .grind
 .rename_i o x;split at h
  .rename_i v;refine bh.mk Y λw' c d j=>?_;rcases h with h|⟨f,args,V,h1,J,h3⟩;rotate_left
   .obtain⟨r1,M,C⟩:=h1 w γ w' c _ hS d j;refine .quiet (stepG_enter x v hk r1) ⟨Y,ra _ _ _,AA,by grind[kX],λe=>e.elim C (p _ _ _)⟩ ?_;rw[kX Y];refine J b a ops i rest k cs (λu n H z B L=>?_) w' c (hst w γ w' c _ hS d j);have:=h3 u n H z B L;grind
   obtain⟨u,w1,n,hrun,⟨O,t,I⟩,hK⟩:=h w γ w' c _ hS d j;have hs:stepG Q m (G (b.at a (.inRegion ops (i::rest)::k)) cs) w'=.go (G (b.at (a.put o.dst u) (.inRegion ops rest::k)) cs) w1 (listed Q b.fn a o w'):=by grind[stepG_value,stepG_none]
   rcases I with⟨P,s,K,E,q⟩|⟨bx,s,F,D,y,r,A,N⟩
   .refine .quiet hs ⟨Y,t,K,E,λe=>e.elim q (p _ _ _)⟩ ?_;have:=hK w1 c s;grind
   .refine .turn hs ⟨Y,.inl F,t,D,y,r,.inr A⟩ AA ?_;have:=hK w1 bx s;grind
  .rename_i v;refine bh.mk Y λw' c d j=>?_;have hs:stepG Q m (G (b.at a (.inRegion ops (i::rest)::k)) cs) w'=.go (G (b.at (a.put o.dst undef) (.inRegion ops rest::k)) cs) w' #[]:=stepG_unwanted x AA;refine .quiet hs ⟨Y,ra _ _ _,AA,PA,λe=>e.elim AA (p _ _ _)⟩ ?_;rw[kX Y];exact h w' c (hst w γ w' c _ hS d j)
variable(Q Stop m b md ops) in
def rb(C:cR Z->Prop)(hN:cR Z->Act->Prop):Nat->Array Bool->cR Z->Act->Prop
 |0,au,σ,a=>Region.ready md ops au=[]/\hN σ a
 |n+1,au,σ,a=>(Region.ready md ops au=[]->hN σ a)/\∀i∈Region.ready md ops au,nW Q Stop m b ops i σ a (λbY a1=>C bY/\rb C hN n (au.setIfInBounds i true) bY a1)
def ale(f:∀l g g1,¬Z.ox l g g1)(hk:b.kind≠ .early){C:cR Z->Prop}(j:∀σ,C σ->rV σ){hN:cR Z->Act->Prop}(hK:∀σ a,C σ->hN σ a->rW Q Stop m b k cs ops [] σ a):
 ∀(n t:Nat)(au:Array Bool)(σ:cR Z)(a:Act),C σ->rb Q Stop m b ops md C hN n au σ a->rW Q Stop m b k cs ops (Region.linearise.go md ops n t au []) σ a:=by
 intro n;induction n with
 |zero=>intro t au σ a d h;simpa[Region.linearise.go]using hK σ a d h.2
 |succ n p=>
  intro t au σ a d h;obtain⟨e,c⟩:=h;simp only[Region.linearise.go];change rW Q Stop m b k cs ops (match(Region.ready md ops au)[t % (Region.ready md ops au).length]? with
   |some i=>Region.linearise.go md ops n (t / (Region.ready md ops au).length) (au.setIfInBounds i true) [i]
   |none=>[].reverse) σ a
  cases hi:(Region.ready md ops au)[t % (Region.ready md ops au).length]? with
  |none=>
   have o:Region.ready md ops au=[]:=by cases q:Region.ready md ops au with|nil=>rfl|cons x xs=>grind[Nat.mod_lt]
   grind
  |some i=>simp only[];rw[linearise_go_acc,List.reverse_singleton,List.singleton_append];exact alc f hk (j σ d) ((c i (List.mem_of_getElem? hi)).mono AA)
variable(Q b ops) in
def nj(C:cR Z->Prop)(o:Oper)(v:Value)(a:Act):Prop:=
 (Region.wanted o (yielded ops a.tmps)=true/\∀σ,C σ->∀w γ w' aj g,σ.S w γ->Z.dY σ.l γ aj->dO Z σ.l aj ⟨g,w,σ.mine⟩ w'->(execOp a.eval o).run Q w'=.ok (.value v) w'/\oy Z σ.l σ.mine (Z.deaf σ.l) (listed Q b.fn a o w').toList/\¬ ∃e∈listed Q b.fn a o w',vN Z e)\/
 (Region.wanted o (yielded ops a.tmps)=false/\v=undef)
def nj.L6{C:cR Z->Prop}{o:Oper}{a':Act}(c:nj Q b ops C o v a)(e:execOp a'.eval o=execOp a.eval o)(d:Region.wanted o (yielded ops a'.tmps)=Region.wanted o (yielded ops a.tmps)):nj Q b ops C o v a':=by
 grind[nj,listed]
def nj.YK{C:cR Z->Prop}{o:Oper}{σ:cR Z}(hi:ops[i]?=some o)(j:nj Q b ops C o v a)(l:C σ)(hst:rV σ){K:cR Z->Act->Prop}(h:K σ (a.put o.dst v)):nW Q Stop m b ops i σ a K:=by
 unfold nW;simp[hi];rcases j with⟨c,k⟩|⟨c,rfl⟩
 .simp[c];refine .inl λw γ w' e g h1 d h3=>?_;obtain⟨r1,n,f⟩:=k σ l w γ w' e g h1 d h3;have hg:grown σ.mine w' w'=σ.mine:=kX Y;exact⟨v,w',σ,.inl r1,⟨hg.symm,ra _ _ _,.inl ⟨Y,hst w γ w' e g h1 d h3,AA,AA,f⟩⟩,h⟩
 grind
def alg{C:cR Z->Prop}{j:Nat}{cu oj:Oper}(x:ops[j]?=some oj)(y:cu.apart ops oj=true)(o:∀cs b,cu.op≠ .select cs b)(n:∀cs b,oj.op≠ .select cs b){K:cR Z->Act->Prop}{σ:cR Z}(c:nj Q b ops C cu v a)(h:nW Q Stop m b ops j σ (a.put cu.dst v) K):
 nW Q Stop m b ops j σ a (λi a1=>nj Q b ops C cu v a1/\K i (a1.put cu.dst v)):=by
 obtain⟨h1,B,h3⟩:=Oper.apart_spec y;have keep:∀(a:Act),nj Q b ops C cu v a->∀u,nj Q b ops C cu v (a.put oj.dst u):=λa c u=>
  c.L6 (execOp_put cu o a oj.dst u h3) (wanted_put cu a oj.dst u h3)
 unfold nW at *;simp only[x]at *;rw[wanted_put oj a cu.dst v h1]at h;split
 .rename_i t;simp[t]at h;rcases h with h|⟨f,args,V,d,e,l⟩
  .refine .inl λw γ w' k g d e l=>?_;obtain⟨u,w1,i,r1,p,z⟩:=h w γ w' k g d e l;unfold listed at *;rw[execOp_put oj n a cu.dst v h1]at r1 p;grind[Act.put_comm]
  .refine .inr ⟨f,args,V,λw γ w' k g s r q=>?_,e,λu i A=>⟨keep a c u,by grind[Act.put_comm]⟩⟩;have r1:=d w γ w' k g s r q;unfold listed at *;rw[execOp_put oj n a cu.dst v h1]at r1;exact r1
 grind[Act.put_comm]
def alh{C:cR Z->Prop}(p:∀σ,C σ->rV σ){hN:cR Z->Act->Prop}{cu:Oper}(hi:ops[i]?=some cu)(F:∀(j:Nat)(o:Oper) cs b,ops[j]?=some o->o.op≠ .select cs b):
 ∀(n:Nat)(au:Array Bool)(σ:cR Z)(a:Act),
  (∀j oj,ops[j]?=some oj->j≠i->au.getD j true=false->(∀e∈oj.after,Region.binds md e=true->e.on≠i)->cu.apart ops oj=true)->
  i∈Region.ready md ops au->nj Q b ops C cu v a->C σ->
  rb Q Stop m b ops md C hN n (au.setIfInBounds i true) σ (a.put cu.dst v)->rb Q Stop m b ops md C hN (n+1) au σ a:=by
 intro n;induction n with
 |zero=>
  intro au σ a _ l f c H;refine⟨AA,λj g=>?_⟩;by_cases d:j=i
  .subst d;exact f.YK hi c (p σ c) ⟨c,H⟩
  .have:=ready_mono g d;rw[H.1]at this;grind
 |succ n q=>
  intro au σ a y l f c H;refine⟨AA,λj g=>?_⟩;by_cases d:j=i
  .subst d;exact f.YK hi c (p σ c) ⟨c,H⟩
  .have h1:=H.2 j (ready_mono g d);obtain⟨u,oj,x,E⟩:=mem_ready.1 g;have A:∀e∈oj.after,Region.binds md e=true->e.on≠i:=λe B D r=>by grind[mem_ready]
   have s:=alg x AA AA AA f h1;have w:∀k ok,ops[k]?=some ok->k≠i->(au.setIfInBounds j true).getD k true=false->
    (∀e∈ok.after,Region.binds md e=true->e.on≠i)->cu.apart ops ok=true:=λk ok hk z J h=>by
    refine y k ok hk z ?_ h;by_cases I:j=k
    .grind
    simp_all
   refine s.mono λt a1 h3=>⟨h3.2.1,q (au.setIfInBounds j true) t a1 w (ready_mono l (Ne.symm d)) h3.1 h3.2.1 ?_⟩;grind[Array.setIfInBounds_comm]
def ja{C:cR Z->Prop}(f:∀σ,C σ->rV σ){hN:cR Z->Act->Prop}{cu:Oper}{au:Array Bool}{σ:cR Z}(hi:ops[i]?=some cu)(hs:Region.noSelect ops=true)(d:Region.free md ops au i=true)(g:(Region.ready md ops au).contains i=true)(c:nj Q b ops C cu v a)(e:C σ)(h:rb Q Stop m b ops md C hN n (au.setIfInBounds i true) σ (a.put cu.dst v)):rb Q Stop m b ops md C hN (n+1) au σ a:=
 alh f hi (Region.noSelect_spec hs) n au σ a (Region.free_spec hi d) AA c e h
def RP{C:cR Z->Prop}{hN:cR Z->Act->Prop}{rs:List Nat}{au:Array Bool}{σ:cR Z}(d:Region.ready md ops au=rs)(e:rs≠[])(h:∀i∈rs,nW Q Stop m b ops i σ a (λc a1=>C c/\rb Q Stop m b ops md C hN n (au.setIfInBounds i true) c a1)):rb Q Stop m b ops md C hN (n+1) au σ a:=
 ⟨AA,d▸h⟩
def BB{C:cR Z->Prop}{hN:cR Z->Act->Prop}{au:Array Bool}{σ:cR Z}(c:Region.ready md ops au=[])(h:hN σ a):∀n,rb Q Stop m b ops md C hN n au σ a
 |0=>⟨c,h⟩
 | _+1=>⟨λ_=>h,AA⟩
def BC(i:∀l g g1,¬Z.ox l g g1)(hk:b.kind≠ .early)(p:Q.follows .mixedOrders=true){C:cR Z->Prop}(j:∀σ,C σ->rV σ)(d:∀σ,C σ->∀w γ,σ.S w γ->σ.S {w with drawn:=w.drawn+1} γ){hN:cR Z->Act->Prop}(hK:∀σ a,C σ->hN σ a->rW Q Stop m b k cs ops [] σ a){id:Nat}{σ:cR Z}(c:C σ)(h:rb Q Stop m b ops .any C hN ops.size (Array.replicate ops.size false) σ a)(w:aO)(γ:Z.aN)(hS:σ.S w γ):
 bh Z Q Stop m σ.l γ ⟨G (b.at a (.code (.region id ops true)::k)) cs,w,σ.mine⟩:=by
 refine bh.mk Y λw' f n o=>?_;refine .quiet stepG_region_draw ⟨Y,⟨AA,Nat.le_refl _,.refl _,Y,Y⟩,AA,PA,λe=>e.elim AA (i _ _ _)⟩ ?_;rw[kX (w:=w') (w1:={w' with drawn:=w'.drawn+1}) Y];simp only[Region.schedule,p,Bool.true_or,if_true];exact ale i hk j hK ops.size _ _ σ a c h _ f (d σ c w' f (j σ c w γ w' f _ hS n o))
end
section
section
variable{Z:eY}{Q:cg}{Stop:Bool->Z.Lo->aV->Prop}{m:Bool}{l:Z.Lo}{γ:Z.aN}{X:aV}{w':aO}
def FA(Z:eY)(mine:Nat->Prop)(e:Event):Prop:=
 match e.loc with
 | .cell a=>e.sync=false/\((Z.K a.block/\e.write=false)\/mine a.block)
 | .obj r=>e.sync=false/\((Z.K r/\e.write=false)\/mine r)
 | .mark .noRoom| .mark (.extern _)=>True
 | _=>False
def RQ(t:∀l g g1,¬Z.ox l g g1)(u:Z.past l=false){g1:Goroutine}{w1:aO}{es:Array Event}(hs:stepG Q m X.g w'=.go g1 w1 es)(hrun:g1.status=.running)(hk:∀b,b<w'.heap.size->¬X.mine b->w1.heap[b]?=w'.heap[b]?)(hsz:w'.heap.size<=w1.heap.size)(k:w1.os=w'.os)(s:w1.output=w'.output)(q:w1.tape=w'.tape)(p:∀b,grown X.mine w' w1 b->¬Z.gG b)(c:∀e∈es,FA Z (grown X.mine w' w1) e)(h:bh Z Q Stop m l γ ⟨g1,w1,grown X.mine w' w1⟩):Then (Z:=Z) Q Stop m l γ X w':=by
 refine .quiet hs ⟨hrun,⟨AA,hsz,by rw[k];exact .refl _,s,q⟩,λb j hS=>hk b j λn=>p b (.inl n) hS,zz _ _ λe i d=>?_,?_⟩ h
 .have:=c e AA;unfold FA at this;unfold sZ;cases o:e.loc with
  |cell a=>grind
  |obj r=>grind
  |mark mk=>rw[o]at this;cases mk<;>first|exact .inl this|grind
  |output=>trivial
  |goroutines=>grind
 .rintro(⟨e,i,f⟩|h)
  .have:=c e i;unfold FA at this;rcases f with h|h|⟨a,h⟩|⟨a,h⟩|⟨f,b,j,hS⟩
   .grind
   .grind
   .grind
   .grind
   grind[e8]
  grind
end
end
end hZ
namespace fO
open Conc ConcM av bn ah hZ
variable{es:Array Event}{g g1:Goroutine}
section
section
variable{Z:eY}{Q:cg}{Stop:Bool->Z.Lo->aV->Prop}{m:Bool}{l:Z.Lo}{γ:Z.aN}
def sZ.more{M M':Nat->Prop}(h:∀b,M b->M' b){d:Nat}{e:Event}(k:sZ Z l M d e):sZ Z l M' d e:=by grind[sZ]
theorem oy.more{M M':Nat->Prop}(h:∀b,M b->M' b):∀{es:List Event}{d:Nat},oy Z l M d es->oy Z l M' d es
 | [],_,_=>trivial
 | _::_,_,k=>⟨sZ.more h k.1,oy.more h k.2⟩
def BD{M M':Nat->Prop}(h:∀b,M b->M' b)(w w1:aO):∀b,grown M w w1 b->grown M' w w1 b:=λ_ k=>k.imp (h _) id
def kW.more{M M':Nat->Prop}(h:∀b,M b->M' b){w w1:aO}(k:kW Z M w w1):kW Z M' w w1:=
 ⟨λb h1 a h3=>k.kept b h1 AA h3,k.size,k.os,k.output,k.tape⟩
theorem Says.more{M M':Nat->Prop}(h:∀b,M b->M' b){l1:Z.Lo}(k:Says Z l l1 M es):Says Z l l1 M' es:=by
 rcases k with⟨e,d,c,a⟩|k|k|k
 .exact .inl ⟨e,d,c,oy.more h a⟩
 .exact .inr (.inl k)
 .exact .inr (.inr (.inl k))
 .exact .inr (.inr (.inr k))
theorem bh.more(hS:∀m l g w M M',(∀b,M b->M' b)->Stop m l ⟨g,w,M⟩->Stop m l ⟨g,w,M'⟩){X:aV}(h:bh Z Q Stop m l γ X):∀{M':Nat->Prop},(∀b,X.mine b->M' b)->bh Z Q Stop m l γ ⟨X.g,X.w,M'⟩:=by
 induction h with
 |stop h=>exact λd=>.stop (hS _ _ _ _ _ _ d h)
 |@step m l γ X hs ch ok hq t s u r p o x=>
  intro M' d;have j:∀{w' f},dO Z l f ⟨X.g,X.w,M'⟩ w'->dO Z l f X w':=λa=>⟨⟨λb v=>a.rely.heap b AA,a.rely.size,a.rely.env⟩,a.mt,a.sees,a.later,a.output,a.tape⟩;refine .step hs ch (λw' f i a=>?_) (λw' f g1 w1 es i a e hrun k=>r w' f g1 w1 es i (j a) e hrun k (BD d w' w1)) (λw' f g1 w1 es i a e k=>p w' f g1 w1 es i (j a) e k (BD d w' w1)) (λw' f g1 c w1 es i a e=>o w' f g1 c w1 es i (j a) e (BD d w' w1)) AA;rcases ok w' f i (j a)with⟨g1,w1,es,e,q⟩|⟨g1,w1,es,e,q,n⟩|h|⟨em,g1,c,w1,es,e,q⟩
  .exact .inl ⟨g1,w1,es,e,q.run,kW.more d q.keep,q.sh,oy.more (BD d w' w1) q.evs,q.low⟩
  .exact .inr (.inl ⟨g1,w1,es,e,⟨q.run,q.LP,kW.more d q.keep,q.mt,q.zx,Says.more (BD d w' w1) q.says,q.Im⟩,λh=>⟨(n h).1,hS _ _ _ _ _ _ (BD d w' w1) (n h).2⟩⟩)
  .exact .inr (.inr (.inl h))
  .exact .inr (.inr (.inr ⟨em,g1,c,w1,es,e,⟨q.run,q.Yp,kW.more d q.keep,q.mt,q.a_,q.zx,oy.more (BD d w' w1) q.evs,q.deaf,q.tok,q.past,q.Im,q.stays⟩⟩))
def cd(mine:Nat->Prop)(bs:List (Nat×Obj))(b:Nat):Prop:=mine b\/b∈bs.map (·.1)
structure af(Z:eY)(mine:Nat->Prop)(w0:aO)(bs:List (Nat×Obj))(w:aO):Prop where
 rw:ai Z mine w0 w
 cL:∀x∈bs,w.heap[x.1]?=some x.2
 lt:∀b,Z.K b\/mine b\/Z.gG b->b<w.heap.size
 eZ:∀b,Z.K b\/cd mine bs b->¬Z.gG b
 rQ:∀b∈bs.map (·.1),¬(Z.K b\/mine b)
 oD:(bs.map (·.1)).Nodup
 tW:∀b,mine b->¬Z.K b
variable{mine:Nat->Prop}{w0:aO}{bs:List (Nat×Obj)}{w w1:aO}
def af.on(h:af Z mine w0 bs w)(r:ai Z (cd mine bs) w w1):af Z mine w0 bs w1:=
 ⟨h.rw.trans ⟨λb a=>r.heap b (a.imp id .inl),r.size,r.later,r.output,r.tape⟩,λx c=>(r.heap x.1 (.inr (.inr AA))).trans (h.cL x c),λb a=>Nat.lt_of_lt_of_le (h.lt b a) r.size,h.eZ,h.rQ,h.oD,h.tW⟩
def g9{X:Z.aN->Prop}{n:Nat}(hs:g.status=.running)(hF:af Z mine w0 bs w)(h:∀b,ai Z (cd mine bs) w b->∀e,X e->∀a d,Z.dY l e d->dO Z l d ⟨g,b,cd mine bs⟩ a->af Z mine w0 bs a->Then Q Stop m l d ⟨g,b,cd mine bs⟩ a):
 Goes Q m (ai Z (cd mine bs)) Go.ConcR.DC0 (λg w=>g.status=.running/\∀i,X i->bh Z Q Stop m l i ⟨g,w,cd mine bs⟩) n g w:=
 Goes.stop λb c=>⟨hs,λe k=>bh.mk hs λa d j f=>h b c e k a d j f ((hF.on c).on (dO.rw f))⟩
def af.start(hK:∀b,Z.K b\/mine b\/Z.gG b->b<w.heap.size)(c:∀b,Z.K b\/mine b->¬Z.gG b)(hd:∀b,mine b->¬Z.K b):af Z mine w [] w:=
 ⟨.refl _ _ _,A_,hK,λb a=>c b (a.imp id (λx=>x.elim id A_)),A_,A_,hd⟩
def cd.cons{b0:Nat}{o:Obj}:(λb=>cd mine bs b\/b=b0)=cd mine ((b0,o)::bs):=by grind[cd]
def RS(M:Nat->Prop)(w:aO)(o:Obj):grown M w (w.alloc o)=λb=>M b\/b=w.heap.size:=by grind[grown,World.alloc]
def BF{o:Obj}{b:Nat}(h:b<w.heap.size):(w.alloc o).heap[b]?=w.heap[b]?:=by show(w.heap.push o)[b]?=_;grind
def alm{o:Obj}:(w.alloc o).heap[w.heap.size]?=some o:=by show(w.heap.push o)[w.heap.size]?=_;grind
def aln{o:Obj}:(w.alloc o).heap.size=w.heap.size+1:=by simp_all
def af.RU(h:af Z mine w0 bs w){b:Nat}(c:b∈bs.map (·.1)):b<w.heap.size:=by obtain⟨x,a,rfl⟩:=List.mem_map.1 c;have:=h.cL x a;grind
theorem af.alloc(h:af Z mine w0 bs w)(d:∀b,Z.K b->¬Z.gG b)(o:Obj):af Z mine w0 ((w.heap.size,o)::bs) (w.alloc o):=by
 have hn:∀b,Z.K b\/mine b\/Z.gG b->b≠w.heap.size:=λb a=>Nat.ne_of_lt (h.lt b a);refine⟨h.rw.trans ⟨λb a=>BF (h.lt b AA),Br,.refl _,Y,Y⟩,λx c=>?_,λb a=>by rw[aln];have:=h.lt b a;omega,λb a hs=>?_,λb a=>?_,?_,h.tW⟩
 .rcases List.mem_cons.1 c with rfl|c
  .exact alm
  .rw[BF (h.RU AA)];exact h.cL x c
 .rcases a with a|a|a
  .grind
  .exact h.eZ b (.inr (.inl a)) hs
  .rcases List.mem_cons.1 a with rfl|a
   .grind
   .exact h.eZ b (.inr (.inr a)) hs
 .rcases List.mem_cons.1 a with rfl|a
  .grind
  .exact h.rQ b a
 .simp only[List.map_cons,List.nodup_cons];exact⟨λe=>Nat.lt_irrefl _ (h.RU e),h.oD⟩
def s7(f:∀l g g1,¬Z.ox l g g1)(i:∀b,Z.K b->¬Z.gG b)(j:Z.past l=false){o:Obj}(hk:af Z mine w0 bs w)(hs:stepG Q m g w=.go g1 (w.alloc o) es)(hrun:g1.status=.running)(k:es=#[]){d:aO}(h:af Z mine w0 ((w.heap.size,o)::bs) (w.alloc o)->bh Z Q Stop m l γ ⟨g1,w.alloc o,cd mine ((w.heap.size,o)::bs)⟩):Then (Z:=Z) Q Stop m l γ ⟨g,d,cd mine bs⟩ w:=by
 have e:=hk.alloc i o;have hg:grown (cd mine bs) w (w.alloc o)=cd mine ((w.heap.size,o)::bs):=by rw[RS];exact cd.cons
 refine RQ f j hs hrun (λb a _=>BF a) Br Y Y Y ?_ AA ?_
 .intro b a hS;have c:grown (cd mine bs) w (w.alloc o) b:=a;rw[hg]at c;exact e.eZ b (.inr c) hS
 grind
def rY(c:∀l g g1,¬Z.ox l g g1)(d:Z.past l=false){M:Nat->Prop}(i:∀b,M b->¬Z.gG b)(hs:stepG Q m g w=.go g1 w es)(hrun:g1.status=.running)(f:∀e∈es,FA Z M e){a:aO}(h:bh Z Q Stop m l γ ⟨g1,w,M⟩):Then (Z:=Z) Q Stop m l γ ⟨g,a,M⟩ w:=by
 have hg:grown M w w=M:=kX Y;refine RQ c d hs hrun AA J1 Y Y Y (λb k=>i b ?_) (λe j=>?_) ?_
 .simp_all
 .grind
 grind
def af.write(h:af Z mine w0 bs w){b:Nat}{bs':List (Nat×Obj)}(i:b∈bs.map (·.1))(c:bs'.map (·.1)=bs.map (·.1))(f:∀x∈bs',w1.heap[x.1]?=some x.2)(a:∀k,k≠b->w1.heap[k]?=w.heap[k]?)(hsz:w1.heap.size=w.heap.size)(d:w1.os=w.os)(g:w1.output=w.output)(ht:w1.tape=w.tape):af Z mine w0 bs' w1:=by
 have j:cd mine bs'=cd mine bs:=by grind[cd]
 refine⟨h.rw.trans ⟨λk hk=>a k λe=>h.rQ b i (e▸hk),AA,by rw[d];exact .refl _,g,ht⟩,f,λk hk=>by rw[hsz];exact h.lt k hk,by rw[j];exact h.eZ,by rw[c];exact h.rQ,by rw[c];exact h.oD,h.tW⟩
def alo(n:∀l g g1,¬Z.ox l g g1)(p:Z.past l=false)(hk:af Z mine w0 bs w)(hs:stepG Q m g w=.go g1 w1 es)(hrun:g1.status=.running){b:Nat}{bs':List (Nat×Obj)}(f:b∈bs.map (·.1))(q:bs'.map (·.1)=bs.map (·.1))(o:∀x∈bs',w1.heap[x.1]?=some x.2)(a:∀k,k≠b->w1.heap[k]?=w.heap[k]?)(hsz:w1.heap.size=w.heap.size)(c:w1.os=w.os)(d:w1.output=w.output)(ht:w1.tape=w.tape)(r:∀e∈es,FA Z (cd mine bs) e){j:aO}(h:af Z mine w0 bs' w1->bh Z Q Stop m l γ ⟨g1,w1,cd mine bs'⟩):Then (Z:=Z) Q Stop m l γ ⟨g,j,cd mine bs⟩ w:=by
 have s:=hk.write f q o a hsz c d ht;have hg:grown (cd mine bs) w w1=cd mine bs:=kX hsz;have u:cd mine bs'=cd mine bs:=by grind[cd]
 refine RQ n p hs hrun (λk _ i=>a k λe=>i (.inr (e▸f))) AA c d ht (λk i=>hk.eZ k (.inr ?_)) (λe t=>?_) ?_
 .simp_all
 .grind
 grind
end
end
end fO
namespace bO
open Conc RowKit Conc.Lib ConcR.Gen ConcM av bn ah
def Gb:Code->Option Code
 | .block _ (.seq (.seq _ (.cond _ x _)) _)=>some x
 | _=>none
def tl(A:eR)(Stop:Bool->ah.Lo A.al->aV->Prop)(m:Bool)(mine:Nat->Prop)(a2:Frame)(aF:Act)(aD:Array Oper)(aI:Nat)(aL:List Nat)(aH:List Item)(csZ:List Frame)(l:ah.Lo A.al)(γ:ah.aN A.aJ)(cw:Int)(sv aw:Bool)(it old:Int)(w:aO):Prop:=
 jf [.code ((dR 8 ((dp (f129.body.getD .skip)).getD .skip)).getD .skip),.code ((dR 11 ((dp (f129.body.getD .skip)).getD .skip)).getD .skip),.inBlock 1,.inLoop ((dp (f129.body.getD .skip)).getD .skip),.inBlock 0,.code ((kx (f129.body.getD .skip)).getD .skip)] A Stop m mine a2 aF aD aI aL aH csZ l γ cw sv aw it old w
def wo(A:eR)(Stop:Bool->ah.Lo A.al->aV->Prop)(m:Bool)(mine:Nat->Prop)(a2:Frame)(aF:Act)(aD:Array Oper)(aI:Nat)(aL:List Nat)(aH:List Item)(csZ:List Frame)(l:ah.Lo A.al)(γ:ah.aN A.aJ)(cw:Int)(sv aw:Bool)(it old:Int)(w:aO):Prop:=
 jf [.code ((Gb ((dp (f129.body.getD .skip)).getD .skip)).getD .skip),.code ((dR 11 ((dp (f129.body.getD .skip)).getD .skip)).getD .skip),.inBlock 1,.inLoop ((dp (f129.body.getD .skip)).getD .skip),.inBlock 0,.code ((kx (f129.body.getD .skip)).getD .skip)] A Stop m mine a2 aF aD aI aL aH csZ l γ cw sv aw it old w
variable{cw it old:Int}{w:aO}
section
variable{A:eR}{Stop:Bool->ah.Lo A.al->aV->Prop}{m:Bool}{mine:Nat->Prop}
variable{a2:Frame}{aF:Act}{aD:Array Oper}{aI:Nat}{aL:List Nat}{aH:List Item}{csZ:List Frame}
def aqc(G:A.Good){l:ah.Lo A.al}{γ:ah.aN A.aJ}{sv aw:Bool}(g:(bits .and .i32 old 5==1)=false)(c:∀w' d,(ak A).dY l γ d->ai (ak A) mine w w'->Aa A Stop m mine a2 aF aD aI aL aH csZ l d cw sv aw it old w'):
 pF A Stop m mine a2 aF aD aI aL aH csZ l γ cw sv aw it old w:=by
 unfold pF jf;intros
 unfold Aa jf at c;have hF:=ai.refl (ak A) mine w;simp only[f129,Option.getD_some,dp,kx,dR,Nat.reduceBEq,Bool.false_eq_true,↓reduceIte]at c⊢;refine bk G ?_;u_c stepG_block ai.trans hF
 u_c stepG_seq ai.trans hF
 u_c stepG_seq ai.trans hF
 repeat w_but "code.seq" ai.trans
 exact Goes.stop (λa b=>⟨Y,λf e=>c a f e (ai.trans hF b) ..⟩)
def aqd(G:A.Good){l:ah.Lo A.al}{γ:ah.aN A.aJ}{sv aw:Bool}(r:bits .and .i32 old 5=1)(g:∀w' f,(ak A).dY l γ f->ai (ak A) mine w w'->Aa A Stop m mine a2 aF aD aI aL aH csZ l f cw sv aw it old w')(hS:it<4->∀w' f,(ak A).dY l γ f->ai (ak A) mine w w'->wo A Stop m mine a2 aF aD aI aL aH csZ l f cw sv aw it old w'):
 pF A Stop m mine a2 aF aD aI aL aH csZ l γ cw sv aw it old w:=by
 unfold pF jf;intros
 unfold Aa jf at g;unfold wo jf at hS;have hF:=ai.refl (ak A) mine w;simp only[f129,Option.getD_some,dp,kx,dR,Gb,Nat.reduceBEq,Bool.false_eq_true,↓reduceIte]at g hS⊢;refine bk G ?_;repeat w_go ai.trans
 refine dH Y hF λb a d j c q i o hF=>?_;have h:=(dg G).trans _ _ _ _ j i;by_cases p:it<4
 .refine lz (stepG_canSpin_ask Y Y BJ Y func146 Q5 QZ QY QX (k:=.i64) (n:=it) B4 p) Y Y (.refl _) Y Y ?_;replace hF:=ai.trans hF (⟨λ_ _=>Y,Nat.le_refl _,.refl _,Y,Y⟩:ai (ak A) mine c c.asked);clear o i j a;cases c.spins with
  |false=>
   refine bk G ?_;walk_nrm
   repeat w_but "code.seq" ai.trans
   exact Goes.stop (λb a=>⟨Y,λd e=>g b d ((dg G).trans _ _ _ _ h e) (ai.trans hF a) ..⟩)
  |true=>
   refine bk G ?_;walk_nrm
   repeat w_but "code.seq" ai.trans
   exact Goes.stop (λb a=>⟨Y,λd e=>hS p b d ((dg G).trans _ _ _ _ h e) (ai.trans hF a) ..⟩)
 .refine lz (stepG_canSpin_no Y Y BJ Y func146 Q5 QZ QY QX (k:=.i64) (n:=it) B4 As) Y Y (.refl _) Y Y ?_;clear o i j a;refine bk G ?_;walk_nrm
  repeat w_but "code.seq" ai.trans
  exact Goes.stop (λb a=>⟨Y,λd e=>g b d ((dg G).trans _ _ _ _ h e) (ai.trans hF a) ..⟩)
def Np(G:A.Good){l:ah.Lo A.al}{γ:ah.aN A.aJ}{sv aw:Bool}(r:0<=it)(q:it<4)(h:∀w' d,(d=γ\/d.a_<γ.a_)->ai (ak A) mine w w'->gH (ak A) l d->pF A Stop m mine a2 aF aD aI aL aH csZ l d cw sv aw (it+1) (d.mu.word:Int) w'):
 tl A Stop m mine a2 aF aD aI aL aH csZ l γ cw sv aw it old w:=by
 unfold tl jf;intros
 unfold pF jf at h;have hF:=ai.refl (ak A) mine w;have t:IntKind.wrap .i64 (it+1)=it+1:=Gc;simp only[f129,Option.getD_some,dp,kx,dR,Nat.reduceBEq,Bool.false_eq_true,↓reduceIte]at h⊢;refine bk G ?_;repeat w_go ai.trans
 refine dH Y hF λb a k f j s e c hF=>?_;have g:=(dg G).trans _ _ _ _ f e;refine lz (stepG_entry_pure (.tuple #[]) Y Y BJ Y func147 ao6 ao7 ao8 ao9) Y Y (.refl _) Y Y ?_;clear c e f a;refine bk G ?_;walk_nrm
 repeat w_go ai.trans
 refine dH Y hF λb a k f i p e c hF=>?_;have n:=(dg G).less _ _ _ ((dg G).trans _ _ _ _ g ((dg G).trans _ _ _ _ f e));have o:=c.sees;refine lz (z_ Y Y BJ Y Y (ly c.mt.1) I_) Y Y (.refl _) Y Y ?_;clear c e f a;refine bk G ?_;walk_nrm
 repeat w_nl ai.trans
 u_c stepG_inLoop ai.trans hF
 exact Goes.stop (λb a=>⟨Y,λk g=>(h b p n (ai.trans hF a) o ..).km (dg G) g⟩)
end
end bO
end Go.Proofs.YtncomcmfgmojkaaGreat
