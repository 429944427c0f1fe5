import Derived.Conc.CompanyDraw
import Derived.Test.YtmlddfohidhniaaGreatPAD
import Derived.Test.YtmlddfohidhniaaGreatPAE
set_option linter.all false
set_option maxRecDepth 100000
set_option maxHeartbeats 16000000
namespace Go.Proofs.YtmlddfohidhniaaGreat
open Go.Proofs.Tryz
namespace iu
open Conc ax bp ag
structure cO(Z:fc) where
 l:Z.Lo
 mine:Nat->Prop
 S:aS->Z.aO->Prop
variable{i n:Nat}{a:Act}{v:Value}
section
variable{Z:fc}{Q:b4}{Stop:Bool->Z.Lo->aV->Prop}{m:Bool}{b:Frame}{k:il}{cs:fV}{ops:eY}{md:Region.Mode}
def sm(σ:cO Z):Prop:=∀w γ w' aj g,σ.S w γ->Z.dZ σ.l γ aj->dQ Z σ.l aj ⟨g,w,σ.mine⟩ w'->σ.S w' aj
def ak4(σ:cO Z)(γ:Z.aO)(w' w1:aS)(es:uao)(bW:cO Z):Prop:=
 bW.mine=grown σ.mine w' w1/\li Z σ.mine w' w1/\
 ((bW.l=σ.l/\bW.S w1 γ/\(∀b,b<w'.heap.size->Z.gT b->w1.heap[b]?=w'.heap[b]?)/\oL Z σ.l (grown σ.mine w' w1) (Z.deaf σ.l) es.toList/\¬ ∃e∈es,we Z e)\/
  (∃bA,bW.S w1 bA/\(∃e∈es,we Z e)/\Z.tq bA w1/\BG Z σ.l γ bW.l bA/\Says Z σ.l bW.l (grown σ.mine w' w1) es/\(∀kN,Z.n7 kN γ->Z.n7 kN bA)/\¬Z.Left bW.l))
variable(Q Stop m b k cs ops) in
def sn(todo:uaa)(σ:cO Z)(a:Act):Prop:=∀w γ,σ.S w γ->bg Z Q Stop m σ.l γ ⟨G (b.at a (.inRegion ops todo::k)) cs,w,σ.mine⟩
variable(Q b) in
def BS(o:Oper)(σ:cO Z)(a:Act)(K:cO Z->Act->Prop):Prop:=
 ∀w γ w' aj g,σ.S w γ->Z.dZ σ.l γ aj->dQ Z σ.l aj ⟨g,w,σ.mine⟩ w'->∃u w1 bW,((execOp a.eval o).run Q w'=.ok (.value u) w1\/((execOp a.eval o).run Q w'=.ok .skip w1/\u=undef))/\ak4 σ aj w' w1 (listed Q b.fn a o w') bW/\K bW (a.put o.dst u)
variable(Q Stop m) in
def jJ(f:uaj)(args:dp)(σ:cO Z)(V:Value->cO Z->Prop):Prop:=
 ∀(a4:Frame)(aF:Act)(aC:eY)(aK:Nat)(aM:uaa)(aH:il)(csZ:fV),
  (∀u bW,V u bW->∀w γ,bW.S w γ->bg Z Q Stop m bW.l γ ⟨G (a4.at (aF.put ((aC[aK]?).bind (·.dst)) u) (.inRegion aC aM::aH)) csZ,w,bW.mine⟩)->
  ∀w γ,σ.S w γ->bg Z Q Stop m σ.l γ ⟨G (Frame.enter Q f args .normal) (a4.at aF (.inRegion aC (aK::aM)::aH)::csZ),w,σ.mine⟩
variable(Q Stop m b) in
def RH(o:Oper)(σ:cO Z)(a:Act)(K:cO Z->Act->Prop):Prop:=
 ∃f args V,(∀w γ w' aj g,σ.S w γ->Z.dZ σ.l γ aj->dQ Z σ.l aj ⟨g,w,σ.mine⟩ w'->(execOp a.eval o).run Q w'=.ok (.enter f args) w'/\oL Z σ.l σ.mine (Z.deaf σ.l) (listed Q b.fn a o w').toList/\¬ ∃e∈listed Q b.fn a o w',we Z e)/\jJ Q Stop m f args σ V/\∀u bW,V u bW->K bW (a.put o.dst u)
variable(Q Stop m b ops) in
def oa(i:Nat)(σ:cO Z)(a:Act)(K:cO Z->Act->Prop):Prop:=
 match ops[i]? with
 |none=>False
 |some o=>if Region.wanted o (yielded ops a.tmps)then BS Q b o σ a K\/RH Q Stop m b o σ a K else K σ (a.put o.dst undef)
theorem oa.mono{σ:cO Z}{K K':cO Z->Act->Prop}(h:oa Q Stop m b ops i σ a K)(hk:∀σ a,K σ a->K' σ a):oa Q Stop m b ops i σ a K':=by
 unfold oa at *;split
 .simp_all
 .rename_i o k;simp[k]at h;split
  .rename_i j;simp[j]at h;rcases h with h|⟨f,args,V,d,c,e⟩
   .refine .inl λw γ w' l g d c e=>?_;obtain⟨u,w1,q,r1,p,n⟩:=h w γ w' l g d c e;grind
   .exact .inr ⟨f,args,V,d,c,AA⟩
  grind
def ak5(p:∀l g g1,¬Z.oK l g g1)(hk:b.kind≠ .early){rest:uaa}{σ:cO Z}(hst:sm σ)(h:oa Q Stop m b ops i σ a (λn a1=>sn Q Stop m b k cs ops rest n a1)):sn Q Stop m b k cs ops (i::rest) σ a:=by
 intro w γ hS;unfold oa at h;split at h
 .grind
 .rename_i o x;split at h
  .rename_i v;refine bg.mk Y λw' c d j=>?_;rcases h with h|⟨f,args,V,K,J,I⟩;rotate_left
   .obtain⟨r1,N,C⟩:=K w γ w' c _ hS d j;refine .quiet (stepG_enter x v hk r1) ⟨Y,qj _ _ _,AA,by grind[kR],λe=>e.elim C (p _ _ _)⟩ ?_;rw[kR Y];refine J b a ops i rest k cs (λu n hv z B M=>?_) w' c (hst w γ w' c _ hS d j);have:=I u n hv z B M;grind
   obtain⟨u,w1,n,hrun,⟨O,t,H⟩,hK⟩:=h w γ w' c _ hS d j;have hs:stepG Q m (G (b.at a (.inRegion ops (i::rest)::k)) cs) w'=.go (G (b.at (a.put o.dst u) (.inRegion ops rest::k)) cs) w1 (listed Q b.fn a o w'):=by grind[stepG_value,stepG_none]
   rcases H with⟨P,s,L,E,q⟩|⟨bA,s,F,D,y,r,A,R⟩
   .refine .quiet hs ⟨Y,t,L,E,λe=>e.elim q (p _ _ _)⟩ ?_;have:=hK w1 c s;grind
   .refine .turn hs ⟨Y,.inl F,t,D,y,r,.inr A⟩ AA ?_;have:=hK w1 bA s;grind
  .rename_i v;refine bg.mk Y λw' c d j=>?_;have hs:stepG Q m (G (b.at a (.inRegion ops (i::rest)::k)) cs) w'=.go (G (b.at (a.put o.dst undef) (.inRegion ops rest::k)) cs) w' #[]:=stepG_unwanted x AA;refine .quiet hs ⟨Y,qj _ _ _,AA,PJ,λe=>e.elim AA (p _ _ _)⟩ ?_;rw[kR Y];exact h w' c (hst w γ w' c _ hS d j)
variable(Q Stop m b md ops) in
def rh(C:cO Z->Prop)(ia:cO Z->Act->Prop):Nat->Array Bool->cO Z->Act->Prop
 |0,au,σ,a=>Region.ready md ops au=[]/\ia σ a
 |n+1,au,σ,a=>(Region.ready md ops au=[]->ia σ a)/\∀i∈Region.ready md ops au,oa Q Stop m b ops i σ a (λbW a1=>C bW/\rh C ia n (au.setIfInBounds i true) bW a1)
def ak7(e:∀l g g1,¬Z.oK l g g1)(hk:b.kind≠ .early){C:cO Z->Prop}(f:∀σ,C σ->sm σ){ia:cO Z->Act->Prop}(hK:∀σ a,C σ->ia σ a->sn Q Stop m b k cs ops [] σ a):
 ∀(n t:Nat)(au:uat)(σ:cO Z)(a:Act),C σ->rh Q Stop m b ops md C ia n au σ a->sn Q Stop m b k cs ops (Region.linearise.go md ops n t au []) σ a:=by
 intro n;induction n with
 |zero=>intro t au σ a hc h;simpa[Region.linearise.go]using hK σ a hc h.2
 |succ n o=>
  intro t au σ a hc h;obtain⟨d,c⟩:=h;simp only[Region.linearise.go];change sn Q Stop m b k cs ops (match(Region.ready md ops au)[t % (Region.ready md ops au).length]? with
   |some i=>Region.linearise.go md ops n (t / (Region.ready md ops au).length) (au.setIfInBounds i true) [i]
   |none=>[].reverse) σ a
  cases hi:(Region.ready md ops au)[t % (Region.ready md ops au).length]? with
  |none=>
   have j:Region.ready md ops au=[]:=by cases p:Region.ready md ops au with|nil=>rfl|cons x xs=>grind[Nat.mod_lt]
   grind
  |some i=>simp only[];rw[linearise_go_acc,List.reverse_singleton,List.singleton_append];exact ak5 e hk (f σ hc) ((c i (vcd hi)).mono AA)
variable(Q b ops) in
def nu(C:cO Z->Prop)(o:Oper)(v:Value)(a:Act):Prop:=
 (Region.wanted o (yielded ops a.tmps)=true/\∀σ,C σ->∀w γ w' aj g,σ.S w γ->Z.dZ σ.l γ aj->dQ Z σ.l aj ⟨g,w,σ.mine⟩ w'->(execOp a.eval o).run Q w'=.ok (.value v) w'/\oL Z σ.l σ.mine (Z.deaf σ.l) (listed Q b.fn a o w').toList/\¬ ∃e∈listed Q b.fn a o w',we Z e)\/
 (Region.wanted o (yielded ops a.tmps)=false/\v=undef)
def nu.Fo{C:cO Z->Prop}{o:Oper}{a':Act}(c:nu Q b ops C o v a)(e:execOp a'.eval o=execOp a.eval o)(d:Region.wanted o (yielded ops a'.tmps)=Region.wanted o (yielded ops a.tmps)):nu Q b ops C o v a':=by
 grind[nu,listed]
def nu.Yv{C:cO Z->Prop}{o:Oper}{σ:cO Z}(hi:ops[i]?=some o)(l:nu Q b ops C o v a)(hc:C σ)(hst:sm σ){K:cO Z->Act->Prop}(h:K σ (a.put o.dst v)):oa Q Stop m b ops i σ a K:=by
 unfold oa;simp[hi];rcases l with⟨c,hv⟩|⟨c,rfl⟩
 .simp[c];refine .inl λw γ w' j g f e d=>?_;obtain⟨r1,n,k⟩:=hv σ hc w γ w' j g f e d;have hg:grown σ.mine w' w'=σ.mine:=kR Y;exact⟨v,w',σ,.inl r1,⟨hg.symm,qj _ _ _,.inl ⟨Y,hst w γ w' j g f e d,AA,AA,k⟩⟩,h⟩
 grind
def ak8{C:cO Z->Prop}{j:Nat}{cn oj:Oper}(A:ops[j]?=some oj)(y:cn.apart ops oj=true)(q:∀cs b,cn.op≠ .select cs b)(p:∀cs b,oj.op≠ .select cs b){K:cO Z->Act->Prop}{σ:cO Z}(c:nu Q b ops C cn v a)(h:oa Q Stop m b ops j σ (a.put cn.dst v) K):
 oa Q Stop m b ops j σ a (λk a1=>nu Q b ops C cn v a1/\K k (a1.put cn.dst v)):=by
 obtain⟨d,D,o⟩:=Oper.apart_spec y;have keep:∀(a:Act),nu Q b ops C cn v a->∀u,nu Q b ops C cn v (a.put oj.dst u):=λa c u=>
  c.Fo (execOp_put cn q a oj.dst u o) (wanted_put cn a oj.dst u o)
 unfold oa at *;simp only[A]at *;rw[wanted_put oj a cn.dst v d]at h;split
 .rename_i z;simp[z]at h;rcases h with h|⟨f,args,V,e,i,n⟩
  .refine .inl λw γ w' l g e i n=>?_;obtain⟨u,w1,k,r1,r,B⟩:=h w γ w' l g e i n;unfold listed at *;rw[execOp_put oj p a cn.dst v d]at r1 r;grind[Act.put_comm]
  .refine .inr ⟨f,args,V,λw γ w' l g x t s=>?_,i,λu k hv=>⟨keep a c u,by grind[Act.put_comm]⟩⟩;have r1:=e w γ w' l g x t s;unfold listed at *;rw[execOp_put oj p a cn.dst v d]at r1;exact r1
 grind[Act.put_comm]
def ak9{C:cO Z->Prop}(p:∀σ,C σ->sm σ){ia:cO Z->Act->Prop}{cn:Oper}(hi:ops[i]?=some cn)(J:∀(j:Nat)(o:Oper) cs b,ops[j]?=some o->o.op≠ .select cs b):
 ∀(n:Nat)(au:uat)(σ:cO Z)(a:Act),
  (∀j oj,ops[j]?=some oj->j≠i->au.getD j true=false->(∀e∈oj.after,Region.binds md e=true->e.on≠i)->cn.apart ops oj=true)->
  i∈Region.ready md ops au->nu Q b ops C cn v a->C σ->
  rh Q Stop m b ops md C ia n (au.setIfInBounds i true) σ (a.put cn.dst v)->rh Q Stop m b ops md C ia (n+1) au σ a:=by
 intro n;induction n with
 |zero=>
  intro au σ a _ l d hc H;refine⟨AA,λj f=>?_⟩;by_cases c:j=i
  .subst c;exact d.Yv hi hc (p σ hc) ⟨hc,H⟩
  .have:=ready_mono f c;rw[H.1]at this;grind
 |succ n q=>
  intro au σ a z l d hc H;refine⟨AA,λj f=>?_⟩;by_cases c:j=i
  .subst c;exact d.Yv hi hc (p σ hc) ⟨hc,H⟩
  .have t:=H.2 j (ready_mono f c);obtain⟨w,oj,y,I⟩:=mem_ready.1 f;have D:∀e∈oj.after,Region.binds md e=true->e.on≠i:=λe E F r=>by grind[mem_ready]
   have s:=ak8 y AA AA AA d t;have x:∀k ok,ops[k]?=some ok->k≠i->(au.setIfInBounds j true).getD k true=false->
    (∀e∈ok.after,Region.binds md e=true->e.on≠i)->cn.apart ops ok=true:=λk ok hk A K g=>by
    refine z k ok hk A ?_ g;by_cases B:j=k
    .grind
    simp_all
   refine s.mono λu a1 h=>⟨h.2.1,q (au.setIfInBounds j true) u a1 x (ready_mono l (Ne.symm c)) h.1 h.2.1 ?_⟩;grind[Array.setIfInBounds_comm]
def js{C:cO Z->Prop}(e:∀σ,C σ->sm σ){ia:cO Z->Act->Prop}{cn:Oper}{au:uat}{σ:cO Z}(hi:ops[i]?=some cn)(hs:Region.noSelect ops=true)(d:Region.free md ops au i=true)(f:(Region.ready md ops au).contains i=true)(c:nu Q b ops C cn v a)(hc:C σ)(h:rh Q Stop m b ops md C ia n (au.setIfInBounds i true) σ (a.put cn.dst v)):rh Q Stop m b ops md C ia (n+1) au σ a:=
 ak9 e hi (Region.noSelect_spec hs) n au σ a (Region.free_spec hi d) AA c hc h
def RP{C:cO Z->Prop}{ia:cO Z->Act->Prop}{rs:uaa}{au:uat}{σ:cO Z}(d:Region.ready md ops au=rs)(e:rs≠[])(h:∀i∈rs,oa Q Stop m b ops i σ a (λc a1=>C c/\rh Q Stop m b ops md C ia n (au.setIfInBounds i true) c a1)):rh Q Stop m b ops md C ia (n+1) au σ a:=
 ⟨AA,d▸h⟩
def zY{C:cO Z->Prop}{ia:cO Z->Act->Prop}{au:uat}{σ:cO Z}(c:Region.ready md ops au=[])(h:ia σ a):∀n,rh Q Stop m b ops md C ia n au σ a
 |0=>⟨c,h⟩
 | _+1=>⟨λ_=>h,AA⟩
def BU(f:∀l g g1,¬Z.oK l g g1)(hk:b.kind≠ .early)(o:Q.follows .mixedOrders=true){C:cO Z->Prop}(i:∀σ,C σ->sm σ)(c:∀σ,C σ->∀w γ,σ.S w γ->σ.S {w with drawn:=w.drawn+1} γ){ia:cO Z->Act->Prop}(hK:∀σ a,C σ->ia σ a->sn Q Stop m b k cs ops [] σ a){id:Nat}{σ:cO Z}(hc:C σ)(h:rh Q Stop m b ops .any C ia ops.size (Array.replicate ops.size false) σ a)(w:aS)(γ:Z.aO)(hS:σ.S w γ):
 bg Z Q Stop m σ.l γ ⟨G (b.at a (.code (.region id ops true)::k)) cs,w,σ.mine⟩:=by
 refine bg.mk Y λw' d j n=>?_;refine .quiet stepG_region_draw ⟨Y,⟨AA,vac _,.refl _,Y,Y⟩,AA,PJ,λe=>e.elim AA (f _ _ _)⟩ ?_;rw[kR (w:=w') (w1:={w' with drawn:=w'.drawn+1}) Y];simp only[Region.schedule,o,Bool.true_or,vdh];exact ak7 f hk i hK ops.size _ _ σ a hc h _ d (c σ hc w' d (i σ hc w γ w' d _ hS j n))
end
section
section
variable{Z:fc}{Q:b4}{Stop:Bool->Z.Lo->aV->Prop}{m:Bool}{l:Z.Lo}{γ:Z.aO}{X:aV}{w':aS}
def Fp(Z:fc)(mine:dh)(e:Event):Prop:=
 match e.loc with
 | .cell a=>e.sync=false/\((Z.K a.block/\e.write=false)\/mine a.block)
 | .obj r=>e.sync=false/\((Z.K r/\e.write=false)\/mine r)
 | .mark .noRoom| .mark (.extern _)=>True
 | _=>False
def RQ(t:∀l g g1,¬Z.oK l g g1)(u:Z.past l=false){g1:uah}{w1:aS}{es:uao}(hs:stepG Q m X.g w'=.go g1 w1 es)(hrun:g1.status=.running)(hk:∀b,b<w'.heap.size->¬X.mine b->w1.heap[b]?=w'.heap[b]?)(hsz:w'.heap.size<=w1.heap.size)(k:w1.os=w'.os)(s:w1.output=w'.output)(q:w1.tape=w'.tape)(p:∀b,grown X.mine w' w1 b->¬Z.gT b)(c:∀e∈es,Fp Z (grown X.mine w' w1) e)(h:bg Z Q Stop m l γ ⟨g1,w1,grown X.mine w' w1⟩):Then (Z:=Z) Q Stop m l γ X w':=by
 refine .quiet hs ⟨hrun,⟨AA,hsz,by rw[k];exact .refl _,s,q⟩,λb j hS=>hk b j λn=>p b (.inl n) hS,zV _ _ λe i d=>?_,?_⟩ h
 .have:=c e AA;unfold Fp at this;unfold tr;cases o:e.loc with
  |cell a=>grind
  |obj r=>grind
  |mark mk=>rw[o]at this;cases mk<;>first|exact .inl this|grind
  |output=>trivial
  |goroutines=>grind
 .rintro(⟨e,i,f⟩|h)
  .have:=c e i;unfold Fp at this;rcases f with h|h|⟨a,h⟩|⟨a,h⟩|⟨f,b,j,hS⟩
   .grind
   .grind
   .grind
   .grind
   grind[fg]
  grind
end
end
end iu
namespace gg
open Conc ConcM ax bp ag iu
variable{g g1:uah}
section
section
variable{Z:fc}{Q:b4}{Stop:Bool->Z.Lo->aV->Prop}{m:Bool}{l:Z.Lo}{γ:Z.aO}
def tr.more{M M':dh}(h:∀b,M b->M' b){d:Nat}{e:Event}(k:tr Z l M d e):tr Z l M' d e:=by grind[tr]
theorem oL.more{M M':dh}(h:∀b,M b->M' b):∀{es:ubi}{d:Nat},oL Z l M d es->oL Z l M' d es
 | [],_,_=>trivial
 | _::_,_,k=>⟨tr.more h k.1,oL.more h k.2⟩
def BV{M M':dh}(h:∀b,M b->M' b)(w w1:aS):∀b,grown M w w1 b->grown M' w w1 b:=λ_ k=>k.imp (h _) id
def li.more{M M':dh}(h:∀b,M b->M' b){w w1:aS}(k:li Z M w w1):li Z M' w w1:=
 ⟨λb c d a=>k.kept b c AA a,k.size,k.os,k.output,k.tape⟩
theorem Says.more{M M':dh}(h:∀b,M b->M' b){l1:Z.Lo}{es:uao}(k:Says Z l l1 M es):Says Z l l1 M' es:=by
 rcases k with⟨e,d,c,a⟩|k|k|k
 .exact .inl ⟨e,d,c,oL.more h a⟩
 .exact .inr (.inl k)
 .exact .inr (.inr (.inl k))
 .exact .inr (.inr (.inr k))
theorem bg.more(hS:∀m l g w M M',(∀b,M b->M' b)->Stop m l ⟨g,w,M⟩->Stop m l ⟨g,w,M'⟩){X:aV}(h:bg Z Q Stop m l γ X):∀{M':dh},(∀b,X.mine b->M' b)->bg Z Q Stop m l γ ⟨X.g,X.w,M'⟩:=by
 induction h with
 |stop h=>exact λd=>.stop (hS _ _ _ _ _ _ d h)
 |@step m l γ X hs ch ok hq t s hc r p o v=>
  intro M' d;have j:∀{w' f},dQ Z l f ⟨X.g,X.w,M'⟩ w'->dQ Z l f X w':=λa=>⟨⟨λb u=>a.rely.heap b AA,a.rely.size,a.rely.env⟩,a.mt,a.sees,a.later,a.output,a.tape⟩;refine .step hs ch (λw' f i a=>?_) (λw' f g1 w1 es i a e hrun k=>r w' f g1 w1 es i (j a) e hrun k (BV d w' w1)) (λw' f g1 w1 es i a e k=>p w' f g1 w1 es i (j a) e k (BV d w' w1)) (λw' f g1 c w1 es i a e=>o w' f g1 c w1 es i (j a) e (BV d w' w1)) AA;rcases ok w' f i (j a)with⟨g1,w1,es,e,q⟩|⟨g1,w1,es,e,q,n⟩|h|⟨em,g1,c,w1,es,e,q⟩
  .exact .inl ⟨g1,w1,es,e,q.run,li.more d q.keep,q.sh,oL.more (BV d w' w1) q.evs,q.low⟩
  .exact .inr (.inl ⟨g1,w1,es,e,⟨q.run,q.L5,li.more d q.keep,q.mt,q.zU,Says.more (BV d w' w1) q.says,q.IA⟩,λh=>⟨(n h).1,hS _ _ _ _ _ _ (BV d w' w1) (n h).2⟩⟩)
  .exact .inr (.inr (.inl h))
  .exact .inr (.inr (.inr ⟨em,g1,c,w1,es,e,⟨q.run,q.Yb,li.more d q.keep,q.mt,q.a_,q.zU,oL.more (BV d w' w1) q.evs,q.deaf,q.tok,q.past,q.IA,q.stays⟩⟩))
def cd(mine:dh)(bs:uap)(b:Nat):Prop:=mine b\/b∈bs.map (·.1)
structure af(Z:fc)(mine:dh)(w0:aS)(bs:uap)(w:aS):Prop where
 rw:ah Z mine w0 w
 c8:∀x∈bs,w.heap[x.1]?=some x.2
 lt:∀b,Z.K b\/mine b\/Z.gT b->b<w.heap.size
 fd:∀b,Z.K b\/cd mine bs b->¬Z.gT b
 sr:∀b∈bs.map (·.1),¬(Z.K b\/mine b)
 ib:(bs.map (·.1)).Nodup
 uF:∀b,mine b->¬Z.K b
variable{mine:dh}{w0:aS}{bs:uap}{w w1:aS}
def af.on(h:af Z mine w0 bs w)(r:ah Z (cd mine bs) w w1):af Z mine w0 bs w1:=
 ⟨h.rw.trans ⟨λb a=>r.heap b (a.imp id .inl),r.size,r.later,r.output,r.tape⟩,λx c=>(r.heap x.1 (.inr (.inr AA))).trans (h.c8 x c),λb a=>vap (h.lt b a) r.size,h.fd,h.sr,h.ib,h.uF⟩
def hX{X:Z.aO->Prop}{n:Nat}(hs:g.status=.running)(hF:af Z mine w0 bs w)(h:∀b,ah Z (cd mine bs) w b->∀e,X e->∀a d,Z.dZ l e d->dQ Z l d ⟨g,b,cd mine bs⟩ a->af Z mine w0 bs a->Then Q Stop m l d ⟨g,b,cd mine bs⟩ a):
 Goes Q m (ah Z (cd mine bs)) Go.ConcR.DC0 (λg w=>g.status=.running/\∀i,X i->bg Z Q Stop m l i ⟨g,w,cd mine bs⟩) n g w:=
 vai λb c=>⟨hs,λe k=>bg.mk hs λa d j f=>h b c e k a d j f ((hF.on c).on (dQ.rw f))⟩
def af.start(hK:∀b,Z.K b\/mine b\/Z.gT b->b<w.heap.size)(c:∀b,Z.K b\/mine b->¬Z.gT b)(hd:∀b,mine b->¬Z.K b):af Z mine w [] w:=
 ⟨.refl _ _ _,Ad,hK,λb a=>c b (a.imp id (λx=>x.elim id Ad)),Ad,Ad,hd⟩
def cd.cons{b0:Nat}{o:Obj}:(λb=>cd mine bs b\/b=b0)=cd mine ((b0,o)::bs):=by grind[cd]
def RS(M:dh)(w:aS)(o:Obj):grown M w (w.alloc o)=λb=>M b\/b=w.heap.size:=by grind[grown,World.alloc]
def BW{o:Obj}{b:Nat}(h:b<w.heap.size):(w.alloc o).heap[b]?=w.heap[b]?:=by show(w.heap.push o)[b]?=_;grind
def alc{o:Obj}:(w.alloc o).heap[w.heap.size]?=some o:=by show(w.heap.push o)[w.heap.size]?=_;grind
def ald{o:Obj}:(w.alloc o).heap.size=w.heap.size+1:=by simp_all
def af.RU(h:af Z mine w0 bs w){b:Nat}(c:b∈bs.map (·.1)):b<w.heap.size:=by obtain⟨x,a,rfl⟩:=vbh.1 c;have:=h.c8 x a;grind
theorem af.alloc(h:af Z mine w0 bs w)(d:∀b,Z.K b->¬Z.gT b)(o:Obj):af Z mine w0 ((w.heap.size,o)::bs) (w.alloc o):=by
 have hn:∀b,Z.K b\/mine b\/Z.gT b->b≠w.heap.size:=λb a=>Nat.ne_of_lt (h.lt b a);refine⟨h.rw.trans ⟨λb a=>BW (h.lt b AA),BK,.refl _,Y,Y⟩,λx c=>?_,λb a=>by rw[ald];have:=h.lt b a;omega,λb a hs=>?_,λb a=>?_,?_,h.uF⟩
 .rcases vbn.1 c with rfl|c
  .exact alc
  .rw[BW (h.RU AA)];exact h.c8 x c
 .rcases a with a|a|a
  .grind
  .exact h.fd b (.inr (.inl a)) hs
  .rcases vbn.1 a with rfl|a
   .grind
   .exact h.fd b (.inr (.inr a)) hs
 .rcases vbn.1 a with rfl|a
  .grind
  .exact h.sr b a
 .simp only[vdg,List.nodup_cons];exact⟨λe=>Nat.lt_irrefl _ (h.RU e),h.ib⟩
def tB(e:∀l g g1,¬Z.oK l g g1)(f:∀b,Z.K b->¬Z.gT b)(j:Z.past l=false){o:Obj}{es:uao}(hk:af Z mine w0 bs w)(hs:stepG Q m g w=.go g1 (w.alloc o) es)(hrun:g1.status=.running)(k:es=#[]){d:aS}(h:af Z mine w0 ((w.heap.size,o)::bs) (w.alloc o)->bg Z Q Stop m l γ ⟨g1,w.alloc o,cd mine ((w.heap.size,o)::bs)⟩):Then (Z:=Z) Q Stop m l γ ⟨g,d,cd mine bs⟩ w:=by
 have i:=hk.alloc f o;have hg:grown (cd mine bs) w (w.alloc o)=cd mine ((w.heap.size,o)::bs):=by rw[RS];exact cd.cons
 refine RQ e j hs hrun (λb a _=>BW a) BK Y Y Y ?_ AA ?_
 .intro b a hS;have c:grown (cd mine bs) w (w.alloc o) b:=a;rw[hg]at c;exact i.fd b (.inr c) hS
 grind
def ss(d:∀l g g1,¬Z.oK l g g1)(f:Z.past l=false){M:dh}{es:uao}(c:∀b,M b->¬Z.gT b)(hs:stepG Q m g w=.go g1 w es)(hrun:g1.status=.running)(i:∀e∈es,Fp Z M e){a:aS}(h:bg Z Q Stop m l γ ⟨g1,w,M⟩):Then (Z:=Z) Q Stop m l γ ⟨g,a,M⟩ w:=by
 have hg:grown M w w=M:=kR Y;refine RQ d f hs hrun AA JT Y Y Y (λb k=>c b ?_) (λe j=>?_) ?_
 .simp_all
 .grind
 grind
def af.write(h:af Z mine w0 bs w){b:Nat}{bs':uap}(i:b∈bs.map (·.1))(c:bs'.map (·.1)=bs.map (·.1))(f:∀x∈bs',w1.heap[x.1]?=some x.2)(a:∀k,k≠b->w1.heap[k]?=w.heap[k]?)(hsz:w1.heap.size=w.heap.size)(d:w1.os=w.os)(g:w1.output=w.output)(ht:w1.tape=w.tape):af Z mine w0 bs' w1:=by
 have j:cd mine bs'=cd mine bs:=by grind[cd]
 refine⟨h.rw.trans ⟨λk hk=>a k λe=>h.sr b i (e▸hk),AA,by rw[d];exact .refl _,g,ht⟩,f,λk hk=>by rw[hsz];exact h.lt k hk,by rw[j];exact h.fd,by rw[c];exact h.sr,by rw[c];exact h.ib,h.uF⟩
def ale(n:∀l g g1,¬Z.oK l g g1)(p:Z.past l=false){es:uao}(hk:af Z mine w0 bs w)(hs:stepG Q m g w=.go g1 w1 es)(hrun:g1.status=.running){b:Nat}{bs':uap}(f:b∈bs.map (·.1))(q:bs'.map (·.1)=bs.map (·.1))(o:∀x∈bs',w1.heap[x.1]?=some x.2)(a:∀k,k≠b->w1.heap[k]?=w.heap[k]?)(hsz:w1.heap.size=w.heap.size)(c:w1.os=w.os)(d:w1.output=w.output)(ht:w1.tape=w.tape)(r:∀e∈es,Fp Z (cd mine bs) e){j:aS}(h:af Z mine w0 bs' w1->bg Z Q Stop m l γ ⟨g1,w1,cd mine bs'⟩):Then (Z:=Z) Q Stop m l γ ⟨g,j,cd mine bs⟩ w:=by
 have s:=hk.write f q o a hsz c d ht;have hg:grown (cd mine bs) w w1=cd mine bs:=kR hsz;have u:cd mine bs'=cd mine bs:=by grind[cd]
 refine RQ n p hs hrun (λk _ i=>a k λe=>i (.inr (e▸f))) AA c d ht (λk i=>hk.fd k (.inr ?_)) (λe t=>?_) ?_
 .simp_all
 .grind
 grind
end
end
open fq
structure gG where
 T:Nat
 M:Nat
 D:List Value
 L:Option Nat
def gG.of(b:co):gG:=⟨b.taken,b.came,b.done,b.least⟩
variable{d:gG}{v:Value}
section
variable{c:dD}{Q:b4}{Stop:Bool->ag.Lo At->aV->Prop}{m:Bool}{mine:dh}{w0:aS}
def Held(c:dD)(mine:dh)(w0:aS)(d:gG)(bs:uap)(w:aS)(γ:ag.aO co):Prop:=af (am (az c)) mine w0 bs w/\gG.of γ.al=d
def my(c:dD)(mine:dh)(w0:aS)(d:gG)(l:ag.Lo At)(bs:uap):cO (am (az c)):=⟨l,cd mine bs,Held c mine w0 d bs⟩
def BX(c:dD)(mine:dh)(w0:aS)(d:gG)(l:ag.Lo At)(σ:cO (am (az c))):Prop:=∃bs,σ=my c mine w0 d l bs
def uJ{l:ag.Lo At}(d:l.mx=.own){γ a:ag.aO co}(b:(am (az c)).dZ l γ a):gG.of a.al=gG.of γ.al:=by
 rcases b with rfl|⟨_,⟨h,_⟩,_⟩
 .rfl
 .rw[d]at h;obtain⟨i,g,f,e⟩:=h Y;grind[gG.of]
theorem Held.on{l:ag.Lo At}(e:l.mx=.own){bs:uap}{w w':aS}{γ a:ag.aO co}(h:Held c mine w0 d bs w γ)(b:(am (az c)).dZ l γ a)(r:ah (am (az c)) (cd mine bs) w w'):Held c mine w0 d bs w' a:=
 ⟨h.1.on r,(uJ e b).trans h.2⟩
def lI{l:ag.Lo At}(e:l.mx=.own):∀σ,BX c mine w0 d l σ->sm σ:=by rintro _ ⟨bs,rfl⟩ w γ w' f g h b a;exact Held.on e h b (dQ.rw a)
def IS{l:ag.Lo At}:∀σ,BX c mine w0 d l σ->∀w γ,σ.S w γ->σ.S {w with drawn:=w.drawn+1} γ:=by rintro _ ⟨bs,rfl⟩ w γ ⟨h,hd⟩;exact⟨⟨h.rw.trans ⟨λ_ _=>Y,vac _,.refl _,Y,Y⟩,h.c8,h.lt,h.fd,h.sr,h.ib,h.uF⟩,hd⟩
variable{b:Frame}{ops:eY}
def Ft{Z:fc}{C:cO Z->Prop}{o:Oper}{a:Act}(c:Region.wanted o (yielded ops a.tmps)=true)(h:∀w,(execOp a.eval o).run Q w=.ok (.value v) w)(d:∀w,listed Q b.fn a o w=#[]):nu Q b ops C o v a:=
 .inl ⟨c,λσ _ w γ w' e g _ _ _=>⟨h w',by rw[d];exact trivial,AA⟩⟩
def dU{Z:fc}{C:cO Z->Prop}{ia:cO Z->Act->Prop}{Stop:Bool->Z.Lo->aV->Prop}{md:Region.Mode}{cn:Oper}{n:Nat}{au:uat}{σ:cO Z}{a:Act}(i:Nat)(v:Value)(h:rh Q Stop m b ops md C ia n (au.setIfInBounds i true) σ (a.put cn.dst v))(j:∀σ,C σ->sm σ:=by exact lI Y)(hc:C σ:=by exact⟨_,Y⟩)(hi:ops[i]?=some cn:=by rfl)(hs:Region.noSelect ops=true:=by decide+kernel)(f:Region.free md ops au i=true:=by decide+kernel)(e:(Region.ready md ops au).contains i=true:=by decide+kernel)(d:Region.wanted cn (yielded ops a.tmps)=true:=by rfl)(c:∀w,(execOp a.eval cn).run Q w=.ok (.value v) w:=by intro _;go_simp)(g:∀w,listed Q b.fn a cn w=#[]:=by intro _;simp[listed,go_sem];rfl):rh Q Stop m b ops md C ia (n+1) au σ a:=
 js j hi hs f e (Ft d c g) hc h
def IT{Z:fc}{C:cO Z->Prop}{o:Oper}{a:Act}(c:Region.wanted o (yielded ops a.tmps)=false):nu Q b ops C o undef a:=.inr ⟨c,Y⟩
def IU{mu:bk}{x:co}{w:aS}(h:w.heap[c.st]?=some (hH (az c) mu x))(k:Nat):w.cell? (.a c.st (k+2))=((az c).cells x)[k]?:=by simp_all[World.cell?,hH]
def tF{l:ag.Lo At}(q:l.mx=.own)(ht:l.tok=true)(n:kS l.al=false){o:Oper}{a:Act}(k:Nat)(f:Region.wanted o (yielded ops a.tmps)=true)(hv:∀x,gG.of x=d->((az c).cells x)[k]?=some v)(h:∀w,w.cell? (.a c.st (k+2))=some v->(execOp a.eval o).run Q w=.ok (.value v) w/\listed Q b.fn a o w=#[⟨.cell ⟨c.st,k+2,none⟩,false,false⟩]):nu Q b ops (BX c mine w0 d l) o v a:=by
 refine .inl ⟨f,?_⟩;rintro _ ⟨bs,rfl⟩ w γ w' s g hS p i;have hJ:=Held.on q hS p (dQ.rw i);have hc:w'.cell? (.a c.st (k+2))=some v:=by rw[IU i.mt.1,hv _ hJ.2]
 obtain⟨r,m⟩:=h w' hc;refine⟨r,?_,?_⟩
 .rw[m];exact⟨.inl ⟨Y,.inr (.inr ⟨AA,ht⟩),n⟩,PJ⟩
 .rw[m];rintro⟨e,j,f⟩;simp at j;subst j;rcases f with h|h|⟨_,h⟩|⟨_,h⟩|⟨h,_⟩<;>cases h
end
def bg.seen{Z:fc}{Q:b4}{Stop:Bool->Z.Lo->aV->Prop}{m:Bool}{l:Z.Lo}{γ:Z.aO}{X:aV}(G:Z.Good)(hs:X.g.status=.running)(h:∀a,Z.dZ l γ a->hh Z l a->bg Z Q Stop m l a X):bg Z Q Stop m l γ X:=by
 by_cases hst:Stop m l X
 .exact .stop hst
 .refine bg.mk hs λw' a d b=>?_;rcases(h a d b.sees).next with c|⟨_,c⟩
  .grind
  .exact c w' a (G.refl _ _) b
section
variable{P:b4}{main:Bool}{b:Frame}{a:Act}{cs:fV}{w:aS}
def YH{fn:Func}{todo:il}{c:Frame}{es:uao}(hn:b.kind=.normal)(hd:a.defers=[])(e:P.funcs[b.fn]?=some fn)(d:(results fn a.tmps).run P w=.ok v w)(f:(results fn a.tmps).events P w #[]=es):
 stepG P main (G {b.at a todo with mode:=.returning} (c::cs)) w=.go (G (c.finish v) cs) w (seen P b.fn es):=by
 simp[G,stepG,unwind,doReturn,Frame.at,hn,hd,e,d,f,GStep.after]
end
section
variable{c:dD}{Q:b4}{Stop:Bool->ag.Lo At->aV->Prop}{m:Bool}{mine:dh}{w0:aS}{l:ag.Lo At}{γ:ag.aO co}{X:aV}{w':aS}
def alB{loc:Loc}{d:Bool}(h:∀mk,loc≠ .mark mk):¬ ∃e∈(#[⟨loc,false,d⟩]:uao),we (am (az c)) e:=by
 rintro⟨e,b,f⟩;simp at b;subst b;rcases f with a|a|⟨_,a⟩|⟨_,a⟩|⟨a,_⟩
 .grind
 .grind
 .grind
 .grind
 grind
def YI(a:kS l.al=false)(ht:l.tok=true){k:Nat}(hs:stepG Q m X.g w'=.go g1 w' #[⟨.cell ⟨c.st,k+2,none⟩,false,false⟩])(hrun:g1.status=.running)(h:bg (am (az c)) Q Stop m l γ ⟨g1,w',X.mine⟩):Then (Z:=am (az c)) Q Stop m l γ X w':=by refine .quiet hs ⟨hrun,qj _ _ _,λ_ _ _=>Y,⟨.inl AA,PJ⟩,λe=>e.elim (alB Ad) Kx⟩ ?_;grind[kR]
def YJ{mu:bk}{x a:co}{w:aS}(h:w.heap[c.st]?=some (hH (az c) mu x)){k:Nat}(b:((az c).cells x).setIfInBounds k v=(az c).cells a):(w.setCell ⟨c.st,k+2,none⟩ v).heap[c.st]?=some (hH (az c) mu a):=by unfold World.setCell;simp_all[vbb,hH]
def YK{x a:co}{w:aS}(h:(az c).n_ x w)(g:a.aR=x.aR)(f:a.eg=x.eg)(d:a.gp=x.gp)(b:a.done=x.done)(off:Nat)(sp)(v:Value):(az c).n_ a (w.setCell ⟨c.st,off,sp⟩ v):=by
 refine⟨?_,λe=>?_⟩
 .rw[nt w _ v (Ne.symm c.fd.1),h.1];grind[sy]
 .rw[nt w _ v (Ne.symm c.fd.2.1),h.2 e];grind[Fs]
def alC(d:dQ (am (az c)) l γ X w'){p:uae}{f1:Nat}(hs:stepG Q m X.g w'=.go g1 (w'.setCell ⟨c.st,4,none⟩ v) #[⟨.cell ⟨c.st,4,none⟩,true,false⟩])(hrun:g1.status=.running)(hv:v=.I ((γ.al.taken+1:Nat):Int))(j:l.al=.work .free p)(b:l.mx=.own)(g:l.tok=true)(a7:γ.al.taken<c.N)(n:f1+1<=l.fuel+c.C)(h:bg (am (az c)) Q Stop m ({l with al:=.work (.has γ.al.taken) p,fuel:=f1}:ag.Lo At) ({γ with al:={γ.al with taken:=γ.al.taken+1},a_:=γ.a_-1}:ag.aO co) ⟨g1,w'.setCell ⟨c.st,4,none⟩ v,X.mine⟩):Then (Z:=am (az c)) Q Stop m l γ X w':=by
 have o:c.C*(c.N-(γ.al.taken+1))+c.C=c.C*(c.N-γ.al.taken):=by have:c.N-γ.al.taken=(c.N-(γ.al.taken+1))+1:=AP;grind
 refine BY (a1:=.work (.has γ.al.taken) p) (b1:={γ.al with taken:=γ.al.taken+1}) (d1:=l.deaf) d hs hrun ⟨⟨.cell ⟨c.st,4,none⟩,true,false⟩,Ad,.inr (.inr (.inr (.inr ⟨Y,c.st,Y,.inl Y⟩)))⟩ (YD w' 4 none _) (oO _ _ _) ⟨YJ (k:=2) d.mt.1 AA,YK d.mt.2 Y Y Y Y _ _ _⟩
  (λaA i hi hg=>hg.take a7 AA) AA (.inl b) ⟨vdu _,vac _⟩ AA (λe=>e.elim) (λ_=>b)
  (.inl ⟨Y,?_,Y,.inl ⟨Y,AA,?_⟩,PJ⟩) (.inr λa f=>f) (λe=>e.elim) h
 .grind[kS]
 grind[kS]
def alD{mu:bk}{x:co}{w:aS}(b:w.heap[c.st]?=some (hH (az c) mu x))(a:(az c).n_ x w)(p:Nat)(v:Value):
 (w.setCell ⟨c.cP,p,none⟩ v).heap[c.st]?=some (hH (az c) mu {x with done:=x.done.set p v})/\(az c).n_ {x with done:=x.done.set p v} (w.setCell ⟨c.cP,p,none⟩ v):=by
 refine⟨?_,?_,λe=>?_⟩
 .rw[nt w _ _ c.fd.2.1,b];rfl
 .rw[nt w _ _ c.fd.2.2,a.1];rfl
 simp_all[World.setCell,vbb,Fs]
def alE(d:dQ (am (az c)) l γ X w'){q:uae}{p f1:Nat}{u:Value}(hs:stepG Q m X.g w'=.go g1 (w'.setCell ⟨c.st,5,none⟩ u) #[⟨.cell ⟨c.st,5,none⟩,true,false⟩])(hrun:g1.status=.running)(f:c.cj p=false)(o:u=.I ((γ.al.came+c.rows p:Nat):Int))(n:l.al=.work (.half p v) q)(b:l.mx=.own)(j:l.tok=true)(r:f1<l.fuel)(h:bg (am (az c)) Q Stop m ({l with al:=.work .free ((p,v)::q),fuel:=f1}:ag.Lo At) ({γ with al:={γ.al with came:=γ.al.came+c.rows p},a_:=γ.a_-1}:ag.aO co) ⟨g1,w'.setCell ⟨c.st,5,none⟩ u,X.mine⟩):Then (Z:=am (az c)) Q Stop m l γ X w':=by
 refine BY (a1:=.work .free ((p,v)::q)) (b1:={γ.al with came:=γ.al.came+c.rows p}) (d1:=l.deaf) d hs hrun ⟨⟨.cell ⟨c.st,5,none⟩,true,false⟩,Ad,.inr (.inr (.inr (.inr ⟨Y,c.st,Y,.inl Y⟩)))⟩ (YD w' 5 none _) (oO _ _ _) ⟨YJ (k:=3) d.mt.1 AA,YK d.mt.2 Y Y Y Y _ _ _⟩
  (λaA i hi hg=>hg.count f AA) AA (.inl b) ⟨vac _,vcx _ _⟩ AA (λe=>e.elim) (λ_=>b)
  (.inl ⟨Y,?_,Y,.inl ⟨Y,AA,?_⟩,PJ⟩) (.inr λa g=>g) (λe=>e.elim) h
 .grind[kS]
 grind[kS]
end
end gg
namespace dm
open Conc ax
def B0(fn:Func):Bool:=fn.results.all λ| .tmp _=>true| _=>false
def uK(fn:Func)(t:dp):List Value:=fn.results.toList.map λ| .tmp x=>t.getD x undef| .cell _ _=>undef
def wt(fn:Func)(t:dp):Value:=if h:(uK fn t).toArray.size=1 then(uK fn t).toArray[0]else .tuple (uK fn t).toArray
theorem YL{t:dp}:∀(l:List ResultVar),(∀r∈l,∃x,r=.tmp x)->(l.mapM λ| .tmp x=>(pure (t.getD x undef):Sem Value)| .cell a ty=>do Go.loadVar ty (<-Go.asAddr (t.getD a undef)))=pure (l.map λ| .tmp x=>t.getD x undef| .cell _ _=>undef)
 | [],_=>rfl
 |r::l,h=>by obtain⟨x,rfl⟩:=h r Ad;rw[List.mapM_cons,YL l AA];simp
theorem IV{P:b4}{fn:Func}(h:B0 fn=true)(t:dp)(w:aS):(results fn t).run P w=.ok (wt fn t) w/\(results fn t).events P w #[]=#[]:=by
 have a:∀r∈fn.results.toList,∃x,r=.tmp x:=by intro r b;unfold B0 at h;grind[Array.all_eq_true_iff_forall_mem]
 have e:results fn t=pure (wt fn t):=by
  unfold results;rw[vck];erw[YL (t:=t) _ a]
  rfl
 simp_all
def alG{ρ:Ren}(fn:Func){t b:dp}(h:aJ ρ t b):ar ρ (wt fn t) (wt fn b):=by
 have g:cE (ar ρ) (uK fn t) (uK fn b):=by unfold uK;induction fn.results.toList with|nil=>exact .nil|cons r l f=>refine .cons ?_ f;cases r with|tmp x=>exact h.getD (.undef ρ) x|cell a ty=>exact .undef ρ
 have d:=aJ.K9 g;unfold wt;by_cases c:(uK fn t).toArray.size=1
 .have e:(uK fn b).toArray.size=1:=d.size▸c;rw[dif_pos c,dif_pos e];exact d.get 0 _ _ AA AA
 .have e:¬(uK fn b).toArray.size=1:=d.size▸c;rw[dif_neg c,dif_neg e];exact .EA d
theorem jD.bind{Q:b4}{main:Bool}{K:dh}{post a:aV->Prop}{X:aV}(h:jD Q main K post X)(c:∀Y,post Y->jD Q main K a Y):jD Q main K a X:=by induction h with|done h=>grind|step ok _ b=>exact .step ok AA
def jD.more{Q:b4}{main:Bool}{K K':dh}(hK:∀b,K b->K' b){post:aV->Prop}{X:aV}(h:jD Q main K post X):jD Q main K' post X:=by have hrel:∀{X:aV}{w':aS},j5 K' X w'->j5 K X w':=λa=>⟨λb f=>a.heap b AA,a.size,a.env⟩;induction h with|done h=>exact .done h|step ok _ d=>refine .step (λw' a=>?_) AA;obtain⟨g1,w1,es,e,hg⟩:=ok w' (hrel a);refine⟨g1,w1,es,e,hg.run,hg.nW,hg.kept,hg.size,hg.os,hg.output,hg.tape,hg.drawn,λev c=>?_⟩;have:=hg.evs ev c;grind[xB]
structure alH(C:cH)(D M:dh)(n0:Nat)(R:uab)(c:Frame)(cs:fV)(Y:aV)(ρ:Ren)(w1:aS)(v v':Value):Prop where
 post:R v w1
 val:ar ρ v v'
 g:Y.g=a0 (c.finish v') cs
 world:∃S,eL C S ρ w1 Y.w
 le:Ren.le (eS D M) ρ
 mine:∀b,ρ.mine b->Y.mine b
 dom:∀a b,ρ.rel a b->(D b/\¬M b)\/Y.mine b
 old:∀a b,ρ.rel a b->(eS D M).rel a b\/n0<=b
def R0{P:b4}{upd:Bool}(E:(ej P upd).Good){f:uaj}{fn:Func}{C:Code}(j:P.funcs[f]?=some fn)(hk:iK P upd fn=true)(A:fn.body=some C)(q:B0 fn=true){D M:dh}{w:aS}(I:io (ej P upd) D M w)(hg:∀g,g<=P.globals.size->D g)(y:upd=true->∀b,D b->M b){args:dp}(B:aJ (eS D M) args args){R:uab}{w0:aS}(O:gP (ej P upd) D M w w0)(t:∀T,Calls (ae P upd) f args {w0 with tape:=T} (λe w=>∃v,e=.returned v/\R v w))(main:Bool)(c:Frame)(cs:fV):
 jD P main (λb=>D b/\¬M b) (λY=>∃ρ w1 v s,alH (ej P upd) D M w.heap.size R c cs Y ρ w1 v s) ⟨a0 (Frame.enter P f args .normal) (c::cs),w,M⟩:=by
 refine jD.bind (aiU E j hk A I hg y B (R:=λe w=>∃v,e=.returned v/\R v w) AA O t main (c::cs)) ?_;rintro Y ⟨ρ,fr,w1,T,e,⟨v,rfl,J⟩,o,m,ht⟩;obtain⟨d,U,l,i,k⟩:=ht.frames;cases k;obtain⟨z,hd,u,K,n,Q⟩:=m;have N:(ae P upd).funcs[f]?=some fn:=bw j hk;rw[o,N]at n;cases n;have hv:v=wt fn fr.tmps:=by grind[IV]
 have x:d.mode=.returning:=by have:=i.mode;rw[z]at this;generalize d.mode=md at this⊢;cases this;rfl
 have F:d.defers=[]:=by have:=i.defers;rw[hd]at this;generalize d.defers=ds at this⊢;cases this;rfl
 have H:d.kind=.normal:=i.kind.symm.trans u;have L:d.fn=f:=i.fn.symm.trans o;have hstep:∀w',stepG P main Y.g w'=.go (a0 (c.finish (wt fn d.tmps)) cs) w' #[]:=by intro w';rw[l];simp[a0,stepG,unwind,doReturn,x,F,H,L,j,(IV q d.tmps w').1,(IV q d.tmps w').2,GStep.after,vdy]
 refine .step (λw' p=>⟨_,_,_,hstep w',rfl,rfl,λ_ _ _=>rfl,vac _,rfl,rfl,rfl,vac _,Ad⟩) λw' g1 S es p e=>?_;rw[hstep w']at e;cases e;have r:∀b,grown Y.mine w' w' b↔Y.mine b:=λb=>⟨λh=>h.elim id AA,.inl⟩;exact .done ⟨ρ,w1,v,wt fn d.tmps,J,by rw[hv];exact alG fn i.tmps,rfl,⟨_,ht.world.rely (bound:=0) p ht.dom AA⟩,ht.le,λb h=>(r b).2 (ht.mine b h),λa b h=>(ht.dom a b h).imp id (r b).2,ht.old⟩
end dm
namespace gg
open Conc ConcM ax bp ag fq iu
variable{t:g4}
section
section
variable{Z:fc}{Q:b4}{Stop Stop':Bool->Z.Lo->aV->Prop}
def bg.seq{I:Z.Lo->Z.aO->Prop}(f:∀l γ a,I l γ->Z.dZ l γ a->I l a)(i:∀l γ l1 bA,I l γ->hh Z l γ->BG Z l γ l1 bA->I l1 bA)(t:∀m l X,Stop' m l X->¬Z.Left l)(k:∀l γ X,Stop' false l X->I l γ->bg Z Q Stop false l γ X){m:Bool}{l:Z.Lo}{γ:Z.aO}{X:aV}(h:bg Z Q Stop' m l γ X):m=false->I l γ->bg Z Q Stop false l γ X:=by
 induction h with
 |stop h=>grind
 |@step m l γ X hs ch ok hq s r hc o n v u=>
  rintro rfl hi;refine bg.mk hs λw' a c b=>?_;have d:=f _ _ _ hi c;rcases ok w' a c b with⟨g1,w1,es,e,q⟩|⟨g1,w1,es,e,q,p⟩|⟨e,g,q,j⟩|⟨em,_⟩
  .exact .quiet e q (o w' a g1 w1 es c b e q.run q.low Y d)
  .exact .turn e q AA (n w' a g1 w1 es c b e q.L5 Y (i _ _ _ _ d b.sees q.zU))
  .exact .wait e g q j
  grind
end
def z3(w:aS){b k:Nat}(v:dp)(h:k≠b):(w.setRow b v).heap[k]?=w.heap[k]?:=by simp[World.setRow,vbb,Ne.symm h]
def setRow_size(w:aS)(b:Nat)(v:dp):(w.setRow b v).heap.size=w.heap.size:=by simp_all
section
variable{Z:fc}{Q:b4}{Stop:Bool->Z.Lo->aV->Prop}{m:Bool}{l:Z.Lo}{γ:Z.aO}{mine:dh}{w0 w:aS}
def af.row{pre post:uap}{b:Nat}{bd new:dp}(hk:af Z mine w0 (pre++(b,.cells bd t)::post) w):af Z mine w0 (pre++(b,.cells new t)::post) (w.setRow b new):=by
 have f:b∈(pre++(b,Obj.cells bd t)::post).map (·.1):=Ad;have g:w.heap[b]?=some (.cells bd t):=hk.c8 (b,.cells bd t) Ad;refine hk.write f (bs':=pre++(b,.cells new t)::post) Ad (λx e=>?_) (λk a=>z3 w new a) (setRow_size _ _ _) Y Y Y;have d:=hk.ib;simp only[vcr,vdg,List.nodup_append,List.nodup_cons]at d;rcases List.mem_append.1 e with c|c
 .have a:x.1≠b:=AA;rw[z3 w new a];exact hk.c8 x AA
 .rcases vbn.1 c with rfl|c
  .grind[setRow_heap]
  .have a:x.1≠b:=AA;rw[z3 w new a];exact hk.c8 x AA
def B1(i:∀l g g1,¬Z.oK l g g1)(j:Z.past l=false){pre post:uap}{b:Nat}{bd new:dp}{g g1:uah}{es:uao}(hk:af Z mine w0 (pre++(b,.cells bd t)::post) w)(hs:stepG Q m g w=.go g1 (w.setRow b new) es)(hrun:g1.status=.running)(c:∀e∈es,∃off,e.loc=.cell ⟨b,off,none⟩/\e.sync=false){f:aS}(h:af Z mine w0 (pre++(b,.cells new t)::post) (w.setRow b new)->bg Z Q Stop m l γ ⟨g1,w.setRow b new,cd mine (pre++(b,.cells new t)::post)⟩):Then (Z:=Z) Q Stop m l γ ⟨g,f,cd mine (pre++(b,.cells bd t)::post)⟩ w:=by
 have d:b∈(pre++(b,Obj.cells bd t)::post).map (·.1):=Ad;refine ale i j hk hs hrun d (bs':=pre++(b,.cells new t)::post) Ad (hk.row (new:=new)).c8 (λk a=>z3 w new a) (setRow_size _ _ _) Y Y Y (λe n=>?_) h;obtain⟨off,p,o⟩:=c e n;unfold Fp;rw[p];exact⟨o,.inr (.inr d)⟩
def R2(c:∀l g g1,¬Z.oK l g g1){M:dh}{g g1:uah}{es:uao}(hs:stepG Q m g w=.go g1 w es)(hrun:g1.status=.running)(a:es=#[]){b:aS}(h:bg Z Q Stop m l γ ⟨g1,w,M⟩):Then (Z:=Z) Q Stop m l γ ⟨g,b,M⟩ w:=by subst a;have hg:grown M w w=M:=kR Y;refine .quiet hs ⟨hrun,qj _ _ _,λ_ _ _=>Y,PJ,λe=>e.elim AA (c _ _ _)⟩ ?_;grind
end
section
variable{c:dD}
def Fv(c:dD)(l:ag.Lo At)(γ:ag.aO co):Prop:=¬z1 l.al/\oc c.N γ.al
def tH{l:ag.Lo At}{γ a:ag.aO co}(b:(am (az c)).dZ l γ a):γ.al.taken<=a.al.taken/\γ.al.came<=a.al.came:=by grind
def Mw(l:ag.Lo At)(γ a:ag.aO co)(h:Fv c l γ)(b:(am (az c)).dZ l γ a):Fv c l a:=⟨h.1,ri h.2 (tH b)⟩
def alK(l:ag.Lo At)(γ:ag.aO co)(l1:ag.Lo At)(bA:ag.aO co)(h:Fv c l γ)(hs:hh (am (az c)) l γ)(ht:BG (am (az c)) l γ l1 bA):Fv c l1 bA:=by
 obtain⟨ls,i,hi,hg⟩:∃(ls:List (ag.Lo At))(i:Nat),ls[i]?=some l/\tA (az c) γ ls:=hs;obtain⟨s,h0,_⟩:=hg.pE.main;rw[vbd]at h0;obtain⟨l0,g,k⟩:=vaj.1 h0;have a:0≠i:=by rintro rfl;rw[hi]at g;cases g;exact h.1 (by rw[k];trivial)
 obtain⟨_,m⟩:=ht;obtain⟨n,o⟩:=m ls i hi hg;have b:tA (az c) bA (ls.set i l1):=n;refine⟨λe=>?_,ri h.2 AA⟩;have j:i<ls.length:=(vab.1 hi).1;have f:((ls.set i l1).map (·.al))[i]?=some l1.al:=AA;cases d:l1.al with|main s'=>rw[d]at f;exact a (b.pE.only i s' f).symm| _=>rw[d]at e;exact e
end
end
variable{a:Act}
section
section
variable{c:dD}{Q:b4}{Stop:Bool->ag.Lo At->aV->Prop}{m:Bool}{mine:dh}{w0:aS}{b:Frame}{ops:eY}
def xW{Z:fc}{Stop:Bool->Z.Lo->aV->Prop}{σ:cO Z}{K:cO Z->Act->Prop}{i:Nat}{o:Oper}(hi:ops[i]?=some o)(c:Region.wanted o (yielded ops a.tmps)=true)(h:BS Q b o σ a K):oa Q Stop m b ops i σ a K:=by simp_all[oa]
def z4{Z:fc}{Stop:Bool->Z.Lo->aV->Prop}{σ:cO Z}{K:cO Z->Act->Prop}{i:Nat}{o:Oper}(hi:ops[i]?=some o)(c:Region.wanted o (yielded ops a.tmps)=true)(h:RH Q Stop m b o σ a K):oa Q Stop m b ops i σ a K:=by simp_all[oa]
def sz{Z:fc}{Stop:Bool->Z.Lo->aV->Prop}{md:Region.Mode}{C:cO Z->Prop}{ia:cO Z->Act->Prop}{i n:Nat}{au:uat}{σ:cO Z}(d:Region.ready md ops au=[i])(h:oa Q Stop m b ops i σ a (λc a1=>C c/\rh Q Stop m b ops md C ia n (au.setIfInBounds i true) c a1)):rh Q Stop m b ops md C ia (n+1) au σ a:=
 RP d Ad AA
def af.shared{Z:fc}{bs:uap}{w:aS}(h:af Z mine w0 bs w){k off:Nat}{sp}(hk:Z.gT k)(v:Value):af Z mine w0 bs (w.setCell ⟨k,off,sp⟩ v):=
 h.on ⟨λb a=>nt w _ v λe=>h.fd b a (e▸hk),vbr (oO _ _ _).symm,.refl _,Y,Y⟩
def alM{d:gG}{l:ag.Lo At}(j:l.mx=.own){bs:uap}{o:Oper}{ob:Obj}{K:cO (am (az c))->Act->Prop}(h:∀w,(execOp a.eval o).run Q w=.ok (.value (.P w.heap.size 0)) (w.alloc ob)/\listed Q b.fn a o w=#[])(k:∀n,K (my c mine w0 d l ((n,ob)::bs)) (a.put o.dst (.P n 0))):BS Q b o (my c mine w0 d l bs) a K:=by
 intro w γ w' q g hS i f;have hJ:=Held.on j hS i (dQ.rw f);obtain⟨p,m⟩:=h w';refine⟨_,_,my c mine w0 d l ((w'.heap.size,ob)::bs),.inl p,⟨?_,?_,.inl ⟨Y,⟨hJ.1.alloc (da (bR c)).np ob,hJ.2⟩,λb e _=>BW e,?_,?_⟩⟩,k _⟩
 .show cd mine ((w'.heap.size,ob)::bs)=grown (cd mine bs) w' (w'.alloc ob);rw[RS];exact cd.cons.symm
 .exact⟨λb e _ _=>BW e,BK,.refl _,Y,Y⟩
 .rw[m];exact trivial
 grind
def alN{d:gG}{l:ag.Lo At}(v:l.mx=.own)(s:kS l.al=false){pre post:uap}{b0:Nat}{bd new:dp}{o:Oper}{K:cO (am (az c))->Act->Prop}(h:∀w,w.heap[b0]?=some (.cells bd t)->(execOp a.eval o).run Q w=.ok .skip (w.setRow b0 new)/\∀e∈listed Q b.fn a o w,∃off,e.loc=.cell ⟨b0,off,none⟩/\e.sync=false)(k:K (my c mine w0 d l (pre++(b0,.cells new t)::post)) (a.put o.dst undef)):BS Q b o (my c mine w0 d l (pre++(b0,.cells bd t)::post)) a K:=by
 intro w γ w' z g hS u r;have hJ:=Held.on v hS u (dQ.rw r);have i:cd mine (pre++(b0,Obj.cells bd t)::post) b0:=.inr Ad;have A:cd mine (pre++(b0,Obj.cells new t)::post)=cd mine (pre++(b0,Obj.cells bd t)::post):=by grind[cd]
 obtain⟨y,p⟩:=h w' (hJ.1.c8 (b0,.cells bd t) Ad);have hg:grown (cd mine (pre++(b0,Obj.cells bd t)::post)) w' (w'.setRow b0 new)=cd mine (pre++(b0,Obj.cells bd t)::post):=kR (setRow_size _ _ _);refine⟨_,_,my c mine w0 d l (pre++(b0,.cells new t)::post),AA,⟨?_,?_,.inl ⟨Y,⟨hJ.1.row,hJ.2⟩,λb x j=>z3 _ _ ?_,?_,?_⟩⟩,k⟩
 .show cd mine (pre++(b0,.cells new t)::post)=grown (cd mine (pre++(b0,Obj.cells bd t)::post)) w' (w'.setRow b0 new);grind
 .exact⟨λk _ hk _=>z3 _ _ λe=>hk (e▸i),vbr (setRow_size _ _ _).symm,.refl _,Y,Y⟩
 .rintro rfl;exact hJ.1.fd b (.inr i) j
 .refine zV _ _ λe n d=>?_;obtain⟨off,m,q⟩:=p e AA;unfold tr;rw[m];refine .inl ⟨q,.inr (.inl ?_),s⟩;show grown (cd mine (pre++(b0,Obj.cells bd t)::post)) w' (w'.setRow b0 new) b0;simp_all
 .rintro⟨e,n,f⟩;obtain⟨off,m,q⟩:=p e n;rcases f with f|f|⟨_,f⟩|⟨_,f⟩|⟨_,k,hk,j⟩
  .grind
  .grind
  .grind
  .grind
  .rw[m]at hk;cases hk;exact hJ.1.fd b0 (.inr i) j
end
end
variable{v:Value}
section
section
variable{c:dD}{Q:b4}{Stop:Bool->ag.Lo At->aV->Prop}{m:Bool}{mine:dh}{w0:aS}{b:Frame}{ops:eY}
def IW(c:dD)(mine:dh)(w0:aS)(x:ubp)(σ:cO (am (az c))):Prop:=∃d l bs,l.mx=.own/\l.tok=true/\kS l.al=false/\x∈bs/\σ=my c mine w0 d l bs
def xX{x:ubp}:∀σ,IW c mine w0 x σ->sm σ:=by rintro _ ⟨d,l,bs,a,_,_,_,rfl⟩;exact lI (d:=d) a _ ⟨bs,Y⟩
def alP{x:ubp}:∀σ,IW c mine w0 x σ->∀w γ,σ.S w γ->σ.S {w with drawn:=w.drawn+1} γ:=by rintro _ ⟨d,l,bs,a,_,_,_,rfl⟩;exact IS (d:=d) (l:=l) _ ⟨bs,Y⟩
def alQ{x:ubp}{o:Oper}(k:Nat)(e:Region.wanted o (yielded ops a.tmps)=true)(hv:∀y,((az c).cells y)[k]?=some v)(h:∀w,w.cell? (.a c.st (k+2))=some v->(execOp a.eval o).run Q w=.ok (.value v) w/\listed Q b.fn a o w=#[⟨.cell ⟨c.st,k+2,none⟩,false,false⟩]):nu Q b ops (IW c mine w0 x) o v a:=by
 refine .inl ⟨e,?_⟩;rintro _ ⟨d,l,bs,i,ht,g,j,rfl⟩;rcases tF (c:=c) (Q:=Q) (mine:=mine) (w0:=w0) (b:=b) (ops:=ops) (d:=d) i ht g k e AA h with⟨_,f⟩|⟨f,_⟩
 .exact f _ ⟨bs,Y⟩
 grind
def alR{x:ubp}{o:Oper}(f:Region.wanted o (yielded ops a.tmps)=true)(h:∀w,w.heap[x.1]?=some x.2->(execOp a.eval o).run Q w=.ok (.value v) w/\∀e∈listed Q b.fn a o w,∃off,e=⟨.cell ⟨x.1,off,none⟩,false,false⟩):nu Q b ops (IW c mine w0 x) o v a:=by
 refine .inl ⟨f,?_⟩;rintro _ ⟨d,l,bs,q,ht,n,k,rfl⟩ w γ w' s g hS p m;have hJ:=Held.on q hS p (dQ.rw m);obtain⟨r,j⟩:=h w' (hJ.1.c8 x k);refine⟨r,zV _ _ λe i d=>?_,?_⟩
 .obtain⟨off,rfl⟩:=j e AA;exact .inl ⟨Y,.inr (.inl (.inr AA)),n⟩
 .rintro⟨e,i,f⟩;obtain⟨off,rfl⟩:=j e i;rcases f with f|f|⟨_,f⟩|⟨_,f⟩|⟨f,_⟩<;>cases f
def YN{l:ag.Lo At}{γ:ag.aO co}(h:hh (am (az c)) l γ){p:Nat}{q:uae}(d:l.al=.work (.has p) q):p<c.N:=by obtain⟨xs,ee,a,b⟩:=wq h;rw[d]at a;have g:=b.own p;have f:=nx (dt p) xs ee _ a;have e:=b.aT;grind[dt,hand]
def alS{l:ag.Lo At}{γ:ag.aO co}(h:hh (am (az c)) l γ){p:Nat}{q:uae}(e:c.cj p=false)(b:l.al=.work (.half p v) q):γ.al.came+c.rows p<=jb c.rows c.N:=by obtain⟨xs,ee,a,d⟩:=wq h;rw[b]at a;exact(d.count e a).ali
def alT{d:gG}{l:ag.Lo At}(s:l.mx=.own)(ht:l.tok=true){bs:uap}{o:Oper}{K:cO (am (az c))->Act->Prop}{q:uae}{p f1:Nat}(m:l.al=.work (.has p) q)(H:f1<l.fuel)(h:∀w D,w.heap[c.cP]?=some (.cells D c.Fq)->p<D.size->(execOp a.eval o).run Q w=.ok .skip (w.setCell ⟨c.cP,p,none⟩ v)/\listed Q b.fn a o w=#[⟨.cell ⟨c.cP,p,none⟩,true,false⟩])(k:K (my c mine w0 ⟨d.T,d.M,d.D.set p v,d.L⟩ ({l with al:=.work (.half p v) q,fuel:=f1}:ag.Lo At) bs) (a.put o.dst undef)):BS Q b o (my c mine w0 d l bs) a K:=by
 intro w γ w' f g hS r j;have hJ:=Held.on s hS r (dQ.rw j);have n:w'.heap[c.st]?=some (hH (az c) f.mu f.al)/\(az c).n_ f.al w':=j.mt;obtain⟨xs,ee,C,z⟩:=wq j.sees;have J:=YN j.sees m;have u:=n.2.2 trivial;obtain⟨I,t⟩:=h w' f.al.done.toArray u (by rw[veq,z.len.1];grind);have y:=alD n.1 n.2 p v;refine⟨undef,w'.setCell ⟨c.cP,p,none⟩ v,my c mine w0 ⟨d.T,d.M,d.D.set p v,d.L⟩ ({l with al:=.work (.half p v) q,fuel:=f1}:ag.Lo At) bs,AA,⟨?_,alp w' p none v,.inr ⟨({f with al:={f.al with done:=f.al.done.set p v},a_:=f.a_-1}:ag.aO co),⟨hJ.1.shared AA v,?_⟩,?_,y,?_,?_,?_,?_⟩⟩,k⟩
 .exact(kR (oO _ _ _)).symm
 .have e:=hJ.2;subst e;rfl
 .rw[t];exact⟨⟨.cell ⟨c.cP,p,none⟩,true,false⟩,Ad,.inr (.inr (.inr (.inr ⟨Y,c.cP,Y,.inr KK⟩)))⟩
 .exact RF (A:=az c) (bR c) j.sees (a1:=.work (.half p v) q) (b1:={f.al with done:=f.al.done.set p v}) (f1:=f1) (d1:=l.deaf) (mw:=l.tok) (λaA i hi hg=>hg.lay (by rw[<-m];exact hi)) (by show f1+c.C*(c.N-f.al.taken)+1<=l.fuel+c.C*(c.N-f.al.taken);omega) (λo a' r F=>⟨λe=>absurd e (by rw[r s];simp),⟨vac _,vac _⟩,AA⟩) Kl (λ_=>s)
 .rw[t];refine .inl ⟨Y,?_,Y,.inl ⟨Y,.inr (.inr ⟨.inr Y,ht⟩),?_⟩,PJ⟩
  .show kS (.work (.half p v) q)=kS l.al;rw[m];rfl
  .show kS l.al=false;rw[m];rfl
 .exact λE B=>B.imp id (λx=>⟨x.1,x.2⟩)
 .exact λe=>e.elim
end
end
end gg
end Go.Proofs.YtmlddfohidhniaaGreat
namespace Go.Conc
open Go.Proofs.YtmlddfohidhniaaGreat
variable{P:b4}{main:Bool}{b:Frame}{a:Act}{k:il}{cs:fV}{w:aS}
def sB(f:uaj)(cap:dp):Deferred:={target:=.fn (.func f) cap,args:=#[]}
def alV{ops:eY}{i:Nat}{rest:uaa}{o:Oper}{f:uaj}{x:uar}{cap:dp}{ats:uaq}(c:ops[i]?=some o)(e:Region.wanted o (yielded ops a.tmps)=true)(hk:b.kind≠ .early)(g:o.op=.defer {callee:=.value x,args:=#[],argTypes:=ats})(h:a.eval x=.func (.func f) #[] cap):
 stepG P main (G (b.at a (.inRegion ops (i::rest)::k)) cs) w=.go (G (b.at (Act.put ⟨a.tmps,sB f cap::a.defers⟩ o.dst undef) (.inRegion ops rest::k)) cs) w #[]:=by
 have j:(execOp a.eval o).run P w=.ok (.defer (sB f cap)) w:=by simp_all[execOp,resolve,Deferred.ofValue,sB]
 have l:(execOp a.eval o).events P w #[]=#[]:=by simp_all[execOp,resolve,Deferred.ofValue]
 have d:(b.at ⟨a.tmps,sB f cap::a.defers⟩ (.inRegion ops (i::rest)::k)).finish undef=b.at (Act.put ⟨a.tmps,sB f cap::a.defers⟩ o.dst undef) (.inRegion ops rest::k):=by rw[vde,c];rfl
 have m:(b.kind==CallKind.early)=false:=AA;rw[stepG_oper c e,<-d];simp_all[stepG.apply,G,Frame.at,GStep.after,vdy]
section
variable{todo:il}{ds:List Deferred}{f:uaj}{fn:Func}{cap:dp}
def alW{c:Code}(hd:a.defers=sB f cap::ds)(d:P.funcs[f]?=some fn)(h:(fn.name== "runtime.NumGoroutine")=false)(e:fn.body=some c):
 stepG P main (G {b.at a todo with mode:=.returning} cs) w=
  .go (G ((baseD f).at {tmps:=cap++Array.replicate (fn.ntmps-cap.size) undef,defers:=[]} [.code c]) ({b.at ⟨a.tmps,ds⟩ todo with mode:=.returning}::cs)) w #[]:=by
 have g:¬fn.name= "runtime.NumGoroutine" :=AA;rw[<-enter_atD cap d e];simp[G,stepG,unwind,callDeferred,Frame.at,hd,sB,invoke,callFunc,d,g,e,GStep.after,vdy]
end
def alX{ops:eY}{i:Nat}{rest:uaa}{o:Oper}{c:Frame}(d:ops[i]?=some o)(f:Region.wanted o (yielded ops a.tmps)=true)(hk:b.kind=.deferred)(hc:c.mode=.returning)(h:(execOp a.eval o).run P w=.ok .recover w)(g:listed P b.fn a o w=#[]):
 stepG P main (G (b.at a (.inRegion ops (i::rest)::k)) (c::cs)) w=.go (G (b.at (a.put o.dst .nilIface) (.inRegion ops rest::k)) (c::cs)) w #[]:=by
 have e:(b.at a (.inRegion ops (i::rest)::k)).finish .nilIface=b.at (a.put o.dst .nilIface) (.inRegion ops rest::k):=by rw[vde,d];rfl
 have ht:tryRecover (b.at a (.inRegion ops (i::rest)::k)) (c::cs)=none:=by grind[tryRecover,Frame.at]
 have j:(b.kind==CallKind.early)=false:=AA;rw[stepG_oper d f,<-e,<-g];simp_all[Frame.at,stepG.apply,G,GStep.after,listed]
end Go.Conc
namespace Go.Proofs.YtmlddfohidhniaaGreat
open Go.Proofs.Tryz
namespace gg
open Conc ConcM ax bp ag fq iu
theorem YO:∀{n:Nat}{l:uaa},l.Nodup->(∀p∈l,p<n)->l.length<=n
 |0,l,_,h=>by cases l with|nil=>simp|cons a l=>exact absurd (h a Ad) AP
 |n+1,l,hn,h=>by
  have b:(l.filter (· != n)).Nodup:=hn.filter _;have c:=YO (n:=n) b AA;have e:l.length<=(l.filter (· != n)).length+l.count n:=by clear h b c hn;induction l with|nil=>simp|cons a l d=>grind
  grind
section
variable{c:dD}
def alY{l:ag.Lo At}{γ:ag.aO co}(h:hh (am (az c)) l γ){p:Nat}{q:uae}(d:l.al=.work (.has p) q):q.length<c.N:=by
 obtain⟨xs,ee,b,a⟩:=wq h;rw[d]at b;have key:∀r,(p::q.map (·.1)).count r<=if r<γ.al.taken then 1 else 0:=λr=>by have f:=a.own r;grind[nx,dt,hand,nw]
 have f:=YO (n:=c.N) (l:=p::q.map (·.1)) AA (λr e=>by
  have:=key r;have i:=ven.2 e;have g:=a.aT;grind)
 grind
end
end gg
namespace jd
open Conc ConcM ax bp ag fq iu gg
variable{a:Act}{f:uaj}
section
section
variable{Z:fc}{mine M M':dh}{w0 w w1:aS}{bs:uap}
theorem je:cd M []=M:=by grind[cd]
def af.rk(h:af Z mine w0 bs w):af Z (cd mine bs) w [] w:=by
 refine⟨.refl _ _ _,Ad,λb a=>?_,λb a=>h.fd b (by simp_all[je]),Ad,Ad,λb a hK=>a.elim (λx=>h.uF b x hK) (λx=>h.sr b x (.inl hK))⟩;rcases a with a|(a|a)|a
 .exact h.lt b (.inl a)
 .exact h.lt b (.inr (.inl a))
 .exact h.RU a
 .exact h.lt b (.inr (.inr a))
structure iv(Z:fc)(M:dh)(w:aS)(M':dh)(w':aS):Prop where
 sub:∀b,M b->M' b
 rw:ah Z M w w'
 aD:af Z M' w' [] w'
theorem iv.heap(h:iv Z M w M' w1){b:Nat}{o:Obj}(c:M b)(a:w.heap[b]?=some o):w1.heap[b]?=some o:=(h.rw.heap b (.inr c)).trans a
theorem iv.trans{d:dh}{c:aS}(h:iv Z M w M' w1)(k:iv Z M' w1 d c):iv Z M w d c:=
 ⟨λb a=>k.sub b (h.sub b a),h.rw.trans ⟨λb a=>k.rw.heap b (a.imp id (h.sub b)),k.rw.size,k.rw.later,k.rw.output,k.rw.tape⟩,k.aD⟩
def iv.now(h:iv Z M w M' w1){a:aS}(k:af Z M' w1 [] a):iv Z M w M' a:=by refine⟨h.sub,h.rw.trans ⟨λb c=>k.rw.heap b (c.imp id (h.sub b)),k.rw.size,k.rw.later,k.rw.output,k.rw.tape⟩,?_⟩;have:=af.rk k;grind[je]
def iv.start(h:af Z mine w0 bs w)(k:iv Z (cd mine bs) w M' w1):iv Z mine w0 M' w1:=
 ⟨λb a=>k.sub b (.inl a),h.rw.trans ⟨λb a=>k.rw.heap b (a.imp id .inl),k.rw.size,k.rw.later,k.rw.output,k.rw.tape⟩,k.aD⟩
end
section
variable{c:dD}
def fE(c:dD)(l:ag.Lo At)(M:dh)(w0:aS):cO (am (az c)):=⟨l,M,λw _=>af (am (az c)) M w0 [] w⟩
def wu(c:dD)(l:ag.Lo At)(M:dh)(w0:aS):cO (am (az c)):=⟨l,M,λw γ=>af (am (az c)) M w0 [] w/\oc c.N γ.al⟩
def af.rel{l:ag.Lo At}{γ:ag.aO co}{M:dh}{w0 w w':aS}{g:uah}(h:af (am (az c)) M w0 [] w)(a:dQ (am (az c)) l γ ⟨g,w,M⟩ w'):af (am (az c)) M w0 [] w':=
 h.on (by rw[je];exact dQ.rw a)
def YP(l:ag.Lo At)(M:dh)(w0:aS):sm (fE c l M w0):=λ_ _ _ _ _ h _ a=>af.rel h a
def Mx(c:dD)(x y:ubp)(σ:cO (am (az c))):Prop:=∃l M w0,kS l.al=false/\(M x.1/\w0.heap[x.1]?=some x.2)/\(M y.1/\w0.heap[y.1]?=some y.2)/\σ=fE c l M w0
def z5{x y:ubp}:∀σ,Mx c x y σ->sm σ:=by rintro _ ⟨l,M,w0,_,_,_,rfl⟩;exact YP _ _ _
def alZ{x y:ubp}:∀σ,Mx c x y σ->∀w γ,σ.S w γ->σ.S {w with drawn:=w.drawn+1} γ:=by rintro _ ⟨l,M,w0,_,_,_,rfl⟩ w γ h;exact⟨h.rw.trans ⟨λ_ _=>Y,vac _,.refl _,Y,Y⟩,h.c8,h.lt,h.fd,h.sr,h.ib,h.uF⟩
variable{Q:b4}{Stop:Bool->ag.Lo At->aV->Prop}{m:Bool}{b:Frame}{ops:eY}
def My{x y z:ubp}(s:z=x\/z=y){o:Oper}{v:Value}(f:Region.wanted o (yielded ops a.tmps)=true)(h:∀w,w.heap[z.1]?=some z.2->(execOp a.eval o).run Q w=.ok (.value v) w/\∀e∈listed Q b.fn a o w,∃off,e=⟨.cell ⟨z.1,off,none⟩,false,false⟩):nu Q b ops (Mx c x y) o v a:=by
 refine .inl ⟨f,?_⟩;rintro _ ⟨l,M,w0,n,u,t,rfl⟩ w γ w' r g hS p m;have hJ:=YP (c:=c) l M w0 w γ w' r g hS p m;have i:M z.1/\w0.heap[z.1]?=some z.2:=AA;obtain⟨q,k⟩:=h w' ((hJ.rw.heap z.1 (.inr i.1)).trans i.2);refine⟨q,zV _ _ λe j d=>?_,?_⟩
 .obtain⟨off,rfl⟩:=k e AA;exact .inl ⟨Y,.inr (.inl i.1),n⟩
 .rintro⟨e,j,f⟩;obtain⟨off,rfl⟩:=k e j;rcases f with f|f|⟨_,f⟩|⟨_,f⟩|⟨f,_⟩<;>cases f
def z6{Z:fc}{Stop:Bool->Z.Lo->aV->Prop}{σ:cO Z}{K:cO Z->Act->Prop}{o:Oper}{args:dp}{V:Value->cO Z->Prop}(h:∀w,(execOp a.eval o).run Q w=.ok (.enter f args) w/\listed Q b.fn a o w=#[])(hc:jJ Q Stop m f args σ V)(k:∀u c,V u c->K c (a.put o.dst u)):RH Q Stop m b o σ a K:=
 ⟨f,args,V,λw γ w' d g _ _ _=>⟨(h w').1,by rw[(h w').2];exact trivial,AA⟩,hc,k⟩
def rl{o:Oper}{fn:Func}{d:Code}{args:uaw}{ats:uaq}(c:o.op=.call {callee:=.value (.func f),args,argTypes:=ats})(g:Q.funcs[f]?=some fn)(e:(fn.name== "runtime.NumGoroutine")=false)(h:fn.body=some d){vs:dp}(hv:args.map a.eval=vs)(w:aS):(execOp a.eval o).run Q w=.ok (.enter f vs) w/\listed Q b.fn a o w=#[]:=by
 grind[run_call_body,listed,events_call_body,seen_none]
def R4{o:Oper}{r:uar}{name:String}{args:uaw}{ats:uaq}(c:o.op=.call {callee:=.invoke r name,args,argTypes:=ats}){w:aS}{n:Next}{rv:Value}{vs:dp}(d:a.eval r=rv)(hv:args.map a.eval=vs)(h:(callMethod rv name vs).run Q w=.ok n w/\(callMethod rv name vs).events Q w #[]=#[]):(execOp a.eval o).run Q w=.ok n w/\listed Q b.fn a o w=#[]:=by
 subst hv;subst d;obtain⟨g,f⟩:=h;unfold listed;have e:execOp a.eval o=callMethod (a.eval r) name (args.map a.eval):=by unfold execOp;simp only[c,resolve,invoke];generalize args.map a.eval=u;simp_all[Array.getElem?_append_left]
 grind[seen_none]
def MA{Z:fc}{Stop:Bool->Z.Lo->aV->Prop}(e:∀l g g1,¬Z.oK l g g1){σ:cO Z}{γ:Z.aO}{w d:aS}{V:Value->cO Z->Prop}{o:Oper}{args:dp}{i:Nat}{rest:uaa}{k:il}{cs:fV}(n:ops[i]?=some o)(j:Region.wanted o (yielded ops a.tmps)=true)(hk:b.kind≠ .early)(h:(execOp a.eval o).run Q w=.ok (.enter f args) w/\listed Q b.fn a o w=#[])(hc:jJ Q Stop m f args σ V)(hS:σ.S w γ)(hK:∀u c,V u c->∀w γ,c.S w γ->bg Z Q Stop m c.l γ ⟨G (b.at (a.put o.dst u) (.inRegion ops rest::k)) cs,w,c.mine⟩):Then (Z:=Z) Q Stop m σ.l γ ⟨G (b.at a (.inRegion ops (i::rest)::k)) cs,d,σ.mine⟩ w:=by
 refine R2 e (stepG_enter n j hk h.1) Y h.2 (hc b a ops i rest k cs (λu c hv p q r=>?_) w γ hS);grind
def pJ(c:dD)(cb w:aS):Prop:=∀b,c.K b->w.heap[b]?=cb.heap[b]?
def pJ.more{cb w w':aS}{M M':dh}(h:pJ c cb w)(d:iv (am (az c)) M w M' w'):pJ c cb w':=λb a=>(d.rw.heap b (.inl a)).trans (h b a)
def pJ.aD{cb w0 w:aS}{M:dh}{bs:uap}(h:pJ c cb w0)(k:af (am (az c)) M w0 bs w):pJ c cb w:=λb a=>(k.rw.heap b (.inl a)).trans (h b a)
structure uM(c:dD)(cb:aS)(Q:b4)(Stop:Bool->ag.Lo At->aV->Prop)(B2:uaj)(gH:Value)(kT:uaj)(iw:Value)(fr aU:uas)(mQ cW:uaf):Prop where
 inv:∀(args:dp)(w:aS),(callMethod gH "Piece" args).run Q w=.ok (.enter kT (#[iw]++args)) w/\(callMethod gH "Piece" args).events Q w #[]=#[]
 al0:∀T l M w0,T<c.N->kS l.al=false->af (am (az c)) M w0 [] w0->pJ c cb w0->jJ Q Stop false kT #[iw,.I (fr T:Int),.I (aU T:Int)] (fE c l M w0) (λu bW=>∃M' w1,iv (am (az c)) M w0 M' w1/\mQ T u M' w1/\bW=fE c l M' w1)
 al1:∀T l M w0 u,T<c.N->kS l.al=false->af (am (az c)) M w0 [] w0->pJ c cb w0->mQ T u M w0->jJ Q Stop false B2 #[u] (fE c l M w0) (λv bW=>∃M' w1,iv (am (az c)) M w0 M' w1/\cW T v M' w1/\bW=fE c l M' w1)
 slice:∀T v M w,cW T v M w->∃s bq,v=.slice s (c.rows T) bq
 kJ:∀T,c.cj T=false
 mono:∀T v M w M' w',cW T v M w->(∀b,c.K b\/M b->w'.heap[b]?=w.heap[b]?)->(∀b,M b->M' b)->cW T v M' w'
def oe(c:dD)(cW:uaf)(q:uae)(M:dh)(w:aS):Prop:=∀x∈q,c.cj x.1=false->cW x.1 x.2 M w
def oe.more{g kT:uaj}{f b:Value}{fr aU:uas}{mQ cW:uaf}{cb:aS}(J:uM c cb Q Stop g f kT b fr aU mQ cW){q:uae}{M M':dh}{w w':aS}(h:oe c cW q M w)(a:iv (am (az c)) M w M' w'):oe c cW q M' w':=
 λx d e=>J.mono _ _ _ _ _ _ (h x d e) a.rw.heap a.sub
end
end
end jd
namespace dm
open Conc ConcM ax bp ag fq iu gg jd
section
section
variable{Z:fc}{Q:b4}{Stop:Bool->Z.Lo->aV->Prop}{m:Bool}{l:Z.Lo}
def YQ(G:Z.Good)(x:Z.past l=false)(T:∀g g1,¬Z.oK l g g1){post:aV->Prop}{X:aV}{K':dh}(h:jD Q m K' post X):
 ∀(γ:Z.aO)(fr:dh),(∀b,K' b->Z.K b\/fr b)->X.g.status=.running->(∀b,X.mine b\/fr b->¬Z.gT b)->(∀b,fr b->¬X.mine b/\¬Z.K b/\b<X.w.heap.size)->(∀b,Z.gT b->b<X.w.heap.size)->(∀b,Z.K b->b<X.w.heap.size/\¬X.mine b)->
  (∀(Y:aV)(p:Z.aO),post Y->Z.dZ l γ p->Y.g.status=.running->(∀b,Y.mine b\/fr b->¬Z.gT b)->(∀b,fr b->¬Y.mine b/\b<Y.w.heap.size/\Y.w.heap[b]?=X.w.heap[b]?)->X.w.heap.size<=Y.w.heap.size->
   (∀b,Z.K b->¬Y.mine b/\Y.w.heap[b]?=X.w.heap[b]?)->(∀b,X.mine b->Y.mine b)->(∀b,Y.mine b->X.mine b\/(X.w.heap.size<=b/\b<Y.w.heap.size))->OsLater X.w.os Y.w.os->Y.w.output=X.w.output->Y.w.tape=X.w.tape->bg Z Q Stop m l p (qf Y fr))->bg Z Q Stop m l γ (qf X fr):=by
 induction h with
 |done h=>intro γ fr _ hs y r _ w k;exact k _ γ h (G.refl _ _) hs y AA JT AA (λ_ h=>h) AA (.refl _) rfl rfl
 |@step X ok U F=>
  intro γ fr n hs y r hsz w k;refine bg.mk hs λw' p H i=>?_;have o:j5 K' X w':=⟨λb f=>i.rely.heap b (f.elim (λh=>(n b h).imp id .inr) (λh=>.inr (.inl h))),i.rely.size,i.rely.env⟩;obtain⟨g1,w1,es,hst,hg⟩:=ok w' o;have V:∀b,grown X.mine w' w1 b->¬Z.gT b:=by
   rintro b (f|⟨f,_⟩)
   .grind
   .intro hS;have:=hsz b hS;have:=i.rely.size;grind[qf]
  have W:∀b,fr b->¬grown X.mine w' w1 b:=by
   rintro b f (h|⟨h,_⟩)
   .grind
   .have:=(r b f).2.2;have:=i.rely.size;grind[qf]
  have J:∀b,fr b->w1.heap[b]?=X.w.heap[b]?:=λb f=>by have c:=i.rely.heap b (.inr (.inr f));simp[qf]at c;rw[<-c];refine hg.kept b ?_ (r b f).1;grind
  have R:(⟨g1,w1,grown (qf X fr).mine w' w1⟩:aV)=qf ⟨g1,w1,grown X.mine w' w1⟩ fr:=by
   unfold qf;congr 1
   grind[grown]
  refine .quiet hst ⟨hg.run,⟨λb f D _=>hg.kept b f λh=>D (.inl h),hg.size,by rw[hg.os];exact .refl _,hg.output,hg.tape⟩,λb f hS=>hg.kept b f AA,zV _ _ λe z d=>?_,?_⟩ ?_
  .have:=hg.evs e AA;unfold xB at this;unfold tr;cases q:e.loc with
   |cell a=>
    rw[q]at this;obtain⟨c,t,s⟩:=this;refine .inl ⟨s,?_,x⟩;cases j:e.write with
    |true=>exact .inr (.inl ((t j).imp .inl id))
    |false=>
     rcases c with c|c
     .rcases n _ c with h|h
      .grind
      .exact .inr (.inl (.inl (.inr h)))
     .exact .inr (.inl (c.imp .inl id))
   |obj a=>
    rw[q]at this;obtain⟨c,t,s⟩:=this;refine⟨s,?_,x⟩;cases j:e.write with
    |true=>exact .inr ((t j).imp .inl id)
    |false=>
     rcases c with c|c
     .rcases n _ c with h|h
      .grind
      .exact .inr (.inl (.inr h))
     .exact .inr (c.imp .inl id)
   |mark mk=>rw[q]at this;cases mk<;>first|exact .inl this|grind
   |output=>trivial
   |goroutines=>grind
  .rintro(⟨e,z,j⟩|h)
   .have:=hg.evs e z;unfold xB at this;rcases j with h|h|⟨a,h⟩|⟨a,h⟩|⟨j,b,f,hS⟩
    .grind
    .grind
    .grind
    .grind
    grind[fg]
   grind
  .rw[R];have S:X.w.heap.size<=w1.heap.size:=vad i.rely.size hg.size;refine F w' g1 w1 es o hst p fr n hg.run AA AA AA (λb hK=>⟨AA,?_⟩) ?_
   .rintro(h|⟨h,_⟩)
    .grind
    .have:=(w b hK).1;have:=o.size;omega
   intro Y B E C N P YR I A M O L v u;refine k Y B E (G.trans _ _ _ _ H C) N P AA AA (λb hK=>⟨(A b hK).1,?_⟩) (λb h=>M b (.inl h)) (λb h=>?_) ?_ ?_ ?_
   .have c:=i.rely.heap b (.inl hK);simp[qf]at c;rw[(A b hK).2,<-c];exact hg.kept b AA (w b hK).2
   .have K:X.w.heap.size<=w'.heap.size:=o.size;rcases O b h with(h|h)|h
    .grind
    .grind
    grind
   .exact(show OsLater X.w.os w'.os from i.later).trans (by rw[<-hg.os];grind)
   .rw[v];exact hg.output.trans i.output
   .rw[u];exact hg.tape.trans i.tape
end
def de(_:Nat):Prop:=False
structure R8(C:cH)(dE G:dh)(w:aS)(R:uab)(v':Value)(wv:dh)(w':aS)(ρ:Ren)(w1:aS)(v:Value):Prop where
 post:R v w1
 val:ar ρ v v'
 world:∃S,eL C S ρ w1 w'
 le:Ren.le (eS (λb=>dE b\/G b) de) ρ
 dom:∀a b,ρ.rel a b->dE b\/wv b
 sub:∀b,G b->wv b
 old:∀a b,ρ.rel a b->a=b\/w.heap.size<=b
section
variable{c:dD}{Stop:Bool->ag.Lo At->aV->Prop}{m:Bool}
def YT{P:b4}{upd:Bool}(D:(ej P upd).Good)(W:upd=false){f:uaj}{fn:Func}{C:Code}(z:P.funcs[f]?=some fn)(hk:iK P upd fn=true)(d:fn.body=some C)(B:B0 fn=true){l:ag.Lo At}(X:kS l.al=false){dE G M:dh}{w0:aS}(U:∀b,dE b->c.K b)(hG:∀b,G b->M b)(hg:∀g,g<=P.globals.size->dE g){args:dp}(A:aJ (eS (λb=>dE b\/G b) de) args args){R:ubn}(E:io (ej P upd) (λb=>dE b\/G b) de w0)(V:∀w,(∀b,dE b\/G b->w.heap[b]?=w0.heap[b]?)->∀i,gP (ej P upd) (λb=>dE b\/G b) de w i->∀T,Calls (ae P upd) f args {i with tape:=T} (λe w1=>∃v,e=.returned v/\R i v w1)):
 jJ P Stop m f args (fE c l M w0) (λu F=>∃p M' w',(∃w i ρ w1 v,(∀b,dE b\/G b->w.heap[b]?=w0.heap[b]?)/\gP (ej P upd) (λb=>dE b\/G b) de w i/\R8 (ej P upd) dE G w (R i) u p w' ρ w1 v)/\(∀b,p b->M' b)/\iv (am (az c)) M w0 M' w'/\F=fE c l M' w'):=by
 intro a4 aF aC aK aM aH csZ L w γ hS;have hF:af (am (az c)) M w0 [] w:=hS;have r:=da (bR c);have K:∀b,dE b\/G b->w.heap[b]?=w0.heap[b]?:=λb d=>hF.rw.heap b AA;have J:io (ej P upd) (λb=>dE b\/G b) de w:=λb d=>by obtain⟨o,h1,h2⟩:=E b d;grind
 obtain⟨i,q⟩:=HV (ej P upd) (λb=>dE b\/G b) de w;have y:=jD.more (K':=λb=>dE b\/G b) AA (R0 D z hk d B J AA AA A (R:=R i) q AA m (a4.at aF (.inRegion aC (aK::aM)::aH)) csZ);have S:(⟨a0 (Frame.enter P f args .normal) (a4.at aF (.inRegion aC (aK::aM)::aH)::csZ),w,M⟩:aV)=qf ⟨a0 (Frame.enter P f args .normal) (a4.at aF (.inRegion aC (aK::aM)::aH)::csZ),w,de⟩ M:=by
  unfold qf;congr 1
  funext b
  exact propext ⟨.inr,λh=>h.resolve_left (λx=>x)⟩
 show bg _ _ _ _ l γ ⟨a0 (Frame.enter P f args .normal) (a4.at aF (.inRegion aC (aK::aM)::aH)::csZ),w,M⟩;rw[S];have k:∀b,M b->¬(am (az c)).gT b:=λb h=>hF.fd b (.inr (.inl h));refine YQ r AA (λ_ _ h=>h) y γ M AA rfl (λb d=>k b (d.resolve_left (λx=>x))) (λb d=>⟨λx=>x,hF.uF b d,hF.lt b (.inr (.inl d))⟩) (λb hS=>hF.lt b (.inr (.inr hS))) (λb hK=>⟨hF.lt b (.inl hK),λx=>x⟩) ?_;rintro Y I ⟨ρ,w1,v,t,j⟩ Z R6 MB YR hsz H R7 N s Q O;have hsz':w.heap.size<=Y.w.heap.size:=hsz;have n:iv (am (az c)) M w0 (λb=>Y.mine b\/M b) Y.w:=by
  refine⟨AA,hF.rw.trans ⟨λb d=>?_,hsz,s,Q,O⟩,.refl _ _ _,Ad,λb d=>?_,λb d=>?_,Ad,Ad,λb d hK=>?_⟩
  .grind
  .rcases d with h|(h|h)|h
   .exact vap (hF.lt b (.inl h)) hsz'
   .exact(N b h).elim (λx=>x.elim) (λx=>x.2)
   .grind
   .exact vap (hF.lt b (.inr (.inr h))) hsz'
  .rw[je]at d;rcases d with h|h
   .exact r.np b h
   grind
  .rcases d with h|h
   .grind
   .exact hF.uF b h hK
 have:=L t (fE c l (λb=>Y.mine b\/M b) Y.w) ⟨λb=>G b\/Y.mine b,_,Y.w,⟨w,i,ρ,w1,v,K,q,j.post,j.val,j.world,j.le,λa b h=>?_,AA,λa b h=>?_⟩,AA,n,rfl⟩ Y.w I n.aD
 .unfold qf;have e:=j.g;rw[vde]at e;rw[e];exact this
 .rcases j.dom a b h with h|h
  .grind
  grind
 .rcases j.old a b h with h|h
  .exact .inl h.1
  grind
end
end
def B3(R:uaz):Prop:=∀(ρ:Ren)(w w':aS)(v v':Value),Carry ρ w w'->ar ρ v v'->R w v->R w' v'
def pK(C:cH)(dE X:dh)(R:uaz)(u:Value)(M:dh)(w:aS):Prop:=
 ∃G:Nat->Prop,(∀b,G b->M b/\¬X b)/\io C (λb=>dE b\/G b) de w/\ar (eS (λb=>dE b\/G b) de) u u/\R w u
variable{w w':aS}
section
variable{C:cH}{dE X:dh}
theorem uN{D:dh}(h:io C D de w)(e:∀b,D b->w'.heap[b]?=w.heap[b]?):io C D de w':=λb a=>by obtain⟨o,d,c⟩:=h b a;grind
def tJ{D:dh}(l:∀b,D b->w'.heap[b]?=w.heap[b]?)(j:io C D de w):Carry (eS D de) w w':=by
 refine⟨?_,λb s es k⟨r,hd⟩ e=>?_⟩
 .rintro a a' v ⟨⟨q,hd⟩,p,o⟩ hv;obtain⟨c,e,fr,i,m,g⟩:=xq hv;rw[q]at i;have n:=(l _ hd).trans i;refine⟨v,mj n (o▸m) (p▸g),?_⟩;obtain⟨ob,f,d⟩:=j _ hd;rw[i]at f;cases f;rcases d with d|d
  .cases d with|cells _ hc _=>exact hc.get _ _ _ g g
  .exact d.elim
 .subst r;obtain⟨ob,f,d⟩:=j _ hd;rw[e]at f;cases f;rcases d with d|d
  .cases d with|map _ h=>exact⟨es,(l _ hd).trans e,h⟩
  .exact d.elim
theorem pK.mono{R:uaz}(f:B3 R){u:Value}{M M':dh}(h:pK C dE X R u M w)(j:∀b,dE b\/M b->w'.heap[b]?=w.heap[b]?)(i:∀b,M b->M' b):pK C dE X R u M' w':=by obtain⟨G,g,d,c,e⟩:=h;have a:∀b,dE b\/G b->w'.heap[b]?=w.heap[b]?:=AA;exact⟨G,AA,uN d a,c,f _ _ _ _ _ (tJ a d) c e⟩
def R8.YX{G:dh}{R:uab}{d:Value}{e M':dh}{ρ:Ren}{w1:aS}{v:Value}(h:R8 C dE G w R d e w' ρ w1 v)(l:∀b,e b->M' b/\¬X b){Q:uaz}(i:B3 Q)(j:Q w1 v):pK C dE X Q d M' w':=by
 obtain⟨S,g⟩:=h.world;have f:(λb=>dE b\/((∃a,ρ.rel a b)/\¬dE b))=λb=>∃a,ρ.rel a b:=by
  funext b
  apply propext;constructor
  .rintro(c|c)
   .exact⟨b,h.le.1 b b ⟨Y,.inl c⟩⟩
   grind
  grind
 refine⟨λb=>(∃a,ρ.rel a b)/\¬dE b,λb c=>?_,?_,?_,i ρ w1 w' v d g.carry h.val j⟩
 .obtain⟨⟨a,k⟩,hk⟩:=c;exact l b ((h.dom a b k).resolve_left hk)
 .rw[f];exact g.closed de
 .rw[f];exact ar.right (σ:=eS (λb=>∃a,ρ.rel a b) de) (λa b m=>⟨Y,a,m⟩) h.val
end
theorem jJ.mono{Z:fc}{Q:b4}{Stop:Bool->Z.Lo->aV->Prop}{m:Bool}{f:uaj}{args:dp}{σ:cO Z}{V a:Value->cO Z->Prop}(h:jJ Q Stop m f args σ V)(c:∀u b,V u b->a u b):jJ Q Stop m f args σ a:=
 λa4 aF aC aK aM aH csZ hK w γ hS=>h a4 aF aC aK aM aH csZ AA w γ hS
def og{ρ:Ren}{l:uad}(h:∀v∈l,ar ρ v v):aJ ρ l.toArray l.toArray:=by apply aJ.K9;induction l with|nil=>exact .nil|cons a l b=>exact .cons (h a Ad) AA
def YY{P:b4}{upd:Bool}(S:(ej P upd).Good)(q:upd=false){kT L:uaj}{o n:Func}{J I:Code}(H:P.funcs[kT]?=some o)(F:iK P upd o=true)(E:o.body=some J)(D:B0 o=true)(C:P.funcs[L]?=some n)(B:iK P upd n=true)(A:n.body=some I)(z:B0 n=true){Stop:Bool->ag.Lo At->aV->Prop}{c:dD}{cb:aS}{dE:dh}(p:∀b,dE b->c.K b)(hg:∀g,g<=P.globals.size->dE g)(Y:io (ej P upd) (λb=>dE b\/de b) de cb){y i:Value}{fr aU:uas}(hinv:∀(args:dp)(w:aS),(callMethod y "Piece" args).run P w=.ok (.enter kT (#[i]++args)) w/\(callMethod y "Piece" args).events P w #[]=#[])(aC5:ar (eS (λb=>dE b\/de b) de) i i){B5 B6:uau}(K:∀T,B3 (B5 T))(X:∀T,B3 (B6 T))(fF:∀T,T<c.N->∀w,(∀b,dE b\/de b->w.heap[b]?=cb.heap[b]?)->∀a,gP (ej P upd) (λb=>dE b\/de b) de w a->∀j,Calls (ae P upd) kT #[i,.I (fr T:Int),.I (aU T:Int)] {a with tape:=j} (λe w1=>∃v,e=.returned v/\B5 T w1 v))(pw:∀T,c.cj T=false)(cz:∀T,T<c.N->∀a u,B5 T a u->∀j,Calls (ae P upd) L #[u] {a with tape:=j} (λe w1=>∃v,e=.returned v/\B6 T w1 v))(LW:∀T w v,B6 T w v->∃s bq,v=.slice s (c.rows T) bq):
 uM c cb P Stop L y kT i fr aU (λT u M w=>pK (ej P upd) dE c.K (B5 T) u M w) (λT v M w=>pK (ej P upd) dE c.K (B6 T) v M w):=by
 refine⟨hinv,λT l M w0 O r hk Q=>?_,λT l M w0 u O r hk Q hm=>?_,λT v M w h=>?_,pw,λT v M w M' w' h W dI=>pK.mono (X T) h AA dI⟩
 .have W:∀b,dE b\/de b->w0.heap[b]?=cb.heap[b]?:=λb d=>Q b (p b (d.resolve_right (λx=>x)));refine jJ.mono (YT S q H F E D r (G:=de) (M:=M) p (λb h=>h.elim) hg (R:=λ_ v w1=>B5 T w1 v) (og λv hv=>?_) (uN Y W) AA) ?_
  .simp at hv;rcases hv with rfl|rfl|rfl
   .grind
   .exact .int _ _
   .exact .int _ _
  .rintro u bW ⟨Z,M',w',⟨w,a,ρ,w1,v,_,_,k⟩,m,f,rfl⟩;exact⟨M',w',f,k.YX (λb d=>⟨m b d,λx=>f.aD.uF b (m b d) x⟩) (K T) k.post,rfl⟩
 .obtain⟨G,h1,t,V,U⟩:=hm;refine jJ.mono (YT S q C B A z r (G:=G) (M:=M) p AA hg (R:=λ_ v w1=>B6 T w1 v) (og λv hv=>?_) t (λw N a aN j=>cz T O a u ?_ j)) ?_
  .grind
  .have ca:=uN t N;exact K T _ _ _ _ _ (aN.carry ca (.inl q)) V (K T _ _ _ _ _ (tJ N t) V U)
  .rintro u bW ⟨Z,M',w',⟨w,a,ρ,w1,v,_,_,k⟩,m,f,rfl⟩;exact⟨M',w',f,k.YX (λb d=>⟨m b d,λx=>f.aD.uF b (m b d) x⟩) (X T) k.post,rfl⟩
 .obtain⟨G,_,_,_,U⟩:=h;grind
end dm
namespace bS
open Conc ConcM RowKit ax bp ag fq iu gg jd dm
abbrev aZ:=List Int×List cR
def Sc(w:aS)(rd:ual)(r:aZ):Prop:=∃pv jH,rd 0=some pv/\rd 1=some jH/\dP w pv r.1/\i8 w jH r.2
abbrev fG(w:aS):=aX w 2 Sc
def ami:ww Q9:=by rintro ρ w w' rd j x-hr ⟨h0,g,f,e,d⟩;obtain⟨v0,a,b0⟩:=hr 0 _ h0;obtain⟨v1,a1,b1⟩:=hr 1 _ g;obtain⟨v2,c,i⟩:=hr 2 _ f;obtain⟨v3,b,h⟩:=hr 3 _ e;rw[b0.YW]at a;rw[b1.tI]at a1;rw[i.tI]at c;rw[h.YV]at b;exact⟨a,a1,c,b,d⟩
def qo:ww Sc:=by rintro ρ w w' rd h x hc a ⟨pv,i,h0,f,e,d⟩;obtain⟨c,g,b0⟩:=a 0 _ h0;obtain⟨b,a1,b1⟩:=a 1 _ f;exact⟨c,b,g,a1,ax.aX.carry wx hc b0 e,ax.aX.carry ami hc b1 d⟩
theorem wy:pm Q9:=λ_ _ _ _ _ _ a h=>⟨a _ _ h.1,a _ _ h.2.1,a _ _ h.2.2.1,a _ _ h.2.2.2.1,h.2.2.2.2⟩
def qp:pm Sc:=λ_ _ _ _ _ hk a⟨pv,b,h0,e,d,c⟩=>⟨pv,b,a _ _ h0,a _ _ e,d.mono j6 hk,c.mono wy hk⟩
def YZ(xs:ubf):∀j(h:j<xs.length),(two xs)[j*2]?=some xs[j].1/\(two xs)[j*2+1]?=some xs[j].2:=by induction xs with|nil=>grind|cons a l b=>intro j h;cases j with|zero=>exact⟨Y,Y⟩|succ j=>have:=b j AA;rw[show(j+1)*2=j*2+1+1 from AP];exact this
variable{v:Value}{w:aS}
def MI{Row:uau}{nZ N:Nat}(h:zJ Row nZ N v w)(rs:List aZ)(a7:rs.length=N)(hs:N<=9223372036854775807)(b:∀j(h:j<rs.length) p q,Row j w (.agg #[p,q])->dP w p rs[j].1/\i8 w q rs[j].2):fG w v rs:=by
 obtain⟨xs,k,d,c⟩:=h;subst a7;rcases d.2 with⟨rfl,h0⟩|⟨g,cap,bd,rfl,-,hg,-,-,-,ht⟩
 .grind[aX.nil]
 .refine⟨_,cap,Y,hs,λi hi=>⟨g,0,Y,?_⟩⟩;have a:i<xs.length:=AP;have e:=b i hi _ _ (c i a);have f:=YZ xs i a;have hc:∀o v,(two xs)[o]?=some v->w.cell? (.a g o)=some v:=by grind[World.cell?]
  refine⟨xs[i].1,xs[i].2,?_,?_,e⟩
  .grind
  grind
def amj{pl:uay}{vs:List cR}{p q:Value}(h:LZ pl vs w (.agg #[p,q]))(c:pl.length<=9223372036854775807)(hv:vs.length<=9223372036854775807)(ht:∀d∈vs,d.text.size<=9223372036854775807):dP w p pl/\i8 w q vs:=by obtain⟨a,bv,b,cs,e,g,l,f,k,j⟩:=h;simp at e;obtain⟨rfl,rfl⟩:=e;refine⟨⟨_,_,Y,c,λi hi=>⟨a,0,Y,?_⟩⟩,i8.eN f hv ht j _⟩;show w.cell? (.a a (0+i*1+0))=_;rw[g.rules.1];have:b[0+i*1+0]?=b.toList[i]?:=Ad;grind
def wz(t:List aG)(fr aU:Nat)(w:aS)(u:Value):Prop:=
 ∃hU gD bs v,u=.func (.func 208) #[] #[.P hU 0,.P gD 0,.P bs 0]/\
  w.cell? (.a hU 0)=some (.I fr)/\w.cell? (.a gD 0)=some (.I aU)/\w.cell? (.a bs 0)=some v/\nX w v t
def Sd{ρ:Ren}{b:Nat}(h:ar ρ (.P b 0) v):∃a,v=.P a 0/\dr ρ ⟨b,0,none⟩ ⟨a,0,none⟩:=by cases h with|@ptr _ a' k=>obtain⟨a,o',s'⟩:=a';obtain⟨e,d,c⟩:=k;simp only at e d c;subst d;subst c;exact⟨a,Y,e,Y,Y⟩
def Y0{ρ:Ren}{f:uaj}{b1 g e:Nat}(h:ar ρ (.func (.func f) #[] #[.P b1 0,.P g 0,.P e 0]) v):
 ∃c1 bH dB,v=.func (.func f) #[] #[.P c1 0,.P bH 0,.P dB 0]/\dr ρ ⟨b1,0,none⟩ ⟨c1,0,none⟩/\dr ρ ⟨g,0,none⟩ ⟨bH,0,none⟩/\dr ρ ⟨e,0,none⟩ ⟨dB,0,none⟩:=by
 cases h with|@func fn o a a' b n j k d s c=>cases j;obtain⟨l⟩:=a';obtain⟨m⟩:=n;simp only[veq,List.length_nil,vdm]at k d;have i:l=[]:=AA;subst i;match m,d with| [x,y,z],_=>obtain⟨c1,rfl,r⟩:=Sd (c 0 _ x Y Y);obtain⟨bH,rfl,q⟩:=Sd (c 1 _ y Y Y);obtain⟨dB,rfl,p⟩:=Sd (c 2 _ z Y Y);grind
def amk(t:List aG)(fr aU:Nat):B3 (wz t fr aU):=by rintro ρ w w' u o hc e ⟨p,q,bs,v,rfl,i,h,g,f⟩;obtain⟨c1,bH,dB,rfl,d,c,b⟩:=Y0 e;obtain⟨r,a1,m⟩:=hc.cell _ _ _ d i;obtain⟨ed,a,l⟩:=hc.cell _ _ _ c h;obtain⟨j,n,k⟩:=hc.cell _ _ _ b g;rw[m.tI]at a1;rw[l.tI]at a;exact⟨c1,bH,dB,j,Y,a1,a,n,ax.aX.carry xY hc k f⟩
def Y1(rs:List aZ):B3 (λw v=>fG w v rs):=λ_ _ _ _ _ hc hv h=>ax.aX.carry qo hc hv h
def aml:(ae prog false).funcs[(206:Nat)]?=some f206:=bw (upd:=false) func206 AJ
def amm(t:List aG)(v:Value)(fr aU:Nat)(w:aS)(hv:nX w v t):
 Calls (ae prog false) 206 #[.agg #[v],.I fr,.I aU] w λe w'=>∃u,e=.returned u/\wz t fr aU w' u:=by
 obtain⟨a,cap,rfl,-,-⟩:=id hv;go_enter aml,ntmps206
 go_wp2
 go_ret
 have b1:=((ai.new w #[.slice a t.length cap] 112).alloc (.cells #[.I (fr:Int)] 3)).alloc (.cells #[.I (aU:Int)] 3);have c:=(ai.new (w.alloc (.cells #[.slice a t.length cap] 112)) #[.I (fr:Int)] 3).alloc (.cells #[.I (aU:Int)] 3);have b:=ai.new ((w.alloc (.cells #[.slice a t.length cap] 112)).alloc (.cells #[.I (fr:Int)] 3)) #[.I (aU:Int)] 3;simp at c b;refine⟨_,Y,w.heap.size+1,w.heap.size+1+1,w.heap.size,.slice a t.length cap,Y,c.rules.1 0,b.rules.1 0,b1.rules.1 0,hv.mono tg (bo.bX ?_)⟩;exact(((vaa _ w).alloc JT _).alloc Ad _).alloc Aq _
def hY(t:List aG)(fr aU:Nat):List aZ:=(List.range (aU-fr)).map λk=>([((fr+k:Nat):Int)],t.map (hR · (fr+k)))
theorem uO(t:List aG)(fr aU:Nat):(hY t fr aU).length=aU-fr:=by simp[hY]
def z_(w:aS)(a:Nat->Question->Nat):bo w {w with tape:=a}:=λ_ _ _ h=>h
def wz.keeps{t:List aG}{fr aU:Nat}{w':aS}{u:Value}(hk:bo w w')(h:wz t fr aU w u):wz t fr aU w' u:=by obtain⟨a,f,bs,v,rfl,e,d,c,b⟩:=h;exact⟨a,f,bs,v,Y,hk _ _ _ e,hk _ _ _ d,hk _ _ _ c,b.mono tg hk⟩
def amo:iK prog false f206=true:=by decide+kernel
def Y2:iK prog false f112=true:=by decide+kernel
def amp:iK prog false f208=true:=by decide+kernel
def kJ:(ej prog false).Good:=Xq false AJ AJ
def amq(t:List aG)(fr aU:Nat)(a:t.length<=1000000)(k:fr<=aU)(b:aU<=1000000)(g:aU-fr<=300)(cX:∀i,i<aU->∀c∈t,v_ i c)(w:aS)(u:Value)(h:wz t fr aU w u):
 Calls (ae prog false) 112 #[u] w λe w'=>∃v,e=.returned v/\fG w' v (hY t fr aU):=by
 obtain⟨r,A,bs,v,rfl,z,y,x,s⟩:=h;refine(ajA g w (ajS _ _ _) (λargs w=>c0 X3 amp args w) (ajT t v fr aU w s a k b cX r A bs z y x)).mono ?_;rintro e w' ⟨f,rfl,m,-⟩;refine⟨f,Y,MI m _ (uO _ _ _) AP λj o p q l=>?_⟩;have n:j<aU-fr:=by rwa[uO]at o
 have B:(hY t fr aU)[j]=([((fr+j:Nat):Int)],t.map (hR · (fr+j))):=by simp[hY]
 rw[B];refine amj l Ad AA λd hd=>?_;obtain⟨c,hc,rfl⟩:=vbh.1 hd;exact(cX (fr+j) AP c hc).small
def amr{Stop:Bool->ag.Lo At->aV->Prop}{c:dD}{cb:aS}{dE:dh}(n:∀b,dE b->c.K b)(hg:∀g,g<=prog.globals.size->dE g)(e:io (ej prog false) (λb=>dE b\/de b) de cb){k:Value}{t:List aG}{fr aU:uas}(hv:nX cb v t)(hrel:ar (eS (λb=>dE b\/de b) de) v v)(hinv:∀(args:dp)(w:aS),(callMethod k "Piece" args).run prog w=.ok (.enter 206 (#[.agg #[v]]++args)) w/\(callMethod k "Piece" args).events prog w #[]=#[])(f:t.length<=1000000)(m:∀T,T<c.N->fr T<=aU T/\aU T<=1000000/\aU T-fr T<=300/\∀i,i<aU T->∀c∈t,v_ i c)(tj:∀T,T<c.N->c.rows T=aU T-fr T)(pw:∀T,c.cj T=false):
 uM c cb prog Stop 112 k 206 (.agg #[v]) fr aU
  (λT u M w=>pK (ej prog false) dE c.K (wz t (fr T) (aU T)) u M w) (λT v M w=>pK (ej prog false) dE c.K (λw v=>T<c.N/\fG w v (hY t (fr T) (aU T))) v M w):=by
 refine YY kJ Y func206 amo Y AJ func112 Y2 Y AJ n hg e hinv (.pk (.one hrel))
  (B5:=λT=>wz t (fr T) (aU T)) (B6:=λT w v=>T<c.N/\fG w v (hY t (fr T) (aU T))) (λT=>amk _ _ _) (λT _ _ _ _ _ hc hv h=>⟨h.1,Y1 _ _ _ _ _ _ hc hv h.2⟩) (λT j w l d x a=>?_) pw (λT j d u o a=>?_) (λT w v h=>?_)
 .exact amm t v (fr T) (aU T) {d with tape:=a} (ax.aX.carry xY (x.carry (uN e l) J1) hrel (ax.aX.carry xY (tJ l e) hrel hv) |>.mono tg (z_ d a))
 .obtain⟨s,r,q,p⟩:=m T j;exact(amq t (fr T) (aU T) f s r q p {d with tape:=a} u (wz.keeps (z_ d a) o)).mono AA
 .obtain⟨j,y,cap,rfl,-,-⟩:=h;simp_all[uO]
end bS
namespace bS
open RowKit ax
def Se:(ae prog false).funcs[(116:Nat)]?=some f116:=bw (upd:=false) func116 AJ
@[simp] theorem aC7:cQ false 116:=c0 Se AJ
theorem amt(n:Nat)(hn:n<=100000)(w:aS):
 Calls (ae prog false) 116 #[.N,.I n] w λe w'=>∃v,e=.returned v/\w'.ownsRow w.heap.size 76 2 v 0 []/\cJ w w':=by
 by_cases h0:n=0
 .subst h0;go_enter Se,ntmps116
  go_wp2
  go_ret
  simp_all[vbp,vaa]
 .have f:(0:Int)<(n:Int):=by omega
  have a:t76.bytes=48:=Ah;have d:=nextslicecap_zero (need:=n) AP;go_enter Se,ntmps116
  go_wp2
  all_goals try(exfalso;simp only[a,d]at *;omega)
  go_ret
  have g:n<=(Question.appendCap n 0 76).cut (w.tape w.drawn (Question.appendCap n 0 76)):=HH;have b:(Question.appendCap n 0 76).cut (w.tape w.drawn (Question.appendCap n 0 76))<=maxLen:=by simp only[Question.cut,maxLen];have:=Nat.mod_lt (w.tape w.drawn (Question.appendCap n 0 76)) (show 0<2^63-n by omega);omega
  generalize(Question.appendCap n 0 76).cut (w.tape w.drawn (Question.appendCap n 0 76))=c at *;refine⟨_,Y,⟨Ad,.inr ⟨w.heap.size,c,_,Y,vac _,(ai.new w _ _).drew,vav _,b,?_,Ad⟩⟩,((vaa _ w).alloc JT _).drew⟩;grind[size_zeroCells]
theorem Y3{n:Nat}{P:Nat->Value×Value->Prop}(h:∀i,i<n->∃p,P i p):∀k,k<=n->∃xs:List (Value×Value),xs.length=k/\∀i(hi:i<xs.length),P i xs[i]
 |0,_=>⟨[],Y,AA⟩
 |k+1,hk=>by obtain⟨xs,c,b⟩:=Y3 h k AP;obtain⟨p,a⟩:=h k AP;refine⟨xs++[p],AA,λi hi=>?_⟩;grind
theorem Y4(xs:ubf)(j:Nat)(u:Value)(h:(two xs)[j]?=some u):∃i,∃hi:i<xs.length,(j=i*2/\u=xs[i].1)\/(j=i*2+1/\u=xs[i].2):=by have a:j<(two xs).length:=(vab.1 h).1;rw[XR]at a;have hi:j / 2<xs.length:=AP;refine⟨j / 2,hi,?_⟩;obtain⟨g1,b⟩:=YZ xs (j / 2) hi;grind
variable{w:aS}
def amu{v:Value}{rs:List aZ}(h:fG w v rs)(h0:0<rs.length):
 ∃b off c,∃xs:List (Value×Value),v=.S b off rs.length c/\xs.length=rs.length/\(∀j u,(two xs)[j]?=some u->w.cell? (.a b (off+j))=some u)/\(∀u∈two xs,u.oneCell'=true)/\
  ∀i(hi:i<xs.length)(q:i<rs.length),dP w xs[i].1 rs[i].1/\i8 w xs[i].2 rs[i].2:=by
 obtain⟨s,c,rfl,-,g⟩:=h;obtain⟨b,off,rfl,-⟩:=g 0 h0;have m:∀i,i<rs.length->∃p:Value×Value,w.cell? (.a b (off+i*2))=some p.1/\w.cell? (.a b (off+i*2+1))=some p.2/\∀hi:i<rs.length,dP w p.1 rs[i].1/\i8 w p.2 rs[i].2:=by intro i hi;obtain⟨t,n,e,pv,o,di,c1,r,hv⟩:=g i hi;simp_all
 obtain⟨xs,l,f⟩:=Y3 m rs.length JT;refine⟨b,off,c,xs,Y,l,λj u d=>?_,λu d=>?_,AA⟩
 .grind[Y4]
 .obtain⟨j,k⟩:=List.getElem?_of_mem d;obtain⟨i,hi,⟨-,rfl⟩|⟨-,rfl⟩⟩:=Y4 xs j u k
  .obtain⟨a,cc,e,-⟩:=((f i hi).2.2 AP).1;rw[e];rfl
  .obtain⟨a,cc,e,-⟩:=((f i hi).2.2 AP).2;rw[e];rfl
def MJ(w:aS)(rd:ual)(rs:List aZ):Prop:=∃v,rd 0=some v/\fG w v rs
def amv:(ae prog false).funcs[(92:Nat)]?=some f92:=bw (upd:=false) func92 AJ
def kU(ps:List (List aZ))(k:Nat):List aZ:=(ps.take k).flatten
def ku(ps:List (List aZ))(k:Nat):Nat:=(kU ps k).length
variable{ps:List (List aZ)}
theorem MK{k:Nat}(h:k<ps.length):kU ps (k+1)=kU ps k++ps[k]:=by grind[kU,List.take_succ_eq_append_getElem]
theorem Fx{k:Nat}(h:k<ps.length):ku ps (k+1)=ku ps k+ps[k].length:=by grind[ku,MK]
def amw{P:b4}(w:aS)(t ty e:g4)(i:TypeInfo)(ht:P.underlying t=some (.slice e))(hi:P.info? e=some i)(base xa:uan)(n cap b:Nat)(a:n<=cap):
 (Builtin.append_ #[t,t] ty #[.slice base n cap,.slice xa 0 b]).run P w=.ok (.slice base n cap) w:=by
 cases base<;>cases xa<;>simp[Builtin.append_,run_underlying ht,sizeOf,typeInfo,hi,a,Builtin.lenOf,Builtin.firstCells,storeCells,go_sem]
def ML{P:b4}{ops:eY}{rest:uba}{o:Oper}{a:Act}{Q:uai}(g:o.guard=none)(s x:uar)(t:g4)(f:o.op=.call {callee:=.builtin .append,args:=#[s,x],argTypes:=#[t,t]})(e:g4)(i:TypeInfo)(ht:P.underlying t=some (.slice e))(hi:P.info? e=some i){base xa:uan}{n cap c:Nat}(hs:a.eval s=.slice base n cap)(d:a.eval x=.slice xa 0 c)(b:n<=cap)(h:wpList P ops Q rest (a.put o.dst (.slice base n cap)) w):wpList P ops Q (o::rest) a w:=by
 refine wpList_plain g λK hK=>?_;have hrun:=amw (P:=P) w t o.type e i ht hi base xa n cap c b;unfold Oper.wp;simp[execOp,f,resolve,invoke,builtin,hs,d,hrun,Result.andThen];exact hK _ _ h
def MM{base:Nat}{e:g4}{size n gc:Nat}{a:uan}{xs:uad}(h:w.ownsRow base e size (.slice a n gc) n xs):n<=gc:=by
 rcases h.2 with⟨e,h0⟩|⟨g',cap',bd,e,-,-,b,-⟩
 .grind
 grind
def amx(ps:List (List aZ))(L:Value)(w:aS)(h:aX w 1 MJ L ps)(uP:ps.length<=1000)(B:∀k,ku ps k<=100000):
 Calls (ae prog false) 92 #[L] w λe w'=>∃v,e=.returned v/\fG w' v (kU ps ps.length)/\nn (ku ps ps.length) v/\cJ w w':=by
 obtain⟨bK,cap,rfl,hl,y⟩:=h;go_enter amv,ntmps92
 go_wp2
 go_loopw [3,5,11] (λa _ b W=>∃k:Nat,k<=ps.length/\a=.I (ku ps k:Int)/\b=.I (k:Int)/\W=w) (λ_ _ b _=>ps.length-(intOf b).toNat)
 case atStart=>exact⟨0,vav _,rfl,rfl,rfl⟩
 case round=>
  obtain⟨k,hk,rfl,rfl,rfl⟩:=hrel;by_cases d:k<ps.length
  .obtain⟨b,off,rfl,v,f,hv⟩:=y k d;simp at f;obtain⟨b8,b5,H,-⟩:=aX.shape hv;subst H;have fo:=ff f;have S:(0:Int)<=(k:Int):=AP;have T:(k:Int)<(ps.length:Int):=AP;have l:=B (k+1);rw[Fx d]at l;have sx:¬((ku ps k:Int)+(ps[k].length:Int)<0):=AP;clear y hv;generalize kK:ku ps k=X at *;go_wp2
   exact⟨⟨k+1,AP,by grind[Fx],Ad,PJ⟩,HT⟩
  .have C:k=ps.length:=by omega
   subst C;have eH:¬((ps.length:Int)<(ps.length:Int)):=AP;have wA:=B ps.length;have t:Hid _:=y;clear y;obtain⟨w,rfl⟩:∃x:aS,x=wr:=⟨wr,rfl⟩;go_wp2
   refine(amt (ku ps ps.length) wA w).mono ?_;rintro e w1 ⟨v1,rfl,A,bY⟩;obtain⟨a1,c1,rfl⟩:=h9 A;have B8:Hid (w1.ownsRow w.heap.size 76 2 (.slice a1 0 c1) 0 []):=A;have g6:Hid (cJ w w1):=bY;clear A bY;go_wp2
   go_loopw [6,8,27] (λa _ b W=>∃(k:Nat)(c:ubf)(r:uan)(gc:Nat),k<=ps.length/\a=.slice r (ku ps k) gc/\b=.I (k:Int)/\c.length=(ku ps k)/\W.ownsRow w.heap.size 76 2 (.slice r (ku ps k) gc) (ku ps k) (two c)/\(∀i(F:i<c.length)(Y:i<(kU ps k).length),dP w c[i].1 ((kU ps k)[i]).1/\i8 w c[i].2 ((kU ps k)[i]).2)/\cJ w W) (λ_ _ b _=>ps.length-(intOf b).toNat)
   case atStart=>exact⟨0,[],a1,c1,vav _,rfl,rfl,rfl,B8.out,AA,g6.out⟩
   case round=>
    obtain⟨k,c,r,gc,hk,rfl,rfl,Y5,cM,MN,V⟩:=hrel;have o:Hid _:=cM;have I:Hid _:=MN;have m:Hid (cJ w wr):=V;clear cM MN V;by_cases d:k<ps.length
    .obtain⟨b,off,rfl,v,f,hv⟩:=t.out k d;simp at f;by_cases E:ps[k].length=0
     .obtain⟨b8,b5,rfl,-,-⟩:=id hv;have n:=bo.bX m.out;have s:=n _ _ _ f;have fo:=ff s;have S:(0:Int)<=(k:Int):=AP;have T:(k:Int)<(ps.length:Int):=AP;obtain⟨D,hi,-,-,-⟩:=vch LQ;have l:=Fx d;rw[E,vbz]at l;have U:kU ps (k+1)=kU ps k:=by rw[MK d,vbo E,vcb]
      have B9:Hid (ku ps k<=gc):=MM o.out;rw[E]at s;clear hv f n t;go_wp2_with (at_builtin;apply sf)
      unfold j8;refine ML rfl _ _ 66 rfl 76 D ((qZ _ _ _).trans underlying66) hi rfl rfl B9.out ?_;have z:Hid _:=l;have B_:Hid _:=U;clear l U hi;go_wp2
      go_roundw
      case rel=>exact⟨k+1,c,r,gc,AP,by rw[z.out];rfl,Ad,by rw[z.out];grind,by rw[z.out];exact o.out,by rw[B_.out];exact I.out,m.out⟩
      case measure=>simp[intOf];omega
     .have n:=bo.bX m.out;have s:=n _ _ _ f;have fo:=ff s;obtain⟨n9,K,pc,xs,rfl,MO,M,Q,IX⟩:=amu hv AP;have x0:Hid (∀j u,(two xs)[j]?=some u->wr.cell? (Addr.add ⟨n9,K,none⟩ j)=some u):=λj u hu=>by rw[vdz];exact n _ _ _ (M j u hu)
      have l6:Hid _:=Q;have Sg:Hid _:=IX;have S:(0:Int)<=(k:Int):=AP;have T:(k:Int)<(ps.length:Int):=AP;have l:=B (k+1);rw[Fx d]at l;obtain⟨D,hi,qc,q1,q2⟩:=vch LQ;have R:Hid (w.heap.size<=wr.heap.size):=m.out.size;clear hv f n M Q IX t;go_wp2_with (at_builtin;apply sf)
      unfold j8;refine wpList_append_own _ rfl _ _ 66 rfl w.heap.size 76 D _ 2 48 ((qZ _ _ _).trans underlying66) hi qc q1 q2 rfl AX (.slice r (ku ps k) gc) (ku ps k) (two c) rfl o.out ⟨n9,K,none⟩ ps[k].length pc (two xs) rfl (by rw[XR,MO]) x0.out l6.out EE AP R.out ?_;intro v' J O P _;obtain⟨Z,bH,rfl⟩:=h9 O;have Ca:Hid (J.ownsRow w.heap.size 76 2 (.slice Z (ku ps (k+1)) bH) (ku ps (k+1)) (two (c++xs))):=by grind[Hid,Fx,two]
      have ip:Hid (cJ w J):=m.out.grown P R.out (λg hg=>(vdl o.out g hg).1);have Fz:Hid (∀i(F:i<(c++xs).length)(Y:i<(kU ps (k+1)).length),dP w (c++xs)[i].1 ((kU ps (k+1))[i]).1/\i8 w (c++xs)[i].2 ((kU ps (k+1))[i]).2):=by
       intro i F Y;have aC9:c.length=(kU ps k).length:=Y5;simp[MK d];by_cases Y6:i<c.length
       .rw[vdr Y6,vdr AP];exact I.out i Y6 AP
       .rw[vep AP,vep AP];have:=Sg.out (i-c.length) AA AA;grind
      have Mb:=Fx d;have MP:Hid ((c++xs).length=ku ps (k+1)):=by grind[Hid]
      clear O P s;rw[<-Mb];clear Mb;go_wp2
      go_roundw
      case rel=>exact⟨k+1,c++xs,Z,bH,AP,rfl,Ad,MP.out,Ca.out,Fz.out,ip.out⟩
      case measure=>simp[intOf];omega
    .have C:k=ps.length:=by omega
     subst C;have jG:¬((ps.length:Int)<(ps.length:Int)):=AP;clear t;go_wp2
     go_ret
     have n:=bo.bX m.out;have IY:ku ps ps.length<=gc:=by
      rcases o.out.2 with⟨e,h0⟩|⟨g',cap',bd,e,-,-,F,-⟩
      .grind
      grind
     refine⟨_,rfl,?_,⟨_,_,rfl,IY⟩,m.out⟩;exact MI (Row:=λj W x=>∃h:j<c.length,x=.agg #[c[j].1,c[j].2]) (N:=ku ps ps.length) ⟨c,Y5,o.out,AA⟩ (kU ps ps.length) rfl AP (λj hj p q⟨hy,e⟩=>by
      simp at e;obtain⟨rfl,rfl⟩:=e;obtain⟨r1,r2⟩:=I.out j hy hj;grind[aX.mono,j6,wy])
end bS
namespace a3
open Conc ConcM ax bp cI dm
abbrev cY(P:b4):cH:=ej P true
section
variable{ρ:Ren}
def ZI(n:∀a b d,ρ.rel a b->ρ.rel a d->b=d){a b c:Addr}(h:dr ρ a b)(k:dr ρ a c):b=c:=by obtain⟨p,ed,o⟩:=b;obtain⟨m,l,j⟩:=c;obtain⟨i,g,f⟩:=h;obtain⟨q,r,e⟩:=k;grind
def Jl(o:∀a b p,ρ.rel a b->ρ.rel a p->b=p){x y:Value}(h:ar ρ x y):∀{z:Value},ar ρ x z->y=z:=by
 have all:∀{a a':dp},a.size=a'.size->(∀(i:Nat)(v d:Value),a[i]?=some v->a'[i]?=some d->∀{z:Value},ar ρ v z->d=z)->∀{b:dp},a.size=b.size->(∀(i:Nat)(v d:Value),a[i]?=some v->b[i]?=some d->ar ρ v d)->a'=b:=by
  intro a a' hs e b m k;apply Array.ext
  .grind
  .intro i hi F;have H:i<a.size:=hs▸hi;exact e i a[i] a'[i] AA AA (k i _ _ AA AA)
 induction h with
 |bool b=>intro z k;cases k;rfl
 |int k n=>intro z k;cases k;rfl
 |string s=>intro z k;cases k;rfl
 |lu=>intro z k;cases k;rfl
 |ptr r=>intro z k;cases k with|ptr r'=>rw[ZI o r r']
 |jP l c=>intro z k;cases k;rfl
 |slice l c r=>intro z k;cases k with|slice _ _ r'=>rw[ZI o r r']
 |pi=>intro z k;cases k;rfl
 |map r=>intro z k;cases k with|map r'=>grind
 |pj=>intro z k;cases k;rfl
 |func D E m _ _ C B=>intro z k;cases k with|func j g u A w=>rw[all E C g A,all m B u w];cases D with|func f=>cases j;rfl|yield r=>cases j with|yield r'=>grind
 |nilFunc=>intro z k;cases k;rfl
 |iface t _ e=>intro z k;cases k with|iface _ k'=>grind
 |nilIface=>intro z k;cases k;rfl
 |agg hs _ e=>intro z k;cases k with|agg q k'=>grind
 |tuple hs _ e=>intro z k;cases k with|tuple q k'=>grind
end
def gr(P:b4):Item->Bool
 | .code c| .inLoop c| .inScope c=>jR P true c
 | .inBlock _=>true
 | .inRegion ops _=>ops.all λo=>mK P true o.op
 | _=>false
variable{P:b4}
def SP(a:(cY P).Good){c:Code}(h:jR P true c=true):(cY P).lV c:=(a.oC c).2 ((Xo P true true c).trans h)
def anX(a:(cY P).Good){ρ:Ren}{x:Item}(h:gr P x=true):rZ (cY P) ρ x x:=by cases x with|code c=>exact .code (SP a h)|inLoop c=>exact .inLoop (SP a h)|inScope c=>exact .inScope (SP a h)|inBlock id=>exact .inBlock id|inRegion ops l=>exact .inRegion (λo b=>(Xn P true true o.op).trans (vam.1 h o b)) l| _=>cases h
theorem ZK(a:(cY P).Good){ρ:Ren}:∀{l:il},l.all (gr P)=true->mM (cY P) ρ l l
 | [],_=>.nil
 |x::l,h=>by simp only[vbj,vaf]at h;exact .cons (anX a h.1) (ZK a h.2)
theorem ZL{ρ:Ren}:∀{l a:il},l.all (gr P)=true->mM (cY P) ρ l a->a=l
 | [],_,_,h=>by cases h;rfl
 |x::l,_,hk,h=>by simp only[vbj,vaf]at hk;cases h with|cons b c=>rw[ZL hk.2 c];cases b<;>first|rfl|cases hk.1
def kA(P:b4)(f:uaj):Prop:=∃fn c,(ae P true).funcs[f]?=some fn/\fn.body=some c
def Jm(d:(cY P).Good){ρ:Ren}{f:uaj}(b:kA P f){a:Act}(c:aJ ρ a.tmps a.tmps)(hd:a.defers=[]){k:il}(hk:k.all (gr P)=true):et (cY P) ρ ((base f).at a k) ((base f).at a k):=
 ⟨Y,b,c,ZK d hk,by show qU ρ a.defers a.defers;rw[hd];exact .nil,.run,Y,.inl Y,.none⟩
theorem Jn{ρ:Ren}{f:uaj}{a:Act}(hd:a.defers=[]){k:il}(hk:k.all (gr P)=true){g:Frame}(h:et (cY P) ρ ((base f).at a k) g):∃a':Act,g=(base f).at a' k/\aJ ρ a.tmps a'.tmps/\a'.defers=[]:=by obtain⟨fn,tmps,todo,defers,mode,kind,ro⟩:=g;obtain⟨c,_,m,l,b,n,d,_,o⟩:=h;have e:todo=k:=ZL hk l;have b:qU ρ a.defers defers:=b;rw[hd]at b;have j:ug ρ .run mode:=n;have i:mJ ρ.rel none ro:=o;cases b;cases j;cases i;refine⟨⟨tmps,[]⟩,?_,m,Y⟩;subst e;have c:f=fn:=c;have d:CallKind.normal=kind:=d;subst c;subst d;rfl
structure gJ where
 n:Nat
 heap:Array Obj
abbrev iR(M:dh):Nat->Prop:=M
abbrev bQ(M:dh):Ren:=eS M (iR M)
structure Home(O:gJ)(P:b4)(M:dh)(Shun:uam)(w:aS):Prop where
 cl:io (cY P) M (iR M) w
 Cq:∀g,g<=P.globals.size->M g
 sh:∀b,M b\/w.heap.size<=b->∀l,fg l=some b->¬Shun l
 new:∀b,M b->b≠0->O.n<=b
 ob:O.n<=w.heap.size
 old:∀b,0<b->b<O.n->w.heap[b]?=O.heap[b]?
 so:∀b,b<O.n->∀l,fg l=some b->¬Shun l
structure lL(w w':aS):Prop where
 size:w.heap.size<=w'.heap.size
 later:OsLater w.os w'.os
 output:w'.output=w.output
 tape:w'.tape=w.tape
theorem lL.refl(w:aS):lL w w:=⟨vac _,.refl _,Y,Y⟩
theorem lL.trans{a b c:aS}(h:lL a b)(k:lL b c):lL a c:=⟨vad h.size k.size,h.later.trans k.later,k.output.trans h.output,k.tape.trans h.tape⟩
def pO(ρ:Ren):Nat->Prop:=λb=>∃a,ρ.rel a b
variable{fr:Frame}
section
variable{O:gJ}{Post:uab}{n:Nat}{Shun:uam}{M:dh}{w:aS}
theorem Home.at(h:Home O P M Shun w)(k:Nat):Home O P M Shun (w.at k):=⟨h.cl,h.Cq,h.sh,h.new,h.ob,h.old,h.so⟩
def Home.lt(h:Home O P M Shun w){b:Nat}(a:M b):b<w.heap.size:=by obtain⟨o,c,_⟩:=h.cl b a;grind
structure Behind(O:gJ)(P:b4)(M:dh)(Shun:uam)(w:aS)(ρ:Ren)(bN w':aS):Prop where
 rel:∃S,eL (cY P) S ρ bN w'
 le:Ren.le (bQ M) ρ
 fH:Home O P (pO ρ) Shun w'
 since:lL w w'
 old:∀a b,ρ.rel a b->(a=b/\M b)\/w.heap.size<=b
def Behind.same{ρ:Ren}{d w':aS}(h:Behind O P M Shun w ρ d w'){v a:Value}(hv:ar (bQ M) v v)(c:ar ρ v a):a=v:=by obtain⟨S,b⟩:=h.rel;exact(Jl b.one (hv.mono h.le) c).symm
def Behind.mem{ρ:Ren}{c w':aS}(h:Behind O P M Shun w ρ c w'){b:Nat}(a:M b):pO ρ b:=⟨b,h.le.1 b b ⟨Y,a⟩⟩
def Behind.val{ρ:Ren}{e w':aS}(_:Behind O P M Shun w ρ e w'){v b:Value}(c:ar ρ v b):ar (bQ (pO ρ)) b b:=ar.right (σ:=bQ (pO ρ)) (λa _ d=>⟨Y,a,d⟩) c
def Behind.all{ρ:Ren}{e w':aS}(_:Behind O P M Shun w ρ e w'){v b:dp}(c:aJ ρ v b):aJ (bQ (pO ρ)) b b:=aJ.right (σ:=bQ (pO ρ)) (λa _ d=>⟨Y,a,d⟩) c
theorem Behind.carry{ρ:Ren}{a w':aS}(h:Behind O P M Shun w ρ a w'):Carry ρ a w':=by obtain⟨S,b⟩:=h.rel;exact b.carry
theorem Home.cell(h:Home O P M Shun w){a:Addr}{v:Value}(i:M a.block)(hv:w.cell? a=some v):ar (bQ M) v v:=by
 obtain⟨c,e,fr,g,j,d⟩:=xq hv;obtain⟨o,f,b⟩:=h.cl _ i;rw[g]at f;cases f;rcases b with b|b
 .cases b with|cells _ hc _=>exact hc.get _ _ _ d d
 .exact b.elim
theorem Home.laid(h:Home O P M Shun w){b:aS}(g:gP (cY P) M (iR M) w b){a:Addr}{v:Value}(f:M a.block)(hv:w.cell? a=some v):b.cell? a=some v:=by obtain⟨c,e,fr,d,k,j⟩:=xq hv;obtain⟨i,l,_⟩:=g.cells h.cl f d;grind[mj]
def Behind.kept{ρ:Ren}{e d w':aS}(h:Behind O P M Shun w ρ d w')(f:Home O P M Shun w)(i:gP (cY P) M (iR M) w e){a:Addr}{v:Value}(b:M a.block)(hv:w.cell? a=some v)(hk:e.cell? a=some v->d.cell? a=some v):w'.cell? a=some v:=by obtain⟨v2,c,g⟩:=h.carry.cell a a v ⟨h.le.1 _ _ ⟨Y,b⟩,Y,Y⟩ (hk (f.laid i b hv));rw[h.same (f.cell b hv) g]at c;exact c
def Home.next(c:Home O P M Shun w){X Y:aV}(f:cI.Left X Y)(j:X.w=w/\X.mine=iR M){ρ:Ren}{S:Sync}{n:aS}{k:Nat}(l:eL (cY P) S ρ n (Y.w.at k))(e:Ren.le (bQ M) ρ)(hold:∀a b,ρ.rel a b->(bQ M).rel a b\/w.heap.size<=b):Home O P (pO ρ) Shun (Y.w.at k):=by
 obtain⟨rfl,o⟩:=j;have kept:∀b,b<X.w.heap.size->¬iR M b->Y.w.heap[b]?=X.w.heap[b]?:=λb m p=>f.kept b m AA;refine⟨l.closed _,λg hg=>⟨g,e.1 g g ⟨rfl,c.Cq g hg⟩⟩,λb d=>?_,λb⟨a,i⟩ d=>?_,vad c.ob f.size,λb h0 d=>?_,c.so⟩
 .rcases d with⟨a,i⟩|d
  .rcases hold a b i with h|h
   .exact c.sh b (.inl h.2)
   .exact c.sh b (.inr h)
  .exact c.sh b (.inr (vad f.size d))
 .rcases hold a b i with h|h
  .exact c.new b h.2 d
  .exact vad c.ob h
 .refine(kept b (vap d c.ob) λx=>?_).trans (c.old b h0 d);have:=c.new b x AP;omega
def ZM(v:(cY P).Good)(i:Home O P M Shun w){f:uaj}{cs0 bs:fV}(z:et (cY P) (bQ M) fr fr)(m:iX (cY P) (bQ M) cs0 cs0)(x:iY fr cs0){R:Frame->List Frame->aS->aS->Prop}(hrun:∀e,gP (cY P) M (iR M) w e->∀T,∃c cse d,Steps (ae P true) (lone fr (cs0++[eM f]) {e with tape:=T}) (lone c (cse++[eM f]) d)/\R c cse e d)(y:∀ρ c cse e d j l w',gP (cY P) M (iR M) w e->R c cse e d->et (cY P) ρ c j->iX (cY P) ρ cse l->Behind O P M Shun w ρ d w'->bP P Post n Shun 0 (a0 j (l++bs)) w'):
 bP P Post n Shun 0 (a0 fr (cs0++bs)) w:=by
 obtain⟨e,q⟩:=HV (cY P) M (iR M) w;have s:=Xk (C:=(cY P)) (f:=f) (base:=bs) (w0:=e) (mn:=w) (K:=λ_=>False) (qY:=iR M) (R:=λc cse d=>R c cse e d) v z m x (q.rel i.cl i.Cq AA) (λb h=>h) (λa b h=>.inr h.2)
  (λT=>by obtain⟨c,cse,d,⟨k,hk⟩,p⟩:=hrun e q T;exact⟨k,c,cse,d,hk,p⟩) true
 refine Ae (SO s rfl (λb u=>i.lt AA) (λb u=>i.sh b AA) ?_);rintro Y ⟨ρ,c,cse,d,T,p,ht⟩ g;obtain⟨j,l,hg,t,o⟩:=ht.frames;rw[hg];refine .stop λk=>y ρ c cse e d j l (Y.w.at k) q p t o ?_;have r:=ht.world.rely (w':=Y.w.at k) (bound:=0) (⟨λ_ _=>rfl,vac _,rfl⟩:j5 (λ_=>False) Y (Y.w.at k)) ht.dom AA;exact⟨⟨_,r⟩,ht.le,i.next g ⟨rfl,rfl⟩ r ht.le ht.old,⟨g.size,g.os,g.output,g.tape⟩,λa b h=>(ht.old a b h).imp id id⟩
end
section
open lM
variable{O:gJ}
section
variable{P:b4}{Post:uab}{n:Nat}{Shun:uam}{M:dh}{w:aS}
def SW(F:(cY P).Good)(hF:P.follows .rangeFuncRecover=true){D:fi}(m:Home O P M Shun w){f:uaj}{cs0 bs:fV}{g:uah}(hd:D.d<=bs.length)(hv:mA P D (a0 fr (cs0++bs)) g)(J:et (cY P) (bQ M) fr fr)(s:iX (cY P) (bQ M) cs0 cs0)(H:iY fr cs0){R:Frame->List Frame->aS->aS->Prop}(hrun:∀e,gP (cY P) M (iR M) w e->∀T,∃c cse d,Steps (ae P true) (lone fr (cs0++[eM f]) {e with tape:=T}) (lone c (cse++[eM f]) d)/\R c cse e d)(I:∀ρ c cse e d o p w' g',gP (cY P) M (iR M) w e->R c cse e d->et (cY P) ρ c o->iX (cY P) ρ cse p->Behind O P M Shun w ρ d w'->mA P D (a0 o (p++bs)) g'->bP P Post n Shun 0 g' w'):
 bP P Post n Shun 0 g w:=by
 obtain⟨e,y⟩:=HV (cY P) M (iR M) w;have B:=oD.var hF hd (Xh (C:=(cY P)) (f:=f) (base:=bs) (w0:=e) (mn:=w) (K:=λ_=>False) (qY:=iR M) (R:=λc cse d=>R c cse e d) F J s H (y.rel m.cl m.Cq λ_ _ l=>.inl l) (λb h=>h) (λa b h=>.inr h.2)
  (λT=>by obtain⟨c,cse,d,⟨k,hk⟩,u⟩:=hrun e y T;exact⟨k,c,cse,d,hk,u⟩) true) g hv
 refine Ae (SO B hv.parts.1 (λb l=>m.lt (l.resolve_left λx=>x)) (λb l=>m.sh b (l.resolve_left λx=>x)) ?_);rintro A ⟨Y,⟨ρ,c,cse,d,T,u,ht⟩,z,v,L⟩ i;obtain⟨o,p,hg,E,t⟩:=ht.frames;rw[hg]at z;refine .stop λk=>I ρ c cse e d o p (A.w.at k) A.g y u E t ?_ z;have r:=ht.world.rely (w':=Y.w.at k) (bound:=0) (⟨λ_ _=>rfl,vac _,rfl⟩:j5 (λ_=>False) Y (Y.w.at k)) ht.dom (λj q h=>absurd h (Nat.not_lt_zero _));rw[<-v]at r;exact⟨⟨_,r⟩,ht.le,m.next i ⟨rfl,rfl⟩ r ht.le ht.old,⟨i.size,i.os,i.output,i.tape⟩,λa b h=>(ht.old a b h).imp id id⟩
structure gY(D:fi)(a b:Act):Prop where
 size:b.tmps.size=a.tmps.size
 same:∀i,D.T i=false->b.tmps[i]?=a.tmps[i]?
 gone:∀i v,D.T i=true->a.tmps[i]?=some v->v=undef
 kept:∀i,D.K i=true->b.tmps[i]?=D.V i
 defers:b.defers=a.defers
structure Ai(P:b4)(D:fi)(f:uaj):Prop where
 FT:∃fn,P.funcs[f]?=some fn/\fn.results.all (Cr D)=true
 sl:∀t,D.sl t=true->∃e,P.underlying t=some (.slice e)
 M9:P.inits.idxOf? f=none
section
variable{D:fi}{f:uaj}{a b:Act}{k:il}
def gY.SX(h:gY D a b)(f:uaj)(k:il):e6 D ((base f).at a k) ((base f).at b k):=
 ⟨by simp only[Frame.at,base,h.defers],h.size,h.same,λ_=>h.gone,λ_=>h.kept⟩
def Ai.bj(h:Ai P D f)(hk:k.all (hN D)=true)(a:Act):mV P D ((base f).at a k):=⟨λ_=>hk,Y,h.FT,h.sl,h.M9⟩
theorem e6.act(h:e6 D ((base f).at a k) fr):∃b:Act,fr=(base f).at b k/\gY D a b:=by refine⟨⟨fr.tmps,a.defers⟩,?_,h.size,h.same,h.gone Y,h.kept Y,Y⟩;have:=h.eq;rw[this];rfl
end
end
end
variable{aC:eY}
section
open lM
variable{O:gJ}
section
variable{P:b4}{Post:uab}{n:Nat}{Shun:uam}{M:dh}{w:aS}
theorem iS(a:Act)(d:Option Tmp)(v:Value):(a.put d v).tmps.size=a.tmps.size:=by cases d<;>simp[Act.put]
theorem put_defers(a:Act)(d:Option Tmp)(v:Value):(a.put d v).defers=a.defers:=by cases d<;>rfl
structure aob(P:b4)(M:dh)(e7:uaj)(aF:Act)(aC:eY)(aK:Nat)(aH:il)(D:Nat->fi)(cC:Act):Prop where
 nE:∀n,gY (D n) cC aF
 all:aJ (bQ M) cC.tmps cC.tmps
 d:∀n,(D n).d=n
 fn:∀n,Ai P (D n) e7
 ops:∀n,aC.all (sH (D n) aC)=true
 items:∀n,aH.all (hN (D n))=true
 dst:∀n d,(aC[aK]?).bind (·.dst)=some d->(D n).T d=false
 aT:∀n i,(D n).T i=true->(D n).K i=true
 follows:P.follows .rangeFuncRecover=true
structure wK(P:b4)(M:dh)(e7:uaj)(aF:Act)(aC:eY)(aK:Nat)(aH:il):Prop where
 known:kA P e7
 tmps:aJ (bQ M) aF.tmps aF.tmps\/∃D cC,aob P M e7 aF aC aK aH D cC
 defers:aF.defers=[]
 ops:gr P (.inRegion aC [])=true
 items:aH.all (gr P)=true
 dst:∃d,(aC[aK]?).bind (·.dst)=some d/\d<aF.tmps.size
def gi(O:gJ)(P:b4)(Post:uab)(f:uaj)(args:dp)(M:dh)(w:aS)(d:Nat)(V:ube):Prop:=
 ∀n Shun,n+16*d<=900000->Home O P M Shun w->∀e7 aF aC aK aM aH csZ,wK P M e7 aF aC aK aH->
  (∀u M' w' n' bJ,n'<=n+16*d->Home O P M' bJ w'->(∀b,M b->M' b)->ar (bQ M') u u->lL w w'->V u M' w'->
   bP P Post n' bJ 0 (a0 ((base e7).at (aF.put ((aC[aK]?).bind (·.dst)) u) (.inRegion aC aM::aH)) csZ) w')->
  bP P Post n Shun 0 (a0 (Frame.enter P f args .normal) ((base e7).at aF (.inRegion aC (aK::aM)::aH)::csZ)) w
def qx{M M':dh}(h:∀b,M b->M' b):Ren.le (bQ M) (bQ M'):=⟨λ_ b k=>⟨k.1,h b k.2⟩,λb k=>h b k⟩
def wK.rel(d:(cY P).Good){b:uaj}{aF:Act}{aK:Nat}{aH:il}(h:wK P M b aF aC aK aH)(l:uaa){a:Act}(c:aJ (bQ M) a.tmps a.tmps)(hd:a.defers=[]):et (cY P) (bQ M) ((base b).at a (.inRegion aC l::aH)) ((base b).at a (.inRegion aC l::aH)):=
 Jm d h.known c hd (by simp only[vbj,vaf];exact⟨h.ops,h.items⟩)
theorem wK.mono{M':dh}(c:∀b,M b->M' b){a:uaj}{aF:Act}{aK:Nat}{aH:il}(h:wK P M a aF aC aK aH):wK P M' a aF aC aK aH:=
 ⟨h.known,h.tmps.imp (λx=>x.mono (qx c)) (λ⟨D,d,x⟩=>⟨D,d,x.nE,x.all.mono (qx c),x.d,x.fn,x.ops,x.items,x.dst,x.aT,x.follows⟩),h.defers,h.ops,h.items,h.dst⟩
def ZW{ρ:Ren}{o w':aS}(m:Behind O P M Shun w ρ o w'){aF a':Act}{d:Nat}(e:d<aF.tmps.size)(l:aJ (bQ M) aF.tmps aF.tmps)(h:aF.defers=[]){v:Value}(c:aJ ρ (aF.put (some d) v).tmps a'.tmps)(b:a'.defers=[]):∃u,ar ρ v u/\a'=aF.put (some d) u:=by
 have hsz:a'.tmps.size=aF.tmps.size:=by rw[<-c.size,iS]
 obtain⟨u,k⟩:∃u,a'.tmps[d]?=some u:=⟨a'.tmps[d]'(hsz▸e),AA⟩;refine⟨u,c.get d v u (by simp[Act.put,e]) k,?_⟩;obtain⟨n,g⟩:=a';have b:g=[]:=b;subst b;show _=(⟨aF.tmps.setIfInBounds d u,aF.defers⟩:Act);rw[h];congr 1
 apply Array.ext
 .grind
 .intro j f a;have q:j<aF.tmps.size:=AA;apply van;rw[<-vao f,<-vao a,vak];by_cases p:d=j
  .grind
  .simp[p];have i:ar ρ aF.tmps[j] n[j]:=c.get j _ _ (by grind[Act.put]) AA;rw[vao f,vao q,m.same (l.get j _ _ AA AA) i]
def aoc(B:(cY P).Good)(Z:Home O P M Shun w)(Y:et (cY P) (bQ M) fr fr){j:uaj}{aF:Act}{aK:Nat}{aM:uaa}{aH:il}{csZ:fV}(hc:wK P M j aF aC aK aH){gZ:ubn}(hrun:∀m,gP (cY P) M (iR M) w m->∀T,∀c cs,∃v p,gZ m v p/\Steps (ae P true) (lone fr (c::cs) {m with tape:=T}) (lone (c.finish v) cs p))(dg:∀ρ m v p u w',gP (cY P) M (iR M) w m->gZ m v p->ar ρ v u->Behind O P M Shun w ρ p w'->bP P Post n Shun 0 (a0 ((base j).at (aF.put ((aC[aK]?).bind (·.dst)) u) (.inRegion aC aM::aH)) csZ) w'):
 bP P Post n Shun 0 (a0 fr ((base j).at aF (.inRegion aC (aK::aM)::aH)::csZ)) w:=by
 obtain⟨d,p_,nc⟩:=hc.dst;have ZX:∀q:Act,∀m,gP (cY P) M (iR M) w m->∀T,∃y cse p,Steps (ae P true) (lone fr ([(base j).at q (.inRegion aC (aK::aM)::aH)]++[eM j]) {m with tape:=T}) (lone y (cse++[eM j]) p)/\cse=[]/\∃v,y=(base j).at (q.put (some d) v) (.inRegion aC aM::aH)/\gZ m v p:=by intro q m S T;obtain⟨v,p,E,C⟩:=hrun m S T ((base j).at q (.inRegion aC (aK::aM)::aH)) [eM j];grind[Frame.finish_at]
 have W:(Item.inRegion aC aM::aH).all (gr P)=true:=by simp only[vbj,vaf];exact⟨hc.ops,hc.items⟩
 rcases hc.tmps with ZY|⟨D,q,r⟩
 .refine ZM B Z (f:=j) (cs0:=[(base j).at aF (.inRegion aC (aK::aM)::aH)]) (bs:=csZ) Y (.cons (hc.rel B _ ZY hc.defers) .nil) ⟨rfl,rfl⟩
   (R:=λy cse m p=>cse=[]/\∃v,y=(base j).at (aF.put (some d) v) (.inRegion aC aM::aH)/\gZ m v p) (ZX aF) ?_
  rintro ρ y cse m p aQ a9 w' S ⟨rfl,v,rfl,hv⟩ F z K;cases z;obtain⟨a',rfl,E,C⟩:=Jn (by rw[put_defers];exact hc.defers) W F;obtain⟨u,Q,rfl⟩:=ZW K nc ZY hc.defers E C;grind
 .have s:=r.nE csZ.length;have h0:q.defers=[]:=by rw[<-s.defers];exact hc.defers
  have N:d<q.tmps.size:=by rw[<-s.size];grind
  have dy:∀l:List Nat,(Item.inRegion aC l::aH).all (hN (D csZ.length))=true:=λl=>by rw[vbj,vaf];refine⟨?_,r.items _⟩;simp[hN];intro i _;cases X:aC[i]? with|none=>rfl|some o=>exact vam.1 (r.ops _) o (vbf X)
  refine SW B r.follows (D:=D csZ.length) Z (f:=j) (cs0:=[(base j).at q (.inRegion aC (aK::aM)::aH)]) (bs:=csZ) (g:=a0 fr ((base j).at aF (.inRegion aC (aK::aM)::aH)::csZ)) (by rw[r.d];grind) (.under _ (.here (s.SX _ _) ⟨(r.fn _).bj (dy _) _,λ_ ops i rest k e o X d' gO=>?_⟩ _ (r.d _).symm) _ _) Y (.cons (hc.rel B _ r.all h0) .nil) ⟨rfl,rfl⟩
   (R:=λy cse m p=>cse=[]/\∃v,y=(base j).at (q.put (some d) v) (.inRegion aC aM::aH)/\gZ m v p) (ZX q) ?_
  .have e:Item.inRegion aC (aK::aM)::aH=.inRegion ops (i::rest)::k:=e;cases e;exact r.dst _ d' AA
  rintro ρ y cse m p aQ a9 w' g' S ⟨rfl,v,rfl,hv⟩ F z K V;cases z;obtain⟨a',rfl,E,C⟩:=Jn GX W F;obtain⟨u,Q,rfl⟩:=ZW K N r.all h0 E C;have hlen:(D csZ.length).d=csZ.length:=r.d _;have key:∃U,g'=a0 U csZ/\e6 (D csZ.length) ((base j).at (q.put (some d) u) (.inRegion aC aM::aH)) U:=by generalize Bx:a0 ((base j).at (q.put (some d) u) (.inRegion aC aM::aH)) ([]++csZ)=g0 at V;cases V with|same g hl=>grind[a0]|gK h v=>cases Bx;exact⟨_,rfl,h⟩|under a h=>cases Bx;have:=h.lt;grind
  obtain⟨U,rfl,L⟩:=key;obtain⟨b,rfl,A⟩:=e6.act L;have e:b=aF.put (some d) u:=by
   obtain⟨t,ds⟩:=b;have e1:ds=aF.defers:=A.defers.trans (by rw[put_defers,s.defers]);subst e1;show _=(⟨aF.tmps.setIfInBounds d u,aF.defers⟩:Act);congr 1
   have hs:t.size=(aF.tmps.setIfInBounds d u).size:=by rw[vct,s.size,<-iS q (some d) u];exact A.size
   refine vdb λi=>?_;cases J:(D csZ.length).T i with
   |false=>have H:t[i]?=(q.tmps.setIfInBounds d u)[i]?:=A.same i J;rw[H,vak,vak,s.size,s.same i J]
   |true=>
    have hK:=r.aT _ i J;have H:t[i]?=(D csZ.length).V i:=A.kept i hK;have I:d≠i:=λx=>by have:=r.dst csZ.length d p_;grind
    rw[H,vak,vbq I,s.kept i hK]
  grind
def wp_move(e:(cY P).Good)(m:Home O P M Shun w){f:uaj}(j:kA P f){a:Act}(l:aJ (bQ M) a.tmps a.tmps)(hd:a.defers=[]){k k':il}(hk:k.all (gr P)=true)(u:k'.all (gr P)=true){cs:fV}{Q:aS->Act->aS->Prop}(hrun:∀c,gP (cY P) M (iR M) w c->∀T,∀(b:Frame)(cs:fV),∃a1 w1,Q c a1 w1/\a1.defers=[]/\Steps (ae P true) (lone (b.at a k) cs {c with tape:=T}) (lone (b.at a1 k') cs w1))(v:∀ρ c a1 w1 a' w',gP (cY P) M (iR M) w c->Q c a1 w1->aJ ρ a1.tmps a'.tmps->a'.defers=[]->Behind O P M Shun w ρ w1 w'->bP P Post n Shun 0 (a0 ((base f).at a' k') cs) w'):
 bP P Post n Shun 0 (a0 ((base f).at a k) cs) w:=by
 refine ZM e m (f:=f) (cs0:=[]) (bs:=cs) (Jm e j l hd hk) .nil ⟨Y,Y⟩ (R:=λg cse c h=>cse=[]/\∃a1,g=(base f).at a1 k'/\a1.defers=[]/\Q c a1 h) (λc i T=>?_) ?_
 .obtain⟨a1,w1,t,s,r⟩:=hrun c i T (base f) [eM f];grind
 .rintro ρ g cse c h x y w' i ⟨rfl,a1,rfl,o,hq⟩ p d q;cases d;grind[Jn]
end
end
end a3
namespace gg
open Conc RowKit ConcM
set_option maxRecDepth 100000
variable{w:aS}{b:Nat}{p q r x y z:Value}
def aq0{t:g4}(a:w.heap[b]?=some (.cells #[x,y,z] t)):((w.setCell ⟨b,0,none⟩ p).setCell ⟨b,1,none⟩ q).setCell ⟨b,2,none⟩ r=w.setRow b #[p,q,r]:=by have f:=setCell_eq_setRow w b 0 #[x,y,z] t (0,0) p a;have b1:=setRow_heap w b #[x,y,z] (#[x,y,z].setIfInBounds 0 p) t (0,0) a;have e:=setCell_eq_setRow _ b 1 _ t (0,0) q b1;have c:=setRow_heap _ b _ ((#[x,y,z].setIfInBounds 0 p).setIfInBounds 1 q) t (0,0) b1;have d:=setCell_eq_setRow _ b 2 _ t (0,0) r c;grind[setRow_setRow]
variable{i j:uar}
def pV(a:w.heap[b]?=some (.cells #[x,y,z] 186))(h:p.oneCell'=true/\q.oneCell'=true/\r.oneCell'=true){ev:uak}(hi:ev i=.P b 0)(d:ev j=.agg #[p,q,r]){o:Oper}(c:o.op=.store 186 i j):
 (execOp ev o).run prog w=.ok .skip (w.setRow b #[p,q,r])/\(execOp ev o).events prog w #[]=#[⟨.cell ⟨b,0,none⟩,true,false⟩,⟨.cell ⟨b,1,none⟩,true,false⟩,⟨.cell ⟨b,2,none⟩,true,false⟩]:=by
 obtain⟨dst,op,ty,pos,g,gd⟩:=o;simp only at c;subst c;have di:w.cell? (.a b 0)=some x:=D8;have f0:w.frozen? ⟨b,0,none⟩=false:=by simp[World.frozen?,a]
 have f:(w.setCell ⟨b,0,none⟩ p).heap[b]?=some (.cells #[p,y,z] 186):=by simp[World.setCell,vbb,a]
 have c1:(w.setCell ⟨b,0,none⟩ p).cell? (.a b 1)=some y:=by simp[World.cell?,f]
 have f1:(w.setCell ⟨b,0,none⟩ p).frozen? ⟨b,1,none⟩=false:=by simp[World.frozen?,f]
 have e:((w.setCell ⟨b,0,none⟩ p).setCell ⟨b,1,none⟩ q).heap[b]?=some (.cells #[p,q,z] 186):=by simp_all[World.setCell,vbb]
 have bH:((w.setCell ⟨b,0,none⟩ p).setCell ⟨b,1,none⟩ q).cell? (.a b 2)=some z:=by simp[World.cell?,e]
 have ir:((w.setCell ⟨b,0,none⟩ p).setCell ⟨b,1,none⟩ q).frozen? ⟨b,2,none⟩=false:=by simp[World.frozen?,e]
 rw[<-aq0 a];constructor
 .simp[go_sem,hi,d,di,f0,c1,f1,bH,ir,run_store,h]
 .simp[go_sem,hi,d,di,f0,c1,f1,bH,ir,run_store,events_store,h]
def QT{ev:uak}{p q r:Int}{k:uar}(hi:ev i=.I p)(b:ev j=.I q)(hk:ev k=.I r){o:Oper}(a:o.op=.build 186 #[(0,i),(1,j),(2,k)]):(execOp ev o).run prog w=.ok (.value (.agg #[.I p,.I q,.I r])) w/\(execOp ev o).events prog w #[]=#[]:=by
 obtain⟨dst,op,ty,pos,c,gd⟩:=o;simp only at a;subst a;constructor
 .simp[go_sem,hi,b,hk]
 .simp[go_sem,hi,b,hk]
def Ax(a:w.heap[b]?=some (.cells #[x,y,z] 186)){ev:uak}(hi:ev i=.P b 0){o:Oper}(c:o.op=.load 186 i):
 (execOp ev o).run prog w=.ok (.value (.agg #[x,y,z])) w/\(execOp ev o).events prog w #[]=#[⟨.cell ⟨b,0,none⟩,false,false⟩,⟨.cell ⟨b,1,none⟩,false,false⟩,⟨.cell ⟨b,2,none⟩,false,false⟩]:=by
 obtain⟨dst,op,ty,pos,d,gd⟩:=o;simp only at c;subst c;have di:w.cell? (.a b 0)=some x:=D8;have c1:w.cell? (.a b 1)=some y:=D8;have bH:w.cell? (.a b 2)=some z:=D8;constructor
 .simp[go_sem,hi,di,c1,bH]
 .simp[go_sem,hi,di,c1,bH]
def NQ{t:Value}{tmps:dp}(a:w.heap[b]?=some (.cells #[x,y,z] 186))(d:tmps[2]?=some (.P b 0))(c:tmps[3]?=some t):
 (results f83 tmps).run prog w=.ok (.tuple #[.agg #[x,y,z],t]) w/\(results f83 tmps).events prog w #[]=#[⟨.cell ⟨b,0,none⟩,false,false⟩,⟨.cell ⟨b,1,none⟩,false,false⟩,⟨.cell ⟨b,2,none⟩,false,false⟩]:=by
 have di:w.cell? (.a b 0)=some x:=D8;have c1:w.cell? (.a b 1)=some y:=D8;have bH:w.cell? (.a b 2)=some z:=D8;constructor
 .simp[results,f83,go_sem,d,c,di,c1,bH]
 .simp[results,f83,go_sem,d,c,di,c1,bH]
