import Derived.Conc.CompanyDraw
import Derived.Test.YtoehnnefaeoeoaaGreatPAD
import Derived.Test.YtoehnnefaeoeoaaGreatPAE
set_option linter.all false
set_option maxRecDepth 100000
set_option maxHeartbeats 16000000
namespace Go.Proofs.YtoehnnefaeoeoaaGreat
open Go.Proofs.Tryz
namespace iJ
open Conc az bu ab
structure c6(Z:fG) where
 l:Z.av
 mine:Nat->Prop
 S:World->Z.aT->Prop
variable {i n:Nat}{a:Act}{v:Value}
section
variable {Z:fG} {Q:Program} {Stop:Bool->Z.av->a6->Prop} {m:Bool} {b:Frame} {k:List Item} {cs:List Frame} {ops:Array Oper} {md:Region.Mode}
def wk(σ:c6 Z):Prop:=∀w γ w' ae g,σ.S w γ->Z.dN σ.l γ ae->dX Z σ.l ae ⟨g,w,σ.mine⟩ w'->σ.S w' ae
def ak_(σ:c6 Z)(γ:Z.aT)(w' w1:World)(es:Array Event)(b4:c6 Z):Prop:=
 b4.mine=grown σ.mine w' w1/\lB Z σ.mine w' w1/\
 ((b4.l=σ.l/\b4.S w1 γ/\(∀b,b<w'.heap.size->Z.hV b->w1.heap[b]?=w'.heap[b]?)/\qs Z σ.l (grown σ.mine w' w1) (Z.deaf σ.l) es.toList/\¬ ∃e∈es,yy Z e)\/
  (∃bA,b4.S w1 bA/\(∃e∈es,yy Z e)/\Z.wb bA w1/\C3 Z σ.l γ b4.l bA/\xn Z σ.l b4.l (grown σ.mine w' w1) es/\(∀k3,Z.py k3 γ->Z.py k3 bA)/\¬Z.Left b4.l))
variable (Q Stop m b k cs ops) in
def va(todo:List Nat)(σ:c6 Z)(a:Act):Prop:=∀w γ,σ.S w γ->bh Z Q Stop m σ.l γ ⟨G (b.at a (.inRegion ops todo::k)) cs,w,σ.mine⟩
variable (Q b) in
def De(o:Oper)(σ:c6 Z)(a:Act)(K:c6 Z->Act->Prop):Prop:=
 ∀w γ w' ae g,σ.S w γ->Z.dN σ.l γ ae->dX Z σ.l ae ⟨g,w,σ.mine⟩ w'->∃u w1 b4,((execOp a.eval o).run Q w'=.ok (.value u) w1\/((execOp a.eval o).run Q w'=.ok .skip w1/\u=undef))/\ak_ σ ae w' w1 (listed Q b.fn a o w') b4/\K b4 (a.put o.dst u)
variable (Q Stop m) in
def jS(f:FuncId)(args:Array Value)(σ:c6 Z)(V:Value->c6 Z->Prop):Prop:=
 ∀(b₁:Frame)(a₁:Act)(aG:Array Oper)(i₁:Nat)(aP:List Nat)(k₁:List Item)(cs₁:List Frame),
  (∀u b4,V u b4->∀w γ,b4.S w γ->bh Z Q Stop m b4.l γ ⟨G (b₁.at (a₁.put ((aG[i₁]?).bind (·.dst)) u) (.inRegion aG aP::k₁)) cs₁,w,b4.mine⟩)->
  ∀w γ,σ.S w γ->bh Z Q Stop m σ.l γ ⟨G (Frame.enter Q f args .normal) (b₁.at a₁ (.inRegion aG (i₁::aP)::k₁)::cs₁),w,σ.mine⟩
variable (Q Stop m b) in
def Rs(o:Oper)(σ:c6 Z)(a:Act)(K:c6 Z->Act->Prop):Prop:=
 ∃f args V,(∀w γ w' ae g,σ.S w γ->Z.dN σ.l γ ae->dX Z σ.l ae ⟨g,w,σ.mine⟩ w'->(execOp a.eval o).run Q w'=.ok (.enter f args) w'/\qs Z σ.l σ.mine (Z.deaf σ.l) (listed Q b.fn a o w').toList/\¬ ∃e∈listed Q b.fn a o w',yy Z e)/\jS Q Stop m f args σ V/\∀u b4,V u b4->K b4 (a.put o.dst u)
variable (Q Stop m b ops) in
def pB(i:Nat)(σ:c6 Z)(a:Act)(K:c6 Z->Act->Prop):Prop:=
 match ops[i]? with
 |none=>False
 |some o=>if Region.wanted o (yielded ops a.tmps)then De Q b o σ a K\/Rs Q Stop m b o σ a K else K σ (a.put o.dst undef)
theorem pB.mono{σ:c6 Z}{K K':c6 Z->Act->Prop}(h:pB Q Stop m b ops i σ a K)(q:∀σ a,K σ a->K' σ a):pB Q Stop m b ops i σ a K':=by
 unfold pB at *;split
 ·simp_all
 ·rename_i o k;simp[k]at h;split
  ·rename_i j;simp[j]at h;rcases h with h|⟨f,args,V,d,c,e⟩
   ·refine .inl fun w γ w' l g d c e=>?_;obtain⟨u,w1,r,r1,p,n⟩:=h w γ w' l g d c e;grind
   ·exact .inr ⟨f,args,V,d,c,AU⟩
  grind
theorem ala(s:∀l g g1,¬Z.qr l g g1)(L:b.kind≠ .early){rest:List Nat}{σ:c6 Z}(j:wk σ)(h:pB Q Stop m b ops i σ a (fun q a1=>va Q Stop m b k cs ops rest q a1)):va Q Stop m b k cs ops (i::rest) σ a:=by
 intro w γ hS;unfold pB at h;split at h
 ·grind
 ·rename_i o z;split at h
  ·rename_i y;refine bh.mk rfl fun w' c d n=>?_;rcases h with h|⟨f,args,V,P,O,N⟩;rotate_left
   ·obtain⟨r1,S,E⟩:=P w γ w' c _ hS d n;refine .quiet (stepG_enter z y L r1) ⟨rfl,tT _ _ _,AU,by grind[lD],fun e=>e.elim E (s _ _ _)⟩ ?_;rw[lD rfl];refine O b a ops i rest k cs (fun u q K C D R=>?_) w' c (j w γ w' c _ hS d n);have:=N u q K C D R;grind
   obtain⟨u,w1,q,hrun,⟨U,x,M⟩,hK⟩:=h w γ w' c _ hS d n;have p:stepG Q m (G (b.at a (.inRegion ops (i::rest)::k)) cs) w'=.go (G (b.at (a.put o.dst u) (.inRegion ops rest::k)) cs) w1 (listed Q b.fn a o w'):=by grind[stepG_value,stepG_none]
   rcases M with⟨hl,r,I,H,t⟩|⟨bA,r,J,F,A,v,B,T⟩
   ·refine .quiet p ⟨rfl,x,I,H,fun e=>e.elim t (s _ _ _)⟩ ?_;have:=hK w1 c r;grind
   ·refine .turn p ⟨rfl,.inl J,x,F,A,v,.inr B⟩ AU ?_;have:=hK w1 bA r;grind
  ·rename_i y;refine bh.mk rfl fun w' c d n=>?_;have p:stepG Q m (G (b.at a (.inRegion ops (i::rest)::k)) cs) w'=.go (G (b.at (a.put o.dst undef) (.inRegion ops rest::k)) cs) w' #[]:=stepG_unwanted z AU;refine .quiet p ⟨rfl,tT _ _ _,AU,trivial,fun e=>e.elim AU (s _ _ _)⟩ ?_;rw[lD rfl];exact h w' c (j w γ w' c _ hS d n)
variable (Q Stop m b md ops) in
def wl(C:c6 Z->Prop)(jm:c6 Z->Act->Prop):Nat->Array Bool->c6 Z->Act->Prop
 |0,aq,σ,a=>Region.ready md ops aq=[]/\jm σ a
 |n+1,aq,σ,a=>(Region.ready md ops aq=[]->jm σ a)/\∀i∈Region.ready md ops aq,pB Q Stop m b ops i σ a (fun b4 a1=>C b4/\wl C jm n (aq.setIfInBounds i true) b4 a1)
theorem alc(e:∀l g g1,¬Z.qr l g g1)(f:b.kind≠ .early){C:c6 Z->Prop}(j:∀σ,C σ->wk σ){jm:c6 Z->Act->Prop}(hK:∀σ a,C σ->jm σ a->va Q Stop m b k cs ops [] σ a):
 ∀(n t:Nat)(aq:Array Bool)(σ:c6 Z)(a:Act),C σ->wl Q Stop m b ops md C jm n aq σ a->va Q Stop m b k cs ops (Region.linearise.go md ops n t aq []) σ a:=by
 intro n;induction n with
 |zero=>intro t aq σ a c h;simpa[Region.linearise.go]using hK σ a c h.2
 |succ n q=>
  intro t aq σ a c h;obtain⟨p,d⟩:=h;simp only[Region.linearise.go];change va Q Stop m b k cs ops (match(Region.ready md ops aq)[t % (Region.ready md ops aq).length]? with
   |some i=>Region.linearise.go md ops n (t / (Region.ready md ops aq).length) (aq.setIfInBounds i true) [i]
   |none=>[].reverse) σ a
  cases hi:(Region.ready md ops aq)[t % (Region.ready md ops aq).length]? with
  |none=>
   have o:Region.ready md ops aq=[]:=by cases r:Region.ready md ops aq with|nil=>rfl|cons x xs=>grind[Nat.mod_lt]
   grind
  |some i=>simp only[];rw[linearise_go_acc,List.reverse_singleton,List.singleton_append];exact ala e f (j σ c) ((d i (List.mem_of_getElem? hi)).mono AU)
variable (Q b ops) in
def oi(C:c6 Z->Prop)(o:Oper)(v:Value)(a:Act):Prop:=
 (Region.wanted o (yielded ops a.tmps)=true/\∀σ,C σ->∀w γ w' ae g,σ.S w γ->Z.dN σ.l γ ae->dX Z σ.l ae ⟨g,w,σ.mine⟩ w'->(execOp a.eval o).run Q w'=.ok (.value v) w'/\qs Z σ.l σ.mine (Z.deaf σ.l) (listed Q b.fn a o w').toList/\¬ ∃e∈listed Q b.fn a o w',yy Z e)\/
 (Region.wanted o (yielded ops a.tmps)=false/\v=undef)
theorem oi.My{C:c6 Z->Prop}{o:Oper}{a':Act}(c:oi Q b ops C o v a)(e:execOp a'.eval o=execOp a.eval o)
 (d:Region.wanted o (yielded ops a'.tmps)=Region.wanted o (yielded ops a.tmps)):oi Q b ops C o v a':=by
 grind[oi,listed]
theorem oi.YP{C:c6 Z->Prop}{o:Oper}{σ:c6 Z}(hi:ops[i]?=some o)(n:oi Q b ops C o v a)(r:C σ)(c:wk σ){K:c6 Z->Act->Prop}(h:K σ (a.put o.dst v)):pB Q Stop m b ops i σ a K:=by
 unfold pB;simp[hi];rcases n with⟨d,p⟩|⟨d,rfl⟩
 ·simp[d];refine .inl fun w γ w' k g j f e=>?_;obtain⟨r1,s,l⟩:=p σ r w γ w' k g j f e;have q:grown σ.mine w' w'=σ.mine:=lD rfl;exact⟨v,w',σ,.inl r1,⟨q.symm,tT _ _ _,.inl ⟨rfl,c w γ w' k g j f e,AU,AU,l⟩⟩,h⟩
 grind
theorem alf{C:c6 Z->Prop}{j:Nat}{c d:Oper}(y:ops[j]?=some d)(A:c.apart ops d=true)
 (B:∀cs b,c.op≠ .select cs b) (q:∀cs b,d.op≠ .select cs b) {K:c6 Z->Act->Prop}  {σ:c6 Z}
 (e:oi Q b ops C c v a) (h:pB Q Stop m b ops j σ (a.put c.dst v) K):
 pB Q Stop m b ops j σ a (fun l a1=>oi Q b ops C c v a1/\K l (a1.put c.dst v)):=by
 obtain⟨i,F,p⟩:=Oper.apart_spec A;have keep:∀(a:Act),oi Q b ops C c v a->∀u,oi Q b ops C c v (a.put d.dst u):=fun a e u=>
  e.My (execOp_put c B a d.dst u p) (wanted_put c a d.dst u p)
 unfold pB at *;simp only[y]at *;rw[wanted_put d a c.dst v i]at h;split
 ·rename_i x;simp[x]at h;rcases h with h|⟨f,args,V,q1,k,o⟩
  ·refine .inl fun w γ w' n g q1 k o=>?_;obtain⟨u,w1,l,r1,r,D⟩:=h w γ w' n g q1 k o;unfold listed at *;rw[execOp_put d q a c.dst v i]at r1 r;grind[Act.put_comm]
  ·refine .inr ⟨f,args,V,fun w γ w' n g z t s=>?_,k,fun u l E=>⟨keep a e u,by grind[Act.put_comm]⟩⟩;have r1:=q1 w γ w' n g z t s;unfold listed at *;rw[execOp_put d q a c.dst v i]at r1;exact r1
 grind[Act.put_comm]
theorem alg{C:c6 Z->Prop}(s:∀σ,C σ->wk σ){jm:c6 Z->Act->Prop}{g:Oper}(hi:ops[i]?=some g)
 (M:∀(j:Nat)(o:Oper) cs b,ops[j]?=some o->o.op≠ .select cs b):
 ∀(n:Nat)(aq:Array Bool)(σ:c6 Z)(a:Act),
  (∀j f,ops[j]?=some f->j≠i->aq.getD j true=false->(∀e∈f.after,Region.binds md e=true->e.on≠i)->g.apart ops f=true)->
  i∈Region.ready md ops aq->oi Q b ops C g v a->C σ->
  wl Q Stop m b ops md C jm n (aq.setIfInBounds i true) σ (a.put g.dst v)->wl Q Stop m b ops md C jm (n+1) aq σ a:=by
 intro n;induction n with
 |zero=>
  intro aq σ a _ r h c H;refine⟨AU,fun j l=>?_⟩;by_cases d:j=i
  ·subst d;exact h.YP hi c (s σ c) ⟨c,H⟩
  ·have:=ready_mono l d;rw[H.1]at this;grind
 |succ n t=>
  intro aq σ a E r h c H;refine⟨AU,fun j l=>?_⟩;by_cases d:j=i
  ·subst d;exact h.YP hi c (s σ c) ⟨c,H⟩
  ·have y:=H.2 j (ready_mono l d);obtain⟨A,f,D,J⟩:=mem_ready.1 l;have I:∀e∈f.after,Region.binds md e=true->e.on≠i:=fun e K L w=>by grind[mem_ready]
   have x:=alf D AU AU AU h y;have B:∀k ok,ops[k]?=some ok->k≠i->(aq.setIfInBounds j true).getD k true=false->
    (∀e∈ok.after,Region.binds md e=true->e.on≠i)->g.apart ops ok=true:=fun k ok u F O p=>by
    refine E k ok u F ?_ p;by_cases N:j=k
    ·grind
    simp_all
   refine x.mono fun z a1 q=>⟨q.2.1,t (aq.setIfInBounds j true) z a1 B (ready_mono r (Ne.symm d)) q.1 q.2.1 ?_⟩;grind[Array.setIfInBounds_comm]
theorem cQ{C:c6 Z->Prop}(j:∀σ,C σ->wk σ){jm:c6 Z->Act->Prop}{c:Oper}{aq:Array Bool}{σ:c6 Z}(hi:ops[i]?=some c)
 (e:Region.noSelect ops=true) (f:Region.free md ops aq i=true) (k:(Region.ready md ops aq).contains i=true)
 (d:oi Q b ops C c v a) (g:C σ) (h:wl Q Stop m b ops md C jm n (aq.setIfInBounds i true) σ (a.put c.dst v)):wl Q Stop m b ops md C jm (n+1) aq σ a:=
 alg j hi (Region.noSelect_spec e) n aq σ a (Region.free_spec hi f) AU d g h
theorem Rx{C:c6 Z->Prop}{jm:c6 Z->Act->Prop}{rs:List Nat}{aq:Array Bool}{σ:c6 Z}(d:Region.ready md ops aq=rs)(e:rs≠[])
 (h:∀i∈rs,pB Q Stop m b ops i σ a (fun c a1=>C c/\wl Q Stop m b ops md C jm n (aq.setIfInBounds i true) c a1)):wl Q Stop m b ops md C jm (n+1) aq σ a:=
 ⟨AU,d▸h⟩
theorem zO{C:c6 Z->Prop}{jm:c6 Z->Act->Prop}{aq:Array Bool}{σ:c6 Z}(c:Region.ready md ops aq=[])(h:jm σ a):∀n,wl Q Stop m b ops md C jm n aq σ a
 |0=>⟨c,h⟩
 | _+1=>⟨fun _=>h,AU⟩
theorem Dg(i:∀l g g1,¬Z.qr l g g1)(q:b.kind≠ .early)(p:Q.follows .mixedOrders=true){C:c6 Z->Prop}(j:∀σ,C σ->wk σ)(d:∀σ,C σ->∀w γ,σ.S w γ->σ.S {w with drawn:=w.drawn+1} γ){jm:c6 Z->Act->Prop}(hK:∀σ a,C σ->jm σ a->va Q Stop m b k cs ops [] σ a)
 {id:Nat} {σ:c6 Z}  (c:C σ) (h:wl Q Stop m b ops .any C jm ops.size (Array.replicate ops.size false) σ a) (w:World) (γ:Z.aT) (hS:σ.S w γ):
 bh Z Q Stop m σ.l γ ⟨G (b.at a (.code (.region id ops true)::k)) cs,w,σ.mine⟩:=by
 refine bh.mk rfl fun w' f n o=>?_;refine .quiet stepG_region_draw ⟨rfl,⟨AU,Nat.le_refl _,.refl _,rfl,rfl⟩,AU,trivial,fun e=>e.elim AU (i _ _ _)⟩ ?_;rw[lD (w:=w') (w1:={w' with drawn:=w'.drawn+1}) rfl];simp only[Region.schedule,p,Bool.true_or,if_true];exact alc i q j hK ops.size _ _ σ a c h _ f (d σ c w' f (j σ c w γ w' f _ hS n o))
end
section
section
variable {Z:fG} {Q:Program} {Stop:Bool->Z.av->a6->Prop} {m:Bool} {l:Z.av} {γ:Z.aT} {X:a6} {w':World}
def F4(Z:fG)(mine:Nat->Prop)(e:Event):Prop:=
 match e.loc with
 | .cell a=>e.sync=false/\((Z.K a.block/\e.write=false)\/mine a.block)
 | .obj r=>e.sync=false/\((Z.K r/\e.write=false)\/mine r)
 | .mark .noRoom| .mark (.extern _)=>True
 | _=>False
theorem Ry(u:∀l g g1,¬Z.qr l g g1)(v:Z.past l=false){g1:Goroutine}{w1:World}{es:Array Event}(n:stepG Q m X.g w'=.go g1 w1 es)(hrun:g1.status=.running)(p:∀b,b<w'.heap.size->¬X.mine b->w1.heap[b]?=w'.heap[b]?)(hsz:w'.heap.size<=w1.heap.size)
 (k:w1.os=w'.os) (t:w1.output=w'.output) (s:w1.tape=w'.tape) (q:∀b,grown X.mine w' w1 b->¬Z.hV b) (c:∀e∈es,F4 Z (grown X.mine w' w1) e) (h:bh Z Q Stop m l γ ⟨g1,w1,grown X.mine w' w1⟩):iq (Z:=Z) Q Stop m l γ X w':=by
 refine .quiet n ⟨hrun,⟨AU,hsz,by rw[k];exact .refl _,t,s⟩,fun b j hS=>p b j fun o=>q b (.inl o) hS,A_ _ _ fun e i d=>?_,?_⟩ h
 ·have:=c e AU;unfold F4 at this;unfold we;cases hl:e.loc with
  |cell a=>grind
  |obj r=>grind
  |mark mk=>rw[hl]at this;cases mk<;>first|exact .inl this|grind
  |output=>trivial
  |goroutines=>grind
 ·rintro(⟨e,i,f⟩|h)
  ·have:=c e i;unfold F4 at this;rcases f with h|h|⟨a,h⟩|⟨a,h⟩|⟨f,b,j,hS⟩
   ·grind
   ·grind
   ·grind
   ·grind
   grind[fF]
  grind
end
end
end iJ
namespace gF
open Conc ConcM az bu ab iJ
variable {g g1:Goroutine}
section
section
variable {Z:fG} {Q:Program} {Stop:Bool->Z.av->a6->Prop} {m:Bool} {l:Z.av} {γ:Z.aT}
theorem we.more{M M':Nat->Prop}(h:∀b,M b->M' b){d:Nat}{e:Event}(k:we Z l M d e):we Z l M' d e:=by grind[we]
theorem qs.more{M M':Nat->Prop}(h:∀b,M b->M' b):∀{es:List Event}{d:Nat},qs Z l M d es->qs Z l M' d es
 | [],_,_=>trivial
 | _::_,_,k=>⟨we.more h k.1,qs.more h k.2⟩
theorem Dh{M M':Nat->Prop}(h:∀b,M b->M' b)(w w1:World):∀b,grown M w w1 b->grown M' w w1 b:=fun _ k=>k.imp (h _) id
theorem lB.more{M M':Nat->Prop}(h:∀b,M b->M' b){w w1:World}(k:lB Z M w w1):lB Z M' w w1:=
 ⟨fun b c d a=>k.kept b c AU a,k.size,k.os,k.output,k.tape⟩
theorem xn.more{M M':Nat->Prop}(h:∀b,M b->M' b){l1:Z.av}{es:Array Event}(k:xn Z l l1 M es):xn Z l l1 M' es:=by
 rcases k with⟨a,e,d,c⟩|k|k|k
 ·exact .inl ⟨a,e,d,qs.more h c⟩
 ·exact .inr (.inl k)
 ·exact .inr (.inr (.inl k))
 ·exact .inr (.inr (.inr k))
theorem bh.more(hS:∀m l g w M M',(∀b,M b->M' b)->Stop m l ⟨g,w,M⟩->Stop m l ⟨g,w,M'⟩){X:a6}(h:bh Z Q Stop m l γ X):∀{M':Nat->Prop},(∀b,X.mine b->M' b)->bh Z Q Stop m l γ ⟨X.g,X.w,M'⟩:=by
 induction h with
 |stop h=>exact fun d=>.stop (hS _ _ _ _ _ _ d h)
 |@step m l γ X n ch ok s u t v r p o y=>
  intro M' d;have j:∀{w' f},dX Z l f ⟨X.g,X.w,M'⟩ w'->dX Z l f X w':=fun a=>⟨⟨fun b x=>a.rely.heap b AU,a.rely.size,a.rely.env⟩,a.mt,a.sees,a.later,a.output,a.tape⟩;refine .step n ch (fun w' f i a=>?_) (fun w' f g1 w1 es i a e hrun hl=>r w' f g1 w1 es i (j a) e hrun hl (Dh d w' w1)) (fun w' f g1 w1 es i a e hl=>p w' f g1 w1 es i (j a) e hl (Dh d w' w1)) (fun w' f g1 c w1 es i a e=>o w' f g1 c w1 es i (j a) e (Dh d w' w1)) AU;rcases ok w' f i (j a)with⟨g1,w1,es,e,q⟩|⟨g1,w1,es,e,q,k⟩|h|⟨em,g1,c,w1,es,e,q⟩
  ·exact .inl ⟨g1,w1,es,e,q.run,lB.more d q.keep,q.kp,qs.more (Dh d w' w1) q.evs,q.low⟩
  ·exact .inr (.inl ⟨g1,w1,es,e,⟨q.run,q.Mh,lB.more d q.keep,q.mt,q.A8,xn.more (Dh d w' w1) q.says,q.IG⟩,fun h=>⟨(k h).1,hS _ _ _ _ _ _ (Dh d w' w1) (k h).2⟩⟩)
  ·exact .inr (.inr (.inl h))
  ·exact .inr (.inr (.inr ⟨em,g1,c,w1,es,e,⟨q.run,q.Yv,lB.more d q.keep,q.mt,q.be,q.A8,qs.more (Dh d w' w1) q.evs,q.deaf,q.cD,q.past,q.IG,q.Ra⟩⟩))
def ck(mine:Nat->Prop)(bs:List (Nat×Obj))(b:Nat):Prop:=mine b\/b∈bs.map (·.1)
structure aZ(Z:fG)(mine:Nat->Prop)(w0:World)(bs:List (Nat×Obj))(w:World):Prop where
 rw:U Z mine w0 w
 cV:∀x∈bs,w.heap[x.1]?=some x.2
 lt:∀b,Z.K b\/mine b\/Z.hV b->b<w.heap.size
 fy:∀b,Z.K b\/ck mine bs b->¬Z.hV b
 uS:∀b∈bs.map (·.1),¬(Z.K b\/mine b)
 Di:(bs.map (·.1)).Nodup
 xw:∀b,mine b->¬Z.K b
variable {mine:Nat->Prop} {w0:World} {bs:List (Nat×Obj)} {w w1:World}
theorem aZ.on(h:aZ Z mine w0 bs w)(r:U Z (ck mine bs) w w1):aZ Z mine w0 bs w1:=
 ⟨h.rw.trans ⟨fun b a=>r.heap b (a.imp id .inl),r.size,r.later,r.output,r.tape⟩,fun x c=>(r.heap x.1 (.inr (.inr AU))).trans (h.cV x c),fun b a=>Nat.lt_of_lt_of_le (h.lt b a) r.size,h.fy,h.uS,h.Di,h.xw⟩
theorem g6{X:Z.aT->Prop}{n:Nat}(e:g.status=.running)(hF:aZ Z mine w0 bs w)(h:∀c,U Z (ck mine bs) w c->∀d,X d->∀b a,Z.dN l d a->dX Z l a ⟨g,c,ck mine bs⟩ b->aZ Z mine w0 bs b->iq Q Stop m l a ⟨g,c,ck mine bs⟩ b):
 Goes Q m (U Z (ck mine bs)) Go.ConcR.DC0 (fun g w=>g.status=.running/\∀j,X j->bh Z Q Stop m l j ⟨g,w,ck mine bs⟩) n g w:=
 Goes.stop fun c i=>⟨e,fun d o=>bh.mk e fun b a k f=>h c i d o b a k f ((hF.on i).on (dX.rw f))⟩
theorem aZ.start(hK:∀b,Z.K b\/mine b\/Z.hV b->b<w.heap.size)(c:∀b,Z.K b\/mine b->¬Z.hV b)(hd:∀b,mine b->¬Z.K b):aZ Z mine w [] w:=
 ⟨.refl _ _ _,Aa,hK,fun b a=>c b (a.imp id (fun x=>x.elim id Aa)),Aa,Aa,hd⟩
theorem ck.cons{b0:Nat}{o:Obj}:(fun b=>ck mine bs b\/b=b0)=ck mine ((b0,o)::bs):=by grind[ck]
theorem RA(M:Nat->Prop)(w:World)(o:Obj):grown M w (w.alloc o)=fun b=>M b\/b=w.heap.size:=by grind[grown,World.alloc]
theorem Dj{o:Obj}{b:Nat}(h:b<w.heap.size):(w.alloc o).heap[b]?=w.heap[b]?:=by show(w.heap.push o)[b]?=_;grind
theorem alk{o:Obj}:(w.alloc o).heap[w.heap.size]?=some o:=by show(w.heap.push o)[w.heap.size]?=_;grind
theorem alm{o:Obj}:(w.alloc o).heap.size=w.heap.size+1:=by simp_all
theorem aZ.RB(h:aZ Z mine w0 bs w){b:Nat}(c:b∈bs.map (·.1)):b<w.heap.size:=by obtain⟨x,a,rfl⟩:=List.mem_map.1 c;have:=h.cV x a;grind
theorem aZ.alloc(h:aZ Z mine w0 bs w)(f:∀b,Z.K b->¬Z.hV b)(o:Obj):aZ Z mine w0 ((w.heap.size,o)::bs) (w.alloc o):=by
 have g:∀b,Z.K b\/mine b\/Z.hV b->b≠w.heap.size:=fun b a=>Nat.ne_of_lt (h.lt b a);refine⟨h.rw.trans ⟨fun b a=>Dj (h.lt b AU),Bp,.refl _,rfl,rfl⟩,fun x c=>?_,fun b a=>by rw[alm];have:=h.lt b a;omega,fun b a d=>?_,fun b a=>?_,?_,h.xw⟩
 ·rcases List.mem_cons.1 c with rfl|c
  ·exact alk
  ·rw[Dj (h.RB AU)];exact h.cV x c
 ·rcases a with a|a|a
  ·grind
  ·exact h.fy b (.inr (.inl a)) d
  ·rcases List.mem_cons.1 a with rfl|a
   ·grind
   ·exact h.fy b (.inr (.inr a)) d
 ·rcases List.mem_cons.1 a with rfl|a
  ·grind
  ·exact h.uS b a
 ·simp only[List.map_cons,List.nodup_cons];exact⟨fun e=>Nat.lt_irrefl _ (h.RB e),h.Di⟩
theorem tU(f:∀l g g1,¬Z.qr l g g1)(i:∀b,Z.K b->¬Z.hV b)(p:Z.past l=false){o:Obj}{es:Array Event}(k:aZ Z mine w0 bs w)(j:stepG Q m g w=.go g1 (w.alloc o) es)(hrun:g1.status=.running)(hes:es=#[]){d:World}
 (h:aZ Z mine w0 ((w.heap.size,o)::bs) (w.alloc o)->bh Z Q Stop m l γ ⟨g1,w.alloc o,ck mine ((w.heap.size,o)::bs)⟩):iq (Z:=Z) Q Stop m l γ ⟨g,d,ck mine bs⟩ w:=by
 have e:=k.alloc i o;have n:grown (ck mine bs) w (w.alloc o)=ck mine ((w.heap.size,o)::bs):=by rw[RA];exact ck.cons
 refine Ry f p j hrun (fun b a _=>Dj a) Bp rfl rfl rfl ?_ AU ?_
 ·intro b a hS;have c:grown (ck mine bs) w (w.alloc o) b:=a;rw[n]at c;exact e.fy b (.inr c) hS
 grind
theorem tj(c:∀l g g1,¬Z.qr l g g1)(f:Z.past l=false){M:Nat->Prop}{es:Array Event}(i:∀b,M b->¬Z.hV b)(d:stepG Q m g w=.go g1 w es)(hrun:g1.status=.running)(hes:∀e∈es,F4 Z M e){a:World}(h:bh Z Q Stop m l γ ⟨g1,w,M⟩):iq (Z:=Z) Q Stop m l γ ⟨g,a,M⟩ w:=by
 have j:grown M w w=M:=lD rfl;refine Ry c f d hrun AU Jr rfl rfl rfl (fun b n=>i b ?_) (fun e k=>?_) ?_
 ·simp_all
 ·grind
 grind
theorem aZ.write(h:aZ Z mine w0 bs w){b:Nat}{bs':List (Nat×Obj)}(j:b∈bs.map (·.1))(d:bs'.map (·.1)=bs.map (·.1))(g:∀x∈bs',w1.heap[x.1]?=some x.2)(a:∀k,k≠b->w1.heap[k]?=w.heap[k]?)(hsz:w1.heap.size=w.heap.size)(f:w1.os=w.os)(i:w1.output=w.output)(ht:w1.tape=w.tape):aZ Z mine w0 bs' w1:=by
 have l:ck mine bs'=ck mine bs:=by grind[ck]
 refine⟨h.rw.trans ⟨fun k c=>a k fun e=>h.uS b j (e▸c),AU,by rw[f];exact .refl _,i,ht⟩,g,fun k c=>by rw[hsz];exact h.lt k c,by rw[l];exact h.fy,by rw[d];exact h.uS,by rw[d];exact h.Di,h.xw⟩
theorem aln(o:∀l g g1,¬Z.qr l g g1)(s:Z.past l=false){es:Array Event}(f:aZ Z mine w0 bs w)(q:stepG Q m g w=.go g1 w1 es)(hrun:g1.status=.running){b:Nat}{bs':List (Nat×Obj)}(i:b∈bs.map (·.1))(r:bs'.map (·.1)=bs.map (·.1))(p:∀x∈bs',w1.heap[x.1]?=some x.2)(a:∀k,k≠b->w1.heap[k]?=w.heap[k]?)(hsz:w1.heap.size=w.heap.size)(c:w1.os=w.os)(d:w1.output=w.output)(ht:w1.tape=w.tape)
 (hes:∀e∈es,F4 Z (ck mine bs) e) {n:World} (h:aZ Z mine w0 bs' w1->bh Z Q Stop m l γ ⟨g1,w1,ck mine bs'⟩):iq (Z:=Z) Q Stop m l γ ⟨g,n,ck mine bs⟩ w:=by
 have t:=f.write i r p a hsz c d ht;have u:grown (ck mine bs) w w1=ck mine bs:=lD hsz;have y:ck mine bs'=ck mine bs:=by grind[ck]
 refine Ry o s q hrun (fun k _ j=>a k fun e=>j (.inr (e▸i))) AU c d ht (fun k j=>f.fy k (.inr ?_)) (fun e v=>?_) ?_
 ·simp_all
 ·grind
 grind
end
end
open gb
structure ir where
 T:Nat
 M:Nat
 D:List Value
def ir.of(b:cF):ir:=⟨b.taken,b.came,b.done⟩
variable {d:ir}{v:Value}
section
variable {c:dT} {Q:Program} {Stop:Bool->ab.av aV->a6->Prop} {m:Bool} {mine:Nat->Prop} {w0:World}
def Held(c:dT)(mine:Nat->Prop)(w0:World)(d:ir)(bs:List (Nat×Obj))(w:World)(γ:ab.aT cF):Prop:=aZ (ah (aE c)) mine w0 bs w/\ir.of γ.am=d
def mZ(c:dT)(mine:Nat->Prop)(w0:World)(d:ir)(l:ab.av aV)(bs:List (Nat×Obj)):c6 (ah (aE c)):=⟨l,ck mine bs,Held c mine w0 d bs⟩
def Dk(c:dT)(mine:Nat->Prop)(w0:World)(d:ir)(l:ab.av aV)(σ:c6 (ah (aE c))):Prop:=∃bs,σ=mZ c mine w0 d l bs
theorem xE{l:ab.av aV}(hl:l.bB=.own){γ a:ab.aT cF}(b:(ah (aE c)).dN l γ a):ir.of a.am=ir.of γ.am:=by
 rcases b with rfl|⟨_,⟨h,_⟩,_⟩
 ·rfl
 ·rw[hl]at h;obtain⟨f,e,d⟩:=h rfl;grind[ir.of]
theorem Held.on{l:ab.av aV}(hl:l.bB=.own){bs:List (Nat×Obj)}{w w':World}{γ a:ab.aT cF}(h:Held c mine w0 d bs w γ)(b:(ah (aE c)).dN l γ a)(r:U (ah (aE c)) (ck mine bs) w w'):Held c mine w0 d bs w' a:=
 ⟨h.1.on r,(xE hl b).trans h.2⟩
theorem dx{l:ab.av aV}(hl:l.bB=.own):∀σ,Dk c mine w0 d l σ->wk σ:=by rintro _ ⟨bs,rfl⟩ w γ w' e g h b a;exact Held.on hl h b (dX.rw a)
theorem IW{l:ab.av aV}:∀σ,Dk c mine w0 d l σ->∀w γ,σ.S w γ->σ.S {w with drawn:=w.drawn+1} γ:=by rintro _ ⟨bs,rfl⟩ w γ ⟨h,hd⟩;exact⟨⟨h.rw.trans ⟨fun _ _=>rfl,Nat.le_refl _,.refl _,rfl,rfl⟩,h.cV,h.lt,h.fy,h.uS,h.Di,h.xw⟩,hd⟩
variable {b:Frame} {ops:Array Oper}
theorem eh{Z:fG}{C:c6 Z->Prop}{o:Oper}{a:Act}(c:Region.wanted o (yielded ops a.tmps)=true)(h:∀w,(execOp a.eval o).run Q w=.ok (.value v) w)(d:∀w,listed Q b.fn a o w=#[]):oi Q b ops C o v a:=
 .inl ⟨c,fun σ _ w γ w' e g _ _ _=>⟨h w',by rw[d];exact trivial,AU⟩⟩
theorem IX{Z:fG}{C:c6 Z->Prop}{o:Oper}{a:Act}(c:Region.wanted o (yielded ops a.tmps)=false):oi Q b ops C o undef a:=.inr ⟨c,rfl⟩
theorem IY{aC:bk}{x:cF}{w:World}(h:w.heap[c.st]?=some (ic (aE c) aC x))(k:Nat):w.cell? ⟨c.st,k+2,none⟩=((aE c).cells x)[k]?:=by simp_all[World.cell?,ic]
theorem xF{l:ab.av aV}(hl:l.bB=.own)(ht:l.cD=true)(s:ku l.am=false){o:Oper}{a:Act}(k:Nat)(f:Region.wanted o (yielded ops a.tmps)=true)
 (n:∀x,ir.of x=d->((aE c).cells x)[k]?=some v) (h:∀w,w.cell? ⟨c.st,k+2,none⟩=some v->(execOp a.eval o).run Q w=.ok (.value v) w/\listed Q b.fn a o w=#[⟨.cell ⟨c.st,k+2,none⟩,false,false⟩]):oi Q b ops (Dk c mine w0 d l) o v a:=by
 refine .inl ⟨f,?_⟩;rintro _ ⟨bs,rfl⟩ w γ w' t g hS p i;have hZ:=Held.on hl hS p (dX.rw i);have q:w'.cell? ⟨c.st,k+2,none⟩=some v:=by rw[IY i.mt.1,n _ hZ.2]
 obtain⟨r,m⟩:=h w' q;refine⟨r,?_,?_⟩
 ·rw[m];exact⟨.inl ⟨rfl,.inr (.inr ⟨AU,ht⟩),s⟩,trivial⟩
 ·rw[m];rintro⟨e,j,f⟩;simp at j;subst j;rcases f with h|h|⟨_,h⟩|⟨_,h⟩|⟨h,_⟩<;>cases h
end
theorem bh.seen{Z:fG}{Q:Program}{Stop:Bool->Z.av->a6->Prop}{m:Bool}{l:Z.av}{γ:Z.aT}{X:a6}(G:Z.Good)(e:X.g.status=.running)(h:∀a,Z.dN l γ a->hX Z l a->bh Z Q Stop m l a X):bh Z Q Stop m l γ X:=by
 by_cases b:Stop m l X
 ·exact .stop b
 ·refine bh.mk e fun w' a f c=>?_;rcases(h a f c.sees).next with d|⟨_,d⟩
  ·grind
  ·exact d w' a (G.refl _ _) c
section
variable {P:Program} {main:Bool} {b:Frame} {a:Act} {cs:List Frame} {w:World}
theorem Y6{fn:Func}{todo:List Item}{c:Frame}{es:Array Event}(g:b.kind=.normal)(hd:a.defers=[])(e:P.funcs[b.fn]?=some fn)
 (d:(results fn a.tmps).run P w=.ok v w) (f:(results fn a.tmps).events P w #[]=es):
 stepG P main (G {b.at a todo with mode:=.returning} (c::cs)) w=.go (G (c.finish v) cs) w (seen P b.fn es):=by
 simp[G,stepG,unwind,doReturn,Frame.at,g,hd,e,d,f,GStep.after]
end
section
variable {c:dT} {Q:Program} {Stop:Bool->ab.av aV->a6->Prop} {m:Bool} {mine:Nat->Prop} {w0:World} {l:ab.av aV} {γ:ab.aT cF} {X:a6} {w':World}
theorem alK{loc:Loc}{d:Bool}(h:∀mk,loc≠ .mark mk):¬ ∃e∈(#[⟨loc,false,d⟩]:Array Event),yy (ah (aE c)) e:=by
 rintro⟨e,b,f⟩;simp at b;subst b;rcases f with a|a|⟨_,a⟩|⟨_,a⟩|⟨a,_⟩
 ·grind
 ·grind
 ·grind
 ·grind
 grind
theorem Y7(b:ku l.am=false)(ht:l.cD=true){k:Nat}(a:stepG Q m X.g w'=.go g1 w' #[⟨.cell ⟨c.st,k+2,none⟩,false,false⟩])(hrun:g1.status=.running)(h:bh (ah (aE c)) Q Stop m l γ ⟨g1,w',X.mine⟩):iq (Z:=ah (aE c)) Q Stop m l γ X w':=by refine .quiet a ⟨hrun,tT _ _ _,fun _ _ _=>rfl,⟨.inl AU,trivial⟩,fun e=>e.elim (alK Aa) K4⟩ ?_;grind[lD]
theorem Y8{aC:bk}{x a:cF}{w:World}(h:w.heap[c.st]?=some (ic (aE c) aC x)){k:Nat}(b:((aE c).cells x).setIfInBounds k v=(aE c).cells a):(w.setCell ⟨c.st,k+2,none⟩ v).heap[c.st]?=some (ic (aE c) aC a):=by unfold World.setCell;simp_all[Array.getElem?_modify,ic]
theorem Y9{x a:cF}{w:World}(h:(aE c).pz x w)(g:a.a0=x.a0)(f:a.eg=x.eg)(d:a.gP=x.gP)(b:a.done=x.done)(off:Nat)(sp)(v:Value):(aE c).pz a (w.setCell ⟨c.st,off,sp⟩ v):=by
 refine⟨?_,fun e=>?_⟩
 ·rw[mw w _ v (Ne.symm c.fy.1),h.1];grind[vd]
 ·rw[mw w _ v (Ne.symm c.fy.2.1),h.2 e];grind[F7]
theorem alL(d:dX (ah (aE c)) l γ X w'){p:List (Nat×Value)}{f1:Nat}(f:stepG Q m X.g w'=.go g1 (w'.setCell ⟨c.st,4,none⟩ v) #[⟨.cell ⟨c.st,4,none⟩,true,false⟩])(hrun:g1.status=.running)
 (q:v=.int .i64 ((γ.am.taken+1:Nat):Int)) (o:l.am=.aR .free p) (b:l.bB=.own) (n:l.cD=true) (cj:γ.am.taken<c.N) (r:f1+1<=l.fuel+c.C)
 (h:bh (ah (aE c)) Q Stop m ({l with am:=.aR (.has γ.am.taken) p,fuel:=f1}:ab.av aV) ({γ with am:={γ.am with taken:=γ.am.taken+1},be:=γ.be-1}:ab.aT cF) ⟨g1,w'.setCell ⟨c.st,4,none⟩ v,X.mine⟩):iq (Z:=ah (aE c)) Q Stop m l γ X w':=by
 have s:c.C*(c.N-(γ.am.taken+1))+c.C=c.C*(c.N-γ.am.taken):=by have:c.N-γ.am.taken=(c.N-(γ.am.taken+1))+1:=Ay;grind
 refine Bk (a1:=.aR (.has γ.am.taken) p) (b1:={γ.am with taken:=γ.am.taken+1}) (d1:=l.deaf) d f hrun ⟨⟨.cell ⟨c.st,4,none⟩,true,false⟩,Aa,.inr (.inr (.inr (.inr ⟨rfl,c.st,rfl,.inl rfl⟩)))⟩ (Y1 w' 4 none _) (oh _ _ _) ⟨Y8 (k:=2) d.mt.1 AU,Y9 d.mt.2 rfl rfl rfl rfl _ _ _⟩
  (fun aDb i hi g=>g.take cj AU) AU (.inl b) (Nat.le_succ _) AU (fun e=>e.elim) (fun _=>b)
  (.inl ⟨rfl,?_,rfl,.inl ⟨rfl,AU,?_⟩,trivial⟩) (.inr fun a j=>j) (fun e=>e.elim) h
 ·grind[ku]
 grind[ku]
theorem Y_{aC:bk}{x:cF}{w:World}(b:w.heap[c.st]?=some (ic (aE c) aC x))(a:(aE c).pz x w)(p:Nat)(v:Value):
 (w.setCell ⟨c.bG,p,none⟩ v).heap[c.st]?=some (ic (aE c) aC {x with done:=x.done.set p v})/\(aE c).pz {x with done:=x.done.set p v} (w.setCell ⟨c.bG,p,none⟩ v):=by
 refine⟨?_,?_,fun e=>?_⟩
 ·rw[mw w _ _ c.fy.2.1,b];rfl
 ·rw[mw w _ _ c.fy.2.2,a.1];rfl
 simp_all[World.setCell,Array.getElem?_modify,F7]
theorem alM(d:dX (ah (aE c)) l γ X w'){q:List (Nat×Value)}{p f1:Nat}{u:Value}(f:stepG Q m X.g w'=.go g1 (w'.setCell ⟨c.st,5,none⟩ u) #[⟨.cell ⟨c.st,5,none⟩,true,false⟩])(hrun:g1.status=.running)
 (r:u=.int .i64 ((γ.am.came+c.rows p:Nat):Int)) (o:l.am=.aR (.lE p v) q) (b:l.bB=.own) (n:l.cD=true) (s:f1<l.fuel)
 (h:bh (ah (aE c)) Q Stop m ({l with am:=.aR .free ((p,v)::q),fuel:=f1}:ab.av aV) ({γ with am:={γ.am with came:=γ.am.came+c.rows p},be:=γ.be-1}:ab.aT cF) ⟨g1,w'.setCell ⟨c.st,5,none⟩ u,X.mine⟩):iq (Z:=ah (aE c)) Q Stop m l γ X w':=by
 refine Bk (a1:=.aR .free ((p,v)::q)) (b1:={γ.am with came:=γ.am.came+c.rows p}) (d1:=l.deaf) d f hrun ⟨⟨.cell ⟨c.st,5,none⟩,true,false⟩,Aa,.inr (.inr (.inr (.inr ⟨rfl,c.st,rfl,.inl rfl⟩)))⟩ (Y1 w' 5 none _) (oh _ _ _) ⟨Y8 (k:=3) d.mt.1 AU,Y9 d.mt.2 rfl rfl rfl rfl _ _ _⟩
  (fun aDb i hi g=>g.count AU) AU (.inl b) (Nat.le_refl _) AU (fun e=>e.elim) (fun _=>b)
  (.inl ⟨rfl,?_,rfl,.inl ⟨rfl,AU,?_⟩,trivial⟩) (.inr fun a j=>j) (fun e=>e.elim) h
 ·grind[ku]
 grind[ku]
end
end gF
namespace dD
open Conc az
def Dm(fn:Func):Bool:=fn.results.all fun| .tmp _=>true| _=>false
def xG(fn:Func)(t:Array Value):List Value:=fn.results.toList.map fun| .tmp x=>t.getD x undef| .cell _ _=>undef
def yD(fn:Func)(t:Array Value):Value:=if h:(xG fn t).toArray.size=1 then(xG fn t).toArray[0]else .tuple (xG fn t).toArray
theorem Za{t:Array Value}:∀(l:List ResultVar),(∀r∈l,∃x,r=.tmp x)->(l.mapM fun| .tmp x=>(pure (t.getD x undef):Sem Value)| .cell a ty=>do Go.loadVar ty (<-Go.asAddr (t.getD a undef)))=pure (l.map fun| .tmp x=>t.getD x undef| .cell _ _=>undef)
 | [],_=>rfl
 |r::l,h=>by obtain⟨x,rfl⟩:=h r Aa;rw[List.mapM_cons,Za l AU];simp
theorem IZ{P:Program}{fn:Func}(h:Dm fn=true)(t:Array Value)(w:World):(results fn t).run P w=.ok (yD fn t) w/\(results fn t).events P w #[]=#[]:=by
 have a:∀r∈fn.results.toList,∃x,r=.tmp x:=by intro r b;unfold Dm at h;grind[Array.all_eq_true_iff_forall_mem]
 have e:results fn t=pure (yD fn t):=by
  unfold results;rw[Array.mapM_eq_mapM_toList];erw[Za (t:=t) _ a]
  rfl
 simp_all
theorem alO{ρ:ay}(fn:Func){t b:Array Value}(h:a3 ρ t b):aA ρ (yD fn t) (yD fn b):=by
 have hl:dJ (aA ρ) (xG fn t) (xG fn b):=by unfold xG;induction fn.results.toList with|nil=>exact .nil|cons r l f=>refine .cons ?_ f;cases r with|tmp x=>exact h.getD (.undef ρ) x|cell a ty=>exact .undef ρ
 have d:=a3.La hl;unfold yD;by_cases c:(xG fn t).toArray.size=1
 ·have e:(xG fn b).toArray.size=1:=d.size▸c;rw[dif_pos c,dif_pos e];exact d.get 0 _ _ AU AU
 ·have e:¬(xG fn b).toArray.size=1:=d.size▸c;rw[dif_neg c,dif_neg e];exact .E8 d
theorem jO.bind{Q:Program}{main:Bool}{K:Nat->Prop}{post a:a6->Prop}{X:a6}(h:jO Q main K post X)(c:∀Y,post Y->jO Q main K a Y):jO Q main K a X:=by induction h with|done h=>grind|step ok _ b=>exact .step ok AU
theorem jO.more{Q:Program}{main:Bool}{K K':Nat->Prop}(hK:∀b,K b->K' b){post:a6->Prop}{X:a6}(h:jO Q main K post X):jO Q main K' post X:=by have hrel:∀{X:a6}{w':World},kl K' X w'->kl K X w':=fun c=>⟨fun b g=>c.heap b AU,c.size,c.env⟩;induction h with|done h=>exact .done h|step ok _ f=>refine .step (fun w' c=>?_) AU;obtain⟨g1,w1,es,e,a⟩:=ok w' (hrel c);refine⟨g1,w1,es,e,a.run,a.pq,a.kept,a.size,a.os,a.output,a.tape,a.drawn,fun ev d=>?_⟩;have:=a.evs ev d;grind[zq]
structure alP(C:cU)(D M:Nat->Prop)(n0:Nat)(R:Value->World->Prop)(c:Frame)(cs:List Frame)(Y:a6)(ρ:ay)(w1:World)(v v':Value):Prop where
 post:R v w1
 val:aA ρ v v'
 g:Y.g=bb (c.finish v') cs
 world:∃S,eN C S ρ w1 Y.w
 le:ay.le (fE D M) ρ
 mine:∀b,ρ.mine b->Y.mine b
 wZ:∀a b,ρ.rel a b->(D b/\¬M b)\/Y.mine b
 old:∀a b,ρ.rel a b->(fE D M).rel a b\/n0<=b
theorem RG{P:Program}{upd:Bool}(H:(ei P upd).Good){f:FuncId}{fn:Func}{y:Code}(j:P.funcs[f]?=some fn)(p:i6 P upd fn=true)(E:fn.body=some y)(q:Dm fn=true)
 {D M:Nat->Prop} {w:World} (J:i7 (ei P upd) D M w) (C:∀g,g<=P.globals.size->D g) (A:upd=true->∀b,D b->M b) {args:Array Value} (F:a3 (fE D M) args args) {R:Value->World->Prop}
 {w0:World} (U:gW (ei P upd) D M w w0) (x:∀T,Calls (ai P upd) f args {w0 with tape:=T} (fun e w=>∃v,e=.returned v/\R v w)) (main:Bool) (c:Frame) (cs:List Frame):
 jO P main (fun b=>D b/\¬M b) (fun Y=>∃ρ w1 v s,alP (ei P upd) D M w.heap.size R c cs Y ρ w1 v s) ⟨bb (Frame.enter P f args .normal) (c::cs),w,M⟩:=by
 refine jO.bind (aib H j p E J C A F (R:=fun e w=>∃v,e=.returned v/\R v w) AU U x main (c::cs)) ?_;rintro Y ⟨ρ,fr,w1,T,e,⟨v,rfl,N⟩,n,l,ht⟩;obtain⟨d,W,k,i,L⟩:=ht.frames;cases L;obtain⟨B,hd,u,O,m,X⟩:=l;have S:(ai P upd).funcs[f]?=some fn:=bl j p;rw[n,S]at m;cases m;have z:v=yD fn fr.tmps:=by grind[IZ]
 have t:d.mode=.returning:=by have:=i.mode;rw[B]at this;generalize d.mode=md at this⊢;cases this;rfl
 have I:d.defers=[]:=by have:=i.defers;rw[hd]at this;generalize d.defers=ds at this⊢;cases this;rfl
 have K:d.kind=.normal:=i.kind.symm.trans u;have Q:d.fn=f:=i.fn.symm.trans n;have hstep:∀w',stepG P main Y.g w'=.go (bb (c.finish (yD fn d.tmps)) cs) w' #[]:=by intro w';rw[k];simp[bb,stepG,unwind,doReturn,t,I,K,Q,j,(IZ q d.tmps w').1,(IZ q d.tmps w').2,GStep.after,seen_none]
 refine .step (fun w' o=>⟨_,_,_,hstep w',rfl,rfl,fun _ _ _=>rfl,Nat.le_refl _,rfl,rfl,rfl,Nat.le_refl _,Aa⟩) fun w' g1 V es o e=>?_;rw[hstep w']at e;cases e;have r:∀b,grown Y.mine w' w' b↔Y.mine b:=fun b=>⟨fun h=>h.elim id AU,.inl⟩;exact .done ⟨ρ,w1,v,yD fn d.tmps,N,by rw[z];exact alO fn i.tmps,rfl,⟨_,ht.world.rely (bound:=0) o ht.wZ AU⟩,ht.le,fun b h=>(r b).2 (ht.mine b h),fun a b h=>(ht.wZ a b h).imp id (r b).2,ht.old⟩
end dD
namespace gF
open Conc ConcM az bu ab gb iJ
variable {t:TypeId}
section
section
variable {Z:fG} {Q:Program} {Stop Stop':Bool->Z.av->a6->Prop}
theorem bh.seq{I:Z.av->Z.aT->Prop}(p:∀l γ a,I l γ->Z.dN l γ a->I l a)(i:∀l γ l1 bA,I l γ->hX Z l γ->C3 Z l γ l1 bA->I l1 bA)(w:∀m l X,Stop' m l X->¬Z.Left l)
 (k:∀l γ X,Stop' false l X->I l γ->bh Z Q Stop false l γ X) {m:Bool} {l:Z.av} {γ:Z.aT} {X:a6} (h:bh Z Q Stop' m l γ X):m=false->I l γ->bh Z Q Stop false l γ X:=by
 induction h with
 |stop h=>grind
 |@step m l γ X g ch ok s u t v o n y x=>
  rintro rfl hi;refine bh.mk g fun w' a c b=>?_;have d:=p _ _ _ hi c;rcases ok w' a c b with⟨g1,w1,es,e,q⟩|⟨g1,w1,es,e,q,r⟩|⟨e,f,q,j⟩|⟨em,_⟩
  ·exact .quiet e q (o w' a g1 w1 es c b e q.run q.low rfl d)
  ·exact .turn e q AU (n w' a g1 w1 es c b e q.Mh rfl (i _ _ _ _ d b.sees q.A8))
  ·exact .wait e f q j
  grind
end
theorem Bl(w:World){b k:Nat}(v:Array Value)(h:k≠b):(w.setRow b v).heap[k]?=w.heap[k]?:=by simp[World.setRow,Array.getElem?_modify,Ne.symm h]
theorem setRow_size(w:World)(b:Nat)(v:Array Value):(w.setRow b v).heap.size=w.heap.size:=by simp_all
section
variable {Z:fG} {Q:Program} {Stop:Bool->Z.av->a6->Prop} {m:Bool} {l:Z.av} {γ:Z.aT} {mine:Nat->Prop} {w0 w:World}
theorem aZ.row{pre post:List (Nat×Obj)}{b:Nat}{bp new:Array Value}(c:aZ Z mine w0 (pre++(b,.cells bp t)::post) w):aZ Z mine w0 (pre++(b,.cells new t)::post) (w.setRow b new):=by
 have f:b∈(pre++(b,Obj.cells bp t)::post).map (·.1):=Aa;have h:w.heap[b]?=some (.cells bp t):=c.cV (b,.cells bp t) Aa;refine c.write f (bs':=pre++(b,.cells new t)::post) Aa (fun x e=>?_) (fun k a=>Bl w new a) (setRow_size _ _ _) rfl rfl rfl;have g:=c.Di;simp only[List.map_append,List.map_cons,List.nodup_append,List.nodup_cons]at g;rcases List.mem_append.1 e with d|d
 ·have a:x.1≠b:=AU;rw[Bl w new a];exact c.cV x AU
 ·rcases List.mem_cons.1 d with rfl|d
  ·grind[setRow_heap]
  ·have a:x.1≠b:=AU;rw[Bl w new a];exact c.cV x AU
theorem Do(i:∀l g g1,¬Z.qr l g g1)(q:Z.past l=false){pre post:List (Nat×Obj)}{b:Nat}{bp new:Array Value}{g g1:Goroutine}{es:Array Event}(c:aZ Z mine w0 (pre++(b,.cells bp t)::post) w)(j:stepG Q m g w=.go g1 (w.setRow b new) es)(hrun:g1.status=.running)
 (hes:∀e∈es,∃off,e.loc=.cell ⟨b,off,none⟩/\e.sync=false) {f:World} (h:aZ Z mine w0 (pre++(b,.cells new t)::post) (w.setRow b new)->bh Z Q Stop m l γ ⟨g1,w.setRow b new,ck mine (pre++(b,.cells new t)::post)⟩):iq (Z:=Z) Q Stop m l γ ⟨g,f,ck mine (pre++(b,.cells bp t)::post)⟩ w:=by
 have d:b∈(pre++(b,Obj.cells bp t)::post).map (·.1):=Aa;refine aln i q c j hrun d (bs':=pre++(b,.cells new t)::post) Aa (c.row (new:=new)).cV (fun k a=>Bl w new a) (setRow_size _ _ _) rfl rfl rfl (fun e n=>?_) h;obtain⟨off,p,o⟩:=hes e n;unfold F4;rw[p];exact⟨o,.inr (.inr d)⟩
theorem RI(b:∀l g g1,¬Z.qr l g g1){M:Nat->Prop}{g g1:Goroutine}{es:Array Event}(c:stepG Q m g w=.go g1 w es)(hrun:g1.status=.running)(hes:es=#[]){a:World}(h:bh Z Q Stop m l γ ⟨g1,w,M⟩):iq (Z:=Z) Q Stop m l γ ⟨g,a,M⟩ w:=by subst hes;have d:grown M w w=M:=lD rfl;refine .quiet c ⟨hrun,tT _ _ _,fun _ _ _=>rfl,trivial,fun e=>e.elim AU (b _ _ _)⟩ ?_;grind
end
section
variable {c:dT}
def F9(c:dT)(l:ab.av aV)(γ:ab.aT cF):Prop:=¬Bi l.am/\c.N<=γ.am.taken
theorem xH{l:ab.av aV}{γ a:ab.aT cF}(b:(ah (aE c)).dN l γ a):γ.am.taken<=a.am.taken:=by grind
theorem ML(l:ab.av aV)(γ a:ab.aT cF)(h:F9 c l γ)(b:(ah (aE c)).dN l γ a):F9 c l a:=⟨h.1,Nat.le_trans h.2 (xH b)⟩
theorem alS(l:ab.av aV)(γ:ab.aT cF)(l1:ab.av aV)(bA:ab.aT cF)(h:F9 c l γ)(m:hX (ah (aE c)) l γ)(ht:C3 (ah (aE c)) l γ l1 bA):F9 c l1 bA:=by
 obtain⟨aU,i,hi,e⟩:∃(aU:List (ab.av aV))(i:Nat),aU[i]?=some l/\u_ (aE c) γ aU:=m;obtain⟨s,h0,_⟩:=e.qw.main;rw[List.getElem?_map]at h0;obtain⟨l0,j,o⟩:=Option.map_eq_some_iff.1 h0;have a:0≠i:=by rintro rfl;rw[hi]at j;cases j;exact h.1 (by rw[o];trivial)
 obtain⟨_,p⟩:=ht;obtain⟨q,r⟩:=p aU i hi e;have b:u_ (aE c) bA (aU.set i l1):=q;refine⟨fun d=>?_,Nat.le_trans h.2 AU⟩;have n:i<aU.length:=(List.getElem?_eq_some_iff.1 hi).1;have f:((aU.set i l1).map (·.am))[i]?=some l1.am:=AU;cases g:l1.am with|main k=>rw[g]at f;exact a (b.qw.only i k f).symm| _=>rw[g]at d;exact d
end
end
variable {a:Act}
section
section
variable {c:dT} {Q:Program} {Stop:Bool->ab.av aV->a6->Prop} {m:Bool} {mine:Nat->Prop} {w0:World} {b:Frame} {ops:Array Oper}
theorem zR{Z:fG}{Stop:Bool->Z.av->a6->Prop}{σ:c6 Z}{K:c6 Z->Act->Prop}{i:Nat}{o:Oper}(hi:ops[i]?=some o)(c:Region.wanted o (yielded ops a.tmps)=true)(h:De Q b o σ a K):pB Q Stop m b ops i σ a K:=by simp_all[pB]
theorem Bm{Z:fG}{Stop:Bool->Z.av->a6->Prop}{σ:c6 Z}{K:c6 Z->Act->Prop}{i:Nat}{o:Oper}(hi:ops[i]?=some o)(c:Region.wanted o (yielded ops a.tmps)=true)(h:Rs Q Stop m b o σ a K):pB Q Stop m b ops i σ a K:=by simp_all[pB]
theorem ve{Z:fG}{Stop:Bool->Z.av->a6->Prop}{md:Region.Mode}{C:c6 Z->Prop}{jm:c6 Z->Act->Prop}{i n:Nat}{aq:Array Bool}{σ:c6 Z}(d:Region.ready md ops aq=[i])
 (h:pB Q Stop m b ops i σ a (fun c a1=>C c/\wl Q Stop m b ops md C jm n (aq.setIfInBounds i true) c a1)):wl Q Stop m b ops md C jm (n+1) aq σ a:=
 Rx d Aa AU
theorem aZ.shared{Z:fG}{bs:List (Nat×Obj)}{w:World}(h:aZ Z mine w0 bs w){k off:Nat}{sp}(a:Z.hV k)(v:Value):aZ Z mine w0 bs (w.setCell ⟨k,off,sp⟩ v):=
 h.on ⟨fun b c=>mw w _ v fun e=>h.fy b c (e▸a),Nat.le_of_eq (oh _ _ _).symm,.refl _,rfl,rfl⟩
theorem alU{d:ir}{l:ab.av aV}(hl:l.bB=.own){bs:List (Nat×Obj)}{o:Oper}{ob:Obj}{K:c6 (ah (aE c))->Act->Prop}
 (h:∀w,(execOp a.eval o).run Q w=.ok (.value (.pointer (some ⟨w.heap.size,0,none⟩))) (w.alloc ob)/\listed Q b.fn a o w=#[])
 (k:∀n,K (mZ c mine w0 d l ((n,ob)::bs)) (a.put o.dst (.pointer (some ⟨n,0,none⟩)))):De Q b o (mZ c mine w0 d l bs) a K:=by
 intro w γ w' p g hS i f;have hZ:=Held.on hl hS i (dX.rw f);obtain⟨m,j⟩:=h w';refine⟨_,_,mZ c mine w0 d l ((w'.heap.size,ob)::bs),.inl m,⟨?_,?_,.inl ⟨rfl,⟨hZ.1.alloc (aN (bR c)).og ob,hZ.2⟩,fun b e _=>Dj e,?_,?_⟩⟩,k _⟩
 ·show ck mine ((w'.heap.size,ob)::bs)=grown (ck mine bs) w' (w'.alloc ob);rw[RA];exact ck.cons.symm
 ·exact⟨fun b e _ _=>Dj e,Bp,.refl _,rfl,rfl⟩
 ·rw[j];exact trivial
 grind
theorem alV{d:ir}{l:ab.av aV}(hl:l.bB=.own)(v:ku l.am=false){pre post:List (Nat×Obj)}{b0:Nat}{bp new:Array Value}{o:Oper}{K:c6 (ah (aE c))->Act->Prop}
 (h:∀w,w.heap[b0]?=some (.cells bp t)->(execOp a.eval o).run Q w=.ok .skip (w.setRow b0 new)/\∀e∈listed Q b.fn a o w,∃off,e.loc=.cell ⟨b0,off,none⟩/\e.sync=false)
 (k:K (mZ c mine w0 d l (pre++(b0,.cells new t)::post)) (a.put o.dst undef)):De Q b o (mZ c mine w0 d l (pre++(b0,.cells bp t)::post)) a K:=by
 intro w γ w' A g hS u s;have hZ:=Held.on hl hS u (dX.rw s);have m:ck mine (pre++(b0,Obj.cells bp t)::post) b0:=.inr Aa;have B:ck mine (pre++(b0,Obj.cells new t)::post)=ck mine (pre++(b0,Obj.cells bp t)::post):=by grind[ck]
 obtain⟨z,q⟩:=h w' (hZ.1.cV (b0,.cells bp t) Aa);have y:grown (ck mine (pre++(b0,Obj.cells bp t)::post)) w' (w'.setRow b0 new)=ck mine (pre++(b0,Obj.cells bp t)::post):=lD (setRow_size _ _ _);refine⟨_,_,mZ c mine w0 d l (pre++(b0,.cells new t)::post),AU,⟨?_,?_,.inl ⟨rfl,⟨hZ.1.row,hZ.2⟩,fun b x j=>Bl _ _ ?_,?_,?_⟩⟩,k⟩
 ·show ck mine (pre++(b0,.cells new t)::post)=grown (ck mine (pre++(b0,Obj.cells bp t)::post)) w' (w'.setRow b0 new);grind
 ·exact⟨fun k _ i _=>Bl _ _ fun e=>i (e▸m),Nat.le_of_eq (setRow_size _ _ _).symm,.refl _,rfl,rfl⟩
 ·rintro rfl;exact hZ.1.fy b (.inr m) j
 ·refine A_ _ _ fun e p d=>?_;obtain⟨off,n,r⟩:=q e AU;unfold we;rw[n];refine .inl ⟨r,.inr (.inl ?_),v⟩;show grown (ck mine (pre++(b0,Obj.cells bp t)::post)) w' (w'.setRow b0 new) b0;simp_all
 ·rintro⟨e,p,f⟩;obtain⟨off,n,r⟩:=q e p;rcases f with f|f|⟨_,f⟩|⟨_,f⟩|⟨_,k,i,j⟩
  ·grind
  ·grind
  ·grind
  ·grind
  ·rw[n]at i;cases i;exact hZ.1.fy b0 (.inr m) j
end
end
variable {v:Value}
section
section
variable {c:dT} {Q:Program} {Stop:Bool->ab.av aV->a6->Prop} {m:Bool} {mine:Nat->Prop} {w0:World} {b:Frame} {ops:Array Oper}
def I0(c:dT)(mine:Nat->Prop)(w0:World)(x:Nat×Obj)(σ:c6 (ah (aE c))):Prop:=∃d l bs,l.bB=.own/\l.cD=true/\ku l.am=false/\x∈bs/\σ=mZ c mine w0 d l bs
theorem zS{x:Nat×Obj}:∀σ,I0 c mine w0 x σ->wk σ:=by rintro _ ⟨d,l,bs,hl,_,_,_,rfl⟩;exact dx (d:=d) hl _ ⟨bs,rfl⟩
theorem alX{x:Nat×Obj}:∀σ,I0 c mine w0 x σ->∀w γ,σ.S w γ->σ.S {w with drawn:=w.drawn+1} γ:=by rintro _ ⟨d,l,bs,hl,_,_,_,rfl⟩;exact IW (d:=d) (l:=l) _ ⟨bs,rfl⟩
theorem alY{x:Nat×Obj}{o:Oper}(k:Nat)(e:Region.wanted o (yielded ops a.tmps)=true)
 (j:∀y,((aE c).cells y)[k]?=some v) (h:∀w,w.cell? ⟨c.st,k+2,none⟩=some v->(execOp a.eval o).run Q w=.ok (.value v) w/\listed Q b.fn a o w=#[⟨.cell ⟨c.st,k+2,none⟩,false,false⟩]):oi Q b ops (I0 c mine w0 x) o v a:=by
 refine .inl ⟨e,?_⟩;rintro _ ⟨d,l,bs,hl,ht,g,i,rfl⟩;rcases xF (c:=c) (Q:=Q) (mine:=mine) (w0:=w0) (b:=b) (ops:=ops) (d:=d) hl ht g k e AU h with⟨_,f⟩|⟨f,_⟩
 ·exact f _ ⟨bs,rfl⟩
 grind
theorem alZ{x:Nat×Obj}{o:Oper}(f:Region.wanted o (yielded ops a.tmps)=true)
 (h:∀w,w.heap[x.1]?=some x.2->(execOp a.eval o).run Q w=.ok (.value v) w/\∀e∈listed Q b.fn a o w,∃off,e=⟨.cell ⟨x.1,off,none⟩,false,false⟩):oi Q b ops (I0 c mine w0 x) o v a:=by
 refine .inl ⟨f,?_⟩;rintro _ ⟨d,l,bs,hl,ht,q,k,rfl⟩ w γ w' r g hS n m;have hZ:=Held.on hl hS n (dX.rw m);obtain⟨p,j⟩:=h w' (hZ.1.cV x k);refine⟨p,A_ _ _ fun e i d=>?_,?_⟩
 ·obtain⟨off,rfl⟩:=j e AU;exact .inl ⟨rfl,.inr (.inl (.inr AU)),q⟩
 ·rintro⟨e,i,f⟩;obtain⟨off,rfl⟩:=j e i;rcases f with f|f|⟨_,f⟩|⟨_,f⟩|⟨f,_⟩<;>cases f
theorem Zc{l:ab.av aV}{γ:ab.aT cF}(h:hX (ah (aE c)) l γ){p:Nat}{q:List (Nat×Value)}(d:l.am=.aR (.has p) q):p<c.N:=by obtain⟨xs,e,a,b⟩:=xD h;rw[d]at a;have i:=b.own p;have g:=sw (eb p) xs e _ a;have f:=b.a2;grind[eb,hand]
theorem al0{l:ab.av aV}{γ:ab.aT cF}(h:hX (ah (aE c)) l γ){p:Nat}{q:List (Nat×Value)}(b:l.am=.aR (.lE p v) q):γ.am.came+c.rows p<=kr c.rows c.N:=by obtain⟨xs,e,a,d⟩:=xD h;rw[b]at a;exact(d.count a).YV
theorem al1{d:ir}{l:ab.av aV}(hl:l.bB=.own)(ht:l.cD=true){bs:List (Nat×Obj)}{o:Oper}{K:c6 (ah (aE c))->Act->Prop}{q:List (Nat×Value)}{p f1:Nat}(m:l.am=.aR (.has p) q)(I:f1<l.fuel)
 (h:∀w D,w.heap[c.bG]?=some (.cells D c.F6)->p<D.size->(execOp a.eval o).run Q w=.ok .skip (w.setCell ⟨c.bG,p,none⟩ v)/\listed Q b.fn a o w=#[⟨.cell ⟨c.bG,p,none⟩,true,false⟩])
 (k:K (mZ c mine w0 ⟨d.T,d.M,d.D.set p v⟩ ({l with am:=.aR (.lE p v) q,fuel:=f1}:ab.av aV) bs) (a.put o.dst undef)):De Q b o (mZ c mine w0 d l bs) a K:=by
 intro w γ w' f g hS r j;have hZ:=Held.on hl hS r (dX.rw j);have n:w'.heap[c.st]?=some (ic (aE c) f.aC f.am)/\(aE c).pz f.am w':=j.mt;obtain⟨xs,F,C,u⟩:=xD j.sees;have L:=Zc j.sees m;have B:=n.2.2 trivial;obtain⟨J,s⟩:=h w' f.am.done.toArray B (by rw[List.size_toArray,u.len];grind);have t:=Y_ n.1 n.2 p v;refine⟨undef,w'.setCell ⟨c.bG,p,none⟩ v,mZ c mine w0 ⟨d.T,d.M,d.D.set p v⟩ ({l with am:=.aR (.lE p v) q,fuel:=f1}:ab.av aV) bs,AU,⟨?_,Y2 w' p none v,.inr ⟨({f with am:={f.am with done:=f.am.done.set p v},be:=f.be-1}:ab.aT cF),⟨hZ.1.shared AU v,?_⟩,?_,t,?_,?_,?_,?_⟩⟩,k⟩
 ·exact(lD (oh _ _ _)).symm
 ·have e:=hZ.2;subst e;rfl
 ·rw[s];exact⟨⟨.cell ⟨c.bG,p,none⟩,true,false⟩,Aa,.inr (.inr (.inr (.inr ⟨rfl,c.bG,rfl,.inr K0⟩)))⟩
 ·exact YZ (A:=aE c) (bR c) j.sees (a1:=.aR (.lE p v) q) (b1:={f.am with done:=f.am.done.set p v}) (f1:=f1) (d1:=l.deaf) (nC:=l.cD) (fun aDb i hi y=>y.YX (by rw[<-m];exact hi)) (by show f1+c.C*(c.N-f.am.taken)+1<=l.fuel+c.C*(c.N-f.am.taken);omega) (fun o a' r H=>⟨fun e=>absurd e (by rw[r hl];simp),Nat.le_refl _,AU⟩) K5 (fun _=>hl)
 ·rw[s];refine .inl ⟨rfl,?_,rfl,.inl ⟨rfl,.inr (.inr ⟨.inr rfl,ht⟩),?_⟩,trivial⟩
  ·show ku (.aR (.lE p v) q)=ku l.am;rw[m];rfl
  ·show ku l.am=false;rw[m];rfl
 ·exact fun E z=>z.imp id (fun x=>⟨x.1,x.2⟩)
 ·exact fun e=>e.elim
end
end
end gF
end Go.Proofs.YtoehnnefaeoeoaaGreat
namespace Go.Conc
open Go.Proofs.YtoehnnefaeoeoaaGreat
variable {P:Program} {main:Bool} {b:Frame} {a:Act} {k:List Item} {cs:List Frame} {w:World}
def vf(f:FuncId)(cap:Array Value):Deferred:={target:=.fn (.func f) cap,args:=#[]}
theorem al3{ops:Array Oper}{i:Nat}{rest:List Nat}{o:Oper}{f:FuncId}{x:Operand}{cap:Array Value}{ats:Array TypeId}(c:ops[i]?=some o)(e:Region.wanted o (yielded ops a.tmps)=true)(l:b.kind≠ .early)
 (g:o.op=.defer {callee:=.value x,args:=#[],argTypes:=ats}) (h:a.eval x=.func (.func f) #[] cap):
 stepG P main (G (b.at a (.inRegion ops (i::rest)::k)) cs) w=.go (G (b.at (Act.put ⟨a.tmps,vf f cap::a.defers⟩ o.dst undef) (.inRegion ops rest::k)) cs) w #[]:=by
 have j:(execOp a.eval o).run P w=.ok (.defer (vf f cap)) w:=by simp_all[execOp,resolve,Deferred.ofValue,vf]
 have m:(execOp a.eval o).events P w #[]=#[]:=by simp_all[execOp,resolve,Deferred.ofValue]
 have d:(b.at ⟨a.tmps,vf f cap::a.defers⟩ (.inRegion ops (i::rest)::k)).finish undef=b.at (Act.put ⟨a.tmps,vf f cap::a.defers⟩ o.dst undef) (.inRegion ops rest::k):=by rw[Frame.finish_at,c];rfl
 have n:(b.kind==CallKind.early)=false:=AU;rw[stepG_oper c e,<-d];simp_all[stepG.apply,G,Frame.at,GStep.after,seen_none]
section
variable {todo:List Item} {ds:List Deferred} {f:FuncId} {fn:Func} {cap:Array Value}
theorem al4{c:Code}(hd:a.defers=vf f cap::ds)(d:P.funcs[f]?=some fn)(h:(fn.name== "runtime.NumGoroutine")=false)(e:fn.body=some c):
 stepG P main (G {b.at a todo with mode:=.returning} cs) w=
  .go (G ((baseD f).at {tmps:=cap++Array.replicate (fn.ntmps-cap.size) undef,defers:=[]} [.code c]) ({b.at ⟨a.tmps,ds⟩ todo with mode:=.returning}::cs)) w #[]:=by
 have g:¬fn.name= "runtime.NumGoroutine" :=AU;rw[<-enter_atD cap d e];simp[G,stepG,unwind,callDeferred,Frame.at,hd,vf,invoke,callFunc,d,g,e,GStep.after,seen_none]
end
theorem al5{ops:Array Oper}{i:Nat}{rest:List Nat}{o:Oper}{c:Frame}(d:ops[i]?=some o)(f:Region.wanted o (yielded ops a.tmps)=true)(h:b.kind=.deferred)(j:c.mode=.returning)
 (g:(execOp a.eval o).run P w=.ok .recover w) (hl:listed P b.fn a o w=#[]):
 stepG P main (G (b.at a (.inRegion ops (i::rest)::k)) (c::cs)) w=.go (G (b.at (a.put o.dst .nilIface) (.inRegion ops rest::k)) (c::cs)) w #[]:=by
 have e:(b.at a (.inRegion ops (i::rest)::k)).finish .nilIface=b.at (a.put o.dst .nilIface) (.inRegion ops rest::k):=by rw[Frame.finish_at,d];rfl
 have ht:tryRecover (b.at a (.inRegion ops (i::rest)::k)) (c::cs)=none:=by grind[tryRecover,Frame.at]
 have l:(b.kind==CallKind.early)=false:=AU;rw[stepG_oper d f,<-e,<-hl];simp_all[Frame.at,stepG.apply,G,GStep.after,listed]
end Go.Conc
namespace Go.Proofs.YtoehnnefaeoeoaaGreat
open Go.Proofs.Tryz
namespace gF
open Conc ConcM az bu ab gb iJ
theorem Zd:∀{n:Nat}{l:List Nat},l.Nodup->(∀p∈l,p<n)->l.length<=n
 |0,l,_,h=>by cases l with|nil=>simp|cons a l=>exact absurd (h a Aa) Ay
 |n+1,l,c,h=>by
  have b:(l.filter (· != n)).Nodup:=c.filter _;have d:=Zd (n:=n) b AU;have f:l.length<=(l.filter (· != n)).length+l.count n:=by clear h b d c;induction l with|nil=>simp|cons a l e=>grind
  grind
section
variable {c:dT}
theorem al6{l:ab.av aV}{γ:ab.aT cF}(h:hX (ah (aE c)) l γ){p:Nat}{q:List (Nat×Value)}(d:l.am=.aR (.has p) q):q.length<c.N:=by
 obtain⟨xs,g,b,a⟩:=xD h;rw[d]at b;have key:∀r,(p::q.map (·.1)).count r<=if r<γ.am.taken then 1 else 0:=fun r=>by have f:=a.own r;grind[sw,eb,hand,tk]
 have f:=Zd (n:=c.N) (l:=p::q.map (·.1)) AU (fun r e=>by
  have:=key r;have j:=List.count_pos_iff.2 e;have i:=a.a2;grind)
 grind
end
end gF
namespace jn
open Conc ConcM az bu ab gb iJ gF
variable {a:Act}{f:FuncId}
section
section
variable {Z:fG} {mine M M':Nat->Prop} {w0 w w1:World} {bs:List (Nat×Obj)}
theorem jo:ck M []=M:=by grind[ck]
theorem aZ.tV(h:aZ Z mine w0 bs w):aZ Z (ck mine bs) w [] w:=by
 refine⟨.refl _ _ _,Aa,fun b a=>?_,fun b a=>h.fy b (by simp_all[jo]),Aa,Aa,fun b a hK=>a.elim (fun x=>h.xw b x hK) (fun x=>h.uS b x (.inl hK))⟩;rcases a with a|(a|a)|a
 ·exact h.lt b (.inl a)
 ·exact h.lt b (.inr (.inl a))
 ·exact h.RB a
 ·exact h.lt b (.inr (.inr a))
structure iM(Z:fG)(M:Nat->Prop)(w:World)(M':Nat->Prop)(w':World):Prop where
 sub:∀b,M b->M' b
 rw:U Z M w w'
 tr:aZ Z M' w' [] w'
theorem iM.heap(h:iM Z M w M' w1){b:Nat}{o:Obj}(c:M b)(a:w.heap[b]?=some o):w1.heap[b]?=some o:=(h.rw.heap b (.inr c)).trans a
theorem iM.trans{d:Nat->Prop}{c:World}(h:iM Z M w M' w1)(k:iM Z M' w1 d c):iM Z M w d c:=
 ⟨fun b a=>k.sub b (h.sub b a),h.rw.trans ⟨fun b a=>k.rw.heap b (a.imp id (h.sub b)),k.rw.size,k.rw.later,k.rw.output,k.rw.tape⟩,k.tr⟩
theorem iM.al7(h:iM Z M w M' w1){a:World}(k:aZ Z M' w1 [] a):iM Z M w M' a:=by refine⟨h.sub,h.rw.trans ⟨fun b c=>k.rw.heap b (c.imp id (h.sub b)),k.rw.size,k.rw.later,k.rw.output,k.rw.tape⟩,?_⟩;have:=aZ.tV k;grind[jo]
theorem iM.start(h:aZ Z mine w0 bs w)(k:iM Z (ck mine bs) w M' w1):iM Z mine w0 M' w1:=
 ⟨fun b a=>k.sub b (.inl a),h.rw.trans ⟨fun b a=>k.rw.heap b (a.imp id .inl),k.rw.size,k.rw.later,k.rw.output,k.rw.tape⟩,k.tr⟩
end
section
variable {c:dT}
def gn(c:dT)(l:ab.av aV)(M:Nat->Prop)(w0:World):c6 (ah (aE c)):=⟨l,M,fun w _=>aZ (ah (aE c)) M w0 [] w⟩
def yE(c:dT)(l:ab.av aV)(M:Nat->Prop)(w0:World):c6 (ah (aE c)):=⟨l,M,fun w γ=>aZ (ah (aE c)) M w0 [] w/\c.N<=γ.am.taken⟩
theorem aZ.rel{l:ab.av aV}{γ:ab.aT cF}{M:Nat->Prop}{w0 w w':World}{g:Goroutine}(h:aZ (ah (aE c)) M w0 [] w)(a:dX (ah (aE c)) l γ ⟨g,w,M⟩ w'):aZ (ah (aE c)) M w0 [] w':=
 h.on (by rw[jo];exact dX.rw a)
theorem Ze(l:ab.av aV)(M:Nat->Prop)(w0:World):wk (gn c l M w0):=fun _ _ _ _ _ h _ a=>aZ.rel h a
def MM(c:dT)(x y:Nat×Obj)(σ:c6 (ah (aE c))):Prop:=∃l M w0,ku l.am=false/\(M x.1/\w0.heap[x.1]?=some x.2)/\(M y.1/\w0.heap[y.1]?=some y.2)/\σ=gn c l M w0
theorem Bn{x y:Nat×Obj}:∀σ,MM c x y σ->wk σ:=by rintro _ ⟨l,M,w0,_,_,_,rfl⟩;exact Ze _ _ _
theorem al8{x y:Nat×Obj}:∀σ,MM c x y σ->∀w γ,σ.S w γ->σ.S {w with drawn:=w.drawn+1} γ:=by rintro _ ⟨l,M,w0,_,_,_,rfl⟩ w γ h;exact⟨h.rw.trans ⟨fun _ _=>rfl,Nat.le_refl _,.refl _,rfl,rfl⟩,h.cV,h.lt,h.fy,h.uS,h.Di,h.xw⟩
variable {Q:Program} {Stop:Bool->ab.av aV->a6->Prop} {m:Bool} {b:Frame} {ops:Array Oper}
theorem MN{x y z:Nat×Obj}(s:z=x\/z=y){o:Oper}{v:Value}(f:Region.wanted o (yielded ops a.tmps)=true)
 (h:∀w,w.heap[z.1]?=some z.2->(execOp a.eval o).run Q w=.ok (.value v) w/\∀e∈listed Q b.fn a o w,∃off,e=⟨.cell ⟨z.1,off,none⟩,false,false⟩):oi Q b ops (MM c x y) o v a:=by
 refine .inl ⟨f,?_⟩;rintro _ ⟨l,M,w0,q,u,t,rfl⟩ w γ w' r g hS n m;have hZ:=Ze (c:=c) l M w0 w γ w' r g hS n m;have i:M z.1/\w0.heap[z.1]?=some z.2:=AU;obtain⟨p,k⟩:=h w' ((hZ.rw.heap z.1 (.inr i.1)).trans i.2);refine⟨p,A_ _ _ fun e j d=>?_,?_⟩
 ·obtain⟨off,rfl⟩:=k e AU;exact .inl ⟨rfl,.inr (.inl i.1),q⟩
 ·rintro⟨e,j,f⟩;obtain⟨off,rfl⟩:=k e j;rcases f with f|f|⟨_,f⟩|⟨_,f⟩|⟨f,_⟩<;>cases f
theorem Bo{Z:fG}{Stop:Bool->Z.av->a6->Prop}{σ:c6 Z}{K:c6 Z->Act->Prop}{o:Oper}{args:Array Value}{V:Value->c6 Z->Prop}(h:∀w,(execOp a.eval o).run Q w=.ok (.enter f args) w/\listed Q b.fn a o w=#[])(d:jS Q Stop m f args σ V)(k:∀u c,V u c->K c (a.put o.dst u)):Rs Q Stop m b o σ a K:=
 ⟨f,args,V,fun w γ w' e g _ _ _=>⟨(h w').1,by rw[(h w').2];exact trivial,AU⟩,d,k⟩
theorem tW{o:Oper}{fn:Func}{c:Code}{args:Array Operand}{ats:Array TypeId}(d:o.op=.call {callee:=.value (.func f),args,argTypes:=ats})
 (h:Q.funcs[f]?=some fn) (e:(fn.name== "runtime.NumGoroutine")=false) (i:fn.body=some c) {vs:Array Value} (g:args.map a.eval=vs) (w:World):(execOp a.eval o).run Q w=.ok (.enter f vs) w/\listed Q b.fn a o w=#[]:=by
 grind[run_call_body,listed,events_call_body,seen_none]
theorem RK{o:Oper}{r:Operand}{name:String}{args:Array Operand}{ats:Array TypeId}(c:o.op=.call {callee:=.invoke r name,args,argTypes:=ats}){w:World}{n:Next}{rv:Value}{vs:Array Value}(f:a.eval r=rv)(d:args.map a.eval=vs)
 (h:(callMethod rv name vs).run Q w=.ok n w/\(callMethod rv name vs).events Q w #[]=#[]):(execOp a.eval o).run Q w=.ok n w/\listed Q b.fn a o w=#[]:=by
 subst d;subst f;obtain⟨i,g⟩:=h;unfold listed;have e:execOp a.eval o=callMethod (a.eval r) name (args.map a.eval):=by unfold execOp;simp only[c,resolve,invoke];generalize args.map a.eval=u;simp_all[Array.getElem?_append_left]
 grind[seen_none]
theorem MP{Z:fG}{Stop:Bool->Z.av->a6->Prop}(e:∀l g g1,¬Z.qr l g g1){σ:c6 Z}{γ:Z.aT}{w d:World}{V:Value->c6 Z->Prop}{o:Oper}{args:Array Value}{i:Nat}{rest:List Nat}{k:List Item}{cs:List Frame}(n:ops[i]?=some o)(j:Region.wanted o (yielded ops a.tmps)=true)(p:b.kind≠ .early)
 (h:(execOp a.eval o).run Q w=.ok (.enter f args) w/\listed Q b.fn a o w=#[]) (q:jS Q Stop m f args σ V) (hS:σ.S w γ)
 (hK:∀u c,V u c->∀w γ,c.S w γ->bh Z Q Stop m c.l γ ⟨G (b.at (a.put o.dst u) (.inRegion ops rest::k)) cs,w,c.mine⟩):iq (Z:=Z) Q Stop m σ.l γ ⟨G (b.at a (.inRegion ops (i::rest)::k)) cs,d,σ.mine⟩ w:=by
 refine RI e (stepG_enter n j p h.1) rfl h.2 (q b a ops i rest k cs (fun u c t r s v=>?_) w γ hS);grind
def sz(c:dT)(de w:World):Prop:=∀b,c.K b->w.heap[b]?=de.heap[b]?
theorem sz.more{de w w':World}{M M':Nat->Prop}(h:sz c de w)(d:iM (ah (aE c)) M w M' w'):sz c de w':=fun b a=>(d.rw.heap b (.inl a)).trans (h b a)
theorem sz.tr{de w0 w:World}{M:Nat->Prop}{bs:List (Nat×Obj)}(h:sz c de w0)(k:aZ (ah (aE c)) M w0 bs w):sz c de w:=fun b a=>(k.rw.heap b (.inl a)).trans (h b a)
structure xI(c:dT)(de:World)(Q:Program)(Stop:Bool->ab.av aV->a6->Prop)(Dp:FuncId)(hH:Value)(k9:FuncId)(iN:Value)(fr aL:Nat->Nat)(nE c7:Nat->Value->(Nat->Prop)->World->Prop):Prop where
 Fs:∀(args:Array Value)(w:World),(callMethod hH "Piece" args).run Q w=.ok (.enter k9 (#[iN]++args)) w/\(callMethod hH "Piece" args).events Q w #[]=#[]
 al9:∀T l M w0,T<c.N->ku l.am=false->aZ (ah (aE c)) M w0 [] w0->sz c de w0->jS Q Stop false k9 #[iN,.int .i64 (fr T:Int),.int .i64 (aL T:Int)] (gn c l M w0) (fun u b4=>∃M' w1,iM (ah (aE c)) M w0 M' w1/\nE T u M' w1/\b4=gn c l M' w1)
 al_:∀T l M w0 u,T<c.N->ku l.am=false->aZ (ah (aE c)) M w0 [] w0->sz c de w0->nE T u M w0->jS Q Stop false Dp #[u] (gn c l M w0) (fun v b4=>∃M' w1,iM (ah (aE c)) M w0 M' w1/\c7 T v M' w1/\b4=gn c l M' w1)
 slice:∀T v M w,c7 T v M w->∃s a9,v=.slice s (c.rows T) a9
 mono:∀T v M w M' w',c7 T v M w->(∀b,c.K b\/M b->w'.heap[b]?=w.heap[b]?)->(∀b,M b->M' b)->c7 T v M' w'
def qx(c7:Nat->Value->(Nat->Prop)->World->Prop)(q:List (Nat×Value))(M:Nat->Prop)(w:World):Prop:=∀x∈q,c7 x.1 x.2 M w
theorem qx.more{e k9:FuncId}{hH b:Value}{fr aL:Nat->Nat}{nE c7:Nat->Value->(Nat->Prop)->World->Prop}{de:World}(J:xI c de Q Stop e hH k9 b fr aL nE c7){q:List (Nat×Value)}{M M':Nat->Prop}{w w':World}(h:qx c7 q M w)(a:iM (ah (aE c)) M w M' w'):qx c7 q M' w':=
 fun x d=>J.mono _ _ _ _ _ _ (h x d) a.rw.heap a.sub
end
end
end jn
namespace dD
open Conc ConcM az bu ab gb iJ gF jn
section
section
variable {Z:fG} {Q:Program} {Stop:Bool->Z.av->a6->Prop} {m:Bool} {l:Z.av}
theorem Zf(G:Z.Good)(B:Z.past l=false)(U:∀g g1,¬Z.qr l g g1){post:a6->Prop}{X:a6}{K':Nat->Prop}(h:jO Q m K' post X):
 ∀(γ:Z.aT)(fr:Nat->Prop),(∀b,K' b->Z.K b\/fr b)->X.g.status=.running->(∀b,X.mine b\/fr b->¬Z.hV b)->(∀b,fr b->¬X.mine b/\¬Z.K b/\b<X.w.heap.size)->(∀b,Z.hV b->b<X.w.heap.size)->(∀b,Z.K b->b<X.w.heap.size/\¬X.mine b)->
  (∀(Y:a6)(q:Z.aT),post Y->Z.dN l γ q->Y.g.status=.running->(∀b,Y.mine b\/fr b->¬Z.hV b)->(∀b,fr b->¬Y.mine b/\b<Y.w.heap.size/\Y.w.heap[b]?=X.w.heap[b]?)->X.w.heap.size<=Y.w.heap.size->
   (∀b,Z.K b->¬Y.mine b/\Y.w.heap[b]?=X.w.heap[b]?)->(∀b,X.mine b->Y.mine b)->(∀b,Y.mine b->X.mine b\/(X.w.heap.size<=b/\b<Y.w.heap.size))->OsLater X.w.os Y.w.os->Y.w.output=X.w.output->Y.w.tape=X.w.tape->bh Z Q Stop m l q (tf Y fr))->bh Z Q Stop m l γ (tf X fr):=by
 induction h with
 |done h=>intro γ fr _ s z t _ y k;exact k _ γ h (G.refl _ _) s z AU Jr AU (fun _ h=>h) AU (.refl _) rfl rfl
 |@step X ok d_ H=>
  intro γ fr r s z t hsz y k;refine bh.mk s fun w' q I j=>?_;have p:kl K' X w':=⟨fun b i=>j.rely.heap b (i.elim (fun h=>(r b h).imp id .inr) (fun h=>.inr (.inl h))),j.rely.size,j.rely.env⟩;obtain⟨g1,w1,es,o,f⟩:=ok w' p;have W:∀b,grown X.mine w' w1 b->¬Z.hV b:=by
   rintro b (i|⟨i,_⟩)
   ·grind
   ·intro hS;have:=hsz b hS;have:=j.rely.size;grind[tf]
  have bV:∀b,fr b->¬grown X.mine w' w1 b:=by
   rintro b i (h|⟨h,_⟩)
   ·grind
   ·have:=(t b i).2.2;have:=j.rely.size;grind[tf]
  have M:∀b,fr b->w1.heap[b]?=X.w.heap[b]?:=fun b i=>by have c:=j.rely.heap b (.inr (.inr i));simp[tf]at c;rw[<-c];refine f.kept b ?_ (t b i).1;grind
  have T:(⟨g1,w1,grown (tf X fr).mine w' w1⟩:a6)=tf ⟨g1,w1,grown X.mine w' w1⟩ fr:=by
   unfold tf;congr 1
   grind[grown]
  refine .quiet o ⟨f.run,⟨fun b i E _=>f.kept b i fun h=>E (.inl h),f.size,by rw[f.os];exact .refl _,f.output,f.tape⟩,fun b i hS=>f.kept b i AU,A_ _ _ fun e A d=>?_,?_⟩ ?_
  ·have:=f.evs e AU;unfold zq at this;unfold we;cases hl:e.loc with
   |cell a=>
    rw[hl]at this;obtain⟨c,v,u⟩:=this;refine .inl ⟨u,?_,B⟩;cases n:e.write with
    |true=>exact .inr (.inl ((v n).imp .inl id))
    |false=>
     rcases c with c|c
     ·rcases r _ c with h|h
      ·grind
      ·exact .inr (.inl (.inl (.inr h)))
     ·exact .inr (.inl (c.imp .inl id))
   |obj a=>
    rw[hl]at this;obtain⟨c,v,u⟩:=this;refine⟨u,?_,B⟩;cases n:e.write with
    |true=>exact .inr ((v n).imp .inl id)
    |false=>
     rcases c with c|c
     ·rcases r _ c with h|h
      ·grind
      ·exact .inr (.inl (.inr h))
     ·exact .inr (c.imp .inl id)
   |mark mk=>rw[hl]at this;cases mk<;>first|exact .inl this|grind
   |output=>trivial
   |goroutines=>grind
  ·rintro(⟨e,A,n⟩|h)
   ·have:=f.evs e A;unfold zq at this;rcases n with h|h|⟨a,h⟩|⟨a,h⟩|⟨n,b,i,hS⟩
    ·grind
    ·grind
    ·grind
    ·grind
    grind[fF]
   grind
  ·rw[T];have V:X.w.heap.size<=w1.heap.size:=Nat.le_trans j.rely.size f.size;refine H w' g1 w1 es p o q fr r f.run AU AU AU (fun b hK=>⟨AU,?_⟩) ?_
   ·rintro(h|⟨h,_⟩)
    ·grind
    ·have:=(y b hK).1;have:=p.size;omega
   intro Y D F P O S Zg L C N R K x w;refine k Y D F (G.trans _ _ _ _ I P) O S AU AU (fun b hK=>⟨(C b hK).1,?_⟩) (fun b h=>N b (.inl h)) (fun b h=>?_) ?_ ?_ ?_
   ·have c:=j.rely.heap b (.inl hK);simp[tf]at c;rw[(C b hK).2,<-c];exact f.kept b AU (y b hK).2
   ·have J:X.w.heap.size<=w'.heap.size:=p.size;rcases R b h with(h|h)|h
    ·grind
    ·grind
    grind
   ·exact(show OsLater X.w.os w'.os from j.later).trans (by rw[<-f.os];grind)
   ·rw[x];exact f.output.trans j.output
   ·rw[w];exact f.tape.trans j.tape
end
def dz(_:Nat):Prop:=False
structure RP(C:cU)(dP G:Nat->Prop)(w:World)(R:Value->World->Prop)(v':Value)(yF:Nat->Prop)(w':World)(ρ:ay)(w1:World)(v:Value):Prop where
 post:R v w1
 val:aA ρ v v'
 world:∃S,eN C S ρ w1 w'
 le:ay.le (fE (fun b=>dP b\/G b) dz) ρ
 wZ:∀a b,ρ.rel a b->dP b\/yF b
 sub:∀b,G b->yF b
 old:∀a b,ρ.rel a b->a=b\/w.heap.size<=b
section
variable {c:dT} {Stop:Bool->ab.av aV->a6->Prop} {m:Bool}
theorem Zi{P:Program}{upd:Bool}(E:(ei P upd).Good)(W:upd=false){f:FuncId}{fn:Func}{z:Code}(B:P.funcs[f]?=some fn)(A:i6 P upd fn=true)(d:fn.body=some z)(D:Dm fn=true){l:ab.av aV}(al:ku l.am=false)
 {dP G M:Nat->Prop} {w0:World} (U:∀b,dP b->c.K b) (hG:∀b,G b->M b) (Z:∀g,g<=P.globals.size->dP g) {args:Array Value} (C:a3 (fE (fun b=>dP b\/G b) dz) args args) {R:World->Value->World->Prop}
 (F:i7 (ei P upd) (fun b=>dP b\/G b) dz w0)
 (V:∀w,(∀b,dP b\/G b->w.heap[b]?=w0.heap[b]?)->∀i,gW (ei P upd) (fun b=>dP b\/G b) dz w i->∀T,Calls (ai P upd) f args {i with tape:=T} (fun e w1=>∃v,e=.returned v/\R i v w1)):
 jS P Stop m f args (gn c l M w0) (fun u H=>∃n M' w',(∃w i ρ w1 v,(∀b,dP b\/G b->w.heap[b]?=w0.heap[b]?)/\gW (ei P upd) (fun b=>dP b\/G b) dz w i/\RP (ei P upd) dP G w (R i) u n w' ρ w1 v)/\(∀b,n b->M' b)/\iM (ah (aE c)) M w0 M' w'/\H=gn c l M' w'):=by
 intro b₁ a₁ aG i₁ aP k₁ cs₁ RQ w γ hS;have hF:aZ (ah (aE c)) M w0 [] w:=hS;have q:=aN (bR c);have L:∀b,dP b\/G b->w.heap[b]?=w0.heap[b]?:=fun b d=>hF.rw.heap b AU;have K:i7 (ei P upd) (fun b=>dP b\/G b) dz w:=fun b d=>by obtain⟨o,h1,h2⟩:=F b d;grind
 obtain⟨i,p⟩:=HZ (ei P upd) (fun b=>dP b\/G b) dz w;have y:=jO.more (K':=fun b=>dP b\/G b) AU (RG E B A d D K AU AU C (R:=R i) p AU m (b₁.at a₁ (.inRegion aG (i₁::aP)::k₁)) cs₁);have S:(⟨bb (Frame.enter P f args .normal) (b₁.at a₁ (.inRegion aG (i₁::aP)::k₁)::cs₁),w,M⟩:a6)=tf ⟨bb (Frame.enter P f args .normal) (b₁.at a₁ (.inRegion aG (i₁::aP)::k₁)::cs₁),w,dz⟩ M:=by
  unfold tf;congr 1
  funext b
  exact propext ⟨.inr,fun h=>h.resolve_left (fun x=>x)⟩
 show bh _ _ _ _ l γ ⟨bb (Frame.enter P f args .normal) (b₁.at a₁ (.inRegion aG (i₁::aP)::k₁)::cs₁),w,M⟩;rw[S];have k:∀b,M b->¬(ah (aE c)).hV b:=fun b h=>hF.fy b (.inr (.inl h));refine Zf q AU Js y γ M AU rfl (fun b d=>k b (d.resolve_left (fun x=>x))) (fun b d=>⟨fun x=>x,hF.xw b d,hF.lt b (.inr (.inl d))⟩) (fun b hS=>hF.lt b (.inr (.inr hS))) (fun b hK=>⟨hF.lt b (.inl hK),fun x=>x⟩) ?_;rintro Y J ⟨ρ,w1,v,t,j⟩ X RN MR Zg hsz I RO N s Q O;have hsz':w.heap.size<=Y.w.heap.size:=hsz;have r:iM (ah (aE c)) M w0 (fun b=>Y.mine b\/M b) Y.w:=by
  refine⟨AU,hF.rw.trans ⟨fun b d=>?_,hsz,s,Q,O⟩,.refl _ _ _,Aa,fun b d=>?_,fun b d=>?_,Aa,Aa,fun b d hK=>?_⟩
  ·grind
  ·rcases d with h|(h|h)|h
   ·exact Nat.lt_of_lt_of_le (hF.lt b (.inl h)) hsz'
   ·exact(N b h).elim (fun x=>x.elim) (fun x=>x.2)
   ·grind
   ·exact Nat.lt_of_lt_of_le (hF.lt b (.inr (.inr h))) hsz'
  ·rw[jo]at d;rcases d with h|h
   ·exact q.og b h
   grind
  ·rcases d with h|h
   ·grind
   ·exact hF.xw b h hK
 have:=RQ t (gn c l (fun b=>Y.mine b\/M b) Y.w) ⟨fun b=>G b\/Y.mine b,_,Y.w,⟨w,i,ρ,w1,v,L,p,j.post,j.val,j.world,j.le,fun a b h=>?_,AU,fun a b h=>?_⟩,AU,r,rfl⟩ Y.w J r.tr
 ·unfold tf;have e:=j.g;rw[Frame.finish_at]at e;rw[e];exact this
 ·rcases j.wZ a b h with h|h
  ·grind
  grind
 ·rcases j.old a b h with h|h
  ·exact .inl h.1
  grind
end
end
def Dq(R:World->Value->Prop):Prop:=∀(ρ:ay)(w w':World)(v v':Value),vg ρ w w'->aA ρ v v'->R w v->R w' v'
def sA(C:cU)(dP X:Nat->Prop)(R:World->Value->Prop)(u:Value)(M:Nat->Prop)(w:World):Prop:=
 ∃G:Nat->Prop,(∀b,G b->M b/\¬X b)/\i7 C (fun b=>dP b\/G b) dz w/\aA (fE (fun b=>dP b\/G b) dz) u u/\R w u
variable {w w':World}
section
variable {C:cU} {dP X:Nat->Prop}
theorem wt{D:Nat->Prop}(h:i7 C D dz w)(e:∀b,D b->w'.heap[b]?=w.heap[b]?):i7 C D dz w':=fun b a=>by obtain⟨o,d,c⟩:=h b a;grind
theorem wu{D:Nat->Prop}(q:∀b,D b->w'.heap[b]?=w.heap[b]?)(o:i7 C D dz w):vg (fE D dz) w w':=by
 rintro a a' v ⟨⟨n,hd⟩,m,l⟩ i;obtain⟨c,e,fr,f,p,g⟩:=vJ i;rw[n]at f;have k:=(q _ hd).trans f;refine⟨v,kH k (l▸p) (m▸g),?_⟩;obtain⟨ob,h,d⟩:=o _ hd;rw[f]at h;cases h;rcases d with d|d
 ·cases d with|cells _ j _=>exact j.get _ _ _ g g
 ·exact d.elim
theorem sA.mono{R:World->Value->Prop}(f:Dq R){u:Value}{M M':Nat->Prop}(h:sA C dP X R u M w)(j:∀b,dP b\/M b->w'.heap[b]?=w.heap[b]?)(i:∀b,M b->M' b):sA C dP X R u M' w':=by obtain⟨G,g,c,a,e⟩:=h;have d:∀b,dP b\/G b->w'.heap[b]?=w.heap[b]?:=AU;exact⟨G,AU,wt c d,a,f _ _ _ _ _ (wu d c) a e⟩
theorem RP.Zn{G:Nat->Prop}{R:Value->World->Prop}{d:Value}{e M':Nat->Prop}{ρ:ay}{w1:World}{v:Value}(h:RP C dP G w R d e w' ρ w1 v)(k:∀b,e b->M' b/\¬X b){Q:World->Value->Prop}(n:Dq Q)(m:Q w1 v):sA C dP X Q d M' w':=by
 obtain⟨S,g⟩:=h.world;have f:(fun b=>dP b\/((∃a,ρ.rel a b)/\¬dP b))=fun b=>∃a,ρ.rel a b:=by
  funext b
  apply propext;constructor
  ·rintro(c|c)
   ·exact⟨b,h.le.1 b b ⟨rfl,.inl c⟩⟩
   grind
  grind
 refine⟨fun b=>(∃a,ρ.rel a b)/\¬dP b,fun b c=>?_,?_,?_,n ρ w1 w' v d g.cw h.val m⟩
 ·obtain⟨⟨a,j⟩,i⟩:=c;exact k b ((h.wZ a b j).resolve_left i)
 ·rw[f];exact g.closed dz
 ·rw[f];exact aA.right (σ:=fE (fun b=>∃a,ρ.rel a b) dz) (fun a b l=>⟨rfl,a,l⟩) h.val
end
theorem jS.mono{Z:fG}{Q:Program}{Stop:Bool->Z.av->a6->Prop}{m:Bool}{f:FuncId}{args:Array Value}{σ:c6 Z}{V a:Value->c6 Z->Prop}(h:jS Q Stop m f args σ V)(c:∀u b,V u b->a u b):jS Q Stop m f args σ a:=
 fun b₁ a₁ aG i₁ aP k₁ cs₁ hK w γ hS=>h b₁ a₁ aG i₁ aP k₁ cs₁ AU w γ hS
theorem iA{ρ:ay}{l:List Value}(h:∀v∈l,aA ρ v v):a3 ρ l.toArray l.toArray:=by apply a3.La;induction l with|nil=>exact .nil|cons a l b=>exact .cons (h a Aa) AU
theorem Zo{P:Program}{upd:Bool}(S:(ei P upd).Good)(L:upd=false){k9 J:FuncId}{o n:Func}{F E:Code}(D:P.funcs[k9]?=some o)(C:i6 P upd o=true)(B:o.body=some F)(A:Dm o=true)
 (z:P.funcs[J]?=some n) (y:i6 P upd n=true) (Dt:n.body=some E) (t:Dm n=true) {Stop:Bool->ab.av aV->a6->Prop}
 {c:dT} {de:World} {dP:Nat->Prop} (p:∀b,dP b->c.K b) (N:∀g,g<=P.globals.size->dP g) (Z:i7 (ei P upd) (fun b=>dP b\/dz b) dz de) {hH i:Value} {fr aL:Nat->Nat}
 (hinv:∀(args:Array Value)(w:World),(callMethod hH "Piece" args).run P w=.ok (.enter k9 (#[i]++args)) w/\(callMethod hH "Piece" args).events P w #[]=#[]) (aDs:aA (fE (fun b=>dP b\/dz b) dz) i i)
 {Du Dv:Nat->World->Value->Prop} (I:∀T,Dq (Du T)) (X:∀T,Dq (Dv T))
 (g8:∀T,T<c.N->∀w,(∀b,dP b\/dz b->w.heap[b]?=de.heap[b]?)->∀a,gW (ei P upd) (fun b=>dP b\/dz b) dz w a->∀f,Calls (ai P upd) k9 #[i,.int .i64 (fr T:Int),.int .i64 (aL T:Int)] {a with tape:=f} (fun e w1=>∃v,e=.returned v/\Du T w1 v))
 (c0:∀T,T<c.N->∀a u,Du T a u->∀f,Calls (ai P upd) J #[u] {a with tape:=f} (fun e w1=>∃v,e=.returned v/\Dv T w1 v))
 (A1:∀T w v,Dv T w v->∃s a9,v=.slice s (c.rows T) a9):
 xI c de P Stop J hH k9 i fr aL (fun T u M w=>sA (ei P upd) dP c.K (Du T) u M w) (fun T v M w=>sA (ei P upd) dP c.K (Dv T) v M w):=by
 refine⟨hinv,fun T l M w0 O H hk Q=>?_,fun T l M w0 u O H hk Q hm=>?_,fun T v M w h=>?_,fun T v M w M' w' h W dG=>sA.mono (X T) h AU dG⟩
 ·have W:∀b,dP b\/dz b->w0.heap[b]?=de.heap[b]?:=fun b d=>Q b (p b (d.resolve_right (fun x=>x)));refine jS.mono (Zi S L D C B A H (G:=dz) (M:=M) p (fun b h=>h.elim) N (R:=fun _ v w1=>Du T w1 v) (iA fun v q=>?_) (wt Z W) AU) ?_
  ·simp at q;rcases q with rfl|rfl|rfl
   ·grind
   ·exact .int _ _
   ·exact .int _ _
  ·rintro u b4 ⟨Y,M',w',⟨w,a,ρ,w1,v,_,_,j⟩,k,m,rfl⟩;exact⟨M',w',m,j.Zn (fun b d=>⟨k b d,fun x=>m.tr.xw b (k b d) x⟩) (I T) j.post,rfl⟩
 ·obtain⟨G,h1,r,V,U⟩:=hm;refine jS.mono (Zi S L z y Dt t H (G:=G) (M:=M) p AU N (R:=fun _ v w1=>Dv T w1 v) (iA fun v q=>?_) r (fun w K a aM f=>c0 T O a u ?_ f)) ?_
  ·grind
  ·have da:=wt r K;exact I T _ _ _ _ _ (aM.cw da) V (I T _ _ _ _ _ (wu K r) V U)
  ·rintro u b4 ⟨Y,M',w',⟨w,a,ρ,w1,v,_,_,j⟩,k,m,rfl⟩;exact⟨M',w',m,j.Zn (fun b d=>⟨k b d,fun x=>m.tr.xw b (k b d) x⟩) (X T) j.post,rfl⟩
 ·obtain⟨G,_,_,_,U⟩:=h;grind
end dD
namespace b_
open Conc ConcM RowKit az bu ab gb iJ gF jn dD
abbrev dY:=List Int×List bU
def RY(w:World)(rd:Nat->Option Value)(r:dY):Prop:=∃cv dZ,rd 0=some cv/\rd 1=some dZ/\km w cv r.1/\k0 w dZ r.2
abbrev g9(w:World):=bd w 2 RY
theorem amr:xK QU:=by rintro ρ w w' rd i x-hr ⟨h0,f,e,d,c⟩;obtain⟨v0,ap,b0⟩:=hr 0 _ h0;obtain⟨v1,a1,b1⟩:=hr 1 _ f;obtain⟨v2,b,h⟩:=hr 2 _ e;obtain⟨v3,a,g⟩:=hr 3 _ d;rw[b0.Zk]at ap;rw[b1.ts]at a1;rw[h.ts]at b;rw[g.RU]at a;exact⟨ap,a1,b,a,c⟩
theorem m0:xK RY:=by rintro ρ w w' rd h x b a ⟨cv,dZ,h0,f,e,d⟩;obtain⟨g,ap,b0⟩:=a 0 _ h0;obtain⟨c,a1,b1⟩:=a 1 _ f;exact⟨g,c,ap,a1,az.bd.cw RV b b0 e,az.bd.cw amr b b1 d⟩
theorem Bq:sV QU:=fun _ _ _ _ _ _ a h=>⟨a _ _ h.1,a _ _ h.2.1,a _ _ h.2.2.1,a _ _ h.2.2.2.1,h.2.2.2.2⟩
theorem xM:sV RY:=fun _ _ _ _ _ b a⟨cv,dZ,h0,e,d,c⟩=>⟨cv,dZ,a _ _ h0,a _ _ e,d.mono H0 b,c.mono Bq b⟩
theorem Zp(xs:List (Value×Value)):∀j(h:j<xs.length),(two xs)[j*2]?=some xs[j].1/\(two xs)[j*2+1]?=some xs[j].2:=by induction xs with|nil=>grind|cons a l b=>intro j h;cases j with|zero=>exact⟨rfl,rfl⟩|succ j=>have:=b j AU;rw[show(j+1)*2=j*2+1+1 from Ay];exact this
variable {v:Value}
theorem RZ{Row:Nat->World->Value->Prop}{n₀ N:Nat}{w:World}(h:FN Row n₀ N v w)(rs:List dY)(cj:rs.length=N)(b:N<=9223372036854775807)
 (c:∀j(h:j<rs.length) p q,Row j w (.agg #[p,q])->km w p rs[j].1/\k0 w q rs[j].2):g9 w v rs:=by
 obtain⟨xs,m,e,d⟩:=h;subst cj;rcases e.2 with⟨rfl,h0⟩|⟨g,cap,bp,rfl,-,k,-,-,-,ht⟩
 ·grind[bd.nil]
 ·refine⟨_,cap,rfl,b,fun i hi=>⟨g,0,rfl,?_⟩⟩;have a:i<xs.length:=Ay;have f:=c i hi _ _ (d i a);have n:=Zp xs i a;have l:∀o v,(two xs)[o]?=some v->w.cell? ⟨g,o,none⟩=some v:=by grind[World.cell?]
  refine⟨xs[i].1,xs[i].2,?_,?_,f⟩
  ·grind
  grind
theorem ams{pl:List Int}{vs:List bU}{w:World}{p q:Value}(h:Mb pl vs w (.agg #[p,q]))(k:pl.length<=9223372036854775807)(c:vs.length<=9223372036854775807)(ht:∀d∈vs,d.text.size<=9223372036854775807):km w p pl/\k0 w q vs:=by obtain⟨a,bv,b,cs,e,g,m,f,l,j⟩:=h;simp at e;obtain⟨rfl,rfl⟩:=e;refine⟨⟨_,_,rfl,k,fun i hi=>⟨a,0,rfl,?_⟩⟩,k0.LR f c ht j _⟩;show w.cell? ⟨a,0+i*1+0,none⟩=_;rw[g.bT.1];have:b[0+i*1+0]?=b.toList[i]?:=Aa;grind
def yI(t:List br)(fr aL:Nat)(w:World)(u:Value):Prop:=
 ∃j6 eS bs v,u=.func (.func 207) #[] #[.pointer (some ⟨j6,0,none⟩),.pointer (some ⟨eS,0,none⟩),.pointer (some ⟨bs,0,none⟩)]/\
  w.cell? ⟨j6,0,none⟩=some (.int .i64 fr)/\w.cell? ⟨eS,0,none⟩=some (.int .i64 aL)/\w.cell? ⟨bs,0,none⟩=some v/\lV w v t
theorem R1{ρ:ay}{b:Nat}(h:aA ρ (.pointer (some ⟨b,0,none⟩)) v):∃a,v=.pointer (some ⟨a,0,none⟩)/\dC ρ ⟨b,0,none⟩ ⟨a,0,none⟩:=by cases h with|@e7 _ a' k=>obtain⟨a,o',f⟩:=a';obtain⟨c,e,d⟩:=k;simp only at c e d;subst e;subst d;exact⟨a,rfl,c,rfl,rfl⟩
theorem Zq{ρ:ay}{f:FuncId}{b1 g e:Nat}(h:aA ρ (.func (.func f) #[] #[.pointer (some ⟨b1,0,none⟩),.pointer (some ⟨g,0,none⟩),.pointer (some ⟨e,0,none⟩)]) v):
 ∃c1 bH eI,v=.func (.func f) #[] #[.pointer (some ⟨c1,0,none⟩),.pointer (some ⟨bH,0,none⟩),.pointer (some ⟨eI,0,none⟩)]/\dC ρ ⟨b1,0,none⟩ ⟨c1,0,none⟩/\dC ρ ⟨g,0,none⟩ ⟨bH,0,none⟩/\dC ρ ⟨e,0,none⟩ ⟨eI,0,none⟩:=by
 cases h with|@func fn n a a' b k i j d p c=>cases i;obtain⟨l⟩:=a';obtain⟨m⟩:=k;simp only[List.size_toArray,List.length_nil,List.length_cons]at j d;have hl:l=[]:=AU;subst hl;match m,d with| [x,y,z],_=>obtain⟨c1,rfl,o⟩:=R1 (c 0 _ x rfl rfl);obtain⟨bH,rfl,r⟩:=R1 (c 1 _ y rfl rfl);obtain⟨eI,rfl,q⟩:=R1 (c 2 _ z rfl rfl);grind
theorem amt(t:List br)(fr aL:Nat):Dq (yI t fr aL):=by rintro ρ w w' u p a d ⟨q,r,bs,v,rfl,h,g,f,e⟩;obtain⟨c1,bH,eI,rfl,c,o,l⟩:=Zq d;obtain⟨s,a1,k⟩:=a _ _ _ c h;obtain⟨x,b,j⟩:=a _ _ _ o g;obtain⟨m,n,i⟩:=a _ _ _ l f;rw[k.ts]at a1;rw[j.ts]at b;exact⟨c1,bH,eI,m,rfl,a1,b,n,az.bd.cw yG a i e⟩
theorem Zr(rs:List dY):Dq (fun w v=>g9 w v rs):=fun _ _ _ _ _ b a h=>az.bd.cw m0 b a h
theorem amu:(ai prog false).funcs[(205:Nat)]?=some f205:=bl (upd:=false) func205 AS
theorem amv(t:List br)(v:Value)(fr aL:Nat)(w:World)(b:lV w v t):
 Calls (ai prog false) 205 #[.agg #[v],.int .i64 fr,.int .i64 aL] w fun e w'=>∃u,e=.returned u/\yI t fr aL w' u:=by
 obtain⟨a,cap,rfl,-,-⟩:=id b;go_enter amu,ntmps205
 go_wp2
 go_ret
 have b1:=((af.new w #[.slice a t.length cap] 113).alloc (.cells #[.int .i64 (fr:Int)] 3)).alloc (.cells #[.int .i64 (aL:Int)] 3);have d:=(af.new (w.alloc (.cells #[.slice a t.length cap] 113)) #[.int .i64 (fr:Int)] 3).alloc (.cells #[.int .i64 (aL:Int)] 3);have c:=af.new ((w.alloc (.cells #[.slice a t.length cap] 113)).alloc (.cells #[.int .i64 (fr:Int)] 3)) #[.int .i64 (aL:Int)] 3;simp at d c;refine⟨_,rfl,w.heap.size+1,w.heap.size+1+1,w.heap.size,.slice a t.length cap,rfl,d.bT.1 0,c.bT.1 0,b1.bT.1 0,b.mono se (bC.cW ?_)⟩;exact(((Below.refl _ w).alloc Jr _).alloc Aa _).alloc Bu _
end b_
namespace b_
open RowKit az
theorem Z7:(ai prog false).funcs[(176:Nat)]?=some f176:=bl (upd:=false) func176 AS
@[simp] theorem aD2 (args:Array Value) (w:World):Sem.run (ai prog false) (callFunc 176 args) w=.ok (.enter 176 args) w:=c8 Z7 AS args w
def anP(m:Nat)(w w':World):Prop:=∀(b:Nat)(cs:Array Value)(T:TypeId),b≠m->af w b cs T->af w' b cs T
theorem anQ(ds:List bU):(By ds).length=ds.length*4:=by induction ds with|nil=>rfl|cons a l b=>grind[By,List.length_cons]
variable {B m:Nat}{cv dZ:Value}{ds:List bU}{w:World}
theorem Nu{d:bU}(h:kx B m cv dZ (ds++[d]) w)(A:B<=w.heap.size)(C:ds.length<=1000000):
 Calls (ai prog false) 176 #[.pointer (some ⟨m,0,none⟩)] w fun e w'=>e=.returned (ib d)/\kx B m cv dZ ds w'/\Below B w w'/\anP m w w':=by
 obtain⟨i,sv,f,a⟩:=h;rw[List.length_append,List.length_singleton]at a;obtain⟨g,cap,rfl⟩:=ownsRow_succ a;obtain⟨bG,k,j,dt⟩:=d;have hl:=anQ ds;rw[Z6]at a;have t:=(World.ownsRow.lt a g rfl).2;have cu:=uK a (ds.length*4) (.bool bG) AU;have c1:=uK a (ds.length*4+1) (.int .i64 k) AU;have bH:=uK a (ds.length*4+2) (.int .i64 j) AU;have eI:=uK a (ds.length*4+3) (.string dt) AU;have p:ds.length+1<=cap:=by
  rcases a.2 with⟨h0,_⟩|⟨g',cap',bp,s,_,_,u,_⟩
  ·cases h0
  grind
 have l:Hid (af w m #[cv,dZ,.slice (some ⟨g,0,none⟩) (ds.length+1) cap] 270):=f;obtain⟨x,y,z⟩:=f.all;have o:Hid (w.ownsRow B 95 4 (.slice (some ⟨g,0,none⟩) ds.length cap) ds.length (By ds)):=by have:=Xl a ds.length Ay;grind
 have D:Hid (g≠m):=by obtain⟨bp,r⟩:=Nr a (g:=g) rfl;grind[Nq]
 clear f a hl;go_enter Z7,ntmps176
 go_wp2
 refine bodyPost_ret (v:=ib ⟨bG,k,j,dt⟩) (by simp[results,results176,go_sem]) rfl ⟨rfl,⟨i,_,((l.out.set 2 (.slice (some ⟨g,0,none⟩) ds.length cap)).alloc _).alloc _,?_⟩,?_,?_⟩
 ·exact World.ownsRow.alloc (World.ownsRow.alloc (L0 o.out (fun g' q=>HV) _) _) _
 ·exact(((Below.refl _ w).setCell i _).alloc Bu _).alloc Bu _
 ·intro b cs T c n;exact((n.fu c _).alloc _).alloc _
theorem Z8:(ai prog false).funcs[(178:Nat)]?=some f178:=bl (upd:=false) func178 AS
@[simp] theorem aD3 (args:Array Value) (w:World):Sem.run (ai prog false) (callFunc 178 args) w=.ok (.enter 178 args) w:=c8 Z8 AS args w
variable {vals:List bU}
theorem anR(h:kx B m cv dZ ds w)(o:k0 w dZ vals)(t:cd)(i:Nat)(c:t.op=1)(b:t.a=i)(hi:i<vals.length):
 Calls (ai prog false) 178 #[.pointer (some ⟨m,0,none⟩),uL t] w fun e w'=>e=.returned (ib vals[i])/\Below w.heap.size w w':=by
 obtain⟨r,sv,f,k⟩:=h;obtain⟨A,cap,rfl,hl,j⟩:=o;obtain⟨g,off,rfl,cu,c1,bH,eI,-⟩:=j i hi;obtain⟨op,a,y,C⟩:=t;simp only at c b;subst c;subst b;simp at cu;have s:=gX cu;obtain⟨u,x,z⟩:=f.all;generalize vals[i]=d at *;obtain⟨bG,n,l,dt⟩:=d;have q:(0:Int)<=(i:Int):=Ay;have p:(i:Int)<(vals.length:Int):=Ay;clear f k j;go_enter Z8,ntmps178
 go_wp2
 go_region
 go_wp2
 exact bodyPost_ret (v:=ib ⟨bG,n,l,dt⟩) (by simp[results,results178,go_sem]) rfl ⟨rfl,(((Below.refl _ w).alloc Jr _).alloc Aa _).drew⟩
theorem Nv:(ai prog false).funcs[(175:Nat)]?=some f175:=bl (upd:=false) func175 AS
@[simp] theorem aD5 (args:Array Value) (w:World):Sem.run (ai prog false) (callFunc 175 args) w=.ok (.enter 175 args) w:=c8 Nv AS args w
theorem anS(h:kx B m cv dZ ds w)(u:B<=w.heap.size)(y:ds.length<=1000)(g:k0 w dZ vals)(t:cd)(i:Nat)(k:t.op=1)(j:t.a=i)(hi:i<vals.length):
 Calls (ai prog false) 175 #[.pointer (some ⟨m,0,none⟩),uL t] w fun e w'=>e=.returned (.tuple #[])/\kx B m cv dZ (ds++[vals[i]]) w'/\Below B w w':=by
 obtain⟨op,a,n,p⟩:=t;simp only at k j;subst k;subst j;have d:Hid (kx B m cv dZ ds w):=h;have r:Hid (k0 w dZ vals):=g;clear h g;go_enter Nv,ntmps175
 go_wp2
 have c:Below w.heap.size w (w.alloc (.cells #[.int .i64 1,.int .i64 (i:Int),.int .i64 n,.string p] 30)):=(Below.refl _ _).alloc Jr _;refine(anR (d.out.call c) (r.out.mono Bq (bC.cW c)) ⟨1,i,n,p⟩ i rfl rfl hi).mono ?_;rintro e w1 ⟨rfl,o⟩;have b:=Below.step o c Aa;have x:Hid (kx B m cv dZ ds w1):=d.out.call b;have l:Hid (Below w.heap.size w w1):=b;clear o b c;go_wp2
 refine(Ss x.out (by have:=l.out.size;omega) Ay _).mono ?_;rintro e q ⟨rfl,f,b⟩;have v:Hid _:=f;have s:Hid (Below B w q):=(l.out.mono u).trans b;clear f b;go_wp2
 go_end0
 exact⟨rfl,v.out,s.out⟩
theorem anT{l r:bU}(h:kx B m cv dZ (ds++[l]++[r]) w)(ao:B<=w.heap.size)(aj:ds.length<=1000)(t:cd)(L:t.op=5\/t.op=6\/t.op=7)(hl:eW l.cb)(Y:eW r.cb)(M:eW (jY t.op l r).cb)(K:eW (jY t.op l r).cE):
 Calls (ai prog false) 175 #[.pointer (some ⟨m,0,none⟩),uL t] w fun e w'=>e=.returned (.tuple #[])/\kx B m cv dZ (ds++[sH t.op l r]) w'/\Below B w w':=by
 obtain⟨op,a,i,j⟩:=t;simp only at L M K⊢;have H:Hid (kx B m cv dZ (ds++[l]++[r]) w):=h;have o1:op≠1:=Ay;have o2:op≠2:=Ay;have o3:op≠3:=Ay;have o4:op≠4:=Ay;have Sr:op≠8:=Ay;have aD6:op≠14:=Ay;have Nw:op≠15:=Ay;clear h;go_enter Nv,ntmps175
 go_wp2
 have b:Below w.heap.size w (w.alloc (.cells #[.int .i64 op,.int .i64 a,.int .i64 i,.string j] 30)):=(Below.refl _ _).alloc Jr _;have anU:m<w.heap.size:=by obtain⟨sv,Z,-⟩:=H.out.own;exact Z.lt
 have N:af (w.alloc (.cells #[.int .i64 op,.int .i64 a,.int .i64 i,.string j] 30)) w.heap.size #[.int .i64 op,.int .i64 a,.int .i64 i,.string j] 30:=af.new _ _ _;refine(Nu (H.out.call b) (by have:=b.size;omega) AU).mono ?_;rintro e w1 ⟨rfl,J,P,T⟩;have z:=T _ _ _ Ay N;have Bz:Hid (kx B m cv dZ (ds++[l]) w1):=J;have v:Hid (af w1 w.heap.size #[.int .i64 op,.int .i64 a,.int .i64 i,.string j] 30):=z;have dM:Hid (Below B w w1):=(b.mono ao).trans P;obtain⟨p,q,s⟩:=z.all;clear J P T z N b;obtain⟨C,A,y,lt⟩:=l;obtain⟨f,d,g,rt⟩:=r;go_wp2
 have b:Below w1.heap.size w1 (w1.alloc (.cells #[.bool f,.int .i64 d,.int .i64 g,.string rt] 95)):=(Below.refl _ _).alloc Jr _;have R:af (w1.alloc (.cells #[.bool f,.int .i64 d,.int .i64 g,.string rt] 95)) w1.heap.size #[.bool f,.int .i64 d,.int .i64 g,.string rt] 95:=af.new _ _ _;refine(Nu (Bz.out.call b) (by have:=b.size;grind) Ay).mono ?_;rintro e c ⟨rfl,I,Q,x⟩;have D:=x _ _ _ Ay (v.out.alloc _);have k:=x _ _ _ AU R;have Su:Hid (kx B m cv dZ ds c):=I;have o:Hid (Below B w c):=dM.out.trans ((b.mono AU).trans Q);have aD7:Hid _:=D;have z3:Hid _:=k;clear p q s;obtain⟨p,q,s⟩:=D.all;obtain⟨X,W,V⟩:=k.all;clear I Q x D k R b;go_wp2
 have b:Below c.heap.size c (c.alloc (.cells #[.bool C,.int .i64 A,.int .i64 y,.string lt] 95)):=(Below.refl _ _).alloc Jr _;refine(anO _ op ⟨C,A,y,lt⟩ ⟨f,d,g,rt⟩ _ L hl Y M K).mono ?_;rintro e E ⟨rfl,O⟩;have n:Hid (Below c.heap.size c E):=Below.step O b Aa;have Sy:Hid (kx B m cv dZ ds E):=Su.out.call n.out;clear O b p q s X W V;go_wp2
 refine(Ss Sy.out (by have:=n.out.size;have:=o.out.size;omega) Ay (sH op ⟨C,A,y,lt⟩ ⟨f,d,g,rt⟩)).mono ?_;rintro e U ⟨rfl,S,F⟩;have u:Hid _:=S;have Gs:Hid (Below B w U):=o.out.trans ((n.out.mono (by have:=o.out.size;omega)).trans F);clear S F;go_wp2
 go_end0
 exact⟨rfl,u.out,Gs.out⟩
theorem anX{d:bU}(h:kx B m cv dZ (ds++[d]) w)(C:B<=w.heap.size)(L:ds.length<=1000)(t:cd)(n:t.op=8)(hd:eW d.cb)(z:0<=d.cE/\d.cE<=100)(l:0<=t.a/\t.a<=100)(k:eW (kw t.a d).cb):
 Calls (ai prog false) 175 #[.pointer (some ⟨m,0,none⟩),uL t] w fun e w'=>e=.returned (.tuple #[])/\kx B m cv dZ (ds++[kw t.a d]) w'/\Below B w w':=by
 obtain⟨op,a,b,c⟩:=t;simp only at n l k⊢;subst n;have y:Hid (kx B m cv dZ (ds++[d]) w):=h;have D:m<w.heap.size:=by obtain⟨sv,A,-⟩:=h.own;exact A.lt
 clear h;go_enter Nv,ntmps175
 go_upto_region 13 with fail
 have g:Below w.heap.size w (w.alloc (.cells #[.int .i64 8,.int .i64 a,.int .i64 b,.string c] 30)):=(Below.refl _ _).alloc Jr _;have p:Hid (af (w.alloc (.cells #[.int .i64 8,.int .i64 a,.int .i64 b,.string c] 30)) w.heap.size #[.int .i64 8,.int .i64 a,.int .i64 b,.string c] 30):=af.new _ _ _;have i:Hid (kx B m cv dZ (ds++[d]) (w.alloc (.cells #[.int .i64 8,.int .i64 a,.int .i64 b,.string c] 30)).drew):=(y.out.call g).call (Below.refl _ _).drew;have u:Hid (Below w.heap.size w (w.alloc (.cells #[.int .i64 8,.int .i64 a,.int .i64 b,.string c] 30)).drew):=g.drew;clear g;generalize w.alloc (.cells #[.int .i64 8,.int .i64 a,.int .i64 b,.string c] 30)=H at *;obtain⟨I,J,K⟩:=p.out.all;go_region_with (first|(go_at_call 176;refine(Nu i.out (by have:=u.out.size;omega) Ay).mono ?_;rintro e w1 ⟨rfl,j,q,r⟩;obtain⟨u1,u2,u3⟩:=(r _ _ _ Ay p.out.drew).all)|(go_at_call 179;refine(anN _ ⟨8,a,b,c⟩ d _ rfl hd z l k).mono ?_;rintro e F ⟨rfl,f⟩)|(go_at_call 177;refine(Ss (j.call f) (by have:=f.size;grind) Ay (kw a d)).mono ?_;rintro e v ⟨rfl,s,o⟩))
 all_goals
  have E:Hid _:=s;have x:Hid (Below B w v):=(u.out.mono C).trans (q.trans ((f.mono AU).trans o));clear j q r f s o u1 u2 u3;go_wp2
  go_end0
  exact⟨rfl,E.out,x.out⟩
def DU(vals:List bU)(t:cd)(ds lT:List bU):Prop:=
 (t.op=1/\∃i,∃h:i<vals.length,t.a=(i:Nat)/\lT=ds++[vals[i]])\/
 (t.op=8/\∃z4 d,ds=z4++[d]/\eW d.cb/\(0<=d.cE/\d.cE<=100)/\(0<=t.a/\t.a<=100)/\eW (kw t.a d).cb/\lT=z4++[kw t.a d])\/
 ((t.op=5\/t.op=6\/t.op=7)/\∃z4 l r,ds=z4++[l]++[r]/\eW l.cb/\eW r.cb/\eW (jY t.op l r).cb/\eW (jY t.op l r).cE/\lT=z4++[sH t.op l r])
def z5(vals:List bU):List cd->List bU->List bU->Prop
 | [],ds,out=>ds=out
 |t::bJ,ds,out=>∃lT,DU vals t ds lT/\z5 vals bJ lT out
variable {lT:List bU}
theorem DU.len{t:cd}(h:DU vals t ds lT):lT.length<=ds.length+1:=by rcases h with⟨-,i,h,-,rfl⟩|⟨-,a,d,rfl,-,-,-,-,rfl⟩|⟨-,a,l,r,rfl,-,-,-,-,rfl⟩<;>simp
theorem anZ(h:kx B m cv dZ ds w)(q:B<=w.heap.size)(s:ds.length<=1000)(j:k0 w dZ vals)(t:cd)(b:DU vals t ds lT):
 Calls (ai prog false) 175 #[.pointer (some ⟨m,0,none⟩),uL t] w fun e w'=>e=.returned (.tuple #[])/\kx B m cv dZ lT w'/\Below B w w':=by
 rcases b with⟨p,i,hi,n,rfl⟩|⟨o,a,d,rfl,f1,g,f,c,rfl⟩|⟨k,a,l,r,rfl,f1,g,f,c,rfl⟩
 ·grind[anS]
 ·grind[anX]
 grind[anT]
theorem Z_:(ai prog false).funcs[(173:Nat)]?=some f173:=bl (upd:=false) func173 AS
@[simp] theorem aD9 (args:Array Value) (w:World):Sem.run (ai prog false) (callFunc 173 args) w=.ok (.enter 173 args) w:=c8 Z_ AS args w
theorem an0(j:List cd)(O:Value)(cv dZ:Value)(vals:List bU)(d:bU)(w:World)(ht:Fy w O j)(al:∃a n c,cv=.slice a n c)(u:k0 w dZ vals)(xr:j.length<=900)(M:z5 vals j [] [d]):
 Calls (ai prog false) 173 #[O,.agg #[cv,dZ]] w fun e w'=>e=.returned (ib d)/\Below w.heap.size w w':=by
 obtain⟨g,gO,pc,rfl⟩:=al;obtain⟨bL,cap,rfl,hl,A⟩:=id ht;obtain⟨h,f,T,-⟩:=u.shape;subst T;have S:Hid _:=u;have U:Hid (z5 vals j [] [d]):=M;clear u M;go_enter Z_,ntmps173
 go_wp2
 have P:af (((w.alloc (.cells #[.slice g gO pc,.slice h vals.length f] 78)).alloc (.cells #[.bool false,.int .i64 0,.int .i64 0,.string ⟨#[]⟩] 95)).alloc (.cells #[.slice g gO pc,.slice h vals.length f,.slice none 0 0] 270)) (w.heap.size+1+1) #[.slice g gO pc,.slice h vals.length f,.slice none 0 0] 270:=by have:=af.new ((w.alloc (.cells #[.slice g gO pc,.slice h vals.length f] 78)).alloc (.cells #[.bool false,.int .i64 0,.int .i64 0,.string ⟨#[]⟩] 95)) #[.slice g gO pc,.slice h vals.length f,.slice none 0 0] 270;simp_all
 have Nx:Hid (kx (w.heap.size+1+1) (w.heap.size+1+1) (.slice g gO pc) (.slice h vals.length f) [] _):=⟨Nat.le_refl _,_,P,World.ownsRow_nil _ _ _ _⟩;have E:af (((w.alloc (.cells #[.slice g gO pc,.slice h vals.length f] 78)).alloc (.cells #[.bool false,.int .i64 0,.int .i64 0,.string ⟨#[]⟩] 95)).alloc (.cells #[.slice g gO pc,.slice h vals.length f,.slice none 0 0] 270)) (w.heap.size+1) #[.bool false,.int .i64 0,.int .i64 0,.string ⟨#[]⟩] 95:=by have:=(af.new (w.alloc (.cells #[.slice g gO pc,.slice h vals.length f] 78)) #[.bool false,.int .i64 0,.int .i64 0,.string ⟨#[]⟩] 95).alloc (.cells #[.slice g gO pc,.slice h vals.length f,.slice none 0 0] 270);simp_all
 have D:Hid _:=E;have Ij:Hid (Below w.heap.size w (((w.alloc (.cells #[.slice g gO pc,.slice h vals.length f] 78)).alloc (.cells #[.bool false,.int .i64 0,.int .i64 0,.string ⟨#[]⟩] 95)).alloc (.cells #[.slice g gO pc,.slice h vals.length f,.slice none 0 0] 270))):=(((Below.refl _ w).alloc Jr _).alloc Aa _).alloc Bu _;have C:Hid (w.heap.size+1+1<=(((w.alloc (.cells #[.slice g gO pc,.slice h vals.length f] 78)).alloc (.cells #[.bool false,.int .i64 0,.int .i64 0,.string ⟨#[]⟩] 95)).alloc (.cells #[.slice g gO pc,.slice h vals.length f,.slice none 0 0] 270)).heap.size):=by unfold Hid;simp
 clear P E;generalize((w.alloc (.cells #[.slice g gO pc,.slice h vals.length f] 78)).alloc (.cells #[.bool false,.int .i64 0,.int .i64 0,.string ⟨#[]⟩] 95)).alloc (.cells #[.slice g gO pc,.slice h vals.length f,.slice none 0 0] 270)=w0 at *;go_loopw [13] (fun i W=>∃(k:Nat)(ds:List bU),k<=j.length/\i=.int .i64 (k:Int)/\ds.length<=k/\z5 vals (j.drop k) ds [d]/\kx (w.heap.size+1+1) (w.heap.size+1+1) (.slice g gO pc) (.slice h vals.length f) ds W/\Below (w.heap.size+1+1) w0 W/\af W (w.heap.size+1) #[.bool false,.int .i64 0,.int .i64 0,.string ⟨#[]⟩] 95)
  (fun i _=>j.length-(intOf i).toNat)
 case atStart=>exact⟨0,[],Nat.zero_le _,rfl,Nat.le_refl _,U.out,Nx.out,Below.refl _ _,D.out⟩
 case round=>
  obtain⟨k,ds,hk,rfl,zv,hrun,x,s,L⟩:=hrel;have F:Hid _:=x;have cP:Hid (Below (w.heap.size+1+1) w0 wr):=s;have J:Hid (af wr (w.heap.size+1) #[.bool false,.int .i64 0,.int .i64 0,.string ⟨#[]⟩] 95):=L;have r:Hid (Below w.heap.size w wr):=Ij.out.trans (s.mono Ay);have DV:Hid (w.heap.size+1+1<=wr.heap.size):=Nat.le_trans C.out s.size;have jx:w.heap.size+1+1<wr.heap.size:=by obtain⟨sv,V,-⟩:=x.own;exact V.lt
  clear x s L;by_cases o:k<j.length
  ·obtain⟨b,off,rfl,cu,c1,bH,eI,-⟩:=A k o;simp at cu;have q:=bC.cW r.out;have N:=q _ _ _ cu;have e1:=q _ _ _ c1;have Z:=q _ _ _ bH;have Y:=q _ _ _ eI;have QH:=gX N;rw[List.drop_eq_getElem_cons o]at hrun;obtain⟨lT,l,Q⟩:=hrun;have R:Hid _:=l;have B:Hid _:=Q;have ly:=l.len;have ql:(0:Int)<=(k:Int):=Ay;have s7:(k:Int)<(j.length:Int):=Ay;clear l Q cu c1 bH eI q A;go_wp2
   have p:Below wr.heap.size wr (wr.alloc (.cells #[.int .i64 j[k].op,.int .i64 j[k].a,.int .i64 j[k].v,.string j[k].s] 30)):=(Below.refl _ _).alloc Jr _;refine(anZ (F.out.call p) (by have:=p.size;omega) Ay (bd.mono Bq (bC.cW (Below.step p r.out r.out.size)) S.out) j[k] R.out).mono ?_;rintro e w1 ⟨rfl,I,m⟩;have Bz:Hid _:=I;have z:Hid (Below (w.heap.size+1+1) w0 w1):=cP.out.trans ((p.mono Ay).trans m);have t:Hid (af w1 (w.heap.size+1) #[.bool false,.int .i64 0,.int .i64 0,.string ⟨#[]⟩] 95):=(J.out.alloc _).below m Ay;clear I m p N e1 Z Y;go_wp2
   go_roundw
   case rel=>exact⟨k+1,lT,Ay,Aa,Ay,B.out,Bz.out,z.out,t.out⟩
   case measure=>simp[intOf];omega
  ·have X:k=j.length:=by omega
   subst X;rw[List.drop_length]at hrun;obtain rfl:ds=[d]:=hrun;have hB:¬((j.length:Int)<(j.length:Int)):=Ay;clear A;go_wp2
   refine(Nu (ds:=[]) (d:=d) F.out Ay Aa).mono ?_;rintro e w1 ⟨rfl,-,m,-⟩;have y:=J.out.below m Ay;have t:Hid (af w1 (w.heap.size+1) #[.bool false,.int .i64 0,.int .i64 0,.string ⟨#[]⟩] 95):=y;have z:Hid (Below w.heap.size w w1):=r.out.trans (m.mono Ay);obtain⟨db,dA,cY⟩:=y.all;clear y m;obtain⟨bG,K,H,dt⟩:=d;go_wp2
   have Jo:=(((t.out.set 0 (.bool bG)).set 1 (.int .i64 K)).set 2 (.int .i64 H)).set 3 (.string dt);have Jp:=Jo.bT.1;refine bodyPost_ret (v:=ib ⟨bG,K,H,dt⟩) (by simp[results,results173,go_sem,Jp]) rfl ⟨rfl,?_⟩;exact(((z.out.setCell Aa _).setCell Aa _).setCell Aa _).setCell Aa _
end b_
namespace gF
open Conc RowKit ConcM
set_option maxRecDepth 100000
variable {w:World}{b:Nat}{p q r x y z:Value}
theorem apB{t:TypeId}(a:w.heap[b]?=some (.cells #[x,y,z] t)):((w.setCell ⟨b,0,none⟩ p).setCell ⟨b,1,none⟩ q).setCell ⟨b,2,none⟩ r=w.setRow b #[p,q,r]:=by have f:=setCell_eq_setRow w b 0 #[x,y,z] t (0,0) p a;have b1:=setRow_heap w b #[x,y,z] (#[x,y,z].setIfInBounds 0 p) t (0,0) a;have e:=setCell_eq_setRow _ b 1 _ t (0,0) q b1;have c:=setRow_heap _ b _ ((#[x,y,z].setIfInBounds 0 p).setIfInBounds 1 q) t (0,0) b1;have d:=setCell_eq_setRow _ b 2 _ t (0,0) r c;grind[setRow_setRow]
variable {ev:Operand->Value}{i j:Operand}
theorem sM(a:w.heap[b]?=some (.cells #[x,y,z] 187))(h:p.oneCell'=true/\q.oneCell'=true/\r.oneCell'=true)(hi:ev i=.pointer (some ⟨b,0,none⟩))(d:ev j=.agg #[p,q,r])
 {o:Oper} (c:o.op=.store 187 i j):
 (execOp ev o).run prog w=.ok .skip (w.setRow b #[p,q,r])/\(execOp ev o).events prog w #[]=#[⟨.cell ⟨b,0,none⟩,true,false⟩,⟨.cell ⟨b,1,none⟩,true,false⟩,⟨.cell ⟨b,2,none⟩,true,false⟩]:=by
 obtain⟨dst,op,ty,pos,k,l⟩:=o;simp only at c;subst c;have cu:w.cell? ⟨b,0,none⟩=some x:=JE;have f0:w.frozen? ⟨b,0,none⟩=false:=by simp[World.frozen?,a]
 have g:(w.setCell ⟨b,0,none⟩ p).heap[b]?=some (.cells #[p,y,z] 187):=by simp[World.setCell,Array.getElem?_modify,a]
 have c1:(w.setCell ⟨b,0,none⟩ p).cell? ⟨b,1,none⟩=some y:=Ed;have f1:(w.setCell ⟨b,0,none⟩ p).frozen? ⟨b,1,none⟩=false:=BQ;have f:((w.setCell ⟨b,0,none⟩ p).setCell ⟨b,1,none⟩ q).heap[b]?=some (.cells #[p,q,z] 187):=by simp_all[World.setCell,Array.getElem?_modify]
 have bH:((w.setCell ⟨b,0,none⟩ p).setCell ⟨b,1,none⟩ q).cell? ⟨b,2,none⟩=some z:=by simp[World.cell?,f]
 have e:((w.setCell ⟨b,0,none⟩ p).setCell ⟨b,1,none⟩ q).frozen? ⟨b,2,none⟩=false:=by simp[World.frozen?,f]
 rw[<-apB a];constructor
 ·simp[go_sem,hi,d,cu,f0,c1,f1,bH,e,run_store,h]
 ·simp[go_sem,hi,d,cu,f0,c1,f1,bH,e,run_store,events_store,h]
theorem aa6{p q r:Int}{k:Operand}(hi:ev i=.int .i64 p)(c:ev j=.int .i64 q)(b:ev k=.int .i64 r){o:Oper}(a:o.op=.build 187 #[(0,i),(1,j),(2,k)]):(execOp ev o).run prog w=.ok (.value (.agg #[.int .i64 p,.int .i64 q,.int .i64 r])) w/\(execOp ev o).events prog w #[]=#[]:=by
 obtain⟨dst,op,ty,pos,d,e⟩:=o;simp only at a;subst a;constructor
 ·simp[go_sem,hi,c,b]
 ·simp[go_sem,hi,c,b]
theorem BN(a:w.heap[b]?=some (.cells #[x,y,z] 187))(hi:ev i=.pointer (some ⟨b,0,none⟩)){o:Oper}(c:o.op=.load 187 i):
 (execOp ev o).run prog w=.ok (.value (.agg #[x,y,z])) w/\(execOp ev o).events prog w #[]=#[⟨.cell ⟨b,0,none⟩,false,false⟩,⟨.cell ⟨b,1,none⟩,false,false⟩,⟨.cell ⟨b,2,none⟩,false,false⟩]:=by
 obtain⟨dst,op,ty,pos,d,e⟩:=o;simp only at c;subst c;have cu:w.cell? ⟨b,0,none⟩=some x:=JE;have c1:w.cell? ⟨b,1,none⟩=some y:=JE;have bH:w.cell? ⟨b,2,none⟩=some z:=JE;constructor
 ·simp[go_sem,hi,cu,c1,bH]
 ·simp[go_sem,hi,cu,c1,bH]
theorem NM{t:Value}{tmps:Array Value}(a:w.heap[b]?=some (.cells #[x,y,z] 187))(d:tmps[2]?=some (.pointer (some ⟨b,0,none⟩)))(c:tmps[3]?=some t):
 (results f82 tmps).run prog w=.ok (.tuple #[.agg #[x,y,z],t]) w/\(results f82 tmps).events prog w #[]=#[⟨.cell ⟨b,0,none⟩,false,false⟩,⟨.cell ⟨b,1,none⟩,false,false⟩,⟨.cell ⟨b,2,none⟩,false,false⟩]:=by
 have cu:w.cell? ⟨b,0,none⟩=some x:=JE;have c1:w.cell? ⟨b,1,none⟩=some y:=JE;have bH:w.cell? ⟨b,2,none⟩=some z:=JE;constructor
 ·simp[results,f82,go_sem,d,c,cu,c1,bH]
 ·simp[results,f82,go_sem,d,c,cu,c1,bH]
end gF
namespace ba
open Conc RowKit Conc.Lib ConcR.Gen ConcM az bu ab
section
section
variable {A:e_} {Stop:Bool->ab.av A.ar->a6->Prop} {m:Bool} {mine:Nat->Prop}
variable {b₁:Frame} {a₁:Act} {aG:Array Oper} {i₁:Nat} {aP:List Nat} {k₁:List Item} {cs₁:List Frame}
theorem apV(G:A.Good){bB:bP}{dO:Nat}{a:A.ar}{γ:ab.aT A.aQ}{e it old new:Int}(j:bits .and .i32 old 4=0)(k:bits .and .i32 old 5=0)(d:bits .or .i32 old 1=new){w:World}
 (c:∀w' b,U (ah A) mine w w'->(ah A).dN ⟨bB,false,1,dO,a⟩ γ b->rQ A Stop m mine b₁ a₁ aG i₁ aP k₁ cs₁ ⟨bB,false,1,dO,a⟩ b e false false it old new w'):nM A Stop m mine b₁ a₁ aG i₁ aP k₁ cs₁ ⟨bB,false,1,dO,a⟩ γ e false false it old w:=by
 unfold nM;intros
 unfold rQ at c;have hF:=U.refl (ah A) mine w;refine a5 (aN G) Js 300 _ _ γ Jt ?_;generalize hS:(fun(g:Goroutine)(w:World)=>g.status=.running/\_)=S;simp only[f126,Option.getD_some,cS,iQ,cH,fK,iD,Nat.reduceBEq,Bool.false_eq_true,↓reduceIte]at c⊢;repeat w_go U.trans
 refine Goes.stop (fun i f=>?_);replace hF:=U.trans hF f;subst hS;exact⟨rfl,fun b d=>c i b hF d ..⟩
theorem apW(G:A.Good){bB:bP}{dO:Nat}{a:A.ar}{γ:ab.aT A.aQ}{e it old new:Int}(k:bits .and .i32 old 4=0)(l:bits .and .i32 old 5=1)(d:bits .or .i32 old 1=old)(j:IntKind.wrap .i32 (old+8)=new){w:World}
 (c:∀w' b,U (ah A) mine w w'->(ah A).dN ⟨bB,false,1,dO,a⟩ γ b->rQ A Stop m mine b₁ a₁ aG i₁ aP k₁ cs₁ ⟨bB,false,1,dO,a⟩ b e false false it old new w'):nM A Stop m mine b₁ a₁ aG i₁ aP k₁ cs₁ ⟨bB,false,1,dO,a⟩ γ e false false it old w:=by
 unfold nM;intros
 unfold rQ at c;have hF:=U.refl (ah A) mine w;refine a5 (aN G) Js 300 _ _ γ Jt ?_;generalize hS:(fun(g:Goroutine)(w:World)=>g.status=.running/\_)=S;simp only[f126,Option.getD_some,cS,iQ,cH,fK,iD,Nat.reduceBEq,Bool.false_eq_true,↓reduceIte]at c⊢;repeat w_go U.trans
 refine Goes.stop (fun i f=>?_);replace hF:=U.trans hF f;subst hS;exact⟨rfl,fun b d=>c i b hF d ..⟩
end
end
end ba
namespace cZ
open Conc ConcN ConcM bu ab gb
section
section
variable {Shun:Loc->Prop} {B n:Nat} {t:Trace} {p:mY}
theorem aqu(h:nF Shun B 0 n t)(A:p.n=n)(q:p.base=n)(hsz:p.size=B)(D:p.cD=none)(y:Me p)(hK:∀b,p.K b\/p.mine 0 b->∀l,fF l=some b->¬Shun l)(E:∀j b,j≠0->¬p.mine j b)(w:∀l,p.hU l\/p.fk l->¬Shun l):eJ p t:=by
 have o:∀j,p.bp j->j=0:=fun j d=>by
  rcases d with⟨F,x|x⟩
  ·exact x
  grind
 have tr:∀{i:Nat}{a:Touch},touchAt t i=some a->a.loc.isMemory=true->¬Shun a.loc->Knows t 0 i:=fun f g s=>(h.known _ _ f g).elim id AU;have C:∀{i:Nat}{a:Touch}{b:Nat},touchAt t i=some a->fF a.loc=some b->p.K b\/p.mine 0 b->Knows t 0 i:=fun f hl q=>tr f (FV hl) (hK _ q _ hl);refine⟨fun i a c g dF=>.inr ⟨fun v=>w _ (.inl v) (h.qq i a c g dF),fun b hl=>⟨fun m=>hK b (.inl m) _ hl (h.qq i a c g dF),fun j d=>?_⟩⟩,fun i op hi=>by rw[A];exact h.gs op (Array.mem_of_getElem? hi),fun i a b c hl=>?_,fun i a b c _ hl m j d=>?_,fun j i a b d c hl H=>?_,AU,fun _ i a c v=>.inl fun j d=>?_,fun i a c s=>.inr (.inr fun j d=>?_),fun i a f=>?_,h.I5,fun i j d _ z=>.inl ?_⟩
 ·by_cases e:j=0
  ·subst e;exact hK b (.inr d) _ hl (h.qq i a c g dF)
  grind
 ·rw[hsz];exact h.low i a b c hl
 ·grind
 ·grind
 ·rw[o j d];exact tr c (y.hU _ v) AU
 ·rw[o j d];exact tr c (y.fk _ s) (w _ (.inr s))
 ·unfold Trace.act? at f;obtain⟨op,u,r⟩:=Option.map_eq_some_iff.1 f;exact h.tS op (Array.mem_of_getElem? u) a r
 ·by_cases e:j=0
  ·grind[Trace.g?,knows_own]
  ·obtain⟨k,m,q⟩:=h.over i j d e z;unfold Trace.g? at m;obtain⟨op,u,r⟩:=Option.map_eq_some_iff.1 m;exact⟨k,op,u,r,.inr q⟩
end
section
variable {c:dT}
def BP(c:dT)(gs:Array Goroutine)(t:Trace)(q:Nat->Nat)(l0:ab.av aV)(g:Goroutine)(w:World)(M:Nat->Prop)(j:Nat):cK (ah (aE c)):=
 if j=0 then⟨g,l0,⟨g,w,M⟩,0⟩else⟨gs.getD j default,(⟨.idle,false,Deaf t j,0,.old⟩:ab.av aV),⟨gs.getD j default,w,fun _=>False⟩,q j⟩
def pK(c:dT)(gs:Array Goroutine)(t:Trace)(q:Nat->Nat)(l0:ab.av aV)(g:Goroutine)(w:World)(M:Nat->Prop):List (cK (ah (aE c))):=(List.range gs.size).map (BP c gs t q l0 g w M)
variable {gs:Array Goroutine} {t:Trace} {q:Nat->Nat} {l0:ab.av aV} {g:Goroutine} {w:World} {M:Nat->Prop}
theorem xW{j:Nat}{r:cK (ah (aE c))}(h:(pK c gs t q l0 g w M)[j]?=some r):j<gs.size/\r=BP c gs t q l0 g w M j:=by unfold pK at h;grind
theorem GD:(pK c gs t q l0 g w M).length=gs.size:=by simp[pK]
theorem aqv(h:0<gs.size):(pK c gs t q l0 g w M)[0]?=some (⟨g,l0,⟨g,w,M⟩,0⟩:cK (ah (aE c))):=by unfold pK;rw[List.getElem?_map,List.getElem?_range h];rfl
theorem Ee{j:Nat}(h:j≠0):BP c gs t q l0 g w M j=⟨gs.getD j default,(⟨.idle,false,Deaf t j,0,.old⟩:ab.av aV),⟨gs.getD j default,w,fun _=>False⟩,q j⟩:=by unfold BP;grind
theorem aqw(h0:gs[0]?=some g):kN (ah (aE c)) (pK c gs t q l0 g w M)=gs:=by
 apply Array.ext_getElem?;intro j;rw[C9];cases a:(pK c gs t q l0 g w M)[j]? with
 |none=>grind[GD]
 |some r=>
  obtain⟨b,rfl⟩:=xW a;by_cases e:j=0
  ·subst e;rw[h0];rfl
  simp_all[Ee]
theorem Tq{f:bP->Nat}(b:f .idle=0):∀(xs:List bP),(∀x∈xs,x=.idle)->ab.a0 f xs=0
 | [],_=>rfl
 |a::xs,h=>by have d:=h a Aa;subst d;have c:=Tq b xs AU;simp only[ab.a0,List.map_cons,List.sum_cons,b]at c⊢;omega
theorem aqx:∀(xs:List Nat)(a:Nat),xs[0]?=some a->(∀j x,j≠0->xs[j]?=some x->x=0)->xs.sum=a
 | [],a,h,_=>AU
 |b::xs,a,h,d=>by
  simp at h;subst h;have:∀(c:List Nat),(∀x∈c,x=0)->c.sum=0:=by intro c;induction c with|nil=>grind|cons y c f=>simp_all
  have:=this xs (fun x e=>by
   obtain⟨j,g⟩:=List.mem_iff_getElem?.1 e;exact d (j+1) x Ay AU)
  grind
theorem aqy{f0 v:Nat}{b0:cF}(K:l0=⟨.idle,false,0,f0,.main (.spawn 0 false)⟩)(y:0<gs.size)(J:gs.size=c.rows c.N)(fo:gs.size<=c.d4)(m:b0.a0=0/\b0.eg=false/\b0.gP=0/\b0.taken=0/\b0.came=0/\b0.done.length=c.N):
 (ah (aE c)).sk (⟨⟨false,false,false,0,0,v⟩,f0+c.C*c.N,b0⟩:ab.aT cF) ((pK c gs t q l0 g w M).map (·.l)):=by
 have get:∀{j:Nat}{l:ab.av aV},((pK c gs t q l0 g w M).map (·.l))[j]?=some l->(j=0/\l=l0)\/(j≠0/\l=⟨.idle,false,Deaf t j,0,.old⟩):=by
  intro j l h;rw[List.getElem?_map]at h;obtain⟨r,B,rfl⟩:=Option.map_eq_some_iff.1 h;obtain⟨u,rfl⟩:=xW B;by_cases e:j=0
  ·subst e;exact .inl ⟨rfl,rfl⟩
  grind[Ee]
 have D:((pK c gs t q l0 g w M).map (·.l))[0]?=some l0:=by rw[List.getElem?_map,aqv y];rfl
 have d:∀{j:Nat}{a:aV},(((pK c gs t q l0 g w M).map (·.l)).map (·.am))[j]?=some a->(j=0/\a=.main (.spawn 0 false))\/(j≠0/\a=.old):=by grind
 have zero:∀(f:aV->Nat),f (.main (.spawn 0 false))=0->f .old=0->dm f (((pK c gs t q l0 g w M).map (·.l)).map (·.am))=0:=fun f u C=>
  MC f _ fun i x A=>AU
 have idle:∀x∈((pK c gs t q l0 g w M).map (·.l)).map (·.bB),x=.idle:=by grind[List.mem_iff_getElem?]
 have ci:=fun f n=>Tq (f:=f) n _ idle;refine⟨⟨?_,fun _=>?_,AU,fun e=>?_,fun i E o hi=>?_⟩,⟨fun k p I=>?_,fun s H=>.inl ?_,⟨.spawn 0 false,?_,m.2.1,m.2.2.1,zero _ rfl rfl,zero _ rfl rfl⟩,fun j s b=>?_,?_,AU,m.2.2.2.2.2,fun p=>?_,fun j a b cv z=>?_,?_,fun⟨j,a,b,n⟩=>?_⟩,?_,fun i l hi ht=>?_,fun i l hi _=>?_,?_⟩
 ·exact ci _ rfl
 ·exact⟨by rw[ci gE rfl,ci dS rfl];rfl,ci _ rfl,ci _ rfl,by rw[ci ga rfl,ci dS rfl];rfl⟩
 ·exact absurd e.2.2.2 AU
 ·grind
 ·grind[GD]
 ·grind
 ·grind
 ·grind
 ·rw[m.1];exact(zero _ rfl rfl).symm
 ·grind[eb,hand,tk]
 ·rcases d b with⟨_,rfl⟩|⟨_,rfl⟩<;>simp[su]at z
 ·have:∀k,kr (fun p=>dm (eK p) (((pK c gs t q l0 g w M).map (·.l)).map (·.am))*c.rows p) k=0:=fun k=>by induction k with|zero=>rfl|succ k F=>grind[gb.kr,eK,tk]
  grind
 ·rcases d b with⟨_,rfl⟩|⟨_,rfl⟩<;>simp[gb.Bd]at n
 ·have u:(((pK c gs t q l0 g w M).map (·.l)).map (·.fuel)).sum=f0:=by refine aqx _ _ AU fun j x b A=>?_;grind
  have C:tg ⟨false,false,false,0,0,v⟩ (((pK c gs t q l0 g w M).map (·.l)).map (·.bB))=0:=by unfold tg;rw[ci dS rfl,ci ef rfl]
  grind
 ·grind
 ·grind
 grind[GD]
end
end
end cZ
namespace jn
open Conc RowKit Conc.Lib ConcR.Gen ConcM az bu ab gb iJ gF
theorem abC:(f82.name== "runtime.NumGoroutine")=false:=by kernel_rfl
theorem aq1:(f83.name== "runtime.NumGoroutine")=false:=by kernel_rfl
section
variable {c:dT} {Stop:Bool->ab.av aV->a6->Prop} {fr aL:Nat->Nat} {hH:Value} {c7:Nat->Value->(Nat->Prop)->World->Prop}
theorem qx.step(d:∀T v M w M' w',c7 T v M w->(∀b,c.K b\/M b->w'.heap[b]?=w.heap[b]?)->(∀b,M b->M' b)->c7 T v M' w'){q:List (Nat×Value)}{M M':Nat->Prop}{w w':World}(h:qx c7 q M w)(a:iM (ah (aE c)) M w M' w'):qx c7 q M' w':=fun x e=>d _ _ _ _ _ _ (h x e) a.rw.heap a.sub
section
variable {b₁:Frame} {a₁:Act} {aG:Array Oper} {i₁:Nat} {aP:List Nat} {k₁:List Item} {cs₁:List Frame}
theorem aq2{f:Nat}{M:Nat->Prop}{w0 de:World}(hI:sz c de w0)(R:∀T v M w M' w',c7 T v M w->(∀b,c.K b\/M b->w'.heap[b]?=w.heap[b]?)->(∀b,M b->M' b)->c7 T v M' w')(N2:∀q j w1,aZ (ah (aE c)) j w1 [] w1->jS prog Stop false 82 #[.pointer (some ⟨c.st,0,none⟩)] (gn c ⟨.idle,false,0,f+15,.aR .free q⟩ j w1) (fun u U=>(u=.tuple #[.agg #[.int .i64 0,.int .i64 0,.int .i64 0],.bool false]/\U=yE c ⟨.idle,false,0,f+1,.aR .free q⟩ j w1)\/∃T,T<c.N/\u=.tuple #[.agg #[.int .i64 (T:Int),.int .i64 (fr T:Int),.int .i64 (aL T:Int)],.bool true]/\U=gn c ⟨.idle,false,0,f+31,.aR (.has T) q⟩ j w1))(Tu:∀q T j w1,T<c.N->sz c de w1->jS prog Stop false 83 #[.pointer (some ⟨c.st,0,none⟩),hH,.agg #[.int .i64 (T:Int),.int .i64 (fr T:Int),.int .i64 (aL T:Int)]] (gn c ⟨.idle,false,0,f+31,.aR (.has T) q⟩ j w1) (fun u U=>u=.tuple #[]/\∃v m C,iM (ah (aE c)) j w1 m C/\c7 T v m C/\U=gn c ⟨.idle,false,0,f+15,.aR .free ((T,v)::q)⟩ m C))(hK:∀q M' w1,iM (ah (aE c)) M w0 M' w1->qx c7 q M' w1->∀w γ,aZ (ah (aE c)) M' w1 [] w->c.N<=γ.am.taken->bh (ah (aE c)) prog Stop false ⟨.idle,false,0,f+1,.aR .free q⟩ γ ⟨Conc.G (b₁.at (a₁.put ((aG[i₁]?).bind (·.dst)) (.tuple #[])) (.inRegion aG aP::k₁)) cs₁,w,M'⟩)(n:Nat):
 ∀(q:List (Nat×Value))(j:Nat->Prop)(w1:World)(bS T:Nat)(ep V BM Y eu d7 ew ey ez eA X W eL eB eC eD gx eE:Value),c.N<=q.length+n->T<c.N->j bS->w1.heap[bS]?=some (Obj.cells #[.int .i64 (T:Int),.int .i64 (fr T:Int),.int .i64 (aL T:Int)] 187)->iM (ah (aE c)) M w0 j w1->qx c7 q j w1->∀w γ,aZ (ah (aE c)) j w1 [] w->bh (ah (aE c)) prog Stop false ⟨.idle,false,0,f+31,.aR (.has T) q⟩ γ ⟨Conc.G ((base 52).at ⟨#[.pointer (some ⟨c.st,0,none⟩),hH,ep,V,.pointer (some ⟨bS,0,none⟩),.bool true,BM,Y,eu,d7,ew,ey,ez,eA,X,W,eL,eB,eC,eD,gx,eE],[]⟩ [.code ((ba.cS (f52.body.getD .skip)).getD .skip),.inLoop ((ba.cS (f52.body.getD .skip)).getD .skip),.inBlock 0]) (b₁.at a₁ (.inRegion aG (i₁::aP)::k₁)::cs₁),w,j⟩:=by
 have jT:=(aN (bR c)).og;induction n with|zero=>intro q j w1 bS T ep V BM Y eu d7 ew ey ez eA X W eL eB eC eD gx eE aj hT E H J I w γ hF;refine bh.seen (aN (bR c)) rfl fun γ _ lg=>?_;have:=al6 lg rfl;omega|succ n ih=>
 intro q j w1 bS T ep V BM Y eu d7 ew ey ez eA X W eL eB eC eD gx eE aj hT E H J I w γ hF;rw[<-jo (M:=j)];refine a5 (aN (bR c)) AU 200 _ _ γ Jt ?_;simp only[f52,Option.getD_some,ba.cS]at ih⊢;repeat w_go aZ.on
 refine g6 rfl hF fun r g z i a F k o hF=>?_;have d:a.heap[bS]?=some (Obj.cells #[.int .i64 (T:Int),.int .i64 (fr T:Int),.int .i64 (aL T:Int)] 187):=(hF.rw.heap bS (.inr E)).trans H;refine tj AU rfl (fun b hb=>hF.fy b (.inr hb)) (stepG_value rfl rfl Bc (BN d rfl rfl).1) rfl (fun e A=>?_) ?_
 ·have t:=mem_listed A;rw[(BN d rfl rfl).2]at t;simp at t;rcases t with rfl|rfl|rfl<;>exact⟨rfl,.inr (.inl E)⟩
 clear d o k i g;refine a5 (aN (bR c)) AU 200 _ _ _ Jt ?_;walk_nrm
 repeat w_go aZ.on
 refine g6 rfl hF fun r g z i a F k o hF=>?_;have B:=aZ.tV hF;rw[jo]at B;rw[jo];have Tv:=J.al7 hF;have P:a.heap[bS]?=some (Obj.cells #[.int .i64 (T:Int),.int .i64 (fr T:Int),.int .i64 (aL T:Int)] 187):=(hF.rw.heap bS (.inr E)).trans H;refine MP (σ:=gn c ⟨.idle,false,0,f+31,.aR (.has T) q⟩ j a) AU rfl rfl Bc (tW (vs:=#[.pointer (some ⟨c.st,0,none⟩),hH,.agg #[.int .i64 (T:Int),.int .i64 (fr T:Int),.int .i64 (aL T:Int)]]) rfl func83 aq1 rfl EB a) (Tu q T j a hT (hI.more Tv)) B ?_;have O:=I.step R ⟨fun _ h=>h,hF.rw,B⟩;clear hF J I H o k i g B;rintro u _ ⟨rfl,v,m,C,L,MK,rfl⟩ S eF D;have hF:aZ (ah (aE c)) m C [] S:=D;clear D;have N:=L.sub bS E;have H:=L.heap E P;have J:=Tv.trans L;have I:qx c7 ((T,v)::q) m C:=by
  intro x Z;rcases List.mem_cons.1 Z with rfl|Z
  ·grind
  ·exact O.step R L x Z
 clear L Tv O P E MK;simp only[gn];rw[<-jo (M:=m)];refine a5 (aN (bR c)) AU 200 _ _ _ Jt ?_;walk_nrm
 repeat w_go aZ.on
 refine g6 rfl hF fun r g z i a F k o hF=>?_;have d:a.heap[bS]?=some (Obj.cells #[.int .i64 (T:Int),.int .i64 (fr T:Int),.int .i64 (aL T:Int)] 187):=(hF.rw.heap bS (.inr N)).trans H;refine tj AU rfl (fun b hb=>hF.fy b (.inr hb)) (stepG_value rfl rfl Bc (BN d rfl rfl).1) rfl (fun e A=>?_) ?_
 ·have t:=mem_listed A;rw[(BN d rfl rfl).2]at t;simp at t;rcases t with rfl|rfl|rfl<;>exact⟨rfl,.inr (.inl N)⟩
 clear d o k i g;refine a5 (aN (bR c)) AU 200 _ _ _ Jt ?_;walk_nrm
 repeat w_go aZ.on
 refine g6 rfl hF fun r g z i a F k o hF=>?_;refine tU AU jT rfl hF (stepG_value (v:=.pointer (some ⟨a.heap.size,0,none⟩)) (w':=a.alloc (Obj.cells #[.int .i64 0,.int .i64 0,.int .i64 0] 187)) rfl rfl Bc BD) rfl Bb (fun y=>?_);clear hF;have hF:=y;clear y o k i g;generalize a.heap.size=p at hF⊢;generalize a.alloc (Obj.cells #[.int .i64 0,.int .i64 0,.int .i64 0] 187)=w3 at hF⊢;refine a5 (aN (bR c)) AU 200 _ _ _ Jt ?_;walk_nrm
 repeat w_go aZ.on
 refine g6 rfl hF fun r g z i a F k o hF=>?_;have d:=hF.cV (p,.cells #[.int .i64 0,.int .i64 0,.int .i64 0] 187) Aa;refine Do AU rfl (pre:=[]) (post:=[]) hF (stepG_none (w':=a.setRow p #[.int .i64 (T:Int),.int .i64 (fr T:Int),.int .i64 (aL T:Int)]) rfl rfl Bc (sM d ⟨rfl,rfl,rfl⟩ rfl rfl rfl).1) rfl (fun e A=>?_) (fun y=>?_)
 ·have t:=mem_listed A;rw[(sM d ⟨rfl,rfl,rfl⟩ rfl rfl rfl).2]at t;grind
 clear hF;have hF:=y;clear y d o k i g;simp only[List.nil_append]at hF⊢;refine a5 (aN (bR c)) AU 200 _ _ _ Jt ?_;walk_nrm
 repeat w_go aZ.on
 refine g6 rfl hF fun r g z i a F k o hF=>?_;have B:=aZ.tV hF;refine MP (σ:=gn c ⟨.idle,false,0,f+15,.aR .free ((T,v)::q)⟩ (ck m [(p,Obj.cells #[.int .i64 (T:Int),.int .i64 (fr T:Int),.int .i64 (aL T:Int)] 187)]) a) AU rfl rfl Bc (tW (vs:=#[.pointer (some ⟨c.st,0,none⟩)]) rfl func82 abC rfl EB a) (N2 _ _ a B) B ?_;clear o k i g;rintro u _ (⟨rfl,rfl⟩|⟨s,CL,rfl,rfl⟩) S eF D
 ·skip
  have cj:c.N<=eF.am.taken:=D.2;have Q:aZ (ah (aE c)) (ck m [(p,Obj.cells #[.int .i64 (T:Int),.int .i64 (fr T:Int),.int .i64 (aL T:Int)] 187)]) a [] S:=D.1;replace hF:=hF.on Q.rw;clear D Q B;simp only[yE];refine a5 (aN (bR c)) AU 200 _ _ _ Jt ?_;walk_nrm
  repeat w_go aZ.on
  refine g6 rfl hF fun r g z i a F k o hF=>?_;replace cj:=Nat.le_trans cj (Nat.le_trans (xH (c:=c) (l:=⟨.idle,false,0,f+1,.aR .free ((T,v)::q)⟩) i) (xH (c:=c) (l:=⟨.idle,false,0,f+1,.aR .free ((T,v)::q)⟩) k));have d:=hF.cV (p,.cells #[.int .i64 (T:Int),.int .i64 (fr T:Int),.int .i64 (aL T:Int)] 187) Aa;refine Do AU rfl (pre:=[]) (post:=[]) hF (stepG_none (w':=a.setRow p #[.int .i64 0,.int .i64 0,.int .i64 0]) rfl rfl Bc (sM d ⟨rfl,rfl,rfl⟩ rfl rfl rfl).1) rfl (fun e A=>?_) (fun y=>?_)
  ·have t:=mem_listed A;rw[(sM d ⟨rfl,rfl,rfl⟩ rfl rfl rfl).2]at t;grind
  clear hF;have hF:=y;clear y d o k i g;simp only[List.nil_append]at hF⊢;refine a5 (aN (bR c)) AU 200 _ _ _ Jt ?_;walk_nrm
  repeat w_go aZ.on
  u_in aZ.on hF
  refine goes_leave0 rfl rfl func52 rfl ⟨FQ,?_⟩;refine Goes.stop (fun r g=>⟨rfl,fun z i=>?_⟩);replace hF:=hF.on g;have K:iM (ah (aE c)) m C (ck m [(p,Obj.cells #[.int .i64 0,.int .i64 0,.int .i64 0] 187)]) r:=⟨fun _ h=>.inl h,hF.rw,aZ.tV hF⟩;exact hK ((T,v)::q) (ck m [(p,Obj.cells #[.int .i64 0,.int .i64 0,.int .i64 0] 187)]) r (J.trans K) (I.step R K) r z (aZ.tV hF) (Nat.le_trans cj (xH (c:=c) (l:=⟨.idle,false,0,f+1,.aR .free ((T,v)::q)⟩) i))
 ·skip
  have Q:aZ (ah (aE c)) (ck m [(p,Obj.cells #[.int .i64 (T:Int),.int .i64 (fr T:Int),.int .i64 (aL T:Int)] 187)]) a [] S:=D;replace hF:=hF.on Q.rw;clear D Q B;simp only[gn];refine a5 (aN (bR c)) AU 200 _ _ _ Jt ?_;walk_nrm
  repeat w_go aZ.on
  refine g6 rfl hF fun r g z i a F k o hF=>?_;have d:=hF.cV (p,.cells #[.int .i64 (T:Int),.int .i64 (fr T:Int),.int .i64 (aL T:Int)] 187) Aa;refine Do AU rfl (pre:=[]) (post:=[]) hF (stepG_none (w':=a.setRow p #[.int .i64 (s:Int),.int .i64 (fr s:Int),.int .i64 (aL s:Int)]) rfl rfl Bc (sM d ⟨rfl,rfl,rfl⟩ rfl rfl rfl).1) rfl (fun e A=>?_) (fun y=>?_)
  ·have t:=mem_listed A;rw[(sM d ⟨rfl,rfl,rfl⟩ rfl rfl rfl).2]at t;grind
  clear hF;have hF:=y;clear y d o k i g;simp only[List.nil_append]at hF⊢;refine a5 (aN (bR c)) AU 200 _ _ _ Jt ?_;walk_nrm
  iterate 3 w_go aZ.on
  refine Goes.stop (fun r g=>⟨rfl,fun z i=>?_⟩);replace hF:=hF.on g;have K:iM (ah (aE c)) m C (ck m [(p,Obj.cells #[.int .i64 (s:Int),.int .i64 (fr s:Int),.int .i64 (aL s:Int)] 187)]) r:=⟨fun _ h=>.inl h,hF.rw,aZ.tV hF⟩;exact ih ((T,v)::q) (ck m [(p,Obj.cells #[.int .i64 (s:Int),.int .i64 (fr s:Int),.int .i64 (aL s:Int)] 187)]) r p s _ _ _ _ _ _ _ _ _ _ _ _ _ _ _ _ _ _ AU CL (.inr Aa) (hF.cV (p,Obj.cells #[.int .i64 (s:Int),.int .i64 (fr s:Int),.int .i64 (aL s:Int)] 187) Aa) (J.trans K) (I.step R K) r z (aZ.tV hF)
theorem aq3{f:Nat}{M:Nat->Prop}{w0 de:World}(Q:sz c de w0)(E:∀T v M w M' w',c7 T v M w->(∀b,c.K b\/M b->w'.heap[b]?=w.heap[b]?)->(∀b,M b->M' b)->c7 T v M' w')(N:∀q r w1,aZ (ah (aE c)) r w1 [] w1->jS prog Stop false 82 #[.pointer (some ⟨c.st,0,none⟩)] (gn c ⟨.idle,false,0,f+15,.aR .free q⟩ r w1) (fun u t=>(u=.tuple #[.agg #[.int .i64 0,.int .i64 0,.int .i64 0],.bool false]/\t=yE c ⟨.idle,false,0,f+1,.aR .free q⟩ r w1)\/∃T,T<c.N/\u=.tuple #[.agg #[.int .i64 (T:Int),.int .i64 (fr T:Int),.int .i64 (aL T:Int)],.bool true]/\t=gn c ⟨.idle,false,0,f+31,.aR (.has T) q⟩ r w1))(V:∀q T r w1,T<c.N->sz c de w1->jS prog Stop false 83 #[.pointer (some ⟨c.st,0,none⟩),hH,.agg #[.int .i64 (T:Int),.int .i64 (fr T:Int),.int .i64 (aL T:Int)]] (gn c ⟨.idle,false,0,f+31,.aR (.has T) q⟩ r w1) (fun u t=>u=.tuple #[]/\∃v I n,iM (ah (aE c)) r w1 I n/\c7 T v I n/\t=gn c ⟨.idle,false,0,f+15,.aR .free ((T,v)::q)⟩ I n)):
 jS prog Stop false 52 #[.pointer (some ⟨c.st,0,none⟩),hH] (gn c ⟨.idle,false,0,f+15,.aR .free []⟩ M w0) (fun u t=>u=.tuple #[]/\∃q M' w1,iM (ah (aE c)) M w0 M' w1/\qx c7 q M' w1/\t=yE c ⟨.idle,false,0,f+1,.aR .free q⟩ M' w1):=by
 intro b₁ a₁ aG i₁ aP k₁ cs₁ J w γ hS;have hK:∀q M' w1,iM (ah (aE c)) M w0 M' w1->qx c7 q M' w1->∀w γ,aZ (ah (aE c)) M' w1 [] w->c.N<=γ.am.taken->bh (ah (aE c)) prog Stop false ⟨.idle,false,0,f+1,.aR .free q⟩ γ ⟨Conc.G (b₁.at (a₁.put ((aG[i₁]?).bind (·.dst)) (.tuple #[])) (.inRegion aG aP::k₁)) cs₁,w,M'⟩:=fun q M' w1 X W w γ S R=>J (.tuple #[]) (yE c ⟨.idle,false,0,f+1,.aR .free q⟩ M' w1) AU w γ ⟨S,R⟩;clear J;have hF:aZ (ah (aE c)) M w0 [] w:=hS;clear hS;have K:=(aN (bR c)).og;rw[enter_at _ func52 rfl];unfold gn;rw[<-jo (M:=M)];refine a5 (aN (bR c)) AU 200 _ _ γ Jt ?_;walk_nrmf f52
 repeat w_go aZ.on
 refine g6 rfl hF fun i g p d a C m o hF=>?_;have A:=aZ.tV hF;rw[jo]at A;rw[jo];have B:iM (ah (aE c)) M w0 M a:=⟨fun _ h=>h,hF.rw,A⟩;clear hF;refine MP (σ:=gn c ⟨.idle,false,0,f+15,.aR .free []⟩ M a) AU rfl rfl Bc (tW (vs:=#[.pointer (some ⟨c.st,0,none⟩)]) rfl func82 abC rfl EB a) (N [] M a A) A ?_;clear o m d g A;rintro u _ (⟨rfl,rfl⟩|⟨T,P,rfl,rfl⟩) L U z
 ·skip
  have cj:c.N<=U.am.taken:=z.2;have hF:aZ (ah (aE c)) M a [] L:=z.1;clear z;generalize a=n at hF B;have D:qx c7 [] M n:=fun x O=>AU;simp only[yE];rw[<-jo (M:=M)];refine a5 (aN (bR c)) AU 200 _ _ _ Jt ?_;walk_nrm
  repeat w_go aZ.on
  refine g6 rfl hF fun i g p d a C m o hF=>?_;replace cj:=Nat.le_trans cj (Nat.le_trans (xH (c:=c) (l:=⟨.idle,false,0,f+1,.aR .free []⟩) d) (xH (c:=c) (l:=⟨.idle,false,0,f+1,.aR .free []⟩) m));refine tU AU K rfl hF (stepG_value (v:=.pointer (some ⟨a.heap.size,0,none⟩)) (w':=a.alloc (Obj.cells #[.int .i64 0,.int .i64 0,.int .i64 0] 187)) rfl rfl Bc BD) rfl Bb (fun k=>?_);clear hF;have hF:=k;clear k o m d g;generalize a.heap.size=j at hF⊢;generalize a.alloc (Obj.cells #[.int .i64 0,.int .i64 0,.int .i64 0] 187)=w3 at hF⊢;refine a5 (aN (bR c)) AU 200 _ _ _ Jt ?_;walk_nrm
  repeat w_go aZ.on
  refine g6 rfl hF fun i g p d a C m o hF=>?_;replace cj:=Nat.le_trans cj (Nat.le_trans (xH (c:=c) (l:=⟨.idle,false,0,f+1,.aR .free []⟩) d) (xH (c:=c) (l:=⟨.idle,false,0,f+1,.aR .free []⟩) m));have s:=hF.cV (j,.cells #[.int .i64 0,.int .i64 0,.int .i64 0] 187) Aa;refine Do AU rfl (pre:=[]) (post:=[]) hF (stepG_none (w':=a.setRow j #[.int .i64 0,.int .i64 0,.int .i64 0]) rfl rfl Bc (sM s ⟨rfl,rfl,rfl⟩ rfl rfl rfl).1) rfl (fun e F=>?_) (fun k=>?_)
  ·have H:=mem_listed F;rw[(sM s ⟨rfl,rfl,rfl⟩ rfl rfl rfl).2]at H;grind
  clear hF;have hF:=k;clear k s o m d g;simp only[List.nil_append]at hF⊢;refine a5 (aN (bR c)) AU 200 _ _ _ Jt ?_;walk_nrm
  repeat w_go aZ.on
  u_in aZ.on hF
  refine goes_leave0 rfl rfl func52 rfl ⟨FQ,?_⟩;refine Goes.stop (fun i g=>⟨rfl,fun p d=>?_⟩);replace hF:=hF.on g;have y:iM (ah (aE c)) M n (ck M [(j,Obj.cells #[.int .i64 0,.int .i64 0,.int .i64 0] 187)]) i:=⟨fun _ h=>.inl h,hF.rw,aZ.tV hF⟩;exact hK [] (ck M [(j,Obj.cells #[.int .i64 0,.int .i64 0,.int .i64 0] 187)]) i (B.trans y) (D.step E y) i p (aZ.tV hF) (Nat.le_trans cj (xH (c:=c) (l:=⟨.idle,false,0,f+1,.aR .free []⟩) d))
 ·skip
  have hF:aZ (ah (aE c)) M a [] L:=z;clear z;generalize a=n at hF B;have D:qx c7 [] M n:=fun x O=>AU;simp only[gn];rw[<-jo (M:=M)];refine a5 (aN (bR c)) AU 200 _ _ _ Jt ?_;walk_nrm
  repeat w_go aZ.on
  refine g6 rfl hF fun i g p d a C m o hF=>?_;refine tU AU K rfl hF (stepG_value (v:=.pointer (some ⟨a.heap.size,0,none⟩)) (w':=a.alloc (Obj.cells #[.int .i64 0,.int .i64 0,.int .i64 0] 187)) rfl rfl Bc BD) rfl Bb (fun k=>?_);clear hF;have hF:=k;clear k o m d g;generalize a.heap.size=j at hF⊢;generalize a.alloc (Obj.cells #[.int .i64 0,.int .i64 0,.int .i64 0] 187)=w3 at hF⊢;refine a5 (aN (bR c)) AU 200 _ _ _ Jt ?_;walk_nrm
  repeat w_go aZ.on
  refine g6 rfl hF fun i g p d a C m o hF=>?_;have s:=hF.cV (j,.cells #[.int .i64 0,.int .i64 0,.int .i64 0] 187) Aa;refine Do AU rfl (pre:=[]) (post:=[]) hF (stepG_none (w':=a.setRow j #[.int .i64 (T:Int),.int .i64 (fr T:Int),.int .i64 (aL T:Int)]) rfl rfl Bc (sM s ⟨rfl,rfl,rfl⟩ rfl rfl rfl).1) rfl (fun e F=>?_) (fun k=>?_)
  ·have H:=mem_listed F;rw[(sM s ⟨rfl,rfl,rfl⟩ rfl rfl rfl).2]at H;grind
  clear hF;have hF:=k;clear k s o m d g;simp only[List.nil_append]at hF⊢;refine a5 (aN (bR c)) AU 200 _ _ _ Jt ?_;walk_nrm
  iterate 4 w_go aZ.on
  refine Goes.stop (fun i g=>⟨rfl,fun p d=>?_⟩);replace hF:=hF.on g;have y:iM (ah (aE c)) M n (ck M [(j,Obj.cells #[.int .i64 (T:Int),.int .i64 (fr T:Int),.int .i64 (aL T:Int)] 187)]) i:=⟨fun _ h=>.inl h,hF.rw,aZ.tV hF⟩;have hl:=aq2 Q E N V hK c.N;simp only[f52,Option.getD_some,ba.cS]at hl;exact hl [] (ck M [(j,Obj.cells #[.int .i64 (T:Int),.int .i64 (fr T:Int),.int .i64 (aL T:Int)] 187)]) i j T _ _ _ _ _ _ _ _ _ _ _ _ _ _ _ _ _ _ Aa P (.inr Aa) (hF.cV (j,Obj.cells #[.int .i64 (T:Int),.int .i64 (fr T:Int),.int .i64 (aL T:Int)] 187) Aa) (B.trans y) (D.step E y) i p (aZ.tV hF)
end
end
end jn
end Go.Proofs.YtoehnnefaeoeoaaGreat
