import Derived.Conc.CompanyDraw
import Derived.Test.YtebcnmadaaimoaaGreatPAD
set_option linter.all false
set_option maxRecDepth 100000
set_option maxHeartbeats 16000000
namespace Go.Proofs.YtebcnmadaaimoaaGreat
open Go.Proofs.Tryz
namespace ix
open Conc az bo ag
structure cy(Z:e_) where
 l:Z.Lo
 mine:Nat->Prop
 S:aL->Z.aN->Prop
variable{i n:Nat}{a:Act}{v:Value}
section
variable{Z:e_}{Q:cf}{Stop:Bool->Z.Lo->aX->Prop}{m:Bool}{b:Frame}{k:fC}{cs:dZ}{ops:du}{md:Region.Mode}
def sW(σ:cy Z):Prop:=∀w γ w' ai g,σ.S w γ->Z.dO σ.l γ ai->dP Z σ.l ai ⟨g,w,σ.mine⟩ w'->σ.S w' ai
def amk(σ:cy Z)(γ:Z.aN)(w' w1:aL)(es:uaq)(bx:cy Z):Prop:=
 bx.mine=grown σ.mine w' w1/\lF Z σ.mine w' w1/\
 ((bx.l=σ.l/\bx.S w1 γ/\(∀b,b<w'.heap.size->Z.hX b->w1.heap[b]?=w'.heap[b]?)/\oE Z σ.l (grown σ.mine w' w1) (Z.deaf σ.l) es.toList/\¬ ∃e∈es,uX Z e)\/
  (∃bF,bx.S w1 bF/\(∃e∈es,uX Z e)/\Z.tN bF w1/\Cs Z σ.l γ bx.l bF/\Says Z σ.l bx.l (grown σ.mine w' w1) es/\(∀la,Z.oD la γ->Z.oD la bF)/\¬Z.Left bx.l))
variable(Q Stop m b k cs ops) in
def rY(todo:e8)(σ:cy Z)(a:Act):Prop:=∀w γ,σ.S w γ->bg Z Q Stop m σ.l γ ⟨G (b.at a (.inRegion ops todo::k)) cs,w,σ.mine⟩
variable(Q b) in
def CD(o:Oper)(σ:cy Z)(a:Act)(K:cy Z->Act->Prop):Prop:=
 ∀w γ w' ai g,σ.S w γ->Z.dO σ.l γ ai->dP Z σ.l ai ⟨g,w,σ.mine⟩ w'->∃u w1 bx,((execOp a.eval o).run Q w'=.ok (.value u) w1\/((execOp a.eval o).run Q w'=.ok .skip w1/\u=undef))/\amk σ ai w' w1 (listed Q b.fn a o w') bx/\K bx (a.put o.dst u)
variable(Q Stop m) in
def jw(f:uaj)(args:df)(σ:cy Z)(V:Value->cy Z->Prop):Prop:=
 ∀(a2:Frame)(aF:Act)(aC:du)(aJ:Nat)(aO:e8)(aH:fC)(csZ:dZ),
  (∀u bx,V u bx->∀w γ,bx.S w γ->bg Z Q Stop m bx.l γ ⟨G (a2.at (aF.put ((aC[aJ]?).bind (·.dst)) u) (.inRegion aC aO::aH)) csZ,w,bx.mine⟩)->
  ∀w γ,σ.S w γ->bg Z Q Stop m σ.l γ ⟨G (Frame.enter Q f args .normal) (a2.at aF (.inRegion aC (aJ::aO)::aH)::csZ),w,σ.mine⟩
def FZ(c:Frame):Ending->Frame
 | .returned v=>c.finish v
 | .panicked l=>c.raise l
 | .outgrown=>c
variable(Q Stop m) in
def F0(f:uaj)(args:df)(σ:cy Z)(V:Ending->cy Z->Prop):Prop:=
 ∀(a2:Frame)(aF:Act)(aC:du)(aJ:Nat)(aO:e8)(aH:fC)(csZ:dZ),
  (∀e bx,V e bx->∀w γ,bx.S w γ->bg Z Q Stop m bx.l γ ⟨G (FZ (a2.at aF (.inRegion aC (aJ::aO)::aH)) e) csZ,w,bx.mine⟩)->
  ∀w γ,σ.S w γ->bg Z Q Stop m σ.l γ ⟨G (Frame.enter Q f args .normal) (a2.at aF (.inRegion aC (aJ::aO)::aH)::csZ),w,σ.mine⟩
def F0.ret{f:uaj}{args:df}{σ:cy Z}{V:Ending->cy Z->Prop}{nf:Value->cy Z->Prop}(h:F0 Q Stop m f args σ V)(c:∀e a,V e a->∃v,e=.returned v/\nf v a):jw Q Stop m f args σ nf:=by intro a2 aF aC aJ aO aH csZ hK;refine h a2 aF aC aJ aO aH csZ λe a hv w γ hS=>?_;obtain⟨v,rfl,b⟩:=c e a hv;rw[FZ,vct];exact hK v a b w γ hS
variable(Q Stop m b) in
def RU(o:Oper)(σ:cy Z)(a:Act)(K:cy Z->Act->Prop):Prop:=
 ∃f args V,(∀w γ w' ai g,σ.S w γ->Z.dO σ.l γ ai->dP Z σ.l ai ⟨g,w,σ.mine⟩ w'->(execOp a.eval o).run Q w'=.ok (.enter f args) w'/\oE Z σ.l σ.mine (Z.deaf σ.l) (listed Q b.fn a o w').toList/\¬ ∃e∈listed Q b.fn a o w',uX Z e)/\jw Q Stop m f args σ V/\∀u bx,V u bx->K bx (a.put o.dst u)
variable(Q Stop m b k cs ops) in
def RV(o:Oper)(σ:cy Z)(a:Act):Prop:=
 ∃f args,(∀w γ w' ai g,σ.S w γ->Z.dO σ.l γ ai->dP Z σ.l ai ⟨g,w,σ.mine⟩ w'->(execOp a.eval o).run Q w'=.ok (.enter f args) w'/\oE Z σ.l σ.mine (Z.deaf σ.l) (listed Q b.fn a o w').toList/\¬ ∃e∈listed Q b.fn a o w',uX Z e)/\
  ∀(a':Act)(i:Nat)(rest:e8),a'.defers=a.defers->∀w γ,σ.S w γ->bg Z Q Stop m σ.l γ ⟨G (Frame.enter Q f args .normal) (b.at a' (.inRegion ops (i::rest)::k)::cs),w,σ.mine⟩
variable(Q Stop m b k cs ops) in
def ng(i:Nat)(σ:cy Z)(a:Act)(K:cy Z->Act->Prop):Prop:=
 match ops[i]? with
 |none=>False
 |some o=>if Region.wanted o (yielded ops a.tmps)then CD Q b o σ a K\/RU Q Stop m b o σ a K\/RV Q Stop m b k cs ops o σ a else K σ (a.put o.dst undef)
theorem ng.mono{σ:cy Z}{K K':cy Z->Act->Prop}(h:ng Q Stop m b k cs ops i σ a K)(hk:∀σ a,K σ a->K' σ a):ng Q Stop m b k cs ops i σ a K':=by
 unfold ng at *;split
 .simp_all
 .rename_i o l;simp[l]at h;split
  .rename_i j;simp[j]at h;rcases h with h|⟨f,args,V,d,c,e⟩|h
   .refine .inl λw γ w' n g d c e=>?_;obtain⟨u,w1,r,r1,q,p⟩:=h w γ w' n g d c e;grind
   .exact .inr (.inl ⟨f,args,V,d,c,AF⟩)
   .exact .inr (.inr h)
  grind
def aml(n:∀l g g1,¬Z.pa l g g1)(hk:b.kind≠ .early){rest:e8}{σ:cy Z}(hst:sW σ)(h:ng Q Stop m b k cs ops i σ a (λp a1=>rY Q Stop m b k cs ops rest p a1)):rY Q Stop m b k cs ops (i::rest) σ a:=by
 intro w γ hS;unfold ng at h;split at h
 .grind
 .rename_i o s;split at h
  .rename_i r;refine bg.mk U λw' c d j=>?_;rcases h with h|⟨f,args,V,x,v,M⟩|⟨f,args,x,v⟩;rotate_left
   rotate_left
   .obtain⟨r1,E,q⟩:=x w γ w' c _ hS d j;refine .quiet (stepG_enter s r hk r1) ⟨U,pW _ _ _,AF,by grind[kC],λe=>e.elim q (n _ _ _)⟩ ?_;rw[kC U];exact v a i rest U w' c (hst w γ w' c _ hS d j)
   rotate_left
   .obtain⟨r1,E,q⟩:=x w γ w' c _ hS d j;refine .quiet (stepG_enter s r hk r1) ⟨U,pW _ _ _,AF,by grind[kC],λe=>e.elim q (n _ _ _)⟩ ?_;rw[kC U];refine v b a ops i rest k cs (λu p hv C F N=>?_) w' c (hst w γ w' c _ hS d j);have:=M u p hv C F N;grind
   obtain⟨u,w1,p,hrun,⟨P,A,K⟩,hK⟩:=h w γ w' c _ hS d j;have hs:stepG Q m (G (b.at a (.inRegion ops (i::rest)::k)) cs) w'=.go (G (b.at (a.put o.dst u) (.inRegion ops rest::k)) cs) w1 (listed Q b.fn a o w'):=by grind[stepG_value,stepG_none]
   rcases K with⟨R,z,L,I,t⟩|⟨bF,z,J,H,B,y,D,O⟩
   .refine .quiet hs ⟨U,A,L,I,λe=>e.elim t (n _ _ _)⟩ ?_;have:=hK w1 c z;grind
   .refine .turn hs ⟨U,.inl J,A,H,B,y,.inr D⟩ AF ?_;have:=hK w1 bF z;grind
  .rename_i r;refine bg.mk U λw' c d j=>?_;have hs:stepG Q m (G (b.at a (.inRegion ops (i::rest)::k)) cs) w'=.go (G (b.at (a.put o.dst undef) (.inRegion ops rest::k)) cs) w' #[]:=stepG_unwanted s AF;refine .quiet hs ⟨U,pW _ _ _,AF,NE,λe=>e.elim AF (n _ _ _)⟩ ?_;rw[kC U];exact h w' c (hst w γ w' c _ hS d j)
variable(Q Stop m b k cs md ops) in
def rZ(C:cy Z->Prop)(iy:cy Z->Act->Prop):Nat->Array Bool->cy Z->Act->Prop
 |0,au,σ,a=>Region.ready md ops au=[]/\iy σ a
 |n+1,au,σ,a=>(Region.ready md ops au=[]->iy σ a)/\∀i∈Region.ready md ops au,ng Q Stop m b k cs ops i σ a (λbx a1=>C bx/\rZ C iy n (au.setIfInBounds i true) bx a1)
def amn(f:∀l g g1,¬Z.pa l g g1)(hk:b.kind≠ .early){C:cy Z->Prop}(j:∀σ,C σ->sW σ){iy:cy Z->Act->Prop}(hK:∀σ a,C σ->iy σ a->rY Q Stop m b k cs ops [] σ a):
 ∀(n t:Nat)(au:uat)(σ:cy Z)(a:Act),C σ->rZ Q Stop m b k cs ops md C iy n au σ a->rY Q Stop m b k cs ops (Region.linearise.go md ops n t au []) σ a:=by
 intro n;induction n with
 |zero=>intro t au σ a d h;simpa[Region.linearise.go]using hK σ a d h.2
 |succ n p=>
  intro t au σ a d h;obtain⟨e,c⟩:=h;simp only[Region.linearise.go];change rY Q Stop m b k cs ops (match(Region.ready md ops au)[t % (Region.ready md ops au).length]? with
   |some i=>Region.linearise.go md ops n (t / (Region.ready md ops au).length) (au.setIfInBounds i true) [i]
   |none=>[].reverse) σ a
  cases hi:(Region.ready md ops au)[t % (Region.ready md ops au).length]? with
  |none=>
   have o:Region.ready md ops au=[]:=by cases q:Region.ready md ops au with|nil=>rfl|cons x xs=>grind[Nat.mod_lt]
   grind
  |some i=>simp only[];rw[linearise_go_acc,List.reverse_singleton,List.singleton_append];exact aml f hk (j σ d) ((c i (vco hi)).mono AF)
variable(Q b ops) in
def nV(C:cy Z->Prop)(o:Oper)(v:Value)(a:Act):Prop:=
 (Region.wanted o (yielded ops a.tmps)=true/\∀σ,C σ->∀w γ w' ai g,σ.S w γ->Z.dO σ.l γ ai->dP Z σ.l ai ⟨g,w,σ.mine⟩ w'->(execOp a.eval o).run Q w'=.ok (.value v) w'/\oE Z σ.l σ.mine (Z.deaf σ.l) (listed Q b.fn a o w').toList/\¬ ∃e∈listed Q b.fn a o w',uX Z e)\/
 (Region.wanted o (yielded ops a.tmps)=false/\v=undef)
def nV.F1{C:cy Z->Prop}{o:Oper}{a':Act}(c:nV Q b ops C o v a)(e:execOp a'.eval o=execOp a.eval o)(d:Region.wanted o (yielded ops a'.tmps)=Region.wanted o (yielded ops a.tmps)):nV Q b ops C o v a':=by
 grind[nV,listed]
def nV.Y3{C:cy Z->Prop}{o:Oper}{σ:cy Z}(hi:ops[i]?=some o)(n:nV Q b ops C o v a)(p:C σ)(hst:sW σ){K:cy Z->Act->Prop}(h:K σ (a.put o.dst v)):ng Q Stop m b k cs ops i σ a K:=by
 unfold ng;simp[hi];rcases n with⟨c,hv⟩|⟨c,rfl⟩
 .simp[c];refine .inl λw γ w' j g f e d=>?_;obtain⟨r1,q,l⟩:=hv σ p w γ w' j g f e d;have hg:grown σ.mine w' w'=σ.mine:=kC U;exact⟨v,w',σ,.inl r1,⟨hg.symm,pW _ _ _,.inl ⟨U,hst w γ w' j g f e d,AF,AF,l⟩⟩,h⟩
 grind
def amo{C:cy Z->Prop}{j:Nat}{cw oj:Oper}(D:ops[j]?=some oj)(z:cw.apart ops oj=true)(E:∀cs b,cw.op≠ .select cs b)(s:∀cs b,oj.op≠ .select cs b){K:cy Z->Act->Prop}{σ:cy Z}(q:nV Q b ops C cw v a)(h:ng Q Stop m b k cs ops j σ (a.put cw.dst v) K):
 ng Q Stop m b k cs ops j σ a (λr a1=>nV Q b ops C cw v a1/\K r (a1.put cw.dst v)):=by
 obtain⟨l,H,x⟩:=Oper.apart_spec z;have keep:∀(a:Act),nV Q b ops C cw v a->∀u,nV Q b ops C cw v (a.put oj.dst u):=λa q u=>
  q.F1 (execOp_put cw E a oj.dst u x) (wanted_put cw a oj.dst u x)
 unfold ng at *;simp only[D]at *;rw[wanted_put oj a cw.dst v l]at h;split
 .rename_i B;simp[B]at h;rcases h with h|⟨f,args,V,d,c,t⟩|⟨f,args,d,c⟩
  .refine .inl λw γ w' e g d c t=>?_;obtain⟨u,w1,r,r1,y,F⟩:=h w γ w' e g d c t;unfold listed at *;rw[execOp_put oj s a cw.dst v l]at r1 y;grind[Act.put_comm]
  .refine .inr (.inl ⟨f,args,V,λw γ w' e g p o n=>?_,c,λu r hv=>⟨keep a q u,by grind[Act.put_comm]⟩⟩);have r1:=d w γ w' e g p o n;unfold listed at *;rw[execOp_put oj s a cw.dst v l]at r1;exact r1
  .refine .inr (.inr ⟨f,args,λw γ w' e g p o n=>?_,λa' i rest hd=>c a' i rest (by cases A:cw.dst<;>simp[Act.put,A,hd])⟩)
   have r1:=d w γ w' e g p o n;unfold listed at *;rw[execOp_put oj s a cw.dst v l]at r1;exact r1
 grind[Act.put_comm]
def amp{C:cy Z->Prop}(q:∀σ,C σ->sW σ){iy:cy Z->Act->Prop}{cw:Oper}(hi:ops[i]?=some cw)(K:∀(j:Nat)(o:Oper) cs b,ops[j]?=some o->o.op≠ .select cs b):
 ∀(n:Nat)(au:uat)(σ:cy Z)(a:Act),
  (∀j oj,ops[j]?=some oj->j≠i->au.getD j true=false->(∀e∈oj.after,Region.binds md e=true->e.on≠i)->cw.apart ops oj=true)->
  i∈Region.ready md ops au->nV Q b ops C cw v a->C σ->
  rZ Q Stop m b k cs ops md C iy n (au.setIfInBounds i true) σ (a.put cw.dst v)->rZ Q Stop m b k cs ops md C iy (n+1) au σ a:=by
 intro n;induction n with
 |zero=>
  intro au σ a _ p f c H;refine⟨AF,λj g=>?_⟩;by_cases d:j=i
  .subst d;exact f.Y3 hi c (q σ c) ⟨c,H⟩
  .have:=ready_mono g d;rw[H.1]at this;grind
 |succ n r=>
  intro au σ a y p f c H;refine⟨AF,λj g=>?_⟩;by_cases d:j=i
  .subst d;exact f.Y3 hi c (q σ c) ⟨c,H⟩
  .have u:=H.2 j (ready_mono g d);obtain⟨x,oj,A,J⟩:=mem_ready.1 g;have E:∀e∈oj.after,Region.binds md e=true->e.on≠i:=λe F I s=>by grind[mem_ready]
   have t:=amo A AF AF AF f u;have z:∀k ok,ops[k]?=some ok->k≠i->(au.setIfInBounds j true).getD k true=false->
    (∀e∈ok.after,Region.binds md e=true->e.on≠i)->cw.apart ops ok=true:=λk ok hk B L h=>by
    refine y k ok hk B ?_ h;by_cases D:j=k
    .grind
    simp_all
   refine t.mono λw a1 l=>⟨l.2.1,r (au.setIfInBounds j true) w a1 z (ready_mono p (Ne.symm d)) l.1 l.2.1 ?_⟩;grind[Array.setIfInBounds_comm]
def iR{C:cy Z->Prop}(f:∀σ,C σ->sW σ){iy:cy Z->Act->Prop}{cw:Oper}{au:uat}{σ:cy Z}(hi:ops[i]?=some cw)(hs:Region.noSelect ops=true)(d:Region.free md ops au i=true)(g:(Region.ready md ops au).contains i=true)(c:nV Q b ops C cw v a)(e:C σ)(h:rZ Q Stop m b k cs ops md C iy n (au.setIfInBounds i true) σ (a.put cw.dst v)):rZ Q Stop m b k cs ops md C iy (n+1) au σ a:=
 amp f hi (Region.noSelect_spec hs) n au σ a (Region.free_spec hi d) AF c e h
def R2{C:cy Z->Prop}{iy:cy Z->Act->Prop}{rs:e8}{au:uat}{σ:cy Z}(d:Region.ready md ops au=rs)(e:rs≠[])(h:∀i∈rs,ng Q Stop m b k cs ops i σ a (λc a1=>C c/\rZ Q Stop m b k cs ops md C iy n (au.setIfInBounds i true) c a1)):rZ Q Stop m b k cs ops md C iy (n+1) au σ a:=
 ⟨AF,d▸h⟩
def yi{C:cy Z->Prop}{iy:cy Z->Act->Prop}{au:uat}{σ:cy Z}(c:Region.ready md ops au=[])(h:iy σ a):∀n,rZ Q Stop m b k cs ops md C iy n au σ a
 |0=>⟨c,h⟩
 | _+1=>⟨λ_=>h,AF⟩
def AH(i:∀l g g1,¬Z.pa l g g1)(hk:b.kind≠ .early)(p:Q.follows .mixedOrders=true){C:cy Z->Prop}(j:∀σ,C σ->sW σ)(d:∀σ,C σ->∀w γ,σ.S w γ->σ.S {w with drawn:=w.drawn+1} γ){iy:cy Z->Act->Prop}(hK:∀σ a,C σ->iy σ a->rY Q Stop m b k cs ops [] σ a){id:Nat}{σ:cy Z}(c:C σ)(h:rZ Q Stop m b k cs ops .any C iy ops.size (Array.replicate ops.size false) σ a)(w:aL)(γ:Z.aN)(hS:σ.S w γ):
 bg Z Q Stop m σ.l γ ⟨G (b.at a (.code (.region id ops true)::k)) cs,w,σ.mine⟩:=by
 refine bg.mk U λw' f n o=>?_;refine .quiet stepG_region_draw ⟨U,⟨AF,vac _,.refl _,U,U⟩,AF,NE,λe=>e.elim AF (i _ _ _)⟩ ?_;rw[kC (w:=w') (w1:={w' with drawn:=w'.drawn+1}) U];simp only[Region.schedule,p,Bool.true_or,vdg];exact amn i hk j hK ops.size _ _ σ a c h _ f (d σ c w' f (j σ c w γ w' f _ hS n o))
end
section
section
variable{Z:e_}{Q:cf}{Stop:Bool->Z.Lo->aX->Prop}{m:Bool}{l:Z.Lo}{γ:Z.aN}{X:aX}{w':aL}
def F2(Z:e_)(mine:c7)(e:Event):Prop:=
 match e.loc with
 | .cell a=>e.sync=false/\((Z.K a.block/\e.write=false)\/mine a.block)
 | .obj r=>e.sync=false/\((Z.K r/\e.write=false)\/mine r)
 | .mark .noRoom| .mark (.extern _)=>True
 | _=>False
def R3(t:∀l g g1,¬Z.pa l g g1)(u:Z.past l=false){g1:uai}{w1:aL}{es:uaq}(hs:stepG Q m X.g w'=.go g1 w1 es)(hrun:g1.status=.running)(hk:∀b,b<w'.heap.size->¬X.mine b->w1.heap[b]?=w'.heap[b]?)(hsz:w'.heap.size<=w1.heap.size)(k:w1.os=w'.os)(s:w1.output=w'.output)(q:w1.tape=w'.tape)(p:∀b,grown X.mine w' w1 b->¬Z.hX b)(c:∀e∈es,F2 Z (grown X.mine w' w1) e)(h:bg Z Q Stop m l γ ⟨g1,w1,grown X.mine w' w1⟩):Then (Z:=Z) Q Stop m l γ X w':=by
 refine .quiet hs ⟨hrun,⟨AF,hsz,by rw[k];exact .refl _,s,q⟩,λb j hS=>hk b j λn=>p b (.inl n) hS,AE _ _ λe i d=>?_,?_⟩ h
 .have:=c e AF;unfold F2 at this;unfold tO;cases o:e.loc with
  |cell a=>grind
  |obj r=>grind
  |mark mk=>rw[o]at this;cases mk<;>first|exact .inl this|grind
  |output=>trivial
  |goroutines=>grind
 .rintro(⟨e,i,f⟩|h)
  .have:=c e i;unfold F2 at this;rcases f with h|h|⟨a,h⟩|⟨a,h⟩|⟨f,b,j,hS⟩
   .grind
   .grind
   .grind
   .grind
   grind[fq]
  grind
end
end
end ix
namespace gi
open Conc ConcM az bo ag ix
variable{es:uaq}{g g1:uai}
section
section
variable{Z:e_}{Q:cf}{Stop:Bool->Z.Lo->aX->Prop}{m:Bool}{l:Z.Lo}{γ:Z.aN}
def tO.more{M M':c7}(h:∀b,M b->M' b){d:Nat}{e:Event}(k:tO Z l M d e):tO Z l M' d e:=by grind[tO]
theorem oE.more{M M':c7}(h:∀b,M b->M' b):∀{es:ubj}{d:Nat},oE Z l M d es->oE Z l M' d es
 | [],_,_=>trivial
 | _::_,_,k=>⟨tO.more h k.1,oE.more h k.2⟩
def CF{M M':c7}(h:∀b,M b->M' b)(w w1:aL):∀b,grown M w w1 b->grown M' w w1 b:=λ_ k=>k.imp (h _) id
def lF.more{M M':c7}(h:∀b,M b->M' b){w w1:aL}(k:lF Z M w w1):lF Z M' w w1:=
 ⟨λb c d a=>k.kept b c AF a,k.size,k.os,k.output,k.tape⟩
theorem Says.more{M M':c7}(h:∀b,M b->M' b){l1:Z.Lo}(k:Says Z l l1 M es):Says Z l l1 M' es:=by
 rcases k with⟨d,c,k3,a⟩|k|k|k
 .exact .inl ⟨d,c,k3,oE.more h a⟩
 .exact .inr (.inl k)
 .exact .inr (.inr (.inl k))
 .exact .inr (.inr (.inr k))
theorem bg.more(hS:∀m l g w M M',(∀b,M b->M' b)->Stop m l ⟨g,w,M⟩->Stop m l ⟨g,w,M'⟩){X:aX}(h:bg Z Q Stop m l γ X):∀{M':c7},(∀b,X.mine b->M' b)->bg Z Q Stop m l γ ⟨X.g,X.w,M'⟩:=by
 induction h with
 |stop h=>exact λd=>.stop (hS _ _ _ _ _ _ d h)
 |@step m l γ X hs ch ok hq t s u r p o x=>
  intro M' d;have j:∀{w' f},dP Z l f ⟨X.g,X.w,M'⟩ w'->dP Z l f X w':=λa=>⟨⟨λb v=>a.rely.heap b AF,a.rely.size,a.rely.env⟩,a.mt,a.sees,a.later,a.output,a.tape⟩;refine .step hs ch (λw' f i a=>?_) (λw' f g1 w1 es i a e hrun k=>r w' f g1 w1 es i (j a) e hrun k (CF d w' w1)) (λw' f g1 w1 es i a e k=>p w' f g1 w1 es i (j a) e k (CF d w' w1)) (λw' f g1 c w1 es i a e=>o w' f g1 c w1 es i (j a) e (CF d w' w1)) AF;rcases ok w' f i (j a)with⟨g1,w1,es,e,q⟩|⟨g1,w1,es,e,q,n⟩|h|⟨em,g1,c,w1,es,e,q⟩
  .exact .inl ⟨g1,w1,es,e,q.run,lF.more d q.keep,q.sh,oE.more (CF d w' w1) q.evs,q.low⟩
  .exact .inr (.inl ⟨g1,w1,es,e,⟨q.run,q.Mx,lF.more d q.keep,q.mt,q.AD,Says.more (CF d w' w1) q.says,q.I0⟩,λh=>⟨(n h).1,hS _ _ _ _ _ _ (CF d w' w1) (n h).2⟩⟩)
  .exact .inr (.inr (.inl h))
  .exact .inr (.inr (.inr ⟨em,g1,c,w1,es,e,⟨q.run,q.YK,lF.more d q.keep,q.mt,q.a6,q.AD,oE.more (CF d w' w1) q.evs,q.deaf,q.tok,q.past,q.I0,q.stays⟩⟩))
def cj(mine:c7)(bs:uao)(b:Nat):Prop:=mine b\/b∈bs.map (·.1)
structure af(Z:e_)(mine:c7)(w0:aL)(bs:uao)(w:aL):Prop where
 rw:ak Z mine w0 w
 cW:∀x∈bs,w.heap[x.1]?=some x.2
 lt:∀b,Z.K b\/mine b\/Z.hX b->b<w.heap.size
 eV:∀b,Z.K b\/cj mine bs b->¬Z.hX b
 sX:∀b∈bs.map (·.1),¬(Z.K b\/mine b)
 iI:(bs.map (·.1)).Nodup
 vd:∀b,mine b->¬Z.K b
variable{mine:c7}{w0:aL}{bs:uao}{w w1:aL}
def af.on(h:af Z mine w0 bs w)(r:ak Z (cj mine bs) w w1):af Z mine w0 bs w1:=
 ⟨h.rw.trans ⟨λb a=>r.heap b (a.imp id .inl),r.size,r.later,r.output,r.tape⟩,λx c=>(r.heap x.1 (.inr (.inr AF))).trans (h.cW x c),λb a=>vap (h.lt b a) r.size,h.eV,h.sX,h.iI,h.vd⟩
def fN{X:Z.aN->Prop}{n:Nat}(hs:g.status=.running)(hF:af Z mine w0 bs w)(h:∀b,ak Z (cj mine bs) w b->∀e,X e->∀a d,Z.dO l e d->dP Z l d ⟨g,b,cj mine bs⟩ a->af Z mine w0 bs a->Then Q Stop m l d ⟨g,b,cj mine bs⟩ a):
 Goes Q m (ak Z (cj mine bs)) Go.ConcR.DC0 (λg w=>g.status=.running/\∀i,X i->bg Z Q Stop m l i ⟨g,w,cj mine bs⟩) n g w:=
 vah λb c=>⟨hs,λe k=>bg.mk hs λa d j f=>h b c e k a d j f ((hF.on c).on (dP.rw f))⟩
def af.start(hK:∀b,Z.K b\/mine b\/Z.hX b->b<w.heap.size)(c:∀b,Z.K b\/mine b->¬Z.hX b)(hd:∀b,mine b->¬Z.K b):af Z mine w [] w:=
 ⟨.refl _ _ _,Ab,hK,λb a=>c b (a.imp id (λx=>x.elim id Ab)),Ab,Ab,hd⟩
def cj.cons{b0:Nat}{o:Obj}:(λb=>cj mine bs b\/b=b0)=cj mine ((b0,o)::bs):=by grind[cj]
def R5(M:c7)(w:aL)(o:Obj):grown M w (w.alloc o)=λb=>M b\/b=w.heap.size:=by grind[grown,World.alloc]
def CG{o:Obj}{b:Nat}(h:b<w.heap.size):(w.alloc o).heap[b]?=w.heap[b]?:=by show(w.heap.push o)[b]?=_;grind
def amt{o:Obj}:(w.alloc o).heap[w.heap.size]?=some o:=by show(w.heap.push o)[w.heap.size]?=_;grind
def amu{o:Obj}:(w.alloc o).heap.size=w.heap.size+1:=by simp_all
def af.R6(h:af Z mine w0 bs w){b:Nat}(c:b∈bs.map (·.1)):b<w.heap.size:=by obtain⟨x,a,rfl⟩:=vbl.1 c;have:=h.cW x a;grind
theorem af.alloc(h:af Z mine w0 bs w)(d:∀b,Z.K b->¬Z.hX b)(o:Obj):af Z mine w0 ((w.heap.size,o)::bs) (w.alloc o):=by
 have hn:∀b,Z.K b\/mine b\/Z.hX b->b≠w.heap.size:=λb a=>Nat.ne_of_lt (h.lt b a);refine⟨h.rw.trans ⟨λb a=>CG (h.lt b AF),Bc,.refl _,U,U⟩,λx c=>?_,λb a=>by rw[amu];have:=h.lt b a;omega,λb a hs=>?_,λb a=>?_,?_,h.vd⟩
 .rcases vbo.1 c with rfl|c
  .exact amt
  .rw[CG (h.R6 AF)];exact h.cW x c
 .rcases a with a|a|a
  .grind
  .exact h.eV b (.inr (.inl a)) hs
  .rcases vbo.1 a with rfl|a
   .grind
   .exact h.eV b (.inr (.inr a)) hs
 .rcases vbo.1 a with rfl|a
  .grind
  .exact h.sX b a
 .simp only[vcy,List.nodup_cons];exact⟨λe=>Nat.lt_irrefl _ (h.R6 e),h.iI⟩
def tX(i:∀l g g1,¬Z.pa l g g1)(e:∀b,Z.K b->¬Z.hX b)(j:Z.past l=false){o:Obj}(hk:af Z mine w0 bs w)(hs:stepG Q m g w=.go g1 (w.alloc o) es)(hrun:g1.status=.running)(k:es=#[]){d:aL}(h:af Z mine w0 ((w.heap.size,o)::bs) (w.alloc o)->bg Z Q Stop m l γ ⟨g1,w.alloc o,cj mine ((w.heap.size,o)::bs)⟩):Then (Z:=Z) Q Stop m l γ ⟨g,d,cj mine bs⟩ w:=by
 have f:=hk.alloc e o;have hg:grown (cj mine bs) w (w.alloc o)=cj mine ((w.heap.size,o)::bs):=by rw[R5];exact cj.cons
 refine R3 i j hs hrun (λb a _=>CG a) Bc U U U ?_ AF ?_
 .intro b a hS;have c:grown (cj mine bs) w (w.alloc o) b:=a;rw[hg]at c;exact f.eV b (.inr c) hS
 grind
def sY(d:∀l g g1,¬Z.pa l g g1)(f:Z.past l=false){M:c7}(c:∀b,M b->¬Z.hX b)(hs:stepG Q m g w=.go g1 w es)(hrun:g1.status=.running)(i:∀e∈es,F2 Z M e){a:aL}(h:bg Z Q Stop m l γ ⟨g1,w,M⟩):Then (Z:=Z) Q Stop m l γ ⟨g,a,M⟩ w:=by
 have hg:grown M w w=M:=kC U;refine R3 d f hs hrun AF Jb U U U (λb k=>c b ?_) (λe j=>?_) ?_
 .simp_all
 .grind
 grind
def af.write(h:af Z mine w0 bs w){b:Nat}{bs':uao}(i:b∈bs.map (·.1))(c:bs'.map (·.1)=bs.map (·.1))(f:∀x∈bs',w1.heap[x.1]?=some x.2)(a:∀k,k≠b->w1.heap[k]?=w.heap[k]?)(hsz:w1.heap.size=w.heap.size)(d:w1.os=w.os)(g:w1.output=w.output)(ht:w1.tape=w.tape):af Z mine w0 bs' w1:=by
 have j:cj mine bs'=cj mine bs:=by grind[cj]
 refine⟨h.rw.trans ⟨λk hk=>a k λe=>h.sX b i (e▸hk),AF,by rw[d];exact .refl _,g,ht⟩,f,λk hk=>by rw[hsz];exact h.lt k hk,by rw[j];exact h.eV,by rw[c];exact h.sX,by rw[c];exact h.iI,h.vd⟩
def amv(n:∀l g g1,¬Z.pa l g g1)(p:Z.past l=false)(hk:af Z mine w0 bs w)(hs:stepG Q m g w=.go g1 w1 es)(hrun:g1.status=.running){b:Nat}{bs':uao}(f:b∈bs.map (·.1))(q:bs'.map (·.1)=bs.map (·.1))(o:∀x∈bs',w1.heap[x.1]?=some x.2)(a:∀k,k≠b->w1.heap[k]?=w.heap[k]?)(hsz:w1.heap.size=w.heap.size)(c:w1.os=w.os)(d:w1.output=w.output)(ht:w1.tape=w.tape)(r:∀e∈es,F2 Z (cj mine bs) e){j:aL}(h:af Z mine w0 bs' w1->bg Z Q Stop m l γ ⟨g1,w1,cj mine bs'⟩):Then (Z:=Z) Q Stop m l γ ⟨g,j,cj mine bs⟩ w:=by
 have s:=hk.write f q o a hsz c d ht;have hg:grown (cj mine bs) w w1=cj mine bs:=kC hsz;have u:cj mine bs'=cj mine bs:=by grind[cj]
 refine R3 n p hs hrun (λk _ i=>a k λe=>i (.inr (e▸f))) AF c d ht (λk i=>hk.eV k (.inr ?_)) (λe t=>?_) ?_
 .simp_all
 .grind
 grind
end
end
end gi
namespace ft
open Conc bo ag
section
section
variable{N:Nat}{rows:uas}{b3:ube}{b:ck}{xs:List At}{i:Nat}{l:uac}
def cT.amG(h:cT N rows b3 b xs)(hi:xs[i]?=some (.work .rel l)):1<=b.aW:=by have a:=h.aW;grind[nY,gA]
def cT.amH(h:cT N rows b3 b xs)(hi:xs[i]?=some (.work .nW l)):b.aW=0/\b.et=true:=by
 have:=nY gG xs i _ hi;simp[gG]at this;obtain⟨s,_,a⟩:=h.main;cases s with
 |sZ=>
  rcases a with⟨m1,_,_,d⟩|⟨_,_,c,_⟩
  .grind
  .omega
 |spawn k q=>have:=a.2.2.1;omega
 |pX=>have:=a.2.2.1;omega
 |over=>have:=a.2.2.2.1;omega
def cT.amI(h:cT N rows b3 b xs)(hi:xs[i]?=some (.work .lb l)):b.gF=0:=by
 have:=nY gT xs i _ hi;simp[gT]at this;obtain⟨s,_,a⟩:=h.main;cases s with
 |sZ=>rcases a with⟨_,_,c,_⟩|⟨_,_,_,d⟩<;>omega
 |spawn k q=>have:=a.2.2.2;omega
 |pX=>have:=a.2.2.2;omega
 |over=>have:=a.2.2.2.2;omega
end
section
variable{c:dy}{l:ag.Lo At}{γ:ag.aN ck}{p:uac}
def vh(h:ij (al (av c)) l γ):∃(xs:List At)(i:Nat),xs[i]?=some l.aj/\cT c.N c.rows c.b3 γ.aj xs:=by obtain⟨ls,i,hi,hg⟩:∃(ls:List (ag.Lo At))(i:Nat),ls[i]?=some l/\tW (av c) γ ls:=h;exact⟨ls.map (·.aj),i,AF,hg.pT⟩
def amJ(h:ij (al (av c)) l γ)(a:l.aj=.work .rel p):1<=γ.aj.aW:=by obtain⟨xs,i,hi,hg⟩:=vh h;rw[a]at hi;exact hg.amG hi
def Zb(h:ij (al (av c)) l γ)(a:l.aj=.work .nW p):γ.aj.aW=0/\γ.aj.et=true:=by obtain⟨xs,i,hi,hg⟩:=vh h;rw[a]at hi;exact hg.amH hi
def amK(h:ij (al (av c)) l γ)(a:l.aj=.work .lb p):γ.aj.gF=0:=by obtain⟨xs,i,hi,hg⟩:=vh h;rw[a]at hi;exact hg.amI hi
end
end
end ft
namespace gi
open Conc ConcM az bo ag ft ix
structure gU where
 T:Nat
 M:Nat
 D:List Value
 L:Option Nat
def gU.of(b:ck):gU:=⟨b.taken,b.came,b.done,b.least⟩
variable{d:gU}{a:Act}
section
variable{c:dy}{Q:cf}{Stop:Bool->ag.Lo At->aX->Prop}{m:Bool}{mine:c7}{w0:aL}
def Held(c:dy)(mine:c7)(w0:aL)(d:gU)(bs:uao)(w:aL)(γ:ag.aN ck):Prop:=af (al (av c)) mine w0 bs w/\gU.of γ.aj=d
def mN(c:dy)(mine:c7)(w0:aL)(d:gU)(l:ag.Lo At)(bs:uao):cy (al (av c)):=⟨l,cj mine bs,Held c mine w0 d bs⟩
def CH(c:dy)(mine:c7)(w0:aL)(d:gU)(l:ag.Lo At)(σ:cy (al (av c))):Prop:=∃bs,σ=mN c mine w0 d l bs
def t2{l:ag.Lo At}(d:l.mx=.own){γ a:ag.aN ck}(b:(al (av c)).dO l γ a):gU.of a.aj=gU.of γ.aj:=by
 rcases b with rfl|⟨_,⟨h,_⟩,_⟩
 .rfl
 .rw[d]at h;obtain⟨i,g,f,e⟩:=h U;grind[gU.of]
theorem Held.on{l:ag.Lo At}(e:l.mx=.own){bs:uao}{w w':aL}{γ a:ag.aN ck}(h:Held c mine w0 d bs w γ)(b:(al (av c)).dO l γ a)(r:ak (al (av c)) (cj mine bs) w w'):Held c mine w0 d bs w' a:=
 ⟨h.1.on r,(t2 e b).trans h.2⟩
def l7{l:ag.Lo At}(e:l.mx=.own):∀σ,CH c mine w0 d l σ->sW σ:=by rintro _ ⟨bs,rfl⟩ w γ w' f g h b a;exact Held.on e h b (dP.rw a)
def Jh{l:ag.Lo At}:∀σ,CH c mine w0 d l σ->∀w γ,σ.S w γ->σ.S {w with drawn:=w.drawn+1} γ:=by rintro _ ⟨bs,rfl⟩ w γ ⟨h,hd⟩;exact⟨⟨h.rw.trans ⟨λ_ _=>U,vac _,.refl _,U,U⟩,h.cW,h.lt,h.eV,h.sX,h.iI,h.vd⟩,hd⟩
variable{b:Frame}{ops:du}
def AN{Z:e_}{C:cy Z->Prop}{o:Oper}{v:Value}(c:Region.wanted o (yielded ops a.tmps)=true)(h:∀w,(execOp a.eval o).run Q w=.ok (.value v) w)(d:∀w,listed Q b.fn a o w=#[]):nV Q b ops C o v a:=
 .inl ⟨c,λσ _ w γ w' e g _ _ _=>⟨h w',by rw[d];exact trivial,AF⟩⟩
def ei{Z:e_}{k:fC}{cs:dZ}{C:cy Z->Prop}{iy:cy Z->Act->Prop}{Stop:Bool->Z.Lo->aX->Prop}{md:Region.Mode}{cw:Oper}{n:Nat}{au:uat}{σ:cy Z}(i:Nat)(v:Value)(h:rZ Q Stop m b k cs ops md C iy n (au.setIfInBounds i true) σ (a.put cw.dst v))(l:∀σ,C σ->sW σ:=by exact l7 U)(j:C σ:=by exact⟨_,U⟩)(hi:ops[i]?=some cw:=by rfl)(hs:Region.noSelect ops=true:=by decide+kernel)(f:Region.free md ops au i=true:=by decide+kernel)(e:(Region.ready md ops au).contains i=true:=by decide+kernel)(d:Region.wanted cw (yielded ops a.tmps)=true:=by rfl)(c:∀w,(execOp a.eval cw).run Q w=.ok (.value v) w:=by intro _;go_simp)(g:∀w,listed Q b.fn a cw w=#[]:=by intro _;simp[listed,go_sem];rfl):rZ Q Stop m b k cs ops md C iy (n+1) au σ a:=
 iR l hi hs f e (AN d c g) j h
def Ji{Z:e_}{C:cy Z->Prop}{o:Oper}(c:Region.wanted o (yielded ops a.tmps)=false):nV Q b ops C o undef a:=.inr ⟨c,U⟩
def AO{mu:bn}{x:ck}{w:aL}(h:w.heap[c.st]?=some (gS (av c) mu x))(k:Nat):w.cell? (.a c.st (k+2))=((av c).cells x)[k]?:=by simp_all[World.cell?,gS]
def t7{l:ag.Lo At}(q:l.mx=.own)(ht:l.tok=true)(n:jx l.aj=false){o:Oper}{v:Value}(k:Nat)(f:Region.wanted o (yielded ops a.tmps)=true)(hv:∀x,gU.of x=d->((av c).cells x)[k]?=some v)(h:∀w,w.cell? (.a c.st (k+2))=some v->(execOp a.eval o).run Q w=.ok (.value v) w/\listed Q b.fn a o w=#[⟨.cell ⟨c.st,k+2,none⟩,false,false⟩]):nV Q b ops (CH c mine w0 d l) o v a:=by
 refine .inl ⟨f,?_⟩;rintro _ ⟨bs,rfl⟩ w γ w' t g hS p i;have il:=Held.on q hS p (dP.rw i);have r:w'.cell? (.a c.st (k+2))=some v:=by rw[AO i.mt.1,hv _ il.2]
 obtain⟨s,m⟩:=h w' r;refine⟨s,?_,?_⟩
 .rw[m];exact⟨.inl ⟨U,.inr (.inr ⟨AF,ht⟩),n⟩,NE⟩
 .rw[m];rintro⟨e,j,f⟩;simp at j;subst j;rcases f with h|h|⟨_,h⟩|⟨_,h⟩|⟨h,_⟩<;>cases h
end
end gi
namespace bR
open Conc RowKit Conc.Lib ConcR.Gen ConcM az bo ag
def GX:Code->Option Code
 | .block _ (.seq (.seq _ (.cond _ x _)) _)=>some x
 | _=>none
def ux(A:fe)(Stop:Bool->ag.Lo A.ap->aX->Prop)(m:Bool)(mine:c7)(a2:Frame)(aF:Act)(aC:du)(aJ:Nat)(aO:e8)(aH:fC)(csZ:dZ)(l:ag.Lo A.ap)(γ:ag.aN A.aK)(cA:Int)(sv aw:Bool)(it old:Int)(w:aL):Prop:=
 jW [.code ((er 8 ((dG (f125.body.getD .skip)).getD .skip)).getD .skip),.code ((er 11 ((dG (f125.body.getD .skip)).getD .skip)).getD .skip),.inBlock 1,.inLoop ((dG (f125.body.getD .skip)).getD .skip),.inBlock 0,.code ((lr (f125.body.getD .skip)).getD .skip)] A Stop m mine a2 aF aC aJ aO aH csZ l γ cA sv aw it old w
def xp(A:fe)(Stop:Bool->ag.Lo A.ap->aX->Prop)(m:Bool)(mine:c7)(a2:Frame)(aF:Act)(aC:du)(aJ:Nat)(aO:e8)(aH:fC)(csZ:dZ)(l:ag.Lo A.ap)(γ:ag.aN A.aK)(cA:Int)(sv aw:Bool)(it old:Int)(w:aL):Prop:=
 jW [.code ((GX ((dG (f125.body.getD .skip)).getD .skip)).getD .skip),.code ((er 11 ((dG (f125.body.getD .skip)).getD .skip)).getD .skip),.inBlock 1,.inLoop ((dG (f125.body.getD .skip)).getD .skip),.inBlock 0,.code ((lr (f125.body.getD .skip)).getD .skip)] A Stop m mine a2 aF aC aJ aO aH csZ l γ cA sv aw it old w
variable{cA it old:Int}{w:aL}
section
variable{A:fe}{Stop:Bool->ag.Lo A.ap->aX->Prop}{m:Bool}{mine:c7}
variable{a2:Frame}{aF:Act}{aC:du}{aJ:Nat}{aO:e8}{aH:fC}{csZ:dZ}
def asr(G:A.Good){l:ag.Lo A.ap}{γ:ag.aN A.aK}{sv aw:Bool}(g:(bits .and .i32 old 5==1)=false)(c:∀w' d,(al A).dO l γ d->ak (al A) mine w w'->Bj A Stop m mine a2 aF aC aJ aO aH csZ l d cA sv aw it old w'):
 qk A Stop m mine a2 aF aC aJ aO aH csZ l γ cA sv aw it old w:=by
 unfold qk jW;intros
 unfold Bj jW at c;have hF:=ak.refl (al A) mine w;simp only[f125,vae,dG,lr,er,Nat.reduceBEq,vai,↓reduceIte]at c⊢;refine a9 G ?_;u_c stepG_block ak.trans hF
 u_c veh ak.trans hF
 u_c veh ak.trans hF
 repeat w_but "code.seq" ak.trans
 exact vah (λa b=>⟨U,λf e=>c a f e (ak.trans hF b) ..⟩)
def ass(G:A.Good){l:ag.Lo A.ap}{γ:ag.aN A.aK}{sv aw:Bool}(r:bits .and .i32 old 5=1)(g:∀w' f,(al A).dO l γ f->ak (al A) mine w w'->Bj A Stop m mine a2 aF aC aJ aO aH csZ l f cA sv aw it old w')(hS:it<4->∀w' f,(al A).dO l γ f->ak (al A) mine w w'->xp A Stop m mine a2 aF aC aJ aO aH csZ l f cA sv aw it old w'):
 qk A Stop m mine a2 aF aC aJ aO aH csZ l γ cA sv aw it old w:=by
 unfold qk jW;intros
 unfold Bj jW at g;unfold xp jW at hS;have hF:=ak.refl (al A) mine w;simp only[f125,vae,dG,lr,er,GX,Nat.reduceBEq,vai,↓reduceIte]at g hS⊢;refine a9 G ?_;repeat w_go ak.trans
 refine dY U hF λb a d j c q i o hF=>?_;have h:=(dk G).trans _ _ _ _ j i;by_cases p:it<4
 .refine l6 (stepG_canSpin_ask U U Ap U func142 Vd U_ UZ UQ (k:=.i64) (n:=it) Bn p) U U (.refl _) U U ?_;replace hF:=ak.trans hF (⟨λ_ _=>U,vac _,.refl _,U,U⟩:ak (al A) mine c c.asked);clear o i j a;cases c.spins with
  |false=>
   refine a9 G ?_;walk_nrm
   repeat w_but "code.seq" ak.trans
   exact vah (λb a=>⟨U,λd e=>g b d ((dk G).trans _ _ _ _ h e) (ak.trans hF a) ..⟩)
  |true=>
   refine a9 G ?_;walk_nrm
   repeat w_but "code.seq" ak.trans
   exact vah (λb a=>⟨U,λd e=>hS p b d ((dk G).trans _ _ _ _ h e) (ak.trans hF a) ..⟩)
 .refine l6 (stepG_canSpin_no U U Ap U func142 Vd U_ UZ UQ (k:=.i64) (n:=it) Bn AX) U U (.refl _) U U ?_;clear o i j a;refine a9 G ?_;walk_nrm
  repeat w_but "code.seq" ak.trans
  exact vah (λb a=>⟨U,λd e=>g b d ((dk G).trans _ _ _ _ h e) (ak.trans hF a) ..⟩)
def Rk(G:A.Good){l:ag.Lo A.ap}{γ:ag.aN A.aK}{sv aw:Bool}(r:0<=it)(q:it<4)(h:∀w' d,(d=γ\/d.a6<γ.a6)->ak (al A) mine w w'->ij (al A) l d->qk A Stop m mine a2 aF aC aJ aO aH csZ l d cA sv aw (it+1) (d.mu.word:Int) w'):
 ux A Stop m mine a2 aF aC aJ aO aH csZ l γ cA sv aw it old w:=by
 unfold ux jW;intros
 unfold qk jW at h;have hF:=ak.refl (al A) mine w;have t:IntKind.wrap .i64 (it+1)=it+1:=E5;simp only[f125,vae,dG,lr,er,Nat.reduceBEq,vai,↓reduceIte]at h⊢;refine a9 G ?_;repeat w_go ak.trans
 refine dY U hF λb a k f j s e c hF=>?_;have g:=(dk G).trans _ _ _ _ f e;refine l6 (stepG_entry_pure (.tuple #[]) U U Ap U func143 arj ark arl arm) U U (.refl _) U U ?_;clear c e f a;refine a9 G ?_;walk_nrm
 repeat w_go ak.trans
 refine dY U hF λb a k f i p e c hF=>?_;have n:=(dk G).less _ _ _ ((dk G).trans _ _ _ _ g ((dk G).trans _ _ _ _ f e));have o:=c.sees;refine l6 (Bi U U Ap U U (l5 c.mt.1) Kb) U U (.refl _) U U ?_;clear c e f a;refine a9 G ?_;walk_nrm
 repeat w_nl ak.trans
 u_c stepG_inLoop ak.trans hF
 exact vah (λb a=>⟨U,λk g=>(h b p n (ak.trans hF a) o ..).iv (dk G) g⟩)
