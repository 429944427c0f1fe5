import Derived.Test.YtebcnmadaaimoaaGreatPAE
import Derived.Test.YtebcnmadaaimoaaGreatPAH
import Derived.Test.YtebcnmadaaimoaaGreatPAI
set_option linter.all false
set_option maxRecDepth 100000
set_option maxHeartbeats 16000000
namespace Go.Proofs.YtebcnmadaaimoaaGreat
open Go.Proofs.Tryz
namespace gi
open Conc ConcM az bo ag ft ix
def bg.seen{Z:e_}{Q:cf}{Stop:Bool->Z.Lo->aX->Prop}{m:Bool}{l:Z.Lo}{γ:Z.aN}{X:aX}(G:Z.Good)(hs:X.g.status=.running)(h:∀a,Z.dO l γ a->ij Z l a->bg Z Q Stop m l a X):bg Z Q Stop m l γ X:=by
 by_cases hst:Stop m l X
 .exact .stop hst
 .refine bg.mk hs λw' a d b=>?_;rcases(h a d b.sees).next with c|⟨_,c⟩
  .grind
  .exact c w' a (G.refl _ _) b
variable{v:Value}
section
variable{P:cf}{main:Bool}{b:Frame}{a:Act}{cs:dZ}{w:aL}
def Ze{fn:Func}{todo:fC}{c:Frame}{es:uaq}(hn:b.kind=.normal)(hd:a.defers=[])(e:P.funcs[b.fn]?=some fn)(d:(results fn a.tmps).run P w=.ok v w)(f:(results fn a.tmps).events P w #[]=es):
 stepG P main (G {b.at a todo with mode:=.returning} (c::cs)) w=.go (G (c.finish v) cs) w (seen P b.fn es):=by
 simp[G,stepG,unwind,doReturn,Frame.at,hn,hd,e,d,f,GStep.after]
end
variable{u:Value}{g1:uai}
section
variable{c:dy}{Q:cf}{Stop:Bool->ag.Lo At->aX->Prop}{m:Bool}{mine:c7}{w0:aL}{l:ag.Lo At}{γ:ag.aN ck}{X:aX}{w':aL}
def amQ{loc:Loc}{d:Bool}(h:∀mk,loc≠ .mark mk):¬ ∃e∈(#[⟨loc,false,d⟩]:uaq),uX (al (av c)) e:=by
 rintro⟨e,b,f⟩;simp at b;subst b;rcases f with a|a|⟨_,a⟩|⟨_,a⟩|⟨a,_⟩
 .grind
 .grind
 .grind
 .grind
 grind
def Jj(a:jx l.aj=false)(ht:l.tok=true){k:Nat}(hs:stepG Q m X.g w'=.go g1 w' #[⟨.cell ⟨c.st,k+2,none⟩,false,false⟩])(hrun:g1.status=.running)(h:bg (al (av c)) Q Stop m l γ ⟨g1,w',X.mine⟩):Then (Z:=al (av c)) Q Stop m l γ X w':=by refine .quiet hs ⟨hrun,pW _ _ _,λ_ _ _=>U,⟨.inl AF,NE⟩,λe=>e.elim (amQ Ab) K8⟩ ?_;grind[kC]
def Sb{mu:bn}{x dw:ck}{w:aL}(h:w.heap[c.st]?=some (gS (av c) mu x)){k:Nat}(a:((av c).cells x).setIfInBounds k v=(av c).cells dw):(w.setCell ⟨c.st,k+2,none⟩ v).heap[c.st]?=some (gS (av c) mu dw):=by unfold World.setCell;simp_all[vbb,gS]
def Sc{x dw:ck}{w:aL}(h:(av c).oF x w)(f:dw.aW=x.aW)(d:dw.et=x.et)(b:dw.gF=x.gF)(a:dw.done=x.done)(off:Nat)(sp)(v:Value):(av c).oF dw (w.setCell ⟨c.st,off,sp⟩ v):=by
 refine⟨?_,λe=>?_⟩
 .rw[nT w _ v (Ne.symm c.eV.1),h.1];grind[s4]
 .rw[nT w _ v (Ne.symm c.eV.2.1),h.2 e];grind[F4]
def amR(d:dP (al (av c)) l γ X w'){p:uac}{f1:Nat}(hs:stepG Q m X.g w'=.go g1 (w'.setCell ⟨c.st,4,none⟩ v) #[⟨.cell ⟨c.st,4,none⟩,true,false⟩])(hrun:g1.status=.running)(hv:v=.I ((γ.aj.taken+1:Nat):Int))(j:l.aj=.work .free p)(b:l.mx=.own)(g:l.tok=true)(a4:γ.aj.taken<c.N)(n:f1+1<=l.fuel+c.C)(h:bg (al (av c)) Q Stop m ({l with aj:=.work (.has γ.aj.taken) p,fuel:=f1}:ag.Lo At) ({γ with aj:={γ.aj with taken:=γ.aj.taken+1},a6:=γ.a6-1}:ag.aN ck) ⟨g1,w'.setCell ⟨c.st,4,none⟩ v,X.mine⟩):Then (Z:=al (av c)) Q Stop m l γ X w':=by
 have o:c.C*(c.N-(γ.aj.taken+1))+c.C=c.C*(c.N-γ.aj.taken):=by have:c.N-γ.aj.taken=(c.N-(γ.aj.taken+1))+1:=AX;grind
 refine yn (a1:=.work (.has γ.aj.taken) p) (b1:={γ.aj with taken:=γ.aj.taken+1}) (d1:=l.deaf) d hs hrun ⟨⟨.cell ⟨c.st,4,none⟩,true,false⟩,Ab,.inr (.inr (.inr (.inr ⟨U,c.st,U,.inl U⟩)))⟩ (Sa w' 4 none _) (nU _ _ _) ⟨Sb (k:=2) d.mt.1 AF,Sc d.mt.2 U U U U _ _ _⟩
  (λaB i hi hg=>hg.take a4 AF) AF (.inl b) ⟨vdw _,vac _⟩ AF (λe=>e.elim) (λ_=>b)
  (.inl ⟨U,?_,U,.inl ⟨U,AF,?_⟩,NE⟩) (.inr λa f=>f) (λe=>e.elim) h
 .grind[jx]
 grind[jx]
def Zf{mu:bn}{x:ck}{w:aL}(b:w.heap[c.st]?=some (gS (av c) mu x))(a:(av c).oF x w)(p:Nat)(v:Value):
 (w.setCell ⟨c.cP,p,none⟩ v).heap[c.st]?=some (gS (av c) mu {x with done:=x.done.set p v})/\(av c).oF {x with done:=x.done.set p v} (w.setCell ⟨c.cP,p,none⟩ v):=by
 refine⟨?_,?_,λe=>?_⟩
 .rw[nT w _ _ c.eV.2.1,b];rfl
 .rw[nT w _ _ c.eV.2.2,a.1];rfl
 simp_all[World.setCell,vbb,F4]
def aEL(d:dP (al (av c)) l γ X w'){q:uac}{p f1:Nat}(hs:stepG Q m X.g w'=.go g1 (w'.setCell ⟨c.cP,p,none⟩ v) #[⟨.cell ⟨c.cP,p,none⟩,true,false⟩])(hrun:g1.status=.running)(j:l.aj=.work (.has p) q)(b:l.mx=.own)(f:l.tok=true)(k:f1<l.fuel)(h:bg (al (av c)) Q Stop m ({l with aj:=.work (.half p v) q,fuel:=f1}:ag.Lo At) ({γ with aj:={γ.aj with done:=γ.aj.done.set p v},a6:=γ.a6-1}:ag.aN ck) ⟨g1,w'.setCell ⟨c.cP,p,none⟩ v,X.mine⟩):Then (Z:=al (av c)) Q Stop m l γ X w':=by
 refine yn (a1:=.work (.half p v) q) (b1:={γ.aj with done:=γ.aj.done.set p v}) (d1:=l.deaf) d hs hrun ⟨⟨.cell ⟨c.cP,p,none⟩,true,false⟩,Ab,.inr (.inr (.inr (.inr ⟨U,c.cP,U,.inr Kj⟩)))⟩ (Za w' p none _) (nU _ _ _) (Zf d.mt.1 d.mt.2 p v)
  (λaB i hi hg=>hg.lay AF) AF (.inl b) ⟨vac _,vac _⟩ AF (λe=>e.elim) (λ_=>b)
  (.inl ⟨U,?_,U,.inl ⟨U,.inr (.inr ⟨.inr U,f⟩),?_⟩,NE⟩) (.inr λa g=>g) (λe=>e.elim) h
 .grind[jx]
 grind[jx]
def amS(d:dP (al (av c)) l γ X w'){q:uac}{p f1:Nat}(hs:stepG Q m X.g w'=.go g1 (w'.setCell ⟨c.st,5,none⟩ u) #[⟨.cell ⟨c.st,5,none⟩,true,false⟩])(hrun:g1.status=.running)(f:c.b3 p=false)(o:u=.I ((γ.aj.came+c.rows p:Nat):Int))(n:l.aj=.work (.half p v) q)(b:l.mx=.own)(j:l.tok=true)(r:f1<l.fuel)(h:bg (al (av c)) Q Stop m ({l with aj:=.work .free ((p,v)::q),fuel:=f1}:ag.Lo At) ({γ with aj:={γ.aj with came:=γ.aj.came+c.rows p},a6:=γ.a6-1}:ag.aN ck) ⟨g1,w'.setCell ⟨c.st,5,none⟩ u,X.mine⟩):Then (Z:=al (av c)) Q Stop m l γ X w':=by
 refine yn (a1:=.work .free ((p,v)::q)) (b1:={γ.aj with came:=γ.aj.came+c.rows p}) (d1:=l.deaf) d hs hrun ⟨⟨.cell ⟨c.st,5,none⟩,true,false⟩,Ab,.inr (.inr (.inr (.inr ⟨U,c.st,U,.inl U⟩)))⟩ (Sa w' 5 none _) (nU _ _ _) ⟨Sb (k:=3) d.mt.1 AF,Sc d.mt.2 U U U U _ _ _⟩
  (λaB i hi hg=>hg.count f AF) AF (.inl b) ⟨vac _,vdc _ _⟩ AF (λe=>e.elim) (λ_=>b)
  (.inl ⟨U,?_,U,.inl ⟨U,AF,?_⟩,NE⟩) (.inr λa g=>g) (λe=>e.elim) h
 .grind[jx]
 grind[jx]
def Zg(d:dP (al (av c)) l γ X w'){q:uac}{p f1:Nat}(hs:stepG Q m X.g w'=.go g1 (w'.setCell ⟨c.st,7,none⟩ u) #[⟨.cell ⟨c.st,7,none⟩,true,false⟩])(hrun:g1.status=.running)(o:u=c.place p)(f:c.b3 p=true)(hq:∀q,γ.aj.least=some q->p<=q)(n:l.aj=.work (.has p) q)(b:l.mx=.own)(j:l.tok=true)(r:f1<l.fuel)(h:bg (al (av c)) Q Stop m ({l with aj:=.work (.has p) q,fuel:=f1}:ag.Lo At) ({γ with aj:={γ.aj with least:=some p},a6:=γ.a6-1}:ag.aN ck) ⟨g1,w'.setCell ⟨c.st,7,none⟩ u,X.mine⟩):Then (Z:=al (av c)) Q Stop m l γ X w':=by
 refine yn (a1:=.work (.has p) q) (b1:={γ.aj with least:=some p}) (d1:=l.deaf) d hs hrun ⟨⟨.cell ⟨c.st,7,none⟩,true,false⟩,Ab,.inr (.inr (.inr (.inr ⟨U,c.st,U,.inl U⟩)))⟩ (Sa w' 7 none _) (nU _ _ _) ⟨Sb (k:=5) d.mt.1 AF,Sc d.mt.2 U U U U _ _ _⟩
  (λaB i hi hg=>hg.low f hq AF) AF (.inl b) ⟨vac _,vac _⟩ AF (λe=>e.elim) (λ_=>b)
  (.inl ⟨U,?_,U,.inl ⟨U,AF,?_⟩,NE⟩) (.inr λa g=>g) (λe=>e.elim) h
 .grind[jx]
 grind[jx]
end
end gi
namespace c3
open Conc az
def vi(fn:Func):Bool:=fn.results.all λ| .tmp _=>true| _=>false
def vj(fn:Func)(t:df):List Value:=fn.results.toList.map λ| .tmp x=>t.getD x undef| .cell _ _=>undef
def t8(fn:Func)(t:df):Value:=if h:(vj fn t).toArray.size=1 then(vj fn t).toArray[0]else .tuple (vj fn t).toArray
theorem Zh{t:df}:∀(l:List ResultVar),(∀r∈l,∃x,r=.tmp x)->(l.mapM λ| .tmp x=>(pure (t.getD x undef):Sem Value)| .cell a ty=>do Go.loadVar ty (<-Go.asAddr (t.getD a undef)))=pure (l.map λ| .tmp x=>t.getD x undef| .cell _ _=>undef)
 | [],_=>rfl
 |r::l,h=>by obtain⟨x,rfl⟩:=h r Ab;rw[List.mapM_cons,Zh l AF];simp
variable{P:cf}
theorem AP{fn:Func}(h:vi fn=true)(t:df)(w:aL):(results fn t).run P w=.ok (t8 fn t) w/\(results fn t).events P w #[]=#[]:=by
 have a:∀r∈fn.results.toList,∃x,r=.tmp x:=by intro r b;unfold vi at h;grind[Array.all_eq_true_iff_forall_mem]
 have e:results fn t=pure (t8 fn t):=by
  unfold results;rw[vcm];erw[Zh (t:=t) _ a]
  rfl
 simp_all
def Zi{ρ:Ren}(fn:Func){t b:df}(h:aM ρ t b):ar ρ (t8 fn t) (t8 fn b):=by
 have g:cL (ar ρ) (vj fn t) (vj fn b):=by unfold vj;induction fn.results.toList with|nil=>exact .nil|cons r l f=>refine .cons ?_ f;cases r with|tmp x=>exact h.getD (.undef ρ) x|cell a ty=>exact .undef ρ
 have d:=aM.LD g;unfold t8;by_cases c:(vj fn t).toArray.size=1
 .have e:(vj fn b).toArray.size=1:=d.size▸c;rw[dif_pos c,dif_pos e];exact d.get 0 _ _ AF AF
 .have e:¬(vj fn b).toArray.size=1:=d.size▸c;rw[dif_neg c,dif_neg e];exact .E9 d
variable{Q:cf}
theorem i_.bind{main:Bool}{K:c7}{post a:aX->Prop}{X:aX}(h:i_ Q main K post X)(c:∀Y,post Y->i_ Q main K a Y):i_ Q main K a X:=by induction h with|done h=>grind|step ok _ b=>exact .step ok AF
def i_.more{main:Bool}{K K':c7}(hK:∀b,K b->K' b){post:aX->Prop}{X:aX}(h:i_ Q main K post X):i_ Q main K' post X:=by have hrel:∀{X:aX}{w':aL},kv K' X w'->kv K X w':=λa=>⟨λb f=>a.heap b AF,a.size,a.env⟩;induction h with|done h=>exact .done h|step ok _ d=>refine .step (λw' a=>?_) AF;obtain⟨g1,w1,es,e,hg⟩:=ok w' (hrel a);refine⟨g1,w1,es,e,hg.run,hg.ow,hg.kept,hg.size,hg.os,hg.output,hg.tape,hg.drawn,λev c=>?_⟩;have:=hg.evs ev c;grind[x2]
structure amU(C:cM)(D M:c7)(n0:Nat)(R:uab)(c:Frame)(cs:dZ)(Y:aX)(ρ:Ren)(w1:aL)(v v':Value):Prop where
 post:R v w1
 val:ar ρ v v'
 g:Y.g=aY (c.finish v') cs
 world:∃S,eI C S ρ w1 Y.w
 le:Ren.le (eh D M) ρ
 mine:∀b,ρ.mine b->Y.mine b
 dom:∀a b,ρ.rel a b->(D b/\¬M b)\/Y.mine b
 old:∀a b,ρ.rel a b->(eh D M).rel a b\/n0<=b
def Zj{upd:Bool}(A:(da P upd).Good){f:uaj}{fn:Func}{B:Code}(j:P.funcs[f]?=some fn)(hk:ir P upd fn=true)(y:fn.body=some B)(o:vi fn=true){D M:c7}{w:aL}(F:ie (da P upd) D M w)(hg:∀g,g<=P.globals.size->D g)(u:upd=true->∀b,D b->M b){args:df}(z:aM (eh D M) args args){R:uab}{w0:aL}(q:gb (da P upd) D M w w0)(t:∀T,Calls (ae P upd) f args {w0 with tape:=T} (λe w=>∃v,e=.returned v/\R v w))(main:Bool)(c:Frame)(cs:dZ):
 i_ P main (λb=>D b/\¬M b) (λY=>∃ρ w1 v v',amU (da P upd) D M w.heap.size R c cs Y ρ w1 v v') ⟨aY (Frame.enter P f args .normal) (c::cs),w,M⟩:=by
 refine i_.bind (XT A j hk y F hg u z (R:=λe w=>∃v,e=.returned v/\R v w) AF q t main (c::cs)) ?_;rintro Y ⟨ρ,fr,w1,T,e,⟨v,rfl,H⟩,m,J,ht⟩;obtain⟨d,Q,I,i,k⟩:=ht.frames;cases k;obtain⟨x,hd,r,S,l,O⟩:=J;have L:(ae P upd).funcs[f]?=some fn:=bB j hk;rw[m,L]at l;cases l;have hv:v=t8 fn fr.tmps:=by grind[AP]
 have s:d.mode=.returning:=by have:=i.mode;rw[x]at this;generalize d.mode=md at this⊢;cases this;rfl
 have C:d.defers=[]:=by have:=i.defers;rw[hd]at this;generalize d.defers=ds at this⊢;cases this;rfl
 have E:d.kind=.normal:=i.kind.symm.trans r;have K:d.fn=f:=i.fn.symm.trans m;have hstep:∀w',stepG P main Y.g w'=.go (aY (c.finish (t8 fn d.tmps)) cs) w' #[]:=by intro w';rw[I];simp[aY,stepG,unwind,doReturn,s,C,E,K,j,(AP o d.tmps w').1,(AP o d.tmps w').2,GStep.after,vcz]
 refine .step (λw' n=>⟨_,_,_,hstep w',U,U,λ_ _ _=>U,vac _,U,U,U,vac _,Ab⟩) λw' g1 N es n e=>?_;rw[hstep w']at e;cases e;have p:∀b,grown Y.mine w' w' b↔Y.mine b:=λb=>⟨λh=>h.elim id AF,.inl⟩;exact .done ⟨ρ,w1,v,t8 fn d.tmps,H,by rw[hv];exact Zi fn i.tmps,U,⟨_,ht.world.rely (bound:=0) n ht.dom AF⟩,ht.le,λb h=>(p b).2 (ht.mine b h),λa b h=>(ht.dom a b h).imp id (p b).2,ht.old⟩
open ConcM bo ix
inductive Jk(ρ:Ren):Ending->Ending->Prop
 |ret {v v':Value} (h:ar ρ v v'):Jk ρ (.returned v) (.returned v')
 |Zl {l l':List PanicEntry} (h:cL (xW ρ) l l'):Jk ρ (.panicked l) (.panicked l')
structure xM(C:cM)(D M:c7)(n0:Nat)(R:Ending->aL->Prop)(c:Frame)(cs:dZ)(Y:aX)(ρ:Ren)(w1:aL)(e e':Ending):Prop where
 post:R e w1
 val:Jk ρ e e'
 g:Y.g=aY (FZ c e') cs
 world:∃S,eI C S ρ w1 Y.w
 le:Ren.le (eh D M) ρ
 mine:∀b,ρ.mine b->Y.mine b
 dom:∀a b,ρ.rel a b->(D b/\¬M b)\/Y.mine b
 old:∀a b,ρ.rel a b->(eh D M).rel a b\/n0<=b
def amV{upd:Bool}(O:(da P upd).Good){f:uaj}{fn:Func}{Q:Code}(m:P.funcs[f]?=some fn)(hk:ir P upd fn=true)(L:fn.body=some Q)(u:vi fn=true){D M:c7}{w:aL}(U:ie (da P upd) D M w)(hg:∀g,g<=P.globals.size->D g)(I:upd=true->∀b,D b->M b){args:df}(N:aM (eh D M) args args){R:Ending->aL->Prop}(y:∀e w,R e w->e≠ .outgrown){w0:aL}(E:gb (da P upd) D M w w0)(H:∀T,Calls (ae P upd) f args {w0 with tape:=T} R)(main:Bool)(c:Frame)(cs:dZ):
 i_ P main (λb=>D b/\¬M b) (λY=>∃ρ w1 e i,xM (da P upd) D M w.heap.size R c cs Y ρ w1 e i) ⟨aY (Frame.enter P f args .normal) (c::cs),w,M⟩:=by
 refine i_.bind (XT O m hk L U hg I N y E H main (c::cs)) ?_;rintro Y ⟨ρ,fr,w1,T,e,B,s,A,ht⟩;obtain⟨d,a_,z,j,q⟩:=ht.frames;cases q;have W:(ae P upd).funcs[f]?=some fn:=bB m hk;have C:d.fn=f:=j.fn.symm.trans s;have x:∀w' b,grown Y.mine w' w' b↔Y.mine b:=λw' b=>⟨λh=>h.elim id AF,.inl⟩;have dN:∀i,Jk ρ e i->(∀w',stepG P main Y.g w'=.go (aY (FZ c i) cs) w' #[])->i_ P main (λb=>D b/\¬M b) (λY=>∃ρ w1 e i,xM (da P upd) D M w.heap.size R c cs Y ρ w1 e i) Y:=by intro i K hstep;refine .step (λw' t=>⟨_,_,_,hstep w',rfl,rfl,λ_ _ _=>rfl,vac _,rfl,rfl,rfl,vac _,Ab⟩) λw' g1 X es t e=>?_;rw[hstep w']at e;cases e;exact .done ⟨ρ,w1,_,i,B,K,rfl,⟨_,ht.world.rely (bound:=0) t ht.dom AF⟩,ht.le,λb h=>(x w' b).2 (ht.mine b h),λa b h=>(ht.dom a b h).imp id (x w' b).2,ht.old⟩
 cases e with
 |outgrown=>exact absurd rfl (y _ _ B)
 |returned v=>
  obtain⟨p,hd,F,V,n,Z⟩:=A;rw[s,W]at n;cases n;have hv:v=t8 fn fr.tmps:=by grind[AP]
  have o:d.mode=.returning:=by have:=j.mode;rw[p]at this;generalize d.mode=md at this⊢;cases this;rfl
  have r:d.defers=[]:=by have:=j.defers;rw[hd]at this;generalize d.defers=ds at this⊢;cases this;rfl
  have S:d.kind=.normal:=j.kind.symm.trans F;refine dN (.returned (t8 fn d.tmps)) (by rw[hv];exact .ret (Zi fn j.tmps)) λw'=>?_;rw[z];simp[aY,stepG,unwind,doReturn,o,r,S,C,m,(AP u d.tmps w').1,(AP u d.tmps w').2,GStep.after,vcz,FZ]
 |panicked l=>
  obtain⟨p,hd,V,n⟩:=A;obtain⟨k,o,J⟩:∃k,d.mode=.panicking k/\cL (xW ρ) l k:=by have:=j.mode;rw[p]at this;generalize d.mode=md at this⊢;cases this with|panicking h=>exact⟨_,rfl,h⟩
  have r:d.defers=[]:=by have:=j.defers;rw[hd]at this;generalize d.defers=ds at this⊢;cases this;rfl
  refine dN (.panicked k) (.Zl J) λw'=>?_;rw[z];simp[aY,stepG,unwind,Frame.catches,o,r,C,m,GStep.after,vcz,FZ]
end c3
namespace gi
open Conc ConcM az bo ag ft ix
variable{t:uaa}
section
section
variable{Z:e_}{Q:cf}{Stop Stop':Bool->Z.Lo->aX->Prop}
def bg.seq{I:Z.Lo->Z.aN->Prop}(f:∀l γ a,I l γ->Z.dO l γ a->I l a)(i:∀l γ l1 bF,I l γ->ij Z l γ->Cs Z l γ l1 bF->I l1 bF)(u:∀m l X,Stop' m l X->¬Z.Left l)(k:∀l γ X,Stop' false l X->I l γ->bg Z Q Stop false l γ X){m:Bool}{l:Z.Lo}{γ:Z.aN}{X:aX}(h:bg Z Q Stop' m l γ X):m=false->I l γ->bg Z Q Stop false l γ X:=by
 induction h with
 |stop h=>grind
 |@step m l γ X hs ch ok hq s r t o n w v=>
  rintro rfl hi;refine bg.mk hs λw' a c b=>?_;have d:=f _ _ _ hi c;rcases ok w' a c b with⟨g1,w1,es,e,q⟩|⟨g1,w1,es,e,q,p⟩|⟨e,g,q,j⟩|⟨em,_⟩
  .exact .quiet e q (o w' a g1 w1 es c b e q.run q.low U d)
  .exact .turn e q AF (n w' a g1 w1 es c b e q.Mx U (i _ _ _ _ d b.sees q.AD))
  .exact .wait e g q j
  grind
end
def AR(w:aL){b k:Nat}(v:df)(h:k≠b):(w.setRow b v).heap[k]?=w.heap[k]?:=by simp[World.setRow,vbb,Ne.symm h]
def setRow_size(w:aL)(b:Nat)(v:df):(w.setRow b v).heap.size=w.heap.size:=by simp_all
section
variable{Z:e_}{Q:cf}{Stop:Bool->Z.Lo->aX->Prop}{m:Bool}{l:Z.Lo}{γ:Z.aN}{mine:c7}{w0 w:aL}
def af.row{pre post:uao}{b:Nat}{bf new:df}(hk:af Z mine w0 (pre++(b,.cells bf t)::post) w):af Z mine w0 (pre++(b,.cells new t)::post) (w.setRow b new):=by
 have f:b∈(pre++(b,Obj.cells bf t)::post).map (·.1):=Ab;have g:w.heap[b]?=some (.cells bf t):=hk.cW (b,.cells bf t) Ab;refine hk.write f (bs':=pre++(b,.cells new t)::post) Ab (λx e=>?_) (λk a=>AR w new a) (setRow_size _ _ _) U U U;have d:=hk.iI;simp only[vcr,vcy,List.nodup_append,List.nodup_cons]at d;rcases List.mem_append.1 e with c|c
 .have a:x.1≠b:=AF;rw[AR w new a];exact hk.cW x AF
 .rcases vbo.1 c with rfl|c
  .grind[setRow_heap]
  .have a:x.1≠b:=AF;rw[AR w new a];exact hk.cW x AF
def CJ(i:∀l g g1,¬Z.pa l g g1)(j:Z.past l=false){pre post:uao}{b:Nat}{bf new:df}{g g1:uai}{es:uaq}(hk:af Z mine w0 (pre++(b,.cells bf t)::post) w)(hs:stepG Q m g w=.go g1 (w.setRow b new) es)(hrun:g1.status=.running)(c:∀e∈es,∃off,e.loc=.cell ⟨b,off,none⟩/\e.sync=false){f:aL}(h:af Z mine w0 (pre++(b,.cells new t)::post) (w.setRow b new)->bg Z Q Stop m l γ ⟨g1,w.setRow b new,cj mine (pre++(b,.cells new t)::post)⟩):Then (Z:=Z) Q Stop m l γ ⟨g,f,cj mine (pre++(b,.cells bf t)::post)⟩ w:=by
 have d:b∈(pre++(b,Obj.cells bf t)::post).map (·.1):=Ab;refine amv i j hk hs hrun d (bs':=pre++(b,.cells new t)::post) Ab (hk.row (new:=new)).cW (λk a=>AR w new a) (setRow_size _ _ _) U U U (λe n=>?_) h;obtain⟨off,p,o⟩:=c e n;unfold F2;rw[p];exact⟨o,.inr (.inr d)⟩
def F6(c:∀l g g1,¬Z.pa l g g1){M:c7}{g g1:uai}{es:uaq}(hs:stepG Q m g w=.go g1 w es)(hrun:g1.status=.running)(a:es=#[]){b:aL}(h:bg Z Q Stop m l γ ⟨g1,w,M⟩):Then (Z:=Z) Q Stop m l γ ⟨g,b,M⟩ w:=by subst a;have hg:grown M w w=M:=kC U;refine .quiet hs ⟨hrun,pW _ _ _,λ_ _ _=>U,NE,λe=>e.elim AF (c _ _ _)⟩ ?_;grind
end
section
variable{c:dy}
def F7(c:dy)(l:ag.Lo At)(γ:ag.aN ck):Prop:=¬AL l.aj/\oG c.N γ.aj
def t_{l:ag.Lo At}{γ a:ag.aN ck}(b:(al (av c)).dO l γ a):γ.aj.taken<=a.aj.taken/\γ.aj.came<=a.aj.came:=by grind
def M0(l:ag.Lo At)(γ a:ag.aN ck)(h:F7 c l γ)(b:(al (av c)).dO l γ a):F7 c l a:=⟨h.1,r4 h.2 (t_ b)⟩
def amW(l:ag.Lo At)(γ:ag.aN ck)(l1:ag.Lo At)(bF:ag.aN ck)(h:F7 c l γ)(hs:ij (al (av c)) l γ)(ht:Cs (al (av c)) l γ l1 bF):F7 c l1 bF:=by
 obtain⟨ls,i,hi,hg⟩:∃(ls:List (ag.Lo At))(i:Nat),ls[i]?=some l/\tW (av c) γ ls:=hs;obtain⟨s,h0,_⟩:=hg.pT.main;rw[vbc]at h0;obtain⟨l0,g,k⟩:=vaj.1 h0;have a:0≠i:=by rintro rfl;rw[hi]at g;cases g;exact h.1 (by rw[k];trivial)
 obtain⟨_,m⟩:=ht;obtain⟨n,o⟩:=m ls i hi hg;have b:tW (av c) bF (ls.set i l1):=n;refine⟨λe=>?_,r4 h.2 AF⟩;have j:i<ls.length:=(vab.1 hi).1;have f:((ls.set i l1).map (·.aj))[i]?=some l1.aj:=AF;cases d:l1.aj with|main s'=>rw[d]at f;exact a (b.pT.only i s' f).symm| _=>rw[d]at e;exact e
end
end
variable{a:Act}
section
section
variable{c:dy}{Q:cf}{Stop:Bool->ag.Lo At->aX->Prop}{m:Bool}{mine:c7}{w0:aL}{b:Frame}{ops:du}
def yo{Z:e_}{k:fC}{cs:dZ}{Stop:Bool->Z.Lo->aX->Prop}{σ:cy Z}{K:cy Z->Act->Prop}{i:Nat}{o:Oper}(hi:ops[i]?=some o)(c:Region.wanted o (yielded ops a.tmps)=true)(h:CD Q b o σ a K):ng Q Stop m b k cs ops i σ a K:=by simp_all[ng]
def yp{Z:e_}{k:fC}{cs:dZ}{Stop:Bool->Z.Lo->aX->Prop}{σ:cy Z}{K:cy Z->Act->Prop}{i:Nat}{o:Oper}(hi:ops[i]?=some o)(c:Region.wanted o (yielded ops a.tmps)=true)(h:RU Q Stop m b o σ a K):ng Q Stop m b k cs ops i σ a K:=by simp_all[ng]
def amY{Z:e_}{k:fC}{cs:dZ}{Stop:Bool->Z.Lo->aX->Prop}{σ:cy Z}{K:cy Z->Act->Prop}{i:Nat}{o:Oper}(hi:ops[i]?=some o)(c:Region.wanted o (yielded ops a.tmps)=true)(h:RV Q Stop m b k cs ops o σ a):ng Q Stop m b k cs ops i σ a K:=by simp_all[ng]
def qT{Z:e_}{k:fC}{cs:dZ}{Stop:Bool->Z.Lo->aX->Prop}{md:Region.Mode}{C:cy Z->Prop}{iy:cy Z->Act->Prop}{i n:Nat}{au:uat}{σ:cy Z}(d:Region.ready md ops au=[i])(h:ng Q Stop m b k cs ops i σ a (λc a1=>C c/\rZ Q Stop m b k cs ops md C iy n (au.setIfInBounds i true) c a1)):rZ Q Stop m b k cs ops md C iy (n+1) au σ a:=
 R2 d Ab AF
def af.shared{Z:e_}{bs:uao}{w:aL}(h:af Z mine w0 bs w){k off:Nat}{sp}(hk:Z.hX k)(v:Value):af Z mine w0 bs (w.setCell ⟨k,off,sp⟩ v):=
 h.on ⟨λb a=>nT w _ v λe=>h.eV b a (e▸hk),vbk (nU _ _ _).symm,.refl _,U,U⟩
def amZ{d:gU}{l:ag.Lo At}(j:l.mx=.own){bs:uao}{o:Oper}{ob:Obj}{K:cy (al (av c))->Act->Prop}(h:∀w,(execOp a.eval o).run Q w=.ok (.value (.P w.heap.size 0)) (w.alloc ob)/\listed Q b.fn a o w=#[])(k:∀n,K (mN c mine w0 d l ((n,ob)::bs)) (a.put o.dst (.P n 0))):CD Q b o (mN c mine w0 d l bs) a K:=by
 intro w γ w' q g hS i f;have il:=Held.on j hS i (dP.rw f);obtain⟨p,m⟩:=h w';refine⟨_,_,mN c mine w0 d l ((w'.heap.size,ob)::bs),.inl p,⟨?_,?_,.inl ⟨U,⟨il.1.alloc (dk (bD c)).nb ob,il.2⟩,λb e _=>CG e,?_,?_⟩⟩,k _⟩
 .show cj mine ((w'.heap.size,ob)::bs)=grown (cj mine bs) w' (w'.alloc ob);rw[R5];exact cj.cons.symm
 .exact⟨λb e _ _=>CG e,Bc,.refl _,U,U⟩
 .rw[m];exact trivial
 grind
def am0{d:gU}{l:ag.Lo At}(v:l.mx=.own)(s:jx l.aj=false){pre post:uao}{b0:Nat}{bf new:df}{o:Oper}{K:cy (al (av c))->Act->Prop}(h:∀w,w.heap[b0]?=some (.cells bf t)->(execOp a.eval o).run Q w=.ok .skip (w.setRow b0 new)/\∀e∈listed Q b.fn a o w,∃off,e.loc=.cell ⟨b0,off,none⟩/\e.sync=false)(k:K (mN c mine w0 d l (pre++(b0,.cells new t)::post)) (a.put o.dst undef)):CD Q b o (mN c mine w0 d l (pre++(b0,.cells bf t)::post)) a K:=by
 intro w γ w' z g hS u r;have il:=Held.on v hS u (dP.rw r);have i:cj mine (pre++(b0,Obj.cells bf t)::post) b0:=.inr Ab;have A:cj mine (pre++(b0,Obj.cells new t)::post)=cj mine (pre++(b0,Obj.cells bf t)::post):=by grind[cj]
 obtain⟨y,p⟩:=h w' (il.1.cW (b0,.cells bf t) Ab);have hg:grown (cj mine (pre++(b0,Obj.cells bf t)::post)) w' (w'.setRow b0 new)=cj mine (pre++(b0,Obj.cells bf t)::post):=kC (setRow_size _ _ _);refine⟨_,_,mN c mine w0 d l (pre++(b0,.cells new t)::post),AF,⟨?_,?_,.inl ⟨U,⟨il.1.row,il.2⟩,λb x j=>AR _ _ ?_,?_,?_⟩⟩,k⟩
 .show cj mine (pre++(b0,.cells new t)::post)=grown (cj mine (pre++(b0,Obj.cells bf t)::post)) w' (w'.setRow b0 new);grind
 .exact⟨λk _ hk _=>AR _ _ λe=>hk (e▸i),vbk (setRow_size _ _ _).symm,.refl _,U,U⟩
 .rintro rfl;exact il.1.eV b (.inr i) j
 .refine AE _ _ λe n d=>?_;obtain⟨off,m,q⟩:=p e AF;unfold tO;rw[m];refine .inl ⟨q,.inr (.inl ?_),s⟩;show grown (cj mine (pre++(b0,Obj.cells bf t)::post)) w' (w'.setRow b0 new) b0;simp_all
 .rintro⟨e,n,f⟩;obtain⟨off,m,q⟩:=p e n;rcases f with f|f|⟨_,f⟩|⟨_,f⟩|⟨_,k,hk,j⟩
  .grind
  .grind
  .grind
  .grind
  .rw[m]at hk;cases hk;exact il.1.eV b0 (.inr i) j
end
end
variable{v:Value}
section
section
variable{c:dy}{Q:cf}{Stop:Bool->ag.Lo At->aX->Prop}{m:Bool}{mine:c7}{w0:aL}{b:Frame}{ops:du}
def Jl(c:dy)(mine:c7)(w0:aL)(x:ubq)(σ:cy (al (av c))):Prop:=∃d l bs,l.mx=.own/\l.tok=true/\jx l.aj=false/\x∈bs/\σ=mN c mine w0 d l bs
def yq{x:ubq}:∀σ,Jl c mine w0 x σ->sW σ:=by rintro _ ⟨d,l,bs,a,_,_,_,rfl⟩;exact l7 (d:=d) a _ ⟨bs,U⟩
def am2{x:ubq}:∀σ,Jl c mine w0 x σ->∀w γ,σ.S w γ->σ.S {w with drawn:=w.drawn+1} γ:=by rintro _ ⟨d,l,bs,a,_,_,_,rfl⟩;exact Jh (d:=d) (l:=l) _ ⟨bs,U⟩
def am3{x:ubq}{o:Oper}(k:Nat)(e:Region.wanted o (yielded ops a.tmps)=true)(hv:∀y,((av c).cells y)[k]?=some v)(h:∀w,w.cell? (.a c.st (k+2))=some v->(execOp a.eval o).run Q w=.ok (.value v) w/\listed Q b.fn a o w=#[⟨.cell ⟨c.st,k+2,none⟩,false,false⟩]):nV Q b ops (Jl c mine w0 x) o v a:=by
 refine .inl ⟨e,?_⟩;rintro _ ⟨d,l,bs,i,ht,g,j,rfl⟩;rcases t7 (c:=c) (Q:=Q) (mine:=mine) (w0:=w0) (b:=b) (ops:=ops) (d:=d) i ht g k e AF h with⟨_,f⟩|⟨f,_⟩
 .exact f _ ⟨bs,U⟩
 grind
def am4{x:ubq}{o:Oper}(f:Region.wanted o (yielded ops a.tmps)=true)(h:∀w,w.heap[x.1]?=some x.2->(execOp a.eval o).run Q w=.ok (.value v) w/\∀e∈listed Q b.fn a o w,∃off,e=⟨.cell ⟨x.1,off,none⟩,false,false⟩):nV Q b ops (Jl c mine w0 x) o v a:=by
 refine .inl ⟨f,?_⟩;rintro _ ⟨d,l,bs,q,ht,n,k,rfl⟩ w γ w' s g hS p m;have il:=Held.on q hS p (dP.rw m);obtain⟨r,j⟩:=h w' (il.1.cW x k);refine⟨r,AE _ _ λe i d=>?_,?_⟩
 .obtain⟨off,rfl⟩:=j e AF;exact .inl ⟨U,.inr (.inl (.inr AF)),n⟩
 .rintro⟨e,i,f⟩;obtain⟨off,rfl⟩:=j e i;rcases f with f|f|⟨_,f⟩|⟨_,f⟩|⟨f,_⟩<;>cases f
def Zn{l:ag.Lo At}{γ:ag.aN ck}(h:ij (al (av c)) l γ){p:Nat}{q:uac}(d:l.aj=.work (.has p) q):p<c.N:=by obtain⟨xs,dQ,a,b⟩:=vh h;rw[d]at a;have g:=b.own p;have f:=nY (dB p) xs dQ _ a;have e:=b.aU;grind[dB,hand]
def am5{l:ag.Lo At}{γ:ag.aN ck}(h:ij (al (av c)) l γ){p:Nat}{q:uac}(e:c.b3 p=false)(b:l.aj=.work (.half p v) q):γ.aj.came+c.rows p<=ju c.rows c.N:=by obtain⟨xs,dQ,a,d⟩:=vh h;rw[b]at a;exact(d.count e a).amz
def am6{d:gU}{l:ag.Lo At}(s:l.mx=.own)(ht:l.tok=true){bs:uao}{o:Oper}{K:cy (al (av c))->Act->Prop}{q:uac}{p f1:Nat}(m:l.aj=.work (.has p) q)(H:f1<l.fuel)(h:∀w D,w.heap[c.cP]?=some (.cells D c.F3)->p<D.size->(execOp a.eval o).run Q w=.ok .skip (w.setCell ⟨c.cP,p,none⟩ v)/\listed Q b.fn a o w=#[⟨.cell ⟨c.cP,p,none⟩,true,false⟩])(k:K (mN c mine w0 ⟨d.T,d.M,d.D.set p v,d.L⟩ ({l with aj:=.work (.half p v) q,fuel:=f1}:ag.Lo At) bs) (a.put o.dst undef)):CD Q b o (mN c mine w0 d l bs) a K:=by
 intro w γ w' f g hS r j;have il:=Held.on s hS r (dP.rw j);have n:w'.heap[c.st]?=some (gS (av c) f.mu f.aj)/\(av c).oF f.aj w':=j.mt;obtain⟨xs,dQ,C,z⟩:=vh j.sees;have J:=Zn j.sees m;have u:=n.2.2 trivial;obtain⟨I,t⟩:=h w' f.aj.done.toArray u (by rw[ves,z.len.1];grind);have y:=Zf n.1 n.2 p v;refine⟨undef,w'.setCell ⟨c.cP,p,none⟩ v,mN c mine w0 ⟨d.T,d.M,d.D.set p v,d.L⟩ ({l with aj:=.work (.half p v) q,fuel:=f1}:ag.Lo At) bs,AF,⟨?_,Za w' p none v,.inr ⟨({f with aj:={f.aj with done:=f.aj.done.set p v},a6:=f.a6-1}:ag.aN ck),⟨il.1.shared AF v,?_⟩,?_,y,?_,?_,?_,?_⟩⟩,k⟩
 .exact(kC (nU _ _ _)).symm
 .have e:=il.2;subst e;rfl
 .rw[t];exact⟨⟨.cell ⟨c.cP,p,none⟩,true,false⟩,Ab,.inr (.inr (.inr (.inr ⟨U,c.cP,U,.inr Kj⟩)))⟩
 .exact RQ (A:=av c) (bD c) j.sees (a1:=.work (.half p v) q) (b1:={f.aj with done:=f.aj.done.set p v}) (f1:=f1) (d1:=l.deaf) (mM:=l.tok) (λaB i hi hg=>hg.lay (by rw[<-m];exact hi)) (by show f1+c.C*(c.N-f.aj.taken)+1<=l.fuel+c.C*(c.N-f.aj.taken);omega) (λo a' r F=>⟨λe=>absurd e (by rw[r s];simp),⟨vac _,vac _⟩,AF⟩) LH (λ_=>s)
 .rw[t];refine .inl ⟨U,?_,U,.inl ⟨U,.inr (.inr ⟨.inr U,ht⟩),?_⟩,NE⟩
  .show jx (.work (.half p v) q)=jx l.aj;rw[m];rfl
  .show jx l.aj=false;rw[m];rfl
 .exact λE B=>B.imp id (λx=>⟨x.1,x.2⟩)
 .exact λe=>e.elim
end
end
end gi
end Go.Proofs.YtebcnmadaaimoaaGreat
namespace Go.Conc
open Go.Proofs.YtebcnmadaaimoaaGreat
variable{P:cf}{main:Bool}{b:Frame}{a:Act}{k:fC}{cs:dZ}{w:aL}
def pZ(f:uaj)(cap:df):Deferred:={target:=.fn (.func f) cap,args:=#[]}
def am8{ops:du}{i:Nat}{rest:e8}{o:Oper}{f:uaj}{x:uap}{cap:df}{ats:uar}(c:ops[i]?=some o)(e:Region.wanted o (yielded ops a.tmps)=true)(hk:b.kind≠ .early)(g:o.op=.defer {callee:=.value x,args:=#[],argTypes:=ats})(h:a.eval x=.func (.func f) #[] cap):
 stepG P main (G (b.at a (.inRegion ops (i::rest)::k)) cs) w=.go (G (b.at (Act.put ⟨a.tmps,pZ f cap::a.defers⟩ o.dst undef) (.inRegion ops rest::k)) cs) w #[]:=by
 have j:(execOp a.eval o).run P w=.ok (.defer (pZ f cap)) w:=by simp_all[execOp,resolve,Deferred.ofValue,pZ]
 have l:(execOp a.eval o).events P w #[]=#[]:=by simp_all[execOp,resolve,Deferred.ofValue]
 have d:(b.at ⟨a.tmps,pZ f cap::a.defers⟩ (.inRegion ops (i::rest)::k)).finish undef=b.at (Act.put ⟨a.tmps,pZ f cap::a.defers⟩ o.dst undef) (.inRegion ops rest::k):=by rw[vct,c];rfl
 have m:(b.kind==CallKind.early)=false:=AF;rw[stepG_oper c e,<-d];simp_all[stepG.apply,G,Frame.at,GStep.after,vcz]
section
variable{todo:fC}{ds:List Deferred}{f:uaj}{fn:Func}{cap:df}
def am9{c:Code}(hd:a.defers=pZ f cap::ds)(d:P.funcs[f]?=some fn)(h:(fn.name== "runtime.NumGoroutine")=false)(e:fn.body=some c):
 stepG P main (G {b.at a todo with mode:=.returning} cs) w=
  .go (G ((baseD f).at {tmps:=cap++Array.replicate (fn.ntmps-cap.size) undef,defers:=[]} [.code c]) ({b.at ⟨a.tmps,ds⟩ todo with mode:=.returning}::cs)) w #[]:=by
 have g:¬fn.name= "runtime.NumGoroutine" :=AF;rw[<-enter_atD cap d e];simp[G,stepG,unwind,callDeferred,Frame.at,hd,pZ,invoke,callFunc,d,g,e,GStep.after,vcz]
end
def am_{ops:du}{i:Nat}{rest:e8}{o:Oper}{c:Frame}(d:ops[i]?=some o)(f:Region.wanted o (yielded ops a.tmps)=true)(hk:b.kind=.deferred)(j:c.mode=.returning)(h:(execOp a.eval o).run P w=.ok .recover w)(g:listed P b.fn a o w=#[]):
 stepG P main (G (b.at a (.inRegion ops (i::rest)::k)) (c::cs)) w=.go (G (b.at (a.put o.dst .nilIface) (.inRegion ops rest::k)) (c::cs)) w #[]:=by
 have e:(b.at a (.inRegion ops (i::rest)::k)).finish .nilIface=b.at (a.put o.dst .nilIface) (.inRegion ops rest::k):=by rw[vct,d];rfl
 have ht:tryRecover (b.at a (.inRegion ops (i::rest)::k)) (c::cs)=none:=by grind[tryRecover,Frame.at]
 have l:(b.kind==CallKind.early)=false:=AF;rw[stepG_oper d f,<-e,<-g];simp_all[Frame.at,stepG.apply,G,GStep.after,listed]
def ana{todo:fC}{ds:List Deferred}{f:uaj}{fn:Func}{cap:df}{c:Code}{l:List PanicEntry}(hd:a.defers=pZ f cap::ds)(d:P.funcs[f]?=some fn)(h:(fn.name== "runtime.NumGoroutine")=false)(e:fn.body=some c):
 stepG P main (G {b.at a todo with mode:=.panicking l} cs) w=
  .go (G ((baseD f).at {tmps:=cap++Array.replicate (fn.ntmps-cap.size) undef,defers:=[]} [.code c]) ({b.at ⟨a.tmps,ds⟩ todo with mode:=.panicking l}::cs)) w #[]:=by
 have g:¬fn.name= "runtime.NumGoroutine" :=AF;rw[<-enter_atD cap d e];simp[G,stepG,unwind,callDeferred,Frame.at,hd,pZ,invoke,callFunc,d,g,e,GStep.after,vcz]
def anb{ops:du}{i:Nat}{rest:e8}{o:Oper}{c:Frame}{v:Value}(d:ops[i]?=some o)(f:Region.wanted o (yielded ops a.tmps)=true)(hk:b.kind=.deferred)(h:c.mode=.panicking [{v:=v,recovered:=false}])(j:(execOp a.eval o).run P w=.ok .recover w)(g:listed P b.fn a o w=#[]):
 stepG P main (G (b.at a (.inRegion ops (i::rest)::k)) (c::cs)) w=.go (G (b.at (a.put o.dst v) (.inRegion ops rest::k)) ({c with mode:=.panicking [{v:=v,recovered:=true}]}::cs)) w #[]:=by
 have e:(b.at a (.inRegion ops (i::rest)::k)).finish v=b.at (a.put o.dst v) (.inRegion ops rest::k):=by rw[vct,d];rfl
 have ht:tryRecover (b.at a (.inRegion ops (i::rest)::k)) (c::cs)=some (v,{c with mode:=.panicking [{v:=v,recovered:=true}]}::cs):=by simp[tryRecover,Frame.at,hk,h]
 have l:(b.kind==CallKind.early)=false:=AF;rw[stepG_oper d f,<-e,<-g];simp_all[Frame.at,stepG.apply,G,GStep.after,listed]
def anc{fn:Func}{todo:fC}{c:Frame}{v:Value}(hn:b.kind=.deferred)(hd:a.defers=[])(e:P.funcs[b.fn]?=some fn)(d:fn.results=#[])(f:c.mode=.panicking [{v:=v,recovered:=true}]):
 stepG P main (G {b.at a todo with mode:=.returning} (c::cs)) w=.go (G {c with mode:=.returning} cs) w #[]:=by
 simp[G,stepG,unwind,doReturn,Frame.at,hn,hd,e,f,results,d,GStep.after,vcz]
end Go.Conc
namespace Go.Proofs.YtebcnmadaaimoaaGreat
open Go.Proofs.Tryz
namespace gi
open Conc ConcM az bo ag ft ix
theorem Zo:∀{n:Nat}{l:e8},l.Nodup->(∀p∈l,p<n)->l.length<=n
 |0,l,_,h=>by cases l with|nil=>simp|cons a l=>exact absurd (h a Ab) AX
 |n+1,l,hn,h=>by
  have b:(l.filter (· != n)).Nodup:=hn.filter _;have c:=Zo (n:=n) b AF;have e:l.length<=(l.filter (· != n)).length+l.count n:=by clear h b c hn;induction l with|nil=>simp|cons a l d=>grind
  grind
section
variable{c:dy}
def ane{l:ag.Lo At}{γ:ag.aN ck}(h:ij (al (av c)) l γ){p:Nat}{q:uac}(d:l.aj=.work (.has p) q):q.length<c.N:=by
 obtain⟨xs,dQ,b,a⟩:=vh h;rw[d]at b;have key:∀r,(p::q.map (·.1)).count r<=if r<γ.aj.taken then 1 else 0:=λr=>by have f:=a.own r;grind[nY,dB,hand,nX]
 have f:=Zo (n:=c.N) (l:=p::q.map (·.1)) AF (λr e=>by
  have:=key r;have i:=vep.2 e;have g:=a.aU;grind)
 grind
end
end gi
namespace iS
open Conc ConcM az bo ag ft ix gi
variable{a:Act}{f:uaj}
section
section
variable{Z:e_}{mine M M':c7}{w0 w w1:aL}{bs:uao}
theorem fO:cj M []=M:=by grind[cj]
def af.p5(h:af Z mine w0 bs w):af Z (cj mine bs) w [] w:=by
 refine⟨.refl _ _ _,Ab,λb a=>?_,λb a=>h.eV b (by simp_all[fO]),Ab,Ab,λb a hK=>a.elim (λx=>h.vd b x hK) (λx=>h.sX b x (.inl hK))⟩;rcases a with a|(a|a)|a
 .exact h.lt b (.inl a)
 .exact h.lt b (.inr (.inl a))
 .exact h.R6 a
 .exact h.lt b (.inr (.inr a))
structure gj(Z:e_)(M:c7)(w:aL)(M':c7)(w':aL):Prop where
 sub:∀b,M b->M' b
 rw:ak Z M w w'
 aE:af Z M' w' [] w'
theorem gj.heap(h:gj Z M w M' w1){b:Nat}{o:Obj}(c:M b)(a:w.heap[b]?=some o):w1.heap[b]?=some o:=(h.rw.heap b (.inr c)).trans a
theorem gj.trans{d:c7}{c:aL}(h:gj Z M w M' w1)(k:gj Z M' w1 d c):gj Z M w d c:=
 ⟨λb a=>k.sub b (h.sub b a),h.rw.trans ⟨λb a=>k.rw.heap b (a.imp id (h.sub b)),k.rw.size,k.rw.later,k.rw.output,k.rw.tape⟩,k.aE⟩
def gj.now(h:gj Z M w M' w1){a:aL}(k:af Z M' w1 [] a):gj Z M w M' a:=by refine⟨h.sub,h.rw.trans ⟨λb c=>k.rw.heap b (c.imp id (h.sub b)),k.rw.size,k.rw.later,k.rw.output,k.rw.tape⟩,?_⟩;have:=af.p5 k;grind[fO]
def gj.start(h:af Z mine w0 bs w)(k:gj Z (cj mine bs) w M' w1):gj Z mine w0 M' w1:=
 ⟨λb a=>k.sub b (.inl a),h.rw.trans ⟨λb a=>k.rw.heap b (a.imp id .inl),k.rw.size,k.rw.later,k.rw.output,k.rw.tape⟩,k.aE⟩
end
section
variable{c:dy}
def ep(c:dy)(l:ag.Lo At)(M:c7)(w0:aL):cy (al (av c)):=⟨l,M,λw _=>af (al (av c)) M w0 [] w⟩
def yr(c:dy)(l:ag.Lo At)(M:c7)(w0:aL)(E:ag.aN ck->Prop):cy (al (av c)):=⟨l,M,λw γ=>af (al (av c)) M w0 [] w/\E γ⟩
def wR(c:dy)(l:ag.Lo At)(M:c7)(w0:aL):cy (al (av c)):=⟨l,M,λw γ=>af (al (av c)) M w0 [] w/\oG c.N γ.aj⟩
def af.rel{l:ag.Lo At}{γ:ag.aN ck}{M:c7}{w0 w w':aL}{g:uai}(h:af (al (av c)) M w0 [] w)(a:dP (al (av c)) l γ ⟨g,w,M⟩ w'):af (al (av c)) M w0 [] w':=
 h.on (by rw[fO];exact dP.rw a)
def Zp(l:ag.Lo At)(M:c7)(w0:aL):sW (ep c l M w0):=λ_ _ _ _ _ h _ a=>af.rel h a
def Jm(c:dy)(x y:ubq)(σ:cy (al (av c))):Prop:=∃l M w0,jx l.aj=false/\(M x.1/\w0.heap[x.1]?=some x.2)/\(M y.1/\w0.heap[y.1]?=some y.2)/\σ=ep c l M w0
def ua{x y:ubq}:∀σ,Jm c x y σ->sW σ:=by rintro _ ⟨l,M,w0,_,_,_,rfl⟩;exact Zp _ _ _
def Zq{x y:ubq}:∀σ,Jm c x y σ->∀w γ,σ.S w γ->σ.S {w with drawn:=w.drawn+1} γ:=by rintro _ ⟨l,M,w0,_,_,_,rfl⟩ w γ h;exact⟨h.rw.trans ⟨λ_ _=>U,vac _,.refl _,U,U⟩,h.cW,h.lt,h.eV,h.sX,h.iI,h.vd⟩
variable{Q:cf}{Stop:Bool->ag.Lo At->aX->Prop}{m:Bool}{b:Frame}{ops:du}
def Jn{x y z:ubq}(s:z=x\/z=y){o:Oper}{v:Value}(f:Region.wanted o (yielded ops a.tmps)=true)(h:∀w,w.heap[z.1]?=some z.2->(execOp a.eval o).run Q w=.ok (.value v) w/\∀e∈listed Q b.fn a o w,∃off,e=⟨.cell ⟨z.1,off,none⟩,false,false⟩):nV Q b ops (Jm c x y) o v a:=by
 refine .inl ⟨f,?_⟩;rintro _ ⟨l,M,w0,n,u,t,rfl⟩ w γ w' r g hS p m;have il:=Zp (c:=c) l M w0 w γ w' r g hS p m;have i:M z.1/\w0.heap[z.1]?=some z.2:=AF;obtain⟨q,k⟩:=h w' ((il.rw.heap z.1 (.inr i.1)).trans i.2);refine⟨q,AE _ _ λe j d=>?_,?_⟩
 .obtain⟨off,rfl⟩:=k e AF;exact .inl ⟨U,.inr (.inl i.1),n⟩
 .rintro⟨e,j,f⟩;obtain⟨off,rfl⟩:=k e j;rcases f with f|f|⟨_,f⟩|⟨_,f⟩|⟨f,_⟩<;>cases f
def yt{Z:e_}{Stop:Bool->Z.Lo->aX->Prop}{σ:cy Z}{K:cy Z->Act->Prop}{o:Oper}{args:df}{V:Value->cy Z->Prop}(h:∀w,(execOp a.eval o).run Q w=.ok (.enter f args) w/\listed Q b.fn a o w=#[])(d:jw Q Stop m f args σ V)(k:∀u c,V u c->K c (a.put o.dst u)):RU Q Stop m b o σ a K:=
 ⟨f,args,V,λw γ w' e g _ _ _=>⟨(h w').1,by rw[(h w').2];exact trivial,AF⟩,d,k⟩
def pf{o:Oper}{fn:Func}{d:Code}{args:uav}{ats:uar}(c:o.op=.call {callee:=.value (.func f),args,argTypes:=ats})(g:Q.funcs[f]?=some fn)(e:(fn.name== "runtime.NumGoroutine")=false)(h:fn.body=some d){vs:df}(hv:args.map a.eval=vs)(w:aL):(execOp a.eval o).run Q w=.ok (.enter f vs) w/\listed Q b.fn a o w=#[]:=by
 grind[run_call_body,listed,events_call_body,seen_none]
def Se{o:Oper}{r:uap}{name:String}{args:uav}{ats:uar}(c:o.op=.call {callee:=.invoke r name,args,argTypes:=ats}){w:aL}{n:Next}{rv:Value}{vs:df}(d:a.eval r=rv)(hv:args.map a.eval=vs)(h:(callMethod rv name vs).run Q w=.ok n w/\(callMethod rv name vs).events Q w #[]=#[]):(execOp a.eval o).run Q w=.ok n w/\listed Q b.fn a o w=#[]:=by
 subst hv;subst d;obtain⟨g,f⟩:=h;unfold listed;have e:execOp a.eval o=callMethod (a.eval r) name (args.map a.eval):=by unfold execOp;simp only[c,resolve,invoke];generalize args.map a.eval=u;simp_all[Array.getElem?_append_left]
 grind[seen_none]
def anf{Z:e_}{Stop:Bool->Z.Lo->aX->Prop}{k:fC}{cs:dZ}{σ:cy Z}{o:Oper}{args:df}(h:∀w,(execOp a.eval o).run Q w=.ok (.enter f args) w/\listed Q b.fn a o w=#[])(c:∀(a':Act)(i:Nat)(rest:e8),a'.defers=a.defers->∀w γ,σ.S w γ->bg Z Q Stop m σ.l γ ⟨G (Frame.enter Q f args .normal) (b.at a' (.inRegion ops (i::rest)::k)::cs),w,σ.mine⟩):RV Q Stop m b k cs ops o σ a:=
 ⟨f,args,λw γ w' d g _ _ _=>⟨(h w').1,by rw[(h w').2];exact trivial,AF⟩,c⟩
def Jo{Z:e_}{Stop:Bool->Z.Lo->aX->Prop}(e:∀l g g1,¬Z.pa l g g1){σ:cy Z}{γ:Z.aN}{w d:aL}{V:Value->cy Z->Prop}{o:Oper}{args:df}{i:Nat}{rest:e8}{k:fC}{cs:dZ}(n:ops[i]?=some o)(j:Region.wanted o (yielded ops a.tmps)=true)(hk:b.kind≠ .early)(h:(execOp a.eval o).run Q w=.ok (.enter f args) w/\listed Q b.fn a o w=#[])(p:jw Q Stop m f args σ V)(hS:σ.S w γ)(hK:∀u c,V u c->∀w γ,c.S w γ->bg Z Q Stop m c.l γ ⟨G (b.at (a.put o.dst u) (.inRegion ops rest::k)) cs,w,c.mine⟩):Then (Z:=Z) Q Stop m σ.l γ ⟨G (b.at a (.inRegion ops (i::rest)::k)) cs,d,σ.mine⟩ w:=by
 refine F6 e (stepG_enter n j hk h.1) U h.2 (p b a ops i rest k cs (λu c hv q r s=>?_) w γ hS);grind
def nZ(c:dy)(b4 w:aL):Prop:=∀b,c.K b->w.heap[b]?=b4.heap[b]?
def nZ.more{b4 w w':aL}{M M':c7}(h:nZ c b4 w)(d:gj (al (av c)) M w M' w'):nZ c b4 w':=λb a=>(d.rw.heap b (.inl a)).trans (h b a)
def nZ.aE{b4 w0 w:aL}{M:c7}{bs:uao}(h:nZ c b4 w0)(k:af (al (av c)) M w0 bs w):nZ c b4 w:=λb a=>(k.rw.heap b (.inl a)).trans (h b a)
structure Jp(c:dy)(b4:aL)(Q:cf)(Stop:Bool->ag.Lo At->aX->Prop)(Sf:uaj):Prop where
 Zr:∀T,T<c.N->c.b3 T=true->c.least=.N
 rows:∀T,T<c.N->c.b3 T=true->c.rows T=0
 place:∀T,T<c.N->c.b3 T=true->∃b o n k,c.place T=.S b o n k
 cmp:∀T T',T<c.N->c.b3 T=true->T'<c.N->c.b3 T'=true->∀l M w1 E,jx l.aj=false->(∀γ ai,E γ->(al (av c)).dO l γ ai->E ai)->af (al (av c)) M w1 [] w1->nZ c b4 w1->
  jw Q Stop false Sf #[c.place T,c.place T'] (yr c l M w1 E) (λu bx=>∃z:Int,u=.I z/\(z<0↔T<T')/\∃M' w2,gj (al (av c)) M w1 M' w2/\bx=yr c l M' w2 E)
def Jp.ang{b4:aL}{a:uaj}(h:∀T,c.b3 T=false):Jp c b4 Q Stop a:=by constructor<;>intros<;>simp_all
def AS(pv:Value):Ending:=.panicked [{v:=.iface 71 pv,recovered:=false}]
def Comes(c:dy)(cV:uag)(T:Nat)(e:Ending)(M:c7)(w:aL):Prop:=(c.b3 T=false/\∃v,e=.returned v/\cV T v M w)\/(c.b3 T=true/\e=AS (c.place T))
structure ub(c:dy)(b4:aL)(Q:cf)(Stop:Bool->ag.Lo At->aX->Prop)(vl:uaj)(gl:Value)(jM:uaj)(gV:Value)(fr aZ:uas)(nh cV:uag):Prop where
 inv:∀(args:df)(w:aL),(callMethod gl "Piece" args).run Q w=.ok (.enter jM (#[gV]++args)) w/\(callMethod gl "Piece" args).events Q w #[]=#[]
 anh:∀T l M w0,T<c.N->jx l.aj=false->af (al (av c)) M w0 [] w0->nZ c b4 w0->jw Q Stop false jM #[gV,.I (fr T:Int),.I (aZ T:Int)] (ep c l M w0) (λu bx=>∃M' w1,gj (al (av c)) M w0 M' w1/\nh T u M' w1/\bx=ep c l M' w1)
 ani:∀T l M w0 u,T<c.N->jx l.aj=false->af (al (av c)) M w0 [] w0->nZ c b4 w0->nh T u M w0->F0 Q Stop false vl #[u] (ep c l M w0) (λe bx=>∃M' w1,gj (al (av c)) M w0 M' w1/\Comes c cV T e M' w1/\bx=ep c l M' w1)
 slice:∀T v M w,c.b3 T=false->cV T v M w->∃s bE,v=.slice s (c.rows T) bE
 fails:Jp c b4 Q Stop 123
 mono:∀T v M w M' w',cV T v M w->(∀b,c.K b\/M b->w'.heap[b]?=w.heap[b]?)->(∀b,M b->M' b)->cV T v M' w'
def oI(c:dy)(cV:uag)(q:uac)(M:c7)(w:aL):Prop:=∀x∈q,c.b3 x.1=false->cV x.1 x.2 M w
def oI.more{vl jM:uaj}{gl gV:Value}{fr aZ:uas}{nh cV:uag}{b4:aL}(J:ub c b4 Q Stop vl gl jM gV fr aZ nh cV){q:uac}{M M':c7}{w w':aL}(h:oI c cV q M w)(a:gj (al (av c)) M w M' w'):oI c cV q M' w':=
 λx b d=>J.mono _ _ _ _ _ _ (h x b d) a.rw.heap a.sub
end
end
end iS
namespace c3
open Conc ConcM az bo ag ft ix gi iS
variable{f:uaj}{w0:aL}
section
section
variable{Z:e_}{Q:cf}{Stop:Bool->Z.Lo->aX->Prop}{m:Bool}{l:Z.Lo}
def Zs(G:Z.Good)(x:Z.past l=false)(T:∀g g1,¬Z.pa l g g1){post:aX->Prop}{X:aX}{K':c7}(h:i_ Q m K' post X):
 ∀(γ:Z.aN)(fr:c7),(∀b,K' b->Z.K b\/fr b)->X.g.status=.running->(∀b,X.mine b\/fr b->¬Z.hX b)->(∀b,fr b->¬X.mine b/\¬Z.K b/\b<X.w.heap.size)->(∀b,Z.hX b->b<X.w.heap.size)->(∀b,Z.K b->b<X.w.heap.size/\¬X.mine b)->
  (∀(Y:aX)(o:Z.aN),post Y->Z.dO l γ o->Y.g.status=.running->(∀b,Y.mine b\/fr b->¬Z.hX b)->(∀b,fr b->¬Y.mine b/\b<Y.w.heap.size/\Y.w.heap[b]?=X.w.heap[b]?)->X.w.heap.size<=Y.w.heap.size->
   (∀b,Z.K b->¬Y.mine b/\Y.w.heap[b]?=X.w.heap[b]?)->(∀b,X.mine b->Y.mine b)->(∀b,Y.mine b->X.mine b\/(X.w.heap.size<=b/\b<Y.w.heap.size))->OsLater X.w.os Y.w.os->Y.w.output=X.w.output->Y.w.tape=X.w.tape->bg Z Q Stop m l o (qM Y fr))->bg Z Q Stop m l γ (qM X fr):=by
 induction h with
 |done h=>intro γ fr _ hs y r _ w k;exact k _ γ h (G.refl _ _) hs y AF Jb AF (λ_ h=>h) AF (.refl _) rfl rfl
 |@step X ok U F=>
  intro γ fr p hs y r hsz w k;refine bg.mk hs λw' o H i=>?_;have n:kv K' X w':=⟨λb f=>i.rely.heap b (f.elim (λh=>(p b h).imp id .inr) (λh=>.inr (.inl h))),i.rely.size,i.rely.env⟩;obtain⟨g1,w1,es,hst,hg⟩:=ok w' n;have W:∀b,grown X.mine w' w1 b->¬Z.hX b:=by
   rintro b (f|⟨f,_⟩)
   .grind
   .intro hS;have:=hsz b hS;have:=i.rely.size;grind[qM]
  have V:∀b,fr b->¬grown X.mine w' w1 b:=by
   rintro b f (h|⟨h,_⟩)
   .grind
   .have:=(r b f).2.2;have:=i.rely.size;grind[qM]
  have L:∀b,fr b->w1.heap[b]?=X.w.heap[b]?:=λb f=>by have c:=i.rely.heap b (.inr (.inr f));simp[qM]at c;rw[<-c];refine hg.kept b ?_ (r b f).1;grind
  have R:(⟨g1,w1,grown (qM X fr).mine w' w1⟩:aX)=qM ⟨g1,w1,grown X.mine w' w1⟩ fr:=by
   unfold qM;congr 1
   grind[grown]
  refine .quiet hst ⟨hg.run,⟨λb f E _=>hg.kept b f λh=>E (.inl h),hg.size,by rw[hg.os];exact .refl _,hg.output,hg.tape⟩,λb f hS=>hg.kept b f AF,AE _ _ λe z d=>?_,?_⟩ ?_
  .have:=hg.evs e AF;unfold x2 at this;unfold tO;cases q:e.loc with
   |cell a=>
    rw[q]at this;obtain⟨c,t,s⟩:=this;refine .inl ⟨s,?_,x⟩;cases j:e.write with
    |true=>exact .inr (.inl ((t j).imp .inl id))
    |false=>
     rcases c with c|c
     .rcases p _ c with h|h
      .grind
      .exact .inr (.inl (.inl (.inr h)))
     .exact .inr (.inl (c.imp .inl id))
   |obj a=>
    rw[q]at this;obtain⟨c,t,s⟩:=this;refine⟨s,?_,x⟩;cases j:e.write with
    |true=>exact .inr ((t j).imp .inl id)
    |false=>
     rcases c with c|c
     .rcases p _ c with h|h
      .grind
      .exact .inr (.inl (.inr h))
     .exact .inr (c.imp .inl id)
   |mark mk=>rw[q]at this;cases mk<;>first|exact .inl this|grind
   |output=>trivial
   |goroutines=>grind
  .rintro(⟨e,z,j⟩|h)
   .have:=hg.evs e z;unfold x2 at this;rcases j with h|h|⟨a,h⟩|⟨a,h⟩|⟨j,b,f,hS⟩
    .grind
    .grind
    .grind
    .grind
    grind[fq]
   grind
  .rw[R];have S:X.w.heap.size<=w1.heap.size:=vad i.rely.size hg.size;refine F w' g1 w1 es n hst o fr p hg.run AF AF AF (λb hK=>⟨AF,?_⟩) ?_
   .rintro(h|⟨h,_⟩)
    .grind
    .have:=(w b hK).1;have:=n.size;omega
   intro Y B D C N P Zt K A M O J v u;refine k Y B D (G.trans _ _ _ _ H C) N P AF AF (λb hK=>⟨(A b hK).1,?_⟩) (λb h=>M b (.inl h)) (λb h=>?_) ?_ ?_ ?_
   .have c:=i.rely.heap b (.inl hK);simp[qM]at c;rw[(A b hK).2,<-c];exact hg.kept b AF (w b hK).2
   .have I:X.w.heap.size<=w'.heap.size:=n.size;rcases O b h with(h|h)|h
    .grind
    .grind
    grind
   .exact(show OsLater X.w.os w'.os from i.later).trans (by rw[<-hg.os];grind)
   .rw[v];exact hg.output.trans i.output
   .rw[u];exact hg.tape.trans i.tape
end
def cJ(_:Nat):Prop:=False
structure Jq(C:cM)(cd G:c7)(w:aL)(R:uab)(v':Value)(kT:c7)(w':aL)(ρ:Ren)(w1:aL)(v:Value):Prop where
 post:R v w1
 val:ar ρ v v'
 world:∃S,eI C S ρ w1 w'
 le:Ren.le (eh (λb=>cd b\/G b) cJ) ρ
 dom:∀a b,ρ.rel a b->cd b\/kT b
 sub:∀b,G b->kT b
 old:∀a b,ρ.rel a b->a=b\/w.heap.size<=b
section
variable{c:dy}{Stop:Bool->ag.Lo At->aX->Prop}{m:Bool}
structure CL(C:cM)(cd G:c7)(w:aL)(R:Ending->aL->Prop)(e':Ending)(kT:c7)(w':aL)(ρ:Ren)(w1:aL)(e:Ending):Prop where
 post:R e w1
 val:Jk ρ e e'
 world:∃S,eI C S ρ w1 w'
 le:Ren.le (eh (λb=>cd b\/G b) cJ) ρ
 dom:∀a b,ρ.rel a b->cd b\/kT b
 sub:∀b,G b->kT b
 old:∀a b,ρ.rel a b->a=b\/w.heap.size<=b
def Zv{P:cf}{upd:Bool}(C:(da P upd).Good)(Z:upd=false){fn:Func}{D:Code}(z:P.funcs[f]?=some fn)(hk:ir P upd fn=true)(d:fn.body=some D)(B:vi fn=true){l:ag.Lo At}(hp:jx l.aj=false){E:ag.aN ck->Prop}(H:∀γ k,E γ->(al (av c)).dO l γ k->E k){cd G M:c7}(W:∀b,cd b->c.K b)(hG:∀b,G b->M b)(hg:∀g,g<=P.globals.size->cd g){args:df}(A:aM (eh (λb=>cd b\/G b) cJ) args args){R:aL->Ending->aL->Prop}(j:∀i e w,R i e w->e≠ .outgrown)(I:ie (da P upd) (λb=>cd b\/G b) cJ w0)(X:∀w,(∀b,cd b\/G b->w.heap[b]?=w0.heap[b]?)->∀i,gb (da P upd) (λb=>cd b\/G b) cJ w i->∀T,Calls (ae P upd) f args {i with tape:=T} (R i)):
 F0 P Stop m f args (yr c l M w0 E) (λF J=>∃p M' w',(∃w i ρ w1 e,(∀b,cd b\/G b->w.heap[b]?=w0.heap[b]?)/\gb (da P upd) (λb=>cd b\/G b) cJ w i/\CL (da P upd) cd G w (R i) F p w' ρ w1 e)/\(∀b,p b->M' b)/\gj (al (av c)) M w0 M' w'/\J=yr c l M' w' E):=by
 intro a2 aF aC aJ aO aH csZ O w γ hS;have hF:af (al (av c)) M w0 [] w:=hS.1;have r:=dk (bD c);have N:∀b,cd b\/G b->w.heap[b]?=w0.heap[b]?:=λb d=>hF.rw.heap b AF;have L:ie (da P upd) (λb=>cd b\/G b) cJ w:=λb d=>by obtain⟨o,h1,h2⟩:=I b d;grind
 obtain⟨i,q⟩:=Ip (da P upd) (λb=>cd b\/G b) cJ w;have u:=i_.more (K':=λb=>cd b\/G b) AF (amV C z hk d B L AF AF A (R:=R i) (j i) q AF m (a2.at aF (.inRegion aC (aJ::aO)::aH)) csZ);have V:(⟨aY (Frame.enter P f args .normal) (a2.at aF (.inRegion aC (aJ::aO)::aH)::csZ),w,M⟩:aX)=qM ⟨aY (Frame.enter P f args .normal) (a2.at aF (.inRegion aC (aJ::aO)::aH)::csZ),w,cJ⟩ M:=by
  unfold qM;congr 1
  funext b
  exact propext ⟨.inr,λh=>h.resolve_left (λx=>x)⟩
 show bg _ _ _ _ l γ ⟨aY (Frame.enter P f args .normal) (a2.at aF (.inRegion aC (aJ::aO)::aH)::csZ),w,M⟩;rw[V];have n:∀b,M b->¬(al (av c)).hX b:=λb h=>hF.eV b (.inr (.inl h));refine Zs r AF (λ_ _ h=>h) u γ M AF rfl (λb d=>n b (d.resolve_left (λx=>x))) (λb d=>⟨λx=>x,hF.vd b d,hF.lt b (.inr (.inl d))⟩) (λb hS=>hF.lt b (.inr (.inr hS))) (λb hK=>⟨hF.lt b (.inl hK),λx=>x⟩) ?_;rintro Y k ⟨ρ,w1,v,v',j⟩ y Si M3 Zt hsz K Sj Q t U S;have hsz':w.heap.size<=Y.w.heap.size:=hsz;have s:gj (al (av c)) M w0 (λb=>Y.mine b\/M b) Y.w:=by
  refine⟨AF,hF.rw.trans ⟨λb d=>?_,hsz,t,U,S⟩,.refl _ _ _,Ab,λb d=>?_,λb d=>?_,Ab,Ab,λb d hK=>?_⟩
  .grind
  .rcases d with h|(h|h)|h
   .exact vap (hF.lt b (.inl h)) hsz'
   .exact(Q b h).elim (λx=>x.elim) (λx=>x.2)
   .grind
   .exact vap (hF.lt b (.inr (.inr h))) hsz'
  .rw[fO]at d;rcases d with h|h
   .exact r.nb b h
   grind
  .rcases d with h|h
   .grind
   .exact hF.vd b h hK
 have:=O v' (yr c l (λb=>Y.mine b\/M b) Y.w E) ⟨λb=>G b\/Y.mine b,_,Y.w,⟨w,i,ρ,w1,v,N,q,j.post,j.val,j.world,j.le,λa b h=>?_,AF,λa b h=>?_⟩,AF,s,rfl⟩ Y.w k ⟨s.aE,H _ _ hS.2 y⟩
 .unfold qM;have e:=j.g;rw[e];exact this
 .rcases j.dom a b h with h|h
  .grind
  grind
 .rcases j.old a b h with h|h
  .exact .inl h.1
  grind
def Zx{P:cf}{l:ag.Lo At}{M:c7}{args:df}{V nf:Ending->cy (al (av c))->Prop}(h:F0 P Stop m f args (yr c l M w0 λ_=>True) V)(g:∀e a,V e a->∃M' w',a=yr c l M' w' (λ_=>True)/\nf e (ep c l M' w')):F0 P Stop m f args (ep c l M w0) nf:=
 λa2 aF aC aJ aO aH csZ hK w γ hS=>h a2 aF aC aJ aO aH csZ (λe a hv d i j=>by
  obtain⟨M',w',rfl,b⟩:=g e a hv;exact hK e _ b d i j.1) w γ ⟨hS,NE⟩
def ann{P:cf}{upd:Bool}(y:(da P upd).Good)(p:upd=false){fn:Func}{C:Code}(q:P.funcs[f]?=some fn)(hk:ir P upd fn=true)(r:fn.body=some C)(t:vi fn=true){l:ag.Lo At}(k:jx l.aj=false){cd G M:c7}(n:∀b,cd b->c.K b)(x:∀b,G b->M b)(hg:∀g,g<=P.globals.size->cd g){args:df}(s:aM (eh (λb=>cd b\/G b) cJ) args args){R:ubo}(D:ie (da P upd) (λb=>cd b\/G b) cJ w0)(o:∀w,(∀b,cd b\/G b->w.heap[b]?=w0.heap[b]?)->∀a,gb (da P upd) (λb=>cd b\/G b) cJ w a->∀T,Calls (ae P upd) f args {a with tape:=T} (λe w1=>∃v,e=.returned v/\R a v w1)):
 jw P Stop m f args (ep c l M w0) (λu j=>∃d M' w',(∃w a ρ w1 v,(∀b,cd b\/G b->w.heap[b]?=w0.heap[b]?)/\gb (da P upd) (λb=>cd b\/G b) cJ w a/\Jq (da P upd) cd G w (R a) u d w' ρ w1 v)/\(∀b,d b->M' b)/\gj (al (av c)) M w0 M' w'/\j=ep c l M' w'):=
 (Zx (nf:=λe j=>∃u,e=.returned u/\∃d M' w',(∃w a ρ w1 v,(∀b,cd b\/G b->w.heap[b]?=w0.heap[b]?)/\gb (da P upd) (λb=>cd b\/G b) cJ w a/\Jq (da P upd) cd G w (R a) u d w' ρ w1 v)/\(∀b,d b->M' b)/\gj (al (av c)) M w0 M' w'/\j=ep c l M' w')
  (Zv (E:=λ_=>True) y p q hk r t k (λ_ _ _ _=>trivial) n x hg s (R:=λa e w1=>∃v,e=.returned v/\R a v w1) (λa e w1 h=>by obtain⟨v,rfl,-⟩:=h;simp) D o)
  (by
   rintro H j ⟨d,M',w',⟨w,a,ρ,w1,e,B,A,i⟩,z,F,rfl⟩;obtain⟨v,rfl,k⟩:=i.post;cases i.val with
   |ret hv=>exact⟨M',w',U,_,U,d,M',w',⟨w,a,ρ,w1,v,B,A,k,hv,i.world,i.le,i.dom,i.sub,i.old⟩,z,F,U⟩)).ret λ_ _ h=>h
end
end
def yv(R:uax):Prop:=∀(ρ:Ren)(w w':aL)(v v':Value),Carry ρ w w'->ar ρ v v'->R w v->R w' v'
def Sn(cd:c7)(R:uax):Prop:=∀(ρ:Ren)(w w':aL)(v v':Value),(∀b,cd b->ρ.rel b b)->(∀a b b',ρ.rel a b->ρ.rel a b'->b=b')->Carry ρ w w'->ar ρ v v'->R w v->R w' v'
def yv.k{R:uax}(h:yv R)(cd:c7):Sn cd R:=λρ w w' v v' _ _ b hv a=>h ρ w w' v v' b hv a
def oJ(C:cM)(cd X:c7)(R:uax)(u:Value)(M:c7)(w:aL):Prop:=
 ∃G:Nat->Prop,(∀b,G b->M b/\¬X b)/\ie C (λb=>cd b\/G b) cJ w/\ar (eh (λb=>cd b\/G b) cJ) u u/\R w u
variable{w w' w1:aL}{v v':Value}{ρ:Ren}
section
variable{C:cM}{cd X:c7}
theorem vm{D:c7}(h:ie C D cJ w)(e:∀b,D b->w'.heap[b]?=w.heap[b]?):ie C D cJ w':=λb a=>by obtain⟨o,d,c⟩:=h b a;grind
def ue{D:c7}(j:∀b,D b->w'.heap[b]?=w.heap[b]?)(i:ie C D cJ w):Carry (eh D cJ) w w':=by
 refine⟨?_,λb s es k⟨r,hd⟩ e=>?_⟩
 .rintro a a' v ⟨⟨q,hd⟩,p,o⟩ hv;obtain⟨c,e,fr,g,l,k3⟩:=xN hv;rw[q]at g;have n:=(j _ hd).trans g;refine⟨v,oq n (o▸l) (p▸k3),?_⟩;obtain⟨ob,f,d⟩:=i _ hd;rw[g]at f;cases f;rcases d with d|d
  .cases d with|cells _ m _=>exact m.get _ _ _ k3 k3
  .exact d.elim
 .subst r;obtain⟨ob,f,d⟩:=i _ hd;rw[e]at f;cases f;rcases d with d|d
  .cases d with|map _ h=>exact⟨es,(j _ hd).trans e,h⟩
  .exact d.elim
theorem oJ.mono{R:uax}(f:yv R){u:Value}{M M':c7}(h:oJ C cd X R u M w)(j:∀b,cd b\/M b->w'.heap[b]?=w.heap[b]?)(i:∀b,M b->M' b):oJ C cd X R u M' w':=by obtain⟨G,g,d,c,e⟩:=h;have a:∀b,cd b\/G b->w'.heap[b]?=w.heap[b]?:=AF;exact⟨G,AF,vm d a,c,f _ _ _ _ _ (ue a d) c e⟩
theorem CL.ret{G:c7}{R:Ending->aL->Prop}{a:c7}(h:CL C cd G w R (.returned v') a w' ρ w1 (.returned v)):Jq C cd G w (λv w1=>R (.returned v) w1) v' a w' ρ w1 v:=by cases h.val with|ret hv=>exact⟨h.post,hv,h.world,h.le,h.dom,h.sub,h.old⟩
def CL.err{G:c7}{R:Ending->aL->Prop}{f:Ending}{g:c7}{b o n k:Nat}(m:cd b)(h:CL C cd G w R f g w' ρ w1 (AS (.S b o n k))):f=AS (.S b o n k):=by obtain⟨S,i⟩:=h.world;have j:ρ.rel b b:=h.le.1 b b ⟨U,.inl m⟩;unfold AS;cases h.val with|Zl l=>cases l with|@cons _ a3 _ _ q p=>cases p;obtain⟨v,rc,gx⟩:=a3;obtain⟨hv,e,d⟩:=q;simp only at hv e d;subst e d;cases hv with|iface _ hv=>cases hv with|slice _ _ r=>rename_i a';obtain⟨ab,s,aB⟩:=a';obtain⟨r1,c,a⟩:=r;have:=i.one _ _ _ j r1;simp only at c a this;subst c a this;rfl
def Jq.ZA{G:c7}{R:uab}{f M':c7}(h:Jq C cd G w R v' f w' ρ w1 v)(k:∀b,f b->M' b/\¬X b){Q:uax}(g:Sn cd Q)(i:Q w1 v):oJ C cd X Q v' M' w':=by
 obtain⟨S,d⟩:=h.world;have e:(λb=>cd b\/((∃a,ρ.rel a b)/\¬cd b))=λb=>∃a,ρ.rel a b:=by
  funext b
  apply propext;constructor
  .rintro(c|c)
   .exact⟨b,h.le.1 b b ⟨U,.inl c⟩⟩
   grind
  grind
 refine⟨λb=>(∃a,ρ.rel a b)/\¬cd b,λb c=>?_,?_,?_,g ρ w1 w' v v' (λb c=>h.le.1 b b ⟨U,.inl c⟩) d.one d.carry h.val i⟩
 .obtain⟨⟨a,j⟩,hk⟩:=c;exact k b ((h.dom a b j).resolve_left hk)
 .rw[e];exact d.closed cJ
 .rw[e];exact ar.right (σ:=eh (λb=>∃a,ρ.rel a b) cJ) (λa b l=>⟨U,a,l⟩) h.val
end
theorem jw.mono{Z:e_}{Q:cf}{Stop:Bool->Z.Lo->aX->Prop}{m:Bool}{args:df}{σ:cy Z}{V nf:Value->cy Z->Prop}(h:jw Q Stop m f args σ V)(b:∀u a,V u a->nf u a):jw Q Stop m f args σ nf:=
 λa2 aF aC aJ aO aH csZ hK w γ hS=>h a2 aF aC aJ aO aH csZ AF w γ hS
def oK{l:uad}(h:∀v∈l,ar ρ v v):aM ρ l.toArray l.toArray:=by apply aM.LD;induction l with|nil=>exact .nil|cons a l b=>exact .cons (h a Ab) AF
variable{jM vl:uaj}{b4:aL}{gV gl:Value}
def anp{P:cf}{upd:Bool}(K:(da P upd).Good)(A:upd=false){t r:Func}{So Sp:Code}(Sq:P.funcs[jM]?=some t)(Sr:ir P upd t=true)(Ss:t.body=some So)(St:vi t=true)(Su:P.funcs[vl]?=some r)(Sv:ir P upd r=true)(Sw:r.body=some Sp)(Sx:vi r=true){Stop:Bool->ag.Lo At->aX->Prop}{c:dy}{cd:c7}(z:∀b,cd b->c.K b)(hg:∀g,g<=P.globals.size->cd g)(U:ie (da P upd) (λb=>cd b\/cJ b) cJ b4){fr aZ:uas}(hinv:∀(args:df)(w:aL),(callMethod gl "Piece" args).run P w=.ok (.enter jM (#[gV]++args)) w/\(callMethod gl "Piece" args).events P w #[]=#[])(ZB:ar (eh (λb=>cd b\/cJ b) cJ) gV gV){uf ug:uau}(H:∀T,Sn cd (uf T))(S:∀T,yv (ug T))(fH:∀T,T<c.N->∀w,(∀b,cd b\/cJ b->w.heap[b]?=b4.heap[b]?)->∀f,gb (da P upd) (λb=>cd b\/cJ b) cJ w f->∀m,Calls (ae P upd) jM #[gV,.I (fr T:Int),.I (aZ T:Int)] {f with tape:=m} (λe w1=>∃v,e=.returned v/\uf T w1 v))(F:Jp c b4 P Stop 123)(V:∀T,T<c.N->c.b3 T=true->∃b o n k,c.place T=.S b o n k/\cd b)(cr:∀T,T<c.N->∀f u,uf T f u->∀m,Calls (ae P upd) vl #[u] {f with tape:=m} (λe w1=>(c.b3 T=false/\∃v,e=.returned v/\ug T w1 v)\/(c.b3 T=true/\e=AS (c.place T))))(FJ:∀T w v,c.b3 T=false->ug T w v->∃s bE,v=.slice s (c.rows T) bE):
 ub c b4 P Stop vl gl jM gV fr aZ (λT u M w=>oJ (da P upd) cd c.K (uf T) u M w) (λT v M w=>oJ (da P upd) cd c.K (ug T) v M w):=by
 refine⟨hinv,λT l M w0 C B hk J=>?_,λT l M w0 u C B hk J Y=>?_,λT v M w d h=>?_,F,λT v M w M' w' h Q Z=>oJ.mono (S T) h AF Z⟩
 .have Q:∀b,cd b\/cJ b->w0.heap[b]?=b4.heap[b]?:=λb d=>J b (z b (d.resolve_right (λx=>x)));refine jw.mono (ann K A Sq Sr Ss St B (G:=cJ) (M:=M) z (λb h=>h.elim) hg (R:=λ_ v w1=>uf T w1 v) (oK λv hv=>?_) (vm U Q) AF) ?_
  .simp at hv;rcases hv with rfl|rfl|rfl
   .grind
   .exact .int _ _
   .exact .int _ _
  .rintro u bx ⟨W,M',w',⟨w,f,ρ,w1,v,_,_,i⟩,p,q,rfl⟩;exact⟨M',w',q,i.ZA (λb d=>⟨p b d,λx=>q.aE.vd b (p b d) x⟩) (H T) i.post,rfl⟩
 .obtain⟨G,y,j,N,L⟩:=Y;refine Zx (Zv (E:=λ_=>True) K A Su Sv Sw Sx B (λ_ _ _ _=>trivial) (G:=G) (M:=M) z AF hg (R:=λ_ e w1=>(c.b3 T=false/\∃v,e=.returned v/\ug T w1 v)\/(c.b3 T=true/\e=AS (c.place T))) (oK λv hv=>?_) (λ_ e _ h=>?_) j (λw I f aG m=>cr T C f u ?_ m)) ?_
  .grind
  .rcases h with⟨-,v,rfl,-⟩|⟨-,rfl⟩<;>simp[AS]
  .have ca:=vm j I;exact H T (eh (λb=>cd b\/G b) cJ) _ _ _ _ (λb d=>⟨rfl,.inl d⟩) (λa b b' y j=>y.1.symm.trans j.1) (aG.carry ca (.inl A)) N (H T (eh (λb=>cd b\/G b) cJ) _ _ _ _ (λb d=>⟨rfl,.inl d⟩) (λa b b' y j=>y.1.symm.trans j.1) (ue I j) N L)
  .rintro e' bx ⟨W,M',w',⟨w,f,ρ,w1,e,_,_,i⟩,p,q,rfl⟩;refine⟨M',w',rfl,M',w',q,?_,rfl⟩;rcases i.post with⟨d,v,rfl,hv⟩|⟨d,rfl⟩
   .refine .inl ⟨d,?_⟩;cases he:i.val with|ret X=>exact⟨_,rfl,(CL.ret i).ZA (λb d=>⟨p b d,λx=>q.aE.vd b (p b d) x⟩) ((S T).k cd) hv⟩
   .obtain⟨b,o,n,k,O,D⟩:=V T C d;rw[O]at i;exact .inr ⟨d,by rw[O];exact CL.err D i⟩
 .obtain⟨G,_,_,_,L⟩:=h;grind
def ZC{P:cf}{upd:Bool}(o:(da P upd).Good)(l:upd=false){i f:Func}{I H:Code}(F:P.funcs[jM]?=some i)(E:ir P upd i=true)(D:i.body=some I)(C:vi i=true)(B:P.funcs[vl]?=some f)(A:ir P upd f=true)(z:f.body=some H)(y:vi f=true){Stop:Bool->ag.Lo At->aX->Prop}{c:dy}{cd:c7}(k:∀b,cd b->c.K b)(hg:∀g,g<=P.globals.size->cd g)(j:ie (da P upd) (λb=>cd b\/cJ b) cJ b4){fr aZ:uas}(hinv:∀(args:df)(w:aL),(callMethod gl "Piece" args).run P w=.ok (.enter jM (#[gV]++args)) w/\(callMethod gl "Piece" args).events P w #[]=#[])(x:ar (eh (λb=>cd b\/cJ b) cJ) gV gV){uf ug:uau}(J:∀T,yv (uf T))(L:∀T,yv (ug T))(r:∀T,T<c.N->∀w,(∀b,cd b\/cJ b->w.heap[b]?=b4.heap[b]?)->∀a,gb (da P upd) (λb=>cd b\/cJ b) cJ w a->∀d,Calls (ae P upd) jM #[gV,.I (fr T:Int),.I (aZ T:Int)] {a with tape:=d} (λe w1=>∃v,e=.returned v/\uf T w1 v))(ox:∀T,c.b3 T=false)(t:∀T,T<c.N->∀a u,uf T a u->∀d,Calls (ae P upd) vl #[u] {a with tape:=d} (λe w1=>∃v,e=.returned v/\ug T w1 v))(K:∀T w v,ug T w v->∃s bE,v=.slice s (c.rows T) bE):
 ub c b4 P Stop vl gl jM gV fr aZ (λT u M w=>oJ (da P upd) cd c.K (uf T) u M w) (λT v M w=>oJ (da P upd) cd c.K (ug T) v M w):=
 anp o l F E D C B A z y k hg j hinv x (λT=>(J T).k cd) L r (.ang ox) (λT _ h=>by rw[ox T]at h;cases h) (λT n a u m d=>(t T n a u m d).mono λe w1⟨v,q,p⟩=>.inl ⟨ox T,v,q,p⟩) (λT w v _ h=>K T w v h)
end c3
namespace bX
open Conc ConcM RowKit az bo ag ft ix gi iS c3
abbrev a7:=List Int×List cZ
def Sy(w:aL)(rd:ual)(r:a7):Prop:=∃pv jT,rd 0=some pv/\rd 1=some jT/\eb w pv r.1/\jq w jT r.2
abbrev gm(w:aL):=a0 w 2 Sy
def anu:wS Ri:=by rintro ρ w w' rd i x-hr ⟨h0,g,f,e,d⟩;obtain⟨v0,a,b0⟩:=hr 0 _ h0;obtain⟨v1,a1,b1⟩:=hr 1 _ g;obtain⟨v2,b,b2⟩:=hr 2 _ f;obtain⟨v3,c,h⟩:=hr 3 _ e;rw[b0.Zz]at a;rw[b1.ud]at a1;rw[b2.ud]at b;rw[h.Zy]at c;exact⟨a,a1,b,c,d⟩
def qW:wS Sy:=by rintro ρ w w' rd i x b a ⟨pv,h,h0,f,e,d⟩;obtain⟨c,g,b0⟩:=a 0 _ h0;obtain⟨v',a1,b1⟩:=a 1 _ f;exact⟨c,v',g,a1,az.a0.carry wT b b0 e,az.a0.carry anu b b1 d⟩
theorem wU:pG Ri:=λ_ _ _ _ _ _ a h=>⟨a _ _ h.1,a _ _ h.2.1,a _ _ h.2.2.1,a _ _ h.2.2.2.1,h.2.2.2.2⟩
def qX:pG Sy:=λ_ _ _ _ _ hk a⟨pv,b,h0,e,d,c⟩=>⟨pv,b,a _ _ h0,a _ _ e,d.mono kw hk,c.mono wU hk⟩
def ZD(xs:ubg):∀j(h:j<xs.length),(two xs)[j*2]?=some xs[j].1/\(two xs)[j*2+1]?=some xs[j].2:=by induction xs with|nil=>grind|cons a l b=>intro j h;cases j with|zero=>exact⟨U,U⟩|succ j=>have:=b j AF;rw[show(j+1)*2=j*2+1+1 from AX];exact this
variable{v:Value}{w:aL}
def M7{Row:uau}{nQ N:Nat}(h:Au Row nQ N v w)(rs:List a7)(a4:rs.length=N)(hs:N<=9223372036854775807)(b:∀j(h:j<rs.length) p q,Row j w (.agg #[p,q])->eb w p rs[j].1/\jq w q rs[j].2):gm w v rs:=by
 obtain⟨xs,l,d,c⟩:=h;subst a4;rcases d.2 with⟨rfl,h0⟩|⟨g,cap,bf,rfl,-,hg,-,-,-,ht⟩
 .grind[a0.nil]
 .refine⟨_,cap,U,hs,λi hi=>⟨g,0,U,?_⟩⟩;have a:i<xs.length:=AX;have e:=b i hi _ _ (c i a);have f:=ZD xs i a;have k:∀o v,(two xs)[o]?=some v->w.cell? (.a g o)=some v:=by grind[World.cell?]
  refine⟨xs[i].1,xs[i].2,?_,?_,e⟩
  .grind
  grind
def anv{pl:uaz}{vs:List cZ}{p q:Value}(h:Ms pl vs w (.agg #[p,q]))(c:pl.length<=9223372036854775807)(hv:vs.length<=9223372036854775807)(ht:∀d∈vs,d.text.size<=9223372036854775807):eb w p pl/\jq w q vs:=by obtain⟨a,bv,b,cs,e,g,l,f,k,j⟩:=h;simp at e;obtain⟨rfl,rfl⟩:=e;refine⟨⟨_,_,U,c,λi hi=>⟨a,0,U,?_⟩⟩,jq.eT f hv ht j _⟩;show w.cell? (.a a (0+i*1+0))=_;rw[g.rules.1];have:b[0+i*1+0]?=b.toList[i]?:=Ab;grind
def wV(t:List aI)(fr aZ:Nat)(w:aL)(u:Value):Prop:=
 ∃j_ g9 bs v,u=.func (.func 207) #[] #[.P j_ 0,.P g9 0,.P bs 0]/\
  w.cell? (.a j_ 0)=some (.I fr)/\w.cell? (.a g9 0)=some (.I aZ)/\w.cell? (.a bs 0)=some v/\oy w v t
def Sz{ρ:Ren}{b:Nat}(h:ar ρ (.P b 0) v):∃a,v=.P a 0/\dA ρ ⟨b,0,none⟩ ⟨a,0,none⟩:=by cases h with|@ptr _ a' k=>obtain⟨a,o',s'⟩:=a';obtain⟨d,c,k3⟩:=k;simp only at d c k3;subst c;subst k3;exact⟨a,U,d,U,U⟩
def ZE{ρ:Ren}{f:uaj}{b1 b2 e:Nat}(h:ar ρ (.func (.func f) #[] #[.P b1 0,.P b2 0,.P e 0]) v):
 ∃c1 bG dH,v=.func (.func f) #[] #[.P c1 0,.P bG 0,.P dH 0]/\dA ρ ⟨b1,0,none⟩ ⟨c1,0,none⟩/\dA ρ ⟨b2,0,none⟩ ⟨bG,0,none⟩/\dA ρ ⟨e,0,none⟩ ⟨dH,0,none⟩:=by
 cases h with|@func fn n a a' b k i j d q c=>cases i;obtain⟨l⟩:=a';obtain⟨m⟩:=k;simp only[ves,List.length_nil,vdo]at j d;have g:l=[]:=AF;subst g;match m,d with| [x,y,z],_=>obtain⟨c1,rfl,p⟩:=Sz (c 0 _ x U U);obtain⟨bG,rfl,o⟩:=Sz (c 1 _ y U U);obtain⟨dH,rfl,k3⟩:=Sz (c 2 _ z U U);grind
def anw(t:List aI)(fr aZ:Nat):yv (wV t fr aZ):=by rintro ρ w w' u p a e ⟨o,q,bs,v,rfl,i,h,g,f⟩;obtain⟨c1,bG,dH,rfl,d,c,k3⟩:=ZE e;obtain⟨dw,a1,m⟩:=a.cell _ _ _ d i;obtain⟨dI,b,l⟩:=a.cell _ _ _ c h;obtain⟨j,n,k⟩:=a.cell _ _ _ k3 g;rw[m.ud]at a1;rw[l.ud]at b;exact⟨c1,bG,dH,j,U,a1,b,n,az.a0.carry yu a k f⟩
def ZF(rs:List a7):yv (λw v=>gm w v rs):=λ_ _ _ _ _ a hv h=>az.a0.carry qW a hv h
def anx:(ae prog false).funcs[(205:Nat)]?=some f205:=bB (upd:=false) func205 AQ
def anz(t:List aI)(v:Value)(fr aZ:Nat)(w:aL)(hv:oy w v t):
 Calls (ae prog false) 205 #[.agg #[v],.I fr,.I aZ] w λe w'=>∃u,e=.returned u/\wV t fr aZ w' u:=by
 obtain⟨a,cap,rfl,-,-⟩:=id hv;go_enter anx,ntmps205
 go_wp2
 go_ret
 have b1:=((ah.new w #[.slice a t.length cap] 110).alloc (.cells #[.I (fr:Int)] 3)).alloc (.cells #[.I (aZ:Int)] 3);have b2:=(ah.new (w.alloc (.cells #[.slice a t.length cap] 110)) #[.I (fr:Int)] 3).alloc (.cells #[.I (aZ:Int)] 3);have b:=ah.new ((w.alloc (.cells #[.slice a t.length cap] 110)).alloc (.cells #[.I (fr:Int)] 3)) #[.I (aZ:Int)] 3;simp at b2 b;refine⟨_,U,w.heap.size+1,w.heap.size+1+1,w.heap.size,.slice a t.length cap,U,b2.rules.1 0,b.rules.1 0,b1.rules.1 0,hv.mono tE (bp.b7 ?_)⟩;exact(((vaa _ w).alloc Jb _).alloc Ab _).alloc A2 _
def iA(t:List aI)(fr aZ:Nat):List a7:=(List.range (aZ-fr)).map λk=>([((fr+k:Nat):Int)],t.map (gz · (fr+k)))
theorem uh(t:List aI)(fr aZ:Nat):(iA t fr aZ).length=aZ-fr:=by simp[iA]
def AV(w:aL)(a:Nat->Question->Nat):bp w {w with tape:=a}:=λ_ _ _ h=>h
def wV.keeps{t:List aI}{fr aZ:Nat}{w':aL}{u:Value}(hk:bp w w')(h:wV t fr aZ w u):wV t fr aZ w' u:=by obtain⟨a,f,bs,v,rfl,e,d,c,b⟩:=h;exact⟨a,f,bs,v,U,hk _ _ _ e,hk _ _ _ d,hk _ _ _ c,b.mono tE hk⟩
def anB:ir prog false f205=true:=by decide+kernel
def ZG:ir prog false f110=true:=by decide+kernel
def anC:ir prog false f207=true:=by decide+kernel
def lU:(da prog false).Good:=XR false AQ AQ
def anD(t:List aI)(fr aZ:Nat)(a:t.length<=1000000)(g:fr<=aZ)(b:aZ<=1000000)(f:aZ-fr<=300)(c6:∀i,i<aZ->∀c∈t,wG i c)(w:aL)(u:Value)(h:wV t fr aZ w u):
 Calls (ae prog false) 110 #[u] w λe w'=>∃v,e=.returned v/\gm w' v (iA t fr aZ):=by
 obtain⟨k,A,bs,v,rfl,z,y,x,s⟩:=h;refine(akP f w (ak8 _ _ _) (λargs w=>dg YB anC args w) (ak9 t v fr aZ w s a g b c6 k A bs z y x)).mono ?_;rintro e w' ⟨v',rfl,m,-⟩;refine⟨v',U,M7 m _ (uh _ _ _) AX λj o p q l=>?_⟩;have n:j<aZ-fr:=by rwa[uh]at o
 have B:(iA t fr aZ)[j]=([((fr+j:Nat):Int)],t.map (gz · (fr+j))):=by simp[iA]
 rw[B];refine anv l Ab AF λd hd=>?_;obtain⟨c,r,rfl⟩:=vbl.1 hd;exact(c6 (fr+j) AX c r).small
def anE{Stop:Bool->ag.Lo At->aX->Prop}{c:dy}{b4:aL}{cd:c7}(m:∀b,cd b->c.K b)(hg:∀g,g<=prog.globals.size->cd g)(e:ie (da prog false) (λb=>cd b\/cJ b) cJ b4){gl:Value}{t:List aI}{fr aZ:uas}(hv:oy b4 v t)(hrel:ar (eh (λb=>cd b\/cJ b) cJ) v v)(hinv:∀(args:df)(w:aL),(callMethod gl "Piece" args).run prog w=.ok (.enter 205 (#[.agg #[v]]++args)) w/\(callMethod gl "Piece" args).events prog w #[]=#[])(f:t.length<=1000000)(l:∀T,T<c.N->fr T<=aZ T/\aZ T<=1000000/\aZ T-fr T<=300/\∀i,i<aZ T->∀c∈t,wG i c)(tH:∀T,T<c.N->c.rows T=aZ T-fr T)(ox:∀T,c.b3 T=false):
 ub c b4 prog Stop 110 gl 205 (.agg #[v]) fr aZ
  (λT u M w=>oJ (da prog false) cd c.K (wV t (fr T) (aZ T)) u M w) (λT v M w=>oJ (da prog false) cd c.K (λw v=>T<c.N/\gm w v (iA t (fr T) (aZ T))) v M w):=by
 refine ZC lU U func205 anB U AQ func110 ZG U AQ m hg e hinv (.rF (.one hrel))
  (uf:=λT=>wV t (fr T) (aZ T)) (ug:=λT w v=>T<c.N/\gm w v (iA t (fr T) (aZ T))) (λT=>anw _ _ _) (λT _ _ _ _ _ o hv h=>⟨h.1,ZF _ _ _ _ _ _ o hv h.2⟩) (λT j w k d x a=>?_) ox (λT j d u n a=>?_) (λT w v h=>?_)
 .exact anz t v (fr T) (aZ T) {d with tape:=a} (az.a0.carry yu (x.carry (vm e k) KB) hrel (az.a0.carry yu (ue k e) hrel hv) |>.mono tE (AV d a))
 .obtain⟨s,r,q,p⟩:=l T j;exact(anD t (fr T) (aZ T) f s r q p {d with tape:=a} u (wV.keeps (AV d a) n)).mono AF
 .obtain⟨j,y,cap,rfl,-,-⟩:=h;simp_all[uh]
end bX
namespace bX
open RowKit az
def SA:(ae prog false).funcs[(114:Nat)]?=some f114:=bB (upd:=false) func114 AQ
@[simp] theorem aEX:cX false 114:=dg SA AQ
theorem anG(n:Nat)(hn:n<=100000)(w:aL):
 Calls (ae prog false) 114 #[.N,.I n] w λe w'=>∃v,e=.returned v/\w'.ownsRow w.heap.size 74 2 v 0 []/\cC w w':=by
 by_cases h0:n=0
 .subst h0;go_enter SA,ntmps114
  go_wp2
  go_ret
  simp_all[vbm,vaa]
 .have f:(0:Int)<(n:Int):=by omega
  have a:t74.bytes=48:=Ao;have d:=nextslicecap_zero (need:=n) AX;go_enter SA,ntmps114
  go_wp2
  all_goals try(exfalso;simp only[a,d]at *;omega)
  go_ret
  have g:n<=(Question.appendCap n 0 74).cut (w.tape w.drawn (Question.appendCap n 0 74)):=HX;have c:(Question.appendCap n 0 74).cut (w.tape w.drawn (Question.appendCap n 0 74))<=maxLen:=by simp only[Question.cut,maxLen];have:=Nat.mod_lt (w.tape w.drawn (Question.appendCap n 0 74)) (show 0<2^63-n by omega);omega
  generalize(Question.appendCap n 0 74).cut (w.tape w.drawn (Question.appendCap n 0 74))=b at *;refine⟨_,U,⟨Ab,.inr ⟨w.heap.size,b,_,U,vac _,(ah.new w _ _).drew,vav _,c,?_,Ab⟩⟩,((vaa _ w).alloc Jb _).drew⟩;grind[size_zeroCells]
theorem ZH{n:Nat}{P:Nat->Value×Value->Prop}(h:∀i,i<n->∃p,P i p):∀k,k<=n->∃xs:List (Value×Value),xs.length=k/\∀i(hi:i<xs.length),P i xs[i]
 |0,_=>⟨[],U,AF⟩
 |k+1,hk=>by obtain⟨xs,c,b⟩:=ZH h k AX;obtain⟨p,a⟩:=h k AX;refine⟨xs++[p],AF,λi hi=>?_⟩;grind
theorem ZI(xs:ubg)(j:Nat)(u:Value)(h:(two xs)[j]?=some u):∃i,∃hi:i<xs.length,(j=i*2/\u=xs[i].1)\/(j=i*2+1/\u=xs[i].2):=by have a:j<(two xs).length:=(vab.1 h).1;rw[Yk]at a;have hi:j / 2<xs.length:=AX;refine⟨j / 2,hi,?_⟩;obtain⟨g1,b⟩:=ZD xs (j / 2) hi;grind
variable{w:aL}
def anH{v:Value}{rs:List a7}(h:gm w v rs)(h0:0<rs.length):
 ∃b off c,∃xs:List (Value×Value),v=.S b off rs.length c/\xs.length=rs.length/\(∀j u,(two xs)[j]?=some u->w.cell? (.a b (off+j))=some u)/\(∀u∈two xs,u.oneCell'=true)/\
  ∀i(hi:i<xs.length)(o:i<rs.length),eb w xs[i].1 rs[i].1/\jq w xs[i].2 rs[i].2:=by
 obtain⟨r,c,rfl,-,g⟩:=h;obtain⟨b,off,rfl,-⟩:=g 0 h0;have m:∀i,i<rs.length->∃p:Value×Value,w.cell? (.a b (off+i*2))=some p.1/\w.cell? (.a b (off+i*2+1))=some p.2/\∀hi:i<rs.length,eb w p.1 rs[i].1/\jq w p.2 rs[i].2:=by intro i hi;obtain⟨s,t,e,pv,n,c_,c1,q,hv⟩:=g i hi;simp_all
 obtain⟨xs,l,f⟩:=ZH m rs.length Jb;refine⟨b,off,c,xs,U,l,λj u d=>?_,λu d=>?_,AF⟩
 .grind[ZI]
 .obtain⟨j,k⟩:=List.getElem?_of_mem d;obtain⟨i,hi,⟨-,rfl⟩|⟨-,rfl⟩⟩:=ZI xs j u k
  .obtain⟨a,cc,e,-⟩:=((f i hi).2.2 AX).1;rw[e];rfl
  .obtain⟨a,cc,e,-⟩:=((f i hi).2.2 AX).2;rw[e];rfl
def M8(w:aL)(rd:ual)(rs:List a7):Prop:=∃v,rd 0=some v/\gm w v rs
def anI:(ae prog false).funcs[(90:Nat)]?=some f90:=bB (upd:=false) func90 AQ
def lh(ps:List (List a7))(k:Nat):List a7:=(ps.take k).flatten
def kU(ps:List (List a7))(k:Nat):Nat:=(lh ps k).length
variable{ps:List (List a7)}
theorem M9{k:Nat}(h:k<ps.length):lh ps (k+1)=lh ps k++ps[k]:=by grind[lh,List.take_succ_eq_append_getElem]
theorem F9{k:Nat}(h:k<ps.length):kU ps (k+1)=kU ps k+ps[k].length:=by grind[kU,M9]
def anJ{P:cf}(w:aL)(t ty e:uaa)(i:TypeInfo)(ht:P.underlying t=some (.slice e))(hi:P.info? e=some i)(base xa:uan)(n cap b:Nat)(a:n<=cap):
 (Builtin.append_ #[t,t] ty #[.slice base n cap,.slice xa 0 b]).run P w=.ok (.slice base n cap) w:=by
 cases base<;>cases xa<;>simp[Builtin.append_,run_underlying ht,sizeOf,typeInfo,hi,a,Builtin.lenOf,Builtin.firstCells,storeCells,go_sem]
def M_{P:cf}{ops:du}{rest:uba}{o:Oper}{a:Act}{Q:uah}(g:o.guard=none)(s x:uap)(t:uaa)(f:o.op=.call {callee:=.builtin .append,args:=#[s,x],argTypes:=#[t,t]})(e:uaa)(i:TypeInfo)(ht:P.underlying t=some (.slice e))(hi:P.info? e=some i){base xa:uan}{n cap c:Nat}(hs:a.eval s=.slice base n cap)(d:a.eval x=.slice xa 0 c)(b:n<=cap)(h:wpList P ops Q rest (a.put o.dst (.slice base n cap)) w):wpList P ops Q (o::rest) a w:=by
 refine wpList_plain g λK hK=>?_;have hrun:=anJ (P:=P) w t o.type e i ht hi base xa n cap c b;unfold Oper.wp;simp[execOp,f,resolve,invoke,builtin,hs,d,hrun,Result.andThen];exact hK _ _ h
def Na{base:Nat}{e:uaa}{size n gc:Nat}{a:uan}{xs:uad}(h:w.ownsRow base e size (.slice a n gc) n xs):n<=gc:=by
 rcases h.2 with⟨e,h0⟩|⟨g',cap',bf,e,-,-,b,-⟩
 .grind
 grind
def anK(ps:List (List a7))(L:Value)(w:aL)(h:a0 w 1 M8 L ps)(vo:ps.length<=1000)(B:∀k,kU ps k<=100000):
 Calls (ae prog false) 90 #[L] w λe w'=>∃v,e=.returned v/\gm w' v (lh ps ps.length)/\nP (kU ps ps.length) v/\cC w w':=by
 obtain⟨bP,cap,rfl,hl,y⟩:=h;go_enter anI,ntmps90
 go_wp2
 go_loopw [3,5,11] (λa _ b W=>∃k:Nat,k<=ps.length/\a=.I (kU ps k:Int)/\b=.I (k:Int)/\W=w) (λ_ _ b _=>ps.length-(intOf b).toNat)
 case atStart=>exact⟨0,vav _,rfl,rfl,rfl⟩
 case round=>
  obtain⟨k,hk,rfl,rfl,rfl⟩:=hrel;by_cases d:k<ps.length
  .obtain⟨b,off,rfl,v,f,hv⟩:=y k d;simp at f;obtain⟨bZ,bY,H,-⟩:=a0.shape hv;subst H;have fA:=fp f;have R:(0:Int)<=(k:Int):=AX;have T:(k:Int)<(ps.length:Int):=AX;have l:=B (k+1);rw[F9 d]at l;have s3:¬((kU ps k:Int)+(ps[k].length:Int)<0):=AX;clear y hv;generalize k8:kU ps k=X at *;go_wp2
   exact⟨⟨k+1,AX,by grind[F9],Ab,NE⟩,Hs⟩
  .have C:k=ps.length:=by omega
   subst C;have eo:¬((ps.length:Int)<(ps.length:Int)):=AX;have wW:=B ps.length;have t:Hid _:=y;clear y;obtain⟨w,rfl⟩:∃x:aL,x=wr:=⟨wr,rfl⟩;go_wp2
   refine(anG (kU ps ps.length) wW w).mono ?_;rintro e w1 ⟨v1,rfl,A,b_⟩;obtain⟨a1,c1,rfl⟩:=gQ A;have CN:Hid (w1.ownsRow w.heap.size 74 2 (.slice a1 0 c1) 0 []):=A;have ig:Hid (cC w w1):=b_;clear A b_;go_wp2
   go_loopw [6,8,27] (λa _ b W=>∃(k:Nat)(c:ubg)(r:uan)(gc:Nat),k<=ps.length/\a=.slice r (kU ps k) gc/\b=.I (k:Int)/\c.length=(kU ps k)/\W.ownsRow w.heap.size 74 2 (.slice r (kU ps k) gc) (kU ps k) (two c)/\(∀i(F:i<c.length)(Y:i<(lh ps k).length),eb w c[i].1 ((lh ps k)[i]).1/\jq w c[i].2 ((lh ps k)[i]).2)/\cC w W) (λ_ _ b _=>ps.length-(intOf b).toNat)
   case atStart=>exact⟨0,[],a1,c1,vav _,rfl,rfl,rfl,CN.out,AF,ig.out⟩
   case round=>
    obtain⟨k,c,r,gc,hk,rfl,rfl,ZJ,cO,Nb,V⟩:=hrel;have o:Hid _:=cO;have I:Hid _:=Nb;have m:Hid (cC w wr):=V;clear cO Nb V;by_cases d:k<ps.length
    .obtain⟨b,off,rfl,v,f,hv⟩:=t.out k d;simp at f;by_cases E:ps[k].length=0
     .obtain⟨bZ,bY,rfl,-,-⟩:=id hv;have n:=bp.b7 m.out;have s:=n _ _ _ f;have fA:=fp s;have R:(0:Int)<=(k:Int):=AX;have T:(k:Int)<(ps.length:Int):=AX;obtain⟨D,hi,-,-,-⟩:=vci Mk;have l:=F9 d;rw[E,vcc]at l;have U:lh ps (k+1)=lh ps k:=by rw[M9 d,vbq E,vce]
      have CO:Hid (kU ps k<=gc):=Na o.out;rw[E]at s;clear hv f n t;go_wp2_with (at_builtin;apply sQ)
      unfold ky;refine M_ rfl _ _ 64 rfl 74 D ((rL _ _ _).trans underlying64) hi rfl rfl CO.out ?_;have z:Hid _:=l;have CP:Hid _:=U;clear l U hi;go_wp2
      go_roundw
      case rel=>exact⟨k+1,c,r,gc,AX,by rw[z.out];rfl,Ab,by rw[z.out];grind,by rw[z.out];exact o.out,by rw[CP.out];exact I.out,m.out⟩
      case measure=>simp[intOf];omega
     .have n:=bp.b7 m.out;have s:=n _ _ _ f;have fA:=fp s;obtain⟨l3,P,pc,xs,rfl,Nc,K,Q,Js⟩:=anH hv AX;have yz:Hid (∀j u,(two xs)[j]?=some u->wr.cell? (Addr.add ⟨l3,P,none⟩ j)=some u):=λj u hu=>by rw[vdz];exact n _ _ _ (K j u hu)
      have mn:Hid _:=Q;have SC:Hid _:=Js;have R:(0:Int)<=(k:Int):=AX;have T:(k:Int)<(ps.length:Int):=AX;have l:=B (k+1);rw[F9 d]at l;obtain⟨D,hi,qJ,rQ,rR⟩:=vci Mk;have S:Hid (w.heap.size<=wr.heap.size):=m.out.size;clear hv f n K Q Js t;go_wp2_with (at_builtin;apply sQ)
      unfold ky;refine wpList_append_own _ rfl _ _ 64 rfl w.heap.size 74 D _ 2 48 ((rL _ _ _).trans underlying64) hi qJ rQ rR rfl AU (.slice r (kU ps k) gc) (kU ps k) (two c) rfl o.out ⟨l3,P,none⟩ ps[k].length pc (two xs) rfl (by rw[Yk,Nc]) yz.out mn.out C6 AX S.out ?_;intro v' J O M _;obtain⟨Z,bG,rfl⟩:=gQ O;have CQ:Hid (J.ownsRow w.heap.size 74 2 (.slice Z (kU ps (k+1)) bG) (kU ps (k+1)) (two (c++xs))):=by grind[Hid,F9,two]
      have iP:Hid (cC w J):=m.out.grown M S.out (λg hg=>(vdn o.out g hg).1);have Ga:Hid (∀i(F:i<(c++xs).length)(Y:i<(lh ps (k+1)).length),eb w (c++xs)[i].1 ((lh ps (k+1))[i]).1/\jq w (c++xs)[i].2 ((lh ps (k+1))[i]).2):=by
       intro i F Y;have aEZ:c.length=(lh ps k).length:=ZJ;simp[M9 d];by_cases ZK:i<c.length
       .rw[vcu ZK,vcu AX];exact I.out i ZK AX
       .rw[vdm AX,vdm AX];have:=SC.out (i-c.length) AF AF;grind
      have MD:=F9 d;have Nd:Hid ((c++xs).length=kU ps (k+1)):=by grind[Hid]
      clear O M s;rw[<-MD];clear MD;go_wp2
      go_roundw
      case rel=>exact⟨k+1,c++xs,Z,bG,AX,rfl,Ab,Nd.out,CQ.out,Ga.out,iP.out⟩
      case measure=>simp[intOf];omega
    .have C:k=ps.length:=by omega
     subst C;have jJ:¬((ps.length:Int)<(ps.length:Int)):=AX;clear t;go_wp2
     go_ret
     have n:=bp.b7 m.out;have Jt:kU ps ps.length<=gc:=by
      rcases o.out.2 with⟨e,h0⟩|⟨g',cap',bf,e,-,-,F,-⟩
      .grind
      grind
     refine⟨_,rfl,?_,⟨_,_,rfl,Jt⟩,m.out⟩;exact M7 (Row:=λj W x=>∃h:j<c.length,x=.agg #[c[j].1,c[j].2]) (N:=kU ps ps.length) ⟨c,ZJ,o.out,AF⟩ (lh ps ps.length) rfl AX (λj hj p q⟨hy,e⟩=>by
      simp at e;obtain⟨rfl,rfl⟩:=e;obtain⟨r1,r2⟩:=I.out j hy hj;grind[a0.mono,kw,wU])
end bX
namespace bc
open Conc ConcM az bo cF c3
abbrev c8(P:cf):cM:=da P true
section
variable{ρ:Ren}
def Wq(m:∀a b d,ρ.rel a b->ρ.rel a d->b=d){a b c:Addr}(h:dA ρ a b)(k:dA ρ a c):b=c:=by obtain⟨dw,dI,n⟩:=b;obtain⟨o,l,j⟩:=c;obtain⟨i,g,f⟩:=h;obtain⟨q,p,e⟩:=k;grind
def JP(m:∀a b o,ρ.rel a b->ρ.rel a o->b=o){x y:Value}(h:ar ρ x y):∀{z:Value},ar ρ x z->y=z:=by
 have all:∀{a a':df},a.size=a'.size->(∀(i:Nat)(v v':Value),a[i]?=some v->a'[i]?=some v'->∀{z:Value},ar ρ v z->v'=z)->∀{b:df},a.size=b.size->(∀(i:Nat)(v v':Value),a[i]?=some v->b[i]?=some v'->ar ρ v v')->a'=b:=by
  intro a a' hs d b j k;apply Array.ext
  .grind
  .intro i hi F;have E:i<a.size:=hs▸hi;exact d i a[i] a'[i] AF AF (k i _ _ AF AF)
 induction h with
 |bool b=>intro z k;cases k;rfl
 |int k n=>intro z k;cases k;rfl
 |string s=>intro z k;cases k;rfl
 |lQ=>intro z k;cases k;rfl
 |ptr r=>intro z k;cases k with|ptr r'=>rw[Wq m r r']
 |j2 l c=>intro z k;cases k;rfl
 |slice l c r=>intro z k;cases k with|slice _ _ r'=>rw[Wq m r r']
 |pD=>intro z k;cases k;rfl
 |map r=>intro z k;cases k with|map r'=>grind
 |pE=>intro z k;cases k;rfl
 |func C D j _ _ B A=>intro z k;cases k with|func g e q w u=>rw[all D B e w,all j A q u];cases C with|func f=>cases g;rfl|yield r=>cases g with|yield r'=>grind
 |nilFunc=>intro z k;cases k;rfl
 |iface t _ d=>intro z k;cases k with|iface _ k'=>grind
 |nilIface=>intro z k;cases k;rfl
 |agg hs _ d=>intro z k;cases k with|agg p k'=>grind
 |tuple hs _ d=>intro z k;cases k with|tuple p k'=>grind
end
def gI(P:cf):Item->Bool
 | .code c| .inLoop c| .inScope c=>j4 P true c
 | .inBlock _=>true
 | .inRegion ops _=>ops.all λo=>m6 P true o.op
 | _=>false
variable{P:cf}
def S_(a:(c8 P).Good){c:Code}(h:j4 P true c=true):(c8 P).mg c:=(a.oW c).2 ((XP P true true c).trans h)
def ao6(a:(c8 P).Good){ρ:Ren}{x:Item}(h:gI P x=true):sH (c8 P) ρ x x:=by cases x with|code c=>exact .code (S_ a h)|inLoop c=>exact .inLoop (S_ a h)|inScope c=>exact .inScope (S_ a h)|inBlock id=>exact .inBlock id|inRegion ops l=>exact .inRegion (λo b=>(XO P true true o.op).trans (van.1 h o b)) l| _=>cases h
theorem Wk(a:(c8 P).Good){ρ:Ren}:∀{l:fC},l.all (gI P)=true->m7 (c8 P) ρ l l
 | [],_=>.nil
 |x::l,h=>by simp only[vbi,vaf]at h;exact .cons (ao6 a h.1) (Wk a h.2)
theorem Wj{ρ:Ren}:∀{l a:fC},l.all (gI P)=true->m7 (c8 P) ρ l a->a=l
 | [],_,_,h=>by cases h;rfl
 |x::l,_,hk,h=>by simp only[vbi,vaf]at hk;cases h with|cons b c=>rw[Wj hk.2 c];cases b<;>first|rfl|cases hk.1
def ll(P:cf)(f:uaj):Prop:=∃fn c,(ae P true).funcs[f]?=some fn/\fn.body=some c
def JQ(d:(c8 P).Good){ρ:Ren}{f:uaj}(b:ll P f){a:Act}(c:aM ρ a.tmps a.tmps)(hd:a.defers=[]){k:fC}(hk:k.all (gI P)=true):eD (c8 P) ρ ((base f).at a k) ((base f).at a k):=
 ⟨U,b,c,Wk d hk,by show rG ρ a.defers a.defers;rw[hd];exact .nil,.run,U,.inl U,.none⟩
theorem JR{ρ:Ren}{f:uaj}{a:Act}(hd:a.defers=[]){k:fC}(hk:k.all (gI P)=true){g:Frame}(h:eD (c8 P) ρ ((base f).at a k) g):∃a':Act,g=(base f).at a' k/\aM ρ a.tmps a'.tmps/\a'.defers=[]:=by obtain⟨fn,tmps,todo,defers,mode,kind,ro⟩:=g;obtain⟨d,_,m,l,b,n,c,_,o⟩:=h;have e:todo=k:=Wj hk l;have b:rG ρ a.defers defers:=b;rw[hd]at b;have j:uO ρ .run mode:=n;have i:m4 ρ.rel none ro:=o;cases b;cases j;cases i;refine⟨⟨tmps,[]⟩,?_,m,U⟩;subst e;have d:f=fn:=d;have c:CallKind.normal=kind:=c;subst d;subst c;rfl
structure gW where
 n:Nat
 heap:Array Obj
abbrev ji(M:c7):Nat->Prop:=M
abbrev b9(M:c7):Ren:=eh M (ji M)
structure Home(O:gW)(P:cf)(M:c7)(Shun:uam)(w:aL):Prop where
 cl:ie (c8 P) M (ji M) w
 C4:∀g,g<=P.globals.size->M g
 sh:∀b,M b\/w.heap.size<=b->∀l,fq l=some b->¬Shun l
 new:∀b,M b->b≠0->O.n<=b
 ob:O.n<=w.heap.size
 old:∀b,0<b->b<O.n->w.heap[b]?=O.heap[b]?
 so:∀b,b<O.n->∀l,fq l=some b->¬Shun l
structure mw(w w':aL):Prop where
 size:w.heap.size<=w'.heap.size
 later:OsLater w.os w'.os
 output:w'.output=w.output
 tape:w'.tape=w.tape
theorem mw.refl(w:aL):mw w w:=⟨vac _,.refl _,U,U⟩
theorem mw.trans{a b c:aL}(h:mw a b)(k:mw b c):mw a c:=⟨vad h.size k.size,h.later.trans k.later,k.output.trans h.output,k.tape.trans h.tape⟩
def qa(ρ:Ren):Nat->Prop:=λb=>∃a,ρ.rel a b
section
variable{O:gW}{Post:uab}{n:Nat}{Shun:uam}{M:c7}{w:aL}
theorem Home.at(h:Home O P M Shun w)(k:Nat):Home O P M Shun (w.at k):=⟨h.cl,h.C4,h.sh,h.new,h.ob,h.old,h.so⟩
def Home.lt(h:Home O P M Shun w){b:Nat}(a:M b):b<w.heap.size:=by obtain⟨o,c,_⟩:=h.cl b a;grind
structure Behind(O:gW)(P:cf)(M:c7)(Shun:uam)(w:aL)(ρ:Ren)(bW w':aL):Prop where
 rel:∃S,eI (c8 P) S ρ bW w'
 le:Ren.le (b9 M) ρ
 gn:Home O P (qa ρ) Shun w'
 since:mw w w'
 old:∀a b,ρ.rel a b->(a=b/\M b)\/w.heap.size<=b
def Behind.same{ρ:Ren}{c w':aL}(h:Behind O P M Shun w ρ c w'){v v':Value}(hv:ar (b9 M) v v)(b:ar ρ v v'):v'=v:=by obtain⟨S,a⟩:=h.rel;exact(JP a.one (hv.mono h.le) b).symm
def Behind.mem{ρ:Ren}{c w':aL}(h:Behind O P M Shun w ρ c w'){b:Nat}(a:M b):qa ρ b:=⟨b,h.le.1 b b ⟨U,a⟩⟩
def Behind.val{ρ:Ren}{d w':aL}(_:Behind O P M Shun w ρ d w'){v v':Value}(b:ar ρ v v'):ar (b9 (qa ρ)) v' v':=ar.right (σ:=b9 (qa ρ)) (λa _ c=>⟨U,a,c⟩) b
def Behind.all{ρ:Ren}{d w':aL}(_:Behind O P M Shun w ρ d w'){v v':df}(b:aM ρ v v'):aM (b9 (qa ρ)) v' v':=aM.right (σ:=b9 (qa ρ)) (λa _ c=>⟨U,a,c⟩) b
theorem Behind.carry{ρ:Ren}{a w':aL}(h:Behind O P M Shun w ρ a w'):Carry ρ a w':=by obtain⟨S,b⟩:=h.rel;exact b.carry
theorem Home.cell(h:Home O P M Shun w){a:Addr}{v:Value}(i:M a.block)(hv:w.cell? a=some v):ar (b9 M) v v:=by
 obtain⟨c,e,fr,f,j,k3⟩:=xN hv;obtain⟨o,d,b⟩:=h.cl _ i;rw[f]at d;cases d;rcases b with b|b
 .cases b with|cells _ g _=>exact g.get _ _ _ k3 k3
 .exact b.elim
theorem Home.laid(h:Home O P M Shun w){b:aL}(g:gb (c8 P) M (ji M) w b){a:Addr}{v:Value}(f:M a.block)(hv:w.cell? a=some v):b.cell? a=some v:=by obtain⟨c,e,fr,d,j,k3⟩:=xN hv;obtain⟨i,k,_⟩:=g.cells h.cl f d;grind[oq]
def Behind.kept{ρ:Ren}{e c w':aL}(h:Behind O P M Shun w ρ c w')(d:Home O P M Shun w)(g:gb (c8 P) M (ji M) w e){a:Addr}{v:Value}(b:M a.block)(hv:w.cell? a=some v)(hk:e.cell? a=some v->c.cell? a=some v):w'.cell? a=some v:=by obtain⟨v2,k3,f⟩:=h.carry.cell a a v ⟨h.le.1 _ _ ⟨U,b⟩,U,U⟩ (hk (d.laid g b hv));rw[h.same (d.cell b hv) f]at k3;exact k3
def Home.next(c:Home O P M Shun w){X Y:aX}(f:cF.Left X Y)(j:X.w=w/\X.mine=ji M){ρ:Ren}{S:Sync}{n:aL}{k:Nat}(l:eI (c8 P) S ρ n (Y.w.at k))(e:Ren.le (b9 M) ρ)(hold:∀a b,ρ.rel a b->(b9 M).rel a b\/w.heap.size<=b):Home O P (qa ρ) Shun (Y.w.at k):=by
 obtain⟨rfl,o⟩:=j;have kept:∀b,b<X.w.heap.size->¬ji M b->Y.w.heap[b]?=X.w.heap[b]?:=λb m p=>f.kept b m AF;refine⟨l.closed _,λg hg=>⟨g,e.1 g g ⟨U,c.C4 g hg⟩⟩,λb d=>?_,λb⟨a,i⟩ d=>?_,vad c.ob f.size,λb h0 d=>?_,c.so⟩
 .rcases d with⟨a,i⟩|d
  .rcases hold a b i with h|h
   .exact c.sh b (.inl h.2)
   .exact c.sh b (.inr h)
  .exact c.sh b (.inr (vad f.size d))
 .rcases hold a b i with h|h
  .exact c.new b h.2 d
  .exact vad c.ob h
 .refine(kept b (vap d c.ob) λx=>?_).trans (c.old b h0 d);have:=c.new b x AX;omega
def Wi(v:(c8 P).Good)(i:Home O P M Shun w){f:uaj}{fr:Frame}{cs0 bs:dZ}(z:eD (c8 P) (b9 M) fr fr)(m:jn (c8 P) (b9 M) cs0 cs0)(x:jo fr cs0){R:Frame->List Frame->aL->aL->Prop}(hrun:∀e,gb (c8 P) M (ji M) w e->∀T,∃c cse d,Steps (ae P true) (lone fr (cs0++[eS f]) {e with tape:=T}) (lone c (cse++[eS f]) d)/\R c cse e d)(y:∀ρ c cse e d l j w',gb (c8 P) M (ji M) w e->R c cse e d->eD (c8 P) ρ c l->jn (c8 P) ρ cse j->Behind O P M Shun w ρ d w'->bU P Post n Shun 0 (aY l (j++bs)) w'):
 bU P Post n Shun 0 (aY fr (cs0++bs)) w:=by
 obtain⟨e,q⟩:=Ip (c8 P) M (ji M) w;have s:=XL (C:=(c8 P)) (f:=f) (base:=bs) (w0:=e) (mG:=w) (K:=λ_=>False) (rK:=ji M) (R:=λc cse d=>R c cse e d) v z m x (q.rel i.cl i.C4 AF) (λb h=>h) (λa b h=>.inr h.2)
  (λT=>by obtain⟨c,cse,d,⟨k,hk⟩,p⟩:=hrun e q T;exact⟨k,c,cse,d,hk,p⟩) true
 refine AZ (S9 s U (λb u=>i.lt AF) (λb u=>i.sh b AF) ?_);rintro Y ⟨ρ,c,cse,d,T,p,ht⟩ g;obtain⟨l,j,hg,t,o⟩:=ht.frames;rw[hg];refine .stop λk=>y ρ c cse e d l j (Y.w.at k) q p t o ?_;have r:=ht.world.rely (w':=Y.w.at k) (bound:=0) (⟨λ_ _=>U,vac _,U⟩:kv (λ_=>False) Y (Y.w.at k)) ht.dom AF;exact⟨⟨_,r⟩,ht.le,i.next g ⟨U,U⟩ r ht.le ht.old,⟨g.size,g.os,g.output,g.tape⟩,λa b h=>(ht.old a b h).imp id id⟩
end
section
open lK
variable{O:gW}
section
variable{P:cf}{Post:uab}{n:Nat}{Shun:uam}{M:c7}{w:aL}
def Tf(F:(c8 P).Good)(hF:P.follows .rangeFuncRecover=true){D:fv}(m:Home O P M Shun w){f:uaj}{fr:Frame}{cs0 bs:dZ}{g:uai}(hd:D.d<=bs.length)(hv:mS P D (aY fr (cs0++bs)) g)(J:eD (c8 P) (b9 M) fr fr)(s:jn (c8 P) (b9 M) cs0 cs0)(H:jo fr cs0){R:Frame->List Frame->aL->aL->Prop}(hrun:∀e,gb (c8 P) M (ji M) w e->∀T,∃c cse d,Steps (ae P true) (lone fr (cs0++[eS f]) {e with tape:=T}) (lone c (cse++[eS f]) d)/\R c cse e d)(I:∀ρ c cse e d p o w' g',gb (c8 P) M (ji M) w e->R c cse e d->eD (c8 P) ρ c p->jn (c8 P) ρ cse o->Behind O P M Shun w ρ d w'->mS P D (aY p (o++bs)) g'->bU P Post n Shun 0 g' w'):
 bU P Post n Shun 0 g w:=by
 obtain⟨e,y⟩:=Ip (c8 P) M (ji M) w;have B:=oX.var hF hd (XI (C:=(c8 P)) (f:=f) (base:=bs) (w0:=e) (mG:=w) (K:=λ_=>False) (rK:=ji M) (R:=λc cse d=>R c cse e d) F J s H (y.rel m.cl m.C4 λ_ _ l=>.inl l) (λb h=>h) (λa b h=>.inr h.2)
  (λT=>by obtain⟨c,cse,d,⟨k,hk⟩,u⟩:=hrun e y T;exact⟨k,c,cse,d,hk,u⟩) true) g hv
 refine AZ (S9 B hv.parts.1 (λb l=>m.lt (l.resolve_left λx=>x)) (λb l=>m.sh b (l.resolve_left λx=>x)) ?_);rintro A ⟨Y,⟨ρ,c,cse,d,T,u,ht⟩,z,v,L⟩ i;obtain⟨p,o,hg,E,t⟩:=ht.frames;rw[hg]at z;refine .stop λk=>I ρ c cse e d p o (A.w.at k) A.g y u E t ?_ z;have r:=ht.world.rely (w':=Y.w.at k) (bound:=0) (⟨λ_ _=>U,vac _,U⟩:kv (λ_=>False) Y (Y.w.at k)) ht.dom (λj q h=>absurd h (Nat.not_lt_zero _));rw[<-v]at r;exact⟨⟨_,r⟩,ht.le,m.next i ⟨U,U⟩ r ht.le ht.old,⟨i.size,i.os,i.output,i.tape⟩,λa b h=>(ht.old a b h).imp id id⟩
structure iE(D:fv)(a b:Act):Prop where
 size:b.tmps.size=a.tmps.size
 same:∀i,D.T i=false->b.tmps[i]?=a.tmps[i]?
 gone:∀i v,D.T i=true->a.tmps[i]?=some v->v=undef
 kept:∀i,D.K i=true->b.tmps[i]?=D.V i
 defers:b.defers=a.defers
structure A3(P:cf)(D:fv)(f:uaj):Prop where
 Gs:∃fn,P.funcs[f]?=some fn/\fn.results.all (C5 D)=true
 sl:∀t,D.sl t=true->∃e,P.underlying t=some (.slice e)
 NA:P.inits.idxOf? f=none
section
variable{D:fv}{f:uaj}{a b:Act}{k:fC}
def iE.Tg(h:iE D a b)(f:uaj)(k:fC):fc D ((base f).at a k) ((base f).at b k):=
 ⟨by simp only[Frame.at,base,h.defers],h.size,h.same,λ_=>h.gone,λ_=>h.kept⟩
def A3.be(h:A3 P D f)(hk:k.all (im D)=true)(a:Act):nn P D ((base f).at a k):=⟨λ_=>hk,U,h.Gs,h.sl,h.NA⟩
theorem fc.act{fr:Frame}(h:fc D ((base f).at a k) fr):∃b:Act,fr=(base f).at b k/\iE D a b:=by refine⟨⟨fr.tmps,a.defers⟩,?_,h.size,h.same,h.gone U,h.kept U,U⟩;have:=h.eq;rw[this];rfl
end
end
end
section
open lK
variable{O:gW}
section
variable{P:cf}{Post:uab}{n:Nat}{Shun:uam}{M:c7}{w:aL}
theorem fo(a:Act)(d:Option Tmp)(v:Value):(a.put d v).tmps.size=a.tmps.size:=by cases d<;>simp[Act.put]
theorem put_defers(a:Act)(d:Option Tmp)(v:Value):(a.put d v).defers=a.defers:=by cases d<;>rfl
structure apk(P:cf)(M:c7)(fh:uaj)(aF:Act)(aC:du)(aJ:Nat)(aH:fC)(D:Nat->fv)(cz:Act):Prop where
 n6:∀n,iE (D n) cz aF
 all:aM (b9 M) cz.tmps cz.tmps
 d:∀n,(D n).d=n
 fn:∀n,A3 P (D n) fh
 ops:∀n,aC.all (td (D n) aC)=true
 items:∀n,aH.all (im (D n))=true
 dst:∀n d,(aC[aJ]?).bind (·.dst)=some d->(D n).T d=false
 aU:∀n i,(D n).T i=true->(D n).K i=true
 follows:P.follows .rangeFuncRecover=true
structure xc(P:cf)(M:c7)(fh:uaj)(aF:Act)(aC:du)(aJ:Nat)(aH:fC):Prop where
 known:ll P fh
 tmps:aM (b9 M) aF.tmps aF.tmps\/∃D cz,apk P M fh aF aC aJ aH D cz
 defers:aF.defers=[]
 ops:gI P (.inRegion aC [])=true
 items:aH.all (gI P)=true
 dst:∃d,(aC[aJ]?).bind (·.dst)=some d/\d<aF.tmps.size
def gJ(O:gW)(P:cf)(Post:uab)(f:uaj)(args:df)(M:c7)(w:aL)(d:Nat)(V:ubc):Prop:=
 ∀n Shun,n+16*d<=200->Home O P M Shun w->∀fh aF aC aJ aO aH csZ,xc P M fh aF aC aJ aH->
  (∀u M' w' n' bQ,n'<=n+16*d->Home O P M' bQ w'->(∀b,M b->M' b)->ar (b9 M') u u->mw w w'->V u M' w'->
   bU P Post n' bQ 0 (aY ((base fh).at (aF.put ((aC[aJ]?).bind (·.dst)) u) (.inRegion aC aO::aH)) csZ) w')->
  bU P Post n Shun 0 (aY (Frame.enter P f args .normal) ((base fh).at aF (.inRegion aC (aJ::aO)::aH)::csZ)) w
def qd{M M':c7}(h:∀b,M b->M' b):Ren.le (b9 M) (b9 M'):=⟨λ_ b k=>⟨k.1,h b k.2⟩,λb k=>h b k⟩
def xc.rel(d:(c8 P).Good){b:uaj}{aF:Act}{aC:du}{aJ:Nat}{aH:fC}(h:xc P M b aF aC aJ aH)(l:e8){a:Act}(c:aM (b9 M) a.tmps a.tmps)(hd:a.defers=[]):eD (c8 P) (b9 M) ((base b).at a (.inRegion aC l::aH)) ((base b).at a (.inRegion aC l::aH)):=
 JQ d h.known c hd (by simp only[vbi,vaf];exact⟨h.ops,h.items⟩)
theorem xc.mono{M':c7}(c:∀b,M b->M' b){a:uaj}{aF:Act}{aC:du}{aJ:Nat}{aH:fC}(h:xc P M a aF aC aJ aH):xc P M' a aF aC aJ aH:=
 ⟨h.known,h.tmps.imp (λx=>x.mono (qd c)) (λ⟨D,d,x⟩=>⟨D,d,x.n6,x.all.mono (qd c),x.d,x.fn,x.ops,x.items,x.dst,x.aU,x.follows⟩),h.defers,h.ops,h.items,h.dst⟩
def Yd{ρ:Ren}{o w':aL}(m:Behind O P M Shun w ρ o w'){aF a':Act}{d:Nat}(e:d<aF.tmps.size)(l:aM (b9 M) aF.tmps aF.tmps)(h:aF.defers=[]){v:Value}(c:aM ρ (aF.put (some d) v).tmps a'.tmps)(b:a'.defers=[]):∃u,ar ρ v u/\a'=aF.put (some d) u:=by
 have hsz:a'.tmps.size=aF.tmps.size:=by rw[<-c.size,fo]
 obtain⟨u,k⟩:∃u,a'.tmps[d]?=some u:=⟨a'.tmps[d]'(hsz▸e),AF⟩;refine⟨u,c.get d v u (by simp[Act.put,e]) k,?_⟩;obtain⟨n,g⟩:=a';have b:g=[]:=b;subst b;show _=(⟨aF.tmps.setIfInBounds d u,aF.defers⟩:Act);rw[h];congr 1
 apply Array.ext
 .grind
 .intro j f a;have q:j<aF.tmps.size:=AF;apply vaq;rw[<-vao f,<-vao a,vak];by_cases p:d=j
  .grind
  .simp[p];have i:ar ρ aF.tmps[j] n[j]:=c.get j _ _ (by grind[Act.put]) AF;rw[vao f,vao q,m.same (l.get j _ _ AF AF) i]
def apl(F:(c8 P).Good)(aT:Home O P M Shun w){fr:Frame}(cb:eD (c8 P) (b9 M) fr fr){j:uaj}{aF:Act}{aC:du}{aJ:Nat}{aO:e8}{aH:fC}{csZ:dZ}(s:xc P M j aF aC aJ aH){iU:ubo}(hrun:∀m,gb (c8 P) M (ji M) w m->∀T,∀c cs,∃v p,iU m v p/\Steps (ae P true) (lone fr (c::cs) {m with tape:=T}) (lone (c.finish v) cs p))(dr:∀ρ m v p u w',gb (c8 P) M (ji M) w m->iU m v p->ar ρ v u->Behind O P M Shun w ρ p w'->bU P Post n Shun 0 (aY ((base j).at (aF.put ((aC[aJ]?).bind (·.dst)) u) (.inRegion aC aO::aH)) csZ) w'):
 bU P Post n Shun 0 (aY fr ((base j).at aF (.inRegion aC (aJ::aO)::aH)::csZ)) w:=by
 obtain⟨d,qE,k0⟩:=s.dst;have C:∀q:Act,∀m,gb (c8 P) M (ji M) w m->∀T,∃z cse p,Steps (ae P true) (lone fr ([(base j).at q (.inRegion aC (aJ::aO)::aH)]++[eS j]) {m with tape:=T}) (lone z (cse++[eS j]) p)/\cse=[]/\∃v,z=(base j).at (q.put (some d) v) (.inRegion aC aO::aH)/\iU m v p:=by intro q m W T;obtain⟨v,p,I,H⟩:=hrun m W T ((base j).at q (.inRegion aC (aJ::aO)::aH)) [eS j];grind[Frame.finish_at]
 have Z:(Item.inRegion aC aO::aH).all (gI P)=true:=by simp only[vbi,vaf];exact⟨s.ops,s.items⟩
 rcases s.tmps with B|⟨D,q,r⟩
 .refine Wi F aT (f:=j) (cs0:=[(base j).at aF (.inRegion aC (aJ::aO)::aH)]) (bs:=csZ) cb (.cons (s.rel F _ B s.defers) .nil) ⟨rfl,rfl⟩
   (R:=λz cse m p=>cse=[]/\∃v,z=(base j).at (aF.put (some d) v) (.inRegion aC aO::aH)/\iU m v p) (C aF) ?_
  rintro ρ z cse m p aP a_ w' W ⟨rfl,v,rfl,hv⟩ J A Q;cases A;obtain⟨a',rfl,I,H⟩:=JR (by rw[put_defers];exact s.defers) Z J;obtain⟨u,V,rfl⟩:=Yd Q k0 B s.defers I H;grind
 .have y:=r.n6 csZ.length;have h0:q.defers=[]:=by rw[<-y.defers];exact s.defers
  have U:d<q.tmps.size:=by rw[<-y.size];grind
  have eB:∀l:List Nat,(Item.inRegion aC l::aH).all (im (D csZ.length))=true:=λl=>by rw[vbi,vaf];refine⟨?_,r.items _⟩;simp[im];intro i _;cases ho:aC[i]? with|none=>rfl|some o=>exact van.1 (r.ops _) o (vbe ho)
  refine Tf F r.follows (D:=D csZ.length) aT (f:=j) (cs0:=[(base j).at q (.inRegion aC (aJ::aO)::aH)]) (bs:=csZ) (g:=aY fr ((base j).at aF (.inRegion aC (aJ::aO)::aH)::csZ)) (by rw[r.d];grind) (.under _ (.here (y.Tg _ _) ⟨(r.fn _).be (eB _) _,λ_ ops i rest k e o ho d' fK=>?_⟩ _ (r.d _).symm) _ _) cb (.cons (s.rel F _ r.all h0) .nil) ⟨rfl,rfl⟩
   (R:=λz cse m p=>cse=[]/\∃v,z=(base j).at (q.put (some d) v) (.inRegion aC aO::aH)/\iU m v p) (C q) ?_
  .have e:Item.inRegion aC (aJ::aO)::aH=.inRegion ops (i::rest)::k:=e;cases e;exact r.dst _ d' AF
  rintro ρ z cse m p aP a_ w' g' W ⟨rfl,v,rfl,hv⟩ J A Q Y;cases A;obtain⟨a',rfl,I,H⟩:=JR Gm Z J;obtain⟨u,V,rfl⟩:=Yd Q U r.all h0 I H;have hlen:(D csZ.length).d=csZ.length:=r.d _;have key:∃X,g'=aY X csZ/\fc (D csZ.length) ((base j).at (q.put (some d) u) (.inRegion aC aO::aH)) X:=by generalize Ck:aY ((base j).at (q.put (some d) u) (.inRegion aC aO::aH)) ([]++csZ)=g0 at Y;cases Y with|same g hl=>grind[aY]|hL h v=>cases Ck;exact⟨_,rfl,h⟩|under a h=>cases Ck;have:=h.lt;grind
  obtain⟨X,rfl,S⟩:=key;obtain⟨b,rfl,E⟩:=fc.act S;have e:b=aF.put (some d) u:=by
   obtain⟨t,ds⟩:=b;have e1:ds=aF.defers:=E.defers.trans (by rw[put_defers,y.defers]);subst e1;show _=(⟨aF.tmps.setIfInBounds d u,aF.defers⟩:Act);congr 1
   have hs:t.size=(aF.tmps.setIfInBounds d u).size:=by rw[vcv,y.size,<-fo q (some d) u];exact E.size
   refine vcf λi=>?_;cases N:(D csZ.length).T i with
   |false=>have K:t[i]?=(q.tmps.setIfInBounds d u)[i]?:=E.same i N;rw[K,vak,vak,y.size,y.same i N]
   |true=>
    have hK:=r.aU _ i N;have K:t[i]?=(D csZ.length).V i:=E.kept i hK;have L:d≠i:=λx=>by have:=r.dst csZ.length d qE;grind
    rw[K,vak,vbp L,y.kept i hK]
  grind
def wp_move(e:(c8 P).Good)(m:Home O P M Shun w){f:uaj}(j:ll P f){a:Act}(l:aM (b9 M) a.tmps a.tmps)(hd:a.defers=[]){k k':fC}(hk:k.all (gI P)=true)(v:k'.all (gI P)=true){cs:dZ}{Q:aL->Act->aL->Prop}(hrun:∀c,gb (c8 P) M (ji M) w c->∀T,∀(b:Frame)(cs:dZ),∃a1 w1,Q c a1 w1/\a1.defers=[]/\Steps (ae P true) (lone (b.at a k) cs {c with tape:=T}) (lone (b.at a1 k') cs w1))(u:∀ρ c a1 w1 a' w',gb (c8 P) M (ji M) w c->Q c a1 w1->aM ρ a1.tmps a'.tmps->a'.defers=[]->Behind O P M Shun w ρ w1 w'->bU P Post n Shun 0 (aY ((base f).at a' k') cs) w'):
 bU P Post n Shun 0 (aY ((base f).at a k) cs) w:=by
 refine Wi e m (f:=f) (cs0:=[]) (bs:=cs) (JQ e j l hd hk) .nil ⟨U,U⟩ (R:=λg cse c h=>cse=[]/\∃a1,g=(base f).at a1 k'/\a1.defers=[]/\Q c a1 h) (λc i T=>?_) ?_
 .obtain⟨a1,w1,t,s,r⟩:=hrun c i T (base f) [eS f];grind
 .rintro ρ g cse c h y x w' i ⟨rfl,a1,rfl,o,hq⟩ p d q;cases d;grind[JR]
end
end
section
variable{O:gW}
def cS(M:c7)(w w':aL):Prop:=(∀b c e fr,M b->w.heap[b]?=some (.cells c e fr)->w'.heap[b]?=some (.cells c e fr))/\∀b es k,M b->w.heap[b]?=some (.map es k)->w'.heap[b]?=some (.map es k)
section
variable{M M':c7}{a b c:aL}
def cS.mk(f:∀x c e fr,M x->a.heap[x]?=some (.cells c e fr)->b.heap[x]?=some (.cells c e fr))(d:∀x es k,M x->a.heap[x]?=some (.map es k)->b.heap[x]?=some (.map es k)):cS M a b:=⟨f,d⟩
theorem cS.cells(h:cS M a b):∀x c e fr,M x->a.heap[x]?=some (.cells c e fr)->b.heap[x]?=some (.cells c e fr):=h.1
def cS.B9(h:cS M a b):∀x es k,M x->a.heap[x]?=some (.map es k)->b.heap[x]?=some (.map es k):=h.2
theorem cS.refl(M:c7)(w:aL):cS M w w:=⟨λ_ _ _ _ _ h=>h,λ_ _ _ _ h=>h⟩
theorem cS.trans(h:cS M a b)(g:∀b,M b->M' b)(k:cS M' b c):cS M a c:=⟨λx c e fr d f=>k.cells x c e fr (g x d) (h.cells x c e fr d f),λx c e d f=>k.B9 x c e (g x d) (h.B9 x c e d f)⟩
def cS.sub(k:cS M' a b)(g:∀b,M b->b<a.heap.size->M' b):cS M a b:=⟨λx c e fr f d=>k.cells x c e fr (g x f (bX.jS d)) d,λx c e f d=>k.B9 x c e (g x f (bX.jS d)) d⟩
def cS.Gx(M:c7)(w:aL)(k:Nat):cS M w (w.at k):=⟨λ_ _ _ _ _ x=>x,λ_ _ _ _ x=>x⟩
def cS.F1{M:c7}{w w':aL}(h:∀b,M b->w'.heap[b]?=w.heap[b]?):cS M w w':=⟨λb _ _ _ a e=>(h b a).trans e,λb _ _ a e=>(h b a).trans e⟩
end
theorem cS.cell{M:c7}{w w':aL}(h:cS M w w'){a:Addr}{v:Value}(f:M a.block)(hv:w.cell? a=some v):w'.cell? a=some v:=by obtain⟨c,e,fr,d,b,k3⟩:=xN hv;exact oq (h.cells _ _ _ _ f d) b k3
section
variable{P:cf}{Post:uab}{n:Nat}{Shun:uam}{M:c7}{w:aL}
theorem Home.map(f:Home O P M Shun w){b:Nat}(d:M b){es:Array MapEntry}{k:Nat}(e:w.heap[b]?=some (.map es k)):cL (rH (b9 M)) es.toList es.toList:=by
 obtain⟨ob,c,a⟩:=f.cl _ d;rw[e]at c;cases c;rcases a with a|a
 .cases a with|map _ h=>exact h
 .exact a.elim
def cS.carry{w':aL}(h:cS M w w')(c:Home O P M Shun w):Carry (b9 M) w w':=by
 refine⟨?_,λb i es k⟨r,hd⟩ e=>?_⟩
 .rintro a a' v ⟨⟨g,hd⟩,f,d⟩ hv;have e:a=a':=by obtain⟨x,y,z⟩:=a';obtain⟨p,q,r⟩:=a;grind
  subst e;exact⟨v,h.cell hd hv,c.cell hd hv⟩
 .subst r;exact⟨es,h.B9 _ _ _ hd e,c.map hd e⟩
def apr{ρ:Ren}(e:∀a b j,ρ.rel a b->ρ.rel a j->b=j){x y:List MapEntry}(h:cL (rH ρ) x y):cL (rH ρ) x x->y=x:=by induction h with|nil=>exact λ_=>U|@cons a b _ _ c _ l=>intro m;cases m with|cons d ht=>obtain⟨k,v,n⟩:=a;obtain⟨k',v',o⟩:=b;have i:=JP e d.key c.key;have g:=JP e d.val c.val;have f:=c.born;simp only at i g f;rw[l ht,i,g,f]
def Yc{ρ:Ren}(e:∀a b c,ρ.rel a b->ρ.rel a c->b=c){x y:df}(h:aM ρ x y)(d:aM ρ x x):y=x:=by
 apply Array.ext
 .exact h.size.symm
 .intro i hi f;exact(JP e (d.get i x[i] x[i] AF AF) (h.get i x[i] y[i] AF AF)).symm
def Behind.Yb{ρ:Ren}{s r w':aL}(h:Behind O P M Shun w ρ r w')(m:Home O P M Shun w)(t:gb (c8 P) M (ji M) w s){N:c7}(a4:∀b,N b->M b)(hk:∀b o,N b->s.heap[b]?=some o->r.heap[b]?=some o):cS N w w':=by
 obtain⟨S,j⟩:=h.rel;refine .mk (λb c e fr a f=>?_) (λb es k a f=>?_)
 .obtain⟨v,n,D⟩:=t.cells m.cl (a4 b a) f;have C:=D (a4 b a);subst C;have p:=hk b _ a n;obtain⟨o,o',d,i,k3⟩:=j.obj b b (h.le.1 b b ⟨U,a4 b a⟩);rw[p]at d;cases d;cases k3 with
  |@cells _ H _ _ E A z=>
   have B:E=v:=z.2 U;subst B;obtain⟨o2,q,g⟩:=m.cl b (a4 b a);rw[f]at q;cases q;rcases g with g|g
   .cases g with|cells _ u _=>rw[Yc j.one A (u.mono h.le)]at i;exact i
   .exact g.elim
 .obtain⟨n,-⟩:=t.B9 m.cl (.inr λ_ h=>h) (a4 b a) f;have p:=hk b _ a n;obtain⟨o,o',d,i,k3⟩:=j.obj b b (h.le.1 b b ⟨U,a4 b a⟩);rw[p]at d;cases d;cases k3 with|@map _ es' _ y=>have e:=apr j.one y (cL.mono (λ_ _ x=>rH.mono h.le x) (m.map (a4 b a) f));obtain⟨l⟩:=es;obtain⟨F⟩:=es';simp only at e;rw[i,e]
def aps{ρ:Ren}{r w':aL}(f:Behind O P M Shun w ρ r w'){a a':Act}(l:aM (b9 M) a.tmps a.tmps)(hd:a.defers=[])(g:a'.defers=[]){dst:Option Tmp}{v:Value}(h:aM ρ (a.put dst v).tmps a'.tmps)(o:∀d,dst=some d->d<a.tmps.size):
 ∃u,a'=a.put dst u/\(dst≠none->ar ρ v u):=by
 obtain⟨b,m⟩:=a';have g:m=[]:=g;subst g;obtain⟨S,q⟩:=f.rel;cases dst with
 |none=>refine⟨undef,?_,AF⟩;have e:b=a.tmps:=Yc q.one h (l.mono f.le);subst e;obtain⟨t,ds⟩:=a;have hd:ds=[]:=hd;subst hd;rfl
 |some d=>
  have i:=o d U;have hsz:b.size=a.tmps.size:=by have:=h.size;grind[fo]
  have p:b[d]?=some (b[d]'(hsz▸i)):=AF;refine⟨b[d]'(hsz▸i),?_,λ_=>h.get d _ _ (by simp[Act.put,i]) p⟩;show _=(⟨a.tmps.setIfInBounds d _,a.defers⟩:Act);rw[hd];congr 1
  apply Array.ext
  .grind
  .intro j k c;have x:j<a.tmps.size:=AF;apply vaq;rw[<-vao k,<-vao c,vak];by_cases s:d=j
   .grind
   .simp[s];have n:ar ρ a.tmps[j] b[j]:=h.get j _ _ (by grind[Act.put]) AF;rw[vao k,vao x,f.same (l.get j _ _ AF AF) n]
variable{f:uaj}{a:Act}{ops:du}{i:Nat}{rest:e8}{k:fC}{cs:dZ}{o:Oper}
def apt(x:(c8 P).Good)(A:Home O P M Shun w)(t:ll P f)(l:aM (b9 M) a.tmps a.tmps)(hd:a.defers=[])(hk:(Item.inRegion ops []::k).all (gI P)=true)(s:ops[i]?=some o)(q:Region.wanted o (yielded ops a.tmps)=true)(p:∀d,o.dst=some d->d<a.tmps.size){iU:ubo}(hrun:∀c,gb (c8 P) M (ji M) w c->∀T,∃v w1,iU c v w1/\((execOp a.eval o).run (ae P true) {c with tape:=T}=.ok (.value v) w1\/((execOp a.eval o).run (ae P true) {c with tape:=T}=.ok .skip w1/\v=undef)))(z:∀ρ c v w1 u w',gb (c8 P) M (ji M) w c->iU c v w1->(o.dst≠none->ar ρ v u)->Behind O P M Shun w ρ w1 w'->aM (b9 (qa ρ)) (a.put o.dst u).tmps (a.put o.dst u).tmps->bU P Post n Shun 0 (aY ((base f).at (a.put o.dst u) (.inRegion ops rest::k)) cs) w'):
 bU P Post n Shun 0 (aY ((base f).at a (.inRegion ops (i::rest)::k)) cs) w:=by
 simp only[vbi,vaf]at hk;refine wp_move x A t l hd (k:=.inRegion ops (i::rest)::k) (k':=.inRegion ops rest::k) Hq Hq (Q:=λc a1 w1=>∃v,a1=a.put o.dst v/\iU c v w1) (λc j T b cs=>?_) ?_
 .obtain⟨v,w1,e,g⟩:=hrun c j T;refine⟨a.put o.dst v,w1,⟨v,U,e⟩,Gm,.one (step_lone_go ?_)⟩;rw[stepG_op s q];have B:∀v,(b.at a (.inRegion ops (i::rest)::k)).finish v=b.at (a.put o.dst v) (.inRegion ops rest::k):=by grind[Frame.finish_at]
  rcases g with g|⟨g,rfl⟩
  .simp_all[stepG.apply]
  simp_all[stepG.apply]
 .rintro ρ c a1 w1 a' w' j ⟨v,rfl,e⟩ m y h;obtain⟨u,rfl,r⟩:=aps h l hd y m p;exact z ρ c v w1 u w' j e r h (h.all m)
def apu(z:(c8 P).Good)(l:Home O P M Shun w)(t:ll P f)(y:aM (b9 M) a.tmps a.tmps)(hd:a.defers=[])(hk:(Item.inRegion ops []::k).all (gI P)=true)(s:ops[i]?=some o)(q:Region.wanted o (yielded ops a.tmps)=true){d:Tmp}(p:o.dst=some d/\d<a.tmps.size){v:Value}(hv:ar (b9 M) v v)(hrun:∀c,gb (c8 P) M (ji M) w c->∀T,(execOp a.eval o).run (ae P true) {c with tape:=T}=.ok (.value v) {c with tape:=T})(A:∀M' w',(∀b,M b->M' b)->Home O P M' Shun w'->mw w w'->cS M w w'->aM (b9 M') (a.put (some d) v).tmps (a.put (some d) v).tmps->bU P Post n Shun 0 (aY ((base f).at (a.put (some d) v) (.inRegion ops rest::k)) cs) w'):
 bU P Post n Shun 0 (aY ((base f).at a (.inRegion ops (i::rest)::k)) cs) w:=by
 refine apt z l t y hd hk s q AF (iU:=λc v' w1=>v'=v/\∃T,w1={c with tape:=T}) (λc m T=>⟨v,_,⟨U,T,U⟩,AF⟩) ?_;rintro ρ c v' w1 u w' m ⟨rfl,T,rfl⟩ r g j;have e:u=v':=g.same hv (r AF);subst e;rw[p.1]at j⊢;exact A (qa ρ) w' (λb x=>g.mem x) g.gn g.since (g.Yb l m (λ_ h=>h) AF) j
def X9{d:Nat}{g:uaj}{m:Func}{B:Code}{args:uav}{ats:uar}(c:o.op=.call {callee:=.value (.func g),args,argTypes:=ats})(hg:P.funcs[g]?=some m)(p:(m.name== "runtime.NumGoroutine")=false)(q:m.body=some B){vs:df}(e:args.map a.eval=vs){V:ubc}(hn:n+16*d<=200)(E:Home O P M Shun w)(v:xc P M f a ops i k)(t:ops[i]?=some o)(s:Region.wanted o (yielded ops a.tmps)=true)(r:∀k,gJ O P Post g vs M (w.at k) d V)(C:∀u M' w' h j,h<=n+16*d->Home O P M' j w'->(∀b,M b->M' b)->ar (b9 M') u u->mw w w'->V u M' w'->bU P Post h j 0 (aY ((base f).at (a.put o.dst u) (.inRegion ops rest::k)) cs) w'):
 bU P Post n Shun 0 (aY ((base f).at a (.inRegion ops (i::rest)::k)) cs) w:=by
 refine AZ (oL U (w1:=w) (es:=#[]) (λk'=>(stepG_enter t s IC (iS.pf (b:=base f) c hg p q e _).1).trans (vbx (λes=>GStep.go _ _ es) (iS.pf (b:=base f) c hg p q e _).2)) Ab Jb (.stop λk'=>?_));refine r k' n Shun hn (E.at _) f a ops i rest k cs v (λu M' w' h j A z y x l D=>?_);have:=C u M' w' h j A z y x ⟨l.size,l.later,l.output,l.tape⟩ D;grind
theorem count_set{au:uat}{i:Nat}(h:au.getD i true=false):(au.setIfInBounds i true).toList.count false+1=au.toList.count false:=by
 have hi:i<au.size:=by grind
 have hv:au[i]=false:=Bc;grind
def X8(g:P.follows .mixedOrders=true){I:Array Bool->Act->(Nat->Prop)->aL->Nat->(Loc->Prop)->Prop}(c6:∀au a M w n Shun k,I au a M w n Shun->I au a M (w.at k) n Shun)(hstep:∀au a M w n Shun i o rest,I au a M w n Shun->au.getD i true=false->ops[i]?=some o->(∀e∈o.after,Region.binds .any e=true->au.getD e.on false=true)->(∀a' M' w' b d,I (au.setIfInBounds i true) a' M' w' b d->bU P Post b d 0 (aY ((base f).at a' (.inRegion ops rest::k)) cs) w')->bU P Post n Shun 0 (aY ((base f).at a (.inRegion ops (i::rest)::k)) cs) w)(h:∀au a M w n Shun,I au a M w n Shun->Region.ready .any ops au=[]->bU P Post n Shun 0 (aY ((base f).at a (.inRegion ops []::k)) cs) w){id:Nat}(h0:I (Array.replicate ops.size false) a M w n Shun):bU P Post n Shun 0 (aY ((base f).at a (.code (.region id ops true)::k)) cs) w:=by
 have key:∀(m t:Nat)(au:uat)(a:Act)(M:c7)(w:aL)(n:Nat)(Shun:uam),au.toList.count false<=m->I au a M w n Shun->bU P Post n Shun 0 (aY ((base f).at a (.inRegion ops (Region.linearise.go .any ops m t au [])::k)) cs) w:=by
  intro m;induction m with
  |zero=>intro t au a M w n Shun l c;refine h au a M w n Shun c ?_;cases j:Region.ready .any ops au with|nil=>rfl|cons x xs=>have r:x∈Region.ready .any ops au:=AF;grind[count_set,mem_ready]
  |succ m q=>
   intro t au a M w n Shun l c;simp only[Region.linearise.go];change bU P Post n Shun 0 (aY ((base f).at a (.inRegion ops (match(Region.ready .any ops au)[t % (Region.ready .any ops au).length]? with
    |some i=>Region.linearise.go .any ops m (t / (Region.ready .any ops au).length) (au.setIfInBounds i true) [i]
    |none=>[].reverse)::k)) cs) w
   cases hi:(Region.ready .any ops au)[t % (Region.ready .any ops au).length]? with
   |none=>
    have p:Region.ready .any ops au=[]:=by cases j:Region.ready .any ops au with|nil=>rfl|cons x xs=>grind[Nat.mod_lt]
    grind
   |some i=>simp only[];rw[linearise_go_acc,List.reverse_singleton,List.singleton_append];obtain⟨v,o,u,s⟩:=mem_ready.1 (vco hi);grind[count_set]
 refine AZ (eW.mk U λk'=>⟨_,_,_,stepG_region_draw,Ab,vac _,.stop λk''=>?_⟩);simp only[Region.schedule,g,Bool.true_or,vdg];exact key ops.size _ _ a M _ n Shun Ab (AF:I _ a M (w.at k'') n Shun)
end
end
end bc
namespace qj
open Conc ConcM az bo ag ix gi iS cF
abbrev fi:e_ where
 Lo:=Unit
 aN:=Unit
 a6:=λ_=>0
 pS:=λ_ ls=>ls.length=1
 dO:=λ_ _ _=>True
 K:=λ_=>False
 hX:=λ_=>False
 tN:=λ_ _=>True
 tok:=λ_=>false
 deaf:=λ_=>0
 past:=λ_=>false
 Left:=λ_=>False
 zero:=λ_=>False
 oD:=λ_ _=>False
 hV:=λ_=>False
 e9:=λ_=>False
 mu:=⟨0,0,none⟩
 wg:=⟨0,0,none⟩
 pa:=λ_ _ _=>False
def uv:fi.Good where
 refl:=AF
 trans:=AF
 less:=AF
 mt:=AF
 nb:=AF
 one:=AF
 ow:=λ_ ls h=>⟨0,(),by
  grind,λh=>h,λh=>h⟩
 zero:=AF
 FR:=AF
 Cq:=AF
 tM:=AF
section
variable{P:cf}{Shun:uam}{Stop:uaw}{d:Nat}
theorem Tk{mine:c7}{B:Nat}:∀(es:ubj)(d:Nat),oE fi () mine d es->(∀e∈es,¬uX fi e)->(∀b,mine b->∀l,fq l=some b->¬Shun l)->(∀b,mine b->b<B)->(∀e∈es,pk Shun B e)/\∀k,deafBehind k es.toArray=k
 | [],_,_,_,_,_=>⟨Ab,λ_=>U⟩
 |e::es,d,h,i,hs,j=>by
  obtain⟨o,n⟩:=Tk es _ h.2 AF hs j;have c:=h.1;have f:=i e Ab;have hk:x2 (λ_=>False) mine e:=by
   unfold tO at c;unfold x2;cases g:e.loc with
   |cell a=>grind
   |obj r=>grind
   |output=>trivial
   |goroutines=>grind
   |mark m=>
    rw[g]at c;rcases c with c|⟨c,_⟩
    .cases m with|noRoom=>trivial|extern _=>trivial|disable=>exact absurd (.inl g) f|enable=>exact absurd (.inr (.inl g)) f| _=>exact c.elim
    grind
  refine⟨λu q=>?_,λk=>?_⟩
  .grind[Wu]
  .have t:deafBehind k (e::es).toArray=deafBehind (deafBehind k #[e]) es.toArray:=by simp[deafBehind]
   have s:deafBehind k #[e]=k:=by
    obtain⟨loc,wr,p⟩:=e;cases loc with
    |mark m=>cases m<;>first|exact hk.elim|rfl
    | _=>rfl
   grind
def aq5{ST:Bool->fi.Lo->aX->Prop}{m:Bool}{l:fi.Lo}{γ:fi.aN}{X:aX}(h:bg fi P ST m l γ X):m=true->(∀b,X.mine b->b<X.w.heap.size)->(∀b,X.mine b\/X.w.heap.size<=b->∀l,fq l=some b->¬Shun l)->
 (∀Y,ST true () Y->cF.Left X Y->eW P Shun Stop d Y.g Y.w)->eW P Shun Stop d X.g X.w:=by
 induction h with
 |@stop m l γ X h=>rintro rfl _ _ k;exact k X h ⟨λ_ h=>h,λ_ _ _=>U,AF,vac _,.refl _,U,U,id⟩
 |@step m l γ X hs ch ok hq o v w s C A z=>
  rintro rfl x y k;refine eW.mk hs λn=>?_;have hrel:dP fi l γ X (X.w.at n):=⟨⟨λ_ _=>U,vac _,.refl _⟩,NE,⟨[l],0,U,U⟩,.refl _,U,U⟩;rcases ok (X.w.at n) γ trivial hrel with⟨g1,w1,es,e,q⟩|⟨g1,w1,es,e,q,_⟩|⟨_,_,q,_⟩|⟨_,g1,c,w1,es,e,q⟩
  .have hsz:X.w.heap.size<=w1.heap.size:=q.keep.size;have r:∀b,grown X.mine (X.w.at n) w1 b->X.mine b\/(X.w.heap.size<=b/\b<w1.heap.size):=λb h=>h;have t:∀b,grown X.mine (X.w.at n) w1 b->∀l,fq l=some b->¬Shun l:=AF;have g:∀b,grown X.mine (X.w.at n) w1 b->b<w1.heap.size:=AF;obtain⟨i,f⟩:=Tk (Shun:=Shun) (B:=w1.heap.size) es.toList 0 q.evs (λe o u=>q.low (.inl AF)) t g;refine⟨g1,w1,es,e,AF,hsz,?_⟩;have p:deafBehind d es=d:=f d;rw[p];refine s (X.w.at n) γ g1 w1 es trivial hrel e q.run q.low U g AF (λY j a=>k Y j ?_);refine⟨λb h=>a.sub b (.inl h),λb i f=>(a.kept b AF λh=>?_).trans (q.keep.kept b i f K8),λb h=>?_,vad hsz a.size,(show OsLater X.w.os w1.os from q.keep.os).trans a.os,a.output.trans q.keep.output,a.tape.trans q.keep.tape,λ_=>a.run q.run⟩
   .grind
   .rcases a.new b h with h|h
    .rcases r b h with h|h
     .grind
     .exact .inr ⟨h.1,vap h.2 a.size⟩
    grind
  .exact absurd q.AD.1 AF
  .grind
  .exact absurd q.a6 AF
end
end qj
namespace gi
open Conc RowKit ConcM
set_option maxRecDepth 100000
variable{w:aL}{b:Nat}{p q r x y z:Value}
def ar7{t:uaa}(a:w.heap[b]?=some (.cells #[x,y,z] t)):((w.setCell ⟨b,0,none⟩ p).setCell ⟨b,1,none⟩ q).setCell ⟨b,2,none⟩ r=w.setRow b #[p,q,r]:=by have e:=setCell_eq_setRow w b 0 #[x,y,z] t (0,0) p a;have b1:=setRow_heap w b #[x,y,z] (#[x,y,z].setIfInBounds 0 p) t (0,0) a;have d:=setCell_eq_setRow _ b 1 _ t (0,0) q b1;have b2:=setRow_heap _ b _ ((#[x,y,z].setIfInBounds 0 p).setIfInBounds 1 q) t (0,0) b1;have c:=setCell_eq_setRow _ b 2 _ t (0,0) r b2;grind[setRow_setRow]
variable{i j:uap}
def ql(a:w.heap[b]?=some (.cells #[x,y,z] 184))(h:p.oneCell'=true/\q.oneCell'=true/\r.oneCell'=true){ev:uak}(hi:ev i=.P b 0)(d:ev j=.agg #[p,q,r]){o:Oper}(c:o.op=.store 184 i j):
 (execOp ev o).run prog w=.ok .skip (w.setRow b #[p,q,r])/\(execOp ev o).events prog w #[]=#[⟨.cell ⟨b,0,none⟩,true,false⟩,⟨.cell ⟨b,1,none⟩,true,false⟩,⟨.cell ⟨b,2,none⟩,true,false⟩]:=by
 obtain⟨dst,op,ty,pos,g,gd⟩:=o;simp only at c;subst c;have c_:w.cell? (.a b 0)=some x:=C3;have f0:w.frozen? ⟨b,0,none⟩=false:=by simp[World.frozen?,a]
 have f:(w.setCell ⟨b,0,none⟩ p).heap[b]?=some (.cells #[p,y,z] 184):=by simp[World.setCell,vbb,a]
 have c1:(w.setCell ⟨b,0,none⟩ p).cell? (.a b 1)=some y:=by simp[World.cell?,f]
 have f1:(w.setCell ⟨b,0,none⟩ p).frozen? ⟨b,1,none⟩=false:=by simp[World.frozen?,f]
 have e:((w.setCell ⟨b,0,none⟩ p).setCell ⟨b,1,none⟩ q).heap[b]?=some (.cells #[p,q,z] 184):=by simp_all[World.setCell,vbb]
 have bG:((w.setCell ⟨b,0,none⟩ p).setCell ⟨b,1,none⟩ q).cell? (.a b 2)=some z:=by simp[World.cell?,e]
 have iu:((w.setCell ⟨b,0,none⟩ p).setCell ⟨b,1,none⟩ q).frozen? ⟨b,2,none⟩=false:=by simp[World.frozen?,e]
 rw[<-ar7 a];constructor
 .simp[go_sem,hi,d,c_,f0,c1,f1,bG,iu,run_store,h]
 .simp[go_sem,hi,d,c_,f0,c1,f1,bG,iu,run_store,events_store,h]
def PK{ev:uak}{p q r:Int}{k:uap}(hi:ev i=.I p)(b:ev j=.I q)(hk:ev k=.I r){o:Oper}(a:o.op=.build 184 #[(0,i),(1,j),(2,k)]):(execOp ev o).run prog w=.ok (.value (.agg #[.I p,.I q,.I r])) w/\(execOp ev o).events prog w #[]=#[]:=by
 obtain⟨dst,op,ty,pos,c,gd⟩:=o;simp only at a;subst a;constructor
 .simp[go_sem,hi,b,hk]
 .simp[go_sem,hi,b,hk]
def Bm(a:w.heap[b]?=some (.cells #[x,y,z] 184)){ev:uak}(hi:ev i=.P b 0){o:Oper}(c:o.op=.load 184 i):
 (execOp ev o).run prog w=.ok (.value (.agg #[x,y,z])) w/\(execOp ev o).events prog w #[]=#[⟨.cell ⟨b,0,none⟩,false,false⟩,⟨.cell ⟨b,1,none⟩,false,false⟩,⟨.cell ⟨b,2,none⟩,false,false⟩]:=by
 obtain⟨dst,op,ty,pos,d,gd⟩:=o;simp only at c;subst c;have c_:w.cell? (.a b 0)=some x:=C3;have c1:w.cell? (.a b 1)=some y:=C3;have bG:w.cell? (.a b 2)=some z:=C3;constructor
 .simp[go_sem,hi,c_,c1,bG]
 .simp[go_sem,hi,c_,c1,bG]
def Oe{t:Value}{tmps:df}(a:w.heap[b]?=some (.cells #[x,y,z] 184))(d:tmps[2]?=some (.P b 0))(c:tmps[3]?=some t):
 (results f81 tmps).run prog w=.ok (.tuple #[.agg #[x,y,z],t]) w/\(results f81 tmps).events prog w #[]=#[⟨.cell ⟨b,0,none⟩,false,false⟩,⟨.cell ⟨b,1,none⟩,false,false⟩,⟨.cell ⟨b,2,none⟩,false,false⟩]:=by
 have c_:w.cell? (.a b 0)=some x:=C3;have c1:w.cell? (.a b 1)=some y:=C3;have bG:w.cell? (.a b 2)=some z:=C3;constructor
 .simp[results,f81,go_sem,d,c,c_,c1,bG]
 .simp[results,f81,go_sem,d,c,c_,c1,bG]
