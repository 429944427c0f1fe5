import Derived.Test.YtcjlmniddnnieaaGreatPAD
import Derived.Test.YtcjlmniddnnieaaGreatPAI
import Derived.Test.YtcjlmniddnnieaaGreatPAJ
set_option linter.all false
set_option maxRecDepth 100000
set_option maxHeartbeats 16000000
namespace Go.Proofs.YtcjlmniddnnieaaGreat
open Tryz
namespace fF
open Conc ConcM au bn ai e_ g6
structure hL where
 T:Nat
 M:Nat
 D:List Value
 L:Option Nat
def hL.of(b:cb):hL:=⟨b.taken,b.came,b.done,b.least⟩
variable{d:hL}{Z:eX}{v:Value}
section
variable{c:da}{Q:cf}{Stop:Bool->ai.Lo At->aX->Prop}{m:Bool}{mine:dY}{w0:aH}
def Held(c:da)(mine:dY)(w0:aH)(d:hL)(bs:uan)(w:aH)(γ:ai.aN cb):Prop:=ah (am (ar c)) mine w0 bs w/\hL.of γ.al=d
def m4(c:da)(mine:dY)(w0:aH)(d:hL)(l:ai.Lo At)(bs:uan):cv (am (ar c)):=⟨l,ca mine bs,Held c mine w0 d bs⟩
def C1(c:da)(mine:dY)(w0:aH)(d:hL)(l:ai.Lo At)(σ:cv (am (ar c))):Prop:=∃bs,σ=m4 c mine w0 d l bs
def uv{l:ai.Lo At}(d:l.mx=.own){γ a:ai.aN cb}(b:(am (ar c)).dM l γ a):hL.of a.al=hL.of γ.al:=by
 rcases b with rfl|⟨_,⟨h,_⟩,_⟩
 .rfl
 .rw[d]at h;obtain⟨i,g,f,e⟩:=h Y;grind[hL.of]
theorem Held.on{l:ai.Lo At}(e:l.mx=.own){bs:uan}{w w':aH}{γ a:ai.aN cb}(h:Held c mine w0 d bs w γ)(b:(am (ar c)).dM l γ a)(r:ak (am (ar c)) (ca mine bs) w w'):Held c mine w0 d bs w' a:=
 ⟨h.1.on r,(uv e b).trans h.2⟩
def mr{l:ai.Lo At}(e:l.mx=.own):∀σ,C1 c mine w0 d l σ->s8 σ:=by rintro _ ⟨bs,rfl⟩ w γ w' f g h b a;exact Held.on e h b (dN.rw a)
def JO{l:ai.Lo At}:∀σ,C1 c mine w0 d l σ->∀w γ,σ.S w γ->σ.S {w with drawn:=w.drawn+1} γ:=by rintro _ ⟨bs,rfl⟩ w γ ⟨h,hd⟩;exact⟨⟨h.rw.trans ⟨λ_ _=>Y,vad _,.refl _,Y,Y⟩,h.cZ,h.lt,h.eL,h.sX,h.la,h.vE⟩,hd⟩
variable{b:Frame}{ops:fC}
def A8{C:cv Z->Prop}{o:Oper}{a:Act}(c:veg o ops a.tmps=true)(h:∀w,(execOp a.eval o).run Q w=.ok (.value v) w)(d:∀w,listed Q b.fn a o w=#[]):n2 Q b ops C o v a:=
 .inl ⟨c,λσ _ w γ w' e g _ _ _=>⟨h w',by rw[d];exact trivial,AJ⟩⟩
def eN{k:uaa}{cs:fG}{C:cv Z->Prop}{ic:cv Z->Act->Prop}{Stop:Bool->Z.Lo->aX->Prop}{md:Region.Mode}{c:Oper}{n:Nat}{aq:uar}{σ:cv Z}{a:Act}(i:Nat)(v:Value)(h:sf Q Stop m b k cs ops md C ic n (aq.setIfInBounds i true) σ (a.put c.dst v))(o:∀σ,C σ->s8 σ:=by exact mr Y)(l:C σ:=by exact⟨_,Y⟩)(hi:ops[i]?=some c:=by rfl)(hs:Region.noSelect ops=true:=by decide+kernel)(g:Region.free md ops aq i=true:=by decide+kernel)(f:(Region.ready md ops aq).contains i=true:=by decide+kernel)(e:Region.wanted c (yielded ops a.tmps)=true:=by rfl)(d:∀w,(execOp a.eval c).run Q w=.ok (.value v) w:=by intro _;go_simp)(j:∀w,listed Q b.fn a c w=#[]:=by intro _;simp[listed,go_sem];rfl):sf Q Stop m b k cs ops md C ic (n+1) aq σ a:=
 iY o hi hs g f (A8 e d j) l h
def JP{C:cv Z->Prop}{o:Oper}{a:Act}(c:veg o ops a.tmps=false):n2 Q b ops C o undef a:=.inr ⟨c,Y⟩
def A9{mu:bp}{x:cb}{w:aH}(h:w.heap[c.st]?=some (gU (ar c) mu x))(k:Nat):w.cell? (.a c.st (k+2))=((ar c).cells x)[k]?:=by simp_all[World.cell?,gU]
def vI{l:ai.Lo At}(q:l.mx=.own)(ht:l.tok=true)(n:jm l.al=false){o:Oper}{a:Act}(k:Nat)(f:veg o ops a.tmps=true)(hv:∀x,hL.of x=d->((ar c).cells x)[k]?=some v)(h:∀w,w.cell? (.a c.st (k+2))=some v->(execOp a.eval o).run Q w=.ok (.value v) w/\listed Q b.fn a o w=#[⟨.cell ⟨c.st,k+2,none⟩,false,false⟩]):n2 Q b ops (C1 c mine w0 d l) o v a:=by
 refine .inl ⟨f,?_⟩;rintro _ ⟨bs,rfl⟩ w γ w' t g hS p i;have ie:=Held.on q hS p (dN.rw i);have r:w'.cell? (.a c.st (k+2))=some v:=by rw[A9 i.mt.1,hv _ ie.2]
 obtain⟨s,m⟩:=h w' r;refine⟨s,?_,?_⟩
 .rw[m];exact⟨.inl ⟨Y,.inr (.inr ⟨AJ,ht⟩),n⟩,PA⟩
 .rw[m];rintro⟨e,j,f⟩;simp at j;subst j;rcases f with h|h|⟨_,h⟩|⟨_,h⟩|⟨h,_⟩<;>cases h
end
def bf.seen{Q:cf}{Stop:Bool->Z.Lo->aX->Prop}{m:Bool}{l:Z.Lo}{γ:Z.aN}{X:aX}(G:Z.Good)(hs:X.g.status=.running)(h:∀a,Z.dM l γ a->hH Z l a->bf Z Q Stop m l a X):bf Z Q Stop m l γ X:=by
 by_cases hst:Stop m l X
 .exact .stop hst
 .refine bf.mk hs λw' a d b=>?_;rcases(h a d b.sees).next with c|⟨_,c⟩
  .grind
  .exact c w' a (G.refl _ _) b
section
variable{P:cf}{main:Bool}{b:Frame}{a:Act}{cs:fG}{w:aH}
def aaK{fn:Func}{todo:uaa}{c:Frame}{es:uao}(hn:b.kind=.normal)(hd:a.defers=[])(e:P.funcs[b.fn]?=some fn)(d:(results fn a.tmps).run P w=.ok v w)(f:(results fn a.tmps).events P w #[]=es):
 stepG P main (G {b.at a todo with mode:=.returning} (c::cs)) w=.go (G (c.finish v) cs) w (seen P b.fn es):=by
 simp[G,stepG,unwind,doReturn,Frame.at,hn,hd,e,d,f,GStep.after]
end
variable{u:Value}{g1:uaf}
section
variable{c:da}{Q:cf}{Stop:Bool->ai.Lo At->aX->Prop}{m:Bool}{mine:dY}{w0:aH}{l:ai.Lo At}{γ:ai.aN cb}{X:aX}{w':aH}
def aom{loc:Loc}{d:Bool}(h:∀mk,loc≠ .mark mk):¬ ∃e∈(#[⟨loc,false,d⟩]:uao),vw (am (ar c)) e:=by
 rintro⟨e,b,f⟩;simp at b;subst b;rcases f with a|a|⟨_,a⟩|⟨_,a⟩|⟨a,_⟩
 .grind
 .grind
 .grind
 .grind
 grind
def JQ(a:jm l.al=false)(ht:l.tok=true){k:Nat}(hs:stepG Q m X.g w'=.go g1 w' #[⟨.cell ⟨c.st,k+2,none⟩,false,false⟩])(hrun:g1.status=.running)(h:bf (am (ar c)) Q Stop m l γ ⟨g1,w',X.mine⟩):Then (Z:=am (ar c)) Q Stop m l γ X w':=by refine .quiet hs ⟨hrun,p_ _ _ _,λ_ _ _=>Y,⟨.inl AJ,PA⟩,λe=>e.elim (aom AQ) La⟩ ?_;grind[kx]
def Td{mu:bp}{x cu:cb}{w:aH}(h:w.heap[c.st]?=some (gU (ar c) mu x)){k:Nat}(a:((ar c).cells x).setIfInBounds k v=(ar c).cells cu):(w.setCell ⟨c.st,k+2,none⟩ v).heap[c.st]?=some (gU (ar c) mu cu):=by unfold World.setCell;simp_all[vaz,gU]
def Te{x cu:cb}{w:aH}(h:(ar c).oJ x w)(f:cu.aY=x.aY)(d:cu.ea=x.ea)(b:cu.gI=x.gI)(a:cu.done=x.done)(off:Nat)(sp)(v:Value):(ar c).oJ cu (w.setCell ⟨c.st,off,sp⟩ v):=by
 refine⟨?_,λe=>?_⟩
 .rw[m3 w _ v (Ne.symm c.eL.1),h.1];grind[tb]
 .rw[m3 w _ v (Ne.symm c.eL.2.1),h.2 e];grind[Gw]
def aon(d:dN (am (ar c)) l γ X w'){p:uac}{f1:Nat}(hs:stepG Q m X.g w'=.go g1 (w'.setCell ⟨c.st,4,none⟩ v) #[⟨.cell ⟨c.st,4,none⟩,true,false⟩])(hrun:g1.status=.running)(hv:v=.I ((γ.al.taken+1:Nat):Int))(j:l.al=.work .free p)(b:l.mx=.own)(g:l.tok=true)(a3:γ.al.taken<c.N)(n:f1+1<=l.fuel+c.C)(h:bf (am (ar c)) Q Stop m ({l with al:=.work (.has γ.al.taken) p,fuel:=f1}:ai.Lo At) ({γ with al:={γ.al with taken:=γ.al.taken+1},a6:=γ.a6-1}:ai.aN cb) ⟨g1,w'.setCell ⟨c.st,4,none⟩ v,X.mine⟩):Then (Z:=am (ar c)) Q Stop m l γ X w':=by
 have o:c.C*(c.N-(γ.al.taken+1))+c.C=c.C*(c.N-γ.al.taken):=by have:c.N-γ.al.taken=(c.N-(γ.al.taken+1))+1:=AP;grind
 refine yV (a1:=.work (.has γ.al.taken) p) (b1:={γ.al with taken:=γ.al.taken+1}) (d1:=l.deaf) d hs hrun ⟨⟨.cell ⟨c.st,4,none⟩,true,false⟩,AQ,.inr (.inr (.inr (.inr ⟨Y,c.st,Y,.inl Y⟩)))⟩ (Tc w' 4 none _) (mq _ _ _) ⟨Td (k:=2) d.mt.1 AJ,Te d.mt.2 Y Y Y Y _ _ _⟩
  (λaz i hi hg=>hg.take a3 AJ) AJ (.inl b) (Nat.le_succ _) AJ (λe=>e.elim) (λ_=>b)
  (.inl ⟨Y,?_,Y,.inl ⟨Y,AJ,?_⟩,PA⟩) (.inr λa f=>f) (λe=>e.elim) h
 .grind[jm]
 grind[jm]
def aaL{mu:bp}{x:cb}{w:aH}(b:w.heap[c.st]?=some (gU (ar c) mu x))(a:(ar c).oJ x w)(p:Nat)(v:Value):
 (w.setCell ⟨c.bJ,p,none⟩ v).heap[c.st]?=some (gU (ar c) mu {x with done:=x.done.set p v})/\(ar c).oJ {x with done:=x.done.set p v} (w.setCell ⟨c.bJ,p,none⟩ v):=by
 refine⟨?_,?_,λe=>?_⟩
 .rw[m3 w _ _ c.eL.2.1,b];rfl
 .rw[m3 w _ _ c.eL.2.2,a.1];rfl
 simp_all[World.setCell,vaz,Gw]
def aFV(d:dN (am (ar c)) l γ X w'){q:uac}{p f1:Nat}(hs:stepG Q m X.g w'=.go g1 (w'.setCell ⟨c.bJ,p,none⟩ v) #[⟨.cell ⟨c.bJ,p,none⟩,true,false⟩])(hrun:g1.status=.running)(j:l.al=.work (.has p) q)(b:l.mx=.own)(f:l.tok=true)(k:f1<l.fuel)(h:bf (am (ar c)) Q Stop m ({l with al:=.work (.half p v) q,fuel:=f1}:ai.Lo At) ({γ with al:={γ.al with done:=γ.al.done.set p v},a6:=γ.a6-1}:ai.aN cb) ⟨g1,w'.setCell ⟨c.bJ,p,none⟩ v,X.mine⟩):Then (Z:=am (ar c)) Q Stop m l γ X w':=by
 refine yV (a1:=.work (.half p v) q) (b1:={γ.al with done:=γ.al.done.set p v}) (d1:=l.deaf) d hs hrun ⟨⟨.cell ⟨c.bJ,p,none⟩,true,false⟩,AQ,.inr (.inr (.inr (.inr ⟨Y,c.bJ,Y,.inr LO⟩)))⟩ (aaG w' p none _) (mq _ _ _) (aaL d.mt.1 d.mt.2 p v)
  (λaz i hi hg=>hg.lay AJ) AJ (.inl b) (vad _) AJ (λe=>e.elim) (λ_=>b)
  (.inl ⟨Y,?_,Y,.inl ⟨Y,.inr (.inr ⟨.inr Y,f⟩),?_⟩,PA⟩) (.inr λa g=>g) (λe=>e.elim) h
 .grind[jm]
 grind[jm]
def aoo(d:dN (am (ar c)) l γ X w'){q:uac}{p f1:Nat}(hs:stepG Q m X.g w'=.go g1 (w'.setCell ⟨c.st,5,none⟩ u) #[⟨.cell ⟨c.st,5,none⟩,true,false⟩])(hrun:g1.status=.running)(f:c.bad p=false)(o:u=.I ((γ.al.came+c.rows p:Nat):Int))(n:l.al=.work (.half p v) q)(b:l.mx=.own)(j:l.tok=true)(r:f1<l.fuel)(h:bf (am (ar c)) Q Stop m ({l with al:=.work .free ((p,v)::q),fuel:=f1}:ai.Lo At) ({γ with al:={γ.al with came:=γ.al.came+c.rows p},a6:=γ.a6-1}:ai.aN cb) ⟨g1,w'.setCell ⟨c.st,5,none⟩ u,X.mine⟩):Then (Z:=am (ar c)) Q Stop m l γ X w':=by
 refine yV (a1:=.work .free ((p,v)::q)) (b1:={γ.al with came:=γ.al.came+c.rows p}) (d1:=l.deaf) d hs hrun ⟨⟨.cell ⟨c.st,5,none⟩,true,false⟩,AQ,.inr (.inr (.inr (.inr ⟨Y,c.st,Y,.inl Y⟩)))⟩ (Tc w' 5 none _) (mq _ _ _) ⟨Td (k:=3) d.mt.1 AJ,Te d.mt.2 Y Y Y Y _ _ _⟩
  (λaz i hi hg=>hg.count f AJ) AJ (.inl b) (vad _) AJ (λe=>e.elim) (λ_=>b)
  (.inl ⟨Y,?_,Y,.inl ⟨Y,AJ,?_⟩,PA⟩) (.inr λa g=>g) (λe=>e.elim) h
 .grind[jm]
 grind[jm]
def aaM(d:dN (am (ar c)) l γ X w'){q:uac}{p f1:Nat}(hs:stepG Q m X.g w'=.go g1 (w'.setCell ⟨c.st,7,none⟩ u) #[⟨.cell ⟨c.st,7,none⟩,true,false⟩])(hrun:g1.status=.running)(o:u=c.place p)(f:c.bad p=true)(hq:∀q,γ.al.least=some q->p<=q)(n:l.al=.work (.has p) q)(b:l.mx=.own)(j:l.tok=true)(r:f1<l.fuel)(h:bf (am (ar c)) Q Stop m ({l with al:=.work (.has p) q,fuel:=f1}:ai.Lo At) ({γ with al:={γ.al with least:=some p},a6:=γ.a6-1}:ai.aN cb) ⟨g1,w'.setCell ⟨c.st,7,none⟩ u,X.mine⟩):Then (Z:=am (ar c)) Q Stop m l γ X w':=by
 refine yV (a1:=.work (.has p) q) (b1:={γ.al with least:=some p}) (d1:=l.deaf) d hs hrun ⟨⟨.cell ⟨c.st,7,none⟩,true,false⟩,AQ,.inr (.inr (.inr (.inr ⟨Y,c.st,Y,.inl Y⟩)))⟩ (Tc w' 7 none _) (mq _ _ _) ⟨Td (k:=5) d.mt.1 AJ,Te d.mt.2 Y Y Y Y _ _ _⟩
  (λaz i hi hg=>hg.low f hq AJ) AJ (.inl b) (vad _) AJ (λe=>e.elim) (λ_=>b)
  (.inl ⟨Y,?_,Y,.inl ⟨Y,AJ,?_⟩,PA⟩) (.inr λa g=>g) (λe=>e.elim) h
 .grind[jm]
 grind[jm]
end
end fF
namespace c5
open Conc au
def vJ(fn:Func):Bool:=fn.results.all λ| .tmp _=>true| _=>false
def uw(fn:Func)(t:fi):List Value:=fn.results.toList.map λ| .tmp x=>t.getD x undef| .cell _ _=>undef
def tc(fn:Func)(t:fi):Value:=if h:(uw fn t).toArray.size=1 then(uw fn t).toArray[0]else .tuple (uw fn t).toArray
theorem aaN{t:fi}:∀(l:List ResultVar),(∀r∈l,∃x,r=.tmp x)->(l.mapM λ| .tmp x=>(pure (t.getD x undef):Sem Value)| .cell a ty=>do Go.loadVar ty (<-Go.asAddr (t.getD a undef)))=pure (l.map λ| .tmp x=>t.getD x undef| .cell _ _=>undef)
 | [],_=>rfl
 |r::l,h=>by obtain⟨x,rfl⟩:=h r AQ;rw[List.mapM_cons,aaN l AJ];simp
variable{P:cf}
theorem yW{fn:Func}(h:vJ fn=true)(t:fi)(w:aH):(results fn t).run P w=.ok (tc fn t) w/\(results fn t).events P w #[]=#[]:=by
 have a:∀r∈fn.results.toList,∃x,r=.tmp x:=by intro r b;unfold vJ at h;grind[Array.all_eq_true_iff_forall_mem]
 have e:results fn t=pure (tc fn t):=by
  unfold results;rw[vci];erw[aaN (t:=t) _ a]
  rfl
 simp_all
def aaO{ρ:Ren}(fn:Func){t b:fi}(h:aM ρ t b):ax ρ (tc fn t) (tc fn b):=by
 have g:dx (ax ρ) (uw fn t) (uw fn b):=by unfold uw;induction fn.results.toList with|nil=>exact .nil|cons r l f=>refine .cons ?_ f;cases r with|tmp x=>exact h.getD (.undef ρ) x|cell a ty=>exact .undef ρ
 have d:=aM.Mc g;unfold tc;by_cases c:(uw fn t).toArray.size=1
 .have e:(uw fn b).toArray.size=1:=d.size▸c;rw[dif_pos c,dif_pos e];exact d.get 0 _ _ AJ AJ
 .have e:¬(uw fn b).toArray.size=1:=d.size▸c;rw[dif_neg c,dif_neg e];exact .Mb d
variable{Q:cf}
theorem iP.bind{main:Bool}{K:dY}{post a:aX->Prop}{X:aX}(h:iP Q main K post X)(c:∀Y,post Y->iP Q main K a Y):iP Q main K a X:=by induction h with|done h=>grind|step ok _ b=>exact .step ok AJ
def iP.more{main:Bool}{K K':dY}(hK:∀b,K b->K' b){post:aX->Prop}{X:aX}(h:iP Q main K post X):iP Q main K' post X:=by have hrel:∀{X:aX}{w':aH},kn K' X w'->kn K X w':=λa=>⟨λb f=>a.heap b AJ,a.size,a.env⟩;induction h with|done h=>exact .done h|step ok _ d=>refine .step (λw' a=>?_) AJ;obtain⟨g1,w1,es,e,hg⟩:=ok w' (hrel a);refine⟨g1,w1,es,e,hg.run,hg.ov,hg.kept,hg.size,hg.os,hg.output,hg.tape,hg.drawn,λev c=>?_⟩;have:=hg.evs ev c;grind[yp]
structure aoq(C:cQ)(D M:dY)(n0:Nat)(R:fX)(c:Frame)(cs:fG)(Y:aX)(ρ:Ren)(w1:aH)(v v':Value):Prop where
 post:R v w1
 val:ax ρ v v'
 g:Y.g=a0 (c.finish v') cs
 world:∃S,et C S ρ w1 Y.w
 le:Ren.le (dz D M) ρ
 mine:∀b,ρ.mine b->Y.mine b
 dom:∀a b,ρ.rel a b->(D b/\¬M b)\/Y.mine b
 old:∀a b,ρ.rel a b->(dz D M).rel a b\/n0<=b
def aaP{upd:Bool}(z:(cr P upd).Good){f:uah}{fn:Func}{B:Code}(j:P.funcs[f]?=some fn)(hk:gz P upd fn=true)(x:fn.body=some B)(n:vJ fn=true){D M:dY}{w:aH}(H:fA (cr P upd) D M w)(hg:∀g,g<=P.globals.size->D g)(t:upd=true->∀b,D b->M b){args:fi}(y:aM (dz D M) args args){R:fX}{w0:aH}(q:gm (cr P upd) D M w w0)(A:∀T,Calls (ae P upd) f args {w0 with tape:=T} (λe w=>∃v,e=.returned v/\R v w))(main:Bool)(c:Frame)(cs:fG):
 iP P main (λb=>D b/\¬M b) (λY=>∃ρ w1 v v',aoq (cr P upd) D M w.heap.size R c cs Y ρ w1 v v') ⟨a0 (Frame.enter P f args .normal) (c::cs),w,M⟩:=by
 refine iP.bind (YV z j hk x H hg t y (R:=λe w=>∃v,e=.returned v/\R v w) AJ q A main (c::cs)) ?_;rintro Y ⟨ρ,fr,w1,T,e,⟨v,rfl,F⟩,o,K,ht⟩;obtain⟨d,Q,J,i,k⟩:=ht.frames;cases k;obtain⟨u,hd,r,I,l,O⟩:=K;have N:(ae P upd).funcs[f]?=some fn:=a5 j hk;rw[o,N]at l;cases l;have hv:v=tc fn fr.tmps:=by grind[yW]
 have s:d.mode=.returning:=by have:=i.mode;rw[u]at this;generalize d.mode=md at this⊢;cases this;rfl
 have C:d.defers=[]:=by have:=i.defers;rw[hd]at this;generalize d.defers=ds at this⊢;cases this;rfl
 have E:d.kind=.normal:=i.kind.symm.trans r;have L:d.fn=f:=i.fn.symm.trans o;have hstep:∀w',stepG P main Y.g w'=.go (a0 (c.finish (tc fn d.tmps)) cs) w' #[]:=by intro w';rw[J];simp[a0,stepG,unwind,doReturn,s,C,E,L,j,(yW n d.tmps w').1,(yW n d.tmps w').2,GStep.after,vcm]
 refine .step (λw' m=>⟨_,_,_,hstep w',rfl,rfl,λ_ _ _=>rfl,vad _,rfl,rfl,rfl,vad _,AQ⟩) λw' g1 w2 es m e=>?_;rw[hstep w']at e;cases e;have p:∀b,grown Y.mine w' w' b↔Y.mine b:=λb=>⟨λh=>h.elim id AJ,.inl⟩;exact .done ⟨ρ,w1,v,tc fn d.tmps,F,by rw[hv];exact aaO fn i.tmps,rfl,⟨_,ht.world.rely (bound:=0) m ht.dom AJ⟩,ht.le,λb h=>(p b).2 (ht.mine b h),λa b h=>(ht.dom a b h).imp id (p b).2,ht.old⟩
open ConcM bn g6
inductive JR(ρ:Ren):Ending->Ending->Prop
 |ret {v v':Value} (h:ax ρ v v'):JR ρ (.returned v) (.returned v')
 |aaR {l l':List PanicEntry} (h:dx (yk ρ) l l'):JR ρ (.panicked l) (.panicked l')
structure yg(C:cQ)(D M:dY)(n0:Nat)(R:Ending->aH->Prop)(c:Frame)(cs:fG)(Y:aX)(ρ:Ren)(w1:aH)(e e':Ending):Prop where
 post:R e w1
 val:JR ρ e e'
 g:Y.g=a0 (Gs c e') cs
 world:∃S,et C S ρ w1 Y.w
 le:Ren.le (dz D M) ρ
 mine:∀b,ρ.mine b->Y.mine b
 dom:∀a b,ρ.rel a b->(D b/\¬M b)\/Y.mine b
 old:∀a b,ρ.rel a b->(dz D M).rel a b\/n0<=b
def aor{upd:Bool}(O:(cr P upd).Good){f:uah}{fn:Func}{S:Code}(m:P.funcs[f]?=some fn)(hk:gz P upd fn=true)(L:fn.body=some S)(u:vJ fn=true){D M:dY}{w:aH}(V:fA (cr P upd) D M w)(hg:∀g,g<=P.globals.size->D g)(I:upd=true->∀b,D b->M b){args:fi}(N:aM (dz D M) args args){R:Ending->aH->Prop}(z:∀e w,R e w->e≠ .outgrown){w0:aH}(F:gm (cr P upd) D M w w0)(Q:∀T,Calls (ae P upd) f args {w0 with tape:=T} R)(main:Bool)(c:Frame)(cs:fG):
 iP P main (λb=>D b/\¬M b) (λY=>∃ρ w1 e i,yg (cr P upd) D M w.heap.size R c cs Y ρ w1 e i) ⟨a0 (Frame.enter P f args .normal) (c::cs),w,M⟩:=by
 refine iP.bind (YV O m hk L V hg I N z F Q main (c::cs)) ?_;rintro Y ⟨ρ,fr,w1,T,e,C,x,B,ht⟩;obtain⟨d,Z,A,j,q⟩:=ht.frames;cases q;have W:(ae P upd).funcs[f]?=some fn:=a5 m hk;have E:d.fn=f:=j.fn.symm.trans x;have y:∀w' b,grown Y.mine w' w' b↔Y.mine b:=λw' b=>⟨λh=>h.elim id AJ,.inl⟩;have e6:∀i,JR ρ e i->(∀w',stepG P main Y.g w'=.go (a0 (Gs c i) cs) w' #[])->iP P main (λb=>D b/\¬M b) (λY=>∃ρ w1 e i,yg (cr P upd) D M w.heap.size R c cs Y ρ w1 e i) Y:=by intro i K hstep;refine .step (λw' t=>⟨_,_,_,hstep w',rfl,rfl,λ_ _ _=>rfl,vad _,rfl,rfl,rfl,vad _,AQ⟩) λw' g1 w2 es t e=>?_;rw[hstep w']at e;cases e;exact .done ⟨ρ,w1,_,i,C,K,rfl,⟨_,ht.world.rely (bound:=0) t ht.dom AJ⟩,ht.le,λb h=>(y w' b).2 (ht.mine b h),λa b h=>(ht.dom a b h).imp id (y w' b).2,ht.old⟩
 cases e with
 |outgrown=>exact absurd rfl (z _ _ C)
 |returned v=>
  obtain⟨p,hd,H,s,n,X⟩:=B;rw[x,W]at n;cases n;have hv:v=tc fn fr.tmps:=by grind[yW]
  have o:d.mode=.returning:=by have:=j.mode;rw[p]at this;generalize d.mode=md at this⊢;cases this;rfl
  have r:d.defers=[]:=by have:=j.defers;rw[hd]at this;generalize d.defers=ds at this⊢;cases this;rfl
  have U:d.kind=.normal:=j.kind.symm.trans H;refine e6 (.returned (tc fn d.tmps)) (by rw[hv];exact .ret (aaO fn j.tmps)) λw'=>?_;rw[A];simp[a0,stepG,unwind,doReturn,o,r,U,E,m,(yW u d.tmps w').1,(yW u d.tmps w').2,GStep.after,vcm,Gs]
 |panicked l=>
  obtain⟨p,hd,s,n⟩:=B;obtain⟨k,o,J⟩:∃k,d.mode=.panicking k/\dx (yk ρ) l k:=by have:=j.mode;rw[p]at this;generalize d.mode=md at this⊢;cases this with|panicking h=>exact⟨_,rfl,h⟩
  have r:d.defers=[]:=by have:=j.defers;rw[hd]at this;generalize d.defers=ds at this⊢;cases this;rfl
  refine e6 (.panicked k) (.aaR J) λw'=>?_;rw[A];simp[a0,stepG,unwind,Frame.catches,o,r,E,m,GStep.after,vcm,Gs]
end c5
namespace fF
open Conc ConcM au bn ai e_ g6
variable{t:uab}
section
section
variable{Z:eX}{Q:cf}{Stop Stop':Bool->Z.Lo->aX->Prop}
def bf.seq{I:Z.Lo->Z.aN->Prop}(g:∀l γ a,I l γ->Z.dM l γ a->I l a)(i:∀l γ l1 bB,I l γ->hH Z l γ->CM Z l γ l1 bB->I l1 bB)(v:∀m l X,Stop' m l X->¬Z.Left l)(k:∀l γ X,Stop' false l X->I l γ->bf Z Q Stop false l γ X){m:Bool}{l:Z.Lo}{γ:Z.aN}{X:aX}(h:bf Z Q Stop' m l γ X):m=false->I l γ->bf Z Q Stop false l γ X:=by
 induction h with
 |stop h=>grind
 |@step m l γ X hs ch ok hq s r t p o w j=>
  rintro rfl hi;refine bf.mk hs λw' a c b=>?_;have d:=g _ _ _ hi c;rcases ok w' a c b with⟨g1,w1,es,e,q⟩|⟨g1,w1,es,e,q,u⟩|⟨e,f,q,n⟩|⟨em,_⟩
  .exact .quiet e q (p w' a g1 w1 es c b e q.run q.low Y d)
  .exact .turn e q AJ (o w' a g1 w1 es c b e q.Na Y (i _ _ _ _ d b.sees q.AY))
  .exact .wait e f q n
  grind
end
def Ba(w:aH){b k:Nat}(v:fi)(h:k≠b):(w.setRow b v).heap[k]?=w.heap[k]?:=by simp[World.setRow,vaz,Ne.symm h]
def setRow_size(w:aH)(b:Nat)(v:fi):(w.setRow b v).heap.size=w.heap.size:=by simp_all
section
variable{Z:eX}{Q:cf}{Stop:Bool->Z.Lo->aX->Prop}{m:Bool}{l:Z.Lo}{γ:Z.aN}{mine:dY}{w0 w:aH}
def ah.row{pre post:uan}{b:Nat}{bq new:fi}(hk:ah Z mine w0 (pre++(b,.cells bq t)::post) w):ah Z mine w0 (pre++(b,.cells new t)::post) (w.setRow b new):=by
 have f:b∈(pre++(b,.cells bq t)::post).map (·.1):=AQ;have g:w.heap[b]?=some (.cells bq t):=hk.cZ (b,.cells bq t) AQ;refine hk.write f (bs':=pre++(b,.cells new t)::post) AQ (λx e=>?_) (λk a=>Ba w new a) (setRow_size _ _ _) Y Y Y;have d:=hk.la;simp only[List.map_append,vdd,List.nodup_append,List.nodup_cons]at d;rcases List.mem_append.1 e with c|c
 .have a:x.1≠b:=AJ;rw[Ba w new a];exact hk.cZ x AJ
 .rcases vbh.1 c with rfl|c
  .grind[setRow_heap]
  .have a:x.1≠b:=AJ;rw[Ba w new a];exact hk.cZ x AJ
def C3(i:∀l g g1,¬Z.o_ l g g1)(j:Z.past l=false){pre post:uan}{b:Nat}{bq new:fi}{g g1:uaf}{es:uao}(hk:ah Z mine w0 (pre++(b,.cells bq t)::post) w)(hs:stepG Q m g w=.go g1 (w.setRow b new) es)(hrun:g1.status=.running)(c:∀e∈es,∃off,e.loc=.cell ⟨b,off,none⟩/\e.sync=false){f:aH}(h:ah Z mine w0 (pre++(b,.cells new t)::post) (w.setRow b new)->bf Z Q Stop m l γ ⟨g1,w.setRow b new,ca mine (pre++(b,.cells new t)::post)⟩):Then (Z:=Z) Q Stop m l γ ⟨g,f,ca mine (pre++(b,.cells bq t)::post)⟩ w:=by
 have d:b∈(pre++(b,.cells bq t)::post).map (·.1):=AQ;refine an1 i j hk hs hrun d (bs':=pre++(b,.cells new t)::post) AQ (hk.row (new:=new)).cZ (λk a=>Ba w new a) (setRow_size _ _ _) Y Y Y (λe n=>?_) h;obtain⟨off,p,o⟩:=c e n;unfold Gu;rw[p];exact⟨o,.inr (.inr d)⟩
def Gy(c:∀l g g1,¬Z.o_ l g g1){M:dY}{g g1:uaf}{es:uao}(hs:stepG Q m g w=.go g1 w es)(hrun:g1.status=.running)(a:es=#[]){b:aH}(h:bf Z Q Stop m l γ ⟨g1,w,M⟩):Then (Z:=Z) Q Stop m l γ ⟨g,b,M⟩ w:=by subst a;have hg:grown M w w=M:=kx Y;refine .quiet hs ⟨hrun,p_ _ _ _,λ_ _ _=>Y,PA,λe=>e.elim AJ (c _ _ _)⟩ ?_;grind
end
section
variable{c:da}
def Gz(c:da)(l:ai.Lo At)(γ:ai.aN cb):Prop:=¬A6 l.al/\c.N<=γ.al.taken
def vL{l:ai.Lo At}{γ a:ai.aN cb}(b:(am (ar c)).dM l γ a):γ.al.taken<=a.al.taken:=by grind
def NC(l:ai.Lo At)(γ a:ai.aN cb)(h:Gz c l γ)(b:(am (ar c)).dM l γ a):Gz c l a:=⟨h.1,vac h.2 (vL b)⟩
def aos(l:ai.Lo At)(γ:ai.aN cb)(l1:ai.Lo At)(bB:ai.aN cb)(h:Gz c l γ)(hs:hH (am (ar c)) l γ)(ht:CM (am (ar c)) l γ l1 bB):Gz c l1 bB:=by
 obtain⟨ls,i,hi,hg⟩:∃(ls:List (ai.Lo At))(i:Nat),ls[i]?=some l/\s6 (ar c) γ ls:=hs;obtain⟨s,h0,_⟩:=hg.pe.main;rw[vbg]at h0;obtain⟨l0,g,k⟩:=vak.1 h0;have a:0≠i:=by rintro rfl;rw[hi]at g;cases g;exact h.1 (by rw[k];trivial)
 obtain⟨_,m⟩:=ht;obtain⟨n,o⟩:=m ls i hi hg;have b:s6 (ar c) bB (ls.set i l1):=n;refine⟨λe=>?_,vac h.2 AJ⟩;have j:i<ls.length:=(vab.1 hi).1;have f:((ls.set i l1).map (·.al))[i]?=some l1.al:=AJ;cases d:l1.al with|main s'=>rw[d]at f;exact a (b.pe.only i s' f).symm| _=>rw[d]at e;exact e
end
end
variable{a:Act}
section
section
variable{c:da}{Q:cf}{Stop:Bool->ai.Lo At->aX->Prop}{m:Bool}{mine:dY}{w0:aH}{b:Frame}{ops:fC}
def yX{Z:eX}{k:uaa}{cs:fG}{Stop:Bool->Z.Lo->aX->Prop}{σ:cv Z}{K:cv Z->Act->Prop}{i:Nat}{o:Oper}(hi:ops[i]?=some o)(c:veg o ops a.tmps=true)(h:CX Q b o σ a K):nv Q Stop m b k cs ops i σ a K:=by simp_all[nv]
def yY{Z:eX}{k:uaa}{cs:fG}{Stop:Bool->Z.Lo->aX->Prop}{σ:cv Z}{K:cv Z->Act->Prop}{i:Nat}{o:Oper}(hi:ops[i]?=some o)(c:veg o ops a.tmps=true)(h:SY Q Stop m b o σ a K):nv Q Stop m b k cs ops i σ a K:=by simp_all[nv]
def aou{Z:eX}{k:uaa}{cs:fG}{Stop:Bool->Z.Lo->aX->Prop}{σ:cv Z}{K:cv Z->Act->Prop}{i:Nat}{o:Oper}(hi:ops[i]?=some o)(c:veg o ops a.tmps=true)(h:SZ Q Stop m b k cs ops o σ a):nv Q Stop m b k cs ops i σ a K:=by simp_all[nv]
def rf{Z:eX}{k:uaa}{cs:fG}{Stop:Bool->Z.Lo->aX->Prop}{md:Region.Mode}{C:cv Z->Prop}{ic:cv Z->Act->Prop}{i n:Nat}{aq:uar}{σ:cv Z}(d:Region.ready md ops aq=[i])(h:nv Q Stop m b k cs ops i σ a (λc a1=>C c/\sf Q Stop m b k cs ops md C ic n (aq.setIfInBounds i true) c a1)):sf Q Stop m b k cs ops md C ic (n+1) aq σ a:=
 S5 d AQ AJ
def ah.shared{Z:eX}{bs:uan}{w:aH}(h:ah Z mine w0 bs w){k off:Nat}{sp}(hk:Z.hE k)(v:Value):ah Z mine w0 bs (w.setCell ⟨k,off,sp⟩ v):=
 h.on ⟨λb a=>m3 w _ v λe=>h.eL b a (e▸hk),vdv (mq _ _ _).symm,.refl _,Y,Y⟩
def aov{d:hL}{l:ai.Lo At}(j:l.mx=.own){bs:uan}{o:Oper}{ob:Obj}{K:cv (am (ar c))->Act->Prop}(h:∀w,(execOp a.eval o).run Q w=.ok (.value (.P w.heap.size 0)) (w.alloc ob)/\listed Q b.fn a o w=#[])(k:∀n,K (m4 c mine w0 d l ((n,ob)::bs)) (a.put o.dst (.P n 0))):CX Q b o (m4 c mine w0 d l bs) a K:=by
 intro w γ w' q g hS i f;have ie:=Held.on j hS i (dN.rw f);obtain⟨p,m⟩:=h w';refine⟨_,_,m4 c mine w0 d l ((w'.heap.size,ob)::bs),.inl p,⟨?_,?_,.inl ⟨Y,⟨ie.1.alloc (c_ (bA c)).nt ob,ie.2⟩,λb e _=>C0 e,?_,?_⟩⟩,k _⟩
 .show ca mine ((w'.heap.size,ob)::bs)=grown (ca mine bs) w' (w'.alloc ob);rw[S8];exact ca.cons.symm
 .exact⟨λb e _ _=>C0 e,BR,.refl _,Y,Y⟩
 .rw[m];exact trivial
 grind
def aow{d:hL}{l:ai.Lo At}(v:l.mx=.own)(s:jm l.al=false){pre post:uan}{b0:Nat}{bq new:fi}{o:Oper}{K:cv (am (ar c))->Act->Prop}(h:∀w,w.heap[b0]?=some (.cells bq t)->(execOp a.eval o).run Q w=.ok .skip (w.setRow b0 new)/\∀e∈listed Q b.fn a o w,∃off,e.loc=.cell ⟨b0,off,none⟩/\e.sync=false)(k:K (m4 c mine w0 d l (pre++(b0,.cells new t)::post)) (a.put o.dst undef)):CX Q b o (m4 c mine w0 d l (pre++(b0,.cells bq t)::post)) a K:=by
 intro w γ w' z g hS u r;have ie:=Held.on v hS u (dN.rw r);have i:ca mine (pre++(b0,.cells bq t)::post) b0:=.inr AQ;have A:ca mine (pre++(b0,.cells new t)::post)=ca mine (pre++(b0,.cells bq t)::post):=by grind[ca]
 obtain⟨x,p⟩:=h w' (ie.1.cZ (b0,.cells bq t) AQ);have hg:grown (ca mine (pre++(b0,.cells bq t)::post)) w' (w'.setRow b0 new)=ca mine (pre++(b0,.cells bq t)::post):=kx (setRow_size _ _ _);refine⟨_,_,m4 c mine w0 d l (pre++(b0,.cells new t)::post),AJ,⟨?_,?_,.inl ⟨Y,⟨ie.1.row,ie.2⟩,λb y j=>Ba _ _ ?_,?_,?_⟩⟩,k⟩
 .show ca mine (pre++(b0,.cells new t)::post)=grown (ca mine (pre++(b0,.cells bq t)::post)) w' (w'.setRow b0 new);grind
 .exact⟨λk _ hk _=>Ba _ _ λe=>hk (e▸i),vdv (setRow_size _ _ _).symm,.refl _,Y,Y⟩
 .rintro rfl;exact ie.1.eL b (.inr i) j
 .refine AZ _ _ λe n d=>?_;obtain⟨off,m,q⟩:=p e AJ;unfold uh;rw[m];refine .inl ⟨q,.inr (.inl ?_),s⟩;show grown (ca mine (pre++(b0,.cells bq t)::post)) w' (w'.setRow b0 new) b0;simp_all
 .rintro⟨e,n,f⟩;obtain⟨off,m,q⟩:=p e n;rcases f with f|f|⟨_,f⟩|⟨_,f⟩|⟨_,k,hk,j⟩
  .grind
  .grind
  .grind
  .grind
  .rw[m]at hk;cases hk;exact ie.1.eL b0 (.inr i) j
end
end
variable{v:Value}
section
section
variable{c:da}{Q:cf}{Stop:Bool->ai.Lo At->aX->Prop}{m:Bool}{mine:dY}{w0:aH}{b:Frame}{ops:fC}
def JS(c:da)(mine:dY)(w0:aH)(x:ubr)(σ:cv (am (ar c))):Prop:=∃d l bs,l.mx=.own/\l.tok=true/\jm l.al=false/\x∈bs/\σ=m4 c mine w0 d l bs
def yZ{x:ubr}:∀σ,JS c mine w0 x σ->s8 σ:=by rintro _ ⟨d,l,bs,a,_,_,_,rfl⟩;exact mr (d:=d) a _ ⟨bs,Y⟩
def aoy{x:ubr}:∀σ,JS c mine w0 x σ->∀w γ,σ.S w γ->σ.S {w with drawn:=w.drawn+1} γ:=by rintro _ ⟨d,l,bs,a,_,_,_,rfl⟩;exact JO (d:=d) (l:=l) _ ⟨bs,Y⟩
def aoz{x:ubr}{o:Oper}(k:Nat)(e:veg o ops a.tmps=true)(hv:∀y,((ar c).cells y)[k]?=some v)(h:∀w,w.cell? (.a c.st (k+2))=some v->(execOp a.eval o).run Q w=.ok (.value v) w/\listed Q b.fn a o w=#[⟨.cell ⟨c.st,k+2,none⟩,false,false⟩]):n2 Q b ops (JS c mine w0 x) o v a:=by
 refine .inl ⟨e,?_⟩;rintro _ ⟨d,l,bs,i,ht,g,j,rfl⟩;rcases vI (c:=c) (Q:=Q) (mine:=mine) (w0:=w0) (b:=b) (ops:=ops) (d:=d) i ht g k e AJ h with⟨_,f⟩|⟨f,_⟩
 .exact f _ ⟨bs,Y⟩
 grind
def aoA{x:ubr}{o:Oper}(f:veg o ops a.tmps=true)(h:∀w,w.heap[x.1]?=some x.2->(execOp a.eval o).run Q w=.ok (.value v) w/\∀e∈listed Q b.fn a o w,∃off,e=⟨.cell ⟨x.1,off,none⟩,false,false⟩):n2 Q b ops (JS c mine w0 x) o v a:=by
 refine .inl ⟨f,?_⟩;rintro _ ⟨d,l,bs,q,ht,n,k,rfl⟩ w γ w' s g hS p m;have ie:=Held.on q hS p (dN.rw m);obtain⟨r,j⟩:=h w' (ie.1.cZ x k);refine⟨r,AZ _ _ λe i d=>?_,?_⟩
 .obtain⟨off,rfl⟩:=j e AJ;exact .inl ⟨Y,.inr (.inl (.inr AJ)),n⟩
 .rintro⟨e,i,f⟩;obtain⟨off,rfl⟩:=j e i;rcases f with f|f|⟨_,f⟩|⟨_,f⟩|⟨f,_⟩<;>cases f
def aaT{l:ai.Lo At}{γ:ai.aN cb}(h:hH (am (ar c)) l γ){p:Nat}{q:uac}(d:l.al=.work (.has p) q):p<c.N:=by obtain⟨xs,iF,a,b⟩:=uu h;rw[d]at a;have g:=b.own p;have f:=oK (dO p) xs iF _ a;have e:=b.aS;grind[dO,hand]
def aoB{l:ai.Lo At}{γ:ai.aN cb}(h:hH (am (ar c)) l γ){p:Nat}{q:uac}(e:c.bad p=false)(b:l.al=.work (.half p v) q):γ.al.came+c.rows p<=ib c.rows c.N:=by obtain⟨xs,iF,a,d⟩:=uu h;rw[b]at a;exact(d.count e a).aaC
def aoC{d:hL}{l:ai.Lo At}(s:l.mx=.own)(ht:l.tok=true){bs:uan}{o:Oper}{K:cv (am (ar c))->Act->Prop}{q:uac}{p f1:Nat}(m:l.al=.work (.has p) q)(I:f1<l.fuel)(h:∀w D,w.heap[c.bJ]?=some (.cells D c.Gv)->p<D.size->(execOp a.eval o).run Q w=.ok .skip (w.setCell ⟨c.bJ,p,none⟩ v)/\listed Q b.fn a o w=#[⟨.cell ⟨c.bJ,p,none⟩,true,false⟩])(k:K (m4 c mine w0 ⟨d.T,d.M,d.D.set p v,d.L⟩ ({l with al:=.work (.half p v) q,fuel:=f1}:ai.Lo At) bs) (a.put o.dst undef)):CX Q b o (m4 c mine w0 d l bs) a K:=by
 intro w γ w' f g hS r j;have ie:=Held.on s hS r (dN.rw j);have n:w'.heap[c.st]?=some (gU (ar c) f.mu f.al)/\(ar c).oJ f.al w':=j.mt;obtain⟨xs,iF,E,y⟩:=uu j.sees;have z:=aaT j.sees m;have C:=n.2.2 trivial;obtain⟨J,t⟩:=h w' f.al.done.toArray C (by rw[vdy,y.len];grind);have u:=aaL n.1 n.2 p v;refine⟨undef,w'.setCell ⟨c.bJ,p,none⟩ v,m4 c mine w0 ⟨d.T,d.M,d.D.set p v,d.L⟩ ({l with al:=.work (.half p v) q,fuel:=f1}:ai.Lo At) bs,AJ,⟨?_,aaG w' p none v,.inr ⟨({f with al:={f.al with done:=f.al.done.set p v},a6:=f.a6-1}:ai.aN cb),⟨ie.1.shared AJ v,?_⟩,?_,u,?_,?_,?_,?_⟩⟩,k⟩
 .exact(kx (mq _ _ _)).symm
 .have e:=ie.2;subst e;rfl
 .rw[t];exact⟨⟨.cell ⟨c.bJ,p,none⟩,true,false⟩,AQ,.inr (.inr (.inr (.inr ⟨Y,c.bJ,Y,.inr LO⟩)))⟩
 .exact SV (A:=ar c) (bA c) j.sees (a1:=.work (.half p v) q) (b1:={f.al with done:=f.al.done.set p v}) (f1:=f1) (d1:=l.deaf) (m2:=l.tok) (λaz i hi hg=>hg.lay (by rw[<-m];exact hi)) (by show f1+c.C*(c.N-f.al.taken)+1<=l.fuel+c.C*(c.N-f.al.taken);omega) (λo a' r H=>⟨λe=>absurd e (by rw[r s];simp),vad _,AJ⟩) Lm (λ_=>s)
 .rw[t];refine .inl ⟨Y,?_,Y,.inl ⟨Y,.inr (.inr ⟨.inr Y,ht⟩),?_⟩,PA⟩
  .show jm (.work (.half p v) q)=jm l.al;rw[m];rfl
  .show jm l.al=false;rw[m];rfl
 .exact λF B=>B.imp id (λx=>⟨x.1,x.2⟩)
 .exact λe=>e.elim
end
end
end fF
end Go.Proofs.YtcjlmniddnnieaaGreat
namespace Go.Conc
open Go.Proofs.YtcjlmniddnnieaaGreat
variable{P:cf}{main:Bool}{b:Frame}{a:Act}{k:uaa}{cs:fG}{w:aH}
def qd(f:uah)(cap:fi):Deferred:={target:=.fn (.func f) cap,args:=#[]}
def aoE{ops:fC}{i:Nat}{rest:uad}{o:Oper}{f:uah}{x:uau}{cap:fi}{ats:uap}(c:ops[i]?=some o)(e:veg o ops a.tmps=true)(hk:b.kind≠ .early)(g:o.op=.defer {callee:=.value x,args:=#[],argTypes:=ats})(h:a.eval x=.func (.func f) #[] cap):
 stepG P main (G (b.at a (.inRegion ops (i::rest)::k)) cs) w=.go (G (b.at (Act.put ⟨a.tmps,qd f cap::a.defers⟩ o.dst undef) (.inRegion ops rest::k)) cs) w #[]:=by
 have j:(execOp a.eval o).run P w=.ok (.defer (qd f cap)) w:=by simp_all[execOp,resolve,Deferred.ofValue,qd]
 have l:(execOp a.eval o).events P w #[]=#[]:=by simp_all[execOp,resolve,Deferred.ofValue]
 have d:(b.at ⟨a.tmps,qd f cap::a.defers⟩ (.inRegion ops (i::rest)::k)).finish undef=b.at (Act.put ⟨a.tmps,qd f cap::a.defers⟩ o.dst undef) (.inRegion ops rest::k):=by rw[vcj,c];rfl
 have m:(b.kind==CallKind.early)=false:=AJ;rw[stepG_oper c e,<-d];simp_all[stepG.apply,G,Frame.at,GStep.after,vcm]
section
variable{todo:uaa}{ds:List Deferred}{f:uah}{fn:Func}{cap:fi}
def aoF{c:Code}(hd:a.defers=qd f cap::ds)(d:P.funcs[f]?=some fn)(h:(fn.name== "runtime.NumGoroutine")=false)(e:fn.body=some c):
 stepG P main (G {b.at a todo with mode:=.returning} cs) w=
  .go (G ((baseD f).at {tmps:=cap++Array.replicate (fn.ntmps-cap.size) undef,defers:=[]} [.code c]) ({b.at ⟨a.tmps,ds⟩ todo with mode:=.returning}::cs)) w #[]:=by
 have g:¬fn.name= "runtime.NumGoroutine" :=AJ;rw[<-enter_atD cap d e];simp[G,stepG,unwind,callDeferred,Frame.at,hd,qd,invoke,callFunc,d,g,e,GStep.after,vcm]
end
def aoG{ops:fC}{i:Nat}{rest:uad}{o:Oper}{c:Frame}(d:ops[i]?=some o)(f:veg o ops a.tmps=true)(hk:b.kind=.deferred)(j:c.mode=.returning)(h:(execOp a.eval o).run P w=.ok .recover w)(g:listed P b.fn a o w=#[]):
 stepG P main (G (b.at a (.inRegion ops (i::rest)::k)) (c::cs)) w=.go (G (b.at (a.put o.dst .nilIface) (.inRegion ops rest::k)) (c::cs)) w #[]:=by
 have e:(b.at a (.inRegion ops (i::rest)::k)).finish .nilIface=b.at (a.put o.dst .nilIface) (.inRegion ops rest::k):=by rw[vcj,d];rfl
 have ht:tryRecover (b.at a (.inRegion ops (i::rest)::k)) (c::cs)=none:=by grind[tryRecover,Frame.at]
 have l:(b.kind==CallKind.early)=false:=AJ;rw[stepG_oper d f,<-e,<-g];simp_all[Frame.at,stepG.apply,G,GStep.after,listed]
def aoH{todo:uaa}{ds:List Deferred}{f:uah}{fn:Func}{cap:fi}{c:Code}{l:List PanicEntry}(hd:a.defers=qd f cap::ds)(d:P.funcs[f]?=some fn)(h:(fn.name== "runtime.NumGoroutine")=false)(e:fn.body=some c):
 stepG P main (G {b.at a todo with mode:=.panicking l} cs) w=
  .go (G ((baseD f).at {tmps:=cap++Array.replicate (fn.ntmps-cap.size) undef,defers:=[]} [.code c]) ({b.at ⟨a.tmps,ds⟩ todo with mode:=.panicking l}::cs)) w #[]:=by
 have g:¬fn.name= "runtime.NumGoroutine" :=AJ;rw[<-enter_atD cap d e];simp[G,stepG,unwind,callDeferred,Frame.at,hd,qd,invoke,callFunc,d,g,e,GStep.after,vcm]
def aoI{ops:fC}{i:Nat}{rest:uad}{o:Oper}{c:Frame}{v:Value}(d:ops[i]?=some o)(f:veg o ops a.tmps=true)(hk:b.kind=.deferred)(h:c.mode=.panicking [{v:=v,recovered:=false}])(j:(execOp a.eval o).run P w=.ok .recover w)(g:listed P b.fn a o w=#[]):
 stepG P main (G (b.at a (.inRegion ops (i::rest)::k)) (c::cs)) w=.go (G (b.at (a.put o.dst v) (.inRegion ops rest::k)) ({c with mode:=.panicking [{v:=v,recovered:=true}]}::cs)) w #[]:=by
 have e:(b.at a (.inRegion ops (i::rest)::k)).finish v=b.at (a.put o.dst v) (.inRegion ops rest::k):=by rw[vcj,d];rfl
 have ht:tryRecover (b.at a (.inRegion ops (i::rest)::k)) (c::cs)=some (v,{c with mode:=.panicking [{v:=v,recovered:=true}]}::cs):=by simp[tryRecover,Frame.at,hk,h]
 have l:(b.kind==CallKind.early)=false:=AJ;rw[stepG_oper d f,<-e,<-g];simp_all[Frame.at,stepG.apply,G,GStep.after,listed]
def aoJ{fn:Func}{todo:uaa}{c:Frame}{v:Value}(hn:b.kind=.deferred)(hd:a.defers=[])(e:P.funcs[b.fn]?=some fn)(d:fn.results=#[])(f:c.mode=.panicking [{v:=v,recovered:=true}]):
 stepG P main (G {b.at a todo with mode:=.returning} (c::cs)) w=.go (G {c with mode:=.returning} cs) w #[]:=by
 simp[G,stepG,unwind,doReturn,Frame.at,hn,hd,e,f,results,d,GStep.after,vcm]
end Go.Conc
namespace Go.Proofs.YtcjlmniddnnieaaGreat
open Tryz
namespace fF
open Conc ConcM au bn ai e_ g6
theorem aaU:∀{n:Nat}{l:uad},l.Nodup->(∀p∈l,p<n)->l.length<=n
 |0,l,_,h=>by cases l with|nil=>simp|cons a l=>exact absurd (h a AQ) AP
 |n+1,l,hn,h=>by
  have b:(l.filter (· != n)).Nodup:=hn.filter _;have c:=aaU (n:=n) b AJ;have e:l.length<=(l.filter (· != n)).length+l.count n:=by clear h b c hn;induction l with|nil=>simp|cons a l d=>grind
  grind
section
variable{c:da}
def aoK{l:ai.Lo At}{γ:ai.aN cb}(h:hH (am (ar c)) l γ){p:Nat}{q:uac}(d:l.al=.work (.has p) q):q.length<c.N:=by
 obtain⟨xs,iF,b,a⟩:=uu h;rw[d]at b;have key:∀r,(p::q.map (·.1)).count r<=if r<γ.al.taken then 1 else 0:=λr=>by have f:=a.own r;grind[oK,dO,hand,n3]
 have f:=aaU (n:=c.N) (l:=p::q.map (·.1)) AJ (λr e=>by
  have:=key r;have i:=vdw.2 e;have g:=a.aS;grind)
 grind
end
end fF
namespace hU
open Conc ConcM au bn ai e_ g6 fF
variable{a:Act}{f:uah}
section
section
variable{Z:eX}{mine M M':dY}{w0 w w1:aH}{bs:uan}
theorem mT:ca M []=M:=by grind[ca]
def ah.qe(h:ah Z mine w0 bs w):ah Z (ca mine bs) w [] w:=by
 refine⟨.refl _ _ _,AQ,λb a=>?_,λb a=>h.eL b (by simp_all[mT]),AQ,AQ,λb a hK=>a.elim (λx=>h.vE b x hK) (λx=>h.sX b x (.inl hK))⟩;rcases a with a|(a|a)|a
 .exact h.lt b (.inl a)
 .exact h.lt b (.inr (.inl a))
 .exact h.S9 a
 .exact h.lt b (.inr (.inr a))
structure gp(Z:eX)(M:dY)(w:aH)(M':dY)(w':aH):Prop where
 sub:∀b,M b->M' b
 rw:ak Z M w w'
 n4:ah Z M' w' [] w'
theorem gp.heap(h:gp Z M w M' w1){b:Nat}{o:Obj}(c:M b)(a:w.heap[b]?=some o):w1.heap[b]?=some o:=(h.rw.heap b (.inr c)).trans a
theorem gp.trans{c:dY}{w2:aH}(h:gp Z M w M' w1)(k:gp Z M' w1 c w2):gp Z M w c w2:=
 ⟨λb a=>k.sub b (h.sub b a),h.rw.trans ⟨λb a=>k.rw.heap b (a.imp id (h.sub b)),k.rw.size,k.rw.later,k.rw.output,k.rw.tape⟩,k.n4⟩
def gp.now(h:gp Z M w M' w1){w2:aH}(k:ah Z M' w1 [] w2):gp Z M w M' w2:=by refine⟨h.sub,h.rw.trans ⟨λb a=>k.rw.heap b (a.imp id (h.sub b)),k.rw.size,k.rw.later,k.rw.output,k.rw.tape⟩,?_⟩;have:=ah.qe k;grind[mT]
def gp.start(h:ah Z mine w0 bs w)(k:gp Z (ca mine bs) w M' w1):gp Z mine w0 M' w1:=
 ⟨λb a=>k.sub b (.inl a),h.rw.trans ⟨λb a=>k.rw.heap b (a.imp id .inl),k.rw.size,k.rw.later,k.rw.output,k.rw.tape⟩,k.n4⟩
end
section
variable{c:da}
def dZ(c:da)(l:ai.Lo At)(M:dY)(w0:aH):cv (am (ar c)):=⟨l,M,λw _=>ah (am (ar c)) M w0 [] w⟩
def y0(c:da)(l:ai.Lo At)(M:dY)(w0:aH)(E:ai.aN cb->Prop):cv (am (ar c)):=⟨l,M,λw γ=>ah (am (ar c)) M w0 [] w/\E γ⟩
def xB(c:da)(l:ai.Lo At)(M:dY)(w0:aH):cv (am (ar c)):=⟨l,M,λw γ=>ah (am (ar c)) M w0 [] w/\c.N<=γ.al.taken⟩
def ah.rel{l:ai.Lo At}{γ:ai.aN cb}{M:dY}{w0 w w':aH}{g:uaf}(h:ah (am (ar c)) M w0 [] w)(a:dN (am (ar c)) l γ ⟨g,w,M⟩ w'):ah (am (ar c)) M w0 [] w':=
 h.on (by rw[mT];exact dN.rw a)
def aaV(l:ai.Lo At)(M:dY)(w0:aH):s8 (dZ c l M w0):=λ_ _ _ _ _ h _ a=>ah.rel h a
def JT(c:da)(x y:ubr)(σ:cv (am (ar c))):Prop:=∃l M w0,jm l.al=false/\(M x.1/\w0.heap[x.1]?=some x.2)/\(M y.1/\w0.heap[y.1]?=some y.2)/\σ=dZ c l M w0
def ux{x y:ubr}:∀σ,JT c x y σ->s8 σ:=by rintro _ ⟨l,M,w0,_,_,_,rfl⟩;exact aaV _ _ _
def aaW{x y:ubr}:∀σ,JT c x y σ->∀w γ,σ.S w γ->σ.S {w with drawn:=w.drawn+1} γ:=by rintro _ ⟨l,M,w0,_,_,_,rfl⟩ w γ h;exact⟨h.rw.trans ⟨λ_ _=>Y,vad _,.refl _,Y,Y⟩,h.cZ,h.lt,h.eL,h.sX,h.la,h.vE⟩
variable{Q:cf}{Stop:Bool->ai.Lo At->aX->Prop}{m:Bool}{b:Frame}{ops:fC}
def JU{x y z:ubr}(s:z=x\/z=y){o:Oper}{v:Value}(f:veg o ops a.tmps=true)(h:∀w,w.heap[z.1]?=some z.2->(execOp a.eval o).run Q w=.ok (.value v) w/\∀e∈listed Q b.fn a o w,∃off,e=⟨.cell ⟨z.1,off,none⟩,false,false⟩):n2 Q b ops (JT c x y) o v a:=by
 refine .inl ⟨f,?_⟩;rintro _ ⟨l,M,w0,n,u,t,rfl⟩ w γ w' r g hS p m;have ie:=aaV (c:=c) l M w0 w γ w' r g hS p m;have i:M z.1/\w0.heap[z.1]?=some z.2:=AJ;obtain⟨q,k⟩:=h w' ((ie.rw.heap z.1 (.inr i.1)).trans i.2);refine⟨q,AZ _ _ λe j d=>?_,?_⟩
 .obtain⟨off,rfl⟩:=k e AJ;exact .inl ⟨Y,.inr (.inl i.1),n⟩
 .rintro⟨e,j,f⟩;obtain⟨off,rfl⟩:=k e j;rcases f with f|f|⟨_,f⟩|⟨_,f⟩|⟨f,_⟩<;>cases f
def y1{Z:eX}{Stop:Bool->Z.Lo->aX->Prop}{σ:cv Z}{K:cv Z->Act->Prop}{o:Oper}{args:fi}{V:Value->cv Z->Prop}(h:∀w,(execOp a.eval o).run Q w=.ok (.enter f args) w/\listed Q b.fn a o w=#[])(d:iG Q Stop m f args σ V)(k:∀u c,V u c->K c (a.put o.dst u)):SY Q Stop m b o σ a K:=
 ⟨f,args,V,λw γ w' e g _ _ _=>⟨(h w').1,by rw[(h w').2];exact trivial,AJ⟩,d,k⟩
def pi{o:Oper}{fn:Func}{d:Code}{args:uaw}{ats:uap}(c:o.op=.call {callee:=.value (.func f),args,argTypes:=ats})(g:Q.funcs[f]?=some fn)(e:(fn.name== "runtime.NumGoroutine")=false)(h:fn.body=some d){vs:fi}(hv:args.map a.eval=vs)(w:aH):(execOp a.eval o).run Q w=.ok (.enter f vs) w/\listed Q b.fn a o w=#[]:=by
 grind[run_call_body,listed,events_call_body,seen_none]
def Tg{o:Oper}{r:uau}{name:String}{args:uaw}{ats:uap}(c:o.op=.call {callee:=.invoke r name,args,argTypes:=ats}){w:aH}{n:Next}{rv:Value}{vs:fi}(d:a.eval r=rv)(hv:args.map a.eval=vs)(h:(callMethod rv name vs).run Q w=.ok n w/\(callMethod rv name vs).events Q w #[]=#[]):(execOp a.eval o).run Q w=.ok n w/\listed Q b.fn a o w=#[]:=by
 subst hv;subst d;obtain⟨g,f⟩:=h;unfold listed;have e:execOp a.eval o=callMethod (a.eval r) name (args.map a.eval):=by unfold execOp;simp only[c,resolve,invoke];generalize args.map a.eval=u;simp_all[Array.getElem?_append_left]
 grind[seen_none]
def aoL{Z:eX}{Stop:Bool->Z.Lo->aX->Prop}{k:uaa}{cs:fG}{σ:cv Z}{o:Oper}{args:fi}(h:∀w,(execOp a.eval o).run Q w=.ok (.enter f args) w/\listed Q b.fn a o w=#[])(c:∀(a':Act)(i:Nat)(rest:uad),a'.defers=a.defers->∀w γ,σ.S w γ->bf Z Q Stop m σ.l γ ⟨G (Frame.enter Q f args .normal) (b.at a' (.inRegion ops (i::rest)::k)::cs),w,σ.mine⟩):SZ Q Stop m b k cs ops o σ a:=
 ⟨f,args,λw γ w' d g _ _ _=>⟨(h w').1,by rw[(h w').2];exact trivial,AJ⟩,c⟩
def JV{Z:eX}{Stop:Bool->Z.Lo->aX->Prop}(e:∀l g g1,¬Z.o_ l g g1){σ:cv Z}{γ:Z.aN}{w d:aH}{V:Value->cv Z->Prop}{o:Oper}{args:fi}{i:Nat}{rest:uad}{k:uaa}{cs:fG}(n:ops[i]?=some o)(j:veg o ops a.tmps=true)(hk:b.kind≠ .early)(h:(execOp a.eval o).run Q w=.ok (.enter f args) w/\listed Q b.fn a o w=#[])(p:iG Q Stop m f args σ V)(hS:σ.S w γ)(hK:∀u c,V u c->∀w γ,c.S w γ->bf Z Q Stop m c.l γ ⟨G (b.at (a.put o.dst u) (.inRegion ops rest::k)) cs,w,c.mine⟩):Then (Z:=Z) Q Stop m σ.l γ ⟨G (b.at a (.inRegion ops (i::rest)::k)) cs,d,σ.mine⟩ w:=by
 refine Gy e (stepG_enter n j hk h.1) Y h.2 (p b a ops i rest k cs (λu c hv w2 q r=>?_) w γ hS);grind
def n5(c:da)(bY w:aH):Prop:=∀b,c.K b->w.heap[b]?=bY.heap[b]?
def n5.more{bY w w':aH}{M M':dY}(h:n5 c bY w)(d:gp (am (ar c)) M w M' w'):n5 c bY w':=λb a=>(d.rw.heap b (.inl a)).trans (h b a)
def n5.n4{bY w0 w:aH}{M:dY}{bs:uan}(h:n5 c bY w0)(k:ah (am (ar c)) M w0 bs w):n5 c bY w:=λb a=>(k.rw.heap b (.inl a)).trans (h b a)
structure GA(c:da)(bY:aH)(Q:cf)(Stop:Bool->ai.Lo At->aX->Prop)(Ti:uah):Prop where
 aaX:∀T,T<c.N->c.bad T=true->c.least=.N
 rows:∀T,T<c.N->c.bad T=true->c.rows T=0
 place:∀T,T<c.N->c.bad T=true->∃b o n k,c.place T=.S b o n k
 cmp:∀T T',T<c.N->c.bad T=true->T'<c.N->c.bad T'=true->∀l M w1 E,jm l.al=false->(∀γ aj,E γ->(am (ar c)).dM l γ aj->E aj)->ah (am (ar c)) M w1 [] w1->n5 c bY w1->
  iG Q Stop false Ti #[c.place T,c.place T'] (y0 c l M w1 E) (λu bu=>∃z:Int,u=.I z/\(z<0↔T<T')/\∃M' w2,gp (am (ar c)) M w1 M' w2/\bu=y0 c l M' w2 E)
def GA.aoM{bY:aH}{a:uah}(h:∀T,c.bad T=false):GA c bY Q Stop a:=by constructor<;>intros<;>simp_all
def y2(pv:Value):Ending:=.panicked [{v:=.iface 76 pv,recovered:=false}]
def Comes(c:da)(cO:uae)(T:Nat)(e:Ending)(M:dY)(w:aH):Prop:=(c.bad T=false/\∃v,e=.returned v/\cO T v M w)\/(c.bad T=true/\e=y2 (c.place T))
structure rh(c:da)(bY:aH)(Q:cf)(Stop:Bool->ai.Lo At->aX->Prop)(vM:uah)(fj:Value)(ip:uah)(f_:Value)(fr a7:uas)(lF cO:uae):Prop where
 inv:∀(args:fi)(w:aH),(callMethod fj "Piece" args).run Q w=.ok (.enter ip (#[f_]++args)) w/\(callMethod fj "Piece" args).events Q w #[]=#[]
 aoN:∀T l M w0,T<c.N->jm l.al=false->ah (am (ar c)) M w0 [] w0->n5 c bY w0->iG Q Stop false ip #[f_,.I (fr T:Int),.I (a7 T:Int)] (dZ c l M w0) (λu bu=>∃M' w1,gp (am (ar c)) M w0 M' w1/\lF T u M' w1/\bu=dZ c l M' w1)
 aoO:∀T l M w0 u,T<c.N->jm l.al=false->ah (am (ar c)) M w0 [] w0->n5 c bY w0->lF T u M w0->Gt Q Stop false vM #[u] (dZ c l M w0) (λe bu=>∃M' w1,gp (am (ar c)) M w0 M' w1/\Comes c cO T e M' w1/\bu=dZ c l M' w1)
 slice:∀T v M w,c.bad T=false->cO T v M w->∃s aA,v=.slice s (c.rows T) aA
 fails:GA c bY Q Stop 125
 mono:∀T v M w M' w',cO T v M w->(∀b,c.K b\/M b->w'.heap[b]?=w.heap[b]?)->(∀b,M b->M' b)->cO T v M' w'
def oL(c:da)(cO:uae)(q:uac)(M:dY)(w:aH):Prop:=∀x∈q,c.bad x.1=false->cO x.1 x.2 M w
def oL.more{vM ip:uah}{fj f_:Value}{fr a7:uas}{lF cO:uae}{bY:aH}(J:rh c bY Q Stop vM fj ip f_ fr a7 lF cO){q:uac}{M M':dY}{w w':aH}(h:oL c cO q M w)(a:gp (am (ar c)) M w M' w'):oL c cO q M' w':=
 λx b d=>J.mono _ _ _ _ _ _ (h x b d) a.rw.heap a.sub
end
end
end hU
namespace c5
open Conc ConcM au bn ai e_ g6 fF hU
variable{f:uah}{w0:aH}
section
section
variable{Z:eX}{Q:cf}{Stop:Bool->Z.Lo->aX->Prop}{m:Bool}{l:Z.Lo}
def aaY(G:Z.Good)(y:Z.past l=false)(T:∀g g1,¬Z.o_ l g g1){post:aX->Prop}{X:aX}{K':dY}(h:iP Q m K' post X):
 ∀(γ:Z.aN)(fr:dY),(∀b,K' b->Z.K b\/fr b)->X.g.status=.running->(∀b,X.mine b\/fr b->¬Z.hE b)->(∀b,fr b->¬X.mine b/\¬Z.K b/\b<X.w.heap.size)->(∀b,Z.hE b->b<X.w.heap.size)->(∀b,Z.K b->b<X.w.heap.size/\¬X.mine b)->
  (∀(Y:aX)(p:Z.aN),post Y->Z.dM l γ p->Y.g.status=.running->(∀b,Y.mine b\/fr b->¬Z.hE b)->(∀b,fr b->¬Y.mine b/\b<Y.w.heap.size/\Y.w.heap[b]?=X.w.heap[b]?)->X.w.heap.size<=Y.w.heap.size->
   (∀b,Z.K b->¬Y.mine b/\Y.w.heap[b]?=X.w.heap[b]?)->(∀b,X.mine b->Y.mine b)->(∀b,Y.mine b->X.mine b\/(X.w.heap.size<=b/\b<Y.w.heap.size))->OsLater X.w.os Y.w.os->Y.w.output=X.w.output->Y.w.tape=X.w.tape->bf Z Q Stop m l p (q8 Y fr))->bf Z Q Stop m l γ (q8 X fr):=by
 induction h with
 |done h=>intro γ fr _ hs z s _ x k;exact k _ γ h (G.refl _ _) hs z AJ Kj AJ (λ_ h=>h) AJ (.refl _) rfl rfl
 |@step X ok V F=>
  intro γ fr q hs z s hsz x k;refine bf.mk hs λw' p H i=>?_;have o:kn K' X w':=⟨λb f=>i.rely.heap b (f.elim (λh=>(q b h).imp id .inr) (λh=>.inr (.inl h))),i.rely.size,i.rely.env⟩;obtain⟨g1,w1,es,hst,hg⟩:=ok w' o;have W:∀b,grown X.mine w' w1 b->¬Z.hE b:=by
   rintro b (f|⟨f,_⟩)
   .grind
   .intro hS;have:=hsz b hS;have:=i.rely.size;grind[q8]
  have bO:∀b,fr b->¬grown X.mine w' w1 b:=by
   rintro b f (h|⟨h,_⟩)
   .grind
   .have:=(s b f).2.2;have:=i.rely.size;grind[q8]
  have I:∀b,fr b->w1.heap[b]?=X.w.heap[b]?:=λb f=>by have c:=i.rely.heap b (.inr (.inr f));simp[q8]at c;rw[<-c];refine hg.kept b ?_ (s b f).1;grind
  have S:(⟨g1,w1,grown (q8 X fr).mine w' w1⟩:aX)=q8 ⟨g1,w1,grown X.mine w' w1⟩ fr:=by
   unfold q8;congr 1
   grind[grown]
  refine .quiet hst ⟨hg.run,⟨λb f E _=>hg.kept b f λh=>E (.inl h),hg.size,by rw[hg.os];exact .refl _,hg.output,hg.tape⟩,λb f hS=>hg.kept b f AJ,AZ _ _ λe A d=>?_,?_⟩ ?_
  .have:=hg.evs e AJ;unfold yp at this;unfold uh;cases r:e.loc with
   |cell a=>
    rw[r]at this;obtain⟨c,u,t⟩:=this;refine .inl ⟨t,?_,y⟩;cases j:e.write with
    |true=>exact .inr (.inl ((u j).imp .inl id))
    |false=>
     rcases c with c|c
     .rcases q _ c with h|h
      .grind
      .exact .inr (.inl (.inl (.inr h)))
     .exact .inr (.inl (c.imp .inl id))
   |obj a=>
    rw[r]at this;obtain⟨c,u,t⟩:=this;refine⟨t,?_,y⟩;cases j:e.write with
    |true=>exact .inr ((u j).imp .inl id)
    |false=>
     rcases c with c|c
     .rcases q _ c with h|h
      .grind
      .exact .inr (.inl (.inr h))
     .exact .inr (c.imp .inl id)
   |mark mk=>rw[r]at this;cases mk<;>first|exact .inl this|grind
   |output=>trivial
   |goroutines=>grind
  .rintro(⟨e,A,j⟩|h)
   .have:=hg.evs e A;unfold yp at this;rcases j with h|h|⟨a,h⟩|⟨a,h⟩|⟨j,b,f,hS⟩
    .grind
    .grind
    .grind
    .grind
    grind[e8]
   grind
  .rw[S];have U:X.w.heap.size<=w1.heap.size:=vac i.rely.size hg.size;refine F w' g1 w1 es o hst p fr q hg.run AJ AJ AJ (λb hK=>⟨AJ,?_⟩) ?_
   .rintro(h|⟨h,_⟩)
    .grind
    .have:=(x b hK).1;have:=o.size;omega
   intro Y B D C O R J K n N P M w v;refine k Y B D (G.trans _ _ _ _ H C) O R AJ AJ (λb hK=>⟨(n b hK).1,?_⟩) (λb h=>N b (.inl h)) (λb h=>?_) ?_ ?_ ?_
   .have c:=i.rely.heap b (.inl hK);simp[q8]at c;rw[(n b hK).2,<-c];exact hg.kept b AJ (x b hK).2
   .have L:X.w.heap.size<=w'.heap.size:=o.size;rcases P b h with(h|h)|h
    .grind
    .grind
    grind
   .exact(show OsLater X.w.os w'.os from i.later).trans (by rw[<-hg.os];grind)
   .rw[w];exact hg.output.trans i.output
   .rw[v];exact hg.tape.trans i.tape
end
def bZ(_:Nat):Prop:=False
structure JW(C:cQ)(bI G:dY)(w:aH)(R:fX)(v':Value)(ky:dY)(w':aH)(ρ:Ren)(w1:aH)(v:Value):Prop where
 post:R v w1
 val:ax ρ v v'
 world:∃S,et C S ρ w1 w'
 le:Ren.le (dz (λb=>bI b\/G b) bZ) ρ
 dom:∀a b,ρ.rel a b->bI b\/ky b
 sub:∀b,G b->ky b
 old:∀a b,ρ.rel a b->a=b\/w.heap.size<=b
section
variable{c:da}{Stop:Bool->ai.Lo At->aX->Prop}{m:Bool}
structure C6(C:cQ)(bI G:dY)(w:aH)(R:Ending->aH->Prop)(e':Ending)(ky:dY)(w':aH)(ρ:Ren)(w1:aH)(e:Ending):Prop where
 post:R e w1
 val:JR ρ e e'
 world:∃S,et C S ρ w1 w'
 le:Ren.le (dz (λb=>bI b\/G b) bZ) ρ
 dom:∀a b,ρ.rel a b->bI b\/ky b
 sub:∀b,G b->ky b
 old:∀a b,ρ.rel a b->a=b\/w.heap.size<=b
def Tm{P:cf}{upd:Bool}(C:(cr P upd).Good)(Z:upd=false){fn:Func}{D:Code}(z:P.funcs[f]?=some fn)(hk:gz P upd fn=true)(d:fn.body=some D)(B:vJ fn=true){l:ai.Lo At}(hp:jm l.al=false){E:ai.aN cb->Prop}(J:∀γ n,E γ->(am (ar c)).dM l γ n->E n){bI G M:dY}(X:∀b,bI b->c.K b)(hG:∀b,G b->M b)(hg:∀g,g<=P.globals.size->bI g){args:fi}(A:aM (dz (λb=>bI b\/G b) bZ) args args){R:aH->Ending->aH->Prop}(j:∀i e w,R i e w->e≠ .outgrown)(I:fA (cr P upd) (λb=>bI b\/G b) bZ w0)(h9:∀w,(∀b,bI b\/G b->w.heap[b]?=w0.heap[b]?)->∀i,gm (cr P upd) (λb=>bI b\/G b) bZ w i->∀T,Calls (ae P upd) f args {i with tape:=T} (R i)):
 Gt P Stop m f args (y0 c l M w0 E) (λF H=>∃r M' w',(∃w i ρ w1 e,(∀b,bI b\/G b->w.heap[b]?=w0.heap[b]?)/\gm (cr P upd) (λb=>bI b\/G b) bZ w i/\C6 (cr P upd) bI G w (R i) F r w' ρ w1 e)/\(∀b,r b->M' b)/\gp (am (ar c)) M w0 M' w'/\H=y0 c l M' w' E):=by
 intro a2 aD aB aJ aL aG csZ Q w γ hS;have hF:ah (am (ar c)) M w0 [] w:=hS.1;have k:=c_ (bA c);have O:∀b,bI b\/G b->w.heap[b]?=w0.heap[b]?:=λb d=>hF.rw.heap b AJ;have N:fA (cr P upd) (λb=>bI b\/G b) bZ w:=λb d=>by obtain⟨o,h1,h2⟩:=I b d;grind
 obtain⟨i,s⟩:=IL (cr P upd) (λb=>bI b\/G b) bZ w;have u:=iP.more (K':=λb=>bI b\/G b) AJ (aor C z hk d B N AJ AJ A (R:=R i) (j i) s AJ m (a2.at aD (.inRegion aB (aJ::aL)::aG)) csZ);have W:(⟨a0 (Frame.enter P f args .normal) (a2.at aD (.inRegion aB (aJ::aL)::aG)::csZ),w,M⟩:aX)=q8 ⟨a0 (Frame.enter P f args .normal) (a2.at aD (.inRegion aB (aJ::aL)::aG)::csZ),w,bZ⟩ M:=by
  unfold q8;congr 1
  funext b
  exact propext ⟨.inr,λh=>h.resolve_left (λx=>x)⟩
 show bf _ _ _ _ l γ ⟨a0 (Frame.enter P f args .normal) (a2.at aD (.inRegion aB (aJ::aL)::aG)::csZ),w,M⟩;rw[W];have p:∀b,M b->¬(am (ar c)).hE b:=λb h=>hF.eL b (.inr (.inl h));refine aaY k AJ (λ_ _ h=>h) u γ M AJ rfl (λb d=>p b (d.resolve_left (λx=>x))) (λb d=>⟨λx=>x,hF.vE b d,hF.lt b (.inr (.inl d))⟩) (λb hS=>hF.lt b (.inr (.inr hS))) (λb hK=>⟨hF.lt b (.inl hK),λx=>x⟩) ?_;rintro Y n ⟨ρ,w1,v,v',j⟩ y Tk NE L hsz K Tl S t V U;have hsz':w.heap.size<=Y.w.heap.size:=hsz;have q:gp (am (ar c)) M w0 (λb=>Y.mine b\/M b) Y.w:=by
  refine⟨AJ,hF.rw.trans ⟨λb d=>?_,hsz,t,V,U⟩,.refl _ _ _,AQ,λb d=>?_,λb d=>?_,AQ,AQ,λb d hK=>?_⟩
  .grind
  .rcases d with h|(h|h)|h
   .exact vav (hF.lt b (.inl h)) hsz'
   .exact(S b h).elim (λx=>x.elim) (λx=>x.2)
   .grind
   .exact vav (hF.lt b (.inr (.inr h))) hsz'
  .rw[mT]at d;rcases d with h|h
   .exact k.nt b h
   grind
  .rcases d with h|h
   .grind
   .exact hF.vE b h hK
 have:=Q v' (y0 c l (λb=>Y.mine b\/M b) Y.w E) ⟨λb=>G b\/Y.mine b,_,Y.w,⟨w,i,ρ,w1,v,O,s,j.post,j.val,j.world,j.le,λa b h=>?_,AJ,λa b h=>?_⟩,AJ,q,rfl⟩ Y.w n ⟨q.n4,J _ _ hS.2 y⟩
 .unfold q8;have e:=j.g;rw[e];exact this
 .rcases j.dom a b h with h|h
  .grind
  grind
 .rcases j.old a b h with h|h
  .exact .inl h.1
  grind
def aa2{P:cf}{l:ai.Lo At}{M:dY}{args:fi}{V pf:Ending->cv (am (ar c))->Prop}(h:Gt P Stop m f args (y0 c l M w0 λ_=>True) V)(d:∀e a,V e a->∃M' w',a=y0 c l M' w' (λ_=>True)/\pf e (dZ c l M' w')):Gt P Stop m f args (dZ c l M w0) pf:=
 λa2 aD aB aJ aL aG csZ hK w γ hS=>h a2 aD aB aJ aL aG csZ (λe a hv w2 g i=>by
  obtain⟨M',w',rfl,b⟩:=d e a hv;exact hK e _ b w2 g i.1) w γ ⟨hS,PA⟩
def aoT{P:cf}{upd:Bool}(x:(cr P upd).Good)(o:upd=false){fn:Func}{C:Code}(p:P.funcs[f]?=some fn)(hk:gz P upd fn=true)(q:fn.body=some C)(s:vJ fn=true){l:ai.Lo At}(k:jm l.al=false){bI G M:dY}(n:∀b,bI b->c.K b)(t:∀b,G b->M b)(hg:∀g,g<=P.globals.size->bI g){args:fi}(r:aM (dz (λb=>bI b\/G b) bZ) args args){R:ubq}(D:fA (cr P upd) (λb=>bI b\/G b) bZ w0)(y:∀w,(∀b,bI b\/G b->w.heap[b]?=w0.heap[b]?)->∀a,gm (cr P upd) (λb=>bI b\/G b) bZ w a->∀T,Calls (ae P upd) f args {a with tape:=T} (λe w1=>∃v,e=.returned v/\R a v w1)):
 iG P Stop m f args (dZ c l M w0) (λu j=>∃d M' w',(∃w a ρ w1 v,(∀b,bI b\/G b->w.heap[b]?=w0.heap[b]?)/\gm (cr P upd) (λb=>bI b\/G b) bZ w a/\JW (cr P upd) bI G w (R a) u d w' ρ w1 v)/\(∀b,d b->M' b)/\gp (am (ar c)) M w0 M' w'/\j=dZ c l M' w'):=
 (aa2 (pf:=λe j=>∃u,e=.returned u/\∃d M' w',(∃w a ρ w1 v,(∀b,bI b\/G b->w.heap[b]?=w0.heap[b]?)/\gm (cr P upd) (λb=>bI b\/G b) bZ w a/\JW (cr P upd) bI G w (R a) u d w' ρ w1 v)/\(∀b,d b->M' b)/\gp (am (ar c)) M w0 M' w'/\j=dZ c l M' w')
  (Tm (E:=λ_=>True) x o p hk q s k (λ_ _ _ _=>trivial) n t hg r (R:=λa e w1=>∃v,e=.returned v/\R a v w1) (λa e w1 h=>by obtain⟨v,rfl,-⟩:=h;simp) D y)
  (by
   rintro H j ⟨d,M',w',⟨w,a,ρ,w1,e,B,A,i⟩,z,F,rfl⟩;obtain⟨v,rfl,k⟩:=i.post;cases i.val with
   |ret hv=>exact⟨M',w',Y,_,Y,d,M',w',⟨w,a,ρ,w1,v,B,A,k,hv,i.world,i.le,i.dom,i.sub,i.old⟩,z,F,Y⟩)).ret λ_ _ h=>h
end
end
def y3(R:uay):Prop:=∀(ρ:Ren)(w w':aH)(v v':Value),Carry ρ w w'->ax ρ v v'->R w v->R w' v'
def NG(bI:dY)(R:uay):Prop:=∀(ρ:Ren)(w w':aH)(v v':Value),(∀b,bI b->ρ.rel b b)->(∀a b b',ρ.rel a b->ρ.rel a b'->b=b')->Carry ρ w w'->ax ρ v v'->R w v->R w' v'
def y3.k{R:uay}(h:y3 R)(bI:dY):NG bI R:=λρ w w' v v' _ _ b hv a=>h ρ w w' v v' b hv a
def lf(C:cQ)(bI X:dY)(R:uay)(u:Value)(M:dY)(w:aH):Prop:=
 ∃G:Nat->Prop,(∀b,G b->M b/\¬X b)/\fA C (λb=>bI b\/G b) bZ w/\ax (dz (λb=>bI b\/G b) bZ) u u/\R w u
variable{w w' w1:aH}{v v':Value}{ρ:Ren}
section
variable{C:cQ}{bI X:dY}
theorem nw{D:dY}(h:fA C D bZ w)(e:∀b,D b->w'.heap[b]?=w.heap[b]?):fA C D bZ w':=λb a=>by obtain⟨o,d,c⟩:=h b a;grind
def nx{D:dY}(p:∀b,D b->w'.heap[b]?=w.heap[b]?)(o:fA C D bZ w):Carry (dz D bZ) w w':=by
 rintro a a' v ⟨⟨n,hd⟩,m,l⟩ hv;obtain⟨c,e,fr,g,i,f⟩:=u9 hv;rw[n]at g;have k:=(p _ hd).trans g;refine⟨v,oo k (l▸i) (m▸f),?_⟩;obtain⟨ob,h,d⟩:=o _ hd;rw[g]at h;cases h;rcases d with d|d
 .cases d with|cells _ j _=>exact j.get _ _ _ f f
 .exact d.elim
theorem lf.mono{R:uay}(f:y3 R){u:Value}{M M':dY}(h:lf C bI X R u M w)(j:∀b,bI b\/M b->w'.heap[b]?=w.heap[b]?)(i:∀b,M b->M' b):lf C bI X R u M' w':=by obtain⟨G,g,d,c,e⟩:=h;have a:∀b,bI b\/G b->w'.heap[b]?=w.heap[b]?:=AJ;exact⟨G,AJ,nw d a,c,f _ _ _ _ _ (nx a d) c e⟩
theorem C6.ret{G:dY}{R:Ending->aH->Prop}{a:dY}(h:C6 C bI G w R (.returned v') a w' ρ w1 (.returned v)):JW C bI G w (λv w1=>R (.returned v) w1) v' a w' ρ w1 v:=by cases h.val with|ret hv=>exact⟨h.post,hv,h.world,h.le,h.dom,h.sub,h.old⟩
def C6.err{G:dY}{R:Ending->aH->Prop}{f:Ending}{g:dY}{b o n k:Nat}(m:bI b)(h:C6 C bI G w R f g w' ρ w1 (y2 (.S b o n k))):f=y2 (.S b o n k):=by obtain⟨S,i⟩:=h.world;have j:ρ.rel b b:=h.le.1 b b ⟨Y,.inl m⟩;unfold y2;cases h.val with|aaR l=>cases l with|@cons _ aW _ _ q p=>cases p;obtain⟨v,rc,gx⟩:=aW;obtain⟨hv,e,d⟩:=q;simp only at hv e d;subst e d;cases hv with|iface _ hv=>cases hv with|slice _ _ r=>rename_i a';obtain⟨ab,s,az⟩:=a';obtain⟨r1,c,a⟩:=r;have:=i.one _ _ _ j r1;simp only at c a this;subst c a this;rfl
def JW.aa5{G:dY}{R:fX}{f M':dY}(h:JW C bI G w R v' f w' ρ w1 v)(k:∀b,f b->M' b/\¬X b){Q:uay}(g:NG bI Q)(i:Q w1 v):lf C bI X Q v' M' w':=by
 obtain⟨S,d⟩:=h.world;have e:(λb=>bI b\/((∃a,ρ.rel a b)/\¬bI b))=λb=>∃a,ρ.rel a b:=by
  funext b
  apply propext;constructor
  .rintro(c|c)
   .exact⟨b,h.le.1 b b ⟨Y,.inl c⟩⟩
   grind
  grind
 refine⟨λb=>(∃a,ρ.rel a b)/\¬bI b,λb c=>?_,?_,?_,g ρ w1 w' v v' (λb c=>h.le.1 b b ⟨Y,.inl c⟩) d.one d.carry h.val i⟩
 .obtain⟨⟨a,j⟩,hk⟩:=c;exact k b ((h.dom a b j).resolve_left hk)
 .rw[e];exact d.closed bZ
 .rw[e];exact ax.right (σ:=dz (λb=>∃a,ρ.rel a b) bZ) (λa b l=>⟨Y,a,l⟩) h.val
end
theorem iG.mono{Z:eX}{Q:cf}{Stop:Bool->Z.Lo->aX->Prop}{m:Bool}{args:fi}{σ:cv Z}{V pf:Value->cv Z->Prop}(h:iG Q Stop m f args σ V)(b:∀u a,V u a->pf u a):iG Q Stop m f args σ pf:=
 λa2 aD aB aJ aL aG csZ hK w γ hS=>h a2 aD aB aJ aL aG csZ AJ w γ hS
def lg{l:uaj}(h:∀v∈l,ax ρ v v):aM ρ l.toArray l.toArray:=by apply aM.Mc;induction l with|nil=>exact .nil|cons a l b=>exact .cons (h a AQ) AJ
variable{ip vM:uah}{bY:aH}{f_ fj:Value}
def aa6{P:cf}{upd:Bool}(J:(cr P upd).Good)(H:upd=false){t r:Func}{Ts Tt:Code}(Tu:P.funcs[ip]?=some t)(Tv:gz P upd t=true)(Tw:t.body=some Ts)(Tx:vJ t=true)(Ty:P.funcs[vM]?=some r)(Tz:gz P upd r=true)(TA:r.body=some Tt)(TB:vJ r=true){Stop:Bool->ai.Lo At->aX->Prop}{c:da}{bI:dY}(z:∀b,bI b->c.K b)(hg:∀g,g<=P.globals.size->bI g)(S:fA (cr P upd) (λb=>bI b\/bZ b) bZ bY){fr a7:uas}(hinv:∀(args:fi)(w:aH),(callMethod fj "Piece" args).run P w=.ok (.enter ip (#[f_]++args)) w/\(callMethod fj "Piece" args).events P w #[]=#[])(aa7:ax (dz (λb=>bI b\/bZ b) bZ) f_ f_){tf tg:uat}(D:∀T,NG bI (tf T))(Q:∀T,y3 (tg T))(fa:∀T,T<c.N->∀w,(∀b,bI b\/bZ b->w.heap[b]?=bY.heap[b]?)->∀f,gm (cr P upd) (λb=>bI b\/bZ b) bZ w f->∀q,Calls (ae P upd) ip #[f_,.I (fr T:Int),.I (a7 T:Int)] {f with tape:=q} (λe w1=>∃v,e=.returned v/\tf T w1 v))(C:GA c bY P Stop 125)(X:∀T,T<c.N->c.bad T=true->∃b o n k,c.place T=.S b o n k/\bI b)(bR:∀T,T<c.N->∀f u,tf T f u->∀q,Calls (ae P upd) vM #[u] {f with tape:=q} (λe w1=>(c.bad T=false/\∃v,e=.returned v/\tg T w1 v)\/(c.bad T=true/\e=y2 (c.place T))))(Gd:∀T w v,c.bad T=false->tg T w v->∃s aA,v=.slice s (c.rows T) aA):
 rh c bY P Stop vM fj ip f_ fr a7 (λT u M w=>lf (cr P upd) bI c.K (tf T) u M w) (λT v M w=>lf (cr P upd) bI c.K (tg T) v M w):=by
 refine⟨hinv,λT l M w0 B A hk I=>?_,λT l M w0 u B A hk I W=>?_,λT v M w d h=>?_,C,λT v M w M' w' h O Y=>lf.mono (Q T) h AJ Y⟩
 .have O:∀b,bI b\/bZ b->w0.heap[b]?=bY.heap[b]?:=λb d=>I b (z b (d.resolve_right (λx=>x)));refine iG.mono (aoT J H Tu Tv Tw Tx A (G:=bZ) (M:=M) z (λb h=>h.elim) hg (R:=λ_ v w1=>tf T w1 v) (lg λv hv=>?_) (nw S O) AJ) ?_
  .simp at hv;rcases hv with rfl|rfl|rfl
   .grind
   .exact .int _ _
   .exact .int _ _
  .rintro u Z ⟨U,M',w',⟨w,f,ρ,w1,v,_,_,i⟩,p,m,rfl⟩;exact⟨M',w',m,i.aa5 (λb d=>⟨p b d,λx=>m.n4.vE b (p b d) x⟩) (D T) i.post,rfl⟩
 .obtain⟨G,y,j,L,K⟩:=W;refine aa2 (Tm (E:=λ_=>True) J H Ty Tz TA TB A (λ_ _ _ _=>trivial) (G:=G) (M:=M) z AJ hg (R:=λ_ e w1=>(c.bad T=false/\∃v,e=.returned v/\tg T w1 v)\/(c.bad T=true/\e=y2 (c.place T))) (lg λv hv=>?_) (λ_ e _ h=>?_) j (λw F f aF q=>bR T B f u ?_ q)) ?_
  .grind
  .rcases h with⟨-,v,rfl,-⟩|⟨-,rfl⟩<;>simp[y2]
  .have bX:=nw j F;exact D T (dz (λb=>bI b\/G b) bZ) _ _ _ _ (λb d=>⟨rfl,.inl d⟩) (λa b b' y j=>y.1.symm.trans j.1) (aF.carry bX) L (D T (dz (λb=>bI b\/G b) bZ) _ _ _ _ (λb d=>⟨rfl,.inl d⟩) (λa b b' y j=>y.1.symm.trans j.1) (nx F j) L K)
  .rintro e' Z ⟨U,M',w',⟨w,f,ρ,w1,e,_,_,i⟩,p,m,rfl⟩;refine⟨M',w',rfl,M',w',m,?_,rfl⟩;rcases i.post with⟨d,v,rfl,hv⟩|⟨d,rfl⟩
   .refine .inl ⟨d,?_⟩;cases he:i.val with|ret V=>exact⟨_,rfl,(C6.ret i).aa5 (λb d=>⟨p b d,λx=>m.n4.vE b (p b d) x⟩) ((Q T).k bI) hv⟩
   .obtain⟨b,o,n,k,N,NH⟩:=X T B d;rw[N]at i;exact .inr ⟨d,by rw[N];exact C6.err NH i⟩
 .obtain⟨G,_,_,_,K⟩:=h;grind
def aa8{P:cf}{upd:Bool}(p:(cr P upd).Good)(m:upd=false){i f:Func}{F E:Code}(D:P.funcs[ip]?=some i)(C:gz P upd i=true)(B:i.body=some F)(A:vJ i=true)(z:P.funcs[vM]?=some f)(y:gz P upd f=true)(I:f.body=some E)(H:vJ f=true){Stop:Bool->ai.Lo At->aX->Prop}{c:da}{bI:dY}(k:∀b,bI b->c.K b)(hg:∀g,g<=P.globals.size->bI g)(l:fA (cr P upd) (λb=>bI b\/bZ b) bZ bY){fr a7:uas}(hinv:∀(args:fi)(w:aH),(callMethod fj "Piece" args).run P w=.ok (.enter ip (#[f_]++args)) w/\(callMethod fj "Piece" args).events P w #[]=#[])(j:ax (dz (λb=>bI b\/bZ b) bZ) f_ f_){tf tg:uat}(J:∀T,y3 (tf T))(L:∀T,y3 (tg T))(t:∀T,T<c.N->∀w,(∀b,bI b\/bZ b->w.heap[b]?=bY.heap[b]?)->∀a,gm (cr P upd) (λb=>bI b\/bZ b) bZ w a->∀d,Calls (ae P upd) ip #[f_,.I (fr T:Int),.I (a7 T:Int)] {a with tape:=d} (λe w1=>∃v,e=.returned v/\tf T w1 v))(im:∀T,c.bad T=false)(x:∀T,T<c.N->∀a u,tf T a u->∀d,Calls (ae P upd) vM #[u] {a with tape:=d} (λe w1=>∃v,e=.returned v/\tg T w1 v))(K:∀T w v,tg T w v->∃s aA,v=.slice s (c.rows T) aA):
 rh c bY P Stop vM fj ip f_ fr a7 (λT u M w=>lf (cr P upd) bI c.K (tf T) u M w) (λT v M w=>lf (cr P upd) bI c.K (tg T) v M w):=
 aa6 p m D C B A z y I H k hg l hinv j (λT=>(J T).k bI) L t (.aoM im) (λT _ h=>by rw[im T]at h;cases h) (λT o a u n d=>(x T o a u n d).mono λe w1⟨v,r,q⟩=>.inl ⟨im T,v,r,q⟩) (λT w v _ h=>K T w v h)
end c5
namespace bU
open Conc ConcM RowKit au bn ai e_ g6 fF hU c5
abbrev bh:=List Int×List bw
def TC(w:aH)(rd:uaq)(r:bh):Prop:=∃pv cI,rd 0=some pv/\rd 1=some cI/\iQ w pv r.1/\j5 w cI r.2
abbrev eS(w:aH):=aZ w 2 TC
def aoX:uy Sn:=by rintro ρ w w' rd i x-hr ⟨h0,g,f,e,d⟩;obtain⟨v0,c,b0⟩:=hr 0 _ h0;obtain⟨v1,a1,b1⟩:=hr 1 _ g;obtain⟨v2,b,b2⟩:=hr 2 _ f;obtain⟨v3,a,h⟩:=hr 3 _ e;rw[b0.aa3]at c;rw[b1.mw]at a1;rw[b2.mw]at b;rw[h.Tq]at a;exact⟨c,a1,b,a,d⟩
def ny:uy TC:=by rintro ρ w w' rd h x b a ⟨pv,i,h0,f,e,d⟩;obtain⟨c,g,b0⟩:=a 0 _ h0;obtain⟨v',a1,b1⟩:=a 1 _ f;exact⟨c,v',g,a1,au.aZ.carry GB b b0 e,au.aZ.carry aoX b b1 d⟩
theorem vN:pM Sn:=λ_ _ _ _ _ _ a h=>⟨a _ _ h.1,a _ _ h.2.1,a _ _ h.2.2.1,a _ _ h.2.2.2.1,h.2.2.2.2⟩
def pj:pM TC:=λ_ _ _ _ _ hk a⟨pv,e,h0,d,c,b⟩=>⟨pv,e,a _ _ h0,a _ _ d,c.mono AF hk,b.mono vN hk⟩
def aa_(xs:ubg):∀j(h:j<xs.length),(two xs)[j*2]?=some xs[j].1/\(two xs)[j*2+1]?=some xs[j].2:=by induction xs with|nil=>grind|cons a l b=>intro j h;cases j with|zero=>exact⟨Y,Y⟩|succ j=>have:=b j AJ;rw[show(j+1)*2=j*2+1+1 from AP];exact this
variable{v:Value}
def NI{Row:uat}{nQ N:Nat}{w:aH}(h:CC Row nQ N v w)(rs:List bh)(a3:rs.length=N)(hs:N<=9223372036854775807)(b:∀j(h:j<rs.length) p q,Row j w (.agg #[p,q])->iQ w p rs[j].1/\j5 w q rs[j].2):eS w v rs:=by
 obtain⟨xs,k,d,c⟩:=h;subst a3;rcases d.2 with⟨rfl,h0⟩|⟨g,cap,bq,rfl,-,hg,-,-,-,ht⟩
 .grind[aZ.nil]
 .refine⟨_,cap,Y,hs,λi hi=>⟨g,0,Y,?_⟩⟩;have a:i<xs.length:=AP;have e:=b i hi _ _ (c i a);have l:=aa_ xs i a;have f:∀o v,(two xs)[o]?=some v->w.cell? (.a g o)=some v:=by grind[World.cell?]
  refine⟨xs[i].1,xs[i].2,?_,?_,e⟩
  .grind
  grind
def aoY{pl:ubd}{vs:List bw}{w:aH}{p q:Value}(h:M7 pl vs w (.agg #[p,q]))(c:pl.length<=9223372036854775807)(hv:vs.length<=9223372036854775807)(ht:∀d∈vs,d.text.size<=9223372036854775807):iQ w p pl/\j5 w q vs:=by obtain⟨b,bv,a,cs,e,g,l,f,k,j⟩:=h;simp at e;obtain⟨rfl,rfl⟩:=e;refine⟨⟨_,_,Y,c,λi hi=>⟨b,0,Y,?_⟩⟩,j5.MN f hv ht j _⟩;show w.cell? (.a b (0+i*1+0))=_;rw[g.rules.1];have:a[0+i*1+0]?=a.toList[i]?:=AQ;grind
def xE(t:List bo)(fr a7:Nat)(w:aH)(u:Value):Prop:=
 ∃gF ee bs v,u=.func (.func 208) #[] #[.P gF 0,.P ee 0,.P bs 0]/\
  w.cell? (.a gF 0)=some (.I fr)/\w.cell? (.a ee 0)=some (.I a7)/\w.cell? (.a bs 0)=some v/\nO w v t
def TE{ρ:Ren}{b:Nat}(h:ax ρ (.P b 0) v):∃a,v=.P a 0/\dE ρ ⟨b,0,none⟩ ⟨a,0,none⟩:=by cases h with|@ptr _ a' k=>obtain⟨a,o',s'⟩:=a';obtain⟨e,d,c⟩:=k;simp only at e d c;subst d;subst c;exact⟨a,Y,e,Y,Y⟩
def TF{ρ:Ren}{f:uah}{b1 b2 e:Nat}(h:ax ρ (.func (.func f) #[] #[.P b1 0,.P b2 0,.P e 0]) v):
 ∃c1 co db,v=.func (.func f) #[] #[.P c1 0,.P co 0,.P db 0]/\dE ρ ⟨b1,0,none⟩ ⟨c1,0,none⟩/\dE ρ ⟨b2,0,none⟩ ⟨co,0,none⟩/\dE ρ ⟨e,0,none⟩ ⟨db,0,none⟩:=by
 cases h with|@func fn n a a' b k i j d r c=>cases i;obtain⟨l⟩:=a';obtain⟨m⟩:=k;simp only[vdy,List.length_nil,vdl]at j d;have g:l=[]:=AJ;subst g;match m,d with| [x,y,z],_=>obtain⟨c1,rfl,q⟩:=TE (c 0 _ x Y Y);obtain⟨co,rfl,p⟩:=TE (c 1 _ y Y Y);obtain⟨db,rfl,o⟩:=TE (c 2 _ z Y Y);grind
def aoZ(t:List bo)(fr a7:Nat):y3 (xE t fr a7):=by rintro ρ w w' u p a f ⟨q,r,bs,v,rfl,j,i,h,g⟩;obtain⟨c1,co,db,rfl,e,d,c⟩:=TF f;obtain⟨cu,a1,n⟩:=a _ _ _ e j;obtain⟨dr,b,m⟩:=a _ _ _ d i;obtain⟨k,o,l⟩:=a _ _ _ c h;rw[n.mw]at a1;rw[m.mw]at b;exact⟨c1,co,db,k,Y,a1,b,o,au.aZ.carry xD a l g⟩
def TG(rs:List bh):y3 (λw v=>eS w v rs):=λ_ _ _ _ _ a hv h=>au.aZ.carry ny a hv h
def ao0:vef.funcs[(206:Nat)]?=some f206:=veb func206
def ao1(t:List bo)(v:Value)(fr a7:Nat)(w:aH)(hv:nO w v t):
 Calls vef 206 #[.agg #[v],.I fr,.I a7] w λe w'=>∃u,e=.returned u/\xE t fr a7 w' u:=by
 obtain⟨a,cap,rfl,-,-⟩:=id hv;go_enter ao0,ntmps206
 go_wp2
 go_ret
 have b1:=((ag.new w #[.slice a t.length cap] 114).alloc (.cells #[.I (fr:Int)] 3)).alloc (.cells #[.I (a7:Int)] 3);have b2:=(ag.new (w.alloc (.cells #[.slice a t.length cap] 114)) #[.I (fr:Int)] 3).alloc (.cells #[.I (a7:Int)] 3);have b:=ag.new ((w.alloc (.cells #[.slice a t.length cap] 114)).alloc (.cells #[.I (fr:Int)] 3)) #[.I (a7:Int)] 3;simp at b2 b;refine⟨_,Y,w.heap.size+1,w.heap.size+1+1,w.heap.size,.slice a t.length cap,Y,b2.rules.1 0,b.rules.1 0,b1.rules.1 0,hv.mono sO (br.ck ?_)⟩;exact(((vaa _ w).alloc Kj _).alloc AQ _).alloc An _
end bU
namespace fF
open Conc RowKit ConcM
set_option maxRecDepth 100000
variable{w:aH}{b:Nat}{p q r x y z:Value}
def asc{t:uab}(a:w.heap[b]?=some (.cells #[x,y,z] t)):((w.setCell ⟨b,0,none⟩ p).setCell ⟨b,1,none⟩ q).setCell ⟨b,2,none⟩ r=w.setRow b #[p,q,r]:=by have e:=setCell_eq_setRow w b 0 #[x,y,z] t (0,0) p a;have b1:=setRow_heap w b #[x,y,z] (#[x,y,z].setIfInBounds 0 p) t (0,0) a;have d:=setCell_eq_setRow _ b 1 _ t (0,0) q b1;have b2:=setRow_heap _ b _ ((#[x,y,z].setIfInBounds 0 p).setIfInBounds 1 q) t (0,0) b1;have c:=setCell_eq_setRow _ b 2 _ t (0,0) r b2;grind[setRow_setRow]
variable{i j:uau}
def qo(a:w.heap[b]?=some (.cells #[x,y,z] 188))(h:p.oneCell'=true/\q.oneCell'=true/\r.oneCell'=true){ev:uak}(hi:ev i=.P b 0)(d:ev j=.agg #[p,q,r]){o:Oper}(c:o.op=.store 188 i j):
 (execOp ev o).run prog w=.ok .skip (w.setRow b #[p,q,r])/\(execOp ev o).events prog w #[]=#[⟨.cell ⟨b,0,none⟩,true,false⟩,⟨.cell ⟨b,1,none⟩,true,false⟩,⟨.cell ⟨b,2,none⟩,true,false⟩]:=by
 obtain⟨dst,op,ty,pos,k,gd⟩:=o;simp only at c;subst c;have cz:w.cell? (.a b 0)=some x:=Ds;have f0:w.frozen? ⟨b,0,none⟩=false:=by simp[World.frozen?,a]
 have g:(w.setCell ⟨b,0,none⟩ p).heap[b]?=some (.cells #[p,y,z] 188):=by simp[World.setCell,vaz,a]
 have c1:(w.setCell ⟨b,0,none⟩ p).cell? (.a b 1)=some y:=by simp[World.cell?,g]
 have f1:(w.setCell ⟨b,0,none⟩ p).frozen? ⟨b,1,none⟩=false:=by simp[World.frozen?,g]
 have f:((w.setCell ⟨b,0,none⟩ p).setCell ⟨b,1,none⟩ q).heap[b]?=some (.cells #[p,q,z] 188):=by simp_all[World.setCell,vaz]
 have co:((w.setCell ⟨b,0,none⟩ p).setCell ⟨b,1,none⟩ q).cell? (.a b 2)=some z:=by simp[World.cell?,f]
 have e:((w.setCell ⟨b,0,none⟩ p).setCell ⟨b,1,none⟩ q).frozen? ⟨b,2,none⟩=false:=by simp[World.frozen?,f]
 rw[<-asc a];constructor
 .simp[go_sem,hi,d,cz,f0,c1,f1,co,e,run_store,h]
 .simp[go_sem,hi,d,cz,f0,c1,f1,co,e,run_store,events_store,h]
def Wv{ev:uak}{p q r:Int}{k:uau}(hi:ev i=.I p)(b:ev j=.I q)(hk:ev k=.I r){o:Oper}(a:o.op=.build 188 #[(0,i),(1,j),(2,k)]):(execOp ev o).run prog w=.ok (.value (.agg #[.I p,.I q,.I r])) w/\(execOp ev o).events prog w #[]=#[]:=by
 obtain⟨dst,op,ty,pos,c,gd⟩:=o;simp only at a;subst a;constructor
 .simp[go_sem,hi,b,hk]
 .simp[go_sem,hi,b,hk]
def Bs(a:w.heap[b]?=some (.cells #[x,y,z] 188)){ev:uak}(hi:ev i=.P b 0){o:Oper}(c:o.op=.load 188 i):
 (execOp ev o).run prog w=.ok (.value (.agg #[x,y,z])) w/\(execOp ev o).events prog w #[]=#[⟨.cell ⟨b,0,none⟩,false,false⟩,⟨.cell ⟨b,1,none⟩,false,false⟩,⟨.cell ⟨b,2,none⟩,false,false⟩]:=by
 obtain⟨dst,op,ty,pos,d,gd⟩:=o;simp only at c;subst c;have cz:w.cell? (.a b 0)=some x:=Ds;have c1:w.cell? (.a b 1)=some y:=Ds;have co:w.cell? (.a b 2)=some z:=Ds;constructor
 .simp[go_sem,hi,cz,c1,co]
 .simp[go_sem,hi,cz,c1,co]
def OC{t:Value}{tmps:fi}(a:w.heap[b]?=some (.cells #[x,y,z] 188))(d:tmps[2]?=some (.P b 0))(c:tmps[3]?=some t):
 (results f83 tmps).run prog w=.ok (.tuple #[.agg #[x,y,z],t]) w/\(results f83 tmps).events prog w #[]=#[⟨.cell ⟨b,0,none⟩,false,false⟩,⟨.cell ⟨b,1,none⟩,false,false⟩,⟨.cell ⟨b,2,none⟩,false,false⟩]:=by
 have cz:w.cell? (.a b 0)=some x:=Ds;have c1:w.cell? (.a b 1)=some y:=Ds;have co:w.cell? (.a b 2)=some z:=Ds;constructor
 .simp[results,f83,go_sem,d,c,cz,c1,co]
 .simp[results,f83,go_sem,d,c,cz,c1,co]
end fF
namespace cC
open Conc ConcN ConcM bn ai e_
section
section
variable{Shun:uai}{B n:Nat}{t:Trace}{p:jM}
def asW(h:nz Shun B 0 n t)(hn:p.n=n)(q:p.base=n)(hsz:p.size=B)(A:p.tok=none)(w:M9 p)(hK:∀b,p.K b\/p.mine 0 b->∀l,e8 l=some b->¬Shun l)(C:∀j b,j≠0->¬p.mine j b)(hg:∀l,p.hh l\/p.eW l->¬Shun l):ef p t:=by
 have o:∀j,p.bq j->j=0:=λj d=>by
  rcases d with⟨D,v|v⟩
  .exact v
  grind
 have n4:∀{i:Nat}{a:Touch},touchAt t i=some a->a.loc.isMemory=true->¬Shun a.loc->Knows t 0 i:=λg m hs=>(h.known _ _ g m).elim id AJ;have y:∀{i:Nat}{a:Touch}{b:Nat},touchAt t i=some a->e8 a.loc=some b->p.K b\/p.mine 0 b->Knows t 0 i:=λg f q=>n4 g (Gj f) (hK _ q _ f);refine⟨λi a c m cR=>.inr ⟨λu=>hg _ (.inl u) (h.oG i a c m cR),λb f=>⟨λhk=>hK b (.inl hk) _ f (h.oG i a c m cR),λj d=>?_⟩⟩,λi op hi=>by rw[hn];exact h.gs op (vbd hi),λi a b c f=>?_,λi a b c _ f hk j d=>?_,λj i a b d c f z=>?_,AJ,λ_ i a c u=>.inl λj d=>?_,λi a c hs=>.inr (.inr λj d=>?_),λi a g=>?_,h.Kg,λi j d _ x=>.inl ?_⟩
 .by_cases e:j=0
  .subst e;exact hK b (.inr d) _ f (h.oG i a c m cR)
  grind
 .rw[hsz];exact h.low i a b c f
 .grind
 .grind
 .rw[o j d];exact n4 c (w.hh _ u) AJ
 .rw[o j d];exact n4 c (w.eW _ hs) (hg _ (.inr hs))
 .unfold Trace.act? at g;obtain⟨op,s,r⟩:=vak.1 g;exact h.q2 op (vbd s) a r
 .by_cases e:j=0
  .grind[Trace.g?,knows_own]
  .obtain⟨k,hk,q⟩:=h.over i j d e x;unfold Trace.g? at hk;obtain⟨op,s,r⟩:=vak.1 hk;exact⟨k,op,s,r,.inr q⟩
end
section
variable{c:da}
def G6(c:da)(gs:uax)(t:Trace)(q:uas)(l0:ai.Lo At)(g:uaf)(w:aH)(M:dY)(j:Nat):cB (am (ar c)):=
 if j=0 then⟨g,l0,⟨g,w,M⟩,0⟩else⟨gs.getD j default,(⟨.idle,false,Deaf t j,0,.old⟩:ai.Lo At),⟨gs.getD j default,w,λ_=>False⟩,q j⟩
def oO(c:da)(gs:uax)(t:Trace)(q:uas)(l0:ai.Lo At)(g:uaf)(w:aH)(M:dY):List (cB (am (ar c))):=(List.range gs.size).map (G6 c gs t q l0 g w M)
variable{gs:uax}{t:Trace}{q:uas}{l0:ai.Lo At}{g:uaf}{w:aH}{M:dY}
def wC{j:Nat}{r:cB (am (ar c))}(h:(oO c gs t q l0 g w M)[j]?=some r):j<gs.size/\r=G6 c gs t q l0 g w M j:=by unfold oO at h;grind
theorem G7:(oO c gs t q l0 g w M).length=gs.size:=by simp[oO]
def asX(h:0<gs.size):(oO c gs t q l0 g w M)[0]?=some (⟨g,l0,⟨g,w,M⟩,0⟩:cB (am (ar c))):=by unfold oO;rw[vbg,List.getElem?_range h];rfl
theorem EH{j:Nat}(h:j≠0):G6 c gs t q l0 g w M j=⟨gs.getD j default,(⟨.idle,false,Deaf t j,0,.old⟩:ai.Lo At),⟨gs.getD j default,w,λ_=>False⟩,q j⟩:=by unfold G6;grind
def asY(h0:gs[0]?=some g):kM (am (ar c)) (oO c gs t q l0 g w M)=gs:=by
 apply vcp;intro j;rw[CR];cases a:(oO c gs t q l0 g w M)[j]? with
 |none=>grind[G7]
 |some r=>
  obtain⟨b,rfl⟩:=wC a;by_cases e:j=0
  .subst e;rw[h0];rfl
  simp_all[EH]
theorem Vh{f:b3->Nat}(b:f .idle=0):∀(xs:List b3),(∀x∈xs,x=.idle)->ai.aY f xs=0
 | [],_=>rfl
 |a::xs,h=>by have d:=h a AQ;subst d;have c:=Vh b xs AJ;simp only[ai.aY,vdd,List.sum_cons,b]at c⊢;omega
def asZ:∀(xs:uad)(a:Nat),xs[0]?=some a->(∀j x,j≠0->xs[j]?=some x->x=0)->xs.sum=a
 | [],a,h,_=>AJ
 |b::xs,a,h,d=>by
  simp at h;subst h;have:∀(c:uad),(∀x∈c,x=0)->c.sum=0:=by intro c;induction c with|nil=>grind|cons y c f=>simp_all
  have:=this xs (λx e=>by
   obtain⟨j,g⟩:=List.mem_iff_getElem?.1 e;exact d (j+1) x AP AJ)
  grind
def as0{f0 v:Nat}{b0:cb}(F:l0=⟨.idle,false,0,f0,.main (.spawn 0 false)⟩)(C:0<gs.size)(hn:gs.size=c.rows c.N)(e5:gs.size<=c.most)(d:b0.aY=0/\b0.ea=false/\b0.gI=0/\b0.taken=0/\b0.came=0/\b0.done.length=c.N/\b0.least=none):
 (am (ar c)).p7 (⟨⟨false,false,false,0,0,v⟩,f0+c.C*c.N,b0⟩:ai.aN cb) ((oO c gs t q l0 g w M).map (·.l)):=by
 have get:∀{j:Nat}{l:ai.Lo At},((oO c gs t q l0 g w M).map (·.l))[j]?=some l->(j=0/\l=l0)\/(j≠0/\l=⟨.idle,false,Deaf t j,0,.old⟩):=by
  intro j l h;rw[vbg]at h;obtain⟨r,z,rfl⟩:=vak.1 h;obtain⟨u,rfl⟩:=wC z;by_cases e:j=0
  .subst e;exact .inl ⟨Y,Y⟩
  grind[EH]
 have D:((oO c gs t q l0 g w M).map (·.l))[0]?=some l0:=by rw[vbg,asX C];rfl
 have m:∀{j:Nat}{a:At},(((oO c gs t q l0 g w M).map (·.l)).map (·.al))[j]?=some a->(j=0/\a=.main (.spawn 0 false))\/(j≠0/\a=.old):=by grind
 have zero:∀(f:At->Nat),f (.main (.spawn 0 false))=0->f .old=0->dh f (((oO c gs t q l0 g w M).map (·.l)).map (·.al))=0:=λf u A=>
  Ns f _ λi x y=>AJ
 have idle:∀x∈((oO c gs t q l0 g w M).map (·.l)).map (·.mx),x=.idle:=by grind[List.mem_iff_getElem?]
 have ci:=λf n=>Vh (f:=f) n _ idle;refine⟨⟨?_,λ_=>?_,AJ,λe=>?_,λi v' o hi=>?_⟩,⟨λk p hk=>?_,λs hs=>.inl ?_,⟨.spawn 0 false,?_,d.2.1,d.2.2.1,zero _ Y Y,zero _ Y Y⟩,λj s b=>?_,?_,AJ,d.2.2.2.2.2.1,λp=>?_,λj a b pv B _=>?_,?_,λ⟨j,a,b,n⟩=>?_⟩,?_,λi l hi ht=>?_,λi l hi _=>?_,?_⟩
 .exact ci _ Y
 .exact⟨by rw[ci gH Y,ci dX Y];rfl,ci _ Y,ci _ Y,by rw[ci fY Y,ci dX Y];rfl⟩
 .exact absurd e.2.2.2 AJ
 .grind
 .grind[G7]
 .grind
 .grind
 .grind
 .rw[d.1];exact(zero _ Y Y).symm
 .grind[dO,hand,n3]
 .rcases m b with⟨_,rfl⟩|⟨_,rfl⟩<;>simp[laid]at B
 .have:∀k,ib (λp=>dh (dP p) (((oO c gs t q l0 g w M).map (·.l)).map (·.al))*c.rows p) k=0:=λk=>by induction k with|zero=>rfl|succ k E=>grind[e_.ib,dP,n3]
  refine⟨AJ,λq e=>?_,λp _ h=>?_⟩
  .rw[d.2.2.2.2.2.2]at e;cases e
  .exact absurd (zero (dP p) Y Y) (Nat.ne_of_gt h)
 .rcases m b with⟨_,rfl⟩|⟨_,rfl⟩<;>simp[e_.yQ]at n
 .have u:(((oO c gs t q l0 g w M).map (·.l)).map (·.fuel)).sum=f0:=by refine asZ _ _ AJ λj x b y=>?_;grind
  have A:q9 ⟨false,false,false,0,0,v⟩ (((oO c gs t q l0 g w M).map (·.l)).map (·.mx))=0:=by unfold q9;rw[ci dX Y,ci eh Y]
  grind
 .grind
 .grind
 grind[G7]
end
end
section
open au hU
section
variable{c:da}{P:cf}{cO:uae}{SM:ai.Lo At->aX->Prop}
def EI(c:da)(P:cf)(cO:uae)(SM:ai.Lo At->aX->Prop):Bool->ai.Lo At->aX->Prop
 |true,l,X=>SM l X
 |false,l,X=>(l.al=.old/\∃k,QuitsD P k l.deaf X.g)\/∃q f,l=⟨.idle,false,1,f,.gone q⟩/\(∃k,QuitsD P k 1 X.g)/\oL c cO q X.mine X.w
def as1:∀(l:ai.Lo At) X,EI c P cO SM false l X->(am (ar c)).Left l/\∃n,QuitsD P n ((am (ar c)).deaf l) X.g:=by
 rintro l X (⟨b,a⟩|⟨q,f,rfl,a,_⟩)
 .grind[rb]
 .exact⟨PA,a⟩
def as2{gs:uax}{t:Trace}{q:uas}{g:uaf}{w:aH}{M:dY}{Shun:uai}{f0 v:Nat}{b0:cb}(h0:gs[0]?=some g)(hrun:g.status=.running)(D:Leavers P t gs q)(u:nz Shun w.heap.size 0 gs.size t)(hn:gs.size=c.rows c.N)(e5:gs.size<=c.most)(d:b0.aY=0/\b0.ea=false/\b0.gI=0/\b0.taken=0/\b0.came=0/\b0.done.length=c.N/\b0.least=none)(A:w.heap[c.st]?=some (gU (ar c) ⟨false,false,false,0,0,v⟩ b0)/\(ar c).oJ b0 w)(x:∀b,M b->¬(am (ar c)).hE b/\¬c.K b)(o:∀b,M b\/c.K b\/(am (ar c)).hE b->b<w.heap.size/\∀l,e8 l=some b->¬Shun l)(ht:bf (am (ar c)) P (EI c P cO SM) true ⟨.idle,false,0,f0,.main (.spawn 0 false)⟩ ⟨⟨false,false,false,0,0,v⟩,f0+c.C*c.N,b0⟩ ⟨g,w,M⟩):
 Inv (am (ar c)) P (EI c P cO SM) gs.size (oO c gs t q ⟨.idle,false,0,f0,.main (.spawn 0 false)⟩ g w M) ⟨⟨false,false,false,0,0,v⟩,f0+c.C*c.N,b0⟩ w t:=by
 have z:0<gs.size:=(vaj.1 h0).1;have G:=c_ (bA c);refine⟨λj r a=>?_,as0 Y z hn e5 d,A,λj r a=>?_,λj r a b n=>?_,λj k r s a hk B b i p=>?_,AJ,λj r a E _=>?_,⟨none,λj r a=>?_,?_⟩,by grind[G7]⟩
 .obtain⟨i,rfl⟩:=wC a;by_cases e:j=0
  .subst e;exact .runs Y hrun ht AQ u.hears Y La
  .have C:(j==0)=false:=by simp[e]
   rw[EH e,C];have hq:=D.old j (gs.getD j default) AP BR;exact .leaves Y hq trivial (.inl ⟨Y,_,hq⟩)
 .obtain⟨i,rfl⟩:=wC a;unfold G6;split<;>exact⟨⟨λ_ _=>Y,vad _,.refl _⟩,.refl _,Y,Y⟩
 .obtain⟨i,rfl⟩:=wC a;by_cases e:j=0
  .subst e;exact⟨(x b n).1,(x b n).2,(o b (.inl n)).1⟩
  grind[EH]
 .obtain⟨_,rfl⟩:=wC a;obtain⟨_,rfl⟩:=wC hk;grind[EH]
 .obtain⟨_,rfl⟩:=wC a;rw[EH E];exact⟨PA,λb h=>h⟩
 .obtain⟨_,rfl⟩:=wC a;grind[G6]
 .refine asW u G7 Y Y Y (aag G _ _ _ _) (λb d=>(o b ?_).2) (λj b a y=>?_) (λl f=>?_)
  .rcases d with d|⟨r,m,d⟩
   .exact .inr (.inl d)
   .obtain⟨_,rfl⟩:=wC m;exact .inl d
  .obtain⟨r,m,d⟩:=y;obtain⟨_,rfl⟩:=wC m;grind[EH]
  .rcases f with f|f
   .obtain⟨b,i,p⟩:=G.Gk l f;grind
   .obtain⟨b,i,p⟩:=G.CK l f;grind
end
section
variable{P:cf}{Post:fX}{p:jM}{g g1:uaf}{w:aH}
def G8(p:jM)(l:Loc):Prop:=p.eW l\/(Z7 p l/\∃b,e8 l=some b/\b<p.size)
theorem as3{t:Trace}(f:ef p t)(hk:∀i j,t.g? i=some j->p.past j->t.counts i->Knows t 0 i)(r:∀j,j≠0->j<p.n->p.past j)(hd:Deaf t 0=0):nz (G8 p) p.size 0 p.n t:=by
 have oG:∀i a,touchAt t i=some a->a.loc.isMemory=true->a.kind=.atomic->G8 p a.loc:=λi a n m hk=>by obtain⟨b,g⟩:=amH m;exact(f.oG i a n m hk).imp id λhn=>⟨hn,b,g,f.low i a b n g⟩
 have l:∀{i:Nat}{op:MemOp},t[i]?=some op->op.g≠0->p.past op.g:=λh d=>r _ d (f.gs _ _ h);refine⟨λop c=>?_,λop c a e=>?_,oG,f.yJ,λi a n m=>?_,λi j q d s=>?_,hd,f.low⟩
 .obtain⟨i,hi⟩:=Array.mem_iff_getElem?.1 c;exact f.gs i op hi
 .obtain⟨i,hi⟩:=Array.mem_iff_getElem?.1 c;exact f.q2 i a (by grind[Trace.act?])
 .obtain⟨op,o,v⟩:=touch_of n;by_cases e:op.g=0
  .grind[knows_own]
  .by_cases u:a.kind=.atomic
   .grind
   .exact .inl (hk i op.g Ja (l o e) ⟨a,by grind[Trace.act?],m,.inl u⟩)
 .unfold Trace.g? at q;obtain⟨op,o,rfl⟩:=vak.1 q;obtain⟨k,z,w,x,g⟩:=hk i op.g Ja (l o d) s;refine⟨k,Ja,?_⟩;rcases g with rfl|g
  .grind
  grind
def as4(hs:g.status=.running)(hstep:∀w,stepG P true g w=.go g1 w #[⟨.mark (.acquire p.wg),false,true⟩])(D:∀j,j≠0->j<p.n->p.past j)(hsz:w.heap.size=p.size)(u:∀k,bK P Post p.n (G8 p) 0 g1 (w.at k)):
 ∀(M:Nat)(gs:uax)(sl:uba)(q:uas)(t:Trace)(a:Nat),sumTo gs.size q<=M->gs.size=p.n->gs[0]?=some g->Leavers P t gs q->ef p t->Deaf t 0=0->mC P Post (crowd gs (w.at a) sl) t:=by
 have own:∀(gs:uax)(sl sl':uba)(q:uas)(t:Trace)(a k:Nat),stepT P (crowd gs (w.at a) sl)=runT P (crowd gs (w.at k) sl') 0->gs.size=p.n->gs[0]?=some g->Leavers P t gs q->ef p t->Deaf t 0=0->mC P Post (crowd gs (w.at a) sl) t:=by
  intro gs sl sl' q t a k hst hn h0 b c hd;have n:=runT_crowd_go (P:=P) (sl:=sl') (i:=0) h0 (show stepG P (0==0) g (w.at k)=_ from hstep _);have d:0<gs.size:=(vaj.1 h0).1;have E:=Nd 0 g.frame.fn g.frame.place (.acquire p.wg);obtain⟨L,hk⟩:=c.amP (y:=({g:=0,fn:=g.frame.fn,pos:=g.frame.place,act:=.mark (.acquire p.wg)}:MemOp)) Y AP Y hd;have H:Deaf (t++MemOp.ofEvents 0 g.frame.fn g.frame.place #[⟨.mark (.acquire p.wg),false,true⟩]) 0=0:=by rw[Deaf_own,hd];rfl
  have K:nz (G8 p) p.size 0 p.n (t++MemOp.ofEvents 0 g.frame.fn g.frame.place #[⟨.mark (.acquire p.wg),false,true⟩]):=by grind[as3,Gl]
  refine mC.step (hst.trans n) (u k _ _ q _ AJ AJ ⟨λj x m l=>?_,λj m=>?_⟩ (by rw[show(w.at k).heap.size=p.size from hsz];grind))
  .have f:0≠j:=by omega
   rw[vdf f,vch]at l;obtain⟨y,r,rfl⟩:=vak.1 l;have hq:=b.old j y m r;grind[woken_quitsD,Dm]
  .rw[Dm _ _ _ _ AJ];exact b.above j AJ
 intro M;induction M with
 |zero=>
  intro gs sl q t a C hn h0 b c hd;obtain⟨i,v,k,sl',hi,hg,hst⟩:=crowd_pick (P:=P) (w:=w.at a) (sl:=sl) (GJ b h0 hs) AJ;rcases vbn i with rfl|e
  .exact own gs sl sl' q t a k hst hn h0 b c hd
  .obtain⟨gs',h,fn,pos,es,_,_,_,_,_,d⟩:=Uj (w:=w) (k:=k) (sl':=sl') b h0 hs e hi hg;omega
 |succ M o=>
  intro gs sl q t a C hn h0 b c hd;obtain⟨i,v,k,sl',hi,hg,hst⟩:=crowd_pick (P:=P) (w:=w.at a) (sl:=sl) (GJ b h0 hs) AJ;rcases vbn i with rfl|e
  .exact own gs sl sl' q t a k hst hn h0 b c hd
  .obtain⟨gs',h,fn,pos,es,B,J,A,z,I,F⟩:=Uj (w:=w) (k:=k) (sl':=sl') b h0 hs e hi hg;have d:i<gs.size:=(vaj.1 hi).1;refine mC.step (hst.trans B) (o gs' sl' h _ k AP AP A z ?_ ?_)
   .exact ef.mute (p:=p) (i:=i) AP fn pos es.toList c AJ
   .rw[Deaf_other t (g':=i) AP _ (λop s=>Dr)];exact hd
end
end
section
open au hU
section
variable{c:da}{P:cf}{Post:fX}{cO:uae}
structure KM(c:da)(cO:uae)(M:dY)(w0:aH)(n':Nat)(a8:uai)(M':dY)(D:uaj)(w':aH):Prop where
 n:n'<=c.most
 z4:∀b,M' b\/w'.heap.size<=b->∀l,e8 l=some b->¬a8 l
 PG:∀off sp,2<=off->¬a8 (.cell ⟨c.st,off,sp⟩)
 Pv:a8 (.cell ⟨c.st,0,none⟩)/\a8 (.cell ⟨c.st,1,none⟩)
 sub:∀b,M b\/c.K b\/b=c.bJ->M' b
 low:∀b,M' b\/b=c.st->b<w'.heap.size
 Vi:¬M' c.st
 len:D.length=c.N
 done:w'.heap[c.bJ]?=some (.cells D.toArray c.Gv)
 st:∃T m L,w'.heap[c.st]?=some (.cells #[.int .i32 0,.int .u32 0,c.size,c.A5,.I ((T:Nat):Int),.I ((m:Nat):Int),c.yT,L.elim c.least c.place] c.Nw)/\(∀q,L=some q->c.bad q=true/\q<c.N)/\∀p,p<c.N->c.bad p=true->∃q,L=some q/\q<=p
 stands:∀b,c.K b\/M b->w'.heap[b]?=w0.heap[b]?
 size:w0.heap.size<=w'.heap.size
 os:OsLater w0.os w'.os
 output:w'.output=w0.output
 tape:w'.tape=w0.tape
 GK:∀p,p<c.N->c.bad p=false->∃v,D[p]?=some v/\cO p v M' w'
def KN(c:da)(P:cf)(M:dY)(w0:aH)(mG:Goroutine->Prop)(l:ai.Lo At)(X:aX):Prop:=
 (l.mx=.idle/\l.deaf=0/\l.al=.main .over)/\(∃g1,(∀w,stepG P true X.g w=.go g1 w #[⟨.mark (.acquire ⟨c.wg,0,none⟩),false,true⟩])/\∃g',mG g'/\∃k,∀w,Goes P true (λ_ _=>True) Go.ConcR.DC0 (λg2 _=>g2=g') k g1 w)/\ak (am (ar c)) M w0 X.w/\∀b,M b->X.mine b
def as5{m:bp}{xs:List b3}(h:dm m xs)(hi:∀x∈xs,x=.idle):m.L=false/\m.W=false/\m.S=false/\m.k=0/\m.sema=0:=by
 have ci:=λf a=>Vh (f:=f) a _ hi;have c:=h.o;rw[ci _ Y]at c;have d:m.L=false:=AJ;have hS:m.S=false:=by cases hs:m.S with
  |false=>rfl
  |true=>have:=h.st hs;rw[ci fY Y,ci fE Y]at this;omega
 have b:=h.nm hS;rw[ci gH Y,ci dX Y,ci fY Y]at b;grind
def as6(iZ:∀T v M w M' w',cO T v M w->(∀b,c.K b\/M b->w'.heap[b]?=w.heap[b]?)->(∀b,M b->M' b)->cO T v M' w'){n:Nat}{g:uaf}{mG:Goroutine->Prop}{w w0:aH}{M:dY}{Shun:uai}{f0 v:Nat}{b0:cb}(hrun:g.status=.running)(hn:n=c.rows c.N)(e5:n<=c.most)(f:b0.aY=0/\b0.ea=false/\b0.gI=0/\b0.taken=0/\b0.came=0/\b0.done.length=c.N/\b0.least=none)(nZ:w.heap[c.st]?=some (gU (ar c) ⟨false,false,false,0,0,v⟩ b0)/\(ar c).oJ b0 w)(dA:∀b,M b->¬(am (ar c)).hE b/\¬c.K b)(nA:∀b,M b\/c.K b\/(am (ar c)).hE b->b<w.heap.size/\∀l,e8 l=some b->¬Shun l)(ht:∀k,bf (am (ar c)) P (EI c P cO (KN c P M w0 mG)) true ⟨.idle,false,0,f0,.main (.spawn 0 false)⟩ ⟨⟨false,false,false,0,0,v⟩,f0+c.C*c.N,b0⟩ ⟨g,w.at k,M⟩)(Vj:∀g',mG g'->∀n' a8 M' D w',KM c cO M w0 n' a8 M' D w'->bK P Post n' a8 0 g' w'):bK P Post n Shun 0 g w:=by
 intro gs sl q t hsz h0 aF fa;have G:=c_ (bA c);have as7:=as2 (c:=c) (cO:=cO) (SM:=KN c P M w0 mG) (M:=M) h0 hrun aF AJ (hsz.trans hn) AJ f nZ dA nA (ht w.drawn);obtain⟨N,m',t1,S,rs,γ,w1,R,rfl,⟨I,C,OQ,sZ⟩,o,xf⟩:=phase G as1 as7 (by rw[G7];grind) sl;rw[asY h0]at S;refine mC.leads (q:=λm t=>m=crowd (kM (am (ar c)) rs) w1 R/\t=t1) (λm t F=>?_) N S ⟨rfl,rfl⟩;obtain⟨rfl,rfl⟩:=F;obtain⟨⟨hmx,CS,m5⟩,⟨g1,as8,g',as9,kk,as_⟩,O,dc⟩:=OQ;have Y:s6 (ar c) γ (rs.map (·.l)):=o.ud;have A:cV c.N c.rows c.bad γ.al ((rs.map (·.l)).map (·.al)):=Y.pe;have R9:∀{j:Nat}{r:cB (am (ar c))},rs[j]?=some r->(rs.map (·.l))[j]?=some r.l:=λh=>AJ;have vX:∀{j:Nat}{r:cB (am (ar c))},rs[j]?=some r->((rs.map (·.l)).map (·.al))[j]?=some (show ai.Lo At from r.l).al:=λh=>AJ;have OR:((rs.map (·.l)).map (·.al))[0]?=some (.main .over):=AJ;have V:∀{j:Nat}{r:cB (am (ar c))},j≠0->rs[j]?=some r->(am (ar c)).Left r.l:=λz h=>(A.all OR _ _ (vX h)).resolve_left z;have ata:∀{j:Nat}{r:cB (am (ar c))},j≠0->rs[j]?=some r->QuitsD P r.n (Deaf t j) r.g/\EI c P cO (KN c P M w0 mG) false r.l r.X:=by intro j r z h;have e0:(j==0)=false:=AJ;have hs:=o.sits j r h;rw[e0]at hs;cases hs with|runs _ _ _ _ _ _ s=>grind|waits _ _ _ _ _ _ _ _ s=>grind|leaves _ hq _ hs=>grind
 obtain⟨aS,Nf,hT⟩:=o.aS;have atb:I.X.g.status=.running:=by cases o.sits 0 I C with|runs _ d _ _ _ _ _=>exact d|waits _ d _ _ _ _ _ _ _=>exact d|leaves F _ _ _=>cases F
 have atc:Deaf t 0=0:=by cases o.sits 0 I C with|runs _ _ _ _ hd _ _=>grind|waits _ _ _ _ m0 _ hd _ _=>grind|leaves F _ _ _=>cases F
 have atd:(jj (am (ar c)) gs.size rs w1.heap.size aS).n=rs.length:=rfl;have ate:Leavers P t (kM (am (ar c)) rs) (λj=>((rs[j]?).map (·.n)).getD 0):=by
  refine⟨λi x hi u=>?_,λj z=>?_⟩
  .grind[CR]
  .refine Deaf_absent λi op hi e=>?_;have:=hT.gs i op hi;grind[kM]
 have vz:∀j,j≠0->j<(jj (am (ar c)) gs.size rs w1.heap.size aS).n->(jj (am (ar c)) gs.size rs w1.heap.size aS).past j:=by intro j z J;have d:rs[j]?=some rs[j]:=vat J;refine⟨rs[j],d,?_⟩;have:=V z d;show jm (show ai.Lo At from rs[j].l).al=true;have y:rb (show ai.Lo At from rs[j].l).al:=this;cases E:(show ai.Lo At from rs[j].l).al with|gone _=>rfl|old=>rfl|main _=>rw[E]at y;exact y.elim|work _ _=>rw[E]at y;exact y.elim
 let M':Nat->Prop:=λb=>M b\/c.K b\/b=c.bJ\/∃(j:Nat)(r:cB (am (ar c))),rs[j]?=some r/\r.X.mine b
 have atf:∀b,M' b->b≠c.st/\b≠c.wg:=by
  rintro b (h|h|h|⟨j,r,d,h⟩)
  .grind
  .exact⟨(c.yU b h).1,(c.yU b h).2.1⟩
  .exact⟨λe=>c.eL.2.1 (e.symm.trans h),λe=>c.eL.2.2 (e.symm.trans h)⟩
  .have:=(o.sh j r d b h).1;grind
 have gV:∀b,M' b->∀l,e8 l=some b->¬G8 (jj (am (ar c)) gs.size rs w1.heap.size aS) l:=by
  intro b f l s hs;rcases hs with hs|⟨⟨hg,hn⟩,_⟩
  .have X:l=.cell (ai.fP (ar c))\/l=.cell (ai.k_ (ar c))\/(l=.cell ⟨c.wg,0,none⟩\/l=.cell ⟨c.wg,1,none⟩):=hs;rcases X with rfl|rfl|rfl|rfl<;>simp only[e8,vbf,ai.fP,ai.k_]at s
   .grind
   .grind
   .grind
   grind
  .obtain⟨hK,F⟩:=hn b s;rcases f with h|h|h|⟨j,r,d,h⟩
   .exact F 0 ⟨I,C,(dc b) h⟩
   .exact hK h
   .subst h;exact hg (.inr s)
   .exact F j ⟨r,d,h⟩
 refine as4 (w:=w1) atb as8 vz rfl (λk=>?_) _ _ R _ t w1.drawn Kj (by simp[kM,atd]) (by rw[CR,C];grind) ate hT atc;have AC:∀{j:Nat}{r:cB (am (ar c))},rs[j]?=some r->∀b,c.K b\/r.X.mine b->w1.heap[b]?=r.X.w.heap[b]?:=λh b f=>(o.rely _ _ h).1.heap b f;have U:w1.heap[c.st]?=some (gU (ar c) γ.mu γ.al)/\w1.heap[c.wg]?=some (tb c γ.al)/\(True->w1.heap[c.bJ]?=some (Gw c γ.al)):=o.mt;have atg:∀x∈(rs.map (·.l)).map (λl:ai.Lo At=>l.mx),x=.idle:=by
  intro x u;obtain⟨l,s,rfl⟩:=vbx.1 u;obtain⟨r,d,rfl⟩:=vbx.1 s;obtain⟨j,z⟩:=List.mem_iff_getElem?.1 d;by_cases e:j=0
  .grind
  .exact Y.JB j r.l (R9 z) (V e z)
 obtain⟨m1,sH,Nu,A4,ath⟩:=as5 Y.l3 atg;have Nn:γ.mu.word=0:=Iv;obtain⟨FT,Jk,ati,atj⟩:=o.rely 0 I C;have key:∀p,p<c.N->∃(j:Nat)(r:cB (am (ar c)))(B:uac)(x:Nat×Value),rs[j]?=some r/\(show ai.Lo At from r.l).al=.gone B/\x∈B/\x.1=p/\oL c cO B r.X.mine r.X.w:=by
  intro p E;have kw:γ.al.taken=c.N:=by
   rcases A.ta .over OR with⟨B,e⟩|⟨a,Z,hw⟩
   .cases e
   .have EJ:=(A.all OR _ _ Z);refine A.e6 ⟨_,a,Z,?_⟩;rcases EJ with e|e
    .rw[e,OR]at Z;cases Z;cases hw
    .cases a<;>first|exact e.elim|rfl|cases hw
  have dW:=A.own p;rw[kw,vbz E]at dW;obtain⟨j,a,z,H⟩:∃(j:Nat)(a:At),((rs.map (·.l)).map (λl:ai.Lo At=>l.al))[j]?=some a/\0<dO p a:=by
   by_cases L:∃(j:Nat)(a:At),((rs.map (·.l)).map (λl:ai.Lo At=>l.al))[j]?=some a/\0<dO p a
   .exact L
   .exfalso;have hz:dh (dO p) ((rs.map (·.l)).map (λl:ai.Lo At=>l.al))=0:=Ns _ _ λi x u=>by
     rcases vbn (dO p x)with e|e
     .exact e
     .exact absurd ⟨i,x,u,e⟩ L
    have r5:dh (dO p) ((rs.map (·.l)).map (λl:ai.Lo At=>l.al))=1:=dW;omega
  have K:=z;rw[vbg]at K;obtain⟨l,s,rfl⟩:=vak.1 K;rw[vbg]at s;obtain⟨r,d,rfl⟩:=vak.1 s;have OP:j≠0:=by rintro rfl;rw[C]at d;cases d;rw[m5]at H;simp[dO,hand,n3]at H
  rcases(ata OP d).2 with⟨e,_⟩|⟨B,f',e,_,kd⟩
  .rw[e]at H;simp[dO,hand,n3]at H
  .rw[e]at H;simp only[dO,hand,n3,List.count_nil,vce]at H;obtain⟨x,u,W⟩:=vbx.1 (vdw.1 H);exact⟨j,r,B,x,d,KE,u,W,kd⟩
 have iB:∀k,KM c cO M w0 rs.length (G8 (jj (am (ar c)) gs.size rs w1.heap.size aS)) M' γ.al.done (w1.at k):=by
  intro k;refine⟨by have:=Y.len;grind,λb f l s=>?_,λoff sp y hs=>?_,⟨.inl LF,.inl (.inr LF)⟩,?_,?_,λh=>(atf _ h).1 rfl,A.len,?_,⟨γ.al.taken,γ.al.came,γ.al.least,?_,A.came.2.1,λp E eM=>A.came.2.2 p eM ?_⟩,λb f=>?_,vac O.size FT.size,O.later.trans Jk,ati.trans O.output,atj.trans O.tape,λp E eM=>?_⟩
  .rcases f with f|f
   .grind
   .rintro(hs|⟨_,b',Q,J⟩)
    .obtain⟨b',Q,X⟩:=G.CK l hs;rw[s]at Q;cases Q;have:=o.low b (.inr X);have e:(w1.at k).heap.size=w1.heap.size:=rfl;omega
    .rw[s]at Q;cases Q;have e:(jj (am (ar c)) gs.size rs w1.heap.size aS).size=w1.heap.size:=rfl;have e':(w1.at k).heap.size=w1.heap.size:=rfl;omega
  .rcases hs with hs|⟨⟨hg,_⟩,_⟩
   .have X:(.cell ⟨c.st,off,sp⟩:Loc)=.cell (ai.fP (ar c))\/(.cell ⟨c.st,off,sp⟩:Loc)=.cell (ai.k_ (ar c))\/((.cell ⟨c.st,off,sp⟩:Loc)=.cell ⟨c.wg,0,none⟩\/(.cell ⟨c.st,off,sp⟩:Loc)=.cell ⟨c.wg,1,none⟩):=hs;grind[ai.fP,ai.k_]
   .exact hg (.inl ⟨off,sp,rfl,y⟩)
  .rintro b (h|h|h)
   .exact .inl h
   .exact .inr (.inl h)
   .exact .inr (.inr (.inl h))
  .rintro b ((h|h|h|⟨j,r,d,h⟩)|h)
   .exact(o.sh 0 I C b ((dc b) h)).2.2
   .exact o.low b (.inl h)
   .exact o.low b (.inr (.inr (.inr h)))
   .exact(o.sh j r d b h).2.2
   .exact o.low b (.inr (.inl h))
  .exact U.2.2 trivial
  .show w1.heap[c.st]?=_;rw[U.1];unfold gU;rw[Nn,ath];rfl
  .obtain⟨j,r,B,x,d,e,u,W,-⟩:=key p E;have h1:=oK (dP p) _ j _ (vX d);have y:1<=dP p (show ai.Lo At from r.l).al:=by rw[e];exact vdw.2 (vbx.2 ⟨x,u,W⟩)
   exact vav y h1
  .exact(AC C b (f.imp id (dc b))).trans (O.heap b f)
  .obtain⟨j,r,B,x,d,e,u,W,kd⟩:=key p E;have h1:=A.val j _ (vX d) x (by rw[e];exact u);have y:=kd x u;rw[W]at h1 y;exact⟨x.2,h1 eM,iZ _ _ _ _ _ _ (y eM) (λb f=>AC d b f) (λb f=>.inr (.inr (.inr ⟨j,r,d,f⟩)))⟩
 exact vU (ab3 kk g1 (w1.at k) (as_ _) λk'=>Vj g' as9 _ _ _ _ _ (iB k'))
end
end
end cC
namespace hU
open Conc RowKit Conc.Lib ConcR.Gen ConcM au bn ai e_ g6 fF
theorem Sf:f83.nn=false:=AS
theorem atr:f84.nn=false:=AS
section
variable{c:da}{Stop:Bool->ai.Lo At->aX->Prop}{fr a7:uas}{fj:Value}{cO:uae}
theorem oL.step(d:∀T v M w M' w',cO T v M w->(∀b,c.K b\/M b->w'.heap[b]?=w.heap[b]?)->(∀b,M b->M' b)->cO T v M' w'){q:uac}{M M':dY}{w w':aH}(h:oL c cO q M w)(a:gp (am (ar c)) M w M' w'):oL c cO q M' w':=λx e f=>d _ _ _ _ _ _ (h x e f) a.rw.heap a.sub
section
variable{a2:Frame}{aD:Act}{aB:fC}{aJ:Nat}{aL:uad}{aG:uaa}{csZ:fG}
def att{f:Nat}{M:dY}{w0 bY:aH}(hI:n5 c bY w0)(S:∀T v M w M' w',cO T v M w->(∀b,c.K b\/M b->w'.heap[b]?=w.heap[b]?)->(∀b,M b->M' b)->cO T v M' w')(OS:∀q k w1,ah (am (ar c)) k w1 [] w1->iG prog Stop false 83 #[.P c.st 0] (dZ c ⟨.idle,false,0,f+15,.work .free q⟩ k w1) (λu U=>(u=.tuple #[.agg #[.I 0,.I 0,.I 0],.F]/\U=xB c ⟨.idle,false,0,f+1,.work .free q⟩ k w1)\/∃T,T<c.N/\u=.tuple #[.agg #[.I (T:Int),.I (fr T:Int),.I (a7 T:Int)],.T]/\U=dZ c ⟨.idle,false,0,f+31,.work (.has T) q⟩ k w1))(Vm:∀q T k w1,T<c.N->n5 c bY w1->iG prog Stop false 84 #[.P c.st 0,fj,.agg #[.I (T:Int),.I (fr T:Int),.I (a7 T:Int)]] (dZ c ⟨.idle,false,0,f+31,.work (.has T) q⟩ k w1) (λu U=>u=.tuple #[]/\∃v o w2,gp (am (ar c)) k w1 o w2/\(c.bad T=false->cO T v o w2)/\U=dZ c ⟨.idle,false,0,f+15,.work .free ((T,v)::q)⟩ o w2))(hK:∀q M' w1,gp (am (ar c)) M w0 M' w1->oL c cO q M' w1->∀w γ,ah (am (ar c)) M' w1 [] w->c.N<=γ.al.taken->bf (am (ar c)) prog Stop false ⟨.idle,false,0,f+1,.work .free q⟩ γ ⟨Conc.G (a2.at (aD.put ((aB[aJ]?).bind (·.dst)) (.tuple #[])) (.inRegion aB aL::aG)) csZ,w,M'⟩)(n:Nat):
 ∀(q:uac)(k:dY)(w1:aH)(cm T:Nat)(dB jB W X fm eO fo fp fq ft Z Y fI fu fv fx i6 fy:Value),c.N<=q.length+n->T<c.N->k cm->w1.heap[cm]?=some (Obj.cells #[.I (T:Int),.I (fr T:Int),.I (a7 T:Int)] 188)->gp (am (ar c)) M w0 k w1->oL c cO q k w1->∀w γ,ah (am (ar c)) k w1 [] w->bf (am (ar c)) prog Stop false ⟨.idle,false,0,f+31,.work (.has T) q⟩ γ ⟨Conc.G ((base 53).at ⟨#[.P c.st 0,fj,dB,jB,.P cm 0,.T,W,X,fm,eO,fo,fp,fq,ft,Z,Y,fI,fu,fv,fx,i6,fy],[]⟩ [.code ((bz.dC (f53.body.getD .skip)).getD .skip),.inLoop ((bz.dC (f53.body.getD .skip)).getD .skip),.inBlock 0]) (a2.at aD (.inRegion aB (aJ::aL)::aG)::csZ),w,k⟩:=by
 have j7:=(c_ (bA c)).nt;induction n with|zero=>intro q k w1 cm T dB jB W X fm eO fo fp fq ft Z Y fI fu fv fx i6 fy hn hT E H K I w γ hF;refine bf.seen (c_ (bA c)) rfl λγ _ lu=>?_;have:=aoK lu rfl;omega|succ n ih=>
 intro q k w1 cm T dB jB W X fm eO fo fp fq ft Z Y fI fu fv fx i6 fy hn hT E H K I w γ hF;rw[<-mT (M:=k)];refine bb (bA c) ?_;simp only[f53,vae,bz.dC]at ih⊢;repeat w_go ah.on
 refine fZ rfl hF λg d A j a F m p hF=>?_;have i:a.heap[cm]?=some (Obj.cells #[.I (T:Int),.I (fr T:Int),.I (a7 T:Int)] 188):=(hF.rw.heap cm (.inr E)).trans H;refine s9 AJ rfl (λb J=>hF.eL b (.inr J)) (vaq rfl rfl Ag (Bs i rfl rfl).1) rfl (λe B=>?_) ?_
 .have y:=vbo B;rw[(Bs i rfl rfl).2]at y;simp at y;rcases y with rfl|rfl|rfl<;>exact⟨rfl,.inr (.inl E)⟩
 clear i p m j d;refine bb (bA c) ?_;walk_nrm
 repeat w_go ah.on
 refine fZ rfl hF λg d A j a F m p hF=>?_;have C:=ah.qe hF;rw[mT]at C;rw[mT];have V:=K.now hF;have Q:a.heap[cm]?=some (Obj.cells #[.I (T:Int),.I (fr T:Int),.I (a7 T:Int)] 188):=(hF.rw.heap cm (.inr E)).trans H;refine JV (σ:=dZ c ⟨.idle,false,0,f+31,.work (.has T) q⟩ k a) AJ rfl rfl Ag (pi (vs:=#[.P c.st 0,fj,.agg #[.I (T:Int),.I (fr T:Int),.I (a7 T:Int)]]) rfl func84 atr rfl Ct a) (Vm q T k a hT (hI.more V)) C ?_;have P:=I.step S ⟨λ_ h=>h,hF.rw,C⟩;clear hF K I H p m j d C;rintro u _ ⟨rfl,v,o,w2,N,vK,rfl⟩ s ep D;have hF:ah (am (ar c)) o w2 [] s:=D;clear D;have O:=N.sub cm E;have H:=N.heap E Q;have K:=V.trans N;have I:oL c cO ((T,v)::q) o w2:=by
  intro x hx J;rcases vbh.1 hx with rfl|hx
  .exact vK J
  .exact P.step S N x hx J
 clear N V P Q E vK;simp only[dZ];rw[<-mT (M:=o)];refine bb (bA c) ?_;walk_nrm
 repeat w_go ah.on
 refine fZ rfl hF λg d A j a F m p hF=>?_;have i:a.heap[cm]?=some (Obj.cells #[.I (T:Int),.I (fr T:Int),.I (a7 T:Int)] 188):=(hF.rw.heap cm (.inr O)).trans H;refine s9 AJ rfl (λb J=>hF.eL b (.inr J)) (vaq rfl rfl Ag (Bs i rfl rfl).1) rfl (λe B=>?_) ?_
 .have y:=vbo B;rw[(Bs i rfl rfl).2]at y;simp at y;rcases y with rfl|rfl|rfl<;>exact⟨rfl,.inr (.inl O)⟩
 clear i p m j d;refine bb (bA c) ?_;walk_nrm
 repeat w_go ah.on
 refine fZ rfl hF λg d A j a F m p hF=>?_;refine uo AJ j7 rfl hF (vaq (v:=.P a.heap.size 0) (w':=a.alloc (Obj.cells #[.I 0,.I 0,.I 0] 188)) rfl rfl Ag A0) rfl BJ (λz=>?_);clear hF;have hF:=z;clear z p m j d;generalize a.heap.size=r at hF⊢;generalize a.alloc (Obj.cells #[.I 0,.I 0,.I 0] 188)=w3 at hF⊢;refine bb (bA c) ?_;walk_nrm
 repeat w_go ah.on
 refine fZ rfl hF λg d A j a F m p hF=>?_;have i:=hF.cZ (r,.cells #[.I 0,.I 0,.I 0] 188) AQ;refine C3 AJ rfl (pre:=[]) (post:=[]) hF (vda (w':=a.setRow r #[.I (T:Int),.I (fr T:Int),.I (a7 T:Int)]) rfl rfl Ag (qo i ⟨rfl,rfl,rfl⟩ rfl rfl rfl).1) rfl (λe B=>?_) (λz=>?_)
 .have y:=vbo B;rw[(qo i ⟨rfl,rfl,rfl⟩ rfl rfl rfl).2]at y;grind
 clear hF;have hF:=z;clear z i p m j d;simp only[vdr]at hF⊢;refine bb (bA c) ?_;walk_nrm
 repeat w_go ah.on
 refine fZ rfl hF λg d A j a F m p hF=>?_;have C:=ah.qe hF;refine JV (σ:=dZ c ⟨.idle,false,0,f+15,.work .free ((T,v)::q)⟩ (ca o [(r,.cells #[.I (T:Int),.I (fr T:Int),.I (a7 T:Int)] 188)]) a) AJ rfl rfl Ag (pi (vs:=#[.P c.st 0]) rfl func83 Sf rfl Ct a) (OS _ _ a C) C ?_;clear p m j d;rintro u _ (⟨rfl,rfl⟩|⟨t,Cm,rfl,rfl⟩) s ep D
 .skip
  have a3:c.N<=ep.al.taken:=D.2;have R:ah (am (ar c)) (ca o [(r,.cells #[.I (T:Int),.I (fr T:Int),.I (a7 T:Int)] 188)]) a [] s:=D.1;replace hF:=hF.on R.rw;clear D R C;simp only[xB];refine bb (bA c) ?_;walk_nrm
  repeat w_go ah.on
  refine fZ rfl hF λg d A j a F m p hF=>?_;replace a3:=vac a3 (vac (vL (c:=c) (l:=⟨.idle,false,0,f+1,.work .free ((T,v)::q)⟩) j) (vL (c:=c) (l:=⟨.idle,false,0,f+1,.work .free ((T,v)::q)⟩) m));have i:=hF.cZ (r,.cells #[.I (T:Int),.I (fr T:Int),.I (a7 T:Int)] 188) AQ;refine C3 AJ rfl (pre:=[]) (post:=[]) hF (vda (w':=a.setRow r #[.I 0,.I 0,.I 0]) rfl rfl Ag (qo i ⟨rfl,rfl,rfl⟩ rfl rfl rfl).1) rfl (λe B=>?_) (λz=>?_)
  .have y:=vbo B;rw[(qo i ⟨rfl,rfl,rfl⟩ rfl rfl rfl).2]at y;grind
  clear hF;have hF:=z;clear z i p m j d;simp only[vdr]at hF⊢;refine bb (bA c) ?_;walk_nrm
  repeat w_go ah.on
  u_in ah.on hF
  refine vdq rfl rfl func53 rfl ⟨CP,?_⟩;refine vag (λg d=>⟨rfl,λA j=>?_⟩);replace hF:=hF.on d;have L:gp (am (ar c)) o w2 (ca o [(r,.cells #[.I 0,.I 0,.I 0] 188)]) g:=⟨λ_ h=>.inl h,hF.rw,ah.qe hF⟩;exact hK ((T,v)::q) (ca o [(r,.cells #[.I 0,.I 0,.I 0] 188)]) g (K.trans L) (I.step S L) g A (ah.qe hF) (vac a3 (vL (c:=c) (l:=⟨.idle,false,0,f+1,.work .free ((T,v)::q)⟩) j))
 .skip
  have R:ah (am (ar c)) (ca o [(r,.cells #[.I (T:Int),.I (fr T:Int),.I (a7 T:Int)] 188)]) a [] s:=D;replace hF:=hF.on R.rw;clear D R C;simp only[dZ];refine bb (bA c) ?_;walk_nrm
  repeat w_go ah.on
  refine fZ rfl hF λg d A j a F m p hF=>?_;have i:=hF.cZ (r,.cells #[.I (T:Int),.I (fr T:Int),.I (a7 T:Int)] 188) AQ;refine C3 AJ rfl (pre:=[]) (post:=[]) hF (vda (w':=a.setRow r #[.I (t:Int),.I (fr t:Int),.I (a7 t:Int)]) rfl rfl Ag (qo i ⟨rfl,rfl,rfl⟩ rfl rfl rfl).1) rfl (λe B=>?_) (λz=>?_)
  .have y:=vbo B;rw[(qo i ⟨rfl,rfl,rfl⟩ rfl rfl rfl).2]at y;grind
  clear hF;have hF:=z;clear z i p m j d;simp only[vdr]at hF⊢;refine bb (bA c) ?_;walk_nrm
  iterate 3 w_go ah.on
  refine vag (λg d=>⟨rfl,λA j=>?_⟩);replace hF:=hF.on d;have L:gp (am (ar c)) o w2 (ca o [(r,.cells #[.I (t:Int),.I (fr t:Int),.I (a7 t:Int)] 188)]) g:=⟨λ_ h=>.inl h,hF.rw,ah.qe hF⟩;exact ih ((T,v)::q) (ca o [(r,.cells #[.I (t:Int),.I (fr t:Int),.I (a7 t:Int)] 188)]) g r t _ _ _ _ _ _ _ _ _ _ _ _ _ _ _ _ _ _ AJ Cm (.inr AQ) (hF.cZ (r,.cells #[.I (t:Int),.I (fr t:Int),.I (a7 t:Int)] 188) AQ) (K.trans L) (I.step S L) g A (ah.qe hF)
def atu{f:Nat}{M:dY}{w0 bY:aH}(Q:n5 c bY w0)(E:∀T v M w M' w',cO T v M w->(∀b,c.K b\/M b->w'.heap[b]?=w.heap[b]?)->(∀b,M b->M' b)->cO T v M' w')(N:∀q s w1,ah (am (ar c)) s w1 [] w1->iG prog Stop false 83 #[.P c.st 0] (dZ c ⟨.idle,false,0,f+15,.work .free q⟩ s w1) (λu t=>(u=.tuple #[.agg #[.I 0,.I 0,.I 0],.F]/\t=xB c ⟨.idle,false,0,f+1,.work .free q⟩ s w1)\/∃T,T<c.N/\u=.tuple #[.agg #[.I (T:Int),.I (fr T:Int),.I (a7 T:Int)],.T]/\t=dZ c ⟨.idle,false,0,f+31,.work (.has T) q⟩ s w1))(V:∀q T s w1,T<c.N->n5 c bY w1->iG prog Stop false 84 #[.P c.st 0,fj,.agg #[.I (T:Int),.I (fr T:Int),.I (a7 T:Int)]] (dZ c ⟨.idle,false,0,f+31,.work (.has T) q⟩ s w1) (λu t=>u=.tuple #[]/\∃v I w2,gp (am (ar c)) s w1 I w2/\(c.bad T=false->cO T v I w2)/\t=dZ c ⟨.idle,false,0,f+15,.work .free ((T,v)::q)⟩ I w2)):
 iG prog Stop false 53 #[.P c.st 0,fj] (dZ c ⟨.idle,false,0,f+15,.work .free []⟩ M w0) (λu t=>u=.tuple #[]/\∃q M' w1,gp (am (ar c)) M w0 M' w1/\oL c cO q M' w1/\t=xB c ⟨.idle,false,0,f+1,.work .free q⟩ M' w1):=by
 intro a2 aD aB aJ aL aG csZ J w γ hS;have hK:∀q M' w1,gp (am (ar c)) M w0 M' w1->oL c cO q M' w1->∀w γ,ah (am (ar c)) M' w1 [] w->c.N<=γ.al.taken->bf (am (ar c)) prog Stop false ⟨.idle,false,0,f+1,.work .free q⟩ γ ⟨Conc.G (a2.at (aD.put ((aB[aJ]?).bind (·.dst)) (.tuple #[])) (.inRegion aB aL::aG)) csZ,w,M'⟩:=λq M' w1 X W w γ S R=>J (.tuple #[]) (xB c ⟨.idle,false,0,f+1,.work .free q⟩ M' w1) AJ w γ ⟨S,R⟩;clear J;have hF:ah (am (ar c)) M w0 [] w:=hS;clear hS;have K:=(c_ (bA c)).nt;rw[vdc _ func53 Y];unfold dZ;rw[<-mT (M:=M)];refine bb (bA c) ?_;walk_nrmf f53
 repeat w_go ah.on
 refine fZ Y hF λg d p i a C m n hF=>?_;have A:=ah.qe hF;rw[mT]at A;rw[mT];have B:gp (am (ar c)) M w0 M a:=⟨λ_ h=>h,hF.rw,A⟩;clear hF;refine JV (σ:=dZ c ⟨.idle,false,0,f+15,.work .free []⟩ M a) AJ Y Y Ag (pi (vs:=#[.P c.st 0]) Y func83 Sf Y Ct a) (N [] M a A) A ?_;clear n m i d A;rintro u _ (⟨rfl,rfl⟩|⟨T,P,rfl,rfl⟩) o U z
 .skip
  have a3:c.N<=U.al.taken:=z.2;have hF:ah (am (ar c)) M a [] o:=z.1;clear z;generalize a=w2 at hF B;have D:oL c cO [] M w2:=λx O=>AJ;simp only[xB];rw[<-mT (M:=M)];refine bb (bA c) ?_;walk_nrm
  repeat w_go ah.on
  refine fZ Y hF λg d p i a C m n hF=>?_;replace a3:=vac a3 (vac (vL (c:=c) (l:=⟨.idle,false,0,f+1,.work .free []⟩) i) (vL (c:=c) (l:=⟨.idle,false,0,f+1,.work .free []⟩) m));refine uo AJ K Y hF (vaq (v:=.P a.heap.size 0) (w':=a.alloc (Obj.cells #[.I 0,.I 0,.I 0] 188)) Y Y Ag A0) Y BJ (λk=>?_);clear hF;have hF:=k;clear k n m i d;generalize a.heap.size=j at hF⊢;generalize a.alloc (Obj.cells #[.I 0,.I 0,.I 0] 188)=w3 at hF⊢;refine bb (bA c) ?_;walk_nrm
  repeat w_go ah.on
  refine fZ Y hF λg d p i a C m n hF=>?_;replace a3:=vac a3 (vac (vL (c:=c) (l:=⟨.idle,false,0,f+1,.work .free []⟩) i) (vL (c:=c) (l:=⟨.idle,false,0,f+1,.work .free []⟩) m));have r:=hF.cZ (j,.cells #[.I 0,.I 0,.I 0] 188) AQ;refine C3 AJ Y (pre:=[]) (post:=[]) hF (vda (w':=a.setRow j #[.I 0,.I 0,.I 0]) Y Y Ag (qo r ⟨Y,Y,Y⟩ Y Y Y).1) Y (λe F=>?_) (λk=>?_)
  .have H:=vbo F;rw[(qo r ⟨Y,Y,Y⟩ Y Y Y).2]at H;grind
  clear hF;have hF:=k;clear k r n m i d;simp only[vdr]at hF⊢;refine bb (bA c) ?_;walk_nrm
  repeat w_go ah.on
  u_in ah.on hF
  refine vdq Y Y func53 Y ⟨CP,?_⟩;refine vag (λg d=>⟨Y,λp i=>?_⟩);replace hF:=hF.on d;have y:gp (am (ar c)) M w2 (ca M [(j,.cells #[.I 0,.I 0,.I 0] 188)]) g:=⟨λ_ h=>.inl h,hF.rw,ah.qe hF⟩;exact hK [] (ca M [(j,.cells #[.I 0,.I 0,.I 0] 188)]) g (B.trans y) (D.step E y) g p (ah.qe hF) (vac a3 (vL (c:=c) (l:=⟨.idle,false,0,f+1,.work .free []⟩) i))
 .skip
  have hF:ah (am (ar c)) M a [] o:=z;clear z;generalize a=w2 at hF B;have D:oL c cO [] M w2:=λx O=>AJ;simp only[dZ];rw[<-mT (M:=M)];refine bb (bA c) ?_;walk_nrm
  repeat w_go ah.on
  refine fZ Y hF λg d p i a C m n hF=>?_;refine uo AJ K Y hF (vaq (v:=.P a.heap.size 0) (w':=a.alloc (Obj.cells #[.I 0,.I 0,.I 0] 188)) Y Y Ag A0) Y BJ (λk=>?_);clear hF;have hF:=k;clear k n m i d;generalize a.heap.size=j at hF⊢;generalize a.alloc (Obj.cells #[.I 0,.I 0,.I 0] 188)=w3 at hF⊢;refine bb (bA c) ?_;walk_nrm
  repeat w_go ah.on
  refine fZ Y hF λg d p i a C m n hF=>?_;have r:=hF.cZ (j,.cells #[.I 0,.I 0,.I 0] 188) AQ;refine C3 AJ Y (pre:=[]) (post:=[]) hF (vda (w':=a.setRow j #[.I (T:Int),.I (fr T:Int),.I (a7 T:Int)]) Y Y Ag (qo r ⟨Y,Y,Y⟩ Y Y Y).1) Y (λe F=>?_) (λk=>?_)
  .have H:=vbo F;rw[(qo r ⟨Y,Y,Y⟩ Y Y Y).2]at H;grind
  clear hF;have hF:=k;clear k r n m i d;simp only[vdr]at hF⊢;refine bb (bA c) ?_;walk_nrm
  iterate 4 w_go ah.on
  refine vag (λg d=>⟨Y,λp i=>?_⟩);replace hF:=hF.on d;have y:gp (am (ar c)) M w2 (ca M [(j,.cells #[.I (T:Int),.I (fr T:Int),.I (a7 T:Int)] 188)]) g:=⟨λ_ h=>.inl h,hF.rw,ah.qe hF⟩;have L:=att Q E N V hK c.N;simp only[f53,vae,bz.dC]at L;exact L [] (ca M [(j,.cells #[.I (T:Int),.I (fr T:Int),.I (a7 T:Int)] 188)]) g j T _ _ _ _ _ _ _ _ _ _ _ _ _ _ _ _ _ _ AQ P (.inr AQ) (hF.cZ (j,.cells #[.I (T:Int),.I (fr T:Int),.I (a7 T:Int)] 188) AQ) (B.trans y) (D.step E y) g p (ah.qe hF)
