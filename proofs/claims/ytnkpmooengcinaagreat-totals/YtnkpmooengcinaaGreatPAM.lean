import Derived.Test.YtnkpmooengcinaaGreatPAH
import Derived.Test.YtnkpmooengcinaaGreatPAJ
set_option linter.all false
set_option maxRecDepth 100000
set_option maxHeartbeats 16000000
namespace Go.Proofs.YtnkpmooengcinaaGreat
open Go.Proofs.Tryz
namespace eW
open Conc ConcM av bn ae ej fY
structure hh where
 T:Nat
 M:Nat
 D:List Value
 L:Option Nat
def hh.of(b:cj):hh:=⟨b.taken,b.came,b.done,b.least⟩
variable{d:hh}{Z:eV}{v:Value}
section
variable{c:db}{Q:ck}{Stop:Bool->ae.Lo At->aV->Prop}{m:Bool}{mine:c5}{w0:aH}
def Held(c:db)(mine:c5)(w0:aH)(d:hh)(bs:uat)(w:aH)(γ:ae.aM cj):Prop:=af (ak (ar c)) mine w0 bs w/\hh.of γ.aj=d
def mj(c:db)(mine:c5)(w0:aH)(d:hh)(l:ae.Lo At)(bs:uat):cz (ak (ar c)):=⟨l,b8 mine bs,Held c mine w0 d bs⟩
def BO(c:db)(mine:c5)(w0:aH)(d:hh)(l:ae.Lo At)(σ:cz (ak (ar c))):Prop:=∃bs,σ=mj c mine w0 d l bs
def tk{l:ae.Lo At}(d:l.mx=.own){γ a:ae.aM cj}(b:(ak (ar c)).dH l γ a):hh.of a.aj=hh.of γ.aj:=by
 rcases b with rfl|⟨_,⟨h,_⟩,_⟩
 .rfl
 .rw[d]at h;obtain⟨i,g,f,e⟩:=h U;grind[hh.of]
theorem Held.on{l:ae.Lo At}(e:l.mx=.own){bs:uat}{w w':aH}{γ a:ae.aM cj}(h:Held c mine w0 d bs w γ)(b:(ak (ar c)).dH l γ a)(r:ai (ak (ar c)) (b8 mine bs) w w'):Held c mine w0 d bs w' a:=
 ⟨h.1.on r,(tk e b).trans h.2⟩
def lQ{l:ae.Lo At}(e:l.mx=.own):∀σ,BO c mine w0 d l σ->r6 σ:=by rintro _ ⟨bs,rfl⟩ w γ w' f g h b a;exact Held.on e h b (dI.rw a)
def H6{l:ae.Lo At}:∀σ,BO c mine w0 d l σ->∀w γ,σ.S w γ->σ.S {w with drawn:=w.drawn+1} γ:=by rintro _ ⟨bs,rfl⟩ w γ ⟨h,hd⟩;exact⟨⟨h.rw.trans ⟨λ_ _=>U,vad _,.refl _,U,U⟩,h.bI,h.lt,h.eK,h.r7,h.gF,h.r8⟩,hd⟩
variable{b:Frame}{ops:eQ}
def z0{C:cz Z->Prop}{o:Oper}{a:Act}(c:Region.wanted o (yielded ops a.tmps)=true)(h:∀w,(execOp a.eval o).run Q w=.ok (.value v) w)(d:∀w,listed Q b.fn a o w=#[]):nk Q b ops C o v a:=
 .inl ⟨c,λσ _ w γ w' e g _ _ _=>⟨h w',by rw[d];exact trivial,AN⟩⟩
def eN{k:uab}{cs:fA}{C:cz Z->Prop}{ib:cz Z->Act->Prop}{Stop:Bool->Z.Lo->aV->Prop}{md:Region.Mode}{dt:Oper}{n:Nat}{am:uaw}{σ:cz Z}{a:Act}(i:Nat)(v:Value)(h:q7 Q Stop m b k cs ops md C ib n (am.setIfInBounds i true) σ (a.put dt.dst v))(l:∀σ,C σ->r6 σ:=by exact lQ U)(j:C σ:=by exact⟨_,U⟩)(hi:ops[i]?=some dt:=by rfl)(hs:Region.noSelect ops=true:=by decide+kernel)(f:Region.free md ops am i=true:=by decide+kernel)(e:(Region.ready md ops am).contains i=true:=by decide+kernel)(d:Region.wanted dt (yielded ops a.tmps)=true:=by rfl)(c:∀w,(execOp a.eval dt).run Q w=.ok (.value v) w:=by intro _;go_simp)(g:∀w,listed Q b.fn a dt w=#[]:=by intro _;simp[listed,go_sem];rfl):q7 Q Stop m b k cs ops md C ib (n+1) am σ a:=
 iK l hi hs f e (z0 d c g) j h
def H7{C:cz Z->Prop}{o:Oper}{a:Act}(c:Region.wanted o (yielded ops a.tmps)=false):nk Q b ops C o undef a:=.inr ⟨c,U⟩
def z1{mu:bh}{x:cj}{w:aH}(h:w.heap[c.st]?=some (gE (ar c) mu x))(k:Nat):w.cell? (.a c.st (k+2))=((ar c).cells x)[k]?:=by simp_all[World.cell?,gE]
def uB{l:ae.Lo At}(r:l.mx=.own)(ht:l.tok=true)(p:i7 l.aj=false){o:Oper}{a:Act}(k:Nat)(f:Region.wanted o (yielded ops a.tmps)=true)(hv:∀x,hh.of x=d->((ar c).cells x)[k]?=some v)(h:∀w,w.cell? (.a c.st (k+2))=some v->(execOp a.eval o).run Q w=.ok (.value v) w/\listed Q b.fn a o w=#[⟨.cell ⟨c.st,k+2,none⟩,false,false⟩]):nk Q b ops (BO c mine w0 d l) o v a:=by
 refine .inl ⟨f,?_⟩;rintro _ ⟨bs,rfl⟩ w γ w' y g t q i;have n:=Held.on r t q (dI.rw i);have s:w'.cell? (.a c.st (k+2))=some v:=by rw[z1 i.mt.1,hv _ n.2]
 obtain⟨u,m⟩:=h w' s;refine⟨u,?_,?_⟩
 .rw[m];exact⟨.inl ⟨U,.inr (.inr ⟨AN,ht⟩),p⟩,PA⟩
 .rw[m];rintro⟨e,j,f⟩;simp at j;subst j;rcases f with h|h|⟨_,h⟩|⟨_,h⟩|⟨h,_⟩<;>cases h
end
def bd.seen{Q:ck}{Stop:Bool->Z.Lo->aV->Prop}{m:Bool}{l:Z.Lo}{γ:Z.aM}{X:aV}(G:Z.Good)(hs:X.g.status=.running)(h:∀a,Z.dH l γ a->g8 Z l a->bd Z Q Stop m l a X):bd Z Q Stop m l γ X:=by
 by_cases hst:Stop m l X
 .exact .stop hst
 .refine bd.mk hs λw' a d b=>?_;rcases(h a d b.sees).next with c|⟨_,c⟩
  .grind
  .exact c w' a (G.refl _ _) b
section
variable{P:ck}{main:Bool}{b:Frame}{a:Act}{cs:fA}{w:aH}
def Xf{fn:Func}{todo:uab}{c:Frame}{es:uav}(hn:b.kind=.normal)(hd:a.defers=[])(e:P.funcs[b.fn]?=some fn)(d:(results fn a.tmps).run P w=.ok v w)(f:(results fn a.tmps).events P w #[]=es):
 stepG P main (G {b.at a todo with mode:=.returning} (c::cs)) w=.go (G (c.finish v) cs) w (seen P b.fn es):=by
 simp[G,stepG,unwind,doReturn,Frame.at,hn,hd,e,d,f,GStep.after]
end
variable{u:Value}{g1:uai}
section
variable{c:db}{Q:ck}{Stop:Bool->ae.Lo At->aV->Prop}{m:Bool}{mine:c5}{w0:aH}{l:ae.Lo At}{γ:ae.aM cj}{X:aV}{w':aH}
def akj{loc:Loc}{d:Bool}(h:∀mk,loc≠ .mark mk):¬ ∃e∈(#[⟨loc,false,d⟩]:uav),uo (ak (ar c)) e:=by
 rintro⟨e,b,f⟩;simp at b;subst b;rcases f with a|a|⟨_,a⟩|⟨_,a⟩|⟨a,_⟩
 .grind
 .grind
 .grind
 .grind
 grind
def H8(a:i7 l.aj=false)(ht:l.tok=true){k:Nat}(hs:stepG Q m X.g w'=.go g1 w' #[⟨.cell ⟨c.st,k+2,none⟩,false,false⟩])(hrun:g1.status=.running)(h:bd (ak (ar c)) Q Stop m l γ ⟨g1,w',X.mine⟩):Then (Z:=ak (ar c)) Q Stop m l γ X w':=by refine .quiet hs ⟨hrun,po _ _ _,λ_ _ _=>U,⟨.inl AN,PA⟩,λe=>e.elim (akj Ab) I3⟩ ?_;grind[j9]
def Qa{mu:bh}{x a:cj}{w:aH}(h:w.heap[c.st]?=some (gE (ar c) mu x)){k:Nat}(b:((ar c).cells x).setIfInBounds k v=(ar c).cells a):(w.setCell ⟨c.st,k+2,none⟩ v).heap[c.st]?=some (gE (ar c) mu a):=by unfold World.setCell;simp_all[vay,gE]
def Qb{x a:cj}{w:aH}(h:(ar c).nS x w)(g:a.aX=x.aX)(f:a.ea=x.ea)(d:a.gz=x.gz)(b:a.done=x.done)(off:Nat)(sp)(v:Value):(ar c).nS a (w.setCell ⟨c.st,off,sp⟩ v):=by
 refine⟨?_,λe=>?_⟩
 .rw[k5 w _ v (Ne.symm c.eK.1),h.1];grind[se]
 .rw[k5 w _ v (Ne.symm c.eK.2.1),h.2 e];grind[E3]
def akk(d:dI (ak (ar c)) l γ X w'){p:uac}{f1:Nat}(hs:stepG Q m X.g w'=.go g1 (w'.setCell ⟨c.st,4,none⟩ v) #[⟨.cell ⟨c.st,4,none⟩,true,false⟩])(hrun:g1.status=.running)(hv:v=.I ((γ.aj.taken+1:Nat):Int))(j:l.aj=.work .free p)(b:l.mx=.own)(g:l.tok=true)(a5:γ.aj.taken<c.N)(n:f1+1<=l.fuel+c.C)(h:bd (ak (ar c)) Q Stop m ({l with aj:=.work (.has γ.aj.taken) p,fuel:=f1}:ae.Lo At) ({γ with aj:={γ.aj with taken:=γ.aj.taken+1},a4:=γ.a4-1}:ae.aM cj) ⟨g1,w'.setCell ⟨c.st,4,none⟩ v,X.mine⟩):Then (Z:=ak (ar c)) Q Stop m l γ X w':=by
 have o:c.C*(c.N-(γ.aj.taken+1))+c.C=c.C*(c.N-γ.aj.taken):=by have:c.N-γ.aj.taken=(c.N-(γ.aj.taken+1))+1:=AY;grind
 refine xO (a1:=.work (.has γ.aj.taken) p) (b1:={γ.aj with taken:=γ.aj.taken+1}) (d1:=l.deaf) d hs hrun ⟨⟨.cell ⟨c.st,4,none⟩,true,false⟩,Ab,.inr (.inr (.inr (.inr ⟨U,c.st,U,.inl U⟩)))⟩ (P_ w' 4 none _) (k6 _ _ _) ⟨Qa (k:=2) d.mt.1 AN,Qb d.mt.2 U U U U _ _ _⟩
  (λay i hi hg=>hg.take a5 AN) AN (.inl b) (vcl _) AN (λe=>e.elim) (λ_=>b)
  (.inl ⟨U,?_,U,.inl ⟨U,AN,?_⟩,PA⟩) (.inr λa f=>f) (λe=>e.elim) h
 .grind[i7]
 grind[i7]
def Xg{mu:bh}{x:cj}{w:aH}(b:w.heap[c.st]?=some (gE (ar c) mu x))(a:(ar c).nS x w)(p:Nat)(v:Value):
 (w.setCell ⟨c.cx,p,none⟩ v).heap[c.st]?=some (gE (ar c) mu {x with done:=x.done.set p v})/\(ar c).nS {x with done:=x.done.set p v} (w.setCell ⟨c.cx,p,none⟩ v):=by
 refine⟨?_,?_,λe=>?_⟩
 .rw[k5 w _ _ c.eK.2.1,b];rfl
 .rw[k5 w _ _ c.eK.2.2,a.1];rfl
 simp_all[World.setCell,vay,E3]
def aAg(d:dI (ak (ar c)) l γ X w'){q:uac}{p f1:Nat}(hs:stepG Q m X.g w'=.go g1 (w'.setCell ⟨c.cx,p,none⟩ v) #[⟨.cell ⟨c.cx,p,none⟩,true,false⟩])(hrun:g1.status=.running)(j:l.aj=.work (.has p) q)(b:l.mx=.own)(f:l.tok=true)(k:f1<l.fuel)(h:bd (ak (ar c)) Q Stop m ({l with aj:=.work (.half p v) q,fuel:=f1}:ae.Lo At) ({γ with aj:={γ.aj with done:=γ.aj.done.set p v},a4:=γ.a4-1}:ae.aM cj) ⟨g1,w'.setCell ⟨c.cx,p,none⟩ v,X.mine⟩):Then (Z:=ak (ar c)) Q Stop m l γ X w':=by
 refine xO (a1:=.work (.half p v) q) (b1:={γ.aj with done:=γ.aj.done.set p v}) (d1:=l.deaf) d hs hrun ⟨⟨.cell ⟨c.cx,p,none⟩,true,false⟩,Ab,.inr (.inr (.inr (.inr ⟨U,c.cx,U,.inr Io⟩)))⟩ (Xb w' p none _) (k6 _ _ _) (Xg d.mt.1 d.mt.2 p v)
  (λay i hi hg=>hg.lay AN) AN (.inl b) (vad _) AN (λe=>e.elim) (λ_=>b)
  (.inl ⟨U,?_,U,.inl ⟨U,.inr (.inr ⟨.inr U,f⟩),?_⟩,PA⟩) (.inr λa g=>g) (λe=>e.elim) h
 .grind[i7]
 grind[i7]
def akl(d:dI (ak (ar c)) l γ X w'){q:uac}{p f1:Nat}(hs:stepG Q m X.g w'=.go g1 (w'.setCell ⟨c.st,5,none⟩ u) #[⟨.cell ⟨c.st,5,none⟩,true,false⟩])(hrun:g1.status=.running)(f:c.bad p=false)(o:u=.I ((γ.aj.came+c.rows p:Nat):Int))(n:l.aj=.work (.half p v) q)(b:l.mx=.own)(j:l.tok=true)(r:f1<l.fuel)(h:bd (ak (ar c)) Q Stop m ({l with aj:=.work .free ((p,v)::q),fuel:=f1}:ae.Lo At) ({γ with aj:={γ.aj with came:=γ.aj.came+c.rows p},a4:=γ.a4-1}:ae.aM cj) ⟨g1,w'.setCell ⟨c.st,5,none⟩ u,X.mine⟩):Then (Z:=ak (ar c)) Q Stop m l γ X w':=by
 refine xO (a1:=.work .free ((p,v)::q)) (b1:={γ.aj with came:=γ.aj.came+c.rows p}) (d1:=l.deaf) d hs hrun ⟨⟨.cell ⟨c.st,5,none⟩,true,false⟩,Ab,.inr (.inr (.inr (.inr ⟨U,c.st,U,.inl U⟩)))⟩ (P_ w' 5 none _) (k6 _ _ _) ⟨Qa (k:=3) d.mt.1 AN,Qb d.mt.2 U U U U _ _ _⟩
  (λay i hi hg=>hg.count f AN) AN (.inl b) (vad _) AN (λe=>e.elim) (λ_=>b)
  (.inl ⟨U,?_,U,.inl ⟨U,AN,?_⟩,PA⟩) (.inr λa g=>g) (λe=>e.elim) h
 .grind[i7]
 grind[i7]
def Xh(d:dI (ak (ar c)) l γ X w'){q:uac}{p f1:Nat}(hs:stepG Q m X.g w'=.go g1 (w'.setCell ⟨c.st,7,none⟩ u) #[⟨.cell ⟨c.st,7,none⟩,true,false⟩])(hrun:g1.status=.running)(o:u=c.place p)(f:c.bad p=true)(hq:∀q,γ.aj.least=some q->p<=q)(n:l.aj=.work (.has p) q)(b:l.mx=.own)(j:l.tok=true)(r:f1<l.fuel)(h:bd (ak (ar c)) Q Stop m ({l with aj:=.work (.has p) q,fuel:=f1}:ae.Lo At) ({γ with aj:={γ.aj with least:=some p},a4:=γ.a4-1}:ae.aM cj) ⟨g1,w'.setCell ⟨c.st,7,none⟩ u,X.mine⟩):Then (Z:=ak (ar c)) Q Stop m l γ X w':=by
 refine xO (a1:=.work (.has p) q) (b1:={γ.aj with least:=some p}) (d1:=l.deaf) d hs hrun ⟨⟨.cell ⟨c.st,7,none⟩,true,false⟩,Ab,.inr (.inr (.inr (.inr ⟨U,c.st,U,.inl U⟩)))⟩ (P_ w' 7 none _) (k6 _ _ _) ⟨Qa (k:=5) d.mt.1 AN,Qb d.mt.2 U U U U _ _ _⟩
  (λay i hi hg=>hg.low f hq AN) AN (.inl b) (vad _) AN (λe=>e.elim) (λ_=>b)
  (.inl ⟨U,?_,U,.inl ⟨U,AN,?_⟩,PA⟩) (.inr λa g=>g) (λe=>e.elim) h
 .grind[i7]
 grind[i7]
end
end eW
namespace dv
open Conc av
def uC(fn:Func):Bool:=fn.results.all λ| .tmp _=>true| _=>false
def tp(fn:Func)(t:dC):List Value:=fn.results.toList.map λ| .tmp x=>t.getD x undef| .cell _ _=>undef
def sf(fn:Func)(t:dC):Value:=if h:(tp fn t).toArray.size=1 then(tp fn t).toArray[0]else .tuple (tp fn t).toArray
theorem Xi{t:dC}:∀(l:List ResultVar),(∀r∈l,∃x,r=.tmp x)->(l.mapM λ| .tmp x=>(pure (t.getD x undef):Sem Value)| .cell a ty=>do Go.loadVar ty (<-Go.asAddr (t.getD a undef)))=pure (l.map λ| .tmp x=>t.getD x undef| .cell _ _=>undef)
 | [],_=>rfl
 |r::l,h=>by obtain⟨x,rfl⟩:=h r Ab;rw[List.mapM_cons,Xi l AN];simp
variable{P:ck}
theorem xP{fn:Func}(h:uC fn=true)(t:dC)(w:aH):(results fn t).run P w=.ok (sf fn t) w/\(results fn t).events P w #[]=#[]:=by
 have a:∀r∈fn.results.toList,∃x,r=.tmp x:=by intro r b;unfold uC at h;grind[Array.all_eq_true_iff_forall_mem]
 have e:results fn t=pure (sf fn t):=by
  unfold results;rw[vci];erw[Xi (t:=t) _ a]
  rfl
 simp_all
def Xj{ρ:Ren}(fn:Func){t b:dC}(h:aL ρ t b):ap ρ (sf fn t) (sf fn b):=by
 have g:de (ap ρ) (tp fn t) (tp fn b):=by unfold tp;induction fn.results.toList with|nil=>exact .nil|cons r l f=>refine .cons ?_ f;cases r with|tmp x=>exact h.getD (.undef ρ) x|cell a ty=>exact .undef ρ
 have d:=aL.OO g;unfold sf;by_cases c:(tp fn t).toArray.size=1
 .have e:(tp fn b).toArray.size=1:=d.size▸c;rw[dif_pos c,dif_pos e];exact d.get 0 _ _ AN AN
 .have e:¬(tp fn b).toArray.size=1:=d.size▸c;rw[dif_neg c,dif_neg e];exact .A2 d
variable{Q:ck}
theorem iH.bind{main:Bool}{K:c5}{post a:aV->Prop}{X:aV}(h:iH Q main K post X)(c:∀Y,post Y->iH Q main K a Y):iH Q main K a X:=by induction h with|done h=>grind|step ok _ b=>exact .step ok AN
def iH.more{main:Bool}{K K':c5}(hK:∀b,K b->K' b){post:aV->Prop}{X:aV}(h:iH Q main K post X):iH Q main K' post X:=by have hrel:∀{X:aV}{w':aH},j4 K' X w'->j4 K X w':=λa=>⟨λb f=>a.heap b AN,a.size,a.env⟩;induction h with|done h=>exact .done h|step ok _ d=>refine .step (λw' a=>?_) AN;obtain⟨g1,w1,es,e,hg⟩:=ok w' (hrel a);refine⟨g1,w1,es,e,hg.run,hg.nM,hg.kept,hg.size,hg.os,hg.output,hg.tape,hg.drawn,λev c=>?_⟩;have:=hg.evs ev c;grind[xv]
structure akn(C:cy)(D M:c5)(n0:Nat)(R:fE)(c:Frame)(cs:fA)(Y:aV)(ρ:Ren)(w1:aH)(v v':Value):Prop where
 post:R v w1
 val:ap ρ v v'
 g:Y.g=bf (c.finish v') cs
 world:∃S,eo C S ρ w1 Y.w
 le:Ren.le (c8 D M) ρ
 mine:∀b,ρ.mine b->Y.mine b
 dom:∀a b,ρ.rel a b->(D b/\¬M b)\/Y.mine b
 old:∀a b,ρ.rel a b->(c8 D M).rel a b\/n0<=b
def Qd{upd:Bool}(B:(cm P upd).Good){f:ual}{fn:Func}{E:Code}(j:P.funcs[f]?=some fn)(hk:fG P upd fn=true)(z:fn.body=some E)(n:uC fn=true){D M:c5}{w:aH}(I:eA (cm P upd) D M w)(hg:∀g,g<=P.globals.size->D g)(x:upd=true->∀b,D b->M b){args:dC}(A:aL (c8 D M) args args){R:fE}{w0:aH}(r:fX (cm P upd) D M w w0)(u:∀T,Calls (aa P upd) f args {w0 with tape:=T} (λe w=>∃v,e=.returned v/\R v w))(main:Bool)(c:Frame)(cs:fA):
 iH P main (λb=>D b/\¬M b) (λY=>∃ρ w1 v v',akn (cm P upd) D M w.heap.size R c cs Y ρ w1 v v') ⟨bf (Frame.enter P f args .normal) (c::cs),w,M⟩:=by
 refine iH.bind (Wt B j hk z I hg x A (R:=λe w=>∃v,e=.returned v/\R v w) AN r u main (c::cs)) ?_;rintro Y ⟨ρ,fr,w1,T,e,⟨v,rfl,H⟩,o,K,ht⟩;obtain⟨d,O,J,i,k⟩:=ht.frames;cases k;obtain⟨y,hd,s,Q,l,N⟩:=K;have q:(aa P upd).funcs[f]?=some fn:=bo j hk;rw[o,q]at l;cases l;have hv:v=sf fn fr.tmps:=by grind[xP]
 have t:d.mode=.returning:=by have:=i.mode;rw[y]at this;generalize d.mode=md at this⊢;cases this;rfl
 have C:d.defers=[]:=by have:=i.defers;rw[hd]at this;generalize d.defers=ds at this⊢;cases this;rfl
 have F:d.kind=.normal:=i.kind.symm.trans s;have L:d.fn=f:=i.fn.symm.trans o;have hstep:∀w',stepG P main Y.g w'=.go (bf (c.finish (sf fn d.tmps)) cs) w' #[]:=by intro w';rw[J];simp[bf,stepG,unwind,doReturn,t,C,F,L,j,(xP n d.tmps w').1,(xP n d.tmps w').2,GStep.after,vcn]
 refine .step (λw' m=>⟨_,_,_,hstep w',U,U,λ_ _ _=>U,vad _,U,U,U,vad _,Ab⟩) λw' g1 w2 es m e=>?_;rw[hstep w']at e;cases e;have p:∀b,grown Y.mine w' w' b↔Y.mine b:=λb=>⟨λh=>h.elim id AN,.inl⟩;exact .done ⟨ρ,w1,v,sf fn d.tmps,H,by rw[hv];exact Xj fn i.tmps,U,⟨_,ht.world.rely (bound:=0) m ht.dom AN⟩,ht.le,λb h=>(p b).2 (ht.mine b h),λa b h=>(ht.dom a b h).imp id (p b).2,ht.old⟩
open ConcM bn fY
inductive H9(ρ:Ren):Ending->Ending->Prop
 |ret {v v':Value} (h:ap ρ v v'):H9 ρ (.returned v) (.returned v')
 |Xl {l l':List PanicEntry} (h:de (xp ρ) l l'):H9 ρ (.panicked l) (.panicked l')
structure xg(C:cy)(D M:c5)(n0:Nat)(R:Ending->aH->Prop)(c:Frame)(cs:fA)(Y:aV)(ρ:Ren)(w1:aH)(e e':Ending):Prop where
 post:R e w1
 val:H9 ρ e e'
 g:Y.g=bf (EZ c e') cs
 world:∃S,eo C S ρ w1 Y.w
 le:Ren.le (c8 D M) ρ
 mine:∀b,ρ.mine b->Y.mine b
 dom:∀a b,ρ.rel a b->(D b/\¬M b)\/Y.mine b
 old:∀a b,ρ.rel a b->(c8 D M).rel a b\/n0<=b
def ako{upd:Bool}(Q:(cm P upd).Good){f:ual}{fn:Func}{S:Code}(m:P.funcs[f]?=some fn)(hk:fG P upd fn=true)(N:fn.body=some S)(t:uC fn=true){D M:c5}{w:aH}(V:eA (cm P upd) D M w)(hg:∀g,g<=P.globals.size->D g)(J:upd=true->∀b,D b->M b){args:dC}(O:aL (c8 D M) args args){R:Ending->aH->Prop}(y:∀e w,R e w->e≠ .outgrown){w0:aH}(F:fX (cm P upd) D M w w0)(I:∀T,Calls (aa P upd) f args {w0 with tape:=T} R)(main:Bool)(c:Frame)(cs:fA):
 iH P main (λb=>D b/\¬M b) (λY=>∃ρ w1 e i,xg (cm P upd) D M w.heap.size R c cs Y ρ w1 e i) ⟨bf (Frame.enter P f args .normal) (c::cs),w,M⟩:=by
 refine iH.bind (Wt Q m hk N V hg J O y F I main (c::cs)) ?_;rintro Y ⟨ρ,fr,w1,T,e,B,u,A,ht⟩;obtain⟨d,Z,z,j,q⟩:=ht.frames;cases q;have E:(aa P upd).funcs[f]?=some fn:=bo m hk;have C:d.fn=f:=j.fn.symm.trans u;have x:∀w' b,grown Y.mine w' w' b↔Y.mine b:=λw' b=>⟨λh=>h.elim id AN,.inl⟩;have dU:∀i,H9 ρ e i->(∀w',stepG P main Y.g w'=.go (bf (EZ c i) cs) w' #[])->iH P main (λb=>D b/\¬M b) (λY=>∃ρ w1 e i,xg (cm P upd) D M w.heap.size R c cs Y ρ w1 e i) Y:=by intro i L hstep;refine .step (λw' s=>⟨_,_,_,hstep w',rfl,rfl,λ_ _ _=>rfl,vad _,rfl,rfl,rfl,vad _,Ab⟩) λw' g1 w2 es s e=>?_;rw[hstep w']at e;cases e;exact .done ⟨ρ,w1,_,i,B,L,rfl,⟨_,ht.world.rely (bound:=0) s ht.dom AN⟩,ht.le,λb h=>(x w' b).2 (ht.mine b h),λa b h=>(ht.dom a b h).imp id (x w' b).2,ht.old⟩
 cases e with
 |outgrown=>exact absurd rfl (y _ _ B)
 |returned v=>
  obtain⟨p,hd,H,W,n,X⟩:=A;rw[u,E]at n;cases n;have hv:v=sf fn fr.tmps:=by grind[xP]
  have o:d.mode=.returning:=by have:=j.mode;rw[p]at this;generalize d.mode=md at this⊢;cases this;rfl
  have r:d.defers=[]:=by have:=j.defers;rw[hd]at this;generalize d.defers=ds at this⊢;cases this;rfl
  have U:d.kind=.normal:=j.kind.symm.trans H;refine dU (.returned (sf fn d.tmps)) (by rw[hv];exact .ret (Xj fn j.tmps)) λw'=>?_;rw[z];simp[bf,stepG,unwind,doReturn,o,r,U,C,m,(xP t d.tmps w').1,(xP t d.tmps w').2,GStep.after,vcn,EZ]
 |panicked l=>
  obtain⟨p,hd,W,n⟩:=A;obtain⟨k,o,K⟩:∃k,d.mode=.panicking k/\de (xp ρ) l k:=by have:=j.mode;rw[p]at this;generalize d.mode=md at this⊢;cases this with|panicking h=>exact⟨_,rfl,h⟩
  have r:d.defers=[]:=by have:=j.defers;rw[hd]at this;generalize d.defers=ds at this⊢;cases this;rfl
  refine dU (.panicked k) (.Xl K) λw'=>?_;rw[z];simp[bf,stepG,unwind,Frame.catches,o,r,C,m,GStep.after,vcn,EZ]
end dv
namespace eW
open Conc ConcM av bn ae ej fY
variable{t:uaa}
section
section
variable{Z:eV}{Q:ck}{Stop Stop':Bool->Z.Lo->aV->Prop}
def bd.seq{I:Z.Lo->Z.aM->Prop}(f:∀l γ a,I l γ->Z.dH l γ a->I l a)(i:∀l γ l1 bz,I l γ->g8 Z l γ->Bs Z l γ l1 bz->I l1 bz)(u:∀m l X,Stop' m l X->¬Z.Left l)(k:∀l γ X,Stop' false l X->I l γ->bd Z Q Stop false l γ X){m:Bool}{l:Z.Lo}{γ:Z.aM}{X:aV}(h:bd Z Q Stop' m l γ X):m=false->I l γ->bd Z Q Stop false l γ X:=by
 induction h with
 |stop h=>grind
 |@step m l γ X hs ch ok hq r p s o n w v=>
  rintro rfl hi;refine bd.mk hs λw' a c b=>?_;have d:=f _ _ _ hi c;rcases ok w' a c b with⟨g1,w1,es,e,q⟩|⟨g1,w1,es,e,q,t⟩|⟨e,g,q,j⟩|⟨em,_⟩
  .exact .quiet e q (o w' a g1 w1 es c b e q.run q.low U d)
  .exact .turn e q AN (n w' a g1 w1 es c b e q.Ld U (i _ _ _ _ d b.sees q.zP))
  .exact .wait e g q j
  grind
end
def z3(w:aH){b k:Nat}(v:dC)(h:k≠b):(w.setRow b v).heap[k]?=w.heap[k]?:=by simp[World.setRow,vay,Ne.symm h]
def setRow_size(w:aH)(b:Nat)(v:dC):(w.setRow b v).heap.size=w.heap.size:=by simp_all
section
variable{Z:eV}{Q:ck}{Stop:Bool->Z.Lo->aV->Prop}{m:Bool}{l:Z.Lo}{γ:Z.aM}{mine:c5}{w0 w:aH}
def af.row{pre post:uat}{b:Nat}{bc new:dC}(hk:af Z mine w0 (pre++(b,.cells bc t)::post) w):af Z mine w0 (pre++(b,.cells new t)::post) (w.setRow b new):=by
 have f:b∈(pre++(b,Obj.cells bc t)::post).map (·.1):=Ab;have g:w.heap[b]?=some (.cells bc t):=hk.bI (b,.cells bc t) Ab;refine hk.write f (bs':=pre++(b,.cells new t)::post) Ab (λx e=>?_) (λk a=>z3 w new a) (setRow_size _ _ _) U U U;have d:=hk.gF;simp only[List.map_append,vdc,List.nodup_append,List.nodup_cons]at d;rcases List.mem_append.1 e with c|c
 .have a:x.1≠b:=AN;rw[z3 w new a];exact hk.bI x AN
 .rcases vbc.1 c with rfl|c
  .grind[setRow_heap]
  .have a:x.1≠b:=AN;rw[z3 w new a];exact hk.bI x AN
def BP(i:∀l g g1,¬Z.ox l g g1)(j:Z.past l=false){pre post:uat}{b:Nat}{bc new:dC}{g g1:uai}{es:uav}(hk:af Z mine w0 (pre++(b,.cells bc t)::post) w)(hs:stepG Q m g w=.go g1 (w.setRow b new) es)(hrun:g1.status=.running)(c:∀e∈es,∃off,e.loc=.cell ⟨b,off,none⟩/\e.sync=false){f:aH}(h:af Z mine w0 (pre++(b,.cells new t)::post) (w.setRow b new)->bd Z Q Stop m l γ ⟨g1,w.setRow b new,b8 mine (pre++(b,.cells new t)::post)⟩):Then (Z:=Z) Q Stop m l γ ⟨g,f,b8 mine (pre++(b,.cells bc t)::post)⟩ w:=by
 have d:b∈(pre++(b,Obj.cells bc t)::post).map (·.1):=Ab;refine ajY i j hk hs hrun d (bs':=pre++(b,.cells new t)::post) Ab (hk.row (new:=new)).bI (λk a=>z3 w new a) (setRow_size _ _ _) U U U (λe n=>?_) h;obtain⟨off,p,o⟩:=c e n;unfold E2;rw[p];exact⟨o,.inr (.inr d)⟩
def E5(c:∀l g g1,¬Z.ox l g g1){M:c5}{g g1:uai}{es:uav}(hs:stepG Q m g w=.go g1 w es)(hrun:g1.status=.running)(a:es=#[]){b:aH}(h:bd Z Q Stop m l γ ⟨g1,w,M⟩):Then (Z:=Z) Q Stop m l γ ⟨g,b,M⟩ w:=by subst a;have hg:grown M w w=M:=j9 U;refine .quiet hs ⟨hrun,po _ _ _,λ_ _ _=>U,PA,λe=>e.elim AN (c _ _ _)⟩ ?_;grind
end
section
variable{c:db}
def E6(c:db)(l:ae.Lo At)(γ:ae.aM cj):Prop:=¬zY l.aj/\c.N<=γ.aj.taken
def uD{l:ae.Lo At}{γ a:ae.aM cj}(b:(ak (ar c)).dH l γ a):γ.aj.taken<=a.aj.taken:=by grind
def LK(l:ae.Lo At)(γ a:ae.aM cj)(h:E6 c l γ)(b:(ak (ar c)).dH l γ a):E6 c l a:=⟨h.1,vac h.2 (uD b)⟩
def akp(l:ae.Lo At)(γ:ae.aM cj)(l1:ae.Lo At)(bz:ae.aM cj)(h:E6 c l γ)(hs:g8 (ak (ar c)) l γ)(ht:Bs (ak (ar c)) l γ l1 bz):E6 c l1 bz:=by
 obtain⟨ls,i,hi,hg⟩:∃(ls:List (ae.Lo At))(i:Nat),ls[i]?=some l/\r4 (ar c) γ ls:=hs;obtain⟨s,h0,_⟩:=hg.oB.main;rw[vbg]at h0;obtain⟨l0,g,k⟩:=vaj.1 h0;have a:0≠i:=by rintro rfl;rw[hi]at g;cases g;exact h.1 (by rw[k];trivial)
 obtain⟨_,m⟩:=ht;obtain⟨n,o⟩:=m ls i hi hg;have b:r4 (ar c) bz (ls.set i l1):=n;refine⟨λe=>?_,vac h.2 AN⟩;have j:i<ls.length:=(vab.1 hi).1;have f:((ls.set i l1).map (·.aj))[i]?=some l1.aj:=AN;cases d:l1.aj with|main s'=>rw[d]at f;exact a (b.oB.only i s' f).symm| _=>rw[d]at e;exact e
end
end
variable{a:Act}
section
section
variable{c:db}{Q:ck}{Stop:Bool->ae.Lo At->aV->Prop}{m:Bool}{mine:c5}{w0:aH}{b:Frame}{ops:eQ}
def xQ{Z:eV}{k:uab}{cs:fA}{Stop:Bool->Z.Lo->aV->Prop}{σ:cz Z}{K:cz Z->Act->Prop}{i:Nat}{o:Oper}(hi:ops[i]?=some o)(c:Region.wanted o (yielded ops a.tmps)=true)(h:BJ Q b o σ a K):mR Q Stop m b k cs ops i σ a K:=by simp_all[mR]
def xR{Z:eV}{k:uab}{cs:fA}{Stop:Bool->Z.Lo->aV->Prop}{σ:cz Z}{K:cz Z->Act->Prop}{i:Nat}{o:Oper}(hi:ops[i]?=some o)(c:Region.wanted o (yielded ops a.tmps)=true)(h:PW Q Stop m b o σ a K):mR Q Stop m b k cs ops i σ a K:=by simp_all[mR]
def akr{Z:eV}{k:uab}{cs:fA}{Stop:Bool->Z.Lo->aV->Prop}{σ:cz Z}{K:cz Z->Act->Prop}{i:Nat}{o:Oper}(hi:ops[i]?=some o)(c:Region.wanted o (yielded ops a.tmps)=true)(h:PX Q Stop m b k cs ops o σ a):mR Q Stop m b k cs ops i σ a K:=by simp_all[mR]
def qk{Z:eV}{k:uab}{cs:fA}{Stop:Bool->Z.Lo->aV->Prop}{md:Region.Mode}{C:cz Z->Prop}{ib:cz Z->Act->Prop}{i n:Nat}{am:uaw}{σ:cz Z}(d:Region.ready md ops am=[i])(h:mR Q Stop m b k cs ops i σ a (λc a1=>C c/\q7 Q Stop m b k cs ops md C ib n (am.setIfInBounds i true) c a1)):q7 Q Stop m b k cs ops md C ib (n+1) am σ a:=
 P3 d Ab AN
def af.shared{Z:eV}{bs:uat}{w:aH}(h:af Z mine w0 bs w){k off:Nat}{sp}(hk:Z.g7 k)(v:Value):af Z mine w0 bs (w.setCell ⟨k,off,sp⟩ v):=
 h.on ⟨λb a=>k5 w _ v λe=>h.eK b a (e▸hk),Nat.le_of_eq (k6 _ _ _).symm,.refl _,U,U⟩
def aks{d:hh}{l:ae.Lo At}(m:l.mx=.own){bs:uat}{o:Oper}{ob:Obj}{K:cz (ak (ar c))->Act->Prop}(h:∀w,(execOp a.eval o).run Q w=.ok (.value (.P w.heap.size 0)) (w.alloc ob)/\listed Q b.fn a o w=#[])(k:∀n,K (mj c mine w0 d l ((n,ob)::bs)) (a.put o.dst (.P n 0))):BJ Q b o (mj c mine w0 d l bs) a K:=by
 intro w γ w' s g p j i;have f:=Held.on m p j (dI.rw i);obtain⟨r,q⟩:=h w';refine⟨_,_,mj c mine w0 d l ((w'.heap.size,ob)::bs),.inl r,⟨?_,?_,.inl ⟨U,⟨f.1.alloc (df (bu c)).mO ob,f.2⟩,λb e _=>BL e,?_,?_⟩⟩,k _⟩
 .show b8 mine ((w'.heap.size,ob)::bs)=grown (b8 mine bs) w' (w'.alloc ob);rw[P6];exact b8.cons.symm
 .exact⟨λb e _ _=>BL e,BB,.refl _,U,U⟩
 .rw[q];exact trivial
 grind
def akt{d:hh}{l:ae.Lo At}(x:l.mx=.own)(u:i7 l.aj=false){pre post:uat}{b0:Nat}{bc new:dC}{o:Oper}{K:cz (ak (ar c))->Act->Prop}(h:∀w,w.heap[b0]?=some (.cells bc t)->(execOp a.eval o).run Q w=.ok .skip (w.setRow b0 new)/\∀e∈listed Q b.fn a o w,∃off,e.loc=.cell ⟨b0,off,none⟩/\e.sync=false)(k:K (mj c mine w0 d l (pre++(b0,.cells new t)::post)) (a.put o.dst undef)):BJ Q b o (mj c mine w0 d l (pre++(b0,.cells bc t)::post)) a K:=by
 intro w γ w' B g y v s;have f:=Held.on x y v (dI.rw s);have j:b8 mine (pre++(b0,Obj.cells bc t)::post) b0:=.inr Ab;have C:b8 mine (pre++(b0,Obj.cells new t)::post)=b8 mine (pre++(b0,Obj.cells bc t)::post):=by grind[b8]
 obtain⟨z,q⟩:=h w' (f.1.bI (b0,.cells bc t) Ab);have hg:grown (b8 mine (pre++(b0,Obj.cells bc t)::post)) w' (w'.setRow b0 new)=b8 mine (pre++(b0,Obj.cells bc t)::post):=j9 (setRow_size _ _ _);refine⟨_,_,mj c mine w0 d l (pre++(b0,.cells new t)::post),AN,⟨?_,?_,.inl ⟨U,⟨f.1.row,f.2⟩,λb A m=>z3 _ _ ?_,?_,?_⟩⟩,k⟩
 .show b8 mine (pre++(b0,.cells new t)::post)=grown (b8 mine (pre++(b0,Obj.cells bc t)::post)) w' (w'.setRow b0 new);grind
 .exact⟨λk _ hk _=>z3 _ _ λe=>hk (e▸j),Nat.le_of_eq (setRow_size _ _ _).symm,.refl _,U,U⟩
 .rintro rfl;exact f.1.eK b (.inr j) m
 .refine zS _ _ λe p d=>?_;obtain⟨off,n,r⟩:=q e AN;unfold s7;rw[n];refine .inl ⟨r,.inr (.inl ?_),u⟩;show grown (b8 mine (pre++(b0,Obj.cells bc t)::post)) w' (w'.setRow b0 new) b0;simp_all
 .rintro⟨e,p,i⟩;obtain⟨off,n,r⟩:=q e p;rcases i with i|i|⟨_,i⟩|⟨_,i⟩|⟨_,k,hk,m⟩
  .grind
  .grind
  .grind
  .grind
  .rw[n]at hk;cases hk;exact f.1.eK b0 (.inr j) m
end
end
variable{v:Value}
section
section
variable{c:db}{Q:ck}{Stop:Bool->ae.Lo At->aV->Prop}{m:Bool}{mine:c5}{w0:aH}{b:Frame}{ops:eQ}
def H_(c:db)(mine:c5)(w0:aH)(x:ubr)(σ:cz (ak (ar c))):Prop:=∃d l bs,l.mx=.own/\l.tok=true/\i7 l.aj=false/\x∈bs/\σ=mj c mine w0 d l bs
def xS{x:ubr}:∀σ,H_ c mine w0 x σ->r6 σ:=by rintro _ ⟨d,l,bs,a,_,_,_,rfl⟩;exact lQ (d:=d) a _ ⟨bs,U⟩
def akv{x:ubr}:∀σ,H_ c mine w0 x σ->∀w γ,σ.S w γ->σ.S {w with drawn:=w.drawn+1} γ:=by rintro _ ⟨d,l,bs,a,_,_,_,rfl⟩;exact H6 (d:=d) (l:=l) _ ⟨bs,U⟩
def akw{x:ubr}{o:Oper}(k:Nat)(e:Region.wanted o (yielded ops a.tmps)=true)(hv:∀y,((ar c).cells y)[k]?=some v)(h:∀w,w.cell? (.a c.st (k+2))=some v->(execOp a.eval o).run Q w=.ok (.value v) w/\listed Q b.fn a o w=#[⟨.cell ⟨c.st,k+2,none⟩,false,false⟩]):nk Q b ops (H_ c mine w0 x) o v a:=by
 refine .inl ⟨e,?_⟩;rintro _ ⟨d,l,bs,i,ht,g,j,rfl⟩;rcases uB (c:=c) (Q:=Q) (mine:=mine) (w0:=w0) (b:=b) (ops:=ops) (d:=d) i ht g k e AN h with⟨_,f⟩|⟨f,_⟩
 .exact f _ ⟨bs,U⟩
 grind
def akx{x:ubr}{o:Oper}(f:Region.wanted o (yielded ops a.tmps)=true)(h:∀w,w.heap[x.1]?=some x.2->(execOp a.eval o).run Q w=.ok (.value v) w/\∀e∈listed Q b.fn a o w,∃off,e=⟨.cell ⟨x.1,off,none⟩,false,false⟩):nk Q b ops (H_ c mine w0 x) o v a:=by
 refine .inl ⟨f,?_⟩;rintro _ ⟨d,l,bs,r,ht,p,m,rfl⟩ w γ w' u g s q n;have k:=Held.on r s q (dI.rw n);obtain⟨t,j⟩:=h w' (k.1.bI x m);refine⟨t,zS _ _ λe i d=>?_,?_⟩
 .obtain⟨off,rfl⟩:=j e AN;exact .inl ⟨U,.inr (.inl (.inr AN)),p⟩
 .rintro⟨e,i,f⟩;obtain⟨off,rfl⟩:=j e i;rcases f with f|f|⟨_,f⟩|⟨_,f⟩|⟨f,_⟩<;>cases f
def Xn{l:ae.Lo At}{γ:ae.aM cj}(h:g8 (ak (ar c)) l γ){p:Nat}{q:uac}(d:l.aj=.work (.has p) q):p<c.N:=by obtain⟨xs,j8,a,b⟩:=tj h;rw[d]at a;have g:=b.own p;have f:=nT (dJ p) xs j8 _ a;have e:=b.aW;grind[dJ,hand]
def aky{l:ae.Lo At}{γ:ae.aM cj}(h:g8 (ak (ar c)) l γ){p:Nat}{q:uac}(e:c.bad p=false)(b:l.aj=.work (.half p v) q):γ.aj.came+c.rows p<=iY c.rows c.N:=by obtain⟨xs,j8,a,d⟩:=tj h;rw[b]at a;exact(d.count e a).W8
def akz{d:hh}{l:ae.Lo At}(s:l.mx=.own)(ht:l.tok=true){bs:uat}{o:Oper}{K:cz (ak (ar c))->Act->Prop}{q:uac}{p f1:Nat}(m:l.aj=.work (.has p) q)(J:f1<l.fuel)(h:∀w D,w.heap[c.cx]?=some (.cells D c.BN)->p<D.size->(execOp a.eval o).run Q w=.ok .skip (w.setCell ⟨c.cx,p,none⟩ v)/\listed Q b.fn a o w=#[⟨.cell ⟨c.cx,p,none⟩,true,false⟩])(k:K (mj c mine w0 ⟨d.T,d.M,d.D.set p v,d.L⟩ ({l with aj:=.work (.half p v) q,fuel:=f1}:ae.Lo At) bs) (a.put o.dst undef)):BJ Q b o (mj c mine w0 d l bs) a K:=by
 intro w γ w' f g C r j;have t:=Held.on s C r (dI.rw j);have n:w'.heap[c.st]?=some (gE (ar c) f.mu f.aj)/\(ar c).nS f.aj w':=j.mt;obtain⟨xs,j8,F,B⟩:=tj j.sees;have M:=Xn j.sees m;have y:=n.2.2 trivial;obtain⟨L,u⟩:=h w' f.aj.done.toArray y (by rw[List.size_toArray,B.len];grind);have z:=Xg n.1 n.2 p v;refine⟨undef,w'.setCell ⟨c.cx,p,none⟩ v,mj c mine w0 ⟨d.T,d.M,d.D.set p v,d.L⟩ ({l with aj:=.work (.half p v) q,fuel:=f1}:ae.Lo At) bs,AN,⟨?_,Xb w' p none v,.inr ⟨({f with aj:={f.aj with done:=f.aj.done.set p v},a4:=f.a4-1}:ae.aM cj),⟨t.1.shared AN v,?_⟩,?_,z,?_,?_,?_,?_⟩⟩,k⟩
 .exact(j9 (k6 _ _ _)).symm
 .have e:=t.2;subst e;rfl
 .rw[u];exact⟨⟨.cell ⟨c.cx,p,none⟩,true,false⟩,Ab,.inr (.inr (.inr (.inr ⟨U,c.cx,U,.inr Io⟩)))⟩
 .exact PT (A:=ar c) (bu c) j.sees (a1:=.work (.half p v) q) (b1:={f.aj with done:=f.aj.done.set p v}) (f1:=f1) (d1:=l.deaf) (mi:=l.tok) (λay i hi hg=>hg.lay (by rw[<-m];exact hi)) (by show f1+c.C*(c.N-f.aj.taken)+1<=l.fuel+c.C*(c.N-f.aj.taken);omega) (λo a' r I=>⟨λe=>absurd e (by rw[r s];simp),vad _,AN⟩) I8 (λ_=>s)
 .rw[u];refine .inl ⟨U,?_,U,.inl ⟨U,.inr (.inr ⟨.inr U,ht⟩),?_⟩,PA⟩
  .show i7 (.work (.half p v) q)=i7 l.aj;rw[m];rfl
  .show i7 l.aj=false;rw[m];rfl
 .exact λH E=>E.imp id (λx=>⟨x.1,x.2⟩)
 .exact λe=>e.elim
end
end
end eW
end Go.Proofs.YtnkpmooengcinaaGreat
namespace Go.Conc
open Go.Proofs.YtnkpmooengcinaaGreat
variable{P:ck}{main:Bool}{b:Frame}{a:Act}{k:uab}{cs:fA}{w:aH}
def pt(f:ual)(cap:dC):Deferred:={target:=.fn (.func f) cap,args:=#[]}
def akB{ops:eQ}{i:Nat}{rest:uag}{o:Oper}{f:ual}{x:uaq}{cap:dC}{ats:uau}(c:ops[i]?=some o)(e:Region.wanted o (yielded ops a.tmps)=true)(hk:b.kind≠ .early)(g:o.op=.defer {callee:=.value x,args:=#[],argTypes:=ats})(h:a.eval x=.func (.func f) #[] cap):
 stepG P main (G (b.at a (.inRegion ops (i::rest)::k)) cs) w=.go (G (b.at (Act.put ⟨a.tmps,pt f cap::a.defers⟩ o.dst undef) (.inRegion ops rest::k)) cs) w #[]:=by
 have j:(execOp a.eval o).run P w=.ok (.defer (pt f cap)) w:=by simp_all[execOp,resolve,Deferred.ofValue,pt]
 have l:(execOp a.eval o).events P w #[]=#[]:=by simp_all[execOp,resolve,Deferred.ofValue]
 have d:(b.at ⟨a.tmps,pt f cap::a.defers⟩ (.inRegion ops (i::rest)::k)).finish undef=b.at (Act.put ⟨a.tmps,pt f cap::a.defers⟩ o.dst undef) (.inRegion ops rest::k):=by rw[vcc,c];rfl
 have m:(b.kind==CallKind.early)=false:=AN;rw[stepG_oper c e,<-d];simp_all[stepG.apply,G,Frame.at,GStep.after,vcn]
section
variable{todo:uab}{ds:List Deferred}{f:ual}{fn:Func}{cap:dC}
def Xo{c:Code}(hd:a.defers=pt f cap::ds)(d:P.funcs[f]?=some fn)(h:(fn.name== "runtime.NumGoroutine")=false)(e:fn.body=some c):
 stepG P main (G {b.at a todo with mode:=.returning} cs) w=
  .go (G ((baseD f).at {tmps:=cap++Array.replicate (fn.ntmps-cap.size) undef,defers:=[]} [.code c]) ({b.at ⟨a.tmps,ds⟩ todo with mode:=.returning}::cs)) w #[]:=by
 have g:¬fn.name= "runtime.NumGoroutine" :=AN;rw[<-enter_atD cap d e];simp[G,stepG,unwind,callDeferred,Frame.at,hd,pt,invoke,callFunc,d,g,e,GStep.after,vcn]
end
def akC{ops:eQ}{i:Nat}{rest:uag}{o:Oper}{c:Frame}(d:ops[i]?=some o)(f:Region.wanted o (yielded ops a.tmps)=true)(hk:b.kind=.deferred)(j:c.mode=.returning)(h:(execOp a.eval o).run P w=.ok .recover w)(g:listed P b.fn a o w=#[]):
 stepG P main (G (b.at a (.inRegion ops (i::rest)::k)) (c::cs)) w=.go (G (b.at (a.put o.dst .nilIface) (.inRegion ops rest::k)) (c::cs)) w #[]:=by
 have e:(b.at a (.inRegion ops (i::rest)::k)).finish .nilIface=b.at (a.put o.dst .nilIface) (.inRegion ops rest::k):=by rw[vcc,d];rfl
 have ht:tryRecover (b.at a (.inRegion ops (i::rest)::k)) (c::cs)=none:=by grind[tryRecover,Frame.at]
 have l:(b.kind==CallKind.early)=false:=AN;rw[stepG_oper d f,<-e,<-g];simp_all[Frame.at,stepG.apply,G,GStep.after,listed]
def Xp{todo:uab}{ds:List Deferred}{f:ual}{fn:Func}{cap:dC}{c:Code}{l:List PanicEntry}(hd:a.defers=pt f cap::ds)(d:P.funcs[f]?=some fn)(h:(fn.name== "runtime.NumGoroutine")=false)(e:fn.body=some c):
 stepG P main (G {b.at a todo with mode:=.panicking l} cs) w=
  .go (G ((baseD f).at {tmps:=cap++Array.replicate (fn.ntmps-cap.size) undef,defers:=[]} [.code c]) ({b.at ⟨a.tmps,ds⟩ todo with mode:=.panicking l}::cs)) w #[]:=by
 have g:¬fn.name= "runtime.NumGoroutine" :=AN;rw[<-enter_atD cap d e];simp[G,stepG,unwind,callDeferred,Frame.at,hd,pt,invoke,callFunc,d,g,e,GStep.after,vcn]
def akD{ops:eQ}{i:Nat}{rest:uag}{o:Oper}{c:Frame}{v:Value}(d:ops[i]?=some o)(f:Region.wanted o (yielded ops a.tmps)=true)(hk:b.kind=.deferred)(h:c.mode=.panicking [{v:=v,recovered:=false}])(j:(execOp a.eval o).run P w=.ok .recover w)(g:listed P b.fn a o w=#[]):
 stepG P main (G (b.at a (.inRegion ops (i::rest)::k)) (c::cs)) w=.go (G (b.at (a.put o.dst v) (.inRegion ops rest::k)) ({c with mode:=.panicking [{v:=v,recovered:=true}]}::cs)) w #[]:=by
 have e:(b.at a (.inRegion ops (i::rest)::k)).finish v=b.at (a.put o.dst v) (.inRegion ops rest::k):=by rw[vcc,d];rfl
 have ht:tryRecover (b.at a (.inRegion ops (i::rest)::k)) (c::cs)=some (v,{c with mode:=.panicking [{v:=v,recovered:=true}]}::cs):=by simp[tryRecover,Frame.at,hk,h]
 have l:(b.kind==CallKind.early)=false:=AN;rw[stepG_oper d f,<-e,<-g];simp_all[Frame.at,stepG.apply,G,GStep.after,listed]
def Xq{fn:Func}{todo:uab}{c:Frame}{v:Value}(hn:b.kind=.deferred)(hd:a.defers=[])(e:P.funcs[b.fn]?=some fn)(d:fn.results=#[])(f:c.mode=.panicking [{v:=v,recovered:=true}]):
 stepG P main (G {b.at a todo with mode:=.returning} (c::cs)) w=.go (G {c with mode:=.returning} cs) w #[]:=by
 simp[G,stepG,unwind,doReturn,Frame.at,hn,hd,e,f,results,d,GStep.after,vcn]
end Go.Conc
namespace Go.Proofs.YtnkpmooengcinaaGreat
open Go.Proofs.Tryz
namespace eW
open Conc ConcM av bn ae ej fY
theorem Xr:∀{n:Nat}{l:uag},l.Nodup->(∀p∈l,p<n)->l.length<=n
 |0,l,_,h=>by cases l with|nil=>simp|cons a l=>exact absurd (h a Ab) AY
 |n+1,l,hn,h=>by
  have b:(l.filter (· != n)).Nodup:=hn.filter _;have c:=Xr (n:=n) b AN;have e:l.length<=(l.filter (· != n)).length+l.count n:=by clear h b c hn;induction l with|nil=>simp|cons a l d=>grind
  grind
section
variable{c:db}
def akE{l:ae.Lo At}{γ:ae.aM cj}(h:g8 (ak (ar c)) l γ){p:Nat}{q:uac}(d:l.aj=.work (.has p) q):q.length<c.N:=by
 obtain⟨xs,j8,b,a⟩:=tj h;rw[d]at b;have key:∀r,(p::q.map (·.1)).count r<=if r<γ.aj.taken then 1 else 0:=λr=>by have f:=a.own r;grind[nT,dJ,hand,nn]
 have f:=Xr (n:=c.N) (l:=p::q.map (·.1)) AN (λr e=>by
  have:=key r;have i:=veb.2 e;have g:=a.aW;grind)
 grind
end
end eW
namespace gH
open Conc ConcM av bn ae ej fY eW
variable{a:Act}{f:ual}
section
section
variable{Z:eV}{mine M M':c5}{w0 w w1:aH}{bs:uat}
theorem fV:b8 M []=M:=by grind[b8]
def af.pu(h:af Z mine w0 bs w):af Z (b8 mine bs) w [] w:=by
 refine⟨.refl _ _ _,Ab,λb a=>?_,λb a=>h.eK b (by simp_all[fV]),Ab,Ab,λb a hK=>a.elim (λx=>h.r8 b x hK) (λx=>h.r7 b x (.inl hK))⟩;rcases a with a|(a|a)|a
 .exact h.lt b (.inl a)
 .exact h.lt b (.inr (.inl a))
 .exact h.P7 a
 .exact h.lt b (.inr (.inr a))
structure gm(Z:eV)(M:c5)(w:aH)(M':c5)(w':aH):Prop where
 sub:∀b,M b->M' b
 rw:ai Z M w w'
 gQ:af Z M' w' [] w'
theorem gm.heap(h:gm Z M w M' w1){b:Nat}{o:Obj}(c:M b)(a:w.heap[b]?=some o):w1.heap[b]?=some o:=(h.rw.heap b (.inr c)).trans a
theorem gm.trans{c:c5}{w2:aH}(h:gm Z M w M' w1)(k:gm Z M' w1 c w2):gm Z M w c w2:=
 ⟨λb a=>k.sub b (h.sub b a),h.rw.trans ⟨λb a=>k.rw.heap b (a.imp id (h.sub b)),k.rw.size,k.rw.later,k.rw.output,k.rw.tape⟩,k.gQ⟩
def gm.now(h:gm Z M w M' w1){w2:aH}(k:af Z M' w1 [] w2):gm Z M w M' w2:=by refine⟨h.sub,h.rw.trans ⟨λb a=>k.rw.heap b (a.imp id (h.sub b)),k.rw.size,k.rw.later,k.rw.output,k.rw.tape⟩,?_⟩;have:=af.pu k;grind[fV]
def gm.start(h:af Z mine w0 bs w)(k:gm Z (b8 mine bs) w M' w1):gm Z mine w0 M' w1:=
 ⟨λb a=>k.sub b (.inl a),h.rw.trans ⟨λb a=>k.rw.heap b (a.imp id .inl),k.rw.size,k.rw.later,k.rw.output,k.rw.tape⟩,k.gQ⟩
end
section
variable{c:db}
def dZ(c:db)(l:ae.Lo At)(M:c5)(w0:aH):cz (ak (ar c)):=⟨l,M,λw _=>af (ak (ar c)) M w0 [] w⟩
def xT(c:db)(l:ae.Lo At)(M:c5)(w0:aH)(E:ae.aM cj->Prop):cz (ak (ar c)):=⟨l,M,λw γ=>af (ak (ar c)) M w0 [] w/\E γ⟩
def wy(c:db)(l:ae.Lo At)(M:c5)(w0:aH):cz (ak (ar c)):=⟨l,M,λw γ=>af (ak (ar c)) M w0 [] w/\c.N<=γ.aj.taken⟩
def af.rel{l:ae.Lo At}{γ:ae.aM cj}{M:c5}{w0 w w':aH}{g:uai}(h:af (ak (ar c)) M w0 [] w)(a:dI (ak (ar c)) l γ ⟨g,w,M⟩ w'):af (ak (ar c)) M w0 [] w':=
 h.on (by rw[fV];exact dI.rw a)
def Xs(l:ae.Lo At)(M:c5)(w0:aH):r6 (dZ c l M w0):=λ_ _ _ _ _ h _ a=>af.rel h a
def Ia(c:db)(x y:ubr)(σ:cz (ak (ar c))):Prop:=∃l M w0,i7 l.aj=false/\(M x.1/\w0.heap[x.1]?=some x.2)/\(M y.1/\w0.heap[y.1]?=some y.2)/\σ=dZ c l M w0
def tr{x y:ubr}:∀σ,Ia c x y σ->r6 σ:=by rintro _ ⟨l,M,w0,_,_,_,rfl⟩;exact Xs _ _ _
def Xt{x y:ubr}:∀σ,Ia c x y σ->∀w γ,σ.S w γ->σ.S {w with drawn:=w.drawn+1} γ:=by rintro _ ⟨l,M,w0,_,_,_,rfl⟩ w γ h;exact⟨h.rw.trans ⟨λ_ _=>U,vad _,.refl _,U,U⟩,h.bI,h.lt,h.eK,h.r7,h.gF,h.r8⟩
variable{Q:ck}{Stop:Bool->ae.Lo At->aV->Prop}{m:Bool}{b:Frame}{ops:eQ}
def Ib{x y z:ubr}(u:z=x\/z=y){o:Oper}{v:Value}(f:Region.wanted o (yielded ops a.tmps)=true)(h:∀w,w.heap[z.1]?=some z.2->(execOp a.eval o).run Q w=.ok (.value v) w/\∀e∈listed Q b.fn a o w,∃off,e=⟨.cell ⟨z.1,off,none⟩,false,false⟩):nk Q b ops (Ia c x y) o v a:=by
 refine .inl ⟨f,?_⟩;rintro _ ⟨l,M,w0,p,B,A,rfl⟩ w γ w' t g r q n;have m:=Xs (c:=c) l M w0 w γ w' t g r q n;have i:M z.1/\w0.heap[z.1]?=some z.2:=AN;obtain⟨s,k⟩:=h w' ((m.rw.heap z.1 (.inr i.1)).trans i.2);refine⟨s,zS _ _ λe j d=>?_,?_⟩
 .obtain⟨off,rfl⟩:=k e AN;exact .inl ⟨U,.inr (.inl i.1),p⟩
 .rintro⟨e,j,f⟩;obtain⟨off,rfl⟩:=k e j;rcases f with f|f|⟨_,f⟩|⟨_,f⟩|⟨f,_⟩<;>cases f
def xU{Z:eV}{Stop:Bool->Z.Lo->aV->Prop}{σ:cz Z}{K:cz Z->Act->Prop}{o:Oper}{args:dC}{V:Value->cz Z->Prop}(h:∀w,(execOp a.eval o).run Q w=.ok (.enter f args) w/\listed Q b.fn a o w=#[])(d:io Q Stop m f args σ V)(k:∀u c,V u c->K c (a.put o.dst u)):PW Q Stop m b o σ a K:=
 ⟨f,args,V,λw γ w' e g _ _ _=>⟨(h w').1,by rw[(h w').2];exact trivial,AN⟩,d,k⟩
def pw{o:Oper}{fn:Func}{d:Code}{args:uba}{ats:uau}(c:o.op=.call {callee:=.value (.func f),args,argTypes:=ats})(g:Q.funcs[f]?=some fn)(e:(fn.name== "runtime.NumGoroutine")=false)(h:fn.body=some d){vs:dC}(hv:args.map a.eval=vs)(w:aH):(execOp a.eval o).run Q w=.ok (.enter f vs) w/\listed Q b.fn a o w=#[]:=by
 grind[run_call_body,listed,events_call_body,seen_none]
def Qe{o:Oper}{r:uaq}{name:String}{args:uba}{ats:uau}(c:o.op=.call {callee:=.invoke r name,args,argTypes:=ats}){w:aH}{n:Next}{rv:Value}{vs:dC}(d:a.eval r=rv)(hv:args.map a.eval=vs)(h:(callMethod rv name vs).run Q w=.ok n w/\(callMethod rv name vs).events Q w #[]=#[]):(execOp a.eval o).run Q w=.ok n w/\listed Q b.fn a o w=#[]:=by
 subst hv;subst d;obtain⟨g,f⟩:=h;unfold listed;have e:execOp a.eval o=callMethod (a.eval r) name (args.map a.eval):=by unfold execOp;simp only[c,resolve,invoke];generalize args.map a.eval=u;simp_all[Array.getElem?_append_left]
 grind[seen_none]
def akF{Z:eV}{Stop:Bool->Z.Lo->aV->Prop}{k:uab}{cs:fA}{σ:cz Z}{o:Oper}{args:dC}(h:∀w,(execOp a.eval o).run Q w=.ok (.enter f args) w/\listed Q b.fn a o w=#[])(c:∀(a':Act)(i:Nat)(rest:uag),a'.defers=a.defers->∀w γ,σ.S w γ->bd Z Q Stop m σ.l γ ⟨G (Frame.enter Q f args .normal) (b.at a' (.inRegion ops (i::rest)::k)::cs),w,σ.mine⟩):PX Q Stop m b k cs ops o σ a:=
 ⟨f,args,λw γ w' d g _ _ _=>⟨(h w').1,by rw[(h w').2];exact trivial,AN⟩,c⟩
def Ic{Z:eV}{Stop:Bool->Z.Lo->aV->Prop}(e:∀l g g1,¬Z.ox l g g1){σ:cz Z}{γ:Z.aM}{w d:aH}{V:Value->cz Z->Prop}{o:Oper}{args:dC}{i:Nat}{rest:uag}{k:uab}{cs:fA}(n:ops[i]?=some o)(j:Region.wanted o (yielded ops a.tmps)=true)(hk:b.kind≠ .early)(h:(execOp a.eval o).run Q w=.ok (.enter f args) w/\listed Q b.fn a o w=#[])(p:io Q Stop m f args σ V)(q:σ.S w γ)(hK:∀u c,V u c->∀w γ,c.S w γ->bd Z Q Stop m c.l γ ⟨G (b.at (a.put o.dst u) (.inRegion ops rest::k)) cs,w,c.mine⟩):Then (Z:=Z) Q Stop m σ.l γ ⟨G (b.at a (.inRegion ops (i::rest)::k)) cs,d,σ.mine⟩ w:=by
 refine E5 e (stepG_enter n j hk h.1) U h.2 (p b a ops i rest k cs (λu c hv w2 r s=>?_) w γ q);grind
def nr(c:db)(bO w:aH):Prop:=(∀b,c.K b->w.heap[b]?=bO.heap[b]?)/\bO.heap.size<=w.heap.size
def nr.more{bO w w':aH}{M M':c5}(h:nr c bO w)(a:gm (ak (ar c)) M w M' w'):nr c bO w':=⟨λb d=>(a.rw.heap b (.inl d)).trans (h.1 b d),vac h.2 a.rw.size⟩
def nr.gQ{bO w0 w:aH}{M:c5}{bs:uat}(h:nr c bO w0)(k:af (ak (ar c)) M w0 bs w):nr c bO w:=⟨λb a=>(k.rw.heap b (.inl a)).trans (h.1 b a),vac h.2 k.rw.size⟩
structure E7(c:db)(bO:aH)(Q:ck)(Stop:Bool->ae.Lo At->aV->Prop)(Qf:ual):Prop where
 Xu:∀T,T<c.N->c.bad T=true->c.least=.N
 rows:∀T,T<c.N->c.bad T=true->c.rows T=0
 place:∀T,T<c.N->c.bad T=true->∃b o n k,c.place T=.S b o n k
 cmp:∀T T',T<c.N->c.bad T=true->T'<c.N->c.bad T'=true->∀l M w1 E,i7 l.aj=false->(∀γ ah,E γ->(ak (ar c)).dH l γ ah->E ah)->af (ak (ar c)) M w1 [] w1->nr c bO w1->
  io Q Stop false Qf #[c.place T,c.place T'] (xT c l M w1 E) (λu bk=>∃z:Int,u=.I z/\(z<0↔T<T')/\∃M' w2,gm (ak (ar c)) M w1 M' w2/\bk=xT c l M' w2 E)
def E7.Xv{bO:aH}{a:ual}(h:∀T,c.bad T=false):E7 c bO Q Stop a:=by constructor<;>intros<;>simp_all
def xV(pv:Value):Ending:=.panicked [{v:=.iface 64 pv,recovered:=false}]
def Comes(c:db)(cq:uae)(T:Nat)(e:Ending)(M:c5)(w:aH):Prop:=(c.bad T=false/\∃v,e=.returned v/\cq T v M w)\/(c.bad T=true/\e=xV (c.place T))
structure q8(c:db)(bO:aH)(Q:ck)(Stop:Bool->ae.Lo At->aV->Prop)(xW:ual)(fK:Value)(iM:ual)(gn:Value)(fr a7:uas)(lR cq:uae):Prop where
 inv:∀(args:dC)(w:aH),(callMethod fK "Piece" args).run Q w=.ok (.enter iM (#[gn]++args)) w/\(callMethod fK "Piece" args).events Q w #[]=#[]
 akG:∀T l M w0,T<c.N->i7 l.aj=false->af (ak (ar c)) M w0 [] w0->nr c bO w0->io Q Stop false iM #[gn,.I (fr T:Int),.I (a7 T:Int)] (dZ c l M w0) (λu bk=>∃M' w1,gm (ak (ar c)) M w0 M' w1/\lR T u (λb=>M' b/\¬M b) w1/\bk=dZ c l M' w1)
 akH:∀T l M w0 u X,(∀b,X b->M b)->T<c.N->i7 l.aj=false->af (ak (ar c)) M w0 [] w0->nr c bO w0->lR T u X w0->E0 Q Stop false xW #[u] (dZ c l M w0) (λe bk=>∃M' w1,gm (ak (ar c)) M w0 M' w1/\Comes c cq T e (λb=>X b\/M' b/\¬M b) w1/\bk=dZ c l M' w1)
 slice:∀T v M w,c.bad T=false->cq T v M w->∃s a_,v=.slice s (c.rows T) a_
 fails:E7 c bO Q Stop 116
 mono:∀T v M w M' w',cq T v M w->(∀b,c.K b\/M b->w'.heap[b]?=w.heap[b]?)->(∀b,M b->M' b)->cq T v M' w'
def kq(c:db)(cq:uae):List (Nat×Value)->(Nat->Prop)->aH->Prop
 | [],_,_=>True
 |x::q,M,w=>∃co M2:Nat->Prop,(∀b,co b->M b)/\(∀b,M2 b->M b/\¬co b)/\(c.bad x.1=false->cq x.1 x.2 co w)/\kq c cq q M2 w
theorem kq.same{cq:uae}(e:∀T v M w M' w',cq T v M w->(∀b,c.K b\/M b->w'.heap[b]?=w.heap[b]?)->(∀b,M b->M' b)->cq T v M' w'){w w':aH}:∀{q:uac}{M M':c5},kq c cq q M w->(∀b,c.K b\/M b->w'.heap[b]?=w.heap[b]?)->(∀b,M b->M' b)->kq c cq q M' w'
 | [],_,_,_,_,_=>trivial
 |x::q,M,M',⟨l,m,g,d,k,j⟩,f,i=>⟨l,m,λb a=>i b (g b a),λb a=>⟨i b (d b a).1,(d b a).2⟩,λa=>e _ _ _ _ _ _ (k a) (λb a=>f b (a.imp_right (g b))) (λ_ h=>h),kq.same e j (λb a=>f b (a.imp_right λx=>(d b x).1)) (λ_ h=>h)⟩
theorem kq.pick{cq:uae}{w:aH}:∀{q:uac}{M:c5},kq c cq q M w->∃G:Nat×Value->Nat->Prop,(∀x∈q,(∀b,G x b->M b)/\(c.bad x.1=false->cq x.1 x.2 (G x) w))/\∀x∈q,∀y∈q,x≠y->∀b,G x b->¬G y b
 | [],_,_=>⟨λ_ _=>False,Ab,Ab⟩
 |x::q,M,⟨k,u,p,h,o,n⟩=>by
  obtain⟨G,g1,r⟩:=kq.pick n;obtain⟨F,hF⟩:∃F:Nat×Value->Nat->Prop,F=λy b=>(y=x/\k b)\/(y≠x/\G y b):=⟨_,U⟩;have t:F x=k:=by rw[hF];funext b;simp
  have s:∀y,y≠x->F y=G y:=λy f=>by rw[hF];funext b;simp[f]
  refine⟨F,λy f=>?_,λy f z i g b a d=>?_⟩
  .by_cases e:y=x
   .subst e;rw[t];exact⟨p,o⟩
   .obtain⟨m,l⟩:=g1 y ((vbc.1 f).resolve_left e);rw[s y e];exact⟨λb a=>(h b (m b a)).1,l⟩
  .rw[hF]at a d;rcases a with⟨rfl,a⟩|⟨n1,a⟩<;>rcases d with⟨rfl,d⟩|⟨j,d⟩
   .exact g U
   .exact(h b ((g1 z ((vbc.1 i).resolve_left j)).1 b d)).2 a
   .exact(h b ((g1 y ((vbc.1 f).resolve_left n1)).1 b a)).2 d
   .exact r y ((vbc.1 f).resolve_left n1) z ((vbc.1 i).resolve_left j) g b a d
end
end
end gH
namespace dv
open Conc ConcM av bn ae ej fY eW gH
variable{f:ual}{w0:aH}
section
section
variable{Z:eV}{Q:ck}{Stop:Bool->Z.Lo->aV->Prop}{m:Bool}{l:Z.Lo}
def Xw(G:Z.Good)(y:Z.past l=false)(T:∀g g1,¬Z.ox l g g1){post:aV->Prop}{X:aV}{K':c5}(h:iH Q m K' post X):
 ∀(γ:Z.aM)(fr:c5),(∀b,K' b->Z.K b\/fr b)->X.g.status=.running->(∀b,X.mine b\/fr b->¬Z.g7 b)->(∀b,fr b->¬X.mine b/\¬Z.K b/\b<X.w.heap.size)->(∀b,Z.g7 b->b<X.w.heap.size)->(∀b,Z.K b->b<X.w.heap.size/\¬X.mine b)->
  (∀(Y:aV)(p:Z.aM),post Y->Z.dH l γ p->Y.g.status=.running->(∀b,Y.mine b\/fr b->¬Z.g7 b)->(∀b,fr b->¬Y.mine b/\b<Y.w.heap.size/\Y.w.heap[b]?=X.w.heap[b]?)->X.w.heap.size<=Y.w.heap.size->
   (∀b,Z.K b->¬Y.mine b/\Y.w.heap[b]?=X.w.heap[b]?)->(∀b,X.mine b->Y.mine b)->(∀b,Y.mine b->X.mine b\/(X.w.heap.size<=b/\b<Y.w.heap.size))->OsLater X.w.os Y.w.os->Y.w.output=X.w.output->Y.w.tape=X.w.tape->bd Z Q Stop m l p (qd Y fr))->bd Z Q Stop m l γ (qd X fr):=by
 induction h with
 |done h=>intro γ fr _ hs z r _ x k;exact k _ γ h (G.refl _ _) hs z AN IB AN (λ_ h=>h) AN (.refl _) rfl rfl
 |@step X ok W H=>
  intro γ fr n hs z r hsz x k;refine bd.mk hs λw' p J i=>?_;have o:j4 K' X w':=⟨λb f=>i.rely.heap b (f.elim (λh=>(n b h).imp id .inr) (λh=>.inr (.inl h))),i.rely.size,i.rely.env⟩;obtain⟨g1,w1,es,hst,hg⟩:=ok w' o;have V:∀b,grown X.mine w' w1 b->¬Z.g7 b:=by
   rintro b (f|⟨f,_⟩)
   .grind
   .intro s;have:=hsz b s;have:=i.rely.size;grind[qd]
  have bL:∀b,fr b->¬grown X.mine w' w1 b:=by
   rintro b f (h|⟨h,_⟩)
   .grind
   .have:=(r b f).2.2;have:=i.rely.size;grind[qd]
  have N:∀b,fr b->w1.heap[b]?=X.w.heap[b]?:=λb f=>by have c:=i.rely.heap b (.inr (.inr f));simp[qd]at c;rw[<-c];refine hg.kept b ?_ (r b f).1;grind
  have C:(⟨g1,w1,grown (qd X fr).mine w' w1⟩:aV)=qd ⟨g1,w1,grown X.mine w' w1⟩ fr:=by
   unfold qd;congr 1
   grind[grown]
  refine .quiet hst ⟨hg.run,⟨λb f F _=>hg.kept b f λh=>F (.inl h),hg.size,by rw[hg.os];exact .refl _,hg.output,hg.tape⟩,λb f s=>hg.kept b f AN,zS _ _ λe A d=>?_,?_⟩ ?_
  .have:=hg.evs e AN;unfold xv at this;unfold s7;cases q:e.loc with
   |cell a=>
    rw[q]at this;obtain⟨c,u,t⟩:=this;refine .inl ⟨t,?_,y⟩;cases j:e.write with
    |true=>exact .inr (.inl ((u j).imp .inl id))
    |false=>
     rcases c with c|c
     .rcases n _ c with h|h
      .grind
      .exact .inr (.inl (.inl (.inr h)))
     .exact .inr (.inl (c.imp .inl id))
   |obj a=>
    rw[q]at this;obtain⟨c,u,t⟩:=this;refine⟨t,?_,y⟩;cases j:e.write with
    |true=>exact .inr ((u j).imp .inl id)
    |false=>
     rcases c with c|c
     .rcases n _ c with h|h
      .grind
      .exact .inr (.inl (.inr h))
     .exact .inr (c.imp .inl id)
   |mark mk=>rw[q]at this;cases mk<;>first|exact .inl this|grind
   |output=>trivial
   |goroutines=>grind
  .rintro(⟨e,A,j⟩|h)
   .have:=hg.evs e A;unfold xv at this;rcases j with h|h|⟨a,h⟩|⟨a,h⟩|⟨j,b,f,s⟩
    .grind
    .grind
    .grind
    .grind
    grind[eT]
   grind
  .rw[C];have U:X.w.heap.size<=w1.heap.size:=vac i.rely.size hg.size;refine H w' g1 w1 es o hst p fr n hg.run AN AN AN (λb hK=>⟨AN,?_⟩) ?_
   .rintro(h|⟨h,_⟩)
    .grind
    .have:=(x b hK).1;have:=o.size;omega
   intro Y D I E P S Xx M B O R L w v;refine k Y D I (G.trans _ _ _ _ J E) P S AN AN (λb hK=>⟨(B b hK).1,?_⟩) (λb h=>O b (.inl h)) (λb h=>?_) ?_ ?_ ?_
   .have c:=i.rely.heap b (.inl hK);simp[qd]at c;rw[(B b hK).2,<-c];exact hg.kept b AN (x b hK).2
   .have K:X.w.heap.size<=w'.heap.size:=o.size;rcases R b h with(h|h)|h
    .grind
    .grind
    grind
   .exact(show OsLater X.w.os w'.os from i.later).trans (by rw[<-hg.os];grind)
   .rw[w];exact hg.output.trans i.output
   .rw[v];exact hg.tape.trans i.tape
end
def bE(_:Nat):Prop:=False
structure xX(C:cy)(a2 G:c5)(w:aH)(R:fE)(v':Value)(iN:c5)(w':aH)(ρ:Ren)(w1:aH)(v:Value):Prop where
 post:R v w1
 val:ap ρ v v'
 world:∃S,eo C S ρ w1 w'
 le:Ren.le (c8 (λb=>a2 b\/G b) bE) ρ
 dom:∀a b,ρ.rel a b->a2 b\/iN b
 sub:∀b,G b->iN b
 old:∀a b,ρ.rel a b->a=b\/w.heap.size<=b
section
variable{c:db}{Stop:Bool->ae.Lo At->aV->Prop}{m:Bool}
structure z5(C:cy)(a2 G:c5)(w:aH)(R:Ending->aH->Prop)(e':Ending)(iN:c5)(w':aH)(ρ:Ren)(w1:aH)(e:Ending):Prop where
 post:R e w1
 val:H9 ρ e e'
 world:∃S,eo C S ρ w1 w'
 le:Ren.le (c8 (λb=>a2 b\/G b) bE) ρ
 dom:∀a b,ρ.rel a b->a2 b\/iN b
 sub:∀b,G b->iN b
 old:∀a b,ρ.rel a b->a=b\/w.heap.size<=b
def LP{P:ck}{upd:Bool}(F:(cm P upd).Good)(hu:upd=false){fn:Func}{H:Code}(B:P.funcs[f]?=some fn)(hk:fG P upd fn=true)(d:fn.body=some H)(D:uC fn=true){l:ae.Lo At}(hp:i7 l.aj=false){E:ae.aM cj->Prop}(J:∀γ n,E γ->(ak (ar c)).dH l γ n->E n){a2 G M:c5}(X:∀b,a2 b->c.K b)(hG:∀b,G b->M b)(hg:∀g,g<=P.globals.size->a2 g){args:dC}(C:aL (c8 (λb=>a2 b\/G b) bE) args args){R:aH->Ending->aH->Prop}(j:∀i e w,R i e w->e≠ .outgrown)(L:eA (cm P upd) (λb=>a2 b\/G b) bE w0)(Z:∀w,(∀b,a2 b\/G b->w.heap[b]?=w0.heap[b]?)->∀i,fX (cm P upd) (λb=>a2 b\/G b) bE w i->∀T,Calls (aa P upd) f args {i with tape:=T} (R i)):
 E0 P Stop m f args (xT c l M w0 E) (λI K=>∃r M' w',(∃w i ρ w1 e,((∀b,a2 b\/G b->w.heap[b]?=w0.heap[b]?)/\w0.heap.size<=w.heap.size)/\fX (cm P upd) (λb=>a2 b\/G b) bE w i/\z5 (cm P upd) a2 G w (R i) I r w' ρ w1 e)/\(∀b,r b->M' b/\(G b\/¬M b))/\gm (ak (ar c)) M w0 M' w'/\K=xT c l M' w' E):=by
 intro aY aF az aI aK aG csZ S w γ k;have hF:af (ak (ar c)) M w0 [] w:=k.1;have t:=df (bu c);have Q:∀b,a2 b\/G b->w.heap[b]?=w0.heap[b]?:=λb d=>hF.rw.heap b AN;have O:eA (cm P upd) (λb=>a2 b\/G b) bE w:=λb d=>by obtain⟨o,h1,h2⟩:=L b d;grind
 obtain⟨i,s⟩:=EI (cm P upd) (λb=>a2 b\/G b) bE w;have z:=iH.more (K':=λb=>a2 b\/G b) AN (ako F B hk d D O AN AN C (R:=R i) (j i) s AN m (aY.at aF (.inRegion az (aI::aK)::aG)) csZ);have y:(⟨bf (Frame.enter P f args .normal) (aY.at aF (.inRegion az (aI::aK)::aG)::csZ),w,M⟩:aV)=qd ⟨bf (Frame.enter P f args .normal) (aY.at aF (.inRegion az (aI::aK)::aG)::csZ),w,bE⟩ M:=by
  unfold qd;congr 1
  funext b
  exact propext ⟨.inr,λh=>h.resolve_left (λx=>x)⟩
 show bd _ _ _ _ l γ ⟨bf (Frame.enter P f args .normal) (aY.at aF (.inRegion az (aI::aK)::aG)::csZ),w,M⟩;rw[y];have p:∀b,M b->¬(ak (ar c)).g7 b:=λb h=>hF.eK b (.inr (.inl h));refine Xw t AN (λ_ _ h=>h) z γ M AN rfl (λb d=>p b (d.resolve_left (λx=>x))) (λb d=>⟨λx=>x,hF.r8 b d,hF.lt b (.inr (.inl d))⟩) (λb k=>hF.lt b (.inr (.inr k))) (λb hK=>⟨hF.lt b (.inl hK),λx=>x⟩) ?_;rintro Y n ⟨ρ,w1,v,v',j⟩ A Qh LN Xx hsz N Qi U u W V;have hsz':w.heap.size<=Y.w.heap.size:=hsz;have q:gm (ak (ar c)) M w0 (λb=>Y.mine b\/M b) Y.w:=by
  refine⟨AN,hF.rw.trans ⟨λb d=>?_,hsz,u,W,V⟩,.refl _ _ _,Ab,λb d=>?_,λb d=>?_,Ab,Ab,λb d hK=>?_⟩
  .grind
  .rcases d with h|(h|h)|h
   .exact van (hF.lt b (.inl h)) hsz'
   .exact(U b h).elim (λx=>x.elim) (λx=>x.2)
   .grind
   .exact van (hF.lt b (.inr (.inr h))) hsz'
  .rw[fV]at d;rcases d with h|h
   .exact t.mO b h
   grind
  .rcases d with h|h
   .grind
   .exact hF.r8 b h hK
 have:=S v' (xT c l (λb=>Y.mine b\/M b) Y.w E) ⟨λb=>G b\/Y.mine b,_,Y.w,⟨w,i,ρ,w1,v,⟨Q,hF.rw.size⟩,s,j.post,j.val,j.world,j.le,λa b h=>?_,AN,λa b h=>?_⟩,AN,q,rfl⟩ Y.w n ⟨q.gQ,J _ _ k.2 A⟩
 .unfold qd;have e:=j.g;rw[e];exact this
 .rcases j.dom a b h with h|h
  .grind
  grind
 .rcases j.old a b h with h|h
  .exact .inl h.1
  grind
def Qm{P:ck}{l:ae.Lo At}{M:c5}{args:dC}{V oC:Ending->cz (ak (ar c))->Prop}(h:E0 P Stop m f args (xT c l M w0 λ_=>True) V)(d:∀e a,V e a->∃M' w',a=xT c l M' w' (λ_=>True)/\oC e (dZ c l M' w')):E0 P Stop m f args (dZ c l M w0) oC:=
 λaY aF az aI aK aG csZ hK w γ i=>h aY aF az aI aK aG csZ (λe a hv w2 g j=>by
  obtain⟨M',w',rfl,b⟩:=d e a hv;exact hK e _ b w2 g j.1) w γ ⟨i,PA⟩
def XA{P:ck}{upd:Bool}(y:(cm P upd).Good)(p:upd=false){fn:Func}{C:Code}(q:P.funcs[f]?=some fn)(hk:fG P upd fn=true)(r:fn.body=some C)(t:uC fn=true){l:ae.Lo At}(k:i7 l.aj=false){a2 G M:c5}(n:∀b,a2 b->c.K b)(x:∀b,G b->M b)(hg:∀g,g<=P.globals.size->a2 g){args:dC}(s:aL (c8 (λb=>a2 b\/G b) bE) args args){R:ubq}(D:eA (cm P upd) (λb=>a2 b\/G b) bE w0)(o:∀w,(∀b,a2 b\/G b->w.heap[b]?=w0.heap[b]?)->∀a,fX (cm P upd) (λb=>a2 b\/G b) bE w a->∀T,Calls (aa P upd) f args {a with tape:=T} (λe w1=>∃v,e=.returned v/\R a v w1)):
 io P Stop m f args (dZ c l M w0) (λu j=>∃d M' w',(∃w a ρ w1 v,((∀b,a2 b\/G b->w.heap[b]?=w0.heap[b]?)/\w0.heap.size<=w.heap.size)/\fX (cm P upd) (λb=>a2 b\/G b) bE w a/\xX (cm P upd) a2 G w (R a) u d w' ρ w1 v)/\(∀b,d b->M' b/\(G b\/¬M b))/\gm (ak (ar c)) M w0 M' w'/\j=dZ c l M' w'):=
 (Qm (oC:=λe j=>∃u,e=.returned u/\∃d M' w',(∃w a ρ w1 v,((∀b,a2 b\/G b->w.heap[b]?=w0.heap[b]?)/\w0.heap.size<=w.heap.size)/\fX (cm P upd) (λb=>a2 b\/G b) bE w a/\xX (cm P upd) a2 G w (R a) u d w' ρ w1 v)/\(∀b,d b->M' b/\(G b\/¬M b))/\gm (ak (ar c)) M w0 M' w'/\j=dZ c l M' w')
  (LP (E:=λ_=>True) y p q hk r t k (λ_ _ _ _=>trivial) n x hg s (R:=λa e w1=>∃v,e=.returned v/\R a v w1) (λa e w1 h=>by obtain⟨v,rfl,-⟩:=h;simp) D o)
  (by
   rintro H j ⟨d,M',w',⟨w,a,ρ,w1,e,B,A,i⟩,z,F,rfl⟩;obtain⟨v,rfl,k⟩:=i.post;cases i.val with
   |ret hv=>exact⟨M',w',U,_,U,d,M',w',⟨w,a,ρ,w1,v,B,A,k,hv,i.world,i.le,i.dom,i.sub,i.old⟩,z,F,U⟩)).ret λ_ _ h=>h
end
end
def z7(R:uaz):Prop:=∀(ρ:Ren)(w w':aH)(v v':Value),Carry ρ w w'->ap ρ v v'->R w v->R w' v'
def LU(a2:c5)(R:uaz):Prop:=∀(ρ:Ren)(w w':aH)(v v':Value),(∀b,a2 b->ρ.rel b b)->(∀a b b',ρ.rel a b->ρ.rel a b'->b=b')->Carry ρ w w'->ap ρ v v'->R w v->R w' v'
def z7.k{R:uaz}(h:z7 R)(a2:c5):LU a2 R:=λρ w w' v v' _ _ b hv a=>h ρ w w' v v' b hv a
def lS(C:cy)(a2 X:c5)(R:uaz)(u:Value)(M:c5)(w:aH):Prop:=
 ∃G:Nat->Prop,(∀b,G b->M b/\¬X b)/\eA C (λb=>a2 b\/G b) bE w/\ap (c8 (λb=>a2 b\/G b) bE) u u/\R w u
variable{w w' w1:aH}{v v':Value}{ρ:Ren}
section
variable{C:cy}{a2 X:c5}
theorem mS{D:c5}(h:eA C D bE w)(e:∀b,D b->w'.heap[b]?=w.heap[b]?):eA C D bE w':=λb a=>by obtain⟨o,d,c⟩:=h b a;grind
def py{D:c5}(p:∀b,D b->w'.heap[b]?=w.heap[b]?)(o:eA C D bE w):Carry (c8 D bE) w w':=by
 rintro a a' v ⟨⟨n,hd⟩,m,l⟩ hv;obtain⟨c,e,fr,g,i,f⟩:=wc hv;rw[n]at g;have k:=(p _ hd).trans g;refine⟨v,rP k (l▸i) (m▸f),?_⟩;obtain⟨ob,h,d⟩:=o _ hd;rw[g]at h;cases h;rcases d with d|d
 .cases d with|cells _ j _=>exact j.get _ _ _ f f
 .exact d.elim
theorem lS.mono{R:uaz}(f:z7 R){u:Value}{M M':c5}(h:lS C a2 X R u M w)(j:∀b,a2 b\/M b->w'.heap[b]?=w.heap[b]?)(i:∀b,M b->M' b):lS C a2 X R u M' w':=by obtain⟨G,g,d,c,e⟩:=h;have a:∀b,a2 b\/G b->w'.heap[b]?=w.heap[b]?:=AN;exact⟨G,AN,mS d a,c,f _ _ _ _ _ (py a d) c e⟩
theorem z5.ret{G:c5}{R:Ending->aH->Prop}{a:c5}(h:z5 C a2 G w R (.returned v') a w' ρ w1 (.returned v)):xX C a2 G w (λv w1=>R (.returned v) w1) v' a w' ρ w1 v:=by cases h.val with|ret hv=>exact⟨h.post,hv,h.world,h.le,h.dom,h.sub,h.old⟩
def z5.err{G:c5}{R:Ending->aH->Prop}{f:Ending}{g:c5}{b o n k:Nat}(m:a2 b)(h:z5 C a2 G w R f g w' ρ w1 (xV (.S b o n k))):f=xV (.S b o n k):=by obtain⟨S,i⟩:=h.world;have j:ρ.rel b b:=h.le.1 b b ⟨U,.inl m⟩;unfold xV;cases h.val with|Xl l=>cases l with|@cons _ be _ _ q p=>cases p;obtain⟨v,rc,gx⟩:=be;obtain⟨hv,e,d⟩:=q;simp only at hv e d;subst e d;cases hv with|iface _ hv=>cases hv with|slice _ _ r=>rename_i a';obtain⟨t,s,ay⟩:=a';obtain⟨r1,c,a⟩:=r;have:=i.one _ _ _ j r1;simp only at c a this;subst c a this;rfl
def xX.XI{G:c5}{R:fE}{f M':c5}(h:xX C a2 G w R v' f w' ρ w1 v)(k:∀b,f b->M' b/\¬X b){Q:uaz}(g:LU a2 Q)(i:Q w1 v):lS C a2 X Q v' M' w':=by
 obtain⟨S,d⟩:=h.world;have e:(λb=>a2 b\/((∃a,ρ.rel a b)/\¬a2 b))=λb=>∃a,ρ.rel a b:=by
  funext b
  apply propext;constructor
  .rintro(c|c)
   .exact⟨b,h.le.1 b b ⟨U,.inl c⟩⟩
   grind
  grind
 refine⟨λb=>(∃a,ρ.rel a b)/\¬a2 b,λb c=>?_,?_,?_,g ρ w1 w' v v' (λb c=>h.le.1 b b ⟨U,.inl c⟩) d.one d.carry h.val i⟩
 .obtain⟨⟨a,j⟩,hk⟩:=c;exact k b ((h.dom a b j).resolve_left hk)
 .rw[e];exact d.closed bE
 .rw[e];exact ap.right (σ:=c8 (λb=>∃a,ρ.rel a b) bE) (λa b l=>⟨U,a,l⟩) h.val
end
theorem io.mono{Z:eV}{Q:ck}{Stop:Bool->Z.Lo->aV->Prop}{m:Bool}{args:dC}{σ:cz Z}{V oC:Value->cz Z->Prop}(h:io Q Stop m f args σ V)(c:∀u a,V u a->oC u a):io Q Stop m f args σ oC:=
 λaY aF az aI aK aG csZ hK w γ b=>h aY aF az aI aK aG csZ AN w γ b
def kO{l:uam}(h:∀v∈l,ap ρ v v):aL ρ l.toArray l.toArray:=by apply aL.OO;induction l with|nil=>exact .nil|cons a l b=>exact .cons (h a Ab) AN
variable{iM xW:ual}{bO:aH}{fK gn:Value}
def XJ{P:ck}{upd:Bool}(J:(cm P upd).Good)(I:upd=false){y t:Func}{Qw Qx:Code}(Qy:P.funcs[iM]?=some y)(Qz:fG P upd y=true)(QA:y.body=some Qw)(QB:uC y=true)(QC:P.funcs[xW]?=some t)(QD:fG P upd t=true)(QE:t.body=some Qx)(QF:uC t=true){Stop:Bool->ae.Lo At->aV->Prop}{c:db}{a2:c5}(z:∀b,a2 b->c.K b)(hg:∀g,g<=P.globals.size->a2 g)(Q:eA (cm P upd) (λb=>a2 b\/bE b) bE bO){fr a7:uas}(hinv:∀(args:dC)(w:aH),(callMethod fK "Piece" args).run P w=.ok (.enter iM (#[gn]++args)) w/\(callMethod fK "Piece" args).events P w #[]=#[])(XK:ap (c8 (λb=>a2 b\/bE b) bE) gn gn){tu tv:uao}(D:∀T,LU a2 (tu T))(F:∀T,z7 (tv T))(gj:∀T,T<c.N->∀w,(∀b,a2 b\/bE b->w.heap[b]?=bO.heap[b]?)->∀f,fX (cm P upd) (λb=>a2 b\/bE b) bE w f->∀r,Calls (aa P upd) iM #[gn,.I (fr T:Int),.I (a7 T:Int)] {f with tape:=r} (λe w1=>∃v,e=.returned v/\tu T w1 v))(C:E7 c bO P Stop 116)(W:∀T,T<c.N->c.bad T=true->∃b o n k,c.place T=.S b o n k/\a2 b)(Z:∀T,T<c.N->∀f u,tu T f u->∀r,Calls (aa P upd) xW #[u] {f with tape:=r} (λe w1=>(c.bad T=false/\∃v,e=.returned v/\tv T w1 v)\/(c.bad T=true/\e=xV (c.place T))))(Fe:∀T w v,c.bad T=false->tv T w v->∃s a_,v=.slice s (c.rows T) a_):
 q8 c bO P Stop xW fK iM gn fr a7 (λT u M w=>lS (cm P upd) a2 c.K (tu T) u M w) (λT v M w=>lS (cm P upd) a2 c.K (tv T) v M w):=by
 refine⟨hinv,λT l M w0 B A hk hI=>?_,λT l M w0 u X nR B A hk hI V=>?_,λT v M w d h=>?_,C,λT v M w M' w' h O Y=>lS.mono (F T) h AN Y⟩
 .have O:∀b,a2 b\/bE b->w0.heap[b]?=bO.heap[b]?:=λb d=>hI.1 b (z b (d.resolve_right (λx=>x)));refine io.mono (XA J I Qy Qz QA QB A (G:=bE) (M:=M) z (λb h=>h.elim) hg (R:=λ_ v w1=>tu T w1 v) (kO λv hv=>?_) (mS Q O) AN) ?_
  .simp at hv;rcases hv with rfl|rfl|rfl
   .grind
   .exact .int _ _
   .exact .int _ _
  .rintro u bk ⟨S,M',w',⟨w,f,ρ,w1,v,_,_,i⟩,j,p,rfl⟩;exact⟨M',w',p,i.XI (λb d=>⟨⟨(j b d).1,(j b d).2.resolve_left id⟩,λx=>p.gQ.r8 b (j b d).1 x⟩) (D T) i.post,rfl⟩
 .obtain⟨G,q,m,L,K⟩:=V;refine Qm (LP (E:=λ_=>True) J I QC QD QE QF A (λ_ _ _ _=>trivial) (G:=G) (M:=M) z AN hg (R:=λ_ e w1=>(c.bad T=false/\∃v,e=.returned v/\tv T w1 v)\/(c.bad T=true/\e=xV (c.place T))) (kO λv hv=>?_) (λ_ e _ h=>?_) m (λw H f aB r=>Z T B f u ?_ r)) ?_
  .grind
  .rcases h with⟨-,v,rfl,-⟩|⟨-,rfl⟩<;>simp[xV]
  .have bP:=mS m H;exact D T (c8 (λb=>a2 b\/G b) bE) _ _ _ _ Jt (λa b b' q m=>q.1.symm.trans m.1) (aB.carry bP) L (D T (c8 (λb=>a2 b\/G b) bE) _ _ _ _ Jt (λa b b' q m=>q.1.symm.trans m.1) (py H m) L K)
  .rintro e' bk ⟨S,M',w',⟨w,f,ρ,w1,e,_,_,i⟩,j,p,rfl⟩;refine⟨M',w',rfl,M',w',p,?_,rfl⟩;rcases i.post with⟨d,v,rfl,hv⟩|⟨d,rfl⟩
   .refine .inl ⟨d,?_⟩;cases he:i.val with|ret U=>exact⟨_,rfl,(z5.ret i).XI (λb d=>⟨(j b d).2.elim (λx=>.inl (q b x).1) λx=>.inr ⟨(j b d).1,x⟩,λx=>p.gQ.r8 b (j b d).1 x⟩) ((F T).k a2) hv⟩
   .obtain⟨b,o,n,k,N,QG⟩:=W T B d;rw[N]at i;exact .inr ⟨d,by rw[N];exact z5.err QG i⟩
 .obtain⟨G,_,_,_,K⟩:=h;grind
def akS{P:ck}{upd:Bool}(p:(cm P upd).Good)(m:upd=false){i f:Func}{C B:Code}(A:P.funcs[iM]?=some i)(z:fG P upd i=true)(J:i.body=some C)(I:uC i=true)(H:P.funcs[xW]?=some f)(F:fG P upd f=true)(E:f.body=some B)(D:uC f=true){Stop:Bool->ae.Lo At->aV->Prop}{c:db}{a2:c5}(l:∀b,a2 b->c.K b)(hg:∀g,g<=P.globals.size->a2 g)(k:eA (cm P upd) (λb=>a2 b\/bE b) bE bO){fr a7:uas}(hinv:∀(args:dC)(w:aH),(callMethod fK "Piece" args).run P w=.ok (.enter iM (#[gn]++args)) w/\(callMethod fK "Piece" args).events P w #[]=#[])(y:ap (c8 (λb=>a2 b\/bE b) bE) gn gn){tu tv:uao}(K:∀T,z7 (tu T))(j:∀T,z7 (tv T))(t:∀T,T<c.N->∀w,(∀b,a2 b\/bE b->w.heap[b]?=bO.heap[b]?)->∀a,fX (cm P upd) (λb=>a2 b\/bE b) bE w a->∀d,Calls (aa P upd) iM #[gn,.I (fr T:Int),.I (a7 T:Int)] {a with tape:=d} (λe w1=>∃v,e=.returned v/\tu T w1 v))(ji:∀T,c.bad T=false)(x:∀T,T<c.N->∀a u,tu T a u->∀d,Calls (aa P upd) xW #[u] {a with tape:=d} (λe w1=>∃v,e=.returned v/\tv T w1 v))(L:∀T w v,tv T w v->∃s a_,v=.slice s (c.rows T) a_):
 q8 c bO P Stop xW fK iM gn fr a7 (λT u M w=>lS (cm P upd) a2 c.K (tu T) u M w) (λT v M w=>lS (cm P upd) a2 c.K (tv T) v M w):=
 XJ p m A z J I H F E D l hg k hinv y (λT=>(K T).k a2) j t (.Xv ji) (λT _ h=>by rw[ji T]at h;cases h) (λT o a u n d=>(x T o a u n d).mono λe w1⟨v,r,q⟩=>.inl ⟨ji T,v,r,q⟩) (λT w v _ h=>L T w v h)
end dv
namespace bB
open Conc ConcM RowKit av bn ae ej fY eW gH dv
abbrev dg:=List Int×List dM
def Rk(w:aH)(rd:uar)(r:dg):Prop:=∃pv tJ,rd 0=some pv/\rd 1=some tJ/\jB w pv r.1/\n2 w tJ r.2
abbrev jl(w:aH):=bw w 2 Rk
def YB:wz Rf:=by rintro ρ w w' rd n x-hr ⟨h0,g,f,e,d⟩;obtain⟨m,a,b0⟩:=hr 0 _ h0;obtain⟨l,a1,b1⟩:=hr 1 _ g;obtain⟨k,c,i⟩:=hr 2 _ f;obtain⟨j,b,h⟩:=hr 3 _ e;rw[b0.XH]at a;rw[b1.px]at a1;rw[i.px]at c;rw[h.XG]at b;exact⟨a,a1,c,b,d⟩
theorem Ai:wz Rk:=by rintro ρ w w' rd i x b a ⟨pv,h,h0,f,e,d⟩;obtain⟨c,g,b0⟩:=a 0 _ h0;obtain⟨v',a1,b1⟩:=a 1 _ f;exact⟨c,v',g,a1,av.bw.carry BT b b0 e,av.bw.carry YB b b1 d⟩
theorem Ca:pg Rf:=λ_ _ _ _ _ _ a h=>⟨a _ _ h.1,a _ _ h.2.1,a _ _ h.2.2.1,a _ _ h.2.2.2.1,h.2.2.2.2⟩
def ya:pg Rk:=λ_ _ _ _ _ hk a⟨pv,b,h0,e,d,c⟩=>⟨pv,b,a _ _ h0,a _ _ e,d.mono z6 hk,c.mono Ca hk⟩
def IH(xs:uay):∀j(h:j<xs.length),(two xs)[j*2]?=some xs[j].1/\(two xs)[j*2+1]?=some xs[j].2:=by induction xs with|nil=>grind|cons a l b=>intro j h;cases j with|zero=>exact⟨U,U⟩|succ j=>have:=b j AN;rw[show(j+1)*2=j*2+1+1 from AY];exact this
variable{v:Value}{w:aH}
def Rl{Row:uao}{n₀ N:Nat}(h:wL Row n₀ N v w)(rs:List dg)(a5:rs.length=N)(hs:N<=9223372036854775807)(b:∀j(h:j<rs.length) p q,Row j w (.agg #[p,q])->jB w p rs[j].1/\n2 w q rs[j].2):jl w v rs:=by
 obtain⟨xs,k,d,c⟩:=h;subst a5;rcases d.2 with⟨rfl,h0⟩|⟨g,cap,bc,rfl,-,hg,-,-,-,ht⟩
 .grind[bw.nil]
 .refine⟨_,cap,U,hs,λi hi=>⟨g,0,U,?_⟩⟩;have a:i<xs.length:=AY;have e:=b i hi _ _ (c i a);have l:=IH xs i a;have f:∀o v,(two xs)[o]?=some v->w.cell? (.a g o)=some v:=by grind[World.cell?]
  refine⟨xs[i].1,xs[i].2,?_,?_,e⟩
  .grind
  grind
def alR{aJ:uaf}{vs:List dM}{p q:Value}(h:Mh aJ vs w (.agg #[p,q]))(c:aJ.length<=9223372036854775807)(hv:vs.length<=9223372036854775807)(ht:∀d∈vs,d.text.size<=9223372036854775807):jB w p aJ/\n2 w q vs:=by obtain⟨a,bv,b,cs,e,g,l,f,k,j⟩:=h;simp at e;obtain⟨rfl,rfl⟩:=e;refine⟨⟨_,_,U,c,λi hi=>⟨a,0,U,?_⟩⟩,n2.Ra f hv ht j _⟩;show w.cell? (.a a (0+i*1+0))=_;rw[g.rules.1];have:b[0+i*1+0]?=b.toList[i]?:=Ab;grind
def wO(t:List bQ)(fr a7:Nat)(w:aH)(u:Value):Prop:=
 ∃ig aq bs v,u=.func (.func 199) #[] #[.P ig 0,.P aq 0,.P bs 0]/\
  w.cell? (.a ig 0)=some (.I fr)/\w.cell? (.a aq 0)=some (.I a7)/\w.cell? (.a bs 0)=some v/\nV w v t
def Mj{ρ:Ren}{b:Nat}(h:ap ρ (.P b 0) v):∃a,v=.P a 0/\dq ρ ⟨b,0,none⟩ ⟨a,0,none⟩:=by cases h with|@ptr _ a' k=>obtain⟨a,o',s'⟩:=a';obtain⟨e,d,c⟩:=k;simp only at e d c;subst d;subst c;exact⟨a,U,e,U,U⟩
def YC{ρ:Ren}{f:ual}{b1 g e:Nat}(h:ap ρ (.func (.func f) #[] #[.P b1 0,.P g 0,.P e 0]) v):
 ∃c1 cg du,v=.func (.func f) #[] #[.P c1 0,.P cg 0,.P du 0]/\dq ρ ⟨b1,0,none⟩ ⟨c1,0,none⟩/\dq ρ ⟨g,0,none⟩ ⟨cg,0,none⟩/\dq ρ ⟨e,0,none⟩ ⟨du,0,none⟩:=by
 cases h with|@func fn o a a' b n j k d s c=>cases j;obtain⟨l⟩:=a';obtain⟨m⟩:=n;simp only[List.size_toArray,List.length_nil,List.length_cons]at k d;have i:l=[]:=AN;subst i;match m,d with| [x,y,z],_=>obtain⟨c1,rfl,r⟩:=Mj (c 0 _ x U U);obtain⟨cg,rfl,q⟩:=Mj (c 1 _ y U U);obtain⟨du,rfl,p⟩:=Mj (c 2 _ z U U);grind
def alS(t:List bQ)(fr a7:Nat):z7 (wO t fr a7):=by rintro ρ w w' u p a f ⟨q,x,bs,v,rfl,j,i,h,g⟩;obtain⟨c1,cg,du,rfl,e,d,c⟩:=YC f;obtain⟨s,a1,n⟩:=a _ _ _ e j;obtain⟨r,b,m⟩:=a _ _ _ d i;obtain⟨k,o,l⟩:=a _ _ _ c h;rw[n.px]at a1;rw[m.px]at b;exact⟨c1,cg,du,k,U,a1,b,o,av.bw.carry wA a l g⟩
def YD(rs:List dg):z7 (λw v=>jl w v rs):=λ_ _ _ _ _ a hv h=>av.bw.carry Ai a hv h
def alT:(aa prog false).funcs[(197:Nat)]?=some f197:=bo (upd:=false) func197 AT
def alU(t:List bQ)(v:Value)(fr a7:Nat)(w:aH)(hv:nV w v t):
 Calls (aa prog false) 197 #[.agg #[v],.I fr,.I a7] w λe w'=>∃u,e=.returned u/\wO t fr a7 w' u:=by
 obtain⟨a,cap,rfl,-,-⟩:=id hv;go_enter alT,ntmps197
 go_wp2
 go_ret
 have b1:=((ag.new w #[.slice a t.length cap] 103).alloc (.cells #[.I (fr:Int)] 3)).alloc (.cells #[.I (a7:Int)] 3);have c:=(ag.new (w.alloc (.cells #[.slice a t.length cap] 103)) #[.I (fr:Int)] 3).alloc (.cells #[.I (a7:Int)] 3);have b:=ag.new ((w.alloc (.cells #[.slice a t.length cap] 103)).alloc (.cells #[.I (fr:Int)] 3)) #[.I (a7:Int)] 3;simp at c b;refine⟨_,U,w.heap.size+1,w.heap.size+1+1,w.heap.size,.slice a t.length cap,U,c.rules.1 0,b.rules.1 0,b1.rules.1 0,hv.mono q_ (bm.b4 ?_)⟩;exact(((vaa _ w).alloc IB _).alloc Ab _).alloc BC _
def qt(t:List bQ)(fr a7:Nat):List dg:=(List.range (a7-fr)).map λk=>([((fr+k:Nat):Int)],t.map (mz · (fr+k)))
theorem Mk(t:List bQ)(fr a7:Nat):(qt t fr a7).length=a7-fr:=by simp[qt]
def Ak(w:aH)(a:Nat->Question->Nat):bm w {w with tape:=a}:=λ_ _ _ h=>h
def wO.keeps{t:List bQ}{fr a7:Nat}{w':aH}{u:Value}(hk:bm w w')(h:wO t fr a7 w u):wO t fr a7 w' u:=by obtain⟨a,f,bs,v,rfl,e,d,c,b⟩:=h;exact⟨a,f,bs,v,U,hk _ _ _ e,hk _ _ _ d,hk _ _ _ c,b.mono q_ hk⟩
def alV:fG prog false f197=true:=by decide+kernel
def YF:fG prog false f103=true:=by decide+kernel
def alW:fG prog false f199=true:=by decide+kernel
def jQ:(cm prog false).Good:=Wr false AT AT
def alX(t:List bQ)(fr a7:Nat)(a:t.length<=1000000)(g:fr<=a7)(f:a7<=1000000)(C:a7-fr<=300)(b:∀i,i<a7->∀c∈t,Ag i c)(w:aH)(u:Value)(h:wO t fr a7 w u):
 Calls (aa prog false) 103 #[u] w λe w'=>∃v,e=.returned v/\jl w' v (qt t fr a7):=by
 obtain⟨k,B,bs,v,rfl,z,y,x,s⟩:=h;refine(alF C w (alP _ _ _) (λargs w=>cN Yz alW args w) (alQ t v fr a7 w s a g f b k B bs z y x)).mono ?_;rintro e w' ⟨v',rfl,m,-⟩;refine⟨v',U,Rl m _ (Mk _ _ _) AY λj o p q l=>?_⟩;have n:j<a7-fr:=by rwa[Mk]at o
 have A:(qt t fr a7)[j]=([((fr+j:Nat):Int)],t.map (mz · (fr+j))):=by simp[qt]
 rw[A];refine alR l Ab AN λd hd=>?_;obtain⟨c,r,rfl⟩:=vbz.1 hd;exact(b (fr+j) AY c r).small
def alY{Stop:Bool->ae.Lo At->aV->Prop}{c:db}{bO:aH}{a2:c5}(m:∀b,a2 b->c.K b)(hg:∀g,g<=prog.globals.size->a2 g)(e:eA (cm prog false) (λb=>a2 b\/bE b) bE bO){fK:Value}{t:List bQ}{fr a7:uas}(hv:nV bO v t)(hrel:ap (c8 (λb=>a2 b\/bE b) bE) v v)(hinv:∀(args:dC)(w:aH),(callMethod fK "Piece" args).run prog w=.ok (.enter 197 (#[.agg #[v]]++args)) w/\(callMethod fK "Piece" args).events prog w #[]=#[])(f:t.length<=1000000)(l:∀T,T<c.N->fr T<=a7 T/\a7 T<=1000000/\a7 T-fr T<=300/\∀i,i<a7 T->∀c∈t,Ag i c)(lB:∀T,T<c.N->c.rows T=a7 T-fr T)(ji:∀T,c.bad T=false):
 q8 c bO prog Stop 103 fK 197 (.agg #[v]) fr a7
  (λT u M w=>lS (cm prog false) a2 c.K (wO t (fr T) (a7 T)) u M w) (λT v M w=>lS (cm prog false) a2 c.K (λw v=>T<c.N/\jl w v (qt t (fr T) (a7 T))) v M w):=by
 refine akS jQ U func197 alV U AT func103 YF U AT m hg e hinv (.qU (.one hrel))
  (tu:=λT=>wO t (fr T) (a7 T)) (tv:=λT w v=>T<c.N/\jl w v (qt t (fr T) (a7 T))) (λT=>alS _ _ _) (λT _ _ _ _ _ o hv h=>⟨h.1,YD _ _ _ _ _ _ o hv h.2⟩) (λT j w k d x a=>?_) ji (λT j d u n a=>?_) (λT w v h=>?_)
 .exact alU t v (fr T) (a7 T) {d with tape:=a} (av.bw.carry wA (x.carry (mS e k)) hrel (av.bw.carry wA (py k e) hrel hv) |>.mono q_ (Ak d a))
 .obtain⟨s,r,q,p⟩:=l T j;exact(alX t (fr T) (a7 T) f s r q p {d with tape:=a} u (wO.keeps (Ak d a) n)).mono AN
 .obtain⟨j,y,cap,rfl,-,-⟩:=h;simp_all[Mk]
end bB
namespace cv
open RowKit Shelf av bB
def Nw(w0:aH)(rs:List dg)(t:Nat)(W:aH)(x:Value):Prop:=∃(h:t<rs.length)(pa:uad)(pc:Nat)(cZ:uad)(dw:Nat),x=.agg #[.slice pa rs[t].1.length pc,.slice cZ rs[t].2.length dw]/\n2 w0 (.slice cZ rs[t].2.length dw) rs[t].2/\bm w0 W
theorem func21:(aa prog true).funcs[(21:Nat)]?=some f21:=bo (upd:=true) Tryz.func21 AT
variable{n:Nat}
def arI(rs:List dg)(a_:Value)(bI:Nat)(w0:aH)(O:jl w0 a_ rs)(N:rs.length<=1000000)(k:w0.cell? (.a bI 0)=some a_):
 BZ n (aa prog true) 21 #[.P bI 0] (Nw w0 rs) rs.length w0.heap.size w0:=by
 intro l S J W f x w A h0;have E:=Fj x w;clear w x;have j:=bm.b4 f;have v:=j _ _ _ k;obtain⟨Y,cap,rfl,-,o⟩:=O;refine vdt func21 rfl trivial ?_ rfl;simp[vbb];gi_wp2
 gi_loopw [7] (λp wr=>∃i:Nat,i<=rs.length/\p=.I (i:Int)/\J i wr/\cC w0 wr/\Below w0.heap.size W wr) (λp _=>rs.length-(intOf p).toNat)
 case atStart=>exact⟨0,vaz _,rfl,h0,f,vaa _ _⟩
 case round=>
  obtain⟨i,U,rfl,B,C,F⟩:=hrel;have y:Hid (J i wr):=B;have c:Hid (cC w0 wr):=C;have t:Hid (Below w0.heap.size W wr):=F;clear B C F;by_cases a:i<rs.length
  .obtain⟨b,off,rfl,pv,R,q,d1,D,g⟩:=o i a;obtain⟨pa,pc,rfl,-,-⟩:=id D;obtain⟨r,m,rfl,-,-⟩:=id g;have s:=bm.b4 c.out;simp at q;have P:=s _ _ _ q;have V:=s _ _ _ d1;have X:=dx P;have K:Hid (n2 w0 (.slice r rs[i].2.length m) rs[i].2):=g;have L:(i:Int)<(rs.length:Int):=AY;have Q:(0:Int)<=(i:Int):=AY;clear s q d1 o D g h0 f j v k;have d:cC wr (wr.alloc (.cells #[.slice pa rs[i].1.length pc,.slice r rs[i].2.length m] 67)):=(vaa _ wr).alloc IB _;obtain⟨fn,tmps,assign,body,M,H⟩:=A i _ _ (E _ _ _ y.out d) a ⟨a,pa,pc,r,m,rfl,K.out,bm.b4 (c.out.trans (d.mono c.out.size))⟩;have u:Hid _:=d;clear A E d;gi_wp2
   refine⟨λh=>BQ,H.mono ?_⟩;rintro e T ⟨rfl,I,z⟩;clear H M;gi_wp2
   go_roundw
   case rel=>exact⟨i+1,AY,Ab,I,c.out.trans ((u.out.mono c.out.size).trans z),t.out.trans ((u.out.mono c.out.size).trans z)⟩
   case measure=>simp[intOf];omega
  .have L:¬(i:Int)<(rs.length:Int):=by omega
   clear o h0 f j v k;gi_wp2
   go_end0
   have e:rs.length=i:=AY;rw[e];exact⟨⟨_,rfl⟩,y.out,t.out⟩
structure iS(Y:ubh)(W W':aH):Prop where
 size:W.heap.size<=W'.heap.size
 cells:∀(b:Nat)(c:dC)(e:uaa)(z:ubo),W.heap[b]?=some (Obj.cells c e z)->Y e->W'.heap[b]?=some (Obj.cells c e z)
variable{Y:ubh}
theorem iS.trans{A B C:aH}(h:iS Y A B)(k:iS Y B C):iS Y A C:=⟨vac h.size k.size,λb c e z x y=>k.cells b c e z (h.cells b c e z x y) y⟩
variable{W W':aH}
def iS.pS(h:fO W W'):iS Y W W':=⟨h.size,λb c e z x _=>h.cells b c e z x⟩
variable{b:Nat}{cs:dC}
def iS.set{T:uaa}(h:ag W b cs T)(a:¬Y T)(o:Nat)(v:Value):iS Y W (W.setCell ⟨b,o,none⟩ v):=
 ⟨BB,λk c e z x y=>by
  grind[ag,Below.heap_setCell]⟩
def arJ(h:cC W W'):KeepsOthers W W':=⟨h.size,λ_ _ x _=>(h.block _ (jk x)).trans x⟩
def Tv(Y:ubh)(n:Nat)(P:ck)(g:Nat)(lb:dC)(Row:uao)(N n₀:Nat)(w0:aH):Prop:=
 ∀(l:Nat)(S:c5)(J:ubi)(W:aH),Below n₀ w0 W->n₀<=W.heap.size->(∀b,S b->b<W.heap.size)->(∀t W W',J t W->iS (λe=>¬Y e) W W'->(∀b,S b->W'.heap[b]?=W.heap[b]?)->J t W')->
  (∀t x W1,J t W1->t<N->Row t W1 x->n₀<=W1.heap.size->YieldAt Fence.wide (n-1) P l #[x] W1 λe W'=>e=.returned (.T)/\J (t+1) W'/\Below n₀ W1 W'/\KeepsOthers W1 W'/\iS Y W1 W')->
  J 0 W->CallsIn Fence.wide n P g (#[.func (.yield l) #[] #[]]++lb) W λe W'=>(∃v,e=.returned v)/\J N W'/\Below n₀ W W'
variable{N gf:Nat}{w:aH}{lb:dC}{assign body:Code}
def arK{P:ck}{g:uaq}{p:Tmp}{Q:uap}{a:Act}{Row:uao}{n₀:Nat}{w0:aH}(hg:a.eval g=.func (.func gf) #[] lb)(ov:∀args w,(callFunc gf args).run P w=.ok (.enter gf args) w)(M:Tv Y (n-1) P gf lb Row N n₀ w0)(S:Below n₀ w0 w)(hn:n₀<=w.heap.size)(I:ubi)(hI:∀t W W',I t W->iS (λe=>¬Y e) W W'->I t W')(h0:I 0 w)(q:ubk)(hAx:∀t x a' W W',q t x a' W->fO W W'->q t x a' W')(B1:∀(l t:Nat)(x:Value)(W:aH)(K:uak),I t W->t<N->Row t W x->(∀a' W',cC W W'->q t x a' W'->K a' W')->
  assign.wpIn (Fence.wide.inRound l) (n-1-1) P (Exit.then K (λ_ _ _=>False)) {tmps:=a.tmps.setIfInBounds p x,defers:=[]} W)(H:∀(l t:Nat)(x:Value)(a':Act)(W:aH),I t W->t<N->q t x a' W->n₀<=W.heap.size->body.wpIn (Fence.wide.inRound l) (n-1-1) P (λe _ W'=>e=.normal/\KeepsOthers W W'/\Below n₀ W W'/\iS Y W W'/\I (t+1) W') a' W)(hdone:∀W,I N W->Below n₀ w W->W.heap[w.heap.size]?=some (.deferred (some []))->Q .normal {a with defers:={target:=.collected w.heap.size,args:=#[]}::a.defers} W):
 (Code.rangeFunc g #[p] assign body).wpIn Fence.wide n P Q a w:=by
 refine wpIn_rangeFunc ?_;intro fn X;obtain⟨rec,B⟩:∃rec:LoopState->Loop,rec=λst=>{state:=st,pending:=none,fn,tmps:=a.tmps,params:=#[p],assign,body,defers:=w.heap.size}:=⟨_,rfl⟩;obtain⟨c,Ip⟩:∃c,(w.alloc (.deferred (some []))).alloc (.loop (rec .ready))=c:=⟨_,rfl⟩;have Bh:c.heap[w.heap.size+1]?=some (.loop (rec .ready)):=by grind[World.alloc_heap_new,World.size_alloc]
 have Iq:c.heap[w.heap.size]?=some (.deferred (some [])):=by grind[Below.heap_alloc,World.alloc_heap_new]
 have z:cC w c:=by rw[<-Ip];exact((vaa _ w).alloc IB _).alloc Ab _
 refine⟨w.heap.size+1,[{target:=.collected w.heap.size,args:=#[]}],c,{target:=.fn (.func gf) lb,args:=#[.func (.yield (w.heap.size+1)) #[] #[]]},c,gf,#[.func (.yield (w.heap.size+1)) #[] #[]]++lb,c,?_,?_,λ_ _=>trivial,?_,λh=>BQ,?_⟩
 .simp_all[run_enterLoop_outer]
 .simp only[resolve,hg];simp[go_sem]
 .grind[invoke]
 .refine(M (w.heap.size+1) (λb=>b=w.heap.size\/b=w.heap.size+1) (λt W=>I t W/\W.heap[w.heap.size+1]?=some (.loop (rec .ready))/\W.heap[w.heap.size]?=some (.deferred (some []))) c (S.trans (z.mono hn)) AN ?_ ?_ ?_ ⟨hI _ _ _ h0 (.pS (fO.below z)),Bh,Iq⟩).mono ?_
  .grind
  .grind
  .rintro t x W ⟨hi,f,hk⟩ i bS R;have s:=run_yield (P:=P) (args:=#[x]) f AN;rw[B]at s;refine⟨fn,_,assign,body,s,roundIn_of_wpIn X ?_⟩;clear s;have e1:(#[p].zip #[x]).foldl (λtmps(u:Tmp×Value)=>tmps.setIfInBounds u.1 u.2) a.tmps=a.tmps.setIfInBounds p x:=Ab;refine Eq.mp (vbn (λT=>Code.wpIn (Fence.wide.inRound (w.heap.size+1)) (n-1-1) P assign _ {tmps:=T,defers:=[]} W) e1.symm) ?_;refine B1 _ t x W _ hi i bS ?_;intro a' C d Is;have j:=(d.block _ (jk f)).trans f;have dW:=(d.block _ (jk hk)).trans hk;refine⟨_,run_beginRound j AN,?_⟩;have Z:(C.putObj (w.heap.size+1) (.loop {rec .ready with state:=.busy})).heap[w.heap.size+1]?=some (.loop {rec .ready with state:=.busy}):=vdf (jk j);have O:(C.putObj (w.heap.size+1) (.loop {rec .ready with state:=.busy})).heap[w.heap.size]?=some (.deferred (some [])):=(vao AY).trans dW;refine wpIn_mono (H _ t x a' _ (hI _ _ _ (hI _ _ _ hi (.pS (fO.below d))) (.pS (fO.put j))) i (hAx _ _ _ _ _ Is (.put j)) AN) ?_;rintro e bR L ⟨rfl,m,F,J,E⟩;have r:=m.same _ _ Z rfl;have D:=m.same _ _ O rfl;have U:=run_endRound (P:=P) none r;have h_:(L.putObj (w.heap.size+1) (.loop (rec .ready))).heap[w.heap.size+1]?=some (.loop (rec .ready)):=vdf (jk r);refine⟨_,_,U,rfl,⟨hI _ _ _ E (.pS (fO.put r)),?_,(vao AY).trans D⟩,?_,⟨?_,λk o x y=>?_⟩,?_⟩
   .grind
   .exact((d.mono R).trans ((pC _ AY).trans F)).trans (pC _ AY)
   .have:=d.size;have:=m.size;simp at this⊢;omega
   .by_cases A:k=w.heap.size+1
    .grind
    .exact(vao A).trans (m.same _ _ ((vao A).trans ((d.block _ (jk x)).trans x)) y)
   .exact(((iS.pS (fO.below d)).trans (.pS (fO.put j))).trans J).trans (.pS (fO.put r))
  .rintro e W2 ⟨⟨v,rfl⟩,⟨hi,f,hk⟩,V⟩;refine⟨none,_,by have:=run_endLoop (P:=P) f AN;rw[B]at this;exact this,hdone _ (hI _ _ _ hi (.pS (fO.put f))) ?_ ((vao AY).trans hk)⟩;exact((z.mono hn).trans V).trans (pC _ AY)
def arL{m a l b:Nat}{P:ck}{f:ual}{tmps:dC}{R:Ending->aH->Prop}(h:RoundIn Fence.wide m P l f tmps assign body w R):RoundIn (Fence.wide.inRound b) a P l f tmps assign body w R:=⟨h.1,λc cs _=>h.2 c cs (λd hd=>by simp[Fence.wide]at hd)⟩
section
theorem func20:(aa prog true).funcs[(20:Nat)]?=some f20:=bo (upd:=true) Tryz.func20 AT
attribute [local go_sem] Oper.semAt_some
def sH(e:uaa):Prop:=e=3\/e=81
def D1(h:fO W W'){o:Nat}{v:Value}(a:W.cell? (.a b o)=some v):W'.cell? (.a b o)=some v:=by
 have:∃c e z,W.heap[b]?=some (.cells c e z)/\c[o]?=some v:=by unfold World.cell? at a;grind
 obtain⟨c,e,z,d,f⟩:=this;have:=h.cells _ _ _ _ d;grind[World.cell?]
def arM{Row:uao}(T f j:Nat)(w0:aH)(lV:∀n,BZ n (aa prog true) gf lb Row N w0.heap.size w0)(ov:∀args w,(callFunc gf args).run (aa prog true) w=.ok (.enter gf args) w)(R:∀t W x,Row t W x->∃p aJ pc q c a,x=.agg #[.slice p aJ pc,.slice q c a])(bS:∀t W W' x,fO W W'->Row t W x->Row t W' x)(a5:N<=1000000)(i:w0.cell? (.a T 0)=some (.func (.func gf) #[] lb))(d:w0.cell? (.a f 0)=some (.I 0))(g:w0.cell? (.a j 0)=some (.I 9223372036854775807)):
 Tv sH n (aa prog true) 20 #[.P T 0,.P f 0,.P j 0] Row N w0.heap.size w0:=by
 intro l S J W D F m o Y h0;have k:=bm.b4 D;have v:=k _ _ _ i;have u:=k _ _ _ d;have E:=k _ _ _ g;have DT:=dx v;refine vcm func20 rfl trivial ?_;simp[vbb];gi_wp2
 have hbA:cC W ((W.alloc (.cells #[.func (.yield l) #[] #[]] 81)).alloc (.cells #[.I 0] 3)):=((vaa _ W).alloc IB _).alloc Ab _;refine X3 (n:=n) (gf:=gf) (lb:=lb) (w0:=w0) (n₀:=w0.heap.size) (N:=N) (Row:=Row) rfl ov (lV _) (D.trans (hbA.mono F)) BC S (λb hs=>by have:=m b hs;simp;omega)
  (λt V=>J t V/\ag V W.heap.size #[.func (.yield l) #[] #[]] 81/\ag V (W.heap.size+1) #[.I t] 3/\V.cell? (.a f 0)=some (.I 0)/\V.cell? (.a j 0)=some (.I 9223372036854775807))
  (λt V oC h hk hs=>⟨o _ _ _ h.1 (.pS hk) hs,hk.cells _ _ _ _ h.2.1,hk.cells _ _ _ _ h.2.2.1,D1 hk h.2.2.2.1,D1 hk h.2.2.2.2⟩)
  ⟨o _ _ _ h0 (.pS (.below hbA)) (λb hs=>hbA.block b (m b hs)),(ag.new W _ _).alloc _,by have:=ag.new (W.alloc (.cells #[.func (.yield l) #[] #[]] 81)) #[.I 0] 3;simp_all,D1 (.below hbA) u,D1 (.below hbA) E⟩
  (λt x a' V=>∃r p aJ pc q c a,ag V r #[.slice p aJ pc,.slice q c a] 67/\x=.agg #[.slice p aJ pc,.slice q c a]/\Row t V x/\∃z,a'={tmps:=#[.func (.yield l) #[] #[],.P T 0,.P f 0,.P j 0,.P W.heap.size 0,.P (W.heap.size+1) 0,.P r 0,.func (.func gf) #[] lb,z,.U,.U,.U,.U,.U,.U,.U,.U,.U,.U,.U,.U,.U,.U,.U,.U],defers:=[]})
  (λt x a' V oC h hk _=>by
   obtain⟨r,p,aJ,pc,q,c,a,i,d,g,M⟩:=h;exact⟨r,p,aJ,pc,q,c,a,hk.cells _ _ _ _ i,d,AN,M⟩)
  ?assign ?body ?done
 case assign=>
  rintro l' t x V K- -B hK;obtain⟨p,aJ,pc,q,c,a,rfl⟩:=R _ _ _ B;clear v u E i d g D k h0;gi_wp2
  have eu:cC V (V.alloc (.cells #[.slice p aJ pc,.slice q c a] 67)):=(vaa _ V).alloc IB _;exact hK _ _ eu ⟨V.heap.size,p,aJ,pc,q,c,a,ag.new V _ _,rfl,bS _ _ _ _ (.below eu) B,_,rfl⟩
 case body=>
  rintro l' t x a' V ⟨C,H,U,Q,Nr⟩ L ⟨r,p,aJ,pc,q,c,a,dX,rfl,B,z,rfl⟩ iO;obtain⟨fn,tmps,assign,body,hy,bl⟩:=Y t _ _ C L B iO;obtain⟨c9,dF,eB⟩:=dX.all;obtain⟨jM,mI,mn⟩:=H.all;obtain⟨eM,fz,eX⟩:=U.all;have Z:=dx d;have Tx:=dx g;have n4:Hid _:=@o;have JH:Hid _:=m;have M:Hid _:=H;have a6:Hid _:=U;have P:Hid _:=Q;have Np:Hid _:=Nr;have s:Hid _:=Z;have O:Hid _:=Tx;have X:Hid _:=F;have aCS:¬(9223372036854775807:Int)<=(t:Int):=AY;have aCT:(0:Int)<=(t:Int):=AY;have Te:Hid _:=hbA;clear v u E i d g D k h0 Y o m H U C Z Tx hbA F;gi_wp2_with (refine⟨λh=>BQ,(arL bl).mono ?_⟩;rintro e y ⟨rfl,x_,A,JO,Ds⟩;have c4:ag y W.heap.size _ _:=Ds.cells _ _ _ _ M.out Io;have I:ag y (W.heap.size+1) _ _:=Ds.cells _ _ _ _ a6.out Ij;obtain⟨u1,u2,u3⟩:=I.all)
  have k2:=A.block;have e1:(y.setCell ⟨W.heap.size+1,0,none⟩ (.I (t+1))).cell? (.a f 0)=V.cell? (.a f 0):=vam ((vav _ _ _ _ (by have:=s.out;have:=X.out;grind)).trans (A.block _ s.out));have e2:(y.setCell ⟨W.heap.size+1,0,none⟩ (.I (t+1))).cell? (.a j 0)=V.cell? (.a j 0):=vam ((vav _ _ _ _ AN).trans (A.block _ O.out));refine⟨JO.trans (vcx _ _ _),A.setCell (by have:=X.out;grind) _,n4.out _ _ _ x_ (iS.set I (λh=>h Ij) _ _) (λb hs=>vav _ _ _ _ (by have:=JH.out b hs;grind)),c4.fL Ab _,?_,e1.trans P.out,e2.trans Np.out⟩;have:=I.set 0 (.I (t+1));grind
 case done=>
  rintro V ⟨C,-⟩ hB hK;clear v u E i d g;gi_wp2
  refine⟨Ab,.inl ⟨_,_,rfl,vcw hK,?_⟩⟩;refine⟨.tuple #[],by simp[results,results20,go_sem],⟨_,rfl⟩,o _ _ _ C (.pS (B9 hK)) (λb hs=>vao (by have:=m b hs;simp;omega)),((hbA.mono F).trans hB).trans (pC _ BC)⟩
end
def oZ(k:Int)(D:Nat->dM)(n:Nat):List Value:=if k=3 then []else(List.range n).map λr=>.I (D r).num
def o0(k:Int)(D:Nat->dM)(n:Nat):List Value:=if k=3 then(List.range n).map λr=>.string (D r).text else []
def sI(D:Nat->dM)(n:Nat):List Value:=(List.range n).map λr=>.bool (D r).dN
def arR(k:Int)(D:Nat->dM)(n:Nat):(oZ k D n).length<=n:=by grind[oZ]
def arS(k:Int)(D:Nat->dM)(n:Nat):(o0 k D n).length<=n:=by grind[o0]
def arT(D:Nat->dM)(n:Nat):(sI D n).length=n:=by simp[sI]
theorem KU(D:Nat->dM)(n:Nat):sI D (n+1)=sI D n++[.bool (D n).dN]:=by simp[sI,vdx]
theorem arU{k:Int}(h:k≠3)(D:Nat->dM)(n:Nat):oZ k D (n+1)=oZ k D n++[.I (D n).num]:=by simp[oZ,vdx,h]
theorem arV{k:Int}(h:k=3)(D:Nat->dM)(n m:Nat):oZ k D n=oZ k D m:=by simp[oZ,h]
theorem arW{k:Int}(h:k=3)(D:Nat->dM)(n:Nat):o0 k D (n+1)=o0 k D n++[.string (D n).text]:=by simp[o0,vdx,h]
theorem arX{k:Int}(h:k≠3)(D:Nat->dM)(n m:Nat):o0 k D n=o0 k D m:=by simp[o0,h]
structure vL(l:uah)(D:Nat->Nat->dM)(m:uas)(L:List gZ)(cs:dC):Prop where
 size:cs.size=l.length*5
 jK:∀i(h:i<l.length),∃b9 vs bt,cs[i*5]?=some (.I l[i].1)/\cs[i*5+1]?=some (.I l[i].2)/\cs[i*5+2]?=some b9/\cs[i*5+3]?=some vs/\cs[i*5+4]?=some bt/\
  L[3*i]?=some ⟨2,b9,oZ l[i].1 (D · i) (m i)⟩/\L[3*i+1]?=some ⟨9,vs,o0 l[i].1 (D · i) (m i)⟩/\L[3*i+2]?=some ⟨4,bt,sI (D · i) (m i)⟩
 D2:∀i(h:i<L.length),L[i].e=2\/L[i].e=9\/L[i].e=4
variable{L:List gZ}
def Nz(h:∀i(h:i<L.length),L[i].e=2\/L[i].e=9\/L[i].e=4)(q:Nat)(x:gZ)(a:x.e=2\/x.e=9\/x.e=4):∀i(h:i<(L.set q x).length),(L.set q x)[i].e=2\/(L.set q x)[i].e=9\/(L.set q x)[i].e=4:=by grind
def w9(m:uas)(i j:Nat):Nat:=if j=i then m j+1 else m j
theorem arY(m:uas)(i:Nat):w9 m i i=m i+1:=by simp[w9]
variable{i:Nat}
def arZ(m:uas){j:Nat}(h:j≠i):w9 m i j=m j:=by simp[w9,h]
def Ty{r:gZ}(h:L[i]?=some r):i<L.length:=(vab.1 h).1
theorem vL.w9{l:uah}{D:Nat->Nat->dM}{m:uas}(h:vL l D m L cs)(hi:i<l.length){a:List gZ}{b9 vs b:Value}(u:∀q,q≠3*i->q≠3*i+1->q≠3*i+2->a[q]?=L[q]?)(ht:∀i(h:i<a.length),a[i].e=2\/a[i].e=9\/a[i].e=4)(h0:a[3*i]?=some ⟨2,b9,oZ l[i].1 (D · i) (m i+1)⟩)(w:a[3*i+1]?=some ⟨9,vs,o0 l[i].1 (D · i) (m i+1)⟩)(v:a[3*i+2]?=some ⟨4,b,sI (D · i) (m i+1)⟩):
 vL l D (w9 m i) a (rz cs i (.I l[i].1) (.I l[i].2) b9 vs b):=by
 refine⟨by simp[rz];exact h.size,λj p=>?_,ht⟩;by_cases e:j=i
 .subst e;have t:=h.size;obtain⟨f,a1,n,g,d⟩:=K0 (cs:=cs) (k:=j) (.I l[j].1) (.I l[j].2) b9 vs b AY;grind[arY]
 .rw[arZ m e];obtain⟨c,o,wn,f,a1,n,g,d,x,s,r⟩:=h.jK j p;refine⟨c,o,wn,(w8 (i:=0) _ _ _ _ _ e AX).trans f,(w8 _ _ _ _ _ e AX).trans a1,(w8 _ _ _ _ _ e AX).trans n,(w8 _ _ _ _ _ e AX).trans g,(w8 _ _ _ _ _ e AX).trans d,?_,?_,?_⟩
  .grind
  .grind
  grind
variable{B:Nat}
def ar0{l:uah}{D:Nat->Nat->dM}{m:uas}(h:vL l D m L cs)(d:fh B w L)(t:B<=w.heap.size)(hi:i<l.length)(I:m i<=1000)(ht:(D (m i) i).text.size<=1000000){b9 vs q:Value}(x:cs[i*5+2]?=some b9)(v:cs[i*5+3]?=some vs)(u:cs[i*5+4]?=some q):
 Calls (aa prog true) 23 #[.agg #[.I l[i].1,.I l[i].2,b9,vs,q],jZ (D (m i) i)] w λe w'=>∃j n0 cw a1 n1 c1 a o cg s,e=.returned (.agg #[.I l[i].1,.I l[i].2,.slice j n0 cw,.slice a1 n1 c1,.slice a o cg])/\fh B w' s/\
  vL l D (w9 m i) s (rz cs i (.I l[i].1) (.I l[i].2) (.slice j n0 cw) (.slice a1 n1 c1) (.slice a o cg))/\qM L w w':=by
 obtain⟨z,E,wn,j,a1,a,r,p,f,b,n⟩:=h.jK i hi;rw[x]at a;cases a;rw[v]at r;cases r;rw[u]at p;cases p;obtain⟨p0,F,rfl⟩:=qq (show w.ownsRow B 2 1 b9 (oZ l[i].1 (D · i) (m i)).length _ from d.at f);obtain⟨H,M,rfl⟩:=qq (show w.ownsRow B 9 1 vs (o0 l[i].1 (D · i) (m i)).length _ from d.at b);have l0:=arR l[i].1 (D · i) (m i);have l1:=arS l[i].1 (D · i) (m i);have l2:=arT (D · i) (m i);have y:=Ty f;have C:=Ty b;have A:=Ty n;refine(arE d t f b n l[i].1 l[i].2 (D (m i) i) ht AN).mono ?_;rintro e w' ⟨⟨g,c,K,J,⟨hk,rfl,k⟩|⟨hk,rfl,k⟩⟩,hF⟩
 .refine⟨_,_,_,_,_,_,_,_,_,_,U,k,h.w9 hi ?_ ?_ ?_ ?_ ?_,hF⟩
  .grind
  .exact Nz (Nz h.D2 _ _ AN) _ _ Ij
  .grind[arU]
  .grind[arX]
  grind[KU]
 .refine⟨_,_,_,_,_,_,_,_,_,_,U,k,h.w9 hi ?_ ?_ ?_ ?_ ?_,hF⟩
  .grind
  .exact Nz (Nz h.D2 _ _ AN) _ _ AN
  .grind[arV]
  .grind[arW]
  grind[KU]
def Tz(h:fh B W L)(d:∀c e z,W.heap[b]?=some (.cells c e z)->∀i(h:i<L.length),L[i].e≠e):ry L b:=by
 intro i hi hg;rcases(h.own i hi).2 with⟨hn,-⟩|⟨g,cap,bc,hv,-,a,-⟩
 .rw[hn]at hg;cases hg
 .rw[hv]at hg;cases hg;grind
variable{w':aH}
def ar1(h:qM L w w')(b:fh B w L):KeepsOthers w w':=
 ⟨h.size,λk o x y=>(h.block k (jk x) (Tz b λc e z a=>by rw[x]at a;cases a;cases y)).trans x⟩
def ar2(h:qM L w w')(a:fh B w L)(d:∀i(h:i<L.length),¬Y L[i].e):iS Y w w':=
 ⟨h.size,λb c e z x y=>(h.block b (jk x) (Tz a AN)).trans x⟩
def ar3(h:qM L w w')(a:fh B w L)(hn:n<=B)(hs:n<=w.heap.size):Below n w w':=
 ⟨h.os,h.tape,h.output,h.size,λk hk=>h.block k AY (a.AI AN)⟩
end cv
namespace cv
open RowKit
variable{i l n:Nat}{P:ck}{ops:eQ}{Q:uap}{K:uak}{a:Act}{w:aH}
def ar5{K':uak}(e:∀(i:Nat)(o:Oper),ops[i]?=some o->∀c,o.op≠ .defer c)(hK:∀a w,K a w->K' a w)(h:wpOpIn Fence.wide n P ops Q i K a w):wpOpIn (Fence.wide.inRound l) n P ops Q i K' a w:=by
 have h:=wpOpIn_mono (λa w=>hK a w) h;unfold wpOpIn at *;cases d:ops[i]? with
 |none=>grind
 |some o=>
  simp only[d]at h⊢;split
  .rename_i f;simp[f]at h;refine⟨h.1,?_⟩;have b:=h.2;rw[Oper.semAt_eq _ _ _ (e i o d)]at b⊢;generalize(execOp a.eval o).run P w=r at b⊢;cases r with|ok x w'=>cases x<;>exact b|halt x w'=>cases x<;>exact b
  simp_all
def ar6{md:Region.Mode}(b:∀(i:Nat)(o:Oper),ops[i]?=some o->∀c,o.op≠ .defer c):∀(fuel:Nat)(listed:uaw)(a:Act)(w:aH),wpAnyIn Fence.wide n P md ops Q fuel listed a w->wpAnyIn (Fence.wide.inRound l) n P md ops Q fuel listed a w:=by intro fuel;induction fuel with|zero=>intro listed a w h;exact h|succ fuel d=>exact λlisted a w h=>⟨h.1,λi hi=>ar5 b AN (h.2 i hi)⟩
def KR:Op->Bool
 | .defer _=>true
 | _=>false
def KQ{id:Nat}(b:P.follows .mixedOrders=true)(hd:(ops.all λo=> !KR o.op)=true)(h:wpAnyIn Fence.wide n P .any ops Q ops.size (Array.replicate ops.size false) a w.drew):(Code.region id ops true).wpIn (Fence.wide.inRound l) n P Q a w:=
 wpIn_region_any b (ar6 (λi o d c e=>by
  grind[KR]) _ _ _ _ h)
def t8(C:aH->Prop)(n:Nat)(P:ck)(ops:eQ)(Q:uap):Nat->Array Bool->Act->aH->Prop
 |0,listed,a,w=>Region.ready .any ops listed=[]/\Q .normal a w
 |fuel+1,listed,a,w=>(Region.ready .any ops listed=[]->Q .normal a w)/\∀i∈Region.ready .any ops listed,wpOpIn Fence.wide n P ops Q i (λa' w'=>C w'/\t8 C n P ops Q fuel (listed.setIfInBounds i true) a' w') a w
variable{C:aH->Prop}
def AJ:∀(fuel:Nat)(listed:uaw)(a:Act)(w:aH),t8 C n P ops Q fuel listed a w->wpAnyIn Fence.wide n P .any ops Q fuel listed a w:=by intro fuel;induction fuel with|zero=>intro listed a w h;exact h|succ fuel b=>exact λlisted a w h=>⟨h.1,λi hi=>wpOpIn_mono AN (h.2 i hi)⟩
def t9(C:aH->Prop)(P:ck)(ops:eQ)(o:Oper)(v:Value)(a:Act):Prop:=
 Region.wanted o (yielded ops a.tmps)=true/\(∀w,C w->(execOp a.eval o).run P w=.ok (.value v) w)/\(∀c,o.op≠ .defer c)/\∀w,o.about P w a.eval=none
variable{o:Oper}{v:Value}
def t9.op(hi:ops[i]?=some o)(b:t9 C P ops o v a)(d:C w)(h:K (a.put o.dst v) w):wpOpIn Fence.wide n P ops Q i K a w:=by unfold wpOpIn;simp[hi,b.1,Oper.wpIn,Oper.semAt_eq _ _ _ b.2.2.1,b.2.1 w d,Oper.uponIn];exact⟨λf c=>(by rw[b.2.2.2 w]at c;cases c),h⟩
theorem t9.put(c:t9 C P ops o v a)(hs:∀cs b,o.op≠ .select cs b){d:Option Tmp}(u:Value)(e:∀t,d=some t->t ∉ o.looksAt ops):t9 C P ops o v (a.put d u):=
 ⟨by rw[wanted_put o a d u e];exact c.1,λw f=>by rw[execOp_put o hs a d u e];exact c.2.1 w f,c.2.2.1,λw=>by rw[about_put o w a d u e];exact c.2.2.2 w⟩
variable{dt:Oper}
def ar7{j:Nat}{oj:Oper}(l:ops[j]?=some oj)(s:dt.apart ops oj=true)(q:∀cs b,dt.op≠ .select cs b)(p:∀cs b,oj.op≠ .select cs b)(t:∀c a w,Q (.panic c) (a.put dt.dst v) w->Q (.panic c) a w)(e:t9 C P ops dt v a)(h:wpOpIn Fence.wide n P ops Q j K (a.put dt.dst v) w):
 wpOpIn Fence.wide n P ops Q j (λa' w'=>t9 C P ops dt v a'/\K (a'.put dt.dst v) w') a w:=by
 obtain⟨g,y,m⟩:=Oper.apart_spec s;have keep:∀(a:Act),t9 C P ops dt v a->∀u,t9 C P ops dt v (a.put oj.dst u):=λa e u=>e.put q u m;have o:∀d,t9 C P ops dt v {a with defers:=d::a.defers}:=λd=>⟨e.1,e.2.1,e.2.2.1,e.2.2.2⟩;unfold wpOpIn at *;simp only[l]at *;rw[wanted_put oj a dt.dst v g,about_put oj w a dt.dst v g]at h;split
 .rename_i k;simp[k]at h;unfold Oper.wpIn at *;rw[about_put oj w a dt.dst v g]at h;refine⟨h.1,?_⟩;have h:=h.2;have i:Fence.wide.round=none:=rfl;rw[i,Oper.semAt_none,execOp_put oj p a dt.dst v g]at h;rw[i,Oper.semAt_none];generalize(execOp a.eval oj).run P w=r at *;cases r with
  |ok x w'=>
   cases x<;>simp only[Oper.uponIn]at h⊢
   case value u=>grind[Act.put_comm]
   case skip=>grind[Act.put_comm]
   case defer d=>
    grind[Act.put_comm,Act.put_defers]
   case enter f args=>
    grind[CallsIn.mono,Act.put_comm]
   case row row args=>grind[Act.put_comm]
   grind[RoundIn.mono,Act.put_comm]
  |halt x w'=>
   cases x<;>simp only[Oper.uponIn]at h⊢
   grind
 grind[Act.put_comm]
def ar8(hi:ops[i]?=some dt)(J:∀(j:Nat)(o:Oper) cs b,ops[j]?=some o->o.op≠ .select cs b)(q:∀c a w,Q (.panic c) (a.put dt.dst v) w->Q (.panic c) a w):
 ∀(fuel:Nat)(listed:uaw)(a:Act)(w:aH),
  (∀j oj,ops[j]?=some oj->j≠i->listed.getD j true=false->(∀e∈oj.after,Region.binds .any e=true->e.on≠i)->dt.apart ops oj=true)->
  i∈Region.ready .any ops listed->t9 C P ops dt v a->C w->t8 C n P ops Q fuel (listed.setIfInBounds i true) (a.put dt.dst v) w->t8 C n P ops Q (fuel+1) listed a w:=by
 intro fuel;induction fuel with
 |zero=>
  intro listed a w _ p g f H;refine⟨AN,λj h=>?_⟩;by_cases d:j=i
  .subst d;exact g.op hi f ⟨f,H⟩
  .have:=ready_mono h d;rw[H.1]at this;grind
 |succ fuel r=>
  intro listed a w A p g f H;refine⟨AN,λj h=>?_⟩;by_cases d:j=i
  .subst d;exact g.op hi f ⟨f,H⟩
  .have u:=H.2 j (ready_mono h d);obtain⟨x,oj,z,I⟩:=mem_ready.1 h;have D:∀e∈oj.after,Region.binds .any e=true->e.on≠i:=λe E F s=>by grind[mem_ready]
   have t:=ar7 z AN AN AN q g u;have y:∀k ok,ops[k]?=some ok->k≠i->(listed.setIfInBounds j true).getD k true=false->(∀e∈ok.after,Region.binds .any e=true->e.on≠i)->dt.apart ops ok=true:=λk ok hk B L l=>by
    refine A k ok hk B ?_ l;by_cases K:j=k
    .grind
    simp_all
   refine wpOpIn_mono (λa' w' m=>⟨m.2.1,r (listed.setIfInBounds j true) a' w' y (ready_mono p (Ne.symm d)) m.1 m.2.1 ?_⟩) t;grind[Array.setIfInBounds_comm]
variable{fuel:Nat}
def cR{listed:uaw}(hi:ops[i]?=some dt)(hs:Region.noSelect ops=true)(e:Region.free .any ops listed i=true)(g:(Region.ready .any ops listed).contains i=true)(b:∀c a w,Q (.panic c) (a.put dt.dst v) w->Q (.panic c) a w)(f:C w)(d:t9 C P ops dt v a)(h:t8 C n P ops Q fuel (listed.setIfInBounds i true) (a.put dt.dst v) w):t8 C n P ops Q (fuel+1) listed a w:=
 ar8 hi (Region.noSelect_spec hs) b fuel listed a w (Region.free_spec hi e) AN d f h
def js{listed:uaw}(b:Region.ready .any ops listed=[i])(c:ops[i]?=some o)(h:∀K':Act->aH->Prop,(∀a w,C w->t8 C n P ops Q fuel (listed.setIfInBounds i true) a w->K' a w)->if Region.wanted o (yielded ops a.tmps)=true then Oper.wpIn Fence.wide n P o a w K' Q else(∀f,o.about P w a.eval=some f->Fence.wide.fn f)/\K' (a.put o.dst undef) w):t8 C n P ops Q (fuel+1) listed a w:=
 ⟨AN,by
  rw[b];intro j d;cases List.mem_singleton.1 d;exact wpOpIn_step c λK' hK=>h K' AN⟩
def AK{listed:uaw}(b:Region.ready .any ops listed=[])(h:Q .normal a w):∀fuel,t8 C n P ops Q fuel listed a w
 |0=>⟨b,h⟩
 | _+1=>⟨λ_=>h,AN⟩
end cv
namespace bB
open RowKit av cv
def td(u:Bool):(aa prog u).funcs[(142:Nat)]?=some f142:=bo (upd:=u) func142 Au
@[simp] theorem aDm (u:Bool) (args:dC) (w:aH):Sem.run (aa prog u) (callFunc 142 args) w=.ok (.enter 142 args) w:=cN (td u) Au args w
theorem sZ(u:Bool):(aa prog u).funcs[(143:Nat)]?=some f143:=bo (upd:=u) func143 Au
@[simp] theorem aDn (u:Bool) (args:dC) (w:aH):Sem.run (aa prog u) (callFunc 143 args) w=.ok (.enter 143 args) w:=cN (sZ u) Au args w
theorem T9(u:Bool):(aa prog u).funcs[(128:Nat)]?=some f128:=bo (upd:=u) func128 Au
@[simp] theorem aDo (u:Bool) (args:dC) (w:aH):Sem.run (aa prog u) (callFunc 128 args) w=.ok (.enter 128 args) w:=cN (T9 u) Au args w
theorem T_(u:Bool):(aa prog u).funcs[(129:Nat)]?=some f129:=bo (upd:=u) func129 Au
@[simp] theorem aDp (u:Bool) (args:dC) (w:aH):Sem.run (aa prog u) (callFunc 129 args) w=.ok (.enter 129 args) w:=cN (T_ u) Au args w
theorem sS(u:Bool):(aa prog u).funcs[(127:Nat)]?=some f127:=bo (upd:=u) func127 Au
@[simp] theorem aDq (u:Bool) (args:dC) (w:aH):Sem.run (aa prog u) (callFunc 127 args) w=.ok (.enter 127 args) w:=cN (sS u) Au args w
theorem sG(u:Bool):(aa prog u).funcs[(112:Nat)]?=some f112:=bo (upd:=u) func112 Au
@[simp] theorem aDr (u:Bool) (args:dC) (w:aH):Sem.run (aa prog u) (callFunc 112 args) w=.ok (.enter 112 args) w:=cN (sG u) Au args w
def sL(a b:Int):Int:=if a<b then -1 else if b<a then 1 else 0
def NR(a b:ByteArray):Int:=if Op.bytesLess a.toList b.toList then -1 else if !Op.bytesLess a.toList b.toList&& !(a.toList==b.toList)then 1 else 0
variable{u:Bool}
def sC(a:Int)(w:aH):Calls (aa prog u) 142 #[.I a] w λe w'=>e=.returned (.F)/\w'=w:=by
 go_enter (td u),ntmps142
 go_wp2
 go_ret
 simp
def sy(a:ByteArray)(w:aH):Calls (aa prog u) 143 #[.string a] w λe w'=>e=.returned (.F)/\w'=w:=by
 go_enter (sZ u),ntmps143
 go_wp2
 go_ret
 simp
def atS(a b:Int)(w:aH):Calls (aa prog u) 128 #[.I a,.I b] w λe w'=>e=.returned (.I (sL a b))/\w'=w:=by
 unfold sL;by_cases c:a<b
 .simp only[c,vbx];go_enter (T9 u),ntmps128
  go_wp2_with (go_at_call 142;refine(sC _ _).mono ?_;rintro e w' ⟨rfl,rfl⟩)
  go_ret
  simp
 .by_cases d:b<a;focus
   simp only[c,d,vbx,vcj]
  rotate_left
  focus
   simp only[c,d,vcj]
  rotate_left
  all_goals
   go_enter (T9 u),ntmps128
   go_wp2_with (go_at_call 142;refine(sC _ _).mono ?_;rintro e w' ⟨rfl,rfl⟩)
   go_ret
   simp
def atT(a b:ByteArray)(w:aH):Calls (aa prog u) 129 #[.string a,.string b] w λe w'=>e=.returned (.I (NR a b))/\w'=w:=by
 unfold NR;by_cases c:Op.bytesLess a.toList b.toList=true
 .simp only[c,vbx];go_enter (T_ u),ntmps129
  go_wp2_with (go_at_call 143;refine(sy _ _).mono ?_;rintro e w' ⟨rfl,rfl⟩)
  go_ret
  simp
 .have c:Op.bytesLess a.toList b.toList=false:=by grind
  by_cases d:(a.toList==b.toList)=true;focus
   simp only[c,d,Bool.not_true,Bool.and_false,vai,vcj]
  rotate_left
  focus
   have d:(a.toList==b.toList)=false:=AN;simp only[c,d,Bool.not_false,Bool.and_true,vai,vcj,vbx]
  rotate_left
  all_goals
   go_enter (T_ u),ntmps129
   go_wp2_with (go_at_call 143;refine(sy _ _).mono ?_;rintro e w' ⟨rfl,rfl⟩)
   go_ret
   simp
def Ua(x y:Int):Int:=if x≠0 then x else y
def atU(b:Nat)(x y:Int)(w:aH)(h0:w.cell? (.a b 0)=some (.I x))(f:w.cell? (.a b 1)=some (.I y)):Calls (aa prog u) 127 #[.S b 0 2 2] w λe w'=>e=.returned (.I (Ua x y))/\w'=w:=by
 unfold Ua;have d:=dx h0;go_enter (sS u),ntmps127
 go_wp2
 go_loopw [8] (λi W=>∃k:Nat,k<=2/\i=.I (k:Int)/\W=w/\(1<=k->x=0)/\(k=2->y=0)) (λi _=>2-(intOf i).toNat)
 case atStart=>grind
 case round=>
  obtain⟨k,hk,rfl,rfl,a,c⟩:=hrel;obtain rfl|rfl|rfl:k=0\/k=1\/k=2:=AY
  .by_cases a:x=0
   .subst a;go_wp2
    go_roundw
    case rel=>grind
    case measure=>simp[intOf]
   .go_wp2
    go_ret
    simp
  .obtain rfl:=a AY;by_cases c:y=0
   .subst c;go_wp2
    go_roundw
    case rel=>grind
    case measure=>simp[intOf]
   .go_wp2
    go_ret
    simp
  .obtain rfl:=a AY;obtain rfl:=c U;go_wp2
   go_ret
   simp
def AS(l r:dM):Int:=Ua (sL l.num r.num) (NR l.text r.text)
def sx(l r:dM)(w:aH):Calls (aa prog u) 112 #[jZ l,jZ r] w λe w'=>e=.returned (.I (AS l r))/\cC w w':=by
 obtain⟨g,b,ls,lt⟩:=l;obtain⟨f,a,rs,rt⟩:=r;unfold AS;simp only;go_enter (sG u),ntmps112
 go_upto_region 1 with fail
 have p:=(ag.new w #[.bool g,.I b,.I ls,.string lt] 84).alloc (.cells #[.bool f,.I a,.I rs,.string rt] 84);have k:=ag.new (w.alloc (.cells #[.bool g,.I b,.I ls,.string lt] 84)) #[.bool f,.I a,.I rs,.string rt] 84;have q:Hid (cC w ((w.alloc (.cells #[.bool g,.I b,.I ls,.string lt] 84)).alloc (.cells #[.bool f,.I a,.I rs,.string rt] 84)).drew):=(((vaa _ w).alloc IB _).alloc Ab _).drew;have s:Hid (((w.alloc (.cells #[.bool g,.I b,.I ls,.string lt] 84)).alloc (.cells #[.bool f,.I a,.I rs,.string rt] 84)).heap.size=w.heap.size+1+1):=by unfold Hid;simp
 simp only[vce]at k;have HC:Hid (ag ((w.alloc (.cells #[.bool g,.I b,.I ls,.string lt] 84)).alloc (.cells #[.bool f,.I a,.I rs,.string rt] 84)).drew w.heap.size #[.bool g,.I b,.I ls,.string lt] 84/\ag ((w.alloc (.cells #[.bool g,.I b,.I ls,.string lt] 84)).alloc (.cells #[.bool f,.I a,.I rs,.string rt] 84)).drew (w.heap.size+1) #[.bool f,.I a,.I rs,.string rt] 84):=⟨p,k⟩;clear p k;generalize(w.alloc (.cells #[.bool g,.I b,.I ls,.string lt] 84)).alloc (.cells #[.bool f,.I a,.I rs,.string rt] 84)=t at *;refine wpIn_wide.1 (wpIn_region_any (n:=0) AU (AJ (C:=λW=>ag W w.heap.size #[.bool g,.I b,.I ls,.string lt] 84/\ag W (w.heap.size+1) #[.bool f,.I a,.I rs,.string rt] 84) _ _ _ _ ?_));refine cR (i:=0) (v:=.P w.heap.size 1) U AU AU AU IG HC.out ⟨Av,λW d=>Ah,(λc h=>nomatch h),λ_=>U⟩ ?_;refine cR (i:=2) (v:=.P (w.heap.size+1) 1) U AU AU AU IG HC.out ⟨Av,λW d=>Ah,(λc h=>nomatch h),λ_=>U⟩ ?_;refine cR (i:=5) (v:=.P w.heap.size 3) U AU AU AU IG HC.out ⟨Av,λW d=>Ah,(λc h=>nomatch h),λ_=>U⟩ ?_;refine cR (i:=7) (v:=.P (w.heap.size+1) 3) U AU AU AU IG HC.out ⟨Av,λW d=>Ah,(λc h=>nomatch h),λ_=>U⟩ ?_;refine cR (i:=1) (v:=.I b) U AU AU AU IG HC.out ⟨Av,λW d=>by obtain⟨o,m,j⟩:=d.1.all;go_simp,(λc h=>nomatch h),λ_=>U⟩ ?_;refine cR (i:=3) (v:=.I a) U AU AU AU IG HC.out ⟨Av,λW d=>by obtain⟨o,m,j⟩:=d.2.all;go_simp,(λc h=>nomatch h),λ_=>U⟩ ?_;refine cR (i:=6) (v:=.string lt) U AU AU AU IG HC.out ⟨Av,λW d=>by obtain⟨o,m,j⟩:=d.1.all;go_simp,(λc h=>nomatch h),λ_=>U⟩ ?_;refine cR (i:=8) (v:=.string rt) U AU AU AU IG HC.out ⟨Av,λW d=>by obtain⟨o,m,j⟩:=d.2.all;go_simp,(λc h=>nomatch h),λ_=>U⟩ ?_;refine js (i:=4) AU U λK hK=>?_;go_simp
 refine⟨PA,U,(vea.2 (atS _ _ _)).mono ?_⟩;rintro e w' ⟨rfl,rfl⟩;refine hK _ _ HC.out ?_;clear hK K;refine js (i:=9) AU U λK hK=>?_;go_simp
 refine⟨PA,U,(vea.2 (atT _ _ _)).mono ?_⟩;rintro e w' ⟨rfl,rfl⟩;refine hK _ _ HC.out ?_;clear hK K;refine js (i:=10) AU U λK hK=>?_;go_simp
 refine hK _ _ ⟨HC.out.1.alloc _,HC.out.2.alloc _⟩ ?_;clear hK K;refine js (i:=11) AU U λK hK=>?_;go_simp
 refine⟨PA,U,(vea.2 (atU _ (sL b a) (NR lt rt) _ Ah Ah)).mono ?_⟩;rintro e w' ⟨rfl,rfl⟩;refine hK _ _ ⟨HC.out.1.alloc _,HC.out.2.alloc _⟩ ?_;clear hK K;refine js (i:=12) AU U λK hK=>?_;go_simp
 refine hK _ _ ⟨HC.out.1.alloc _,HC.out.2.alloc _⟩ ?_;clear hK K;refine AK AU ?_ _;go_wp2
 go_ret
 exact⟨U,q.out.alloc q.out.size _⟩
end bB
namespace bB
open RowKit Shelf av
structure cV where
 held:Int
 sum:Int
 least:dM
 greatest:dM
abbrev og(t:cV):Value:=.agg #[.I t.held,.I (t.sum / 18446744073709551616),.int .u64 (t.sum % 18446744073709551616),.bool t.least.dN,.I t.least.num,.I t.least.cY,.string t.least.text,.bool t.greatest.dN,.I t.greatest.num,.I t.greatest.cY,.string t.greatest.text]
def Ub:dM:=⟨false,0,0,lW⟩
def rI:cV:=⟨0,0,Ub,Ub⟩
def lG(v:dM):cV:=if v.dN then rI else⟨1,v.num,v,v⟩
def D_(t o:cV):cV:=
 if t.held=0 then o else if o.held=0 then t else
  ⟨t.held+o.held,t.sum+o.sum,if AS o.least t.least<0 then o.least else t.least,if 0<AS o.greatest t.greatest then o.greatest else t.greatest⟩
def cn(k:Int)(t:cV):dM:=
 if k=1 then⟨false,t.held,0,lW⟩else if t.held=0 then uP else if k=3 then t.least else if k=4 then t.greatest else⟨false,rH t.sum,t.least.cY,lW⟩
def iT(k:Int)(t:cV):Bool:=if k=1\/t.held=0\/k=3\/k=4 then true else decide (jf t.sum)
abbrev NS(w:aH)(b:Nat)(v0 v1 v2 v3 v4 v5 v6 v7 v8 v9 v10:Value):aH:=(((((((((((w.setCell ⟨b,0,none⟩ v0).setCell ⟨b,1,none⟩ v1).setCell ⟨b,2,none⟩ v2).setCell ⟨b,3,none⟩ v3).setCell ⟨b,4,none⟩ v4).setCell ⟨b,5,none⟩ v5).setCell ⟨b,6,none⟩ v6).setCell ⟨b,7,none⟩ v7).setCell ⟨b,8,none⟩ v8).setCell ⟨b,9,none⟩ v9).setCell ⟨b,10,none⟩ v10)
variable{w:aH}
def wi{b:Nat}{cw c1 cg du p o n m s r q:Value}{T:uaa}(h:ag w b #[cw,c1,cg,du,p,o,n,m,s,r,q] T)(l k j i g f e d c a v10:Value):ag (NS w b l k j i g f e d c a v10) b #[l,k,j,i,g,f,e,d,c,a,v10] T:=by have:=(((((((((((h.set 0 l).set 1 k).set 2 j).set 3 i).set 4 g).set 5 f).set 6 e).set 7 d).set 8 c).set 9 a).set 10 v10);simpa using this
def we{B:Nat}{a:aH}{b:Nat}(h:Below B a w)(c:B<=b)(n m l k j i g f e d v10:Value):Below B a (NS w b n m l k j i g f e d v10):=(((((((((((h.setCell c n).setCell c m).setCell c l).setCell c k).setCell c j).setCell c i).setCell c g).setCell c f).setCell c e).setCell c d).setCell c v10)
def atV{W w1:aH}(a:cC w W)(b:Below W.drew.heap.size W.drew w1):cC w w1:=a.trans ((show Below w.heap.size W W.drew from⟨U,U,U,vad _,λ_ _=>U⟩).trans (b.mono a.size))
def Uc:(aa prog false).funcs[(207:Nat)]?=some f207:=bo (upd:=false) func207 AT
@[simp] theorem aDt:cS false 207:=cN Uc AT
theorem vZ(u:Bool):(aa prog u).funcs[(88:Nat)]?=some f88:=bo (upd:=u) func88 Au
@[simp] theorem aDu (u:Bool) (args:dC) (w:aH):Sem.run (aa prog u) (callFunc 88 args) w=.ok (.enter 88 args) w:=cN (vZ u) Au args w
theorem GM:(aa prog false).funcs[(214:Nat)]?=some f214:=bo (upd:=false) func214 AT
@[simp] theorem aDv:cS false 214:=cN GM AT
theorem atW(v:dM)(hv:jf v.num)(w:aH):
 Calls (aa prog false) 207 #[jZ v] w λe w'=>e=.returned (og (lG v))/\cC w w':=by
 obtain⟨n,x,s,t⟩:=v;cases n with
 |true=>
  rw[show lG ⟨true,x,s,t⟩=rI from U];go_enter Uc,ntmps207
  go_wp2
  exact vbe (v:=og rI) (by simp[results,results207,go_sem,rI,Ub,lW]) U ⟨U,((vaa _ w).alloc IB _).alloc Ab _⟩
 |false=>
  rw[show lG ⟨false,x,s,t⟩=⟨1,x,⟨false,x,s,t⟩,⟨false,x,s,t⟩⟩from U];go_enter Uc,ntmps207
  go_wp2
  have b0:=(ag.new w #[.F,.I x,.I s,.string t] 84).alloc (.cells #[.I 0,.I 0,.int .u64 0,.F,.I 0,.I 0,.E,.F,.I 0,.I 0,.E] 193);have b1:=ag.new (w.alloc (.cells #[.F,.I x,.I s,.string t] 84)) #[.I 0,.I 0,.int .u64 0,.F,.I 0,.I 0,.E,.F,.I 0,.I 0,.E] 193;rw[show(w.alloc (.cells #[.F,.I x,.I s,.string t] 84)).heap.size=w.heap.size+1 by simp]at b1;have c:Hid _:=((vaa w.heap.size w).alloc IB (.cells #[.F,.I x,.I s,.string t] 84)).alloc Ab (.cells #[.I 0,.I 0,.int .u64 0,.F,.I 0,.I 0,.E,.F,.I 0,.I 0,.E] 193);generalize((w.alloc _).alloc _)=W at *;obtain⟨c1,cg,du⟩:=b0.all;obtain⟨f1,h,f3⟩:=b1.all;go_region_with (go_at_call 208;refine(T8 _ hv _).mono ?_;rintro e w1 ⟨rfl,a⟩;obtain⟨d1,j,i⟩:=(b0.drew.call a).all;obtain⟨g1,g,f⟩:=(b1.drew.call a).all)
  all_goals
   go_wp2
   have bI:=wi (b1.drew.call a) (.I 1) (.I (x / 18446744073709551616)) (.int .u64 (x % 18446744073709551616)) (.F) (.I x) (.I s) (.string t) (.F) (.I x) (.I s) (.string t);have b:Hid _:=we (atV c.out a) (vcl _) (.I 1) (.I (x / 18446744073709551616)) (.int .u64 (x % 18446744073709551616)) (.F) (.I x) (.I s) (.string t) (.F) (.I x) (.I s) (.string t);clear c1 cg du f1 h f3 d1 j i g1 g f b0 b1 c;unfold NS at bI b;generalize World.setCell _ _ _=W2 at *;obtain⟨k,l,d⟩:=bI.all;exact vbe (v:=og ⟨1,x,⟨false,x,s,t⟩,⟨false,x,s,t⟩⟩) (by simp[results,results207,go_sem,k,d]) U ⟨U,b.out⟩
def vY(k:Int)(t:cV)(ht:ky t.sum)(w:aH):
 Calls (aa prog false) 214 #[og t,.I k] w λe w'=>e=.returned (.tuple #[jZ (cn k t),.bool (iT k t)])/\cC w w':=by
 obtain⟨held,sum,⟨b,a,ls,lt⟩,⟨c,gx,gs,gt⟩⟩:=t;by_cases g:k=1
 .subst g;rw[show cn 1 ⟨held,sum,⟨b,a,ls,lt⟩,⟨c,gx,gs,gt⟩⟩=⟨false,held,0,lW⟩from U,show iT 1 ⟨held,sum,⟨b,a,ls,lt⟩,⟨c,gx,gs,gt⟩⟩=true by simp[iT]];go_enter GM,ntmps214
  go_wp2
  exact vbe (v:=.tuple #[jZ ⟨false,held,0,lW⟩,.T]) (by simp[results,results214,go_sem,lW]) U ⟨U,((vaa _ w).alloc IB _).alloc Ab _⟩
 by_cases f:held=0
 .subst f;rw[show cn k ⟨0,sum,⟨b,a,ls,lt⟩,⟨c,gx,gs,gt⟩⟩=uP by simp[cn,g],show iT k ⟨0,sum,⟨b,a,ls,lt⟩,⟨c,gx,gs,gt⟩⟩=true by simp[iT]];go_enter GM,ntmps214
  go_wp2_with (go_at_call 178;refine(Ys _).mono ?_;rintro e w' ⟨rfl,rfl⟩)
  exact vbe (v:=.tuple #[jZ uP,.T]) Fb U ⟨U,(((vaa _ w).alloc IB _).alloc Ab _).alloc BC _⟩
 by_cases j:k=3
 .subst j;rw[show cn 3 ⟨held,sum,⟨b,a,ls,lt⟩,⟨c,gx,gs,gt⟩⟩=⟨b,a,ls,lt⟩ by simp[cn,f],show iT 3 ⟨held,sum,⟨b,a,ls,lt⟩,⟨c,gx,gs,gt⟩⟩=true by simp[iT]];go_enter GM,ntmps214
  go_wp2
  exact vbe (v:=.tuple #[jZ ⟨b,a,ls,lt⟩,.T]) Fb U ⟨U,((vaa _ w).alloc IB _).alloc Ab _⟩
 by_cases i:k=4
 .subst i;rw[show cn 4 ⟨held,sum,⟨b,a,ls,lt⟩,⟨c,gx,gs,gt⟩⟩=⟨c,gx,gs,gt⟩ by simp[cn,f],show iT 4 ⟨held,sum,⟨b,a,ls,lt⟩,⟨c,gx,gs,gt⟩⟩=true by simp[iT]];go_enter GM,ntmps214
  go_wp2
  exact vbe (v:=.tuple #[jZ ⟨c,gx,gs,gt⟩,.T]) Fb U ⟨U,((vaa _ w).alloc IB _).alloc Ab _⟩
 rw[show cn k ⟨held,sum,⟨b,a,ls,lt⟩,⟨c,gx,gs,gt⟩⟩=⟨false,rH sum,ls,lW⟩ by simp[cn,g,f,j,i],show iT k ⟨held,sum,⟨b,a,ls,lt⟩,⟨c,gx,gs,gt⟩⟩=decide (jf sum) by simp[iT,g,f,j,i]];have b0:=(ag.new w #[.I held,.I (sum / 18446744073709551616),.int .u64 (sum % 18446744073709551616),.bool b,.I a,.I ls,.string lt,.bool c,.I gx,.I gs,.string gt] 193).alloc (.cells #[.F,.I 0,.I 0,.E] 84);have b1:=ag.new (w.alloc (.cells #[.I held,.I (sum / 18446744073709551616),.int .u64 (sum % 18446744073709551616),.bool b,.I a,.I ls,.string lt,.bool c,.I gx,.I gs,.string gt] 193)) #[.F,.I 0,.I 0,.E] 84;rw[show(w.alloc (.cells #[.I held,.I (sum / 18446744073709551616),.int .u64 (sum % 18446744073709551616),.bool b,.I a,.I ls,.string lt,.bool c,.I gx,.I gs,.string gt] 193)).heap.size=w.heap.size+1 by simp]at b1;have l:Hid _:=((vaa w.heap.size w).alloc IB (.cells #[.I held,.I (sum / 18446744073709551616),.int .u64 (sum % 18446744073709551616),.bool b,.I a,.I ls,.string lt,.bool c,.I gx,.I gs,.string gt] 193)).alloc Ab (.cells #[.F,.I 0,.I 0,.E] 84);go_enter GM,ntmps214
 go_wp2_with (go_at_call 215;refine(atR _ ht _).mono ?_;rintro e w' ⟨rfl,h⟩;obtain⟨d1,p,o⟩:=(b0.call h).all;obtain⟨g1,n,m⟩:=(b1.call h).all)
 have d:w.heap.size<=w.heap.size+1:=vcl _;exact vbe (v:=.tuple #[jZ ⟨false,rH sum,ls,lW⟩,.bool (decide (jf sum))]) (by simp[results,results214,go_sem,g1,m,lW]) U ⟨U,((((l.out.trans (h.mono l.out.size)).setCell d _).setCell d _).setCell d _).setCell d _⟩
