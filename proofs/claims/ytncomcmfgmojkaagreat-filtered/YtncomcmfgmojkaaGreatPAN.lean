import Derived.Test.YtncomcmfgmojkaaGreatPAD
import Derived.Test.YtncomcmfgmojkaaGreatPAI
import Derived.Test.YtncomcmfgmojkaaGreatPAJ
set_option linter.all false
set_option maxRecDepth 100000
set_option maxHeartbeats 16000000
namespace Go.Proofs.YtncomcmfgmojkaaGreat
open Go.Proofs.Tryz
namespace fO
open Conc ConcM av bn ah fi hZ
structure g_ where
 T:Nat
 M:Nat
 D:List Value
def g_.of(b:cx):g_:=⟨b.taken,b.came,b.done⟩
variable{d:g_}{Z:eY}{v:Value}
section
variable{c:dI}{Q:cg}{Stop:Bool->ah.Lo At->aV->Prop}{m:Bool}{mine:Nat->Prop}{w0:aO}
def Held(c:dI)(mine:Nat->Prop)(w0:aO)(d:g_)(bs:List (Nat×Obj))(w:aO)(γ:ah.aN cx):Prop:=af (ak (az c)) mine w0 bs w/\g_.of γ.am=d
def mo(c:dI)(mine:Nat->Prop)(w0:aO)(d:g_)(l:ah.Lo At)(bs:List (Nat×Obj)):cR (ak (az c)):=⟨l,cd mine bs,Held c mine w0 d bs⟩
def BH(c:dI)(mine:Nat->Prop)(w0:aO)(d:g_)(l:ah.Lo At)(σ:cR (ak (az c))):Prop:=∃bs,σ=mo c mine w0 d l bs
def t_{l:ah.Lo At}(d:l.mx=.own){γ a:ah.aN cx}(b:(ak (az c)).dY l γ a):g_.of a.am=g_.of γ.am:=by
 rcases b with rfl|⟨_,⟨h,_⟩,_⟩
 .rfl
 .rw[d]at h;obtain⟨h1,e,h3⟩:=h Y;grind[g_.of]
theorem Held.on{l:ah.Lo At}(e:l.mx=.own){bs:List (Nat×Obj)}{w w':aO}{γ a:ah.aN cx}(h:Held c mine w0 d bs w γ)(b:(ak (az c)).dY l γ a)(r:ai (ak (az c)) (cd mine bs) w w'):Held c mine w0 d bs w' a:=
 ⟨h.1.on r,(t_ e b).trans h.2⟩
def lR{l:ah.Lo At}(e:l.mx=.own):∀σ,BH c mine w0 d l σ->rV σ:=by rintro _ ⟨bs,rfl⟩ w γ w' f g h b a;exact Held.on e h b (dO.rw a)
def Iz{l:ah.Lo At}:∀σ,BH c mine w0 d l σ->∀w γ,σ.S w γ->σ.S {w with drawn:=w.drawn+1} γ:=by rintro _ ⟨bs,rfl⟩ w γ ⟨h,hd⟩;exact⟨⟨h.rw.trans ⟨λ_ _=>Y,Nat.le_refl _,.refl _,Y,Y⟩,h.cL,h.lt,h.eZ,h.rQ,h.oD,h.tW⟩,hd⟩
variable{b:Frame}{ops:Array Oper}
def FD{C:cR Z->Prop}{o:Oper}{a:Act}(c:Region.wanted o (yielded ops a.tmps)=true)(h:∀w,(execOp a.eval o).run Q w=.ok (.value v) w)(d:∀w,listed Q b.fn a o w=#[]):nj Q b ops C o v a:=
 .inl ⟨c,λσ _ w γ w' e g _ _ _=>⟨h w',by rw[d];exact trivial,AA⟩⟩
def eA{C:cR Z->Prop}{hN:cR Z->Act->Prop}{Stop:Bool->Z.Lo->aV->Prop}{md:Region.Mode}{cu:Oper}{n:Nat}{au:Array Bool}{σ:cR Z}{a:Act}(i:Nat)(v:Value)(h:rb Q Stop m b ops md C hN n (au.setIfInBounds i true) σ (a.put cu.dst v))(k:∀σ,C σ->rV σ:=by exact lR Y)(j:C σ:=by exact⟨_,Y⟩)(hi:ops[i]?=some cu:=by rfl)(hs:Region.noSelect ops=true:=by decide+kernel)(f:Region.free md ops au i=true:=by decide+kernel)(e:(Region.ready md ops au).contains i=true:=by decide+kernel)(d:Region.wanted cu (yielded ops a.tmps)=true:=by rfl)(c:∀w,(execOp a.eval cu).run Q w=.ok (.value v) w:=by intro _;go_simp)(g:∀w,listed Q b.fn a cu w=#[]:=by intro _;simp[listed,go_sem];rfl):rb Q Stop m b ops md C hN (n+1) au σ a:=
 ja k hi hs f e (FD d c g) j h
def IA{C:cR Z->Prop}{o:Oper}{a:Act}(c:Region.wanted o (yielded ops a.tmps)=false):nj Q b ops C o undef a:=.inr ⟨c,Y⟩
def IB{mu:bj}{x:cx}{w:aO}(h:w.heap[c.st]?=some (gT (az c) mu x))(k:Nat):w.cell? ⟨c.st,k+2,none⟩=((az c).cells x)[k]?:=by simp_all[World.cell?,gT]
def ua{l:ah.Lo At}(r:l.mx=.own)(ht:l.tok=true)(p:kp l.am=false){o:Oper}{a:Act}(k:Nat)(f:Region.wanted o (yielded ops a.tmps)=true)(n:∀x,g_.of x=d->((az c).cells x)[k]?=some v)(h:∀w,w.cell? ⟨c.st,k+2,none⟩=some v->(execOp a.eval o).run Q w=.ok (.value v) w/\listed Q b.fn a o w=#[⟨.cell ⟨c.st,k+2,none⟩,false,false⟩]):nj Q b ops (BH c mine w0 d l) o v a:=by
 refine .inl ⟨f,?_⟩;rintro _ ⟨bs,rfl⟩ w γ w' t g hS q i;have hh:=Held.on r hS q (dO.rw i);have s:w'.cell? ⟨c.st,k+2,none⟩=some v:=by rw[IB i.mt.1,n _ hh.2]
 obtain⟨h1,m⟩:=h w' s;refine⟨h1,?_,?_⟩
 .rw[m];exact⟨.inl ⟨Y,.inr (.inr ⟨AA,ht⟩),p⟩,PA⟩
 .rw[m];rintro⟨e,j,f⟩;simp at j;subst j;rcases f with h|h|⟨_,h⟩|⟨_,h⟩|⟨h,_⟩<;>cases h
end
def bh.seen{Q:cg}{Stop:Bool->Z.Lo->aV->Prop}{m:Bool}{l:Z.Lo}{γ:Z.aN}{X:aV}(G:Z.Good)(hs:X.g.status=.running)(h:∀a,Z.dY l γ a->gH Z l a->bh Z Q Stop m l a X):bh Z Q Stop m l γ X:=by
 by_cases hst:Stop m l X
 .exact .stop hst
 .refine bh.mk hs λw' a c b=>?_;rcases(h a c b.sees).next with h1|⟨_,h1⟩
  .grind
  .exact h1 w' a (G.refl _ _) b
section
variable{P:cg}{main:Bool}{b:Frame}{a:Act}{cs:List Frame}{w:aO}
def YZ{fn:Func}{todo:List Item}{c:Frame}{es:Array Event}(hn:b.kind=.normal)(hd:a.defers=[])(e:P.funcs[b.fn]?=some fn)(d:(results fn a.tmps).run P w=.ok v w)(f:(results fn a.tmps).events P w #[]=es):
 stepG P main (G {b.at a todo with mode:=.returning} (c::cs)) w=.go (G (c.finish v) cs) w (seen P b.fn es):=by
 simp[G,stepG,unwind,doReturn,Frame.at,hn,hd,e,d,f,GStep.after]
end
variable{g1:Goroutine}
section
variable{c:dI}{Q:cg}{Stop:Bool->ah.Lo At->aV->Prop}{m:Bool}{mine:Nat->Prop}{w0:aO}{l:ah.Lo At}{γ:ah.aN cx}{X:aV}{w':aO}
def alM{loc:Loc}{d:Bool}(h:∀mk,loc≠ .mark mk):¬ ∃e∈(#[⟨loc,false,d⟩]:Array Event),vN (ak (az c)) e:=by
 rintro⟨e,b,f⟩;simp at b;subst b;rcases f with a|a|⟨_,a⟩|⟨_,a⟩|⟨a,_⟩
 .grind
 .grind
 .grind
 .grind
 grind
def Y0(a:kp l.am=false)(ht:l.tok=true){k:Nat}(hs:stepG Q m X.g w'=.go g1 w' #[⟨.cell ⟨c.st,k+2,none⟩,false,false⟩])(hrun:g1.status=.running)(h:bh (ak (az c)) Q Stop m l γ ⟨g1,w',X.mine⟩):Then (Z:=ak (az c)) Q Stop m l γ X w':=by refine .quiet hs ⟨hrun,ra _ _ _,λ_ _ _=>Y,⟨.inl AA,PA⟩,λe=>e.elim (alM A_) Lv⟩ ?_;grind[kX]
def Y1{mu:bj}{x a:cx}{w:aO}(h:w.heap[c.st]?=some (gT (az c) mu x)){k:Nat}(b:((az c).cells x).setIfInBounds k v=(az c).cells a):(w.setCell ⟨c.st,k+2,none⟩ v).heap[c.st]?=some (gT (az c) mu a):=by unfold World.setCell;simp_all[Array.getElem?_modify,gT]
def Y2{x a:cx}{w:aO}(h:(az c).nV x w)(h1:a.aR=x.aR)(d:a.dZ=x.dZ)(h3:a.fW=x.fW)(b:a.done=x.done)(off:Nat)(sp)(v:Value):(az c).nV a (w.setCell ⟨c.st,off,sp⟩ v):=by
 refine⟨?_,λe=>?_⟩
 .rw[ni w _ v (Ne.symm c.eZ.1),h.1];grind[r5]
 .rw[ni w _ v (Ne.symm c.eZ.2.1),h.2 e];grind[FC]
def alN(d:dO (ak (az c)) l γ X w'){p:List (Nat×Value)}{f1:Nat}(hs:stepG Q m X.g w'=.go g1 (w'.setCell ⟨c.st,4,none⟩ v) #[⟨.cell ⟨c.st,4,none⟩,true,false⟩])(hrun:g1.status=.running)(n:v=.int .i64 ((γ.am.taken+1:Nat):Int))(j:l.am=.work .free p)(b:l.mx=.own)(g:l.tok=true)(a0:γ.am.taken<c.N)(o:f1+1<=l.fuel+c.C)(h:bh (ak (az c)) Q Stop m ({l with am:=.work (.has γ.am.taken) p,fuel:=f1}:ah.Lo At) ({γ with am:={γ.am with taken:=γ.am.taken+1},a_:=γ.a_-1}:ah.aN cx) ⟨g1,w'.setCell ⟨c.st,4,none⟩ v,X.mine⟩):Then (Z:=ak (az c)) Q Stop m l γ X w':=by
 have q:c.C*(c.N-(γ.am.taken+1))+c.C=c.C*(c.N-γ.am.taken):=by have:c.N-γ.am.taken=(c.N-(γ.am.taken+1))+1:=As;grind
 refine BI (a1:=.work (.has γ.am.taken) p) (b1:={γ.am with taken:=γ.am.taken+1}) (d1:=l.deaf) d hs hrun ⟨⟨.cell ⟨c.st,4,none⟩,true,false⟩,A_,.inr (.inr (.inr (.inr ⟨Y,c.st,Y,.inl Y⟩)))⟩ (YV w' 4 none _) (oC _ _ _) ⟨Y1 (k:=2) d.mt.1 AA,Y2 d.mt.2 Y Y Y Y _ _ _⟩
  (λaC i hi hg=>hg.take a0 AA) AA (.inl b) (Nat.le_succ _) AA (λe=>e.elim) (λ_=>b)
  (.inl ⟨Y,?_,Y,.inl ⟨Y,AA,?_⟩,PA⟩) (.inr λa f=>f) (λe=>e.elim) h
 .grind[kp]
 grind[kp]
def alO{mu:bj}{x:cx}{w:aO}(h1:w.heap[c.st]?=some (gT (az c) mu x))(a:(az c).nV x w)(p:Nat)(v:Value):
 (w.setCell ⟨c.bF,p,none⟩ v).heap[c.st]?=some (gT (az c) mu {x with done:=x.done.set p v})/\(az c).nV {x with done:=x.done.set p v} (w.setCell ⟨c.bF,p,none⟩ v):=by
 refine⟨?_,?_,λe=>?_⟩
 .rw[ni w _ _ c.eZ.2.1,h1];rfl
 .rw[ni w _ _ c.eZ.2.2,a.1];rfl
 simp_all[World.setCell,Array.getElem?_modify,FC]
def alP(d:dO (ak (az c)) l γ X w'){q:List (Nat×Value)}{p f1:Nat}{u:Value}(hs:stepG Q m X.g w'=.go g1 (w'.setCell ⟨c.st,5,none⟩ u) #[⟨.cell ⟨c.st,5,none⟩,true,false⟩])(hrun:g1.status=.running)(n:u=.int .i64 ((γ.am.came+c.rows p:Nat):Int))(j:l.am=.work (.half p v) q)(b:l.mx=.own)(g:l.tok=true)(o:f1<l.fuel)(h:bh (ak (az c)) Q Stop m ({l with am:=.work .free ((p,v)::q),fuel:=f1}:ah.Lo At) ({γ with am:={γ.am with came:=γ.am.came+c.rows p},a_:=γ.a_-1}:ah.aN cx) ⟨g1,w'.setCell ⟨c.st,5,none⟩ u,X.mine⟩):Then (Z:=ak (az c)) Q Stop m l γ X w':=by
 refine BI (a1:=.work .free ((p,v)::q)) (b1:={γ.am with came:=γ.am.came+c.rows p}) (d1:=l.deaf) d hs hrun ⟨⟨.cell ⟨c.st,5,none⟩,true,false⟩,A_,.inr (.inr (.inr (.inr ⟨Y,c.st,Y,.inl Y⟩)))⟩ (YV w' 5 none _) (oC _ _ _) ⟨Y1 (k:=3) d.mt.1 AA,Y2 d.mt.2 Y Y Y Y _ _ _⟩
  (λaC i hi hg=>hg.count AA) AA (.inl b) (Nat.le_refl _) AA (λe=>e.elim) (λ_=>b)
  (.inl ⟨Y,?_,Y,.inl ⟨Y,AA,?_⟩,PA⟩) (.inr λa f=>f) (λe=>e.elim) h
 .grind[kp]
 grind[kp]
end
end fO
namespace c5
open Conc av
def BK(fn:Func):Bool:=fn.results.all λ| .tmp _=>true| _=>false
def ub(fn:Func)(t:Array Value):List Value:=fn.results.toList.map λ| .tmp x=>t.getD x undef| .cell _ _=>undef
def vS(fn:Func)(t:Array Value):Value:=if h:(ub fn t).toArray.size=1 then(ub fn t).toArray[0]else .tuple (ub fn t).toArray
theorem Y3{t:Array Value}:∀(l:List ResultVar),(∀r∈l,∃x,r=.tmp x)->(l.mapM λ| .tmp x=>(pure (t.getD x undef):Sem Value)| .cell a ty=>do Go.loadVar ty (<-Go.asAddr (t.getD a undef)))=pure (l.map λ| .tmp x=>t.getD x undef| .cell _ _=>undef)
 | [],_=>rfl
 |r::l,h=>by obtain⟨x,rfl⟩:=h r A_;rw[List.mapM_cons,Y3 l AA];simp
theorem IC{P:cg}{fn:Func}(h:BK fn=true)(t:Array Value)(w:aO):(results fn t).run P w=.ok (vS fn t) w/\(results fn t).events P w #[]=#[]:=by
 have a:∀r∈fn.results.toList,∃x,r=.tmp x:=by intro r b;unfold BK at h;grind[Array.all_eq_true_iff_forall_mem]
 have e:results fn t=pure (vS fn t):=by
  unfold results;rw[Array.mapM_eq_mapM_toList];erw[Y3 (t:=t) _ a]
  rfl
 simp_all
def alR{ρ:Ren}(fn:Func){t b:Array Value}(h:aS ρ t b):ay ρ (vS fn t) (vS fn b):=by
 have f:dy (ay ρ) (ub fn t) (ub fn b):=by unfold ub;induction fn.results.toList with|nil=>exact .nil|cons r l e=>refine .cons ?_ e;cases r with|tmp x=>exact h.getD (.undef ρ) x|cell a ty=>exact .undef ρ
 have c:=aS.KO f;unfold vS;by_cases h1:(ub fn t).toArray.size=1
 .have d:(ub fn b).toArray.size=1:=c.size▸h1;rw[dif_pos h1,dif_pos d];exact c.get 0 _ _ AA AA
 .have d:¬(ub fn b).toArray.size=1:=c.size▸h1;rw[dif_neg h1,dif_neg d];exact .PI c
theorem iZ.bind{Q:cg}{main:Bool}{K:Nat->Prop}{post a:aV->Prop}{X:aV}(h:iZ Q main K post X)(c:∀Y,post Y->iZ Q main K a Y):iZ Q main K a X:=by induction h with|done h=>grind|step ok _ b=>exact .step ok AA
def iZ.more{Q:cg}{main:Bool}{K K':Nat->Prop}(hK:∀b,K b->K' b){post:aV->Prop}{X:aV}(h:iZ Q main K post X):iZ Q main K' post X:=by have hrel:∀{X:aV}{w':aO},jB K' X w'->jB K X w':=λa=>⟨λb f=>a.heap b AA,a.size,a.env⟩;induction h with|done h=>exact .done h|step ok _ d=>refine .step (λw' a=>?_) AA;obtain⟨g1,w1,es,e,hg⟩:=ok w' (hrel a);refine⟨g1,w1,es,e,hg.run,hg.nI,hg.kept,hg.size,hg.os,hg.output,hg.tape,hg.drawn,λev c=>?_⟩;have:=hg.evs ev c;grind[wU]
structure alS(C:cO)(D M:Nat->Prop)(n0:Nat)(R:Value->aO->Prop)(c:Frame)(cs:List Frame)(Y:aV)(ρ:Ren)(w1:aO)(v v':Value):Prop where
 post:R v w1
 val:ay ρ v v'
 g:Y.g=aZ (c.finish v') cs
 world:∃S,ew C S ρ w1 Y.w
 le:Ren.le (e6 D M) ρ
 mine:∀b,ρ.mine b->Y.mine b
 dom:∀a b,ρ.rel a b->(D b/\¬M b)\/Y.mine b
 old:∀a b,ρ.rel a b->(e6 D M).rel a b\/n0<=b
def RZ{P:cg}{upd:Bool}(F:(ed P upd).Good){f:FuncId}{fn:Func}{I:Code}(j:P.funcs[f]?=some fn)(hk:hX P upd fn=true)(C:fn.body=some I)(q:BK fn=true){D M:Nat->Prop}{w:aO}(J:ik (ed P upd) D M w)(hg:∀g,g<=P.globals.size->D g)(A:upd=true->∀b,D b->M b){args:Array Value}(E:aS (e6 D M) args args){R:Value->aO->Prop}{w0:aO}(Q:gA (ed P upd) D M w w0)(x:∀T,Calls (ae P upd) f args {w0 with tape:=T} (λe w=>∃v,e=.returned v/\R v w))(main:Bool)(c:Frame)(cs:List Frame):
 iZ P main (λb=>D b/\¬M b) (λY=>∃ρ w1 v t,alS (ed P upd) D M w.heap.size R c cs Y ρ w1 v t) ⟨aZ (Frame.enter P f args .normal) (c::cs),w,M⟩:=by
 refine iZ.bind (aih F j hk C J hg A E (R:=λe w=>∃v,e=.returned v/\R v w) AA Q x main (c::cs)) ?_;rintro Y ⟨ρ,fr,w1,T,e,⟨v,rfl,L⟩,o,m,ht⟩;obtain⟨d,V,l,i,k⟩:=ht.frames;cases k;obtain⟨B,hd,u,N,n,S⟩:=m;have s:(ae P upd).funcs[f]?=some fn:=a6 j hk;rw[o,s]at n;cases n;have z:v=vS fn fr.tmps:=by grind[IC]
 have y:d.mode=.returning:=by have:=i.mode;rw[B]at this;generalize d.mode=md at this⊢;cases this;rfl
 have H:d.defers=[]:=by have:=i.defers;rw[hd]at this;generalize d.defers=ds at this⊢;cases this;rfl
 have K:d.kind=.normal:=i.kind.symm.trans u;have O:d.fn=f:=i.fn.symm.trans o;have hstep:∀w',stepG P main Y.g w'=.go (aZ (c.finish (vS fn d.tmps)) cs) w' #[]:=by intro w';rw[l];simp[aZ,stepG,unwind,doReturn,y,H,K,O,j,(IC q d.tmps w').1,(IC q d.tmps w').2,GStep.after,seen_none]
 refine .step (λw' p=>⟨_,_,_,hstep w',rfl,rfl,λ_ _ _=>rfl,Nat.le_refl _,rfl,rfl,rfl,Nat.le_refl _,A_⟩) λw' g1 U es p e=>?_;rw[hstep w']at e;cases e;have r:∀b,grown Y.mine w' w' b↔Y.mine b:=λb=>⟨λh=>h.elim id AA,.inl⟩;exact .done ⟨ρ,w1,v,vS fn d.tmps,L,by rw[z];exact alR fn i.tmps,rfl,⟨_,ht.world.rely (bound:=0) p ht.dom AA⟩,ht.le,λb h=>(r b).2 (ht.mine b h),λa b h=>(ht.dom a b h).imp id (r b).2,ht.old⟩
end c5
namespace fO
open Conc ConcM av bn ah fi hZ
variable{t:TypeId}
section
section
variable{Z:eY}{Q:cg}{Stop Stop':Bool->Z.Lo->aV->Prop}
def bh.seq{I:Z.Lo->Z.aN->Prop}(f:∀l γ a,I l γ->Z.dY l γ a->I l a)(i:∀l γ l1 bx,I l γ->gH Z l γ->Bn Z l γ l1 bx->I l1 bx)(u:∀m l X,Stop' m l X->¬Z.Left l)(k:∀l γ X,Stop' false l X->I l γ->bh Z Q Stop false l γ X){m:Bool}{l:Z.Lo}{γ:Z.aN}{X:aV}(h:bh Z Q Stop' m l γ X):m=false->I l γ->bh Z Q Stop false l γ X:=by
 induction h with
 |stop h=>grind
 |@step m l γ X hs ch ok hq s r t o n w v=>
  rintro rfl hi;refine bh.mk hs λw' a c b=>?_;have d:=f _ _ _ hi c;rcases ok w' a c b with⟨g1,w1,es,e,q⟩|⟨g1,w1,es,e,q,p⟩|⟨e,g,q,j⟩|⟨em,_⟩
  .exact .quiet e q (o w' a g1 w1 es c b e q.run q.low Y d)
  .exact .turn e q AA (n w' a g1 w1 es c b e q.LP Y (i _ _ _ _ d b.sees q.zx))
  .exact .wait e g q j
  grind
end
def zK(w:aO){b k:Nat}(v:Array Value)(h:k≠b):(w.setRow b v).heap[k]?=w.heap[k]?:=by simp[World.setRow,Array.getElem?_modify,Ne.symm h]
def setRow_size(w:aO)(b:Nat)(v:Array Value):(w.setRow b v).heap.size=w.heap.size:=by simp_all
section
variable{Z:eY}{Q:cg}{Stop:Bool->Z.Lo->aV->Prop}{m:Bool}{l:Z.Lo}{γ:Z.aN}{mine:Nat->Prop}{w0 w:aO}
def af.row{pre post:List (Nat×Obj)}{b:Nat}{be new:Array Value}(hk:af Z mine w0 (pre++(b,.cells be t)::post) w):af Z mine w0 (pre++(b,.cells new t)::post) (w.setRow b new):=by
 have f:b∈(pre++(b,Obj.cells be t)::post).map (·.1):=A_;have g:w.heap[b]?=some (.cells be t):=hk.cL (b,.cells be t) A_;refine hk.write f (bs':=pre++(b,.cells new t)::post) A_ (λx e=>?_) (λk a=>zK w new a) (setRow_size _ _ _) Y Y Y;have d:=hk.oD;simp only[List.map_append,List.map_cons,List.nodup_append,List.nodup_cons]at d;rcases List.mem_append.1 e with c|c
 .have a:x.1≠b:=AA;rw[zK w new a];exact hk.cL x AA
 .rcases List.mem_cons.1 c with rfl|c
  .grind[setRow_heap]
  .have a:x.1≠b:=AA;rw[zK w new a];exact hk.cL x AA
def BL(i:∀l g g1,¬Z.ox l g g1)(j:Z.past l=false){pre post:List (Nat×Obj)}{b:Nat}{be new:Array Value}{g g1:Goroutine}{es:Array Event}(hk:af Z mine w0 (pre++(b,.cells be t)::post) w)(hs:stepG Q m g w=.go g1 (w.setRow b new) es)(hrun:g1.status=.running)(c:∀e∈es,∃off,e.loc=.cell ⟨b,off,none⟩/\e.sync=false){f:aO}(h:af Z mine w0 (pre++(b,.cells new t)::post) (w.setRow b new)->bh Z Q Stop m l γ ⟨g1,w.setRow b new,cd mine (pre++(b,.cells new t)::post)⟩):Then (Z:=Z) Q Stop m l γ ⟨g,f,cd mine (pre++(b,.cells be t)::post)⟩ w:=by
 have d:b∈(pre++(b,Obj.cells be t)::post).map (·.1):=A_;refine alo i j hk hs hrun d (bs':=pre++(b,.cells new t)::post) A_ (hk.row (new:=new)).cL (λk a=>zK w new a) (setRow_size _ _ _) Y Y Y (λe n=>?_) h;obtain⟨off,p,o⟩:=c e n;unfold FA;rw[p];exact⟨o,.inr (.inr d)⟩
def R1(c:∀l g g1,¬Z.ox l g g1){M:Nat->Prop}{g g1:Goroutine}{es:Array Event}(hs:stepG Q m g w=.go g1 w es)(hrun:g1.status=.running)(a:es=#[]){b:aO}(h:bh Z Q Stop m l γ ⟨g1,w,M⟩):Then (Z:=Z) Q Stop m l γ ⟨g,b,M⟩ w:=by subst a;have hg:grown M w w=M:=kX Y;refine .quiet hs ⟨hrun,ra _ _ _,λ_ _ _=>Y,PA,λe=>e.elim AA (c _ _ _)⟩ ?_;grind
end
section
variable{c:dI}
def FE(c:dI)(l:ah.Lo At)(γ:ah.aN cx):Prop:=¬zH l.am/\c.N<=γ.am.taken
def ud{l:ah.Lo At}{γ a:ah.aN cx}(b:(ak (az c)).dY l γ a):γ.am.taken<=a.am.taken:=by grind
def Mh(l:ah.Lo At)(γ a:ah.aN cx)(h:FE c l γ)(b:(ak (az c)).dY l γ a):FE c l a:=⟨h.1,Nat.le_trans h.2 (ud b)⟩
def alV(l:ah.Lo At)(γ:ah.aN cx)(l1:ah.Lo At)(bx:ah.aN cx)(h:FE c l γ)(hs:gH (ak (az c)) l γ)(ht:Bn (ak (az c)) l γ l1 bx):FE c l1 bx:=by
 obtain⟨ls,i,hi,hg⟩:∃(ls:List (ah.Lo At))(i:Nat),ls[i]?=some l/\rT (az c) γ ls:=hs;obtain⟨s,h0,_⟩:=hg.oB.main;rw[List.getElem?_map]at h0;obtain⟨l0,g,k⟩:=Option.map_eq_some_iff.1 h0;have a:0≠i:=by rintro rfl;rw[hi]at g;cases g;exact h.1 (by rw[k];trivial)
 obtain⟨_,m⟩:=ht;obtain⟨n,h3⟩:=m ls i hi hg;have b:rT (az c) bx (ls.set i l1):=n;refine⟨λe=>?_,Nat.le_trans h.2 AA⟩;have j:i<ls.length:=(List.getElem?_eq_some_iff.1 hi).1;have f:((ls.set i l1).map (·.am))[i]?=some l1.am:=AA;cases d:l1.am with|main s'=>rw[d]at f;exact a (b.oB.only i s' f).symm| _=>rw[d]at e;exact e
end
end
variable{a:Act}
section
section
variable{c:dI}{Q:cg}{Stop:Bool->ah.Lo At->aV->Prop}{m:Bool}{mine:Nat->Prop}{w0:aO}{b:Frame}{ops:Array Oper}
def xv{Z:eY}{Stop:Bool->Z.Lo->aV->Prop}{σ:cR Z}{K:cR Z->Act->Prop}{i:Nat}{o:Oper}(hi:ops[i]?=some o)(c:Region.wanted o (yielded ops a.tmps)=true)(h:Bz Q b o σ a K):nW Q Stop m b ops i σ a K:=by simp_all[nW]
def zL{Z:eY}{Stop:Bool->Z.Lo->aV->Prop}{σ:cR Z}{K:cR Z->Act->Prop}{i:Nat}{o:Oper}(hi:ops[i]?=some o)(c:Region.wanted o (yielded ops a.tmps)=true)(h:RI Q Stop m b o σ a K):nW Q Stop m b ops i σ a K:=by simp_all[nW]
def r6{Z:eY}{Stop:Bool->Z.Lo->aV->Prop}{md:Region.Mode}{C:cR Z->Prop}{hN:cR Z->Act->Prop}{i n:Nat}{au:Array Bool}{σ:cR Z}(d:Region.ready md ops au=[i])(h:nW Q Stop m b ops i σ a (λc a1=>C c/\rb Q Stop m b ops md C hN n (au.setIfInBounds i true) c a1)):rb Q Stop m b ops md C hN (n+1) au σ a:=
 RP d A_ AA
def af.shared{Z:eY}{bs:List (Nat×Obj)}{w:aO}(h:af Z mine w0 bs w){k off:Nat}{sp}(hk:Z.gG k)(v:Value):af Z mine w0 bs (w.setCell ⟨k,off,sp⟩ v):=
 h.on ⟨λb a=>ni w _ v λe=>h.eZ b a (e▸hk),Nat.le_of_eq (oC _ _ _).symm,.refl _,Y,Y⟩
def alX{d:g_}{l:ah.Lo At}(j:l.mx=.own){bs:List (Nat×Obj)}{o:Oper}{ob:Obj}{K:cR (ak (az c))->Act->Prop}(h:∀w,(execOp a.eval o).run Q w=.ok (.value (.pointer (some ⟨w.heap.size,0,none⟩))) (w.alloc ob)/\listed Q b.fn a o w=#[])(k:∀n,K (mo c mine w0 d l ((n,ob)::bs)) (a.put o.dst (.pointer (some ⟨n,0,none⟩)))):Bz Q b o (mo c mine w0 d l bs) a K:=by
 intro w γ w' p g hS i f;have hh:=Held.on j hS i (dO.rw f);obtain⟨h1,m⟩:=h w';refine⟨_,_,mo c mine w0 d l ((w'.heap.size,ob)::bs),.inl h1,⟨?_,?_,.inl ⟨Y,⟨hh.1.alloc (dg (bR c)).nh ob,hh.2⟩,λb e _=>BF e,?_,?_⟩⟩,k _⟩
 .show cd mine ((w'.heap.size,ob)::bs)=grown (cd mine bs) w' (w'.alloc ob);rw[RS];exact cd.cons.symm
 .exact⟨λb e _ _=>BF e,Br,.refl _,Y,Y⟩
 .rw[m];exact trivial
 grind
def alY{d:g_}{l:ah.Lo At}(v:l.mx=.own)(s:kp l.am=false){pre post:List (Nat×Obj)}{b0:Nat}{be new:Array Value}{o:Oper}{K:cR (ak (az c))->Act->Prop}(h:∀w,w.heap[b0]?=some (.cells be t)->(execOp a.eval o).run Q w=.ok .skip (w.setRow b0 new)/\∀e∈listed Q b.fn a o w,∃off,e.loc=.cell ⟨b0,off,none⟩/\e.sync=false)(k:K (mo c mine w0 d l (pre++(b0,.cells new t)::post)) (a.put o.dst undef)):Bz Q b o (mo c mine w0 d l (pre++(b0,.cells be t)::post)) a K:=by
 intro w γ w' y g hS u r;have hh:=Held.on v hS u (dO.rw r);have i:cd mine (pre++(b0,Obj.cells be t)::post) b0:=.inr A_;have z:cd mine (pre++(b0,Obj.cells new t)::post)=cd mine (pre++(b0,Obj.cells be t)::post):=by grind[cd]
 obtain⟨h1,p⟩:=h w' (hh.1.cL (b0,.cells be t) A_);have hg:grown (cd mine (pre++(b0,Obj.cells be t)::post)) w' (w'.setRow b0 new)=cd mine (pre++(b0,Obj.cells be t)::post):=kX (setRow_size _ _ _);refine⟨_,_,mo c mine w0 d l (pre++(b0,.cells new t)::post),AA,⟨?_,?_,.inl ⟨Y,⟨hh.1.row,hh.2⟩,λb x j=>zK _ _ ?_,?_,?_⟩⟩,k⟩
 .show cd mine (pre++(b0,.cells new t)::post)=grown (cd mine (pre++(b0,Obj.cells be t)::post)) w' (w'.setRow b0 new);grind
 .exact⟨λk _ hk _=>zK _ _ λe=>hk (e▸i),Nat.le_of_eq (setRow_size _ _ _).symm,.refl _,Y,Y⟩
 .rintro rfl;exact hh.1.eZ b (.inr i) j
 .refine zz _ _ λe n d=>?_;obtain⟨off,m,q⟩:=p e AA;unfold sZ;rw[m];refine .inl ⟨q,.inr (.inl ?_),s⟩;show grown (cd mine (pre++(b0,Obj.cells be t)::post)) w' (w'.setRow b0 new) b0;simp_all
 .rintro⟨e,n,f⟩;obtain⟨off,m,q⟩:=p e n;rcases f with f|f|⟨_,f⟩|⟨_,f⟩|⟨_,k,hk,j⟩
  .grind
  .grind
  .grind
  .grind
  .rw[m]at hk;cases hk;exact hh.1.eZ b0 (.inr i) j
end
end
variable{v:Value}
section
section
variable{c:dI}{Q:cg}{Stop:Bool->ah.Lo At->aV->Prop}{m:Bool}{mine:Nat->Prop}{w0:aO}{b:Frame}{ops:Array Oper}
def ID(c:dI)(mine:Nat->Prop)(w0:aO)(x:Nat×Obj)(σ:cR (ak (az c))):Prop:=∃d l bs,l.mx=.own/\l.tok=true/\kp l.am=false/\x∈bs/\σ=mo c mine w0 d l bs
def xw{x:Nat×Obj}:∀σ,ID c mine w0 x σ->rV σ:=by rintro _ ⟨d,l,bs,a,_,_,_,rfl⟩;exact lR (d:=d) a _ ⟨bs,Y⟩
def al0{x:Nat×Obj}:∀σ,ID c mine w0 x σ->∀w γ,σ.S w γ->σ.S {w with drawn:=w.drawn+1} γ:=by rintro _ ⟨d,l,bs,a,_,_,_,rfl⟩;exact Iz (d:=d) (l:=l) _ ⟨bs,Y⟩
def al1{x:Nat×Obj}{o:Oper}(k:Nat)(e:Region.wanted o (yielded ops a.tmps)=true)(j:∀y,((az c).cells y)[k]?=some v)(h:∀w,w.cell? ⟨c.st,k+2,none⟩=some v->(execOp a.eval o).run Q w=.ok (.value v) w/\listed Q b.fn a o w=#[⟨.cell ⟨c.st,k+2,none⟩,false,false⟩]):nj Q b ops (ID c mine w0 x) o v a:=by
 refine .inl ⟨e,?_⟩;rintro _ ⟨d,l,bs,g,ht,f,i,rfl⟩;rcases ua (c:=c) (Q:=Q) (mine:=mine) (w0:=w0) (b:=b) (ops:=ops) (d:=d) g ht f k e AA h with⟨_,h1⟩|⟨h1,_⟩
 .exact h1 _ ⟨bs,Y⟩
 grind
def al2{x:Nat×Obj}{o:Oper}(f:Region.wanted o (yielded ops a.tmps)=true)(h:∀w,w.heap[x.1]?=some x.2->(execOp a.eval o).run Q w=.ok (.value v) w/\∀e∈listed Q b.fn a o w,∃off,e=⟨.cell ⟨x.1,off,none⟩,false,false⟩):nj Q b ops (ID c mine w0 x) o v a:=by
 refine .inl ⟨f,?_⟩;rintro _ ⟨d,l,bs,q,ht,n,k,rfl⟩ w γ w' r g hS p m;have hh:=Held.on q hS p (dO.rw m);obtain⟨h1,j⟩:=h w' (hh.1.cL x k);refine⟨h1,zz _ _ λe i d=>?_,?_⟩
 .obtain⟨off,rfl⟩:=j e AA;exact .inl ⟨Y,.inr (.inl (.inr AA)),n⟩
 .rintro⟨e,i,f⟩;obtain⟨off,rfl⟩:=j e i;rcases f with f|f|⟨_,f⟩|⟨_,f⟩|⟨f,_⟩<;>cases f
def Y5{l:ah.Lo At}{γ:ah.aN cx}(h:gH (ak (az c)) l γ){p:Nat}{q:List (Nat×Value)}(d:l.am=.work (.has p) q):p<c.N:=by obtain⟨xs,dM,a,b⟩:=t9 h;rw[d]at a;have h1:=b.own p;have e:=po (dW p) xs dM _ a;have h3:=b.aQ;grind[dW,hand]
def al3{l:ah.Lo At}{γ:ah.aN cx}(h:gH (ak (az c)) l γ){p:Nat}{q:List (Nat×Value)}(b:l.am=.work (.half p v) q):γ.am.came+c.rows p<=jK c.rows c.N:=by obtain⟨xs,dM,a,d⟩:=t9 h;rw[b]at a;exact(d.count a).YQ
def al4{d:g_}{l:ah.Lo At}(s:l.mx=.own)(ht:l.tok=true){bs:List (Nat×Obj)}{o:Oper}{K:cR (ak (az c))->Act->Prop}{q:List (Nat×Value)}{p f1:Nat}(m:l.am=.work (.has p) q)(H:f1<l.fuel)(h:∀w D,w.heap[c.bF]?=some (.cells D c.FB)->p<D.size->(execOp a.eval o).run Q w=.ok .skip (w.setCell ⟨c.bF,p,none⟩ v)/\listed Q b.fn a o w=#[⟨.cell ⟨c.bF,p,none⟩,true,false⟩])(k:K (mo c mine w0 ⟨d.T,d.M,d.D.set p v⟩ ({l with am:=.work (.half p v) q,fuel:=f1}:ah.Lo At) bs) (a.put o.dst undef)):Bz Q b o (mo c mine w0 d l bs) a K:=by
 intro w γ w' f g hS r j;have hh:=Held.on s hS r (dO.rw j);have n:w'.heap[c.st]?=some (gT (az c) f.mu f.am)/\(az c).nV f.am w':=j.mt;obtain⟨xs,dM,C,y⟩:=t9 j.sees;have I:=Y5 j.sees m;have B:=n.2.2 trivial;obtain⟨h1,t⟩:=h w' f.am.done.toArray B (by rw[List.size_toArray,y.len];grind);have u:=alO n.1 n.2 p v;refine⟨undef,w'.setCell ⟨c.bF,p,none⟩ v,mo c mine w0 ⟨d.T,d.M,d.D.set p v⟩ ({l with am:=.work (.half p v) q,fuel:=f1}:ah.Lo At) bs,AA,⟨?_,alA w' p none v,.inr ⟨({f with am:={f.am with done:=f.am.done.set p v},a_:=f.a_-1}:ah.aN cx),⟨hh.1.shared AA v,?_⟩,?_,u,?_,?_,?_,?_⟩⟩,k⟩
 .exact(kX (oC _ _ _)).symm
 .have e:=hh.2;subst e;rfl
 .rw[t];exact⟨⟨.cell ⟨c.bF,p,none⟩,true,false⟩,A_,.inr (.inr (.inr (.inr ⟨Y,c.bF,Y,.inr K1⟩)))⟩
 .exact YT (A:=az c) (bR c) j.sees (a1:=.work (.half p v) q) (b1:={f.am with done:=f.am.done.set p v}) (f1:=f1) (d1:=l.deaf) (mO:=l.tok) (λaC i hi hg=>hg.lay (by rw[<-m];exact hi)) (by show f1+c.C*(c.N-f.am.taken)+1<=l.fuel+c.C*(c.N-f.am.taken);omega) (λo a' r F=>⟨λe=>absurd e (by rw[r s];simp),Nat.le_refl _,AA⟩) Lh (λ_=>s)
 .rw[t];refine .inl ⟨Y,?_,Y,.inl ⟨Y,.inr (.inr ⟨.inr Y,ht⟩),?_⟩,PA⟩
  .show kp (.work (.half p v) q)=kp l.am;rw[m];rfl
  .show kp l.am=false;rw[m];rfl
 .exact λE z=>z.imp id (λx=>⟨x.1,x.2⟩)
 .exact λe=>e.elim
end
end
end fO
end Go.Proofs.YtncomcmfgmojkaaGreat
namespace Go.Conc
open Go.Proofs.YtncomcmfgmojkaaGreat
variable{P:cg}{main:Bool}{b:Frame}{a:Act}{k:List Item}{cs:List Frame}{w:aO}
def r7(f:FuncId)(cap:Array Value):Deferred:={target:=.fn (.func f) cap,args:=#[]}
def al6{ops:Array Oper}{i:Nat}{rest:List Nat}{o:Oper}{f:FuncId}{x:Operand}{cap:Array Value}{ats:Array TypeId}(c:ops[i]?=some o)(e:Region.wanted o (yielded ops a.tmps)=true)(hk:b.kind≠ .early)(g:o.op=.defer {callee:=.value x,args:=#[],argTypes:=ats})(h:a.eval x=.func (.func f) #[] cap):
 stepG P main (G (b.at a (.inRegion ops (i::rest)::k)) cs) w=.go (G (b.at (Act.put ⟨a.tmps,r7 f cap::a.defers⟩ o.dst undef) (.inRegion ops rest::k)) cs) w #[]:=by
 have j:(execOp a.eval o).run P w=.ok (.defer (r7 f cap)) w:=by simp_all[execOp,resolve,Deferred.ofValue,r7]
 have l:(execOp a.eval o).events P w #[]=#[]:=by simp_all[execOp,resolve,Deferred.ofValue]
 have d:(b.at ⟨a.tmps,r7 f cap::a.defers⟩ (.inRegion ops (i::rest)::k)).finish undef=b.at (Act.put ⟨a.tmps,r7 f cap::a.defers⟩ o.dst undef) (.inRegion ops rest::k):=by rw[Frame.finish_at,c];rfl
 have m:(b.kind==CallKind.early)=false:=AA;rw[stepG_oper c e,<-d];simp_all[stepG.apply,G,Frame.at,GStep.after,seen_none]
section
variable{todo:List Item}{ds:List Deferred}{f:FuncId}{fn:Func}{cap:Array Value}
def al7{c:Code}(hd:a.defers=r7 f cap::ds)(d:P.funcs[f]?=some fn)(g:(fn.name== "runtime.NumGoroutine")=false)(e:fn.body=some c):
 stepG P main (G {b.at a todo with mode:=.returning} cs) w=
  .go (G ((baseD f).at {tmps:=cap++Array.replicate (fn.ntmps-cap.size) undef,defers:=[]} [.code c]) ({b.at ⟨a.tmps,ds⟩ todo with mode:=.returning}::cs)) w #[]:=by
 have h1:¬fn.name= "runtime.NumGoroutine" :=AA;rw[<-enter_atD cap d e];simp[G,stepG,unwind,callDeferred,Frame.at,hd,r7,invoke,callFunc,d,h1,e,GStep.after,seen_none]
end
def al8{ops:Array Oper}{i:Nat}{rest:List Nat}{o:Oper}{c:Frame}(d:ops[i]?=some o)(f:Region.wanted o (yielded ops a.tmps)=true)(hk:b.kind=.deferred)(j:c.mode=.returning)(h:(execOp a.eval o).run P w=.ok .recover w)(g:listed P b.fn a o w=#[]):
 stepG P main (G (b.at a (.inRegion ops (i::rest)::k)) (c::cs)) w=.go (G (b.at (a.put o.dst .nilIface) (.inRegion ops rest::k)) (c::cs)) w #[]:=by
 have e:(b.at a (.inRegion ops (i::rest)::k)).finish .nilIface=b.at (a.put o.dst .nilIface) (.inRegion ops rest::k):=by rw[Frame.finish_at,d];rfl
 have ht:tryRecover (b.at a (.inRegion ops (i::rest)::k)) (c::cs)=none:=by grind[tryRecover,Frame.at]
 have l:(b.kind==CallKind.early)=false:=AA;rw[stepG_oper d f,<-e,<-g];simp_all[Frame.at,stepG.apply,G,GStep.after,listed]
end Go.Conc
namespace Go.Proofs.YtncomcmfgmojkaaGreat
open Go.Proofs.Tryz
namespace fO
open Conc ConcM av bn ah fi hZ
theorem Y6:∀{n:Nat}{l:List Nat},l.Nodup->(∀p∈l,p<n)->l.length<=n
 |0,l,_,h=>by cases l with|nil=>simp|cons a l=>exact absurd (h a A_) As
 |n+1,l,hn,h=>by
  have h1:(l.filter (· != n)).Nodup:=hn.filter _;have b:=Y6 (n:=n) h1 AA;have h3:l.length<=(l.filter (· != n)).length+l.count n:=by clear h h1 b hn;induction l with|nil=>simp|cons a l c=>grind
  grind
section
variable{c:dI}
def al9{l:ah.Lo At}{γ:ah.aN cx}(h:gH (ak (az c)) l γ){p:Nat}{q:List (Nat×Value)}(d:l.am=.work (.has p) q):q.length<c.N:=by
 obtain⟨xs,dM,b,a⟩:=t9 h;rw[d]at b;have key:∀r,(p::q.map (·.1)).count r<=if r<γ.am.taken then 1 else 0:=λr=>by have h1:=a.own r;grind[po,dW,hand,qp]
 have h1:=Y6 (n:=c.N) (l:=p::q.map (·.1)) AA (λr e=>by
  have:=key r;have f:=List.count_pos_iff.2 e;have h3:=a.aQ;grind)
 grind
end
end fO
namespace iE
open Conc ConcM av bn ah fi hZ fO
variable{a:Act}{f:FuncId}
section
section
variable{Z:eY}{mine M M':Nat->Prop}{w0 w w1:aO}{bs:List (Nat×Obj)}
theorem iF:cd M []=M:=by grind[cd]
def af.rg(h:af Z mine w0 bs w):af Z (cd mine bs) w [] w:=by
 refine⟨.refl _ _ _,A_,λb a=>?_,λb a=>h.eZ b (by simp_all[iF]),A_,A_,λb a hK=>a.elim (λx=>h.tW b x hK) (λx=>h.rQ b x (.inl hK))⟩;rcases a with a|(a|a)|a
 .exact h.lt b (.inl a)
 .exact h.lt b (.inr (.inl a))
 .exact h.RU a
 .exact h.lt b (.inr (.inr a))
structure h5(Z:eY)(M:Nat->Prop)(w:aO)(M':Nat->Prop)(w':aO):Prop where
 sub:∀b,M b->M' b
 rw:ai Z M w w'
 mq:af Z M' w' [] w'
theorem h5.heap(h:h5 Z M w M' w1){b:Nat}{o:Obj}(c:M b)(a:w.heap[b]?=some o):w1.heap[b]?=some o:=(h.rw.heap b (.inr c)).trans a
theorem h5.trans{d:Nat->Prop}{c:aO}(h:h5 Z M w M' w1)(k:h5 Z M' w1 d c):h5 Z M w d c:=
 ⟨λb a=>k.sub b (h.sub b a),h.rw.trans ⟨λb a=>k.rw.heap b (a.imp id (h.sub b)),k.rw.size,k.rw.later,k.rw.output,k.rw.tape⟩,k.mq⟩
def h5.now(h:h5 Z M w M' w1){a:aO}(k:af Z M' w1 [] a):h5 Z M w M' a:=by refine⟨h.sub,h.rw.trans ⟨λb c=>k.rw.heap b (c.imp id (h.sub b)),k.rw.size,k.rw.later,k.rw.output,k.rw.tape⟩,?_⟩;have:=af.rg k;grind[iF]
def h5.start(h:af Z mine w0 bs w)(k:h5 Z (cd mine bs) w M' w1):h5 Z mine w0 M' w1:=
 ⟨λb a=>k.sub b (.inl a),h.rw.trans ⟨λb a=>k.rw.heap b (a.imp id .inl),k.rw.size,k.rw.later,k.rw.output,k.rw.tape⟩,k.mq⟩
end
section
variable{c:dI}
def fo(c:dI)(l:ah.Lo At)(M:Nat->Prop)(w0:aO):cR (ak (az c)):=⟨l,M,λw _=>af (ak (az c)) M w0 [] w⟩
def vU(c:dI)(l:ah.Lo At)(M:Nat->Prop)(w0:aO):cR (ak (az c)):=⟨l,M,λw γ=>af (ak (az c)) M w0 [] w/\c.N<=γ.am.taken⟩
def af.rel{l:ah.Lo At}{γ:ah.aN cx}{M:Nat->Prop}{w0 w w':aO}{g:Goroutine}(h:af (ak (az c)) M w0 [] w)(a:dO (ak (az c)) l γ ⟨g,w,M⟩ w'):af (ak (az c)) M w0 [] w':=
 h.on (by rw[iF];exact dO.rw a)
def Y7(l:ah.Lo At)(M:Nat->Prop)(w0:aO):rV (fo c l M w0):=λ_ _ _ _ _ h _ a=>af.rel h a
def Mi(c:dI)(x y:Nat×Obj)(σ:cR (ak (az c))):Prop:=∃l M w0,kp l.am=false/\(M x.1/\w0.heap[x.1]?=some x.2)/\(M y.1/\w0.heap[y.1]?=some y.2)/\σ=fo c l M w0
def zM{x y:Nat×Obj}:∀σ,Mi c x y σ->rV σ:=by rintro _ ⟨l,M,w0,_,_,_,rfl⟩;exact Y7 _ _ _
def al_{x y:Nat×Obj}:∀σ,Mi c x y σ->∀w γ,σ.S w γ->σ.S {w with drawn:=w.drawn+1} γ:=by rintro _ ⟨l,M,w0,_,_,_,rfl⟩ w γ h;exact⟨h.rw.trans ⟨λ_ _=>Y,Nat.le_refl _,.refl _,Y,Y⟩,h.cL,h.lt,h.eZ,h.rQ,h.oD,h.tW⟩
variable{Q:cg}{Stop:Bool->ah.Lo At->aV->Prop}{m:Bool}{b:Frame}{ops:Array Oper}
def Mj{x y z:Nat×Obj}(r:z=x\/z=y){o:Oper}{v:Value}(f:Region.wanted o (yielded ops a.tmps)=true)(h:∀w,w.heap[z.1]?=some z.2->(execOp a.eval o).run Q w=.ok (.value v) w/\∀e∈listed Q b.fn a o w,∃off,e=⟨.cell ⟨z.1,off,none⟩,false,false⟩):nj Q b ops (Mi c x y) o v a:=by
 refine .inl ⟨f,?_⟩;rintro _ ⟨l,M,w0,n,t,s,rfl⟩ w γ w' q g hS p m;have hh:=Y7 (c:=c) l M w0 w γ w' q g hS p m;have i:M z.1/\w0.heap[z.1]?=some z.2:=AA;obtain⟨h1,k⟩:=h w' ((hh.rw.heap z.1 (.inr i.1)).trans i.2);refine⟨h1,zz _ _ λe j d=>?_,?_⟩
 .obtain⟨off,rfl⟩:=k e AA;exact .inl ⟨Y,.inr (.inl i.1),n⟩
 .rintro⟨e,j,f⟩;obtain⟨off,rfl⟩:=k e j;rcases f with f|f|⟨_,f⟩|⟨_,f⟩|⟨f,_⟩<;>cases f
def zN{Z:eY}{Stop:Bool->Z.Lo->aV->Prop}{σ:cR Z}{K:cR Z->Act->Prop}{o:Oper}{args:Array Value}{V:Value->cR Z->Prop}(h:∀w,(execOp a.eval o).run Q w=.ok (.enter f args) w/\listed Q b.fn a o w=#[])(d:i_ Q Stop m f args σ V)(k:∀u c,V u c->K c (a.put o.dst u)):RI Q Stop m b o σ a K:=
 ⟨f,args,V,λw γ w' e g _ _ _=>⟨(h w').1,by rw[(h w').2];exact trivial,AA⟩,d,k⟩
def rh{o:Oper}{fn:Func}{d:Code}{args:Array Operand}{ats:Array TypeId}(c:o.op=.call {callee:=.value (.func f),args,argTypes:=ats})(h:Q.funcs[f]?=some fn)(e:(fn.name== "runtime.NumGoroutine")=false)(i:fn.body=some d){vs:Array Value}(g:args.map a.eval=vs)(w:aO):(execOp a.eval o).run Q w=.ok (.enter f vs) w/\listed Q b.fn a o w=#[]:=by
 grind[run_call_body,listed,events_call_body,seen_none]
def R3{o:Oper}{r:Operand}{name:String}{args:Array Operand}{ats:Array TypeId}(c:o.op=.call {callee:=.invoke r name,args,argTypes:=ats}){w:aO}{n:Next}{rv:Value}{vs:Array Value}(f:a.eval r=rv)(d:args.map a.eval=vs)(h:(callMethod rv name vs).run Q w=.ok n w/\(callMethod rv name vs).events Q w #[]=#[]):(execOp a.eval o).run Q w=.ok n w/\listed Q b.fn a o w=#[]:=by
 subst d;subst f;obtain⟨h1,g⟩:=h;unfold listed;have e:execOp a.eval o=callMethod (a.eval r) name (args.map a.eval):=by unfold execOp;simp only[c,resolve,invoke];generalize args.map a.eval=u;simp_all[Array.getElem?_append_left]
 grind[seen_none]
def Ml{Z:eY}{Stop:Bool->Z.Lo->aV->Prop}(e:∀l g g1,¬Z.ox l g g1){σ:cR Z}{γ:Z.aN}{w d:aO}{V:Value->cR Z->Prop}{o:Oper}{args:Array Value}{i:Nat}{rest:List Nat}{k:List Item}{cs:List Frame}(n:ops[i]?=some o)(j:Region.wanted o (yielded ops a.tmps)=true)(hk:b.kind≠ .early)(h:(execOp a.eval o).run Q w=.ok (.enter f args) w/\listed Q b.fn a o w=#[])(p:i_ Q Stop m f args σ V)(hS:σ.S w γ)(hK:∀u c,V u c->∀w γ,c.S w γ->bh Z Q Stop m c.l γ ⟨G (b.at (a.put o.dst u) (.inRegion ops rest::k)) cs,w,c.mine⟩):Then (Z:=Z) Q Stop m σ.l γ ⟨G (b.at a (.inRegion ops (i::rest)::k)) cs,d,σ.mine⟩ w:=by
 refine R1 e (stepG_enter n j hk h.1) Y h.2 (p b a ops i rest k cs (λu c s q r t=>?_) w γ hS);grind
def pq(c:dI)(cf w:aO):Prop:=∀b,c.K b->w.heap[b]?=cf.heap[b]?
def pq.more{cf w w':aO}{M M':Nat->Prop}(h:pq c cf w)(d:h5 (ak (az c)) M w M' w'):pq c cf w':=λb a=>(d.rw.heap b (.inl a)).trans (h b a)
def pq.mq{cf w0 w:aO}{M:Nat->Prop}{bs:List (Nat×Obj)}(h:pq c cf w0)(k:af (ak (az c)) M w0 bs w):pq c cf w:=λb a=>(k.rw.heap b (.inl a)).trans (h b a)
structure ug(c:dI)(cf:aO)(Q:cg)(Stop:Bool->ah.Lo At->aV->Prop)(BN:FuncId)(gq:Value)(kq:FuncId)(h6:Value)(fr aU:Nat->Nat)(mP cY:Nat->Value->(Nat->Prop)->aO->Prop):Prop where
 inv:∀(args:Array Value)(w:aO),(callMethod gq "Piece" args).run Q w=.ok (.enter kq (#[h6]++args)) w/\(callMethod gq "Piece" args).events Q w #[]=#[]
 ama:∀T l M w0,T<c.N->kp l.am=false->af (ak (az c)) M w0 [] w0->pq c cf w0->i_ Q Stop false kq #[h6,.int .i64 (fr T:Int),.int .i64 (aU T:Int)] (fo c l M w0) (λu bY=>∃M' w1,h5 (ak (az c)) M w0 M' w1/\mP T u M' w1/\bY=fo c l M' w1)
 amb:∀T l M w0 u,T<c.N->kp l.am=false->af (ak (az c)) M w0 [] w0->pq c cf w0->mP T u M w0->i_ Q Stop false BN #[u] (fo c l M w0) (λv bY=>∃M' w1,h5 (ak (az c)) M w0 M' w1/\cY T v M' w1/\bY=fo c l M' w1)
 slice:∀T v M w,cY T v M w->∃s aT,v=.slice s (c.rows T) aT
 mono:∀T v M w M' w',cY T v M w->(∀b,c.K b\/M b->w'.heap[b]?=w.heap[b]?)->(∀b,M b->M' b)->cY T v M' w'
def oG(cY:Nat->Value->(Nat->Prop)->aO->Prop)(q:List (Nat×Value))(M:Nat->Prop)(w:aO):Prop:=∀x∈q,cY x.1 x.2 M w
def oG.more{e kq:FuncId}{gq d:Value}{fr aU:Nat->Nat}{mP cY:Nat->Value->(Nat->Prop)->aO->Prop}{cf:aO}(J:ug c cf Q Stop e gq kq d fr aU mP cY){q:List (Nat×Value)}{M M':Nat->Prop}{w w':aO}(h:oG cY q M w)(a:h5 (ak (az c)) M w M' w'):oG cY q M' w':=
 λx b=>J.mono _ _ _ _ _ _ (h x b) a.rw.heap a.sub
end
end
end iE
namespace c5
open Conc ConcM av bn ah fi hZ fO iE
section
section
variable{Z:eY}{Q:cg}{Stop:Bool->Z.Lo->aV->Prop}{m:Bool}{l:Z.Lo}
def Y8(G:Z.Good)(v:Z.past l=false)(P:∀g g1,¬Z.ox l g g1){post:aV->Prop}{X:aV}{K':Nat->Prop}(h:iZ Q m K' post X):
 ∀(γ:Z.aN)(fr:Nat->Prop),(∀b,K' b->Z.K b\/fr b)->X.g.status=.running->(∀b,X.mine b\/fr b->¬Z.gG b)->(∀b,fr b->¬X.mine b/\¬Z.K b/\b<X.w.heap.size)->(∀b,Z.gG b->b<X.w.heap.size)->(∀b,Z.K b->b<X.w.heap.size/\¬X.mine b)->
  (∀(Y:aV)(o:Z.aN),post Y->Z.dY l γ o->Y.g.status=.running->(∀b,Y.mine b\/fr b->¬Z.gG b)->(∀b,fr b->¬Y.mine b/\b<Y.w.heap.size/\Y.w.heap[b]?=X.w.heap[b]?)->X.w.heap.size<=Y.w.heap.size->
   (∀b,Z.K b->¬Y.mine b/\Y.w.heap[b]?=X.w.heap[b]?)->(∀b,X.mine b->Y.mine b)->(∀b,Y.mine b->X.mine b\/(X.w.heap.size<=b/\b<Y.w.heap.size))->OsLater X.w.os Y.w.os->Y.w.output=X.w.output->Y.w.tape=X.w.tape->bh Z Q Stop m l o (qm Y fr))->bh Z Q Stop m l γ (qm X fr):=by
 induction h with
 |done h=>intro γ fr _ hs w q _ u k;exact k _ γ h (G.refl _ _) hs w AA J1 AA (λ_ h=>h) AA (.refl _) rfl rfl
 |@step X ok S D=>
  intro γ fr j hs w q hsz u k;refine bh.mk hs λw' o E f=>?_;have n:jB K' X w':=⟨λb c=>f.rely.heap b (c.elim (λh=>(j b h).imp id .inr) (λh=>.inr (.inl h))),f.rely.size,f.rely.env⟩;obtain⟨g1,w1,es,hst,hg⟩:=ok w' n;have T:∀b,grown X.mine w' w1 b->¬Z.gG b:=by
   rintro b (c|⟨c,_⟩)
   .grind
   .intro hS;have:=hsz b hS;have:=f.rely.size;grind[qm]
  have U:∀b,fr b->¬grown X.mine w' w1 b:=by
   rintro b c (h|⟨h,_⟩)
   .grind
   .have:=(q b c).2.2;have:=f.rely.size;grind[qm]
  have F:∀b,fr b->w1.heap[b]?=X.w.heap[b]?:=λb c=>by have h1:=f.rely.heap b (.inr (.inr c));simp[qm]at h1;rw[<-h1];refine hg.kept b ?_ (q b c).1;grind
  have O:(⟨g1,w1,grown (qm X fr).mine w' w1⟩:aV)=qm ⟨g1,w1,grown X.mine w' w1⟩ fr:=by
   unfold qm;congr 1
   grind[grown]
  refine .quiet hst ⟨hg.run,⟨λb c B _=>hg.kept b c λh=>B (.inl h),hg.size,by rw[hg.os];exact .refl _,hg.output,hg.tape⟩,λb c hS=>hg.kept b c AA,zz _ _ λe x d=>?_,?_⟩ ?_
  .have:=hg.evs e AA;unfold wU at this;unfold sZ;cases p:e.loc with
   |cell a=>
    rw[p]at this;obtain⟨h1,r,h3⟩:=this;refine .inl ⟨h3,?_,v⟩;cases i:e.write with
    |true=>exact .inr (.inl ((r i).imp .inl id))
    |false=>
     rcases h1 with h1|h1
     .rcases j _ h1 with h|h
      .grind
      .exact .inr (.inl (.inl (.inr h)))
     .exact .inr (.inl (h1.imp .inl id))
   |obj a=>
    rw[p]at this;obtain⟨h1,r,h3⟩:=this;refine⟨h3,?_,v⟩;cases i:e.write with
    |true=>exact .inr ((r i).imp .inl id)
    |false=>
     rcases h1 with h1|h1
     .rcases j _ h1 with h|h
      .grind
      .exact .inr (.inl (.inr h))
     .exact .inr (h1.imp .inl id)
   |mark mk=>rw[p]at this;cases mk<;>first|exact .inl this|grind
   |output=>trivial
   |goroutines=>grind
  .rintro(⟨e,x,i⟩|h)
   .have:=hg.evs e x;unfold wU at this;rcases i with h|h|⟨a,h⟩|⟨a,h⟩|⟨i,b,c,hS⟩
    .grind
    .grind
    .grind
    .grind
    grind[e8]
   grind
  .rw[O];have R:X.w.heap.size<=w1.heap.size:=Nat.le_trans f.rely.size hg.size;refine D w' g1 w1 es n hst o fr j hg.run AA AA AA (λb hK=>⟨AA,?_⟩) ?_
   .rintro(h|⟨h,_⟩)
    .grind
    .have:=(u b hK).1;have:=n.size;omega
   intro Y z C A L N V J y K M I t s;refine k Y z C (G.trans _ _ _ _ E A) L N AA AA (λb hK=>⟨(y b hK).1,?_⟩) (λb h=>K b (.inl h)) (λb h=>?_) ?_ ?_ ?_
   .have h1:=f.rely.heap b (.inl hK);simp[qm]at h1;rw[(y b hK).2,<-h1];exact hg.kept b AA (u b hK).2
   .have H:X.w.heap.size<=w'.heap.size:=n.size;rcases M b h with(h|h)|h
    .grind
    .grind
    grind
   .exact(show OsLater X.w.os w'.os from f.later).trans (by rw[<-hg.os];grind)
   .rw[t];exact hg.output.trans f.output
   .rw[s];exact hg.tape.trans f.tape
end
def dh(_:Nat):Prop:=False
structure R7(C:cO)(dE G:Nat->Prop)(w:aO)(R:Value->aO->Prop)(v':Value)(vV:Nat->Prop)(w':aO)(ρ:Ren)(w1:aO)(v:Value):Prop where
 post:R v w1
 val:ay ρ v v'
 world:∃S,ew C S ρ w1 w'
 le:Ren.le (e6 (λb=>dE b\/G b) dh) ρ
 dom:∀a b,ρ.rel a b->dE b\/vV b
 sub:∀b,G b->vV b
 old:∀a b,ρ.rel a b->a=b\/w.heap.size<=b
section
variable{c:dI}{Stop:Bool->ah.Lo At->aV->Prop}{m:Bool}
def Za{P:cg}{upd:Bool}(C:(ed P upd).Good)(W:upd=false){f:FuncId}{fn:Func}{D:Code}(z:P.funcs[f]?=some fn)(hk:hX P upd fn=true)(d:fn.body=some D)(B:BK fn=true){l:ah.Lo At}(X:kp l.am=false){dE G M:Nat->Prop}{w0:aO}(U:∀b,dE b->c.K b)(hG:∀b,G b->M b)(hg:∀g,g<=P.globals.size->dE g){args:Array Value}(A:aS (e6 (λb=>dE b\/G b) dh) args args){R:aO->Value->aO->Prop}(E:ik (ed P upd) (λb=>dE b\/G b) dh w0)(V:∀w,(∀b,dE b\/G b->w.heap[b]?=w0.heap[b]?)->∀i,gA (ed P upd) (λb=>dE b\/G b) dh w i->∀T,Calls (ae P upd) f args {i with tape:=T} (λe w1=>∃v,e=.returned v/\R i v w1)):
 i_ P Stop m f args (fo c l M w0) (λu F=>∃p M' w',(∃w i ρ w1 v,(∀b,dE b\/G b->w.heap[b]?=w0.heap[b]?)/\gA (ed P upd) (λb=>dE b\/G b) dh w i/\R7 (ed P upd) dE G w (R i) u p w' ρ w1 v)/\(∀b,p b->M' b)/\h5 (ak (az c)) M w0 M' w'/\F=fo c l M' w'):=by
 intro a2 aF aD aI aL aH csZ L w γ hS;have hF:af (ak (az c)) M w0 [] w:=hS;have r:=dg (bR c);have K:∀b,dE b\/G b->w.heap[b]?=w0.heap[b]?:=λb d=>hF.rw.heap b AA;have J:ik (ed P upd) (λb=>dE b\/G b) dh w:=λb d=>by obtain⟨o,h1,h2⟩:=E b d;grind
 obtain⟨i,q⟩:=HB (ed P upd) (λb=>dE b\/G b) dh w;have y:=iZ.more (K':=λb=>dE b\/G b) AA (RZ C z hk d B J AA AA A (R:=R i) q AA m (a2.at aF (.inRegion aD (aI::aL)::aH)) csZ);have S:(⟨aZ (Frame.enter P f args .normal) (a2.at aF (.inRegion aD (aI::aL)::aH)::csZ),w,M⟩:aV)=qm ⟨aZ (Frame.enter P f args .normal) (a2.at aF (.inRegion aD (aI::aL)::aH)::csZ),w,dh⟩ M:=by
  unfold qm;congr 1
  funext b
  exact propext ⟨.inr,λh=>h.resolve_left (λx=>x)⟩
 show bh _ _ _ _ l γ ⟨aZ (Frame.enter P f args .normal) (a2.at aF (.inRegion aD (aI::aL)::aH)::csZ),w,M⟩;rw[S];have k:∀b,M b->¬(ak (az c)).gG b:=λb h=>hF.eZ b (.inr (.inl h));refine Y8 r AA (λ_ _ h=>h) y γ M AA rfl (λb d=>k b (d.resolve_left (λx=>x))) (λb d=>⟨λx=>x,hF.tW b d,hF.lt b (.inr (.inl d))⟩) (λb hS=>hF.lt b (.inr (.inr hS))) (λb hK=>⟨hF.lt b (.inl hK),λx=>x⟩) ?_;rintro Y I ⟨ρ,w1,v,t,j⟩ Z R5 Mm Y9 hsz H R6 N s Q O;have hsz':w.heap.size<=Y.w.heap.size:=hsz;have n:h5 (ak (az c)) M w0 (λb=>Y.mine b\/M b) Y.w:=by
  refine⟨AA,hF.rw.trans ⟨λb d=>?_,hsz,s,Q,O⟩,.refl _ _ _,A_,λb d=>?_,λb d=>?_,A_,A_,λb d hK=>?_⟩
  .grind
  .rcases d with h|(h|h)|h
   .exact Nat.lt_of_lt_of_le (hF.lt b (.inl h)) hsz'
   .exact(N b h).elim (λx=>x.elim) (λx=>x.2)
   .grind
   .exact Nat.lt_of_lt_of_le (hF.lt b (.inr (.inr h))) hsz'
  .rw[iF]at d;rcases d with h|h
   .exact r.nh b h
   grind
  .rcases d with h|h
   .grind
   .exact hF.tW b h hK
 have:=L t (fo c l (λb=>Y.mine b\/M b) Y.w) ⟨λb=>G b\/Y.mine b,_,Y.w,⟨w,i,ρ,w1,v,K,q,j.post,j.val,j.world,j.le,λa b h=>?_,AA,λa b h=>?_⟩,AA,n,rfl⟩ Y.w I n.mq
 .unfold qm;have e:=j.g;rw[Frame.finish_at]at e;rw[e];exact this
 .rcases j.dom a b h with h|h
  .grind
  grind
 .rcases j.old a b h with h|h
  .exact .inl h.1
  grind
end
end
def BO(R:aO->Value->Prop):Prop:=∀(ρ:Ren)(w w':aO)(v v':Value),Carry ρ w w'->ay ρ v v'->R w v->R w' v'
def pr(C:cO)(dE X:Nat->Prop)(R:aO->Value->Prop)(u:Value)(M:Nat->Prop)(w:aO):Prop:=
 ∃G:Nat->Prop,(∀b,G b->M b/\¬X b)/\ik C (λb=>dE b\/G b) dh w/\ay (e6 (λb=>dE b\/G b) dh) u u/\R w u
variable{w w':aO}
section
variable{C:cO}{dE X:Nat->Prop}
theorem s9{D:Nat->Prop}(h:ik C D dh w)(d:∀b,D b->w'.heap[b]?=w.heap[b]?):ik C D dh w':=λb a=>by obtain⟨o,h1,c⟩:=h b a;grind
def s_{D:Nat->Prop}(o:∀b,D b->w'.heap[b]?=w.heap[b]?)(n:ik C D dh w):Carry (e6 D dh) w w':=by
 rintro a a' v ⟨⟨h1,hd⟩,m,h3⟩ j;obtain⟨c,e,fr,g,i,f⟩:=tx j;rw[h1]at g;have l:=(o _ hd).trans g;refine⟨v,nE l (h3▸i) (m▸f),?_⟩;obtain⟨ob,h,d⟩:=n _ hd;rw[g]at h;cases h;rcases d with d|d
 .cases d with|cells _ k _=>exact k.get _ _ _ f f
 .exact d.elim
theorem pr.mono{R:aO->Value->Prop}(e:BO R){u:Value}{M M':Nat->Prop}(h:pr C dE X R u M w)(g:∀b,dE b\/M b->w'.heap[b]?=w.heap[b]?)(f:∀b,M b->M' b):pr C dE X R u M' w':=by obtain⟨G,h1,c,h3,d⟩:=h;have a:∀b,dE b\/G b->w'.heap[b]?=w.heap[b]?:=AA;exact⟨G,AA,s9 c a,h3,e _ _ _ _ _ (s_ a c) h3 d⟩
def R7.Zd{G:Nat->Prop}{R:Value->aO->Prop}{d:Value}{e M':Nat->Prop}{ρ:Ren}{w1:aO}{v:Value}(h:R7 C dE G w R d e w' ρ w1 v)(l:∀b,e b->M' b/\¬X b){Q:aO->Value->Prop}(i:BO Q)(j:Q w1 v):pr C dE X Q d M' w':=by
 obtain⟨S,g⟩:=h.world;have f:(λb=>dE b\/((∃a,ρ.rel a b)/\¬dE b))=λb=>∃a,ρ.rel a b:=by
  funext b
  apply propext;constructor
  .rintro(c|c)
   .exact⟨b,h.le.1 b b ⟨Y,.inl c⟩⟩
   grind
  grind
 refine⟨λb=>(∃a,ρ.rel a b)/\¬dE b,λb c=>?_,?_,?_,i ρ w1 w' v d g.carry h.val j⟩
 .obtain⟨⟨a,k⟩,hk⟩:=c;exact l b ((h.dom a b k).resolve_left hk)
 .rw[f];exact g.closed dh
 .rw[f];exact ay.right (σ:=e6 (λb=>∃a,ρ.rel a b) dh) (λa b m=>⟨Y,a,m⟩) h.val
end
theorem i_.mono{Z:eY}{Q:cg}{Stop:Bool->Z.Lo->aV->Prop}{m:Bool}{f:FuncId}{args:Array Value}{σ:cR Z}{V a:Value->cR Z->Prop}(h:i_ Q Stop m f args σ V)(c:∀u b,V u b->a u b):i_ Q Stop m f args σ a:=
 λa2 aF aD aI aL aH csZ hK w γ hS=>h a2 aF aD aI aL aH csZ AA w γ hS
def mQ{ρ:Ren}{l:List Value}(h:∀v∈l,ay ρ v v):aS ρ l.toArray l.toArray:=by apply aS.KO;induction l with|nil=>exact .nil|cons a l b=>exact .cons (h a A_) AA
def Ze{P:cg}{upd:Bool}(S:(ed P upd).Good)(N:upd=false){kq K:FuncId}{o n:Func}{I H:Code}(F:P.funcs[kq]?=some o)(E:hX P upd o=true)(D:o.body=some I)(C:BK o=true)(B:P.funcs[K]?=some n)(A:hX P upd n=true)(z:n.body=some H)(y:BK n=true){Stop:Bool->ah.Lo At->aV->Prop}{c:dI}{cf:aO}{dE:Nat->Prop}(p:∀b,dE b->c.K b)(hg:∀g,g<=P.globals.size->dE g)(Z:ik (ed P upd) (λb=>dE b\/dh b) dh cf){gq m:Value}{fr aU:Nat->Nat}(hinv:∀(args:Array Value)(w:aO),(callMethod gq "Piece" args).run P w=.ok (.enter kq (#[m]++args)) w/\(callMethod gq "Piece" args).events P w #[]=#[])(aDv:ay (e6 (λb=>dE b\/dh b) dh) m m){BP BQ:Nat->aO->Value->Prop}(J:∀T,BO (BP T))(W:∀T,BO (BQ T))(gb:∀T,T<c.N->∀w,(∀b,dE b\/dh b->w.heap[b]?=cf.heap[b]?)->∀a,gA (ed P upd) (λb=>dE b\/dh b) dh w a->∀i,Calls (ae P upd) kq #[m,.int .i64 (fr T:Int),.int .i64 (aU T:Int)] {a with tape:=i} (λe w1=>∃v,e=.returned v/\BP T w1 v))(cS:∀T,T<c.N->∀a u,BP T a u->∀i,Calls (ae P upd) K #[u] {a with tape:=i} (λe w1=>∃v,e=.returned v/\BQ T w1 v))(Fe:∀T w v,BQ T w v->∃s aT,v=.slice s (c.rows T) aT):
 ug c cf P Stop K gq kq m fr aU (λT u M w=>pr (ed P upd) dE c.K (BP T) u M w) (λT v M w=>pr (ed P upd) dE c.K (BQ T) v M w):=by
 refine⟨hinv,λT l M w0 O r hk Q=>?_,λT l M w0 u O r hk Q hm=>?_,λT v M w h=>?_,λT v M w M' w' h V dz=>pr.mono (W T) h AA dz⟩
 .have V:∀b,dE b\/dh b->w0.heap[b]?=cf.heap[b]?:=λb d=>Q b (p b (d.resolve_right (λx=>x)));refine i_.mono (Za S N F E D C r (G:=dh) (M:=M) p (λb h=>h.elim) hg (R:=λ_ v w1=>BP T w1 v) (mQ λv q=>?_) (s9 Z V) AA) ?_
  .simp at q;rcases q with rfl|rfl|rfl
   .grind
   .exact .int _ _
   .exact .int _ _
  .rintro u bY ⟨X,M',w',⟨w,a,ρ,w1,v,_,_,j⟩,k,f,rfl⟩;exact⟨M',w',f,j.Zd (λb d=>⟨k b d,λx=>f.mq.tW b (k b d) x⟩) (J T) j.post,Y⟩
 .obtain⟨G,h1,t,h3,U⟩:=hm;refine i_.mono (Za S N B A z y r (G:=G) (M:=M) p AA hg (R:=λ_ v w1=>BQ T w1 v) (mQ λv q=>?_) t (λw L a aM i=>cS T O a u ?_ i)) ?_
  .grind
  .have cK:=s9 t L;exact J T _ _ _ _ _ (aM.carry cK) h3 (J T _ _ _ _ _ (s_ L t) h3 U)
  .rintro u bY ⟨X,M',w',⟨w,a,ρ,w1,v,_,_,j⟩,k,f,rfl⟩;exact⟨M',w',f,j.Zd (λb d=>⟨k b d,λx=>f.mq.tW b (k b d) x⟩) (W T) j.post,Y⟩
 .obtain⟨G,_,_,_,U⟩:=h;grind
end c5
namespace bZ
open Conc ConcM RowKit av bn ah fi hZ fO iE c5
abbrev bB:=List Int×List bD
def Sc(w:aO)(rd:Nat->Option Value)(r:bB):Prop:=∃pv dn,rd 0=some pv/\rd 1=some dn/\jC w pv r.1/\lO w dn r.2
abbrev hE(w:aO):=a8 w 2 Sc
def amt:uh Q9:=by rintro ρ w w' rd h x-hr ⟨h0,h1,e,h3,d⟩;obtain⟨v0,a,b0⟩:=hr 0 _ h0;obtain⟨v1,a1,b1⟩:=hr 1 _ h1;obtain⟨v2,c,g⟩:=hr 2 _ e;obtain⟨v3,b,f⟩:=hr 3 _ h3;rw[b0.Zc]at a;rw[b1.qt]at a1;rw[g.qt]at c;rw[f.Sa]at b;exact⟨a,a1,c,b,d⟩
def rj:uh Sc:=by rintro ρ w w' rd g x b a ⟨pv,h,h0,h1,e,h3⟩;obtain⟨d,f,b0⟩:=a 0 _ h0;obtain⟨c,a1,b1⟩:=a 1 _ h1;exact⟨d,c,f,a1,av.a8.carry IE b b0 e,av.a8.carry amt b b1 h3⟩
theorem BR:o8 Q9:=λ_ _ _ _ _ _ a h=>⟨a _ _ h.1,a _ _ h.2.1,a _ _ h.2.2.1,a _ _ h.2.2.2.1,h.2.2.2.2⟩
def r8:o8 Sc:=λ_ _ _ _ _ hk a⟨pv,c,h0,h1,b,h3⟩=>⟨pv,c,a _ _ h0,a _ _ h1,b.mono A3 hk,h3.mono BR hk⟩
def Zf(xs:List (Value×Value)):∀j(h:j<xs.length),(two xs)[j*2]?=some xs[j].1/\(two xs)[j*2+1]?=some xs[j].2:=by induction xs with|nil=>grind|cons a l b=>intro j h;cases j with|zero=>exact⟨Y,Y⟩|succ j=>have:=b j AA;rw[show(j+1)*2=j*2+1+1 from As];exact this
variable{v:Value}{w:aO}
def Sd{Row:Nat->aO->Value->Prop}{nZ N:Nat}(h:E_ Row nZ N v w)(rs:List bB)(a0:rs.length=N)(hs:N<=9223372036854775807)(b:∀j(h:j<rs.length) p q,Row j w (.agg #[p,q])->jC w p rs[j].1/\lO w q rs[j].2):hE w v rs:=by
 obtain⟨xs,h1,c,h3⟩:=h;subst a0;rcases c.2 with⟨rfl,h0⟩|⟨g,cap,be,rfl,-,hg,-,-,-,ht⟩
 .grind[a8.nil]
 .refine⟨_,cap,Y,hs,λi hi=>⟨g,0,Y,?_⟩⟩;have a:i<xs.length:=As;have d:=b i hi _ _ (h3 i a);have f:=Zf xs i a;have e:∀o v,(two xs)[o]?=some v->w.cell? ⟨g,o,none⟩=some v:=by grind[World.cell?]
  refine⟨xs[i].1,xs[i].2,?_,?_,d⟩
  .grind
  grind
def amu{pl:List Int}{vs:List bD}{p q:Value}(h:LI pl vs w (.agg #[p,q]))(f:pl.length<=9223372036854775807)(c:vs.length<=9223372036854775807)(ht:∀d∈vs,d.text.size<=9223372036854775807):jC w p pl/\lO w q vs:=by obtain⟨a,bv,b,cs,e,h1,k,h3,j,g⟩:=h;simp at e;obtain⟨rfl,rfl⟩:=e;refine⟨⟨_,_,Y,f,λi hi=>⟨a,0,Y,?_⟩⟩,lO.QR h3 c ht g _⟩;show w.cell? ⟨a,0+i*1+0,none⟩=_;rw[h1.rules.1];have:b[0+i*1+0]?=b.toList[i]?:=A_;grind
def vX(t:List aA)(fr aU:Nat)(w:aO)(u:Value):Prop:=
 ∃jp gC bs v,u=.func (.func 210) #[] #[.pointer (some ⟨jp,0,none⟩),.pointer (some ⟨gC,0,none⟩),.pointer (some ⟨bs,0,none⟩)]/\
  w.cell? ⟨jp,0,none⟩=some (.int .i64 fr)/\w.cell? ⟨gC,0,none⟩=some (.int .i64 aU)/\w.cell? ⟨bs,0,none⟩=some v/\m8 w v t
def Sf{ρ:Ren}{b:Nat}(h:ay ρ (.pointer (some ⟨b,0,none⟩)) v):∃a,v=.pointer (some ⟨a,0,none⟩)/\dt ρ ⟨b,0,none⟩ ⟨a,0,none⟩:=by cases h with|@ptr _ a' k=>obtain⟨a,o',s'⟩:=a';obtain⟨e,d,c⟩:=k;simp only at e d c;subst d;subst c;exact⟨a,Y,e,Y,Y⟩
def Zg{ρ:Ren}{f:FuncId}{b1 g e:Nat}(h:ay ρ (.func (.func f) #[] #[.pointer (some ⟨b1,0,none⟩),.pointer (some ⟨g,0,none⟩),.pointer (some ⟨e,0,none⟩)]) v):
 ∃c1 cr dm,v=.func (.func f) #[] #[.pointer (some ⟨c1,0,none⟩),.pointer (some ⟨cr,0,none⟩),.pointer (some ⟨dm,0,none⟩)]/\dt ρ ⟨b1,0,none⟩ ⟨c1,0,none⟩/\dt ρ ⟨g,0,none⟩ ⟨cr,0,none⟩/\dt ρ ⟨e,0,none⟩ ⟨dm,0,none⟩:=by
 cases h with|@func fn o a a' b n j k d h1 c=>cases j;obtain⟨l⟩:=a';obtain⟨m⟩:=n;simp only[List.size_toArray,List.length_nil,List.length_cons]at k d;have i:l=[]:=AA;subst i;match m,d with| [x,y,z],_=>obtain⟨c1,rfl,r⟩:=Sf (c 0 _ x Y Y);obtain⟨cr,rfl,q⟩:=Sf (c 1 _ y Y Y);obtain⟨dm,rfl,p⟩:=Sf (c 2 _ z Y Y);grind
def amv(t:List aA)(fr aU:Nat):BO (vX t fr aU):=by rintro ρ w w' u n a f ⟨o,p,bs,v,rfl,h1,h,h3,g⟩;obtain⟨c1,cr,dm,rfl,e,d,c⟩:=Zg f;obtain⟨q,a1,l⟩:=a _ _ _ e h1;obtain⟨dA,b,k⟩:=a _ _ _ d h;obtain⟨i,m,j⟩:=a _ _ _ c h3;rw[l.qt]at a1;rw[k.qt]at b;exact⟨c1,cr,dm,i,Y,a1,b,m,av.a8.carry vW a j g⟩
def Zh(rs:List bB):BO (λw v=>hE w v rs):=λ_ _ _ _ _ b a h=>av.a8.carry rj b a h
def amw:(ae prog false).funcs[(208:Nat)]?=some f208:=a6 (upd:=false) func208 AV
def amx(t:List aA)(v:Value)(fr aU:Nat)(w:aO)(b:m8 w v t):
 Calls (ae prog false) 208 #[.agg #[v],.int .i64 fr,.int .i64 aU] w λe w'=>∃u,e=.returned u/\vX t fr aU w' u:=by
 obtain⟨a,cap,rfl,-,-⟩:=id b;go_enter amw,ntmps208
 go_wp2
 go_ret
 have b1:=((ag.new w #[.slice a t.length cap] 116).alloc (.cells #[.int .i64 (fr:Int)] 3)).alloc (.cells #[.int .i64 (aU:Int)] 3);have d:=(ag.new (w.alloc (.cells #[.slice a t.length cap] 116)) #[.int .i64 (fr:Int)] 3).alloc (.cells #[.int .i64 (aU:Int)] 3);have c:=ag.new ((w.alloc (.cells #[.slice a t.length cap] 116)).alloc (.cells #[.int .i64 (fr:Int)] 3)) #[.int .i64 (aU:Int)] 3;simp at d c;refine⟨_,Y,w.heap.size+1,w.heap.size+1+1,w.heap.size,.slice a t.length cap,Y,d.rules.1 0,c.rules.1 0,b1.rules.1 0,b.mono rM (bo.cj ?_)⟩;exact(((Below.refl _ w).alloc J1 _).alloc A_ _).alloc Bg _
def mV(t:List aA)(fr aU:Nat):List bB:=(List.range (aU-fr)).map λk=>([((fr+k:Nat):Int)],t.map (gE · (fr+k)))
theorem I1(t:List aA)(fr aU:Nat):(mV t fr aU).length=aU-fr:=by simp[mV]
theorem Cm(w:aO)(a:Nat->Question->Nat):bo w {w with tape:=a}:=λ_ _ _ h=>h
theorem vX.keeps{t:List aA}{fr aU:Nat}{w':aO}{u:Value}(hk:bo w w')(h:vX t fr aU w u):vX t fr aU w' u:=by obtain⟨a,d,bs,v,rfl,h1,c,h3,b⟩:=h;exact⟨a,d,bs,v,Y,hk _ _ _ h1,hk _ _ _ c,hk _ _ _ h3,b.mono rM hk⟩
def aoq:hX prog false f208=true:=by decide+kernel
def RB:hX prog false f114=true:=by decide+kernel
def aor:hX prog false f210=true:=by decide+kernel
def ln:(ed prog false).Good:=Xa false AV AV
def aos(t:List aA)(fr aU:Nat)(a:t.length<=1000000)(g:fr<=aU)(b:aU<=1000000)(A:aU-fr<=300)(cQ:∀i,i<aU->∀c∈t,vH i c)(w:aO)(u:Value)(h:vX t fr aU w u):
 Calls (ae prog false) 114 #[u] w λe w'=>∃v,e=.returned v/\hE w' v (mV t fr aU):=by
 obtain⟨k,y,bs,v,rfl,h1,x,h3,s⟩:=h;refine(X3 A w (aj0 _ _ _) (λargs w=>cB Yg aor args w) (aj1 t v fr aU w s a g b cQ k y bs h1 x h3)).mono ?_;rintro e w' ⟨f,rfl,m,-⟩;refine⟨f,Y,Sd m _ (I1 _ _ _) As λj o p q l=>?_⟩;have n:j<aU-fr:=by rwa[I1]at o
 have z:(mV t fr aU)[j]=([((fr+j:Nat):Int)],t.map (gE · (fr+j))):=by simp[mV]
 rw[z];refine amu l A_ AA λd hd=>?_;obtain⟨c,r,rfl⟩:=List.mem_map.1 hd;exact(cQ (fr+j) As c r).small
def aot{Stop:Bool->ah.Lo At->aV->Prop}{c:dI}{cf:aO}{dE:Nat->Prop}(n:∀b,dE b->c.K b)(hg:∀g,g<=prog.globals.size->dE g)(e:ik (ed prog false) (λb=>dE b\/dh b) dh cf){gq:Value}{t:List aA}{fr aU:Nat->Nat}(f:m8 cf v t)(hrel:ay (e6 (λb=>dE b\/dh b) dh) v v)(hinv:∀(args:Array Value)(w:aO),(callMethod gq "Piece" args).run prog w=.ok (.enter 208 (#[.agg #[v]]++args)) w/\(callMethod gq "Piece" args).events prog w #[]=#[])(j:t.length<=1000000)(m:∀T,T<c.N->fr T<=aU T/\aU T<=1000000/\aU T-fr T<=300/\∀i,i<aU T->∀c∈t,vH i c)(vC:∀T,T<c.N->c.rows T=aU T-fr T):
 ug c cf prog Stop 114 gq 208 (.agg #[v]) fr aU
  (λT u M w=>pr (ed prog false) dE c.K (vX t (fr T) (aU T)) u M w) (λT v M w=>pr (ed prog false) dE c.K (λw v=>T<c.N/\hE w v (mV t (fr T) (aU T))) v M w):=by
 refine Ze ln Y func208 aoq Y AV func114 RB Y AV n hg e hinv (.pU (.one hrel))
  (BP:=λT=>vX t (fr T) (aU T)) (BQ:=λT w v=>T<c.N/\hE w v (mV t (fr T) (aU T))) (λT=>amv _ _ _) (λT _ _ _ _ _ p f h=>⟨h.1,Zh _ _ _ _ _ _ p f h.2⟩) (λT k w l d s a=>?_) (λT k d u o a=>?_) (λT w v h=>?_)
 .exact amx t v (fr T) (aU T) {d with tape:=a} (av.a8.carry vW (s.carry (s9 e l)) hrel (av.a8.carry vW (s_ l e) hrel f) |>.mono rM (Cm d a))
 .obtain⟨h1,r,h3,q⟩:=m T k;exact(aos t (fr T) (aU T) j h1 r h3 q {d with tape:=a} u (vX.keeps (Cm d a) o)).mono AA
 .obtain⟨k,x,cap,rfl,-,-⟩:=h;simp_all[I1]
end bZ
namespace pE
open Conc ConcM av bn ah hZ fO iE cz
abbrev eV:eY where
 Lo:=Unit
 aN:=Unit
 a_:=λ_=>0
 pj:=λ_ ls=>ls.length=1
 dY:=λ_ _ _=>True
 K:=λ_=>False
 gG:=λ_=>False
 sY:=λ_ _=>True
 tok:=λ_=>false
 deaf:=λ_=>0
 past:=λ_=>false
 Left:=λ_=>False
 zero:=λ_=>False
 nU:=λ_ _=>False
 gF:=λ_=>False
 eK:=λ_=>False
 mu:=⟨0,0,none⟩
 wg:=⟨0,0,none⟩
 ox:=λ_ _ _=>False
def tk:eV.Good where
 refl:=AA
 trans:=AA
 less:=AA
 mt:=AA
 nh:=AA
 one:=AA
 nI:=λ_ ls h=>⟨0,(),by
  grind,λh=>h,λh=>h⟩
 zero:=AA
 Fs:=AA
 Bl:=AA
 sX:=AA
section
variable{P:cg}{Shun:Loc->Prop}{Stop:Nat->Goroutine->aO->Prop}{d:Nat}
theorem Rp{mine:Nat->Prop}{B:Nat}:∀(es:List Event)(d:Nat),oy eV () mine d es->(∀e∈es,¬vN eV e)->(∀b,mine b->∀l,e8 l=some b->¬Shun l)->(∀b,mine b->b<B)->(∀e∈es,oK Shun B e)/\∀k,deafBehind k es.toArray=k
 | [],_,_,_,_,_=>⟨A_,λ_=>Y⟩
 |e::es,d,h,g,hs,i=>by
  obtain⟨n,j⟩:=Rp es _ h.2 AA hs i;have h1:=h.1;have c:=g e A_;have hk:wU (λ_=>False) mine e:=by
   unfold sZ at h1;unfold wU;cases f:e.loc with
   |cell a=>grind
   |obj r=>grind
   |output=>trivial
   |goroutines=>grind
   |mark m=>
    rw[f]at h1;rcases h1 with h1|⟨h1,_⟩
    .cases m with|noRoom=>trivial|extern _=>trivial|disable=>exact absurd (.inl f) c|enable=>exact absurd (.inr (.inl f)) c| _=>exact h1.elim
    grind
  refine⟨λt p=>?_,λk=>?_⟩
  .grind[Zt]
  .have s:deafBehind k (e::es).toArray=deafBehind (deafBehind k #[e]) es.toArray:=by simp[deafBehind]
   have q:deafBehind k #[e]=k:=by
    obtain⟨loc,wr,o⟩:=e;cases loc with
    |mark m=>cases m<;>first|exact hk.elim|rfl
    | _=>rfl
   grind
def aoR{ST:Bool->eV.Lo->aV->Prop}{m:Bool}{l:eV.Lo}{γ:eV.aN}{X:aV}(h:bh eV P ST m l γ X):m=true->(∀b,X.mine b->b<X.w.heap.size)->(∀b,X.mine b\/X.w.heap.size<=b->∀l,e8 l=some b->¬Shun l)->
 (∀Y,ST true () Y->cz.Left X Y->eB P Shun Stop d Y.g Y.w)->eB P Shun Stop d X.g X.w:=by
 induction h with
 |@stop m l γ X h=>rintro rfl _ _ k;exact k X h ⟨λ_ h=>h,λ_ _ _=>rfl,AA,Nat.le_refl _,.refl _,rfl,rfl,id⟩
 |@step m l γ X hs ch ok hq j u v r A z y=>
  rintro rfl w x k;refine eB.mk hs λn=>?_;have hrel:dO eV l γ X (X.w.at n):=⟨⟨λ_ _=>rfl,Nat.le_refl _,.refl _⟩,PA,⟨[l],0,rfl,rfl⟩,.refl _,rfl,rfl⟩;rcases ok (X.w.at n) γ trivial hrel with⟨g1,w1,es,e,q⟩|⟨g1,w1,es,e,q,_⟩|⟨_,_,q,_⟩|⟨_,g1,c,w1,es,e,q⟩
  .have hsz:X.w.heap.size<=w1.heap.size:=q.keep.size;have p:∀b,grown X.mine (X.w.at n) w1 b->X.mine b\/(X.w.heap.size<=b/\b<w1.heap.size):=λb h=>h;have s:∀b,grown X.mine (X.w.at n) w1 b->∀l,e8 l=some b->¬Shun l:=AA;have g:∀b,grown X.mine (X.w.at n) w1 b->b<w1.heap.size:=AA;obtain⟨h1,f⟩:=Rp (Shun:=Shun) (B:=w1.heap.size) es.toList 0 q.evs (λe j t=>q.low (.inl AA)) s g;refine⟨g1,w1,es,e,AA,hsz,?_⟩;have o:deafBehind d es=d:=f d;rw[o];refine r (X.w.at n) γ g1 w1 es trivial hrel e q.run q.low rfl g AA (λY i a=>k Y i ?_);refine⟨λb h=>a.sub b (.inl h),λb h1 f=>(a.kept b AA λh=>?_).trans (q.keep.kept b h1 f Lv),λb h=>?_,Nat.le_trans hsz a.size,(show OsLater X.w.os w1.os from q.keep.os).trans a.os,a.output.trans q.keep.output,a.tape.trans q.keep.tape,λ_=>a.run q.run⟩
   .grind
   .rcases a.new b h with h|h
    .rcases p b h with h|h
     .grind
     .exact .inr ⟨h.1,Nat.lt_of_lt_of_le h.2 a.size⟩
    grind
  .exact absurd q.zx.1 AA
  .grind
  .exact absurd q.a_ AA
end
end pE
namespace pE
open Conc ConcM av bn ah hZ fO iE
section
section
variable{Z:eY}{Q:cg}{Stop:Bool->Z.Lo->aV->Prop}{m:Bool}{b:Frame}{ops:Array Oper}{l:Z.Lo}{M:Nat->Prop}{w0:aO}{bs:List (Nat×Obj)}
def je(Z:eY)(l:Z.Lo)(M:Nat->Prop)(w0:aO)(bs:List (Nat×Obj)):cR Z:=⟨l,cd M bs,λw _=>af Z M w0 bs w⟩
def Nb:rV (je Z l M w0 bs):=λ_ _ _ _ _ h _ a=>af.on h (dO.rw a)
def Cp(x:Nat×Obj)(M:Nat->Prop)(w0:aO)(bs:List (Nat×Obj)):Prop:=x∈bs\/(M x.1/\w0.heap[x.1]?=some x.2)
theorem Cp.at{x:Nat×Obj}(h:Cp x M w0 bs){w:aO}(hk:af Z M w0 bs w):cd M bs x.1/\w.heap[x.1]?=some x.2:=by
 rcases h with h|⟨h1,a⟩
 .exact⟨.inr AA,hk.cL x h⟩
 .exact⟨.inl h1,(hk.rw.heap x.1 (.inr h1)).trans a⟩
def Cp.cons{x y:Nat×Obj}(h:Cp x M w0 bs):Cp x M w0 (y::bs):=h.imp AA id
def Nc(Z:eY)(l:Z.Lo)(xs:List (Nat×Obj))(σ:cR Z):Prop:=∃M w0 bs,(∀x∈xs,Cp x M w0 bs)/\σ=je Z l M w0 bs
def Nd{xs:List (Nat×Obj)}:∀σ,Nc Z l xs σ->rV σ:=by rintro _ ⟨M,w0,bs,_,rfl⟩;exact Nb
def aoS{xs:List (Nat×Obj)}:∀σ,Nc Z l xs σ->∀w γ,σ.S w γ->σ.S {w with drawn:=w.drawn+1} γ:=by rintro _ ⟨M,w0,bs,_,rfl⟩ w γ h;exact⟨h.rw.trans ⟨λ_ _=>Y,Nat.le_refl _,.refl _,Y,Y⟩,h.cL,h.lt,h.eZ,h.rQ,h.oD,h.tW⟩
def Rk(n:Z.past l=false){xs:List (Nat×Obj)}{z:Nat×Obj}(j:z∈xs){o:Oper}{v:Value}{a:Act}(c:Region.wanted o (yielded ops a.tmps)=true)(h:∀w,w.heap[z.1]?=some z.2->(execOp a.eval o).run Q w=.ok (.value v) w/\∀e∈listed Q b.fn a o w,∃off,e=⟨.cell ⟨z.1,off,none⟩,false,false⟩):nj Q b ops (Nc Z l xs) o v a:=by
 refine .inl ⟨c,?_⟩;rintro _ ⟨M,w0,bs,k,rfl⟩ w γ w' s g hS p m;have hh:=Nb (Z:=Z) (l:=l) w γ w' s g hS p m;obtain⟨r,q⟩:=(k z j).at hh;obtain⟨h1,i⟩:=h w' q;refine⟨h1,zz _ _ λe f d=>?_,?_⟩
 .obtain⟨off,rfl⟩:=i e AA;exact .inl ⟨Y,.inr (.inl r),n⟩
 .rintro⟨e,f,c⟩;obtain⟨off,rfl⟩:=i e f;rcases c with c|c|⟨_,c⟩|⟨_,c⟩|⟨c,_⟩<;>cases c
def Tf(d:∀b,Z.K b->¬Z.gG b){o:Oper}{ob:Obj}{a:Act}{K:cR Z->Act->Prop}(h:∀w,(execOp a.eval o).run Q w=.ok (.value (.pointer (some ⟨w.heap.size,0,none⟩))) (w.alloc ob)/\listed Q b.fn a o w=#[])(k:∀n,K (je Z l M w0 ((n,ob)::bs)) (a.put o.dst (.pointer (some ⟨n,0,none⟩)))):Bz Q b o (je Z l M w0 bs) a K:=by
 intro w γ w' j g hS f e;have hh:af Z M w0 bs w':=Nb (Z:=Z) (l:=l) w γ w' j g hS f e;obtain⟨h1,i⟩:=h w';refine⟨_,_,je Z l M w0 ((w'.heap.size,ob)::bs),.inl h1,⟨?_,?_,.inl ⟨Y,hh.alloc d ob,λb c _=>BF c,?_,?_⟩⟩,k _⟩
 .show cd M ((w'.heap.size,ob)::bs)=grown (cd M bs) w' (w'.alloc ob);rw[RS];exact cd.cons.symm
 .exact⟨λb c _ _=>BF c,Br,.refl _,Y,Y⟩
 .rw[i];exact trivial
 grind
def Tg(r:Z.past l=false){pre post:List (Nat×Obj)}{b0:Nat}{be new:Array Value}{t:TypeId}{o:Oper}{a:Act}{K:cR Z->Act->Prop}(h:∀w,w.heap[b0]?=some (.cells be t)->(execOp a.eval o).run Q w=.ok .skip (w.setRow b0 new)/\∀e∈listed Q b.fn a o w,∃off,e.loc=.cell ⟨b0,off,none⟩/\e.sync=false)(k:K (je Z l M w0 (pre++(b0,.cells new t)::post)) (a.put o.dst undef)):Bz Q b o (je Z l M w0 (pre++(b0,.cells be t)::post)) a K:=by
 intro w γ w' u g hS s q;have hh:af Z M w0 (pre++(b0,.cells be t)::post) w':=Nb (Z:=Z) (l:=l) w γ w' u g hS s q;have f:cd M (pre++(b0,Obj.cells be t)::post) b0:=.inr A_;have x:cd M (pre++(b0,Obj.cells new t)::post)=cd M (pre++(b0,Obj.cells be t)::post):=by grind[cd]
 obtain⟨h1,n⟩:=h w' (hh.cL (b0,.cells be t) A_);have hg:grown (cd M (pre++(b0,Obj.cells be t)::post)) w' (w'.setRow b0 new)=cd M (pre++(b0,Obj.cells be t)::post):=kX (setRow_size _ _ _);refine⟨_,_,je Z l M w0 (pre++(b0,.cells new t)::post),AA,⟨?_,?_,.inl ⟨Y,hh.row,λb v i=>zK _ _ ?_,?_,?_⟩⟩,k⟩
 .show cd M (pre++(b0,.cells new t)::post)=grown (cd M (pre++(b0,Obj.cells be t)::post)) w' (w'.setRow b0 new);grind
 .exact⟨λk _ hk _=>zK _ _ λe=>hk (e▸f),Nat.le_of_eq (setRow_size _ _ _).symm,.refl _,Y,Y⟩
 .rintro rfl;exact hh.eZ b (.inr f) i
 .refine zz _ _ λe m d=>?_;obtain⟨off,j,p⟩:=n e AA;unfold sZ;rw[j];refine .inl ⟨p,.inr (.inl ?_),r⟩;show grown (cd M (pre++(b0,Obj.cells be t)::post)) w' (w'.setRow b0 new) b0;simp_all
 .rintro⟨e,m,c⟩;obtain⟨off,j,p⟩:=n e m;rcases c with c|c|⟨_,c⟩|⟨_,c⟩|⟨_,k,hk,i⟩
  .grind
  .grind
  .grind
  .grind
  .rw[j]at hk;cases hk;exact hh.eZ b0 (.inr f) i
end
end
end pE
namespace fO
open Conc RowKit ConcM
set_option maxRecDepth 100000
variable{w:aO}{b:Nat}{p q r x y z:Value}
def apT{t:TypeId}(a:w.heap[b]?=some (.cells #[x,y,z] t)):((w.setCell ⟨b,0,none⟩ p).setCell ⟨b,1,none⟩ q).setCell ⟨b,2,none⟩ r=w.setRow b #[p,q,r]:=by have f:=setCell_eq_setRow w b 0 #[x,y,z] t (0,0) p a;have b1:=setRow_heap w b #[x,y,z] (#[x,y,z].setIfInBounds 0 p) t (0,0) a;have e:=setCell_eq_setRow _ b 1 _ t (0,0) q b1;have c:=setRow_heap _ b _ ((#[x,y,z].setIfInBounds 0 p).setIfInBounds 1 q) t (0,0) b1;have d:=setCell_eq_setRow _ b 2 _ t (0,0) r c;grind[setRow_setRow]
variable{i j:Operand}
def pG(a:w.heap[b]?=some (.cells #[x,y,z] 190))(h:p.oneCell'=true/\q.oneCell'=true/\r.oneCell'=true){ev:Operand->Value}(hi:ev i=.pointer (some ⟨b,0,none⟩))(d:ev j=.agg #[p,q,r]){o:Oper}(c:o.op=.store 190 i j):
 (execOp ev o).run prog w=.ok .skip (w.setRow b #[p,q,r])/\(execOp ev o).events prog w #[]=#[⟨.cell ⟨b,0,none⟩,true,false⟩,⟨.cell ⟨b,1,none⟩,true,false⟩,⟨.cell ⟨b,2,none⟩,true,false⟩]:=by
 obtain⟨dst,op,ty,pos,g,gd⟩:=o;simp only at c;subst c;have cX:w.cell? ⟨b,0,none⟩=some x:=Ex;have f0:w.frozen? ⟨b,0,none⟩=false:=by simp[World.frozen?,a]
 have f:(w.setCell ⟨b,0,none⟩ p).heap[b]?=some (.cells #[p,y,z] 190):=by simp[World.setCell,Array.getElem?_modify,a]
 have c1:(w.setCell ⟨b,0,none⟩ p).cell? ⟨b,1,none⟩=some y:=by simp[World.cell?,f]
 have f1:(w.setCell ⟨b,0,none⟩ p).frozen? ⟨b,1,none⟩=false:=by simp[World.frozen?,f]
 have e:((w.setCell ⟨b,0,none⟩ p).setCell ⟨b,1,none⟩ q).heap[b]?=some (.cells #[p,q,z] 190):=by simp_all[World.setCell,Array.getElem?_modify]
 have cr:((w.setCell ⟨b,0,none⟩ p).setCell ⟨b,1,none⟩ q).cell? ⟨b,2,none⟩=some z:=by simp[World.cell?,e]
 have kA:((w.setCell ⟨b,0,none⟩ p).setCell ⟨b,1,none⟩ q).frozen? ⟨b,2,none⟩=false:=by simp[World.frozen?,e]
 rw[<-apT a];constructor
 .simp[go_sem,hi,d,cX,f0,c1,f1,cr,kA,run_store,h]
 .simp[go_sem,hi,d,cX,f0,c1,f1,cr,kA,run_store,events_store,h]
def RR{ev:Operand->Value}{p q r:Int}{k:Operand}(hi:ev i=.int .i64 p)(b:ev j=.int .i64 q)(hk:ev k=.int .i64 r){o:Oper}(a:o.op=.build 190 #[(0,i),(1,j),(2,k)]):(execOp ev o).run prog w=.ok (.value (.agg #[.int .i64 p,.int .i64 q,.int .i64 r])) w/\(execOp ev o).events prog w #[]=#[]:=by
 obtain⟨dst,op,ty,pos,c,gd⟩:=o;simp only at a;subst a;constructor
 .simp[go_sem,hi,b,hk]
 .simp[go_sem,hi,b,hk]
def Ad(a:w.heap[b]?=some (.cells #[x,y,z] 190)){ev:Operand->Value}(hi:ev i=.pointer (some ⟨b,0,none⟩)){o:Oper}(c:o.op=.load 190 i):
 (execOp ev o).run prog w=.ok (.value (.agg #[x,y,z])) w/\(execOp ev o).events prog w #[]=#[⟨.cell ⟨b,0,none⟩,false,false⟩,⟨.cell ⟨b,1,none⟩,false,false⟩,⟨.cell ⟨b,2,none⟩,false,false⟩]:=by
 obtain⟨dst,op,ty,pos,d,gd⟩:=o;simp only at c;subst c;have cX:w.cell? ⟨b,0,none⟩=some x:=Ex;have c1:w.cell? ⟨b,1,none⟩=some y:=Ex;have cr:w.cell? ⟨b,2,none⟩=some z:=Ex;constructor
 .simp[go_sem,hi,cX,c1,cr]
 .simp[go_sem,hi,cX,c1,cr]
def Nl{t:Value}{tmps:Array Value}(a:w.heap[b]?=some (.cells #[x,y,z] 190))(c:tmps[2]?=some (.pointer (some ⟨b,0,none⟩)))(h3:tmps[3]?=some t):
 (results f85 tmps).run prog w=.ok (.tuple #[.agg #[x,y,z],t]) w/\(results f85 tmps).events prog w #[]=#[⟨.cell ⟨b,0,none⟩,false,false⟩,⟨.cell ⟨b,1,none⟩,false,false⟩,⟨.cell ⟨b,2,none⟩,false,false⟩]:=by
 have cX:w.cell? ⟨b,0,none⟩=some x:=Ex;have c1:w.cell? ⟨b,1,none⟩=some y:=Ex;have cr:w.cell? ⟨b,2,none⟩=some z:=Ex;constructor
 .simp[results,f85,go_sem,c,h3,cX,c1,cr]
 .simp[results,f85,go_sem,c,h3,cX,c1,cr]
end fO
namespace cz
open Conc ConcN ConcM bn ah fi
section
section
variable{Shun:Loc->Prop}{B n:Nat}{t:Trace}{p:jq}
def aqE(h:mS Shun B 0 n t)(hn:p.n=n)(q:p.base=n)(hsz:p.size=B)(z:p.tok=none)(w:LL p)(hK:∀b,p.K b\/p.mine 0 b->∀l,e8 l=some b->¬Shun l)(A:∀j b,j≠0->¬p.mine j b)(hg:∀l,p.gF l\/p.eK l->¬Shun l):eg p t:=by
 have o:∀j,p.be j->j=0:=λj d=>by
  rcases d with⟨h1,v|v⟩
  .exact v
  grind
 have mq:∀{i:Nat}{a:Touch},touchAt t i=some a->a.loc.isMemory=true->¬Shun a.loc->Knows t 0 i:=λg m hs=>(h.known _ _ g m).elim id AA;have y:∀{i:Nat}{a:Touch}{b:Nat},touchAt t i=some a->e8 a.loc=some b->p.K b\/p.mine 0 b->Knows t 0 i:=λg f q=>mq g (Fp f) (hK _ q _ f);refine⟨λi a c m cQ=>.inr ⟨λu=>hg _ (.inl u) (h.nT i a c m cQ),λb f=>⟨λhk=>hK b (.inl hk) _ f (h.nT i a c m cQ),λj d=>?_⟩⟩,λi op hi=>by rw[hn];exact h.gs op (Array.mem_of_getElem? hi),λi a b c f=>?_,λi a b c _ f hk j d=>?_,λj i a b d c f C=>?_,AA,λ_ i a c u=>.inl λj d=>?_,λi a c hs=>.inr (.inr λj d=>?_),λi a g=>?_,h.II,λi j d _ x=>.inl ?_⟩
 .by_cases e:j=0
  .subst e;exact hK b (.inr d) _ f (h.nT i a c m cQ)
  grind
 .rw[hsz];exact h.low i a b c f
 .grind
 .grind
 .rw[o j d];exact mq c (w.gF _ u) AA
 .rw[o j d];exact mq c (w.eK _ hs) (hg _ (.inr hs))
 .unfold Trace.act? at g;obtain⟨op,s,r⟩:=Option.map_eq_some_iff.1 g;exact h.qj op (Array.mem_of_getElem? s) a r
 .by_cases e:j=0
  .grind[Trace.g?,knows_own]
  .obtain⟨k,hk,q⟩:=h.over i j d e x;unfold Trace.g? at hk;obtain⟨op,s,r⟩:=Option.map_eq_some_iff.1 hk;exact⟨k,op,s,r,.inr q⟩
end
section
variable{c:dI}
def Ge(c:dI)(gs:Array Goroutine)(t:Trace)(q:Nat->Nat)(l0:ah.Lo At)(g:Goroutine)(w:aO)(M:Nat->Prop)(j:Nat):cy (ak (az c)):=
 if j=0 then⟨g,l0,⟨g,w,M⟩,0⟩else⟨gs.getD j default,(⟨.idle,false,Deaf t j,0,.old⟩:ah.Lo At),⟨gs.getD j default,w,λ_=>False⟩,q j⟩
def n4(c:dI)(gs:Array Goroutine)(t:Trace)(q:Nat->Nat)(l0:ah.Lo At)(g:Goroutine)(w:aO)(M:Nat->Prop):List (cy (ak (az c))):=(List.range gs.size).map (Ge c gs t q l0 g w M)
variable{gs:Array Goroutine}{t:Trace}{q:Nat->Nat}{l0:ah.Lo At}{g:Goroutine}{w:aO}{M:Nat->Prop}
def uT{j:Nat}{r:cy (ak (az c))}(h:(n4 c gs t q l0 g w M)[j]?=some r):j<gs.size/\r=Ge c gs t q l0 g w M j:=by unfold n4 at h;grind
theorem Gf:(n4 c gs t q l0 g w M).length=gs.size:=by simp[n4]
def aqF(h:0<gs.size):(n4 c gs t q l0 g w M)[0]?=some (⟨g,l0,⟨g,w,M⟩,0⟩:cy (ak (az c))):=by unfold n4;rw[List.getElem?_map,List.getElem?_range h];rfl
theorem Dx{j:Nat}(h:j≠0):Ge c gs t q l0 g w M j=⟨gs.getD j default,(⟨.idle,false,Deaf t j,0,.old⟩:ah.Lo At),⟨gs.getD j default,w,λ_=>False⟩,q j⟩:=by unfold Ge;grind
def aqG(h0:gs[0]?=some g):jY (ak (az c)) (n4 c gs t q l0 g w M)=gs:=by
 apply Array.ext_getElem?;intro j;rw[Bt];cases a:(n4 c gs t q l0 g w M)[j]? with
 |none=>grind[Gf]
 |some r=>
  obtain⟨h1,rfl⟩:=uT a;by_cases e:j=0
  .subst e;rw[h0];rfl
  simp_all[Dx]
theorem TU{f:bU->Nat}(b:f .idle=0):∀(xs:List bU),(∀x∈xs,x=.idle)->ah.aR f xs=0
 | [],_=>rfl
 |a::xs,h=>by have h1:=h a A_;subst h1;have c:=TU b xs AA;simp only[ah.aR,List.map_cons,List.sum_cons,b]at c⊢;omega
def aqH:∀(xs:List Nat)(a:Nat),xs[0]?=some a->(∀j x,j≠0->xs[j]?=some x->x=0)->xs.sum=a
 | [],a,h,_=>AA
 |b::xs,a,h,d=>by
  simp at h;subst h;have:∀(c:List Nat),(∀x∈c,x=0)->c.sum=0:=by intro c;induction c with|nil=>grind|cons y c f=>simp_all
  have:=this xs (λx e=>by
   obtain⟨j,g⟩:=List.mem_iff_getElem?.1 e;exact d (j+1) x As AA)
  grind
def aqI{f0 v:Nat}{b0:cx}(F:l0=⟨.idle,false,0,f0,.main (.spawn 0 false)⟩)(u:0<gs.size)(hn:gs.size=c.rows c.N)(e9:gs.size<=c.most)(m:b0.aR=0/\b0.dZ=false/\b0.fW=0/\b0.taken=0/\b0.came=0/\b0.done.length=c.N):
 (ak (az c)).pj (⟨⟨false,false,false,0,0,v⟩,f0+c.C*c.N,b0⟩:ah.aN cx) ((n4 c gs t q l0 g w M).map (·.l)):=by
 have get:∀{j:Nat}{l:ah.Lo At},((n4 c gs t q l0 g w M).map (·.l))[j]?=some l->(j=0/\l=l0)\/(j≠0/\l=⟨.idle,false,Deaf t j,0,.old⟩):=by
  intro j l h;rw[List.getElem?_map]at h;obtain⟨r,z,rfl⟩:=Option.map_eq_some_iff.1 h;obtain⟨h1,rfl⟩:=uT z;by_cases e:j=0
  .subst e;exact .inl ⟨Y,Y⟩
  grind[Dx]
 have C:((n4 c gs t q l0 g w M).map (·.l))[0]?=some l0:=by rw[List.getElem?_map,aqF u];rfl
 have d:∀{j:Nat}{a:At},(((n4 c gs t q l0 g w M).map (·.l)).map (·.am))[j]?=some a->(j=0/\a=.main (.spawn 0 false))\/(j≠0/\a=.old):=by grind
 have zero:∀(f:At->Nat),f (.main (.spawn 0 false))=0->f .old=0->dc f (((n4 c gs t q l0 g w M).map (·.l)).map (·.am))=0:=λf h1 A=>
  Ma f _ λi x y=>AA
 have idle:∀x∈((n4 c gs t q l0 g w M).map (·.l)).map (·.mx),x=.idle:=by grind[List.mem_iff_getElem?]
 have ci:=λf n=>TU (f:=f) n _ idle;refine⟨⟨?_,λ_=>?_,AA,λe=>?_,λi D o hi=>?_⟩,⟨λk p hk=>?_,λs hs=>.inl ?_,⟨.spawn 0 false,?_,m.2.1,m.2.2.1,zero _ Y Y,zero _ Y Y⟩,λj s b=>?_,?_,AA,m.2.2.2.2.2,λp=>?_,λj a b pv B=>?_,?_,λ⟨j,a,b,n⟩=>?_⟩,?_,λi l hi ht=>?_,λi l hi _=>?_,?_⟩
 .exact ci _ Y
 .exact⟨by rw[ci fV Y,ci dN Y];rfl,ci _ Y,ci _ Y,by rw[ci fm Y,ci dN Y];rfl⟩
 .exact absurd e.2.2.2 AA
 .grind
 .grind[Gf]
 .grind
 .grind
 .grind
 .rw[m.1];exact(zero _ Y Y).symm
 .grind[dW,hand,qp]
 .rcases d b with⟨_,rfl⟩|⟨_,rfl⟩<;>simp[laid]at B
 .have:∀k,jK (λp=>dc (er p) (((n4 c gs t q l0 g w M).map (·.l)).map (·.am))*c.rows p) k=0:=λk=>by induction k with|zero=>rfl|succ k E=>grind[fi.jK,er,qp]
  grind
 .rcases d b with⟨_,rfl⟩|⟨_,rfl⟩<;>simp[fi.zC]at n
 .have h1:(((n4 c gs t q l0 g w M).map (·.l)).map (·.fuel)).sum=f0:=by refine aqH _ _ AA λj x b y=>?_;grind
  have A:qn ⟨false,false,false,0,0,v⟩ (((n4 c gs t q l0 g w M).map (·.l)).map (·.mx))=0:=by unfold qn;rw[ci dN Y,ci eh Y]
  grind
 .grind
 .grind
 grind[Gf]
end
end
section
open av iE
section
variable{c:dI}{P:cg}{cY:Nat->Value->(Nat->Prop)->aO->Prop}{SM:ah.Lo At->aV->Prop}
def Dy(P:cg)(cY:Nat->Value->(Nat->Prop)->aO->Prop)(SM:ah.Lo At->aV->Prop):Bool->ah.Lo At->aV->Prop
 |true,l,X=>SM l X
 |false,l,X=>(l.am=.old/\∃k,QuitsD P k l.deaf X.g)\/∃q f,l=⟨.idle,false,1,f,.gone q⟩/\(∃k,QuitsD P k 1 X.g)/\oG cY q X.mine X.w
def aqJ:∀(l:ah.Lo At) X,Dy P cY SM false l X->(ak (az c)).Left l/\∃n,QuitsD P n ((ak (az c)).deaf l) X.g:=by
 rintro l X (⟨h1,a⟩|⟨q,f,rfl,a,_⟩)
 .grind[qq]
 .exact⟨PA,a⟩
def aqK{gs:Array Goroutine}{t:Trace}{q:Nat->Nat}{g:Goroutine}{w:aO}{M:Nat->Prop}{Shun:Loc->Prop}{f0 v:Nat}{b0:cx}(h0:gs[0]?=some g)(hrun:g.status=.running)(B:Leavers P t gs q)(p:mS Shun w.heap.size 0 gs.size t)(hn:gs.size=c.rows c.N)(e9:gs.size<=c.most)(d:b0.aR=0/\b0.dZ=false/\b0.fW=0/\b0.taken=0/\b0.came=0/\b0.done.length=c.N)(y:w.heap[c.st]?=some (gT (az c) ⟨false,false,false,0,0,v⟩ b0)/\(az c).nV b0 w)(u:∀b,M b->¬(ak (az c)).gG b/\¬c.K b)(n:∀b,M b\/c.K b\/(ak (az c)).gG b->b<w.heap.size/\∀l,e8 l=some b->¬Shun l)(ht:bh (ak (az c)) P (Dy P cY SM) true ⟨.idle,false,0,f0,.main (.spawn 0 false)⟩ ⟨⟨false,false,false,0,0,v⟩,f0+c.C*c.N,b0⟩ ⟨g,w,M⟩):
 Inv (ak (az c)) P (Dy P cY SM) gs.size (n4 c gs t q ⟨.idle,false,0,f0,.main (.spawn 0 false)⟩ g w M) ⟨⟨false,false,false,0,0,v⟩,f0+c.C*c.N,b0⟩ w t:=by
 have x:0<gs.size:=(Array.getElem?_eq_some_iff.1 h0).1;have G:=dg (bR c);refine⟨λj r a=>?_,aqI Y x hn e9 d,y,λj r a=>?_,λj r a b m=>?_,λj k r s a hk z b h1 o=>?_,AA,λj r a C _=>?_,⟨none,λj r a=>?_,?_⟩,by grind[Gf]⟩
 .obtain⟨h1,rfl⟩:=uT a;by_cases e:j=0
  .subst e;exact .runs Y hrun ht A_ p.hears Y Lv
  .have A:(j==0)=false:=by simp[e]
   rw[Dx e,A];have hq:=B.old j (gs.getD j default) As Br;exact .leaves Y hq trivial (.inl ⟨Y,_,hq⟩)
 .obtain⟨h1,rfl⟩:=uT a;unfold Ge;split<;>exact⟨⟨λ_ _=>Y,Nat.le_refl _,.refl _⟩,.refl _,Y,Y⟩
 .obtain⟨h1,rfl⟩:=uT a;by_cases e:j=0
  .subst e;exact⟨(u b m).1,(u b m).2,(n b (.inl m)).1⟩
  grind[Dx]
 .obtain⟨_,rfl⟩:=uT a;obtain⟨_,rfl⟩:=uT hk;grind[Dx]
 .obtain⟨_,rfl⟩:=uT a;rw[Dx C];exact⟨PA,λb h=>h⟩
 .obtain⟨_,rfl⟩:=uT a;grind[Ge]
 .refine aqE p Gf Y Y Y (Ys G _ _ _ _) (λb d=>(n b ?_).2) (λj b a D=>?_) (λl f=>?_)
  .rcases d with d|⟨r,i,d⟩
   .exact .inr (.inl d)
   .obtain⟨_,rfl⟩:=uT i;exact .inl d
  .obtain⟨r,i,d⟩:=D;obtain⟨_,rfl⟩:=uT i;grind[Dx]
  .rcases f with f|f
   .obtain⟨b,h1,o⟩:=G.Fs l f;grind
   .obtain⟨b,h1,o⟩:=G.Bl l f;grind
end
section
variable{P:cg}{Post:Value->aO->Prop}{p:jq}{g g1:Goroutine}{w:aO}
def Gg(p:jq)(l:Loc):Prop:=p.eK l\/(Yi p l/\∃b,e8 l=some b/\b<p.size)
theorem aqL{t:Trace}(f:eg p t)(hk:∀i j,t.g? i=some j->p.past j->t.counts i->Knows t 0 i)(s:∀j,j≠0->j<p.n->p.past j)(hd:Deaf t 0=0):mS (Gg p) p.size 0 p.n t:=by
 have nT:∀i a,touchAt t i=some a->a.loc.isMemory=true->a.kind=.atomic->Gg p a.loc:=λi a n m hk=>by obtain⟨b,g⟩:=aj6 m;exact(f.nT i a n m hk).imp id λhn=>⟨hn,b,g,f.low i a b n g⟩
 have l:∀{i:Nat}{op:MemOp},t[i]?=some op->op.g≠0->p.past op.g:=λh d=>s _ d (f.gs _ _ h);refine⟨λop c=>?_,λop c a e=>?_,nT,f.xl,λi a n m=>?_,λi j q d u=>?_,hd,f.low⟩
 .obtain⟨i,hi⟩:=Array.mem_iff_getElem?.1 c;exact f.gs i op hi
 .obtain⟨i,hi⟩:=Array.mem_iff_getElem?.1 c;exact f.qj i a (by grind[Trace.act?])
 .obtain⟨op,o,v⟩:=touch_of n;by_cases e:op.g=0
  .grind[knows_own]
  .by_cases r:a.kind=.atomic
   .grind
   .exact .inl (hk i op.g Iv (l o e) ⟨a,by grind[Trace.act?],m,.inl r⟩)
 .unfold Trace.g? at q;obtain⟨op,o,rfl⟩:=Option.map_eq_some_iff.1 q;obtain⟨k,z,w,x,g⟩:=hk i op.g Iv (l o d) u;refine⟨k,Iv,?_⟩;rcases g with rfl|g
  .grind
  grind
def aqM(hs:g.status=.running)(hstep:∀w,stepG P true g w=.go g1 w #[⟨.mark (.acquire p.wg),false,true⟩])(E:∀j,j≠0->j<p.n->p.past j)(hsz:w.heap.size=p.size)(u:∀k,bS P Post p.n (Gg p) 0 g1 (w.at k)):
 ∀(M:Nat)(gs:Array Goroutine)(sl:Option (Nat×Nat))(q:Nat->Nat)(t:Trace)(a:Nat),sumTo gs.size q<=M->gs.size=p.n->gs[0]?=some g->Leavers P t gs q->eg p t->Deaf t 0=0->lS P Post (crowd gs (w.at a) sl) t:=by
 have own:∀(gs:Array Goroutine)(sl sl':Option (Nat×Nat))(q:Nat->Nat)(t:Trace)(a k:Nat),stepT P (crowd gs (w.at a) sl)=runT P (crowd gs (w.at k) sl') 0->gs.size=p.n->gs[0]?=some g->Leavers P t gs q->eg p t->Deaf t 0=0->lS P Post (crowd gs (w.at a) sl) t:=by
  intro gs sl sl' q t a k hst hn h0 b c hd;have n:=runT_crowd_go (P:=P) (sl:=sl') (i:=0) h0 (show stepG P (0==0) g (w.at k)=_ from hstep _);have d:0<gs.size:=(Array.getElem?_eq_some_iff.1 h0).1;have F:=LS 0 g.frame.fn g.frame.place (.acquire p.wg);obtain⟨D,hk⟩:=c.akd (y:=({g:=0,fn:=g.frame.fn,pos:=g.frame.place,act:=.mark (.acquire p.wg)}:MemOp)) Y As Y hd;have I:Deaf (t++MemOp.ofEvents 0 g.frame.fn g.frame.place #[⟨.mark (.acquire p.wg),false,true⟩]) 0=0:=by rw[Deaf_own,hd];rfl
  have L:mS (Gg p) p.size 0 p.n (t++MemOp.ofEvents 0 g.frame.fn g.frame.place #[⟨.mark (.acquire p.wg),false,true⟩]):=by grind[aqL,Ft]
  refine lS.step (hst.trans n) (u k _ _ q _ AA AA ⟨λj x m l=>?_,λj m=>?_⟩ (by rw[show(w.at k).heap.size=p.size from hsz];grind))
  .have f:0≠j:=by omega
   rw[Array.getElem?_setIfInBounds_ne f,Array.getElem?_map]at l;obtain⟨y,r,rfl⟩:=Option.map_eq_some_iff.1 l;have hq:=b.old j y m r;grind[woken_quitsD,B2]
  .rw[B2 _ _ _ _ AA];exact b.above j AA
 intro M;induction M with
 |zero=>
  intro gs sl q t a C hn h0 b c hd;obtain⟨i,v,k,sl',hi,hg,hst⟩:=crowd_pick (P:=P) (w:=w.at a) (sl:=sl) (FI b h0 hs) AA;rcases Nat.eq_zero_or_pos i with rfl|e
  .exact own gs sl sl' q t a k hst hn h0 b c hd
  .obtain⟨gs',h,fn,pos,es,_,_,_,_,_,d⟩:=Sq (w:=w) (k:=k) (sl':=sl') b h0 hs e hi hg;omega
 |succ M o=>
  intro gs sl q t a C hn h0 b c hd;obtain⟨i,v,k,sl',hi,hg,hst⟩:=crowd_pick (P:=P) (w:=w.at a) (sl:=sl) (FI b h0 hs) AA;rcases Nat.eq_zero_or_pos i with rfl|e
  .exact own gs sl sl' q t a k hst hn h0 b c hd
  .obtain⟨gs',h,fn,pos,es,B,K,A,z,J,H⟩:=Sq (w:=w) (k:=k) (sl':=sl') b h0 hs e hi hg;have d:i<gs.size:=(Array.getElem?_eq_some_iff.1 hi).1;refine lS.step (hst.trans B) (o gs' sl' h _ k As As A z ?_ ?_)
   .exact eg.mute (p:=p) (i:=i) As fn pos es.toList c AA
   .rw[Deaf_other t (g':=i) As _ (λop s=>EU)];exact hd
end
end
section
open av iE
section
variable{c:dI}{P:cg}{Post:Value->aO->Prop}{cY:Nat->Value->(Nat->Prop)->aO->Prop}
structure Jo(c:dI)(cY:Nat->Value->(Nat->Prop)->aO->Prop)(M:Nat->Prop)(w0:aO)(n':Nat)(bw:Loc->Prop)(M':Nat->Prop)(D:List Value)(w':aO):Prop where
 n:n'<=c.most
 Dz:∀b,M' b\/w'.heap.size<=b->∀l,e8 l=some b->¬bw l
 aqN:∀off sp,2<=off->¬bw (.cell ⟨c.st,off,sp⟩)
 aqO:bw (.cell ⟨c.st,0,none⟩)/\bw (.cell ⟨c.st,1,none⟩)
 sub:∀b,M b\/c.K b\/b=c.bF->M' b
 low:∀b,M' b\/b=c.st->b<w'.heap.size
 TV:¬M' c.st
 len:D.length=c.N
 done:w'.heap[c.bF]?=some (.cells D.toArray c.FB)
 st:∃T m:Nat,w'.heap[c.st]?=some (.cells #[.int .i32 0,.int .u32 0,c.size,c.zF,.int .i64 (T:Int),.int .i64 (m:Int),c.xt,c.least] c.Md)
 stands:∀b,c.K b\/M b->w'.heap[b]?=w0.heap[b]?
 size:w0.heap.size<=w'.heap.size
 os:OsLater w0.os w'.os
 output:w'.output=w0.output
 tape:w'.tape=w0.tape
 FK:∀p,p<c.N->∃v,D[p]?=some v/\cY p v M' w'
def Jp(c:dI)(P:cg)(M:Nat->Prop)(w0:aO)(lZ:Goroutine->Prop)(l:ah.Lo At)(X:aV):Prop:=
 (l.mx=.idle/\l.deaf=0/\l.am=.main .over)/\(∃g1,(∀w,stepG P true X.g w=.go g1 w #[⟨.mark (.acquire ⟨c.wg,0,none⟩),false,true⟩])/\∃g',lZ g'/\∃k,∀w,Goes P true (λ_ _=>True) Go.ConcR.DC0 (λg2 _=>g2=g') k g1 w)/\ai (ak (az c)) M w0 X.w/\∀b,M b->X.mine b
def aqP{m:bj}{xs:List bU}(h:df m xs)(hi:∀x∈xs,x=.idle):m.L=false/\m.W=false/\m.S=false/\m.k=0/\m.sema=0:=by
 have ci:=λf a=>TU (f:=f) a _ hi;have h1:=h.o;rw[ci _ Y]at h1;have c:m.L=false:=AA;have hS:m.S=false:=by cases hs:m.S with
  |false=>rfl
  |true=>have:=h.st hs;rw[ci fm Y,ci fb Y]at this;omega
 have b:=h.nm hS;rw[ci fV Y,ci dN Y,ci fm Y]at b;grind
def aqQ(j0:∀T v M w M' w',cY T v M w->(∀b,c.K b\/M b->w'.heap[b]?=w.heap[b]?)->(∀b,M b->M' b)->cY T v M' w'){n:Nat}{g:Goroutine}{lZ:Goroutine->Prop}{w w0:aO}{M:Nat->Prop}{Shun:Loc->Prop}{f0 v:Nat}{b0:cx}(hrun:g.status=.running)(hn:n=c.rows c.N)(e9:n<=c.most)(f:b0.aR=0/\b0.dZ=false/\b0.fW=0/\b0.taken=0/\b0.came=0/\b0.done.length=c.N)(oz:w.heap[c.st]?=some (gT (az c) ⟨false,false,false,0,0,v⟩ b0)/\(az c).nV b0 w)(dz:∀b,M b->¬(ak (az c)).gG b/\¬c.K b)(nl:∀b,M b\/c.K b\/(ak (az c)).gG b->b<w.heap.size/\∀l,e8 l=some b->¬Shun l)(ht:∀k,bh (ak (az c)) P (Dy P cY (Jp c P M w0 lZ)) true ⟨.idle,false,0,f0,.main (.spawn 0 false)⟩ ⟨⟨false,false,false,0,0,v⟩,f0+c.C*c.N,b0⟩ ⟨g,w.at k,M⟩)(TW:∀g',lZ g'->∀n' bw M' D w',Jo c cY M w0 n' bw M' D w'->bS P Post n' bw 0 g' w'):bS P Post n Shun 0 g w:=by
 intro gs sl q t hsz h0 aM gb;have G:=dg (bR c);have aqR:=aqK (c:=c) (cY:=cY) (SM:=Jp c P M w0 lZ) (M:=M) h0 hrun aM AA (hsz.trans hn) AA f oz dz nl (ht w.drawn);obtain⟨N,m',t1,U,rs,γ,w1,S,rfl,⟨E,y,Nz,Bc⟩,o,vq⟩:=phase G aqJ aqR (by rw[Gf];grind) sl;rw[aqG h0]at U;refine lS.leads (q:=λm t=>m=crowd (jY (ak (az c)) rs) w1 S/\t=t1) (λm t z=>?_) N U ⟨Y,Y⟩;obtain⟨rfl,rfl⟩:=z;obtain⟨⟨hmx,Bu,nk⟩,⟨g1,aqS,g',aqT,kk,aqU⟩,L,db⟩:=Nz;have W:rT (az c) γ (rs.map (·.l)):=o.sV;have A:c2 c.N c.rows γ.am ((rs.map (·.l)).map (·.am)):=W.oB;have QS:∀{j:Nat}{r:cy (ak (az c))},rs[j]?=some r->(rs.map (·.l))[j]?=some r.l:=λh=>AA;have I3:∀{j:Nat}{r:cy (ak (az c))},rs[j]?=some r->((rs.map (·.l)).map (·.am))[j]?=some (show ah.Lo At from r.l).am:=λh=>AA;have NA:((rs.map (·.l)).map (·.am))[0]?=some (.main .over):=AA;have R:∀{j:Nat}{r:cy (ak (az c))},j≠0->rs[j]?=some r->(ak (az c)).Left r.l:=λu h=>(A.all NA _ _ (I3 h)).resolve_left u;have aqV:∀{j:Nat}{r:cy (ak (az c))},j≠0->rs[j]?=some r->QuitsD P r.n (Deaf t j) r.g/\Dy P cY (Jp c P M w0 lZ) false r.l r.X:=by intro j r u h;have e0:(j==0)=false:=AA;have hs:=o.sits j r h;rw[e0]at hs;cases hs with|runs _ _ _ _ _ _ s=>grind|waits _ _ _ _ _ _ _ _ s=>grind|leaves _ hq _ hs=>grind
 obtain⟨aQ,LU,hT⟩:=o.aQ;have aqW:E.X.g.status=.running:=by cases o.sits 0 E y with|runs _ d _ _ _ _ _=>exact d|waits _ d _ _ _ _ _ _ _=>exact d|leaves z _ _ _=>cases z
 have aqX:Deaf t 0=0:=by cases o.sits 0 E y with|runs _ _ _ _ hd _ _=>grind|waits _ _ _ _ rR _ hd _ _=>grind|leaves z _ _ _=>cases z
 have aqY:(iC (ak (az c)) gs.size rs w1.heap.size aQ).n=rs.length:=rfl;have aqZ:Leavers P t (jY (ak (az c)) rs) (λj=>((rs[j]?).map (·.n)).getD 0):=by
  refine⟨λi x hi C=>?_,λj u=>?_⟩
  .grind[Bt]
  .refine Deaf_absent λi op hi e=>?_;have:=hT.gs i op hi;grind[jY]
 have tS:∀j,j≠0->j<(iC (ak (az c)) gs.size rs w1.heap.size aQ).n->(iC (ak (az c)) gs.size rs w1.heap.size aQ).past j:=by intro j u I;have d:rs[j]?=some rs[j]:=List.getElem?_eq_getElem I;refine⟨rs[j],d,?_⟩;have:=R u d;show kp (show ah.Lo At from rs[j].l).am=true;have F:qq (show ah.Lo At from rs[j].l).am:=this;cases X:(show ah.Lo At from rs[j].l).am with|gone _=>rfl|old=>rfl|main _=>rw[X]at F;exact F.elim|work _ _=>rw[X]at F;exact F.elim
 let M':Nat->Prop:=λb=>M b\/c.K b\/b=c.bF\/∃(j:Nat)(r:cy (ak (az c))),rs[j]?=some r/\r.X.mine b
 have aq0:∀b,M' b->b≠c.st/\b≠c.wg:=by
  rintro b (h|h|h|⟨j,r,d,h⟩)
  .grind
  .exact⟨(c.zG b h).1,(c.zG b h).2.1⟩
  .exact⟨λe=>c.eZ.2.1 (e.symm.trans h),λe=>c.eZ.2.2 (e.symm.trans h)⟩
  .have:=(o.sh j r d b h).1;grind
 have gJ:∀b,M' b->∀l,e8 l=some b->¬Gg (iC (ak (az c)) gs.size rs w1.heap.size aQ) l:=by
  intro b f l s hs;rcases hs with hs|⟨⟨hg,hn⟩,_⟩
  .have V:l=.cell (ah.fN (az c))\/l=.cell (ah.ko (az c))\/(l=.cell ⟨c.wg,0,none⟩\/l=.cell ⟨c.wg,1,none⟩):=hs;rcases V with rfl|rfl|rfl|rfl<;>simp only[e8,Option.some.injEq,ah.fN,ah.ko]at s
   .grind
   .grind
   .grind
   grind
  .obtain⟨hK,z⟩:=hn b s;rcases f with h|h|h|⟨j,r,d,h⟩
   .exact z 0 ⟨E,y,(db b) h⟩
   .exact hK h
   .subst h;exact hg (.inr s)
   .exact z j ⟨r,d,h⟩
 refine aqM (w:=w1) aqW aqS tS Y (λk=>?_) _ _ S _ t w1.drawn J1 (by simp[jY,aqY]) (by rw[Bt,y];grind) aqZ hT aqX;have zc:∀{j:Nat}{r:cy (ak (az c))},rs[j]?=some r->∀b,c.K b\/r.X.mine b->w1.heap[b]?=r.X.w.heap[b]?:=λh b f=>(o.rely _ _ h).1.heap b f;have Q:w1.heap[c.st]?=some (gT (az c) γ.mu γ.am)/\w1.heap[c.wg]?=some (r5 c γ.am)/\(True->w1.heap[c.bF]?=some (FC c γ.am)):=o.mt;have aq1:∀x∈(rs.map (·.l)).map (λl:ah.Lo At=>l.mx),x=.idle:=by
  intro x C;obtain⟨l,s,rfl⟩:=List.mem_map.1 C;obtain⟨r,d,rfl⟩:=List.mem_map.1 s;obtain⟨j,u⟩:=List.mem_iff_getElem?.1 d;by_cases e:j=0
  .grind
  .exact W.Iq j r.l (QS u) (R e u)
 obtain⟨m1,nC,r4,BG,TX⟩:=aqP W.lx aq1;have L4:γ.mu.word=0:=H8;obtain⟨EL,Fc,TY,aq2⟩:=o.rely 0 E y;have jk:∀k,Jo c cY M w0 rs.length (Gg (iC (ak (az c)) gs.size rs w1.heap.size aQ)) M' γ.am.done (w1.at k):=by
  intro k;refine⟨by have:=W.len;grind,λb f l s=>?_,λoff sp F hs=>?_,⟨.inl Kg,.inl (.inr Kg)⟩,?_,?_,λh=>(aq0 _ h).1 Y,A.len,?_,⟨γ.am.taken,γ.am.came,?_⟩,λb f=>?_,Nat.le_trans L.size EL.size,L.later.trans Fc,TY.trans L.output,aq2.trans L.tape,λp X=>?_⟩
  .rcases f with f|f
   .grind
   .rintro(hs|⟨_,b',H,I⟩)
    .obtain⟨b',H,V⟩:=G.Bl l hs;rw[s]at H;cases H;have:=o.low b (.inr V);have e:(w1.at k).heap.size=w1.heap.size:=rfl;omega
    .rw[s]at H;cases H;have e:(iC (ak (az c)) gs.size rs w1.heap.size aQ).size=w1.heap.size:=rfl;have e':(w1.at k).heap.size=w1.heap.size:=rfl;omega
  .rcases hs with hs|⟨⟨hg,_⟩,_⟩
   .have V:(.cell ⟨c.st,off,sp⟩:Loc)=.cell (ah.fN (az c))\/(.cell ⟨c.st,off,sp⟩:Loc)=.cell (ah.ko (az c))\/((.cell ⟨c.st,off,sp⟩:Loc)=.cell ⟨c.wg,0,none⟩\/(.cell ⟨c.st,off,sp⟩:Loc)=.cell ⟨c.wg,1,none⟩):=hs;grind[ah.fN,ah.ko]
   .exact hg (.inl ⟨off,sp,Y,F⟩)
  .rintro b (h|h|h)
   .exact .inl h
   .exact .inr (.inl h)
   .exact .inr (.inr (.inl h))
  .rintro b ((h|h|h|⟨j,r,d,h⟩)|h)
   .exact(o.sh 0 E y b ((db b) h)).2.2
   .exact o.low b (.inl h)
   .exact o.low b (.inr (.inr (.inr h)))
   .exact(o.sh j r d b h).2.2
   .exact o.low b (.inr (.inl h))
  .exact Q.2.2 trivial
  .show w1.heap[c.st]?=_;rw[Q.1];unfold gT;rw[L4,TX];rfl
  .exact(zc y b (f.imp id (db b))).trans (L.heap b f)
  .have jJ:γ.am.taken=c.N:=by
    rcases A.t6 .over NA with⟨q',e⟩|⟨a,Z,hw⟩
    .cases e
    .have DC:=(A.all NA _ _ Z);refine A.eI ⟨_,a,Z,?_⟩;rcases DC with e|e
     .rw[e,NA]at Z;cases Z;cases hw
     .cases a<;>first|exact e.elim|rfl|cases hw
   have c9:=A.own p;rw[jJ,if_pos X]at c9;obtain⟨j,a,u,B⟩:∃(j:Nat)(a:At),((rs.map (·.l)).map (λl:ah.Lo At=>l.am))[j]?=some a/\0<dW p a:=by
    by_cases K:∃(j:Nat)(a:At),((rs.map (·.l)).map (λl:ah.Lo At=>l.am))[j]?=some a/\0<dW p a
    .exact K
    .exfalso;have hz:dc (dW p) ((rs.map (·.l)).map (λl:ah.Lo At=>l.am))=0:=Ma _ _ λi x C=>by
      rcases Nat.eq_zero_or_pos (dW p x)with e|e
      .exact e
      .exact absurd ⟨i,x,C,e⟩ K
     have vD:dc (dW p) ((rs.map (·.l)).map (λl:ah.Lo At=>l.am))=1:=c9;omega
   have J:=u;rw[List.getElem?_map]at J;obtain⟨l,s,rfl⟩:=Option.map_eq_some_iff.1 J;rw[List.getElem?_map]at s;obtain⟨r,d,rfl⟩:=Option.map_eq_some_iff.1 s;have Ny:j≠0:=by rintro rfl;rw[y]at d;cases d;rw[nk]at B;simp[dW,hand,qp]at B
   rcases(aqV Ny d).2 with⟨e,_⟩|⟨q',f',e,_,lC⟩
   .rw[e]at B;simp[dW,hand,qp]at B
   .rw[e]at B;simp only[dW,hand,qp,List.count_nil,Nat.zero_add]at B;obtain⟨x,C,O⟩:=List.mem_map.1 (List.count_pos_iff.1 B);refine⟨x.2,?_,?_⟩
    .have:=A.val j _ u x (by rw[e];exact C);rw[O]at this;exact this
    .have h1:=lC x C;rw[O]at h1;exact j0 _ _ _ _ _ _ h1 (λb f=>zc d b f) (λb f=>.inr (.inr (.inr ⟨j,r,d,f⟩)))
 exact zU (Zp kk g1 (w1.at k) (aqU _) λk'=>TW g' aqT _ _ _ _ _ (jk k'))
end
end
end cz
namespace wm
open Conc ConcM av bn ah fi
section
section
variable{c:dI}{Q:cg}{Stop:Bool->ah.Lo At->aV->Prop}{l:ah.Lo At}{γ:ah.aN cx}{X:aV}{w':aO}
def aq3{P:cg}{main:Bool}{b:Frame}{a:Act}{k:List Item}{cs:List Frame}{w:aO}{ops:Array Oper}{i:Nat}{rest:List Nat}{o:Oper}{f:FuncId}{x:Operand}{cap:Array Value}{ats:Array TypeId}(g:ops[i]?=some o)(c:Region.wanted o (yielded ops a.tmps)=true)(hk:b.kind≠ .early)(e:o.op=.go {callee:=.value x,args:=#[],argTypes:=ats})(j:a.eval x=.func (.func f) #[] cap):
 stepG P main (Conc.G (b.at a (.inRegion ops (i::rest)::k)) cs) w=.spawn (Conc.G (b.at (a.put o.dst undef) (.inRegion ops rest::k)) cs) (born P (r7 f cap)) w #[]:=by
 have d:(execOp a.eval o).run P w=.ok (.spawn (r7 f cap)) w:=by simp_all[execOp,resolve,Deferred.ofValue,r7]
 have h:listed P b.fn a o w=#[]:=by simp_all[listed,execOp,resolve,Deferred.ofValue,seen_none]
 rw[stepG_spawn g c hk d Y,h]
def aq4(o:dO (ak (az c)) l γ X w'){g1 child:Goroutine}(hs:stepG Q true X.g w'=.spawn g1 child w' #[])(hrun:g1.status=.running)(n:child.status=.running){f k:Nat}(p:l=⟨.idle,false,0,f+20,.main (.spawn k true)⟩)(hk:c.rows c.N+k+1<=c.most)(h:bh (ak (az c)) Q Stop true ⟨.idle,false,0,f,.main (.spawn (k+1) false)⟩ {γ with a_:=γ.a_-1} ⟨g1,w',X.mine⟩)(u:bh (ak (az c)) Q Stop false ⟨.idle,false,0,19,.work .free []⟩ {γ with a_:=γ.a_-1} ⟨child,w',λ_=>False⟩):Then (Z:=ak (az c)) Q Stop true l γ X w':=by
 have hg:grown X.mine w' w'=X.mine:=kX Y;have key:∀(ls:List (ah.Lo At)),ls[0]?=some l->rT (az c) γ ls->1<=γ.a_/\((ls.set 0 (⟨.idle,false,0,f,.main (.spawn (k+1) false)⟩:ah.Lo At)).map (·.fuel)).sum+19+2*qn γ.mu (ls.map (·.mx))+c.C*(c.N-γ.am.taken)<=γ.a_-1:=by
  intro ls hi b;have m:0<ls.length:=(List.getElem?_eq_some_iff.1 hi).1;have e:=Fu (ls.map (·.fuel)) 0 f AA;have w:(ls.set 0 (⟨.idle,false,0,f,.main (.spawn (k+1) false)⟩:ah.Lo At)).map (·.fuel)=(ls.map (·.fuel)).set 0 f:=Br;rw[w];have v:(ls.map (·.fuel))[0]'AA=f+20:=by grind
  rw[v]at e;have y:(ls.map (λx:ah.Lo At=>x.fuel)).sum+2*qn γ.mu (ls.map (λx:ah.Lo At=>x.mx))+c.C*(c.N-γ.am.taken)<=γ.a_:=b.gI;grind
 refine .born (l1:=(⟨.idle,false,0,f,.main (.spawn (k+1) false)⟩:ah.Lo At)) (bx:=({γ with a_:=γ.a_-1}:ah.aN cx)) (lc:=(⟨.idle,false,0,19,.work .free []⟩:ah.Lo At)) Y hs ⟨hrun,n,ra _ _ _,o.mt,?_,λls hi b=>?_,PA,⟨by rw[p],Y,Y,Y⟩,AA,⟨by rw[p];rfl,Y⟩,λs q=>q,λe=>e,λe=>e⟩ AA u
 .obtain⟨ls,i,hi,b⟩:∃(ls:List (ah.Lo At))(i:Nat),ls[i]?=some l/\rT (az c) γ ls:=o.sees;have h0:=b.oB.only i (.spawn k true) AA;grind
 .have a:rT (az c) γ ls:=b;obtain⟨B,A⟩:=key ls hi a;have m:0<ls.length:=(List.getElem?_eq_some_iff.1 hi).1;have r:(ls.set 0 (⟨.idle,false,0,f,.main (.spawn (k+1) false)⟩:ah.Lo At)++[(⟨.idle,false,0,19,.work .free []⟩:ah.Lo At)]).map (·.mx)=ls.map (·.mx)++[.idle]:=by grind[RG]
  have z:(ls.set 0 (⟨.idle,false,0,f,.main (.spawn (k+1) false)⟩:ah.Lo At)++[(⟨.idle,false,0,19,.work .free []⟩:ah.Lo At)]).map (·.am)=(ls.map (·.am)).set 0 (.main (.spawn (k+1) false))++[.work .free []]:=by simp_all
  have d:(ls.map (·.am))[0]?=some (.main (.spawn k true)):=AA;have get:∀{i:Nat}{x:ah.Lo At},(ls.set 0 (⟨.idle,false,0,f,.main (.spawn (k+1) false)⟩:ah.Lo At)++[(⟨.idle,false,0,19,.work .free []⟩:ah.Lo At)])[i]?=some x->x=⟨.idle,false,0,f,.main (.spawn (k+1) false)⟩\/ls[i]?=some x\/x=⟨.idle,false,0,19,.work .free []⟩:=by grind
  refine⟨⟨by rw[r];exact ah.df.push a.lx,by rw[z];exact a.oB.born d,?_,λi x g ht=>?_,λi x g t=>?_,?_⟩,λj s q D=>.inr ⟨AA,AA,.refl _ _⟩⟩
  .rw[r];have ht:qn γ.mu (ls.map (·.mx)++[.idle])=qn γ.mu (ls.map (·.mx)):=by unfold qn;rw[Rz,Rz];rfl
   grind
  .rcases get g with rfl|h1|rfl
   .cases ht
   .exact a.aQ i x h1 ht
   grind
  .rcases get g with rfl|h1|rfl
   .rfl
   .exact a.Iq i x h1 t
   .rfl
  .have C:=a.oB.oE k true d;grind
end
end
end wm
namespace iE
open Conc RowKit Conc.Lib ConcR.Gen ConcM av bn ah fi hZ fO
theorem z4:(f85.name== "runtime.NumGoroutine")=false:=by kernel_rfl
theorem aq_:(f86.name== "runtime.NumGoroutine")=false:=by kernel_rfl
section
variable{c:dI}{Stop:Bool->ah.Lo At->aV->Prop}{fr aU:Nat->Nat}{gq:Value}{cY:Nat->Value->(Nat->Prop)->aO->Prop}
theorem oG.step(d:∀T v M w M' w',cY T v M w->(∀b,c.K b\/M b->w'.heap[b]?=w.heap[b]?)->(∀b,M b->M' b)->cY T v M' w'){q:List (Nat×Value)}{M M':Nat->Prop}{w w':aO}(h:oG cY q M w)(a:h5 (ak (az c)) M w M' w'):oG cY q M' w':=λx e=>d _ _ _ _ _ _ (h x e) a.rw.heap a.sub
section
variable{a2:Frame}{aF:Act}{aD:Array Oper}{aI:Nat}{aL:List Nat}{aH:List Item}{csZ:List Frame}
def ara{f:Nat}{M:Nat->Prop}{w0 cf:aO}(hI:pq c cf w0)(S:∀T v M w M' w',cY T v M w->(∀b,c.K b\/M b->w'.heap[b]?=w.heap[b]?)->(∀b,M b->M' b)->cY T v M' w')(NB:∀q k w1,af (ak (az c)) k w1 [] w1->i_ prog Stop false 85 #[.pointer (some ⟨c.st,0,none⟩)] (fo c ⟨.idle,false,0,f+15,.work .free q⟩ k w1) (λu U=>(u=.tuple #[.agg #[.int .i64 0,.int .i64 0,.int .i64 0],.bool false]/\U=vU c ⟨.idle,false,0,f+1,.work .free q⟩ k w1)\/∃T,T<c.N/\u=.tuple #[.agg #[.int .i64 (T:Int),.int .i64 (fr T:Int),.int .i64 (aU T:Int)],.bool true]/\U=fo c ⟨.idle,false,0,f+31,.work (.has T) q⟩ k w1))(TZ:∀q T k w1,T<c.N->pq c cf w1->i_ prog Stop false 86 #[.pointer (some ⟨c.st,0,none⟩),gq,.agg #[.int .i64 (T:Int),.int .i64 (fr T:Int),.int .i64 (aU T:Int)]] (fo c ⟨.idle,false,0,f+31,.work (.has T) q⟩ k w1) (λu U=>u=.tuple #[]/\∃v o D,h5 (ak (az c)) k w1 o D/\cY T v o D/\U=fo c ⟨.idle,false,0,f+15,.work .free ((T,v)::q)⟩ o D))(hK:∀q M' w1,h5 (ak (az c)) M w0 M' w1->oG cY q M' w1->∀w γ,af (ak (az c)) M' w1 [] w->c.N<=γ.am.taken->bh (ak (az c)) prog Stop false ⟨.idle,false,0,f+1,.work .free q⟩ γ ⟨Conc.G (a2.at (aF.put ((aD[aI]?).bind (·.dst)) (.tuple #[])) (.inRegion aD aL::aH)) csZ,w,M'⟩)(n:Nat):
 ∀(q:List (Nat×Value))(k:Nat->Prop)(w1:aO)(bc T:Nat)(dQ j4 V W ft eW fu fv fx fy Z X fG fz fA fB iq fC:Value),c.N<=q.length+n->T<c.N->k bc->w1.heap[bc]?=some (Obj.cells #[.int .i64 (T:Int),.int .i64 (fr T:Int),.int .i64 (aU T:Int)] 190)->h5 (ak (az c)) M w0 k w1->oG cY q k w1->∀w γ,af (ak (az c)) k w1 [] w->bh (ak (az c)) prog Stop false ⟨.idle,false,0,f+31,.work (.has T) q⟩ γ ⟨Conc.G ((base 55).at ⟨#[.pointer (some ⟨c.st,0,none⟩),gq,dQ,j4,.pointer (some ⟨bc,0,none⟩),.bool true,V,W,ft,eW,fu,fv,fx,fy,Z,X,fG,fz,fA,fB,iq,fC],[]⟩ [.code ((bO.dp (f55.body.getD .skip)).getD .skip),.inLoop ((bO.dp (f55.body.getD .skip)).getD .skip),.inBlock 0]) (a2.at aF (.inRegion aD (aI::aL)::aH)::csZ),w,k⟩:=by
 have jL:=(dg (bR c)).nh;induction n with|zero=>intro q k w1 bc T dQ j4 V W ft eW fu fv fx fy Z X fG fz fA fB iq fC hn hT F I K J w γ hF;refine bh.seen (dg (bR c)) Y λγ _ kz=>?_;have:=al9 kz Y;omega|succ n ih=>
 intro q k w1 bc T dQ j4 V W ft eW fu fv fx fy Z X fG fz fA fB iq fC hn hT F I K J w γ hF;rw[<-iF (M:=k)];refine bk (bR c) ?_;simp only[f55,Option.getD_some,bO.dp]at ih⊢;repeat w_go af.on
 refine g9 Y hF λg d A j a H m p hF=>?_;have i:a.heap[bc]?=some (Obj.cells #[.int .i64 (T:Int),.int .i64 (fr T:Int),.int .i64 (aU T:Int)] 190):=(hF.rw.heap bc (.inr F)).trans I;refine rY AA Y (λb hb=>hF.eZ b (.inr hb)) (stepG_value Y Y BJ (Ad i Y Y).1) Y (λe B=>?_) ?_
 .have y:=mem_listed B;rw[(Ad i Y Y).2]at y;simp at y;rcases y with rfl|rfl|rfl<;>exact⟨Y,.inr (.inl F)⟩
 clear i p m j d;refine bk (bR c) ?_;walk_nrm
 repeat w_go af.on
 refine g9 Y hF λg d A j a H m p hF=>?_;have C:=af.rg hF;rw[iF]at C;rw[iF];have T0:=K.now hF;have Q:a.heap[bc]?=some (Obj.cells #[.int .i64 (T:Int),.int .i64 (fr T:Int),.int .i64 (aU T:Int)] 190):=(hF.rw.heap bc (.inr F)).trans I;refine Ml (σ:=fo c ⟨.idle,false,0,f+31,.work (.has T) q⟩ k a) AA Y Y BJ (rh (vs:=#[.pointer (some ⟨c.st,0,none⟩),gq,.agg #[.int .i64 (T:Int),.int .i64 (fr T:Int),.int .i64 (aU T:Int)]]) Y func86 aq_ Y D5 a) (TZ q T k a hT (hI.more T0)) C ?_;have P:=J.step S ⟨λ_ h=>h,hF.rw,C⟩;clear hF K J I p m j d C;rintro u _ ⟨rfl,v,o,D,N,zJ,rfl⟩ s eE E;have hF:af (ak (az c)) o D [] s:=E;clear E;have O:=N.sub bc F;have I:=N.heap F Q;have K:=T0.trans N;have J:oG cY ((T,v)::q) o D:=by
  intro x hx;rcases List.mem_cons.1 hx with rfl|hx
  .grind
  .exact P.step S N x hx
 clear N T0 P Q F zJ;simp only[fo];rw[<-iF (M:=o)];refine bk (bR c) ?_;walk_nrm
 repeat w_go af.on
 refine g9 Y hF λg d A j a H m p hF=>?_;have i:a.heap[bc]?=some (Obj.cells #[.int .i64 (T:Int),.int .i64 (fr T:Int),.int .i64 (aU T:Int)] 190):=(hF.rw.heap bc (.inr O)).trans I;refine rY AA Y (λb hb=>hF.eZ b (.inr hb)) (stepG_value Y Y BJ (Ad i Y Y).1) Y (λe B=>?_) ?_
 .have y:=mem_listed B;rw[(Ad i Y Y).2]at y;simp at y;rcases y with rfl|rfl|rfl<;>exact⟨Y,.inr (.inl O)⟩
 clear i p m j d;refine bk (bR c) ?_;walk_nrm
 repeat w_go af.on
 refine g9 Y hF λg d A j a H m p hF=>?_;refine s7 AA jL Y hF (stepG_value (v:=.pointer (some ⟨a.heap.size,0,none⟩)) (w':=a.alloc (Obj.cells #[.int .i64 0,.int .i64 0,.int .i64 0] 190)) Y Y BJ Be) Y Bs (λz=>?_);clear hF;have hF:=z;clear z p m j d;generalize a.heap.size=r at hF⊢;generalize a.alloc (Obj.cells #[.int .i64 0,.int .i64 0,.int .i64 0] 190)=w3 at hF⊢;refine bk (bR c) ?_;walk_nrm
 repeat w_go af.on
 refine g9 Y hF λg d A j a H m p hF=>?_;have i:=hF.cL (r,.cells #[.int .i64 0,.int .i64 0,.int .i64 0] 190) A_;refine BL AA Y (pre:=[]) (post:=[]) hF (stepG_none (w':=a.setRow r #[.int .i64 (T:Int),.int .i64 (fr T:Int),.int .i64 (aU T:Int)]) Y Y BJ (pG i ⟨Y,Y,Y⟩ Y Y Y).1) Y (λe B=>?_) (λz=>?_)
 .have y:=mem_listed B;rw[(pG i ⟨Y,Y,Y⟩ Y Y Y).2]at y;grind
 clear hF;have hF:=z;clear z i p m j d;simp only[List.nil_append]at hF⊢;refine bk (bR c) ?_;walk_nrm
 repeat w_go af.on
 refine g9 Y hF λg d A j a H m p hF=>?_;have C:=af.rg hF;refine Ml (σ:=fo c ⟨.idle,false,0,f+15,.work .free ((T,v)::q)⟩ (cd o [(r,Obj.cells #[.int .i64 (T:Int),.int .i64 (fr T:Int),.int .i64 (aU T:Int)] 190)]) a) AA Y Y BJ (rh (vs:=#[.pointer (some ⟨c.st,0,none⟩)]) Y func85 z4 Y D5 a) (NB _ _ a C) C ?_;clear p m j d;rintro u _ (⟨rfl,rfl⟩|⟨t,A6,rfl,rfl⟩) s eE E
 .skip
  have a0:c.N<=eE.am.taken:=E.2;have R:af (ak (az c)) (cd o [(r,Obj.cells #[.int .i64 (T:Int),.int .i64 (fr T:Int),.int .i64 (aU T:Int)] 190)]) a [] s:=E.1;replace hF:=hF.on R.rw;clear E R C;simp only[vU];refine bk (bR c) ?_;walk_nrm
  repeat w_go af.on
  refine g9 Y hF λg d A j a H m p hF=>?_;replace a0:=Nat.le_trans a0 (Nat.le_trans (ud (c:=c) (l:=⟨.idle,false,0,f+1,.work .free ((T,v)::q)⟩) j) (ud (c:=c) (l:=⟨.idle,false,0,f+1,.work .free ((T,v)::q)⟩) m));have i:=hF.cL (r,.cells #[.int .i64 (T:Int),.int .i64 (fr T:Int),.int .i64 (aU T:Int)] 190) A_;refine BL AA Y (pre:=[]) (post:=[]) hF (stepG_none (w':=a.setRow r #[.int .i64 0,.int .i64 0,.int .i64 0]) Y Y BJ (pG i ⟨Y,Y,Y⟩ Y Y Y).1) Y (λe B=>?_) (λz=>?_)
  .have y:=mem_listed B;rw[(pG i ⟨Y,Y,Y⟩ Y Y Y).2]at y;grind
  clear hF;have hF:=z;clear z i p m j d;simp only[List.nil_append]at hF⊢;refine bk (bR c) ?_;walk_nrm
  repeat w_go af.on
  u_in af.on hF
  refine goes_leave0 Y Y func55 Y ⟨E4,?_⟩;refine Goes.stop (λg d=>⟨Y,λA j=>?_⟩);replace hF:=hF.on d;have L:h5 (ak (az c)) o D (cd o [(r,Obj.cells #[.int .i64 0,.int .i64 0,.int .i64 0] 190)]) g:=⟨λ_ h=>.inl h,hF.rw,af.rg hF⟩;exact hK ((T,v)::q) (cd o [(r,Obj.cells #[.int .i64 0,.int .i64 0,.int .i64 0] 190)]) g (K.trans L) (J.step S L) g A (af.rg hF) (Nat.le_trans a0 (ud (c:=c) (l:=⟨.idle,false,0,f+1,.work .free ((T,v)::q)⟩) j))
 .skip
  have R:af (ak (az c)) (cd o [(r,Obj.cells #[.int .i64 (T:Int),.int .i64 (fr T:Int),.int .i64 (aU T:Int)] 190)]) a [] s:=E;replace hF:=hF.on R.rw;clear E R C;simp only[fo];refine bk (bR c) ?_;walk_nrm
  repeat w_go af.on
  refine g9 Y hF λg d A j a H m p hF=>?_;have i:=hF.cL (r,.cells #[.int .i64 (T:Int),.int .i64 (fr T:Int),.int .i64 (aU T:Int)] 190) A_;refine BL AA Y (pre:=[]) (post:=[]) hF (stepG_none (w':=a.setRow r #[.int .i64 (t:Int),.int .i64 (fr t:Int),.int .i64 (aU t:Int)]) Y Y BJ (pG i ⟨Y,Y,Y⟩ Y Y Y).1) Y (λe B=>?_) (λz=>?_)
  .have y:=mem_listed B;rw[(pG i ⟨Y,Y,Y⟩ Y Y Y).2]at y;grind
  clear hF;have hF:=z;clear z i p m j d;simp only[List.nil_append]at hF⊢;refine bk (bR c) ?_;walk_nrm
  iterate 3 w_go af.on
  refine Goes.stop (λg d=>⟨Y,λA j=>?_⟩);replace hF:=hF.on d;have L:h5 (ak (az c)) o D (cd o [(r,Obj.cells #[.int .i64 (t:Int),.int .i64 (fr t:Int),.int .i64 (aU t:Int)] 190)]) g:=⟨λ_ h=>.inl h,hF.rw,af.rg hF⟩;exact ih ((T,v)::q) (cd o [(r,Obj.cells #[.int .i64 (t:Int),.int .i64 (fr t:Int),.int .i64 (aU t:Int)] 190)]) g r t _ _ _ _ _ _ _ _ _ _ _ _ _ _ _ _ _ _ AA A6 (.inr A_) (hF.cL (r,Obj.cells #[.int .i64 (t:Int),.int .i64 (fr t:Int),.int .i64 (aU t:Int)] 190) A_) (K.trans L) (J.step S L) g A (af.rg hF)
def arb{f:Nat}{M:Nat->Prop}{w0 cf:aO}(R:pq c cf w0)(F:∀T v M w M' w',cY T v M w->(∀b,c.K b\/M b->w'.heap[b]?=w.heap[b]?)->(∀b,M b->M' b)->cY T v M' w')(O:∀q t w1,af (ak (az c)) t w1 [] w1->i_ prog Stop false 85 #[.pointer (some ⟨c.st,0,none⟩)] (fo c ⟨.idle,false,0,f+15,.work .free q⟩ t w1) (λu y=>(u=.tuple #[.agg #[.int .i64 0,.int .i64 0,.int .i64 0],.bool false]/\y=vU c ⟨.idle,false,0,f+1,.work .free q⟩ t w1)\/∃T,T<c.N/\u=.tuple #[.agg #[.int .i64 (T:Int),.int .i64 (fr T:Int),.int .i64 (aU T:Int)],.bool true]/\y=fo c ⟨.idle,false,0,f+31,.work (.has T) q⟩ t w1))(V:∀q T t w1,T<c.N->pq c cf w1->i_ prog Stop false 86 #[.pointer (some ⟨c.st,0,none⟩),gq,.agg #[.int .i64 (T:Int),.int .i64 (fr T:Int),.int .i64 (aU T:Int)]] (fo c ⟨.idle,false,0,f+31,.work (.has T) q⟩ t w1) (λu y=>u=.tuple #[]/\∃v J n,h5 (ak (az c)) t w1 J n/\cY T v J n/\y=fo c ⟨.idle,false,0,f+15,.work .free ((T,v)::q)⟩ J n)):
 i_ prog Stop false 55 #[.pointer (some ⟨c.st,0,none⟩),gq] (fo c ⟨.idle,false,0,f+15,.work .free []⟩ M w0) (λu y=>u=.tuple #[]/\∃q M' w1,h5 (ak (az c)) M w0 M' w1/\oG cY q M' w1/\y=vU c ⟨.idle,false,0,f+1,.work .free q⟩ M' w1):=by
 intro a2 aF aD aI aL aH csZ K w γ hS;have hK:∀q M' w1,h5 (ak (az c)) M w0 M' w1->oG cY q M' w1->∀w γ,af (ak (az c)) M' w1 [] w->c.N<=γ.am.taken->bh (ak (az c)) prog Stop false ⟨.idle,false,0,f+1,.work .free q⟩ γ ⟨Conc.G (a2.at (aF.put ((aD[aI]?).bind (·.dst)) (.tuple #[])) (.inRegion aD aL::aH)) csZ,w,M'⟩:=λq M' w1 h1 W w γ h3 S=>K (.tuple #[]) (vU c ⟨.idle,false,0,f+1,.work .free q⟩ M' w1) AA w γ ⟨h3,S⟩;clear K;have hF:af (ak (az c)) M w0 [] w:=hS;clear hS;have L:=(dg (bR c)).nh;rw[enter_at _ func55 Y];unfold fo;rw[<-iF (M:=M)];refine bk (bR c) ?_;walk_nrmf f55
 repeat w_go af.on
 refine g9 Y hF λg d r i a D m o hF=>?_;have B:=af.rg hF;rw[iF]at B;rw[iF];have C:h5 (ak (az c)) M w0 M a:=⟨λ_ h=>h,hF.rw,B⟩;clear hF;refine Ml (σ:=fo c ⟨.idle,false,0,f+15,.work .free []⟩ M a) AA Y Y BJ (rh (vs:=#[.pointer (some ⟨c.st,0,none⟩)]) Y func85 z4 Y D5 a) (O [] M a B) B ?_;clear o m i d B;rintro u _ (⟨rfl,rfl⟩|⟨T,Q,rfl,rfl⟩) p U A
 .skip
  have a0:c.N<=U.am.taken:=A.2;have hF:af (ak (az c)) M a [] p:=A.1;clear A;generalize a=n at hF C;have E:oG cY [] M n:=λx P=>AA;simp only[vU];rw[<-iF (M:=M)];refine bk (bR c) ?_;walk_nrm
  repeat w_go af.on
  refine g9 Y hF λg d r i a D m o hF=>?_;replace a0:=Nat.le_trans a0 (Nat.le_trans (ud (c:=c) (l:=⟨.idle,false,0,f+1,.work .free []⟩) i) (ud (c:=c) (l:=⟨.idle,false,0,f+1,.work .free []⟩) m));refine s7 AA L Y hF (stepG_value (v:=.pointer (some ⟨a.heap.size,0,none⟩)) (w':=a.alloc (Obj.cells #[.int .i64 0,.int .i64 0,.int .i64 0] 190)) Y Y BJ Be) Y Bs (λk=>?_);clear hF;have hF:=k;clear k o m i d;generalize a.heap.size=j at hF⊢;generalize a.alloc (Obj.cells #[.int .i64 0,.int .i64 0,.int .i64 0] 190)=w3 at hF⊢;refine bk (bR c) ?_;walk_nrm
  repeat w_go af.on
  refine g9 Y hF λg d r i a D m o hF=>?_;replace a0:=Nat.le_trans a0 (Nat.le_trans (ud (c:=c) (l:=⟨.idle,false,0,f+1,.work .free []⟩) i) (ud (c:=c) (l:=⟨.idle,false,0,f+1,.work .free []⟩) m));have s:=hF.cL (j,.cells #[.int .i64 0,.int .i64 0,.int .i64 0] 190) A_;refine BL AA Y (pre:=[]) (post:=[]) hF (stepG_none (w':=a.setRow j #[.int .i64 0,.int .i64 0,.int .i64 0]) Y Y BJ (pG s ⟨Y,Y,Y⟩ Y Y Y).1) Y (λe H=>?_) (λk=>?_)
  .have I:=mem_listed H;rw[(pG s ⟨Y,Y,Y⟩ Y Y Y).2]at I;grind
  clear hF;have hF:=k;clear k s o m i d;simp only[List.nil_append]at hF⊢;refine bk (bR c) ?_;walk_nrm
  repeat w_go af.on
  u_in af.on hF
  refine goes_leave0 Y Y func55 Y ⟨E4,?_⟩;refine Goes.stop (λg d=>⟨Y,λr i=>?_⟩);replace hF:=hF.on d;have z:h5 (ak (az c)) M n (cd M [(j,Obj.cells #[.int .i64 0,.int .i64 0,.int .i64 0] 190)]) g:=⟨λ_ h=>.inl h,hF.rw,af.rg hF⟩;exact hK [] (cd M [(j,Obj.cells #[.int .i64 0,.int .i64 0,.int .i64 0] 190)]) g (C.trans z) (E.step F z) g r (af.rg hF) (Nat.le_trans a0 (ud (c:=c) (l:=⟨.idle,false,0,f+1,.work .free []⟩) i))
 .skip
  have hF:af (ak (az c)) M a [] p:=A;clear A;generalize a=n at hF C;have E:oG cY [] M n:=λx P=>AA;simp only[fo];rw[<-iF (M:=M)];refine bk (bR c) ?_;walk_nrm
  repeat w_go af.on
  refine g9 Y hF λg d r i a D m o hF=>?_;refine s7 AA L Y hF (stepG_value (v:=.pointer (some ⟨a.heap.size,0,none⟩)) (w':=a.alloc (Obj.cells #[.int .i64 0,.int .i64 0,.int .i64 0] 190)) Y Y BJ Be) Y Bs (λk=>?_);clear hF;have hF:=k;clear k o m i d;generalize a.heap.size=j at hF⊢;generalize a.alloc (Obj.cells #[.int .i64 0,.int .i64 0,.int .i64 0] 190)=w3 at hF⊢;refine bk (bR c) ?_;walk_nrm
  repeat w_go af.on
  refine g9 Y hF λg d r i a D m o hF=>?_;have s:=hF.cL (j,.cells #[.int .i64 0,.int .i64 0,.int .i64 0] 190) A_;refine BL AA Y (pre:=[]) (post:=[]) hF (stepG_none (w':=a.setRow j #[.int .i64 (T:Int),.int .i64 (fr T:Int),.int .i64 (aU T:Int)]) Y Y BJ (pG s ⟨Y,Y,Y⟩ Y Y Y).1) Y (λe H=>?_) (λk=>?_)
  .have I:=mem_listed H;rw[(pG s ⟨Y,Y,Y⟩ Y Y Y).2]at I;grind
  clear hF;have hF:=k;clear k s o m i d;simp only[List.nil_append]at hF⊢;refine bk (bR c) ?_;walk_nrm
  iterate 4 w_go af.on
  refine Goes.stop (λg d=>⟨Y,λr i=>?_⟩);replace hF:=hF.on d;have z:h5 (ak (az c)) M n (cd M [(j,Obj.cells #[.int .i64 (T:Int),.int .i64 (fr T:Int),.int .i64 (aU T:Int)] 190)]) g:=⟨λ_ h=>.inl h,hF.rw,af.rg hF⟩;have N:=ara R F O V hK c.N;simp only[f55,Option.getD_some,bO.dp]at N;exact N [] (cd M [(j,Obj.cells #[.int .i64 (T:Int),.int .i64 (fr T:Int),.int .i64 (aU T:Int)] 190)]) g j T _ _ _ _ _ _ _ _ _ _ _ _ _ _ _ _ _ _ A_ Q (.inr A_) (hF.cL (j,Obj.cells #[.int .i64 (T:Int),.int .i64 (fr T:Int),.int .i64 (aU T:Int)] 190) A_) (C.trans z) (E.step F z) g r (af.rg hF)
end
end
end iE
end Go.Proofs.YtncomcmfgmojkaaGreat
