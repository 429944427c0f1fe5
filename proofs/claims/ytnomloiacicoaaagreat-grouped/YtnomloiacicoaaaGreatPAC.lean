import Derived.WalkSpells
import Derived.WalkLawsBesides
import Derived.Deep.AppendLies
import Derived.RangeFuncNested
import Derived.Conc.HoldsTime
import Derived.Test.YtnomloiacicoaaaGreatPAB
set_option linter.all false
set_option maxRecDepth 100000
set_option maxHeartbeats 16000000
namespace Go.Proofs.YtnomloiacicoaaaGreat
abbrev c6(w v:Go.World):Prop:=Go.RowKit.Below w.heap.size w v
def vaa:=@Go.RowKit.Below.refl
def vap:=@Go.World.putObj_heap_other
def vat:=@Go.RowKit.Below.heap_setCell
def vav:=@Go.bodyPost_ret
def vba:=@Go.World.cell?_of_block
def vbb:=@Go.World.alloc_heap_new
def vbt:=@Go.Conc.mem_listed
def vbz:=@Go.Conc.stepG_mark0
def vce:=@Go.info_parts
def vcg:=@Go.World.ownsRow_nil
def vch:=@Go.Oper.semAt_some
def vcj:=@Go.Conc.enter_at
def vcq:=@Go.Conc.stepG_markAt
def vcw:=@Go.RowKit.Below.heap_alloc
def vdi:=@Go.callsIn_of_wp_marks
def vdl:=@Go.KeepsOthers.setCell
def vdn:=@Go.Addr.add_lit
def vdy:=@Go.Conc.seen_none
def veb:=@Go.run_takeDeferred
def ved:=@Go.World.size_alloc
def veh:=@Go.IntKind.wrap_i64
def ven:=@Go.ownsRow_succ
def vep:=@Go.Conc.stepG_unwind_enter
namespace av
def Ja(g:uaj):Prop:=(g.dying=none/\(g.status=.blocked\/g.status=.waiting))\/∃d f,g.dying=some d/\d.fatal=some f/\d.calling=false/\(g.status=.running\/g.status=.blocked)
def jZ(C:cM)(D:Option gD.fT)(S:Sync)(ρ:Ren)(b0 base:hH)(w':aR)(s s':GStep):Prop:=match s with
 | .go g1 w1 _=>(g1.status=.running/\g1.dying=none/\Za C D S ρ b0 base w' g1 w1 s')\/Ja g1
 | .ended .. =>True
 | _=>False
variable{aH aq:Type}{s:GStep}
section
variable{C:cM}{D:Option gD.fT}{S:Sync}{ρ:Ren}{b0 base:hH}{w w':aR}{fr bD:Frame}{cs dz:hH}
def jZ.Cu{R:Ren->aq->aH->Prop}{m:Sem aq}{i:Sem aH}{s':GStep}{es es':uat}(hs:al C ρ R m i)(t:e_ C S ρ w w')(A:(oK (i.run C.Q w')).drawn<=S.bound)(u:∀σ w1,Ci C S σ R (m.run C.P w) (i.run C.Q w') w1->Grow ρ σ w' w1->jZ C D S σ b0 base w1 s s')(I:¬Good (m.run C.P w)->jZ C D S ρ b0 base w' s (GStep.after es' s'))(z:∀e∈es',e∈i.events C.Q w' #[]:=by exact λ_=>Gj):
 jZ C D S ρ b0 base w' (GStep.after es s) (GStep.after es' s'):=by
 by_cases g:Good (m.run C.P w)
 .obtain⟨σ,w1,v,l,F⟩:=hs S w w' t g A;obtain⟨d,hd,j⟩:=F #[];rw[Array.empty_append]at hd;have h:=u σ w1 v l;cases s with
  |go g w es=>
   refine h.imp (λ⟨h1,h2,H,a,b,c,e,f,es,q,p,o,n,E,B,k,J⟩=>⟨h1,h2,H,a,b,c,e,f,_,q,by rw[p];rfl,o,n,E,B,l.trans k,λx r=>?_⟩) id;rcases vei.1 r with y|y
   .exact(j x (hd▸z x y)).mono k.le
   .exact J x y
  | _=>exact h
 .have h:=I g;cases s<;>exact h
theorem jZ.go{a c}(b:jm C D ρ cs dz)(e:kz a cs)(d:e_ C S ρ w w')(h1:eB C D ρ cs.isEmpty a c):jZ C D S ρ b0 base w' (.go (a4 a (cs++b0)) w) (.go (a4 c (dz++base)) w'):=
 .inl ⟨Y,Y,ρ,_,cs,_,dz,_,_,Y,Y,h1,b,e,d,.refl _ _,AS⟩
def jZ.push{c b}(g:eB C D ρ cs.isEmpty fr bD)(a:jm C D ρ cs dz)(f:kz fr cs)(d:e_ C S ρ w w')(e:AI D cs.isEmpty fr)(h1:eB C D ρ false c b):jZ C D S ρ b0 base w' (.go (a4 c (fr::(cs++b0))) w) (.go (a4 b (bD::(dz++base))) w'):=
 .go (cs:=fr::cs) (.cons g e a) f d h1
def jZ.dF(e:eB C D ρ cs.isEmpty fr bD)(a:jm C D ρ cs dz)(d:kz fr cs)(b:e_ C S ρ w w'){v v'}(hv:au ρ v v')(c:AI D cs.isEmpty fr\/v=undef):jZ C D S ρ b0 base w' (.go (a4 (fr.finish v) (cs++b0)) w) (.go (a4 (bD.finish v') (dz++base)) w'):=
 .go a (d.same (MO _ _).1 (MO _ _).2) b (e.finish (λ_=>hv) c)
theorem jZ.raise(g:eB C D ρ cs.isEmpty fr bD)(a:jm C D ρ cs dz)(f:kz fr cs)(d:e_ C S ρ w w'){c b}(e:dJ (AH ρ) c b):jZ C D S ρ b0 base w' (.go (a4 (fr.raise c) (cs++b0)) w) (.go (a4 (bD.raise b) (dz++base)) w'):=
 .go a (f.same (Zb _ _).1 (Zb _ _).2) d (g.raise e)
def jZ.die{fr:Frame}{ps:List ByteArray}{m:String}{b:Bool}{w w':aR}:jZ C D S ρ b0 base w' (dieOf fr ps m b w) s:=.inr (.inr ⟨_,_,Y,Y,Y,.inl Y⟩)
def jZ.fatal{P:cE}{fr:Frame}{cs:hH}{d:Option Dying}{m:String}{w w':aR}:jZ C D S ρ b0 base w' (endFatal P fr cs d m w) s:=by
 unfold endFatal;simp only[];split
 .exact .die
 .trivial
 .trivial
def n6.akW{t c7:uab}(h:n6 C ρ t c7):(match t with| .call _ true _ _::_=>CallKind.wrapped| _=>.normal)=.normal/\(match c7 with| .call _ true _ _::_=>CallKind.wrapped| _=>.normal)=.normal:=by cases h with|nil=>grind|cons hi _=>cases hi<;>exact⟨Y,Y⟩
def Sf(hF:C.Cq){s s'}(h:eB C D ρ cs.isEmpty fr bD)(j:jm C D ρ cs dz)(d:kz fr cs)(y:e_ C S ρ w w')(hs:al C ρ (qd C) s s')(l:AI D cs.isEmpty fr)(f:(kR (stepG.apply C.Q true bD (dz++base) none s' w')).drawn<=S.bound):jZ C D S ρ b0 base w' (stepG.apply C.P true fr (cs++b0) none s w) (stepG.apply C.Q true bD (dz++base) none s' w'):=by
 have t:=n6.akW h.todo;have v:=vad (Y8 C.Q bD (dz++base) none s' w') f;have early:(bD.kind== .early)=false:=by rcases h.plain with x|x<;>rw[<-h.kind,x]<;>rfl
 unfold stepG.apply;simp only[vbe,vcx,early];refine .Cu hs y v (λσ w1 i q=>?_) (λg=>?_) λe B=>(by grind[Gj B])
 .have c:=h.mono q.le;have b:=jm.mono q.le j;generalize s.run C.P w=r at i;generalize s'.run C.Q w'=r' at i;cases i with
  |ok hn a=>
   cases hn with
   |value hv=>exact .dF c b d a hv (.inl l)
   |skip=>exact .dF c b d a (.undef σ) Jz
   |enter n z f=>
    have o:∀k k':CallKind,k=.normal->k'=.normal->eB C D σ false (Frame.enter C.P _ _ k) (Frame.enter C.Q _ _ k'):=λk k' e E=>by subst e;subst E;exact .enter hF n z f Jv Jz
    exact .push c b d a l (o _ _ t.1 t.2)
   |round A F ht n f=>exact .push c b d a l (.round A F ht n f Jv Jz)
  |panic hv a=>exact .raise c b d a (.cons ⟨hv,Y,Y⟩ .nil)
  |goexit a=>exact .raise c b d a (.cons ⟨.undef σ,Y,Y⟩ .nil)
 .cases p:s.run C.P w with
  |ok H w1=>exact absurd (by rw[p];trivial) g
  |halt x w1=>
   rw[p]at g;cases x with
   |blocked=>exact .inr (.inl ⟨Y,.inl Y⟩)
   |waiting=>exact .inr (.inl ⟨Y,.inr Y⟩)
   |unsupported u=>cases u<;>first|trivial|exact absurd trivial g
   |fatal m=>exact .fatal
   |throw m=>exact .die
   | _=>first|trivial|exact absurd trivial g
end
section
section
variable{C:cM}{D:Option gD.fT}{S:Sync}{ρ:Ren}
structure cM.Good(C:cM):Prop where
 same:C.cn
 MQ:C.ue
 funcs:C.Cq
 sc:C.R7
 aFD:C.P.follows .rangeFuncRecover=true
theorem cM.Good.follows(h:C.Good)d:C.Q.follows d=C.P.follows d:=by unfold Tables.follows;rw[h.same]
def akY(id:Nat){k k':uab}(h:n6 C ρ k k'):m_ (n6 C ρ) (exitTo id k) (exitTo id k'):=by
 induction h with
 |nil=>exact .none
 |cons hi hk a=>
  cases hi with
  |inBlock b=>
   simp only[exitTo];split
   .exact .some hk
   grind
  | _=>exact a
def ak0(d:C.R7):∀c l r,C.ew c->findLabel c l=some r->C.ew r:=by
 intro c;induction c with
 |seq a b g f=>intro l r hok h;rw[d]at hok;simp only[ky,vag]at hok;simp only[findLabel]at h;cases e:findLabel a l with|some rest=>rw[e]at h;cases h;have:=g l rest ((d a).2 hok.1) e;rw[d]at this⊢;simp_all[ky]|none=>rw[e]at h;exact f l r ((d b).2 hok.2) h
 |label i=>
  intro l r _ h;simp only[findLabel]at h;split at h
  .cases h;rw[d];rfl
  grind
 | _=>intro l r _ h;cases h
def ak1(d:C.R7)(l:Nat){k k':uab}(h:n6 C ρ k k'):m_ (n6 C ρ) (gotoIn l k) (gotoIn l k'):=by
 induction h with
 |nil=>exact .none
 |cons hi hk a=>
  cases hi with
  |@inScope c hok=>simp only[gotoIn];cases b:findLabel c l with|some r=>exact .some (.cons (.code (ak0 d c l r hok b)) (.cons (.inScope hok) hk))|none=>exact a
  | _=>exact a
def ak2{t c7:dX}(h:aJ ρ t c7)(ops:fF):yielded ops t=yielded ops c7:=by
 funext j
 unfold yielded;cases((ops[j]?).bind (·.dst))with|none=>rfl|some d=>simp only[vcv];cases ht:t[d]? with|none=>rw[h.none ht]|some v=>obtain⟨v',a,b⟩:=h.some ht;rw[a];cases b<;>rfl
def Ze{main main':Bool}{fr bD c j:Frame}{cs dz b0 base:hH}{w w':aR}{v v':Value}{e:Bool}(t:eB C D ρ e fr bD)(f:eB C D ρ cs.isEmpty c j)(H:AI D cs.isEmpty c)(d:jm C D ρ cs dz)(i:kz c cs)(h:e_ C S ρ w w')(hv:au ρ v v'):jZ C D S ρ b0 base w' (doReturn C.P main fr (c::(cs++b0)) none v w) (doReturn C.Q main' bD (j::(dz++base)) none v' w'):=by
 unfold doReturn;have s:=t.kind.symm;rcases t.plain with hk|hk
 .simp only[s.trans hk,hk];exact .dF f d i h hv (.inl H)
 .simp only[s.trans hk,hk];have n:=f.mode;generalize K:c.mode=m at n;generalize F:j.mode=m' at n;have keep:jZ C D S ρ b0 base w' (.go (a4 c (cs++b0)) w) (.go (a4 j (dz++base)) w'):=.go d i h f;cases n with
  |run=>exact keep
  |returning=>exact keep
  |panicking o=>
   cases o with
   |nil=>exact keep
   |@cons e A r q z y=>
    obtain⟨ev,p,I⟩:=e;obtain⟨J,E,B⟩:=A;obtain⟨u,h2,h3⟩:=z;simp only at u h2 h3;subst h2;subst h3;cases p with
    |false=>exact keep
    |true=>
     simp only[];have drop:∀(l k:List PanicEntry),dJ (AH ρ) l k->dJ (AH ρ) (l.dropWhile (!·.goexit)) (k.dropWhile (!·.goexit)):=by
      intro l k o;induction o with
      |nil=>exact .nil
      |cons g ht x=>
       simp only[List.dropWhile_cons,g.goexit];split
       .exact x
       .exact .cons g ht
     have hd:=drop _ _ y;generalize r.dropWhile (!·.goexit)=a at hd;generalize q.dropWhile (!·.goexit)=b at hd;cases hd with|nil=>exact .go d (i.same Y Y) h (f.Gk .returning)|cons g ht=>exact .go d (i.same Y Y) h (f.Gk (.panicking (.cons g ht)))
end
end
section
open gD
section
variable{P:cE}{C:cM}{D:Option fT}{d:fT}{ρ:Ren}{e:Bool}{f f':Frame}
def Zg{ops:fF}(h:ops.all (vt d.1 ops)=true)(l:uac):fK d.1 (.inRegion ops l)=true:=by simp only[fK,vdh];intro i _;cases a:ops[i]? with|none=>rfl|some o=>exact vau.1 h o (vbr a)
theorem Sg{p id}:∀{k k':uab},exitTo id k=some k'->k.all p=true->k'.all p=true
 | [],_,e,_=>GA
 |x::k,k',e,h=>by
  simp only[vbu,vag]at h;cases x with
  |inBlock a=>
   simp only[exitTo]at e;split at e
   .cases e;exact h.2
   .exact Sg e h.2
  | _=>simp only[exitTo]at e;exact Sg e h.2
def ak6(h:oN P D e ρ f f'){ops o}(hg:∀d,D=some d->e=true->R_ d.1 ops o=true):Region.wanted o (yielded ops f'.tmps)=Region.wanted o (yielded ops f.tmps):=by
 by_cases hn:∃d,D=some d/\e=true
 .obtain⟨d,h1,h2⟩:=hn;have k:=h.uh h1 h2;have hg:=hg d h1 h2;unfold Region.wanted;cases l:o.guard with
  |none=>rfl
  |some kR=>
   obtain⟨g,want⟩:=kR;have j:yielded ops f'.tmps g=yielded ops f.tmps g:=by
    unfold yielded;cases ht:(ops[g]?).bind (·.dst)with
    |none=>rfl
    |some t=>
     have i:d.T t=false:=by grind[R_]
     simp only[vcv];cases hv:f.tmps[t]? with
     |none=>rw[vdd,k.size,<-vdd]at hv;rw[hv]
     |some v=>
      have hi:t<f'.tmps.size:=by rw[<-k.size];grind
      have c:=vas hi;generalize f'.tmps[t]=v' at c;rw[c];cases k.same t i v v' hv c<;>rfl
   grind
 .rw[ak2 (h.all λd a b _=>hn ⟨d,a,b⟩) ops]
inductive qg{aq:Type}:Result aq->Prop
 |stuck {m:String} {w:aR}:qg (.halt (.stuck m) w)
 |unsupported (u:Unsupported) {w:aR} (h:∀g,u≠ .initOrder g):qg (.halt (.unsupported u) w)
theorem qg.bind{m:Sem aq}{k:aq->Sem aH}{w:aR}(h:qg (m.run P w)):qg ((m>>= k).run P w):=by rw[m9];generalize m.run P w=r at h;cases h with|stuck=>exact .stuck|unsupported u a=>exact .unsupported u a
def qg.next{m:Sem aq}{k:aq->Sem aH}{w:aR}(h:qg (m.run P w)\/∃a,m.run P w=.ok a w/\qg ((k a).run P w)):qg ((m>>= k).run P w):=by
 rcases h with h|⟨a,e,h⟩
 .exact h.bind
 simp_all
def ak7(t:uaa)(i:Value)(w:aR):qg ((do pure (Next.value (<-Instr.indexAt t undef i)):Sem Next).run P w):=by
 refine qg.bind ?_;unfold Instr.indexAt;refine qg.next ?_;cases i with
 |int k n=>refine .inr ⟨(k,n),Y,?_⟩;refine qg.next ?_;cases b:P.underlying t with|none=>exact .inl (by simp only[underlying,Go.program,Bind.bind,Sem.bind,Sem.run,b];exact .stuck)|some d=>refine .inr ⟨d,by simp_all[underlying,Go.program,Sem.run],?_⟩;cases d<;>exact qg.bind .stuck
 |pointer p=>cases p with
  |none=>exact .inl .stuck
  |some a=>exact .inl (.unsupported _ AA)
 | _=>exact .inl .stuck
def ak8{ev:uah}{t:Nat}{c:Call}{at_ ty e:uaa}(a:c.callee=.builtin .len)(h1:c.args=#[.tmp t])(h2:c.argTypes=#[at_])(h:ev (.tmp t)=undef)(f:P.underlying at_=some (.slice e))(w:aR):qg ((do let d <-resolve ev c ty;invoke d.target d.args:Sem Next).run P w):=by
 have b:(Go.underlying at_).run P w=.ok (.slice e) w:=by simp_all[underlying,Go.program,Sem.run]
 simp[resolve,invoke,builtin,Builtin.len_,go_sem,a,h1,h2,h,b,undef];constructor
def MR{P}(h:Gh P d ρ f f'){t}(ht:d.T t=true):f.eval (.tmp t)=undef:=by simp only[Frame.eval,vcb];cases a:f.tmps[t]? with|none=>rfl|some v=>rw[h.gone t ht v a];rfl
def ak9(h:Gh P d ρ f f'){o:Oper}(hs:R8 d.1 o=true)(w:aR):qg ((execOp f.eval o).run P w):=by
 unfold R8 at hs;split at hs
 .rename_i t x e1;simp only[execOp,e1,MR h hs];exact .stuck
 .rename_i t x y e1;simp only[execOp,e1,MR h hs];exact ak7 _ _ _
 .rename_i c e1;simp only[execOp,e1];unfold Y9 at hs;split at hs
  .rename_i b;split at hs
   .rename_i t ty h1 h2;simp at hs;obtain⟨e,a⟩:=h.sl _ hs.2;exact ak8 b AA AA (MR h hs.1) a w
   grind
  grind
 grind
def ak_(c:C.Good)(h:eB C D ρ e f f')(hg:∀g,g<=C.P.globals.size->ρ.rel g g){o}(k:nb C.P C.upd o.op=true)(m:∀d,D=some d->e=true->gD.hX d.1 o=true):al C ρ (qd C) (execOp f.eval o) (execOp f'.eval o):=by
 by_cases hn:∃d,D=some d/\e=true
 .obtain⟨d,h1,h2⟩:=hn;have j:=m d h1 h2;simp only[gD.hX,vag,Bool.not_eq_true']at j;have l:∀f:Frame,execOp (λx=>if Cs d.1 x=true then f.eval x else undef) o=execOp f.eval o:=λf=>execOp_congr o AA λx i=>vca (vau.1 j.1.1 x i);rw[<-l f,<-l f'];refine Y5 c.same c.MQ c.funcs (λx i=>?_) k;split
  .exact h.Sa hg i AA
  .exact .undef ρ
 .exact Y5 c.same c.MQ c.funcs (h.eval hg λd a b=>hn ⟨d,a,b⟩) k
end
end
open gD
def yy:Option Code->Bool
 |none=>true
 |some .ret=>true
 | _=>false
def leave(P:cE)(main:Bool)(fr:Frame)(cs:hH)(w:aR)(jump:Option Code):Option Nat->GStep
 |none=>if yy jump=true then .go {frame:={fr with mode:=.returning},callers:=cs,status:=.running,dying:=none} w else .ended (.stuck "exit, goto: no such block or label" (fr.pos P)) w
 |some l=>GStep.after (seen P fr.fn ((Instr.endRound l jump).events P w #[])) (match(Instr.endRound l jump).run P w with
  | .ok v w=>doReturn P main fr cs none v w
  | .halt _ w=>.ended (.stuck "range over a function: no such loop" (fr.pos P)) w)
section
variable{C:cM}{D:Option fT}{S:Sync}{ρ:Ren}{main':Bool}{fr bD:Frame}{cs dz b0 base:hH}{w w':aR}
def ala{r d:ubg}(n:fr.roundOf=r)(p:m_ ρ.rel r d)(jump:Option Code)(s:∀c,jump=some c->C.ew c)(o:eB C D ρ cs.isEmpty fr bD)(a:jm C D ρ cs dz)(j:kz fr cs)(m:e_ C S ρ w w')(b:(kR (leave C.Q main' bD (dz++base) w' jump d)).drawn<=S.bound):jZ C D S ρ b0 base w' (leave C.P true fr (cs++b0) w jump r) (leave C.Q main' bD (dz++base) w' jump d):=by
 cases p with
 |none=>
  simp only[leave];split
  .exact .go a (j.same Y Y) m (o.Gk .returning)
  .trivial
 |@some l k q=>
  simp only[leave,Cr]at b;refine .Cu (akw q jump s) m ?_ (λσ w1 h i=>?_) λg=>?_
  .cases e:(Instr.endRound k jump).run C.Q w' with|ok v f=>simp only[e,Y6]at b;exact b|halt x f=>rw[e]at b;exact b
  .generalize(Instr.endRound l jump).run C.P w=r at h;generalize(Instr.endRound k jump).run C.Q w'=d at h;cases h with
   |ok hv u=>cases a with|nil=>have:=j.2;grind|cons t y n=>exact Ze (o.mono i.le) (t.mono i.le) y (jm.mono i.le n) j.Sc u hv
   | _=>trivial
  .cases e:(Instr.endRound l jump).run C.P w with|ok v f=>exact absurd (by rw[e];trivial) g|halt x f=>trivial
def alb(p:C.Good)(m:eB C D ρ cs.isEmpty fr bD)(B:jm C D ρ cs dz)(P:kz fr cs)(K:e_ C S ρ w w')(j:(kR (stepG.exec C.Q main' true bD (dz++base) none w')).drawn<=S.bound):
 jZ C D S ρ b0 base w' (stepG.exec C.P true true fr (cs++b0) none w) (stepG.exec C.Q main' true bD (dz++base) none w'):=by
 have ht:=m.todo;have Z:=λd a b=>(m.tmps.uh (d:=d) a b).items;have aT:∀{t c7:uab},n6 C ρ t c7->(∀d,D=some d->cs.isEmpty=true->fr.todo.all (fK d.1)=true->t.all (fK d.1)=true)->jZ C D S ρ b0 base w' (.go (a4 {fr with todo:=t} (cs++b0)) w) (.go (a4 {bD with todo:=c7} (dz++base)) w'):=λA hk=>.go B (P.same Y Y) K (m.Sd A hk);have out:∀jump,(∀c,jump=some c->C.ew c)->stepG.exec C.P true true fr (cs++b0) none w=leave C.P true fr (cs++b0) w jump fr.roundOf->stepG.exec C.Q main' true bD (dz++base) none w'=leave C.Q main' bD (dz++base) w' jump bD.roundOf->jZ C D S ρ b0 base w' (stepG.exec C.P true true fr (cs++b0) none w) (stepG.exec C.Q main' true bD (dz++base) none w'):=λjump hj e X=>by rw[X]at j;rw[e,X];exact ala Y m.roundOf jump hj m B P K j
 cases h:fr.todo with
 |nil=>cases q:bD.todo with|cons a l=>rw[h,q]at ht;cases ht|nil=>exact out none (λc e=>GA) Bw Bw
 |cons i k=>
  cases q:bD.todo with
  |nil=>rw[h,q]at ht;cases ht
  |cons i' k'=>
   rw[h,q]at ht;cases ht with
   |cons hi hk=>
    cases hi with
    |@code c hok=>
     have z:=(p.sc c).1 hok;cases c with
     |skip=>unfold stepG.exec;simp only[h,q];exact aT hk KJ
     |label l=>unfold stepG.exec;simp only[h,q];exact aT hk KJ
     |seq a b=>simp only[ky,vag]at z;unfold stepG.exec;simp only[h,q];exact aT (.cons (.code ((p.sc _).2 z.1)) (.cons (.code ((p.sc _).2 z.2)) hk)) KJ
     |cond c a b=>
      simp only[ky,vag]at z;unfold stepG.exec;simp only[h,q];have hv:=m.Sa K.oL z.1.1 λd a b=>by have x:=Z d a b;rw[h]at x;simp_all[fK,nc]
      generalize fr.eval c=v at hv;generalize bD.eval c=v' at hv;cases hv with
      |bool b=>
       refine aT (.cons (.code ?_) hk) (λd _ _ x=>by rw[h]at x;cases b<;>simp_all[fK,nc])
       cases b
       .exact(p.sc _).2 z.2
       .exact(p.sc _).2 z.1.2
      | _=>trivial
     |block id b=>unfold stepG.exec;simp only[h,q];exact aT (.cons (.code ((p.sc _).2 z)) (.cons (.inBlock id) hk)) KJ
     |loop b=>unfold stepG.exec;simp only[h,q];exact aT (.cons (.code ((p.sc _).2 z)) (.cons (.inLoop ((p.sc _).2 z)) hk)) KJ
     |scope b=>unfold stepG.exec;simp only[h,q];exact aT (.cons (.code ((p.sc _).2 z)) (.cons (.inScope ((p.sc _).2 z)) hk)) KJ
     |refuse s=>unfold stepG.exec;simp only[h];trivial
     |ret=>exact out (some .ret) K8 Bw Bw
     |exit id=>
      have A:=akY id hk;cases O:exitTo id k with
      |some t=>cases M:exitTo id k' with|none=>rw[O,M]at A;cases A|some c7=>rw[O,M]at A;cases A with|some A=>unfold stepG.exec;simp only[h,q,O,M,Option.elim_some];exact aT A (λd _ _ x=>by rw[h,vbu,vag]at x;exact Sg O x.2)
      |none=>cases M:exitTo id k' with|some t=>rw[O,M]at A;cases A|none=>exact out (some (.exit id)) K8 Bw Bw
     |goto id=>
      have A:=ak1 p.sc id hk;cases O:gotoIn id k with
      |some t=>cases M:gotoIn id k' with|none=>rw[O,M]at A;cases A|some c7=>rw[O,M]at A;cases A with|some A=>unfold stepG.exec;simp only[h,q,O,M,Option.elim_some];exact aT A (λd _ _ x=>by rw[h]at x;simp[fK,nc]at x)
      |none=>cases M:gotoIn id k' with|some t=>rw[O,M]at A;cases A|none=>exact out (some (.goto id)) K8 Bw Bw
     |region id ops draw=>
      simp only[ky,vau]at z;unfold stepG.exec at j⊢;simp only[h,q]at j⊢;have Zi:∀(l:uac) d,D=some d->cs.isEmpty=true->fr.todo.all (fK d.1)=true->(Item.inRegion ops l::k).all (fK d.1)=true:=λl d _ _ x=>by rw[h,vbu,vag]at x;rw[vbu,vag];exact⟨Zg x.1 l,x.2⟩
      cases draw with
      |false=>exact aT (.cons (.inRegion z _) hk) (Zi _)
      |true=>
       simp only[Bool.not_true,vah,vcr]at j⊢;rw[<-m.fn]at j⊢;rw[p.follows];have kA:(oK ((Go.choose (.order fr.fn id)).run C.Q w')).drawn<=S.bound:=by cases F:(Go.choose (.order fr.fn id)).run C.Q w' with|ok v I=>rw[F]at j;exact j|halt x I=>rw[F]at j;exact j
       obtain⟨σ,Zj,E,H,_⟩:=al.choose (C:=C) (ρ:=ρ) (.order fr.fn id) S w w' K (by unfold Go.choose;simp only[Sem.run,Question.forced];trivial) kA;generalize(Go.choose (.order fr.fn id)).run C.P w=r at E;generalize(Go.choose (.order fr.fn id)).run C.Q w'=r' at E;cases E with|ok ht T=>subst ht;exact .inl ⟨Y,Y,σ,_,cs,_,dz,_,_,Y,by rw[m.fn];rfl,(m.mono H.le).Sd (.cons (.inRegion z _) (n6.mono H.le hk)) (Zi _),jm.mono H.le B,P.same Y Y,T,H,AS⟩| _=>trivial
     |rangeFunc f params assign body=>
      simp only[ky,vag]at z;unfold stepG.exec at j⊢;simp only[h,q,vbe]at j⊢;rw[Cr]at j;rw[<-m.fn]at j⊢;have Q:∀d,D=some d->cs.isEmpty=true->False:=λd a b=>by have x:=Z d a b;rw[h]at x;simp[fK,nc]at x
      refine .Cu (aku (C:=C) (ρ:=ρ) fr.fn m.known (m.tmps.all λd a b _=>Q d a b) params ((p.sc _).2 z.1.2) ((p.sc _).2 z.2) m.roundOf) K ?_ (λσ Zj E H=>?_) λg=>?_
      .cases F:(Instr.enterLoop fr.fn bD.tmps params assign body bD.roundOf).run C.Q w' with|ok v I=>rw[F]at j;exact vad (vad (Ga C.Q _ I).1 (Y8 C.Q _ _ none _ I)) j|halt x I=>rw[F]at j;exact j
      .generalize(Instr.enterLoop fr.fn fr.tmps params assign body fr.roundOf).run C.P w=r at E;generalize(Instr.enterLoop fr.fn bD.tmps params assign body bD.roundOf).run C.Q w'=r' at E j;cases E with
       |@ok a b MB _ et T=>
        obtain⟨l,mark⟩:=a;obtain⟨U,Zk⟩:=b;obtain⟨L,uk⟩:=et;have J:=m.mono H.le;have lP:eB C D σ cs.isEmpty {fr with todo:=.inRangeFunc l::k,defers:=mark++fr.defers} {bD with todo:=.inRangeFunc U::k',defers:=Zk++bD.defers}:=
         ⟨J.fn,J.known,J.tmps.aB Y Y Y (λd a b=>(Q d a b).elim),.cons (.inRangeFunc L) (n6.mono H.le hk),dJ.append uk J.defers,J.mode,J.kind,J.plain,J.roundOf⟩
        rw[<-m.fn]at lP;refine Sf p.funcs lP (jm.mono H.le B) (P.same Y Y) T ?_ (λd a b=>(Q d a b).elim) j;refine .bind (R:=Cf) ?_ λcD x y _ hd=>R4 p.same p.MQ p.funcs hd.target hd.args;have hf:=lP.eval T.oL Q f z.1.1;simp only[resolve];revert hf;generalize Frame.eval _ f=v;generalize Frame.eval _ f=v';intro hf;unfold Deferred.ofValue;have hy:aJ σ #[Value.func (.yield l) #[] #[]] #[Value.func (.yield U) #[] #[]]:=.one (.Mx (.yield L) (.nil σ) (.nil σ));have n3:aJ σ ((#[Operand.const (.func (.yield l) #[] #[])]:uay).map (Frame.eval {fr with todo:=.inRangeFunc l::k,defers:=mark++fr.defers})) ((#[Operand.const (.func (.yield U) #[] #[])]:uay).map (Frame.eval {bD with todo:=.inRangeFunc U::k',defers:=Zk++bD.defers})):=by grind[Frame.eval]
        cases hf with|func kx h1 h3 h4 aP=>exact .pure ⟨.fn kx ⟨h3,aP⟩,aJ.append ⟨h1,h4⟩ n3⟩|nilFunc=>exact .pure ⟨.nil,n3⟩| _=>exact .stuck
       | _=>trivial
      .cases F:(Instr.enterLoop fr.fn fr.tmps params assign body fr.roundOf).run C.P w with|ok v I=>exact absurd (by rw[F];trivial) g|halt x I=>trivial
    |inBlock id=>unfold stepG.exec;simp only[h,q];exact aT hk KJ
    |inScope j=>unfold stepG.exec;simp only[h,q];exact aT hk KJ
    |inLoop j=>unfold stepG.exec;simp only[h,q];exact aT (.cons (.code j) (.cons (.inLoop j) hk)) KJ
    |@inRegion ops Si todo=>
     cases todo with
     |nil=>unfold stepG.exec;simp only[h,q];exact aT hk KJ
     |cons n rest=>
      unfold stepG.exec at j⊢;simp only[h,q]at j⊢;have kS:=jZ.dF (S:=S) (b0:=b0) (base:=base) m B P K (.undef ρ) Jz;cases E:ops[n]? with
      |none=>simp only[E]at j⊢;exact kS
      |some o=>
       have W:∀d,D=some d->cs.isEmpty=true->vt d.1 ops o=true:=λd a b=>by have x:=Z d a b;rw[h]at x;simp_all[fK]
       simp only[E,vcy,vaf,ak6 m.tmps (o:=o) (ops:=ops) λd a b=>by have:=W d a b;simp_all[vt]]at j⊢;split
       .rename_i alc;rw[vca alc]at j;have Sj:=Si o (vbr E);have h1:fr.oper?=some o:=by simp[Frame.oper?,h,E]
        have kC:bD.oper?=some o:=by simp[Frame.oper?,q,E]
        have N:=m.roundOf;unfold stepG.oper at j⊢;simp only[h1,kC]at j⊢;have plain:=λ(hp:∀d,D=some d->cs.isEmpty=true->gD.hX d.1 o=true) hy=>Sf (b0:=b0) (base:=base) p.funcs m B P K (ak_ p m K.oL Sj hp) (λd a b ops' i' r' k' X o' eR=>by
         rw[h]at X;cases X;have:=hp d a b;simp_all[gD.hX]) hy
        by_cases L:∀d,D=some d->cs.isEmpty=true->gD.hX d.1 o=true
        .generalize fr.roundOf=a at N;generalize bD.roundOf=a' at N j;cases N with|none=>exact plain L j|some _=>cases hc:o.op with|defer c=>rw[hc]at Sj;cases Sj| _=>simp only[hc]at j;exact plain L j
        .obtain⟨d,h1,h2,h3⟩:∃d,D=some d/\cs.isEmpty=true/\gD.hX d.1 o=false:=by simpa using L
         have k:=m.tmps.uh h1 h2;have W:=W d h1 h2;simp only[k.round];simp only[vt,h3,Bool.false_or,vag,vem]at W;rcases W.2 with V|hs
         .rw[k.round]at N;generalize bD.roundOf=a' at N;cases N;unfold Y_ at V;split at V
          .rename_i t d' e1 e2;simp only[vag]at V;have ev:∀f:Frame,execOp f.eval o=pure (.value (f.eval (.tmp t))):=λf=>by simp[execOp,e1]
           simp only[ev,stepG.apply,vcx,Sem.runT,pure,ite_self];refine .inl ⟨Y,Y,ρ,_,cs,_,dz,_,_,Y,Y,m.finish (λhc=>?_) (.inr (MR k V.1)),B,P.same (MO _ _).1 (MO _ _).2,K,.refl _ _,λe h=>absurd (Gj h) AS⟩;have:=hc d h1 h2 _ _ _ _ h o E;simp[Ct,e2,V.2]at this
          .cases V
         .have jI:=ak9 k hs w;simp only[stepG.apply,vcx,vbe];generalize(execOp fr.eval o).run C.P w=r at jI;cases jI with|stuck=>trivial|unsupported u hu=>cases u<;>first|trivial|exact absurd Y (hu _)
       .exact kS
    |inRangeFunc L=>unfold stepG.exec;simp only[h];trivial
    |@endRangeFunc l U L=>
     unfold stepG.exec at j⊢;simp only[h,q,vbe]at j⊢;rw[Cr]at j;refine .Cu (akx L p.same) K ?_ (λσ Zj E H=>?_) λg=>?_
     .cases F:(Instr.endLoop U).run C.Q w' with|ok v I=>rw[F]at j;exact j|halt x I=>rw[F]at j;cases x<;>exact j
     .generalize(Instr.endLoop l).run C.P w=r at E;generalize(Instr.endLoop U).run C.Q w'=r' at E;have J:=m.mono H.le;have qe:=jm.mono H.le B;cases E with
      |@ok a b MB _ et T=>obtain⟨e,hj⟩:=et;subst e;refine .go qe (P.same Y Y) T (J.Sd (dJ.append ?_ (n6.mono H.le hk)) λd _ _ x=>by rw[h]at x;simp[fK]at x);cases a with|none=>exact .nil|some c=>exact .cons (.code (hj c Y)) .nil
      |panic hv T=>exact .raise J qe P T (.cons ⟨hv,Y,Y⟩ .nil)
      |goexit=>trivial
     .cases F:(Instr.endLoop l).run C.P w with|ok v I=>exact absurd (by rw[F];trivial) g|halt x I=>rw[F]at g;cases x with|panic v=>exact absurd trivial g| _=>trivial
    |beginRound=>unfold stepG.exec at j⊢;simp only[h,q]at j⊢;refine Sf p.funcs m B P K (.bind (R:=λ_(_ _:Unit)=>True) ?_ λ_ _ _ _ _=>.pure .skip) (λd a b=>by have x:=Z d a b;rw[h]at x;simp[fK]at x) j;have N:=m.roundOf;generalize fr.roundOf=a at N;generalize bD.roundOf=b at N;cases N with|none=>exact .stuck|some L=>exact akv L p.same
end
end av
namespace av
variable{c7 t:dX}{bD fr:Frame}{b0 cs dz:hH}{w w':aR}
section
section
variable{C:cM}{D:Option gD.fT}{S:Sync}{ρ:Ren}
def ald(c:C.cn):∀(l:List ResultVar)ρ,aJ ρ t c7->al C ρ (λσ a b=>dJ (au σ) a b)
 (l.mapM λ| .tmp x=>pure (t.getD x undef)| .cell a ty=>do Go.loadVar ty (<-Go.asAddr (t.getD a undef))) (l.mapM λ| .tmp x=>pure (c7.getD x undef)| .cell a ty=>do Go.loadVar ty (<-Go.asAddr (c7.getD a undef))):=by
 intro l;induction l with|nil=>intro ρ _;simp only[List.mapM_nil];exact .pure .nil|cons r l d=>intro ρ h;simp only[List.mapM_cons];refine .bind (R:=au) ?_ λσ v v' l1 hv=>.bind (d σ (h.mono l1)) λi a b l2 f=>.pure (.cons (hv.mono l2) f);cases r with|tmp x=>exact .pure (h.getD (.undef ρ) x)|cell a ty=>exact .bind (al.asAddr c (h.getD (.undef ρ) a)) λσ p g _ e=>al.loadVar c ty e
def ale(e:C.cn)fn(h:aJ ρ t c7):al C ρ au (results fn t) (results fn c7):=by
 unfold results;refine .bind (R:=aJ) ?_ λσ a b _ c=>.pure ?_
 .rw[vev,vev];exact .bind (f:=λl=>Pure.pure l.toArray) (f':=λl=>Pure.pure l.toArray) (ald e fn.results.toList ρ h) λσ a b _ c=>.pure (aJ.My c)
 .by_cases h1:a.size=1
  .have d:b.size=1:=c.size▸h1;rw[dif_pos h1,dif_pos d];exact c.get 0 _ _ AA AA
  .have d:¬b.size=1:=c.size▸h1;rw[dif_neg h1,dif_neg d];exact .F_ c
def alf(s:C.Good){base:hH}{d n:Deferred}(H:eB C D ρ cs.isEmpty fr bD)(z:jm C D ρ cs dz)(l:kz fr cs)(J:e_ C S ρ w w')(hd:Cf ρ d n)(hn:∀d,D=some d->cs.isEmpty=true->False)(p:(kR (callDeferred C.Q bD (dz++base) none n w')).drawn<=S.bound):jZ C D S ρ b0 base w' (callDeferred C.P fr (cs++b0) none d w) (callDeferred C.Q bD (dz++base) none n w'):=by
 have O:∀{t c7:Target}{m B:FrameMode},xb ρ t c7->xk ρ m B->((t matches .nil)&&(m matches .panicking _))=((c7 matches .nil)&&(B matches .panicking _)):=λht L=>by cases ht<;>cases L<;>rfl
 have v:=akT C.Q bD (dz++base) none n w';unfold callDeferred;simp only[vbe];have ite:∀{c u:Prop}[Decidable c][Decidable u]{o:Outcome}{w1:aR}{a b I:GStep},(c↔u)->(¬u->jZ C D S ρ b0 base w' b I)->jZ C D S ρ b0 base w' (if c then .ended o w1 else b) (if u then a else I):=λh k=>by
  split
  .trivial
  .rename_i q;rw[vby (λx=>q (h.2 x))];exact k λx=>q (h.2 x)
 refine ite (iff_of_eq (vcd (· =true) (O hd.target H.mode))) λq=>?_;have v:=vad (v.resolve_left q) p;refine .Cu (R4 s.same s.MQ s.funcs hd.target hd.args) J v (λσ w1 y F=>?_) (λg=>?_) λe N=>(by grind[Gj N])
 .have j:=H.mono F.le;have i:=jm.mono F.le z;generalize(invoke d.target d.args).run C.P w=r at y;generalize(invoke n.target n.args).run C.Q w'=r' at y;cases y with
  |ok hn f=>cases hn with|value hv=>exact .go i l f j|skip=>exact .go i l f j|enter A K p=>exact .push j i l f (λd a b=>(hn d a b).elim) (.enter s.funcs A K p Jz Jz)|round M P ht A p=>exact .push j i l f (λd a b=>(hn d a b).elim) (.round M P ht A p Jz Jz)
  |panic hv f=>exact .raise j i l f (.cons ⟨hv,Y,Y⟩ .nil)
  |goexit f=>exact .raise j i l f (.cons ⟨.undef σ,Y,Y⟩ .nil)
 .cases E:(invoke d.target d.args).run C.P w with|ok Q w1=>exact absurd (by rw[E];trivial) g|halt x w1=>rw[E]at g;cases x with|blocked=>exact .inr (.inl ⟨Y,.inl Y⟩)|waiting=>exact .inr (.inl ⟨Y,.inr Y⟩)|fatal m=>exact .fatal|throw m=>exact .die| _=>first|trivial|exact absurd trivial g
def MS(fr:Frame)(cs:hH):Prop:=cs=[]/\fr.defers=[]/\(fr.mode=.returning\/∃l,fr.mode=.panicking l)
def alg(B:C.Good){main':Bool}{base:hH}(f:eB C D ρ cs.isEmpty fr bD)(o:jm C D ρ cs dz)(z:kz fr cs)(y:e_ C S ρ w w')(I:fr.mode≠ .run)(N:¬MS fr cs)(e:(kR (unwind C.Q main' bD (dz++base) none w')).drawn<=S.bound):jZ C D S ρ b0 base w' (unwind C.P true fr (cs++b0) none w) (unwind C.Q main' bD (dz++base) none w'):=by
 have i:=f.defers;unfold unwind at e⊢;cases hd:fr.defers with
 |cons d ds=>
  cases s:bD.defers with
  |nil=>rw[hd,s]at i;cases i
  |cons R X=>
   rw[hd,s]at i;rw[s]at e;cases i with
   |cons j u=>
    have n:fr.defers≠[]:=by simp[hd]
    have plain:=alf (b0:=b0) (base:=base) B (f.Zc u n) o (z.same Y Y) y j λd a b=>n (f.tmps.uh a b).defers;obtain⟨t,a⟩:=d;obtain⟨c7,a'⟩:=R;have H:=j.target;cases H with
    |@collected r J F=>
     simp only[vbe]at e⊢;rw[Cr]at e;refine .Cu (aky F) y ?_ (λσ w1 k p=>?_) λg=>?_
     .cases hq:(Instr.takeDeferred J).run C.Q w' with|ok v h=>rw[hq]at e;exact e|halt x h=>rw[hq]at e;exact e
     .generalize(Instr.takeDeferred r).run C.P w=q at k;generalize(Instr.takeDeferred J).run C.Q w'=q' at k;cases k with|ok hv E=>exact .go (jm.mono p.le o) (z.same Y Y) E ((f.mono p.le).Zc (dJ.append hv (qV.mono p.le u)) n)| _=>trivial
     .cases hq:(Instr.takeDeferred r).run C.P w with|ok v h=>exact absurd (by rw[hq];trivial) g|halt x h=>trivial
    | _=>exact plain e
 |nil=>
  have s:bD.defers=[]:=by rw[hd]at i;generalize bD.defers=q at i;cases i;rfl
  have A:=f.mode;obtain⟨fn,c,K,W⟩:=f.known;obtain⟨hq,_,_⟩:=B.funcs.body _ _ _ K W;rw[f.fn]at hq;cases o with
  |nil=>exfalso;apply N;refine⟨Y,hd,?_⟩;cases M:fr.mode with|run=>grind|returning=>grind|panicking l=>grind
  |@cons b3 U cs dz L V u=>
   rw[s]at e⊢;generalize M:fr.mode=m at A I;generalize T:bD.mode=m' at A e;cases A with
   |run=>grind
   |returning=>
    simp only[K,hq,vbe]at e⊢;rw[Cr]at e;refine .Cu (ale B.same fn (f.tmps.all λd a b=>by cases b)) y ?_ (λσ w1 k p=>?_) λg=>?_
    .cases j:(results fn bD.tmps).run C.Q w' with|ok v h=>rw[j]at e;simp only[Y6]at e;exact e|halt x h=>rw[j]at e;cases x<;>exact e
    .generalize(results fn fr.tmps).run C.P w=q at k;generalize(results fn bD.tmps).run C.Q w'=q' at k;cases k with|ok hv E=>exact Ze (f.mono p.le) (L.mono p.le) V (jm.mono p.le u) z.Sc E hv| _=>trivial
    .cases j:(results fn fr.tmps).run C.P w with|ok v h=>exact absurd (by rw[j];trivial) g|halt x h=>cases x<;>trivial
   |panicking Q=>
    have P:fr.catches C.P=false:=by grind[Frame.catches]
    have O:bD.catches C.Q=false:=by grind[Frame.catches]
    simp only[P,O];exact .raise L u z.Sc y Q
def alk(g:C.Good){main' base}(d:eB C D ρ cs.isEmpty fr bD)(a:jm C D ρ cs dz)(h:kz fr cs)(f:e_ C S ρ w w')(i:¬MS fr cs)(b:(kR (stepG C.Q main' (a4 bD (dz++base)) w')).drawn<=S.bound):jZ C D S ρ b0 base w' (stepG C.P true (a4 fr (cs++b0)) w) (stepG C.Q main' (a4 bD (dz++base)) w'):=by have c:=d.mode;have e:=alb (b0:=b0) (base:=base) (main':=main') g d a h f;have u:=alg (b0:=b0) (base:=base) (main':=main') g d a h f;simp only[stepG,a4]at b⊢;generalize fr.mode=m at c u;generalize bD.mode=m' at c b;cases c with|run=>exact e b| _=>exact u AS i b
end
end
def mc(g:uaj)(w:aR):Machine:={world:=w,gs:=#[g],rest:={timers:=#[],alone:=none,slice:=none}}
theorem alm(fr:Frame)(cs:hH)(w:aR):lone fr cs w=mc (a4 fr cs) w:=rfl
variable{g:uaj}
def aln{P:cE}(hs:g.status=.running):move P (mc g w)=.goroutine (mc g w) 0:=by simp[move,ask,askOn,mc,runnable_eq,due,ahead,Goroutine.canRun,vdo,choose,pure,Sem.run,Question.forced,hs]
def Cw{P:cE}{s:GStep}(a:g.status=.running)(h:stepG P true g w=s):
 (∀g1 w1 es,s=.go g1 w1 es->step P (mc g w)=.next (mc g1 w1))/\(∀o w1 es,s=.ended o w1 es->step P (mc g w)=.ended o w1):=by
 rw[step,stepT,aln a];grind[runT,mc]
def Zm{P:cE}{m1:Machine}(hs:g.status=.blocked\/g.status=.waiting)(h:step P (mc g w)=.next m1):m1=mc g w:=by
 rcases hs with hs|hs
 .exfalso;have dF:∀x:GStep,∃o w1,(match(motive:=GStep->Move) x with| .ended o w _=>Move.machine (.ended o w)| _=>.machine (.ended (.stuck "" "") default))=.machine (.ended o w1):=λx=>by cases x<;>exact⟨_,_,Y⟩
  have:∃o w1,move P (mc g w)=.machine (.ended o w1):=by simp only[move,ask,askOn,mc,runnable_eq,due,ahead];simp[Goroutine.canRun,vdo,hs,pure];exact dF _
  grind[step,stepT]
 .have:move P (mc g w)=.machine (.next (mc g w)):=by simp[move,ask,askOn,mc,runnable_eq,due,ahead,Goroutine.canRun,vdo,hs,pure]
  grind[step,stepT]
def alo{P:cE}{d:Dying}{f:Fatal}(a:d.calling=false):(∃o w1 es,writeOn P fr d f w=.ended o w1 es)\/∃g1 w1 es,writeOn P fr d f w=.go g1 w1 es/\Ja g1:=by
 unfold writeOn;simp only[];split
 .grind
 .split
  .exact .inr ⟨_,_,_,Y,.inr ⟨_,_,Y,Y,a,.inl Y⟩⟩
  .exact .inr ⟨_,_,_,Y,.inr ⟨_,_,Y,Y,a,.inr Y⟩⟩
  .grind
  grind
theorem alp{P:cE}{m1:Machine}(hd:Ja g)(h:step P (mc g w)=.next m1):∃g1 w1,m1=mc g1 w1/\Ja g1:=by
 rcases hd with⟨h1,h2⟩|⟨d,f,h1,h2,h3,h4⟩
 .exact⟨g,w,Zm h2 h,.inl ⟨h1,h2⟩⟩
 .rcases h4 with h4|h4
  .have e:stepG P true g w=writeOn P g.frame d f w:=by obtain⟨fr,cs,st,a,off⟩:=g;simp only at h1;subst h1;obtain⟨todo,texts,calling,pending,alq,hand,fatal⟩:=d;simp only at h2 h3;subst h2;subst h3;rfl
   rcases alo (P:=P) (fr:=g.frame) (f:=f) (w:=w) h3 with⟨o,w1,es,e1⟩|⟨g1,w1,es,e1,b⟩
   .rw[(Cw h4 (e.trans e1)).2 _ _ _ Y]at h;cases h
   .rw[(Cw h4 (e.trans e1)).1 _ _ _ Y]at h;grind
  .exact⟨g,w,Zm (.inl h4) h,.inr ⟨d,f,h1,h2,h3,.inr h4⟩⟩
variable{gb:Frame}{cse:hH}{cj:aR}
def alr{P:cE}:∀(n:Nat)(g:uaj)(w:aR),Ja g->runN P n (mc g w)≠ .next (lone gb cse cj):=by
 intro n;induction n with
 |zero=>
  intro g w hd h;simp only[runN,Stepped.next.injEq,alm]at h;have:g=a4 gb cse:=by simp_all[mc]
  subst this;rcases hd with⟨_,h2⟩|⟨d,f,h1,_⟩
  .rcases h2 with h2|h2<;>cases h2
  .cases h1
 |succ n a=>intro g w hd h;rw[runN]at h;grind[alp]
def fL(f:uak):Frame:={fn:=f,tmps:=#[],todo:=[.code (.refuse "")],defers:=[{target:=.nil,args:=#[]}],mode:=.run,kind:=.normal,roundOf:=none}
variable{f:uak}
def Zn{P:cE}:∀(n:Nat)(w:aR),(∀v,runN P n (lone ((fL f).finish v) [] w)≠ .next (lone gb (cs++[fL f]) cj))/\∀l,runN P n (lone ((fL f).raise l) [] w)≠ .next (lone gb (cs++[fL f]) cj):=by
 intro n w;have short:∀{fr:Frame}{w:aR},lone fr [] w≠lone gb (cs++[fL f]) cj:=by simp_all[lone]
 cases n with
 |zero=>grind[runN]
 |succ n=>
  refine⟨λv h=>?_,λl h=>?_⟩
  .rw[runN]at h;have e:∃o w1,(stepG P true (a4 ((fL f).finish v) []) w).bare=.ended o w1:=⟨_,_,Y⟩;obtain⟨o,w1,e⟩:=e;rw[step_lone_ended e]at h;cases h
  .rw[runN]at h;have e:∃o w1,(stepG P true (a4 ((fL f).raise l) []) w).bare=.ended o w1:=⟨_,_,Y⟩;obtain⟨o,w1,e⟩:=e;rw[step_lone_ended e]at h;cases h
variable{fn:Func}
section
variable{C:cM}{D:Option gD.fT}{S:Sync}{ρ:Ren}
theorem Zo{a:Frame}{cs1:hH}{w1:aR}(h:lone fr cs w=lone a cs1 w1):fr=a/\cs=cs1/\w=w1:=by simp_all[lone]
def als{P:cE}{n:Nat}(i:P.funcs[fr.fn]?=some fn)(hk:fr.kind=.normal)(d:MS fr []):
 runN P (n+1) (lone fr [fL f] w)≠ .next (lone gb (cse++[fL f]) cj):=by
 intro h;rw[runN]at h;obtain⟨_,hd,c|⟨l,c⟩⟩:=d
 .have e:stepG P true (a4 fr [fL f]) w=GStep.after (seen P fr.fn ((results fn fr.tmps).events P w #[])) (match(results fn fr.tmps).run P w with
   | .ok v w=>doReturn P true fr [fL f] none v w
   | .halt (.stuck s) w=>.ended (.stuck s (fr.pos P)) w
   | .halt _ w=>.ended (.stuck "return: the result variables cannot be read" (fr.pos P)) w):=by
   grind[stepG,a4,unwind,Sem.runT_eq]
  cases b:(results fn fr.tmps).run P w with
  |ok v w1=>rw[b]at e;simp only[doReturn,hk,GStep.after]at e;rw[show step P (lone fr [fL f] w)=.next (mc (a4 ((fL f).finish v) []) w1)from(Cw (g:=a4 fr [fL f]) Y e).1 _ _ _ Y]at h;exact(Zn (cs:=cse) n w1).1 v h
  |halt x w1=>
   have:∃o a es,stepG P true (a4 fr [fL f]) w=.ended o a es:=by rw[e,b];cases x<;>exact⟨_,_,_,Y⟩
   obtain⟨o,a,es,e2⟩:=this;rw[show step P (lone fr [fL f] w)=.ended o a from(Cw (g:=a4 fr [fL f]) Y e2).2 _ _ _ Y]at h;cases h
 .have j:fr.catches P=false:=by grind[Frame.catches]
  have e:stepG P true (a4 fr [fL f]) w=.go (a4 ((fL f).raise l) []) w:=by grind[stepG,a4,unwind]
  rw[show step P (lone fr [fL f] w)=.next (mc (a4 ((fL f).raise l) []) w)from(Cw (g:=a4 fr [fL f]) Y e).1 _ _ _ Y]at h;exact(Zn (cs:=cse) n w).2 l h
def alt(p:C.Good){main' base n}(i:eB C D ρ cs.isEmpty fr bD)(a:jm C D ρ cs dz)(e:kz fr cs)(l:e_ C S ρ w w')(m:(kR (stepG C.Q main' (a4 bD (dz++base)) w')).drawn<=S.bound)(hrun:runN C.P n (lone fr (cs++[fL f]) w)=.next (lone gb (cse++[fL f]) cj)):
 (cs=cse/\fr=gb/\w=cj)\/∃k g1 w1,n=k+1/\Za C D S ρ [fL f] base w' g1 w1 (stepG C.Q main' (a4 bD (dz++base)) w')/\runN C.P k (mc g1 w1)=.next (lone gb (cse++[fL f]) cj):=by
 cases n with
 |zero=>grind[runN,Zo,List.append_cancel_right]
 |succ k=>
  obtain⟨fn,c,j,q⟩:=i.known;by_cases d:MS fr cs
  .obtain⟨h1,h2⟩:=d;subst h1;exact absurd hrun (als j e.1 ⟨Y,h2⟩)
  .right;have hk:=alk p (b0:=[fL f]) i a e l d m;rw[runN]at hrun;cases hs:stepG C.P true (a4 fr (cs++[fL f])) w with
   |go g1 w1 es=>
    rw[hs]at hk;rw[show step C.P (lone fr (cs++[fL f]) w)=.next (mc g1 w1)from(Cw (g:=a4 fr (cs++[fL f])) Y hs).1 _ _ _ Y]at hrun;rcases hk with⟨_,_,h⟩|b
    .exact⟨k,g1,w1,Y,h,hrun⟩
    .exact absurd hrun (alr _ _ _ b)
   |ended o w1 es=>rw[show step C.P (lone fr (cs++[fL f]) w)=.ended o w1 from(Cw (g:=a4 fr (cs++[fL f])) Y hs).2 _ _ _ Y]at hrun;cases hrun
   | _=>rw[hs]at hk;exact absurd hk id
end
structure a0 where
 g:Goroutine
 w:aR
 mine:Nat->Prop
structure me(K:dL)(X:a0)(w':aR):Prop where
 heap:∀b,K b\/X.mine b->w'.heap[b]?=X.w.heap[b]?
 size:X.w.heap.size<=w'.heap.size
 env:w'.os.env=X.w.os.env
def grown(mine:dL)(w' w1:aR):Nat->Prop:=λb=>mine b\/(w'.heap.size<=b/\b<w1.heap.size)
def yz(K mine:dL)(e:Event):Prop:=
 match e.loc with
 | .cell a=>(K a.block\/mine a.block)/\(e.write=true->mine a.block)/\e.sync=false
 | .obj r=>(K r\/mine r)/\(e.write=true->mine r)/\e.sync=false
 | .mark .noRoom| .mark (.extern _)| .output=>True
 | _=>False
structure Sl(K mine:dL)(w':aR)(g1:uaj)(w1:aR)(es:uat):Prop where
 run:g1.status=.running
 q1:g1.dying=none
 kept:∀b,b<w'.heap.size->¬mine b->w1.heap[b]?=w'.heap[b]?
 size:w'.heap.size<=w1.heap.size
 os:w1.os=w'.os
 output:w1.output=w'.output
 tape:w1.tape=w'.tape
 drawn:w'.drawn<=w1.drawn
 evs:∀e∈es,yz K (grown mine w' w1) e
def Sm(K mine:dL)(w':aR)(s:GStep):Prop:=∃g1 w1 es,s=.go g1 w1 es/\Sl K mine w' g1 w1 es
inductive ix(Q:cE)(main:Bool)(K:dL)(post:a0->Prop):a0->Prop
 |done {X:a0} (h:post X):ix Q main K post X
 |step {X:a0} (ok:∀w',me K X w'->Sm K X.mine w' (stepG Q main X.g w'))
  (h:∀w' g1 w1 es,me K X w'->stepG Q main X.g w'=.go g1 w1 es->ix Q main K post ⟨g1,w1,grown X.mine w' w1⟩):ix Q main K post X
section
variable{Q:cE}{main:Bool}{K:dL}{post:a0->Prop}
def Sn(Q:cE)(main:Bool)(K:dL)(post:a0->Prop)(X:a0)(w':aR):Prop:=
 me K X w'/\¬(Sm K X.mine w' (stepG Q main X.g w')/\∀g1 w1 es,stepG Q main X.g w'=.go g1 w1 es->ix Q main K post ⟨g1,w1,grown X.mine w' w1⟩)
theorem So{X}(h:¬ix Q main K post X):¬post X/\∃w',Sn Q main K post X w':=by refine⟨λc=>h (.done c),vaz λhn=>h ?_⟩;have key:∀w',me K X w'->Sm K X.mine w' (stepG Q main X.g w')/\∀g1 w1 es,stepG Q main X.g w'=.go g1 w1 es->ix Q main K post ⟨g1,w1,grown X.mine w' w1⟩:=λw' a=>vaz λb=>hn ⟨w',a,b⟩;exact .step (λw' a=>(key w' a).1) (λw' g1 w1 es a hs=>(key w' a).2 g1 w1 es hs)
def alv Q main K post a:∃(X:Nat->a0)(v:Nat->aR),X 0=a/\(∀k,¬ix Q main K post (X k)->Sn Q main K post (X k) (v k))/\
 ∀k g1 w1 es,stepG Q main (X k).g (v k)=.go g1 w1 es->X (k+1)=⟨g1,w1,grown (X k).mine (v k) w1⟩:=by
 have pick:∀X:a0,∃w':aR,¬ix Q main K post X->Sn Q main K post X w':=by
  intro X;by_cases h:ix Q main K post X
  .simp_all
  simp_all[So]
 obtain⟨p,b⟩:=vbi.1 pick;refine⟨λk=>Nat.rec a (λ_ X=>match stepG Q main X.g (p X)with| .go g1 w1 _=>⟨g1,w1,grown X.mine (p X) w1⟩| _=>X) k,λk=>p _,Y,λk=>b _,λk g1 w1 es h=>?_⟩;grind
end
def qh(b3:Nat)(B E:uas):Nat->Nat
 |0=>b3
 |k+1=>qh b3 B E k+(E k-B k)
def Zp b3 B E{k l}(h:k<=l):qh b3 B E k<=qh b3 B E l:=by induction h with|refl=>grind|step _ a=>exact vad a (vee _ _)
open Classical in
def alw(b3:Nat)(B E:uas)(c:Nat->Nat->Question->Nat):∃T:Nat->Question->Nat,∀k j q,B k+j<E k->T (qh b3 B E k+j) q=c k (B k+j) q:=by
 refine⟨λi q=>if h:∃k,qh b3 B E k<=i/\i<qh b3 B E (k+1)then c (Classical.choose h) (B (Classical.choose h)+(i-qh b3 B E (Classical.choose h))) q else 0,λk j q f=>?_⟩;have b:∃k',qh b3 B E k'<=qh b3 B E k+j/\qh b3 B E k+j<qh b3 B E (k'+1):=⟨k,vee _ _,by grind[qh]⟩;simp only[dif_pos b];have e:=Classical.choose_spec b;generalize Classical.choose b=k' at e;have hk:k'=k:=by
  rcases Nat.lt_trichotomy k' k with a|d|a
  .have:=Zp b3 B E (Nat.succ_le_of_lt a);grind
  .exact d
  .have:=Zp b3 B E (Nat.succ_le_of_lt a);grind[qh]
 grind
variable{q2 w0:aR}
section
variable{C:cM}{D:Option gD.fT}{S:Sync}{ρ:Ren}
def e_.rely{K X bound}(h:e_ C S ρ w X.w)(d:me K X w')(hd:∀a b,ρ.rel a b->K b\/X.mine b)(ht:∀j q,w'.drawn+j<bound->w.tape (w.drawn+j) q=w'.tape (w'.drawn+j) q):e_ C ⟨w.drawn,w'.drawn,bound,S.T⟩ ρ w w':=
 ⟨λb c e=>by
  obtain⟨o,o',h1,h2,h3⟩:=h.obj b c e;exact⟨o,o',h1,(d.heap c (hd b c e)).trans h2,h3⟩,
  h.one,h.inj,h.oL,Nat.add_comm _ _,ht,h.env.trans d.env.symm,h.lone,h.still⟩
structure AK(C:cM)(D:Option gD.fT)(K:dL)(T:Nat->Question->Nat)(nd:Ren)(n0:Nat)(base:hH)(ρ:Ren)(fr:Frame)(cs:hH)(w:aR)(X:a0):Prop where
 frames:∃bD dz,X.g=a4 bD (dz++base)/\eB C D ρ cs.isEmpty fr bD/\jm C D ρ cs dz
 bottom:kz fr cs
 world:e_ C ⟨w.drawn,X.w.drawn,0,T⟩ ρ w X.w
 le:Ren.le nd ρ
 mine:∀b,ρ.mine b->X.mine b
 dom:∀a b,ρ.rel a b->K b\/X.mine b
 old:∀a b,ρ.rel a b->nd.rel a b\/n0<=b
 size:n0<=X.w.heap.size
def Zq(hC:C.Good){p M:Frame}{cs0 t base:hH}{d:Ren}(H:eB C D d cs0.isEmpty p M)(F:jm C D d cs0 t)(V:kz p cs0){K yA:dL}(hw:∀T,e_ C ⟨w0.drawn,q2.drawn,0,T⟩ d {w0 with tape:=T} q2)(x:∀b,d.mine b->yA b)(hK:∀a b,d.rel a b->K b\/yA b){R:Frame->List Frame->aR->Prop}(hrun:∀T,∃n gb cse cj,runN C.P n (lone p (cs0++[fL f]) {w0 with tape:=T})=.next (lone gb (cse++[fL f]) cj)/\R gb cse cj)(main:Bool):
 ix C.Q main K (λX=>∃ρ fr cs w T,R fr cs w/\AK C D K T d q2.heap.size base ρ fr cs w X) ⟨a4 M (t++base),q2,yA⟩:=by
 generalize Je:(λX=>∃ρ fr cs w T,R fr cs w/\AK C D K T d q2.heap.size base ρ fr cs w X)=post
 have aFP:∀X,(∃ρ fr cs w T,R fr cs w/\AK C D K T d q2.heap.size base ρ fr cs w X)->post X:=AA
 clear Je
 apply vaz
 intro hn
 generalize Sq:(⟨a4 M (t++base),q2,yA⟩:a0)=MU at hn
 obtain⟨X,v,A,mf,di⟩:=alv C.Q main K post MU
 let B:Nat->Nat:=λk=>(v k).drawn
 let E:Nat->Nat:=λk=>(kR (stepG C.Q main (X k).g (v k))).drawn
 obtain⟨T,hT⟩:=alw w0.drawn B E λk=>(v k).tape
 obtain⟨n,gb,cse,cj,hrun,alA⟩:=hrun T
 have main:∀(n k:Nat)(ρ:Ren)(fr:Frame)(cs:hH)(w:aR),AK C D K T d q2.heap.size base ρ fr cs w (X k)->w.drawn=qh w0.drawn B E k->¬ix C.Q main K post (X k)->
  runN C.P n (lone fr (cs++[fL f]) w)=.next (lone gb (cse++[fL f]) cj)->False:=by
  intro n;induction n with
  |zero=>grind[runN,Zo,List.append_cancel_right,So]
  |succ n Z=>
   intro k ρ fr cs w ht hd O hr;obtain⟨o,i⟩:=mf k O;have m:=di k;have S:=hT k;have Q:B k=(v k).drawn:=rfl;have l:E k=(kR (stepG C.Q main (X k).g (v k))).drawn:=rfl;generalize hv:v k=v' at o i m S Q l;generalize aFQ:X k=Y at ht O o i m l;obtain⟨bD,dz,hg,cu,y⟩:=ht.frames;have g3:e_ C ⟨w.drawn,v'.drawn,E k,T⟩ ρ w v':=ht.world.rely o ht.dom λj q P=>by have:=S j q AA;rw[Q,<-hd]at this;rw[ht.world.lone];grind
   rw[hg]at l i m;rcases alt hC cu y ht.bottom g3 (Nat.le_of_eq l.symm) hr with⟨h1,h2,h3⟩|⟨n',g1,w1,Cx,hst,AM⟩
   .grind[So]
   .cases Cx;obtain⟨σ,W,cs1,u,N,g,es',Jh,hs,L,Zt,iR,e,c,qZ⟩:=hst;subst Jh;rw[hs]at l i m;have J:=m _ _ _ rfl;have hsz:∀b,σ.mine b->grown Y.mine v' g b:=λb r=>by
     rcases c.back b r with h|h
     .exact .inl (ht.mine b h)
     .rcases c.low b r with z|z
      .exact .inl (ht.mine b z)
      .exact .inr ⟨h,z⟩
    have Ji:∀a b,σ.rel a b->K b\/grown Y.mine v' g b:=λa b s=>by
     rcases c.old a b s with h|h
     .exact(ht.dom a b h).imp id .inl
     .obtain⟨_,o',_,h2,_⟩:=e.obj a b s;exact .inr (.inr ⟨h,by
       grind⟩)
    have I:Sl K Y.mine v' (a4 u (N++base)) g es':=by refine⟨rfl,rfl,λb r x=>c.kept b r λh=>x (ht.mine b h),c.size,c.os,c.output,c.tape,c.drawn,λev aFR=>?_⟩;grind[Ch,yz]
    have aFS:¬ix C.Q main K post ⟨a4 u (N++base),g,grown Y.mine v' g⟩:=λhc=>i ⟨⟨_,_,_,rfl,I⟩,λg2 w2 aFT e2=>AA⟩;have U:w1.drawn=qh w0.drawn B E (k+1):=by have MW:=e.sync;have aFU:=c.drawn;grind[qh,kR]
    refine Z (k+1) σ W cs1 w1 ?_ U AA AM;rw[J];refine⟨⟨u,N,rfl,L,Zt⟩,iR,?_,Ren.le_trans ht.le c.le,hsz,Ji,λa b s=>?_,vad ht.size (vad o.size c.size)⟩
    .exact⟨e.obj,e.one,e.inj,e.oL,Nat.add_comm _ _,λj q P=>absurd P (Nat.not_lt_zero _),e.env,e.lone,e.still⟩
    .rcases c.old a b s with h|h
     .exact ht.old a b h
     .exact .inr (vad ht.size (vad o.size h))
 refine main n 0 d p cs0 {w0 with tape:=T} ?_ rfl ?_ hrun
 .rw[A];subst Sq;exact⟨⟨_,t,rfl,H,F⟩,V,hw T,Ren.le_refl _,x,hK,λa b h=>.inl h,vac _⟩
 grind
theorem ix.mono{Q main K post a X}(h:ix Q main K post X)(c:∀Y,post Y->a Y):ix Q main K a X:=by induction h with|done h=>exact .done (c _ h)|step ok _ b=>exact .step ok b
def alE(h:C.Good){c:Code}(m:C.P.funcs[f]?=some fn)(p:fn.body=some c){args g:dX}{d:Ren}(r:aJ d args g){K yA:dL}(k:∀T,e_ C ⟨w0.drawn,q2.drawn,0,T⟩ d {w0 with tape:=T} q2)(o:∀b,d.mine b->yA b)(hK:∀a b,d.rel a b->K b\/yA b){R:Ending->aR->Prop}(y:∀e w,R e w->e≠ .outgrown)(j:∀T,Calls C.P f args {w0 with tape:=T} R)(main:Bool)(base:hH):
 ix C.Q main K (λX=>∃ρ fr w T e,R e w/\fr.fn=f/\fr.leaving C.P w e/\AK C none K T d q2.heap.size base ρ fr [] w X) ⟨a4 (Frame.enter C.Q f g .normal) base,q2,yA⟩:=by
 have q:kz (Frame.enter C.P f args .normal) []:=by unfold Frame.enter;exact⟨Y,Y⟩
 refine(Zq (f:=f) (base:=base) (R:=λfr cs w=>cs=[]/\∃e,R e w/\fr.fn=f/\fr.leaving C.P w e) h (.enter h.funcs r m p Jv Jv) .nil q k o hK (λT=>?_) main).mono ?_
 .obtain⟨e,cj,gb,t,i,x,s⟩:=j T [fL f];have u:Steps C.P (lone (Frame.enter C.P f args .normal) [fL f] {w0 with tape:=T}) (lone gb [fL f] cj):=by cases e with|outgrown=>grind|returned v=>exact i|panicked l=>exact i
  obtain⟨n,hn⟩:=u;grind
 grind
end
variable{aq:Type}
def MY:∀(l:List (String×aq)),l.all (λp=> !("" ==p.1))=true->l.lookup "" =none:=by grind
theorem Zv:Extern.allNextRows.lookup "" =none:=MY _ AD
theorem alG:Extern.allRows.lookup "" =none:=MY _ AD
theorem alH:Extern.allTypedRows.lookup "" =none:=MY _ AD
theorem alI:Extern.allGenericRows.lookup "" =none:=MY _ AD
abbrev Jk(args:dX):Sem Value:=do
 let(x,y,c) <-Extern.MathBitsCarry.three "Add64" args
 pure (Extern.MathBitsCarry.pair ((x+y+c) % Extern.MathBitsCarry.m64) ((x+y+c) / Extern.MathBitsCarry.m64))
theorem alJ:Extern.allNextRows.lookup "math/bits.Add64" =none:=by kernel_rfl
theorem alK:Extern.allRows.lookup "math/bits.Add64" =some Jk:=by kernel_rfl
theorem alL:Extern.allTypedRows.lookup "math/bits.Add64" =none:=by kernel_rfl
theorem alM:Extern.allGenericRows.lookup "math/bits.Add64" =none:=by kernel_rfl
def Jl(fn:Func):Bool:=fn.name== "math/bits.Add64" &&fn.origin== "" &&fn.body.isNone
def Sr(h:Jl fn=true):Extern.findNext fn=none/\Extern.find fn=some Jk/\fn.body=none/\(fn.name== "runtime.NumGoroutine")=false:=by
 simp only[Jl,vag,beq_iff_eq,Option.isNone_iff_eq_none]at h;obtain⟨⟨h1,h2⟩,h3⟩:=h;refine⟨?_,?_,h3,by rw[h1];decide⟩
 .simp only[Extern.findNext,h1,h2,alJ,Zv,Option.map_none];rfl
 .simp only[Extern.find,h1,h2,alK,alL,alM,Option.map_none];rfl
theorem Zw x y c:Extern.MathBitsCarry.three "Add64" #[x,y,c]=(do
 let c:=(<-asInt c).toNat
 if c>1 then unsupported (.noEntry ("extern/math/bits." ++ "Add64" ++ ": a carry that is neither 0 nor 1"))
 pure ((<-asInt x).toNat,(<-asInt y).toNat,c)):=rfl
variable{a a':dX}
def alN{C ρ}(h:aJ ρ a a'):al C ρ au (Jk a) (Jk a'):=by
 unfold Jk;have three:al C ρ (λ_ x y=>x=y) (Extern.MathBitsCarry.three "Add64" a) (Extern.MathBitsCarry.three "Add64" a'):=by obtain⟨l⟩:=a;obtain⟨f⟩:=a';have hs:=h.size;match l,f with| [x,y,c],[x',b,d]=>have i:=h.get 0 x x' Y Y;have g:=h.get 1 y b Y Y;have j:=h.get 2 c d Y Y;show al C ρ (λ_ x y=>x=y) (Extern.MathBitsCarry.three "Add64" #[x,y,c]) (Extern.MathBitsCarry.three "Add64" #[x',b,d]);rw[Zw,Zw];refine .bind (al.asInt j) λσ n o l1 e=>?_;subst e;refine .ite (λ_=>by first|exact .unsupported|exact .cut .unsupported) (λ_=>?_);refine .bind (al.asInt (i.mono l1)) λt m r l2 e=>?_;subst e;refine .bind (al.asInt ((g.mono l1).mono l2)) λs k k' ja e=>?_;subst e;exact .pure Y| [],_=>exact .stuck| [_],_=>exact .stuck| [_,_],_=>exact .stuck| _::_::_::_::_,_=>exact .stuck| [_,_,_],[]=>simp at hs| [_,_,_],[_]=>simp at hs| [_,_,_],[_,_]=>simp at hs| [_,_,_],_::_::_::_::_=>simp at hs
 refine .bind three λσ p q _ e=>?_;subst e;exact .pure (.F_ (ake (.int _ _) (.int _ _)))
def gE(P:cE)(upd:Bool)(fn:Func):Bool:=fn.body.any (ky P upd)&&fn.name != "runtime.NumGoroutine"
def Cy(P:cE)(upd:Bool)(fn:Func):Func:=if gE P upd fn||Jl fn then fn else{fn with name:= "",origin:= "",body:=none}
def ae(P:cE)(upd:Bool):cE:={P with funcs:=P.funcs.map (Cy P upd)}
def da(P:cE)(upd:Bool):cM:={P:=ae P upd,Q:=P,ew:=λc=>ky (ae P upd) upd c=true,upd:=upd}
theorem Ss(P:cE)(u:Bool)(t:uaa):(ae P u).underlying t=P.underlying t:=rfl
def Zx P u:∀(n:Nat)(t:uaa),qW (ae P u) n t=qW P n t:=by intro n;induction n with|zero=>intro t;rfl|succ n a=>grind[qW,Ss]
theorem St(P:cE)(u:Bool)(x:uam):gC (ae P u) x=gC P x:=by cases x<;>rfl
theorem Su P u:gC (ae P u)=gC P:=funext (St P u)
def alO P u op t:AG (ae P u) op t=AG P op t:=by simp_all[AG,Zx,Ss]
theorem alP P u t:I0 (ae P u) t=I0 P t:=rfl
theorem alQ P u t:I1 (ae P u) t=I1 P t:=rfl
theorem alR P u t:I2 (ae P u) t=I2 P t:=rfl
def alS P u t:yx (ae P u) t=yx P t:=by simp only[yx,Zx,Ss]
def alT P u c:Gg (ae P u) c=Gg P c:=by grind[Gg,Su]
def alU P u c:I8 (ae P u) c=I8 P c:=by grind[I8,Su]
theorem alV P u s d:I9 (ae P u) s d=I9 P s d:=rfl
def Zy P upd u o:nb (ae P u) upd o=nb P upd o:=by simp_all[nb,Su,alO,alP,alQ,alR,alS,alT,alU,alV]
def Zz P upd u c:ky (ae P u) upd c=ky P upd c:=by induction c with|region id ops d=>simp only[ky,Zy]|seq a b h g=>grind[ky]|cond c a b h g=>grind[ky,St]|block id b e=>grind[ky]|loop b e=>grind[ky]|scope b e=>grind[ky]|rangeFunc f p a b h g=>grind[ky,St]| _=>rfl
def ZA{P upd}(h:(ae P upd).funcs[f]?=some fn):∃a,P.funcs[f]?=some a/\fn=Cy P upd a:=by simp only[ae,vcf]at h;grind
def bb{P upd}(h:P.funcs[f]?=some fn)(hk:gE P upd fn=true):(ae P upd).funcs[f]?=some fn:=by simp_all[ae,Cy]
def alW P upd:(da P upd).Cq:=by
 refine⟨λf fn c h b=>?_,λf fn h b ρ a a' o=>?_⟩
 .obtain⟨d,h0,rfl⟩:=ZA h;unfold Cy at b⊢;by_cases hk:gE P upd d=true
  .rw[vca (by rw[hk];rfl)]at b⊢;simp only[gE,vag,bne_iff_ne,b,Option.any_some]at hk;exact⟨h0,(Zz P upd upd c).trans hk.1,hk.2⟩
  .by_cases g:Jl d=true
   .rw[vca (by rw[g,Bool.or_true]),(Sr g).2.2.1]at b;cases b
   .rw[vby BB]at b;cases b
 .obtain⟨d,h0,e⟩:=ZA h;by_cases g:Jl d=true
  .have e1:fn=d:=by rw[e];unfold Cy;rw[vca (by rw[g,Bool.or_true])]
   subst e1;obtain⟨n,m,l,k⟩:=Sr g;unfold callFunc;refine .bind .program λσ p q l1⟨e1,e2⟩=>?_;have i:(da P upd).P.funcs[f]?=some fn:=h;have r:(da P upd).Q.funcs[f]?=some fn:=h0;rw[e1,e2,i,r];simp only[k,l,Option.isNone_none,vcx,vah,vcr,n,m];refine .bind (al.extern f) λx _ _ l2 _=>?_;exact .bind (alN ((o.mono l1).mono l2)) λt v v' _ hv=>.pure (.value hv)
  have j:fn.name= "" /\fn.origin= "" :=by
   unfold Cy at e;by_cases hk:gE P upd d=true
   .simp_all[gE]
   simp_all
  intro S w w' s hg _;exfalso;have e1:Extern.findNext fn=none:=by grind[Extern.findNext,Zv]
  have e2:Extern.find fn=none:=by grind[Extern.find,alG,alH,alI]
  have:∃u w1,(callFunc f a).run (ae P upd) w=.halt (.unsupported (.extern u)) w1:=by unfold callFunc;refine⟨ "",w,?_⟩;have i:(ae P upd).funcs[f]?=some fn:=h;simp only[m9,Go.program,Sem.run,i,j.1,b,e1,e2];rfl
  obtain⟨u,w1,e3⟩:=this;simp_all[Good,callFunc,ae]
def AN(i:TypeInfo):Prop:=∀v,i.zero=some v->jl v
def Gm{d s z c n}(h:jl z):AN (Made.word d s z c n):=by intro v hv;grind[Made.word]
theorem kP.append{b}(d:kP a)(c:kP b):kP (a++b):=by
 intro i v h;rw[Array.getElem?_append]at h;split at h
 .exact d _ _ h
 .exact c _ _ h
def kP.alX{z}(b:kP z)n:kP (Array.replicate n z).flatten:=by induction n with|zero=>intro i v h;grind|succ n a=>rw[vbk];simp only[Array.flatten_push];exact a.append b
variable{aH:Type}
def alY(I:aH->Prop)(f:aq->aH->Option (ForInStep aH))(hstep:∀a b r,I b->f a b=some r->∃c,r=.yield c/\I c):
 ∀(l:List aq)(b r:aH),I b->forIn l b f=some r->I r:=by
 intro l;induction l with|nil=>grind|cons a l d=>intro b r g h;simp only[List.forIn_cons]at h;cases e:f a b with|none=>grind|some s=>grind
def alZ{info}(hi:∀t i,info t=some i->AN i){fs i}(h:Made.reckonStruct info fs=some i):AN i:=by
 unfold Made.reckonStruct at h;simp only[bind,vbc]at h;obtain⟨s,hs,h⟩:=h;have hI:∀z,s.2.2.2.2.2.2.2.1=some z->kP z:=by
  rw[<-Array.forIn_toList]at hs;refine alY (λs:Array Field×Nat×Nat×Nat×Nat×Bool×Bool×Option (Array Value)×String=>∀z,s.2.2.2.2.2.2.2.1=some z->kP z) _ ?_ _ _ _ ?_ hs
  .intro f b r l d;simp only[vbc]at d;obtain⟨j,k,d⟩:=d;have key:∀(c:Prop)[Decidable c](z:dX),(if c then none else b.2.2.2.2.2.2.2.1.bind λa=>j.zero.bind λv=>pure (a++v.cells))=some z->kP z:=by
    intro c _ z e;split at e
    .cases e
    .simp only[vbc,pure,vbm]at e;obtain⟨a,m,v,hv,rfl⟩:=e;exact(l a m).append (hi _ _ k v hv).cells
   have leaf:∀{x:Array Field×Nat×Nat×Nat×Nat×Bool×Bool×Option (Array Value)×String},(pure (ForInStep.yield x):Option (ForInStep _))=some r->(∀z,x.2.2.2.2.2.2.2.1=some z->kP z)->∃g,r=.yield g/\∀z,g.2.2.2.2.2.2.2.1=some z->kP z:=
    λh1 h2=>⟨_,(van h1).symm,h2⟩
   split at d
   .cases d
   split at d
   .cases d
   split at d
   all_goals
    simp only[vbc]at d;obtain⟨_,_,d⟩:=d;split at d
    .exact leaf d λz e=>key _ z e
    .exact leaf d λz e=>key _ z e
  .intro z e;cases e;intro i v h;grind
 have dF:∀v,Option.map Value.agg s.2.2.2.2.2.2.2.1=some v->jl v:=by intro v hv;rw[vai]at hv;obtain⟨z,e,rfl⟩:=hv;exact .agg (hI z e)
 split at h
 .cases h;exact dF
 .cases h;exact dF
def al0{info}(hi:∀t i,info t=some i->AN i){d i}(h:Made.reckon info d=some i):AN i:=by
 cases d with
 |pointer e=>
  simp only[Made.reckon,bind,vbc]at h;obtain⟨j,_,h⟩:=h;split at h
  .cases h
  .split at h
   .cases h
   .simp only[vbc,pure,vbm]at h;obtain⟨_,_,rfl⟩:=h;exact Gm .l_
  .simp only[vbc,pure,vbm]at h;obtain⟨_,_,rfl⟩:=h;exact Gm .l_
 |slice e=>simp only[Made.reckon,bind,vbc,pure,vbm]at h;obtain⟨_,_,_,_,rfl⟩:=h;exact Gm (.iH _ _)
 |map k e=>simp only[Made.reckon,bind,vbc,pure,vbm]at h;obtain⟨_,_,_,_,_,_,_,_,rfl⟩:=h;exact Gm .p8
 |chan dir e=>simp only[Made.reckon,bind,vbc,pure,vbm]at h;obtain⟨_,_,_,_,rfl⟩:=h;exact Gm .p9
 |func ps rs v=>simp only[Made.reckon,bind,vbc,pure,vbm]at h;obtain⟨_,_,rfl⟩:=h;exact Gm .nilFunc
 |array n e=>
  simp only[Made.reckon,bind,vbc,pure,vbm]at h;obtain⟨j,b,_,_,rfl⟩:=h;intro v hv;simp only at hv;split at hv
  .cases hv
  .split at hv
   .cases hv;exact .agg λi v h=>AA
   .simp only[vai]at hv;obtain⟨z,a,rfl⟩:=hv;exact .agg ((hi e j b z a).cells.alX n)
 |struct fs=>exact alZ hi h
 | _=>cases h
def al1{T}(h:∀i∈T.types,AN i):∀(n:Nat)(t:uaa)(i:TypeInfo),Made.infoAt T n t=some i->AN i:=by
 intro n;induction n with
 |zero=>intro t i hi;cases hi
 |succ n a=>
  intro t i hi;simp only[Made.infoAt]at hi;split at hi
  .exact h i (vbr hi)
  .simp only[vbc]at hi;obtain⟨d,_,hd⟩:=hi;exact al0 a hd
def al2{P upd}(h:(P.types.all λi=>i.zero.all (hX 8))=true):(da P upd).ue:=by
 have ht:∀i∈P.types,AN i:=by intro i hi v hv;grind[Array.all_eq_true_iff_forall_mem,YY]
 intro t i v hi hv;have hi:P.info? t=some i:=hi;unfold Tables.info? at hi;split at hi
 .exact ht i (vbr hi) v hv
 .exact al1 ht _ t i hi v hv
def ZB{P}upd(h:(P.types.all λi=>i.zero.all (hX 8))=true)(a:P.follows .rangeFuncRecover=true):(da P upd).Good:=
 ⟨Y,al2 h,alW P upd,λ_=>Iff.rfl,a⟩
def dp(D M:dL):Ren:=⟨λa b=>a=b/\D b,M⟩
def al3{a:Array aq}{b:Array aH}(h:a.size=b.size){i:Nat}{y}(c:b[i]?=some y):∃x,a[i]?=some x:=by
 have hi:i<b.size:=by grind
 simp_all
section
variable{ρ σ:Ren}
def dR.right(h:∀a b,ρ.rel a b->σ.rel b b){a a'}(k:dR ρ a a'):dR σ a' a':=⟨h _ _ k.1,Y,Y⟩
def ud.right(h:∀a b,ρ.rel a b->σ.rel b b){f f'}(k:ud ρ f f'):ud σ f' f':=by cases k with|func f=>exact .func f|yield c=>exact .yield (h _ _ c)
theorem au.right(h:∀a b,ρ.rel a b->σ.rel b b){v v'}(k:au ρ v v'):au σ v' v':=by
 have all:∀{a a':dX},a.size=a'.size->(∀(i:Nat)(v v':Value),a[i]?=some v->a'[i]?=some v'->au σ v' v')->∀(i:Nat)(x y:Value),a'[i]?=some x->a'[i]?=some y->au σ x y:=by grind
 induction k with|bool b=>exact .bool b|int k n=>exact .int k n|string s=>exact .string s|l_=>exact .l_|ptr r=>exact .ptr (r.right h)|iH l c=>exact .iH l c|slice l c r=>exact .slice l c (r.right h)|p8=>exact .p8|map r=>exact .map (h _ _ r)|p9=>exact .p9|func g m j _ _ f e=>exact .func (g.right h) Y Y (all m f) (all j e)|nilFunc=>exact .nilFunc|iface t _ d=>exact .iface t d|nilIface=>exact .nilIface|agg hs _ d=>exact .agg Y (all hs d)|tuple hs _ d=>exact .tuple Y (all hs d)
theorem aJ.right(h:∀a b,ρ.rel a b->σ.rel b b)(k:aJ ρ a a'):aJ σ a' a':=by refine⟨Y,λi x y c d=>?_⟩;rw[c]at d;cases d;obtain⟨z,e⟩:=al3 k.size c;exact(k.get i z x e c).right h
def dJ.right{R:aq->aH->Prop}{c:aH->aH->Prop}(h:∀a b,R a b->c b b){l:List aq}{m:List aH}(k:dJ R l m):dJ c m m:=by induction k with|nil=>exact .nil|cons x _ d=>exact .cons (h _ _ x) d
theorem hU.right{C}(h:∀a b,ρ.rel a b->σ.rel b b){o o'}(k:hU C ρ o o'):hU C σ o' o'\/Mz o':=by cases k with|cells e f g=>exact .inl (.cells e (f.right h) ⟨λ_ x=>x,λ_=>Y⟩)|map c d=>exact .inl (.map c (d.right λa b x=>⟨x.key.right h,x.val.right h,Y⟩))|stringIter s p=>exact .inr trivial|Cg a b c=>exact .inr trivial|mapIter h a b c=>exact .inr trivial|loop h=>exact .inr trivial|deferred h=>exact .inr trivial|taken=>exact .inr trivial|number hn l=>exact .inl (.number (hn.right h) l)|shut h=>grind
end
def fG(C:cM)(D M:dL)(w:aR):Prop:=∀b,D b->∃o,w.heap[b]?=some o/\(hU C (dp D M) o o\/Mz o)
def e_.closed{C S ρ}(h:e_ C S ρ w w')M:fG C (λb=>∃a,ρ.rel a b) M w':=by rintro b ⟨a,c⟩;obtain⟨o,o',_,h2,h3⟩:=h.obj a b c;exact⟨o',h2,h3.right (σ:=dp (λb=>∃a,ρ.rel a b) M) λx y d=>⟨Y,x,d⟩⟩
def Gn(C:cM)(D M:dL)(b:Nat)(o gM:Obj):Prop:=
 (hU C (dp D M) o o/\M b/\gM=o)\/
 (hU C (dp D M) o o/\¬M b/\((∃c e fr,o=.cells c e fr/\gM=.cells c e (0,c.size+fr.2))\/(∃a l,o=.number a l/\gM=o)\/
  ((∀c e fr,o≠ .cells c e fr)/\(∀a l,o≠ .number a l)/\gM=.coro none)))\/
 (¬hU C (dp D M) o o/\gM=.coro none)
def al4 C D M b o:∃g,Gn C D M b o g:=by
 by_cases d:hU C (dp D M) o o
 .by_cases f:M b
  .exact⟨o,.inl ⟨d,f,Y⟩⟩
  .cases o with|cells c e fr=>exact⟨_,.inr (.inl ⟨d,f,.inl ⟨c,e,fr,Y,Y⟩⟩)⟩|number a l=>exact⟨_,.inr (.inl ⟨d,f,.inr (.inl ⟨a,l,Y,Y⟩)⟩)⟩| _=>exact⟨.coro none,.inr (.inl ⟨d,f,.inr (.inr ⟨AS,AS,Y⟩)⟩)⟩
 .exact⟨_,.inr (.inr ⟨d,Y⟩)⟩
def Gn.rel{C D M b o f}(k:Gn C D M b o f)(j:C.upd=true->M b\/¬hU C (dp D M) o o)(h:hU C (dp D M) o o\/Mz o):hU C (dp D M) f o:=by
 rcases k with⟨d,_,rfl⟩|⟨d,n,⟨c,e,fr,rfl,rfl⟩|⟨a,l,rfl,rfl⟩|⟨n1,ik,rfl⟩⟩|⟨d,rfl⟩
 .exact d
 .have g:=d;cases d with|cells _ m p=>exact .cells e m ⟨λi x=>⟨vax _,vak x.2 (Nat.le_add_left _ _)⟩,λx=>(j x).elim (λy=>absurd y n) (λy=>absurd g y)⟩
 .exact d
 .refine .shut ?_;have g:=d;cases d with|cells e _ _=>grind|number _ _=>grind|shut h=>exact h| _=>trivial
 .exact .shut (h.resolve_left d)
def Gn.still{C D M b o d}(k:Gn C D M b o d)(f:C.upd=true->M b\/¬hU C (dp D M) o o)(j:¬M b):(C.upd=false/\∃c e fr,d=.cells c e fr/\∀i,i<c.size->xc fr i)\/Gb d:=by
 rcases k with⟨_,h,_⟩|⟨g,_,⟨c,e,fr,rfl,rfl⟩|⟨a,l,rfl,rfl⟩|⟨_,_,rfl⟩⟩|⟨_,rfl⟩
 .grind
 .exact .inl ⟨by
   grind,c,e,_,Y,λi hi=>⟨vax _,vak hi (vee _ _)⟩⟩
 .exact .inr (.number a l)
 .exact .inr .coro
 .exact .inr .coro
structure iy(C:cM)(D M:dL)(w w0:aR):Prop where
 size:w0.heap.size=w.heap.size
 drawn:w0.drawn=w.drawn
 os:w0.os=w.os
 obj:∀b o,w.heap[b]?=some o->∃gM,w0.heap[b]?=some gM/\Gn C D M b o gM
def Jm C D M w:∃w0,iy C D M w w0:=by obtain⟨f,a⟩:=vbi.1 λb=>vbi.1 λo=>al4 C D M b o;refine⟨{w with heap:=w.heap.mapIdx f},AS,Y,Y,λb o h=>⟨f b o,?_,a b o⟩⟩;grind
theorem iy.rel{C D M}(h:iy C D M w w0)(i:fG C D M w)(hg:∀g,g<=C.P.globals.size->D g)(f:C.upd=true->∀b,D b->M b\/∀o,w.heap[b]?=some o->¬hU C (dp D M) o o)T:
 e_ C ⟨w0.drawn,w.drawn,0,T⟩ (dp D M) {w0 with tape:=T} w:=by
 refine⟨?_,?_,?_,λg h=>⟨Y,hg g h⟩,Nat.add_comm _ _,λj q m=>absurd m (Nat.not_lt_zero _),by show w0.os.env=_;rw[h.os],Y,?_⟩
 .rintro b k ⟨rfl,hd⟩;obtain⟨o,h1,h2⟩:=i b hd;obtain⟨d,h3,h4⟩:=h.obj b o h1;exact⟨d,o,h3,h1,h4.rel (λe=>(f e b hd).imp id λy=>y o h1) h2⟩
 .rintro a b k ⟨rfl,_⟩ ⟨rfl,_⟩;rfl
 .rintro a a' b ⟨rfl,_⟩ ⟨h,_⟩;grind
 .rintro b k ⟨rfl,hd⟩ l;obtain⟨o,h1,h2⟩:=i b hd;obtain⟨d,h3,h4⟩:=h.obj b o h1;have h3:({w0 with tape:=T}:aR).heap[b]?=some d:=h3;rw[h3];rcases h4.still (λe=>(f e b hd).imp id λy=>y o h1) l with⟨n,c,e,fr,rfl,p⟩|hd
  .grind
  grind
theorem iy.cells{C:cM}{D M:dL}{w w0:aR}(h:iy C D M w w0)(k:fG C D M w){b:Nat}(hd:D b){c:dX}{e:uaa}{fr:ubr}(g:w.heap[b]?=some (.cells c e fr)):
 ∃f,w0.heap[b]?=some (.cells c e f)/\(M b->f=fr):=by
 obtain⟨o,h1,h2⟩:=k b hd;rw[g]at h1;cases h1;have i:hU C (dp D M) (.cells c e fr) (.cells c e fr):=h2.resolve_right λx=>x;obtain⟨m,h3,h4⟩:=h.obj b _ g;rcases h4 with⟨_,_,rfl⟩|⟨_,j,⟨p,n,bD,d,rfl⟩|⟨a,l,d,_⟩|⟨n1,_,_⟩⟩|⟨hn,_⟩
 .exact⟨fr,h3,λ_=>Y⟩
 .cases d;exact⟨_,h3,λx=>absurd x j⟩
 .cases d
 .exact absurd Y (n1 _ _ _)
 .exact absurd i hn
def al5{P:cE}{upd:Bool}(o:(da P upd).Good){c:Code}(l:P.funcs[f]?=some fn)(hk:gE P upd fn=true)(m:fn.body=some c){D M:dL}(p:fG (da P upd) D M w)(hg:∀g,g<=P.globals.size->D g){args:dX}(k:upd=true->∀b,D b->M b)(n:aJ (dp D M) args args){R:Ending->aR->Prop}(q:∀e w,R e w->e≠ .outgrown)(r:iy (da P upd) D M w w0)(i:∀T,Calls (ae P upd) f args {w0 with tape:=T} R)(main:Bool)(base:hH):
 ix P main (λb=>D b/\¬M b) (λX=>∃ρ fr w1 T e,R e w1/\fr.fn=f/\fr.leaving (ae P upd) w1 e/\AK (da P upd) none (λb=>D b/\¬M b) T (dp D M) w.heap.size base ρ fr [] w1 X)
  ⟨a4 (Frame.enter P f args .normal) base,w,M⟩:=by
 have j:(da P upd).P.funcs[f]?=some fn:=bb l hk;exact alE (C:=da P upd) (w0:=w0) (q2:=w) o j m n (r.rel p hg λe b hd=>.inl (k e b hd)) (λb h=>h)
  (λa b h=>by by_cases d:M b;exact .inr d;exact .inl ⟨h.2,d⟩) q i main base
theorem AK.closed{C D K T c ρ n0 base X}(h:AK C D K T c n0 base ρ fr cs w X)M:
 fG C (λb=>∃a,ρ.rel a b) M X.w:=h.world.closed M
end av
open RowKit
def bp(w w':aR):Prop:=∀b o v,w.cell? (.a b o)=some v->w'.cell? (.a b o)=some v
theorem bp.refl w:bp w w:=λ_ _ _ h=>h
variable{a:aR}
theorem bp.trans{b c}(h:bp a b)(k:bp b c):bp a c:=λx o v e=>k x o v (h x o v e)
variable{w:aR}{b:Nat}{v:Value}
def ef{o}(h:w.cell? (.a b o)=some v):b<w.heap.size:=by grind[World.cell?]
variable{w':aR}
def bp.cy(h:c6 w w'):bp w w':=λb o v e=>by rw[h.cell (p:=⟨b,o,none⟩) (ef e)];exact e
def bo{aq:Type}(w:aR)(dK:Nat)(R:aR->(Nat->Option Value)->aq->Prop)(v:Value)(xs:List aq):Prop:=
 ∃bY cap,v=.slice bY xs.length cap/\xs.length<=9223372036854775807/\
  ∀i(h:i<xs.length),∃b off,bY=some ⟨b,off,none⟩/\R w (λj=>w.cell? (.a b (off+i*dK+j))) xs[i]
def p_{aq:Type}(R:aR->(Nat->Option Value)->aq->Prop):Prop:=
 ∀w w' rd lg x,bp w w'->(∀j v,rd j=some v->lg j=some v)->R w rd x->R w' lg x
variable{dK:Nat}{aq:Type}
theorem bo.mono{R:aR->(Nat->Option Value)->aq->Prop}(g:p_ R)(hk:bp w w'){xs:List aq}(h:bo w dK R v xs):bo w' dK R v xs:=by obtain⟨k,cap,hv,c,f⟩:=h;refine⟨k,cap,hv,c,λi hi=>?_⟩;obtain⟨b,off,d,a⟩:=f i hi;exact⟨b,off,d,g _ _ _ _ _ hk (λj v e=>hk _ _ _ e) a⟩
theorem bo.nil w dK(R:aR->(Nat->Option Value)->aq->Prop):bo w dK R (.N) []:=
 ⟨none,0,Y,AS,AA⟩
def sg(_:aR)(rd:uan)(x:Int):Prop:=rd 0=some (.I x)
def Gp(_:aR)(rd:uan)(s:ByteArray):Prop:=rd 0=some (.string s)/\s.size<=9223372036854775807
def CA(_:aR)(rd:uan)(x:Bool):Prop:=rd 0=some (.bool x)
def Gq(_:aR)(rd:uan)(t:ubs):Prop:=rd 0=some (.I t.1)/\rd 1=some (.I t.2)
theorem q8:p_ sg:=λ_ _ _ _ _ _ a h=>a _ _ h
def Sw:p_ CA:=λ_ _ _ _ _ _ a h=>a _ _ h
def Sx:p_ Gp:=λ_ _ _ _ _ _ a h=>⟨a _ _ h.1,h.2⟩
def nf:p_ Gq:=λ_ _ _ _ _ _ a h=>⟨a _ _ h.1,a _ _ h.2⟩
abbrev h5(w:aR):=bo w 1 sg
abbrev Sy(w:aR):=bo w 1 Gp
abbrev Jn(w:aR):=bo w 1 CA
abbrev hJ(w:aR):=bo w 2 Gq
structure a9 where
 kind:Int
 dg:Int
 im:List Int
 iJ:List ByteArray
 ff:List Bool
structure xl(w:aR)(dA vs bJ:Value)(c:a9):Prop where
 im:h5 w dA c.im
 iJ:Sy w vs c.iJ
 ff:Jn w bJ c.ff
def AO(w:aR)(rd:uan)(c:a9):Prop:=
 ∃dA vs bJ,rd 0=some (.I c.kind)/\rd 1=some (.I c.dg)/\rd 2=some dA/\rd 3=some vs/\rd 4=some bJ/\xl w dA vs bJ c
variable{bJ dA vs:Value}
theorem xl.mono(hk:bp w w'){c}(h:xl w dA vs bJ c):xl w' dA vs bJ c:=
 ⟨h.im.mono q8 hk,h.iJ.mono Sx hk,h.ff.mono Sw hk⟩
theorem xl.shape{c}(h:xl w dA vs bJ c):∃d ci a b an e,dA=.slice d c.im.length ci/\vs=.slice a c.iJ.length b/\bJ=.slice an c.ff.length e:=by obtain⟨d,ci,h1,-,-⟩:=h.im;obtain⟨a,b,h2,-,-⟩:=h.iJ;obtain⟨an,e,h3,-,-⟩:=h.ff;grind
def si:p_ AO:=λ_ _ _ _ _ hk a⟨dA,vs,bJ,h0,h1,h2,h3,h4,b⟩=>
 ⟨dA,vs,bJ,a _ _ h0,a _ _ h1,a _ _ h2,a _ _ h3,a _ _ h4,b.mono hk⟩
abbrev n8(w:aR):=bo w 5 AO
def Sz(w:aR)(rd:uan)(t:List a9):Prop:=∃v,rd 0=some v/\n8 w v t
def MZ:p_ Sz:=λ_ _ _ _ _ hk a⟨v,h0,h⟩=>⟨v,a _ _ h0,h.mono si hk⟩
abbrev CB(w:aR):=bo w 1 Sz
structure SA where
 op:Int
 a:Int
 v:Int
 s:ByteArray
def ZE(_:aR)(rd:uan)(t:SA):Prop:=
 rd 0=some (.I t.op)/\rd 1=some (.I t.a)/\rd 2=some (.I t.v)/\rd 3=some (.string t.s)/\t.s.size<=9223372036854775807
def al9:p_ ZE:=λ_ _ _ _ _ _ a h=>⟨a _ _ h.1,a _ _ h.2.1,a _ _ h.2.2.1,a _ _ h.2.2.2.1,h.2.2.2.2⟩
abbrev al_(w:aR):=bo w 4 ZE
def ZF(w:aR)(rd:uan)(e:List SA):Prop:=∃v,rd 0=some v/\al_ w v e
def ama:p_ ZF:=λ_ _ _ _ _ hk a⟨v,h0,h⟩=>⟨v,a _ _ h0,h.mono al9 hk⟩
abbrev amb(w:aR):=bo w 1 ZF
abbrev M0(w:aR):=bo w 2 Gq
structure ng where
 op:Int
 a:Int
 b:Int
 xm:List (List SA)
 iT:List Int
 others:List Int
 e5:List (Int×Int)
structure CC(w:aR)(pq dM n9 b9:Value)(n:ng):Prop where
 xm:amb w pq n.xm
 iT:h5 w dM n.iT
 others:h5 w n9 n.others
 e5:M0 w b9 n.e5
variable{b9 dM n9 pq:Value}
theorem CC.mono(hk:bp w w'){n}(h:CC w pq dM n9 b9 n):CC w' pq dM n9 b9 n:=
 ⟨h.xm.mono ama hk,h.iT.mono q8 hk,h.others.mono q8 hk,h.e5.mono nf hk⟩
theorem CC.shape{n}(h:CC w pq dM n9 b9 n):∃a ce b c d co aa ca,pq=.slice a n.xm.length ce/\dM=.slice b n.iT.length c/\n9=.slice d n.others.length co/\b9=.slice aa n.e5.length ca:=by obtain⟨a,ce,h1,-,-⟩:=h.xm;obtain⟨b,c,h2,-,-⟩:=h.iT;obtain⟨d,co,h3,-,-⟩:=h.others;obtain⟨aa,ca,h4,-,-⟩:=h.e5;grind
def ZG(w:aR)(rd:uan)(n:ng):Prop:=
 ∃pq dM n9 b9,rd 0=some (.I n.op)/\rd 1=some (.I n.a)/\rd 2=some (.I n.b)/\rd 3=some pq/\rd 4=some dM/\rd 5=some n9/\rd 6=some b9/\CC w pq dM n9 b9 n
def SB:p_ ZG:=λ_ _ _ _ _ hk a⟨pq,dM,n9,b9,h0,h1,h2,h3,h4,c,b,h⟩=>
 ⟨pq,dM,n9,b9,a _ _ h0,a _ _ h1,a _ _ h2,a _ _ h3,a _ _ h4,a _ _ c,a _ _ b,h.mono hk⟩
abbrev SC(w:aR):=bo w 7 ZG
abbrev n_(t:ubs):Value:=.agg #[.I t.1,.I t.2]
variable{W w1:aR}
def ZH(a:c6 W w1):(∀b o,b<W.heap.size->w1.cell? (.a b o)=W.cell? (.a b o))/\(∀b o,b<W.heap.size->w1.frozen? ⟨b,o,none⟩=W.frozen? ⟨b,o,none⟩):=
 ⟨λb o h=>a.cell (p:=⟨b,o,none⟩) h,λb o h=>a.frozen (p:=⟨b,o,none⟩) h⟩
def after B(a:c6 W w1)(c:B<=W.heap.size):(∀b o,b<B->w1.cell? (.a b o)=W.cell? (.a b o))/\(∀b o,b<B->w1.frozen? ⟨b,o,none⟩=W.frozen? ⟨b,o,none⟩)/\B<=w1.heap.size:=
 ⟨λb o h=>(ZH a).1 b o AQ,λb o h=>(ZH a).2 b o AQ,by have:=a.size;omega⟩
theorem Below.step{B:Nat}{w W w1:aR}(a:c6 W w1)(h:Below B w W)(b:B<=W.heap.size):Below B w w1:=h.trans (a.mono b)
theorem bp.alloc(h:bp a w)o:bp a (w.alloc o):=
 h.trans (bp.cy ((vaa _ _).alloc JR o))
theorem bp.drew(h:bp a w):bp a w.drew:=λb o v e=>by simpa using h b o v e
theorem bp.step{a W w1:aR}(h:bp a W)(b:c6 W w1):bp a w1:=h.trans (bp.cy b)
def ag(w:aR)(b:Nat)(cs:dX)(T:uaa):Prop:=w.heap[b]?=some (.cells cs T (0,0))
variable{cs:dX}{T:uaa}
def ag.lt(h:ag w b cs T):b<w.heap.size:=by grind[ag]
theorem ag.rules(h:ag w b cs T):(∀o,w.cell? (.a b o)=cs[o]?)/\(∀o,w.frozen? ⟨b,o,none⟩=false):=by grind[ag,World.cell?,World.frozen?]
def ag.all(h:ag w b cs T):(∀o,w.cell? (.a b o)=cs[o]?)/\(∀o,w.frozen? ⟨b,o,none⟩=false)/\b<w.heap.size:=⟨h.rules.1,h.rules.2,h.lt⟩
variable{B:Nat}
def ag.below(h:ag w b cs T)(a:Below B w w')(c:b<B):ag w' b cs T:=by unfold ag at *;rw[a.block b c];exact h
def ag.call(h:ag w b cs T)(a:c6 w w'):ag w' b cs T:=h.below a h.lt
theorem ag.alloc(h:ag w b cs T)o:ag (w.alloc o) b cs T:=
 h.call ((vaa _ _).alloc JR o)
theorem ag.drew(h:ag w b cs T):ag w.drew b cs T:=h
def ag.new(w:aR)(cs:dX)(T:uaa):ag (w.alloc (.cells cs T)) w.heap.size cs T:=by exact heap_alloc_new w _
def ag.set(h:ag w b cs T)o v:ag (w.setCell ⟨b,o,none⟩ v) b (cs.setIfInBounds o v) T:=by grind[ag,World.setCell]
def ag.fg(h:ag w b cs T){a}(c:b≠a.block)v:ag (w.setCell a v) b cs T:=by grind[ag,Below.heap_setCell]
def ZI{o a o' u}(h:w.cell? (.a b o)=some v)(c:b≠a):(w.setCell ⟨a,o',none⟩ u).cell? (.a b o)=some v:=by grind[World.cell?_of_block,Below.heap_setCell]
structure um(P:cE)(t e:uaa)(z:Value)(size bytes:Nat):Prop where
 ht:P.underlying t=some (.slice e)
 hi:(P.info? e).map (λi=>(i.zero,i.size,i.bytes))=some (some z,size,bytes)
 SD:z.cells.size=size
 hsz:0<size
variable{size:Nat}{z:Value}{e t:uaa}{P:cE}{ops:fF}{Q:uao}
def Gr{bytes:Nat}(E:um P t e z size bytes)(w:aR){rest:ubc}{o:Oper}{a:Act}(B:o.guard=none)(s x:uam)(q:o.op=.call {callee:=.builtin .append,args:=#[s,x],argTypes:=#[t,t]})(base:Nat)(v:Value)(n:Nat)(xs:uai)(hs:a.eval s=v)(A:w.ownsRow base e size v n xs)(b m c:Nat)(news:uai)(p:a.eval x=.S b 0 m c)(y:news.length=m*size)(D:∀j u,news[j]?=some u->w.cell? (.a b j)=some u)(h1:∀u∈news,u.oneCell'=true)(r:0<m)(C:(n+m)*bytes<=140737488355328)(I:n+m<=9223372036854775807)(d:base<=w.heap.size)(H:Nat)(k:w.heap.size=H)(h:∀g cap w',w'.ownsRow base e size (.S g 0 (n+m) cap) (n+m) (xs++news)->w.grownBy w' v.ownBlock->(v.ownBlock=some g\/g=H)->g<w'.heap.size->wpList P ops Q rest (a.put o.dst (.S g 0 (n+m) cap)) w'):
 wpList P ops Q (o::rest) a w:=by
 obtain⟨i,hi,l,hsz,f⟩:=vce E.hi;exact wpList_append_lies w B s x t q base e i z size bytes E.ht hi l hsz f E.SD E.hsz v n xs hs A ⟨b,0,none⟩ m c news p y (λj u F=>by simp_all[vdn]) h1 r Hb C d H k h
def amc{bytes:Nat}(E:um P t e z size bytes)(w:aR){o:Oper}{a:Act}{K:uae}{F:Prop}(B:o.guard=none)(s x:uam)(q:o.op=.call {callee:=.builtin .append,args:=#[s,x],argTypes:=#[t,t]})(base:Nat)(v:Value)(n:Nat)(xs:uai)(hs:a.eval s=v)(A:w.ownsRow base e size v n xs)(b m c:Nat)(news:uai)(p:a.eval x=.S b 0 m c)(y:news.length=m*size)(D:∀j u,news[j]?=some u->w.cell? (.a b j)=some u)(h1:∀u∈news,u.oneCell'=true)(r:0<m)(C:(n+m)*bytes<=140737488355328)(J:n+m<=9223372036854775807)(d:base<=w.heap.size)(H:Nat)(k:w.heap.size=H)(h:∀g cap w',w'.ownsRow base e size (.S g 0 (n+m) cap) (n+m) (xs++news)->w.grownBy w' v.ownBlock->(v.ownBlock=some g\/g=H)->g<w'.heap.size->K (a.put o.dst (.S g 0 (n+m) cap)) w'):
 if Region.wanted o (yielded ops a.tmps)=true then Oper.wp P o a w K Q else F:=by
 obtain⟨i,hi,l,hsz,f⟩:=vce E.hi;exact step_append_lies w B s x t q base e i z size bytes E.ht hi l hsz f E.SD E.hsz v n xs hs A ⟨b,0,none⟩ m c news p y (λj u I=>by simp_all[vdn]) h1 r Hb C d H k h
def oc(l:g7):List Value:=l.flatMap λt=>[.I t.1,.I t.2]
theorem ZK(l:g7)(t:ubs):oc l++[.I t.1,.I t.2]=oc (l++[t]):=by simp[oc]
theorem ZL l i(hi:i<l.length):(oc l)[i*2]?=some (.I l[i].1)/\(oc l)[i*2+1]?=some (.I l[i].2):=by induction l generalizing i with|nil=>grind|cons t r a=>cases i with|zero=>simp[oc]|succ i=>grind[oc]
variable{n:Nat}{xs:uai}
theorem CD{base g cap}(h:w.ownsRow base e size (.S g 0 n cap) n xs)j u(a:xs[j]?=some u):w.cell? (.a g j)=some u:=by have:=h.cells (g:=g) Y j u a;rwa[vdn,vbs]at this
def hJ.CE{base l}(h:w.ownsRow base e 2 v l.length (oc l))(a:l.length<=9223372036854775807):hJ w v l:=by
 have b:=h;rcases b.2 with⟨rfl,h0⟩|⟨g,cap,bq,rfl,c⟩
 .grind[bo.nil]
 .refine⟨_,cap,Y,a,λi hi=>⟨g,0,Y,?_,?_⟩⟩
  .simp;grind[CD,ZL]
  .simp;exact CD h _ _ (ZL l i hi).2
def mg{base}(h:w.ownsRow base e size v n xs):∃a c,v=.slice a n c:=by
 rcases h.2 with⟨rfl,rfl⟩|⟨g,cap,bq,rfl,-⟩
 .grind
 grind
def amd{base}(h:w.ownsRow base e size v n xs)(b:Below B w w')(a:∀g,v.ownBlock=some g->g<B):w'.ownsRow base e size v n xs:=by
 refine⟨h.1,?_⟩;rcases h.2 with hn|⟨g,cap,bq,rfl,c,d,rest⟩
 .grind
 .refine .inr ⟨g,cap,bq,Y,c,?_,rest⟩;rw[b.block g (a g Y)];grind
def M1{base}(h:w.ownsRow base e size v n xs)(a:c6 w w'):w'.ownsRow base e size v n xs:=
 amd h a (λg hg=>(h.lt g hg).2)
theorem ag.grown{row:ubg}(h:ag w b cs T)(hg:w.grownBy w' row)(a:∀g,row=some g->b≠g):ag w' b cs T:=by unfold ag at *;rw[hg.block b (ag.lt h) AA];exact h
def ZM{x y}(h:ag w b #[x,y] T):∀j u,([x,y]:uai)[j]?=some u->w.cell? (.a b j)=some u:=by intro j u a;rw[h.rules.1 j];grind
def ZN a b:∀u∈([.I a,.I b]:uai),u.oneCell'=true:=by intro u c;simp at c;rcases c with rfl|rfl<;>rfl
def SI{bytes:Nat}(E:um P t e z size bytes)(w:aR){rest:ubc}{o:Oper}{a:Act}(hg:o.guard=none)(l c:uam)(d:o.op=Op.makeSlice t l c)(kl kc:IntKind)(n:Nat)(j:a.eval l=.int kl n)(m:a.eval c=.int kc n)(r:bytes*n<=281474976710656)(hn:n<=9223372036854775807)(hK:∀w' bq,ag w' w.heap.size bq e->bq.size=n*size->c6 w w'->wpList P ops Q rest (a.put o.dst (.S w.heap.size 0 n n)) w'):
 wpList P ops Q (o::rest) a w:=by
 obtain⟨i,hi,h,hsz,q⟩:=vce E.hi;refine wpList_make_full w hg l c t d w.heap.size e i z size E.ht hi h hsz kl kc _ _ n j m Y Y AA Hb JR ?_;intro w' p b;rcases p.2 with⟨h0,_⟩|⟨g,cap,bq,hv,_,f,_,_,hs,_⟩
 .grind
 .simp at hv;obtain⟨rfl,rfl⟩:=hv;exact hK w' bq f hs ⟨b.os,b.tape,b.output,b.size,λk hk=>b.block k hk AS⟩
theorem bo.shape{R:aR->(Nat->Option Value)->aq->Prop}{xs:List aq}(h:bo w dK R v xs):∃a cap,v=.slice a xs.length cap/\xs.length<=9223372036854775807:=by obtain⟨a,cap,hv,b,-⟩:=h;grind
def fM(T:uaa)(w:aR)(v:Value):Prop:=∀b off n c,v=.S b off n c->∃k,w.shape? b=some (T,k)
def fM.box(h:ag w b cs T)off n c:fM T w (.S b off n c):=by intro f g a d e;simp at e;simp_all[ag,World.shape?]
def fM.CE{base}(h:w.ownsRow base T size v n xs):fM T w v:=by
 rcases h.2 with⟨rfl,_⟩|⟨g,cap,bq,rfl,_,hg,_⟩
 .intro b off n c e;grind
 simp_all[fM.box,ag]
def fM.call(h:fM T w v)(d:c6 w w'):fM T w' v:=by
 intro b off n c e;obtain⟨k,hk⟩:=h b off n c e;refine⟨k,?_⟩;have a:b<w.heap.size:=by grind[World.shape?]
 simp[World.shape?]at hk⊢;rw[d.block b a];exact hk
def fM.set(h:fM T w v)a u:fM T (w.setCell a u) v:=by intro b off n c e;obtain⟨k,hk⟩:=h b off n c e;refine⟨k,?_⟩;simp[World.shape?,World.setCell,vbh]at hk⊢;grind
theorem fM.grown(h:fM T w v){row:ubg}(hg:w.grownBy w' row)(d:∀b off n c,v=.S b off n c->row≠some b):fM T w' v:=by
 intro b off n c e;obtain⟨k,hk⟩:=h b off n c e;refine⟨k,?_⟩;have a:b<w.heap.size:=by grind[World.shape?]
 simp[World.shape?]at hk⊢;rw[hg.block b a AA];exact hk
def Gt(cs:dX)(l:g7)(k:Nat):Prop:=∀j(h:j<l.length),j<k->cs[j*2]?=some (.I l[j].1)/\cs[j*2+1]?=some (.I l[j].2)
theorem Gt.step{cs l k}(h:Gt cs l k)(hk:k<l.length)(hs:cs.size=l.length*2):
 Gt ((cs.setIfInBounds (k*2) (.I l[k].1)).setIfInBounds (k*2+1) (.I l[k].2)) l (k+1):=by
 intro j a b;by_cases e:j=k
 .grind
 .have:=h j a AQ;grind
def hJ.SK{l}(h:ag w b cs T)(c:l.length<=9223372036854775807)(a:Gt cs l l.length)cap:hJ w (.S b 0 l.length cap) l:=by
 refine⟨_,cap,Y,c,λi hi=>⟨b,0,Y,?_,?_⟩⟩
 .simp;rw[h.rules.1];exact(a i hi hi).1
 .simp;rw[h.rules.1];exact(a i hi hi).2
def lQ{aq aH:Type}(f:aq->aH×Bool):List aq->Option (List aH)
 | []=>some []
 |e::r=>if(f e).2=true then(lQ f r).map ((f e).1:: ·)else none
variable{aH:Type}
def Z2(f:aq->aH×Bool)(l:List aq)(e:aq):lQ f (l++[e])=(lQ f l).bind (λs=>if(f e).2=true then some (s++[(f e).1])else none):=by
 induction l with
 |nil=>simp only[vdp,lQ,vcv];split<;>simp
 |cons a r b=>
  simp only[veg,lQ];split
  .rw[b];cases lQ f r with|none=>rfl|some s=>simp only[vcv,vcy];split<;>simp
  .rfl
def amA(f:aq->aH×Bool)(l r:List aq)(h:lQ f l=none):lQ f (l++r)=none:=by
 induction l with
 |nil=>simp[lQ]at h
 |cons a l c=>
  simp only[veg,lQ]at *;split
  .rename_i d;rw[vca d]at h;cases b:lQ f l with|none=>rw[c b];rfl|some s=>rw[b]at h;simp at h
  .rfl
theorem Z3{f:aq->aH×Bool}{es:List aq}{k}(hk:k<es.length){st:List aH}(h:lQ f (es.take k)=some st)(hs:(f es[k]).2=false):lQ f es=none:=by
 have h1:lQ f (es.take (k+1))=none:=by rw[vdu hk,Z2,h,vcv,vby (by simp[hs])]
 have:=amA f (es.take (k+1)) (es.drop (k+1)) h1;rwa[List.take_append_drop]at this
def Z4{f:aq->aH×Bool}{es:List aq}{k}(hk:k<es.length){st:List aH}(h:lQ f (es.take k)=some st)(hs:(f es[k]).2=true):lQ f (es.take (k+1))=some (st++[(f es[k]).1]):=by rw[vdu hk,Z2,h,vcv,vca hs]
namespace bd
open RowKit
structure gP(W W':aR):Prop where
 size:W.heap.size<=W'.heap.size
 cells:∀(b:Nat)(c:dX)(e:uaa)(z:ubr),W.heap[b]?=some (Obj.cells c e z)->W'.heap[b]?=some (Obj.cells c e z)
variable{w:aR}
def lR{b o}(h:w.heap[b]?=some o):b<w.heap.size:=(vao.1 h).1
variable{W W':aR}
def gP.below(h:c6 W W'):gP W W':=⟨h.size,λb _ _ _ e=>(h.block b (lR e)).trans e⟩
variable{A B C:aR}
theorem gP.trans(h:gP A B)(k:gP B C):gP A C:=⟨vad h.size k.size,λb c e z x=>k.cells b c e z (h.cells b c e z x)⟩
variable{l:Nat}
theorem gP.put{r a}(h:W.heap[l]?=some (.loop r)):gP W (W.putObj l (.loop a)):=
 ⟨AS,λb c e z x=>by
  grind[World.putObj_heap_other]⟩
variable{n₀:Nat}
def tn o(h:n₀<=l):Below n₀ W (W.putObj l o):=
 ⟨Y,Y,Y,AS,λk hk=>vap AQ⟩
def CM(n:Nat)(P:cE)(g:Nat)(lb:dX)(Row:uau)(N n₀:Nat)(w0:aR):Prop:=
 ∀(l:Nat)(S:dL)(J:ubj)(W:aR),Below n₀ w0 W->(∀t W,J t W->∀b,S b->b<W.heap.size)->(∀t W W',J t W->gP W W'->(∀b,S b->W'.heap[b]?=W.heap[b]?)->J t W')->
  (∀t x W1,J t W1->t<N->Row t W1 x->YieldAt Fence.wide (n-1) P l #[x] W1 λe W'=>e=.returned (.T)/\J (t+1) W'/\Below n₀ W1 W')->
  J 0 W->CallsIn Fence.wide n P g (#[.func (.yield l) #[] #[]]++lb) W λe W'=>(∃v,e=.returned v)/\J N W'/\Below n₀ W W'
def JD{S:dL}{J:ubj}(a:∀t W,J t W->∀b,S b->b<W.heap.size)(d:∀t W W',J t W->gP W W'->(∀b,S b->W'.heap[b]?=W.heap[b]?)->J t W'):∀t W W',J t W->c6 W W'->J t W':=
 λt W W' h c=>d t W W' h (.below c) λb hs=>c.block b (a t W h b hs)
def h7(X:dL)(n₀:Nat)(W W':aR):Prop:=Below 0 W W'/\∀b,b<n₀->¬X b->W'.heap[b]?=W.heap[b]?
variable{X:dL}
theorem h7.of(h:Below n₀ W W'):h7 X n₀ W W':=⟨h.mono (vax _),λb a _=>h.block b a⟩
def rf:Nat->Nat->Prop:=λ_ _=>False
def h7.aT{t}(h:h7 (rf t) n₀ W W'):Below n₀ W W':=⟨h.1.1,h.1.2,h.1.3,h.1.4,λb a=>h.2 b a id⟩
theorem h7.trans(h:h7 X n₀ A B)(k:h7 X n₀ B C):h7 X n₀ A C:=⟨h.1.trans k.1,λb c a=>(k.2 b c a).trans (h.2 b c a)⟩
theorem h7.mono{Y}(h:h7 X n₀ A B)(d:∀b,X b->Y b):h7 Y n₀ A B:=⟨h.1,λb c a=>h.2 b c λx=>a (d b x)⟩
def qo(W W':aR):Prop:=∀(b:Nat)(o:Obj),W.heap[b]?=some o->((∃r,o=.loop r)\/∃d,o=.deferred d)->W'.heap[b]?=some o
theorem qo.of(h:KeepsOthers W W'):qo W W':=λb o c a=>h.same b o c (by rcases a with⟨r,rfl⟩|⟨d,rfl⟩<;>rfl)
theorem qo.trans(h:qo A B)(k:qo B C):qo A C:=λb o c a=>k b o (h b o c a) a
def rg(Y:ubd)(W W':aR):Prop:=∀(b:Nat)(c:dX)(e:uaa)(z:ubr),Y e->W.heap[b]?=some (.cells c e z)->W'.heap[b]?=some (.cells c e z)
variable{Y:ubd}
theorem rg.of(h:gP W W'):rg Y W W':=λb c e z _ x=>h.cells b c e z x
theorem rg.trans(h:rg Y A B)(k:rg Y B C):rg Y A C:=λb c e z y x=>k b c e z y (h b c e z y x)
def CN(Y:ubd)(X:ubh)(n:Nat)(P:cE)(g:Nat)(lb:dX)(Row:ubn)(N n₀:Nat)(w0:aR):Prop:=
 ∀(l:Nat)(S:dL)(J:ubj)(W:aR),Below n₀ w0 W->(∀t W,J t W->∀b,S b->b<W.heap.size)->(∀t W W',J t W->gP W W'->(∀b,S b->W'.heap[b]?=W.heap[b]?)->J t W')->
  (∀t x rh W1,J t rh->c6 rh W1->J t W1->t<N->Row t rh.heap.size W1 x->YieldAt Fence.wide (n-1) P l #[x] W1 λe W'=>e=.returned (.T)/\J (t+1) W'/\h7 (X (t+1)) n₀ W1 W'/\rg Y W1 W')->
  J 0 W->CallsIn Fence.wide n P g (#[.func (.yield l) #[] #[]]++lb) W λe W'=>(∃v,e=.returned v)/\J N W'/\h7 (X N) n₀ W W'
variable{w0:aR}{N n:Nat}{P:cE}{lb:dX}
theorem CM.x{g Row}(h:CM n P g lb Row N n₀ w0):CN Y rf n P g lb (λt _=>Row t) N n₀ w0:=by intro l S J W o h1 h2 h3 h4;refine(h l S J W o h1 h2 (λt x k a b c=>?_) h4).mono λe W'⟨i,f,d⟩=>⟨i,f,.of d⟩;obtain⟨fn,tmps,aB,j,m,p⟩:=h3 t x k k a (.refl _ _) a b c;exact⟨fn,tmps,aB,j,m,p.mono λe W'⟨i,f,d,_⟩=>⟨i,f,d.aT⟩⟩
variable{gf:Nat}{assign body:Code}{Q:uao}
def Nf{X:ubh}{g:uam}{p:Tmp}{a:Act}{Row:ubn}(hg:a.eval g=.func (.func gf) #[] lb)(qf:∀args w,(callFunc gf args).run P w=.ok (.enter gf args) w)(F:CN Y X (n-1) P gf lb Row N n₀ w0)(Z:Below n₀ w0 w)(hn:n₀<=w.heap.size)(S:dL)(U:∀b,S b->b<w.heap.size)(I:ubj)(hI:∀t W W',I t W->gP W W'->(∀b,S b->W'.heap[b]?=W.heap[b]?)->I t W')(h0:I 0 w)(q:ubo)(hAx:∀t x a' W W',q t x a' W->gP W W'->(∀b,S b->W'.heap[b]?=W.heap[b]?)->q t x a' W')(JE:∀(l t:Nat)(x:Value)(f W:aR)(K:uae),I t f->c6 f W->I t W->t<N->Row t f.heap.size W x->(∀a' W',c6 W W'->q t x a' W'->K a' W')->
  assign.wpIn (Fence.wide.inRound l) (n-1-1) P (Exit.then K (λ_ _ _=>False)) {tmps:=a.tmps.setIfInBounds p x,defers:=[]} W)(AJ:∀(l t:Nat)(x:Value)(a':Act)(W:aR),I t W->t<N->q t x a' W->n₀<=W.heap.size->body.wpIn (Fence.wide.inRound l) (n-1-1) P (λe _ W'=>e=.normal/\qo W W'/\h7 (X (t+1)) n₀ W W'/\rg Y W W'/\I (t+1) W') a' W)(hdone:∀W,I N W->h7 (X N) n₀ w W->W.heap[w.heap.size]?=some (.deferred (some []))->Q .normal {a with defers:={target:=.collected w.heap.size,args:=#[]}::a.defers} W):
 (Code.rangeFunc g #[p] assign body).wpIn Fence.wide n P Q a w:=by
 refine wpIn_rangeFunc ?_;intro fn J;obtain⟨rec,C⟩:∃rec:LoopState->Loop,rec=λst=>{state:=st,pending:=none,fn,tmps:=a.tmps,params:=#[p],assign,body,defers:=w.heap.size}:=⟨_,rfl⟩;obtain⟨c,S4⟩:∃c,(w.alloc (.deferred (some []))).alloc (.loop (rec .ready))=c:=⟨_,rfl⟩;have S5:c.heap[w.heap.size+1]?=some (.loop (rec .ready)):=by grind[World.alloc_heap_new,World.size_alloc]
 have S6:c.heap[w.heap.size]?=some (.deferred (some [])):=by grind[Below.heap_alloc,World.alloc_heap_new]
 have m:c6 w c:=by rw[<-S4];exact((vaa _ w).alloc JR _).alloc AS _
 refine⟨w.heap.size+1,[{target:=.collected w.heap.size,args:=#[]}],c,{target:=.fn (.func gf) lb,args:=#[.func (.yield (w.heap.size+1)) #[] #[]]},c,gf,#[.func (.yield (w.heap.size+1)) #[] #[]]++lb,c,?_,?_,λ_ _=>trivial,?_,λh=>CI,?_⟩
 .simp_all[run_enterLoop_outer]
 .simp only[resolve,hg];simp[go_sem]
 .grind[invoke]
 .refine(F (w.heap.size+1) (λb=>S b\/b=w.heap.size\/b=w.heap.size+1) (λt W=>(I t W/\n₀<=W.heap.size/\w.heap.size<=W.heap.size)/\W.heap[w.heap.size+1]?=some (.loop (rec .ready))/\W.heap[w.heap.size]?=some (.deferred (some []))) c (Z.trans (m.mono hn)) ?_ ?_ ?_ ⟨⟨hI _ _ _ h0 (.below m) (λb hs=>m.block b (U b hs)),AA,m.size⟩,S5,S6⟩).mono ?_
  .grind
  .grind
  .rintro t x f W ⟨⟨AY,-⟩,-⟩ GJ ⟨⟨hi,H,Cz⟩,i,hk⟩ j bM;have z:∀(W:aR)(o:Obj) b,S b->(W.putObj (w.heap.size+1) o).heap[b]?=W.heap[b]?:=λW o b hs=>vap AA;have y:=run_yield (P:=P) (args:=#[x]) i AA;rw[C]at y;refine⟨fn,_,assign,body,y,roundIn_of_wpIn J ?_⟩;clear y;have e1:(#[p].zip #[x]).foldl (λtmps(u:Tmp×Value)=>tmps.setIfInBounds u.1 u.2) a.tmps=a.tmps.setIfInBounds p x:=AS;refine Eq.mp (vcd (λT=>Code.wpIn (Fence.wide.inRound (w.heap.size+1)) (n-1-1) P assign _ {tmps:=T,defers:=[]} W) e1.symm) ?_;refine JE _ t x f W _ AY GJ hi j bM ?_;intro a' B d S8;have k:=(d.block _ (lR i)).trans i;have V:=(d.block _ (lR hk)).trans hk;refine⟨_,run_beginRound k AA,?_⟩;have M:(B.putObj (w.heap.size+1) (.loop {rec .ready with state:=.busy})).heap[w.heap.size+1]?=some (.loop {rec .ready with state:=.busy}):=World.putObj_heap_same (lR k);have L:(B.putObj (w.heap.size+1) (.loop {rec .ready with state:=.busy})).heap[w.heap.size]?=some (.deferred (some [])):=(vap AQ).trans V;refine wpIn_mono (AJ _ t x a' _ (hI _ _ _ (hI _ _ _ hi (.below d) (λb hs=>d.block b AA)) (.put k) (z _ _)) j (hAx _ _ _ _ _ S8 (.put k) (z _ _)) AA) ?_;rintro e bK mH ⟨rfl,A,r,E,D⟩;have s:=A _ _ M (.inl ⟨_,rfl⟩);have CO:=A _ _ L (.inr ⟨_,rfl⟩);have O:=run_endRound (P:=P) none s;refine⟨_,_,O,rfl,⟨⟨hI _ _ _ D (.put s) (z _ _),by have:=d.size;have:=r.1.size;simp at this⊢;omega,by have:=d.size;have:=r.1.size;simp at this⊢;omega⟩,?_,(vap AQ).trans CO⟩,?_,((rg.of (.below d)).trans (.of (.put k))).trans (E.trans (.of (.put s)))⟩
   .grind[World.putObj_heap_same]
   .exact(((h7.of (d.mono H)).trans ((h7.of (tn _ AQ)).trans r)).trans (.of (tn _ AQ)))
  .rintro e W2 ⟨⟨v,rfl⟩,⟨⟨hi,-⟩,i,hk⟩,R⟩;refine⟨none,_,by have:=run_endLoop (P:=P) i AA;rw[C]at this;exact this,hdone _ (hI _ _ _ hi (.put i) λb hs=>vap AA) ?_ ((vap AQ).trans hk)⟩;exact((h7.of (m.mono hn)).trans R).trans (.of (tn _ AQ))
def aah{g:uam}{p:Tmp}{a:Act}{Row:uau}(hg:a.eval g=.func (.func gf) #[] lb)(d:∀args w,(callFunc gf args).run P w=.ok (.enter gf args) w)(f:CM (n-1) P gf lb Row N n₀ w0)(q:Below n₀ w0 w)(hn:n₀<=w.heap.size)(S:dL)(o:∀b,S b->b<w.heap.size)(I:ubj)(hI:∀t W W',I t W->gP W W'->(∀b,S b->W'.heap[b]?=W.heap[b]?)->I t W')(h0:I 0 w)(c:ubo)(hAx:∀t x a' W W',c t x a' W->gP W W'->(∀b,S b->W'.heap[b]?=W.heap[b]?)->c t x a' W')(r:∀(l t:Nat)(x:Value)(W:aR)(K:uae),I t W->t<N->Row t W x->(∀a' W',c6 W W'->c t x a' W'->K a' W')->
  assign.wpIn (Fence.wide.inRound l) (n-1-1) P (Exit.then K (λ_ _ _=>False)) {tmps:=a.tmps.setIfInBounds p x,defers:=[]} W)(s:∀(l t:Nat)(x:Value)(a':Act)(W:aR),I t W->t<N->c t x a' W->n₀<=W.heap.size->body.wpIn (Fence.wide.inRound l) (n-1-1) P (λe _ W'=>e=.normal/\KeepsOthers W W'/\Below n₀ W W'/\I (t+1) W') a' W)(hdone:∀W,I N W->Below n₀ w W->W.heap[w.heap.size]?=some (.deferred (some []))->Q .normal {a with defers:={target:=.collected w.heap.size,args:=#[]}::a.defers} W):
 (Code.rangeFunc g #[p] assign body).wpIn Fence.wide n P Q a w:=by
 refine Nf (Y:=λ_=>False) (X:=rf) hg d f.x q hn S o I hI h0 c hAx (λl t x u W K _ _ h2 h3 h4=>r l t x W K h2 h3 h4) (λl t x a' W h1 h2 h3 h4=>wpIn_mono (s l t x a' W h1 h2 h3 h4) ?_) (λW h1 h2 h3=>hdone W h1 h2.aT h3);rintro e a W' ⟨m,k,j,i⟩;exact⟨m,.of k,.of j,λ_ _ _ _ h=>h.elim,i⟩
end bd
namespace av
def anB(Q:cE)(main:Bool)(K:dL)(post:a0->Prop)(Y X:a0):Prop:=
 ¬post X/\∃w' g1 w1 es,me K X w'/\stepG Q main X.g w'=.go g1 w1 es/\Y=⟨g1,w1,grown X.mine w' w1⟩
variable{K:dL}
def ix.acc{Q main post X}(h:ix Q main K post X):Acc (anB Q main K post) X:=by induction h with|done h=>exact⟨_,λY a=>absurd h a.1⟩|step _ _ b=>refine⟨_,λY a=>?_⟩;obtain⟨_,w',g1,w1,es,c,hs,rfl⟩:=a;grind
def ix.next{Q main post X}(h:ix Q main K post X):
 post X\/∀w',me K X w'->∃g1 w1 es,stepG Q main X.g w'=.go g1 w1 es/\Sl K X.mine w' g1 w1 es/\ix Q main K post ⟨g1,w1,grown X.mine w' w1⟩:=by
 cases h with|done h=>grind|step ok h=>refine .inr λw' a=>?_;obtain⟨g1,w1,es,hs,hg⟩:=ok w' a;grind
def me.others{X w w1}(h:me K X w)(hk:∀b,K b\/X.mine b->w1.heap[b]?=w.heap[b]?)(hs:w.heap.size<=w1.heap.size)(c:w1.os.env=w.os.env):me K X w1:=
 ⟨λb a=>(hk b a).trans (h.heap b a),vad h.size hs,c.trans h.env⟩
theorem me.refl K X:me K X X.w:=⟨λ_ _=>Y,vac _,Y⟩
def yT{aq:Type}(r:aq->aq->Prop)(l' l:List aq):Prop:=∃i x y,l[i]?=some x/\r y x/\l'=l.set i y
theorem anC{aq r a}(e:Acc r a):∀{l:List aq},Acc (yT r) l->Acc (yT r) (a::l):=by induction e with|intro a _ f=>intro l d;induction d with|intro l c ihl=>refine⟨_,?_⟩;rintro g ⟨i,x,y,hi,b,rfl⟩;cases i with|zero=>simp at hi;subst hi;exact f y b ⟨l,c⟩|succ i=>simp at hi;exact ihl _ ⟨i,x,y,hi,b,Y⟩
def anD{aq:Type}{r:aq->aq->Prop}:∀(l:List aq),(∀x∈l,Acc r x)->Acc (yT r) l:=by intro l;induction l with|nil=>intro _;exact⟨_,λb⟨i,x,y,hi,_⟩=>AA⟩|cons a l c=>grind[anC]
end av
namespace bj
open Conc ConcM av
structure fz where
 Lo:Type
 aQ:Type
 a7:aQ->Nat
 qu:aQ->List Lo->Prop
 ey:Lo->aQ->aQ->Prop
 K:Nat->Prop
 ia:Nat->Prop
 uy:aQ->aR->Prop
 tok:Lo->Bool
 deaf:Lo->Nat
 past:Lo->Bool
 Left:Lo->Prop
 zero:Lo->Prop
 oX:Lo->aQ->Prop
 h_:Loc->Prop
 fj:Loc->Prop
 mu:Addr
 wg:Addr
 py:Lo->Goroutine->Goroutine->Prop
structure fz.Good(Z:fz):Prop where
 refl:∀ ℓ γ,Z.ey ℓ γ γ
 trans:∀ ℓ a b c,Z.ey ℓ a b->Z.ey ℓ b c->Z.ey ℓ a c
 less:∀ ℓ γ aj,Z.ey ℓ γ aj->aj=γ\/Z.a7 aj<Z.a7 γ
 mt:∀γ w w',(∀b,Z.ia b->w'.heap[b]?=w.heap[b]?)->Z.uy γ w->Z.uy γ w'
 oo:∀b,Z.K b->¬Z.ia b
 one:∀γ(ls:List Z.Lo)(i j:Nat) a b,Z.qu γ ls->ls[i]?=some a->ls[j]?=some b->Z.tok a=true->Z.tok b=true->i=j
 q1:∀γ ls,Z.qu γ ls->∃(j:Nat)(l:Z.Lo),ls[j]?=some l/\¬Z.Left l/\¬Z.oX l γ
 zero:∀γ(ls:List Z.Lo)(j:Nat) l,Z.qu γ ls->ls[j]?=some l->Z.zero l->j=0
 GY:∀l,Z.h_ l->∃b,fy l=some b/\Z.ia b
 C2:∀l,Z.fj l->∃b,fy l=some b/\Z.ia b
 ux:∀l,Z.h_ l->¬Z.fj l
section
variable(Z:fz)
def ib(l:Z.Lo)(γ:Z.aQ):Prop:=∃(ls:List Z.Lo)(i:Nat),ls[i]?=some l/\Z.qu γ ls
structure ep(l:Z.Lo)(γ:Z.aQ)(X:a0)(w:aR):Prop where
 rely:me Z.K X w
 mt:Z.uy γ w
 sees:ib Z l γ
 later:OsLater X.w.os w.os
 output:w.output=X.w.output
 tape:w.tape=X.w.tape
def xC(e:Event):Prop:=e.loc=.mark .disable\/e.loc=.mark .enable\/(∃a,e.loc=.mark (.acquire a))\/(∃a,e.loc=.mark (.releaseMerge a))\/(e.write=true/\∃b,fy e.loc=some b/\Z.ia b)
def C3(l:Z.Lo)(g g1:uaj)(es:uat):Prop:=(∃e∈es,xC Z e)\/Z.py l g g1
def uz(l:Z.Lo)(mine:dL)(d:Nat)(e:Event):Prop:=
 match e.loc with
 | .cell a=>(e.sync=false/\((Z.K a.block/\e.write=false)\/mine a.block\/(Z.h_ (.cell a)/\Z.tok l=true))/\Z.past l=false)\/(e.sync=true/\Z.fj (.cell a)/\0<d)
 | .obj r=>e.sync=false/\((Z.K r/\e.write=false)\/mine r)/\Z.past l=false
 | .mark m=>A3 m\/(Z.zero l/\∃a,Z.fj (.cell a)/\(m=.read a\/m=.write a))
 | .output=>True
 | .goroutines=>False
def pz(l:Z.Lo)(mine:dL):Nat->List Event->Prop
 | _,[]=>True
 |d,e::r=>uz Z l mine d e/\pz l mine (A4 d e) r
structure lU(mine:dL)(w' w1:aR):Prop where
 kept:∀b,b<w'.heap.size->¬mine b->¬Z.ia b->w1.heap[b]?=w'.heap[b]?
 size:w'.heap.size<=w1.heap.size
 os:OsLater w'.os w1.os
 output:w1.output=w'.output
 tape:w1.tape=w'.tape
structure Quiet(l:Z.Lo)(X:a0)(w':aR)(g1:uaj)(w1:aR)(es:uat):Prop where
 run:g1.status=.running
 keep:lU Z X.mine w' w1
 sh:∀b,b<w'.heap.size->Z.ia b->w1.heap[b]?=w'.heap[b]?
 evs:pz Z l (grown X.mine w' w1) (Z.deaf l) es.toList
 low:¬C3 Z l X.g g1 es
def C4(l:Z.Lo)(γ:Z.aQ)(l1:Z.Lo)(bu:Z.aQ):Prop:=
 Z.a7 bu<Z.a7 γ/\∀(ls:List Z.Lo)(i:Nat),ls[i]?=some l->Z.qu γ ls->Z.qu bu (ls.set i l1)/\∀(j:Nat)(ll:Z.Lo),j≠i->ls[j]?=some ll->Z.ey ll γ bu
def GZ(m:Mark):Event:=⟨.mark m,false,true⟩
def Says(l l1:Z.Lo)(mine:dL)(es:uat):Prop:=
 (Z.tok l1=Z.tok l/\Z.past l1=Z.past l/\Z.deaf l1=deafBehind (Z.deaf l) es/\pz Z l mine (Z.deaf l) es.toList)\/
 (es=#[GZ (.acquire Z.mu)]/\Z.deaf l=0/\Z.deaf l1=0/\Z.tok l=false/\Z.tok l1=true/\Z.past l1=Z.past l)\/
 (es=#[GZ (.releaseMerge Z.mu)]/\Z.deaf l=0/\Z.deaf l1=0/\Z.tok l=true/\Z.tok l1=false/\Z.past l1=Z.past l)\/
 (es=#[GZ (.releaseMerge Z.wg)]/\Z.deaf l=0/\Z.deaf l1=0/\Z.tok l1=Z.tok l/\Z.past l1=true)
structure aaG(Q:cE)(l:Z.Lo)(γ:Z.aQ)(X:a0)(w':aR)(g1:uaj)(w1:aR)(es:uat)(l1:Z.Lo)(bu:Z.aQ):Prop where
 run:g1.status=.running
 Nq:C3 Z l X.g g1 es
 keep:lU Z X.mine w' w1
 mt:Z.uy bu w1
 A6:C4 Z l γ l1 bu
 says:Says Z l l1 (grown X.mine w' w1) es
 JU:mayWake Q X.g=true\/∀ll,Z.oX ll γ->Z.oX ll bu
structure To(l:Z.Lo)(γ:Z.aQ)(X:a0)(w':aR)(g1 child:uaj)(w1:aR)(es:uat)(l1:Z.Lo)(bu:Z.aQ)(lc:Z.Lo):Prop where
 run:g1.status=.running
 aaH:child.status=.running
 keep:lU Z X.mine w' w1
 mt:Z.uy bu w1
 a7:Z.a7 bu<Z.a7 γ
 A6:∀(ls:List Z.Lo),ls[0]?=some l->Z.qu γ ls->Z.qu bu (ls.set 0 l1++[lc])/\∀(j:Nat)(ll:Z.Lo),j≠0->ls[j]?=some ll->Z.ey ll γ bu
 evs:pz Z l (grown X.mine w' w1) 0 es.toList
 deaf:Z.deaf l=0/\deafBehind 0 es=0/\Z.deaf l1=0/\Z.deaf lc=0
 tok:Z.tok l1=Z.tok l/\Z.tok lc=false
 past:Z.past l1=Z.past l/\Z.past lc=false
 JU:∀ll,Z.oX ll γ->Z.oX ll bu
 stays:¬Z.Left l1/\¬Z.Left lc
def Comes(Q:cE)(Stop:Bool->Z.Lo->a0->Prop)(m:Bool)(l:Z.Lo)(γ:Z.aQ)(X:a0)(w':aR)(c:Z.Lo×Z.aQ×Z.Lo):Prop:=
 (∃g1 w1 es,stepG Q m X.g w'=.go g1 w1 es/\Quiet Z l X w' g1 w1 es)\/
 (∃g1 w1 es,stepG Q m X.g w'=.go g1 w1 es/\aaG Z Q l γ X w' g1 w1 es c.1 c.2.1/\(Z.Left c.1->m=false/\Stop m c.1 ⟨g1,w1,grown X.mine w' w1⟩))\/
 (stepG Q m X.g w'=.go {X.g with status:=.blocked} w' #[]/\X.g.offers=none/\Z.oX l γ/\¬Z.py l X.g {X.g with status:=.blocked})\/
 (m=true/\∃g1 child w1 es,stepG Q m X.g w'=.spawn g1 child w1 es/\To Z l γ X w' g1 child w1 es c.1 c.2.1 c.2.2)
inductive bc(Q:cE)(Stop:Bool->Z.Lo->a0->Prop):Bool->Z.Lo->Z.aQ->a0->Prop
 |stop {m:Bool} {l:Z.Lo} {γ:Z.aQ} {X:a0} (h:Stop m l X):bc Q Stop m l γ X
 |step {m:Bool} {l:Z.Lo} {γ:Z.aQ} {X:a0} (hs:X.g.status=.running) (ch:aR->Z.aQ->Z.Lo×Z.aQ×Z.Lo)
  (ok:∀w' aj,Z.ey l γ aj->ep Z l aj X w'->Comes Z Q Stop m l aj X w' (ch w' aj))
  (hq:∀w' aj g1 w1 es,Z.ey l γ aj->ep Z l aj X w'->stepG Q m X.g w'=.go g1 w1 es->g1.status=.running->¬C3 Z l X.g g1 es->bc Q Stop m l aj ⟨g1,w1,grown X.mine w' w1⟩)
  (he:∀w' aj g1 w1 es,Z.ey l γ aj->ep Z l aj X w'->stepG Q m X.g w'=.go g1 w1 es->C3 Z l X.g g1 es->bc Q Stop m (ch w' aj).1 (ch w' aj).2.1 ⟨g1,w1,grown X.mine w' w1⟩)
  (hm:∀w' aj g1 child w1 es,Z.ey l γ aj->ep Z l aj X w'->stepG Q m X.g w'=.spawn g1 child w1 es->bc Q Stop m (ch w' aj).1 (ch w' aj).2.1 ⟨g1,w1,grown X.mine w' w1⟩)
  (hc:∀w' aj g1 child w1 es,Z.ey l γ aj->ep Z l aj X w'->stepG Q m X.g w'=.spawn g1 child w1 es->bc Q Stop false (ch w' aj).2.2 (ch w' aj).2.1 ⟨child,w1,λ_=>False⟩):bc Q Stop m l γ X
end
section
variable{Z:fz}{Q:cE}{Stop:Bool->Z.Lo->a0->Prop}{m:Bool}{l:Z.Lo}{γ:Z.aQ}{X:a0}
inductive Then(Q:cE)(Stop:Bool->Z.Lo->a0->Prop)(m:Bool)(l:Z.Lo)(γ:Z.aQ)(X:a0)(w':aR):Prop
 |quiet {g1:uaj} {w1:aR} {es:uat} (hs:stepG Q m X.g w'=.go g1 w1 es) (hq:Quiet Z l X w' g1 w1 es) (h:bc Z Q Stop m l γ ⟨g1,w1,grown X.mine w' w1⟩)
 |turn {g1:uaj} {w1:aR} {es:uat} {l1:Z.Lo} {bu:Z.aQ} (hs:stepG Q m X.g w'=.go g1 w1 es) (ht:aaG Z Q l γ X w' g1 w1 es l1 bu) (hl:Z.Left l1->m=false/\Stop m l1 ⟨g1,w1,grown X.mine w' w1⟩) (h:bc Z Q Stop m l1 bu ⟨g1,w1,grown X.mine w' w1⟩)
 |wait (hs:stepG Q m X.g w'=.go {X.g with status:=.blocked} w' #[]) (ho:X.g.offers=none) (hw:Z.oX l γ) (hp:¬Z.py l X.g {X.g with status:=.blocked})
 |born {g1 child:uaj} {w1:aR} {es:uat} {l1:Z.Lo} {bu:Z.aQ} {lc:Z.Lo} (hm:m=true) (hs:stepG Q m X.g w'=.spawn g1 child w1 es) (hb:To Z l γ X w' g1 child w1 es l1 bu lc)
  (h:bc Z Q Stop m l1 bu ⟨g1,w1,grown X.mine w' w1⟩) (hc:bc Z Q Stop false lc bu ⟨child,w1,λ_=>False⟩)
open Classical in
def bc.mk(hs:X.g.status=.running)(h:∀w' a,Z.ey l γ a->ep Z l a X w'->Then Q Stop m l a X w'):bc Z Q Stop m l γ X:=by
 have pick:∀w' a,∃c:Z.Lo×Z.aQ×Z.Lo,Z.ey l γ a->ep Z l a X w'->Comes Z Q Stop m l a X w' c/\
  (∀g1 w1 es,stepG Q m X.g w'=.go g1 w1 es->g1.status=.running->¬C3 Z l X.g g1 es->bc Z Q Stop m l a ⟨g1,w1,grown X.mine w' w1⟩)/\
  (∀g1 w1 es,stepG Q m X.g w'=.go g1 w1 es->C3 Z l X.g g1 es->bc Z Q Stop m c.1 c.2.1 ⟨g1,w1,grown X.mine w' w1⟩)/\
  (∀g1 child w1 es,stepG Q m X.g w'=.spawn g1 child w1 es->bc Z Q Stop m c.1 c.2.1 ⟨g1,w1,grown X.mine w' w1⟩/\bc Z Q Stop false c.2.2 c.2.1 ⟨child,w1,λ_=>False⟩):=by
  intro w' a;by_cases f:Z.ey l γ a/\ep Z l a X w'
  .cases h w' a f.1 f.2 with|quiet hs hq h=>exact⟨(l,a,l),λ_ _=>⟨.inl AA,AA,AA,AA⟩⟩|turn hs ht d h=>exact⟨(_,_,l),λ_ _=>⟨.inr (.inl ⟨_,_,_,hs,ht,d⟩),λg1 w1 es e _ hn=>(by rw[hs]at e;cases e;exact absurd ht.Nq hn),AA,AA⟩⟩|wait hs n k j=>exact⟨(l,a,l),λ_ _=>⟨.inr AA,AA,λg1 w1 es e d=>(by rw[hs]at e;cases e;exact d.elim AA AA),AA⟩⟩|born g hs i h o=>exact⟨(_,_,_),λ_ _=>⟨.inr (.inr (.inr ⟨g,_,_,_,_,hs,i⟩)),AA,AA,AA⟩⟩
  .exact⟨(l,a,l),AA⟩
 obtain⟨ch,b⟩:=vbi.1 λx:aR×Z.aQ=>pick x.1 x.2;exact .step hs (λw' a=>ch (w',a)) AA (λw' a g1 w1 es h1 h2=>(b (w',a) h1 h2).2.1 g1 w1 es) (λw' a g1 w1 es h1 h2=>(b (w',a) h1 h2).2.2.1 g1 w1 es)
  (λw' a g1 c w1 es h1 h2 e=>((b (w',a) h1 h2).2.2.2 g1 c w1 es e).1) AA
def bc.next(h:bc Z Q Stop m l γ X):Stop m l X\/(X.g.status=.running/\∀w' a,Z.ey l γ a->ep Z l a X w'->Then Q Stop m l a X w'):=by
 cases h with
 |stop h=>grind
 |step hs ch ok hq b f g=>
  refine .inr ⟨hs,λw' a h1 h2=>?_⟩;rcases ok w' a h1 h2 with⟨g1,w1,es,e,q⟩|⟨g1,w1,es,e,q,d⟩|⟨e,q0,q,a3⟩|⟨em,g1,c,w1,es,e,q⟩
  .exact .quiet e q (hq w' a g1 w1 es h1 h2 e q.run q.low)
  .exact .turn e q d (b w' a g1 w1 es h1 h2 e q.Nq)
  .exact .wait e q0 q a3
  .exact .born em e q AA AA
def bc.ln(G:Z.Good)(h:bc Z Q Stop m l γ X){d}(b:Z.ey l γ d):bc Z Q Stop m l d X:=by
 cases h with
 |stop h=>exact .stop h
 |step hs ch ok hq f e g=>
  exact .step hs ch (λw' a h1=>ok w' a (G.trans _ _ _ _ b h1)) (λw' a g1 w1 es h1=>hq w' a g1 w1 es (G.trans _ _ _ _ b h1)) (λw' a g1 w1 es h1=>f w' a g1 w1 es (G.trans _ _ _ _ b h1))
   (λw' a g1 c w1 es h1=>e w' a g1 c w1 es (G.trans _ _ _ _ b h1)) (λw' a g1 c w1 es h1=>g w' a g1 c w1 es (G.trans _ _ _ _ b h1))
def Nr(Z:fz)(Q:cE)(Stop:Bool->Z.Lo->a0->Prop)(y x:Bool×Z.Lo×Z.aQ×a0):Prop:=
 ¬Stop x.1 x.2.1 x.2.2.2/\y.1=x.1/\y.2.1=x.2.1/\y.2.2.1=x.2.2.1/\∃w' g1 w1 es,ep Z x.2.1 x.2.2.1 x.2.2.2 w'/\stepG Q x.1 x.2.2.2.g w'=.go g1 w1 es/\g1.status=.running/\¬C3 Z x.2.1 x.2.2.2.g g1 es/\y.2.2.2=⟨g1,w1,grown x.2.2.2.mine w' w1⟩
def bc.acc(G:Z.Good)(h:bc Z Q Stop m l γ X):Acc (Nr Z Q Stop) (m,l,γ,X):=by induction h with|stop h=>exact⟨_,λy a=>absurd h a.1⟩|step hs ch ok hq k j n i _ _ _=>refine⟨_,λy a=>?_⟩;obtain⟨_,e1,e2,e3,w',g1,w1,es,b,hst,hrun,c,e4⟩:=a;obtain⟨g,f,e,d⟩:=y;simp only at e1 e2 e3 e4;subst e1 e2 e3 e4;exact i w' _ g1 w1 es (G.refl _ _) b hst hrun c
end
open ConcN
def vC(P:cE)(m:Machine)(t:Trace)(q:Machine->Trace->Prop):Prop:=∃n m' c7,runNT P n m t=(.next m',c7)/\q m' c7
theorem vC.refl{P m t q}(h:q m t):vC P m t q:=⟨0,m,t,Y,h⟩
theorem vC.step{P:cE}{m a:Machine}{t:Trace}{ops:Array MemOp}{q:Machine->Trace->Prop}(hs:stepT P m=(.next a,ops))(h:vC P a (t++ops) q):vC P m t q:=
 let⟨n,c,b,h1,h2⟩:=h
 ⟨n+1,c,b,by grind[runNT_succ_next],h2⟩
theorem aaI{P:cE}:∀(n:Nat){k:Nat}{m a:Machine}{t c7:Trace},runNT P n m t=(.next a,c7)->runNT P (n+k) m t=runNT P k a c7
 |0,k,m,a,t,c7,h=>by simp_all[runNT]
 |n+1,k,m,a,t,c7,h=>by rw[show n+1+k=(n+k)+1 from AQ];cases hs:stepT P m with|mk s ops=>cases s with|next m1=>rw[runNT_succ_next hs]at h⊢;exact aaI n h|ended o w=>simp[runNT,hs]at h
theorem vC.bind{P m t q a}(h:vC P m t q)(hq:∀b c7,q b c7->vC P b c7 a):vC P m t a:=by obtain⟨n,m1,d,h1,h2⟩:=h;obtain⟨k,e,c,h3,h4⟩:=hq m1 d h2;exact⟨n+k,e,c,by grind[aaI],h4⟩
def anQ{P:cE}{aq:Type}{r:aq->aq->Prop}(wf:WellFounded r)(Inv:aq->Machine->Trace->Prop)(q:Machine->Trace->Prop)(h:∀a m t,Inv a m t->q m t\/∃b ops c,stepT P m=(.next b,ops)/\r c a/\Inv c b (t++ops)):∀a m t,Inv a m t->vC P m t q:=by
 intro a;induction a using wf.induction with
 | _ a e=>
  intro m t hI;rcases h a m t hI with hq|⟨b,ops,c,hs,f,d⟩
  .exact .refl hq
  .exact .step hs AA
section
variable{aq:Type}(R:aq->aq->Prop)
def C6(y x:Nat×List aq×Nat×Nat):Prop:=
 y.1<x.1\/(y.1=x.1/\((yT R y.2.1 x.2.1/\Acc (yT R) x.2.1)\/(y.2.1=x.2.1/\(y.2.2.1<x.2.2.1\/(y.2.2.1=x.2.2.1/\y.2.2.2<x.2.2.2)))))
def anR:WellFounded (C6 R):=by
 have key:∀b,(∀a,a<b->∀v s k,Acc (C6 R) (a,v,s,k))->∀v s k,Acc (C6 R) (b,v,s,k):=by
  intro b f;have core:∀v,(∀v',yT R v' v->Acc (yT R) v->∀s k,Acc (C6 R) (b,v',s,k))->∀s k,Acc (C6 R) (b,v,s,k):=by intro v hv s;induction s using Nat.strongRecOn with| _ s e=>intro k;induction k using Nat.strongRecOn with| _ k d=>refine⟨_,?_⟩;rintro⟨a,v',s',k'⟩ h;simp[C6]at h;grind
  intro v;by_cases hv:Acc (yT R) v
  .induction hv with|intro v _ c=>grind
  grind
 refine⟨λ⟨b,v,s,k⟩=>?_⟩;induction b using Nat.strongRecOn generalizing v s k with| _ b c=>grind
end
structure cN(Z:fz) where
 g:Goroutine
 l:Z.Lo
 X:a0
 n:Nat
section
variable(Z:fz)(Q:cE)(Stop:Bool->Z.Lo->a0->Prop)
inductive uA(m:Bool)(γ:Z.aQ)(d:Nat)(r:cN Z):Prop
 |runs (hg:r.g=r.X.g) (hr:r.X.g.status=.running) (ht:bc Z Q Stop m r.l γ r.X) (hn:m=false->¬Stop m r.l r.X) (hd:d=Z.deaf r.l) (h0:r.n=0) (hl:¬Z.Left r.l)
 |waits (hg:r.g={r.X.g with status:=.blocked}) (hr:r.X.g.status=.running) (ho:r.X.g.offers=none) (ht:bc Z Q Stop m r.l γ r.X) (hn:¬Stop m r.l r.X) (hw:Z.oX r.l γ) (hd:d=Z.deaf r.l) (h0:r.n=0) (hl:¬Z.Left r.l)
 |leaves (hm:m=false) (hq:QuitsD Q r.n d r.g) (hl:Z.Left r.l) (hs:Stop m r.l r.X)
def jp(base:Nat)(rs:List (cN Z))(size:Nat)(aX:ubg):kG:=
 {n:=rs.length,base,size,K:=Z.K,mine:=λj b=>∃r,rs[j]?=some r/\r.X.mine b,h_:=Z.h_,fj:=Z.fj,tok:=aX,mu:=Z.mu,wg:=Z.wg,past:=λj=>∃r,rs[j]?=some r/\Z.past r.l=true}
structure Inv(base:Nat)(rs:List (cN Z))(γ:Z.aQ)(w:aR)(t:Trace):Prop where
 sits:∀(j:Nat)(r:cN Z),rs[j]?=some r->uA Z Q Stop (j==0) γ (Deaf t j) r
 uv:Z.qu γ (rs.map (·.l))
 mt:Z.uy γ w
 rely:∀(j:Nat)(r:cN Z),rs[j]?=some r->me Z.K r.X w/\OsLater r.X.w.os w.os/\w.output=r.X.w.output/\w.tape=r.X.w.tape
 sh:∀(j:Nat)(r:cN Z),rs[j]?=some r->∀b,r.X.mine b->¬Z.ia b/\¬Z.K b/\b<w.heap.size
 apart:∀(j k:Nat)(r s:cN Z),rs[j]?=some r->rs[k]?=some s->j≠k->∀b,r.X.mine b->¬s.X.mine b
 low:∀b,Z.K b\/Z.ia b->b<w.heap.size
 old:∀(j:Nat)(r:cN Z),rs[j]?=some r->j≠0->j<base->Z.Left r.l/\∀b,¬r.X.mine b
 aX:∃aX,(∀(j:Nat)(r:cN Z),rs[j]?=some r->(Z.tok r.l=true↔aX=some j))/\eH (jp Z base rs w.heap.size aX) t
 Ns:0<rs.length
def kW(rs:List (cN Z)):Array Goroutine:=(rs.map (·.g)).toArray
end
def eH.conv{p c t}(h:eH p t)(hn:c.n=p.n)(g:c.base=p.base)(hs:p.size<=c.size)(hK:c.K=p.K)(o:∀j b,c.mine j b->p.mine j b\/p.size<=b)(hg:c.h_=p.h_)(u:c.fj=p.fj)(ht:c.tok=p.tok)(n:c.mu=p.mu)(C:c.wg=p.wg)(w:∀j,c.past j->p.past j):eH c t:=by
 have q:∀j,c.bq j->p.bq j:=λj f=>by grind[kG.bq]
 have y:∀j,p.bq j->c.bq j:=λj f=>by grind[kG.bq]
 refine⟨λi a d s A=>?_,λi op hi=>by rw[hn];exact h.gs i op hi,λi a b d g=>vak (h.low i a b d g) hs,λi a b d v g l j f=>h.still i a b d v g (hK▸l) j (q j f),λj i a b f d g D=>?_,λj f=>?_,λx i a d z=>?_,λi a d hs=>?_,h.rp,h.yU,λi j f B r=>?_⟩
 .refine(h.oW i a d s A).imp AA λk=>⟨by rw[hg];exact k.1,λb m=>⟨by rw[hK];exact(k.2 b m).1,λj f=>(o j b f).elim ((k.2 b m).2 j) (λe=>absurd (h.low i a b d m) AQ)⟩⟩
 .exact(o j b D).elim (λe=>h.own j i a b (q j f) d g e) (λe=>absurd (h.low i a b d g) AQ)
 .obtain⟨h1,h2⟩:=h.uw j (ht▸f);grind
 .rw[n];exact(h.CZ (ht▸x) i a d (hg▸z)).imp AA id
 .exact(h.fj i a d (u▸hs)).imp id AA
 .rw[C];exact h.past i j f (w j B) r
variable{f:ubl}
section
variable{Z:fz}{Q:cE}{Stop:Bool->Z.Lo->a0->Prop}
structure Row(rs c3:List (cN Z))(i:Nat)(r1:cN Z)(f:ubl):Prop where
 len:c3.length=rs.length
 at_:c3[i]?=some r1
 ln:∀j,j≠i->c3[j]?=(rs[j]?).map λs=>{s with g:=f s.g}
def Nt(rs:List (cN Z)){i}{r:cN Z}(hi:rs[i]?=some r)(r1:cN Z)f:Row rs ((rs.map λs=>{s with g:=f s.g}).set i r1) i r1 f:=by
 have a:i<rs.length:=by grind
 refine⟨AS,AA,λj b=>?_⟩;grind
def Tq(rs:List (cN Z))(i:Nat)(r1:cN Z)(f:ubl):kW Z ((rs.map λs=>{s with g:=f s.g}).set i r1)=((kW Z rs).map f).setIfInBounds i r1.g:=by grind[kW]
def Row.ls{rs c3:List (cN Z)}{i}{r1:cN Z}(h:Row rs c3 i r1 f):c3.map (·.l)=(rs.map (·.l)).set i r1.l:=by
 apply vbw;intro j;by_cases b:j=i
 .subst b;have a:j<rs.length:=by obtain⟨x,_⟩:=vab.1 h.at_;rw[<-h.len];exact x
  simp[h.at_,a]
 .rw[vbg (Ne.symm b)];simp[h.ln j b];rfl
def Row.other{rs c3:List (cN Z)}{i}{r1:cN Z}(h:Row rs c3 i r1 f){j}{s:cN Z}(a:j≠i)(hs:c3[j]?=some s):∃s0,rs[j]?=some s0/\s={s0 with g:=f s0.g}:=by rw[h.ln j a]at hs;grind
theorem lU.at{mine w w1}d(h:lU Z mine (w.at d) w1):lU Z mine w w1:=⟨h.kept,h.size,h.os,h.output,h.tape⟩
theorem me.at{K X w}(h:me K X w)d:me K X (w.at d):=⟨h.heap,h.size,h.env⟩
theorem Inv.kept{base rs γ w t}(G:Z.Good)(h:Inv Z Q Stop base rs γ w t){i}{r:cN Z}(hi:rs[i]?=some r){w1}(hk:lU Z r.X.mine w w1):
 (∀b,Z.K b->w1.heap[b]?=w.heap[b]?)/\∀(j:Nat)(s:cN Z),rs[j]?=some s->j≠i->∀b,s.X.mine b->w1.heap[b]?=w.heap[b]?:=by
 refine⟨λb a=>hk.kept b (h.low b (.inl a)) (λe=>(h.sh i r hi b e).2.1 a) (G.oo b a),λj s d c b a=>?_⟩;have:=h.sh j s d b a;exact hk.kept b this.2.2 (h.apart j i s r d hi c b a) this.1
def Inv.parts{base rs c3 γ w t}(G:Z.Good)(h:Inv Z Q Stop base rs γ w t){i r r1}(hi:rs[i]?=some r)(u:Row rs c3 i r1 f){w1}(hk:lU Z r.X.mine w w1)(z:∀b,r1.X.mine b->r.X.mine b\/(w.heap.size<=b/\b<w1.heap.size)):
 (∀(j:Nat)(s:cN Z),c3[j]?=some s->∀b,s.X.mine b->¬Z.ia b/\¬Z.K b/\b<w1.heap.size)/\
 (∀(j k:Nat)(s s':cN Z),c3[j]?=some s->c3[k]?=some s'->j≠k->∀b,s.X.mine b->¬s'.X.mine b)/\
 (∀b,Z.K b\/Z.ia b->b<w1.heap.size)/\(∀aX,Tj (jp Z base c3 w1.heap.size aX)):=by
 have A:∀(j:Nat)(s:cN Z),c3[j]?=some s->∀b,s.X.mine b->(∃s0,rs[j]?=some s0/\s0.X.mine b)\/(j=i/\w.heap.size<=b/\b<w1.heap.size):=by
  intro j s d b a;by_cases q:j=i
  .subst q;rw[u.at_]at d;grind
  .obtain⟨s0,h1,rfl⟩:=u.other q d;grind
 have B:∀(j:Nat)(s:cN Z),c3[j]?=some s->∀b,s.X.mine b->¬Z.ia b/\¬Z.K b/\b<w1.heap.size:=by
  intro j s d b a;rcases A j s d b a with⟨s0,h1,h2⟩|⟨_,h1,h2⟩
  .have:=h.sh j s0 h1 b h2;exact⟨this.1,this.2.1,vak this.2.2 hk.size⟩
  .exact⟨λe=>absurd (h.low b (.inr e)) AQ,λe=>absurd (h.low b (.inl e)) AQ,h2⟩
 have C:∀(j k:Nat)(s s':cN Z),c3[j]?=some s->c3[k]?=some s'->j≠k->∀b,s.X.mine b->¬s'.X.mine b:=by
  intro j k s s' d x o b a v;rcases A j s d b a with⟨s0,h1,h2⟩|⟨e1,h1,h2⟩<;>rcases A k s' x b v with⟨g,m,n⟩|⟨y,m,n⟩
  .exact h.apart j k s0 g h1 m o b h2 n
  .have:=(h.sh j s0 h1 b h2).2.2;omega
  .have:=(h.sh k g m b n).2.2;omega
  grind
 have D:∀b,Z.K b\/Z.ia b->b<w1.heap.size:=λb a=>vak (h.low b a) hk.size;refine⟨B,C,D,λaX=>⟨?_,?_,?_,?_,G.ux,?_,λb a=>D b (.inl a),?_⟩⟩
 .rintro j k b ⟨s,h1,h2⟩ ⟨s',m,n⟩;grind
 .rintro j b ⟨s,h1,h2⟩;exact(B j s h1 b h2).2.1
 .intro l b j hg c;obtain⟨p,h1,h2⟩:=G.GY l hg;rw[c]at h1;cases h1;exact⟨λ⟨s,h3,h4⟩=>AA,λe=>G.oo b e h2⟩
 .intro l b j hg c;obtain⟨p,h1,h2⟩:=G.C2 l hg;rw[c]at h1;cases h1;exact⟨λ⟨s,h3,h4⟩=>AA,λe=>G.oo b e h2⟩
 .rintro j b ⟨s,h1,h2⟩;exact(B j s h1 b h2).2.2
 .intro l b c a;rcases c with c|c
  .obtain⟨p,h1,h2⟩:=G.GY l c;rw[a]at h1;cases h1;exact D b (.inr h2)
  .obtain⟨p,h1,h2⟩:=G.C2 l c;rw[a]at h1;cases h1;exact D b (.inr h2)
def aaK(G:Z.Good)base rs size aX:No (jp Z base rs size aX):=
 ⟨λl h=>let⟨_,h1,_⟩:=G.GY l h;GV h1,λl h=>let⟨_,h1,_⟩:=G.C2 l h;GV h1⟩
theorem aaL{p j l mine}(hK:p.K=Z.K)(f:∀b,mine b->p.mine j b)(hg:p.h_=Z.h_)(hs:p.fj=Z.fj)(ht:Z.tok l=true->p.tok=some j)(c:Z.past l=false->¬p.past j)(g:Z.zero l->j=0):
 ∀(es:ubk)d,pz Z l mine d es->Tl p j d es
 | [],_,_=>trivial
 |e::es,d,⟨h1,h2⟩=>by
  refine⟨?_,aaL hK f hg hs ht c g es _ h2⟩;obtain⟨loc,wr,h⟩:=e;cases loc with
  |cell a=>
   rcases h1 with⟨x,y,z⟩|⟨x,y,z⟩
   .exact .inl AA
   .exact .inr AA
  |obj r=>exact⟨h1.1,h1.2.1.imp AA (f _),c h1.2.2⟩
  |mark m=>exact h1.imp id AA
  |output=>trivial
  |goroutines=>exact h1
end
variable{es:uat}{g g1:uaj}
section
section
variable{Z:fz}{Q:cE}{Stop:Bool->Z.Lo->a0->Prop}{base:Nat}{rs c3:List (cN Z)}{γ bu:Z.aQ}{w w1:aR}{t:Trace}
def Inv.lt(h:Inv Z Q Stop base rs γ w t){i r}(hi:rs[i]?=some r)(b:¬Z.Left r.l)size aX:(jp Z base rs size aX).bq i:=by
 obtain⟨a,_⟩:=vab.1 hi;refine⟨a,?_⟩;rcases vbq i with e|e
 .grind
 .refine .inr (Nat.le_of_not_lt λc=>b (h.old i r hi AQ c).1)
def Nu(i:Nat)(fn:uak)(pos:String)(m:Mark):MemOp.ofEvents i fn pos #[GZ m]=#[({g:=i,fn,pos,act:=.mark m}:MemOp)]:=by rw[ofEvents_eq];simp[GZ,MemAct.ofEvent]
def Inv.says(G:Z.Good)(h:Inv Z Q Stop base rs γ w t){i:Nat}{r r1:cN Z}(hi:rs[i]?=some r)(E:¬Z.Left r.l)(a:Row rs c3 i r1 f)(hk:lU Z r.X.mine w w1)(H:r1.X.mine=grown r.X.mine w w1)(hd:Deaf t i=Z.deaf r.l)(N:Z.tok r.l=false->Z.tok r1.l=true->∀(k:Nat)(s:cN Z),k≠i->rs[k]?=some s->Z.tok s.l=true->False)(hs:Says Z r.l r1.l (grown r.X.mine w w1) es)(fn:uak)(pos:String):
 (∃aX,(∀(j:Nat)(s:cN Z),c3[j]?=some s->(Z.tok s.l=true↔aX=some j))/\eH (jp Z base c3 w1.heap.size aX) (t++MemOp.ofEvents i fn pos es))/\Deaf (t++MemOp.ofEvents i fn pos es) i=Z.deaf r1.l:=by
 have x:∀b,r1.X.mine b->r.X.mine b\/(w.heap.size<=b/\b<w1.heap.size):=λb o=>by rw[H]at o;exact o
 obtain⟨S,R,P,F⟩:=h.parts G hi a hk x;obtain⟨aX,L,q⟩:=h.aX;have n:∀aX,(jp Z base c3 w1.heap.size aX).bq i:=λaX=>by have:=h.lt hi E w1.heap.size aX;unfold kG.bq jp at this⊢;simp only at this⊢;rw[a.len];grind
 have A:∀aX j b,(jp Z base c3 w1.heap.size aX).mine j b->(jp Z base rs w.heap.size aX).mine j b\/w.heap.size<=b:=by
  rintro aX j b ⟨s,h1,h2⟩;by_cases c:j=i
  .subst c;rw[a.at_]at h1;cases h1;exact(x b h2).imp (λe=>⟨r,hi,e⟩) (λe=>e.1)
  .obtain⟨s0,h3,rfl⟩:=a.other c h1;exact .inl ⟨s0,h3,h2⟩
 have B:(Z.past r1.l=Z.past r.l)->∀aX j,(jp Z base c3 w1.heap.size aX).past j->(jp Z base rs w.heap.size aX).past j:=by
  rintro z aX j ⟨s,h1,h2⟩;by_cases c:j=i
  .subst c;rw[a.at_]at h1;cases h1;exact⟨r,hi,AA⟩
  .obtain⟨s0,h3,rfl⟩:=a.other c h1;exact⟨s0,h3,h2⟩
 have conv:(Z.past r1.l=Z.past r.l)->eH (jp Z base c3 w1.heap.size aX) t:=λz=>
  q.conv a.len Y hk.size Y (A aX) Y Y Y Y Y (B z aX)
 have K:∀(j:Nat)(s:cN Z),j≠i->c3[j]?=some s->(Z.tok s.l=true↔aX=some j):=by intro j s d C;obtain⟨s0,h3,rfl⟩:=a.other d C;grind
 rcases hs with⟨e1,e2,e3,e4⟩|⟨rfl,e1,e2,e3,e4,eE⟩|⟨rfl,e1,e2,e3,e4,eE⟩|⟨rfl,e1,e2,e3,e4⟩
 .refine⟨⟨aX,λj s d=>?_,?_⟩,by rw[Deaf_own,hd,e3]⟩
  .by_cases c:j=i
   .subst c;rw[a.at_]at d;grind
   grind
  .have:=eH.step (F aX) (aaK G base c3 w1.heap.size aX) (n aX) fn pos es.toList (conv e2) (aaL (Z:=Z) (p:=jp Z base c3 w1.heap.size aX) (j:=i) (l:=r.l) (mine:=grown r.X.mine w w1) Y (λb o=>⟨r1,a.at_,BB⟩) Y Y (λht=>(L i r hi).1 ht)
    (λO⟨s,h1,h2⟩=>by rw[a.at_]at h1;grind) (λD=>G.zero γ _ i r.l h.uv AA D) es.toList _ AA)
   omega
 .have u:aX=none:=by cases m:aX with|none=>rfl|some k=>exfalso;have v:=(q.uw k m).1;obtain⟨s,J⟩:∃s,rs[k]?=some s:=⟨rs[k]'v.1,vaq v.1⟩;grind
  refine⟨⟨some i,λj s d=>?_,?_⟩,Iu⟩
  .by_cases c:j=i
   .subst c;rw[a.at_]at d;grind
   grind
  .have h0:=conv eE;rw[u]at h0;have:=eH.anK h0 Y (y:={g:=i,fn,pos,act:=.mark (.acquire Z.mu)}) (n none) Y AA;rw[Nu];exact this
 .have m:aX=some i:=AA;refine⟨⟨none,λj s d=>?_,?_⟩,Iu⟩
  .by_cases c:j=i
   .subst c;rw[a.at_]at d;grind
   grind
  .have h0:=conv eE;rw[m]at h0;have:=eH.anL h0 (y:={g:=i,fn,pos,act:=.mark (.releaseMerge Z.mu)}) Y Y AA;rw[Nu];exact this
 .refine⟨⟨aX,λj s d=>?_,?_⟩,Iu⟩
  .by_cases c:j=i
   .subst c;rw[a.at_]at d;grind
   grind
  .have h0:eH {jp Z base c3 w1.heap.size aX with past:=(jp Z base rs w.heap.size aX).past} t:=
    q.conv a.len Y hk.size Y (A aX) Y Y Y Y Y (λj d=>d)
   have:=eH.anM h0 (y:={g:=i,fn,pos,act:=.mark (.releaseMerge Z.wg)}) (n aX) Y AA (past:=(jp Z base c3 w1.heap.size aX).past) (λk I=>by
    obtain⟨s,h1,h2⟩:=I;by_cases M:k=i
    .grind
    .obtain⟨s0,h3,rfl⟩:=a.other M h1;exact .inl ⟨s0,h3,h2⟩)
   simp_all[Nu]
def Inv.own(G:Z.Good)(h:Inv Z Q Stop base rs γ w t){i r r1}(hi:rs[i]?=some r)(u:¬Z.Left r.l)(g:Row rs c3 i r1 f)(l:r1.X.w=w1)(hk:lU Z r.X.mine w w1)(z:r1.X.mine=grown r.X.mine w w1)(D:Z.qu bu ((rs.map (·.l)).set i r1.l))(p:Z.uy bu w1){k}(E:∀j s,j≠i->c3[j]?=some s->uA Z Q Stop (j==0) bu (Deaf k j) s)(F:uA Z Q Stop (i==0) bu (Deaf k i) r1)(ht:∃aX,(∀j s,c3[j]?=some s->(Z.tok s.l=true↔aX=some j))/\eH (jp Z base c3 w1.heap.size aX) k):Inv Z Q Stop base c3 bu w1 k:=by
 have q:∀b,r1.X.mine b->r.X.mine b\/(w.heap.size<=b/\b<w1.heap.size):=λb c=>by rw[z]at c;exact c
 obtain⟨y,x,v,_⟩:=h.parts G hi g hk q;obtain⟨B,A⟩:=h.kept G hi hk;refine⟨λj s a=>?_,by rw[g.ls];grind,p,λj s a=>?_,y,x,v,λj s a h0 c=>?_,ht,by rw[g.len];grind⟩
 .by_cases e:j=i
  .subst e;rw[g.at_]at a;grind
  grind
 .by_cases e:j=i
  .subst e;rw[g.at_]at a;cases a;subst l;exact⟨⟨λ_ _=>Y,vac _,Y⟩,.refl _,Y,Y⟩
  .obtain⟨s0,h3,rfl⟩:=g.other e a;obtain⟨m,o,n,C⟩:=h.rely j s0 h3;refine⟨⟨λb c=>?_,vad m.size hk.size,?_⟩,o.trans hk.os,hk.output.trans n,hk.tape.trans C⟩
   .rw[<-m.heap b c];grind
   .rw[<-m.env];obtain⟨d,hd⟩:=hk.os;rw[hd]
 .by_cases e:j=i
  .subst e;exact absurd (h.old j r hi h0 c).1 u
  .obtain⟨s0,h3,rfl⟩:=g.other e a;exact h.old j s0 h3 h0 c
theorem anY(w1:aR):∀{x:uaj},x.offers=none->x.status=.running->({x with status:=.blocked}:uaj).again w1=x:=by rintro⟨a,b,c,d,e⟩ h1 h2;grind[Goroutine.again]
theorem uA.woken{m:Bool}{d:Nat}{s:cN Z}(G:Z.Good)(h:uA Z Q Stop m γ d s){w1:aR}(hrun:g1.status=.running)(c:Z.ey s.l γ bu)(l:mayWake Q g=true\/(Z.oX s.l γ->Z.oX s.l bu)):
 uA Z Q Stop m bu d {s with g:=woken Q g g1 w1 s.g}:=by
 have n:(mayWake Q g&&g1.status != .blocked&&g1.status != .waiting)=mayWake Q g:=AA;cases h with
 |runs hg b ht hn hd h0 a=>
  have e:Go.Conc.woken Q g g1 w1 s.g=s.g:=by grind[Go.Conc.woken,again_running]
  rw[e];exact .runs hg b (ht.ln G c) hn hd h0 a
 |waits hg b j ht hn f hd h0 a=>
  cases k:mayWake Q g with
  |true=>
   have e:Go.Conc.woken Q g g1 w1 s.g=s.X.g:=by grind[Go.Conc.woken,anY]
   rw[e];exact .runs Y b (ht.ln G c) (λ_=>hn) hd h0 a
  |false=>
   have e:Go.Conc.woken Q g g1 w1 s.g=s.g:=by grind[Go.Conc.woken]
   rw[e];exact .waits hg b j (ht.ln G c) hn AA hd h0 a
 |leaves i hq a hs=>rw[woken_quitsD hq];exact .leaves i hq a hs
end
end
section
section
variable{Z:fz}{Q:cE}{Stop:Bool->Z.Lo->a0->Prop}{base:Nat}{rs c3:List (cN Z)}{γ bu:Z.aQ}{w w1:aR}{t:Trace}
def anZ{e}(h:e.mute=true):∃m,(MemAct.ofEvent e)=.mark m/\A3 m:=by
 obtain⟨loc,wr,a⟩:=e;cases loc<;>simp_all[Event.mute]
 grind[MemAct.ofEvent,A3]
theorem eH.mute{p:kG}{i:Nat}(hi:i<p.n)(fn:uak)(pos:String):∀(l:ubk){t:Trace},eH p t->(∀e∈l,e.mute=true)->eH p (t++MemOp.ofEvents i fn pos l.toArray)
 | [],t,h,_=>by grind[ofEvents_eq]
 |e::l,t,h,b=>by
  obtain⟨m,h1,h2⟩:=anZ (b e AS);have:=eH.mute hi fn pos l (h.word (y:={g:=i,fn,pos,act:=.ofEvent e}) hi (by rw[h1];cases m<;>simp[A3]at h2<;>rfl) (λa=>by rw[h1];cases m<;>simp[A3]at h2<;>simp)) AA
  rw[ofEvents_eq]at this⊢;have e1:t++#[({g:=i,fn,pos,act:=.ofEvent e}:MemOp)]++Array.map (λe=>({g:=i,fn,pos,act:=.ofEvent e}:MemOp)) l.toArray=t++Array.map (λe=>({g:=i,fn,pos,act:=.ofEvent e}:MemOp)) (e::l).toArray:=by apply Array.ext';simp
  rw[e1]at this;exact this
def uB(rs:List (cN Z))(γ:Z.aQ):List (Bool×Z.Lo×Z.aQ×a0):=rs.mapIdx λj r=>(j==0,r.l,γ,r.X)
def Nw(rs:List (cN Z)):Nat:=(rs.map (·.n)).sum
def yV(g:uaj):Nat:=match g.status with| .running=>1| _=>0
def je(rs:List (cN Z)):Nat:=(rs.map λr=>yV r.g).sum
def meas(rs:List (cN Z))(γ:Z.aQ):Nat×List (Bool×Z.Lo×Z.aQ×a0)×Nat×Nat:=(Z.a7 γ,uB rs γ,Nw rs,je rs)
theorem G0:∀(l:uac)i x(h:i<l.length),(l.set i x).sum+l[i]=l.sum+x
 |a::l,0,x,_=>AA
 |a::l,i+1,x,h=>by have:=G0 l i x Dt;simp;omega
theorem G1(rs:List (cN Z))(γ:Z.aQ)j:(uB rs γ)[j]?=(rs[j]?).map λr=>(j==0,r.l,γ,r.X):=by simp[uB]
def aaM{i r1}(h:Row rs c3 i r1 f)γ:uB c3 γ=(uB rs γ).set i (i==0,r1.l,γ,r1.X):=by
 apply vbw;intro j;by_cases b:j=i
 .subst b;have a:j<(uB rs γ).length:=by obtain⟨x,_⟩:=vab.1 h.at_;simp[uB,<-h.len,x]
  rw[G1,h.at_,vck a];rfl
 .rw[vbg (Ne.symm b),G1,G1,h.ln j b,Option.map_map];rfl
def Inv.an0(G:Z.Good)(h:Inv Z Q Stop base rs γ w t):Acc (yT (Nr Z Q Stop)) (uB rs γ):=by refine anD _ λx c=>?_;obtain⟨j,a⟩:=List.mem_iff_getElem?.1 c;rw[G1]at a;obtain⟨r,h1,rfl⟩:=vai.1 a;cases h.sits j r h1 with|runs _ _ ht _ _ _ _=>exact ht.acc G|waits _ _ _ ht _ _ _ _ _=>exact ht.acc G|leaves d hq e hs=>exact⟨_,λy b=>absurd hs b.1⟩
def Tr(a:∀l X,Stop false l X->Z.Left l/\∃n,QuitsD Q n (Z.deaf l) X.g){m l1 xD}(b:xD.g.status=.running)(ht:bc Z Q Stop m l1 bu xD)(c:Z.Left l1->m=false/\Stop m l1 xD):∃n,uA Z Q Stop m bu (Z.deaf l1) ⟨xD.g,l1,xD,n⟩:=by
 by_cases hs:m=false/\Stop m l1 xD
 .obtain⟨rfl,hs⟩:=hs;obtain⟨h1,n,h2⟩:=a l1 xD hs;exact⟨n,.leaves Y h2 h1 hs⟩
 .exact⟨0,.runs Y b ht AA Y Y AA⟩
def an1{i r}(hi:rs[i]?=some r)(b:Z.qu γ (rs.map (·.l))){l1}(a:C4 Z r.l γ l1 bu):Z.qu bu ((rs.map (·.l)).set i l1)/\∀j s,j≠i->rs[j]?=some s->Z.ey s.l γ bu:=by obtain⟨h1,h2⟩:=a.2 (rs.map (·.l)) i AA b;exact⟨h1,λj s c hs=>h2 j s.l c AA⟩
theorem C_ rs(j:Nat):(kW Z rs)[j]?=(rs[j]?).map (·.g):=by simp[kW]
def Ts(Z:fz)(Stop:Bool->Z.Lo->a0->Prop)(rs:List (cN Z)):Prop:=∃r,rs[0]?=some r/\Stop true r.l r.X/\r.g=r.X.g
theorem Inv.at(h:Inv Z Q Stop base rs γ w t)(G:Z.Good)d:Inv Z Q Stop base rs γ (w.at d) t:=
 ⟨h.sits,h.uv,G.mt γ w (w.at d) (λ_ _=>Y) h.mt,λj r a=>⟨me.at (h.rely j r a).1 d,(h.rely j r a).2⟩,h.sh,h.apart,h.low,h.old,h.aX,h.Ns⟩
def Inv.goes(G:Z.Good)(e:∀l X,Stop false l X->Z.Left l/\∃n,QuitsD Q n (Z.deaf l) X.g)(h:Inv Z Q Stop base rs γ w t){i:Nat}{r:cN Z}(hi:rs[i]?=some r)(c:¬Z.Left r.l)(hd:Deaf t i=Z.deaf r.l){l1:Z.Lo}(hk:lU Z r.X.mine w w1)(f:Z.uy bu w1)(b:Z.qu bu ((rs.map (·.l)).set i l1))(B:∀(j:Nat)(s:cN Z),j≠i->rs[j]?=some s->Z.ey s.l γ bu)(hrun:g1.status=.running)(x:Says Z r.l l1 (grown r.X.mine w w1) es)(z:mayWake Q r.g=true\/∀l,Z.oX l γ->Z.oX l bu)(ht:bc Z Q Stop (i==0) l1 bu ⟨g1,w1,grown r.X.mine w w1⟩)(o:Z.Left l1->(i==0)=false/\Stop (i==0) l1 ⟨g1,w1,grown r.X.mine w w1⟩)(fn:uak)(pos:String):
 ∃c3,kW Z c3=((kW Z rs).map (woken Q r.g g1 w1)).setIfInBounds i g1/\Inv Z Q Stop base c3 bu w1 (t++MemOp.ofEvents i fn pos es)/\uB c3 γ=(uB rs γ).set i (i==0,l1,γ,⟨g1,w1,grown r.X.mine w w1⟩):=by
 obtain⟨n,u⟩:=Tr e (m:=i==0) (l1:=l1) (xD:=⟨g1,w1,grown r.X.mine w w1⟩) hrun ht o;let r1:cN Z:=⟨g1,l1,⟨g1,w1,grown r.X.mine w w1⟩,n⟩
 have a:=Nt rs hi r1 (woken Q r.g g1 w1);have C:i<rs.length:=(vab.1 hi).1;obtain⟨g,A⟩:=h.says (r1:=r1) (es:=es) G hi c a hk Y hd (λ_ h1 k s y q v=>y (G.one bu _ k i s.l l1 b AA AA v h1)) x fn pos;refine⟨_,Tq rs i r1 _,h.own (r1:=r1) G hi c a Y hk Y b f (λj s d hs=>?_) AA g,aaM a γ⟩;obtain⟨s0,h3,rfl⟩:=a.other d hs;rw[Deaf_other t (g':=i) (Ne.symm d) _ (λop p=>by grind[ofEvents_eq])];exact(h.sits j s0 h3).woken G hrun AA AA
end
end
section
section
variable{Z:fz}{Q:cE}{Stop:Bool->Z.Lo->a0->Prop}{base:Nat}{rs c3:List (cN Z)}{γ bu:Z.aQ}{w w1:aR}{t:Trace}
def an3{i r r1}(hi:rs[i]?=some r)(h:Row rs c3 i r1 f)(d:r1.l=r.l)(e:r1.X=r.X){size aX}(c:eH (jp Z base rs size aX) t):eH (jp Z base c3 size aX) t:=by
 refine c.conv h.len Y JR Y ?_ Y Y Y Y Y ?_
 .rintro j b ⟨s,h1,h2⟩;by_cases a:j=i
  .subst a;rw[h.at_]at h1;cases h1;exact .inl ⟨r,hi,AA⟩
  .obtain⟨s0,h3,rfl⟩:=h.other a h1;exact .inl ⟨s0,h3,h2⟩
 .rintro j ⟨s,h1,h2⟩;by_cases a:j=i
  .subst a;rw[h.at_]at h1;cases h1;exact⟨r,hi,AA⟩
  .obtain⟨s0,h3,rfl⟩:=h.other a h1;exact⟨s0,h3,h2⟩
def Inv.record(h:Inv Z Q Stop base rs γ w t){i r r1}(hi:rs[i]?=some r)(b:Row rs c3 i r1 f)(m:r1.l=r.l)(o:r1.X=r.X){c}(p:∀j s,j≠i->c3[j]?=some s->uA Z Q Stop (j==0) γ (Deaf c j) s)(q:uA Z Q Stop (i==0) γ (Deaf c i) r1)(n:∀size aX,eH (jp Z base rs size aX) t->eH (jp Z base rs size aX) c):Inv Z Q Stop base c3 γ w c:=by
 have u:i<rs.length:=(vab.1 hi).1;have back:∀(j:Nat)(s:cN Z),c3[j]?=some s->∃s0,rs[j]?=some s0/\s.l=s0.l/\s.X=s0.X:=by
  intro j s a;by_cases d:j=i
  .subst d;rw[b.at_]at a;grind
  .obtain⟨s0,h3,rfl⟩:=b.other d a;grind
 refine⟨λj s a=>?_,?_,h.mt,λj s a=>?_,λj s a=>?_,λj k s s' a hk e=>?_,h.low,λj s a=>?_,?_,by rw[b.len];grind⟩
 .by_cases d:j=i
  .subst d;rw[b.at_]at a;grind
  grind
 .have:(rs.map (·.l)).set i r1.l=rs.map (·.l):=by apply vbw;grind
  rw[b.ls,this];exact h.uv
 .obtain⟨s0,h1,_,h3⟩:=back j s a;rw[h3];exact h.rely j s0 h1
 .obtain⟨s0,h1,_,h3⟩:=back j s a;rw[h3];exact h.sh j s0 h1
 .obtain⟨s0,h1,_,h3⟩:=back j s a;obtain⟨jJ,l,_,g⟩:=back k s' hk;rw[h3,g];exact h.apart j k s0 jJ h1 l e
 .obtain⟨s0,h1,h2,h3⟩:=back j s a;rw[h2,h3];exact h.old j s0 h1
 .obtain⟨aX,h1,h2⟩:=h.aX;refine⟨aX,λj s a=>?_,an3 hi b m o (n _ _ h2)⟩;grind
def aaN{i r r1}(hi:rs[i]?=some r)(h:Row rs c3 i r1 f):Nw c3+r.n=Nw rs+r1.n:=by
 obtain⟨c,b⟩:=vab.1 hi;have e:c3.map (·.n)=(rs.map (·.n)).set i r1.n:=by
  apply vbw;intro j;by_cases a:j=i
  .subst a;rw[vck AA,vbf,h.at_];rfl
  .rw[vbg (Ne.symm a),vbf,vbf,h.ln j a,Option.map_map];rfl
 grind[G0,Nw]
def an5{i r r1}(hi:rs[i]?=some r)(h:Row rs c3 i r1 id):je c3+yV r.g=je rs+yV r1.g:=by
 obtain⟨c,b⟩:=vab.1 hi;have e:(c3.map λr=>yV r.g)=(rs.map λr=>yV r.g).set i (yV r1.g):=by
  apply vbw;intro j;by_cases a:j=i
  .subst a;rw[vck AA,vbf,h.at_];rfl
  .rw[vbg (Ne.symm a),vbf,vbf,h.ln j a,Option.map_map];rfl
 grind[G0,je]
def aaO{i r r1}(hi:rs[i]?=some r)(h:Row rs c3 i r1 f)(a:r1.l=r.l)(c:r1.X=r.X):uB c3 γ=uB rs γ:=by
 rw[aaM h γ];apply vbw;intro j;by_cases b:j=i
 .grind[G1]
 grind
def an6(h:g1.status=.blocked)(w1:aR):woken Q g g1 w1=id:=by grind[woken]
def aaP{i:Nat}{fn:uak}{pos:String}:∀op∈MemOp.ofEvents i fn pos es,op.g=i:=λop a=>by grind[ofEvents_eq]
theorem uA.ln{m d s}(G:Z.Good)(h:uA Z Q Stop m γ d s)(e:Z.ey s.l γ bu)(f:Z.oX s.l γ->Z.oX s.l bu):uA Z Q Stop m bu d s:=by cases h with|runs hg c ht hn hd h0 a=>exact .runs hg c (ht.ln G e) hn hd h0 a|waits hg c i ht hn b hd h0 a=>exact .waits hg c i (ht.ln G e) hn (f b) hd h0 a|leaves g hq a hs=>exact .leaves g hq a hs
def Inv.an7(G:Z.Good)(E:∀l X,Stop false l X->Z.Left l/\∃n,QuitsD Q n (Z.deaf l) X.g)(h:Inv Z Q Stop base rs γ w t)(xn:base<=rs.length){r:cN Z}(hi:rs[0]?=some r)(P:¬Z.Left r.l)(hd:Deaf t 0=Z.deaf r.l){l1 lc:Z.Lo}{child:uaj}(a:To Z r.l γ r.X w g1 child w1 es l1 bu lc)(ht:bc Z Q Stop true l1 bu ⟨g1,w1,grown r.X.mine w w1⟩)(R:bc Z Q Stop false lc bu ⟨child,w1,λ_=>False⟩)(fn p:uak)(pos pos':String):
 ∃c3,kW Z c3=((kW Z rs).setIfInBounds 0 g1).push child/\Inv Z Q Stop base c3 bu w1 (t++((MemOp.ofEvents 0 fn pos es).push {g:=0,fn,pos,act:=.go rs.length} |>.push {g:=rs.length,fn:=p,pos:=pos',act:=.start})):=by
 obtain⟨n,an2⟩:=Tr E (m:=true) (l1:=l1) (xD:=⟨g1,w1,grown r.X.mine w w1⟩) a.run ht (λh=>absurd h a.stays.1);obtain⟨W,C⟩:=Tr E (m:=false) (l1:=lc) (xD:=⟨child,w1,λ_=>False⟩) a.aaH R (λh=>absurd h a.stays.2);let r1:cN Z:=⟨g1,l1,⟨g1,w1,grown r.X.mine w w1⟩,n⟩
 let rc:cN Z:=⟨child,lc,⟨child,w1,λ_=>False⟩,W⟩
 have o:=Nt rs hi r1 id;have G2:(rs.map λs=>{s with g:=id s.g})=rs:=by simp_all
 rw[G2]at o;have JW:Says Z r.l l1 (grown r.X.mine w w1) es:=.inl ⟨a.tok.1,a.past.1,by rw[a.deaf.1,a.deaf.2.1,a.deaf.2.2.1],by rw[a.deaf.1];exact a.evs⟩;obtain⟨⟨aX,Nv,v⟩,J⟩:=h.says (r1:=r1) (es:=es) G hi P o a.keep Y hd (λh0 h1 _ _ _ _ _=>by rw[show r1.l=l1 from Y,a.tok.1,h0]at h1;cases h1) JW fn pos;have O:∀b,r1.X.mine b->r.X.mine b\/(w.heap.size<=b/\b<w1.heap.size):=λb a=>a;obtain⟨U,T,S,_⟩:=h.parts G hi o a.keep O;obtain⟨anW,anX⟩:=h.kept G hi a.keep;obtain⟨nN,M⟩:=a.A6 (rs.map (·.l)) AA h.uv;have hlen:(rs.set 0 r1).length=rs.length:=AS;generalize B:rs.set 0 r1=z at o v Nv U T hlen;have cT:∀(j:Nat)(s:cN Z),(z++[rc])[j]?=some s->(j<rs.length/\z[j]?=some s)\/(j=rs.length/\s=rc):=by grind[List.getElem?_append_right]
 have e1:t++((MemOp.ofEvents 0 fn pos es).push {g:=0,fn,pos,act:=.go rs.length} |>.push {g:=rs.length,fn:=p,pos:=pos',act:=.start})=(t++MemOp.ofEvents 0 fn pos es)++#[({g:=0,fn,pos,act:=.go rs.length}:MemOp),{g:=rs.length,fn:=p,pos:=pos',act:=.start}]:=by apply Array.ext';simp
 rw[e1];generalize F:#[({g:=0,fn,pos,act:=.go rs.length}:MemOp),{g:=rs.length,fn:=p,pos:=pos',act:=.start}]=u;have A:∀j,Deaf ((t++MemOp.ofEvents 0 fn pos es)++u) j=Deaf (t++MemOp.ofEvents 0 fn pos es) j:=λj=>by have:=Deaf_append (t++MemOp.ofEvents 0 fn pos es) j u.toList;rw[Array.toArray_toList]at this;rw[this,<-F];rfl
 have JX:Deaf (t++MemOp.ofEvents 0 fn pos es) rs.length=0:=Deaf_absent λi op hi e=>by have:=v.gs i op hi;grind[jp]
 refine⟨z++[rc],?_,⟨λj s f=>?_,?_,a.mt,λj s f=>?_,λj s f=>?_,λj k s s' f hk N b Yr aHt=>?_,S,λj s f h0 Da=>?_,?_,AS⟩⟩
 .rw[<-B];unfold kW;rw[List.setIfInBounds_toArray,List.push_toArray,vda,List.map_set];rfl
 .rw[A];rcases cT j s f with⟨q,c⟩|⟨rfl,rfl⟩
  .by_cases h0:j=0
   .grind
   .obtain⟨s0,h3,rfl⟩:=o.other h0 c;rw[Deaf_other t (g':=0) (Ne.symm h0) _ aaP];exact(h.sits j s0 h3).ln G (M j s0.l h0 AA) (a.JU s0.l)
  .rw[JX];have:(rs.length==0)=false:=by grind
   rw[this];have I:=C;rw[a.deaf.2.2.2]at I;exact I
 .rw[vda,o.ls];grind
 .rcases cT j s f with⟨q,c⟩|⟨rfl,rfl⟩
  .by_cases h0:j=0
   .subst h0;rw[o.at_]at c;cases c;exact⟨⟨λ_ _=>Y,vac _,Y⟩,.refl _,Y,Y⟩
   .obtain⟨s0,h3,rfl⟩:=o.other h0 c;obtain⟨D,L,K,C9⟩:=h.rely j s0 h3;refine⟨⟨λb V=>?_,vad D.size a.keep.size,?_⟩,L.trans a.keep.os,a.keep.output.trans K,a.keep.tape.trans C9⟩
    .rw[<-D.heap b V];grind
    .rw[<-D.env];obtain⟨d,hd⟩:=a.keep.os;rw[hd]
  .exact⟨⟨λ_ _=>Y,vac _,Y⟩,.refl _,Y,Y⟩
 .grind
 .grind
 .rcases cT j s f with⟨q,c⟩|⟨rfl,rfl⟩
  .obtain⟨s0,h3,rfl⟩:=o.other h0 c;exact h.old j s0 h3 h0 Da
  .omega
 .have Nz:Deaf (t++MemOp.ofEvents 0 fn pos es) 0=0:=by rw[J];exact a.deaf.2.2.1
  have aHu:(jp Z base z w1.heap.size aX).n=rs.length:=hlen;have H:=v.anO (x:={g:=0,fn,pos,act:=.go rs.length}) (y:={g:=rs.length,fn:=p,pos:=pos',act:=.start}) AA AA Nz AA
   (λb⟨s,h1,_⟩=>AA)
  rw[F]at H;refine⟨aX,λj s f=>?_,H.conv (by simp[jp]) Y JR Y ?_ Y Y Y Y Y ?_⟩
  .rcases cT j s f with⟨_,c⟩|⟨rfl,rfl⟩
   .grind
   .rw[show rc.l=lc from Y,a.tok.2];refine⟨AA,λe=>?_⟩;have:=(v.uw _ e).1.1;grind
  .rintro j b ⟨s,h1,h2⟩;rcases cT j s h1 with⟨_,c⟩|⟨rfl,rfl⟩
   .exact .inl ⟨s,c,h2⟩
   grind
  .rintro j ⟨s,h1,h2⟩;rcases cT j s h1 with⟨_,c⟩|⟨rfl,rfl⟩
   .exact⟨s,c,h2⟩
   .rw[show rc.l=lc from Y,a.past.2]at h2;cases h2
end
end
section
section
variable{Z:fz}{Q:cE}{Stop:Bool->Z.Lo->a0->Prop}{base:Nat}{rs c3:List (cN Z)}{γ bu:Z.aQ}{w w1:aR}{t:Trace}
def aoa{n d}(h:QuitsD Q n d g):awake g:=λx e=>by rcases h.status with h|h<;>rw[h]at e<;>cases e
theorem Inv.awake(h:Inv Z Q Stop base rs γ w t):∀g∈kW Z rs,awake g:=by intro g hg;obtain⟨j,a⟩:=Array.mem_iff_getElem?.1 hg;rw[C_]at a;obtain⟨r,h1,rfl⟩:=vai.1 a;cases h.sits j r h1 with|runs hg b _ _ _ _ _=>intro x e;grind|waits hg _ _ _ _ _ _ _ _=>intro x e;grind|leaves _ hq _ _=>exact aoa hq
def Inv.rel(h:Inv Z Q Stop base rs γ w t){j:Nat}{r:cN Z}(a:rs[j]?=some r):ep Z r.l γ r.X w:=
 let⟨h1,h2,h3,h4⟩:=h.rely j r a
 ⟨h1,h.mt,⟨rs.map (·.l),j,AA,h.uv⟩,h2,h3,h4⟩
theorem Inv.step(G:Z.Good)(A:∀l X,Stop false l X->Z.Left l/\∃n,QuitsD Q n (Z.deaf l) X.g)(h:Inv Z Q Stop base rs γ w t)(O:base<=rs.length)(sl:ubb):
 Ts Z Stop rs\/∃c3 N w' sl' ops,stepT Q (crowd (kW Z rs) w sl)=(.next (crowd (kW Z c3) w' sl'),ops)/\C6 (Nr Z Q Stop) (meas c3 N) (meas rs γ)/\Inv Z Q Stop base c3 N w' (t++ops)/\base<=c3.length:=by
 by_cases D:Ts Z Stop rs
 .grind
 refine .inr ?_;obtain⟨j,l,M,aHw,aHx⟩:=G.q1 γ _ h.uv;rw[vbf]at M;obtain⟨I,Tu,rfl⟩:=vai.1 M;have H:I.g.status=.running:=by cases h.sits j I Tu with|runs hg B _ _ _ _ _=>grind|waits _ _ _ _ _ y _ _ _=>grind|leaves _ _ c _=>grind
 obtain⟨i,g,d,sl',hi,aHy,hst⟩:=crowd_pick (P:=Q) (w:=w) (sl:=sl) h.awake ⟨j,I.g,by grind[C_],H⟩;rw[C_]at hi;obtain⟨r,a,rfl⟩:=vai.1 hi;have Gw:i<rs.length:=(vab.1 a).1;have f:=h.at G d;rw[hst];have J:(kW Z rs)[i]?=some r.g:=by grind[C_]
 have aHz:yV r.g=1:=by grind[yV]
 cases h.sits i r a with
 |runs hg B ht hn hd h0 c=>
  rcases ht.next with hs|⟨_,di⟩
  .exfalso;rcases vbq i with e|e
   .subst e;exact D ⟨r,a,hs,hg⟩
   grind
  .cases di (w.at d) γ (G.refl _ _) (f.rel a)with
   |quiet q hq u=>
    rename_i g1 w1 es;rw[<-hg]at q;have T:Z.uy γ w1:=by refine G.mt γ (w.at d) w1 (λb v=>?_) f.mt;exact hq.sh b (f.low b (.inr v)) v
    have JW:Says Z r.l r.l (grown r.X.mine (w.at d) w1) es:=by
     refine .inl ⟨Y,Y,?_,hq.evs⟩;have:∀(l:ubk)(d:Nat),(∀e∈l,¬xC Z e)->deafBehind d l.toArray=d:=by intro l;induction l with|nil=>intro d _;rfl|cons e l W=>intro d c;have he:=c e AS;have h1:=W d (λe' f=>c e' AA);grind[deafBehind,xC]
     exact(this es.toList (Z.deaf r.l) (λe he y=>hq.low (.inl AA))).symm
    have F:(rs.map (·.l)).set i r.l=rs.map (·.l):=by apply vbw;grind
    obtain⟨c3,e1,e2,e3⟩:=f.goes G A a c hd hq.keep T (by rw[F];exact h.uv) (λ_ s _ _=>G.refl _ _) hq.run JW AA u AA r.g.frame.fn r.g.frame.place;refine⟨c3,γ,w1,sl',_,by grind[runT_crowd_go],?_,e2,?_⟩
    .refine .inr ⟨Y,.inl ⟨⟨i,(i==0,r.l,γ,r.X),(i==0,r.l,γ,⟨g1,w1,grown r.X.mine (w.at d) w1⟩),by grind[meas,G1],?_,e3⟩,h.an0 G⟩⟩;refine⟨?_,Y,Y,Y,w.at d,g1,w1,es,f.rel a,AA,hq.run,hq.low,Y⟩;intro hs;rcases vbq i with e|e
     .subst e;exact D ⟨r,a,hs,hg⟩
     grind
    .have:=vcd Array.size e1;grind[kW]
   |turn q hq iL u=>rename_i g1 w1 es l1 bu;obtain⟨V,U⟩:=an1 a f.uv hq.A6;obtain⟨c3,e1,e2,e3⟩:=f.goes G A a c hd hq.keep hq.mt V U hq.run hq.says (by rw[hg];exact hq.JU) u iL r.g.frame.fn r.g.frame.place;rw[<-hg]at q;refine⟨c3,bu,w1,sl',_,by grind[runT_crowd_go],.inl hq.A6.1,e2,?_⟩;have:=vcd Array.size e1;grind[kW]
   |wait q K y _=>
    rw[<-hg]at q;let r1:cN Z:={r with g:={r.X.g with status:=.blocked}}
    have m:=Nt rs a r1 id;have R:¬Stop (i==0) r.l r.X:=by
     intro hs;rcases vbq i with e|e
     .subst e;exact D ⟨r,a,hs,hg⟩
     grind
    refine⟨_,γ,w.at d,sl',_,by rw[runT_crowd_go J q,an6 (by rw[hg]),Tq rs i r1 id,hg],?_,?_,?_⟩
    .refine .inr ⟨Y,.inr ⟨aaO a m Y Y,.inr ⟨?_,?_⟩⟩⟩
     .have:=aaN a m;simp only[meas];grind
     .have:=an5 a m;simp only[meas];have e:yV r1.g=0:=rfl;omega
    .have e0:∀fn pos,MemOp.ofEvents i fn pos #[]=#[]:=λ_ _=>by rw[ofEvents_eq];simp
     rw[e0,Array.append_empty];refine f.record a m Y Y (λk s hk hs=>?_) (.waits Y B K ht R y hd h0 c) (λ_ _ x=>x);obtain⟨s0,h3,rfl⟩:=m.other hk hs;exact h.sits k s0 h3
    grind
   |born L q v u hc=>rename_i g1 child w1 es l1 bu lc;have e0:i=0:=AA;subst e0;rw[<-hg]at q;obtain⟨c3,e1,e2⟩:=f.an7 G A O a c hd v u hc r.g.frame.fn child.frame.fn r.g.frame.place r.g.frame.place;refine⟨c3,bu,w1,sl',_,by grind[runT_crowd_spawn,kW],.inl v.a7,e2,?_⟩;have:=vcd Array.size e1;grind[kW]
 |waits hg B K ht hn y hd h0 c=>grind
 |leaves L hq c hs=>
  obtain⟨g,l,X,n⟩:=r;cases n with
  |zero=>have:=hq.1;grind
  |succ n=>
   rcases hq with⟨hf,_⟩|⟨_,g',es,aHA,q,C⟩
   .grind
   .let r1:cN Z:=⟨g',l,X,n⟩
    have E:stepG Q (i==0) g (w.at d)=.go g' (w.at d) es:=AA;have m:=Nt rs a r1 (woken Q g g' (w.at d));have oe:i≠0:=AA;refine⟨_,γ,w.at d,sl',_,by rw[runT_crowd_go J E,Tq rs i r1],?_,?_,?_⟩
    .refine .inr ⟨Y,.inr ⟨aaO a m Y Y,.inl ?_⟩⟩;have:=aaN a m;simp only[meas];grind
    .refine f.record a m Y Y (λk s hk S=>?_) (.leaves L (by grind[Deaf_own]) c hs) (λsize aX hT=>?_)
     .obtain⟨s0,h3,rfl⟩:=m.other hk S;rw[Deaf_other t (g':=i) (Ne.symm hk) _ aaP];have z:g'.status=.running\/g'.status=.finished:=C.status;have key:=h.sits k s0 h3;rcases z with z|z
      .exact key.woken G z (G.refl _ _) (.inr id)
      .have eqv:∀o,woken Q g g' (w.at d) o=woken Q g {g' with status:=.running} (w.at d) o:=λo=>by grind[woken]
       rw[eqv];exact key.woken G (g1:={g' with status:=.running}) Y (G.refl _ _) (.inr id)
     .have:=eH.mute (p:=jp Z base rs size aX) (i:=i) Gw g.frame.fn g.frame.place es.toList hT AA;omega
    grind
def phase(G:Z.Good)(c:∀l X,Stop false l X->Z.Left l/\∃n,QuitsD Q n (Z.deaf l) X.g)(h:Inv Z Q Stop base rs γ w t)(f:base<=rs.length)(sl:ubb):
 vC Q (crowd (kW Z rs) w sl) t λd c7=>∃c3 b w' sl',d=crowd (kW Z c3) w' sl'/\Ts Z Stop c3/\Inv Z Q Stop base c3 b w' c7/\base<=c3.length:=by
 refine anQ (anR (Nr Z Q Stop)) (λa m t=>∃rs γ w sl,m=crowd (kW Z rs) w sl/\a=meas rs γ/\Inv Z Q Stop base rs γ w t/\base<=rs.length) _ ?_ (meas rs γ) _ _ AA;rintro a m t ⟨rs,γ,w,sl,rfl,rfl,hI,e⟩;rcases hI.step G c e sl with hs|⟨c3,b,w',sl',ops,h1,h2,h3,h4⟩
 .grind
 grind
end
end
section
section
variable{Z:fz}{Q:cE}{Stop:Bool->Z.Lo->a0->Prop}{m:Bool}{l:Z.Lo}{γ:Z.aQ}
theorem A7{mine}:∀(es:ubk)d,(∀e∈es,∀d,uz Z l mine d e)->pz Z l mine d es
 | [],_,_=>trivial
 |e::es,d,h=>⟨h e AS d,A7 es _ AA⟩
def rr(X:a0)(fr:dL):a0:=⟨X.g,X.w,λb=>X.mine b\/fr b⟩
