import Derived.Test.YtnkpmooengcinaaGreatPAA
set_option linter.all false
set_option maxRecDepth 100000
set_option maxHeartbeats 16000000
namespace Go.Proofs.YtnkpmooengcinaaGreat
def vaf:=@Go.Conc.Goes.stop
def vat:=@Go.Sem.runT_eq
def vau:=@Go.Conc.stepG_value
def vbl:=@Go.Conc.getElem?_append_cases
def vca:=@Go.Result.andThen_ok
def vcc:=@Go.Frame.finish_at
def vct:=@Go.Calls.mono
def vcv:=@Go.GStep.go.injEq
def vcz:=@Go.Conc.stepG_none
def vdm:=@Go.Conc.goes_go
def vdn:=@Go.Conc.stepG_region_end
def vdu:=@Go.Conc.stepG_seq
namespace av
inductive de{ao aN:Type}(R:ao->aN->Prop):List ao->List aN->Prop
 |nil:de R [] []
 |cons {a:ao} {b:aN} {l:List ao} {m:List aN} (h:R a b) (t:de R l m):de R (a::l) (b::m)
theorem de.mono{ao aN:Type}{R S:ao->aN->Prop}(d:∀a b,R a b->S a b){l:List ao}{m:List aN}(h:de R l m):de S l m:=by induction h with|nil=>exact .nil|cons h _ c=>exact .cons (d _ _ h) c
theorem de.append{ao aN:Type}{R:ao->aN->Prop}{l l2:List ao}{m a:List aN}(h:de R l m)(k:de R l2 a):de R (l++l2) (m++a):=by induction h with|nil=>exact k|cons h _ b=>exact .cons h b
theorem de.length{ao aN:Type}{R:ao->aN->Prop}{l:List ao}{m:List aN}(h:de R l m):l.length=m.length:=by induction h with|nil=>rfl|cons _ _ a=>grind
def de.A4{ρ:Ren}{a a':dC}(h:aL ρ a a'):de (ap ρ) a.toList a'.toList:=by obtain⟨l⟩:=a;obtain⟨m⟩:=a';simp only;induction l generalizing m with|nil=>have:=h.size;simp at this;have:m=[]:=List.length_eq_zero_iff.1 this.symm;subst this;exact .nil|cons x l c=>cases m with|nil=>have:=h.size;grind|cons y m=>refine .cons (h.get 0 x y Ab Ab) (c m ⟨by have:=h.size;grind,λi v v' a b=>h.get (i+1) v v' AN AN⟩)
def aL.OO{ρ:Ren}{l m:uam}(h:de (ap ρ) l m):aL ρ l.toArray m.toArray:=by induction h with|nil=>exact .nil ρ|@cons a b l m h _ c=>have e:∀(x:Value)(l:uam),(x::l).toArray=#[x]++l.toArray:=λx l=>Ab;grind[aL.one,append]
def OP:Builtin->Bool
 | .append| .cap| .copy| .len=>true
 | _=>false
inductive ug(ρ:Ren):Target->Target->Prop
 |fn {f f':Fn} {c c':dC} (h:sQ ρ f f') (k:aL ρ c c'):ug ρ (.fn f c) (.fn f' c')
 |nil:ug ρ .nil .nil
 |builtin (b:Builtin) (ats:uau) (t:uaa) (cs:uaw) (hb:OP b=true):ug ρ (.builtin b ats t cs) (.builtin b ats t cs)
 |collected {r r':Nat} (h:ρ.rel r r'):ug ρ (.collected r) (.collected r')
structure zy(ρ:Ren)(d d':Deferred):Prop where
 target:ug ρ d.target d'.target
 args:aL ρ d.args d'.args
theorem ug.mono{ρ σ:Ren}(c:Ren.le ρ σ){a a':Target}(h:ug ρ a a'):ug σ a a':=by cases h with|fn h k=>exact .fn (h.mono c) (k.mono c)|nil=>exact .nil|builtin b ats t cs d=>exact .builtin b ats t cs d|collected h=>exact .collected (c.1 _ _ h)
theorem zy.mono{ρ σ:Ren}(b:Ren.le ρ σ){a a':Deferred}(h:zy ρ a a'):zy σ a a':=⟨h.target.mono b,h.args.mono b⟩
abbrev qV(ρ:Ren):List Deferred->List Deferred->Prop:=de (zy ρ)
theorem qV.mono{ρ σ:Ren}(b:Ren.le ρ σ){a a':List Deferred}(h:qV ρ a a'):qV σ a a':=de.mono (λ_ _ x=>x.mono b) h
structure zz(ρ:Ren)(e e':MapEntry):Prop where
 key:ap ρ e.key e'.key
 val:ap ρ e.val e'.val
 born:e.born=e'.born
theorem zz.mono{ρ σ:Ren}(b:Ren.le ρ σ){a a':MapEntry}(h:zz ρ a a'):zz σ a a':=⟨h.key.mono b,h.val.mono b,h.born⟩
def wa(fr:ubo)(i:Nat):Prop:=fr.1<=i/\i<fr.2
def KN:Obj->Prop
 | .map .. | .stringIter .. | .mapIter .. | .loop _ | .deferred _ | .coro _ | .finalizers .. =>True
 | _=>False
structure cy where
 P:ck
 Q:ck
 fF:Code->Prop
 upd:Bool
structure Hi(C:cy)(ρ:Ren)(l l':Loop):Prop where
 state:l.state=l'.state
 pending:l.pending=l'.pending
 KO:∀c,l.pending=some c->C.fF c
 fn:l.fn=l'.fn
 known:∃fn c,C.P.funcs[l.fn]?=some fn/\fn.body=some c
 tmps:aL ρ l.tmps l'.tmps
 params:l.params=l'.params
 assign:l.assign=l'.assign
 Hj:C.fF l.assign
 body:l.body=l'.body
 Hk:C.fF l.body
 defers:ρ.rel l.defers l'.defers
theorem Hi.mono{C:cy}{ρ σ:Ren}(b:Ren.le ρ σ){a a':Loop}(h:Hi C ρ a a'):Hi C σ a a':=
 ⟨h.state,h.pending,h.KO,h.fn,h.known,h.tmps.mono b,h.params,h.assign,h.Hj,h.body,h.Hk,b.1 _ _ h.defers⟩
inductive g3(C:cy)(ρ:Ren):Obj->Obj->Prop
 |cells {c c':dC} (elem:uaa) {fr aO:ubo} (h:aL ρ c c') (hf:(∀i,wa aO i->wa fr i)/\(C.upd=true->aO=fr)):g3 C ρ (.cells c elem fr) (.cells c' elem aO)
 |map {es es':Array MapEntry} (clock:Nat) (h:de (zz ρ) es.toList es'.toList):g3 C ρ (.map es clock) (.map es' clock)
 |stringIter (s:ByteArray) (p:Nat):g3 C ρ (.stringIter s p) (.stringIter s p)
 |A5 (since:Nat) (seen:Array Nat) (st:Nat):g3 C ρ (.mapIter none since seen st) (.mapIter none since seen st)
 |mapIter {m m':Nat} (h:ρ.rel m m') (since:Nat) (seen:Array Nat) (st:Nat):g3 C ρ (.mapIter (some m) since seen st) (.mapIter (some m') since seen st)
 |loop {l l':Loop} (h:Hi C ρ l l'):g3 C ρ (.loop l) (.loop l')
 |deferred {l l':List Deferred} (h:qV ρ l l'):g3 C ρ (.deferred (some l)) (.deferred (some l'))
 |taken:g3 C ρ (.deferred none) (.deferred none)
 |number {a a':Addr} (h:dq ρ a a') (A6:Bool):g3 C ρ (.number a A6) (.number a' A6)
 |shut {o':Obj} (h:KN o'):g3 C ρ (.coro none) o'
theorem g3.mono{C:cy}{ρ σ:Ren}(d:Ren.le ρ σ){a a':Obj}(h:g3 C ρ a a'):g3 C σ a a':=by cases h with|cells e h f=>exact .cells e (h.mono d) f|map c h=>exact .map c (de.mono (λ_ _ x=>x.mono d) h)|stringIter s p=>exact .stringIter s p|A5 a b c=>exact .A5 a b c|mapIter h a b c=>exact .mapIter (d.1 _ _ h) a b c|loop h=>exact .loop (h.mono d)|deferred h=>exact .deferred (h.mono d)|taken=>exact .taken|number h l=>exact .number (h.mono d) l|shut h=>exact .shut h
structure Sync where
 a:Nat
 b:Nat
 bound:Nat
 T:Nat->Question->Nat
inductive Et:Obj->Prop
 |coro:Et (.coro none)
 |number (a:Addr) (l:Bool):Et (.number a l)
structure eo(C:cy)(S:Sync)(ρ:Ren)(w w':aH):Prop where
 obj:∀b b',ρ.rel b b'->∃o o',w.heap[b]?=some o/\w'.heap[b']?=some o'/\g3 C ρ o o'
 one:∀a b b',ρ.rel a b->ρ.rel a b'->b=b'
 inj:∀a a' b,ρ.rel a b->ρ.rel a' b->a=a'
 nc:∀g,g<=C.P.globals.size->ρ.rel g g
 sync:w.drawn+S.b=w'.drawn+S.a
 tape:∀j q,w'.drawn+j<S.bound->w.tape (w.drawn+j) q=w'.tape (w'.drawn+j) q
 env:w.os.env=w'.os.env
 lone:w.tape=S.T
 still:∀b b',ρ.rel b b'->¬ρ.mine b'->(C.upd=false/\∃c e fr,w.heap[b]?=some (.cells c e fr)/\∀i,i<c.size->wa fr i)\/∃o,w.heap[b]?=some o/\Et o
def wb(ρ:Ren)(e:Event):Prop:=
 match e.loc with
 | .cell a=>(∃b,ρ.rel b a.block)/\(e.write=true->ρ.mine a.block)/\e.sync=false
 | .obj r=>(∃b,ρ.rel b r)/\(e.write=true->ρ.mine r)/\e.sync=false
 | .mark .noRoom| .mark (.extern _)| .output=>True
 | _=>False
theorem wb.mono{ρ σ:Ren}(b:Ren.le ρ σ){e:Event}(h:wb ρ e):wb σ e:=by obtain⟨l,wr,c⟩:=e;unfold wb at h⊢;cases l with|cell a=>exact⟨h.1.imp λ_ x=>b.1 _ _ x,λx=>b.2 _ (h.2.1 x),h.2.2⟩|obj a=>exact⟨h.1.imp λ_ x=>b.1 _ _ x,λx=>b.2 _ (h.2.1 x),h.2.2⟩|mark m=>grind|output=>exact h|goroutines=>exact h
structure Grow(ρ σ:Ren)(w' li:aH):Prop where
 le:Ren.le ρ σ
 back:∀b,σ.mine b->ρ.mine b\/w'.heap.size<=b
 size:w'.heap.size<=li.heap.size
 low:∀b,σ.mine b->ρ.mine b\/b<li.heap.size
 old:∀a b,σ.rel a b->ρ.rel a b\/w'.heap.size<=b
 kept:∀b,b<w'.heap.size->¬ρ.mine b->li.heap[b]?=w'.heap[b]?
 os:li.os=w'.os
 output:li.output=w'.output
 tape:li.tape=w'.tape
 drawn:w'.drawn<=li.drawn
theorem Grow.refl(ρ:Ren)(w:aH):Grow ρ ρ w w:=⟨Ren.le_refl _,λ_ h=>.inl h,vad _,λ_ h=>.inl h,λ_ _ h=>.inl h,λ_ _ _=>U,U,U,U,vad _⟩
theorem Grow.trans{ρ σ aU:Ren}{w w1 w2:aH}(h:Grow ρ σ w w1)(k:Grow σ aU w1 w2):Grow ρ aU w w2:=
 ⟨Ren.le_trans h.le k.le,λb x=>(k.back b x).elim (λy=>h.back b y) (λy=>.inr (vac h.size y)),vac h.size k.size,
  λb x=>(k.low b x).elim (λy=>(h.low b y).imp id λz=>van z k.size) .inr,
  λa b x=>(k.old a b x).elim (λy=>h.old a b y) (λy=>.inr (vac h.size y)),
  λb c d=>by rw[k.kept b (van c h.size) (λy=>(h.back b y).elim d (λz=>absurd c (Nat.not_lt.2 z)))];exact h.kept b c d,
  k.os.trans h.os,k.output.trans h.output,k.tape.trans h.tape,vac h.drawn k.drawn⟩
inductive xg{ao aN:Type}(C:cy)(S:Sync)(ρ:Ren)(R:Ren->ao->aN->Prop):Result ao->Result aN->aH->Prop
 |ok {a:ao} {b:aN} {w w':aH} (h:R ρ a b) (hw:eo C S ρ w w'):xg C S ρ R (.ok a w) (.ok b w') w'
 |panic {v v':Value} {w w':aH} (h:ap ρ v v') (hw:eo C S ρ w w'):xg C S ρ R (.halt (.panic v) w) (.halt (.panic v') w') w'
 |goexit {w w':aH} (hw:eo C S ρ w w'):xg C S ρ R (.halt .goexit w) (.halt .goexit w') w'
def Good{ao:Type}:Result ao->Prop
 | .ok _ _=>True
 | .halt (.panic _) _ | .halt .goexit _ | .halt (.unsupported (.initOrder _)) _=>True
 | _=>False
def al{ao aN:Type}(C:cy)(ρ:Ren)(R:Ren->ao->aN->Prop)(m:Sem ao)(m':Sem aN):Prop:=
 ∀(S:Sync)(w w':aH),eo C S ρ w w'->Good (m.run C.P w)->(kU (m'.run C.Q w')).drawn<=S.bound->
  ∃(σ:Ren)(w1:aH),xg C S σ R (m.run C.P w) (m'.run C.Q w') w1/\Grow ρ σ w' w1/\
   ∀es,∃d,m'.events C.Q w' es=es++d/\∀e∈d,wb σ e
def pg{ao aN:Type}(R:Ren->ao->aN->Prop):Prop:=∀ρ σ a b,Ren.le ρ σ->R ρ a b->R σ a b
variable{v v':Value}
section
variable{ao aN γ Hl:Type}{C:cy}{ρ:Ren}
theorem al.pure{R:Ren->ao->aN->Prop}{a:ao}{b:aN}(h:R ρ a b):al C ρ R (Pure.pure a) (Pure.pure b):=by intro S w w' c _ _;exact⟨ρ,w',.ok h c,.refl _ _,λes=>⟨#[],by simp[Sem.events,Pure.pure,Sem.runT],Ab⟩⟩
def mc(m:Sem ao)(f:ao->Sem aN)(P:ck)(w:aH):(m>>= f).run P w=match m.run P w with| .ok a w1=>(f a).run P w1| .halt h w1=>.halt h w1:=by
 show(m.bind f).run P w=_;induction m generalizing w with
 |pure a=>rfl
 |load md a k b=>grind[Sem.bind,Sem.run]
 |store md a v k b=>
  cases v with
  |agg c=>rfl
  |tuple c=>rfl
  | _=>
   simp only[Sem.bind,Sem.run];cases w.cell? a with
   |some v=>
    simp only[];split
    .rfl
    .exact b _
   |none=>
    simp only[];split
    .exact b _
    .rfl
 |new o k b=>exact b _ _
 |shape r k b=>exact b _ _
 |freeze a n k b=>exact b _
 |frozen a k b=>exact b _ _
 |getObj r k b=>grind[Sem.bind,Sem.run]
 |setObj r o k b=>grind[Sem.bind,Sem.run]
 |choose q k b=>grind[Sem.bind,Sem.run]
 |sys c k b=>exact b _ _
 |program k b=>exact b _ _
 |mark m k b=>exact b _
 |halt h=>rfl
theorem OQ(m:Sem ao)(f:ao->Sem aN)(P:ck)(w:aH)(es:uav):(m>>= f).events P w es=match m.run P w with| .ok a w1=>(f a).events P w1 (m.events P w es)| .halt _ _=>m.events P w es:=by
 show(m.bind f).events P w es=_;unfold Sem.events;induction m generalizing w es with
 |pure a=>rfl
 |load md a k b=>grind[Sem.bind,Sem.run,Sem.runT]
 |store md a v k b=>
  cases v with
  |agg c=>rfl
  |tuple c=>rfl
  | _=>
   simp only[Sem.bind,Sem.run,Sem.runT];cases w.cell? a with
   |some v=>
    simp only[];by_cases d:w.frozen? a=true
    .simp only[d,vbx]
    .simp only[d];exact b _ _
   |none=>simp only[];cases e:w.farStore P a _ (md== .atomic)with|ok r=>exact b _ _|error h=>rfl
 |new o k b=>exact b _ _ _
 |shape r k b=>exact b _ _ _
 |freeze a n k b=>exact b _ _
 |frozen a k b=>exact b _ _ _
 |getObj r k b=>grind[Sem.bind,Sem.run,Sem.runT]
 |setObj r o k b=>grind[Sem.bind,Sem.run,Sem.runT]
 |choose q k b=>simp only[Sem.bind,Sem.run,Sem.runT];grind
 |sys c k b=>exact b _ _ _
 |program k b=>exact b _ _ _
 |mark m k b=>exact b _ _
 |halt h=>rfl
theorem al.bind{R:Ren->ao->aN->Prop}{S:Ren->γ->Hl->Prop}{m:Sem ao}{i:Sem aN}{f:ao->Sem γ}{f':aN->Sem Hl}(h:al C ρ R m i)(k:∀σ a b,Ren.le ρ σ->R σ a b->al C σ S (f a) (f' b)):al C ρ S (m>>= f) (i>>= f'):=by
 intro S w w' z hg g;rw[mc]at hg⊢;have F:(kU (i.run C.Q w')).drawn<=S.bound:=by rw[mc]at g;cases d:i.run C.Q w' with|ok b j=>rw[d]at g;exact vac (A3 C.Q (f' b) j).1 g|halt x j=>rw[d]at g;exact g
 have r:Good (m.run C.P w):=by
  cases n:m.run C.P w with
  |ok a w1=>trivial
  |halt x w1=>
   rw[n]at hg;cases x with
   |unsupported u=>cases u<;>first|exact hg|trivial
   | _=>first|exact hg|trivial
 obtain⟨σ,w1,c,o,D⟩:=h S w w' z r F;rw[mc]at g⊢;cases n:m.run C.P w with
 |ok a s=>
  rw[n]at c hg;cases d:i.run C.Q w' with
  |ok b j=>
   rw[d]at c g;cases c with
   |ok p l=>
    obtain⟨aU,w2,v,t,q⟩:=k σ a b o.le p S s _ l hg g;refine⟨aU,w2,v,o.trans t,λes=>?_⟩;obtain⟨d1,I,E⟩:=D es;obtain⟨B,H,J⟩:=q (i.events C.Q w' es);refine⟨d1++B,?_,λe A=>?_⟩
    .grind[OQ]
    .rcases vdr.1 A with x|x
     .exact(E e x).mono t.le
     grind
  |halt x j=>rw[d]at c;cases c
 |halt x s=>rw[n]at c;cases d:i.run C.Q w' with|ok b j=>rw[d]at c;cases c|halt y j=>rw[d]at c;cases c with|panic p l=>refine⟨σ,_,.panic p l,o,λes=>?_⟩;simp_all[OQ]|goexit l=>refine⟨σ,_,.goexit l,o,λes=>?_⟩;simp_all[OQ]
theorem al.mono{R S:Ren->ao->aN->Prop}{m:Sem ao}{d:Sem aN}(h:al C ρ R m d)(k:∀σ a b,Ren.le ρ σ->R σ a b->S σ a b):al C ρ S m d:=by intro S w w' c hg i;obtain⟨σ,w1,f,g,j⟩:=h S w w' c hg i;refine⟨σ,w1,?_,g,j⟩;generalize m.run C.P w=r at f;generalize d.run C.Q w'=r' at f;cases f with|ok e c=>exact .ok (k _ _ _ g.le e) c|panic e c=>exact .panic e c|goexit c=>exact .goexit c
def al.ite{R:Ren->ao->aN->Prop}{c:Prop}[Decidable c]{a b:Sem ao}{a' b':Sem aN}(h:c->al C ρ R a a')(k:¬c->al C ρ R b b'):al C ρ R (if c then a else b) (if c then a' else b'):=by grind
theorem al.none{R:Ren->ao->aN->Prop}{m:Sem ao}{a:Sem aN}(h:∀w,¬Good (m.run C.P w)):al C ρ R m a:=λ_ w _ _ hg _=>absurd hg (h w)
theorem al.stuck{R:Ren->ao->aN->Prop}{s:String}{a:Sem aN}:al C ρ R (Go.stuck s) a:=.none λ_ h=>h
theorem al.unsupported{R:Ren->ao->aN->Prop}{u:Unsupported}{a:Sem aN}(b:∀g,u≠ .initOrder g:=by intro g h;cases h):al C ρ R (Go.unsupported u) a:=.none λ_ h=>by cases u with|initOrder g=>grind| _=>exact h
theorem al.throw{R:Ren->ao->aN->Prop}{s:String}{a:Sem aN}:al C ρ R (Go.throw s) a:=.none λ_ h=>h
theorem al.goPanic{R:Ren->ao->aN->Prop}(h:ap ρ v v'):al C ρ R (Go.goPanic v) (Go.goPanic v'):=by intro S w w' a _ _;exact⟨ρ,w',.panic h a,.refl _ _,λes=>⟨#[],by simp[Sem.events,Go.goPanic,Sem.runT],Ab⟩⟩
end
variable{a a':Addr}{r r':Nat}{c:dC}{P:ck}{o o':Obj}
section
attribute [-simp] Sem.runT_eq
section
variable{C:cy}{S:Sync}{ρ:Ren}{w w':aH}
def eo.lt(h:eo C S ρ w w'){a b:Nat}(r:ρ.rel a b):a<w.heap.size/\b<w'.heap.size:=by obtain⟨o,o',d,c,_⟩:=h.obj a b r;grind
theorem eo.cells(h:eo C S ρ w w'){a b:Nat}(r:ρ.rel a b){c:dC}{e:uaa}{fr:ubo}(f:w.heap[a]?=some (.cells c e fr)):
 ∃c' aO,w'.heap[b]?=some (.cells c' e aO)/\aL ρ c c'/\∀i,wa aO i->wa fr i:=by
 obtain⟨o,o',d,k,j⟩:=h.obj a b r;rw[f]at d;cases d;cases j with|cells e g hF=>exact⟨_,_,k,g,hF.1⟩
def eo.other(h:eo C S ρ w w'){a b:Nat}(r:ρ.rel a b)(j:∀c e fr,w.heap[a]?≠some (.cells c e fr)):
 ∃o o',w.heap[a]?=some o/\w'.heap[b]?=some o'/\g3 C ρ o o'/\(∀c e fr,o'≠ .cells c e fr)/\(∀x t,o'≠ .view x t)/\(∀x t,o'≠ .pending x t)/\o'.isChan=false:=by
 obtain⟨o,o',i,g,d⟩:=h.obj a b r;refine⟨o,o',i,g,d,?_⟩;cases d with
 |cells e k hF=>grind
 |shut f=>cases o'<;>first|exact f.elim|exact⟨Ab,Ab,Ab,U⟩
 | _=>exact⟨Ab,Ab,Ab,U⟩
theorem wc{w:aH}(h:w.cell? a=some v):∃c e fr,w.heap[a.block]?=some (.cells c e fr)/\a.spot=none/\c[a.off]?=some v:=by
 unfold World.cell? at h;split at h
 .simp_all
 grind
theorem rP{w:aH}{e:uaa}{fr:ubo}(h:w.heap[a.block]?=some (.cells c e fr))(hs:a.spot=none)(hv:c[a.off]?=some v):w.cell? a=some v:=by grind[World.cell?]
theorem eo.cell(h:eo C S ρ w w')(r:dq ρ a a')(hv:w.cell? a=some v):∃v',w'.cell? a'=some v'/\ap ρ v v':=by obtain⟨c,e,fr,k,j,i⟩:=wc hv;obtain⟨c',aO,f,d,_⟩:=h.cells r.1 k;obtain⟨v',b,g⟩:=d.some i;exact⟨v',rP f (r.2.2▸j) (r.2.1▸b),g⟩
def afU{ao:Type}(h:eo C S ρ w w')(r:dq ρ a a')(hn:w.cell? a=none)(m:Mode)(k:Value->Sem ao):¬Good ((Sem.load m a k).run C.P w):=by
 simp only[Sem.run,hn];obtain⟨o,o',c,d,b⟩:=h.obj _ _ r.1;have:w.farLoad C.P a (m== .atomic)=.error (w.noCell a "load: no such cell"):=by unfold World.farLoad;rw[c];cases b<;>rfl
 rw[this];simp only[World.noCell,c];cases b<;>exact id
theorem al.load(r:dq ρ a a'):al C ρ ap (Go.load a) (Go.load a'):=by
 intro S w w' b hg _;cases d:w.cell? a with
 |none=>exact absurd hg (afU b r d _ _)
 |some v=>
  obtain⟨v',c,g⟩:=b.cell r d;refine⟨ρ,w',?_,.refl _ _,λes=>⟨#[⟨.cell a',false,false⟩],?_,?_⟩⟩
  .simp only[Go.load,Sem.run,d,c];exact .ok g b
  .grind[Sem.events,Go.load,Sem.runT]
  .intro e f;simp at f;subst f;exact⟨⟨_,r.1⟩,Ab,U⟩
theorem eo.setCell(h:eo C S ρ w w')(r:dq ρ a a')(hv:ap ρ v v')(m:ρ.mine a'.block):eo C S ρ (w.setCell a v) (w'.setCell a' v'):=by
 have get:∀(w:aH)(a:Addr)(v:Value)(b:Nat),(w.setCell a v).heap[b]?=(w.heap[b]?).map (λo=>if a.block=b then(match o with| .cells c e f=>.cells (if a.spot.isSome then c else c.setIfInBounds a.off v) e f|o=>o)else o):=by grind[World.setCell]
 refine⟨λb b' d=>?_,h.one,h.inj,h.nc,h.sync,h.tape,h.env,h.lone,λb b' d hn=>?_⟩
 .obtain⟨o,o',g,j,n⟩:=h.obj b b' d;rw[get,get,g,j];simp only[vdw];refine⟨_,_,U,U,?_⟩;by_cases e:a.block=b
  .subst e;have k:a'.block=b':=h.one _ _ _ r.1 d;subst k;simp only[vbx];cases n with
   |cells el i hF=>
    simp only[r.2.2,r.2.1];by_cases hs:a'.spot.isSome=true
    .simp only[hs,vbx];exact .cells el i hF
    .simp only[hs];exact .cells el (i.set hv _) hF
   |map c h=>exact .map c h
   |stringIter s p=>exact .stringIter s p
   |A5 a b c=>exact .A5 a b c
   |mapIter h a b c=>exact .mapIter h a b c
   |loop h=>exact .loop h
   |deferred h=>exact .deferred h
   |taken=>exact .taken
   |number h l=>exact .number h l
   |shut h=>cases o'<;>first|exact h.elim|exact .shut trivial
  .have k:a'.block≠b':=λx=>e (h.inj _ _ _ (x▸r.1) d);grind
 .have e:a.block≠b:=λx=>hn (h.one _ _ _ r.1 (x▸d)▸m);rw[get];rcases h.still b b' d hn with⟨q,c,el,fr,g,j⟩|⟨o,g,hd⟩
  .grind
  grind
def ap.afV(h:ap ρ v v'):((∃c,v=.agg c)\/∃c,v=.tuple c)\/((∀c,v≠ .agg c)/\(∀c,v≠ .tuple c)/\(∀c,v'≠ .agg c)/\(∀c,v'≠ .tuple c)):=by cases h with|agg=>grind|tuple=>grind| _=>exact .inr ⟨Ab,Ab,Ab,Ab⟩
def run_store{ao:Type}{md:Mode}{k:Sem ao}(f:∀c,v≠ .agg c)(e:∀c,v≠ .tuple c){x:Value}(d:w.cell? a=some x)(b:w.frozen? a=false):
 (Sem.store md a v k).run P w=k.run P (w.setCell a v):=by
 simp_all[Sem.run]
theorem events_store{ao:Type}{md:Mode}{k:Sem ao}(f:∀c,v≠ .agg c)(e:∀c,v≠ .tuple c){x:Value}(d:w.cell? a=some x)(b:w.frozen? a=false)(es:uav):
 (Sem.store md a v k).events P w es=k.events P (w.setCell a v) (es.push ⟨.cell a,true,md== .atomic⟩):=by
 simp_all[Sem.events,Sem.runT]
theorem al.store(r:dq ρ a a')(hv:ap ρ v v'):al C ρ (λ_(_ _:Unit)=>True) (Go.store a v) (Go.store a' v'):=by
 intro S w w' d hg _;rcases hv.afV with(⟨c,rfl⟩|⟨c,rfl⟩)|⟨n1,A,s,n⟩
 .exact hg.elim
 .exact hg.elim
 cases g:w.cell? a with
 |none=>
  exfalso;obtain⟨o,o',m,L,l⟩:=d.obj _ _ r.1;have D:∀v,w.farStore C.P a v (Mode.plain== .atomic)=.error (w.noCell a "store: no such cell"):=by intro v;unfold World.farStore;rw[m];cases l<;>rfl
  have:(Go.store a v).run C.P w=.halt (w.noCell a "store: no such cell") w:=by simp_all[Go.store,Sem.run]
  rw[this]at hg;simp only[World.noCell,m]at hg;cases l<;>exact hg
 |some x=>
  obtain⟨x',t,_⟩:=d.cell r g;obtain⟨c,e,fr,i,J,I⟩:=wc g;have B:a.off<c.size:=AN;cases u:w.frozen? a with
  |true=>
   exfalso;have:(Go.store a v).run C.P w=.halt (.unsupported (.unsafePointer "a write to bytes that a string shares")) w:=by simp_all[Go.store,Sem.run]
   rw[this]at hg;exact hg
  |false=>
   have F:¬wa fr a.off:=by intro⟨y,z⟩;grind[World.frozen?]
   obtain⟨c',aO,E,N,p⟩:=d.cells r.1 i;have q:w'.frozen? a'=false:=by unfold World.frozen?;rw[E];have:¬wa aO a'.off:=λy=>F (r.2.1▸p _ y);grind[wa]
   have j:ρ.mine a'.block:=by
    apply vax;intro hn;rcases d.still _ _ r.1 hn with⟨_,cg,M,O,f,H⟩|⟨o,f,hd⟩
    .grind
    .rw[i]at f;cases f;cases hd
   refine⟨ρ,w'.setCell a' v',?_,?_,λes=>⟨#[⟨.cell a',true,false⟩],?_,?_⟩⟩
   .show xg C S ρ _ ((Go.store a v).run C.P w) ((Go.store a' v').run C.Q w') _;rw[Go.store,Go.store,run_store n1 A g u,run_store s n t q];exact .ok trivial (d.setCell r hv j)
   .refine⟨Ren.le_refl _,λ_ h=>.inl h,by simp[World.setCell],λ_ h=>.inl h,λ_ _ h=>.inl h,λb K hn=>?_,U,U,U,vad _⟩;grind[World.setCell]
   .grind[Go.store,events_store,Sem.events,Sem.runT]
   .intro e k;simp at k;subst k;exact⟨⟨_,r.1⟩,λ_=>j,U⟩
def Ren.new(ρ:Ren)(n n':Nat):Ren:={rel:=λa b=>ρ.rel a b\/(a=n/\b=n'),mine:=λb=>ρ.mine b\/b=n'}
def Ren.Vq(ρ:Ren)(n a:Nat):Ren.le ρ (ρ.new n a):=⟨λ_ _ h=>.inl h,λ_ h=>.inl h⟩
theorem eo.alloc(h:eo C S ρ w w')(l:g3 C ρ o o'):eo C S (ρ.new w.heap.size w'.heap.size) {w with heap:=w.heap.push o} {w' with heap:=w'.heap.push o'}:=by
 have f:=Ren.Vq ρ w.heap.size w'.heap.size;refine⟨λb b' c=>?_,λa b b' x y=>?_,λa a' b x y=>?_,λg hg=>.inl (h.nc g hg),h.sync,h.tape,h.env,h.lone,λb b' c hn=>?_⟩
 .rcases c with c|⟨rfl,rfl⟩
  .obtain⟨p,i,q,n,m⟩:=h.obj b b' c;have d:=h.lt c;exact⟨p,i,AN,AN,m.mono f⟩
  .exact⟨o,o',Ab,Ab,l.mono f⟩
 .rcases x with x|⟨rfl,rfl⟩<;>rcases y with y|⟨k,j⟩
  .exact h.one _ _ _ x y
  .have:=(h.lt x).1;omega
  .have:=(h.lt y).1;omega
  grind
 .rcases x with x|⟨rfl,rfl⟩<;>rcases y with y|⟨k,j⟩
  .exact h.inj _ _ _ x y
  .have:=(h.lt x).2;omega
  .have:=(h.lt y).2;omega
  grind
 .rcases c with c|⟨rfl,rfl⟩
  .have d:=h.lt c;have e:({w with heap:=w.heap.push o}:aH).heap[b]?=w.heap[b]?:=AN;rw[e];exact h.still b b' c λx=>hn (.inl x)
  .exact absurd Io hn
theorem al.new(f:g3 C ρ o o'):al C ρ (λσ n d=>σ.rel n d/\σ.mine d) (Go.newObj o) (Go.newObj o'):=by intro S w w' e _ _;refine⟨ρ.new w.heap.size w'.heap.size,{w' with heap:=w'.heap.push o'},.ok ⟨.inr ⟨U,U⟩,.inr U⟩ (e.alloc f),?_,λes=>⟨#[],by simp[Sem.events,Go.newObj,Sem.runT],Ab⟩⟩;refine⟨Ren.Vq _ _ _,λb c=>c.imp id (λx=>AY),Ab,λb c=>c.imp id (λx=>AN),λa b c=>c.imp id (λx=>AY),λb c _=>?_,U,U,U,vad _⟩;grind
theorem al.shape(h:ρ.rel r r'):al C ρ (λ_ s s'=>s=s') (Go.shape r) (Go.shape r'):=by
 intro S w w' a _ _;refine⟨ρ,w',?_,.refl _ _,λes=>⟨#[],by simp[Sem.events,Go.shape,Sem.runT],Ab⟩⟩;refine .ok ?_ a;obtain⟨o,o',g,f,d⟩:=a.obj r r' h;unfold World.shape?;rw[g,f];cases d with
 |cells e c hF=>simp[c.size]
 |shut b=>cases o'<;>first|exact b.elim|rfl
 | _=>rfl
def afW(C:cy)(r':Nat)(ρ:Ren)(o o':Obj):Prop:=g3 C ρ o o'/\(∀c e fr,o≠ .cells c e fr)/\(ρ.mine r'\/Et o)
theorem al.getObj(h:ρ.rel r r'):al C ρ (afW C r') (Go.getObj r) (Go.getObj r'):=by
 intro S w w' a hg _;have d:∀c e fr,w.heap[r]?≠some (.cells c e fr):=by grind[Go.getObj,Sem.run,Good]
 obtain⟨o,o',p,n,j,n1,q,m,i⟩:=a.other h d;have l:(Go.getObj r).run C.P w=.ok o w:=by grind[Go.getObj,Sem.run]
 have k:(Go.getObj r').run C.Q w'=.ok o' w':=by simp_all[Go.getObj,Sem.run]
 refine⟨ρ,w',?_,.refl _ _,λes=>⟨#[⟨.obj r',false,false⟩],?_,?_⟩⟩
 .rw[l,k];refine .ok ⟨j,λc e fr x=>d c e fr AN,?_⟩ a;by_cases g:ρ.mine r'
  .grind
  .rcases a.still _ _ h g with⟨_,c,e,fr,f,_⟩|⟨o,f,hd⟩
   .grind
   grind
 .simp_all[Sem.events,Go.getObj,Sem.runT]
 .intro e b;simp at b;subst b;exact⟨⟨_,h⟩,Ab,U⟩
theorem al.setObj(h:ρ.rel r r')(g:ρ.mine r')(k:g3 C ρ o o')(hn:∀c e fr,o≠ .cells c e fr):al C ρ (λ_(_ _:Unit)=>True) (Go.setObj r o) (Go.setObj r' o'):=by
 intro S w w' a hg _;have n:∀c e fr,w.heap[r]?≠some (.cells c e fr):=by grind[Go.setObj,Sem.run,Good]
 obtain⟨p,u,z,y,v,n1,A,t,_⟩:=a.other h n;have l:=a.lt h;have s:(Go.setObj r o).run C.P w=.ok () {w with heap:=w.heap.setIfInBounds r o}:=by grind[Go.setObj,Sem.run]
 have q:(Go.setObj r' o').run C.Q w'=.ok () {w' with heap:=w'.heap.setIfInBounds r' o'}:=by simp_all[Go.setObj,Sem.run]
 have m:o'.isChan=false:=by
  cases k with
  |shut x=>cases o'<;>first|exact x.elim|rfl
  | _=>rfl
 refine⟨ρ,{w' with heap:=w'.heap.setIfInBounds r' o'},?_,?_,λes=>⟨#[⟨.obj r',true,false⟩],?_,?_⟩⟩
 .rw[s,q];refine .ok trivial ⟨λb b' d=>?_,a.one,a.inj,a.nc,a.sync,a.tape,a.env,a.lone,λb b' d f=>?_⟩
  .simp only[vaq];by_cases e:r=b
   .subst e;have j:r'=b':=a.one _ _ _ h d;grind
   .have j:r'≠b':=λx=>e (a.inj _ _ _ (x▸h) d);rw[vcy e,vcy j];exact a.obj b b' d
  .have e:r≠b:=λx=>f (a.one _ _ _ h (x▸d)▸g);simp only[vaq,vcy e];exact a.still b b' d f
 .refine⟨Ren.le_refl _,λ_ h=>.inl h,Ab,λ_ h=>.inl h,λ_ _ h=>.inl h,λb d f=>?_,U,U,U,vad _⟩;grind
 .simp_all[Sem.events,Go.setObj,Sem.runT]
 .intro e i;simp at i;subst i;exact⟨⟨_,h⟩,λ_=>g,U⟩
theorem al.choose(q:Question):al C ρ (λ_ a b=>a=b) (Go.choose q) (Go.choose q):=by
 intro S w w' c _ f;by_cases d:q.forced=true
 .refine⟨ρ,w',?_,.refl _ _,λes=>⟨#[],by simp[Sem.events,Go.choose,Sem.runT,d],Ab⟩⟩;simp only[Go.choose,Sem.run,d,vbx];exact .ok U c
 .refine⟨ρ,{w' with drawn:=w'.drawn+1},?_,?_,λes=>⟨#[],by simp[Sem.events,Go.choose,Sem.runT,d],Ab⟩⟩
  .simp only[Go.choose,Sem.run,d,kU]at f⊢;refine .ok ?_ ⟨c.obj,c.one,c.inj,c.nc,?_,λj q g=>?_,c.env,c.lone,c.still⟩
   .have:=c.tape 0 q AN;grind
   .have:=c.sync;grind
   .have e:w'.drawn+(j+1)<S.bound:=by grind
    have:=c.tape (j+1) q e;grind
  .exact⟨Ren.le_refl _,λ_ h=>.inl h,vad _,λ_ h=>.inl h,λ_ _ h=>.inl h,λ_ _ _=>U,U,U,U,vcl _⟩
theorem al.program:al C ρ (λ_ p q=>p=C.P/\q=C.Q) Go.program Go.program:=by intro S w w' a _ _;exact⟨ρ,w',.ok ⟨U,U⟩ a,.refl _ _,λes=>⟨#[],by simp[Sem.events,Go.program,Sem.runT],Ab⟩⟩
theorem al.noRoom:al C ρ (λ_(_ _:Unit)=>True) (Go.mark .noRoom) (Go.mark .noRoom):=by intro S w w' b _ _;refine⟨ρ,w',.ok trivial b,.refl _ _,λes=>⟨#[⟨.mark .noRoom,false,true⟩],by simp[Sem.events,Go.mark,Sem.runT],?_⟩⟩;intro e a;simp at a;subst a;trivial
def al.afX:al C ρ (λ_ a b=>a=b) (Go.sys .env) (Go.sys .env):=by
 intro S w w' c _ _;refine⟨ρ,w',?_,.refl _ _,λes=>⟨#[⟨.output,true,false⟩],by simp[Sem.events,Go.sys,Sem.runT],?_⟩⟩
 .show xg C S ρ _ (.ok (SysRet.strings w.os.env) w) (.ok (SysRet.strings w'.os.env) w') w';exact .ok (by rw[c.env]) c
 .intro e d;simp at d;subst d;trivial
theorem al.extern(f:ual):al C ρ (λ_(_ _:Unit)=>True) (Go.mark (.extern f)) (Go.mark (.extern f)):=by intro S w w' b _ _;refine⟨ρ,w',.ok trivial b,.refl _ _,λes=>⟨#[⟨.mark (.extern f),false,true⟩],by simp[Sem.events,Go.mark,Sem.runT],?_⟩⟩;intro e a;simp at a;subst a;trivial
theorem al.askRoom(n:Nat):al C ρ (λ_(_ _:Unit)=>True) (Go.askRoom n) (Go.askRoom n):=by
 unfold Go.askRoom;split
 .exact .noRoom
 .exact .pure trivial
end
end
variable{c':dC}
section
attribute [-simp] Sem.runT_eq
def cy.b_(C:cy):Prop:=C.P.toTables=C.Q.toTables
def cy.sR(C:cy):Prop:=∀t i v,C.P.info? t=some i->i.zero=some v->iU v
section
variable{C:cy}{ρ:Ren}
theorem dq.add(h:dq ρ a a')(n:Nat):dq ρ (a.add n) (a'.add n):=by
 unfold Addr.add;split
 .exact h
 .exact⟨h.1,by simp[h.2.1],U⟩
theorem al.cut{ao aN γ Hl:Type}{R:Ren->γ->Hl->Prop}{m:Sem ao}{a:Sem aN}{f:ao->Sem γ}{f':aN->Sem Hl}(h:al C ρ (λ_ _ _=>False) m a):al C ρ R (m>>= f) (a>>= f'):=.bind h λ_ _ _ _ x=>x.elim
theorem al.typeInfo(d:C.b_)(t:uaa):al C ρ (λ_ a b=>a=b/\C.P.info? t=some a) (Go.typeInfo t) (Go.typeInfo t):=by
 unfold Go.typeInfo;refine .bind .program λσ p q _⟨c,hq⟩=>?_;subst c;subst hq;have e:C.Q.info? t=C.P.info? t:=by unfold Tables.info?;rw[d]
 grind[stuck,pure]
theorem al.underlying(d:C.b_)(t:uaa):al C ρ (λ_ a b=>a=b/\C.P.underlying t=some a) (Go.underlying t) (Go.underlying t):=by
 unfold Go.underlying;refine .bind .program λσ p q _⟨c,hq⟩=>?_;subst c;subst hq;have e:C.Q.underlying t=C.P.underlying t:=by unfold Program.underlying Tables.info?;rw[d]
 grind[stuck,pure]
theorem al.zeroValue(d:C.b_)(c:C.sR)(t:uaa):al C ρ (λ_ a b=>a=b/\iU a) (Go.zeroValue t) (Go.zeroValue t):=by unfold Go.zeroValue;refine .bind (al.typeInfo d t) λσ i j _⟨f,e⟩=>?_;subst f;cases h:i.zero with|none=>exact .unsupported|some v=>exact .pure ⟨U,c t i v e h⟩
theorem al.sizeOf(c:C.b_)(t:uaa):al C ρ (λ_ a b=>a=b) (Go.sizeOf t) (Go.sizeOf t):=by unfold Go.sizeOf;exact .bind (al.typeInfo c t) λσ i j _⟨d,e⟩=>.pure (by rw[d])
theorem al.isAgg(c:C.b_)(t:uaa):al C ρ (λ_ a b=>a=b) (Go.isAgg t) (Go.isAgg t):=by unfold Go.isAgg;refine .bind (al.underlying c t) λσ i j _⟨e,d⟩=>?_;grind[pure]
theorem al.loadCellsFrom(r:dq ρ a a')(n:Nat):∀(i:Nat){acc b:dC},aL ρ acc b->al C ρ aL (Go.loadCellsFrom a i n acc) (Go.loadCellsFrom a' i n b):=by induction n generalizing ρ with|zero=>intro i acc b h;exact .pure h|succ n d=>intro i acc b h;simp only[Go.loadCellsFrom];exact .bind (al.load (r.add i)) λσ v v' c hv=>d (r.mono c) (i+1) ((h.mono c).push hv)
theorem al.loadCells(r:dq ρ a a')(n:Nat):al C ρ aL (Go.loadCells a n) (Go.loadCells a' n):=al.loadCellsFrom r n 0 (.nil ρ)
theorem al.storeCells(r:dq ρ a a'){l l':uam}(h:de (ap ρ) l l'):∀(i:Nat),al C ρ (λ_(_ _:Unit)=>True) (Go.storeCells a l i) (Go.storeCells a' l' i):=by induction l generalizing ρ l' with|nil=>intro i;cases h;exact .pure trivial|cons x l c=>intro i;cases h with|cons d ht=>simp only[Go.storeCells];exact .bind (al.store (r.add i) d) λσ _ _ b _=>c (r.mono b) (ht.mono λ_ _ y=>y.mono b) (i+1)
theorem al.loadVar(e:C.b_)(t:uaa)(r:dq ρ a a'):al C ρ ap (Go.loadVar t a) (Go.loadVar t a'):=by
 unfold Go.loadVar;refine .bind (al.isAgg e t) λσ b b' d g=>?_;subst g;cases b
 .exact al.load (r.mono d)
 .refine .bind (al.sizeOf e t) λaU n i h hn=>?_;subst hn;exact .bind (al.loadCells ((r.mono d).mono h) n) λj c c' _ f=>.pure (.qU f)
theorem al.storeVar(c:C.b_)(t:uaa)(r:dq ρ a a')(hv:ap ρ v v'):al C ρ (λ_(_ _:Unit)=>True) (Go.storeVar t a v) (Go.storeVar t a' v'):=by unfold Go.storeVar;refine .bind (al.sizeOf c t) λσ n d b hn=>?_;subst hn;have hs:=hv.cells.size;rw[<-hs];exact .ite (λ_=>.cut .stuck) (λ_=>al.storeCells (r.mono b) (de.A4 (hv.cells.mono b)) 0)
theorem al.newRow(e:uaa)(h:aL ρ c c'):al C ρ dq (Go.newRow e c) (Go.newRow e c'):=by unfold Go.newRow;exact .bind (al.new (.cells e h ⟨λ_ x=>x,λ_=>U⟩)) λσ n a _ hn=>.pure ⟨hn.1,U,U⟩
theorem al.newVar(t:uaa)(h:ap ρ v v'):al C ρ dq (Go.newVar t v) (Go.newVar t v'):=al.newRow t h.cells
theorem al.elemOf(c:C.b_)(t:uaa):al C ρ (λ_ a b=>a=b) (Go.elemOf t) (Go.elemOf t):=by unfold Go.elemOf;refine .bind (al.underlying c t) λσ i j _⟨e,d⟩=>?_;grind[stuck,pure]
theorem al.part(e:C.b_)(t:uaa)(h:aL ρ c c')(off:Nat):al C ρ ap (Go.part t c off) (Go.part t c' off):=by
 unfold Go.part;refine .bind (al.isAgg e t) λσ b b' d i=>?_;subst i;cases b
 .simp only[vai,vcj];cases f:c[off]? with|none=>exact .stuck|some v=>obtain⟨v',a,g⟩:=h.some f;rw[a];exact .pure (g.mono d)
 .simp only[vbx];refine .bind (al.sizeOf e t) λaU n k j hn=>?_;subst hn;exact .pure (.qU (((h.mono d).mono j).extract _ _))
def afZ(a:ρ.rel C.P.globals.size C.P.globals.size)(hg:C.P.globals.size=C.Q.globals.size)(t:uaa):ap ρ (typeHandle C.P t) (typeHandle C.Q t):=by unfold typeHandle;rw[<-hg];exact .ptr ⟨a,U,U⟩
def al.af0{ao aN:Type}{R:Ren->ao->aN->Prop}{m:Sem ao}{a:Sem aN}(h:(∀g,g<=C.P.globals.size->ρ.rel g g)->al C ρ R m a):al C ρ R m a:=λS w w' b hg c=>h b.nc S w w' b hg c
theorem al.runtimePanic(g:C.b_){ao aN:Type}{R:Ren->ao->aN->Prop}(e:RuntimeError):al C ρ R (Go.runtimePanic e:Sem ao) (Go.runtimePanic e:Sem aN):=by
 refine .af0 λo=>?_;have I:C.P.globals.size=C.Q.globals.size:=by rw[g]
 have f:C.P.rt=C.Q.rt:=by rw[g]
 have k:∀{σ:Ren}(s:String),ap σ (strVal s) (strVal s):=λs=>.string _;unfold Go.runtimePanic;refine .bind .program λσ p q A⟨z,hq⟩=>?_;subst z;subst hq;have w:∀{aU:Ren},Ren.le σ aU->∀t,ap aU (typeHandle C.P t) (typeHandle C.Q t):=λj t=>afZ (j.1 _ _ (A.1 _ _ (o _ IB))) I t;simp only[];cases e with
 |bounds x y s c=>rw[<-f];exact .goPanic (.iface _ (iU.rel (.agg λi v h=>by
  match i,h with
  |0,h=>simp at h;subst h;exact .int _ _
  |1,h=>simp at h;subst h;exact .int _ _
  |2,h=>simp at h;subst h;exact .bool _
  |3,h=>simp at h;subst h;exact .int _ _
  |i+4,h=>grind) _))
 |error m=>rw[<-f];exact .goPanic (.iface _ (k _))
 |plain m=>rw[<-f];exact .goPanic (.iface _ (k _))
 |nilDeref=>rw[<-f];exact .goPanic (.iface _ (k _))
 |typeAssertion i c a m=>
  rw[<-f];refine .bind (al.elemOf g _) λaU x x' j l=>?_;subst l;refine .bind (al.newVar x ?_) λH r r' _ n=>.goPanic (.iface _ (.ptr n));have J:∀{a b c d a' b' c' u:Value},ap aU a a'->ap aU b b'->ap aU c c'->ap aU d u->aL aU #[a,b,c,d] #[a',b',c',u]:=λF E D B=>by simpa using aL.append (aL.append (aL.append (aL.one F) (aL.one E)) (aL.one D)) (aL.one B)
  cases i<;>cases c<;>exact .qU (J (by first|exact .lg|grind) (by first|exact .lg|grind) (w j _) (k _))
 |panicNil=>rw[<-f];refine .bind (al.elemOf g _) λaU x x' j l=>?_;subst l;exact .bind (al.newVar x (.qU (.nil _))) λH r r' _ n=>.goPanic (.iface _ (.ptr n))
 |unhashable t=>rw[<-f];exact .goPanic (.iface _ (.qU (.one (w (Ren.le_refl _) t))))
theorem al.boundsPanic(c:C.b_){ao aN:Type}{R:Ren->ao->aN->Prop}(k:IntKind)(x y:Int)(code:BoundsCode):al C ρ R (Go.boundsPanic k x y code:Sem ao) (Go.boundsPanic k x y code:Sem aN):=by
 unfold Go.boundsPanic;simp only[];split
 .refine .bind (R:=λ_ a b=>a=b) ?_ λσ s s' _ hs=>by grind[al.runtimePanic]
  exact .bind (f:=λa=>Pure.pure (a==1)) (f':=λa=>Pure.pure (a==1)) (al.choose _) λσ a b _ h=>.pure (by rw[h])
 grind[al.runtimePanic]
theorem al.asIntOf(h:ap ρ v v'):al C ρ (λ_ a b=>a=b) (Go.asIntOf v) (Go.asIntOf v'):=by cases h<;>first|exact .pure U|exact .unsupported|exact .stuck
theorem al.asInt(h:ap ρ v v'):al C ρ (λ_ a b=>a=b) (Go.asInt v) (Go.asInt v'):=by unfold Go.asInt;exact .bind (al.asIntOf h) λσ a b _ h=>.pure (by rw[h])
theorem al.asBool(h:ap ρ v v'):al C ρ (λ_ a b=>a=b) (Go.asBool v) (Go.asBool v'):=by cases h<;>first|exact .pure U|exact .stuck
theorem al.asAddr(a:C.b_)(h:ap ρ v v'):al C ρ dq (Go.asAddr v) (Go.asAddr v'):=by cases h with|ptr h=>exact .pure h|lg=>exact(al.runtimePanic a .nilDeref:al C ρ dq (Go.runtimePanic .nilDeref:Sem Addr) (Go.runtimePanic .nilDeref:Sem Addr))| _=>exact .stuck
end
end
variable{z:dC}{x':Value}{ps:Array (Nat×Operand)}{zA:Array (Nat×Value)}
section
attribute [-simp] Sem.runT_eq
section
variable{C:cy}{ρ:Ren}
def Hm(h:ap ρ v v'):al C ρ dq (Instr.sureAddr v) (Instr.sureAddr v'):=by cases h with|ptr h=>exact .pure h| _=>exact .stuck
def af2(b:C.b_)(t:uaa)(h:ap ρ v v'):al C ρ ap (Instr.loadAt t v) (Instr.loadAt t v'):=by unfold Instr.loadAt;exact .bind (Hm h) λσ a a' _ r=>al.loadVar b t r
def af3(d:C.b_)(t:uaa){x:Value}(h:ap ρ v v')(b:ap ρ x x'):al C ρ (λ_(_ _:Unit)=>True) (Instr.storeAt t v x) (Instr.storeAt t v' x'):=by unfold Instr.storeAt;exact .bind (Hm h) λσ a a' c r=>al.storeVar d t r (b.mono c)
theorem af4(c:C.b_)(b:C.sR)(t:uaa):al C ρ ap (Instr.alloc t true (.tuple #[])) (Instr.alloc t true (.tuple #[])):=by unfold Instr.alloc;refine .bind (al.zeroValue c b t) λσ v v' _⟨e,d⟩=>?_;subst e;exact .bind (al.newVar t (d.rel σ)) λaU a a' _ r=>.pure (.ptr r)
def af5(t:uaa)(h:ap ρ v v'):al C ρ ap (Instr.box t v) (Instr.box t v'):=by unfold Instr.box;exact .bind (al.newVar t h) λaU a a' _ r=>.pure (.ptr r)
def af6(off:Nat):∀(l l':uam)(j:Nat){c c':dC},de (ap ρ) l l'->aL ρ c c'->
 aL ρ ((l.zipIdx j).foldl (λcs(p:ubt)=>cs.setIfInBounds (off+p.2) p.1) c) ((l'.zipIdx j).foldl (λcs(p:ubt)=>cs.setIfInBounds (off+p.2) p.1) c'):=by
 intro l;induction l with|nil=>intro l' j c c' h a;cases h;exact a|cons x l b=>intro l' j c c' h a;cases h with|cons d ht=>simp only[List.zipIdx_cons,List.foldl_cons];exact b _ (j+1) ht (a.set d _)
def af7(off:Nat){a a':dC}(h:aL ρ a a')(b:aL ρ c c'):
 aL ρ (a.zipIdx.foldl (λcs(x:ubt)=>cs.setIfInBounds (off+x.2) x.1) c) (a'.zipIdx.foldl (λcs(x:ubt)=>cs.setIfInBounds (off+x.2) x.1) c'):=by
 have e:∀(a c:dC),a.zipIdx.foldl (λcs(x:ubt)=>cs.setIfInBounds (off+x.2) x.1) c=(a.toList.zipIdx 0).foldl (λcs(p:ubt)=>cs.setIfInBounds (off+p.2) p.1) c:=λa c=>by rw[<-Array.foldl_toList];simp
 simp_all[af6,de.A4]
def rQ(ρ:Ren)(p p':Nat×Value):Prop:=p.1=p'.1/\ap ρ p.2 p'.2
def OR(place:Nat->Option (Nat×Nat)):∀(l l':uac){c c':dC},de (rQ ρ) l l'->aL ρ c c'->
 (Instr.fill place c l=none/\Instr.fill place c' l'=none)\/∃x x',Instr.fill place c l=some x/\Instr.fill place c' l'=some x'/\aL ρ x x':=by
 intro l;induction l with
 |nil=>intro l' c c' h a;cases h;exact .inr ⟨c,c',U,U,a⟩
 |cons p l d=>
  intro l' c c' h a;cases h with
  |@cons _ b _ l' e ht=>
   obtain⟨i,v⟩:=p;obtain⟨i',v'⟩:=b;obtain⟨rfl,hv⟩:i=i'/\ap ρ v v':=e;simp only[Instr.fill];cases f:place i with
   |none=>grind
   |some os=>
    obtain⟨off,size⟩:=os;simp only[];rw[<-hv.cells.size,<-a.size];split
    .grind
    .exact d _ ht (af7 off hv.cells a)
def af8{f f':uaj}(h:∀p∈ps,ap ρ (f p.2) (f' p.2)):de (rQ ρ) (ps.map λ(i,x)=>(i,f x)).toList (ps.map λ(i,x)=>(i,f' x)).toList:=by obtain⟨l⟩:=ps;simp only[List.map_toArray];induction l with|nil=>exact .nil|cons p l a=>obtain⟨i,x⟩:=p;exact .cons ⟨U,h (i,x) Ab⟩ (a λq hq=>h q AN)
def af9{ao aN:Type}{f f':ao->Sem aN}(h:∀(ρ:Ren) a,al C ρ (λ_ x y=>x=y) (f a) (f' a)):∀(l:List ao)(ρ:Ren),al C ρ (λ_ x y=>x=y) (l.mapM f) (l.mapM f'):=by intro l;induction l with|nil=>intro ρ;simp only[List.mapM_nil];exact .pure U|cons a l b=>intro ρ;simp only[List.mapM_cons];exact .bind (h ρ a) λσ x y _ e=>by subst e;exact .bind (b σ) λaU x y _ e=>by subst e;exact .pure U
def af_{ao aN:Type}{f f':ao->Sem aN}(h:∀(ρ:Ren) a,al C ρ (λ_ x y=>x=y) (f a) (f' a))(l:Array ao):al C ρ (λ_ x y=>x=y) (l.mapM f) (l.mapM f'):=by
 have e:∀g:ao->Sem aN,l.mapM g=(do pure (<-l.toList.mapM g).toArray):=λg=>by rw[vci];rfl
 rw[e,e];exact .bind (af9 h l.toList ρ) λσ x y _ e=>.pure Gn
def aga(k:C.b_)(r:C.sR)(t:uaa){ps:Array (Nat×Value)}(h:de (rQ ρ) ps.toList zA.toList):al C ρ ap (Instr.build t ps) (Instr.build t zA):=by
 unfold Instr.build;refine .bind (al.zeroValue k r t) λσ z B s⟨v,q⟩=>?_;subst v;refine .bind (al.underlying k t) λaU d F w⟨u,E⟩=>?_;subst u;have p:=de.mono (λa b(x:rQ ρ a b)=>(⟨x.1,(x.2.mono s).mono w⟩:rQ aU a b)) h;cases d with
 |struct fields=>
  simp only[];refine .bind (R:=λ_ x y=>x=y) (af_ (λρ f=>.bind (al.sizeOf k _) λσ a b _ e=>.pure Gn) fields) λc aJ A o e=>?_;subst e;have l:=de.mono (λa b(x:rQ aU a b)=>(⟨x.1,x.2.mono o⟩:rQ c a b)) p;rcases OR (ρ:=c) (λi=>aJ[i]?) ps.toList zA.toList l (q.cells.rel c)with⟨j,g⟩|⟨x,x',j,g,m⟩
  .rw[j,g];exact .stuck
  .rw[j,g];exact .pure (.qU m)
 |array n elem=>
  simp only[];refine .bind (al.sizeOf k elem) λc n D o e=>?_;subst e;have l:=de.mono (λa b(x:rQ aU a b)=>(⟨x.1,x.2.mono o⟩:rQ c a b)) p;rcases OR (ρ:=c) (λi=>some (i*n,n)) ps.toList zA.toList l (q.cells.rel c)with⟨j,g⟩|⟨x,x',j,g,m⟩
  .rw[j,g];exact .stuck
  .rw[j,g];exact .pure (.qU m)
 | _=>exact .stuck
theorem agb:iU (default:Value):=.bool _
def kl.OS(h:kl z)(n:Nat):kl ((Array.range n).map (z[· % z.size]!)):=by
 intro i v hv;simp only[vbw,Array.getElem?_range]at hv;split at hv
 .simp only[vdw,vbk]at hv;subst hv;by_cases a:i % z.size<z.size
  .rw[getElem!_pos z _ a];exact h _ _ (vak a)
  grind[agb]
 grind
def agc(j:C.b_)(p:C.sR)(t:uaa)(len:Nat){ps:Array (Nat×Value)}(h:de (rQ ρ) ps.toList zA.toList):al C ρ ap (Instr.buildSlice t len ps) (Instr.buildSlice t len zA):=by
 unfold Instr.buildSlice;refine .bind (al.underlying j t) λσ d I u⟨B,H⟩=>?_;subst B;cases d with
 |slice elem=>
  simp only[];refine .bind (al.sizeOf j elem) λaU n F D e=>?_;subst e;refine .ite (λw=>.cut .unsupported) (λw=>?_);refine .ite (λ_=>.bind (R:=λ_ x y=>x=y/\kl x) (.pure ⟨U,λi v h=>AN⟩) λg z m f⟨e,l⟩=>?_)
   (λ_=>.bind (al.zeroValue j p elem) λE y y' A⟨c,q⟩=>.bind (R:=λ_ x y=>x=y/\kl x) (.pure ⟨by rw[c],q.cells⟩) λg z m f⟨e,l⟩=>?_)
  all_goals
   subst e;first|replace f:=Ren.le_trans A f|skip
   have o:=de.mono (λa b(x:rQ ρ a b)=>(⟨x.1,x.2.mono (Ren.le_trans (Ren.le_trans u D) f)⟩:rQ g a b)) h;rcases OR (ρ:=g) (λi=>some (i*n,n)) ps.toList zA.toList o ((l.OS (len*n)).rel g)with⟨c,k⟩|⟨x,x',c,k,s⟩
   .rw[c,k];exact .stuck
   .rw[c,k];exact .bind (al.newRow elem s) λ_ a a' _ r=>.pure (.slice len len r)
 | _=>exact .stuck
end
end
variable{i i':Value}
section
attribute [-simp] Sem.runT_eq
section
variable{C:cy}{ρ:Ren}
theorem Eu(a:C.b_)(t:uaa):C.Q.info? t=C.P.info? t:=by unfold Tables.info?;rw[a]
theorem A_(a:C.b_)(t:uaa):C.Q.underlying t=C.P.underlying t:=by grind[Program.underlying,Eu]
theorem Ba(a:C.b_)(t:uaa):C.Q.cellsOf t=C.P.cellsOf t:=by grind[Program.cellsOf,Eu]
theorem KS(a:C.b_)(t:uaa):C.Q.bytesOf t=C.P.bytesOf t:=by grind[Program.bytesOf,Eu]
theorem Ev(a:C.b_):C.Q.depth=C.P.depth:=by unfold Program.depth;rw[a]
theorem Vr(b:C.b_):∀(d:Nat)(t:uaa)(off:Nat),byteOfCell C.Q d t off=byteOfCell C.P d t off:=by intro d;induction d with|zero=>intro t off;rfl|succ d a=>grind[byteOfCell,A_,Ba,KS]
def Vs(h:ρ.rel r r'):al C ρ (λ_ a b=>a=none/\b=none) (viewAt r) (viewAt r'):=by
 unfold viewAt;refine .bind (al.shape h) λσ s s' f e=>?_;subst e;refine .ite (λ_=>.pure ⟨U,U⟩) (λ_=>?_);refine .bind (al.getObj (f.1 _ _ h)) λaU o o' _ hg=>?_;obtain⟨d,hn,_⟩:=hg;cases d with
 |shut c=>cases o'<;>first|exact c.elim|exact .pure ⟨U,U⟩
 | _=>exact .pure ⟨U,U⟩
def agd(h:dq ρ a a'):al C ρ (λ_(_ _:Unit)=>True) (noView a) (noView a'):=by unfold noView;refine .bind (Vs h.1) λσ s s' d⟨c,b⟩=>?_;subst c;subst b;exact .pure trivial
def Bb(c:C.b_)(h:dq ρ a a'):al C ρ (λ_ x y=>x=y) (byteOf a) (byteOf a'):=by unfold byteOf;rw[<-h.2.2];cases hs:a.spot with|some s=>exact .pure U|none=>simp only[];refine .bind .program λσ p q d⟨f,hq⟩=>?_;subst f;subst hq;refine .bind (agd (h.mono d)) λaU _ _ g _=>?_;refine .bind (al.shape (g.1 _ _ (d.1 _ _ h.1))) λj s s' i e=>?_;subst e;cases s with|none=>exact .stuck|some be=>obtain⟨e,n⟩:=be;simp only[Ba c,KS c,Vr c,Ev c];refine .ite (λ_=>.pure U) (λ_=>?_);rw[<-h.2.1];cases byteOfCell C.P C.P.depth e (a.off % C.P.cellsOf e)with|none=>exact .stuck|some b=>exact .pure U
def age(c:C.b_)(h:dq ρ a a')(cells bytes:Nat):al C ρ dq (partAt a cells bytes) (partAt a' cells bytes):=by
 unfold partAt;refine .bind (Bb c h) λσ x x' f e=>?_;subst e;have b:dq σ {block:=a.block,off:=a.off+cells} {block:=a'.block,off:=a'.off+cells}:=⟨f.1 _ _ h.1,by simp[h.2.1],U⟩;refine .bind (Bb c b) λaU y y' d e=>?_;subst e;refine .pure ?_;split
 .exact b.mono d
 .exact⟨d.1 _ _ b.1,b.2.1,U⟩
def agf(c:C.b_)(h:dq ρ a a')(f:Field):al C ρ dq (fieldPlace a f) (fieldPlace a' f):=by unfold fieldPlace;refine .bind (al.sizeOf c _) λσ n d b e=>?_;subst e;exact .ite (λ_=>age c (h.mono b) _ _) (λ_=>.pure ((h.mono b).add _))
def agh(c:C.b_)(s:uaa)(h:ap ρ v v')(field:Nat):al C ρ ap (Instr.fieldAt s v field) (Instr.fieldAt s v' field):=by
 unfold Instr.fieldAt;refine .bind (al.underlying c s) λσ d k i⟨e,_⟩=>?_;subst e;cases d with
 |struct fields=>simp only[];cases fields[field]? with|none=>exact .stuck|some f=>simp only[];refine .bind (Hm (h.mono i)) λaU a a' l r=>?_;exact .bind (agf c r f) λj b b' _ g=>.pure (.ptr g)
 | _=>exact .stuck
def Hn(P:ck)(t:uaa):Bool:=
 match P.underlying t with
 |some (.slice _)|some (.array _ _)=>true
 | _=>false
def Ho(P:ck)(t:uaa):Bool:=
 match P.underlying t with
 |some (.slice _)|some (.array _ _)=>true
 | _=>false
def agi(c:C.b_)(t:uaa)(ht:Ho C.P t=true){x:Value}(v:ap ρ x x')(hi:ap ρ i i'):al C ρ ap (Instr.indexAt t x i) (Instr.indexAt t x' i'):=by
 unfold Instr.indexAt;refine .bind (al.asIntOf hi) λσ D B w e=>?_;subst e;refine .bind (al.underlying c t) λaU d m y⟨e,hd⟩=>?_;subst e;have k:=(v.mono w).mono y;have s:=k;simp only[Ho,hd]at ht;cases d with
 |array len elem=>refine .bind (Hm k) λA a a' z r=>?_;refine .bind (R:=λ_ a b=>a=_/\b=_) (.pure ⟨U,U⟩) λg p q f⟨e,j⟩=>?_;subst e;subst j;refine .bind (al.underlying c t) λg d m l⟨e,_⟩=>?_;subst e;replace f:=Ren.le_trans f l;refine .ite (λ_=>.bind (al.sizeOf c elem) λo n u h e=>?_) (λ_=>.ite (λ_=>.unsupported) (λ_=>al.boundsPanic c _ _ _ _));subst e;exact .pure (.ptr (((r.mono f).mono h).add _))
 |slice elem=>
  cases k<;>first|exact .stuck|skip
  all_goals
   refine .bind (R:=λ_ a b=>a=_/\b=_) (.pure ⟨U,U⟩) λg p q f⟨e,j⟩=>?_;subst e;subst j;refine .bind (al.underlying c t) λg d m l⟨e,_⟩=>?_;subst e
  .exact al.boundsPanic c _ _ _ _
  .cases s;rename_i r;replace f:=Ren.le_trans f l;refine .ite (λ_=>.bind (al.sizeOf c elem) λo n u h e=>?_) (λ_=>.ite (λ_=>.unsupported) (λ_=>al.boundsPanic c _ _ _ _));subst e;exact .pure (.ptr (((r.mono f).mono h).add _))
 | _=>cases ht
def Hp(P:ck)(t:uaa):Bool:=
 match P.underlying t with
 |some (.array _ _)=>true
 | _=>false
def agk(a:C.b_)(t:uaa)(ht:Hp C.P t=true){x:Value}(b:ap ρ x x')(hi:ap ρ i i'):al C ρ ap (Instr.index t x i) (Instr.index t x' i'):=by
 unfold Instr.index;refine .bind (al.asIntOf hi) λσ p o c e=>?_;subst e;refine .bind (al.underlying a t) λaU d m j⟨e,hd⟩=>?_;subst e;have g:=(b.mono c).mono j;simp only[Hp,hd]at ht;cases d with
 |array len elem=>cases g with|agg hs h=>refine .ite (λ_=>.bind (al.sizeOf a elem) λl n k f e=>?_) (λ_=>al.boundsPanic a _ _ _ _);subst e;exact al.part a elem (aL.mono f ⟨hs,h⟩) _| _=>exact .stuck
 | _=>cases ht
end
end
variable{Bc hi jv lo mx mx':Option Value}
section
attribute [-simp] Sem.runT_eq
inductive mJ{ao aN:Type}(R:ao->aN->Prop):Option ao->Option aN->Prop
 |none:mJ R none none
 |some {a:ao} {b:aN} (h:R a b):mJ R (some a) (some b)
theorem mJ.mono{ao aN:Type}{R S:ao->aN->Prop}(c:∀a b,R a b->S a b){a:Option ao}{b:Option aN}(h:mJ R a b):mJ S a b:=by cases h with|none=>exact .none|some h=>exact .some (c _ _ h)
abbrev wh(ρ:Ren):=mJ (ap ρ)
theorem wh.mono{ρ σ:Ren}(c:Ren.le ρ σ){a b:Option Value}(h:wh ρ a b):wh σ a b:=mJ.mono (λ_ _ x=>x.mono c) h
theorem mJ.isSome{ao aN:Type}{R:ao->aN->Prop}{a:Option ao}{b:Option aN}(h:mJ R a b):a.isSome=b.isSome:=by cases h<;>rfl
section
variable{C:cy}{ρ:Ren}
def KT(c:C.b_){x:Value}(h:ap ρ x x')(y:Nat)(code:BoundsCode):al C ρ (λ_ a b=>a=b) (Instr.sliceBound x y code) (Instr.sliceBound x' y code):=by unfold Instr.sliceBound;refine .bind (al.asIntOf h) λσ d g f e=>?_;subst e;obtain⟨k,i⟩:=d;exact .ite (λ_=>.pure U) (λ_=>al.boundsPanic c _ _ _ _)
def Vu(g:C.b_)(isSlice:Bool)(len cap:Nat)(o:wh ρ lo Bc)(k:wh ρ hi jv)(f:wh ρ mx mx'):
 al C ρ (λ_ a b=>a=b) (Instr.sliceBounds isSlice len cap lo hi mx) (Instr.sliceBounds isSlice len cap Bc jv mx'):=by
 unfold Instr.sliceBounds;have i:∀(σ:Ren)(m h:Nat),Ren.le ρ σ->al C σ (λ_ a b=>a=b)
  (do let l <-(match lo with|some v=>Instr.sliceBound v h (if mx.isSome then .slice3C else .sliceB)|none=>pure 0);pure (l,h,m))
  (do let l <-(match Bc with|some v=>Instr.sliceBound v h (if mx'.isSome then .slice3C else .sliceB)|none=>pure 0);pure (l,h,m)):=by
  intro σ m h c;rw[f.isSome];cases o with|none=>exact .bind (R:=λ_ a b=>a=b) (.pure U) λ_ a b _ e=>.pure Gn|some hv=>exact .bind (KT g (hv.mono c) _ _) λ_ a b _ e=>.pure Gn
 cases f with
 |none=>simp only[];refine .bind (R:=λ_ a b=>a=b) (.pure U) λσ m n c e=>?_;subst e;cases k with|none=>simp only[];refine .bind (R:=λ_ a b=>a=b) (.pure U) λaU h j d e=>?_;subst e;have:=i aU m h (Ren.le_trans c d);grind|some hv=>simp only[];refine .bind (KT g (hv.mono c) _ _) λaU h j d e=>?_;subst e;have:=i aU m h (Ren.le_trans c d);grind
 |some hv=>simp only[];refine .bind (KT g hv _ _) λσ m n c e=>?_;subst e;cases k with|none=>refine .bind (R:=λ_ a b=>a=b) .stuck λaU h j d e=>?_;subst e;have:=i aU m h (Ren.le_trans c d);grind|some hv=>simp only[];refine .bind (KT g (hv.mono c) _ _) λaU h j d e=>?_;subst e;have:=i aU m h (Ren.le_trans c d);grind
def agl(g:C.b_)(t:uaa)(ht:Hn C.P t=true){x:Value}(m:ap ρ x x')(k:wh ρ lo Bc)(p:wh ρ hi jv)(h:wh ρ mx mx'):
 al C ρ ap (Instr.sliceAt t x lo hi mx) (Instr.sliceAt t x' Bc jv mx'):=by
 unfold Instr.sliceAt;refine .bind (al.underlying g t) λσ d v c⟨e,hd⟩=>?_;subst e;simp only[Hn,hd]at ht;cases d with
 |slice elem=>
  unfold Instr.slice;refine .bind (al.underlying g t) λaU d v f⟨e,j⟩=>?_;subst e;rw[hd]at j;cases j;replace c:=Ren.le_trans c f;have o:=m.mono c;have q:=o;cases o<;>first|exact .stuck|skip
  all_goals
   refine .bind (Vu g true _ _ (k.mono c) (p.mono c) (h.mono c)) λaU a b f e=>?_;subst e;refine .bind (al.sizeOf g elem) λu n s i e=>?_;subst e;refine .pure ?_
  .split<;>exact .h7 _ _
  .cases q;rename_i r;split
   .exact .slice _ _ ((r.mono f).mono i)
   .exact .slice _ _ (((r.mono f).mono i).add _)
 |array n elem=>
  simp only[];refine .bind (Hm (m.mono c)) λaU a a' f r=>?_;refine .bind (Vu g false _ _ ((k.mono c).mono f) ((p.mono c).mono f) ((h.mono c).mono f)) λu b b' i e=>?_;subst e;refine .bind (al.sizeOf g elem) λw n s l e=>?_;subst e;refine .pure ?_;split
  .exact .slice _ _ ((r.mono i).mono l)
  .exact .slice _ _ (((r.mono i).mono l).add _)
 | _=>cases ht
def agm(b:C.b_)(t:uaa){x:Value}(h:ap ρ x x'):al C ρ ap (Instr.makeInterface t x) (Instr.makeInterface t x'):=by unfold Instr.makeInterface;refine .bind (al.underlying b t) λσ d c a⟨e,_⟩=>?_;subst e;cases d<;>first|exact .stuck|exact .pure (.iface t (h.mono a))
def agn(b:C.b_)(p:C.sR)(t:uaa){l l' c c':Value}(h:ap ρ l l')(k:ap ρ c c'):al C ρ ap (Instr.makeSlice t l c) (Instr.makeSlice t l' c'):=by
 unfold Instr.makeSlice;refine .bind (al.underlying b t) λσ d L j⟨e,_⟩=>?_;subst e;cases d with
 |slice elem=>
  simp only[];refine .bind (al.asInt (h.mono j)) λaU n F w e=>?_;subst e;refine .bind (al.asInt ((k.mono j).mono w)) λK m H J e=>?_;subst e;refine .bind (al.typeInfo b elem) λE i i' I⟨e,_⟩=>?_;subst e;refine .ite (λ_=>.ite (λ_=>.cut (al.runtimePanic b _)) (λ_=>.ite (λ_=>.cut (al.runtimePanic b _)) (λ_=>.bind (al.choose _) λD x y _ e=>by subst e;exact .cut (al.runtimePanic b _)))) (λ_=>?_);refine .bind (al.askRoom _) λB _ _ _ _=>.bind (al.sizeOf b elem) λM s s' _ e=>?_;subst e;refine .ite (λ_=>.bind (R:=λ_ x y=>x=y/\kl x) (.pure ⟨U,λi v h=>AN⟩) λf z o _⟨e,g⟩=>?_)
   (λ_=>.bind (al.zeroValue b p elem) λf y y' _⟨u,q⟩=>.bind (R:=λ_ x y=>x=y/\kl x) (.pure ⟨by rw[u],q.cells⟩) λA z o _⟨e,g⟩=>?_)
  all_goals
   subst e;exact .bind (al.newRow elem ((g.OS _).rel _)) λ_ a a' _ r=>.pure (.slice _ _ r)
 | _=>exact .stuck
def agp(t:uaa):al C ρ ap (Instr.makeMap t none) (Instr.makeMap t none):=.bind (al.new (.map 0 .nil)) λ_ a b _ r=>.pure (.map r.1)
def agq{x:Value}(h:ap ρ x x')(i:Nat):al C ρ ap (Instr.extract x i) (Instr.extract x' i):=by
 unfold Instr.extract;cases h with
 |@tuple a a' hs h=>simp only[];cases c:a[i]? with|none=>exact .stuck|some v=>obtain⟨v',b,d⟩:=aL.some ⟨hs,h⟩ c;rw[b];exact .pure d
 | _=>exact .stuck
def Vw{x:Value}(h:ap ρ x x'):al C ρ (λ_ a b=>a=b) (Builtin.lenOf x) (Builtin.lenOf x'):=by cases h<;>first|exact .pure U|exact .stuck
def KV(size n:Nat){x:Value}(h:ap ρ x x'):al C ρ aL (Builtin.firstCells size n x) (Builtin.firstCells size n x'):=by
 cases h with
 |h7 l c=>exact .pure (.nil ρ)
 |slice l c r=>exact al.loadCells r _
 |string s=>refine .pure ⟨U,λi v v' a d=>?_⟩;rw[a]at d;cases d;simp only[vbw,vaj]at a;obtain⟨b,_,rfl⟩:=a;exact .int _ _
 | _=>exact .stuck
theorem kl.zeroCells(h:kl z)(n:Nat):kl (Builtin.zeroCells z n):=h.OS _
end
end
variable{qW:dC}
section
attribute [-simp] Sem.runT_eq
section
variable{C:cy}{ρ:Ren}
def OV(P:ck)(w:aH)(a:Addr)(n:Nat):∃b,(Builtin.holdsCells a n).run P w=.ok b w:=by unfold Builtin.holdsCells;rw[mc];simp only[Go.shape,Sem.run];cases w.shape? a.block<;>exact⟨_,U⟩
def agr(P:ck)(w:aH)(size d n:Nat)(base:uad)(x:Value):∃b,(Builtin.mayShare size d n base x).run P w=.ok b w:=by
 unfold Builtin.mayShare;cases base with
 |none=>
  simp only[];rw[mc];simp only[Pure.pure,Sem.run,Bool.not_true,vai,vcj];split
  .obtain⟨y,c⟩:=OV P w _ (n*size);exact⟨_,by rw[mc,c];rfl⟩
  simp_all
 |some a=>
  simp only[];obtain⟨y,c⟩:=OV P w a (d*size);rw[mc,c];simp only[];rw[mc];simp only[Go.frozen,Sem.run];rw[mc];simp only[Pure.pure,Sem.run];split
  .simp_all
  .split
   .obtain⟨y,c⟩:=OV P w _ (n*size);exact⟨_,by rw[mc,c];rfl⟩
   simp_all
def ags(f:C.b_)(m:C.sR)(ats:uau)(t:uaa){args:dC}(h:aL ρ args qW):al C ρ ap (Builtin.append_ ats t args) (Builtin.append_ ats t qW):=by
 unfold Builtin.append_;cases h0:ats[0]? with|none=>exact .stuck|some y=>
 cases N:args[0]? with|none=>exact .stuck|some s=>
 cases M:args[1]? with|none=>exact .stuck|some x=>
 obtain⟨s',P,hs⟩:=h.some N;obtain⟨x',O,g⟩:=h.some M;rw[P,O];refine .bind (al.underlying f y) λσ d X l⟨e,_⟩=>?_;subst e;cases d with
 |slice elem=>
  have F:=hs.mono l;replace g:=g.mono l;have E:=F;cases F<;>first|exact .stuck|skip
  all_goals
   refine .bind (al.sizeOf f elem) λY size _ l1 e=>?_;subst e;cases ats[1]?<;>try(refine .bind (al.underlying f _) λaU d _ l2⟨e,_⟩=>?_;subst e;replace l1:=Ren.le_trans l1 l2)
  all_goals
   refine .bind (R:=λ_ a b=>a=b) (.pure rfl) λaU z _ l2 e=>?_;subst e;replace l1:=Ren.le_trans l1 l2;refine .ite (λ_=>.bind (al.asInt (g.mono l1)) λB n _ l2 e=>?_) (λ_=>.bind (Vw (g.mono l1)) λB n _ l2 e=>?_)
  all_goals
   subst e;replace l1:=Ren.le_trans l1 l2;try
    refine .ite (λ_=>.cut (al.runtimePanic f _)) (λ_=>.bind (al.typeInfo f elem) λKW i _ u⟨e,_⟩=>?_);subst e;refine .ite (λ_=>.bind (al.choose _) λ_ _ _ _ e=>by subst e;exact .cut (al.runtimePanic f _)) (λ_=>.bind (R:=λ_ a b=>a=b) (.pure rfl) λB k _ q e=>?_);subst e;replace l1:=Ren.le_trans (Ren.le_trans l1 u) q
  all_goals
   refine .ite (λ_=>.bind (.ite (λ_=>KV _ _ (g.mono l1)) (λ_=>.ite (λ_=>.pure (.nil _)) (λ_=>.bind (al.zeroValue f m elem) λaU z D _⟨e,j⟩=>HT))) λσ a a' l p=>?_) (λ_=>.bind (al.typeInfo f elem) λσ i i' l2⟨e,_⟩=>?_)
   .have V:=E.mono (Ren.le_trans l1 l);cases V;first|exact .pure (.h7 _ _)|skip
    all_goals
     rename_i r;exact .bind (al.storeCells (r.add _) (de.A4 p) 0) λaU _ _ l2 _=>.pure (.slice _ _ (r.mono l2))
   .subst e;refine .ite (λ_=>.cut (al.runtimePanic f _)) (λ_=>.bind (al.typeInfo f elem) λOX i i' u⟨e,_⟩=>?_);subst e;refine .ite (λ_=>.cut (.ite (λ_=>al.runtimePanic f _) (λ_=>.none λw=>?_))) (λ_=>.bind (al.choose _) λW c c' q e=>?_)
    .obtain⟨b,K⟩:=agr C.P w size _ _ _ x;rw[mc,K];cases b<;>exact id
    .subst e;refine .bind (al.typeInfo f elem) λZ i _ L⟨e,_⟩=>.bind (by subst e;exact al.askRoom _) λU _ _ A _=>?_;replace l1:=Ren.le_trans (Ren.le_trans (Ren.le_trans (Ren.le_trans (Ren.le_trans l1 l2) u) q) L) A;refine .bind (KV _ _ (E.mono l1)) λT o o' A J=>.bind (.ite (λ_=>KV _ _ (g.mono (Ren.le_trans l1 A))) (λ_=>.ite (λ_=>.pure (.nil _)) (λ_=>.bind (al.zeroValue f m elem) λaU z D _⟨e,j⟩=>HT))) λS a a' v p=>.bind (al.zeroValue f m elem) λQ z D H⟨e,j⟩=>?_;subst e;exact .bind (al.newRow elem (((J.mono (Ren.le_trans v H)).append (p.mono H)).append ((j.cells.zeroCells _).rel _))) λ_ r r' _ I=>.pure (.slice _ _ I)
 | _=>exact .stuck
end
end
variable{b b':Addr}
section
attribute [-simp] Sem.runT_eq
def p6(P:ck):Nat->TypeId->Bool
 |0,_=>true
 |d+1,t=>
  match P.underlying t with
  |some .bool|some (.int _)|some .string|some (.slice _)=>true
  |some (.struct fs)=>fs.all λf=>p6 P d f.type
  |some (.array _ e)=>p6 P d e
  | _=>false
section
variable{C:cy}{ρ:Ren}
abbrev b_{ao:Type}:Ren->ao->ao->Prop:=λ_ a b=>a=b
def OZ{ao aN:Type}{R:Ren->ao->aN->Prop}{m:Sem ao}{d:Sem aN}(h:(∀a b b',ρ.rel a b->ρ.rel a b'->b=b')->(∀a a' b,ρ.rel a b->ρ.rel a' b->a=a')->(∀g,g<=C.P.globals.size->ρ.rel g g)->al C ρ R m d):al C ρ R m d:=
 λS w w' c hg e=>h c.one c.inj c.nc S w w' c hg e
def VA{ao aN:Type}{c:Ren}{f f':ao->aN->Sem (ForInStep aN)}(l:List ao)(h:∀(ρ:Ren),Ren.le c ρ->∀a∈l,∀s,al C ρ b_ (f a s) (f' a s)):∀(ρ:Ren),Ren.le c ρ->∀(s:aN),al C ρ b_ (forIn l s f) (forIn l s f'):=by induction l with|nil=>intro ρ _ s;exact .pure U|cons a l g=>intro ρ d s;simp only[List.forIn_cons];refine .bind (h ρ d a Ab s) λσ x y l2 e=>?_;subst e;cases x with|done b=>exact .pure U|yield b=>grind[Ren.le_trans]
def O0{ao aN:Type}{f f':ao->aN->Sem (ForInStep aN)}(l:Array ao)(h:∀(σ:Ren),Ren.le ρ σ->∀a∈l,∀s,al C σ b_ (f a s) (f' a s))(s:aN):al C ρ b_ (forIn l s f) (forIn l s f'):=by rw[<-Array.forIn_toList,<-Array.forIn_toList];exact VA l.toList (λρ b a c s=>h ρ b a AN s) ρ (Ren.le_refl _) s
def O1{aN:Type}{f f':Nat->aN->Sem (ForInStep aN)}(n:Nat)(h:∀(σ:Ren),Ren.le ρ σ->∀i s,al C σ b_ (f i s) (f' i s))(s:aN):al C ρ b_ (forIn [0:n] s f) (forIn [0:n] s f'):=by rw[Std.Legacy.Range.forIn_eq_forIn_range',Std.Legacy.Range.forIn_eq_forIn_range'];exact VA _ (λρ b a _ s=>h ρ b a s) ρ (Ren.le_refl _) s
theorem VC(a:C.b_)(t:uaa):C.Q.underlyingId t=C.P.underlyingId t:=by grind[Program.underlyingId,Eu]
theorem agw(b:C.b_):∀(n:Nat)(t u:uaa),C.Q.alikeButTags n t u=C.P.alikeButTags n t u:=by intro n;induction n with|zero=>intro t u;rfl|succ n a=>simp_all[Program.alikeButTags,Eu]
theorem KX(a:C.b_)(t:uaa):C.Q.stoodInHeld t=C.P.stoodInHeld t:=by
 have e:C.Q.cutTypes=C.P.cutTypes:=by rw[a]
 unfold Program.stoodInHeld Program.stoodInAs;grind[A_,agw,VC,Eu,Ev]
abbrev agx(ρ:Ren)(a b:Option (Addr×Bool)):Prop:=mJ (λx y=>dq ρ x.1 y.1/\x.2=y.2) a b
def agy(h:ρ.rel r r'):al C ρ agx (numberAt r) (numberAt r'):=by
 unfold numberAt;refine .bind (al.shape h) λσ s s' c e=>?_;subst e;refine .ite (λ_=>.pure .none) (λ_=>?_);refine .bind (al.getObj (c.1 _ _ h)) λaU o o' _ hg=>?_;obtain⟨b,hn,_⟩:=hg;cases b with
 |shut a=>cases o'<;>first|exact a.elim|exact .pure .none
 |number h l=>exact .pure (.some ⟨h,U⟩)
 | _=>exact .pure .none
def zC(h:dq ρ a a'):al C ρ (λσ x y=>dq σ x.1 y.1/\x.2=y.2) (behindNumber a) (behindNumber a'):=by unfold behindNumber;refine .bind (agy h.1) λσ x y b hn=>.pure ?_;cases hn with|none=>exact⟨h.mono b,U⟩|some k=>exact k
def dq.KY(one:∀a b b',ρ.rel a b->ρ.rel a b'->b=b')(inj:∀a a' b,ρ.rel a b->ρ.rel a' b->a=a')(h:dq ρ a a')(k:dq ρ b b'):(a==b)=(a'==b')/\(a.block==b.block)=(a'.block==b'.block):=by obtain⟨b1,l,e⟩:=a;obtain⟨t,j,d⟩:=a';obtain⟨s,i,f⟩:=b;obtain⟨cH,g,c⟩:=b';obtain⟨r,q,p⟩:=h;obtain⟨o,n,m⟩:=k;grind
def VD(g:C.b_):∀(d:Nat)(t:uaa),p6 C.P d t=true->∀(ρ:Ren){x x' y y':Value},ap ρ x x'->ap ρ y y'->al C ρ b_ (Op.equalIn d t x y) (Op.equalIn d t x' y'):=by
 intro d;induction d with
 |zero=>intro t _ ρ x x' y y' _ _;exact .unsupported
 |succ d R=>
  intro t ht ρ x x' y y' Z Y;unfold Op.equalIn;refine .bind (al.underlying g t) λσ u Q S⟨e,hu⟩=>?_;subst e;simp only[p6,hu]at ht;have w:=Z.mono S;have j:=Y.mono S;cases u with
  |bool=>
   cases w with
   |bool a=>cases j with|bool b=>exact .pure rfl| _=>exact .stuck
   | _=>exact .stuck
  |int k=>
   cases w with
   |int H n1=>
    cases j with
    |int A T=>exact .ite (λ_=>.pure rfl) (λ_=>.stuck)
    |ptr r=>
     cases n1 with
     |ofNat m=>cases m with|zero=>exact .pure rfl|succ m=>exact .unsupported
     |negSucc m=>exact .unsupported
    |lg=>
     cases n1 with
     |ofNat m=>cases m with|zero=>exact .unsupported|succ m=>exact .unsupported
     |negSucc m=>exact .unsupported
    | _=>exact .stuck
   |ptr r=>
    cases j with
    |int A T=>
     cases T with
     |ofNat m=>cases m with|zero=>exact .pure rfl|succ m=>exact .unsupported
     |negSucc m=>exact .unsupported
    |ptr X=>
     refine .bind (zC r) λV p P l1⟨hp,_⟩=>.bind (zC (X.mono l1)) λOX q q' l2⟨hq,_⟩=>.bind .program λE r r' U⟨D,B⟩=>?_;subst D;subst B;have F:=hp.mono (Ren.le_trans l2 U);have W:=hq.mono U;refine OZ λone inj nc=>?_;have fW:C.Q.globals.size=C.P.globals.size:=by rw[g]
     obtain⟨D,B⟩:=dq.KY one inj F W;have e3:decide (p.1.block<C.P.globals.size)=decide (P.1.block<C.Q.globals.size):=by
      rw[fW];have:p.1.block<C.P.globals.size↔P.1.block<C.P.globals.size:=by
       constructor
       .intro h;have:=one _ _ _ (nc _ (Nat.le_of_lt h)) F.1;omega
       .intro h;have:=inj _ _ _ (nc _ (Nat.le_of_lt h)) F.1;omega
      grind
     rw[<-B,<-e3,<-D];refine .ite (λ_=>.bind (Bb g F) λVy x x' hM e=>.bind (Bb g (W.mono hM)) λagu y y' _ e'=>.pure AN) (λ_=>.bind (al.typeInfo g t) λVy i i' _⟨e,_⟩=>?_);subst e;split
     .exact .ite (λ_=>.pure rfl) (λ_=>.unsupported)
     .exact .unsupported
    | _=>exact .unsupported
   |lg=>cases j<;>exact .unsupported
   | _=>cases j<;>first|exact .stuck|exact .unsupported
  |string=>
   cases w with
   |string a=>cases j with|string b=>exact .pure rfl| _=>exact .stuck
   | _=>exact .stuck
  |slice e=>
   cases w with
   |h7 l c=>cases j with|h7 l c=>exact .pure rfl|slice l c r=>exact .pure rfl| _=>exact .stuck
   |slice l c r=>cases j with|h7 l c=>exact .pure rfl|slice l c r=>exact .stuck| _=>exact .stuck
   | _=>exact .stuck
  |struct fields=>
   cases w with
   |agg J M=>
    cases j with
    |agg K L=>
     simp only[vap]at ht;refine .bind .program λV p q l1⟨D,B⟩=>?_;subst D;subst B;rw[KX g];refine .ite (λ_=>.cut .unsupported) (λ_=>?_)
     .refine .bind (O0 fields (λaU lt f hf s=>.ite (λ_=>?_) (λ_=>.pure rfl)) _) λE x y _ e=>by subst e;obtain⟨o,_⟩:=x;cases o<;>exact(.pure rfl:al C E b_ (Pure.pure _) (Pure.pure _))
      have z:=Ren.le_trans l1 lt;exact .bind (al.part g _ (aL.mono z ⟨J,M⟩) _) λBd u Q H O=>.bind (al.part g _ (aL.mono (Ren.le_trans z H) ⟨K,L⟩) _) λI v v' A N=>
       .bind (R _ (ht f hf) I (O.mono A) N) λKW b b' _ e=>Cc
    | _=>exact .stuck
   | _=>exact .stuck
  |array n e=>
   cases w with
   |agg J M=>
    cases j with
    |agg K L=>
     refine .bind (al.sizeOf g e) λV m m' l1 em=>?_;subst em;refine .bind (O1 n (λaU lt i s=>?_) _) λE x y _ e=>by subst e;obtain⟨o,_⟩:=x;cases o<;>exact(.pure rfl:al C E b_ (Pure.pure _) (Pure.pure _))
     have z:=Ren.le_trans l1 lt;exact .bind (al.part g _ (aL.mono z ⟨J,M⟩) _) λBd u Q H O=>.bind (al.part g _ (aL.mono (Ren.le_trans z H) ⟨K,L⟩) _) λI v v' A N=>
      .bind (R _ ht I (O.mono A) N) λKW b b' _ e=>Cc
    | _=>exact .stuck
   | _=>exact .stuck
  | _=>cases ht
end
end
variable{k' y y':Value}
section
attribute [-simp] Sem.runT_eq
section
variable{C:cy}{ρ:Ren}
def VF(a:C.b_)(empty:Bool):∀(n:Nat)(t:uaa),p6 C.P n t=true->∀(ρ:Ren){v v':Value},ap ρ v v'->al C ρ (λ_(_ _:Unit)=>True) (Instr.checkKey empty n t v) (Instr.checkKey empty n t v'):=by
 intro n;induction n with
 |zero=>intro t _ ρ v v' _;exact .unsupported
 |succ n g=>
  intro t ht ρ v v' hv;unfold Instr.checkKey;refine .bind (al.underlying a t) λσ u y o⟨e,l⟩=>?_;subst e;simp only[p6,l]at ht;have b:=hv.mono o;cases u with
  |struct fields=>cases b with|agg hs h=>simp only[vap]at ht;refine .bind (O0 fields (λaU lt f p s=>.ite (λ_=>?_) (λ_=>.pure U)) _) λ_ _ _ _ _=>.pure trivial;exact .bind (al.part a _ (aL.mono lt ⟨hs,h⟩) _) λd x x' k c=>.bind (g _ (ht f p) d c) λj _ _ _ _=>.pure U| _=>exact .stuck
  |array len e=>cases b with|agg hs h=>refine .bind (O1 len (λaU lt i s=>?_) _) λ_ _ _ _ _=>.pure trivial;refine .bind (al.sizeOf a e) λr m w q em=>?_;subst em;exact .bind (al.part a _ (aL.mono (Ren.le_trans lt q) ⟨hs,h⟩) _) λd x x' k c=>.bind (g _ ht d c) λj _ _ _ _=>.pure U| _=>exact .stuck
  |bool|int|string|slice=>cases b<;>exact .pure trivial
  | _=>cases ht
abbrev nf(ρ:Ren):List MapEntry->List MapEntry->Prop:=de (zz ρ)
theorem nf.mono{σ:Ren}(a:Ren.le ρ σ){l l':List MapEntry}(h:nf ρ l l'):nf σ l l':=de.mono (λ_ _ x=>x.mono a) h
def O2(ρ:Ren)(a b:Option (Nat×Value)):Prop:=mJ (λx y=>x.1=y.1/\ap ρ x.2 y.2) a b
def agA(g:C.b_)(t:uaa)(ht:p6 C.P Op.maxDepth t=true):∀(l l':List MapEntry)(ρ:Ren)(i:Nat){k k':Value},ap ρ k k'->nf ρ l l'->al C ρ O2 (Instr.findAsking t k l i) (Instr.findAsking t k' l' i):=by intro l;induction l with|nil=>intro l' ρ i k k' _ h;cases h;exact .pure .none|cons e l d=>intro l' ρ i k k' hk h;cases h with|cons c f=>simp only[Instr.findAsking];refine .bind (VD g Op.maxDepth t ht ρ hk c.key) λσ b b' a j=>?_;subst j;exact .ite (λ_=>.pure (.some ⟨U,c.val.mono a⟩)) (λ_=>d _ σ (i+1) (hk.mono a) (nf.mono a f))
def agB(d:TypeDesc){x:Value}(b:ap ρ x x')(a:ap ρ y y'):Instr.sameNow d x y=Instr.sameNow d x' y':=by cases d<;>cases b<;>first|rfl|(cases a<;>rfl)
def agC(d:TypeDesc){k:Value}(hk:ap ρ k k'):∀(l l':List MapEntry)(i:Nat),nf ρ l l'->mJ (O2 ρ) (Instr.findNow d k l i) (Instr.findNow d k' l' i):=by
 intro l;induction l with
 |nil=>intro l' i h;cases h;exact .some .none
 |cons e l c=>
  intro l' i h;cases h with
  |cons a f=>
   simp only[Instr.findNow,<-agB d hk a.key];cases Instr.sameNow d k e.key with
   |none=>exact .none
   |some b=>
    cases b
    .exact c _ (i+1) f
    .exact .some (.some ⟨U,a.val⟩)
def VG(d:C.b_)(t:uaa)(ht:p6 C.P Op.maxDepth t=true){l l':List MapEntry}{k:Value}(hk:ap ρ k k')(h:nf ρ l l'):al C ρ O2 (Instr.findKey t k l) (Instr.findKey t k' l'):=by unfold Instr.findKey;refine .bind (al.underlying d t) λσ u f c⟨e,g⟩=>?_;subst e;have:=agC (ρ:=σ) u (hk.mono c) l l' 0 (h.mono c);revert this;generalize Instr.findNow u k l 0=a;generalize Instr.findNow u k' l' 0=b;intro this;cases this with|none=>exact agA d t ht l l' σ 0 (hk.mono c) (h.mono c)|some h=>exact .pure h
def xl(P:ck)(t:uaa):Bool:=
 match P.underlying t with
 |some (.map k _)=>p6 P Op.maxDepth k
 | _=>true
def agD(d:C.b_)(q:C.sR)(t:uaa)(ht:xl C.P t=true){x:Value}(w:ap ρ x x')(hi:ap ρ i i')(ok:Bool):al C ρ ap (Instr.lookup t x i ok) (Instr.lookup t x' i' ok):=by
 unfold Instr.lookup;refine .bind (al.underlying d t) λσ u M m⟨e,y⟩=>?_;subst e;cases u with
 |map key elem=>
  simp only[xl,y]at ht;have E:=w.mono m;cases E<;>first|exact .stuck|skip
  all_goals first|(refine .bind (R:=λσ es es'=>nf σ es.toList es'.toList) (.pure .nil) λaU es es' l1 c=>?_)|(rename_i j;refine .bind (al.getObj j) λF o o' l0 hg=>?_;obtain⟨A,-,-⟩:=hg;cases A<;>first|exact .stuck|skip;rename_i h;refine .bind (R:=λσ es es'=>nf σ es.toList es'.toList) (.pure h) λaU es es' l1 c=>?_;replace l1:=Ren.le_trans l0 l1)
  all_goals
   have B:es.isEmpty=es'.isEmpty:=by have:=c.length;simp at this;simp[Array.isEmpty,this]
   have l:=hi.mono (Ren.le_trans m l1);have dU:∀(f:Ren)(v v':Value)(b:Bool),ap f v v'->ap f (if ok then .tuple #[v,.bool b]else v) (if ok then .tuple #[v',.bool b]else v'):=by
    intro f v v' b h;cases ok
    .exact h
    .exact .A2 (by simpa using aL.append (aL.one h) (aL.one (.bool b)))
   dsimp only;rw[<-B];refine .bind (VF d _ 10000 key ht aU l) λf _ _ l2 _=>.bind (VG d key ht (l.mono l2) (c.mono l2)) λK r r' D j=>?_;cases j with|none=>refine .bind (al.zeroValue d q elem) λI z J D⟨e,s⟩=>?_;subst e;exact .bind (R:=λσ a b=>a.2=b.2/\ap σ a.1 b.1) (.pure ⟨U,s.rel _⟩) λH p g _ k=>.pure Eg|@some a b h=>obtain⟨n,v⟩:=a;obtain⟨L,v'⟩:=b;exact .bind (R:=λσ a b=>a.2=b.2/\ap σ a.1 b.1) (.pure ⟨U,h.2⟩) λH p g _ k=>.pure Eg
 | _=>exact .stuck
end
end
section
attribute [-simp] Sem.runT_eq
section
variable{C:cy}{ρ:Ren}
def agE{f g:Value×Value->Bool}:∀(l l' m a:uam),de (ap ρ) l l'->de (ap ρ) m a->(∀x x' y y',ap ρ x x'->ap ρ y y'->f (x,y)=g (x',y'))->(l.zip m).all f=(l'.zip a).all g:=by intro l;induction l with|nil=>intro l' m a h k e;cases h;simp|cons x l b=>intro l' m a h k e;cases h with|cons d ht=>cases k with|nil=>simp|cons c i=>simp only[List.zip_cons_cons,vbi,e _ _ _ _ d c,b _ _ _ ht i e]
def agF(one:∀a b b',ρ.rel a b->ρ.rel a b'->b=b')(inj:∀a a' b,ρ.rel a b->ρ.rel a' b->a=a'):∀(n:Nat){x x' y y':Value},ap ρ x x'->ap ρ y y'->Instr.sameBits n x y=Instr.sameBits n x' y':=by
 intro n;induction n with
 |zero=>
  intro x x' y y' e c;cases e with
  |ptr r=>cases c with|ptr d=>have:=(dq.KY one inj r d).1;simp only[Instr.sameBits];rw[Bool.eq_iff_iff]at this⊢;simpa using this| _=>rfl
  | _=>cases c<;>rfl
 |succ n g=>
  intro x x' y y' e c;cases e with
  |ptr r=>cases c with|ptr d=>have:=(dq.KY one inj r d).1;simp only[Instr.sameBits];rw[Bool.eq_iff_iff]at this⊢;simpa using this| _=>rfl
  |iface t h=>cases c with|iface u k=>simp only[Instr.sameBits,g h k]| _=>rfl
  |agg hs h=>
   cases c with
   |agg f i=>
    simp only[Instr.sameBits,hs,f];congr 1
    exact agE _ _ _ _ (de.A4 ⟨hs,h⟩) (de.A4 ⟨f,i⟩) λ_ _ _ _ a b=>g a b
   | _=>rfl
  | _=>cases c<;>rfl
def agG{a a' b b':Value}(h:ap ρ a a')(k:ap ρ b b'):al C ρ ap (Instr.keyThatStays a b) (Instr.keyThatStays a' b'):=by
 refine OZ λone inj _=>?_;unfold Instr.keyThatStays;rw[<-agF one inj 10000 h k];refine .ite (λ_=>.pure k) (λ_=>.bind (al.choose _) λσ x y c e=>?_);subst e;refine .pure ?_;split
 .exact k.mono c
 .exact h.mono c
def nf.get{l l':List MapEntry}(h:nf ρ l l'):∀i:Nat,mJ (zz ρ) l[i]? l'[i]?:=by induction h with|nil=>intro i;simp;exact .none|cons b _ a=>intro i;cases i with|zero=>simp;exact .some b|succ i=>simpa using a i
theorem nf.modify{l l':List MapEntry}(h:nf ρ l l'){f g:MapEntry->MapEntry}(d:∀e b,zz ρ e b->zz ρ (f e) (g b)):∀i,nf ρ (l.modify i f) (l'.modify i g):=by induction h with|nil=>intro i;simp;exact .nil|cons a ht c=>intro i;cases i with|zero=>simp only[List.modify_zero_cons];exact .cons (d _ _ a) ht|succ i=>simp only[List.modify_succ_cons];exact .cons a (c i)
def agH{a b a' b':Value}(h:ap ρ a a')(k:ap ρ b b'):aL ρ #[a,b] #[a',b']:=by simpa using aL.append (aL.one h) (aL.one k)
def agI(f:C.b_)(t:uaa)(ht:xl C.P t=true){m s k:Value}(H:ap ρ m s)(hk:ap ρ k k')(hv:ap ρ v v'):al C ρ (λ_(_ _:Unit)=>True) (Instr.mapUpdate t m k v) (Instr.mapUpdate t s k' v'):=by
 unfold Instr.mapUpdate;refine .bind (al.underlying f t) λσ u P z⟨e,l⟩=>?_;subst e;cases u with
 |map key elem=>
  simp only[xl,l]at ht;have D:=H.mono z;cases D with
  |pe=>exact al.runtimePanic f _
  |map w=>
   refine .bind (al.getObj w) λaU o o' l1 hg=>?_;obtain⟨F,_,L⟩:=hg;cases F with
   |@map es es' clock h=>
    have mine:aU.mine _:=L.resolve_right λy=>by cases y
    have n:=Ren.le_trans z l1;refine .bind (VF f false 10000 key ht aU (hk.mono n)) λQ _ _ l2 _=>?_;refine .bind (VG f key ht (hk.mono (Ren.le_trans n l2)) (nf.mono l2 h)) λB r r' g I=>?_;have c:=Ren.le_trans (Ren.le_trans n l2) g;have A:=g.1 _ _ (l2.1 _ _ (l1.1 _ _ w));have p:=g.2 _ (l2.2 _ mine);have j:=nf.mono (Ren.le_trans l2 g) h;cases I with
    |none=>refine al.setObj A p (.map _ ?_) Ab;simp only[Array.toList_push];exact de.append j (.cons ⟨hk.mono c,hv.mono c,U⟩ .nil)
    |@some a b K=>
     obtain⟨i,x⟩:=a;obtain⟨i',x'⟩:=b;obtain⟨rfl,E⟩:i=i'/\_:=K;simp only[]at E⊢;have hold:=nf.get j i;rw[vdl,vdl]at hold;refine .bind (agG (ρ:=B) ?_ (hk.mono c)) λN q O d hq=>?_
     .revert hold;generalize es[i]?=a;generalize es'[i]?=b;intro hold;cases hold with|none=>exact hk.mono c|some M=>exact M.key
     .refine al.setObj (d.1 _ _ A) (d.2 _ p) (.map _ ?_) Ab;rw[Array.toList_modify,Array.toList_modify];refine nf.modify (nf.mono d j) (λe R J=>?_) i;exact⟨hq,hv.mono (Ren.le_trans c d),J.born⟩
   | _=>exact .stuck
  | _=>exact .stuck
 | _=>exact .stuck
end
end
section
attribute [-simp] Sem.runT_eq
section
variable{C:cy}{ρ:Ren}
theorem aL.two{a b a' b':Value}(h:ap ρ a a')(k:ap ρ b b'):aL ρ #[a,b] #[a',b']:=by simpa using aL.append (aL.one h) (aL.one k)
def agK(b:C.b_)(ats:uau)(t:uaa){args:dC}(h:aL ρ args qW):al C ρ ap (Builtin.len_ ats t args) (Builtin.len_ ats t qW):=by
 unfold Builtin.len_;cases h0:ats[0]? with|none=>exact .stuck|some ty=>
 cases m:args[0]? with|none=>exact .stuck|some x=>
 obtain⟨x',p,f⟩:=h.some m;rw[p];refine .bind (al.underlying b ty) λσ u d j⟨e,_⟩=>?_;subst e;have a:=f.mono j;cases u with
 |string=>cases a with|string s=>exact .pure (.int _ _)| _=>exact .stuck
 |array n e=>exact .pure (.int _ _)
 |pointer arr=>refine .bind (al.underlying b arr) λaU u d _⟨e,_⟩=>?_;subst e;cases u with|array n e=>exact .pure (.int _ _)| _=>exact .stuck
 |slice e=>cases a with|h7 l c=>exact .pure (.int _ _)|slice l c r=>exact .pure (.int _ _)| _=>exact .stuck
 |map k e=>
  cases a with
  |pe=>exact .pure (.int _ _)
  |map g=>
   refine .bind (al.getObj g) λaU o o' l1 hg=>?_;obtain⟨i,_,_⟩:=hg;cases i with
   |@map es es' clock h=>
    have:es.size=es'.size:=by simpa using h.length
    refine .pure ?_;rw[this];exact .int _ _
   | _=>exact .stuck
  | _=>exact .stuck
 |chan k e=>cases a with|pf=>exact .pure (.int _ _)| _=>exact .stuck
 | _=>exact .stuck
def agL(a:C.b_)(ats:uau)(t:uaa){args:dC}(h:aL ρ args qW):al C ρ ap (Builtin.cap_ ats t args) (Builtin.cap_ ats t qW):=by
 unfold Builtin.cap_;cases h0:ats[0]? with|none=>exact .stuck|some ty=>
 cases i:args[0]? with|none=>exact .stuck|some x=>
 obtain⟨x',j,f⟩:=h.some i;rw[j];refine .bind (al.underlying a ty) λσ u d g⟨e,_⟩=>?_;subst e;have b:=f.mono g;cases u with
 |array n e=>exact .pure (.int _ _)
 |pointer arr=>refine .bind (al.underlying a arr) λaU u d _⟨e,_⟩=>?_;subst e;cases u with|array n e=>exact .pure (.int _ _)| _=>exact .stuck
 |slice e=>cases b with|h7 l c=>exact .pure (.int _ _)|slice l c r=>exact .pure (.int _ _)| _=>exact .stuck
 |chan k e=>cases b with|pf=>exact .pure (.int _ _)| _=>exact .stuck
 | _=>exact .stuck
def agM(d:C.b_)(ats:uau)(t:uaa){args:dC}(h:aL ρ args qW):al C ρ ap (Builtin.copy_ ats t args) (Builtin.copy_ ats t qW):=by
 unfold Builtin.copy_;cases h0:ats[0]? with|none=>exact .stuck|some ty=>
 cases l:args[0]? with|none=>exact .stuck|some x=>
 cases k:args[1]? with|none=>exact .stuck|some y=>
 obtain⟨x',o,i⟩:=h.some l;obtain⟨y',m,b⟩:=h.some k;rw[o,m];refine .bind (al.underlying d ty) λσ u w a⟨e,_⟩=>?_;subst e;cases u with
 |slice elem=>
  have f:=i.mono a;have g:=f;cases f<;>first|exact .stuck|skip
  all_goals
   refine .bind (Vw (b.mono a)) λaU n v l1 e=>?_;subst e;refine .bind (al.sizeOf d elem) λz s s' l2 e=>?_;subst e;refine .bind (KV s _ (b.mono (Ren.le_trans (Ren.le_trans a l1) l2))) λq c c' p j=>?_;cases g
  .exact .pure (.int _ _)
  .rename_i r;exact .bind (al.storeCells (r.mono (Ren.le_trans (Ren.le_trans l1 l2) p)) (de.A4 j) 0) λ_ _ _ _ _=>.pure (.int _ _)
 | _=>exact .stuck
def VH(op:BinOp)(k:IntKind)(x y:Int):al C ρ ap (Op.intArith op k x y) (Op.intArith op k x y):=by unfold Op.intArith;cases op<;>first|exact .stuck|exact .pure (.int _ _)
def agN(a:C.b_)(op:BinOp)(k:IntKind)(x y:Int):al C ρ ap (Op.intDiv op k x y) (Op.intDiv op k x y):=by unfold Op.intDiv;repeat' first|exact .stuck|exact .pure (.int _ _)|exact al.runtimePanic a _ |split
def agO(op:BinOp)(x y:Int):al C ρ ap (Op.intCmp op x y) (Op.intCmp op x y):=by unfold Op.intCmp;cases op<;>first|exact .stuck|exact .pure (.bool _)
theorem O4(op:BinOp)(x y:ByteArray):al C ρ ap (Op.stringOp op x y) (Op.stringOp op x y):=by unfold Op.stringOp;cases op with|add=>exact .ite (λ_=>.unsupported) (λ_=>.pure (.string _))| _=>first|exact .stuck|exact .pure (.bool _)
def VI:UnOp->Bool
 | .xor=>false
 | _=>true
def agP(op:UnOp)(a:VI op=true){x:Value}(h:ap ρ x x'):al C ρ ap (Op.unary op x) (Op.unary op x'):=by
 unfold Op.unary;cases op with
 |neg=>cases h with|int k n=>exact VH _ _ _ _|ptr r=>exact .unsupported| _=>exact .stuck
 |xor=>cases a
 |not=>cases h with|bool b=>exact .pure (.bool _)| _=>exact .stuck
 |plus=>cases h<;>exact .stuck
end
end
section
attribute [-simp] Sem.runT_eq
section
variable{C:cy}{ρ:Ren}
theorem agQ(c:C.b_):∀(d:Nat)(t:uaa)(b:Nat),cellOfByte C.Q d t b=cellOfByte C.P d t b:=by intro d;induction d with|zero=>intro t b;rfl|succ d a=>grind[cellOfByte,A_,Ba,KS]
def agR(a:C.b_)(d:Nat)(e:uaa)(c o:Nat)(b:Int):cellAtBytes C.Q d e c o b=cellAtBytes C.P d e c o b:=by grind[cellAtBytes,Ba,KS,Vr,agQ]
def VJ(a:C.b_)(ats:uau)(t:uaa){x:Value}(i:ap ρ x x')(h:ap ρ y y'):al C ρ ap (Builtin.unsafeAdd_ ats t #[x,y]) (Builtin.unsafeAdd_ ats t #[x',y']):=by
 obtain⟨b,b',g,rfl,rfl⟩|hs:(∃b b',mJ (dq ρ) b b'/\x=.pointer b/\x'=.pointer b')\/al C ρ ap (Builtin.unsafeAdd_ ats t #[x,y]) (Builtin.unsafeAdd_ ats t #[x',y']):=by unfold Builtin.unsafeAdd_;cases i with|lg=>exact .inl ⟨none,none,.none,U,U⟩|ptr r=>exact .inl ⟨_,_,.some r,U,U⟩| _=>exact .inr .stuck
 .unfold Builtin.unsafeAdd_;refine .bind (al.asInt h) λσ n k l1 e=>?_;subst e;refine .ite (λ_=>?_) (λ_=>.ite (λ_=>.cut .unsupported) (λ_=>?_))
  .cases g with|none=>exact .unsupported|some r=>refine .bind (Vs (l1.1 _ _ r.1)) λaU v v' l2⟨f,d⟩=>?_;subst f;subst d;exact .pure (.ptr (r.mono (Ren.le_trans l1 l2)))
  .cases g with
   |none=>exact .unsupported
   |some r=>
    refine .bind (al.shape (l1.1 _ _ r.1)) λaU s s' l2 e=>?_;subst e;cases s with
    |none=>exact .unsupported
    |some ec=>
     obtain⟨e,c⟩:=ec;refine .bind .program λl p q j⟨f,d⟩=>?_;subst f;subst d;simp only[agR a,Ev a,Ba a];rw[<-r.2.1];split
     .exact .pure (.ptr ⟨j.1 _ _ (l2.1 _ _ (l1.1 _ _ r.1)),U,r.2.2⟩)
     .exact .unsupported
 grind
def O5(b:C.b_)(t:uaa){x:Value}(d:ap ρ x x')(c:ap ρ y y'):al C ρ ap (movedNumber t x y) (movedNumber t x' y'):=by
 unfold movedNumber;refine .bind (al.underlying b t) λσ u o l1⟨e,_⟩=>?_;subst e;refine .ite (λ_=>.cut .unsupported) (λ_=>?_);have j:=d.mono l1;cases j with
 |ptr r=>refine .bind (zC r) λaU p q l2 h=>?_;obtain⟨a,A6⟩:=p;obtain⟨a',k⟩:=q;obtain⟨i,rfl⟩:=h;refine .bind (VJ b #[] t (.ptr i) ((c.mono l1).mono l2)) λs v v' w hv=>?_;have g:=hv;cases hv with|ptr f=>exact .bind (al.new (.number f A6)) λl n m _ hn=>.pure (.ptr ⟨hn.1,U,U⟩)| _=>exact .pure g
 | _=>exact VJ b #[] t (ap.mono l1 d) (c.mono l1)
def VK(d:C.b_)(k:dq ρ a a')(j:dq ρ b b'):al C ρ b_ (Op.twoPlaces a b) (Op.twoPlaces a' b'):=by
 unfold Op.twoPlaces;refine .bind .program λσ p q l1⟨n,g⟩=>?_;subst n;subst g;refine OZ λone inj nc=>?_;have l:C.Q.globals.size=C.P.globals.size:=by rw[d]
 have c:=k.mono l1;have i:=j.mono l1;obtain⟨_,g⟩:=dq.KY one inj c i;have m:decide (a.block ≥ C.P.globals.size)=decide (a'.block ≥ C.Q.globals.size):=by
  rw[l];have:a.block<C.P.globals.size↔a'.block<C.P.globals.size:=by
   constructor
   .intro h;have:=one _ _ _ (nc _ (Nat.le_of_lt h)) c.1;omega
   .intro h;have:=inj _ _ _ (nc _ (Nat.le_of_lt h)) c.1;omega
  grind
 have f:(a.block != b.block)=(a'.block != b'.block):=AN;rw[f,m];exact .ite (λ_=>.cut .unsupported) (λ_=>.bind (Bb d c) λr x x' l2 e=>.bind (Bb d (i.mono l2)) λo y y' _ s=>.pure AN)
def agT(f:C.b_)(k:IntKind)(d:dq ρ a a')(c:dq ρ b b'):al C ρ ap (Op.addrSub k a b) (Op.addrSub k a' b'):=by unfold Op.addrSub;exact .bind (VK f d c) λσ x y _ e=>by subst e;exact .pure (.int _ _)
def agU(f:C.b_)(op:BinOp)(d:dq ρ a a')(c:dq ρ b b'):al C ρ ap (Op.addrCmp op a b) (Op.addrCmp op a' b'):=by unfold Op.addrCmp;exact .bind (VK f d c) λσ x y _ e=>by subst e;cases op<;>first|exact .unsupported|exact .pure (.bool _)
def agV(d:C.b_)(k:IntKind)(b:dq ρ a a')(n:Int):al C ρ ap (Op.addrMod k a n) (Op.addrMod k a' n):=by
 unfold Op.addrMod;refine .bind (al.shape b.1) λσ s s' l1 e=>?_;subst e;cases s with
 |none=>exact .unsupported
 |some ec=>
  obtain⟨e,c⟩:=ec;refine .bind (al.typeInfo d e) λaU i i' l2⟨e,_⟩=>?_;subst e;exact .ite (λ_=>.cut .unsupported)
   (λ_=>.bind (Bb d (b.mono (Ren.le_trans l1 l2))) λ_ x y _ e=>by subst e;exact .pure (.int _ _))
def VL(a:C.b_):∀(d:Nat)(t:uaa)(ρ:Ren){x x' y y':Value},ap ρ x x'->ap ρ y y'->al C ρ b_ (Op.eqGuardIn d t x y) (Op.eqGuardIn d t x' y'):=by
 intro d;induction d with
 |zero=>intro t ρ x x' y y' _ _;exact .unsupported
 |succ d E=>
  intro t ρ x x' y y' I H;unfold Op.eqGuardIn;refine .bind (al.underlying a t) λσ u D F⟨e,M⟩=>?_;subst e;have z:=I.mono F;have j:=H.mono F;cases u with
  |interface ms=>
   cases z with
   |nilIface=>cases j with|nilIface=>exact .pure U| _=>exact .pure U
   | _=>exact .pure U
  |struct fields=>
   cases z with
   |agg h r=>
    cases j with
    |agg p q=>
     refine .bind (O0 fields (λaU lt f N s=>.ite (λ_=>?_) (λ_=>.pure U)) _) λg x y _ e=>by subst e;obtain⟨o,_⟩:=x;cases o<;>exact(.pure U:al C g b_ (Pure.pure _) (Pure.pure _))
     exact .bind (al.part a _ (aL.mono lt ⟨h,r⟩) _) λK u D l A=>.bind (al.part a _ (aL.mono (Ren.le_trans lt l) ⟨p,q⟩) _) λc v v' k w=>
      .bind (E _ c (A.mono k) w) λJ b b' _ e=>Cc
    | _=>exact .pure U
   | _=>exact .pure U
  |array n e=>
   cases z with
   |agg h r=>
    cases j with
    |agg p q=>
     refine .bind (al.sizeOf a e) λO m L l1 em=>?_;subst em;refine .bind (O1 n (λaU lt i s=>?_) _) λg x y _ e=>by subst e;obtain⟨o,_⟩:=x;cases o<;>exact(.pure U:al C g b_ (Pure.pure _) (Pure.pure _))
     have B:=Ren.le_trans l1 lt;exact .bind (al.part a _ (aL.mono B ⟨h,r⟩) _) λK u D l A=>.bind (al.part a _ (aL.mono (Ren.le_trans B l) ⟨p,q⟩) _) λc v v' k w=>
      .bind (E _ c (A.mono k) w) λJ b b' _ e=>Cc
    | _=>exact .pure U
   | _=>exact .pure U
  | _=>exact .pure U
def VM(b:C.b_):∀(d:Nat)(t:uaa),C.Q.eqGuardType d t=C.P.eqGuardType d t:=by intro d;induction d with|zero=>intro t;rfl|succ d a=>grind[Program.eqGuardType,A_]
def agW(a:C.b_)(op:BinOp)(t:uaa)(p q:uaq){x:Value}(h:ap ρ x x')(c:ap ρ y y'):al C ρ (λ_(_ _:Unit)=>True) (eqGuard op t p q x y) (eqGuard op t p q x' y'):=by
 unfold eqGuard;refine .ite (λ_=>.pure trivial) (λ_=>?_);cases h with
 |nilIface=>cases c with|nilIface=>refine .ite (λ_=>.pure trivial) (λ_=>.bind (VL a _ t ρ .nilIface .nilIface) λσ b b' _ e=>?_);subst e;exact .ite (λ_=>.unsupported) (λ_=>.pure trivial)| _=>exact .pure trivial
 |agg f j=>cases c with|agg g i=>refine .bind .program λu p q l1⟨n,m⟩=>.bind .program λo s r l2⟨l,k⟩=>?_;subst n;subst m;subst l;subst k;rw[VM a,Ev a];have d:=Ren.le_trans l1 l2;refine .ite (λ_=>.pure trivial) (λ_=>.bind (VL a _ t o ((ap.agg f j).mono d) ((ap.agg g i).mono d)) λσ b b' _ e=>?_);subst e;exact .ite (λ_=>.unsupported) (λ_=>.pure trivial)| _=>exact .pure trivial
 | _=>exact .pure trivial
end
end
section
attribute [-simp] Sem.runT_eq
def zE(P:ck)(op:BinOp)(t:uaa):Bool:=
 match op with
 | .eql| .neq=>p6 P Op.maxDepth t
 | .shl| .and| .or| .xor| .andNot=>false
 | _=>match P.underlying t with|some .unsafePointer=>false| _=>true
section
variable{C:cy}{ρ:Ren}
def agX(c:C.b_)(t:uaa)(_:zE C.P .shr t=true)(k k':IntKind)(a b:Int):al C ρ ap (binOp .shr t (.int k a) (.int k' b)) (binOp .shr t (.int k a) (.int k' b)):=by show al C ρ ap (Op.shift .shr k a k' b) (Op.shift .shr k a k' b);unfold Op.shift;exact .ite (λ_=>al.runtimePanic c _) (λ_=>.pure (.int _ _))
def O6(d:C.b_)(op:BinOp)(t:uaa)(c:zE C.P op t=true)(k k':IntKind)(a b:Int):al C ρ ap (binOp op t (.int k a) (.int k' b)) (binOp op t (.int k a) (.int k' b)):=by cases op<;>first|cases c|exact agX d t c k k' a b|exact .ite (λ_=>.stuck) (λ_=>VH _ _ _ _)|exact .ite (λ_=>.stuck) (λ_=>agN d _ _ _ _)|exact .ite (λ_=>.stuck) (λ_=>agO _ _ _)
theorem O7(op:BinOp)(t:uaa)(a b:ByteArray):binOp op t (.string a) (.string b)=Op.stringOp op a b:=by cases op<;>rfl
def VO(c:C.b_){t:uaa}(ht:p6 C.P Op.maxDepth t=true){x:Value}(b:ap ρ x x')(a:ap ρ y y'):al C ρ b_ (Op.equal t x y) (Op.equal t x' y'):=VD c Op.maxDepth t ht ρ b a
def VP(f:C.b_){t:uaa}(ht:p6 C.P Op.maxDepth t=true){x:Value}(d:ap ρ x x')(c:ap ρ y y'):
 al C ρ ap (do pure (.bool (<-Op.equal t x y))) (do pure (.bool (<-Op.equal t x' y')))/\al C ρ ap (do pure (.bool (!(<-Op.equal t x y)))) (do pure (.bool (!(<-Op.equal t x' y')))):=
 ⟨.bind (VO f ht d c) λ_ a b _ e=>by subst e;exact .pure (.bool _),.bind (VO f ht d c) λ_ a b _ e=>by subst e;exact .pure (.bool _)⟩
def agY(a:C.b_)(op:BinOp)(t:uaa)(b:zE C.P op t=true){x:Value}(d:ap ρ x x')(c:ap ρ y y'):al C ρ ap (binOp op t x y) (binOp op t x' y'):=by
 have g:=d;have i:=c;cases op
 case eql=>exact(have hq:=(VP (ρ:=ρ) a b d c).1;EV)
 case neq=>exact(have hq:=(VP (ρ:=ρ) a b d c).2;EV)
 all_goals first|exact absurd b ved|skip
 all_goals cases d<;>cases c<;>first
  |exact .stuck
  |exact .unsupported
  |exact O6 a _ _ b _ _ _ _
  |(rw[O7];exact O4 _ _ _)
  |exact O5 a _ i g
  |exact O5 a t g (.int _ _)
  |exact .bind (zC (by assumption)) λσ p h l1⟨f,_⟩=>agV a _ f _
  |exact .bind (zC (by assumption)) λσ p h l1⟨f,_⟩=>.bind (zC (dq.mono l1 AN)) λaU q j l2⟨hq,_⟩=>agT a _ (f.mono l2) hq
  |exact .bind (zC (by assumption)) λσ p h l1⟨f,_⟩=>.bind (zC (dq.mono l1 AN)) λaU q j l2⟨hq,_⟩=>agU a _ (f.mono l2) hq
  |(refine .bind (al.underlying a t) λσ u l l1⟨e,k⟩=>?_;subst e;simp only[zE,k]at b;cases u<;>first|exact absurd b ved|exact O5 a t (g.mono l1) (i.mono l1))
end
end
variable{l l':Nat}{assign body:Code}
section
attribute [-simp] Sem.runT_eq
section
variable{C:cy}{ρ:Ren}
def Ht(h:ρ.rel l l'):al C ρ (λσ r r'=>Hi C σ r r'/\σ.mine l') (Instr.getLoop l) (Instr.getLoop l'):=by unfold Instr.getLoop;refine .bind (al.getObj h) λσ o o' l1 hg=>?_;obtain⟨a,_,b⟩:=hg;cases a with|loop c=>exact .pure ⟨c,b.resolve_right λy=>by cases y⟩| _=>exact .stuck
def VQ(fn:ual)(k:∃f c,C.P.funcs[fn]?=some f/\f.body=some c){tmps b:dC}(ht:aL ρ tmps b)(params:Array Tmp)(j:C.fF assign)(i:C.fF body){r r':ubj}(h:mJ ρ.rel r r'):
 al C ρ (λσ x y=>σ.rel x.1 y.1/\qV σ x.2 y.2) (Instr.enterLoop fn tmps params assign body r) (Instr.enterLoop fn b params assign body r'):=by
 unfold Instr.enterLoop;cases h<;>first
  |refine .bind (al.new (.deferred .nil)) λσ n d l1 hn=>.bind (R:=λσ x y=>σ.rel x.1 y.1/\qV σ x.2 y.2) (.pure ⟨hn.1,.cons ⟨.collected hn.1,.nil _⟩ .nil⟩) λaU x y l2 a=>?_
  |refine .bind (Ht AN) λσ x y l1⟨g,_⟩=>.bind (R:=λσ x y=>σ.rel x.1 y.1/\qV σ x.2 y.2) (.pure ⟨g.defers,.nil⟩) λaU x y l2 a=>?_
 all_goals exact .bind (al.new (.loop ⟨U,U,(λc e=>DG),U,k,ht.mono (Ren.le_trans l1 l2),U,U,j,U,i,a.1⟩)) λaU n d l2 hn=>.pure ⟨hn.1,a.2.mono l2⟩
def VR(h:ρ.rel l l')(c:C.b_):al C ρ (λ_(_ _:Unit)=>True) (Instr.beginRound l) (Instr.beginRound l'):=by unfold Instr.beginRound;refine .bind (Ht h) λσ r r' l1⟨a,b⟩=>?_;refine .bind (al.setObj (l1.1 _ _ h) b (.loop ⟨U,a.pending,a.KO,a.fn,a.known,a.tmps,a.params,a.assign,a.Hj,a.body,a.Hk,a.defers⟩) Ab) λaU _ _ _ _=>?_;rw[<-a.state];cases r.state with|ready=>exact .pure trivial| _=>exact al.runtimePanic c _
def agZ(h:ρ.rel l l')(jump:Option Code)(d:∀c,jump=some c->C.fF c):al C ρ ap (Instr.endRound l jump) (Instr.endRound l' jump):=by unfold Instr.endRound;refine .bind (Ht h) λσ r r' l1⟨a,b⟩=>?_;exact .bind (al.setObj (l1.1 _ _ h) b (.loop ⟨U,U,d,a.fn,a.known,a.tmps,a.params,a.assign,a.Hj,a.body,a.Hk,a.defers⟩) Ab) λaU _ _ _ _=>.pure (.bool _)
def ag0(h:ρ.rel l l')(f:C.b_):al C ρ (λ_ a b=>a=b/\∀c,a=some c->C.fF c) (Instr.endLoop l) (Instr.endLoop l'):=by unfold Instr.endLoop;refine .bind (Ht h) λσ r r' l1⟨d,e⟩=>?_;rw[<-d.state];exact .ite (λ_=>.cut (al.runtimePanic f _)) (λ_=>.bind (al.setObj (l1.1 _ _ h) e (.loop ⟨U,d.pending,d.KO,d.fn,d.known,d.tmps,d.params,d.assign,d.Hj,d.body,d.Hk,d.defers⟩) Ab) λ_ _ _ _ _=>.pure ⟨d.pending,d.KO⟩)
def ag1{b b':Nat}(h:ρ.rel b b'):al C ρ qV (Instr.takeDeferred b) (Instr.takeDeferred b'):=by
 unfold Instr.takeDeferred;refine .bind (al.getObj h) λaU o o' l2 hg=>?_;obtain⟨c,_,d⟩:=hg;cases c with
 |deferred a=>
  have mine:=d.resolve_right λy=>by cases y
  exact .bind (al.setObj (l2.1 _ _ h) mine .taken Ab) λf _ _ e _=>.pure (a.mono e)
 | _=>exact .stuck
end
end
section
attribute [-simp] Sem.runT_eq
inductive pi(C:cy)(ρ:Ren):Next->Next->Prop
 |value {v v':Value} (h:ap ρ v v'):pi C ρ (.value v) (.value v')
 |skip:pi C ρ .skip .skip
 |enter {f:ual} {fn:Func} {c:Code} {a a':dC} (h:aL ρ a a') (hp:C.P.funcs[f]?=some fn) (hb:fn.body=some c):pi C ρ (.enter f a) (.enter f a')
 |round {l l':Nat} {f:ual} {t cF:dC} {assign body:Code} (hf:∃fn c,C.P.funcs[f]?=some fn/\fn.body=some c) (hl:ρ.rel l l') (ht:aL ρ t cF) (ha:C.fF assign) (hb:C.fF body):pi C ρ (.round l f t assign body) (.round l' f cF assign body)
structure cy.Bf(C:cy):Prop where
 body:∀(f:ual)(fn:Func)(c:Code),C.P.funcs[f]?=some fn->fn.body=some c->C.Q.funcs[f]?=some fn/\C.fF c/\fn.name≠ "runtime.NumGoroutine"
 bare:∀(f:ual)(fn:Func),C.P.funcs[f]?=some fn->fn.body=none->∀(ρ:Ren)(a a':dC),aL ρ a a'->al C ρ (pi C) (callFunc f a) (callFunc f a')
section
variable{C:cy}{ρ:Ren}
def ag2(c:C.b_):al C ρ b_ Instr.panicnil Instr.panicnil:=by
 unfold Instr.panicnil;refine .bind al.afX λσ a b _ e=>?_;subst e;cases a with
 |strings env=>
  refine .bind .program λaU p q _⟨f,d⟩=>?_;subst f;subst d;have:C.Q.godebug=C.P.godebug:=by rw[c]
  rw[this];exact .pure U
 | _=>exact .stuck
def ag3(c:C.b_){x:Value}(h:ap ρ x x'):al C ρ ap (Instr.panic x) (Instr.panic x'):=by unfold Instr.panic;cases h with|iface t hv=>exact .goPanic (.iface t hv)|nilIface=>refine .bind (ag2 c) λσ a b _ e=>?_;subst e;exact .ite (λ_=>.goPanic .nilIface) (λ_=>al.runtimePanic c _)| _=>exact .stuck
def ag4(hF:C.Bf)(f:ual){a a':dC}(h:aL ρ a a'):al C ρ (pi C) (callFunc f a) (callFunc f a'):=by cases b:C.P.funcs[f]? with|none=>refine .none λw=>?_;unfold callFunc;rw[mc];simp only[Go.program,Sem.run,b];exact id|some fn=>cases d:fn.body with|none=>exact hF.bare f fn b d ρ a a' h|some c=>obtain⟨hq,hok,hn⟩:=hF.body f fn c b d;unfold callFunc;refine .bind .program λσ p q l1⟨i,g⟩=>?_;subst i;subst g;rw[b,hq];simp only[];have e:(fn.name== "runtime.NumGoroutine")=false:=AN;simp only[e,d,Option.isNone_some,vai,vcj];exact .pure (.enter (h.mono l1) b d)
end
end
section
attribute [-simp] Sem.runT_eq
def ik:Nat->Value->Bool
 | _,.bool _ | _,.int .. | _,.string _ | _,.pointer none| _,.slice none _ _ | _,.map none| _,.chan none| _,.nilFunc| _,.nilIface=>true
 | _,.func (.func _) a b=>a.isEmpty&&b.isEmpty
 |n+1,.iface _ v=>ik n v
 |n+1,.agg a=>a.all (ik n)
 |n+1,.tuple a=>a.all (ik n)
 | _,_=>false
theorem VS:∀(n:Nat)(v:Value),ik n v=true->iU v:=by
 have fn:∀(n:Nat)(f:Fn)(a b:dC),ik n (.func f a b)=true->iU (.func f a b):=by
  intro n f a b h;cases f with
  |func f=>
   cases n<;>
   .simp only[ik,vae,Array.isEmpty_iff]at h;obtain⟨rfl,rfl⟩:=h;exact .func f
  | _=>grind[ik]
 intro n;induction n with
 |zero=>
  intro v h;cases v with
  |bool b=>exact .bool b
  |int k n=>exact .int k n
  |string s=>exact .string s
  |pointer a=>cases a with|none=>exact .lg|some a=>simp[ik]at h
  |slice a l c=>cases a with|none=>exact .h7 l c|some a=>simp[ik]at h
  |map r=>cases r with|none=>exact .pe|some a=>simp[ik]at h
  |chan r=>cases r with|none=>exact .pf|some a=>simp[ik]at h
  |nilFunc=>exact .nilFunc
  |nilIface=>exact .nilIface
  |func f a b=>grind
  | _=>simp[ik]at h
 |succ n d=>
  intro v h;cases v with
  |bool b=>exact .bool b
  |int k n=>exact .int k n
  |string s=>exact .string s
  |pointer a=>grind[ik]
  |slice a l c=>cases a with|none=>exact .h7 l c|some a=>simp[ik]at h
  |map r=>grind[ik]
  |chan r=>grind[ik]
  |nilFunc=>exact .nilFunc
  |nilIface=>exact .nilIface
  |func f a b=>grind
  |iface t v=>exact .iface t (d v (by grind[ik]))
  |agg a=>simp only[ik,vap]at h;exact .agg λi v hv=>d v (h v (vbf hv))
  |tuple a=>simp only[ik,vap]at h;exact .tuple λi v hv=>d v (h v (vbf hv))
  | _=>simp[ik]at h
def gu(P:ck):Operand->Bool
 | .tmp _ | .func _=>true
 | .const v=>ik 4 v
 | .global g=>decide (g<P.globals.size)
def Ey(P:ck)(c:Call):Bool:=
 (match c.callee with
  | .builtin b=>OP b
  | .value f=>gu P f
  | _=>false)&&c.args.all (gu P)
def VT:Fn->Bool
 | .func _=>true
 | _=>false
def Hv(P:ck)(c:Call):Bool:=
 (match c.callee with
  | .builtin .unsafeString=>true
  | _=>false)&&c.args.all (gu P)
def Hw(P:ck)(s d:uaa):Bool:=
 match P.underlying s,P.underlying d with
 |some (.int _),some (.int _)=>true
 | _,_=>false
def mK(P:ck)(upd:Bool):Op->Bool
 | .move x| .assign x| .box _ x| .load _ x| .makeInterface _ x| .fieldAddr _ x _ | .extract x _ | .panic x=>gu P x
 | .nilCheck x=>gu P x
 | .unOp op _ x=>VI op&&gu P x
 | .alloc _=>true
 | .pick c a b=>gu P c&&gu P a&&gu P b
 | .build _ ps| .buildSlice _ _ ps=>ps.all λp=>gu P p.2
 | .store _ a v| .makeSlice _ a v=>gu P a&&gu P v
 | .indexAddr t a v=>Ho P t&&gu P a&&gu P v
 | .index t a v=>Hp P t&&gu P a&&gu P v
 | .makeMap _ r=>r.isNone
 | .lookup t x i _=>xl P t&&gu P x&&gu P i
 | .mapUpdate t m k v=>xl P t&&gu P m&&gu P k&&gu P v
 | .binOp op t x y _=>zE P op t&&gu P x&&gu P y
 | .makeFunc fn a b=>VT fn&&a.all (gu P)&&b.all (gu P)
 | .slice t x l h m=>Hn P t&&gu P x&&l.all (gu P)&&h.all (gu P)&&m.all (gu P)
 | .call c=>Ey P c||(upd&&Hv P c)
 | .convert s d x=>Hw P s d&&gu P x
 | _=>false
section
variable{C:cy}{ρ:Ren}
def ag6(a:C.b_)(s d:uaa)(ht:Hw C.P s d=true){x:Value}(h:ap ρ x x'):al C ρ ap (convert s d x) (convert s d x'):=by
 unfold convert;refine .bind (al.underlying a s) λσ u g l1⟨e,b⟩=>.bind (al.underlying a d) λaU v v' l2⟨f,hv⟩=>?_;subst e;subst f;simp only[Hw,b,hv]at ht;cases u<;>first|exact absurd ht ved|skip
 cases v<;>first|exact absurd ht ved|skip
 have c:=(h.mono l1).mono l2;cases c<;>first|exact .pure (.int _ _)|exact .unsupported|exact .stuck
theorem ng{m a:Sem Value}(h:al C ρ ap m a):al C ρ (pi C) (do pure (.value (<-m))) (do pure (.value (<-a))):=.bind h λ_ _ _ _ hv=>.pure (.value hv)
def VU{m a:Sem Unit}(h:al C ρ (λ_(_ _:Unit)=>True) m a):al C ρ (pi C) (do m;pure .skip) (do a;pure .skip):=.bind h λ_ _ _ _ _=>.pure .skip
theorem ag7(c:C.b_)(d:C.sR)(b:Builtin)(e:OP b=true)(ats:uau)(t:uaa)(cs:uaw){a a':dC}(h:aL ρ a a'):al C ρ (pi C) (builtin b ats t cs a) (builtin b ats t cs a'):=by unfold builtin;cases b with|append=>exact .bind (ags c d ats t h) λ_ _ _ _ hv=>.pure (.value hv)|cap=>exact .bind (agL c ats t h) λ_ _ _ _ hv=>.pure (.value hv)|copy=>exact .bind (agM c ats t h) λ_ _ _ _ hv=>.pure (.value hv)|len=>exact .bind (agK c ats t h) λ_ _ _ _ hv=>.pure (.value hv)| _=>cases e
def ag8:∀(l:List (Tmp×Value))(l':List (Tmp×Value)){t a:dC},de (λx y=>x.1=y.1/\ap ρ x.2 y.2) l l'->aL ρ t a->
 aL ρ (l.foldl (λtmps(p:Tmp×Value)=>tmps.setIfInBounds p.1 p.2) t) (l'.foldl (λtmps(p:Tmp×Value)=>tmps.setIfInBounds p.1 p.2) a):=by
 intro l;induction l with|nil=>intro l' t a h ht;cases h;exact ht|cons x l c=>intro l' t a h ht;cases h with|cons b d=>simp only[List.foldl_cons];exact c _ d (by rw[b.1];exact ht.set b.2 _)
def ag9:∀(ps:List Tmp)(l l':uam),de (ap ρ) l l'->de (λx y=>x.1=y.1/\ap ρ x.2 y.2) (ps.zip l) (ps.zip l'):=by intro ps;induction ps with|nil=>intro l l' _;exact .nil|cons p ps a=>intro l l' h;cases h with|nil=>exact .nil|cons b ht=>exact .cons ⟨U,b⟩ (a _ _ ht)
def ag_(h:ρ.rel l l'){a a':dC}(c:aL ρ a a'):al C ρ (pi C) (Instr.yield l a) (Instr.yield l' a'):=by unfold Instr.yield;refine .bind (Ht h) λσ r r' l1⟨b,_⟩=>?_;rw[<-c.size,<-b.params,<-b.fn,<-b.assign,<-b.body];refine .ite (λ_=>.cut .stuck) (λ_=>.pure (.round b.known (l1.1 _ _ h) ?_ b.Hj b.Hk));rw[<-Array.foldl_toList,<-Array.foldl_toList,Array.toList_zip,Array.toList_zip];exact ag8 _ _ (ag9 _ _ _ (de.A4 (c.mono l1))) b.tmps
def Hx(j:C.b_)(k:C.sR)(hF:C.Bf){t d:Target}(ht:ug ρ t d){a a':dC}(h:aL ρ a a'):al C ρ (pi C) (invoke t a) (invoke d a'):=by unfold invoke;cases ht with|nil=>exact al.runtimePanic j _|builtin b ats ty cs m=>grind[ag7]|collected l=>exact .stuck|@fn f f' c c' g i=>cases g with|func f=>exact ag4 hF f (h.append i)|yield e=>exact ag_ e h
end
end
section
attribute [-simp] Sem.runT_eq
section
variable{C:cy}{ρ:Ren}
theorem al.freeze(H:C.upd=true)(r:dq ρ a a')(n:Nat):al C ρ (λ_(_ _:Unit)=>True) (Go.freeze a n) (Go.freeze a' n):=by
 intro S w w' d _ _;have A:∀b b',ρ.rel b b'->¬ρ.mine b'->∃o o',w.heap[b]?=some o/\Et o/\w'.heap[b']?=some o'/\∀c e fr,o'≠ .cells c e fr:=λb b' f hn=>by
  rcases d.still b b' f hn with⟨x,_⟩|⟨o,g,hd⟩
  .grind
  .obtain⟨p,E,u,F,t⟩:=d.obj b b' f;rw[g]at u;cases u;refine⟨o,E,g,hd,F,λc e fr x=>?_⟩;subst x;cases hd with
   |coro=>cases t with|shut h=>exact h
   |number a l=>cases t
 have get:∀(w:aH)(a:Addr)(b:Nat),(w.freeze a n).heap[b]?=(w.heap[b]?).map (λo=>if n=0 then o else if a.block=b then(match o with| .cells c e (lo,hi)=>.cells c e (if lo==hi then(a.off,a.off+n)else(min lo a.off,max hi (a.off+n)))|o=>o)else o):=by intro w a b;unfold World.freeze;grind
 have same:∀(w:aH)(a:Addr),(w.freeze a n).heap.size=w.heap.size/\(w.freeze a n).tape=w.tape/\(w.freeze a n).drawn=w.drawn/\(w.freeze a n).os=w.os/\(w.freeze a n).output=w.output:=by grind[World.freeze]
 obtain⟨M,m,q,D,N⟩:=same w a;obtain⟨L,k,j,i,B⟩:=same w' a';refine⟨ρ,w'.freeze a' n,?_,?_,λes=>⟨#[],by simp[Sem.events,Go.freeze,Sem.runT],Ab⟩⟩
 .refine .ok trivial ⟨λb b' f=>?_,d.one,d.inj,d.nc,by rw[q,j];exact d.sync,by rw[m,q,k,j];exact d.tape,by rw[D,i];exact d.env,by rw[m];exact d.lone,λb b' f hn=>?_⟩
  .obtain⟨o,o',g,y,v⟩:=d.obj b b' f;rw[get,get,g,y];simp only[vdw];refine⟨_,_,U,U,?_⟩;by_cases hn:n=0
   .grind
   simp only[hn,vcj];by_cases e:a.block=b
   .subst e;have z:a'.block=b':=d.one _ _ _ r.1 f;subst z;simp only[vbx];cases v with
    |@cells c c' el fr aO I hF=>obtain⟨lo,hi⟩:=fr;have K:=hF.2 H;subst K;rw[r.2.1];exact .cells el I ⟨λ_ x=>x,λ_=>U⟩
    |map c h=>exact .map c h
    |stringIter s p=>exact .stringIter s p
    |A5 a b c=>exact .A5 a b c
    |mapIter h a b c=>exact .mapIter h a b c
    |loop h=>exact .loop h
    |deferred h=>exact .deferred h
    |taken=>exact .taken
    |number h l=>exact .number h l
    |shut h=>cases o'<;>first|exact h.elim|exact .shut trivial
   .have z:a'.block≠b':=λx=>e (d.inj _ _ _ (x▸r.1) f);grind
  .obtain⟨o,_,g,hd,_,_⟩:=A b b' f hn;rw[get,g];refine .inr ⟨o,?_,hd⟩;cases hd<;>(grind)
 .refine⟨Ren.le_refl _,λ_ h=>.inl h,AN,λ_ h=>.inl h,λ_ _ h=>.inl h,λb f hn=>?_,i,B,k,AN⟩;rw[get];by_cases J:a'.block=b
  .subst J;obtain⟨_,o',_,_,y,v⟩:=A _ _ r.1 hn;grind
  grind
theorem aha(b:C.b_):∀(d:Nat)(t u:uaa),sameLayout C.Q d t u=sameLayout C.P d t u:=by intro d;induction d with|zero=>intro t u;rfl|succ d a=>grind[sameLayout,A_,VC,KX]
theorem ahb(b:C.b_)(fits:TypeId->Bool):∀(d:Nat)(e:uaa)(c o n:Nat),rowAt C.Q fits d e c o n=rowAt C.P fits d e c o n:=by intro d;induction d with|zero=>intro e c o n;rfl|succ d a=>grind[rowAt,A_,Ba,KX]
def ahc(b:C.b_):∀(d:Nat)(e:uaa)(c o:Nat)(u:uaa)(n:Nat),liesAt C.Q d e c o u n=liesAt C.P d e c o u n:=by intro d;induction d with|zero=>intro e c o u n;rfl|succ d a=>grind[liesAt,A_,ahb,aha,Ev]
def ahd(b:C.b_)(r:dq ρ a a')(u:uaa)(n:Nat):al C ρ (λ_ x y=>x=y) (variablesAt a u n) (variablesAt a' u n):=by unfold variablesAt;refine .bind .program λσ p q d⟨c,hq⟩=>?_;subst c;subst hq;refine .bind (al.shape (d.1 _ _ r.1)) λg s s' f e=>?_;subst e;cases s with|none=>exact .pure U|some be=>exact .pure (by simp only[ahc b,Ev b,Ba b,r.2.1])
theorem VX:∀(n:Nat)(ρ:Ren){a a':Addr}(_:dq ρ a a')(acc:ByteArray),al C ρ (λ_ x y=>x=y) (loadBytes a acc n) (loadBytes a' acc n)
 |0,ρ,a,a',r,acc=>.pure U
 |n+1,ρ,a,a',r,acc=>by
  unfold loadBytes;refine .bind (al.load r) λσ v v' b hv=>?_;cases hv with
  |int k m=>cases k<;>first|exact VX n σ ((r.mono b).add 1) _ |exact .stuck
  | _=>exact .stuck
def ahe(d:C.b_)(o:C.upd=true)(ats:uau)(t:uaa){x x':dC}(h:aL ρ x x'):al C ρ ap (Builtin.unsafeString_ ats t x) (Builtin.unsafeString_ ats t x'):=by
 obtain⟨l⟩:=x;obtain⟨l'⟩:=x';have hs:=h.size;simp only[List.size_toArray]at hs;match l,l',hs with
 | [],[],_=>exact .stuck
 | [a],[a'],_=>exact .stuck
 |a::b::c::l,_::_::_::l',_=>exact .stuck
 | [a,b],[a',b'],_=>
  have z:ap ρ a a':=h.get 0 a a' U U;have y:ap ρ b b':=h.get 1 b b' U U;have key:∀(p f:uad),mJ (dq ρ) p f->al C ρ ap (Builtin.unsafeString_ ats t #[.pointer p,b]) (Builtin.unsafeString_ ats t #[.pointer f,b']):=by intro p f u;unfold Builtin.unsafeString_;refine .bind (al.asInt y) λσ n E g e=>?_;subst e;cases H:ats[0]? with|none=>exact .stuck|some j=>simp only[];refine .ite (λ_=>.bind (R:=λ_ _ _=>False) (.runtimePanic d _) λ_ _ _ _ h=>h.elim) (λ_=>?_);refine .ite (λ_=>.bind (R:=λ_ _ _=>False) .unsupported λ_ _ _ _ h=>h.elim) (λ_=>?_);cases u with|none=>exact .ite (λ_=>.pure (.string _)) (λ_=>.runtimePanic d _)|@some q D hq=>refine .ite (λ_=>.pure (.string _)) (λ_=>?_);refine .bind (al.elemOf d j) λaU e F i v=>?_;subst v;refine .bind (ahd d ((hq.mono g).mono i) e n.toNat) λA c c' k w=>?_;subst w;refine .ite (λ_=>?_) (λ_=>.unsupported);refine .bind (VX n.toNat A (((hq.mono g).mono i).mono k) .empty) λB s s' m hs=>?_;subst hs;exact .bind (al.freeze o ((((hq.mono g).mono i).mono k).mono m) n.toNat) λ_ _ _ _ _=>.pure (.string _)
  cases z with|lg=>exact key none none .none|ptr r=>exact key _ _ (.some r)| _=>exact .stuck
theorem ahg(e:C.b_)(b:C.upd=true)(ats:uau)(t:uaa){cs:uaw}{x x':dC}(h:aL ρ x x'):al C ρ (pi C) (do let d <-(pure {target:=.builtin .unsafeString ats t cs,args:=x}:Sem Deferred);invoke d.target d.args) (do let d <-(pure {target:=.builtin .unsafeString ats t cs,args:=x'}:Sem Deferred);invoke d.target d.args):=
 .bind (R:=λ_ d a=>d={target:=.builtin .unsafeString ats t cs,args:=x}/\a={target:=.builtin .unsafeString ats t cs,args:=x'}) (.pure ⟨U,U⟩) λσ d a c hd=>by obtain⟨rfl,rfl⟩:=hd;exact .bind (ahe e b ats t (h.mono c)) λ_ _ _ _ hv=>.pure (.value hv)
end
end
variable{kX:uaj}
section
attribute [-simp] Sem.runT_eq
section
variable{C:cy}{ρ:Ren}
def sU(C:cy)(ρ:Ren)(ev kX:uaj):Prop:=∀x,gu C.P x=true->ap ρ (ev x) (kX x)
theorem sU.mono{σ:Ren}(b:Ren.le ρ σ){ev:uaj}(h:sU C ρ ev kX):sU C σ ev kX:=λx a=>(h x a).mono b
def sU.args{ev:uaj}(h:sU C ρ ev kX){a:uba}(f:a.all (gu C.P)=true):aL ρ (a.map ev) (a.map kX):=by refine⟨Ab,λi v v' e d=>?_⟩;simp only[vbw,vaj]at e d;obtain⟨x,c,rfl⟩:=e;obtain⟨y,b,rfl⟩:=d;rw[c]at b;cases b;exact h x (vap.1 f x (vbf c))
def sU.O8{ev:uaj}(h:sU C ρ ev kX){a:Option Operand}(b:a.all (gu C.P)=true):wh ρ (a.map ev) (a.map kX):=by cases a with|none=>exact .none|some x=>exact .some (h x AN)
def sU.parts{ev:uaj}(h:sU C ρ ev kX)(b:(ps.all λp=>gu C.P p.2)=true):de (rQ ρ) (ps.map λ(i,x)=>(i,ev x)).toList (ps.map λ(i,x)=>(i,kX x)).toList:=
 af8 λp a=>h p.2 (vap.1 b p a)
def ahh{f:Fn}(h:VT f=true):sQ ρ f f:=by cases f with|func f=>exact .func f| _=>cases h
def ahi{ev:uaj}(h:sU C ρ ev kX){c:Call}(e:Ey C.P c=true)(t:uaa):al C ρ zy (resolve ev c t) (resolve kX c t):=by unfold resolve;simp only[Ey,vae]at e;have g:=h.args e.2;obtain⟨a,_⟩:=e;cases i:c.callee with|builtin b=>rw[i]at a;exact .pure ⟨.builtin b _ _ _ a,g⟩|invoke r n=>grind|value f=>rw[i]at a;have d:=h f a;simp only[];revert d;generalize ev f=v;generalize kX f=v';intro d;unfold Deferred.ofValue;cases d with|func j o m l k=>exact .pure ⟨.fn j ⟨m,k⟩,aL.append ⟨o,l⟩ g⟩|nilFunc=>exact .pure ⟨.nil,g⟩| _=>exact .stuck
def ahj(d:C.b_){x:Value}(h:ap ρ x x'){ev:uaj}{o:Oper}{a:uaq}(g:o.op=.nilCheck a)(f:ev a=x)(e:kX a=x'):al C ρ (pi C) (execOp ev o) (execOp kX o):=by unfold execOp;rw[g];simp only[f,e];have b:=h;cases h with|lg|nilIface|nilFunc=>exact al.runtimePanic d _|func c=>cases c<;>exact .pure (.value b)| _=>exact .pure (.value b)
def VZ(j:C.b_)(q:C.sR)(hF:C.Bf){ev:uaj}(h:sU C ρ ev kX){o:Oper}(g:mK C.P C.upd o.op=true):al C ρ (pi C) (execOp ev o) (execOp kX o):=by
 cases p:o.op<;>rw[p]at g<;>try exact absurd g ved
 case nilCheck x=>exact ahj j (h x g) p U U
 all_goals
  unfold execOp;rw[p]
 case move x=>exact .pure (.value (h _ g))
 case assign x=>exact .pure (.value (h _ g))
 case pick c a b=>
  simp only[mK,vae]at g;exact .bind (al.asBool (h _ g.1.1)) λσ b b' w e=>by subst e;cases b<;>first|exact .pure (.value ((h _ g.2).mono w))|exact .pure (.value ((h _ g.1.2).mono w))
 case alloc t=>grind[ng,af4]
 case box t x=>exact ng (af5 _ (h _ g))
 case build t ps=>exact ng (aga j q _ (h.parts g))
 case buildSlice t n ps=>exact ng (agc j q _ _ (h.parts g))
 case load t a=>exact ng (af2 j _ (h _ g))
 case store t a x=>
  simp only[mK,vae]at g;exact VU (af3 j _ (h _ g.1) (h _ g.2))
 case binOp op t x y u=>
  simp only[mK,vae]at g;exact ng (.bind (agW j _ _ _ _ (h _ g.1.2) (h _ g.2)) λσ _ _ w _=>agY j _ _ g.1.1 ((h _ g.1.2).mono w) ((h _ g.2).mono w))
 case unOp op t x=>exact by simp only[mK,vae]at g;exact ng (agP _ g.1 (h _ g.2))
 case makeInterface t x=>exact ng (agm j _ (h _ g))
 case makeFunc fn a b=>
  simp only[mK,vae]at g;exact ng (.pure (.Hh (ahh g.1.1) (h.args g.1.2) (h.args g.2)))
 case makeSlice t l c=>
  simp only[mK,vae]at g;exact ng (agn j q _ (h _ g.1) (h _ g.2))
 case slice t x l D m=>
  simp only[mK,vae]at g;exact ng (agl j _ g.1.1.1.1 (h _ g.1.1.1.2) (h.O8 g.1.1.2) (h.O8 g.1.2) (h.O8 g.2))
 case fieldAddr s x f=>exact ng (agh j _ (h _ g) _)
 case indexAddr t x i=>
  simp only[mK,vae]at g;exact ng (agi j _ g.1.1 (h _ g.1.2) (h _ g.2))
 case index t x i=>
  simp only[mK,vae]at g;exact ng (agk j _ g.1.1 (h _ g.1.2) (h _ g.2))
 case makeMap t r=>
  cases r with|none=>exact ng (agp _)|some r=>cases g
 case lookup t x i ok=>
  simp only[mK,vae]at g;exact ng (agD j q _ g.1.1 (h _ g.1.2) (h _ g.2) _)
 case mapUpdate t m k v=>
  simp only[mK,vae]at g;exact VU (agI j _ g.1.1.1 (h _ g.1.1.2) (h _ g.1.2) (h _ g.2))
 case extract t i=>exact ng (agq (h _ g) _)
 case call c=>
  simp only[mK,Bool.or_eq_true,vae]at g;rcases g with g|⟨z,g⟩
  .exact .bind (ahi h g _) λσ d B _ hd=>Hx j q hF hd.target hd.args
  .simp only[Hv,vae]at g;have A:=h.args g.2;grind[resolve,ahg]
 case convert s d x=>
  simp only[mK,vae]at g;exact ng (ag6 j _ _ g.1 (h _ g.2))
 case panic x=>exact ng (ag3 j (h _ g))
end
end
variable{f f':Frame}{es:uav}
section
attribute [-simp] Sem.runT_eq
def jP(P:ck)(upd:Bool):Code->Bool
 | .skip| .exit _ | .label _ | .goto _ | .ret| .refuse _=>true
 | .region _ ops _=>ops.all λo=>mK P upd o.op
 | .seq a b=>jP P upd a&&jP P upd b
 | .cond c a b=>gu P c&&jP P upd a&&jP P upd b
 | .block _ b| .loop b| .scope b=>jP P upd b
 | .rangeFunc f _ a b=>gu P f&&jP P upd a&&jP P upd b
def cy.O_(C:cy):Prop:=∀c,C.fF c↔jP C.P C.upd c=true
inductive rS(C:cy)(ρ:Ren):Item->Item->Prop
 |code {c:Code} (h:C.fF c):rS C ρ (.code c) (.code c)
 |inBlock (id:Nat):rS C ρ (.inBlock id) (.inBlock id)
 |inLoop {c:Code} (h:C.fF c):rS C ρ (.inLoop c) (.inLoop c)
 |inScope {c:Code} (h:C.fF c):rS C ρ (.inScope c) (.inScope c)
 |inRegion {ops:eQ} (h:∀o∈ops,mK C.P C.upd o.op=true) (todo:uag):rS C ρ (.inRegion ops todo) (.inRegion ops todo)
 |inRangeFunc {l l':Nat} (h:ρ.rel l l'):rS C ρ (.inRangeFunc l) (.inRangeFunc l')
 |endRangeFunc {l l':Nat} (h:ρ.rel l l'):rS C ρ (.endRangeFunc l) (.endRangeFunc l')
 |beginRound:rS C ρ .beginRound .beginRound
theorem rS.mono{C:cy}{ρ σ:Ren}(c:Ren.le ρ σ){a b:Item}(h:rS C ρ a b):rS C σ a b:=by cases h with|code h=>exact .code h|inBlock id=>exact .inBlock id|inLoop h=>exact .inLoop h|inScope h=>exact .inScope h|inRegion h t=>exact .inRegion h t|inRangeFunc h=>exact .inRangeFunc (c.1 _ _ h)|endRangeFunc h=>exact .endRangeFunc (c.1 _ _ h)|beginRound=>exact .beginRound
abbrev mL(C:cy)(ρ:Ren):=de (rS C ρ)
theorem mL.mono{C:cy}{ρ σ:Ren}(c:Ren.le ρ σ){a b:uab}(h:mL C ρ a b):mL C σ a b:=de.mono (λ_ _ x=>x.mono c) h
structure xp(ρ:Ren)(e e':PanicEntry):Prop where
 v:ap ρ e.v e'.v
 recovered:e.recovered=e'.recovered
 goexit:e.goexit=e'.goexit
theorem xp.mono{ρ σ:Ren}(c:Ren.le ρ σ){a b:PanicEntry}(h:xp ρ a b):xp σ a b:=⟨h.v.mono c,h.recovered,h.goexit⟩
inductive uj(ρ:Ren):FrameMode->FrameMode->Prop
 |run:uj ρ .run .run
 |returning:uj ρ .returning .returning
 |panicking {l l':List PanicEntry} (h:de (xp ρ) l l'):uj ρ (.panicking l) (.panicking l')
theorem uj.mono{ρ σ:Ren}(c:Ren.le ρ σ){a b:FrameMode}(h:uj ρ a b):uj σ a b:=by cases h with|run=>exact .run|returning=>exact .returning|panicking h=>exact .panicking (de.mono (λ_ _ x=>x.mono c) h)
structure ep(C:cy)(ρ:Ren)(f f':Frame):Prop where
 fn:f.fn=f'.fn
 known:∃fn c,C.P.funcs[f.fn]?=some fn/\fn.body=some c
 tmps:aL ρ f.tmps f'.tmps
 todo:mL C ρ f.todo f'.todo
 defers:qV ρ f.defers f'.defers
 mode:uj ρ f.mode f'.mode
 kind:f.kind=f'.kind
 plain:f.kind=.normal\/f.kind=.deferred
 roundOf:mJ ρ.rel f.roundOf f'.roundOf
theorem ep.mono{C:cy}{ρ σ:Ren}(c:Ren.le ρ σ){a b:Frame}(h:ep C ρ a b):ep C σ a b:=
 ⟨h.fn,h.known,h.tmps.mono c,mL.mono c h.todo,qV.mono c h.defers,h.mode.mono c,h.kind,h.plain,h.roundOf.mono λ_ _ x=>c.1 _ _ x⟩
abbrev iV(C:cy)(ρ:Ren):=de (ep C ρ)
theorem iV.mono{C:cy}{ρ σ:Ren}(c:Ren.le ρ σ){a b:fA}(h:iV C ρ a b):iV C σ a b:=de.mono (λ_ _ x=>x.mono c) h
def iW:Frame->List Frame->Prop
 |f,[]=>f.kind=.normal/\f.roundOf=none
 | _,c::cs=>iW c cs
def bf(fr:Frame)(cs:fA):Goroutine:={frame:=fr,callers:=cs,status:=.running,dying:=none}
def iG(C:cy)(S:Sync)(ρ:Ren)(b0 base:fA)(w':aH)(g1:uai)(w1:aH)(s':GStep):Prop:=
 ∃σ rT cs1 xq EA li es',g1=bf rT (cs1++b0)/\s'=.go (bf xq (EA++base)) li es'/\ep C σ rT xq/\iV C σ cs1 EA/\iW rT cs1/\eo C S σ w1 li/\Grow ρ σ w' li/\∀e∈es',wb σ e
def xr{p:ck}{fn:ual}{e:Event}(h:e∈seen p fn es):e∈es:=by
 unfold seen at h;obtain⟨l⟩:=es;simp only[List.foldl_toArray]at h;suffices key:∀(l:ubm)(q:Bool)(k:uav),e∈(l.foldl (λ(x:Bool×Array Event)(e:Event)=>match e.loc with
  | .mark (.extern f)=>((p.funcs[f]?).any (·.norace),x.2)
  | _=>(x.1,if x.1&& !e.sync then x.2 else x.2.push e)) (q,k)).2->e∈k\/e∈l by
  have:=key l _ _ h;grind
 intro l;induction l with|nil=>grind|cons x l a=>grind
section
variable{C:cy}{ρ:Ren}
theorem ep.eval(h:ep C ρ f f')(hg:∀g,g<=C.P.globals.size->ρ.rel g g):sU C ρ f.eval f'.eval:=by intro x a;cases x with|tmp t=>exact h.tmps.getD (.undef ρ) t|const v=>exact(VS 4 v a).rel ρ|global g=>exact .ptr ⟨hg g (Nat.le_of_lt (vdg a)),U,U⟩|func f=>exact .Hh (.func f) (.nil ρ) (.nil ρ)
theorem ep.finish(h:ep C ρ f f')(hv:ap ρ v v'):ep C ρ (f.finish v) (f'.finish v'):=by
 have ht:=h.todo;unfold Frame.finish;revert ht;cases g:f.todo with
 |nil=>intro ht;cases b:f'.todo with|nil=>grind|cons a l=>rw[b]at ht;cases ht
 |cons i k=>
  intro ht;cases b:f'.todo with
  |nil=>rw[b]at ht;cases ht
  |cons i' k'=>
   rw[b]at ht;cases ht with
   |cons hi hk=>
    cases hi with
    |inRegion c todo=>cases todo with|nil=>grind|cons n rest=>simp only[];refine⟨h.fn,h.known,?_,.cons (.inRegion c rest) hk,h.defers,h.mode,h.kind,h.plain,h.roundOf⟩;cases((_:Option Oper).bind (·.dst))with|none=>exact h.tmps|some d=>exact h.tmps.set hv d
    |inRangeFunc e=>exact⟨h.fn,h.known,h.tmps,.cons (.endRangeFunc e) hk,h.defers,h.mode,h.kind,h.plain,h.roundOf⟩
    |beginRound=>exact⟨h.fn,h.known,h.tmps,hk,h.defers,h.mode,h.kind,h.plain,h.roundOf⟩
    | _=>exact h
end
end
variable{g:Frame}{cs:fA}
section
attribute [-simp] Sem.runT_eq
def iW.push(h:iW f cs):iW g (f::cs):=h
def iW.Pa{c:Frame}(h:iW f (c::cs)):iW c cs:=h
def iW.same(h:iW f cs)(hk:g.kind=f.kind)(a:g.roundOf=f.roundOf):iW g cs:=by cases cs with|nil=>exact⟨hk.trans h.1,a.trans h.2⟩|cons c cs=>exact h
def zG(f:Frame)(v:Value):(f.finish v).kind=f.kind/\(f.finish v).roundOf=f.roundOf:=by unfold Frame.finish;grind
def sV(f:Frame)(c:List PanicEntry):(f.raise c).kind=f.kind/\(f.raise c).roundOf=f.roundOf:=by unfold Frame.raise;grind
section
variable{C:cy}{ρ:Ren}
theorem ep.raise(h:ep C ρ f f'){c c':List PanicEntry}(b:de (xp ρ) c c'):ep C ρ (f.raise c) (f'.raise c'):=by have a:=h.mode;unfold Frame.raise;revert a;cases f.mode with|run=>intro a;generalize f'.mode=m' at a;cases a;exact⟨h.fn,h.known,h.tmps,h.todo,h.defers,.panicking b,h.kind,h.plain,h.roundOf⟩|returning=>intro a;generalize f'.mode=m' at a;cases a;exact⟨h.fn,h.known,h.tmps,h.todo,h.defers,.panicking b,h.kind,h.plain,h.roundOf⟩|panicking l=>intro a;generalize f'.mode=m' at a;cases a with|panicking d=>exact⟨h.fn,h.known,h.tmps,h.todo,h.defers,.panicking (b.append d),h.kind,h.plain,h.roundOf⟩
def ep.xt(h:ep C ρ f f'){t a:uab}(ht:mL C ρ t a):ep C ρ {f with todo:=t} {f' with todo:=a}:=⟨h.fn,h.known,h.tmps,ht,h.defers,h.mode,h.kind,h.plain,h.roundOf⟩
def ep.Bg(h:ep C ρ f f'){d a:List Deferred}(hd:qV ρ d a):ep C ρ {f with defers:=d} {f' with defers:=a}:=⟨h.fn,h.known,h.tmps,h.todo,hd,h.mode,h.kind,h.plain,h.roundOf⟩
def ep.uk(h:ep C ρ f f'){m a:FrameMode}(b:uj ρ m a):ep C ρ {f with mode:=m} {f' with mode:=a}:=⟨h.fn,h.known,h.tmps,h.todo,h.defers,b,h.kind,h.plain,h.roundOf⟩
def aL.ahl(n:Nat):aL ρ (Array.replicate n undef) (Array.replicate n undef):=by
 refine⟨U,λi v v' a b=>?_⟩;rw[a]at b;cases b;rw[Array.getElem?_replicate]at a;split at a
 .cases a;exact .undef ρ
 grind
theorem ep.enter(hF:C.Bf){f:ual}{fn:Func}{c:Code}{a a':dC}(h:aL ρ a a')(b:C.P.funcs[f]?=some fn)(d:fn.body=some c){k:CallKind}(hk:k=.normal\/k=.deferred):
 ep C ρ (Frame.enter C.P f a k) (Frame.enter C.Q f a' k):=by
 obtain⟨hq,hok,_⟩:=hF.body f fn c b d;unfold Frame.enter;simp only[b,hq,d,vdw,vah,Option.bind_some,h.size];exact⟨U,⟨fn,c,b,d⟩,h.append (.ahl _),.cons (.code hok) .nil,.nil,.run,U,hk,.none⟩
theorem ep.round{f:ual}(d:∃fn c,C.P.funcs[f]?=some fn/\fn.body=some c){t a:dC}(b:ρ.rel l l')(ht:aL ρ t a)(g:C.fF assign)(e:C.fF body){k:CallKind}(hk:k=.normal\/k=.deferred):
 ep C ρ (Frame.round l f t assign body k) (Frame.round l' f a assign body k):=
 ⟨U,d,ht,.cons (.code g) (.cons .beginRound (.cons (.code e) .nil)),.nil,.run,U,hk,.some b⟩
end
end
variable{lM:uav}
def zH{s:GStep}{g:uai}{w:aH}(h:GStep.after es s=.go g w lM):∃a,s=.go g w a:=by
 cases s<;>simp[GStep.after]at h
 simp_all
variable{fr:Frame}{g1:uai}
theorem Pb{ps:List ByteArray}{m:String}{b:Bool}{w w1:aH}(h:dieOf fr ps m b w=.go g1 w1 es):g1.dying≠none:=by grind[dieOf]
theorem V3{d:Option Dying}{m:String}{w w1:aH}(h:endFatal P fr cs d m w=.go g1 w1 es):g1.dying≠none:=by unfold endFatal at h;grind[Pb]
variable{aO:Frame}{b0 bb:fA}
section
variable{C:cy}{S:Sync}{ρ:Ren}
def mL.ahm{t a:uab}(h:mL C ρ t a):(match t with| .call _ true _ _::_=>CallKind.wrapped| _=>.normal)=.normal/\(match a with| .call _ true _ _::_=>CallKind.wrapped| _=>.normal)=.normal:=by cases h with|nil=>grind|cons hi _=>cases hi<;>exact⟨U,U⟩
def Pd(hF:C.Bf){base:fA}{w w':aH}{s s':Sem Next}{w1:aH}(l:ep C ρ fr aO)(o:iV C ρ cs bb)(i:iW fr cs)(E:eo C S ρ w w')(hs:al C ρ (pi C) s s')(L:C.P.follows .rangeFuncRecover=true\/fr.roundOf=none)(Q:C.Q.follows .rangeFuncRecover=C.P.follows .rangeFuncRecover)(h:stepG.apply C.P true fr (cs++b0) none s w=.go g1 w1 lM)(hrun:g1.status=.running)(A:g1.dying=none)(j:(iF (stepG.apply C.Q true aO (bb++base) none s' w')).drawn<=S.bound):iG C S ρ b0 base w' g1 w1 (stepG.apply C.Q true aO (bb++base) none s' w'):=by
 have z:=mL.ahm l.todo;have jQ:Good (s.run C.P w):=by
  unfold stepG.apply at h;simp only[vat,vbx]at h;obtain⟨B,a⟩:=zH h;cases t:s.run C.P w with
  |ok N w2=>trivial
  |halt x w2=>
   rw[t]at a;cases x with
   |panic v=>trivial
   |goexit=>trivial
   |blocked=>grind
   |waiting=>grind
   |unsupported u=>cases u<;>first|trivial|(simp at a)
   |exit c=>grind
   |fatal m=>grind[V3]
   |throw m=>exact absurd A (Pb a)
   |stuck m=>grind
 obtain⟨σ,P,n,b,K⟩:=hs S w w' E jQ (vac (Ez C.Q aO (bb++base) none s' w') j);obtain⟨d,hd,D⟩:=K #[];rw[vcq]at hd;have y:=b.le;have g:=l.mono y;have f:=iV.mono y o;have evs:∀e∈seen C.Q aO.fn d,wb σ e:=λe I=>D e (xr I);unfold stepG.apply at h⊢;simp only[vat,vbx]at h⊢;rw[hd];obtain⟨B,a⟩:=zH h;clear h;generalize t:s.run C.P w=r at a n;generalize R:s'.run C.Q w'=r' at n⊢;have early:(aO.kind== .early)=false:=by rcases l.plain with x|x<;>rw[<-l.kind,x]<;>rfl
 cases n with
 |@ok _ _ O _ hn fS=>
  cases hn with
  |value hv=>simp only[vcv]at a;obtain⟨rfl,rfl,_⟩:=a;simp only[early];exact⟨σ,_,cs,_,bb,_,_,U,U,g.finish hv,f,i.same (zG _ _).1 (zG _ _).2,fS,b,AN⟩
  |skip=>simp only[vcv]at a;obtain⟨rfl,rfl,_⟩:=a;simp only[early];exact⟨σ,_,cs,_,bb,_,_,U,U,g.finish (.undef σ),f,i.same (zG _ _).1 (zG _ _).2,fS,b,AN⟩
  |enter p F j=>
   simp only[vcv]at a;obtain⟨rfl,rfl,_⟩:=a;simp only[early];have q:∀k k':CallKind,k=.normal->k'=.normal->ep C σ (Frame.enter C.P _ _ k) (Frame.enter C.Q _ _ k'):=λk k' e J=>by subst e;subst J;exact .enter hF p F j Ij
   exact⟨σ,_,fr::cs,_,aO::bb,_,_,U,U,q _ _ z.1 z.2,.cons g f,i.push,fS,b,AN⟩
  |round H M ht p j=>simp only[vcv]at a;obtain⟨rfl,rfl,_⟩:=a;simp only[early];exact⟨σ,_,fr::cs,_,aO::bb,_,_,U,U,.round H M ht p j Ij,.cons g f,i.push,fS,b,AN⟩
 |panic hv fS=>simp only[vcv]at a;obtain⟨rfl,rfl,_⟩:=a;simp only[early];exact⟨σ,_,cs,_,bb,_,_,U,U,g.raise (.cons ⟨hv,U,U⟩ .nil),f,i.same (sV _ _).1 (sV _ _).2,fS,b,AN⟩
 |goexit fS=>simp only[vcv]at a;obtain⟨rfl,rfl,_⟩:=a;simp only[early];exact⟨σ,_,cs,_,bb,_,_,U,U,g.raise (.cons ⟨.undef σ,U,U⟩ .nil),f,i.same (sV _ _).1 (sV _ _).2,fS,b,AN⟩
end
section
section
variable{C:cy}{S:Sync}{ρ:Ren}
structure cy.Good(C:cy):Prop where
 same:C.b_
 EC:C.sR
 funcs:C.Bf
 ou:C.O_
 Pe:C.P.follows .rangeFuncRecover=true
theorem cy.Good.follows(h:C.Good)(d:Departure):C.Q.follows d=C.P.follows d:=by unfold Tables.follows;rw[h.same]
def aho(id:Nat){k k':uab}(h:mL C ρ k k'):mJ (mL C ρ) (exitTo id k) (exitTo id k'):=by
 induction h with
 |nil=>exact .none
 |cons hi hk a=>
  cases hi with
  |inBlock b=>
   simp only[exitTo];split
   .exact .some hk
   grind
  | _=>exact a
def ahq(d:C.O_):∀(c:Code)(l:Nat)(r:Code),C.fF c->findLabel c l=some r->C.fF r:=by
 intro c;induction c with
 |seq a b g f=>intro l r hok h;rw[d]at hok;simp only[jP,vae]at hok;simp only[findLabel]at h;cases e:findLabel a l with|some rest=>rw[e]at h;cases h;have:=g l rest ((d a).2 hok.1) e;rw[d]at this⊢;simp_all[jP]|none=>rw[e]at h;exact f l r ((d b).2 hok.2) h
 |label l'=>
  intro l r _ h;simp only[findLabel]at h;split at h
  .cases h;rw[d];rfl
  grind
 | _=>intro l r _ h;cases h
def ahr(d:C.O_)(l:Nat){k k':uab}(h:mL C ρ k k'):mJ (mL C ρ) (gotoIn l k) (gotoIn l k'):=by
 induction h with
 |nil=>exact .none
 |cons hi hk a=>
  cases hi with
  |@inScope c hok=>simp only[gotoIn];cases b:findLabel c l with|some r=>exact .some (.cons (.code (ahq d c l r hok b)) (.cons (.inScope hok) hk))|none=>exact a
  | _=>exact a
def V5{t b:dC}(h:aL ρ t b)(ops:eQ):yielded ops t=yielded ops b:=by
 funext j
 unfold yielded;cases((ops[j]?).bind (·.dst))with|none=>rfl|some d=>simp only[Option.bind_some];cases ht:t[d]? with|none=>rw[h.none ht]|some v=>obtain⟨v',a,c⟩:=h.some ht;rw[a];cases c<;>rfl
def rV{rT b:Frame}{base:fA}{w w':aH}(a:iV C ρ cs bb)(e:iW fr cs)(c:eo C S ρ w w')(hk:rT.kind=fr.kind)(d:rT.roundOf=fr.roundOf)(f:ep C ρ rT b):iG C S ρ b0 base w' (bf rT (cs++b0)) w (.go (bf b (bb++base)) w'):=
 ⟨ρ,_,cs,_,bb,_,_,U,U,f,a,e.same hk d,c,.refl _ _,Ab⟩
def V6{main main':Bool}{c c':Frame}{base:fA}{w w':aH}{w1:aH}(p:ep C ρ fr aO)(f:ep C ρ c c')(d:iV C ρ cs bb)(j:iW c cs)(i:eo C S ρ w w')(hv:ap ρ v v')(h:doReturn C.P main fr (c::(cs++b0)) none v w=.go g1 w1 lM):iG C S ρ b0 base w' g1 w1 (doReturn C.Q main' aO (c'::(bb++base)) none v' w'):=by
 unfold doReturn at h⊢;rcases p.plain with hk|hk
 .have o:=p.kind.symm.trans hk;simp only[hk,vcv]at h;obtain⟨rfl,rfl,_⟩:=h;simp only[o];exact⟨ρ,_,cs,_,bb,_,_,U,U,f.finish hv,d,j.same (zG _ _).1 (zG _ _).2,i,.refl _ _,Ab⟩
 .have o:=p.kind.symm.trans hk;simp only[hk,vcv]at h;obtain⟨rfl,rfl,_⟩:=h;simp only[o];have k:=f.mode;generalize H:c.mode=m at k;generalize F:c'.mode=m' at k;have keep:iG C S ρ b0 base w' (bf c (cs++b0)) w (.go (bf c' (bb++base)) w'):=rV d j i U U f;cases k with
  |run=>exact keep
  |returning=>exact keep
  |panicking n=>
   cases n with
   |nil=>exact keep
   |@cons e B s r A z=>
    obtain⟨ev,q,I⟩:=e;obtain⟨kX,E,D⟩:=B;obtain⟨x,u,t⟩:=A;simp only at x u t;subst u;subst t;cases q with
    |false=>exact keep
    |true=>
     simp only[];have drop:∀(l l':List PanicEntry),de (xp ρ) l l'->de (xp ρ) (l.dropWhile (!·.goexit)) (l'.dropWhile (!·.goexit)):=by
      intro l l' n;induction n with
      |nil=>exact .nil
      |cons g ht y=>
       simp only[List.dropWhile_cons,g.goexit];split
       .exact y
       .exact .cons g ht
     have hd:=drop _ _ z;generalize s.dropWhile (!·.goexit)=a at hd;generalize r.dropWhile (!·.goexit)=b at hd;cases hd with|nil=>exact rV (fr:=c) d j i U U (f.uk .returning)|cons g ht=>exact rV (fr:=c) d j i U U (f.uk (.panicking (.cons g ht)))
theorem iG.after{w' g:aH}{σ:Ren}{base:fA}{w1:aH}{s':GStep}(l:Grow ρ σ w' g)(k:∀e∈es,wb σ e)(h:iG C S σ b0 base g g1 w1 s'):iG C S ρ b0 base w' g1 w1 (GStep.after es s'):=by
 obtain⟨aU,a,b,c,d,e,f,o,rfl,n,m,q,p,i,r⟩:=h;refine⟨aU,a,b,c,d,e,es++f,o,U,n,m,q,p,l.trans i,λx j=>?_⟩;rcases vdr.1 j with y|y
 .exact(k x y).mono i.le
 grind
