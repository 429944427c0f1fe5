import Derived.Test.YtmlddfohidhniaaGreatPAA
set_option linter.all false
set_option maxRecDepth 100000
set_option maxHeartbeats 16000000
namespace Go.Proofs.YtmlddfohidhniaaGreat
def vai:=@Go.Conc.Goes.stop
def vau:=@Go.Sem.runT_eq
def vbc:=@Go.Conc.stepG_value
def vbk:=@Go.Conc.getElem?_append_cases
def vbt:=@Go.Result.andThen_ok
def vco:=@Go.Calls.mono
def vde:=@Go.Frame.finish_at
def vdj:=@Go.GStep.go.injEq
def vdp:=@Go.Sem.run_bind
def vea:=@Go.Conc.stepG_region_end
def veg:=@Go.Conc.stepG_none
def veh:=@Go.Conc.stepG_seq
namespace ax
inductive cE{ao aI:Type}(R:ao->aI->Prop):List ao->List aI->Prop
 |nil:cE R [] []
 |cons {a:ao} {b:aI} {l:List ao} {m:List aI} (h:R a b) (t:cE R l m):cE R (a::l) (b::m)
theorem cE.mono{ao aI:Type}{R S:ao->aI->Prop}(d:∀a b,R a b->S a b){l:List ao}{m:List aI}(h:cE R l m):cE S l m:=by induction h with|nil=>exact .nil|cons h _ c=>exact .cons (d _ _ h) c
theorem cE.append{ao aI:Type}{R:ao->aI->Prop}{l l2:List ao}{m a:List aI}(h:cE R l m)(k:cE R l2 a):cE R (l++l2) (m++a):=by induction h with|nil=>exact k|cons h _ b=>exact .cons h b
theorem cE.length{ao aI:Type}{R:ao->aI->Prop}{l:List ao}{m:List aI}(h:cE R l m):l.length=m.length:=by induction h with|nil=>rfl|cons _ _ a=>grind
def cE.A6{ρ:Ren}{a a':dp}(h:aJ ρ a a'):cE (ar ρ) a.toList a'.toList:=by obtain⟨l⟩:=a;obtain⟨m⟩:=a';simp only;induction l generalizing m with|nil=>have:=h.size;simp at this;have:m=[]:=List.length_eq_zero_iff.1 this.symm;subst this;exact .nil|cons x l c=>cases m with|nil=>have:=h.size;grind|cons y m=>refine .cons (h.get 0 x y Ad Ad) (c m ⟨by have:=h.size;grind,λi v v' a b=>h.get (i+1) v v' AA AA⟩)
def aJ.K9{ρ:Ren}{l m:uad}(h:cE (ar ρ) l m):aJ ρ l.toArray m.toArray:=by induction h with|nil=>exact .nil ρ|@cons a b l m h _ c=>have e:∀(x:Value)(l:uad),(x::l).toArray=#[x]++l.toArray:=λx l=>Ad;grind[aJ.one,append]
def P5:Builtin->Bool
 | .append| .cap| .copy| .len=>true
 | _=>false
inductive ud(ρ:Ren):Target->Target->Prop
 |fn {f f':Fn} {c c':dp} (h:s8 ρ f f') (k:aJ ρ c c'):ud ρ (.fn f c) (.fn f' c')
 |nil:ud ρ .nil .nil
 |builtin (b:Builtin) (ats:uaq) (t:g4) (cs:uat) (hb:P5 b=true):ud ρ (.builtin b ats t cs) (.builtin b ats t cs)
 |collected {r r':Nat} (h:ρ.rel r r'):ud ρ (.collected r) (.collected r')
structure zo(ρ:Ren)(d d':Deferred):Prop where
 target:ud ρ d.target d'.target
 args:aJ ρ d.args d'.args
theorem ud.mono{ρ σ:Ren}(c:Ren.le ρ σ){a a':Target}(h:ud ρ a a'):ud σ a a':=by cases h with|fn h k=>exact .fn (h.mono c) (k.mono c)|nil=>exact .nil|builtin b ats t cs d=>exact .builtin b ats t cs d|collected h=>exact .collected (c.1 _ _ h)
theorem zo.mono{ρ σ:Ren}(b:Ren.le ρ σ){a a':Deferred}(h:zo ρ a a'):zo σ a a':=⟨h.target.mono b,h.args.mono b⟩
abbrev qU(ρ:Ren):List Deferred->List Deferred->Prop:=cE (zo ρ)
theorem qU.mono{ρ σ:Ren}(b:Ren.le ρ σ){a a':List Deferred}(h:qU ρ a a'):qU σ a a':=cE.mono (λ_ _ x=>x.mono b) h
structure qV(ρ:Ren)(e e':MapEntry):Prop where
 key:ar ρ e.key e'.key
 val:ar ρ e.val e'.val
 born:e.born=e'.born
theorem qV.mono{ρ σ:Ren}(b:Ren.le ρ σ){a a':MapEntry}(h:qV ρ a a'):qV σ a a':=⟨h.key.mono b,h.val.mono b,h.born⟩
def xp(fr:ubs)(i:Nat):Prop:=fr.1<=i/\i<fr.2
def K_:Obj->Prop
 | .stringIter .. | .mapIter .. | .loop _ | .deferred _ | .coro _ | .finalizers .. =>True
 | _=>False
structure cH where
 P:b4
 Q:b4
 lV:Code->Prop
 upd:Bool
structure Hw(C:cH)(ρ:Ren)(l l':Loop):Prop where
 state:l.state=l'.state
 pending:l.pending=l'.pending
 La:∀c,l.pending=some c->C.lV c
 fn:l.fn=l'.fn
 known:∃fn c,C.P.funcs[l.fn]?=some fn/\fn.body=some c
 tmps:aJ ρ l.tmps l'.tmps
 params:l.params=l'.params
 assign:l.assign=l'.assign
 Hx:C.lV l.assign
 body:l.body=l'.body
 Hy:C.lV l.body
 defers:ρ.rel l.defers l'.defers
theorem Hw.mono{C:cH}{ρ σ:Ren}(b:Ren.le ρ σ){a a':Loop}(h:Hw C ρ a a'):Hw C σ a a':=
 ⟨h.state,h.pending,h.La,h.fn,h.known,h.tmps.mono b,h.params,h.assign,h.Hx,h.body,h.Hy,b.1 _ _ h.defers⟩
inductive gN(C:cH)(ρ:Ren):Obj->Obj->Prop
 |cells {c c':dp} (elem:g4) {fr aQ:ubs} (h:aJ ρ c c') (hf:(∀i,xp aQ i->xp fr i)/\(C.upd=true->aQ=fr)):gN C ρ (.cells c elem fr) (.cells c' elem aQ)
 |map {es es':Array MapEntry} (clock:Nat) (h:cE (qV ρ) es.toList es'.toList):gN C ρ (.map es clock) (.map es' clock)
 |stringIter (s:ByteArray) (p:Nat):gN C ρ (.stringIter s p) (.stringIter s p)
 |A7 (since:Nat) (seen:Array Nat) (st:Nat):gN C ρ (.mapIter none since seen st) (.mapIter none since seen st)
 |mapIter {m m':Nat} (h:ρ.rel m m') (since:Nat) (seen:Array Nat) (st:Nat):gN C ρ (.mapIter (some m) since seen st) (.mapIter (some m') since seen st)
 |loop {l l':Loop} (h:Hw C ρ l l'):gN C ρ (.loop l) (.loop l')
 |deferred {l l':List Deferred} (h:qU ρ l l'):gN C ρ (.deferred (some l)) (.deferred (some l'))
 |taken:gN C ρ (.deferred none) (.deferred none)
 |number {a a':Addr} (h:dr ρ a a') (A8:Bool):gN C ρ (.number a A8) (.number a' A8)
 |shut {o':Obj} (h:K_ o'):gN C ρ (.coro none) o'
theorem gN.mono{C:cH}{ρ σ:Ren}(d:Ren.le ρ σ){a a':Obj}(h:gN C ρ a a'):gN C σ a a':=by cases h with|cells e h f=>exact .cells e (h.mono d) f|map c h=>exact .map c (cE.mono (λ_ _ x=>x.mono d) h)|stringIter s p=>exact .stringIter s p|A7 a b c=>exact .A7 a b c|mapIter h a b c=>exact .mapIter (d.1 _ _ h) a b c|loop h=>exact .loop (h.mono d)|deferred h=>exact .deferred (h.mono d)|taken=>exact .taken|number h l=>exact .number (h.mono d) l|shut h=>exact .shut h
structure Sync where
 a:Nat
 b:Nat
 bound:Nat
 T:Nat->Question->Nat
inductive EB:Obj->Prop
 |coro:EB (.coro none)
 |number (a:Addr) (l:Bool):EB (.number a l)
structure eL(C:cH)(S:Sync)(ρ:Ren)(w w':aS):Prop where
 obj:∀b b',ρ.rel b b'->∃o o',w.heap[b]?=some o/\w'.heap[b']?=some o'/\gN C ρ o o'
 one:∀a b b',ρ.rel a b->ρ.rel a b'->b=b'
 inj:∀a a' b,ρ.rel a b->ρ.rel a' b->a=a'
 nb:∀g,g<=C.P.globals.size->ρ.rel g g
 sync:w.drawn+S.b=w'.drawn+S.a
 tape:∀j q,w'.drawn+j<S.bound->w.tape (w.drawn+j) q=w'.tape (w'.drawn+j) q
 env:w.os.env=w'.os.env
 lone:w.tape=S.T
 still:∀b b',ρ.rel b b'->¬ρ.mine b'->(C.upd=false/\∃c e fr,w.heap[b]?=some (.cells c e fr)/\∀i,i<c.size->xp fr i)\/(C.upd=false/\∃es k,w.heap[b]?=some (.map es k))\/∃o,w.heap[b]?=some o/\EB o
def vO(ρ:Ren)(e:Event):Prop:=
 match e.loc with
 | .cell a=>(∃b,ρ.rel b a.block)/\(e.write=true->ρ.mine a.block)/\e.sync=false
 | .obj r=>(∃b,ρ.rel b r)/\(e.write=true->ρ.mine r)/\e.sync=false
 | .mark .noRoom| .mark (.extern _)| .output=>True
 | _=>False
theorem vO.mono{ρ σ:Ren}(b:Ren.le ρ σ){e:Event}(h:vO ρ e):vO σ e:=by obtain⟨l,wr,c⟩:=e;unfold vO at h⊢;cases l with|cell a=>exact⟨h.1.imp λ_ x=>b.1 _ _ x,λx=>b.2 _ (h.2.1 x),h.2.2⟩|obj a=>exact⟨h.1.imp λ_ x=>b.1 _ _ x,λx=>b.2 _ (h.2.1 x),h.2.2⟩|mark m=>grind|output=>exact h|goroutines=>exact h
structure Grow(ρ σ:Ren)(w' oy:aS):Prop where
 le:Ren.le ρ σ
 back:∀b,σ.mine b->ρ.mine b\/w'.heap.size<=b
 size:w'.heap.size<=oy.heap.size
 low:∀b,σ.mine b->ρ.mine b\/b<oy.heap.size
 old:∀a b,σ.rel a b->ρ.rel a b\/w'.heap.size<=b
 kept:∀b,b<w'.heap.size->¬ρ.mine b->oy.heap[b]?=w'.heap[b]?
 os:oy.os=w'.os
 output:oy.output=w'.output
 tape:oy.tape=w'.tape
 drawn:w'.drawn<=oy.drawn
theorem Grow.refl(ρ:Ren)(w:aS):Grow ρ ρ w w:=⟨Ren.le_refl _,λ_ h=>.inl h,vac _,λ_ h=>.inl h,λ_ _ h=>.inl h,λ_ _ _=>Y,Y,Y,Y,vac _⟩
theorem Grow.trans{ρ σ f:Ren}{w w1 d:aS}(h:Grow ρ σ w w1)(k:Grow σ f w1 d):Grow ρ f w d:=
 ⟨Ren.le_trans h.le k.le,λb x=>(k.back b x).elim (λy=>h.back b y) (λy=>.inr (vad h.size y)),vad h.size k.size,
  λb x=>(k.low b x).elim (λy=>(h.low b y).imp id λz=>vap z k.size) .inr,
  λa b x=>(k.old a b x).elim (λy=>h.old a b y) (λy=>.inr (vad h.size y)),
  λb c e=>by rw[k.kept b (vap c h.size) (λy=>(h.back b y).elim e (λz=>absurd c (Nat.not_lt.2 z)))];exact h.kept b c e,
  k.os.trans h.os,k.output.trans h.output,k.tape.trans h.tape,vad h.drawn k.drawn⟩
inductive EC{ao aI:Type}(C:cH)(S:Sync)(ρ:Ren)(R:Ren->ao->aI->Prop):Result ao->Result aI->aS->Prop
 |ok {a:ao} {b:aI} {w w':aS} (h:R ρ a b) (hw:eL C S ρ w w'):EC C S ρ R (.ok a w) (.ok b w') w'
 |panic {v v':Value} {w w':aS} (h:ar ρ v v') (hw:eL C S ρ w w'):EC C S ρ R (.halt (.panic v) w) (.halt (.panic v') w') w'
 |goexit {w w':aS} (hw:eL C S ρ w w'):EC C S ρ R (.halt .goexit w) (.halt .goexit w') w'
def Good{ao:Type}:Result ao->Prop
 | .ok _ _=>True
 | .halt (.panic _) _ | .halt .goexit _ | .halt (.unsupported (.initOrder _)) _=>True
 | _=>False
def ap{ao aI:Type}(C:cH)(ρ:Ren)(R:Ren->ao->aI->Prop)(m:Sem ao)(m':Sem aI):Prop:=
 ∀(S:Sync)(w w':aS),eL C S ρ w w'->Good (m.run C.P w)->(k9 (m'.run C.Q w')).drawn<=S.bound->
  ∃(σ:Ren)(w1:aS),EC C S σ R (m.run C.P w) (m'.run C.Q w') w1/\Grow ρ σ w' w1/\
   ∀es,∃d,m'.events C.Q w' es=es++d/\∀e∈d,vO σ e
def pm{ao aI:Type}(R:Ren->ao->aI->Prop):Prop:=∀ρ σ a b,Ren.le ρ σ->R ρ a b->R σ a b
variable{v v':Value}
section
variable{ao aI γ Hz:Type}{C:cH}{ρ:Ren}
theorem ap.pure{R:Ren->ao->aI->Prop}{a:ao}{b:aI}(h:R ρ a b):ap C ρ R (Pure.pure a) (Pure.pure b):=by intro S w w' c _ _;exact⟨ρ,w',.ok h c,.refl _ _,λes=>⟨#[],by simp[Sem.events,Pure.pure,Sem.runT],Ad⟩⟩
def mH(m:Sem ao)(f:ao->Sem aI)(P:b4)(w:aS):(m>>= f).run P w=match m.run P w with| .ok a w1=>(f a).run P w1| .halt h w1=>.halt h w1:=by
 show(m.bind f).run P w=_;induction m generalizing w with
 |pure a=>rfl
 |load md a k b=>grind[Sem.bind,Sem.run]
 |store md a v k b=>
  cases v with
  |agg c=>rfl
  |tuple c=>rfl
  | _=>
   simp only[Sem.bind,Sem.run];cases w.cell? a with
   |some v=>
    simp only[];split
    .rfl
    .exact b _
   |none=>
    simp only[];split
    .exact b _
    .rfl
 |new o k b=>exact b _ _
 |shape r k b=>exact b _ _
 |freeze a n k b=>exact b _
 |frozen a k b=>exact b _ _
 |getObj r k b=>grind[Sem.bind,Sem.run]
 |setObj r o k b=>grind[Sem.bind,Sem.run]
 |choose q k b=>grind[Sem.bind,Sem.run]
 |sys c k b=>exact b _ _
 |program k b=>exact b _ _
 |mark m k b=>exact b _
 |halt h=>rfl
theorem P6(m:Sem ao)(f:ao->Sem aI)(P:b4)(w:aS)(es:uao):(m>>= f).events P w es=match m.run P w with| .ok a w1=>(f a).events P w1 (m.events P w es)| .halt _ _=>m.events P w es:=by
 show(m.bind f).events P w es=_;unfold Sem.events;induction m generalizing w es with
 |pure a=>rfl
 |load md a k b=>grind[Sem.bind,Sem.run,Sem.runT]
 |store md a v k b=>
  cases v with
  |agg c=>rfl
  |tuple c=>rfl
  | _=>
   simp only[Sem.bind,Sem.run,Sem.runT];cases w.cell? a with
   |some v=>
    simp only[];by_cases d:w.frozen? a=true
    .simp only[d,vdh]
    .simp only[d];exact b _ _
   |none=>simp only[];cases e:w.farStore P a _ (md== .atomic)with|ok r=>exact b _ _|error h=>rfl
 |new o k b=>exact b _ _ _
 |shape r k b=>exact b _ _ _
 |freeze a n k b=>exact b _ _
 |frozen a k b=>exact b _ _ _
 |getObj r k b=>grind[Sem.bind,Sem.run,Sem.runT]
 |setObj r o k b=>grind[Sem.bind,Sem.run,Sem.runT]
 |choose q k b=>simp only[Sem.bind,Sem.run,Sem.runT];grind
 |sys c k b=>exact b _ _ _
 |program k b=>exact b _ _ _
 |mark m k b=>exact b _ _
 |halt h=>rfl
theorem ap.bind{R:Ren->ao->aI->Prop}{S:Ren->γ->Hz->Prop}{m:Sem ao}{m':Sem aI}{f:ao->Sem γ}{f':aI->Sem Hz}(h:ap C ρ R m m')(k:∀σ a b,Ren.le ρ σ->R σ a b->ap C σ S (f a) (f' b)):ap C ρ S (m>>= f) (m'>>= f'):=by
 intro S w w' z hg g;rw[mH]at hg⊢;have H:(k9 (m'.run C.Q w')).drawn<=S.bound:=by rw[mH]at g;cases d:m'.run C.Q w' with|ok b i=>rw[d]at g;exact vad (A5 C.Q (f' b) i).1 g|halt x i=>rw[d]at g;exact g
 have q:Good (m.run C.P w):=by
  cases l:m.run C.P w with
  |ok a w1=>trivial
  |halt x w1=>
   rw[l]at hg;cases x with
   |unsupported u=>cases u<;>first|exact hg|trivial
   | _=>first|exact hg|trivial
 obtain⟨σ,w1,c,n,D⟩:=h S w w' z q H;rw[mH]at g⊢;cases l:m.run C.P w with
 |ok a r=>
  rw[l]at c hg;cases d:m'.run C.Q w' with
  |ok b i=>
   rw[d]at c g;cases c with
   |ok o j=>
    obtain⟨E,t,v,s,p⟩:=k σ a b n.le o S r _ j hg g;refine⟨E,t,v,n.trans s,λes=>?_⟩;obtain⟨d1,J,F⟩:=D es;obtain⟨B,I,K⟩:=p (m'.events C.Q w' es);refine⟨d1++B,?_,λe A=>?_⟩
    .grind[P6]
    .rcases ved.1 A with x|x
     .exact(F e x).mono s.le
     grind
  |halt x i=>rw[d]at c;cases c
 |halt x r=>rw[l]at c;cases d:m'.run C.Q w' with|ok b i=>rw[d]at c;cases c|halt y i=>rw[d]at c;cases c with|panic o j=>refine⟨σ,_,.panic o j,n,λes=>?_⟩;simp_all[P6]|goexit j=>refine⟨σ,_,.goexit j,n,λes=>?_⟩;simp_all[P6]
theorem ap.mono{R S:Ren->ao->aI->Prop}{m:Sem ao}{m':Sem aI}(h:ap C ρ R m m')(k:∀σ a b,Ren.le ρ σ->R σ a b->S σ a b):ap C ρ S m m':=by intro S w w' c hg g;obtain⟨σ,w1,e,f,i⟩:=h S w w' c hg g;refine⟨σ,w1,?_,f,i⟩;generalize m.run C.P w=r at e;generalize m'.run C.Q w'=r' at e;cases e with|ok d c=>exact .ok (k _ _ _ f.le d) c|panic d c=>exact .panic d c|goexit c=>exact .goexit c
def ap.ite{R:Ren->ao->aI->Prop}{c:Prop}[Decidable c]{a b:Sem ao}{a' b':Sem aI}(h:c->ap C ρ R a a')(k:¬c->ap C ρ R b b'):ap C ρ R (if c then a else b) (if c then a' else b'):=by grind
theorem ap.none{R:Ren->ao->aI->Prop}{m:Sem ao}{m':Sem aI}(h:∀w,¬Good (m.run C.P w)):ap C ρ R m m':=λ_ w _ _ hg _=>absurd hg (h w)
theorem ap.stuck{R:Ren->ao->aI->Prop}{s:String}{m':Sem aI}:ap C ρ R (Go.stuck s) m':=.none λ_ h=>h
theorem ap.unsupported{R:Ren->ao->aI->Prop}{u:Unsupported}{m':Sem aI}(a:∀g,u≠ .initOrder g:=by intro g h;cases h):ap C ρ R (Go.unsupported u) m':=.none λ_ h=>by cases u with|initOrder g=>grind| _=>exact h
theorem ap.throw{R:Ren->ao->aI->Prop}{s:String}{m':Sem aI}:ap C ρ R (Go.throw s) m':=.none λ_ h=>h
theorem ap.goPanic{R:Ren->ao->aI->Prop}(h:ar ρ v v'):ap C ρ R (Go.goPanic v) (Go.goPanic v'):=by intro S w w' a _ _;exact⟨ρ,w',.panic h a,.refl _ _,λes=>⟨#[],by simp[Sem.events,Go.goPanic,Sem.runT],Ad⟩⟩
end
variable{a a':Addr}{r r':Nat}{x:Value}{c:dp}{P:b4}{o o':Obj}
section
attribute [-simp] Sem.runT_eq
section
variable{C:cH}{S:Sync}{ρ:Ren}{w w':aS}
def eL.lt(h:eL C S ρ w w'){a b:Nat}(r:ρ.rel a b):a<w.heap.size/\b<w'.heap.size:=by obtain⟨o,o',d,c,_⟩:=h.obj a b r;grind
theorem eL.cells(h:eL C S ρ w w'){a b:Nat}(r:ρ.rel a b){c:dp}{e:g4}{fr:ubs}(hc:w.heap[a]?=some (.cells c e fr)):
 ∃c' aQ,w'.heap[b]?=some (.cells c' e aQ)/\aJ ρ c c'/\∀i,xp aQ i->xp fr i:=by
 obtain⟨o,o',d,j,g⟩:=h.obj a b r;rw[hc]at d;cases d;cases g with|cells e f hF=>exact⟨_,_,j,f,hF.1⟩
def eL.other(h:eL C S ρ w w'){a b:Nat}(r:ρ.rel a b)(hc:∀c e fr,w.heap[a]?≠some (.cells c e fr)):
 ∃o o',w.heap[a]?=some o/\w'.heap[b]?=some o'/\gN C ρ o o'/\(∀c e fr,o'≠ .cells c e fr)/\(∀x t,o'≠ .view x t)/\(∀x t,o'≠ .pending x t)/\o'.isChan=false:=by
 obtain⟨o,o',i,g,d⟩:=h.obj a b r;refine⟨o,o',i,g,d,?_⟩;cases d with
 |cells e j hF=>grind
 |shut f=>cases o'<;>first|exact f.elim|exact⟨Ad,Ad,Ad,Y⟩
 | _=>exact⟨Ad,Ad,Ad,Y⟩
theorem xq{w:aS}(h:w.cell? a=some v):∃c e fr,w.heap[a.block]?=some (.cells c e fr)/\a.spot=none/\c[a.off]?=some v:=by
 unfold World.cell? at h;split at h
 .simp_all
 grind
theorem mj{w:aS}{e:g4}{fr:ubs}(h:w.heap[a.block]?=some (.cells c e fr))(hs:a.spot=none)(hv:c[a.off]?=some v):w.cell? a=some v:=by grind[World.cell?]
theorem eL.cell(h:eL C S ρ w w')(r:dr ρ a a')(hv:w.cell? a=some v):∃v',w'.cell? a'=some v'/\ar ρ v v':=by obtain⟨c,e,fr,k,j,i⟩:=xq hv;obtain⟨c',aQ,f,d,_⟩:=h.cells r.1 k;obtain⟨v',b,g⟩:=d.some i;exact⟨v',mj f (r.2.2▸j) (r.2.1▸b),g⟩
def agr{ao:Type}(h:eL C S ρ w w')(r:dr ρ a a')(hn:w.cell? a=none)(m:Mode)(k:Value->Sem ao):¬Good ((Sem.load m a k).run C.P w):=by
 simp only[Sem.run,hn];obtain⟨o,o',c,d,b⟩:=h.obj _ _ r.1;have:w.farLoad C.P a (m== .atomic)=.error (w.noCell a "load: no such cell"):=by unfold World.farLoad;rw[c];cases b<;>rfl
 rw[this];simp only[World.noCell,c];cases b<;>exact id
theorem ap.load(r:dr ρ a a'):ap C ρ ar (Go.load a) (Go.load a'):=by
 intro S w w' b hg _;cases hc:w.cell? a with
 |none=>exact absurd hg (agr b r hc _ _)
 |some v=>
  obtain⟨v',c,f⟩:=b.cell r hc;refine⟨ρ,w',?_,.refl _ _,λes=>⟨#[⟨.cell a',false,false⟩],?_,?_⟩⟩
  .simp only[Go.load,Sem.run,hc,c];exact .ok f b
  .grind[Sem.events,Go.load,Sem.runT]
  .intro e d;simp at d;subst d;exact⟨⟨_,r.1⟩,Ad,Y⟩
theorem eL.setCell(h:eL C S ρ w w')(r:dr ρ a a')(hv:ar ρ v v')(q:ρ.mine a'.block):eL C S ρ (w.setCell a v) (w'.setCell a' v'):=by
 have get:∀(w:aS)(a:Addr)(v:Value)(b:Nat),(w.setCell a v).heap[b]?=(w.heap[b]?).map (λo=>if a.block=b then(match o with| .cells c e f=>.cells (if a.spot.isSome then c else c.setIfInBounds a.off v) e f|o=>o)else o):=by grind[World.setCell]
 refine⟨λb b' d=>?_,h.one,h.inj,h.nb,h.sync,h.tape,h.env,h.lone,λb b' d hn=>?_⟩
 .obtain⟨o,o',g,j,t⟩:=h.obj b b' d;rw[get,get,g,j];simp only[vdt];refine⟨_,_,Y,Y,?_⟩;by_cases e:a.block=b
  .subst e;have m:a'.block=b':=h.one _ _ _ r.1 d;subst m;simp only[vdh];cases t with
   |cells el i hF=>
    simp only[r.2.2,r.2.1];by_cases hs:a'.spot.isSome=true
    .simp only[hs,vdh];exact .cells el i hF
    .simp only[hs];exact .cells el (i.set hv _) hF
   |map c h=>exact .map c h
   |stringIter s p=>exact .stringIter s p
   |A7 a b c=>exact .A7 a b c
   |mapIter h a b c=>exact .mapIter h a b c
   |loop h=>exact .loop h
   |deferred h=>exact .deferred h
   |taken=>exact .taken
   |number h l=>exact .number h l
   |shut h=>cases o'<;>first|exact h.elim|exact .shut trivial
  .have m:a'.block≠b':=λx=>e (h.inj _ _ _ (x▸r.1) d);grind
 .have e:a.block≠b:=λx=>hn (h.one _ _ _ r.1 (x▸d)▸q);rw[get];rcases h.still b b' d hn with⟨n,c,el,fr,g,j⟩|⟨n,es,k,g⟩|⟨o,g,hd⟩
  .grind
  .grind
  grind
def ar.ags(h:ar ρ v v'):((∃c,v=.agg c)\/∃c,v=.tuple c)\/((∀c,v≠ .agg c)/\(∀c,v≠ .tuple c)/\(∀c,v'≠ .agg c)/\(∀c,v'≠ .tuple c)):=by cases h with|agg=>grind|tuple=>grind| _=>exact .inr ⟨Ad,Ad,Ad,Ad⟩
def run_store{ao:Type}{md:Mode}{k:Sem ao}(e:∀c,v≠ .agg c)(d:∀c,v≠ .tuple c)(hc:w.cell? a=some x)(b:w.frozen? a=false):
 (Sem.store md a v k).run P w=k.run P (w.setCell a v):=by
 simp_all[Sem.run]
theorem events_store{ao:Type}{md:Mode}{k:Sem ao}(e:∀c,v≠ .agg c)(d:∀c,v≠ .tuple c)(hc:w.cell? a=some x)(b:w.frozen? a=false)(es:uao):
 (Sem.store md a v k).events P w es=k.events P (w.setCell a v) (es.push ⟨.cell a,true,md== .atomic⟩):=by
 simp_all[Sem.events,Sem.runT]
theorem ap.store(r:dr ρ a a')(hv:ar ρ v v'):ap C ρ (λ_(_ _:Unit)=>True) (Go.store a v) (Go.store a' v'):=by
 intro S w w' d hg _;rcases hv.ags with(⟨c,rfl⟩|⟨c,rfl⟩)|⟨n1,ey,s,oz⟩
 .exact hg.elim
 .exact hg.elim
 cases hc:w.cell? a with
 |none=>
  exfalso;obtain⟨o,o',n,J,m⟩:=d.obj _ _ r.1;have D:∀v,w.farStore C.P a v (Mode.plain== .atomic)=.error (w.noCell a "store: no such cell"):=by intro v;unfold World.farStore;rw[n];cases m<;>rfl
  have:(Go.store a v).run C.P w=.halt (w.noCell a "store: no such cell") w:=by simp_all[Go.store,Sem.run]
  rw[this]at hg;simp only[World.noCell,n]at hg;cases m<;>exact hg
 |some x=>
  obtain⟨x',t,_⟩:=d.cell r hc;obtain⟨c,e,fr,i,H,F⟩:=xq hc;have B:a.off<c.size:=AA;cases u:w.frozen? a with
  |true=>
   exfalso;have:(Go.store a v).run C.P w=.halt (.unsupported (.unsafePointer "a write to bytes that a string shares")) w:=by simp_all[Go.store,Sem.run]
   rw[this]at hg;exact hg
  |false=>
   have g:¬xp fr a.off:=by intro⟨y,z⟩;grind[World.frozen?]
   obtain⟨c',aQ,A,L,p⟩:=d.cells r.1 i;have q:w'.frozen? a'=false:=by unfold World.frozen?;rw[A];have:¬xp aQ a'.off:=λy=>g (r.2.1▸p _ y);grind[xp]
   have j:ρ.mine a'.block:=by
    apply vaw;intro hn;rcases d.still _ _ r.1 hn with⟨_,bH,K,M,f,E⟩|⟨_,es,k,f⟩|⟨o,f,hd⟩
    .grind
    .grind
    .rw[i]at f;cases f;cases hd
   refine⟨ρ,w'.setCell a' v',?_,?_,λes=>⟨#[⟨.cell a',true,false⟩],?_,?_⟩⟩
   .show EC C S ρ _ ((Go.store a v).run C.P w) ((Go.store a' v').run C.Q w') _;rw[Go.store,Go.store,run_store n1 ey hc u,run_store s oz t q];exact .ok trivial (d.setCell r hv j)
   .refine⟨Ren.le_refl _,λ_ h=>.inl h,by simp[World.setCell],λ_ h=>.inl h,λ_ _ h=>.inl h,λb I hn=>?_,Y,Y,Y,vac _⟩;grind[World.setCell]
   .grind[Go.store,events_store,Sem.events,Sem.runT]
   .intro e l;simp at l;subst l;exact⟨⟨_,r.1⟩,λ_=>j,Y⟩
def Ren.new(ρ:Ren)(n n':Nat):Ren:={rel:=λa b=>ρ.rel a b\/(a=n/\b=n'),mine:=λb=>ρ.mine b\/b=n'}
def Ren.Wr(ρ:Ren)(n a:Nat):Ren.le ρ (ρ.new n a):=⟨λ_ _ h=>.inl h,λ_ h=>.inl h⟩
theorem eL.alloc(h:eL C S ρ w w')(l:gN C ρ o o'):eL C S (ρ.new w.heap.size w'.heap.size) {w with heap:=w.heap.push o} {w' with heap:=w'.heap.push o'}:=by
 have f:=Ren.Wr ρ w.heap.size w'.heap.size;refine⟨λb b' c=>?_,λa b b' x y=>?_,λa a' b x y=>?_,λg hg=>.inl (h.nb g hg),h.sync,h.tape,h.env,h.lone,λb b' c hn=>?_⟩
 .rcases c with c|⟨rfl,rfl⟩
  .obtain⟨p,i,q,n,m⟩:=h.obj b b' c;have d:=h.lt c;exact⟨p,i,AA,AA,m.mono f⟩
  .exact⟨o,o',Ad,Ad,l.mono f⟩
 .rcases x with x|⟨rfl,rfl⟩<;>rcases y with y|⟨k,j⟩
  .exact h.one _ _ _ x y
  .have:=(h.lt x).1;omega
  .have:=(h.lt y).1;omega
  grind
 .rcases x with x|⟨rfl,rfl⟩<;>rcases y with y|⟨k,j⟩
  .exact h.inj _ _ _ x y
  .have:=(h.lt x).2;omega
  .have:=(h.lt y).2;omega
  grind
 .rcases c with c|⟨rfl,rfl⟩
  .have d:=h.lt c;have e:({w with heap:=w.heap.push o}:aS).heap[b]?=w.heap[b]?:=AA;rw[e];exact h.still b b' c λx=>hn (.inl x)
  .exact absurd KK hn
theorem ap.new(f:gN C ρ o o'):ap C ρ (λσ n d=>σ.rel n d/\σ.mine d) (Go.newObj o) (Go.newObj o'):=by intro S w w' e _ _;refine⟨ρ.new w.heap.size w'.heap.size,{w' with heap:=w'.heap.push o'},.ok ⟨.inr ⟨Y,Y⟩,.inr Y⟩ (e.alloc f),?_,λes=>⟨#[],by simp[Sem.events,Go.newObj,Sem.runT],Ad⟩⟩;refine⟨Ren.Wr _ _ _,λb c=>c.imp id (λx=>AP),Ad,λb c=>c.imp id (λx=>AA),λa b c=>c.imp id (λx=>AP),λb c _=>?_,Y,Y,Y,vac _⟩;grind
theorem ap.shape(h:ρ.rel r r'):ap C ρ (λ_ s s'=>s=s') (Go.shape r) (Go.shape r'):=by
 intro S w w' a _ _;refine⟨ρ,w',?_,.refl _ _,λes=>⟨#[],by simp[Sem.events,Go.shape,Sem.runT],Ad⟩⟩;refine .ok ?_ a;obtain⟨o,o',g,f,d⟩:=a.obj r r' h;unfold World.shape?;rw[g,f];cases d with
 |cells e c hF=>simp[c.size]
 |shut b=>cases o'<;>first|exact b.elim|rfl
 | _=>rfl
def agu(C:cH)(r':Nat)(ρ:Ren)(o o':Obj):Prop:=gN C ρ o o'/\(∀c e fr,o≠ .cells c e fr)/\(ρ.mine r'\/(C.upd=false/\∃es k,o=.map es k)\/EB o)
theorem ap.getObj(h:ρ.rel r r'):ap C ρ (agu C r') (Go.getObj r) (Go.getObj r'):=by
 intro S w w' a hg _;have hc:∀c e fr,w.heap[r]?≠some (.cells c e fr):=by grind[Go.getObj,Sem.run,Good]
 obtain⟨o,o',p,n,i,n1,ey,oz,g⟩:=a.other h hc;have l:(Go.getObj r).run C.P w=.ok o w:=by grind[Go.getObj,Sem.run]
 have j:(Go.getObj r').run C.Q w'=.ok o' w':=by simp_all[Go.getObj,Sem.run]
 refine⟨ρ,w',?_,.refl _ _,λes=>⟨#[⟨.obj r',false,false⟩],?_,?_⟩⟩
 .rw[l,j];refine .ok ⟨i,λc e fr x=>hc c e fr AA,?_⟩ a;by_cases f:ρ.mine r'
  .grind
  .rcases a.still _ _ h f with⟨_,c,e,fr,b,_⟩|⟨m,es,k,b⟩|⟨o,b,hd⟩
   .grind
   .grind
   grind
 .simp_all[Sem.events,Go.getObj,Sem.runT]
 .intro e d;simp at d;subst d;exact⟨⟨_,h⟩,Ad,Y⟩
theorem ap.setObj(h:ρ.rel r r')(g:ρ.mine r')(k:gN C ρ o o')(hn:∀c e fr,o≠ .cells c e fr):ap C ρ (λ_(_ _:Unit)=>True) (Go.setObj r o) (Go.setObj r' o'):=by
 intro S w w' a hg _;have hc:∀c e fr,w.heap[r]?≠some (.cells c e fr):=by grind[Go.setObj,Sem.run,Good]
 obtain⟨p,s,v,u,t,n1,ey,oz,_⟩:=a.other h hc;have l:=a.lt h;have q:(Go.setObj r o).run C.P w=.ok () {w with heap:=w.heap.setIfInBounds r o}:=by grind[Go.setObj,Sem.run]
 have n:(Go.setObj r' o').run C.Q w'=.ok () {w' with heap:=w'.heap.setIfInBounds r' o'}:=by simp_all[Go.setObj,Sem.run]
 have m:o'.isChan=false:=by
  cases k with
  |shut x=>cases o'<;>first|exact x.elim|rfl
  | _=>rfl
 refine⟨ρ,{w' with heap:=w'.heap.setIfInBounds r' o'},?_,?_,λes=>⟨#[⟨.obj r',true,false⟩],?_,?_⟩⟩
 .rw[q,n];refine .ok trivial ⟨λb b' d=>?_,a.one,a.inj,a.nb,a.sync,a.tape,a.env,a.lone,λb b' d f=>?_⟩
  .simp only[vak];by_cases e:r=b
   .subst e;have j:r'=b':=a.one _ _ _ h d;grind
   .have j:r'≠b':=λx=>e (a.inj _ _ _ (x▸h) d);rw[vbq e,vbq j];exact a.obj b b' d
  .have e:r≠b:=λx=>f (a.one _ _ _ h (x▸d)▸g);simp only[vak,vbq e];exact a.still b b' d f
 .refine⟨Ren.le_refl _,λ_ h=>.inl h,Ad,λ_ h=>.inl h,λ_ _ h=>.inl h,λb d f=>?_,Y,Y,Y,vac _⟩;grind
 .simp_all[Sem.events,Go.setObj,Sem.runT]
 .intro e i;simp at i;subst i;exact⟨⟨_,h⟩,λ_=>g,Y⟩
theorem ap.choose(q:Question):ap C ρ (λ_ a b=>a=b) (Go.choose q) (Go.choose q):=by
 intro S w w' c _ f;by_cases d:q.forced=true
 .refine⟨ρ,w',?_,.refl _ _,λes=>⟨#[],by simp[Sem.events,Go.choose,Sem.runT,d],Ad⟩⟩;simp only[Go.choose,Sem.run,d,vdh];exact .ok Y c
 .refine⟨ρ,{w' with drawn:=w'.drawn+1},?_,?_,λes=>⟨#[],by simp[Sem.events,Go.choose,Sem.runT,d],Ad⟩⟩
  .simp only[Go.choose,Sem.run,d,k9]at f⊢;refine .ok ?_ ⟨c.obj,c.one,c.inj,c.nb,?_,λj q g=>?_,c.env,c.lone,c.still⟩
   .have:=c.tape 0 q AA;grind
   .have:=c.sync;grind
   .have e:w'.drawn+(j+1)<S.bound:=by grind
    have:=c.tape (j+1) q e;grind
  .exact⟨Ren.le_refl _,λ_ h=>.inl h,vac _,λ_ h=>.inl h,λ_ _ h=>.inl h,λ_ _ _=>Y,Y,Y,Y,vdu _⟩
theorem ap.program:ap C ρ (λ_ p q=>p=C.P/\q=C.Q) Go.program Go.program:=by intro S w w' a _ _;exact⟨ρ,w',.ok ⟨Y,Y⟩ a,.refl _ _,λes=>⟨#[],by simp[Sem.events,Go.program,Sem.runT],Ad⟩⟩
theorem ap.noRoom:ap C ρ (λ_(_ _:Unit)=>True) (Go.mark .noRoom) (Go.mark .noRoom):=by intro S w w' b _ _;refine⟨ρ,w',.ok trivial b,.refl _ _,λes=>⟨#[⟨.mark .noRoom,false,true⟩],by simp[Sem.events,Go.mark,Sem.runT],?_⟩⟩;intro e a;simp at a;subst a;trivial
def ap.agv:ap C ρ (λ_ a b=>a=b) (Go.sys .env) (Go.sys .env):=by
 intro S w w' c _ _;refine⟨ρ,w',?_,.refl _ _,λes=>⟨#[⟨.output,true,false⟩],by simp[Sem.events,Go.sys,Sem.runT],?_⟩⟩
 .show EC C S ρ _ (.ok (SysRet.strings w.os.env) w) (.ok (SysRet.strings w'.os.env) w') w';exact .ok (by rw[c.env]) c
 .intro e d;simp at d;subst d;trivial
theorem ap.extern(f:uaj):ap C ρ (λ_(_ _:Unit)=>True) (Go.mark (.extern f)) (Go.mark (.extern f)):=by intro S w w' b _ _;refine⟨ρ,w',.ok trivial b,.refl _ _,λes=>⟨#[⟨.mark (.extern f),false,true⟩],by simp[Sem.events,Go.mark,Sem.runT],?_⟩⟩;intro e a;simp at a;subst a;trivial
theorem ap.askRoom(n:Nat):ap C ρ (λ_(_ _:Unit)=>True) (Go.askRoom n) (Go.askRoom n):=by
 unfold Go.askRoom;split
 .exact .noRoom
 .exact .pure trivial
end
end
variable{c':dp}
section
attribute [-simp] Sem.runT_eq
def cH.b_(C:cH):Prop:=C.P.toTables=C.Q.toTables
def cH.rW(C:cH):Prop:=∀t i v,C.P.info? t=some i->i.zero=some v->iW v
section
variable{C:cH}{ρ:Ren}
theorem dr.add(h:dr ρ a a')(n:Nat):dr ρ (a.add n) (a'.add n):=by
 unfold Addr.add;split
 .exact h
 .exact⟨h.1,by simp[h.2.1],Y⟩
theorem ap.cut{ao aI γ Hz:Type}{R:Ren->γ->Hz->Prop}{m:Sem ao}{m':Sem aI}{f:ao->Sem γ}{f':aI->Sem Hz}(h:ap C ρ (λ_ _ _=>False) m m'):ap C ρ R (m>>= f) (m'>>= f'):=.bind h λ_ _ _ _ x=>x.elim
theorem ap.typeInfo(d:C.b_)(t:g4):ap C ρ (λ_ a b=>a=b/\C.P.info? t=some a) (Go.typeInfo t) (Go.typeInfo t):=by
 unfold Go.typeInfo;refine .bind .program λσ p q _⟨c,hq⟩=>?_;subst c;subst hq;have e:C.Q.info? t=C.P.info? t:=by unfold Tables.info?;rw[d]
 grind[stuck,pure]
theorem ap.underlying(d:C.b_)(t:g4):ap C ρ (λ_ a b=>a=b/\C.P.underlying t=some a) (Go.underlying t) (Go.underlying t):=by
 unfold Go.underlying;refine .bind .program λσ p q _⟨c,hq⟩=>?_;subst c;subst hq;have e:C.Q.underlying t=C.P.underlying t:=by unfold Program.underlying Tables.info?;rw[d]
 grind[stuck,pure]
theorem ap.zeroValue(d:C.b_)(c:C.rW)(t:g4):ap C ρ (λ_ a b=>a=b/\iW a) (Go.zeroValue t) (Go.zeroValue t):=by unfold Go.zeroValue;refine .bind (ap.typeInfo d t) λσ i j _⟨f,e⟩=>?_;subst f;cases h:i.zero with|none=>exact .unsupported|some v=>exact .pure ⟨Y,c t i v e h⟩
theorem ap.sizeOf(c:C.b_)(t:g4):ap C ρ (λ_ a b=>a=b) (Go.sizeOf t) (Go.sizeOf t):=by unfold Go.sizeOf;exact .bind (ap.typeInfo c t) λσ i j _⟨d,e⟩=>.pure (by rw[d])
theorem ap.isAgg(c:C.b_)(t:g4):ap C ρ (λ_ a b=>a=b) (Go.isAgg t) (Go.isAgg t):=by unfold Go.isAgg;refine .bind (ap.underlying c t) λσ i j _⟨e,d⟩=>?_;grind[pure]
theorem ap.loadCellsFrom(r:dr ρ a a')(n:Nat):∀(i:Nat){acc b:dp},aJ ρ acc b->ap C ρ aJ (Go.loadCellsFrom a i n acc) (Go.loadCellsFrom a' i n b):=by induction n generalizing ρ with|zero=>intro i acc b h;exact .pure h|succ n d=>intro i acc b h;simp only[Go.loadCellsFrom];exact .bind (ap.load (r.add i)) λσ v v' c hv=>d (r.mono c) (i+1) ((h.mono c).push hv)
theorem ap.loadCells(r:dr ρ a a')(n:Nat):ap C ρ aJ (Go.loadCells a n) (Go.loadCells a' n):=ap.loadCellsFrom r n 0 (.nil ρ)
theorem ap.storeCells(r:dr ρ a a'){l l':uad}(h:cE (ar ρ) l l'):∀(i:Nat),ap C ρ (λ_(_ _:Unit)=>True) (Go.storeCells a l i) (Go.storeCells a' l' i):=by induction l generalizing ρ l' with|nil=>intro i;cases h;exact .pure trivial|cons x l c=>intro i;cases h with|cons d ht=>simp only[Go.storeCells];exact .bind (ap.store (r.add i) d) λσ _ _ b _=>c (r.mono b) (ht.mono λ_ _ y=>y.mono b) (i+1)
theorem ap.loadVar(e:C.b_)(t:g4)(r:dr ρ a a'):ap C ρ ar (Go.loadVar t a) (Go.loadVar t a'):=by
 unfold Go.loadVar;refine .bind (ap.isAgg e t) λσ b b' d f=>?_;subst f;cases b
 .exact ap.load (r.mono d)
 .refine .bind (ap.sizeOf e t) λj n h g hn=>?_;subst hn;exact .bind (ap.loadCells ((r.mono d).mono g) n) λi c c' _ hc=>.pure (.pk hc)
theorem ap.storeVar(c:C.b_)(t:g4)(r:dr ρ a a')(hv:ar ρ v v'):ap C ρ (λ_(_ _:Unit)=>True) (Go.storeVar t a v) (Go.storeVar t a' v'):=by unfold Go.storeVar;refine .bind (ap.sizeOf c t) λσ n d b hn=>?_;subst hn;have hs:=hv.cells.size;rw[<-hs];exact .ite (λ_=>.cut .stuck) (λ_=>ap.storeCells (r.mono b) (cE.A6 (hv.cells.mono b)) 0)
theorem ap.newRow(e:g4)(h:aJ ρ c c'):ap C ρ dr (Go.newRow e c) (Go.newRow e c'):=by unfold Go.newRow;exact .bind (ap.new (.cells e h ⟨λ_ x=>x,λ_=>Y⟩)) λσ n a _ hn=>.pure ⟨hn.1,Y,Y⟩
theorem ap.newVar(t:g4)(h:ar ρ v v'):ap C ρ dr (Go.newVar t v) (Go.newVar t v'):=ap.newRow t h.cells
theorem ap.elemOf(c:C.b_)(t:g4):ap C ρ (λ_ a b=>a=b) (Go.elemOf t) (Go.elemOf t):=by unfold Go.elemOf;refine .bind (ap.underlying c t) λσ i j _⟨e,d⟩=>?_;grind[stuck,pure]
theorem ap.part(e:C.b_)(t:g4)(h:aJ ρ c c')(off:Nat):ap C ρ ar (Go.part t c off) (Go.part t c' off):=by
 unfold Go.part;refine .bind (ap.isAgg e t) λσ b b' d i=>?_;subst i;cases b
 .simp only[vah,vee];cases f:c[off]? with|none=>exact .stuck|some v=>obtain⟨v',a,g⟩:=h.some f;rw[a];exact .pure (g.mono d)
 .simp only[vdh];refine .bind (ap.sizeOf e t) λl n k j hn=>?_;subst hn;exact .pure (.pk (((h.mono d).mono j).extract _ _))
def agx(a:ρ.rel C.P.globals.size C.P.globals.size)(hg:C.P.globals.size=C.Q.globals.size)(t:g4):ar ρ (typeHandle C.P t) (typeHandle C.Q t):=by unfold typeHandle;rw[<-hg];exact .ptr ⟨a,Y,Y⟩
def ap.agy{ao aI:Type}{R:Ren->ao->aI->Prop}{m:Sem ao}{m':Sem aI}(h:(∀g,g<=C.P.globals.size->ρ.rel g g)->ap C ρ R m m'):ap C ρ R m m':=λS w w' a hg b=>h a.nb S w w' a hg b
theorem ap.runtimePanic(j:C.b_){ao aI:Type}{R:Ren->ao->aI->Prop}(e:RuntimeError):ap C ρ R (Go.runtimePanic e:Sem ao) (Go.runtimePanic e:Sem aI):=by
 refine .agy λu=>?_;have A:C.P.globals.size=C.Q.globals.size:=by rw[j]
 have f:C.P.rt=C.Q.rt:=by rw[j]
 have l:∀{σ:Ren}(s:String),ar σ (strVal s) (strVal s):=λs=>.string _;unfold Go.runtimePanic;refine .bind .program λσ p q D⟨B,hq⟩=>?_;subst B;subst hq;have z:∀{g:Ren},Ren.le σ g->∀t,ar g (typeHandle C.P t) (typeHandle C.Q t):=λk t=>agx (k.1 _ _ (D.1 _ _ (u _ JT))) A t;simp only[];cases e with
 |bounds x y s c=>rw[<-f];exact .goPanic (.iface _ (iW.rel (.agg λi v h=>by
  match i,h with
  |0,h=>simp at h;subst h;exact .int _ _
  |1,h=>simp at h;subst h;exact .int _ _
  |2,h=>simp at h;subst h;exact .bool _
  |3,h=>simp at h;subst h;exact .int _ _
  |i+4,h=>grind) _))
 |error m=>rw[<-f];exact .goPanic (.iface _ (l _))
 |plain m=>rw[<-f];exact .goPanic (.iface _ (l _))
 |nilDeref=>rw[<-f];exact .goPanic (.iface _ (l _))
 |typeAssertion i c a m=>
  rw[<-f];refine .bind (ap.elemOf j _) λg x x' k n=>?_;subst n;refine .bind (ap.newVar x ?_) λJ r r' _ o=>.goPanic (.iface _ (.ptr o));have f4:∀{a b c d a' b' c' w:Value},ar g a a'->ar g b b'->ar g c c'->ar g d w->aJ g #[a,b,c,d] #[a',b',c',w]:=λI H F E=>by simpa using aJ.append (aJ.append (aJ.append (aJ.one I) (aJ.one H)) (aJ.one F)) (aJ.one E)
  cases i<;>cases c<;>exact .pk (f4 (by first|exact .lu|grind) (by first|exact .lu|grind) (z k _) (l _))
 |panicNil=>rw[<-f];refine .bind (ap.elemOf j _) λg x x' k n=>?_;subst n;exact .bind (ap.newVar x (.pk (.nil _))) λJ r r' _ o=>.goPanic (.iface _ (.ptr o))
 |unhashable t=>rw[<-f];exact .goPanic (.iface _ (.pk (.one (z (Ren.le_refl _) t))))
theorem ap.boundsPanic(c:C.b_){ao aI:Type}{R:Ren->ao->aI->Prop}(k:IntKind)(x y:Int)(code:BoundsCode):ap C ρ R (Go.boundsPanic k x y code:Sem ao) (Go.boundsPanic k x y code:Sem aI):=by
 unfold Go.boundsPanic;simp only[];split
 .refine .bind (R:=λ_ a b=>a=b) ?_ λσ s s' _ hs=>by grind[ap.runtimePanic]
  exact .bind (f:=λa=>Pure.pure (a==1)) (f':=λa=>Pure.pure (a==1)) (ap.choose _) λσ a b _ h=>.pure (by rw[h])
 grind[ap.runtimePanic]
theorem ap.asIntOf(h:ar ρ v v'):ap C ρ (λ_ a b=>a=b) (Go.asIntOf v) (Go.asIntOf v'):=by cases h<;>first|exact .pure Y|exact .unsupported|exact .stuck
theorem ap.asInt(h:ar ρ v v'):ap C ρ (λ_ a b=>a=b) (Go.asInt v) (Go.asInt v'):=by unfold Go.asInt;exact .bind (ap.asIntOf h) λσ a b _ h=>.pure (by rw[h])
theorem ap.asBool(h:ar ρ v v'):ap C ρ (λ_ a b=>a=b) (Go.asBool v) (Go.asBool v'):=by cases h<;>first|exact .pure Y|exact .stuck
theorem ap.asAddr(a:C.b_)(h:ar ρ v v'):ap C ρ dr (Go.asAddr v) (Go.asAddr v'):=by cases h with|ptr h=>exact .pure h|lu=>exact(ap.runtimePanic a .nilDeref:ap C ρ dr (Go.runtimePanic .nilDeref:Sem Addr) (Go.runtimePanic .nilDeref:Sem Addr))| _=>exact .stuck
end
end
variable{x':Value}{z:dp}{ps:Array (Nat×Operand)}{zq:Array (Nat×Value)}
section
attribute [-simp] Sem.runT_eq
section
variable{C:cH}{ρ:Ren}
def Le(h:ar ρ v v'):ap C ρ dr (Instr.sureAddr v) (Instr.sureAddr v'):=by cases h with|ptr h=>exact .pure h| _=>exact .stuck
def agA(b:C.b_)(t:g4)(h:ar ρ v v'):ap C ρ ar (Instr.loadAt t v) (Instr.loadAt t v'):=by unfold Instr.loadAt;exact .bind (Le h) λσ a a' _ r=>ap.loadVar b t r
def agB(d:C.b_)(t:g4)(h:ar ρ v v')(b:ar ρ x x'):ap C ρ (λ_(_ _:Unit)=>True) (Instr.storeAt t v x) (Instr.storeAt t v' x'):=by unfold Instr.storeAt;exact .bind (Le h) λσ a a' c r=>ap.storeVar d t r (b.mono c)
theorem agC(c:C.b_)(b:C.rW)(t:g4):ap C ρ ar (Instr.alloc t true (.tuple #[])) (Instr.alloc t true (.tuple #[])):=by unfold Instr.alloc;refine .bind (ap.zeroValue c b t) λσ v v' _⟨e,d⟩=>?_;subst e;exact .bind (ap.newVar t (d.rel σ)) λf a a' _ r=>.pure (.ptr r)
def agD(t:g4)(h:ar ρ v v'):ap C ρ ar (Instr.box t v) (Instr.box t v'):=by unfold Instr.box;exact .bind (ap.newVar t h) λb a a' _ r=>.pure (.ptr r)
def agE(off:Nat):∀(l l':uad)(j:Nat){c c':dp},cE (ar ρ) l l'->aJ ρ c c'->
 aJ ρ ((l.zipIdx j).foldl (λcs(p:ubt)=>cs.setIfInBounds (off+p.2) p.1) c) ((l'.zipIdx j).foldl (λcs(p:ubt)=>cs.setIfInBounds (off+p.2) p.1) c'):=by
 intro l;induction l with|nil=>intro l' j c c' h hc;cases h;exact hc|cons x l a=>intro l' j c c' h hc;cases h with|cons b ht=>simp only[List.zipIdx_cons,List.foldl_cons];exact a _ (j+1) ht (hc.set b _)
def agF(off:Nat){a a':dp}(h:aJ ρ a a')(hc:aJ ρ c c'):
 aJ ρ (a.zipIdx.foldl (λcs(x:ubt)=>cs.setIfInBounds (off+x.2) x.1) c) (a'.zipIdx.foldl (λcs(x:ubt)=>cs.setIfInBounds (off+x.2) x.1) c'):=by
 have e:∀(a c:dp),a.zipIdx.foldl (λcs(x:ubt)=>cs.setIfInBounds (off+x.2) x.1) c=(a.toList.zipIdx 0).foldl (λcs(p:ubt)=>cs.setIfInBounds (off+p.2) p.1) c:=λa c=>by rw[<-Array.foldl_toList];simp
 simp_all[agE,cE.A6]
def rX(ρ:Ren)(p p':Nat×Value):Prop:=p.1=p'.1/\ar ρ p.2 p'.2
def P7(place:Nat->Option (Nat×Nat)):∀(l l':uae){c c':dp},cE (rX ρ) l l'->aJ ρ c c'->
 (Instr.fill place c l=none/\Instr.fill place c' l'=none)\/∃x x',Instr.fill place c l=some x/\Instr.fill place c' l'=some x'/\aJ ρ x x':=by
 intro l;induction l with
 |nil=>intro l' c c' h hc;cases h;exact .inr ⟨c,c',Y,Y,hc⟩
 |cons p l b=>
  intro l' c c' h hc;cases h with
  |@cons _ a _ l' d ht=>
   obtain⟨i,v⟩:=p;obtain⟨i',v'⟩:=a;obtain⟨rfl,hv⟩:i=i'/\ar ρ v v':=d;simp only[Instr.fill];cases e:place i with
   |none=>grind
   |some os=>
    obtain⟨off,size⟩:=os;simp only[];rw[<-hv.cells.size,<-hc.size];split
    .grind
    .exact b _ ht (agF off hv.cells hc)
def agG{f f':uak}(h:∀p∈ps,ar ρ (f p.2) (f' p.2)):cE (rX ρ) (ps.map λ(i,x)=>(i,f x)).toList (ps.map λ(i,x)=>(i,f' x)).toList:=by obtain⟨l⟩:=ps;simp only[List.map_toArray];induction l with|nil=>exact .nil|cons p l a=>obtain⟨i,x⟩:=p;exact .cons ⟨Y,h (i,x) Ad⟩ (a λq hq=>h q AA)
def agH{ao aI:Type}{f f':ao->Sem aI}(h:∀(ρ:Ren) a,ap C ρ (λ_ x y=>x=y) (f a) (f' a)):∀(l:List ao)(ρ:Ren),ap C ρ (λ_ x y=>x=y) (l.mapM f) (l.mapM f'):=by intro l;induction l with|nil=>intro ρ;simp only[List.mapM_nil];exact .pure Y|cons a l b=>intro ρ;simp only[List.mapM_cons];exact .bind (h ρ a) λσ x y _ e=>by subst e;exact .bind (b σ) λc x y _ e=>by subst e;exact .pure Y
def agI{ao aI:Type}{f f':ao->Sem aI}(h:∀(ρ:Ren) a,ap C ρ (λ_ x y=>x=y) (f a) (f' a))(l:Array ao):ap C ρ (λ_ x y=>x=y) (l.mapM f) (l.mapM f'):=by
 have e:∀g:ao->Sem aI,l.mapM g=(do pure (<-l.toList.mapM g).toArray):=λg=>by rw[vck];rfl
 rw[e,e];exact .bind (agH h l.toList ρ) λσ x y _ e=>.pure H0
def agJ(k:C.b_)(s:C.rW)(t:g4){ps:Array (Nat×Value)}(h:cE (rX ρ) ps.toList zq.toList):ap C ρ ar (Instr.build t ps) (Instr.build t zq):=by
 unfold Instr.build;refine .bind (ap.zeroValue k s t) λσ z D u⟨w,r⟩=>?_;subst w;refine .bind (ap.underlying k t) λp d H A⟨v,F⟩=>?_;subst v;have q:=cE.mono (λa b(x:rX ρ a b)=>(⟨x.1,(x.2.mono u).mono A⟩:rX p a b)) h;cases d with
 |struct fields=>
  simp only[];refine .bind (R:=λ_ x y=>x=y) (agI (λρ f=>.bind (ap.sizeOf k _) λσ a b _ e=>.pure H0) fields) λc pl B m e=>?_;subst e;have l:=cE.mono (λa b(x:rX p a b)=>(⟨x.1,x.2.mono m⟩:rX c a b)) q;rcases P7 (ρ:=c) (λi=>pl[i]?) ps.toList zq.toList l (r.cells.rel c)with⟨j,g⟩|⟨x,x',j,g,o⟩
  .rw[j,g];exact .stuck
  .rw[j,g];exact .pure (.pk o)
 |array n elem=>
  simp only[];refine .bind (ap.sizeOf k elem) λc n E m e=>?_;subst e;have l:=cE.mono (λa b(x:rX p a b)=>(⟨x.1,x.2.mono m⟩:rX c a b)) q;rcases P7 (ρ:=c) (λi=>some (i*n,n)) ps.toList zq.toList l (r.cells.rel c)with⟨j,g⟩|⟨x,x',j,g,o⟩
  .rw[j,g];exact .stuck
  .rw[j,g];exact .pure (.pk o)
 | _=>exact .stuck
theorem agK:iW (default:Value):=.bool _
def kj.P8(h:kj z)(n:Nat):kj ((Array.range n).map (z[· % z.size]!)):=by
 intro i v hv;simp only[vcj,Array.getElem?_range]at hv;split at hv
 .simp only[vdt,vbi]at hv;subst hv;by_cases a:i % z.size<z.size
  .rw[getElem!_pos z _ a];exact h _ _ (vao a)
  grind[agK]
 grind
def agL(j:C.b_)(q:C.rW)(t:g4)(len:Nat){ps:Array (Nat×Value)}(h:cE (rX ρ) ps.toList zq.toList):ap C ρ ar (Instr.buildSlice t len ps) (Instr.buildSlice t len zq):=by
 unfold Instr.buildSlice;refine .bind (ap.underlying j t) λσ d I w⟨B,H⟩=>?_;subst B;cases d with
 |slice elem=>
  simp only[];refine .bind (ap.sizeOf j elem) λJ n F D e=>?_;subst e;refine .ite (λA=>.cut .unsupported) (λA=>?_);refine .ite (λ_=>.bind (R:=λ_ x y=>x=y/\kj x) (.pure ⟨Y,λi v h=>AA⟩) λg z m f⟨e,l⟩=>?_)
   (λ_=>.bind (ap.zeroValue j q elem) λE y y' p⟨c,s⟩=>.bind (R:=λ_ x y=>x=y/\kj x) (.pure ⟨by rw[c],s.cells⟩) λg z m f⟨e,l⟩=>?_)
  all_goals
   subst e;first|replace f:=Ren.le_trans p f|skip
   have o:=cE.mono (λa b(x:rX ρ a b)=>(⟨x.1,x.2.mono (Ren.le_trans (Ren.le_trans w D) f)⟩:rX g a b)) h;rcases P7 (ρ:=g) (λi=>some (i*n,n)) ps.toList zq.toList o ((l.P8 (len*n)).rel g)with⟨c,k⟩|⟨x,x',c,k,u⟩
   .rw[c,k];exact .stuck
   .rw[c,k];exact .bind (ap.newRow elem u) λ_ a a' _ r=>.pure (.slice len len r)
 | _=>exact .stuck
end
end
variable{i i':Value}
section
attribute [-simp] Sem.runT_eq
section
variable{C:cH}{ρ:Ren}
theorem EF(a:C.b_)(t:g4):C.Q.info? t=C.P.info? t:=by unfold Tables.info?;rw[a]
theorem A9(a:C.b_)(t:g4):C.Q.underlying t=C.P.underlying t:=by grind[Program.underlying,EF]
theorem A_(a:C.b_)(t:g4):C.Q.cellsOf t=C.P.cellsOf t:=by grind[Program.cellsOf,EF]
theorem Lf(a:C.b_)(t:g4):C.Q.bytesOf t=C.P.bytesOf t:=by grind[Program.bytesOf,EF]
theorem EG(a:C.b_):C.Q.depth=C.P.depth:=by unfold Program.depth;rw[a]
theorem Ws(b:C.b_):∀(d:Nat)(t:g4)(off:Nat),byteOfCell C.Q d t off=byteOfCell C.P d t off:=by intro d;induction d with|zero=>intro t off;rfl|succ d a=>grind[byteOfCell,A9,A_,Lf]
def Wt(h:ρ.rel r r'):ap C ρ (λ_ a b=>a=none/\b=none) (viewAt r) (viewAt r'):=by
 unfold viewAt;refine .bind (ap.shape h) λσ s s' f e=>?_;subst e;refine .ite (λ_=>.pure ⟨Y,Y⟩) (λ_=>?_);refine .bind (ap.getObj (f.1 _ _ h)) λg o o' _ hg=>?_;obtain⟨d,hn,_⟩:=hg;cases d with
 |shut c=>cases o'<;>first|exact c.elim|exact .pure ⟨Y,Y⟩
 | _=>exact .pure ⟨Y,Y⟩
def agM(h:dr ρ a a'):ap C ρ (λ_(_ _:Unit)=>True) (noView a) (noView a'):=by unfold noView;refine .bind (Wt h.1) λσ s s' d⟨c,b⟩=>?_;subst c;subst b;exact .pure trivial
def Ba(c:C.b_)(h:dr ρ a a'):ap C ρ (λ_ x y=>x=y) (byteOf a) (byteOf a'):=by unfold byteOf;rw[<-h.2.2];cases hs:a.spot with|some s=>exact .pure Y|none=>simp only[];refine .bind .program λσ p q d⟨f,hq⟩=>?_;subst f;subst hq;refine .bind (agM (h.mono d)) λk _ _ g _=>?_;refine .bind (ap.shape (g.1 _ _ (d.1 _ _ h.1))) λj s s' i e=>?_;subst e;cases s with|none=>exact .stuck|some a2=>obtain⟨e,n⟩:=a2;simp only[A_ c,Lf c,Ws c,EG c];refine .ite (λ_=>.pure Y) (λ_=>?_);rw[<-h.2.1];cases byteOfCell C.P C.P.depth e (a.off % C.P.cellsOf e)with|none=>exact .stuck|some b=>exact .pure Y
def agN(c:C.b_)(h:dr ρ a a')(cells bytes:Nat):ap C ρ dr (partAt a cells bytes) (partAt a' cells bytes):=by
 unfold partAt;refine .bind (Ba c h) λσ x x' f e=>?_;subst e;have b:dr σ {block:=a.block,off:=a.off+cells} {block:=a'.block,off:=a'.off+cells}:=⟨f.1 _ _ h.1,by simp[h.2.1],Y⟩;refine .bind (Ba c b) λg y y' d e=>?_;subst e;refine .pure ?_;split
 .exact b.mono d
 .exact⟨d.1 _ _ b.1,b.2.1,Y⟩
def agO(c:C.b_)(h:dr ρ a a')(f:Field):ap C ρ dr (fieldPlace a f) (fieldPlace a' f):=by unfold fieldPlace;refine .bind (ap.sizeOf c _) λσ n d b e=>?_;subst e;exact .ite (λ_=>agN c (h.mono b) _ _) (λ_=>.pure ((h.mono b).add _))
def agP(c:C.b_)(s:g4)(h:ar ρ v v')(field:Nat):ap C ρ ar (Instr.fieldAt s v field) (Instr.fieldAt s v' field):=by
 unfold Instr.fieldAt;refine .bind (ap.underlying c s) λσ d l i⟨e,_⟩=>?_;subst e;cases d with
 |struct fields=>simp only[];cases fields[field]? with|none=>exact .stuck|some f=>simp only[];refine .bind (Le (h.mono i)) λm a a' k r=>?_;exact .bind (agO c r f) λj b b' _ g=>.pure (.ptr g)
 | _=>exact .stuck
def HA(P:b4)(t:g4):Bool:=
 match P.underlying t with
 |some (.slice _)=>true
 | _=>false
def HB(P:b4)(t:g4):Bool:=
 match P.underlying t with
 |some (.slice _)|some (.array _ _)=>true
 | _=>false
def agQ(c:C.b_)(t:g4)(ht:HB C.P t=true)(v:ar ρ x x')(hi:ar ρ i i'):ap C ρ ar (Instr.indexAt t x i) (Instr.indexAt t x' i'):=by
 unfold Instr.indexAt;refine .bind (ap.asIntOf hi) λσ E D w e=>?_;subst e;refine .bind (ap.underlying c t) λB d m y⟨e,hd⟩=>?_;subst e;have k:=(v.mono w).mono y;have s:=k;simp only[HB,hd]at ht;cases d with
 |array len elem=>refine .bind (Le k) λA a a' z r=>?_;refine .bind (R:=λ_ a b=>a=_/\b=_) (.pure ⟨Y,Y⟩) λg p q f⟨e,j⟩=>?_;subst e;subst j;refine .bind (ap.underlying c t) λg d m l⟨e,_⟩=>?_;subst e;replace f:=Ren.le_trans f l;refine .ite (λ_=>.bind (ap.sizeOf c elem) λo n u h e=>?_) (λ_=>.ite (λ_=>.unsupported) (λ_=>ap.boundsPanic c _ _ _ _));subst e;exact .pure (.ptr (((r.mono f).mono h).add _))
 |slice elem=>
  cases k<;>first|exact .stuck|skip
  all_goals
   refine .bind (R:=λ_ a b=>a=_/\b=_) (.pure ⟨Y,Y⟩) λg p q f⟨e,j⟩=>?_;subst e;subst j;refine .bind (ap.underlying c t) λg d m l⟨e,_⟩=>?_;subst e
  .exact ap.boundsPanic c _ _ _ _
  .cases s;rename_i r;replace f:=Ren.le_trans f l;refine .ite (λ_=>.bind (ap.sizeOf c elem) λo n u h e=>?_) (λ_=>.ite (λ_=>.unsupported) (λ_=>ap.boundsPanic c _ _ _ _));subst e;exact .pure (.ptr (((r.mono f).mono h).add _))
 | _=>cases ht
def HD(P:b4)(t:g4):Bool:=
 match P.underlying t with
 |some (.array _ _)=>true
 | _=>false
def agS(a:C.b_)(t:g4)(ht:HD C.P t=true)(c:ar ρ x x')(hi:ar ρ i i'):ap C ρ ar (Instr.index t x i) (Instr.index t x' i'):=by
 unfold Instr.index;refine .bind (ap.asIntOf hi) λσ q p f e=>?_;subst e;refine .bind (ap.underlying a t) λo d m j⟨e,hd⟩=>?_;subst e;have g:=(c.mono f).mono j;simp only[HD,hd]at ht;cases d with
 |array len elem=>cases g with|agg hs h=>refine .ite (λ_=>.bind (ap.sizeOf a elem) λl n k b e=>?_) (λ_=>ap.boundsPanic a _ _ _ _);subst e;exact ap.part a elem (aJ.mono b ⟨hs,h⟩) _| _=>exact .stuck
 | _=>cases ht
end
end
variable{EH hi jB lo mx mx':Option Value}
section
attribute [-simp] Sem.runT_eq
inductive mJ{ao aI:Type}(R:ao->aI->Prop):Option ao->Option aI->Prop
 |none:mJ R none none
 |some {a:ao} {b:aI} (h:R a b):mJ R (some a) (some b)
theorem mJ.mono{ao aI:Type}{R S:ao->aI->Prop}(c:∀a b,R a b->S a b){a:Option ao}{b:Option aI}(h:mJ R a b):mJ S a b:=by cases h with|none=>exact .none|some h=>exact .some (c _ _ h)
abbrev vQ(ρ:Ren):=mJ (ar ρ)
theorem vQ.mono{ρ σ:Ren}(c:Ren.le ρ σ){a b:Option Value}(h:vQ ρ a b):vQ σ a b:=mJ.mono (λ_ _ x=>x.mono c) h
theorem mJ.isSome{ao aI:Type}{R:ao->aI->Prop}{a:Option ao}{b:Option aI}(h:mJ R a b):a.isSome=b.isSome:=by cases h<;>rfl
section
variable{C:cH}{ρ:Ren}
def Lg(c:C.b_)(h:ar ρ x x')(y:Nat)(code:BoundsCode):ap C ρ (λ_ a b=>a=b) (Instr.sliceBound x y code) (Instr.sliceBound x' y code):=by unfold Instr.sliceBound;refine .bind (ap.asIntOf h) λσ d g f e=>?_;subst e;obtain⟨k,i⟩:=d;exact .ite (λ_=>.pure Y) (λ_=>ap.boundsPanic c _ _ _ _)
def agT(i:C.b_)(isSlice:Bool)(len cap:Nat)(o:vQ ρ lo EH)(n:vQ ρ hi jB)(g:vQ ρ mx mx'):
 ap C ρ (λ_ a b=>a=b) (Instr.sliceBounds isSlice len cap lo hi mx) (Instr.sliceBounds isSlice len cap EH jB mx'):=by
 unfold Instr.sliceBounds;have j:∀(σ:Ren)(m h:Nat),Ren.le ρ σ->ap C σ (λ_ a b=>a=b)
  (do let l <-(match lo with|some v=>Instr.sliceBound v h (if mx.isSome then .slice3C else .sliceB)|none=>pure 0);pure (l,h,m))
  (do let l <-(match EH with|some v=>Instr.sliceBound v h (if mx'.isSome then .slice3C else .sliceB)|none=>pure 0);pure (l,h,m)):=by
  intro σ m h c;rw[g.isSome];cases o with|none=>exact .bind (R:=λ_ a b=>a=b) (.pure Y) λ_ a b _ e=>.pure H0|some hv=>exact .bind (Lg i (hv.mono c) _ _) λ_ a b _ e=>.pure H0
 cases g with
 |none=>simp only[];refine .bind (R:=λ_ a b=>a=b) (.pure Y) λσ m m' c e=>?_;subst e;cases n with|none=>simp only[];refine .bind (R:=λ_ a b=>a=b) (.pure Y) λf h k d e=>?_;subst e;have:=j f m h (Ren.le_trans c d);grind|some hv=>simp only[];refine .bind (Lg i (hv.mono c) _ _) λf h k d e=>?_;subst e;have:=j f m h (Ren.le_trans c d);grind
 |some hv=>simp only[];refine .bind (Lg i hv _ _) λσ m m' c e=>?_;subst e;cases n with|none=>refine .bind (R:=λ_ a b=>a=b) .stuck λf h k d e=>?_;subst e;have:=j f m h (Ren.le_trans c d);grind|some hv=>simp only[];refine .bind (Lg i (hv.mono c) _ _) λf h k d e=>?_;subst e;have:=j f m h (Ren.le_trans c d);grind
def agU(f:C.b_)(t:g4)(ht:HA C.P t=true)(o:ar ρ x x')(m:vQ ρ lo EH)(s:vQ ρ hi jB)(h:vQ ρ mx mx'):
 ap C ρ ar (Instr.sliceAt t x lo hi mx) (Instr.sliceAt t x' EH jB mx'):=by
 unfold Instr.sliceAt;refine .bind (ap.underlying f t) λσ d p c⟨e,hd⟩=>?_;subst e;simp only[HA,hd]at ht;cases d with
 |slice elem=>
  unfold Instr.slice;refine .bind (ap.underlying f t) λq d p g⟨e,i⟩=>?_;subst e;rw[hd]at i;cases i;replace c:=Ren.le_trans c g;have k:=o.mono c;have l:=k;cases k<;>first|exact .stuck|skip
  all_goals
   refine .bind (agT f true _ _ (m.mono c) (s.mono c) (h.mono c)) λq a b g e=>?_;subst e;refine .bind (ap.sizeOf f elem) λv n u j e=>?_;subst e;refine .pure ?_
  .split<;>exact .jP _ _
  .cases l;rename_i r;split
   .exact .slice _ _ ((r.mono g).mono j)
   .exact .slice _ _ (((r.mono g).mono j).add _)
 | _=>cases ht
def agV(b:C.b_)(t:g4)(h:ar ρ x x'):ap C ρ ar (Instr.makeInterface t x) (Instr.makeInterface t x'):=by unfold Instr.makeInterface;refine .bind (ap.underlying b t) λσ d c a⟨e,_⟩=>?_;subst e;cases d<;>first|exact .stuck|exact .pure (.iface t (h.mono a))
def agW(b:C.b_)(p:C.rW)(t:g4){l l' c c':Value}(h:ar ρ l l')(k:ar ρ c c'):ap C ρ ar (Instr.makeSlice t l c) (Instr.makeSlice t l' c'):=by
 unfold Instr.makeSlice;refine .bind (ap.underlying b t) λσ d K j⟨e,_⟩=>?_;subst e;cases d with
 |slice elem=>
  simp only[];refine .bind (ap.asInt (h.mono j)) λL n F w e=>?_;subst e;refine .bind (ap.asInt ((k.mono j).mono w)) λJ m m' I e=>?_;subst e;refine .bind (ap.typeInfo b elem) λE i i' H⟨e,_⟩=>?_;subst e;refine .ite (λ_=>.ite (λ_=>.cut (ap.runtimePanic b _)) (λ_=>.ite (λ_=>.cut (ap.runtimePanic b _)) (λ_=>.bind (ap.choose _) λD x y _ e=>by subst e;exact .cut (ap.runtimePanic b _)))) (λ_=>?_);refine .bind (ap.askRoom _) λB _ _ _ _=>.bind (ap.sizeOf b elem) λM s s' _ e=>?_;subst e;refine .ite (λ_=>.bind (R:=λ_ x y=>x=y/\kj x) (.pure ⟨Y,λi v h=>AA⟩) λf z o _⟨e,g⟩=>?_)
   (λ_=>.bind (ap.zeroValue b p elem) λf y y' _⟨u,q⟩=>.bind (R:=λ_ x y=>x=y/\kj x) (.pure ⟨by rw[u],q.cells⟩) λA z o _⟨e,g⟩=>?_)
  all_goals
   subst e;exact .bind (ap.newRow elem ((g.P8 _).rel _)) λ_ a a' _ r=>.pure (.slice _ _ r)
 | _=>exact .stuck
def agY(t:g4):ap C ρ ar (Instr.makeMap t none) (Instr.makeMap t none):=.bind (ap.new (.map 0 .nil)) λ_ a b _ r=>.pure (.map r.1)
def agZ(h:ar ρ x x')(i:Nat):ap C ρ ar (Instr.extract x i) (Instr.extract x' i):=by
 unfold Instr.extract;cases h with
 |@tuple a a' hs h=>simp only[];cases c:a[i]? with|none=>exact .stuck|some v=>obtain⟨v',b,d⟩:=aJ.some ⟨hs,h⟩ c;rw[b];exact .pure d
 | _=>exact .stuck
def Wv(h:ar ρ x x'):ap C ρ (λ_ a b=>a=b) (Builtin.lenOf x) (Builtin.lenOf x'):=by cases h<;>first|exact .pure Y|exact .stuck
def Lk(size n:Nat)(h:ar ρ x x'):ap C ρ aJ (Builtin.firstCells size n x) (Builtin.firstCells size n x'):=by
 cases h with
 |jP l c=>exact .pure (.nil ρ)
 |slice l c r=>exact ap.loadCells r _
 |string s=>refine .pure ⟨Y,λi v v' a d=>?_⟩;rw[a]at d;cases d;simp only[vcj,vaj]at a;obtain⟨b,_,rfl⟩:=a;exact .int _ _
 | _=>exact .stuck
theorem kj.zeroCells(h:kj z)(n:Nat):kj (Builtin.zeroCells z n):=h.P8 _
end
end
variable{qX:dp}
section
attribute [-simp] Sem.runT_eq
section
variable{C:cH}{ρ:Ren}
def Qa(P:b4)(w:aS)(a:Addr)(n:Nat):∃b,(Builtin.holdsCells a n).run P w=.ok b w:=by unfold Builtin.holdsCells;rw[mH];simp only[Go.shape,Sem.run];cases w.shape? a.block<;>exact⟨_,Y⟩
def ag0(P:b4)(w:aS)(size d n:Nat)(base:uan)(x:Value):∃b,(Builtin.mayShare size d n base x).run P w=.ok b w:=by
 unfold Builtin.mayShare;cases base with
 |none=>
  simp only[];rw[mH];simp only[Pure.pure,Sem.run,vef,vah,vee];split
  .obtain⟨y,c⟩:=Qa P w _ (n*size);exact⟨_,by rw[mH,c];rfl⟩
  simp_all
 |some a=>
  simp only[];obtain⟨y,c⟩:=Qa P w a (d*size);rw[mH,c];simp only[];rw[mH];simp only[Go.frozen,Sem.run];rw[mH];simp only[Pure.pure,Sem.run];split
  .simp_all
  .split
   .obtain⟨y,c⟩:=Qa P w _ (n*size);exact⟨_,by rw[mH,c];rfl⟩
   simp_all
def ag1(f:C.b_)(u:C.rW)(ats:uaq)(t:g4){args:dp}(h:aJ ρ args qX):ap C ρ ar (Builtin.append_ ats t args) (Builtin.append_ ats t qX):=by
 unfold Builtin.append_;cases h0:ats[0]? with|none=>exact .stuck|some A=>
 cases N:args[0]? with|none=>exact .stuck|some s=>
 cases M:args[1]? with|none=>exact .stuck|some x=>
 obtain⟨s',P,hs⟩:=h.some N;obtain⟨x',O,g⟩:=h.some M;rw[P,O];refine .bind (ap.underlying f A) λσ d Y m⟨e,_⟩=>?_;subst e;cases d with
 |slice elem=>
  have H:=hs.mono m;replace g:=g.mono m;have F:=H;cases H<;>first|exact .stuck|skip
  all_goals
   refine .bind (ap.sizeOf f elem) λZ size _ l1 e=>?_;subst e;cases ats[1]?<;>try(refine .bind (ap.underlying f _) λj d _ l2⟨e,_⟩=>?_;subst e;replace l1:=Ren.le_trans l1 l2)
  all_goals
   refine .bind (R:=λ_ a b=>a=b) (.pure rfl) λj z _ l2 e=>?_;subst e;replace l1:=Ren.le_trans l1 l2;refine .ite (λ_=>.bind (ap.asInt (g.mono l1)) λE n _ l2 e=>?_) (λ_=>.bind (Wv (g.mono l1)) λE n _ l2 e=>?_)
  all_goals
   subst e;replace l1:=Ren.le_trans l1 l2;try
    refine .ite (λ_=>.cut (ap.runtimePanic f _)) (λ_=>.bind (ap.typeInfo f elem) λLl i _ q⟨e,_⟩=>?_);subst e;refine .ite (λ_=>.bind (ap.choose _) λ_ _ _ _ e=>by subst e;exact .cut (ap.runtimePanic f _)) (λ_=>.bind (R:=λ_ a b=>a=b) (.pure rfl) λE k _ p e=>?_);subst e;replace l1:=Ren.le_trans (Ren.le_trans l1 q) p
  all_goals
   refine .ite (λ_=>.bind (.ite (λ_=>Lk _ _ (g.mono l1)) (λ_=>.ite (λ_=>.pure (.nil _)) (λ_=>.bind (ap.zeroValue f u elem) λj z D _⟨e,l⟩=>II))) λσ a a' m v=>?_) (λ_=>.bind (ap.typeInfo f elem) λσ i i' l2⟨e,_⟩=>?_)
   .have W:=F.mono (Ren.le_trans l1 m);cases W;first|exact .pure (.jP _ _)|skip
    all_goals
     rename_i r;exact .bind (ap.storeCells (r.add _) (cE.A6 v) 0) λj _ _ l2 _=>.pure (.slice _ _ (r.mono l2))
   .subst e;refine .ite (λ_=>.cut (ap.runtimePanic f _)) (λ_=>.bind (ap.typeInfo f elem) λQb i i' q⟨e,_⟩=>?_);subst e;refine .ite (λ_=>.cut (.ite (λ_=>ap.runtimePanic f _) (λ_=>.none λw=>?_))) (λ_=>.bind (ap.choose _) λX c c' p e=>?_)
    .obtain⟨b,L⟩:=ag0 C.P w size _ _ _ x;rw[mH,L];cases b<;>exact id
    .subst e;refine .bind (ap.typeInfo f elem) λWx i _ V⟨e,_⟩=>.bind (by subst e;exact ap.askRoom _) λQ _ _ B _=>?_;replace l1:=Ren.le_trans (Ren.le_trans (Ren.le_trans (Ren.le_trans (Ren.le_trans l1 l2) q) p) V) B;refine .bind (Lk _ _ (F.mono l1)) λU o o' B K=>.bind (.ite (λ_=>Lk _ _ (g.mono (Ren.le_trans l1 B))) (λ_=>.ite (λ_=>.pure (.nil _)) (λ_=>.bind (ap.zeroValue f u elem) λj z D _⟨e,l⟩=>II))) λT a a' y v=>.bind (ap.zeroValue f u elem) λS z D I⟨e,l⟩=>?_;subst e;exact .bind (ap.newRow elem (((K.mono (Ren.le_trans y I)).append (v.mono I)).append ((l.cells.zeroCells _).rel _))) λ_ r r' _ J=>.pure (.slice _ _ J)
 | _=>exact .stuck
end
end
variable{b b':Addr}
section
attribute [-simp] Sem.runT_eq
def p9(P:b4):Nat->TypeId->Bool
 |0,_=>true
 |d+1,t=>
  match P.underlying t with
  |some .bool|some (.int _)|some .string|some (.slice _)=>true
  |some (.struct fs)=>fs.all λf=>p9 P d f.type
  |some (.array _ e)=>p9 P d e
  | _=>false
section
variable{C:cH}{ρ:Ren}
abbrev b_{ao:Type}:Ren->ao->ao->Prop:=λ_ a b=>a=b
def Qd{ao aI:Type}{R:Ren->ao->aI->Prop}{m:Sem ao}{m':Sem aI}(h:(∀a b b',ρ.rel a b->ρ.rel a b'->b=b')->(∀a a' b,ρ.rel a b->ρ.rel a' b->a=a')->(∀g,g<=C.P.globals.size->ρ.rel g g)->ap C ρ R m m'):ap C ρ R m m':=
 λS w w' c hg d=>h c.one c.inj c.nb S w w' c hg d
def Wz{ao aI:Type}{c:Ren}{f f':ao->aI->Sem (ForInStep aI)}(l:List ao)(h:∀(ρ:Ren),Ren.le c ρ->∀a∈l,∀s,ap C ρ b_ (f a s) (f' a s)):∀(ρ:Ren),Ren.le c ρ->∀(s:aI),ap C ρ b_ (forIn l s f) (forIn l s f'):=by induction l with|nil=>intro ρ _ s;exact .pure Y|cons a l g=>intro ρ d s;simp only[List.forIn_cons];refine .bind (h ρ d a Ad s) λσ x y l2 e=>?_;subst e;cases x with|done b=>exact .pure Y|yield b=>grind[Ren.le_trans]
def Qe{ao aI:Type}{f f':ao->aI->Sem (ForInStep aI)}(l:Array ao)(h:∀(σ:Ren),Ren.le ρ σ->∀a∈l,∀s,ap C σ b_ (f a s) (f' a s))(s:aI):ap C ρ b_ (forIn l s f) (forIn l s f'):=by rw[<-Array.forIn_toList,<-Array.forIn_toList];exact Wz l.toList (λρ b a c s=>h ρ b a AA s) ρ (Ren.le_refl _) s
def Qf{aI:Type}{f f':Nat->aI->Sem (ForInStep aI)}(n:Nat)(h:∀(σ:Ren),Ren.le ρ σ->∀i s,ap C σ b_ (f i s) (f' i s))(s:aI):ap C ρ b_ (forIn [0:n] s f) (forIn [0:n] s f'):=by rw[Std.Legacy.Range.forIn_eq_forIn_range',Std.Legacy.Range.forIn_eq_forIn_range'];exact Wz _ (λρ b a _ s=>h ρ b a s) ρ (Ren.le_refl _) s
theorem WB(a:C.b_)(t:g4):C.Q.underlyingId t=C.P.underlyingId t:=by grind[Program.underlyingId,EF]
theorem ag5(b:C.b_):∀(n:Nat)(t u:g4),C.Q.alikeButTags n t u=C.P.alikeButTags n t u:=by intro n;induction n with|zero=>intro t u;rfl|succ n a=>simp_all[Program.alikeButTags,EF]
theorem Lp(a:C.b_)(t:g4):C.Q.stoodInHeld t=C.P.stoodInHeld t:=by
 have e:C.Q.cutTypes=C.P.cutTypes:=by rw[a]
 unfold Program.stoodInHeld Program.stoodInAs;grind[A9,ag5,WB,EF,EG]
abbrev ag6(ρ:Ren)(a b:Option (Addr×Bool)):Prop:=mJ (λx y=>dr ρ x.1 y.1/\x.2=y.2) a b
def ag7(h:ρ.rel r r'):ap C ρ ag6 (numberAt r) (numberAt r'):=by
 unfold numberAt;refine .bind (ap.shape h) λσ s s' c e=>?_;subst e;refine .ite (λ_=>.pure .none) (λ_=>?_);refine .bind (ap.getObj (c.1 _ _ h)) λd o o' _ hg=>?_;obtain⟨b,hn,_⟩:=hg;cases b with
 |shut a=>cases o'<;>first|exact a.elim|exact .pure .none
 |number h l=>exact .pure (.some ⟨h,Y⟩)
 | _=>exact .pure .none
def zr(h:dr ρ a a'):ap C ρ (λσ x y=>dr σ x.1 y.1/\x.2=y.2) (behindNumber a) (behindNumber a'):=by unfold behindNumber;refine .bind (ag7 h.1) λσ x y b hn=>.pure ?_;cases hn with|none=>exact⟨h.mono b,Y⟩|some k=>exact k
def dr.Lq(one:∀a b b',ρ.rel a b->ρ.rel a b'->b=b')(inj:∀a a' b,ρ.rel a b->ρ.rel a' b->a=a')(h:dr ρ a a')(k:dr ρ b b'):(a==b)=(a'==b')/\(a.block==b.block)=(a'.block==b'.block):=by obtain⟨b1,g,d⟩:=a;obtain⟨q,o2,c⟩:=a';obtain⟨p,f,s⟩:=b;obtain⟨a8,e,r⟩:=b';obtain⟨o,n,m⟩:=h;obtain⟨l,j,i⟩:=k;grind
def WC(g:C.b_):∀(d:Nat)(t:g4),p9 C.P d t=true->∀(ρ:Ren){x x' y y':Value},ar ρ x x'->ar ρ y y'->ap C ρ b_ (Op.equalIn d t x y) (Op.equalIn d t x' y'):=by
 intro d;induction d with
 |zero=>intro t _ ρ x x' y y' _ _;exact .unsupported
 |succ d S=>
  intro t ht ρ x x' y y' hx Z;unfold Op.equalIn;refine .bind (ap.underlying g t) λσ u Q T⟨e,hu⟩=>?_;subst e;simp only[p9,hu]at ht;have w:=hx.mono T;have j:=Z.mono T;cases u with
  |bool=>
   cases w with
   |bool a=>cases j with|bool b=>exact .pure rfl| _=>exact .stuck
   | _=>exact .stuck
  |int k=>
   cases w with
   |int H n1=>
    cases j with
    |int A ey=>exact .ite (λ_=>.pure rfl) (λ_=>.stuck)
    |ptr r=>
     cases n1 with
     |ofNat m=>cases m with|zero=>exact .pure rfl|succ m=>exact .unsupported
     |negSucc m=>exact .unsupported
    |lu=>
     cases n1 with
     |ofNat m=>cases m with|zero=>exact .unsupported|succ m=>exact .unsupported
     |negSucc m=>exact .unsupported
    | _=>exact .stuck
   |ptr r=>
    cases j with
    |int A ey=>
     cases ey with
     |ofNat m=>cases m with|zero=>exact .pure rfl|succ m=>exact .unsupported
     |negSucc m=>exact .unsupported
    |ptr W=>
     refine .bind (zr r) λU p P l1⟨hp,_⟩=>.bind (zr (W.mono l1)) λQb q q' l2⟨hq,_⟩=>.bind .program λE r r' R⟨D,B⟩=>?_;subst D;subst B;have F:=hp.mono (Ren.le_trans l2 R);have V:=hq.mono R;refine Qd λone inj nb=>?_;have X:C.Q.globals.size=C.P.globals.size:=by rw[g]
     obtain⟨D,B⟩:=dr.Lq one inj F V;have e3:decide (p.1.block<C.P.globals.size)=decide (P.1.block<C.Q.globals.size):=by
      rw[X];have:p.1.block<C.P.globals.size↔P.1.block<C.P.globals.size:=by
       constructor
       .intro h;have:=one _ _ _ (nb _ (vdq h)) F.1;omega
       .intro h;have:=inj _ _ _ (nb _ (vdq h)) F.1;omega
      grind
     rw[<-B,<-e3,<-D];refine .ite (λ_=>.bind (Ba g F) λWx x x' Y e=>.bind (Ba g (V.mono Y)) λag3 y y' _ e'=>.pure AA) (λ_=>.bind (ap.typeInfo g t) λWx i i' _⟨e,_⟩=>?_);subst e;split
     .exact .ite (λ_=>.pure rfl) (λ_=>.unsupported)
     .exact .unsupported
    | _=>exact .unsupported
   |lu=>cases j<;>exact .unsupported
   | _=>cases j<;>first|exact .stuck|exact .unsupported
  |string=>
   cases w with
   |string a=>cases j with|string b=>exact .pure rfl| _=>exact .stuck
   | _=>exact .stuck
  |slice e=>
   cases w with
   |jP l c=>cases j with|jP l c=>exact .pure rfl|slice l c r=>exact .pure rfl| _=>exact .stuck
   |slice l c r=>cases j with|jP l c=>exact .pure rfl|slice l c r=>exact .stuck| _=>exact .stuck
   | _=>exact .stuck
  |struct fields=>
   cases w with
   |agg J N=>
    cases j with
    |agg L M=>
     simp only[vam]at ht;refine .bind .program λU p q l1⟨D,B⟩=>?_;subst D;subst B;rw[Lp g];refine .ite (λ_=>.cut .unsupported) (λ_=>?_)
     .refine .bind (Qe fields (λcm lt f hf s=>.ite (λ_=>?_) (λ_=>.pure rfl)) _) λE x y _ e=>by subst e;obtain⟨o,_⟩:=x;cases o<;>exact(.pure rfl:ap C E b_ (Pure.pure _) (Pure.pure _))
      have z:=Ren.le_trans l1 lt;exact .bind (ap.part g _ (aJ.mono z ⟨J,N⟩) _) λBb u Q H O=>.bind (ap.part g _ (aJ.mono (Ren.le_trans z H) ⟨L,M⟩) _) λI v v' A K=>
       .bind (S _ (ht f hf) I (O.mono A) K) λLl b b' _ e=>Ci
    | _=>exact .stuck
   | _=>exact .stuck
  |array n e=>
   cases w with
   |agg J N=>
    cases j with
    |agg L M=>
     refine .bind (ap.sizeOf g e) λU m m' l1 em=>?_;subst em;refine .bind (Qf n (λcm lt i s=>?_) _) λE x y _ e=>by subst e;obtain⟨o,_⟩:=x;cases o<;>exact(.pure rfl:ap C E b_ (Pure.pure _) (Pure.pure _))
     have z:=Ren.le_trans l1 lt;exact .bind (ap.part g _ (aJ.mono z ⟨J,N⟩) _) λBb u Q H O=>.bind (ap.part g _ (aJ.mono (Ren.le_trans z H) ⟨L,M⟩) _) λI v v' A K=>
      .bind (S _ ht I (O.mono A) K) λLl b b' _ e=>Ci
    | _=>exact .stuck
   | _=>exact .stuck
  | _=>cases ht
end
end
variable{k k' y y':Value}
section
attribute [-simp] Sem.runT_eq
section
variable{C:cH}{ρ:Ren}
def WE(a:C.b_)(empty:Bool):∀(n:Nat)(t:g4),p9 C.P n t=true->∀(ρ:Ren){v v':Value},ar ρ v v'->ap C ρ (λ_(_ _:Unit)=>True) (Instr.checkKey empty n t v) (Instr.checkKey empty n t v'):=by
 intro n;induction n with
 |zero=>intro t _ ρ v v' _;exact .unsupported
 |succ n g=>
  intro t ht ρ v v' hv;unfold Instr.checkKey;refine .bind (ap.underlying a t) λσ u y o⟨e,l⟩=>?_;subst e;simp only[p9,l]at ht;have b:=hv.mono o;cases u with
  |struct fields=>cases b with|agg hs h=>simp only[vam]at ht;refine .bind (Qe fields (λr lt f p s=>.ite (λ_=>?_) (λ_=>.pure Y)) _) λ_ _ _ _ _=>.pure trivial;exact .bind (ap.part a _ (aJ.mono lt ⟨hs,h⟩) _) λd x x' k c=>.bind (g _ (ht f p) d c) λj _ _ _ _=>.pure Y| _=>exact .stuck
  |array len e=>cases b with|agg hs h=>refine .bind (Qf len (λr lt i s=>?_) _) λ_ _ _ _ _=>.pure trivial;refine .bind (ap.sizeOf a e) λw m m' q em=>?_;subst em;exact .bind (ap.part a _ (aJ.mono (Ren.le_trans lt q) ⟨hs,h⟩) _) λd x x' k c=>.bind (g _ ht d c) λj _ _ _ _=>.pure Y| _=>exact .stuck
  |bool|int|string|slice=>cases b<;>exact .pure trivial
  | _=>cases ht
abbrev lx(ρ:Ren):List MapEntry->List MapEntry->Prop:=cE (qV ρ)
theorem lx.mono{σ:Ren}(a:Ren.le ρ σ){l l':List MapEntry}(h:lx ρ l l'):lx σ l l':=cE.mono (λ_ _ x=>x.mono a) h
def Qg(ρ:Ren)(a b:Option (Nat×Value)):Prop:=mJ (λx y=>x.1=y.1/\ar ρ x.2 y.2) a b
def ag9(g:C.b_)(t:g4)(ht:p9 C.P Op.maxDepth t=true):∀(l l':List MapEntry)(ρ:Ren)(i:Nat){k k':Value},ar ρ k k'->lx ρ l l'->ap C ρ Qg (Instr.findAsking t k l i) (Instr.findAsking t k' l' i):=by intro l;induction l with|nil=>intro l' ρ i k k' _ h;cases h;exact .pure .none|cons e l d=>intro l' ρ i k k' hk h;cases h with|cons c f=>simp only[Instr.findAsking];refine .bind (WC g Op.maxDepth t ht ρ hk c.key) λσ b b' a j=>?_;subst j;exact .ite (λ_=>.pure (.some ⟨Y,c.val.mono a⟩)) (λ_=>d _ σ (i+1) (hk.mono a) (lx.mono a f))
def ag_(d:TypeDesc)(b:ar ρ x x')(a:ar ρ y y'):Instr.sameNow d x y=Instr.sameNow d x' y':=by cases d<;>cases b<;>first|rfl|(cases a<;>rfl)
def aha(d:TypeDesc)(hk:ar ρ k k'):∀(l l':List MapEntry)(i:Nat),lx ρ l l'->mJ (Qg ρ) (Instr.findNow d k l i) (Instr.findNow d k' l' i):=by
 intro l;induction l with
 |nil=>intro l' i h;cases h;exact .some .none
 |cons e l c=>
  intro l' i h;cases h with
  |cons a f=>
   simp only[Instr.findNow,<-ag_ d hk a.key];cases Instr.sameNow d k e.key with
   |none=>exact .none
   |some b=>
    cases b
    .exact c _ (i+1) f
    .exact .some (.some ⟨Y,a.val⟩)
def WF(d:C.b_)(t:g4)(ht:p9 C.P Op.maxDepth t=true){l l':List MapEntry}(hk:ar ρ k k')(h:lx ρ l l'):ap C ρ Qg (Instr.findKey t k l) (Instr.findKey t k' l'):=by unfold Instr.findKey;refine .bind (ap.underlying d t) λσ u f c⟨e,g⟩=>?_;subst e;have:=aha (ρ:=σ) u (hk.mono c) l l' 0 (h.mono c);revert this;generalize Instr.findNow u k l 0=a;generalize Instr.findNow u k' l' 0=b;intro this;cases this with|none=>exact ag9 d t ht l l' σ 0 (hk.mono c) (h.mono c)|some h=>exact .pure h
def xv(P:b4)(t:g4):Bool:=
 match P.underlying t with
 |some (.map k _)=>p9 P Op.maxDepth k
 | _=>true
def ahb(d:C.b_)(w:C.rW)(t:g4)(ht:xv C.P t=true)(A:ar ρ x x')(hi:ar ρ i i')(ok:Bool):ap C ρ ar (Instr.lookup t x i ok) (Instr.lookup t x' i' ok):=by
 unfold Instr.lookup;refine .bind (ap.underlying d t) λσ u N m⟨e,B⟩=>?_;subst e;cases u with
 |map key elem=>
  simp only[xv,B]at ht;have F:=A.mono m;cases F<;>first|exact .stuck|skip
  all_goals first|(refine .bind (R:=λσ es es'=>lx σ es.toList es'.toList) (.pure .nil) λq es es' l1 c=>?_)|(rename_i j;refine .bind (ap.getObj j) λH o o' l0 hg=>?_;obtain⟨D,-,-⟩:=hg;cases D<;>first|exact .stuck|skip;rename_i h;refine .bind (R:=λσ es es'=>lx σ es.toList es'.toList) (.pure h) λq es es' l1 c=>?_;replace l1:=Ren.le_trans l0 l1)
  all_goals
   have E:es.isEmpty=es'.isEmpty:=by have:=c.length;simp at this;simp[Array.isEmpty,this]
   have l:=hi.mono (Ren.le_trans m l1);have dK:∀(f:Ren)(v v':Value)(b:Bool),ar f v v'->ar f (if ok then .tuple #[v,.bool b]else v) (if ok then .tuple #[v',.bool b]else v'):=by
    intro f v v' b h;cases ok
    .exact h
    .exact .EA (by simpa using aJ.append (aJ.one h) (aJ.one (.bool b)))
   dsimp only;rw[<-E];refine .bind (WE d _ 10000 key ht q l) λf _ _ l2 _=>.bind (WF d key ht (l.mono l2) (c.mono l2)) λL r r' s j=>?_;cases j with|none=>refine .bind (ap.zeroValue d w elem) λK z J s⟨e,y⟩=>?_;subst e;exact .bind (R:=λσ a b=>a.2=b.2/\ar σ a.1 b.1) (.pure ⟨Y,y.rel _⟩) λI p g _ k=>.pure E0|@some a b h=>obtain⟨n,v⟩:=a;obtain⟨M,v'⟩:=b;exact .bind (R:=λσ a b=>a.2=b.2/\ar σ a.1 b.1) (.pure ⟨Y,h.2⟩) λI p g _ k=>.pure E0
 | _=>exact .stuck
end
end
variable{m m':Value}
section
attribute [-simp] Sem.runT_eq
section
variable{C:cH}{ρ:Ren}
def ahc{f g:Value×Value->Bool}:∀(l l' m m':uad),cE (ar ρ) l l'->cE (ar ρ) m m'->(∀x x' y y',ar ρ x x'->ar ρ y y'->f (x,y)=g (x',y'))->(l.zip m).all f=(l'.zip m').all g:=by intro l;induction l with|nil=>intro l' m m' h k e;cases h;simp|cons x l a=>intro l' m m' h k e;cases h with|cons c ht=>cases k with|nil=>simp|cons b d=>simp only[List.zip_cons_cons,vbj,e _ _ _ _ c b,a _ _ _ ht d e]
def ahd(one:∀a b b',ρ.rel a b->ρ.rel a b'->b=b')(inj:∀a a' b,ρ.rel a b->ρ.rel a' b->a=a'):∀(n:Nat){x x' y y':Value},ar ρ x x'->ar ρ y y'->Instr.sameBits n x y=Instr.sameBits n x' y':=by
 intro n;induction n with
 |zero=>
  intro x x' y y' e c;cases e with
  |ptr r=>cases c with|ptr d=>have:=(dr.Lq one inj r d).1;simp only[Instr.sameBits];rw[Bool.eq_iff_iff]at this⊢;simpa using this| _=>rfl
  | _=>cases c<;>rfl
 |succ n g=>
  intro x x' y y' e c;cases e with
  |ptr r=>cases c with|ptr d=>have:=(dr.Lq one inj r d).1;simp only[Instr.sameBits];rw[Bool.eq_iff_iff]at this⊢;simpa using this| _=>rfl
  |iface t h=>cases c with|iface u k=>simp only[Instr.sameBits,g h k]| _=>rfl
  |agg hs h=>
   cases c with
   |agg f i=>
    simp only[Instr.sameBits,hs,f];congr 1
    exact ahc _ _ _ _ (cE.A6 ⟨hs,h⟩) (cE.A6 ⟨f,i⟩) λ_ _ _ _ a b=>g a b
   | _=>rfl
  | _=>cases c<;>rfl
def ahe{a a' b b':Value}(h:ar ρ a a')(k:ar ρ b b'):ap C ρ ar (Instr.keyThatStays a b) (Instr.keyThatStays a' b'):=by
 refine Qd λone inj _=>?_;unfold Instr.keyThatStays;rw[<-ahd one inj 10000 h k];refine .ite (λ_=>.pure k) (λ_=>.bind (ap.choose _) λσ x y c e=>?_);subst e;refine .pure ?_;split
 .exact k.mono c
 .exact h.mono c
def lx.get{l l':List MapEntry}(h:lx ρ l l'):∀i:Nat,mJ (qV ρ) l[i]? l'[i]?:=by induction h with|nil=>intro i;simp;exact .none|cons b _ a=>intro i;cases i with|zero=>simp;exact .some b|succ i=>simpa using a i
theorem lx.modify{l l':List MapEntry}(h:lx ρ l l'){f g:MapEntry->MapEntry}(d:∀e b,qV ρ e b->qV ρ (f e) (g b)):∀i,lx ρ (l.modify i f) (l'.modify i g):=by induction h with|nil=>intro i;simp;exact .nil|cons a ht c=>intro i;cases i with|zero=>simp only[List.modify_zero_cons];exact .cons (d _ _ a) ht|succ i=>simp only[List.modify_succ_cons];exact .cons a (c i)
def HF{a b a' b':Value}(h:ar ρ a a')(k:ar ρ b b'):aJ ρ #[a,b] #[a',b']:=by simpa using aJ.append (aJ.one h) (aJ.one k)
def ahf(d:C.b_)(L:C.rW)(M:C.upd=true)(t:g4)(ht:xv C.P t=true)(O:ar ρ m m')(hk:ar ρ k k'):ap C ρ ar (Instr.mapEntry t m k) (Instr.mapEntry t m' k'):=by
 unfold Instr.mapEntry;refine .bind (ap.underlying d t) λσ u W B⟨e,l⟩=>?_;subst e;cases u with
 |map key elem=>
  simp only[xv,l]at ht;have K:=O.mono B;cases K with
  |pi=>exact ap.runtimePanic d _
  |map A=>
   refine .bind (ap.getObj A) λE o o' l1 hg=>?_;obtain⟨N,_,R⟩:=hg;cases N with
   |@map es es' clock h=>
    have mine:E.mine _:=R.resolve_right λx=>x.elim (λy=>by rw[M]at y;cases y.1) (λy=>by cases y);have s:=Ren.le_trans B l1;refine .bind (WE d false 10000 key ht E (hk.mono s)) λX _ _ l2 _=>?_;refine .bind (WF d key ht (hk.mono (Ren.le_trans s l2)) (lx.mono l2 h)) λJ r r' f P=>?_;have p:=Ren.le_trans (Ren.le_trans s l2) f;have H:=f.1 _ _ (l2.1 _ _ (l1.1 _ _ A));have F:=f.2 _ (l2.2 _ mine);have g:=lx.mono (Ren.le_trans l2 f) h;cases P with
    |none=>refine .bind (ap.zeroValue d L elem) λI z U c⟨e,v⟩=>?_;subst e;refine .bind (ap.setObj (c.1 _ _ H) (c.2 _ F) (.map _ ?_) Ad) λT _ _ _ _=>.pure (.EA (HF (v.rel _) (.int _ _)));simp only[Array.toList_push];exact cE.append (lx.mono c g) (.cons ⟨hk.mono (Ren.le_trans p c),v.rel _,rfl⟩ .nil)
    |@some a b Q=>
     obtain⟨i,x⟩:=a;obtain⟨i',x'⟩:=b;obtain⟨rfl,w⟩:i=i'/\_:=Q;simp only[]at w⊢;have hold:=lx.get g i;rw[Array.getElem?_toList,Array.getElem?_toList]at hold;have j:((es[i]?).map (λe=>(e.born:Int))).getD 0=((es'[i]?).map (λe=>(e.born:Int))).getD 0:=by revert hold;generalize es[i]?=a;generalize es'[i]?=b;intro hold;cases hold with|none=>rfl|some n=>simp[n.born]
     refine .bind (ahe (ρ:=J) ?_ (hk.mono p)) λI q V c hq=>?_
     .revert hold;generalize es[i]?=a;generalize es'[i]?=b;intro hold;cases hold with|none=>exact hk.mono p|some n=>exact n.key
     .rw[<-j];refine .bind (ap.setObj (c.1 _ _ H) (c.2 _ F) (.map _ ?_) Ad) λT _ _ S _=>.pure (.EA (HF (w.mono (Ren.le_trans c S)) (.int _ _)));rw[vek,vek];refine lx.modify (lx.mono c g) (λe Y D=>?_) i;exact⟨hq,D.val,D.born⟩
   | _=>exact .stuck
  | _=>exact .stuck
 | _=>exact .stuck
def ahi{p:ubd}{l l':List MapEntry}(h:lx ρ l l'):l.findIdx? (λe=>p e.born)=l'.findIdx? (λe=>p e.born):=by induction h with|nil=>rfl|cons b _ a=>simp only[List.findIdx?_cons,b.born,a]
def ahj(d:C.upd=true)(t:g4){s s':Value}(g:ar ρ m m')(hs:ar ρ s s')(hv:ar ρ v v'):ap C ρ (λ_(_ _:Unit)=>True) (Instr.entryStore t m s v) (Instr.entryStore t m' s' v'):=by
 unfold Instr.entryStore;cases g with
 |map a=>
  refine .bind (ap.getObj a) λj o o' l1 hg=>?_;obtain⟨f,_,k⟩:=hg;cases f with
  |@map es es' clock h=>
   have mine:j.mine _:=k.resolve_right λx=>x.elim (λy=>by rw[d]at y;cases y.1) (λy=>by cases y);refine .bind (ap.asInt (hs.mono l1)) λq b b' l2 e=>?_;subst e;have e:es.findIdx? (λe=>(e.born:Int)==b)=es'.findIdx? (λe=>(e.born:Int)==b):=by obtain⟨l⟩:=es;obtain⟨m⟩:=es';simp only[List.findIdx?_toArray];exact ahi (p:=λn=>(n:Int)==b) h
   rw[e];cases es'.findIdx? (λe=>(e.born:Int)==b)with|none=>exact .unsupported|some i=>refine ap.setObj (l2.1 _ _ (l1.1 _ _ a)) (l2.2 _ mine) (.map _ ?_) Ad;rw[vek,vek];refine lx.modify (lx.mono l2 h) (λe r c=>?_) i;exact⟨c.key,hv.mono (Ren.le_trans l1 l2),c.born⟩
  | _=>exact .stuck
 | _=>exact .stuck
end
end
section
attribute [-simp] Sem.runT_eq
section
variable{C:cH}{ρ:Ren}
theorem aJ.two{a b a' b':Value}(h:ar ρ a a')(k:ar ρ b b'):aJ ρ #[a,b] #[a',b']:=by simpa using aJ.append (aJ.one h) (aJ.one k)
def ahk(b:C.b_)(ats:uaq)(t:g4){args:dp}(h:aJ ρ args qX):ap C ρ ar (Builtin.len_ ats t args) (Builtin.len_ ats t qX):=by
 unfold Builtin.len_;cases h0:ats[0]? with|none=>exact .stuck|some ty=>
 cases m:args[0]? with|none=>exact .stuck|some x=>
 obtain⟨x',p,f⟩:=h.some m;rw[p];refine .bind (ap.underlying b ty) λσ u d j⟨e,_⟩=>?_;subst e;have a:=f.mono j;cases u with
 |string=>cases a with|string s=>exact .pure (.int _ _)| _=>exact .stuck
 |array n e=>exact .pure (.int _ _)
 |pointer arr=>refine .bind (ap.underlying b arr) λq u d _⟨e,_⟩=>?_;subst e;cases u with|array n e=>exact .pure (.int _ _)| _=>exact .stuck
 |slice e=>cases a with|jP l c=>exact .pure (.int _ _)|slice l c r=>exact .pure (.int _ _)| _=>exact .stuck
 |map k e=>
  cases a with
  |pi=>exact .pure (.int _ _)
  |map g=>
   refine .bind (ap.getObj g) λq o o' l1 hg=>?_;obtain⟨i,_,_⟩:=hg;cases i with
   |@map es es' clock h=>
    have:es.size=es'.size:=by simpa using h.length
    refine .pure ?_;rw[this];exact .int _ _
   | _=>exact .stuck
  | _=>exact .stuck
 |chan k e=>cases a with|pj=>exact .pure (.int _ _)| _=>exact .stuck
 | _=>exact .stuck
def ahl(a:C.b_)(ats:uaq)(t:g4){args:dp}(h:aJ ρ args qX):ap C ρ ar (Builtin.cap_ ats t args) (Builtin.cap_ ats t qX):=by
 unfold Builtin.cap_;cases h0:ats[0]? with|none=>exact .stuck|some ty=>
 cases i:args[0]? with|none=>exact .stuck|some x=>
 obtain⟨x',j,f⟩:=h.some i;rw[j];refine .bind (ap.underlying a ty) λσ u d g⟨e,_⟩=>?_;subst e;have b:=f.mono g;cases u with
 |array n e=>exact .pure (.int _ _)
 |pointer arr=>refine .bind (ap.underlying a arr) λm u d _⟨e,_⟩=>?_;subst e;cases u with|array n e=>exact .pure (.int _ _)| _=>exact .stuck
 |slice e=>cases b with|jP l c=>exact .pure (.int _ _)|slice l c r=>exact .pure (.int _ _)| _=>exact .stuck
 |chan k e=>cases b with|pj=>exact .pure (.int _ _)| _=>exact .stuck
 | _=>exact .stuck
def ahm(d:C.b_)(ats:uaq)(t:g4){args:dp}(h:aJ ρ args qX):ap C ρ ar (Builtin.copy_ ats t args) (Builtin.copy_ ats t qX):=by
 unfold Builtin.copy_;cases h0:ats[0]? with|none=>exact .stuck|some ty=>
 cases l:args[0]? with|none=>exact .stuck|some x=>
 cases k:args[1]? with|none=>exact .stuck|some y=>
 obtain⟨x',o,j⟩:=h.some l;obtain⟨y',m,b⟩:=h.some k;rw[o,m];refine .bind (ap.underlying d ty) λσ u v a⟨e,_⟩=>?_;subst e;cases u with
 |slice elem=>
  have f:=j.mono a;have g:=f;cases f<;>first|exact .stuck|skip
  all_goals
   refine .bind (Wv (b.mono a)) λz n q l1 e=>?_;subst e;refine .bind (ap.sizeOf d elem) λw s s' l2 e=>?_;subst e;refine .bind (Lk s _ (b.mono (Ren.le_trans (Ren.le_trans a l1) l2))) λp c c' i hc=>?_;cases g
  .exact .pure (.int _ _)
  .rename_i r;exact .bind (ap.storeCells (r.mono (Ren.le_trans (Ren.le_trans l1 l2) i)) (cE.A6 hc) 0) λ_ _ _ _ _=>.pure (.int _ _)
 | _=>exact .stuck
def WH(op:BinOp)(k:IntKind)(x y:Int):ap C ρ ar (Op.intArith op k x y) (Op.intArith op k x y):=by unfold Op.intArith;cases op<;>first|exact .stuck|exact .pure (.int _ _)
def ahn(a:C.b_)(op:BinOp)(k:IntKind)(x y:Int):ap C ρ ar (Op.intDiv op k x y) (Op.intDiv op k x y):=by unfold Op.intDiv;repeat' first|exact .stuck|exact .pure (.int _ _)|exact ap.runtimePanic a _ |split
def aho(op:BinOp)(x y:Int):ap C ρ ar (Op.intCmp op x y) (Op.intCmp op x y):=by unfold Op.intCmp;cases op<;>first|exact .stuck|exact .pure (.bool _)
theorem Qj(op:BinOp)(x y:ByteArray):ap C ρ ar (Op.stringOp op x y) (Op.stringOp op x y):=by unfold Op.stringOp;cases op with|add=>exact .ite (λ_=>.unsupported) (λ_=>.pure (.string _))| _=>first|exact .stuck|exact .pure (.bool _)
def WI:UnOp->Bool
 | .xor=>false
 | _=>true
def ahp(op:UnOp)(a:WI op=true)(h:ar ρ x x'):ap C ρ ar (Op.unary op x) (Op.unary op x'):=by
 unfold Op.unary;cases op with
 |neg=>cases h with|int k n=>exact WH _ _ _ _|ptr r=>exact .unsupported| _=>exact .stuck
 |xor=>cases a
 |not=>cases h with|bool b=>exact .pure (.bool _)| _=>exact .stuck
 |plus=>cases h<;>exact .stuck
end
end
section
attribute [-simp] Sem.runT_eq
section
variable{C:cH}{ρ:Ren}
theorem ahq(c:C.b_):∀(d:Nat)(t:g4)(b:Nat),cellOfByte C.Q d t b=cellOfByte C.P d t b:=by intro d;induction d with|zero=>intro t b;rfl|succ d a=>grind[cellOfByte,A9,A_,Lf]
def ahr(a:C.b_)(d:Nat)(e:g4)(c o:Nat)(b:Int):cellAtBytes C.Q d e c o b=cellAtBytes C.P d e c o b:=by grind[cellAtBytes,A_,Lf,Ws,ahq]
def WJ(a:C.b_)(ats:uaq)(t:g4)(j:ar ρ x x')(i:ar ρ y y'):ap C ρ ar (Builtin.unsafeAdd_ ats t #[x,y]) (Builtin.unsafeAdd_ ats t #[x',y']):=by
 obtain⟨b,b',g,rfl,rfl⟩|hs:(∃b b',mJ (dr ρ) b b'/\x=.pointer b/\x'=.pointer b')\/ap C ρ ar (Builtin.unsafeAdd_ ats t #[x,y]) (Builtin.unsafeAdd_ ats t #[x',y']):=by unfold Builtin.unsafeAdd_;cases j with|lu=>exact .inl ⟨none,none,.none,Y,Y⟩|ptr r=>exact .inl ⟨_,_,.some r,Y,Y⟩| _=>exact .inr .stuck
 .unfold Builtin.unsafeAdd_;refine .bind (ap.asInt i) λσ n l l1 e=>?_;subst e;refine .ite (λ_=>?_) (λ_=>.ite (λ_=>.cut .unsupported) (λ_=>?_))
  .cases g with|none=>exact .unsupported|some r=>refine .bind (Wt (l1.1 _ _ r.1)) λk v v' l2⟨f,d⟩=>?_;subst f;subst d;exact .pure (.ptr (r.mono (Ren.le_trans l1 l2)))
  .cases g with
   |none=>exact .unsupported
   |some r=>
    refine .bind (ap.shape (l1.1 _ _ r.1)) λk s s' l2 e=>?_;subst e;cases s with
    |none=>exact .unsupported
    |some ec=>
     obtain⟨e,c⟩:=ec;refine .bind .program λm p q h⟨f,d⟩=>?_;subst f;subst d;simp only[ahr a,EG a,A_ a];rw[<-r.2.1];split
     .exact .pure (.ptr ⟨h.1 _ _ (l2.1 _ _ (l1.1 _ _ r.1)),Y,r.2.2⟩)
     .exact .unsupported
 grind
def Qk(b:C.b_)(t:g4)(d:ar ρ x x')(c:ar ρ y y'):ap C ρ ar (movedNumber t x y) (movedNumber t x' y'):=by
 unfold movedNumber;refine .bind (ap.underlying b t) λσ u o l1⟨e,_⟩=>?_;subst e;refine .ite (λ_=>.cut .unsupported) (λ_=>?_);have j:=d.mono l1;cases j with
 |ptr r=>refine .bind (zr r) λz p q l2 h=>?_;obtain⟨a,A8⟩:=p;obtain⟨a',k⟩:=q;obtain⟨i,rfl⟩:=h;refine .bind (WJ b #[] t (.ptr i) ((c.mono l1).mono l2)) λw v v' s hv=>?_;have g:=hv;cases hv with|ptr f=>exact .bind (ap.new (.number f A8)) λl n m _ hn=>.pure (.ptr ⟨hn.1,Y,Y⟩)| _=>exact .pure g
 | _=>exact WJ b #[] t (ar.mono l1 d) (c.mono l1)
def WK(d:C.b_)(k:dr ρ a a')(j:dr ρ b b'):ap C ρ b_ (Op.twoPlaces a b) (Op.twoPlaces a' b'):=by
 unfold Op.twoPlaces;refine .bind .program λσ p q l1⟨m,f⟩=>?_;subst m;subst f;refine Qd λone inj nb=>?_;have i:C.Q.globals.size=C.P.globals.size:=by rw[d]
 have c:=k.mono l1;have g:=j.mono l1;obtain⟨_,f⟩:=dr.Lq one inj c g;have l:decide (a.block ≥ C.P.globals.size)=decide (a'.block ≥ C.Q.globals.size):=by
  rw[i];have:a.block<C.P.globals.size↔a'.block<C.P.globals.size:=by
   constructor
   .intro h;have:=one _ _ _ (nb _ (vdq h)) c.1;omega
   .intro h;have:=inj _ _ _ (nb _ (vdq h)) c.1;omega
  grind
 have n:(a.block != b.block)=(a'.block != b'.block):=AA;rw[n,l];exact .ite (λ_=>.cut .unsupported) (λ_=>.bind (Ba d c) λr x x' l2 e=>.bind (Ba d (g.mono l2)) λo y y' _ s=>.pure AA)
def ahs(f:C.b_)(k:IntKind)(d:dr ρ a a')(c:dr ρ b b'):ap C ρ ar (Op.addrSub k a b) (Op.addrSub k a' b'):=by unfold Op.addrSub;exact .bind (WK f d c) λσ x y _ e=>by subst e;exact .pure (.int _ _)
def aht(f:C.b_)(op:BinOp)(d:dr ρ a a')(c:dr ρ b b'):ap C ρ ar (Op.addrCmp op a b) (Op.addrCmp op a' b'):=by unfold Op.addrCmp;exact .bind (WK f d c) λσ x y _ e=>by subst e;cases op<;>first|exact .unsupported|exact .pure (.bool _)
def ahu(d:C.b_)(k:IntKind)(b:dr ρ a a')(n:Int):ap C ρ ar (Op.addrMod k a n) (Op.addrMod k a' n):=by
 unfold Op.addrMod;refine .bind (ap.shape b.1) λσ s s' l1 e=>?_;subst e;cases s with
 |none=>exact .unsupported
 |some ec=>
  obtain⟨e,c⟩:=ec;refine .bind (ap.typeInfo d e) λf i i' l2⟨e,_⟩=>?_;subst e;exact .ite (λ_=>.cut .unsupported)
   (λ_=>.bind (Ba d (b.mono (Ren.le_trans l1 l2))) λ_ x y _ e=>by subst e;exact .pure (.int _ _))
def WL(a:C.b_):∀(d:Nat)(t:g4)(ρ:Ren){x x' y y':Value},ar ρ x x'->ar ρ y y'->ap C ρ b_ (Op.eqGuardIn d t x y) (Op.eqGuardIn d t x' y'):=by
 intro d;induction d with
 |zero=>intro t ρ x x' y y' _ _;exact .unsupported
 |succ d E=>
  intro t ρ x x' y y' I H;unfold Op.eqGuardIn;refine .bind (ap.underlying a t) λσ u D F⟨e,M⟩=>?_;subst e;have z:=I.mono F;have j:=H.mono F;cases u with
  |interface ms=>
   cases z with
   |nilIface=>cases j with|nilIface=>exact .pure Y| _=>exact .pure Y
   | _=>exact .pure Y
  |struct fields=>
   cases z with
   |agg h w=>
    cases j with
    |agg q r=>
     refine .bind (Qe fields (λJ lt f N s=>.ite (λ_=>?_) (λ_=>.pure Y)) _) λg x y _ e=>by subst e;obtain⟨o,_⟩:=x;cases o<;>exact(.pure Y:ap C g b_ (Pure.pure _) (Pure.pure _))
     exact .bind (ap.part a _ (aJ.mono lt ⟨h,w⟩) _) λL u D p A=>.bind (ap.part a _ (aJ.mono (Ren.le_trans lt p) ⟨q,r⟩) _) λc v v' l k=>
      .bind (E _ c (A.mono l) k) λK b b' _ e=>Ci
    | _=>exact .pure Y
   | _=>exact .pure Y
  |array n e=>
   cases z with
   |agg h w=>
    cases j with
    |agg q r=>
     refine .bind (ap.sizeOf a e) λO m m' l1 em=>?_;subst em;refine .bind (Qf n (λJ lt i s=>?_) _) λg x y _ e=>by subst e;obtain⟨o,_⟩:=x;cases o<;>exact(.pure Y:ap C g b_ (Pure.pure _) (Pure.pure _))
     have B:=Ren.le_trans l1 lt;exact .bind (ap.part a _ (aJ.mono B ⟨h,w⟩) _) λL u D p A=>.bind (ap.part a _ (aJ.mono (Ren.le_trans B p) ⟨q,r⟩) _) λc v v' l k=>
      .bind (E _ c (A.mono l) k) λK b b' _ e=>Ci
    | _=>exact .pure Y
   | _=>exact .pure Y
  | _=>exact .pure Y
def WM(b:C.b_):∀(d:Nat)(t:g4),C.Q.eqGuardType d t=C.P.eqGuardType d t:=by intro d;induction d with|zero=>intro t;rfl|succ d a=>grind[Program.eqGuardType,A9]
def ahv(a:C.b_)(op:BinOp)(t:g4)(p q:uar)(h:ar ρ x x')(c:ar ρ y y'):ap C ρ (λ_(_ _:Unit)=>True) (eqGuard op t p q x y) (eqGuard op t p q x' y'):=by
 unfold eqGuard;refine .ite (λ_=>.pure trivial) (λ_=>?_);cases h with
 |nilIface=>cases c with|nilIface=>refine .ite (λ_=>.pure trivial) (λ_=>.bind (WL a _ t ρ .nilIface .nilIface) λσ b b' _ e=>?_);subst e;exact .ite (λ_=>.unsupported) (λ_=>.pure trivial)| _=>exact .pure trivial
 |agg f j=>cases c with|agg g i=>refine .bind .program λu p q l1⟨n,m⟩=>.bind .program λo s r l2⟨l,k⟩=>?_;subst n;subst m;subst l;subst k;rw[WM a,EG a];have d:=Ren.le_trans l1 l2;refine .ite (λ_=>.pure trivial) (λ_=>.bind (WL a _ t o ((ar.agg f j).mono d) ((ar.agg g i).mono d)) λσ b b' _ e=>?_);subst e;exact .ite (λ_=>.unsupported) (λ_=>.pure trivial)| _=>exact .pure trivial
 | _=>exact .pure trivial
end
end
section
attribute [-simp] Sem.runT_eq
def Be(P:b4)(op:BinOp)(t:g4):Bool:=
 match op with
 | .eql| .neq=>p9 P Op.maxDepth t
 | .shl| .shr| .and| .or| .xor| .andNot=>false
 | _=>match P.underlying t with|some .unsafePointer=>false| _=>true
section
variable{C:cH}{ρ:Ren}
def Ql(d:C.b_)(op:BinOp)(t:g4)(c:Be C.P op t=true)(k k':IntKind)(a b:Int):ap C ρ ar (binOp op t (.int k a) (.int k' b)) (binOp op t (.int k a) (.int k' b)):=by cases op<;>first|cases c|exact .ite (λ_=>.stuck) (λ_=>WH _ _ _ _)|exact .ite (λ_=>.stuck) (λ_=>ahn d _ _ _ _)|exact .ite (λ_=>.stuck) (λ_=>aho _ _ _)
theorem Qm(op:BinOp)(t:g4)(a b:ByteArray):binOp op t (.string a) (.string b)=Op.stringOp op a b:=by cases op<;>rfl
def WO(c:C.b_){t:g4}(ht:p9 C.P Op.maxDepth t=true)(b:ar ρ x x')(a:ar ρ y y'):ap C ρ b_ (Op.equal t x y) (Op.equal t x' y'):=WC c Op.maxDepth t ht ρ b a
def WP(f:C.b_){t:g4}(ht:p9 C.P Op.maxDepth t=true)(d:ar ρ x x')(c:ar ρ y y'):
 ap C ρ ar (do pure (.bool (<-Op.equal t x y))) (do pure (.bool (<-Op.equal t x' y')))/\ap C ρ ar (do pure (.bool (!(<-Op.equal t x y)))) (do pure (.bool (!(<-Op.equal t x' y')))):=
 ⟨.bind (WO f ht d c) λ_ a b _ e=>by subst e;exact .pure (.bool _),.bind (WO f ht d c) λ_ a b _ e=>by subst e;exact .pure (.bool _)⟩
def ahw(a:C.b_)(op:BinOp)(t:g4)(b:Be C.P op t=true)(d:ar ρ x x')(c:ar ρ y y'):ap C ρ ar (binOp op t x y) (binOp op t x' y'):=by
 have g:=d;have h:=c;cases op
 case eql=>exact(have hq:=(WP (ρ:=ρ) a b d c).1;Ez)
 case neq=>exact(have hq:=(WP (ρ:=ρ) a b d c).2;Ez)
 all_goals first|exact absurd b Bool.false_ne_true|skip
 all_goals cases d<;>cases c<;>first
  |exact .stuck
  |exact .unsupported
  |exact Ql a _ _ b _ _ _ _
  |(rw[Qm];exact Qj _ _ _)
  |exact Qk a _ h g
  |exact Qk a t g (.int _ _)
  |exact .bind (zr (by assumption)) λσ p i l1⟨f,_⟩=>ahu a _ f _
  |exact .bind (zr (by assumption)) λσ p i l1⟨f,_⟩=>.bind (zr (dr.mono l1 AA)) λl q j l2⟨hq,_⟩=>ahs a _ (f.mono l2) hq
  |exact .bind (zr (by assumption)) λσ p i l1⟨f,_⟩=>.bind (zr (dr.mono l1 AA)) λl q j l2⟨hq,_⟩=>aht a _ (f.mono l2) hq
  |(refine .bind (ap.underlying a t) λσ u m l1⟨e,k⟩=>?_;subst e;simp only[Be,k]at b;cases u<;>first|exact absurd b Bool.false_ne_true|exact Qk a t (g.mono l1) (h.mono l1))
end
end
variable{l l':Nat}{assign body:Code}
section
attribute [-simp] Sem.runT_eq
section
variable{C:cH}{ρ:Ren}
def HG(h:ρ.rel l l'):ap C ρ (λσ r r'=>Hw C σ r r'/\σ.mine l') (Instr.getLoop l) (Instr.getLoop l'):=by unfold Instr.getLoop;refine .bind (ap.getObj h) λσ o o' l1 hg=>?_;obtain⟨a,_,b⟩:=hg;cases a with|loop c=>exact .pure ⟨c,b.resolve_right λx=>x.elim (λy=>AA) (λy=>by cases y)⟩| _=>exact .stuck
def WQ(fn:uaj)(h:∃f c,C.P.funcs[fn]?=some f/\f.body=some c){tmps d:dp}(ht:aJ ρ tmps d)(params:Array Tmp)(l:C.lV assign)(k:C.lV body){r r':ubg}(j:mJ ρ.rel r r'):
 ap C ρ (λσ x y=>σ.rel x.1 y.1/\qU σ x.2 y.2) (Instr.enterLoop fn tmps params assign body r) (Instr.enterLoop fn d params assign body r'):=by
 unfold Instr.enterLoop;cases j<;>first
  |refine .bind (ap.new (.deferred .nil)) λσ n g l1 hn=>.bind (R:=λσ x y=>σ.rel x.1 y.1/\qU σ x.2 y.2) (.pure ⟨hn.1,.cons ⟨.collected hn.1,.nil _⟩ .nil⟩) λb x y l2 a=>?_
  |refine .bind (HG AA) λσ x y l1⟨i,_⟩=>.bind (R:=λσ x y=>σ.rel x.1 y.1/\qU σ x.2 y.2) (.pure ⟨i.defers,.nil⟩) λb x y l2 a=>?_
 all_goals exact .bind (ap.new (.loop ⟨Y,Y,(λc e=>Cn),Y,h,ht.mono (Ren.le_trans l1 l2),Y,Y,l,Y,k,a.1⟩)) λb n g l2 hn=>.pure ⟨hn.1,a.2.mono l2⟩
def WR(h:ρ.rel l l')(c:C.b_):ap C ρ (λ_(_ _:Unit)=>True) (Instr.beginRound l) (Instr.beginRound l'):=by unfold Instr.beginRound;refine .bind (HG h) λσ r r' l1⟨a,b⟩=>?_;refine .bind (ap.setObj (l1.1 _ _ h) b (.loop ⟨Y,a.pending,a.La,a.fn,a.known,a.tmps,a.params,a.assign,a.Hx,a.body,a.Hy,a.defers⟩) Ad) λd _ _ _ _=>?_;rw[<-a.state];cases r.state with|ready=>exact .pure trivial| _=>exact ap.runtimePanic c _
def ahx(h:ρ.rel l l')(jump:Option Code)(d:∀c,jump=some c->C.lV c):ap C ρ ar (Instr.endRound l jump) (Instr.endRound l' jump):=by unfold Instr.endRound;refine .bind (HG h) λσ r r' l1⟨a,b⟩=>?_;exact .bind (ap.setObj (l1.1 _ _ h) b (.loop ⟨Y,Y,d,a.fn,a.known,a.tmps,a.params,a.assign,a.Hx,a.body,a.Hy,a.defers⟩) Ad) λe _ _ _ _=>.pure (.bool _)
def ahy(h:ρ.rel l l')(f:C.b_):ap C ρ (λ_ a b=>a=b/\∀c,a=some c->C.lV c) (Instr.endLoop l) (Instr.endLoop l'):=by unfold Instr.endLoop;refine .bind (HG h) λσ r r' l1⟨d,e⟩=>?_;rw[<-d.state];exact .ite (λ_=>.cut (ap.runtimePanic f _)) (λ_=>.bind (ap.setObj (l1.1 _ _ h) e (.loop ⟨Y,d.pending,d.La,d.fn,d.known,d.tmps,d.params,d.assign,d.Hx,d.body,d.Hy,d.defers⟩) Ad) λ_ _ _ _ _=>.pure ⟨d.pending,d.La⟩)
def ahz{b b':Nat}(h:ρ.rel b b'):ap C ρ qU (Instr.takeDeferred b) (Instr.takeDeferred b'):=by unfold Instr.takeDeferred;refine .bind (ap.getObj h) λg o o' l2 hg=>?_;obtain⟨d,_,e⟩:=hg;cases d with|deferred a=>have mine:=e.resolve_right λx=>x.elim (λy=>AA) (λy=>by cases y);exact .bind (ap.setObj (l2.1 _ _ h) mine .taken Ad) λf _ _ c _=>.pure (a.mono c)| _=>exact .stuck
end
end
section
attribute [-simp] Sem.runT_eq
inductive po(C:cH)(ρ:Ren):Next->Next->Prop
 |value {v v':Value} (h:ar ρ v v'):po C ρ (.value v) (.value v')
 |skip:po C ρ .skip .skip
 |enter {f:uaj} {fn:Func} {c:Code} {a a':dp} (h:aJ ρ a a') (hp:C.P.funcs[f]?=some fn) (hb:fn.body=some c):po C ρ (.enter f a) (.enter f a')
 |round {l l':Nat} {f:uaj} {t cA:dp} {assign body:Code} (hf:∃fn c,C.P.funcs[f]?=some fn/\fn.body=some c) (hl:ρ.rel l l') (ht:aJ ρ t cA) (ha:C.lV assign) (hb:C.lV body):po C ρ (.round l f t assign body) (.round l' f cA assign body)
structure cH.Bf(C:cH):Prop where
 body:∀(f:uaj)(fn:Func)(c:Code),C.P.funcs[f]?=some fn->fn.body=some c->C.Q.funcs[f]?=some fn/\C.lV c/\fn.name≠ "runtime.NumGoroutine"
 bare:∀(f:uaj)(fn:Func),C.P.funcs[f]?=some fn->fn.body=none->∀(ρ:Ren)(a a':dp),aJ ρ a a'->ap C ρ (po C) (callFunc f a) (callFunc f a')
section
variable{C:cH}{ρ:Ren}
def ahA(c:C.b_):ap C ρ b_ Instr.panicnil Instr.panicnil:=by
 unfold Instr.panicnil;refine .bind ap.agv λσ a b _ e=>?_;subst e;cases a with
 |strings env=>
  refine .bind .program λg p q _⟨f,d⟩=>?_;subst f;subst d;have:C.Q.godebug=C.P.godebug:=by rw[c]
  rw[this];exact .pure Y
 | _=>exact .stuck
def ahB(c:C.b_)(h:ar ρ x x'):ap C ρ ar (Instr.panic x) (Instr.panic x'):=by unfold Instr.panic;cases h with|iface t hv=>exact .goPanic (.iface t hv)|nilIface=>refine .bind (ahA c) λσ a b _ e=>?_;subst e;exact .ite (λ_=>.goPanic .nilIface) (λ_=>ap.runtimePanic c _)| _=>exact .stuck
def ahC(hF:C.Bf)(f:uaj){a a':dp}(h:aJ ρ a a'):ap C ρ (po C) (callFunc f a) (callFunc f a'):=by cases b:C.P.funcs[f]? with|none=>refine .none λw=>?_;unfold callFunc;rw[mH];simp only[Go.program,Sem.run,b];exact id|some fn=>cases d:fn.body with|none=>exact hF.bare f fn b d ρ a a' h|some c=>obtain⟨hq,hok,hn⟩:=hF.body f fn c b d;unfold callFunc;refine .bind .program λσ p q l1⟨i,g⟩=>?_;subst i;subst g;rw[b,hq];simp only[];have e:(fn.name== "runtime.NumGoroutine")=false:=AA;simp only[e,d,Option.isNone_some,vah,vee];exact .pure (.enter (h.mono l1) b d)
end
end
section
attribute [-simp] Sem.runT_eq
def ik:Nat->Value->Bool
 | _,.bool _ | _,.int .. | _,.string _ | _,.pointer none| _,.slice none _ _ | _,.map none| _,.chan none| _,.nilFunc| _,.nilIface=>true
 | _,.func (.func _) a b=>a.isEmpty&&b.isEmpty
 |n+1,.iface _ v=>ik n v
 |n+1,.agg a=>a.all (ik n)
 |n+1,.tuple a=>a.all (ik n)
 | _,_=>false
theorem WS:∀(n:Nat)(v:Value),ik n v=true->iW v:=by
 have fn:∀(n:Nat)(f:Fn)(a b:dp),ik n (.func f a b)=true->iW (.func f a b):=by
  intro n f a b h;cases f with
  |func f=>
   cases n<;>
   .simp only[ik,vaf,Array.isEmpty_iff]at h;obtain⟨rfl,rfl⟩:=h;exact .func f
  | _=>grind[ik]
 intro n;induction n with
 |zero=>
  intro v h;cases v with
  |bool b=>exact .bool b
  |int k n=>exact .int k n
  |string s=>exact .string s
  |pointer a=>cases a with|none=>exact .lu|some a=>simp[ik]at h
  |slice a l c=>cases a with|none=>exact .jP l c|some a=>simp[ik]at h
  |map r=>cases r with|none=>exact .pi|some a=>simp[ik]at h
  |chan r=>cases r with|none=>exact .pj|some a=>simp[ik]at h
  |nilFunc=>exact .nilFunc
  |nilIface=>exact .nilIface
  |func f a b=>grind
  | _=>simp[ik]at h
 |succ n d=>
  intro v h;cases v with
  |bool b=>exact .bool b
  |int k n=>exact .int k n
  |string s=>exact .string s
  |pointer a=>grind[ik]
  |slice a l c=>cases a with|none=>exact .jP l c|some a=>simp[ik]at h
  |map r=>grind[ik]
  |chan r=>grind[ik]
  |nilFunc=>exact .nilFunc
  |nilIface=>exact .nilIface
  |func f a b=>grind
  |iface t v=>exact .iface t (d v (by grind[ik]))
  |agg a=>simp only[ik,vam]at h;exact .agg λi v hv=>d v (h v (vbf hv))
  |tuple a=>simp only[ik,vam]at h;exact .tuple λi v hv=>d v (h v (vbf hv))
  | _=>simp[ik]at h
def f_(P:b4):Operand->Bool
 | .tmp _ | .func _=>true
 | .const v=>ik 4 v
 | .global g=>decide (g<P.globals.size)
def EK(P:b4)(c:Call):Bool:=
 (match c.callee with
  | .builtin b=>P5 b
  | .value f=>f_ P f
  | _=>false)&&c.args.all (f_ P)
def WT:Fn->Bool
 | .func _=>true
 | _=>false
def HI(P:b4)(c:Call):Bool:=
 (match c.callee with
  | .builtin .unsafeString=>true
  | _=>false)&&c.args.all (f_ P)
def mK(P:b4)(upd:Bool):Op->Bool
 | .move x| .assign x| .box _ x| .load _ x| .makeInterface _ x| .fieldAddr _ x _ | .extract x _ | .panic x=>f_ P x
 | .nilCheck x=>f_ P x
 | .unOp op _ x=>WI op&&f_ P x
 | .alloc _=>true
 | .pick c a b=>f_ P c&&f_ P a&&f_ P b
 | .build _ ps| .buildSlice _ _ ps=>ps.all λp=>f_ P p.2
 | .store _ a v| .makeSlice _ a v=>f_ P a&&f_ P v
 | .indexAddr t a v=>HB P t&&f_ P a&&f_ P v
 | .index t a v=>HD P t&&f_ P a&&f_ P v
 | .makeMap _ r=>r.isNone
 | .lookup t x i _=>xv P t&&f_ P x&&f_ P i
 | .mapEntry t m k=>upd&&xv P t&&f_ P m&&f_ P k
 | .entryStore _ m s v=>upd&&f_ P m&&f_ P s&&f_ P v
 | .binOp op t x y _=>Be P op t&&f_ P x&&f_ P y
 | .makeFunc fn a b=>WT fn&&a.all (f_ P)&&b.all (f_ P)
 | .slice t x l h m=>HA P t&&f_ P x&&l.all (f_ P)&&h.all (f_ P)&&m.all (f_ P)
 | .call c=>EK P c||(upd&&HI P c)
 | _=>false
section
variable{C:cH}{ρ:Ren}
theorem nd{m m':Sem Value}(h:ap C ρ ar m m'):ap C ρ (po C) (do pure (.value (<-m))) (do pure (.value (<-m'))):=.bind h λ_ _ _ _ hv=>.pure (.value hv)
def WU{m m':Sem Unit}(h:ap C ρ (λ_(_ _:Unit)=>True) m m'):ap C ρ (po C) (do m;pure .skip) (do m';pure .skip):=.bind h λ_ _ _ _ _=>.pure .skip
theorem ahE(c:C.b_)(d:C.rW)(b:Builtin)(e:P5 b=true)(ats:uaq)(t:g4)(cs:uat){a a':dp}(h:aJ ρ a a'):ap C ρ (po C) (builtin b ats t cs a) (builtin b ats t cs a'):=by unfold builtin;cases b with|append=>exact .bind (ag1 c d ats t h) λ_ _ _ _ hv=>.pure (.value hv)|cap=>exact .bind (ahl c ats t h) λ_ _ _ _ hv=>.pure (.value hv)|copy=>exact .bind (ahm c ats t h) λ_ _ _ _ hv=>.pure (.value hv)|len=>exact .bind (ahk c ats t h) λ_ _ _ _ hv=>.pure (.value hv)| _=>cases e
def ahF:∀(l:List (Tmp×Value))(l':List (Tmp×Value)){t a:dp},cE (λx y=>x.1=y.1/\ar ρ x.2 y.2) l l'->aJ ρ t a->
 aJ ρ (l.foldl (λtmps(p:Tmp×Value)=>tmps.setIfInBounds p.1 p.2) t) (l'.foldl (λtmps(p:Tmp×Value)=>tmps.setIfInBounds p.1 p.2) a):=by
 intro l;induction l with|nil=>intro l' t a h ht;cases h;exact ht|cons x l c=>intro l' t a h ht;cases h with|cons b d=>simp only[List.foldl_cons];exact c _ d (by rw[b.1];exact ht.set b.2 _)
def ahG:∀(ps:List Tmp)(l l':uad),cE (ar ρ) l l'->cE (λx y=>x.1=y.1/\ar ρ x.2 y.2) (ps.zip l) (ps.zip l'):=by intro ps;induction ps with|nil=>intro l l' _;exact .nil|cons p ps a=>intro l l' h;cases h with|nil=>exact .nil|cons b ht=>exact .cons ⟨Y,b⟩ (a _ _ ht)
def ahH(h:ρ.rel l l'){a a':dp}(c:aJ ρ a a'):ap C ρ (po C) (Instr.yield l a) (Instr.yield l' a'):=by unfold Instr.yield;refine .bind (HG h) λσ r r' l1⟨b,_⟩=>?_;rw[<-c.size,<-b.params,<-b.fn,<-b.assign,<-b.body];refine .ite (λ_=>.cut .stuck) (λ_=>.pure (.round b.known (l1.1 _ _ h) ?_ b.Hx b.Hy));rw[<-Array.foldl_toList,<-Array.foldl_toList,Array.toList_zip,Array.toList_zip];exact ahF _ _ (ahG _ _ _ (cE.A6 (c.mono l1))) b.tmps
def HJ(i:C.b_)(j:C.rW)(hF:C.Bf){t d:Target}(ht:ud ρ t d){a a':dp}(h:aJ ρ a a'):ap C ρ (po C) (invoke t a) (invoke d a'):=by unfold invoke;cases ht with|nil=>exact ap.runtimePanic i _|builtin b ats ty cs l=>grind[ahE]|collected k=>exact .stuck|@fn f f' c c' g hc=>cases g with|func f=>exact ahC hF f (h.append hc)|yield e=>exact ahH e h
end
end
section
attribute [-simp] Sem.runT_eq
section
variable{C:cH}{ρ:Ren}
theorem ap.freeze(F:C.upd=true)(r:dr ρ a a')(n:Nat):ap C ρ (λ_(_ _:Unit)=>True) (Go.freeze a n) (Go.freeze a' n):=by
 intro S w w' d _ _;have z:∀b b',ρ.rel b b'->¬ρ.mine b'->∃o o',w.heap[b]?=some o/\EB o/\w'.heap[b']?=some o'/\∀c e fr,o'≠ .cells c e fr:=λb b' f hn=>by
  rcases d.still b b' f hn with⟨x,_⟩|⟨x,_⟩|⟨o,g,hd⟩
  .grind
  .grind
  .obtain⟨p,D,t,E,q⟩:=d.obj b b' f;rw[g]at t;cases t;refine⟨o,D,g,hd,E,λc e fr x=>?_⟩;subst x;cases hd with
   |coro=>cases q with|shut h=>exact h
   |number a l=>cases q
 have get:∀(w:aS)(a:Addr)(b:Nat),(w.freeze a n).heap[b]?=(w.heap[b]?).map (λo=>if n=0 then o else if a.block=b then(match o with| .cells c e (lo,hi)=>.cells c e (if lo==hi then(a.off,a.off+n)else(min lo a.off,max hi (a.off+n)))|o=>o)else o):=by intro w a b;unfold World.freeze;grind
 have same:∀(w:aS)(a:Addr),(w.freeze a n).heap.size=w.heap.size/\(w.freeze a n).tape=w.tape/\(w.freeze a n).drawn=w.drawn/\(w.freeze a n).os=w.os/\(w.freeze a n).output=w.output:=by grind[World.freeze]
 obtain⟨N,m,A,L,K⟩:=same w a;obtain⟨M,k,j,i,B⟩:=same w' a';refine⟨ρ,w'.freeze a' n,?_,?_,λes=>⟨#[],by simp[Sem.events,Go.freeze,Sem.runT],Ad⟩⟩
 .refine .ok trivial ⟨λb b' f=>?_,d.one,d.inj,d.nb,by rw[A,j];exact d.sync,by rw[m,A,k,j];exact d.tape,by rw[L,i];exact d.env,by rw[m];exact d.lone,λb b' f hn=>?_⟩
  .obtain⟨o,o',g,v,u⟩:=d.obj b b' f;rw[get,get,g,v];simp only[vdt];refine⟨_,_,Y,Y,?_⟩;by_cases hn:n=0
   .grind
   simp only[hn,vee];by_cases e:a.block=b
   .subst e;have y:a'.block=b':=d.one _ _ _ r.1 f;subst y;simp only[vdh];cases u with
    |@cells c c' el fr aQ H hF=>obtain⟨lo,hi⟩:=fr;have J:=hF.2 F;subst J;rw[r.2.1];exact .cells el H ⟨λ_ x=>x,λ_=>Y⟩
    |map c h=>exact .map c h
    |stringIter s p=>exact .stringIter s p
    |A7 a b c=>exact .A7 a b c
    |mapIter h a b c=>exact .mapIter h a b c
    |loop h=>exact .loop h
    |deferred h=>exact .deferred h
    |taken=>exact .taken
    |number h l=>exact .number h l
    |shut h=>cases o'<;>first|exact h.elim|exact .shut trivial
   .have y:a'.block≠b':=λx=>e (d.inj _ _ _ (x▸r.1) f);grind
  .obtain⟨o,_,g,hd,_,_⟩:=z b b' f hn;rw[get,g];refine .inr (.inr ⟨o,?_,hd⟩);cases hd<;>(grind)
 .refine⟨Ren.le_refl _,λ_ h=>.inl h,AA,λ_ h=>.inl h,λ_ _ h=>.inl h,λb f hn=>?_,i,B,k,AA⟩;rw[get];by_cases I:a'.block=b
  .subst I;obtain⟨_,o',_,_,v,u⟩:=z _ _ r.1 hn;grind
  grind
theorem ahI(b:C.b_):∀(d:Nat)(t u:g4),sameLayout C.Q d t u=sameLayout C.P d t u:=by intro d;induction d with|zero=>intro t u;rfl|succ d a=>grind[sameLayout,A9,WB,Lp]
theorem ahJ(b:C.b_)(fits:TypeId->Bool):∀(d:Nat)(e:g4)(c o n:Nat),rowAt C.Q fits d e c o n=rowAt C.P fits d e c o n:=by intro d;induction d with|zero=>intro e c o n;rfl|succ d a=>grind[rowAt,A9,A_,Lp]
def ahK(b:C.b_):∀(d:Nat)(e:g4)(c o:Nat)(u:g4)(n:Nat),liesAt C.Q d e c o u n=liesAt C.P d e c o u n:=by intro d;induction d with|zero=>intro e c o u n;rfl|succ d a=>grind[liesAt,A9,ahJ,ahI,EG]
def ahL(b:C.b_)(r:dr ρ a a')(u:g4)(n:Nat):ap C ρ (λ_ x y=>x=y) (variablesAt a u n) (variablesAt a' u n):=by unfold variablesAt;refine .bind .program λσ p q d⟨c,hq⟩=>?_;subst c;subst hq;refine .bind (ap.shape (d.1 _ _ r.1)) λg s s' f e=>?_;subst e;cases s with|none=>exact .pure Y|some a2=>exact .pure (by simp only[ahK b,EG b,A_ b,r.2.1])
theorem WW:∀(n:Nat)(ρ:Ren){a a':Addr}(_:dr ρ a a')(acc:ByteArray),ap C ρ (λ_ x y=>x=y) (loadBytes a acc n) (loadBytes a' acc n)
 |0,ρ,a,a',r,acc=>.pure Y
 |n+1,ρ,a,a',r,acc=>by
  unfold loadBytes;refine .bind (ap.load r) λσ v v' b hv=>?_;cases hv with
  |int k m=>cases k<;>first|exact WW n σ ((r.mono b).add 1) _ |exact .stuck
  | _=>exact .stuck
def ahM(d:C.b_)(o:C.upd=true)(ats:uaq)(t:g4){x x':dp}(h:aJ ρ x x'):ap C ρ ar (Builtin.unsafeString_ ats t x) (Builtin.unsafeString_ ats t x'):=by
 obtain⟨l⟩:=x;obtain⟨l'⟩:=x';have hs:=h.size;simp only[veq]at hs;match l,l',hs with
 | [],[],_=>exact .stuck
 | [a],[a'],_=>exact .stuck
 |a::b::c::l,_::_::_::l',_=>exact .stuck
 | [a,b],[a',b'],_=>
  have y:ar ρ a a':=h.get 0 a a' Y Y;have w:ar ρ b b':=h.get 1 b b' Y Y;have key:∀(p f:uan),mJ (dr ρ) p f->ap C ρ ar (Builtin.unsafeString_ ats t #[.pointer p,b]) (Builtin.unsafeString_ ats t #[.pointer f,b']):=by intro p f u;unfold Builtin.unsafeString_;refine .bind (ap.asInt w) λσ n D g e=>?_;subst e;cases cX:ats[0]? with|none=>exact .stuck|some j=>simp only[];refine .ite (λ_=>.bind (R:=λ_ _ _=>False) (.runtimePanic d _) λ_ _ _ _ h=>h.elim) (λ_=>?_);refine .ite (λ_=>.bind (R:=λ_ _ _=>False) .unsupported λ_ _ _ _ h=>h.elim) (λ_=>?_);cases u with|none=>exact .ite (λ_=>.pure (.string _)) (λ_=>.runtimePanic d _)|@some q B hq=>refine .ite (λ_=>.pure (.string _)) (λ_=>?_);refine .bind (ap.elemOf d j) λF e E i v=>?_;subst v;refine .bind (ahL d ((hq.mono g).mono i) e n.toNat) λz c c' k hc=>?_;subst hc;refine .ite (λ_=>?_) (λ_=>.unsupported);refine .bind (WW n.toNat z (((hq.mono g).mono i).mono k) .empty) λA s s' m hs=>?_;subst hs;exact .bind (ap.freeze o ((((hq.mono g).mono i).mono k).mono m) n.toNat) λ_ _ _ _ _=>.pure (.string _)
  cases y with|lu=>exact key none none .none|ptr r=>exact key _ _ (.some r)| _=>exact .stuck
theorem ahO(e:C.b_)(b:C.upd=true)(ats:uaq)(t:g4){cs:uat}{x x':dp}(h:aJ ρ x x'):ap C ρ (po C) (do let d <-(pure {target:=.builtin .unsafeString ats t cs,args:=x}:Sem Deferred);invoke d.target d.args) (do let d <-(pure {target:=.builtin .unsafeString ats t cs,args:=x'}:Sem Deferred);invoke d.target d.args):=
 .bind (R:=λ_ d a=>d={target:=.builtin .unsafeString ats t cs,args:=x}/\a={target:=.builtin .unsafeString ats t cs,args:=x'}) (.pure ⟨Y,Y⟩) λσ d a c hd=>by obtain⟨rfl,rfl⟩:=hd;exact .bind (ahM e b ats t (h.mono c)) λ_ _ _ _ hv=>.pure (.value hv)
end
end
variable{k_:uak}
section
attribute [-simp] Sem.runT_eq
section
variable{C:cH}{ρ:Ren}
def s9(C:cH)(ρ:Ren)(ev k_:uak):Prop:=∀x,f_ C.P x=true->ar ρ (ev x) (k_ x)
theorem s9.mono{σ:Ren}(b:Ren.le ρ σ){ev:uak}(h:s9 C ρ ev k_):s9 C σ ev k_:=λx a=>(h x a).mono b
def s9.args{ev:uak}(h:s9 C ρ ev k_){a:uaw}(f:a.all (f_ C.P)=true):aJ ρ (a.map ev) (a.map k_):=by refine⟨Ad,λi v v' e d=>?_⟩;simp only[vcj,vaj]at e d;obtain⟨x,c,rfl⟩:=e;obtain⟨y,b,rfl⟩:=d;rw[c]at b;cases b;exact h x (vam.1 f x (vbf c))
def s9.Qn{ev:uak}(h:s9 C ρ ev k_){a:Option Operand}(b:a.all (f_ C.P)=true):vQ ρ (a.map ev) (a.map k_):=by cases a with|none=>exact .none|some x=>exact .some (h x AA)
def s9.parts{ev:uak}(h:s9 C ρ ev k_)(b:(ps.all λp=>f_ C.P p.2)=true):cE (rX ρ) (ps.map λ(i,x)=>(i,ev x)).toList (ps.map λ(i,x)=>(i,k_ x)).toList:=
 agG λp a=>h p.2 (vam.1 b p a)
def ahP{f:Fn}(h:WT f=true):s8 ρ f f:=by cases f with|func f=>exact .func f| _=>cases h
def ahQ{ev:uak}(h:s9 C ρ ev k_){c:Call}(hc:EK C.P c=true)(t:g4):ap C ρ zo (resolve ev c t) (resolve k_ c t):=by unfold resolve;simp only[EK,vaf]at hc;have e:=h.args hc.2;obtain⟨a,_⟩:=hc;cases g:c.callee with|builtin b=>rw[g]at a;exact .pure ⟨.builtin b _ _ _ a,e⟩|invoke r n=>grind|value f=>rw[g]at a;have d:=h f a;simp only[];revert d;generalize ev f=v;generalize k_ f=v';intro d;unfold Deferred.ofValue;cases d with|func i m l k j=>exact .pure ⟨.fn i ⟨l,j⟩,aJ.append ⟨m,k⟩ e⟩|nilFunc=>exact .pure ⟨.nil,e⟩| _=>exact .stuck
def ahR(d:C.b_)(h:ar ρ x x'){ev:uak}{o:Oper}{a:uar}(g:o.op=.nilCheck a)(f:ev a=x)(e:k_ a=x'):ap C ρ (po C) (execOp ev o) (execOp k_ o):=by unfold execOp;rw[g];simp only[f,e];have b:=h;cases h with|lu|nilIface|nilFunc=>exact ap.runtimePanic d _|func c=>cases c<;>exact .pure (.value b)| _=>exact .pure (.value b)
def WY(j:C.b_)(q:C.rW)(hF:C.Bf){ev:uak}(h:s9 C ρ ev k_){o:Oper}(g:mK C.P C.upd o.op=true):ap C ρ (po C) (execOp ev o) (execOp k_ o):=by
 cases p:o.op<;>rw[p]at g<;>try exact absurd g Bool.false_ne_true
 case nilCheck x=>exact ahR j (h x g) p Y Y
 all_goals
  unfold execOp;rw[p]
 case move x=>exact .pure (.value (h _ g))
 case assign x=>exact .pure (.value (h _ g))
 case pick c a b=>
  simp only[mK,vaf]at g;exact .bind (ap.asBool (h _ g.1.1)) λσ b b' w e=>by subst e;cases b<;>first|exact .pure (.value ((h _ g.2).mono w))|exact .pure (.value ((h _ g.1.2).mono w))
 case alloc t=>grind[nd,agC]
 case box t x=>exact nd (agD _ (h _ g))
 case build t ps=>exact nd (agJ j q _ (h.parts g))
 case buildSlice t n ps=>exact nd (agL j q _ _ (h.parts g))
 case load t a=>exact nd (agA j _ (h _ g))
 case store t a x=>
  simp only[mK,vaf]at g;exact WU (agB j _ (h _ g.1) (h _ g.2))
 case binOp op t x y u=>
  simp only[mK,vaf]at g;exact nd (.bind (ahv j _ _ _ _ (h _ g.1.2) (h _ g.2)) λσ _ _ w _=>ahw j _ _ g.1.1 ((h _ g.1.2).mono w) ((h _ g.2).mono w))
 case unOp op t x=>exact by simp only[mK,vaf]at g;exact nd (ahp _ g.1 (h _ g.2))
 case makeInterface t x=>exact nd (agV j _ (h _ g))
 case makeFunc fn a b=>
  simp only[mK,vaf]at g;exact nd (.pure (.Hv (ahP g.1.1) (h.args g.1.2) (h.args g.2)))
 case makeSlice t l c=>
  simp only[mK,vaf]at g;exact nd (agW j q _ (h _ g.1) (h _ g.2))
 case slice t x l D m=>
  simp only[mK,vaf]at g;exact nd (agU j _ g.1.1.1.1 (h _ g.1.1.1.2) (h.Qn g.1.1.2) (h.Qn g.1.2) (h.Qn g.2))
 case fieldAddr s x f=>exact nd (agP j _ (h _ g) _)
 case indexAddr t x i=>
  simp only[mK,vaf]at g;exact nd (agQ j _ g.1.1 (h _ g.1.2) (h _ g.2))
 case index t x i=>
  simp only[mK,vaf]at g;exact nd (agS j _ g.1.1 (h _ g.1.2) (h _ g.2))
 case makeMap t r=>
  cases r with|none=>exact nd (agY _)|some r=>cases g
 case lookup t x i ok=>
  simp only[mK,vaf]at g;exact nd (ahb j q _ g.1.1 (h _ g.1.2) (h _ g.2) _)
 case mapEntry t m k=>
  simp only[mK,vaf]at g;exact nd (ahf j q g.1.1.1 _ g.1.1.2 (h _ g.1.2) (h _ g.2))
 case entryStore t m s v=>
  simp only[mK,vaf]at g;exact WU (ahj g.1.1.1 _ (h _ g.1.1.2) (h _ g.1.2) (h _ g.2))
 case extract t i=>exact nd (agZ (h _ g) _)
 case call c=>
  simp only[mK,Bool.or_eq_true,vaf]at g;rcases g with g|⟨z,g⟩
  .exact .bind (ahQ h g _) λσ d B _ hd=>HJ j q hF hd.target hd.args
  .simp only[HI,vaf]at g;have A:=h.args g.2;grind[resolve,ahO]
 case panic x=>exact nd (ahB j (h _ g))
end
end
variable{f f':Frame}{es:uao}
section
attribute [-simp] Sem.runT_eq
def jR(P:b4)(upd:Bool):Code->Bool
 | .skip| .exit _ | .label _ | .goto _ | .ret| .refuse _=>true
 | .region _ ops _=>ops.all λo=>mK P upd o.op
 | .seq a b=>jR P upd a&&jR P upd b
 | .cond c a b=>f_ P c&&jR P upd a&&jR P upd b
 | .block _ b| .loop b| .scope b=>jR P upd b
 | .rangeFunc f _ a b=>f_ P f&&jR P upd a&&jR P upd b
def cH.Qp(C:cH):Prop:=∀c,C.lV c↔jR C.P C.upd c=true
inductive rZ(C:cH)(ρ:Ren):Item->Item->Prop
 |code {c:Code} (h:C.lV c):rZ C ρ (.code c) (.code c)
 |inBlock (id:Nat):rZ C ρ (.inBlock id) (.inBlock id)
 |inLoop {c:Code} (h:C.lV c):rZ C ρ (.inLoop c) (.inLoop c)
 |inScope {c:Code} (h:C.lV c):rZ C ρ (.inScope c) (.inScope c)
 |inRegion {ops:eY} (h:∀o∈ops,mK C.P C.upd o.op=true) (todo:uaa):rZ C ρ (.inRegion ops todo) (.inRegion ops todo)
 |inRangeFunc {l l':Nat} (h:ρ.rel l l'):rZ C ρ (.inRangeFunc l) (.inRangeFunc l')
 |endRangeFunc {l l':Nat} (h:ρ.rel l l'):rZ C ρ (.endRangeFunc l) (.endRangeFunc l')
 |beginRound:rZ C ρ .beginRound .beginRound
theorem rZ.mono{C:cH}{ρ σ:Ren}(c:Ren.le ρ σ){a b:Item}(h:rZ C ρ a b):rZ C σ a b:=by cases h with|code h=>exact .code h|inBlock id=>exact .inBlock id|inLoop h=>exact .inLoop h|inScope h=>exact .inScope h|inRegion h t=>exact .inRegion h t|inRangeFunc h=>exact .inRangeFunc (c.1 _ _ h)|endRangeFunc h=>exact .endRangeFunc (c.1 _ _ h)|beginRound=>exact .beginRound
abbrev mM(C:cH)(ρ:Ren):=cE (rZ C ρ)
theorem mM.mono{C:cH}{ρ σ:Ren}(c:Ren.le ρ σ){a b:il}(h:mM C ρ a b):mM C σ a b:=cE.mono (λ_ _ x=>x.mono c) h
structure Bg(ρ:Ren)(e e':PanicEntry):Prop where
 v:ar ρ e.v e'.v
 recovered:e.recovered=e'.recovered
 goexit:e.goexit=e'.goexit
theorem Bg.mono{ρ σ:Ren}(c:Ren.le ρ σ){a b:PanicEntry}(h:Bg ρ a b):Bg σ a b:=⟨h.v.mono c,h.recovered,h.goexit⟩
inductive ug(ρ:Ren):FrameMode->FrameMode->Prop
 |run:ug ρ .run .run
 |returning:ug ρ .returning .returning
 |panicking {l l':List PanicEntry} (h:cE (Bg ρ) l l'):ug ρ (.panicking l) (.panicking l')
theorem ug.mono{ρ σ:Ren}(c:Ren.le ρ σ){a b:FrameMode}(h:ug ρ a b):ug σ a b:=by cases h with|run=>exact .run|returning=>exact .returning|panicking h=>exact .panicking (cE.mono (λ_ _ x=>x.mono c) h)
structure et(C:cH)(ρ:Ren)(f f':Frame):Prop where
 fn:f.fn=f'.fn
 known:∃fn c,C.P.funcs[f.fn]?=some fn/\fn.body=some c
 tmps:aJ ρ f.tmps f'.tmps
 todo:mM C ρ f.todo f'.todo
 defers:qU ρ f.defers f'.defers
 mode:ug ρ f.mode f'.mode
 kind:f.kind=f'.kind
 plain:f.kind=.normal\/f.kind=.deferred
 roundOf:mJ ρ.rel f.roundOf f'.roundOf
theorem et.mono{C:cH}{ρ σ:Ren}(c:Ren.le ρ σ){a b:Frame}(h:et C ρ a b):et C σ a b:=
 ⟨h.fn,h.known,h.tmps.mono c,mM.mono c h.todo,qU.mono c h.defers,h.mode.mono c,h.kind,h.plain,h.roundOf.mono λ_ _ x=>c.1 _ _ x⟩
abbrev iX(C:cH)(ρ:Ren):=cE (et C ρ)
theorem iX.mono{C:cH}{ρ σ:Ren}(c:Ren.le ρ σ){a b:fV}(h:iX C ρ a b):iX C σ a b:=cE.mono (λ_ _ x=>x.mono c) h
def iY:Frame->List Frame->Prop
 |f,[]=>f.kind=.normal/\f.roundOf=none
 | _,c::cs=>iY c cs
def a0(fr:Frame)(cs:fV):Goroutine:={frame:=fr,callers:=cs,status:=.running,dying:=none}
def iI(C:cH)(S:Sync)(ρ:Ren)(b0 base:fV)(w':aS)(g1:uah)(w1:aS)(s':GStep):Prop:=
 ∃σ r4 cs1 xx EM oy es',g1=a0 r4 (cs1++b0)/\s'=.go (a0 xx (EM++base)) oy es'/\et C σ r4 xx/\iX C σ cs1 EM/\iY r4 cs1/\eL C S σ w1 oy/\Grow ρ σ w' oy/\∀e∈es',vO σ e
def xy{p:b4}{fn:uaj}{e:Event}(h:e∈seen p fn es):e∈es:=by
 unfold seen at h;obtain⟨l⟩:=es;simp only[List.foldl_toArray]at h;suffices key:∀(l:ubi)(q:Bool)(k:uao),e∈(l.foldl (λ(x:Bool×Array Event)(e:Event)=>match e.loc with
  | .mark (.extern f)=>((p.funcs[f]?).any (·.norace),x.2)
  | _=>(x.1,if x.1&& !e.sync then x.2 else x.2.push e)) (q,k)).2->e∈k\/e∈l by
  have:=key l _ _ h;grind
 intro l;induction l with|nil=>grind|cons x l a=>grind
section
variable{C:cH}{ρ:Ren}
theorem et.eval(h:et C ρ f f')(hg:∀g,g<=C.P.globals.size->ρ.rel g g):s9 C ρ f.eval f'.eval:=by intro x a;cases x with|tmp t=>exact h.tmps.getD (.undef ρ) t|const v=>exact(WS 4 v a).rel ρ|global g=>exact .ptr ⟨hg g (vdq (vdv a)),Y,Y⟩|func f=>exact .Hv (.func f) (.nil ρ) (.nil ρ)
theorem et.finish(h:et C ρ f f')(hv:ar ρ v v'):et C ρ (f.finish v) (f'.finish v'):=by
 have ht:=h.todo;unfold Frame.finish;revert ht;cases g:f.todo with
 |nil=>intro ht;cases b:f'.todo with|nil=>grind|cons a l=>rw[b]at ht;cases ht
 |cons i k=>
  intro ht;cases b:f'.todo with
  |nil=>rw[b]at ht;cases ht
  |cons i' k'=>
   rw[b]at ht;cases ht with
   |cons hi hk=>
    cases hi with
    |inRegion c todo=>cases todo with|nil=>grind|cons n rest=>simp only[];refine⟨h.fn,h.known,?_,.cons (.inRegion c rest) hk,h.defers,h.mode,h.kind,h.plain,h.roundOf⟩;cases((_:Option Oper).bind (·.dst))with|none=>exact h.tmps|some d=>exact h.tmps.set hv d
    |inRangeFunc e=>exact⟨h.fn,h.known,h.tmps,.cons (.endRangeFunc e) hk,h.defers,h.mode,h.kind,h.plain,h.roundOf⟩
    |beginRound=>exact⟨h.fn,h.known,h.tmps,hk,h.defers,h.mode,h.kind,h.plain,h.roundOf⟩
    | _=>exact h
end
end
variable{g:Frame}{cs:fV}
section
attribute [-simp] Sem.runT_eq
def iY.push(h:iY f cs):iY g (f::cs):=h
def iY.Qq{c:Frame}(h:iY f (c::cs)):iY c cs:=h
def iY.same(h:iY f cs)(hk:g.kind=f.kind)(a:g.roundOf=f.roundOf):iY g cs:=by cases cs with|nil=>exact⟨hk.trans h.1,a.trans h.2⟩|cons c cs=>exact h
def zv(f:Frame)(v:Value):(f.finish v).kind=f.kind/\(f.finish v).roundOf=f.roundOf:=by unfold Frame.finish;grind
def s_(f:Frame)(c:List PanicEntry):(f.raise c).kind=f.kind/\(f.raise c).roundOf=f.roundOf:=by unfold Frame.raise;grind
section
variable{C:cH}{ρ:Ren}
theorem et.raise(h:et C ρ f f'){c c':List PanicEntry}(hc:cE (Bg ρ) c c'):et C ρ (f.raise c) (f'.raise c'):=by have a:=h.mode;unfold Frame.raise;revert a;cases f.mode with|run=>intro a;generalize f'.mode=m' at a;cases a;exact⟨h.fn,h.known,h.tmps,h.todo,h.defers,.panicking hc,h.kind,h.plain,h.roundOf⟩|returning=>intro a;generalize f'.mode=m' at a;cases a;exact⟨h.fn,h.known,h.tmps,h.todo,h.defers,.panicking hc,h.kind,h.plain,h.roundOf⟩|panicking l=>intro a;generalize f'.mode=m' at a;cases a with|panicking b=>exact⟨h.fn,h.known,h.tmps,h.todo,h.defers,.panicking (hc.append b),h.kind,h.plain,h.roundOf⟩
def et.xz(h:et C ρ f f'){t a:il}(ht:mM C ρ t a):et C ρ {f with todo:=t} {f' with todo:=a}:=⟨h.fn,h.known,h.tmps,ht,h.defers,h.mode,h.kind,h.plain,h.roundOf⟩
def et.Bh(h:et C ρ f f'){d a:List Deferred}(hd:qU ρ d a):et C ρ {f with defers:=d} {f' with defers:=a}:=⟨h.fn,h.known,h.tmps,h.todo,hd,h.mode,h.kind,h.plain,h.roundOf⟩
def et.uh(h:et C ρ f f'){m m':FrameMode}(a:ug ρ m m'):et C ρ {f with mode:=m} {f' with mode:=m'}:=⟨h.fn,h.known,h.tmps,h.todo,h.defers,a,h.kind,h.plain,h.roundOf⟩
def aJ.ahT(n:Nat):aJ ρ (Array.replicate n undef) (Array.replicate n undef):=by
 refine⟨Y,λi v v' a b=>?_⟩;rw[a]at b;cases b;rw[Array.getElem?_replicate]at a;split at a
 .cases a;exact .undef ρ
 grind
theorem et.enter(hF:C.Bf){f:uaj}{fn:Func}{c:Code}{a a':dp}(h:aJ ρ a a')(b:C.P.funcs[f]?=some fn)(d:fn.body=some c){k:CallKind}(hk:k=.normal\/k=.deferred):
 et C ρ (Frame.enter C.P f a k) (Frame.enter C.Q f a' k):=by
 obtain⟨hq,hok,_⟩:=hF.body f fn c b d;unfold Frame.enter;simp only[b,hq,d,vdt,vae,Option.bind_some,h.size];exact⟨Y,⟨fn,c,b,d⟩,h.append (.ahT _),.cons (.code hok) .nil,.nil,.run,Y,hk,.none⟩
theorem et.round{f:uaj}(d:∃fn c,C.P.funcs[f]?=some fn/\fn.body=some c){t a:dp}(b:ρ.rel l l')(ht:aJ ρ t a)(g:C.lV assign)(e:C.lV body){k:CallKind}(hk:k=.normal\/k=.deferred):
 et C ρ (Frame.round l f t assign body k) (Frame.round l' f a assign body k):=
 ⟨Y,d,ht,.cons (.code g) (.cons .beginRound (.cons (.code e) .nil)),.nil,.run,Y,hk,.some b⟩
end
end
variable{gv:uao}
def zw{s:GStep}{g:uah}{w:aS}(h:GStep.after es s=.go g w gv):∃a,s=.go g w a:=by
 cases s<;>simp[GStep.after]at h
 simp_all
variable{fr:Frame}{g1:uah}
theorem Qr{ps:List ByteArray}{m:String}{b:Bool}{w w1:aS}(h:dieOf fr ps m b w=.go g1 w1 es):g1.dying≠none:=by grind[dieOf]
theorem W4{d:Option Dying}{m:String}{w w1:aS}(h:endFatal P fr cs d m w=.go g1 w1 es):g1.dying≠none:=by unfold endFatal at h;grind[Qr]
variable{aQ:Frame}{a9 b0:fV}
section
variable{C:cH}{S:Sync}{ρ:Ren}
def mM.ahU{t a:il}(h:mM C ρ t a):(match t with| .call _ true _ _::_=>CallKind.wrapped| _=>.normal)=.normal/\(match a with| .call _ true _ _::_=>CallKind.wrapped| _=>.normal)=.normal:=by cases h with|nil=>grind|cons hi _=>cases hi<;>exact⟨Y,Y⟩
def Qs(hF:C.Bf){base:fV}{w w':aS}{s s':Sem Next}{w1:aS}(n:et C ρ fr aQ)(p:iX C ρ cs a9)(j:iY fr cs)(H:eL C S ρ w w')(hs:ap C ρ (po C) s s')(N:C.P.follows .rangeFuncRecover=true\/fr.roundOf=none)(R:C.Q.follows .rangeFuncRecover=C.P.follows .rangeFuncRecover)(h:stepG.apply C.P true fr (cs++b0) none s w=.go g1 w1 gv)(hrun:g1.status=.running)(D:g1.dying=none)(l:(iH (stepG.apply C.Q true aQ (a9++base) none s' w')).drawn<=S.bound):iI C S ρ b0 base w' g1 w1 (stepG.apply C.Q true aQ (a9++base) none s' w'):=by
 have A:=mM.ahU n.todo;have kJ:Good (s.run C.P w):=by
  unfold stepG.apply at h;simp only[vau,vdh]at h;obtain⟨F,a⟩:=zw h;cases y:s.run C.P w with
  |ok Q B=>trivial
  |halt x B=>
   rw[y]at a;cases x with
   |panic v=>trivial
   |goexit=>trivial
   |blocked=>grind
   |waiting=>grind
   |unsupported u=>cases u<;>first|trivial|(simp at a)
   |exit c=>grind
   |fatal m=>grind[W4]
   |throw m=>exact absurd D (Qr a)
   |stuck m=>grind
 obtain⟨σ,T,o,f,M⟩:=hs S w w' H kJ (vad (EL C.Q aQ (a9++base) none s' w') l);obtain⟨d,hd,E⟩:=M #[];rw[vdc]at hd;have z:=f.le;have i:=n.mono z;have g:=iX.mono z p;have evs:∀e∈seen C.Q aQ.fn d,vO σ e:=λe K=>E e (xy K);unfold stepG.apply at h⊢;simp only[vau,vdh]at h⊢;rw[hd];obtain⟨F,a⟩:=zw h;clear h;generalize y:s.run C.P w=r at a o;generalize U:s'.run C.Q w'=r' at o⊢;have early:(aQ.kind== .early)=false:=by rcases n.plain with x|x<;>rw[<-n.kind,x]<;>rfl
 cases o with
 |@ok _ _ P _ hn b=>
  cases hn with
  |value hv=>simp only[vdj]at a;obtain⟨rfl,rfl,_⟩:=a;simp only[early];exact⟨σ,_,cs,_,a9,_,_,Y,Y,i.finish hv,g,j.same (zv _ _).1 (zv _ _).2,b,f,AA⟩
  |skip=>simp only[vdj]at a;obtain⟨rfl,rfl,_⟩:=a;simp only[early];exact⟨σ,_,cs,_,a9,_,_,Y,Y,i.finish (.undef σ),g,j.same (zv _ _).1 (zv _ _).2,b,f,AA⟩
  |enter q I l=>
   simp only[vdj]at a;obtain⟨rfl,rfl,_⟩:=a;simp only[early];have t:∀k k':CallKind,k=.normal->k'=.normal->et C σ (Frame.enter C.P _ _ k) (Frame.enter C.Q _ _ k'):=λk k' e L=>by subst e;subst L;exact .enter hF q I l J1
   exact⟨σ,_,fr::cs,_,aQ::a9,_,_,Y,Y,t _ _ A.1 A.2,.cons i g,j.push,b,f,AA⟩
  |round J O ht q l=>simp only[vdj]at a;obtain⟨rfl,rfl,_⟩:=a;simp only[early];exact⟨σ,_,fr::cs,_,aQ::a9,_,_,Y,Y,.round J O ht q l J1,.cons i g,j.push,b,f,AA⟩
 |panic hv b=>simp only[vdj]at a;obtain⟨rfl,rfl,_⟩:=a;simp only[early];exact⟨σ,_,cs,_,a9,_,_,Y,Y,i.raise (.cons ⟨hv,Y,Y⟩ .nil),g,j.same (s_ _ _).1 (s_ _ _).2,b,f,AA⟩
 |goexit b=>simp only[vdj]at a;obtain⟨rfl,rfl,_⟩:=a;simp only[early];exact⟨σ,_,cs,_,a9,_,_,Y,Y,i.raise (.cons ⟨.undef σ,Y,Y⟩ .nil),g,j.same (s_ _ _).1 (s_ _ _).2,b,f,AA⟩
end
section
section
variable{C:cH}{S:Sync}{ρ:Ren}
structure cH.Good(C:cH):Prop where
 same:C.b_
 EO:C.rW
 funcs:C.Bf
 oC:C.Qp
 Qt:C.P.follows .rangeFuncRecover=true
theorem cH.Good.follows(h:C.Good)(d:Departure):C.Q.follows d=C.P.follows d:=by unfold Tables.follows;rw[h.same]
def ahW(id:Nat){k k':il}(h:mM C ρ k k'):mJ (mM C ρ) (exitTo id k) (exitTo id k'):=by
 induction h with
 |nil=>exact .none
 |cons hi hk a=>
  cases hi with
  |inBlock b=>
   simp only[exitTo];split
   .exact .some hk
   grind
  | _=>exact a
def ahY(hc:C.Qp):∀(c:Code)(l:Nat)(r:Code),C.lV c->findLabel c l=some r->C.lV r:=by
 intro c;induction c with
 |seq a b f e=>intro l r hok h;rw[hc]at hok;simp only[jR,vaf]at hok;simp only[findLabel]at h;cases d:findLabel a l with|some rest=>rw[d]at h;cases h;have:=f l rest ((hc a).2 hok.1) d;rw[hc]at this⊢;simp_all[jR]|none=>rw[d]at h;exact e l r ((hc b).2 hok.2) h
 |label l'=>
  intro l r _ h;simp only[findLabel]at h;split at h
  .cases h;rw[hc];rfl
  grind
 | _=>intro l r _ h;cases h
def ahZ(hc:C.Qp)(l:Nat){k k':il}(h:mM C ρ k k'):mJ (mM C ρ) (gotoIn l k) (gotoIn l k'):=by
 induction h with
 |nil=>exact .none
 |cons hi hk a=>
  cases hi with
  |@inScope c hok=>simp only[gotoIn];cases b:findLabel c l with|some r=>exact .some (.cons (.code (ahY hc c l r hok b)) (.cons (.inScope hok) hk))|none=>exact a
  | _=>exact a
def W6{t b:dp}(h:aJ ρ t b)(ops:eY):yielded ops t=yielded ops b:=by
 funext j
 unfold yielded;cases((ops[j]?).bind (·.dst))with|none=>rfl|some d=>simp only[Option.bind_some];cases ht:t[d]? with|none=>rw[h.none ht]|some v=>obtain⟨v',a,c⟩:=h.some ht;rw[a];cases c<;>rfl
def r6{a c:Frame}{base:fV}{w w':aS}(b:iX C ρ cs a9)(f:iY fr cs)(d:eL C S ρ w w')(hk:a.kind=fr.kind)(e:a.roundOf=fr.roundOf)(g:et C ρ a c):iI C S ρ b0 base w' (a0 a (cs++b0)) w (.go (a0 c (a9++base)) w'):=
 ⟨ρ,_,cs,_,a9,_,_,Y,Y,g,b,f.same hk e,d,.refl _ _,Ad⟩
def W7{main main':Bool}{c c':Frame}{base:fV}{w w':aS}{w1:aS}(o:et C ρ fr aQ)(hc:et C ρ c c')(d:iX C ρ cs a9)(i:iY c cs)(g:eL C S ρ w w')(hv:ar ρ v v')(h:doReturn C.P main fr (c::(cs++b0)) none v w=.go g1 w1 gv):iI C S ρ b0 base w' g1 w1 (doReturn C.Q main' aQ (c'::(a9++base)) none v' w'):=by
 unfold doReturn at h⊢;rcases o.plain with hk|hk
 .have n:=o.kind.symm.trans hk;simp only[hk,vdj]at h;obtain⟨rfl,rfl,_⟩:=h;simp only[n];exact⟨ρ,_,cs,_,a9,_,_,Y,Y,hc.finish hv,d,i.same (zv _ _).1 (zv _ _).2,g,.refl _ _,Ad⟩
 .have n:=o.kind.symm.trans hk;simp only[hk,vdj]at h;obtain⟨rfl,rfl,_⟩:=h;simp only[n];have j:=hc.mode;generalize H:c.mode=m at j;generalize E:c'.mode=m' at j;have keep:iI C S ρ b0 base w' (a0 c (cs++b0)) w (.go (a0 c' (a9++base)) w'):=r6 d i g Y Y hc;cases j with
  |run=>exact keep
  |returning=>exact keep
  |panicking k=>
   cases k with
   |nil=>exact keep
   |@cons e A r q z y=>
    obtain⟨ev,p,F⟩:=e;obtain⟨k_,D,B⟩:=A;obtain⟨u,t,s⟩:=z;simp only at u t s;subst t;subst s;cases p with
    |false=>exact keep
    |true=>
     simp only[];have drop:∀(l l':List PanicEntry),cE (Bg ρ) l l'->cE (Bg ρ) (l.dropWhile (!·.goexit)) (l'.dropWhile (!·.goexit)):=by
      intro l l' k;induction k with
      |nil=>exact .nil
      |cons f ht x=>
       simp only[List.dropWhile_cons,f.goexit];split
       .exact x
       .exact .cons f ht
     have hd:=drop _ _ y;generalize r.dropWhile (!·.goexit)=a at hd;generalize q.dropWhile (!·.goexit)=b at hd;cases hd with|nil=>exact r6 (fr:=c) d i g Y Y (hc.uh .returning)|cons f ht=>exact r6 (fr:=c) d i g Y Y (hc.uh (.panicking (.cons f ht)))
theorem iI.after{w' g:aS}{σ:Ren}{base:fV}{w1:aS}{s':GStep}(l:Grow ρ σ w' g)(k:∀e∈es,vO σ e)(h:iI C S σ b0 base g g1 w1 s'):iI C S ρ b0 base w' g1 w1 (GStep.after es s'):=by
 obtain⟨p,a,b,c,d,e,f,o,rfl,n,m,r,q,i,s⟩:=h;refine⟨p,a,b,c,d,e,es++f,o,Y,n,m,r,q,l.trans i,λx j=>?_⟩;rcases ved.1 j with y|y
 .exact(k x y).mono i.le
 grind
