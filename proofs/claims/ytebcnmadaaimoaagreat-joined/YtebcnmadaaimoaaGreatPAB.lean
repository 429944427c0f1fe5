import Derived.Test.YtebcnmadaaimoaaGreatPAA
set_option linter.all false
set_option maxRecDepth 100000
set_option maxHeartbeats 16000000
namespace Go.Proofs.YtebcnmadaaimoaaGreat
def vah:=@Go.Conc.Goes.stop
def vau:=@Go.Sem.runT_eq
def vay:=@Go.Conc.stepG_value
def vbj:=@Go.Conc.getElem?_append_cases
def vbt:=@Go.Result.andThen_ok
def vcp:=@Go.Calls.mono
def vct:=@Go.Frame.finish_at
def vdj:=@Go.Conc.stepG_none
def vdk:=@Go.GStep.go.injEq
def vdt:=@Go.Sem.run_bind
def veb:=@Go.Conc.stepG_region_end
def veg:=@Go.Conc.goes_go
def veh:=@Go.Conc.stepG_seq
namespace az
inductive cL{ap aK:Type}(R:ap->aK->Prop):List ap->List aK->Prop
 |nil:cL R [] []
 |cons {a:ap} {b:aK} {l:List ap} {m:List aK} (h:R a b) (t:cL R l m):cL R (a::l) (b::m)
theorem cL.mono{ap aK:Type}{R S:ap->aK->Prop}(d:∀a b,R a b->S a b){l:List ap}{m:List aK}(h:cL R l m):cL S l m:=by induction h with|nil=>exact .nil|cons h _ c=>exact .cons (d _ _ h) c
theorem cL.append{ap aK:Type}{R:ap->aK->Prop}{l l2:List ap}{m a:List aK}(h:cL R l m)(k:cL R l2 a):cL R (l++l2) (m++a):=by induction h with|nil=>exact k|cons h _ b=>exact .cons h b
theorem cL.length{ap aK:Type}{R:ap->aK->Prop}{l:List ap}{m:List aK}(h:cL R l m):l.length=m.length:=by induction h with|nil=>rfl|cons _ _ a=>grind
def cL.BT{ρ:Ren}{a a':df}(h:aM ρ a a'):cL (ar ρ) a.toList a'.toList:=by obtain⟨l⟩:=a;obtain⟨m⟩:=a';simp only;induction l generalizing m with|nil=>have:=h.size;simp at this;have:m=[]:=List.length_eq_zero_iff.1 this.symm;subst this;exact .nil|cons x l c=>cases m with|nil=>have:=h.size;grind|cons y m=>refine .cons (h.get 0 x y Ab Ab) (c m ⟨by have:=h.size;grind,λi v v' a b=>h.get (i+1) v v' AF AF⟩)
def aM.LD{ρ:Ren}{l m:uad}(h:cL (ar ρ) l m):aM ρ l.toArray m.toArray:=by induction h with|nil=>exact .nil ρ|@cons a b l m h _ c=>have e:∀(x:Value)(l:uad),(x::l).toArray=#[x]++l.toArray:=λx l=>Ab;grind[aM.one,append]
def Qe:Builtin->Bool
 | .append| .cap| .copy| .len=>true
 | _=>false
inductive uM(ρ:Ren):Target->Target->Prop
 |fn {f f':Fn} {c c':df} (h:tv ρ f f') (k:aM ρ c c'):uM ρ (.fn f c) (.fn f' c')
 |nil:uM ρ .nil .nil
 |builtin (b:Builtin) (ats:uar) (t:uaa) (cs:uat) (hb:Qe b=true):uM ρ (.builtin b ats t cs) (.builtin b ats t cs)
 |collected {r r':Nat} (h:ρ.rel r r'):uM ρ (.collected r) (.collected r')
structure z8(ρ:Ren)(d d':Deferred):Prop where
 target:uM ρ d.target d'.target
 args:aM ρ d.args d'.args
theorem uM.mono{ρ σ:Ren}(c:Ren.le ρ σ){a a':Target}(h:uM ρ a a'):uM σ a a':=by cases h with|fn h k=>exact .fn (h.mono c) (k.mono c)|nil=>exact .nil|builtin b ats t cs d=>exact .builtin b ats t cs d|collected h=>exact .collected (c.1 _ _ h)
theorem z8.mono{ρ σ:Ren}(b:Ren.le ρ σ){a a':Deferred}(h:z8 ρ a a'):z8 σ a a':=⟨h.target.mono b,h.args.mono b⟩
abbrev rG(ρ:Ren):List Deferred->List Deferred->Prop:=cL (z8 ρ)
theorem rG.mono{ρ σ:Ren}(b:Ren.le ρ σ){a a':List Deferred}(h:rG ρ a a'):rG σ a a':=cL.mono (λ_ _ x=>x.mono b) h
structure rH(ρ:Ren)(e e':MapEntry):Prop where
 key:ar ρ e.key e'.key
 val:ar ρ e.val e'.val
 born:e.born=e'.born
theorem rH.mono{ρ σ:Ren}(b:Ren.le ρ σ){a a':MapEntry}(h:rH ρ a a'):rH σ a a':=⟨h.key.mono b,h.val.mono b,h.born⟩
def xL(fr:ubu)(i:Nat):Prop:=fr.1<=i/\i<fr.2
def LF:Obj->Prop
 | .stringIter .. | .mapIter .. | .loop _ | .deferred _ | .coro _ | .finalizers .. =>True
 | _=>False
structure cM where
 P:cf
 Q:cf
 mg:Code->Prop
 upd:Bool
structure H2(C:cM)(ρ:Ren)(l l':Loop):Prop where
 state:l.state=l'.state
 pending:l.pending=l'.pending
 LG:∀c,l.pending=some c->C.mg c
 fn:l.fn=l'.fn
 known:∃fn c,C.P.funcs[l.fn]?=some fn/\fn.body=some c
 tmps:aM ρ l.tmps l'.tmps
 params:l.params=l'.params
 assign:l.assign=l'.assign
 H3:C.mg l.assign
 body:l.body=l'.body
 H4:C.mg l.body
 defers:ρ.rel l.defers l'.defers
theorem H2.mono{C:cM}{ρ σ:Ren}(b:Ren.le ρ σ){a a':Loop}(h:H2 C ρ a a'):H2 C σ a a':=
 ⟨h.state,h.pending,h.LG,h.fn,h.known,h.tmps.mono b,h.params,h.assign,h.H3,h.body,h.H4,b.1 _ _ h.defers⟩
inductive hP(C:cM)(ρ:Ren):Obj->Obj->Prop
 |cells {c c':df} (elem:uaa) {fr aP:ubu} (h:aM ρ c c') (hf:(∀i,xL aP i->xL fr i)/\(C.upd=true->aP=fr)):hP C ρ (.cells c elem fr) (.cells c' elem aP)
 |map {es es':Array MapEntry} (clock:Nat) (h:cL (rH ρ) es.toList es'.toList):hP C ρ (.map es clock) (.map es' clock)
 |stringIter (s:ByteArray) (p:Nat):hP C ρ (.stringIter s p) (.stringIter s p)
 |BU (since:Nat) (seen:Array Nat) (st:Nat):hP C ρ (.mapIter none since seen st) (.mapIter none since seen st)
 |mapIter {m m':Nat} (h:ρ.rel m m') (since:Nat) (seen:Array Nat) (st:Nat):hP C ρ (.mapIter (some m) since seen st) (.mapIter (some m') since seen st)
 |loop {l l':Loop} (h:H2 C ρ l l'):hP C ρ (.loop l) (.loop l')
 |deferred {l l':List Deferred} (h:rG ρ l l'):hP C ρ (.deferred (some l)) (.deferred (some l'))
 |taken:hP C ρ (.deferred none) (.deferred none)
 |number {a a':Addr} (h:dA ρ a a') (BV:Bool):hP C ρ (.number a BV) (.number a' BV)
 |shut {o':Obj} (h:LF o'):hP C ρ (.coro none) o'
theorem hP.mono{C:cM}{ρ σ:Ren}(d:Ren.le ρ σ){a a':Obj}(h:hP C ρ a a'):hP C σ a a':=by cases h with|cells e h f=>exact .cells e (h.mono d) f|map c h=>exact .map c (cL.mono (λ_ _ x=>x.mono d) h)|stringIter s p=>exact .stringIter s p|BU a b c=>exact .BU a b c|mapIter h a b c=>exact .mapIter (d.1 _ _ h) a b c|loop h=>exact .loop (h.mono d)|deferred h=>exact .deferred (h.mono d)|taken=>exact .taken|number h l=>exact .number (h.mono d) l|shut h=>exact .shut h
structure Sync where
 a:Nat
 b:Nat
 bound:Nat
 T:Nat->Question->Nat
inductive E_:Obj->Prop
 |coro:E_ (.coro none)
 |number (a:Addr) (l:Bool):E_ (.number a l)
structure eI(C:cM)(S:Sync)(ρ:Ren)(w w':aL):Prop where
 obj:∀b b',ρ.rel b b'->∃o o',w.heap[b]?=some o/\w'.heap[b']?=some o'/\hP C ρ o o'
 one:∀a b b',ρ.rel a b->ρ.rel a b'->b=b'
 inj:∀a a' b,ρ.rel a b->ρ.rel a' b->a=a'
 nD:∀g,g<=C.P.globals.size->ρ.rel g g
 sync:w.drawn+S.b=w'.drawn+S.a
 tape:∀j q,w'.drawn+j<S.bound->w.tape (w.drawn+j) q=w'.tape (w'.drawn+j) q
 env:w.os.env=w'.os.env
 lone:w.tape=S.T
 still:∀b b',ρ.rel b b'->¬ρ.mine b'->(C.upd=false/\∃c e fr,w.heap[b]?=some (.cells c e fr)/\∀i,i<c.size->xL fr i)\/(C.upd=false/\∃es k,w.heap[b]?=some (.map es k))\/∃o,w.heap[b]?=some o/\E_ o
def wu(ρ:Ren)(e:Event):Prop:=
 match e.loc with
 | .cell a=>(∃b,ρ.rel b a.block)/\(e.write=true->ρ.mine a.block)/\e.sync=false
 | .obj r=>(∃b,ρ.rel b r)/\(e.write=true->ρ.mine r)/\e.sync=false
 | .mark .noRoom| .mark (.extern _)| .output=>True
 | _=>False
theorem wu.mono{ρ σ:Ren}(b:Ren.le ρ σ){e:Event}(h:wu ρ e):wu σ e:=by obtain⟨l,wr,c⟩:=e;unfold wu at h⊢;cases l with|cell a=>exact⟨h.1.imp λ_ x=>b.1 _ _ x,λx=>b.2 _ (h.2.1 x),h.2.2⟩|obj a=>exact⟨h.1.imp λ_ x=>b.1 _ _ x,λx=>b.2 _ (h.2.1 x),h.2.2⟩|mark m=>grind|output=>exact h|goroutines=>exact h
structure Grow(ρ σ:Ren)(w' lS:aL):Prop where
 le:Ren.le ρ σ
 back:∀b,σ.mine b->ρ.mine b\/w'.heap.size<=b
 size:w'.heap.size<=lS.heap.size
 low:∀b,σ.mine b->ρ.mine b\/b<lS.heap.size
 old:∀a b,σ.rel a b->ρ.rel a b\/w'.heap.size<=b
 kept:∀b,b<w'.heap.size->¬ρ.mine b->lS.heap[b]?=w'.heap[b]?
 os:lS.os=w'.os
 output:lS.output=w'.output
 tape:lS.tape=w'.tape
 drawn:w'.drawn<=lS.drawn
theorem Grow.refl(ρ:Ren)(w:aL):Grow ρ ρ w w:=⟨Ren.le_refl _,λ_ h=>.inl h,vac _,λ_ h=>.inl h,λ_ _ h=>.inl h,λ_ _ _=>U,U,U,U,vac _⟩
theorem Grow.trans{ρ σ f:Ren}{w w1 d:aL}(h:Grow ρ σ w w1)(k:Grow σ f w1 d):Grow ρ f w d:=
 ⟨Ren.le_trans h.le k.le,λb x=>(k.back b x).elim (λy=>h.back b y) (λy=>.inr (vad h.size y)),vad h.size k.size,
  λb x=>(k.low b x).elim (λy=>(h.low b y).imp id λz=>vap z k.size) .inr,
  λa b x=>(k.old a b x).elim (λy=>h.old a b y) (λy=>.inr (vad h.size y)),
  λb c e=>by rw[k.kept b (vap c h.size) (λy=>(h.back b y).elim e (λz=>absurd c (Nat.not_lt.2 z)))];exact h.kept b c e,
  k.os.trans h.os,k.output.trans h.output,k.tape.trans h.tape,vad h.drawn k.drawn⟩
inductive xM{ap aK:Type}(C:cM)(S:Sync)(ρ:Ren)(R:Ren->ap->aK->Prop):Result ap->Result aK->aL->Prop
 |ok {a:ap} {b:aK} {w w':aL} (h:R ρ a b) (hw:eI C S ρ w w'):xM C S ρ R (.ok a w) (.ok b w') w'
 |panic {v v':Value} {w w':aL} (h:ar ρ v v') (hw:eI C S ρ w w'):xM C S ρ R (.halt (.panic v) w) (.halt (.panic v') w') w'
 |goexit {w w':aL} (hw:eI C S ρ w w'):xM C S ρ R (.halt .goexit w) (.halt .goexit w') w'
def Good{ap:Type}:Result ap->Prop
 | .ok _ _=>True
 | .halt (.panic _) _ | .halt .goexit _ | .halt (.unsupported (.initOrder _)) _=>True
 | _=>False
def aq{ap aK:Type}(C:cM)(ρ:Ren)(R:Ren->ap->aK->Prop)(m:Sem ap)(m':Sem aK):Prop:=
 ∀(S:Sync)(w w':aL),eI C S ρ w w'->Good (m.run C.P w)->(lz (m'.run C.Q w')).drawn<=S.bound->
  ∃(σ:Ren)(w1:aL),xM C S σ R (m.run C.P w) (m'.run C.Q w') w1/\Grow ρ σ w' w1/\
   ∀es,∃d,m'.events C.Q w' es=es++d/\∀e∈d,wu σ e
def pG{ap aK:Type}(R:Ren->ap->aK->Prop):Prop:=∀ρ σ a b,Ren.le ρ σ->R ρ a b->R σ a b
variable{v v':Value}
section
variable{ap aK γ H5:Type}{C:cM}{ρ:Ren}
theorem aq.pure{R:Ren->ap->aK->Prop}{a:ap}{b:aK}(h:R ρ a b):aq C ρ R (Pure.pure a) (Pure.pure b):=by intro S w w' c _ _;exact⟨ρ,w',.ok h c,.refl _ _,λes=>⟨#[],by simp[Sem.events,Pure.pure,Sem.runT],Ab⟩⟩
def m2(m:Sem ap)(f:ap->Sem aK)(P:cf)(w:aL):(m>>= f).run P w=match m.run P w with| .ok a w1=>(f a).run P w1| .halt h w1=>.halt h w1:=by
 show(m.bind f).run P w=_;induction m generalizing w with
 |pure a=>rfl
 |load md a k b=>grind[Sem.bind,Sem.run]
 |store md a v k b=>
  cases v with
  |agg c=>rfl
  |tuple c=>rfl
  | _=>
   simp only[Sem.bind,Sem.run];cases w.cell? a with
   |some v=>
    simp only[];split
    .rfl
    .exact b _
   |none=>
    simp only[];split
    .exact b _
    .rfl
 |new o k b=>exact b _ _
 |shape r k b=>exact b _ _
 |freeze a n k b=>exact b _
 |frozen a k b=>exact b _ _
 |getObj r k b=>grind[Sem.bind,Sem.run]
 |setObj r o k b=>grind[Sem.bind,Sem.run]
 |choose q k b=>grind[Sem.bind,Sem.run]
 |sys c k b=>exact b _ _
 |program k b=>exact b _ _
 |mark m k b=>exact b _
 |halt h=>rfl
theorem Qf(m:Sem ap)(f:ap->Sem aK)(P:cf)(w:aL)(es:uaq):(m>>= f).events P w es=match m.run P w with| .ok a w1=>(f a).events P w1 (m.events P w es)| .halt _ _=>m.events P w es:=by
 show(m.bind f).events P w es=_;unfold Sem.events;induction m generalizing w es with
 |pure a=>rfl
 |load md a k b=>grind[Sem.bind,Sem.run,Sem.runT]
 |store md a v k b=>
  cases v with
  |agg c=>rfl
  |tuple c=>rfl
  | _=>
   simp only[Sem.bind,Sem.run,Sem.runT];cases w.cell? a with
   |some v=>
    simp only[];by_cases d:w.frozen? a=true
    .simp only[d,vdg]
    .simp only[d];exact b _ _
   |none=>simp only[];cases e:w.farStore P a _ (md== .atomic)with|ok r=>exact b _ _|error h=>rfl
 |new o k b=>exact b _ _ _
 |shape r k b=>exact b _ _ _
 |freeze a n k b=>exact b _ _
 |frozen a k b=>exact b _ _ _
 |getObj r k b=>grind[Sem.bind,Sem.run,Sem.runT]
 |setObj r o k b=>grind[Sem.bind,Sem.run,Sem.runT]
 |choose q k b=>simp only[Sem.bind,Sem.run,Sem.runT];grind
 |sys c k b=>exact b _ _ _
 |program k b=>exact b _ _ _
 |mark m k b=>exact b _ _
 |halt h=>rfl
theorem aq.bind{R:Ren->ap->aK->Prop}{S:Ren->γ->H5->Prop}{m:Sem ap}{m':Sem aK}{f:ap->Sem γ}{f':aK->Sem H5}(h:aq C ρ R m m')(k:∀σ a b,Ren.le ρ σ->R σ a b->aq C σ S (f a) (f' b)):aq C ρ S (m>>= f) (m'>>= f'):=by
 intro S w w' z hg g;rw[m2]at hg⊢;have H:(lz (m'.run C.Q w')).drawn<=S.bound:=by rw[m2]at g;cases d:m'.run C.Q w' with|ok b i=>rw[d]at g;exact vad (BS C.Q (f' b) i).1 g|halt x i=>rw[d]at g;exact g
 have q:Good (m.run C.P w):=by
  cases l:m.run C.P w with
  |ok a w1=>trivial
  |halt x w1=>
   rw[l]at hg;cases x with
   |unsupported u=>cases u<;>first|exact hg|trivial
   | _=>first|exact hg|trivial
 obtain⟨σ,w1,c,n,E⟩:=h S w w' z q H;rw[m2]at g⊢;cases l:m.run C.P w with
 |ok a r=>
  rw[l]at c hg;cases d:m'.run C.Q w' with
  |ok b i=>
   rw[d]at c g;cases c with
   |ok o j=>
    obtain⟨D,t,v,s,p⟩:=k σ a b n.le o S r _ j hg g;refine⟨D,t,v,n.trans s,λes=>?_⟩;obtain⟨d1,J,F⟩:=E es;obtain⟨B,I,K⟩:=p (m'.events C.Q w' es);refine⟨d1++B,?_,λe A=>?_⟩
    .grind[Qf]
    .rcases vee.1 A with x|x
     .exact(F e x).mono s.le
     grind
  |halt x i=>rw[d]at c;cases c
 |halt x r=>rw[l]at c;cases d:m'.run C.Q w' with|ok b i=>rw[d]at c;cases c|halt y i=>rw[d]at c;cases c with|panic o j=>refine⟨σ,_,.panic o j,n,λes=>?_⟩;simp_all[Qf]|goexit j=>refine⟨σ,_,.goexit j,n,λes=>?_⟩;simp_all[Qf]
theorem aq.mono{R S:Ren->ap->aK->Prop}{m:Sem ap}{m':Sem aK}(h:aq C ρ R m m')(k:∀σ a b,Ren.le ρ σ->R σ a b->S σ a b):aq C ρ S m m':=by intro S w w' c hg g;obtain⟨σ,w1,e,f,i⟩:=h S w w' c hg g;refine⟨σ,w1,?_,f,i⟩;generalize m.run C.P w=r at e;generalize m'.run C.Q w'=r' at e;cases e with|ok d c=>exact .ok (k _ _ _ f.le d) c|panic d c=>exact .panic d c|goexit c=>exact .goexit c
def aq.ite{R:Ren->ap->aK->Prop}{c:Prop}[Decidable c]{a b:Sem ap}{a' b':Sem aK}(h:c->aq C ρ R a a')(k:¬c->aq C ρ R b b'):aq C ρ R (if c then a else b) (if c then a' else b'):=by grind
theorem aq.none{R:Ren->ap->aK->Prop}{m:Sem ap}{m':Sem aK}(h:∀w,¬Good (m.run C.P w)):aq C ρ R m m':=λ_ w _ _ hg _=>absurd hg (h w)
theorem aq.stuck{R:Ren->ap->aK->Prop}{s:String}{m':Sem aK}:aq C ρ R (Go.stuck s) m':=.none λ_ h=>h
theorem aq.unsupported{R:Ren->ap->aK->Prop}{u:Unsupported}{m':Sem aK}(a:∀g,u≠ .initOrder g:=by intro g h;cases h):aq C ρ R (Go.unsupported u) m':=.none λ_ h=>by cases u with|initOrder g=>grind| _=>exact h
theorem aq.throw{R:Ren->ap->aK->Prop}{s:String}{m':Sem aK}:aq C ρ R (Go.throw s) m':=.none λ_ h=>h
theorem aq.goPanic{R:Ren->ap->aK->Prop}(h:ar ρ v v'):aq C ρ R (Go.goPanic v) (Go.goPanic v'):=by intro S w w' a _ _;exact⟨ρ,w',.panic h a,.refl _ _,λes=>⟨#[],by simp[Sem.events,Go.goPanic,Sem.runT],Ab⟩⟩
end
variable{a a':Addr}{r r':Nat}{x:Value}{c:df}{P:cf}{o o':Obj}
section
attribute [-simp] Sem.runT_eq
section
variable{C:cM}{S:Sync}{ρ:Ren}{w w':aL}
def eI.lt(h:eI C S ρ w w'){a b:Nat}(r:ρ.rel a b):a<w.heap.size/\b<w'.heap.size:=by obtain⟨o,o',d,c,_⟩:=h.obj a b r;grind
theorem eI.cells(h:eI C S ρ w w'){a b:Nat}(r:ρ.rel a b){c:df}{e:uaa}{fr:ubu}(f:w.heap[a]?=some (.cells c e fr)):
 ∃c' aP,w'.heap[b]?=some (.cells c' e aP)/\aM ρ c c'/\∀i,xL aP i->xL fr i:=by
 obtain⟨o,o',d,k,j⟩:=h.obj a b r;rw[f]at d;cases d;cases j with|cells e g hF=>exact⟨_,_,k,g,hF.1⟩
def eI.other(h:eI C S ρ w w'){a b:Nat}(r:ρ.rel a b)(j:∀c e fr,w.heap[a]?≠some (.cells c e fr)):
 ∃o o',w.heap[a]?=some o/\w'.heap[b]?=some o'/\hP C ρ o o'/\(∀c e fr,o'≠ .cells c e fr)/\(∀x t,o'≠ .view x t)/\(∀x t,o'≠ .pending x t)/\o'.isChan=false:=by
 obtain⟨o,o',i,g,d⟩:=h.obj a b r;refine⟨o,o',i,g,d,?_⟩;cases d with
 |cells e k hF=>grind
 |shut f=>cases o'<;>first|exact f.elim|exact⟨Ab,Ab,Ab,U⟩
 | _=>exact⟨Ab,Ab,Ab,U⟩
theorem xN{w:aL}(h:w.cell? a=some v):∃c e fr,w.heap[a.block]?=some (.cells c e fr)/\a.spot=none/\c[a.off]?=some v:=by
 unfold World.cell? at h;split at h
 .simp_all
 grind
theorem oq{w:aL}{e:uaa}{fr:ubu}(h:w.heap[a.block]?=some (.cells c e fr))(hs:a.spot=none)(hv:c[a.off]?=some v):w.cell? a=some v:=by grind[World.cell?]
theorem eI.cell(h:eI C S ρ w w')(r:dA ρ a a')(hv:w.cell? a=some v):∃v',w'.cell? a'=some v'/\ar ρ v v':=by obtain⟨c,e,fr,k,j,i⟩:=xN hv;obtain⟨c',aP,f,d,_⟩:=h.cells r.1 k;obtain⟨v',b,g⟩:=d.some i;exact⟨v',oq f (r.2.2▸j) (r.2.1▸b),g⟩
def ahJ{ap:Type}(h:eI C S ρ w w')(r:dA ρ a a')(hn:w.cell? a=none)(m:Mode)(k:Value->Sem ap):¬Good ((Sem.load m a k).run C.P w):=by
 simp only[Sem.run,hn];obtain⟨o,o',c,d,b⟩:=h.obj _ _ r.1;have:w.farLoad C.P a (m== .atomic)=.error (w.noCell a "load: no such cell"):=by unfold World.farLoad;rw[c];cases b<;>rfl
 rw[this];simp only[World.noCell,c];cases b<;>exact id
theorem aq.load(r:dA ρ a a'):aq C ρ ar (Go.load a) (Go.load a'):=by
 intro S w w' b hg _;cases d:w.cell? a with
 |none=>exact absurd hg (ahJ b r d _ _)
 |some v=>
  obtain⟨v',c,g⟩:=b.cell r d;refine⟨ρ,w',?_,.refl _ _,λes=>⟨#[⟨.cell a',false,false⟩],?_,?_⟩⟩
  .simp only[Go.load,Sem.run,d,c];exact .ok g b
  .grind[Sem.events,Go.load,Sem.runT]
  .intro e f;simp at f;subst f;exact⟨⟨_,r.1⟩,Ab,U⟩
theorem eI.setCell(h:eI C S ρ w w')(r:dA ρ a a')(hv:ar ρ v v')(q:ρ.mine a'.block):eI C S ρ (w.setCell a v) (w'.setCell a' v'):=by
 have get:∀(w:aL)(a:Addr)(v:Value)(b:Nat),(w.setCell a v).heap[b]?=(w.heap[b]?).map (λo=>if a.block=b then(match o with| .cells c e f=>.cells (if a.spot.isSome then c else c.setIfInBounds a.off v) e f|o=>o)else o):=by grind[World.setCell]
 refine⟨λb b' d=>?_,h.one,h.inj,h.nD,h.sync,h.tape,h.env,h.lone,λb b' d hn=>?_⟩
 .obtain⟨o,o',g,j,t⟩:=h.obj b b' d;rw[get,get,g,j];simp only[Option.map_some];refine⟨_,_,U,U,?_⟩;by_cases e:a.block=b
  .subst e;have m:a'.block=b':=h.one _ _ _ r.1 d;subst m;simp only[vdg];cases t with
   |cells el i hF=>
    simp only[r.2.2,r.2.1];by_cases hs:a'.spot.isSome=true
    .simp only[hs,vdg];exact .cells el i hF
    .simp only[hs];exact .cells el (i.set hv _) hF
   |map c h=>exact .map c h
   |stringIter s p=>exact .stringIter s p
   |BU a b c=>exact .BU a b c
   |mapIter h a b c=>exact .mapIter h a b c
   |loop h=>exact .loop h
   |deferred h=>exact .deferred h
   |taken=>exact .taken
   |number h l=>exact .number h l
   |shut h=>cases o'<;>first|exact h.elim|exact .shut trivial
  .have m:a'.block≠b':=λx=>e (h.inj _ _ _ (x▸r.1) d);grind
 .have e:a.block≠b:=λx=>hn (h.one _ _ _ r.1 (x▸d)▸q);rw[get];rcases h.still b b' d hn with⟨n,c,el,fr,g,j⟩|⟨n,es,k,g⟩|⟨o,g,hd⟩
  .grind
  .grind
  grind
def ar.ahK(h:ar ρ v v'):((∃c,v=.agg c)\/∃c,v=.tuple c)\/((∀c,v≠ .agg c)/\(∀c,v≠ .tuple c)/\(∀c,v'≠ .agg c)/\(∀c,v'≠ .tuple c)):=by cases h with|agg=>grind|tuple=>grind| _=>exact .inr ⟨Ab,Ab,Ab,Ab⟩
def run_store{ap:Type}{md:Mode}{k:Sem ap}(f:∀c,v≠ .agg c)(e:∀c,v≠ .tuple c)(d:w.cell? a=some x)(b:w.frozen? a=false):
 (Sem.store md a v k).run P w=k.run P (w.setCell a v):=by
 simp_all[Sem.run]
theorem events_store{ap:Type}{md:Mode}{k:Sem ap}(f:∀c,v≠ .agg c)(e:∀c,v≠ .tuple c)(d:w.cell? a=some x)(b:w.frozen? a=false)(es:uaq):
 (Sem.store md a v k).events P w es=k.events P (w.setCell a v) (es.push ⟨.cell a,true,md== .atomic⟩):=by
 simp_all[Sem.events,Sem.runT]
theorem aq.store(r:dA ρ a a')(hv:ar ρ v v'):aq C ρ (λ_(_ _:Unit)=>True) (Go.store a v) (Go.store a' v'):=by
 intro S w w' d hg _;rcases hv.ahK with(⟨c,rfl⟩|⟨c,rfl⟩)|⟨n1,eJ,s,nF⟩
 .exact hg.elim
 .exact hg.elim
 cases g:w.cell? a with
 |none=>
  exfalso;obtain⟨o,o',p,J,n⟩:=d.obj _ _ r.1;have D:∀v,w.farStore C.P a v (Mode.plain== .atomic)=.error (w.noCell a "store: no such cell"):=by intro v;unfold World.farStore;rw[p];cases n<;>rfl
  have:(Go.store a v).run C.P w=.halt (w.noCell a "store: no such cell") w:=by simp_all[Go.store,Sem.run]
  rw[this]at hg;simp only[World.noCell,p]at hg;cases n<;>exact hg
 |some x=>
  obtain⟨x',u,_⟩:=d.cell r g;obtain⟨c,e,fr,j,H,k3⟩:=xN g;have E:a.off<c.size:=AF;cases A:w.frozen? a with
  |true=>
   exfalso;have:(Go.store a v).run C.P w=.halt (.unsupported (.unsafePointer "a write to bytes that a string shares")) w:=by simp_all[Go.store,Sem.run]
   rw[this]at hg;exact hg
  |false=>
   have i:¬xL fr a.off:=by intro⟨y,z⟩;grind[World.frozen?]
   obtain⟨c',aP,B,L,q⟩:=d.cells r.1 j;have t:w'.frozen? a'=false:=by unfold World.frozen?;rw[B];have:¬xL aP a'.off:=λy=>i (r.2.1▸q _ y);grind[xL]
   have l:ρ.mine a'.block:=by
    apply vaw;intro hn;rcases d.still _ _ r.1 hn with⟨_,bG,K,M,f,F⟩|⟨_,es,k,f⟩|⟨o,f,hd⟩
    .grind
    .grind
    .rw[j]at f;cases f;cases hd
   refine⟨ρ,w'.setCell a' v',?_,?_,λes=>⟨#[⟨.cell a',true,false⟩],?_,?_⟩⟩
   .show xM C S ρ _ ((Go.store a v).run C.P w) ((Go.store a' v').run C.Q w') _;rw[Go.store,Go.store,run_store n1 eJ g A,run_store s nF u t];exact .ok trivial (d.setCell r hv l)
   .refine⟨Ren.le_refl _,λ_ h=>.inl h,by simp[World.setCell],λ_ h=>.inl h,λ_ _ h=>.inl h,λb I hn=>?_,U,U,U,vac _⟩;grind[World.setCell]
   .grind[Go.store,events_store,Sem.events,Sem.runT]
   .intro e m;simp at m;subst m;exact⟨⟨_,r.1⟩,λ_=>l,U⟩
def Ren.new(ρ:Ren)(n n':Nat):Ren:={rel:=λa b=>ρ.rel a b\/(a=n/\b=n'),mine:=λb=>ρ.mine b\/b=n'}
def Ren.WU(ρ:Ren)(n a:Nat):Ren.le ρ (ρ.new n a):=⟨λ_ _ h=>.inl h,λ_ h=>.inl h⟩
theorem eI.alloc(h:eI C S ρ w w')(k:hP C ρ o o'):eI C S (ρ.new w.heap.size w'.heap.size) {w with heap:=w.heap.push o} {w' with heap:=w'.heap.push o'}:=by
 have f:=Ren.WU ρ w.heap.size w'.heap.size;refine⟨λb b' c=>?_,λa b b' x y=>?_,λa a' b x y=>?_,λg hg=>.inl (h.nD g hg),h.sync,h.tape,h.env,h.lone,λb b' c hn=>?_⟩
 .rcases c with c|⟨rfl,rfl⟩
  .obtain⟨p,i,q,n,l⟩:=h.obj b b' c;have d:=h.lt c;exact⟨p,i,AF,AF,l.mono f⟩
  .exact⟨o,o',Ab,Ab,k.mono f⟩
 .rcases x with x|⟨rfl,rfl⟩<;>rcases y with y|⟨m,j⟩
  .exact h.one _ _ _ x y
  .have:=(h.lt x).1;omega
  .have:=(h.lt y).1;omega
  grind
 .rcases x with x|⟨rfl,rfl⟩<;>rcases y with y|⟨m,j⟩
  .exact h.inj _ _ _ x y
  .have:=(h.lt x).2;omega
  .have:=(h.lt y).2;omega
  grind
 .rcases c with c|⟨rfl,rfl⟩
  .have d:=h.lt c;have e:({w with heap:=w.heap.push o}:aL).heap[b]?=w.heap[b]?:=AF;rw[e];exact h.still b b' c λx=>hn (.inl x)
  .exact absurd Kj hn
theorem aq.new(f:hP C ρ o o'):aq C ρ (λσ n d=>σ.rel n d/\σ.mine d) (Go.newObj o) (Go.newObj o'):=by intro S w w' e _ _;refine⟨ρ.new w.heap.size w'.heap.size,{w' with heap:=w'.heap.push o'},.ok ⟨.inr ⟨U,U⟩,.inr U⟩ (e.alloc f),?_,λes=>⟨#[],by simp[Sem.events,Go.newObj,Sem.runT],Ab⟩⟩;refine⟨Ren.WU _ _ _,λb c=>c.imp id (λx=>AX),Ab,λb c=>c.imp id (λx=>AF),λa b c=>c.imp id (λx=>AX),λb c _=>?_,U,U,U,vac _⟩;grind
theorem aq.shape(h:ρ.rel r r'):aq C ρ (λ_ s s'=>s=s') (Go.shape r) (Go.shape r'):=by
 intro S w w' a _ _;refine⟨ρ,w',?_,.refl _ _,λes=>⟨#[],by simp[Sem.events,Go.shape,Sem.runT],Ab⟩⟩;refine .ok ?_ a;obtain⟨o,o',g,f,d⟩:=a.obj r r' h;unfold World.shape?;rw[g,f];cases d with
 |cells e c hF=>simp[c.size]
 |shut b=>cases o'<;>first|exact b.elim|rfl
 | _=>rfl
def ahM(C:cM)(r':Nat)(ρ:Ren)(o o':Obj):Prop:=hP C ρ o o'/\(∀c e fr,o≠ .cells c e fr)/\(ρ.mine r'\/(C.upd=false/\∃es k,o=.map es k)\/E_ o)
theorem aq.getObj(h:ρ.rel r r'):aq C ρ (ahM C r') (Go.getObj r) (Go.getObj r'):=by
 intro S w w' a hg _;have d:∀c e fr,w.heap[r]?≠some (.cells c e fr):=by grind[Go.getObj,Sem.run,Good]
 obtain⟨o,o',q,p,j,n1,eJ,nF,i⟩:=a.other h d;have m:(Go.getObj r).run C.P w=.ok o w:=by grind[Go.getObj,Sem.run]
 have l:(Go.getObj r').run C.Q w'=.ok o' w':=by simp_all[Go.getObj,Sem.run]
 refine⟨ρ,w',?_,.refl _ _,λes=>⟨#[⟨.obj r',false,false⟩],?_,?_⟩⟩
 .rw[m,l];refine .ok ⟨j,λc e fr x=>d c e fr AF,?_⟩ a;by_cases g:ρ.mine r'
  .grind
  .rcases a.still _ _ h g with⟨_,c,e,fr,f,_⟩|⟨n,es,k,f⟩|⟨o,f,hd⟩
   .grind
   .grind
   grind
 .simp_all[Sem.events,Go.getObj,Sem.runT]
 .intro e b;simp at b;subst b;exact⟨⟨_,h⟩,Ab,U⟩
theorem aq.setObj(h:ρ.rel r r')(g:ρ.mine r')(k:hP C ρ o o')(hn:∀c e fr,o≠ .cells c e fr):aq C ρ (λ_(_ _:Unit)=>True) (Go.setObj r o) (Go.setObj r' o'):=by
 intro S w w' a hg _;have n:∀c e fr,w.heap[r]?≠some (.cells c e fr):=by grind[Go.setObj,Sem.run,Good]
 obtain⟨p,t,y,v,u,n1,eJ,nF,_⟩:=a.other h n;have l:=a.lt h;have s:(Go.setObj r o).run C.P w=.ok () {w with heap:=w.heap.setIfInBounds r o}:=by grind[Go.setObj,Sem.run]
 have q:(Go.setObj r' o').run C.Q w'=.ok () {w' with heap:=w'.heap.setIfInBounds r' o'}:=by simp_all[Go.setObj,Sem.run]
 have m:o'.isChan=false:=by
  cases k with
  |shut x=>cases o'<;>first|exact x.elim|rfl
  | _=>rfl
 refine⟨ρ,{w' with heap:=w'.heap.setIfInBounds r' o'},?_,?_,λes=>⟨#[⟨.obj r',true,false⟩],?_,?_⟩⟩
 .rw[s,q];refine .ok trivial ⟨λb b' d=>?_,a.one,a.inj,a.nD,a.sync,a.tape,a.env,a.lone,λb b' d f=>?_⟩
  .simp only[vak];by_cases e:r=b
   .subst e;have j:r'=b':=a.one _ _ _ h d;grind
   .have j:r'≠b':=λx=>e (a.inj _ _ _ (x▸h) d);rw[vbp e,vbp j];exact a.obj b b' d
  .have e:r≠b:=λx=>f (a.one _ _ _ h (x▸d)▸g);simp only[vak,vbp e];exact a.still b b' d f
 .refine⟨Ren.le_refl _,λ_ h=>.inl h,Ab,λ_ h=>.inl h,λ_ _ h=>.inl h,λb d f=>?_,U,U,U,vac _⟩;grind
 .simp_all[Sem.events,Go.setObj,Sem.runT]
 .intro e i;simp at i;subst i;exact⟨⟨_,h⟩,λ_=>g,U⟩
theorem aq.choose(q:Question):aq C ρ (λ_ a b=>a=b) (Go.choose q) (Go.choose q):=by
 intro S w w' c _ f;by_cases d:q.forced=true
 .refine⟨ρ,w',?_,.refl _ _,λes=>⟨#[],by simp[Sem.events,Go.choose,Sem.runT,d],Ab⟩⟩;simp only[Go.choose,Sem.run,d,vdg];exact .ok U c
 .refine⟨ρ,{w' with drawn:=w'.drawn+1},?_,?_,λes=>⟨#[],by simp[Sem.events,Go.choose,Sem.runT,d],Ab⟩⟩
  .simp only[Go.choose,Sem.run,d,lz]at f⊢;refine .ok ?_ ⟨c.obj,c.one,c.inj,c.nD,?_,λj q g=>?_,c.env,c.lone,c.still⟩
   .have:=c.tape 0 q AF;grind
   .have:=c.sync;grind
   .have e:w'.drawn+(j+1)<S.bound:=by grind
    have:=c.tape (j+1) q e;grind
  .exact⟨Ren.le_refl _,λ_ h=>.inl h,vac _,λ_ h=>.inl h,λ_ _ h=>.inl h,λ_ _ _=>U,U,U,U,vdw _⟩
theorem aq.program:aq C ρ (λ_ p q=>p=C.P/\q=C.Q) Go.program Go.program:=by intro S w w' a _ _;exact⟨ρ,w',.ok ⟨U,U⟩ a,.refl _ _,λes=>⟨#[],by simp[Sem.events,Go.program,Sem.runT],Ab⟩⟩
theorem aq.noRoom:aq C ρ (λ_(_ _:Unit)=>True) (Go.mark .noRoom) (Go.mark .noRoom):=by intro S w w' b _ _;refine⟨ρ,w',.ok trivial b,.refl _ _,λes=>⟨#[⟨.mark .noRoom,false,true⟩],by simp[Sem.events,Go.mark,Sem.runT],?_⟩⟩;intro e a;simp at a;subst a;trivial
def aq.ahN:aq C ρ (λ_ a b=>a=b) (Go.sys .env) (Go.sys .env):=by
 intro S w w' c _ _;refine⟨ρ,w',?_,.refl _ _,λes=>⟨#[⟨.output,true,false⟩],by simp[Sem.events,Go.sys,Sem.runT],?_⟩⟩
 .show xM C S ρ _ (.ok (SysRet.strings w.os.env) w) (.ok (SysRet.strings w'.os.env) w') w';exact .ok (by rw[c.env]) c
 .intro e d;simp at d;subst d;trivial
theorem aq.extern(f:uaj):aq C ρ (λ_(_ _:Unit)=>True) (Go.mark (.extern f)) (Go.mark (.extern f)):=by intro S w w' b _ _;refine⟨ρ,w',.ok trivial b,.refl _ _,λes=>⟨#[⟨.mark (.extern f),false,true⟩],by simp[Sem.events,Go.mark,Sem.runT],?_⟩⟩;intro e a;simp at a;subst a;trivial
theorem aq.askRoom(n:Nat):aq C ρ (λ_(_ _:Unit)=>True) (Go.askRoom n) (Go.askRoom n):=by
 unfold Go.askRoom;split
 .exact .noRoom
 .exact .pure trivial
end
end
variable{c':df}
section
attribute [-simp] Sem.runT_eq
def cM.cn(C:cM):Prop:=C.P.toTables=C.Q.toTables
def cM.sE(C:cM):Prop:=∀t i v,C.P.info? t=some i->i.zero=some v->jm v
section
variable{C:cM}{ρ:Ren}
theorem dA.add(h:dA ρ a a')(n:Nat):dA ρ (a.add n) (a'.add n):=by
 unfold Addr.add;split
 .exact h
 .exact⟨h.1,by simp[h.2.1],U⟩
theorem aq.cut{ap aK γ H5:Type}{R:Ren->γ->H5->Prop}{m:Sem ap}{m':Sem aK}{f:ap->Sem γ}{f':aK->Sem H5}(h:aq C ρ (λ_ _ _=>False) m m'):aq C ρ R (m>>= f) (m'>>= f'):=.bind h λ_ _ _ _ x=>x.elim
theorem aq.typeInfo(d:C.cn)(t:uaa):aq C ρ (λ_ a b=>a=b/\C.P.info? t=some a) (Go.typeInfo t) (Go.typeInfo t):=by
 unfold Go.typeInfo;refine .bind .program λσ p q _⟨c,hq⟩=>?_;subst c;subst hq;have e:C.Q.info? t=C.P.info? t:=by unfold Tables.info?;rw[d]
 grind[stuck,pure]
theorem aq.underlying(d:C.cn)(t:uaa):aq C ρ (λ_ a b=>a=b/\C.P.underlying t=some a) (Go.underlying t) (Go.underlying t):=by
 unfold Go.underlying;refine .bind .program λσ p q _⟨c,hq⟩=>?_;subst c;subst hq;have e:C.Q.underlying t=C.P.underlying t:=by unfold Program.underlying Tables.info?;rw[d]
 grind[stuck,pure]
theorem aq.zeroValue(d:C.cn)(c:C.sE)(t:uaa):aq C ρ (λ_ a b=>a=b/\jm a) (Go.zeroValue t) (Go.zeroValue t):=by unfold Go.zeroValue;refine .bind (aq.typeInfo d t) λσ i j _⟨f,e⟩=>?_;subst f;cases h:i.zero with|none=>exact .unsupported|some v=>exact .pure ⟨U,c t i v e h⟩
theorem aq.sizeOf(c:C.cn)(t:uaa):aq C ρ (λ_ a b=>a=b) (Go.sizeOf t) (Go.sizeOf t):=by unfold Go.sizeOf;exact .bind (aq.typeInfo c t) λσ i j _⟨d,e⟩=>.pure (by rw[d])
theorem aq.isAgg(c:C.cn)(t:uaa):aq C ρ (λ_ a b=>a=b) (Go.isAgg t) (Go.isAgg t):=by unfold Go.isAgg;refine .bind (aq.underlying c t) λσ i j _⟨e,d⟩=>?_;grind[pure]
theorem aq.loadCellsFrom(r:dA ρ a a')(n:Nat):∀(i:Nat){acc b:df},aM ρ acc b->aq C ρ aM (Go.loadCellsFrom a i n acc) (Go.loadCellsFrom a' i n b):=by induction n generalizing ρ with|zero=>intro i acc b h;exact .pure h|succ n d=>intro i acc b h;simp only[Go.loadCellsFrom];exact .bind (aq.load (r.add i)) λσ v v' c hv=>d (r.mono c) (i+1) ((h.mono c).push hv)
theorem aq.loadCells(r:dA ρ a a')(n:Nat):aq C ρ aM (Go.loadCells a n) (Go.loadCells a' n):=aq.loadCellsFrom r n 0 (.nil ρ)
theorem aq.storeCells(r:dA ρ a a'){l l':uad}(h:cL (ar ρ) l l'):∀(i:Nat),aq C ρ (λ_(_ _:Unit)=>True) (Go.storeCells a l i) (Go.storeCells a' l' i):=by induction l generalizing ρ l' with|nil=>intro i;cases h;exact .pure trivial|cons x l c=>intro i;cases h with|cons d ht=>simp only[Go.storeCells];exact .bind (aq.store (r.add i) d) λσ _ _ b _=>c (r.mono b) (ht.mono λ_ _ y=>y.mono b) (i+1)
theorem aq.loadVar(e:C.cn)(t:uaa)(r:dA ρ a a'):aq C ρ ar (Go.loadVar t a) (Go.loadVar t a'):=by
 unfold Go.loadVar;refine .bind (aq.isAgg e t) λσ b b' d g=>?_;subst g;cases b
 .exact aq.load (r.mono d)
 .refine .bind (aq.sizeOf e t) λk n i h hn=>?_;subst hn;exact .bind (aq.loadCells ((r.mono d).mono h) n) λj c c' _ f=>.pure (.rF f)
theorem aq.storeVar(c:C.cn)(t:uaa)(r:dA ρ a a')(hv:ar ρ v v'):aq C ρ (λ_(_ _:Unit)=>True) (Go.storeVar t a v) (Go.storeVar t a' v'):=by unfold Go.storeVar;refine .bind (aq.sizeOf c t) λσ n d b hn=>?_;subst hn;have hs:=hv.cells.size;rw[<-hs];exact .ite (λ_=>.cut .stuck) (λ_=>aq.storeCells (r.mono b) (cL.BT (hv.cells.mono b)) 0)
theorem aq.newRow(e:uaa)(h:aM ρ c c'):aq C ρ dA (Go.newRow e c) (Go.newRow e c'):=by unfold Go.newRow;exact .bind (aq.new (.cells e h ⟨λ_ x=>x,λ_=>U⟩)) λσ n a _ hn=>.pure ⟨hn.1,U,U⟩
theorem aq.newVar(t:uaa)(h:ar ρ v v'):aq C ρ dA (Go.newVar t v) (Go.newVar t v'):=aq.newRow t h.cells
theorem aq.elemOf(c:C.cn)(t:uaa):aq C ρ (λ_ a b=>a=b) (Go.elemOf t) (Go.elemOf t):=by unfold Go.elemOf;refine .bind (aq.underlying c t) λσ i j _⟨e,d⟩=>?_;grind[stuck,pure]
theorem aq.part(e:C.cn)(t:uaa)(h:aM ρ c c')(off:Nat):aq C ρ ar (Go.part t c off) (Go.part t c' off):=by
 unfold Go.part;refine .bind (aq.isAgg e t) λσ b b' d i=>?_;subst i;cases b
 .simp only[vai,vef];cases f:c[off]? with|none=>exact .stuck|some v=>obtain⟨v',a,g⟩:=h.some f;rw[a];exact .pure (g.mono d)
 .simp only[vdg];refine .bind (aq.sizeOf e t) λl n k j hn=>?_;subst hn;exact .pure (.rF (((h.mono d).mono j).extract _ _))
def ahP(a:ρ.rel C.P.globals.size C.P.globals.size)(hg:C.P.globals.size=C.Q.globals.size)(t:uaa):ar ρ (typeHandle C.P t) (typeHandle C.Q t):=by unfold typeHandle;rw[<-hg];exact .ptr ⟨a,U,U⟩
def aq.ahQ{ap aK:Type}{R:Ren->ap->aK->Prop}{m:Sem ap}{m':Sem aK}(h:(∀g,g<=C.P.globals.size->ρ.rel g g)->aq C ρ R m m'):aq C ρ R m m':=λS w w' a hg b=>h a.nD S w w' a hg b
theorem aq.runtimePanic(j:C.cn){ap aK:Type}{R:Ren->ap->aK->Prop}(e:RuntimeError):aq C ρ R (Go.runtimePanic e:Sem ap) (Go.runtimePanic e:Sem aK):=by
 refine .ahQ λu=>?_;have A:C.P.globals.size=C.Q.globals.size:=by rw[j]
 have f:C.P.rt=C.Q.rt:=by rw[j]
 have l:∀{σ:Ren}(s:String),ar σ (strVal s) (strVal s):=λs=>.string _;unfold Go.runtimePanic;refine .bind .program λσ p q E⟨D,hq⟩=>?_;subst D;subst hq;have z:∀{g:Ren},Ren.le σ g->∀t,ar g (typeHandle C.P t) (typeHandle C.Q t):=λk t=>ahP (k.1 _ _ (E.1 _ _ (u _ Jb))) A t;simp only[];cases e with
 |bounds x y s c=>rw[<-f];exact .goPanic (.iface _ (jm.rel (.agg λi v h=>by
  match i,h with
  |0,h=>simp at h;subst h;exact .int _ _
  |1,h=>simp at h;subst h;exact .int _ _
  |2,h=>simp at h;subst h;exact .bool _
  |3,h=>simp at h;subst h;exact .int _ _
  |i+4,h=>grind) _))
 |error m=>rw[<-f];exact .goPanic (.iface _ (l _))
 |plain m=>rw[<-f];exact .goPanic (.iface _ (l _))
 |nilDeref=>rw[<-f];exact .goPanic (.iface _ (l _))
 |typeAssertion i c a m=>
  rw[<-f];refine .bind (aq.elemOf j _) λg x x' k n=>?_;subst n;refine .bind (aq.newVar x ?_) λB r r' _ o=>.goPanic (.iface _ (.ptr o));have f4:∀{a b c d a' b' c' w:Value},ar g a a'->ar g b b'->ar g c c'->ar g d w->aM g #[a,b,c,d] #[a',b',c',w]:=λJ I H F=>by simpa using aM.append (aM.append (aM.append (aM.one J) (aM.one I)) (aM.one H)) (aM.one F)
  cases i<;>cases c<;>exact .rF (f4 (by first|exact .lQ|grind) (by first|exact .lQ|grind) (z k _) (l _))
 |panicNil=>rw[<-f];refine .bind (aq.elemOf j _) λg x x' k n=>?_;subst n;exact .bind (aq.newVar x (.rF (.nil _))) λB r r' _ o=>.goPanic (.iface _ (.ptr o))
 |unhashable t=>rw[<-f];exact .goPanic (.iface _ (.rF (.one (z (Ren.le_refl _) t))))
theorem aq.boundsPanic(c:C.cn){ap aK:Type}{R:Ren->ap->aK->Prop}(k:IntKind)(x y:Int)(code:BoundsCode):aq C ρ R (Go.boundsPanic k x y code:Sem ap) (Go.boundsPanic k x y code:Sem aK):=by
 unfold Go.boundsPanic;simp only[];split
 .refine .bind (R:=λ_ a b=>a=b) ?_ λσ s s' _ hs=>by grind[aq.runtimePanic]
  exact .bind (f:=λa=>Pure.pure (a==1)) (f':=λa=>Pure.pure (a==1)) (aq.choose _) λσ a b _ h=>.pure (by rw[h])
 grind[aq.runtimePanic]
theorem aq.asIntOf(h:ar ρ v v'):aq C ρ (λ_ a b=>a=b) (Go.asIntOf v) (Go.asIntOf v'):=by cases h<;>first|exact .pure U|exact .unsupported|exact .stuck
theorem aq.asInt(h:ar ρ v v'):aq C ρ (λ_ a b=>a=b) (Go.asInt v) (Go.asInt v'):=by unfold Go.asInt;exact .bind (aq.asIntOf h) λσ a b _ h=>.pure (by rw[h])
theorem aq.asBool(h:ar ρ v v'):aq C ρ (λ_ a b=>a=b) (Go.asBool v) (Go.asBool v'):=by cases h<;>first|exact .pure U|exact .stuck
theorem aq.asAddr(a:C.cn)(h:ar ρ v v'):aq C ρ dA (Go.asAddr v) (Go.asAddr v'):=by cases h with|ptr h=>exact .pure h|lQ=>exact(aq.runtimePanic a .nilDeref:aq C ρ dA (Go.runtimePanic .nilDeref:Sem Addr) (Go.runtimePanic .nilDeref:Sem Addr))| _=>exact .stuck
end
end
variable{x':Value}{z:df}{ps:Array (Nat×Operand)}{z_:Array (Nat×Value)}
section
attribute [-simp] Sem.runT_eq
section
variable{C:cM}{ρ:Ren}
def LK(h:ar ρ v v'):aq C ρ dA (Instr.sureAddr v) (Instr.sureAddr v'):=by cases h with|ptr h=>exact .pure h| _=>exact .stuck
def ahS(b:C.cn)(t:uaa)(h:ar ρ v v'):aq C ρ ar (Instr.loadAt t v) (Instr.loadAt t v'):=by unfold Instr.loadAt;exact .bind (LK h) λσ a a' _ r=>aq.loadVar b t r
def ahT(d:C.cn)(t:uaa)(h:ar ρ v v')(b:ar ρ x x'):aq C ρ (λ_(_ _:Unit)=>True) (Instr.storeAt t v x) (Instr.storeAt t v' x'):=by unfold Instr.storeAt;exact .bind (LK h) λσ a a' c r=>aq.storeVar d t r (b.mono c)
theorem ahU(c:C.cn)(b:C.sE)(t:uaa):aq C ρ ar (Instr.alloc t true (.tuple #[])) (Instr.alloc t true (.tuple #[])):=by unfold Instr.alloc;refine .bind (aq.zeroValue c b t) λσ v v' _⟨e,d⟩=>?_;subst e;exact .bind (aq.newVar t (d.rel σ)) λf a a' _ r=>.pure (.ptr r)
def ahV(t:uaa)(h:ar ρ v v'):aq C ρ ar (Instr.box t v) (Instr.box t v'):=by unfold Instr.box;exact .bind (aq.newVar t h) λb a a' _ r=>.pure (.ptr r)
def ahW(off:Nat):∀(l l':uad)(j:Nat){c c':df},cL (ar ρ) l l'->aM ρ c c'->
 aM ρ ((l.zipIdx j).foldl (λcs(p:ubv)=>cs.setIfInBounds (off+p.2) p.1) c) ((l'.zipIdx j).foldl (λcs(p:ubv)=>cs.setIfInBounds (off+p.2) p.1) c'):=by
 intro l;induction l with|nil=>intro l' j c c' h a;cases h;exact a|cons x l b=>intro l' j c c' h a;cases h with|cons d ht=>simp only[List.zipIdx_cons,List.foldl_cons];exact b _ (j+1) ht (a.set d _)
def ahX(off:Nat){a a':df}(h:aM ρ a a')(b:aM ρ c c'):
 aM ρ (a.zipIdx.foldl (λcs(x:ubv)=>cs.setIfInBounds (off+x.2) x.1) c) (a'.zipIdx.foldl (λcs(x:ubv)=>cs.setIfInBounds (off+x.2) x.1) c'):=by
 have e:∀(a c:df),a.zipIdx.foldl (λcs(x:ubv)=>cs.setIfInBounds (off+x.2) x.1) c=(a.toList.zipIdx 0).foldl (λcs(p:ubv)=>cs.setIfInBounds (off+p.2) p.1) c:=λa c=>by rw[<-Array.foldl_toList];simp
 simp_all[ahW,cL.BT]
def sF(ρ:Ren)(p p':Nat×Value):Prop:=p.1=p'.1/\ar ρ p.2 p'.2
def Qg(place:Nat->Option (Nat×Nat)):∀(l l':uac){c c':df},cL (sF ρ) l l'->aM ρ c c'->
 (Instr.fill place c l=none/\Instr.fill place c' l'=none)\/∃x x',Instr.fill place c l=some x/\Instr.fill place c' l'=some x'/\aM ρ x x':=by
 intro l;induction l with
 |nil=>intro l' c c' h a;cases h;exact .inr ⟨c,c',U,U,a⟩
 |cons p l d=>
  intro l' c c' h a;cases h with
  |@cons _ b _ l' e ht=>
   obtain⟨i,v⟩:=p;obtain⟨i',v'⟩:=b;obtain⟨rfl,hv⟩:i=i'/\ar ρ v v':=e;simp only[Instr.fill];cases f:place i with
   |none=>grind
   |some os=>
    obtain⟨off,size⟩:=os;simp only[];rw[<-hv.cells.size,<-a.size];split
    .grind
    .exact d _ ht (ahX off hv.cells a)
def ahY{f f':uak}(h:∀p∈ps,ar ρ (f p.2) (f' p.2)):cL (sF ρ) (ps.map λ(i,x)=>(i,f x)).toList (ps.map λ(i,x)=>(i,f' x)).toList:=by obtain⟨l⟩:=ps;simp only[List.map_toArray];induction l with|nil=>exact .nil|cons p l a=>obtain⟨i,x⟩:=p;exact .cons ⟨U,h (i,x) Ab⟩ (a λq hq=>h q AF)
def ahZ{ap aK:Type}{f f':ap->Sem aK}(h:∀(ρ:Ren) a,aq C ρ (λ_ x y=>x=y) (f a) (f' a)):∀(l:List ap)(ρ:Ren),aq C ρ (λ_ x y=>x=y) (l.mapM f) (l.mapM f'):=by intro l;induction l with|nil=>intro ρ;simp only[List.mapM_nil];exact .pure U|cons a l b=>intro ρ;simp only[List.mapM_cons];exact .bind (h ρ a) λσ x y _ e=>by subst e;exact .bind (b σ) λc x y _ e=>by subst e;exact .pure U
def ah0{ap aK:Type}{f f':ap->Sem aK}(h:∀(ρ:Ren) a,aq C ρ (λ_ x y=>x=y) (f a) (f' a))(l:Array ap):aq C ρ (λ_ x y=>x=y) (l.mapM f) (l.mapM f'):=by
 have e:∀g:ap->Sem aK,l.mapM g=(do pure (<-l.toList.mapM g).toArray):=λg=>by rw[vcm];rfl
 rw[e,e];exact .bind (ahZ h l.toList ρ) λσ x y _ e=>.pure JS
def ah1(k:C.cn)(s:C.sE)(t:uaa){ps:Array (Nat×Value)}(h:cL (sF ρ) ps.toList z_.toList):aq C ρ ar (Instr.build t ps) (Instr.build t z_):=by
 unfold Instr.build;refine .bind (aq.zeroValue k s t) λσ z D u⟨w,r⟩=>?_;subst w;refine .bind (aq.underlying k t) λp d H A⟨v,F⟩=>?_;subst v;have q:=cL.mono (λa b(x:sF ρ a b)=>(⟨x.1,(x.2.mono u).mono A⟩:sF p a b)) h;cases d with
 |struct fields=>
  simp only[];refine .bind (R:=λ_ x y=>x=y) (ah0 (λρ f=>.bind (aq.sizeOf k _) λσ a b _ e=>.pure JS) fields) λc pl B m e=>?_;subst e;have l:=cL.mono (λa b(x:sF p a b)=>(⟨x.1,x.2.mono m⟩:sF c a b)) q;rcases Qg (ρ:=c) (λi=>pl[i]?) ps.toList z_.toList l (r.cells.rel c)with⟨j,g⟩|⟨x,x',j,g,o⟩
  .rw[j,g];exact .stuck
  .rw[j,g];exact .pure (.rF o)
 |array n elem=>
  simp only[];refine .bind (aq.sizeOf k elem) λc n E m e=>?_;subst e;have l:=cL.mono (λa b(x:sF p a b)=>(⟨x.1,x.2.mono m⟩:sF c a b)) q;rcases Qg (ρ:=c) (λi=>some (i*n,n)) ps.toList z_.toList l (r.cells.rel c)with⟨j,g⟩|⟨x,x',j,g,o⟩
  .rw[j,g];exact .stuck
  .rw[j,g];exact .pure (.rF o)
 | _=>exact .stuck
theorem ah2:jm (default:Value):=.bool _
def kL.Qh(h:kL z)(n:Nat):kL ((Array.range n).map (z[· % z.size]!)):=by
 intro i v hv;simp only[vcl,Array.getElem?_range]at hv;split at hv
 .simp only[Option.map_some,vbh]at hv;subst hv;by_cases a:i % z.size<z.size
  .rw[getElem!_pos z _ a];exact h _ _ (vao a)
  grind[ah2]
 grind
def ah3(j:C.cn)(p:C.sE)(t:uaa)(len:Nat){ps:Array (Nat×Value)}(h:cL (sF ρ) ps.toList z_.toList):aq C ρ ar (Instr.buildSlice t len ps) (Instr.buildSlice t len z_):=by
 unfold Instr.buildSlice;refine .bind (aq.underlying j t) λσ d I w⟨B,H⟩=>?_;subst B;cases d with
 |slice elem=>
  simp only[];refine .bind (aq.sizeOf j elem) λJ n F D e=>?_;subst e;refine .ite (λA=>.cut .unsupported) (λA=>?_);refine .ite (λ_=>.bind (R:=λ_ x y=>x=y/\kL x) (.pure ⟨U,λi v h=>AF⟩) λg z m f⟨e,l⟩=>?_)
   (λ_=>.bind (aq.zeroValue j p elem) λE y y' q⟨c,s⟩=>.bind (R:=λ_ x y=>x=y/\kL x) (.pure ⟨by rw[c],s.cells⟩) λg z m f⟨e,l⟩=>?_)
  all_goals
   subst e;first|replace f:=Ren.le_trans q f|skip
   have o:=cL.mono (λa b(x:sF ρ a b)=>(⟨x.1,x.2.mono (Ren.le_trans (Ren.le_trans w D) f)⟩:sF g a b)) h;rcases Qg (ρ:=g) (λi=>some (i*n,n)) ps.toList z_.toList o ((l.Qh (len*n)).rel g)with⟨c,k⟩|⟨x,x',c,k,u⟩
   .rw[c,k];exact .stuck
   .rw[c,k];exact .bind (aq.newRow elem u) λ_ a a' _ r=>.pure (.slice len len r)
 | _=>exact .stuck
end
end
variable{i i':Value}
section
attribute [-simp] Sem.runT_eq
section
variable{C:cM}{ρ:Ren}
theorem Fc(a:C.cn)(t:uaa):C.Q.info? t=C.P.info? t:=by unfold Tables.info?;rw[a]
theorem BW(a:C.cn)(t:uaa):C.Q.underlying t=C.P.underlying t:=by grind[Program.underlying,Fc]
theorem BX(a:C.cn)(t:uaa):C.Q.cellsOf t=C.P.cellsOf t:=by grind[Program.cellsOf,Fc]
theorem LL(a:C.cn)(t:uaa):C.Q.bytesOf t=C.P.bytesOf t:=by grind[Program.bytesOf,Fc]
theorem Fe(a:C.cn):C.Q.depth=C.P.depth:=by unfold Program.depth;rw[a]
theorem WV(b:C.cn):∀(d:Nat)(t:uaa)(off:Nat),byteOfCell C.Q d t off=byteOfCell C.P d t off:=by intro d;induction d with|zero=>intro t off;rfl|succ d a=>grind[byteOfCell,BW,BX,LL]
def WW(h:ρ.rel r r'):aq C ρ (λ_ a b=>a=none/\b=none) (viewAt r) (viewAt r'):=by
 unfold viewAt;refine .bind (aq.shape h) λσ s s' f e=>?_;subst e;refine .ite (λ_=>.pure ⟨U,U⟩) (λ_=>?_);refine .bind (aq.getObj (f.1 _ _ h)) λg o o' _ hg=>?_;obtain⟨d,hn,_⟩:=hg;cases d with
 |shut c=>cases o'<;>first|exact c.elim|exact .pure ⟨U,U⟩
 | _=>exact .pure ⟨U,U⟩
def ah4(h:dA ρ a a'):aq C ρ (λ_(_ _:Unit)=>True) (noView a) (noView a'):=by unfold noView;refine .bind (WW h.1) λσ s s' d⟨c,b⟩=>?_;subst c;subst b;exact .pure trivial
def BY(c:C.cn)(h:dA ρ a a'):aq C ρ (λ_ x y=>x=y) (byteOf a) (byteOf a'):=by unfold byteOf;rw[<-h.2.2];cases hs:a.spot with|some s=>exact .pure U|none=>simp only[];refine .bind .program λσ p q d⟨f,hq⟩=>?_;subst f;subst hq;refine .bind (ah4 (h.mono d)) λk _ _ g _=>?_;refine .bind (aq.shape (g.1 _ _ (d.1 _ _ h.1))) λj s s' i e=>?_;subst e;cases s with|none=>exact .stuck|some a3=>obtain⟨e,n⟩:=a3;simp only[BX c,LL c,WV c,Fe c];refine .ite (λ_=>.pure U) (λ_=>?_);rw[<-h.2.1];cases byteOfCell C.P C.P.depth e (a.off % C.P.cellsOf e)with|none=>exact .stuck|some b=>exact .pure U
def ah5(c:C.cn)(h:dA ρ a a')(cells bytes:Nat):aq C ρ dA (partAt a cells bytes) (partAt a' cells bytes):=by
 unfold partAt;refine .bind (BY c h) λσ x x' f e=>?_;subst e;have b:dA σ {block:=a.block,off:=a.off+cells} {block:=a'.block,off:=a'.off+cells}:=⟨f.1 _ _ h.1,by simp[h.2.1],U⟩;refine .bind (BY c b) λg y y' d e=>?_;subst e;refine .pure ?_;split
 .exact b.mono d
 .exact⟨d.1 _ _ b.1,b.2.1,U⟩
def ah6(c:C.cn)(h:dA ρ a a')(f:Field):aq C ρ dA (fieldPlace a f) (fieldPlace a' f):=by unfold fieldPlace;refine .bind (aq.sizeOf c _) λσ n d b e=>?_;subst e;exact .ite (λ_=>ah5 c (h.mono b) _ _) (λ_=>.pure ((h.mono b).add _))
def ah7(c:C.cn)(s:uaa)(h:ar ρ v v')(field:Nat):aq C ρ ar (Instr.fieldAt s v field) (Instr.fieldAt s v' field):=by
 unfold Instr.fieldAt;refine .bind (aq.underlying c s) λσ d l i⟨e,_⟩=>?_;subst e;cases d with
 |struct fields=>simp only[];cases fields[field]? with|none=>exact .stuck|some f=>simp only[];refine .bind (LK (h.mono i)) λm a a' k r=>?_;exact .bind (ah6 c r f) λj b b' _ g=>.pure (.ptr g)
 | _=>exact .stuck
def H6(P:cf)(t:uaa):Bool:=
 match P.underlying t with
 |some (.slice _)=>true
 | _=>false
def H7(P:cf)(t:uaa):Bool:=
 match P.underlying t with
 |some (.slice _)|some (.array _ _)=>true
 | _=>false
def ah8(c:C.cn)(t:uaa)(ht:H7 C.P t=true)(v:ar ρ x x')(hi:ar ρ i i'):aq C ρ ar (Instr.indexAt t x i) (Instr.indexAt t x' i'):=by
 unfold Instr.indexAt;refine .bind (aq.asIntOf hi) λσ E D w e=>?_;subst e;refine .bind (aq.underlying c t) λB d m y⟨e,hd⟩=>?_;subst e;have k:=(v.mono w).mono y;have s:=k;simp only[H7,hd]at ht;cases d with
 |array len elem=>refine .bind (LK k) λA a a' z r=>?_;refine .bind (R:=λ_ a b=>a=_/\b=_) (.pure ⟨U,U⟩) λg p q f⟨e,j⟩=>?_;subst e;subst j;refine .bind (aq.underlying c t) λg d m l⟨e,_⟩=>?_;subst e;replace f:=Ren.le_trans f l;refine .ite (λ_=>.bind (aq.sizeOf c elem) λo n u h e=>?_) (λ_=>.ite (λ_=>.unsupported) (λ_=>aq.boundsPanic c _ _ _ _));subst e;exact .pure (.ptr (((r.mono f).mono h).add _))
 |slice elem=>
  cases k<;>first|exact .stuck|skip
  all_goals
   refine .bind (R:=λ_ a b=>a=_/\b=_) (.pure ⟨U,U⟩) λg p q f⟨e,j⟩=>?_;subst e;subst j;refine .bind (aq.underlying c t) λg d m l⟨e,_⟩=>?_;subst e
  .exact aq.boundsPanic c _ _ _ _
  .cases s;rename_i r;replace f:=Ren.le_trans f l;refine .ite (λ_=>.bind (aq.sizeOf c elem) λo n u h e=>?_) (λ_=>.ite (λ_=>.unsupported) (λ_=>aq.boundsPanic c _ _ _ _));subst e;exact .pure (.ptr (((r.mono f).mono h).add _))
 | _=>cases ht
def H8(P:cf)(t:uaa):Bool:=
 match P.underlying t with
 |some (.array _ _)=>true
 | _=>false
def ah_(a:C.cn)(t:uaa)(ht:H8 C.P t=true)(c:ar ρ x x')(hi:ar ρ i i'):aq C ρ ar (Instr.index t x i) (Instr.index t x' i'):=by
 unfold Instr.index;refine .bind (aq.asIntOf hi) λσ q p f e=>?_;subst e;refine .bind (aq.underlying a t) λo d m g⟨e,hd⟩=>?_;subst e;have j:=(c.mono f).mono g;simp only[H8,hd]at ht;cases d with
 |array len elem=>cases j with|agg hs h=>refine .ite (λ_=>.bind (aq.sizeOf a elem) λl n k b e=>?_) (λ_=>aq.boundsPanic a _ _ _ _);subst e;exact aq.part a elem (aM.mono b ⟨hs,h⟩) _| _=>exact .stuck
 | _=>cases ht
end
end
variable{Ff hi jQ lo mx mx':Option Value}
section
attribute [-simp] Sem.runT_eq
inductive m4{ap aK:Type}(R:ap->aK->Prop):Option ap->Option aK->Prop
 |none:m4 R none none
 |some {a:ap} {b:aK} (h:R a b):m4 R (some a) (some b)
theorem m4.mono{ap aK:Type}{R S:ap->aK->Prop}(c:∀a b,R a b->S a b){a:Option ap}{b:Option aK}(h:m4 R a b):m4 S a b:=by cases h with|none=>exact .none|some h=>exact .some (c _ _ h)
abbrev ww(ρ:Ren):=m4 (ar ρ)
theorem ww.mono{ρ σ:Ren}(c:Ren.le ρ σ){a b:Option Value}(h:ww ρ a b):ww σ a b:=m4.mono (λ_ _ x=>x.mono c) h
theorem m4.isSome{ap aK:Type}{R:ap->aK->Prop}{a:Option ap}{b:Option aK}(h:m4 R a b):a.isSome=b.isSome:=by cases h<;>rfl
section
variable{C:cM}{ρ:Ren}
def LM(c:C.cn)(h:ar ρ x x')(y:Nat)(code:BoundsCode):aq C ρ (λ_ a b=>a=b) (Instr.sliceBound x y code) (Instr.sliceBound x' y code):=by unfold Instr.sliceBound;refine .bind (aq.asIntOf h) λσ d g f e=>?_;subst e;obtain⟨k,i⟩:=d;exact .ite (λ_=>.pure U) (λ_=>aq.boundsPanic c _ _ _ _)
def aia(i:C.cn)(isSlice:Bool)(len cap:Nat)(o:ww ρ lo Ff)(n:ww ρ hi jQ)(g:ww ρ mx mx'):
 aq C ρ (λ_ a b=>a=b) (Instr.sliceBounds isSlice len cap lo hi mx) (Instr.sliceBounds isSlice len cap Ff jQ mx'):=by
 unfold Instr.sliceBounds;have j:∀(σ:Ren)(m h:Nat),Ren.le ρ σ->aq C σ (λ_ a b=>a=b)
  (do let l <-(match lo with|some v=>Instr.sliceBound v h (if mx.isSome then .slice3C else .sliceB)|none=>pure 0);pure (l,h,m))
  (do let l <-(match Ff with|some v=>Instr.sliceBound v h (if mx'.isSome then .slice3C else .sliceB)|none=>pure 0);pure (l,h,m)):=by
  intro σ m h c;rw[g.isSome];cases o with|none=>exact .bind (R:=λ_ a b=>a=b) (.pure U) λ_ a b _ e=>.pure JS|some hv=>exact .bind (LM i (hv.mono c) _ _) λ_ a b _ e=>.pure JS
 cases g with
 |none=>simp only[];refine .bind (R:=λ_ a b=>a=b) (.pure U) λσ m m' c e=>?_;subst e;cases n with|none=>simp only[];refine .bind (R:=λ_ a b=>a=b) (.pure U) λf h k d e=>?_;subst e;have:=j f m h (Ren.le_trans c d);grind|some hv=>simp only[];refine .bind (LM i (hv.mono c) _ _) λf h k d e=>?_;subst e;have:=j f m h (Ren.le_trans c d);grind
 |some hv=>simp only[];refine .bind (LM i hv _ _) λσ m m' c e=>?_;subst e;cases n with|none=>refine .bind (R:=λ_ a b=>a=b) .stuck λf h k d e=>?_;subst e;have:=j f m h (Ren.le_trans c d);grind|some hv=>simp only[];refine .bind (LM i (hv.mono c) _ _) λf h k d e=>?_;subst e;have:=j f m h (Ren.le_trans c d);grind
def aib(f:C.cn)(t:uaa)(ht:H6 C.P t=true)(o:ar ρ x x')(m:ww ρ lo Ff)(s:ww ρ hi jQ)(h:ww ρ mx mx'):
 aq C ρ ar (Instr.sliceAt t x lo hi mx) (Instr.sliceAt t x' Ff jQ mx'):=by
 unfold Instr.sliceAt;refine .bind (aq.underlying f t) λσ d p c⟨e,hd⟩=>?_;subst e;simp only[H6,hd]at ht;cases d with
 |slice elem=>
  unfold Instr.slice;refine .bind (aq.underlying f t) λq d p g⟨e,i⟩=>?_;subst e;rw[hd]at i;cases i;replace c:=Ren.le_trans c g;have k:=o.mono c;have l:=k;cases k<;>first|exact .stuck|skip
  all_goals
   refine .bind (aia f true _ _ (m.mono c) (s.mono c) (h.mono c)) λq a b g e=>?_;subst e;refine .bind (aq.sizeOf f elem) λv n u j e=>?_;subst e;refine .pure ?_
  .split<;>exact .j2 _ _
  .cases l;rename_i r;split
   .exact .slice _ _ ((r.mono g).mono j)
   .exact .slice _ _ (((r.mono g).mono j).add _)
 | _=>cases ht
def aic(b:C.cn)(t:uaa)(h:ar ρ x x'):aq C ρ ar (Instr.makeInterface t x) (Instr.makeInterface t x'):=by unfold Instr.makeInterface;refine .bind (aq.underlying b t) λσ d c a⟨e,_⟩=>?_;subst e;cases d<;>first|exact .stuck|exact .pure (.iface t (h.mono a))
def aid(b:C.cn)(p:C.sE)(t:uaa){l l' c c':Value}(h:ar ρ l l')(k:ar ρ c c'):aq C ρ ar (Instr.makeSlice t l c) (Instr.makeSlice t l' c'):=by
 unfold Instr.makeSlice;refine .bind (aq.underlying b t) λσ d K j⟨e,_⟩=>?_;subst e;cases d with
 |slice elem=>
  simp only[];refine .bind (aq.asInt (h.mono j)) λL n F u e=>?_;subst e;refine .bind (aq.asInt ((k.mono j).mono u)) λJ m m' I e=>?_;subst e;refine .bind (aq.typeInfo b elem) λE i i' H⟨e,_⟩=>?_;subst e;refine .ite (λ_=>.ite (λ_=>.cut (aq.runtimePanic b _)) (λ_=>.ite (λ_=>.cut (aq.runtimePanic b _)) (λ_=>.bind (aq.choose _) λD x y _ e=>by subst e;exact .cut (aq.runtimePanic b _)))) (λ_=>?_);refine .bind (aq.askRoom _) λB _ _ _ _=>.bind (aq.sizeOf b elem) λM s s' _ e=>?_;subst e;refine .ite (λ_=>.bind (R:=λ_ x y=>x=y/\kL x) (.pure ⟨U,λi v h=>AF⟩) λf z o _⟨e,g⟩=>?_)
   (λ_=>.bind (aq.zeroValue b p elem) λf y y' _⟨w,q⟩=>.bind (R:=λ_ x y=>x=y/\kL x) (.pure ⟨by rw[w],q.cells⟩) λA z o _⟨e,g⟩=>?_)
  all_goals
   subst e;exact .bind (aq.newRow elem ((g.Qh _).rel _)) λ_ a a' _ r=>.pure (.slice _ _ r)
 | _=>exact .stuck
def aif(t:uaa):aq C ρ ar (Instr.makeMap t none) (Instr.makeMap t none):=.bind (aq.new (.map 0 .nil)) λ_ a b _ r=>.pure (.map r.1)
def aig(h:ar ρ x x')(i:Nat):aq C ρ ar (Instr.extract x i) (Instr.extract x' i):=by
 unfold Instr.extract;cases h with
 |@tuple a a' hs h=>simp only[];cases c:a[i]? with|none=>exact .stuck|some v=>obtain⟨v',b,d⟩:=aM.some ⟨hs,h⟩ c;rw[b];exact .pure d
 | _=>exact .stuck
def WY(h:ar ρ x x'):aq C ρ (λ_ a b=>a=b) (Builtin.lenOf x) (Builtin.lenOf x'):=by cases h<;>first|exact .pure U|exact .stuck
def LQ(size n:Nat)(h:ar ρ x x'):aq C ρ aM (Builtin.firstCells size n x) (Builtin.firstCells size n x'):=by
 cases h with
 |j2 l c=>exact .pure (.nil ρ)
 |slice l c r=>exact aq.loadCells r _
 |string s=>refine .pure ⟨U,λi v v' a d=>?_⟩;rw[a]at d;cases d;simp only[vcl,vaj]at a;obtain⟨b,_,rfl⟩:=a;exact .int _ _
 | _=>exact .stuck
theorem kL.zeroCells(h:kL z)(n:Nat):kL (Builtin.zeroCells z n):=h.Qh _
end
end
variable{rI:df}
section
attribute [-simp] Sem.runT_eq
section
variable{C:cM}{ρ:Ren}
def Qk(P:cf)(w:aL)(a:Addr)(n:Nat):∃b,(Builtin.holdsCells a n).run P w=.ok b w:=by unfold Builtin.holdsCells;rw[m2];simp only[Go.shape,Sem.run];cases w.shape? a.block<;>exact⟨_,U⟩
def aih(P:cf)(w:aL)(size d n:Nat)(base:uan)(x:Value):∃b,(Builtin.mayShare size d n base x).run P w=.ok b w:=by
 unfold Builtin.mayShare;cases base with
 |none=>
  simp only[];rw[m2];simp only[Pure.pure,Sem.run,Bool.not_true,vai,vef];split
  .obtain⟨y,c⟩:=Qk P w _ (n*size);exact⟨_,by rw[m2,c];rfl⟩
  simp_all
 |some a=>
  simp only[];obtain⟨y,c⟩:=Qk P w a (d*size);rw[m2,c];simp only[];rw[m2];simp only[Go.frozen,Sem.run];rw[m2];simp only[Pure.pure,Sem.run];split
  .simp_all
  .split
   .obtain⟨y,c⟩:=Qk P w _ (n*size);exact⟨_,by rw[m2,c];rfl⟩
   simp_all
def aii(f:C.cn)(p:C.sE)(ats:uar)(t:uaa){args:df}(h:aM ρ args rI):aq C ρ ar (Builtin.append_ ats t args) (Builtin.append_ ats t rI):=by
 unfold Builtin.append_;cases h0:ats[0]? with|none=>exact .stuck|some A=>
 cases O:args[0]? with|none=>exact .stuck|some s=>
 cases N:args[1]? with|none=>exact .stuck|some x=>
 obtain⟨s',Q,hs⟩:=h.some O;obtain⟨x',P,g⟩:=h.some N;rw[Q,P];refine .bind (aq.underlying f A) λσ d Y m⟨e,_⟩=>?_;subst e;cases d with
 |slice elem=>
  have H:=hs.mono m;replace g:=g.mono m;have F:=H;cases H<;>first|exact .stuck|skip
  all_goals
   refine .bind (aq.sizeOf f elem) λZ size _ l1 e=>?_;subst e;cases ats[1]?<;>try(refine .bind (aq.underlying f _) λj d _ l2⟨e,_⟩=>?_;subst e;replace l1:=Ren.le_trans l1 l2)
  all_goals
   refine .bind (R:=λ_ a b=>a=b) (.pure rfl) λj z _ l2 e=>?_;subst e;replace l1:=Ren.le_trans l1 l2;refine .ite (λ_=>.bind (aq.asInt (g.mono l1)) λE n _ l2 e=>?_) (λ_=>.bind (WY (g.mono l1)) λE n _ l2 e=>?_)
  all_goals
   subst e;replace l1:=Ren.le_trans l1 l2;try
    refine .ite (λ_=>.cut (aq.runtimePanic f _)) (λ_=>.bind (aq.typeInfo f elem) λLR i _ v⟨e,_⟩=>?_);subst e;refine .ite (λ_=>.bind (aq.choose _) λ_ _ _ _ e=>by subst e;exact .cut (aq.runtimePanic f _)) (λ_=>.bind (R:=λ_ a b=>a=b) (.pure rfl) λE k _ u e=>?_);subst e;replace l1:=Ren.le_trans (Ren.le_trans l1 v) u
  all_goals
   refine .ite (λ_=>.bind (.ite (λ_=>LQ _ _ (g.mono l1)) (λ_=>.ite (λ_=>.pure (.nil _)) (λ_=>.bind (aq.zeroValue f p elem) λj z D _⟨e,l⟩=>Im))) λσ a a' m q=>?_) (λ_=>.bind (aq.typeInfo f elem) λσ i i' l2⟨e,_⟩=>?_)
   .have W:=F.mono (Ren.le_trans l1 m);cases W;first|exact .pure (.j2 _ _)|skip
    all_goals
     rename_i r;exact .bind (aq.storeCells (r.add _) (cL.BT q) 0) λj _ _ l2 _=>.pure (.slice _ _ (r.mono l2))
   .subst e;refine .ite (λ_=>.cut (aq.runtimePanic f _)) (λ_=>.bind (aq.typeInfo f elem) λQl i i' v⟨e,_⟩=>?_);subst e;refine .ite (λ_=>.cut (.ite (λ_=>aq.runtimePanic f _) (λ_=>.none λw=>?_))) (λ_=>.bind (aq.choose _) λX c c' u e=>?_)
    .obtain⟨b,M⟩:=aih C.P w size _ _ _ x;rw[m2,M];cases b<;>exact id
    .subst e;refine .bind (aq.typeInfo f elem) λW0 i _ J⟨e,_⟩=>.bind (by subst e;exact aq.askRoom _) λS _ _ B _=>?_;replace l1:=Ren.le_trans (Ren.le_trans (Ren.le_trans (Ren.le_trans (Ren.le_trans l1 l2) v) u) J) B;refine .bind (LQ _ _ (F.mono l1)) λV o o' B L=>.bind (.ite (λ_=>LQ _ _ (g.mono (Ren.le_trans l1 B))) (λ_=>.ite (λ_=>.pure (.nil _)) (λ_=>.bind (aq.zeroValue f p elem) λj z D _⟨e,l⟩=>Im))) λU a a' y q=>.bind (aq.zeroValue f p elem) λT z D I⟨e,l⟩=>?_;subst e;exact .bind (aq.newRow elem (((L.mono (Ren.le_trans y I)).append (q.mono I)).append ((l.cells.zeroCells _).rel _))) λ_ r r' _ K=>.pure (.slice _ _ K)
 | _=>exact .stuck
end
end
variable{b b':Addr}
section
attribute [-simp] Sem.runT_eq
def qC(P:cf):Nat->TypeId->Bool
 |0,_=>true
 |d+1,t=>
  match P.underlying t with
  |some .bool|some (.int _)|some .string|some (.slice _)=>true
  |some (.struct fs)=>fs.all λf=>qC P d f.type
  |some (.array _ e)=>qC P d e
  | _=>false
section
variable{C:cM}{ρ:Ren}
abbrev cn{ap:Type}:Ren->ap->ap->Prop:=λ_ a b=>a=b
def Qn{ap aK:Type}{R:Ren->ap->aK->Prop}{m:Sem ap}{m':Sem aK}(h:(∀a b b',ρ.rel a b->ρ.rel a b'->b=b')->(∀a a' b,ρ.rel a b->ρ.rel a' b->a=a')->(∀g,g<=C.P.globals.size->ρ.rel g g)->aq C ρ R m m'):aq C ρ R m m':=
 λS w w' c hg d=>h c.one c.inj c.nD S w w' c hg d
def W4{ap aK:Type}{c:Ren}{f f':ap->aK->Sem (ForInStep aK)}(l:List ap)(h:∀(ρ:Ren),Ren.le c ρ->∀a∈l,∀s,aq C ρ cn (f a s) (f' a s)):∀(ρ:Ren),Ren.le c ρ->∀(s:aK),aq C ρ cn (forIn l s f) (forIn l s f'):=by induction l with|nil=>intro ρ _ s;exact .pure U|cons a l g=>intro ρ d s;simp only[List.forIn_cons];refine .bind (h ρ d a Ab s) λσ x y l2 e=>?_;subst e;cases x with|done b=>exact .pure U|yield b=>grind[Ren.le_trans]
def Qo{ap aK:Type}{f f':ap->aK->Sem (ForInStep aK)}(l:Array ap)(h:∀(σ:Ren),Ren.le ρ σ->∀a∈l,∀s,aq C σ cn (f a s) (f' a s))(s:aK):aq C ρ cn (forIn l s f) (forIn l s f'):=by rw[<-Array.forIn_toList,<-Array.forIn_toList];exact W4 l.toList (λρ b a c s=>h ρ b a AF s) ρ (Ren.le_refl _) s
def Qp{aK:Type}{f f':Nat->aK->Sem (ForInStep aK)}(n:Nat)(h:∀(σ:Ren),Ren.le ρ σ->∀i s,aq C σ cn (f i s) (f' i s))(s:aK):aq C ρ cn (forIn [0:n] s f) (forIn [0:n] s f'):=by rw[Std.Legacy.Range.forIn_eq_forIn_range',Std.Legacy.Range.forIn_eq_forIn_range'];exact W4 _ (λρ b a _ s=>h ρ b a s) ρ (Ren.le_refl _) s
theorem W6(a:C.cn)(t:uaa):C.Q.underlyingId t=C.P.underlyingId t:=by grind[Program.underlyingId,Fc]
theorem aim(b:C.cn):∀(n:Nat)(t u:uaa),C.Q.alikeButTags n t u=C.P.alikeButTags n t u:=by intro n;induction n with|zero=>intro t u;rfl|succ n a=>simp_all[Program.alikeButTags,Fc]
theorem LU(a:C.cn)(t:uaa):C.Q.stoodInHeld t=C.P.stoodInHeld t:=by
 have e:C.Q.cutTypes=C.P.cutTypes:=by rw[a]
 unfold Program.stoodInHeld Program.stoodInAs;grind[BW,aim,W6,Fc,Fe]
abbrev ain(ρ:Ren)(a b:Option (Addr×Bool)):Prop:=m4 (λx y=>dA ρ x.1 y.1/\x.2=y.2) a b
def aio(h:ρ.rel r r'):aq C ρ ain (numberAt r) (numberAt r'):=by
 unfold numberAt;refine .bind (aq.shape h) λσ s s' c e=>?_;subst e;refine .ite (λ_=>.pure .none) (λ_=>?_);refine .bind (aq.getObj (c.1 _ _ h)) λd o o' _ hg=>?_;obtain⟨b,hn,_⟩:=hg;cases b with
 |shut a=>cases o'<;>first|exact a.elim|exact .pure .none
 |number h l=>exact .pure (.some ⟨h,U⟩)
 | _=>exact .pure .none
def Aa(h:dA ρ a a'):aq C ρ (λσ x y=>dA σ x.1 y.1/\x.2=y.2) (behindNumber a) (behindNumber a'):=by unfold behindNumber;refine .bind (aio h.1) λσ x y b hn=>.pure ?_;cases hn with|none=>exact⟨h.mono b,U⟩|some k=>exact k
def dA.LV(one:∀a b b',ρ.rel a b->ρ.rel a b'->b=b')(inj:∀a a' b,ρ.rel a b->ρ.rel a' b->a=a')(h:dA ρ a a')(k:dA ρ b b'):(a==b)=(a'==b')/\(a.block==b.block)=(a'.block==b'.block):=by obtain⟨b1,i,e⟩:=a;obtain⟨b2,o2,kt⟩:=a';obtain⟨p,g,d⟩:=b;obtain⟨bk,f,c⟩:=b';obtain⟨o,n,m⟩:=h;obtain⟨l,j,k3⟩:=k;grind
def W7(g:C.cn):∀(d:Nat)(t:uaa),qC C.P d t=true->∀(ρ:Ren){x x' y y':Value},ar ρ x x'->ar ρ y y'->aq C ρ cn (Op.equalIn d t x y) (Op.equalIn d t x' y'):=by
 intro d;induction d with
 |zero=>intro t _ ρ x x' y y' _ _;exact .unsupported
 |succ d R=>
  intro t ht ρ x x' y y' Z Y;unfold Op.equalIn;refine .bind (aq.underlying g t) λσ u Q S⟨e,hu⟩=>?_;subst e;simp only[qC,hu]at ht;have w:=Z.mono S;have j:=Y.mono S;cases u with
  |bool=>
   cases w with
   |bool a=>cases j with|bool b=>exact .pure rfl| _=>exact .stuck
   | _=>exact .stuck
  |int k=>
   cases w with
   |int H n1=>
    cases j with
    |int z eJ=>exact .ite (λ_=>.pure rfl) (λ_=>.stuck)
    |ptr r=>
     cases n1 with
     |ofNat m=>cases m with|zero=>exact .pure rfl|succ m=>exact .unsupported
     |negSucc m=>exact .unsupported
    |lQ=>
     cases n1 with
     |ofNat m=>cases m with|zero=>exact .unsupported|succ m=>exact .unsupported
     |negSucc m=>exact .unsupported
    | _=>exact .stuck
   |ptr r=>
    cases j with
    |int z eJ=>
     cases eJ with
     |ofNat m=>cases m with|zero=>exact .pure rfl|succ m=>exact .unsupported
     |negSucc m=>exact .unsupported
    |ptr W=>
     refine .bind (Aa r) λU p P l1⟨hp,_⟩=>.bind (Aa (W.mono l1)) λQl q q' l2⟨hq,_⟩=>.bind .program λE r r' T⟨B,A⟩=>?_;subst B;subst A;have F:=hp.mono (Ren.le_trans l2 T);have V:=hq.mono T;refine Qn λone inj nD=>?_;have X:C.Q.globals.size=C.P.globals.size:=by rw[g]
     obtain⟨B,A⟩:=dA.LV one inj F V;have e3:decide (p.1.block<C.P.globals.size)=decide (P.1.block<C.Q.globals.size):=by
      rw[X];have:p.1.block<C.P.globals.size↔P.1.block<C.P.globals.size:=by
       constructor
       .intro h;have:=one _ _ _ (nD _ (vdu h)) F.1;omega
       .intro h;have:=inj _ _ _ (nD _ (vdu h)) F.1;omega
      grind
     rw[<-A,<-e3,<-B];refine .ite (λ_=>.bind (BY g F) λW0 x x' gt e=>.bind (BY g (V.mono gt)) λaik y y' _ e'=>.pure AF) (λ_=>.bind (aq.typeInfo g t) λW0 i i' _⟨e,_⟩=>?_);subst e;split
     .exact .ite (λ_=>.pure rfl) (λ_=>.unsupported)
     .exact .unsupported
    | _=>exact .unsupported
   |lQ=>cases j<;>exact .unsupported
   | _=>cases j<;>first|exact .stuck|exact .unsupported
  |string=>
   cases w with
   |string a=>cases j with|string b=>exact .pure rfl| _=>exact .stuck
   | _=>exact .stuck
  |slice e=>
   cases w with
   |j2 l c=>cases j with|j2 l c=>exact .pure rfl|slice l c r=>exact .pure rfl| _=>exact .stuck
   |slice l c r=>cases j with|j2 l c=>exact .pure rfl|slice l c r=>exact .stuck| _=>exact .stuck
   | _=>exact .stuck
  |struct fields=>
   cases w with
   |agg J N=>
    cases j with
    |agg L M=>
     simp only[van]at ht;refine .bind .program λU p q l1⟨B,A⟩=>?_;subst B;subst A;rw[LU g];refine .ite (λ_=>.cut .unsupported) (λ_=>?_)
     .refine .bind (Qo fields (λcv lt f hf s=>.ite (λ_=>?_) (λ_=>.pure rfl)) _) λE x y _ e=>by subst e;obtain⟨o,_⟩:=x;cases o<;>exact(.pure rfl:aq C E cn (Pure.pure _) (Pure.pure _))
      have D:=Ren.le_trans l1 lt;exact .bind (aq.part g _ (aM.mono D ⟨J,N⟩) _) λBZ u Q H O=>.bind (aq.part g _ (aM.mono (Ren.le_trans D H) ⟨L,M⟩) _) λI v v' z K=>
       .bind (R _ (ht f hf) I (O.mono z) K) λLR b b' _ e=>CS
    | _=>exact .stuck
   | _=>exact .stuck
  |array n e=>
   cases w with
   |agg J N=>
    cases j with
    |agg L M=>
     refine .bind (aq.sizeOf g e) λU m m' l1 em=>?_;subst em;refine .bind (Qp n (λcv lt i s=>?_) _) λE x y _ e=>by subst e;obtain⟨o,_⟩:=x;cases o<;>exact(.pure rfl:aq C E cn (Pure.pure _) (Pure.pure _))
     have D:=Ren.le_trans l1 lt;exact .bind (aq.part g _ (aM.mono D ⟨J,N⟩) _) λBZ u Q H O=>.bind (aq.part g _ (aM.mono (Ren.le_trans D H) ⟨L,M⟩) _) λI v v' z K=>
      .bind (R _ ht I (O.mono z) K) λLR b b' _ e=>CS
    | _=>exact .stuck
   | _=>exact .stuck
  | _=>cases ht
end
end
variable{k' y y':Value}
section
attribute [-simp] Sem.runT_eq
section
variable{C:cM}{ρ:Ren}
def W8(a:C.cn)(empty:Bool):∀(n:Nat)(t:uaa),qC C.P n t=true->∀(ρ:Ren){v v':Value},ar ρ v v'->aq C ρ (λ_(_ _:Unit)=>True) (Instr.checkKey empty n t v) (Instr.checkKey empty n t v'):=by
 intro n;induction n with
 |zero=>intro t _ ρ v v' _;exact .unsupported
 |succ n g=>
  intro t ht ρ v v' hv;unfold Instr.checkKey;refine .bind (aq.underlying a t) λσ u y o⟨e,l⟩=>?_;subst e;simp only[qC,l]at ht;have b:=hv.mono o;cases u with
  |struct fields=>cases b with|agg hs h=>simp only[van]at ht;refine .bind (Qo fields (λr lt f p s=>.ite (λ_=>?_) (λ_=>.pure U)) _) λ_ _ _ _ _=>.pure trivial;exact .bind (aq.part a _ (aM.mono lt ⟨hs,h⟩) _) λd x x' k c=>.bind (g _ (ht f p) d c) λj _ _ _ _=>.pure U| _=>exact .stuck
  |array len e=>cases b with|agg hs h=>refine .bind (Qp len (λr lt i s=>?_) _) λ_ _ _ _ _=>.pure trivial;refine .bind (aq.sizeOf a e) λw m m' q em=>?_;subst em;exact .bind (aq.part a _ (aM.mono (Ren.le_trans lt q) ⟨hs,h⟩) _) λd x x' k c=>.bind (g _ ht d c) λj _ _ _ _=>.pure U| _=>exact .stuck
  |bool|int|string|slice=>cases b<;>exact .pure trivial
  | _=>cases ht
abbrev lT(ρ:Ren):List MapEntry->List MapEntry->Prop:=cL (rH ρ)
theorem lT.mono{σ:Ren}(a:Ren.le ρ σ){l l':List MapEntry}(h:lT ρ l l'):lT σ l l':=cL.mono (λ_ _ x=>x.mono a) h
def Qq(ρ:Ren)(a b:Option (Nat×Value)):Prop:=m4 (λx y=>x.1=y.1/\ar ρ x.2 y.2) a b
def aiq(g:C.cn)(t:uaa)(ht:qC C.P Op.maxDepth t=true):∀(l l':List MapEntry)(ρ:Ren)(i:Nat){k k':Value},ar ρ k k'->lT ρ l l'->aq C ρ Qq (Instr.findAsking t k l i) (Instr.findAsking t k' l' i):=by intro l;induction l with|nil=>intro l' ρ i k k' _ h;cases h;exact .pure .none|cons e l d=>intro l' ρ i k k' hk h;cases h with|cons c f=>simp only[Instr.findAsking];refine .bind (W7 g Op.maxDepth t ht ρ hk c.key) λσ b b' a j=>?_;subst j;exact .ite (λ_=>.pure (.some ⟨U,c.val.mono a⟩)) (λ_=>d _ σ (i+1) (hk.mono a) (lT.mono a f))
def air(d:TypeDesc)(b:ar ρ x x')(a:ar ρ y y'):Instr.sameNow d x y=Instr.sameNow d x' y':=by cases d<;>cases b<;>first|rfl|(cases a<;>rfl)
def ais(d:TypeDesc){k:Value}(hk:ar ρ k k'):∀(l l':List MapEntry)(i:Nat),lT ρ l l'->m4 (Qq ρ) (Instr.findNow d k l i) (Instr.findNow d k' l' i):=by
 intro l;induction l with
 |nil=>intro l' i h;cases h;exact .some .none
 |cons e l c=>
  intro l' i h;cases h with
  |cons a f=>
   simp only[Instr.findNow,<-air d hk a.key];cases Instr.sameNow d k e.key with
   |none=>exact .none
   |some b=>
    cases b
    .exact c _ (i+1) f
    .exact .some (.some ⟨U,a.val⟩)
def W9(d:C.cn)(t:uaa)(ht:qC C.P Op.maxDepth t=true){l l':List MapEntry}{k:Value}(hk:ar ρ k k')(h:lT ρ l l'):aq C ρ Qq (Instr.findKey t k l) (Instr.findKey t k' l'):=by unfold Instr.findKey;refine .bind (aq.underlying d t) λσ u f c⟨e,g⟩=>?_;subst e;have:=ais (ρ:=σ) u (hk.mono c) l l' 0 (h.mono c);revert this;generalize Instr.findNow u k l 0=a;generalize Instr.findNow u k' l' 0=b;intro this;cases this with|none=>exact aiq d t ht l l' σ 0 (hk.mono c) (h.mono c)|some h=>exact .pure h
def xT(P:cf)(t:uaa):Bool:=
 match P.underlying t with
 |some (.map k _)=>qC P Op.maxDepth k
 | _=>true
def ait(f:C.cn)(s:C.sE)(t:uaa)(ht:xT C.P t=true)(y:ar ρ x x')(hi:ar ρ i i')(ok:Bool):aq C ρ ar (Instr.lookup t x i ok) (Instr.lookup t x' i' ok):=by
 unfold Instr.lookup;refine .bind (aq.underlying f t) λσ u N m⟨e,A⟩=>?_;subst e;cases u with
 |map key elem=>
  simp only[xT,A]at ht;have F:=y.mono m;cases F<;>first|exact .stuck|skip
  all_goals first|(refine .bind (R:=λσ es es'=>lT σ es.toList es'.toList) (.pure .nil) λq es es' l1 c=>?_)|(rename_i j;refine .bind (aq.getObj j) λH o o' l0 hg=>?_;obtain⟨B,-,-⟩:=hg;cases B<;>first|exact .stuck|skip;rename_i h;refine .bind (R:=λσ es es'=>lT σ es.toList es'.toList) (.pure h) λq es es' l1 c=>?_;replace l1:=Ren.le_trans l0 l1)
  all_goals
   have D:es.isEmpty=es'.isEmpty:=by have:=c.length;simp at this;simp[Array.isEmpty,this]
   have l:=hi.mono (Ren.le_trans m l1);have dN:∀(d:Ren)(v v':Value)(b:Bool),ar d v v'->ar d (if ok then .tuple #[v,.bool b]else v) (if ok then .tuple #[v',.bool b]else v'):=by
    intro d v v' b h;cases ok
    .exact h
    .exact .E9 (by simpa using aM.append (aM.one h) (aM.one (.bool b)))
   dsimp only;rw[<-D];refine .bind (W8 f _ 10000 key ht q l) λd _ _ l2 _=>.bind (W9 f key ht (l.mono l2) (c.mono l2)) λL r r' E j=>?_;cases j with|none=>refine .bind (aq.zeroValue f s elem) λK z J E⟨e,w⟩=>?_;subst e;exact .bind (R:=λσ a b=>a.2=b.2/\ar σ a.1 b.1) (.pure ⟨U,w.rel _⟩) λI p g _ k=>.pure EZ|@some a b h=>obtain⟨n,v⟩:=a;obtain⟨M,v'⟩:=b;exact .bind (R:=λσ a b=>a.2=b.2/\ar σ a.1 b.1) (.pure ⟨U,h.2⟩) λI p g _ k=>.pure EZ
 | _=>exact .stuck
end
end
variable{m m':Value}
section
attribute [-simp] Sem.runT_eq
section
variable{C:cM}{ρ:Ren}
def aiu{f g:Value×Value->Bool}:∀(l l' m m':uad),cL (ar ρ) l l'->cL (ar ρ) m m'->(∀x x' y y',ar ρ x x'->ar ρ y y'->f (x,y)=g (x',y'))->(l.zip m).all f=(l'.zip m').all g:=by intro l;induction l with|nil=>intro l' m m' h k e;cases h;simp|cons x l a=>intro l' m m' h k e;cases h with|cons c ht=>cases k with|nil=>simp|cons b d=>simp only[List.zip_cons_cons,vbi,e _ _ _ _ c b,a _ _ _ ht d e]
def aiv(one:∀a b b',ρ.rel a b->ρ.rel a b'->b=b')(inj:∀a a' b,ρ.rel a b->ρ.rel a' b->a=a'):∀(n:Nat){x x' y y':Value},ar ρ x x'->ar ρ y y'->Instr.sameBits n x y=Instr.sameBits n x' y':=by
 intro n;induction n with
 |zero=>
  intro x x' y y' e c;cases e with
  |ptr r=>cases c with|ptr d=>have:=(dA.LV one inj r d).1;simp only[Instr.sameBits];rw[Bool.eq_iff_iff]at this⊢;simpa using this| _=>rfl
  | _=>cases c<;>rfl
 |succ n f=>
  intro x x' y y' e c;cases e with
  |ptr r=>cases c with|ptr d=>have:=(dA.LV one inj r d).1;simp only[Instr.sameBits];rw[Bool.eq_iff_iff]at this⊢;simpa using this| _=>rfl
  |iface t h=>cases c with|iface u k=>simp only[Instr.sameBits,f h k]| _=>rfl
  |agg hs h=>
   cases c with
   |agg g i=>
    simp only[Instr.sameBits,hs,g];congr 1
    exact aiu _ _ _ _ (cL.BT ⟨hs,h⟩) (cL.BT ⟨g,i⟩) λ_ _ _ _ a b=>f a b
   | _=>rfl
  | _=>cases c<;>rfl
def aiw{a a' b b':Value}(h:ar ρ a a')(k:ar ρ b b'):aq C ρ ar (Instr.keyThatStays a b) (Instr.keyThatStays a' b'):=by
 refine Qn λone inj _=>?_;unfold Instr.keyThatStays;rw[<-aiv one inj 10000 h k];refine .ite (λ_=>.pure k) (λ_=>.bind (aq.choose _) λσ x y c e=>?_);subst e;refine .pure ?_;split
 .exact k.mono c
 .exact h.mono c
def lT.get{l l':List MapEntry}(h:lT ρ l l'):∀i:Nat,m4 (rH ρ) l[i]? l'[i]?:=by induction h with|nil=>intro i;simp;exact .none|cons b _ a=>intro i;cases i with|zero=>simp;exact .some b|succ i=>simpa using a i
theorem lT.modify{l l':List MapEntry}(h:lT ρ l l'){f g:MapEntry->MapEntry}(d:∀e b,rH ρ e b->rH ρ (f e) (g b)):∀i,lT ρ (l.modify i f) (l'.modify i g):=by induction h with|nil=>intro i;simp;exact .nil|cons a ht c=>intro i;cases i with|zero=>simp only[List.modify_zero_cons];exact .cons (d _ _ a) ht|succ i=>simp only[List.modify_succ_cons];exact .cons a (c i)
def W_{a b a' b':Value}(h:ar ρ a a')(k:ar ρ b b'):aM ρ #[a,b] #[a',b']:=by simpa using aM.append (aM.one h) (aM.one k)
def aix(d:C.cn)(L:C.sE)(N:C.upd=true)(t:uaa)(ht:xT C.P t=true){k:Value}(P:ar ρ m m')(hk:ar ρ k k'):aq C ρ ar (Instr.mapEntry t m k) (Instr.mapEntry t m' k'):=by
 unfold Instr.mapEntry;refine .bind (aq.underlying d t) λσ u W D⟨e,l⟩=>?_;subst e;cases u with
 |map key elem=>
  simp only[xT,l]at ht;have M:=P.mono D;cases M with
  |pD=>exact aq.runtimePanic d _
  |map B=>
   refine .bind (aq.getObj B) λF o o' l1 hg=>?_;obtain⟨O,_,S⟩:=hg;cases O with
   |@map es es' clock h=>
    have mine:F.mine _:=S.resolve_right λx=>x.elim (λy=>by rw[N]at y;cases y.1) (λy=>by cases y);have s:=Ren.le_trans D l1;refine .bind (W8 d false 10000 key ht F (hk.mono s)) λX _ _ l2 _=>?_;refine .bind (W9 d key ht (hk.mono (Ren.le_trans s l2)) (lT.mono l2 h)) λJ r r' f Q=>?_;have p:=Ren.le_trans (Ren.le_trans s l2) f;have H:=f.1 _ _ (l2.1 _ _ (l1.1 _ _ B));have v:=f.2 _ (l2.2 _ mine);have g:=lT.mono (Ren.le_trans l2 f) h;cases Q with
    |none=>refine .bind (aq.zeroValue d L elem) λI z U c⟨e,w⟩=>?_;subst e;refine .bind (aq.setObj (c.1 _ _ H) (c.2 _ v) (.map _ ?_) Ab) λT _ _ _ _=>.pure (.E9 (W_ (w.rel _) (.int _ _)));simp only[Array.toList_push];exact cL.append (lT.mono c g) (.cons ⟨hk.mono (Ren.le_trans p c),w.rel _,rfl⟩ .nil)
    |@some a b R=>
     obtain⟨i,x⟩:=a;obtain⟨i',x'⟩:=b;obtain⟨rfl,A⟩:i=i'/\_:=R;simp only[]at A⊢;have hold:=lT.get g i;rw[vea,vea]at hold;have j:((es[i]?).map (λe=>(e.born:Int))).getD 0=((es'[i]?).map (λe=>(e.born:Int))).getD 0:=by revert hold;generalize es[i]?=a;generalize es'[i]?=b;intro hold;cases hold with|none=>rfl|some n=>simp[n.born]
     refine .bind (aiw (ρ:=J) ?_ (hk.mono p)) λI q V c hq=>?_
     .revert hold;generalize es[i]?=a;generalize es'[i]?=b;intro hold;cases hold with|none=>exact hk.mono p|some n=>exact n.key
     .rw[<-j];refine .bind (aq.setObj (c.1 _ _ H) (c.2 _ v) (.map _ ?_) Ab) λT _ _ K _=>.pure (.E9 (W_ (A.mono (Ren.le_trans c K)) (.int _ _)));rw[vem,vem];refine lT.modify (lT.mono c g) (λe Y E=>?_) i;exact⟨hq,E.val,E.born⟩
   | _=>exact .stuck
  | _=>exact .stuck
 | _=>exact .stuck
def aiA{p:ube}{l l':List MapEntry}(h:lT ρ l l'):l.findIdx? (λe=>p e.born)=l'.findIdx? (λe=>p e.born):=by induction h with|nil=>rfl|cons b _ a=>simp only[List.findIdx?_cons,b.born,a]
def aiB(d:C.upd=true)(t:uaa){s s':Value}(g:ar ρ m m')(hs:ar ρ s s')(hv:ar ρ v v'):aq C ρ (λ_(_ _:Unit)=>True) (Instr.entryStore t m s v) (Instr.entryStore t m' s' v'):=by
 unfold Instr.entryStore;cases g with
 |map a=>
  refine .bind (aq.getObj a) λj o o' l1 hg=>?_;obtain⟨f,_,k⟩:=hg;cases f with
  |@map es es' clock h=>
   have mine:j.mine _:=k.resolve_right λx=>x.elim (λy=>by rw[d]at y;cases y.1) (λy=>by cases y);refine .bind (aq.asInt (hs.mono l1)) λq b b' l2 e=>?_;subst e;have e:es.findIdx? (λe=>(e.born:Int)==b)=es'.findIdx? (λe=>(e.born:Int)==b):=by obtain⟨l⟩:=es;obtain⟨m⟩:=es';simp only[List.findIdx?_toArray];exact aiA (p:=λn=>(n:Int)==b) h
   rw[e];cases es'.findIdx? (λe=>(e.born:Int)==b)with|none=>exact .unsupported|some i=>refine aq.setObj (l2.1 _ _ (l1.1 _ _ a)) (l2.2 _ mine) (.map _ ?_) Ab;rw[vem,vem];refine lT.modify (lT.mono l2 h) (λe r c=>?_) i;exact⟨c.key,hv.mono (Ren.le_trans l1 l2),c.born⟩
  | _=>exact .stuck
 | _=>exact .stuck
end
end
section
attribute [-simp] Sem.runT_eq
section
variable{C:cM}{ρ:Ren}
theorem aM.two{a b a' b':Value}(h:ar ρ a a')(k:ar ρ b b'):aM ρ #[a,b] #[a',b']:=by simpa using aM.append (aM.one h) (aM.one k)
def aiC(b:C.cn)(ats:uar)(t:uaa){args:df}(h:aM ρ args rI):aq C ρ ar (Builtin.len_ ats t args) (Builtin.len_ ats t rI):=by
 unfold Builtin.len_;cases h0:ats[0]? with|none=>exact .stuck|some ty=>
 cases m:args[0]? with|none=>exact .stuck|some x=>
 obtain⟨x',p,f⟩:=h.some m;rw[p];refine .bind (aq.underlying b ty) λσ u d j⟨e,_⟩=>?_;subst e;have a:=f.mono j;cases u with
 |string=>cases a with|string s=>exact .pure (.int _ _)| _=>exact .stuck
 |array n e=>exact .pure (.int _ _)
 |pointer arr=>refine .bind (aq.underlying b arr) λq u d _⟨e,_⟩=>?_;subst e;cases u with|array n e=>exact .pure (.int _ _)| _=>exact .stuck
 |slice e=>cases a with|j2 l c=>exact .pure (.int _ _)|slice l c r=>exact .pure (.int _ _)| _=>exact .stuck
 |map k e=>
  cases a with
  |pD=>exact .pure (.int _ _)
  |map g=>
   refine .bind (aq.getObj g) λq o o' l1 hg=>?_;obtain⟨i,_,_⟩:=hg;cases i with
   |@map es es' clock h=>
    have:es.size=es'.size:=by simpa using h.length
    refine .pure ?_;rw[this];exact .int _ _
   | _=>exact .stuck
  | _=>exact .stuck
 |chan k e=>cases a with|pE=>exact .pure (.int _ _)| _=>exact .stuck
 | _=>exact .stuck
def aiD(a:C.cn)(ats:uar)(t:uaa){args:df}(h:aM ρ args rI):aq C ρ ar (Builtin.cap_ ats t args) (Builtin.cap_ ats t rI):=by
 unfold Builtin.cap_;cases h0:ats[0]? with|none=>exact .stuck|some ty=>
 cases i:args[0]? with|none=>exact .stuck|some x=>
 obtain⟨x',j,f⟩:=h.some i;rw[j];refine .bind (aq.underlying a ty) λσ u d g⟨e,_⟩=>?_;subst e;have b:=f.mono g;cases u with
 |array n e=>exact .pure (.int _ _)
 |pointer arr=>refine .bind (aq.underlying a arr) λm u d _⟨e,_⟩=>?_;subst e;cases u with|array n e=>exact .pure (.int _ _)| _=>exact .stuck
 |slice e=>cases b with|j2 l c=>exact .pure (.int _ _)|slice l c r=>exact .pure (.int _ _)| _=>exact .stuck
 |chan k e=>cases b with|pE=>exact .pure (.int _ _)| _=>exact .stuck
 | _=>exact .stuck
def aiE(d:C.cn)(ats:uar)(t:uaa){args:df}(h:aM ρ args rI):aq C ρ ar (Builtin.copy_ ats t args) (Builtin.copy_ ats t rI):=by
 unfold Builtin.copy_;cases h0:ats[0]? with|none=>exact .stuck|some ty=>
 cases l:args[0]? with|none=>exact .stuck|some x=>
 cases k:args[1]? with|none=>exact .stuck|some y=>
 obtain⟨x',p,i⟩:=h.some l;obtain⟨y',o,b⟩:=h.some k;rw[p,o];refine .bind (aq.underlying d ty) λσ u w a⟨e,_⟩=>?_;subst e;cases u with
 |slice elem=>
  have f:=i.mono a;have g:=f;cases f<;>first|exact .stuck|skip
  all_goals
   refine .bind (WY (b.mono a)) λA n v l1 e=>?_;subst e;refine .bind (aq.sizeOf d elem) λz s s' l2 e=>?_;subst e;refine .bind (LQ s _ (b.mono (Ren.le_trans (Ren.le_trans a l1) l2))) λq c c' m j=>?_;cases g
  .exact .pure (.int _ _)
  .rename_i r;exact .bind (aq.storeCells (r.mono (Ren.le_trans (Ren.le_trans l1 l2) m)) (cL.BT j) 0) λ_ _ _ _ _=>.pure (.int _ _)
 | _=>exact .stuck
def Xa(op:BinOp)(k:IntKind)(x y:Int):aq C ρ ar (Op.intArith op k x y) (Op.intArith op k x y):=by unfold Op.intArith;cases op<;>first|exact .stuck|exact .pure (.int _ _)
def aiF(a:C.cn)(op:BinOp)(k:IntKind)(x y:Int):aq C ρ ar (Op.intDiv op k x y) (Op.intDiv op k x y):=by unfold Op.intDiv;repeat' first|exact .stuck|exact .pure (.int _ _)|exact aq.runtimePanic a _ |split
def aiG(op:BinOp)(x y:Int):aq C ρ ar (Op.intCmp op x y) (Op.intCmp op x y):=by unfold Op.intCmp;cases op<;>first|exact .stuck|exact .pure (.bool _)
theorem Qt(op:BinOp)(x y:ByteArray):aq C ρ ar (Op.stringOp op x y) (Op.stringOp op x y):=by unfold Op.stringOp;cases op with|add=>exact .ite (λ_=>.unsupported) (λ_=>.pure (.string _))| _=>first|exact .stuck|exact .pure (.bool _)
def Xb:UnOp->Bool
 | .xor=>false
 | _=>true
def aiH(op:UnOp)(a:Xb op=true)(h:ar ρ x x'):aq C ρ ar (Op.unary op x) (Op.unary op x'):=by
 unfold Op.unary;cases op with
 |neg=>cases h with|int k n=>exact Xa _ _ _ _|ptr r=>exact .unsupported| _=>exact .stuck
 |xor=>cases a
 |not=>cases h with|bool b=>exact .pure (.bool _)| _=>exact .stuck
 |plus=>cases h<;>exact .stuck
end
end
section
attribute [-simp] Sem.runT_eq
section
variable{C:cM}{ρ:Ren}
theorem aiI(c:C.cn):∀(d:Nat)(t:uaa)(b:Nat),cellOfByte C.Q d t b=cellOfByte C.P d t b:=by intro d;induction d with|zero=>intro t b;rfl|succ d a=>grind[cellOfByte,BW,BX,LL]
def aiJ(a:C.cn)(d:Nat)(e:uaa)(c o:Nat)(b:Int):cellAtBytes C.Q d e c o b=cellAtBytes C.P d e c o b:=by grind[cellAtBytes,BX,LL,WV,aiI]
def Xc(a:C.cn)(ats:uar)(t:uaa)(i:ar ρ x x')(h:ar ρ y y'):aq C ρ ar (Builtin.unsafeAdd_ ats t #[x,y]) (Builtin.unsafeAdd_ ats t #[x',y']):=by
 obtain⟨b,b',g,rfl,rfl⟩|hs:(∃b b',m4 (dA ρ) b b'/\x=.pointer b/\x'=.pointer b')\/aq C ρ ar (Builtin.unsafeAdd_ ats t #[x,y]) (Builtin.unsafeAdd_ ats t #[x',y']):=by unfold Builtin.unsafeAdd_;cases i with|lQ=>exact .inl ⟨none,none,.none,U,U⟩|ptr r=>exact .inl ⟨_,_,.some r,U,U⟩| _=>exact .inr .stuck
 .unfold Builtin.unsafeAdd_;refine .bind (aq.asInt h) λσ n l l1 e=>?_;subst e;refine .ite (λ_=>?_) (λ_=>.ite (λ_=>.cut .unsupported) (λ_=>?_))
  .cases g with|none=>exact .unsupported|some r=>refine .bind (WW (l1.1 _ _ r.1)) λk v v' l2⟨f,d⟩=>?_;subst f;subst d;exact .pure (.ptr (r.mono (Ren.le_trans l1 l2)))
  .cases g with
   |none=>exact .unsupported
   |some r=>
    refine .bind (aq.shape (l1.1 _ _ r.1)) λk s s' l2 e=>?_;subst e;cases s with
    |none=>exact .unsupported
    |some ec=>
     obtain⟨e,c⟩:=ec;refine .bind .program λm p q j⟨f,d⟩=>?_;subst f;subst d;simp only[aiJ a,Fe a,BX a];rw[<-r.2.1];split
     .exact .pure (.ptr ⟨j.1 _ _ (l2.1 _ _ (l1.1 _ _ r.1)),U,r.2.2⟩)
     .exact .unsupported
 grind
def Qu(b:C.cn)(t:uaa)(d:ar ρ x x')(c:ar ρ y y'):aq C ρ ar (movedNumber t x y) (movedNumber t x' y'):=by
 unfold movedNumber;refine .bind (aq.underlying b t) λσ u o l1⟨e,_⟩=>?_;subst e;refine .ite (λ_=>.cut .unsupported) (λ_=>?_);have j:=d.mono l1;cases j with
 |ptr r=>refine .bind (Aa r) λz p q l2 h=>?_;obtain⟨a,BV⟩:=p;obtain⟨a',k⟩:=q;obtain⟨i,rfl⟩:=h;refine .bind (Xc b #[] t (.ptr i) ((c.mono l1).mono l2)) λs v v' w hv=>?_;have g:=hv;cases hv with|ptr f=>exact .bind (aq.new (.number f BV)) λl n m _ hn=>.pure (.ptr ⟨hn.1,U,U⟩)| _=>exact .pure g
 | _=>exact Xc b #[] t (ar.mono l1 d) (c.mono l1)
def Xd(d:C.cn)(k:dA ρ a a')(j:dA ρ b b'):aq C ρ cn (Op.twoPlaces a b) (Op.twoPlaces a' b'):=by
 unfold Op.twoPlaces;refine .bind .program λσ p q l1⟨m,f⟩=>?_;subst m;subst f;refine Qn λone inj nD=>?_;have i:C.Q.globals.size=C.P.globals.size:=by rw[d]
 have c:=k.mono l1;have g:=j.mono l1;obtain⟨_,f⟩:=dA.LV one inj c g;have l:decide (a.block ≥ C.P.globals.size)=decide (a'.block ≥ C.Q.globals.size):=by
  rw[i];have:a.block<C.P.globals.size↔a'.block<C.P.globals.size:=by
   constructor
   .intro h;have:=one _ _ _ (nD _ (vdu h)) c.1;omega
   .intro h;have:=inj _ _ _ (nD _ (vdu h)) c.1;omega
  grind
 have n:(a.block != b.block)=(a'.block != b'.block):=AF;rw[n,l];exact .ite (λ_=>.cut .unsupported) (λ_=>.bind (BY d c) λr x x' l2 e=>.bind (BY d (g.mono l2)) λo y y' _ s=>.pure AF)
def aiK(f:C.cn)(k:IntKind)(d:dA ρ a a')(c:dA ρ b b'):aq C ρ ar (Op.addrSub k a b) (Op.addrSub k a' b'):=by unfold Op.addrSub;exact .bind (Xd f d c) λσ x y _ e=>by subst e;exact .pure (.int _ _)
def aiL(f:C.cn)(op:BinOp)(d:dA ρ a a')(c:dA ρ b b'):aq C ρ ar (Op.addrCmp op a b) (Op.addrCmp op a' b'):=by unfold Op.addrCmp;exact .bind (Xd f d c) λσ x y _ e=>by subst e;cases op<;>first|exact .unsupported|exact .pure (.bool _)
def aiM(d:C.cn)(k:IntKind)(b:dA ρ a a')(n:Int):aq C ρ ar (Op.addrMod k a n) (Op.addrMod k a' n):=by
 unfold Op.addrMod;refine .bind (aq.shape b.1) λσ s s' l1 e=>?_;subst e;cases s with
 |none=>exact .unsupported
 |some ec=>
  obtain⟨e,c⟩:=ec;refine .bind (aq.typeInfo d e) λf i i' l2⟨e,_⟩=>?_;subst e;exact .ite (λ_=>.cut .unsupported)
   (λ_=>.bind (BY d (b.mono (Ren.le_trans l1 l2))) λ_ x y _ e=>by subst e;exact .pure (.int _ _))
def Xe(a:C.cn):∀(d:Nat)(t:uaa)(ρ:Ren){x x' y y':Value},ar ρ x x'->ar ρ y y'->aq C ρ cn (Op.eqGuardIn d t x y) (Op.eqGuardIn d t x' y'):=by
 intro d;induction d with
 |zero=>intro t ρ x x' y y' _ _;exact .unsupported
 |succ d D=>
  intro t ρ x x' y y' I H;unfold Op.eqGuardIn;refine .bind (aq.underlying a t) λσ u B E⟨e,M⟩=>?_;subst e;have z:=I.mono E;have j:=H.mono E;cases u with
  |interface ms=>
   cases z with
   |nilIface=>cases j with|nilIface=>exact .pure U| _=>exact .pure U
   | _=>exact .pure U
  |struct fields=>
   cases z with
   |agg h w=>
    cases j with
    |agg q r=>
     refine .bind (Qo fields (λJ lt f N s=>.ite (λ_=>?_) (λ_=>.pure U)) _) λg x y _ e=>by subst e;obtain⟨o,_⟩:=x;cases o<;>exact(.pure U:aq C g cn (Pure.pure _) (Pure.pure _))
     exact .bind (aq.part a _ (aM.mono lt ⟨h,w⟩) _) λL u B p A=>.bind (aq.part a _ (aM.mono (Ren.le_trans lt p) ⟨q,r⟩) _) λc v v' l k=>
      .bind (D _ c (A.mono l) k) λK b b' _ e=>CS
    | _=>exact .pure U
   | _=>exact .pure U
  |array n e=>
   cases z with
   |agg h w=>
    cases j with
    |agg q r=>
     refine .bind (aq.sizeOf a e) λO m m' l1 em=>?_;subst em;refine .bind (Qp n (λJ lt i s=>?_) _) λg x y _ e=>by subst e;obtain⟨o,_⟩:=x;cases o<;>exact(.pure U:aq C g cn (Pure.pure _) (Pure.pure _))
     have F:=Ren.le_trans l1 lt;exact .bind (aq.part a _ (aM.mono F ⟨h,w⟩) _) λL u B p A=>.bind (aq.part a _ (aM.mono (Ren.le_trans F p) ⟨q,r⟩) _) λc v v' l k=>
      .bind (D _ c (A.mono l) k) λK b b' _ e=>CS
    | _=>exact .pure U
   | _=>exact .pure U
  | _=>exact .pure U
def Xf(b:C.cn):∀(d:Nat)(t:uaa),C.Q.eqGuardType d t=C.P.eqGuardType d t:=by intro d;induction d with|zero=>intro t;rfl|succ d a=>grind[Program.eqGuardType,BW]
def aiN(a:C.cn)(op:BinOp)(t:uaa)(p q:uap)(h:ar ρ x x')(c:ar ρ y y'):aq C ρ (λ_(_ _:Unit)=>True) (eqGuard op t p q x y) (eqGuard op t p q x' y'):=by
 unfold eqGuard;refine .ite (λ_=>.pure trivial) (λ_=>?_);cases h with
 |nilIface=>cases c with|nilIface=>refine .ite (λ_=>.pure trivial) (λ_=>.bind (Xe a _ t ρ .nilIface .nilIface) λσ b b' _ e=>?_);subst e;exact .ite (λ_=>.unsupported) (λ_=>.pure trivial)| _=>exact .pure trivial
 |agg f j=>cases c with|agg g i=>refine .bind .program λu p q l1⟨n,m⟩=>.bind .program λo s r l2⟨l,k⟩=>?_;subst n;subst m;subst l;subst k;rw[Xf a,Fe a];have d:=Ren.le_trans l1 l2;refine .ite (λ_=>.pure trivial) (λ_=>.bind (Xe a _ t o ((ar.agg f j).mono d) ((ar.agg g i).mono d)) λσ b b' _ e=>?_);subst e;exact .ite (λ_=>.unsupported) (λ_=>.pure trivial)| _=>exact .pure trivial
 | _=>exact .pure trivial
end
end
section
attribute [-simp] Sem.runT_eq
def B2(P:cf)(op:BinOp)(t:uaa):Bool:=
 match op with
 | .eql| .neq=>qC P Op.maxDepth t
 | .shl| .shr| .and| .or| .xor| .andNot=>false
 | _=>match P.underlying t with|some .unsafePointer=>false| _=>true
section
variable{C:cM}{ρ:Ren}
def Qv(d:C.cn)(op:BinOp)(t:uaa)(c:B2 C.P op t=true)(k k':IntKind)(a b:Int):aq C ρ ar (binOp op t (.int k a) (.int k' b)) (binOp op t (.int k a) (.int k' b)):=by cases op<;>first|cases c|exact .ite (λ_=>.stuck) (λ_=>Xa _ _ _ _)|exact .ite (λ_=>.stuck) (λ_=>aiF d _ _ _ _)|exact .ite (λ_=>.stuck) (λ_=>aiG _ _ _)
theorem Qw(op:BinOp)(t:uaa)(a b:ByteArray):binOp op t (.string a) (.string b)=Op.stringOp op a b:=by cases op<;>rfl
def Xh(c:C.cn){t:uaa}(ht:qC C.P Op.maxDepth t=true)(b:ar ρ x x')(a:ar ρ y y'):aq C ρ cn (Op.equal t x y) (Op.equal t x' y'):=W7 c Op.maxDepth t ht ρ b a
def Xi(f:C.cn){t:uaa}(ht:qC C.P Op.maxDepth t=true)(d:ar ρ x x')(c:ar ρ y y'):
 aq C ρ ar (do pure (.bool (<-Op.equal t x y))) (do pure (.bool (<-Op.equal t x' y')))/\aq C ρ ar (do pure (.bool (!(<-Op.equal t x y)))) (do pure (.bool (!(<-Op.equal t x' y')))):=
 ⟨.bind (Xh f ht d c) λ_ a b _ e=>by subst e;exact .pure (.bool _),.bind (Xh f ht d c) λ_ a b _ e=>by subst e;exact .pure (.bool _)⟩
def aiO(a:C.cn)(op:BinOp)(t:uaa)(b:B2 C.P op t=true)(d:ar ρ x x')(c:ar ρ y y'):aq C ρ ar (binOp op t x y) (binOp op t x' y'):=by
 have g:=d;have i:=c;cases op
 case eql=>exact(have hq:=(Xi (ρ:=ρ) a b d c).1;EQ)
 case neq=>exact(have hq:=(Xi (ρ:=ρ) a b d c).2;EQ)
 all_goals first|exact absurd b Bool.false_ne_true|skip
 all_goals cases d<;>cases c<;>first
  |exact .stuck
  |exact .unsupported
  |exact Qv a _ _ b _ _ _ _
  |(rw[Qw];exact Qt _ _ _)
  |exact Qu a _ i g
  |exact Qu a t g (.int _ _)
  |exact .bind (Aa (by assumption)) λσ p h l1⟨f,_⟩=>aiM a _ f _
  |exact .bind (Aa (by assumption)) λσ p h l1⟨f,_⟩=>.bind (Aa (dA.mono l1 AF)) λl q j l2⟨hq,_⟩=>aiK a _ (f.mono l2) hq
  |exact .bind (Aa (by assumption)) λσ p h l1⟨f,_⟩=>.bind (Aa (dA.mono l1 AF)) λl q j l2⟨hq,_⟩=>aiL a _ (f.mono l2) hq
  |(refine .bind (aq.underlying a t) λσ u m l1⟨e,k⟩=>?_;subst e;simp only[B2,k]at b;cases u<;>first|exact absurd b Bool.false_ne_true|exact Qu a t (g.mono l1) (i.mono l1))
end
end
variable{l l':Nat}{assign body:Code}
section
attribute [-simp] Sem.runT_eq
section
variable{C:cM}{ρ:Ren}
def H_(h:ρ.rel l l'):aq C ρ (λσ r r'=>H2 C σ r r'/\σ.mine l') (Instr.getLoop l) (Instr.getLoop l'):=by unfold Instr.getLoop;refine .bind (aq.getObj h) λσ o o' l1 hg=>?_;obtain⟨a,_,b⟩:=hg;cases a with|loop c=>exact .pure ⟨c,b.resolve_right λx=>x.elim (λy=>AF) (λy=>by cases y)⟩| _=>exact .stuck
def Xj(fn:uaj)(h:∃f c,C.P.funcs[fn]?=some f/\f.body=some c){tmps d:df}(ht:aM ρ tmps d)(params:Array Tmp)(l:C.mg assign)(k:C.mg body){r r':ubf}(j:m4 ρ.rel r r'):
 aq C ρ (λσ x y=>σ.rel x.1 y.1/\rG σ x.2 y.2) (Instr.enterLoop fn tmps params assign body r) (Instr.enterLoop fn d params assign body r'):=by
 unfold Instr.enterLoop;cases j<;>first
  |refine .bind (aq.new (.deferred .nil)) λσ n g l1 hn=>.bind (R:=λσ x y=>σ.rel x.1 y.1/\rG σ x.2 y.2) (.pure ⟨hn.1,.cons ⟨.collected hn.1,.nil _⟩ .nil⟩) λb x y l2 a=>?_
  |refine .bind (H_ AF) λσ x y l1⟨i,_⟩=>.bind (R:=λσ x y=>σ.rel x.1 y.1/\rG σ x.2 y.2) (.pure ⟨i.defers,.nil⟩) λb x y l2 a=>?_
 all_goals exact .bind (aq.new (.loop ⟨U,U,(λc e=>Cn),U,h,ht.mono (Ren.le_trans l1 l2),U,U,l,U,k,a.1⟩)) λb n g l2 hn=>.pure ⟨hn.1,a.2.mono l2⟩
def Xk(h:ρ.rel l l')(c:C.cn):aq C ρ (λ_(_ _:Unit)=>True) (Instr.beginRound l) (Instr.beginRound l'):=by unfold Instr.beginRound;refine .bind (H_ h) λσ r r' l1⟨a,b⟩=>?_;refine .bind (aq.setObj (l1.1 _ _ h) b (.loop ⟨U,a.pending,a.LG,a.fn,a.known,a.tmps,a.params,a.assign,a.H3,a.body,a.H4,a.defers⟩) Ab) λd _ _ _ _=>?_;rw[<-a.state];cases r.state with|ready=>exact .pure trivial| _=>exact aq.runtimePanic c _
def aiP(h:ρ.rel l l')(jump:Option Code)(d:∀c,jump=some c->C.mg c):aq C ρ ar (Instr.endRound l jump) (Instr.endRound l' jump):=by unfold Instr.endRound;refine .bind (H_ h) λσ r r' l1⟨a,b⟩=>?_;exact .bind (aq.setObj (l1.1 _ _ h) b (.loop ⟨U,U,d,a.fn,a.known,a.tmps,a.params,a.assign,a.H3,a.body,a.H4,a.defers⟩) Ab) λe _ _ _ _=>.pure (.bool _)
def aiQ(h:ρ.rel l l')(f:C.cn):aq C ρ (λ_ a b=>a=b/\∀c,a=some c->C.mg c) (Instr.endLoop l) (Instr.endLoop l'):=by unfold Instr.endLoop;refine .bind (H_ h) λσ r r' l1⟨d,e⟩=>?_;rw[<-d.state];exact .ite (λ_=>.cut (aq.runtimePanic f _)) (λ_=>.bind (aq.setObj (l1.1 _ _ h) e (.loop ⟨U,d.pending,d.LG,d.fn,d.known,d.tmps,d.params,d.assign,d.H3,d.body,d.H4,d.defers⟩) Ab) λ_ _ _ _ _=>.pure ⟨d.pending,d.LG⟩)
def aiR{b b':Nat}(h:ρ.rel b b'):aq C ρ rG (Instr.takeDeferred b) (Instr.takeDeferred b'):=by unfold Instr.takeDeferred;refine .bind (aq.getObj h) λg o o' l2 hg=>?_;obtain⟨c,_,d⟩:=hg;cases c with|deferred a=>have mine:=d.resolve_right λx=>x.elim (λy=>AF) (λy=>by cases y);exact .bind (aq.setObj (l2.1 _ _ h) mine .taken Ab) λf _ _ e _=>.pure (a.mono e)| _=>exact .stuck
end
end
section
attribute [-simp] Sem.runT_eq
inductive pI(C:cM)(ρ:Ren):Next->Next->Prop
 |value {v v':Value} (h:ar ρ v v'):pI C ρ (.value v) (.value v')
 |skip:pI C ρ .skip .skip
 |enter {f:uaj} {fn:Func} {c:Code} {a a':df} (h:aM ρ a a') (hp:C.P.funcs[f]?=some fn) (hb:fn.body=some c):pI C ρ (.enter f a) (.enter f a')
 |round {l l':Nat} {f:uaj} {t cN:df} {assign body:Code} (hf:∃fn c,C.P.funcs[f]?=some fn/\fn.body=some c) (hl:ρ.rel l l') (ht:aM ρ t cN) (ha:C.mg assign) (hb:C.mg body):pI C ρ (.round l f t assign body) (.round l' f cN assign body)
structure cM.B3(C:cM):Prop where
 body:∀(f:uaj)(fn:Func)(c:Code),C.P.funcs[f]?=some fn->fn.body=some c->C.Q.funcs[f]?=some fn/\C.mg c/\fn.name≠ "runtime.NumGoroutine"
 bare:∀(f:uaj)(fn:Func),C.P.funcs[f]?=some fn->fn.body=none->∀(ρ:Ren)(a a':df),aM ρ a a'->aq C ρ (pI C) (callFunc f a) (callFunc f a')
section
variable{C:cM}{ρ:Ren}
def aiS(c:C.cn):aq C ρ cn Instr.panicnil Instr.panicnil:=by
 unfold Instr.panicnil;refine .bind aq.ahN λσ a b _ e=>?_;subst e;cases a with
 |strings env=>
  refine .bind .program λg p q _⟨f,d⟩=>?_;subst f;subst d;have:C.Q.godebug=C.P.godebug:=by rw[c]
  rw[this];exact .pure U
 | _=>exact .stuck
def aiT(c:C.cn)(h:ar ρ x x'):aq C ρ ar (Instr.panic x) (Instr.panic x'):=by unfold Instr.panic;cases h with|iface t hv=>exact .goPanic (.iface t hv)|nilIface=>refine .bind (aiS c) λσ a b _ e=>?_;subst e;exact .ite (λ_=>.goPanic .nilIface) (λ_=>aq.runtimePanic c _)| _=>exact .stuck
def aiU(hF:C.B3)(f:uaj){a a':df}(h:aM ρ a a'):aq C ρ (pI C) (callFunc f a) (callFunc f a'):=by cases b:C.P.funcs[f]? with|none=>refine .none λw=>?_;unfold callFunc;rw[m2];simp only[Go.program,Sem.run,b];exact id|some fn=>cases d:fn.body with|none=>exact hF.bare f fn b d ρ a a' h|some c=>obtain⟨hq,hok,hn⟩:=hF.body f fn c b d;unfold callFunc;refine .bind .program λσ p q l1⟨i,g⟩=>?_;subst i;subst g;rw[b,hq];simp only[];have e:(fn.name== "runtime.NumGoroutine")=false:=AF;simp only[e,d,Option.isNone_some,vai,vef];exact .pure (.enter (h.mono l1) b d)
end
end
section
attribute [-simp] Sem.runT_eq
def i7:Nat->Value->Bool
 | _,.bool _ | _,.int .. | _,.string _ | _,.pointer none| _,.slice none _ _ | _,.map none| _,.chan none| _,.nilFunc| _,.nilIface=>true
 | _,.func (.func _) a b=>a.isEmpty&&b.isEmpty
 |n+1,.iface _ v=>i7 n v
 |n+1,.agg a=>a.all (i7 n)
 |n+1,.tuple a=>a.all (i7 n)
 | _,_=>false
theorem Xl:∀(n:Nat)(v:Value),i7 n v=true->jm v:=by
 have fn:∀(n:Nat)(f:Fn)(a b:df),i7 n (.func f a b)=true->jm (.func f a b):=by
  intro n f a b h;cases f with
  |func f=>
   cases n<;>
   .simp only[i7,vaf,Array.isEmpty_iff]at h;obtain⟨rfl,rfl⟩:=h;exact .func f
  | _=>grind[i7]
 intro n;induction n with
 |zero=>
  intro v h;cases v with
  |bool b=>exact .bool b
  |int k n=>exact .int k n
  |string s=>exact .string s
  |pointer a=>cases a with|none=>exact .lQ|some a=>simp[i7]at h
  |slice a l c=>cases a with|none=>exact .j2 l c|some a=>simp[i7]at h
  |map r=>cases r with|none=>exact .pD|some a=>simp[i7]at h
  |chan r=>cases r with|none=>exact .pE|some a=>simp[i7]at h
  |nilFunc=>exact .nilFunc
  |nilIface=>exact .nilIface
  |func f a b=>grind
  | _=>simp[i7]at h
 |succ n d=>
  intro v h;cases v with
  |bool b=>exact .bool b
  |int k n=>exact .int k n
  |string s=>exact .string s
  |pointer a=>grind[i7]
  |slice a l c=>cases a with|none=>exact .j2 l c|some a=>simp[i7]at h
  |map r=>grind[i7]
  |chan r=>grind[i7]
  |nilFunc=>exact .nilFunc
  |nilIface=>exact .nilIface
  |func f a b=>grind
  |iface t v=>exact .iface t (d v (by grind[i7]))
  |agg a=>simp only[i7,van]at h;exact .agg λi v hv=>d v (h v (vbe hv))
  |tuple a=>simp only[i7,van]at h;exact .tuple λi v hv=>d v (h v (vbe hv))
  | _=>simp[i7]at h
def gu(P:cf):Operand->Bool
 | .tmp _ | .func _=>true
 | .const v=>i7 4 v
 | .global g=>decide (g<P.globals.size)
def Fj(P:cf)(c:Call):Bool:=
 (match c.callee with
  | .builtin b=>Qe b
  | .value f=>gu P f
  | _=>false)&&c.args.all (gu P)
def Xm:Fn->Bool
 | .func _=>true
 | _=>false
def Ib(P:cf)(c:Call):Bool:=
 (match c.callee with
  | .builtin .unsafeString=>true
  | _=>false)&&c.args.all (gu P)
def m6(P:cf)(upd:Bool):Op->Bool
 | .move x| .assign x| .box _ x| .load _ x| .makeInterface _ x| .fieldAddr _ x _ | .extract x _ | .panic x=>gu P x
 | .nilCheck x=>gu P x
 | .unOp op _ x=>Xb op&&gu P x
 | .alloc _=>true
 | .pick c a b=>gu P c&&gu P a&&gu P b
 | .build _ ps| .buildSlice _ _ ps=>ps.all λp=>gu P p.2
 | .store _ a v| .makeSlice _ a v=>gu P a&&gu P v
 | .indexAddr t a v=>H7 P t&&gu P a&&gu P v
 | .index t a v=>H8 P t&&gu P a&&gu P v
 | .makeMap _ r=>r.isNone
 | .lookup t x i _=>xT P t&&gu P x&&gu P i
 | .mapEntry t m k=>upd&&xT P t&&gu P m&&gu P k
 | .entryStore _ m s v=>upd&&gu P m&&gu P s&&gu P v
 | .binOp op t x y _=>B2 P op t&&gu P x&&gu P y
 | .makeFunc fn a b=>Xm fn&&a.all (gu P)&&b.all (gu P)
 | .slice t x l h m=>H6 P t&&gu P x&&l.all (gu P)&&h.all (gu P)&&m.all (gu P)
 | .call c=>Fj P c||(upd&&Ib P c)
 | _=>false
section
variable{C:cM}{ρ:Ren}
theorem nG{m m':Sem Value}(h:aq C ρ ar m m'):aq C ρ (pI C) (do pure (.value (<-m))) (do pure (.value (<-m'))):=.bind h λ_ _ _ _ hv=>.pure (.value hv)
def Xn{m m':Sem Unit}(h:aq C ρ (λ_(_ _:Unit)=>True) m m'):aq C ρ (pI C) (do m;pure .skip) (do m';pure .skip):=.bind h λ_ _ _ _ _=>.pure .skip
theorem aiW(c:C.cn)(d:C.sE)(b:Builtin)(e:Qe b=true)(ats:uar)(t:uaa)(cs:uat){a a':df}(h:aM ρ a a'):aq C ρ (pI C) (builtin b ats t cs a) (builtin b ats t cs a'):=by unfold builtin;cases b with|append=>exact .bind (aii c d ats t h) λ_ _ _ _ hv=>.pure (.value hv)|cap=>exact .bind (aiD c ats t h) λ_ _ _ _ hv=>.pure (.value hv)|copy=>exact .bind (aiE c ats t h) λ_ _ _ _ hv=>.pure (.value hv)|len=>exact .bind (aiC c ats t h) λ_ _ _ _ hv=>.pure (.value hv)| _=>cases e
def aiX:∀(l:List (Tmp×Value))(l':List (Tmp×Value)){t a:df},cL (λx y=>x.1=y.1/\ar ρ x.2 y.2) l l'->aM ρ t a->
 aM ρ (l.foldl (λtmps(p:Tmp×Value)=>tmps.setIfInBounds p.1 p.2) t) (l'.foldl (λtmps(p:Tmp×Value)=>tmps.setIfInBounds p.1 p.2) a):=by
 intro l;induction l with|nil=>intro l' t a h ht;cases h;exact ht|cons x l c=>intro l' t a h ht;cases h with|cons b d=>simp only[List.foldl_cons];exact c _ d (by rw[b.1];exact ht.set b.2 _)
def aiY:∀(ps:List Tmp)(l l':uad),cL (ar ρ) l l'->cL (λx y=>x.1=y.1/\ar ρ x.2 y.2) (ps.zip l) (ps.zip l'):=by intro ps;induction ps with|nil=>intro l l' _;exact .nil|cons p ps a=>intro l l' h;cases h with|nil=>exact .nil|cons b ht=>exact .cons ⟨U,b⟩ (a _ _ ht)
def aiZ(h:ρ.rel l l'){a a':df}(c:aM ρ a a'):aq C ρ (pI C) (Instr.yield l a) (Instr.yield l' a'):=by unfold Instr.yield;refine .bind (H_ h) λσ r r' l1⟨b,_⟩=>?_;rw[<-c.size,<-b.params,<-b.fn,<-b.assign,<-b.body];refine .ite (λ_=>.cut .stuck) (λ_=>.pure (.round b.known (l1.1 _ _ h) ?_ b.H3 b.H4));rw[<-Array.foldl_toList,<-Array.foldl_toList,Array.toList_zip,Array.toList_zip];exact aiX _ _ (aiY _ _ _ (cL.BT (c.mono l1))) b.tmps
def Ic(j:C.cn)(k:C.sE)(hF:C.B3){t d:Target}(ht:uM ρ t d){a a':df}(h:aM ρ a a'):aq C ρ (pI C) (invoke t a) (invoke d a'):=by unfold invoke;cases ht with|nil=>exact aq.runtimePanic j _|builtin b ats ty cs m=>grind[aiW]|collected l=>exact .stuck|@fn f f' c c' g i=>cases g with|func f=>exact aiU hF f (h.append i)|yield e=>exact aiZ e h
end
end
section
attribute [-simp] Sem.runT_eq
section
variable{C:cM}{ρ:Ren}
theorem aq.freeze(D:C.upd=true)(r:dA ρ a a')(n:Nat):aq C ρ (λ_(_ _:Unit)=>True) (Go.freeze a n) (Go.freeze a' n):=by
 intro S w w' d _ _;have v:∀b b',ρ.rel b b'->¬ρ.mine b'->∃o o',w.heap[b]?=some o/\E_ o/\w'.heap[b']?=some o'/\∀c e fr,o'≠ .cells c e fr:=λb b' f hn=>by
  rcases d.still b b' f hn with⟨x,_⟩|⟨x,_⟩|⟨o,g,hd⟩
  .grind
  .grind
  .obtain⟨p,A,m,B,k3⟩:=d.obj b b' f;rw[g]at m;cases m;refine⟨o,A,g,hd,B,λc e fr x=>?_⟩;subst x;cases hd with
   |coro=>cases k3 with|shut h=>exact h
   |number a l=>cases k3
 have get:∀(w:aL)(a:Addr)(b:Nat),(w.freeze a n).heap[b]?=(w.heap[b]?).map (λo=>if n=0 then o else if a.block=b then(match o with| .cells c e (lo,hi)=>.cells c e (if lo==hi then(a.off,a.off+n)else(min lo a.off,max hi (a.off+n)))|o=>o)else o):=by intro w a b;unfold World.freeze;grind
 have same:∀(w:aL)(a:Addr),(w.freeze a n).heap.size=w.heap.size/\(w.freeze a n).tape=w.tape/\(w.freeze a n).drawn=w.drawn/\(w.freeze a n).os=w.os/\(w.freeze a n).output=w.output:=by grind[World.freeze]
 obtain⟨K,kt,i,y,I⟩:=same w a;obtain⟨J,gv,k,j,z⟩:=same w' a';refine⟨ρ,w'.freeze a' n,?_,?_,λes=>⟨#[],by simp[Sem.events,Go.freeze,Sem.runT],Ab⟩⟩
 .refine .ok trivial ⟨λb b' f=>?_,d.one,d.inj,d.nD,by rw[i,k];exact d.sync,by rw[kt,i,gv,k];exact d.tape,by rw[y,j];exact d.env,by rw[kt];exact d.lone,λb b' f hn=>?_⟩
  .obtain⟨o,o',g,t,q⟩:=d.obj b b' f;rw[get,get,g,t];simp only[Option.map_some];refine⟨_,_,U,U,?_⟩;by_cases hn:n=0
   .grind
   simp only[hn,vef];by_cases e:a.block=b
   .subst e;have u:a'.block=b':=d.one _ _ _ r.1 f;subst u;simp only[vdg];cases q with
    |@cells c c' el fr aP E hF=>obtain⟨lo,hi⟩:=fr;have H:=hF.2 D;subst H;rw[r.2.1];exact .cells el E ⟨λ_ x=>x,λ_=>U⟩
    |map c h=>exact .map c h
    |stringIter s p=>exact .stringIter s p
    |BU a b c=>exact .BU a b c
    |mapIter h a b c=>exact .mapIter h a b c
    |loop h=>exact .loop h
    |deferred h=>exact .deferred h
    |taken=>exact .taken
    |number h l=>exact .number h l
    |shut h=>cases o'<;>first|exact h.elim|exact .shut trivial
   .have u:a'.block≠b':=λx=>e (d.inj _ _ _ (x▸r.1) f);grind
  .obtain⟨o,_,g,hd,_,_⟩:=v b b' f hn;rw[get,g];refine .inr (.inr ⟨o,?_,hd⟩);cases hd<;>(grind)
 .refine⟨Ren.le_refl _,λ_ h=>.inl h,AF,λ_ h=>.inl h,λ_ _ h=>.inl h,λb f hn=>?_,j,z,gv,AF⟩;rw[get];by_cases F:a'.block=b
  .subst F;obtain⟨_,o',_,_,t,q⟩:=v _ _ r.1 hn;grind
  grind
theorem ai0(b:C.cn):∀(d:Nat)(t u:uaa),sameLayout C.Q d t u=sameLayout C.P d t u:=by intro d;induction d with|zero=>intro t u;rfl|succ d a=>grind[sameLayout,BW,W6,LU]
theorem ai1(b:C.cn)(fits:TypeId->Bool):∀(d:Nat)(e:uaa)(c o n:Nat),rowAt C.Q fits d e c o n=rowAt C.P fits d e c o n:=by intro d;induction d with|zero=>intro e c o n;rfl|succ d a=>grind[rowAt,BW,BX,LU]
def ai2(b:C.cn):∀(d:Nat)(e:uaa)(c o:Nat)(u:uaa)(n:Nat),liesAt C.Q d e c o u n=liesAt C.P d e c o u n:=by intro d;induction d with|zero=>intro e c o u n;rfl|succ d a=>grind[liesAt,BW,ai1,ai0,Fe]
def ai3(b:C.cn)(r:dA ρ a a')(u:uaa)(n:Nat):aq C ρ (λ_ x y=>x=y) (variablesAt a u n) (variablesAt a' u n):=by unfold variablesAt;refine .bind .program λσ p q d⟨c,hq⟩=>?_;subst c;subst hq;refine .bind (aq.shape (d.1 _ _ r.1)) λg s s' f e=>?_;subst e;cases s with|none=>exact .pure U|some a3=>exact .pure (by simp only[ai2 b,Fe b,BX b,r.2.1])
theorem Xp:∀(n:Nat)(ρ:Ren){a a':Addr}(_:dA ρ a a')(acc:ByteArray),aq C ρ (λ_ x y=>x=y) (loadBytes a acc n) (loadBytes a' acc n)
 |0,ρ,a,a',r,acc=>.pure U
 |n+1,ρ,a,a',r,acc=>by
  unfold loadBytes;refine .bind (aq.load r) λσ v v' b hv=>?_;cases hv with
  |int k m=>cases k<;>first|exact Xp n σ ((r.mono b).add 1) _ |exact .stuck
  | _=>exact .stuck
def ai4(d:C.cn)(u:C.upd=true)(ats:uar)(t:uaa){x x':df}(h:aM ρ x x'):aq C ρ ar (Builtin.unsafeString_ ats t x) (Builtin.unsafeString_ ats t x'):=by
 obtain⟨l⟩:=x;obtain⟨l'⟩:=x';have hs:=h.size;simp only[ves]at hs;match l,l',hs with
 | [],[],_=>exact .stuck
 | [a],[a'],_=>exact .stuck
 |a::b::c::l,_::_::_::l',_=>exact .stuck
 | [a,b],[a',b'],_=>
  have A:ar ρ a a':=h.get 0 a a' U U;have z:ar ρ b b':=h.get 1 b b' U U;have key:∀(p f:uan),m4 (dA ρ) p f->aq C ρ ar (Builtin.unsafeString_ ats t #[.pointer p,b]) (Builtin.unsafeString_ ats t #[.pointer f,b']):=by intro p f v;unfold Builtin.unsafeString_;refine .bind (aq.asInt z) λσ n E g e=>?_;subst e;cases c6:ats[0]? with|none=>exact .stuck|some j=>simp only[];refine .ite (λ_=>.bind (R:=λ_ _ _=>False) (.runtimePanic d _) λ_ _ _ _ h=>h.elim) (λ_=>?_);refine .ite (λ_=>.bind (R:=λ_ _ _=>False) .unsupported λ_ _ _ _ h=>h.elim) (λ_=>?_);cases v with|none=>exact .ite (λ_=>.pure (.string _)) (λ_=>.runtimePanic d _)|@some q D hq=>refine .ite (λ_=>.pure (.string _)) (λ_=>?_);refine .bind (aq.elemOf d j) λH e F i w=>?_;subst w;refine .bind (ai3 d ((hq.mono g).mono i) e n.toNat) λo c c' k y=>?_;subst y;refine .ite (λ_=>?_) (λ_=>.unsupported);refine .bind (Xp n.toNat o (((hq.mono g).mono i).mono k) .empty) λB s s' m hs=>?_;subst hs;exact .bind (aq.freeze u ((((hq.mono g).mono i).mono k).mono m) n.toNat) λ_ _ _ _ _=>.pure (.string _)
  cases A with|lQ=>exact key none none .none|ptr r=>exact key _ _ (.some r)| _=>exact .stuck
theorem ai6(e:C.cn)(b:C.upd=true)(ats:uar)(t:uaa){cs:uat}{x x':df}(h:aM ρ x x'):aq C ρ (pI C) (do let d <-(pure {target:=.builtin .unsafeString ats t cs,args:=x}:Sem Deferred);invoke d.target d.args) (do let d <-(pure {target:=.builtin .unsafeString ats t cs,args:=x'}:Sem Deferred);invoke d.target d.args):=
 .bind (R:=λ_ d a=>d={target:=.builtin .unsafeString ats t cs,args:=x}/\a={target:=.builtin .unsafeString ats t cs,args:=x'}) (.pure ⟨U,U⟩) λσ d a c hd=>by obtain⟨rfl,rfl⟩:=hd;exact .bind (ai4 e b ats t (h.mono c)) λ_ _ _ _ hv=>.pure (.value hv)
end
end
variable{lA:uak}
section
attribute [-simp] Sem.runT_eq
section
variable{C:cM}{ρ:Ren}
def tw(C:cM)(ρ:Ren)(ev lA:uak):Prop:=∀x,gu C.P x=true->ar ρ (ev x) (lA x)
theorem tw.mono{σ:Ren}(b:Ren.le ρ σ){ev:uak}(h:tw C ρ ev lA):tw C σ ev lA:=λx a=>(h x a).mono b
def tw.args{ev:uak}(h:tw C ρ ev lA){a:uav}(f:a.all (gu C.P)=true):aM ρ (a.map ev) (a.map lA):=by refine⟨Ab,λi v v' e d=>?_⟩;simp only[vcl,vaj]at e d;obtain⟨x,c,rfl⟩:=e;obtain⟨y,b,rfl⟩:=d;rw[c]at b;cases b;exact h x (van.1 f x (vbe c))
def tw.Qx{ev:uak}(h:tw C ρ ev lA){a:Option Operand}(b:a.all (gu C.P)=true):ww ρ (a.map ev) (a.map lA):=by cases a with|none=>exact .none|some x=>exact .some (h x AF)
def tw.parts{ev:uak}(h:tw C ρ ev lA)(b:(ps.all λp=>gu C.P p.2)=true):cL (sF ρ) (ps.map λ(i,x)=>(i,ev x)).toList (ps.map λ(i,x)=>(i,lA x)).toList:=
 ahY λp a=>h p.2 (van.1 b p a)
def ai7{f:Fn}(h:Xm f=true):tv ρ f f:=by cases f with|func f=>exact .func f| _=>cases h
def ai8{ev:uak}(h:tw C ρ ev lA){c:Call}(e:Fj C.P c=true)(t:uaa):aq C ρ z8 (resolve ev c t) (resolve lA c t):=by unfold resolve;simp only[Fj,vaf]at e;have g:=h.args e.2;obtain⟨a,_⟩:=e;cases i:c.callee with|builtin b=>rw[i]at a;exact .pure ⟨.builtin b _ _ _ a,g⟩|invoke r n=>grind|value f=>rw[i]at a;have d:=h f a;simp only[];revert d;generalize ev f=v;generalize lA f=v';intro d;unfold Deferred.ofValue;cases d with|func j o m l k=>exact .pure ⟨.fn j ⟨m,k⟩,aM.append ⟨o,l⟩ g⟩|nilFunc=>exact .pure ⟨.nil,g⟩| _=>exact .stuck
def ai9(c:C.cn)(h:ar ρ x x'){ev:uak}{o:Oper}{mF:uap}(f:o.op=.nilCheck mF)(e:ev mF=x)(d:lA mF=x'):aq C ρ (pI C) (execOp ev o) (execOp lA o):=by unfold execOp;rw[f];simp only[e,d];have a:=h;cases h with|lQ|nilIface|nilFunc=>exact aq.runtimePanic c _|func b=>cases b<;>exact .pure (.value a)| _=>exact .pure (.value a)
def Xr(j:C.cn)(q:C.sE)(hF:C.B3){ev:uak}(h:tw C ρ ev lA){o:Oper}(g:m6 C.P C.upd o.op=true):aq C ρ (pI C) (execOp ev o) (execOp lA o):=by
 cases p:o.op<;>rw[p]at g<;>try exact absurd g Bool.false_ne_true
 case nilCheck x=>exact ai9 j (h x g) p U U
 all_goals
  unfold execOp;rw[p]
 case move x=>exact .pure (.value (h _ g))
 case assign x=>exact .pure (.value (h _ g))
 case pick c a b=>
  simp only[m6,vaf]at g;exact .bind (aq.asBool (h _ g.1.1)) λσ b b' w e=>by subst e;cases b<;>first|exact .pure (.value ((h _ g.2).mono w))|exact .pure (.value ((h _ g.1.2).mono w))
 case alloc t=>grind[nG,ahU]
 case box t x=>exact nG (ahV _ (h _ g))
 case build t ps=>exact nG (ah1 j q _ (h.parts g))
 case buildSlice t n ps=>exact nG (ah3 j q _ _ (h.parts g))
 case load t a=>exact nG (ahS j _ (h _ g))
 case store t a x=>
  simp only[m6,vaf]at g;exact Xn (ahT j _ (h _ g.1) (h _ g.2))
 case binOp op t x y u=>
  simp only[m6,vaf]at g;exact nG (.bind (aiN j _ _ _ _ (h _ g.1.2) (h _ g.2)) λσ _ _ w _=>aiO j _ _ g.1.1 ((h _ g.1.2).mono w) ((h _ g.2).mono w))
 case unOp op t x=>exact by simp only[m6,vaf]at g;exact nG (aiH _ g.1 (h _ g.2))
 case makeInterface t x=>exact nG (aic j _ (h _ g))
 case makeFunc fn a b=>
  simp only[m6,vaf]at g;exact nG (.pure (.H0 (ai7 g.1.1) (h.args g.1.2) (h.args g.2)))
 case makeSlice t l c=>
  simp only[m6,vaf]at g;exact nG (aid j q _ (h _ g.1) (h _ g.2))
 case slice t x l D m=>
  simp only[m6,vaf]at g;exact nG (aib j _ g.1.1.1.1 (h _ g.1.1.1.2) (h.Qx g.1.1.2) (h.Qx g.1.2) (h.Qx g.2))
 case fieldAddr s x f=>exact nG (ah7 j _ (h _ g) _)
 case indexAddr t x i=>
  simp only[m6,vaf]at g;exact nG (ah8 j _ g.1.1 (h _ g.1.2) (h _ g.2))
 case index t x i=>
  simp only[m6,vaf]at g;exact nG (ah_ j _ g.1.1 (h _ g.1.2) (h _ g.2))
 case makeMap t r=>
  cases r with|none=>exact nG (aif _)|some r=>cases g
 case lookup t x i ok=>
  simp only[m6,vaf]at g;exact nG (ait j q _ g.1.1 (h _ g.1.2) (h _ g.2) _)
 case mapEntry t m k=>
  simp only[m6,vaf]at g;exact nG (aix j q g.1.1.1 _ g.1.1.2 (h _ g.1.2) (h _ g.2))
 case entryStore t m s v=>
  simp only[m6,vaf]at g;exact Xn (aiB g.1.1.1 _ (h _ g.1.1.2) (h _ g.1.2) (h _ g.2))
 case extract t i=>exact nG (aig (h _ g) _)
 case call c=>
  simp only[m6,Bool.or_eq_true,vaf]at g;rcases g with g|⟨z,g⟩
  .exact .bind (ai8 h g _) λσ d B _ hd=>Ic j q hF hd.target hd.args
  .simp only[Ib,vaf]at g;have A:=h.args g.2;grind[resolve,ai6]
 case panic x=>exact nG (aiT j (h _ g))
end
end
variable{f f':Frame}{es:uaq}
section
attribute [-simp] Sem.runT_eq
def j4(P:cf)(upd:Bool):Code->Bool
 | .skip| .exit _ | .label _ | .goto _ | .ret| .refuse _=>true
 | .region _ ops _=>ops.all λo=>m6 P upd o.op
 | .seq a b=>j4 P upd a&&j4 P upd b
 | .cond c a b=>gu P c&&j4 P upd a&&j4 P upd b
 | .block _ b| .loop b| .scope b=>j4 P upd b
 | .rangeFunc f _ a b=>gu P f&&j4 P upd a&&j4 P upd b
def cM.Qz(C:cM):Prop:=∀c,C.mg c↔j4 C.P C.upd c=true
inductive sH(C:cM)(ρ:Ren):Item->Item->Prop
 |code {c:Code} (h:C.mg c):sH C ρ (.code c) (.code c)
 |inBlock (id:Nat):sH C ρ (.inBlock id) (.inBlock id)
 |inLoop {c:Code} (h:C.mg c):sH C ρ (.inLoop c) (.inLoop c)
 |inScope {c:Code} (h:C.mg c):sH C ρ (.inScope c) (.inScope c)
 |inRegion {ops:du} (h:∀o∈ops,m6 C.P C.upd o.op=true) (todo:e8):sH C ρ (.inRegion ops todo) (.inRegion ops todo)
 |inRangeFunc {l l':Nat} (h:ρ.rel l l'):sH C ρ (.inRangeFunc l) (.inRangeFunc l')
 |endRangeFunc {l l':Nat} (h:ρ.rel l l'):sH C ρ (.endRangeFunc l) (.endRangeFunc l')
 |beginRound:sH C ρ .beginRound .beginRound
theorem sH.mono{C:cM}{ρ σ:Ren}(c:Ren.le ρ σ){a b:Item}(h:sH C ρ a b):sH C σ a b:=by cases h with|code h=>exact .code h|inBlock id=>exact .inBlock id|inLoop h=>exact .inLoop h|inScope h=>exact .inScope h|inRegion h t=>exact .inRegion h t|inRangeFunc h=>exact .inRangeFunc (c.1 _ _ h)|endRangeFunc h=>exact .endRangeFunc (c.1 _ _ h)|beginRound=>exact .beginRound
abbrev m7(C:cM)(ρ:Ren):=cL (sH C ρ)
theorem m7.mono{C:cM}{ρ σ:Ren}(c:Ren.le ρ σ){a b:fC}(h:m7 C ρ a b):m7 C σ a b:=cL.mono (λ_ _ x=>x.mono c) h
structure xW(ρ:Ren)(e e':PanicEntry):Prop where
 v:ar ρ e.v e'.v
 recovered:e.recovered=e'.recovered
 goexit:e.goexit=e'.goexit
theorem xW.mono{ρ σ:Ren}(c:Ren.le ρ σ){a b:PanicEntry}(h:xW ρ a b):xW σ a b:=⟨h.v.mono c,h.recovered,h.goexit⟩
inductive uO(ρ:Ren):FrameMode->FrameMode->Prop
 |run:uO ρ .run .run
 |returning:uO ρ .returning .returning
 |panicking {l l':List PanicEntry} (h:cL (xW ρ) l l'):uO ρ (.panicking l) (.panicking l')
theorem uO.mono{ρ σ:Ren}(c:Ren.le ρ σ){a b:FrameMode}(h:uO ρ a b):uO σ a b:=by cases h with|run=>exact .run|returning=>exact .returning|panicking h=>exact .panicking (cL.mono (λ_ _ x=>x.mono c) h)
structure eD(C:cM)(ρ:Ren)(f f':Frame):Prop where
 fn:f.fn=f'.fn
 known:∃fn c,C.P.funcs[f.fn]?=some fn/\fn.body=some c
 tmps:aM ρ f.tmps f'.tmps
 todo:m7 C ρ f.todo f'.todo
 defers:rG ρ f.defers f'.defers
 mode:uO ρ f.mode f'.mode
 kind:f.kind=f'.kind
 plain:f.kind=.normal\/f.kind=.deferred
 roundOf:m4 ρ.rel f.roundOf f'.roundOf
theorem eD.mono{C:cM}{ρ σ:Ren}(c:Ren.le ρ σ){a b:Frame}(h:eD C ρ a b):eD C σ a b:=
 ⟨h.fn,h.known,h.tmps.mono c,m7.mono c h.todo,rG.mono c h.defers,h.mode.mono c,h.kind,h.plain,h.roundOf.mono λ_ _ x=>c.1 _ _ x⟩
abbrev jn(C:cM)(ρ:Ren):=cL (eD C ρ)
theorem jn.mono{C:cM}{ρ σ:Ren}(c:Ren.le ρ σ){a b:dZ}(h:jn C ρ a b):jn C σ a b:=cL.mono (λ_ _ x=>x.mono c) h
def jo:Frame->List Frame->Prop
 |f,[]=>f.kind=.normal/\f.roundOf=none
 | _,c::cs=>jo c cs
def aY(fr:Frame)(cs:dZ):Goroutine:={frame:=fr,callers:=cs,status:=.running,dying:=none}
def i9(C:cM)(S:Sync)(ρ:Ren)(b0 base:dZ)(w':aL)(g1:uai)(w1:aL)(s':GStep):Prop:=
 ∃σ sI cs1 xX Fo lS es',g1=aY sI (cs1++b0)/\s'=.go (aY xX (Fo++base)) lS es'/\eD C σ sI xX/\jn C σ cs1 Fo/\jo sI cs1/\eI C S σ w1 lS/\Grow ρ σ w' lS/\∀e∈es',wu σ e
def xY{p:cf}{fn:uaj}{e:Event}(h:e∈seen p fn es):e∈es:=by
 unfold seen at h;obtain⟨l⟩:=es;simp only[List.foldl_toArray]at h;suffices key:∀(l:ubj)(q:Bool)(k:uaq),e∈(l.foldl (λ(x:Bool×Array Event)(e:Event)=>match e.loc with
  | .mark (.extern f)=>((p.funcs[f]?).any (·.norace),x.2)
  | _=>(x.1,if x.1&& !e.sync then x.2 else x.2.push e)) (q,k)).2->e∈k\/e∈l by
  have:=key l _ _ h;grind
 intro l;induction l with|nil=>grind|cons x l a=>grind
section
variable{C:cM}{ρ:Ren}
theorem eD.eval(h:eD C ρ f f')(hg:∀g,g<=C.P.globals.size->ρ.rel g g):tw C ρ f.eval f'.eval:=by intro x a;cases x with|tmp t=>exact h.tmps.getD (.undef ρ) t|const v=>exact(Xl 4 v a).rel ρ|global g=>exact .ptr ⟨hg g (vdu (vdx a)),U,U⟩|func f=>exact .H0 (.func f) (.nil ρ) (.nil ρ)
theorem eD.finish(h:eD C ρ f f')(hv:ar ρ v v'):eD C ρ (f.finish v) (f'.finish v'):=by
 have ht:=h.todo;unfold Frame.finish;revert ht;cases g:f.todo with
 |nil=>intro ht;cases b:f'.todo with|nil=>grind|cons a l=>rw[b]at ht;cases ht
 |cons i k=>
  intro ht;cases b:f'.todo with
  |nil=>rw[b]at ht;cases ht
  |cons i' k'=>
   rw[b]at ht;cases ht with
   |cons hi hk=>
    cases hi with
    |inRegion c todo=>cases todo with|nil=>grind|cons n rest=>simp only[];refine⟨h.fn,h.known,?_,.cons (.inRegion c rest) hk,h.defers,h.mode,h.kind,h.plain,h.roundOf⟩;cases((_:Option Oper).bind (·.dst))with|none=>exact h.tmps|some d=>exact h.tmps.set hv d
    |inRangeFunc e=>exact⟨h.fn,h.known,h.tmps,.cons (.endRangeFunc e) hk,h.defers,h.mode,h.kind,h.plain,h.roundOf⟩
    |beginRound=>exact⟨h.fn,h.known,h.tmps,hk,h.defers,h.mode,h.kind,h.plain,h.roundOf⟩
    | _=>exact h
end
end
variable{g:Frame}{cs:dZ}
section
attribute [-simp] Sem.runT_eq
def jo.push(h:jo f cs):jo g (f::cs):=h
def jo.QA{c:Frame}(h:jo f (c::cs)):jo c cs:=h
def jo.same(h:jo f cs)(hk:g.kind=f.kind)(a:g.roundOf=f.roundOf):jo g cs:=by cases cs with|nil=>exact⟨hk.trans h.1,a.trans h.2⟩|cons c cs=>exact h
def Ae(f:Frame)(v:Value):(f.finish v).kind=f.kind/\(f.finish v).roundOf=f.roundOf:=by unfold Frame.finish;grind
def tx(f:Frame)(c:List PanicEntry):(f.raise c).kind=f.kind/\(f.raise c).roundOf=f.roundOf:=by unfold Frame.raise;grind
section
variable{C:cM}{ρ:Ren}
theorem eD.raise(h:eD C ρ f f'){c c':List PanicEntry}(b:cL (xW ρ) c c'):eD C ρ (f.raise c) (f'.raise c'):=by have a:=h.mode;unfold Frame.raise;revert a;cases f.mode with|run=>intro a;generalize f'.mode=m' at a;cases a;exact⟨h.fn,h.known,h.tmps,h.todo,h.defers,.panicking b,h.kind,h.plain,h.roundOf⟩|returning=>intro a;generalize f'.mode=m' at a;cases a;exact⟨h.fn,h.known,h.tmps,h.todo,h.defers,.panicking b,h.kind,h.plain,h.roundOf⟩|panicking l=>intro a;generalize f'.mode=m' at a;cases a with|panicking d=>exact⟨h.fn,h.known,h.tmps,h.todo,h.defers,.panicking (b.append d),h.kind,h.plain,h.roundOf⟩
def eD.xZ(h:eD C ρ f f'){t a:fC}(ht:m7 C ρ t a):eD C ρ {f with todo:=t} {f' with todo:=a}:=⟨h.fn,h.known,h.tmps,ht,h.defers,h.mode,h.kind,h.plain,h.roundOf⟩
def eD.B4(h:eD C ρ f f'){d a:List Deferred}(hd:rG ρ d a):eD C ρ {f with defers:=d} {f' with defers:=a}:=⟨h.fn,h.known,h.tmps,h.todo,hd,h.mode,h.kind,h.plain,h.roundOf⟩
def eD.uP(h:eD C ρ f f'){m m':FrameMode}(a:uO ρ m m'):eD C ρ {f with mode:=m} {f' with mode:=m'}:=⟨h.fn,h.known,h.tmps,h.todo,h.defers,a,h.kind,h.plain,h.roundOf⟩
def aM.aja(n:Nat):aM ρ (Array.replicate n undef) (Array.replicate n undef):=by
 refine⟨U,λi v v' a b=>?_⟩;rw[a]at b;cases b;rw[Array.getElem?_replicate]at a;split at a
 .cases a;exact .undef ρ
 grind
theorem eD.enter(hF:C.B3){f:uaj}{fn:Func}{c:Code}{a a':df}(h:aM ρ a a')(b:C.P.funcs[f]?=some fn)(d:fn.body=some c){k:CallKind}(hk:k=.normal\/k=.deferred):
 eD C ρ (Frame.enter C.P f a k) (Frame.enter C.Q f a' k):=by
 obtain⟨hq,hok,_⟩:=hF.body f fn c b d;unfold Frame.enter;simp only[b,hq,d,Option.map_some,vae,Option.bind_some,h.size];exact⟨U,⟨fn,c,b,d⟩,h.append (.aja _),.cons (.code hok) .nil,.nil,.run,U,hk,.none⟩
theorem eD.round{f:uaj}(d:∃fn c,C.P.funcs[f]?=some fn/\fn.body=some c){t a:df}(b:ρ.rel l l')(ht:aM ρ t a)(g:C.mg assign)(e:C.mg body){k:CallKind}(hk:k=.normal\/k=.deferred):
 eD C ρ (Frame.round l f t assign body k) (Frame.round l' f a assign body k):=
 ⟨U,d,ht,.cons (.code g) (.cons .beginRound (.cons (.code e) .nil)),.nil,.run,U,hk,.some b⟩
end
end
variable{gN:uaq}
def Af{s:GStep}{g:uai}{w:aL}(h:GStep.after es s=.go g w gN):∃a,s=.go g w a:=by
 cases s<;>simp[GStep.after]at h
 simp_all
variable{fr:Frame}{g1:uai}
theorem QB{ps:List ByteArray}{m:String}{b:Bool}{w w1:aL}(h:dieOf fr ps m b w=.go g1 w1 es):g1.dying≠none:=by grind[dieOf]
theorem Xv{d:Option Dying}{m:String}{w w1:aL}(h:endFatal P fr cs d m w=.go g1 w1 es):g1.dying≠none:=by unfold endFatal at h;grind[QB]
variable{aP:Frame}{a_ b0:dZ}
section
variable{C:cM}{S:Sync}{ρ:Ren}
def m7.ajb{t a:fC}(h:m7 C ρ t a):(match t with| .call _ true _ _::_=>CallKind.wrapped| _=>.normal)=.normal/\(match a with| .call _ true _ _::_=>CallKind.wrapped| _=>.normal)=.normal:=by cases h with|nil=>grind|cons hi _=>cases hi<;>exact⟨U,U⟩
def QC(hF:C.B3){base:dZ}{w w':aL}{s s':Sem Next}{w1:aL}(n:eD C ρ fr aP)(p:jn C ρ cs a_)(j:jo fr cs)(H:eI C S ρ w w')(hs:aq C ρ (pI C) s s')(N:C.P.follows .rangeFuncRecover=true\/fr.roundOf=none)(R:C.Q.follows .rangeFuncRecover=C.P.follows .rangeFuncRecover)(h:stepG.apply C.P true fr (cs++b0) none s w=.go g1 w1 gN)(hrun:g1.status=.running)(B:g1.dying=none)(l:(i8 (stepG.apply C.Q true aP (a_++base) none s' w')).drawn<=S.bound):i9 C S ρ b0 base w' g1 w1 (stepG.apply C.Q true aP (a_++base) none s' w'):=by
 have A:=m7.ajb n.todo;have lU:Good (s.run C.P w):=by
  unfold stepG.apply at h;simp only[vau,vdg]at h;obtain⟨F,a⟩:=Af h;cases y:s.run C.P w with
  |ok Q D=>trivial
  |halt x D=>
   rw[y]at a;cases x with
   |panic v=>trivial
   |goexit=>trivial
   |blocked=>grind
   |waiting=>grind
   |unsupported u=>cases u<;>first|trivial|(simp at a)
   |exit c=>grind
   |fatal m=>grind[Xv]
   |throw m=>exact absurd B (QB a)
   |stuck m=>grind
 obtain⟨σ,T,o,f,M⟩:=hs S w w' H lU (vad (Fl C.Q aP (a_++base) none s' w') l);obtain⟨d,hd,E⟩:=M #[];rw[vdf]at hd;have z:=f.le;have i:=n.mono z;have g:=jn.mono z p;have evs:∀e∈seen C.Q aP.fn d,wu σ e:=λe K=>E e (xY K);unfold stepG.apply at h⊢;simp only[vau,vdg]at h⊢;rw[hd];obtain⟨F,a⟩:=Af h;clear h;generalize y:s.run C.P w=r at a o;generalize U:s'.run C.Q w'=r' at o⊢;have early:(aP.kind== .early)=false:=by rcases n.plain with x|x<;>rw[<-n.kind,x]<;>rfl
 cases o with
 |@ok _ _ P _ hn b=>
  cases hn with
  |value hv=>simp only[vdk]at a;obtain⟨rfl,rfl,_⟩:=a;simp only[early];exact⟨σ,_,cs,_,a_,_,_,rfl,rfl,i.finish hv,g,j.same (Ae _ _).1 (Ae _ _).2,b,f,AF⟩
  |skip=>simp only[vdk]at a;obtain⟨rfl,rfl,_⟩:=a;simp only[early];exact⟨σ,_,cs,_,a_,_,_,rfl,rfl,i.finish (.undef σ),g,j.same (Ae _ _).1 (Ae _ _).2,b,f,AF⟩
  |enter q I l=>
   simp only[vdk]at a;obtain⟨rfl,rfl,_⟩:=a;simp only[early];have t:∀k k':CallKind,k=.normal->k'=.normal->eD C σ (Frame.enter C.P _ _ k) (Frame.enter C.Q _ _ k'):=λk k' e L=>by subst e;subst L;exact .enter hF q I l KB
   exact⟨σ,_,fr::cs,_,aP::a_,_,_,rfl,rfl,t _ _ A.1 A.2,.cons i g,j.push,b,f,AF⟩
  |round J O ht q l=>simp only[vdk]at a;obtain⟨rfl,rfl,_⟩:=a;simp only[early];exact⟨σ,_,fr::cs,_,aP::a_,_,_,rfl,rfl,.round J O ht q l KB,.cons i g,j.push,b,f,AF⟩
 |panic hv b=>simp only[vdk]at a;obtain⟨rfl,rfl,_⟩:=a;simp only[early];exact⟨σ,_,cs,_,a_,_,_,rfl,rfl,i.raise (.cons ⟨hv,rfl,rfl⟩ .nil),g,j.same (tx _ _).1 (tx _ _).2,b,f,AF⟩
 |goexit b=>simp only[vdk]at a;obtain⟨rfl,rfl,_⟩:=a;simp only[early];exact⟨σ,_,cs,_,a_,_,_,rfl,rfl,i.raise (.cons ⟨.undef σ,rfl,rfl⟩ .nil),g,j.same (tx _ _).1 (tx _ _).2,b,f,AF⟩
end
section
section
variable{C:cM}{S:Sync}{ρ:Ren}
structure cM.Good(C:cM):Prop where
 same:C.cn
 Fp:C.sE
 funcs:C.B3
 oW:C.Qz
 QD:C.P.follows .rangeFuncRecover=true
theorem cM.Good.follows(h:C.Good)(d:Departure):C.Q.follows d=C.P.follows d:=by unfold Tables.follows;rw[h.same]
def ajd(id:Nat){k k':fC}(h:m7 C ρ k k'):m4 (m7 C ρ) (exitTo id k) (exitTo id k'):=by
 induction h with
 |nil=>exact .none
 |cons hi hk a=>
  cases hi with
  |inBlock b=>
   simp only[exitTo];split
   .exact .some hk
   grind
  | _=>exact a
def ajf(d:C.Qz):∀(c:Code)(l:Nat)(r:Code),C.mg c->findLabel c l=some r->C.mg r:=by
 intro c;induction c with
 |seq a b g f=>intro l r hok h;rw[d]at hok;simp only[j4,vaf]at hok;simp only[findLabel]at h;cases e:findLabel a l with|some rest=>rw[e]at h;cases h;have:=g l rest ((d a).2 hok.1) e;rw[d]at this⊢;simp_all[j4]|none=>rw[e]at h;exact f l r ((d b).2 hok.2) h
 |label l'=>
  intro l r _ h;simp only[findLabel]at h;split at h
  .cases h;rw[d];rfl
  grind
 | _=>intro l r _ h;cases h
def ajg(d:C.Qz)(l:Nat){k k':fC}(h:m7 C ρ k k'):m4 (m7 C ρ) (gotoIn l k) (gotoIn l k'):=by
 induction h with
 |nil=>exact .none
 |cons hi hk a=>
  cases hi with
  |@inScope c hok=>simp only[gotoIn];cases b:findLabel c l with|some r=>exact .some (.cons (.code (ajf d c l r hok b)) (.cons (.inScope hok) hk))|none=>exact a
  | _=>exact a
def Xx{t b:df}(h:aM ρ t b)(ops:du):yielded ops t=yielded ops b:=by
 funext j
 unfold yielded;cases((ops[j]?).bind (·.dst))with|none=>rfl|some d=>simp only[Option.bind_some];cases ht:t[d]? with|none=>rw[h.none ht]|some v=>obtain⟨v',a,c⟩:=h.some ht;rw[a];cases c<;>rfl
def sK{a c:Frame}{base:dZ}{w w':aL}(b:jn C ρ cs a_)(f:jo fr cs)(d:eI C S ρ w w')(hk:a.kind=fr.kind)(e:a.roundOf=fr.roundOf)(g:eD C ρ a c):i9 C S ρ b0 base w' (aY a (cs++b0)) w (.go (aY c (a_++base)) w'):=
 ⟨ρ,_,cs,_,a_,_,_,U,U,g,b,f.same hk e,d,.refl _ _,Ab⟩
def Xy{main main':Bool}{c c':Frame}{base:dZ}{w w':aL}{w1:aL}(p:eD C ρ fr aP)(f:eD C ρ c c')(d:jn C ρ cs a_)(j:jo c cs)(i:eI C S ρ w w')(hv:ar ρ v v')(h:doReturn C.P main fr (c::(cs++b0)) none v w=.go g1 w1 gN):i9 C S ρ b0 base w' g1 w1 (doReturn C.Q main' aP (c'::(a_++base)) none v' w'):=by
 unfold doReturn at h⊢;rcases p.plain with hk|hk
 .have o:=p.kind.symm.trans hk;simp only[hk,vdk]at h;obtain⟨rfl,rfl,_⟩:=h;simp only[o];exact⟨ρ,_,cs,_,a_,_,_,U,U,f.finish hv,d,j.same (Ae _ _).1 (Ae _ _).2,i,.refl _ _,Ab⟩
 .have o:=p.kind.symm.trans hk;simp only[hk,vdk]at h;obtain⟨rfl,rfl,_⟩:=h;simp only[o];have k:=f.mode;generalize I:c.mode=m at k;generalize F:c'.mode=m' at k;have keep:i9 C S ρ b0 base w' (aY c (cs++b0)) w (.go (aY c' (a_++base)) w'):=sK d j i U U f;cases k with
  |run=>exact keep
  |returning=>exact keep
  |panicking n=>
   cases n with
   |nil=>exact keep
   |@cons e B s r A z=>
    obtain⟨ev,q,H⟩:=e;obtain⟨lA,E,D⟩:=B;obtain⟨x,u,t⟩:=A;simp only at x u t;subst u;subst t;cases q with
    |false=>exact keep
    |true=>
     simp only[];have drop:∀(l l':List PanicEntry),cL (xW ρ) l l'->cL (xW ρ) (l.dropWhile (!·.goexit)) (l'.dropWhile (!·.goexit)):=by
      intro l l' n;induction n with
      |nil=>exact .nil
      |cons g ht y=>
       simp only[List.dropWhile_cons,g.goexit];split
       .exact y
       .exact .cons g ht
     have hd:=drop _ _ z;generalize s.dropWhile (!·.goexit)=a at hd;generalize r.dropWhile (!·.goexit)=b at hd;cases hd with|nil=>exact sK (fr:=c) d j i U U (f.uP .returning)|cons g ht=>exact sK (fr:=c) d j i U U (f.uP (.panicking (.cons g ht)))
theorem i9.after{w' g:aL}{σ:Ren}{base:dZ}{w1:aL}{s':GStep}(l:Grow ρ σ w' g)(k:∀e∈es,wu σ e)(h:i9 C S σ b0 base g g1 w1 s'):i9 C S ρ b0 base w' g1 w1 (GStep.after es s'):=by
 obtain⟨p,a,b,c,d,e,f,o,rfl,n,m,r,q,i,s⟩:=h;refine⟨p,a,b,c,d,e,es++f,o,U,n,m,r,q,l.trans i,λx j=>?_⟩;rcases vee.1 j with y|y
 .exact(k x y).mono i.le
 grind
