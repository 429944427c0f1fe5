import Derived.WalkSpells
import Derived.WalkLawsBesides
import Derived.Deep.AppendLies
import Derived.Test.YtncomcmfgmojkaaGreatPAA
set_option linter.all false
set_option maxRecDepth 100000
set_option maxHeartbeats 16000000
namespace Go.Proofs.YtncomcmfgmojkaaGreat
namespace av
inductive dy{al aJ:Type}(R:al->aJ->Prop):List al->List aJ->Prop
 |nil:dy R [] []
 |cons {a:al} {b:aJ} {l:List al} {m:List aJ} (h:R a b) (t:dy R l m):dy R (a::l) (b::m)
theorem dy.mono{al aJ:Type}{R S:al->aJ->Prop}(d:∀a b,R a b->S a b){l:List al}{m:List aJ}(h:dy R l m):dy S l m:=by induction h with|nil=>exact .nil|cons h _ c=>exact .cons (d _ _ h) c
theorem dy.append{al aJ:Type}{R:al->aJ->Prop}{l l2:List al}{m a:List aJ}(h:dy R l m)(k:dy R l2 a):dy R (l++l2) (m++a):=by induction h with|nil=>exact k|cons h _ b=>exact .cons h b
theorem dy.length{al aJ:Type}{R:al->aJ->Prop}{l:List al}{m:List aJ}(h:dy R l m):l.length=m.length:=by induction h with|nil=>rfl|cons _ _ a=>grind
def dy.Hc{ρ:Ren}{a a':Array Value}(h:aS ρ a a'):dy (ay ρ) a.toList a'.toList:=by obtain⟨l⟩:=a;obtain⟨m⟩:=a';simp only;induction l generalizing m with|nil=>have:=h.size;simp at this;have:m=[]:=List.length_eq_zero_iff.1 this.symm;subst this;exact .nil|cons x l c=>cases m with|nil=>have:=h.size;grind|cons y m=>refine .cons (h.get 0 x y A_ A_) (c m ⟨by have:=h.size;grind,λi v v' a b=>h.get (i+1) v v' AA AA⟩)
def aS.KO{ρ:Ren}{l m:List Value}(h:dy (ay ρ) l m):aS ρ l.toArray m.toArray:=by induction h with|nil=>exact .nil ρ|@cons a b l m h _ c=>have e:∀(x:Value)(l:List Value),(x::l).toArray=#[x]++l.toArray:=λx l=>A_;grind[aS.one,append]
def PJ:Builtin->Bool
 | .append| .cap| .copy| .len=>true
 | _=>false
inductive tw(ρ:Ren):Target->Target->Prop
 |fn {f f':Fn} {c c':Array Value} (h:sG ρ f f') (k:aS ρ c c'):tw ρ (.fn f c) (.fn f' c')
 |nil:tw ρ .nil .nil
 |builtin (b:Builtin) (ats:Array TypeId) (t:TypeId) (cs:Array Bool) (hb:PJ b=true):tw ρ (.builtin b ats t cs) (.builtin b ats t cs)
 |collected {r r':Nat} (h:ρ.rel r r'):tw ρ (.collected r) (.collected r')
structure y2(ρ:Ren)(d d':Deferred):Prop where
 target:tw ρ d.target d'.target
 args:aS ρ d.args d'.args
theorem tw.mono{ρ σ:Ren}(c:Ren.le ρ σ){a a':Target}(h:tw ρ a a'):tw σ a a':=by cases h with|fn h k=>exact .fn (h.mono c) (k.mono c)|nil=>exact .nil|builtin b ats t cs d=>exact .builtin b ats t cs d|collected h=>exact .collected (c.1 _ _ h)
theorem y2.mono{ρ σ:Ren}(b:Ren.le ρ σ){a a':Deferred}(h:y2 ρ a a'):y2 σ a a':=⟨h.target.mono b,h.args.mono b⟩
abbrev qQ(ρ:Ren):List Deferred->List Deferred->Prop:=dy (y2 ρ)
theorem qQ.mono{ρ σ:Ren}(b:Ren.le ρ σ){a a':List Deferred}(h:qQ ρ a a'):qQ σ a a':=dy.mono (λ_ _ x=>x.mono b) h
structure KP(ρ:Ren)(e e':MapEntry):Prop where
 key:ay ρ e.key e'.key
 val:ay ρ e.val e'.val
 born:e.born=e'.born
theorem KP.mono{ρ σ:Ren}(b:Ren.le ρ σ){a a':MapEntry}(h:KP ρ a a'):KP σ a a':=⟨h.key.mono b,h.val.mono b,h.born⟩
def wO(fr:Nat×Nat)(i:Nat):Prop:=fr.1<=i/\i<fr.2
def KQ:Obj->Prop
 | .map .. | .stringIter .. | .mapIter .. | .loop _ | .deferred _ | .coro _ | .finalizers .. =>True
 | _=>False
structure cO where
 P:cg
 Q:cg
 lG:Code->Prop
 upd:Bool
structure Hd(C:cO)(ρ:Ren)(l l':Loop):Prop where
 state:l.state=l'.state
 pending:l.pending=l'.pending
 KR:∀c,l.pending=some c->C.lG c
 fn:l.fn=l'.fn
 known:∃fn c,C.P.funcs[l.fn]?=some fn/\fn.body=some c
 tmps:aS ρ l.tmps l'.tmps
 params:l.params=l'.params
 assign:l.assign=l'.assign
 He:C.lG l.assign
 body:l.body=l'.body
 Hf:C.lG l.body
 defers:ρ.rel l.defers l'.defers
theorem Hd.mono{C:cO}{ρ σ:Ren}(b:Ren.le ρ σ){a a':Loop}(h:Hd C ρ a a'):Hd C σ a a':=
 ⟨h.state,h.pending,h.KR,h.fn,h.known,h.tmps.mono b,h.params,h.assign,h.He,h.body,h.Hf,b.1 _ _ h.defers⟩
inductive g7(C:cO)(ρ:Ren):Obj->Obj->Prop
 |cells {c c':Array Value} (elem:TypeId) {fr aP:Nat×Nat} (h:aS ρ c c') (hf:(∀i,wO aP i->wO fr i)/\(C.upd=true->aP=fr)):g7 C ρ (.cells c elem fr) (.cells c' elem aP)
 |map {es es':Array MapEntry} (clock:Nat) (h:dy (KP ρ) es.toList es'.toList):g7 C ρ (.map es clock) (.map es' clock)
 |stringIter (s:ByteArray) (p:Nat):g7 C ρ (.stringIter s p) (.stringIter s p)
 |AK (since:Nat) (seen:Array Nat) (st:Nat):g7 C ρ (.mapIter none since seen st) (.mapIter none since seen st)
 |mapIter {m m':Nat} (h:ρ.rel m m') (since:Nat) (seen:Array Nat) (st:Nat):g7 C ρ (.mapIter (some m) since seen st) (.mapIter (some m') since seen st)
 |loop {l l':Loop} (h:Hd C ρ l l'):g7 C ρ (.loop l) (.loop l')
 |deferred {l l':List Deferred} (h:qQ ρ l l'):g7 C ρ (.deferred (some l)) (.deferred (some l'))
 |taken:g7 C ρ (.deferred none) (.deferred none)
 |number {a a':Addr} (h:dt ρ a a') (AL:Bool):g7 C ρ (.number a AL) (.number a' AL)
 |shut {o':Obj} (h:KQ o'):g7 C ρ (.coro none) o'
theorem g7.mono{C:cO}{ρ σ:Ren}(d:Ren.le ρ σ){a a':Obj}(h:g7 C ρ a a'):g7 C σ a a':=by cases h with|cells e h f=>exact .cells e (h.mono d) f|map c h=>exact .map c (dy.mono (λ_ _ x=>x.mono d) h)|stringIter s p=>exact .stringIter s p|AK a b c=>exact .AK a b c|mapIter h a b c=>exact .mapIter (d.1 _ _ h) a b c|loop h=>exact .loop (h.mono d)|deferred h=>exact .deferred (h.mono d)|taken=>exact .taken|number h l=>exact .number (h.mono d) l|shut h=>exact .shut h
structure Sync where
 a:Nat
 b:Nat
 bound:Nat
 T:Nat->Question->Nat
inductive Eu:Obj->Prop
 |coro:Eu (.coro none)
 |number (a:Addr) (l:Bool):Eu (.number a l)
structure ew(C:cO)(S:Sync)(ρ:Ren)(w w':aO):Prop where
 obj:∀b b',ρ.rel b b'->∃o o',w.heap[b]?=some o/\w'.heap[b']?=some o'/\g7 C ρ o o'
 one:∀a b b',ρ.rel a b->ρ.rel a b'->b=b'
 inj:∀a a' b,ρ.rel a b->ρ.rel a' b->a=a'
 m3:∀g,g<=C.P.globals.size->ρ.rel g g
 sync:w.drawn+S.b=w'.drawn+S.a
 tape:∀j q,w'.drawn+j<S.bound->w.tape (w.drawn+j) q=w'.tape (w'.drawn+j) q
 env:w.os.env=w'.os.env
 lone:w.tape=S.T
 still:∀b b',ρ.rel b b'->¬ρ.mine b'->(C.upd=false/\∃c e fr,w.heap[b]?=some (.cells c e fr)/\∀i,i<c.size->wO fr i)\/(C.upd=false/\∃es k,w.heap[b]?=some (.map es k))\/∃o,w.heap[b]?=some o/\Eu o
def vj(ρ:Ren)(e:Event):Prop:=
 match e.loc with
 | .cell a=>(∃b,ρ.rel b a.block)/\(e.write=true->ρ.mine a.block)/\e.sync=false
 | .obj r=>(∃b,ρ.rel b r)/\(e.write=true->ρ.mine r)/\e.sync=false
 | .mark .noRoom| .mark (.extern _)| .output=>True
 | _=>False
theorem vj.mono{ρ σ:Ren}(b:Ren.le ρ σ){e:Event}(h:vj ρ e):vj σ e:=by obtain⟨l,wr,c⟩:=e;unfold vj at h⊢;cases l with|cell a=>exact⟨h.1.imp λ_ x=>b.1 _ _ x,λx=>b.2 _ (h.2.1 x),h.2.2⟩|obj a=>exact⟨h.1.imp λ_ x=>b.1 _ _ x,λx=>b.2 _ (h.2.1 x),h.2.2⟩|mark m=>grind|output=>exact h|goroutines=>exact h
structure Grow(ρ σ:Ren)(w' n_:aO):Prop where
 le:Ren.le ρ σ
 back:∀b,σ.mine b->ρ.mine b\/w'.heap.size<=b
 size:w'.heap.size<=n_.heap.size
 low:∀b,σ.mine b->ρ.mine b\/b<n_.heap.size
 old:∀a b,σ.rel a b->ρ.rel a b\/w'.heap.size<=b
 kept:∀b,b<w'.heap.size->¬ρ.mine b->n_.heap[b]?=w'.heap[b]?
 os:n_.os=w'.os
 output:n_.output=w'.output
 tape:n_.tape=w'.tape
 drawn:w'.drawn<=n_.drawn
theorem Grow.refl(ρ:Ren)(w:aO):Grow ρ ρ w w:=⟨Ren.le_refl _,λ_ h=>.inl h,Nat.le_refl _,λ_ h=>.inl h,λ_ _ h=>.inl h,λ_ _ _=>Y,Y,Y,Y,Nat.le_refl _⟩
theorem Grow.trans{ρ σ f:Ren}{w w1 d:aO}(h:Grow ρ σ w w1)(k:Grow σ f w1 d):Grow ρ f w d:=
 ⟨Ren.le_trans h.le k.le,λb x=>(k.back b x).elim (λy=>h.back b y) (λy=>.inr (Nat.le_trans h.size y)),Nat.le_trans h.size k.size,
  λb x=>(k.low b x).elim (λy=>(h.low b y).imp id λz=>Nat.lt_of_lt_of_le z k.size) .inr,
  λa b x=>(k.old a b x).elim (λy=>h.old a b y) (λy=>.inr (Nat.le_trans h.size y)),
  λb c e=>by rw[k.kept b (Nat.lt_of_lt_of_le c h.size) (λy=>(h.back b y).elim e (λz=>absurd c (Nat.not_lt.2 z)))];exact h.kept b c e,
  k.os.trans h.os,k.output.trans h.output,k.tape.trans h.tape,Nat.le_trans h.drawn k.drawn⟩
inductive Ev{al aJ:Type}(C:cO)(S:Sync)(ρ:Ren)(R:Ren->al->aJ->Prop):Result al->Result aJ->aO->Prop
 |ok {a:al} {b:aJ} {w w':aO} (h:R ρ a b) (hw:ew C S ρ w w'):Ev C S ρ R (.ok a w) (.ok b w') w'
 |panic {v v':Value} {w w':aO} (h:ay ρ v v') (hw:ew C S ρ w w'):Ev C S ρ R (.halt (.panic v) w) (.halt (.panic v') w') w'
 |goexit {w w':aO} (hw:ew C S ρ w w'):Ev C S ρ R (.halt .goexit w) (.halt .goexit w') w'
def Good{al:Type}:Result al->Prop
 | .ok _ _=>True
 | .halt (.panic _) _ | .halt .goexit _ | .halt (.unsupported (.initOrder _)) _=>True
 | _=>False
def ap{al aJ:Type}(C:cO)(ρ:Ren)(R:Ren->al->aJ->Prop)(m:Sem al)(m':Sem aJ):Prop:=
 ∀(S:Sync)(w w':aO),ew C S ρ w w'->Good (m.run C.P w)->(kH (m'.run C.Q w')).drawn<=S.bound->
  ∃(σ:Ren)(w1:aO),Ev C S σ R (m.run C.P w) (m'.run C.Q w') w1/\Grow ρ σ w' w1/\
   ∀es,∃d,m'.events C.Q w' es=es++d/\∀e∈d,vj σ e
def o8{al aJ:Type}(R:Ren->al->aJ->Prop):Prop:=∀ρ σ a b,Ren.le ρ σ->R ρ a b->R σ a b
variable{v v':Value}
section
variable{al aJ γ Hg:Type}{C:cO}{ρ:Ren}
theorem ap.pure{R:Ren->al->aJ->Prop}{a:al}{b:aJ}(h:R ρ a b):ap C ρ R (Pure.pure a) (Pure.pure b):=by intro S w w' c _ _;exact⟨ρ,w',.ok h c,.refl _ _,λes=>⟨#[],by simp[Sem.events,Pure.pure,Sem.runT],A_⟩⟩
def mC(m:Sem al)(f:al->Sem aJ)(P:cg)(w:aO):(m>>= f).run P w=match m.run P w with| .ok a w1=>(f a).run P w1| .halt h w1=>.halt h w1:=by
 show(m.bind f).run P w=_;induction m generalizing w with
 |pure a=>rfl
 |load md a k b=>grind[Sem.bind,Sem.run]
 |store md a v k b=>
  cases v with
  |agg c=>rfl
  |tuple c=>rfl
  | _=>
   simp only[Sem.bind,Sem.run];cases w.cell? a with
   |some v=>
    simp only[];split
    .rfl
    .exact b _
   |none=>
    simp only[];split
    .exact b _
    .rfl
 |new o k b=>exact b _ _
 |shape r k b=>exact b _ _
 |freeze a n k b=>exact b _
 |frozen a k b=>exact b _ _
 |getObj r k b=>grind[Sem.bind,Sem.run]
 |setObj r o k b=>grind[Sem.bind,Sem.run]
 |choose q k b=>grind[Sem.bind,Sem.run]
 |sys c k b=>exact b _ _
 |program k b=>exact b _ _
 |mark m k b=>exact b _
 |halt h=>rfl
theorem PK(m:Sem al)(f:al->Sem aJ)(P:cg)(w:aO)(es:Array Event):(m>>= f).events P w es=match m.run P w with| .ok a w1=>(f a).events P w1 (m.events P w es)| .halt _ _=>m.events P w es:=by
 show(m.bind f).events P w es=_;unfold Sem.events;induction m generalizing w es with
 |pure a=>rfl
 |load md a k b=>grind[Sem.bind,Sem.run,Sem.runT]
 |store md a v k b=>
  cases v with
  |agg c=>rfl
  |tuple c=>rfl
  | _=>
   simp only[Sem.bind,Sem.run,Sem.runT];cases w.cell? a with
   |some v=>
    simp only[];by_cases d:w.frozen? a=true
    .simp only[d,if_true]
    .simp only[d];exact b _ _
   |none=>simp only[];cases e:w.farStore P a _ (md== .atomic)with|ok r=>exact b _ _|error h=>rfl
 |new o k b=>exact b _ _ _
 |shape r k b=>exact b _ _ _
 |freeze a n k b=>exact b _ _
 |frozen a k b=>exact b _ _ _
 |getObj r k b=>grind[Sem.bind,Sem.run,Sem.runT]
 |setObj r o k b=>grind[Sem.bind,Sem.run,Sem.runT]
 |choose q k b=>simp only[Sem.bind,Sem.run,Sem.runT];grind
 |sys c k b=>exact b _ _ _
 |program k b=>exact b _ _ _
 |mark m k b=>exact b _ _
 |halt h=>rfl
theorem ap.bind{R:Ren->al->aJ->Prop}{S:Ren->γ->Hg->Prop}{m:Sem al}{i:Sem aJ}{f:al->Sem γ}{f':aJ->Sem Hg}(h:ap C ρ R m i)(k:∀σ a b,Ren.le ρ σ->R σ a b->ap C σ S (f a) (f' b)):ap C ρ S (m>>= f) (i>>= f'):=by
 intro S w w' z hg g;rw[mC]at hg⊢;have H:(kH (i.run C.Q w')).drawn<=S.bound:=by rw[mC]at g;cases d:i.run C.Q w' with|ok b j=>rw[d]at g;exact Nat.le_trans (AJ C.Q (f' b) j).1 g|halt x j=>rw[d]at g;exact g
 have q:Good (m.run C.P w):=by
  cases n:m.run C.P w with
  |ok a w1=>trivial
  |halt x w1=>
   rw[n]at hg;cases x with
   |unsupported u=>cases u<;>first|exact hg|trivial
   | _=>first|exact hg|trivial
 obtain⟨σ,w1,c,o,D⟩:=h S w w' z q H;rw[mC]at g⊢;cases n:m.run C.P w with
 |ok a r=>
  rw[n]at c hg;cases d:i.run C.Q w' with
  |ok b j=>
   rw[d]at c g;cases c with
   |ok p l=>
    obtain⟨E,t,v,s,I⟩:=k σ a b o.le p S r _ l hg g;refine⟨E,t,v,o.trans s,λes=>?_⟩;obtain⟨d1,K,F⟩:=D es;obtain⟨B,J,L⟩:=I (i.events C.Q w' es);refine⟨d1++B,?_,λe A=>?_⟩
    .grind[PK]
    .rcases Array.mem_append.1 A with x|x
     .exact(F e x).mono s.le
     grind
  |halt x j=>rw[d]at c;cases c
 |halt x r=>rw[n]at c;cases d:i.run C.Q w' with|ok b j=>rw[d]at c;cases c|halt y j=>rw[d]at c;cases c with|panic p l=>refine⟨σ,_,.panic p l,o,λes=>?_⟩;simp_all[PK]|goexit l=>refine⟨σ,_,.goexit l,o,λes=>?_⟩;simp_all[PK]
theorem ap.mono{R S:Ren->al->aJ->Prop}{m:Sem al}{d:Sem aJ}(h:ap C ρ R m d)(k:∀σ a b,Ren.le ρ σ->R σ a b->S σ a b):ap C ρ S m d:=by intro S w w' c hg i;obtain⟨σ,w1,f,g,j⟩:=h S w w' c hg i;refine⟨σ,w1,?_,g,j⟩;generalize m.run C.P w=r at f;generalize d.run C.Q w'=r' at f;cases f with|ok e c=>exact .ok (k _ _ _ g.le e) c|panic e c=>exact .panic e c|goexit c=>exact .goexit c
def ap.ite{R:Ren->al->aJ->Prop}{c:Prop}[Decidable c]{a b:Sem al}{a' b':Sem aJ}(h:c->ap C ρ R a a')(k:¬c->ap C ρ R b b'):ap C ρ R (if c then a else b) (if c then a' else b'):=by grind
theorem ap.none{R:Ren->al->aJ->Prop}{m:Sem al}{a:Sem aJ}(h:∀w,¬Good (m.run C.P w)):ap C ρ R m a:=λ_ w _ _ hg _=>absurd hg (h w)
theorem ap.stuck{R:Ren->al->aJ->Prop}{s:String}{a:Sem aJ}:ap C ρ R (Go.stuck s) a:=.none λ_ h=>h
theorem ap.unsupported{R:Ren->al->aJ->Prop}{u:Unsupported}{a:Sem aJ}(b:∀g,u≠ .initOrder g:=by intro g h;cases h):ap C ρ R (Go.unsupported u) a:=.none λ_ h=>by cases u with|initOrder g=>grind| _=>exact h
theorem ap.throw{R:Ren->al->aJ->Prop}{s:String}{a:Sem aJ}:ap C ρ R (Go.throw s) a:=.none λ_ h=>h
theorem ap.goPanic{R:Ren->al->aJ->Prop}(h:ay ρ v v'):ap C ρ R (Go.goPanic v) (Go.goPanic v'):=by intro S w w' a _ _;exact⟨ρ,w',.panic h a,.refl _ _,λes=>⟨#[],by simp[Sem.events,Go.goPanic,Sem.runT],A_⟩⟩
end
variable{a a':Addr}{r r':Nat}{c:Array Value}{x:Value}{P:cg}{o o':Obj}
section
attribute [-simp] Sem.runT_eq
section
variable{C:cO}{S:Sync}{ρ:Ren}{w w':aO}
def ew.lt(h:ew C S ρ w w'){a b:Nat}(r:ρ.rel a b):a<w.heap.size/\b<w'.heap.size:=by obtain⟨o,o',h1,c,_⟩:=h.obj a b r;grind
theorem ew.cells(h:ew C S ρ w w'){a b:Nat}(r:ρ.rel a b){c:Array Value}{e:TypeId}{fr:Nat×Nat}(d:w.heap[a]?=some (.cells c e fr)):
 ∃c' aP,w'.heap[b]?=some (.cells c' e aP)/\aS ρ c c'/\∀i,wO aP i->wO fr i:=by
 obtain⟨o,o',h1,g,h3⟩:=h.obj a b r;rw[d]at h1;cases h1;cases h3 with|cells e f hF=>exact⟨_,_,g,f,hF.1⟩
def ew.other(h:ew C S ρ w w'){a b:Nat}(r:ρ.rel a b)(g:∀c e fr,w.heap[a]?≠some (.cells c e fr)):
 ∃o o',w.heap[a]?=some o/\w'.heap[b]?=some o'/\g7 C ρ o o'/\(∀c e fr,o'≠ .cells c e fr)/\(∀x t,o'≠ .view x t)/\(∀x t,o'≠ .pending x t)/\o'.isChan=false:=by
 obtain⟨o,o',h1,f,h3⟩:=h.obj a b r;refine⟨o,o',h1,f,h3,?_⟩;cases h3 with
 |cells e i hF=>grind
 |shut d=>cases o'<;>first|exact d.elim|exact⟨A_,A_,A_,Y⟩
 | _=>exact⟨A_,A_,A_,Y⟩
theorem tx{w:aO}(h:w.cell? a=some v):∃c e fr,w.heap[a.block]?=some (.cells c e fr)/\a.spot=none/\c[a.off]?=some v:=by
 unfold World.cell? at h;split at h
 .simp_all
 grind
theorem nE{w:aO}{e:TypeId}{fr:Nat×Nat}(h:w.heap[a.block]?=some (.cells c e fr))(hs:a.spot=none)(b:c[a.off]?=some v):w.cell? a=some v:=by grind[World.cell?]
theorem ew.cell(h:ew C S ρ w w')(r:dt ρ a a')(g:w.cell? a=some v):∃v',w'.cell? a'=some v'/\ay ρ v v':=by obtain⟨c,e,fr,h1,j,h3⟩:=tx g;obtain⟨c',aP,f,d,_⟩:=h.cells r.1 h1;obtain⟨v',b,i⟩:=d.some h3;exact⟨v',nE f (r.2.2▸j) (r.2.1▸b),i⟩
def afZ{al:Type}(h:ew C S ρ w w')(r:dt ρ a a')(hn:w.cell? a=none)(m:Mode)(k:Value->Sem al):¬Good ((Sem.load m a k).run C.P w):=by
 simp only[Sem.run,hn];obtain⟨o,o',h1,b,h3⟩:=h.obj _ _ r.1;have:w.farLoad C.P a (m== .atomic)=.error (w.noCell a "load: no such cell"):=by unfold World.farLoad;rw[h1];cases h3<;>rfl
 rw[this];simp only[World.noCell,h1];cases h3<;>exact id
theorem ap.load(r:dt ρ a a'):ap C ρ ay (Go.load a) (Go.load a'):=by
 intro S w w' b hg _;cases d:w.cell? a with
 |none=>exact absurd hg (afZ b r d _ _)
 |some v=>
  obtain⟨v',c,g⟩:=b.cell r d;refine⟨ρ,w',?_,.refl _ _,λes=>⟨#[⟨.cell a',false,false⟩],?_,?_⟩⟩
  .simp only[Go.load,Sem.run,d,c];exact .ok g b
  .grind[Sem.events,Go.load,Sem.runT]
  .intro e f;simp at f;subst f;exact⟨⟨_,r.1⟩,A_,Y⟩
theorem ew.setCell(h:ew C S ρ w w')(r:dt ρ a a')(m:ay ρ v v')(q:ρ.mine a'.block):ew C S ρ (w.setCell a v) (w'.setCell a' v'):=by
 have get:∀(w:aO)(a:Addr)(v:Value)(b:Nat),(w.setCell a v).heap[b]?=(w.heap[b]?).map (λo=>if a.block=b then(match o with| .cells c e f=>.cells (if a.spot.isSome then c else c.setIfInBounds a.off v) e f|o=>o)else o):=by grind[World.setCell]
 refine⟨λb b' d=>?_,h.one,h.inj,h.m3,h.sync,h.tape,h.env,h.lone,λb b' d hn=>?_⟩
 .obtain⟨o,o',h1,i,h3⟩:=h.obj b b' d;rw[get,get,h1,i];simp only[Option.map_some];refine⟨_,_,Y,Y,?_⟩;by_cases e:a.block=b
  .subst e;have j:a'.block=b':=h.one _ _ _ r.1 d;subst j;simp only[if_true];cases h3 with
   |cells el g hF=>
    simp only[r.2.2,r.2.1];by_cases hs:a'.spot.isSome=true
    .simp only[hs,if_true];exact .cells el g hF
    .simp only[hs];exact .cells el (g.set m _) hF
   |map c h=>exact .map c h
   |stringIter s p=>exact .stringIter s p
   |AK a b c=>exact .AK a b c
   |mapIter h a b c=>exact .mapIter h a b c
   |loop h=>exact .loop h
   |deferred h=>exact .deferred h
   |taken=>exact .taken
   |number h l=>exact .number h l
   |shut h=>cases o'<;>first|exact h.elim|exact .shut trivial
  .have j:a'.block≠b':=λx=>e (h.inj _ _ _ (x▸r.1) d);grind
 .have e:a.block≠b:=λx=>hn (h.one _ _ _ r.1 (x▸d)▸q);rw[get];rcases h.still b b' d hn with⟨n,c,el,fr,h1,i⟩|⟨n,es,k,h1⟩|⟨o,h1,hd⟩
  .grind
  .grind
  grind
def ay.af0(h:ay ρ v v'):((∃c,v=.agg c)\/∃c,v=.tuple c)\/((∀c,v≠ .agg c)/\(∀c,v≠ .tuple c)/\(∀c,v'≠ .agg c)/\(∀c,v'≠ .tuple c)):=by cases h with|agg=>grind|tuple=>grind| _=>exact .inr ⟨A_,A_,A_,A_⟩
def run_store{al:Type}{md:Mode}{k:Sem al}(h1:∀c,v≠ .agg c)(e:∀c,v≠ .tuple c)(d:w.cell? a=some x)(b:w.frozen? a=false):
 (Sem.store md a v k).run P w=k.run P (w.setCell a v):=by
 simp_all[Sem.run]
theorem events_store{al:Type}{md:Mode}{k:Sem al}(h1:∀c,v≠ .agg c)(e:∀c,v≠ .tuple c)(d:w.cell? a=some x)(b:w.frozen? a=false)(es:Array Event):
 (Sem.store md a v k).events P w es=k.events P (w.setCell a v) (es.push ⟨.cell a,true,md== .atomic⟩):=by
 simp_all[Sem.events,Sem.runT]
theorem ap.store(r:dt ρ a a')(l:ay ρ v v'):ap C ρ (λ_(_ _:Unit)=>True) (Go.store a v) (Go.store a' v'):=by
 intro S w w' d hg _;rcases l.af0 with(⟨c,rfl⟩|⟨c,rfl⟩)|⟨s,iv,E,nF⟩
 .exact hg.elim
 .exact hg.elim
 cases g:w.cell? a with
 |none=>
  exfalso;obtain⟨o,o',h1,K,h3⟩:=d.obj _ _ r.1;have D:∀v,w.farStore C.P a v (Mode.plain== .atomic)=.error (w.noCell a "store: no such cell"):=by intro v;unfold World.farStore;rw[h1];cases h3<;>rfl
  have:(Go.store a v).run C.P w=.halt (w.noCell a "store: no such cell") w:=by simp_all[Go.store,Sem.run]
  rw[this]at hg;simp only[World.noCell,h1]at hg;cases h3<;>exact hg
 |some x=>
  obtain⟨x',u,_⟩:=d.cell r g;obtain⟨c,e,fr,j,I,H⟩:=tx g;have B:a.off<c.size:=AA;cases t:w.frozen? a with
  |true=>
   exfalso;have:(Go.store a v).run C.P w=.halt (.unsupported (.unsafePointer "a write to bytes that a string shares")) w:=by simp_all[Go.store,Sem.run]
   rw[this]at hg;exact hg
  |false=>
   have i:¬wO fr a.off:=by intro⟨y,z⟩;grind[World.frozen?]
   obtain⟨c',aP,A,M,p⟩:=d.cells r.1 j;have q:w'.frozen? a'=false:=by unfold World.frozen?;rw[A];have:¬wO aP a'.off:=λy=>i (r.2.1▸p _ y);grind[wO]
   have m:ρ.mine a'.block:=by
    apply Classical.byContradiction;intro hn;rcases d.still _ _ r.1 hn with⟨_,cr,L,N,f,F⟩|⟨_,es,k,f⟩|⟨o,f,hd⟩
    .grind
    .grind
    .rw[j]at f;cases f;cases hd
   refine⟨ρ,w'.setCell a' v',?_,?_,λes=>⟨#[⟨.cell a',true,false⟩],?_,?_⟩⟩
   .show Ev C S ρ _ ((Go.store a v).run C.P w) ((Go.store a' v').run C.Q w') _;rw[Go.store,Go.store,run_store s iv g t,run_store E nF u q];exact .ok trivial (d.setCell r l m)
   .refine⟨Ren.le_refl _,λ_ h=>.inl h,by simp[World.setCell],λ_ h=>.inl h,λ_ _ h=>.inl h,λb J hn=>?_,Y,Y,Y,Nat.le_refl _⟩;grind[World.setCell]
   .grind[Go.store,events_store,Sem.events,Sem.runT]
   .intro e n;simp at n;subst n;exact⟨⟨_,r.1⟩,λ_=>m,Y⟩
def Ren.new(ρ:Ren)(n n':Nat):Ren:={rel:=λa b=>ρ.rel a b\/(a=n/\b=n'),mine:=λb=>ρ.mine b\/b=n'}
def Ren.Wc(ρ:Ren)(n a:Nat):Ren.le ρ (ρ.new n a):=⟨λ_ _ h=>.inl h,λ_ h=>.inl h⟩
theorem ew.alloc(h:ew C S ρ w w')(l:g7 C ρ o o'):ew C S (ρ.new w.heap.size w'.heap.size) {w with heap:=w.heap.push o} {w' with heap:=w'.heap.push o'}:=by
 have f:=Ren.Wc ρ w.heap.size w'.heap.size;refine⟨λb b' c=>?_,λa b b' x y=>?_,λa a' b x y=>?_,λg hg=>.inl (h.m3 g hg),h.sync,h.tape,h.env,h.lone,λb b' c hn=>?_⟩
 .rcases c with c|⟨rfl,rfl⟩
  .obtain⟨p,i,h1,m,h3⟩:=h.obj b b' c;have d:=h.lt c;exact⟨p,i,AA,AA,h3.mono f⟩
  .exact⟨o,o',A_,A_,l.mono f⟩
 .rcases x with x|⟨rfl,rfl⟩<;>rcases y with y|⟨k,j⟩
  .exact h.one _ _ _ x y
  .have:=(h.lt x).1;omega
  .have:=(h.lt y).1;omega
  grind
 .rcases x with x|⟨rfl,rfl⟩<;>rcases y with y|⟨k,j⟩
  .exact h.inj _ _ _ x y
  .have:=(h.lt x).2;omega
  .have:=(h.lt y).2;omega
  grind
 .rcases c with c|⟨rfl,rfl⟩
  .have d:=h.lt c;have e:({w with heap:=w.heap.push o}:aO).heap[b]?=w.heap[b]?:=AA;rw[e];exact h.still b b' c λx=>hn (.inl x)
  .exact absurd K1 hn
theorem ap.new(f:g7 C ρ o o'):ap C ρ (λσ n d=>σ.rel n d/\σ.mine d) (Go.newObj o) (Go.newObj o'):=by intro S w w' e _ _;refine⟨ρ.new w.heap.size w'.heap.size,{w' with heap:=w'.heap.push o'},.ok ⟨.inr ⟨Y,Y⟩,.inr Y⟩ (e.alloc f),?_,λes=>⟨#[],by simp[Sem.events,Go.newObj,Sem.runT],A_⟩⟩;refine⟨Ren.Wc _ _ _,λb c=>c.imp id (λx=>As),A_,λb c=>c.imp id (λx=>AA),λa b c=>c.imp id (λx=>As),λb c _=>?_,Y,Y,Y,Nat.le_refl _⟩;grind
theorem ap.shape(h:ρ.rel r r'):ap C ρ (λ_ s s'=>s=s') (Go.shape r) (Go.shape r'):=by
 intro S w w' a _ _;refine⟨ρ,w',?_,.refl _ _,λes=>⟨#[],by simp[Sem.events,Go.shape,Sem.runT],A_⟩⟩;refine .ok ?_ a;obtain⟨o,o',h1,d,h3⟩:=a.obj r r' h;unfold World.shape?;rw[h1,d];cases h3 with
 |cells e c hF=>simp[c.size]
 |shut b=>cases o'<;>first|exact b.elim|rfl
 | _=>rfl
def af2(C:cO)(r':Nat)(ρ:Ren)(o o':Obj):Prop:=g7 C ρ o o'/\(∀c e fr,o≠ .cells c e fr)/\(ρ.mine r'\/(C.upd=false/\∃es k,o=.map es k)\/Eu o)
theorem ap.getObj(h:ρ.rel r r'):ap C ρ (af2 C r') (Go.getObj r) (Go.getObj r'):=by
 intro S w w' a hg _;have f:∀c e fr,w.heap[r]?≠some (.cells c e fr):=by grind[Go.getObj,Sem.run,Good]
 obtain⟨o,o',h1,p,h3,m,iv,nF,i⟩:=a.other h f;have l:(Go.getObj r).run C.P w=.ok o w:=by grind[Go.getObj,Sem.run]
 have j:(Go.getObj r').run C.Q w'=.ok o' w':=by simp_all[Go.getObj,Sem.run]
 refine⟨ρ,w',?_,.refl _ _,λes=>⟨#[⟨.obj r',false,false⟩],?_,?_⟩⟩
 .rw[l,j];refine .ok ⟨h3,λc e fr x=>f c e fr AA,?_⟩ a;by_cases g:ρ.mine r'
  .grind
  .rcases a.still _ _ h g with⟨_,c,e,fr,b,_⟩|⟨n,es,k,b⟩|⟨o,b,hd⟩
   .grind
   .grind
   grind
 .simp_all[Sem.events,Go.getObj,Sem.runT]
 .intro e d;simp at d;subst d;exact⟨⟨_,h⟩,A_,Y⟩
theorem ap.setObj(h:ρ.rel r r')(g:ρ.mine r')(k:g7 C ρ o o')(hn:∀c e fr,o≠ .cells c e fr):ap C ρ (λ_(_ _:Unit)=>True) (Go.setObj r o) (Go.setObj r' o'):=by
 intro S w w' a hg _;have n:∀c e fr,w.heap[r]?≠some (.cells c e fr):=by grind[Go.setObj,Sem.run,Good]
 obtain⟨p,t,h1,v,h3,u,iv,nF,_⟩:=a.other h n;have l:=a.lt h;have s:(Go.setObj r o).run C.P w=.ok () {w with heap:=w.heap.setIfInBounds r o}:=by grind[Go.setObj,Sem.run]
 have q:(Go.setObj r' o').run C.Q w'=.ok () {w' with heap:=w'.heap.setIfInBounds r' o'}:=by simp_all[Go.setObj,Sem.run]
 have m:o'.isChan=false:=by
  cases k with
  |shut x=>cases o'<;>first|exact x.elim|rfl
  | _=>rfl
 refine⟨ρ,{w' with heap:=w'.heap.setIfInBounds r' o'},?_,?_,λes=>⟨#[⟨.obj r',true,false⟩],?_,?_⟩⟩
 .rw[s,q];refine .ok trivial ⟨λb b' d=>?_,a.one,a.inj,a.m3,a.sync,a.tape,a.env,a.lone,λb b' d f=>?_⟩
  .simp only[Array.getElem?_setIfInBounds];by_cases e:r=b
   .subst e;have j:r'=b':=a.one _ _ _ h d;grind
   .have j:r'≠b':=λx=>e (a.inj _ _ _ (x▸h) d);rw[if_neg e,if_neg j];exact a.obj b b' d
  .have e:r≠b:=λx=>f (a.one _ _ _ h (x▸d)▸g);simp only[Array.getElem?_setIfInBounds,if_neg e];exact a.still b b' d f
 .refine⟨Ren.le_refl _,λ_ h=>.inl h,A_,λ_ h=>.inl h,λ_ _ h=>.inl h,λb d f=>?_,Y,Y,Y,Nat.le_refl _⟩;grind
 .simp_all[Sem.events,Go.setObj,Sem.runT]
 .intro e i;simp at i;subst i;exact⟨⟨_,h⟩,λ_=>g,Y⟩
theorem ap.choose(q:Question):ap C ρ (λ_ a b=>a=b) (Go.choose q) (Go.choose q):=by
 intro S w w' c _ f;by_cases d:q.forced=true
 .refine⟨ρ,w',?_,.refl _ _,λes=>⟨#[],by simp[Sem.events,Go.choose,Sem.runT,d],A_⟩⟩;simp only[Go.choose,Sem.run,d,if_true];exact .ok Y c
 .refine⟨ρ,{w' with drawn:=w'.drawn+1},?_,?_,λes=>⟨#[],by simp[Sem.events,Go.choose,Sem.runT,d],A_⟩⟩
  .simp only[Go.choose,Sem.run,d,kH]at f⊢;refine .ok ?_ ⟨c.obj,c.one,c.inj,c.m3,?_,λj q g=>?_,c.env,c.lone,c.still⟩
   .have:=c.tape 0 q AA;grind
   .have:=c.sync;grind
   .have e:w'.drawn+(j+1)<S.bound:=by grind
    have:=c.tape (j+1) q e;grind
  .exact⟨Ren.le_refl _,λ_ h=>.inl h,Nat.le_refl _,λ_ h=>.inl h,λ_ _ h=>.inl h,λ_ _ _=>Y,Y,Y,Y,Nat.le_succ _⟩
theorem ap.program:ap C ρ (λ_ p q=>p=C.P/\q=C.Q) Go.program Go.program:=by intro S w w' a _ _;exact⟨ρ,w',.ok ⟨Y,Y⟩ a,.refl _ _,λes=>⟨#[],by simp[Sem.events,Go.program,Sem.runT],A_⟩⟩
theorem ap.noRoom:ap C ρ (λ_(_ _:Unit)=>True) (Go.mark .noRoom) (Go.mark .noRoom):=by intro S w w' b _ _;refine⟨ρ,w',.ok trivial b,.refl _ _,λes=>⟨#[⟨.mark .noRoom,false,true⟩],by simp[Sem.events,Go.mark,Sem.runT],?_⟩⟩;intro e a;simp at a;subst a;trivial
def ap.af3:ap C ρ (λ_ a b=>a=b) (Go.sys .env) (Go.sys .env):=by
 intro S w w' c _ _;refine⟨ρ,w',?_,.refl _ _,λes=>⟨#[⟨.output,true,false⟩],by simp[Sem.events,Go.sys,Sem.runT],?_⟩⟩
 .show Ev C S ρ _ (.ok (SysRet.strings w.os.env) w) (.ok (SysRet.strings w'.os.env) w') w';exact .ok (by rw[c.env]) c
 .intro e d;simp at d;subst d;trivial
theorem ap.extern(f:FuncId):ap C ρ (λ_(_ _:Unit)=>True) (Go.mark (.extern f)) (Go.mark (.extern f)):=by intro S w w' b _ _;refine⟨ρ,w',.ok trivial b,.refl _ _,λes=>⟨#[⟨.mark (.extern f),false,true⟩],by simp[Sem.events,Go.mark,Sem.runT],?_⟩⟩;intro e a;simp at a;subst a;trivial
theorem ap.askRoom(n:Nat):ap C ρ (λ_(_ _:Unit)=>True) (Go.askRoom n) (Go.askRoom n):=by
 unfold Go.askRoom;split
 .exact .noRoom
 .exact .pure trivial
end
end
variable{c':Array Value}
section
attribute [-simp] Sem.runT_eq
def cO.co(C:cO):Prop:=C.P.toTables=C.Q.toTables
def cO.tz(C:cO):Prop:=∀t i v,C.P.info? t=some i->i.zero=some v->iu v
section
variable{C:cO}{ρ:Ren}
theorem dt.add(h:dt ρ a a')(n:Nat):dt ρ (a.add n) (a'.add n):=by
 unfold Addr.add;split
 .exact h
 .exact⟨h.1,by simp[h.2.1],Y⟩
theorem ap.cut{al aJ γ Hg:Type}{R:Ren->γ->Hg->Prop}{m:Sem al}{a:Sem aJ}{f:al->Sem γ}{f':aJ->Sem Hg}(h:ap C ρ (λ_ _ _=>False) m a):ap C ρ R (m>>= f) (a>>= f'):=.bind h λ_ _ _ _ x=>x.elim
theorem ap.typeInfo(d:C.co)(t:TypeId):ap C ρ (λ_ a b=>a=b/\C.P.info? t=some a) (Go.typeInfo t) (Go.typeInfo t):=by
 unfold Go.typeInfo;refine .bind .program λσ p q _⟨c,hq⟩=>?_;subst c;subst hq;have e:C.Q.info? t=C.P.info? t:=by unfold Tables.info?;rw[d]
 grind[stuck,pure]
theorem ap.underlying(d:C.co)(t:TypeId):ap C ρ (λ_ a b=>a=b/\C.P.underlying t=some a) (Go.underlying t) (Go.underlying t):=by
 unfold Go.underlying;refine .bind .program λσ p q _⟨c,hq⟩=>?_;subst c;subst hq;have e:C.Q.underlying t=C.P.underlying t:=by unfold Program.underlying Tables.info?;rw[d]
 grind[stuck,pure]
theorem ap.zeroValue(d:C.co)(c:C.tz)(t:TypeId):ap C ρ (λ_ a b=>a=b/\iu a) (Go.zeroValue t) (Go.zeroValue t):=by unfold Go.zeroValue;refine .bind (ap.typeInfo d t) λσ i j _⟨h1,e⟩=>?_;subst h1;cases h:i.zero with|none=>exact .unsupported|some v=>exact .pure ⟨Y,c t i v e h⟩
theorem ap.sizeOf(c:C.co)(t:TypeId):ap C ρ (λ_ a b=>a=b) (Go.sizeOf t) (Go.sizeOf t):=by unfold Go.sizeOf;exact .bind (ap.typeInfo c t) λσ i j _⟨h1,d⟩=>.pure (by rw[h1])
theorem ap.isAgg(c:C.co)(t:TypeId):ap C ρ (λ_ a b=>a=b) (Go.isAgg t) (Go.isAgg t):=by unfold Go.isAgg;refine .bind (ap.underlying c t) λσ i j _⟨h1,d⟩=>?_;grind[pure]
theorem ap.loadCellsFrom(r:dt ρ a a')(n:Nat):∀(i:Nat){acc b:Array Value},aS ρ acc b->ap C ρ aS (Go.loadCellsFrom a i n acc) (Go.loadCellsFrom a' i n b):=by induction n generalizing ρ with|zero=>intro i acc b h;exact .pure h|succ n d=>intro i acc b h;simp only[Go.loadCellsFrom];exact .bind (ap.load (r.add i)) λσ v v' c e=>d (r.mono c) (i+1) ((h.mono c).push e)
theorem ap.loadCells(r:dt ρ a a')(n:Nat):ap C ρ aS (Go.loadCells a n) (Go.loadCells a' n):=ap.loadCellsFrom r n 0 (.nil ρ)
theorem ap.storeCells(r:dt ρ a a'){l l':List Value}(h:dy (ay ρ) l l'):∀(i:Nat),ap C ρ (λ_(_ _:Unit)=>True) (Go.storeCells a l i) (Go.storeCells a' l' i):=by induction l generalizing ρ l' with|nil=>intro i;cases h;exact .pure trivial|cons x l c=>intro i;cases h with|cons d ht=>simp only[Go.storeCells];exact .bind (ap.store (r.add i) d) λσ _ _ b _=>c (r.mono b) (ht.mono λ_ _ y=>y.mono b) (i+1)
theorem ap.loadVar(e:C.co)(t:TypeId)(r:dt ρ a a'):ap C ρ ay (Go.loadVar t a) (Go.loadVar t a'):=by
 unfold Go.loadVar;refine .bind (ap.isAgg e t) λσ b b' d g=>?_;subst g;cases b
 .exact ap.load (r.mono d)
 .refine .bind (ap.sizeOf e t) λk n i h hn=>?_;subst hn;exact .bind (ap.loadCells ((r.mono d).mono h) n) λj c c' _ f=>.pure (.pU f)
theorem ap.storeVar(d:C.co)(t:TypeId)(r:dt ρ a a')(b:ay ρ v v'):ap C ρ (λ_(_ _:Unit)=>True) (Go.storeVar t a v) (Go.storeVar t a' v'):=by unfold Go.storeVar;refine .bind (ap.sizeOf d t) λσ n e c hn=>?_;subst hn;have hs:=b.cells.size;rw[<-hs];exact .ite (λ_=>.cut .stuck) (λ_=>ap.storeCells (r.mono c) (dy.Hc (b.cells.mono c)) 0)
theorem ap.newRow(e:TypeId)(h:aS ρ c c'):ap C ρ dt (Go.newRow e c) (Go.newRow e c'):=by unfold Go.newRow;exact .bind (ap.new (.cells e h ⟨λ_ x=>x,λ_=>Y⟩)) λσ n a _ hn=>.pure ⟨hn.1,Y,Y⟩
theorem ap.newVar(t:TypeId)(h:ay ρ v v'):ap C ρ dt (Go.newVar t v) (Go.newVar t v'):=ap.newRow t h.cells
theorem ap.elemOf(c:C.co)(t:TypeId):ap C ρ (λ_ a b=>a=b) (Go.elemOf t) (Go.elemOf t):=by unfold Go.elemOf;refine .bind (ap.underlying c t) λσ i j _⟨h1,d⟩=>?_;grind[stuck,pure]
theorem ap.part(e:C.co)(t:TypeId)(h:aS ρ c c')(off:Nat):ap C ρ ay (Go.part t c off) (Go.part t c' off):=by
 unfold Go.part;refine .bind (ap.isAgg e t) λσ b b' d i=>?_;subst i;cases b
 .simp only[Bool.false_eq_true,if_false];cases f:c[off]? with|none=>exact .stuck|some v=>obtain⟨v',a,g⟩:=h.some f;rw[a];exact .pure (g.mono d)
 .simp only[if_true];refine .bind (ap.sizeOf e t) λl n k j hn=>?_;subst hn;exact .pure (.pU (((h.mono d).mono j).extract _ _))
def af5(a:ρ.rel C.P.globals.size C.P.globals.size)(hg:C.P.globals.size=C.Q.globals.size)(t:TypeId):ay ρ (typeHandle C.P t) (typeHandle C.Q t):=by unfold typeHandle;rw[<-hg];exact .ptr ⟨a,Y,Y⟩
def ap.af6{al aJ:Type}{R:Ren->al->aJ->Prop}{m:Sem al}{a:Sem aJ}(h:(∀g,g<=C.P.globals.size->ρ.rel g g)->ap C ρ R m a):ap C ρ R m a:=λS w w' b hg c=>h b.m3 S w w' b hg c
theorem ap.runtimePanic(j:C.co){al aJ:Type}{R:Ren->al->aJ->Prop}(e:RuntimeError):ap C ρ R (Go.runtimePanic e:Sem al) (Go.runtimePanic e:Sem aJ):=by
 refine .af6 λu=>?_;have A:C.P.globals.size=C.Q.globals.size:=by rw[j]
 have f:C.P.rt=C.Q.rt:=by rw[j]
 have l:∀{σ:Ren}(s:String),ay σ (strVal s) (strVal s):=λs=>.string _;unfold Go.runtimePanic;refine .bind .program λσ p q E⟨D,hq⟩=>?_;subst D;subst hq;have z:∀{g:Ren},Ren.le σ g->∀t,ay g (typeHandle C.P t) (typeHandle C.Q t):=λk t=>af5 (k.1 _ _ (E.1 _ _ (u _ J1))) A t;simp only[];cases e with
 |bounds x y s c=>rw[<-f];exact .goPanic (.iface _ (iu.rel (.agg λi v h=>by
  match i,h with
  |0,h=>simp at h;subst h;exact .int _ _
  |1,h=>simp at h;subst h;exact .int _ _
  |2,h=>simp at h;subst h;exact .bool _
  |3,h=>simp at h;subst h;exact .int _ _
  |i+4,h=>grind) _))
 |error m=>rw[<-f];exact .goPanic (.iface _ (l _))
 |plain m=>rw[<-f];exact .goPanic (.iface _ (l _))
 |nilDeref=>rw[<-f];exact .goPanic (.iface _ (l _))
 |typeAssertion i c a m=>
  rw[<-f];refine .bind (ap.elemOf j _) λg x x' k n=>?_;subst n;refine .bind (ap.newVar x ?_) λB r r' _ o=>.goPanic (.iface _ (.ptr o));have f4:∀{a b c d a' b' c' w:Value},ay g a a'->ay g b b'->ay g c c'->ay g d w->aS g #[a,b,c,d] #[a',b',c',w]:=λh1 H h3 F=>by simpa using aS.append (aS.append (aS.append (aS.one h1) (aS.one H)) (aS.one h3)) (aS.one F)
  cases i<;>cases c<;>exact .pU (f4 (by first|exact .lj|grind) (by first|exact .lj|grind) (z k _) (l _))
 |panicNil=>rw[<-f];refine .bind (ap.elemOf j _) λg x x' k n=>?_;subst n;exact .bind (ap.newVar x (.pU (.nil _))) λB r r' _ o=>.goPanic (.iface _ (.ptr o))
 |unhashable t=>rw[<-f];exact .goPanic (.iface _ (.pU (.one (z (Ren.le_refl _) t))))
theorem ap.boundsPanic(c:C.co){al aJ:Type}{R:Ren->al->aJ->Prop}(k:IntKind)(x y:Int)(code:BoundsCode):ap C ρ R (Go.boundsPanic k x y code:Sem al) (Go.boundsPanic k x y code:Sem aJ):=by
 unfold Go.boundsPanic;simp only[];split
 .refine .bind (R:=λ_ a b=>a=b) ?_ λσ s s' _ hs=>by grind[ap.runtimePanic]
  exact .bind (f:=λa=>Pure.pure (a==1)) (f':=λa=>Pure.pure (a==1)) (ap.choose _) λσ a b _ h=>.pure (by rw[h])
 grind[ap.runtimePanic]
theorem ap.asIntOf(h:ay ρ v v'):ap C ρ (λ_ a b=>a=b) (Go.asIntOf v) (Go.asIntOf v'):=by cases h<;>first|exact .pure Y|exact .unsupported|exact .stuck
theorem ap.asInt(h:ay ρ v v'):ap C ρ (λ_ a b=>a=b) (Go.asInt v) (Go.asInt v'):=by unfold Go.asInt;exact .bind (ap.asIntOf h) λσ a b _ h=>.pure (by rw[h])
theorem ap.asBool(h:ay ρ v v'):ap C ρ (λ_ a b=>a=b) (Go.asBool v) (Go.asBool v'):=by cases h<;>first|exact .pure Y|exact .stuck
theorem ap.asAddr(a:C.co)(h:ay ρ v v'):ap C ρ dt (Go.asAddr v) (Go.asAddr v'):=by cases h with|ptr h=>exact .pure h|lj=>exact(ap.runtimePanic a .nilDeref:ap C ρ dt (Go.runtimePanic .nilDeref:Sem Addr) (Go.runtimePanic .nilDeref:Sem Addr))| _=>exact .stuck
end
end
variable{z:Array Value}{x':Value}{ps:Array (Nat×Operand)}{y3:Array (Nat×Value)}
section
attribute [-simp] Sem.runT_eq
section
variable{C:cO}{ρ:Ren}
def PM(h:ay ρ v v'):ap C ρ dt (Instr.sureAddr v) (Instr.sureAddr v'):=by cases h with|ptr h=>exact .pure h| _=>exact .stuck
def af8(b:C.co)(t:TypeId)(h:ay ρ v v'):ap C ρ ay (Instr.loadAt t v) (Instr.loadAt t v'):=by unfold Instr.loadAt;exact .bind (PM h) λσ a a' _ r=>ap.loadVar b t r
def af9(d:C.co)(t:TypeId)(h:ay ρ v v')(b:ay ρ x x'):ap C ρ (λ_(_ _:Unit)=>True) (Instr.storeAt t v x) (Instr.storeAt t v' x'):=by unfold Instr.storeAt;exact .bind (PM h) λσ a a' c r=>ap.storeVar d t r (b.mono c)
theorem af_(c:C.co)(b:C.tz)(t:TypeId):ap C ρ ay (Instr.alloc t true (.tuple #[])) (Instr.alloc t true (.tuple #[])):=by unfold Instr.alloc;refine .bind (ap.zeroValue c b t) λσ v v' _⟨h1,d⟩=>?_;subst h1;exact .bind (ap.newVar t (d.rel σ)) λe a a' _ r=>.pure (.ptr r)
def aga(t:TypeId)(h:ay ρ v v'):ap C ρ ay (Instr.box t v) (Instr.box t v'):=by unfold Instr.box;exact .bind (ap.newVar t h) λb a a' _ r=>.pure (.ptr r)
def agb(off:Nat):∀(l l':List Value)(j:Nat){c c':Array Value},dy (ay ρ) l l'->aS ρ c c'->
 aS ρ ((l.zipIdx j).foldl (λcs(p:Value×Nat)=>cs.setIfInBounds (off+p.2) p.1) c) ((l'.zipIdx j).foldl (λcs(p:Value×Nat)=>cs.setIfInBounds (off+p.2) p.1) c'):=by
 intro l;induction l with|nil=>intro l' j c c' h a;cases h;exact a|cons x l b=>intro l' j c c' h a;cases h with|cons d ht=>simp only[List.zipIdx_cons,List.foldl_cons];exact b _ (j+1) ht (a.set d _)
def agc(off:Nat){a a':Array Value}(h:aS ρ a a')(b:aS ρ c c'):
 aS ρ (a.zipIdx.foldl (λcs(x:Value×Nat)=>cs.setIfInBounds (off+x.2) x.1) c) (a'.zipIdx.foldl (λcs(x:Value×Nat)=>cs.setIfInBounds (off+x.2) x.1) c'):=by
 have e:∀(a c:Array Value),a.zipIdx.foldl (λcs(x:Value×Nat)=>cs.setIfInBounds (off+x.2) x.1) c=(a.toList.zipIdx 0).foldl (λcs(p:Value×Nat)=>cs.setIfInBounds (off+p.2) p.1) c:=λa c=>by rw[<-Array.foldl_toList];simp
 simp_all[agb,dy.Hc]
def rF(ρ:Ren)(p p':Nat×Value):Prop:=p.1=p'.1/\ay ρ p.2 p'.2
def PN(place:Nat->Option (Nat×Nat)):∀(l l':List (Nat×Value)){c c':Array Value},dy (rF ρ) l l'->aS ρ c c'->
 (Instr.fill place c l=none/\Instr.fill place c' l'=none)\/∃x x',Instr.fill place c l=some x/\Instr.fill place c' l'=some x'/\aS ρ x x':=by
 intro l;induction l with
 |nil=>intro l' c c' h a;cases h;exact .inr ⟨c,c',Y,Y,a⟩
 |cons p l e=>
  intro l' c c' h a;cases h with
  |@cons _ d _ l' g ht=>
   obtain⟨i,v⟩:=p;obtain⟨f,v'⟩:=d;obtain⟨rfl,b⟩:i=f/\ay ρ v v':=g;simp only[Instr.fill];cases j:place i with
   |none=>grind
   |some os=>
    obtain⟨off,size⟩:=os;simp only[];rw[<-b.cells.size,<-a.size];split
    .grind
    .exact e _ ht (agc off b.cells a)
def agd{f f':Operand->Value}(h:∀p∈ps,ay ρ (f p.2) (f' p.2)):dy (rF ρ) (ps.map λ(i,x)=>(i,f x)).toList (ps.map λ(i,x)=>(i,f' x)).toList:=by obtain⟨l⟩:=ps;simp only[List.map_toArray];induction l with|nil=>exact .nil|cons p l a=>obtain⟨i,x⟩:=p;exact .cons ⟨Y,h (i,x) A_⟩ (a λq hq=>h q AA)
def age{al aJ:Type}{f f':al->Sem aJ}(h:∀(ρ:Ren) a,ap C ρ (λ_ x y=>x=y) (f a) (f' a)):∀(l:List al)(ρ:Ren),ap C ρ (λ_ x y=>x=y) (l.mapM f) (l.mapM f'):=by intro l;induction l with|nil=>intro ρ;simp only[List.mapM_nil];exact .pure Y|cons a l b=>intro ρ;simp only[List.mapM_cons];exact .bind (h ρ a) λσ x y _ e=>by subst e;exact .bind (b σ) λc x y _ e=>by subst e;exact .pure Y
def agf{al aJ:Type}{f f':al->Sem aJ}(h:∀(ρ:Ren) a,ap C ρ (λ_ x y=>x=y) (f a) (f' a))(l:Array al):ap C ρ (λ_ x y=>x=y) (l.mapM f) (l.mapM f'):=by
 have e:∀g:al->Sem aJ,l.mapM g=(do pure (<-l.toList.mapM g).toArray):=λg=>by rw[Array.mapM_eq_mapM_toList];rfl
 rw[e,e];exact .bind (age h l.toList ρ) λσ x y _ e=>.pure (by rw[e])
def agh(k:C.co)(s:C.tz)(t:TypeId){ps:Array (Nat×Value)}(h:dy (rF ρ) ps.toList y3.toList):ap C ρ ay (Instr.build t ps) (Instr.build t y3):=by
 unfold Instr.build;refine .bind (ap.zeroValue k s t) λσ z A u⟨h1,r⟩=>?_;subst h1;refine .bind (ap.underlying k t) λp d E v⟨h3,D⟩=>?_;subst h3;have q:=dy.mono (λa b(x:rF ρ a b)=>(⟨x.1,(x.2.mono u).mono v⟩:rF p a b)) h;cases d with
 |struct fields=>
  simp only[];refine .bind (R:=λ_ x y=>x=y) (agf (λρ f=>.bind (ap.sizeOf k _) λσ a b _ e=>.pure (by rw[e])) fields) λc pl w m e=>?_;subst e;have l:=dy.mono (λa b(x:rF p a b)=>(⟨x.1,x.2.mono m⟩:rF c a b)) q;rcases PN (ρ:=c) (λi=>pl[i]?) ps.toList y3.toList l (r.cells.rel c)with⟨j,g⟩|⟨x,x',j,g,o⟩
  .rw[j,g];exact .stuck
  .rw[j,g];exact .pure (.pU o)
 |array n elem=>
  simp only[];refine .bind (ap.sizeOf k elem) λc n B m e=>?_;subst e;have l:=dy.mono (λa b(x:rF p a b)=>(⟨x.1,x.2.mono m⟩:rF c a b)) q;rcases PN (ρ:=c) (λi=>some (i*n,n)) ps.toList y3.toList l (r.cells.rel c)with⟨j,g⟩|⟨x,x',j,g,o⟩
  .rw[j,g];exact .stuck
  .rw[j,g];exact .pure (.pU o)
 | _=>exact .stuck
theorem agi:iu (default:Value):=.bool _
def jU.PO(h:jU z)(n:Nat):jU ((Array.range n).map (z[· % z.size]!)):=by
 intro i v a;simp only[Array.getElem?_map,Array.getElem?_range]at a;split at a
 .simp only[Option.map_some,Option.some.injEq]at a;subst a;by_cases b:i % z.size<z.size
  .rw[getElem!_pos z _ b];exact h _ _ (Array.getElem?_eq_getElem b)
  grind[agi]
 grind
def agj(j:C.co)(p:C.tz)(t:TypeId)(len:Nat){ps:Array (Nat×Value)}(h:dy (rF ρ) ps.toList y3.toList):ap C ρ ay (Instr.buildSlice t len ps) (Instr.buildSlice t len y3):=by
 unfold Instr.buildSlice;refine .bind (ap.underlying j t) λσ d F w⟨h3,E⟩=>?_;subst h3;cases d with
 |slice elem=>
  simp only[];refine .bind (ap.sizeOf j elem) λH n D B e=>?_;subst e;refine .ite (λA=>.cut .unsupported) (λA=>?_);refine .ite (λ_=>.bind (R:=λ_ x y=>x=y/\jU x) (.pure ⟨Y,λi v h=>AA⟩) λg z m f⟨e,l⟩=>?_)
   (λ_=>.bind (ap.zeroValue j p elem) λI y y' q⟨c,s⟩=>.bind (R:=λ_ x y=>x=y/\jU x) (.pure ⟨by rw[c],s.cells⟩) λg z m f⟨e,l⟩=>?_)
  all_goals
   subst e;first|replace f:=Ren.le_trans q f|skip
   have o:=dy.mono (λa b(x:rF ρ a b)=>(⟨x.1,x.2.mono (Ren.le_trans (Ren.le_trans w B) f)⟩:rF g a b)) h;rcases PN (ρ:=g) (λi=>some (i*n,n)) ps.toList y3.toList o ((l.PO (len*n)).rel g)with⟨c,k⟩|⟨x,x',c,k,u⟩
   .rw[c,k];exact .stuck
   .rw[c,k];exact .bind (ap.newRow elem u) λ_ a a' _ r=>.pure (.slice len len r)
 | _=>exact .stuck
end
end
section
attribute [-simp] Sem.runT_eq
section
variable{C:cO}{ρ:Ren}
theorem Ey(a:C.co)(t:TypeId):C.Q.info? t=C.P.info? t:=by unfold Tables.info?;rw[a]
theorem AN(a:C.co)(t:TypeId):C.Q.underlying t=C.P.underlying t:=by grind[Program.underlying,Ey]
theorem AO(a:C.co)(t:TypeId):C.Q.cellsOf t=C.P.cellsOf t:=by grind[Program.cellsOf,Ey]
theorem KV(a:C.co)(t:TypeId):C.Q.bytesOf t=C.P.bytesOf t:=by grind[Program.bytesOf,Ey]
theorem Ez(a:C.co):C.Q.depth=C.P.depth:=by unfold Program.depth;rw[a]
theorem Wd(b:C.co):∀(d:Nat)(t:TypeId)(off:Nat),byteOfCell C.Q d t off=byteOfCell C.P d t off:=by intro d;induction d with|zero=>intro t off;rfl|succ d a=>grind[byteOfCell,AN,AO,KV]
def We(h:ρ.rel r r'):ap C ρ (λ_ a b=>a=none/\b=none) (viewAt r) (viewAt r'):=by
 unfold viewAt;refine .bind (ap.shape h) λσ s s' f e=>?_;subst e;refine .ite (λ_=>.pure ⟨Y,Y⟩) (λ_=>?_);refine .bind (ap.getObj (f.1 _ _ h)) λg o o' _ hg=>?_;obtain⟨d,hn,_⟩:=hg;cases d with
 |shut c=>cases o'<;>first|exact c.elim|exact .pure ⟨Y,Y⟩
 | _=>exact .pure ⟨Y,Y⟩
def agk(h:dt ρ a a'):ap C ρ (λ_(_ _:Unit)=>True) (noView a) (noView a'):=by unfold noView;refine .bind (We h.1) λσ s s' d⟨c,b⟩=>?_;subst c;subst b;exact .pure trivial
def AP(c:C.co)(h:dt ρ a a'):ap C ρ (λ_ x y=>x=y) (byteOf a) (byteOf a'):=by unfold byteOf;rw[<-h.2.2];cases hs:a.spot with|some s=>exact .pure Y|none=>simp only[];refine .bind .program λσ p q d⟨f,hq⟩=>?_;subst f;subst hq;refine .bind (agk (h.mono d)) λk _ _ g _=>?_;refine .bind (ap.shape (g.1 _ _ (d.1 _ _ h.1))) λj s s' i e=>?_;subst e;cases s with|none=>exact .stuck|some aK=>obtain⟨e,n⟩:=aK;simp only[AO c,KV c,Wd c,Ez c];refine .ite (λ_=>.pure Y) (λ_=>?_);rw[<-h.2.1];cases byteOfCell C.P C.P.depth e (a.off % C.P.cellsOf e)with|none=>exact .stuck|some b=>exact .pure Y
def agl(c:C.co)(h:dt ρ a a')(cells bytes:Nat):ap C ρ dt (partAt a cells bytes) (partAt a' cells bytes):=by
 unfold partAt;refine .bind (AP c h) λσ x x' f e=>?_;subst e;have b:dt σ {block:=a.block,off:=a.off+cells} {block:=a'.block,off:=a'.off+cells}:=⟨f.1 _ _ h.1,by simp[h.2.1],Y⟩;refine .bind (AP c b) λg y y' d e=>?_;subst e;refine .pure ?_;split
 .exact b.mono d
 .exact⟨d.1 _ _ b.1,b.2.1,Y⟩
def agm(c:C.co)(h:dt ρ a a')(f:Field):ap C ρ dt (fieldPlace a f) (fieldPlace a' f):=by unfold fieldPlace;refine .bind (ap.sizeOf c _) λσ n d b e=>?_;subst e;exact .ite (λ_=>agl c (h.mono b) _ _) (λ_=>.pure ((h.mono b).add _))
def agn(c:C.co)(s:TypeId)(h:ay ρ v v')(field:Nat):ap C ρ ay (Instr.fieldAt s v field) (Instr.fieldAt s v' field):=by
 unfold Instr.fieldAt;refine .bind (ap.underlying c s) λσ d l i⟨e,_⟩=>?_;subst e;cases d with
 |struct fields=>simp only[];cases fields[field]? with|none=>exact .stuck|some f=>simp only[];refine .bind (PM (h.mono i)) λm a a' k r=>?_;exact .bind (agm c r f) λj b b' _ g=>.pure (.ptr g)
 | _=>exact .stuck
def y4(P:cg)(t:TypeId):Bool:=
 match P.underlying t with
 |some (.slice _)=>true
 | _=>false
def ago(c:C.co)(t:TypeId)(ht:y4 C.P t=true){i h:Value}(m:ay ρ x x')(hi:ay ρ i h):ap C ρ ay (Instr.indexAt t x i) (Instr.indexAt t x' h):=by
 unfold Instr.indexAt;refine .bind (ap.asIntOf hi) λσ B w o e=>?_;subst e;refine .bind (ap.underlying c t) λA d v s⟨e,hd⟩=>?_;subst e;have j:=(m.mono o).mono s;have k:=j;simp only[y4,hd]at ht;cases d with
 |slice elem=>
  cases j<;>first|exact .stuck|skip
  all_goals
   refine .bind (R:=λ_ a b=>a=_/\b=_) (.pure ⟨Y,Y⟩) λy p q f⟨e,u⟩=>?_;subst e;subst u;refine .bind (ap.underlying c t) λy d v g⟨e,_⟩=>?_;subst e
  .exact ap.boundsPanic c _ _ _ _
  .cases k;rename_i r;replace f:=Ren.le_trans f g;refine .ite (λ_=>.bind (ap.sizeOf c elem) λD n z l e=>?_) (λ_=>.ite (λ_=>.unsupported) (λ_=>ap.boundsPanic c _ _ _ _));subst e;exact .pure (.ptr (((r.mono f).mono l).add _))
 | _=>cases ht
end
end
variable{EA hi iW lo mx mx':Option Value}
section
attribute [-simp] Sem.runT_eq
inductive od{al aJ:Type}(R:al->aJ->Prop):Option al->Option aJ->Prop
 |none:od R none none
 |some {a:al} {b:aJ} (h:R a b):od R (some a) (some b)
theorem od.mono{al aJ:Type}{R S:al->aJ->Prop}(c:∀a b,R a b->S a b){a:Option al}{b:Option aJ}(h:od R a b):od S a b:=by cases h with|none=>exact .none|some h=>exact .some (c _ _ h)
abbrev vm(ρ:Ren):=od (ay ρ)
theorem vm.mono{ρ σ:Ren}(c:Ren.le ρ σ){a b:Option Value}(h:vm ρ a b):vm σ a b:=od.mono (λ_ _ x=>x.mono c) h
theorem od.isSome{al aJ:Type}{R:al->aJ->Prop}{a:Option al}{b:Option aJ}(h:od R a b):a.isSome=b.isSome:=by cases h<;>rfl
section
variable{C:cO}{ρ:Ren}
def KW(c:C.co)(h:ay ρ x x')(y:Nat)(code:BoundsCode):ap C ρ (λ_ a b=>a=b) (Instr.sliceBound x y code) (Instr.sliceBound x' y code):=by unfold Instr.sliceBound;refine .bind (ap.asIntOf h) λσ f d g e=>?_;subst e;obtain⟨k,i⟩:=f;exact .ite (λ_=>.pure Y) (λ_=>ap.boundsPanic c _ _ _ _)
def agr(j:C.co)(isSlice:Bool)(len cap:Nat)(q:vm ρ lo EA)(o:vm ρ hi iW)(i:vm ρ mx mx'):
 ap C ρ (λ_ a b=>a=b) (Instr.sliceBounds isSlice len cap lo hi mx) (Instr.sliceBounds isSlice len cap EA iW mx'):=by
 unfold Instr.sliceBounds;have k:∀(σ:Ren)(m h:Nat),Ren.le ρ σ->ap C σ (λ_ a b=>a=b)
  (do let l <-(match lo with|some v=>Instr.sliceBound v h (if mx.isSome then .slice3C else .sliceB)|none=>pure 0);pure (l,h,m))
  (do let l <-(match EA with|some v=>Instr.sliceBound v h (if mx'.isSome then .slice3C else .sliceB)|none=>pure 0);pure (l,h,m)):=by
  intro σ m h c;rw[i.isSome];cases q with|none=>exact .bind (R:=λ_ a b=>a=b) (.pure Y) λ_ a b _ e=>.pure (by rw[e])|some d=>exact .bind (KW j (d.mono c) _ _) λ_ a b _ e=>.pure (by rw[e])
 cases i with
 |none=>simp only[];refine .bind (R:=λ_ a b=>a=b) (.pure Y) λσ m p c e=>?_;subst e;cases o with|none=>simp only[];refine .bind (R:=λ_ a b=>a=b) (.pure Y) λg h n f e=>?_;subst e;have:=k g m h (Ren.le_trans c f);grind|some d=>simp only[];refine .bind (KW j (d.mono c) _ _) λg h n f e=>?_;subst e;have:=k g m h (Ren.le_trans c f);grind
 |some d=>simp only[];refine .bind (KW j d _ _) λσ m p c e=>?_;subst e;cases o with|none=>refine .bind (R:=λ_ a b=>a=b) .stuck λg h n f e=>?_;subst e;have:=k g m h (Ren.le_trans c f);grind|some d=>simp only[];refine .bind (KW j (d.mono c) _ _) λg h n f e=>?_;subst e;have:=k g m h (Ren.le_trans c f);grind
def ags(f:C.co)(t:TypeId)(ht:y4 C.P t=true)(o:ay ρ x x')(m:vm ρ lo EA)(s:vm ρ hi iW)(h:vm ρ mx mx'):
 ap C ρ ay (Instr.sliceAt t x lo hi mx) (Instr.sliceAt t x' EA iW mx'):=by
 unfold Instr.sliceAt;refine .bind (ap.underlying f t) λσ d p c⟨e,hd⟩=>?_;subst e;simp only[y4,hd]at ht;cases d with
 |slice elem=>
  unfold Instr.slice;refine .bind (ap.underlying f t) λq d p g⟨e,j⟩=>?_;subst e;rw[hd]at j;cases j;replace c:=Ren.le_trans c g;have k:=o.mono c;have l:=k;cases k<;>first|exact .stuck|skip
  all_goals
   refine .bind (agr f true _ _ (m.mono c) (s.mono c) (h.mono c)) λq a b g e=>?_;subst e;refine .bind (ap.sizeOf f elem) λv n u i e=>?_;subst e;refine .pure ?_
  .split<;>exact .jy _ _
  .cases l;rename_i r;split
   .exact .slice _ _ ((r.mono g).mono i)
   .exact .slice _ _ (((r.mono g).mono i).add _)
 | _=>cases ht
def agt(b:C.co)(t:TypeId)(h:ay ρ x x'):ap C ρ ay (Instr.makeInterface t x) (Instr.makeInterface t x'):=by unfold Instr.makeInterface;refine .bind (ap.underlying b t) λσ d c a⟨e,_⟩=>?_;subst e;cases d<;>first|exact .stuck|exact .pure (.iface t (h.mono a))
def agu(b:C.co)(p:C.tz)(t:TypeId){l l' c c':Value}(h:ay ρ l l')(k:ay ρ c c'):ap C ρ ay (Instr.makeSlice t l c) (Instr.makeSlice t l' c'):=by
 unfold Instr.makeSlice;refine .bind (ap.underlying b t) λσ d L j⟨e,_⟩=>?_;subst e;cases d with
 |slice elem=>
  simp only[];refine .bind (ap.asInt (h.mono j)) λM n E u e=>?_;subst e;refine .bind (ap.asInt ((k.mono j).mono u)) λJ m H I e=>?_;subst e;refine .bind (ap.typeInfo b elem) λO i K F⟨e,_⟩=>?_;subst e;refine .ite (λ_=>.ite (λ_=>.cut (ap.runtimePanic b _)) (λ_=>.ite (λ_=>.cut (ap.runtimePanic b _)) (λ_=>.bind (ap.choose _) λN x y _ e=>by subst e;exact .cut (ap.runtimePanic b _)))) (λ_=>?_);refine .bind (ap.askRoom _) λD _ _ _ _=>.bind (ap.sizeOf b elem) λB s s' _ e=>?_;subst e;refine .ite (λ_=>.bind (R:=λ_ x y=>x=y/\jU x) (.pure ⟨Y,λi v h=>AA⟩) λf z o _⟨e,g⟩=>?_)
   (λ_=>.bind (ap.zeroValue b p elem) λf y y' _⟨w,q⟩=>.bind (R:=λ_ x y=>x=y/\jU x) (.pure ⟨by rw[w],q.cells⟩) λA z o _⟨e,g⟩=>?_)
  all_goals
   subst e;exact .bind (ap.newRow elem ((g.PO _).rel _)) λ_ a a' _ r=>.pure (.slice _ _ r)
 | _=>exact .stuck
def agw(h:ay ρ x x')(i:Nat):ap C ρ ay (Instr.extract x i) (Instr.extract x' i):=by
 unfold Instr.extract;cases h with
 |@tuple a a' hs h=>simp only[];cases c:a[i]? with|none=>exact .stuck|some v=>obtain⟨v',b,d⟩:=aS.some ⟨hs,h⟩ c;rw[b];exact .pure d
 | _=>exact .stuck
def Wg(h:ay ρ x x'):ap C ρ (λ_ a b=>a=b) (Builtin.lenOf x) (Builtin.lenOf x'):=by cases h<;>first|exact .pure Y|exact .stuck
def KZ(size n:Nat)(h:ay ρ x x'):ap C ρ aS (Builtin.firstCells size n x) (Builtin.firstCells size n x'):=by
 cases h with
 |jy l c=>exact .pure (.nil ρ)
 |slice l c r=>exact ap.loadCells r _
 |string s=>refine .pure ⟨Y,λi v v' h1 a=>?_⟩;rw[h1]at a;cases a;simp only[Array.getElem?_map,Option.map_eq_some_iff]at h1;obtain⟨b,_,rfl⟩:=h1;exact .int _ _
 | _=>exact .stuck
theorem jU.zeroCells(h:jU z)(n:Nat):jU (Builtin.zeroCells z n):=h.PO _
end
end
variable{qS:Array Value}
section
attribute [-simp] Sem.runT_eq
section
variable{C:cO}{ρ:Ren}
def PP(P:cg)(w:aO)(a:Addr)(n:Nat):∃b,(Builtin.holdsCells a n).run P w=.ok b w:=by unfold Builtin.holdsCells;rw[mC];simp only[Go.shape,Sem.run];cases w.shape? a.block<;>exact⟨_,Y⟩
def agx(P:cg)(w:aO)(size d n:Nat)(base:Option Addr)(x:Value):∃b,(Builtin.mayShare size d n base x).run P w=.ok b w:=by
 unfold Builtin.mayShare;cases base with
 |none=>
  simp only[];rw[mC];simp only[Pure.pure,Sem.run,Bool.not_true,Bool.false_eq_true,if_false];split
  .obtain⟨y,c⟩:=PP P w _ (n*size);exact⟨_,by rw[mC,c];rfl⟩
  simp_all
 |some a=>
  simp only[];obtain⟨y,c⟩:=PP P w a (d*size);rw[mC,c];simp only[];rw[mC];simp only[Go.frozen,Sem.run];rw[mC];simp only[Pure.pure,Sem.run];split
  .simp_all
  .split
   .obtain⟨y,c⟩:=PP P w _ (n*size);exact⟨_,by rw[mC,c];rfl⟩
   simp_all
def agy(f:C.co)(p:C.tz)(ats:Array TypeId)(t:TypeId){args:Array Value}(h:aS ρ args qS):ap C ρ ay (Builtin.append_ ats t args) (Builtin.append_ ats t qS):=by
 unfold Builtin.append_;cases h0:ats[0]? with|none=>exact .stuck|some u=>
 cases h1:args[0]? with|none=>exact .stuck|some s=>
 cases M:args[1]? with|none=>exact .stuck|some x=>
 obtain⟨s',O,hs⟩:=h.some h1;obtain⟨x',N,g⟩:=h.some M;rw[O,N];refine .bind (ap.underlying f u) λσ d W m⟨e,_⟩=>?_;subst e;cases d with
 |slice elem=>
  have E:=hs.mono m;replace g:=g.mono m;have D:=E;cases E<;>first|exact .stuck|skip
  all_goals
   refine .bind (ap.sizeOf f elem) λX size _ l1 e=>?_;subst e;cases ats[1]?<;>try(refine .bind (ap.underlying f _) λj d _ l2⟨e,_⟩=>?_;subst e;replace l1:=Ren.le_trans l1 l2)
  all_goals
   refine .bind (R:=λ_ a b=>a=b) (.pure Y) λj z _ l2 e=>?_;subst e;replace l1:=Ren.le_trans l1 l2;refine .ite (λ_=>.bind (ap.asInt (g.mono l1)) λH n _ l2 e=>?_) (λ_=>.bind (Wg (g.mono l1)) λH n _ l2 e=>?_)
  all_goals
   subst e;replace l1:=Ren.le_trans l1 l2;try
    refine .ite (λ_=>.cut (ap.runtimePanic f _)) (λ_=>.bind (ap.typeInfo f elem) λPQ i _ iw⟨e,_⟩=>?_);subst e;refine .ite (λ_=>.bind (ap.choose _) λ_ _ _ _ e=>by subst e;exact .cut (ap.runtimePanic f _)) (λ_=>.bind (R:=λ_ a b=>a=b) (.pure Y) λH k _ A e=>?_);subst e;replace l1:=Ren.le_trans (Ren.le_trans l1 iw) A
  all_goals
   refine .ite (λ_=>.bind (.ite (λ_=>KZ _ _ (g.mono l1)) (λ_=>.ite (λ_=>.pure (.nil _)) (λ_=>.bind (ap.zeroValue f p elem) λj z B _⟨e,l⟩=>I2))) λσ a a' m q=>?_) (λ_=>.bind (ap.typeInfo f elem) λσ i I l2⟨e,_⟩=>?_)
   .have V:=D.mono (Ren.le_trans l1 m);cases V;first|exact .pure (.jy _ _)|skip
    all_goals
     rename_i r;exact .bind (ap.storeCells (r.add _) (dy.Hc q) 0) λj _ _ l2 _=>.pure (.slice _ _ (r.mono l2))
   .subst e;refine .ite (λ_=>.cut (ap.runtimePanic f _)) (λ_=>.bind (ap.typeInfo f elem) λPS i I iw⟨e,_⟩=>?_);subst e;refine .ite (λ_=>.cut (.ite (λ_=>ap.runtimePanic f _) (λ_=>.none λw=>?_))) (λ_=>.bind (ap.choose _) λAQ c c' A e=>?_)
    .obtain⟨b,L⟩:=agx C.P w size _ _ _ x;rw[mC,L];cases b<;>exact id
    .subst e;refine .bind (ap.typeInfo f elem) λZ i _ U⟨e,_⟩=>.bind (by subst e;exact ap.askRoom _) λP _ _ y _=>?_;replace l1:=Ren.le_trans (Ren.le_trans (Ren.le_trans (Ren.le_trans (Ren.le_trans l1 l2) iw) A) U) y;refine .bind (KZ _ _ (D.mono l1)) λT o o' y K=>.bind (.ite (λ_=>KZ _ _ (g.mono (Ren.le_trans l1 y))) (λ_=>.ite (λ_=>.pure (.nil _)) (λ_=>.bind (ap.zeroValue f p elem) λj z B _⟨e,l⟩=>I2))) λS a a' v q=>.bind (ap.zeroValue f p elem) λQ z B F⟨e,l⟩=>?_;subst e;exact .bind (ap.newRow elem (((K.mono (Ren.le_trans v F)).append (q.mono F)).append ((l.cells.zeroCells _).rel _))) λ_ r r' _ J=>.pure (.slice _ _ J)
 | _=>exact .stuck
end
end
variable{b b':Addr}
section
attribute [-simp] Sem.runT_eq
def wP(P:cg):Nat->TypeId->Bool
 |0,_=>true
 |d+1,t=>
  match P.underlying t with
  |some .bool|some (.int _)|some .string|some (.slice _)=>true
  |some (.struct fs)=>fs.all λf=>wP P d f.type
  | _=>false
section
variable{C:cO}{ρ:Ren}
abbrev co{al:Type}:Ren->al->al->Prop:=λ_ a b=>a=b
def Wl{al aJ:Type}{R:Ren->al->aJ->Prop}{m:Sem al}{d:Sem aJ}(h:(∀a b b',ρ.rel a b->ρ.rel a b'->b=b')->(∀a a' b,ρ.rel a b->ρ.rel a' b->a=a')->(∀g,g<=C.P.globals.size->ρ.rel g g)->ap C ρ R m d):ap C ρ R m d:=
 λS w w' c hg e=>h c.one c.inj c.m3 S w w' c hg e
def Wm{al aJ:Type}{c:Ren}{f f':al->aJ->Sem (ForInStep aJ)}(l:List al)(h:∀(ρ:Ren),Ren.le c ρ->∀a∈l,∀s,ap C ρ co (f a s) (f' a s)):∀(ρ:Ren),Ren.le c ρ->∀(s:aJ),ap C ρ co (forIn l s f) (forIn l s f'):=by induction l with|nil=>intro ρ _ s;exact .pure Y|cons a l g=>intro ρ d s;simp only[List.forIn_cons];refine .bind (h ρ d a A_ s) λσ x y l2 e=>?_;subst e;cases x with|done b=>exact .pure Y|yield b=>grind[Ren.le_trans]
def Wo{al aJ:Type}{f f':al->aJ->Sem (ForInStep aJ)}(l:Array al)(h:∀(σ:Ren),Ren.le ρ σ->∀a∈l,∀s,ap C σ co (f a s) (f' a s))(s:aJ):ap C ρ co (forIn l s f) (forIn l s f'):=by rw[<-Array.forIn_toList,<-Array.forIn_toList];exact Wm l.toList (λρ b a c s=>h ρ b a AA s) ρ (Ren.le_refl _) s
def agC{aJ:Type}{f f':Nat->aJ->Sem (ForInStep aJ)}(n:Nat)(h:∀(σ:Ren),Ren.le ρ σ->∀i s,ap C σ co (f i s) (f' i s))(s:aJ):ap C ρ co (forIn [0:n] s f) (forIn [0:n] s f'):=by rw[Std.Legacy.Range.forIn_eq_forIn_range',Std.Legacy.Range.forIn_eq_forIn_range'];exact Wm _ (λρ b a _ s=>h ρ b a s) ρ (Ren.le_refl _) s
theorem Wp(a:C.co)(t:TypeId):C.Q.underlyingId t=C.P.underlyingId t:=by grind[Program.underlyingId,Ey]
theorem agD(b:C.co):∀(n:Nat)(t u:TypeId),C.Q.alikeButTags n t u=C.P.alikeButTags n t u:=by intro n;induction n with|zero=>intro t u;rfl|succ n a=>simp_all[Program.alikeButTags,Ey]
theorem K0(a:C.co)(t:TypeId):C.Q.stoodInHeld t=C.P.stoodInHeld t:=by
 have e:C.Q.cutTypes=C.P.cutTypes:=by rw[a]
 unfold Program.stoodInHeld Program.stoodInAs;grind[AN,agD,Wp,Ey,Ez]
abbrev agE(ρ:Ren)(a b:Option (Addr×Bool)):Prop:=od (λx y=>dt ρ x.1 y.1/\x.2=y.2) a b
def agF(h:ρ.rel r r'):ap C ρ agE (numberAt r) (numberAt r'):=by
 unfold numberAt;refine .bind (ap.shape h) λσ s s' c e=>?_;subst e;refine .ite (λ_=>.pure .none) (λ_=>?_);refine .bind (ap.getObj (c.1 _ _ h)) λd o o' _ hg=>?_;obtain⟨b,hn,_⟩:=hg;cases b with
 |shut a=>cases o'<;>first|exact a.elim|exact .pure .none
 |number h l=>exact .pure (.some ⟨h,Y⟩)
 | _=>exact .pure .none
def y5(h:dt ρ a a'):ap C ρ (λσ x y=>dt σ x.1 y.1/\x.2=y.2) (behindNumber a) (behindNumber a'):=by unfold behindNumber;refine .bind (agF h.1) λσ x y b hn=>.pure ?_;cases hn with|none=>exact⟨h.mono b,Y⟩|some k=>exact k
def dt.Wq(one:∀a b b',ρ.rel a b->ρ.rel a b'->b=b')(inj:∀a a' b,ρ.rel a b->ρ.rel a' b->a=a')(h:dt ρ a a')(k:dt ρ b b'):(a==b)=(a'==b')/\(a.block==b.block)=(a'.block==b'.block):=by obtain⟨b1,j,e⟩:=a;obtain⟨q,i,d⟩:=a';obtain⟨p,g,c⟩:=b;obtain⟨bc,f,r⟩:=b';obtain⟨h1,o,h3⟩:=h;obtain⟨n,m,l⟩:=k;grind
def agG(j:C.co):∀(d:Nat)(t:TypeId),wP C.P d t=true->∀(ρ:Ren){x x' y y':Value},ay ρ x x'->ay ρ y y'->ap C ρ co (Op.equalIn d t x y) (Op.equalIn d t x' y'):=by
 intro d;induction d with
 |zero=>intro t _ ρ x x' y y' _ _;exact .unsupported
 |succ d R=>
  intro t ht ρ x x' y y' T S;unfold Op.equalIn;refine .bind (ap.underlying j t) λσ u Q H⟨e,U⟩=>?_;subst e;simp only[wP,U]at ht;have z:=T.mono H;have g:=S.mono H;cases u with
  |bool=>
   cases z with
   |bool a=>cases g with|bool b=>exact .pure Y| _=>exact .stuck
   | _=>exact .stuck
  |int k=>
   cases z with
   |int F E=>
    cases g with
    |int B iv=>exact .ite (λ_=>.pure Y) (λ_=>.stuck)
    |ptr r=>
     cases E with
     |ofNat m=>cases m with|zero=>exact .pure Y|succ m=>exact .unsupported
     |negSucc m=>exact .unsupported
    |lj=>
     cases E with
     |ofNat m=>cases m with|zero=>exact .unsupported|succ m=>exact .unsupported
     |negSucc m=>exact .unsupported
    | _=>exact .stuck
   |ptr r=>
    cases g with
    |int B iv=>
     cases iv with
     |ofNat m=>cases m with|zero=>exact .pure Y|succ m=>exact .unsupported
     |negSucc m=>exact .unsupported
    |ptr L=>
     refine .bind (y5 r) λbY p D l1⟨V,_⟩=>.bind (y5 (L.mono l1)) λPS q q' l2⟨hq,_⟩=>.bind .program λK r r' iw⟨w,n⟩=>?_;subst w;subst n;have A:=V.mono (Ren.le_trans l2 iw);have I:=hq.mono iw;refine Wl λone inj m3=>?_;have N:C.Q.globals.size=C.P.globals.size:=by rw[j]
     obtain⟨w,n⟩:=dt.Wq one inj A I;have Z:decide (p.1.block<C.P.globals.size)=decide (D.1.block<C.Q.globals.size):=by
      rw[N];have:p.1.block<C.P.globals.size↔D.1.block<C.P.globals.size:=by
       constructor
       .intro h;have:=one _ _ _ (m3 _ (Nat.le_of_lt h)) A.1;omega
       .intro h;have:=inj _ _ _ (m3 _ (Nat.le_of_lt h)) A.1;omega
      grind
     rw[<-n,<-Z,<-w];refine .ite (λ_=>.bind (AP j A) λWi x x' EB e=>.bind (AP j (I.mono EB)) λagA y y' _ e'=>.pure AA) (λ_=>.bind (ap.typeInfo j t) λWi i i' _⟨e,_⟩=>?_);subst e;split
     .exact .ite (λ_=>.pure Y) (λ_=>.unsupported)
     .exact .unsupported
    | _=>exact .unsupported
   |lj=>cases g<;>exact .unsupported
   | _=>cases g<;>first|exact .stuck|exact .unsupported
  |string=>
   cases z with
   |string a=>cases g with|string b=>exact .pure Y| _=>exact .stuck
   | _=>exact .stuck
  |slice e=>
   cases z with
   |jy l c=>cases g with|jy l c=>exact .pure Y|slice l c r=>exact .pure Y| _=>exact .stuck
   |slice l c r=>cases g with|jy l c=>exact .pure Y|slice l c r=>exact .stuck| _=>exact .stuck
   | _=>exact .stuck
  |struct fields=>
   cases z with
   |agg M h1=>
    cases g with
    |agg P X=>
     simp only[Array.all_eq_true_iff_forall_mem]at ht;refine .bind .program λbY p q l1⟨w,n⟩=>?_;subst w;subst n;rw[K0 j];refine .ite (λ_=>.cut .unsupported) (λ_=>?_)
     .refine .bind (Wo fields (λcN lt f W s=>.ite (λ_=>?_) (λ_=>.pure Y)) _) λK x y _ e=>by subst e;obtain⟨o,_⟩:=x;cases o<;>exact(.pure Y:ap C K co (Pure.pure _) (Pure.pure _))
      have J:=Ren.le_trans l1 lt;exact .bind (ap.part j _ (aS.mono J ⟨M,h1⟩) _) λWr u Q F Hk=>.bind (ap.part j _ (aS.mono (Ren.le_trans J F) ⟨P,X⟩) _) λHl v v' B O=>
       .bind (R _ (ht f W) Hl (Hk.mono B) O) λPQ b b' _ e=>FF
    | _=>exact .stuck
   | _=>exact .stuck
  | _=>cases ht
end
end
section
attribute [-simp] Sem.runT_eq
section
variable{C:cO}{ρ:Ren}
theorem aS.two{a b a' b':Value}(h:ay ρ a a')(k:ay ρ b b'):aS ρ #[a,b] #[a',b']:=by simpa using aS.append (aS.one h) (aS.one k)
def agH(b:C.co)(ats:Array TypeId)(t:TypeId){args:Array Value}(h:aS ρ args qS):ap C ρ ay (Builtin.len_ ats t args) (Builtin.len_ ats t qS):=by
 unfold Builtin.len_;cases h0:ats[0]? with|none=>exact .stuck|some ty=>
 cases h1:args[0]? with|none=>exact .stuck|some x=>
 obtain⟨x',m,f⟩:=h.some h1;rw[m];refine .bind (ap.underlying b ty) λσ u d j⟨e,_⟩=>?_;subst e;have a:=f.mono j;cases u with
 |string=>cases a with|string s=>exact .pure (.int _ _)| _=>exact .stuck
 |array n e=>exact .pure (.int _ _)
 |pointer arr=>refine .bind (ap.underlying b arr) λp u d _⟨e,_⟩=>?_;subst e;cases u with|array n e=>exact .pure (.int _ _)| _=>exact .stuck
 |slice e=>cases a with|jy l c=>exact .pure (.int _ _)|slice l c r=>exact .pure (.int _ _)| _=>exact .stuck
 |map k e=>
  cases a with
  |pT=>exact .pure (.int _ _)
  |map g=>
   refine .bind (ap.getObj g) λp o o' l1 hg=>?_;obtain⟨i,_,_⟩:=hg;cases i with
   |@map es es' clock h=>
    have:es.size=es'.size:=by simpa using h.length
    refine .pure ?_;rw[this];exact .int _ _
   | _=>exact .stuck
  | _=>exact .stuck
 |chan k e=>cases a with|o7=>exact .pure (.int _ _)| _=>exact .stuck
 | _=>exact .stuck
def agI(a:C.co)(ats:Array TypeId)(t:TypeId){args:Array Value}(h:aS ρ args qS):ap C ρ ay (Builtin.cap_ ats t args) (Builtin.cap_ ats t qS):=by
 unfold Builtin.cap_;cases h0:ats[0]? with|none=>exact .stuck|some ty=>
 cases h1:args[0]? with|none=>exact .stuck|some x=>
 obtain⟨x',i,f⟩:=h.some h1;rw[i];refine .bind (ap.underlying a ty) λσ u d g⟨e,_⟩=>?_;subst e;have b:=f.mono g;cases u with
 |array n e=>exact .pure (.int _ _)
 |pointer arr=>refine .bind (ap.underlying a arr) λj u d _⟨e,_⟩=>?_;subst e;cases u with|array n e=>exact .pure (.int _ _)| _=>exact .stuck
 |slice e=>cases b with|jy l c=>exact .pure (.int _ _)|slice l c r=>exact .pure (.int _ _)| _=>exact .stuck
 |chan k e=>cases b with|o7=>exact .pure (.int _ _)| _=>exact .stuck
 | _=>exact .stuck
def agJ(d:C.co)(ats:Array TypeId)(t:TypeId){args:Array Value}(h:aS ρ args qS):ap C ρ ay (Builtin.copy_ ats t args) (Builtin.copy_ ats t qS):=by
 unfold Builtin.copy_;cases h0:ats[0]? with|none=>exact .stuck|some ty=>
 cases h1:args[0]? with|none=>exact .stuck|some x=>
 cases k:args[1]? with|none=>exact .stuck|some y=>
 obtain⟨x',m,i⟩:=h.some h1;obtain⟨y',l,b⟩:=h.some k;rw[m,l];refine .bind (ap.underlying d ty) λσ u p a⟨e,_⟩=>?_;subst e;cases u with
 |slice elem=>
  have f:=i.mono a;have g:=f;cases f<;>first|exact .stuck|skip
  all_goals
   refine .bind (Wg (b.mono a)) λv n o l1 e=>?_;subst e;refine .bind (ap.sizeOf d elem) λq s s' l2 e=>?_;subst e;refine .bind (KZ s _ (b.mono (Ren.le_trans (Ren.le_trans a l1) l2))) λw c c' iw j=>?_;cases g
  .exact .pure (.int _ _)
  .rename_i r;exact .bind (ap.storeCells (r.mono (Ren.le_trans (Ren.le_trans l1 l2) iw)) (dy.Hc j) 0) λ_ _ _ _ _=>.pure (.int _ _)
 | _=>exact .stuck
def Ws(op:BinOp)(k:IntKind)(x y:Int):ap C ρ ay (Op.intArith op k x y) (Op.intArith op k x y):=by unfold Op.intArith;cases op<;>first|exact .stuck|exact .pure (.int _ _)
def agK(a:C.co)(op:BinOp)(k:IntKind)(x y:Int):ap C ρ ay (Op.intDiv op k x y) (Op.intDiv op k x y):=by unfold Op.intDiv;repeat' first|exact .stuck|exact .pure (.int _ _)|exact ap.runtimePanic a _ |split
def agL(op:BinOp)(x y:Int):ap C ρ ay (Op.intCmp op x y) (Op.intCmp op x y):=by unfold Op.intCmp;cases op<;>first|exact .stuck|exact .pure (.bool _)
theorem PV(op:BinOp)(x y:ByteArray):ap C ρ ay (Op.stringOp op x y) (Op.stringOp op x y):=by unfold Op.stringOp;cases op with|add=>exact .ite (λ_=>.unsupported) (λ_=>.pure (.string _))| _=>first|exact .stuck|exact .pure (.bool _)
def Wt:UnOp->Bool
 | .xor=>false
 | _=>true
def agM(op:UnOp)(a:Wt op=true)(h:ay ρ x x'):ap C ρ ay (Op.unary op x) (Op.unary op x'):=by
 unfold Op.unary;cases op with
 |neg=>cases h with|int k n=>exact Ws _ _ _ _|ptr r=>exact .unsupported| _=>exact .stuck
 |xor=>cases a
 |not=>cases h with|bool b=>exact .pure (.bool _)| _=>exact .stuck
 |plus=>cases h<;>exact .stuck
end
end
variable{y y':Value}
section
attribute [-simp] Sem.runT_eq
section
variable{C:cO}{ρ:Ren}
theorem agN(c:C.co):∀(d:Nat)(t:TypeId)(b:Nat),cellOfByte C.Q d t b=cellOfByte C.P d t b:=by intro d;induction d with|zero=>intro t b;rfl|succ d a=>grind[cellOfByte,AN,AO,KV]
def agO(a:C.co)(d:Nat)(e:TypeId)(c o:Nat)(b:Int):cellAtBytes C.Q d e c o b=cellAtBytes C.P d e c o b:=by grind[cellAtBytes,AO,KV,Wd,agN]
def Wu(a:C.co)(ats:Array TypeId)(t:TypeId)(i:ay ρ x x')(h:ay ρ y y'):ap C ρ ay (Builtin.unsafeAdd_ ats t #[x,y]) (Builtin.unsafeAdd_ ats t #[x',y']):=by
 obtain⟨b,b',g,rfl,rfl⟩|hs:(∃b b',od (dt ρ) b b'/\x=.pointer b/\x'=.pointer b')\/ap C ρ ay (Builtin.unsafeAdd_ ats t #[x,y]) (Builtin.unsafeAdd_ ats t #[x',y']):=by unfold Builtin.unsafeAdd_;cases i with|lj=>exact .inl ⟨none,none,.none,Y,Y⟩|ptr r=>exact .inl ⟨_,_,.some r,Y,Y⟩| _=>exact .inr .stuck
 .unfold Builtin.unsafeAdd_;refine .bind (ap.asInt h) λσ n k l1 e=>?_;subst e;refine .ite (λ_=>?_) (λ_=>.ite (λ_=>.cut .unsupported) (λ_=>?_))
  .cases g with|none=>exact .unsupported|some r=>refine .bind (We (l1.1 _ _ r.1)) λj v v' l2⟨f,d⟩=>?_;subst f;subst d;exact .pure (.ptr (r.mono (Ren.le_trans l1 l2)))
  .cases g with
   |none=>exact .unsupported
   |some r=>
    refine .bind (ap.shape (l1.1 _ _ r.1)) λj s s' l2 e=>?_;subst e;cases s with
    |none=>exact .unsupported
    |some ec=>
     obtain⟨e,c⟩:=ec;refine .bind .program λl p q iw⟨f,d⟩=>?_;subst f;subst d;simp only[agO a,Ez a,AO a];rw[<-r.2.1];split
     .exact .pure (.ptr ⟨iw.1 _ _ (l2.1 _ _ (l1.1 _ _ r.1)),Y,r.2.2⟩)
     .exact .unsupported
 grind
def PW(b:C.co)(t:TypeId)(d:ay ρ x x')(c:ay ρ y y'):ap C ρ ay (movedNumber t x y) (movedNumber t x' y'):=by
 unfold movedNumber;refine .bind (ap.underlying b t) λσ u o l1⟨e,_⟩=>?_;subst e;refine .ite (λ_=>.cut .unsupported) (λ_=>?_);have k:=d.mono l1;cases k with
 |ptr r=>refine .bind (y5 r) λw p q l2 i=>?_;obtain⟨a,AL⟩:=p;obtain⟨a',l⟩:=q;obtain⟨j,rfl⟩:=i;refine .bind (Wu b #[] t (.ptr j) ((c.mono l1).mono l2)) λs v v' iw f=>?_;have h:=f;cases f with|ptr g=>exact .bind (ap.new (.number g AL)) λz n m _ hn=>.pure (.ptr ⟨hn.1,Y,Y⟩)| _=>exact .pure h
 | _=>exact Wu b #[] t (ay.mono l1 d) (c.mono l1)
def Wv(d:C.co)(l:dt ρ a a')(k:dt ρ b b'):ap C ρ co (Op.twoPlaces a b) (Op.twoPlaces a' b'):=by
 unfold Op.twoPlaces;refine .bind .program λσ p q l1⟨n,g⟩=>?_;subst n;subst g;refine Wl λone inj m3=>?_;have j:C.Q.globals.size=C.P.globals.size:=by rw[d]
 have c:=l.mono l1;have i:=k.mono l1;obtain⟨_,g⟩:=dt.Wq one inj c i;have m:decide (a.block ≥ C.P.globals.size)=decide (a'.block ≥ C.Q.globals.size):=by
  rw[j];have:a.block<C.P.globals.size↔a'.block<C.P.globals.size:=by
   constructor
   .intro h;have:=one _ _ _ (m3 _ (Nat.le_of_lt h)) c.1;omega
   .intro h;have:=inj _ _ _ (m3 _ (Nat.le_of_lt h)) c.1;omega
  grind
 have f:(a.block != b.block)=(a'.block != b'.block):=AA;rw[f,m];exact .ite (λ_=>.cut .unsupported) (λ_=>.bind (AP d c) λo x x' l2 e=>.bind (AP d (i.mono l2)) λs y y' _ r=>.pure AA)
def agQ(f:C.co)(k:IntKind)(d:dt ρ a a')(c:dt ρ b b'):ap C ρ ay (Op.addrSub k a b) (Op.addrSub k a' b'):=by unfold Op.addrSub;exact .bind (Wv f d c) λσ x y _ e=>by subst e;exact .pure (.int _ _)
def agR(f:C.co)(op:BinOp)(d:dt ρ a a')(c:dt ρ b b'):ap C ρ ay (Op.addrCmp op a b) (Op.addrCmp op a' b'):=by unfold Op.addrCmp;exact .bind (Wv f d c) λσ x y _ e=>by subst e;cases op<;>first|exact .unsupported|exact .pure (.bool _)
def agS(d:C.co)(k:IntKind)(b:dt ρ a a')(n:Int):ap C ρ ay (Op.addrMod k a n) (Op.addrMod k a' n):=by
 unfold Op.addrMod;refine .bind (ap.shape b.1) λσ s s' l1 e=>?_;subst e;cases s with
 |none=>exact .unsupported
 |some ec=>
  obtain⟨e,c⟩:=ec;refine .bind (ap.typeInfo d e) λg i f l2⟨e,_⟩=>?_;subst e;exact .ite (λ_=>.cut .unsupported)
   (λ_=>.bind (AP d (b.mono (Ren.le_trans l1 l2))) λ_ x y _ e=>by subst e;exact .pure (.int _ _))
def Ww(a:C.co):∀(d:Nat)(t:TypeId)(ρ:Ren){x x' y y':Value},ay ρ x x'->ay ρ y y'->ap C ρ co (Op.eqGuardIn d t x y) (Op.eqGuardIn d t x' y'):=by
 intro d;induction d with
 |zero=>intro t ρ x x' y y' _ _;exact .unsupported
 |succ d B=>
  intro t ρ x x' y y' H F;unfold Op.eqGuardIn;refine .bind (ap.underlying a t) λσ u A D⟨e,M⟩=>?_;subst e;have q:=H.mono D;have h:=F.mono D;cases u with
  |interface ms=>
   cases q with
   |nilIface=>cases h with|nilIface=>exact .pure Y| _=>exact .pure Y
   | _=>exact .pure Y
  |struct fields=>
   cases q with
   |agg c h1=>
    cases h with
    |agg j p=>
     refine .bind (Wo fields (λI lt f N s=>.ite (λ_=>?_) (λ_=>.pure Y)) _) λz x y _ e=>by subst e;obtain⟨o,_⟩:=x;cases o<;>exact(.pure Y:ap C z co (Pure.pure _) (Pure.pure _))
     exact .bind (ap.part a _ (aS.mono lt ⟨c,h1⟩) _) λJ u A l w=>.bind (ap.part a _ (aS.mono (Ren.le_trans lt l) ⟨j,p⟩) _) λr v v' k g=>
      .bind (B _ r (w.mono k) g) λK b b' _ e=>FF
    | _=>exact .pure Y
   | _=>exact .pure Y
  |array n e=>
   cases q with
   |agg c h1=>
    cases h with
    |agg j p=>
     refine .bind (ap.sizeOf a e) λO m L l1 em=>?_;subst em;refine .bind (agC n (λI lt i s=>?_) _) λz x y _ e=>by subst e;obtain⟨o,_⟩:=x;cases o<;>exact(.pure Y:ap C z co (Pure.pure _) (Pure.pure _))
     have E:=Ren.le_trans l1 lt;exact .bind (ap.part a _ (aS.mono E ⟨c,h1⟩) _) λJ u A l w=>.bind (ap.part a _ (aS.mono (Ren.le_trans E l) ⟨j,p⟩) _) λr v v' k g=>
      .bind (B _ r (w.mono k) g) λK b b' _ e=>FF
    | _=>exact .pure Y
   | _=>exact .pure Y
  | _=>exact .pure Y
def Wx(b:C.co):∀(d:Nat)(t:TypeId),C.Q.eqGuardType d t=C.P.eqGuardType d t:=by intro d;induction d with|zero=>intro t;rfl|succ d a=>grind[Program.eqGuardType,AN]
def agT(a:C.co)(op:BinOp)(t:TypeId)(p q:Operand)(h:ay ρ x x')(c:ay ρ y y'):ap C ρ (λ_(_ _:Unit)=>True) (eqGuard op t p q x y) (eqGuard op t p q x' y'):=by
 unfold eqGuard;refine .ite (λ_=>.pure trivial) (λ_=>?_);cases h with
 |nilIface=>cases c with|nilIface=>refine .ite (λ_=>.pure trivial) (λ_=>.bind (Ww a _ t ρ .nilIface .nilIface) λσ b b' _ e=>?_);subst e;exact .ite (λ_=>.unsupported) (λ_=>.pure trivial)| _=>exact .pure trivial
 |agg f h1=>cases c with|agg g i=>refine .bind .program λs p q l1⟨m,l⟩=>.bind .program λn r o l2⟨k,j⟩=>?_;subst m;subst l;subst k;subst j;rw[Wx a,Ez a];have d:=Ren.le_trans l1 l2;refine .ite (λ_=>.pure trivial) (λ_=>.bind (Ww a _ t n ((ay.agg f h1).mono d) ((ay.agg g i).mono d)) λσ b b' _ e=>?_);subst e;exact .ite (λ_=>.unsupported) (λ_=>.pure trivial)| _=>exact .pure trivial
 | _=>exact .pure trivial
end
end
section
attribute [-simp] Sem.runT_eq
def AR(P:cg)(op:BinOp)(t:TypeId):Bool:=
 match op with
 | .eql| .neq=>wP P Op.maxDepth t
 | .shl| .shr| .and| .or| .xor| .andNot=>false
 | _=>match P.underlying t with|some .unsafePointer=>false| _=>true
section
variable{C:cO}{ρ:Ren}
def PX(d:C.co)(op:BinOp)(t:TypeId)(c:AR C.P op t=true)(k k':IntKind)(a b:Int):ap C ρ ay (binOp op t (.int k a) (.int k' b)) (binOp op t (.int k a) (.int k' b)):=by cases op<;>first|cases c|exact .ite (λ_=>.stuck) (λ_=>Ws _ _ _ _)|exact .ite (λ_=>.stuck) (λ_=>agK d _ _ _ _)|exact .ite (λ_=>.stuck) (λ_=>agL _ _ _)
theorem PY(op:BinOp)(t:TypeId)(a b:ByteArray):binOp op t (.string a) (.string b)=Op.stringOp op a b:=by cases op<;>rfl
def Wz(c:C.co){t:TypeId}(ht:wP C.P Op.maxDepth t=true)(b:ay ρ x x')(a:ay ρ y y'):ap C ρ co (Op.equal t x y) (Op.equal t x' y'):=agG c Op.maxDepth t ht ρ b a
def WA(f:C.co){t:TypeId}(ht:wP C.P Op.maxDepth t=true)(d:ay ρ x x')(c:ay ρ y y'):
 ap C ρ ay (do pure (.bool (<-Op.equal t x y))) (do pure (.bool (<-Op.equal t x' y')))/\ap C ρ ay (do pure (.bool (!(<-Op.equal t x y)))) (do pure (.bool (!(<-Op.equal t x' y')))):=
 ⟨.bind (Wz f ht d c) λ_ a b _ e=>by subst e;exact .pure (.bool _),.bind (Wz f ht d c) λ_ a b _ e=>by subst e;exact .pure (.bool _)⟩
def agU(a:C.co)(op:BinOp)(t:TypeId)(b:AR C.P op t=true)(d:ay ρ x x')(c:ay ρ y y'):ap C ρ ay (binOp op t x y) (binOp op t x' y'):=by
 have g:=d;have i:=c;cases op
 case eql=>exact(have hq:=(WA (ρ:=ρ) a b d c).1;F1)
 case neq=>exact(have hq:=(WA (ρ:=ρ) a b d c).2;F1)
 all_goals first|exact absurd b Bool.false_ne_true|skip
 all_goals cases d<;>cases c<;>first
  |exact .stuck
  |exact .unsupported
  |exact PX a _ _ b _ _ _ _
  |(rw[PY];exact PV _ _ _)
  |exact PW a _ i g
  |exact PW a t g (.int _ _)
  |exact .bind (y5 Co) λσ p h l1⟨f,_⟩=>agS a _ f _
  |exact .bind (y5 Co) λσ p h l1⟨f,_⟩=>.bind (y5 (dt.mono l1 AA)) λl q j l2⟨hq,_⟩=>agQ a _ (f.mono l2) hq
  |exact .bind (y5 Co) λσ p h l1⟨f,_⟩=>.bind (y5 (dt.mono l1 AA)) λl q j l2⟨hq,_⟩=>agR a _ (f.mono l2) hq
  |(refine .bind (ap.underlying a t) λσ u m l1⟨e,k⟩=>?_;subst e;simp only[AR,k]at b;cases u<;>first|exact absurd b Bool.false_ne_true|exact PW a t (g.mono l1) (i.mono l1))
end
end
variable{l l':Nat}{assign body:Code}
section
attribute [-simp] Sem.runT_eq
section
variable{C:cO}{ρ:Ren}
def Hm(h:ρ.rel l l'):ap C ρ (λσ r r'=>Hd C σ r r'/\σ.mine l') (Instr.getLoop l) (Instr.getLoop l'):=by unfold Instr.getLoop;refine .bind (ap.getObj h) λσ o o' l1 hg=>?_;obtain⟨a,_,b⟩:=hg;cases a with|loop c=>exact .pure ⟨c,b.resolve_right λx=>x.elim (λy=>AA) (λy=>by cases y)⟩| _=>exact .stuck
def WB(fn:FuncId)(h:∃f c,C.P.funcs[fn]?=some f/\f.body=some c){tmps d:Array Value}(ht:aS ρ tmps d)(params:Array Tmp)(l:C.lG assign)(k:C.lG body){r r':Option Nat}(j:od ρ.rel r r'):
 ap C ρ (λσ x y=>σ.rel x.1 y.1/\qQ σ x.2 y.2) (Instr.enterLoop fn tmps params assign body r) (Instr.enterLoop fn d params assign body r'):=by
 unfold Instr.enterLoop;cases j<;>first
  |refine .bind (ap.new (.deferred .nil)) λσ n g l1 hn=>.bind (R:=λσ x y=>σ.rel x.1 y.1/\qQ σ x.2 y.2) (.pure ⟨hn.1,.cons ⟨.collected hn.1,.nil _⟩ .nil⟩) λb x y l2 a=>?_
  |refine .bind (Hm AA) λσ x y l1⟨i,_⟩=>.bind (R:=λσ x y=>σ.rel x.1 y.1/\qQ σ x.2 y.2) (.pure ⟨i.defers,.nil⟩) λb x y l2 a=>?_
 all_goals exact .bind (ap.new (.loop ⟨Y,Y,(λc e=>Dv),Y,h,ht.mono (Ren.le_trans l1 l2),Y,Y,l,Y,k,a.1⟩)) λb n g l2 hn=>.pure ⟨hn.1,a.2.mono l2⟩
def WC(h:ρ.rel l l')(c:C.co):ap C ρ (λ_(_ _:Unit)=>True) (Instr.beginRound l) (Instr.beginRound l'):=by unfold Instr.beginRound;refine .bind (Hm h) λσ r r' l1⟨a,b⟩=>?_;refine .bind (ap.setObj (l1.1 _ _ h) b (.loop ⟨Y,a.pending,a.KR,a.fn,a.known,a.tmps,a.params,a.assign,a.He,a.body,a.Hf,a.defers⟩) A_) λd _ _ _ _=>?_;rw[<-a.state];cases r.state with|ready=>exact .pure trivial| _=>exact ap.runtimePanic c _
def agV(h:ρ.rel l l')(jump:Option Code)(d:∀c,jump=some c->C.lG c):ap C ρ ay (Instr.endRound l jump) (Instr.endRound l' jump):=by unfold Instr.endRound;refine .bind (Hm h) λσ r r' l1⟨a,b⟩=>?_;exact .bind (ap.setObj (l1.1 _ _ h) b (.loop ⟨Y,Y,d,a.fn,a.known,a.tmps,a.params,a.assign,a.He,a.body,a.Hf,a.defers⟩) A_) λe _ _ _ _=>.pure (.bool _)
def agW(h:ρ.rel l l')(f:C.co):ap C ρ (λ_ a b=>a=b/\∀c,a=some c->C.lG c) (Instr.endLoop l) (Instr.endLoop l'):=by unfold Instr.endLoop;refine .bind (Hm h) λσ r r' l1⟨d,e⟩=>?_;rw[<-d.state];exact .ite (λ_=>.cut (ap.runtimePanic f _)) (λ_=>.bind (ap.setObj (l1.1 _ _ h) e (.loop ⟨Y,d.pending,d.KR,d.fn,d.known,d.tmps,d.params,d.assign,d.He,d.body,d.Hf,d.defers⟩) A_) λ_ _ _ _ _=>.pure ⟨d.pending,d.KR⟩)
def agX{b b':Nat}(h:ρ.rel b b'):ap C ρ qQ (Instr.takeDeferred b) (Instr.takeDeferred b'):=by unfold Instr.takeDeferred;refine .bind (ap.getObj h) λf o o' l2 hg=>?_;obtain⟨c,_,d⟩:=hg;cases c with|deferred a=>have mine:=d.resolve_right λx=>x.elim (λy=>AA) (λy=>by cases y);exact .bind (ap.setObj (l2.1 _ _ h) mine .taken A_) λe _ _ iw _=>.pure (a.mono iw)| _=>exact .stuck
end
end
section
attribute [-simp] Sem.runT_eq
inductive pa(C:cO)(ρ:Ren):Next->Next->Prop
 |value {v v':Value} (h:ay ρ v v'):pa C ρ (.value v) (.value v')
 |skip:pa C ρ .skip .skip
 |enter {f:FuncId} {fn:Func} {c:Code} {a a':Array Value} (h:aS ρ a a') (hp:C.P.funcs[f]?=some fn) (hb:fn.body=some c):pa C ρ (.enter f a) (.enter f a')
 |round {l l':Nat} {f:FuncId} {t cA:Array Value} {assign body:Code} (hf:∃fn c,C.P.funcs[f]?=some fn/\fn.body=some c) (hl:ρ.rel l l') (ht:aS ρ t cA) (ha:C.lG assign) (hb:C.lG body):pa C ρ (.round l f t assign body) (.round l' f cA assign body)
structure cO.AS(C:cO):Prop where
 body:∀(f:FuncId)(fn:Func)(c:Code),C.P.funcs[f]?=some fn->fn.body=some c->C.Q.funcs[f]?=some fn/\C.lG c/\fn.name≠ "runtime.NumGoroutine"
 bare:∀(f:FuncId)(fn:Func),C.P.funcs[f]?=some fn->fn.body=none->∀(ρ:Ren)(a a':Array Value),aS ρ a a'->ap C ρ (pa C) (callFunc f a) (callFunc f a')
section
variable{C:cO}{ρ:Ren}
def agY(c:C.co):ap C ρ co Instr.panicnil Instr.panicnil:=by
 unfold Instr.panicnil;refine .bind ap.af3 λσ a b _ e=>?_;subst e;cases a with
 |strings env=>
  refine .bind .program λg p q _⟨f,d⟩=>?_;subst f;subst d;have:C.Q.godebug=C.P.godebug:=by rw[c]
  rw[this];exact .pure Y
 | _=>exact .stuck
def agZ(c:C.co)(h:ay ρ x x'):ap C ρ ay (Instr.panic x) (Instr.panic x'):=by unfold Instr.panic;cases h with|iface t d=>exact .goPanic (.iface t d)|nilIface=>refine .bind (agY c) λσ a b _ e=>?_;subst e;exact .ite (λ_=>.goPanic .nilIface) (λ_=>ap.runtimePanic c _)| _=>exact .stuck
def ag0(hF:C.AS)(f:FuncId){a a':Array Value}(h:aS ρ a a'):ap C ρ (pa C) (callFunc f a) (callFunc f a'):=by cases b:C.P.funcs[f]? with|none=>refine .none λw=>?_;unfold callFunc;rw[mC];simp only[Go.program,Sem.run,b];exact id|some fn=>cases d:fn.body with|none=>exact hF.bare f fn b d ρ a a' h|some c=>obtain⟨hq,hok,hn⟩:=hF.body f fn c b d;unfold callFunc;refine .bind .program λσ p q l1⟨i,g⟩=>?_;subst i;subst g;rw[b,hq];simp only[];have e:(fn.name== "runtime.NumGoroutine")=false:=AA;simp only[e,d,Option.isNone_some,Bool.false_eq_true,if_false];exact .pure (.enter (h.mono l1) b d)
end
end
section
attribute [-simp] Sem.runT_eq
def hR:Nat->Value->Bool
 | _,.bool _ | _,.int .. | _,.string _ | _,.pointer none| _,.slice none _ _ | _,.map none| _,.chan none| _,.nilFunc| _,.nilIface=>true
 | _,.func (.func _) a b=>a.isEmpty&&b.isEmpty
 |n+1,.iface _ v=>hR n v
 |n+1,.agg a=>a.all (hR n)
 |n+1,.tuple a=>a.all (hR n)
 | _,_=>false
theorem WE:∀(n:Nat)(v:Value),hR n v=true->iu v:=by
 have fn:∀(n:Nat)(f:Fn)(a b:Array Value),hR n (.func f a b)=true->iu (.func f a b):=by
  intro n f a b h;cases f with
  |func f=>
   cases n<;>
   .simp only[hR,Bool.and_eq_true,Array.isEmpty_iff]at h;obtain⟨rfl,rfl⟩:=h;exact .func f
  | _=>grind[hR]
 intro n;induction n with
 |zero=>
  intro v h;cases v with
  |bool b=>exact .bool b
  |int k n=>exact .int k n
  |string s=>exact .string s
  |pointer a=>cases a with|none=>exact .lj|some a=>simp[hR]at h
  |slice a l c=>cases a with|none=>exact .jy l c|some a=>simp[hR]at h
  |map r=>cases r with|none=>exact .pT|some a=>simp[hR]at h
  |chan r=>cases r with|none=>exact .o7|some a=>simp[hR]at h
  |nilFunc=>exact .nilFunc
  |nilIface=>exact .nilIface
  |func f a b=>grind
  | _=>simp[hR]at h
 |succ n d=>
  intro v h;cases v with
  |bool b=>exact .bool b
  |int k n=>exact .int k n
  |string s=>exact .string s
  |pointer a=>grind[hR]
  |slice a l c=>cases a with|none=>exact .jy l c|some a=>simp[hR]at h
  |map r=>grind[hR]
  |chan r=>grind[hR]
  |nilFunc=>exact .nilFunc
  |nilIface=>exact .nilIface
  |func f a b=>grind
  |iface t v=>exact .iface t (d v (by grind[hR]))
  |agg a=>simp only[hR,Array.all_eq_true_iff_forall_mem]at h;exact .agg λi v e=>d v (h v (Array.mem_of_getElem? e))
  |tuple a=>simp only[hR,Array.all_eq_true_iff_forall_mem]at h;exact .tuple λi v e=>d v (h v (Array.mem_of_getElem? e))
  | _=>simp[hR]at h
def ie(P:cg):Operand->Bool
 | .tmp _ | .func _=>true
 | .const v=>hR 4 v
 | .global g=>decide (g<P.globals.size)
def EE(P:cg)(c:Call):Bool:=
 (match c.callee with
  | .builtin b=>PJ b
  | .value f=>ie P f
  | _=>false)&&c.args.all (ie P)
def WF:Fn->Bool
 | .func _=>true
 | _=>false
def Ho(P:cg)(c:Call):Bool:=
 (match c.callee with
  | .builtin .unsafeString=>true
  | _=>false)&&c.args.all (ie P)
def pb(P:cg)(upd:Bool):Op->Bool
 | .move x| .assign x| .box _ x| .load _ x| .makeInterface _ x| .fieldAddr _ x _ | .extract x _ | .panic x=>ie P x
 | .nilCheck x=>ie P x
 | .unOp op _ x=>Wt op&&ie P x
 | .alloc _=>true
 | .pick c a b=>ie P c&&ie P a&&ie P b
 | .build _ ps| .buildSlice _ _ ps=>ps.all λp=>ie P p.2
 | .store _ a v| .makeSlice _ a v=>ie P a&&ie P v
 | .indexAddr t a v=>y4 P t&&ie P a&&ie P v
 | .binOp op t x y _=>AR P op t&&ie P x&&ie P y
 | .makeFunc fn a b=>WF fn&&a.all (ie P)&&b.all (ie P)
 | .slice t x l h m=>y4 P t&&ie P x&&l.all (ie P)&&h.all (ie P)&&m.all (ie P)
 | .call c=>EE P c||(upd&&Ho P c)
 | _=>false
section
variable{C:cO}{ρ:Ren}
theorem pX{m a:Sem Value}(h:ap C ρ ay m a):ap C ρ (pa C) (do pure (.value (<-m))) (do pure (.value (<-a))):=.bind h λ_ _ _ _ b=>.pure (.value b)
def ag2{m a:Sem Unit}(h:ap C ρ (λ_(_ _:Unit)=>True) m a):ap C ρ (pa C) (do m;pure .skip) (do a;pure .skip):=.bind h λ_ _ _ _ _=>.pure .skip
theorem ag3(d:C.co)(e:C.tz)(b:Builtin)(f:PJ b=true)(ats:Array TypeId)(t:TypeId)(cs:Array Bool){a a':Array Value}(h:aS ρ a a'):ap C ρ (pa C) (builtin b ats t cs a) (builtin b ats t cs a'):=by unfold builtin;cases b with|append=>exact .bind (agy d e ats t h) λ_ _ _ _ c=>.pure (.value c)|cap=>exact .bind (agI d ats t h) λ_ _ _ _ c=>.pure (.value c)|copy=>exact .bind (agJ d ats t h) λ_ _ _ _ c=>.pure (.value c)|len=>exact .bind (agH d ats t h) λ_ _ _ _ c=>.pure (.value c)| _=>cases f
def ag4:∀(l:List (Tmp×Value))(l':List (Tmp×Value)){t a:Array Value},dy (λx y=>x.1=y.1/\ay ρ x.2 y.2) l l'->aS ρ t a->
 aS ρ (l.foldl (λtmps(p:Tmp×Value)=>tmps.setIfInBounds p.1 p.2) t) (l'.foldl (λtmps(p:Tmp×Value)=>tmps.setIfInBounds p.1 p.2) a):=by
 intro l;induction l with|nil=>intro l' t a h ht;cases h;exact ht|cons x l c=>intro l' t a h ht;cases h with|cons b d=>simp only[List.foldl_cons];exact c _ d (by rw[b.1];exact ht.set b.2 _)
def ag5:∀(ps:List Tmp)(l l':List Value),dy (ay ρ) l l'->dy (λx y=>x.1=y.1/\ay ρ x.2 y.2) (ps.zip l) (ps.zip l'):=by intro ps;induction ps with|nil=>intro l l' _;exact .nil|cons p ps a=>intro l l' h;cases h with|nil=>exact .nil|cons b ht=>exact .cons ⟨Y,b⟩ (a _ _ ht)
def ag6(h:ρ.rel l l'){a a':Array Value}(c:aS ρ a a'):ap C ρ (pa C) (Instr.yield l a) (Instr.yield l' a'):=by unfold Instr.yield;refine .bind (Hm h) λσ r r' l1⟨b,_⟩=>?_;rw[<-c.size,<-b.params,<-b.fn,<-b.assign,<-b.body];refine .ite (λ_=>.cut .stuck) (λ_=>.pure (.round b.known (l1.1 _ _ h) ?_ b.He b.Hf));rw[<-Array.foldl_toList,<-Array.foldl_toList,Array.toList_zip,Array.toList_zip];exact ag4 _ _ (ag5 _ _ _ (dy.Hc (c.mono l1))) b.tmps
def Hp(j:C.co)(k:C.tz)(hF:C.AS){t d:Target}(ht:tw ρ t d){a a':Array Value}(h:aS ρ a a'):ap C ρ (pa C) (invoke t a) (invoke d a'):=by unfold invoke;cases ht with|nil=>exact ap.runtimePanic j _|builtin b ats ty cs m=>grind[ag3]|collected l=>exact .stuck|@fn f f' c c' g i=>cases g with|func f=>exact ag0 hF f (h.append i)|yield e=>exact ag6 e h
end
end
section
attribute [-simp] Sem.runT_eq
section
variable{C:cO}{ρ:Ren}
theorem ap.freeze(D:C.upd=true)(r:dt ρ a a')(n:Nat):ap C ρ (λ_(_ _:Unit)=>True) (Go.freeze a n) (Go.freeze a' n):=by
 intro S w w' d _ _;have y:∀b b',ρ.rel b b'->¬ρ.mine b'->∃o o',w.heap[b]?=some o/\Eu o/\w'.heap[b']?=some o'/\∀c e fr,o'≠ .cells c e fr:=λb b' f hn=>by
  rcases d.still b b' f hn with⟨x,_⟩|⟨x,_⟩|⟨o,h1,hd⟩
  .grind
  .grind
  .obtain⟨p,A,t,B,q⟩:=d.obj b b' f;rw[h1]at t;cases t;refine⟨o,A,h1,hd,B,λc e fr x=>?_⟩;subst x;cases hd with
   |coro=>cases q with|shut h=>exact h
   |number a l=>cases q
 have get:∀(w:aO)(a:Addr)(b:Nat),(w.freeze a n).heap[b]?=(w.heap[b]?).map (λo=>if n=0 then o else if a.block=b then(match o with| .cells c e (lo,hi)=>.cells c e (if lo==hi then(a.off,a.off+n)else(min lo a.off,max hi (a.off+n)))|o=>o)else o):=by intro w a b;unfold World.freeze;grind
 have same:∀(w:aO)(a:Addr),(w.freeze a n).heap.size=w.heap.size/\(w.freeze a n).tape=w.tape/\(w.freeze a n).drawn=w.drawn/\(w.freeze a n).os=w.os/\(w.freeze a n).output=w.output:=by grind[World.freeze]
 obtain⟨K,m,g,I,L⟩:=same w a;obtain⟨J,k,j,i,z⟩:=same w' a';refine⟨ρ,w'.freeze a' n,?_,?_,λes=>⟨#[],by simp[Sem.events,Go.freeze,Sem.runT],A_⟩⟩
 .refine .ok trivial ⟨λb b' f=>?_,d.one,d.inj,d.m3,by rw[g,j];exact d.sync,by rw[m,g,k,j];exact d.tape,by rw[I,i];exact d.env,by rw[m];exact d.lone,λb b' f hn=>?_⟩
  .obtain⟨o,o',h1,u,h3⟩:=d.obj b b' f;rw[get,get,h1,u];simp only[Option.map_some];refine⟨_,_,Y,Y,?_⟩;by_cases hn:n=0
   .grind
   simp only[hn,if_false];by_cases e:a.block=b
   .subst e;have v:a'.block=b':=d.one _ _ _ r.1 f;subst v;simp only[if_true];cases h3 with
    |@cells c c' el fr aP E hF=>obtain⟨lo,hi⟩:=fr;have H:=hF.2 D;subst H;rw[r.2.1];exact .cells el E ⟨λ_ x=>x,λ_=>Y⟩
    |map c h=>exact .map c h
    |stringIter s p=>exact .stringIter s p
    |AK a b c=>exact .AK a b c
    |mapIter h a b c=>exact .mapIter h a b c
    |loop h=>exact .loop h
    |deferred h=>exact .deferred h
    |taken=>exact .taken
    |number h l=>exact .number h l
    |shut h=>cases o'<;>first|exact h.elim|exact .shut trivial
   .have v:a'.block≠b':=λx=>e (d.inj _ _ _ (x▸r.1) f);grind
  .obtain⟨o,_,h1,hd,_,_⟩:=y b b' f hn;rw[get,h1];refine .inr (.inr ⟨o,?_,hd⟩);cases hd<;>(grind)
 .refine⟨Ren.le_refl _,λ_ h=>.inl h,AA,λ_ h=>.inl h,λ_ _ h=>.inl h,λb f hn=>?_,i,z,k,AA⟩;rw[get];by_cases F:a'.block=b
  .subst F;obtain⟨_,o',_,_,u,h3⟩:=y _ _ r.1 hn;grind
  grind
theorem ag7(b:C.co):∀(d:Nat)(t u:TypeId),sameLayout C.Q d t u=sameLayout C.P d t u:=by intro d;induction d with|zero=>intro t u;rfl|succ d a=>grind[sameLayout,AN,Wp,K0]
theorem ag8(b:C.co)(fits:TypeId->Bool):∀(d:Nat)(e:TypeId)(c o n:Nat),rowAt C.Q fits d e c o n=rowAt C.P fits d e c o n:=by intro d;induction d with|zero=>intro e c o n;rfl|succ d a=>grind[rowAt,AN,AO,K0]
def ag9(b:C.co):∀(d:Nat)(e:TypeId)(c o:Nat)(u:TypeId)(n:Nat),liesAt C.Q d e c o u n=liesAt C.P d e c o u n:=by intro d;induction d with|zero=>intro e c o u n;rfl|succ d a=>grind[liesAt,AN,ag8,ag7,Ez]
def ag_(b:C.co)(r:dt ρ a a')(u:TypeId)(n:Nat):ap C ρ (λ_ x y=>x=y) (variablesAt a u n) (variablesAt a' u n):=by unfold variablesAt;refine .bind .program λσ p q d⟨c,hq⟩=>?_;subst c;subst hq;refine .bind (ap.shape (d.1 _ _ r.1)) λg s s' f e=>?_;subst e;cases s with|none=>exact .pure Y|some aK=>exact .pure (by simp only[ag9 b,Ez b,AO b,r.2.1])
theorem WH:∀(n:Nat)(ρ:Ren){a a':Addr}(_:dt ρ a a')(acc:ByteArray),ap C ρ (λ_ x y=>x=y) (loadBytes a acc n) (loadBytes a' acc n)
 |0,ρ,a,a',r,acc=>.pure Y
 |n+1,ρ,a,a',r,acc=>by
  unfold loadBytes;refine .bind (ap.load r) λσ v v' c b=>?_;cases b with
  |int k m=>cases k<;>first|exact WH n σ ((r.mono c).add 1) _ |exact .stuck
  | _=>exact .stuck
def aha(d:C.co)(u:C.upd=true)(ats:Array TypeId)(t:TypeId){x x':Array Value}(h:aS ρ x x'):ap C ρ ay (Builtin.unsafeString_ ats t x) (Builtin.unsafeString_ ats t x'):=by
 obtain⟨l⟩:=x;obtain⟨l'⟩:=x';have hs:=h.size;simp only[List.size_toArray]at hs;match l,l',hs with
 | [],[],_=>exact .stuck
 | [a],[a'],_=>exact .stuck
 |a::b::c::l,_::_::_::l',_=>exact .stuck
 | [a,b],[a',b'],_=>
  have A:ay ρ a a':=h.get 0 a a' Y Y;have z:ay ρ b b':=h.get 1 b b' Y Y;have key:∀(p f:Option Addr),od (dt ρ) p f->ap C ρ ay (Builtin.unsafeString_ ats t #[.pointer p,b]) (Builtin.unsafeString_ ats t #[.pointer f,b']):=by intro p f v;unfold Builtin.unsafeString_;refine .bind (ap.asInt z) λσ n D g e=>?_;subst e;cases cQ:ats[0]? with|none=>exact .stuck|some j=>simp only[];refine .ite (λ_=>.bind (R:=λ_ _ _=>False) (.runtimePanic d _) λ_ _ _ _ h=>h.elim) (λ_=>?_);refine .ite (λ_=>.bind (R:=λ_ _ _=>False) .unsupported λ_ _ _ _ h=>h.elim) (λ_=>?_);cases v with|none=>exact .ite (λ_=>.pure (.string _)) (λ_=>.runtimePanic d _)|@some q B hq=>refine .ite (λ_=>.pure (.string _)) (λ_=>?_);refine .bind (ap.elemOf d j) λF e E i w=>?_;subst w;refine .bind (ag_ d ((hq.mono g).mono i) e n.toNat) λo c c' k y=>?_;subst y;refine .ite (λ_=>?_) (λ_=>.unsupported);refine .bind (WH n.toNat o (((hq.mono g).mono i).mono k) .empty) λH s s' m hs=>?_;subst hs;exact .bind (ap.freeze u ((((hq.mono g).mono i).mono k).mono m) n.toNat) λ_ _ _ _ _=>.pure (.string _)
  cases A with|lj=>exact key none none .none|ptr r=>exact key _ _ (.some r)| _=>exact .stuck
theorem ahc(f:C.co)(c:C.upd=true)(ats:Array TypeId)(t:TypeId){cs:Array Bool}{x x':Array Value}(h:aS ρ x x'):ap C ρ (pa C) (do let d <-(pure {target:=.builtin .unsafeString ats t cs,args:=x}:Sem Deferred);invoke d.target d.args) (do let d <-(pure {target:=.builtin .unsafeString ats t cs,args:=x'}:Sem Deferred);invoke d.target d.args):=
 .bind (R:=λ_ d a=>d={target:=.builtin .unsafeString ats t cs,args:=x}/\a={target:=.builtin .unsafeString ats t cs,args:=x'}) (.pure ⟨Y,Y⟩) λσ d a e hd=>by obtain⟨rfl,rfl⟩:=hd;exact .bind (aha f c ats t (h.mono e)) λ_ _ _ _ b=>.pure (.value b)
end
end
variable{kL:Operand->Value}
section
attribute [-simp] Sem.runT_eq
section
variable{C:cO}{ρ:Ren}
def sH(C:cO)(ρ:Ren)(ev kL:Operand->Value):Prop:=∀x,ie C.P x=true->ay ρ (ev x) (kL x)
theorem sH.mono{σ:Ren}(b:Ren.le ρ σ){ev:Operand->Value}(h:sH C ρ ev kL):sH C σ ev kL:=λx a=>(h x a).mono b
def sH.args{ev:Operand->Value}(h:sH C ρ ev kL){a:Array Operand}(e:a.all (ie C.P)=true):aS ρ (a.map ev) (a.map kL):=by refine⟨A_,λi v v' h1 d=>?_⟩;simp only[Array.getElem?_map,Option.map_eq_some_iff]at h1 d;obtain⟨x,c,rfl⟩:=h1;obtain⟨y,b,rfl⟩:=d;rw[c]at b;cases b;exact h x (Array.all_eq_true_iff_forall_mem.1 e x (Array.mem_of_getElem? c))
def sH.P0{ev:Operand->Value}(h:sH C ρ ev kL){a:Option Operand}(b:a.all (ie C.P)=true):vm ρ (a.map ev) (a.map kL):=by cases a with|none=>exact .none|some x=>exact .some (h x AA)
def sH.parts{ev:Operand->Value}(h:sH C ρ ev kL)(b:(ps.all λp=>ie C.P p.2)=true):dy (rF ρ) (ps.map λ(i,x)=>(i,ev x)).toList (ps.map λ(i,x)=>(i,kL x)).toList:=
 agd λp a=>h p.2 (Array.all_eq_true_iff_forall_mem.1 b p a)
def ahd{f:Fn}(h:WF f=true):sG ρ f f:=by cases f with|func f=>exact .func f| _=>cases h
def ahe{ev:Operand->Value}(h:sH C ρ ev kL){c:Call}(e:EE C.P c=true)(t:TypeId):ap C ρ y2 (resolve ev c t) (resolve kL c t):=by unfold resolve;simp only[EE,Bool.and_eq_true]at e;have g:=h.args e.2;obtain⟨a,_⟩:=e;cases i:c.callee with|builtin b=>rw[i]at a;exact .pure ⟨.builtin b _ _ _ a,g⟩|invoke r n=>grind|value f=>rw[i]at a;have d:=h f a;simp only[];revert d;generalize ev f=v;generalize kL f=v';intro d;unfold Deferred.ofValue;cases d with|func j h1 l h3 k=>exact .pure ⟨.fn j ⟨l,k⟩,aS.append ⟨h1,h3⟩ g⟩|nilFunc=>exact .pure ⟨.nil,g⟩| _=>exact .stuck
def ahf(d:C.co)(h:ay ρ x x'){ev:Operand->Value}{o:Oper}{a:Operand}(g:o.op=.nilCheck a)(f:ev a=x)(e:kL a=x'):ap C ρ (pa C) (execOp ev o) (execOp kL o):=by unfold execOp;rw[g];simp only[f,e];have b:=h;cases h with|lj|nilIface|nilFunc=>exact ap.runtimePanic d _|func c=>cases c<;>exact .pure (.value b)| _=>exact .pure (.value b)
def WJ(j:C.co)(q:C.tz)(hF:C.AS){ev:Operand->Value}(h:sH C ρ ev kL){o:Oper}(g:pb C.P C.upd o.op=true):ap C ρ (pa C) (execOp ev o) (execOp kL o):=by
 cases k:o.op<;>rw[k]at g<;>try exact absurd g Bool.false_ne_true
 case nilCheck x=>exact ahf j (h x g) k Y Y
 all_goals
  unfold execOp;rw[k]
 case move x=>exact .pure (.value (h _ g))
 case assign x=>exact .pure (.value (h _ g))
 case pick c a b=>
  simp only[pb,Bool.and_eq_true]at g;exact .bind (ap.asBool (h _ g.1.1)) λσ b b' p e=>by subst e;cases b<;>first|exact .pure (.value ((h _ g.2).mono p))|exact .pure (.value ((h _ g.1.2).mono p))
 case alloc t=>grind[pX,af_]
 case box t x=>exact pX (aga _ (h _ g))
 case build t ps=>exact pX (agh j q _ (h.parts g))
 case buildSlice t n ps=>exact pX (agj j q _ _ (h.parts g))
 case load t a=>exact pX (af8 j _ (h _ g))
 case store t a x=>
  simp only[pb,Bool.and_eq_true]at g;exact ag2 (af9 j _ (h _ g.1) (h _ g.2))
 case binOp op t x y u=>
  simp only[pb,Bool.and_eq_true]at g;exact pX (.bind (agT j _ _ _ _ (h _ g.1.2) (h _ g.2)) λσ _ _ p _=>agU j _ _ g.1.1 ((h _ g.1.2).mono p) ((h _ g.2).mono p))
 case unOp op t x=>exact by simp only[pb,Bool.and_eq_true]at g;exact pX (agM _ g.1 (h _ g.2))
 case makeInterface t x=>exact pX (agt j _ (h _ g))
 case makeFunc fn a b=>
  simp only[pb,Bool.and_eq_true]at g;exact pX (.pure (.Hb (ahd g.1.1) (h.args g.1.2) (h.args g.2)))
 case makeSlice t l c=>
  simp only[pb,Bool.and_eq_true]at g;exact pX (agu j q _ (h _ g.1) (h _ g.2))
 case slice t x l z m=>
  simp only[pb,Bool.and_eq_true]at g;exact pX (ags j _ g.1.1.1.1 (h _ g.1.1.1.2) (h.P0 g.1.1.2) (h.P0 g.1.2) (h.P0 g.2))
 case fieldAddr s x f=>exact pX (agn j _ (h _ g) _)
 case indexAddr t x i=>
  simp only[pb,Bool.and_eq_true]at g;exact pX (ago j _ g.1.1 (h _ g.1.2) (h _ g.2))
 case extract t i=>exact pX (agw (h _ g) _)
 case call c=>
  simp only[pb,Bool.or_eq_true,Bool.and_eq_true]at g;rcases g with g|⟨r,g⟩
  .exact .bind (ahe h g _) λσ d w _ hd=>Hp j q hF hd.target hd.args
  .simp only[Ho,Bool.and_eq_true]at g;have v:=h.args g.2;grind[resolve,ahc]
 case panic x=>exact pX (agZ j (h _ g))
end
end
variable{f f':Frame}{es:Array Event}
section
attribute [-simp] Sem.runT_eq
def ji(P:cg)(upd:Bool):Code->Bool
 | .skip| .exit _ | .label _ | .goto _ | .ret| .refuse _=>true
 | .region _ ops _=>ops.all λo=>pb P upd o.op
 | .seq a b=>ji P upd a&&ji P upd b
 | .cond c a b=>ie P c&&ji P upd a&&ji P upd b
 | .block _ b| .loop b| .scope b=>ji P upd b
 | .rangeFunc f _ a b=>ie P f&&ji P upd a&&ji P upd b
def cO.P2(C:cO):Prop:=∀c,C.lG c↔ji C.P C.upd c=true
inductive rH(C:cO)(ρ:Ren):Item->Item->Prop
 |code {c:Code} (h:C.lG c):rH C ρ (.code c) (.code c)
 |inBlock (id:Nat):rH C ρ (.inBlock id) (.inBlock id)
 |inLoop {c:Code} (h:C.lG c):rH C ρ (.inLoop c) (.inLoop c)
 |inScope {c:Code} (h:C.lG c):rH C ρ (.inScope c) (.inScope c)
 |inRegion {ops:Array Oper} (h:∀o∈ops,pb C.P C.upd o.op=true) (todo:List Nat):rH C ρ (.inRegion ops todo) (.inRegion ops todo)
 |inRangeFunc {l l':Nat} (h:ρ.rel l l'):rH C ρ (.inRangeFunc l) (.inRangeFunc l')
 |endRangeFunc {l l':Nat} (h:ρ.rel l l'):rH C ρ (.endRangeFunc l) (.endRangeFunc l')
 |beginRound:rH C ρ .beginRound .beginRound
theorem rH.mono{C:cO}{ρ σ:Ren}(c:Ren.le ρ σ){a b:Item}(h:rH C ρ a b):rH C σ a b:=by cases h with|code h=>exact .code h|inBlock id=>exact .inBlock id|inLoop h=>exact .inLoop h|inScope h=>exact .inScope h|inRegion h t=>exact .inRegion h t|inRangeFunc h=>exact .inRangeFunc (c.1 _ _ h)|endRangeFunc h=>exact .endRangeFunc (c.1 _ _ h)|beginRound=>exact .beginRound
abbrev mE(C:cO)(ρ:Ren):=dy (rH C ρ)
theorem mE.mono{C:cO}{ρ σ:Ren}(c:Ren.le ρ σ){a b:List Item}(h:mE C ρ a b):mE C σ a b:=dy.mono (λ_ _ x=>x.mono c) h
structure AT(ρ:Ren)(e e':PanicEntry):Prop where
 v:ay ρ e.v e'.v
 recovered:e.recovered=e'.recovered
 goexit:e.goexit=e'.goexit
theorem AT.mono{ρ σ:Ren}(c:Ren.le ρ σ){a b:PanicEntry}(h:AT ρ a b):AT σ a b:=⟨h.v.mono c,h.recovered,h.goexit⟩
inductive tA(ρ:Ren):FrameMode->FrameMode->Prop
 |run:tA ρ .run .run
 |returning:tA ρ .returning .returning
 |panicking {l l':List PanicEntry} (h:dy (AT ρ) l l'):tA ρ (.panicking l) (.panicking l')
theorem tA.mono{ρ σ:Ren}(c:Ren.le ρ σ){a b:FrameMode}(h:tA ρ a b):tA σ a b:=by cases h with|run=>exact .run|returning=>exact .returning|panicking h=>exact .panicking (dy.mono (λ_ _ x=>x.mono c) h)
structure ek(C:cO)(ρ:Ren)(f f':Frame):Prop where
 fn:f.fn=f'.fn
 known:∃fn c,C.P.funcs[f.fn]?=some fn/\fn.body=some c
 tmps:aS ρ f.tmps f'.tmps
 todo:mE C ρ f.todo f'.todo
 defers:qQ ρ f.defers f'.defers
 mode:tA ρ f.mode f'.mode
 kind:f.kind=f'.kind
 plain:f.kind=.normal\/f.kind=.deferred
 roundOf:od ρ.rel f.roundOf f'.roundOf
theorem ek.mono{C:cO}{ρ σ:Ren}(c:Ren.le ρ σ){a b:Frame}(h:ek C ρ a b):ek C σ a b:=
 ⟨h.fn,h.known,h.tmps.mono c,mE.mono c h.todo,qQ.mono c h.defers,h.mode.mono c,h.kind,h.plain,h.roundOf.mono λ_ _ x=>c.1 _ _ x⟩
abbrev iy(C:cO)(ρ:Ren):=dy (ek C ρ)
theorem iy.mono{C:cO}{ρ σ:Ren}(c:Ren.le ρ σ){a b:List Frame}(h:iy C ρ a b):iy C σ a b:=dy.mono (λ_ _ x=>x.mono c) h
def iz:Frame->List Frame->Prop
 |f,[]=>f.kind=.normal/\f.roundOf=none
 | _,c::cs=>iz c cs
def aZ(fr:Frame)(cs:List Frame):Goroutine:={frame:=fr,callers:=cs,status:=.running,dying:=none}
def ii(C:cO)(S:Sync)(ρ:Ren)(b0 base:List Frame)(w':aO)(g1:Goroutine)(w1:aO)(s':GStep):Prop:=
 ∃σ rI cs1 wR EG n_ es',g1=aZ rI (cs1++b0)/\s'=.go (aZ wR (EG++base)) n_ es'/\ek C σ rI wR/\iy C σ cs1 EG/\iz rI cs1/\ew C S σ w1 n_/\Grow ρ σ w' n_/\∀e∈es',vj σ e
def wS{p:cg}{fn:FuncId}{e:Event}(h:e∈seen p fn es):e∈es:=by
 unfold seen at h;obtain⟨l⟩:=es;simp only[List.foldl_toArray]at h;suffices key:∀(l:List Event)(q:Bool)(k:Array Event),e∈(l.foldl (λ(x:Bool×Array Event)(e:Event)=>match e.loc with
  | .mark (.extern f)=>((p.funcs[f]?).any (·.norace),x.2)
  | _=>(x.1,if x.1&& !e.sync then x.2 else x.2.push e)) (q,k)).2->e∈k\/e∈l by
  have:=key l _ _ h;grind
 intro l;induction l with|nil=>grind|cons x l a=>grind
section
variable{C:cO}{ρ:Ren}
theorem ek.eval(h:ek C ρ f f')(hg:∀g,g<=C.P.globals.size->ρ.rel g g):sH C ρ f.eval f'.eval:=by intro x a;cases x with|tmp t=>exact h.tmps.getD (.undef ρ) t|const v=>exact(WE 4 v a).rel ρ|global g=>exact .ptr ⟨hg g (Nat.le_of_lt (of_decide_eq_true a)),Y,Y⟩|func f=>exact .Hb (.func f) (.nil ρ) (.nil ρ)
theorem ek.finish(h:ek C ρ f f')(c:ay ρ v v'):ek C ρ (f.finish v) (f'.finish v'):=by
 have ht:=h.todo;unfold Frame.finish;revert ht;cases m:f.todo with
 |nil=>intro ht;cases b:f'.todo with|nil=>grind|cons a l=>rw[b]at ht;cases ht
 |cons i k=>
  intro ht;cases b:f'.todo with
  |nil=>rw[b]at ht;cases ht
  |cons j k'=>
   rw[b]at ht;cases ht with
   |cons hi hk=>
    cases hi with
    |inRegion e todo=>cases todo with|nil=>grind|cons n rest=>simp only[];refine⟨h.fn,h.known,?_,.cons (.inRegion e rest) hk,h.defers,h.mode,h.kind,h.plain,h.roundOf⟩;cases((_:Option Oper).bind (·.dst))with|none=>exact h.tmps|some d=>exact h.tmps.set c d
    |inRangeFunc g=>exact⟨h.fn,h.known,h.tmps,.cons (.endRangeFunc g) hk,h.defers,h.mode,h.kind,h.plain,h.roundOf⟩
    |beginRound=>exact⟨h.fn,h.known,h.tmps,hk,h.defers,h.mode,h.kind,h.plain,h.roundOf⟩
    | _=>exact h
end
end
variable{g:Frame}{cs:List Frame}
section
attribute [-simp] Sem.runT_eq
def iz.push(h:iz f cs):iz g (f::cs):=h
def iz.P3{c:Frame}(h:iz f (c::cs)):iz c cs:=h
def iz.same(h:iz f cs)(hk:g.kind=f.kind)(a:g.roundOf=f.roundOf):iz g cs:=by cases cs with|nil=>exact⟨hk.trans h.1,a.trans h.2⟩|cons c cs=>exact h
def y8(f:Frame)(v:Value):(f.finish v).kind=f.kind/\(f.finish v).roundOf=f.roundOf:=by unfold Frame.finish;grind
def sI(f:Frame)(c:List PanicEntry):(f.raise c).kind=f.kind/\(f.raise c).roundOf=f.roundOf:=by unfold Frame.raise;grind
section
variable{C:cO}{ρ:Ren}
theorem ek.raise(h:ek C ρ f f'){c c':List PanicEntry}(b:dy (AT ρ) c c'):ek C ρ (f.raise c) (f'.raise c'):=by have a:=h.mode;unfold Frame.raise;revert a;cases f.mode with|run=>intro a;generalize f'.mode=m' at a;cases a;exact⟨h.fn,h.known,h.tmps,h.todo,h.defers,.panicking b,h.kind,h.plain,h.roundOf⟩|returning=>intro a;generalize f'.mode=m' at a;cases a;exact⟨h.fn,h.known,h.tmps,h.todo,h.defers,.panicking b,h.kind,h.plain,h.roundOf⟩|panicking l=>intro a;generalize f'.mode=m' at a;cases a with|panicking d=>exact⟨h.fn,h.known,h.tmps,h.todo,h.defers,.panicking (b.append d),h.kind,h.plain,h.roundOf⟩
def ek.wT(h:ek C ρ f f'){t a:List Item}(ht:mE C ρ t a):ek C ρ {f with todo:=t} {f' with todo:=a}:=⟨h.fn,h.known,h.tmps,ht,h.defers,h.mode,h.kind,h.plain,h.roundOf⟩
def ek.AU(h:ek C ρ f f'){d a:List Deferred}(hd:qQ ρ d a):ek C ρ {f with defers:=d} {f' with defers:=a}:=⟨h.fn,h.known,h.tmps,h.todo,hd,h.mode,h.kind,h.plain,h.roundOf⟩
def ek.tB(h:ek C ρ f f'){m a:FrameMode}(b:tA ρ m a):ek C ρ {f with mode:=m} {f' with mode:=a}:=⟨h.fn,h.known,h.tmps,h.todo,h.defers,b,h.kind,h.plain,h.roundOf⟩
def aS.ahh(n:Nat):aS ρ (Array.replicate n undef) (Array.replicate n undef):=by
 refine⟨Y,λi v v' h1 a=>?_⟩;rw[h1]at a;cases a;rw[Array.getElem?_replicate]at h1;split at h1
 .cases h1;exact .undef ρ
 grind
theorem ek.enter(hF:C.AS){f:FuncId}{fn:Func}{c:Code}{a a':Array Value}(h:aS ρ a a')(b:C.P.funcs[f]?=some fn)(d:fn.body=some c){k:CallKind}(hk:k=.normal\/k=.deferred):
 ek C ρ (Frame.enter C.P f a k) (Frame.enter C.Q f a' k):=by
 obtain⟨hq,hok,_⟩:=hF.body f fn c b d;unfold Frame.enter;simp only[b,hq,d,Option.map_some,Option.getD_some,Option.bind_some,h.size];exact⟨Y,⟨fn,c,b,d⟩,h.append (.ahh _),.cons (.code hok) .nil,.nil,.run,Y,hk,.none⟩
theorem ek.round{f:FuncId}(d:∃fn c,C.P.funcs[f]?=some fn/\fn.body=some c){t a:Array Value}(b:ρ.rel l l')(ht:aS ρ t a)(g:C.lG assign)(e:C.lG body){k:CallKind}(hk:k=.normal\/k=.deferred):
 ek C ρ (Frame.round l f t assign body k) (Frame.round l' f a assign body k):=
 ⟨Y,d,ht,.cons (.code g) (.cons .beginRound (.cons (.code e) .nil)),.nil,.run,Y,hk,.some b⟩
end
end
variable{lH:Array Event}
def y9{s:GStep}{g:Goroutine}{w:aO}(h:GStep.after es s=.go g w lH):∃a,s=.go g w a:=by
 cases s<;>simp[GStep.after]at h
 simp_all
variable{fr:Frame}{g1:Goroutine}
theorem P4{ps:List ByteArray}{m:String}{b:Bool}{w w1:aO}(h:dieOf fr ps m b w=.go g1 w1 es):g1.dying≠none:=by grind[dieOf]
theorem WN{d:Option Dying}{m:String}{w w1:aO}(h:endFatal P fr cs d m w=.go g1 w1 es):g1.dying≠none:=by unfold endFatal at h;grind[P4]
variable{aP:Frame}{a7 b0:List Frame}
section
variable{C:cO}{S:Sync}{ρ:Ren}
def mE.ahi{t a:List Item}(h:mE C ρ t a):(match t with| .call _ true _ _::_=>CallKind.wrapped| _=>.normal)=.normal/\(match a with| .call _ true _ _::_=>CallKind.wrapped| _=>.normal)=.normal:=by cases h with|nil=>grind|cons hi _=>cases hi<;>exact⟨Y,Y⟩
def P5(hF:C.AS){base:List Frame}{w w':aO}{s s':Sem Next}{w1:aO}(n:ek C ρ fr aP)(q:iy C ρ cs a7)(i:iz fr cs)(J:ew C S ρ w w')(hs:ap C ρ (pa C) s s')(P:C.P.follows .rangeFuncRecover=true\/fr.roundOf=none)(T:C.Q.follows .rangeFuncRecover=C.P.follows .rangeFuncRecover)(h:stepG.apply C.P true fr (cs++b0) none s w=.go g1 w1 lH)(hrun:g1.status=.running)(F:g1.dying=none)(l:(ig (stepG.apply C.Q true aP (a7++base) none s' w')).drawn<=S.bound):ii C S ρ b0 base w' g1 w1 (stepG.apply C.Q true aP (a7++base) none s' w'):=by
 have B:=mE.ahi n.todo;have ln:Good (s.run C.P w):=by
  unfold stepG.apply at h;simp only[Sem.runT_eq,if_true]at h;obtain⟨H,a⟩:=y9 h;cases z:s.run C.P w with
  |ok Q E=>trivial
  |halt x E=>
   rw[z]at a;cases x with
   |panic v=>trivial
   |goexit=>trivial
   |blocked=>grind
   |waiting=>grind
   |unsupported u=>cases u<;>first|trivial|(simp at a)
   |exit c=>grind
   |fatal m=>grind[WN]
   |throw m=>exact absurd F (P4 a)
   |stuck m=>grind
 obtain⟨σ,U,p,f,O⟩:=hs S w w' J ln (Nat.le_trans (EF C.Q aP (a7++base) none s' w') l);obtain⟨d,hd,I⟩:=O #[];rw[Array.empty_append]at hd;have A:=f.le;have j:=n.mono A;have g:=iy.mono A q;have evs:∀e∈seen C.Q aP.fn d,vj σ e:=λe M=>I e (wS M);unfold stepG.apply at h⊢;simp only[Sem.runT_eq,if_true]at h⊢;rw[hd];obtain⟨H,a⟩:=y9 h;clear h;generalize z:s.run C.P w=r at a p;generalize V:s'.run C.Q w'=r' at p⊢;have early:(aP.kind== .early)=false:=by rcases n.plain with x|x<;>rw[<-n.kind,x]<;>rfl
 cases p with
 |@ok _ _ R _ hn b=>
  cases hn with
  |value o=>simp only[GStep.go.injEq]at a;obtain⟨rfl,rfl,_⟩:=a;simp only[early];exact⟨σ,_,cs,_,a7,_,_,Y,Y,j.finish o,g,i.same (y8 _ _).1 (y8 _ _).2,b,f,AA⟩
  |skip=>simp only[GStep.go.injEq]at a;obtain⟨rfl,rfl,_⟩:=a;simp only[early];exact⟨σ,_,cs,_,a7,_,_,Y,Y,j.finish (.undef σ),g,i.same (y8 _ _).1 (y8 _ _).2,b,f,AA⟩
  |enter t K l=>
   simp only[GStep.go.injEq]at a;obtain⟨rfl,rfl,_⟩:=a;simp only[early];have y:∀k k':CallKind,k=.normal->k'=.normal->ek C σ (Frame.enter C.P _ _ k) (Frame.enter C.Q _ _ k'):=λk k' e N=>by subst e;subst N;exact .enter hF t K l Kg
   exact⟨σ,_,fr::cs,_,aP::a7,_,_,Y,Y,y _ _ B.1 B.2,.cons j g,i.push,b,f,AA⟩
  |round L D ht t l=>simp only[GStep.go.injEq]at a;obtain⟨rfl,rfl,_⟩:=a;simp only[early];exact⟨σ,_,fr::cs,_,aP::a7,_,_,Y,Y,.round L D ht t l Kg,.cons j g,i.push,b,f,AA⟩
 |panic o b=>simp only[GStep.go.injEq]at a;obtain⟨rfl,rfl,_⟩:=a;simp only[early];exact⟨σ,_,cs,_,a7,_,_,Y,Y,j.raise (.cons ⟨o,Y,Y⟩ .nil),g,i.same (sI _ _).1 (sI _ _).2,b,f,AA⟩
 |goexit b=>simp only[GStep.go.injEq]at a;obtain⟨rfl,rfl,_⟩:=a;simp only[early];exact⟨σ,_,cs,_,a7,_,_,Y,Y,j.raise (.cons ⟨.undef σ,Y,Y⟩ .nil),g,i.same (sI _ _).1 (sI _ _).2,b,f,AA⟩
end
section
section
variable{C:cO}{S:Sync}{ρ:Ren}
structure cO.Good(C:cO):Prop where
 same:C.co
 EH:C.tz
 funcs:C.AS
 oe:C.P2
 P6:C.P.follows .rangeFuncRecover=true
theorem cO.Good.follows(h:C.Good)(d:Departure):C.Q.follows d=C.P.follows d:=by unfold Tables.follows;rw[h.same]
def ahk(id:Nat){k k':List Item}(h:mE C ρ k k'):od (mE C ρ) (exitTo id k) (exitTo id k'):=by
 induction h with
 |nil=>exact .none
 |cons hi hk a=>
  cases hi with
  |inBlock b=>
   simp only[exitTo];split
   .exact .some hk
   grind
  | _=>exact a
def ahm(d:C.P2):∀(c:Code)(l:Nat)(r:Code),C.lG c->findLabel c l=some r->C.lG r:=by
 intro c;induction c with
 |seq a b g f=>intro l r hok h;rw[d]at hok;simp only[ji,Bool.and_eq_true]at hok;simp only[findLabel]at h;cases e:findLabel a l with|some rest=>rw[e]at h;cases h;have:=g l rest ((d a).2 hok.1) e;rw[d]at this⊢;simp_all[ji]|none=>rw[e]at h;exact f l r ((d b).2 hok.2) h
 |label l'=>
  intro l r _ h;simp only[findLabel]at h;split at h
  .cases h;rw[d];rfl
  grind
 | _=>intro l r _ h;cases h
def ahn(d:C.P2)(l:Nat){k k':List Item}(h:mE C ρ k k'):od (mE C ρ) (gotoIn l k) (gotoIn l k'):=by
 induction h with
 |nil=>exact .none
 |cons hi hk a=>
  cases hi with
  |@inScope c hok=>simp only[gotoIn];cases b:findLabel c l with|some r=>exact .some (.cons (.code (ahm d c l r hok b)) (.cons (.inScope hok) hk))|none=>exact a
  | _=>exact a
def WP{t b:Array Value}(h:aS ρ t b)(ops:Array Oper):yielded ops t=yielded ops b:=by
 funext j
 unfold yielded;cases((ops[j]?).bind (·.dst))with|none=>rfl|some d=>simp only[Option.bind_some];cases ht:t[d]? with|none=>rw[h.none ht]|some v=>obtain⟨v',a,c⟩:=h.some ht;rw[a];cases c<;>rfl
def rK{a c:Frame}{base:List Frame}{w w':aO}(b:iy C ρ cs a7)(f:iz fr cs)(d:ew C S ρ w w')(hk:a.kind=fr.kind)(e:a.roundOf=fr.roundOf)(h1:ek C ρ a c):ii C S ρ b0 base w' (aZ a (cs++b0)) w (.go (aZ c (a7++base)) w'):=
 ⟨ρ,_,cs,_,a7,_,_,Y,Y,h1,b,f.same hk e,d,.refl _ _,A_⟩
def WQ{main main':Bool}{c c':Frame}{base:List Frame}{w w':aO}{w1:aO}(p:ek C ρ fr aP)(f:ek C ρ c c')(d:iy C ρ cs a7)(j:iz c cs)(i:ew C S ρ w w')(y:ay ρ v v')(h:doReturn C.P main fr (c::(cs++b0)) none v w=.go g1 w1 lH):ii C S ρ b0 base w' g1 w1 (doReturn C.Q main' aP (c'::(a7++base)) none v' w'):=by
 unfold doReturn at h⊢;rcases p.plain with hk|hk
 .have o:=p.kind.symm.trans hk;simp only[hk,GStep.go.injEq]at h;obtain⟨rfl,rfl,_⟩:=h;simp only[o];exact⟨ρ,_,cs,_,a7,_,_,Y,Y,f.finish y,d,j.same (y8 _ _).1 (y8 _ _).2,i,.refl _ _,A_⟩
 .have o:=p.kind.symm.trans hk;simp only[hk,GStep.go.injEq]at h;obtain⟨rfl,rfl,_⟩:=h;simp only[o];have k:=f.mode;generalize I:c.mode=m at k;generalize F:c'.mode=m' at k;have keep:ii C S ρ b0 base w' (aZ c (cs++b0)) w (.go (aZ c' (a7++base)) w'):=rK d j i Y Y f;cases k with
  |run=>exact keep
  |returning=>exact keep
  |panicking n=>
   cases n with
   |nil=>exact keep
   |@cons e B s r A z=>
    obtain⟨ev,q,H⟩:=e;obtain⟨kL,E,D⟩:=B;obtain⟨u,t,h3⟩:=A;simp only at u t h3;subst t;subst h3;cases q with
    |false=>exact keep
    |true=>
     simp only[];have drop:∀(l l':List PanicEntry),dy (AT ρ) l l'->dy (AT ρ) (l.dropWhile (!·.goexit)) (l'.dropWhile (!·.goexit)):=by
      intro l l' n;induction n with
      |nil=>exact .nil
      |cons g ht x=>
       simp only[List.dropWhile_cons,g.goexit];split
       .exact x
       .exact .cons g ht
     have hd:=drop _ _ z;generalize s.dropWhile (!·.goexit)=a at hd;generalize r.dropWhile (!·.goexit)=b at hd;cases hd with|nil=>exact rK (fr:=c) d j i Y Y (f.tB .returning)|cons g ht=>exact rK (fr:=c) d j i Y Y (f.tB (.panicking (.cons g ht)))
theorem ii.after{w' g:aO}{σ:Ren}{base:List Frame}{w1:aO}{s':GStep}(l:Grow ρ σ w' g)(k:∀e∈es,vj σ e)(h:ii C S σ b0 base g g1 w1 s'):ii C S ρ b0 base w' g1 w1 (GStep.after es s'):=by
 obtain⟨n,a,b,c,d,e,f,h1,rfl,h3,m,p,o,i,q⟩:=h;refine⟨n,a,b,c,d,e,es++f,h1,Y,h3,m,p,o,l.trans i,λx j=>?_⟩;rcases Array.mem_append.1 j with y|y
 .exact(k x y).mono i.le
 grind
end
end
end av
open RowKit
def bo(w w':aO):Prop:=∀b o v,w.cell? ⟨b,o,none⟩=some v->w'.cell? ⟨b,o,none⟩=some v
theorem bo.refl(w:aO):bo w w:=λ_ _ _ h=>h
variable{a:aO}
theorem bo.trans{b c:aO}(h:bo a b)(k:bo b c):bo a c:=λx o v e=>k x o v (h x o v e)
variable{w:aO}{b o:Nat}{v:Value}
def fS(h:w.cell? ⟨b,o,none⟩=some v):b<w.heap.size:=by grind[World.cell?]
variable{w':aO}
def bo.cj(h:Below w.heap.size w w'):bo w w':=λb o v e=>by rw[h.cell (p:=⟨b,o,none⟩) (fS e)];exact e
def a8{al:Type}(w:aO)(du:Nat)(R:aO->(Nat->Option Value)->al->Prop)(v:Value)(xs:List al):Prop:=
 ∃bz cap,v=.slice bz xs.length cap/\xs.length<=9223372036854775807/\
  ∀i(h:i<xs.length),∃b off,bz=some ⟨b,off,none⟩/\R w (λj=>w.cell? ⟨b,off+i*du+j,none⟩) xs[i]
def o8{al:Type}(R:aO->(Nat->Option Value)->al->Prop):Prop:=
 ∀w w' rd i7 x,bo w w'->(∀j v,rd j=some v->i7 j=some v)->R w rd x->R w' i7 x
theorem a8.mono{al:Type}{a:Nat}{R:aO->(Nat->Option Value)->al->Prop}(l:o8 R)(hk:bo w w'){xs:List al}(h:a8 w a R v xs):a8 w' a R v xs:=by obtain⟨k,cap,c,f,m⟩:=h;refine⟨k,cap,c,f,λi hi=>?_⟩;obtain⟨b,off,g,d⟩:=m i hi;exact⟨b,off,g,l _ _ _ _ _ hk (λj v e=>hk _ _ _ e) d⟩
theorem a8.nil{al:Type}(w:aO)(a:Nat)(R:aO->(Nat->Option Value)->al->Prop):a8 w a R (.slice none 0 0) []:=
 ⟨none,0,Y,A_,AA⟩
def tD(_:aO)(rd:Nat->Option Value)(x:Int):Prop:=rd 0=some (.int .i64 x)
def A2(_:aO)(rd:Nat->Option Value)(s:ByteArray):Prop:=rd 0=some (.string s)/\s.size<=9223372036854775807
def ze(_:aO)(rd:Nat->Option Value)(x:Bool):Prop:=rd 0=some (.bool x)
def Lb(_:aO)(rd:Nat->Option Value)(t:Int×Int):Prop:=rd 0=some (.int .i64 t.1)/\rd 1=some (.int .i64 t.2)
theorem A3:o8 tD:=λ_ _ _ _ _ _ a h=>a _ _ h
def Qm:o8 ze:=λ_ _ _ _ _ _ a h=>a _ _ h
def Qn:o8 A2:=λ_ _ _ _ _ _ a h=>⟨a _ _ h.1,h.2⟩
def nL:o8 Lb:=λ_ _ _ _ _ _ a h=>⟨a _ _ h.1,a _ _ h.2⟩
abbrev jC(w:aO):=a8 w 1 tD
abbrev Qo(w:aO):=a8 w 1 A2
abbrev HD(w:aO):=a8 w 1 ze
abbrev eP(w:aO):=a8 w 2 Lb
structure aA where
 kind:Int
 ck:Int
 fg:List Int
 dl:List ByteArray
 cp:List Bool
structure sN(w:aO)(bg vs aY:Value)(c:aA):Prop where
 fg:jC w bg c.fg
 dl:Qo w vs c.dl
 cp:HD w aY c.cp
def vp(w:aO)(rd:Nat->Option Value)(c:aA):Prop:=
 ∃bg vs aY,rd 0=some (.int .i64 c.kind)/\rd 1=some (.int .i64 c.ck)/\rd 2=some bg/\rd 3=some vs/\rd 4=some aY/\sN w bg vs aY c
variable{aY vs:Value}
theorem sN.mono(hk:bo w w'){bg:Value}{c:aA}(h:sN w bg vs aY c):sN w' bg vs aY c:=
 ⟨h.fg.mono A3 hk,h.dl.mono Qn hk,h.cp.mono Qm hk⟩
theorem sN.shape{bg:Value}{c:aA}(h:sN w bg vs aY c):∃d ci a b an e,bg=.slice d c.fg.length ci/\vs=.slice a c.dl.length b/\aY=.slice an c.cp.length e:=by obtain⟨d,ci,h1,-,-⟩:=h.fg;obtain⟨a,b,f,-,-⟩:=h.dl;obtain⟨an,e,h3,-,-⟩:=h.cp;grind
def rM:o8 vp:=λ_ _ _ _ _ hk a⟨bg,vs,aY,h0,h1,d,h3,c,b⟩=>
 ⟨bg,vs,aY,a _ _ h0,a _ _ h1,a _ _ d,a _ _ h3,a _ _ c,b.mono hk⟩
abbrev m8(w:aO):=a8 w 5 vp
def Qp(w:aO)(rd:Nat->Option Value)(t:List aA):Prop:=∃v,rd 0=some v/\m8 w v t
def Lc:o8 Qp:=λ_ _ _ _ _ hk a⟨v,h0,h⟩=>⟨v,a _ _ h0,h.mono rM hk⟩
abbrev A4(w:aO):=a8 w 1 Qp
structure bI where
 op:Int
 a:Int
 v:Int
 s:ByteArray
def HE(_:aO)(rd:Nat->Option Value)(t:bI):Prop:=
 rd 0=some (.int .i64 t.op)/\rd 1=some (.int .i64 t.a)/\rd 2=some (.int .i64 t.v)/\rd 3=some (.string t.s)/\t.s.size<=9223372036854775807
def p7:o8 HE:=λ_ _ _ _ _ _ a h=>⟨a _ _ h.1,a _ _ h.2.1,a _ _ h.2.2.1,a _ _ h.2.2.2.1,h.2.2.2.2⟩
abbrev p8(w:aO):=a8 w 4 HE
def Xd(w:aO)(rd:Nat->Option Value)(e:List bI):Prop:=∃v,rd 0=some v/\p8 w v e
def ail:o8 Xd:=λ_ _ _ _ _ hk a⟨v,h0,h⟩=>⟨v,a _ _ h0,h.mono p7 hk⟩
abbrev Qq(w:aO):=a8 w 1 Xd
abbrev aim(w:aO):=a8 w 2 Lb
structure lI where
 op:Int
 a:Int
 b:Int
 mh:List (List bI)
 EP:List Int
 others:List Int
 EQ:List (Int×Int)
structure wY(w:aO)(iK cW kR b4:Value)(n:lI):Prop where
 mh:Qq w iK n.mh
 EP:jC w cW n.EP
 others:jC w kR n.others
 EQ:aim w b4 n.EQ
variable{b4 cW iK kR:Value}
theorem wY.mono(hk:bo w w'){n:lI}(h:wY w iK cW kR b4 n):wY w' iK cW kR b4 n:=
 ⟨h.mh.mono ail hk,h.EP.mono A3 hk,h.others.mono A3 hk,h.EQ.mono nL hk⟩
theorem wY.shape{n:lI}(h:wY w iK cW kR b4 n):∃a ce b d e nJ aa c,iK=.slice a n.mh.length ce/\cW=.slice b n.EP.length d/\kR=.slice e n.others.length nJ/\b4=.slice aa n.EQ.length c:=by obtain⟨a,ce,h1,-,-⟩:=h.mh;obtain⟨b,d,g,-,-⟩:=h.EP;obtain⟨e,nJ,h3,-,-⟩:=h.others;obtain⟨aa,c,f,-,-⟩:=h.EQ;grind
def Xe(w:aO)(rd:Nat->Option Value)(n:lI):Prop:=
 ∃iK cW kR b4,rd 0=some (.int .i64 n.op)/\rd 1=some (.int .i64 n.a)/\rd 2=some (.int .i64 n.b)/\rd 3=some iK/\rd 4=some cW/\rd 5=some kR/\rd 6=some b4/\wY w iK cW kR b4 n
def Qr:o8 Xe:=λ_ _ _ _ _ hk a⟨iK,cW,kR,b4,h0,h1,c,h3,b,e,d,h⟩=>
 ⟨iK,cW,kR,b4,a _ _ h0,a _ _ h1,a _ _ c,a _ _ h3,a _ _ b,a _ _ e,a _ _ d,h.mono hk⟩
abbrev HF(w:aO):=a8 w 7 Xe
abbrev ee(t:Int×Int):Value:=.agg #[.int .i64 t.1,.int .i64 t.2]
variable{W w1:aO}
def Xf(a:Below W.heap.size W w1):(∀b o,b<W.heap.size->w1.cell? ⟨b,o,none⟩=W.cell? ⟨b,o,none⟩)/\(∀b o,b<W.heap.size->w1.frozen? ⟨b,o,none⟩=W.frozen? ⟨b,o,none⟩):=
 ⟨λb o h=>a.cell (p:=⟨b,o,none⟩) h,λb o h=>a.frozen (p:=⟨b,o,none⟩) h⟩
def after(B:Nat)(a:Below W.heap.size W w1)(c:B<=W.heap.size):(∀b o,b<B->w1.cell? ⟨b,o,none⟩=W.cell? ⟨b,o,none⟩)/\(∀b o,b<B->w1.frozen? ⟨b,o,none⟩=W.frozen? ⟨b,o,none⟩)/\B<=w1.heap.size:=
 ⟨λb o h=>(Xf a).1 b o As,λb o h=>(Xf a).2 b o As,by have:=a.size;omega⟩
theorem Below.step{B:Nat}{w W w1:aO}(a:Below W.heap.size W w1)(h:Below B w W)(b:B<=W.heap.size):Below B w w1:=h.trans (a.mono b)
theorem bo.alloc(h:bo a w)(o:Obj):bo a (w.alloc o):=
 h.trans (bo.cj ((Below.refl _ _).alloc J1 o))
theorem bo.drew(h:bo a w):bo a w.drew:=λb o v e=>by simpa using h b o v e
theorem bo.step{a W w1:aO}(h:bo a W)(b:Below W.heap.size W w1):bo a w1:=h.trans (bo.cj b)
def ag(w:aO)(b:Nat)(cs:Array Value)(T:TypeId):Prop:=w.heap[b]?=some (.cells cs T (0,0))
variable{cs:Array Value}{T:TypeId}
def ag.lt(h:ag w b cs T):b<w.heap.size:=by grind[ag]
theorem ag.rules(h:ag w b cs T):(∀o,w.cell? ⟨b,o,none⟩=cs[o]?)/\(∀o,w.frozen? ⟨b,o,none⟩=false):=by grind[ag,World.cell?,World.frozen?]
def ag.all(h:ag w b cs T):(∀o,w.cell? ⟨b,o,none⟩=cs[o]?)/\(∀o,w.frozen? ⟨b,o,none⟩=false)/\b<w.heap.size:=⟨h.rules.1,h.rules.2,h.lt⟩
variable{B:Nat}
def ag.below(h:ag w b cs T)(a:Below B w w')(c:b<B):ag w' b cs T:=by unfold ag at *;rw[a.block b c];exact h
def ag.call(h:ag w b cs T)(a:Below w.heap.size w w'):ag w' b cs T:=h.below a h.lt
theorem ag.alloc(h:ag w b cs T)(o:Obj):ag (w.alloc o) b cs T:=
 h.call ((Below.refl _ _).alloc J1 o)
theorem ag.drew(h:ag w b cs T):ag w.drew b cs T:=h
def ag.new(w:aO)(cs:Array Value)(T:TypeId):ag (w.alloc (.cells cs T)) w.heap.size cs T:=by exact heap_alloc_new w _
def ag.set(h:ag w b cs T)(o:Nat)(v:Value):ag (w.setCell ⟨b,o,none⟩ v) b (cs.setIfInBounds o v) T:=by grind[ag,World.setCell]
def ag.iA(h:ag w b cs T){a:Addr}(c:b≠a.block)(v:Value):ag (w.setCell a v) b cs T:=by grind[ag,Below.heap_setCell]
def sO{b' o':Nat}{u:Value}(h:w.cell? ⟨b,o,none⟩=some v)(a:b≠b'):(w.setCell ⟨b',o',none⟩ u).cell? ⟨b,o,none⟩=some v:=by grind[World.cell?_of_block,Below.heap_setCell]
structure oi(P:cg)(t e:TypeId)(z:Value)(size bytes:Nat):Prop where
 ht:P.underlying t=some (.slice e)
 hi:(P.info? e).map (λi=>(i.zero,i.size,i.bytes))=some (some z,size,bytes)
 HG:z.cells.size=size
 hsz:0<size
variable{size:Nat}{z:Value}{e t:TypeId}{Q:Exit->Act->aO->Prop}
def Le{P:cg}{bytes:Nat}(E:oi P t e z size bytes)(w:aO){ops:Array Oper}{rest:List Oper}{o:Oper}{a:Act}(A:o.guard=none)(s x:Operand)(p:o.op=.call {callee:=.builtin .append,args:=#[s,x],argTypes:=#[t,t]})(base:Nat)(v:Value)(n:Nat)(xs:List Value)(hs:a.eval s=v)(B:w.ownsRow base e size v n xs)(b m c:Nat)(news:List Value)(l:a.eval x=.slice (some ⟨b,0,none⟩) m c)(r:news.length=m*size)(D:∀j u,news[j]?=some u->w.cell? ⟨b,j,none⟩=some u)(h1:∀u∈news,u.oneCell'=true)(q:0<m)(C:(n+m)*bytes<=140737488355328)(I:n+m<=9223372036854775807)(d:base<=w.heap.size)(H:Nat)(y:w.heap.size=H)(h:∀g cap w',w'.ownsRow base e size (.slice (some ⟨g,0,none⟩) (n+m) cap) (n+m) (xs++news)->w.grownBy w' v.ownBlock->(v.ownBlock=some g\/g=H)->g<w'.heap.size->wpList P ops Q rest (a.put o.dst (.slice (some ⟨g,0,none⟩) (n+m) cap)) w'):
 wpList P ops Q (o::rest) a w:=by
 obtain⟨i,hi,k,hsz,f⟩:=info_parts E.hi;exact wpList_append_lies w A s x t p base e i z size bytes E.ht hi k hsz f E.HG E.hsz v n xs hs B ⟨b,0,none⟩ m c news l r (λj u F=>by simp_all[Addr.add_lit]) h1 q Hx C d H y h
def Lg{P:cg}{bytes:Nat}(E:oi P t e z size bytes)(w:aO){ops:Array Oper}{o:Oper}{a:Act}{K:Act->aO->Prop}{F:Prop}(A:o.guard=none)(s x:Operand)(p:o.op=.call {callee:=.builtin .append,args:=#[s,x],argTypes:=#[t,t]})(base:Nat)(v:Value)(n:Nat)(xs:List Value)(hs:a.eval s=v)(B:w.ownsRow base e size v n xs)(b m c:Nat)(news:List Value)(l:a.eval x=.slice (some ⟨b,0,none⟩) m c)(r:news.length=m*size)(D:∀j u,news[j]?=some u->w.cell? ⟨b,j,none⟩=some u)(h1:∀u∈news,u.oneCell'=true)(q:0<m)(C:(n+m)*bytes<=140737488355328)(J:n+m<=9223372036854775807)(d:base<=w.heap.size)(H:Nat)(y:w.heap.size=H)(h:∀g cap w',w'.ownsRow base e size (.slice (some ⟨g,0,none⟩) (n+m) cap) (n+m) (xs++news)->w.grownBy w' v.ownBlock->(v.ownBlock=some g\/g=H)->g<w'.heap.size->K (a.put o.dst (.slice (some ⟨g,0,none⟩) (n+m) cap)) w'):
 if Region.wanted o (yielded ops a.tmps)=true then Oper.wp P o a w K Q else F:=by
 obtain⟨i,hi,k,hsz,f⟩:=info_parts E.hi;exact step_append_lies w A s x t p base e i z size bytes E.ht hi k hsz f E.HG E.hsz v n xs hs B ⟨b,0,none⟩ m c news l r (λj u I=>by simp_all[Addr.add_lit]) h1 q Hx C d H y h
variable{cap g n:Nat}{xs:List Value}
def Xg{base:Nat}(h:w.ownsRow base e size (.slice (some ⟨g,0,none⟩) n cap) n xs)(k:Nat)(hk:k<=n):w.ownsRow base e size (.slice (some ⟨g,0,none⟩) k cap) k (xs.take (k*size)):=by
 obtain⟨i,f⟩:=h;rcases f with⟨h0,_⟩|⟨g',cap',be,a,d,hg,j,b,hs,ht⟩
 .grind
 .simp at a;obtain⟨rfl,rfl⟩:=a;have c:k*size<=n*size:=Nat.mul_le_mul_right _ hk;refine⟨AA,.inr ⟨g,cap,be,Y,d,hg,As,b,hs,?_⟩⟩;grind
def lJ(l:List (Int×Int)):List Value:=l.flatMap λt=>[.int .i64 t.1,.int .i64 t.2]
theorem ain(l:List (Int×Int))(t:Int×Int):lJ l++[.int .i64 t.1,.int .i64 t.2]=lJ (l++[t]):=by simp[lJ]
theorem Xh(l:List (Int×Int))(i:Nat)(hi:i<l.length):(lJ l)[i*2]?=some (.int .i64 l[i].1)/\(lJ l)[i*2+1]?=some (.int .i64 l[i].2):=by induction l generalizing i with|nil=>grind|cons t r a=>cases i with|zero=>simp[lJ]|succ i=>grind[lJ]
def aio(l:List (Int×Int))(k:Nat):(lJ l).take (k*2)=lJ (l.take k):=by induction k generalizing l with|zero=>simp[lJ]|succ k a=>cases l with|nil=>grind|cons t r=>grind[lJ]
theorem qV{base:Nat}(h:w.ownsRow base e size (.slice (some ⟨g,0,none⟩) n cap) n xs)(j:Nat)(u:Value)(a:xs[j]?=some u):w.cell? ⟨g,j,none⟩=some u:=by have:=h.cells (g:=g) Y j u a;rwa[Addr.add_lit,Nat.zero_add]at this
def eP.ER{base:Nat}{l:List (Int×Int)}(h:w.ownsRow base e 2 v l.length (lJ l))(a:l.length<=9223372036854775807):eP w v l:=by
 have b:=h;rcases b.2 with⟨rfl,h0⟩|⟨g,cap,be,rfl,c⟩
 .grind[a8.nil]
 .refine⟨_,cap,Y,a,λi hi=>⟨g,0,Y,?_,?_⟩⟩
  .simp;grind[qV,Xh]
  .simp;exact qV h _ _ (Xh l i hi).2
def m9{base:Nat}(h:w.ownsRow base e size v n xs):∃a c,v=.slice a n c:=by
 rcases h.2 with⟨rfl,rfl⟩|⟨g,cap,be,rfl,-⟩
 .grind
 grind
def aip{base:Nat}(h:w.ownsRow base e size v n xs)(b:Below B w w')(a:∀g,v.ownBlock=some g->g<B):w'.ownsRow base e size v n xs:=by
 refine⟨h.1,?_⟩;rcases h.2 with hn|⟨g,cap,be,rfl,c,d,rest⟩
 .grind
 .refine .inr ⟨g,cap,be,Y,c,?_,rest⟩;rw[b.block g (a g Y)];grind
def HI{base:Nat}(h:w.ownsRow base e size v n xs)(a:Below w.heap.size w w'):w'.ownsRow base e size v n xs:=
 aip h a (λg hg=>(h.lt g hg).2)
theorem ag.grown{row:Option Nat}(h:ag w b cs T)(hg:w.grownBy w' row)(a:∀g,row=some g->b≠g):ag w' b cs T:=by unfold ag at *;rw[hg.block b (ag.lt h) AA];exact h
def aiq{x y:Value}(h:ag w b #[x,y] T):∀j u,([x,y]:List Value)[j]?=some u->w.cell? ⟨b,j,none⟩=some u:=by intro j u a;rw[h.rules.1 j];grind
def Xi(a b:Int):∀u∈([.int .i64 a,.int .i64 b]:List Value),u.oneCell'=true:=by intro u c;simp at c;rcases c with rfl|rfl<;>rfl
end Go.Proofs.YtncomcmfgmojkaaGreat
