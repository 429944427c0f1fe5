import Derived.Test.YtnomloiacicoaaaGreatPAA
set_option linter.all false
set_option maxRecDepth 100000
set_option maxHeartbeats 16000000
namespace Go.Proofs.YtnomloiacicoaaaGreat
def vaj:=@Go.Conc.Goes.stop
def vbd:=@Go.Conc.stepG_value
def vbe:=@Go.Sem.runT_eq
def vbn:=@Go.Conc.getElem?_append_cases
def vbv:=@Go.Result.andThen_ok
def vco:=@Go.Frame.finish_at
def vdm:=@Go.Calls.mono
def vea:=@Go.Conc.stepG_region_end
def vek:=@Go.Conc.stepG_none
def vel:=@Go.Conc.stepG_seq
def veo:=@Go.Sem.run_bind
def vex:=@Go.Value.slice.injEq
namespace av
inductive dJ{aq aH:Type}(R:aq->aH->Prop):List aq->List aH->Prop
 |nil:dJ R [] []
 |cons {a:aq} {b:aH} {l:List aq} {m:List aH} (h:R a b) (t:dJ R l m):dJ R (a::l) (b::m)
theorem dJ.mono{aq aH:Type}{R S:aq->aH->Prop}(d:∀a b,R a b->S a b){l:List aq}{m:List aH}(h:dJ R l m):dJ S l m:=by induction h with|nil=>exact .nil|cons h _ c=>exact .cons (d _ _ h) c
theorem dJ.append{aq aH:Type}{R:aq->aH->Prop}{l l2:List aq}{m a:List aH}(h:dJ R l m)(k:dJ R l2 a):dJ R (l++l2) (m++a):=by induction h with|nil=>exact k|cons h _ b=>exact .cons h b
theorem dJ.length{aq aH:Type}{R:aq->aH->Prop}{l:List aq}{m:List aH}(h:dJ R l m):l.length=m.length:=by induction h with|nil=>rfl|cons _ _ a=>grind
def dJ.Ce{ρ a a'}(h:aJ ρ a a'):dJ (au ρ) a.toList a'.toList:=by obtain⟨l⟩:=a;obtain⟨m⟩:=a';simp only;induction l generalizing m with|nil=>have:=h.size;simp at this;have:m=[]:=List.length_eq_zero_iff.1 this.symm;subst this;exact .nil|cons x l c=>cases m with|nil=>have:=h.size;grind|cons y m=>refine .cons (h.get 0 x y AS AS) (c m ⟨by have:=h.size;grind,λi v v' a b=>h.get (i+1) v v' AA AA⟩)
def aJ.My{ρ:Ren}{l m:uai}(h:dJ (au ρ) l m):aJ ρ l.toArray m.toArray:=by induction h with|nil=>exact .nil ρ|@cons a b l m h _ c=>have e:∀(x:Value)(l:uai),(x::l).toArray=#[x]++l.toArray:=λx l=>AS;grind[aJ.one,append]
def RI:Builtin->Bool
 | .append| .cap| .copy| .len=>true
 | _=>false
inductive xb(ρ:Ren):Target->Target->Prop
 |fn {f f':Fn} {c c':dX} (h:ud ρ f f') (k:aJ ρ c c'):xb ρ (.fn f c) (.fn f' c')
 |nil:xb ρ .nil .nil
 |builtin (b:Builtin) (ats:uaq) (t:uaa) (cs:uap) (hb:RI b=true):xb ρ (.builtin b ats t cs) (.builtin b ats t cs)
 |collected {r r':Nat} (h:ρ.rel r r'):xb ρ (.collected r) (.collected r')
structure Cf(ρ:Ren)(d d':Deferred):Prop where
 target:xb ρ d.target d'.target
 args:aJ ρ d.args d'.args
theorem xb.mono{ρ σ}(c:Ren.le ρ σ){a a'}(h:xb ρ a a'):xb σ a a':=by cases h with|fn h k=>exact .fn (h.mono c) (k.mono c)|nil=>exact .nil|builtin b ats t cs d=>exact .builtin b ats t cs d|collected h=>exact .collected (c.1 _ _ h)
theorem Cf.mono{ρ σ}(b:Ren.le ρ σ){a a'}(h:Cf ρ a a'):Cf σ a a':=⟨h.target.mono b,h.args.mono b⟩
abbrev qV(ρ:Ren):List Deferred->List Deferred->Prop:=dJ (Cf ρ)
theorem qV.mono{ρ σ}(b:Ren.le ρ σ){a a'}(h:qV ρ a a'):qV σ a a':=dJ.mono (λ_ _ x=>x.mono b) h
structure AC(ρ:Ren)(e e':MapEntry):Prop where
 key:au ρ e.key e'.key
 val:au ρ e.val e'.val
 born:e.born=e'.born
theorem AC.mono{ρ σ}(b:Ren.le ρ σ){a a'}(h:AC ρ a a'):AC σ a a':=⟨h.key.mono b,h.val.mono b,h.born⟩
def xc(fr:ubr)(i:Nat):Prop:=fr.1<=i/\i<fr.2
def Mz:Obj->Prop
 | .map .. | .stringIter .. | .mapIter .. | .loop _ | .deferred _ | .coro _ | .finalizers .. =>True
 | _=>False
structure cM where
 P:cE
 Q:cE
 ew:Code->Prop
 upd:Bool
structure IU(C:cM)(ρ:Ren)(l l':Loop):Prop where
 state:l.state=l'.state
 pending:l.pending=l'.pending
 MA:∀c,l.pending=some c->C.ew c
 fn:l.fn=l'.fn
 known:∃fn c,C.P.funcs[l.fn]?=some fn/\fn.body=some c
 tmps:aJ ρ l.tmps l'.tmps
 params:l.params=l'.params
 assign:l.assign=l'.assign
 IV:C.ew l.assign
 body:l.body=l'.body
 IW:C.ew l.body
 defers:ρ.rel l.defers l'.defers
theorem IU.mono{C ρ σ}(b:Ren.le ρ σ){a a'}(h:IU C ρ a a'):IU C σ a a':=
 ⟨h.state,h.pending,h.MA,h.fn,h.known,h.tmps.mono b,h.params,h.assign,h.IV,h.body,h.IW,b.1 _ _ h.defers⟩
inductive hU(C:cM)(ρ:Ren):Obj->Obj->Prop
 |cells {c c':dX} (elem:uaa) {fr bD:ubr} (h:aJ ρ c c') (hf:(∀i,xc bD i->xc fr i)/\(C.upd=true->bD=fr)):hU C ρ (.cells c elem fr) (.cells c' elem bD)
 |map {es es':Array MapEntry} (clock:Nat) (h:dJ (AC ρ) es.toList es'.toList):hU C ρ (.map es clock) (.map es' clock)
 |stringIter (s:ByteArray) (p:Nat):hU C ρ (.stringIter s p) (.stringIter s p)
 |Cg (since:Nat) (seen:Array Nat) (st:Nat):hU C ρ (.mapIter none since seen st) (.mapIter none since seen st)
 |mapIter {m m':Nat} (h:ρ.rel m m') (since:Nat) (seen:Array Nat) (st:Nat):hU C ρ (.mapIter (some m) since seen st) (.mapIter (some m') since seen st)
 |loop {l l':Loop} (h:IU C ρ l l'):hU C ρ (.loop l) (.loop l')
 |deferred {l l':List Deferred} (h:qV ρ l l'):hU C ρ (.deferred (some l)) (.deferred (some l'))
 |taken:hU C ρ (.deferred none) (.deferred none)
 |number {a a':Addr} (h:dR ρ a a') (lost:Bool):hU C ρ (.number a lost) (.number a' lost)
 |shut {o':Obj} (h:Mz o'):hU C ρ (.coro none) o'
theorem hU.mono{C ρ σ}(d:Ren.le ρ σ){a a'}(h:hU C ρ a a'):hU C σ a a':=by cases h with|cells e h f=>exact .cells e (h.mono d) f|map c h=>exact .map c (dJ.mono (λ_ _ x=>x.mono d) h)|stringIter s p=>exact .stringIter s p|Cg a b c=>exact .Cg a b c|mapIter h a b c=>exact .mapIter (d.1 _ _ h) a b c|loop h=>exact .loop (h.mono d)|deferred h=>exact .deferred (h.mono d)|taken=>exact .taken|number h l=>exact .number (h.mono d) l|shut h=>exact .shut h
structure Sync where
 a:Nat
 b:Nat
 bound:Nat
 T:Nat->Question->Nat
inductive Gb:Obj->Prop
 |coro:Gb (.coro none)
 |number (a:Addr) (l:Bool):Gb (.number a l)
structure e_(C:cM)(S:Sync)(ρ:Ren)(w w':aR):Prop where
 obj:∀b b',ρ.rel b b'->∃o o',w.heap[b]?=some o/\w'.heap[b']?=some o'/\hU C ρ o o'
 one:∀a b b',ρ.rel a b->ρ.rel a b'->b=b'
 inj:∀a a' b,ρ.rel a b->ρ.rel a' b->a=a'
 oL:∀g,g<=C.P.globals.size->ρ.rel g g
 sync:w.drawn+S.b=w'.drawn+S.a
 tape:∀j q,w'.drawn+j<S.bound->w.tape (w.drawn+j) q=w'.tape (w'.drawn+j) q
 env:w.os.env=w'.os.env
 lone:w.tape=S.T
 still:∀b b',ρ.rel b b'->¬ρ.mine b'->(C.upd=false/\∃c e fr,w.heap[b]?=some (.cells c e fr)/\∀i,i<c.size->xc fr i)\/∃o,w.heap[b]?=some o/\Gb o
def Ch(ρ:Ren)(e:Event):Prop:=
 match e.loc with
 | .cell a=>(∃b,ρ.rel b a.block)/\(e.write=true->ρ.mine a.block)/\e.sync=false
 | .obj r=>(∃b,ρ.rel b r)/\(e.write=true->ρ.mine r)/\e.sync=false
 | .mark .noRoom| .mark (.extern _)| .output=>True
 | _=>False
theorem Ch.mono{ρ σ}(b:Ren.le ρ σ){e}(h:Ch ρ e):Ch σ e:=by obtain⟨l,wr,c⟩:=e;unfold Ch at h⊢;cases l with|cell a=>exact⟨h.1.imp λ_ x=>b.1 _ _ x,λx=>b.2 _ (h.2.1 x),h.2.2⟩|obj a=>exact⟨h.1.imp λ_ x=>b.1 _ _ x,λx=>b.2 _ (h.2.1 x),h.2.2⟩|mark m=>grind|output=>exact h|goroutines=>exact h
structure Grow(ρ σ:Ren)(w' pn:aR):Prop where
 le:Ren.le ρ σ
 back:∀b,σ.mine b->ρ.mine b\/w'.heap.size<=b
 size:w'.heap.size<=pn.heap.size
 low:∀b,σ.mine b->ρ.mine b\/b<pn.heap.size
 old:∀a b,σ.rel a b->ρ.rel a b\/w'.heap.size<=b
 kept:∀b,b<w'.heap.size->¬ρ.mine b->pn.heap[b]?=w'.heap[b]?
 os:pn.os=w'.os
 output:pn.output=w'.output
 tape:pn.tape=w'.tape
 drawn:w'.drawn<=pn.drawn
theorem Grow.refl ρ w:Grow ρ ρ w w:=⟨Ren.le_refl _,λ_ h=>.inl h,vac _,λ_ h=>.inl h,λ_ _ h=>.inl h,λ_ _ _=>Y,Y,Y,Y,vac _⟩
theorem Grow.trans{ρ σ f w w1 d}(h:Grow ρ σ w w1)(k:Grow σ f w1 d):Grow ρ f w d:=
 ⟨Ren.le_trans h.le k.le,λb x=>(k.back b x).elim (λy=>h.back b y) (λy=>.inr (vad h.size y)),vad h.size k.size,
  λb x=>(k.low b x).elim (λy=>(h.low b y).imp id λz=>vak z k.size) .inr,
  λa b x=>(k.old a b x).elim (λy=>h.old a b y) (λy=>.inr (vad h.size y)),
  λb c e=>by rw[k.kept b (vak c h.size) (λy=>(h.back b y).elim e (λz=>absurd c (Nat.not_lt.2 z)))];exact h.kept b c e,
  k.os.trans h.os,k.output.trans h.output,k.tape.trans h.tape,vad h.drawn k.drawn⟩
inductive Ci{aq aH:Type}(C:cM)(S:Sync)(ρ:Ren)(R:Ren->aq->aH->Prop):Result aq->Result aH->aR->Prop
 |ok {a:aq} {b:aH} {w w':aR} (h:R ρ a b) (hw:e_ C S ρ w w'):Ci C S ρ R (.ok a w) (.ok b w') w'
 |panic {v v':Value} {w w':aR} (h:au ρ v v') (hw:e_ C S ρ w w'):Ci C S ρ R (.halt (.panic v) w) (.halt (.panic v') w') w'
 |goexit {w w':aR} (hw:e_ C S ρ w w'):Ci C S ρ R (.halt .goexit w) (.halt .goexit w') w'
def Good{aq:Type}:Result aq->Prop
 | .ok _ _=>True
 | .halt (.panic _) _ | .halt .goexit _ | .halt (.unsupported (.initOrder _)) _=>True
 | _=>False
def al{aq aH:Type}(C:cM)(ρ:Ren)(R:Ren->aq->aH->Prop)(m:Sem aq)(m':Sem aH):Prop:=
 ∀(S:Sync)(w w':aR),e_ C S ρ w w'->Good (m.run C.P w)->(oK (m'.run C.Q w')).drawn<=S.bound->
  ∃(σ:Ren)(w1:aR),Ci C S σ R (m.run C.P w) (m'.run C.Q w') w1/\Grow ρ σ w' w1/\
   ∀es,∃d,m'.events C.Q w' es=es++d/\∀e∈d,Ch σ e
def p_{aq aH:Type}(R:Ren->aq->aH->Prop):Prop:=∀ρ σ a b,Ren.le ρ σ->R ρ a b->R σ a b
variable{v v':Value}
section
variable{aq aH γ IX:Type}{C:cM}{ρ:Ren}
theorem al.pure{R:Ren->aq->aH->Prop}{a:aq}{b:aH}(h:R ρ a b):al C ρ R (Pure.pure a) (Pure.pure b):=by intro S w w' c _ _;exact⟨ρ,w',.ok h c,.refl _ _,λes=>⟨#[],by simp[Sem.events,Pure.pure,Sem.runT],AS⟩⟩
def m9(m:Sem aq)(f:aq->Sem aH)(P:cE)(w:aR):(m>>= f).run P w=match m.run P w with| .ok a w1=>(f a).run P w1| .halt h w1=>.halt h w1:=by
 show(m.bind f).run P w=_;induction m generalizing w with
 |pure a=>rfl
 |load md a k b=>grind[Sem.bind,Sem.run]
 |store md a v k b=>
  cases v with
  |agg c=>rfl
  |tuple c=>rfl
  | _=>
   simp only[Sem.bind,Sem.run];cases w.cell? a with
   |some v=>
    simp only[];split
    .rfl
    .exact b _
   |none=>
    simp only[];split
    .exact b _
    .rfl
 |new o k b=>exact b _ _
 |shape r k b=>exact b _ _
 |freeze a n k b=>exact b _
 |frozen a k b=>exact b _ _
 |getObj r k b=>grind[Sem.bind,Sem.run]
 |setObj r o k b=>grind[Sem.bind,Sem.run]
 |choose q k b=>grind[Sem.bind,Sem.run]
 |sys c k b=>exact b _ _
 |program k b=>exact b _ _
 |mark m k b=>exact b _
 |halt h=>rfl
theorem RJ(m:Sem aq)(f:aq->Sem aH)(P:cE)(w:aR)(es:uat):(m>>= f).events P w es=match m.run P w with| .ok a w1=>(f a).events P w1 (m.events P w es)| .halt _ _=>m.events P w es:=by
 show(m.bind f).events P w es=_;unfold Sem.events;induction m generalizing w es with
 |pure a=>rfl
 |load md a k b=>grind[Sem.bind,Sem.run,Sem.runT]
 |store md a v k b=>
  cases v with
  |agg c=>rfl
  |tuple c=>rfl
  | _=>
   simp only[Sem.bind,Sem.run,Sem.runT];cases w.cell? a with
   |some v=>
    simp only[];by_cases d:w.frozen? a=true
    .simp only[d,vcx]
    .simp only[d];exact b _ _
   |none=>simp only[];cases e:w.farStore P a _ (md== .atomic)with|ok r=>exact b _ _|error h=>rfl
 |new o k b=>exact b _ _ _
 |shape r k b=>exact b _ _ _
 |freeze a n k b=>exact b _ _
 |frozen a k b=>exact b _ _ _
 |getObj r k b=>grind[Sem.bind,Sem.run,Sem.runT]
 |setObj r o k b=>grind[Sem.bind,Sem.run,Sem.runT]
 |choose q k b=>simp only[Sem.bind,Sem.run,Sem.runT];grind
 |sys c k b=>exact b _ _ _
 |program k b=>exact b _ _ _
 |mark m k b=>exact b _ _
 |halt h=>rfl
theorem al.bind{R:Ren->aq->aH->Prop}{S:Ren->γ->IX->Prop}{m:Sem aq}{i:Sem aH}{f:aq->Sem γ}{f':aH->Sem IX}(h:al C ρ R m i)(k:∀σ a b,Ren.le ρ σ->R σ a b->al C σ S (f a) (f' b)):al C ρ S (m>>= f) (i>>= f'):=by
 intro S w w' A hg g;rw[m9]at hg⊢;have H:(oK (i.run C.Q w')).drawn<=S.bound:=by rw[m9]at g;cases d:i.run C.Q w' with|ok b j=>rw[d]at g;exact vad (Ga C.Q (f' b) j).1 g|halt x j=>rw[d]at g;exact g
 have r:Good (m.run C.P w):=by
  cases n:m.run C.P w with
  |ok a w1=>trivial
  |halt x w1=>
   rw[n]at hg;cases x with
   |unsupported u=>cases u<;>first|exact hg|trivial
   | _=>first|exact hg|trivial
 obtain⟨σ,w1,c,o,E⟩:=h S w w' A r H;rw[m9]at g⊢;cases n:m.run C.P w with
 |ok a t=>
  rw[n]at c hg;cases d:i.run C.Q w' with
  |ok b j=>
   rw[d]at c g;cases c with
   |ok p l=>
    obtain⟨F,v,z,s,q⟩:=k σ a b o.le p S t _ l hg g;refine⟨F,v,z,o.trans s,λes=>?_⟩;obtain⟨d1,e1,aZ⟩:=E es;obtain⟨D,e2,a3⟩:=q (i.events C.Q w' es);refine⟨d1++D,?_,λe B=>?_⟩
    .grind[RJ]
    .rcases vei.1 B with x|x
     .exact(aZ e x).mono s.le
     grind
  |halt x j=>rw[d]at c;cases c
 |halt x t=>rw[n]at c;cases d:i.run C.Q w' with|ok b j=>rw[d]at c;cases c|halt y j=>rw[d]at c;cases c with|panic p l=>refine⟨σ,_,.panic p l,o,λes=>?_⟩;simp_all[RJ]|goexit l=>refine⟨σ,_,.goexit l,o,λes=>?_⟩;simp_all[RJ]
theorem al.mono{R S:Ren->aq->aH->Prop}{m:Sem aq}{d:Sem aH}(h:al C ρ R m d)(k:∀σ a b,Ren.le ρ σ->R σ a b->S σ a b):al C ρ S m d:=by intro S w w' c hg i;obtain⟨σ,w1,f,g,j⟩:=h S w w' c hg i;refine⟨σ,w1,?_,g,j⟩;generalize m.run C.P w=r at f;generalize d.run C.Q w'=r' at f;cases f with|ok e c=>exact .ok (k _ _ _ g.le e) c|panic e c=>exact .panic e c|goexit c=>exact .goexit c
def al.ite{R:Ren->aq->aH->Prop}{c}[Decidable c]{a b:Sem aq}{a' b':Sem aH}(h:c->al C ρ R a a')(k:¬c->al C ρ R b b'):al C ρ R (if c then a else b) (if c then a' else b'):=by grind
theorem al.none{R:Ren->aq->aH->Prop}{m:Sem aq}{a:Sem aH}(h:∀w,¬Good (m.run C.P w)):al C ρ R m a:=λ_ w _ _ hg _=>absurd hg (h w)
theorem al.stuck{R:Ren->aq->aH->Prop}{s}{a:Sem aH}:al C ρ R (Go.stuck s) a:=.none λ_ h=>h
theorem al.unsupported{R:Ren->aq->aH->Prop}{u}{a:Sem aH}(b:∀g,u≠ .initOrder g:=by intro g h;cases h):al C ρ R (Go.unsupported u) a:=.none λ_ h=>by cases u with|initOrder g=>grind| _=>exact h
theorem al.throw{R:Ren->aq->aH->Prop}{s}{a:Sem aH}:al C ρ R (Go.throw s) a:=.none λ_ h=>h
theorem al.goPanic{R:Ren->aq->aH->Prop}(h:au ρ v v'):al C ρ R (Go.goPanic v) (Go.goPanic v'):=by intro S w w' a _ _;exact⟨ρ,w',.panic h a,.refl _ _,λes=>⟨#[],by simp[Sem.events,Go.goPanic,Sem.runT],AS⟩⟩
end
variable{a a':Addr}{r r':Nat}{c:dX}{o o':Obj}
section
attribute [-simp] Sem.runT_eq
section
variable{C:cM}{S:Sync}{ρ:Ren}{w w':aR}
def e_.lt(h:e_ C S ρ w w'){a b}(r:ρ.rel a b):a<w.heap.size/\b<w'.heap.size:=by obtain⟨o,o',h1,h2,_⟩:=h.obj a b r;grind
theorem e_.cells(h:e_ C S ρ w w'){a b:Nat}(r:ρ.rel a b){c:dX}{e:uaa}{fr:ubr}(f:w.heap[a]?=some (.cells c e fr)):
 ∃c' d,w'.heap[b]?=some (.cells c' e d)/\aJ ρ c c'/\∀i,xc d i->xc fr i:=by
 obtain⟨o,o',h1,h2,h3⟩:=h.obj a b r;rw[f]at h1;cases h1;cases h3 with|cells e g hF=>exact⟨_,_,h2,g,hF.1⟩
def e_.other(h:e_ C S ρ w w'){a b}(r:ρ.rel a b)(f:∀c e fr,w.heap[a]?≠some (.cells c e fr)):
 ∃o o',w.heap[a]?=some o/\w'.heap[b]?=some o'/\hU C ρ o o'/\(∀c e fr,o'≠ .cells c e fr)/\(∀x t,o'≠ .view x t)/\(∀x t,o'≠ .pending x t)/\o'.isChan=false:=by
 obtain⟨o,o',h1,h2,h3⟩:=h.obj a b r;refine⟨o,o',h1,h2,h3,?_⟩;cases h3 with
 |cells e g hF=>grind
 |shut d=>cases o'<;>first|exact d.elim|exact⟨AS,AS,AS,Y⟩
 | _=>exact⟨AS,AS,AS,Y⟩
theorem xd{w:aR}(h:w.cell? a=some v):∃c e fr,w.heap[a.block]?=some (.cells c e fr)/\a.spot=none/\c[a.off]?=some v:=by
 unfold World.cell? at h;split at h
 .simp_all
 grind
theorem n2{w:aR}{e:uaa}{fr:ubr}(h:w.heap[a.block]?=some (.cells c e fr))(hs:a.spot=none)(hv:c[a.off]?=some v):w.cell? a=some v:=by grind[World.cell?]
theorem e_.cell(h:e_ C S ρ w w')(r:dR ρ a a')(hv:w.cell? a=some v):∃v',w'.cell? a'=some v'/\au ρ v v':=by obtain⟨c,e,fr,h1,h2,h3⟩:=xd hv;obtain⟨c',i,f,d,_⟩:=h.cells r.1 h1;obtain⟨v',b,g⟩:=d.some h3;exact⟨v',n2 f (r.2.2▸h2) (r.2.1▸b),g⟩
def ajr{aq:Type}(h:e_ C S ρ w w')(r:dR ρ a a')(hn:w.cell? a=none)m(k:Value->Sem aq):¬Good ((Sem.load m a k).run C.P w):=by
 simp only[Sem.run,hn];obtain⟨o,o',h1,h2,h3⟩:=h.obj _ _ r.1;have:w.farLoad C.P a (m== .atomic)=.error (w.noCell a "load: no such cell"):=by unfold World.farLoad;rw[h1];cases h3<;>rfl
 rw[this];simp only[World.noCell,h1];cases h3<;>exact id
theorem al.load(r:dR ρ a a'):al C ρ au (Go.load a) (Go.load a'):=by
 intro S w w' b hg _;cases d:w.cell? a with
 |none=>exact absurd hg (ajr b r d _ _)
 |some v=>
  obtain⟨v',c,g⟩:=b.cell r d;refine⟨ρ,w',?_,.refl _ _,λes=>⟨#[⟨.cell a',false,false⟩],?_,?_⟩⟩
  .simp only[Go.load,Sem.run,d,c];exact .ok g b
  .grind[Sem.events,Go.load,Sem.runT]
  .intro e f;simp at f;subst f;exact⟨⟨_,r.1⟩,AS,Y⟩
theorem e_.setCell(h:e_ C S ρ w w')(r:dR ρ a a')(hv:au ρ v v')(j:ρ.mine a'.block):e_ C S ρ (w.setCell a v) (w'.setCell a' v'):=by
 have get:∀(w:aR)(a:Addr)(v:Value)(b:Nat),(w.setCell a v).heap[b]?=(w.heap[b]?).map (λo=>if a.block=b then(match o with| .cells c e f=>.cells (if a.spot.isSome then c else c.setIfInBounds a.off v) e f|o=>o)else o):=by grind[World.setCell]
 refine⟨λb b' d=>?_,h.one,h.inj,h.oL,h.sync,h.tape,h.env,h.lone,λb b' d hn=>?_⟩
 .obtain⟨o,o',h1,h2,h3⟩:=h.obj b b' d;rw[get,get,h1,h2];simp only[vcy];refine⟨_,_,Y,Y,?_⟩;by_cases e:a.block=b
  .subst e;have i:a'.block=b':=h.one _ _ _ r.1 d;subst i;simp only[vcx];cases h3 with
   |cells el g hF=>
    simp only[r.2.2,r.2.1];by_cases hs:a'.spot.isSome=true
    .simp only[hs,vcx];exact .cells el g hF
    .simp only[hs];exact .cells el (g.set hv _) hF
   |map c h=>exact .map c h
   |stringIter s p=>exact .stringIter s p
   |Cg a b c=>exact .Cg a b c
   |mapIter h a b c=>exact .mapIter h a b c
   |loop h=>exact .loop h
   |deferred h=>exact .deferred h
   |taken=>exact .taken
   |number h l=>exact .number h l
   |shut h=>cases o'<;>first|exact h.elim|exact .shut trivial
  .have i:a'.block≠b':=λx=>e (h.inj _ _ _ (x▸r.1) d);grind
 .have e:a.block≠b:=λx=>hn (h.one _ _ _ r.1 (x▸d)▸j);rw[get];rcases h.still b b' d hn with⟨k,c,el,fr,h1,h2⟩|⟨o,h1,hd⟩
  .grind
  grind
def au.ajs(h:au ρ v v'):((∃c,v=.agg c)\/∃c,v=.tuple c)\/((∀c,v≠ .agg c)/\(∀c,v≠ .tuple c)/\(∀c,v'≠ .agg c)/\(∀c,v'≠ .tuple c)):=by cases h with|agg=>grind|tuple=>grind| _=>exact .inr ⟨AS,AS,AS,AS⟩
def run_store{aq:Type}{P:cE}{md:Mode}{k:Sem aq}(h1:∀c,v≠ .agg c)(h2:∀c,v≠ .tuple c){x:Value}(d:w.cell? a=some x)(b:w.frozen? a=false):
 (Sem.store md a v k).run P w=k.run P (w.setCell a v):=by
 simp_all[Sem.run]
theorem events_store{aq:Type}{P:cE}{md:Mode}{k:Sem aq}(h1:∀c,v≠ .agg c)(h2:∀c,v≠ .tuple c){x:Value}(d:w.cell? a=some x)(b:w.frozen? a=false)(es:uat):
 (Sem.store md a v k).events P w es=k.events P (w.setCell a v) (es.push ⟨.cell a,true,md== .atomic⟩):=by
 simp_all[Sem.events,Sem.runT]
theorem al.store(r:dR ρ a a')(hv:au ρ v v'):al C ρ (λ_(_ _:Unit)=>True) (Go.store a v) (Go.store a' v'):=by
 intro S w w' d hg _;rcases hv.ajs with(⟨c,rfl⟩|⟨c,rfl⟩)|⟨n1,ik,nE,qb⟩
 .exact hg.elim
 .exact hg.elim
 cases g:w.cell? a with
 |none=>
  exfalso;obtain⟨o,o',h1,h2,h3⟩:=d.obj _ _ r.1;have t:∀v,w.farStore C.P a v (Mode.plain== .atomic)=.error (w.noCell a "store: no such cell"):=by intro v;unfold World.farStore;rw[h1];cases h3<;>rfl
  have:(Go.store a v).run C.P w=.halt (w.noCell a "store: no such cell") w:=by simp_all[Go.store,Sem.run]
  rw[this]at hg;simp only[World.noCell,h1]at hg;cases h3<;>exact hg
 |some x=>
  obtain⟨x',m,_⟩:=d.cell r g;obtain⟨c,e,fr,i,D,B⟩:=xd g;have s:a.off<c.size:=AA;cases n:w.frozen? a with
  |true=>
   exfalso;have:(Go.store a v).run C.P w=.halt (.unsupported (.unsafePointer "a write to bytes that a string shares")) w:=by simp_all[Go.store,Sem.run]
   rw[this]at hg;exact hg
  |false=>
   have u:¬xc fr a.off:=by intro⟨y,z⟩;grind[World.frozen?]
   obtain⟨c',p,aZ,a3,q3⟩:=d.cells r.1 i;have l:w'.frozen? a'=false:=by unfold World.frozen?;rw[aZ];have:¬xc p a'.off:=λy=>u (r.2.1▸q3 _ y);grind[xc]
   have j:ρ.mine a'.block:=by
    apply vaz;intro hn;rcases d.still _ _ r.1 hn with⟨_,bt,e2,q,f,A⟩|⟨o,f,hd⟩
    .grind
    .rw[i]at f;cases f;cases hd
   refine⟨ρ,w'.setCell a' v',?_,?_,λes=>⟨#[⟨.cell a',true,false⟩],?_,?_⟩⟩
   .show Ci C S ρ _ ((Go.store a v).run C.P w) ((Go.store a' v').run C.Q w') _;rw[Go.store,Go.store,run_store n1 ik g n,run_store nE qb m l];exact .ok trivial (d.setCell r hv j)
   .refine⟨Ren.le_refl _,λ_ h=>.inl h,by simp[World.setCell],λ_ h=>.inl h,λ_ _ h=>.inl h,λb E hn=>?_,Y,Y,Y,vac _⟩;grind[World.setCell]
   .grind[Go.store,events_store,Sem.events,Sem.runT]
   .intro e k;simp at k;subst k;exact⟨⟨_,r.1⟩,λ_=>j,Y⟩
def Ren.new(ρ:Ren)(n n':Nat):Ren:={rel:=λa b=>ρ.rel a b\/(a=n/\b=n'),mine:=λb=>ρ.mine b\/b=n'}
def Ren.Yt ρ n a:Ren.le ρ (ρ.new n a):=⟨λ_ _ h=>.inl h,λ_ h=>.inl h⟩
theorem e_.alloc(h:e_ C S ρ w w')(l:hU C ρ o o'):e_ C S (ρ.new w.heap.size w'.heap.size) {w with heap:=w.heap.push o} {w' with heap:=w'.heap.push o'}:=by
 have f:=Ren.Yt ρ w.heap.size w'.heap.size;refine⟨λb b' c=>?_,λa b b' x y=>?_,λa a' b x y=>?_,λg hg=>.inl (h.oL g hg),h.sync,h.tape,h.env,h.lone,λb b' c hn=>?_⟩
 .rcases c with c|⟨rfl,rfl⟩
  .obtain⟨p,i,h1,h2,h3⟩:=h.obj b b' c;have d:=h.lt c;exact⟨p,i,AA,AA,h3.mono f⟩
  .exact⟨o,o',AS,AS,l.mono f⟩
 .rcases x with x|⟨rfl,rfl⟩<;>rcases y with y|⟨k,j⟩
  .exact h.one _ _ _ x y
  .have:=(h.lt x).1;omega
  .have:=(h.lt y).1;omega
  grind
 .rcases x with x|⟨rfl,rfl⟩<;>rcases y with y|⟨k,j⟩
  .exact h.inj _ _ _ x y
  .have:=(h.lt x).2;omega
  .have:=(h.lt y).2;omega
  grind
 .rcases c with c|⟨rfl,rfl⟩
  .have d:=h.lt c;have e:({w with heap:=w.heap.push o}:aR).heap[b]?=w.heap[b]?:=AA;rw[e];exact h.still b b' c λx=>hn (.inl x)
  .exact absurd Jz hn
theorem al.new(f:hU C ρ o o'):al C ρ (λσ n d=>σ.rel n d/\σ.mine d) (Go.newObj o) (Go.newObj o'):=by intro S w w' e _ _;refine⟨ρ.new w.heap.size w'.heap.size,{w' with heap:=w'.heap.push o'},.ok ⟨.inr ⟨Y,Y⟩,.inr Y⟩ (e.alloc f),?_,λes=>⟨#[],by simp[Sem.events,Go.newObj,Sem.runT],AS⟩⟩;refine⟨Ren.Yt _ _ _,λb c=>c.imp id (λx=>AQ),AS,λb c=>c.imp id (λx=>AA),λa b c=>c.imp id (λx=>AQ),λb c _=>?_,Y,Y,Y,vac _⟩;grind
theorem al.shape(h:ρ.rel r r'):al C ρ (λ_ s s'=>s=s') (Go.shape r) (Go.shape r'):=by
 intro S w w' a _ _;refine⟨ρ,w',?_,.refl _ _,λes=>⟨#[],by simp[Sem.events,Go.shape,Sem.runT],AS⟩⟩;refine .ok ?_ a;obtain⟨o,o',h1,h2,h3⟩:=a.obj r r' h;unfold World.shape?;rw[h1,h2];cases h3 with
 |cells e c hF=>simp[c.size]
 |shut b=>cases o'<;>first|exact b.elim|rfl
 | _=>rfl
def ajt(C:cM)(r':Nat)(ρ:Ren)(o o':Obj):Prop:=hU C ρ o o'/\(∀c e fr,o≠ .cells c e fr)/\(ρ.mine r'\/Gb o)
theorem al.getObj(h:ρ.rel r r'):al C ρ (ajt C r') (Go.getObj r) (Go.getObj r'):=by
 intro S w w' a hg _;have d:∀c e fr,w.heap[r]?≠some (.cells c e fr):=by grind[Go.getObj,Sem.run,Good]
 obtain⟨o,o',h1,h2,h3,n1,ik,qb,i⟩:=a.other h d;have e1:(Go.getObj r).run C.P w=.ok o w:=by grind[Go.getObj,Sem.run]
 have e2:(Go.getObj r').run C.Q w'=.ok o' w':=by simp_all[Go.getObj,Sem.run]
 refine⟨ρ,w',?_,.refl _ _,λes=>⟨#[⟨.obj r',false,false⟩],?_,?_⟩⟩
 .rw[e1,e2];refine .ok ⟨h3,λc e fr x=>d c e fr AA,?_⟩ a;by_cases g:ρ.mine r'
  .grind
  .rcases a.still _ _ h g with⟨_,c,e,fr,f,_⟩|⟨o,f,hd⟩
   .grind
   grind
 .simp_all[Sem.events,Go.getObj,Sem.runT]
 .intro e b;simp at b;subst b;exact⟨⟨_,h⟩,AS,Y⟩
theorem al.setObj(h:ρ.rel r r')(g:ρ.mine r')(k:hU C ρ o o')(hn:∀c e fr,o≠ .cells c e fr):al C ρ (λ_(_ _:Unit)=>True) (Go.setObj r o) (Go.setObj r' o'):=by
 intro S w w' a hg _;have n:∀c e fr,w.heap[r]?≠some (.cells c e fr):=by grind[Go.setObj,Sem.run,Good]
 obtain⟨p,q,h1,h2,h3,n1,ik,qb,_⟩:=a.other h n;have l:=a.lt h;have e1:(Go.setObj r o).run C.P w=.ok () {w with heap:=w.heap.setIfInBounds r o}:=by grind[Go.setObj,Sem.run]
 have e2:(Go.setObj r' o').run C.Q w'=.ok () {w' with heap:=w'.heap.setIfInBounds r' o'}:=by simp_all[Go.setObj,Sem.run]
 have m:o'.isChan=false:=by
  cases k with
  |shut x=>cases o'<;>first|exact x.elim|rfl
  | _=>rfl
 refine⟨ρ,{w' with heap:=w'.heap.setIfInBounds r' o'},?_,?_,λes=>⟨#[⟨.obj r',true,false⟩],?_,?_⟩⟩
 .rw[e1,e2];refine .ok trivial ⟨λb b' d=>?_,a.one,a.inj,a.oL,a.sync,a.tape,a.env,a.lone,λb b' d f=>?_⟩
  .simp only[vam];by_cases e:r=b
   .subst e;have j:r'=b':=a.one _ _ _ h d;grind
   .have j:r'≠b':=λx=>e (a.inj _ _ _ (x▸h) d);rw[vby e,vby j];exact a.obj b b' d
  .have e:r≠b:=λx=>f (a.one _ _ _ h (x▸d)▸g);simp only[vam,vby e];exact a.still b b' d f
 .refine⟨Ren.le_refl _,λ_ h=>.inl h,AS,λ_ h=>.inl h,λ_ _ h=>.inl h,λb d f=>?_,Y,Y,Y,vac _⟩;grind
 .simp_all[Sem.events,Go.setObj,Sem.runT]
 .intro e i;simp at i;subst i;exact⟨⟨_,h⟩,λ_=>g,Y⟩
theorem al.choose q:al C ρ (λ_ a b=>a=b) (Go.choose q) (Go.choose q):=by
 intro S w w' c _ f;by_cases d:q.forced=true
 .refine⟨ρ,w',?_,.refl _ _,λes=>⟨#[],by simp[Sem.events,Go.choose,Sem.runT,d],AS⟩⟩;simp only[Go.choose,Sem.run,d,vcx];exact .ok Y c
 .refine⟨ρ,{w' with drawn:=w'.drawn+1},?_,?_,λes=>⟨#[],by simp[Sem.events,Go.choose,Sem.runT,d],AS⟩⟩
  .simp only[Go.choose,Sem.run,d,oK]at f⊢;refine .ok ?_ ⟨c.obj,c.one,c.inj,c.oL,?_,λj q g=>?_,c.env,c.lone,c.still⟩
   .have:=c.tape 0 q AA;grind
   .have:=c.sync;grind
   .have e:w'.drawn+(j+1)<S.bound:=by grind
    have:=c.tape (j+1) q e;grind
  .exact⟨Ren.le_refl _,λ_ h=>.inl h,vac _,λ_ h=>.inl h,λ_ _ h=>.inl h,λ_ _ _=>Y,Y,Y,Y,vct _⟩
theorem al.program:al C ρ (λ_ p q=>p=C.P/\q=C.Q) Go.program Go.program:=by intro S w w' a _ _;exact⟨ρ,w',.ok ⟨Y,Y⟩ a,.refl _ _,λes=>⟨#[],by simp[Sem.events,Go.program,Sem.runT],AS⟩⟩
theorem al.noRoom:al C ρ (λ_(_ _:Unit)=>True) (Go.mark .noRoom) (Go.mark .noRoom):=by intro S w w' b _ _;refine⟨ρ,w',.ok trivial b,.refl _ _,λes=>⟨#[⟨.mark .noRoom,false,true⟩],by simp[Sem.events,Go.mark,Sem.runT],?_⟩⟩;intro e a;simp at a;subst a;trivial
def al.aju:al C ρ (λ_ a b=>a=b) (Go.sys .env) (Go.sys .env):=by
 intro S w w' c _ _;refine⟨ρ,w',?_,.refl _ _,λes=>⟨#[⟨.output,true,false⟩],by simp[Sem.events,Go.sys,Sem.runT],?_⟩⟩
 .show Ci C S ρ _ (.ok (SysRet.strings w.os.env) w) (.ok (SysRet.strings w'.os.env) w') w';exact .ok (by rw[c.env]) c
 .intro e d;simp at d;subst d;trivial
theorem al.extern(f:uak):al C ρ (λ_(_ _:Unit)=>True) (Go.mark (.extern f)) (Go.mark (.extern f)):=by intro S w w' b _ _;refine⟨ρ,w',.ok trivial b,.refl _ _,λes=>⟨#[⟨.mark (.extern f),false,true⟩],by simp[Sem.events,Go.mark,Sem.runT],?_⟩⟩;intro e a;simp at a;subst a;trivial
theorem al.askRoom n:al C ρ (λ_(_ _:Unit)=>True) (Go.askRoom n) (Go.askRoom n):=by
 unfold Go.askRoom;split
 .exact .noRoom
 .exact .pure trivial
end
end
variable{c':dX}
section
attribute [-simp] Sem.runT_eq
def cM.cn(C:cM):Prop:=C.P.toTables=C.Q.toTables
def cM.ue(C:cM):Prop:=∀t i v,C.P.info? t=some i->i.zero=some v->jl v
section
variable{C:cM}{ρ:Ren}
theorem dR.add(h:dR ρ a a')n:dR ρ (a.add n) (a'.add n):=by
 unfold Addr.add;split
 .exact h
 .exact⟨h.1,by simp[h.2.1],Y⟩
theorem al.cut{aq aH γ IX:Type}{R:Ren->γ->IX->Prop}{m:Sem aq}{a:Sem aH}{f:aq->Sem γ}{f':aH->Sem IX}(h:al C ρ (λ_ _ _=>False) m a):al C ρ R (m>>= f) (a>>= f'):=.bind h λ_ _ _ _ x=>x.elim
theorem al.typeInfo(d:C.cn)(t:uaa):al C ρ (λ_ a b=>a=b/\C.P.info? t=some a) (Go.typeInfo t) (Go.typeInfo t):=by
 unfold Go.typeInfo;refine .bind .program λσ p q _⟨c,hq⟩=>?_;subst c;subst hq;have e:C.Q.info? t=C.P.info? t:=by unfold Tables.info?;rw[d]
 grind[stuck,pure]
theorem al.underlying(d:C.cn)(t:uaa):al C ρ (λ_ a b=>a=b/\C.P.underlying t=some a) (Go.underlying t) (Go.underlying t):=by
 unfold Go.underlying;refine .bind .program λσ p q _⟨c,hq⟩=>?_;subst c;subst hq;have e:C.Q.underlying t=C.P.underlying t:=by unfold Program.underlying Tables.info?;rw[d]
 grind[stuck,pure]
theorem al.zeroValue(d:C.cn)(c:C.ue)(t:uaa):al C ρ (λ_ a b=>a=b/\jl a) (Go.zeroValue t) (Go.zeroValue t):=by unfold Go.zeroValue;refine .bind (al.typeInfo d t) λσ i j _⟨h1,h2⟩=>?_;subst h1;cases h:i.zero with|none=>exact .unsupported|some v=>exact .pure ⟨Y,c t i v h2 h⟩
theorem al.sizeOf(c:C.cn)(t:uaa):al C ρ (λ_ a b=>a=b) (Go.sizeOf t) (Go.sizeOf t):=by unfold Go.sizeOf;exact .bind (al.typeInfo c t) λσ i j _⟨h1,h2⟩=>.pure (by rw[h1])
theorem al.isAgg(c:C.cn)(t:uaa):al C ρ (λ_ a b=>a=b) (Go.isAgg t) (Go.isAgg t):=by unfold Go.isAgg;refine .bind (al.underlying c t) λσ i j _⟨h1,h2⟩=>?_;grind[pure]
theorem al.loadCellsFrom(r:dR ρ a a')n:∀(i:Nat){acc b:dX},aJ ρ acc b->al C ρ aJ (Go.loadCellsFrom a i n acc) (Go.loadCellsFrom a' i n b):=by induction n generalizing ρ with|zero=>intro i acc b h;exact .pure h|succ n d=>intro i acc b h;simp only[Go.loadCellsFrom];exact .bind (al.load (r.add i)) λσ v v' c hv=>d (r.mono c) (i+1) ((h.mono c).push hv)
theorem al.loadCells(r:dR ρ a a')n:al C ρ aJ (Go.loadCells a n) (Go.loadCells a' n):=al.loadCellsFrom r n 0 (.nil ρ)
theorem al.storeCells(r:dR ρ a a'){l l':uai}(h:dJ (au ρ) l l'):∀(i:Nat),al C ρ (λ_(_ _:Unit)=>True) (Go.storeCells a l i) (Go.storeCells a' l' i):=by induction l generalizing ρ l' with|nil=>intro i;cases h;exact .pure trivial|cons x l c=>intro i;cases h with|cons d ht=>simp only[Go.storeCells];exact .bind (al.store (r.add i) d) λσ _ _ b _=>c (r.mono b) (ht.mono λ_ _ y=>y.mono b) (i+1)
theorem al.loadVar(e:C.cn)(t:uaa)(r:dR ρ a a'):al C ρ au (Go.loadVar t a) (Go.loadVar t a'):=by
 unfold Go.loadVar;refine .bind (al.isAgg e t) λσ b b' d g=>?_;subst g;cases b
 .exact al.load (r.mono d)
 .refine .bind (al.sizeOf e t) λk n i h hn=>?_;subst hn;exact .bind (al.loadCells ((r.mono d).mono h) n) λj c c' _ f=>.pure (.qT f)
theorem al.storeVar(c:C.cn)(t:uaa)(r:dR ρ a a')(hv:au ρ v v'):al C ρ (λ_(_ _:Unit)=>True) (Go.storeVar t a v) (Go.storeVar t a' v'):=by unfold Go.storeVar;refine .bind (al.sizeOf c t) λσ n d b hn=>?_;subst hn;have hs:=hv.cells.size;rw[<-hs];exact .ite (λ_=>.cut .stuck) (λ_=>al.storeCells (r.mono b) (dJ.Ce (hv.cells.mono b)) 0)
theorem al.newRow(e:uaa)(h:aJ ρ c c'):al C ρ dR (Go.newRow e c) (Go.newRow e c'):=by unfold Go.newRow;exact .bind (al.new (.cells e h ⟨λ_ x=>x,λ_=>Y⟩)) λσ n a _ hn=>.pure ⟨hn.1,Y,Y⟩
theorem al.newVar(t:uaa)(h:au ρ v v'):al C ρ dR (Go.newVar t v) (Go.newVar t v'):=al.newRow t h.cells
theorem al.elemOf(c:C.cn)(t:uaa):al C ρ (λ_ a b=>a=b) (Go.elemOf t) (Go.elemOf t):=by unfold Go.elemOf;refine .bind (al.underlying c t) λσ i j _⟨h1,h2⟩=>?_;grind[stuck,pure]
theorem al.part(e:C.cn)(t:uaa)(h:aJ ρ c c')(off:Nat):al C ρ au (Go.part t c off) (Go.part t c' off):=by
 unfold Go.part;refine .bind (al.isAgg e t) λσ b b' d i=>?_;subst i;cases b
 .simp only[vah,vcr];cases f:c[off]? with|none=>exact .stuck|some v=>obtain⟨v',a,g⟩:=h.some f;rw[a];exact .pure (g.mono d)
 .simp only[vcx];refine .bind (al.sizeOf e t) λl n k j hn=>?_;subst hn;exact .pure (.qT (((h.mono d).mono j).extract _ _))
def ajw(a:ρ.rel C.P.globals.size C.P.globals.size)(hg:C.P.globals.size=C.Q.globals.size)(t:uaa):au ρ (typeHandle C.P t) (typeHandle C.Q t):=by unfold typeHandle;rw[<-hg];exact .ptr ⟨a,Y,Y⟩
def al.ajx{aq aH:Type}{R:Ren->aq->aH->Prop}{m:Sem aq}{a:Sem aH}(h:(∀g,g<=C.P.globals.size->ρ.rel g g)->al C ρ R m a):al C ρ R m a:=λS w w' b hg c=>h b.oL S w w' b hg c
theorem al.runtimePanic(j:C.cn){aq aH R}e:al C ρ R (Go.runtimePanic e:Sem aq) (Go.runtimePanic e:Sem aH):=by
 refine .ajx λu=>?_;have D:C.P.globals.size=C.Q.globals.size:=by rw[j]
 have f:C.P.rt=C.Q.rt:=by rw[j]
 have l:∀{σ:Ren}(s:String),au σ (strVal s) (strVal s):=λs=>.string _;unfold Go.runtimePanic;refine .bind .program λσ p q B⟨A,hq⟩=>?_;subst A;subst hq;have z:∀{g:Ren},Ren.le σ g->∀t,au g (typeHandle C.P t) (typeHandle C.Q t):=λk t=>ajw (k.1 _ _ (B.1 _ _ (u _ JR))) D t;simp only[];cases e with
 |bounds x y s c=>rw[<-f];exact .goPanic (.iface _ (jl.rel (.agg λi v h=>by
  match i,h with
  |0,h=>simp at h;subst h;exact .int _ _
  |1,h=>simp at h;subst h;exact .int _ _
  |2,h=>simp at h;subst h;exact .bool _
  |3,h=>simp at h;subst h;exact .int _ _
  |i+4,h=>grind) _))
 |error m=>rw[<-f];exact .goPanic (.iface _ (l _))
 |plain m=>rw[<-f];exact .goPanic (.iface _ (l _))
 |nilDeref=>rw[<-f];exact .goPanic (.iface _ (l _))
 |typeAssertion i c a m=>
  rw[<-f];refine .bind (al.elemOf j _) λg x x' k n=>?_;subst n;refine .bind (al.newVar x ?_) λE r r' _ o=>.goPanic (.iface _ (.ptr o));have f4:∀{a b c d a' b' c' w:Value},au g a a'->au g b b'->au g c c'->au g d w->aJ g #[a,b,c,d] #[a',b',c',w]:=λh1 h2 h3 h4=>by simpa using aJ.append (aJ.append (aJ.append (aJ.one h1) (aJ.one h2)) (aJ.one h3)) (aJ.one h4)
  cases i<;>cases c<;>exact .qT (f4 (by first|exact .l_|grind) (by first|exact .l_|grind) (z k _) (l _))
 |panicNil=>rw[<-f];refine .bind (al.elemOf j _) λg x x' k n=>?_;subst n;exact .bind (al.newVar x (.qT (.nil _))) λE r r' _ o=>.goPanic (.iface _ (.ptr o))
 |unhashable t=>rw[<-f];exact .goPanic (.iface _ (.qT (.one (z (Ren.le_refl _) t))))
theorem al.boundsPanic(c:C.cn){aq aH R}k x y code:al C ρ R (Go.boundsPanic k x y code:Sem aq) (Go.boundsPanic k x y code:Sem aH):=by
 unfold Go.boundsPanic;simp only[];split
 .refine .bind (R:=λ_ a b=>a=b) ?_ λσ s s' _ hs=>by grind[al.runtimePanic]
  exact .bind (f:=λa=>Pure.pure (a==1)) (f':=λa=>Pure.pure (a==1)) (al.choose _) λσ a b _ h=>.pure (by rw[h])
 grind[al.runtimePanic]
theorem al.asIntOf(h:au ρ v v'):al C ρ (λ_ a b=>a=b) (Go.asIntOf v) (Go.asIntOf v'):=by cases h<;>first|exact .pure Y|exact .unsupported|exact .stuck
theorem al.asInt(h:au ρ v v'):al C ρ (λ_ a b=>a=b) (Go.asInt v) (Go.asInt v'):=by unfold Go.asInt;exact .bind (al.asIntOf h) λσ a b _ h=>.pure (by rw[h])
theorem al.asBool(h:au ρ v v'):al C ρ (λ_ a b=>a=b) (Go.asBool v) (Go.asBool v'):=by cases h<;>first|exact .pure Y|exact .stuck
theorem al.asAddr(a:C.cn)(h:au ρ v v'):al C ρ dR (Go.asAddr v) (Go.asAddr v'):=by cases h with|ptr h=>exact .pure h|l_=>exact(al.runtimePanic a .nilDeref:al C ρ dR (Go.runtimePanic .nilDeref:Sem Addr) (Go.runtimePanic .nilDeref:Sem Addr))| _=>exact .stuck
end
end
variable{z:dX}{x':Value}{ps:Array (Nat×Operand)}{lN:Array (Nat×Value)}
section
attribute [-simp] Sem.runT_eq
section
variable{C:cM}{ρ:Ren}
def IZ(h:au ρ v v'):al C ρ dR (Instr.sureAddr v) (Instr.sureAddr v'):=by cases h with|ptr h=>exact .pure h| _=>exact .stuck
def ajz(b:C.cn)(t:uaa)(h:au ρ v v'):al C ρ au (Instr.loadAt t v) (Instr.loadAt t v'):=by unfold Instr.loadAt;exact .bind (IZ h) λσ a a' _ r=>al.loadVar b t r
def ajA(d:C.cn)(t:uaa){x:Value}(h:au ρ v v')(b:au ρ x x'):al C ρ (λ_(_ _:Unit)=>True) (Instr.storeAt t v x) (Instr.storeAt t v' x'):=by unfold Instr.storeAt;exact .bind (IZ h) λσ a a' c r=>al.storeVar d t r (b.mono c)
theorem ajB(c:C.cn)(b:C.ue)(t:uaa):al C ρ au (Instr.alloc t true (.tuple #[])) (Instr.alloc t true (.tuple #[])):=by unfold Instr.alloc;refine .bind (al.zeroValue c b t) λσ v v' _⟨h1,h2⟩=>?_;subst h1;exact .bind (al.newVar t (h2.rel σ)) λd a a' _ r=>.pure (.ptr r)
def ajC(t:uaa)(h:au ρ v v'):al C ρ au (Instr.box t v) (Instr.box t v'):=by unfold Instr.box;exact .bind (al.newVar t h) λb a a' _ r=>.pure (.ptr r)
def ajD off:∀(l l':uai)(j:Nat){c c':dX},dJ (au ρ) l l'->aJ ρ c c'->
 aJ ρ ((l.zipIdx j).foldl (λcs(p:ubx)=>cs.setIfInBounds (off+p.2) p.1) c) ((l'.zipIdx j).foldl (λcs(p:ubx)=>cs.setIfInBounds (off+p.2) p.1) c'):=by
 intro l;induction l with|nil=>intro l' j c c' h a;cases h;exact a|cons x l b=>intro l' j c c' h a;cases h with|cons d ht=>simp only[List.zipIdx_cons,vdb];exact b _ (j+1) ht (a.set d _)
def ajE off{a a'}(h:aJ ρ a a')(b:aJ ρ c c'):
 aJ ρ (a.zipIdx.foldl (λcs(x:ubx)=>cs.setIfInBounds (off+x.2) x.1) c) (a'.zipIdx.foldl (λcs(x:ubx)=>cs.setIfInBounds (off+x.2) x.1) c'):=by
 have e:∀(a c:dX),a.zipIdx.foldl (λcs(x:ubx)=>cs.setIfInBounds (off+x.2) x.1) c=(a.toList.zipIdx 0).foldl (λcs(p:ubx)=>cs.setIfInBounds (off+p.2) p.1) c:=λa c=>by rw[<-Array.foldl_toList];simp
 simp_all[ajD,dJ.Ce]
def ta(ρ:Ren)(p p':Nat×Value):Prop:=p.1=p'.1/\au ρ p.2 p'.2
def RK place:∀(l l':uad){c c':dX},dJ (ta ρ) l l'->aJ ρ c c'->
 (Instr.fill place c l=none/\Instr.fill place c' l'=none)\/∃x x',Instr.fill place c l=some x/\Instr.fill place c' l'=some x'/\aJ ρ x x':=by
 intro l;induction l with
 |nil=>intro l' c c' h a;cases h;exact .inr ⟨c,c',Y,Y,a⟩
 |cons p l d=>
  intro l' c c' h a;cases h with
  |@cons _ b _ l' e ht=>
   obtain⟨i,v⟩:=p;obtain⟨i',v'⟩:=b;obtain⟨rfl,hv⟩:i=i'/\au ρ v v':=e;simp only[Instr.fill];cases f:place i with
   |none=>grind
   |some os=>
    obtain⟨off,size⟩:=os;simp only[];rw[<-hv.cells.size,<-a.size];split
    .grind
    .exact d _ ht (ajE off hv.cells a)
def ajF{f f':uah}(h:∀p∈ps,au ρ (f p.2) (f' p.2)):dJ (ta ρ) (ps.map λ(i,x)=>(i,f x)).toList (ps.map λ(i,x)=>(i,f' x)).toList:=by obtain⟨l⟩:=ps;simp only[List.map_toArray];induction l with|nil=>exact .nil|cons p l a=>obtain⟨i,x⟩:=p;exact .cons ⟨Y,h (i,x) AS⟩ (a λq hq=>h q AA)
def ajG{aq aH:Type}{f f':aq->Sem aH}(h:∀(ρ:Ren) a,al C ρ (λ_ x y=>x=y) (f a) (f' a)):∀(l:List aq)(ρ:Ren),al C ρ (λ_ x y=>x=y) (l.mapM f) (l.mapM f'):=by intro l;induction l with|nil=>intro ρ;simp only[List.mapM_nil];exact .pure Y|cons a l b=>intro ρ;simp only[List.mapM_cons];exact .bind (h ρ a) λσ x y _ e=>by subst e;exact .bind (b σ) λc x y _ e=>by subst e;exact .pure Y
def ajH{aq aH:Type}{f f':aq->Sem aH}(h:∀(ρ:Ren) a,al C ρ (λ_ x y=>x=y) (f a) (f' a))(l:Array aq):al C ρ (λ_ x y=>x=y) (l.mapM f) (l.mapM f'):=by
 have e:∀g:aq->Sem aH,l.mapM g=(do pure (<-l.toList.mapM g).toArray):=λg=>by rw[vev];rfl
 rw[e,e];exact .bind (ajG h l.toList ρ) λσ x y _ e=>.pure JC
def ajI(g:C.cn)(p:C.ue)(t:uaa){ps:Array (Nat×Value)}(h:dJ (ta ρ) ps.toList lN.toList):al C ρ au (Instr.build t ps) (Instr.build t lN):=by
 unfold Instr.build;refine .bind (al.zeroValue g p t) λσ z u q⟨h1,h2⟩=>?_;subst h1;refine .bind (al.underlying g t) λm d w r⟨h3,h4⟩=>?_;subst h3;have o:=dJ.mono (λa b(x:ta ρ a b)=>(⟨x.1,(x.2.mono q).mono r⟩:ta m a b)) h;cases d with
 |struct fields=>
  simp only[];refine .bind (R:=λ_ x y=>x=y) (ajH (λρ f=>.bind (al.sizeOf g _) λσ a b _ e=>.pure JC) fields) λc cw s k e=>?_;subst e;have j:=dJ.mono (λa b(x:ta m a b)=>(⟨x.1,x.2.mono k⟩:ta c a b)) o;rcases RK (ρ:=c) (λi=>cw[i]?) ps.toList lN.toList j (h2.cells.rel c)with⟨e1,e2⟩|⟨x,x',e1,e2,l⟩
  .rw[e1,e2];exact .stuck
  .rw[e1,e2];exact .pure (.qT l)
 |array n elem=>
  simp only[];refine .bind (al.sizeOf g elem) λc n v k e=>?_;subst e;have j:=dJ.mono (λa b(x:ta m a b)=>(⟨x.1,x.2.mono k⟩:ta c a b)) o;rcases RK (ρ:=c) (λi=>some (i*n,n)) ps.toList lN.toList j (h2.cells.rel c)with⟨e1,e2⟩|⟨x,x',e1,e2,l⟩
  .rw[e1,e2];exact .stuck
  .rw[e1,e2];exact .pure (.qT l)
 | _=>exact .stuck
theorem ajJ:jl (default:Value):=.bool _
def kP.RL(h:kP z)n:kP ((Array.range n).map (z[· % z.size]!)):=by
 intro i v hv;simp only[vcf,Array.getElem?_range]at hv;split at hv
 .simp only[vcy,vbm]at hv;subst hv;by_cases a:i % z.size<z.size
  .rw[getElem!_pos z _ a];exact h _ _ (vas a)
  grind[ajJ]
 grind
def ajK(g:C.cn)(m:C.ue)(t:uaa)(len:Nat){ps:Array (Nat×Value)}(h:dJ (ta ρ) ps.toList lN.toList):al C ρ au (Instr.buildSlice t len ps) (Instr.buildSlice t len lN):=by
 unfold Instr.buildSlice;refine .bind (al.underlying g t) λσ d D s⟨h3,h4⟩=>?_;subst h3;cases d with
 |slice elem=>
  simp only[];refine .bind (al.sizeOf g elem) λE n B w e=>?_;subst e;refine .ite (λu=>.cut .unsupported) (λu=>?_);refine .ite (λ_=>.bind (R:=λ_ x y=>x=y/\kP x) (.pure ⟨Y,λi v h=>AA⟩) λf z k c⟨e,j⟩=>?_)
   (λ_=>.bind (al.zeroValue g m elem) λA y y' o⟨e1,p⟩=>.bind (R:=λ_ x y=>x=y/\kP x) (.pure ⟨by rw[e1],p.cells⟩) λf z k c⟨e,j⟩=>?_)
  all_goals
   subst e;first|replace c:=Ren.le_trans o c|skip
   have l:=dJ.mono (λa b(x:ta ρ a b)=>(⟨x.1,x.2.mono (Ren.le_trans (Ren.le_trans s w) c)⟩:ta f a b)) h;rcases RK (ρ:=f) (λi=>some (i*n,n)) ps.toList lN.toList l ((j.RL (len*n)).rel f)with⟨e1,e2⟩|⟨x,x',e1,e2,q⟩
   .rw[e1,e2];exact .stuck
   .rw[e1,e2];exact .bind (al.newRow elem q) λ_ a a' _ r=>.pure (.slice len len r)
 | _=>exact .stuck
end
end
variable{i i':Value}
section
attribute [-simp] Sem.runT_eq
section
variable{C:cM}{ρ:Ren}
theorem Gd(a:C.cn)(t:uaa):C.Q.info? t=C.P.info? t:=by unfold Tables.info?;rw[a]
theorem Ck(a:C.cn)(t:uaa):C.Q.underlying t=C.P.underlying t:=by grind[Program.underlying,Gd]
theorem Cl(a:C.cn)(t:uaa):C.Q.cellsOf t=C.P.cellsOf t:=by grind[Program.cellsOf,Gd]
theorem ME(a:C.cn)(t:uaa):C.Q.bytesOf t=C.P.bytesOf t:=by grind[Program.bytesOf,Gd]
theorem Ge(a:C.cn):C.Q.depth=C.P.depth:=by unfold Program.depth;rw[a]
theorem Yu(b:C.cn):∀(d:Nat)(t:uaa)(off:Nat),byteOfCell C.Q d t off=byteOfCell C.P d t off:=by intro d;induction d with|zero=>intro t off;rfl|succ d a=>grind[byteOfCell,Ck,Cl,ME]
def Yv(h:ρ.rel r r'):al C ρ (λ_ a b=>a=none/\b=none) (viewAt r) (viewAt r'):=by
 unfold viewAt;refine .bind (al.shape h) λσ s s' f e=>?_;subst e;refine .ite (λ_=>.pure ⟨Y,Y⟩) (λ_=>?_);refine .bind (al.getObj (f.1 _ _ h)) λg o o' _ hg=>?_;obtain⟨d,hn,_⟩:=hg;cases d with
 |shut c=>cases o'<;>first|exact c.elim|exact .pure ⟨Y,Y⟩
 | _=>exact .pure ⟨Y,Y⟩
def ajL(h:dR ρ a a'):al C ρ (λ_(_ _:Unit)=>True) (noView a) (noView a'):=by unfold noView;refine .bind (Yv h.1) λσ s s' b⟨e1,e2⟩=>?_;subst e1;subst e2;exact .pure trivial
def Cm(c:C.cn)(h:dR ρ a a'):al C ρ (λ_ x y=>x=y) (byteOf a) (byteOf a'):=by unfold byteOf;rw[<-h.2.2];cases hs:a.spot with|some s=>exact .pure Y|none=>simp only[];refine .bind .program λσ p q d⟨f,hq⟩=>?_;subst f;subst hq;refine .bind (ajL (h.mono d)) λk _ _ g _=>?_;refine .bind (al.shape (g.1 _ _ (d.1 _ _ h.1))) λj s s' i e=>?_;subst e;cases s with|none=>exact .stuck|some bh=>obtain⟨e,n⟩:=bh;simp only[Cl c,ME c,Yu c,Ge c];refine .ite (λ_=>.pure Y) (λ_=>?_);rw[<-h.2.1];cases byteOfCell C.P C.P.depth e (a.off % C.P.cellsOf e)with|none=>exact .stuck|some b=>exact .pure Y
def ajM(c:C.cn)(h:dR ρ a a')cells bytes:al C ρ dR (partAt a cells bytes) (partAt a' cells bytes):=by
 unfold partAt;refine .bind (Cm c h) λσ x x' f e=>?_;subst e;have b:dR σ {block:=a.block,off:=a.off+cells} {block:=a'.block,off:=a'.off+cells}:=⟨f.1 _ _ h.1,by simp[h.2.1],Y⟩;refine .bind (Cm c b) λg y y' d e=>?_;subst e;refine .pure ?_;split
 .exact b.mono d
 .exact⟨d.1 _ _ b.1,b.2.1,Y⟩
def ajN(c:C.cn)(h:dR ρ a a')f:al C ρ dR (fieldPlace a f) (fieldPlace a' f):=by unfold fieldPlace;refine .bind (al.sizeOf c _) λσ n d b e=>?_;subst e;exact .ite (λ_=>ajM c (h.mono b) _ _) (λ_=>.pure ((h.mono b).add _))
def ajO(c:C.cn)(s:uaa)(h:au ρ v v')(field:Nat):al C ρ au (Instr.fieldAt s v field) (Instr.fieldAt s v' field):=by
 unfold Instr.fieldAt;refine .bind (al.underlying c s) λσ d l i⟨e,_⟩=>?_;subst e;cases d with
 |struct fields=>simp only[];cases fields[field]? with|none=>exact .stuck|some f=>simp only[];refine .bind (IZ (h.mono i)) λm a a' k r=>?_;exact .bind (ajN c r f) λj b b' _ g=>.pure (.ptr g)
 | _=>exact .stuck
def I0(P:cE)(t:uaa):Bool:=
 match P.underlying t with
 |some (.slice _)|some (.array _ _)=>true
 | _=>false
def I1(P:cE)(t:uaa):Bool:=
 match P.underlying t with
 |some (.slice _)|some (.array _ _)=>true
 | _=>false
def ajP(c:C.cn)t(ht:I1 C.P t=true){x}(s:au ρ x x')(hi:au ρ i i'):al C ρ au (Instr.indexAt t x i) (Instr.indexAt t x' i'):=by
 unfold Instr.indexAt;refine .bind (al.asIntOf hi) λσ D B u e=>?_;subst e;refine .bind (al.underlying c t) λA d l v⟨e,hd⟩=>?_;subst e;have j:=(s.mono u).mono v;have m:=j;simp only[I1,hd]at ht;cases d with
 |array len elem=>refine .bind (IZ j) λz a a' w r=>?_;refine .bind (R:=λ_ a b=>a=_/\b=_) (.pure ⟨Y,Y⟩) λg p q f⟨e,e2⟩=>?_;subst e;subst e2;refine .bind (al.underlying c t) λg d l k⟨e,_⟩=>?_;subst e;replace f:=Ren.le_trans f k;refine .ite (λ_=>.bind (al.sizeOf c elem) λy n o h e=>?_) (λ_=>.ite (λ_=>.unsupported) (λ_=>al.boundsPanic c _ _ _ _));subst e;exact .pure (.ptr (((r.mono f).mono h).add _))
 |slice elem=>
  cases j<;>first|exact .stuck|skip
  all_goals
   refine .bind (R:=λ_ a b=>a=_/\b=_) (.pure ⟨Y,Y⟩) λg p q f⟨e,e2⟩=>?_;subst e;subst e2;refine .bind (al.underlying c t) λg d l k⟨e,_⟩=>?_;subst e
  .exact al.boundsPanic c _ _ _ _
  .cases m;rename_i r;replace f:=Ren.le_trans f k;refine .ite (λ_=>.bind (al.sizeOf c elem) λy n o h e=>?_) (λ_=>.ite (λ_=>.unsupported) (λ_=>al.boundsPanic c _ _ _ _));subst e;exact .pure (.ptr (((r.mono f).mono h).add _))
 | _=>cases ht
def I2(P:cE)(t:uaa):Bool:=
 match P.underlying t with
 |some (.array _ _)=>true
 | _=>false
def ajR(a:C.cn)t(ht:I2 C.P t=true){x}(c:au ρ x x')(hi:au ρ i i'):al C ρ au (Instr.index t x i) (Instr.index t x' i'):=by
 unfold Instr.index;refine .bind (al.asIntOf hi) λσ q p f e=>?_;subst e;refine .bind (al.underlying a t) λo d m j⟨e,hd⟩=>?_;subst e;have g:=(c.mono f).mono j;simp only[I2,hd]at ht;cases d with
 |array len elem=>cases g with|agg hs h=>refine .ite (λ_=>.bind (al.sizeOf a elem) λl n k b e=>?_) (λ_=>al.boundsPanic a _ _ _ _);subst e;exact al.part a elem (aJ.mono b ⟨hs,h⟩) _| _=>exact .stuck
 | _=>cases ht
end
end
variable{Cn eQ hi lo mx mx':Option Value}
section
attribute [-simp] Sem.runT_eq
inductive m_{aq aH:Type}(R:aq->aH->Prop):Option aq->Option aH->Prop
 |none:m_ R none none
 |some {a:aq} {b:aH} (h:R a b):m_ R (some a) (some b)
theorem m_.mono{aq aH:Type}{R S:aq->aH->Prop}(c:∀a b,R a b->S a b){a:Option aq}{b:Option aH}(h:m_ R a b):m_ S a b:=by cases h with|none=>exact .none|some h=>exact .some (c _ _ h)
abbrev xf(ρ:Ren):=m_ (au ρ)
theorem xf.mono{ρ σ}(c:Ren.le ρ σ){a b}(h:xf ρ a b):xf σ a b:=m_.mono (λ_ _ x=>x.mono c) h
theorem m_.isSome{aq aH:Type}{R:aq->aH->Prop}{a:Option aq}{b:Option aH}(h:m_ R a b):a.isSome=b.isSome:=by cases h<;>rfl
section
variable{C:cM}{ρ:Ren}
def MF(c:C.cn){x}(h:au ρ x x')y code:al C ρ (λ_ a b=>a=b) (Instr.sliceBound x y code) (Instr.sliceBound x' y code):=by unfold Instr.sliceBound;refine .bind (al.asIntOf h) λσ d g f e=>?_;subst e;obtain⟨k,i⟩:=d;exact .ite (λ_=>.pure Y) (λ_=>al.boundsPanic c _ _ _ _)
def Yx(i:C.cn)isSlice len cap(p:xf ρ lo Cn)(n:xf ρ hi eQ)(g:xf ρ mx mx'):
 al C ρ (λ_ a b=>a=b) (Instr.sliceBounds isSlice len cap lo hi mx) (Instr.sliceBounds isSlice len cap Cn eQ mx'):=by
 unfold Instr.sliceBounds;have j:∀(σ:Ren)(m h:Nat),Ren.le ρ σ->al C σ (λ_ a b=>a=b)
  (do let l <-(match lo with|some v=>Instr.sliceBound v h (if mx.isSome then .slice3C else .sliceB)|none=>pure 0);pure (l,h,m))
  (do let l <-(match Cn with|some v=>Instr.sliceBound v h (if mx'.isSome then .slice3C else .sliceB)|none=>pure 0);pure (l,h,m)):=by
  intro σ m h c;rw[g.isSome];cases p with|none=>exact .bind (R:=λ_ a b=>a=b) (.pure Y) λ_ a b _ e=>.pure JC|some hv=>exact .bind (MF i (hv.mono c) _ _) λ_ a b _ e=>.pure JC
 cases g with
 |none=>simp only[];refine .bind (R:=λ_ a b=>a=b) (.pure Y) λσ m o c e=>?_;subst e;cases n with|none=>simp only[];refine .bind (R:=λ_ a b=>a=b) (.pure Y) λf h k d e=>?_;subst e;have:=j f m h (Ren.le_trans c d);grind|some hv=>simp only[];refine .bind (MF i (hv.mono c) _ _) λf h k d e=>?_;subst e;have:=j f m h (Ren.le_trans c d);grind
 |some hv=>simp only[];refine .bind (MF i hv _ _) λσ m o c e=>?_;subst e;cases n with|none=>refine .bind (R:=λ_ a b=>a=b) .stuck λf h k d e=>?_;subst e;have:=j f m h (Ren.le_trans c d);grind|some hv=>simp only[];refine .bind (MF i (hv.mono c) _ _) λf h k d e=>?_;subst e;have:=j f m h (Ren.le_trans c d);grind
def ajS(g:C.cn)t(ht:I0 C.P t=true){x}(m:au ρ x x')(l:xf ρ lo Cn)(q:xf ρ hi eQ)(i:xf ρ mx mx'):
 al C ρ au (Instr.sliceAt t x lo hi mx) (Instr.sliceAt t x' Cn eQ mx'):=by
 unfold Instr.sliceAt;refine .bind (al.underlying g t) λσ d w c⟨e,hd⟩=>?_;subst e;simp only[I0,hd]at ht;cases d with
 |slice elem=>
  unfold Instr.slice;refine .bind (al.underlying g t) λp d w f⟨e,j⟩=>?_;subst e;rw[hd]at j;cases j;replace c:=Ren.le_trans c f;have o:=m.mono c;have s:=o;cases o<;>first|exact .stuck|skip
  all_goals
   refine .bind (Yx g true _ _ (l.mono c) (q.mono c) (i.mono c)) λp a b f e=>?_;subst e;refine .bind (al.sizeOf g elem) λv n u h e=>?_;subst e;refine .pure ?_
  .split<;>exact .iH _ _
  .cases s;rename_i r;split
   .exact .slice _ _ ((r.mono f).mono h)
   .exact .slice _ _ (((r.mono f).mono h).add _)
 |array n elem=>
  simp only[];refine .bind (IZ (m.mono c)) λp a a' f r=>?_;refine .bind (Yx g false _ _ ((l.mono c).mono f) ((q.mono c).mono f) ((i.mono c).mono f)) λv b b' h e=>?_;subst e;refine .bind (al.sizeOf g elem) λy n u k e=>?_;subst e;refine .pure ?_;split
  .exact .slice _ _ ((r.mono h).mono k)
  .exact .slice _ _ (((r.mono h).mono k).add _)
 | _=>cases ht
def ajT(b:C.cn)(t:uaa){x:Value}(h:au ρ x x'):al C ρ au (Instr.makeInterface t x) (Instr.makeInterface t x'):=by unfold Instr.makeInterface;refine .bind (al.underlying b t) λσ d c a⟨e,_⟩=>?_;subst e;cases d<;>first|exact .stuck|exact .pure (.iface t (h.mono a))
def ajU(b:C.cn)(p:C.ue)(t:uaa){l l' c c':Value}(h:au ρ l l')(k:au ρ c c'):al C ρ au (Instr.makeSlice t l c) (Instr.makeSlice t l' c'):=by
 unfold Instr.makeSlice;refine .bind (al.underlying b t) λσ d J j⟨e,_⟩=>?_;subst e;cases d with
 |slice elem=>
  simp only[];refine .bind (al.asInt (h.mono j)) λK n D u e=>?_;subst e;refine .bind (al.asInt ((k.mono j).mono u)) λI m E H e=>?_;subst e;refine .bind (al.typeInfo b elem) λB i i' F⟨e,_⟩=>?_;subst e;refine .ite (λ_=>.ite (λ_=>.cut (al.runtimePanic b _)) (λ_=>.ite (λ_=>.cut (al.runtimePanic b _)) (λ_=>.bind (al.choose _) λM x y _ e=>by subst e;exact .cut (al.runtimePanic b _)))) (λ_=>?_);refine .bind (al.askRoom _) λA _ _ _ _=>.bind (al.sizeOf b elem) λL s s' _ e=>?_;subst e;refine .ite (λ_=>.bind (R:=λ_ x y=>x=y/\kP x) (.pure ⟨Y,λi v h=>AA⟩) λf z o _⟨e,g⟩=>?_)
   (λ_=>.bind (al.zeroValue b p elem) λf y y' _⟨e1,q⟩=>.bind (R:=λ_ x y=>x=y/\kP x) (.pure ⟨by rw[e1],q.cells⟩) λw z o _⟨e,g⟩=>?_)
  all_goals
   subst e;exact .bind (al.newRow elem ((g.RL _).rel _)) λ_ a a' _ r=>.pure (.slice _ _ r)
 | _=>exact .stuck
def ajW(t:uaa):al C ρ au (Instr.makeMap t none) (Instr.makeMap t none):=.bind (al.new (.map 0 .nil)) λ_ a b _ r=>.pure (.map r.1)
def ajX{x}(h:au ρ x x')i:al C ρ au (Instr.extract x i) (Instr.extract x' i):=by
 unfold Instr.extract;cases h with
 |@tuple a a' hs h=>simp only[];cases c:a[i]? with|none=>exact .stuck|some v=>obtain⟨v',b,d⟩:=aJ.some ⟨hs,h⟩ c;rw[b];exact .pure d
 | _=>exact .stuck
def Yz{x}(h:au ρ x x'):al C ρ (λ_ a b=>a=b) (Builtin.lenOf x) (Builtin.lenOf x'):=by cases h<;>first|exact .pure Y|exact .stuck
def MH size n{x}(h:au ρ x x'):al C ρ aJ (Builtin.firstCells size n x) (Builtin.firstCells size n x'):=by
 cases h with
 |iH l c=>exact .pure (.nil ρ)
 |slice l c r=>exact al.loadCells r _
 |string s=>refine .pure ⟨Y,λi v v' h1 h2=>?_⟩;rw[h1]at h2;cases h2;simp only[vcf,vai]at h1;obtain⟨b,_,rfl⟩:=h1;exact .int _ _
 | _=>exact .stuck
theorem kP.zeroCells(h:kP z)n:kP (Builtin.zeroCells z n):=h.RL _
end
end
variable{r_:dX}
section
attribute [-simp] Sem.runT_eq
section
variable{C:cM}{ρ:Ren}
def RP(P:cE)(w:aR)(a:Addr)(n:Nat):∃b,(Builtin.holdsCells a n).run P w=.ok b w:=by unfold Builtin.holdsCells;rw[m9];simp only[Go.shape,Sem.run];cases w.shape? a.block<;>exact⟨_,Y⟩
def ajY(P:cE)(w:aR)(size d n:Nat)(base:uag)(x:Value):∃b,(Builtin.mayShare size d n base x).run P w=.ok b w:=by
 unfold Builtin.mayShare;cases base with
 |none=>
  simp only[];rw[m9];simp only[Pure.pure,Sem.run,Bool.not_true,vah,vcr];split
  .obtain⟨y,c⟩:=RP P w _ (n*size);exact⟨_,by rw[m9,c];rfl⟩
  simp_all
 |some a=>
  simp only[];obtain⟨y,c⟩:=RP P w a (d*size);rw[m9,c];simp only[];rw[m9];simp only[Go.frozen,Sem.run];rw[m9];simp only[Pure.pure,Sem.run];split
  .simp_all
  .split
   .obtain⟨y,c⟩:=RP P w _ (n*size);exact⟨_,by rw[m9,c];rfl⟩
   simp_all
def ajZ(f:C.cn)(q:C.ue)(ats:uaq)(t:uaa){args:dX}(h:aJ ρ args r_):al C ρ au (Builtin.append_ ats t args) (Builtin.append_ ats t r_):=by
 unfold Builtin.append_;cases h0:ats[0]? with|none=>exact .stuck|some y=>
 cases h1:args[0]? with|none=>exact .stuck|some s=>
 cases h2:args[1]? with|none=>exact .stuck|some x=>
 obtain⟨s',e1,hs⟩:=h.some h1;obtain⟨x',e2,g⟩:=h.some h2;rw[e1,e2];refine .bind (al.underlying f y) λσ d S m⟨e,_⟩=>?_;subst e;cases d with
 |slice elem=>
  have E:=hs.mono m;replace g:=g.mono m;have D:=E;cases E<;>first|exact .stuck|skip
  all_goals
   refine .bind (al.sizeOf f elem) λT size _ l1 e=>?_;subst e;cases ats[1]?<;>try(refine .bind (al.underlying f _) λj d _ l2⟨e,_⟩=>?_;subst e;replace l1:=Ren.le_trans l1 l2)
  all_goals
   refine .bind (R:=λ_ a b=>a=b) (.pure Y) λj z _ l2 e=>?_;subst e;replace l1:=Ren.le_trans l1 l2;refine .ite (λ_=>.bind (al.asInt (g.mono l1)) λH n _ l2 e=>?_) (λ_=>.bind (Yz (g.mono l1)) λH n _ l2 e=>?_)
  all_goals
   subst e;replace l1:=Ren.le_trans l1 l2;try
    refine .ite (λ_=>.cut (al.runtimePanic f _)) (λ_=>.bind (al.typeInfo f elem) λW i _ ja⟨e,_⟩=>?_);subst e;refine .ite (λ_=>.bind (al.choose _) λ_ _ _ _ e=>by subst e;exact .cut (al.runtimePanic f _)) (λ_=>.bind (R:=λ_ a b=>a=b) (.pure Y) λH k _ p e=>?_);subst e;replace l1:=Ren.le_trans (Ren.le_trans l1 ja) p
  all_goals
   refine .ite (λ_=>.bind (.ite (λ_=>MH _ _ (g.mono l1)) (λ_=>.ite (λ_=>.pure (.nil _)) (λ_=>.bind (al.zeroValue f q elem) λj z B _⟨e,l⟩=>I3))) λσ a a' m u=>?_) (λ_=>.bind (al.typeInfo f elem) λσ i i' l2⟨e,_⟩=>?_)
   .have RQ:=D.mono (Ren.le_trans l1 m);cases RQ;first|exact .pure (.iH _ _)|skip
    all_goals
     rename_i r;exact .bind (al.storeCells (r.add _) (dJ.Ce u) 0) λj _ _ l2 _=>.pure (.slice _ _ (r.mono l2))
   .subst e;refine .ite (λ_=>.cut (al.runtimePanic f _)) (λ_=>.bind (al.typeInfo f elem) λV i i' ja⟨e,_⟩=>?_);subst e;refine .ite (λ_=>.cut (.ite (λ_=>al.runtimePanic f _) (λ_=>.none λw=>?_))) (λ_=>.bind (al.choose _) λQ c c' p e=>?_)
    .obtain⟨b,K⟩:=ajY C.P w size _ _ _ x;rw[m9,K];cases b<;>exact id
    .subst e;refine .bind (al.typeInfo f elem) λU i _ P⟨e,_⟩=>.bind (by subst e;exact al.askRoom _) λL _ _ A _=>?_;replace l1:=Ren.le_trans (Ren.le_trans (Ren.le_trans (Ren.le_trans (Ren.le_trans l1 l2) ja) p) P) A;refine .bind (MH _ _ (D.mono l1)) λO o o' A J=>.bind (.ite (λ_=>MH _ _ (g.mono (Ren.le_trans l1 A))) (λ_=>.ite (λ_=>.pure (.nil _)) (λ_=>.bind (al.zeroValue f q elem) λj z B _⟨e,l⟩=>I3))) λN a a' v u=>.bind (al.zeroValue f q elem) λM z B F⟨e,l⟩=>?_;subst e;exact .bind (al.newRow elem (((J.mono (Ren.le_trans v F)).append (u.mono F)).append ((l.cells.zeroCells _).rel _))) λ_ r r' _ I=>.pure (.slice _ _ I)
 | _=>exact .stuck
end
end
variable{b b':Addr}
section
attribute [-simp] Sem.runT_eq
def qW(P:cE):Nat->TypeId->Bool
 |0,_=>true
 |d+1,t=>
  match P.underlying t with
  |some .bool|some (.int _)|some .string|some (.slice _)=>true
  |some (.struct fs)=>fs.all λf=>qW P d f.type
  |some (.array _ e)=>qW P d e
  | _=>false
section
variable{C:cM}{ρ:Ren}
abbrev cn{aq:Type}:Ren->aq->aq->Prop:=λ_ a b=>a=b
def RU{aq aH:Type}{R:Ren->aq->aH->Prop}{m:Sem aq}{d:Sem aH}(h:(∀a b b',ρ.rel a b->ρ.rel a b'->b=b')->(∀a a' b,ρ.rel a b->ρ.rel a' b->a=a')->(∀g,g<=C.P.globals.size->ρ.rel g g)->al C ρ R m d):al C ρ R m d:=
 λS w w' c hg e=>h c.one c.inj c.oL S w w' c hg e
def YE{aq aH:Type}{c:Ren}{f f':aq->aH->Sem (ForInStep aH)}(l:List aq)(h:∀(ρ:Ren),Ren.le c ρ->∀a∈l,∀s,al C ρ cn (f a s) (f' a s)):∀(ρ:Ren),Ren.le c ρ->∀(s:aH),al C ρ cn (forIn l s f) (forIn l s f'):=by induction l with|nil=>intro ρ _ s;exact .pure Y|cons a l g=>intro ρ d s;simp only[List.forIn_cons];refine .bind (h ρ d a AS s) λσ x y l2 e=>?_;subst e;cases x with|done b=>exact .pure Y|yield b=>grind[Ren.le_trans]
def RV{aq aH:Type}{f f':aq->aH->Sem (ForInStep aH)}(l:Array aq)(h:∀(σ:Ren),Ren.le ρ σ->∀a∈l,∀s,al C σ cn (f a s) (f' a s))(s:aH):al C ρ cn (forIn l s f) (forIn l s f'):=by rw[<-Array.forIn_toList,<-Array.forIn_toList];exact YE l.toList (λρ b a c s=>h ρ b a AA s) ρ (Ren.le_refl _) s
def RX{aH:Type}{f f':Nat->aH->Sem (ForInStep aH)}n(h:∀σ,Ren.le ρ σ->∀i s,al C σ cn (f i s) (f' i s))(s:aH):al C ρ cn (forIn [0:n] s f) (forIn [0:n] s f'):=by rw[Std.Legacy.Range.forIn_eq_forIn_range',Std.Legacy.Range.forIn_eq_forIn_range'];exact YE _ (λρ b a _ s=>h ρ b a s) ρ (Ren.le_refl _) s
theorem YG(a:C.cn)(t:uaa):C.Q.underlyingId t=C.P.underlyingId t:=by grind[Program.underlyingId,Gd]
theorem aj3(b:C.cn):∀(n:Nat)(t u:uaa),C.Q.alikeButTags n t u=C.P.alikeButTags n t u:=by intro n;induction n with|zero=>intro t u;rfl|succ n a=>simp_all[Program.alikeButTags,Gd]
theorem MJ(a:C.cn)(t:uaa):C.Q.stoodInHeld t=C.P.stoodInHeld t:=by
 have e:C.Q.cutTypes=C.P.cutTypes:=by rw[a]
 unfold Program.stoodInHeld Program.stoodInAs;grind[Ck,aj3,YG,Gd,Ge]
abbrev aj4(ρ:Ren)(a b:Option (Addr×Bool)):Prop:=m_ (λx y=>dR ρ x.1 y.1/\x.2=y.2) a b
def aj5(h:ρ.rel r r'):al C ρ aj4 (numberAt r) (numberAt r'):=by
 unfold numberAt;refine .bind (al.shape h) λσ s s' c e=>?_;subst e;refine .ite (λ_=>.pure .none) (λ_=>?_);refine .bind (al.getObj (c.1 _ _ h)) λd o o' _ hg=>?_;obtain⟨b,hn,_⟩:=hg;cases b with
 |shut a=>cases o'<;>first|exact a.elim|exact .pure .none
 |number h l=>exact .pure (.some ⟨h,Y⟩)
 | _=>exact .pure .none
def AE(h:dR ρ a a'):al C ρ (λσ x y=>dR σ x.1 y.1/\x.2=y.2) (behindNumber a) (behindNumber a'):=by unfold behindNumber;refine .bind (aj5 h.1) λσ x y b hn=>.pure ?_;cases hn with|none=>exact⟨h.mono b,Y⟩|some k=>exact k
def dR.MK(one:∀a b b',ρ.rel a b->ρ.rel a b'->b=b')(inj:∀a a' b,ρ.rel a b->ρ.rel a' b->a=a')(h:dR ρ a a')(k:dR ρ b b'):(a==b)=(a'==b')/\(a.block==b.block)=(a'.block==b'.block):=by obtain⟨b1,o1,jJ⟩:=a;obtain⟨g,o2,tb⟩:=a';obtain⟨f,o3,j⟩:=b;obtain⟨bV,o4,i⟩:=b';obtain⟨h1,h2,h3⟩:=h;obtain⟨e,d,c⟩:=k;grind
def YI(g:C.cn):∀(d:Nat)(t:uaa),qW C.P d t=true->∀(ρ:Ren){x x' y y':Value},au ρ x x'->au ρ y y'->al C ρ cn (Op.equalIn d t x y) (Op.equalIn d t x' y'):=by
 intro d;induction d with
 |zero=>intro t _ ρ x x' y y' _ _;exact .unsupported
 |succ d M=>
  intro t ht ρ x x' y y' U T;unfold Op.equalIn;refine .bind (al.underlying g t) λσ u O N⟨e,V⟩=>?_;subst e;simp only[qW,V]at ht;have w:=U.mono N;have j:=T.mono N;cases u with
  |bool=>
   cases w with
   |bool a=>cases j with|bool b=>exact .pure Y| _=>exact .stuck
   | _=>exact .stuck
  |int k=>
   cases w with
   |int E n1=>
    cases j with
    |int z ik=>exact .ite (λ_=>.pure Y) (λ_=>.stuck)
    |ptr r=>
     cases n1 with
     |ofNat m=>cases m with|zero=>exact .pure Y|succ m=>exact .unsupported
     |negSucc m=>exact .unsupported
    |l_=>
     cases n1 with
     |ofNat m=>cases m with|zero=>exact .unsupported|succ m=>exact .unsupported
     |negSucc m=>exact .unsupported
    | _=>exact .stuck
   |ptr r=>
    cases j with
    |int z ik=>
     cases ik with
     |ofNat m=>cases m with|zero=>exact .pure Y|succ m=>exact .unsupported
     |negSucc m=>exact .unsupported
    |ptr S=>
     refine .bind (AE r) λP p L l1⟨W,_⟩=>.bind (AE (S.mono l1)) λRR q q' l2⟨hq,_⟩=>.bind .program λB r r' ja⟨e1,e2⟩=>?_;subst e1;subst e2;have D:=W.mono (Ren.le_trans l2 ja);have Q:=hq.mono ja;refine RU λone inj oL=>?_;have Z:C.Q.globals.size=C.P.globals.size:=by rw[g]
     obtain⟨e1,e2⟩:=dR.MK one inj D Q;have e3:decide (p.1.block<C.P.globals.size)=decide (L.1.block<C.Q.globals.size):=by
      rw[Z];have:p.1.block<C.P.globals.size↔L.1.block<C.P.globals.size:=by
       constructor
       .intro h;have:=one _ _ _ (oL _ (Nat.le_of_lt h)) D.1;omega
       .intro h;have:=inj _ _ _ (oL _ (Nat.le_of_lt h)) D.1;omega
      grind
     rw[<-e2,<-e3,<-e1];refine .ite (λ_=>.bind (Cm g D) λYB x x' R e=>.bind (Cm g (Q.mono R)) λaj1 y y' _ e'=>.pure AA) (λ_=>.bind (al.typeInfo g t) λYB i i' _⟨e,_⟩=>?_);subst e;split
     .exact .ite (λ_=>.pure Y) (λ_=>.unsupported)
     .exact .unsupported
    | _=>exact .unsupported
   |l_=>cases j<;>exact .unsupported
   | _=>cases j<;>first|exact .stuck|exact .unsupported
  |string=>
   cases w with
   |string a=>cases j with|string b=>exact .pure Y| _=>exact .stuck
   | _=>exact .stuck
  |slice e=>
   cases w with
   |iH l c=>cases j with|iH l c=>exact .pure Y|slice l c r=>exact .pure Y| _=>exact .stuck
   |slice l c r=>cases j with|iH l c=>exact .pure Y|slice l c r=>exact .stuck| _=>exact .stuck
   | _=>exact .stuck
  |struct fields=>
   cases w with
   |agg H h1=>
    cases j with
    |agg I h2=>
     simp only[vau]at ht;refine .bind .program λP p q l1⟨e1,e2⟩=>?_;subst e1;subst e2;rw[MJ g];refine .ite (λ_=>.cut .unsupported) (λ_=>?_)
     .refine .bind (RV fields (λcD lt f X s=>.ite (λ_=>?_) (λ_=>.pure Y)) _) λB x y _ e=>by subst e;obtain⟨o,_⟩:=x;cases o<;>exact(.pure Y:al C B cn (Pure.pure _) (Pure.pure _))
      have A:=Ren.le_trans l1 lt;exact .bind (al.part g _ (aJ.mono A ⟨H,h1⟩) _) λCo u O E K=>.bind (al.part g _ (aJ.mono (Ren.le_trans A E) ⟨I,h2⟩) _) λF v v' z J=>
       .bind (M _ (ht f X) F (K.mono z) J) λMI b b' _ e=>Cb
    | _=>exact .stuck
   | _=>exact .stuck
  |array n e=>
   cases w with
   |agg H h1=>
    cases j with
    |agg I h2=>
     refine .bind (al.sizeOf g e) λP m m' l1 em=>?_;subst em;refine .bind (RX n (λcD lt i s=>?_) _) λB x y _ e=>by subst e;obtain⟨o,_⟩:=x;cases o<;>exact(.pure Y:al C B cn (Pure.pure _) (Pure.pure _))
     have A:=Ren.le_trans l1 lt;exact .bind (al.part g _ (aJ.mono A ⟨H,h1⟩) _) λCo u O E K=>.bind (al.part g _ (aJ.mono (Ren.le_trans A E) ⟨I,h2⟩) _) λF v v' z J=>
      .bind (M _ ht F (K.mono z) J) λMI b b' _ e=>Cb
    | _=>exact .stuck
   | _=>exact .stuck
  | _=>cases ht
end
end
variable{k' y y':Value}
section
attribute [-simp] Sem.runT_eq
section
variable{C:cM}{ρ:Ren}
def YK(a:C.cn)empty:∀(n:Nat)(t:uaa),qW C.P n t=true->∀(ρ:Ren){v v':Value},au ρ v v'->al C ρ (λ_(_ _:Unit)=>True) (Instr.checkKey empty n t v) (Instr.checkKey empty n t v'):=by
 intro n;induction n with
 |zero=>intro t _ ρ v v' _;exact .unsupported
 |succ n g=>
  intro t ht ρ v v' hv;unfold Instr.checkKey;refine .bind (al.underlying a t) λσ u z o⟨e,l⟩=>?_;subst e;simp only[qW,l]at ht;have b:=hv.mono o;cases u with
  |struct fields=>cases b with|agg hs h=>simp only[vau]at ht;refine .bind (RV fields (λr lt f p s=>.ite (λ_=>?_) (λ_=>.pure Y)) _) λ_ _ _ _ _=>.pure trivial;exact .bind (al.part a _ (aJ.mono lt ⟨hs,h⟩) _) λd x x' k c=>.bind (g _ (ht f p) d c) λj _ _ _ _=>.pure Y| _=>exact .stuck
  |array len e=>cases b with|agg hs h=>refine .bind (RX len (λr lt i s=>?_) _) λ_ _ _ _ _=>.pure trivial;refine .bind (al.sizeOf a e) λw m y q em=>?_;subst em;exact .bind (al.part a _ (aJ.mono (Ren.le_trans lt q) ⟨hs,h⟩) _) λd x x' k c=>.bind (g _ ht d c) λj _ _ _ _=>.pure Y| _=>exact .stuck
  |bool|int|string|slice=>cases b<;>exact .pure trivial
  | _=>cases ht
abbrev n4(ρ:Ren):List MapEntry->List MapEntry->Prop:=dJ (AC ρ)
theorem n4.mono{σ}(a:Ren.le ρ σ){l l'}(h:n4 ρ l l'):n4 σ l l':=dJ.mono (λ_ _ x=>x.mono a) h
def RY(ρ:Ren)(a b:Option (Nat×Value)):Prop:=m_ (λx y=>x.1=y.1/\au ρ x.2 y.2) a b
def aj7(j:C.cn)(t:uaa)(ht:qW C.P Op.maxDepth t=true):∀(l l':List MapEntry)(ρ:Ren)(i:Nat){k k':Value},au ρ k k'->n4 ρ l l'->al C ρ RY (Instr.findAsking t k l i) (Instr.findAsking t k' l' i):=by intro l;induction l with|nil=>intro l' ρ i k k' _ h;cases h;exact .pure .none|cons e l f=>intro l' ρ i k k' hk h;cases h with|cons d g=>simp only[Instr.findAsking];refine .bind (YI j Op.maxDepth t ht ρ hk d.key) λσ b b' a c=>?_;subst c;exact .ite (λ_=>.pure (.some ⟨Y,d.val.mono a⟩)) (λ_=>f _ σ (i+1) (hk.mono a) (n4.mono a g))
def aj9 d{x}(b:au ρ x x')(a:au ρ y y'):Instr.sameNow d x y=Instr.sameNow d x' y':=by cases d<;>cases b<;>first|rfl|(cases a<;>rfl)
def aj_ d{k}(hk:au ρ k k'):∀l l' i,n4 ρ l l'->m_ (RY ρ) (Instr.findNow d k l i) (Instr.findNow d k' l' i):=by
 intro l;induction l with
 |nil=>intro l' i h;cases h;exact .some .none
 |cons e l c=>
  intro l' i h;cases h with
  |cons a f=>
   simp only[Instr.findNow,<-aj9 d hk a.key];cases Instr.sameNow d k e.key with
   |none=>exact .none
   |some b=>
    cases b
    .exact c _ (i+1) f
    .exact .some (.some ⟨Y,a.val⟩)
def YL(d:C.cn)(t:uaa)(ht:qW C.P Op.maxDepth t=true){l l':List MapEntry}{k:Value}(hk:au ρ k k')(h:n4 ρ l l'):al C ρ RY (Instr.findKey t k l) (Instr.findKey t k' l'):=by unfold Instr.findKey;refine .bind (al.underlying d t) λσ u g c⟨e,f⟩=>?_;subst e;have:=aj_ (ρ:=σ) u (hk.mono c) l l' 0 (h.mono c);revert this;generalize Instr.findNow u k l 0=a;generalize Instr.findNow u k' l' 0=b;intro this;cases this with|none=>exact aj7 d t ht l l' σ 0 (hk.mono c) (h.mono c)|some h=>exact .pure h
def yx(P:cE)(t:uaa):Bool:=
 match P.underlying t with
 |some (.map k _)=>qW P Op.maxDepth k
 | _=>true
def aka(f:C.cn)(s:C.ue)t(ht:yx C.P t=true){x}(y:au ρ x x')(hi:au ρ i i')ok:al C ρ au (Instr.lookup t x i ok) (Instr.lookup t x' i' ok):=by
 unfold Instr.lookup;refine .bind (al.underlying f t) λσ u L m⟨e,A⟩=>?_;subst e;cases u with
 |map key elem=>
  simp only[yx,A]at ht;have E:=y.mono m;cases E<;>first|exact .stuck|skip
  all_goals first|(refine .bind (R:=λσ es es'=>n4 σ es.toList es'.toList) (.pure .nil) λq es es' l1 c=>?_)|(rename_i j;refine .bind (al.getObj j) λF o o' l0 hg=>?_;obtain⟨B,-,-⟩:=hg;cases B<;>first|exact .stuck|skip;rename_i h;refine .bind (R:=λσ es es'=>n4 σ es.toList es'.toList) (.pure h) λq es es' l1 c=>?_;replace l1:=Ren.le_trans l0 l1)
  all_goals
   have D:es.isEmpty=es'.isEmpty:=by have:=c.length;simp at this;simp[Array.isEmpty,this]
   have l:=hi.mono (Ren.le_trans m l1);have dF:∀(d:Ren)(v v':Value)(b:Bool),au d v v'->au d (if ok then .tuple #[v,.bool b]else v) (if ok then .tuple #[v',.bool b]else v'):=by
    intro d v v' b h;cases ok
    .exact h
    .exact .F_ (by simpa using aJ.append (aJ.one h) (aJ.one (.bool b)))
   dsimp only;rw[<-D];refine .bind (YK f _ 10000 key ht q l) λd _ _ l2 _=>.bind (YL f key ht (l.mono l2) (c.mono l2)) λJ r r' ja j=>?_;cases j with|none=>refine .bind (al.zeroValue f s elem) λM z I ja⟨e,w⟩=>?_;subst e;exact .bind (R:=λσ a b=>a.2=b.2/\au σ a.1 b.1) (.pure ⟨Y,w.rel _⟩) λH p g _ k=>.pure GI|@some a b h=>obtain⟨n,v⟩:=a;obtain⟨K,v'⟩:=b;exact .bind (R:=λσ a b=>a.2=b.2/\au σ a.1 b.1) (.pure ⟨Y,h.2⟩) λH p g _ k=>.pure GI
 | _=>exact .stuck
end
end
section
attribute [-simp] Sem.runT_eq
section
variable{C:cM}{ρ:Ren}
def akb{f g}:∀(l l' m a:uai),dJ (au ρ) l l'->dJ (au ρ) m a->(∀x x' y y',au ρ x x'->au ρ y y'->f (x,y)=g (x',y'))->(l.zip m).all f=(l'.zip a).all g:=by intro l;induction l with|nil=>intro l' m a h k e;cases h;simp|cons x l b=>intro l' m a h k e;cases h with|cons d ht=>cases k with|nil=>simp|cons c i=>simp only[List.zip_cons_cons,vbu,e _ _ _ _ d c,b _ _ _ ht i e]
def akc(one:∀a b b',ρ.rel a b->ρ.rel a b'->b=b')(inj:∀a a' b,ρ.rel a b->ρ.rel a' b->a=a'):∀(n:Nat){x x' y y':Value},au ρ x x'->au ρ y y'->Instr.sameBits n x y=Instr.sameBits n x' y':=by
 intro n;induction n with
 |zero=>
  intro x x' y y' e c;cases e with
  |ptr r=>cases c with|ptr d=>have:=(dR.MK one inj r d).1;simp only[Instr.sameBits];rw[Bool.eq_iff_iff]at this⊢;simpa using this| _=>rfl
  | _=>cases c<;>rfl
 |succ n g=>
  intro x x' y y' e c;cases e with
  |ptr r=>cases c with|ptr d=>have:=(dR.MK one inj r d).1;simp only[Instr.sameBits];rw[Bool.eq_iff_iff]at this⊢;simpa using this| _=>rfl
  |iface t h=>cases c with|iface u k=>simp only[Instr.sameBits,g h k]| _=>rfl
  |agg hs h=>
   cases c with
   |agg f h2=>
    simp only[Instr.sameBits,hs,f];congr 1
    exact akb _ _ _ _ (dJ.Ce ⟨hs,h⟩) (dJ.Ce ⟨f,h2⟩) λ_ _ _ _ a b=>g a b
   | _=>rfl
  | _=>cases c<;>rfl
def akd{a a' b b'}(h:au ρ a a')(k:au ρ b b'):al C ρ au (Instr.keyThatStays a b) (Instr.keyThatStays a' b'):=by
 refine RU λone inj _=>?_;unfold Instr.keyThatStays;rw[<-akc one inj 10000 h k];refine .ite (λ_=>.pure k) (λ_=>.bind (al.choose _) λσ x y c e=>?_);subst e;refine .pure ?_;split
 .exact k.mono c
 .exact h.mono c
def n4.get{l l'}(h:n4 ρ l l'):∀i:Nat,m_ (AC ρ) l[i]? l'[i]?:=by induction h with|nil=>intro i;simp;exact .none|cons b _ a=>intro i;cases i with|zero=>simp;exact .some b|succ i=>simpa using a i
theorem n4.modify{l l'}(h:n4 ρ l l'){f g}(d:∀e b,AC ρ e b->AC ρ (f e) (g b)):∀i,n4 ρ (l.modify i f) (l'.modify i g):=by induction h with|nil=>intro i;simp;exact .nil|cons a ht c=>intro i;cases i with|zero=>simp only[List.modify_zero_cons];exact .cons (d _ _ a) ht|succ i=>simp only[List.modify_succ_cons];exact .cons a (c i)
def ake{a b a' b'}(h:au ρ a a')(k:au ρ b b'):aJ ρ #[a,b] #[a',b']:=by simpa using aJ.append (aJ.one h) (aJ.one k)
def akf(f:C.cn)t(ht:yx C.P t=true){m j k}(E:au ρ m j)(hk:au ρ k k')(hv:au ρ v v'):al C ρ (λ_(_ _:Unit)=>True) (Instr.mapUpdate t m k v) (Instr.mapUpdate t j k' v'):=by
 unfold Instr.mapUpdate;refine .bind (al.underlying f t) λσ u O n⟨e,L⟩=>?_;subst e;cases u with
 |map key elem=>
  simp only[yx,L]at ht;have A:=E.mono n;cases A with
  |p8=>exact al.runtimePanic f _
  |map l=>
   refine .bind (al.getObj l) λp o o' l1 hg=>?_;obtain⟨D,_,J⟩:=hg;cases D with
   |@map es es' clock h=>
    have mine:p.mine _:=J.resolve_right λy=>by cases y
    have g:=Ren.le_trans n l1;refine .bind (YK f false 10000 key ht p (hk.mono g)) λN _ _ l2 _=>?_;refine .bind (YL f key ht (hk.mono (Ren.le_trans g l2)) (n4.mono l2 h)) λz r r' ja F=>?_;have c:=Ren.le_trans (Ren.le_trans g l2) ja;have w:=ja.1 _ _ (l2.1 _ _ (l1.1 _ _ l));have s:=ja.2 _ (l2.2 _ mine);have h3:=n4.mono (Ren.le_trans l2 ja) h;cases F with
    |none=>refine al.setObj w s (.map _ ?_) AS;simp only[Array.toList_push];exact dJ.append h3 (.cons ⟨hk.mono c,hv.mono c,Y⟩ .nil)
    |@some a b I=>
     obtain⟨i,x⟩:=a;obtain⟨i',x'⟩:=b;obtain⟨rfl,B⟩:i=i'/\_:=I;simp only[]at B⊢;have hold:=n4.get h3 i;rw[Array.getElem?_toList,Array.getElem?_toList]at hold;refine .bind (akd (ρ:=z) ?_ (hk.mono c)) λQ q M d hq=>?_
     .revert hold;generalize es[i]?=a;generalize es'[i]?=b;intro hold;cases hold with|none=>exact hk.mono c|some K=>exact K.key
     .refine al.setObj (d.1 _ _ w) (d.2 _ s) (.map _ ?_) AS;rw[Array.toList_modify,Array.toList_modify];refine n4.modify (n4.mono d h3) (λe P H=>?_) i;exact⟨hq,hv.mono (Ren.le_trans c d),H.born⟩
   | _=>exact .stuck
  | _=>exact .stuck
 | _=>exact .stuck
end
end
section
attribute [-simp] Sem.runT_eq
section
variable{C:cM}{ρ:Ren}
theorem aJ.two{a b a' b'}(h:au ρ a a')(k:au ρ b b'):aJ ρ #[a,b] #[a',b']:=by simpa using aJ.append (aJ.one h) (aJ.one k)
def akg(b:C.cn)(ats:uaq)(t:uaa){args:dX}(h:aJ ρ args r_):al C ρ au (Builtin.len_ ats t args) (Builtin.len_ ats t r_):=by
 unfold Builtin.len_;cases h0:ats[0]? with|none=>exact .stuck|some ty=>
 cases h1:args[0]? with|none=>exact .stuck|some x=>
 obtain⟨x',e1,d⟩:=h.some h1;rw[e1];refine .bind (al.underlying b ty) λσ u j i⟨e,_⟩=>?_;subst e;have a:=d.mono i;cases u with
 |string=>cases a with|string s=>exact .pure (.int _ _)| _=>exact .stuck
 |array n e=>exact .pure (.int _ _)
 |pointer arr=>refine .bind (al.underlying b arr) λm u j _⟨e,_⟩=>?_;subst e;cases u with|array n e=>exact .pure (.int _ _)| _=>exact .stuck
 |slice e=>cases a with|iH l c=>exact .pure (.int _ _)|slice l c r=>exact .pure (.int _ _)| _=>exact .stuck
 |map k e=>
  cases a with
  |p8=>exact .pure (.int _ _)
  |map f=>
   refine .bind (al.getObj f) λm o o' l1 hg=>?_;obtain⟨g,_,_⟩:=hg;cases g with
   |@map es es' clock h=>
    have:es.size=es'.size:=by simpa using h.length
    refine .pure ?_;rw[this];exact .int _ _
   | _=>exact .stuck
  | _=>exact .stuck
 |chan k e=>cases a with|p9=>exact .pure (.int _ _)| _=>exact .stuck
 | _=>exact .stuck
def akh(a:C.cn)(ats:uaq)(t:uaa){args:dX}(h:aJ ρ args r_):al C ρ au (Builtin.cap_ ats t args) (Builtin.cap_ ats t r_):=by
 unfold Builtin.cap_;cases h0:ats[0]? with|none=>exact .stuck|some ty=>
 cases h1:args[0]? with|none=>exact .stuck|some x=>
 obtain⟨x',e1,d⟩:=h.some h1;rw[e1];refine .bind (al.underlying a ty) λσ u g f⟨e,_⟩=>?_;subst e;have b:=d.mono f;cases u with
 |array n e=>exact .pure (.int _ _)
 |pointer arr=>refine .bind (al.underlying a arr) λi u g _⟨e,_⟩=>?_;subst e;cases u with|array n e=>exact .pure (.int _ _)| _=>exact .stuck
 |slice e=>cases b with|iH l c=>exact .pure (.int _ _)|slice l c r=>exact .pure (.int _ _)| _=>exact .stuck
 |chan k e=>cases b with|p9=>exact .pure (.int _ _)| _=>exact .stuck
 | _=>exact .stuck
def aki(d:C.cn)(ats:uaq)(t:uaa){args:dX}(h:aJ ρ args r_):al C ρ au (Builtin.copy_ ats t args) (Builtin.copy_ ats t r_):=by
 unfold Builtin.copy_;cases h0:ats[0]? with|none=>exact .stuck|some ty=>
 cases h1:args[0]? with|none=>exact .stuck|some x=>
 cases h2:args[1]? with|none=>exact .stuck|some y=>
 obtain⟨x',e1,i⟩:=h.some h1;obtain⟨y',e2,b⟩:=h.some h2;rw[e1,e2];refine .bind (al.underlying d ty) λσ u o a⟨e,_⟩=>?_;subst e;cases u with
 |slice elem=>
  have f:=i.mono a;have g:=f;cases f<;>first|exact .stuck|skip
  all_goals
   refine .bind (Yz (b.mono a)) λp n l l1 e=>?_;subst e;refine .bind (al.sizeOf d elem) λm s s' l2 e=>?_;subst e;refine .bind (MH s _ (b.mono (Ren.le_trans (Ren.le_trans a l1) l2))) λk c c' ja j=>?_;cases g
  .exact .pure (.int _ _)
  .rename_i r;exact .bind (al.storeCells (r.mono (Ren.le_trans (Ren.le_trans l1 l2) ja)) (dJ.Ce j) 0) λ_ _ _ _ _=>.pure (.int _ _)
 | _=>exact .stuck
def YN op k x y:al C ρ au (Op.intArith op k x y) (Op.intArith op k x y):=by unfold Op.intArith;cases op<;>first|exact .stuck|exact .pure (.int _ _)
def akj(a:C.cn)op k x y:al C ρ au (Op.intDiv op k x y) (Op.intDiv op k x y):=by unfold Op.intDiv;repeat' first|exact .stuck|exact .pure (.int _ _)|exact al.runtimePanic a _ |split
def akk op x y:al C ρ au (Op.intCmp op x y) (Op.intCmp op x y):=by unfold Op.intCmp;cases op<;>first|exact .stuck|exact .pure (.bool _)
theorem R0 op x y:al C ρ au (Op.stringOp op x y) (Op.stringOp op x y):=by unfold Op.stringOp;cases op with|add=>exact .ite (λ_=>.unsupported) (λ_=>.pure (.string _))| _=>first|exact .stuck|exact .pure (.bool _)
def YO:UnOp->Bool
 | .xor=>false
 | _=>true
def akl op(a:YO op=true){x}(h:au ρ x x'):al C ρ au (Op.unary op x) (Op.unary op x'):=by
 unfold Op.unary;cases op with
 |neg=>cases h with|int k n=>exact YN _ _ _ _|ptr r=>exact .unsupported| _=>exact .stuck
 |xor=>cases a
 |not=>cases h with|bool b=>exact .pure (.bool _)| _=>exact .stuck
 |plus=>cases h<;>exact .stuck
end
end
section
attribute [-simp] Sem.runT_eq
section
variable{C:cM}{ρ:Ren}
theorem akm(c:C.cn):∀(d:Nat)(t:uaa)(b:Nat),cellOfByte C.Q d t b=cellOfByte C.P d t b:=by intro d;induction d with|zero=>intro t b;rfl|succ d a=>grind[cellOfByte,Ck,Cl,ME]
def akn(a:C.cn)(d:Nat)(e:uaa)(c o:Nat)(b:Int):cellAtBytes C.Q d e c o b=cellAtBytes C.P d e c o b:=by grind[cellAtBytes,Cl,ME,Yu,akm]
def YP(a:C.cn)(ats:uaq)(t:uaa){x:Value}(g:au ρ x x')(f:au ρ y y'):al C ρ au (Builtin.unsafeAdd_ ats t #[x,y]) (Builtin.unsafeAdd_ ats t #[x',y']):=by
 obtain⟨b,b',d,rfl,rfl⟩|hs:(∃b b',m_ (dR ρ) b b'/\x=.pointer b/\x'=.pointer b')\/al C ρ au (Builtin.unsafeAdd_ ats t #[x,y]) (Builtin.unsafeAdd_ ats t #[x',y']):=by unfold Builtin.unsafeAdd_;cases g with|l_=>exact .inl ⟨none,none,.none,Y,Y⟩|ptr r=>exact .inl ⟨_,_,.some r,Y,Y⟩| _=>exact .inr .stuck
 .unfold Builtin.unsafeAdd_;refine .bind (al.asInt f) λσ n i l1 e=>?_;subst e;refine .ite (λ_=>?_) (λ_=>.ite (λ_=>.cut .unsupported) (λ_=>?_))
  .cases d with|none=>exact .unsupported|some r=>refine .bind (Yv (l1.1 _ _ r.1)) λh v v' l2⟨e1,e2⟩=>?_;subst e1;subst e2;exact .pure (.ptr (r.mono (Ren.le_trans l1 l2)))
  .cases d with
   |none=>exact .unsupported
   |some r=>
    refine .bind (al.shape (l1.1 _ _ r.1)) λh s s' l2 e=>?_;subst e;cases s with
    |none=>exact .unsupported
    |some ec=>
     obtain⟨e,c⟩:=ec;refine .bind .program λj p q ja⟨e1,e2⟩=>?_;subst e1;subst e2;simp only[akn a,Ge a,Cl a];rw[<-r.2.1];split
     .exact .pure (.ptr ⟨ja.1 _ _ (l2.1 _ _ (l1.1 _ _ r.1)),Y,r.2.2⟩)
     .exact .unsupported
 grind
def R1(b:C.cn)(t:uaa){x:Value}(d:au ρ x x')(c:au ρ y y'):al C ρ au (movedNumber t x y) (movedNumber t x' y'):=by
 unfold movedNumber;refine .bind (al.underlying b t) λσ u s l1⟨e,_⟩=>?_;subst e;refine .ite (λ_=>.cut .unsupported) (λ_=>?_);have j:=d.mono l1;cases j with
 |ptr r=>refine .bind (AE r) λw p q l2 h=>?_;obtain⟨a,lost⟩:=p;obtain⟨a',k⟩:=q;obtain⟨i,rfl⟩:=h;refine .bind (YP b #[] t (.ptr i) ((c.mono l1).mono l2)) λo v v' ja hv=>?_;have g:=hv;cases hv with|ptr f=>exact .bind (al.new (.number f lost)) λl n m _ hn=>.pure (.ptr ⟨hn.1,Y,Y⟩)| _=>exact .pure g
 | _=>exact YP b #[] t (au.mono l1 d) (c.mono l1)
def YQ(d:C.cn)(i:dR ρ a a')(g:dR ρ b b'):al C ρ cn (Op.twoPlaces a b) (Op.twoPlaces a' b'):=by
 unfold Op.twoPlaces;refine .bind .program λσ p q l1⟨e1,e2⟩=>?_;subst e1;subst e2;refine RU λone inj oL=>?_;have j:C.Q.globals.size=C.P.globals.size:=by rw[d]
 have c:=i.mono l1;have f:=g.mono l1;obtain⟨_,e2⟩:=dR.MK one inj c f;have e3:decide (a.block ≥ C.P.globals.size)=decide (a'.block ≥ C.Q.globals.size):=by
  rw[j];have:a.block<C.P.globals.size↔a'.block<C.P.globals.size:=by
   constructor
   .intro h;have:=one _ _ _ (oL _ (Nat.le_of_lt h)) c.1;omega
   .intro h;have:=inj _ _ _ (oL _ (Nat.le_of_lt h)) c.1;omega
  grind
 have k:(a.block != b.block)=(a'.block != b'.block):=AA;rw[k,e3];exact .ite (λ_=>.cut .unsupported) (λ_=>.bind (Cm d c) λm x x' l2 e=>.bind (Cm d (f.mono l2)) λl y y' _ n=>.pure AA)
def ako(f:C.cn)k(d:dR ρ a a')(c:dR ρ b b'):al C ρ au (Op.addrSub k a b) (Op.addrSub k a' b'):=by unfold Op.addrSub;exact .bind (YQ f d c) λσ x y _ e=>by subst e;exact .pure (.int _ _)
def akp(f:C.cn)op(d:dR ρ a a')(c:dR ρ b b'):al C ρ au (Op.addrCmp op a b) (Op.addrCmp op a' b'):=by unfold Op.addrCmp;exact .bind (YQ f d c) λσ x y _ e=>by subst e;cases op<;>first|exact .unsupported|exact .pure (.bool _)
def akq(d:C.cn)k(b:dR ρ a a')n:al C ρ au (Op.addrMod k a n) (Op.addrMod k a' n):=by
 unfold Op.addrMod;refine .bind (al.shape b.1) λσ s s' l1 e=>?_;subst e;cases s with
 |none=>exact .unsupported
 |some ec=>
  obtain⟨e,c⟩:=ec;refine .bind (al.typeInfo d e) λf i i' l2⟨e,_⟩=>?_;subst e;exact .ite (λ_=>.cut .unsupported)
   (λ_=>.bind (Cm d (b.mono (Ren.le_trans l1 l2))) λ_ x y _ e=>by subst e;exact .pure (.int _ _))
def YS(a:C.cn):∀(d:Nat)(t:uaa)(ρ:Ren){x x' y y':Value},au ρ x x'->au ρ y y'->al C ρ cn (Op.eqGuardIn d t x y) (Op.eqGuardIn d t x' y'):=by
 intro d;induction d with
 |zero=>intro t ρ x x' y y' _ _;exact .unsupported
 |succ d z=>
  intro t ρ x x' y y' F E;unfold Op.eqGuardIn;refine .bind (al.underlying a t) λσ u B A⟨e,L⟩=>?_;subst e;have r:=F.mono A;have j:=E.mono A;cases u with
  |interface ms=>
   cases r with
   |nilIface=>cases j with|nilIface=>exact .pure Y| _=>exact .pure Y
   | _=>exact .pure Y
  |struct fields=>
   cases r with
   |agg h h1=>
    cases j with
    |agg k h2=>
     refine .bind (RV fields (λH lt f M s=>.ite (λ_=>?_) (λ_=>.pure Y)) _) λg x y _ e=>by subst e;obtain⟨o,_⟩:=x;cases o<;>exact(.pure Y:al C g cn (Pure.pure _) (Pure.pure _))
     exact .bind (al.part a _ (aJ.mono lt ⟨h,h1⟩) _) λJ u B p w=>.bind (al.part a _ (aJ.mono (Ren.le_trans lt p) ⟨k,h2⟩) _) λc v v' l q=>
      .bind (z _ c (w.mono l) q) λI b b' _ e=>Cb
    | _=>exact .pure Y
   | _=>exact .pure Y
  |array n e=>
   cases r with
   |agg h h1=>
    cases j with
    |agg k h2=>
     refine .bind (al.sizeOf a e) λN m K l1 em=>?_;subst em;refine .bind (RX n (λH lt i s=>?_) _) λg x y _ e=>by subst e;obtain⟨o,_⟩:=x;cases o<;>exact(.pure Y:al C g cn (Pure.pure _) (Pure.pure _))
     have D:=Ren.le_trans l1 lt;exact .bind (al.part a _ (aJ.mono D ⟨h,h1⟩) _) λJ u B p w=>.bind (al.part a _ (aJ.mono (Ren.le_trans D p) ⟨k,h2⟩) _) λc v v' l q=>
      .bind (z _ c (w.mono l) q) λI b b' _ e=>Cb
    | _=>exact .pure Y
   | _=>exact .pure Y
  | _=>exact .pure Y
def YT(b:C.cn):∀(d:Nat)(t:uaa),C.Q.eqGuardType d t=C.P.eqGuardType d t:=by intro d;induction d with|zero=>intro t;rfl|succ d a=>grind[Program.eqGuardType,Ck]
def akr(a:C.cn)(op:BinOp)(t:uaa)(p q:uam){x:Value}(h:au ρ x x')(c:au ρ y y'):al C ρ (λ_(_ _:Unit)=>True) (eqGuard op t p q x y) (eqGuard op t p q x' y'):=by
 unfold eqGuard;refine .ite (λ_=>.pure trivial) (λ_=>?_);cases h with
 |nilIface=>cases c with|nilIface=>refine .ite (λ_=>.pure trivial) (λ_=>.bind (YS a _ t ρ .nilIface .nilIface) λσ b b' _ e=>?_);subst e;exact .ite (λ_=>.unsupported) (λ_=>.pure trivial)| _=>exact .pure trivial
 |agg f h1=>cases c with|agg g h2=>refine .bind .program λl p q l1⟨e1,e2⟩=>.bind .program λi k j l2⟨e3,e4⟩=>?_;subst e1;subst e2;subst e3;subst e4;rw[YT a,Ge a];have d:=Ren.le_trans l1 l2;refine .ite (λ_=>.pure trivial) (λ_=>.bind (YS a _ t i ((au.agg f h1).mono d) ((au.agg g h2).mono d)) λσ b b' _ e=>?_);subst e;exact .ite (λ_=>.unsupported) (λ_=>.pure trivial)| _=>exact .pure trivial
 | _=>exact .pure trivial
end
end
section
attribute [-simp] Sem.runT_eq
def AG(P:cE)(op:BinOp)(t:uaa):Bool:=
 match op with
 | .eql| .neq=>qW P Op.maxDepth t
 | .shl| .and| .or| .xor| .andNot=>false
 | _=>match P.underlying t with|some .unsafePointer=>false| _=>true
section
variable{C:cM}{ρ:Ren}
def aks(c:C.cn)t(_:AG C.P .shr t=true)k k' a b:al C ρ au (binOp .shr t (.int k a) (.int k' b)) (binOp .shr t (.int k a) (.int k' b)):=by show al C ρ au (Op.shift .shr k a k' b) (Op.shift .shr k a k' b);unfold Op.shift;exact .ite (λ_=>al.runtimePanic c _) (λ_=>.pure (.int _ _))
def R2(d:C.cn)op t(c:AG C.P op t=true)k k' a b:al C ρ au (binOp op t (.int k a) (.int k' b)) (binOp op t (.int k a) (.int k' b)):=by cases op<;>first|cases c|exact aks d t c k k' a b|exact .ite (λ_=>.stuck) (λ_=>YN _ _ _ _)|exact .ite (λ_=>.stuck) (λ_=>akj d _ _ _ _)|exact .ite (λ_=>.stuck) (λ_=>akk _ _ _)
theorem R3(op:BinOp)(t:uaa)(a b:ByteArray):binOp op t (.string a) (.string b)=Op.stringOp op a b:=by cases op<;>rfl
def YV(c:C.cn){t:uaa}(ht:qW C.P Op.maxDepth t=true){x:Value}(b:au ρ x x')(a:au ρ y y'):al C ρ cn (Op.equal t x y) (Op.equal t x' y'):=YI c Op.maxDepth t ht ρ b a
def YW(f:C.cn){t:uaa}(ht:qW C.P Op.maxDepth t=true){x:Value}(d:au ρ x x')(c:au ρ y y'):
 al C ρ au (do pure (.bool (<-Op.equal t x y))) (do pure (.bool (<-Op.equal t x' y')))/\al C ρ au (do pure (.bool (!(<-Op.equal t x y)))) (do pure (.bool (!(<-Op.equal t x' y')))):=
 ⟨.bind (YV f ht d c) λ_ a b _ e=>by subst e;exact .pure (.bool _),.bind (YV f ht d c) λ_ a b _ e=>by subst e;exact .pure (.bool _)⟩
def akt(a:C.cn)op t(b:AG C.P op t=true){x}(d:au ρ x x')(c:au ρ y y'):al C ρ au (binOp op t x y) (binOp op t x' y'):=by
 have g:=d;have i:=c;cases op
 case eql=>exact(have hq:=(YW (ρ:=ρ) a b d c).1;Fw)
 case neq=>exact(have hq:=(YW (ρ:=ρ) a b d c).2;Fw)
 all_goals first|exact absurd b ver|skip
 all_goals cases d<;>cases c<;>first
  |exact .stuck
  |exact .unsupported
  |exact R2 a _ _ b _ _ _ _
  |(rw[R3];exact R0 _ _ _)
  |exact R1 a _ i g
  |exact R1 a t g (.int _ _)
  |exact .bind (AE G_) λσ p h l1⟨f,_⟩=>akq a _ f _
  |exact .bind (AE G_) λσ p h l1⟨f,_⟩=>.bind (AE (dR.mono l1 AA)) λl q j l2⟨hq,_⟩=>ako a _ (f.mono l2) hq
  |exact .bind (AE G_) λσ p h l1⟨f,_⟩=>.bind (AE (dR.mono l1 AA)) λl q j l2⟨hq,_⟩=>akp a _ (f.mono l2) hq
  |(refine .bind (al.underlying a t) λσ u m l1⟨e,k⟩=>?_;subst e;simp only[AG,k]at b;cases u<;>first|exact absurd b ver|exact R1 a t (g.mono l1) (i.mono l1))
end
end
variable{l l':Nat}
section
attribute [-simp] Sem.runT_eq
section
variable{C:cM}{ρ:Ren}
def I6(h:ρ.rel l l'):al C ρ (λσ r r'=>IU C σ r r'/\σ.mine l') (Instr.getLoop l) (Instr.getLoop l'):=by unfold Instr.getLoop;refine .bind (al.getObj h) λσ o o' l1 hg=>?_;obtain⟨a,_,b⟩:=hg;cases a with|loop c=>exact .pure ⟨c,b.resolve_right λy=>by cases y⟩| _=>exact .stuck
def aku(fn:uak)(h:∃f c,C.P.funcs[fn]?=some f/\f.body=some c){tmps d:dX}(ht:aJ ρ tmps d)(params:Array Tmp){assign body:Code}(l:C.ew assign)(k:C.ew body){r r':ubg}(j:m_ ρ.rel r r'):
 al C ρ (λσ x y=>σ.rel x.1 y.1/\qV σ x.2 y.2) (Instr.enterLoop fn tmps params assign body r) (Instr.enterLoop fn d params assign body r'):=by
 unfold Instr.enterLoop;cases j<;>first
  |refine .bind (al.new (.deferred .nil)) λσ n g l1 hn=>.bind (R:=λσ x y=>σ.rel x.1 y.1/\qV σ x.2 y.2) (.pure ⟨hn.1,.cons ⟨.collected hn.1,.nil _⟩ .nil⟩) λb x y l2 a=>?_
  |refine .bind (I6 AA) λσ x y l1⟨i,_⟩=>.bind (R:=λσ x y=>σ.rel x.1 y.1/\qV σ x.2 y.2) (.pure ⟨i.defers,.nil⟩) λb x y l2 a=>?_
 all_goals exact .bind (al.new (.loop ⟨Y,Y,(λc e=>GA),Y,h,ht.mono (Ren.le_trans l1 l2),Y,Y,l,Y,k,a.1⟩)) λb n g l2 hn=>.pure ⟨hn.1,a.2.mono l2⟩
def akv(h:ρ.rel l l')(c:C.cn):al C ρ (λ_(_ _:Unit)=>True) (Instr.beginRound l) (Instr.beginRound l'):=by unfold Instr.beginRound;refine .bind (I6 h) λσ r r' l1⟨a,b⟩=>?_;refine .bind (al.setObj (l1.1 _ _ h) b (.loop ⟨Y,a.pending,a.MA,a.fn,a.known,a.tmps,a.params,a.assign,a.IV,a.body,a.IW,a.defers⟩) AS) λd _ _ _ _=>?_;rw[<-a.state];cases r.state with|ready=>exact .pure trivial| _=>exact al.runtimePanic c _
def akw(h:ρ.rel l l')jump(d:∀c,jump=some c->C.ew c):al C ρ au (Instr.endRound l jump) (Instr.endRound l' jump):=by unfold Instr.endRound;refine .bind (I6 h) λσ r r' l1⟨a,b⟩=>?_;exact .bind (al.setObj (l1.1 _ _ h) b (.loop ⟨Y,Y,d,a.fn,a.known,a.tmps,a.params,a.assign,a.IV,a.body,a.IW,a.defers⟩) AS) λe _ _ _ _=>.pure (.bool _)
def akx(h:ρ.rel l l')(f:C.cn):al C ρ (λ_ a b=>a=b/\∀c,a=some c->C.ew c) (Instr.endLoop l) (Instr.endLoop l'):=by unfold Instr.endLoop;refine .bind (I6 h) λσ r r' l1⟨d,e⟩=>?_;rw[<-d.state];exact .ite (λ_=>.cut (al.runtimePanic f _)) (λ_=>.bind (al.setObj (l1.1 _ _ h) e (.loop ⟨Y,d.pending,d.MA,d.fn,d.known,d.tmps,d.params,d.assign,d.IV,d.body,d.IW,d.defers⟩) AS) λ_ _ _ _ _=>.pure ⟨d.pending,d.MA⟩)
def aky{b b'}(h:ρ.rel b b'):al C ρ qV (Instr.takeDeferred b) (Instr.takeDeferred b'):=by
 unfold Instr.takeDeferred;refine .bind (al.getObj h) λf o o' l2 hg=>?_;obtain⟨c,_,d⟩:=hg;cases c with
 |deferred a=>
  have mine:=d.resolve_right λy=>by cases y
  exact .bind (al.setObj (l2.1 _ _ h) mine .taken AS) λe _ _ ja _=>.pure (a.mono ja)
 | _=>exact .stuck
end
end
section
attribute [-simp] Sem.runT_eq
inductive qd(C:cM)(ρ:Ren):Next->Next->Prop
 |value {v v':Value} (h:au ρ v v'):qd C ρ (.value v) (.value v')
 |skip:qd C ρ .skip .skip
 |enter {f:uak} {fn:Func} {c:Code} {a a':dX} (h:aJ ρ a a') (hp:C.P.funcs[f]?=some fn) (hb:fn.body=some c):qd C ρ (.enter f a) (.enter f a')
 |round {l l':Nat} {f:uak} {t c7:dX} {assign body:Code} (hf:∃fn c,C.P.funcs[f]?=some fn/\fn.body=some c) (hl:ρ.rel l l') (ht:aJ ρ t c7) (ha:C.ew assign) (hb:C.ew body):qd C ρ (.round l f t assign body) (.round l' f c7 assign body)
structure cM.Cq(C:cM):Prop where
 body:∀(f:uak)(fn:Func)(c:Code),C.P.funcs[f]?=some fn->fn.body=some c->C.Q.funcs[f]?=some fn/\C.ew c/\fn.name≠ "runtime.NumGoroutine"
 bare:∀(f:uak)(fn:Func),C.P.funcs[f]?=some fn->fn.body=none->∀(ρ:Ren)(a a':dX),aJ ρ a a'->al C ρ (qd C) (callFunc f a) (callFunc f a')
section
variable{C:cM}{ρ:Ren}
def akz(c:C.cn):al C ρ cn Instr.panicnil Instr.panicnil:=by
 unfold Instr.panicnil;refine .bind al.aju λσ a b _ e=>?_;subst e;cases a with
 |strings env=>
  refine .bind .program λd p q _⟨e1,e2⟩=>?_;subst e1;subst e2;have:C.Q.godebug=C.P.godebug:=by rw[c]
  rw[this];exact .pure Y
 | _=>exact .stuck
def akA(c:C.cn){x}(h:au ρ x x'):al C ρ au (Instr.panic x) (Instr.panic x'):=by unfold Instr.panic;cases h with|iface t hv=>exact .goPanic (.iface t hv)|nilIface=>refine .bind (akz c) λσ a b _ e=>?_;subst e;exact .ite (λ_=>.goPanic .nilIface) (λ_=>al.runtimePanic c _)| _=>exact .stuck
def akB(hF:C.Cq)(f:uak){a a':dX}(h:aJ ρ a a'):al C ρ (qd C) (callFunc f a) (callFunc f a'):=by cases b:C.P.funcs[f]? with|none=>refine .none λw=>?_;unfold callFunc;rw[m9];simp only[Go.program,Sem.run,b];exact id|some fn=>cases d:fn.body with|none=>exact hF.bare f fn b d ρ a a' h|some c=>obtain⟨hq,hok,hn⟩:=hF.body f fn c b d;unfold callFunc;refine .bind .program λσ p q l1⟨e1,e2⟩=>?_;subst e1;subst e2;rw[b,hq];simp only[];have e:(fn.name== "runtime.NumGoroutine")=false:=AA;simp only[e,d,Option.isNone_some,vah,vcr];exact .pure (.enter (h.mono l1) b d)
end
end
section
attribute [-simp] Sem.runT_eq
def hX:Nat->Value->Bool
 | _,.bool _ | _,.int .. | _,.string _ | _,.pointer none| _,.slice none _ _ | _,.map none| _,.chan none| _,.nilFunc| _,.nilIface=>true
 | _,.func (.func _) a b=>a.isEmpty&&b.isEmpty
 |n+1,.iface _ v=>hX n v
 |n+1,.agg a=>a.all (hX n)
 |n+1,.tuple a=>a.all (hX n)
 | _,_=>false
theorem YY:∀n v,hX n v=true->jl v:=by
 have fn:∀(n:Nat)(f:Fn)(a b:dX),hX n (.func f a b)=true->jl (.func f a b):=by
  intro n f a b h;cases f with
  |func f=>
   cases n<;>
   .simp only[hX,vag,Array.isEmpty_iff]at h;obtain⟨rfl,rfl⟩:=h;exact .func f
  | _=>grind[hX]
 intro n;induction n with
 |zero=>
  intro v h;cases v with
  |bool b=>exact .bool b
  |int k n=>exact .int k n
  |string s=>exact .string s
  |pointer a=>cases a with|none=>exact .l_|some a=>simp[hX]at h
  |slice a l c=>cases a with|none=>exact .iH l c|some a=>simp[hX]at h
  |map r=>cases r with|none=>exact .p8|some a=>simp[hX]at h
  |chan r=>cases r with|none=>exact .p9|some a=>simp[hX]at h
  |nilFunc=>exact .nilFunc
  |nilIface=>exact .nilIface
  |func f a b=>grind
  | _=>simp[hX]at h
 |succ n d=>
  intro v h;cases v with
  |bool b=>exact .bool b
  |int k n=>exact .int k n
  |string s=>exact .string s
  |pointer a=>grind[hX]
  |slice a l c=>cases a with|none=>exact .iH l c|some a=>simp[hX]at h
  |map r=>grind[hX]
  |chan r=>grind[hX]
  |nilFunc=>exact .nilFunc
  |nilIface=>exact .nilIface
  |func f a b=>grind
  |iface t v=>exact .iface t (d v (by grind[hX]))
  |agg a=>simp only[hX,vau]at h;exact .agg λi v hv=>d v (h v (vbr hv))
  |tuple a=>simp only[hX,vau]at h;exact .tuple λi v hv=>d v (h v (vbr hv))
  | _=>simp[hX]at h
def gC(P:cE):Operand->Bool
 | .tmp _ | .func _=>true
 | .const v=>hX 4 v
 | .global g=>decide (g<P.globals.size)
def Gg(P:cE)(c:Call):Bool:=
 (match c.callee with
  | .builtin b=>RI b
  | .value f=>gC P f
  | _=>false)&&c.args.all (gC P)
def YZ:Fn->Bool
 | .func _=>true
 | _=>false
def I8(P:cE)(c:Call):Bool:=
 (match c.callee with
  | .builtin .unsafeString=>true
  | _=>false)&&c.args.all (gC P)
def I9(P:cE)(s d:uaa):Bool:=
 match P.underlying s,P.underlying d with
 |some (.int _),some (.int _)=>true
 | _,_=>false
def nb(P:cE)(upd:Bool):Op->Bool
 | .move x| .assign x| .box _ x| .load _ x| .makeInterface _ x| .fieldAddr _ x _ | .extract x _ | .panic x=>gC P x
 | .nilCheck x=>gC P x
 | .unOp op _ x=>YO op&&gC P x
 | .alloc _=>true
 | .pick c a b=>gC P c&&gC P a&&gC P b
 | .build _ ps| .buildSlice _ _ ps=>ps.all λp=>gC P p.2
 | .store _ a v| .makeSlice _ a v=>gC P a&&gC P v
 | .indexAddr t a v=>I1 P t&&gC P a&&gC P v
 | .index t a v=>I2 P t&&gC P a&&gC P v
 | .makeMap _ r=>r.isNone
 | .lookup t x i _=>yx P t&&gC P x&&gC P i
 | .mapUpdate t m k v=>yx P t&&gC P m&&gC P k&&gC P v
 | .binOp op t x y _=>AG P op t&&gC P x&&gC P y
 | .makeFunc fn a b=>YZ fn&&a.all (gC P)&&b.all (gC P)
 | .slice t x l h m=>I0 P t&&gC P x&&l.all (gC P)&&h.all (gC P)&&m.all (gC P)
 | .call c=>Gg P c||(upd&&I8 P c)
 | .convert s d x=>I9 P s d&&gC P x
 | _=>false
section
variable{C:cM}{ρ:Ren}
def akD(a:C.cn)s d(ht:I9 C.P s d=true){x}(h:au ρ x x'):al C ρ au (convert s d x) (convert s d x'):=by
 unfold convert;refine .bind (al.underlying a s) λσ u f l1⟨e,b⟩=>.bind (al.underlying a d) λg v v' l2⟨c,hv⟩=>?_;subst e;subst c;simp only[I9,b,hv]at ht;cases u<;>first|exact absurd ht ver|skip
 cases v<;>first|exact absurd ht ver|skip
 have h2:=(h.mono l1).mono l2;cases h2<;>first|exact .pure (.int _ _)|exact .unsupported|exact .stuck
theorem n5{m a}(h:al C ρ au m a):al C ρ (qd C) (do pure (.value (<-m))) (do pure (.value (<-a))):=.bind h λ_ _ _ _ hv=>.pure (.value hv)
def Y0{m a}(h:al C ρ (λ_(_ _:Unit)=>True) m a):al C ρ (qd C) (do m;pure .skip) (do a;pure .skip):=.bind h λ_ _ _ _ _=>.pure .skip
theorem akE(c:C.cn)(d:C.ue)(b:Builtin)(e:RI b=true)(ats:uaq)(t:uaa)(cs:uap){a a':dX}(h:aJ ρ a a'):al C ρ (qd C) (builtin b ats t cs a) (builtin b ats t cs a'):=by unfold builtin;cases b with|append=>exact .bind (ajZ c d ats t h) λ_ _ _ _ hv=>.pure (.value hv)|cap=>exact .bind (akh c ats t h) λ_ _ _ _ hv=>.pure (.value hv)|copy=>exact .bind (aki c ats t h) λ_ _ _ _ hv=>.pure (.value hv)|len=>exact .bind (akg c ats t h) λ_ _ _ _ hv=>.pure (.value hv)| _=>cases e
def akF:∀(l:List (Tmp×Value))(l':List (Tmp×Value)){t a:dX},dJ (λx y=>x.1=y.1/\au ρ x.2 y.2) l l'->aJ ρ t a->
 aJ ρ (l.foldl (λtmps(p:Tmp×Value)=>tmps.setIfInBounds p.1 p.2) t) (l'.foldl (λtmps(p:Tmp×Value)=>tmps.setIfInBounds p.1 p.2) a):=by
 intro l;induction l with|nil=>intro l' t a h ht;cases h;exact ht|cons x l c=>intro l' t a h ht;cases h with|cons b d=>simp only[vdb];exact c _ d (by rw[b.1];exact ht.set b.2 _)
def akG:∀(ps:List Tmp)(l l':uai),dJ (au ρ) l l'->dJ (λx y=>x.1=y.1/\au ρ x.2 y.2) (ps.zip l) (ps.zip l'):=by intro ps;induction ps with|nil=>intro l l' _;exact .nil|cons p ps a=>intro l l' h;cases h with|nil=>exact .nil|cons b ht=>exact .cons ⟨Y,b⟩ (a _ _ ht)
def akH(h:ρ.rel l l'){a a'}(c:aJ ρ a a'):al C ρ (qd C) (Instr.yield l a) (Instr.yield l' a'):=by unfold Instr.yield;refine .bind (I6 h) λσ r r' l1⟨b,_⟩=>?_;rw[<-c.size,<-b.params,<-b.fn,<-b.assign,<-b.body];refine .ite (λ_=>.cut .stuck) (λ_=>.pure (.round b.known (l1.1 _ _ h) ?_ b.IV b.IW));rw[<-Array.foldl_toList,<-Array.foldl_toList,Array.toList_zip,Array.toList_zip];exact akF _ _ (akG _ _ _ (dJ.Ce (c.mono l1))) b.tmps
def R4(j:C.cn)(k:C.ue)(hF:C.Cq){t d}(ht:xb ρ t d){a a'}(h:aJ ρ a a'):al C ρ (qd C) (invoke t a) (invoke d a'):=by unfold invoke;cases ht with|nil=>exact al.runtimePanic j _|builtin b ats ty cs m=>grind[akE]|collected l=>exact .stuck|@fn f f' c c' g i=>cases g with|func f=>exact akB hF f (h.append i)|yield e=>exact akH e h
end
end
section
attribute [-simp] Sem.runT_eq
section
variable{C:cM}{ρ:Ren}
theorem al.freeze(A:C.upd=true)(r:dR ρ a a')n:al C ρ (λ_(_ _:Unit)=>True) (Go.freeze a n) (Go.freeze a' n):=by
 intro S w w' d _ _;have t:∀b b',ρ.rel b b'->¬ρ.mine b'->∃o o',w.heap[b]?=some o/\Gb o/\w'.heap[b']?=some o'/\∀c e fr,o'≠ .cells c e fr:=λb b' f hn=>by
  rcases d.still b b' f hn with⟨x,_⟩|⟨o,h1,hd⟩
  .grind
  .obtain⟨p,y,m,z,k⟩:=d.obj b b' f;rw[h1]at m;cases m;refine⟨o,y,h1,hd,z,λc e fr x=>?_⟩;subst x;cases hd with
   |coro=>cases k with|shut h=>exact h
   |number a l=>cases k
 have get:∀(w:aR)(a:Addr)(b:Nat),(w.freeze a n).heap[b]?=(w.heap[b]?).map (λo=>if n=0 then o else if a.block=b then(match o with| .cells c e (lo,hi)=>.cells c e (if lo==hi then(a.off,a.off+n)else(min lo a.off,max hi (a.off+n)))|o=>o)else o):=by intro w a b;unfold World.freeze;grind
 have same:∀(w:aR)(a:Addr),(w.freeze a n).heap.size=w.heap.size/\(w.freeze a n).tape=w.tape/\(w.freeze a n).drawn=w.drawn/\(w.freeze a n).os=w.os/\(w.freeze a n).output=w.output:=by grind[World.freeze]
 obtain⟨jJ,tb,u,F,Y2⟩:=same w a;obtain⟨H,j,i,g,v⟩:=same w' a';refine⟨ρ,w'.freeze a' n,?_,?_,λes=>⟨#[],by simp[Sem.events,Go.freeze,Sem.runT],AS⟩⟩
 .refine .ok trivial ⟨λb b' f=>?_,d.one,d.inj,d.oL,by rw[u,i];exact d.sync,by rw[tb,u,j,i];exact d.tape,by rw[F,g];exact d.env,by rw[tb];exact d.lone,λb b' f hn=>?_⟩
  .obtain⟨o,o',h1,h2,h3⟩:=d.obj b b' f;rw[get,get,h1,h2];simp only[vcy];refine⟨_,_,Y,Y,?_⟩;by_cases hn:n=0
   .grind
   simp only[hn,vcr];by_cases e:a.block=b
   .subst e;have q:a'.block=b':=d.one _ _ _ r.1 f;subst q;simp only[vcx];cases h3 with
    |@cells c c' el fr I B hF=>obtain⟨lo,hi⟩:=fr;have E:=hF.2 A;subst E;rw[r.2.1];exact .cells el B ⟨λ_ x=>x,λ_=>Y⟩
    |map c h=>exact .map c h
    |stringIter s p=>exact .stringIter s p
    |Cg a b c=>exact .Cg a b c
    |mapIter h a b c=>exact .mapIter h a b c
    |loop h=>exact .loop h
    |deferred h=>exact .deferred h
    |taken=>exact .taken
    |number h l=>exact .number h l
    |shut h=>cases o'<;>first|exact h.elim|exact .shut trivial
   .have q:a'.block≠b':=λx=>e (d.inj _ _ _ (x▸r.1) f);grind
  .obtain⟨o,_,h1,hd,_,_⟩:=t b b' f hn;rw[get,h1];refine .inr ⟨o,?_,hd⟩;cases hd<;>(grind)
 .refine⟨Ren.le_refl _,λ_ h=>.inl h,AA,λ_ h=>.inl h,λ_ _ h=>.inl h,λb f hn=>?_,g,v,j,AA⟩;rw[get];by_cases D:a'.block=b
  .subst D;obtain⟨_,o',_,_,h2,h3⟩:=t _ _ r.1 hn;grind
  grind
theorem akI(b:C.cn):∀(d:Nat)(t u:uaa),sameLayout C.Q d t u=sameLayout C.P d t u:=by intro d;induction d with|zero=>intro t u;rfl|succ d a=>grind[sameLayout,Ck,YG,MJ]
theorem akJ(b:C.cn)fits:∀(d:Nat)(e:uaa)(c o n:Nat),rowAt C.Q fits d e c o n=rowAt C.P fits d e c o n:=by intro d;induction d with|zero=>intro e c o n;rfl|succ d a=>grind[rowAt,Ck,Cl,MJ]
def akK(b:C.cn):∀(d:Nat)(e:uaa)(c o:Nat)(u:uaa)(n:Nat),liesAt C.Q d e c o u n=liesAt C.P d e c o u n:=by intro d;induction d with|zero=>intro e c o u n;rfl|succ d a=>grind[liesAt,Ck,akJ,akI,Ge]
def akL(b:C.cn)(r:dR ρ a a')(u:uaa)(n:Nat):al C ρ (λ_ x y=>x=y) (variablesAt a u n) (variablesAt a' u n):=by unfold variablesAt;refine .bind .program λσ p q d⟨c,hq⟩=>?_;subst c;subst hq;refine .bind (al.shape (d.1 _ _ r.1)) λg s s' f e=>?_;subst e;cases s with|none=>exact .pure Y|some bh=>exact .pure (by simp only[akK b,Ge b,Cl b,r.2.1])
theorem Y3:∀(n:Nat)(ρ:Ren){a a':Addr}(_:dR ρ a a')(acc:ByteArray),al C ρ (λ_ x y=>x=y) (loadBytes a acc n) (loadBytes a' acc n)
 |0,ρ,a,a',r,acc=>.pure Y
 |n+1,ρ,a,a',r,acc=>by
  unfold loadBytes;refine .bind (al.load r) λσ v v' b hv=>?_;cases hv with
  |int k m=>cases k<;>first|exact Y3 n σ ((r.mono b).add 1) _ |exact .stuck
  | _=>exact .stuck
def akM(d:C.cn)(o:C.upd=true)(ats:uaq)(t:uaa){x x':dX}(h:aJ ρ x x'):al C ρ au (Builtin.unsafeString_ ats t x) (Builtin.unsafeString_ ats t x'):=by
 obtain⟨l⟩:=x;obtain⟨l'⟩:=x';have hs:=h.size;simp only[vdv]at hs;match l,l',hs with
 | [],[],_=>exact .stuck
 | [a],[a'],_=>exact .stuck
 |a::b::c::l,_::_::_::l',_=>exact .stuck
 | [a,b],[a',b'],_=>
  have z:au ρ a a':=h.get 0 a a' Y Y;have y:au ρ b b':=h.get 1 b b' Y Y;have key:∀(p f:uag),m_ (dR ρ) p f->al C ρ au (Builtin.unsafeString_ ats t #[.pointer p,b]) (Builtin.unsafeString_ ats t #[.pointer f,b']):=by intro p f u;unfold Builtin.unsafeString_;refine .bind (al.asInt y) λσ n D g e=>?_;subst e;cases H:ats[0]? with|none=>exact .stuck|some j=>simp only[];refine .ite (λ_=>.bind (R:=λ_ _ _=>False) (.runtimePanic d _) λ_ _ _ _ h=>h.elim) (λ_=>?_);refine .ite (λ_=>.bind (R:=λ_ _ _=>False) .unsupported λ_ _ _ _ h=>h.elim) (λ_=>?_);cases u with|none=>exact .ite (λ_=>.pure (.string _)) (λ_=>.runtimePanic d _)|@some q B hq=>refine .ite (λ_=>.pure (.string _)) (λ_=>?_);refine .bind (al.elemOf d j) λF e E i v=>?_;subst v;refine .bind (akL d ((hq.mono g).mono i) e n.toNat) λA c c' k w=>?_;subst w;refine .ite (λ_=>?_) (λ_=>.unsupported);refine .bind (Y3 n.toNat A (((hq.mono g).mono i).mono k) .empty) λI s s' m hs=>?_;subst hs;exact .bind (al.freeze o ((((hq.mono g).mono i).mono k).mono m) n.toNat) λ_ _ _ _ _=>.pure (.string _)
  cases z with|l_=>exact key none none .none|ptr r=>exact key _ _ (.some r)| _=>exact .stuck
theorem akO(e:C.cn)(b:C.upd=true)(ats:uaq)(t:uaa){cs:uap}{x x':dX}(h:aJ ρ x x'):al C ρ (qd C) (do let d <-(pure {target:=.builtin .unsafeString ats t cs,args:=x}:Sem Deferred);invoke d.target d.args) (do let d <-(pure {target:=.builtin .unsafeString ats t cs,args:=x'}:Sem Deferred);invoke d.target d.args):=
 .bind (R:=λ_ d a=>d={target:=.builtin .unsafeString ats t cs,args:=x}/\a={target:=.builtin .unsafeString ats t cs,args:=x'}) (.pure ⟨Y,Y⟩) λσ d a c hd=>by obtain⟨rfl,rfl⟩:=hd;exact .bind (akM e b ats t (h.mono c)) λ_ _ _ _ hv=>.pure (.value hv)
end
end
variable{lO:uah}
section
attribute [-simp] Sem.runT_eq
section
variable{C:cM}{ρ:Ren}
def ug(C:cM)(ρ:Ren)(ev lO:uah):Prop:=∀x,gC C.P x=true->au ρ (ev x) (lO x)
theorem ug.mono{σ}(b:Ren.le ρ σ){ev}(h:ug C ρ ev lO):ug C σ ev lO:=λx a=>(h x a).mono b
def ug.args{ev}(h:ug C ρ ev lO){a:uay}(d:a.all (gC C.P)=true):aJ ρ (a.map ev) (a.map lO):=by refine⟨AS,λi v v' h1 h2=>?_⟩;simp only[vcf,vai]at h1 h2;obtain⟨x,c,rfl⟩:=h1;obtain⟨y,b,rfl⟩:=h2;rw[c]at b;cases b;exact h x (vau.1 d x (vbr c))
def ug.R5{ev}(h:ug C ρ ev lO){a:Option Operand}(b:a.all (gC C.P)=true):xf ρ (a.map ev) (a.map lO):=by cases a with|none=>exact .none|some x=>exact .some (h x AA)
def ug.parts{ev}(h:ug C ρ ev lO)(b:(ps.all λp=>gC C.P p.2)=true):dJ (ta ρ) (ps.map λ(i,x)=>(i,ev x)).toList (ps.map λ(i,x)=>(i,lO x)).toList:=
 ajF λp a=>h p.2 (vau.1 b p a)
def akP{f}(h:YZ f=true):ud ρ f f:=by cases f with|func f=>exact .func f| _=>cases h
def akQ{ev:uah}(h:ug C ρ ev lO){c:Call}(e:Gg C.P c=true)(t:uaa):al C ρ Cf (resolve ev c t) (resolve lO c t):=by unfold resolve;simp only[Gg,vag]at e;have g:=h.args e.2;obtain⟨a,_⟩:=e;cases i:c.callee with|builtin b=>rw[i]at a;exact .pure ⟨.builtin b _ _ _ a,g⟩|invoke r n=>grind|value f=>rw[i]at a;have d:=h f a;simp only[];revert d;generalize ev f=v;generalize lO f=v';intro d;unfold Deferred.ofValue;cases d with|func j h1 h2 h3 h4=>exact .pure ⟨.fn j ⟨h2,h4⟩,aJ.append ⟨h1,h3⟩ g⟩|nilFunc=>exact .pure ⟨.nil,g⟩| _=>exact .stuck
def akR(c:C.cn){x:Value}(h:au ρ x x'){ev:uah}{o:Oper}{a:uam}(e0:o.op=.nilCheck a)(e1:ev a=x)(e2:lO a=x'):al C ρ (qd C) (execOp ev o) (execOp lO o):=by unfold execOp;rw[e0];simp only[e1,e2];have h2:=h;cases h with|l_|nilIface|nilFunc=>exact al.runtimePanic c _|func b=>cases b<;>exact .pure (.value h2)| _=>exact .pure (.value h2)
def Y5(j:C.cn)(q:C.ue)(hF:C.Cq){ev}(h:ug C ρ ev lO){o}(g:nb C.P C.upd o.op=true):al C ρ (qd C) (execOp ev o) (execOp lO o):=by
 cases p:o.op<;>rw[p]at g<;>try exact absurd g ver
 case nilCheck x=>exact akR j (h x g) p Y Y
 all_goals
  unfold execOp;rw[p]
 case move x=>exact .pure (.value (h _ g))
 case assign x=>exact .pure (.value (h _ g))
 case pick c a b=>
  simp only[nb,vag]at g;exact .bind (al.asBool (h _ g.1.1)) λσ b b' w e=>by subst e;cases b<;>first|exact .pure (.value ((h _ g.2).mono w))|exact .pure (.value ((h _ g.1.2).mono w))
 case alloc t=>grind[n5,ajB]
 case box t x=>exact n5 (ajC _ (h _ g))
 case build t ps=>exact n5 (ajI j q _ (h.parts g))
 case buildSlice t n ps=>exact n5 (ajK j q _ _ (h.parts g))
 case load t a=>exact n5 (ajz j _ (h _ g))
 case store t a x=>
  simp only[nb,vag]at g;exact Y0 (ajA j _ (h _ g.1) (h _ g.2))
 case binOp op t x y u=>
  simp only[nb,vag]at g;exact n5 (.bind (akr j _ _ _ _ (h _ g.1.2) (h _ g.2)) λσ _ _ w _=>akt j _ _ g.1.1 ((h _ g.1.2).mono w) ((h _ g.2).mono w))
 case unOp op t x=>exact by simp only[nb,vag]at g;exact n5 (akl _ g.1 (h _ g.2))
 case makeInterface t x=>exact n5 (ajT j _ (h _ g))
 case makeFunc fn a b=>
  simp only[nb,vag]at g;exact n5 (.pure (.Mx (akP g.1.1) (h.args g.1.2) (h.args g.2)))
 case makeSlice t l c=>
  simp only[nb,vag]at g;exact n5 (ajU j q _ (h _ g.1) (h _ g.2))
 case slice t x l D m=>
  simp only[nb,vag]at g;exact n5 (ajS j _ g.1.1.1.1 (h _ g.1.1.1.2) (h.R5 g.1.1.2) (h.R5 g.1.2) (h.R5 g.2))
 case fieldAddr s x f=>exact n5 (ajO j _ (h _ g) _)
 case indexAddr t x i=>
  simp only[nb,vag]at g;exact n5 (ajP j _ g.1.1 (h _ g.1.2) (h _ g.2))
 case index t x i=>
  simp only[nb,vag]at g;exact n5 (ajR j _ g.1.1 (h _ g.1.2) (h _ g.2))
 case makeMap t r=>
  cases r with|none=>exact n5 (ajW _)|some r=>cases g
 case lookup t x i ok=>
  simp only[nb,vag]at g;exact n5 (aka j q _ g.1.1 (h _ g.1.2) (h _ g.2) _)
 case mapUpdate t m k v=>
  simp only[nb,vag]at g;exact Y0 (akf j _ g.1.1.1 (h _ g.1.1.2) (h _ g.1.2) (h _ g.2))
 case extract t i=>exact n5 (ajX (h _ g) _)
 case call c=>
  simp only[nb,vem,vag]at g;rcases g with g|⟨z,g⟩
  .exact .bind (akQ h g _) λσ d B _ hd=>R4 j q hF hd.target hd.args
  .simp only[I8,vag]at g;have A:=h.args g.2;grind[resolve,akO]
 case convert s d x=>
  simp only[nb,vag]at g;exact n5 (akD j _ _ g.1 (h _ g.2))
 case panic x=>exact n5 (akA j (h _ g))
end
end
section
attribute [-simp] Sem.runT_eq
def ky(P:cE)(upd:Bool):Code->Bool
 | .skip| .exit _ | .label _ | .goto _ | .ret| .refuse _=>true
 | .region _ ops _=>ops.all λo=>nb P upd o.op
 | .seq a b=>ky P upd a&&ky P upd b
 | .cond c a b=>gC P c&&ky P upd a&&ky P upd b
 | .block _ b| .loop b| .scope b=>ky P upd b
 | .rangeFunc f _ a b=>gC P f&&ky P upd a&&ky P upd b
def cM.R7(C:cM):Prop:=∀c,C.ew c↔ky C.P C.upd c=true
inductive td(C:cM)(ρ:Ren):Item->Item->Prop
 |code {c:Code} (h:C.ew c):td C ρ (.code c) (.code c)
 |inBlock (id:Nat):td C ρ (.inBlock id) (.inBlock id)
 |inLoop {c:Code} (h:C.ew c):td C ρ (.inLoop c) (.inLoop c)
 |inScope {c:Code} (h:C.ew c):td C ρ (.inScope c) (.inScope c)
 |inRegion {ops:fF} (h:∀o∈ops,nb C.P C.upd o.op=true) (todo:uac):td C ρ (.inRegion ops todo) (.inRegion ops todo)
 |inRangeFunc {l l':Nat} (h:ρ.rel l l'):td C ρ (.inRangeFunc l) (.inRangeFunc l')
 |endRangeFunc {l l':Nat} (h:ρ.rel l l'):td C ρ (.endRangeFunc l) (.endRangeFunc l')
 |beginRound:td C ρ .beginRound .beginRound
theorem td.mono{C ρ σ}(c:Ren.le ρ σ){a b}(h:td C ρ a b):td C σ a b:=by cases h with|code h=>exact .code h|inBlock id=>exact .inBlock id|inLoop h=>exact .inLoop h|inScope h=>exact .inScope h|inRegion h t=>exact .inRegion h t|inRangeFunc h=>exact .inRangeFunc (c.1 _ _ h)|endRangeFunc h=>exact .endRangeFunc (c.1 _ _ h)|beginRound=>exact .beginRound
abbrev n6(C:cM)(ρ:Ren):=dJ (td C ρ)
theorem n6.mono{C:cM}{ρ σ:Ren}(c:Ren.le ρ σ){a b:uab}(h:n6 C ρ a b):n6 C σ a b:=dJ.mono (λ_ _ x=>x.mono c) h
structure AH(ρ:Ren)(e e':PanicEntry):Prop where
 v:au ρ e.v e'.v
 recovered:e.recovered=e'.recovered
 goexit:e.goexit=e'.goexit
theorem AH.mono{ρ σ}(c:Ren.le ρ σ){a b}(h:AH ρ a b):AH σ a b:=⟨h.v.mono c,h.recovered,h.goexit⟩
inductive xk(ρ:Ren):FrameMode->FrameMode->Prop
 |run:xk ρ .run .run
 |returning:xk ρ .returning .returning
 |panicking {l l':List PanicEntry} (h:dJ (AH ρ) l l'):xk ρ (.panicking l) (.panicking l')
theorem xk.mono{ρ σ}(c:Ren.le ρ σ){a b}(h:xk ρ a b):xk σ a b:=by cases h with|run=>exact .run|returning=>exact .returning|panicking h=>exact .panicking (dJ.mono (λ_ _ x=>x.mono c) h)
end
end av
namespace gD
structure qX where
 T:Nat->Bool
 K:Nat->Bool
 sl:TypeId->Bool
structure fT extends qX where
 V:Nat->Option Value
def Cs(D:qX):Operand->Bool
 | .tmp t=> !D.T t
 | _=>true
def Y9(D:qX)(c:Call):Bool:=match c.callee with
 | .builtin .len=>match c.args.toList,c.argTypes.toList with
  | [.tmp t],[ty]=>D.T t&&D.sl ty
  | _,_=>false
 | _=>false
def R8(D:qX)(o:Oper):Bool:=match o.op with
 | .load _ (.tmp t)=>D.T t
 | .indexAddr _ (.tmp t) _=>D.T t
 | .call c=>Y9 D c
 | _=>false
def Y_(D:qX)(o:Oper):Bool:=match o.op,o.dst with
 | .move (.tmp t),some d=>D.T t&&D.T d
 | _,_=>false
def Ct(D:qX)(o:Oper):Bool:=match o.dst with
 |some d=> !D.T d
 |none=>true
def R9(D:qX)(o:Oper):Bool:=match o.dst with
 |some d=> !D.K d
 |none=>true
def hX(D:qX)(o:Oper):Bool:=o.op.operands.all (Cs D)&& !(o.op matches .select ..)&&Ct D o
def R_(D:qX)(ops:fF)(o:Oper):Bool:=match o.guard with
 |some (g,_)=>match(ops[g]?).bind (·.dst)with
  |some t=> !D.T t
  |none=>true
 |none=>true
def vt(D:qX)(ops:fF)(o:Oper):Bool:=R_ D ops o&&R9 D o&&(hX D o||Y_ D o||R8 D o)
def nc(D:qX):Code->Bool
 | .region _ ops _=>ops.all (vt D ops)
 | .seq a b=>nc D a&&nc D b
 | .cond c a b=>Cs D c&&nc D a&&nc D b
 | .block _ c| .loop c=>nc D c
 | .skip| .exit _ | .ret=>true
 | _=>false
def fK(D:qX):Item->Bool
 | .code c=>nc D c
 | .inBlock _=>true
 | .inLoop c=>nc D c
 | .inRegion ops l=>l.all λi=>match ops[i]? with
  |some o=>vt D ops o
  |none=>true
 | _=>false
end gD
namespace av
open gD
structure Gh(P:cE)(D:fT)(ρ:Ren)(f f':Frame):Prop where
 size:f.tmps.size=f'.tmps.size
 same:∀i,D.T i=false->∀v v',f.tmps[i]?=some v->f'.tmps[i]?=some v'->au ρ v v'
 gone:∀i,D.T i=true->∀v,f.tmps[i]?=some v->v=undef
 kept:∀i,D.K i=true->f'.tmps[i]?=D.V i
 items:f.todo.all (fK D.1)=true
 defers:f.defers=[]
 sl:∀t,D.sl t=true->∃e,P.underlying t=some (.slice e)
 round:f.roundOf=none
def oN(P:cE):Option fT->Bool->Ren->Frame->Frame->Prop
 |some D,true,ρ,f,f'=>Gh P D ρ f f'
 |some _,false,ρ,f,f'=>aJ ρ f.tmps f'.tmps
 |none,_,ρ,f,f'=>aJ ρ f.tmps f'.tmps
structure eB(C:cM)(D:Option fT)(ρ:Ren)(e:Bool)(f f':Frame):Prop where
 fn:f.fn=f'.fn
 known:∃fn c,C.P.funcs[f.fn]?=some fn/\fn.body=some c
 tmps:oN C.P D e ρ f f'
 todo:n6 C ρ f.todo f'.todo
 defers:qV ρ f.defers f'.defers
 mode:xk ρ f.mode f'.mode
 kind:f.kind=f'.kind
 plain:f.kind=.normal\/f.kind=.deferred
 roundOf:m_ ρ.rel f.roundOf f'.roundOf
variable{P:cE}
section
variable{C:cM}{D:Option fT}{ρ σ:Ren}{e:Bool}{f f':Frame}
def oN.all(h:oN P D e ρ f f')(hn:∀d,D=some d->e=true->Gh P d ρ f f'->False):aJ ρ f.tmps f'.tmps:=by
 unfold oN at h;split at h
 .exact(hn _ Y Y h).elim
 .exact h
 .exact h
def oN.uh(h:oN P D e ρ f f'){d}(h1:D=some d)(h2:e=true):Gh P d ρ f f':=by subst h1 h2;exact h
theorem oN.of(h:(∀d,D=some d->e=true->False)->aJ ρ f.tmps f'.tmps)(hd:∀d,D=some d->e=true->Gh P d ρ f f'):oN P D e ρ f f':=by
 unfold oN;split
 .exact hd _ Y Y
 .exact h AS
 .exact h AS
def oN.aB(h:oN P D e ρ f f'){g g'}(h1:g.tmps=f.tmps)(h2:g'.tmps=f'.tmps)(h3:g.roundOf=f.roundOf)(hk:∀d,D=some d->e=true->f.todo.all (fK d.1)=true->f.defers=[]->g.todo.all (fK d.1)=true/\g.defers=[]):oN P D e ρ g g':=
 .of (λhn=>by rw[h1,h2];exact h.all λd a b _=>hn d a b) λd a b=>by have k:=h.uh a b;have:=hk d a b k.items k.defers;exact⟨by rw[h1,h2];exact k.size,by rw[h1,h2];exact k.same,by rw[h1];exact k.gone,by rw[h2];exact k.kept,this.1,this.2,k.sl,h3.trans k.round⟩
theorem eB.mono(c:Ren.le ρ σ)(h:eB C D ρ e f f'):eB C D σ e f f':=
 ⟨h.fn,h.known,.of (λhn=>(h.tmps.all λd a b _=>hn d a b).mono c) λd a b=>{h.tmps.uh a b with same:=λi hi v v' x y=>((h.tmps.uh a b).same i hi v v' x y).mono c},n6.mono c h.todo,qV.mono c h.defers,h.mode.mono c,h.kind,h.plain,h.roundOf.mono λ_ _ x=>c.1 _ _ x⟩
end
def AI(D:Option fT)(e:Bool)(f:Frame):Prop:=∀d,D=some d->e=true->∀ops i rest k,f.todo=.inRegion ops (i::rest)::k->∀o,ops[i]?=some o->Ct d.1 o=true
inductive jm(C:cM)(D:Option fT)(ρ:Ren):List Frame->List Frame->Prop
 |nil:jm C D ρ [] []
 |cons {f f':Frame} {cs dz:hH} (h:eB C D ρ cs.isEmpty f f') (hc:AI D cs.isEmpty f) (t:jm C D ρ cs dz):jm C D ρ (f::cs) (f'::dz)
theorem jm.mono{C:cM}{D:Option fT}{ρ σ:Ren}(d:Ren.le ρ σ){a b:hH}(h:jm C D ρ a b):jm C D σ a b:=by induction h with|nil=>exact .nil|cons h e _ c=>exact .cons (h.mono d) e c
def kz:Frame->List Frame->Prop
 |f,[]=>f.kind=.normal/\f.roundOf=none
 | _,c::cs=>kz c cs
def a4(fr:Frame)(cs:hH):Goroutine:={frame:=fr,callers:=cs,status:=.running,dying:=none}
def Za(C:cM)(D:Option fT)(S:Sync)(ρ:Ren)(b0 base:hH)(w':aR)(g1:uaj)(w1:aR)(s':GStep):Prop:=
 ∃σ qY cs1 ui Gi pn es',g1=a4 qY (cs1++b0)/\s'=.go (a4 ui (Gi++base)) pn es'/\eB C D σ cs1.isEmpty qY ui/\jm C D σ cs1 Gi/\kz qY cs1/\e_ C S σ w1 pn/\Grow ρ σ w' pn/\∀e∈es',Ch σ e
theorem Gj{p:cE}{fn:uak}{es:uat}{e:Event}(h:e∈seen p fn es):e∈es:=by
 unfold seen at h;obtain⟨l⟩:=es;simp only[List.foldl_toArray]at h;suffices key:∀(l:ubk)(q:Bool)(k:uat),e∈(l.foldl (λ(x:Bool×Array Event)(e:Event)=>match e.loc with
  | .mark (.extern f)=>((p.funcs[f]?).any (·.norace),x.2)
  | _=>(x.1,if x.1&& !e.sync then x.2 else x.2.push e)) (q,k)).2->e∈k\/e∈l by
  have:=key l _ _ h;grind
 intro l;induction l with|nil=>grind|cons x l a=>grind
section
variable{C:cM}{D:Option fT}{ρ:Ren}{e:Bool}{f f':Frame}
def eB.Sa(h:eB C D ρ e f f')(hg:∀g,g<=C.P.globals.size->ρ.rel g g){x:uam}(i:gC C.P x=true)(j:∀d,D=some d->e=true->Cs d.1 x=true):au ρ (f.eval x) (f'.eval x):=by
 cases x with
 |tmp t=>
  by_cases hn:∃d,D=some d/\e=true
  .obtain⟨d,h1,h2⟩:=hn;have k:=h.tmps.uh h1 h2;have ht:d.T t=false:=by simpa[Cs]using j d h1 h2
   simp only[Frame.eval,vcb];cases hv:f.tmps[t]? with
   |none=>rw[vdd,k.size,<-vdd]at hv;rw[hv];exact .undef ρ
   |some v=>
    have hi:t<f'.tmps.size:=by rw[<-k.size];grind
    have c:=vas hi;rw[c];exact k.same t ht v _ hv c
  .exact(h.tmps.all λd a b _=>hn ⟨d,a,b⟩).getD (.undef ρ) t
 |const v=>exact(YY 4 v i).rel ρ
 |global g=>exact .ptr ⟨hg g (Nat.le_of_lt (of_decide_eq_true i)),Y,Y⟩
 |func f=>exact .Mx (.func f) (.nil ρ) (.nil ρ)
theorem eB.eval(h:eB C D ρ e f f')(hg:∀g,g<=C.P.globals.size->ρ.rel g g)(hn:∀d,D=some d->e=true->False):ug C ρ f.eval f'.eval:=λx c=>h.Sa hg c λd a b=>(hn d a b).elim
theorem oN.set(h:oN P D e ρ f f'){g g' d v v'}(h1:g.tmps=f.tmps.setIfInBounds d v)(h2:g'.tmps=f'.tmps.setIfInBounds d v')(h3:g.roundOf=f.roundOf)(h4:g.defers=f.defers)(hv:(∀x,D=some x->e=true->x.T d=false)->au ρ v v')(hk:∀x,D=some x->e=true->(x.T d=true->v=undef)/\x.K d=false/\g.todo.all (fK x.1)=true):oN P D e ρ g g':=by
 refine .of (λhn=>?_) λx a b=>?_
 .rw[h1,h2];exact(h.all λd a b _=>hn d a b).set (hv λx a b=>(hn x a b).elim) d
 .have k:=h.uh a b;obtain⟨p,o,m⟩:=hk x a b;refine⟨by simp[h1,h2,k.size],λi hi u n j l=>?_,λi hi u j=>?_,λi hi=>?_,m,h4.trans k.defers,k.sl,h3.trans k.round⟩
  .rw[h1,vam]at j;rw[h2,vam,<-k.size]at l;by_cases hd:d=i
   .subst hd;have:=hv λy c _=>AA;grind
   .rw[vby hd]at j l;exact k.same i hi u n j l
  .rw[h1,vam]at j;by_cases hd:d=i
   .grind
   .rw[vby hd]at j;exact k.gone i hi u j
  .rw[h2,vam,vby (λhd=>AA)];exact k.kept i hi
theorem eB.finish(h:eB C D ρ e f f'){v v'}(hv:AI D e f->au ρ v v')(m:AI D e f\/v=undef):eB C D ρ e (f.finish v) (f'.finish v'):=by
 have ht:=h.todo;unfold Frame.finish;revert ht;cases j:f.todo with
 |nil=>intro ht;cases p:f'.todo with|nil=>exact h|cons a l=>rw[p]at ht;cases ht
 |cons i k=>
  intro ht;cases p:f'.todo with
  |nil=>rw[p]at ht;cases ht
  |cons i' k'=>
   rw[p]at ht;cases ht with
   |cons hi hk=>
    have no:∀{i:Item},f.todo=i::k->(∀d:qX,fK d i=false)->∀d,D=some d->e=true->f.todo.all (fK d.1)=true->False:=λh1 h2 d _ _ h3=>by rw[h1,vbu,h2]at h3;cases h3
    cases hi with
    |inRegion g todo=>
     cases todo with
     |nil=>exact h
     |cons n rest=>
      simp only[];refine⟨h.fn,h.known,?_,.cons (.inRegion g rest) hk,h.defers,h.mode,h.kind,h.plain,h.roundOf⟩;have q:∀x,D=some x->e=true->(Item.inRegion _ rest::k).all (fK x.1)=true/\∀o,(_:fF)[n]?=some o->vt x.1 _ o=true:=λx a b=>by have:=(h.tmps.uh a b).items;rw[j]at this;simp only[vbu,fK,vag]at this⊢;exact⟨⟨this.1.2,this.2⟩,λo g=>by have:=this.1.1;rw[g]at this;exact this⟩
      cases hd:((_:fF)[n]?).bind (·.dst)with
      |none=>exact h.tmps.aB Y Y Y λx a b _ hd=>⟨(q x a b).1,hd⟩
      |some d=>
       obtain⟨o,g,s⟩:=vbc.1 hd;refine h.tmps.set Y Y Y Y (λr=>hv λx a b ops i rest k' u o' t=>?_) λx a b=>⟨λr=>?_,?_,(q x a b).1⟩
       .rw[j]at u;cases u;rw[g]at t;cases t;simp[Ct,s,r x a b]
       .rcases m with m|m
        .have:=m x a b _ _ _ _ j o g;simp[Ct,s,r]at this
        .exact m
       .have:=(q x a b).2 o g;simp[vt,R9,s]at this;exact this.1.2
    |inRangeFunc w=>exact⟨h.fn,h.known,h.tmps.aB Y Y Y λd a b c _=>(no j Jg d a b c).elim,.cons (.endRangeFunc w) hk,h.defers,h.mode,h.kind,h.plain,h.roundOf⟩
    |beginRound=>exact⟨h.fn,h.known,h.tmps.aB Y Y Y λd a b c _=>(no j Jg d a b c).elim,hk,h.defers,h.mode,h.kind,h.plain,h.roundOf⟩
    | _=>exact h
end
end av
namespace av
variable{f f' g:Frame}{cs:hH}
section
attribute [-simp] Sem.runT_eq
def kz.push(h:kz f cs):kz g (f::cs):=h
def kz.Sc{c}(h:kz f (c::cs)):kz c cs:=h
def kz.same(h:kz f cs)(hk:g.kind=f.kind)(a:g.roundOf=f.roundOf):kz g cs:=by cases cs with|nil=>exact⟨hk.trans h.1,a.trans h.2⟩|cons c cs=>exact h
def MO(f:Frame)v:(f.finish v).kind=f.kind/\(f.finish v).roundOf=f.roundOf:=by unfold Frame.finish;grind
def Zb(f:Frame)c:(f.raise c).kind=f.kind/\(f.raise c).roundOf=f.roundOf:=by unfold Frame.raise;grind
section
variable{C:cM}{D:Option gD.fT}{ρ:Ren}{e:Bool}
def eB.Gk(h:eB C D ρ e f f'){m a}(b:xk ρ m a):eB C D ρ e {f with mode:=m} {f' with mode:=a}:=⟨h.fn,h.known,h.tmps.aB Y Y Y λ_ _ _ x y=>⟨x,y⟩,h.todo,h.defers,b,h.kind,h.plain,h.roundOf⟩
theorem eB.raise(h:eB C D ρ e f f'){c c'}(b:dJ (AH ρ) c c'):eB C D ρ e (f.raise c) (f'.raise c'):=by have a:=h.mode;unfold Frame.raise;generalize f.mode=m at a;generalize f'.mode=m' at a;cases a with|run=>exact h.Gk (.panicking b)|returning=>exact h.Gk (.panicking b)|panicking d=>exact h.Gk (.panicking (b.append d))
def eB.Sd(h:eB C D ρ e f f'){t c:uab}(ht:n6 C ρ t c)(hk:∀d,D=some d->e=true->f.todo.all (gD.fK d.1)=true->t.all (gD.fK d.1)=true):eB C D ρ e {f with todo:=t} {f' with todo:=c}:=⟨h.fn,h.known,h.tmps.aB Y Y Y λd a b x y=>⟨hk d a b x,y⟩,ht,h.defers,h.mode,h.kind,h.plain,h.roundOf⟩
def eB.Zc(h:eB C D ρ e f f'){d a}(hd:qV ρ d a)(hn:f.defers≠[]):eB C D ρ e {f with defers:=d} {f' with defers:=a}:=⟨h.fn,h.known,h.tmps.aB Y Y Y λ_ _ _ _ y=>absurd y hn,h.todo,hd,h.mode,h.kind,h.plain,h.roundOf⟩
def aJ.akU n:aJ ρ (Array.replicate n undef) (Array.replicate n undef):=by
 refine⟨Y,λi v v' h1 h2=>?_⟩;rw[h1]at h2;cases h2;rw[Array.getElem?_replicate]at h1;split at h1
 .cases h1;exact .undef ρ
 grind
def Se{P}(c:D=none\/e=false)(h:aJ ρ f.tmps f'.tmps):oN P D e ρ f f':=.of (λ_=>h) λd a b=>by grind
theorem eB.enter(hF:C.Cq){f:uak}{fn:Func}{c:Code}{a a':dX}(h:aJ ρ a a')(b:C.P.funcs[f]?=some fn)(d:fn.body=some c){k:CallKind}(hk:k=.normal\/k=.deferred)(g:D=none\/e=false):
 eB C D ρ e (Frame.enter C.P f a k) (Frame.enter C.Q f a' k):=by
 obtain⟨hq,hok,_⟩:=hF.body f fn c b d;unfold Frame.enter;simp only[b,hq,d,vcy,vaf,vcv,h.size];exact⟨Y,⟨fn,c,b,d⟩,Se g (h.append (.akU _)),.cons (.code hok) .nil,.nil,.run,Y,hk,.none⟩
theorem eB.round{l l':Nat}{f:uak}(d:∃fn c,C.P.funcs[f]?=some fn/\fn.body=some c){t a:dX}{assign body:Code}(b:ρ.rel l l')(ht:aJ ρ t a)(i:C.ew assign)(h:C.ew body){k:CallKind}(hk:k=.normal\/k=.deferred)(g:D=none\/e=false):
 eB C D ρ e (Frame.round l f t assign body k) (Frame.round l' f a assign body k):=
 ⟨Y,d,Se g ht,.cons (.code i) (.cons .beginRound (.cons (.code h) .nil)),.nil,.run,Y,hk,.some b⟩
