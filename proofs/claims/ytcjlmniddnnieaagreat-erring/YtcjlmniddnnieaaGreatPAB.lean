import Derived.WalkSpells
import Derived.WalkLawsBesides
import Derived.Deep.AppendLies
import Derived.Test.YtcjlmniddnnieaaGreatPAA
set_option linter.all false
set_option maxRecDepth 100000
set_option maxHeartbeats 16000000
namespace Go.Proofs.YtcjlmniddnnieaaGreat
def vaa:=@Go.RowKit.Below.refl
def vag:=@Go.Conc.Goes.stop
def vai:=@Go.bodyPost_ret
def vaq:=@Go.Conc.stepG_value
def vas:=@Go.Sem.runT_eq
def vaw:=@Go.RowKit.Below.heap_setCell
def vbj:=@Go.Conc.getElem?_append_cases
def vcc:=@Go.World.ownsRow_nil
def vcj:=@Go.Frame.finish_at
def vcl:=@Go.World.ownsRow.alloc
def vcv:=@Go.info_parts
def vcw:=@Go.Result.andThen_ok
def vcy:=@Go.GStep.go.injEq
def vda:=@Go.Conc.stepG_none
def vdg:=@Go.Conc.goes_go
def vdh:=@Go.Conc.stepG_region_end
def vdm:=@Go.RowKit.Below.heap_alloc
def vdp:=@Go.Conc.stepG_seq
abbrev cy(w v:Go.World):Prop:=Go.RowKit.Below w.heap.size w v
namespace au
inductive dx{ao aO:Type}(R:ao->aO->Prop):List ao->List aO->Prop
 |nil:dx R [] []
 |cons {a:ao} {b:aO} {l:List ao} {m:List aO} (h:R a b) (t:dx R l m):dx R (a::l) (b::m)
theorem dx.mono{ao aO:Type}{R S:ao->aO->Prop}(d:∀a b,R a b->S a b){l:List ao}{m:List aO}(h:dx R l m):dx S l m:=by induction h with|nil=>exact .nil|cons h _ c=>exact .cons (d _ _ h) c
theorem dx.append{ao aO:Type}{R:ao->aO->Prop}{l l2:List ao}{m a:List aO}(h:dx R l m)(k:dx R l2 a):dx R (l++l2) (m++a):=by induction h with|nil=>exact k|cons h _ b=>exact .cons h b
theorem dx.length{ao aO:Type}{R:ao->aO->Prop}{l:List ao}{m:List aO}(h:dx R l m):l.length=m.length:=by induction h with|nil=>rfl|cons _ _ a=>grind
def dx.Il{ρ:Ren}{a a':fi}(h:aM ρ a a'):dx (ax ρ) a.toList a'.toList:=by obtain⟨l⟩:=a;obtain⟨m⟩:=a';simp only;induction l generalizing m with|nil=>have:=h.size;simp at this;have:m=[]:=List.length_eq_zero_iff.1 this.symm;subst this;exact .nil|cons x l c=>cases m with|nil=>have:=h.size;grind|cons y m=>refine .cons (h.get 0 x y AQ AQ) (c m ⟨by have:=h.size;grind,λi v v' a b=>h.get (i+1) v v' AJ AJ⟩)
def aM.Mc{ρ:Ren}{l m:uaj}(h:dx (ax ρ) l m):aM ρ l.toArray m.toArray:=by induction h with|nil=>exact .nil ρ|@cons a b l m h _ c=>have e:∀(x:Value)(l:uaj),(x::l).toArray=#[x]++l.toArray:=λx l=>AQ;grind[aM.one,append]
def Q9:Builtin->Bool
 | .append| .cap| .copy| .len=>true
 | _=>false
inductive uZ(ρ:Ren):Target->Target->Prop
 |fn {f f':Fn} {c c':fi} (h:tM ρ f f') (k:aM ρ c c'):uZ ρ (.fn f c) (.fn f' c')
 |nil:uZ ρ .nil .nil
 |builtin (b:Builtin) (ats:uap) (t:uab) (cs:uar) (hb:Q9 b=true):uZ ρ (.builtin b ats t cs) (.builtin b ats t cs)
 |collected {r r':Nat} (h:ρ.rel r r'):uZ ρ (.collected r) (.collected r')
structure Av(ρ:Ren)(d d':Deferred):Prop where
 target:uZ ρ d.target d'.target
 args:aM ρ d.args d'.args
theorem uZ.mono{ρ σ:Ren}(c:Ren.le ρ σ){a a':Target}(h:uZ ρ a a'):uZ σ a a':=by cases h with|fn h k=>exact .fn (h.mono c) (k.mono c)|nil=>exact .nil|builtin b ats t cs d=>exact .builtin b ats t cs d|collected h=>exact .collected (c.1 _ _ h)
theorem Av.mono{ρ σ:Ren}(b:Ren.le ρ σ){a a':Deferred}(h:Av ρ a a'):Av σ a a':=⟨h.target.mono b,h.args.mono b⟩
abbrev rM(ρ:Ren):List Deferred->List Deferred->Prop:=dx (Av ρ)
theorem rM.mono{ρ σ:Ren}(b:Ren.le ρ σ){a a':List Deferred}(h:rM ρ a a'):rM σ a a':=dx.mono (λ_ _ x=>x.mono b) h
structure Md(ρ:Ren)(e e':MapEntry):Prop where
 key:ax ρ e.key e'.key
 val:ax ρ e.val e'.val
 born:e.born=e'.born
theorem Md.mono{ρ σ:Ren}(b:Ren.le ρ σ){a a':MapEntry}(h:Md ρ a a'):Md σ a a':=⟨h.key.mono b,h.val.mono b,h.born⟩
def yf(fr:ubv)(i:Nat):Prop:=fr.1<=i/\i<fr.2
def Me:Obj->Prop
 | .map .. | .stringIter .. | .mapIter .. | .loop _ | .deferred _ | .coro _ | .finalizers .. =>True
 | _=>False
structure cQ where
 P:cf
 Q:cf
 me:Code->Prop
 upd:Bool
structure Im(C:cQ)(ρ:Ren)(l l':Loop):Prop where
 state:l.state=l'.state
 pending:l.pending=l'.pending
 Mf:∀c,l.pending=some c->C.me c
 fn:l.fn=l'.fn
 known:∃fn c,C.P.funcs[l.fn]?=some fn/\fn.body=some c
 tmps:aM ρ l.tmps l'.tmps
 params:l.params=l'.params
 assign:l.assign=l'.assign
 In:C.me l.assign
 body:l.body=l'.body
 Io:C.me l.body
 defers:ρ.rel l.defers l'.defers
theorem Im.mono{C:cQ}{ρ σ:Ren}(b:Ren.le ρ σ){a a':Loop}(h:Im C ρ a a'):Im C σ a a':=
 ⟨h.state,h.pending,h.Mf,h.fn,h.known,h.tmps.mono b,h.params,h.assign,h.In,h.body,h.Io,b.1 _ _ h.defers⟩
inductive h7(C:cQ)(ρ:Ren):Obj->Obj->Prop
 |cells {c c':fi} (elem:uab) {fr aP:ubv} (h:aM ρ c c') (hf:(∀i,yf aP i->yf fr i)/\(C.upd=true->aP=fr)):h7 C ρ (.cells c elem fr) (.cells c' elem aP)
 |map {es es':Array MapEntry} (clock:Nat) (h:dx (Md ρ) es.toList es'.toList):h7 C ρ (.map es clock) (.map es' clock)
 |stringIter (s:ByteArray) (p:Nat):h7 C ρ (.stringIter s p) (.stringIter s p)
 |B4 (since:Nat) (seen:Array Nat) (st:Nat):h7 C ρ (.mapIter none since seen st) (.mapIter none since seen st)
 |mapIter {m m':Nat} (h:ρ.rel m m') (since:Nat) (seen:Array Nat) (st:Nat):h7 C ρ (.mapIter (some m) since seen st) (.mapIter (some m') since seen st)
 |loop {l l':Loop} (h:Im C ρ l l'):h7 C ρ (.loop l) (.loop l')
 |deferred {l l':List Deferred} (h:rM ρ l l'):h7 C ρ (.deferred (some l)) (.deferred (some l'))
 |taken:h7 C ρ (.deferred none) (.deferred none)
 |number {a a':Addr} (h:dE ρ a a') (B5:Bool):h7 C ρ (.number a B5) (.number a' B5)
 |shut {o':Obj} (h:Me o'):h7 C ρ (.coro none) o'
theorem h7.mono{C:cQ}{ρ σ:Ren}(d:Ren.le ρ σ){a a':Obj}(h:h7 C ρ a a'):h7 C σ a a':=by cases h with|cells e h f=>exact .cells e (h.mono d) f|map c h=>exact .map c (dx.mono (λ_ _ x=>x.mono d) h)|stringIter s p=>exact .stringIter s p|B4 a b c=>exact .B4 a b c|mapIter h a b c=>exact .mapIter (d.1 _ _ h) a b c|loop h=>exact .loop (h.mono d)|deferred h=>exact .deferred (h.mono d)|taken=>exact .taken|number h l=>exact .number (h.mono d) l|shut h=>exact .shut h
structure Sync where
 a:Nat
 b:Nat
 bound:Nat
 T:Nat->Question->Nat
inductive FC:Obj->Prop
 |coro:FC (.coro none)
 |number (a:Addr) (l:Bool):FC (.number a l)
structure et(C:cQ)(S:Sync)(ρ:Ren)(w w':aH):Prop where
 obj:∀b b',ρ.rel b b'->∃o o',w.heap[b]?=some o/\w'.heap[b']?=some o'/\h7 C ρ o o'
 one:∀a b b',ρ.rel a b->ρ.rel a b'->b=b'
 inj:∀a a' b,ρ.rel a b->ρ.rel a' b->a=a'
 nL:∀g,g<=C.P.globals.size->ρ.rel g g
 sync:w.drawn+S.b=w'.drawn+S.a
 tape:∀j q,w'.drawn+j<S.bound->w.tape (w.drawn+j) q=w'.tape (w'.drawn+j) q
 env:w.os.env=w'.os.env
 lone:w.tape=S.T
 still:∀b b',ρ.rel b b'->¬ρ.mine b'->(C.upd=false/\∃c e fr,w.heap[b]?=some (.cells c e fr)/\∀i,i<c.size->yf fr i)\/(C.upd=false/\∃es k,w.heap[b]?=some (.map es k))\/∃o,w.heap[b]?=some o/\FC o
def w7(ρ:Ren)(e:Event):Prop:=
 match e.loc with
 | .cell a=>(∃b,ρ.rel b a.block)/\(e.write=true->ρ.mine a.block)/\e.sync=false
 | .obj r=>(∃b,ρ.rel b r)/\(e.write=true->ρ.mine r)/\e.sync=false
 | .mark .noRoom| .mark (.extern _)| .output=>True
 | _=>False
theorem w7.mono{ρ σ:Ren}(b:Ren.le ρ σ){e:Event}(h:w7 ρ e):w7 σ e:=by obtain⟨l,wr,c⟩:=e;unfold w7 at h⊢;cases l with|cell a=>exact⟨h.1.imp λ_ x=>b.1 _ _ x,λx=>b.2 _ (h.2.1 x),h.2.2⟩|obj a=>exact⟨h.1.imp λ_ x=>b.1 _ _ x,λx=>b.2 _ (h.2.1 x),h.2.2⟩|mark m=>grind|output=>exact h|goroutines=>exact h
structure Grow(ρ σ:Ren)(w' lP:aH):Prop where
 le:Ren.le ρ σ
 back:∀b,σ.mine b->ρ.mine b\/w'.heap.size<=b
 size:w'.heap.size<=lP.heap.size
 low:∀b,σ.mine b->ρ.mine b\/b<lP.heap.size
 old:∀a b,σ.rel a b->ρ.rel a b\/w'.heap.size<=b
 kept:∀b,b<w'.heap.size->¬ρ.mine b->lP.heap[b]?=w'.heap[b]?
 os:lP.os=w'.os
 output:lP.output=w'.output
 tape:lP.tape=w'.tape
 drawn:w'.drawn<=lP.drawn
theorem Grow.refl(ρ:Ren)(w:aH):Grow ρ ρ w w:=⟨Ren.le_refl _,λ_ h=>.inl h,vad _,λ_ h=>.inl h,λ_ _ h=>.inl h,λ_ _ _=>Y,Y,Y,Y,vad _⟩
theorem Grow.trans{ρ σ e:Ren}{w w1 w2:aH}(h:Grow ρ σ w w1)(k:Grow σ e w1 w2):Grow ρ e w w2:=
 ⟨Ren.le_trans h.le k.le,λb x=>(k.back b x).elim (λy=>h.back b y) (λy=>.inr (vac h.size y)),vac h.size k.size,
  λb x=>(k.low b x).elim (λy=>(h.low b y).imp id λz=>vav z k.size) .inr,
  λa b x=>(k.old a b x).elim (λy=>h.old a b y) (λy=>.inr (vac h.size y)),
  λb c d=>by rw[k.kept b (vav c h.size) (λy=>(h.back b y).elim d (λz=>absurd c (Nat.not_lt.2 z)))];exact h.kept b c d,
  k.os.trans h.os,k.output.trans h.output,k.tape.trans h.tape,vac h.drawn k.drawn⟩
inductive yg{ao aO:Type}(C:cQ)(S:Sync)(ρ:Ren)(R:Ren->ao->aO->Prop):Result ao->Result aO->aH->Prop
 |ok {a:ao} {b:aO} {w w':aH} (h:R ρ a b) (hw:et C S ρ w w'):yg C S ρ R (.ok a w) (.ok b w') w'
 |panic {v v':Value} {w w':aH} (h:ax ρ v v') (hw:et C S ρ w w'):yg C S ρ R (.halt (.panic v) w) (.halt (.panic v') w') w'
 |goexit {w w':aH} (hw:et C S ρ w w'):yg C S ρ R (.halt .goexit w) (.halt .goexit w') w'
def Good{ao:Type}:Result ao->Prop
 | .ok _ _=>True
 | .halt (.panic _) _ | .halt .goexit _ | .halt (.unsupported (.initOrder _)) _=>True
 | _=>False
def ap{ao aO:Type}(C:cQ)(ρ:Ren)(R:Ren->ao->aO->Prop)(m:Sem ao)(m':Sem aO):Prop:=
 ∀(S:Sync)(w w':aH),et C S ρ w w'->Good (m.run C.P w)->(lw (m'.run C.Q w')).drawn<=S.bound->
  ∃(σ:Ren)(w1:aH),yg C S σ R (m.run C.P w) (m'.run C.Q w') w1/\Grow ρ σ w' w1/\
   ∀es,∃d,m'.events C.Q w' es=es++d/\∀e∈d,w7 σ e
def pM{ao aO:Type}(R:Ren->ao->aO->Prop):Prop:=∀ρ σ a b,Ren.le ρ σ->R ρ a b->R σ a b
variable{v v':Value}
section
variable{ao aO γ Ip:Type}{C:cQ}{ρ:Ren}
theorem ap.pure{R:Ren->ao->aO->Prop}{a:ao}{b:aO}(h:R ρ a b):ap C ρ R (Pure.pure a) (Pure.pure b):=by intro S w w' c _ _;exact⟨ρ,w',.ok h c,.refl _ _,λes=>⟨#[],by simp[Sem.events,Pure.pure,Sem.runT],AQ⟩⟩
def nd(m:Sem ao)(f:ao->Sem aO)(P:cf)(w:aH):(m>>= f).run P w=match m.run P w with| .ok a w1=>(f a).run P w1| .halt h w1=>.halt h w1:=by
 show(m.bind f).run P w=_;induction m generalizing w with
 |pure a=>rfl
 |load md a k b=>grind[Sem.bind,Sem.run]
 |store md a v k b=>
  cases v with
  |agg c=>rfl
  |tuple c=>rfl
  | _=>
   simp only[Sem.bind,Sem.run];cases w.cell? a with
   |some v=>
    simp only[];split
    .rfl
    .exact b _
   |none=>
    simp only[];split
    .exact b _
    .rfl
 |new o k b=>exact b _ _
 |shape r k b=>exact b _ _
 |freeze a n k b=>exact b _
 |frozen a k b=>exact b _ _
 |getObj r k b=>grind[Sem.bind,Sem.run]
 |setObj r o k b=>grind[Sem.bind,Sem.run]
 |choose q k b=>grind[Sem.bind,Sem.run]
 |sys c k b=>exact b _ _
 |program k b=>exact b _ _
 |mark m k b=>exact b _
 |halt h=>rfl
theorem Q_(m:Sem ao)(f:ao->Sem aO)(P:cf)(w:aH)(es:uao):(m>>= f).events P w es=match m.run P w with| .ok a w1=>(f a).events P w1 (m.events P w es)| .halt _ _=>m.events P w es:=by
 show(m.bind f).events P w es=_;unfold Sem.events;induction m generalizing w es with
 |pure a=>rfl
 |load md a k b=>grind[Sem.bind,Sem.run,Sem.runT]
 |store md a v k b=>
  cases v with
  |agg c=>rfl
  |tuple c=>rfl
  | _=>
   simp only[Sem.bind,Sem.run,Sem.runT];cases w.cell? a with
   |some v=>
    simp only[];by_cases d:w.frozen? a=true
    .simp only[d,vbr]
    .simp only[d];exact b _ _
   |none=>simp only[];cases e:w.farStore P a _ (md== .atomic)with|ok r=>exact b _ _|error h=>rfl
 |new o k b=>exact b _ _ _
 |shape r k b=>exact b _ _ _
 |freeze a n k b=>exact b _ _
 |frozen a k b=>exact b _ _ _
 |getObj r k b=>grind[Sem.bind,Sem.run,Sem.runT]
 |setObj r o k b=>grind[Sem.bind,Sem.run,Sem.runT]
 |choose q k b=>simp only[Sem.bind,Sem.run,Sem.runT];grind
 |sys c k b=>exact b _ _ _
 |program k b=>exact b _ _ _
 |mark m k b=>exact b _ _
 |halt h=>rfl
theorem ap.bind{R:Ren->ao->aO->Prop}{S:Ren->γ->Ip->Prop}{m:Sem ao}{i:Sem aO}{f:ao->Sem γ}{f':aO->Sem Ip}(h:ap C ρ R m i)(k:∀σ a b,Ren.le ρ σ->R σ a b->ap C σ S (f a) (f' b)):ap C ρ S (m>>= f) (i>>= f'):=by
 intro S w w' z hg g;rw[nd]at hg⊢;have H:(lw (i.run C.Q w')).drawn<=S.bound:=by rw[nd]at g;cases d:i.run C.Q w' with|ok b j=>rw[d]at g;exact vac (B3 C.Q (f' b) j).1 g|halt x j=>rw[d]at g;exact g
 have r:Good (m.run C.P w):=by
  cases n:m.run C.P w with
  |ok a w1=>trivial
  |halt x w1=>
   rw[n]at hg;cases x with
   |unsupported u=>cases u<;>first|exact hg|trivial
   | _=>first|exact hg|trivial
 obtain⟨σ,w1,c,o,F⟩:=h S w w' z r H;rw[nd]at g⊢;cases n:m.run C.P w with
 |ok a s=>
  rw[n]at c hg;cases d:i.run C.Q w' with
  |ok b j=>
   rw[d]at c g;cases c with
   |ok p l=>
    obtain⟨D,w2,v,t,q⟩:=k σ a b o.le p S s _ l hg g;refine⟨D,w2,v,o.trans t,λes=>?_⟩;obtain⟨d1,J,E⟩:=F es;obtain⟨B,I,K⟩:=q (i.events C.Q w' es);refine⟨d1++B,?_,λe A=>?_⟩
    .grind[Q_]
    .rcases vdn.1 A with x|x
     .exact(E e x).mono t.le
     grind
  |halt x j=>rw[d]at c;cases c
 |halt x s=>rw[n]at c;cases d:i.run C.Q w' with|ok b j=>rw[d]at c;cases c|halt y j=>rw[d]at c;cases c with|panic p l=>refine⟨σ,_,.panic p l,o,λes=>?_⟩;simp_all[Q_]|goexit l=>refine⟨σ,_,.goexit l,o,λes=>?_⟩;simp_all[Q_]
theorem ap.mono{R S:Ren->ao->aO->Prop}{m:Sem ao}{d:Sem aO}(h:ap C ρ R m d)(k:∀σ a b,Ren.le ρ σ->R σ a b->S σ a b):ap C ρ S m d:=by intro S w w' c hg i;obtain⟨σ,w1,f,g,j⟩:=h S w w' c hg i;refine⟨σ,w1,?_,g,j⟩;generalize m.run C.P w=r at f;generalize d.run C.Q w'=r' at f;cases f with|ok e c=>exact .ok (k _ _ _ g.le e) c|panic e c=>exact .panic e c|goexit c=>exact .goexit c
def ap.ite{R:Ren->ao->aO->Prop}{c:Prop}[Decidable c]{a b:Sem ao}{a' b':Sem aO}(h:c->ap C ρ R a a')(k:¬c->ap C ρ R b b'):ap C ρ R (if c then a else b) (if c then a' else b'):=by grind
theorem ap.none{R:Ren->ao->aO->Prop}{m:Sem ao}{a:Sem aO}(h:∀w,¬Good (m.run C.P w)):ap C ρ R m a:=λ_ w _ _ hg _=>absurd hg (h w)
theorem ap.stuck{R:Ren->ao->aO->Prop}{s:String}{a:Sem aO}:ap C ρ R (Go.stuck s) a:=.none λ_ h=>h
theorem ap.unsupported{R:Ren->ao->aO->Prop}{u:Unsupported}{a:Sem aO}(b:∀g,u≠ .initOrder g:=by intro g h;cases h):ap C ρ R (Go.unsupported u) a:=.none λ_ h=>by cases u with|initOrder g=>grind| _=>exact h
theorem ap.throw{R:Ren->ao->aO->Prop}{s:String}{a:Sem aO}:ap C ρ R (Go.throw s) a:=.none λ_ h=>h
theorem ap.goPanic{R:Ren->ao->aO->Prop}(h:ax ρ v v'):ap C ρ R (Go.goPanic v) (Go.goPanic v'):=by intro S w w' a _ _;exact⟨ρ,w',.panic h a,.refl _ _,λes=>⟨#[],by simp[Sem.events,Go.goPanic,Sem.runT],AQ⟩⟩
end
variable{a a':Addr}{r r':Nat}{c:fi}{x:Value}{P:cf}{o o':Obj}
section
attribute [-simp] Sem.runT_eq
section
variable{C:cQ}{S:Sync}{ρ:Ren}{w w':aH}
def et.lt(h:et C S ρ w w'){a b:Nat}(r:ρ.rel a b):a<w.heap.size/\b<w'.heap.size:=by obtain⟨o,o',d,c,_⟩:=h.obj a b r;grind
theorem et.cells(h:et C S ρ w w'){a b:Nat}(r:ρ.rel a b){c:fi}{e:uab}{fr:ubv}(f:w.heap[a]?=some (.cells c e fr)):
 ∃c' aP,w'.heap[b]?=some (.cells c' e aP)/\aM ρ c c'/\∀i,yf aP i->yf fr i:=by
 obtain⟨o,o',d,k,j⟩:=h.obj a b r;rw[f]at d;cases d;cases j with|cells e g hF=>exact⟨_,_,k,g,hF.1⟩
def et.other(h:et C S ρ w w'){a b:Nat}(r:ρ.rel a b)(j:∀c e fr,w.heap[a]?≠some (.cells c e fr)):
 ∃o o',w.heap[a]?=some o/\w'.heap[b]?=some o'/\h7 C ρ o o'/\(∀c e fr,o'≠ .cells c e fr)/\(∀x t,o'≠ .view x t)/\(∀x t,o'≠ .pending x t)/\o'.isChan=false:=by
 obtain⟨o,o',i,g,d⟩:=h.obj a b r;refine⟨o,o',i,g,d,?_⟩;cases d with
 |cells e k hF=>grind
 |shut f=>cases o'<;>first|exact f.elim|exact⟨AQ,AQ,AQ,Y⟩
 | _=>exact⟨AQ,AQ,AQ,Y⟩
theorem u9{w:aH}(h:w.cell? a=some v):∃c e fr,w.heap[a.block]?=some (.cells c e fr)/\a.spot=none/\c[a.off]?=some v:=by
 unfold World.cell? at h;split at h
 .simp_all
 grind
theorem oo{w:aH}{e:uab}{fr:ubv}(h:w.heap[a.block]?=some (.cells c e fr))(hs:a.spot=none)(hv:c[a.off]?=some v):w.cell? a=some v:=by grind[World.cell?]
theorem et.cell(h:et C S ρ w w')(r:dE ρ a a')(hv:w.cell? a=some v):∃v',w'.cell? a'=some v'/\ax ρ v v':=by obtain⟨c,e,fr,k,j,i⟩:=u9 hv;obtain⟨c',aP,f,d,_⟩:=h.cells r.1 k;obtain⟨v',b,g⟩:=d.some i;exact⟨v',oo f (r.2.2▸j) (r.2.1▸b),g⟩
def aiM{ao:Type}(h:et C S ρ w w')(r:dE ρ a a')(hn:w.cell? a=none)(m:Mode)(k:Value->Sem ao):¬Good ((Sem.load m a k).run C.P w):=by
 simp only[Sem.run,hn];obtain⟨o,o',c,d,b⟩:=h.obj _ _ r.1;have:w.farLoad C.P a (m== .atomic)=.error (w.noCell a "load: no such cell"):=by unfold World.farLoad;rw[c];cases b<;>rfl
 rw[this];simp only[World.noCell,c];cases b<;>exact id
theorem ap.load(r:dE ρ a a'):ap C ρ ax (Go.load a) (Go.load a'):=by
 intro S w w' b hg _;cases d:w.cell? a with
 |none=>exact absurd hg (aiM b r d _ _)
 |some v=>
  obtain⟨v',c,g⟩:=b.cell r d;refine⟨ρ,w',?_,.refl _ _,λes=>⟨#[⟨.cell a',false,false⟩],?_,?_⟩⟩
  .simp only[Go.load,Sem.run,d,c];exact .ok g b
  .grind[Sem.events,Go.load,Sem.runT]
  .intro e f;simp at f;subst f;exact⟨⟨_,r.1⟩,AQ,Y⟩
theorem et.setCell(h:et C S ρ w w')(r:dE ρ a a')(hv:ax ρ v v')(q:ρ.mine a'.block):et C S ρ (w.setCell a v) (w'.setCell a' v'):=by
 have get:∀(w:aH)(a:Addr)(v:Value)(b:Nat),(w.setCell a v).heap[b]?=(w.heap[b]?).map (λo=>if a.block=b then(match o with| .cells c e f=>.cells (if a.spot.isSome then c else c.setIfInBounds a.off v) e f|o=>o)else o):=by grind[World.setCell]
 refine⟨λb b' d=>?_,h.one,h.inj,h.nL,h.sync,h.tape,h.env,h.lone,λb b' d hn=>?_⟩
 .obtain⟨o,o',g,j,t⟩:=h.obj b b' d;rw[get,get,g,j];simp only[vby];refine⟨_,_,Y,Y,?_⟩;by_cases e:a.block=b
  .subst e;have m:a'.block=b':=h.one _ _ _ r.1 d;subst m;simp only[vbr];cases t with
   |cells el i hF=>
    simp only[r.2.2,r.2.1];by_cases hs:a'.spot.isSome=true
    .simp only[hs,vbr];exact .cells el i hF
    .simp only[hs];exact .cells el (i.set hv _) hF
   |map c h=>exact .map c h
   |stringIter s p=>exact .stringIter s p
   |B4 a b c=>exact .B4 a b c
   |mapIter h a b c=>exact .mapIter h a b c
   |loop h=>exact .loop h
   |deferred h=>exact .deferred h
   |taken=>exact .taken
   |number h l=>exact .number h l
   |shut h=>cases o'<;>first|exact h.elim|exact .shut trivial
  .have m:a'.block≠b':=λx=>e (h.inj _ _ _ (x▸r.1) d);grind
 .have e:a.block≠b:=λx=>hn (h.one _ _ _ r.1 (x▸d)▸q);rw[get];rcases h.still b b' d hn with⟨n,c,el,fr,g,j⟩|⟨n,es,k,g⟩|⟨o,g,hd⟩
  .grind
  .grind
  grind
def ax.aiN(h:ax ρ v v'):((∃c,v=.agg c)\/∃c,v=.tuple c)\/((∀c,v≠ .agg c)/\(∀c,v≠ .tuple c)/\(∀c,v'≠ .agg c)/\(∀c,v'≠ .tuple c)):=by cases h with|agg=>grind|tuple=>grind| _=>exact .inr ⟨AQ,AQ,AQ,AQ⟩
def run_store{ao:Type}{md:Mode}{k:Sem ao}(f:∀c,v≠ .agg c)(e:∀c,v≠ .tuple c)(d:w.cell? a=some x)(b:w.frozen? a=false):
 (Sem.store md a v k).run P w=k.run P (w.setCell a v):=by
 simp_all[Sem.run]
theorem events_store{ao:Type}{md:Mode}{k:Sem ao}(f:∀c,v≠ .agg c)(e:∀c,v≠ .tuple c)(d:w.cell? a=some x)(b:w.frozen? a=false)(es:uao):
 (Sem.store md a v k).events P w es=k.events P (w.setCell a v) (es.push ⟨.cell a,true,md== .atomic⟩):=by
 simp_all[Sem.events,Sem.runT]
theorem ap.store(r:dE ρ a a')(hv:ax ρ v v'):ap C ρ (λ_(_ _:Unit)=>True) (Go.store a v) (Go.store a' v'):=by
 intro S w w' d hg _;rcases hv.aiN with(⟨c,rfl⟩|⟨c,rfl⟩)|⟨u,B,t,A⟩
 .exact hg.elim
 .exact hg.elim
 cases g:w.cell? a with
 |none=>
  exfalso;obtain⟨o,o',p,N,n⟩:=d.obj _ _ r.1;have I:∀v,w.farStore C.P a v (Mode.plain== .atomic)=.error (w.noCell a "store: no such cell"):=by intro v;unfold World.farStore;rw[p];cases n<;>rfl
  have:(Go.store a v).run C.P w=.halt (w.noCell a "store: no such cell") w:=by simp_all[Go.store,Sem.run]
  rw[this]at hg;simp only[World.noCell,p]at hg;cases n<;>exact hg
 |some x=>
  obtain⟨x',E,_⟩:=d.cell r g;obtain⟨c,e,fr,j,L,K⟩:=u9 g;have H:a.off<c.size:=AJ;cases D:w.frozen? a with
  |true=>
   exfalso;have:(Go.store a v).run C.P w=.halt (.unsupported (.unsafePointer "a write to bytes that a string shares")) w:=by simp_all[Go.store,Sem.run]
   rw[this]at hg;exact hg
  |false=>
   have i:¬yf fr a.off:=by intro⟨y,z⟩;grind[World.frozen?]
   obtain⟨c',aP,F,P,q⟩:=d.cells r.1 j;have s:w'.frozen? a'=false:=by unfold World.frozen?;rw[F];have:¬yf aP a'.off:=λy=>i (r.2.1▸q _ y);grind[yf]
   have l:ρ.mine a'.block:=by
    apply vap;intro hn;rcases d.still _ _ r.1 hn with⟨_,co,O,Q,f,J⟩|⟨_,es,k,f⟩|⟨o,f,hd⟩
    .grind
    .grind
    .rw[j]at f;cases f;cases hd
   refine⟨ρ,w'.setCell a' v',?_,?_,λes=>⟨#[⟨.cell a',true,false⟩],?_,?_⟩⟩
   .show yg C S ρ _ ((Go.store a v).run C.P w) ((Go.store a' v').run C.Q w') _;rw[Go.store,Go.store,run_store u B g D,run_store t A E s];exact .ok trivial (d.setCell r hv l)
   .refine⟨Ren.le_refl _,λ_ h=>.inl h,by simp[World.setCell],λ_ h=>.inl h,λ_ _ h=>.inl h,λb M hn=>?_,Y,Y,Y,vad _⟩;grind[World.setCell]
   .grind[Go.store,events_store,Sem.events,Sem.runT]
   .intro e m;simp at m;subst m;exact⟨⟨_,r.1⟩,λ_=>l,Y⟩
def Ren.new(ρ:Ren)(n n':Nat):Ren:={rel:=λa b=>ρ.rel a b\/(a=n/\b=n'),mine:=λb=>ρ.mine b\/b=n'}
def Ren.X0(ρ:Ren)(n a:Nat):Ren.le ρ (ρ.new n a):=⟨λ_ _ h=>.inl h,λ_ h=>.inl h⟩
theorem et.alloc(h:et C S ρ w w')(l:h7 C ρ o o'):et C S (ρ.new w.heap.size w'.heap.size) {w with heap:=w.heap.push o} {w' with heap:=w'.heap.push o'}:=by
 have f:=Ren.X0 ρ w.heap.size w'.heap.size;refine⟨λb b' c=>?_,λa b b' x y=>?_,λa a' b x y=>?_,λg hg=>.inl (h.nL g hg),h.sync,h.tape,h.env,h.lone,λb b' c hn=>?_⟩
 .rcases c with c|⟨rfl,rfl⟩
  .obtain⟨p,i,q,n,m⟩:=h.obj b b' c;have d:=h.lt c;exact⟨p,i,AJ,AJ,m.mono f⟩
  .exact⟨o,o',AQ,AQ,l.mono f⟩
 .rcases x with x|⟨rfl,rfl⟩<;>rcases y with y|⟨k,j⟩
  .exact h.one _ _ _ x y
  .have:=(h.lt x).1;omega
  .have:=(h.lt y).1;omega
  grind
 .rcases x with x|⟨rfl,rfl⟩<;>rcases y with y|⟨k,j⟩
  .exact h.inj _ _ _ x y
  .have:=(h.lt x).2;omega
  .have:=(h.lt y).2;omega
  grind
 .rcases c with c|⟨rfl,rfl⟩
  .have d:=h.lt c;have e:({w with heap:=w.heap.push o}:aH).heap[b]?=w.heap[b]?:=AJ;rw[e];exact h.still b b' c λx=>hn (.inl x)
  .exact absurd LO hn
theorem ap.new(f:h7 C ρ o o'):ap C ρ (λσ n d=>σ.rel n d/\σ.mine d) (Go.newObj o) (Go.newObj o'):=by intro S w w' e _ _;refine⟨ρ.new w.heap.size w'.heap.size,{w' with heap:=w'.heap.push o'},.ok ⟨.inr ⟨Y,Y⟩,.inr Y⟩ (e.alloc f),?_,λes=>⟨#[],by simp[Sem.events,Go.newObj,Sem.runT],AQ⟩⟩;refine⟨Ren.X0 _ _ _,λb c=>c.imp id (λx=>AP),AQ,λb c=>c.imp id (λx=>AJ),λa b c=>c.imp id (λx=>AP),λb c _=>?_,Y,Y,Y,vad _⟩;grind
theorem ap.shape(h:ρ.rel r r'):ap C ρ (λ_ s s'=>s=s') (Go.shape r) (Go.shape r'):=by
 intro S w w' a _ _;refine⟨ρ,w',?_,.refl _ _,λes=>⟨#[],by simp[Sem.events,Go.shape,Sem.runT],AQ⟩⟩;refine .ok ?_ a;obtain⟨o,o',g,f,d⟩:=a.obj r r' h;unfold World.shape?;rw[g,f];cases d with
 |cells e c hF=>simp[c.size]
 |shut b=>cases o'<;>first|exact b.elim|rfl
 | _=>rfl
def aiP(C:cQ)(r':Nat)(ρ:Ren)(o o':Obj):Prop:=h7 C ρ o o'/\(∀c e fr,o≠ .cells c e fr)/\(ρ.mine r'\/(C.upd=false/\∃es k,o=.map es k)\/FC o)
theorem ap.getObj(h:ρ.rel r r'):ap C ρ (aiP C r') (Go.getObj r) (Go.getObj r'):=by
 intro S w w' a hg _;have f:∀c e fr,w.heap[r]?≠some (.cells c e fr):=by grind[Go.getObj,Sem.run,Good]
 obtain⟨o,o',u,t,j,n,q,p,i⟩:=a.other h f;have m:(Go.getObj r).run C.P w=.ok o w:=by grind[Go.getObj,Sem.run]
 have l:(Go.getObj r').run C.Q w'=.ok o' w':=by simp_all[Go.getObj,Sem.run]
 refine⟨ρ,w',?_,.refl _ _,λes=>⟨#[⟨.obj r',false,false⟩],?_,?_⟩⟩
 .rw[m,l];refine .ok ⟨j,λc e fr x=>f c e fr AJ,?_⟩ a;by_cases g:ρ.mine r'
  .grind
  .rcases a.still _ _ h g with⟨_,c,e,fr,b,_⟩|⟨s,es,k,b⟩|⟨o,b,hd⟩
   .grind
   .grind
   grind
 .simp_all[Sem.events,Go.getObj,Sem.runT]
 .intro e d;simp at d;subst d;exact⟨⟨_,h⟩,AQ,Y⟩
theorem ap.setObj(h:ρ.rel r r')(g:ρ.mine r')(k:h7 C ρ o o')(hn:∀c e fr,o≠ .cells c e fr):ap C ρ (λ_(_ _:Unit)=>True) (Go.setObj r o) (Go.setObj r' o'):=by
 intro S w w' a hg _;have n:∀c e fr,w.heap[r]?≠some (.cells c e fr):=by grind[Go.setObj,Sem.run,Good]
 obtain⟨p,t,B,A,z,u,y,v,_⟩:=a.other h n;have l:=a.lt h;have s:(Go.setObj r o).run C.P w=.ok () {w with heap:=w.heap.setIfInBounds r o}:=by grind[Go.setObj,Sem.run]
 have q:(Go.setObj r' o').run C.Q w'=.ok () {w' with heap:=w'.heap.setIfInBounds r' o'}:=by simp_all[Go.setObj,Sem.run]
 have m:o'.isChan=false:=by
  cases k with
  |shut x=>cases o'<;>first|exact x.elim|rfl
  | _=>rfl
 refine⟨ρ,{w' with heap:=w'.heap.setIfInBounds r' o'},?_,?_,λes=>⟨#[⟨.obj r',true,false⟩],?_,?_⟩⟩
 .rw[s,q];refine .ok trivial ⟨λb b' d=>?_,a.one,a.inj,a.nL,a.sync,a.tape,a.env,a.lone,λb b' d f=>?_⟩
  .simp only[vam];by_cases e:r=b
   .subst e;have j:r'=b':=a.one _ _ _ h d;grind
   .have j:r'≠b':=λx=>e (a.inj _ _ _ (x▸h) d);rw[vbt e,vbt j];exact a.obj b b' d
  .have e:r≠b:=λx=>f (a.one _ _ _ h (x▸d)▸g);simp only[vam,vbt e];exact a.still b b' d f
 .refine⟨Ren.le_refl _,λ_ h=>.inl h,AQ,λ_ h=>.inl h,λ_ _ h=>.inl h,λb d f=>?_,Y,Y,Y,vad _⟩;grind
 .simp_all[Sem.events,Go.setObj,Sem.runT]
 .intro e i;simp at i;subst i;exact⟨⟨_,h⟩,λ_=>g,Y⟩
theorem ap.choose(q:Question):ap C ρ (λ_ a b=>a=b) (Go.choose q) (Go.choose q):=by
 intro S w w' c _ f;by_cases d:q.forced=true
 .refine⟨ρ,w',?_,.refl _ _,λes=>⟨#[],by simp[Sem.events,Go.choose,Sem.runT,d],AQ⟩⟩;simp only[Go.choose,Sem.run,d,vbr];exact .ok Y c
 .refine⟨ρ,{w' with drawn:=w'.drawn+1},?_,?_,λes=>⟨#[],by simp[Sem.events,Go.choose,Sem.runT,d],AQ⟩⟩
  .simp only[Go.choose,Sem.run,d,lw]at f⊢;refine .ok ?_ ⟨c.obj,c.one,c.inj,c.nL,?_,λj q g=>?_,c.env,c.lone,c.still⟩
   .have:=c.tape 0 q AJ;grind
   .have:=c.sync;grind
   .have e:w'.drawn+(j+1)<S.bound:=by grind
    have:=c.tape (j+1) q e;grind
  .exact⟨Ren.le_refl _,λ_ h=>.inl h,vad _,λ_ h=>.inl h,λ_ _ h=>.inl h,λ_ _ _=>Y,Y,Y,Y,Nat.le_succ _⟩
theorem ap.program:ap C ρ (λ_ p q=>p=C.P/\q=C.Q) Go.program Go.program:=by intro S w w' a _ _;exact⟨ρ,w',.ok ⟨Y,Y⟩ a,.refl _ _,λes=>⟨#[],by simp[Sem.events,Go.program,Sem.runT],AQ⟩⟩
theorem ap.noRoom:ap C ρ (λ_(_ _:Unit)=>True) (Go.mark .noRoom) (Go.mark .noRoom):=by intro S w w' b _ _;refine⟨ρ,w',.ok trivial b,.refl _ _,λes=>⟨#[⟨.mark .noRoom,false,true⟩],by simp[Sem.events,Go.mark,Sem.runT],?_⟩⟩;intro e a;simp at a;subst a;trivial
def ap.aiQ:ap C ρ (λ_ a b=>a=b) (Go.sys .env) (Go.sys .env):=by
 intro S w w' c _ _;refine⟨ρ,w',?_,.refl _ _,λes=>⟨#[⟨.output,true,false⟩],by simp[Sem.events,Go.sys,Sem.runT],?_⟩⟩
 .show yg C S ρ _ (.ok (SysRet.strings w.os.env) w) (.ok (SysRet.strings w'.os.env) w') w';exact .ok (by rw[c.env]) c
 .intro e d;simp at d;subst d;trivial
theorem ap.extern(f:uah):ap C ρ (λ_(_ _:Unit)=>True) (Go.mark (.extern f)) (Go.mark (.extern f)):=by intro S w w' b _ _;refine⟨ρ,w',.ok trivial b,.refl _ _,λes=>⟨#[⟨.mark (.extern f),false,true⟩],by simp[Sem.events,Go.mark,Sem.runT],?_⟩⟩;intro e a;simp at a;subst a;trivial
theorem ap.askRoom(n:Nat):ap C ρ (λ_(_ _:Unit)=>True) (Go.askRoom n) (Go.askRoom n):=by
 unfold Go.askRoom;split
 .exact .noRoom
 .exact .pure trivial
end
end
variable{c':fi}
section
attribute [-simp] Sem.runT_eq
def cQ.cp(C:cQ):Prop:=C.P.toTables=C.Q.toTables
def cQ.u_(C:cQ):Prop:=∀t i v,C.P.info? t=some i->i.zero=some v->jc v
section
variable{C:cQ}{ρ:Ren}
theorem dE.add(h:dE ρ a a')(n:Nat):dE ρ (a.add n) (a'.add n):=by
 unfold Addr.add;split
 .exact h
 .exact⟨h.1,by simp[h.2.1],Y⟩
theorem ap.cut{ao aO γ Ip:Type}{R:Ren->γ->Ip->Prop}{m:Sem ao}{a:Sem aO}{f:ao->Sem γ}{f':aO->Sem Ip}(h:ap C ρ (λ_ _ _=>False) m a):ap C ρ R (m>>= f) (a>>= f'):=.bind h λ_ _ _ _ x=>x.elim
theorem ap.typeInfo(d:C.cp)(t:uab):ap C ρ (λ_ a b=>a=b/\C.P.info? t=some a) (Go.typeInfo t) (Go.typeInfo t):=by
 unfold Go.typeInfo;refine .bind .program λσ p q _⟨c,hq⟩=>?_;subst c;subst hq;have e:C.Q.info? t=C.P.info? t:=by unfold Tables.info?;rw[d]
 grind[stuck,pure]
theorem ap.underlying(d:C.cp)(t:uab):ap C ρ (λ_ a b=>a=b/\C.P.underlying t=some a) (Go.underlying t) (Go.underlying t):=by
 unfold Go.underlying;refine .bind .program λσ p q _⟨c,hq⟩=>?_;subst c;subst hq;have e:C.Q.underlying t=C.P.underlying t:=by unfold Program.underlying Tables.info?;rw[d]
 grind[stuck,pure]
theorem ap.zeroValue(d:C.cp)(c:C.u_)(t:uab):ap C ρ (λ_ a b=>a=b/\jc a) (Go.zeroValue t) (Go.zeroValue t):=by unfold Go.zeroValue;refine .bind (ap.typeInfo d t) λσ i j _⟨f,e⟩=>?_;subst f;cases h:i.zero with|none=>exact .unsupported|some v=>exact .pure ⟨Y,c t i v e h⟩
theorem ap.sizeOf(c:C.cp)(t:uab):ap C ρ (λ_ a b=>a=b) (Go.sizeOf t) (Go.sizeOf t):=by unfold Go.sizeOf;exact .bind (ap.typeInfo c t) λσ i j _⟨d,e⟩=>.pure (by rw[d])
theorem ap.isAgg(c:C.cp)(t:uab):ap C ρ (λ_ a b=>a=b) (Go.isAgg t) (Go.isAgg t):=by unfold Go.isAgg;refine .bind (ap.underlying c t) λσ i j _⟨e,d⟩=>?_;grind[pure]
theorem ap.loadCellsFrom(r:dE ρ a a')(n:Nat):∀(i:Nat){acc b:fi},aM ρ acc b->ap C ρ aM (Go.loadCellsFrom a i n acc) (Go.loadCellsFrom a' i n b):=by induction n generalizing ρ with|zero=>intro i acc b h;exact .pure h|succ n d=>intro i acc b h;simp only[Go.loadCellsFrom];exact .bind (ap.load (r.add i)) λσ v v' c hv=>d (r.mono c) (i+1) ((h.mono c).push hv)
theorem ap.loadCells(r:dE ρ a a')(n:Nat):ap C ρ aM (Go.loadCells a n) (Go.loadCells a' n):=ap.loadCellsFrom r n 0 (.nil ρ)
theorem ap.storeCells(r:dE ρ a a'){l l':uaj}(h:dx (ax ρ) l l'):∀(i:Nat),ap C ρ (λ_(_ _:Unit)=>True) (Go.storeCells a l i) (Go.storeCells a' l' i):=by induction l generalizing ρ l' with|nil=>intro i;cases h;exact .pure trivial|cons x l c=>intro i;cases h with|cons d ht=>simp only[Go.storeCells];exact .bind (ap.store (r.add i) d) λσ _ _ b _=>c (r.mono b) (ht.mono λ_ _ y=>y.mono b) (i+1)
theorem ap.loadVar(e:C.cp)(t:uab)(r:dE ρ a a'):ap C ρ ax (Go.loadVar t a) (Go.loadVar t a'):=by
 unfold Go.loadVar;refine .bind (ap.isAgg e t) λσ b b' d g=>?_;subst g;cases b
 .exact ap.load (r.mono d)
 .refine .bind (ap.sizeOf e t) λk n i h hn=>?_;subst hn;exact .bind (ap.loadCells ((r.mono d).mono h) n) λj c c' _ f=>.pure (.oW f)
theorem ap.storeVar(c:C.cp)(t:uab)(r:dE ρ a a')(hv:ax ρ v v'):ap C ρ (λ_(_ _:Unit)=>True) (Go.storeVar t a v) (Go.storeVar t a' v'):=by unfold Go.storeVar;refine .bind (ap.sizeOf c t) λσ n d b hn=>?_;subst hn;have hs:=hv.cells.size;rw[<-hs];exact .ite (λ_=>.cut .stuck) (λ_=>ap.storeCells (r.mono b) (dx.Il (hv.cells.mono b)) 0)
theorem ap.newRow(e:uab)(h:aM ρ c c'):ap C ρ dE (Go.newRow e c) (Go.newRow e c'):=by unfold Go.newRow;exact .bind (ap.new (.cells e h ⟨λ_ x=>x,λ_=>Y⟩)) λσ n a _ hn=>.pure ⟨hn.1,Y,Y⟩
theorem ap.newVar(t:uab)(h:ax ρ v v'):ap C ρ dE (Go.newVar t v) (Go.newVar t v'):=ap.newRow t h.cells
theorem ap.elemOf(c:C.cp)(t:uab):ap C ρ (λ_ a b=>a=b) (Go.elemOf t) (Go.elemOf t):=by unfold Go.elemOf;refine .bind (ap.underlying c t) λσ i j _⟨e,d⟩=>?_;grind[stuck,pure]
theorem ap.part(e:C.cp)(t:uab)(h:aM ρ c c')(off:Nat):ap C ρ ax (Go.part t c off) (Go.part t c' off):=by
 unfold Go.part;refine .bind (ap.isAgg e t) λσ b b' d i=>?_;subst i;cases b
 .simp only[vaf,vbv];cases f:c[off]? with|none=>exact .stuck|some v=>obtain⟨v',a,g⟩:=h.some f;rw[a];exact .pure (g.mono d)
 .simp only[vbr];refine .bind (ap.sizeOf e t) λl n k j hn=>?_;subst hn;exact .pure (.oW (((h.mono d).mono j).extract _ _))
def aiS(a:ρ.rel C.P.globals.size C.P.globals.size)(hg:C.P.globals.size=C.Q.globals.size)(t:uab):ax ρ (typeHandle C.P t) (typeHandle C.Q t):=by unfold typeHandle;rw[<-hg];exact .ptr ⟨a,Y,Y⟩
def ap.aiT{ao aO:Type}{R:Ren->ao->aO->Prop}{m:Sem ao}{a:Sem aO}(h:(∀g,g<=C.P.globals.size->ρ.rel g g)->ap C ρ R m a):ap C ρ R m a:=λS w w' b hg c=>h b.nL S w w' b hg c
theorem ap.runtimePanic(j:C.cp){ao aO:Type}{R:Ren->ao->aO->Prop}(e:RuntimeError):ap C ρ R (Go.runtimePanic e:Sem ao) (Go.runtimePanic e:Sem aO):=by
 refine .aiT λu=>?_;have A:C.P.globals.size=C.Q.globals.size:=by rw[j]
 have f:C.P.rt=C.Q.rt:=by rw[j]
 have l:∀{σ:Ren}(s:String),ax σ (strVal s) (strVal s):=λs=>.string _;unfold Go.runtimePanic;refine .bind .program λσ p q E⟨D,hq⟩=>?_;subst D;subst hq;have z:∀{g:Ren},Ren.le σ g->∀t,ax g (typeHandle C.P t) (typeHandle C.Q t):=λk t=>aiS (k.1 _ _ (E.1 _ _ (u _ Kj))) A t;simp only[];cases e with
 |bounds x y s c=>rw[<-f];exact .goPanic (.iface _ (jc.rel (.agg λi v h=>by
  match i,h with
  |0,h=>simp at h;subst h;exact .int _ _
  |1,h=>simp at h;subst h;exact .int _ _
  |2,h=>simp at h;subst h;exact .bool _
  |3,h=>simp at h;subst h;exact .int _ _
  |i+4,h=>grind) _))
 |error m=>rw[<-f];exact .goPanic (.iface _ (l _))
 |plain m=>rw[<-f];exact .goPanic (.iface _ (l _))
 |nilDeref=>rw[<-f];exact .goPanic (.iface _ (l _))
 |typeAssertion i c a m=>
  rw[<-f];refine .bind (ap.elemOf j _) λg x x' k n=>?_;subst n;refine .bind (ap.newVar x ?_) λB r r' _ o=>.goPanic (.iface _ (.ptr o));have f4:∀{a b c d a' b' c' w:Value},ax g a a'->ax g b b'->ax g c c'->ax g d w->aM g #[a,b,c,d] #[a',b',c',w]:=λJ I H F=>by simpa using aM.append (aM.append (aM.append (aM.one J) (aM.one I)) (aM.one H)) (aM.one F)
  cases i<;>cases c<;>exact .oW (f4 (by first|exact .lN|grind) (by first|exact .lN|grind) (z k _) (l _))
 |panicNil=>rw[<-f];refine .bind (ap.elemOf j _) λg x x' k n=>?_;subst n;exact .bind (ap.newVar x (.oW (.nil _))) λB r r' _ o=>.goPanic (.iface _ (.ptr o))
 |unhashable t=>rw[<-f];exact .goPanic (.iface _ (.oW (.one (z (Ren.le_refl _) t))))
theorem ap.boundsPanic(c:C.cp){ao aO:Type}{R:Ren->ao->aO->Prop}(k:IntKind)(x y:Int)(code:BoundsCode):ap C ρ R (Go.boundsPanic k x y code:Sem ao) (Go.boundsPanic k x y code:Sem aO):=by
 unfold Go.boundsPanic;simp only[];split
 .refine .bind (R:=λ_ a b=>a=b) ?_ λσ s s' _ hs=>by grind[ap.runtimePanic]
  exact .bind (f:=λa=>Pure.pure (a==1)) (f':=λa=>Pure.pure (a==1)) (ap.choose _) λσ a b _ h=>.pure (by rw[h])
 grind[ap.runtimePanic]
theorem ap.asIntOf(h:ax ρ v v'):ap C ρ (λ_ a b=>a=b) (Go.asIntOf v) (Go.asIntOf v'):=by cases h<;>first|exact .pure Y|exact .unsupported|exact .stuck
theorem ap.asInt(h:ax ρ v v'):ap C ρ (λ_ a b=>a=b) (Go.asInt v) (Go.asInt v'):=by unfold Go.asInt;exact .bind (ap.asIntOf h) λσ a b _ h=>.pure (by rw[h])
theorem ap.asBool(h:ax ρ v v'):ap C ρ (λ_ a b=>a=b) (Go.asBool v) (Go.asBool v'):=by cases h<;>first|exact .pure Y|exact .stuck
theorem ap.asAddr(a:C.cp)(h:ax ρ v v'):ap C ρ dE (Go.asAddr v) (Go.asAddr v'):=by cases h with|ptr h=>exact .pure h|lN=>exact(ap.runtimePanic a .nilDeref:ap C ρ dE (Go.runtimePanic .nilDeref:Sem Addr) (Go.runtimePanic .nilDeref:Sem Addr))| _=>exact .stuck
end
end
variable{z:fi}{x':Value}{ps:Array (Nat×Operand)}{Aw:Array (Nat×Value)}
section
attribute [-simp] Sem.runT_eq
section
variable{C:cQ}{ρ:Ren}
def Ra(h:ax ρ v v'):ap C ρ dE (Instr.sureAddr v) (Instr.sureAddr v'):=by cases h with|ptr h=>exact .pure h| _=>exact .stuck
def aiV(b:C.cp)(t:uab)(h:ax ρ v v'):ap C ρ ax (Instr.loadAt t v) (Instr.loadAt t v'):=by unfold Instr.loadAt;exact .bind (Ra h) λσ a a' _ r=>ap.loadVar b t r
def aiW(d:C.cp)(t:uab)(h:ax ρ v v')(b:ax ρ x x'):ap C ρ (λ_(_ _:Unit)=>True) (Instr.storeAt t v x) (Instr.storeAt t v' x'):=by unfold Instr.storeAt;exact .bind (Ra h) λσ a a' c r=>ap.storeVar d t r (b.mono c)
theorem aiX(c:C.cp)(b:C.u_)(t:uab):ap C ρ ax (Instr.alloc t true (.tuple #[])) (Instr.alloc t true (.tuple #[])):=by unfold Instr.alloc;refine .bind (ap.zeroValue c b t) λσ v v' _⟨e,d⟩=>?_;subst e;exact .bind (ap.newVar t (d.rel σ)) λf a a' _ r=>.pure (.ptr r)
def aiY(t:uab)(h:ax ρ v v'):ap C ρ ax (Instr.box t v) (Instr.box t v'):=by unfold Instr.box;exact .bind (ap.newVar t h) λb a a' _ r=>.pure (.ptr r)
def aiZ(off:Nat):∀(l l':uaj)(j:Nat){c c':fi},dx (ax ρ) l l'->aM ρ c c'->
 aM ρ ((l.zipIdx j).foldl (λcs(p:ubw)=>cs.setIfInBounds (off+p.2) p.1) c) ((l'.zipIdx j).foldl (λcs(p:ubw)=>cs.setIfInBounds (off+p.2) p.1) c'):=by
 intro l;induction l with|nil=>intro l' j c c' h a;cases h;exact a|cons x l b=>intro l' j c c' h a;cases h with|cons d ht=>simp only[List.zipIdx_cons,List.foldl_cons];exact b _ (j+1) ht (a.set d _)
def ai0(off:Nat){a a':fi}(h:aM ρ a a')(b:aM ρ c c'):
 aM ρ (a.zipIdx.foldl (λcs(x:ubw)=>cs.setIfInBounds (off+x.2) x.1) c) (a'.zipIdx.foldl (λcs(x:ubw)=>cs.setIfInBounds (off+x.2) x.1) c'):=by
 have e:∀(a c:fi),a.zipIdx.foldl (λcs(x:ubw)=>cs.setIfInBounds (off+x.2) x.1) c=(a.toList.zipIdx 0).foldl (λcs(p:ubw)=>cs.setIfInBounds (off+p.2) p.1) c:=λa c=>by rw[<-Array.foldl_toList];simp
 simp_all[aiZ,dx.Il]
def sI(ρ:Ren)(p p':Nat×Value):Prop:=p.1=p'.1/\ax ρ p.2 p'.2
def Rb(place:Nat->Option (Nat×Nat)):∀(l l':uac){c c':fi},dx (sI ρ) l l'->aM ρ c c'->
 (Instr.fill place c l=none/\Instr.fill place c' l'=none)\/∃x x',Instr.fill place c l=some x/\Instr.fill place c' l'=some x'/\aM ρ x x':=by
 intro l;induction l with
 |nil=>intro l' c c' h a;cases h;exact .inr ⟨c,c',Y,Y,a⟩
 |cons p l d=>
  intro l' c c' h a;cases h with
  |@cons _ b _ l' f ht=>
   obtain⟨i,v⟩:=p;obtain⟨e,v'⟩:=b;obtain⟨rfl,hv⟩:i=e/\ax ρ v v':=f;simp only[Instr.fill];cases g:place i with
   |none=>grind
   |some os=>
    obtain⟨off,size⟩:=os;simp only[];rw[<-hv.cells.size,<-a.size];split
    .grind
    .exact d _ ht (ai0 off hv.cells a)
def ai1{f f':uak}(h:∀p∈ps,ax ρ (f p.2) (f' p.2)):dx (sI ρ) (ps.map λ(i,x)=>(i,f x)).toList (ps.map λ(i,x)=>(i,f' x)).toList:=by obtain⟨l⟩:=ps;simp only[List.map_toArray];induction l with|nil=>exact .nil|cons p l a=>obtain⟨i,x⟩:=p;exact .cons ⟨Y,h (i,x) AQ⟩ (a λq hq=>h q AJ)
def ai2{ao aO:Type}{f f':ao->Sem aO}(h:∀(ρ:Ren) a,ap C ρ (λ_ x y=>x=y) (f a) (f' a)):∀(l:List ao)(ρ:Ren),ap C ρ (λ_ x y=>x=y) (l.mapM f) (l.mapM f'):=by intro l;induction l with|nil=>intro ρ;simp only[List.mapM_nil];exact .pure Y|cons a l b=>intro ρ;simp only[List.mapM_cons];exact .bind (h ρ a) λσ x y _ e=>by subst e;exact .bind (b σ) λc x y _ e=>by subst e;exact .pure Y
def ai3{ao aO:Type}{f f':ao->Sem aO}(h:∀(ρ:Ren) a,ap C ρ (λ_ x y=>x=y) (f a) (f' a))(l:Array ao):ap C ρ (λ_ x y=>x=y) (l.mapM f) (l.mapM f'):=by
 have e:∀g:ao->Sem aO,l.mapM g=(do pure (<-l.toList.mapM g).toArray):=λg=>by rw[vci];rfl
 rw[e,e];exact .bind (ai2 h l.toList ρ) λσ x y _ e=>.pure KE
def ai4(k:C.cp)(s:C.u_)(t:uab){ps:Array (Nat×Value)}(h:dx (sI ρ) ps.toList Aw.toList):ap C ρ ax (Instr.build t ps) (Instr.build t Aw):=by
 unfold Instr.build;refine .bind (ap.zeroValue k s t) λσ z D u⟨w,r⟩=>?_;subst w;refine .bind (ap.underlying k t) λp d H A⟨v,F⟩=>?_;subst v;have q:=dx.mono (λa b(x:sI ρ a b)=>(⟨x.1,(x.2.mono u).mono A⟩:sI p a b)) h;cases d with
 |struct fields=>
  simp only[];refine .bind (R:=λ_ x y=>x=y) (ai3 (λρ f=>.bind (ap.sizeOf k _) λσ a b _ e=>.pure KE) fields) λc pl B m e=>?_;subst e;have l:=dx.mono (λa b(x:sI p a b)=>(⟨x.1,x.2.mono m⟩:sI c a b)) q;rcases Rb (ρ:=c) (λi=>pl[i]?) ps.toList Aw.toList l (r.cells.rel c)with⟨j,g⟩|⟨x,x',j,g,o⟩
  .rw[j,g];exact .stuck
  .rw[j,g];exact .pure (.oW o)
 |array n elem=>
  simp only[];refine .bind (ap.sizeOf k elem) λc n E m e=>?_;subst e;have l:=dx.mono (λa b(x:sI p a b)=>(⟨x.1,x.2.mono m⟩:sI c a b)) q;rcases Rb (ρ:=c) (λi=>some (i*n,n)) ps.toList Aw.toList l (r.cells.rel c)with⟨j,g⟩|⟨x,x',j,g,o⟩
  .rw[j,g];exact .stuck
  .rw[j,g];exact .pure (.oW o)
 | _=>exact .stuck
theorem ai5:jc (default:Value):=.bool _
def kF.Rc(h:kF z)(n:Nat):kF ((Array.range n).map (z[· % z.size]!)):=by
 intro i v hv;simp only[vch,Array.getElem?_range]at hv;split at hv
 .simp only[vby,vbf]at hv;subst hv;by_cases a:i % z.size<z.size
  .rw[getElem!_pos z _ a];exact h _ _ (vax a)
  grind[ai5]
 grind
def ai6(j:C.cp)(p:C.u_)(t:uab)(len:Nat){ps:Array (Nat×Value)}(h:dx (sI ρ) ps.toList Aw.toList):ap C ρ ax (Instr.buildSlice t len ps) (Instr.buildSlice t len Aw):=by
 unfold Instr.buildSlice;refine .bind (ap.underlying j t) λσ d H w⟨B,F⟩=>?_;subst B;cases d with
 |slice elem=>
  simp only[];refine .bind (ap.sizeOf j elem) λI n E D e=>?_;subst e;refine .ite (λA=>.cut .unsupported) (λA=>?_);refine .ite (λ_=>.bind (R:=λ_ x y=>x=y/\kF x) (.pure ⟨Y,λi v h=>AJ⟩) λg z m f⟨e,l⟩=>?_)
   (λ_=>.bind (ap.zeroValue j p elem) λJ y y' q⟨c,s⟩=>.bind (R:=λ_ x y=>x=y/\kF x) (.pure ⟨by rw[c],s.cells⟩) λg z m f⟨e,l⟩=>?_)
  all_goals
   subst e;first|replace f:=Ren.le_trans q f|skip
   have o:=dx.mono (λa b(x:sI ρ a b)=>(⟨x.1,x.2.mono (Ren.le_trans (Ren.le_trans w D) f)⟩:sI g a b)) h;rcases Rb (ρ:=g) (λi=>some (i*n,n)) ps.toList Aw.toList o ((l.Rc (len*n)).rel g)with⟨c,k⟩|⟨x,x',c,k,u⟩
   .rw[c,k];exact .stuck
   .rw[c,k];exact .bind (ap.newRow elem u) λ_ a a' _ r=>.pure (.slice len len r)
 | _=>exact .stuck
end
end
section
attribute [-simp] Sem.runT_eq
section
variable{C:cQ}{ρ:Ren}
theorem FE(a:C.cp)(t:uab):C.Q.info? t=C.P.info? t:=by unfold Tables.info?;rw[a]
theorem B7(a:C.cp)(t:uab):C.Q.underlying t=C.P.underlying t:=by grind[Program.underlying,FE]
theorem B8(a:C.cp)(t:uab):C.Q.cellsOf t=C.P.cellsOf t:=by grind[Program.cellsOf,FE]
theorem Mj(a:C.cp)(t:uab):C.Q.bytesOf t=C.P.bytesOf t:=by grind[Program.bytesOf,FE]
theorem FF(a:C.cp):C.Q.depth=C.P.depth:=by unfold Program.depth;rw[a]
theorem X1(b:C.cp):∀(d:Nat)(t:uab)(off:Nat),byteOfCell C.Q d t off=byteOfCell C.P d t off:=by intro d;induction d with|zero=>intro t off;rfl|succ d a=>grind[byteOfCell,B7,B8,Mj]
def X2(h:ρ.rel r r'):ap C ρ (λ_ a b=>a=none/\b=none) (viewAt r) (viewAt r'):=by
 unfold viewAt;refine .bind (ap.shape h) λσ s s' f e=>?_;subst e;refine .ite (λ_=>.pure ⟨Y,Y⟩) (λ_=>?_);refine .bind (ap.getObj (f.1 _ _ h)) λg o o' _ hg=>?_;obtain⟨d,hn,_⟩:=hg;cases d with
 |shut c=>cases o'<;>first|exact c.elim|exact .pure ⟨Y,Y⟩
 | _=>exact .pure ⟨Y,Y⟩
def ai7(h:dE ρ a a'):ap C ρ (λ_(_ _:Unit)=>True) (noView a) (noView a'):=by unfold noView;refine .bind (X2 h.1) λσ s s' d⟨c,b⟩=>?_;subst c;subst b;exact .pure trivial
def B9(c:C.cp)(h:dE ρ a a'):ap C ρ (λ_ x y=>x=y) (byteOf a) (byteOf a'):=by unfold byteOf;rw[<-h.2.2];cases hs:a.spot with|some s=>exact .pure Y|none=>simp only[];refine .bind .program λσ p q d⟨f,hq⟩=>?_;subst f;subst hq;refine .bind (ai7 (h.mono d)) λk _ _ g _=>?_;refine .bind (ap.shape (g.1 _ _ (d.1 _ _ h.1))) λi s s' j e=>?_;subst e;cases s with|none=>exact .stuck|some aW=>obtain⟨e,n⟩:=aW;simp only[B8 c,Mj c,X1 c,FF c];refine .ite (λ_=>.pure Y) (λ_=>?_);rw[<-h.2.1];cases byteOfCell C.P C.P.depth e (a.off % C.P.cellsOf e)with|none=>exact .stuck|some b=>exact .pure Y
def ai8(c:C.cp)(h:dE ρ a a')(cells bytes:Nat):ap C ρ dE (partAt a cells bytes) (partAt a' cells bytes):=by
 unfold partAt;refine .bind (B9 c h) λσ x x' f e=>?_;subst e;have b:dE σ {block:=a.block,off:=a.off+cells} {block:=a'.block,off:=a'.off+cells}:=⟨f.1 _ _ h.1,by simp[h.2.1],Y⟩;refine .bind (B9 c b) λg y y' d e=>?_;subst e;refine .pure ?_;split
 .exact b.mono d
 .exact⟨d.1 _ _ b.1,b.2.1,Y⟩
def ai9(c:C.cp)(h:dE ρ a a')(f:Field):ap C ρ dE (fieldPlace a f) (fieldPlace a' f):=by unfold fieldPlace;refine .bind (ap.sizeOf c _) λσ n d b e=>?_;subst e;exact .ite (λ_=>ai8 c (h.mono b) _ _) (λ_=>.pure ((h.mono b).add _))
def ai_(c:C.cp)(s:uab)(h:ax ρ v v')(field:Nat):ap C ρ ax (Instr.fieldAt s v field) (Instr.fieldAt s v' field):=by
 unfold Instr.fieldAt;refine .bind (ap.underlying c s) λσ d l i⟨e,_⟩=>?_;subst e;cases d with
 |struct fields=>simp only[];cases fields[field]? with|none=>exact .stuck|some f=>simp only[];refine .bind (Ra (h.mono i)) λm a a' k r=>?_;exact .bind (ai9 c r f) λj b b' _ g=>.pure (.ptr g)
 | _=>exact .stuck
def Ax(P:cf)(t:uab):Bool:=
 match P.underlying t with
 |some (.slice _)=>true
 | _=>false
def aja(c:C.cp)(t:uab)(ht:Ax C.P t=true){i h:Value}(m:ax ρ x x')(hi:ax ρ i h):ap C ρ ax (Instr.indexAt t x i) (Instr.indexAt t x' h):=by
 unfold Instr.indexAt;refine .bind (ap.asIntOf hi) λσ B w o e=>?_;subst e;refine .bind (ap.underlying c t) λA d v u⟨e,hd⟩=>?_;subst e;have j:=(m.mono o).mono u;have k:=j;simp only[Ax,hd]at ht;cases d with
 |slice elem=>
  cases j<;>first|exact .stuck|skip
  all_goals
   refine .bind (R:=λ_ a b=>a=_/\b=_) (.pure ⟨Y,Y⟩) λy p q f⟨e,s⟩=>?_;subst e;subst s;refine .bind (ap.underlying c t) λy d v g⟨e,_⟩=>?_;subst e
  .exact ap.boundsPanic c _ _ _ _
  .cases k;rename_i r;replace f:=Ren.le_trans f g;refine .ite (λ_=>.bind (ap.sizeOf c elem) λD n z l e=>?_) (λ_=>.ite (λ_=>.unsupported) (λ_=>ap.boundsPanic c _ _ _ _));subst e;exact .pure (.ptr (((r.mono f).mono l).add _))
 | _=>cases ht
end
end
variable{FG hi jH lo mx mx':ubf}
section
attribute [-simp] Sem.runT_eq
inductive o0{ao aO:Type}(R:ao->aO->Prop):Option ao->Option aO->Prop
 |none:o0 R none none
 |some {a:ao} {b:aO} (h:R a b):o0 R (some a) (some b)
theorem o0.mono{ao aO:Type}{R S:ao->aO->Prop}(c:∀a b,R a b->S a b){a:Option ao}{b:Option aO}(h:o0 R a b):o0 S a b:=by cases h with|none=>exact .none|some h=>exact .some (c _ _ h)
abbrev w9(ρ:Ren):=o0 (ax ρ)
theorem w9.mono{ρ σ:Ren}(c:Ren.le ρ σ){a b:ubf}(h:w9 ρ a b):w9 σ a b:=o0.mono (λ_ _ x=>x.mono c) h
theorem o0.isSome{ao aO:Type}{R:ao->aO->Prop}{a:Option ao}{b:Option aO}(h:o0 R a b):a.isSome=b.isSome:=by cases h<;>rfl
section
variable{C:cQ}{ρ:Ren}
def Mk(c:C.cp)(h:ax ρ x x')(y:Nat)(code:BoundsCode):ap C ρ (λ_ a b=>a=b) (Instr.sliceBound x y code) (Instr.sliceBound x' y code):=by unfold Instr.sliceBound;refine .bind (ap.asIntOf h) λσ f d g e=>?_;subst e;obtain⟨k,i⟩:=f;exact .ite (λ_=>.pure Y) (λ_=>ap.boundsPanic c _ _ _ _)
def ajd(i:C.cp)(isSlice:Bool)(len cap:Nat)(p:w9 ρ lo FG)(n:w9 ρ hi jH)(g:w9 ρ mx mx'):
 ap C ρ (λ_ a b=>a=b) (Instr.sliceBounds isSlice len cap lo hi mx) (Instr.sliceBounds isSlice len cap FG jH mx'):=by
 unfold Instr.sliceBounds;have j:∀(σ:Ren)(m h:Nat),Ren.le ρ σ->ap C σ (λ_ a b=>a=b)
  (do let l <-(match lo with|some v=>Instr.sliceBound v h (if mx.isSome then .slice3C else .sliceB)|none=>pure 0);pure (l,h,m))
  (do let l <-(match FG with|some v=>Instr.sliceBound v h (if mx'.isSome then .slice3C else .sliceB)|none=>pure 0);pure (l,h,m)):=by
  intro σ m h c;rw[g.isSome];cases p with|none=>exact .bind (R:=λ_ a b=>a=b) (.pure Y) λ_ a b _ e=>.pure KE|some hv=>exact .bind (Mk i (hv.mono c) _ _) λ_ a b _ e=>.pure KE
 cases g with
 |none=>simp only[];refine .bind (R:=λ_ a b=>a=b) (.pure Y) λσ m o c e=>?_;subst e;cases n with|none=>simp only[];refine .bind (R:=λ_ a b=>a=b) (.pure Y) λf h k d e=>?_;subst e;have:=j f m h (Ren.le_trans c d);grind|some hv=>simp only[];refine .bind (Mk i (hv.mono c) _ _) λf h k d e=>?_;subst e;have:=j f m h (Ren.le_trans c d);grind
 |some hv=>simp only[];refine .bind (Mk i hv _ _) λσ m o c e=>?_;subst e;cases n with|none=>refine .bind (R:=λ_ a b=>a=b) .stuck λf h k d e=>?_;subst e;have:=j f m h (Ren.le_trans c d);grind|some hv=>simp only[];refine .bind (Mk i (hv.mono c) _ _) λf h k d e=>?_;subst e;have:=j f m h (Ren.le_trans c d);grind
def aje(f:C.cp)(t:uab)(ht:Ax C.P t=true)(o:ax ρ x x')(m:w9 ρ lo FG)(s:w9 ρ hi jH)(h:w9 ρ mx mx'):
 ap C ρ ax (Instr.sliceAt t x lo hi mx) (Instr.sliceAt t x' FG jH mx'):=by
 unfold Instr.sliceAt;refine .bind (ap.underlying f t) λσ d p c⟨e,hd⟩=>?_;subst e;simp only[Ax,hd]at ht;cases d with
 |slice elem=>
  unfold Instr.slice;refine .bind (ap.underlying f t) λq d p g⟨e,i⟩=>?_;subst e;rw[hd]at i;cases i;replace c:=Ren.le_trans c g;have k:=o.mono c;have l:=k;cases k<;>first|exact .stuck|skip
  all_goals
   refine .bind (ajd f true _ _ (m.mono c) (s.mono c) (h.mono c)) λq a b g e=>?_;subst e;refine .bind (ap.sizeOf f elem) λv n u j e=>?_;subst e;refine .pure ?_
  .split<;>exact .jV _ _
  .cases l;rename_i r;split
   .exact .slice _ _ ((r.mono g).mono j)
   .exact .slice _ _ (((r.mono g).mono j).add _)
 | _=>cases ht
def ajf(b:C.cp)(t:uab)(h:ax ρ x x'):ap C ρ ax (Instr.makeInterface t x) (Instr.makeInterface t x'):=by unfold Instr.makeInterface;refine .bind (ap.underlying b t) λσ d c a⟨e,_⟩=>?_;subst e;cases d<;>first|exact .stuck|exact .pure (.iface t (h.mono a))
def ajg(b:C.cp)(p:C.u_)(t:uab){l l' c c':Value}(h:ax ρ l l')(k:ax ρ c c'):ap C ρ ax (Instr.makeSlice t l c) (Instr.makeSlice t l' c'):=by
 unfold Instr.makeSlice;refine .bind (ap.underlying b t) λσ d L j⟨e,_⟩=>?_;subst e;cases d with
 |slice elem=>
  simp only[];refine .bind (ap.asInt (h.mono j)) λM n E w e=>?_;subst e;refine .bind (ap.asInt ((k.mono j).mono w)) λI m H J e=>?_;subst e;refine .bind (ap.typeInfo b elem) λO i K F⟨e,_⟩=>?_;subst e;refine .ite (λ_=>.ite (λ_=>.cut (ap.runtimePanic b _)) (λ_=>.ite (λ_=>.cut (ap.runtimePanic b _)) (λ_=>.bind (ap.choose _) λN x y _ e=>by subst e;exact .cut (ap.runtimePanic b _)))) (λ_=>?_);refine .bind (ap.askRoom _) λD _ _ _ _=>.bind (ap.sizeOf b elem) λB s s' _ e=>?_;subst e;refine .ite (λ_=>.bind (R:=λ_ x y=>x=y/\kF x) (.pure ⟨Y,λi v h=>AJ⟩) λf z o _⟨e,g⟩=>?_)
   (λ_=>.bind (ap.zeroValue b p elem) λf y y' _⟨u,q⟩=>.bind (R:=λ_ x y=>x=y/\kF x) (.pure ⟨by rw[u],q.cells⟩) λA z o _⟨e,g⟩=>?_)
  all_goals
   subst e;exact .bind (ap.newRow elem ((g.Rc _).rel _)) λ_ a a' _ r=>.pure (.slice _ _ r)
 | _=>exact .stuck
def aji(h:ax ρ x x')(i:Nat):ap C ρ ax (Instr.extract x i) (Instr.extract x' i):=by
 unfold Instr.extract;cases h with
 |@tuple a a' hs h=>simp only[];cases c:a[i]? with|none=>exact .stuck|some v=>obtain⟨v',b,d⟩:=aM.some ⟨hs,h⟩ c;rw[b];exact .pure d
 | _=>exact .stuck
def X4(h:ax ρ x x'):ap C ρ (λ_ a b=>a=b) (Builtin.lenOf x) (Builtin.lenOf x'):=by cases h<;>first|exact .pure Y|exact .stuck
def Mn(size n:Nat)(h:ax ρ x x'):ap C ρ aM (Builtin.firstCells size n x) (Builtin.firstCells size n x'):=by
 cases h with
 |jV l c=>exact .pure (.nil ρ)
 |slice l c r=>exact ap.loadCells r _
 |string s=>refine .pure ⟨Y,λi v v' a d=>?_⟩;rw[a]at d;cases d;simp only[vch,vak]at a;obtain⟨b,_,rfl⟩:=a;exact .int _ _
 | _=>exact .stuck
theorem kF.zeroCells(h:kF z)(n:Nat):kF (Builtin.zeroCells z n):=h.Rc _
end
end
variable{rN:fi}
section
attribute [-simp] Sem.runT_eq
section
variable{C:cQ}{ρ:Ren}
def Re(P:cf)(w:aH)(a:Addr)(n:Nat):∃b,(Builtin.holdsCells a n).run P w=.ok b w:=by unfold Builtin.holdsCells;rw[nd];simp only[Go.shape,Sem.run];cases w.shape? a.block<;>exact⟨_,Y⟩
def ajj(P:cf)(w:aH)(size d n:Nat)(base:uam)(x:Value):∃b,(Builtin.mayShare size d n base x).run P w=.ok b w:=by
 unfold Builtin.mayShare;cases base with
 |none=>
  simp only[];rw[nd];simp only[Pure.pure,Sem.run,Bool.not_true,vaf,vbv];split
  .obtain⟨y,c⟩:=Re P w _ (n*size);exact⟨_,by rw[nd,c];rfl⟩
  simp_all
 |some a=>
  simp only[];obtain⟨y,c⟩:=Re P w a (d*size);rw[nd,c];simp only[];rw[nd];simp only[Go.frozen,Sem.run];rw[nd];simp only[Pure.pure,Sem.run];split
  .simp_all
  .split
   .obtain⟨y,c⟩:=Re P w _ (n*size);exact⟨_,by rw[nd,c];rfl⟩
   simp_all
def ajk(f:C.cp)(p:C.u_)(ats:uap)(t:uab){args:fi}(h:aM ρ args rN):ap C ρ ax (Builtin.append_ ats t args) (Builtin.append_ ats t rN):=by
 unfold Builtin.append_;cases h0:ats[0]? with|none=>exact .stuck|some A=>
 cases P:args[0]? with|none=>exact .stuck|some s=>
 cases O:args[1]? with|none=>exact .stuck|some x=>
 obtain⟨s',S,hs⟩:=h.some P;obtain⟨x',Q,g⟩:=h.some O;rw[S,Q];refine .bind (ap.underlying f A) λσ d Y m⟨e,_⟩=>?_;subst e;cases d with
 |slice elem=>
  have F:=hs.mono m;replace g:=g.mono m;have E:=F;cases F<;>first|exact .stuck|skip
  all_goals
   refine .bind (ap.sizeOf f elem) λZ size _ l1 e=>?_;subst e;cases ats[1]?<;>try(refine .bind (ap.underlying f _) λj d _ l2⟨e,_⟩=>?_;subst e;replace l1:=Ren.le_trans l1 l2)
  all_goals
   refine .bind (R:=λ_ a b=>a=b) (.pure rfl) λj z _ l2 e=>?_;subst e;replace l1:=Ren.le_trans l1 l2;refine .ite (λ_=>.bind (ap.asInt (g.mono l1)) λI n _ l2 e=>?_) (λ_=>.bind (X4 (g.mono l1)) λI n _ l2 e=>?_)
  all_goals
   subst e;replace l1:=Ren.le_trans l1 l2;try
    refine .ite (λ_=>.cut (ap.runtimePanic f _)) (λ_=>.bind (ap.typeInfo f elem) λRf i _ v⟨e,_⟩=>?_);subst e;refine .ite (λ_=>.bind (ap.choose _) λ_ _ _ _ e=>by subst e;exact .cut (ap.runtimePanic f _)) (λ_=>.bind (R:=λ_ a b=>a=b) (.pure rfl) λI k _ q e=>?_);subst e;replace l1:=Ren.le_trans (Ren.le_trans l1 v) q
  all_goals
   refine .ite (λ_=>.bind (.ite (λ_=>Mn _ _ (g.mono l1)) (λ_=>.ite (λ_=>.pure (.nil _)) (λ_=>.bind (ap.zeroValue f p elem) λj z D _⟨e,l⟩=>Jb))) λσ a a' m u=>?_) (λ_=>.bind (ap.typeInfo f elem) λσ i J l2⟨e,_⟩=>?_)
   .have X:=E.mono (Ren.le_trans l1 m);cases X;first|exact .pure (.jV _ _)|skip
    all_goals
     rename_i r;exact .bind (ap.storeCells (r.add _) (dx.Il u) 0) λj _ _ l2 _=>.pure (.slice _ _ (r.mono l2))
   .subst e;refine .ite (λ_=>.cut (ap.runtimePanic f _)) (λ_=>.bind (ap.typeInfo f elem) λRh i J v⟨e,_⟩=>?_);subst e;refine .ite (λ_=>.cut (.ite (λ_=>ap.runtimePanic f _) (λ_=>.none λw=>?_))) (λ_=>.bind (ap.choose _) λB_ c c' q e=>?_)
    .obtain⟨b,M⟩:=ajj C.P w size _ _ _ x;rw[nd,M];cases b<;>exact id
    .subst e;refine .bind (ap.typeInfo f elem) λX6 i _ N⟨e,_⟩=>.bind (by subst e;exact ap.askRoom _) λT _ _ B _=>?_;replace l1:=Ren.le_trans (Ren.le_trans (Ren.le_trans (Ren.le_trans (Ren.le_trans l1 l2) v) q) N) B;refine .bind (Mn _ _ (E.mono l1)) λW o o' B L=>.bind (.ite (λ_=>Mn _ _ (g.mono (Ren.le_trans l1 B))) (λ_=>.ite (λ_=>.pure (.nil _)) (λ_=>.bind (ap.zeroValue f p elem) λj z D _⟨e,l⟩=>Jb))) λV a a' y u=>.bind (ap.zeroValue f p elem) λU z D H⟨e,l⟩=>?_;subst e;exact .bind (ap.newRow elem (((L.mono (Ren.le_trans y H)).append (u.mono H)).append ((l.cells.zeroCells _).rel _))) λ_ r r' _ K=>.pure (.slice _ _ K)
 | _=>exact .stuck
end
end
variable{b b':Addr}
section
attribute [-simp] Sem.runT_eq
def yi(P:cf):Nat->TypeId->Bool
 |0,_=>true
 |d+1,t=>
  match P.underlying t with
  |some .bool|some (.int _)|some .string|some (.slice _)=>true
  |some (.struct fs)=>fs.all λf=>yi P d f.type
  | _=>false
section
variable{C:cQ}{ρ:Ren}
abbrev cp{ao:Type}:Ren->ao->ao->Prop:=λ_ a b=>a=b
def X8{ao aO:Type}{R:Ren->ao->aO->Prop}{m:Sem ao}{d:Sem aO}(h:(∀a b b',ρ.rel a b->ρ.rel a b'->b=b')->(∀a a' b,ρ.rel a b->ρ.rel a' b->a=a')->(∀g,g<=C.P.globals.size->ρ.rel g g)->ap C ρ R m d):ap C ρ R m d:=
 λS w w' c hg e=>h c.one c.inj c.nL S w w' c hg e
def X9{ao aO:Type}{c:Ren}{f f':ao->aO->Sem (ForInStep aO)}(l:List ao)(h:∀(ρ:Ren),Ren.le c ρ->∀a∈l,∀s,ap C ρ cp (f a s) (f' a s)):∀(ρ:Ren),Ren.le c ρ->∀(s:aO),ap C ρ cp (forIn l s f) (forIn l s f'):=by induction l with|nil=>intro ρ _ s;exact .pure Y|cons a l g=>intro ρ d s;simp only[List.forIn_cons];refine .bind (h ρ d a AQ s) λσ x y l2 e=>?_;subst e;cases x with|done b=>exact .pure Y|yield b=>grind[Ren.le_trans]
def Ya{ao aO:Type}{f f':ao->aO->Sem (ForInStep aO)}(l:Array ao)(h:∀(σ:Ren),Ren.le ρ σ->∀a∈l,∀s,ap C σ cp (f a s) (f' a s))(s:aO):ap C ρ cp (forIn l s f) (forIn l s f'):=by rw[<-Array.forIn_toList,<-Array.forIn_toList];exact X9 l.toList (λρ b a c s=>h ρ b a AJ s) ρ (Ren.le_refl _) s
def ajo{aO:Type}{f f':Nat->aO->Sem (ForInStep aO)}(n:Nat)(h:∀(σ:Ren),Ren.le ρ σ->∀i s,ap C σ cp (f i s) (f' i s))(s:aO):ap C ρ cp (forIn [0:n] s f) (forIn [0:n] s f'):=by rw[Std.Legacy.Range.forIn_eq_forIn_range',Std.Legacy.Range.forIn_eq_forIn_range'];exact X9 _ (λρ b a _ s=>h ρ b a s) ρ (Ren.le_refl _) s
theorem Yb(a:C.cp)(t:uab):C.Q.underlyingId t=C.P.underlyingId t:=by grind[Program.underlyingId,FE]
theorem ajp(b:C.cp):∀(n:Nat)(t u:uab),C.Q.alikeButTags n t u=C.P.alikeButTags n t u:=by intro n;induction n with|zero=>intro t u;rfl|succ n a=>simp_all[Program.alikeButTags,FE]
theorem Mo(a:C.cp)(t:uab):C.Q.stoodInHeld t=C.P.stoodInHeld t:=by
 have e:C.Q.cutTypes=C.P.cutTypes:=by rw[a]
 unfold Program.stoodInHeld Program.stoodInAs;grind[B7,ajp,Yb,FE,FF]
abbrev ajq(ρ:Ren)(a b:Option (Addr×Bool)):Prop:=o0 (λx y=>dE ρ x.1 y.1/\x.2=y.2) a b
def ajr(h:ρ.rel r r'):ap C ρ ajq (numberAt r) (numberAt r'):=by
 unfold numberAt;refine .bind (ap.shape h) λσ s s' c e=>?_;subst e;refine .ite (λ_=>.pure .none) (λ_=>?_);refine .bind (ap.getObj (c.1 _ _ h)) λd o o' _ hg=>?_;obtain⟨b,hn,_⟩:=hg;cases b with
 |shut a=>cases o'<;>first|exact a.elim|exact .pure .none
 |number h l=>exact .pure (.some ⟨h,Y⟩)
 | _=>exact .pure .none
def Ay(h:dE ρ a a'):ap C ρ (λσ x y=>dE σ x.1 y.1/\x.2=y.2) (behindNumber a) (behindNumber a'):=by unfold behindNumber;refine .bind (ajr h.1) λσ x y b hn=>.pure ?_;cases hn with|none=>exact⟨h.mono b,Y⟩|some k=>exact k
def dE.Yc(one:∀a b b',ρ.rel a b->ρ.rel a b'->b=b')(inj:∀a a' b,ρ.rel a b->ρ.rel a' b->a=a')(h:dE ρ a a')(k:dE ρ b b'):(a==b)=(a'==b')/\(a.block==b.block)=(a'.block==b'.block):=by obtain⟨b1,i,d⟩:=a;obtain⟨b2,g,je⟩:=a';obtain⟨r,f,j⟩:=b;obtain⟨cm,e,c⟩:=b';obtain⟨q,p,o⟩:=h;obtain⟨n,m,l⟩:=k;grind
def ajs(j:C.cp):∀(d:Nat)(t:uab),yi C.P d t=true->∀(ρ:Ren){x x' y y':Value},ax ρ x x'->ax ρ y y'->ap C ρ cp (Op.equalIn d t x y) (Op.equalIn d t x' y'):=by
 intro d;induction d with
 |zero=>intro t _ ρ x x' y y' _ _;exact .unsupported
 |succ d U=>
  intro t ht ρ x x' y y' W V;unfold Op.equalIn;refine .bind (ap.underlying j t) λσ u T I⟨e,X⟩=>?_;subst e;simp only[yi,X]at ht;have z:=W.mono I;have g:=V.mono I;cases u with
  |bool=>
   cases z with
   |bool a=>cases g with|bool b=>exact .pure rfl| _=>exact .stuck
   | _=>exact .stuck
  |int k=>
   cases z with
   |int F E=>
    cases g with
    |int B H=>exact .ite (λ_=>.pure rfl) (λ_=>.stuck)
    |ptr r=>
     cases E with
     |ofNat m=>cases m with|zero=>exact .pure rfl|succ m=>exact .unsupported
     |negSucc m=>exact .unsupported
    |lN=>
     cases E with
     |ofNat m=>cases m with|zero=>exact .unsupported|succ m=>exact .unsupported
     |negSucc m=>exact .unsupported
    | _=>exact .stuck
   |ptr r=>
    cases g with
    |int B H=>
     cases H with
     |ofNat m=>cases m with|zero=>exact .pure rfl|succ m=>exact .unsupported
     |negSucc m=>exact .unsupported
    |ptr N=>
     refine .bind (Ay r) λbu p D l1⟨Y,_⟩=>.bind (Ay (N.mono l1)) λRh q q' l2⟨hq,_⟩=>.bind .program λM r r' J⟨w,n⟩=>?_;subst w;subst n;have A:=Y.mono (Ren.le_trans l2 J);have L:=hq.mono J;refine X8 λone inj nL=>?_;have P:C.Q.globals.size=C.P.globals.size:=by rw[j]
     obtain⟨w,n⟩:=dE.Yc one inj A L;have e3:decide (p.1.block<C.P.globals.size)=decide (D.1.block<C.Q.globals.size):=by
      rw[P];have:p.1.block<C.P.globals.size↔D.1.block<C.P.globals.size:=by
       constructor
       .intro h;have:=one _ _ _ (nL _ (Nat.le_of_lt h)) A.1;omega
       .intro h;have:=inj _ _ _ (nL _ (Nat.le_of_lt h)) A.1;omega
      grind
     rw[<-n,<-e3,<-w];refine .ite (λ_=>.bind (B9 j A) λX6 x x' S e=>.bind (B9 j (L.mono S)) λajm y y' _ e'=>.pure AJ) (λ_=>.bind (ap.typeInfo j t) λX6 i i' _⟨e,_⟩=>?_);subst e;split
     .exact .ite (λ_=>.pure rfl) (λ_=>.unsupported)
     .exact .unsupported
    | _=>exact .unsupported
   |lN=>cases g<;>exact .unsupported
   | _=>cases g<;>first|exact .stuck|exact .unsupported
  |string=>
   cases z with
   |string a=>cases g with|string b=>exact .pure rfl| _=>exact .stuck
   | _=>exact .stuck
  |slice e=>
   cases z with
   |jV l c=>cases g with|jV l c=>exact .pure rfl|slice l c r=>exact .pure rfl| _=>exact .stuck
   |slice l c r=>cases g with|jV l c=>exact .pure rfl|slice l c r=>exact .stuck| _=>exact .stuck
   | _=>exact .stuck
  |struct fields=>
   cases z with
   |agg O h1=>
    cases g with
    |agg Q h2=>
     simp only[vao]at ht;refine .bind .program λbu p q l1⟨w,n⟩=>?_;subst w;subst n;rw[Mo j];refine .ite (λ_=>.cut .unsupported) (λ_=>?_)
     .refine .bind (Ya fields (λcY lt f Z s=>.ite (λ_=>?_) (λ_=>.pure rfl)) _) λM x y _ e=>by subst e;obtain⟨o,_⟩:=x;cases o<;>exact(.pure rfl:ap C M cp (Pure.pure _) (Pure.pure _))
      have K:=Ren.le_trans l1 lt;exact .bind (ap.part j _ (aM.mono K ⟨O,h1⟩) _) λYd u T F It=>.bind (ap.part j _ (aM.mono (Ren.le_trans K F) ⟨Q,h2⟩) _) λIu v v' B R=>
       .bind (U _ (ht f Z) Iu (It.mono B) R) λRf b b' _ e=>EA
    | _=>exact .stuck
   | _=>exact .stuck
  | _=>cases ht
end
end
section
attribute [-simp] Sem.runT_eq
section
variable{C:cQ}{ρ:Ren}
theorem aM.two{a b a' b':Value}(h:ax ρ a a')(k:ax ρ b b'):aM ρ #[a,b] #[a',b']:=by simpa using aM.append (aM.one h) (aM.one k)
def ajt(b:C.cp)(ats:uap)(t:uab){args:fi}(h:aM ρ args rN):ap C ρ ax (Builtin.len_ ats t args) (Builtin.len_ ats t rN):=by
 unfold Builtin.len_;cases h0:ats[0]? with|none=>exact .stuck|some ty=>
 cases m:args[0]? with|none=>exact .stuck|some x=>
 obtain⟨x',p,f⟩:=h.some m;rw[p];refine .bind (ap.underlying b ty) λσ u d j⟨e,_⟩=>?_;subst e;have a:=f.mono j;cases u with
 |string=>cases a with|string s=>exact .pure (.int _ _)| _=>exact .stuck
 |array n e=>exact .pure (.int _ _)
 |pointer arr=>refine .bind (ap.underlying b arr) λq u d _⟨e,_⟩=>?_;subst e;cases u with|array n e=>exact .pure (.int _ _)| _=>exact .stuck
 |slice e=>cases a with|jV l c=>exact .pure (.int _ _)|slice l c r=>exact .pure (.int _ _)| _=>exact .stuck
 |map k e=>
  cases a with
  |qJ=>exact .pure (.int _ _)
  |map g=>
   refine .bind (ap.getObj g) λq o o' l1 hg=>?_;obtain⟨i,_,_⟩:=hg;cases i with
   |@map es es' clock h=>
    have:es.size=es'.size:=by simpa using h.length
    refine .pure ?_;rw[this];exact .int _ _
   | _=>exact .stuck
  | _=>exact .stuck
 |chan k e=>cases a with|pL=>exact .pure (.int _ _)| _=>exact .stuck
 | _=>exact .stuck
def aju(a:C.cp)(ats:uap)(t:uab){args:fi}(h:aM ρ args rN):ap C ρ ax (Builtin.cap_ ats t args) (Builtin.cap_ ats t rN):=by
 unfold Builtin.cap_;cases h0:ats[0]? with|none=>exact .stuck|some ty=>
 cases i:args[0]? with|none=>exact .stuck|some x=>
 obtain⟨x',j,f⟩:=h.some i;rw[j];refine .bind (ap.underlying a ty) λσ u d g⟨e,_⟩=>?_;subst e;have b:=f.mono g;cases u with
 |array n e=>exact .pure (.int _ _)
 |pointer arr=>refine .bind (ap.underlying a arr) λm u d _⟨e,_⟩=>?_;subst e;cases u with|array n e=>exact .pure (.int _ _)| _=>exact .stuck
 |slice e=>cases b with|jV l c=>exact .pure (.int _ _)|slice l c r=>exact .pure (.int _ _)| _=>exact .stuck
 |chan k e=>cases b with|pL=>exact .pure (.int _ _)| _=>exact .stuck
 | _=>exact .stuck
def ajv(d:C.cp)(ats:uap)(t:uab){args:fi}(h:aM ρ args rN):ap C ρ ax (Builtin.copy_ ats t args) (Builtin.copy_ ats t rN):=by
 unfold Builtin.copy_;cases h0:ats[0]? with|none=>exact .stuck|some ty=>
 cases l:args[0]? with|none=>exact .stuck|some x=>
 cases k:args[1]? with|none=>exact .stuck|some y=>
 obtain⟨x',o,i⟩:=h.some l;obtain⟨y',m,b⟩:=h.some k;rw[o,m];refine .bind (ap.underlying d ty) λσ u w a⟨e,_⟩=>?_;subst e;cases u with
 |slice elem=>
  have f:=i.mono a;have g:=f;cases f<;>first|exact .stuck|skip
  all_goals
   refine .bind (X4 (b.mono a)) λz n q l1 e=>?_;subst e;refine .bind (ap.sizeOf d elem) λv s s' l2 e=>?_;subst e;refine .bind (Mn s _ (b.mono (Ren.le_trans (Ren.le_trans a l1) l2))) λA c c' p j=>?_;cases g
  .exact .pure (.int _ _)
  .rename_i r;exact .bind (ap.storeCells (r.mono (Ren.le_trans (Ren.le_trans l1 l2) p)) (dx.Il j) 0) λ_ _ _ _ _=>.pure (.int _ _)
 | _=>exact .stuck
def Ye(op:BinOp)(k:IntKind)(x y:Int):ap C ρ ax (Op.intArith op k x y) (Op.intArith op k x y):=by unfold Op.intArith;cases op<;>first|exact .stuck|exact .pure (.int _ _)
def ajw(a:C.cp)(op:BinOp)(k:IntKind)(x y:Int):ap C ρ ax (Op.intDiv op k x y) (Op.intDiv op k x y):=by unfold Op.intDiv;repeat' first|exact .stuck|exact .pure (.int _ _)|exact ap.runtimePanic a _ |split
def ajx(op:BinOp)(x y:Int):ap C ρ ax (Op.intCmp op x y) (Op.intCmp op x y):=by unfold Op.intCmp;cases op<;>first|exact .stuck|exact .pure (.bool _)
theorem Rj(op:BinOp)(x y:ByteArray):ap C ρ ax (Op.stringOp op x y) (Op.stringOp op x y):=by unfold Op.stringOp;cases op with|add=>exact .ite (λ_=>.unsupported) (λ_=>.pure (.string _))| _=>first|exact .stuck|exact .pure (.bool _)
def Yf:UnOp->Bool
 | .xor=>false
 | _=>true
def ajy(op:UnOp)(a:Yf op=true)(h:ax ρ x x'):ap C ρ ax (Op.unary op x) (Op.unary op x'):=by
 unfold Op.unary;cases op with
 |neg=>cases h with|int k n=>exact Ye _ _ _ _|ptr r=>exact .unsupported| _=>exact .stuck
 |xor=>cases a
 |not=>cases h with|bool b=>exact .pure (.bool _)| _=>exact .stuck
 |plus=>cases h<;>exact .stuck
end
end
variable{y y':Value}
section
attribute [-simp] Sem.runT_eq
section
variable{C:cQ}{ρ:Ren}
theorem ajz(c:C.cp):∀(d:Nat)(t:uab)(b:Nat),cellOfByte C.Q d t b=cellOfByte C.P d t b:=by intro d;induction d with|zero=>intro t b;rfl|succ d a=>grind[cellOfByte,B7,B8,Mj]
def ajA(a:C.cp)(d:Nat)(e:uab)(c o:Nat)(b:Int):cellAtBytes C.Q d e c o b=cellAtBytes C.P d e c o b:=by grind[cellAtBytes,B8,Mj,X1,ajz]
def Yg(a:C.cp)(ats:uap)(t:uab)(i:ax ρ x x')(h:ax ρ y y'):ap C ρ ax (Builtin.unsafeAdd_ ats t #[x,y]) (Builtin.unsafeAdd_ ats t #[x',y']):=by
 obtain⟨b,b',g,rfl,rfl⟩|hs:(∃b b',o0 (dE ρ) b b'/\x=.pointer b/\x'=.pointer b')\/ap C ρ ax (Builtin.unsafeAdd_ ats t #[x,y]) (Builtin.unsafeAdd_ ats t #[x',y']):=by unfold Builtin.unsafeAdd_;cases i with|lN=>exact .inl ⟨none,none,.none,Y,Y⟩|ptr r=>exact .inl ⟨_,_,.some r,Y,Y⟩| _=>exact .inr .stuck
 .unfold Builtin.unsafeAdd_;refine .bind (ap.asInt h) λσ n l l1 e=>?_;subst e;refine .ite (λ_=>?_) (λ_=>.ite (λ_=>.cut .unsupported) (λ_=>?_))
  .cases g with|none=>exact .unsupported|some r=>refine .bind (X2 (l1.1 _ _ r.1)) λk v v' l2⟨f,d⟩=>?_;subst f;subst d;exact .pure (.ptr (r.mono (Ren.le_trans l1 l2)))
  .cases g with
   |none=>exact .unsupported
   |some r=>
    refine .bind (ap.shape (l1.1 _ _ r.1)) λk s s' l2 e=>?_;subst e;cases s with
    |none=>exact .unsupported
    |some ec=>
     obtain⟨e,c⟩:=ec;refine .bind .program λm p q j⟨f,d⟩=>?_;subst f;subst d;simp only[ajA a,FF a,B8 a];rw[<-r.2.1];split
     .exact .pure (.ptr ⟨j.1 _ _ (l2.1 _ _ (l1.1 _ _ r.1)),Y,r.2.2⟩)
     .exact .unsupported
 grind
def Rk(b:C.cp)(t:uab)(d:ax ρ x x')(c:ax ρ y y'):ap C ρ ax (movedNumber t x y) (movedNumber t x' y'):=by
 unfold movedNumber;refine .bind (ap.underlying b t) λσ u o l1⟨e,_⟩=>?_;subst e;refine .ite (λ_=>.cut .unsupported) (λ_=>?_);have j:=d.mono l1;cases j with
 |ptr r=>refine .bind (Ay r) λw p q l2 h=>?_;obtain⟨a,B5⟩:=p;obtain⟨a',k⟩:=q;obtain⟨i,rfl⟩:=h;refine .bind (Yg b #[] t (.ptr i) ((c.mono l1).mono l2)) λm v v' s hv=>?_;have g:=hv;cases hv with|ptr f=>exact .bind (ap.new (.number f B5)) λz n l _ hn=>.pure (.ptr ⟨hn.1,Y,Y⟩)| _=>exact .pure g
 | _=>exact Yg b #[] t (ax.mono l1 d) (c.mono l1)
def Yh(d:C.cp)(l:dE ρ a a')(k:dE ρ b b'):ap C ρ cp (Op.twoPlaces a b) (Op.twoPlaces a' b'):=by
 unfold Op.twoPlaces;refine .bind .program λσ p q l1⟨n,g⟩=>?_;subst n;subst g;refine X8 λone inj nL=>?_;have j:C.Q.globals.size=C.P.globals.size:=by rw[d]
 have c:=l.mono l1;have i:=k.mono l1;obtain⟨_,g⟩:=dE.Yc one inj c i;have m:decide (a.block ≥ C.P.globals.size)=decide (a'.block ≥ C.Q.globals.size):=by
  rw[j];have:a.block<C.P.globals.size↔a'.block<C.P.globals.size:=by
   constructor
   .intro h;have:=one _ _ _ (nL _ (Nat.le_of_lt h)) c.1;omega
   .intro h;have:=inj _ _ _ (nL _ (Nat.le_of_lt h)) c.1;omega
  grind
 have f:(a.block != b.block)=(a'.block != b'.block):=AJ;rw[f,m];exact .ite (λ_=>.cut .unsupported) (λ_=>.bind (B9 d c) λo x x' l2 e=>.bind (B9 d (i.mono l2)) λs y y' _ r=>.pure AJ)
def ajC(f:C.cp)(k:IntKind)(d:dE ρ a a')(c:dE ρ b b'):ap C ρ ax (Op.addrSub k a b) (Op.addrSub k a' b'):=by unfold Op.addrSub;exact .bind (Yh f d c) λσ x y _ e=>by subst e;exact .pure (.int _ _)
def ajD(f:C.cp)(op:BinOp)(d:dE ρ a a')(c:dE ρ b b'):ap C ρ ax (Op.addrCmp op a b) (Op.addrCmp op a' b'):=by unfold Op.addrCmp;exact .bind (Yh f d c) λσ x y _ e=>by subst e;cases op<;>first|exact .unsupported|exact .pure (.bool _)
def ajE(d:C.cp)(k:IntKind)(b:dE ρ a a')(n:Int):ap C ρ ax (Op.addrMod k a n) (Op.addrMod k a' n):=by
 unfold Op.addrMod;refine .bind (ap.shape b.1) λσ s s' l1 e=>?_;subst e;cases s with
 |none=>exact .unsupported
 |some ec=>
  obtain⟨e,c⟩:=ec;refine .bind (ap.typeInfo d e) λg i f l2⟨e,_⟩=>?_;subst e;exact .ite (λ_=>.cut .unsupported)
   (λ_=>.bind (B9 d (b.mono (Ren.le_trans l1 l2))) λ_ x y _ e=>by subst e;exact .pure (.int _ _))
def Yi(a:C.cp):∀(d:Nat)(t:uab)(ρ:Ren){x x' y y':Value},ax ρ x x'->ax ρ y y'->ap C ρ cp (Op.eqGuardIn d t x y) (Op.eqGuardIn d t x' y'):=by
 intro d;induction d with
 |zero=>intro t ρ x x' y y' _ _;exact .unsupported
 |succ d D=>
  intro t ρ x x' y y' I H;unfold Op.eqGuardIn;refine .bind (ap.underlying a t) λσ u B E⟨e,N⟩=>?_;subst e;have r:=I.mono E;have g:=H.mono E;cases u with
  |interface ms=>
   cases r with
   |nilIface=>cases g with|nilIface=>exact .pure Y| _=>exact .pure Y
   | _=>exact .pure Y
  |struct fields=>
   cases r with
   |agg c q=>
    cases g with
    |agg h p=>
     refine .bind (Ya fields (λJ lt f O s=>.ite (λ_=>?_) (λ_=>.pure Y)) _) λA x y _ e=>by subst e;obtain⟨o,_⟩:=x;cases o<;>exact(.pure Y:ap C A cp (Pure.pure _) (Pure.pure _))
     exact .bind (ap.part a _ (aM.mono lt ⟨c,q⟩) _) λK u B l z=>.bind (ap.part a _ (aM.mono (Ren.le_trans lt l) ⟨h,p⟩) _) λw v v' k j=>
      .bind (D _ w (z.mono k) j) λL b b' _ e=>EA
    | _=>exact .pure Y
   | _=>exact .pure Y
  |array n e=>
   cases r with
   |agg c q=>
    cases g with
    |agg h p=>
     refine .bind (ap.sizeOf a e) λP m M l1 em=>?_;subst em;refine .bind (ajo n (λJ lt i s=>?_) _) λA x y _ e=>by subst e;obtain⟨o,_⟩:=x;cases o<;>exact(.pure Y:ap C A cp (Pure.pure _) (Pure.pure _))
     have F:=Ren.le_trans l1 lt;exact .bind (ap.part a _ (aM.mono F ⟨c,q⟩) _) λK u B l z=>.bind (ap.part a _ (aM.mono (Ren.le_trans F l) ⟨h,p⟩) _) λw v v' k j=>
      .bind (D _ w (z.mono k) j) λL b b' _ e=>EA
    | _=>exact .pure Y
   | _=>exact .pure Y
  | _=>exact .pure Y
def Yj(b:C.cp):∀(d:Nat)(t:uab),C.Q.eqGuardType d t=C.P.eqGuardType d t:=by intro d;induction d with|zero=>intro t;rfl|succ d a=>grind[Program.eqGuardType,B7]
def ajF(a:C.cp)(op:BinOp)(t:uab)(p q:uau)(h:ax ρ x x')(c:ax ρ y y'):ap C ρ (λ_(_ _:Unit)=>True) (eqGuard op t p q x y) (eqGuard op t p q x' y'):=by
 unfold eqGuard;refine .ite (λ_=>.pure trivial) (λ_=>?_);cases h with
 |nilIface=>cases c with|nilIface=>refine .ite (λ_=>.pure trivial) (λ_=>.bind (Yi a _ t ρ .nilIface .nilIface) λσ b b' _ e=>?_);subst e;exact .ite (λ_=>.unsupported) (λ_=>.pure trivial)| _=>exact .pure trivial
 |agg f j=>cases c with|agg g i=>refine .bind .program λu p q l1⟨n,m⟩=>.bind .program λo s r l2⟨l,k⟩=>?_;subst n;subst m;subst l;subst k;rw[Yj a,FF a];have d:=Ren.le_trans l1 l2;refine .ite (λ_=>.pure trivial) (λ_=>.bind (Yi a _ t o ((ax.agg f j).mono d) ((ax.agg g i).mono d)) λσ b b' _ e=>?_);subst e;exact .ite (λ_=>.unsupported) (λ_=>.pure trivial)| _=>exact .pure trivial
 | _=>exact .pure trivial
end
end
section
attribute [-simp] Sem.runT_eq
def Ca(P:cf)(op:BinOp)(t:uab):Bool:=
 match op with
 | .eql| .neq=>yi P Op.maxDepth t
 | .shl| .shr| .and| .or| .xor| .andNot=>false
 | _=>match P.underlying t with|some .unsafePointer=>false| _=>true
section
variable{C:cQ}{ρ:Ren}
def Rl(d:C.cp)(op:BinOp)(t:uab)(c:Ca C.P op t=true)(k k':IntKind)(a b:Int):ap C ρ ax (binOp op t (.int k a) (.int k' b)) (binOp op t (.int k a) (.int k' b)):=by cases op<;>first|cases c|exact .ite (λ_=>.stuck) (λ_=>Ye _ _ _ _)|exact .ite (λ_=>.stuck) (λ_=>ajw d _ _ _ _)|exact .ite (λ_=>.stuck) (λ_=>ajx _ _ _)
theorem Rm(op:BinOp)(t:uab)(a b:ByteArray):binOp op t (.string a) (.string b)=Op.stringOp op a b:=by cases op<;>rfl
def Yl(c:C.cp){t:uab}(ht:yi C.P Op.maxDepth t=true)(b:ax ρ x x')(a:ax ρ y y'):ap C ρ cp (Op.equal t x y) (Op.equal t x' y'):=ajs c Op.maxDepth t ht ρ b a
def Ym(f:C.cp){t:uab}(ht:yi C.P Op.maxDepth t=true)(d:ax ρ x x')(c:ax ρ y y'):
 ap C ρ ax (do pure (.bool (<-Op.equal t x y))) (do pure (.bool (<-Op.equal t x' y')))/\ap C ρ ax (do pure (.bool (!(<-Op.equal t x y)))) (do pure (.bool (!(<-Op.equal t x' y')))):=
 ⟨.bind (Yl f ht d c) λ_ a b _ e=>by subst e;exact .pure (.bool _),.bind (Yl f ht d c) λ_ a b _ e=>by subst e;exact .pure (.bool _)⟩
def ajG(a:C.cp)(op:BinOp)(t:uab)(b:Ca C.P op t=true)(d:ax ρ x x')(c:ax ρ y y'):ap C ρ ax (binOp op t x y) (binOp op t x' y'):=by
 have g:=d;have i:=c;cases op
 case eql=>exact(have hq:=(Ym (ρ:=ρ) a b d c).1;FP)
 case neq=>exact(have hq:=(Ym (ρ:=ρ) a b d c).2;FP)
 all_goals first|exact absurd b Bool.false_ne_true|skip
 all_goals cases d<;>cases c<;>first
  |exact .stuck
  |exact .unsupported
  |exact Rl a _ _ b _ _ _ _
  |(rw[Rm];exact Rj _ _ _)
  |exact Rk a _ i g
  |exact Rk a t g (.int _ _)
  |exact .bind (Ay CN) λσ p h l1⟨f,_⟩=>ajE a _ f _
  |exact .bind (Ay CN) λσ p h l1⟨f,_⟩=>.bind (Ay (dE.mono l1 AJ)) λl q j l2⟨hq,_⟩=>ajC a _ (f.mono l2) hq
  |exact .bind (Ay CN) λσ p h l1⟨f,_⟩=>.bind (Ay (dE.mono l1 AJ)) λl q j l2⟨hq,_⟩=>ajD a _ (f.mono l2) hq
  |(refine .bind (ap.underlying a t) λσ u m l1⟨e,k⟩=>?_;subst e;simp only[Ca,k]at b;cases u<;>first|exact absurd b Bool.false_ne_true|exact Rk a t (g.mono l1) (i.mono l1))
end
end
variable{l l':Nat}{assign body:Code}
section
attribute [-simp] Sem.runT_eq
section
variable{C:cQ}{ρ:Ren}
def Iw(h:ρ.rel l l'):ap C ρ (λσ r r'=>Im C σ r r'/\σ.mine l') (Instr.getLoop l) (Instr.getLoop l'):=by unfold Instr.getLoop;refine .bind (ap.getObj h) λσ o o' l1 hg=>?_;obtain⟨a,_,b⟩:=hg;cases a with|loop c=>exact .pure ⟨c,b.resolve_right λx=>x.elim (λy=>AJ) (λy=>by cases y)⟩| _=>exact .stuck
def Yn(fn:uah)(l:∃f c,C.P.funcs[fn]?=some f/\f.body=some c){tmps d:fi}(ht:aM ρ tmps d)(params:Array Tmp)(k:C.me assign)(j:C.me body){r r':ubc}(i:o0 ρ.rel r r'):
 ap C ρ (λσ x y=>σ.rel x.1 y.1/\rM σ x.2 y.2) (Instr.enterLoop fn tmps params assign body r) (Instr.enterLoop fn d params assign body r'):=by
 unfold Instr.enterLoop;cases i<;>first
  |refine .bind (ap.new (.deferred .nil)) λσ n g l1 hn=>.bind (R:=λσ x y=>σ.rel x.1 y.1/\rM σ x.2 y.2) (.pure ⟨hn.1,.cons ⟨.collected hn.1,.nil _⟩ .nil⟩) λb x y l2 a=>?_
  |refine .bind (Iw AJ) λσ x y l1⟨h,_⟩=>.bind (R:=λσ x y=>σ.rel x.1 y.1/\rM σ x.2 y.2) (.pure ⟨h.defers,.nil⟩) λb x y l2 a=>?_
 all_goals exact .bind (ap.new (.loop ⟨Y,Y,(λc e=>Cy),Y,l,ht.mono (Ren.le_trans l1 l2),Y,Y,k,Y,j,a.1⟩)) λb n g l2 hn=>.pure ⟨hn.1,a.2.mono l2⟩
def Yo(h:ρ.rel l l')(c:C.cp):ap C ρ (λ_(_ _:Unit)=>True) (Instr.beginRound l) (Instr.beginRound l'):=by unfold Instr.beginRound;refine .bind (Iw h) λσ r r' l1⟨a,b⟩=>?_;refine .bind (ap.setObj (l1.1 _ _ h) b (.loop ⟨Y,a.pending,a.Mf,a.fn,a.known,a.tmps,a.params,a.assign,a.In,a.body,a.Io,a.defers⟩) AQ) λd _ _ _ _=>?_;rw[<-a.state];cases r.state with|ready=>exact .pure trivial| _=>exact ap.runtimePanic c _
def ajH(h:ρ.rel l l')(jump:Option Code)(d:∀c,jump=some c->C.me c):ap C ρ ax (Instr.endRound l jump) (Instr.endRound l' jump):=by unfold Instr.endRound;refine .bind (Iw h) λσ r r' l1⟨a,b⟩=>?_;exact .bind (ap.setObj (l1.1 _ _ h) b (.loop ⟨Y,Y,d,a.fn,a.known,a.tmps,a.params,a.assign,a.In,a.body,a.Io,a.defers⟩) AQ) λe _ _ _ _=>.pure (.bool _)
def ajI(h:ρ.rel l l')(f:C.cp):ap C ρ (λ_ a b=>a=b/\∀c,a=some c->C.me c) (Instr.endLoop l) (Instr.endLoop l'):=by unfold Instr.endLoop;refine .bind (Iw h) λσ r r' l1⟨d,e⟩=>?_;rw[<-d.state];exact .ite (λ_=>.cut (ap.runtimePanic f _)) (λ_=>.bind (ap.setObj (l1.1 _ _ h) e (.loop ⟨Y,d.pending,d.Mf,d.fn,d.known,d.tmps,d.params,d.assign,d.In,d.body,d.Io,d.defers⟩) AQ) λ_ _ _ _ _=>.pure ⟨d.pending,d.Mf⟩)
def ajJ{b b':Nat}(h:ρ.rel b b'):ap C ρ rM (Instr.takeDeferred b) (Instr.takeDeferred b'):=by unfold Instr.takeDeferred;refine .bind (ap.getObj h) λg o o' l2 hg=>?_;obtain⟨c,_,d⟩:=hg;cases c with|deferred a=>have mine:=d.resolve_right λx=>x.elim (λy=>AJ) (λy=>by cases y);exact .bind (ap.setObj (l2.1 _ _ h) mine .taken AQ) λf _ _ e _=>.pure (a.mono e)| _=>exact .stuck
end
end
section
attribute [-simp] Sem.runT_eq
inductive pO(C:cQ)(ρ:Ren):Next->Next->Prop
 |value {v v':Value} (h:ax ρ v v'):pO C ρ (.value v) (.value v')
 |skip:pO C ρ .skip .skip
 |enter {f:uah} {fn:Func} {c:Code} {a a':fi} (h:aM ρ a a') (hp:C.P.funcs[f]?=some fn) (hb:fn.body=some c):pO C ρ (.enter f a) (.enter f a')
 |round {l l':Nat} {f:uah} {t cJ:fi} {assign body:Code} (hf:∃fn c,C.P.funcs[f]?=some fn/\fn.body=some c) (hl:ρ.rel l l') (ht:aM ρ t cJ) (ha:C.me assign) (hb:C.me body):pO C ρ (.round l f t assign body) (.round l' f cJ assign body)
structure cQ.Cb(C:cQ):Prop where
 body:∀(f:uah)(fn:Func)(c:Code),C.P.funcs[f]?=some fn->fn.body=some c->C.Q.funcs[f]?=some fn/\C.me c/\fn.name≠ "runtime.NumGoroutine"
 bare:∀(f:uah)(fn:Func),C.P.funcs[f]?=some fn->fn.body=none->∀(ρ:Ren)(a a':fi),aM ρ a a'->ap C ρ (pO C) (callFunc f a) (callFunc f a')
section
variable{C:cQ}{ρ:Ren}
def ajK(c:C.cp):ap C ρ cp Instr.panicnil Instr.panicnil:=by
 unfold Instr.panicnil;refine .bind ap.aiQ λσ a b _ e=>?_;subst e;cases a with
 |strings env=>
  refine .bind .program λg p q _⟨f,d⟩=>?_;subst f;subst d;have:C.Q.godebug=C.P.godebug:=by rw[c]
  rw[this];exact .pure Y
 | _=>exact .stuck
def ajL(c:C.cp)(h:ax ρ x x'):ap C ρ ax (Instr.panic x) (Instr.panic x'):=by unfold Instr.panic;cases h with|iface t hv=>exact .goPanic (.iface t hv)|nilIface=>refine .bind (ajK c) λσ a b _ e=>?_;subst e;exact .ite (λ_=>.goPanic .nilIface) (λ_=>ap.runtimePanic c _)| _=>exact .stuck
def ajM(hF:C.Cb)(f:uah){a a':fi}(h:aM ρ a a'):ap C ρ (pO C) (callFunc f a) (callFunc f a'):=by cases b:C.P.funcs[f]? with|none=>refine .none λw=>?_;unfold callFunc;rw[nd];simp only[Go.program,Sem.run,b];exact id|some fn=>cases d:fn.body with|none=>exact hF.bare f fn b d ρ a a' h|some c=>obtain⟨hq,hok,hn⟩:=hF.body f fn c b d;unfold callFunc;refine .bind .program λσ p q l1⟨i,g⟩=>?_;subst i;subst g;rw[b,hq];simp only[];have e:(fn.name== "runtime.NumGoroutine")=false:=AJ;simp only[e,d,Option.isNone_some,vaf,vbv];exact .pure (.enter (h.mono l1) b d)
end
end
section
attribute [-simp] Sem.runT_eq
def iz:Nat->Value->Bool
 | _,.bool _ | _,.int .. | _,.string _ | _,.pointer none| _,.slice none _ _ | _,.map none| _,.chan none| _,.nilFunc| _,.nilIface=>true
 | _,.func (.func _) a b=>a.isEmpty&&b.isEmpty
 |n+1,.iface _ v=>iz n v
 |n+1,.agg a=>a.all (iz n)
 |n+1,.tuple a=>a.all (iz n)
 | _,_=>false
theorem Yp:∀(n:Nat)(v:Value),iz n v=true->jc v:=by
 have fn:∀(n:Nat)(f:Fn)(a b:fi),iz n (.func f a b)=true->jc (.func f a b):=by
  intro n f a b h;cases f with
  |func f=>
   cases n<;>
   .simp only[iz,vah,Array.isEmpty_iff]at h;obtain⟨rfl,rfl⟩:=h;exact .func f
  | _=>grind[iz]
 intro n;induction n with
 |zero=>
  intro v h;cases v with
  |bool b=>exact .bool b
  |int k n=>exact .int k n
  |string s=>exact .string s
  |pointer a=>cases a with|none=>exact .lN|some a=>simp[iz]at h
  |slice a l c=>cases a with|none=>exact .jV l c|some a=>simp[iz]at h
  |map r=>cases r with|none=>exact .qJ|some a=>simp[iz]at h
  |chan r=>cases r with|none=>exact .pL|some a=>simp[iz]at h
  |nilFunc=>exact .nilFunc
  |nilIface=>exact .nilIface
  |func f a b=>grind
  | _=>simp[iz]at h
 |succ n d=>
  intro v h;cases v with
  |bool b=>exact .bool b
  |int k n=>exact .int k n
  |string s=>exact .string s
  |pointer a=>grind[iz]
  |slice a l c=>cases a with|none=>exact .jV l c|some a=>simp[iz]at h
  |map r=>grind[iz]
  |chan r=>grind[iz]
  |nilFunc=>exact .nilFunc
  |nilIface=>exact .nilIface
  |func f a b=>grind
  |iface t v=>exact .iface t (d v (by grind[iz]))
  |agg a=>simp only[iz,vao]at h;exact .agg λi v hv=>d v (h v (vbd hv))
  |tuple a=>simp only[iz,vao]at h;exact .tuple λi v hv=>d v (h v (vbd hv))
  | _=>simp[iz]at h
def iM(P:cf):Operand->Bool
 | .tmp _ | .func _=>true
 | .const v=>iz 4 v
 | .global g=>decide (g<P.globals.size)
def FK(P:cf)(c:Call):Bool:=
 (match c.callee with
  | .builtin b=>Q9 b
  | .value f=>iM P f
  | _=>false)&&c.args.all (iM P)
def Yq:Fn->Bool
 | .func _=>true
 | _=>false
def Iy(P:cf)(c:Call):Bool:=
 (match c.callee with
  | .builtin .unsafeString=>true
  | _=>false)&&c.args.all (iM P)
def pP(P:cf)(upd:Bool):Op->Bool
 | .move x| .assign x| .box _ x| .load _ x| .makeInterface _ x| .fieldAddr _ x _ | .extract x _ | .panic x=>iM P x
 | .nilCheck x=>iM P x
 | .unOp op _ x=>Yf op&&iM P x
 | .alloc _=>true
 | .pick c a b=>iM P c&&iM P a&&iM P b
 | .build _ ps| .buildSlice _ _ ps=>ps.all λp=>iM P p.2
 | .store _ a v| .makeSlice _ a v=>iM P a&&iM P v
 | .indexAddr t a v=>Ax P t&&iM P a&&iM P v
 | .binOp op t x y _=>Ca P op t&&iM P x&&iM P y
 | .makeFunc fn a b=>Yq fn&&a.all (iM P)&&b.all (iM P)
 | .slice t x l h m=>Ax P t&&iM P x&&l.all (iM P)&&h.all (iM P)&&m.all (iM P)
 | .call c=>FK P c||(upd&&Iy P c)
 | _=>false
section
variable{C:cQ}{ρ:Ren}
theorem qM{m a:Sem Value}(h:ap C ρ ax m a):ap C ρ (pO C) (do pure (.value (<-m))) (do pure (.value (<-a))):=.bind h λ_ _ _ _ hv=>.pure (.value hv)
def ajO{m a:Sem Unit}(h:ap C ρ (λ_(_ _:Unit)=>True) m a):ap C ρ (pO C) (do m;pure .skip) (do a;pure .skip):=.bind h λ_ _ _ _ _=>.pure .skip
theorem ajP(c:C.cp)(d:C.u_)(b:Builtin)(e:Q9 b=true)(ats:uap)(t:uab)(cs:uar){a a':fi}(h:aM ρ a a'):ap C ρ (pO C) (builtin b ats t cs a) (builtin b ats t cs a'):=by unfold builtin;cases b with|append=>exact .bind (ajk c d ats t h) λ_ _ _ _ hv=>.pure (.value hv)|cap=>exact .bind (aju c ats t h) λ_ _ _ _ hv=>.pure (.value hv)|copy=>exact .bind (ajv c ats t h) λ_ _ _ _ hv=>.pure (.value hv)|len=>exact .bind (ajt c ats t h) λ_ _ _ _ hv=>.pure (.value hv)| _=>cases e
def ajQ:∀(l:List (Tmp×Value))(l':List (Tmp×Value)){t a:fi},dx (λx y=>x.1=y.1/\ax ρ x.2 y.2) l l'->aM ρ t a->
 aM ρ (l.foldl (λtmps(p:Tmp×Value)=>tmps.setIfInBounds p.1 p.2) t) (l'.foldl (λtmps(p:Tmp×Value)=>tmps.setIfInBounds p.1 p.2) a):=by
 intro l;induction l with|nil=>intro l' t a h ht;cases h;exact ht|cons x l c=>intro l' t a h ht;cases h with|cons b d=>simp only[List.foldl_cons];exact c _ d (by rw[b.1];exact ht.set b.2 _)
def ajR:∀(ps:List Tmp)(l l':uaj),dx (ax ρ) l l'->dx (λx y=>x.1=y.1/\ax ρ x.2 y.2) (ps.zip l) (ps.zip l'):=by intro ps;induction ps with|nil=>intro l l' _;exact .nil|cons p ps a=>intro l l' h;cases h with|nil=>exact .nil|cons b ht=>exact .cons ⟨Y,b⟩ (a _ _ ht)
def ajS(h:ρ.rel l l'){a a':fi}(c:aM ρ a a'):ap C ρ (pO C) (Instr.yield l a) (Instr.yield l' a'):=by unfold Instr.yield;refine .bind (Iw h) λσ r r' l1⟨b,_⟩=>?_;rw[<-c.size,<-b.params,<-b.fn,<-b.assign,<-b.body];refine .ite (λ_=>.cut .stuck) (λ_=>.pure (.round b.known (l1.1 _ _ h) ?_ b.In b.Io));rw[<-Array.foldl_toList,<-Array.foldl_toList,Array.toList_zip,Array.toList_zip];exact ajQ _ _ (ajR _ _ _ (dx.Il (c.mono l1))) b.tmps
def Iz(j:C.cp)(k:C.u_)(hF:C.Cb){t d:Target}(ht:uZ ρ t d){a a':fi}(h:aM ρ a a'):ap C ρ (pO C) (invoke t a) (invoke d a'):=by unfold invoke;cases ht with|nil=>exact ap.runtimePanic j _|builtin b ats ty cs m=>grind[ajP]|collected l=>exact .stuck|@fn f f' c c' g i=>cases g with|func f=>exact ajM hF f (h.append i)|yield e=>exact ajS e h
end
end
section
attribute [-simp] Sem.runT_eq
section
variable{C:cQ}{ρ:Ren}
theorem ap.freeze(E:C.upd=true)(r:dE ρ a a')(n:Nat):ap C ρ (λ_(_ _:Unit)=>True) (Go.freeze a n) (Go.freeze a' n):=by
 intro S w w' d _ _;have y:∀b b',ρ.rel b b'->¬ρ.mine b'->∃o o',w.heap[b]?=some o/\FC o/\w'.heap[b']?=some o'/\∀c e fr,o'≠ .cells c e fr:=λb b' f hn=>by
  rcases d.still b b' f hn with⟨x,_⟩|⟨x,_⟩|⟨o,g,hd⟩
  .grind
  .grind
  .obtain⟨p,B,q,D,m⟩:=d.obj b b' f;rw[g]at q;cases q;refine⟨o,B,g,hd,D,λc e fr x=>?_⟩;subst x;cases hd with
   |coro=>cases m with|shut h=>exact h
   |number a l=>cases m
 have get:∀(w:aH)(a:Addr)(b:Nat),(w.freeze a n).heap[b]?=(w.heap[b]?).map (λo=>if n=0 then o else if a.block=b then(match o with| .cells c e (lo,hi)=>.cells c e (if lo==hi then(a.off,a.off+n)else(min lo a.off,max hi (a.off+n)))|o=>o)else o):=by intro w a b;unfold World.freeze;grind
 have same:∀(w:aH)(a:Addr),(w.freeze a n).heap.size=w.heap.size/\(w.freeze a n).tape=w.tape/\(w.freeze a n).drawn=w.drawn/\(w.freeze a n).os=w.os/\(w.freeze a n).output=w.output:=by grind[World.freeze]
 obtain⟨K,je,k,z,L⟩:=same w a;obtain⟨J,d_,j,i,A⟩:=same w' a';refine⟨ρ,w'.freeze a' n,?_,?_,λes=>⟨#[],by simp[Sem.events,Go.freeze,Sem.runT],AQ⟩⟩
 .refine .ok trivial ⟨λb b' f=>?_,d.one,d.inj,d.nL,by rw[k,j];exact d.sync,by rw[je,k,d_,j];exact d.tape,by rw[z,i];exact d.env,by rw[je];exact d.lone,λb b' f hn=>?_⟩
  .obtain⟨o,o',g,u,t⟩:=d.obj b b' f;rw[get,get,g,u];simp only[vby];refine⟨_,_,Y,Y,?_⟩;by_cases hn:n=0
   .grind
   simp only[hn,vbv];by_cases e:a.block=b
   .subst e;have v:a'.block=b':=d.one _ _ _ r.1 f;subst v;simp only[vbr];cases t with
    |@cells c c' el fr aP F hF=>obtain⟨lo,hi⟩:=fr;have I:=hF.2 E;subst I;rw[r.2.1];exact .cells el F ⟨λ_ x=>x,λ_=>Y⟩
    |map c h=>exact .map c h
    |stringIter s p=>exact .stringIter s p
    |B4 a b c=>exact .B4 a b c
    |mapIter h a b c=>exact .mapIter h a b c
    |loop h=>exact .loop h
    |deferred h=>exact .deferred h
    |taken=>exact .taken
    |number h l=>exact .number h l
    |shut h=>cases o'<;>first|exact h.elim|exact .shut trivial
   .have v:a'.block≠b':=λx=>e (d.inj _ _ _ (x▸r.1) f);grind
  .obtain⟨o,_,g,hd,_,_⟩:=y b b' f hn;rw[get,g];refine .inr (.inr ⟨o,?_,hd⟩);cases hd<;>(grind)
 .refine⟨Ren.le_refl _,λ_ h=>.inl h,AJ,λ_ h=>.inl h,λ_ _ h=>.inl h,λb f hn=>?_,i,A,d_,AJ⟩;rw[get];by_cases H:a'.block=b
  .subst H;obtain⟨_,o',_,_,u,t⟩:=y _ _ r.1 hn;grind
  grind
theorem ajT(b:C.cp):∀(d:Nat)(t u:uab),sameLayout C.Q d t u=sameLayout C.P d t u:=by intro d;induction d with|zero=>intro t u;rfl|succ d a=>grind[sameLayout,B7,Yb,Mo]
theorem ajU(b:C.cp)(fits:TypeId->Bool):∀(d:Nat)(e:uab)(c o n:Nat),rowAt C.Q fits d e c o n=rowAt C.P fits d e c o n:=by intro d;induction d with|zero=>intro e c o n;rfl|succ d a=>grind[rowAt,B7,B8,Mo]
def ajV(b:C.cp):∀(d:Nat)(e:uab)(c o:Nat)(u:uab)(n:Nat),liesAt C.Q d e c o u n=liesAt C.P d e c o u n:=by intro d;induction d with|zero=>intro e c o u n;rfl|succ d a=>grind[liesAt,B7,ajU,ajT,FF]
def ajW(b:C.cp)(r:dE ρ a a')(u:uab)(n:Nat):ap C ρ (λ_ x y=>x=y) (variablesAt a u n) (variablesAt a' u n):=by unfold variablesAt;refine .bind .program λσ p q d⟨c,hq⟩=>?_;subst c;subst hq;refine .bind (ap.shape (d.1 _ _ r.1)) λf s s' g e=>?_;subst e;cases s with|none=>exact .pure Y|some aW=>exact .pure (by simp only[ajV b,FF b,B8 b,r.2.1])
theorem Ys:∀(n:Nat)(ρ:Ren){a a':Addr}(_:dE ρ a a')(acc:ByteArray),ap C ρ (λ_ x y=>x=y) (loadBytes a acc n) (loadBytes a' acc n)
 |0,ρ,a,a',r,acc=>.pure Y
 |n+1,ρ,a,a',r,acc=>by
  unfold loadBytes;refine .bind (ap.load r) λσ v v' b hv=>?_;cases hv with
  |int k m=>cases k<;>first|exact Ys n σ ((r.mono b).add 1) _ |exact .stuck
  | _=>exact .stuck
def ajX(d:C.cp)(u:C.upd=true)(ats:uap)(t:uab){x x':fi}(h:aM ρ x x'):ap C ρ ax (Builtin.unsafeString_ ats t x) (Builtin.unsafeString_ ats t x'):=by
 obtain⟨l⟩:=x;obtain⟨l'⟩:=x';have hs:=h.size;simp only[vdy]at hs;match l,l',hs with
 | [],[],_=>exact .stuck
 | [a],[a'],_=>exact .stuck
 |a::b::c::l,_::_::_::l',_=>exact .stuck
 | [a,b],[a',b'],_=>
  have A:ax ρ a a':=h.get 0 a a' Y Y;have z:ax ρ b b':=h.get 1 b b' Y Y;have key:∀(p f:uam),o0 (dE ρ) p f->ap C ρ ax (Builtin.unsafeString_ ats t #[.pointer p,b]) (Builtin.unsafeString_ ats t #[.pointer f,b']):=by intro p f v;unfold Builtin.unsafeString_;refine .bind (ap.asInt z) λσ n D g e=>?_;subst e;cases cR:ats[0]? with|none=>exact .stuck|some j=>simp only[];refine .ite (λ_=>.bind (R:=λ_ _ _=>False) (.runtimePanic d _) λ_ _ _ _ h=>h.elim) (λ_=>?_);refine .ite (λ_=>.bind (R:=λ_ _ _=>False) .unsupported λ_ _ _ _ h=>h.elim) (λ_=>?_);cases v with|none=>exact .ite (λ_=>.pure (.string _)) (λ_=>.runtimePanic d _)|@some q B hq=>refine .ite (λ_=>.pure (.string _)) (λ_=>?_);refine .bind (ap.elemOf d j) λF e E i w=>?_;subst w;refine .bind (ajW d ((hq.mono g).mono i) e n.toNat) λo c c' k y=>?_;subst y;refine .ite (λ_=>?_) (λ_=>.unsupported);refine .bind (Ys n.toNat o (((hq.mono g).mono i).mono k) .empty) λH s s' m hs=>?_;subst hs;exact .bind (ap.freeze u ((((hq.mono g).mono i).mono k).mono m) n.toNat) λ_ _ _ _ _=>.pure (.string _)
  cases A with|lN=>exact key none none .none|ptr r=>exact key _ _ (.some r)| _=>exact .stuck
theorem ajZ(e:C.cp)(b:C.upd=true)(ats:uap)(t:uab){cs:uar}{x x':fi}(h:aM ρ x x'):ap C ρ (pO C) (do let d <-(pure {target:=.builtin .unsafeString ats t cs,args:=x}:Sem Deferred);invoke d.target d.args) (do let d <-(pure {target:=.builtin .unsafeString ats t cs,args:=x'}:Sem Deferred);invoke d.target d.args):=
 .bind (R:=λ_ d a=>d={target:=.builtin .unsafeString ats t cs,args:=x}/\a={target:=.builtin .unsafeString ats t cs,args:=x'}) (.pure ⟨Y,Y⟩) λσ d a c hd=>by obtain⟨rfl,rfl⟩:=hd;exact .bind (ajX e b ats t (h.mono c)) λ_ _ _ _ hv=>.pure (.value hv)
end
end
variable{lx:uak}
section
attribute [-simp] Sem.runT_eq
section
variable{C:cQ}{ρ:Ren}
def tN(C:cQ)(ρ:Ren)(ev lx:uak):Prop:=∀x,iM C.P x=true->ax ρ (ev x) (lx x)
theorem tN.mono{σ:Ren}(b:Ren.le ρ σ){ev:uak}(h:tN C ρ ev lx):tN C σ ev lx:=λx a=>(h x a).mono b
def tN.args{ev:uak}(h:tN C ρ ev lx){a:uaw}(f:a.all (iM C.P)=true):aM ρ (a.map ev) (a.map lx):=by refine⟨AQ,λi v v' e d=>?_⟩;simp only[vch,vak]at e d;obtain⟨x,c,rfl⟩:=e;obtain⟨y,b,rfl⟩:=d;rw[c]at b;cases b;exact h x (vao.1 f x (vbd c))
def tN.Rn{ev:uak}(h:tN C ρ ev lx){a:Option Operand}(b:a.all (iM C.P)=true):w9 ρ (a.map ev) (a.map lx):=by cases a with|none=>exact .none|some x=>exact .some (h x AJ)
def tN.parts{ev:uak}(h:tN C ρ ev lx)(b:(ps.all λp=>iM C.P p.2)=true):dx (sI ρ) (ps.map λ(i,x)=>(i,ev x)).toList (ps.map λ(i,x)=>(i,lx x)).toList:=
 ai1 λp a=>h p.2 (vao.1 b p a)
def aj0{f:Fn}(h:Yq f=true):tM ρ f f:=by cases f with|func f=>exact .func f| _=>cases h
def aj1{ev:uak}(h:tN C ρ ev lx){c:Call}(e:FK C.P c=true)(t:uab):ap C ρ Av (resolve ev c t) (resolve lx c t):=by unfold resolve;simp only[FK,vah]at e;have g:=h.args e.2;obtain⟨a,_⟩:=e;cases i:c.callee with|builtin b=>rw[i]at a;exact .pure ⟨.builtin b _ _ _ a,g⟩|invoke r n=>grind|value f=>rw[i]at a;have d:=h f a;simp only[];revert d;generalize ev f=v;generalize lx f=v';intro d;unfold Deferred.ofValue;cases d with|func o m l k j=>exact .pure ⟨.fn o ⟨l,j⟩,aM.append ⟨m,k⟩ g⟩|nilFunc=>exact .pure ⟨.nil,g⟩| _=>exact .stuck
def aj2(b:C.cp)(h:ax ρ x x'){ev:uak}{o:Oper}{lS:uau}(f:o.op=.nilCheck lS)(e:ev lS=x)(d:lx lS=x'):ap C ρ (pO C) (execOp ev o) (execOp lx o):=by unfold execOp;rw[f];simp only[e,d];have a:=h;cases h with|lN|nilIface|nilFunc=>exact ap.runtimePanic b _|func c=>cases c<;>exact .pure (.value a)| _=>exact .pure (.value a)
def Yu(j:C.cp)(q:C.u_)(hF:C.Cb){ev:uak}(h:tN C ρ ev lx){o:Oper}(g:pP C.P C.upd o.op=true):ap C ρ (pO C) (execOp ev o) (execOp lx o):=by
 cases k:o.op<;>rw[k]at g<;>try exact absurd g Bool.false_ne_true
 case nilCheck x=>exact aj2 j (h x g) k Y Y
 all_goals
  unfold execOp;rw[k]
 case move x=>exact .pure (.value (h _ g))
 case assign x=>exact .pure (.value (h _ g))
 case pick c a b=>
  simp only[pP,vah]at g;exact .bind (ap.asBool (h _ g.1.1)) λσ b b' p e=>by subst e;cases b<;>first|exact .pure (.value ((h _ g.2).mono p))|exact .pure (.value ((h _ g.1.2).mono p))
 case alloc t=>grind[qM,aiX]
 case box t x=>exact qM (aiY _ (h _ g))
 case build t ps=>exact qM (ai4 j q _ (h.parts g))
 case buildSlice t n ps=>exact qM (ai6 j q _ _ (h.parts g))
 case load t a=>exact qM (aiV j _ (h _ g))
 case store t a x=>
  simp only[pP,vah]at g;exact ajO (aiW j _ (h _ g.1) (h _ g.2))
 case binOp op t x y u=>
  simp only[pP,vah]at g;exact qM (.bind (ajF j _ _ _ _ (h _ g.1.2) (h _ g.2)) λσ _ _ p _=>ajG j _ _ g.1.1 ((h _ g.1.2).mono p) ((h _ g.2).mono p))
 case unOp op t x=>exact by simp only[pP,vah]at g;exact qM (ajy _ g.1 (h _ g.2))
 case makeInterface t x=>exact qM (ajf j _ (h _ g))
 case makeFunc fn a b=>
  simp only[pP,vah]at g;exact qM (.pure (.Ik (aj0 g.1.1) (h.args g.1.2) (h.args g.2)))
 case makeSlice t l c=>
  simp only[pP,vah]at g;exact qM (ajg j q _ (h _ g.1) (h _ g.2))
 case slice t x l z m=>
  simp only[pP,vah]at g;exact qM (aje j _ g.1.1.1.1 (h _ g.1.1.1.2) (h.Rn g.1.1.2) (h.Rn g.1.2) (h.Rn g.2))
 case fieldAddr s x f=>exact qM (ai_ j _ (h _ g) _)
 case indexAddr t x i=>
  simp only[pP,vah]at g;exact qM (aja j _ g.1.1 (h _ g.1.2) (h _ g.2))
 case extract t i=>exact qM (aji (h _ g) _)
 case call c=>
  simp only[pP,Bool.or_eq_true,vah]at g;rcases g with g|⟨r,g⟩
  .exact .bind (aj1 h g _) λσ d w _ hd=>Iz j q hF hd.target hd.args
  .simp only[Iy,vah]at g;have v:=h.args g.2;grind[resolve,ajZ]
 case panic x=>exact qM (ajL j (h _ g))
end
end
variable{f f':Frame}{es:uao}
section
attribute [-simp] Sem.runT_eq
def jY(P:cf)(upd:Bool):Code->Bool
 | .skip| .exit _ | .label _ | .goto _ | .ret| .refuse _=>true
 | .region _ ops _=>ops.all λo=>pP P upd o.op
 | .seq a b=>jY P upd a&&jY P upd b
 | .cond c a b=>iM P c&&jY P upd a&&jY P upd b
 | .block _ b| .loop b| .scope b=>jY P upd b
 | .rangeFunc f _ a b=>iM P f&&jY P upd a&&jY P upd b
def cQ.Ro(C:cQ):Prop:=∀c,C.me c↔jY C.P C.upd c=true
inductive sK(C:cQ)(ρ:Ren):Item->Item->Prop
 |code {c:Code} (h:C.me c):sK C ρ (.code c) (.code c)
 |inBlock (id:Nat):sK C ρ (.inBlock id) (.inBlock id)
 |inLoop {c:Code} (h:C.me c):sK C ρ (.inLoop c) (.inLoop c)
 |inScope {c:Code} (h:C.me c):sK C ρ (.inScope c) (.inScope c)
 |inRegion {ops:fC} (h:∀o∈ops,pP C.P C.upd o.op=true) (todo:uad):sK C ρ (.inRegion ops todo) (.inRegion ops todo)
 |inRangeFunc {l l':Nat} (h:ρ.rel l l'):sK C ρ (.inRangeFunc l) (.inRangeFunc l')
 |endRangeFunc {l l':Nat} (h:ρ.rel l l'):sK C ρ (.endRangeFunc l) (.endRangeFunc l')
 |beginRound:sK C ρ .beginRound .beginRound
theorem sK.mono{C:cQ}{ρ σ:Ren}(c:Ren.le ρ σ){a b:Item}(h:sK C ρ a b):sK C σ a b:=by cases h with|code h=>exact .code h|inBlock id=>exact .inBlock id|inLoop h=>exact .inLoop h|inScope h=>exact .inScope h|inRegion h t=>exact .inRegion h t|inRangeFunc h=>exact .inRangeFunc (c.1 _ _ h)|endRangeFunc h=>exact .endRangeFunc (c.1 _ _ h)|beginRound=>exact .beginRound
abbrev ng(C:cQ)(ρ:Ren):=dx (sK C ρ)
theorem ng.mono{C:cQ}{ρ σ:Ren}(c:Ren.le ρ σ){a b:uaa}(h:ng C ρ a b):ng C σ a b:=dx.mono (λ_ _ x=>x.mono c) h
structure yk(ρ:Ren)(e e':PanicEntry):Prop where
 v:ax ρ e.v e'.v
 recovered:e.recovered=e'.recovered
 goexit:e.goexit=e'.goexit
theorem yk.mono{ρ σ:Ren}(c:Ren.le ρ σ){a b:PanicEntry}(h:yk ρ a b):yk σ a b:=⟨h.v.mono c,h.recovered,h.goexit⟩
inductive vb(ρ:Ren):FrameMode->FrameMode->Prop
 |run:vb ρ .run .run
 |returning:vb ρ .returning .returning
 |panicking {l l':List PanicEntry} (h:dx (yk ρ) l l'):vb ρ (.panicking l) (.panicking l')
theorem vb.mono{ρ σ:Ren}(c:Ren.le ρ σ){a b:FrameMode}(h:vb ρ a b):vb σ a b:=by cases h with|run=>exact .run|returning=>exact .returning|panicking h=>exact .panicking (dx.mono (λ_ _ x=>x.mono c) h)
structure ej(C:cQ)(ρ:Ren)(f f':Frame):Prop where
 fn:f.fn=f'.fn
 known:∃fn c,C.P.funcs[f.fn]?=some fn/\fn.body=some c
 tmps:aM ρ f.tmps f'.tmps
 todo:ng C ρ f.todo f'.todo
 defers:rM ρ f.defers f'.defers
 mode:vb ρ f.mode f'.mode
 kind:f.kind=f'.kind
 plain:f.kind=.normal\/f.kind=.deferred
 roundOf:o0 ρ.rel f.roundOf f'.roundOf
theorem ej.mono{C:cQ}{ρ σ:Ren}(c:Ren.le ρ σ){a b:Frame}(h:ej C ρ a b):ej C σ a b:=
 ⟨h.fn,h.known,h.tmps.mono c,ng.mono c h.todo,rM.mono c h.defers,h.mode.mono c,h.kind,h.plain,h.roundOf.mono λ_ _ x=>c.1 _ _ x⟩
abbrev jf(C:cQ)(ρ:Ren):=dx (ej C ρ)
theorem jf.mono{C:cQ}{ρ σ:Ren}(c:Ren.le ρ σ){a b:fG}(h:jf C ρ a b):jf C σ a b:=dx.mono (λ_ _ x=>x.mono c) h
def jg:Frame->List Frame->Prop
 |f,[]=>f.kind=.normal/\f.roundOf=none
 | _,c::cs=>jg c cs
def a0(fr:Frame)(cs:fG):Goroutine:={frame:=fr,callers:=cs,status:=.running,dying:=none}
def iO(C:cQ)(S:Sync)(ρ:Ren)(b0 base:fG)(w':aH)(g1:uaf)(w1:aH)(s':GStep):Prop:=
 ∃σ sL cs1 yl FM lP es',g1=a0 sL (cs1++b0)/\s'=.go (a0 yl (FM++base)) lP es'/\ej C σ sL yl/\jf C σ cs1 FM/\jg sL cs1/\et C S σ w1 lP/\Grow ρ σ w' lP/\∀e∈es',w7 σ e
def ym{p:cf}{fn:uah}{e:Event}(h:e∈seen p fn es):e∈es:=by
 unfold seen at h;obtain⟨l⟩:=es;simp only[List.foldl_toArray]at h;suffices key:∀(l:ubk)(q:Bool)(k:uao),e∈(l.foldl (λ(x:Bool×Array Event)(e:Event)=>match e.loc with
  | .mark (.extern f)=>((p.funcs[f]?).any (·.norace),x.2)
  | _=>(x.1,if x.1&& !e.sync then x.2 else x.2.push e)) (q,k)).2->e∈k\/e∈l by
  have:=key l _ _ h;grind
 intro l;induction l with|nil=>grind|cons x l a=>grind
section
variable{C:cQ}{ρ:Ren}
theorem ej.eval(h:ej C ρ f f')(hg:∀g,g<=C.P.globals.size->ρ.rel g g):tN C ρ f.eval f'.eval:=by intro x a;cases x with|tmp t=>exact h.tmps.getD (.undef ρ) t|const v=>exact(Yp 4 v a).rel ρ|global g=>exact .ptr ⟨hg g (Nat.le_of_lt (vdx a)),Y,Y⟩|func f=>exact .Ik (.func f) (.nil ρ) (.nil ρ)
theorem ej.finish(h:ej C ρ f f')(hv:ax ρ v v'):ej C ρ (f.finish v) (f'.finish v'):=by
 have ht:=h.todo;unfold Frame.finish;revert ht;cases j:f.todo with
 |nil=>intro ht;cases b:f'.todo with|nil=>grind|cons a l=>rw[b]at ht;cases ht
 |cons i k=>
  intro ht;cases b:f'.todo with
  |nil=>rw[b]at ht;cases ht
  |cons g k'=>
   rw[b]at ht;cases ht with
   |cons hi hk=>
    cases hi with
    |inRegion c todo=>cases todo with|nil=>grind|cons n rest=>simp only[];refine⟨h.fn,h.known,?_,.cons (.inRegion c rest) hk,h.defers,h.mode,h.kind,h.plain,h.roundOf⟩;cases((_:Option Oper).bind (·.dst))with|none=>exact h.tmps|some d=>exact h.tmps.set hv d
    |inRangeFunc e=>exact⟨h.fn,h.known,h.tmps,.cons (.endRangeFunc e) hk,h.defers,h.mode,h.kind,h.plain,h.roundOf⟩
    |beginRound=>exact⟨h.fn,h.known,h.tmps,hk,h.defers,h.mode,h.kind,h.plain,h.roundOf⟩
    | _=>exact h
end
end
variable{g:Frame}{cs:fG}
section
attribute [-simp] Sem.runT_eq
def jg.push(h:jg f cs):jg g (f::cs):=h
def jg.Rp{c:Frame}(h:jg f (c::cs)):jg c cs:=h
def jg.same(h:jg f cs)(hk:g.kind=f.kind)(a:g.roundOf=f.roundOf):jg g cs:=by cases cs with|nil=>exact⟨hk.trans h.1,a.trans h.2⟩|cons c cs=>exact h
def AA(f:Frame)(v:Value):(f.finish v).kind=f.kind/\(f.finish v).roundOf=f.roundOf:=by unfold Frame.finish;grind
def tO(f:Frame)(c:List PanicEntry):(f.raise c).kind=f.kind/\(f.raise c).roundOf=f.roundOf:=by unfold Frame.raise;grind
section
variable{C:cQ}{ρ:Ren}
theorem ej.raise(h:ej C ρ f f'){c c':List PanicEntry}(b:dx (yk ρ) c c'):ej C ρ (f.raise c) (f'.raise c'):=by have a:=h.mode;unfold Frame.raise;revert a;cases f.mode with|run=>intro a;generalize f'.mode=m' at a;cases a;exact⟨h.fn,h.known,h.tmps,h.todo,h.defers,.panicking b,h.kind,h.plain,h.roundOf⟩|returning=>intro a;generalize f'.mode=m' at a;cases a;exact⟨h.fn,h.known,h.tmps,h.todo,h.defers,.panicking b,h.kind,h.plain,h.roundOf⟩|panicking l=>intro a;generalize f'.mode=m' at a;cases a with|panicking d=>exact⟨h.fn,h.known,h.tmps,h.todo,h.defers,.panicking (b.append d),h.kind,h.plain,h.roundOf⟩
def ej.yn(h:ej C ρ f f'){t a:uaa}(ht:ng C ρ t a):ej C ρ {f with todo:=t} {f' with todo:=a}:=⟨h.fn,h.known,h.tmps,ht,h.defers,h.mode,h.kind,h.plain,h.roundOf⟩
def ej.Cc(h:ej C ρ f f'){d a:List Deferred}(hd:rM ρ d a):ej C ρ {f with defers:=d} {f' with defers:=a}:=⟨h.fn,h.known,h.tmps,h.todo,hd,h.mode,h.kind,h.plain,h.roundOf⟩
def ej.vc(h:ej C ρ f f'){m a:FrameMode}(b:vb ρ m a):ej C ρ {f with mode:=m} {f' with mode:=a}:=⟨h.fn,h.known,h.tmps,h.todo,h.defers,b,h.kind,h.plain,h.roundOf⟩
def aM.aj4(n:Nat):aM ρ (Array.replicate n undef) (Array.replicate n undef):=by
 refine⟨Y,λi v v' a b=>?_⟩;rw[a]at b;cases b;rw[Array.getElem?_replicate]at a;split at a
 .cases a;exact .undef ρ
 grind
theorem ej.enter(hF:C.Cb){f:uah}{fn:Func}{c:Code}{a a':fi}(h:aM ρ a a')(b:C.P.funcs[f]?=some fn)(d:fn.body=some c){k:CallKind}(hk:k=.normal\/k=.deferred):
 ej C ρ (Frame.enter C.P f a k) (Frame.enter C.Q f a' k):=by
 obtain⟨hq,hok,_⟩:=hF.body f fn c b d;unfold Frame.enter;simp only[b,hq,d,vby,vae,Option.bind_some,h.size];exact⟨Y,⟨fn,c,b,d⟩,h.append (.aj4 _),.cons (.code hok) .nil,.nil,.run,Y,hk,.none⟩
theorem ej.round{f:uah}(d:∃fn c,C.P.funcs[f]?=some fn/\fn.body=some c){t a:fi}(b:ρ.rel l l')(ht:aM ρ t a)(g:C.me assign)(e:C.me body){k:CallKind}(hk:k=.normal\/k=.deferred):
 ej C ρ (Frame.round l f t assign body k) (Frame.round l' f a assign body k):=
 ⟨Y,d,ht,.cons (.code g) (.cons .beginRound (.cons (.code e) .nil)),.nil,.run,Y,hk,.some b⟩
end
end
variable{mg:uao}
def AB{s:GStep}{g:uaf}{w:aH}(h:GStep.after es s=.go g w mg):∃a,s=.go g w a:=by
 cases s<;>simp[GStep.after]at h
 simp_all
variable{fr:Frame}{g1:uaf}
theorem Rq{ps:List ByteArray}{m:String}{b:Bool}{w w1:aH}(h:dieOf fr ps m b w=.go g1 w1 es):g1.dying≠none:=by grind[dieOf]
theorem Yy{d:Option Dying}{m:String}{w w1:aH}(h:endFatal P fr cs d m w=.go g1 w1 es):g1.dying≠none:=by unfold endFatal at h;grind[Rq]
variable{aP:Frame}{b0 be:fG}
section
variable{C:cQ}{S:Sync}{ρ:Ren}
def ng.aj5{t a:uaa}(h:ng C ρ t a):(match t with| .call _ true _ _::_=>CallKind.wrapped| _=>.normal)=.normal/\(match a with| .call _ true _ _::_=>CallKind.wrapped| _=>.normal)=.normal:=by cases h with|nil=>grind|cons hi _=>cases hi<;>exact⟨Y,Y⟩
def Rr(hF:C.Cb){base:fG}{w w':aH}{s s':Sem Next}{w1:aH}(n:ej C ρ fr aP)(p:jf C ρ cs be)(i:jg fr cs)(F:et C S ρ w w')(hs:ap C ρ (pO C) s s')(M:C.P.follows .rangeFuncRecover=true\/fr.roundOf=none)(R:C.Q.follows .rangeFuncRecover=C.P.follows .rangeFuncRecover)(h:stepG.apply C.P true fr (cs++b0) none s w=.go g1 w1 mg)(hrun:g1.status=.running)(B:g1.dying=none)(l:(iN (stepG.apply C.Q true aP (be++base) none s' w')).drawn<=S.bound):iO C S ρ b0 base w' g1 w1 (stepG.apply C.Q true aP (be++base) none s' w'):=by
 have A:=ng.aj5 n.todo;have kH:Good (s.run C.P w):=by
  unfold stepG.apply at h;simp only[vas,vbr]at h;obtain⟨D,a⟩:=AB h;cases y:s.run C.P w with
  |ok O w2=>trivial
  |halt x w2=>
   rw[y]at a;cases x with
   |panic v=>trivial
   |goexit=>trivial
   |blocked=>grind
   |waiting=>grind
   |unsupported u=>cases u<;>first|trivial|(simp at a)
   |exit c=>grind
   |fatal m=>grind[Yy]
   |throw m=>exact absurd B (Rq a)
   |stuck m=>grind
 obtain⟨σ,Q,o,f,L⟩:=hs S w w' F kH (vac (FL C.Q aP (be++base) none s' w') l);obtain⟨d,hd,E⟩:=L #[];rw[vcq]at hd;have z:=f.le;have j:=n.mono z;have g:=jf.mono z p;have evs:∀e∈seen C.Q aP.fn d,w7 σ e:=λe J=>E e (ym J);unfold stepG.apply at h⊢;simp only[vas,vbr]at h⊢;rw[hd];obtain⟨D,a⟩:=AB h;clear h;generalize y:s.run C.P w=r at a o;generalize T:s'.run C.Q w'=r' at o⊢;have early:(aP.kind== .early)=false:=by rcases n.plain with x|x<;>rw[<-n.kind,x]<;>rfl
 cases o with
 |@ok _ _ P _ hn b=>
  cases hn with
  |value hv=>simp only[vcy]at a;obtain⟨rfl,rfl,_⟩:=a;simp only[early];exact⟨σ,_,cs,_,be,_,_,Y,Y,j.finish hv,g,i.same (AA _ _).1 (AA _ _).2,b,f,AJ⟩
  |skip=>simp only[vcy]at a;obtain⟨rfl,rfl,_⟩:=a;simp only[early];exact⟨σ,_,cs,_,be,_,_,Y,Y,j.finish (.undef σ),g,i.same (AA _ _).1 (AA _ _).2,b,f,AJ⟩
  |enter q H l=>
   simp only[vcy]at a;obtain⟨rfl,rfl,_⟩:=a;simp only[early];have t:∀k k':CallKind,k=.normal->k'=.normal->ej C σ (Frame.enter C.P _ _ k) (Frame.enter C.Q _ _ k'):=λk k' e K=>by subst e;subst K;exact .enter hF q H l LF
   exact⟨σ,_,fr::cs,_,aP::be,_,_,Y,Y,t _ _ A.1 A.2,.cons j g,i.push,b,f,AJ⟩
  |round I N ht q l=>simp only[vcy]at a;obtain⟨rfl,rfl,_⟩:=a;simp only[early];exact⟨σ,_,fr::cs,_,aP::be,_,_,Y,Y,.round I N ht q l LF,.cons j g,i.push,b,f,AJ⟩
 |panic hv b=>simp only[vcy]at a;obtain⟨rfl,rfl,_⟩:=a;simp only[early];exact⟨σ,_,cs,_,be,_,_,Y,Y,j.raise (.cons ⟨hv,Y,Y⟩ .nil),g,i.same (tO _ _).1 (tO _ _).2,b,f,AJ⟩
 |goexit b=>simp only[vcy]at a;obtain⟨rfl,rfl,_⟩:=a;simp only[early];exact⟨σ,_,cs,_,be,_,_,Y,Y,j.raise (.cons ⟨.undef σ,Y,Y⟩ .nil),g,i.same (tO _ _).1 (tO _ _).2,b,f,AJ⟩
end
section
section
variable{C:cQ}{S:Sync}{ρ:Ren}
structure cQ.Good(C:cQ):Prop where
 same:C.cp
 FO:C.u_
 funcs:C.Cb
 o6:C.Ro
 Rs:C.P.follows .rangeFuncRecover=true
theorem cQ.Good.follows(h:C.Good)(d:Departure):C.Q.follows d=C.P.follows d:=by unfold Tables.follows;rw[h.same]
def aj7(id:Nat){k k':uaa}(h:ng C ρ k k'):o0 (ng C ρ) (exitTo id k) (exitTo id k'):=by
 induction h with
 |nil=>exact .none
 |cons hi hk a=>
  cases hi with
  |inBlock b=>
   simp only[exitTo];split
   .exact .some hk
   grind
  | _=>exact a
def aj9(d:C.Ro):∀(c:Code)(l:Nat)(r:Code),C.me c->findLabel c l=some r->C.me r:=by
 intro c;induction c with
 |seq a b g f=>intro l r hok h;rw[d]at hok;simp only[jY,vah]at hok;simp only[findLabel]at h;cases e:findLabel a l with|some rest=>rw[e]at h;cases h;have:=g l rest ((d a).2 hok.1) e;rw[d]at this⊢;simp_all[jY]|none=>rw[e]at h;exact f l r ((d b).2 hok.2) h
 |label l'=>
  intro l r _ h;simp only[findLabel]at h;split at h
  .cases h;rw[d];rfl
  grind
 | _=>intro l r _ h;cases h
def aj_(d:C.Ro)(l:Nat){k k':uaa}(h:ng C ρ k k'):o0 (ng C ρ) (gotoIn l k) (gotoIn l k'):=by
 induction h with
 |nil=>exact .none
 |cons hi hk a=>
  cases hi with
  |@inScope c hok=>simp only[gotoIn];cases b:findLabel c l with|some r=>exact .some (.cons (.code (aj9 d c l r hok b)) (.cons (.inScope hok) hk))|none=>exact a
  | _=>exact a
def YA{t b:fi}(h:aM ρ t b)(ops:fC):yielded ops t=yielded ops b:=by
 funext j
 unfold yielded;cases((ops[j]?).bind (·.dst))with|none=>rfl|some d=>simp only[Option.bind_some];cases ht:t[d]? with|none=>rw[h.none ht]|some v=>obtain⟨v',a,c⟩:=h.some ht;rw[a];cases c<;>rfl
def sM{a c:Frame}{base:fG}{w w':aH}(b:jf C ρ cs be)(f:jg fr cs)(d:et C S ρ w w')(hk:a.kind=fr.kind)(e:a.roundOf=fr.roundOf)(g:ej C ρ a c):iO C S ρ b0 base w' (a0 a (cs++b0)) w (.go (a0 c (be++base)) w'):=
 ⟨ρ,_,cs,_,be,_,_,Y,Y,g,b,f.same hk e,d,.refl _ _,AQ⟩
def YB{main main':Bool}{c c':Frame}{base:fG}{w w':aH}{w1:aH}(p:ej C ρ fr aP)(f:ej C ρ c c')(d:jf C ρ cs be)(j:jg c cs)(i:et C S ρ w w')(hv:ax ρ v v')(h:doReturn C.P main fr (c::(cs++b0)) none v w=.go g1 w1 mg):iO C S ρ b0 base w' g1 w1 (doReturn C.Q main' aP (c'::(be++base)) none v' w'):=by
 unfold doReturn at h⊢;rcases p.plain with hk|hk
 .have o:=p.kind.symm.trans hk;simp only[hk,vcy]at h;obtain⟨rfl,rfl,_⟩:=h;simp only[o];exact⟨ρ,_,cs,_,be,_,_,Y,Y,f.finish hv,d,j.same (AA _ _).1 (AA _ _).2,i,.refl _ _,AQ⟩
 .have o:=p.kind.symm.trans hk;simp only[hk,vcy]at h;obtain⟨rfl,rfl,_⟩:=h;simp only[o];have k:=f.mode;generalize I:c.mode=m at k;generalize F:c'.mode=m' at k;have keep:iO C S ρ b0 base w' (a0 c (cs++b0)) w (.go (a0 c' (be++base)) w'):=sM d j i Y Y f;cases k with
  |run=>exact keep
  |returning=>exact keep
  |panicking n=>
   cases n with
   |nil=>exact keep
   |@cons e B s r A z=>
    obtain⟨ev,q,H⟩:=e;obtain⟨lx,E,D⟩:=B;obtain⟨x,u,t⟩:=A;simp only at x u t;subst u;subst t;cases q with
    |false=>exact keep
    |true=>
     simp only[];have drop:∀(l l':List PanicEntry),dx (yk ρ) l l'->dx (yk ρ) (l.dropWhile (!·.goexit)) (l'.dropWhile (!·.goexit)):=by
      intro l l' n;induction n with
      |nil=>exact .nil
      |cons g ht y=>
       simp only[List.dropWhile_cons,g.goexit];split
       .exact y
       .exact .cons g ht
     have hd:=drop _ _ z;generalize s.dropWhile (!·.goexit)=a at hd;generalize r.dropWhile (!·.goexit)=b at hd;cases hd with|nil=>exact sM (fr:=c) d j i Y Y (f.vc .returning)|cons g ht=>exact sM (fr:=c) d j i Y Y (f.vc (.panicking (.cons g ht)))
theorem iO.after{w' g:aH}{σ:Ren}{base:fG}{w1:aH}{s':GStep}(l:Grow ρ σ w' g)(k:∀e∈es,w7 σ e)(h:iO C S σ b0 base g g1 w1 s'):iO C S ρ b0 base w' g1 w1 (GStep.after es s'):=by
 obtain⟨p,a,b,c,d,e,f,o,rfl,n,m,r,q,i,s⟩:=h;refine⟨p,a,b,c,d,e,es++f,o,Y,n,m,r,q,l.trans i,λx j=>?_⟩;rcases vdn.1 j with y|y
 .exact(k x y).mono i.le
 grind
end
end
end au
open RowKit
def br(w w':aH):Prop:=∀b o v,w.cell? (.a b o)=some v->w'.cell? (.a b o)=some v
theorem br.refl(w:aH):br w w:=λ_ _ _ h=>h
variable{a:aH}
theorem br.trans{b c:aH}(h:br a b)(k:br b c):br a c:=λx o v e=>k x o v (h x o v e)
variable{w:aH}{b o:Nat}{v:Value}
def fB(h:w.cell? (.a b o)=some v):b<w.heap.size:=by grind[World.cell?]
variable{w':aH}
def br.ck(h:cy w w'):br w w':=λb o v e=>by rw[h.cell (p:=⟨b,o,none⟩) (fB e)];exact e
def aZ{ao:Type}(w:aH)(dH:Nat)(R:aH->(Nat->Option Value)->ao->Prop)(v:Value)(xs:List ao):Prop:=
 ∃bm cap,v=.slice bm xs.length cap/\xs.length<=9223372036854775807/\
  ∀i(h:i<xs.length),∃b off,bm=some ⟨b,off,none⟩/\R w (λj=>w.cell? (.a b (off+i*dH+j))) xs[i]
def pM{ao:Type}(R:aH->(Nat->Option Value)->ao->Prop):Prop:=
 ∀w w' rd j1 x,br w w'->(∀j v,rd j=some v->j1 j=some v)->R w rd x->R w' j1 x
theorem aZ.mono{ao:Type}{a:Nat}{R:aH->(Nat->Option Value)->ao->Prop}(g:pM R)(hk:br w w'){xs:List ao}(h:aZ w a R v xs):aZ w' a R v xs:=by obtain⟨k,cap,hv,d,l⟩:=h;refine⟨k,cap,hv,d,λi hi=>?_⟩;obtain⟨b,off,f,c⟩:=l i hi;exact⟨b,off,f,g _ _ _ _ _ hk (λj v e=>hk _ _ _ e) c⟩
theorem aZ.nil{ao:Type}(w:aH)(a:Nat)(R:aH->(Nat->Option Value)->ao->Prop):aZ w a R (.N) []:=
 ⟨none,0,Y,AQ,AJ⟩
def rQ(_:aH)(rd:uaq)(x:Int):Prop:=rd 0=some (.I x)
def IM(_:aH)(rd:uaq)(s:ByteArray):Prop:=rd 0=some (.string s)/\s.size<=9223372036854775807
def Ch(_:aH)(rd:uaq)(x:Bool):Prop:=rd 0=some (.bool x)
def MA(_:aH)(rd:uaq)(t:ubj):Prop:=rd 0=some (.I t.1)/\rd 1=some (.I t.2)
theorem AF:pM rQ:=λ_ _ _ _ _ _ a h=>a _ _ h
def RL:pM Ch:=λ_ _ _ _ _ _ a h=>a _ _ h
def YX:pM IM:=λ_ _ _ _ _ _ a h=>⟨a _ _ h.1,h.2⟩
def ni:pM MA:=λ_ _ _ _ _ _ a h=>⟨a _ _ h.1,a _ _ h.2⟩
abbrev iQ(w:aH):=aZ w 1 rQ
abbrev RN(w:aH):=aZ w 1 IM
abbrev IN(w:aH):=aZ w 1 Ch
abbrev eF(w:aH):=aZ w 2 MA
structure bo where
 kind:Int
 eK:Int
 ko:List Int
 kJ:List ByteArray
 gZ:List Bool
structure xd(w:aH)(c7 vs bS:Value)(c:bo):Prop where
 ko:iQ w c7 c.ko
 kJ:RN w vs c.kJ
 gZ:IN w bS c.gZ
def Ci(w:aH)(rd:uaq)(c:bo):Prop:=
 ∃c7 vs bS,rd 0=some (.I c.kind)/\rd 1=some (.I c.eK)/\rd 2=some c7/\rd 3=some vs/\rd 4=some bS/\xd w c7 vs bS c
variable{bS vs:Value}
theorem xd.mono(hk:br w w'){c7:Value}{c:bo}(h:xd w c7 vs bS c):xd w' c7 vs bS c:=
 ⟨h.ko.mono AF hk,h.kJ.mono YX hk,h.gZ.mono RL hk⟩
theorem xd.shape{c7:Value}{c:bo}(h:xd w c7 vs bS c):∃d ci a b an e,c7=.slice d c.ko.length ci/\vs=.slice a c.kJ.length b/\bS=.slice an c.gZ.length e:=by obtain⟨d,ci,i,-,-⟩:=h.ko;obtain⟨a,b,g,-,-⟩:=h.kJ;obtain⟨an,e,f,-,-⟩:=h.gZ;grind
def sO:pM Ci:=λ_ _ _ _ _ hk a⟨c7,vs,bS,h0,f,e,d,c,b⟩=>
 ⟨c7,vs,bS,a _ _ h0,a _ _ f,a _ _ e,a _ _ d,a _ _ c,b.mono hk⟩
abbrev nO(w:aH):=aZ w 5 Ci
def RO(w:aH)(rd:uaq)(t:List bo):Prop:=∃v,rd 0=some v/\nO w v t
def MB:pM RO:=λ_ _ _ _ _ hk a⟨v,h0,h⟩=>⟨v,a _ _ h0,h.mono sO hk⟩
abbrev Cj(w:aH):=aZ w 1 RO
structure bH where
 op:Int
 a:Int
 v:Int
 s:ByteArray
def IP(_:aH)(rd:uaq)(t:bH):Prop:=
 rd 0=some (.I t.op)/\rd 1=some (.I t.a)/\rd 2=some (.I t.v)/\rd 3=some (.string t.s)/\t.s.size<=9223372036854775807
def tT:pM IP:=λ_ _ _ _ _ _ a h=>⟨a _ _ h.1,a _ _ h.2.1,a _ _ h.2.2.1,a _ _ h.2.2.2.1,h.2.2.2.2⟩
abbrev rS(w:aH):=aZ w 4 IP
def RP(w:aH)(rd:uaq)(e:List bH):Prop:=∃v,rd 0=some v/\rS w v e
def qR:pM RP:=λ_ _ _ _ _ hk a⟨v,h0,h⟩=>⟨v,a _ _ h0,h.mono tT hk⟩
abbrev nP(w:aH):=aZ w 1 RP
abbrev ak6(w:aH):=aZ w 2 MA
structure lV where
 op:Int
 a:Int
 b:Int
 h_:List (List bH)
 FX:List Int
 others:List Int
 FY:List (Int×Int)
structure tU(w:aH)(eu cM jx b6:Value)(n:lV):Prop where
 h_:nP w eu n.h_
 FX:iQ w cM n.FX
 others:iQ w jx n.others
 FY:ak6 w b6 n.FY
variable{b6 cM eu jx:Value}
theorem tU.mono(hk:br w w'){n:lV}(h:tU w eu cM jx b6 n):tU w' eu cM jx b6 n:=
 ⟨h.h_.mono qR hk,h.FX.mono AF hk,h.others.mono AF hk,h.FY.mono ni hk⟩
theorem tU.shape{n:lV}(h:tU w eu cM jx b6 n):∃a ce b c e jZ aa d,eu=.slice a n.h_.length ce/\cM=.slice b n.FX.length c/\jx=.slice e n.others.length jZ/\b6=.slice aa n.FY.length d:=by obtain⟨a,ce,j,-,-⟩:=h.h_;obtain⟨b,c,i,-,-⟩:=h.FX;obtain⟨e,jZ,g,-,-⟩:=h.others;obtain⟨aa,d,f,-,-⟩:=h.FY;grind
def YY(w:aH)(rd:uaq)(n:lV):Prop:=
 ∃eu cM jx b6,rd 0=some (.I n.op)/\rd 1=some (.I n.a)/\rd 2=some (.I n.b)/\rd 3=some eu/\rd 4=some cM/\rd 5=some jx/\rd 6=some b6/\tU w eu cM jx b6 n
def RQ:pM YY:=λ_ _ _ _ _ hk a⟨eu,cM,jx,b6,h0,e,d,c,b,g,f,h⟩=>
 ⟨eu,cM,jx,b6,a _ _ h0,a _ _ e,a _ _ d,a _ _ c,a _ _ b,a _ _ g,a _ _ f,h.mono hk⟩
abbrev IQ(w:aH):=aZ w 7 YY
abbrev fe(t:ubj):Value:=.agg #[.I t.1,.I t.2]
variable{W w1:aH}
def YZ(a:cy W w1):(∀b o,b<W.heap.size->w1.cell? (.a b o)=W.cell? (.a b o))/\(∀b o,b<W.heap.size->w1.frozen? ⟨b,o,none⟩=W.frozen? ⟨b,o,none⟩):=
 ⟨λb o h=>a.cell (p:=⟨b,o,none⟩) h,λb o h=>a.frozen (p:=⟨b,o,none⟩) h⟩
def after(B:Nat)(a:cy W w1)(c:B<=W.heap.size):(∀b o,b<B->w1.cell? (.a b o)=W.cell? (.a b o))/\(∀b o,b<B->w1.frozen? ⟨b,o,none⟩=W.frozen? ⟨b,o,none⟩)/\B<=w1.heap.size:=
 ⟨λb o h=>(YZ a).1 b o AP,λb o h=>(YZ a).2 b o AP,by have:=a.size;omega⟩
theorem Below.step{B:Nat}{w W w1:aH}(a:cy W w1)(h:Below B w W)(b:B<=W.heap.size):Below B w w1:=h.trans (a.mono b)
theorem br.alloc(h:br a w)(o:Obj):br a (w.alloc o):=
 h.trans (br.ck ((vaa _ _).alloc Kj o))
theorem br.drew(h:br a w):br a w.drew:=λb o v e=>by simpa using h b o v e
theorem br.step{a W w1:aH}(h:br a W)(b:cy W w1):br a w1:=h.trans (br.ck b)
def ag(w:aH)(b:Nat)(cs:fi)(T:uab):Prop:=w.heap[b]?=some (.cells cs T (0,0))
variable{cs:fi}{T:uab}
def ag.lt(h:ag w b cs T):b<w.heap.size:=by grind[ag]
theorem ag.rules(h:ag w b cs T):(∀o,w.cell? (.a b o)=cs[o]?)/\(∀o,w.frozen? ⟨b,o,none⟩=false):=by grind[ag,World.cell?,World.frozen?]
def ag.all(h:ag w b cs T):(∀o,w.cell? (.a b o)=cs[o]?)/\(∀o,w.frozen? ⟨b,o,none⟩=false)/\b<w.heap.size:=⟨h.rules.1,h.rules.2,h.lt⟩
variable{B:Nat}
def ag.below(h:ag w b cs T)(a:Below B w w')(c:b<B):ag w' b cs T:=by unfold ag at *;rw[a.block b c];exact h
def ag.call(h:ag w b cs T)(a:cy w w'):ag w' b cs T:=h.below a h.lt
theorem ag.alloc(h:ag w b cs T)(o:Obj):ag (w.alloc o) b cs T:=
 h.call ((vaa _ _).alloc Kj o)
theorem ag.drew(h:ag w b cs T):ag w.drew b cs T:=h
def ag.new(w:aH)(cs:fi)(T:uab):ag (w.alloc (.cells cs T)) w.heap.size cs T:=by exact heap_alloc_new w _
def ag.set(h:ag w b cs T)(o:Nat)(v:Value):ag (w.setCell ⟨b,o,none⟩ v) b (cs.setIfInBounds o v) T:=by grind[ag,World.setCell]
def ag.ek(h:ag w b cs T){a:Addr}(c:b≠a.block)(v:Value):ag (w.setCell a v) b cs T:=by grind[ag,Below.heap_setCell]
def xe{b' o':Nat}{u:Value}(h:w.cell? (.a b o)=some v)(a:b≠b'):(w.setCell ⟨b',o',none⟩ u).cell? (.a b o)=some v:=by grind[World.cell?_of_block,Below.heap_setCell]
structure tV(P:cf)(t e:uab)(z:Value)(size bytes:Nat):Prop where
 ht:P.underlying t=some (.slice e)
 hi:(P.info? e).map (λi=>(i.zero,i.size,i.bytes))=some (some z,size,bytes)
 RR:z.cells.size=size
 hsz:0<size
variable{size:Nat}{z:Value}{e t:uab}{Q:ual}
def IR{P:cf}{bytes:Nat}(E:tV P t e z size bytes)(w:aH){ops:fC}{rest:ubi}{o:Oper}{a:Act}(A:o.guard=none)(s x:uau)(p:o.op=.call {callee:=.builtin .append,args:=#[s,x],argTypes:=#[t,t]})(base:Nat)(v:Value)(n:Nat)(xs:uaj)(hs:a.eval s=v)(C:w.ownsRow base e size v n xs)(b m c:Nat)(news:uaj)(l:a.eval x=.S b 0 m c)(r:news.length=m*size)(F:∀j u,news[j]?=some u->w.cell? (.a b j)=some u)(y:∀u∈news,u.oneCell'=true)(q:0<m)(D:(n+m)*bytes<=140737488355328)(J:n+m<=9223372036854775807)(d:base<=w.heap.size)(H:Nat)(B:w.heap.size=H)(h:∀g cap w',w'.ownsRow base e size (.S g 0 (n+m) cap) (n+m) (xs++news)->w.grownBy w' v.ownBlock->(v.ownBlock=some g\/g=H)->g<w'.heap.size->wpList P ops Q rest (a.put o.dst (.S g 0 (n+m) cap)) w'):
 wpList P ops Q (o::rest) a w:=by
 obtain⟨i,hi,k,hsz,f⟩:=vcv E.hi;exact wpList_append_lies w A s x t p base e i z size bytes E.ht hi k hsz f E.RR E.hsz v n xs hs C ⟨b,0,none⟩ m c news l r (λj u I=>by simp_all[Addr.add_lit]) y q H0 D d H B h
abbrev _root_.Go.Proofs.YtcjlmniddnnieaaGreat.veg(o:Oper)(ops:Array Oper)(t:Array Value):Bool:=Region.wanted o (yielded ops t)
def MD{P:cf}{bytes:Nat}(E:tV P t e z size bytes)(w:aH){ops:fC}{o:Oper}{a:Act}{K:uag}{F:Prop}(A:o.guard=none)(s x:uau)(p:o.op=.call {callee:=.builtin .append,args:=#[s,x],argTypes:=#[t,t]})(base:Nat)(v:Value)(n:Nat)(xs:uaj)(hs:a.eval s=v)(C:w.ownsRow base e size v n xs)(b m c:Nat)(news:uaj)(l:a.eval x=.S b 0 m c)(r:news.length=m*size)(I:∀j u,news[j]?=some u->w.cell? (.a b j)=some u)(y:∀u∈news,u.oneCell'=true)(q:0<m)(D:(n+m)*bytes<=140737488355328)(L:n+m<=9223372036854775807)(d:base<=w.heap.size)(H:Nat)(B:w.heap.size=H)(h:∀g cap w',w'.ownsRow base e size (.S g 0 (n+m) cap) (n+m) (xs++news)->w.grownBy w' v.ownBlock->(v.ownBlock=some g\/g=H)->g<w'.heap.size->K (a.put o.dst (.S g 0 (n+m) cap)) w'):
 if veg o ops a.tmps=true then Oper.wp P o a w K Q else F:=by
 obtain⟨i,hi,k,hsz,f⟩:=vcv E.hi;exact step_append_lies w A s x t p base e i z size bytes E.ht hi k hsz f E.RR E.hsz v n xs hs C ⟨b,0,none⟩ m c news l r (λj u J=>by simp_all[Addr.add_lit]) y q H0 D d H B h
variable{cap g n:Nat}{xs:uaj}
def Y1{base:Nat}(h:w.ownsRow base e size (.S g 0 n cap) n xs)(k:Nat)(hk:k<=n):w.ownsRow base e size (.S g 0 k cap) k (xs.take (k*size)):=by
 obtain⟨f,d⟩:=h;rcases d with⟨h0,_⟩|⟨g',cap',bq,hv,c,hg,i,a,hs,ht⟩
 .grind
 .simp at hv;obtain⟨rfl,rfl⟩:=hv;have b:k*size<=n*size:=vcx _ hk;refine⟨AJ,.inr ⟨g,cap,bq,Y,c,hg,AP,a,hs,?_⟩⟩;grind
def kp(l:fK):List Value:=l.flatMap λt=>[.I t.1,.I t.2]
theorem Y2(l:fK)(t:ubj):kp l++[.I t.1,.I t.2]=kp (l++[t]):=by simp[kp]
theorem Y3(l:fK)(i:Nat)(hi:i<l.length):(kp l)[i*2]?=some (.I l[i].1)/\(kp l)[i*2+1]?=some (.I l[i].2):=by induction l generalizing i with|nil=>grind|cons t r a=>cases i with|zero=>simp[kp]|succ i=>grind[kp]
def ak7(l:fK)(k:Nat):(kp l).take (k*2)=kp (l.take k):=by induction k generalizing l with|zero=>simp[kp]|succ k a=>cases l with|nil=>grind|cons t r=>grind[kp]
theorem rT{base:Nat}(h:w.ownsRow base e size (.S g 0 n cap) n xs)(j:Nat)(u:Value)(a:xs[j]?=some u):w.cell? (.a g j)=some u:=by have:=h.cells (g:=g) Y j u a;rwa[Addr.add_lit,vce]at this
def eF.AG{base:Nat}{l:fK}(h:w.ownsRow base e 2 v l.length (kp l))(a:l.length<=9223372036854775807):eF w v l:=by
 have b:=h;rcases b.2 with⟨rfl,h0⟩|⟨g,cap,bq,rfl,c⟩
 .grind[aZ.nil]
 .refine⟨_,cap,Y,a,λi hi=>⟨g,0,Y,?_,?_⟩⟩
  .simp;grind[rT,Y3]
  .simp;exact rT h _ _ (Y3 l i hi).2
def qS{base:Nat}(h:w.ownsRow base e size v n xs):∃a c,v=.slice a n c:=by
 rcases h.2 with⟨rfl,rfl⟩|⟨g,cap,bq,rfl,-⟩
 .grind
 grind
def ak8{base:Nat}(h:w.ownsRow base e size v n xs)(b:Below B w w')(a:∀g,v.ownBlock=some g->g<B):w'.ownsRow base e size v n xs:=by
 refine⟨h.1,?_⟩;rcases h.2 with hn|⟨g,cap,bq,rfl,c,d,rest⟩
 .grind
 .refine .inr ⟨g,cap,bq,Y,c,?_,rest⟩;rw[b.block g (a g Y)];grind
def FZ{base:Nat}(h:w.ownsRow base e size v n xs)(a:cy w w'):w'.ownsRow base e size v n xs:=
 ak8 h a (λg hg=>(h.lt g hg).2)
theorem ag.grown{row:ubc}(h:ag w b cs T)(hg:w.grownBy w' row)(a:∀g,row=some g->b≠g):ag w' b cs T:=by unfold ag at *;rw[hg.block b (ag.lt h) AJ];exact h
def Y4{x y:Value}(h:ag w b #[x,y] T):∀j u,([x,y]:uaj)[j]?=some u->w.cell? (.a b j)=some u:=by intro j u a;rw[h.rules.1 j];grind
def RU(a b:Int):∀u∈([.I a,.I b]:uaj),u.oneCell'=true:=by intro u c;simp at c;rcases c with rfl|rfl<;>rfl
