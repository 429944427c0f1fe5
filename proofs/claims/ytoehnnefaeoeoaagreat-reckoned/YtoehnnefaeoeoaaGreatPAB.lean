import Derived.WalkSpells
import Derived.WalkLawsBesides
import Derived.RangeFuncNested
import Derived.Test.YtoehnnefaeoeoaaGreatPAA
set_option linter.all false
set_option maxRecDepth 100000
set_option maxHeartbeats 16000000
namespace Go.Proofs.YtoehnnefaeoeoaaGreat
namespace az
inductive dJ{ar aQ:Type}(R:ar->aQ->Prop):List ar->List aQ->Prop
 |nil:dJ R [] []
 |cons {a:ar} {b:aQ} {l:List ar} {m:List aQ} (h:R a b) (t:dJ R l m):dJ R (a::l) (b::m)
theorem dJ.mono{ar aQ:Type}{R S:ar->aQ->Prop}(hl:∀a b,R a b->S a b){l:List ar}{m:List aQ}(h:dJ R l m):dJ S l m:=by induction h with|nil=>exact .nil|cons h _ c=>exact .cons (hl _ _ h) c
theorem dJ.append{ar aQ:Type}{R:ar->aQ->Prop}{l b:List ar}{m a:List aQ}(h:dJ R l m)(k:dJ R b a):dJ R (l++b) (m++a):=by induction h with|nil=>exact k|cons h _ c=>exact .cons h c
theorem dJ.length{ar aQ:Type}{R:ar->aQ->Prop}{l:List ar}{m:List aQ}(h:dJ R l m):l.length=m.length:=by induction h with|nil=>rfl|cons _ _ a=>grind
theorem dJ.Hs{ρ:ay}{a a':Array Value}(h:a3 ρ a a'):dJ (aA ρ) a.toList a'.toList:=by obtain⟨l⟩:=a;obtain⟨m⟩:=a';simp only;induction l generalizing m with|nil=>have:=h.size;simp at this;have:m=[]:=List.length_eq_zero_iff.1 this.symm;subst this;exact .nil|cons x l c=>cases m with|nil=>have:=h.size;grind|cons y m=>refine .cons (h.get 0 x y Aa Aa) (c m ⟨by have:=h.size;grind,fun i v v' a b=>h.get (i+1) v v' AU AU⟩)
theorem a3.La{ρ:ay}{l m:List Value}(h:dJ (aA ρ) l m):a3 ρ l.toArray m.toArray:=by induction h with|nil=>exact .nil ρ|@cons a b l m h _ c=>have e:∀(x:Value)(l:List Value),(x::l).toArray=#[x]++l.toArray:=fun x l=>Aa;grind[a3.one,append]
def PG:Builtin->Bool
 | .append| .cap| .copy| .len=>true
 | _=>false
inductive wT(ρ:ay):Target->Target->Prop
 |fn {f f':Fn} {c c':Array Value} (h:vI ρ f f') (k:a3 ρ c c'):wT ρ (.fn f c) (.fn f' c')
 |nil:wT ρ .nil .nil
 |builtin (b:Builtin) (ats:Array TypeId) (t:TypeId) (cs:Array Bool) (hb:PG b=true):wT ρ (.builtin b ats t cs) (.builtin b ats t cs)
 |collected {r c5:Nat} (h:ρ.rel r c5):wT ρ (.collected r) (.collected c5)
structure AB(ρ:ay)(d d':Deferred):Prop where
 target:wT ρ d.target d'.target
 args:a3 ρ d.args d'.args
theorem wT.mono{ρ σ:ay}(hl:ay.le ρ σ){a a':Target}(h:wT ρ a a'):wT σ a a':=by cases h with|fn h k=>exact .fn (h.mono hl) (k.mono hl)|nil=>exact .nil|builtin b ats t cs c=>exact .builtin b ats t cs c|collected h=>exact .collected (hl.1 _ _ h)
theorem AB.mono{ρ σ:ay}(hl:ay.le ρ σ){a a':Deferred}(h:AB ρ a a'):AB σ a a':=⟨h.target.mono hl,h.args.mono hl⟩
abbrev tK(ρ:ay):List Deferred->List Deferred->Prop:=dJ (AB ρ)
theorem tK.mono{ρ σ:ay}(hl:ay.le ρ σ){a a':List Deferred}(h:tK ρ a a'):tK σ a a':=dJ.mono (fun _ _ x=>x.mono hl) h
structure Lb(ρ:ay)(e fQ:MapEntry):Prop where
 key:aA ρ e.key fQ.key
 val:aA ρ e.val fQ.val
 born:e.born=fQ.born
theorem Lb.mono{ρ σ:ay}(hl:ay.le ρ σ){a a':MapEntry}(h:Lb ρ a a'):Lb σ a a':=⟨h.key.mono hl,h.val.mono hl,h.born⟩
def zi(fr:Nat×Nat)(i:Nat):Prop:=fr.1<=i/\i<fr.2
def Lc:Obj->Prop
 | .map .. | .stringIter .. | .mapIter .. | .loop _ | .deferred _ | .coro _ | .finalizers .. =>True
 | _=>False
structure cU where
 P:Program
 Q:Program
 ma:Code->Prop
 upd:Bool
structure Ht(C:cU)(ρ:ay)(l aW:Loop):Prop where
 state:l.state=aW.state
 pending:l.pending=aW.pending
 Ld:∀c,l.pending=some c->C.ma c
 fn:l.fn=aW.fn
 known:∃fn c,C.P.funcs[l.fn]?=some fn/\fn.body=some c
 tmps:a3 ρ l.tmps aW.tmps
 params:l.params=aW.params
 assign:l.assign=aW.assign
 Hu:C.ma l.assign
 body:l.body=aW.body
 Hv:C.ma l.body
 defers:ρ.rel l.defers aW.defers
theorem Ht.mono{C:cU}{ρ σ:ay}(hl:ay.le ρ σ){a a':Loop}(h:Ht C ρ a a'):Ht C σ a a':=
 ⟨h.state,h.pending,h.Ld,h.fn,h.known,h.tmps.mono hl,h.params,h.assign,h.Hu,h.body,h.Hv,hl.1 _ _ h.defers⟩
inductive il(C:cU)(ρ:ay):Obj->Obj->Prop
 |cells {c c':Array Value} (elem:TypeId) {fr aY:Nat×Nat} (h:a3 ρ c c') (hf:(∀i,zi aY i->zi fr i)/\(C.upd=true->aY=fr)):il C ρ (.cells c elem fr) (.cells c' elem aY)
 |map {es es':Array MapEntry} (clock:Nat) (h:dJ (Lb ρ) es.toList es'.toList):il C ρ (.map es clock) (.map es' clock)
 |stringIter (s:ByteArray) (p:Nat):il C ρ (.stringIter s p) (.stringIter s p)
 |Cr (gA:Nat) (seen:Array Nat) (st:Nat):il C ρ (.mapIter none gA seen st) (.mapIter none gA seen st)
 |mapIter {m m':Nat} (h:ρ.rel m m') (gA:Nat) (seen:Array Nat) (st:Nat):il C ρ (.mapIter (some m) gA seen st) (.mapIter (some m') gA seen st)
 |loop {l aW:Loop} (h:Ht C ρ l aW):il C ρ (.loop l) (.loop aW)
 |deferred {l aW:List Deferred} (h:tK ρ l aW):il C ρ (.deferred (some l)) (.deferred (some aW))
 |taken:il C ρ (.deferred none) (.deferred none)
 |number {a a':Addr} (h:dC ρ a a') (Cs:Bool):il C ρ (.number a Cs) (.number a' Cs)
 |qa {o':Obj} (h:Lc o'):il C ρ (.coro none) o'
theorem il.mono{C:cU}{ρ σ:ay}(hl:ay.le ρ σ){a a':Obj}(h:il C ρ a a'):il C σ a a':=by cases h with|cells e h d=>exact .cells e (h.mono hl) d|map c h=>exact .map c (dJ.mono (fun _ _ x=>x.mono hl) h)|stringIter s p=>exact .stringIter s p|Cr a b c=>exact .Cr a b c|mapIter h a b c=>exact .mapIter (hl.1 _ _ h) a b c|loop h=>exact .loop (h.mono hl)|deferred h=>exact .deferred (h.mono hl)|taken=>exact .taken|number h l=>exact .number (h.mono hl) l|qa h=>exact .qa h
structure Sync where
 a:Nat
 b:Nat
 bound:Nat
 T:Nat->Question->Nat
inductive E9:Obj->Prop
 |coro:E9 (.coro none)
 |number (a:Addr) (l:Bool):E9 (.number a l)
structure eN(C:cU)(S:Sync)(ρ:ay)(w w':World):Prop where
 obj:∀b aD,ρ.rel b aD->∃o o',w.heap[b]?=some o/\w'.heap[aD]?=some o'/\il C ρ o o'
 one:∀a b aD,ρ.rel a b->ρ.rel a aD->b=aD
 inj:∀a a' b,ρ.rel a b->ρ.rel a' b->a=a'
 nV:∀g,g<=C.P.globals.size->ρ.rel g g
 sync:w.drawn+S.b=w'.drawn+S.a
 tape:∀j q,w'.drawn+j<S.bound->w.tape (w.drawn+j) q=w'.tape (w'.drawn+j) q
 env:w.os.env=w'.os.env
 lone:w.tape=S.T
 still:∀b aD,ρ.rel b aD->¬ρ.mine aD->(C.upd=false/\∃c e fr,w.heap[b]?=some (.cells c e fr)/\∀i,i<c.size->zi fr i)\/(C.upd=false/\∃es k,w.heap[b]?=some (.map es k))\/∃o,w.heap[b]?=some o/\E9 o
def yb(ρ:ay)(e:Event):Prop:=
 match e.loc with
 | .cell a=>(∃b,ρ.rel b a.block)/\(e.write=true->ρ.mine a.block)/\e.sync=false
 | .obj r=>(∃b,ρ.rel b r)/\(e.write=true->ρ.mine r)/\e.sync=false
 | .mark .noRoom| .mark (.extern _)| .output=>True
 | _=>False
theorem yb.mono{ρ σ:ay}(hl:ay.le ρ σ){e:Event}(h:yb ρ e):yb σ e:=by obtain⟨l,wr,b⟩:=e;unfold yb at h⊢;cases l with|cell a=>exact⟨h.1.imp fun _ x=>hl.1 _ _ x,fun x=>hl.2 _ (h.2.1 x),h.2.2⟩|obj a=>exact⟨h.1.imp fun _ x=>hl.1 _ _ x,fun x=>hl.2 _ (h.2.1 x),h.2.2⟩|mark m=>grind|output=>exact h|goroutines=>exact h
structure zj(ρ σ:ay)(w' qb:World):Prop where
 le:ay.le ρ σ
 back:∀b,σ.mine b->ρ.mine b\/w'.heap.size<=b
 size:w'.heap.size<=qb.heap.size
 low:∀b,σ.mine b->ρ.mine b\/b<qb.heap.size
 old:∀a b,σ.rel a b->ρ.rel a b\/w'.heap.size<=b
 kept:∀b,b<w'.heap.size->¬ρ.mine b->qb.heap[b]?=w'.heap[b]?
 os:qb.os=w'.os
 output:qb.output=w'.output
 tape:qb.tape=w'.tape
 drawn:w'.drawn<=qb.drawn
theorem zj.refl(ρ:ay)(w:World):zj ρ ρ w w:=⟨ay.le_refl _,fun _ h=>.inl h,Nat.le_refl _,fun _ h=>.inl h,fun _ _ h=>.inl h,fun _ _ _=>rfl,rfl,rfl,rfl,Nat.le_refl _⟩
theorem zj.trans{ρ σ f:ay}{w w1 d:World}(h:zj ρ σ w w1)(k:zj σ f w1 d):zj ρ f w d:=
 ⟨ay.le_trans h.le k.le,fun b x=>(k.back b x).elim (fun y=>h.back b y) (fun y=>.inr (Nat.le_trans h.size y)),Nat.le_trans h.size k.size,
  fun b x=>(k.low b x).elim (fun y=>(h.low b y).imp id fun z=>Nat.lt_of_lt_of_le z k.size) .inr,
  fun a b x=>(k.old a b x).elim (fun y=>h.old a b y) (fun y=>.inr (Nat.le_trans h.size y)),
  fun b c e=>by rw[k.kept b (Nat.lt_of_lt_of_le c h.size) (fun y=>(h.back b y).elim e (fun z=>absurd c (Nat.not_lt.2 z)))];exact h.kept b c e,
  k.os.trans h.os,k.output.trans h.output,k.tape.trans h.tape,Nat.le_trans h.drawn k.drawn⟩
inductive E_{ar aQ:Type}(C:cU)(S:Sync)(ρ:ay)(R:ay->ar->aQ->Prop):Result ar->Result aQ->World->Prop
 |ok {a:ar} {b:aQ} {w w':World} (h:R ρ a b) (hw:eN C S ρ w w'):E_ C S ρ R (.ok a w) (.ok b w') w'
 |panic {v v':Value} {w w':World} (h:aA ρ v v') (hw:eN C S ρ w w'):E_ C S ρ R (.halt (.panic v) w) (.halt (.panic v') w') w'
 |goexit {w w':World} (hw:eN C S ρ w w'):E_ C S ρ R (.halt .goexit w) (.halt .goexit w') w'
def Good{ar:Type}:Result ar->Prop
 | .ok _ _=>True
 | .halt (.panic _) _ | .halt .goexit _ | .halt (.unsupported (.initOrder _)) _=>True
 | _=>False
def au{ar aQ:Type}(C:cU)(ρ:ay)(R:ay->ar->aQ->Prop)(m:Sem ar)(m':Sem aQ):Prop:=
 ∀(S:Sync)(w w':World),eN C S ρ w w'->Good (m.run C.P w)->(lr (m'.run C.Q w')).drawn<=S.bound->
  ∃(σ:ay)(w1:World),E_ C S σ R (m.run C.P w) (m'.run C.Q w') w1/\zj ρ σ w' w1/\
   ∀es,∃d,m'.events C.Q w' es=es++d/\∀e∈d,yb σ e
def sV{ar aQ:Type}(R:ay->ar->aQ->Prop):Prop:=∀ρ σ a b,ay.le ρ σ->R ρ a b->R σ a b
variable {v v':Value}
section
variable {ar aQ γ Hw:Type} {C:cU} {ρ:ay}
theorem au.pure{R:ay->ar->aQ->Prop}{a:ar}{b:aQ}(h:R ρ a b):au C ρ R (Pure.pure a) (Pure.pure b):=by intro S w w' c _ _;exact⟨ρ,w',.ok h c,.refl _ _,fun es=>⟨#[],by simp[Sem.events,Pure.pure,Sem.runT],Aa⟩⟩
theorem np(m:Sem ar)(f:ar->Sem aQ)(P:Program)(w:World):(m>>= f).run P w=match m.run P w with| .ok a w1=>(f a).run P w1| .halt h w1=>.halt h w1:=by
 show(m.bind f).run P w=_;induction m generalizing w with
 |pure a=>rfl
 |load md a k b=>grind[Sem.bind,Sem.run]
 |store md a v k b=>
  cases v with
  |agg c=>rfl
  |tuple c=>rfl
  | _=>
   simp only[Sem.bind,Sem.run];cases w.cell? a with
   |some v=>
    simp only[];split
    ·rfl
    ·exact b _
   |none=>
    simp only[];split
    ·exact b _
    ·rfl
 |new o k b=>exact b _ _
 |shape r k b=>exact b _ _
 |freeze a n k b=>exact b _
 |frozen a k b=>exact b _ _
 |getObj r k b=>grind[Sem.bind,Sem.run]
 |setObj r o k b=>grind[Sem.bind,Sem.run]
 |choose q k b=>grind[Sem.bind,Sem.run]
 |sys c k b=>exact b _ _
 |program k b=>exact b _ _
 |mark m k b=>exact b _
 |halt h=>rfl
theorem PH(m:Sem ar)(f:ar->Sem aQ)(P:Program)(w:World)(es:Array Event):(m>>= f).events P w es=match m.run P w with| .ok a w1=>(f a).events P w1 (m.events P w es)| .halt _ _=>m.events P w es:=by
 show(m.bind f).events P w es=_;unfold Sem.events;induction m generalizing w es with
 |pure a=>rfl
 |load md a k b=>grind[Sem.bind,Sem.run,Sem.runT]
 |store md a v k b=>
  cases v with
  |agg c=>rfl
  |tuple c=>rfl
  | _=>
   simp only[Sem.bind,Sem.run,Sem.runT];cases w.cell? a with
   |some v=>
    simp only[];by_cases d:w.frozen? a=true
    ·simp only[d,if_true]
    ·simp only[d];exact b _ _
   |none=>simp only[];cases e:w.farStore P a _ (md== .atomic)with|ok r=>exact b _ _|error h=>rfl
 |new o k b=>exact b _ _ _
 |shape r k b=>exact b _ _ _
 |freeze a n k b=>exact b _ _
 |frozen a k b=>exact b _ _ _
 |getObj r k b=>grind[Sem.bind,Sem.run,Sem.runT]
 |setObj r o k b=>grind[Sem.bind,Sem.run,Sem.runT]
 |choose q k b=>simp only[Sem.bind,Sem.run,Sem.runT];grind
 |sys c k b=>exact b _ _ _
 |program k b=>exact b _ _ _
 |mark m k b=>exact b _ _
 |halt h=>rfl
theorem au.bind{R:ay->ar->aQ->Prop}{S:ay->γ->Hw->Prop}{m:Sem ar}{i:Sem aQ}{f:ar->Sem γ}{f':aQ->Sem Hw}
 (h:au C ρ R m i) (k:∀σ a b,ay.le ρ σ->R σ a b->au C σ S (f a) (f' b)):au C ρ S (m>>= f) (i>>= f'):=by
 intro S w w' A l g;rw[np]at l⊢;have F:(lr (i.run C.Q w')).drawn<=S.bound:=by rw[np]at g;cases d:i.run C.Q w' with|ok b j=>rw[d]at g;exact Nat.le_trans (Cq C.Q (f' b) j).1 g|halt x j=>rw[d]at g;exact g
 have s:Good (m.run C.P w):=by
  cases o:m.run C.P w with
  |ok a w1=>trivial
  |halt x w1=>
   rw[o]at l;cases x with
   |unsupported u=>cases u<;>first|exact l|trivial
   | _=>first|exact l|trivial
 obtain⟨σ,w1,c,p,E⟩:=h S w w' A s F;rw[np]at g⊢;cases o:m.run C.P w with
 |ok a t=>
  rw[o]at c l;cases d:i.run C.Q w' with
  |ok b j=>
   rw[d]at c g;cases c with
   |ok q n=>
    obtain⟨D,z,H,v,r⟩:=k σ a b p.le q S t _ n l g;refine⟨D,z,H,p.trans v,fun es=>?_⟩;obtain⟨d1,J,q1⟩:=E es;obtain⟨gV,I,K⟩:=r (i.events C.Q w' es);refine⟨d1++gV,?_,fun e B=>?_⟩
    ·grind[PH]
    ·rcases Array.mem_append.1 B with x|x
     ·exact(q1 e x).mono v.le
     grind
  |halt x j=>rw[d]at c;cases c
 |halt x t=>rw[o]at c;cases d:i.run C.Q w' with|ok b j=>rw[d]at c;cases c|halt y j=>rw[d]at c;cases c with|panic q n=>refine⟨σ,_,.panic q n,p,fun es=>?_⟩;simp_all[PH]|goexit n=>refine⟨σ,_,.goexit n,p,fun es=>?_⟩;simp_all[PH]
theorem au.mono{R S:ay->ar->aQ->Prop}{m:Sem ar}{d:Sem aQ}(h:au C ρ R m d)(k:∀σ a b,ay.le ρ σ->R σ a b->S σ a b):au C ρ S m d:=by intro S w w' c i j;obtain⟨σ,w1,f,g,l⟩:=h S w w' c i j;refine⟨σ,w1,?_,g,l⟩;generalize m.run C.P w=r at f;generalize d.run C.Q w'=c5 at f;cases f with|ok e c=>exact .ok (k _ _ _ g.le e) c|panic e c=>exact .panic e c|goexit c=>exact .goexit c
theorem au.ite{R:ay->ar->aQ->Prop}{c:Prop}[Decidable c]{a b:Sem ar}{a' aD:Sem aQ}(h:c->au C ρ R a a')(k:¬c->au C ρ R b aD):au C ρ R (if c then a else b) (if c then a' else aD):=by grind
theorem au.none{R:ay->ar->aQ->Prop}{m:Sem ar}{a:Sem aQ}(h:∀w,¬Good (m.run C.P w)):au C ρ R m a:=fun _ w _ _ b _=>absurd b (h w)
theorem au.stuck{R:ay->ar->aQ->Prop}{s:String}{a:Sem aQ}:au C ρ R (Go.stuck s) a:=.none fun _ h=>h
theorem au.unsupported{R:ay->ar->aQ->Prop}{u:Unsupported}{a:Sem aQ}(b:∀g,u≠ .initOrder g:=by intro g h;cases h):au C ρ R (Go.unsupported u) a:=.none fun _ h=>by cases u with|initOrder g=>grind| _=>exact h
theorem au.throw{R:ay->ar->aQ->Prop}{s:String}{a:Sem aQ}:au C ρ R (Go.throw s) a:=.none fun _ h=>h
theorem au.goPanic{R:ay->ar->aQ->Prop}(h:aA ρ v v'):au C ρ R (Go.goPanic v) (Go.goPanic v'):=by intro S w w' a _ _;exact⟨ρ,w',.panic h a,.refl _ _,fun es=>⟨#[],by simp[Sem.events,Go.goPanic,Sem.runT],Aa⟩⟩
end
variable {a a':Addr}{c5 r:Nat}{c:Array Value}{x:Value}{P:Program}{o o':Obj}
section
attribute [-simp] Sem.runT_eq
section
variable {C:cU} {S:Sync} {ρ:ay} {w w':World}
theorem eN.lt(h:eN C S ρ w w'){a b:Nat}(r:ρ.rel a b):a<w.heap.size/\b<w'.heap.size:=by obtain⟨o,o',d,c,_⟩:=h.obj a b r;grind
theorem eN.cells(h:eN C S ρ w w'){a b:Nat}(r:ρ.rel a b){c:Array Value}{e:TypeId}{fr:Nat×Nat}(f:w.heap[a]?=some (.cells c e fr)):
 ∃c' aY,w'.heap[b]?=some (.cells c' e aY)/\a3 ρ c c'/\∀i,zi aY i->zi fr i:=by
 obtain⟨o,o',d,j,g⟩:=h.obj a b r;rw[f]at d;cases d;cases g with|cells e k hF=>exact⟨_,_,j,k,hF.1⟩
theorem eN.other(h:eN C S ρ w w'){a b:Nat}(r:ρ.rel a b)(j:∀c e fr,w.heap[a]?≠some (.cells c e fr)):
 ∃o o',w.heap[a]?=some o/\w'.heap[b]?=some o'/\il C ρ o o'/\(∀c e fr,o'≠ .cells c e fr)/\(∀x t,o'≠ .view x t)/\(∀x t,o'≠ .pending x t)/\o'.isChan=false:=by
 obtain⟨o,o',i,g,d⟩:=h.obj a b r;refine⟨o,o',i,g,d,?_⟩;cases d with
 |cells e k hF=>grind
 |qa f=>cases o'<;>first|exact f.elim|exact⟨Aa,Aa,Aa,rfl⟩
 | _=>exact⟨Aa,Aa,Aa,rfl⟩
theorem vJ{w:World}(h:w.cell? a=some v):∃c e fr,w.heap[a.block]?=some (.cells c e fr)/\a.spot=none/\c[a.off]?=some v:=by
 unfold World.cell? at h;split at h
 ·simp_all
 grind
theorem kH{w:World}{e:TypeId}{fr:Nat×Nat}(h:w.heap[a.block]?=some (.cells c e fr))(d:a.spot=none)(b:c[a.off]?=some v):w.cell? a=some v:=by grind[World.cell?]
theorem eN.cell(h:eN C S ρ w w')(r:dC ρ a a')(f:w.cell? a=some v):∃v',w'.cell? a'=some v'/\aA ρ v v':=by obtain⟨c,e,fr,k,j,i⟩:=vJ f;obtain⟨c',aY,d,l,_⟩:=h.cells r.1 k;obtain⟨v',b,g⟩:=l.some i;exact⟨v',kH d (r.2.2▸j) (r.2.1▸b),g⟩
theorem afU{ar:Type}(h:eN C S ρ w w')(r:dC ρ a a')(d:w.cell? a=none)(m:Mode)(k:Value->Sem ar):¬Good ((Sem.load m a k).run C.P w):=by
 simp only[Sem.run,d];obtain⟨o,o',c,e,b⟩:=h.obj _ _ r.1;have:w.farLoad C.P a (m== .atomic)=.error (w.noCell a "load: no such cell"):=by unfold World.farLoad;rw[c];cases b<;>rfl
 rw[this];simp only[World.noCell,c];cases b<;>exact id
theorem au.load(r:dC ρ a a'):au C ρ aA (Go.load a) (Go.load a'):=by
 intro S w w' b h _;cases d:w.cell? a with
 |none=>exact absurd h (afU b r d _ _)
 |some v=>
  obtain⟨v',c,g⟩:=b.cell r d;refine⟨ρ,w',?_,.refl _ _,fun es=>⟨#[⟨.cell a',false,false⟩],?_,?_⟩⟩
  ·simp only[Go.load,Sem.run,d,c];exact .ok g b
  ·grind[Sem.events,Go.load,Sem.runT]
  ·intro e f;simp at f;subst f;exact⟨⟨_,r.1⟩,Aa,rfl⟩
theorem eN.setCell(h:eN C S ρ w w')(r:dC ρ a a')(t:aA ρ v v')(y:ρ.mine a'.block):eN C S ρ (w.setCell a v) (w'.setCell a' v'):=by
 have get:∀(w:World)(a:Addr)(v:Value)(b:Nat),(w.setCell a v).heap[b]?=(w.heap[b]?).map (fun o=>if a.block=b then(match o with| .cells c e f=>.cells (if a.spot.isSome then c else c.setIfInBounds a.off v) e f|o=>o)else o):=by grind[World.setCell]
 refine⟨fun b aD d=>?_,h.one,h.inj,h.nV,h.sync,h.tape,h.env,h.lone,fun b aD d q=>?_⟩
 ·obtain⟨o,o',g,j,z⟩:=h.obj b aD d;rw[get,get,g,j];simp only[Option.map_some];refine⟨_,_,rfl,rfl,?_⟩;by_cases e:a.block=b
  ·subst e;have n:a'.block=aD:=h.one _ _ _ r.1 d;subst n;simp only[if_true];cases z with
   |cells el m hF=>
    simp only[r.2.2,r.2.1];by_cases i:a'.spot.isSome=true
    ·simp only[i,if_true];exact .cells el m hF
    ·simp only[i];exact .cells el (m.set t _) hF
   |map c h=>exact .map c h
   |stringIter s p=>exact .stringIter s p
   |Cr a b c=>exact .Cr a b c
   |mapIter h a b c=>exact .mapIter h a b c
   |loop h=>exact .loop h
   |deferred h=>exact .deferred h
   |taken=>exact .taken
   |number h l=>exact .number h l
   |qa h=>cases o'<;>first|exact h.elim|exact .qa trivial
  ·have n:a'.block≠aD:=fun x=>e (h.inj _ _ _ (x▸r.1) d);grind
 ·have e:a.block≠b:=fun x=>q (h.one _ _ _ r.1 (x▸d)▸y);rw[get];rcases h.still b aD d q with⟨u,c,el,fr,g,j⟩|⟨u,es,k,g⟩|⟨o,g,hd⟩
  ·grind
  ·grind
  grind
theorem aA.afV(h:aA ρ v v'):((∃c,v=.agg c)\/∃c,v=.tuple c)\/((∀c,v≠ .agg c)/\(∀c,v≠ .tuple c)/\(∀c,v'≠ .agg c)/\(∀c,v'≠ .tuple c)):=by cases h with|agg=>grind|tuple=>grind| _=>exact .inr ⟨Aa,Aa,Aa,Aa⟩
theorem run_store{ar:Type}{md:Mode}{k:Sem ar}(f:∀c,v≠ .agg c)(e:∀c,v≠ .tuple c)(d:w.cell? a=some x)(b:w.frozen? a=false):
 (Sem.store md a v k).run P w=k.run P (w.setCell a v):=by
 simp_all[Sem.run]
theorem events_store{ar:Type}{md:Mode}{k:Sem ar}(f:∀c,v≠ .agg c)(e:∀c,v≠ .tuple c)(d:w.cell? a=some x)(b:w.frozen? a=false)(es:Array Event):
 (Sem.store md a v k).events P w es=k.events P (w.setCell a v) (es.push ⟨.cell a,true,md== .atomic⟩):=by
 simp_all[Sem.events,Sem.runT]
theorem au.store(r:dC ρ a a')(m:aA ρ v v'):au C ρ (fun _(_ _:Unit)=>True) (Go.store a v) (Go.store a' v'):=by
 intro S w w' f d _;rcases m.afV with(⟨c,rfl⟩|⟨c,rfl⟩)|⟨I,H,D,u⟩
 ·exact d.elim
 ·exact d.elim
 cases i:w.cell? a with
 |none=>
  exfalso;obtain⟨o,o',s,N,q⟩:=f.obj _ _ r.1;have K:∀v,w.farStore C.P a v (Mode.plain== .atomic)=.error (w.noCell a "store: no such cell"):=by intro v;unfold World.farStore;rw[s];cases q<;>rfl
  have:(Go.store a v).run C.P w=.halt (w.noCell a "store: no such cell") w:=by simp_all[Go.store,Sem.run]
  rw[this]at d;simp only[World.noCell,s]at d;cases q<;>exact d
 |some x=>
  obtain⟨b5,E,_⟩:=f.cell r i;obtain⟨c,e,fr,l,R,Q⟩:=vJ i;have J:a.off<c.size:=AU;cases F:w.frozen? a with
  |true=>
   exfalso;have:(Go.store a v).run C.P w=.halt (.unsupported (.unsafePointer "a write to bytes that a string shares")) w:=by simp_all[Go.store,Sem.run]
   rw[this]at d;exact d
  |false=>
   have j:¬zi fr a.off:=by intro⟨y,z⟩;grind[World.frozen?]
   obtain⟨c',aY,q1,P,A⟩:=f.cells r.1 l;have B:w'.frozen? a'=false:=by unfold World.frozen?;rw[q1];have:¬zi aY a'.off:=fun y=>j (r.2.1▸A _ y);grind[zi]
   have n:ρ.mine a'.block:=by
    apply Classical.byContradiction;intro t;rcases f.still _ _ r.1 t with⟨_,bH,O,T,g,L⟩|⟨_,es,k,g⟩|⟨o,g,hd⟩
    ·grind
    ·grind
    ·rw[l]at g;cases g;cases hd
   refine⟨ρ,w'.setCell a' v',?_,?_,fun es=>⟨#[⟨.cell a',true,false⟩],?_,?_⟩⟩
   ·show E_ C S ρ _ ((Go.store a v).run C.P w) ((Go.store a' v').run C.Q w') _;rw[Go.store,Go.store,run_store I H i F,run_store D u E B];exact .ok trivial (f.setCell r m n)
   ·refine⟨ay.le_refl _,fun _ h=>.inl h,by simp[World.setCell],fun _ h=>.inl h,fun _ _ h=>.inl h,fun b M t=>?_,rfl,rfl,rfl,Nat.le_refl _⟩;grind[World.setCell]
   ·grind[Go.store,events_store,Sem.events,Sem.runT]
   ·intro e p;simp at p;subst p;exact⟨⟨_,r.1⟩,fun _=>n,rfl⟩
def ay.new(ρ:ay)(n n':Nat):ay:={rel:=fun a b=>ρ.rel a b\/(a=n/\b=n'),mine:=fun b=>ρ.mine b\/b=n'}
theorem ay.Wg(ρ:ay)(n a:Nat):ay.le ρ (ρ.new n a):=⟨fun _ _ h=>.inl h,fun _ h=>.inl h⟩
theorem eN.alloc(h:eN C S ρ w w')(k:il C ρ o o'):eN C S (ρ.new w.heap.size w'.heap.size) {w with heap:=w.heap.push o} {w' with heap:=w'.heap.push o'}:=by
 have hl:=ay.Wg ρ w.heap.size w'.heap.size;refine⟨fun b aD c=>?_,fun a b aD x y=>?_,fun a a' b x y=>?_,fun g l=>.inl (h.nV g l),h.sync,h.tape,h.env,h.lone,fun b aD c f=>?_⟩
 ·rcases c with c|⟨rfl,rfl⟩
  ·obtain⟨p,n,r,q,m⟩:=h.obj b aD c;have d:=h.lt c;exact⟨p,n,AU,AU,m.mono hl⟩
  ·exact⟨o,o',Aa,Aa,k.mono hl⟩
 ·rcases x with x|⟨rfl,rfl⟩<;>rcases y with y|⟨j,i⟩
  ·exact h.one _ _ _ x y
  ·have:=(h.lt x).1;omega
  ·have:=(h.lt y).1;omega
  grind
 ·rcases x with x|⟨rfl,rfl⟩<;>rcases y with y|⟨j,i⟩
  ·exact h.inj _ _ _ x y
  ·have:=(h.lt x).2;omega
  ·have:=(h.lt y).2;omega
  grind
 ·rcases c with c|⟨rfl,rfl⟩
  ·have d:=h.lt c;have e:({w with heap:=w.heap.push o}:World).heap[b]?=w.heap[b]?:=AU;rw[e];exact h.still b aD c fun x=>f (.inl x)
  ·exact absurd K0 f
theorem au.new(f:il C ρ o o'):au C ρ (fun σ n d=>σ.rel n d/\σ.mine d) (Go.newObj o) (Go.newObj o'):=by intro S w w' e _ _;refine⟨ρ.new w.heap.size w'.heap.size,{w' with heap:=w'.heap.push o'},.ok ⟨.inr ⟨rfl,rfl⟩,.inr rfl⟩ (e.alloc f),?_,fun es=>⟨#[],by simp[Sem.events,Go.newObj,Sem.runT],Aa⟩⟩;refine⟨ay.Wg _ _ _,fun b c=>c.imp id (fun x=>Ay),Aa,fun b c=>c.imp id (fun x=>AU),fun a b c=>c.imp id (fun x=>Ay),fun b c _=>?_,rfl,rfl,rfl,Nat.le_refl _⟩;grind
theorem au.shape(h:ρ.rel r c5):au C ρ (fun _ s b=>s=b) (Go.shape r) (Go.shape c5):=by
 intro S w w' a _ _;refine⟨ρ,w',?_,.refl _ _,fun es=>⟨#[],by simp[Sem.events,Go.shape,Sem.runT],Aa⟩⟩;refine .ok ?_ a;obtain⟨o,o',g,f,d⟩:=a.obj r c5 h;unfold World.shape?;rw[g,f];cases d with
 |cells e i hF=>simp[i.size]
 |qa c=>cases o'<;>first|exact c.elim|rfl
 | _=>rfl
def afX(C:cU)(c5:Nat)(ρ:ay)(o o':Obj):Prop:=il C ρ o o'/\(∀c e fr,o≠ .cells c e fr)/\(ρ.mine c5\/(C.upd=false/\∃es k,o=.map es k)\/E9 o)
theorem au.getObj(h:ρ.rel r c5):au C ρ (afX C c5) (Go.getObj r) (Go.getObj c5):=by
 intro S w w' a q _;have f:∀c e fr,w.heap[r]?≠some (.cells c e fr):=by grind[Go.getObj,Sem.run,Good]
 obtain⟨o,o',t,s,j,v,u,n,i⟩:=a.other h f;have m:(Go.getObj r).run C.P w=.ok o w:=by grind[Go.getObj,Sem.run]
 have l:(Go.getObj c5).run C.Q w'=.ok o' w':=by simp_all[Go.getObj,Sem.run]
 refine⟨ρ,w',?_,.refl _ _,fun es=>⟨#[⟨.obj c5,false,false⟩],?_,?_⟩⟩
 ·rw[m,l];refine .ok ⟨j,fun c e fr x=>f c e fr AU,?_⟩ a;by_cases g:ρ.mine c5
  ·grind
  ·rcases a.still _ _ h g with⟨_,c,e,fr,b,_⟩|⟨p,es,k,b⟩|⟨o,b,hd⟩
   ·grind
   ·grind
   grind
 ·simp_all[Sem.events,Go.getObj,Sem.runT]
 ·intro e d;simp at d;subst d;exact⟨⟨_,h⟩,Aa,rfl⟩
theorem au.setObj(h:ρ.rel r c5)(g:ρ.mine c5)(k:il C ρ o o')(E:∀c e fr,o≠ .cells c e fr):au C ρ (fun _(_ _:Unit)=>True) (Go.setObj r o) (Go.setObj c5 o'):=by
 intro S w w' a u _;have n:∀c e fr,w.heap[r]?≠some (.cells c e fr):=by grind[Go.setObj,Sem.run,Good]
 obtain⟨p,D,z,y,v,B,A,t,_⟩:=a.other h n;have l:=a.lt h;have s:(Go.setObj r o).run C.P w=.ok () {w with heap:=w.heap.setIfInBounds r o}:=by grind[Go.setObj,Sem.run]
 have q:(Go.setObj c5 o').run C.Q w'=.ok () {w' with heap:=w'.heap.setIfInBounds c5 o'}:=by simp_all[Go.setObj,Sem.run]
 have m:o'.isChan=false:=by
  cases k with
  |qa x=>cases o'<;>first|exact x.elim|rfl
  | _=>rfl
 refine⟨ρ,{w' with heap:=w'.heap.setIfInBounds c5 o'},?_,?_,fun es=>⟨#[⟨.obj c5,true,false⟩],?_,?_⟩⟩
 ·rw[s,q];refine .ok trivial ⟨fun b aD d=>?_,a.one,a.inj,a.nV,a.sync,a.tape,a.env,a.lone,fun b aD d f=>?_⟩
  ·simp only[Array.getElem?_setIfInBounds];by_cases e:r=b
   ·subst e;have j:c5=aD:=a.one _ _ _ h d;grind
   ·have j:c5≠aD:=fun x=>e (a.inj _ _ _ (x▸h) d);rw[if_neg e,if_neg j];exact a.obj b aD d
  ·have e:r≠b:=fun x=>f (a.one _ _ _ h (x▸d)▸g);simp only[Array.getElem?_setIfInBounds,if_neg e];exact a.still b aD d f
 ·refine⟨ay.le_refl _,fun _ h=>.inl h,Aa,fun _ h=>.inl h,fun _ _ h=>.inl h,fun b d f=>?_,rfl,rfl,rfl,Nat.le_refl _⟩;grind
 ·simp_all[Sem.events,Go.setObj,Sem.runT]
 ·intro e i;simp at i;subst i;exact⟨⟨_,h⟩,fun _=>g,rfl⟩
theorem au.choose(q:Question):au C ρ (fun _ a b=>a=b) (Go.choose q) (Go.choose q):=by
 intro S w w' c _ f;by_cases d:q.forced=true
 ·refine⟨ρ,w',?_,.refl _ _,fun es=>⟨#[],by simp[Sem.events,Go.choose,Sem.runT,d],Aa⟩⟩;simp only[Go.choose,Sem.run,d,if_true];exact .ok rfl c
 ·refine⟨ρ,{w' with drawn:=w'.drawn+1},?_,?_,fun es=>⟨#[],by simp[Sem.events,Go.choose,Sem.runT,d],Aa⟩⟩
  ·simp only[Go.choose,Sem.run,d,lr]at f⊢;refine .ok ?_ ⟨c.obj,c.one,c.inj,c.nV,?_,fun j q g=>?_,c.env,c.lone,c.still⟩
   ·have:=c.tape 0 q AU;grind
   ·have:=c.sync;grind
   ·have e:w'.drawn+(j+1)<S.bound:=by grind
    have:=c.tape (j+1) q e;grind
  ·exact⟨ay.le_refl _,fun _ h=>.inl h,Nat.le_refl _,fun _ h=>.inl h,fun _ _ h=>.inl h,fun _ _ _=>rfl,rfl,rfl,rfl,Nat.le_succ _⟩
theorem au.program:au C ρ (fun _ p q=>p=C.P/\q=C.Q) Go.program Go.program:=by intro S w w' a _ _;exact⟨ρ,w',.ok ⟨rfl,rfl⟩ a,.refl _ _,fun es=>⟨#[],by simp[Sem.events,Go.program,Sem.runT],Aa⟩⟩
theorem au.noRoom:au C ρ (fun _(_ _:Unit)=>True) (Go.mark .noRoom) (Go.mark .noRoom):=by intro S w w' b _ _;refine⟨ρ,w',.ok trivial b,.refl _ _,fun es=>⟨#[⟨.mark .noRoom,false,true⟩],by simp[Sem.events,Go.mark,Sem.runT],?_⟩⟩;intro e a;simp at a;subst a;trivial
theorem au.afY:au C ρ (fun _ a b=>a=b) (Go.sys .env) (Go.sys .env):=by
 intro S w w' c _ _;refine⟨ρ,w',?_,.refl _ _,fun es=>⟨#[⟨.output,true,false⟩],by simp[Sem.events,Go.sys,Sem.runT],?_⟩⟩
 ·show E_ C S ρ _ (.ok (SysRet.strings w.os.env) w) (.ok (SysRet.strings w'.os.env) w') w';exact .ok (by rw[c.env]) c
 ·intro e d;simp at d;subst d;trivial
theorem au.extern(f:FuncId):au C ρ (fun _(_ _:Unit)=>True) (Go.mark (.extern f)) (Go.mark (.extern f)):=by intro S w w' b _ _;refine⟨ρ,w',.ok trivial b,.refl _ _,fun es=>⟨#[⟨.mark (.extern f),false,true⟩],by simp[Sem.events,Go.mark,Sem.runT],?_⟩⟩;intro e a;simp at a;subst a;trivial
theorem au.askRoom(n:Nat):au C ρ (fun _(_ _:Unit)=>True) (Go.askRoom n) (Go.askRoom n):=by
 unfold Go.askRoom;split
 ·exact .noRoom
 ·exact .pure trivial
end
end
variable {c':Array Value}
section
attribute [-simp] Sem.runT_eq
def cU.cz(C:cU):Prop:=C.P.toTables=C.Q.toTables
def cU.wU(C:cU):Prop:=∀t i v,C.P.info? t=some i->i.zero=some v->je v
section
variable {C:cU} {ρ:ay}
theorem dC.add(h:dC ρ a a')(n:Nat):dC ρ (a.add n) (a'.add n):=by
 unfold Addr.add;split
 ·exact h
 ·exact⟨h.1,by simp[h.2.1],rfl⟩
theorem au.cut{ar aQ γ Hw:Type}{R:ay->γ->Hw->Prop}{m:Sem ar}{a:Sem aQ}{f:ar->Sem γ}{f':aQ->Sem Hw}(h:au C ρ (fun _ _ _=>False) m a):au C ρ R (m>>= f) (a>>= f'):=.bind h fun _ _ _ _ x=>x.elim
theorem au.typeInfo(d:C.cz)(t:TypeId):au C ρ (fun _ a b=>a=b/\C.P.info? t=some a) (Go.typeInfo t) (Go.typeInfo t):=by
 unfold Go.typeInfo;refine .bind .program fun σ p q _⟨f,c⟩=>?_;subst f;subst c;have e:C.Q.info? t=C.P.info? t:=by unfold Tables.info?;rw[d]
 grind[stuck,pure]
theorem au.underlying(d:C.cz)(t:TypeId):au C ρ (fun _ a b=>a=b/\C.P.underlying t=some a) (Go.underlying t) (Go.underlying t):=by
 unfold Go.underlying;refine .bind .program fun σ p q _⟨f,c⟩=>?_;subst f;subst c;have e:C.Q.underlying t=C.P.underlying t:=by unfold Program.underlying Tables.info?;rw[d]
 grind[stuck,pure]
theorem au.zeroValue(d:C.cz)(c:C.wU)(t:TypeId):au C ρ (fun _ a b=>a=b/\je a) (Go.zeroValue t) (Go.zeroValue t):=by unfold Go.zeroValue;refine .bind (au.typeInfo d t) fun σ i j _⟨f,e⟩=>?_;subst f;cases h:i.zero with|none=>exact .unsupported|some v=>exact .pure ⟨rfl,c t i v e h⟩
theorem au.sizeOf(c:C.cz)(t:TypeId):au C ρ (fun _ a b=>a=b) (Go.sizeOf t) (Go.sizeOf t):=by unfold Go.sizeOf;exact .bind (au.typeInfo c t) fun σ i j _⟨d,e⟩=>.pure (by rw[d])
theorem au.isAgg(c:C.cz)(t:TypeId):au C ρ (fun _ a b=>a=b) (Go.isAgg t) (Go.isAgg t):=by unfold Go.isAgg;refine .bind (au.underlying c t) fun σ i j _⟨e,d⟩=>?_;grind[pure]
theorem au.loadCellsFrom(r:dC ρ a a')(n:Nat):∀(i:Nat){acc b:Array Value},a3 ρ acc b->au C ρ a3 (Go.loadCellsFrom a i n acc) (Go.loadCellsFrom a' i n b):=by induction n generalizing ρ with|zero=>intro i acc b h;exact .pure h|succ n c=>intro i acc b h;simp only[Go.loadCellsFrom];exact .bind (au.load (r.add i)) fun σ v v' hl d=>c (r.mono hl) (i+1) ((h.mono hl).push d)
theorem au.loadCells(r:dC ρ a a')(n:Nat):au C ρ a3 (Go.loadCells a n) (Go.loadCells a' n):=au.loadCellsFrom r n 0 (.nil ρ)
theorem au.storeCells(r:dC ρ a a'){l aW:List Value}(h:dJ (aA ρ) l aW):∀(i:Nat),au C ρ (fun _(_ _:Unit)=>True) (Go.storeCells a l i) (Go.storeCells a' aW i):=by induction l generalizing ρ aW with|nil=>intro i;cases h;exact .pure trivial|cons x l b=>intro i;cases h with|cons c ht=>simp only[Go.storeCells];exact .bind (au.store (r.add i) c) fun σ _ _ hl _=>b (r.mono hl) (ht.mono fun _ _ y=>y.mono hl) (i+1)
theorem au.loadVar(d:C.cz)(t:TypeId)(r:dC ρ a a'):au C ρ aA (Go.loadVar t a) (Go.loadVar t a'):=by
 unfold Go.loadVar;refine .bind (au.isAgg d t) fun σ b aD hl f=>?_;subst f;cases b
 ·exact au.load (r.mono hl)
 ·refine .bind (au.sizeOf d t) fun k n i g h=>?_;subst h;exact .bind (au.loadCells ((r.mono hl).mono g) n) fun j c c' _ e=>.pure (.ki e)
theorem au.storeVar(d:C.cz)(t:TypeId)(r:dC ρ a a')(b:aA ρ v v'):au C ρ (fun _(_ _:Unit)=>True) (Go.storeVar t a v) (Go.storeVar t a' v'):=by unfold Go.storeVar;refine .bind (au.sizeOf d t) fun σ n f hl e=>?_;subst e;have c:=b.cells.size;rw[<-c];exact .ite (fun _=>.cut .stuck) (fun _=>au.storeCells (r.mono hl) (dJ.Hs (b.cells.mono hl)) 0)
theorem au.newRow(e:TypeId)(h:a3 ρ c c'):au C ρ dC (Go.newRow e c) (Go.newRow e c'):=by unfold Go.newRow;exact .bind (au.new (.cells e h ⟨fun _ x=>x,fun _=>rfl⟩)) fun σ n b _ a=>.pure ⟨a.1,rfl,rfl⟩
theorem au.newVar(t:TypeId)(h:aA ρ v v'):au C ρ dC (Go.newVar t v) (Go.newVar t v'):=au.newRow t h.cells
theorem au.elemOf(c:C.cz)(t:TypeId):au C ρ (fun _ a b=>a=b) (Go.elemOf t) (Go.elemOf t):=by unfold Go.elemOf;refine .bind (au.underlying c t) fun σ i j _⟨e,d⟩=>?_;grind[stuck,pure]
theorem au.part(d:C.cz)(t:TypeId)(h:a3 ρ c c')(off:Nat):au C ρ aA (Go.part t c off) (Go.part t c' off):=by
 unfold Go.part;refine .bind (au.isAgg d t) fun σ b aD hl g=>?_;subst g;cases b
 ·simp only[Bool.false_eq_true,if_false];cases e:c[off]? with|none=>exact .stuck|some v=>obtain⟨v',a,f⟩:=h.some e;rw[a];exact .pure (f.mono hl)
 ·simp only[if_true];refine .bind (au.sizeOf d t) fun l n k i j=>?_;subst j;exact .pure (.ki (((h.mono hl).mono i).extract _ _))
theorem afZ(a:ρ.rel C.P.globals.size C.P.globals.size)(b:C.P.globals.size=C.Q.globals.size)(t:TypeId):aA ρ (typeHandle C.P t) (typeHandle C.Q t):=by unfold typeHandle;rw[<-b];exact .e7 ⟨a,rfl,rfl⟩
theorem au.af0{ar aQ:Type}{R:ay->ar->aQ->Prop}{m:Sem ar}{a:Sem aQ}(h:(∀g,g<=C.P.globals.size->ρ.rel g g)->au C ρ R m a):au C ρ R m a:=fun S w w' b c d=>h b.nV S w w' b c d
theorem au.runtimePanic(j:C.cz){ar aQ:Type}{R:ay->ar->aQ->Prop}(e:RuntimeError):au C ρ R (Go.runtimePanic e:Sem ar) (Go.runtimePanic e:Sem aQ):=by
 refine .af0 fun u=>?_;have A:C.P.globals.size=C.Q.globals.size:=by rw[j]
 have f:C.P.rt=C.Q.rt:=by rw[j]
 have l:∀{σ:ay}(s:String),aA σ (strVal s) (strVal s):=fun s=>.string _;unfold Go.runtimePanic;refine .bind .program fun σ p q hl⟨K,D⟩=>?_;subst K;subst D;have z:∀{g:ay},ay.le σ g->∀t,aA g (typeHandle C.P t) (typeHandle C.Q t):=fun k t=>afZ (k.1 _ _ (hl.1 _ _ (u _ Jr))) A t;simp only[];cases e with
 |bounds x y s c=>rw[<-f];exact .goPanic (.iface _ (je.rel (.agg fun i v h=>by
  match i,h with
  |0,h=>simp at h;subst h;exact .int _ _
  |1,h=>simp at h;subst h;exact .int _ _
  |2,h=>simp at h;subst h;exact .bool _
  |3,h=>simp at h;subst h;exact .int _ _
  |i+4,h=>grind) _))
 |error m=>rw[<-f];exact .goPanic (.iface _ (l _))
 |plain m=>rw[<-f];exact .goPanic (.iface _ (l _))
 |nilDeref=>rw[<-f];exact .goPanic (.iface _ (l _))
 |typeAssertion i c a m=>
  rw[<-f];refine .bind (au.elemOf j _) fun g x b5 k n=>?_;subst n;refine .bind (au.newVar x ?_) fun B r c5 _ o=>.goPanic (.iface _ (.e7 o));have J:∀{a b c d a' aD c' w:Value},aA g a a'->aA g b aD->aA g c c'->aA g d w->a3 g #[a,b,c,d] #[a',aD,c',w]:=fun I H F E=>by simpa using a3.append (a3.append (a3.append (a3.one I) (a3.one H)) (a3.one F)) (a3.one E)
  cases i<;>cases c<;>exact .ki (J (by first|exact .lP|grind) (by first|exact .lP|grind) (z k _) (l _))
 |panicNil=>rw[<-f];refine .bind (au.elemOf j _) fun g x b5 k n=>?_;subst n;exact .bind (au.newVar x (.ki (.nil _))) fun B r c5 _ o=>.goPanic (.iface _ (.e7 o))
 |unhashable t=>rw[<-f];exact .goPanic (.iface _ (.ki (.one (z (ay.le_refl _) t))))
theorem au.boundsPanic(e:C.cz){ar aQ:Type}{R:ay->ar->aQ->Prop}(k:IntKind)(x y:Int)(code:BoundsCode):au C ρ R (Go.boundsPanic k x y code:Sem ar) (Go.boundsPanic k x y code:Sem aQ):=by
 unfold Go.boundsPanic;simp only[];split
 ·refine .bind (R:=fun _ a b=>a=b) ?_ fun σ s c _ d=>by grind[au.runtimePanic]
  exact .bind (f:=fun a=>Pure.pure (a==1)) (f':=fun a=>Pure.pure (a==1)) (au.choose _) fun σ a b _ h=>.pure (by rw[h])
 grind[au.runtimePanic]
theorem au.asIntOf(h:aA ρ v v'):au C ρ (fun _ a b=>a=b) (Go.asIntOf v) (Go.asIntOf v'):=by cases h<;>first|exact .pure rfl|exact .unsupported|exact .stuck
theorem au.asInt(h:aA ρ v v'):au C ρ (fun _ a b=>a=b) (Go.asInt v) (Go.asInt v'):=by unfold Go.asInt;exact .bind (au.asIntOf h) fun σ a b _ h=>.pure (by rw[h])
theorem au.asBool(h:aA ρ v v'):au C ρ (fun _ a b=>a=b) (Go.asBool v) (Go.asBool v'):=by cases h<;>first|exact .pure rfl|exact .stuck
theorem au.asAddr(a:C.cz)(h:aA ρ v v'):au C ρ dC (Go.asAddr v) (Go.asAddr v'):=by cases h with|e7 h=>exact .pure h|lP=>exact(au.runtimePanic a .nilDeref:au C ρ dC (Go.runtimePanic .nilDeref:Sem Addr) (Go.runtimePanic .nilDeref:Sem Addr))| _=>exact .stuck
end
end
variable {z:Array Value}{b5:Value}{a8:Array (Nat×Operand)}{AC:Array (Nat×Value)}
section
attribute [-simp] Sem.runT_eq
section
variable {C:cU} {ρ:ay}
theorem PJ(h:aA ρ v v'):au C ρ dC (Instr.sureAddr v) (Instr.sureAddr v'):=by cases h with|e7 h=>exact .pure h| _=>exact .stuck
theorem af2(b:C.cz)(t:TypeId)(h:aA ρ v v'):au C ρ aA (Instr.loadAt t v) (Instr.loadAt t v'):=by unfold Instr.loadAt;exact .bind (PJ h) fun σ a a' _ r=>au.loadVar b t r
theorem af3(c:C.cz)(t:TypeId)(h:aA ρ v v')(b:aA ρ x b5):au C ρ (fun _(_ _:Unit)=>True) (Instr.storeAt t v x) (Instr.storeAt t v' b5):=by unfold Instr.storeAt;exact .bind (PJ h) fun σ a a' hl r=>au.storeVar c t r (b.mono hl)
theorem af4(c:C.cz)(b:C.wU)(t:TypeId):au C ρ aA (Instr.alloc t true (.tuple #[])) (Instr.alloc t true (.tuple #[])):=by unfold Instr.alloc;refine .bind (au.zeroValue c b t) fun σ v v' _⟨e,d⟩=>?_;subst e;exact .bind (au.newVar t (d.rel σ)) fun f a a' _ r=>.pure (.e7 r)
theorem af5(t:TypeId)(h:aA ρ v v'):au C ρ aA (Instr.box t v) (Instr.box t v'):=by unfold Instr.box;exact .bind (au.newVar t h) fun b a a' _ r=>.pure (.e7 r)
theorem af6(off:Nat):∀(l aW:List Value)(j:Nat){c c':Array Value},dJ (aA ρ) l aW->a3 ρ c c'->
 a3 ρ ((l.zipIdx j).foldl (fun cs(p:Value×Nat)=>cs.setIfInBounds (off+p.2) p.1) c) ((aW.zipIdx j).foldl (fun cs(p:Value×Nat)=>cs.setIfInBounds (off+p.2) p.1) c'):=by
 intro l;induction l with|nil=>intro aW j c c' h a;cases h;exact a|cons x l b=>intro aW j c c' h a;cases h with|cons d ht=>simp only[List.zipIdx_cons,List.foldl_cons];exact b _ (j+1) ht (a.set d _)
theorem af7(off:Nat){a a':Array Value}(h:a3 ρ a a')(b:a3 ρ c c'):
 a3 ρ (a.zipIdx.foldl (fun cs(x:Value×Nat)=>cs.setIfInBounds (off+x.2) x.1) c) (a'.zipIdx.foldl (fun cs(x:Value×Nat)=>cs.setIfInBounds (off+x.2) x.1) c'):=by
 have e:∀(a c:Array Value),a.zipIdx.foldl (fun cs(x:Value×Nat)=>cs.setIfInBounds (off+x.2) x.1) c=(a.toList.zipIdx 0).foldl (fun cs(p:Value×Nat)=>cs.setIfInBounds (off+p.2) p.1) c:=fun a c=>by rw[<-Array.foldl_toList];simp
 simp_all[af6,dJ.Hs]
def uA(ρ:ay)(p bg:Nat×Value):Prop:=p.1=bg.1/\aA ρ p.2 bg.2
theorem PK(place:Nat->Option (Nat×Nat)):∀(l aW:List (Nat×Value)){c c':Array Value},dJ (uA ρ) l aW->a3 ρ c c'->
 (Instr.fill place c l=none/\Instr.fill place c' aW=none)\/∃x b5,Instr.fill place c l=some x/\Instr.fill place c' aW=some b5/\a3 ρ x b5:=by
 intro l;induction l with
 |nil=>intro aW c c' h a;cases h;exact .inr ⟨c,c',rfl,rfl,a⟩
 |cons p l e=>
  intro aW c c' h a;cases h with
  |@cons _ g _ aW f ht=>
   obtain⟨i,v⟩:=p;obtain⟨d,v'⟩:=g;obtain⟨rfl,b⟩:i=d/\aA ρ v v':=f;simp only[Instr.fill];cases j:place i with
   |none=>grind
   |some os=>
    obtain⟨off,size⟩:=os;simp only[];rw[<-b.cells.size,<-a.size];split
    ·grind
    ·exact e _ ht (af7 off b.cells a)
theorem af8{f f':Operand->Value}(h:∀p∈a8,aA ρ (f p.2) (f' p.2)):dJ (uA ρ) (a8.map fun(i,x)=>(i,f x)).toList (a8.map fun(i,x)=>(i,f' x)).toList:=by obtain⟨l⟩:=a8;simp only[List.map_toArray];induction l with|nil=>exact .nil|cons p l a=>obtain⟨i,x⟩:=p;exact .cons ⟨rfl,h (i,x) Aa⟩ (a fun q b=>h q AU)
theorem af9{ar aQ:Type}{f f':ar->Sem aQ}(h:∀(ρ:ay) a,au C ρ (fun _ x y=>x=y) (f a) (f' a)):∀(l:List ar)(ρ:ay),au C ρ (fun _ x y=>x=y) (l.mapM f) (l.mapM f'):=by intro l;induction l with|nil=>intro ρ;simp only[List.mapM_nil];exact .pure rfl|cons a l b=>intro ρ;simp only[List.mapM_cons];exact .bind (h ρ a) fun σ x y _ e=>by subst e;exact .bind (b σ) fun c x y _ e=>by subst e;exact .pure rfl
theorem af_{ar aQ:Type}{f f':ar->Sem aQ}(h:∀(ρ:ay) a,au C ρ (fun _ x y=>x=y) (f a) (f' a))(l:Array ar):au C ρ (fun _ x y=>x=y) (l.mapM f) (l.mapM f'):=by
 have e:∀g:ar->Sem aQ,l.mapM g=(do pure (<-l.toList.mapM g).toArray):=fun g=>by rw[Array.mapM_eq_mapM_toList];rfl
 rw[e,e];exact .bind (af9 h l.toList ρ) fun σ x y _ e=>.pure (by rw[e])
theorem aga(k:C.cz)(s:C.wU)(t:TypeId){a8:Array (Nat×Value)}(h:dJ (uA ρ) a8.toList AC.toList):au C ρ aA (Instr.build t a8) (Instr.build t AC):=by
 unfold Instr.build;refine .bind (au.zeroValue k s t) fun σ z F hl⟨v,q⟩=>?_;subst v;refine .bind (au.underlying k t) fun p d E w⟨u,D⟩=>?_;subst u;have r:=dJ.mono (fun a b(x:uA ρ a b)=>(⟨x.1,(x.2.mono hl).mono w⟩:uA p a b)) h;cases d with
 |struct fields=>
  simp only[];refine .bind (R:=fun _ x y=>x=y) (af_ (fun ρ f=>.bind (au.sizeOf k _) fun σ a b _ e=>.pure (by rw[e])) fields) fun c pl A m e=>?_;subst e;have l:=dJ.mono (fun a b(x:uA p a b)=>(⟨x.1,x.2.mono m⟩:uA c a b)) r;rcases PK (ρ:=c) (fun i=>pl[i]?) a8.toList AC.toList l (q.cells.rel c)with⟨j,g⟩|⟨x,b5,j,g,o⟩
  ·rw[j,g];exact .stuck
  ·rw[j,g];exact .pure (.ki o)
 |array n elem=>
  simp only[];refine .bind (au.sizeOf k elem) fun c n B m e=>?_;subst e;have l:=dJ.mono (fun a b(x:uA p a b)=>(⟨x.1,x.2.mono m⟩:uA c a b)) r;rcases PK (ρ:=c) (fun i=>some (i*n,n)) a8.toList AC.toList l (q.cells.rel c)with⟨j,g⟩|⟨x,b5,j,g,o⟩
  ·rw[j,g];exact .stuck
  ·rw[j,g];exact .pure (.ki o)
 | _=>exact .stuck
theorem agb:je (default:Value):=.bool _
theorem kG.PL(h:kG z)(n:Nat):kG ((Array.range n).map (z[· % z.size]!)):=by
 intro i v a;simp only[Array.getElem?_map,Array.getElem?_range]at a;split at a
 ·simp only[Option.map_some,Option.some.injEq]at a;subst a;by_cases b:i % z.size<z.size
  ·rw[getElem!_pos z _ b];exact h _ _ (Array.getElem?_eq_getElem b)
  grind[agb]
 grind
theorem agc(j:C.cz)(o:C.wU)(t:TypeId)(len:Nat){a8:Array (Nat×Value)}(h:dJ (uA ρ) a8.toList AC.toList):au C ρ aA (Instr.buildSlice t len a8) (Instr.buildSlice t len AC):=by
 unfold Instr.buildSlice;refine .bind (au.underlying j t) fun σ d F hl⟨w,E⟩=>?_;subst w;cases d with
 |slice elem=>
  simp only[];refine .bind (au.sizeOf j elem) fun H n D A e=>?_;subst e;refine .ite (fun u=>.cut .unsupported) (fun u=>?_);refine .ite (fun _=>.bind (R:=fun _ x y=>x=y/\kG x) (.pure ⟨rfl,fun i v h=>AU⟩) fun g z B f⟨e,l⟩=>?_)
   (fun _=>.bind (au.zeroValue j o elem) fun I y im p⟨c,q⟩=>.bind (R:=fun _ x y=>x=y/\kG x) (.pure ⟨by rw[c],q.cells⟩) fun g z B f⟨e,l⟩=>?_)
  all_goals
   subst e;first|replace f:=ay.le_trans p f|skip
   have m:=dJ.mono (fun a b(x:uA ρ a b)=>(⟨x.1,x.2.mono (ay.le_trans (ay.le_trans hl A) f)⟩:uA g a b)) h;rcases PK (ρ:=g) (fun i=>some (i*n,n)) a8.toList AC.toList m ((l.PL (len*n)).rel g)with⟨c,k⟩|⟨x,b5,c,k,s⟩
   ·rw[c,k];exact .stuck
   ·rw[c,k];exact .bind (au.newRow elem s) fun _ a a' _ r=>.pure (.slice len len r)
 | _=>exact .stuck
end
end
section
attribute [-simp] Sem.runT_eq
section
variable {C:cU} {ρ:ay}
theorem Fb(a:C.cz)(t:TypeId):C.Q.info? t=C.P.info? t:=by unfold Tables.info?;rw[a]
theorem Cu(a:C.cz)(t:TypeId):C.Q.underlying t=C.P.underlying t:=by grind[Program.underlying,Fb]
theorem Cv(a:C.cz)(t:TypeId):C.Q.cellsOf t=C.P.cellsOf t:=by grind[Program.cellsOf,Fb]
theorem Lh(a:C.cz)(t:TypeId):C.Q.bytesOf t=C.P.bytesOf t:=by grind[Program.bytesOf,Fb]
theorem Fc(a:C.cz):C.Q.depth=C.P.depth:=by unfold Program.depth;rw[a]
theorem Wh(b:C.cz):∀(d:Nat)(t:TypeId)(off:Nat),byteOfCell C.Q d t off=byteOfCell C.P d t off:=by intro d;induction d with|zero=>intro t off;rfl|succ d a=>grind[byteOfCell,Cu,Cv,Lh]
theorem Wi(h:ρ.rel r c5):au C ρ (fun _ a b=>a=none/\b=none) (viewAt r) (viewAt c5):=by
 unfold viewAt;refine .bind (au.shape h) fun σ s g hl e=>?_;subst e;refine .ite (fun _=>.pure ⟨rfl,rfl⟩) (fun _=>?_);refine .bind (au.getObj (hl.1 _ _ h)) fun i o o' _ f=>?_;obtain⟨d,j,_⟩:=f;cases d with
 |qa c=>cases o'<;>first|exact c.elim|exact .pure ⟨rfl,rfl⟩
 | _=>exact .pure ⟨rfl,rfl⟩
theorem agd(h:dC ρ a a'):au C ρ (fun _(_ _:Unit)=>True) (noView a) (noView a'):=by unfold noView;refine .bind (Wi h.1) fun σ s d hl⟨c,b⟩=>?_;subst c;subst b;exact .pure trivial
theorem Cw(c:C.cz)(h:dC ρ a a'):au C ρ (fun _ x y=>x=y) (byteOf a) (byteOf a'):=by unfold byteOf;rw[<-h.2.2];cases m:a.spot with|some s=>exact .pure rfl|none=>simp only[];refine .bind .program fun σ p q hl⟨i,d⟩=>?_;subst i;subst d;refine .bind (agd (h.mono hl)) fun o _ _ g _=>?_;refine .bind (au.shape (g.1 _ _ (hl.1 _ _ h.1))) fun l s j k e=>?_;subst e;cases s with|none=>exact .stuck|some f=>obtain⟨e,n⟩:=f;simp only[Cv c,Lh c,Wh c,Fc c];refine .ite (fun _=>.pure rfl) (fun _=>?_);rw[<-h.2.1];cases byteOfCell C.P C.P.depth e (a.off % C.P.cellsOf e)with|none=>exact .stuck|some b=>exact .pure rfl
theorem age(c:C.cz)(h:dC ρ a a')(cells bytes:Nat):au C ρ dC (partAt a cells bytes) (partAt a' cells bytes):=by
 unfold partAt;refine .bind (Cw c h) fun σ x b5 hl e=>?_;subst e;have b:dC σ {block:=a.block,off:=a.off+cells} {block:=a'.block,off:=a'.off+cells}:=⟨hl.1 _ _ h.1,by simp[h.2.1],rfl⟩;refine .bind (Cw c b) fun f y im d e=>?_;subst e;refine .pure ?_;split
 ·exact b.mono d
 ·exact⟨d.1 _ _ b.1,b.2.1,rfl⟩
theorem agf(b:C.cz)(h:dC ρ a a')(f:Field):au C ρ dC (fieldPlace a f) (fieldPlace a' f):=by unfold fieldPlace;refine .bind (au.sizeOf b _) fun σ n c hl e=>?_;subst e;exact .ite (fun _=>age b (h.mono hl) _ _) (fun _=>.pure ((h.mono hl).add _))
theorem agh(c:C.cz)(s:TypeId)(h:aA ρ v v')(field:Nat):au C ρ aA (Instr.fieldAt s v field) (Instr.fieldAt s v' field):=by
 unfold Instr.fieldAt;refine .bind (au.underlying c s) fun σ d k hl⟨e,_⟩=>?_;subst e;cases d with
 |struct fields=>simp only[];cases fields[field]? with|none=>exact .stuck|some f=>simp only[];refine .bind (PJ (h.mono hl)) fun l a a' j r=>?_;exact .bind (agf c r f) fun i b aD _ g=>.pure (.e7 g)
 | _=>exact .stuck
def AD(P:Program)(t:TypeId):Bool:=
 match P.underlying t with
 |some (.slice _)=>true
 | _=>false
theorem agi(c:C.cz)(t:TypeId)(ht:AD C.P t=true){i h:Value}(m:aA ρ x b5)(hi:aA ρ i h):au C ρ aA (Instr.indexAt t x i) (Instr.indexAt t b5 h):=by
 unfold Instr.indexAt;refine .bind (au.asIntOf hi) fun σ A v hl e=>?_;subst e;refine .bind (au.underlying c t) fun z d u o⟨e,hd⟩=>?_;subst e;have j:=(m.mono hl).mono o;have k:=j;simp only[AD,hd]at ht;cases d with
 |slice elem=>
  cases j<;>first|exact .stuck|skip
  all_goals
   refine .bind (R:=fun _ a b=>a=_/\b=_) (.pure ⟨rfl,rfl⟩) fun w p q f⟨e,s⟩=>?_;subst e;subst s;refine .bind (au.underlying c t) fun w d u g⟨e,_⟩=>?_;subst e
  ·exact au.boundsPanic c _ _ _ _
  ·cases k;rename_i r;replace f:=ay.le_trans f g;refine .ite (fun _=>.bind (au.sizeOf c elem) fun B n y l e=>?_) (fun _=>.ite (fun _=>.unsupported) (fun _=>au.boundsPanic c _ _ _ _));subst e;exact .pure (.e7 (((r.mono f).mono l).add _))
 | _=>cases ht
end
end
variable {Fe Ff bB hi kh lo:Option Value}
section
attribute [-simp] Sem.runT_eq
inductive qe{ar aQ:Type}(R:ar->aQ->Prop):Option ar->Option aQ->Prop
 |none:qe R none none
 |some {a:ar} {b:aQ} (h:R a b):qe R (some a) (some b)
theorem qe.mono{ar aQ:Type}{R S:ar->aQ->Prop}(hl:∀a b,R a b->S a b){a:Option ar}{b:Option aQ}(h:qe R a b):qe S a b:=by cases h with|none=>exact .none|some h=>exact .some (hl _ _ h)
abbrev yd(ρ:ay):=qe (aA ρ)
theorem yd.mono{ρ σ:ay}(hl:ay.le ρ σ){a b:Option Value}(h:yd ρ a b):yd σ a b:=qe.mono (fun _ _ x=>x.mono hl) h
theorem qe.isSome{ar aQ:Type}{R:ar->aQ->Prop}{a:Option ar}{b:Option aQ}(h:qe R a b):a.isSome=b.isSome:=by cases h<;>rfl
section
variable {C:cU} {ρ:ay}
theorem Li(c:C.cz)(h:aA ρ x b5)(y:Nat)(code:BoundsCode):au C ρ (fun _ a b=>a=b) (Instr.sliceBound x y code) (Instr.sliceBound b5 y code):=by unfold Instr.sliceBound;refine .bind (au.asIntOf h) fun σ f d hl e=>?_;subst e;obtain⟨k,i⟩:=f;exact .ite (fun _=>.pure rfl) (fun _=>au.boundsPanic c _ _ _ _)
theorem agl(i:C.cz)(isSlice:Bool)(len cap:Nat)(p:yd ρ lo Fe)(n:yd ρ hi kh)(g:yd ρ bB Ff):
 au C ρ (fun _ a b=>a=b) (Instr.sliceBounds isSlice len cap lo hi bB) (Instr.sliceBounds isSlice len cap Fe kh Ff):=by
 unfold Instr.sliceBounds;have j:∀(σ:ay)(m h:Nat),ay.le ρ σ->au C σ (fun _ a b=>a=b)
  (do let l <-(match lo with|some v=>Instr.sliceBound v h (if bB.isSome then .slice3C else .sliceB)|none=>pure 0);pure (l,h,m))
  (do let l <-(match Fe with|some v=>Instr.sliceBound v h (if Ff.isSome then .slice3C else .sliceB)|none=>pure 0);pure (l,h,m)):=by
  intro σ m h hl;rw[g.isSome];cases p with|none=>exact .bind (R:=fun _ a b=>a=b) (.pure rfl) fun _ a b _ e=>.pure (by rw[e])|some c=>exact .bind (Li i (c.mono hl) _ _) fun _ a b _ e=>.pure (by rw[e])
 cases g with
 |none=>simp only[];refine .bind (R:=fun _ a b=>a=b) (.pure rfl) fun σ m o hl e=>?_;subst e;cases n with|none=>simp only[];refine .bind (R:=fun _ a b=>a=b) (.pure rfl) fun f h k d e=>?_;subst e;have:=j f m h (ay.le_trans hl d);grind|some c=>simp only[];refine .bind (Li i (c.mono hl) _ _) fun f h k d e=>?_;subst e;have:=j f m h (ay.le_trans hl d);grind
 |some c=>simp only[];refine .bind (Li i c _ _) fun σ m o hl e=>?_;subst e;cases n with|none=>refine .bind (R:=fun _ a b=>a=b) .stuck fun f h k d e=>?_;subst e;have:=j f m h (ay.le_trans hl d);grind|some c=>simp only[];refine .bind (Li i (c.mono hl) _ _) fun f h k d e=>?_;subst e;have:=j f m h (ay.le_trans hl d);grind
theorem agm(c:C.cz)(t:TypeId)(ht:AD C.P t=true)(m:aA ρ x b5)(l:yd ρ lo Fe)(q:yd ρ hi kh)(g:yd ρ bB Ff):
 au C ρ aA (Instr.sliceAt t x lo hi bB) (Instr.sliceAt t b5 Fe kh Ff):=by
 unfold Instr.sliceAt;refine .bind (au.underlying c t) fun σ d o hl⟨e,hd⟩=>?_;subst e;simp only[AD,hd]at ht;cases d with
 |slice elem=>
  unfold Instr.slice;refine .bind (au.underlying c t) fun p d o f⟨e,j⟩=>?_;subst e;rw[hd]at j;cases j;replace hl:=ay.le_trans hl f;have i:=m.mono hl;have k:=i;cases i<;>first|exact .stuck|skip
  all_goals
   refine .bind (agl c true _ _ (l.mono hl) (q.mono hl) (g.mono hl)) fun p a b f e=>?_;subst e;refine .bind (au.sizeOf c elem) fun u n s h e=>?_;subst e;refine .pure ?_
  ·split<;>exact .hA _ _
  ·cases k;rename_i r;split
   ·exact .slice _ _ ((r.mono f).mono h)
   ·exact .slice _ _ (((r.mono f).mono h).add _)
 | _=>cases ht
theorem agn(a:C.cz)(t:TypeId)(h:aA ρ x b5):au C ρ aA (Instr.makeInterface t x) (Instr.makeInterface t b5):=by unfold Instr.makeInterface;refine .bind (au.underlying a t) fun σ d b hl⟨e,_⟩=>?_;subst e;cases d<;>first|exact .stuck|exact .pure (.iface t (h.mono hl))
theorem ago(b:C.cz)(j:C.wU)(t:TypeId){l aW c c':Value}(h:aA ρ l aW)(k:aA ρ c c'):au C ρ aA (Instr.makeSlice t l c) (Instr.makeSlice t aW c'):=by
 unfold Instr.makeSlice;refine .bind (au.underlying b t) fun σ d L hl⟨e,_⟩=>?_;subst e;cases d with
 |slice elem=>
  simp only[];refine .bind (au.asInt (h.mono hl)) fun M n F p e=>?_;subst e;refine .bind (au.asInt ((k.mono hl).mono p)) fun J m H I e=>?_;subst e;refine .bind (au.typeInfo b elem) fun O i K E⟨e,_⟩=>?_;subst e;refine .ite (fun _=>.ite (fun _=>.cut (au.runtimePanic b _)) (fun _=>.ite (fun _=>.cut (au.runtimePanic b _)) (fun _=>.bind (au.choose _) fun N x y _ e=>by subst e;exact .cut (au.runtimePanic b _)))) (fun _=>?_);refine .bind (au.askRoom _) fun A _ _ _ _=>.bind (au.sizeOf b elem) fun w s D _ e=>?_;subst e;refine .ite (fun _=>.bind (R:=fun _ x y=>x=y/\kG x) (.pure ⟨rfl,fun i v h=>AU⟩) fun f z B _⟨e,g⟩=>?_)
   (fun _=>.bind (au.zeroValue b j elem) fun f y im _⟨q,o⟩=>.bind (R:=fun _ x y=>x=y/\kG x) (.pure ⟨by rw[q],o.cells⟩) fun u z B _⟨e,g⟩=>?_)
  all_goals
   subst e;exact .bind (au.newRow elem ((g.PL _).rel _)) fun _ a a' _ r=>.pure (.slice _ _ r)
 | _=>exact .stuck
theorem agq(h:aA ρ x b5)(i:Nat):au C ρ aA (Instr.extract x i) (Instr.extract b5 i):=by
 unfold Instr.extract;cases h with
 |@tuple a a' d h=>simp only[];cases c:a[i]? with|none=>exact .stuck|some v=>obtain⟨v',b,e⟩:=a3.some ⟨d,h⟩ c;rw[b];exact .pure e
 | _=>exact .stuck
theorem Wk(h:aA ρ x b5):au C ρ (fun _ a b=>a=b) (Builtin.lenOf x) (Builtin.lenOf b5):=by cases h<;>first|exact .pure rfl|exact .stuck
theorem Ll(size n:Nat)(h:aA ρ x b5):au C ρ a3 (Builtin.firstCells size n x) (Builtin.firstCells size n b5):=by
 cases h with
 |hA l c=>exact .pure (.nil ρ)
 |slice l c r=>exact au.loadCells r _
 |string s=>refine .pure ⟨rfl,fun i v v' a d=>?_⟩;rw[a]at d;cases d;simp only[Array.getElem?_map,Option.map_eq_some_iff]at a;obtain⟨b,_,rfl⟩:=a;exact .int _ _
 | _=>exact .stuck
theorem kG.zeroCells(h:kG z)(n:Nat):kG (Builtin.zeroCells z n):=h.PL _
end
end
variable {tL:Array Value}
section
attribute [-simp] Sem.runT_eq
section
variable {C:cU} {ρ:ay}
theorem PM(P:Program)(w:World)(a:Addr)(n:Nat):∃b,(Builtin.holdsCells a n).run P w=.ok b w:=by unfold Builtin.holdsCells;rw[np];simp only[Go.shape,Sem.run];cases w.shape? a.block<;>exact⟨_,rfl⟩
theorem agr(P:Program)(w:World)(size d n:Nat)(base:Option Addr)(x:Value):∃b,(Builtin.mayShare size d n base x).run P w=.ok b w:=by
 unfold Builtin.mayShare;cases base with
 |none=>
  simp only[];rw[np];simp only[Pure.pure,Sem.run,Bool.not_true,Bool.false_eq_true,if_false];split
  ·obtain⟨y,c⟩:=PM P w _ (n*size);exact⟨_,by rw[np,c];rfl⟩
  simp_all
 |some a=>
  simp only[];obtain⟨y,c⟩:=PM P w a (d*size);rw[np,c];simp only[];rw[np];simp only[Go.frozen,Sem.run];rw[np];simp only[Pure.pure,Sem.run];split
  ·simp_all
  ·split
   ·obtain⟨y,c⟩:=PM P w _ (n*size);exact⟨_,by rw[np,c];rfl⟩
   simp_all
theorem ags(f:C.cz)(q:C.wU)(ats:Array TypeId)(t:TypeId){args:Array Value}(h:a3 ρ args tL):au C ρ aA (Builtin.append_ ats t args) (Builtin.append_ ats t tL):=by
 unfold Builtin.append_;cases h0:ats[0]? with|none=>exact .stuck|some v=>
 cases O:args[0]? with|none=>exact .stuck|some s=>
 cases N:args[1]? with|none=>exact .stuck|some x=>
 obtain⟨Z,Q,J⟩:=h.some O;obtain⟨b5,P,j⟩:=h.some N;rw[Q,P];refine .bind (au.underlying f v) fun σ d d' hl⟨e,_⟩=>?_;subst e;cases d with
 |slice elem=>
  have B:=J.mono hl;replace j:=j.mono hl;have D:=B;cases B<;>first|exact .stuck|skip
  all_goals
   refine .bind (au.sizeOf f elem) fun b4 size _ l1 e=>?_;subst e;cases ats[1]?<;>try(refine .bind (au.underlying f _) fun l d _ g⟨e,_⟩=>?_;subst e;replace l1:=ay.le_trans l1 g)
  all_goals
   refine .bind (R:=fun _ a b=>a=b) (.pure rfl) fun l z _ g e=>?_;subst e;replace l1:=ay.le_trans l1 g;refine .ite (fun _=>.bind (au.asInt (j.mono l1)) fun E n _ g e=>?_) (fun _=>.bind (Wk (j.mono l1)) fun E n _ g e=>?_)
  all_goals
   subst e;replace l1:=ay.le_trans l1 g;try
    refine .ite (fun _=>.cut (au.runtimePanic f _)) (fun _=>.bind (au.typeInfo f elem) fun PN i _ p⟨e,_⟩=>?_);subst e;refine .ite (fun _=>.bind (au.choose _) fun _ _ _ _ e=>by subst e;exact .cut (au.runtimePanic f _)) (fun _=>.bind (R:=fun _ a b=>a=b) (.pure rfl) fun E k _ A e=>?_);subst e;replace l1:=ay.le_trans (ay.le_trans l1 p) A
  all_goals
   refine .ite (fun _=>.bind (.ite (fun _=>Ll _ _ (j.mono l1)) (fun _=>.ite (fun _=>.pure (.nil _)) (fun _=>.bind (au.zeroValue f q elem) fun l z H _⟨e,m⟩=>I9))) fun σ a a' hl u=>?_) (fun _=>.bind (au.typeInfo f elem) fun σ i I g⟨e,_⟩=>?_)
   ·have X:=D.mono (ay.le_trans l1 hl);cases X;first|exact .pure (.hA _ _)|skip
    all_goals
     rename_i r;exact .bind (au.storeCells (r.add _) (dJ.Hs u) 0) fun l _ _ g _=>.pure (.slice _ _ (r.mono g))
   ·subst e;refine .ite (fun _=>.cut (au.runtimePanic f _)) (fun _=>.bind (au.typeInfo f elem) fun PO i I p⟨e,_⟩=>?_);subst e;refine .ite (fun _=>.cut (.ite (fun _=>au.runtimePanic f _) (fun _=>.none fun w=>?_))) (fun _=>.bind (au.choose _) fun Cy c c' A e=>?_)
    ·obtain⟨b,M⟩:=agr C.P w size _ _ _ x;rw[np,M];cases b<;>exact id
    ·subst e;refine .bind (au.typeInfo f elem) fun Wm i _ Y⟨e,_⟩=>.bind (by subst e;exact au.askRoom _) fun S _ _ y _=>?_;replace l1:=ay.le_trans (ay.le_trans (ay.le_trans (ay.le_trans (ay.le_trans l1 g) p) A) Y) y;refine .bind (Ll _ _ (D.mono l1)) fun V o o' y L=>.bind (.ite (fun _=>Ll _ _ (j.mono (ay.le_trans l1 y))) (fun _=>.ite (fun _=>.pure (.nil _)) (fun _=>.bind (au.zeroValue f q elem) fun l z H _⟨e,m⟩=>I9))) fun U a a' W u=>.bind (au.zeroValue f q elem) fun T z H F⟨e,m⟩=>?_;subst e;exact .bind (au.newRow elem (((L.mono (ay.le_trans W F)).append (u.mono F)).append ((m.cells.zeroCells _).rel _))) fun _ r c5 _ K=>.pure (.slice _ _ K)
 | _=>exact .stuck
end
end
variable {aD b:Addr}
section
attribute [-simp] Sem.runT_eq
def zk(P:Program):Nat->TypeId->Bool
 |0,_=>true
 |d+1,t=>
  match P.underlying t with
  |some .bool|some (.int _)|some .string|some (.slice _)=>true
  |some (.struct fs)=>fs.all fun f=>zk P d f.type
  | _=>false
section
variable {C:cU} {ρ:ay}
abbrev cz{ar:Type}:ay->ar->ar->Prop:=fun _ a b=>a=b
theorem Wn{ar aQ:Type}{R:ay->ar->aQ->Prop}{m:Sem ar}{d:Sem aQ}(h:(∀a b aD,ρ.rel a b->ρ.rel a aD->b=aD)->(∀a a' b,ρ.rel a b->ρ.rel a' b->a=a')->(∀g,g<=C.P.globals.size->ρ.rel g g)->au C ρ R m d):au C ρ R m d:=
 fun S w w' c e f=>h c.one c.inj c.nV S w w' c e f
theorem Wo{ar aQ:Type}{c:ay}{f f':ar->aQ->Sem (ForInStep aQ)}(l:List ar)(h:∀(ρ:ay),ay.le c ρ->∀a∈l,∀s,au C ρ cz (f a s) (f' a s)):∀(ρ:ay),ay.le c ρ->∀(s:aQ),au C ρ cz (forIn l s f) (forIn l s f'):=by induction l with|nil=>intro ρ _ s;exact .pure rfl|cons a l d=>intro ρ hl s;simp only[List.forIn_cons];refine .bind (h ρ hl a Aa s) fun σ x y g e=>?_;subst e;cases x with|done b=>exact .pure rfl|yield b=>grind[ay.le_trans]
theorem Wq{ar aQ:Type}{f f':ar->aQ->Sem (ForInStep aQ)}(l:Array ar)(h:∀(σ:ay),ay.le ρ σ->∀a∈l,∀s,au C σ cz (f a s) (f' a s))(s:aQ):au C ρ cz (forIn l s f) (forIn l s f'):=by rw[<-Array.forIn_toList,<-Array.forIn_toList];exact Wo l.toList (fun ρ hl a b s=>h ρ hl a AU s) ρ (ay.le_refl _) s
theorem agv{aQ:Type}{f f':Nat->aQ->Sem (ForInStep aQ)}(n:Nat)(h:∀(σ:ay),ay.le ρ σ->∀i s,au C σ cz (f i s) (f' i s))(s:aQ):au C ρ cz (forIn [0:n] s f) (forIn [0:n] s f'):=by rw[Std.Legacy.Range.forIn_eq_forIn_range',Std.Legacy.Range.forIn_eq_forIn_range'];exact Wo _ (fun ρ hl a _ s=>h ρ hl a s) ρ (ay.le_refl _) s
theorem Wr(a:C.cz)(t:TypeId):C.Q.underlyingId t=C.P.underlyingId t:=by grind[Program.underlyingId,Fb]
theorem agw(b:C.cz):∀(n:Nat)(t u:TypeId),C.Q.alikeButTags n t u=C.P.alikeButTags n t u:=by intro n;induction n with|zero=>intro t u;rfl|succ n a=>simp_all[Program.alikeButTags,Fb]
theorem Lo(a:C.cz)(t:TypeId):C.Q.stoodInHeld t=C.P.stoodInHeld t:=by
 have e:C.Q.cutTypes=C.P.cutTypes:=by rw[a]
 unfold Program.stoodInHeld Program.stoodInAs;grind[Cu,agw,Wr,Fb,Fc]
abbrev agx(ρ:ay)(a b:Option (Addr×Bool)):Prop:=qe (fun x y=>dC ρ x.1 y.1/\x.2=y.2) a b
theorem agy(h:ρ.rel r c5):au C ρ agx (numberAt r) (numberAt c5):=by
 unfold numberAt;refine .bind (au.shape h) fun σ s d hl e=>?_;subst e;refine .ite (fun _=>.pure .none) (fun _=>?_);refine .bind (au.getObj (hl.1 _ _ h)) fun f o o' _ c=>?_;obtain⟨b,g,_⟩:=c;cases b with
 |qa a=>cases o'<;>first|exact a.elim|exact .pure .none
 |number h l=>exact .pure (.some ⟨h,rfl⟩)
 | _=>exact .pure .none
theorem AF(h:dC ρ a a'):au C ρ (fun σ x y=>dC σ x.1 y.1/\x.2=y.2) (behindNumber a) (behindNumber a'):=by unfold behindNumber;refine .bind (agy h.1) fun σ x y hl b=>.pure ?_;cases b with|none=>exact⟨h.mono hl,rfl⟩|some k=>exact k
theorem dC.Ws(one:∀a b aD,ρ.rel a b->ρ.rel a aD->b=aD)(inj:∀a a' b,ρ.rel a b->ρ.rel a' b->a=a')(h:dC ρ a a')(k:dC ρ b aD):(a==b)=(a'==aD)/\(a.block==b.block)=(a'.block==aD.block):=by obtain⟨b1,i,d⟩:=a;obtain⟨r,g,c⟩:=a';obtain⟨o,f,t⟩:=b;obtain⟨bS,e,s⟩:=aD;obtain⟨n,m,l⟩:=h;obtain⟨j,q,p⟩:=k;grind
theorem agz(j:C.cz):∀(d:Nat)(t:TypeId),zk C.P d t=true->∀(ρ:ay){x b5 y im:Value},aA ρ x b5->aA ρ y im->au C ρ cz (Op.equalIn d t x y) (Op.equalIn d t b5 im):=by
 intro d;induction d with
 |zero=>intro t _ ρ x b5 y im _ _;exact .unsupported
 |succ d S=>
  intro t ht ρ x b5 y im U T;unfold Op.equalIn;refine .bind (au.underlying j t) fun σ u M hl⟨e,V⟩=>?_;subst e;simp only[zk,V]at ht;have z:=U.mono hl;have g:=T.mono hl;cases u with
  |bool=>
   cases z with
   |bool a=>cases g with|bool b=>exact .pure rfl| _=>exact .stuck
   | _=>exact .stuck
  |int k=>
   cases z with
   |int E H=>
    cases g with
    |int B F=>exact .ite (fun _=>.pure rfl) (fun _=>.stuck)
    |e7 r=>
     cases H with
     |ofNat m=>cases m with|zero=>exact .pure rfl|succ m=>exact .unsupported
     |negSucc m=>exact .unsupported
    |lP=>
     cases H with
     |ofNat m=>cases m with|zero=>exact .unsupported|succ m=>exact .unsupported
     |negSucc m=>exact .unsupported
    | _=>exact .stuck
   |e7 r=>
    cases g with
    |int B F=>
     cases F with
     |ofNat m=>cases m with|zero=>exact .pure rfl|succ m=>exact .unsupported
     |negSucc m=>exact .unsupported
    |e7 O=>
     refine .bind (AF r) fun b4 p I l1⟨al,_⟩=>.bind (AF (O.mono l1)) fun PO q q' dv⟨W,_⟩=>.bind .program fun L r c5 D⟨w,n⟩=>?_;subst w;subst n;have A:=al.mono (ay.le_trans dv D);have K:=W.mono D;refine Wn fun one inj nV=>?_;have N:C.Q.globals.size=C.P.globals.size:=by rw[j]
     obtain⟨w,n⟩:=dC.Ws one inj A K;have e3:decide (p.1.block<C.P.globals.size)=decide (I.1.block<C.Q.globals.size):=by
      rw[N];have:p.1.block<C.P.globals.size↔I.1.block<C.P.globals.size:=by
       constructor
       ·intro h;have:=one _ _ _ (nV _ (Nat.le_of_lt h)) A.1;omega
       ·intro h;have:=inj _ _ _ (nV _ (Nat.le_of_lt h)) A.1;omega
      grind
     rw[<-n,<-e3,<-w];refine .ite (fun _=>.bind (Cw j A) fun Wm x b5 AE e=>.bind (Cw j (K.mono AE)) fun agu y im _ fQ=>.pure AU) (fun _=>.bind (au.typeInfo j t) fun Wm i ix _⟨e,_⟩=>?_);subst e;split
     ·exact .ite (fun _=>.pure rfl) (fun _=>.unsupported)
     ·exact .unsupported
    | _=>exact .unsupported
   |lP=>cases g<;>exact .unsupported
   | _=>cases g<;>first|exact .stuck|exact .unsupported
  |string=>
   cases z with
   |string a=>cases g with|string b=>exact .pure rfl| _=>exact .stuck
   | _=>exact .stuck
  |slice e=>
   cases z with
   |hA l c=>cases g with|hA l c=>exact .pure rfl|slice l c r=>exact .pure rfl| _=>exact .stuck
   |slice l c r=>cases g with|hA l c=>exact .pure rfl|slice l c r=>exact .stuck| _=>exact .stuck
   | _=>exact .stuck
  |struct fields=>
   cases z with
   |agg P Z=>
    cases g with
    |agg Q Y=>
     simp only[Array.all_eq_true_iff_forall_mem]at ht;refine .bind .program fun b4 p q l1⟨w,n⟩=>?_;subst w;subst n;rw[Lo j];refine .ite (fun _=>.cut .unsupported) (fun _=>?_)
     ·refine .bind (Wq fields (fun cT lt f X s=>.ite (fun _=>?_) (fun _=>.pure rfl)) _) fun L x y _ e=>by subst e;obtain⟨o,_⟩:=x;cases o<;>exact(.pure rfl:au C L cz (Pure.pure _) (Pure.pure _))
      have J:=ay.le_trans l1 lt;exact .bind (au.part j _ (a3.mono J ⟨P,Z⟩) _) fun Wu u M E HG=>.bind (au.part j _ (a3.mono (ay.le_trans J E) ⟨Q,Y⟩) _) fun HH v v' B R=>
       .bind (S _ (ht f X) HH (HG.mono B) R) fun PN b aD _ e=>Fa
    | _=>exact .stuck
   | _=>exact .stuck
  | _=>cases ht
end
end
section
attribute [-simp] Sem.runT_eq
section
variable {C:cU} {ρ:ay}
theorem a3.two{a b a' aD:Value}(h:aA ρ a a')(k:aA ρ b aD):a3 ρ #[a,b] #[a',aD]:=by simpa using a3.append (a3.one h) (a3.one k)
theorem agA(b:C.cz)(ats:Array TypeId)(t:TypeId){args:Array Value}(h:a3 ρ args tL):au C ρ aA (Builtin.len_ ats t args) (Builtin.len_ ats t tL):=by
 unfold Builtin.len_;cases h0:ats[0]? with|none=>exact .stuck|some ty=>
 cases m:args[0]? with|none=>exact .stuck|some x=>
 obtain⟨b5,p,f⟩:=h.some m;rw[p];refine .bind (au.underlying b ty) fun σ u d hl⟨e,_⟩=>?_;subst e;have a:=f.mono hl;cases u with
 |string=>cases a with|string s=>exact .pure (.int _ _)| _=>exact .stuck
 |array n e=>exact .pure (.int _ _)
 |pointer arr=>refine .bind (au.underlying b arr) fun q u d _⟨e,_⟩=>?_;subst e;cases u with|array n e=>exact .pure (.int _ _)| _=>exact .stuck
 |slice e=>cases a with|hA l c=>exact .pure (.int _ _)|slice l c r=>exact .pure (.int _ _)| _=>exact .stuck
 |map k e=>
  cases a with
  |sU=>exact .pure (.int _ _)
  |map g=>
   refine .bind (au.getObj g) fun q o o' l1 j=>?_;obtain⟨i,_,_⟩:=j;cases i with
   |@map es es' clock h=>
    have:es.size=es'.size:=by simpa using h.length
    refine .pure ?_;rw[this];exact .int _ _
   | _=>exact .stuck
  | _=>exact .stuck
 |chan k e=>cases a with|r7=>exact .pure (.int _ _)| _=>exact .stuck
 | _=>exact .stuck
theorem agB(a:C.cz)(ats:Array TypeId)(t:TypeId){args:Array Value}(h:a3 ρ args tL):au C ρ aA (Builtin.cap_ ats t args) (Builtin.cap_ ats t tL):=by
 unfold Builtin.cap_;cases h0:ats[0]? with|none=>exact .stuck|some ty=>
 cases g:args[0]? with|none=>exact .stuck|some x=>
 obtain⟨b5,i,f⟩:=h.some g;rw[i];refine .bind (au.underlying a ty) fun σ u d hl⟨e,_⟩=>?_;subst e;have b:=f.mono hl;cases u with
 |array n e=>exact .pure (.int _ _)
 |pointer arr=>refine .bind (au.underlying a arr) fun j u d _⟨e,_⟩=>?_;subst e;cases u with|array n e=>exact .pure (.int _ _)| _=>exact .stuck
 |slice e=>cases b with|hA l c=>exact .pure (.int _ _)|slice l c r=>exact .pure (.int _ _)| _=>exact .stuck
 |chan k e=>cases b with|r7=>exact .pure (.int _ _)| _=>exact .stuck
 | _=>exact .stuck
theorem agC(b:C.cz)(ats:Array TypeId)(t:TypeId){args:Array Value}(h:a3 ρ args tL):au C ρ aA (Builtin.copy_ ats t args) (Builtin.copy_ ats t tL):=by
 unfold Builtin.copy_;cases h0:ats[0]? with|none=>exact .stuck|some ty=>
 cases m:args[0]? with|none=>exact .stuck|some x=>
 cases l:args[1]? with|none=>exact .stuck|some y=>
 obtain⟨b5,p,j⟩:=h.some m;obtain⟨im,o,a⟩:=h.some l;rw[p,o];refine .bind (au.underlying b ty) fun σ u q hl⟨e,_⟩=>?_;subst e;cases u with
 |slice elem=>
  have f:=j.mono hl;have g:=f;cases f<;>first|exact .stuck|skip
  all_goals
   refine .bind (Wk (a.mono hl)) fun A n w l1 e=>?_;subst e;refine .bind (au.sizeOf b elem) fun z s v d e=>?_;subst e;refine .bind (Ll s _ (a.mono (ay.le_trans (ay.le_trans hl l1) d))) fun B c c' i k=>?_;cases g
  ·exact .pure (.int _ _)
  ·rename_i r;exact .bind (au.storeCells (r.mono (ay.le_trans (ay.le_trans l1 d) i)) (dJ.Hs k) 0) fun _ _ _ _ _=>.pure (.int _ _)
 | _=>exact .stuck
theorem Wv(op:BinOp)(k:IntKind)(x y:Int):au C ρ aA (Op.intArith op k x y) (Op.intArith op k x y):=by unfold Op.intArith;cases op<;>first|exact .stuck|exact .pure (.int _ _)
theorem agD(a:C.cz)(op:BinOp)(k:IntKind)(x y:Int):au C ρ aA (Op.intDiv op k x y) (Op.intDiv op k x y):=by unfold Op.intDiv;repeat' first|exact .stuck|exact .pure (.int _ _)|exact au.runtimePanic a _ |split
theorem agE(op:BinOp)(x y:Int):au C ρ aA (Op.intCmp op x y) (Op.intCmp op x y):=by unfold Op.intCmp;cases op<;>first|exact .stuck|exact .pure (.bool _)
theorem PP(op:BinOp)(x y:ByteArray):au C ρ aA (Op.stringOp op x y) (Op.stringOp op x y):=by unfold Op.stringOp;cases op with|add=>exact .ite (fun _=>.unsupported) (fun _=>.pure (.string _))| _=>first|exact .stuck|exact .pure (.bool _)
def Ww:UnOp->Bool
 | .xor=>false
 | _=>true
theorem agF(op:UnOp)(a:Ww op=true)(h:aA ρ x b5):au C ρ aA (Op.unary op x) (Op.unary op b5):=by
 unfold Op.unary;cases op with
 |neg=>cases h with|int k n=>exact Wv _ _ _ _|e7 r=>exact .unsupported| _=>exact .stuck
 |xor=>cases a
 |not=>cases h with|bool b=>exact .pure (.bool _)| _=>exact .stuck
 |plus=>cases h<;>exact .stuck
end
end
variable {im y:Value}
section
attribute [-simp] Sem.runT_eq
section
variable {C:cU} {ρ:ay}
theorem agG(c:C.cz):∀(d:Nat)(t:TypeId)(b:Nat),cellOfByte C.Q d t b=cellOfByte C.P d t b:=by intro d;induction d with|zero=>intro t b;rfl|succ d a=>grind[cellOfByte,Cu,Cv,Lh]
theorem agH(a:C.cz)(d:Nat)(e:TypeId)(c o:Nat)(b:Int):cellAtBytes C.Q d e c o b=cellAtBytes C.P d e c o b:=by grind[cellAtBytes,Cv,Lh,Wh,agG]
theorem Wx(a:C.cz)(ats:Array TypeId)(t:TypeId)(k:aA ρ x b5)(j:aA ρ y im):au C ρ aA (Builtin.unsafeAdd_ ats t #[x,y]) (Builtin.unsafeAdd_ ats t #[b5,im]):=by
 obtain⟨b,aD,h,rfl,rfl⟩|w:(∃b aD,qe (dC ρ) b aD/\x=.pointer b/\b5=.pointer aD)\/au C ρ aA (Builtin.unsafeAdd_ ats t #[x,y]) (Builtin.unsafeAdd_ ats t #[b5,im]):=by unfold Builtin.unsafeAdd_;cases k with|lP=>exact .inl ⟨none,none,.none,rfl,rfl⟩|e7 r=>exact .inl ⟨_,_,.some r,rfl,rfl⟩| _=>exact .inr .stuck
 ·unfold Builtin.unsafeAdd_;refine .bind (au.asInt j) fun σ n o l1 e=>?_;subst e;refine .ite (fun _=>?_) (fun _=>.ite (fun _=>.cut .unsupported) (fun _=>?_))
  ·cases h with|none=>exact .unsupported|some r=>refine .bind (Wi (l1.1 _ _ r.1)) fun l v v' g⟨f,d⟩=>?_;subst f;subst d;exact .pure (.e7 (r.mono (ay.le_trans l1 g)))
  ·cases h with
   |none=>exact .unsupported
   |some r=>
    refine .bind (au.shape (l1.1 _ _ r.1)) fun l s m g e=>?_;subst e;cases s with
    |none=>exact .unsupported
    |some ec=>
     obtain⟨e,c⟩:=ec;refine .bind .program fun u p q i⟨f,d⟩=>?_;subst f;subst d;simp only[agH a,Fc a,Cv a];rw[<-r.2.1];split
     ·exact .pure (.e7 ⟨i.1 _ _ (g.1 _ _ (l1.1 _ _ r.1)),rfl,r.2.2⟩)
     ·exact .unsupported
 grind
theorem PQ(b:C.cz)(t:TypeId)(d:aA ρ x b5)(c:aA ρ y im):au C ρ aA (movedNumber t x y) (movedNumber t b5 im):=by
 unfold movedNumber;refine .bind (au.underlying b t) fun σ u s l1⟨e,_⟩=>?_;subst e;refine .ite (fun _=>.cut .unsupported) (fun _=>?_);have k:=d.mono l1;cases k with
 |e7 r=>refine .bind (AF r) fun B p q j l=>?_;obtain⟨a,Cs⟩:=p;obtain⟨a',o⟩:=q;obtain⟨i,rfl⟩:=l;refine .bind (Wx b #[] t (.e7 i) ((c.mono l1).mono j)) fun A v v' w f=>?_;have h:=f;cases f with|e7 g=>exact .bind (au.new (.number g Cs)) fun D n z _ m=>.pure (.e7 ⟨m.1,rfl,rfl⟩)| _=>exact .pure h
 | _=>exact Wx b #[] t (aA.mono l1 d) (c.mono l1)
theorem Wy(d:C.cz)(l:dC ρ a a')(k:dC ρ b aD):au C ρ cz (Op.twoPlaces a b) (Op.twoPlaces a' aD):=by
 unfold Op.twoPlaces;refine .bind .program fun σ p q l1⟨n,g⟩=>?_;subst n;subst g;refine Wn fun one inj nV=>?_;have j:C.Q.globals.size=C.P.globals.size:=by rw[d]
 have c:=l.mono l1;have i:=k.mono l1;obtain⟨_,g⟩:=dC.Ws one inj c i;have m:decide (a.block ≥ C.P.globals.size)=decide (a'.block ≥ C.Q.globals.size):=by
  rw[j];have:a.block<C.P.globals.size↔a'.block<C.P.globals.size:=by
   constructor
   ·intro h;have:=one _ _ _ (nV _ (Nat.le_of_lt h)) c.1;omega
   ·intro h;have:=inj _ _ _ (nV _ (Nat.le_of_lt h)) c.1;omega
  grind
 have f:(a.block != b.block)=(a'.block != aD.block):=AU;rw[f,m];exact .ite (fun _=>.cut .unsupported) (fun _=>.bind (Cw d c) fun r x b5 o e=>.bind (Cw d (i.mono o)) fun t y im _ s=>.pure AU)
theorem agJ(f:C.cz)(k:IntKind)(d:dC ρ a a')(c:dC ρ b aD):au C ρ aA (Op.addrSub k a b) (Op.addrSub k a' aD):=by unfold Op.addrSub;exact .bind (Wy f d c) fun σ x y _ e=>by subst e;exact .pure (.int _ _)
theorem agK(f:C.cz)(op:BinOp)(d:dC ρ a a')(c:dC ρ b aD):au C ρ aA (Op.addrCmp op a b) (Op.addrCmp op a' aD):=by unfold Op.addrCmp;exact .bind (Wy f d c) fun σ x y _ e=>by subst e;cases op<;>first|exact .unsupported|exact .pure (.bool _)
theorem agL(d:C.cz)(k:IntKind)(b:dC ρ a a')(n:Int):au C ρ aA (Op.addrMod k a n) (Op.addrMod k a' n):=by
 unfold Op.addrMod;refine .bind (au.shape b.1) fun σ s g l1 e=>?_;subst e;cases s with
 |none=>exact .unsupported
 |some ec=>
  obtain⟨e,c⟩:=ec;refine .bind (au.typeInfo d e) fun j i h f⟨e,_⟩=>?_;subst e;exact .ite (fun _=>.cut .unsupported)
   (fun _=>.bind (Cw d (b.mono (ay.le_trans l1 f))) fun _ x y _ e=>by subst e;exact .pure (.int _ _))
theorem Wz(a:C.cz):∀(d:Nat)(t:TypeId)(ρ:ay){x b5 y im:Value},aA ρ x b5->aA ρ y im->au C ρ cz (Op.eqGuardIn d t x y) (Op.eqGuardIn d t b5 im):=by
 intro d;induction d with
 |zero=>intro t ρ x b5 y im _ _;exact .unsupported
 |succ d D=>
  intro t ρ x b5 y im H F;unfold Op.eqGuardIn;refine .bind (au.underlying a t) fun σ u B hl⟨e,M⟩=>?_;subst e;have q:=H.mono hl;have j:=F.mono hl;cases u with
  |interface ms=>
   cases q with
   |nilIface=>cases j with|nilIface=>exact .pure rfl| _=>exact .pure rfl
   | _=>exact .pure rfl
  |struct fields=>
   cases q with
   |agg c p=>
    cases j with
    |agg g l=>
     refine .bind (Wq fields (fun I lt f N s=>.ite (fun _=>?_) (fun _=>.pure rfl)) _) fun A x y _ e=>by subst e;obtain⟨o,_⟩:=x;cases o<;>exact(.pure rfl:au C A cz (Pure.pure _) (Pure.pure _))
     exact .bind (au.part a _ (a3.mono lt ⟨c,p⟩) _) fun J u B k z=>.bind (au.part a _ (a3.mono (ay.le_trans lt k) ⟨g,l⟩) _) fun w v v' r h=>
      .bind (D _ w (z.mono r) h) fun K b aD _ e=>Fa
    | _=>exact .pure rfl
   | _=>exact .pure rfl
  |array n e=>
   cases q with
   |agg c p=>
    cases j with
    |agg g l=>
     refine .bind (au.sizeOf a e) fun O m L l1 em=>?_;subst em;refine .bind (agv n (fun I lt i s=>?_) _) fun A x y _ e=>by subst e;obtain⟨o,_⟩:=x;cases o<;>exact(.pure rfl:au C A cz (Pure.pure _) (Pure.pure _))
     have E:=ay.le_trans l1 lt;exact .bind (au.part a _ (a3.mono E ⟨c,p⟩) _) fun J u B k z=>.bind (au.part a _ (a3.mono (ay.le_trans E k) ⟨g,l⟩) _) fun w v v' r h=>
      .bind (D _ w (z.mono r) h) fun K b aD _ e=>Fa
    | _=>exact .pure rfl
   | _=>exact .pure rfl
  | _=>exact .pure rfl
theorem WA(b:C.cz):∀(d:Nat)(t:TypeId),C.Q.eqGuardType d t=C.P.eqGuardType d t:=by intro d;induction d with|zero=>intro t;rfl|succ d a=>grind[Program.eqGuardType,Cu]
theorem agM(a:C.cz)(op:BinOp)(t:TypeId)(p q:Operand)(h:aA ρ x b5)(c:aA ρ y im):au C ρ (fun _(_ _:Unit)=>True) (eqGuard op t p q x y) (eqGuard op t p q b5 im):=by
 unfold eqGuard;refine .ite (fun _=>.pure trivial) (fun _=>?_);cases h with
 |nilIface=>cases c with|nilIface=>refine .ite (fun _=>.pure trivial) (fun _=>.bind (Wz a _ t ρ .nilIface .nilIface) fun σ b aD _ e=>?_);subst e;exact .ite (fun _=>.unsupported) (fun _=>.pure trivial)| _=>exact .pure trivial
 |agg f j=>cases c with|agg g i=>refine .bind .program fun v p q l1⟨n,m⟩=>.bind .program fun r u s o⟨l,k⟩=>?_;subst n;subst m;subst l;subst k;rw[WA a,Fc a];have d:=ay.le_trans l1 o;refine .ite (fun _=>.pure trivial) (fun _=>.bind (Wz a _ t r ((aA.agg f j).mono d) ((aA.agg g i).mono d)) fun σ b aD _ e=>?_);subst e;exact .ite (fun _=>.unsupported) (fun _=>.pure trivial)| _=>exact .pure trivial
 | _=>exact .pure trivial
end
end
section
attribute [-simp] Sem.runT_eq
def Cz(P:Program)(op:BinOp)(t:TypeId):Bool:=
 match op with
 | .eql| .neq=>zk P Op.maxDepth t
 | .shl| .shr| .and| .or| .xor| .andNot=>false
 | _=>match P.underlying t with|some .unsafePointer=>false| _=>true
section
variable {C:cU} {ρ:ay}
theorem PR(d:C.cz)(op:BinOp)(t:TypeId)(c:Cz C.P op t=true)(k k':IntKind)(a b:Int):au C ρ aA (binOp op t (.int k a) (.int k' b)) (binOp op t (.int k a) (.int k' b)):=by cases op<;>first|cases c|exact .ite (fun _=>.stuck) (fun _=>Wv _ _ _ _)|exact .ite (fun _=>.stuck) (fun _=>agD d _ _ _ _)|exact .ite (fun _=>.stuck) (fun _=>agE _ _ _)
theorem PS(op:BinOp)(t:TypeId)(a b:ByteArray):binOp op t (.string a) (.string b)=Op.stringOp op a b:=by cases op<;>rfl
theorem WB(c:C.cz){t:TypeId}(ht:zk C.P Op.maxDepth t=true)(b:aA ρ x b5)(a:aA ρ y im):au C ρ cz (Op.equal t x y) (Op.equal t b5 im):=agz c Op.maxDepth t ht ρ b a
theorem WC(f:C.cz){t:TypeId}(ht:zk C.P Op.maxDepth t=true)(d:aA ρ x b5)(c:aA ρ y im):
 au C ρ aA (do pure (.bool (<-Op.equal t x y))) (do pure (.bool (<-Op.equal t b5 im)))/\au C ρ aA (do pure (.bool (!(<-Op.equal t x y)))) (do pure (.bool (!(<-Op.equal t b5 im)))):=
 ⟨.bind (WB f ht d c) fun _ a b _ e=>by subst e;exact .pure (.bool _),.bind (WB f ht d c) fun _ a b _ e=>by subst e;exact .pure (.bool _)⟩
theorem agN(a:C.cz)(op:BinOp)(t:TypeId)(c:Cz C.P op t=true)(f:aA ρ x b5)(d:aA ρ y im):au C ρ aA (binOp op t x y) (binOp op t b5 im):=by
 have h:=f;have k:=d;cases op
 case eql=>exact(have b:=(WC (ρ:=ρ) a c f d).1;JF)
 case neq=>exact(have b:=(WC (ρ:=ρ) a c f d).2;JF)
 all_goals first|exact absurd c Bool.false_ne_true|skip
 all_goals cases f<;>cases d<;>first
  |exact .stuck
  |exact .unsupported
  |exact PR a _ _ c _ _ _ _
  |(rw[PS];exact PP _ _ _)
  |exact PQ a _ k h
  |exact PQ a t h (.int _ _)
  |exact .bind (AF DR) fun σ p j l1⟨g,_⟩=>agL a _ g _
  |exact .bind (AF DR) fun σ p j l1⟨g,_⟩=>.bind (AF (dC.mono l1 AU)) fun n q l i⟨b,_⟩=>agJ a _ (g.mono i) b
  |exact .bind (AF DR) fun σ p j l1⟨g,_⟩=>.bind (AF (dC.mono l1 AU)) fun n q l i⟨b,_⟩=>agK a _ (g.mono i) b
  |(refine .bind (au.underlying a t) fun σ u o l1⟨e,m⟩=>?_;subst e;simp only[Cz,m]at c;cases u<;>first|exact absurd c Bool.false_ne_true|exact PQ a t (h.mono l1) (k.mono l1))
end
end
variable {aW l:Nat}{assign body:Code}
section
attribute [-simp] Sem.runT_eq
section
variable {C:cU} {ρ:ay}
theorem HJ(h:ρ.rel l aW):au C ρ (fun σ r c5=>Ht C σ r c5/\σ.mine aW) (Instr.getLoop l) (Instr.getLoop aW):=by unfold Instr.getLoop;refine .bind (au.getObj h) fun σ o o' l1 c=>?_;obtain⟨a,_,b⟩:=c;cases a with|loop hl=>exact .pure ⟨hl,b.resolve_right fun x=>x.elim (fun y=>AU) (fun y=>by cases y)⟩| _=>exact .stuck
theorem WE(fn:FuncId)(j:∃f c,C.P.funcs[fn]?=some f/\f.body=some c){tmps h:Array Value}(ht:a3 ρ tmps h)(params:Array Tmp)(o:C.ma assign)(m:C.ma body){r c5:Option Nat}(l:qe ρ.rel r c5):
 au C ρ (fun σ x y=>σ.rel x.1 y.1/\tK σ x.2 y.2) (Instr.enterLoop fn tmps params assign body r) (Instr.enterLoop fn h params assign body c5):=by
 unfold Instr.enterLoop;cases l<;>first
  |refine .bind (au.new (.deferred .nil)) fun σ n i l1 b=>.bind (R:=fun σ x y=>σ.rel x.1 y.1/\tK σ x.2 y.2) (.pure ⟨b.1,.cons ⟨.collected b.1,.nil _⟩ .nil⟩) fun g x y a d=>?_
  |refine .bind (HJ AU) fun σ x y l1⟨k,_⟩=>.bind (R:=fun σ x y=>σ.rel x.1 y.1/\tK σ x.2 y.2) (.pure ⟨k.defers,.nil⟩) fun g x y a d=>?_
 all_goals exact .bind (au.new (.loop ⟨rfl,rfl,(fun c e=>GR),rfl,j,ht.mono (ay.le_trans l1 a),rfl,rfl,o,rfl,m,d.1⟩)) fun g n i a b=>.pure ⟨b.1,d.2.mono a⟩
theorem WF(h:ρ.rel l aW)(c:C.cz):au C ρ (fun _(_ _:Unit)=>True) (Instr.beginRound l) (Instr.beginRound aW):=by unfold Instr.beginRound;refine .bind (HJ h) fun σ r c5 l1⟨a,b⟩=>?_;refine .bind (au.setObj (l1.1 _ _ h) b (.loop ⟨rfl,a.pending,a.Ld,a.fn,a.known,a.tmps,a.params,a.assign,a.Hu,a.body,a.Hv,a.defers⟩) Aa) fun d _ _ _ _=>?_;rw[<-a.state];cases r.state with|ready=>exact .pure trivial| _=>exact au.runtimePanic c _
theorem agO(h:ρ.rel l aW)(jump:Option Code)(d:∀c,jump=some c->C.ma c):au C ρ aA (Instr.endRound l jump) (Instr.endRound aW jump):=by unfold Instr.endRound;refine .bind (HJ h) fun σ r c5 l1⟨a,b⟩=>?_;exact .bind (au.setObj (l1.1 _ _ h) b (.loop ⟨rfl,rfl,d,a.fn,a.known,a.tmps,a.params,a.assign,a.Hu,a.body,a.Hv,a.defers⟩) Aa) fun e _ _ _ _=>.pure (.bool _)
theorem agP(h:ρ.rel l aW)(f:C.cz):au C ρ (fun _ a b=>a=b/\∀c,a=some c->C.ma c) (Instr.endLoop l) (Instr.endLoop aW):=by unfold Instr.endLoop;refine .bind (HJ h) fun σ r c5 l1⟨d,e⟩=>?_;rw[<-d.state];exact .ite (fun _=>.cut (au.runtimePanic f _)) (fun _=>.bind (au.setObj (l1.1 _ _ h) e (.loop ⟨rfl,d.pending,d.Ld,d.fn,d.known,d.tmps,d.params,d.assign,d.Hu,d.body,d.Hv,d.defers⟩) Aa) fun _ _ _ _ _=>.pure ⟨d.pending,d.Ld⟩)
theorem agQ{b aD:Nat}(h:ρ.rel b aD):au C ρ tK (Instr.takeDeferred b) (Instr.takeDeferred aD):=by unfold Instr.takeDeferred;refine .bind (au.getObj h) fun j o o' g f=>?_;obtain⟨d,_,e⟩:=f;cases d with|deferred a=>have mine:=e.resolve_right fun x=>x.elim (fun y=>AU) (fun y=>by cases y);exact .bind (au.setObj (g.1 _ _ h) mine .taken Aa) fun i _ _ c _=>.pure (a.mono c)| _=>exact .stuck
end
end
section
attribute [-simp] Sem.runT_eq
inductive r_(C:cU)(ρ:ay):Next->Next->Prop
 |value {v v':Value} (h:aA ρ v v'):r_ C ρ (.value v) (.value v')
 |skip:r_ C ρ .skip .skip
 |enter {f:FuncId} {fn:Func} {c:Code} {a a':Array Value} (h:a3 ρ a a') (al:C.P.funcs[f]?=some fn) (hb:fn.body=some c):r_ C ρ (.enter f a) (.enter f a')
 |round {l aW:Nat} {f:FuncId} {t cM:Array Value} {assign body:Code} (hf:∃fn c,C.P.funcs[f]?=some fn/\fn.body=some c) (hl:ρ.rel l aW) (ht:a3 ρ t cM) (ha:C.ma assign) (hb:C.ma body):r_ C ρ (.round l f t assign body) (.round aW f cM assign body)
structure cU.CA(C:cU):Prop where
 body:∀(f:FuncId)(fn:Func)(c:Code),C.P.funcs[f]?=some fn->fn.body=some c->C.Q.funcs[f]?=some fn/\C.ma c/\fn.name≠ "runtime.NumGoroutine"
 bare:∀(f:FuncId)(fn:Func),C.P.funcs[f]?=some fn->fn.body=none->∀(ρ:ay)(a a':Array Value),a3 ρ a a'->au C ρ (r_ C) (callFunc f a) (callFunc f a')
section
variable {C:cU} {ρ:ay}
theorem agR(c:C.cz):au C ρ cz Instr.panicnil Instr.panicnil:=by
 unfold Instr.panicnil;refine .bind au.afY fun σ a b _ e=>?_;subst e;cases a with
 |strings env=>
  refine .bind .program fun g p q _⟨f,d⟩=>?_;subst f;subst d;have:C.Q.godebug=C.P.godebug:=by rw[c]
  rw[this];exact .pure rfl
 | _=>exact .stuck
theorem agS(c:C.cz)(h:aA ρ x b5):au C ρ aA (Instr.panic x) (Instr.panic b5):=by unfold Instr.panic;cases h with|iface t d=>exact .goPanic (.iface t d)|nilIface=>refine .bind (agR c) fun σ a b _ e=>?_;subst e;exact .ite (fun _=>.goPanic .nilIface) (fun _=>au.runtimePanic c _)| _=>exact .stuck
theorem agT(hF:C.CA)(f:FuncId){a a':Array Value}(h:a3 ρ a a'):au C ρ (r_ C) (callFunc f a) (callFunc f a'):=by cases b:C.P.funcs[f]? with|none=>refine .none fun w=>?_;unfold callFunc;rw[np];simp only[Go.program,Sem.run,b];exact id|some fn=>cases d:fn.body with|none=>exact hF.bare f fn b d ρ a a' h|some c=>obtain⟨g,k,l⟩:=hF.body f fn c b d;unfold callFunc;refine .bind .program fun σ p q l1⟨j,i⟩=>?_;subst j;subst i;rw[b,g];simp only[];have e:(fn.name== "runtime.NumGoroutine")=false:=AU;simp only[e,d,Option.isNone_some,Bool.false_eq_true,if_false];exact .pure (.enter (h.mono l1) b d)
end
end
section
attribute [-simp] Sem.runT_eq
def jf:Nat->Value->Bool
 | _,.bool _ | _,.int .. | _,.string _ | _,.pointer none| _,.slice none _ _ | _,.map none| _,.chan none| _,.nilFunc| _,.nilIface=>true
 | _,.func (.func _) a b=>a.isEmpty&&b.isEmpty
 |n+1,.iface _ v=>jf n v
 |n+1,.agg a=>a.all (jf n)
 |n+1,.tuple a=>a.all (jf n)
 | _,_=>false
theorem WG:∀(n:Nat)(v:Value),jf n v=true->je v:=by
 have fn:∀(n:Nat)(f:Fn)(a b:Array Value),jf n (.func f a b)=true->je (.func f a b):=by
  intro n f a b h;cases f with
  |func f=>
   cases n<;>
   ·simp only[jf,Bool.and_eq_true,Array.isEmpty_iff]at h;obtain⟨rfl,rfl⟩:=h;exact .func f
  | _=>grind[jf]
 intro n;induction n with
 |zero=>
  intro v h;cases v with
  |bool b=>exact .bool b
  |int k n=>exact .int k n
  |string s=>exact .string s
  |pointer a=>cases a with|none=>exact .lP|some a=>simp[jf]at h
  |slice a l c=>cases a with|none=>exact .hA l c|some a=>simp[jf]at h
  |map r=>cases r with|none=>exact .sU|some a=>simp[jf]at h
  |chan r=>cases r with|none=>exact .r7|some a=>simp[jf]at h
  |nilFunc=>exact .nilFunc
  |nilIface=>exact .nilIface
  |func f a b=>grind
  | _=>simp[jf]at h
 |succ n d=>
  intro v h;cases v with
  |bool b=>exact .bool b
  |int k n=>exact .int k n
  |string s=>exact .string s
  |pointer a=>grind[jf]
  |slice a l c=>cases a with|none=>exact .hA l c|some a=>simp[jf]at h
  |map r=>grind[jf]
  |chan r=>grind[jf]
  |nilFunc=>exact .nilFunc
  |nilIface=>exact .nilIface
  |func f a b=>grind
  |iface t v=>exact .iface t (d v (by grind[jf]))
  |agg a=>simp only[jf,Array.all_eq_true_iff_forall_mem]at h;exact .agg fun i v e=>d v (h v (Array.mem_of_getElem? e))
  |tuple a=>simp only[jf,Array.all_eq_true_iff_forall_mem]at h;exact .tuple fun i v e=>d v (h v (Array.mem_of_getElem? e))
  | _=>simp[jf]at h
def iW(P:Program):Operand->Bool
 | .tmp _ | .func _=>true
 | .const v=>jf 4 v
 | .global g=>decide (g<P.globals.size)
def Fj(P:Program)(c:Call):Bool:=
 (match c.callee with
  | .builtin b=>PG b
  | .value f=>iW P f
  | _=>false)&&c.args.all (iW P)
def WH:Fn->Bool
 | .func _=>true
 | _=>false
def HL(P:Program)(c:Call):Bool:=
 (match c.callee with
  | .builtin .unsafeString=>true
  | _=>false)&&c.args.all (iW P)
def sa(P:Program)(upd:Bool):Op->Bool
 | .move x| .assign x| .box _ x| .load _ x| .makeInterface _ x| .fieldAddr _ x _ | .extract x _ | .panic x=>iW P x
 | .nilCheck x=>iW P x
 | .unOp op _ x=>Ww op&&iW P x
 | .alloc _=>true
 | .pick c a b=>iW P c&&iW P a&&iW P b
 | .build _ a8| .buildSlice _ _ a8=>a8.all fun p=>iW P p.2
 | .store _ a v| .makeSlice _ a v=>iW P a&&iW P v
 | .indexAddr t a v=>AD P t&&iW P a&&iW P v
 | .binOp op t x y _=>Cz P op t&&iW P x&&iW P y
 | .makeFunc fn a b=>WH fn&&a.all (iW P)&&b.all (iW P)
 | .slice t x l h m=>AD P t&&iW P x&&l.all (iW P)&&h.all (iW P)&&m.all (iW P)
 | .call c=>Fj P c||(upd&&HL P c)
 | _=>false
section
variable {C:cU} {ρ:ay}
theorem sX{m a:Sem Value}(h:au C ρ aA m a):au C ρ (r_ C) (do pure (.value (<-m))) (do pure (.value (<-a))):=.bind h fun _ _ _ _ b=>.pure (.value b)
theorem agV{m a:Sem Unit}(h:au C ρ (fun _(_ _:Unit)=>True) m a):au C ρ (r_ C) (do m;pure .skip) (do a;pure .skip):=.bind h fun _ _ _ _ _=>.pure .skip
theorem agW(d:C.cz)(e:C.wU)(b:Builtin)(f:PG b=true)(ats:Array TypeId)(t:TypeId)(cs:Array Bool){a a':Array Value}(h:a3 ρ a a'):au C ρ (r_ C) (builtin b ats t cs a) (builtin b ats t cs a'):=by unfold builtin;cases b with|append=>exact .bind (ags d e ats t h) fun _ _ _ _ c=>.pure (.value c)|cap=>exact .bind (agB d ats t h) fun _ _ _ _ c=>.pure (.value c)|copy=>exact .bind (agC d ats t h) fun _ _ _ _ c=>.pure (.value c)|len=>exact .bind (agA d ats t h) fun _ _ _ _ c=>.pure (.value c)| _=>cases f
theorem agX:∀(l:List (Tmp×Value))(aW:List (Tmp×Value)){t a:Array Value},dJ (fun x y=>x.1=y.1/\aA ρ x.2 y.2) l aW->a3 ρ t a->
 a3 ρ (l.foldl (fun tmps(p:Tmp×Value)=>tmps.setIfInBounds p.1 p.2) t) (aW.foldl (fun tmps(p:Tmp×Value)=>tmps.setIfInBounds p.1 p.2) a):=by
 intro l;induction l with|nil=>intro aW t a h ht;cases h;exact ht|cons x l c=>intro aW t a h ht;cases h with|cons b d=>simp only[List.foldl_cons];exact c _ d (by rw[b.1];exact ht.set b.2 _)
theorem agY:∀(a8:List Tmp)(l aW:List Value),dJ (aA ρ) l aW->dJ (fun x y=>x.1=y.1/\aA ρ x.2 y.2) (a8.zip l) (a8.zip aW):=by intro a8;induction a8 with|nil=>intro l aW _;exact .nil|cons p a8 a=>intro l aW h;cases h with|nil=>exact .nil|cons b ht=>exact .cons ⟨rfl,b⟩ (a _ _ ht)
theorem agZ(h:ρ.rel l aW){a a':Array Value}(c:a3 ρ a a'):au C ρ (r_ C) (Instr.yield l a) (Instr.yield aW a'):=by unfold Instr.yield;refine .bind (HJ h) fun σ r c5 l1⟨b,_⟩=>?_;rw[<-c.size,<-b.params,<-b.fn,<-b.assign,<-b.body];refine .ite (fun _=>.cut .stuck) (fun _=>.pure (.round b.known (l1.1 _ _ h) ?_ b.Hu b.Hv));rw[<-Array.foldl_toList,<-Array.foldl_toList,Array.toList_zip,Array.toList_zip];exact agX _ _ (agY _ _ _ (dJ.Hs (c.mono l1))) b.tmps
theorem HM(i:C.cz)(j:C.wU)(hF:C.CA){t d:Target}(ht:wT ρ t d){a a':Array Value}(h:a3 ρ a a'):au C ρ (r_ C) (invoke t a) (invoke d a'):=by unfold invoke;cases ht with|nil=>exact au.runtimePanic i _|builtin b ats ty cs l=>grind[agW]|collected k=>exact .stuck|@fn f f' c c' e g=>cases e with|func f=>exact agT hF f (h.append g)|yield hl=>exact agZ hl h
end
end
section
attribute [-simp] Sem.runT_eq
section
variable {C:cU} {ρ:ay}
theorem au.freeze(D:C.upd=true)(r:dC ρ a a')(n:Nat):au C ρ (fun _(_ _:Unit)=>True) (Go.freeze a n) (Go.freeze a' n):=by
 intro S w w' d _ _;have A:∀b aD,ρ.rel b aD->¬ρ.mine aD->∃o o',w.heap[b]?=some o/\E9 o/\w'.heap[aD]?=some o'/\∀c e fr,o'≠ .cells c e fr:=fun b aD f g=>by
  rcases d.still b aD f g with⟨x,_⟩|⟨x,_⟩|⟨o,i,hd⟩
  ·grind
  ·grind
  ·obtain⟨p,H,t,J,z⟩:=d.obj b aD f;rw[i]at t;cases t;refine⟨o,H,i,hd,J,fun c e fr x=>?_⟩;subst x;cases hd with
   |coro=>cases z with|qa h=>exact h
   |number a l=>cases z
 have get:∀(w:World)(a:Addr)(b:Nat),(w.freeze a n).heap[b]?=(w.heap[b]?).map (fun o=>if n=0 then o else if a.block=b then(match o with| .cells c e (lo,hi)=>.cells c e (if lo==hi then(a.off,a.off+n)else(min lo a.off,max hi (a.off+n)))|o=>o)else o):=by intro w a b;unfold World.freeze;grind
 have same:∀(w:World)(a:Addr),(w.freeze a n).heap.size=w.heap.size/\(w.freeze a n).tape=w.tape/\(w.freeze a n).drawn=w.drawn/\(w.freeze a n).os=w.os/\(w.freeze a n).output=w.output:=by grind[World.freeze]
 obtain⟨M,q,B,K,fX⟩:=same w a;obtain⟨L,m,k,j,gI⟩:=same w' a';refine⟨ρ,w'.freeze a' n,?_,?_,fun es=>⟨#[],by simp[Sem.events,Go.freeze,Sem.runT],Aa⟩⟩
 ·refine .ok trivial ⟨fun b aD f=>?_,d.one,d.inj,d.nV,by rw[B,k];exact d.sync,by rw[q,B,m,k];exact d.tape,by rw[K,j];exact d.env,by rw[q];exact d.lone,fun b aD f g=>?_⟩
  ·obtain⟨o,o',i,v,u⟩:=d.obj b aD f;rw[get,get,i,v];simp only[Option.map_some];refine⟨_,_,rfl,rfl,?_⟩;by_cases g:n=0
   ·grind
   simp only[g,if_false];by_cases e:a.block=b
   ·subst e;have y:a'.block=aD:=d.one _ _ _ r.1 f;subst y;simp only[if_true];cases u with
    |@cells c c' el fr aY E hF=>obtain⟨lo,hi⟩:=fr;have I:=hF.2 D;subst I;rw[r.2.1];exact .cells el E ⟨fun _ x=>x,fun _=>rfl⟩
    |map c h=>exact .map c h
    |stringIter s p=>exact .stringIter s p
    |Cr a b c=>exact .Cr a b c
    |mapIter h a b c=>exact .mapIter h a b c
    |loop h=>exact .loop h
    |deferred h=>exact .deferred h
    |taken=>exact .taken
    |number h l=>exact .number h l
    |qa h=>cases o'<;>first|exact h.elim|exact .qa trivial
   ·have y:a'.block≠aD:=fun x=>e (d.inj _ _ _ (x▸r.1) f);grind
  ·obtain⟨o,_,i,hd,_,_⟩:=A b aD f g;rw[get,i];refine .inr (.inr ⟨o,?_,hd⟩);cases hd<;>(grind)
 ·refine⟨ay.le_refl _,fun _ h=>.inl h,AU,fun _ h=>.inl h,fun _ _ h=>.inl h,fun b f g=>?_,j,gI,m,AU⟩;rw[get];by_cases F:a'.block=b
  ·subst F;obtain⟨_,o',_,_,v,u⟩:=A _ _ r.1 g;grind
  grind
theorem ag0(b:C.cz):∀(d:Nat)(t u:TypeId),sameLayout C.Q d t u=sameLayout C.P d t u:=by intro d;induction d with|zero=>intro t u;rfl|succ d a=>grind[sameLayout,Cu,Wr,Lo]
theorem ag1(b:C.cz)(fits:TypeId->Bool):∀(d:Nat)(e:TypeId)(c o n:Nat),rowAt C.Q fits d e c o n=rowAt C.P fits d e c o n:=by intro d;induction d with|zero=>intro e c o n;rfl|succ d a=>grind[rowAt,Cu,Cv,Lo]
theorem ag2(b:C.cz):∀(d:Nat)(e:TypeId)(c o:Nat)(u:TypeId)(n:Nat),liesAt C.Q d e c o u n=liesAt C.P d e c o u n:=by intro d;induction d with|zero=>intro e c o u n;rfl|succ d a=>grind[liesAt,Cu,ag1,ag0,Fc]
theorem ag3(b:C.cz)(r:dC ρ a a')(u:TypeId)(n:Nat):au C ρ (fun _ x y=>x=y) (variablesAt a u n) (variablesAt a' u n):=by unfold variablesAt;refine .bind .program fun σ p q hl⟨d,c⟩=>?_;subst d;subst c;refine .bind (au.shape (hl.1 _ _ r.1)) fun h s f g e=>?_;subst e;cases s with|none=>exact .pure rfl|some i=>exact .pure (by simp only[ag2 b,Fc b,Cv b,r.2.1])
theorem WJ:∀(n:Nat)(ρ:ay){a a':Addr}(_:dC ρ a a')(acc:ByteArray),au C ρ (fun _ x y=>x=y) (loadBytes a acc n) (loadBytes a' acc n)
 |0,ρ,a,a',r,acc=>.pure rfl
 |n+1,ρ,a,a',r,acc=>by
  unfold loadBytes;refine .bind (au.load r) fun σ v v' hl b=>?_;cases b with
  |int k m=>cases k<;>first|exact WJ n σ ((r.mono hl).add 1) _ |exact .stuck
  | _=>exact .stuck
theorem ag4(f:C.cz)(v:C.upd=true)(ats:Array TypeId)(t:TypeId){x b5:Array Value}(h:a3 ρ x b5):au C ρ aA (Builtin.unsafeString_ ats t x) (Builtin.unsafeString_ ats t b5):=by
 obtain⟨l⟩:=x;obtain⟨aW⟩:=b5;have d:=h.size;simp only[List.size_toArray]at d;match l,aW,d with
 | [],[],_=>exact .stuck
 | [a],[a'],_=>exact .stuck
 |a::b::c::l,_::_::_::aW,_=>exact .stuck
 | [a,b],[a',aD],_=>
  have A:aA ρ a a':=h.get 0 a a' rfl rfl;have z:aA ρ b aD:=h.get 1 b aD rfl rfl;have key:∀(p j:Option Addr),qe (dC ρ) p j->au C ρ aA (Builtin.unsafeString_ ats t #[.pointer p,b]) (Builtin.unsafeString_ ats t #[.pointer j,aD]):=by intro p j B;unfold Builtin.unsafeString_;refine .bind (au.asInt z) fun σ n F hl e=>?_;subst e;cases dF:ats[0]? with|none=>exact .stuck|some k=>simp only[];refine .ite (fun _=>.bind (R:=fun _ _ _=>False) (.runtimePanic f _) fun _ _ _ _ h=>h.elim) (fun _=>?_);refine .ite (fun _=>.bind (R:=fun _ _ _=>False) .unsupported fun _ _ _ _ h=>h.elim) (fun _=>?_);cases B with|none=>exact .ite (fun _=>.pure (.string _)) (fun _=>.runtimePanic f _)|@some q E g=>refine .ite (fun _=>.pure (.string _)) (fun _=>?_);refine .bind (au.elemOf f k) fun I e H i w=>?_;subst w;refine .bind (ag3 f ((g.mono hl).mono i) e n.toNat) fun u c c' m y=>?_;subst y;refine .ite (fun _=>?_) (fun _=>.unsupported);refine .bind (WJ n.toNat u (((g.mono hl).mono i).mono m) .empty) fun J s D o d=>?_;subst d;exact .bind (au.freeze v ((((g.mono hl).mono i).mono m).mono o) n.toNat) fun _ _ _ _ _=>.pure (.string _)
  cases A with|lP=>exact key none none .none|e7 r=>exact key _ _ (.some r)| _=>exact .stuck
theorem ag6(e:C.cz)(c:C.upd=true)(ats:Array TypeId)(t:TypeId){cs:Array Bool}{x b5:Array Value}(h:a3 ρ x b5):au C ρ (r_ C) (do let d <-(pure {target:=.builtin .unsafeString ats t cs,args:=x}:Sem Deferred);invoke d.target d.args) (do let d <-(pure {target:=.builtin .unsafeString ats t cs,args:=b5}:Sem Deferred);invoke d.target d.args):=
 .bind (R:=fun _ d a=>d={target:=.builtin .unsafeString ats t cs,args:=x}/\a={target:=.builtin .unsafeString ats t cs,args:=b5}) (.pure ⟨rfl,rfl⟩) fun σ d a hl hd=>by obtain⟨rfl,rfl⟩:=hd;exact .bind (ag4 e c ats t (h.mono hl)) fun _ _ _ _ b=>.pure (.value b)
end
end
variable {ev lv:Operand->Value}
section
attribute [-simp] Sem.runT_eq
section
variable {C:cU} {ρ:ay}
def vK(C:cU)(ρ:ay)(ev lv:Operand->Value):Prop:=∀x,iW C.P x=true->aA ρ (ev x) (lv x)
theorem vK.mono{σ:ay}(hl:ay.le ρ σ)(h:vK C ρ ev lv):vK C σ ev lv:=fun x a=>(h x a).mono hl
theorem vK.args(h:vK C ρ ev lv){a:Array Operand}(f:a.all (iW C.P)=true):a3 ρ (a.map ev) (a.map lv):=by refine⟨Aa,fun i v v' e d=>?_⟩;simp only[Array.getElem?_map,Option.map_eq_some_iff]at e d;obtain⟨x,c,rfl⟩:=e;obtain⟨y,b,rfl⟩:=d;rw[c]at b;cases b;exact h x (Array.all_eq_true_iff_forall_mem.1 f x (Array.mem_of_getElem? c))
theorem vK.PT(h:vK C ρ ev lv){a:Option Operand}(b:a.all (iW C.P)=true):yd ρ (a.map ev) (a.map lv):=by cases a with|none=>exact .none|some x=>exact .some (h x AU)
theorem vK.zl(h:vK C ρ ev lv)(a:(a8.all fun p=>iW C.P p.2)=true):dJ (uA ρ) (a8.map fun(i,x)=>(i,ev x)).toList (a8.map fun(i,x)=>(i,lv x)).toList:=
 af8 fun p b=>h p.2 (Array.all_eq_true_iff_forall_mem.1 a p b)
theorem ag7{f:Fn}(h:WH f=true):vI ρ f f:=by cases f with|func f=>exact .func f| _=>cases h
theorem ag8(h:vK C ρ ev lv){c:Call}(e:Fj C.P c=true)(t:TypeId):au C ρ AB (resolve ev c t) (resolve lv c t):=by unfold resolve;simp only[Fj,Bool.and_eq_true]at e;have g:=h.args e.2;obtain⟨a,_⟩:=e;cases i:c.callee with|builtin b=>rw[i]at a;exact .pure ⟨.builtin b _ _ _ a,g⟩|invoke r n=>grind|value f=>rw[i]at a;have d:=h f a;simp only[];revert d;generalize ev f=v;generalize lv f=v';intro d;unfold Deferred.ofValue;cases d with|func j o m l k=>exact .pure ⟨.fn j ⟨m,k⟩,a3.append ⟨o,l⟩ g⟩|nilFunc=>exact .pure ⟨.nil,g⟩| _=>exact .stuck
theorem ag9(d:C.cz)(h:aA ρ x b5){o:Oper}{a:Operand}(g:o.op=.nilCheck a)(f:ev a=x)(e:lv a=b5):au C ρ (r_ C) (execOp ev o) (execOp lv o):=by unfold execOp;rw[g];simp only[f,e];have b:=h;cases h with|lP|nilIface|nilFunc=>exact au.runtimePanic d _|func c=>cases c<;>exact .pure (.value b)| _=>exact .pure (.value b)
theorem WL(j:C.cz)(p:C.wU)(hF:C.CA)(h:vK C ρ ev lv){o:Oper}(g:sa C.P C.upd o.op=true):au C ρ (r_ C) (execOp ev o) (execOp lv o):=by
 cases k:o.op<;>rw[k]at g<;>try exact absurd g Bool.false_ne_true
 case nilCheck x=>exact ag9 j (h x g) k rfl rfl
 all_goals
  unfold execOp;rw[k]
 case move x=>exact .pure (.value (h _ g))
 case assign x=>exact .pure (.value (h _ g))
 case pick c a b=>
  simp only[sa,Bool.and_eq_true]at g;exact .bind (au.asBool (h _ g.1.1)) fun σ b aD hl e=>by subst e;cases b<;>first|exact .pure (.value ((h _ g.2).mono hl))|exact .pure (.value ((h _ g.1.2).mono hl))
 case alloc t=>grind[sX,af4]
 case box t x=>exact sX (af5 _ (h _ g))
 case build t a8=>exact sX (aga j p _ (h.zl g))
 case buildSlice t n a8=>exact sX (agc j p _ _ (h.zl g))
 case load t a=>exact sX (af2 j _ (h _ g))
 case store t a x=>
  simp only[sa,Bool.and_eq_true]at g;exact agV (af3 j _ (h _ g.1) (h _ g.2))
 case binOp op t x y u=>
  simp only[sa,Bool.and_eq_true]at g;exact sX (.bind (agM j _ _ _ _ (h _ g.1.2) (h _ g.2)) fun σ _ _ hl _=>agN j _ _ g.1.1 ((h _ g.1.2).mono hl) ((h _ g.2).mono hl))
 case unOp op t x=>exact by simp only[sa,Bool.and_eq_true]at g;exact sX (agF _ g.1 (h _ g.2))
 case makeInterface t x=>exact sX (agn j _ (h _ g))
 case makeFunc fn a b=>
  simp only[sa,Bool.and_eq_true]at g;exact sX (.pure (.Hr (ag7 g.1.1) (h.args g.1.2) (h.args g.2)))
 case makeSlice t l c=>
  simp only[sa,Bool.and_eq_true]at g;exact sX (ago j p _ (h _ g.1) (h _ g.2))
 case slice t x l w m=>
  simp only[sa,Bool.and_eq_true]at g;exact sX (agm j _ g.1.1.1.1 (h _ g.1.1.1.2) (h.PT g.1.1.2) (h.PT g.1.2) (h.PT g.2))
 case fieldAddr s x f=>exact sX (agh j _ (h _ g) _)
 case indexAddr t x i=>
  simp only[sa,Bool.and_eq_true]at g;exact sX (agi j _ g.1.1 (h _ g.1.2) (h _ g.2))
 case extract t i=>exact sX (agq (h _ g) _)
 case call c=>
  simp only[sa,Bool.or_eq_true,Bool.and_eq_true]at g;rcases g with g|⟨q,g⟩
  ·exact .bind (ag8 h g _) fun σ d v _ hd=>HM j p hF hd.target hd.args
  ·simp only[HL,Bool.and_eq_true]at g;have r:=h.args g.2;grind[resolve,ag6]
 case panic x=>exact sX (agS j (h _ g))
end
end
variable {f f':Frame}{es:Array Event}
section
attribute [-simp] Sem.runT_eq
def j3(P:Program)(upd:Bool):Code->Bool
 | .skip| .exit _ | .label _ | .goto _ | .ret| .refuse _=>true
 | .region _ ops _=>ops.all fun o=>sa P upd o.op
 | .seq a b=>j3 P upd a&&j3 P upd b
 | .cond c a b=>iW P c&&j3 P upd a&&j3 P upd b
 | .block _ b| .loop b| .scope b=>j3 P upd b
 | .rangeFunc f _ a b=>iW P f&&j3 P upd a&&j3 P upd b
def cU.PV(C:cU):Prop:=∀c,C.ma c↔j3 C.P C.upd c=true
inductive uD(C:cU)(ρ:ay):Item->Item->Prop
 |code {c:Code} (h:C.ma c):uD C ρ (.code c) (.code c)
 |inBlock (id:Nat):uD C ρ (.inBlock id) (.inBlock id)
 |inLoop {c:Code} (h:C.ma c):uD C ρ (.inLoop c) (.inLoop c)
 |inScope {c:Code} (h:C.ma c):uD C ρ (.inScope c) (.inScope c)
 |inRegion {ops:Array Oper} (h:∀o∈ops,sa C.P C.upd o.op=true) (todo:List Nat):uD C ρ (.inRegion ops todo) (.inRegion ops todo)
 |inRangeFunc {l aW:Nat} (h:ρ.rel l aW):uD C ρ (.inRangeFunc l) (.inRangeFunc aW)
 |endRangeFunc {l aW:Nat} (h:ρ.rel l aW):uD C ρ (.endRangeFunc l) (.endRangeFunc aW)
 |beginRound:uD C ρ .beginRound .beginRound
theorem uD.mono{C:cU}{ρ σ:ay}(hl:ay.le ρ σ){a b:Item}(h:uD C ρ a b):uD C σ a b:=by cases h with|code h=>exact .code h|inBlock id=>exact .inBlock id|inLoop h=>exact .inLoop h|inScope h=>exact .inScope h|inRegion h t=>exact .inRegion h t|inRangeFunc h=>exact .inRangeFunc (hl.1 _ _ h)|endRangeFunc h=>exact .endRangeFunc (hl.1 _ _ h)|beginRound=>exact .beginRound
abbrev nr(C:cU)(ρ:ay):=dJ (uD C ρ)
theorem nr.mono{C:cU}{ρ σ:ay}(hl:ay.le ρ σ){a b:List Item}(h:nr C ρ a b):nr C σ a b:=dJ.mono (fun _ _ x=>x.mono hl) h
structure CB(ρ:ay)(e fQ:PanicEntry):Prop where
 v:aA ρ e.v fQ.v
 recovered:e.recovered=fQ.recovered
 goexit:e.goexit=fQ.goexit
theorem CB.mono{ρ σ:ay}(hl:ay.le ρ σ){a b:PanicEntry}(h:CB ρ a b):CB σ a b:=⟨h.v.mono hl,h.recovered,h.goexit⟩
inductive wW(ρ:ay):FrameMode->FrameMode->Prop
 |run:wW ρ .run .run
 |returning:wW ρ .returning .returning
 |panicking {l aW:List PanicEntry} (h:dJ (CB ρ) l aW):wW ρ (.panicking l) (.panicking aW)
theorem wW.mono{ρ σ:ay}(hl:ay.le ρ σ){a b:FrameMode}(h:wW ρ a b):wW σ a b:=by cases h with|run=>exact .run|returning=>exact .returning|panicking h=>exact .panicking (dJ.mono (fun _ _ x=>x.mono hl) h)
structure en(C:cU)(ρ:ay)(f f':Frame):Prop where
 fn:f.fn=f'.fn
 known:∃fn c,C.P.funcs[f.fn]?=some fn/\fn.body=some c
 tmps:a3 ρ f.tmps f'.tmps
 todo:nr C ρ f.todo f'.todo
 defers:tK ρ f.defers f'.defers
 mode:wW ρ f.mode f'.mode
 kind:f.kind=f'.kind
 plain:f.kind=.normal\/f.kind=.deferred
 roundOf:qe ρ.rel f.roundOf f'.roundOf
theorem en.mono{C:cU}{ρ σ:ay}(hl:ay.le ρ σ){a b:Frame}(h:en C ρ a b):en C σ a b:=
 ⟨h.fn,h.known,h.tmps.mono hl,nr.mono hl h.todo,tK.mono hl h.defers,h.mode.mono hl,h.kind,h.plain,h.roundOf.mono fun _ _ x=>hl.1 _ _ x⟩
abbrev jg(C:cU)(ρ:ay):=dJ (en C ρ)
theorem jg.mono{C:cU}{ρ σ:ay}(hl:ay.le ρ σ){a b:List Frame}(h:jg C ρ a b):jg C σ a b:=dJ.mono (fun _ _ x=>x.mono hl) h
def jh:Frame->List Frame->Prop
 |f,[]=>f.kind=.normal/\f.roundOf=none
 | _,c::cs=>jh c cs
def bb(fr:Frame)(cs:List Frame):Goroutine:={frame:=fr,callers:=cs,status:=.running,dying:=none}
def iY(C:cU)(S:Sync)(ρ:ay)(b0 base:List Frame)(w':World)(g1:Goroutine)(w1:World)(s':GStep):Prop:=
 ∃σ uE sY zn Fo qb es',g1=bb uE (sY++b0)/\s'=.go (bb zn (Fo++base)) qb es'/\en C σ uE zn/\jg C σ sY Fo/\jh uE sY/\eN C S σ w1 qb/\zj ρ σ w' qb/\∀e∈es',yb σ e
theorem zo{p:Program}{fn:FuncId}{e:Event}(h:e∈seen p fn es):e∈es:=by
 unfold seen at h;obtain⟨l⟩:=es;simp only[List.foldl_toArray]at h;suffices key:∀(l:List Event)(q:Bool)(k:Array Event),e∈(l.foldl (fun(x:Bool×Array Event)(e:Event)=>match e.loc with
  | .mark (.extern f)=>((p.funcs[f]?).any (·.norace),x.2)
  | _=>(x.1,if x.1&& !e.sync then x.2 else x.2.push e)) (q,k)).2->e∈k\/e∈l by
  have:=key l _ _ h;grind
 intro l;induction l with|nil=>grind|cons x l a=>grind
section
variable {C:cU} {ρ:ay}
theorem en.eval(h:en C ρ f f')(b:∀g,g<=C.P.globals.size->ρ.rel g g):vK C ρ f.eval f'.eval:=by intro x a;cases x with|tmp t=>exact h.tmps.getD (.undef ρ) t|const v=>exact(WG 4 v a).rel ρ|global g=>exact .e7 ⟨b g (Nat.le_of_lt (of_decide_eq_true a)),rfl,rfl⟩|func f=>exact .Hr (.func f) (.nil ρ) (.nil ρ)
theorem en.finish(h:en C ρ f f')(e:aA ρ v v'):en C ρ (f.finish v) (f'.finish v'):=by
 have ht:=h.todo;unfold Frame.finish;revert ht;cases m:f.todo with
 |nil=>intro ht;cases b:f'.todo with|nil=>grind|cons a l=>rw[b]at ht;cases ht
 |cons i k=>
  intro ht;cases b:f'.todo with
  |nil=>rw[b]at ht;cases ht
  |cons j k'=>
   rw[b]at ht;cases ht with
   |cons hi c=>
    cases hi with
    |inRegion g todo=>cases todo with|nil=>grind|cons n rest=>simp only[];refine⟨h.fn,h.known,?_,.cons (.inRegion g rest) c,h.defers,h.mode,h.kind,h.plain,h.roundOf⟩;cases((_:Option Oper).bind (·.dst))with|none=>exact h.tmps|some d=>exact h.tmps.set e d
    |inRangeFunc hl=>exact⟨h.fn,h.known,h.tmps,.cons (.endRangeFunc hl) c,h.defers,h.mode,h.kind,h.plain,h.roundOf⟩
    |beginRound=>exact⟨h.fn,h.known,h.tmps,c,h.defers,h.mode,h.kind,h.plain,h.roundOf⟩
    | _=>exact h
end
end
variable {g:Frame}{cs:List Frame}
section
attribute [-simp] Sem.runT_eq
theorem jh.push(h:jh f cs):jh g (f::cs):=h
theorem jh.PW{c:Frame}(h:jh f (c::cs)):jh c cs:=h
theorem jh.same(h:jh f cs)(b:g.kind=f.kind)(a:g.roundOf=f.roundOf):jh g cs:=by cases cs with|nil=>exact⟨b.trans h.1,a.trans h.2⟩|cons c cs=>exact h
theorem AH(f:Frame)(v:Value):(f.finish v).kind=f.kind/\(f.finish v).roundOf=f.roundOf:=by unfold Frame.finish;grind
theorem vL(f:Frame)(c:List PanicEntry):(f.raise c).kind=f.kind/\(f.raise c).roundOf=f.roundOf:=by unfold Frame.raise;grind
section
variable {C:cU} {ρ:ay}
theorem en.raise(h:en C ρ f f'){c c':List PanicEntry}(b:dJ (CB ρ) c c'):en C ρ (f.raise c) (f'.raise c'):=by have a:=h.mode;unfold Frame.raise;revert a;cases f.mode with|run=>intro a;generalize f'.mode=m' at a;cases a;exact⟨h.fn,h.known,h.tmps,h.todo,h.defers,.panicking b,h.kind,h.plain,h.roundOf⟩|returning=>intro a;generalize f'.mode=m' at a;cases a;exact⟨h.fn,h.known,h.tmps,h.todo,h.defers,.panicking b,h.kind,h.plain,h.roundOf⟩|panicking l=>intro a;generalize f'.mode=m' at a;cases a with|panicking hl=>exact⟨h.fn,h.known,h.tmps,h.todo,h.defers,.panicking (b.append hl),h.kind,h.plain,h.roundOf⟩
theorem en.zp(h:en C ρ f f'){t a:List Item}(ht:nr C ρ t a):en C ρ {f with todo:=t} {f' with todo:=a}:=⟨h.fn,h.known,h.tmps,ht,h.defers,h.mode,h.kind,h.plain,h.roundOf⟩
theorem en.CC(h:en C ρ f f'){d a:List Deferred}(hd:tK ρ d a):en C ρ {f with defers:=d} {f' with defers:=a}:=⟨h.fn,h.known,h.tmps,h.todo,hd,h.mode,h.kind,h.plain,h.roundOf⟩
theorem en.wX(h:en C ρ f f'){m a:FrameMode}(b:wW ρ m a):en C ρ {f with mode:=m} {f' with mode:=a}:=⟨h.fn,h.known,h.tmps,h.todo,h.defers,b,h.kind,h.plain,h.roundOf⟩
theorem a3.aha(n:Nat):a3 ρ (Array.replicate n undef) (Array.replicate n undef):=by
 refine⟨rfl,fun i v v' a b=>?_⟩;rw[a]at b;cases b;rw[Array.getElem?_replicate]at a;split at a
 ·cases a;exact .undef ρ
 grind
theorem en.enter(hF:C.CA){f:FuncId}{fn:Func}{c:Code}{a a':Array Value}(h:a3 ρ a a')(d:C.P.funcs[f]?=some fn)(b:fn.body=some c){k:CallKind}(g:k=.normal\/k=.deferred):
 en C ρ (Frame.enter C.P f a k) (Frame.enter C.Q f a' k):=by
 obtain⟨e,i,_⟩:=hF.body f fn c d b;unfold Frame.enter;simp only[d,e,b,Option.map_some,Option.getD_some,Option.bind_some,h.size];exact⟨rfl,⟨fn,c,d,b⟩,h.append (.aha _),.cons (.code i) .nil,.nil,.run,rfl,g,.none⟩
theorem en.round{f:FuncId}(d:∃fn c,C.P.funcs[f]?=some fn/\fn.body=some c){t a:Array Value}(hl:ρ.rel l aW)(ht:a3 ρ t a)(g:C.ma assign)(e:C.ma body){k:CallKind}(b:k=.normal\/k=.deferred):
 en C ρ (Frame.round l f t assign body k) (Frame.round aW f a assign body k):=
 ⟨rfl,d,ht,.cons (.code g) (.cons .beginRound (.cons (.code e) .nil)),.nil,.run,rfl,b,.some hl⟩
end
end
variable {me:Array Event}
theorem AI{s:GStep}{g:Goroutine}{w:World}(h:GStep.after es s=.go g w me):∃a,s=.go g w a:=by
 cases s<;>simp[GStep.after]at h
 simp_all
variable {fr:Frame}{g1:Goroutine}
theorem PX{a8:List ByteArray}{m:String}{b:Bool}{w w1:World}(h:dieOf fr a8 m b w=.go g1 w1 es):g1.dying≠none:=by grind[dieOf]
theorem WP{d:Option Dying}{m:String}{w w1:World}(h:endFatal P fr cs d m w=.go g1 w1 es):g1.dying≠none:=by unfold endFatal at h;grind[PX]
variable {aY:Frame}{b0 bf:List Frame}
section
variable {C:cU} {S:Sync} {ρ:ay}
theorem nr.ahb{t a:List Item}(h:nr C ρ t a):(match t with| .call _ true _ _::_=>CallKind.wrapped| _=>.normal)=.normal/\(match a with| .call _ true _ _::_=>CallKind.wrapped| _=>.normal)=.normal:=by cases h with|nil=>grind|cons hi _=>cases hi<;>exact⟨rfl,rfl⟩
theorem PY(hF:C.CA){base:List Frame}{w w':World}{s l:Sem Next}{w1:World}
 (o:en C ρ fr aY) (M:jg C ρ cs bf) (j:jh fr cs) (H:eN C S ρ w w') (I:au C ρ (r_ C) s l) (Q:C.P.follows .rangeFuncRecover=true\/fr.roundOf=none)
 (U:C.Q.follows .rangeFuncRecover=C.P.follows .rangeFuncRecover)
 (h:stepG.apply C.P true fr (cs++b0) none s w=.go g1 w1 me) (hrun:g1.status=.running) (B:g1.dying=none) (n:(iX (stepG.apply C.Q true aY (bf++base) none l w')).drawn<=S.bound):iY C S ρ b0 base w' g1 w1 (stepG.apply C.Q true aY (bf++base) none l w'):=by
 have A:=nr.ahb o.todo;have lS:Good (s.run C.P w):=by
  unfold stepG.apply at h;simp only[Sem.runT_eq,if_true]at h;obtain⟨E,a⟩:=AI h;cases z:s.run C.P w with
  |ok T D=>trivial
  |halt x D=>
   rw[z]at a;cases x with
   |panic v=>trivial
   |goexit=>trivial
   |blocked=>grind
   |waiting=>grind
   |unsupported u=>cases u<;>first|trivial|(simp at a)
   |exit c=>grind
   |fatal m=>grind[WP]
   |throw m=>exact absurd B (PX a)
   |stuck m=>grind
 obtain⟨σ,V,q,f,N⟩:=I S w w' H lS (Nat.le_trans (Fl C.Q aY (bf++base) none l w') n);obtain⟨d,hd,F⟩:=N #[];rw[Array.empty_append]at hd;have hl:=f.le;have i:=o.mono hl;have g:=jg.mono hl M;have evs:∀e∈seen C.Q aY.fn d,yb σ e:=fun e K=>F e (zo K);unfold stepG.apply at h⊢;simp only[Sem.runT_eq,if_true]at h⊢;rw[hd];obtain⟨E,a⟩:=AI h;clear h;generalize z:s.run C.P w=r at a q;generalize W:l.run C.Q w'=c5 at q⊢;have early:(aY.kind== .early)=false:=by rcases o.plain with x|x<;>rw[<-o.kind,x]<;>rfl
 cases q with
 |@ok _ _ X _ P b=>
  cases P with
  |value p=>simp only[GStep.go.injEq]at a;obtain⟨rfl,rfl,_⟩:=a;simp only[early];exact⟨σ,_,cs,_,bf,_,_,rfl,rfl,i.finish p,g,j.same (AH _ _).1 (AH _ _).2,b,f,AU⟩
  |skip=>simp only[GStep.go.injEq]at a;obtain⟨rfl,rfl,_⟩:=a;simp only[early];exact⟨σ,_,cs,_,bf,_,_,rfl,rfl,i.finish (.undef σ),g,j.same (AH _ _).1 (AH _ _).2,b,f,AU⟩
  |enter t O n=>
   simp only[GStep.go.injEq]at a;obtain⟨rfl,rfl,_⟩:=a;simp only[early];have y:∀k k':CallKind,k=.normal->k'=.normal->en C σ (Frame.enter C.P _ _ k) (Frame.enter C.Q _ _ k'):=fun k k' e L=>by subst e;subst L;exact .enter hF t O n Jt
   exact⟨σ,_,fr::cs,_,aY::bf,_,_,rfl,rfl,y _ _ A.1 A.2,.cons i g,j.push,b,f,AU⟩
  |round J R ht t n=>simp only[GStep.go.injEq]at a;obtain⟨rfl,rfl,_⟩:=a;simp only[early];exact⟨σ,_,fr::cs,_,aY::bf,_,_,rfl,rfl,.round J R ht t n Jt,.cons i g,j.push,b,f,AU⟩
 |panic p b=>simp only[GStep.go.injEq]at a;obtain⟨rfl,rfl,_⟩:=a;simp only[early];exact⟨σ,_,cs,_,bf,_,_,rfl,rfl,i.raise (.cons ⟨p,rfl,rfl⟩ .nil),g,j.same (vL _ _).1 (vL _ _).2,b,f,AU⟩
 |goexit b=>simp only[GStep.go.injEq]at a;obtain⟨rfl,rfl,_⟩:=a;simp only[early];exact⟨σ,_,cs,_,bf,_,_,rfl,rfl,i.raise (.cons ⟨.undef σ,rfl,rfl⟩ .nil),g,j.same (vL _ _).1 (vL _ _).2,b,f,AU⟩
end
section
section
variable {C:cU} {S:Sync} {ρ:ay}
structure cU.Good(C:cU):Prop where
 same:C.cz
 Fp:C.wU
 funcs:C.CA
 qg:C.PV
 PZ:C.P.follows .rangeFuncRecover=true
theorem cU.Good.follows(h:C.Good)(d:Departure):C.Q.follows d=C.P.follows d:=by unfold Tables.follows;rw[h.same]
theorem ahd(id:Nat){k k':List Item}(h:nr C ρ k k'):qe (nr C ρ) (exitTo id k) (exitTo id k'):=by
 induction h with
 |nil=>exact .none
 |cons hi b a=>
  cases hi with
  |inBlock c=>
   simp only[exitTo];split
   ·exact .some b
   grind
  | _=>exact a
theorem ahf(d:C.PV):∀(c:Code)(l:Nat)(r:Code),C.ma c->findLabel c l=some r->C.ma r:=by
 intro c;induction c with
 |seq a b i g=>intro l r e h;rw[d]at e;simp only[j3,Bool.and_eq_true]at e;simp only[findLabel]at h;cases f:findLabel a l with|some rest=>rw[f]at h;cases h;have:=i l rest ((d a).2 e.1) f;rw[d]at this⊢;simp_all[j3]|none=>rw[f]at h;exact g l r ((d b).2 e.2) h
 |label aW=>
  intro l r _ h;simp only[findLabel]at h;split at h
  ·cases h;rw[d];rfl
  grind
 | _=>intro l r _ h;cases h
theorem ahg(f:C.PV)(l:Nat){k k':List Item}(h:nr C ρ k k'):qe (nr C ρ) (gotoIn l k) (gotoIn l k'):=by
 induction h with
 |nil=>exact .none
 |cons hi d a=>
  cases hi with
  |@inScope c b=>simp only[gotoIn];cases e:findLabel c l with|some r=>exact .some (.cons (.code (ahf f c l r b e)) (.cons (.inScope b) d))|none=>exact a
  | _=>exact a
theorem WR{t b:Array Value}(h:a3 ρ t b)(ops:Array Oper):yielded ops t=yielded ops b:=by
 funext j
 unfold yielded;cases((ops[j]?).bind (·.dst))with|none=>rfl|some d=>simp only[Option.bind_some];cases ht:t[d]? with|none=>rw[h.none ht]|some v=>obtain⟨v',a,c⟩:=h.some ht;rw[a];cases c<;>rfl
theorem uG{a b:Frame}{base:List Frame}{w w':World}(g:jg C ρ cs bf)(h:jh fr cs)(c:eN C S ρ w w')
 (e:a.kind=fr.kind) (d:a.roundOf=fr.roundOf) (f:en C ρ a b):iY C S ρ b0 base w' (bb a (cs++b0)) w (.go (bb b (bf++base)) w'):=
 ⟨ρ,_,cs,_,bf,_,_,rfl,rfl,f,g,h.same e d,c,.refl _ _,Aa⟩
theorem WS{main main':Bool}{c c':Frame}{base:List Frame}{w w':World}{w1:World}
 (p:en C ρ fr aY) (f:en C ρ c c') (j:jg C ρ cs bf) (k:jh c cs) (i:eN C S ρ w w') (z:aA ρ v v')
 (h:doReturn C.P main fr (c::(cs++b0)) none v w=.go g1 w1 me):iY C S ρ b0 base w' g1 w1 (doReturn C.Q main' aY (c'::(bf++base)) none v' w'):=by
 unfold doReturn at h⊢;rcases p.plain with d|d
 ·have o:=p.kind.symm.trans d;simp only[d,GStep.go.injEq]at h;obtain⟨rfl,rfl,_⟩:=h;simp only[o];exact⟨ρ,_,cs,_,bf,_,_,rfl,rfl,f.finish z,j,k.same (AH _ _).1 (AH _ _).2,i,.refl _ _,Aa⟩
 ·have o:=p.kind.symm.trans d;simp only[d,GStep.go.injEq]at h;obtain⟨rfl,rfl,_⟩:=h;simp only[o];have n:=f.mode;generalize I:c.mode=m at n;generalize H:c'.mode=m' at n;have keep:iY C S ρ b0 base w' (bb c (cs++b0)) w (.go (bb c' (bf++base)) w'):=uG j k i rfl rfl f;cases n with
  |run=>exact keep
  |returning=>exact keep
  |panicking hl=>
   cases hl with
   |nil=>exact keep
   |@cons e D s r B A=>
    obtain⟨ev,q,J⟩:=e;obtain⟨lv,F,E⟩:=D;obtain⟨x,u,t⟩:=B;simp only at x u t;subst u;subst t;cases q with
    |false=>exact keep
    |true=>
     simp only[];have drop:∀(l aW:List PanicEntry),dJ (CB ρ) l aW->dJ (CB ρ) (l.dropWhile (!·.goexit)) (aW.dropWhile (!·.goexit)):=by
      intro l aW hl;induction hl with
      |nil=>exact .nil
      |cons g ht y=>
       simp only[List.dropWhile_cons,g.goexit];split
       ·exact y
       ·exact .cons g ht
     have hd:=drop _ _ A;generalize s.dropWhile (!·.goexit)=a at hd;generalize r.dropWhile (!·.goexit)=b at hd;cases hd with|nil=>exact uG (fr:=c) j k i rfl rfl (f.wX .returning)|cons g ht=>exact uG (fr:=c) j k i rfl rfl (f.wX (.panicking (.cons g ht)))
theorem iY.after{w' g:World}{σ:ay}{base:List Frame}{w1:World}{i:GStep}(m:zj ρ σ w' g)(l:∀e∈es,yb σ e)(h:iY C S σ b0 base g g1 w1 i):iY C S ρ b0 base w' g1 w1 (GStep.after es i):=by
 obtain⟨q,a,b,c,d,e,f,p,rfl,o,n,r,s,j,t⟩:=h;refine⟨q,a,b,c,d,e,es++f,p,rfl,o,n,r,s,m.trans j,fun x k=>?_⟩;rcases Array.mem_append.1 k with y|y
 ·exact(l x y).mono j.le
 grind
end
end
end az
open RowKit
def bC(w w':World):Prop:=∀b o v,w.cell? ⟨b,o,none⟩=some v->w'.cell? ⟨b,o,none⟩=some v
theorem bC.refl(w:World):bC w w:=fun _ _ _ h=>h
variable {a:World}
theorem bC.trans{b c:World}(h:bC a b)(k:bC b c):bC a c:=fun x o v e=>k x o v (h x o v e)
variable {w:World}{b o:Nat}{v:Value}
theorem gX(h:w.cell? ⟨b,o,none⟩=some v):b<w.heap.size:=by grind[World.cell?]
variable {w':World}
theorem bC.cW(h:Below w.heap.size w w'):bC w w':=fun b o v e=>by rw[h.cell (p:=⟨b,o,none⟩) (gX e)];exact e
def bd{ar:Type}(w:World)(iI:Nat)(R:World->(Nat->Option Value)->ar->Prop)(v:Value)(xs:List ar):Prop:=
 ∃bL cap,v=.slice bL xs.length cap/\xs.length<=9223372036854775807/\
  ∀i(h:i<xs.length),∃b off,bL=some ⟨b,off,none⟩/\R w (fun j=>w.cell? ⟨b,off+i*iI+j,none⟩) xs[i]
def sV{ar:Type}(R:World->(Nat->Option Value)->ar->Prop):Prop:=
 ∀w w' rd mg x,bC w w'->(∀j v,rd j=some v->mg j=some v)->R w rd x->R w' mg x
theorem bd.mono{ar:Type}{a:Nat}{R:World->(Nat->Option Value)->ar->Prop}(k:sV R)(c:bC w w'){xs:List ar}(h:bd w a R v xs):bd w' a R v xs:=by obtain⟨l,cap,d,hl,m⟩:=h;refine⟨l,cap,d,hl,fun i hi=>?_⟩;obtain⟨b,off,g,f⟩:=m i hi;exact⟨b,off,g,k _ _ _ _ _ c (fun j v e=>c _ _ _ e) f⟩
theorem bd.nil{ar:Type}(w:World)(a:Nat)(R:World->(Nat->Option Value)->ar->Prop):bd w a R (.slice none 0 0) []:=
 ⟨none,0,rfl,Aa,AU⟩
def w5(_:World)(rd:Nat->Option Value)(x:Int):Prop:=rd 0=some (.int .i64 x)
def CH(_:World)(rd:Nat->Option Value)(s:ByteArray):Prop:=rd 0=some (.string s)/\s.size<=9223372036854775807
def AN(_:World)(rd:Nat->Option Value)(x:Bool):Prop:=rd 0=some (.bool x)
def Lz(_:World)(rd:Nat->Option Value)(t:Int×Int):Prop:=rd 0=some (.int .i64 t.1)/\rd 1=some (.int .i64 t.2)
theorem H0:sV w5:=fun _ _ _ _ _ _ a h=>a _ _ h
theorem Xh:sV AN:=fun _ _ _ _ _ _ a h=>a _ _ h
theorem Xi:sV CH:=fun _ _ _ _ _ _ a h=>⟨a _ _ h.1,h.2⟩
theorem s3:sV Lz:=fun _ _ _ _ _ _ a h=>⟨a _ _ h.1,a _ _ h.2⟩
abbrev km(w:World):=bd w 1 w5
abbrev Qf(w:World):=bd w 1 CH
abbrev H2(w:World):=bd w 1 AN
abbrev fh(w:World):=bd w 2 Lz
structure br where
 kind:Int
 cE:Int
 jP:List Int
 hQ:List ByteArray
 fY:List Bool
structure w6(w:World)(bQ vs bo:Value)(c:br):Prop where
 jP:km w bQ c.jP
 hQ:Qf w vs c.hQ
 fY:H2 w bo c.fY
def Qg(w:World)(rd:Nat->Option Value)(c:br):Prop:=
 ∃bQ vs bo,rd 0=some (.int .i64 c.kind)/\rd 1=some (.int .i64 c.cE)/\rd 2=some bQ/\rd 3=some vs/\rd 4=some bo/\w6 w bQ vs bo c
variable {bo vs:Value}
theorem w6.mono(a:bC w w'){bQ:Value}{c:br}(h:w6 w bQ vs bo c):w6 w' bQ vs bo c:=
 ⟨h.jP.mono H0 a,h.hQ.mono Xi a,h.fY.mono Xh a⟩
theorem w6.shape{bQ:Value}{c:br}(h:w6 w bQ vs bo c):∃d ci b a an e,bQ=.slice d c.jP.length ci/\vs=.slice b c.hQ.length a/\bo=.slice an c.fY.length e:=by obtain⟨d,ci,i,-,-⟩:=h.jP;obtain⟨b,a,g,-,-⟩:=h.hQ;obtain⟨an,e,f,-,-⟩:=h.fY;grind
theorem se:sV Qg:=fun _ _ _ _ _ b a⟨bQ,vs,bo,h0,g,f,e,d,c⟩=>
 ⟨bQ,vs,bo,a _ _ h0,a _ _ g,a _ _ f,a _ _ e,a _ _ d,c.mono b⟩
abbrev lV(w:World):=bd w 5 Qg
def Qh(w:World)(rd:Nat->Option Value)(t:List br):Prop:=∃v,rd 0=some v/\lV w v t
theorem LA:sV Qh:=fun _ _ _ _ _ b a⟨v,h0,h⟩=>⟨v,a _ _ h0,h.mono se b⟩
abbrev CI(w:World):=bd w 1 Qh
structure cd where
 op:Int
 a:Int
 v:Int
 s:ByteArray
def LB(_:World)(rd:Nat->Option Value)(t:cd):Prop:=
 rd 0=some (.int .i64 t.op)/\rd 1=some (.int .i64 t.a)/\rd 2=some (.int .i64 t.v)/\rd 3=some (.string t.s)/\t.s.size<=9223372036854775807
theorem w7:sV LB:=fun _ _ _ _ _ _ a h=>⟨a _ _ h.1,a _ _ h.2.1,a _ _ h.2.2.1,a _ _ h.2.2.2.1,h.2.2.2.2⟩
abbrev Fy(w:World):=bd w 4 LB
def Qi(w:World)(rd:Nat->Option Value)(e:List cd):Prop:=∃v,rd 0=some v/\Fy w v e
theorem ns:sV Qi:=fun _ _ _ _ _ b a⟨v,h0,h⟩=>⟨v,a _ _ h0,h.mono w7 b⟩
abbrev mP(w:World):=bd w 1 Qi
abbrev aif(w:World):=bd w 2 Lz
structure ps where
 op:Int
 a:Int
 b:Int
 n4:List (List cd)
 H3:List Int
 Fz:List Int
 H4:List (Int×Int)
structure AO(w:World)(kK c9 nt bW:Value)(n:ps):Prop where
 n4:mP w kK n.n4
 H3:km w c9 n.H3
 Fz:km w nt n.Fz
 H4:aif w bW n.H4
variable {bW c9 kK nt:Value}
theorem AO.mono(a:bC w w'){n:ps}(h:AO w kK c9 nt bW n):AO w' kK c9 nt bW n:=
 ⟨h.n4.mono ns a,h.H3.mono H0 a,h.Fz.mono H0 a,h.H4.mono s3 a⟩
theorem AO.shape{n:ps}(h:AO w kK c9 nt bW n):∃b ce a c e co aa d,kK=.slice b n.n4.length ce/\c9=.slice a n.H3.length c/\nt=.slice e n.Fz.length co/\bW=.slice aa n.H4.length d:=by obtain⟨b,ce,j,-,-⟩:=h.n4;obtain⟨a,c,i,-,-⟩:=h.H3;obtain⟨e,co,g,-,-⟩:=h.Fz;obtain⟨aa,d,f,-,-⟩:=h.H4;grind
def Xj(w:World)(rd:Nat->Option Value)(n:ps):Prop:=
 ∃kK c9 nt bW,rd 0=some (.int .i64 n.op)/\rd 1=some (.int .i64 n.a)/\rd 2=some (.int .i64 n.b)/\rd 3=some kK/\rd 4=some c9/\rd 5=some nt/\rd 6=some bW/\AO w kK c9 nt bW n
theorem Qj:sV Xj:=fun _ _ _ _ _ b a⟨kK,c9,nt,bW,h0,f,e,d,c,g,i,h⟩=>
 ⟨kK,c9,nt,bW,a _ _ h0,a _ _ f,a _ _ e,a _ _ d,a _ _ c,a _ _ g,a _ _ i,h.mono b⟩
abbrev Qk(w:World):=bd w 7 Xj
abbrev eo(t:Int×Int):Value:=.agg #[.int .i64 t.1,.int .i64 t.2]
variable {W w1:World}
theorem Xk(a:Below W.heap.size W w1):(∀b o,b<W.heap.size->w1.cell? ⟨b,o,none⟩=W.cell? ⟨b,o,none⟩)/\(∀b o,b<W.heap.size->w1.frozen? ⟨b,o,none⟩=W.frozen? ⟨b,o,none⟩):=
 ⟨fun b o h=>a.cell (p:=⟨b,o,none⟩) h,fun b o h=>a.frozen (p:=⟨b,o,none⟩) h⟩
theorem after(B:Nat)(a:Below W.heap.size W w1)(c:B<=W.heap.size):(∀b o,b<B->w1.cell? ⟨b,o,none⟩=W.cell? ⟨b,o,none⟩)/\(∀b o,b<B->w1.frozen? ⟨b,o,none⟩=W.frozen? ⟨b,o,none⟩)/\B<=w1.heap.size:=
 ⟨fun b o h=>(Xk a).1 b o Ay,fun b o h=>(Xk a).2 b o Ay,by have:=a.size;omega⟩
theorem Below.step{B:Nat}{w W w1:World}(a:Below W.heap.size W w1)(h:Below B w W)(b:B<=W.heap.size):Below B w w1:=h.trans (a.mono b)
theorem bC.alloc(h:bC a w)(o:Obj):bC a (w.alloc o):=
 h.trans (bC.cW ((Below.refl _ _).alloc Jr o))
theorem bC.drew(h:bC a w):bC a w.drew:=fun b o v e=>by simpa using h b o v e
theorem bC.step{a W w1:World}(h:bC a W)(b:Below W.heap.size W w1):bC a w1:=h.trans (bC.cW b)
def af(w:World)(b:Nat)(cs:Array Value)(T:TypeId):Prop:=w.heap[b]?=some (.cells cs T (0,0))
variable {cs:Array Value}{T:TypeId}
theorem af.lt(h:af w b cs T):b<w.heap.size:=by grind[af]
theorem af.bT(h:af w b cs T):(∀o,w.cell? ⟨b,o,none⟩=cs[o]?)/\(∀o,w.frozen? ⟨b,o,none⟩=false):=by grind[af,World.cell?,World.frozen?]
theorem af.all(h:af w b cs T):(∀o,w.cell? ⟨b,o,none⟩=cs[o]?)/\(∀o,w.frozen? ⟨b,o,none⟩=false)/\b<w.heap.size:=⟨h.bT.1,h.bT.2,h.lt⟩
theorem af.below{B:Nat}(h:af w b cs T)(a:Below B w w')(c:b<B):af w' b cs T:=by unfold af at *;rw[a.block b c];exact h
theorem af.call(h:af w b cs T)(a:Below w.heap.size w w'):af w' b cs T:=h.below a h.lt
theorem af.alloc(h:af w b cs T)(o:Obj):af (w.alloc o) b cs T:=
 h.call ((Below.refl _ _).alloc Jr o)
theorem af.drew(h:af w b cs T):af w.drew b cs T:=h
theorem af.new(w:World)(cs:Array Value)(T:TypeId):af (w.alloc (.cells cs T)) w.heap.size cs T:=by exact heap_alloc_new w _
theorem af.set(h:af w b cs T)(o:Nat)(v:Value):af (w.setCell ⟨b,o,none⟩ v) b (cs.setIfInBounds o v) T:=by grind[af,World.setCell]
theorem af.fu(h:af w b cs T){a:Addr}(c:b≠a.block)(v:Value):af (w.setCell a v) b cs T:=by grind[af,Below.heap_setCell]
theorem yg{aD o':Nat}{u:Value}(h:w.cell? ⟨b,o,none⟩=some v)(a:b≠aD):(w.setCell ⟨aD,o',none⟩ u).cell? ⟨b,o,none⟩=some v:=by grind[World.cell?_of_block,Below.heap_setCell]
namespace b_
open RowKit
structure ko(W W':World):Prop where
 size:W.heap.size<=W'.heap.size
 cells:∀(b:Nat)(c:Array Value)(e:TypeId)(z:Nat×Nat),W.heap[b]?=some (Obj.cells c e z)->W'.heap[b]?=some (Obj.cells c e z)
variable {w:World}
theorem n9{b:Nat}{o:Obj}(h:w.heap[b]?=some o):b<w.heap.size:=(Array.getElem?_eq_some_iff.1 h).1
variable {W:World}
theorem ko.below{a:World}(h:Below W.heap.size W a):ko W a:=⟨h.size,fun b _ _ _ e=>(h.block b (n9 e)).trans e⟩
theorem ko.trans{A B C:World}(h:ko A B)(k:ko B C):ko A C:=⟨Nat.le_trans h.size k.size,fun b c e z x=>k.cells b c e z (h.cells b c e z x)⟩
theorem ko.put{l:Nat}{r c5:Loop}(h:W.heap[l]?=some (.loop r)):ko W (W.putObj l (.loop c5)):=
 ⟨Aa,fun b c e z x=>by
  grind[World.putObj_heap_other]⟩
theorem zD{n₀:Nat}{l:Nat}(o:Obj)(h:n₀<=l):Below n₀ W (W.putObj l o):=
 ⟨rfl,rfl,rfl,Aa,fun k a=>World.putObj_heap_other Ay⟩
def FM(n:Nat)(P:Program)(g:Nat)(lb:Array Value)(Row:Nat->World->Value->Prop)(N n₀:Nat)(w0:World):Prop:=
 ∀(l:Nat)(S:Nat->Prop)(J:Nat->World->Prop)(W:World),Below n₀ w0 W->(∀t W,J t W->∀b,S b->b<W.heap.size)->(∀t W W',J t W->ko W W'->(∀b,S b->W'.heap[b]?=W.heap[b]?)->J t W')->
  (∀t x W1,J t W1->t<N->Row t W1 x->YieldAt Fence.wide (n-1) P l #[x] W1 fun e W'=>e=.returned (.bool true)/\J (t+1) W'/\Below n₀ W1 W')->
  J 0 W->CallsIn Fence.wide n P g (#[.func (.yield l) #[] #[]]++lb) W fun e W'=>(∃v,e=.returned v)/\J N W'/\Below n₀ W W'
theorem QM{S:Nat->Prop}{J:Nat->World->Prop}(c:∀t W,J t W->∀b,S b->b<W.heap.size)(e:∀t W a,J t W->ko W a->(∀b,S b->a.heap[b]?=W.heap[b]?)->J t a):∀t W a,J t W->Below W.heap.size W a->J t a:=
 fun t W a h d=>e t W a h (.below d) fun b f=>d.block b (c t W h b f)
theorem X3{n:Nat}{P:Program}{g:Operand}{p:Tmp}{assign body:Code}{Q:Exit->Act->World->Prop}{a:Act}{gf:Nat}{lb:Array Value}{Row:Nat->World->Value->Prop}{N n₀:Nat}{w0:World}
 (V:a.eval g=.func (.func gf) #[] lb) (AJ:∀args w,(callFunc gf args).run P w=.ok (.enter gf args) w) (H:FM (n-1) P gf lb Row N n₀ w0) (O:Below n₀ w0 w) (D:n₀<=w.heap.size)
 (S:Nat->Prop) (hS:∀b,S b->b<w.heap.size) (I:Nat->World->Prop) (j:∀t W c,I t W->ko W c->(∀b,S b->c.heap[b]?=W.heap[b]?)->I t c) (h0:I 0 w) (m:Nat->Value->Act->World->Prop) (QN:∀t x a' W c,m t x a' W->ko W c->(∀b,S b->c.heap[b]?=W.heap[b]?)->m t x a' c)
 (QO:∀(l t:Nat)(x:Value)(W:World)(K:Act->World->Prop),I t W->t<N->Row t W x->(∀a' c,Below W.heap.size W c->m t x a' c->K a' c)->
  assign.wpIn (Fence.wide.inRound l) (n-1-1) P (Exit.then K (fun _ _ _=>False)) {tmps:=a.tmps.setIfInBounds p x,defers:=[]} W)
 (CE:∀(l t:Nat)(x:Value)(a':Act)(W:World),I t W->t<N->m t x a' W->n₀<=W.heap.size->body.wpIn (Fence.wide.inRound l) (n-1-1) P (fun e _ c=>e=.normal/\KeepsOthers W c/\Below n₀ W c/\I (t+1) c) a' W)
 (hdone:∀W,I N W->Below n₀ w W->W.heap[w.heap.size]?=some (.deferred (some []))->Q .normal {a with defers:={target:=.collected w.heap.size,args:=#[]}::a.defers} W):
 (Code.rangeFunc g #[p] assign body).wpIn Fence.wide n P Q a w:=by
 refine wpIn_rangeFunc ?_;intro fn R;obtain⟨rec,F⟩:∃rec:LoopState->Loop,rec=fun st=>{state:=st,pending:=none,fn,tmps:=a.tmps,params:=#[p],assign,body,defers:=w.heap.size}:=⟨_,rfl⟩;obtain⟨d,QP⟩:∃d,(w.alloc (.deferred (some []))).alloc (.loop (rec .ready))=d:=⟨_,rfl⟩;have HP:d.heap[w.heap.size+1]?=some (.loop (rec .ready)):=by grind[World.alloc_heap_new,World.size_alloc]
 have QQ:d.heap[w.heap.size]?=some (.deferred (some [])):=by grind[Below.heap_alloc,World.alloc_heap_new]
 have k:Below w.heap.size w d:=by rw[<-QP];exact((Below.refl _ w).alloc Jr _).alloc Aa _
 refine⟨w.heap.size+1,[{target:=.collected w.heap.size,args:=#[]}],d,{target:=.fn (.func gf) lb,args:=#[.func (.yield (w.heap.size+1)) #[] #[]]},d,gf,#[.func (.yield (w.heap.size+1)) #[] #[]]++lb,d,?_,?_,fun _ _=>trivial,?_,fun h=>Dn,?_⟩
 ·simp_all[run_enterLoop_outer]
 ·simp only[resolve,V];simp[go_sem]
 ·grind[invoke]
 ·refine(H (w.heap.size+1) (fun b=>S b\/b=w.heap.size\/b=w.heap.size+1) (fun t W=>(I t W/\n₀<=W.heap.size/\w.heap.size<=W.heap.size)/\W.heap[w.heap.size+1]?=some (.loop (rec .ready))/\W.heap[w.heap.size]?=some (.deferred (some []))) d (O.trans (k.mono D)) ?_ ?_ ?_ ⟨⟨j _ _ _ h0 (.below k) (fun b q=>k.block b (hS b q)),AU,k.size⟩,HP,QQ⟩).mono ?_
  ·grind
  ·grind
  ·rintro t x W ⟨⟨hi,J,CG⟩,hl,r⟩ i cg;have A:∀(W:World)(o:Obj) b,S b->(W.putObj (w.heap.size+1) o).heap[b]?=W.heap[b]?:=fun W o b q=>World.putObj_heap_other AU;have z:=run_yield (P:=P) (args:=#[x]) hl AU;rw[F]at z;refine⟨fn,_,assign,body,z,roundIn_of_wpIn R ?_⟩;clear z;have Z:(#[p].zip #[x]).foldl (fun tmps(u:Tmp×Value)=>tmps.setIfInBounds u.1 u.2) a.tmps=a.tmps.setIfInBounds p x:=Aa;refine Eq.mp (congrArg (fun T=>Code.wpIn (Fence.wide.inRound (w.heap.size+1)) (n-1-1) P assign _ {tmps:=T,defers:=[]} W) Z.symm) ?_;refine QO _ t x W _ hi i cg ?_;intro a' E f QS;have s:=(f.block _ (n9 hl)).trans hl;have Y:=(f.block _ (n9 r)).trans r;refine⟨_,run_beginRound s AU,?_⟩;have M:(E.putObj (w.heap.size+1) (.loop {rec .ready with state:=.busy})).heap[w.heap.size+1]?=some (.loop {rec .ready with state:=.busy}):=World.putObj_heap_same (n9 s);have L:(E.putObj (w.heap.size+1) (.loop {rec .ready with state:=.busy})).heap[w.heap.size]?=some (.deferred (some [])):=(World.putObj_heap_other Ay).trans Y;refine wpIn_mono (CE _ t x a' _ (j _ _ _ (j _ _ _ hi (.below f) (fun b q=>f.block b AU)) (.put s) (A _ _)) i (QN _ _ _ _ _ QS (.put s) (A _ _)) AU) ?_;rintro e cG tP ⟨rfl,B,y,A0⟩;have C:=B.same _ _ M rfl;have QT:=B.same _ _ L rfl;have U:=run_endRound (P:=P) none C;refine⟨_,_,U,rfl,⟨⟨j _ _ _ A0 (.put C) (A _ _),by have:=f.size;have:=y.size;simp at this⊢;omega,by have:=f.size;have:=y.size;simp at this⊢;omega⟩,?_,(World.putObj_heap_other Ay).trans QT⟩,?_⟩
   ·grind[World.putObj_heap_same]
   ·exact((f.mono J).trans ((zD _ Ay).trans y)).trans (zD _ Ay)
  ·rintro e W2 ⟨⟨v,rfl⟩,⟨⟨hi,-⟩,hl,r⟩,X⟩;refine⟨none,_,by have:=run_endLoop (P:=P) hl AU;rw[F]at this;exact this,hdone _ (j _ _ _ hi (.put hl) fun b q=>World.putObj_heap_other AU) ?_ ((World.putObj_heap_other Ay).trans r)⟩;exact((k.mono D).trans X).trans (zD _ Ay)
end b_
end Go.Proofs.YtoehnnefaeoeoaaGreat
