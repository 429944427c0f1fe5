import Derived.Test.YtncomcmfgmojkaaGreatP00
import Derived.Conc.CrowdTrace
set_option linter.all false
set_option maxRecDepth 100000
set_option maxHeartbeats 16000000
namespace Go.Proofs.YtncomcmfgmojkaaGreat
abbrev aO:=Go.World
abbrev cg:=Go.Program
namespace av
structure Ren where
 rel:Nat->Nat->Prop
 mine:Nat->Prop
def dt(ρ:Ren)(a a':Addr):Prop:=ρ.rel a.block a'.block/\a.off=a'.off/\a.spot=a'.spot
inductive sG(ρ:Ren):Fn->Fn->Prop
 |func (f:FuncId):sG ρ (.func f) (.func f)
 |yield {l l':Nat} (h:ρ.rel l l'):sG ρ (.yield l) (.yield l')
inductive ay(ρ:Ren):Value->Value->Prop
 |bool (b:Bool):ay ρ (.bool b) (.bool b)
 |int (k:IntKind) (n:Int):ay ρ (.int k n) (.int k n)
 |string (s:ByteArray):ay ρ (.string s) (.string s)
 |lj:ay ρ (.pointer none) (.pointer none)
 |ptr {a a':Addr} (h:dt ρ a a'):ay ρ (.pointer (some a)) (.pointer (some a'))
 |jy (l c:Nat):ay ρ (.slice none l c) (.slice none l c)
 |slice {a a':Addr} (l c:Nat) (h:dt ρ a a'):ay ρ (.slice (some a) l c) (.slice (some a') l c)
 |pT:ay ρ (.map none) (.map none)
 |map {r r':Nat} (h:ρ.rel r r'):ay ρ (.map (some r)) (.map (some r'))
 |o7:ay ρ (.chan none) (.chan none)
 |func {fn ma:Fn} {a a' b b':Array Value} (h:sG ρ fn ma) (ha:a.size=a'.size) (hb:b.size=b'.size)
  (h1:∀(i:Nat)(v v':Value),a[i]?=some v->a'[i]?=some v'->ay ρ v v') (h2:∀(i:Nat)(v v':Value),b[i]?=some v->b'[i]?=some v'->ay ρ v v'):ay ρ (.func fn a b) (.func ma a' b')
 |nilFunc:ay ρ .nilFunc .nilFunc
 |iface (t:TypeId) {v v':Value} (h:ay ρ v v'):ay ρ (.iface t v) (.iface t v')
 |nilIface:ay ρ .nilIface .nilIface
 |agg {a a':Array Value} (hs:a.size=a'.size) (h:∀(i:Nat)(v v':Value),a[i]?=some v->a'[i]?=some v'->ay ρ v v'):ay ρ (.agg a) (.agg a')
 |tuple {a a':Array Value} (hs:a.size=a'.size) (h:∀(i:Nat)(v v':Value),a[i]?=some v->a'[i]?=some v'->ay ρ v v'):ay ρ (.tuple a) (.tuple a')
structure aS(ρ:Ren)(a a':Array Value):Prop where
 size:a.size=a'.size
 get:∀(i:Nat)(v v':Value),a[i]?=some v->a'[i]?=some v'->ay ρ v v'
def Ren.le(ρ σ:Ren):Prop:=(∀b b',ρ.rel b b'->σ.rel b b')/\∀b,ρ.mine b->σ.mine b
def Ren.le_refl(ρ:Ren):Ren.le ρ ρ:=⟨λ_ _ h=>h,λ_ h=>h⟩
variable{ρ σ:Ren}
theorem Ren.le_trans{a:Ren}(h:Ren.le ρ σ)(k:Ren.le σ a):Ren.le ρ a:=⟨λb b' x=>k.1 b b' (h.1 b b' x),λb x=>k.2 b (h.2 b x)⟩
theorem dt.mono(b:Ren.le ρ σ){a a':Addr}(h:dt ρ a a'):dt σ a a':=⟨b.1 _ _ h.1,h.2⟩
theorem sG.mono(b:Ren.le ρ σ){a a':Fn}(h:sG ρ a a'):sG σ a a':=by cases h with|yield h=>exact .yield (b.1 _ _ h)|func f=>exact .func f
variable{v v':Value}
theorem ay.mono(d:Ren.le ρ σ)(h:ay ρ v v'):ay σ v v':=by induction h with|bool b=>exact .bool b|int k n=>exact .int k n|string s=>exact .string s|lj=>exact .lj|ptr h=>exact .ptr (h.mono d)|jy l c=>exact .jy l c|slice l c h=>exact .slice l c (h.mono d)|pT=>exact .pT|map h=>exact .map (d.1 _ _ h)|o7=>exact .o7|func h i g _ _ f e=>exact .func (h.mono d) i g f e|nilFunc=>exact .nilFunc|iface t _ a=>exact .iface t a|nilIface=>exact .nilIface|agg hs _ a=>exact .agg hs a|tuple hs _ a=>exact .tuple hs a
variable{a a':Array Value}
theorem aS.mono(b:Ren.le ρ σ)(h:aS ρ a a'):aS σ a a':=⟨h.size,λi v v' x y=>(h.get i v v' x y).mono b⟩
theorem aS.nil(ρ:Ren):aS ρ #[] #[]:=⟨Y,λi v v' h=>AA⟩
theorem aS.one(h:ay ρ v v'):aS ρ #[v] #[v']:=⟨Y,λi x c a b=>by
 grind⟩
theorem aS.some{ρ:Ren}{a a':Array Value}(h:aS ρ a a'){i:Nat}{v:Value}(b:a[i]?=Option.some v):∃v',a'[i]?=Option.some v'/\ay ρ v v':=by
 have hi:i<a.size:=by grind
 have c:i<a'.size:=h.size▸hi;exact⟨a'[i],AA,h.get i v _ b AA⟩
theorem aS.none(h:aS ρ a a'){i:Nat}(b:a[i]?=Option.none):a'[i]?=Option.none:=by rw[Array.getElem?_eq_none_iff]at b⊢;rw[<-h.size];exact b
variable{b b':Array Value}
theorem aS.append(h:aS ρ a a')(k:aS ρ b b'):aS ρ (a++b) (a'++b'):=by
 refine⟨by simp[h.size,k.size],λi v v' x y=>?_⟩;rw[Array.getElem?_append]at x y;rw[<-h.size]at y;split at x
 .rename_i hi;rw[if_pos hi]at y;exact h.get i v v' x y
 .rename_i hi;rw[if_neg hi]at y;exact k.get _ v v' x y
theorem aS.push(h:aS ρ a a')(k:ay ρ v v'):aS ρ (a.push v) (a'.push v'):=by have e:∀(x:Array Value)(y:Value),x.push y=x++#[y]:=λx y=>A_;rw[e,e];exact h.append (.one k)
def aS.set(h:aS ρ a a')(k:ay ρ v v')(i:Nat):aS ρ (a.setIfInBounds i v) (a'.setIfInBounds i v'):=by
 refine⟨by simp[h.size],λj x d c b=>?_⟩;rw[Array.getElem?_setIfInBounds]at c b;rw[<-h.size]at b;by_cases e:i=j
 .grind
 .rw[if_neg e]at c b;exact h.get j x d c b
theorem aS.extract(h:aS ρ a a')(s e:Nat):aS ρ (a.extract s e) (a'.extract s e):=by
 refine⟨by simp[h.size],λi v v' x y=>?_⟩;rw[Array.getElem?_extract]at x y;rw[<-h.size]at y;split at x
 .rename_i hi;rw[if_pos hi]at y;exact h.get _ v v' x y
 grind
theorem aS.getD(h:aS ρ a a'){d b:Value}(hd:ay ρ d b)(i:Nat):ay ρ (a.getD i d) (a'.getD i b):=by rw[Array.getD_eq_getD_getElem?,Array.getD_eq_getD_getElem?];grind[none,some]
theorem ay.undef(ρ:Ren):ay ρ undef undef:=.tuple Y λi v v' h=>by grind
def ay.pU(h:aS ρ a a'):ay ρ (.agg a) (.agg a'):=.agg h.size h.get
def ay.PI(h:aS ρ a a'):ay ρ (.tuple a) (.tuple a'):=.tuple h.size h.get
def ay.Hb{fn c:Fn}(d:sG ρ fn c)(h:aS ρ a a')(k:aS ρ b b'):ay ρ (.func fn a b) (.func c a' b'):=.func d h.size k.size h.get k.get
theorem ay.cells{ρ:Ren}{v v':Value}(h:ay ρ v v'):aS ρ v.cells v'.cells:=by cases h with|agg hs h=>exact⟨hs,h⟩|bool b=>exact .one (.bool b)|int k n=>exact .one (.int k n)|string s=>exact .one (.string s)|lj=>exact .one .lj|ptr h=>exact .one (.ptr h)|jy l c=>exact .one (.jy l c)|slice l c h=>exact .one (.slice l c h)|pT=>exact .one .pT|map h=>exact .one (.map h)|o7=>exact .one .o7|func h d a h1 e=>exact .one (.func h d a h1 e)|nilFunc=>exact .one .nilFunc|iface t h=>exact .one (.iface t h)|nilIface=>exact .one .nilIface|tuple hs h=>exact .one (.tuple hs h)
inductive iu:Value->Prop
 |bool (b:Bool):iu (.bool b)
 |int (k:IntKind) (n:Int):iu (.int k n)
 |string (s:ByteArray):iu (.string s)
 |lj:iu (.pointer none)
 |jy (l c:Nat):iu (.slice none l c)
 |pT:iu (.map none)
 |o7:iu (.chan none)
 |nilFunc:iu .nilFunc
 |func (f:FuncId):iu (.func (.func f) #[] #[])
 |nilIface:iu .nilIface
 |iface (t:TypeId) {v:Value} (h:iu v):iu (.iface t v)
 |agg {a:Array Value} (h:∀(i:Nat)(v:Value),a[i]?=some v->iu v):iu (.agg a)
 |tuple {a:Array Value} (h:∀(i:Nat)(v:Value),a[i]?=some v->iu v):iu (.tuple a)
def iu.rel(h:iu v)(ρ:Ren):ay ρ v v:=by induction h with|bool b=>exact .bool b|int k n=>exact .int k n|string s=>exact .string s|lj=>exact .lj|jy l c=>exact .jy l c|pT=>exact .pT|o7=>exact .o7|nilFunc=>exact .nilFunc|func f=>exact .Hb (.func f) (.nil ρ) (.nil ρ)|nilIface=>exact .nilIface|iface t _ a=>exact .iface t a|agg _ a=>exact .agg Y λi v v' x y=>AA|tuple _ a=>exact .tuple Y λi v v' x y=>AA
def jU(a:Array Value):Prop:=∀(i:Nat)(v:Value),a[i]?=some v->iu v
theorem jU.rel(h:jU a)(ρ:Ren):aS ρ a a:=⟨Y,λi v v' x y=>by rw[x]at y;cases y;exact(h i v x).rel ρ⟩
theorem iu.cells{v:Value}(h:iu v):jU v.cells:=by
 have one:∀{v:Value},iu v->v.cells=#[v]->jU v.cells:=λ{v} d e i x a=>by grind
 cases h with|agg h=>exact h|bool b=>exact one (.bool b) Y|int k n=>exact one (.int k n) Y|string s=>exact one (.string s) Y|lj=>exact one .lj Y|jy l c=>exact one (.jy l c) Y|pT=>exact one .pT Y|o7=>exact one .o7 Y|nilFunc=>exact one .nilFunc Y|func f=>exact one (.func f) Y|nilIface=>exact one .nilIface Y|iface t h=>exact one (.iface t h) Y|tuple h=>exact one (.tuple h) Y
def kH{al:Type}:Result al->aO
 | .ok _ w=>w
 | .halt _ w=>w
section
variable{al:Type}
def afU:∀(k:Ask al)(w:aO),w.drawn<=(w.ask k).2.drawn/\(w.ask k).2.heap=w.heap/\(w.ask k).2.tape=w.tape:=by intro k;induction k with|done a=>intro w;exact⟨Nat.le_refl _,Y,Y⟩|ask what range k b=>intro w;simp only[World.ask];grind
theorem afV(w:aO)(c:Sys):w.drawn<=(w.sys c).2.drawn/\(w.sys c).2.tape=w.tape:=by unfold World.sys;have:=afU (Kernel.perform c w.os) w;grind
theorem afW{P:cg}{w d:aO}{a:Addr}{b:Bool}{l:List Addr}(h:w.farStore P a v b=.ok (d,l)):d.drawn=w.drawn/\d.tape=w.tape:=by
 unfold World.farStore at h;split at h
 .split at h
  .rename_i r c;cases h;unfold World.viewStore at c;simp only[bind,Except.bind,pure,Except.pure]at c;repeat' (split at c)
   all_goals first
    |cases c;done
    |grind
  grind
 grind
def AJ(P:cg):∀(m:Sem al)(w:aO),w.drawn<=(kH (m.run P w)).drawn/\(kH (m.run P w)).tape=w.tape:=by
 intro m;induction m with
 |pure a=>intro w;exact⟨Nat.le_refl _,Y⟩
 |load md a k b=>intro w;simp only[Sem.run];cases w.cell? a with|some v=>grind|none=>simp only[];cases w.farLoad P a (md== .atomic)with|ok r=>grind|error h=>exact⟨Nat.le_refl _,Y⟩
 |store md a v k b=>
  intro w;have gen:w.drawn<=(kH (match w.cell? a with
   |some _=>if w.frozen? a then .halt (.unsupported (.unsafePointer "a write to bytes that a string shares")) w else k.run P (w.setCell a v)
   |none=>match w.farStore P a v (md== .atomic)with
    | .ok (w,_)=>k.run P w
    | .error h=>.halt h w)).drawn/\(kH (match w.cell? a with
   |some _=>if w.frozen? a then .halt (.unsupported (.unsafePointer "a write to bytes that a string shares")) w else k.run P (w.setCell a v)
   |none=>match w.farStore P a v (md== .atomic)with
    | .ok (w,_)=>k.run P w
    | .error h=>.halt h w)).tape=w.tape:=by
   cases w.cell? a with
   |some x=>
    simp only[];split
    .exact⟨Nat.le_refl _,Y⟩
    .exact b (w.setCell a v)
   |none=>simp only[];cases e:w.farStore P a v (md== .atomic)with|error h=>exact⟨Nat.le_refl _,Y⟩|ok r=>grind[afW]
  cases v<;>first|exact⟨Nat.le_refl _,Y⟩|exact gen
 |new o k b=>intro w;exact b _ {w with heap:=w.heap.push o}
 |shape r k b=>intro w;exact b _ w
 |freeze a n k b=>
  intro w;have h1:(w.freeze a n).drawn=w.drawn/\(w.freeze a n).tape=w.tape:=by unfold World.freeze;grind
  have d:=b (w.freeze a n);exact⟨h1.1▸d.1,d.2.trans h1.2⟩
 |frozen a k b=>intro w;exact b _ w
 |getObj r k b=>
  intro w;simp only[Sem.run];split
  .exact⟨Nat.le_refl _,Y⟩
  .grind
  .exact⟨Nat.le_refl _,Y⟩
 |setObj r o k b=>
  intro w;simp only[Sem.run];split
  .exact⟨Nat.le_refl _,Y⟩
  .grind
  .exact⟨Nat.le_refl _,Y⟩
 |choose q k b=>intro w;simp only[Sem.run];grind
 |sys c k b=>grind[afV,Sem.run]
 |program k b=>intro w;exact b _ w
 |mark m k b=>intro w;exact b w
 |halt h=>intro w;exact⟨Nat.le_refl _,Y⟩
end
def ig:GStep->aO
 | .go _ w _ | .comm _ _ _ _ w _ | .spawn _ _ w _ | .count _ w _ | .timer _ _ w _ | .alone _ _ w _ | .newcoro _ _ _ w _ | .coroswitch _ _ _ w _ | .collect _ w _ | .watch _ w _ | .ended _ w _=>w
@[simp] theorem y7 (es:Array Event) (s:GStep):ig (GStep.after es s)=ig s:=by cases s<;>rfl
theorem WK(P:cg)(m:Bool)(fr:Frame)(cs:List Frame)(d:Option Dying)(v:Value)(w:aO):ig (doReturn P m fr cs d v w)=w:=by
 unfold doReturn;cases cs with
 |cons c cs=>simp only[];split<;>rfl
 |nil=>
  simp only[];split
  .rfl
  .rfl
  .split
   .rfl
   .split<;>rfl
def P1{al:Type}{P:cg}{m:Sem al}{w:aO}{r:Result al}(h:m.run P w=r):w.drawn<=(kH r).drawn:=h▸(AJ P m w).1
def WL(P:cg)(fr:Frame)(cs:List Frame)(d:Option Dying)(m:String)(w:aO):w.drawn<=(ig (endFatal P fr cs d m w)).drawn:=by
 unfold endFatal;simp only[];split
 .rename_i a;exact P1 a
 .rename_i a;exact P1 a
 .rename_i a;exact P1 a
def ahg(P:cg)(fr:Frame)(cs:List Frame)(d:Option Dying)(g:Nat)(w:aO):w.drawn<=(ig (early P fr cs d g w)).drawn:=by
 unfold early;have notYet:∀a:aO,(ig (match a.heap[g]? with
  |some (.pending c elem)=>GStep.go {frame:=fr,callers:=cs,status:=.running,dying:=d} {a with heap:=a.heap.setIfInBounds g (.cells c elem)}
  | _=>.ended (.stuck "early: the variable does not wait" (fr.pos P)) a)).drawn=a.drawn:=by
  intro a;split<;>rfl
 simp only[];have eI:∀{s:GStep}{a:aO},(ig s).drawn=a.drawn->w.drawn<=a.drawn->w.drawn<=(ig s).drawn:=λe h=>AA;have same:∀{s:GStep},(ig s).drawn=w.drawn->w.drawn<=(ig s).drawn:=λe=>AA;split
 .grind
 split
 .exact Nat.le_refl _
 rename_i f _;split
 .grind
 split
 .grind
 split
 .exact Nat.le_refl _
 .exact Nat.le_refl _
 .exact Nat.le_refl _
 .grind
 .split
  .exact Nat.le_refl _
  split
  .grind
  split
  .rename_i a b;have:=AJ P (choose (.early g)) w;rw[b]at this;exact eI (notYet a) this.1
  .rename_i a _ b;have:=AJ P (choose (.early g)) w;rw[b]at this;exact this.1
  .rename_i a b;have:=AJ P (choose (.early g)) w;rw[b]at this;exact this.1
def EF(P:cg)(fr:Frame)(cs:List Frame)(d:Option Dying)(s:Sem Next)(w:aO):(kH (s.run P w)).drawn<=(ig (stepG.apply P true fr cs d s w)).drawn:=by
 unfold stepG.apply;simp only[Sem.runT_eq,if_true,y7];cases s.run P w with
 |ok h f=>
  cases h with
  |callThen a b c e=>simp only[kH];split<;>exact Nat.le_refl _
  |row a b=>simp only[kH];split<;>exact Nat.le_refl _
  |stack a b=>simp only[kH];split<;>exact Nat.le_refl _
  |recover=>simp only[kH];split<;>exact Nat.le_refl _
  |spawn x=>simp only[kH];repeat' first|exact Nat.le_refl _ |split
  | _=>exact Nat.le_refl _
 |halt x f=>
  cases x with
  |fatal m=>exact WL P fr cs d m f
  |unsupported u=>cases u with|initOrder g=>exact ahg P fr cs d g f| _=>exact Nat.le_refl _
  | _=>exact Nat.le_refl _
def WM(P:cg)(fr:Frame)(cs:List Frame)(d:Option Dying)(x:Deferred)(w:aO):((x.target matches .nil)&&(fr.mode matches .panicking _))=true\/(kH ((invoke x.target x.args).run P w)).drawn<=(ig (callDeferred P fr cs d x w)).drawn:=by
 have key:∀{c:Prop}[Decidable c]{a b:GStep}{n:Nat},(¬c->n<=(ig b).drawn)->c\/n<=(ig (if c then a else b)).drawn:=by grind
 unfold callDeferred;simp only[Sem.runT_eq];refine key λ_=>?_;simp only[y7];cases(invoke x.target x.args).run P w with
 |ok g f=>cases g with|recover=>simp only[kH];split<;>exact Nat.le_refl _|alone on v=>cases on<;>exact Nat.le_refl _|coroswitch c e=>cases e<;>exact Nat.le_refl _| _=>exact Nat.le_refl _
 |halt y f=>cases y with|fatal m=>exact WL P fr cs d m f| _=>exact Nat.le_refl _
end av
namespace bn
open Conc ConcN
def e8:Loc->Option Nat
 | .cell a=>some a.block
 | .obj r=>some r
 | _=>none
structure jq where
 n:Nat
 base:Nat
 size:Nat
 K:Nat->Prop
 mine:Nat->Nat->Prop
 gF:Loc->Prop
 eK:Loc->Prop
 tok:Option Nat
 mu:Addr
 wg:Addr
 past:Nat->Prop
def jq.be(p:jq)(j:Nat):Prop:=j<p.n/\(j=0\/p.base<=j)
def Fj(t:Trace)(a:Addr)(i:Nat):Prop:=∃q,t.act? q=some (.mark (.releaseMerge a))/\t.heard q/\Before t i q
variable{i:Nat}
theorem Fj.app{t:Trace}{a:Addr}(h:Fj t a i)(u:Trace):Fj (t++u) a i:=
 let⟨q,h1,b,h3⟩:=h
 ⟨q,by grind[act?_old,lt_of_act?],(heard_old (lt_of_act? h1)).2 b,h3.app u⟩
def Yi(p:jq)(l:Loc):Prop:=¬p.gF l/\∀b,e8 l=some b->¬p.K b/\∀j,¬p.mine j b
structure eg(p:jq)(t:Trace):Prop where
 nT:∀i a,touchAt t i=some a->a.loc.isMemory=true->a.kind=.atomic->p.eK a.loc\/Yi p a.loc
 gs:∀(i:Nat)(op:MemOp),t[i]?=some op->op.g<p.n
 low:∀i a b,touchAt t i=some a->e8 a.loc=some b->b<p.size
 still:∀i a b,touchAt t i=some a->a.write=true->e8 a.loc=some b->p.K b->∀j,p.be j->Knows t j i
 own:∀j i a b,p.be j->touchAt t i=some a->e8 a.loc=some b->p.mine j b->Knows t j i
 sW:∀j,p.tok=some j->p.be j/\∀i a,touchAt t i=some a->p.gF a.loc->Knows t j i
 Bj:p.tok=none->∀i a,touchAt t i=some a->p.gF a.loc->(∀j,p.be j->Knows t j i)\/Fj t p.mu i
 eK:∀i a,touchAt t i=some a->p.eK a.loc->a.kind=.atomic\/(a.kind=.said/\Knows t 0 i)\/∀j,p.be j->Knows t j i
 qj:∀i a,t.act? i≠some (.mark (.release a))
 xl:∀said,¬Race said t
 past:∀i j,t.g? i=some j->p.past j->t.counts i->Knows t 0 i\/Fj t p.wg i
structure Rl(p:jq):Prop where
 own:∀j k b,p.mine j b->p.mine k b->j=k
 Yj:∀j b,p.mine j b->¬p.K b
 Fl:∀l b j,p.gF l->e8 l=some b->¬p.mine j b/\¬p.K b
 Fo:∀l b j,p.eK l->e8 l=some b->¬p.mine j b/\¬p.K b
 sX:∀l,p.gF l->¬p.eK l
 low:∀j b,p.mine j b->b<p.size
 aj5:∀b,p.K b->b<p.size
 Rm:∀l b,p.gF l\/p.eK l->e8 l=some b->b<p.size
def zu:Mark->Prop
 | .disable| .enable| .noRoom| .extern _=>True
 | _=>False
def LK(p:jq)(j:Nat)(d:Nat)(e:Event):Prop:=
 match e.loc with
 | .cell a=>(e.sync=false/\((p.K a.block/\e.write=false)\/p.mine j a.block\/(p.gF (.cell a)/\p.tok=some j))/\¬p.past j)\/(e.sync=true/\p.eK (.cell a)/\0<d)
 | .obj r=>e.sync=false/\((p.K r/\e.write=false)\/p.mine j r)/\¬p.past j
 | .mark m=>zu m\/(j=0/\∃a,p.eK (.cell a)/\(m=.read a\/m=.write a))
 | .output=>True
 | .goroutines=>False
def zv(d:Nat)(e:Event):Nat:=deafBehind d #[e]
def Rn(p:jq)(j:Nat):Nat->List Event->Prop
 | _,[]=>True
 |d,e::l=>LK p j d e/\Rn p j (zv d e) l
variable{d j:Nat}{e:Event}{y:MemOp}
section
variable{p:jq}{t:Trace}
def aj6{l:Loc}(h:l.isMemory=true):∃b,e8 l=some b:=by cases l<;>simp[Loc.isMemory]at h<;>exact⟨_,Y⟩
def aj7(h:LK p j d e){x:Touch}(c:(MemAct.ofEvent e).touch?=some x)(k:x.loc.isMemory=true):
 ∃b,e8 x.loc=some b/\((x.kind=.plain/\((p.K b/\x.write=false)\/p.mine j b\/(p.gF x.loc/\p.tok=some j))/\¬p.past j)\/(x.kind=.atomic/\p.eK x.loc/\0<d)\/(x.kind=.said/\p.eK x.loc/\j=0)):=by
 obtain⟨loc,wr,f⟩:=e;cases loc with
 |cell a=>
  have i:x=⟨.cell a,wr,if f then .atomic else .plain⟩:=by grind[MemAct.ofEvent,MemAct.touch?]
  subst i;refine⟨a.block,Y,?_⟩;rcases h with⟨h1,g,h3⟩|⟨h1,g,h3⟩
  .grind
  grind
 |obj r=>
  obtain⟨h1,g,h3⟩:=h;simp only at h1;subst h1;have:(MemAct.ofEvent ⟨.obj r,wr,false⟩)=.access ⟨.obj r,wr,false⟩:=by cases wr<;>rfl
  rw[this]at c;simp only[MemAct.touch?,Option.some.injEq]at c;subst c;exact⟨r,Y,AA⟩
 |output=>grind[MemAct.ofEvent,MemAct.touch?,Loc.isMemory]
 |goroutines=>exact h.elim
 |mark m=>
  have:(MemAct.ofEvent ⟨.mark m,wr,f⟩)=.mark m:=by cases wr<;>cases f<;>rfl
  rw[this]at c;rcases h with h|⟨h0,a,hs,rfl|rfl⟩
  .cases m<;>simp[zu]at h<;>simp[MemAct.touch?]at c
  .simp[MemAct.touch?]at c;subst c;exact⟨a.block,Y,AA⟩
  .simp[MemAct.touch?]at c;subst c;exact⟨a.block,Y,AA⟩
theorem aj8(h:LK p j d e)(a:Addr):MemAct.ofEvent e≠ .mark (.release a):=by
 obtain⟨loc,wr,b⟩:=e;cases loc with
 |mark m=>
  have:(MemAct.ofEvent ⟨.mark m,wr,b⟩)=.mark m:=by cases wr<;>cases b<;>rfl
  rw[this];rcases h with h|⟨_,_,_,rfl|rfl⟩
  .grind[zu]
  .simp
  .simp
 | _=>cases wr<;>cases b<;>simp[MemAct.ofEvent]
def Il(t:Trace)(y:MemOp):(t++#[y])[t.size]?=some y:=by simp
theorem zw{a:Touch}(h:touchAt (t++#[y]) i=some a):touchAt t i=some a\/(i=t.size/\y.act.touch?=some a):=by obtain⟨z,c,b⟩:=touch_of h;grind[touchAt_of]
structure LL(p:jq):Prop where
 gF:∀l,p.gF l->l.isMemory=true
 eK:∀l,p.eK l->l.isMemory=true
def Fp{l:Loc}{b:Nat}(h:e8 l=some b):l.isMemory=true:=by cases l<;>simp[e8]at h<;>rfl
def eg.push(A:Rl p)(P:LL p)(h:eg p t)(v:p.be j)(Q:LK p j (Deaf t j) e)(fn:FuncId)(pos:String):eg p (t++#[{g:=j,fn,pos,act:=.ofEvent e}]):=by
 generalize U:({g:=j,fn,pos,act:=.ofEvent e}:MemOp)=y;have hg:y.g=j:=AA;have V:y.act=.ofEvent e:=AA;have W:Knows (t++#[y]) j t.size:=⟨t.size,y,Il t y,hg,.inl Y⟩;have new:∀{a:Touch},y.act.touch?=some a->a.loc.isMemory=true->∃b,e8 a.loc=some b/\((a.kind=.plain/\((p.K b/\a.write=false)\/p.mine j b\/(p.gF a.loc/\p.tok=some j))/\¬p.past j)\/(a.kind=.atomic/\p.eK a.loc/\0<Deaf t j)\/(a.kind=.said/\p.eK a.loc/\j=0)):=
  λc m=>aj7 Q AA m
 refine⟨λi a c I cQ=>?_,λi op hi=>?_,λi a b c d=>?_,λi a b c D d hK k hk=>?_,λk i a b hk c d m=>?_,λk hk=>⟨(h.sW k hk).1,λi a c l=>?_⟩,λhk i a c l=>?_,λi a c hs=>?_,λi a M=>?_,λsaid=>?_,λi k hk N f=>?_⟩
 .rcases zw c with c|⟨_,c⟩
  .exact h.nT i a c I cQ
  grind
 .rcases getElem?_append_cases hi with⟨_,K⟩|⟨_,F⟩
  .exact h.gs i op K
  .simp at F;subst F;rw[hg];exact v.1
 .rcases zw c with c|⟨_,c⟩
  .exact h.low i a b c d
  .obtain⟨b',C,f⟩:=new c (Fp d);obtain rfl:b=b':=AA;rcases f with⟨_,⟨hK,_⟩|m|⟨l,_⟩,_⟩|⟨_,hs,_⟩|⟨_,hs,_⟩
   .exact A.aj5 b hK
   .exact A.low j b m
   .exact A.Rm a.loc b (.inl l) d
   .exact A.Rm a.loc b (.inr hs) d
   .exact A.Rm a.loc b (.inr hs) d
 .rcases zw c with c|⟨_,c⟩
  .exact(h.still i a b c D d hK k hk).app _
  .exfalso;obtain⟨b',C,f⟩:=new c (Fp d);obtain rfl:b=b':=AA;rcases f with⟨_,⟨_,L⟩|m|⟨l,_⟩,_⟩|⟨_,hs,_⟩|⟨_,hs,_⟩
   .grind
   .exact A.Yj j b m hK
   .exact(A.Fl a.loc b 0 l d).2 hK
   .exact(A.Fo a.loc b 0 hs d).2 hK
   .exact(A.Fo a.loc b 0 hs d).2 hK
 .rcases zw c with c|⟨rfl,o⟩
  .exact(h.own k i a b hk c d m).app _
  .obtain⟨b',C,f⟩:=new o (Fp d);obtain rfl:b=b':=AA;rcases f with⟨_,⟨hK,_⟩|n|⟨l,_⟩,_⟩|⟨_,hs,_⟩|⟨_,hs,_⟩
   .exact absurd hK (A.Yj k b m)
   .rw[A.own k j b m n];grind
   .exact absurd m (A.Fl a.loc b k l d).1
   .exact absurd m (A.Fo a.loc b k hs d).1
   .exact absurd m (A.Fo a.loc b k hs d).1
 .rcases zw c with c|⟨rfl,o⟩
  .exact((h.sW k hk).2 i a c l).app _
  .obtain⟨b,d,f⟩:=new o (P.gF _ l);rcases f with⟨_,⟨hK,_⟩|n|⟨_,ht⟩,_⟩|⟨_,hs,_⟩|⟨_,hs,_⟩
   .exact absurd hK (A.Fl a.loc b 0 l d).2
   .exact absurd n (A.Fl a.loc b j l d).1
   .grind
   .exact absurd hs (A.sX _ l)
   .exact absurd hs (A.sX _ l)
 .rcases zw c with c|⟨rfl,o⟩
  .exact(h.Bj hk i a c l).imp Mr (λx=>x.app _)
  .exfalso;obtain⟨b,d,f⟩:=new o (P.gF _ l);rcases f with⟨_,⟨hK,_⟩|n|⟨_,ht⟩,_⟩|⟨_,hs,_⟩|⟨_,hs,_⟩
   .exact absurd hK (A.Fl a.loc b 0 l d).2
   .exact absurd n (A.Fl a.loc b j l d).1
   .grind
   .exact absurd hs (A.sX _ l)
   .exact absurd hs (A.sX _ l)
 .rcases zw c with c|⟨rfl,o⟩
  .exact(h.eK i a c hs).imp id (λx=>x.imp (λy=>⟨y.1,y.2.app _⟩) Mr)
  .obtain⟨b,d,f⟩:=new o (P.eK _ hs);rcases f with⟨_,⟨hK,_⟩|n|⟨l,_⟩,_⟩|⟨hk,_,_⟩|⟨hk,_,h0⟩
   .exact absurd hK (A.Fo a.loc b 0 hs d).2
   .exact absurd n (A.Fo a.loc b j hs d).1
   .exact absurd hs (A.sX _ l)
   .grind
   grind
 .obtain⟨op,O,H⟩:=Option.map_eq_some_iff.1 M;rcases getElem?_append_cases O with⟨_,S⟩|⟨_,X⟩
  .exact h.qj i a (by rw[act?_of S,H])
  grind[aj8]
 .refine noRace_append (g:=j) (h.xl said) AA (λi x c op s b d f=>?_);simp at s;subst s;have m:b.loc.isMemory=true:=by rw[<-f.1];exact f.2.1
  obtain⟨u,Z,q⟩:=new d m;have E:e8 x.loc=some u:=by rw[f.1];grind
  rcases q with⟨_,⟨hK,D⟩|n|⟨l,ht⟩,_⟩|⟨hk,hs,_⟩|⟨hk,hs,h0⟩
  .exact h.still i x u c (f.2.2.1.resolve_right AA) E hK j v
  .exact h.own j i x u v c E n
  .exact(h.sW j ht).2 i x c (by rw[f.1];grind)
  .rcases h.eK i x c (by rw[f.1];exact hs)with r|⟨r,_⟩|r
   .exfalso;rcases f.2.2.2 with e|e|⟨_,e,_⟩
    .grind
    .grind
    grind
   .exfalso;rcases f.2.2.2 with e|e|⟨_,_,e⟩
    .grind
    .grind
    grind
   grind
  .rcases h.eK i x c (by rw[f.1];exact hs)with r|⟨_,r⟩|r
   .exfalso;rcases f.2.2.2 with e|e|⟨_,e,_⟩
    .grind
    .grind
    grind
   .grind
   grind
 .by_cases hi:i<t.size
  .have B:t.g? i=some k:=by grind[g?_old]
   have w:t.counts i:=by obtain⟨x,h1,z,h3⟩:=f;exact⟨x,by grind[act?_old],z,h3.imp id (λe=>(heard_old hi).1 e)⟩
   exact(h.past i k B N w).imp MV MV
  .have T:i=t.size:=by grind[Trace.g?]
   subst T;have r:k=j:=Iv;subst r;obtain⟨x,h1,z,h3⟩:=f;rw[act?_of (Il t y)]at h1;obtain⟨b,d,q⟩:=new h1 z;rcases q with⟨_,_,K4⟩|⟨hk,_,hd⟩|⟨_,_,h0⟩
   .grind
   .exfalso;rcases h3 with e|⟨g,J,R⟩
    .grind
    .simp[Trace.g?]at J;rw[deaf_old J1]at R;grind[Deaf]
   grind
theorem aj_(t:Trace)(j:Nat)(fn:FuncId)(pos:String)(e:Event):Deaf (t++#[{g:=j,fn,pos,act:=.ofEvent e}]) j=zv (Deaf t j) e:=by have:=Deaf_own t j fn pos #[e];grind[ofEvents_eq,zv]
theorem eg.step(A:Rl p)(P:LL p){j:Nat}(a:p.be j)(fn:FuncId)(pos:String):∀(l:List Event){t:Trace},eg p t->Rn p j (Deaf t j) l->eg p (t++MemOp.ofEvents j fn pos l.toArray)
 | [],t,h,_=>by grind[ofEvents_eq]
 |e::l,t,h,⟨h1,b⟩=>by have:=eg.step A P a fn pos l (h.push A P a h1 fn pos) (by grind[aj_]);grind[ofEvents_eq]
def eg.grow(h:eg p t){size:Nat}(hs:p.size<=size){mine:Nat->Nat->Prop}(g:∀j b,mine j b->p.mine j b\/p.size<=b):eg {p with size:=size,mine:=mine} t:=
 ⟨λi a d k cQ=>(h.nT i a d k cQ).imp id λhn=>⟨hn.1,λb c=>⟨(hn.2 b c).1,λj f=>(g j b f).elim ((hn.2 b c).2 j) (λe=>absurd (h.low i a b d c) As)⟩⟩,h.gs,λi a b d c=>Nat.lt_of_lt_of_le (h.low i a b d c) hs,h.still,λj i a b f d c l=>(g j b l).elim (λe=>h.own j i a b f d c e) (λe=>absurd (h.low i a b d c) As),h.sW,h.Bj,h.eK,h.qj,h.xl,h.past⟩
end
section
section
variable{p:jq}{t:Trace}
def vM(hn:y.act.touch?=none){a:Touch}(h:touchAt (t++#[y]) i=some a):touchAt t i=some a:=by grind[zw]
def Ro(hn:y.act.touch?=none)(hg:(t++#[y]).g? i=some j)(c:(t++#[y]).counts i):i<t.size/\t.g? i=some j/\t.counts i:=by obtain⟨x,h1,d,h3⟩:=c;have b:touchAt t i=some x:=vM hn h1;obtain⟨z,a,_⟩:=touch_of b;have hi:=lt_size_of_getElem? a;exact⟨hi,by grind[g?_old],x,by grind[act?_old],d,h3.imp id (λe=>(heard_old hi).1 e)⟩
theorem eg.word(h:eg p t)(hg:y.g<p.n)(hn:y.act.touch?=none)(A:∀a,y.act≠ .mark (.release a)):eg p (t++#[y]):=by
 refine⟨λi a c n cQ=>h.nT i a (vM hn c) n cQ,λi op hi=>?_,λi a b c d=>h.low i a b (vM hn c) d,λi a b c q d hK k hk=>(h.still i a b (vM hn c) q d hK k hk).app _,λk i a b hk c d v=>(h.own k i a b hk (vM hn c) d v).app _,
  λk hk=>⟨(h.sW k hk).1,λi a c f=>((h.sW k hk).2 i a (vM hn c) f).app _⟩,λhk i a c f=>(h.Bj hk i a (vM hn c) f).imp Mr (λx=>x.app _),
  λi a c hs=>(h.eK i a (vM hn c) hs).imp id (λx=>x.imp (λy=>⟨y.1,y.2.app _⟩) Mr),λi a m=>?_,λsaid=>?_,λi k hk r j=>?_⟩
 .rcases getElem?_append_cases hi with⟨_,o⟩|⟨_,C⟩
  .exact h.gs i op o
  grind
 .obtain⟨op,u,l⟩:=Option.map_eq_some_iff.1 m;rcases getElem?_append_cases u with⟨_,z⟩|⟨_,B⟩
  .exact h.qj i a (by rw[act?_of z,l])
  grind
 .refine noRace_append (g:=y.g) (h.xl said) AA (λi x c op s b d j=>?_);grind
 .obtain⟨hi,h1,w⟩:=Ro hn hk j;exact(h.past i k h1 r w).imp MV MV
theorem Yl(h:eg p t){a:Addr}(c:y.act=.mark (.acquire a))(hd:Deaf t y.g=0)(d:Fj t a i):Knows (t++#[y]) y.g i:=by
 obtain⟨q,h1,e,h3⟩:=d;have hq:=lt_of_act? h1;have b:=Il t y;have edge:HappensBefore (t++#[y]) q t.size:=.single (.inr ⟨.marked hq (.inr (by rw[act?_old hq];exact h1)) (by rw[act?_of b,c]) (λk _ hk=>by rw[act?_old hk];exact h.qj k a),(heard_old hq).2 e,
  ⟨y.g,by simp[Trace.g?],G9⟩⟩)
 exact⟨t.size,y,b,Y,.inr ((h3.app #[y]).hb edge)⟩
def eg.aka(h:eg p t)(ht:p.tok=none)(c:p.be y.g)(d:y.act=.mark (.acquire p.mu))(hd:Deaf t y.g=0):eg {p with tok:=some y.g} (t++#[y]):=by
 have hn:y.act.touch?=none:=by rw[d];rfl
 have b:=h.word c.1 hn AA;refine⟨b.nT,b.gs,b.low,b.still,b.own,λk hk=>?_,AA,b.eK,b.qj,b.xl,b.past⟩;simp at hk;subst hk;refine⟨c,λi a e hg=>?_⟩;rcases h.Bj ht i a (vM hn e) hg with hk|hk
 .exact(hk _ c).app _
 grind[Yl]
def eg.akb(h:eg p t)(ht:p.tok=some y.g)(c:y.act=.mark (.releaseMerge p.mu))(hd:Deaf t y.g=0):eg {p with tok:=none} (t++#[y]):=by
 have hn:y.act.touch?=none:=by rw[c];rfl
 obtain⟨f,hk⟩:=h.sW _ ht;have b:=h.word f.1 hn AA;have d:=Il t y;refine⟨b.nT,b.gs,b.low,b.still,b.own,AA,λ_ i a e hg=>.inr ⟨t.size,by rw[act?_of d,c],⟨y.g,by simp[Trace.g?],G9⟩,.inr ?_⟩,b.eK,b.qj,b.xl,b.past⟩;exact(hk i a (vM hn e) hg).hb_new J1 d Y
def eg.akc(h:eg p t)(g:p.be y.g)(c:y.act=.mark (.releaseMerge p.wg))(hd:Deaf t y.g=0){past:Nat->Prop}(e:∀k,past k->p.past k\/k=y.g):eg {p with past:=past} (t++#[y]):=by
 have hn:y.act.touch?=none:=by rw[c];rfl
 have a:=h.word g.1 hn AA;have f:=Il t y;refine⟨a.nT,a.gs,a.low,a.still,a.own,a.sW,a.Bj,a.eK,a.qj,a.xl,λi k hk b d=>?_⟩;obtain⟨hi,h1,j⟩:=Ro hn hk d;rcases e k b with b|rfl
 .exact a.past i k hk b d
 .refine .inr ⟨t.size,by rw[act?_of f,c],⟨y.g,by simp[Trace.g?],G9⟩,.inr ?_⟩;grind[Trace.g?,hb_po]
def eg.akd(h:eg p t)(hg:y.g=0)(h0:0<p.n)(a:y.act=.mark (.acquire p.wg))(hd:Deaf t 0=0):
 eg p (t++#[y])/\∀i j,(t++#[y]).g? i=some j->p.past j->(t++#[y]).counts i->Knows (t++#[y]) 0 i:=by
 have hn:y.act.touch?=none:=by rw[a];rfl
 refine⟨h.word AA hn AA,λi j c b d=>?_⟩;obtain⟨hi,h1,f⟩:=Ro hn c d;rcases h.past i j h1 b f with e|e
 .exact e.app _
 grind[Yl]
def eg.ake(h:eg p t){x:MemOp}(D:x.g=0/\x.act=.go p.n)(C:y.g=p.n/\y.act=.start)(h0:Deaf t 0=0)(hn:0<p.n)(O:∀b,¬p.mine p.n b):eg {p with n:=p.n+1} (t++#[x,y]):=by
 have hk:Deaf t p.n=0:=Deaf_absent λi op hi e=>by have:=h.gs i op hi;omega
 have w:∀op∈#[x,y],op=x\/op=y:=AA;have P:∀op∈#[x,y],∀b,op.act.touch?=some b->False:=by
  intro op l b d;rcases w op l with rfl|rfl
  .rw[D.2]at d;cases d
  .rw[C.2]at d;cases d
 have old:∀{i:Nat}{b:Touch},touchAt (t++#[x,y]) i=some b->touchAt t i=some b:=by intro i b d;obtain⟨z,q,B⟩:=touch_of d;grind[touchAt_of]
 have cX:p.be 0:=⟨hn,.inl Y⟩;have all:∀{i:Nat},(∀j,p.be j->Knows t j i)->∀j,({p with n:=p.n+1}:jq).be j->Knows (t++#[x,y]) j i:=by
  intro i hi j f;rcases Nat.lt_or_ge j p.n with k|u
  .exact(hi j ⟨k,f.2⟩).app _
  .have M:j<p.n+1:=f.1;grind[fork_knows]
 refine⟨λi a c v cQ=>h.nT i a (old c) v cQ,λi op hi=>?_,λi a b c d=>h.low i a b (old c) d,λi a b c E d hK=>all (h.still i a b (old c) E d hK),λj i a b f c d o=>?_,λj f=>?_,λI i a c hg=>?_,
  λi a c hs=>(h.eK i a (old c) hs).imp id (λx=>x.imp (λy=>⟨y.1,y.2.app _⟩) all),λi a F=>?_,λsaid=>?_,λi j f N J=>?_⟩
 .rcases getElem?_append_cases hi with⟨_,A⟩|⟨_,R⟩
  .exact Nat.lt_succ_of_lt (h.gs i op A)
  grind
 .rcases Nat.lt_or_ge j p.n with k|u
  .exact(h.own j i a b ⟨k,f.2⟩ (old c) d o).app _
  .have M:j<p.n+1:=f.1;grind
 .obtain⟨h1,m⟩:=h.sW j f;exact⟨⟨Nat.lt_succ_of_lt h1.1,h1.2⟩,λi a c hg=>(m i a (old c) hg).app _⟩
 .exact(h.Bj I i a (old c) hg).imp all MV
 .obtain⟨op,H,s⟩:=Option.map_eq_some_iff.1 F;rcases getElem?_append_cases H with⟨_,L⟩|⟨_,Q⟩
  .exact h.qj i a (by rw[act?_of L,s])
  grind
 .have e:t++#[x,y]=(t++#[x])++#[y]:=by grind
  rw[e];refine noRace_append (g:=p.n) (noRace_append (g:=0) (h.xl said) AA AA)
   AA AA
 .obtain⟨r,h1,m,h3⟩:=J;have K:touchAt t i=some r:=old h1;obtain⟨z,q,_⟩:=touch_of K;have hi:=lt_size_of_getElem? q;exact(h.past i j (by grind[g?_old]) N ⟨r,by grind[act?_old],m,h3.imp id (λe=>(heard_old hi).1 e)⟩).imp MV MV
end
end
end bn
namespace ah
structure bj where
 L:Bool
 W:Bool
 S:Bool
 k:Nat
 sema:Nat
 fU:Nat
def bj.word(m:bj):Nat:=m.L.toNat+2*m.W.toNat+4*m.S.toNat+8*m.k
def bj.iN(m:bj):Prop:=m.L=false/\m.W=false/\m.S=false/\0<m.k
inductive bU where
 |idle|lQ|iD|jr|hand|own
 |ep (v o:Nat)
 |hY|ps
def gn:bU->Nat| .own=>1| _=>0
def fV:bU->Nat| .iD=>1| _=>0
def fm:bU->Nat| .jr=>1| _=>0
def fb:bU->Nat| .hand=>1| _=>0
def dN:bU->Nat| .hY=>1| _=>0
def eh:bU->Nat| .ps=>1| _=>0
def s6(x:bU)(W:Bool):Bool:=match x with| .iD=>false| _=>W
def aR(f:bU->Nat)(xs:List bU):Nat:=(xs.map f).sum
theorem oA(f:bU->Nat):∀(xs:List bU)(i:Nat)(x y:bU),xs[i]?=some x->aR f (xs.set i y)+f x=aR f xs+f y
 | [],i,x,y,h=>AA
 |a::xs,0,x,y,h=>by grind[aR]
 |a::xs,i+1,x,y,h=>by have:=oA f xs i x y Fq;simp[aR]at this⊢;omega
theorem Bw(f:bU->Nat):∀(xs:List bU)(i:Nat)(x:bU),xs[i]?=some x->f x<=aR f xs
 | [],i,x,h=>AA
 |a::xs,0,x,h=>by grind[aR]
 |a::xs,i+1,x,h=>by have:=Bw f xs i x Fq;simp[aR]at this⊢;omega
theorem Ry(f:bU->Nat):∀(xs:List bU)(i j:Nat)(x y:bU),xs[i]?=some x->xs[j]?=some y->i≠j->f x+f y<=aR f xs
 | [],i,j,x,y,h,_,_=>AA
 |a::xs,0,0,x,y,_,_,h=>absurd Y h
 |a::xs,0,j+1,x,y,c,b,_=>by simp at c b;subst c;have:=Bw f xs j y b;grind[aR]
 |a::xs,i+1,0,x,y,c,b,_=>by simp at c b;subst b;have:=Bw f xs i x c;grind[aR]
 |a::xs,i+1,j+1,x,y,c,b,h=>by have:=Ry f xs i j x y (by simpa using c) (by simpa using b) As;simp[aR]at this⊢;omega
theorem Yz(f:bU->Nat)(b:∀x,f x<=1):∀(xs:List bU),aR f xs<=xs.length
 | []=>by simp[aR]
 |a::xs=>by have:=Yz f b xs;have:=b a;simp[aR]at *;omega
theorem YA(f:bU->Nat):∀(xs:List bU),(∀(i:Nat) x,xs[i]?=some x->f x=0)->aR f xs=0
 | [],_=>by simp[aR]
 |a::xs,h=>by have h1:=h 0 a A_;have b:=YA f xs λi x hi=>h (i+1) x Hq;simp[aR]at b⊢;omega
def Rz(f:bU->Nat)(xs:List bU)(y:bU):aR f (xs++[y])=aR f xs+f y:=by simp[aR]
structure df(m:bj)(xs:List bU):Prop where
 o:aR gn xs=m.L.toNat
 nm:m.S=false->m.W.toNat=aR fV xs+aR dN xs+m.sema/\aR fb xs=0/\aR eh xs=0/\aR fm xs=m.k+m.sema+aR dN xs
 st:m.S=true->m.W=false/\aR fV xs=0/\aR dN xs=0/\m.L.toNat+aR fb xs+aR eh xs+m.sema=1/\aR fm xs+aR fb xs=m.k/\1<=m.k
 nI:m.iN->∃i:Nat,xs[i]?=some (.ep m.fU m.word)
 ep:∀(i:Nat) v o,xs[i]?=some (.ep v o)->v<=m.fU/\(v=m.fU->m.iN->o=m.word)
def qn(m:bj)(xs:List bU):Nat:=m.sema+aR dN xs+aR eh xs
section
variable{m:bj}{xs:List bU}{i:Nat}{x:bU}
def df.LY(h:df m xs):m.k<=xs.length:=by
 have q:=Yz fm (λx=>by cases x<;>simp[fm]) xs
 cases hS:m.S with
 |false=>have:=h.nm hS;omega
 |true=>
  have h1:=h.st hS;have c:m.L.toNat<=1:=AA;by_cases d:aR fb xs=0
  .omega
  .
   have:∀(xs:List bU),aR fm xs+aR fb xs<=xs.length:=by intro xs;induction xs with|nil=>simp[aR]|cons a xs b=>cases a<;>simp[aR,fm,fb]at b⊢ <;>omega
   grind
def q_{y:bU}(hi:xs[i]?=some x)(b:∀v o,x≠ .ep v o)(a:∀v o,y≠ .ep v o){j:Nat}{v o:Nat}:(xs.set i y)[j]?=some (.ep v o)↔xs[j]?=some (.ep v o):=by grind
def df.akJ(h:df m xs)(hi:xs[i]?=some x)(d:x=.lQ\/x=.iD)(k:m.L=false)(hS:m.S=false):df {m with L:=true,W:=s6 x m.W} (xs.set i .own):=by
 have c:=λf=>oA f xs i x .own hi;have o:=c gn;have a:=c fV;have p:=c dN;have hd:=c fb;have ps:=c eh;have q:=c fm;have nm:=h.nm hS;have g:=h.o;rw[k]at g;have l:m.W.toNat<=1:=Bool.toNat_le _;rcases d with rfl|rfl;all_goals
  simp[gn,fV,dN,fb,eh,fm,s6]at *;refine⟨AA,AA,λe=>?_,λe=>?_,λj v o b=>?_⟩
  .grind
  .exact absurd e.1 A_
  .have b:=(q_ hi A_ A_).1 b;exact⟨(h.ep j v o b).1,λ_ e=>absurd e.1 A_⟩
def df.queue(h:df m xs)(hi:xs[i]?=some bU.lQ)(hq:m.L=true\/m.S=true):df {m with k:=m.k+1} (xs.set i bU.jr):=by
 have c:=λf=>oA f xs i bU.lQ bU.jr hi;have o:=c gn;have a:=c fV;have p:=c dN;have hd:=c fb;have ps:=c eh;have q:=c fm;have r:=h.o;have l:m.W.toNat<=1:=Bool.toNat_le _;have n:m.L.toNat<=1:=Bool.toNat_le _;simp only[gn,fV,dN,fb,eh,fm]at o a p hd ps q;refine⟨AA,λe=>?_,λe=>?_,λe=>?_,λj v o' b=>?_⟩
 .have:=h.nm e;grind
 .have:=h.st e;grind
 .exact absurd e (by rintro⟨g,_,d,_⟩;grind)
 .have b:=(q_ hi A_ A_).1 b;exact⟨(h.ep j v o' b).1,λ_ e=>absurd e (by rintro⟨g,_,d,_⟩;grind)⟩
def df.YB(h:df m xs)(hi:xs[i]?=some .iD):m.S=false/\m.W=true/\aR fV xs=1/\aR dN xs=0/\m.sema=0:=by have a:=Bw fV xs i .iD hi;have b:m.W.toNat<=1:=Bool.toNat_le _;simp[fV]at a;cases hS:m.S with|true=>have:=h.st hS;omega|false=>have:=h.nm hS;grind
def df.akK(h:df m xs)(hi:xs[i]?=some bU.iD)(sv:Bool)(n:m.L=true):df {m with k:=m.k+1,W:=false,S:=sv} (xs.set i bU.jr):=by
 have c:=λf=>oA f xs i bU.iD bU.jr hi;have o:=c gn;have a:=c fV;have p:=c dN;have hd:=c fb;have ps:=c eh;have q:=c fm;have d:=h.o;have r:m.W.toNat<=1:=Bool.toNat_le _;have g:m.L.toNat<=1:=AA;simp only[gn,fV,dN,fb,eh,fm]at o a p hd ps q;obtain⟨hS,l,s,iv,t⟩:=h.YB hi;have nm:=h.nm hS;rw[l]at nm;rw[n]at d g;simp at nm d;refine⟨AA,λe=>?_,λe=>?_,λe=>absurd e.1 AA,λj v o' b=>?_⟩
 .grind
 .grind
 .have b:=(q_ hi A_ A_).1 b;exact⟨(h.ep j v o' b).1,λ_ e=>absurd e.1 AA⟩
def df.akL(h:df m xs)(hi:xs[i]?=some bU.lQ)(n:m.L=true)(hS:m.S=false)(d:m.W=false):df {m with W:=true} (xs.set i bU.iD):=by
 have c:=λf=>oA f xs i bU.lQ bU.iD hi;have o:=c gn;have a:=c fV;have p:=c dN;have hd:=c fb;have ps:=c eh;have q:=c fm;have l:=h.o;have g:m.W.toNat<=1:=AA;have k:m.L.toNat<=1:=AA;simp only[gn,fV,dN,fb,eh,fm]at o a p hd ps q;have nm:=h.nm hS;rw[d]at nm;simp at nm;refine⟨AA,λe=>?_,λe=>?_,λe=>absurd e.1 AA,λj v o' b=>?_⟩
 .grind
 .grind
 .have b:=(q_ hi A_ A_).1 b;exact⟨(h.ep j v o' b).1,λ_ e=>absurd e.1 AA⟩
def df.akM(h:df m xs)(hi:xs[i]?=some bU.jr)(hS:m.S=false)(hs:0<m.sema):df {m with sema:=m.sema-1} (xs.set i bU.iD):=by
 have c:=λf=>oA f xs i bU.jr bU.iD hi;have o:=c gn;have a:=c fV;have p:=c dN;have hd:=c fb;have ps:=c eh;have q:=c fm;have k:=h.o;have d:m.W.toNat<=1:=Bool.toNat_le _;have g:m.L.toNat<=1:=Bool.toNat_le _;simp only[gn,fV,dN,fb,eh,fm]at o a p hd ps q;have nm:=h.nm hS;have l:m.W=true:=by grind
 refine⟨AA,λe=>?_,λe=>?_,λe=>absurd e.2.1 AA,λj v o' b=>?_⟩
 .grind
 .grind
 .have b:=(q_ hi A_ A_).1 b;exact⟨(h.ep j v o' b).1,λ_ e=>absurd e.2.1 AA⟩
def df.akN(h:df m xs)(hi:xs[i]?=some bU.jr)(hS:m.S=true)(hs:0<m.sema):df {m with sema:=m.sema-1} (xs.set i bU.hand):=by
 have c:=λf=>oA f xs i bU.jr bU.hand hi;have o:=c gn;have a:=c fV;have p:=c dN;have hd:=c fb;have ps:=c eh;have q:=c fm;have k:=h.o;have d:m.W.toNat<=1:=Bool.toNat_le _;have g:m.L.toNat<=1:=Bool.toNat_le _;simp only[gn,fV,dN,fb,eh,fm]at o a p hd ps q;have st:=h.st hS;refine⟨AA,λe=>?_,λe=>?_,λe=>absurd e.2.2.1 AA,λj v o' b=>?_⟩
 .grind
 .grind
 .have b:=(q_ hi A_ A_).1 b;exact⟨(h.ep j v o' b).1,λ_ e=>absurd e.2.2.1 AA⟩
def df.Ip(h:df m xs)(hi:xs[i]?=some .hand):m.S=true/\m.L=false/\m.W=false/\1<=m.k/\m.sema=0/\aR fb xs=1/\aR eh xs=0:=by have a:=Bw fb xs i .hand hi;have b:m.L.toNat<=1:=Bool.toNat_le _;simp[fb]at a;cases hS:m.S with|false=>have:=h.nm hS;omega|true=>have:=h.st hS;grind
def df.handed(h:df m xs)(hi:xs[i]?=some bU.hand)(clear:Bool)(s:clear=false->2<=m.k):df {m with L:=true,k:=m.k-1,S:= !clear} (xs.set i bU.own):=by
 have c:=λf=>oA f xs i bU.hand bU.own hi;have o:=c gn;have a:=c fV;have p:=c dN;have hd:=c fb;have ps:=c eh;have q:=c fm;have d:=h.o;have l:m.W.toNat<=1:=Bool.toNat_le _;have n:m.L.toNat<=1:=Bool.toNat_le _;simp only[gn,fV,dN,fb,eh,fm]at o a p hd ps q;obtain⟨hS,g,t,r,iv,u,nF⟩:=h.Ip hi;have st:=h.st hS;rw[g]at d st;simp at d st;refine⟨AA,λe=>?_,λe=>?_,λe=>absurd e.1 A_,λj v o' b=>?_⟩
 .grind
 .grind
 .have b:=(q_ hi A_ A_).1 b;exact⟨(h.ep j v o' b).1,λ_ e=>absurd e.1 A_⟩
def df.LZ(h:df m xs)(hi:xs[i]?=some .own):m.L=true:=by have a:=Bw gn xs i .own hi;simp[gn]at a;have:=h.o;grind
def df.YC(h:df m xs){j:Nat}(hi:xs[i]?=some .own)(c:xs[j]?=some .own):i=j:=by apply Classical.byContradiction;intro b;have a:=Ry gn xs i j .own .own hi c b;simp only[gn]at a;have:=h.o;grind[Bool.toNat_le]
def df.akO(h:df m xs)(hi:xs[i]?=some bU.own)(hS:m.S=true):df {m with L:=false} (xs.set i bU.ps):=by
 have c:=λf=>oA f xs i bU.own bU.ps hi;have o:=c gn;have a:=c fV;have p:=c dN;have hd:=c fb;have ps:=c eh;have q:=c fm;have d:=h.o;have k:m.W.toNat<=1:=Bool.toNat_le _;have l:m.L.toNat<=1:=Bool.toNat_le _;simp only[gn,fV,dN,fb,eh,fm]at o a p hd ps q;have g:=h.LZ hi;have st:=h.st hS;rw[g]at d st;simp at d st;refine⟨AA,λe=>?_,λe=>?_,λe=>absurd e.2.2.1 AA,λj v o' b=>?_⟩
 .grind
 .grind
 .have b:=(q_ hi A_ A_).1 b;exact⟨(h.ep j v o' b).1,λ_ e=>absurd e.2.2.1 AA⟩
def df.akP(h:df m xs)(hi:xs[i]?=some .own)(hS:m.S=false)(hk:m.k=0):df {m with L:=false} (xs.set i .idle):=by
 have c:=λf=>oA f xs i .own .idle hi;have o:=c gn;have a:=c fV;have p:=c dN;have hd:=c fb;have ps:=c eh;have q:=c fm;have d:=h.o;have g:=h.LZ hi;simp only[gn,fV,dN,fb,eh,fm]at o a p hd ps q;have nm:=h.nm hS;rw[g]at d;simp at d;refine⟨AA,λe=>?_,λe=>?_,λe=>absurd e.2.2.2 AA,λj v o' b=>?_⟩
 .grind
 .grind
 .have b:=(q_ hi A_ A_).1 b;exact⟨(h.ep j v o' b).1,λ_ e=>absurd e.2.2.2 AA⟩
def df.akQ(h:df m xs)(hi:xs[i]?=some .own)(hS:m.S=false):df {m with L:=false,fU:=m.fU+1} (xs.set i (.ep (m.fU+1) ({m with L:=false}:bj).word)):=by
 have c:=λf=>oA f xs i .own (.ep (m.fU+1) ({m with L:=false}:bj).word) hi;have o:=c gn;have a:=c fV;have p:=c dN;have hd:=c fb;have ps:=c eh;have q:=c fm;have g:=h.o;have l:=h.LZ hi;have b:i<xs.length:=(List.getElem?_eq_some_iff.1 hi).1;simp only[gn,fV,dN,fb,eh,fm]at o a p hd ps q;have nm:=h.nm hS;rw[l]at g;simp at g;refine⟨AA,λe=>?_,λe=>?_,λe=>⟨i,by rw[List.getElem?_set_self b];rfl⟩,λj v o' d=>?_⟩
 .grind
 .grind
 .by_cases k:j=i
  .subst k;rw[List.getElem?_set_self b]at d;simp at d;obtain⟨rfl,rfl⟩:=d;exact⟨Nat.le_refl _,λ_ _=>Y⟩
  .rw[List.getElem?_set_ne (Ne.symm k)]at d;have:=(h.ep j v o' d).1;grind
def df.RA(h:df m xs){v o:Nat}(hi:xs[i]?=some (.ep v o))(g:m.iN):df {m with k:=m.k-1,W:=true} (xs.set i .hY):=by
 have c:=λf=>oA f xs i (.ep v o) .hY hi;have o':=c gn;have a:=c fV;have p:=c dN;have hd:=c fb;have ps:=c eh;have q:=c fm;have s:=h.o;have d:i<xs.length:=(List.getElem?_eq_some_iff.1 hi).1;simp only[gn,fV,dN,fb,eh,fm]at o' a p hd ps q;obtain⟨t,l,hS,hk⟩:=g;have nm:=h.nm hS;rw[l]at nm;simp at nm;refine⟨AA,λe=>?_,λe=>?_,λe=>absurd e.2.1 A_,λj v' r b=>?_⟩
 .grind
 .grind
 .by_cases n:j=i
  .grind
  .rw[List.getElem?_set_ne (Ne.symm n)]at b;exact⟨(h.ep j v' r b).1,λ_ e=>absurd e.2.1 A_⟩
def df.leave(h:df m xs){v o:Nat}(hi:xs[i]?=some (.ep v o))(hn:¬(m.iN/\m.fU=v)):df m (xs.set i .idle):=by
 have c:=λf=>oA f xs i (.ep v o) .idle hi;have o':=c gn;have a:=c fV;have p:=c dN;have hd:=c fb;have ps:=c eh;have q:=c fm;have l:=h.o;have d:i<xs.length:=(List.getElem?_eq_some_iff.1 hi).1;simp only[gn,fV,dN,fb,eh,fm]at o' a p hd ps q;refine⟨As,λe=>?_,λe=>?_,λe=>?_,λj v' k b=>?_⟩
 .have:=h.nm e;omega
 .have:=h.st e;grind
 .obtain⟨j,b⟩:=h.nI e;refine⟨j,?_⟩;grind
 .by_cases g:j=i
  .grind
  .rw[List.getElem?_set_ne (Ne.symm g)]at b;exact h.ep j v' k b
def df.akR(h:df m xs)(hi:xs[i]?=some bU.hY):df {m with sema:=m.sema+1} (xs.set i bU.idle):=by
 have c:=λf=>oA f xs i bU.hY bU.idle hi;have o:=c gn;have a:=c fV;have p:=c dN;have hd:=c fb;have ps:=c eh;have q:=c fm;have k:=h.o;have d:m.W.toNat<=1:=Bool.toNat_le _;have g:m.L.toNat<=1:=Bool.toNat_le _;simp only[gn,fV,dN,fb,eh,fm]at o a p hd ps q;refine⟨AA,λe=>?_,λe=>?_,λe=>?_,λj v o' b=>?_⟩
 .have:=h.nm e;grind
 .have:=h.st e;grind
 .obtain⟨j,b⟩:=h.nI e;exact⟨j,(q_ hi A_ A_).2 b⟩
 .have b:=(q_ hi A_ A_).1 b;exact h.ep j v o' b
def df.akS(h:df m xs)(hi:xs[i]?=some bU.ps):df {m with sema:=m.sema+1} (xs.set i bU.idle):=by
 have c:=λf=>oA f xs i bU.ps bU.idle hi;have o:=c gn;have a:=c fV;have p:=c dN;have hd:=c fb;have ps:=c eh;have q:=c fm;have k:=h.o;have d:m.W.toNat<=1:=Bool.toNat_le _;have g:m.L.toNat<=1:=Bool.toNat_le _;simp only[gn,fV,dN,fb,eh,fm]at o a p hd ps q;refine⟨AA,λe=>?_,λe=>?_,λe=>?_,λj v o' b=>?_⟩
 .have:=h.nm e;grind
 .have:=h.st e;grind
 .obtain⟨j,b⟩:=h.nI e;exact⟨j,(q_ hi A_ A_).2 b⟩
 .have b:=(q_ hi A_ A_).1 b;exact h.ep j v o' b
def df.start(h:df m xs)(hi:xs[i]?=some bU.idle):df m (xs.set i bU.lQ):=by
 have c:=λf=>oA f xs i bU.idle bU.lQ hi;have o:=c gn;have a:=c fV;have p:=c dN;have hd:=c fb;have ps:=c eh;have q:=c fm;have k:=h.o;have d:m.W.toNat<=1:=Bool.toNat_le _;have g:m.L.toNat<=1:=Bool.toNat_le _;simp only[gn,fV,dN,fb,eh,fm]at o a p hd ps q;refine⟨As,λe=>?_,λe=>?_,λe=>?_,λj v o' b=>?_⟩
 .have:=h.nm e;omega
 .have:=h.st e;grind
 .obtain⟨j,b⟩:=h.nI e;exact⟨j,AA⟩
 .have b:=(q_ hi A_ A_).1 b;exact h.ep j v o' b
def df.alive(h:df m xs)(hs:m.sema=0)(hi:xs[i]?=some .jr):∃(j:Nat)(y:bU),xs[j]?=some y/\y≠ .idle/\y≠ .jr:=by
 apply Classical.byContradiction;intro hn;have all:∀(j:Nat)(y:bU),xs[j]?=some y->y=.idle\/y=.jr:=AA;have z:∀f:bU->Nat,f .idle=0->f .jr=0->aR f xs=0:=λf h1 g=>YA f xs AA;have o:=z gn Y Y;have a:=z fV Y Y;have p:=z dN Y Y;have hd:=z fb Y Y;have ps:=z eh Y Y;have q:=Bw fm xs i .jr hi;simp[fm]at q;have d:=h.o;have c:m.L=false:=by grind
 cases hS:m.S with
 |true=>have:=h.st hS;grind
 |false=>
  have nm:=h.nm hS;have b:m.W=false:=by grind
  obtain⟨j,e⟩:=h.nI ⟨c,b,hS,As⟩;grind
def df.push(h:df m xs):df m (xs++[.idle]):=by
 have c:=λf=>Rz f xs .idle;have o:=c gn;have a:=c fV;have p:=c dN;have hd:=c fb;have ps:=c eh;have q:=c fm;simp only[gn,fV,dN,fb,eh,fm]at o a p hd ps q;have i:=h.o;refine⟨As,λe=>?_,λe=>?_,λe=>?_,λj v o' d=>?_⟩
 .have:=h.nm e;omega
 .have:=h.st e;grind
 .obtain⟨j,d⟩:=h.nI e;have b:j<xs.length:=(List.getElem?_eq_some_iff.1 d).1;exact⟨j,AA⟩
 .rcases Nat.lt_or_ge j xs.length with b|g
  .rw[List.getElem?_append_left b]at d;exact h.ep j v o' d
  grind
end
def xp(z:bU)(m m1:bj):Prop:=(z=.hand->m.k<=m1.k)/\∀v o,z=.ep v o->¬(m.iN/\m.fU=v)->¬(m1.iN/\m1.fU=v)
theorem xp.refl(z:bU)(m:bj):xp z m m:=⟨AA,λ_ _ _ h=>h⟩
theorem xp.trans{z:bU}{a b c:bj}(h:xp z a b)(d:xp z b c):xp z a c:=⟨λe=>Nat.le_trans (h.1 e) (d.1 e),λv o e n=>d.2 v o e (h.2 v o e n)⟩
structure lv(x y:bU)(m m1:bj)(f f1:Nat):Prop where
 inv:∀(xs:List bU)(i:Nat),xs[i]?=some x->df m xs->df m1 (xs.set i y)
 fuel:∀(xs:List bU)(i:Nat),xs[i]?=some x->df m xs->f1+2*qn m1 (xs.set i y)+1<=f+2*qn m xs
 km:∀(xs:List bU)(i j:Nat)(z:bU),df m xs->xs[i]?=some x->j≠i->xs[j]?=some z->xp z m m1
section
variable{m:bj}{f f1:Nat}
theorem qo{xs:List bU}{i:Nat}{x:bU}(hi:xs[i]?=some x)(m1:bj)(y:bU):qn m1 (xs.set i y)+dN x+eh x+m.sema=qn m xs+dN y+eh y+m1.sema:=by grind[oA,qn]
def vQ{z:bU}{m1:bj}(hk:m.k<=m1.k)(a:m1.iN->m.iN/\m1.fU=m.fU):xp z m m1:=⟨λ_=>hk,AA⟩
def rS(a:f1<f)(x:bU):lv x x m m f f1:=by
 have e:∀(xs:List bU)(i:Nat),xs[i]?=some x->xs.set i x=xs:=λxs i hi=>by apply List.ext_getElem?;grind
 exact⟨AA,AA,λ_ _ _ z _ _ _ _=>.refl z m⟩
def akT(a:f1<f):lv .idle .lQ m m f f1:=
 ⟨λxs i hi h=>h.start hi,λxs i hi _=>by have:=qo (m:=m) hi m .lQ;grind[dN,eh],λ_ _ _ z _ _ _ _=>.refl z m⟩
def RD{x:bU}(a:x=.lQ\/x=.iD)(b:m.L=false)(hS:m.S=false)(c:f1<f):lv x .own m {m with L:=true,W:=s6 x m.W} f f1:=
 ⟨λxs i hi h=>h.akJ hi a b hS,λxs i hi _=>by
  have:=qo (m:=m) hi {m with L:=true,W:=s6 x m.W} .own;rcases a with rfl|rfl<;>simp[dN,eh]at this⊢ <;>omega,
  λ_ _ _ z _ _ _ _=>vQ J1 (λe=>absurd e.1 A_)⟩
def YD(hq:m.L=true\/m.S=true)(a:f1<f):lv .lQ .jr m {m with k:=m.k+1} f f1:=
 ⟨λxs i hi h=>h.queue hi hq,λxs i hi _=>by have:=qo (m:=m) hi {m with k:=m.k+1} .jr;grind[dN,eh],
  λ_ _ _ z _ _ _ _=>vQ (Nat.le_succ _) (λe=>by obtain⟨c,_,b,_⟩:=e;grind)⟩
def YE(sv:Bool)(a:m.L=true)(b:f1<f):lv .iD .jr m {m with k:=m.k+1,W:=false,S:=sv} f f1:=
 ⟨λxs i hi h=>h.akK hi sv a,λxs i hi _=>by have:=qo (m:=m) hi {m with k:=m.k+1,W:=false,S:=sv} .jr;grind[dN,eh],
  λ_ _ _ z _ _ _ _=>vQ (Nat.le_succ _) (λe=>absurd e.1 AA)⟩
def akU(b:m.L=true)(hS:m.S=false)(a:m.W=false)(c:f1<f):lv .lQ .iD m {m with W:=true} f f1:=
 ⟨λxs i hi h=>h.akL hi b hS a,λxs i hi _=>by have:=qo (m:=m) hi {m with W:=true} .iD;grind[dN,eh],
  λ_ _ _ z _ _ _ _=>vQ J1 (λe=>absurd e.1 AA)⟩
def akV(hS:m.S=false)(hs:0<m.sema)(a:f1<f+2):lv .jr .iD m {m with sema:=m.sema-1} f f1:=
 ⟨λxs i hi h=>h.akM hi hS hs,λxs i hi _=>by have:=qo (m:=m) hi {m with sema:=m.sema-1} .iD;grind[dN,eh],
  λ_ _ _ z _ _ _ _=>vQ J1 (λe=>⟨e,Y⟩)⟩
def akW(hS:m.S=true)(hs:0<m.sema)(a:f1<f+2):lv .jr .hand m {m with sema:=m.sema-1} f f1:=
 ⟨λxs i hi h=>h.akN hi hS hs,λxs i hi _=>by have:=qo (m:=m) hi {m with sema:=m.sema-1} .hand;grind[dN,eh],
  λ_ _ _ z _ _ _ _=>vQ J1 (λe=>⟨e,Y⟩)⟩
def akX(clear:Bool)(c:clear=false->2<=m.k)(d:f1<f):lv .hand .own m {m with L:=true,k:=m.k-1,S:= !clear} f f1:=
 ⟨λxs i hi h=>h.handed hi clear c,λxs i hi _=>by have:=qo (m:=m) hi {m with L:=true,k:=m.k-1,S:= !clear} .own;grind[dN,eh],
  λxs i j z h hi b a=>⟨λe=>by
   subst e;have:=Ry fb xs i j .hand .hand hi a (Ne.symm b);have h1:=(h.Ip hi).2.2.2.2.2.1;grind[fb],λ_ _ _ _ e=>absurd e.1.1 A_⟩⟩
def akY(hS:m.S=true)(a:f1+2<f):lv .own .ps m {m with L:=false} f f1:=
 ⟨λxs i hi h=>h.akO hi hS,λxs i hi _=>by have:=qo (m:=m) hi {m with L:=false} .ps;grind[dN,eh],
  λ_ _ _ z _ _ _ _=>vQ J1 (λe=>absurd e.2.2.1 AA)⟩
def akZ(hS:m.S=false)(hk:m.k=0)(a:f1<f):lv .own .idle m {m with L:=false} f f1:=
 ⟨λxs i hi h=>h.akP hi hS hk,λxs i hi _=>by have:=qo (m:=m) hi {m with L:=false} .idle;grind[dN,eh],
  λ_ _ _ z _ _ _ _=>vQ J1 (λe=>absurd e.2.2.2 AA)⟩
def ak0(hS:m.S=false)(c:f1<f):lv .own (.ep (m.fU+1) ({m with L:=false}:bj).word) m {m with L:=false,fU:=m.fU+1} f f1:=
 ⟨λxs i hi h=>h.akQ hi hS,λxs i hi _=>by have:=qo (m:=m) hi {m with L:=false,fU:=m.fU+1} (.ep (m.fU+1) ({m with L:=false}:bj).word);grind[dN,eh],
  λxs i j z h hi b a=>⟨AA,λv o e _ d=>by
   subst e;have:=(h.ep j v o a).1;grind⟩⟩
def ak1{v o:Nat}(a:m.iN)(d:f1+2<f):lv (.ep v o) .hY m {m with k:=m.k-1,W:=true} f f1:=
 ⟨λxs i hi h=>h.RA hi a,λxs i hi _=>by have:=qo (m:=m) hi {m with k:=m.k-1,W:=true} .hY;grind[dN,eh],
  λxs i j z h hi c b=>⟨λe=>by
   subst e;have:=(h.Ip b).1;rw[a.2.2.1]at this;grind,AA⟩⟩
def ak2{v o:Nat}(hn:¬(m.iN/\m.fU=v))(a:f1<f):lv (.ep v o) .idle m m f f1:=
 ⟨λxs i hi h=>h.leave hi hn,λxs i hi _=>by have:=qo (m:=m) hi m .idle;grind[dN,eh],λ_ _ _ z _ _ _ _=>.refl z m⟩
def ak3(a:f1<f):lv .hY .idle m {m with sema:=m.sema+1} f f1:=
 ⟨λxs i hi h=>h.akR hi,λxs i hi _=>by grind[qo,dN,eh],λ_ _ _ z _ _ _ _=>vQ J1 (λe=>⟨e,Y⟩)⟩
def ak4(a:f1<f):lv .ps .idle m {m with sema:=m.sema+1} f f1:=
 ⟨λxs i hi h=>h.akS hi,λxs i hi _=>by have:=qo (m:=m) hi {m with sema:=m.sema+1} .idle;grind[dN,eh],λ_ _ _ z _ _ _ _=>vQ J1 (λe=>⟨e,Y⟩)⟩
end
end ah
namespace fi
inductive alp where
 |free
 |has (p:Nat)
 |half (p:Nat) (v:Value)
 |rel
 |nc
 |lb
inductive Ix where
 |spawn (k:Nat) (pend:Bool)
 |pn
 |rZ
 |over
inductive At where
 |main (s:Ix)
 |work (s:alp) (put:List (Nat×Value))
 |gone (put:List (Nat×Value))
 |old
structure cx where
 aR:Nat
 dZ:Bool
 fW:Nat
 taken:Nat
 came:Nat
 done:List Value
def ga:At->Nat
 | .main (.spawn _ true)=>1
 | .work .free _ | .work (.has _) _ | .work (.half _ _) _ | .work .rel _=>1
 | _=>0
def gp:At->Nat| .work .nc _=>1| _=>0
def gK:At->Nat| .work .lb _=>1| _=>0
def zC:At->Bool
 | .work .rel _ | .work .nc _ | .work .lb _ | .gone _=>true
 | _=>false
def qp:At->List (Nat×Value)
 | .work _ l| .gone l=>l
 | _=>[]
def hand:At->List Nat
 | .work (.has p) _ | .work (.half p _) _=>[p]
 | _=>[]
def laid:At->List (Nat×Value)
 | .work (.half p v) l=>(p,v)::l
 | .work _ l| .gone l=>l
 | _=>[]
def dW(p:Nat)(a:At):Nat:=(hand a).count p+((qp a).map (·.1)).count p
def er(p:Nat)(a:At):Nat:=((qp a).map (·.1)).count p
def dc(f:At->Nat)(aC:List At):Nat:=(aC.map f).sum
theorem tY(f:At->Nat):∀(aC:List At)(i:Nat)(x y:At),aC[i]?=some x->dc f (aC.set i y)+f x=dc f aC+f y
 | [],i,x,y,h=>AA
 |a::aC,0,x,y,h=>by grind[dc]
 |a::aC,i+1,x,y,h=>by have:=tY f aC i x y Fq;simp[dc]at this⊢;omega
theorem po(f:At->Nat):∀(aC:List At)(i:Nat)(x:At),aC[i]?=some x->f x<=dc f aC
 | [],i,x,h=>AA
 |a::aC,0,x,h=>by grind[dc]
 |a::aC,i+1,x,h=>by have:=po f aC i x Fq;simp[dc]at this⊢;omega
def alq(f:At->Nat)(aC:List At)(y:At):dc f (aC++[y])=dc f aC+f y:=by simp[dc]
theorem Ma(f:At->Nat):∀(aC:List At),(∀(i:Nat) x,aC[i]?=some x->f x=0)->dc f aC=0
 | [],_=>by simp[dc]
 |a::aC,h=>by have h1:=h 0 a A_;have b:=Ma f aC λi x hi=>h (i+1) x Hq;simp[dc]at b⊢;omega
def jK(f:Nat->Nat):Nat->Nat
 |0=>0
 |n+1=>jK f n+f n
theorem YM{f g:Nat->Nat}:∀{n:Nat},(∀p,p<n->f p<=g p)->jK f n<=jK g n
 |0,_=>Nat.le_refl _
 |n+1,h=>by have:=YM (n:=n) λp a=>h p As;grind[jK]
theorem RV{f g:Nat->Nat}:∀{n:Nat},(∀p,p<n->f p=g p)->jK f n=jK g n
 |0,_=>rfl
 |n+1,h=>by have h1:=RV (n:=n) λp a=>h p As;have b:=h n As;simp[jK];omega
theorem YN{f g:Nat->Nat}{q d:Nat}:∀{n:Nat},q<n->(∀p,p≠q->g p=f p)->g q=f q+d->jK g n=jK f n+d
 |0,h,_,_=>As
 |n+1,h,h1,a=>by
  simp[jK];by_cases e:q=n
  .grind[RV]
  .have:=YN (n:=n) As h1 a;grind
def tZ(s:Ix)(b:cx)(aC:List At):Prop:=
 match s with
 | .spawn _ _ | .pn=>b.dZ=false/\b.fW=0/\dc gp aC=0/\dc gK aC=0
 | .rZ=>(b.dZ=true/\b.fW=0/\dc gK aC=0/\((0<b.aR/\dc gp aC=0)\/(b.aR=0/\dc gp aC=1)))\/(b.dZ=false/\b.aR=0/\dc gp aC=0/\b.fW+dc gK aC=1)
 | .over=>b.dZ=false/\b.aR=0/\b.fW=0/\dc gp aC=0/\dc gK aC=0
def RX(m:Nat)(aC:List At):Prop:=∀k q,aC[0]?=some (.main (.spawn k q))->aC.length=m+k
def YO:At->Bool
 | .work _ _ | .gone _=>true
 | _=>false
def d_(m:Nat)(aC:List At):Prop:=∀s,aC[0]?=some (.main s)->(∃q,s=.spawn 0 q)\/∃a,aC[m]?=some a/\YO a=true
structure c2(N:Nat)(rows:Nat->Nat)(b:cx)(aC:List At):Prop where
 oE:RX (rows N) aC
 t6:d_ (rows N) aC
 main:∃s,aC[0]?=some (.main s)/\tZ s b aC
 only:∀(j:Nat) s,aC[j]?=some (.main s)->j=0
 aR:b.aR=dc ga aC
 aQ:b.taken<=N
 len:b.done.length=N
 own:∀p,dc (dW p) aC=if p<b.taken then 1 else 0
 val:∀(j:Nat) a,aC[j]?=some a->∀pv∈laid a,b.done[pv.1]?=some pv.2
 came:b.came=jK (λp=>dc (er p) aC*rows p) N
 eI:(∃(j:Nat)(a:At),aC[j]?=some a/\zC a=true)->b.taken=N
variable{v:Value}
section
variable{N:Nat}{rows:Nat->Nat}{b:cx}{aC:List At}{i:Nat}
def xr{m:Nat}{x y:At}(h:RX m aC)(hi:aC[i]?=some x)(c:∀k q,y=.main (.spawn k q)->∃a,x=.main (.spawn k a)):RX m (aC.set i y):=by
 intro k q hk;rw[List.length_set];have b:i<aC.length:=(List.getElem?_eq_some_iff.1 hi).1;by_cases e:i=0
 .subst e;rw[List.getElem?_set_self b]at hk;obtain⟨a,rfl⟩:=c k q AA;exact h k a hi
 .rw[List.getElem?_set_ne e]at hk;exact h k q hk
def zD{m:Nat}{x y:At}(h:d_ m aC)(hi:aC[i]?=some x)(h0:i≠0)(b:YO y=true):d_ m (aC.set i y):=by intro s hs;rw[List.getElem?_set_ne h0]at hs;refine(h s hs).imp id λ⟨a,d,c⟩=>?_;grind
def alr{m:Nat}{s c:Ix}(h:d_ m aC)(hi:aC[0]?=some (.main s))(hs:∀q,s=.spawn 0 q->∃g,c=.spawn 0 g):d_ m (aC.set 0 (.main c)):=by
 intro i f;have b:0<aC.length:=(List.getElem?_eq_some_iff.1 hi).1;rw[List.getElem?_set_self b]at f;cases f;refine(h s hi).imp AA λ⟨a,e,d⟩=>⟨a,?_,d⟩;have:0≠m:=by rintro rfl;rw[hi]at e;cases e;cases d
 grind
def als(p:Nat)(a:At):er p a<=dW p a:=Nat.le_add_left _ _
theorem YP{f g:At->Nat}(h:∀a,f a<=g a):∀(aC:List At),dc f aC<=dc g aC
 | []=>by simp[dc]
 |a::aC=>by have:=YP h aC;grind[dc]
def c2.YQ(h:c2 N rows b aC):b.came<=jK rows N:=by rw[h.came];refine YM λp _=>?_;have h1:=YP (als p) aC;have a:=h.own p;grind[Nat.le_one_iff_eq_zero_or_eq_one]
def zE{x:At}(h:c2 N rows b aC)(hi:aC[i]?=some x)(a:∀s,x≠ .main s):i≠0:=by rintro rfl;obtain⟨s,hs,_⟩:=h.main;grind
theorem YR(f:At->Nat):∀(aC:List At)(i j:Nat)(x y:At),aC[i]?=some x->aC[j]?=some y->i≠j->f x+f y<=dc f aC
 | [],i,j,x,y,h,_,_=>AA
 |a::aC,0,0,x,y,_,_,h=>absurd Y h
 |a::aC,0,j+1,x,y,c,b,_=>by simp at c b;subst c;have:=po f aC j y b;grind[dc]
 |a::aC,i+1,0,x,y,c,b,_=>by simp at c b;subst b;have:=po f aC i x c;grind[dc]
 |a::aC,i+1,j+1,x,y,c,b,h=>by have:=YR f aC i j x y (by simpa using c) (by simpa using b) As;simp[dc]at this⊢;omega
def alt{a:At}{p:Nat}(h:(p,v)∈laid a):1<=dW p a:=by
 unfold dW;cases a with
 |main s=>simp[laid]at h
 |old=>simp[laid]at h
 |gone l=>have:p∈l.map (·.1):=List.mem_map.2 ⟨_,h,Y⟩;grind[qp]
 |work s l=>
  have key:∀{l:List (Nat×Value)},(p,v)∈l->1<=(l.map (·.1)).count p:=λh=>List.count_pos_iff.2 AA;cases s with
  |half q u=>
   simp[laid]at h;rcases h with⟨rfl,rfl⟩|h
   .simp[hand]
   grind[qp]
  | _=>have:=key (show(p,v)∈l from h);grind[qp]
theorem Mb{s:Ix}{b b1:cx}{aC a:List At}(h1:b1.aR=b.aR)(d:b1.dZ=b.dZ)(h3:b1.fW=b.fW)(c:dc gp a=dc gp aC)(e:dc gK a=dc gK aC)(h:tZ s b aC):tZ s b1 a:=by simp_all[tZ]
def i9{aC:List At}{i j:Nat}{x y a:At}(hi:aC[i]?=some x)(h:(aC.set i y)[j]?=some a):(j=i/\a=y)\/(j≠i/\aC[j]?=some a):=by grind
def c2.take(h:c2 N rows b aC){l:List (Nat×Value)}(a0:b.taken<N)(hi:aC[i]?=some (.work .free l)):c2 N rows {b with taken:=b.taken+1} (aC.set i (.work (.has b.taken) l)):=by
 have h0:i≠0:=zE h hi A_;have c:=λf=>tY f aC i (.work .free l) (.work (.has b.taken) l) hi;have c1:=c ga;have cr:=c gp;have dm:=c gK;simp only[ga,gp,gK]at c1 cr dm;have r:=h.aR;obtain⟨s,hs,q⟩:=h.main;refine⟨xr h.oE hi AA,zD h.t6 hi h0 Y,⟨s,AA,?_⟩,λj s' g=>?_,AA,AA,h.len,λd=>?_,λj a g pv k=>?_,?_,λ⟨j,a,g,n⟩=>?_⟩
 .grind[Mb]
 .rcases i9 hi g with⟨_,e⟩|⟨_,e⟩
  .cases e
  .exact h.only j s' e
 .have:=c (dW d);have e:=h.own d;simp only[dW,hand,qp,List.count_nil,List.count_singleton]at this;simp only;by_cases p:d=b.taken
  .grind
  grind
 .rcases i9 hi g with⟨rfl,rfl⟩|⟨m,e⟩
  .exact h.val j _ hi pv k
  .exact h.val j a e pv k
 .have e:∀d,dc (er d) (aC.set i (.work (.has b.taken) l))=dc (er d) aC:=λd=>by have:=c (er d);have o:er d (.work (.has b.taken) l)=er d (.work .free l):=rfl;grind
  simp only[e];exact h.came
 .rcases i9 hi g with⟨rfl,rfl⟩|⟨_,e⟩
  .simp[zC]at n
  .have:=h.eI AA;omega
def c2.lay(h:c2 N rows b aC){p:Nat}{l:List (Nat×Value)}(hi:aC[i]?=some (.work (.has p) l)):c2 N rows {b with done:=b.done.set p v} (aC.set i (.work (.half p v) l)):=by
 have h0:i≠0:=zE h hi A_;have c:=λf=>tY f aC i (.work (.has p) l) (.work (.half p v) l) hi;have c1:=c ga;have cr:=c gp;have dm:=c gK;simp only[ga,gp,gK]at c1 cr dm;have u:=h.aR;obtain⟨s,hs,t⟩:=h.main;refine⟨xr h.oE hi AA,zD h.t6 hi h0 Y,⟨s,AA,?_⟩,λj s' k=>?_,AA,h.aQ,by simp;exact h.len,λd=>?_,λj a k pv m=>?_,?_,λ⟨j,a,k,o⟩=>?_⟩
 .grind[Mb]
 .rcases i9 hi k with⟨_,e⟩|⟨_,e⟩
  .cases e
  .exact h.only j s' e
 .have:=c (dW d);have e:=h.own d;have n:dW d (.work (.half p v) l)=dW d (.work (.has p) l):=rfl;grind
 .rcases i9 hi k with⟨rfl,rfl⟩|⟨g,e⟩
  .have x:p<b.done.length:=by
    have e:=h.own p;have:=po (dW p) aC j _ hi;have r:1<=dW p (.work (.has p) l):=by simp[dW,hand]
    rw[h.len];have:=h.aQ;grind
   simp[laid]at m;rcases m with rfl|m
   .grind
   .have g:pv.1≠p:=λe=>by have h1:1<=(l.map (·.1)).count p:=List.count_pos_iff.2 AA;have q:=h.own p;grind[po,dW,hand,qp]
    simp only;rw[List.getElem?_set_ne (Ne.symm g)];exact h.val j _ hi pv m
  .have g:pv.1≠p:=λw=>by
    have h1:1<=dW p a:=alt (v:=pv.2) AA;have:=YR (dW p) aC i j _ _ hi e (Ne.symm g);have r:1<=dW p (.work (.has p) l):=by simp[dW,hand]
    have q:=h.own p;grind
   simp only;rw[List.getElem?_set_ne (Ne.symm g)];exact h.val j a e pv m
 .have e:∀d,dc (er d) (aC.set i (.work (.half p v) l))=dc (er d) aC:=λd=>by have:=c (er d);have n:er d (.work (.half p v) l)=er d (.work (.has p) l):=rfl;grind
  simp only[e];exact h.came
 .rcases i9 hi k with⟨rfl,rfl⟩|⟨_,e⟩
  .simp[zC]at o
  .exact h.eI AA
def c2.count(h:c2 N rows b aC){p:Nat}{l:List (Nat×Value)}(hi:aC[i]?=some (.work (.half p v) l)):c2 N rows {b with came:=b.came+rows p} (aC.set i (.work .free ((p,v)::l))):=by
 have h0:i≠0:=zE h hi A_;have c:=λf=>tY f aC i (.work (.half p v) l) (.work .free ((p,v)::l)) hi;have c1:=c ga;have cr:=c gp;have dm:=c gK;simp only[ga,gp,gK]at c1 cr dm;have q:=h.aR;obtain⟨s,hs,o⟩:=h.main;refine⟨xr h.oE hi AA,zD h.t6 hi h0 Y,⟨s,AA,?_⟩,λj s' d=>?_,AA,h.aQ,h.len,λg=>?_,λj a d pv k=>?_,?_,λ⟨j,a,d,n⟩=>?_⟩
 .grind[Mb]
 .rcases i9 hi d with⟨_,e⟩|⟨_,e⟩
  .cases e
  .exact h.only j s' e
 .have:=c (dW g);have e:=h.own g;grind[dW,hand,qp]
 .rcases i9 hi d with⟨rfl,rfl⟩|⟨m,e⟩
  .exact h.val j _ hi pv k
  .exact h.val j a e pv k
 .have t:p<N:=by
   have e:=h.own p;have:=po (dW p) aC i _ hi;have r:1<=dW p (.work (.half p v) l):=by simp[dW,hand]
   have:=h.aQ;grind
  simp only;rw[h.came];grind[YN,er,qp]
 .rcases i9 hi d with⟨rfl,rfl⟩|⟨_,e⟩
  .simp[zC]at n
  .exact h.eI AA
def c2.release(h:c2 N rows b aC){l:List (Nat×Value)}(a0:b.taken=N)(hi:aC[i]?=some (.work .free l)):c2 N rows b (aC.set i (.work .rel l)):=by
 have h0:i≠0:=zE h hi A_;have c:=λf=>tY f aC i (.work .free l) (.work .rel l) hi;have c1:=c ga;have cr:=c gp;have dm:=c gK;simp only[ga,gp,gK]at c1 cr dm;have q:=h.aR;obtain⟨s,hs,o⟩:=h.main;refine⟨xr h.oE hi AA,zD h.t6 hi h0 Y,⟨s,AA,?_⟩,λj s' g=>?_,As,h.aQ,h.len,λd=>?_,λj a g pv k=>?_,?_,λ⟨j,a,g,p⟩=>?_⟩
 .grind[Mb]
 .rcases i9 hi g with⟨_,e⟩|⟨_,e⟩
  .cases e
  .exact h.only j s' e
 .have:=c (dW d);have e:=h.own d;have m:dW d (.work .rel l)=dW d (.work .free l):=rfl;grind
 .rcases i9 hi g with⟨rfl,rfl⟩|⟨n,e⟩
  .exact h.val j _ hi pv k
  .exact h.val j a e pv k
 .have e:∀d,dc (er d) (aC.set i (.work .rel l))=dc (er d) aC:=λd=>by have:=c (er d);have m:er d (.work .rel l)=er d (.work .free l):=rfl;grind
  simp only[e];exact h.came
 grind
theorem c2.out(h:c2 N rows b aC){l:List (Nat×Value)}(r:b.dZ=false\/2<=b.aR)(hi:aC[i]?=some (.work .rel l)):c2 N rows {b with aR:=b.aR-1} (aC.set i (.gone l)):=by
 have h0:i≠0:=zE h hi A_;have c:=λf=>tY f aC i (.work .rel l) (.gone l) hi;have c1:=c ga;have cr:=c gp;have dm:=c gK;simp only[ga,gp,gK]at c1 cr dm;have u:=h.aR;obtain⟨s,hs,g⟩:=h.main;refine⟨xr h.oE hi AA,zD h.t6 hi h0 Y,⟨s,AA,?_⟩,λj s' m=>?_,AA,h.aQ,h.len,λd=>?_,λj a m pv n=>?_,?_,λ⟨j,a,m,t⟩=>?_⟩
 .cases s with|rZ=>grind[tZ]|over=>grind[tZ]|spawn k q=>exact⟨g.1,g.2.1,by have:=g.2.2.1;omega,by have:=g.2.2.2;omega⟩|pn=>exact⟨g.1,g.2.1,by have:=g.2.2.1;omega,by have:=g.2.2.2;omega⟩
 .rcases i9 hi m with⟨_,e⟩|⟨_,e⟩
  .cases e
  .exact h.only j s' e
 .have:=c (dW d);have e:=h.own d;have o:dW d (.gone l)=dW d (.work .rel l):=rfl;grind
 .rcases i9 hi m with⟨rfl,rfl⟩|⟨p,e⟩
  .exact h.val j _ hi pv n
  .exact h.val j a e pv n
 .have e:∀d,dc (er d) (aC.set i (.gone l))=dc (er d) aC:=λd=>by have:=c (er d);have o:er d (.gone l)=er d (.work .rel l):=rfl;grind
  simp only[e];exact h.came
 .rcases i9 hi m with⟨rfl,rfl⟩|⟨_,e⟩
  .exact h.eI ⟨_,_,hi,Y⟩
  .exact h.eI AA
def c2.alu(h:c2 N rows b aC){l:List (Nat×Value)}(p:b.dZ=true)(o:b.aR=1)(hi:aC[i]?=some (.work .rel l)):c2 N rows {b with aR:=b.aR-1} (aC.set i (.work .nc l)):=by
 have h0:i≠0:=zE h hi A_;have c:=λf=>tY f aC i (.work .rel l) (.work .nc l) hi;have c1:=c ga;have cr:=c gp;have dm:=c gK;simp only[ga,gp,gK]at c1 cr dm;have t:=h.aR;obtain⟨s,hs,q⟩:=h.main;refine⟨xr h.oE hi AA,zD h.t6 hi h0 Y,⟨s,AA,?_⟩,λj s' g=>?_,AA,h.aQ,h.len,λd=>?_,λj a g pv k=>?_,?_,λ⟨j,a,g,r⟩=>?_⟩
 .simp_all[tZ]
 .rcases i9 hi g with⟨_,e⟩|⟨_,e⟩
  .cases e
  .exact h.only j s' e
 .have:=c (dW d);have e:=h.own d;have m:dW d (.work .nc l)=dW d (.work .rel l):=rfl;grind
 .rcases i9 hi g with⟨rfl,rfl⟩|⟨n,e⟩
  .exact h.val j _ hi pv k
  .exact h.val j a e pv k
 .have e:∀d,dc (er d) (aC.set i (.work .nc l))=dc (er d) aC:=λd=>by have:=c (er d);have m:er d (.work .nc l)=er d (.work .rel l):=rfl;grind
  simp only[e];exact h.came
 .rcases i9 hi g with⟨rfl,rfl⟩|⟨_,e⟩
  .exact h.eI ⟨_,_,hi,Y⟩
  .exact h.eI AA
def c2.alv(h:c2 N rows b aC){l:List (Nat×Value)}(hi:aC[i]?=some (.work .nc l)):c2 N rows {b with dZ:=false} (aC.set i (.work .lb l)):=by
 have h0:i≠0:=zE h hi A_;have c:=λf=>tY f aC i (.work .nc l) (.work .lb l) hi;have c1:=c ga;have cr:=c gp;have dm:=c gK;simp only[ga,gp,gK]at c1 cr dm;have u:=h.aR;obtain⟨s,hs,m⟩:=h.main;refine⟨xr h.oE hi AA,zD h.t6 hi h0 Y,⟨s,AA,?_⟩,λj s' g=>?_,AA,h.aQ,h.len,λd=>?_,λj a g pv n=>?_,?_,λ⟨j,a,g,t⟩=>?_⟩
 .have p:=po gp aC i _ hi;simp[gp]at p;cases s with|rZ=>simp only[tZ]at m⊢;grind|over=>have:=m.2.2.2;omega|spawn k q=>have:=m.2.2;omega|pn=>have:=m.2.2;omega
 .rcases i9 hi g with⟨_,e⟩|⟨_,e⟩
  .cases e
  .exact h.only j s' e
 .have:=c (dW d);have e:=h.own d;have o:dW d (.work .lb l)=dW d (.work .nc l):=rfl;grind
 .rcases i9 hi g with⟨rfl,rfl⟩|⟨r,e⟩
  .exact h.val j _ hi pv n
  .exact h.val j a e pv n
 .have e:∀d,dc (er d) (aC.set i (.work .lb l))=dc (er d) aC:=λd=>by have:=c (er d);have o:er d (.work .lb l)=er d (.work .nc l):=rfl;grind
  simp only[e];exact h.came
 .rcases i9 hi g with⟨rfl,rfl⟩|⟨_,e⟩
  .exact h.eI ⟨_,_,hi,Y⟩
  .exact h.eI AA
def c2.raise(h:c2 N rows b aC){l:List (Nat×Value)}(hi:aC[i]?=some (.work .lb l)):c2 N rows {b with fW:=b.fW+1} (aC.set i (.gone l)):=by
 have h0:i≠0:=zE h hi A_;have c:=λf=>tY f aC i (.work .lb l) (.gone l) hi;have c1:=c ga;have cr:=c gp;have dm:=c gK;simp only[ga,gp,gK]at c1 cr dm;have u:=h.aR;obtain⟨s,hs,m⟩:=h.main;refine⟨xr h.oE hi AA,zD h.t6 hi h0 Y,⟨s,AA,?_⟩,λj s' g=>?_,AA,h.aQ,h.len,λd=>?_,λj a g pv n=>?_,?_,λ⟨j,a,g,t⟩=>?_⟩
 .have p:=po gK aC i _ hi;simp[gK]at p;cases s with|rZ=>grind[tZ]|over=>have:=m.2.2.2;omega|spawn k q=>have:=m.2.2;omega|pn=>have:=m.2.2;omega
 .rcases i9 hi g with⟨_,e⟩|⟨_,e⟩
  .cases e
  .exact h.only j s' e
 .have:=c (dW d);have e:=h.own d;have o:dW d (.gone l)=dW d (.work .lb l):=rfl;grind
 .rcases i9 hi g with⟨rfl,rfl⟩|⟨r,e⟩
  .exact h.val j _ hi pv n
  .exact h.val j a e pv n
 .have e:∀d,dc (er d) (aC.set i (.gone l))=dc (er d) aC:=λd=>by have:=c (er d);have o:er d (.gone l)=er d (.work .lb l):=rfl;grind
  simp only[e];exact h.came
 .rcases i9 hi g with⟨rfl,rfl⟩|⟨_,e⟩
  .exact h.eI ⟨_,_,hi,Y⟩
  .exact h.eI AA
def c2.Iy(h:c2 N rows b aC){s d:Ix}(hi:aC[0]?=some (.main s)){b1:cx}(y:b1.aR+ga (.main s)=b.aR+ga (.main d))(ht:b1.taken=b.taken)(hd:b1.done=b.done)(t:b1.came=b.came)(r:∀k q,d=.spawn k q->∃m,s=.spawn k m)(p:∀q,s=.spawn 0 q->∃m,d=.spawn 0 m)(hok:∀l,dc gp l=dc gp aC->dc gK l=dc gK aC->tZ s b aC->tZ d b1 l):c2 N rows b1 (aC.set 0 (.main d)):=by
 have c:=λf=>tY f aC 0 (.main s) (.main d) hi;have c1:=c ga;have cr:=c gp;have dm:=c gK;have A:gp (.main s)=0/\gp (.main d)=0:=⟨Y,Y⟩;have z:gK (.main s)=0/\gK (.main d)=0:=⟨Y,Y⟩;have u:0<aC.length:=(List.getElem?_eq_some_iff.1 hi).1;obtain⟨s',hs,x⟩:=h.main;rw[hi]at hs;cases hs;have w:=h.aR;refine⟨xr h.oE hi AA,alr h.t6 hi p,AA,λj s' i=>?_,As,by rw[ht];exact h.aQ,by rw[hd];exact h.len,λg=>?_,λj a i pv n=>?_,?_,λ⟨j,a,i,v⟩=>?_⟩
 .rcases i9 hi i with⟨e,_⟩|⟨_,e⟩
  .exact e
  .exact h.only j s' e
 .have:=c (dW g);have e:=h.own g;have o:dW g (.main s)=0/\dW g (.main d)=0:=⟨Y,Y⟩;grind
 .rw[hd];rcases i9 hi i with⟨_,rfl⟩|⟨_,e⟩
  .simp[laid]at n
  .exact h.val j a e pv n
 .have e:∀g,dc (er g) (aC.set 0 (.main d))=dc (er g) aC:=λg=>by have:=c (er g);have o:er g (.main s)=0/\er g (.main d)=0:=⟨Y,Y⟩;omega
  simp only[e];rw[t];exact h.came
 .rw[ht];rcases i9 hi i with⟨_,rfl⟩|⟨_,e⟩
  .simp[zC]at v
  .exact h.eI AA
theorem c2.add(h:c2 N rows b aC){k:Nat}(hi:aC[0]?=some (.main (.spawn k false))):c2 N rows {b with aR:=b.aR+1} (aC.set 0 (.main (.spawn k true))):=
 h.Iy hi Ji Y Y Y AA AA λd h1 c a=>⟨a.1,a.2.1,h1.trans a.2.2.1,c.trans a.2.2.2⟩
def c2.waits(h:c2 N rows b aC){k:Nat}(hk:0<k)(hi:aC[0]?=some (.main (.spawn k false))):c2 N rows b (aC.set 0 (.main .pn)):=
 h.Iy hi Ji Y Y Y AA AA λd h1 c a=>⟨a.1,a.2.1,h1.trans a.2.2.1,c.trans a.2.2.2⟩
def c2.alw(h:c2 N rows b aC)(hi:aC[0]?=some (.main .pn))(c:0<b.aR):c2 N rows {b with dZ:=true} (aC.set 0 (.main .rZ)):=
 h.Iy hi Ji Y Y Y AA AA λe h1 d a=>.inl ⟨Y,a.2.1,d.trans a.2.2.2,.inl ⟨c,h1.trans a.2.2.1⟩⟩
def c2.zero(h:c2 N rows b aC)(hi:aC[0]?=some (.main .pn))(c:b.aR=0):c2 N rows b (aC.set 0 (.main .over)):=
 h.Iy hi Ji Y Y Y AA AA λe h1 d a=>⟨a.1,c,a.2.1,h1.trans a.2.2.1,d.trans a.2.2.2⟩
def c2.RA(h:c2 N rows b aC)(hi:aC[0]?=some (.main .rZ))(hs:b.fW≠0):c2 N rows {b with fW:=b.fW-1} (aC.set 0 (.main .over)):=
 h.Iy hi Ji Y Y Y AA AA λe h1 f d=>by
  rcases d with⟨_,a,_⟩|⟨m1,a,c,g⟩
  .grind
  .exact⟨m1,a,AA,h1.trans c,As⟩
def c2.born(h:c2 N rows b aC){k:Nat}(hi:aC[0]?=some (.main (.spawn k true))):c2 N rows b (aC.set 0 (.main (.spawn (k+1) false))++[.work .free []]):=by
 have c:=λf=>tY f aC 0 (.main (.spawn k true)) (.main (.spawn (k+1) false)) hi;have d:=λf=>alq f (aC.set 0 (.main (.spawn (k+1) false))) (.work .free []);have c1:=c ga;have cr:=c gp;have dm:=c gK;have d1:=d ga;have x:=d gp;have w:=d gK;simp only[ga,gp,gK]at c1 cr dm d1 x w;have s:0<aC.length:=(List.getElem?_eq_some_iff.1 hi).1;obtain⟨s',hs,l⟩:=h.main;rw[hi]at hs;cases hs;have y:=h.aR;have get:∀{j:Nat}{a:At},(aC.set 0 (.main (.spawn (k+1) false))++[.work .free []])[j]?=some a->(j=0/\a=.main (.spawn (k+1) false))\/(j≠0/\aC[j]?=some a)\/(j=aC.length/\a=.work .free []):=by grind
 refine⟨λk' A B=>?_,λz t=>.inr ?_,⟨.spawn (k+1) false,AA,l.1,l.2.1,by have:=l.2.2.1;omega,by have:=l.2.2.2;omega⟩,λj s' i=>?_,As,h.aQ,h.len,λg=>?_,λj a i pv o=>?_,?_,λ⟨j,a,i,m⟩=>?_⟩
 .have m:=h.oE k true hi;grind
 .have m:=h.oE k true hi;rcases h.t6 _ hi with⟨q,e⟩|⟨a,n,r⟩
  .cases e;refine⟨.work .free [],?_,Y⟩;grind
  .have h1:rows N<aC.length:=(List.getElem?_eq_some_iff.1 n).1;have t:0≠rows N:=by intro e;rw[<-e,hi]at n;cases n;cases r
   grind
 .rcases get i with⟨e,_⟩|⟨_,e⟩|⟨_,e⟩
  .exact e
  .exact h.only j s' e
  grind
 .have v:=c (dW g);have u:=d (dW g);have e:=h.own g;have p:dW g (.main (.spawn k true))=0/\dW g (.main (.spawn (k+1) false))=0/\dW g (.work .free [])=0:=⟨Y,Y,Y⟩;omega
 .rcases get i with⟨_,rfl⟩|⟨_,e⟩|⟨_,rfl⟩
  .simp[laid]at o
  .exact h.val j a e pv o
  grind[laid]
 .have e:∀g,dc (er g) (aC.set 0 (.main (.spawn (k+1) false))++[.work .free []])=dc (er g) aC:=λg=>by have v:=c (er g);have u:=d (er g);have p:er g (.main (.spawn k true))=0/\er g (.main (.spawn (k+1) false))=0/\er g (.work .free [])=0:=⟨Y,Y,Y⟩;omega
  simp only[e];exact h.came
 .rcases get i with⟨_,rfl⟩|⟨_,e⟩|⟨_,rfl⟩
  .simp[zC]at m
  .exact h.eI AA
  grind[zC]
def qq:At->Prop
 | .gone _ | .old=>True
 | _=>False
def Mc(a:At)(b:cx):Prop:=a=.main .rZ/\b.fW=0
def c2.alive(h:c2 N rows b aC):∃(j:Nat)(a:At),aC[j]?=some a/\¬qq a/\¬Mc a b:=by
 obtain⟨s,hs,i⟩:=h.main;by_cases d:s=.rZ/\b.fW=0
 .obtain⟨rfl,m⟩:=d;apply Classical.byContradiction;intro hn;have all:∀(j:Nat)(a:At),aC[j]?=some a->qq a\/a=.main .rZ:=λj a k=>by apply Classical.byContradiction;intro g;exact hn ⟨j,a,k,AA,λe=>g (.inr e.1)⟩
  have z:∀f:At->Nat,(∀a,qq a->f a=0)->f (.main .rZ)=0->dc f aC=0:=λf h1 n=>Ma f aC AA;have q:=z ga (λa c=>Hn) Y;have p:=z gp (λa c=>Hn) Y;have o:=z gK (λa c=>Hn) Y;have g:=h.aR;rcases i with⟨_,_,_,l⟩|⟨_,_,_,l⟩<;>omega
 .exact⟨0,_,hs,λe=>e,λe=>d ⟨by have:=e.1;grind,e.2⟩⟩
def c2.all(h:c2 N rows b aC)(hi:aC[0]?=some (.main .over)):∀(j:Nat)(a:At),aC[j]?=some a->j=0\/qq a:=by intro j a c;obtain⟨s',hs,d⟩:=h.main;rw[hi]at hs;cases hs;have f:=h.aR;have h1:=po ga aC j a c;have e:=po gp aC j a c;have h3:=po gK aC j a c;have:=d.2.1;have:=d.2.2.2;cases a with|main s=>exact .inl (h.only j s c)|gone l=>exact .inr trivial|old=>exact .inr trivial|work s l=>cases s<;>simp only[ga,gp,gK]at h1 e h3<;>omega
end
end fi
end Go.Proofs.YtncomcmfgmojkaaGreat
