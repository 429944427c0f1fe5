import Derived.Test.YtoehnnefaeoeoaaGreatP00
import Derived.Conc.CrowdTrace
set_option linter.all false
set_option maxRecDepth 100000
set_option maxHeartbeats 16000000
namespace Go.Proofs.YtoehnnefaeoeoaaGreat
namespace az
structure ay where
 rel:Nat->Nat->Prop
 mine:Nat->Prop
def dC(ρ:ay)(a a':Addr):Prop:=ρ.rel a.block a'.block/\a.off=a'.off/\a.spot=a'.spot
inductive vI(ρ:ay):Fn->Fn->Prop
 |func (f:FuncId):vI ρ (.func f) (.func f)
 |yield {l aW:Nat} (h:ρ.rel l aW):vI ρ (.yield l) (.yield aW)
inductive aA(ρ:ay):Value->Value->Prop
 |bool (b:Bool):aA ρ (.bool b) (.bool b)
 |int (k:IntKind) (n:Int):aA ρ (.int k n) (.int k n)
 |string (s:ByteArray):aA ρ (.string s) (.string s)
 |lP:aA ρ (.pointer none) (.pointer none)
 |e7 {a a':Addr} (h:dC ρ a a'):aA ρ (.pointer (some a)) (.pointer (some a'))
 |hA (l c:Nat):aA ρ (.slice none l c) (.slice none l c)
 |slice {a a':Addr} (l c:Nat) (h:dC ρ a a'):aA ρ (.slice (some a) l c) (.slice (some a') l c)
 |sU:aA ρ (.map none) (.map none)
 |map {r c5:Nat} (h:ρ.rel r c5):aA ρ (.map (some r)) (.map (some c5))
 |r7:aA ρ (.chan none) (.chan none)
 |func {fn mK:Fn} {a a' b aD:Array Value} (h:vI ρ fn mK) (ha:a.size=a'.size) (hb:b.size=aD.size)
  (h1:∀(i:Nat)(v v':Value),a[i]?=some v->a'[i]?=some v'->aA ρ v v') (h2:∀(i:Nat)(v v':Value),b[i]?=some v->aD[i]?=some v'->aA ρ v v'):aA ρ (.func fn a b) (.func mK a' aD)
 |nilFunc:aA ρ .nilFunc .nilFunc
 |iface (t:TypeId) {v v':Value} (h:aA ρ v v'):aA ρ (.iface t v) (.iface t v')
 |nilIface:aA ρ .nilIface .nilIface
 |agg {a a':Array Value} (hs:a.size=a'.size) (h:∀(i:Nat)(v v':Value),a[i]?=some v->a'[i]?=some v'->aA ρ v v'):aA ρ (.agg a) (.agg a')
 |tuple {a a':Array Value} (hs:a.size=a'.size) (h:∀(i:Nat)(v v':Value),a[i]?=some v->a'[i]?=some v'->aA ρ v v'):aA ρ (.tuple a) (.tuple a')
structure a3(ρ:ay)(a a':Array Value):Prop where
 size:a.size=a'.size
 get:∀(i:Nat)(v v':Value),a[i]?=some v->a'[i]?=some v'->aA ρ v v'
def ay.le(ρ σ:ay):Prop:=(∀b aD,ρ.rel b aD->σ.rel b aD)/\∀b,ρ.mine b->σ.mine b
theorem ay.le_refl(ρ:ay):ay.le ρ ρ:=⟨fun _ _ h=>h,fun _ h=>h⟩
variable {ρ σ:ay}
theorem ay.le_trans{a:ay}(h:ay.le ρ σ)(k:ay.le σ a):ay.le ρ a:=⟨fun b aD x=>k.1 b aD (h.1 b aD x),fun b x=>k.2 b (h.2 b x)⟩
theorem dC.mono(hl:ay.le ρ σ){a a':Addr}(h:dC ρ a a'):dC σ a a':=⟨hl.1 _ _ h.1,h.2⟩
theorem vI.mono(hl:ay.le ρ σ){a a':Fn}(h:vI ρ a a'):vI σ a a':=by cases h with|yield h=>exact .yield (hl.1 _ _ h)|func f=>exact .func f
variable {v v':Value}
theorem aA.mono(hl:ay.le ρ σ)(h:aA ρ v v'):aA σ v v':=by induction h with|bool b=>exact .bool b|int k n=>exact .int k n|string s=>exact .string s|lP=>exact .lP|e7 h=>exact .e7 (h.mono hl)|hA l c=>exact .hA l c|slice l c h=>exact .slice l c (h.mono hl)|sU=>exact .sU|map h=>exact .map (hl.1 _ _ h)|r7=>exact .r7|func h i g _ _ f e=>exact .func (h.mono hl) i g f e|nilFunc=>exact .nilFunc|iface t _ a=>exact .iface t a|nilIface=>exact .nilIface|agg d _ a=>exact .agg d a|tuple d _ a=>exact .tuple d a
variable {a a':Array Value}
theorem a3.mono(hl:ay.le ρ σ)(h:a3 ρ a a'):a3 σ a a':=⟨h.size,fun i v v' x y=>(h.get i v v' x y).mono hl⟩
theorem a3.nil(ρ:ay):a3 ρ #[] #[]:=⟨rfl,fun i v v' h=>AU⟩
theorem a3.one(h:aA ρ v v'):a3 ρ #[v] #[v']:=⟨rfl,fun i x c a b=>by
 grind⟩
theorem a3.some{ρ:ay}{a a':Array Value}(h:a3 ρ a a'){i:Nat}{v:Value}(b:a[i]?=Option.some v):∃v',a'[i]?=Option.some v'/\aA ρ v v':=by
 have hi:i<a.size:=by grind
 have c:i<a'.size:=h.size▸hi;exact⟨a'[i],AU,h.get i v _ b AU⟩
theorem a3.none(h:a3 ρ a a'){i:Nat}(b:a[i]?=Option.none):a'[i]?=Option.none:=by rw[Array.getElem?_eq_none_iff]at b⊢;rw[<-h.size];exact b
variable {aD b:Array Value}
theorem a3.append(h:a3 ρ a a')(k:a3 ρ b aD):a3 ρ (a++b) (a'++aD):=by
 refine⟨by simp[h.size,k.size],fun i v v' x y=>?_⟩;rw[Array.getElem?_append]at x y;rw[<-h.size]at y;split at x
 ·rename_i hi;rw[if_pos hi]at y;exact h.get i v v' x y
 ·rename_i hi;rw[if_neg hi]at y;exact k.get _ v v' x y
theorem a3.push(h:a3 ρ a a')(k:aA ρ v v'):a3 ρ (a.push v) (a'.push v'):=by have e:∀(x:Array Value)(y:Value),x.push y=x++#[y]:=fun x y=>Aa;rw[e,e];exact h.append (.one k)
theorem a3.set(h:a3 ρ a a')(k:aA ρ v v')(i:Nat):a3 ρ (a.setIfInBounds i v) (a'.setIfInBounds i v'):=by
 refine⟨by simp[h.size],fun j x d c b=>?_⟩;rw[Array.getElem?_setIfInBounds]at c b;rw[<-h.size]at b;by_cases e:i=j
 ·grind
 ·rw[if_neg e]at c b;exact h.get j x d c b
theorem a3.extract(h:a3 ρ a a')(s e:Nat):a3 ρ (a.extract s e) (a'.extract s e):=by
 refine⟨by simp[h.size],fun i v v' x y=>?_⟩;rw[Array.getElem?_extract]at x y;rw[<-h.size]at y;split at x
 ·rename_i hi;rw[if_pos hi]at y;exact h.get _ v v' x y
 grind
theorem a3.getD(h:a3 ρ a a'){d b:Value}(hd:aA ρ d b)(i:Nat):aA ρ (a.getD i d) (a'.getD i b):=by rw[Array.getD_eq_getD_getElem?,Array.getD_eq_getD_getElem?];grind[none,some]
theorem aA.undef(ρ:ay):aA ρ undef undef:=.tuple rfl fun i v v' h=>by grind
theorem aA.ki(h:a3 ρ a a'):aA ρ (.agg a) (.agg a'):=.agg h.size h.get
theorem aA.E8(h:a3 ρ a a'):aA ρ (.tuple a) (.tuple a'):=.tuple h.size h.get
theorem aA.Hr{fn c:Fn}(d:vI ρ fn c)(h:a3 ρ a a')(k:a3 ρ b aD):aA ρ (.func fn a b) (.func c a' aD):=.func d h.size k.size h.get k.get
theorem aA.cells{ρ:ay}{v v':Value}(h:aA ρ v v'):a3 ρ v.cells v'.cells:=by cases h with|agg a h=>exact⟨a,h⟩|bool b=>exact .one (.bool b)|int k n=>exact .one (.int k n)|string s=>exact .one (.string s)|lP=>exact .one .lP|e7 h=>exact .one (.e7 h)|hA l c=>exact .one (.hA l c)|slice l c h=>exact .one (.slice l c h)|sU=>exact .one .sU|map h=>exact .one (.map h)|r7=>exact .one .r7|func h e d g f=>exact .one (.func h e d g f)|nilFunc=>exact .one .nilFunc|iface t h=>exact .one (.iface t h)|nilIface=>exact .one .nilIface|tuple a h=>exact .one (.tuple a h)
inductive je:Value->Prop
 |bool (b:Bool):je (.bool b)
 |int (k:IntKind) (n:Int):je (.int k n)
 |string (s:ByteArray):je (.string s)
 |lP:je (.pointer none)
 |hA (l c:Nat):je (.slice none l c)
 |sU:je (.map none)
 |r7:je (.chan none)
 |nilFunc:je .nilFunc
 |func (f:FuncId):je (.func (.func f) #[] #[])
 |nilIface:je .nilIface
 |iface (t:TypeId) {v:Value} (h:je v):je (.iface t v)
 |agg {a:Array Value} (h:∀(i:Nat)(v:Value),a[i]?=some v->je v):je (.agg a)
 |tuple {a:Array Value} (h:∀(i:Nat)(v:Value),a[i]?=some v->je v):je (.tuple a)
theorem je.rel(h:je v)(ρ:ay):aA ρ v v:=by induction h with|bool b=>exact .bool b|int k n=>exact .int k n|string s=>exact .string s|lP=>exact .lP|hA l c=>exact .hA l c|sU=>exact .sU|r7=>exact .r7|nilFunc=>exact .nilFunc|func f=>exact .Hr (.func f) (.nil ρ) (.nil ρ)|nilIface=>exact .nilIface|iface t _ a=>exact .iface t a|agg _ a=>exact .agg rfl fun i v v' x y=>AU|tuple _ a=>exact .tuple rfl fun i v v' x y=>AU
def kG(a:Array Value):Prop:=∀(i:Nat)(v:Value),a[i]?=some v->je v
theorem kG.rel(h:kG a)(ρ:ay):a3 ρ a a:=⟨rfl,fun i v v' x y=>by rw[x]at y;cases y;exact(h i v x).rel ρ⟩
theorem je.cells{v:Value}(h:je v):kG v.cells:=by
 have one:∀{v:Value},je v->v.cells=#[v]->kG v.cells:=fun{v} d e i x a=>by grind
 cases h with|agg h=>exact h|bool b=>exact one (.bool b) rfl|int k n=>exact one (.int k n) rfl|string s=>exact one (.string s) rfl|lP=>exact one .lP rfl|hA l c=>exact one (.hA l c) rfl|sU=>exact one .sU rfl|r7=>exact one .r7 rfl|nilFunc=>exact one .nilFunc rfl|func f=>exact one (.func f) rfl|nilIface=>exact one .nilIface rfl|iface t h=>exact one (.iface t h) rfl|tuple h=>exact one (.tuple h) rfl
def lr{ar:Type}:Result ar->World
 | .ok _ w=>w
 | .halt _ w=>w
section
variable {ar:Type}
theorem afO:∀(k:Ask ar)(w:World),w.drawn<=(w.ask k).2.drawn/\(w.ask k).2.heap=w.heap/\(w.ask k).2.tape=w.tape:=by intro k;induction k with|done a=>intro w;exact⟨Nat.le_refl _,rfl,rfl⟩|ask what range k b=>intro w;simp only[World.ask];grind
theorem afP(w:World)(c:Sys):w.drawn<=(w.sys c).2.drawn/\(w.sys c).2.tape=w.tape:=by unfold World.sys;have:=afO (Kernel.perform c w.os) w;grind
theorem afQ{P:Program}{w d:World}{a:Addr}{b:Bool}{l:List Addr}(h:w.farStore P a v b=.ok (d,l)):d.drawn=w.drawn/\d.tape=w.tape:=by
 unfold World.farStore at h;split at h
 ·split at h
  ·rename_i r c;cases h;unfold World.viewStore at c;simp only[bind,Except.bind,pure,Except.pure]at c;repeat' (split at c)
   all_goals first
    |cases c;done
    |grind
  grind
 grind
theorem Cq(P:Program):∀(m:Sem ar)(w:World),w.drawn<=(lr (m.run P w)).drawn/\(lr (m.run P w)).tape=w.tape:=by
 intro m;induction m with
 |pure a=>intro w;exact⟨Nat.le_refl _,rfl⟩
 |load md a k b=>intro w;simp only[Sem.run];cases w.cell? a with|some v=>grind|none=>simp only[];cases w.farLoad P a (md== .atomic)with|ok r=>grind|error h=>exact⟨Nat.le_refl _,rfl⟩
 |store md a v k b=>
  intro w;have gen:w.drawn<=(lr (match w.cell? a with
   |some _=>if w.frozen? a then .halt (.unsupported (.unsafePointer "a write to bytes that a string shares")) w else k.run P (w.setCell a v)
   |none=>match w.farStore P a v (md== .atomic)with
    | .ok (w,_)=>k.run P w
    | .error h=>.halt h w)).drawn/\(lr (match w.cell? a with
   |some _=>if w.frozen? a then .halt (.unsupported (.unsafePointer "a write to bytes that a string shares")) w else k.run P (w.setCell a v)
   |none=>match w.farStore P a v (md== .atomic)with
    | .ok (w,_)=>k.run P w
    | .error h=>.halt h w)).tape=w.tape:=by
   cases w.cell? a with
   |some x=>
    simp only[];split
    ·exact⟨Nat.le_refl _,rfl⟩
    ·exact b (w.setCell a v)
   |none=>simp only[];cases f:w.farStore P a v (md== .atomic)with|error h=>exact⟨Nat.le_refl _,rfl⟩|ok r=>grind[afQ]
  cases v<;>first|exact⟨Nat.le_refl _,rfl⟩|exact gen
 |new o k b=>intro w;exact b _ {w with heap:=w.heap.push o}
 |shape r k b=>intro w;exact b _ w
 |freeze a n k b=>
  intro w;have e:(w.freeze a n).drawn=w.drawn/\(w.freeze a n).tape=w.tape:=by unfold World.freeze;grind
  have d:=b (w.freeze a n);exact⟨e.1▸d.1,d.2.trans e.2⟩
 |frozen a k b=>intro w;exact b _ w
 |getObj r k b=>
  intro w;simp only[Sem.run];split
  ·exact⟨Nat.le_refl _,rfl⟩
  ·grind
  ·exact⟨Nat.le_refl _,rfl⟩
 |setObj r o k b=>
  intro w;simp only[Sem.run];split
  ·exact⟨Nat.le_refl _,rfl⟩
  ·grind
  ·exact⟨Nat.le_refl _,rfl⟩
 |choose q k b=>intro w;simp only[Sem.run];grind
 |sys c k b=>grind[afP,Sem.run]
 |program k b=>intro w;exact b _ w
 |mark m k b=>intro w;exact b w
 |halt h=>intro w;exact⟨Nat.le_refl _,rfl⟩
end
def iX:GStep->World
 | .go _ w _ | .comm _ _ _ _ w _ | .spawn _ _ w _ | .count _ w _ | .timer _ _ w _ | .alone _ _ w _ | .newcoro _ _ _ w _ | .coroswitch _ _ _ w _ | .collect _ w _ | .watch _ w _ | .ended _ w _=>w
@[simp] theorem AG (es:Array Event) (s:GStep):iX (GStep.after es s)=iX s:=by cases s<;>rfl
theorem WM(P:Program)(m:Bool)(fr:Frame)(cs:List Frame)(d:Option Dying)(v:Value)(w:World):iX (doReturn P m fr cs d v w)=w:=by
 unfold doReturn;cases cs with
 |cons c cs=>simp only[];split<;>rfl
 |nil=>
  simp only[];split
  ·rfl
  ·rfl
  ·split
   ·rfl
   ·split<;>rfl
theorem PU{ar:Type}{P:Program}{m:Sem ar}{w:World}{r:Result ar}(h:m.run P w=r):w.drawn<=(lr r).drawn:=h▸(Cq P m w).1
theorem WN(P:Program)(fr:Frame)(cs:List Frame)(d:Option Dying)(m:String)(w:World):w.drawn<=(iX (endFatal P fr cs d m w)).drawn:=by
 unfold endFatal;simp only[];split
 ·rename_i a;exact PU a
 ·rename_i a;exact PU a
 ·rename_i a;exact PU a
theorem ag_(P:Program)(fr:Frame)(cs:List Frame)(d:Option Dying)(g:Nat)(w:World):w.drawn<=(iX (early P fr cs d g w)).drawn:=by
 unfold early;have notYet:∀a:World,(iX (match a.heap[g]? with
  |some (.pending c elem)=>GStep.go {frame:=fr,callers:=cs,status:=.running,dying:=d} {a with heap:=a.heap.setIfInBounds g (.cells c elem)}
  | _=>.ended (.stuck "early: the variable does not wait" (fr.pos P)) a)).drawn=a.drawn:=by
  intro a;split<;>rfl
 simp only[];have gt:∀{s:GStep}{a:World},(iX s).drawn=a.drawn->w.drawn<=a.drawn->w.drawn<=(iX s).drawn:=fun e h=>AU;have same:∀{s:GStep},(iX s).drawn=w.drawn->w.drawn<=(iX s).drawn:=fun e=>AU;split
 ·grind
 split
 ·exact Nat.le_refl _
 rename_i f _;split
 ·grind
 split
 ·grind
 split
 ·exact Nat.le_refl _
 ·exact Nat.le_refl _
 ·exact Nat.le_refl _
 ·grind
 ·split
  ·exact Nat.le_refl _
  split
  ·grind
  split
  ·rename_i a b;have:=Cq P (choose (.early g)) w;rw[b]at this;exact gt (notYet a) this.1
  ·rename_i a _ b;have:=Cq P (choose (.early g)) w;rw[b]at this;exact this.1
  ·rename_i a b;have:=Cq P (choose (.early g)) w;rw[b]at this;exact this.1
theorem Fl(P:Program)(fr:Frame)(cs:List Frame)(d:Option Dying)(s:Sem Next)(w:World):(lr (s.run P w)).drawn<=(iX (stepG.apply P true fr cs d s w)).drawn:=by
 unfold stepG.apply;simp only[Sem.runT_eq,if_true,AG];cases s.run P w with
 |ok h f=>
  cases h with
  |callThen a b c e=>simp only[lr];split<;>exact Nat.le_refl _
  |row a b=>simp only[lr];split<;>exact Nat.le_refl _
  |stack a b=>simp only[lr];split<;>exact Nat.le_refl _
  |recover=>simp only[lr];split<;>exact Nat.le_refl _
  |spawn x=>simp only[lr];repeat' first|exact Nat.le_refl _ |split
  | _=>exact Nat.le_refl _
 |halt x f=>
  cases x with
  |fatal m=>exact WN P fr cs d m f
  |unsupported u=>cases u with|initOrder g=>exact ag_ P fr cs d g f| _=>exact Nat.le_refl _
  | _=>exact Nat.le_refl _
theorem WO(P:Program)(fr:Frame)(cs:List Frame)(d:Option Dying)(x:Deferred)(w:World):((x.target matches .nil)&&(fr.mode matches .panicking _))=true\/(lr ((invoke x.target x.args).run P w)).drawn<=(iX (callDeferred P fr cs d x w)).drawn:=by
 have key:∀{c:Prop}[Decidable c]{a b:GStep}{n:Nat},(¬c->n<=(iX b).drawn)->c\/n<=(iX (if c then a else b)).drawn:=by grind
 unfold callDeferred;simp only[Sem.runT_eq];refine key fun _=>?_;simp only[AG];cases(invoke x.target x.args).run P w with
 |ok g f=>cases g with|recover=>simp only[lr];split<;>exact Nat.le_refl _|alone on v=>cases on<;>exact Nat.le_refl _|coroswitch c e=>cases e<;>exact Nat.le_refl _| _=>exact Nat.le_refl _
 |halt y f=>cases y with|fatal m=>exact WN P fr cs d m f| _=>exact Nat.le_refl _
end az
namespace bu
open Conc ConcN
def fF:Loc->Option Nat
 | .cell a=>some a.block
 | .obj r=>some r
 | _=>none
structure mY where
 n:Nat
 base:Nat
 size:Nat
 K:Nat->Prop
 mine:Nat->Nat->Prop
 hU:Loc->Prop
 fk:Loc->Prop
 cD:Option Nat
 aC:Addr
 wg:Addr
 past:Nat->Prop
def mY.bp(p:mY)(j:Nat):Prop:=j<p.n/\(j=0\/p.base<=j)
def FR(t:Trace)(a:Addr)(i:Nat):Prop:=∃q,t.act? q=some (.mark (.releaseMerge a))/\t.heard q/\Before t i q
variable {i:Nat}
theorem FR.app{t:Trace}{a:Addr}(h:FR t a i)(u:Trace):FR (t++u) a i:=
 let⟨q,d,c,b⟩:=h
 ⟨q,by grind[act?_old,lt_of_act?],(heard_old (lt_of_act? d)).2 c,b.app u⟩
def Yn(p:mY)(l:Loc):Prop:=¬p.hU l/\∀b,fF l=some b->¬p.K b/\∀j,¬p.mine j b
structure eJ(p:mY)(t:Trace):Prop where
 qq:∀i a,touchAt t i=some a->a.loc.isMemory=true->a.kind=.atomic->p.fk a.loc\/Yn p a.loc
 gs:∀(i:Nat)(op:MemOp),t[i]?=some op->op.g<p.n
 low:∀i a b,touchAt t i=some a->fF a.loc=some b->b<p.size
 still:∀i a b,touchAt t i=some a->a.write=true->fF a.loc=some b->p.K b->∀j,p.bp j->Knows t j i
 own:∀j i a b,p.bp j->touchAt t i=some a->fF a.loc=some b->p.mine j b->Knows t j i
 xl:∀j,p.cD=some j->p.bp j/\∀i a,touchAt t i=some a->p.hU a.loc->Knows t j i
 zV:p.cD=none->∀i a,touchAt t i=some a->p.hU a.loc->(∀j,p.bp j->Knows t j i)\/FR t p.aC i
 fk:∀i a,touchAt t i=some a->p.fk a.loc->a.kind=.atomic\/(a.kind=.said/\Knows t 0 i)\/∀j,p.bp j->Knows t j i
 tS:∀i a,t.act? i≠some (.mark (.release a))
 A4:∀said,¬Race said t
 past:∀i j,t.g? i=some j->p.past j->t.counts i->Knows t 0 i\/FR t p.wg i
structure Q4(p:mY):Prop where
 own:∀j k b,p.mine j b->p.mine k b->j=k
 Yo:∀j b,p.mine j b->¬p.K b
 FT:∀l b j,p.hU l->fF l=some b->¬p.mine j b/\¬p.K b
 FU:∀l b j,p.fk l->fF l=some b->¬p.mine j b/\¬p.K b
 wa:∀l,p.hU l->¬p.fk l
 low:∀j b,p.mine j b->b<p.size
 aj3:∀b,p.K b->b<p.size
 Q5:∀l b,p.hU l\/p.fk l->fF l=some b->b<p.size
def A5:Mark->Prop
 | .disable| .enable| .noRoom| .extern _=>True
 | _=>False
def Md(p:mY)(j:Nat)(d:Nat)(e:Event):Prop:=
 match e.loc with
 | .cell a=>(e.sync=false/\((p.K a.block/\e.write=false)\/p.mine j a.block\/(p.hU (.cell a)/\p.cD=some j))/\¬p.past j)\/(e.sync=true/\p.fk (.cell a)/\0<d)
 | .obj r=>e.sync=false/\((p.K r/\e.write=false)\/p.mine j r)/\¬p.past j
 | .mark m=>A5 m\/(j=0/\∃a,p.fk (.cell a)/\(m=.read a\/m=.write a))
 | .output=>True
 | .goroutines=>False
def A6(d:Nat)(e:Event):Nat:=deafBehind d #[e]
def Q6(p:mY)(j:Nat):Nat->List Event->Prop
 | _,[]=>True
 |d,e::l=>Md p j d e/\Q6 p j (A6 d e) l
variable {d j:Nat}{e:Event}{y:MemOp}
section
variable {p:mY} {t:Trace}
theorem aj4{l:Loc}(h:l.isMemory=true):∃b,fF l=some b:=by cases l<;>simp[Loc.isMemory]at h<;>exact⟨_,rfl⟩
theorem aj5(h:Md p j d e){x:Touch}(c:(MemAct.ofEvent e).touch?=some x)(o:x.loc.isMemory=true):
 ∃b,fF x.loc=some b/\((x.kind=.plain/\((p.K b/\x.write=false)\/p.mine j b\/(p.hU x.loc/\p.cD=some j))/\¬p.past j)\/(x.kind=.atomic/\p.fk x.loc/\0<d)\/(x.kind=.said/\p.fk x.loc/\j=0)):=by
 obtain⟨loc,wr,g⟩:=e;cases loc with
 |cell a=>
  have l:x=⟨.cell a,wr,if g then .atomic else .plain⟩:=by grind[MemAct.ofEvent,MemAct.touch?]
  subst l;refine⟨a.block,rfl,?_⟩;rcases h with⟨f,k,i⟩|⟨f,k,i⟩
  ·grind
  grind
 |obj r=>
  obtain⟨f,k,i⟩:=h;simp only at f;subst f;have:(MemAct.ofEvent ⟨.obj r,wr,false⟩)=.access ⟨.obj r,wr,false⟩:=by cases wr<;>rfl
  rw[this]at c;simp only[MemAct.touch?,Option.some.injEq]at c;subst c;exact⟨r,rfl,AU⟩
 |output=>grind[MemAct.ofEvent,MemAct.touch?,Loc.isMemory]
 |goroutines=>exact h.elim
 |mark m=>
  have:(MemAct.ofEvent ⟨.mark m,wr,g⟩)=.mark m:=by cases wr<;>cases g<;>rfl
  rw[this]at c;rcases h with h|⟨h0,a,n,rfl|rfl⟩
  ·cases m<;>simp[A5]at h<;>simp[MemAct.touch?]at c
  ·simp[MemAct.touch?]at c;subst c;exact⟨a.block,rfl,AU⟩
  ·simp[MemAct.touch?]at c;subst c;exact⟨a.block,rfl,AU⟩
theorem aj6(h:Md p j d e)(a:Addr):MemAct.ofEvent e≠ .mark (.release a):=by
 obtain⟨loc,wr,b⟩:=e;cases loc with
 |mark m=>
  have:(MemAct.ofEvent ⟨.mark m,wr,b⟩)=.mark m:=by cases wr<;>cases b<;>rfl
  rw[this];rcases h with h|⟨_,_,_,rfl|rfl⟩
  ·grind[A5]
  ·simp
  ·simp
 | _=>cases wr<;>cases b<;>simp[MemAct.ofEvent]
theorem IE(t:Trace)(y:MemOp):(t++#[y])[t.size]?=some y:=by simp
theorem A7{a:Touch}(h:touchAt (t++#[y]) i=some a):touchAt t i=some a\/(i=t.size/\y.act.touch?=some a):=by obtain⟨z,c,b⟩:=touch_of h;grind[touchAt_of]
structure Me(p:mY):Prop where
 hU:∀l,p.hU l->l.isMemory=true
 fk:∀l,p.fk l->l.isMemory=true
theorem FV{l:Loc}{b:Nat}(h:fF l=some b):l.isMemory=true:=by cases l<;>simp[fF]at h<;>rfl
theorem eJ.push(A:Q4 p)(P:Me p)(h:eJ p t)(v:p.bp j)(T:Md p j (Deaf t j) e)(fn:FuncId)(pos:String):eJ p (t++#[{g:=j,fn,pos,act:=.ofEvent e}]):=by
 generalize hy:({g:=j,fn,pos,act:=.ofEvent e}:MemOp)=y;have J:y.g=j:=AU;have ha:y.act=.ofEvent e:=AU;have eR:Knows (t++#[y]) j t.size:=⟨t.size,y,IE t y,J,.inl rfl⟩;have new:∀{a:Touch},y.act.touch?=some a->a.loc.isMemory=true->∃b,fF a.loc=some b/\((a.kind=.plain/\((p.K b/\a.write=false)\/p.mine j b\/(p.hU a.loc/\p.cD=some j))/\¬p.past j)\/(a.kind=.atomic/\p.fk a.loc/\0<Deaf t j)\/(a.kind=.said/\p.fk a.loc/\j=0)):=
  fun c o=>aj5 T AU o
 refine⟨fun i a c O dF=>?_,fun i op hi=>?_,fun i a b c f=>?_,fun i a b c I f hK k n=>?_,fun k i a b n c f o=>?_,fun k n=>⟨(h.xl k n).1,fun i a c m=>?_⟩,fun n i a c m=>?_,fun i a c d=>?_,fun i a R=>?_,fun said=>?_,fun i k n V l=>?_⟩
 ·rcases A7 c with c|⟨_,c⟩
  ·exact h.qq i a c O dF
  grind
 ·rcases getElem?_append_cases hi with⟨_,Q⟩|⟨_,L⟩
  ·exact h.gs i op Q
  ·simp at L;subst L;rw[J];exact v.1
 ·rcases A7 c with c|⟨_,c⟩
  ·exact h.low i a b c f
  ·obtain⟨aD,H,l⟩:=new c (FV f);obtain rfl:b=aD:=AU;rcases l with⟨_,⟨hK,_⟩|o|⟨m,_⟩,_⟩|⟨_,d,_⟩|⟨_,d,_⟩
   ·exact A.aj3 b hK
   ·exact A.low j b o
   ·exact A.Q5 a.loc b (.inl m) f
   ·exact A.Q5 a.loc b (.inr d) f
   ·exact A.Q5 a.loc b (.inr d) f
 ·rcases A7 c with c|⟨_,c⟩
  ·exact(h.still i a b c I f hK k n).app _
  ·exfalso;obtain⟨aD,H,l⟩:=new c (FV f);obtain rfl:b=aD:=AU;rcases l with⟨_,⟨_,Z⟩|o|⟨m,_⟩,_⟩|⟨_,d,_⟩|⟨_,d,_⟩
   ·grind
   ·exact A.Yo j b o hK
   ·exact(A.FT a.loc b 0 m f).2 hK
   ·exact(A.FU a.loc b 0 d f).2 hK
   ·exact(A.FU a.loc b 0 d f).2 hK
 ·rcases A7 c with c|⟨rfl,r⟩
  ·exact(h.own k i a b n c f o).app _
  ·obtain⟨aD,H,l⟩:=new r (FV f);obtain rfl:b=aD:=AU;rcases l with⟨_,⟨hK,_⟩|q|⟨m,_⟩,_⟩|⟨_,d,_⟩|⟨_,d,_⟩
   ·exact absurd hK (A.Yo k b o)
   ·rw[A.own k j b o q];grind
   ·exact absurd o (A.FT a.loc b k m f).1
   ·exact absurd o (A.FU a.loc b k d f).1
   ·exact absurd o (A.FU a.loc b k d f).1
 ·rcases A7 c with c|⟨rfl,r⟩
  ·exact((h.xl k n).2 i a c m).app _
  ·obtain⟨b,f,l⟩:=new r (P.hU _ m);rcases l with⟨_,⟨hK,_⟩|q|⟨_,ht⟩,_⟩|⟨_,d,_⟩|⟨_,d,_⟩
   ·exact absurd hK (A.FT a.loc b 0 m f).2
   ·exact absurd q (A.FT a.loc b j m f).1
   ·grind
   ·exact absurd d (A.wa _ m)
   ·exact absurd d (A.wa _ m)
 ·rcases A7 c with c|⟨rfl,r⟩
  ·exact(h.zV n i a c m).imp (fun x k n=>(x k n).app _) (fun x=>x.app _)
  ·exfalso;obtain⟨b,f,l⟩:=new r (P.hU _ m);rcases l with⟨_,⟨hK,_⟩|q|⟨_,ht⟩,_⟩|⟨_,d,_⟩|⟨_,d,_⟩
   ·exact absurd hK (A.FT a.loc b 0 m f).2
   ·exact absurd q (A.FT a.loc b j m f).1
   ·grind
   ·exact absurd d (A.wa _ m)
   ·exact absurd d (A.wa _ m)
 ·rcases A7 c with c|⟨rfl,r⟩
  ·exact(h.fk i a c d).imp id (fun x=>x.imp (fun y=>⟨y.1,y.2.app _⟩) (fun x k n=>(x k n).app _))
  ·obtain⟨b,f,l⟩:=new r (P.fk _ d);rcases l with⟨_,⟨hK,_⟩|q|⟨m,_⟩,_⟩|⟨n,_,_⟩|⟨n,_,h0⟩
   ·exact absurd hK (A.FU a.loc b 0 d f).2
   ·exact absurd q (A.FU a.loc b j d f).1
   ·exact absurd d (A.wa _ m)
   ·grind
   grind
 ·obtain⟨op,S,M⟩:=Option.map_eq_some_iff.1 R;rcases getElem?_append_cases S with⟨_,W⟩|⟨_,Yp⟩
  ·exact h.tS i a (by rw[act?_of W,M])
  grind[aj6]
 ·refine noRace_append (g:=j) (h.A4 said) AU (fun i x c op u b f l=>?_);simp at u;subst u;have o:b.loc.isMemory=true:=by rw[<-l.1];exact l.2.1
  obtain⟨F,X,D⟩:=new f o;have K:fF x.loc=some F:=by rw[l.1];grind
  rcases D with⟨_,⟨hK,I⟩|q|⟨m,ht⟩,_⟩|⟨n,d,_⟩|⟨n,d,h0⟩
  ·exact h.still i x F c (l.2.2.1.resolve_right AU) K hK j v
  ·exact h.own j i x F v c K q
  ·exact(h.xl j ht).2 i x c (by rw[l.1];grind)
  ·rcases h.fk i x c (by rw[l.1];exact d)with s|⟨s,_⟩|s
   ·exfalso;rcases l.2.2.2 with e|e|⟨_,e,_⟩
    ·grind
    ·grind
    grind
   ·exfalso;rcases l.2.2.2 with e|e|⟨_,_,e⟩
    ·grind
    ·grind
    grind
   grind
  ·rcases h.fk i x c (by rw[l.1];exact d)with s|⟨_,s⟩|s
   ·exfalso;rcases l.2.2.2 with e|e|⟨_,e,_⟩
    ·grind
    ·grind
    grind
   ·grind
   grind
 ·by_cases hi:i<t.size
  ·have E:t.g? i=some k:=by grind[g?_old]
   have w:t.counts i:=by obtain⟨x,C,B,z⟩:=l;exact⟨x,by grind[act?_old],B,z.imp id (fun e=>(heard_old hi).1 e)⟩
   exact(h.past i k E V w).imp K6 K6
  ·have Y:i=t.size:=by grind[Trace.g?]
   subst Y;have s:k=j:=I8;subst s;obtain⟨x,C,B,z⟩:=l;rw[act?_of (IE t y)]at C;obtain⟨b,f,D⟩:=new C B;rcases D with⟨_,_,Lq⟩|⟨n,_,hd⟩|⟨_,_,h0⟩
   ·grind
   ·exfalso;rcases z with e|⟨g,N,U⟩
    ·grind
    ·simp[Trace.g?]at N;rw[deaf_old Jr]at U;grind[Deaf]
   grind
theorem aj8(t:Trace)(j:Nat)(fn:FuncId)(pos:String)(e:Event):Deaf (t++#[{g:=j,fn,pos,act:=.ofEvent e}]) j=A6 (Deaf t j) e:=by have:=Deaf_own t j fn pos #[e];grind[ofEvents_eq,A6]
theorem eJ.step(A:Q4 p)(P:Me p){j:Nat}(a:p.bp j)(fn:FuncId)(pos:String):∀(l:List Event){t:Trace},eJ p t->Q6 p j (Deaf t j) l->eJ p (t++MemOp.ofEvents j fn pos l.toArray)
 | [],t,h,_=>by grind[ofEvents_eq]
 |e::l,t,h,⟨b,c⟩=>by have:=eJ.step A P a fn pos l (h.push A P a b fn pos) (by grind[aj8]);grind[ofEvents_eq]
end
section
section
variable {p:mY} {t:Trace}
theorem yx(b:y.act.touch?=none){a:Touch}(h:touchAt (t++#[y]) i=some a):touchAt t i=some a:=by grind[A7]
theorem Q7(h:y.act.touch?=none)(k:(t++#[y]).g? i=some j)(c:(t++#[y]).counts i):i<t.size/\t.g? i=some j/\t.counts i:=by obtain⟨x,g,f,d⟩:=c;have b:touchAt t i=some x:=yx h g;obtain⟨z,a,_⟩:=touch_of b;have hi:=lt_size_of_getElem? a;exact⟨hi,by grind[g?_old],x,by grind[act?_old],f,d.imp id (fun e=>(heard_old hi).1 e)⟩
theorem eJ.word(h:eJ p t)(F:y.g<p.n)(f:y.act.touch?=none)(E:∀a,y.act≠ .mark (.release a)):eJ p (t++#[y]):=by
 refine⟨fun i a c q dF=>h.qq i a (yx f c) q dF,fun i op hi=>?_,fun i a b c j=>h.low i a b (yx f c) j,fun i a b c s j hK k d=>(h.still i a b (yx f c) s j hK k d).app _,fun k i a b d c j z=>(h.own k i a b d (yx f c) j z).app _,
  fun k d=>⟨(h.xl k d).1,fun i a c l=>((h.xl k d).2 i a (yx f c) l).app _⟩,fun d i a c l=>(h.zV d i a (yx f c) l).imp (fun x k d=>(x k d).app _) (fun x=>x.app _),
  fun i a c u=>(h.fk i a (yx f c) u).imp id (fun x=>x.imp (fun y=>⟨y.1,y.2.app _⟩) (fun x k d=>(x k d).app _)),fun i a o=>?_,fun said=>?_,fun i k d C m=>?_⟩
 ·rcases getElem?_append_cases hi with⟨_,r⟩|⟨_,I⟩
  ·exact h.gs i op r
  grind
 ·obtain⟨op,w,n⟩:=Option.map_eq_some_iff.1 o;rcases getElem?_append_cases w with⟨_,D⟩|⟨_,H⟩
  ·exact h.tS i a (by rw[act?_of D,n])
  grind
 ·refine noRace_append (g:=y.g) (h.A4 said) AU (fun i x c op v b j m=>?_);grind
 ·obtain⟨hi,B,A⟩:=Q7 f d m;exact(h.past i k B C A).imp K6 K6
theorem Yq(h:eJ p t){a:Addr}(d:y.act=.mark (.acquire a))(hd:Deaf t y.g=0)(e:FR t a i):Knows (t++#[y]) y.g i:=by
 obtain⟨q,c,j,g⟩:=e;have b:=lt_of_act? c;have hl:=IE t y;have edge:HappensBefore (t++#[y]) q t.size:=.single (.inr ⟨.marked b (.inr (by rw[act?_old b];exact c)) (by rw[act?_of hl,d]) (fun k _ f=>by rw[act?_old f];exact h.tS k a),(heard_old b).2 j,
  ⟨y.g,by simp[Trace.g?],Gr⟩⟩)
 exact⟨t.size,y,hl,rfl,.inr ((g.app #[y]).hb edge)⟩
theorem eJ.aj9(h:eJ p t)(ht:p.cD=none)(d:p.bp y.g)(f:y.act=.mark (.acquire p.aC))(hd:Deaf t y.g=0):eJ {p with cD:=some y.g} (t++#[y]):=by
 have e:y.act.touch?=none:=by rw[f];rfl
 have b:=h.word d.1 e AU;refine⟨b.qq,b.gs,b.low,b.still,b.own,fun k c=>?_,AU,b.fk,b.tS,b.A4,b.past⟩;simp at c;subst c;refine⟨d,fun i a g j=>?_⟩;rcases h.zV ht i a (yx e g) j with c|c
 ·exact(c _ d).app _
 grind[Yq]
theorem eJ.aj_(h:eJ p t)(ht:p.cD=some y.g)(c:y.act=.mark (.releaseMerge p.aC))(hd:Deaf t y.g=0):eJ {p with cD:=none} (t++#[y]):=by
 have d:y.act.touch?=none:=by rw[c];rfl
 obtain⟨g,f⟩:=h.xl _ ht;have b:=h.word g.1 d AU;have hl:=IE t y;refine⟨b.qq,b.gs,b.low,b.still,b.own,AU,fun _ i a e j=>.inr ⟨t.size,by rw[act?_of hl,c],⟨y.g,by simp[Trace.g?],Gr⟩,.inr ?_⟩,b.fk,b.tS,b.A4,b.past⟩;exact(f i a (yx d e) j).hb_new Jr hl rfl
theorem eJ.aka(h:eJ p t)(g:p.bp y.g)(c:y.act=.mark (.releaseMerge p.wg))(hd:Deaf t y.g=0){past:Nat->Prop}(j:∀k,past k->p.past k\/k=y.g):eJ {p with past:=past} (t++#[y]):=by
 have f:y.act.touch?=none:=by rw[c];rfl
 have a:=h.word g.1 f AU;have hl:=IE t y;refine⟨a.qq,a.gs,a.low,a.still,a.own,a.xl,a.zV,a.fk,a.tS,a.A4,fun i k d b e=>?_⟩;obtain⟨hi,m,l⟩:=Q7 f d e;rcases j k b with b|rfl
 ·exact a.past i k d b e
 ·refine .inr ⟨t.size,by rw[act?_of hl,c],⟨y.g,by simp[Trace.g?],Gr⟩,.inr ?_⟩;grind[Trace.g?,hb_po]
theorem eJ.akb(h:eJ p t)(l:y.g=0)(h0:0<p.n)(b:y.act=.mark (.acquire p.wg))(hd:Deaf t 0=0):
 eJ p (t++#[y])/\∀i j,(t++#[y]).g? i=some j->p.past j->(t++#[y]).counts i->Knows (t++#[y]) 0 i:=by
 have a:y.act.touch?=none:=by rw[b];rfl
 refine⟨h.word AU a AU,fun i j c k d=>?_⟩;obtain⟨hi,g,f⟩:=Q7 a c d;rcases h.past i j g k f with e|e
 ·exact e.app _
 grind[Yq]
theorem eJ.akc(h:eJ p t){x:MemOp}(H:x.g=0/\x.act=.go p.n)(F:y.g=p.n/\y.act=.start)(h0:Deaf t 0=0)(Q:0<p.n)(T:∀b,¬p.mine p.n b)
 :eJ {p with n:=p.n+1} (t++#[x,y]):=by
 have U:Deaf t p.n=0:=Deaf_absent fun i op hi e=>by have:=h.gs i op hi;omega
 have B:∀op∈#[x,y],op=x\/op=y:=AU;have V:∀op∈#[x,y],∀b,op.act.touch?=some b->False:=by
  intro op m b d;rcases B op m with rfl|rfl
  ·rw[H.2]at d;cases d
  ·rw[F.2]at d;cases d
 have old:∀{i:Nat}{b:Touch},touchAt (t++#[x,y]) i=some b->touchAt t i=some b:=by intro i b d;obtain⟨z,s,E⟩:=touch_of d;grind[touchAt_of]
 have cu:p.bp 0:=⟨Q,.inl rfl⟩;have all:∀{i:Nat},(∀j,p.bp j->Knows t j i)->∀j,({p with n:=p.n+1}:mY).bp j->Knows (t++#[x,y]) j i:=by
  intro i hi j f;rcases Nat.lt_or_ge j p.n with k|A
  ·exact(hi j ⟨k,f.2⟩).app _
  ·have P:j<p.n+1:=f.1;grind[fork_knows]
 refine⟨fun i a c w dF=>h.qq i a (old c) w dF,fun i op hi=>?_,fun i a b c d=>h.low i a b (old c) d,fun i a b c I d hK=>all (h.still i a b (old c) I d hK),fun j i a b f c d r=>?_,fun j f=>?_,fun M i a c o=>?_,
  fun i a c J=>(h.fk i a (old c) J).imp id (fun x=>x.imp (fun y=>⟨y.1,y.2.app _⟩) all),fun i a K=>?_,fun said=>?_,fun i j f S N=>?_⟩
 ·rcases getElem?_append_cases hi with⟨_,C⟩|⟨_,X⟩
  ·exact Nat.lt_succ_of_lt (h.gs i op C)
  grind
 ·rcases Nat.lt_or_ge j p.n with k|A
  ·exact(h.own j i a b ⟨k,f.2⟩ (old c) d r).app _
  ·have P:j<p.n+1:=f.1;grind
 ·obtain⟨l,q⟩:=h.xl j f;exact⟨⟨Nat.lt_succ_of_lt l.1,l.2⟩,fun i a c o=>(q i a (old c) o).app _⟩
 ·exact(h.zV M i a (old c) o).imp all K6
 ·obtain⟨op,L,v⟩:=Option.map_eq_some_iff.1 K;rcases getElem?_append_cases L with⟨_,R⟩|⟨_,W⟩
  ·exact h.tS i a (by rw[act?_of R,v])
  grind
 ·have e:t++#[x,y]=(t++#[x])++#[y]:=by grind
  rw[e];refine noRace_append (g:=p.n) (noRace_append (g:=0) (h.A4 said) AU AU)
   AU AU
 ·obtain⟨u,l,q,O⟩:=N;have D:touchAt t i=some u:=old l;obtain⟨z,s,_⟩:=touch_of D;have hi:=lt_size_of_getElem? s;exact(h.past i j (by grind[g?_old]) S ⟨u,by grind[act?_old],q,O.imp id (fun e=>(heard_old hi).1 e)⟩).imp K6 K6
end
end
end bu
namespace ab
structure bk where
 L:Bool
 W:Bool
 S:Bool
 k:Nat
 sema:Nat
 gN:Nat
def bk.word(m:bk):Nat:=m.L.toNat+2*m.W.toNat+4*m.S.toNat+8*m.k
def bk.jC(m:bk):Prop:=m.L=false/\m.W=false/\m.S=false/\0<m.k
inductive bP where
 |idle|mu|jl|j7|hand|own
 |et (v o:Nat)
 |gO|a8
def g4:bP->Nat| .own=>1| _=>0
def gE:bP->Nat| .jl=>1| _=>0
def ga:bP->Nat| .j7=>1| _=>0
def fH:bP->Nat| .hand=>1| _=>0
def dS:bP->Nat| .gO=>1| _=>0
def ef:bP->Nat| .a8=>1| _=>0
def uZ(x:bP)(W:Bool):Bool:=match x with| .jl=>false| _=>W
def a0(f:bP->Nat)(xs:List bP):Nat:=(xs.map f).sum
theorem qv(f:bP->Nat):∀(xs:List bP)(i:Nat)(x y:bP),xs[i]?=some x->a0 f (xs.set i y)+f x=a0 f xs+f y
 | [],i,x,y,h=>AU
 |a::xs,0,x,y,h=>by grind[a0]
 |a::xs,i+1,x,y,h=>by have:=qv f xs i x y HO;simp[a0]at this⊢;omega
theorem Da(f:bP->Nat):∀(xs:List bP)(i:Nat)(x:bP),xs[i]?=some x->f x<=a0 f xs
 | [],i,x,h=>AU
 |a::xs,0,x,h=>by grind[a0]
 |a::xs,i+1,x,h=>by have:=Da f xs i x HO;simp[a0]at this⊢;omega
theorem Ri(f:bP->Nat):∀(xs:List bP)(i j:Nat)(x y:bP),xs[i]?=some x->xs[j]?=some y->i≠j->f x+f y<=a0 f xs
 | [],i,j,x,y,h,_,_=>AU
 |a::xs,0,0,x,y,_,_,h=>absurd rfl h
 |a::xs,0,j+1,x,y,c,b,_=>by simp at c b;subst c;have:=Da f xs j y b;grind[a0]
 |a::xs,i+1,0,x,y,c,b,_=>by simp at c b;subst b;have:=Da f xs i x c;grind[a0]
 |a::xs,i+1,j+1,x,y,c,b,h=>by have:=Ri f xs i j x y (by simpa using c) (by simpa using b) Ay;simp[a0]at this⊢;omega
theorem YF(f:bP->Nat)(b:∀x,f x<=1):∀(xs:List bP),a0 f xs<=xs.length
 | []=>by simp[a0]
 |a::xs=>by have:=YF f b xs;have:=b a;simp[a0]at *;omega
theorem YG(f:bP->Nat):∀(xs:List bP),(∀(i:Nat) x,xs[i]?=some x->f x=0)->a0 f xs=0
 | [],_=>by simp[a0]
 |a::xs,h=>by have c:=h 0 a Aa;have b:=YG f xs fun i x hi=>h (i+1) x (by simpa using hi);simp[a0]at b⊢;omega
theorem Rj(f:bP->Nat)(xs:List bP)(y:bP):a0 f (xs++[y])=a0 f xs+f y:=by simp[a0]
structure du(m:bk)(xs:List bP):Prop where
 o:a0 g4 xs=m.L.toNat
 nm:m.S=false->m.W.toNat=a0 gE xs+a0 dS xs+m.sema/\a0 fH xs=0/\a0 ef xs=0/\a0 ga xs=m.k+m.sema+a0 dS xs
 st:m.S=true->m.W=false/\a0 gE xs=0/\a0 dS xs=0/\m.L.toNat+a0 fH xs+a0 ef xs+m.sema=1/\a0 ga xs+a0 fH xs=m.k/\1<=m.k
 pq:m.jC->∃i:Nat,xs[i]?=some (.et m.gN m.word)
 et:∀(i:Nat) v o,xs[i]?=some (.et v o)->v<=m.gN/\(v=m.gN->m.jC->o=m.word)
def tg(m:bk)(xs:List bP):Nat:=m.sema+a0 dS xs+a0 ef xs
section
variable {m:bk} {xs:List bP} {i:Nat} {x:bP}
theorem du.F1(h:du m xs):m.k<=xs.length:=by
 have q:=YF ga (fun x=>by cases x<;>simp[ga]) xs
 cases hS:m.S with
 |false=>have:=h.nm hS;omega
 |true=>
  have c:=h.st hS;have hl:m.L.toNat<=1:=AU;by_cases d:a0 fH xs=0
  ·omega
  ·
   have:∀(xs:List bP),a0 ga xs+a0 fH xs<=xs.length:=by intro xs;induction xs with|nil=>simp[a0]|cons a xs b=>cases a<;>simp[a0,ga,fH]at b⊢ <;>omega
   grind
theorem th{y:bP}(hi:xs[i]?=some x)(b:∀v o,x≠ .et v o)(a:∀v o,y≠ .et v o){j:Nat}{v o:Nat}:(xs.set i y)[j]?=some (.et v o)↔xs[j]?=some (.et v o):=by grind
theorem du.akI(h:du m xs)(hi:xs[i]?=some x)(d:x=.mu\/x=.jl)(k:m.L=false)(hS:m.S=false):du {m with L:=true,W:=uZ x m.W} (xs.set i .own):=by
 have c:=fun f=>qv f xs i x .own hi;have o:=c g4;have a:=c gE;have p:=c dS;have hd:=c fH;have a8:=c ef;have q:=c ga;have nm:=h.nm hS;have g:=h.o;rw[k]at g;have l:m.W.toNat<=1:=Bool.toNat_le _;rcases d with rfl|rfl
 ·simp[g4,gE,dS,fH,ef,ga,uZ]at *;refine⟨AU,AU,fun e=>?_,fun e=>?_,fun j v o b=>?_⟩
  ·grind
  ·exact absurd e.1 Aa
  ·have b:=(th hi Aa Aa).1 b;exact⟨(h.et j v o b).1,fun _ e=>absurd e.1 Aa⟩
 ·simp[g4,gE,dS,fH,ef,ga,uZ]at *;refine⟨AU,AU,fun e=>?_,fun e=>?_,fun j v o b=>?_⟩
  ·grind
  ·exact absurd e.1 Aa
  ·have b:=(th hi Aa Aa).1 b;exact⟨(h.et j v o b).1,fun _ e=>absurd e.1 Aa⟩
theorem du.queue(h:du m xs)(hi:xs[i]?=some bP.mu)(r:m.L=true\/m.S=true):du {m with k:=m.k+1} (xs.set i bP.j7):=by
 have c:=fun f=>qv f xs i bP.mu bP.j7 hi;have o:=c g4;have a:=c gE;have p:=c dS;have hd:=c fH;have a8:=c ef;have q:=c ga;have s:=h.o;have l:m.W.toNat<=1:=Bool.toNat_le _;have n:m.L.toNat<=1:=Bool.toNat_le _;simp only[g4,gE,dS,fH,ef,ga]at o a p hd a8 q;refine⟨AU,fun e=>?_,fun e=>?_,fun e=>?_,fun j v o' b=>?_⟩
 ·have:=h.nm e;grind
 ·have:=h.st e;grind
 ·exact absurd e (by rintro⟨g,_,d,_⟩;grind)
 ·have b:=(th hi Aa Aa).1 b;exact⟨(h.et j v o' b).1,fun _ e=>absurd e (by rintro⟨g,_,d,_⟩;grind)⟩
theorem du.YH(h:du m xs)(hi:xs[i]?=some .jl):m.S=false/\m.W=true/\a0 gE xs=1/\a0 dS xs=0/\m.sema=0:=by have a:=Da gE xs i .jl hi;have b:m.W.toNat<=1:=Bool.toNat_le _;simp[gE]at a;cases hS:m.S with|true=>have:=h.st hS;omega|false=>have:=h.nm hS;grind
theorem du.akJ(h:du m xs)(hi:xs[i]?=some bP.jl)(sv:Bool)(n:m.L=true):du {m with k:=m.k+1,W:=false,S:=sv} (xs.set i bP.j7):=by
 have c:=fun f=>qv f xs i bP.jl bP.j7 hi;have o:=c g4;have a:=c gE;have p:=c dS;have hd:=c fH;have a8:=c ef;have q:=c ga;have d:=h.o;have r:m.W.toNat<=1:=Bool.toNat_le _;have g:m.L.toNat<=1:=AU;simp only[g4,gE,dS,fH,ef,ga]at o a p hd a8 q;obtain⟨hS,l,u,t,s⟩:=h.YH hi;have nm:=h.nm hS;rw[l]at nm;rw[n]at d g;simp at nm d;refine⟨AU,fun e=>?_,fun e=>?_,fun e=>absurd e.1 AU,fun j v o' b=>?_⟩
 ·grind
 ·grind
 ·have b:=(th hi Aa Aa).1 b;exact⟨(h.et j v o' b).1,fun _ e=>absurd e.1 AU⟩
theorem du.akK(h:du m xs)(hi:xs[i]?=some bP.mu)(n:m.L=true)(hS:m.S=false)(d:m.W=false):du {m with W:=true} (xs.set i bP.jl):=by
 have c:=fun f=>qv f xs i bP.mu bP.jl hi;have o:=c g4;have a:=c gE;have p:=c dS;have hd:=c fH;have a8:=c ef;have q:=c ga;have l:=h.o;have g:m.W.toNat<=1:=AU;have k:m.L.toNat<=1:=AU;simp only[g4,gE,dS,fH,ef,ga]at o a p hd a8 q;have nm:=h.nm hS;rw[d]at nm;simp at nm;refine⟨AU,fun e=>?_,fun e=>?_,fun e=>absurd e.1 AU,fun j v o' b=>?_⟩
 ·grind
 ·grind
 ·have b:=(th hi Aa Aa).1 b;exact⟨(h.et j v o' b).1,fun _ e=>absurd e.1 AU⟩
theorem du.akL(h:du m xs)(hi:xs[i]?=some bP.j7)(hS:m.S=false)(k:0<m.sema):du {m with sema:=m.sema-1} (xs.set i bP.jl):=by
 have c:=fun f=>qv f xs i bP.j7 bP.jl hi;have o:=c g4;have a:=c gE;have p:=c dS;have hd:=c fH;have a8:=c ef;have q:=c ga;have l:=h.o;have d:m.W.toNat<=1:=Bool.toNat_le _;have g:m.L.toNat<=1:=Bool.toNat_le _;simp only[g4,gE,dS,fH,ef,ga]at o a p hd a8 q;have nm:=h.nm hS;have n:m.W=true:=by grind
 refine⟨AU,fun e=>?_,fun e=>?_,fun e=>absurd e.2.1 AU,fun j v o' b=>?_⟩
 ·grind
 ·grind
 ·have b:=(th hi Aa Aa).1 b;exact⟨(h.et j v o' b).1,fun _ e=>absurd e.2.1 AU⟩
theorem du.akM(h:du m xs)(hi:xs[i]?=some bP.j7)(hS:m.S=true)(k:0<m.sema):du {m with sema:=m.sema-1} (xs.set i bP.hand):=by
 have c:=fun f=>qv f xs i bP.j7 bP.hand hi;have o:=c g4;have a:=c gE;have p:=c dS;have hd:=c fH;have a8:=c ef;have q:=c ga;have l:=h.o;have d:m.W.toNat<=1:=Bool.toNat_le _;have g:m.L.toNat<=1:=Bool.toNat_le _;simp only[g4,gE,dS,fH,ef,ga]at o a p hd a8 q;have st:=h.st hS;refine⟨AU,fun e=>?_,fun e=>?_,fun e=>absurd e.2.2.1 AU,fun j v o' b=>?_⟩
 ·grind
 ·grind
 ·have b:=(th hi Aa Aa).1 b;exact⟨(h.et j v o' b).1,fun _ e=>absurd e.2.2.1 AU⟩
theorem du.Db(h:du m xs)(hi:xs[i]?=some .hand):m.S=true/\m.L=false/\m.W=false/\1<=m.k/\m.sema=0/\a0 fH xs=1/\a0 ef xs=0:=by have a:=Da fH xs i .hand hi;have b:m.L.toNat<=1:=Bool.toNat_le _;simp[fH]at a;cases hS:m.S with|false=>have:=h.nm hS;omega|true=>have:=h.st hS;grind
theorem du.handed(h:du m xs)(hi:xs[i]?=some bP.hand)(clear:Bool)(t:clear=false->2<=m.k):du {m with L:=true,k:=m.k-1,S:= !clear} (xs.set i bP.own):=by
 have c:=fun f=>qv f xs i bP.hand bP.own hi;have o:=c g4;have a:=c gE;have p:=c dS;have hd:=c fH;have a8:=c ef;have q:=c ga;have d:=h.o;have l:m.W.toNat<=1:=Bool.toNat_le _;have n:m.L.toNat<=1:=Bool.toNat_le _;simp only[g4,gE,dS,fH,ef,ga]at o a p hd a8 q;obtain⟨hS,g,u,x,w,s,r⟩:=h.Db hi;have st:=h.st hS;rw[g]at d st;simp at d st;refine⟨AU,fun e=>?_,fun e=>?_,fun e=>absurd e.1 Aa,fun j v o' b=>?_⟩
 ·grind
 ·grind
 ·have b:=(th hi Aa Aa).1 b;exact⟨(h.et j v o' b).1,fun _ e=>absurd e.1 Aa⟩
theorem du.Mr(h:du m xs)(hi:xs[i]?=some .own):m.L=true:=by have a:=Da g4 xs i .own hi;simp[g4]at a;have:=h.o;grind
theorem du.YI(h:du m xs){j:Nat}(hi:xs[i]?=some .own)(c:xs[j]?=some .own):i=j:=by apply Classical.byContradiction;intro b;have a:=Ri g4 xs i j .own .own hi c b;simp only[g4]at a;have:=h.o;grind[Bool.toNat_le]
theorem du.akN(h:du m xs)(hi:xs[i]?=some bP.own)(hS:m.S=true):du {m with L:=false} (xs.set i bP.a8):=by
 have c:=fun f=>qv f xs i bP.own bP.a8 hi;have o:=c g4;have a:=c gE;have p:=c dS;have hd:=c fH;have a8:=c ef;have q:=c ga;have d:=h.o;have k:m.W.toNat<=1:=Bool.toNat_le _;have l:m.L.toNat<=1:=Bool.toNat_le _;simp only[g4,gE,dS,fH,ef,ga]at o a p hd a8 q;have g:=h.Mr hi;have st:=h.st hS;rw[g]at d st;simp at d st;refine⟨AU,fun e=>?_,fun e=>?_,fun e=>absurd e.2.2.1 AU,fun j v o' b=>?_⟩
 ·grind
 ·grind
 ·have b:=(th hi Aa Aa).1 b;exact⟨(h.et j v o' b).1,fun _ e=>absurd e.2.2.1 AU⟩
theorem du.akO(h:du m xs)(hi:xs[i]?=some .own)(hS:m.S=false)(k:m.k=0):du {m with L:=false} (xs.set i .idle):=by
 have c:=fun f=>qv f xs i .own .idle hi;have o:=c g4;have a:=c gE;have p:=c dS;have hd:=c fH;have a8:=c ef;have q:=c ga;have d:=h.o;have g:=h.Mr hi;simp only[g4,gE,dS,fH,ef,ga]at o a p hd a8 q;have nm:=h.nm hS;rw[g]at d;simp at d;refine⟨AU,fun e=>?_,fun e=>?_,fun e=>absurd e.2.2.2 AU,fun j v o' b=>?_⟩
 ·grind
 ·grind
 ·have b:=(th hi Aa Aa).1 b;exact⟨(h.et j v o' b).1,fun _ e=>absurd e.2.2.2 AU⟩
theorem du.akP(h:du m xs)(hi:xs[i]?=some .own)(hS:m.S=false):du {m with L:=false,gN:=m.gN+1} (xs.set i (.et (m.gN+1) ({m with L:=false}:bk).word)):=by
 have c:=fun f=>qv f xs i .own (.et (m.gN+1) ({m with L:=false}:bk).word) hi;have o:=c g4;have a:=c gE;have p:=c dS;have hd:=c fH;have a8:=c ef;have q:=c ga;have g:=h.o;have l:=h.Mr hi;have b:i<xs.length:=(List.getElem?_eq_some_iff.1 hi).1;simp only[g4,gE,dS,fH,ef,ga]at o a p hd a8 q;have nm:=h.nm hS;rw[l]at g;simp at g;refine⟨AU,fun e=>?_,fun e=>?_,fun e=>⟨i,by rw[List.getElem?_set_self b];rfl⟩,fun j v o' d=>?_⟩
 ·grind
 ·grind
 ·by_cases k:j=i
  ·subst k;rw[List.getElem?_set_self b]at d;simp at d;obtain⟨rfl,rfl⟩:=d;exact⟨Nat.le_refl _,fun _ _=>rfl⟩
  ·rw[List.getElem?_set_ne (Ne.symm k)]at d;have:=(h.et j v o' d).1;grind
theorem du.Rk(h:du m xs){v o:Nat}(hi:xs[i]?=some (.et v o))(hl:m.jC):du {m with k:=m.k-1,W:=true} (xs.set i .gO):=by
 have c:=fun f=>qv f xs i (.et v o) .gO hi;have o':=c g4;have a:=c gE;have p:=c dS;have hd:=c fH;have a8:=c ef;have q:=c ga;have r:=h.o;have d:i<xs.length:=(List.getElem?_eq_some_iff.1 hi).1;simp only[g4,gE,dS,fH,ef,ga]at o' a p hd a8 q;obtain⟨t,g,hS,s⟩:=hl;have nm:=h.nm hS;rw[g]at nm;simp at nm;refine⟨AU,fun e=>?_,fun e=>?_,fun e=>absurd e.2.1 Aa,fun j v' n b=>?_⟩
 ·grind
 ·grind
 ·by_cases l:j=i
  ·grind
  ·rw[List.getElem?_set_ne (Ne.symm l)]at b;exact⟨(h.et j v' n b).1,fun _ e=>absurd e.2.1 Aa⟩
theorem du.leave(h:du m xs){v o:Nat}(hi:xs[i]?=some (.et v o))(n:¬(m.jC/\m.gN=v)):du m (xs.set i .idle):=by
 have c:=fun f=>qv f xs i (.et v o) .idle hi;have o':=c g4;have a:=c gE;have p:=c dS;have hd:=c fH;have a8:=c ef;have q:=c ga;have l:=h.o;have d:i<xs.length:=(List.getElem?_eq_some_iff.1 hi).1;simp only[g4,gE,dS,fH,ef,ga]at o' a p hd a8 q;refine⟨Ay,fun e=>?_,fun e=>?_,fun e=>?_,fun j v' k b=>?_⟩
 ·have:=h.nm e;omega
 ·have:=h.st e;grind
 ·obtain⟨j,b⟩:=h.pq e;refine⟨j,?_⟩;grind
 ·by_cases g:j=i
  ·grind
  ·rw[List.getElem?_set_ne (Ne.symm g)]at b;exact h.et j v' k b
theorem du.akQ(h:du m xs)(hi:xs[i]?=some bP.gO):du {m with sema:=m.sema+1} (xs.set i bP.idle):=by
 have c:=fun f=>qv f xs i bP.gO bP.idle hi;have o:=c g4;have a:=c gE;have p:=c dS;have hd:=c fH;have a8:=c ef;have q:=c ga;have k:=h.o;have d:m.W.toNat<=1:=Bool.toNat_le _;have g:m.L.toNat<=1:=Bool.toNat_le _;simp only[g4,gE,dS,fH,ef,ga]at o a p hd a8 q;refine⟨AU,fun e=>?_,fun e=>?_,fun e=>?_,fun j v o' b=>?_⟩
 ·have:=h.nm e;grind
 ·have:=h.st e;grind
 ·obtain⟨j,b⟩:=h.pq e;exact⟨j,(th hi Aa Aa).2 b⟩
 ·have b:=(th hi Aa Aa).1 b;exact h.et j v o' b
theorem du.akR(h:du m xs)(hi:xs[i]?=some bP.a8):du {m with sema:=m.sema+1} (xs.set i bP.idle):=by
 have c:=fun f=>qv f xs i bP.a8 bP.idle hi;have o:=c g4;have a:=c gE;have p:=c dS;have hd:=c fH;have a8:=c ef;have q:=c ga;have k:=h.o;have d:m.W.toNat<=1:=Bool.toNat_le _;have g:m.L.toNat<=1:=Bool.toNat_le _;simp only[g4,gE,dS,fH,ef,ga]at o a p hd a8 q;refine⟨AU,fun e=>?_,fun e=>?_,fun e=>?_,fun j v o' b=>?_⟩
 ·have:=h.nm e;grind
 ·have:=h.st e;grind
 ·obtain⟨j,b⟩:=h.pq e;exact⟨j,(th hi Aa Aa).2 b⟩
 ·have b:=(th hi Aa Aa).1 b;exact h.et j v o' b
theorem du.start(h:du m xs)(hi:xs[i]?=some bP.idle):du m (xs.set i bP.mu):=by
 have c:=fun f=>qv f xs i bP.idle bP.mu hi;have o:=c g4;have a:=c gE;have p:=c dS;have hd:=c fH;have a8:=c ef;have q:=c ga;have k:=h.o;have d:m.W.toNat<=1:=Bool.toNat_le _;have g:m.L.toNat<=1:=Bool.toNat_le _;simp only[g4,gE,dS,fH,ef,ga]at o a p hd a8 q;refine⟨Ay,fun e=>?_,fun e=>?_,fun e=>?_,fun j v o' b=>?_⟩
 ·have:=h.nm e;omega
 ·have:=h.st e;grind
 ·obtain⟨j,b⟩:=h.pq e;exact⟨j,AU⟩
 ·have b:=(th hi Aa Aa).1 b;exact h.et j v o' b
theorem du.Rm(h:du m xs)(d:m.sema=0)(hi:xs[i]?=some .j7):∃(j:Nat)(y:bP),xs[j]?=some y/\y≠ .idle/\y≠ .j7:=by
 apply Classical.byContradiction;intro n;have all:∀(j:Nat)(y:bP),xs[j]?=some y->y=.idle\/y=.j7:=AU;have z:∀f:bP->Nat,f .idle=0->f .j7=0->a0 f xs=0:=fun f l k=>YG f xs AU;have o:=z g4 rfl rfl;have a:=z gE rfl rfl;have p:=z dS rfl rfl;have hd:=z fH rfl rfl;have a8:=z ef rfl rfl;have q:=Da ga xs i .j7 hi;simp[ga]at q;have e:=h.o;have c:m.L=false:=by grind
 cases hS:m.S with
 |true=>have:=h.st hS;grind
 |false=>
  have nm:=h.nm hS;have b:m.W=false:=by grind
  obtain⟨j,g⟩:=h.pq ⟨c,b,hS,Ay⟩;grind
theorem du.push(h:du m xs):du m (xs++[.idle]):=by
 have c:=fun f=>Rj f xs .idle;have o:=c g4;have a:=c gE;have p:=c dS;have hd:=c fH;have a8:=c ef;have q:=c ga;simp only[g4,gE,dS,fH,ef,ga]at o a p hd a8 q;have i:=h.o;refine⟨Ay,fun e=>?_,fun e=>?_,fun e=>?_,fun j v o' d=>?_⟩
 ·have:=h.nm e;omega
 ·have:=h.st e;grind
 ·obtain⟨j,d⟩:=h.pq e;have b:j<xs.length:=(List.getElem?_eq_some_iff.1 d).1;exact⟨j,AU⟩
 ·rcases Nat.lt_or_ge j xs.length with b|g
  ·rw[List.getElem?_append_left b]at d;exact h.et j v o' d
  grind
end
def zM(z:bP)(m m1:bk):Prop:=(z=.hand->m.k<=m1.k)/\∀v o,z=.et v o->¬(m.jC/\m.gN=v)->¬(m1.jC/\m1.gN=v)
theorem zM.refl(z:bP)(m:bk):zM z m m:=⟨AU,fun _ _ _ h=>h⟩
theorem zM.trans{z:bP}{a b c:bk}(h:zM z a b)(d:zM z b c):zM z a c:=⟨fun e=>Nat.le_trans (h.1 e) (d.1 e),fun v o e n=>d.2 v o e (h.2 v o e n)⟩
structure l2(x y:bP)(m m1:bk)(f f1:Nat):Prop where
 Fs:∀(xs:List bP)(i:Nat),xs[i]?=some x->du m xs->du m1 (xs.set i y)
 fuel:∀(xs:List bP)(i:Nat),xs[i]?=some x->du m xs->f1+2*tg m1 (xs.set i y)+1<=f+2*tg m xs
 k5:∀(xs:List bP)(i j:Nat)(z:bP),du m xs->xs[i]?=some x->j≠i->xs[j]?=some z->zM z m m1
section
variable {m:bk} {f f1:Nat}
theorem ti{xs:List bP}{i:Nat}{x:bP}(hi:xs[i]?=some x)(m1:bk)(y:bP):tg m1 (xs.set i y)+dS x+ef x+m.sema=tg m xs+dS y+ef y+m1.sema:=by grind[qv,tg]
theorem yB{z:bP}{m1:bk}(a:m.k<=m1.k)(hl:m1.jC->m.jC/\m1.gN=m.gN):zM z m m1:=⟨fun _=>a,AU⟩
theorem sn(a:f1<f)(x:bP):l2 x x m m f f1:=by
 have e:∀(xs:List bP)(i:Nat),xs[i]?=some x->xs.set i x=xs:=fun xs i hi=>by apply List.ext_getElem?;grind
 exact⟨AU,AU,fun _ _ _ z _ _ _ _=>.refl z m⟩
theorem akS(a:f1<f):l2 .idle .mu m m f f1:=
 ⟨fun xs i hi h=>h.start hi,fun xs i hi _=>by have:=ti (m:=m) hi m .mu;grind[dS,ef],fun _ _ _ z _ _ _ _=>.refl z m⟩
theorem Rn{x:bP}(a:x=.mu\/x=.jl)(b:m.L=false)(hS:m.S=false)(c:f1<f):l2 x .own m {m with L:=true,W:=uZ x m.W} f f1:=
 ⟨fun xs i hi h=>h.akI hi a b hS,fun xs i hi _=>by
  have:=ti (m:=m) hi {m with L:=true,W:=uZ x m.W} .own;rcases a with rfl|rfl<;>simp[dS,ef]at this⊢ <;>omega,
  fun _ _ _ z _ _ _ _=>yB Jr (fun e=>absurd e.1 Aa)⟩
theorem YJ(a:m.L=true\/m.S=true)(b:f1<f):l2 .mu .j7 m {m with k:=m.k+1} f f1:=
 ⟨fun xs i hi h=>h.queue hi a,fun xs i hi _=>by have:=ti (m:=m) hi {m with k:=m.k+1} .j7;grind[dS,ef],
  fun _ _ _ z _ _ _ _=>yB (Nat.le_succ _) (fun e=>by obtain⟨d,_,c,_⟩:=e;grind)⟩
theorem YK(sv:Bool)(a:m.L=true)(b:f1<f):l2 .jl .j7 m {m with k:=m.k+1,W:=false,S:=sv} f f1:=
 ⟨fun xs i hi h=>h.akJ hi sv a,fun xs i hi _=>by have:=ti (m:=m) hi {m with k:=m.k+1,W:=false,S:=sv} .j7;grind[dS,ef],
  fun _ _ _ z _ _ _ _=>yB (Nat.le_succ _) (fun e=>absurd e.1 AU)⟩
theorem akT(b:m.L=true)(hS:m.S=false)(a:m.W=false)(c:f1<f):l2 .mu .jl m {m with W:=true} f f1:=
 ⟨fun xs i hi h=>h.akK hi b hS a,fun xs i hi _=>by have:=ti (m:=m) hi {m with W:=true} .jl;grind[dS,ef],
  fun _ _ _ z _ _ _ _=>yB Jr (fun e=>absurd e.1 AU)⟩
theorem akU(hS:m.S=false)(a:0<m.sema)(b:f1<f+2):l2 .j7 .jl m {m with sema:=m.sema-1} f f1:=
 ⟨fun xs i hi h=>h.akL hi hS a,fun xs i hi _=>by have:=ti (m:=m) hi {m with sema:=m.sema-1} .jl;grind[dS,ef],
  fun _ _ _ z _ _ _ _=>yB Jr (fun e=>⟨e,rfl⟩)⟩
theorem akV(hS:m.S=true)(a:0<m.sema)(b:f1<f+2):l2 .j7 .hand m {m with sema:=m.sema-1} f f1:=
 ⟨fun xs i hi h=>h.akM hi hS a,fun xs i hi _=>by have:=ti (m:=m) hi {m with sema:=m.sema-1} .hand;grind[dS,ef],
  fun _ _ _ z _ _ _ _=>yB Jr (fun e=>⟨e,rfl⟩)⟩
theorem Ro(clear:Bool)(c:clear=false->2<=m.k)(d:f1<f):l2 .hand .own m {m with L:=true,k:=m.k-1,S:= !clear} f f1:=
 ⟨fun xs i hi h=>h.handed hi clear c,fun xs i hi _=>by have:=ti (m:=m) hi {m with L:=true,k:=m.k-1,S:= !clear} .own;grind[dS,ef],
  fun xs i j z h hi b a=>⟨fun e=>by
   subst e;have:=Ri fH xs i j .hand .hand hi a (Ne.symm b);have g:=(h.Db hi).2.2.2.2.2.1;grind[fH],fun _ _ _ _ e=>absurd e.1.1 Aa⟩⟩
theorem akW(hS:m.S=true)(a:f1+2<f):l2 .own .a8 m {m with L:=false} f f1:=
 ⟨fun xs i hi h=>h.akN hi hS,fun xs i hi _=>by have:=ti (m:=m) hi {m with L:=false} .a8;grind[dS,ef],
  fun _ _ _ z _ _ _ _=>yB Jr (fun e=>absurd e.2.2.1 AU)⟩
theorem akX(hS:m.S=false)(a:m.k=0)(b:f1<f):l2 .own .idle m {m with L:=false} f f1:=
 ⟨fun xs i hi h=>h.akO hi hS a,fun xs i hi _=>by have:=ti (m:=m) hi {m with L:=false} .idle;grind[dS,ef],
  fun _ _ _ z _ _ _ _=>yB Jr (fun e=>absurd e.2.2.2 AU)⟩
theorem akY(hS:m.S=false)(c:f1<f):l2 .own (.et (m.gN+1) ({m with L:=false}:bk).word) m {m with L:=false,gN:=m.gN+1} f f1:=
 ⟨fun xs i hi h=>h.akP hi hS,fun xs i hi _=>by have:=ti (m:=m) hi {m with L:=false,gN:=m.gN+1} (.et (m.gN+1) ({m with L:=false}:bk).word);grind[dS,ef],
  fun xs i j z h hi b a=>⟨AU,fun v o e _ d=>by
   subst e;have:=(h.et j v o a).1;grind⟩⟩
theorem akZ{v o:Nat}(hl:m.jC)(c:f1+2<f):l2 (.et v o) .gO m {m with k:=m.k-1,W:=true} f f1:=
 ⟨fun xs i hi h=>h.Rk hi hl,fun xs i hi _=>by have:=ti (m:=m) hi {m with k:=m.k-1,W:=true} .gO;grind[dS,ef],
  fun xs i j z h hi b a=>⟨fun e=>by
   subst e;have:=(h.Db a).1;rw[hl.2.2.1]at this;grind,AU⟩⟩
theorem ak0{v o:Nat}(a:¬(m.jC/\m.gN=v))(b:f1<f):l2 (.et v o) .idle m m f f1:=
 ⟨fun xs i hi h=>h.leave hi a,fun xs i hi _=>by have:=ti (m:=m) hi m .idle;grind[dS,ef],fun _ _ _ z _ _ _ _=>.refl z m⟩
theorem ak1(a:f1<f):l2 .gO .idle m {m with sema:=m.sema+1} f f1:=
 ⟨fun xs i hi h=>h.akQ hi,fun xs i hi _=>by grind[ti,dS,ef],fun _ _ _ z _ _ _ _=>yB Jr (fun e=>⟨e,rfl⟩)⟩
theorem ak2(a:f1<f):l2 .a8 .idle m {m with sema:=m.sema+1} f f1:=
 ⟨fun xs i hi h=>h.akR hi,fun xs i hi _=>by have:=ti (m:=m) hi {m with sema:=m.sema+1} .idle;grind[dS,ef],fun _ _ _ z _ _ _ _=>yB Jr (fun e=>⟨e,rfl⟩)⟩
end
end ab
namespace gb
inductive alo where
 |free
 |has (p:Nat)
 |lE (p:Nat) (v:Value)
 |rel
 |n8
 |lb
inductive IT where
 |spawn (k:Nat) (pend:Bool)
 |ss
 |vc
 |over
inductive aV where
 |main (s:IT)
 |aR (s:alo) (put:List (Nat×Value))
 |gone (put:List (Nat×Value))
 |old
structure cF where
 a0:Nat
 eg:Bool
 gP:Nat
 taken:Nat
 came:Nat
 done:List Value
def g7:aV->Nat
 | .main (.spawn _ true)=>1
 | .aR .free _ | .aR (.has _) _ | .aR (.lE _ _) _ | .aR .rel _=>1
 | _=>0
def hE:aV->Nat| .aR .n8 _=>1| _=>0
def hY:aV->Nat| .aR .lb _=>1| _=>0
def Bd:aV->Bool
 | .aR .rel _ | .aR .n8 _ | .aR .lb _ | .gone _=>true
 | _=>false
def tk:aV->List (Nat×Value)
 | .aR _ l| .gone l=>l
 | _=>[]
def hand:aV->List Nat
 | .aR (.has p) _ | .aR (.lE p _) _=>[p]
 | _=>[]
def su:aV->List (Nat×Value)
 | .aR (.lE p v) l=>(p,v)::l
 | .aR _ l| .gone l=>l
 | _=>[]
def eb(p:Nat)(a:aV):Nat:=(hand a).count p+((tk a).map (·.1)).count p
def eK(p:Nat)(a:aV):Nat:=((tk a).map (·.1)).count p
def dm(f:aV->Nat)(aDb:List aV):Nat:=(aDb.map f).sum
theorem xy(f:aV->Nat):∀(aDb:List aV)(i:Nat)(x y:aV),aDb[i]?=some x->dm f (aDb.set i y)+f x=dm f aDb+f y
 | [],i,x,y,h=>AU
 |a::aDb,0,x,y,h=>by grind[dm]
 |a::aDb,i+1,x,y,h=>by have:=xy f aDb i x y HO;simp[dm]at this⊢;omega
theorem sw(f:aV->Nat):∀(aDb:List aV)(i:Nat)(x:aV),aDb[i]?=some x->f x<=dm f aDb
 | [],i,x,h=>AU
 |a::aDb,0,x,h=>by grind[dm]
 |a::aDb,i+1,x,h=>by have:=sw f aDb i x HO;simp[dm]at this⊢;omega
theorem alp(f:aV->Nat)(aDb:List aV)(y:aV):dm f (aDb++[y])=dm f aDb+f y:=by simp[dm]
theorem MC(f:aV->Nat):∀(aDb:List aV),(∀(i:Nat) x,aDb[i]?=some x->f x=0)->dm f aDb=0
 | [],_=>by simp[dm]
 |a::aDb,h=>by have c:=h 0 a Aa;have b:=MC f aDb fun i x hi=>h (i+1) x (by simpa using hi);simp[dm]at b⊢;omega
def kr(f:Nat->Nat):Nat->Nat
 |0=>0
 |n+1=>kr f n+f n
theorem YR{f g:Nat->Nat}:∀{n:Nat},(∀p,p<n->f p<=g p)->kr f n<=kr g n
 |0,_=>Nat.le_refl _
 |n+1,h=>by have:=YR (n:=n) fun p a=>h p Ay;grind[kr]
theorem RD{f g:Nat->Nat}:∀{n:Nat},(∀p,p<n->f p=g p)->kr f n=kr g n
 |0,_=>rfl
 |n+1,h=>by have b:=RD (n:=n) fun p c=>h p Ay;have a:=h n Ay;simp[kr];omega
theorem YS{f g:Nat->Nat}{q d:Nat}:∀{n:Nat},q<n->(∀p,p≠q->g p=f p)->g q=f q+d->kr g n=kr f n+d
 |0,h,_,_=>Ay
 |n+1,h,b,a=>by
  simp[kr];by_cases e:q=n
  ·grind[RD]
  ·have:=YS (n:=n) Ay b a;grind
def xz(s:IT)(b:cF)(aDb:List aV):Prop:=
 match s with
 | .spawn _ _ | .ss=>b.eg=false/\b.gP=0/\dm hE aDb=0/\dm hY aDb=0
 | .vc=>(b.eg=true/\b.gP=0/\dm hY aDb=0/\((0<b.a0/\dm hE aDb=0)\/(b.a0=0/\dm hE aDb=1)))\/(b.eg=false/\b.a0=0/\dm hE aDb=0/\b.gP+dm hY aDb=1)
 | .over=>b.eg=false/\b.a0=0/\b.gP=0/\dm hE aDb=0/\dm hY aDb=0
def RE(m:Nat)(aDb:List aV):Prop:=∀k q,aDb[0]?=some (.main (.spawn k q))->aDb.length=m+k
def YT:aV->Bool
 | .aR _ _ | .gone _=>true
 | _=>false
def IU(m:Nat)(aDb:List aV):Prop:=∀s,aDb[0]?=some (.main s)->(∃q,s=.spawn 0 q)\/∃a,aDb[m]?=some a/\YT a=true
structure dc(N:Nat)(rows:Nat->Nat)(b:cF)(aDb:List aV):Prop where
 tl:RE (rows N) aDb
 xA:IU (rows N) aDb
 main:∃s,aDb[0]?=some (.main s)/\xz s b aDb
 only:∀(j:Nat) s,aDb[j]?=some (.main s)->j=0
 a0:b.a0=dm g7 aDb
 a2:b.taken<=N
 len:b.done.length=N
 own:∀p,dm (eb p) aDb=if p<b.taken then 1 else 0
 val:∀(j:Nat) a,aDb[j]?=some a->∀cv∈su a,b.done[cv.1]?=some cv.2
 came:b.came=kr (fun p=>dm (eK p) aDb*rows p) N
 gt:(∃(j:Nat)(a:aV),aDb[j]?=some a/\Bd a=true)->b.taken=N
variable {v:Value}
section
variable {N:Nat} {rows:Nat->Nat} {b:cF} {aDb:List aV} {i:Nat}
theorem zP{m:Nat}{x y:aV}(h:RE m aDb)(hi:aDb[i]?=some x)(d:∀k q,y=.main (.spawn k q)->∃a,x=.main (.spawn k a)):RE m (aDb.set i y):=by
 intro k q c;rw[List.length_set];have b:i<aDb.length:=(List.getElem?_eq_some_iff.1 hi).1;by_cases e:i=0
 ·subst e;rw[List.getElem?_set_self b]at c;obtain⟨a,rfl⟩:=d k q AU;exact h k a hi
 ·rw[List.getElem?_set_ne e]at c;exact h k q c
theorem Be{m:Nat}{x y:aV}(h:IU m aDb)(hi:aDb[i]?=some x)(h0:i≠0)(c:YT y=true):IU m (aDb.set i y):=by intro s b;rw[List.getElem?_set_ne h0]at b;refine(h s b).imp id fun⟨a,e,d⟩=>?_;grind
theorem alq{m:Nat}{s c:IT}(h:IU m aDb)(hi:aDb[0]?=some (.main s))(j:∀q,s=.spawn 0 q->∃g,c=.spawn 0 g):IU m (aDb.set 0 (.main c)):=by
 intro i f;have b:0<aDb.length:=(List.getElem?_eq_some_iff.1 hi).1;rw[List.getElem?_set_self b]at f;cases f;refine(h s hi).imp AU fun⟨a,e,d⟩=>⟨a,?_,d⟩;have:0≠m:=by rintro rfl;rw[hi]at e;cases e;cases d
 grind
theorem alr(p:Nat)(a:aV):eK p a<=eb p a:=Nat.le_add_left _ _
theorem YU{f g:aV->Nat}(h:∀a,f a<=g a):∀(aDb:List aV),dm f aDb<=dm g aDb
 | []=>by simp[dm]
 |a::aDb=>by have:=YU h aDb;grind[dm]
theorem dc.YV(h:dc N rows b aDb):b.came<=kr rows N:=by rw[h.came];refine YR fun p _=>?_;have c:=YU (alr p) aDb;have a:=h.own p;grind[Nat.le_one_iff_eq_zero_or_eq_one]
theorem Bf{x:aV}(h:dc N rows b aDb)(hi:aDb[i]?=some x)(a:∀s,x≠ .main s):i≠0:=by rintro rfl;obtain⟨s,c,_⟩:=h.main;grind
theorem YW(f:aV->Nat):∀(aDb:List aV)(i j:Nat)(x y:aV),aDb[i]?=some x->aDb[j]?=some y->i≠j->f x+f y<=dm f aDb
 | [],i,j,x,y,h,_,_=>AU
 |a::aDb,0,0,x,y,_,_,h=>absurd rfl h
 |a::aDb,0,j+1,x,y,c,b,_=>by simp at c b;subst c;have:=sw f aDb j y b;grind[dm]
 |a::aDb,i+1,0,x,y,c,b,_=>by simp at c b;subst b;have:=sw f aDb i x c;grind[dm]
 |a::aDb,i+1,j+1,x,y,c,b,h=>by have:=YW f aDb i j x y (by simpa using c) (by simpa using b) Ay;simp[dm]at this⊢;omega
theorem als{a:aV}{p:Nat}(h:(p,v)∈su a):1<=eb p a:=by
 unfold eb;cases a with
 |main s=>simp[su]at h
 |old=>simp[su]at h
 |gone l=>have:p∈l.map (·.1):=List.mem_map.2 ⟨_,h,rfl⟩;grind[tk]
 |aR s l=>
  have key:∀{l:List (Nat×Value)},(p,v)∈l->1<=(l.map (·.1)).count p:=fun h=>List.count_pos_iff.2 AU;cases s with
  |lE q u=>
   simp[su]at h;rcases h with⟨rfl,rfl⟩|h
   ·simp[hand]
   grind[tk]
  | _=>have:=key (show(p,v)∈l from h);grind[tk]
theorem MD{s:IT}{b b1:cF}{aDb a:List aV}(f:b1.a0=b.a0)(e:b1.eg=b.eg)(d:b1.gP=b.gP)(c:dm hE a=dm hE aDb)(g:dm hY a=dm hY aDb)(h:xz s b aDb):xz s b1 a:=by simp_all[xz]
theorem jR{aDb:List aV}{i j:Nat}{x y a:aV}(hi:aDb[i]?=some x)(h:(aDb.set i y)[j]?=some a):(j=i/\a=y)\/(j≠i/\aDb[j]?=some a):=by grind
theorem dc.take(h:dc N rows b aDb){l:List (Nat×Value)}(cj:b.taken<N)(hi:aDb[i]?=some (.aR .free l)):dc N rows {b with taken:=b.taken+1} (aDb.set i (.aR (.has b.taken) l)):=by
 have h0:i≠0:=Bf h hi Aa;have c:=fun f=>xy f aDb i (.aR .free l) (.aR (.has b.taken) l) hi;have c1:=c g7;have bH:=c hE;have eI:=c hY;simp only[g7,hE,hY]at c1 bH eI;have u:=h.a0;obtain⟨s,r,t⟩:=h.main;refine⟨zP h.tl hi AU,Be h.xA hi h0 rfl,⟨s,AU,?_⟩,fun j n g=>?_,AU,AU,h.len,fun d=>?_,fun j a g m k=>?_,?_,fun⟨j,a,g,p⟩=>?_⟩
 ·grind[MD]
 ·rcases jR hi g with⟨_,e⟩|⟨_,e⟩
  ·cases e
  ·exact h.only j n e
 ·have:=c (eb d);have e:=h.own d;simp only[eb,hand,tk,List.count_nil,List.count_singleton]at this;simp only;by_cases v:d=b.taken
  ·grind
  grind
 ·rcases jR hi g with⟨rfl,rfl⟩|⟨o,e⟩
  ·exact h.val j _ hi m k
  ·exact h.val j a e m k
 ·have e:∀d,dm (eK d) (aDb.set i (.aR (.has b.taken) l))=dm (eK d) aDb:=fun d=>by have:=c (eK d);have q:eK d (.aR (.has b.taken) l)=eK d (.aR .free l):=rfl;grind
  simp only[e];exact h.came
 ·rcases jR hi g with⟨rfl,rfl⟩|⟨_,e⟩
  ·simp[Bd]at p
  ·have:=h.gt AU;omega
theorem dc.YX(h:dc N rows b aDb){p:Nat}{l:List (Nat×Value)}(hi:aDb[i]?=some (.aR (.has p) l)):dc N rows {b with done:=b.done.set p v} (aDb.set i (.aR (.lE p v) l)):=by
 have h0:i≠0:=Bf h hi Aa;have c:=fun f=>xy f aDb i (.aR (.has p) l) (.aR (.lE p v) l) hi;have c1:=c g7;have bH:=c hE;have eI:=c hY;simp only[g7,hE,hY]at c1 bH eI;have z:=h.a0;obtain⟨s,x,y⟩:=h.main;refine⟨zP h.tl hi AU,Be h.xA hi h0 rfl,⟨s,AU,?_⟩,fun j q m=>?_,AU,h.a2,by simp;exact h.len,fun g=>?_,fun j a m n k=>?_,?_,fun⟨j,a,m,r⟩=>?_⟩
 ·grind[MD]
 ·rcases jR hi m with⟨_,e⟩|⟨_,e⟩
  ·cases e
  ·exact h.only j q e
 ·have:=c (eb g);have e:=h.own g;have o:eb g (.aR (.lE p v) l)=eb g (.aR (.has p) l):=rfl;grind
 ·rcases jR hi m with⟨rfl,rfl⟩|⟨d,e⟩
  ·have B:p<b.done.length:=by
    have e:=h.own p;have:=sw (eb p) aDb j _ hi;have w:1<=eb p (.aR (.has p) l):=by simp[eb,hand]
    rw[h.len];have:=h.a2;grind
   simp[su]at k;rcases k with rfl|k
   ·grind
   ·have d:n.1≠p:=fun e=>by have t:1<=(l.map (·.1)).count p:=List.count_pos_iff.2 AU;have u:=h.own p;grind[sw,eb,hand,tk]
    simp only;rw[List.getElem?_set_ne (Ne.symm d)];exact h.val j _ hi n k
  ·have d:n.1≠p:=fun A=>by
    have t:1<=eb p a:=als (v:=n.2) AU;have:=YW (eb p) aDb i j _ _ hi e (Ne.symm d);have w:1<=eb p (.aR (.has p) l):=by simp[eb,hand]
    have u:=h.own p;grind
   simp only;rw[List.getElem?_set_ne (Ne.symm d)];exact h.val j a e n k
 ·have e:∀g,dm (eK g) (aDb.set i (.aR (.lE p v) l))=dm (eK g) aDb:=fun g=>by have:=c (eK g);have o:eK g (.aR (.lE p v) l)=eK g (.aR (.has p) l):=rfl;grind
  simp only[e];exact h.came
 ·rcases jR hi m with⟨rfl,rfl⟩|⟨_,e⟩
  ·simp[Bd]at r
  ·exact h.gt AU
theorem dc.count(h:dc N rows b aDb){p:Nat}{l:List (Nat×Value)}(hi:aDb[i]?=some (.aR (.lE p v) l)):dc N rows {b with came:=b.came+rows p} (aDb.set i (.aR .free ((p,v)::l))):=by
 have h0:i≠0:=Bf h hi Aa;have c:=fun f=>xy f aDb i (.aR (.lE p v) l) (.aR .free ((p,v)::l)) hi;have c1:=c g7;have bH:=c hE;have eI:=c hY;simp only[g7,hE,hY]at c1 bH eI;have u:=h.a0;obtain⟨s,r,t⟩:=h.main;refine⟨zP h.tl hi AU,Be h.xA hi h0 rfl,⟨s,AU,?_⟩,fun j n d=>?_,AU,h.a2,h.len,fun m=>?_,fun j a d k g=>?_,?_,fun⟨j,a,d,q⟩=>?_⟩
 ·grind[MD]
 ·rcases jR hi d with⟨_,e⟩|⟨_,e⟩
  ·cases e
  ·exact h.only j n e
 ·have:=c (eb m);have e:=h.own m;grind[eb,hand,tk]
 ·rcases jR hi d with⟨rfl,rfl⟩|⟨o,e⟩
  ·exact h.val j _ hi k g
  ·exact h.val j a e k g
 ·have x:p<N:=by
   have e:=h.own p;have:=sw (eb p) aDb i _ hi;have w:1<=eb p (.aR (.lE p v) l):=by simp[eb,hand]
   have:=h.a2;grind
  simp only;rw[h.came];grind[YS,eK,tk]
 ·rcases jR hi d with⟨rfl,rfl⟩|⟨_,e⟩
  ·simp[Bd]at q
  ·exact h.gt AU
theorem dc.release(h:dc N rows b aDb){l:List (Nat×Value)}(cj:b.taken=N)(hi:aDb[i]?=some (.aR .free l)):dc N rows b (aDb.set i (.aR .rel l)):=by
 have h0:i≠0:=Bf h hi Aa;have c:=fun f=>xy f aDb i (.aR .free l) (.aR .rel l) hi;have c1:=c g7;have bH:=c hE;have eI:=c hY;simp only[g7,hE,hY]at c1 bH eI;have u:=h.a0;obtain⟨s,q,r⟩:=h.main;refine⟨zP h.tl hi AU,Be h.xA hi h0 rfl,⟨s,AU,?_⟩,fun j o g=>?_,Ay,h.a2,h.len,fun d=>?_,fun j a g m k=>?_,?_,fun⟨j,a,g,t⟩=>?_⟩
 ·grind[MD]
 ·rcases jR hi g with⟨_,e⟩|⟨_,e⟩
  ·cases e
  ·exact h.only j o e
 ·have:=c (eb d);have e:=h.own d;have n:eb d (.aR .rel l)=eb d (.aR .free l):=rfl;grind
 ·rcases jR hi g with⟨rfl,rfl⟩|⟨p,e⟩
  ·exact h.val j _ hi m k
  ·exact h.val j a e m k
 ·have e:∀d,dm (eK d) (aDb.set i (.aR .rel l))=dm (eK d) aDb:=fun d=>by have:=c (eK d);have n:eK d (.aR .rel l)=eK d (.aR .free l):=rfl;grind
  simp only[e];exact h.came
 grind
theorem dc.out(h:dc N rows b aDb){l:List (Nat×Value)}(u:b.eg=false\/2<=b.a0)(hi:aDb[i]?=some (.aR .rel l)):dc N rows {b with a0:=b.a0-1} (aDb.set i (.gone l)):=by
 have h0:i≠0:=Bf h hi Aa;have c:=fun f=>xy f aDb i (.aR .rel l) (.gone l) hi;have c1:=c g7;have bH:=c hE;have eI:=c hY;simp only[g7,hE,hY]at c1 bH eI;have x:=h.a0;obtain⟨s,v,g⟩:=h.main;refine⟨zP h.tl hi AU,Be h.xA hi h0 rfl,⟨s,AU,?_⟩,fun j r m=>?_,AU,h.a2,h.len,fun d=>?_,fun j a m o n=>?_,?_,fun⟨j,a,m,w⟩=>?_⟩
 ·cases s with|vc=>grind[xz]|over=>grind[xz]|spawn k q=>exact⟨g.1,g.2.1,by have:=g.2.2.1;omega,by have:=g.2.2.2;omega⟩|ss=>exact⟨g.1,g.2.1,by have:=g.2.2.1;omega,by have:=g.2.2.2;omega⟩
 ·rcases jR hi m with⟨_,e⟩|⟨_,e⟩
  ·cases e
  ·exact h.only j r e
 ·have:=c (eb d);have e:=h.own d;have p:eb d (.gone l)=eb d (.aR .rel l):=rfl;grind
 ·rcases jR hi m with⟨rfl,rfl⟩|⟨t,e⟩
  ·exact h.val j _ hi o n
  ·exact h.val j a e o n
 ·have e:∀d,dm (eK d) (aDb.set i (.gone l))=dm (eK d) aDb:=fun d=>by have:=c (eK d);have p:eK d (.gone l)=eK d (.aR .rel l):=rfl;grind
  simp only[e];exact h.came
 ·rcases jR hi m with⟨rfl,rfl⟩|⟨_,e⟩
  ·exact h.gt ⟨_,_,hi,rfl⟩
  ·exact h.gt AU
theorem dc.alt(h:dc N rows b aDb){l:List (Nat×Value)}(r:b.eg=true)(q:b.a0=1)(hi:aDb[i]?=some (.aR .rel l)):dc N rows {b with a0:=b.a0-1} (aDb.set i (.aR .n8 l)):=by
 have h0:i≠0:=Bf h hi Aa;have c:=fun f=>xy f aDb i (.aR .rel l) (.aR .n8 l) hi;have c1:=c g7;have bH:=c hE;have eI:=c hY;simp only[g7,hE,hY]at c1 bH eI;have w:=h.a0;obtain⟨s,t,u⟩:=h.main;refine⟨zP h.tl hi AU,Be h.xA hi h0 rfl,⟨s,AU,?_⟩,fun j o g=>?_,AU,h.a2,h.len,fun d=>?_,fun j a g m k=>?_,?_,fun⟨j,a,g,v⟩=>?_⟩
 ·simp_all[xz]
 ·rcases jR hi g with⟨_,e⟩|⟨_,e⟩
  ·cases e
  ·exact h.only j o e
 ·have:=c (eb d);have e:=h.own d;have n:eb d (.aR .n8 l)=eb d (.aR .rel l):=rfl;grind
 ·rcases jR hi g with⟨rfl,rfl⟩|⟨p,e⟩
  ·exact h.val j _ hi m k
  ·exact h.val j a e m k
 ·have e:∀d,dm (eK d) (aDb.set i (.aR .n8 l))=dm (eK d) aDb:=fun d=>by have:=c (eK d);have n:eK d (.aR .n8 l)=eK d (.aR .rel l):=rfl;grind
  simp only[e];exact h.came
 ·rcases jR hi g with⟨rfl,rfl⟩|⟨_,e⟩
  ·exact h.gt ⟨_,_,hi,rfl⟩
  ·exact h.gt AU
theorem dc.alu(h:dc N rows b aDb){l:List (Nat×Value)}(hi:aDb[i]?=some (.aR .n8 l)):dc N rows {b with eg:=false} (aDb.set i (.aR .lb l)):=by
 have h0:i≠0:=Bf h hi Aa;have c:=fun f=>xy f aDb i (.aR .n8 l) (.aR .lb l) hi;have c1:=c g7;have bH:=c hE;have eI:=c hY;simp only[g7,hE,hY]at c1 bH eI;have x:=h.a0;obtain⟨s,v,m⟩:=h.main;refine⟨zP h.tl hi AU,Be h.xA hi h0 rfl,⟨s,AU,?_⟩,fun j r g=>?_,AU,h.a2,h.len,fun d=>?_,fun j a g o n=>?_,?_,fun⟨j,a,g,w⟩=>?_⟩
 ·have u:=sw hE aDb i _ hi;simp[hE]at u;cases s with|vc=>simp only[xz]at m⊢;grind|over=>have:=m.2.2.2;omega|spawn k q=>have:=m.2.2;omega|ss=>have:=m.2.2;omega
 ·rcases jR hi g with⟨_,e⟩|⟨_,e⟩
  ·cases e
  ·exact h.only j r e
 ·have:=c (eb d);have e:=h.own d;have p:eb d (.aR .lb l)=eb d (.aR .n8 l):=rfl;grind
 ·rcases jR hi g with⟨rfl,rfl⟩|⟨t,e⟩
  ·exact h.val j _ hi o n
  ·exact h.val j a e o n
 ·have e:∀d,dm (eK d) (aDb.set i (.aR .lb l))=dm (eK d) aDb:=fun d=>by have:=c (eK d);have p:eK d (.aR .lb l)=eK d (.aR .n8 l):=rfl;grind
  simp only[e];exact h.came
 ·rcases jR hi g with⟨rfl,rfl⟩|⟨_,e⟩
  ·exact h.gt ⟨_,_,hi,rfl⟩
  ·exact h.gt AU
theorem dc.raise(h:dc N rows b aDb){l:List (Nat×Value)}(hi:aDb[i]?=some (.aR .lb l)):dc N rows {b with gP:=b.gP+1} (aDb.set i (.gone l)):=by
 have h0:i≠0:=Bf h hi Aa;have c:=fun f=>xy f aDb i (.aR .lb l) (.gone l) hi;have c1:=c g7;have bH:=c hE;have eI:=c hY;simp only[g7,hE,hY]at c1 bH eI;have x:=h.a0;obtain⟨s,v,m⟩:=h.main;refine⟨zP h.tl hi AU,Be h.xA hi h0 rfl,⟨s,AU,?_⟩,fun j r g=>?_,AU,h.a2,h.len,fun d=>?_,fun j a g o n=>?_,?_,fun⟨j,a,g,w⟩=>?_⟩
 ·have u:=sw hY aDb i _ hi;simp[hY]at u;cases s with|vc=>grind[xz]|over=>have:=m.2.2.2;omega|spawn k q=>have:=m.2.2;omega|ss=>have:=m.2.2;omega
 ·rcases jR hi g with⟨_,e⟩|⟨_,e⟩
  ·cases e
  ·exact h.only j r e
 ·have:=c (eb d);have e:=h.own d;have p:eb d (.gone l)=eb d (.aR .lb l):=rfl;grind
 ·rcases jR hi g with⟨rfl,rfl⟩|⟨t,e⟩
  ·exact h.val j _ hi o n
  ·exact h.val j a e o n
 ·have e:∀d,dm (eK d) (aDb.set i (.gone l))=dm (eK d) aDb:=fun d=>by have:=c (eK d);have p:eK d (.gone l)=eK d (.aR .lb l):=rfl;grind
  simp only[e];exact h.came
 ·rcases jR hi g with⟨rfl,rfl⟩|⟨_,e⟩
  ·exact h.gt ⟨_,_,hi,rfl⟩
  ·exact h.gt AU
theorem dc.IV(h:dc N rows b aDb){s d:IT}(hi:aDb[0]?=some (.main s)){b1:cF}(B:b1.a0+g7 (.main s)=b.a0+g7 (.main d))(ht:b1.taken=b.taken)(hd:b1.done=b.done)(v:b1.came=b.came)(u:∀k q,d=.spawn k q->∃m,s=.spawn k m)(t:∀q,s=.spawn 0 q->∃m,d=.spawn 0 m)
 (C:∀l,dm hE l=dm hE aDb->dm hY l=dm hY aDb->xz s b aDb->xz d b1 l):dc N rows b1 (aDb.set 0 (.main d)):=by
 have c:=fun f=>xy f aDb 0 (.main s) (.main d) hi;have c1:=c g7;have bH:=c hE;have eI:=c hY;have E:hE (.main s)=0/\hE (.main d)=0:=⟨rfl,rfl⟩;have D:hY (.main s)=0/\hY (.main d)=0:=⟨rfl,rfl⟩;have w:0<aDb.length:=(List.getElem?_eq_some_iff.1 hi).1;obtain⟨n,p,A⟩:=h.main;rw[hi]at p;cases p;have z:=h.a0;refine⟨zP h.tl hi AU,alq h.xA hi t,AU,fun j n i=>?_,Ay,by rw[ht];exact h.a2,by rw[hd];exact h.len,fun g=>?_,fun j a i y o=>?_,?_,fun⟨j,a,i,x⟩=>?_⟩
 ·rcases jR hi i with⟨e,_⟩|⟨_,e⟩
  ·exact e
  ·exact h.only j n e
 ·have:=c (eb g);have e:=h.own g;have r:eb g (.main s)=0/\eb g (.main d)=0:=⟨rfl,rfl⟩;grind
 ·rw[hd];rcases jR hi i with⟨_,rfl⟩|⟨_,e⟩
  ·simp[su]at o
  ·exact h.val j a e y o
 ·have e:∀g,dm (eK g) (aDb.set 0 (.main d))=dm (eK g) aDb:=fun g=>by have:=c (eK g);have r:eK g (.main s)=0/\eK g (.main d)=0:=⟨rfl,rfl⟩;omega
  simp only[e];rw[v];exact h.came
 ·rw[ht];rcases jR hi i with⟨_,rfl⟩|⟨_,e⟩
  ·simp[Bd]at x
  ·exact h.gt AU
theorem dc.add(h:dc N rows b aDb){k:Nat}(hi:aDb[0]?=some (.main (.spawn k false))):dc N rows {b with a0:=b.a0+1} (aDb.set 0 (.main (.spawn k true))):=
 h.IV hi Jk rfl rfl rfl AU AU fun e d c a=>⟨a.1,a.2.1,d.trans a.2.2.1,c.trans a.2.2.2⟩
theorem dc.waits(h:dc N rows b aDb){k:Nat}(f:0<k)(hi:aDb[0]?=some (.main (.spawn k false))):dc N rows b (aDb.set 0 (.main .ss)):=
 h.IV hi Jk rfl rfl rfl AU AU fun e d c a=>⟨a.1,a.2.1,d.trans a.2.2.1,c.trans a.2.2.2⟩
theorem dc.alv(h:dc N rows b aDb)(hi:aDb[0]?=some (.main .ss))(c:0<b.a0):dc N rows {b with eg:=true} (aDb.set 0 (.main .vc)):=
 h.IV hi Jk rfl rfl rfl AU AU fun f e d a=>.inl ⟨rfl,a.2.1,d.trans a.2.2.2,.inl ⟨c,e.trans a.2.2.1⟩⟩
theorem dc.zero(h:dc N rows b aDb)(hi:aDb[0]?=some (.main .ss))(c:b.a0=0):dc N rows b (aDb.set 0 (.main .over)):=
 h.IV hi Jk rfl rfl rfl AU AU fun f e d a=>⟨a.1,c,a.2.1,e.trans a.2.2.1,d.trans a.2.2.2⟩
theorem dc.Rk(h:dc N rows b aDb)(hi:aDb[0]?=some (.main .vc))(i:b.gP≠0):dc N rows {b with gP:=b.gP-1} (aDb.set 0 (.main .over)):=
 h.IV hi Jk rfl rfl rfl AU AU fun f d j c=>by
  rcases c with⟨_,a,_⟩|⟨m1,a,e,g⟩
  ·grind
  ·exact⟨m1,a,AU,d.trans e,Ay⟩
theorem dc.born(h:dc N rows b aDb){k:Nat}(hi:aDb[0]?=some (.main (.spawn k true))):dc N rows b (aDb.set 0 (.main (.spawn (k+1) false))++[.aR .free []]):=by
 have c:=fun f=>xy f aDb 0 (.main (.spawn k true)) (.main (.spawn (k+1) false)) hi;have d:=fun f=>alp f (aDb.set 0 (.main (.spawn (k+1) false))) (.aR .free []);have c1:=c g7;have bH:=c hE;have eI:=c hY;have d1:=d g7;have gV:=d hE;have fS:=d hY;simp only[g7,hE,hY]at c1 bH eI d1 gV fS;have u:0<aDb.length:=(List.getElem?_eq_some_iff.1 hi).1;obtain⟨o,r,l⟩:=h.main;rw[hi]at r;cases r;have z:=h.a0;have get:∀{j:Nat}{a:aV},(aDb.set 0 (.main (.spawn (k+1) false))++[.aR .free []])[j]?=some a->(j=0/\a=.main (.spawn (k+1) false))\/(j≠0/\aDb[j]?=some a)\/(j=aDb.length/\a=.aR .free []):=by grind
 refine⟨fun k' B D=>?_,fun A v=>.inr ?_,⟨.spawn (k+1) false,AU,l.1,l.2.1,by have:=l.2.2.1;omega,by have:=l.2.2.2;omega⟩,fun j o i=>?_,Ay,h.a2,h.len,fun g=>?_,fun j a i y p=>?_,?_,fun⟨j,a,i,m⟩=>?_⟩
 ·have m:=h.tl k true hi;grind
 ·have m:=h.tl k true hi;rcases h.xA _ hi with⟨q,e⟩|⟨a,n,t⟩
  ·cases e;refine⟨.aR .free [],?_,rfl⟩;grind
  ·have C:rows N<aDb.length:=(List.getElem?_eq_some_iff.1 n).1;have v:0≠rows N:=by intro e;rw[<-e,hi]at n;cases n;cases t
   grind
 ·rcases get i with⟨e,_⟩|⟨_,e⟩|⟨_,e⟩
  ·exact e
  ·exact h.only j o e
  grind
 ·have x:=c (eb g);have w:=d (eb g);have e:=h.own g;have s:eb g (.main (.spawn k true))=0/\eb g (.main (.spawn (k+1) false))=0/\eb g (.aR .free [])=0:=⟨rfl,rfl,rfl⟩;omega
 ·rcases get i with⟨_,rfl⟩|⟨_,e⟩|⟨_,rfl⟩
  ·simp[su]at p
  ·exact h.val j a e y p
  grind[su]
 ·have e:∀g,dm (eK g) (aDb.set 0 (.main (.spawn (k+1) false))++[.aR .free []])=dm (eK g) aDb:=fun g=>by have x:=c (eK g);have w:=d (eK g);have s:eK g (.main (.spawn k true))=0/\eK g (.main (.spawn (k+1) false))=0/\eK g (.aR .free [])=0:=⟨rfl,rfl,rfl⟩;omega
  simp only[e];exact h.came
 ·rcases get i with⟨_,rfl⟩|⟨_,e⟩|⟨_,rfl⟩
  ·simp[Bd]at m
  ·exact h.gt AU
  grind[Bd]
def tp:aV->Prop
 | .gone _ | .old=>True
 | _=>False
def ME(a:aV)(b:cF):Prop:=a=.main .vc/\b.gP=0
theorem dc.Rm(h:dc N rows b aDb):∃(j:Nat)(a:aV),aDb[j]?=some a/\¬tp a/\¬ME a b:=by
 obtain⟨s,k,l⟩:=h.main;by_cases d:s=.vc/\b.gP=0
 ·obtain⟨rfl,o⟩:=d;apply Classical.byContradiction;intro n;have all:∀(j:Nat)(a:aV),aDb[j]?=some a->tp a\/a=.main .vc:=fun j a m=>by apply Classical.byContradiction;intro g;exact n ⟨j,a,m,AU,fun e=>g (.inr e.1)⟩
  have z:∀f:aV->Nat,(∀a,tp a->f a=0)->f (.main .vc)=0->dm f aDb=0:=fun f q p=>MC f aDb AU;have u:=z g7 (fun a c=>JH) rfl;have t:=z hE (fun a c=>JH) rfl;have r:=z hY (fun a c=>JH) rfl;have g:=h.a0;rcases l with⟨_,_,_,i⟩|⟨_,_,_,i⟩<;>omega
 ·exact⟨0,_,k,fun e=>e,fun e=>d ⟨by have:=e.1;grind,e.2⟩⟩
theorem dc.all(h:dc N rows b aDb)(hi:aDb[0]?=some (.main .over)):∀(j:Nat)(a:aV),aDb[j]?=some a->j=0\/tp a:=by intro j a c;obtain⟨k,d,e⟩:=h.main;rw[hi]at d;cases d;have m:=h.a0;have i:=sw g7 aDb j a c;have g:=sw hE aDb j a c;have f:=sw hY aDb j a c;have:=e.2.1;have:=e.2.2.2;cases a with|main s=>exact .inl (h.only j s c)|gone l=>exact .inr trivial|old=>exact .inr trivial|aR s l=>cases s<;>simp only[g7,hE,hY]at i g f<;>omega
end
end gb
end Go.Proofs.YtoehnnefaeoeoaaGreat
