import Derived.Test.YtnkpmooengcinaaGreatP00
import Derived.Conc.CrowdTrace
set_option linter.all false
set_option maxRecDepth 100000
set_option maxHeartbeats 16000000
namespace Go.Proofs.YtnkpmooengcinaaGreat
abbrev aH:=Go.World
abbrev ck:=Go.Program
def vab:=@List.getElem?_eq_some_iff
def vac:=@Nat.le_trans
def vad:=@Nat.le_refl
def vae:=@Bool.and_eq_true
def vag:=@Array.getElem?_eq_some_iff
def vah:=@Option.getD_some
def vai:=@Bool.false_eq_true
def vaj:=@Option.map_eq_some_iff
def vak:=@Array.getElem?_eq_getElem
def van:=@Nat.lt_of_lt_of_le
def vap:=@Array.all_eq_true_iff_forall_mem
def vaq:=@Array.getElem?_setIfInBounds
def vas:=@List.getElem?_eq_getElem
def vaw:=@Bool.toNat_le
def vax:=@Classical.byContradiction
def vay:=@Array.getElem?_modify
def vaz:=@Nat.zero_le
def vba:=@List.getElem?_set_ne
def vbb:=@Array.replicate_succ
def vbc:=@List.mem_cons
def vbd:=@Option.bind_eq_some_iff
def vbf:=@Array.mem_of_getElem?
def vbg:=@List.getElem?_map
def vbh:=@Nat.eq_zero_or_pos
def vbi:=@List.all_cons
def vbj:=@Classical.skolem
def vbk:=@Option.some.injEq
def vbn:=@congrArg
def vbq:=@Option.some.inj
def vbr:=@List.not_mem_nil
def vbu:=@List.ext_getElem?
def vbw:=@Array.getElem?_map
def vbx:=@if_true
def vby:=@Nat.zero_add
def vbz:=@List.mem_map
def vcd:=@List.getElem?_set_self
def vcg:=@Nat.add_zero
def vch:=@Array.ext_getElem?
def vci:=@Array.mapM_eq_mapM_toList
def vcj:=@if_false
def vcl:=@Nat.le_succ
def vcp:=@List.take_of_length_le
def vcq:=@Array.empty_append
def vcr:=@Array.getD_eq_getD_getElem?
def vcu:=@List.getD_eq_getElem?_getD
def vcy:=@if_neg
def vdb:=@List.getElem_append_left
def vdc:=@List.map_cons
def vdd:=@List.getElem?_cons_zero
def vde:=@List.getElem?_cons_succ
def vdg:=@of_decide_eq_true
def vdh:=@Array.getElem?_setIfInBounds_ne
def vdi:=@if_pos
def vdk:=@List.getElem?_toArray
def vdl:=@Array.getElem?_toList
def vdo:=@Option.elim_some
def vdp:=@Nat.le_add_right
def vdq:=@List.getElem_mem
def vdr:=@Array.mem_append
def vds:=@or_false
def vdw:=@Option.map_some
def vdx:=@List.range_succ
def vdy:=@List.nil_append
def vdz:=@List.length_set
def veb:=@List.count_pos_iff
def ved:=@Bool.false_ne_true
def vee:=@funext
abbrev _root_.Go.Value.U:Go.Value:=Go.undef
abbrev _root_.Go.Item.R(o:Array Go.Oper)(l:List Nat):Go.Item:=.inRegion o l
abbrev _root_.Go.Addr.a(b o:Nat):Go.Addr:=⟨b,o,none⟩
abbrev c5:=Nat->Prop
abbrev dC:=Array Value
abbrev eQ:=Array Oper
abbrev fA:=List Frame
abbrev fE:=Value->aH->Prop
abbrev uaa:=TypeId
abbrev uab:=List Item
abbrev uac:=List (Nat×Value)
abbrev uad:=Option Addr
abbrev uae:=Nat->Value->(Nat->Prop)->aH->Prop
abbrev uaf:=List Int
abbrev uag:=List Nat
abbrev uah:=List (Int×Int)
abbrev uai:=Goroutine
abbrev uaj:=Operand->Value
abbrev uak:=Act->aH->Prop
abbrev ual:=FuncId
abbrev uam:=List Value
abbrev uan:=Loc->Prop
abbrev uao:=Nat->aH->Value->Prop
abbrev uap:=Exit->Act->aH->Prop
abbrev uaq:=Operand
abbrev uar:=Nat->Option Value
abbrev uas:=Nat->Nat
abbrev uat:=List (Nat×Obj)
abbrev uau:=Array TypeId
abbrev uav:=Array Event
abbrev uaw:=Array Bool
abbrev uax:=Nat->Goroutine->aH->Prop
abbrev uay:=List (Value×Value)
abbrev uaz:=aH->Value->Prop
abbrev uba:=Array Operand
abbrev ubb:=Nat->Value
abbrev ubc:=Array Goroutine
abbrev ubd:=Option (Nat×Nat)
abbrev ube:=Value->(Nat->Prop)->aH->Prop
abbrev ubf:=List Oper
abbrev ubg:=Nat->Bool
abbrev ubh:=TypeId->Prop
abbrev ubi:=Nat->aH->Prop
abbrev ubj:=Option Nat
abbrev ubk:=Nat->Value->Act->aH->Prop
abbrev ubl:=Array Bool->Act->aH->Prop
abbrev ubm:=List Event
abbrev ubn:=Goroutine->Goroutine
abbrev ubo:=Nat×Nat
abbrev ubp:=Nat->Nat->aH->Value->Prop
abbrev ubq:=aH->Value->aH->Prop
abbrev ubr:=Nat×Obj
abbrev ubs:=List Bool
abbrev ubt:=Value×Nat
abbrev ubu:=Int×Int
abbrev _root_.Go.Value.P(b o:Nat):Go.Value:=.pointer (some (.a b o))
abbrev _root_.Go.Value.S(b o l c:Nat):Go.Value:=.slice (some (.a b o)) l c
abbrev _root_.Go.Value.N:Go.Value:=.slice none 0 0
abbrev _root_.Go.Value.I(n:Int):Go.Value:=.int .i64 n
abbrev _root_.Go.Value.T:Go.Value:=.bool true
abbrev _root_.Go.Value.F:Go.Value:=.bool false
abbrev _root_.Go.Value.E:Go.Value:=.string ⟨#[]⟩
abbrev _root_.Go.World.hs(w:Go.World):Nat:=w.heap.size
namespace av
structure Ren where
 rel:Nat->Nat->Prop
 mine:Nat->Prop
def dq(ρ:Ren)(a a':Addr):Prop:=ρ.rel a.block a'.block/\a.off=a'.off/\a.spot=a'.spot
inductive sQ(ρ:Ren):Fn->Fn->Prop
 |func (f:ual):sQ ρ (.func f) (.func f)
 |yield {l l':Nat} (h:ρ.rel l l'):sQ ρ (.yield l) (.yield l')
inductive ap(ρ:Ren):Value->Value->Prop
 |bool (b:Bool):ap ρ (.bool b) (.bool b)
 |int (k:IntKind) (n:Int):ap ρ (.int k n) (.int k n)
 |string (s:ByteArray):ap ρ (.string s) (.string s)
 |lg:ap ρ (.pointer none) (.pointer none)
 |ptr {a a':Addr} (h:dq ρ a a'):ap ρ (.pointer (some a)) (.pointer (some a'))
 |h7 (l c:Nat):ap ρ (.slice none l c) (.slice none l c)
 |slice {a a':Addr} (l c:Nat) (h:dq ρ a a'):ap ρ (.slice (some a) l c) (.slice (some a') l c)
 |pe:ap ρ (.map none) (.map none)
 |map {r r':Nat} (h:ρ.rel r r'):ap ρ (.map (some r)) (.map (some r'))
 |pf:ap ρ (.chan none) (.chan none)
 |func {fn lK:Fn} {a a' b b':dC} (h:sQ ρ fn lK) (ha:a.size=a'.size) (hb:b.size=b'.size)
  (h1:∀(i:Nat)(v v':Value),a[i]?=some v->a'[i]?=some v'->ap ρ v v') (h2:∀(i:Nat)(v v':Value),b[i]?=some v->b'[i]?=some v'->ap ρ v v'):ap ρ (.func fn a b) (.func lK a' b')
 |nilFunc:ap ρ .nilFunc .nilFunc
 |iface (t:uaa) {v v':Value} (h:ap ρ v v'):ap ρ (.iface t v) (.iface t v')
 |nilIface:ap ρ .nilIface .nilIface
 |agg {a a':dC} (hs:a.size=a'.size) (h:∀(i:Nat)(v v':Value),a[i]?=some v->a'[i]?=some v'->ap ρ v v'):ap ρ (.agg a) (.agg a')
 |tuple {a a':dC} (hs:a.size=a'.size) (h:∀(i:Nat)(v v':Value),a[i]?=some v->a'[i]?=some v'->ap ρ v v'):ap ρ (.tuple a) (.tuple a')
structure aL(ρ:Ren)(a a':dC):Prop where
 size:a.size=a'.size
 get:∀(i:Nat)(v v':Value),a[i]?=some v->a'[i]?=some v'->ap ρ v v'
def Ren.le(ρ σ:Ren):Prop:=(∀b b',ρ.rel b b'->σ.rel b b')/\∀b,ρ.mine b->σ.mine b
def Ren.le_refl(ρ:Ren):Ren.le ρ ρ:=⟨λ_ _ h=>h,λ_ h=>h⟩
variable{ρ σ:Ren}
theorem Ren.le_trans{aU:Ren}(h:Ren.le ρ σ)(k:Ren.le σ aU):Ren.le ρ aU:=⟨λb b' x=>k.1 b b' (h.1 b b' x),λb x=>k.2 b (h.2 b x)⟩
theorem dq.mono(b:Ren.le ρ σ){a a':Addr}(h:dq ρ a a'):dq σ a a':=⟨b.1 _ _ h.1,h.2⟩
theorem sQ.mono(b:Ren.le ρ σ){a a':Fn}(h:sQ ρ a a'):sQ σ a a':=by cases h with|yield h=>exact .yield (b.1 _ _ h)|func f=>exact .func f
variable{v v':Value}
theorem ap.mono(d:Ren.le ρ σ)(h:ap ρ v v'):ap σ v v':=by induction h with|bool b=>exact .bool b|int k n=>exact .int k n|string s=>exact .string s|lg=>exact .lg|ptr h=>exact .ptr (h.mono d)|h7 l c=>exact .h7 l c|slice l c h=>exact .slice l c (h.mono d)|pe=>exact .pe|map h=>exact .map (d.1 _ _ h)|pf=>exact .pf|func h i g _ _ f e=>exact .func (h.mono d) i g f e|nilFunc=>exact .nilFunc|iface t _ a=>exact .iface t a|nilIface=>exact .nilIface|agg hs _ a=>exact .agg hs a|tuple hs _ a=>exact .tuple hs a
variable{a a':dC}
theorem aL.mono(b:Ren.le ρ σ)(h:aL ρ a a'):aL σ a a':=⟨h.size,λi v v' x y=>(h.get i v v' x y).mono b⟩
theorem aL.nil(ρ:Ren):aL ρ #[] #[]:=⟨U,λi v v' h=>AN⟩
theorem aL.one(h:ap ρ v v'):aL ρ #[v] #[v']:=⟨U,λi x c a b=>by
 grind⟩
theorem aL.some{ρ:Ren}{a a':dC}(h:aL ρ a a'){i:Nat}{v:Value}(hv:a[i]?=Option.some v):∃v',a'[i]?=Option.some v'/\ap ρ v v':=by
 have hi:i<a.size:=by grind
 have b:i<a'.size:=h.size▸hi;exact⟨a'[i],AN,h.get i v _ hv AN⟩
theorem aL.none(h:aL ρ a a'){i:Nat}(hv:a[i]?=Option.none):a'[i]?=Option.none:=by rw[Array.getElem?_eq_none_iff]at hv⊢;rw[<-h.size];exact hv
variable{b b':dC}
theorem aL.append(h:aL ρ a a')(k:aL ρ b b'):aL ρ (a++b) (a'++b'):=by
 refine⟨by simp[h.size,k.size],λi v v' x y=>?_⟩;rw[Array.getElem?_append]at x y;rw[<-h.size]at y;split at x
 .rename_i hi;rw[vdi hi]at y;exact h.get i v v' x y
 .rename_i hi;rw[vcy hi]at y;exact k.get _ v v' x y
theorem aL.push(h:aL ρ a a')(k:ap ρ v v'):aL ρ (a.push v) (a'.push v'):=by have e:∀(x:dC)(y:Value),x.push y=x++#[y]:=λx y=>Ab;rw[e,e];exact h.append (.one k)
def aL.set(h:aL ρ a a')(k:ap ρ v v')(i:Nat):aL ρ (a.setIfInBounds i v) (a'.setIfInBounds i v'):=by
 refine⟨by simp[h.size],λj x d c b=>?_⟩;rw[vaq]at c b;rw[<-h.size]at b;by_cases e:i=j
 .grind
 .rw[vcy e]at c b;exact h.get j x d c b
theorem aL.extract(h:aL ρ a a')(s e:Nat):aL ρ (a.extract s e) (a'.extract s e):=by
 refine⟨by simp[h.size],λi v v' x y=>?_⟩;rw[Array.getElem?_extract]at x y;rw[<-h.size]at y;split at x
 .rename_i hi;rw[vdi hi]at y;exact h.get _ v v' x y
 grind
theorem aL.getD(h:aL ρ a a'){d b:Value}(hd:ap ρ d b)(i:Nat):ap ρ (a.getD i d) (a'.getD i b):=by rw[vcr,vcr];grind[none,some]
theorem ap.undef(ρ:Ren):ap ρ undef undef:=.tuple U λi v v' h=>by grind
def ap.qU(h:aL ρ a a'):ap ρ (.agg a) (.agg a'):=.agg h.size h.get
def ap.A2(h:aL ρ a a'):ap ρ (.tuple a) (.tuple a'):=.tuple h.size h.get
def ap.Hh{fn c:Fn}(d:sQ ρ fn c)(h:aL ρ a a')(k:aL ρ b b'):ap ρ (.func fn a b) (.func c a' b'):=.func d h.size k.size h.get k.get
theorem ap.cells{ρ:Ren}{v v':Value}(h:ap ρ v v'):aL ρ v.cells v'.cells:=by cases h with|agg hs h=>exact⟨hs,h⟩|bool b=>exact .one (.bool b)|int k n=>exact .one (.int k n)|string s=>exact .one (.string s)|lg=>exact .one .lg|ptr h=>exact .one (.ptr h)|h7 l c=>exact .one (.h7 l c)|slice l c h=>exact .one (.slice l c h)|pe=>exact .one .pe|map h=>exact .one (.map h)|pf=>exact .one .pf|func h d a f e=>exact .one (.func h d a f e)|nilFunc=>exact .one .nilFunc|iface t h=>exact .one (.iface t h)|nilIface=>exact .one .nilIface|tuple hs h=>exact .one (.tuple hs h)
inductive iU:Value->Prop
 |bool (b:Bool):iU (.bool b)
 |int (k:IntKind) (n:Int):iU (.int k n)
 |string (s:ByteArray):iU (.string s)
 |lg:iU (.pointer none)
 |h7 (l c:Nat):iU (.slice none l c)
 |pe:iU (.map none)
 |pf:iU (.chan none)
 |nilFunc:iU .nilFunc
 |func (f:ual):iU (.func (.func f) #[] #[])
 |nilIface:iU .nilIface
 |iface (t:uaa) {v:Value} (h:iU v):iU (.iface t v)
 |agg {a:dC} (h:∀(i:Nat)(v:Value),a[i]?=some v->iU v):iU (.agg a)
 |tuple {a:dC} (h:∀(i:Nat)(v:Value),a[i]?=some v->iU v):iU (.tuple a)
def iU.rel(h:iU v)(ρ:Ren):ap ρ v v:=by induction h with|bool b=>exact .bool b|int k n=>exact .int k n|string s=>exact .string s|lg=>exact .lg|h7 l c=>exact .h7 l c|pe=>exact .pe|pf=>exact .pf|nilFunc=>exact .nilFunc|func f=>exact .Hh (.func f) (.nil ρ) (.nil ρ)|nilIface=>exact .nilIface|iface t _ a=>exact .iface t a|agg _ a=>exact .agg U λi v v' x y=>AN|tuple _ a=>exact .tuple U λi v v' x y=>AN
def kl(a:dC):Prop:=∀(i:Nat)(v:Value),a[i]?=some v->iU v
theorem kl.rel(h:kl a)(ρ:Ren):aL ρ a a:=⟨U,λi v v' x y=>by rw[x]at y;cases y;exact(h i v x).rel ρ⟩
theorem iU.cells{v:Value}(h:iU v):kl v.cells:=by
 have one:∀{v:Value},iU v->v.cells=#[v]->kl v.cells:=λ{v} hv e i x a=>by grind
 cases h with|agg h=>exact h|bool b=>exact one (.bool b) U|int k n=>exact one (.int k n) U|string s=>exact one (.string s) U|lg=>exact one .lg U|h7 l c=>exact one (.h7 l c) U|pe=>exact one .pe U|pf=>exact one .pf U|nilFunc=>exact one .nilFunc U|func f=>exact one (.func f) U|nilIface=>exact one .nilIface U|iface t h=>exact one (.iface t h) U|tuple h=>exact one (.tuple h) U
def kU{ao:Type}:Result ao->aH
 | .ok _ w=>w
 | .halt _ w=>w
section
variable{ao:Type}
def afO:∀(k:Ask ao)(w:aH),w.drawn<=(w.ask k).2.drawn/\(w.ask k).2.heap=w.heap/\(w.ask k).2.tape=w.tape:=by intro k;induction k with|done a=>intro w;exact⟨vad _,U,U⟩|ask what range k b=>intro w;simp only[World.ask];grind
theorem afP(w:aH)(c:Sys):w.drawn<=(w.sys c).2.drawn/\(w.sys c).2.tape=w.tape:=by unfold World.sys;have:=afO (Kernel.perform c w.os) w;grind
theorem afQ{P:ck}{w w2:aH}{a:Addr}{b:Bool}{l:List Addr}(h:w.farStore P a v b=.ok (w2,l)):w2.drawn=w.drawn/\w2.tape=w.tape:=by
 unfold World.farStore at h;split at h
 .split at h
  .rename_i r c;cases h;unfold World.viewStore at c;simp only[bind,Except.bind,pure,Except.pure]at c;repeat' (split at c)
   all_goals first
    |cases c;done
    |grind
  grind
 grind
def A3(P:ck):∀(m:Sem ao)(w:aH),w.drawn<=(kU (m.run P w)).drawn/\(kU (m.run P w)).tape=w.tape:=by
 intro m;induction m with
 |pure a=>intro w;exact⟨vad _,U⟩
 |load md a k b=>intro w;simp only[Sem.run];cases w.cell? a with|some v=>grind|none=>simp only[];cases w.farLoad P a (md== .atomic)with|ok r=>grind|error h=>exact⟨vad _,U⟩
 |store md a v k b=>
  intro w;have gen:w.drawn<=(kU (match w.cell? a with
   |some _=>if w.frozen? a then .halt (.unsupported (.unsafePointer "a write to bytes that a string shares")) w else k.run P (w.setCell a v)
   |none=>match w.farStore P a v (md== .atomic)with
    | .ok (w,_)=>k.run P w
    | .error h=>.halt h w)).drawn/\(kU (match w.cell? a with
   |some _=>if w.frozen? a then .halt (.unsupported (.unsafePointer "a write to bytes that a string shares")) w else k.run P (w.setCell a v)
   |none=>match w.farStore P a v (md== .atomic)with
    | .ok (w,_)=>k.run P w
    | .error h=>.halt h w)).tape=w.tape:=by
   cases w.cell? a with
   |some x=>
    simp only[];split
    .exact⟨vad _,U⟩
    .exact b (w.setCell a v)
   |none=>simp only[];cases f:w.farStore P a v (md== .atomic)with|error h=>exact⟨vad _,U⟩|ok r=>grind[afQ]
  cases v<;>first|exact⟨vad _,U⟩|exact gen
 |new o k b=>intro w;exact b _ {w with heap:=w.heap.push o}
 |shape r k b=>intro w;exact b _ w
 |freeze a n k b=>
  intro w;have e:(w.freeze a n).drawn=w.drawn/\(w.freeze a n).tape=w.tape:=by unfold World.freeze;grind
  have d:=b (w.freeze a n);exact⟨e.1▸d.1,d.2.trans e.2⟩
 |frozen a k b=>intro w;exact b _ w
 |getObj r k b=>
  intro w;simp only[Sem.run];split
  .exact⟨vad _,U⟩
  .grind
  .exact⟨vad _,U⟩
 |setObj r o k b=>
  intro w;simp only[Sem.run];split
  .exact⟨vad _,U⟩
  .grind
  .exact⟨vad _,U⟩
 |choose q k b=>intro w;simp only[Sem.run];grind
 |sys c k b=>grind[afP,Sem.run]
 |program k b=>intro w;exact b _ w
 |mark m k b=>intro w;exact b w
 |halt h=>intro w;exact⟨vad _,U⟩
end
def iF:GStep->aH
 | .go _ w _ | .comm _ _ _ _ w _ | .spawn _ _ w _ | .count _ w _ | .timer _ _ w _ | .alone _ _ w _ | .newcoro _ _ _ w _ | .coroswitch _ _ _ w _ | .collect _ w _ | .watch _ w _ | .ended _ w _=>w
@[simp] theorem zF (es:uav) (s:GStep):iF (GStep.after es s)=iF s:=by cases s<;>rfl
theorem V0(P:ck)(m:Bool)(fr:Frame)(cs:fA)(d:Option Dying)(v:Value)(w:aH):iF (doReturn P m fr cs d v w)=w:=by
 unfold doReturn;cases cs with
 |cons c cs=>simp only[];split<;>rfl
 |nil=>
  simp only[];split
  .rfl
  .rfl
  .split
   .rfl
   .split<;>rfl
def O9{ao:Type}{P:ck}{m:Sem ao}{w:aH}{r:Result ao}(h:m.run P w=r):w.drawn<=(kU r).drawn:=h▸(A3 P m w).1
def V1(P:ck)(fr:Frame)(cs:fA)(d:Option Dying)(m:String)(w:aH):w.drawn<=(iF (endFatal P fr cs d m w)).drawn:=by
 unfold endFatal;simp only[];split
 .rename_i a;exact O9 a
 .rename_i a;exact O9 a
 .rename_i a;exact O9 a
def ahk(P:ck)(fr:Frame)(cs:fA)(d:Option Dying)(g:Nat)(w:aH):w.drawn<=(iF (early P fr cs d g w)).drawn:=by
 unfold early;have notYet:∀w2:aH,(iF (match w2.heap[g]? with
  |some (.pending c elem)=>GStep.go {frame:=fr,callers:=cs,status:=.running,dying:=d} {w2 with heap:=w2.heap.setIfInBounds g (.cells c elem)}
  | _=>.ended (.stuck "early: the variable does not wait" (fr.pos P)) w2)).drawn=w2.drawn:=by
  intro w2;split<;>rfl
 simp only[];have dU:∀{s:GStep}{w2:aH},(iF s).drawn=w2.drawn->w.drawn<=w2.drawn->w.drawn<=(iF s).drawn:=λe h=>AN;have same:∀{s:GStep},(iF s).drawn=w.drawn->w.drawn<=(iF s).drawn:=λe=>AN;split
 .grind
 split
 .exact vad _
 rename_i f _;split
 .grind
 split
 .grind
 split
 .exact vad _
 .exact vad _
 .exact vad _
 .grind
 .split
  .exact vad _
  split
  .grind
  split
  .rename_i w2 a;have:=A3 P (choose (.early g)) w;rw[a]at this;exact dU (notYet w2) this.1
  .rename_i w2 _ a;have:=A3 P (choose (.early g)) w;rw[a]at this;exact this.1
  .rename_i w2 a;have:=A3 P (choose (.early g)) w;rw[a]at this;exact this.1
def Ez(P:ck)(fr:Frame)(cs:fA)(d:Option Dying)(s:Sem Next)(w:aH):(kU (s.run P w)).drawn<=(iF (stepG.apply P true fr cs d s w)).drawn:=by
 unfold stepG.apply;simp only[Sem.runT_eq,vbx,zF];cases s.run P w with
 |ok f w2=>
  cases f with
  |callThen a b c e=>simp only[kU];split<;>exact vad _
  |row a b=>simp only[kU];split<;>exact vad _
  |stack a b=>simp only[kU];split<;>exact vad _
  |recover=>simp only[kU];split<;>exact vad _
  |spawn x=>simp only[kU];repeat' first|exact vad _ |split
  | _=>exact vad _
 |halt x w2=>
  cases x with
  |fatal m=>exact V1 P fr cs d m w2
  |unsupported u=>cases u with|initOrder g=>exact ahk P fr cs d g w2| _=>exact vad _
  | _=>exact vad _
def V2(P:ck)(fr:Frame)(cs:fA)(d:Option Dying)(x:Deferred)(w:aH):((x.target matches .nil)&&(fr.mode matches .panicking _))=true\/(kU ((invoke x.target x.args).run P w)).drawn<=(iF (callDeferred P fr cs d x w)).drawn:=by
 have key:∀{c:Prop}[Decidable c]{a b:GStep}{n:Nat},(¬c->n<=(iF b).drawn)->c\/n<=(iF (if c then a else b)).drawn:=by grind
 unfold callDeferred;simp only[Sem.runT_eq];refine key λ_=>?_;simp only[zF];cases(invoke x.target x.args).run P w with
 |ok f w2=>cases f with|recover=>simp only[kU];split<;>exact vad _|alone on v=>cases on<;>exact vad _|coroswitch c e=>cases e<;>exact vad _| _=>exact vad _
 |halt y w2=>cases y with|fatal m=>exact V1 P fr cs d m w2| _=>exact vad _
end av
namespace bn
open Conc ConcN
def eT:Loc->Option Nat
 | .cell a=>some a.block
 | .obj r=>some r
 | _=>none
structure j6 where
 n:Nat
 base:Nat
 size:Nat
 K:Nat->Prop
 mine:Nat->Nat->Prop
 g6:Loc->Prop
 eU:Loc->Prop
 tok:Option Nat
 mu:Addr
 wg:Addr
 past:Nat->Prop
def j6.bc(p:j6)(j:Nat):Prop:=j<p.n/\(j=0\/p.base<=j)
def EJ(t:Trace)(a:Addr)(i:Nat):Prop:=∃q,t.act? q=some (.mark (.releaseMerge a))/\t.heard q/\Before t i q
variable{i:Nat}
theorem EJ.app{t:Trace}{a:Addr}(h:EJ t a i)(u:Trace):EJ (t++u) a i:=
 let⟨q,d,c,b⟩:=h
 ⟨q,by grind[act?_old,lt_of_act?],(heard_old (lt_of_act? d)).2 c,b.app u⟩
def Wu(p:j6)(l:Loc):Prop:=¬p.g6 l/\∀b,eT l=some b->¬p.K b/\∀j,¬p.mine j b
structure eh(p:j6)(t:Trace):Prop where
 nO:∀i a,touchAt t i=some a->a.loc.isMemory=true->a.kind=.atomic->p.eU a.loc\/Wu p a.loc
 gs:∀(i:Nat)(op:MemOp),t[i]?=some op->op.g<p.n
 low:∀i a b,touchAt t i=some a->eT a.loc=some b->b<p.size
 still:∀i a b,touchAt t i=some a->a.write=true->eT a.loc=some b->p.K b->∀j,p.bc j->Knows t j i
 own:∀j i a b,p.bc j->touchAt t i=some a->eT a.loc=some b->p.mine j b->Knows t j i
 s3:∀j,p.tok=some j->p.bc j/\∀i a,touchAt t i=some a->p.g6 a.loc->Knows t j i
 Bn:p.tok=none->∀i a,touchAt t i=some a->p.g6 a.loc->(∀j,p.bc j->Knows t j i)\/EJ t p.mu i
 eU:∀i a,touchAt t i=some a->p.eU a.loc->a.kind=.atomic\/(a.kind=.said/\Knows t 0 i)\/∀j,p.bc j->Knows t j i
 p_:∀i a,t.act? i≠some (.mark (.release a))
 xA:∀said,¬Race said t
 past:∀i j,t.g? i=some j->p.past j->t.counts i->Knows t 0 i\/EJ t p.wg i
structure Pw(p:j6):Prop where
 own:∀j k b,p.mine j b->p.mine k b->j=k
 Wv:∀j b,p.mine j b->¬p.K b
 EK:∀l b j,p.g6 l->eT l=some b->¬p.mine j b/\¬p.K b
 EL:∀l b j,p.eU l->eT l=some b->¬p.mine j b/\¬p.K b
 s4:∀l,p.g6 l->¬p.eU l
 low:∀j b,p.mine j b->b<p.size
 aix:∀b,p.K b->b<p.size
 Px:∀l b,p.g6 l\/p.eU l->eT l=some b->b<p.size
def zM:Mark->Prop
 | .disable| .enable| .noRoom| .extern _=>True
 | _=>False
def La(p:j6)(j:Nat)(d:Nat)(e:Event):Prop:=
 match e.loc with
 | .cell a=>(e.sync=false/\((p.K a.block/\e.write=false)\/p.mine j a.block\/(p.g6 (.cell a)/\p.tok=some j))/\¬p.past j)\/(e.sync=true/\p.eU (.cell a)/\0<d)
 | .obj r=>e.sync=false/\((p.K r/\e.write=false)\/p.mine j r)/\¬p.past j
 | .mark m=>zM m\/(j=0/\∃a,p.eU (.cell a)/\(m=.read a\/m=.write a))
 | .output=>True
 | .goroutines=>False
def zN(d:Nat)(e:Event):Nat:=deafBehind d #[e]
def Py(p:j6)(j:Nat):Nat->List Event->Prop
 | _,[]=>True
 |d,e::l=>La p j d e/\Py p j (zN d e) l
variable{d j:Nat}{e:Event}{y:MemOp}
section
variable{p:j6}{t:Trace}
def aiy{l:Loc}(h:l.isMemory=true):∃b,eT l=some b:=by cases l<;>simp[Loc.isMemory]at h<;>exact⟨_,U⟩
def aiz(h:La p j d e){x:Touch}(c:(MemAct.ofEvent e).touch?=some x)(n:x.loc.isMemory=true):
 ∃b,eT x.loc=some b/\((x.kind=.plain/\((p.K b/\x.write=false)\/p.mine j b\/(p.g6 x.loc/\p.tok=some j))/\¬p.past j)\/(x.kind=.atomic/\p.eU x.loc/\0<d)\/(x.kind=.said/\p.eU x.loc/\j=0)):=by
 obtain⟨loc,wr,g⟩:=e;cases loc with
 |cell a=>
  have l:x=⟨.cell a,wr,if g then .atomic else .plain⟩:=by grind[MemAct.ofEvent,MemAct.touch?]
  subst l;refine⟨a.block,U,?_⟩;rcases h with⟨f,k,i⟩|⟨f,k,i⟩
  .grind
  grind
 |obj r=>
  obtain⟨f,k,i⟩:=h;simp only at f;subst f;have:(MemAct.ofEvent ⟨.obj r,wr,false⟩)=.access ⟨.obj r,wr,false⟩:=by cases wr<;>rfl
  rw[this]at c;simp only[MemAct.touch?,vbk]at c;subst c;exact⟨r,U,AN⟩
 |output=>grind[MemAct.ofEvent,MemAct.touch?,Loc.isMemory]
 |goroutines=>exact h.elim
 |mark m=>
  have:(MemAct.ofEvent ⟨.mark m,wr,g⟩)=.mark m:=by cases wr<;>cases g<;>rfl
  rw[this]at c;rcases h with h|⟨h0,a,hs,rfl|rfl⟩
  .cases m<;>simp[zM]at h<;>simp[MemAct.touch?]at c
  .simp[MemAct.touch?]at c;subst c;exact⟨a.block,U,AN⟩
  .simp[MemAct.touch?]at c;subst c;exact⟨a.block,U,AN⟩
theorem aiA(h:La p j d e)(a:Addr):MemAct.ofEvent e≠ .mark (.release a):=by
 obtain⟨loc,wr,b⟩:=e;cases loc with
 |mark m=>
  have:(MemAct.ofEvent ⟨.mark m,wr,b⟩)=.mark m:=by cases wr<;>cases b<;>rfl
  rw[this];rcases h with h|⟨_,_,_,rfl|rfl⟩
  .grind[zM]
  .simp
  .simp
 | _=>cases wr<;>cases b<;>simp[MemAct.ofEvent]
def HK(t:Trace)(y:MemOp):(t++#[y])[t.size]?=some y:=by simp
theorem zO{a:Touch}(h:touchAt (t++#[y]) i=some a):touchAt t i=some a\/(i=t.size/\y.act.touch?=some a):=by obtain⟨z,c,b⟩:=touch_of h;grind[touchAt_of]
structure Lb(p:j6):Prop where
 g6:∀l,p.g6 l->l.isMemory=true
 eU:∀l,p.eU l->l.isMemory=true
def EM{l:Loc}{b:Nat}(h:eT l=some b):l.isMemory=true:=by cases l<;>simp[eT]at h<;>rfl
def eh.push(A:Pw p)(P:Lb p)(h:eh p t)(v:p.bc j)(S:La p j (Deaf t j) e)(fn:ual)(pos:String):eh p (t++#[{g:=j,fn,pos,act:=.ofEvent e}]):=by
 generalize Z:({g:=j,fn,pos,act:=.ofEvent e}:MemOp)=y;have hg:y.g=j:=AN;have ha:y.act=.ofEvent e:=AN;have Y:Knows (t++#[y]) j t.size:=⟨t.size,y,HK t y,hg,.inl rfl⟩;have new:∀{a:Touch},y.act.touch?=some a->a.loc.isMemory=true->∃b,eT a.loc=some b/\((a.kind=.plain/\((p.K b/\a.write=false)\/p.mine j b\/(p.g6 a.loc/\p.tok=some j))/\¬p.past j)\/(a.kind=.atomic/\p.eU a.loc/\0<Deaf t j)\/(a.kind=.said/\p.eU a.loc/\j=0)):=
  λc m=>aiz S AN m
 refine⟨λi a c L V=>?_,λi op hi=>?_,λi a b c d=>?_,λi a b c E d hK k hk=>?_,λk i a b hk c d m=>?_,λk hk=>⟨(h.s3 k hk).1,λi a c l=>?_⟩,λhk i a c l=>?_,λi a c hs=>?_,λi a O=>?_,λsaid=>?_,λi k hk Q f=>?_⟩
 .rcases zO c with c|⟨_,c⟩
  .exact h.nO i a c L V
  grind
 .rcases getElem?_append_cases hi with⟨_,M⟩|⟨_,I⟩
  .exact h.gs i op M
  .simp at I;subst I;rw[hg];exact v.1
 .rcases zO c with c|⟨_,c⟩
  .exact h.low i a b c d
  .obtain⟨b',F,f⟩:=new c (EM d);obtain rfl:b=b':=AN;rcases f with⟨_,⟨hK,_⟩|m|⟨l,_⟩,_⟩|⟨_,hs,_⟩|⟨_,hs,_⟩
   .exact A.aix b hK
   .exact A.low j b m
   .exact A.Px a.loc b (.inl l) d
   .exact A.Px a.loc b (.inr hs) d
   .exact A.Px a.loc b (.inr hs) d
 .rcases zO c with c|⟨_,c⟩
  .exact(h.still i a b c E d hK k hk).app _
  .exfalso;obtain⟨b',F,f⟩:=new c (EM d);obtain rfl:b=b':=AN;rcases f with⟨_,⟨_,N⟩|m|⟨l,_⟩,_⟩|⟨_,hs,_⟩|⟨_,hs,_⟩
   .grind
   .exact A.Wv j b m hK
   .exact(A.EK a.loc b 0 l d).2 hK
   .exact(A.EL a.loc b 0 hs d).2 hK
   .exact(A.EL a.loc b 0 hs d).2 hK
 .rcases zO c with c|⟨rfl,o⟩
  .exact(h.own k i a b hk c d m).app _
  .obtain⟨b',F,f⟩:=new o (EM d);obtain rfl:b=b':=AN;rcases f with⟨_,⟨hK,_⟩|n|⟨l,_⟩,_⟩|⟨_,hs,_⟩|⟨_,hs,_⟩
   .exact absurd hK (A.Wv k b m)
   .rw[A.own k j b m n];grind
   .exact absurd m (A.EK a.loc b k l d).1
   .exact absurd m (A.EL a.loc b k hs d).1
   .exact absurd m (A.EL a.loc b k hs d).1
 .rcases zO c with c|⟨rfl,o⟩
  .exact((h.s3 k hk).2 i a c l).app _
  .obtain⟨b,d,f⟩:=new o (P.g6 _ l);rcases f with⟨_,⟨hK,_⟩|n|⟨_,ht⟩,_⟩|⟨_,hs,_⟩|⟨_,hs,_⟩
   .exact absurd hK (A.EK a.loc b 0 l d).2
   .exact absurd n (A.EK a.loc b j l d).1
   .grind
   .exact absurd hs (A.s4 _ l)
   .exact absurd hs (A.s4 _ l)
 .rcases zO c with c|⟨rfl,o⟩
  .exact(h.Bn hk i a c l).imp Jg (λx=>x.app _)
  .exfalso;obtain⟨b,d,f⟩:=new o (P.g6 _ l);rcases f with⟨_,⟨hK,_⟩|n|⟨_,ht⟩,_⟩|⟨_,hs,_⟩|⟨_,hs,_⟩
   .exact absurd hK (A.EK a.loc b 0 l d).2
   .exact absurd n (A.EK a.loc b j l d).1
   .grind
   .exact absurd hs (A.s4 _ l)
   .exact absurd hs (A.s4 _ l)
 .rcases zO c with c|⟨rfl,o⟩
  .exact(h.eU i a c hs).imp id (λx=>x.imp (λy=>⟨y.1,y.2.app _⟩) Jg)
  .obtain⟨b,d,f⟩:=new o (P.eU _ hs);rcases f with⟨_,⟨hK,_⟩|n|⟨l,_⟩,_⟩|⟨hk,_,_⟩|⟨hk,_,h0⟩
   .exact absurd hK (A.EL a.loc b 0 hs d).2
   .exact absurd n (A.EL a.loc b j hs d).1
   .exact absurd hs (A.s4 _ l)
   .grind
   grind
 .obtain⟨op,R,J⟩:=vaj.1 O;rcases getElem?_append_cases R with⟨_,U⟩|⟨_,Ww⟩
  .exact h.p_ i a (by rw[act?_of U,J])
  grind[aiA]
 .refine noRace_append (g:=j) (h.xA said) AN (λi x c op s b d f=>?_);simp at s;subst s;have m:b.loc.isMemory=true:=by rw[<-f.1];exact f.2.1
  obtain⟨u,X,q⟩:=new d m;have H:eT x.loc=some u:=by rw[f.1];grind
  rcases q with⟨_,⟨hK,E⟩|n|⟨l,ht⟩,_⟩|⟨hk,hs,_⟩|⟨hk,hs,h0⟩
  .exact h.still i x u c (f.2.2.1.resolve_right AN) H hK j v
  .exact h.own j i x u v c H n
  .exact(h.s3 j ht).2 i x c (by rw[f.1];grind)
  .rcases h.eU i x c (by rw[f.1];exact hs)with r|⟨r,_⟩|r
   .exfalso;rcases f.2.2.2 with e|e|⟨_,e,_⟩
    .grind
    .grind
    grind
   .exfalso;rcases f.2.2.2 with e|e|⟨_,_,e⟩
    .grind
    .grind
    grind
   grind
  .rcases h.eU i x c (by rw[f.1];exact hs)with r|⟨_,r⟩|r
   .exfalso;rcases f.2.2.2 with e|e|⟨_,e,_⟩
    .grind
    .grind
    grind
   .grind
   grind
 .by_cases hi:i<t.size
  .have D:t.g? i=some k:=by grind[g?_old]
   have w:t.counts i:=by obtain⟨x,C,B,z⟩:=f;exact⟨x,by grind[act?_old],B,z.imp id (λe=>(heard_old hi).1 e)⟩
   exact(h.past i k D Q w).imp JF JF
  .have W:i=t.size:=by grind[Trace.g?]
   subst W;have r:k=j:=HH;subst r;obtain⟨x,C,B,z⟩:=f;rw[act?_of (HK t y)]at C;obtain⟨b,d,q⟩:=new C B;rcases q with⟨_,_,K2⟩|⟨hk,_,hd⟩|⟨_,_,h0⟩
   .grind
   .exfalso;rcases z with e|⟨g,K,T⟩
    .grind
    .simp[Trace.g?]at K;rw[deaf_old IB]at T;grind[Deaf]
   grind
theorem aiC(t:Trace)(j:Nat)(fn:ual)(pos:String)(e:Event):Deaf (t++#[{g:=j,fn,pos,act:=.ofEvent e}]) j=zN (Deaf t j) e:=by have:=Deaf_own t j fn pos #[e];grind[ofEvents_eq,zN]
theorem eh.step(A:Pw p)(P:Lb p){j:Nat}(a:p.bc j)(fn:ual)(pos:String):∀(l:ubm){t:Trace},eh p t->Py p j (Deaf t j) l->eh p (t++MemOp.ofEvents j fn pos l.toArray)
 | [],t,h,_=>by grind[ofEvents_eq]
 |e::l,t,h,⟨b,c⟩=>by have:=eh.step A P a fn pos l (h.push A P a b fn pos) (by grind[aiC]);grind[ofEvents_eq]
def eh.grow(h:eh p t){size:Nat}(hs:p.size<=size){mine:Nat->Nat->Prop}(g:∀j b,mine j b->p.mine j b\/p.size<=b):eh {p with size:=size,mine:=mine} t:=
 ⟨λi a d k l=>(h.nO i a d k l).imp id λhn=>⟨hn.1,λb c=>⟨(hn.2 b c).1,λj f=>(g j b f).elim ((hn.2 b c).2 j) (λe=>absurd (h.low i a b d c) AY)⟩⟩,h.gs,λi a b d c=>van (h.low i a b d c) hs,h.still,λj i a b f d c m=>(g j b m).elim (λe=>h.own j i a b f d c e) (λe=>absurd (h.low i a b d c) AY),h.s3,h.Bn,h.eU,h.p_,h.xA,h.past⟩
end
section
section
variable{p:j6}{t:Trace}
def wl(hn:y.act.touch?=none){a:Touch}(h:touchAt (t++#[y]) i=some a):touchAt t i=some a:=by grind[zO]
def Pz(hn:y.act.touch?=none)(hg:(t++#[y]).g? i=some j)(c:(t++#[y]).counts i):i<t.size/\t.g? i=some j/\t.counts i:=by obtain⟨x,g,f,d⟩:=c;have b:touchAt t i=some x:=wl hn g;obtain⟨z,a,_⟩:=touch_of b;have hi:=lt_size_of_getElem? a;exact⟨hi,by grind[g?_old],x,by grind[act?_old],f,d.imp id (λe=>(heard_old hi).1 e)⟩
theorem eh.word(h:eh p t)(hg:y.g<p.n)(hn:y.act.touch?=none)(C:∀a,y.act≠ .mark (.release a)):eh p (t++#[y]):=by
 refine⟨λi a c n B=>h.nO i a (wl hn c) n B,λi op hi=>?_,λi a b c d=>h.low i a b (wl hn c) d,λi a b c q d hK k hk=>(h.still i a b (wl hn c) q d hK k hk).app _,λk i a b hk c d v=>(h.own k i a b hk (wl hn c) d v).app _,
  λk hk=>⟨(h.s3 k hk).1,λi a c f=>((h.s3 k hk).2 i a (wl hn c) f).app _⟩,λhk i a c f=>(h.Bn hk i a (wl hn c) f).imp Jg (λx=>x.app _),
  λi a c hs=>(h.eU i a (wl hn c) hs).imp id (λx=>x.imp (λy=>⟨y.1,y.2.app _⟩) Jg),λi a m=>?_,λsaid=>?_,λi k hk r j=>?_⟩
 .rcases getElem?_append_cases hi with⟨_,o⟩|⟨_,E⟩
  .exact h.gs i op o
  grind
 .obtain⟨op,u,l⟩:=vaj.1 m;rcases getElem?_append_cases u with⟨_,A⟩|⟨_,D⟩
  .exact h.p_ i a (by rw[act?_of A,l])
  grind
 .refine noRace_append (g:=y.g) (h.xA said) AN (λi x c op s b d j=>?_);grind
 .obtain⟨hi,z,w⟩:=Pz hn hk j;exact(h.past i k z r w).imp JF JF
theorem Wx(h:eh p t){a:Addr}(d:y.act=.mark (.acquire a))(hd:Deaf t y.g=0)(e:EJ t a i):Knows (t++#[y]) y.g i:=by
 obtain⟨q,c,g,f⟩:=e;have hq:=lt_of_act? c;have b:=HK t y;have edge:HappensBefore (t++#[y]) q t.size:=.single (.inr ⟨.marked hq (.inr (by rw[act?_old hq];exact c)) (by rw[act?_of b,d]) (λk _ hk=>by rw[act?_old hk];exact h.p_ k a),(heard_old hq).2 g,
  ⟨y.g,by simp[Trace.g?],Ex⟩⟩)
 exact⟨t.size,y,b,U,.inr ((f.app #[y]).hb edge)⟩
def eh.aiD(h:eh p t)(ht:p.tok=none)(c:p.bc y.g)(d:y.act=.mark (.acquire p.mu))(hd:Deaf t y.g=0):eh {p with tok:=some y.g} (t++#[y]):=by
 have hn:y.act.touch?=none:=by rw[d];rfl
 have b:=h.word c.1 hn AN;refine⟨b.nO,b.gs,b.low,b.still,b.own,λk hk=>?_,AN,b.eU,b.p_,b.xA,b.past⟩;simp at hk;subst hk;refine⟨c,λi a e hg=>?_⟩;rcases h.Bn ht i a (wl hn e) hg with hk|hk
 .exact(hk _ c).app _
 grind[Wx]
def eh.aiE(h:eh p t)(ht:p.tok=some y.g)(c:y.act=.mark (.releaseMerge p.mu))(hd:Deaf t y.g=0):eh {p with tok:=none} (t++#[y]):=by
 have hn:y.act.touch?=none:=by rw[c];rfl
 obtain⟨f,hk⟩:=h.s3 _ ht;have b:=h.word f.1 hn AN;have d:=HK t y;refine⟨b.nO,b.gs,b.low,b.still,b.own,AN,λ_ i a e hg=>.inr ⟨t.size,by rw[act?_of d,c],⟨y.g,by simp[Trace.g?],Ex⟩,.inr ?_⟩,b.eU,b.p_,b.xA,b.past⟩;exact(hk i a (wl hn e) hg).hb_new IB d U
def eh.aiF(h:eh p t)(g:p.bc y.g)(c:y.act=.mark (.releaseMerge p.wg))(hd:Deaf t y.g=0){past:c5}(e:∀k,past k->p.past k\/k=y.g):eh {p with past:=past} (t++#[y]):=by
 have hn:y.act.touch?=none:=by rw[c];rfl
 have a:=h.word g.1 hn AN;have f:=HK t y;refine⟨a.nO,a.gs,a.low,a.still,a.own,a.s3,a.Bn,a.eU,a.p_,a.xA,λi k hk b d=>?_⟩;obtain⟨hi,l,j⟩:=Pz hn hk d;rcases e k b with b|rfl
 .exact a.past i k hk b d
 .refine .inr ⟨t.size,by rw[act?_of f,c],⟨y.g,by simp[Trace.g?],Ex⟩,.inr ?_⟩;grind[Trace.g?,hb_po]
def eh.aiG(h:eh p t)(hg:y.g=0)(h0:0<p.n)(a:y.act=.mark (.acquire p.wg))(hd:Deaf t 0=0):
 eh p (t++#[y])/\∀i j,(t++#[y]).g? i=some j->p.past j->(t++#[y]).counts i->Knows (t++#[y]) 0 i:=by
 have hn:y.act.touch?=none:=by rw[a];rfl
 refine⟨h.word AN hn AN,λi j c b d=>?_⟩;obtain⟨hi,g,f⟩:=Pz hn c d;rcases h.past i j g b f with e|e
 .exact e.app _
 grind[Wx]
def eh.aiH(h:eh p t){x:MemOp}(F:x.g=0/\x.act=.go p.n)(E:y.g=p.n/\y.act=.start)(h0:Deaf t 0=0)(hn:0<p.n)(S:∀b,¬p.mine p.n b):eh {p with n:=p.n+1} (t++#[x,y]):=by
 have hk:Deaf t p.n=0:=Deaf_absent λi op hi e=>by have:=h.gs i op hi;omega
 have A:∀op∈#[x,y],op=x\/op=y:=AN;have Q:∀op∈#[x,y],∀b,op.act.touch?=some b->False:=by
  intro op m b d;rcases A op m with rfl|rfl
  .rw[F.2]at d;cases d
  .rw[E.2]at d;cases d
 have old:∀{i:Nat}{b:Touch},touchAt (t++#[x,y]) i=some b->touchAt t i=some b:=by intro i b d;obtain⟨z,r,D⟩:=touch_of d;grind[touchAt_of]
 have cw:p.bc 0:=⟨hn,.inl rfl⟩;have all:∀{i:Nat},(∀j,p.bc j->Knows t j i)->∀j,({p with n:=p.n+1}:j6).bc j->Knows (t++#[x,y]) j i:=by
  intro i hi j f;rcases Nat.lt_or_ge j p.n with k|v
  .exact(hi j ⟨k,f.2⟩).app _
  .have O:j<p.n+1:=f.1;grind[fork_knows]
 refine⟨λi a c w P=>h.nO i a (old c) w P,λi op hi=>?_,λi a b c d=>h.low i a b (old c) d,λi a b c H d hK=>all (h.still i a b (old c) H d hK),λj i a b f c d q=>?_,λj f=>?_,λK i a c hg=>?_,
  λi a c hs=>(h.eU i a (old c) hs).imp id (λx=>x.imp (λy=>⟨y.1,y.2.app _⟩) all),λi a I=>?_,λsaid=>?_,λi j f R L=>?_⟩
 .rcases getElem?_append_cases hi with⟨_,B⟩|⟨_,U⟩
  .exact Nat.lt_succ_of_lt (h.gs i op B)
  grind
 .rcases Nat.lt_or_ge j p.n with k|v
  .exact(h.own j i a b ⟨k,f.2⟩ (old c) d q).app _
  .have O:j<p.n+1:=f.1;grind
 .obtain⟨l,o⟩:=h.s3 j f;exact⟨⟨Nat.lt_succ_of_lt l.1,l.2⟩,λi a c hg=>(o i a (old c) hg).app _⟩
 .exact(h.Bn K i a (old c) hg).imp all JF
 .obtain⟨op,J,u⟩:=vaj.1 I;rcases getElem?_append_cases J with⟨_,N⟩|⟨_,T⟩
  .exact h.p_ i a (by rw[act?_of N,u])
  grind
 .have e:t++#[x,y]=(t++#[x])++#[y]:=by grind
  rw[e];refine noRace_append (g:=p.n) (noRace_append (g:=0) (h.xA said) AN AN)
   AN AN
 .obtain⟨s,l,o,M⟩:=L;have C:touchAt t i=some s:=old l;obtain⟨z,r,_⟩:=touch_of C;have hi:=lt_size_of_getElem? r;exact(h.past i j (by grind[g?_old]) R ⟨s,by grind[act?_old],o,M.imp id (λe=>(heard_old hi).1 e)⟩).imp JF JF
end
end
end bn
namespace ae
structure bh where
 L:Bool
 W:Bool
 S:Bool
 k:Nat
 sema:Nat
 gw:Nat
def bh.word(m:bh):Nat:=m.L.toNat+2*m.W.toNat+4*m.S.toNat+8*m.k
def bh.jj(m:bh):Prop:=m.L=false/\m.W=false/\m.S=false/\0<m.k
inductive bT where
 |idle|lO|iZ|jS|hand|own
 |eF (v o:Nat)
 |fj|ps
def gP:bT->Nat| .own=>1| _=>0
def gy:bT->Nat| .iZ=>1| _=>0
def fT:bT->Nat| .jS=>1| _=>0
def fy:bT->Nat| .hand=>1| _=>0
def dQ:bT->Nat| .fj=>1| _=>0
def ei:bT->Nat| .ps=>1| _=>0
def te(x:bT)(W:Bool):Bool:=match x with| .iZ=>false| _=>W
def aX(f:bT->Nat)(xs:List bT):Nat:=(xs.map f).sum
theorem oA(f:bT->Nat):∀(xs:List bT)(i:Nat)(x y:bT),xs[i]?=some x->aX f (xs.set i y)+f x=aX f xs+f y
 | [],i,x,y,h=>AN
 |a::xs,0,x,y,h=>by grind[aX]
 |a::xs,i+1,x,y,h=>by have:=oA f xs i x y Eh;simp[aX]at this⊢;omega
theorem BG(f:bT->Nat):∀(xs:List bT)(i:Nat)(x:bT),xs[i]?=some x->f x<=aX f xs
 | [],i,x,h=>AN
 |a::xs,0,x,h=>by grind[aX]
 |a::xs,i+1,x,h=>by have:=BG f xs i x Eh;simp[aX]at this⊢;omega
theorem PL(f:bT->Nat):∀(xs:List bT)(i j:Nat)(x y:bT),xs[i]?=some x->xs[j]?=some y->i≠j->f x+f y<=aX f xs
 | [],i,j,x,y,h,_,_=>AN
 |a::xs,0,0,x,y,_,_,h=>absurd U h
 |a::xs,0,j+1,x,y,c,b,_=>by simp at c b;subst c;have:=BG f xs j y b;grind[aX]
 |a::xs,i+1,0,x,y,c,b,_=>by simp at c b;subst b;have:=BG f xs i x c;grind[aX]
 |a::xs,i+1,j+1,x,y,c,b,h=>by have:=PL f xs i j x y (by simpa using c) (by simpa using b) AY;simp[aX]at this⊢;omega
theorem WR(f:bT->Nat)(b:∀x,f x<=1):∀(xs:List bT),aX f xs<=xs.length
 | []=>by simp[aX]
 |a::xs=>by have:=WR f b xs;have:=b a;simp[aX]at *;omega
theorem WS(f:bT->Nat):∀(xs:List bT),(∀(i:Nat) x,xs[i]?=some x->f x=0)->aX f xs=0
 | [],_=>by simp[aX]
 |a::xs,h=>by have c:=h 0 a Ab;have b:=WS f xs λi x hi=>h (i+1) x (by simpa using hi);simp[aX]at b⊢;omega
def PM(f:bT->Nat)(xs:List bT)(y:bT):aX f (xs++[y])=aX f xs+f y:=by simp[aX]
structure dp(m:bh)(xs:List bT):Prop where
 o:aX gP xs=m.L.toNat
 nm:m.S=false->m.W.toNat=aX gy xs+aX dQ xs+m.sema/\aX fy xs=0/\aX ei xs=0/\aX fT xs=m.k+m.sema+aX dQ xs
 st:m.S=true->m.W=false/\aX gy xs=0/\aX dQ xs=0/\m.L.toNat+aX fy xs+aX ei xs+m.sema=1/\aX fT xs+aX fy xs=m.k/\1<=m.k
 nM:m.jj->∃i:Nat,xs[i]?=some (.eF m.gw m.word)
 eF:∀(i:Nat) v o,xs[i]?=some (.eF v o)->v<=m.gw/\(v=m.gw->m.jj->o=m.word)
def qe(m:bh)(xs:List bT):Nat:=m.sema+aX dQ xs+aX ei xs
section
variable{m:bh}{xs:List bT}{i:Nat}{x:bT}
def dp.Lp(h:dp m xs):m.k<=xs.length:=by
 have q:=WR fT (λx=>by cases x<;>simp[fT]) xs
 cases b:m.S with
 |false=>have:=h.nm b;omega
 |true=>
  have e:=h.st b;have d:m.L.toNat<=1:=AN;by_cases f:aX fy xs=0
  .omega
  .
   have:∀(xs:List bT),aX fT xs+aX fy xs<=xs.length:=by intro xs;induction xs with|nil=>simp[aX]|cons a xs c=>cases a<;>simp[aX,fT,fy]at c⊢ <;>omega
   grind
def q1{y:bT}(hi:xs[i]?=some x)(b:∀v o,x≠ .eF v o)(a:∀v o,y≠ .eF v o){j:Nat}{v o:Nat}:(xs.set i y)[j]?=some (.eF v o)↔xs[j]?=some (.eF v o):=by grind
def dp.aji(h:dp m xs)(hi:xs[i]?=some x)(d:x=.lO\/x=.iZ)(l:m.L=false)(k:m.S=false):dp {m with L:=true,W:=te x m.W} (xs.set i .own):=by
 have c:=λf=>oA f xs i x .own hi;have o:=c gP;have a:=c gy;have p:=c dQ;have hd:=c fy;have ps:=c ei;have q:=c fT;have nm:=h.nm k;have g:=h.o;rw[l]at g;have n:m.W.toNat<=1:=vaw _;rcases d with rfl|rfl;all_goals
  simp[gP,gy,dQ,fy,ei,fT,te]at *;refine⟨AN,AN,λe=>?_,λe=>?_,λj v o b=>?_⟩
  .grind
  .exact absurd e.1 Ab
  .have b:=(q1 hi Ab Ab).1 b;exact⟨(h.eF j v o b).1,λ_ e=>absurd e.1 Ab⟩
def dp.queue(h:dp m xs)(hi:xs[i]?=some bT.lO)(hq:m.L=true\/m.S=true):dp {m with k:=m.k+1} (xs.set i bT.jS):=by
 have c:=λf=>oA f xs i bT.lO bT.jS hi;have o:=c gP;have a:=c gy;have p:=c dQ;have hd:=c fy;have ps:=c ei;have q:=c fT;have r:=h.o;have l:m.W.toNat<=1:=vaw _;have n:m.L.toNat<=1:=vaw _;simp only[gP,gy,dQ,fy,ei,fT]at o a p hd ps q;refine⟨AN,λe=>?_,λe=>?_,λe=>?_,λj v o' b=>?_⟩
 .have:=h.nm e;grind
 .have:=h.st e;grind
 .exact absurd e (by rintro⟨g,_,d,_⟩;grind)
 .have b:=(q1 hi Ab Ab).1 b;exact⟨(h.eF j v o' b).1,λ_ e=>absurd e (by rintro⟨g,_,d,_⟩;grind)⟩
def dp.WT(h:dp m xs)(hi:xs[i]?=some .iZ):m.S=false/\m.W=true/\aX gy xs=1/\aX dQ xs=0/\m.sema=0:=by have a:=BG gy xs i .iZ hi;have c:m.W.toNat<=1:=vaw _;simp[gy]at a;cases b:m.S with|true=>have:=h.st b;omega|false=>have:=h.nm b;grind
def dp.ajj(h:dp m xs)(hi:xs[i]?=some bT.iZ)(sv:Bool)(r:m.L=true):dp {m with k:=m.k+1,W:=false,S:=sv} (xs.set i bT.jS):=by
 have c:=λf=>oA f xs i bT.iZ bT.jS hi;have o:=c gP;have a:=c gy;have p:=c dQ;have hd:=c fy;have ps:=c ei;have q:=c fT;have d:=h.o;have s:m.W.toNat<=1:=vaw _;have g:m.L.toNat<=1:=AN;simp only[gP,gy,dQ,fy,ei,fT]at o a p hd ps q;obtain⟨n,l,n1,u,t⟩:=h.WT hi;have nm:=h.nm n;rw[l]at nm;rw[r]at d g;simp at nm d;refine⟨AN,λe=>?_,λe=>?_,λe=>absurd e.1 AN,λj v o' b=>?_⟩
 .grind
 .grind
 .have b:=(q1 hi Ab Ab).1 b;exact⟨(h.eF j v o' b).1,λ_ e=>absurd e.1 AN⟩
def dp.ajk(h:dp m xs)(hi:xs[i]?=some bT.lO)(r:m.L=true)(g:m.S=false)(d:m.W=false):dp {m with W:=true} (xs.set i bT.iZ):=by
 have c:=λf=>oA f xs i bT.lO bT.iZ hi;have o:=c gP;have a:=c gy;have p:=c dQ;have hd:=c fy;have ps:=c ei;have q:=c fT;have n:=h.o;have k:m.W.toNat<=1:=AN;have l:m.L.toNat<=1:=AN;simp only[gP,gy,dQ,fy,ei,fT]at o a p hd ps q;have nm:=h.nm g;rw[d]at nm;simp at nm;refine⟨AN,λe=>?_,λe=>?_,λe=>absurd e.1 AN,λj v o' b=>?_⟩
 .grind
 .grind
 .have b:=(q1 hi Ab Ab).1 b;exact⟨(h.eF j v o' b).1,λ_ e=>absurd e.1 AN⟩
def dp.ajl(h:dp m xs)(hi:xs[i]?=some bT.jS)(d:m.S=false)(hs:0<m.sema):dp {m with sema:=m.sema-1} (xs.set i bT.iZ):=by
 have c:=λf=>oA f xs i bT.jS bT.iZ hi;have o:=c gP;have a:=c gy;have p:=c dQ;have hd:=c fy;have ps:=c ei;have q:=c fT;have l:=h.o;have g:m.W.toNat<=1:=vaw _;have k:m.L.toNat<=1:=vaw _;simp only[gP,gy,dQ,fy,ei,fT]at o a p hd ps q;have nm:=h.nm d;have n:m.W=true:=by grind
 refine⟨AN,λe=>?_,λe=>?_,λe=>absurd e.2.1 AN,λj v o' b=>?_⟩
 .grind
 .grind
 .have b:=(q1 hi Ab Ab).1 b;exact⟨(h.eF j v o' b).1,λ_ e=>absurd e.2.1 AN⟩
def dp.ajm(h:dp m xs)(hi:xs[i]?=some bT.jS)(d:m.S=true)(hs:0<m.sema):dp {m with sema:=m.sema-1} (xs.set i bT.hand):=by
 have c:=λf=>oA f xs i bT.jS bT.hand hi;have o:=c gP;have a:=c gy;have p:=c dQ;have hd:=c fy;have ps:=c ei;have q:=c fT;have l:=h.o;have g:m.W.toNat<=1:=vaw _;have k:m.L.toNat<=1:=vaw _;simp only[gP,gy,dQ,fy,ei,fT]at o a p hd ps q;have st:=h.st d;refine⟨AN,λe=>?_,λe=>?_,λe=>absurd e.2.2.1 AN,λj v o' b=>?_⟩
 .grind
 .grind
 .have b:=(q1 hi Ab Ab).1 b;exact⟨(h.eF j v o' b).1,λ_ e=>absurd e.2.2.1 AN⟩
def dp.HR(h:dp m xs)(hi:xs[i]?=some .hand):m.S=true/\m.L=false/\m.W=false/\1<=m.k/\m.sema=0/\aX fy xs=1/\aX ei xs=0:=by have a:=BG fy xs i .hand hi;have c:m.L.toNat<=1:=vaw _;simp[fy]at a;cases b:m.S with|false=>have:=h.nm b;omega|true=>have:=h.st b;grind
def dp.handed(h:dp m xs)(hi:xs[i]?=some bT.hand)(clear:Bool)(u:clear=false->2<=m.k):dp {m with L:=true,k:=m.k-1,S:= !clear} (xs.set i bT.own):=by
 have c:=λf=>oA f xs i bT.hand bT.own hi;have o:=c gP;have a:=c gy;have p:=c dQ;have hd:=c fy;have ps:=c ei;have q:=c fT;have d:=h.o;have n:m.W.toNat<=1:=vaw _;have s:m.L.toNat<=1:=vaw _;simp only[gP,gy,dQ,fy,ei,fT]at o a p hd ps q;obtain⟨g,l,w,n1,x,t,r⟩:=h.HR hi;have st:=h.st g;rw[l]at d st;simp at d st;refine⟨AN,λe=>?_,λe=>?_,λe=>absurd e.1 Ab,λj v o' b=>?_⟩
 .grind
 .grind
 .have b:=(q1 hi Ab Ab).1 b;exact⟨(h.eF j v o' b).1,λ_ e=>absurd e.1 Ab⟩
def dp.Lq(h:dp m xs)(hi:xs[i]?=some .own):m.L=true:=by have a:=BG gP xs i .own hi;simp[gP]at a;have:=h.o;grind
def dp.WU(h:dp m xs){j:Nat}(hi:xs[i]?=some .own)(c:xs[j]?=some .own):i=j:=by apply vax;intro b;have a:=PL gP xs i j .own .own hi c b;simp only[gP]at a;have:=h.o;grind[Bool.toNat_le]
def dp.ajn(h:dp m xs)(hi:xs[i]?=some bT.own)(g:m.S=true):dp {m with L:=false} (xs.set i bT.ps):=by
 have c:=λf=>oA f xs i bT.own bT.ps hi;have o:=c gP;have a:=c gy;have p:=c dQ;have hd:=c fy;have ps:=c ei;have q:=c fT;have d:=h.o;have l:m.W.toNat<=1:=vaw _;have n:m.L.toNat<=1:=vaw _;simp only[gP,gy,dQ,fy,ei,fT]at o a p hd ps q;have k:=h.Lq hi;have st:=h.st g;rw[k]at d st;simp at d st;refine⟨AN,λe=>?_,λe=>?_,λe=>absurd e.2.2.1 AN,λj v o' b=>?_⟩
 .grind
 .grind
 .have b:=(q1 hi Ab Ab).1 b;exact⟨(h.eF j v o' b).1,λ_ e=>absurd e.2.2.1 AN⟩
def dp.ajo(h:dp m xs)(hi:xs[i]?=some .own)(g:m.S=false)(hk:m.k=0):dp {m with L:=false} (xs.set i .idle):=by
 have c:=λf=>oA f xs i .own .idle hi;have o:=c gP;have a:=c gy;have p:=c dQ;have hd:=c fy;have ps:=c ei;have q:=c fT;have d:=h.o;have k:=h.Lq hi;simp only[gP,gy,dQ,fy,ei,fT]at o a p hd ps q;have nm:=h.nm g;rw[k]at d;simp at d;refine⟨AN,λe=>?_,λe=>?_,λe=>absurd e.2.2.2 AN,λj v o' b=>?_⟩
 .grind
 .grind
 .have b:=(q1 hi Ab Ab).1 b;exact⟨(h.eF j v o' b).1,λ_ e=>absurd e.2.2.2 AN⟩
def dp.ajp(h:dp m xs)(hi:xs[i]?=some .own)(l:m.S=false):dp {m with L:=false,gw:=m.gw+1} (xs.set i (.eF (m.gw+1) ({m with L:=false}:bh).word)):=by
 have c:=λf=>oA f xs i .own (.eF (m.gw+1) ({m with L:=false}:bh).word) hi;have o:=c gP;have a:=c gy;have p:=c dQ;have hd:=c fy;have ps:=c ei;have q:=c fT;have g:=h.o;have n:=h.Lq hi;have b:i<xs.length:=(vab.1 hi).1;simp only[gP,gy,dQ,fy,ei,fT]at o a p hd ps q;have nm:=h.nm l;rw[n]at g;simp at g;refine⟨AN,λe=>?_,λe=>?_,λe=>⟨i,by rw[vcd b];rfl⟩,λj v o' d=>?_⟩
 .grind
 .grind
 .by_cases k:j=i
  .subst k;rw[vcd b]at d;simp at d;obtain⟨rfl,rfl⟩:=d;exact⟨vad _,λ_ _=>U⟩
  .rw[vba (Ne.symm k)]at d;have:=(h.eF j v o' d).1;grind
def dp.PN(h:dp m xs){v o:Nat}(hi:xs[i]?=some (.eF v o))(g:m.jj):dp {m with k:=m.k-1,W:=true} (xs.set i .fj):=by
 have c:=λf=>oA f xs i (.eF v o) .fj hi;have o':=c gP;have a:=c gy;have p:=c dQ;have hd:=c fy;have ps:=c ei;have q:=c fT;have t:=h.o;have d:i<xs.length:=(vab.1 hi).1;simp only[gP,gy,dQ,fy,ei,fT]at o' a p hd ps q;obtain⟨u,l,n,hk⟩:=g;have nm:=h.nm n;rw[l]at nm;simp at nm;refine⟨AN,λe=>?_,λe=>?_,λe=>absurd e.2.1 Ab,λj v' s b=>?_⟩
 .grind
 .grind
 .by_cases r:j=i
  .grind
  .rw[vba (Ne.symm r)]at b;exact⟨(h.eF j v' s b).1,λ_ e=>absurd e.2.1 Ab⟩
def dp.leave(h:dp m xs){v o:Nat}(hi:xs[i]?=some (.eF v o))(hn:¬(m.jj/\m.gw=v)):dp m (xs.set i .idle):=by
 have c:=λf=>oA f xs i (.eF v o) .idle hi;have o':=c gP;have a:=c gy;have p:=c dQ;have hd:=c fy;have ps:=c ei;have q:=c fT;have l:=h.o;have d:i<xs.length:=(vab.1 hi).1;simp only[gP,gy,dQ,fy,ei,fT]at o' a p hd ps q;refine⟨AY,λe=>?_,λe=>?_,λe=>?_,λj v' k b=>?_⟩
 .have:=h.nm e;omega
 .have:=h.st e;grind
 .obtain⟨j,b⟩:=h.nM e;refine⟨j,?_⟩;grind
 .by_cases g:j=i
  .grind
  .rw[vba (Ne.symm g)]at b;exact h.eF j v' k b
def dp.ajq(h:dp m xs)(hi:xs[i]?=some bT.fj):dp {m with sema:=m.sema+1} (xs.set i bT.idle):=by
 have c:=λf=>oA f xs i bT.fj bT.idle hi;have o:=c gP;have a:=c gy;have p:=c dQ;have hd:=c fy;have ps:=c ei;have q:=c fT;have k:=h.o;have d:m.W.toNat<=1:=vaw _;have g:m.L.toNat<=1:=vaw _;simp only[gP,gy,dQ,fy,ei,fT]at o a p hd ps q;refine⟨AN,λe=>?_,λe=>?_,λe=>?_,λj v o' b=>?_⟩
 .have:=h.nm e;grind
 .have:=h.st e;grind
 .obtain⟨j,b⟩:=h.nM e;exact⟨j,(q1 hi Ab Ab).2 b⟩
 .have b:=(q1 hi Ab Ab).1 b;exact h.eF j v o' b
def dp.ajr(h:dp m xs)(hi:xs[i]?=some bT.ps):dp {m with sema:=m.sema+1} (xs.set i bT.idle):=by
 have c:=λf=>oA f xs i bT.ps bT.idle hi;have o:=c gP;have a:=c gy;have p:=c dQ;have hd:=c fy;have ps:=c ei;have q:=c fT;have k:=h.o;have d:m.W.toNat<=1:=vaw _;have g:m.L.toNat<=1:=vaw _;simp only[gP,gy,dQ,fy,ei,fT]at o a p hd ps q;refine⟨AN,λe=>?_,λe=>?_,λe=>?_,λj v o' b=>?_⟩
 .have:=h.nm e;grind
 .have:=h.st e;grind
 .obtain⟨j,b⟩:=h.nM e;exact⟨j,(q1 hi Ab Ab).2 b⟩
 .have b:=(q1 hi Ab Ab).1 b;exact h.eF j v o' b
def dp.start(h:dp m xs)(hi:xs[i]?=some bT.idle):dp m (xs.set i bT.lO):=by
 have c:=λf=>oA f xs i bT.idle bT.lO hi;have o:=c gP;have a:=c gy;have p:=c dQ;have hd:=c fy;have ps:=c ei;have q:=c fT;have k:=h.o;have d:m.W.toNat<=1:=vaw _;have g:m.L.toNat<=1:=vaw _;simp only[gP,gy,dQ,fy,ei,fT]at o a p hd ps q;refine⟨AY,λe=>?_,λe=>?_,λe=>?_,λj v o' b=>?_⟩
 .have:=h.nm e;omega
 .have:=h.st e;grind
 .obtain⟨j,b⟩:=h.nM e;exact⟨j,AN⟩
 .have b:=(q1 hi Ab Ab).1 b;exact h.eF j v o' b
def dp.alive(h:dp m xs)(hs:m.sema=0)(hi:xs[i]?=some .jS):∃(j:Nat)(y:bT),xs[j]?=some y/\y≠ .idle/\y≠ .jS:=by
 apply vax;intro hn;have all:∀(j:Nat)(y:bT),xs[j]?=some y->y=.idle\/y=.jS:=AN;have z:∀f:bT->Nat,f .idle=0->f .jS=0->aX f xs=0:=λf l k=>WS f xs AN;have o:=z gP U U;have a:=z gy U U;have p:=z dQ U U;have hd:=z fy U U;have ps:=z ei U U;have q:=BG fT xs i .jS hi;simp[fT]at q;have e:=h.o;have d:m.L=false:=by grind
 cases b:m.S with
 |true=>have:=h.st b;grind
 |false=>
  have nm:=h.nm b;have c:m.W=false:=by grind
  obtain⟨j,g⟩:=h.nM ⟨d,c,b,AY⟩;grind
def dp.push(h:dp m xs):dp m (xs++[.idle]):=by
 have c:=λf=>PM f xs .idle;have o:=c gP;have a:=c gy;have p:=c dQ;have hd:=c fy;have ps:=c ei;have q:=c fT;simp only[gP,gy,dQ,fy,ei,fT]at o a p hd ps q;have i:=h.o;refine⟨AY,λe=>?_,λe=>?_,λe=>?_,λj v o' d=>?_⟩
 .have:=h.nm e;omega
 .have:=h.st e;grind
 .obtain⟨j,d⟩:=h.nM e;have b:j<xs.length:=(vab.1 d).1;exact⟨j,AN⟩
 .rcases Nat.lt_or_ge j xs.length with b|g
  .rw[List.getElem?_append_left b]at d;exact h.eF j v o' d
  grind
end
def xI(z:bT)(m m1:bh):Prop:=(z=.hand->m.k<=m1.k)/\∀v o,z=.eF v o->¬(m.jj/\m.gw=v)->¬(m1.jj/\m1.gw=v)
theorem xI.refl(z:bT)(m:bh):xI z m m:=⟨AN,λ_ _ _ h=>h⟩
theorem xI.trans{z:bT}{a b c:bh}(h:xI z a b)(d:xI z b c):xI z a c:=⟨λe=>vac (h.1 e) (d.1 e),λv o e n=>d.2 v o e (h.2 v o e n)⟩
structure lr(x y:bT)(m m1:bh)(f f1:Nat):Prop where
 inv:∀(xs:List bT)(i:Nat),xs[i]?=some x->dp m xs->dp m1 (xs.set i y)
 fuel:∀(xs:List bT)(i:Nat),xs[i]?=some x->dp m xs->f1+2*qe m1 (xs.set i y)+1<=f+2*qe m xs
 kG:∀(xs:List bT)(i j:Nat)(z:bT),dp m xs->xs[i]?=some x->j≠i->xs[j]?=some z->xI z m m1
section
variable{m:bh}{f f1:Nat}
def qf{xs:List bT}{i:Nat}{x:bT}(hi:xs[i]?=some x)(m1:bh)(y:bT):qe m1 (xs.set i y)+dQ x+ei x+m.sema=qe m xs+dQ y+ei y+m1.sema:=by grind[oA,qe]
def wt{z:bT}{m1:bh}(hk:m.k<=m1.k)(a:m1.jj->m.jj/\m1.gw=m.gw):xI z m m1:=⟨λ_=>hk,AN⟩
def rZ(a:f1<f)(x:bT):lr x x m m f f1:=by
 have e:∀(xs:List bT)(i:Nat),xs[i]?=some x->xs.set i x=xs:=λxs i hi=>by apply vbu;grind
 exact⟨AN,AN,λ_ _ _ z _ _ _ _=>.refl z m⟩
def ajs(a:f1<f):lr .idle .lO m m f f1:=
 ⟨λxs i hi h=>h.start hi,λxs i hi _=>by have:=qf (m:=m) hi m .lO;grind[dQ,ei],λ_ _ _ z _ _ _ _=>.refl z m⟩
def PP{x:bT}(a:x=.lO\/x=.iZ)(c:m.L=false)(b:m.S=false)(d:f1<f):lr x .own m {m with L:=true,W:=te x m.W} f f1:=
 ⟨λxs i hi h=>h.aji hi a c b,λxs i hi _=>by
  have:=qf (m:=m) hi {m with L:=true,W:=te x m.W} .own;rcases a with rfl|rfl<;>simp[dQ,ei]at this⊢ <;>omega,
  λ_ _ _ z _ _ _ _=>wt IB (λe=>absurd e.1 Ab)⟩
def WV(hq:m.L=true\/m.S=true)(a:f1<f):lr .lO .jS m {m with k:=m.k+1} f f1:=
 ⟨λxs i hi h=>h.queue hi hq,λxs i hi _=>by have:=qf (m:=m) hi {m with k:=m.k+1} .jS;grind[dQ,ei],
  λ_ _ _ z _ _ _ _=>wt (vcl _) (λe=>by obtain⟨c,_,b,_⟩:=e;grind)⟩
def WW(sv:Bool)(a:m.L=true)(b:f1<f):lr .iZ .jS m {m with k:=m.k+1,W:=false,S:=sv} f f1:=
 ⟨λxs i hi h=>h.ajj hi sv a,λxs i hi _=>by have:=qf (m:=m) hi {m with k:=m.k+1,W:=false,S:=sv} .jS;grind[dQ,ei],
  λ_ _ _ z _ _ _ _=>wt (vcl _) (λe=>absurd e.1 AN)⟩
def ajt(c:m.L=true)(b:m.S=false)(a:m.W=false)(d:f1<f):lr .lO .iZ m {m with W:=true} f f1:=
 ⟨λxs i hi h=>h.ajk hi c b a,λxs i hi _=>by have:=qf (m:=m) hi {m with W:=true} .iZ;grind[dQ,ei],
  λ_ _ _ z _ _ _ _=>wt IB (λe=>absurd e.1 AN)⟩
def aju(a:m.S=false)(hs:0<m.sema)(b:f1<f+2):lr .jS .iZ m {m with sema:=m.sema-1} f f1:=
 ⟨λxs i hi h=>h.ajl hi a hs,λxs i hi _=>by have:=qf (m:=m) hi {m with sema:=m.sema-1} .iZ;grind[dQ,ei],
  λ_ _ _ z _ _ _ _=>wt IB (λe=>⟨e,U⟩)⟩
def ajv(a:m.S=true)(hs:0<m.sema)(b:f1<f+2):lr .jS .hand m {m with sema:=m.sema-1} f f1:=
 ⟨λxs i hi h=>h.ajm hi a hs,λxs i hi _=>by have:=qf (m:=m) hi {m with sema:=m.sema-1} .hand;grind[dQ,ei],
  λ_ _ _ z _ _ _ _=>wt IB (λe=>⟨e,U⟩)⟩
def ajw(clear:Bool)(c:clear=false->2<=m.k)(d:f1<f):lr .hand .own m {m with L:=true,k:=m.k-1,S:= !clear} f f1:=
 ⟨λxs i hi h=>h.handed hi clear c,λxs i hi _=>by have:=qf (m:=m) hi {m with L:=true,k:=m.k-1,S:= !clear} .own;grind[dQ,ei],
  λxs i j z h hi b a=>⟨λe=>by
   subst e;have:=PL fy xs i j .hand .hand hi a (Ne.symm b);have g:=(h.HR hi).2.2.2.2.2.1;grind[fy],λ_ _ _ _ e=>absurd e.1.1 Ab⟩⟩
def ajx(a:m.S=true)(b:f1+2<f):lr .own .ps m {m with L:=false} f f1:=
 ⟨λxs i hi h=>h.ajn hi a,λxs i hi _=>by have:=qf (m:=m) hi {m with L:=false} .ps;grind[dQ,ei],
  λ_ _ _ z _ _ _ _=>wt IB (λe=>absurd e.2.2.1 AN)⟩
def ajy(a:m.S=false)(hk:m.k=0)(b:f1<f):lr .own .idle m {m with L:=false} f f1:=
 ⟨λxs i hi h=>h.ajo hi a hk,λxs i hi _=>by have:=qf (m:=m) hi {m with L:=false} .idle;grind[dQ,ei],
  λ_ _ _ z _ _ _ _=>wt IB (λe=>absurd e.2.2.2 AN)⟩
def ajz(b:m.S=false)(d:f1<f):lr .own (.eF (m.gw+1) ({m with L:=false}:bh).word) m {m with L:=false,gw:=m.gw+1} f f1:=
 ⟨λxs i hi h=>h.ajp hi b,λxs i hi _=>by have:=qf (m:=m) hi {m with L:=false,gw:=m.gw+1} (.eF (m.gw+1) ({m with L:=false}:bh).word);grind[dQ,ei],
  λxs i j z h hi c a=>⟨AN,λv o e _ g=>by
   subst e;have:=(h.eF j v o a).1;grind⟩⟩
def ajA{v o:Nat}(a:m.jj)(d:f1+2<f):lr (.eF v o) .fj m {m with k:=m.k-1,W:=true} f f1:=
 ⟨λxs i hi h=>h.PN hi a,λxs i hi _=>by have:=qf (m:=m) hi {m with k:=m.k-1,W:=true} .fj;grind[dQ,ei],
  λxs i j z h hi c b=>⟨λe=>by
   subst e;have:=(h.HR b).1;rw[a.2.2.1]at this;grind,AN⟩⟩
def ajB{v o:Nat}(hn:¬(m.jj/\m.gw=v))(a:f1<f):lr (.eF v o) .idle m m f f1:=
 ⟨λxs i hi h=>h.leave hi hn,λxs i hi _=>by have:=qf (m:=m) hi m .idle;grind[dQ,ei],λ_ _ _ z _ _ _ _=>.refl z m⟩
def ajC(a:f1<f):lr .fj .idle m {m with sema:=m.sema+1} f f1:=
 ⟨λxs i hi h=>h.ajq hi,λxs i hi _=>F2,λ_ _ _ z _ _ _ _=>wt IB (λe=>⟨e,U⟩)⟩
def ajD(a:f1<f):lr .ps .idle m {m with sema:=m.sema+1} f f1:=
 ⟨λxs i hi h=>h.ajr hi,λxs i hi _=>F2,λ_ _ _ z _ _ _ _=>wt IB (λe=>⟨e,U⟩)⟩
end
end ae
namespace ej
inductive ajZ where
 |free
 |has (p:Nat)
 |half (p:Nat) (v:Value)
 |rel
 |nl
 |lb
inductive H0 where
 |spawn (k:Nat) (pend:Bool)
 |pq
 |r_
 |over
inductive At where
 |main (s:H0)
 |work (s:ajZ) (put:uac)
 |gone (put:uac)
 |old
structure cj where
 aX:Nat
 ea:Bool
 gz:Nat
 taken:Nat
 came:Nat
 done:List Value
 least:Option Nat
def gl:At->Nat
 | .main (.spawn _ true)=>1
 | .work .free _ | .work (.has _) _ | .work (.half _ _) _ | .work .rel _=>1
 | _=>0
def gA:At->Nat| .work .nl _=>1| _=>0
def gG:At->Nat| .work .lb _=>1| _=>0
def xK:At->Bool
 | .work .rel _ | .work .nl _ | .work .lb _ | .gone _=>true
 | _=>false
def nn:At->List (Nat×Value)
 | .work _ l| .gone l=>l
 | _=>[]
def hand:At->List Nat
 | .work (.has p) _ | .work (.half p _) _=>[p]
 | _=>[]
def laid:At->List (Nat×Value)
 | .work (.half p v) l=>(p,v)::l
 | .work _ l| .gone l=>l
 | _=>[]
def dJ(p:Nat)(a:At):Nat:=(hand a).count p+((nn a).map (·.1)).count p
def dK(p:Nat)(a:At):Nat:=((nn a).map (·.1)).count p
def di(f:At->Nat)(ay:List At):Nat:=(ay.map f).sum
theorem th(f:At->Nat):∀(ay:List At)(i:Nat)(x y:At),ay[i]?=some x->di f (ay.set i y)+f x=di f ay+f y
 | [],i,x,y,h=>AN
 |a::ay,0,x,y,h=>by grind[di]
 |a::ay,i+1,x,y,h=>by have:=th f ay i x y Eh;simp[di]at this⊢;omega
theorem nT(f:At->Nat):∀(ay:List At)(i:Nat)(x:At),ay[i]?=some x->f x<=di f ay
 | [],i,x,h=>AN
 |a::ay,0,x,h=>by grind[di]
 |a::ay,i+1,x,h=>by have:=nT f ay i x Eh;simp[di]at this⊢;omega
def aj0(f:At->Nat)(ay:List At)(y:At):di f (ay++[y])=di f ay+f y:=by simp[di]
theorem LA(f:At->Nat):∀(ay:List At),(∀(i:Nat) x,ay[i]?=some x->f x=0)->di f ay=0
 | [],_=>by simp[di]
 |a::ay,h=>by have c:=h 0 a Ab;have b:=LA f ay λi x hi=>h (i+1) x (by simpa using hi);simp[di]at b⊢;omega
def iY(f:uas):Nat->Nat
 |0=>0
 |n+1=>iY f n+f n
theorem W5{f g:uas}:∀{n:Nat},(∀p,p<n->f p<=g p)->iY f n<=iY g n
 |0,_=>vad _
 |n+1,h=>by have:=W5 (n:=n) λp a=>h p AY;grind[iY]
theorem LB{f g:uas}:∀{n:Nat},(∀p,p<n->f p=g p)->iY f n=iY g n
 |0,_=>rfl
 |n+1,h=>by have c:=LB (n:=n) λp a=>h p AY;have b:=h n AY;simp[iY];omega
theorem H2{f g:uas}{q d:Nat}:∀{n:Nat},q<n->(∀p,p≠q->g p=f p)->g q=f q+d->iY g n=iY f n+d
 |0,h,_,_=>AY
 |n+1,h,b,a=>by
  simp[iY];by_cases e:q=n
  .grind[LB]
  .have:=H2 (n:=n) AY b a;grind
def ux(s:H0)(b:cj)(ay:List At):Prop:=
 match s with
 | .spawn _ _ | .pq=>b.ea=false/\b.gz=0/\di gA ay=0/\di gG ay=0
 | .r_=>(b.ea=true/\b.gz=0/\di gG ay=0/\((0<b.aX/\di gA ay=0)\/(b.aX=0/\di gA ay=1)))\/(b.ea=false/\b.aX=0/\di gA ay=0/\b.gz+di gG ay=1)
 | .over=>b.ea=false/\b.aX=0/\b.gz=0/\di gA ay=0/\di gG ay=0
def P8(m:Nat)(ay:List At):Prop:=∀k q,ay[0]?=some (.main (.spawn k q))->ay.length=m+k
def W6:At->Bool
 | .work _ _ | .gone _=>true
 | _=>false
def H3(m:Nat)(ay:List At):Prop:=∀s,ay[0]?=some (.main s)->(∃q,s=.spawn 0 q)\/∃a,ay[m]?=some a/\W6 a=true
def Low(N:Nat)(bad:ubg)(L:ubj)(put:uas):Prop:=(∀q,L=some q->bad q=true/\q<N)/\∀p,bad p=true->0<put p->∃q,L=some q/\q<=p
structure cT(N:Nat)(rows:uas)(bad:ubg)(b:cj)(ay:List At):Prop where
 oD:P8 (rows N) ay
 sc:H3 (rows N) ay
 main:∃s,ay[0]?=some (.main s)/\ux s b ay
 only:∀(j:Nat) s,ay[j]?=some (.main s)->j=0
 aX:b.aX=di gl ay
 aW:b.taken<=N
 len:b.done.length=N
 own:∀p,di (dJ p) ay=if p<b.taken then 1 else 0
 val:∀(j:Nat) a,ay[j]?=some a->∀pv∈laid a,bad pv.1=false->b.done[pv.1]?=some pv.2
 came:b.came=iY (λp=>di (dK p) ay*rows p) N/\Low N bad b.least λp=>di (dK p) ay
 dU:(∃(j:Nat)(a:At),ay[j]?=some a/\xK a=true)->b.taken=N
variable{v:Value}
section
variable{N:Nat}{rows:uas}{bad:ubg}{b:cj}{ay:List At}{i:Nat}
def ww{m:Nat}{x y:At}(h:P8 m ay)(hi:ay[i]?=some x)(c:∀k q,y=.main (.spawn k q)->∃a,x=.main (.spawn k a)):P8 m (ay.set i y):=by
 intro k q hk;rw[vdz];have b:i<ay.length:=(vab.1 hi).1;by_cases e:i=0
 .subst e;rw[vcd b]at hk;obtain⟨a,rfl⟩:=c k q AN;exact h k a hi
 .rw[vba e]at hk;exact h k q hk
def xL{m:Nat}{x y:At}(h:H3 m ay)(hi:ay[i]?=some x)(h0:i≠0)(b:W6 y=true):H3 m (ay.set i y):=by intro s hs;rw[vba h0]at hs;refine(h s hs).imp id λ⟨a,d,c⟩=>?_;grind
def aj1{m:Nat}{s c:H0}(h:H3 m ay)(hi:ay[0]?=some (.main s))(hs:∀q,s=.spawn 0 q->∃g,c=.spawn 0 g):H3 m (ay.set 0 (.main c)):=by
 intro i f;have b:0<ay.length:=(vab.1 hi).1;rw[vcd b]at f;cases f;refine(h s hi).imp AN λ⟨a,e,d⟩=>⟨a,?_,d⟩;have:0≠m:=by rintro rfl;rw[hi]at e;cases e;cases d
 grind
def aj2(p:Nat)(a:At):dK p a<=dJ p a:=Nat.le_add_left _ _
theorem W7{f g:At->Nat}(h:∀a,f a<=g a):∀(ay:List At),di f ay<=di g ay
 | []=>by simp[di]
 |a::ay=>by have:=W7 h ay;grind[di]
def cT.W8(h:cT N rows bad b ay):b.came<=iY rows N:=by rw[h.came.1];refine W5 λp _=>?_;have c:=W7 (aj2 p) ay;have a:=h.own p;grind[Nat.le_one_iff_eq_zero_or_eq_one]
def xM{x:At}(h:cT N rows bad b ay)(hi:ay[i]?=some x)(a:∀s,x≠ .main s):i≠0:=by rintro rfl;obtain⟨s,hs,_⟩:=h.main;grind
theorem W9(f:At->Nat):∀(ay:List At)(i j:Nat)(x y:At),ay[i]?=some x->ay[j]?=some y->i≠j->f x+f y<=di f ay
 | [],i,j,x,y,h,_,_=>AN
 |a::ay,0,0,x,y,_,_,h=>absurd U h
 |a::ay,0,j+1,x,y,c,b,_=>by simp at c b;subst c;have:=nT f ay j y b;grind[di]
 |a::ay,i+1,0,x,y,c,b,_=>by simp at c b;subst b;have:=nT f ay i x c;grind[di]
 |a::ay,i+1,j+1,x,y,c,b,h=>by have:=W9 f ay i j x y (by simpa using c) (by simpa using b) AY;simp[di]at this⊢;omega
def aj3{a:At}{p:Nat}(h:(p,v)∈laid a):1<=dJ p a:=by
 unfold dJ;cases a with
 |main s=>simp[laid]at h
 |old=>simp[laid]at h
 |gone l=>have:p∈l.map (·.1):=vbz.2 ⟨_,h,U⟩;grind[nn]
 |work s l=>
  have key:∀{l:uac},(p,v)∈l->1<=(l.map (·.1)).count p:=λh=>veb.2 AN;cases s with
  |half q u=>
   simp[laid]at h;rcases h with⟨rfl,rfl⟩|h
   .simp[hand]
   grind[nn]
  | _=>have:=key (show(p,v)∈l from h);grind[nn]
theorem H4{s:H0}{b b1:cj}{ay a:List At}(f:b1.aX=b.aX)(e:b1.ea=b.ea)(d:b1.gz=b.gz)(c:di gA a=di gA ay)(g:di gG a=di gG ay)(h:ux s b ay):ux s b1 a:=by simp_all[ux]
def iL{ay:List At}{i j:Nat}{x y a:At}(hi:ay[i]?=some x)(h:(ay.set i y)[j]?=some a):(j=i/\a=y)\/(j≠i/\ay[j]?=some a):=by grind
def cT.take(h:cT N rows bad b ay){l:uac}(a5:b.taken<N)(hi:ay[i]?=some (.work .free l)):cT N rows bad {b with taken:=b.taken+1} (ay.set i (.work (.has b.taken) l)):=by
 have h0:i≠0:=xM h hi Ab;have c:=λf=>th f ay i (.work .free l) (.work (.has b.taken) l) hi;have c1:=c gl;have cg:=c gA;have du:=c gG;simp only[gl,gA,gG]at c1 cg du;have t:=h.aX;obtain⟨s,hs,r⟩:=h.main;refine⟨ww h.oD hi AN,xL h.sc hi h0 U,⟨s,AN,?_⟩,λj s' g=>?_,AN,AN,h.len,λd=>?_,λj a g pv k m=>?_,?_,λ⟨j,a,g,o⟩=>?_⟩
 .grind[H4]
 .rcases iL hi g with⟨_,e⟩|⟨_,e⟩
  .cases e
  .exact h.only j s' e
 .have:=c (dJ d);have e:=h.own d;simp only[dJ,hand,nn,List.count_nil,List.count_singleton]at this;simp only;by_cases q:d=b.taken
  .grind
  grind
 .rcases iL hi g with⟨rfl,rfl⟩|⟨n,e⟩
  .exact h.val j _ hi pv k m
  .exact h.val j a e pv k m
 .have e:∀d,di (dK d) (ay.set i (.work (.has b.taken) l))=di (dK d) ay:=λd=>by have:=c (dK d);have p:dK d (.work (.has b.taken) l)=dK d (.work .free l):=rfl;grind
  simp only[e];exact h.came
 .rcases iL hi g with⟨rfl,rfl⟩|⟨_,e⟩
  .simp[xK]at o
  .have:=h.dU AN;omega
def cT.lay(h:cT N rows bad b ay){p:Nat}{l:uac}(hi:ay[i]?=some (.work (.has p) l)):cT N rows bad {b with done:=b.done.set p v} (ay.set i (.work (.half p v) l)):=by
 have h0:i≠0:=xM h hi Ab;have c:=λf=>th f ay i (.work (.has p) l) (.work (.half p v) l) hi;have c1:=c gl;have cg:=c gA;have du:=c gG;simp only[gl,gA,gG]at c1 cg du;have x:=h.aX;obtain⟨s,hs,w⟩:=h.main;refine⟨ww h.oD hi AN,xL h.sc hi h0 U,⟨s,AN,?_⟩,λj s' k=>?_,AN,h.aW,by simp;exact h.len,λd=>?_,λj a k pv m n=>?_,?_,λ⟨j,a,k,q⟩=>?_⟩
 .grind[H4]
 .rcases iL hi k with⟨_,e⟩|⟨_,e⟩
  .cases e
  .exact h.only j s' e
 .have:=c (dJ d);have e:=h.own d;have o:dJ d (.work (.half p v) l)=dJ d (.work (.has p) l):=rfl;grind
 .rcases iL hi k with⟨rfl,rfl⟩|⟨g,e⟩
  .have z:p<b.done.length:=by
    have e:=h.own p;have:=nT (dJ p) ay j _ hi;have u:1<=dJ p (.work (.has p) l):=by simp[dJ,hand]
    rw[h.len];have:=h.aW;grind
   simp[laid]at m;rcases m with rfl|m
   .grind
   .have g:pv.1≠p:=λe=>by have r:1<=(l.map (·.1)).count p:=veb.2 AN;have t:=h.own p;grind[nT,dJ,hand,nn]
    simp only;rw[vba (Ne.symm g)];exact h.val j _ hi pv m n
  .have g:pv.1≠p:=λy=>by
    have r:1<=dJ p a:=aj3 (v:=pv.2) AN;have:=W9 (dJ p) ay i j _ _ hi e (Ne.symm g);have u:1<=dJ p (.work (.has p) l):=by simp[dJ,hand]
    have t:=h.own p;grind
   simp only;rw[vba (Ne.symm g)];exact h.val j a e pv m n
 .have e:∀d,di (dK d) (ay.set i (.work (.half p v) l))=di (dK d) ay:=λd=>by have:=c (dK d);have o:dK d (.work (.half p v) l)=dK d (.work (.has p) l):=rfl;grind
  simp only[e];exact h.came
 .rcases iL hi k with⟨rfl,rfl⟩|⟨_,e⟩
  .simp[xK]at q
  .exact h.dU AN
def cT.count(h:cT N rows bad b ay){p:Nat}{l:uac}(u:bad p=false)(hi:ay[i]?=some (.work (.half p v) l)):cT N rows bad {b with came:=b.came+rows p} (ay.set i (.work .free ((p,v)::l))):=by
 have h0:i≠0:=xM h hi Ab;have c:=λf=>th f ay i (.work (.half p v) l) (.work .free ((p,v)::l)) hi;have c1:=c gl;have cg:=c gA;have du:=c gG;simp only[gl,gA,gG]at c1 cg du;have t:=h.aX;obtain⟨s,hs,r⟩:=h.main;refine⟨ww h.oD hi AN,xL h.sc hi h0 U,⟨s,AN,?_⟩,λj s' g=>?_,AN,h.aW,h.len,λd=>?_,λj a g pv k m=>?_,?_,λ⟨j,a,g,q⟩=>?_⟩
 .grind[H4]
 .rcases iL hi g with⟨_,e⟩|⟨_,e⟩
  .cases e
  .exact h.only j s' e
 .have:=c (dJ d);have e:=h.own d;grind[dJ,hand,nn]
 .rcases iL hi g with⟨rfl,rfl⟩|⟨o,e⟩
  .exact h.val j _ hi pv k m
  .exact h.val j a e pv k m
 .have x:p<N:=by
   have e:=h.own p;have:=nT (dJ p) ay i _ hi;have w:1<=dJ p (.work (.half p v) l):=by simp[dJ,hand]
   have:=h.aW;grind
  simp only;refine⟨?_,h.came.2.1,λd n h0=>h.came.2.2 d n ?_⟩
  .rw[h.came.1];grind[H2,dK,nn]
  .have:=c (dK d);grind[dK,nn]
 .rcases iL hi g with⟨rfl,rfl⟩|⟨_,e⟩
  .simp[xK]at q
  .exact h.dU AN
def cT.low(h:cT N rows bad b ay){p:Nat}{l:uac}(j:bad p=true)(hq:∀q,b.least=some q->p<=q)(hi:ay[i]?=some (.work (.has p) l)):cT N rows bad {b with least:=some p} (ay.set i (.work (.has p) l)):=by
 have e:ay.set i (.work (.has p) l)=ay:=by obtain⟨c,a⟩:=vab.1 hi;rw[<-a];exact List.set_getElem_self c
 rw[e];have g:p<N:=by
  have e:=h.own p;have:=nT (dJ p) ay i _ hi;have k:1<=dJ p (.work (.has p) l):=by simp[dJ,hand]
  have:=h.aW;grind
 exact⟨h.oD,h.sc,h.main,h.only,h.aX,h.aW,h.len,h.own,h.val,⟨h.came.1,AN,λd f h0=>by obtain⟨q,c,a⟩:=h.came.2.2 d f h0;exact⟨p,U,vac (hq q c) a⟩⟩,h.dU⟩
def cT.fail(h:cT N rows bad b ay){p:Nat}{l:uac}(x:bad p=true)(t:rows p=0)(hq:∃q,b.least=some q/\q<=p)(hi:ay[i]?=some (.work (.has p) l)):cT N rows bad b (ay.set i (.work .free ((p,v)::l))):=by
 have h0:i≠0:=xM h hi Ab;have c:=λf=>th f ay i (.work (.has p) l) (.work .free ((p,v)::l)) hi;have c1:=c gl;have cg:=c gA;have du:=c gG;simp only[gl,gA,gG]at c1 cg du;have w:=h.aX;obtain⟨s,hs,u⟩:=h.main;refine⟨ww h.oD hi AN,xL h.sc hi h0 U,⟨s,AN,?_⟩,λj s' g=>?_,AN,h.aW,h.len,λd=>?_,λj a g pv k m=>?_,?_,λ⟨j,a,g,r⟩=>?_⟩
 .grind[H4]
 .rcases iL hi g with⟨_,e⟩|⟨_,e⟩
  .cases e
  .exact h.only j s' e
 .have:=c (dJ d);have e:=h.own d;grind[dJ,hand,nn]
 .rcases iL hi g with⟨rfl,rfl⟩|⟨o,e⟩
  .simp only[laid,vbc]at k;rcases k with rfl|k
   .grind
   .exact h.val j _ hi pv k m
  .exact h.val j a e pv k m
 .refine⟨?_,h.came.2.1,λd n y=>?_⟩
  .rw[h.came.1];refine LB λd _=>?_;have:=c (dK d);by_cases e:d=p
   .grind
   .grind[dK,nn]
  .by_cases e:d=p
   .grind
   .have:=c (dK d);exact h.came.2.2 d n (by grind[dK,nn])
 .rcases iL hi g with⟨rfl,rfl⟩|⟨_,e⟩
  .simp[xK]at r
  .exact h.dU AN
def cT.release(h:cT N rows bad b ay){l:uac}(a5:b.taken=N)(hi:ay[i]?=some (.work .free l)):cT N rows bad b (ay.set i (.work .rel l)):=by
 have h0:i≠0:=xM h hi Ab;have c:=λf=>th f ay i (.work .free l) (.work .rel l) hi;have c1:=c gl;have cg:=c gA;have du:=c gG;simp only[gl,gA,gG]at c1 cg du;have r:=h.aX;obtain⟨s,hs,p⟩:=h.main;refine⟨ww h.oD hi AN,xL h.sc hi h0 U,⟨s,AN,?_⟩,λj s' g=>?_,AY,h.aW,h.len,λd=>?_,λj a g pv k m=>?_,?_,λ⟨j,a,g,q⟩=>?_⟩
 .grind[H4]
 .rcases iL hi g with⟨_,e⟩|⟨_,e⟩
  .cases e
  .exact h.only j s' e
 .have:=c (dJ d);have e:=h.own d;have n:dJ d (.work .rel l)=dJ d (.work .free l):=rfl;grind
 .rcases iL hi g with⟨rfl,rfl⟩|⟨o,e⟩
  .exact h.val j _ hi pv k m
  .exact h.val j a e pv k m
 .have e:∀d,di (dK d) (ay.set i (.work .rel l))=di (dK d) ay:=λd=>by have:=c (dK d);have n:dK d (.work .rel l)=dK d (.work .free l):=rfl;grind
  simp only[e];exact h.came
 grind
theorem cT.out(h:cT N rows bad b ay){l:uac}(t:b.ea=false\/2<=b.aX)(hi:ay[i]?=some (.work .rel l)):cT N rows bad {b with aX:=b.aX-1} (ay.set i (.gone l)):=by
 have h0:i≠0:=xM h hi Ab;have c:=λf=>th f ay i (.work .rel l) (.gone l) hi;have c1:=c gl;have cg:=c gA;have du:=c gG;simp only[gl,gA,gG]at c1 cg du;have v:=h.aX;obtain⟨s,hs,g⟩:=h.main;refine⟨ww h.oD hi AN,xL h.sc hi h0 U,⟨s,AN,?_⟩,λj s' m=>?_,AN,h.aW,h.len,λd=>?_,λj a m pv n o=>?_,?_,λ⟨j,a,m,u⟩=>?_⟩
 .cases s with|r_=>grind[ux]|over=>grind[ux]|spawn k q=>exact⟨g.1,g.2.1,by have:=g.2.2.1;omega,by have:=g.2.2.2;omega⟩|pq=>exact⟨g.1,g.2.1,by have:=g.2.2.1;omega,by have:=g.2.2.2;omega⟩
 .rcases iL hi m with⟨_,e⟩|⟨_,e⟩
  .cases e
  .exact h.only j s' e
 .have:=c (dJ d);have e:=h.own d;have p:dJ d (.gone l)=dJ d (.work .rel l):=rfl;grind
 .rcases iL hi m with⟨rfl,rfl⟩|⟨r,e⟩
  .exact h.val j _ hi pv n o
  .exact h.val j a e pv n o
 .have e:∀d,di (dK d) (ay.set i (.gone l))=di (dK d) ay:=λd=>by have:=c (dK d);have p:dK d (.gone l)=dK d (.work .rel l):=rfl;grind
  simp only[e];exact h.came
 .rcases iL hi m with⟨rfl,rfl⟩|⟨_,e⟩
  .exact h.dU ⟨_,_,hi,U⟩
  .exact h.dU AN
def cT.aj4(h:cT N rows bad b ay){l:uac}(q:b.ea=true)(p:b.aX=1)(hi:ay[i]?=some (.work .rel l)):cT N rows bad {b with aX:=b.aX-1} (ay.set i (.work .nl l)):=by
 have h0:i≠0:=xM h hi Ab;have c:=λf=>th f ay i (.work .rel l) (.work .nl l) hi;have c1:=c gl;have cg:=c gA;have du:=c gG;simp only[gl,gA,gG]at c1 cg du;have u:=h.aX;obtain⟨s,hs,r⟩:=h.main;refine⟨ww h.oD hi AN,xL h.sc hi h0 U,⟨s,AN,?_⟩,λj s' g=>?_,AN,h.aW,h.len,λd=>?_,λj a g pv k m=>?_,?_,λ⟨j,a,g,t⟩=>?_⟩
 .simp_all[ux]
 .rcases iL hi g with⟨_,e⟩|⟨_,e⟩
  .cases e
  .exact h.only j s' e
 .have:=c (dJ d);have e:=h.own d;have n:dJ d (.work .nl l)=dJ d (.work .rel l):=rfl;grind
 .rcases iL hi g with⟨rfl,rfl⟩|⟨o,e⟩
  .exact h.val j _ hi pv k m
  .exact h.val j a e pv k m
 .have e:∀d,di (dK d) (ay.set i (.work .nl l))=di (dK d) ay:=λd=>by have:=c (dK d);have n:dK d (.work .nl l)=dK d (.work .rel l):=rfl;grind
  simp only[e];exact h.came
 .rcases iL hi g with⟨rfl,rfl⟩|⟨_,e⟩
  .exact h.dU ⟨_,_,hi,U⟩
  .exact h.dU AN
def cT.aj5(h:cT N rows bad b ay){l:uac}(hi:ay[i]?=some (.work .nl l)):cT N rows bad {b with ea:=false} (ay.set i (.work .lb l)):=by
 have h0:i≠0:=xM h hi Ab;have c:=λf=>th f ay i (.work .nl l) (.work .lb l) hi;have c1:=c gl;have cg:=c gA;have du:=c gG;simp only[gl,gA,gG]at c1 cg du;have v:=h.aX;obtain⟨s,hs,m⟩:=h.main;refine⟨ww h.oD hi AN,xL h.sc hi h0 U,⟨s,AN,?_⟩,λj s' g=>?_,AN,h.aW,h.len,λd=>?_,λj a g pv n o=>?_,?_,λ⟨j,a,g,u⟩=>?_⟩
 .have r:=nT gA ay i _ hi;simp[gA]at r;cases s with|r_=>simp only[ux]at m⊢;grind|over=>have:=m.2.2.2;omega|spawn k q=>have:=m.2.2;omega|pq=>have:=m.2.2;omega
 .rcases iL hi g with⟨_,e⟩|⟨_,e⟩
  .cases e
  .exact h.only j s' e
 .have:=c (dJ d);have e:=h.own d;have p:dJ d (.work .lb l)=dJ d (.work .nl l):=rfl;grind
 .rcases iL hi g with⟨rfl,rfl⟩|⟨t,e⟩
  .exact h.val j _ hi pv n o
  .exact h.val j a e pv n o
 .have e:∀d,di (dK d) (ay.set i (.work .lb l))=di (dK d) ay:=λd=>by have:=c (dK d);have p:dK d (.work .lb l)=dK d (.work .nl l):=rfl;grind
  simp only[e];exact h.came
 .rcases iL hi g with⟨rfl,rfl⟩|⟨_,e⟩
  .exact h.dU ⟨_,_,hi,U⟩
  .exact h.dU AN
def cT.raise(h:cT N rows bad b ay){l:uac}(hi:ay[i]?=some (.work .lb l)):cT N rows bad {b with gz:=b.gz+1} (ay.set i (.gone l)):=by
 have h0:i≠0:=xM h hi Ab;have c:=λf=>th f ay i (.work .lb l) (.gone l) hi;have c1:=c gl;have cg:=c gA;have du:=c gG;simp only[gl,gA,gG]at c1 cg du;have v:=h.aX;obtain⟨s,hs,m⟩:=h.main;refine⟨ww h.oD hi AN,xL h.sc hi h0 U,⟨s,AN,?_⟩,λj s' g=>?_,AN,h.aW,h.len,λd=>?_,λj a g pv n o=>?_,?_,λ⟨j,a,g,u⟩=>?_⟩
 .have r:=nT gG ay i _ hi;simp[gG]at r;cases s with|r_=>grind[ux]|over=>have:=m.2.2.2;omega|spawn k q=>have:=m.2.2;omega|pq=>have:=m.2.2;omega
 .rcases iL hi g with⟨_,e⟩|⟨_,e⟩
  .cases e
  .exact h.only j s' e
 .have:=c (dJ d);have e:=h.own d;have p:dJ d (.gone l)=dJ d (.work .lb l):=rfl;grind
 .rcases iL hi g with⟨rfl,rfl⟩|⟨t,e⟩
  .exact h.val j _ hi pv n o
  .exact h.val j a e pv n o
 .have e:∀d,di (dK d) (ay.set i (.gone l))=di (dK d) ay:=λd=>by have:=c (dK d);have p:dK d (.gone l)=dK d (.work .lb l):=rfl;grind
  simp only[e];exact h.came
 .rcases iL hi g with⟨rfl,rfl⟩|⟨_,e⟩
  .exact h.dU ⟨_,_,hi,U⟩
  .exact h.dU AN
def cT.H5(h:cT N rows bad b ay){s d:H0}(hi:ay[0]?=some (.main s)){b1:cj}(z:b1.aX+gl (.main s)=b.aX+gl (.main d))(ht:b1.taken=b.taken)(hd:b1.done=b.done)(u:b1.came=b.came)(n:b1.least=b.least)(t:∀k q,d=.spawn k q->∃m,s=.spawn k m)(p:∀q,s=.spawn 0 q->∃m,d=.spawn 0 m)(hok:∀l,di gA l=di gA ay->di gG l=di gG ay->ux s b ay->ux d b1 l):cT N rows bad b1 (ay.set 0 (.main d)):=by
 have c:=λf=>th f ay 0 (.main s) (.main d) hi;have c1:=c gl;have cg:=c gA;have du:=c gG;have B:gA (.main s)=0/\gA (.main d)=0:=⟨U,U⟩;have A:gG (.main s)=0/\gG (.main d)=0:=⟨U,U⟩;have v:0<ay.length:=(vab.1 hi).1;obtain⟨s',hs,C⟩:=h.main;rw[hi]at hs;cases hs;have y:=h.aX;refine⟨ww h.oD hi AN,aj1 h.sc hi p,AN,λj s' i=>?_,AY,by rw[ht];exact h.aW,by rw[hd];exact h.len,λg=>?_,λj a i pv o x=>?_,?_,λ⟨j,a,i,w⟩=>?_⟩
 .rcases iL hi i with⟨e,_⟩|⟨_,e⟩
  .exact e
  .exact h.only j s' e
 .have:=c (dJ g);have e:=h.own g;have r:dJ g (.main s)=0/\dJ g (.main d)=0:=⟨U,U⟩;grind
 .rw[hd];rcases iL hi i with⟨_,rfl⟩|⟨_,e⟩
  .simp[laid]at o
  .exact h.val j a e pv o x
 .have e:∀g,di (dK g) (ay.set 0 (.main d))=di (dK g) ay:=λg=>by have:=c (dK g);have r:dK g (.main s)=0/\dK g (.main d)=0:=⟨U,U⟩;omega
  simp only[e];rw[u,n];exact h.came
 .rw[ht];rcases iL hi i with⟨_,rfl⟩|⟨_,e⟩
  .simp[xK]at w
  .exact h.dU AN
theorem cT.add(h:cT N rows bad b ay){k:Nat}(hi:ay[0]?=some (.main (.spawn k false))):cT N rows bad {b with aX:=b.aX+1} (ay.set 0 (.main (.spawn k true))):=
 h.H5 hi Hs U U U U AN AN λe d c a=>⟨a.1,a.2.1,d.trans a.2.2.1,c.trans a.2.2.2⟩
def cT.waits(h:cT N rows bad b ay){k:Nat}(hk:0<k)(hi:ay[0]?=some (.main (.spawn k false))):cT N rows bad b (ay.set 0 (.main .pq)):=
 h.H5 hi Hs U U U U AN AN λe d c a=>⟨a.1,a.2.1,d.trans a.2.2.1,c.trans a.2.2.2⟩
def cT.aj7(h:cT N rows bad b ay)(hi:ay[0]?=some (.main .pq))(c:0<b.aX):cT N rows bad {b with ea:=true} (ay.set 0 (.main .r_)):=
 h.H5 hi Hs U U U U AN AN λf e d a=>.inl ⟨U,a.2.1,d.trans a.2.2.2,.inl ⟨c,e.trans a.2.2.1⟩⟩
def cT.zero(h:cT N rows bad b ay)(hi:ay[0]?=some (.main .pq))(c:b.aX=0):cT N rows bad b (ay.set 0 (.main .over)):=
 h.H5 hi Hs U U U U AN AN λf e d a=>⟨a.1,c,a.2.1,e.trans a.2.2.1,d.trans a.2.2.2⟩
def cT.PN(h:cT N rows bad b ay)(hi:ay[0]?=some (.main .r_))(hs:b.gz≠0):cT N rows bad {b with gz:=b.gz-1} (ay.set 0 (.main .over)):=
 h.H5 hi Hs U U U U AN AN λg d i c=>by
  rcases c with⟨_,a,_⟩|⟨m1,a,e,f⟩
  .grind
  .exact⟨m1,a,AN,d.trans e,AY⟩
def cT.born(h:cT N rows bad b ay){k:Nat}(hi:ay[0]?=some (.main (.spawn k true))):cT N rows bad b (ay.set 0 (.main (.spawn (k+1) false))++[.work .free []]):=by
 have c:=λf=>th f ay 0 (.main (.spawn k true)) (.main (.spawn (k+1) false)) hi;have d:=λf=>aj0 f (ay.set 0 (.main (.spawn (k+1) false))) (.work .free []);have c1:=c gl;have cg:=c gA;have du:=c gG;have d1:=d gl;have y:=d gA;have x:=d gG;simp only[gl,gA,gG]at c1 cg du d1 y x;have s:0<ay.length:=(vab.1 hi).1;obtain⟨s',hs,l⟩:=h.main;rw[hi]at hs;cases hs;have z:=h.aX;have get:∀{j:Nat}{a:At},(ay.set 0 (.main (.spawn (k+1) false))++[.work .free []])[j]?=some a->(j=0/\a=.main (.spawn (k+1) false))\/(j≠0/\ay[j]?=some a)\/(j=ay.length/\a=.work .free []):=by grind
 refine⟨λk' B D=>?_,λA t=>.inr ?_,⟨.spawn (k+1) false,AN,l.1,l.2.1,by have:=l.2.2.1;omega,by have:=l.2.2.2;omega⟩,λj s' i=>?_,AY,h.aW,h.len,λg=>?_,λj a i pv o u=>?_,?_,λ⟨j,a,i,m⟩=>?_⟩
 .have m:=h.oD k true hi;grind
 .have m:=h.oD k true hi;rcases h.sc _ hi with⟨q,e⟩|⟨a,n,r⟩
  .cases e;refine⟨.work .free [],?_,U⟩;grind
  .have C:rows N<ay.length:=(vab.1 n).1;have t:0≠rows N:=by intro e;rw[<-e,hi]at n;cases n;cases r
   grind
 .rcases get i with⟨e,_⟩|⟨_,e⟩|⟨_,e⟩
  .exact e
  .exact h.only j s' e
  grind
 .have w:=c (dJ g);have v:=d (dJ g);have e:=h.own g;have p:dJ g (.main (.spawn k true))=0/\dJ g (.main (.spawn (k+1) false))=0/\dJ g (.work .free [])=0:=⟨U,U,U⟩;omega
 .rcases get i with⟨_,rfl⟩|⟨_,e⟩|⟨_,rfl⟩
  .simp[laid]at o
  .exact h.val j a e pv o u
  grind[laid]
 .have e:∀g,di (dK g) (ay.set 0 (.main (.spawn (k+1) false))++[.work .free []])=di (dK g) ay:=λg=>by have w:=c (dK g);have v:=d (dK g);have p:dK g (.main (.spawn k true))=0/\dK g (.main (.spawn (k+1) false))=0/\dK g (.work .free [])=0:=⟨U,U,U⟩;omega
  simp only[e];exact h.came
 .rcases get i with⟨_,rfl⟩|⟨_,e⟩|⟨_,rfl⟩
  .simp[xK]at m
  .exact h.dU AN
  grind[xK]
def qh:At->Prop
 | .gone _ | .old=>True
 | _=>False
def LC(a:At)(b:cj):Prop:=a=.main .r_/\b.gz=0
def cT.alive(h:cT N rows bad b ay):∃(j:Nat)(a:At),ay[j]?=some a/\¬qh a/\¬LC a b:=by
 obtain⟨s,hs,k⟩:=h.main;by_cases d:s=.r_/\b.gz=0
 .obtain⟨rfl,m⟩:=d;apply vax;intro hn;have all:∀(j:Nat)(a:At),ay[j]?=some a->qh a\/a=.main .r_:=λj a l=>by apply vax;intro g;exact hn ⟨j,a,l,AN,λe=>g (.inr e.1)⟩
  have z:∀f:At->Nat,(∀a,qh a->f a=0)->f (.main .r_)=0->di f ay=0:=λf o n=>LA f ay AN;have r:=z gl (λa c=>Fg) U;have p:=z gA (λa c=>Fg) U;have q:=z gG (λa c=>Fg) U;have g:=h.aX;rcases k with⟨_,_,_,i⟩|⟨_,_,_,i⟩<;>omega
 .exact⟨0,_,hs,λe=>e,λe=>d ⟨by have:=e.1;grind,e.2⟩⟩
def cT.all(h:cT N rows bad b ay)(hi:ay[0]?=some (.main .over)):∀(j:Nat)(a:At),ay[j]?=some a->j=0\/qh a:=by intro j a c;obtain⟨s',hs,d⟩:=h.main;rw[hi]at hs;cases hs;have i:=h.aX;have g:=nT gl ay j a c;have f:=nT gA ay j a c;have e:=nT gG ay j a c;have:=d.2.1;have:=d.2.2.2;cases a with|main s=>exact .inl (h.only j s c)|gone l=>exact .inr trivial|old=>exact .inr trivial|work s l=>cases s<;>simp only[gl,gA,gG]at g f e<;>omega
