import Derived.Test.YtcjlmniddnnieaaGreatP00
import Derived.Conc.CrowdTrace
set_option linter.all false
set_option maxRecDepth 100000
set_option maxHeartbeats 16000000
namespace Go.Proofs.YtcjlmniddnnieaaGreat
abbrev aH:=Go.World
abbrev cf:=Go.Program
def vab:=@List.getElem?_eq_some_iff
def vac:=@Nat.le_trans
def vad:=@Nat.le_refl
def vae:=@Option.getD_some
def vaf:=@Bool.false_eq_true
def vah:=@Bool.and_eq_true
def vaj:=@Array.getElem?_eq_some_iff
def vak:=@Option.map_eq_some_iff
def vam:=@Array.getElem?_setIfInBounds
def van:=@Option.some.inj
def vao:=@Array.all_eq_true_iff_forall_mem
def vap:=@Classical.byContradiction
def vat:=@List.getElem?_eq_getElem
def vau:=@Bool.toNat_le
def vav:=@Nat.lt_of_lt_of_le
def vax:=@Array.getElem?_eq_getElem
def vaz:=@Array.getElem?_modify
def vba:=@Nat.zero_le
def vbb:=@List.getElem?_set_ne
def vbc:=@Option.bind_eq_some_iff
def vbd:=@Array.mem_of_getElem?
def vbe:=@List.getElem_mem
def vbf:=@Option.some.injEq
def vbg:=@List.getElem?_map
def vbh:=@List.mem_cons
def vbk:=@List.all_cons
def vbn:=@Nat.eq_zero_or_pos
def vbp:=@congrArg
def vbq:=@Array.replicate_succ
def vbr:=@if_true
def vbs:=@List.not_mem_nil
def vbt:=@if_neg
def vbv:=@if_false
def vbw:=@List.ext_getElem?
def vbx:=@List.mem_map
def vby:=@Option.map_some
def vbz:=@if_pos
def vcb:=@List.mem_of_getElem?
def vcd:=@List.getElem?_set_self
def vce:=@Nat.zero_add
def vcf:=@Nat.lt_or_ge
def vcg:=@Nat.add_zero
def vch:=@Array.getElem?_map
def vci:=@Array.mapM_eq_mapM_toList
def vcn:=@Classical.skolem
def vco:=@List.take_of_length_le
def vcp:=@Array.ext_getElem?
def vcq:=@Array.empty_append
def vct:=@List.range_succ
def vcu:=@Array.getD_eq_getD_getElem?
def vcx:=@Nat.mul_le_mul_right
def vdb:=@Array.size_setIfInBounds
def vdd:=@List.map_cons
def vde:=@List.append_nil
def vdf:=@Array.getElem?_setIfInBounds_ne
def vdi:=@Option.elim_some
def vdj:=@Nat.le_add_right
def vdk:=@List.range'_succ
def vdl:=@List.length_cons
def vdn:=@Array.mem_append
def vdo:=@or_false
def vdr:=@List.nil_append
def vds:=@List.length_set
def vdt:=@List.find?_cons
def vdu:=@List.take_succ_cons
def vdv:=@Nat.le_of_eq
def vdw:=@List.count_pos_iff
def vdx:=@of_decide_eq_true
def vdy:=@List.size_toArray
def vdz:=@List.getElem_append_left
abbrev _root_.Go.Value.U:Go.Value:=Go.undef
abbrev _root_.Go.Item.R(o:Array Go.Oper)(l:List Nat):Go.Item:=.inRegion o l
abbrev _root_.Go.Addr.a(b o:Nat):Go.Addr:=⟨b,o,none⟩
abbrev dY:=Nat->Prop
abbrev fi:=Array Value
abbrev fC:=Array Oper
abbrev fG:=List Frame
abbrev fK:=List (Int×Int)
abbrev fX:=Value->aH->Prop
abbrev uaa:=List Item
abbrev uab:=TypeId
abbrev uac:=List (Nat×Value)
abbrev uad:=List Nat
abbrev uae:=Nat->Value->(Nat->Prop)->aH->Prop
abbrev uaf:=Goroutine
abbrev uag:=Act->aH->Prop
abbrev uah:=FuncId
abbrev uai:=Loc->Prop
abbrev uaj:=List Value
abbrev uak:=Operand->Value
abbrev ual:=Exit->Act->aH->Prop
abbrev uam:=Option Addr
abbrev uan:=List (Nat×Obj)
abbrev uao:=Array Event
abbrev uap:=Array TypeId
abbrev uaq:=Nat->Option Value
abbrev uar:=Array Bool
abbrev uas:=Nat->Nat
abbrev uat:=Nat->aH->Value->Prop
abbrev uau:=Operand
abbrev uav:=Nat->Goroutine->aH->Prop
abbrev uaw:=Array Operand
abbrev uax:=Array Goroutine
abbrev uay:=aH->Value->Prop
abbrev uaz:=Nat->Bool
abbrev uba:=Option (Nat×Nat)
abbrev ubb:=Nat->Option Nat
abbrev ubc:=Option Nat
abbrev ubd:=List Int
abbrev ube:=Value->(Nat->Prop)->aH->Prop
abbrev ubf:=Option Value
abbrev ubg:=List (Value×Value)
abbrev ubh:=Nat->aH->Prop
abbrev ubi:=List Oper
abbrev ubj:=Int×Int
abbrev ubk:=List Event
abbrev ubl:=Goroutine->Goroutine
abbrev ubm:=Nat->Value
abbrev ubn:=TypeId->Prop
abbrev ubo:=Nat->Value->Act->aH->Prop
abbrev ubp:=Array Bool->Act->aH->Prop
abbrev ubq:=aH->Value->aH->Prop
abbrev ubr:=Nat×Obj
abbrev ubs:=Nat->List Value
abbrev ubt:=List Bool
abbrev ubu:=Nat->Int
abbrev ubv:=Nat×Nat
abbrev ubw:=Value×Nat
abbrev _root_.Go.Value.P(b o:Nat):Go.Value:=.pointer (some (.a b o))
abbrev _root_.Go.Value.S(b o l c:Nat):Go.Value:=.slice (some (.a b o)) l c
abbrev _root_.Go.Value.N:Go.Value:=.slice none 0 0
abbrev _root_.Go.Value.I(n:Int):Go.Value:=.int .i64 n
abbrev _root_.Go.Value.T:Go.Value:=.bool true
abbrev _root_.Go.Value.F:Go.Value:=.bool false
abbrev _root_.Go.Value.E:Go.Value:=.string ⟨#[]⟩
abbrev _root_.Go.World.hs(w:Go.World):Nat:=w.heap.size
namespace au
structure Ren where
 rel:Nat->Nat->Prop
 mine:Nat->Prop
def dE(ρ:Ren)(a a':Addr):Prop:=ρ.rel a.block a'.block/\a.off=a'.off/\a.spot=a'.spot
inductive tM(ρ:Ren):Fn->Fn->Prop
 |func (f:uah):tM ρ (.func f) (.func f)
 |yield {l l':Nat} (h:ρ.rel l l'):tM ρ (.yield l) (.yield l')
inductive ax(ρ:Ren):Value->Value->Prop
 |bool (b:Bool):ax ρ (.bool b) (.bool b)
 |int (k:IntKind) (n:Int):ax ρ (.int k n) (.int k n)
 |string (s:ByteArray):ax ρ (.string s) (.string s)
 |lN:ax ρ (.pointer none) (.pointer none)
 |ptr {a a':Addr} (h:dE ρ a a'):ax ρ (.pointer (some a)) (.pointer (some a'))
 |jV (l c:Nat):ax ρ (.slice none l c) (.slice none l c)
 |slice {a a':Addr} (l c:Nat) (h:dE ρ a a'):ax ρ (.slice (some a) l c) (.slice (some a') l c)
 |qJ:ax ρ (.map none) (.map none)
 |map {r r':Nat} (h:ρ.rel r r'):ax ρ (.map (some r)) (.map (some r'))
 |pL:ax ρ (.chan none) (.chan none)
 |func {fn mQ:Fn} {a a' b b':fi} (h:tM ρ fn mQ) (ha:a.size=a'.size) (hb:b.size=b'.size)
  (h1:∀(i:Nat)(v v':Value),a[i]?=some v->a'[i]?=some v'->ax ρ v v') (h2:∀(i:Nat)(v v':Value),b[i]?=some v->b'[i]?=some v'->ax ρ v v'):ax ρ (.func fn a b) (.func mQ a' b')
 |nilFunc:ax ρ .nilFunc .nilFunc
 |iface (t:uab) {v v':Value} (h:ax ρ v v'):ax ρ (.iface t v) (.iface t v')
 |nilIface:ax ρ .nilIface .nilIface
 |agg {a a':fi} (hs:a.size=a'.size) (h:∀(i:Nat)(v v':Value),a[i]?=some v->a'[i]?=some v'->ax ρ v v'):ax ρ (.agg a) (.agg a')
 |tuple {a a':fi} (hs:a.size=a'.size) (h:∀(i:Nat)(v v':Value),a[i]?=some v->a'[i]?=some v'->ax ρ v v'):ax ρ (.tuple a) (.tuple a')
structure aM(ρ:Ren)(a a':fi):Prop where
 size:a.size=a'.size
 get:∀(i:Nat)(v v':Value),a[i]?=some v->a'[i]?=some v'->ax ρ v v'
def Ren.le(ρ σ:Ren):Prop:=(∀b b',ρ.rel b b'->σ.rel b b')/\∀b,ρ.mine b->σ.mine b
def Ren.le_refl(ρ:Ren):Ren.le ρ ρ:=⟨λ_ _ h=>h,λ_ h=>h⟩
variable{ρ σ:Ren}
theorem Ren.le_trans{a:Ren}(h:Ren.le ρ σ)(k:Ren.le σ a):Ren.le ρ a:=⟨λb b' x=>k.1 b b' (h.1 b b' x),λb x=>k.2 b (h.2 b x)⟩
theorem dE.mono(b:Ren.le ρ σ){a a':Addr}(h:dE ρ a a'):dE σ a a':=⟨b.1 _ _ h.1,h.2⟩
theorem tM.mono(b:Ren.le ρ σ){a a':Fn}(h:tM ρ a a'):tM σ a a':=by cases h with|yield h=>exact .yield (b.1 _ _ h)|func f=>exact .func f
variable{v v':Value}
theorem ax.mono(d:Ren.le ρ σ)(h:ax ρ v v'):ax σ v v':=by induction h with|bool b=>exact .bool b|int k n=>exact .int k n|string s=>exact .string s|lN=>exact .lN|ptr h=>exact .ptr (h.mono d)|jV l c=>exact .jV l c|slice l c h=>exact .slice l c (h.mono d)|qJ=>exact .qJ|map h=>exact .map (d.1 _ _ h)|pL=>exact .pL|func h i g _ _ f e=>exact .func (h.mono d) i g f e|nilFunc=>exact .nilFunc|iface t _ a=>exact .iface t a|nilIface=>exact .nilIface|agg hs _ a=>exact .agg hs a|tuple hs _ a=>exact .tuple hs a
variable{a a':fi}
theorem aM.mono(b:Ren.le ρ σ)(h:aM ρ a a'):aM σ a a':=⟨h.size,λi v v' x y=>(h.get i v v' x y).mono b⟩
theorem aM.nil(ρ:Ren):aM ρ #[] #[]:=⟨Y,λi v v' h=>AJ⟩
theorem aM.one(h:ax ρ v v'):aM ρ #[v] #[v']:=⟨Y,λi x c a b=>by
 grind⟩
theorem aM.some{ρ:Ren}{a a':fi}(h:aM ρ a a'){i:Nat}{v:Value}(hv:a[i]?=Option.some v):∃v',a'[i]?=Option.some v'/\ax ρ v v':=by
 have hi:i<a.size:=by grind
 have b:i<a'.size:=h.size▸hi;exact⟨a'[i],AJ,h.get i v _ hv AJ⟩
theorem aM.none(h:aM ρ a a'){i:Nat}(hv:a[i]?=Option.none):a'[i]?=Option.none:=by rw[Array.getElem?_eq_none_iff]at hv⊢;rw[<-h.size];exact hv
variable{b b':fi}
theorem aM.append(h:aM ρ a a')(k:aM ρ b b'):aM ρ (a++b) (a'++b'):=by
 refine⟨by simp[h.size,k.size],λi v v' x y=>?_⟩;rw[Array.getElem?_append]at x y;rw[<-h.size]at y;split at x
 .rename_i hi;rw[vbz hi]at y;exact h.get i v v' x y
 .rename_i hi;rw[vbt hi]at y;exact k.get _ v v' x y
theorem aM.push(h:aM ρ a a')(k:ax ρ v v'):aM ρ (a.push v) (a'.push v'):=by have e:∀(x:fi)(y:Value),x.push y=x++#[y]:=λx y=>AQ;rw[e,e];exact h.append (.one k)
def aM.set(h:aM ρ a a')(k:ax ρ v v')(i:Nat):aM ρ (a.setIfInBounds i v) (a'.setIfInBounds i v'):=by
 refine⟨by simp[h.size],λj x d c b=>?_⟩;rw[vam]at c b;rw[<-h.size]at b;by_cases e:i=j
 .grind
 .rw[vbt e]at c b;exact h.get j x d c b
theorem aM.extract(h:aM ρ a a')(s e:Nat):aM ρ (a.extract s e) (a'.extract s e):=by
 refine⟨by simp[h.size],λi v v' x y=>?_⟩;rw[Array.getElem?_extract]at x y;rw[<-h.size]at y;split at x
 .rename_i hi;rw[vbz hi]at y;exact h.get _ v v' x y
 grind
theorem aM.getD(h:aM ρ a a'){d b:Value}(hd:ax ρ d b)(i:Nat):ax ρ (a.getD i d) (a'.getD i b):=by rw[vcu,vcu];grind[none,some]
theorem ax.undef(ρ:Ren):ax ρ undef undef:=.tuple Y λi v v' h=>by grind
def ax.oW(h:aM ρ a a'):ax ρ (.agg a) (.agg a'):=.agg h.size h.get
def ax.Mb(h:aM ρ a a'):ax ρ (.tuple a) (.tuple a'):=.tuple h.size h.get
def ax.Ik{fn c:Fn}(d:tM ρ fn c)(h:aM ρ a a')(k:aM ρ b b'):ax ρ (.func fn a b) (.func c a' b'):=.func d h.size k.size h.get k.get
theorem ax.cells{ρ:Ren}{v v':Value}(h:ax ρ v v'):aM ρ v.cells v'.cells:=by cases h with|agg hs h=>exact⟨hs,h⟩|bool b=>exact .one (.bool b)|int k n=>exact .one (.int k n)|string s=>exact .one (.string s)|lN=>exact .one .lN|ptr h=>exact .one (.ptr h)|jV l c=>exact .one (.jV l c)|slice l c h=>exact .one (.slice l c h)|qJ=>exact .one .qJ|map h=>exact .one (.map h)|pL=>exact .one .pL|func h d a f e=>exact .one (.func h d a f e)|nilFunc=>exact .one .nilFunc|iface t h=>exact .one (.iface t h)|nilIface=>exact .one .nilIface|tuple hs h=>exact .one (.tuple hs h)
inductive jc:Value->Prop
 |bool (b:Bool):jc (.bool b)
 |int (k:IntKind) (n:Int):jc (.int k n)
 |string (s:ByteArray):jc (.string s)
 |lN:jc (.pointer none)
 |jV (l c:Nat):jc (.slice none l c)
 |qJ:jc (.map none)
 |pL:jc (.chan none)
 |nilFunc:jc .nilFunc
 |func (f:uah):jc (.func (.func f) #[] #[])
 |nilIface:jc .nilIface
 |iface (t:uab) {v:Value} (h:jc v):jc (.iface t v)
 |agg {a:fi} (h:∀(i:Nat)(v:Value),a[i]?=some v->jc v):jc (.agg a)
 |tuple {a:fi} (h:∀(i:Nat)(v:Value),a[i]?=some v->jc v):jc (.tuple a)
def jc.rel(h:jc v)(ρ:Ren):ax ρ v v:=by induction h with|bool b=>exact .bool b|int k n=>exact .int k n|string s=>exact .string s|lN=>exact .lN|jV l c=>exact .jV l c|qJ=>exact .qJ|pL=>exact .pL|nilFunc=>exact .nilFunc|func f=>exact .Ik (.func f) (.nil ρ) (.nil ρ)|nilIface=>exact .nilIface|iface t _ a=>exact .iface t a|agg _ a=>exact .agg Y λi v v' x y=>AJ|tuple _ a=>exact .tuple Y λi v v' x y=>AJ
def kF(a:fi):Prop:=∀(i:Nat)(v:Value),a[i]?=some v->jc v
theorem kF.rel(h:kF a)(ρ:Ren):aM ρ a a:=⟨Y,λi v v' x y=>by rw[x]at y;cases y;exact(h i v x).rel ρ⟩
theorem jc.cells{v:Value}(h:jc v):kF v.cells:=by
 have one:∀{v:Value},jc v->v.cells=#[v]->kF v.cells:=λ{v} hv e i x a=>by grind
 cases h with|agg h=>exact h|bool b=>exact one (.bool b) Y|int k n=>exact one (.int k n) Y|string s=>exact one (.string s) Y|lN=>exact one .lN Y|jV l c=>exact one (.jV l c) Y|qJ=>exact one .qJ Y|pL=>exact one .pL Y|nilFunc=>exact one .nilFunc Y|func f=>exact one (.func f) Y|nilIface=>exact one .nilIface Y|iface t h=>exact one (.iface t h) Y|tuple h=>exact one (.tuple h) Y
def lw{ao:Type}:Result ao->aH
 | .ok _ w=>w
 | .halt _ w=>w
section
variable{ao:Type}
def aiG:∀(k:Ask ao)(w:aH),w.drawn<=(w.ask k).2.drawn/\(w.ask k).2.heap=w.heap/\(w.ask k).2.tape=w.tape:=by intro k;induction k with|done a=>intro w;exact⟨vad _,Y,Y⟩|ask what range k b=>intro w;simp only[World.ask];grind
theorem aiH(w:aH)(c:Sys):w.drawn<=(w.sys c).2.drawn/\(w.sys c).2.tape=w.tape:=by unfold World.sys;have:=aiG (Kernel.perform c w.os) w;grind
theorem aiI{P:cf}{w w2:aH}{a:Addr}{b:Bool}{l:List Addr}(h:w.farStore P a v b=.ok (w2,l)):w2.drawn=w.drawn/\w2.tape=w.tape:=by
 unfold World.farStore at h;split at h
 .split at h
  .rename_i r c;cases h;unfold World.viewStore at c;simp only[bind,Except.bind,pure,Except.pure]at c;repeat' (split at c)
   all_goals first
    |cases c;done
    |grind
  grind
 grind
def B3(P:cf):∀(m:Sem ao)(w:aH),w.drawn<=(lw (m.run P w)).drawn/\(lw (m.run P w)).tape=w.tape:=by
 intro m;induction m with
 |pure a=>intro w;exact⟨vad _,Y⟩
 |load md a k b=>intro w;simp only[Sem.run];cases w.cell? a with|some v=>grind|none=>simp only[];cases w.farLoad P a (md== .atomic)with|ok r=>grind|error h=>exact⟨vad _,Y⟩
 |store md a v k b=>
  intro w;have gen:w.drawn<=(lw (match w.cell? a with
   |some _=>if w.frozen? a then .halt (.unsupported (.unsafePointer "a write to bytes that a string shares")) w else k.run P (w.setCell a v)
   |none=>match w.farStore P a v (md== .atomic)with
    | .ok (w,_)=>k.run P w
    | .error h=>.halt h w)).drawn/\(lw (match w.cell? a with
   |some _=>if w.frozen? a then .halt (.unsupported (.unsafePointer "a write to bytes that a string shares")) w else k.run P (w.setCell a v)
   |none=>match w.farStore P a v (md== .atomic)with
    | .ok (w,_)=>k.run P w
    | .error h=>.halt h w)).tape=w.tape:=by
   cases w.cell? a with
   |some x=>
    simp only[];split
    .exact⟨vad _,Y⟩
    .exact b (w.setCell a v)
   |none=>simp only[];cases f:w.farStore P a v (md== .atomic)with|error h=>exact⟨vad _,Y⟩|ok r=>grind[aiI]
  cases v<;>first|exact⟨vad _,Y⟩|exact gen
 |new o k b=>intro w;exact b _ {w with heap:=w.heap.push o}
 |shape r k b=>intro w;exact b _ w
 |freeze a n k b=>
  intro w;have e:(w.freeze a n).drawn=w.drawn/\(w.freeze a n).tape=w.tape:=by unfold World.freeze;grind
  have d:=b (w.freeze a n);exact⟨e.1▸d.1,d.2.trans e.2⟩
 |frozen a k b=>intro w;exact b _ w
 |getObj r k b=>
  intro w;simp only[Sem.run];split
  .exact⟨vad _,Y⟩
  .grind
  .exact⟨vad _,Y⟩
 |setObj r o k b=>
  intro w;simp only[Sem.run];split
  .exact⟨vad _,Y⟩
  .grind
  .exact⟨vad _,Y⟩
 |choose q k b=>intro w;simp only[Sem.run];grind
 |sys c k b=>grind[aiH,Sem.run]
 |program k b=>intro w;exact b _ w
 |mark m k b=>intro w;exact b w
 |halt h=>intro w;exact⟨vad _,Y⟩
end
def iN:GStep->aH
 | .go _ w _ | .comm _ _ _ _ w _ | .spawn _ _ w _ | .count _ w _ | .timer _ _ w _ | .alone _ _ w _ | .newcoro _ _ _ w _ | .coroswitch _ _ _ w _ | .collect _ w _ | .watch _ w _ | .ended _ w _=>w
@[simp] theorem Az (es:uao) (s:GStep):iN (GStep.after es s)=iN s:=by cases s<;>rfl
theorem Yv(P:cf)(m:Bool)(fr:Frame)(cs:fG)(d:Option Dying)(v:Value)(w:aH):iN (doReturn P m fr cs d v w)=w:=by
 unfold doReturn;cases cs with
 |cons c cs=>simp only[];split<;>rfl
 |nil=>
  simp only[];split
  .rfl
  .rfl
  .split
   .rfl
   .split<;>rfl
def IA{ao:Type}{P:cf}{m:Sem ao}{w:aH}{r:Result ao}(h:m.run P w=r):w.drawn<=(lw r).drawn:=h▸(B3 P m w).1
def Yw(P:cf)(fr:Frame)(cs:fG)(d:Option Dying)(m:String)(w:aH):w.drawn<=(iN (endFatal P fr cs d m w)).drawn:=by
 unfold endFatal;simp only[];split
 .rename_i a;exact IA a
 .rename_i a;exact IA a
 .rename_i a;exact IA a
def aj3(P:cf)(fr:Frame)(cs:fG)(d:Option Dying)(g:Nat)(w:aH):w.drawn<=(iN (early P fr cs d g w)).drawn:=by
 unfold early;have notYet:∀w2:aH,(iN (match w2.heap[g]? with
  |some (.pending c elem)=>GStep.go {frame:=fr,callers:=cs,status:=.running,dying:=d} {w2 with heap:=w2.heap.setIfInBounds g (.cells c elem)}
  | _=>.ended (.stuck "early: the variable does not wait" (fr.pos P)) w2)).drawn=w2.drawn:=by
  intro w2;split<;>rfl
 simp only[];have e6:∀{s:GStep}{w2:aH},(iN s).drawn=w2.drawn->w.drawn<=w2.drawn->w.drawn<=(iN s).drawn:=λe h=>AJ;have same:∀{s:GStep},(iN s).drawn=w.drawn->w.drawn<=(iN s).drawn:=λe=>AJ;split
 .grind
 split
 .exact vad _
 rename_i f _;split
 .grind
 split
 .grind
 split
 .exact vad _
 .exact vad _
 .exact vad _
 .grind
 .split
  .exact vad _
  split
  .grind
  split
  .rename_i w2 a;have:=B3 P (choose (.early g)) w;rw[a]at this;exact e6 (notYet w2) this.1
  .rename_i w2 _ a;have:=B3 P (choose (.early g)) w;rw[a]at this;exact this.1
  .rename_i w2 a;have:=B3 P (choose (.early g)) w;rw[a]at this;exact this.1
def FL(P:cf)(fr:Frame)(cs:fG)(d:Option Dying)(s:Sem Next)(w:aH):(lw (s.run P w)).drawn<=(iN (stepG.apply P true fr cs d s w)).drawn:=by
 unfold stepG.apply;simp only[Sem.runT_eq,vbr,Az];cases s.run P w with
 |ok f w2=>
  cases f with
  |callThen a b c e=>simp only[lw];split<;>exact vad _
  |row a b=>simp only[lw];split<;>exact vad _
  |stack a b=>simp only[lw];split<;>exact vad _
  |recover=>simp only[lw];split<;>exact vad _
  |spawn x=>simp only[lw];repeat' first|exact vad _ |split
  | _=>exact vad _
 |halt x w2=>
  cases x with
  |fatal m=>exact Yw P fr cs d m w2
  |unsupported u=>cases u with|initOrder g=>exact aj3 P fr cs d g w2| _=>exact vad _
  | _=>exact vad _
def Yx(P:cf)(fr:Frame)(cs:fG)(d:Option Dying)(x:Deferred)(w:aH):((x.target matches .nil)&&(fr.mode matches .panicking _))=true\/(lw ((invoke x.target x.args).run P w)).drawn<=(iN (callDeferred P fr cs d x w)).drawn:=by
 have key:∀{c:Prop}[Decidable c]{a b:GStep}{n:Nat},(¬c->n<=(iN b).drawn)->c\/n<=(iN (if c then a else b)).drawn:=by grind
 unfold callDeferred;simp only[Sem.runT_eq];refine key λ_=>?_;simp only[Az];cases(invoke x.target x.args).run P w with
 |ok f w2=>cases f with|recover=>simp only[lw];split<;>exact vad _|alone on v=>cases on<;>exact vad _|coroswitch c e=>cases e<;>exact vad _| _=>exact vad _
 |halt y w2=>cases y with|fatal m=>exact Yw P fr cs d m w2| _=>exact vad _
end au
namespace bn
open Conc ConcN
def e8:Loc->Option Nat
 | .cell a=>some a.block
 | .obj r=>some r
 | _=>none
structure jM where
 n:Nat
 base:Nat
 size:Nat
 K:Nat->Prop
 mine:Nat->Nat->Prop
 hh:Loc->Prop
 eW:Loc->Prop
 tok:Option Nat
 mu:Addr
 wg:Addr
 past:Nat->Prop
def jM.bq(p:jM)(j:Nat):Prop:=j<p.n/\(j=0\/p.base<=j)
def Gg(t:Trace)(a:Addr)(i:Nat):Prop:=∃q,t.act? q=some (.mark (.releaseMerge a))/\t.heard q/\Before t i q
variable{i:Nat}
theorem Gg.app{t:Trace}{a:Addr}(h:Gg t a i)(u:Trace):Gg (t++u) a i:=
 let⟨q,d,c,b⟩:=h
 ⟨q,by grind[act?_old,lt_of_act?],(heard_old (lt_of_act? d)).2 c,b.app u⟩
def Z7(p:jM)(l:Loc):Prop:=¬p.hh l/\∀b,e8 l=some b->¬p.K b/\∀j,¬p.mine j b
structure ef(p:jM)(t:Trace):Prop where
 oG:∀i a,touchAt t i=some a->a.loc.isMemory=true->a.kind=.atomic->p.eW a.loc\/Z7 p a.loc
 gs:∀(i:Nat)(op:MemOp),t[i]?=some op->op.g<p.n
 low:∀i a b,touchAt t i=some a->e8 a.loc=some b->b<p.size
 still:∀i a b,touchAt t i=some a->a.write=true->e8 a.loc=some b->p.K b->∀j,p.bq j->Knows t j i
 own:∀j i a b,p.bq j->touchAt t i=some a->e8 a.loc=some b->p.mine j b->Knows t j i
 ue:∀j,p.tok=some j->p.bq j/\∀i a,touchAt t i=some a->p.hh a.loc->Knows t j i
 CJ:p.tok=none->∀i a,touchAt t i=some a->p.hh a.loc->(∀j,p.bq j->Knows t j i)\/Gg t p.mu i
 eW:∀i a,touchAt t i=some a->p.eW a.loc->a.kind=.atomic\/(a.kind=.said/\Knows t 0 i)\/∀j,p.bq j->Knows t j i
 q2:∀i a,t.act? i≠some (.mark (.release a))
 yJ:∀said,¬Race said t
 past:∀i j,t.g? i=some j->p.past j->t.counts i->Knows t 0 i\/Gg t p.wg i
structure Sx(p:jM):Prop where
 own:∀j k b,p.mine j b->p.mine k b->j=k
 Z8:∀j b,p.mine j b->¬p.K b
 Gh:∀l b j,p.hh l->e8 l=some b->¬p.mine j b/\¬p.K b
 Gi:∀l b j,p.eW l->e8 l=some b->¬p.mine j b/\¬p.K b
 uf:∀l,p.hh l->¬p.eW l
 low:∀j b,p.mine j b->b<p.size
 amG:∀b,p.K b->b<p.size
 Sy:∀l b,p.hh l\/p.eW l->e8 l=some b->b<p.size
def AV:Mark->Prop
 | .disable| .enable| .noRoom| .extern _=>True
 | _=>False
def M8(p:jM)(j:Nat)(d:Nat)(e:Event):Prop:=
 match e.loc with
 | .cell a=>(e.sync=false/\((p.K a.block/\e.write=false)\/p.mine j a.block\/(p.hh (.cell a)/\p.tok=some j))/\¬p.past j)\/(e.sync=true/\p.eW (.cell a)/\0<d)
 | .obj r=>e.sync=false/\((p.K r/\e.write=false)\/p.mine j r)/\¬p.past j
 | .mark m=>AV m\/(j=0/\∃a,p.eW (.cell a)/\(m=.read a\/m=.write a))
 | .output=>True
 | .goroutines=>False
def AW(d:Nat)(e:Event):Nat:=deafBehind d #[e]
def Sz(p:jM)(j:Nat):Nat->List Event->Prop
 | _,[]=>True
 |d,e::l=>M8 p j d e/\Sz p j (AW d e) l
variable{d j:Nat}{e:Event}{y:MemOp}
section
variable{p:jM}{t:Trace}
def amH{l:Loc}(h:l.isMemory=true):∃b,e8 l=some b:=by cases l<;>simp[Loc.isMemory]at h<;>exact⟨_,Y⟩
def amI(h:M8 p j d e){x:Touch}(c:(MemAct.ofEvent e).touch?=some x)(n:x.loc.isMemory=true):
 ∃b,e8 x.loc=some b/\((x.kind=.plain/\((p.K b/\x.write=false)\/p.mine j b\/(p.hh x.loc/\p.tok=some j))/\¬p.past j)\/(x.kind=.atomic/\p.eW x.loc/\0<d)\/(x.kind=.said/\p.eW x.loc/\j=0)):=by
 obtain⟨loc,wr,g⟩:=e;cases loc with
 |cell a=>
  have l:x=⟨.cell a,wr,if g then .atomic else .plain⟩:=by grind[MemAct.ofEvent,MemAct.touch?]
  subst l;refine⟨a.block,Y,?_⟩;rcases h with⟨f,k,i⟩|⟨f,k,i⟩
  .grind
  grind
 |obj r=>
  obtain⟨f,k,i⟩:=h;simp only at f;subst f;have:(MemAct.ofEvent ⟨.obj r,wr,false⟩)=.access ⟨.obj r,wr,false⟩:=by cases wr<;>rfl
  rw[this]at c;simp only[MemAct.touch?,vbf]at c;subst c;exact⟨r,Y,AJ⟩
 |output=>grind[MemAct.ofEvent,MemAct.touch?,Loc.isMemory]
 |goroutines=>exact h.elim
 |mark m=>
  have:(MemAct.ofEvent ⟨.mark m,wr,g⟩)=.mark m:=by cases wr<;>cases g<;>rfl
  rw[this]at c;rcases h with h|⟨h0,a,hs,rfl|rfl⟩
  .cases m<;>simp[AV]at h<;>simp[MemAct.touch?]at c
  .simp[MemAct.touch?]at c;subst c;exact⟨a.block,Y,AJ⟩
  .simp[MemAct.touch?]at c;subst c;exact⟨a.block,Y,AJ⟩
theorem amJ(h:M8 p j d e)(a:Addr):MemAct.ofEvent e≠ .mark (.release a):=by
 obtain⟨loc,wr,b⟩:=e;cases loc with
 |mark m=>
  have:(MemAct.ofEvent ⟨.mark m,wr,b⟩)=.mark m:=by cases wr<;>cases b<;>rfl
  rw[this];rcases h with h|⟨_,_,_,rfl|rfl⟩
  .grind[AV]
  .simp
  .simp
 | _=>cases wr<;>cases b<;>simp[MemAct.ofEvent]
def Jw(t:Trace)(y:MemOp):(t++#[y])[t.size]?=some y:=by simp
theorem AX{a:Touch}(h:touchAt (t++#[y]) i=some a):touchAt t i=some a\/(i=t.size/\y.act.touch?=some a):=by obtain⟨z,c,b⟩:=touch_of h;grind[touchAt_of]
structure M9(p:jM):Prop where
 hh:∀l,p.hh l->l.isMemory=true
 eW:∀l,p.eW l->l.isMemory=true
def Gj{l:Loc}{b:Nat}(h:e8 l=some b):l.isMemory=true:=by cases l<;>simp[e8]at h<;>rfl
def ef.push(A:Sx p)(P:M9 p)(h:ef p t)(v:p.bq j)(T:M8 p j (Deaf t j) e)(fn:uah)(pos:String):ef p (t++#[{g:=j,fn,pos,act:=.ofEvent e}]):=by
 generalize Y:({g:=j,fn,pos,act:=.ofEvent e}:MemOp)=y;have hg:y.g=j:=AJ;have Z:y.act=.ofEvent e:=AJ;have X:Knows (t++#[y]) j t.size:=⟨t.size,y,Jw t y,hg,.inl rfl⟩;have new:∀{a:Touch},y.act.touch?=some a->a.loc.isMemory=true->∃b,e8 a.loc=some b/\((a.kind=.plain/\((p.K b/\a.write=false)\/p.mine j b\/(p.hh a.loc/\p.tok=some j))/\¬p.past j)\/(a.kind=.atomic/\p.eW a.loc/\0<Deaf t j)\/(a.kind=.said/\p.eW a.loc/\j=0)):=
  λc m=>amI T AJ m
 refine⟨λi a c M cR=>?_,λi op hi=>?_,λi a b c d=>?_,λi a b c E d hK k hk=>?_,λk i a b hk c d m=>?_,λk hk=>⟨(h.ue k hk).1,λi a c l=>?_⟩,λhk i a c l=>?_,λi a c hs=>?_,λi a Q=>?_,λsaid=>?_,λi k hk R f=>?_⟩
 .rcases AX c with c|⟨_,c⟩
  .exact h.oG i a c M cR
  grind
 .rcases getElem?_append_cases hi with⟨_,N⟩|⟨_,I⟩
  .exact h.gs i op N
  .simp at I;subst I;rw[hg];exact v.1
 .rcases AX c with c|⟨_,c⟩
  .exact h.low i a b c d
  .obtain⟨b',F,f⟩:=new c (Gj d);obtain rfl:b=b':=AJ;rcases f with⟨_,⟨hK,_⟩|m|⟨l,_⟩,_⟩|⟨_,hs,_⟩|⟨_,hs,_⟩
   .exact A.amG b hK
   .exact A.low j b m
   .exact A.Sy a.loc b (.inl l) d
   .exact A.Sy a.loc b (.inr hs) d
   .exact A.Sy a.loc b (.inr hs) d
 .rcases AX c with c|⟨_,c⟩
  .exact(h.still i a b c E d hK k hk).app _
  .exfalso;obtain⟨b',F,f⟩:=new c (Gj d);obtain rfl:b=b':=AJ;rcases f with⟨_,⟨_,O⟩|m|⟨l,_⟩,_⟩|⟨_,hs,_⟩|⟨_,hs,_⟩
   .grind
   .exact A.Z8 j b m hK
   .exact(A.Gh a.loc b 0 l d).2 hK
   .exact(A.Gi a.loc b 0 hs d).2 hK
   .exact(A.Gi a.loc b 0 hs d).2 hK
 .rcases AX c with c|⟨rfl,o⟩
  .exact(h.own k i a b hk c d m).app _
  .obtain⟨b',F,f⟩:=new o (Gj d);obtain rfl:b=b':=AJ;rcases f with⟨_,⟨hK,_⟩|n|⟨l,_⟩,_⟩|⟨_,hs,_⟩|⟨_,hs,_⟩
   .exact absurd hK (A.Z8 k b m)
   .rw[A.own k j b m n];grind
   .exact absurd m (A.Gh a.loc b k l d).1
   .exact absurd m (A.Gi a.loc b k hs d).1
   .exact absurd m (A.Gi a.loc b k hs d).1
 .rcases AX c with c|⟨rfl,o⟩
  .exact((h.ue k hk).2 i a c l).app _
  .obtain⟨b,d,f⟩:=new o (P.hh _ l);rcases f with⟨_,⟨hK,_⟩|n|⟨_,ht⟩,_⟩|⟨_,hs,_⟩|⟨_,hs,_⟩
   .exact absurd hK (A.Gh a.loc b 0 l d).2
   .exact absurd n (A.Gh a.loc b j l d).1
   .grind
   .exact absurd hs (A.uf _ l)
   .exact absurd hs (A.uf _ l)
 .rcases AX c with c|⟨rfl,o⟩
  .exact(h.CJ hk i a c l).imp Ma (λx=>x.app _)
  .exfalso;obtain⟨b,d,f⟩:=new o (P.hh _ l);rcases f with⟨_,⟨hK,_⟩|n|⟨_,ht⟩,_⟩|⟨_,hs,_⟩|⟨_,hs,_⟩
   .exact absurd hK (A.Gh a.loc b 0 l d).2
   .exact absurd n (A.Gh a.loc b j l d).1
   .grind
   .exact absurd hs (A.uf _ l)
   .exact absurd hs (A.uf _ l)
 .rcases AX c with c|⟨rfl,o⟩
  .exact(h.eW i a c hs).imp id (λx=>x.imp (λy=>⟨y.1,y.2.app _⟩) Ma)
  .obtain⟨b,d,f⟩:=new o (P.eW _ hs);rcases f with⟨_,⟨hK,_⟩|n|⟨l,_⟩,_⟩|⟨hk,_,_⟩|⟨hk,_,h0⟩
   .exact absurd hK (A.Gi a.loc b 0 hs d).2
   .exact absurd n (A.Gi a.loc b j hs d).1
   .exact absurd hs (A.uf _ l)
   .grind
   grind
 .obtain⟨op,S,K⟩:=vak.1 Q;rcases getElem?_append_cases S with⟨_,U⟩|⟨_,Z9⟩
  .exact h.q2 i a (by rw[act?_of U,K])
  grind[amJ]
 .refine noRace_append (g:=j) (h.yJ said) AJ (λi x c op s b d f=>?_);simp at s;subst s;have m:b.loc.isMemory=true:=by rw[<-f.1];exact f.2.1
  obtain⟨u,W,q⟩:=new d m;have H:e8 x.loc=some u:=by rw[f.1];grind
  rcases q with⟨_,⟨hK,E⟩|n|⟨l,ht⟩,_⟩|⟨hk,hs,_⟩|⟨hk,hs,h0⟩
  .exact h.still i x u c (f.2.2.1.resolve_right AJ) H hK j v
  .exact h.own j i x u v c H n
  .exact(h.ue j ht).2 i x c (by rw[f.1];grind)
  .rcases h.eW i x c (by rw[f.1];exact hs)with r|⟨r,_⟩|r
   .exfalso;rcases f.2.2.2 with e|e|⟨_,e,_⟩
    .grind
    .grind
    grind
   .exfalso;rcases f.2.2.2 with e|e|⟨_,_,e⟩
    .grind
    .grind
    grind
   grind
  .rcases h.eW i x c (by rw[f.1];exact hs)with r|⟨_,r⟩|r
   .exfalso;rcases f.2.2.2 with e|e|⟨_,e,_⟩
    .grind
    .grind
    grind
   .grind
   grind
 .by_cases hi:i<t.size
  .have D:t.g? i=some k:=by grind[g?_old]
   have w:t.counts i:=by obtain⟨x,C,B,z⟩:=f;exact⟨x,by grind[act?_old],B,z.imp id (λe=>(heard_old hi).1 e)⟩
   exact(h.past i k D R w).imp MM MM
  .have J:i=t.size:=by grind[Trace.g?]
   subst J;have r:k=j:=Ja;subst r;obtain⟨x,C,B,z⟩:=f;rw[act?_of (Jw t y)]at C;obtain⟨b,d,q⟩:=new C B;rcases q with⟨_,_,Mr⟩|⟨hk,_,hd⟩|⟨_,_,h0⟩
   .grind
   .exfalso;rcases z with e|⟨g,L,V⟩
    .grind
    .simp[Trace.g?]at L;rw[deaf_old Kj]at V;grind[Deaf]
   grind
theorem amL(t:Trace)(j:Nat)(fn:uah)(pos:String)(e:Event):Deaf (t++#[{g:=j,fn,pos,act:=.ofEvent e}]) j=AW (Deaf t j) e:=by have:=Deaf_own t j fn pos #[e];grind[ofEvents_eq,AW]
theorem ef.step(A:Sx p)(P:M9 p){j:Nat}(a:p.bq j)(fn:uah)(pos:String):∀(l:ubk){t:Trace},ef p t->Sz p j (Deaf t j) l->ef p (t++MemOp.ofEvents j fn pos l.toArray)
 | [],t,h,_=>by grind[ofEvents_eq]
 |e::l,t,h,⟨b,c⟩=>by have:=ef.step A P a fn pos l (h.push A P a b fn pos) (by grind[amL]);grind[ofEvents_eq]
def ef.grow(h:ef p t){size:Nat}(hs:p.size<=size){mine:Nat->Nat->Prop}(g:∀j b,mine j b->p.mine j b\/p.size<=b):ef {p with size:=size,mine:=mine} t:=
 ⟨λi a d l cR=>(h.oG i a d l cR).imp id λhn=>⟨hn.1,λb c=>⟨(hn.2 b c).1,λj f=>(g j b f).elim ((hn.2 b c).2 j) (λe=>absurd (h.low i a b d c) AP)⟩⟩,h.gs,λi a b d c=>vav (h.low i a b d c) hs,h.still,λj i a b f d c k=>(g j b k).elim (λe=>h.own j i a b f d c e) (λe=>absurd (h.low i a b d c) AP),h.ue,h.CJ,h.eW,h.q2,h.yJ,h.past⟩
end
section
section
variable{p:jM}{t:Trace}
def xv(hn:y.act.touch?=none){a:Touch}(h:touchAt (t++#[y]) i=some a):touchAt t i=some a:=by grind[AX]
def SA(hn:y.act.touch?=none)(hg:(t++#[y]).g? i=some j)(c:(t++#[y]).counts i):i<t.size/\t.g? i=some j/\t.counts i:=by obtain⟨x,g,f,d⟩:=c;have b:touchAt t i=some x:=xv hn g;obtain⟨z,a,_⟩:=touch_of b;have hi:=lt_size_of_getElem? a;exact⟨hi,by grind[g?_old],x,by grind[act?_old],f,d.imp id (λe=>(heard_old hi).1 e)⟩
theorem ef.word(h:ef p t)(hg:y.g<p.n)(hn:y.act.touch?=none)(B:∀a,y.act≠ .mark (.release a)):ef p (t++#[y]):=by
 refine⟨λi a c n cR=>h.oG i a (xv hn c) n cR,λi op hi=>?_,λi a b c d=>h.low i a b (xv hn c) d,λi a b c q d hK k hk=>(h.still i a b (xv hn c) q d hK k hk).app _,λk i a b hk c d v=>(h.own k i a b hk (xv hn c) d v).app _,
  λk hk=>⟨(h.ue k hk).1,λi a c f=>((h.ue k hk).2 i a (xv hn c) f).app _⟩,λhk i a c f=>(h.CJ hk i a (xv hn c) f).imp Ma (λx=>x.app _),
  λi a c hs=>(h.eW i a (xv hn c) hs).imp id (λx=>x.imp (λy=>⟨y.1,y.2.app _⟩) Ma),λi a m=>?_,λsaid=>?_,λi k hk r j=>?_⟩
 .rcases getElem?_append_cases hi with⟨_,o⟩|⟨_,D⟩
  .exact h.gs i op o
  grind
 .obtain⟨op,u,l⟩:=vak.1 m;rcases getElem?_append_cases u with⟨_,A⟩|⟨_,C⟩
  .exact h.q2 i a (by rw[act?_of A,l])
  grind
 .refine noRace_append (g:=y.g) (h.yJ said) AJ (λi x c op s b d j=>?_);grind
 .obtain⟨hi,z,w⟩:=SA hn hk j;exact(h.past i k z r w).imp MM MM
theorem Z_(h:ef p t){a:Addr}(d:y.act=.mark (.acquire a))(hd:Deaf t y.g=0)(e:Gg t a i):Knows (t++#[y]) y.g i:=by
 obtain⟨q,c,g,f⟩:=e;have hq:=lt_of_act? c;have b:=Jw t y;have edge:HappensBefore (t++#[y]) q t.size:=.single (.inr ⟨.marked hq (.inr (by rw[act?_old hq];exact c)) (by rw[act?_of b,d]) (λk _ hk=>by rw[act?_old hk];exact h.q2 k a),(heard_old hq).2 g,
  ⟨y.g,by simp[Trace.g?],Gf⟩⟩)
 exact⟨t.size,y,b,Y,.inr ((f.app #[y]).hb edge)⟩
def ef.amM(h:ef p t)(ht:p.tok=none)(c:p.bq y.g)(d:y.act=.mark (.acquire p.mu))(hd:Deaf t y.g=0):ef {p with tok:=some y.g} (t++#[y]):=by
 have hn:y.act.touch?=none:=by rw[d];rfl
 have b:=h.word c.1 hn AJ;refine⟨b.oG,b.gs,b.low,b.still,b.own,λk hk=>?_,AJ,b.eW,b.q2,b.yJ,b.past⟩;simp at hk;subst hk;refine⟨c,λi a e hg=>?_⟩;rcases h.CJ ht i a (xv hn e) hg with hk|hk
 .exact(hk _ c).app _
 grind[Z_]
def ef.amN(h:ef p t)(ht:p.tok=some y.g)(c:y.act=.mark (.releaseMerge p.mu))(hd:Deaf t y.g=0):ef {p with tok:=none} (t++#[y]):=by
 have hn:y.act.touch?=none:=by rw[c];rfl
 obtain⟨f,hk⟩:=h.ue _ ht;have b:=h.word f.1 hn AJ;have d:=Jw t y;refine⟨b.oG,b.gs,b.low,b.still,b.own,AJ,λ_ i a e hg=>.inr ⟨t.size,by rw[act?_of d,c],⟨y.g,by simp[Trace.g?],Gf⟩,.inr ?_⟩,b.eW,b.q2,b.yJ,b.past⟩;exact(hk i a (xv hn e) hg).hb_new Kj d Y
def ef.amO(h:ef p t)(g:p.bq y.g)(c:y.act=.mark (.releaseMerge p.wg))(hd:Deaf t y.g=0){past:dY}(e:∀k,past k->p.past k\/k=y.g):ef {p with past:=past} (t++#[y]):=by
 have hn:y.act.touch?=none:=by rw[c];rfl
 have a:=h.word g.1 hn AJ;have f:=Jw t y;refine⟨a.oG,a.gs,a.low,a.still,a.own,a.ue,a.CJ,a.eW,a.q2,a.yJ,λi k hk b d=>?_⟩;obtain⟨hi,l,j⟩:=SA hn hk d;rcases e k b with b|rfl
 .exact a.past i k hk b d
 .refine .inr ⟨t.size,by rw[act?_of f,c],⟨y.g,by simp[Trace.g?],Gf⟩,.inr ?_⟩;grind[Trace.g?,hb_po]
def ef.amP(h:ef p t)(hg:y.g=0)(h0:0<p.n)(a:y.act=.mark (.acquire p.wg))(hd:Deaf t 0=0):
 ef p (t++#[y])/\∀i j,(t++#[y]).g? i=some j->p.past j->(t++#[y]).counts i->Knows (t++#[y]) 0 i:=by
 have hn:y.act.touch?=none:=by rw[a];rfl
 refine⟨h.word AJ hn AJ,λi j c b d=>?_⟩;obtain⟨hi,g,f⟩:=SA hn c d;rcases h.past i j g b f with e|e
 .exact e.app _
 grind[Z_]
def ef.amQ(h:ef p t){x:MemOp}(E:x.g=0/\x.act=.go p.n)(D:y.g=p.n/\y.act=.start)(h0:Deaf t 0=0)(hn:0<p.n)(R:∀b,¬p.mine p.n b):ef {p with n:=p.n+1} (t++#[x,y]):=by
 have hk:Deaf t p.n=0:=Deaf_absent λi op hi e=>by have:=h.gs i op hi;omega
 have A:∀op∈#[x,y],op=x\/op=y:=AJ;have P:∀op∈#[x,y],∀b,op.act.touch?=some b->False:=by
  intro op o b d;rcases A op o with rfl|rfl
  .rw[E.2]at d;cases d
  .rw[D.2]at d;cases d
 have old:∀{i:Nat}{b:Touch},touchAt (t++#[x,y]) i=some b->touchAt t i=some b:=by intro i b d;obtain⟨z,s,C⟩:=touch_of d;grind[touchAt_of]
 have cz:p.bq 0:=⟨hn,.inl Y⟩;have all:∀{i:Nat},(∀j,p.bq j->Knows t j i)->∀j,({p with n:=p.n+1}:jM).bq j->Knows (t++#[x,y]) j i:=by
  intro i hi j f;rcases vcf j p.n with k|v
  .exact(hi j ⟨k,f.2⟩).app _
  .have O:j<p.n+1:=f.1;grind[fork_knows]
 refine⟨λi a c w cR=>h.oG i a (old c) w cR,λi op hi=>?_,λi a b c d=>h.low i a b (old c) d,λi a b c F d hK=>all (h.still i a b (old c) F d hK),λj i a b f c d r=>?_,λj f=>?_,λJ i a c hg=>?_,
  λi a c hs=>(h.eW i a (old c) hs).imp id (λx=>x.imp (λy=>⟨y.1,y.2.app _⟩) all),λi a H=>?_,λsaid=>?_,λi j f Q K=>?_⟩
 .rcases getElem?_append_cases hi with⟨_,B⟩|⟨_,T⟩
  .exact Nat.lt_succ_of_lt (h.gs i op B)
  grind
 .rcases vcf j p.n with k|v
  .exact(h.own j i a b ⟨k,f.2⟩ (old c) d r).app _
  .have O:j<p.n+1:=f.1;grind
 .obtain⟨m,q⟩:=h.ue j f;exact⟨⟨Nat.lt_succ_of_lt m.1,m.2⟩,λi a c hg=>(q i a (old c) hg).app _⟩
 .exact(h.CJ J i a (old c) hg).imp all MM
 .obtain⟨op,I,u⟩:=vak.1 H;rcases getElem?_append_cases I with⟨_,N⟩|⟨_,S⟩
  .exact h.q2 i a (by rw[act?_of N,u])
  grind
 .have e:t++#[x,y]=(t++#[x])++#[y]:=by grind
  rw[e];refine noRace_append (g:=p.n) (noRace_append (g:=0) (h.yJ said) AJ AJ)
   AJ AJ
 .obtain⟨l,m,q,L⟩:=K;have M:touchAt t i=some l:=old m;obtain⟨z,s,_⟩:=touch_of M;have hi:=lt_size_of_getElem? s;exact(h.past i j (by grind[g?_old]) Q ⟨l,by grind[act?_old],q,L.imp id (λe=>(heard_old hi).1 e)⟩).imp MM MM
end
end
end bn
namespace ai
structure bp where
 L:Bool
 W:Bool
 S:Bool
 k:Nat
 sema:Nat
 gG:Nat
def bp.word(m:bp):Nat:=m.L.toNat+2*m.W.toNat+4*m.S.toNat+8*m.k
def bp.jz(m:bp):Prop:=m.L=false/\m.W=false/\m.S=false/\0<m.k
inductive b3 where
 |idle|mo|jk|j6|hand|own
 |eG (v o:Nat)
 |c8|ps
def g5:b3->Nat| .own=>1| _=>0
def gH:b3->Nat| .jk=>1| _=>0
def fY:b3->Nat| .j6=>1| _=>0
def fE:b3->Nat| .hand=>1| _=>0
def dX:b3->Nat| .c8=>1| _=>0
def eh:b3->Nat| .ps=>1| _=>0
def ul(x:b3)(W:Bool):Bool:=match x with| .jk=>false| _=>W
def aY(f:b3->Nat)(xs:List b3):Nat:=(xs.map f).sum
theorem pd(f:b3->Nat):∀(xs:List b3)(i:Nat)(x y:b3),xs[i]?=some x->aY f (xs.set i y)+f x=aY f xs+f y
 | [],i,x,y,h=>AJ
 |a::xs,0,x,y,h=>by grind[aY]
 |a::xs,i+1,x,y,h=>by have:=pd f xs i x y Fa;simp[aY]at this⊢;omega
theorem CU(f:b3->Nat):∀(xs:List b3)(i:Nat)(x:b3),xs[i]?=some x->f x<=aY f xs
 | [],i,x,h=>AJ
 |a::xs,0,x,h=>by grind[aY]
 |a::xs,i+1,x,h=>by have:=CU f xs i x Fa;simp[aY]at this⊢;omega
theorem SL(f:b3->Nat):∀(xs:List b3)(i j:Nat)(x y:b3),xs[i]?=some x->xs[j]?=some y->i≠j->f x+f y<=aY f xs
 | [],i,j,x,y,h,_,_=>AJ
 |a::xs,0,0,x,y,_,_,h=>absurd Y h
 |a::xs,0,j+1,x,y,c,b,_=>by simp at c b;subst c;have:=CU f xs j y b;grind[aY]
 |a::xs,i+1,0,x,y,c,b,_=>by simp at c b;subst b;have:=CU f xs i x c;grind[aY]
 |a::xs,i+1,j+1,x,y,c,b,h=>by have:=SL f xs i j x y (by simpa using c) (by simpa using b) AP;simp[aY]at this⊢;omega
theorem aan(f:b3->Nat)(b:∀x,f x<=1):∀(xs:List b3),aY f xs<=xs.length
 | []=>by simp[aY]
 |a::xs=>by have:=aan f b xs;have:=b a;simp[aY]at *;omega
theorem aao(f:b3->Nat):∀(xs:List b3),(∀(i:Nat) x,xs[i]?=some x->f x=0)->aY f xs=0
 | [],_=>by simp[aY]
 |a::xs,h=>by have c:=h 0 a AQ;have b:=aao f xs λi x hi=>h (i+1) x Dk;simp[aY]at b⊢;omega
def SN(f:b3->Nat)(xs:List b3)(y:b3):aY f (xs++[y])=aY f xs+f y:=by simp[aY]
structure dm(m:bp)(xs:List b3):Prop where
 o:aY g5 xs=m.L.toNat
 nm:m.S=false->m.W.toNat=aY gH xs+aY dX xs+m.sema/\aY fE xs=0/\aY eh xs=0/\aY fY xs=m.k+m.sema+aY dX xs
 st:m.S=true->m.W=false/\aY gH xs=0/\aY dX xs=0/\m.L.toNat+aY fE xs+aY eh xs+m.sema=1/\aY fY xs+aY fE xs=m.k/\1<=m.k
 ov:m.jz->∃i:Nat,xs[i]?=some (.eG m.gG m.word)
 eG:∀(i:Nat) v o,xs[i]?=some (.eG v o)->v<=m.gG/\(v=m.gG->m.jz->o=m.word)
def q9(m:bp)(xs:List b3):Nat:=m.sema+aY dX xs+aY eh xs
section
variable{m:bp}{xs:List b3}{i:Nat}{x:b3}
def dm.Ni(h:dm m xs):m.k<=xs.length:=by
 have q:=aan fY (λx=>by cases x<;>simp[fY]) xs
 cases hS:m.S with
 |false=>have:=h.nm hS;omega
 |true=>
  have d:=h.st hS;have c:m.L.toNat<=1:=AJ;by_cases e:aY fE xs=0
  .omega
  .
   have:∀(xs:List b3),aY fY xs+aY fE xs<=xs.length:=by intro xs;induction xs with|nil=>simp[aY]|cons a xs b=>cases a<;>simp[aY,fY,fE]at b⊢ <;>omega
   grind
def sc{y:b3}(hi:xs[i]?=some x)(b:∀v o,x≠ .eG v o)(a:∀v o,y≠ .eG v o){j:Nat}{v o:Nat}:(xs.set i y)[j]?=some (.eG v o)↔xs[j]?=some (.eG v o):=by grind
def dm.ank(h:dm m xs)(hi:xs[i]?=some x)(d:x=.mo\/x=.jk)(k:m.L=false)(hS:m.S=false):dm {m with L:=true,W:=ul x m.W} (xs.set i .own):=by
 have c:=λf=>pd f xs i x .own hi;have o:=c g5;have a:=c gH;have p:=c dX;have hd:=c fE;have ps:=c eh;have q:=c fY;have nm:=h.nm hS;have g:=h.o;rw[k]at g;have l:m.W.toNat<=1:=vau _;rcases d with rfl|rfl;all_goals
  simp[g5,gH,dX,fE,eh,fY,ul]at *;refine⟨AJ,AJ,λe=>?_,λe=>?_,λj v o b=>?_⟩
  .grind
  .exact absurd e.1 AQ
  .have b:=(sc hi AQ AQ).1 b;exact⟨(h.eG j v o b).1,λ_ e=>absurd e.1 AQ⟩
def dm.queue(h:dm m xs)(hi:xs[i]?=some b3.mo)(hq:m.L=true\/m.S=true):dm {m with k:=m.k+1} (xs.set i b3.j6):=by
 have c:=λf=>pd f xs i b3.mo b3.j6 hi;have o:=c g5;have a:=c gH;have p:=c dX;have hd:=c fE;have ps:=c eh;have q:=c fY;have r:=h.o;have l:m.W.toNat<=1:=vau _;have n:m.L.toNat<=1:=vau _;simp only[g5,gH,dX,fE,eh,fY]at o a p hd ps q;refine⟨AJ,λe=>?_,λe=>?_,λe=>?_,λj v o' b=>?_⟩
 .have:=h.nm e;grind
 .have:=h.st e;grind
 .exact absurd e (by rintro⟨g,_,d,_⟩;grind)
 .have b:=(sc hi AQ AQ).1 b;exact⟨(h.eG j v o' b).1,λ_ e=>absurd e (by rintro⟨g,_,d,_⟩;grind)⟩
def dm.aap(h:dm m xs)(hi:xs[i]?=some .jk):m.S=false/\m.W=true/\aY gH xs=1/\aY dX xs=0/\m.sema=0:=by have a:=CU gH xs i .jk hi;have b:m.W.toNat<=1:=vau _;simp[gH]at a;cases hS:m.S with|true=>have:=h.st hS;omega|false=>have:=h.nm hS;grind
def dm.anl(h:dm m xs)(hi:xs[i]?=some b3.jk)(sv:Bool)(n:m.L=true):dm {m with k:=m.k+1,W:=false,S:=sv} (xs.set i b3.j6):=by
 have c:=λf=>pd f xs i b3.jk b3.j6 hi;have o:=c g5;have a:=c gH;have p:=c dX;have hd:=c fE;have ps:=c eh;have q:=c fY;have d:=h.o;have r:m.W.toNat<=1:=vau _;have g:m.L.toNat<=1:=AJ;simp only[g5,gH,dX,fE,eh,fY]at o a p hd ps q;obtain⟨hS,l,t,u,s⟩:=h.aap hi;have nm:=h.nm hS;rw[l]at nm;rw[n]at d g;simp at nm d;refine⟨AJ,λe=>?_,λe=>?_,λe=>absurd e.1 AJ,λj v o' b=>?_⟩
 .grind
 .grind
 .have b:=(sc hi AQ AQ).1 b;exact⟨(h.eG j v o' b).1,λ_ e=>absurd e.1 AJ⟩
def dm.anm(h:dm m xs)(hi:xs[i]?=some b3.mo)(n:m.L=true)(hS:m.S=false)(d:m.W=false):dm {m with W:=true} (xs.set i b3.jk):=by
 have c:=λf=>pd f xs i b3.mo b3.jk hi;have o:=c g5;have a:=c gH;have p:=c dX;have hd:=c fE;have ps:=c eh;have q:=c fY;have l:=h.o;have g:m.W.toNat<=1:=AJ;have k:m.L.toNat<=1:=AJ;simp only[g5,gH,dX,fE,eh,fY]at o a p hd ps q;have nm:=h.nm hS;rw[d]at nm;simp at nm;refine⟨AJ,λe=>?_,λe=>?_,λe=>absurd e.1 AJ,λj v o' b=>?_⟩
 .grind
 .grind
 .have b:=(sc hi AQ AQ).1 b;exact⟨(h.eG j v o' b).1,λ_ e=>absurd e.1 AJ⟩
def dm.ann(h:dm m xs)(hi:xs[i]?=some b3.j6)(hS:m.S=false)(hs:0<m.sema):dm {m with sema:=m.sema-1} (xs.set i b3.jk):=by
 have c:=λf=>pd f xs i b3.j6 b3.jk hi;have o:=c g5;have a:=c gH;have p:=c dX;have hd:=c fE;have ps:=c eh;have q:=c fY;have k:=h.o;have d:m.W.toNat<=1:=vau _;have g:m.L.toNat<=1:=vau _;simp only[g5,gH,dX,fE,eh,fY]at o a p hd ps q;have nm:=h.nm hS;have l:m.W=true:=by grind
 refine⟨AJ,λe=>?_,λe=>?_,λe=>absurd e.2.1 AJ,λj v o' b=>?_⟩
 .grind
 .grind
 .have b:=(sc hi AQ AQ).1 b;exact⟨(h.eG j v o' b).1,λ_ e=>absurd e.2.1 AJ⟩
def dm.ano(h:dm m xs)(hi:xs[i]?=some b3.j6)(hS:m.S=true)(hs:0<m.sema):dm {m with sema:=m.sema-1} (xs.set i b3.hand):=by
 have c:=λf=>pd f xs i b3.j6 b3.hand hi;have o:=c g5;have a:=c gH;have p:=c dX;have hd:=c fE;have ps:=c eh;have q:=c fY;have k:=h.o;have d:m.W.toNat<=1:=vau _;have g:m.L.toNat<=1:=vau _;simp only[g5,gH,dX,fE,eh,fY]at o a p hd ps q;have st:=h.st hS;refine⟨AJ,λe=>?_,λe=>?_,λe=>absurd e.2.2.1 AJ,λj v o' b=>?_⟩
 .grind
 .grind
 .have b:=(sc hi AQ AQ).1 b;exact⟨(h.eG j v o' b).1,λ_ e=>absurd e.2.2.1 AJ⟩
def dm.JA(h:dm m xs)(hi:xs[i]?=some .hand):m.S=true/\m.L=false/\m.W=false/\1<=m.k/\m.sema=0/\aY fE xs=1/\aY eh xs=0:=by have a:=CU fE xs i .hand hi;have b:m.L.toNat<=1:=vau _;simp[fE]at a;cases hS:m.S with|false=>have:=h.nm hS;omega|true=>have:=h.st hS;grind
def dm.handed(h:dm m xs)(hi:xs[i]?=some b3.hand)(clear:Bool)(w:clear=false->2<=m.k):dm {m with L:=true,k:=m.k-1,S:= !clear} (xs.set i b3.own):=by
 have c:=λf=>pd f xs i b3.hand b3.own hi;have o:=c g5;have a:=c gH;have p:=c dX;have hd:=c fE;have ps:=c eh;have q:=c fY;have d:=h.o;have l:m.W.toNat<=1:=vau _;have n:m.L.toNat<=1:=vau _;simp only[g5,gH,dX,fE,eh,fY]at o a p hd ps q;obtain⟨hS,g,x,s,u,r,t⟩:=h.JA hi;have st:=h.st hS;rw[g]at d st;simp at d st;refine⟨AJ,λe=>?_,λe=>?_,λe=>absurd e.1 AQ,λj v o' b=>?_⟩
 .grind
 .grind
 .have b:=(sc hi AQ AQ).1 b;exact⟨(h.eG j v o' b).1,λ_ e=>absurd e.1 AQ⟩
def dm.Nj(h:dm m xs)(hi:xs[i]?=some .own):m.L=true:=by have a:=CU g5 xs i .own hi;simp[g5]at a;have:=h.o;grind
def dm.aaq(h:dm m xs){j:Nat}(hi:xs[i]?=some .own)(c:xs[j]?=some .own):i=j:=by apply vap;intro b;have a:=SL g5 xs i j .own .own hi c b;simp only[g5]at a;have:=h.o;grind[Bool.toNat_le]
def dm.anp(h:dm m xs)(hi:xs[i]?=some b3.own)(hS:m.S=true):dm {m with L:=false} (xs.set i b3.ps):=by
 have c:=λf=>pd f xs i b3.own b3.ps hi;have o:=c g5;have a:=c gH;have p:=c dX;have hd:=c fE;have ps:=c eh;have q:=c fY;have d:=h.o;have k:m.W.toNat<=1:=vau _;have l:m.L.toNat<=1:=vau _;simp only[g5,gH,dX,fE,eh,fY]at o a p hd ps q;have g:=h.Nj hi;have st:=h.st hS;rw[g]at d st;simp at d st;refine⟨AJ,λe=>?_,λe=>?_,λe=>absurd e.2.2.1 AJ,λj v o' b=>?_⟩
 .grind
 .grind
 .have b:=(sc hi AQ AQ).1 b;exact⟨(h.eG j v o' b).1,λ_ e=>absurd e.2.2.1 AJ⟩
def dm.anq(h:dm m xs)(hi:xs[i]?=some .own)(hS:m.S=false)(hk:m.k=0):dm {m with L:=false} (xs.set i .idle):=by
 have c:=λf=>pd f xs i .own .idle hi;have o:=c g5;have a:=c gH;have p:=c dX;have hd:=c fE;have ps:=c eh;have q:=c fY;have d:=h.o;have g:=h.Nj hi;simp only[g5,gH,dX,fE,eh,fY]at o a p hd ps q;have nm:=h.nm hS;rw[g]at d;simp at d;refine⟨AJ,λe=>?_,λe=>?_,λe=>absurd e.2.2.2 AJ,λj v o' b=>?_⟩
 .grind
 .grind
 .have b:=(sc hi AQ AQ).1 b;exact⟨(h.eG j v o' b).1,λ_ e=>absurd e.2.2.2 AJ⟩
def dm.anr(h:dm m xs)(hi:xs[i]?=some .own)(hS:m.S=false):dm {m with L:=false,gG:=m.gG+1} (xs.set i (.eG (m.gG+1) ({m with L:=false}:bp).word)):=by
 have c:=λf=>pd f xs i .own (.eG (m.gG+1) ({m with L:=false}:bp).word) hi;have o:=c g5;have a:=c gH;have p:=c dX;have hd:=c fE;have ps:=c eh;have q:=c fY;have g:=h.o;have l:=h.Nj hi;have b:i<xs.length:=(vab.1 hi).1;simp only[g5,gH,dX,fE,eh,fY]at o a p hd ps q;have nm:=h.nm hS;rw[l]at g;simp at g;refine⟨AJ,λe=>?_,λe=>?_,λe=>⟨i,by rw[vcd b];rfl⟩,λj v o' d=>?_⟩
 .grind
 .grind
 .by_cases k:j=i
  .subst k;rw[vcd b]at d;simp at d;obtain⟨rfl,rfl⟩:=d;exact⟨vad _,λ_ _=>Y⟩
  .rw[vbb (Ne.symm k)]at d;have:=(h.eG j v o' d).1;grind
def dm.SO(h:dm m xs){v o:Nat}(hi:xs[i]?=some (.eG v o))(g:m.jz):dm {m with k:=m.k-1,W:=true} (xs.set i .c8):=by
 have c:=λf=>pd f xs i (.eG v o) .c8 hi;have o':=c g5;have a:=c gH;have p:=c dX;have hd:=c fE;have ps:=c eh;have q:=c fY;have s:=h.o;have d:i<xs.length:=(vab.1 hi).1;simp only[g5,gH,dX,fE,eh,fY]at o' a p hd ps q;obtain⟨t,l,hS,hk⟩:=g;have nm:=h.nm hS;rw[l]at nm;simp at nm;refine⟨AJ,λe=>?_,λe=>?_,λe=>absurd e.2.1 AQ,λj v' r b=>?_⟩
 .grind
 .grind
 .by_cases n:j=i
  .grind
  .rw[vbb (Ne.symm n)]at b;exact⟨(h.eG j v' r b).1,λ_ e=>absurd e.2.1 AQ⟩
def dm.leave(h:dm m xs){v o:Nat}(hi:xs[i]?=some (.eG v o))(hn:¬(m.jz/\m.gG=v)):dm m (xs.set i .idle):=by
 have c:=λf=>pd f xs i (.eG v o) .idle hi;have o':=c g5;have a:=c gH;have p:=c dX;have hd:=c fE;have ps:=c eh;have q:=c fY;have l:=h.o;have d:i<xs.length:=(vab.1 hi).1;simp only[g5,gH,dX,fE,eh,fY]at o' a p hd ps q;refine⟨AP,λe=>?_,λe=>?_,λe=>?_,λj v' k b=>?_⟩
 .have:=h.nm e;omega
 .have:=h.st e;grind
 .obtain⟨j,b⟩:=h.ov e;refine⟨j,?_⟩;grind
 .by_cases g:j=i
  .grind
  .rw[vbb (Ne.symm g)]at b;exact h.eG j v' k b
def dm.ans(h:dm m xs)(hi:xs[i]?=some b3.c8):dm {m with sema:=m.sema+1} (xs.set i b3.idle):=by
 have c:=λf=>pd f xs i b3.c8 b3.idle hi;have o:=c g5;have a:=c gH;have p:=c dX;have hd:=c fE;have ps:=c eh;have q:=c fY;have k:=h.o;have d:m.W.toNat<=1:=vau _;have g:m.L.toNat<=1:=vau _;simp only[g5,gH,dX,fE,eh,fY]at o a p hd ps q;refine⟨AJ,λe=>?_,λe=>?_,λe=>?_,λj v o' b=>?_⟩
 .have:=h.nm e;grind
 .have:=h.st e;grind
 .obtain⟨j,b⟩:=h.ov e;exact⟨j,(sc hi AQ AQ).2 b⟩
 .have b:=(sc hi AQ AQ).1 b;exact h.eG j v o' b
def dm.ant(h:dm m xs)(hi:xs[i]?=some b3.ps):dm {m with sema:=m.sema+1} (xs.set i b3.idle):=by
 have c:=λf=>pd f xs i b3.ps b3.idle hi;have o:=c g5;have a:=c gH;have p:=c dX;have hd:=c fE;have ps:=c eh;have q:=c fY;have k:=h.o;have d:m.W.toNat<=1:=vau _;have g:m.L.toNat<=1:=vau _;simp only[g5,gH,dX,fE,eh,fY]at o a p hd ps q;refine⟨AJ,λe=>?_,λe=>?_,λe=>?_,λj v o' b=>?_⟩
 .have:=h.nm e;grind
 .have:=h.st e;grind
 .obtain⟨j,b⟩:=h.ov e;exact⟨j,(sc hi AQ AQ).2 b⟩
 .have b:=(sc hi AQ AQ).1 b;exact h.eG j v o' b
def dm.start(h:dm m xs)(hi:xs[i]?=some b3.idle):dm m (xs.set i b3.mo):=by
 have c:=λf=>pd f xs i b3.idle b3.mo hi;have o:=c g5;have a:=c gH;have p:=c dX;have hd:=c fE;have ps:=c eh;have q:=c fY;have k:=h.o;have d:m.W.toNat<=1:=vau _;have g:m.L.toNat<=1:=vau _;simp only[g5,gH,dX,fE,eh,fY]at o a p hd ps q;refine⟨AP,λe=>?_,λe=>?_,λe=>?_,λj v o' b=>?_⟩
 .have:=h.nm e;omega
 .have:=h.st e;grind
 .obtain⟨j,b⟩:=h.ov e;exact⟨j,AJ⟩
 .have b:=(sc hi AQ AQ).1 b;exact h.eG j v o' b
def dm.alive(h:dm m xs)(hs:m.sema=0)(hi:xs[i]?=some .j6):∃(j:Nat)(y:b3),xs[j]?=some y/\y≠ .idle/\y≠ .j6:=by
 apply vap;intro hn;have all:∀(j:Nat)(y:b3),xs[j]?=some y->y=.idle\/y=.j6:=AJ;have z:∀f:b3->Nat,f .idle=0->f .j6=0->aY f xs=0:=λf k g=>aao f xs AJ;have o:=z g5 Y Y;have a:=z gH Y Y;have p:=z dX Y Y;have hd:=z fE Y Y;have ps:=z eh Y Y;have q:=CU fY xs i .j6 hi;simp[fY]at q;have d:=h.o;have c:m.L=false:=by grind
 cases hS:m.S with
 |true=>have:=h.st hS;grind
 |false=>
  have nm:=h.nm hS;have b:m.W=false:=by grind
  obtain⟨j,e⟩:=h.ov ⟨c,b,hS,AP⟩;grind
def dm.push(h:dm m xs):dm m (xs++[.idle]):=by
 have c:=λf=>SN f xs .idle;have o:=c g5;have a:=c gH;have p:=c dX;have hd:=c fE;have ps:=c eh;have q:=c fY;simp only[g5,gH,dX,fE,eh,fY]at o a p hd ps q;have i:=h.o;refine⟨AP,λe=>?_,λe=>?_,λe=>?_,λj v o' d=>?_⟩
 .have:=h.nm e;omega
 .have:=h.st e;grind
 .obtain⟨j,d⟩:=h.ov e;have b:j<xs.length:=(vab.1 d).1;exact⟨j,AJ⟩
 .rcases vcf j xs.length with b|g
  .rw[List.getElem?_append_left b]at d;exact h.eG j v o' d
  grind
end
def yO(z:b3)(m m1:bp):Prop:=(z=.hand->m.k<=m1.k)/\∀v o,z=.eG v o->¬(m.jz/\m.gG=v)->¬(m1.jz/\m1.gG=v)
theorem yO.refl(z:b3)(m:bp):yO z m m:=⟨AJ,λ_ _ _ h=>h⟩
theorem yO.trans{z:b3}{a b c:bp}(h:yO z a b)(d:yO z b c):yO z a c:=⟨λe=>vac (h.1 e) (d.1 e),λv o e n=>d.2 v o e (h.2 v o e n)⟩
structure lZ(x y:b3)(m m1:bp)(f f1:Nat):Prop where
 inv:∀(xs:List b3)(i:Nat),xs[i]?=some x->dm m xs->dm m1 (xs.set i y)
 fuel:∀(xs:List b3)(i:Nat),xs[i]?=some x->dm m xs->f1+2*q9 m1 (xs.set i y)+1<=f+2*q9 m xs
 k9:∀(xs:List b3)(i j:Nat)(z:b3),dm m xs->xs[i]?=some x->j≠i->xs[j]?=some z->yO z m m1
section
variable{m:bp}{f f1:Nat}
theorem q_{xs:List b3}{i:Nat}{x:b3}(hi:xs[i]?=some x)(m1:bp)(y:b3):q9 m1 (xs.set i y)+dX x+eh x+m.sema=q9 m xs+dX y+eh y+m1.sema:=by grind[pd,q9]
def xy{z:b3}{m1:bp}(hk:m.k<=m1.k)(a:m1.jz->m.jz/\m1.gG=m.gG):yO z m m1:=⟨λ_=>hk,AJ⟩
def s5(a:f1<f)(x:b3):lZ x x m m f f1:=by
 have e:∀(xs:List b3)(i:Nat),xs[i]?=some x->xs.set i x=xs:=λxs i hi=>by apply vbw;grind
 exact⟨AJ,AJ,λ_ _ _ z _ _ _ _=>.refl z m⟩
def anu(a:f1<f):lZ .idle .mo m m f f1:=
 ⟨λxs i hi h=>h.start hi,λxs i hi _=>by have:=q_ (m:=m) hi m .mo;grind[dX,eh],λ_ _ _ z _ _ _ _=>.refl z m⟩
def SQ{x:b3}(a:x=.mo\/x=.jk)(b:m.L=false)(hS:m.S=false)(c:f1<f):lZ x .own m {m with L:=true,W:=ul x m.W} f f1:=
 ⟨λxs i hi h=>h.ank hi a b hS,λxs i hi _=>by
  have:=q_ (m:=m) hi {m with L:=true,W:=ul x m.W} .own;rcases a with rfl|rfl<;>simp[dX,eh]at this⊢ <;>omega,
  λ_ _ _ z _ _ _ _=>xy Kj (λe=>absurd e.1 AQ)⟩
def aar(hq:m.L=true\/m.S=true)(a:f1<f):lZ .mo .j6 m {m with k:=m.k+1} f f1:=
 ⟨λxs i hi h=>h.queue hi hq,λxs i hi _=>by have:=q_ (m:=m) hi {m with k:=m.k+1} .j6;grind[dX,eh],
  λ_ _ _ z _ _ _ _=>xy (Nat.le_succ _) (λe=>by obtain⟨c,_,b,_⟩:=e;grind)⟩
def aas(sv:Bool)(a:m.L=true)(b:f1<f):lZ .jk .j6 m {m with k:=m.k+1,W:=false,S:=sv} f f1:=
 ⟨λxs i hi h=>h.anl hi sv a,λxs i hi _=>by have:=q_ (m:=m) hi {m with k:=m.k+1,W:=false,S:=sv} .j6;grind[dX,eh],
  λ_ _ _ z _ _ _ _=>xy (Nat.le_succ _) (λe=>absurd e.1 AJ)⟩
def anv(b:m.L=true)(hS:m.S=false)(a:m.W=false)(c:f1<f):lZ .mo .jk m {m with W:=true} f f1:=
 ⟨λxs i hi h=>h.anm hi b hS a,λxs i hi _=>by have:=q_ (m:=m) hi {m with W:=true} .jk;grind[dX,eh],
  λ_ _ _ z _ _ _ _=>xy Kj (λe=>absurd e.1 AJ)⟩
def anw(hS:m.S=false)(hs:0<m.sema)(a:f1<f+2):lZ .j6 .jk m {m with sema:=m.sema-1} f f1:=
 ⟨λxs i hi h=>h.ann hi hS hs,λxs i hi _=>by have:=q_ (m:=m) hi {m with sema:=m.sema-1} .jk;grind[dX,eh],
  λ_ _ _ z _ _ _ _=>xy Kj (λe=>⟨e,Y⟩)⟩
def anx(hS:m.S=true)(hs:0<m.sema)(a:f1<f+2):lZ .j6 .hand m {m with sema:=m.sema-1} f f1:=
 ⟨λxs i hi h=>h.ano hi hS hs,λxs i hi _=>by have:=q_ (m:=m) hi {m with sema:=m.sema-1} .hand;grind[dX,eh],
  λ_ _ _ z _ _ _ _=>xy Kj (λe=>⟨e,Y⟩)⟩
def anz(clear:Bool)(c:clear=false->2<=m.k)(d:f1<f):lZ .hand .own m {m with L:=true,k:=m.k-1,S:= !clear} f f1:=
 ⟨λxs i hi h=>h.handed hi clear c,λxs i hi _=>by have:=q_ (m:=m) hi {m with L:=true,k:=m.k-1,S:= !clear} .own;grind[dX,eh],
  λxs i j z h hi b a=>⟨λe=>by
   subst e;have:=SL fE xs i j .hand .hand hi a (Ne.symm b);have g:=(h.JA hi).2.2.2.2.2.1;grind[fE],λ_ _ _ _ e=>absurd e.1.1 AQ⟩⟩
def anA(hS:m.S=true)(a:f1+2<f):lZ .own .ps m {m with L:=false} f f1:=
 ⟨λxs i hi h=>h.anp hi hS,λxs i hi _=>by have:=q_ (m:=m) hi {m with L:=false} .ps;grind[dX,eh],
  λ_ _ _ z _ _ _ _=>xy Kj (λe=>absurd e.2.2.1 AJ)⟩
def anB(hS:m.S=false)(hk:m.k=0)(a:f1<f):lZ .own .idle m {m with L:=false} f f1:=
 ⟨λxs i hi h=>h.anq hi hS hk,λxs i hi _=>by have:=q_ (m:=m) hi {m with L:=false} .idle;grind[dX,eh],
  λ_ _ _ z _ _ _ _=>xy Kj (λe=>absurd e.2.2.2 AJ)⟩
def anC(hS:m.S=false)(c:f1<f):lZ .own (.eG (m.gG+1) ({m with L:=false}:bp).word) m {m with L:=false,gG:=m.gG+1} f f1:=
 ⟨λxs i hi h=>h.anr hi hS,λxs i hi _=>by have:=q_ (m:=m) hi {m with L:=false,gG:=m.gG+1} (.eG (m.gG+1) ({m with L:=false}:bp).word);grind[dX,eh],
  λxs i j z h hi b a=>⟨AJ,λv o e _ d=>by
   subst e;have:=(h.eG j v o a).1;grind⟩⟩
def anD{v o:Nat}(a:m.jz)(d:f1+2<f):lZ (.eG v o) .c8 m {m with k:=m.k-1,W:=true} f f1:=
 ⟨λxs i hi h=>h.SO hi a,λxs i hi _=>by have:=q_ (m:=m) hi {m with k:=m.k-1,W:=true} .c8;grind[dX,eh],
  λxs i j z h hi c b=>⟨λe=>by
   subst e;have:=(h.JA b).1;rw[a.2.2.1]at this;grind,AJ⟩⟩
def anE{v o:Nat}(hn:¬(m.jz/\m.gG=v))(a:f1<f):lZ (.eG v o) .idle m m f f1:=
 ⟨λxs i hi h=>h.leave hi hn,λxs i hi _=>by have:=q_ (m:=m) hi m .idle;grind[dX,eh],λ_ _ _ z _ _ _ _=>.refl z m⟩
def anF(a:f1<f):lZ .c8 .idle m {m with sema:=m.sema+1} f f1:=
 ⟨λxs i hi h=>h.ans hi,λxs i hi _=>by grind[q_,dX,eh],λ_ _ _ z _ _ _ _=>xy Kj (λe=>⟨e,Y⟩)⟩
def anG(a:f1<f):lZ .ps .idle m {m with sema:=m.sema+1} f f1:=
 ⟨λxs i hi h=>h.ant hi,λxs i hi _=>by have:=q_ (m:=m) hi {m with sema:=m.sema+1} .idle;grind[dX,eh],λ_ _ _ z _ _ _ _=>xy Kj (λe=>⟨e,Y⟩)⟩
end
end ai
namespace e_
inductive an2 where
 |free
 |has (p:Nat)
 |half (p:Nat) (v:Value)
 |rel
 |nW
 |lb
inductive JK where
 |spawn (k:Nat) (pend:Bool)
 |qa
 |s_
 |over
inductive At where
 |main (s:JK)
 |work (s:an2) (put:uac)
 |gone (put:uac)
 |old
structure cb where
 aY:Nat
 ea:Bool
 gI:Nat
 taken:Nat
 came:Nat
 done:List Value
 least:Option Nat
def gC:At->Nat
 | .main (.spawn _ true)=>1
 | .work .free _ | .work (.has _) _ | .work (.half _ _) _ | .work .rel _=>1
 | _=>0
def gJ:At->Nat| .work .nW _=>1| _=>0
def gW:At->Nat| .work .lb _=>1| _=>0
def yQ:At->Bool
 | .work .rel _ | .work .nW _ | .work .lb _ | .gone _=>true
 | _=>false
def n3:At->List (Nat×Value)
 | .work _ l| .gone l=>l
 | _=>[]
def hand:At->List Nat
 | .work (.has p) _ | .work (.half p _) _=>[p]
 | _=>[]
def laid:At->List (Nat×Value)
 | .work (.half p v) l=>(p,v)::l
 | .work _ l| .gone l=>l
 | _=>[]
def dO(p:Nat)(a:At):Nat:=(hand a).count p+((n3 a).map (·.1)).count p
def dP(p:Nat)(a:At):Nat:=((n3 a).map (·.1)).count p
def dh(f:At->Nat)(az:List At):Nat:=(az.map f).sum
theorem ur(f:At->Nat):∀(az:List At)(i:Nat)(x y:At),az[i]?=some x->dh f (az.set i y)+f x=dh f az+f y
 | [],i,x,y,h=>AJ
 |a::az,0,x,y,h=>by grind[dh]
 |a::az,i+1,x,y,h=>by have:=ur f az i x y Fa;simp[dh]at this⊢;omega
theorem oK(f:At->Nat):∀(az:List At)(i:Nat)(x:At),az[i]?=some x->f x<=dh f az
 | [],i,x,h=>AJ
 |a::az,0,x,h=>by grind[dh]
 |a::az,i+1,x,h=>by have:=oK f az i x Fa;simp[dh]at this⊢;omega
def an3(f:At->Nat)(az:List At)(y:At):dh f (az++[y])=dh f az+f y:=by simp[dh]
theorem Ns(f:At->Nat):∀(az:List At),(∀(i:Nat) x,az[i]?=some x->f x=0)->dh f az=0
 | [],_=>by simp[dh]
 |a::az,h=>by have c:=h 0 a AQ;have b:=Ns f az λi x hi=>h (i+1) x Dk;simp[dh]at b⊢;omega
def ib(f:uas):Nat->Nat
 |0=>0
 |n+1=>ib f n+f n
theorem S_{f g:uas}:∀{n:Nat},(∀p,p<n->f p<=g p)->ib f n<=ib g n
 |0,_=>vad _
 |n+1,h=>by have:=S_ (n:=n) λp a=>h p AP;grind[ib]
theorem Nt{f g:uas}:∀{n:Nat},(∀p,p<n->f p=g p)->ib f n=ib g n
 |0,_=>rfl
 |n+1,h=>by have c:=Nt (n:=n) λp a=>h p AP;have b:=h n AP;simp[ib];omega
theorem aaz{f g:uas}{q d:Nat}:∀{n:Nat},q<n->(∀p,p≠q->g p=f p)->g q=f q+d->ib g n=ib f n+d
 |0,h,_,_=>AP
 |n+1,h,b,a=>by
  simp[ib];by_cases e:q=n
  .grind[Nt]
  .have:=aaz (n:=n) AP b a;grind
def vG(s:JK)(b:cb)(az:List At):Prop:=
 match s with
 | .spawn _ _ | .qa=>b.ea=false/\b.gI=0/\dh gJ az=0/\dh gW az=0
 | .s_=>(b.ea=true/\b.gI=0/\dh gW az=0/\((0<b.aY/\dh gJ az=0)\/(b.aY=0/\dh gJ az=1)))\/(b.ea=false/\b.aY=0/\dh gJ az=0/\b.gI+dh gW az=1)
 | .over=>b.ea=false/\b.aY=0/\b.gI=0/\dh gJ az=0/\dh gW az=0
def Ta(m:Nat)(az:List At):Prop:=∀k q,az[0]?=some (.main (.spawn k q))->az.length=m+k
def aaA:At->Bool
 | .work _ _ | .gone _=>true
 | _=>false
def JL(m:Nat)(az:List At):Prop:=∀s,az[0]?=some (.main s)->(∃q,s=.spawn 0 q)\/∃a,az[m]?=some a/\aaA a=true
def Low(N:Nat)(bad:uaz)(L:ubc)(put:uas):Prop:=(∀q,L=some q->bad q=true/\q<N)/\∀p,bad p=true->0<put p->∃q,L=some q/\q<=p
structure cV(N:Nat)(rows:uas)(bad:uaz)(b:cb)(az:List At):Prop where
 pg:Ta (rows N) az
 ta:JL (rows N) az
 main:∃s,az[0]?=some (.main s)/\vG s b az
 only:∀(j:Nat) s,az[j]?=some (.main s)->j=0
 aY:b.aY=dh gC az
 aS:b.taken<=N
 len:b.done.length=N
 own:∀p,dh (dO p) az=if p<b.taken then 1 else 0
 val:∀(j:Nat) a,az[j]?=some a->∀pv∈laid a,bad pv.1=false->b.done[pv.1]?=some pv.2
 came:b.came=ib (λp=>dh (dP p) az*rows p) N/\Low N bad b.least λp=>dh (dP p) az
 e6:(∃(j:Nat)(a:At),az[j]?=some a/\yQ a=true)->b.taken=N
variable{v:Value}
section
variable{N:Nat}{rows:uas}{bad:uaz}{b:cb}{az:List At}{i:Nat}
def xA{m:Nat}{x y:At}(h:Ta m az)(hi:az[i]?=some x)(c:∀k q,y=.main (.spawn k q)->∃a,x=.main (.spawn k a)):Ta m (az.set i y):=by
 intro k q hk;rw[vds];have b:i<az.length:=(vab.1 hi).1;by_cases e:i=0
 .subst e;rw[vcd b]at hk;obtain⟨a,rfl⟩:=c k q AJ;exact h k a hi
 .rw[vbb e]at hk;exact h k q hk
def yR{m:Nat}{x y:At}(h:JL m az)(hi:az[i]?=some x)(h0:i≠0)(b:aaA y=true):JL m (az.set i y):=by intro s hs;rw[vbb h0]at hs;refine(h s hs).imp id λ⟨a,d,c⟩=>?_;grind
def an4{m:Nat}{s c:JK}(h:JL m az)(hi:az[0]?=some (.main s))(hs:∀q,s=.spawn 0 q->∃g,c=.spawn 0 g):JL m (az.set 0 (.main c)):=by
 intro je f;have b:0<az.length:=(vab.1 hi).1;rw[vcd b]at f;cases f;refine(h s hi).imp AJ λ⟨a,e,d⟩=>⟨a,?_,d⟩;have:0≠m:=by rintro rfl;rw[hi]at e;cases e;cases d
 grind
def an5(p:Nat)(a:At):dP p a<=dO p a:=Nat.le_add_left _ _
theorem aaB{f g:At->Nat}(h:∀a,f a<=g a):∀(az:List At),dh f az<=dh g az
 | []=>by simp[dh]
 |a::az=>by have:=aaB h az;grind[dh]
def cV.aaC(h:cV N rows bad b az):b.came<=ib rows N:=by rw[h.came.1];refine S_ λp _=>?_;have c:=aaB (an5 p) az;have a:=h.own p;grind[Nat.le_one_iff_eq_zero_or_eq_one]
def yS{x:At}(h:cV N rows bad b az)(hi:az[i]?=some x)(a:∀s,x≠ .main s):i≠0:=by rintro rfl;obtain⟨s,hs,_⟩:=h.main;grind
theorem aaD(f:At->Nat):∀(az:List At)(i j:Nat)(x y:At),az[i]?=some x->az[j]?=some y->i≠j->f x+f y<=dh f az
 | [],i,j,x,y,h,_,_=>AJ
 |a::az,0,0,x,y,_,_,h=>absurd Y h
 |a::az,0,j+1,x,y,c,b,_=>by simp at c b;subst c;have:=oK f az j y b;grind[dh]
 |a::az,i+1,0,x,y,c,b,_=>by simp at c b;subst b;have:=oK f az i x c;grind[dh]
 |a::az,i+1,j+1,x,y,c,b,h=>by have:=aaD f az i j x y (by simpa using c) (by simpa using b) AP;simp[dh]at this⊢;omega
def an6{a:At}{p:Nat}(h:(p,v)∈laid a):1<=dO p a:=by
 unfold dO;cases a with
 |main s=>simp[laid]at h
 |old=>simp[laid]at h
 |gone l=>have:p∈l.map (·.1):=vbx.2 ⟨_,h,Y⟩;grind[n3]
 |work s l=>
  have key:∀{l:uac},(p,v)∈l->1<=(l.map (·.1)).count p:=λh=>vdw.2 AJ;cases s with
  |half q u=>
   simp[laid]at h;rcases h with⟨rfl,rfl⟩|h
   .simp[hand]
   grind[n3]
  | _=>have:=key (show(p,v)∈l from h);grind[n3]
theorem JM{s:JK}{b b1:cb}{az a:List At}(f:b1.aY=b.aY)(e:b1.ea=b.ea)(d:b1.gI=b.gI)(c:dh gJ a=dh gJ az)(g:dh gW a=dh gW az)(h:vG s b az):vG s b1 a:=by simp_all[vG]
def iT{az:List At}{i j:Nat}{x y a:At}(hi:az[i]?=some x)(h:(az.set i y)[j]?=some a):(j=i/\a=y)\/(j≠i/\az[j]?=some a):=by grind
def cV.take(h:cV N rows bad b az){l:uac}(a3:b.taken<N)(hi:az[i]?=some (.work .free l)):cV N rows bad {b with taken:=b.taken+1} (az.set i (.work (.has b.taken) l)):=by
 have h0:i≠0:=yS h hi AQ;have c:=λf=>ur f az i (.work .free l) (.work (.has b.taken) l) hi;have c1:=c gC;have co:=c gJ;have db:=c gW;simp only[gC,gJ,gW]at c1 co db;have t:=h.aY;obtain⟨s,hs,r⟩:=h.main;refine⟨xA h.pg hi AJ,yR h.ta hi h0 Y,⟨s,AJ,?_⟩,λj s' g=>?_,AJ,AJ,h.len,λd=>?_,λj a g pv k m=>?_,?_,λ⟨j,a,g,o⟩=>?_⟩
 .grind[JM]
 .rcases iT hi g with⟨_,e⟩|⟨_,e⟩
  .cases e
  .exact h.only j s' e
 .have:=c (dO d);have e:=h.own d;simp only[dO,hand,n3,List.count_nil,List.count_singleton]at this;simp only;by_cases q:d=b.taken
  .grind
  grind
 .rcases iT hi g with⟨rfl,rfl⟩|⟨n,e⟩
  .exact h.val j _ hi pv k m
  .exact h.val j a e pv k m
 .have e:∀d,dh (dP d) (az.set i (.work (.has b.taken) l))=dh (dP d) az:=λd=>by have:=c (dP d);have p:dP d (.work (.has b.taken) l)=dP d (.work .free l):=rfl;grind
  simp only[e];exact h.came
 .rcases iT hi g with⟨rfl,rfl⟩|⟨_,e⟩
  .simp[yQ]at o
  .have:=h.e6 AJ;omega
def cV.lay(h:cV N rows bad b az){p:Nat}{l:uac}(hi:az[i]?=some (.work (.has p) l)):cV N rows bad {b with done:=b.done.set p v} (az.set i (.work (.half p v) l)):=by
 have h0:i≠0:=yS h hi AQ;have c:=λf=>ur f az i (.work (.has p) l) (.work (.half p v) l) hi;have c1:=c gC;have co:=c gJ;have db:=c gW;simp only[gC,gJ,gW]at c1 co db;have y:=h.aY;obtain⟨s,hs,x⟩:=h.main;refine⟨xA h.pg hi AJ,yR h.ta hi h0 Y,⟨s,AJ,?_⟩,λj s' k=>?_,AJ,h.aS,by simp;exact h.len,λd=>?_,λj a k pv m n=>?_,?_,λ⟨j,a,k,q⟩=>?_⟩
 .grind[JM]
 .rcases iT hi k with⟨_,e⟩|⟨_,e⟩
  .cases e
  .exact h.only j s' e
 .have:=c (dO d);have e:=h.own d;have o:dO d (.work (.half p v) l)=dO d (.work (.has p) l):=rfl;grind
 .rcases iT hi k with⟨rfl,rfl⟩|⟨g,e⟩
  .have w:p<b.done.length:=by
    have e:=h.own p;have:=oK (dO p) az j _ hi;have u:1<=dO p (.work (.has p) l):=by simp[dO,hand]
    rw[h.len];have:=h.aS;grind
   simp[laid]at m;rcases m with rfl|m
   .grind
   .have g:pv.1≠p:=λe=>by have r:1<=(l.map (·.1)).count p:=vdw.2 AJ;have t:=h.own p;grind[oK,dO,hand,n3]
    simp only;rw[vbb (Ne.symm g)];exact h.val j _ hi pv m n
  .have g:pv.1≠p:=λz=>by
    have r:1<=dO p a:=an6 (v:=pv.2) AJ;have:=aaD (dO p) az i j _ _ hi e (Ne.symm g);have u:1<=dO p (.work (.has p) l):=by simp[dO,hand]
    have t:=h.own p;grind
   simp only;rw[vbb (Ne.symm g)];exact h.val j a e pv m n
 .have e:∀d,dh (dP d) (az.set i (.work (.half p v) l))=dh (dP d) az:=λd=>by have:=c (dP d);have o:dP d (.work (.half p v) l)=dP d (.work (.has p) l):=rfl;grind
  simp only[e];exact h.came
 .rcases iT hi k with⟨rfl,rfl⟩|⟨_,e⟩
  .simp[yQ]at q
  .exact h.e6 AJ
def cV.count(h:cV N rows bad b az){p:Nat}{l:uac}(w:bad p=false)(hi:az[i]?=some (.work (.half p v) l)):cV N rows bad {b with came:=b.came+rows p} (az.set i (.work .free ((p,v)::l))):=by
 have h0:i≠0:=yS h hi AQ;have c:=λf=>ur f az i (.work (.half p v) l) (.work .free ((p,v)::l)) hi;have c1:=c gC;have co:=c gJ;have db:=c gW;simp only[gC,gJ,gW]at c1 co db;have u:=h.aY;obtain⟨s,hs,t⟩:=h.main;refine⟨xA h.pg hi AJ,yR h.ta hi h0 Y,⟨s,AJ,?_⟩,λj s' g=>?_,AJ,h.aS,h.len,λd=>?_,λj a g pv k m=>?_,?_,λ⟨j,a,g,q⟩=>?_⟩
 .grind[JM]
 .rcases iT hi g with⟨_,e⟩|⟨_,e⟩
  .cases e
  .exact h.only j s' e
 .have:=c (dO d);have e:=h.own d;grind[dO,hand,n3]
 .rcases iT hi g with⟨rfl,rfl⟩|⟨o,e⟩
  .exact h.val j _ hi pv k m
  .exact h.val j a e pv k m
 .have r:p<N:=by
   have e:=h.own p;have:=oK (dO p) az i _ hi;have x:1<=dO p (.work (.half p v) l):=by simp[dO,hand]
   have:=h.aS;grind
  simp only;refine⟨?_,h.came.2.1,λd n h0=>h.came.2.2 d n ?_⟩
  .rw[h.came.1];grind[aaz,dP,n3]
  .have:=c (dP d);grind[dP,n3]
 .rcases iT hi g with⟨rfl,rfl⟩|⟨_,e⟩
  .simp[yQ]at q
  .exact h.e6 AJ
def cV.low(h:cV N rows bad b az){p:Nat}{l:uac}(j:bad p=true)(hq:∀q,b.least=some q->p<=q)(hi:az[i]?=some (.work (.has p) l)):cV N rows bad {b with least:=some p} (az.set i (.work (.has p) l)):=by
 have e:az.set i (.work (.has p) l)=az:=by obtain⟨c,a⟩:=vab.1 hi;rw[<-a];exact List.set_getElem_self c
 rw[e];have g:p<N:=by
  have e:=h.own p;have:=oK (dO p) az i _ hi;have k:1<=dO p (.work (.has p) l):=by simp[dO,hand]
  have:=h.aS;grind
 exact⟨h.pg,h.ta,h.main,h.only,h.aY,h.aS,h.len,h.own,h.val,⟨h.came.1,AJ,λf d h0=>by obtain⟨q,c,a⟩:=h.came.2.2 f d h0;exact⟨p,Y,vac (hq q c) a⟩⟩,h.e6⟩
def cV.fail(h:cV N rows bad b az){p:Nat}{l:uac}(x:bad p=true)(t:rows p=0)(hq:∃q,b.least=some q/\q<=p)(hi:az[i]?=some (.work (.has p) l)):cV N rows bad b (az.set i (.work .free ((p,v)::l))):=by
 have h0:i≠0:=yS h hi AQ;have c:=λf=>ur f az i (.work (.has p) l) (.work .free ((p,v)::l)) hi;have c1:=c gC;have co:=c gJ;have db:=c gW;simp only[gC,gJ,gW]at c1 co db;have w:=h.aY;obtain⟨s,hs,u⟩:=h.main;refine⟨xA h.pg hi AJ,yR h.ta hi h0 Y,⟨s,AJ,?_⟩,λj s' g=>?_,AJ,h.aS,h.len,λd=>?_,λj a g pv k m=>?_,?_,λ⟨j,a,g,r⟩=>?_⟩
 .grind[JM]
 .rcases iT hi g with⟨_,e⟩|⟨_,e⟩
  .cases e
  .exact h.only j s' e
 .have:=c (dO d);have e:=h.own d;grind[dO,hand,n3]
 .rcases iT hi g with⟨rfl,rfl⟩|⟨o,e⟩
  .simp only[laid,vbh]at k;rcases k with rfl|k
   .grind
   .exact h.val j _ hi pv k m
  .exact h.val j a e pv k m
 .refine⟨?_,h.came.2.1,λd n y=>?_⟩
  .rw[h.came.1];refine Nt λd _=>?_;have:=c (dP d);by_cases e:d=p
   .grind
   .grind[dP,n3]
  .by_cases e:d=p
   .grind
   .have:=c (dP d);exact h.came.2.2 d n (by grind[dP,n3])
 .rcases iT hi g with⟨rfl,rfl⟩|⟨_,e⟩
  .simp[yQ]at r
  .exact h.e6 AJ
def cV.release(h:cV N rows bad b az){l:uac}(a3:b.taken=N)(hi:az[i]?=some (.work .free l)):cV N rows bad b (az.set i (.work .rel l)):=by
 have h0:i≠0:=yS h hi AQ;have c:=λf=>ur f az i (.work .free l) (.work .rel l) hi;have c1:=c gC;have co:=c gJ;have db:=c gW;simp only[gC,gJ,gW]at c1 co db;have r:=h.aY;obtain⟨s,hs,p⟩:=h.main;refine⟨xA h.pg hi AJ,yR h.ta hi h0 Y,⟨s,AJ,?_⟩,λj s' g=>?_,AP,h.aS,h.len,λd=>?_,λj a g pv k m=>?_,?_,λ⟨j,a,g,q⟩=>?_⟩
 .grind[JM]
 .rcases iT hi g with⟨_,e⟩|⟨_,e⟩
  .cases e
  .exact h.only j s' e
 .have:=c (dO d);have e:=h.own d;have n:dO d (.work .rel l)=dO d (.work .free l):=rfl;grind
 .rcases iT hi g with⟨rfl,rfl⟩|⟨o,e⟩
  .exact h.val j _ hi pv k m
  .exact h.val j a e pv k m
 .have e:∀d,dh (dP d) (az.set i (.work .rel l))=dh (dP d) az:=λd=>by have:=c (dP d);have n:dP d (.work .rel l)=dP d (.work .free l):=rfl;grind
  simp only[e];exact h.came
 grind
theorem cV.out(h:cV N rows bad b az){l:uac}(t:b.ea=false\/2<=b.aY)(hi:az[i]?=some (.work .rel l)):cV N rows bad {b with aY:=b.aY-1} (az.set i (.gone l)):=by
 have h0:i≠0:=yS h hi AQ;have c:=λf=>ur f az i (.work .rel l) (.gone l) hi;have c1:=c gC;have co:=c gJ;have db:=c gW;simp only[gC,gJ,gW]at c1 co db;have v:=h.aY;obtain⟨s,hs,g⟩:=h.main;refine⟨xA h.pg hi AJ,yR h.ta hi h0 Y,⟨s,AJ,?_⟩,λj s' m=>?_,AJ,h.aS,h.len,λd=>?_,λj a m pv n o=>?_,?_,λ⟨j,a,m,u⟩=>?_⟩
 .cases s with|s_=>grind[vG]|over=>grind[vG]|spawn k q=>exact⟨g.1,g.2.1,by have:=g.2.2.1;omega,by have:=g.2.2.2;omega⟩|qa=>exact⟨g.1,g.2.1,by have:=g.2.2.1;omega,by have:=g.2.2.2;omega⟩
 .rcases iT hi m with⟨_,e⟩|⟨_,e⟩
  .cases e
  .exact h.only j s' e
 .have:=c (dO d);have e:=h.own d;have p:dO d (.gone l)=dO d (.work .rel l):=rfl;grind
 .rcases iT hi m with⟨rfl,rfl⟩|⟨r,e⟩
  .exact h.val j _ hi pv n o
  .exact h.val j a e pv n o
 .have e:∀d,dh (dP d) (az.set i (.gone l))=dh (dP d) az:=λd=>by have:=c (dP d);have p:dP d (.gone l)=dP d (.work .rel l):=rfl;grind
  simp only[e];exact h.came
 .rcases iT hi m with⟨rfl,rfl⟩|⟨_,e⟩
  .exact h.e6 ⟨_,_,hi,Y⟩
  .exact h.e6 AJ
def cV.an7(h:cV N rows bad b az){l:uac}(q:b.ea=true)(p:b.aY=1)(hi:az[i]?=some (.work .rel l)):cV N rows bad {b with aY:=b.aY-1} (az.set i (.work .nW l)):=by
 have h0:i≠0:=yS h hi AQ;have c:=λf=>ur f az i (.work .rel l) (.work .nW l) hi;have c1:=c gC;have co:=c gJ;have db:=c gW;simp only[gC,gJ,gW]at c1 co db;have u:=h.aY;obtain⟨s,hs,r⟩:=h.main;refine⟨xA h.pg hi AJ,yR h.ta hi h0 Y,⟨s,AJ,?_⟩,λj s' g=>?_,AJ,h.aS,h.len,λd=>?_,λj a g pv k m=>?_,?_,λ⟨j,a,g,t⟩=>?_⟩
 .simp_all[vG]
 .rcases iT hi g with⟨_,e⟩|⟨_,e⟩
  .cases e
  .exact h.only j s' e
 .have:=c (dO d);have e:=h.own d;have n:dO d (.work .nW l)=dO d (.work .rel l):=rfl;grind
 .rcases iT hi g with⟨rfl,rfl⟩|⟨o,e⟩
  .exact h.val j _ hi pv k m
  .exact h.val j a e pv k m
 .have e:∀d,dh (dP d) (az.set i (.work .nW l))=dh (dP d) az:=λd=>by have:=c (dP d);have n:dP d (.work .nW l)=dP d (.work .rel l):=rfl;grind
  simp only[e];exact h.came
 .rcases iT hi g with⟨rfl,rfl⟩|⟨_,e⟩
  .exact h.e6 ⟨_,_,hi,Y⟩
  .exact h.e6 AJ
def cV.an8(h:cV N rows bad b az){l:uac}(hi:az[i]?=some (.work .nW l)):cV N rows bad {b with ea:=false} (az.set i (.work .lb l)):=by
 have h0:i≠0:=yS h hi AQ;have c:=λf=>ur f az i (.work .nW l) (.work .lb l) hi;have c1:=c gC;have co:=c gJ;have db:=c gW;simp only[gC,gJ,gW]at c1 co db;have v:=h.aY;obtain⟨s,hs,m⟩:=h.main;refine⟨xA h.pg hi AJ,yR h.ta hi h0 Y,⟨s,AJ,?_⟩,λj s' g=>?_,AJ,h.aS,h.len,λd=>?_,λj a g pv n o=>?_,?_,λ⟨j,a,g,u⟩=>?_⟩
 .have r:=oK gJ az i _ hi;simp[gJ]at r;cases s with|s_=>simp only[vG]at m⊢;grind|over=>have:=m.2.2.2;omega|spawn k q=>have:=m.2.2;omega|qa=>have:=m.2.2;omega
 .rcases iT hi g with⟨_,e⟩|⟨_,e⟩
  .cases e
  .exact h.only j s' e
 .have:=c (dO d);have e:=h.own d;have p:dO d (.work .lb l)=dO d (.work .nW l):=rfl;grind
 .rcases iT hi g with⟨rfl,rfl⟩|⟨t,e⟩
  .exact h.val j _ hi pv n o
  .exact h.val j a e pv n o
 .have e:∀d,dh (dP d) (az.set i (.work .lb l))=dh (dP d) az:=λd=>by have:=c (dP d);have p:dP d (.work .lb l)=dP d (.work .nW l):=rfl;grind
  simp only[e];exact h.came
 .rcases iT hi g with⟨rfl,rfl⟩|⟨_,e⟩
  .exact h.e6 ⟨_,_,hi,Y⟩
  .exact h.e6 AJ
def cV.raise(h:cV N rows bad b az){l:uac}(hi:az[i]?=some (.work .lb l)):cV N rows bad {b with gI:=b.gI+1} (az.set i (.gone l)):=by
 have h0:i≠0:=yS h hi AQ;have c:=λf=>ur f az i (.work .lb l) (.gone l) hi;have c1:=c gC;have co:=c gJ;have db:=c gW;simp only[gC,gJ,gW]at c1 co db;have v:=h.aY;obtain⟨s,hs,m⟩:=h.main;refine⟨xA h.pg hi AJ,yR h.ta hi h0 Y,⟨s,AJ,?_⟩,λj s' g=>?_,AJ,h.aS,h.len,λd=>?_,λj a g pv n o=>?_,?_,λ⟨j,a,g,u⟩=>?_⟩
 .have r:=oK gW az i _ hi;simp[gW]at r;cases s with|s_=>grind[vG]|over=>have:=m.2.2.2;omega|spawn k q=>have:=m.2.2;omega|qa=>have:=m.2.2;omega
 .rcases iT hi g with⟨_,e⟩|⟨_,e⟩
  .cases e
  .exact h.only j s' e
 .have:=c (dO d);have e:=h.own d;have p:dO d (.gone l)=dO d (.work .lb l):=rfl;grind
 .rcases iT hi g with⟨rfl,rfl⟩|⟨t,e⟩
  .exact h.val j _ hi pv n o
  .exact h.val j a e pv n o
 .have e:∀d,dh (dP d) (az.set i (.gone l))=dh (dP d) az:=λd=>by have:=c (dP d);have p:dP d (.gone l)=dP d (.work .lb l):=rfl;grind
  simp only[e];exact h.came
 .rcases iT hi g with⟨rfl,rfl⟩|⟨_,e⟩
  .exact h.e6 ⟨_,_,hi,Y⟩
  .exact h.e6 AJ
def cV.JN(h:cV N rows bad b az){s d:JK}(hi:az[0]?=some (.main s)){b1:cb}(z:b1.aY+gC (.main s)=b.aY+gC (.main d))(ht:b1.taken=b.taken)(hd:b1.done=b.done)(u:b1.came=b.came)(n:b1.least=b.least)(t:∀k q,d=.spawn k q->∃m,s=.spawn k m)(r:∀q,s=.spawn 0 q->∃m,d=.spawn 0 m)(hok:∀l,dh gJ l=dh gJ az->dh gW l=dh gW az->vG s b az->vG d b1 l):cV N rows bad b1 (az.set 0 (.main d)):=by
 have c:=λf=>ur f az 0 (.main s) (.main d) hi;have c1:=c gC;have co:=c gJ;have db:=c gW;have C:gJ (.main s)=0/\gJ (.main d)=0:=⟨Y,Y⟩;have B:gW (.main s)=0/\gW (.main d)=0:=⟨Y,Y⟩;have v:0<az.length:=(vab.1 hi).1;obtain⟨s',hs,A⟩:=h.main;rw[hi]at hs;cases hs;have y:=h.aY;refine⟨xA h.pg hi AJ,an4 h.ta hi r,AJ,λj s' i=>?_,AP,by rw[ht];exact h.aS,by rw[hd];exact h.len,λg=>?_,λj a i pv o x=>?_,?_,λ⟨j,a,i,w⟩=>?_⟩
 .rcases iT hi i with⟨e,_⟩|⟨_,e⟩
  .exact e
  .exact h.only j s' e
 .have:=c (dO g);have e:=h.own g;have p:dO g (.main s)=0/\dO g (.main d)=0:=⟨Y,Y⟩;grind
 .rw[hd];rcases iT hi i with⟨_,rfl⟩|⟨_,e⟩
  .simp[laid]at o
  .exact h.val j a e pv o x
 .have e:∀g,dh (dP g) (az.set 0 (.main d))=dh (dP g) az:=λg=>by have:=c (dP g);have p:dP g (.main s)=0/\dP g (.main d)=0:=⟨Y,Y⟩;omega
  simp only[e];rw[u,n];exact h.came
 .rw[ht];rcases iT hi i with⟨_,rfl⟩|⟨_,e⟩
  .simp[yQ]at w
  .exact h.e6 AJ
theorem cV.add(h:cV N rows bad b az){k:Nat}(hi:az[0]?=some (.main (.spawn k false))):cV N rows bad {b with aY:=b.aY+1} (az.set 0 (.main (.spawn k true))):=
 h.JN hi KO Y Y Y Y AJ AJ λe d c a=>⟨a.1,a.2.1,d.trans a.2.2.1,c.trans a.2.2.2⟩
def cV.waits(h:cV N rows bad b az){k:Nat}(hk:0<k)(hi:az[0]?=some (.main (.spawn k false))):cV N rows bad b (az.set 0 (.main .qa)):=
 h.JN hi KO Y Y Y Y AJ AJ λe d c a=>⟨a.1,a.2.1,d.trans a.2.2.1,c.trans a.2.2.2⟩
def cV.an_(h:cV N rows bad b az)(hi:az[0]?=some (.main .qa))(c:0<b.aY):cV N rows bad {b with ea:=true} (az.set 0 (.main .s_)):=
 h.JN hi KO Y Y Y Y AJ AJ λf e d a=>.inl ⟨Y,a.2.1,d.trans a.2.2.2,.inl ⟨c,e.trans a.2.2.1⟩⟩
def cV.zero(h:cV N rows bad b az)(hi:az[0]?=some (.main .qa))(c:b.aY=0):cV N rows bad b (az.set 0 (.main .over)):=
 h.JN hi KO Y Y Y Y AJ AJ λf e d a=>⟨a.1,c,a.2.1,e.trans a.2.2.1,d.trans a.2.2.2⟩
def cV.SO(h:cV N rows bad b az)(hi:az[0]?=some (.main .s_))(hs:b.gI≠0):cV N rows bad {b with gI:=b.gI-1} (az.set 0 (.main .over)):=
 h.JN hi KO Y Y Y Y AJ AJ λf d g c=>by
  rcases c with⟨_,a,_⟩|⟨m1,a,e,i⟩
  .grind
  .exact⟨m1,a,AJ,d.trans e,AP⟩
def cV.born(h:cV N rows bad b az){k:Nat}(hi:az[0]?=some (.main (.spawn k true))):cV N rows bad b (az.set 0 (.main (.spawn (k+1) false))++[.work .free []]):=by
 have c:=λf=>ur f az 0 (.main (.spawn k true)) (.main (.spawn (k+1) false)) hi;have d:=λf=>an3 f (az.set 0 (.main (.spawn (k+1) false))) (.work .free []);have c1:=c gC;have co:=c gJ;have db:=c gW;have d1:=d gC;have y:=d gJ;have x:=d gW;simp only[gC,gJ,gW]at c1 co db d1 y x;have s:0<az.length:=(vab.1 hi).1;obtain⟨s',hs,l⟩:=h.main;rw[hi]at hs;cases hs;have z:=h.aY;have get:∀{j:Nat}{a:At},(az.set 0 (.main (.spawn (k+1) false))++[.work .free []])[j]?=some a->(j=0/\a=.main (.spawn (k+1) false))\/(j≠0/\az[j]?=some a)\/(j=az.length/\a=.work .free []):=by grind
 refine⟨λk' A C=>?_,λje t=>.inr ?_,⟨.spawn (k+1) false,AJ,l.1,l.2.1,by have:=l.2.2.1;omega,by have:=l.2.2.2;omega⟩,λj s' i=>?_,AP,h.aS,h.len,λg=>?_,λj a i pv o u=>?_,?_,λ⟨j,a,i,m⟩=>?_⟩
 .have m:=h.pg k true hi;grind
 .have m:=h.pg k true hi;rcases h.ta _ hi with⟨q,e⟩|⟨a,n,r⟩
  .cases e;refine⟨.work .free [],?_,Y⟩;grind
  .have B:rows N<az.length:=(vab.1 n).1;have t:0≠rows N:=by intro e;rw[<-e,hi]at n;cases n;cases r
   grind
 .rcases get i with⟨e,_⟩|⟨_,e⟩|⟨_,e⟩
  .exact e
  .exact h.only j s' e
  grind
 .have w:=c (dO g);have v:=d (dO g);have e:=h.own g;have p:dO g (.main (.spawn k true))=0/\dO g (.main (.spawn (k+1) false))=0/\dO g (.work .free [])=0:=⟨Y,Y,Y⟩;omega
 .rcases get i with⟨_,rfl⟩|⟨_,e⟩|⟨_,rfl⟩
  .simp[laid]at o
  .exact h.val j a e pv o u
  grind[laid]
 .have e:∀g,dh (dP g) (az.set 0 (.main (.spawn (k+1) false))++[.work .free []])=dh (dP g) az:=λg=>by have w:=c (dP g);have v:=d (dP g);have p:dP g (.main (.spawn k true))=0/\dP g (.main (.spawn (k+1) false))=0/\dP g (.work .free [])=0:=⟨Y,Y,Y⟩;omega
  simp only[e];exact h.came
 .rcases get i with⟨_,rfl⟩|⟨_,e⟩|⟨_,rfl⟩
  .simp[yQ]at m
  .exact h.e6 AJ
  grind[yQ]
def rb:At->Prop
 | .gone _ | .old=>True
 | _=>False
def Nv(a:At)(b:cb):Prop:=a=.main .s_/\b.gI=0
def cV.alive(h:cV N rows bad b az):∃(j:Nat)(a:At),az[j]?=some a/\¬rb a/\¬Nv a b:=by
 obtain⟨s,hs,i⟩:=h.main;by_cases d:s=.s_/\b.gI=0
 .obtain⟨rfl,o⟩:=d;apply vap;intro hn;have all:∀(j:Nat)(a:At),az[j]?=some a->rb a\/a=.main .s_:=λj a k=>by apply vap;intro g;exact hn ⟨j,a,k,AJ,λe=>g (.inr e.1)⟩
  have z:∀f:At->Nat,(∀a,rb a->f a=0)->f (.main .s_)=0->dh f az=0:=λf q p=>Ns f az AJ;have r:=z gC (λa c=>Hd) Y;have n:=z gJ (λa c=>Hd) Y;have m:=z gW (λa c=>Hd) Y;have g:=h.aY;rcases i with⟨_,_,_,l⟩|⟨_,_,_,l⟩<;>omega
 .exact⟨0,_,hs,λe=>e,λe=>d ⟨by have:=e.1;grind,e.2⟩⟩
def cV.all(h:cV N rows bad b az)(hi:az[0]?=some (.main .over)):∀(j:Nat)(a:At),az[j]?=some a->j=0\/rb a:=by intro j a c;obtain⟨s',hs,d⟩:=h.main;rw[hi]at hs;cases hs;have i:=h.aY;have g:=oK gC az j a c;have f:=oK gJ az j a c;have e:=oK gW az j a c;have:=d.2.1;have:=d.2.2.2;cases a with|main s=>exact .inl (h.only j s c)|gone l=>exact .inr trivial|old=>exact .inr trivial|work s l=>cases s<;>simp only[gC,gJ,gW]at g f e<;>omega
