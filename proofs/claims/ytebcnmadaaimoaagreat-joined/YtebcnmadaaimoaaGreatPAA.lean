import Derived.Test.YtebcnmadaaimoaaGreatP00
import Derived.Conc.CrowdTrace
set_option linter.all false
set_option maxRecDepth 100000
set_option maxHeartbeats 16000000
namespace Go.Proofs.YtebcnmadaaimoaaGreat
abbrev aL:=Go.World
abbrev cf:=Go.Program
def vab:=@List.getElem?_eq_some_iff
def vac:=@Nat.le_refl
def vad:=@Nat.le_trans
def vae:=@Option.getD_some
def vaf:=@Bool.and_eq_true
def vag:=@List.getElem?_eq_getElem
def vai:=@Bool.false_eq_true
def vaj:=@Option.map_eq_some_iff
def vak:=@Array.getElem?_setIfInBounds
def vam:=@Array.getElem?_eq_some_iff
def van:=@Array.all_eq_true_iff_forall_mem
def vao:=@Array.getElem?_eq_getElem
def vap:=@Nat.lt_of_lt_of_le
def vaq:=@Option.some.inj
def vav:=@Nat.zero_le
def vaw:=@Classical.byContradiction
def vax:=@List.getElem_mem
def vaz:=@Bool.toNat_le
def vba:=@List.getElem?_set_ne
def vbb:=@Array.getElem?_modify
def vbc:=@List.getElem?_map
def vbd:=@Option.bind_eq_some_iff
def vbe:=@Array.mem_of_getElem?
def vbf:=@List.length_append
def vbh:=@Option.some.injEq
def vbi:=@List.all_cons
def vbk:=@Nat.le_of_eq
def vbl:=@List.mem_map
def vbn:=@Nat.eq_zero_or_pos
def vbo:=@List.mem_cons
def vbp:=@if_neg
def vbq:=@List.eq_nil_of_length_eq_zero
def vbr:=@Nat.zero_add
def vbv:=@if_pos
def vbx:=@congrArg
def vby:=@List.getElem?_append_right
def vbz:=@List.take_of_length_le
def vca:=@List.ext_getElem?
def vcb:=@List.getElem?_append_left
def vcc:=@Nat.add_zero
def vcd:=@List.length_map
def vce:=@List.append_nil
def vcf:=@Array.ext_getElem?
def vcg:=@Array.replicate_succ
def vch:=@List.getElem?_set_self
def vcl:=@Array.getElem?_map
def vcm:=@Array.mapM_eq_mapM_toList
def vcn:=@List.take_succ_eq_append_getElem
def vco:=@List.mem_of_getElem?
def vcq:=@List.range_succ
def vcr:=@List.map_append
def vcu:=@List.getElem_append_left
def vcv:=@Array.size_setIfInBounds
def vcx:=@Nat.lt_or_ge
def vcy:=@List.map_cons
def vdb:=@Nat.min_eq_right
def vdc:=@Nat.le_add_right
def vdd:=@List.not_mem_nil
def vdf:=@Array.empty_append
def vdg:=@if_true
def vdh:=@Nat.min_eq_left
def vdi:=@Array.getD_eq_getD_getElem?
def vdl:=@List.pairwise_iff_getElem
def vdm:=@List.getElem_append_right
def vdo:=@List.length_cons
def vdp:=@List.getElem_map
def vdq:=@Classical.skolem
def vdr:=@List.take_succ_cons
def vdu:=@Nat.le_of_lt
def vdw:=@Nat.le_succ
def vdx:=@of_decide_eq_true
def vdy:=@Array.getElem?_setIfInBounds_ne
def vea:=@Array.getElem?_toList
def ved:=@Option.elim_some
def vee:=@Array.mem_append
def vef:=@if_false
def vej:=@List.nil_append
def vek:=@List.length_set
def vel:=@List.getElem_of_mem
def vem:=@Array.toList_modify
def ven:=@List.getD_eq_getElem?_getD
def veo:=@List.map_nil
def vep:=@List.count_pos_iff
def veq:=@List.take_zero
def ver:=@List.drop_zero
def ves:=@List.size_toArray
abbrev _root_.Go.Value.U:Go.Value:=Go.undef
abbrev _root_.Go.Item.R(o:Array Go.Oper)(l:List Nat):Go.Item:=.inRegion o l
abbrev _root_.Go.Addr.a(b o:Nat):Go.Addr:=⟨b,o,none⟩
abbrev c7:=Nat->Prop
abbrev df:=Array Value
abbrev du:=Array Oper
abbrev dZ:=List Frame
abbrev e8:=List Nat
abbrev fC:=List Item
abbrev uaa:=TypeId
abbrev uab:=Value->aL->Prop
abbrev uac:=List (Nat×Value)
abbrev uad:=List Value
abbrev uae:=List (Int×Int)
abbrev uaf:=Act->aL->Prop
abbrev uag:=Nat->Value->(Nat->Prop)->aL->Prop
abbrev uah:=Exit->Act->aL->Prop
abbrev uai:=Goroutine
abbrev uaj:=FuncId
abbrev uak:=Operand->Value
abbrev ual:=Nat->Option Value
abbrev uam:=Loc->Prop
abbrev uan:=Option Addr
abbrev uao:=List (Nat×Obj)
abbrev uap:=Operand
abbrev uaq:=Array Event
abbrev uar:=Array TypeId
abbrev uas:=Nat->Nat
abbrev uat:=Array Bool
abbrev uau:=Nat->aL->Value->Prop
abbrev uav:=Array Operand
abbrev uaw:=Nat->Goroutine->aL->Prop
abbrev uax:=aL->Value->Prop
abbrev uay:=Array Goroutine
abbrev uaz:=List Int
abbrev uba:=List Oper
abbrev ubb:=Option (Nat×Nat)
abbrev ubc:=Value->(Nat->Prop)->aL->Prop
abbrev ubd:=List (Nat×List Value)
abbrev ube:=Nat->Bool
abbrev ubf:=Option Nat
abbrev ubg:=List (Value×Value)
abbrev ubh:=Nat->Nat->Bool
abbrev ubi:=TypeId->Prop
abbrev ubj:=List Event
abbrev ubk:=Nat->(Nat->Prop)->aL->Prop
abbrev ubl:=Goroutine->Goroutine
abbrev ubm:=Nat->Value->Act->aL->Prop
abbrev ubn:=Array Bool->Act->aL->Prop
abbrev ubo:=aL->Value->aL->Prop
abbrev ubp:=Int×Int
abbrev ubq:=Nat×Obj
abbrev ubr:=Nat->List Value
abbrev ubs:=List Bool
abbrev ubt:=Nat->aL->Prop
abbrev ubu:=Nat×Nat
abbrev ubv:=Value×Nat
abbrev _root_.Go.Value.P(b o:Nat):Go.Value:=.pointer (some (.a b o))
abbrev _root_.Go.Value.S(b o l c:Nat):Go.Value:=.slice (some (.a b o)) l c
abbrev _root_.Go.Value.N:Go.Value:=.slice none 0 0
abbrev _root_.Go.Value.I(n:Int):Go.Value:=.int .i64 n
abbrev _root_.Go.Value.T:Go.Value:=.bool true
abbrev _root_.Go.Value.F:Go.Value:=.bool false
abbrev _root_.Go.Value.E:Go.Value:=.string ⟨#[]⟩
abbrev _root_.Go.World.hs(w:Go.World):Nat:=w.heap.size
namespace az
structure Ren where
 rel:Nat->Nat->Prop
 mine:Nat->Prop
def dA(ρ:Ren)(a a':Addr):Prop:=ρ.rel a.block a'.block/\a.off=a'.off/\a.spot=a'.spot
inductive tv(ρ:Ren):Fn->Fn->Prop
 |func (f:uaj):tv ρ (.func f) (.func f)
 |yield {l l':Nat} (h:ρ.rel l l'):tv ρ (.yield l) (.yield l')
inductive ar(ρ:Ren):Value->Value->Prop
 |bool (b:Bool):ar ρ (.bool b) (.bool b)
 |int (k:IntKind) (n:Int):ar ρ (.int k n) (.int k n)
 |string (s:ByteArray):ar ρ (.string s) (.string s)
 |lQ:ar ρ (.pointer none) (.pointer none)
 |ptr {a a':Addr} (h:dA ρ a a'):ar ρ (.pointer (some a)) (.pointer (some a'))
 |j2 (l c:Nat):ar ρ (.slice none l c) (.slice none l c)
 |slice {a a':Addr} (l c:Nat) (h:dA ρ a a'):ar ρ (.slice (some a) l c) (.slice (some a') l c)
 |pD:ar ρ (.map none) (.map none)
 |map {r r':Nat} (h:ρ.rel r r'):ar ρ (.map (some r)) (.map (some r'))
 |pE:ar ρ (.chan none) (.chan none)
 |func {fn mE:Fn} {a a' b b':df} (h:tv ρ fn mE) (ha:a.size=a'.size) (hb:b.size=b'.size)
  (h1:∀(i:Nat)(v v':Value),a[i]?=some v->a'[i]?=some v'->ar ρ v v') (h2:∀(i:Nat)(v v':Value),b[i]?=some v->b'[i]?=some v'->ar ρ v v'):ar ρ (.func fn a b) (.func mE a' b')
 |nilFunc:ar ρ .nilFunc .nilFunc
 |iface (t:uaa) {v v':Value} (h:ar ρ v v'):ar ρ (.iface t v) (.iface t v')
 |nilIface:ar ρ .nilIface .nilIface
 |agg {a a':df} (hs:a.size=a'.size) (h:∀(i:Nat)(v v':Value),a[i]?=some v->a'[i]?=some v'->ar ρ v v'):ar ρ (.agg a) (.agg a')
 |tuple {a a':df} (hs:a.size=a'.size) (h:∀(i:Nat)(v v':Value),a[i]?=some v->a'[i]?=some v'->ar ρ v v'):ar ρ (.tuple a) (.tuple a')
structure aM(ρ:Ren)(a a':df):Prop where
 size:a.size=a'.size
 get:∀(i:Nat)(v v':Value),a[i]?=some v->a'[i]?=some v'->ar ρ v v'
def Ren.le(ρ σ:Ren):Prop:=(∀b b',ρ.rel b b'->σ.rel b b')/\∀b,ρ.mine b->σ.mine b
def Ren.le_refl(ρ:Ren):Ren.le ρ ρ:=⟨λ_ _ h=>h,λ_ h=>h⟩
variable{ρ σ:Ren}
theorem Ren.le_trans{a:Ren}(h:Ren.le ρ σ)(k:Ren.le σ a):Ren.le ρ a:=⟨λb b' x=>k.1 b b' (h.1 b b' x),λb x=>k.2 b (h.2 b x)⟩
theorem dA.mono(b:Ren.le ρ σ){a a':Addr}(h:dA ρ a a'):dA σ a a':=⟨b.1 _ _ h.1,h.2⟩
theorem tv.mono(b:Ren.le ρ σ){a a':Fn}(h:tv ρ a a'):tv σ a a':=by cases h with|yield h=>exact .yield (b.1 _ _ h)|func f=>exact .func f
variable{v v':Value}
theorem ar.mono(d:Ren.le ρ σ)(h:ar ρ v v'):ar σ v v':=by induction h with|bool b=>exact .bool b|int k n=>exact .int k n|string s=>exact .string s|lQ=>exact .lQ|ptr h=>exact .ptr (h.mono d)|j2 l c=>exact .j2 l c|slice l c h=>exact .slice l c (h.mono d)|pD=>exact .pD|map h=>exact .map (d.1 _ _ h)|pE=>exact .pE|func h i g _ _ f e=>exact .func (h.mono d) i g f e|nilFunc=>exact .nilFunc|iface t _ a=>exact .iface t a|nilIface=>exact .nilIface|agg hs _ a=>exact .agg hs a|tuple hs _ a=>exact .tuple hs a
variable{a a':df}
theorem aM.mono(b:Ren.le ρ σ)(h:aM ρ a a'):aM σ a a':=⟨h.size,λi v v' x y=>(h.get i v v' x y).mono b⟩
theorem aM.nil(ρ:Ren):aM ρ #[] #[]:=⟨U,λi v v' h=>AF⟩
theorem aM.one(h:ar ρ v v'):aM ρ #[v] #[v']:=⟨U,λi x c a b=>by
 grind⟩
theorem aM.some{ρ:Ren}{a a':df}(h:aM ρ a a'){i:Nat}{v:Value}(hv:a[i]?=Option.some v):∃v',a'[i]?=Option.some v'/\ar ρ v v':=by
 have hi:i<a.size:=by grind
 have b:i<a'.size:=h.size▸hi;exact⟨a'[i],AF,h.get i v _ hv AF⟩
theorem aM.none(h:aM ρ a a'){i:Nat}(hv:a[i]?=Option.none):a'[i]?=Option.none:=by rw[Array.getElem?_eq_none_iff]at hv⊢;rw[<-h.size];exact hv
variable{b b':df}
theorem aM.append(h:aM ρ a a')(k:aM ρ b b'):aM ρ (a++b) (a'++b'):=by
 refine⟨by simp[h.size,k.size],λi v v' x y=>?_⟩;rw[Array.getElem?_append]at x y;rw[<-h.size]at y;split at x
 .rename_i hi;rw[vbv hi]at y;exact h.get i v v' x y
 .rename_i hi;rw[vbp hi]at y;exact k.get _ v v' x y
theorem aM.push(h:aM ρ a a')(k:ar ρ v v'):aM ρ (a.push v) (a'.push v'):=by have e:∀(x:df)(y:Value),x.push y=x++#[y]:=λx y=>Ab;rw[e,e];exact h.append (.one k)
def aM.set(h:aM ρ a a')(k:ar ρ v v')(i:Nat):aM ρ (a.setIfInBounds i v) (a'.setIfInBounds i v'):=by
 refine⟨by simp[h.size],λj x d c b=>?_⟩;rw[vak]at c b;rw[<-h.size]at b;by_cases e:i=j
 .grind
 .rw[vbp e]at c b;exact h.get j x d c b
theorem aM.extract(h:aM ρ a a')(s e:Nat):aM ρ (a.extract s e) (a'.extract s e):=by
 refine⟨by simp[h.size],λi v v' x y=>?_⟩;rw[Array.getElem?_extract]at x y;rw[<-h.size]at y;split at x
 .rename_i hi;rw[vbv hi]at y;exact h.get _ v v' x y
 grind
theorem aM.getD(h:aM ρ a a'){d b:Value}(hd:ar ρ d b)(i:Nat):ar ρ (a.getD i d) (a'.getD i b):=by rw[vdi,vdi];grind[none,some]
theorem ar.undef(ρ:Ren):ar ρ undef undef:=.tuple U λi v v' h=>by grind
def ar.rF(h:aM ρ a a'):ar ρ (.agg a) (.agg a'):=.agg h.size h.get
def ar.E9(h:aM ρ a a'):ar ρ (.tuple a) (.tuple a'):=.tuple h.size h.get
def ar.H0{fn c:Fn}(d:tv ρ fn c)(h:aM ρ a a')(k:aM ρ b b'):ar ρ (.func fn a b) (.func c a' b'):=.func d h.size k.size h.get k.get
theorem ar.cells{ρ:Ren}{v v':Value}(h:ar ρ v v'):aM ρ v.cells v'.cells:=by cases h with|agg hs h=>exact⟨hs,h⟩|bool b=>exact .one (.bool b)|int k n=>exact .one (.int k n)|string s=>exact .one (.string s)|lQ=>exact .one .lQ|ptr h=>exact .one (.ptr h)|j2 l c=>exact .one (.j2 l c)|slice l c h=>exact .one (.slice l c h)|pD=>exact .one .pD|map h=>exact .one (.map h)|pE=>exact .one .pE|func h d a f e=>exact .one (.func h d a f e)|nilFunc=>exact .one .nilFunc|iface t h=>exact .one (.iface t h)|nilIface=>exact .one .nilIface|tuple hs h=>exact .one (.tuple hs h)
inductive jm:Value->Prop
 |bool (b:Bool):jm (.bool b)
 |int (k:IntKind) (n:Int):jm (.int k n)
 |string (s:ByteArray):jm (.string s)
 |lQ:jm (.pointer none)
 |j2 (l c:Nat):jm (.slice none l c)
 |pD:jm (.map none)
 |pE:jm (.chan none)
 |nilFunc:jm .nilFunc
 |func (f:uaj):jm (.func (.func f) #[] #[])
 |nilIface:jm .nilIface
 |iface (t:uaa) {v:Value} (h:jm v):jm (.iface t v)
 |agg {a:df} (h:∀(i:Nat)(v:Value),a[i]?=some v->jm v):jm (.agg a)
 |tuple {a:df} (h:∀(i:Nat)(v:Value),a[i]?=some v->jm v):jm (.tuple a)
def jm.rel(h:jm v)(ρ:Ren):ar ρ v v:=by induction h with|bool b=>exact .bool b|int k n=>exact .int k n|string s=>exact .string s|lQ=>exact .lQ|j2 l c=>exact .j2 l c|pD=>exact .pD|pE=>exact .pE|nilFunc=>exact .nilFunc|func f=>exact .H0 (.func f) (.nil ρ) (.nil ρ)|nilIface=>exact .nilIface|iface t _ a=>exact .iface t a|agg _ a=>exact .agg U λi v v' x y=>AF|tuple _ a=>exact .tuple U λi v v' x y=>AF
def kL(a:df):Prop:=∀(i:Nat)(v:Value),a[i]?=some v->jm v
theorem kL.rel(h:kL a)(ρ:Ren):aM ρ a a:=⟨U,λi v v' x y=>by rw[x]at y;cases y;exact(h i v x).rel ρ⟩
theorem jm.cells{v:Value}(h:jm v):kL v.cells:=by
 have one:∀{v:Value},jm v->v.cells=#[v]->kL v.cells:=λ{v} hv e i x a=>by grind
 cases h with|agg h=>exact h|bool b=>exact one (.bool b) U|int k n=>exact one (.int k n) U|string s=>exact one (.string s) U|lQ=>exact one .lQ U|j2 l c=>exact one (.j2 l c) U|pD=>exact one .pD U|pE=>exact one .pE U|nilFunc=>exact one .nilFunc U|func f=>exact one (.func f) U|nilIface=>exact one .nilIface U|iface t h=>exact one (.iface t h) U|tuple h=>exact one (.tuple h) U
def lz{ap:Type}:Result ap->aL
 | .ok _ w=>w
 | .halt _ w=>w
section
variable{ap:Type}
def ahD:∀(k:Ask ap)(w:aL),w.drawn<=(w.ask k).2.drawn/\(w.ask k).2.heap=w.heap/\(w.ask k).2.tape=w.tape:=by intro k;induction k with|done a=>intro w;exact⟨vac _,U,U⟩|ask what range k b=>intro w;simp only[World.ask];grind
theorem ahE(w:aL)(c:Sys):w.drawn<=(w.sys c).2.drawn/\(w.sys c).2.tape=w.tape:=by unfold World.sys;have:=ahD (Kernel.perform c w.os) w;grind
theorem ahF{P:cf}{w d:aL}{a:Addr}{b:Bool}{l:List Addr}(h:w.farStore P a v b=.ok (d,l)):d.drawn=w.drawn/\d.tape=w.tape:=by
 unfold World.farStore at h;split at h
 .split at h
  .rename_i r c;cases h;unfold World.viewStore at c;simp only[bind,Except.bind,pure,Except.pure]at c;repeat' (split at c)
   all_goals first
    |cases c;done
    |grind
  grind
 grind
def BS(P:cf):∀(m:Sem ap)(w:aL),w.drawn<=(lz (m.run P w)).drawn/\(lz (m.run P w)).tape=w.tape:=by
 intro m;induction m with
 |pure a=>intro w;exact⟨vac _,U⟩
 |load md a k b=>intro w;simp only[Sem.run];cases w.cell? a with|some v=>grind|none=>simp only[];cases w.farLoad P a (md== .atomic)with|ok r=>grind|error h=>exact⟨vac _,U⟩
 |store md a v k b=>
  intro w;have gen:w.drawn<=(lz (match w.cell? a with
   |some _=>if w.frozen? a then .halt (.unsupported (.unsafePointer "a write to bytes that a string shares")) w else k.run P (w.setCell a v)
   |none=>match w.farStore P a v (md== .atomic)with
    | .ok (w,_)=>k.run P w
    | .error h=>.halt h w)).drawn/\(lz (match w.cell? a with
   |some _=>if w.frozen? a then .halt (.unsupported (.unsafePointer "a write to bytes that a string shares")) w else k.run P (w.setCell a v)
   |none=>match w.farStore P a v (md== .atomic)with
    | .ok (w,_)=>k.run P w
    | .error h=>.halt h w)).tape=w.tape:=by
   cases w.cell? a with
   |some x=>
    simp only[];split
    .exact⟨vac _,U⟩
    .exact b (w.setCell a v)
   |none=>simp only[];cases f:w.farStore P a v (md== .atomic)with|error h=>exact⟨vac _,U⟩|ok r=>grind[ahF]
  cases v<;>first|exact⟨vac _,U⟩|exact gen
 |new o k b=>intro w;exact b _ {w with heap:=w.heap.push o}
 |shape r k b=>intro w;exact b _ w
 |freeze a n k b=>
  intro w;have e:(w.freeze a n).drawn=w.drawn/\(w.freeze a n).tape=w.tape:=by unfold World.freeze;grind
  have d:=b (w.freeze a n);exact⟨e.1▸d.1,d.2.trans e.2⟩
 |frozen a k b=>intro w;exact b _ w
 |getObj r k b=>
  intro w;simp only[Sem.run];split
  .exact⟨vac _,U⟩
  .grind
  .exact⟨vac _,U⟩
 |setObj r o k b=>
  intro w;simp only[Sem.run];split
  .exact⟨vac _,U⟩
  .grind
  .exact⟨vac _,U⟩
 |choose q k b=>intro w;simp only[Sem.run];grind
 |sys c k b=>grind[ahE,Sem.run]
 |program k b=>intro w;exact b _ w
 |mark m k b=>intro w;exact b w
 |halt h=>intro w;exact⟨vac _,U⟩
end
def i8:GStep->aL
 | .go _ w _ | .comm _ _ _ _ w _ | .spawn _ _ w _ | .count _ w _ | .timer _ _ w _ | .alone _ _ w _ | .newcoro _ _ _ w _ | .coroswitch _ _ _ w _ | .collect _ w _ | .watch _ w _ | .ended _ w _=>w
@[simp] theorem Ad (es:uaq) (s:GStep):i8 (GStep.after es s)=i8 s:=by cases s<;>rfl
theorem Xs(P:cf)(m:Bool)(fr:Frame)(cs:dZ)(d:Option Dying)(v:Value)(w:aL):i8 (doReturn P m fr cs d v w)=w:=by
 unfold doReturn;cases cs with
 |cons c cs=>simp only[];split<;>rfl
 |nil=>
  simp only[];split
  .rfl
  .rfl
  .split
   .rfl
   .split<;>rfl
def Qy{ap:Type}{P:cf}{m:Sem ap}{w:aL}{r:Result ap}(h:m.run P w=r):w.drawn<=(lz r).drawn:=h▸(BS P m w).1
def Xt(P:cf)(fr:Frame)(cs:dZ)(d:Option Dying)(m:String)(w:aL):w.drawn<=(i8 (endFatal P fr cs d m w)).drawn:=by
 unfold endFatal;simp only[];split
 .rename_i a;exact Qy a
 .rename_i a;exact Qy a
 .rename_i a;exact Qy a
def ai_(P:cf)(fr:Frame)(cs:dZ)(d:Option Dying)(g:Nat)(w:aL):w.drawn<=(i8 (early P fr cs d g w)).drawn:=by
 unfold early;have notYet:∀a:aL,(i8 (match a.heap[g]? with
  |some (.pending c elem)=>GStep.go {frame:=fr,callers:=cs,status:=.running,dying:=d} {a with heap:=a.heap.setIfInBounds g (.cells c elem)}
  | _=>.ended (.stuck "early: the variable does not wait" (fr.pos P)) a)).drawn=a.drawn:=by
  intro a;split<;>rfl
 simp only[];have dN:∀{s:GStep}{a:aL},(i8 s).drawn=a.drawn->w.drawn<=a.drawn->w.drawn<=(i8 s).drawn:=λe h=>AF;have same:∀{s:GStep},(i8 s).drawn=w.drawn->w.drawn<=(i8 s).drawn:=λe=>AF;split
 .grind
 split
 .exact vac _
 rename_i f _;split
 .grind
 split
 .grind
 split
 .exact vac _
 .exact vac _
 .exact vac _
 .grind
 .split
  .exact vac _
  split
  .grind
  split
  .rename_i a b;have:=BS P (choose (.early g)) w;rw[b]at this;exact dN (notYet a) this.1
  .rename_i a _ b;have:=BS P (choose (.early g)) w;rw[b]at this;exact this.1
  .rename_i a b;have:=BS P (choose (.early g)) w;rw[b]at this;exact this.1
def Fl(P:cf)(fr:Frame)(cs:dZ)(d:Option Dying)(s:Sem Next)(w:aL):(lz (s.run P w)).drawn<=(i8 (stepG.apply P true fr cs d s w)).drawn:=by
 unfold stepG.apply;simp only[Sem.runT_eq,vdg,Ad];cases s.run P w with
 |ok h f=>
  cases h with
  |callThen a b c e=>simp only[lz];split<;>exact vac _
  |row a b=>simp only[lz];split<;>exact vac _
  |stack a b=>simp only[lz];split<;>exact vac _
  |recover=>simp only[lz];split<;>exact vac _
  |spawn x=>simp only[lz];repeat' first|exact vac _ |split
  | _=>exact vac _
 |halt x f=>
  cases x with
  |fatal m=>exact Xt P fr cs d m f
  |unsupported u=>cases u with|initOrder g=>exact ai_ P fr cs d g f| _=>exact vac _
  | _=>exact vac _
def Xu(P:cf)(fr:Frame)(cs:dZ)(d:Option Dying)(x:Deferred)(w:aL):((x.target matches .nil)&&(fr.mode matches .panicking _))=true\/(lz ((invoke x.target x.args).run P w)).drawn<=(i8 (callDeferred P fr cs d x w)).drawn:=by
 have key:∀{c:Prop}[Decidable c]{a b:GStep}{n:Nat},(¬c->n<=(i8 b).drawn)->c\/n<=(i8 (if c then a else b)).drawn:=by grind
 unfold callDeferred;simp only[Sem.runT_eq];refine key λ_=>?_;simp only[Ad];cases(invoke x.target x.args).run P w with
 |ok g f=>cases g with|recover=>simp only[lz];split<;>exact vac _|alone on v=>cases on<;>exact vac _|coroswitch c e=>cases e<;>exact vac _| _=>exact vac _
 |halt y f=>cases y with|fatal m=>exact Xt P fr cs d m f| _=>exact vac _
end az
namespace bo
open Conc ConcN
def fq:Loc->Option Nat
 | .cell a=>some a.block
 | .obj r=>some r
 | _=>none
structure kO where
 n:Nat
 base:Nat
 size:Nat
 K:Nat->Prop
 mine:Nat->Nat->Prop
 hV:Loc->Prop
 e9:Loc->Prop
 tok:Option Nat
 mu:Addr
 wg:Addr
 past:Nat->Prop
def kO.bf(p:kO)(j:Nat):Prop:=j<p.n/\(j=0\/p.base<=j)
def FM(t:Trace)(a:Addr)(i:Nat):Prop:=∃q,t.act? q=some (.mark (.releaseMerge a))/\t.heard q/\Before t i q
variable{i:Nat}
theorem FM.app{t:Trace}{a:Addr}(h:FM t a i)(u:Trace):FM (t++u) a i:=
 let⟨q,d,c,b⟩:=h
 ⟨q,by grind[act?_old,lt_of_act?],(heard_old (lt_of_act? d)).2 c,b.app u⟩
def YC(p:kO)(l:Loc):Prop:=¬p.hV l/\∀b,fq l=some b->¬p.K b/\∀j,¬p.mine j b
structure ez(p:kO)(t:Trace):Prop where
 oC:∀i a,touchAt t i=some a->a.loc.isMemory=true->a.kind=.atomic->p.e9 a.loc\/YC p a.loc
 gs:∀(i:Nat)(op:MemOp),t[i]?=some op->op.g<p.n
 low:∀i a b,touchAt t i=some a->fq a.loc=some b->b<p.size
 still:∀i a b,touchAt t i=some a->a.write=true->fq a.loc=some b->p.K b->∀j,p.bf j->Knows t j i
 own:∀j i a b,p.bf j->touchAt t i=some a->fq a.loc=some b->p.mine j b->Knows t j i
 tL:∀j,p.tok=some j->p.bf j/\∀i a,touchAt t i=some a->p.hV a.loc->Knows t j i
 Cp:p.tok=none->∀i a,touchAt t i=some a->p.hV a.loc->(∀j,p.bf j->Knows t j i)\/FM t p.mu i
 e9:∀i a,touchAt t i=some a->p.e9 a.loc->a.kind=.atomic\/(a.kind=.said/\Knows t 0 i)\/∀j,p.bf j->Knows t j i
 qK:∀i a,t.act? i≠some (.mark (.release a))
 yc:∀said,¬Race said t
 past:∀i j,t.g? i=some j->p.past j->t.counts i->Knows t 0 i\/FM t p.wg i
structure Az(p:kO):Prop where
 own:∀j k b,p.mine j b->p.mine k b->j=k
 YD:∀j b,p.mine j b->¬p.K b
 FN:∀l b j,p.hV l->fq l=some b->¬p.mine j b/\¬p.K b
 FO:∀l b j,p.e9 l->fq l=some b->¬p.mine j b/\¬p.K b
 tM:∀l,p.hV l->¬p.e9 l
 low:∀j b,p.mine j b->b<p.size
 alc:∀b,p.K b->b<p.size
 Rs:∀l b,p.hV l\/p.e9 l->fq l=some b->b<p.size
def AA:Mark->Prop
 | .disable| .enable| .noRoom| .extern _=>True
 | _=>False
def Mu(p:kO)(j:Nat)(d:Nat)(e:Event):Prop:=
 match e.loc with
 | .cell a=>(e.sync=false/\((p.K a.block/\e.write=false)\/p.mine j a.block\/(p.hV (.cell a)/\p.tok=some j))/\¬p.past j)\/(e.sync=true/\p.e9 (.cell a)/\0<d)
 | .obj r=>e.sync=false/\((p.K r/\e.write=false)\/p.mine j r)/\¬p.past j
 | .mark m=>AA m\/(j=0/\∃a,p.e9 (.cell a)/\(m=.read a\/m=.write a))
 | .output=>True
 | .goroutines=>False
def AB(d:Nat)(e:Event):Nat:=deafBehind d #[e]
def Rt(p:kO)(j:Nat):Nat->List Event->Prop
 | _,[]=>True
 |d,e::l=>Mu p j d e/\Rt p j (AB d e) l
variable{d j:Nat}{e:Event}{y:MemOp}
section
variable{p:kO}{t:Trace}
def ald{l:Loc}(h:l.isMemory=true):∃b,fq l=some b:=by cases l<;>simp[Loc.isMemory]at h<;>exact⟨_,U⟩
def ale(h:Mu p j d e){x:Touch}(c:(MemAct.ofEvent e).touch?=some x)(n:x.loc.isMemory=true):
 ∃b,fq x.loc=some b/\((x.kind=.plain/\((p.K b/\x.write=false)\/p.mine j b\/(p.hV x.loc/\p.tok=some j))/\¬p.past j)\/(x.kind=.atomic/\p.e9 x.loc/\0<d)\/(x.kind=.said/\p.e9 x.loc/\j=0)):=by
 obtain⟨loc,wr,g⟩:=e;cases loc with
 |cell a=>
  have l:x=⟨.cell a,wr,if g then .atomic else .plain⟩:=by grind[MemAct.ofEvent,MemAct.touch?]
  subst l;refine⟨a.block,U,?_⟩;rcases h with⟨f,k,i⟩|⟨f,k,i⟩
  .grind
  grind
 |obj r=>
  obtain⟨f,k,i⟩:=h;simp only at f;subst f;have:(MemAct.ofEvent ⟨.obj r,wr,false⟩)=.access ⟨.obj r,wr,false⟩:=by cases wr<;>rfl
  rw[this]at c;simp only[MemAct.touch?,vbh]at c;subst c;exact⟨r,U,AF⟩
 |output=>grind[MemAct.ofEvent,MemAct.touch?,Loc.isMemory]
 |goroutines=>exact h.elim
 |mark m=>
  have:(MemAct.ofEvent ⟨.mark m,wr,g⟩)=.mark m:=by cases wr<;>cases g<;>rfl
  rw[this]at c;rcases h with h|⟨h0,a,hs,rfl|rfl⟩
  .cases m<;>simp[AA]at h<;>simp[MemAct.touch?]at c
  .simp[MemAct.touch?]at c;subst c;exact⟨a.block,U,AF⟩
  .simp[MemAct.touch?]at c;subst c;exact⟨a.block,U,AF⟩
theorem alf(h:Mu p j d e)(a:Addr):MemAct.ofEvent e≠ .mark (.release a):=by
 obtain⟨loc,wr,b⟩:=e;cases loc with
 |mark m=>
  have:(MemAct.ofEvent ⟨.mark m,wr,b⟩)=.mark m:=by cases wr<;>cases b<;>rfl
  rw[this];rcases h with h|⟨_,_,_,rfl|rfl⟩
  .grind[AA]
  .simp
  .simp
 | _=>cases wr<;>cases b<;>simp[MemAct.ofEvent]
def IY(t:Trace)(y:MemOp):(t++#[y])[t.size]?=some y:=by simp
theorem AC{a:Touch}(h:touchAt (t++#[y]) i=some a):touchAt t i=some a\/(i=t.size/\y.act.touch?=some a):=by obtain⟨z,c,b⟩:=touch_of h;grind[touchAt_of]
structure Mv(p:kO):Prop where
 hV:∀l,p.hV l->l.isMemory=true
 e9:∀l,p.e9 l->l.isMemory=true
def FP{l:Loc}{b:Nat}(h:fq l=some b):l.isMemory=true:=by cases l<;>simp[fq]at h<;>rfl
def ez.push(A:Az p)(P:Mv p)(h:ez p t)(v:p.bf j)(S:Mu p j (Deaf t j) e)(fn:uaj)(pos:String):ez p (t++#[{g:=j,fn,pos,act:=.ofEvent e}]):=by
 generalize W:({g:=j,fn,pos,act:=.ofEvent e}:MemOp)=y;have hg:y.g=j:=AF;have X:y.act=.ofEvent e:=AF;have Y:Knows (t++#[y]) j t.size:=⟨t.size,y,IY t y,hg,.inl rfl⟩;have new:∀{a:Touch},y.act.touch?=some a->a.loc.isMemory=true->∃b,fq a.loc=some b/\((a.kind=.plain/\((p.K b/\a.write=false)\/p.mine j b\/(p.hV a.loc/\p.tok=some j))/\¬p.past j)\/(a.kind=.atomic/\p.e9 a.loc/\0<Deaf t j)\/(a.kind=.said/\p.e9 a.loc/\j=0)):=
  λc m=>ale S AF m
 refine⟨λi a c L c6=>?_,λi op hi=>?_,λi a b c d=>?_,λi a b c F d hK k hk=>?_,λk i a b hk c d m=>?_,λk hk=>⟨(h.tL k hk).1,λi a c l=>?_⟩,λhk i a c l=>?_,λi a c hs=>?_,λi a O=>?_,λsaid=>?_,λi k hk Q f=>?_⟩
 .rcases AC c with c|⟨_,c⟩
  .exact h.oC i a c L c6
  grind
 .rcases getElem?_append_cases hi with⟨_,M⟩|⟨_,I⟩
  .exact h.gs i op M
  .simp at I;subst I;rw[hg];exact v.1
 .rcases AC c with c|⟨_,c⟩
  .exact h.low i a b c d
  .obtain⟨b',E,f⟩:=new c (FP d);obtain rfl:b=b':=AF;rcases f with⟨_,⟨hK,_⟩|m|⟨l,_⟩,_⟩|⟨_,hs,_⟩|⟨_,hs,_⟩
   .exact A.alc b hK
   .exact A.low j b m
   .exact A.Rs a.loc b (.inl l) d
   .exact A.Rs a.loc b (.inr hs) d
   .exact A.Rs a.loc b (.inr hs) d
 .rcases AC c with c|⟨_,c⟩
  .exact(h.still i a b c F d hK k hk).app _
  .exfalso;obtain⟨b',E,f⟩:=new c (FP d);obtain rfl:b=b':=AF;rcases f with⟨_,⟨_,N⟩|m|⟨l,_⟩,_⟩|⟨_,hs,_⟩|⟨_,hs,_⟩
   .grind
   .exact A.YD j b m hK
   .exact(A.FN a.loc b 0 l d).2 hK
   .exact(A.FO a.loc b 0 hs d).2 hK
   .exact(A.FO a.loc b 0 hs d).2 hK
 .rcases AC c with c|⟨rfl,o⟩
  .exact(h.own k i a b hk c d m).app _
  .obtain⟨b',E,f⟩:=new o (FP d);obtain rfl:b=b':=AF;rcases f with⟨_,⟨hK,_⟩|n|⟨l,_⟩,_⟩|⟨_,hs,_⟩|⟨_,hs,_⟩
   .exact absurd hK (A.YD k b m)
   .rw[A.own k j b m n];grind
   .exact absurd m (A.FN a.loc b k l d).1
   .exact absurd m (A.FO a.loc b k hs d).1
   .exact absurd m (A.FO a.loc b k hs d).1
 .rcases AC c with c|⟨rfl,o⟩
  .exact((h.tL k hk).2 i a c l).app _
  .obtain⟨b,d,f⟩:=new o (P.hV _ l);rcases f with⟨_,⟨hK,_⟩|n|⟨_,ht⟩,_⟩|⟨_,hs,_⟩|⟨_,hs,_⟩
   .exact absurd hK (A.FN a.loc b 0 l d).2
   .exact absurd n (A.FN a.loc b j l d).1
   .grind
   .exact absurd hs (A.tM _ l)
   .exact absurd hs (A.tM _ l)
 .rcases AC c with c|⟨rfl,o⟩
  .exact(h.Cp hk i a c l).imp Ld (λx=>x.app _)
  .exfalso;obtain⟨b,d,f⟩:=new o (P.hV _ l);rcases f with⟨_,⟨hK,_⟩|n|⟨_,ht⟩,_⟩|⟨_,hs,_⟩|⟨_,hs,_⟩
   .exact absurd hK (A.FN a.loc b 0 l d).2
   .exact absurd n (A.FN a.loc b j l d).1
   .grind
   .exact absurd hs (A.tM _ l)
   .exact absurd hs (A.tM _ l)
 .rcases AC c with c|⟨rfl,o⟩
  .exact(h.e9 i a c hs).imp id (λx=>x.imp (λy=>⟨y.1,y.2.app _⟩) Ld)
  .obtain⟨b,d,f⟩:=new o (P.e9 _ hs);rcases f with⟨_,⟨hK,_⟩|n|⟨l,_⟩,_⟩|⟨hk,_,_⟩|⟨hk,_,h0⟩
   .exact absurd hK (A.FO a.loc b 0 hs d).2
   .exact absurd n (A.FO a.loc b j hs d).1
   .exact absurd hs (A.tM _ l)
   .grind
   grind
 .obtain⟨op,R,J⟩:=vaj.1 O;rcases getElem?_append_cases R with⟨_,U⟩|⟨_,YE⟩
  .exact h.qK i a (by rw[act?_of U,J])
  grind[alf]
 .refine noRace_append (g:=j) (h.yc said) AF (λi x c op s b d f=>?_);simp at s;subst s;have m:b.loc.isMemory=true:=by rw[<-f.1];exact f.2.1
  obtain⟨u,Z,q⟩:=new d m;have H:fq x.loc=some u:=by rw[f.1];grind
  rcases q with⟨_,⟨hK,F⟩|n|⟨l,ht⟩,_⟩|⟨hk,hs,_⟩|⟨hk,hs,h0⟩
  .exact h.still i x u c (f.2.2.1.resolve_right AF) H hK j v
  .exact h.own j i x u v c H n
  .exact(h.tL j ht).2 i x c (by rw[f.1];grind)
  .rcases h.e9 i x c (by rw[f.1];exact hs)with r|⟨r,_⟩|r
   .exfalso;rcases f.2.2.2 with e|e|⟨_,e,_⟩
    .grind
    .grind
    grind
   .exfalso;rcases f.2.2.2 with e|e|⟨_,_,e⟩
    .grind
    .grind
    grind
   grind
  .rcases h.e9 i x c (by rw[f.1];exact hs)with r|⟨_,r⟩|r
   .exfalso;rcases f.2.2.2 with e|e|⟨_,e,_⟩
    .grind
    .grind
    grind
   .grind
   grind
 .by_cases hi:i<t.size
  .have D:t.g? i=some k:=by grind[g?_old]
   have w:t.counts i:=by obtain⟨x,C,B,z⟩:=f;exact⟨x,by grind[act?_old],B,z.imp id (λe=>(heard_old hi).1 e)⟩
   exact(h.past i k D Q w).imp Lb Lb
  .have V:i=t.size:=by grind[Trace.g?]
   subst V;have r:k=j:=Ia;subst r;obtain⟨x,C,B,z⟩:=f;rw[act?_of (IY t y)]at C;obtain⟨b,d,q⟩:=new C B;rcases q with⟨_,_,LZ⟩|⟨hk,_,hd⟩|⟨_,_,h0⟩
   .grind
   .exfalso;rcases z with e|⟨g,K,T⟩
    .grind
    .simp[Trace.g?]at K;rw[deaf_old Jb]at T;grind[Deaf]
   grind
theorem alh(t:Trace)(j:Nat)(fn:uaj)(pos:String)(e:Event):Deaf (t++#[{g:=j,fn,pos,act:=.ofEvent e}]) j=AB (Deaf t j) e:=by have:=Deaf_own t j fn pos #[e];grind[ofEvents_eq,AB]
theorem ez.step(A:Az p)(P:Mv p){j:Nat}(a:p.bf j)(fn:uaj)(pos:String):∀(l:ubj){t:Trace},ez p t->Rt p j (Deaf t j) l->ez p (t++MemOp.ofEvents j fn pos l.toArray)
 | [],t,h,_=>by grind[ofEvents_eq]
 |e::l,t,h,⟨b,c⟩=>by have:=ez.step A P a fn pos l (h.push A P a b fn pos) (by grind[alh]);grind[ofEvents_eq]
def ez.grow(h:ez p t){size:Nat}(hs:p.size<=size){mine:Nat->Nat->Prop}(g:∀j b,mine j b->p.mine j b\/p.size<=b):ez {p with size:=size,mine:=mine} t:=
 ⟨λi a d k c6=>(h.oC i a d k c6).imp id λhn=>⟨hn.1,λb c=>⟨(hn.2 b c).1,λj f=>(g j b f).elim ((hn.2 b c).2 j) (λe=>absurd (h.low i a b d c) AX)⟩⟩,h.gs,λi a b d c=>vap (h.low i a b d c) hs,h.still,λj i a b f d c l=>(g j b l).elim (λe=>h.own j i a b f d c e) (λe=>absurd (h.low i a b d c) AX),h.tL,h.Cp,h.e9,h.qK,h.yc,h.past⟩
end
section
section
variable{p:kO}{t:Trace}
def wK(hn:y.act.touch?=none){a:Touch}(h:touchAt (t++#[y]) i=some a):touchAt t i=some a:=by grind[AC]
def Ru(hn:y.act.touch?=none)(hg:(t++#[y]).g? i=some j)(c:(t++#[y]).counts i):i<t.size/\t.g? i=some j/\t.counts i:=by obtain⟨x,g,f,d⟩:=c;have b:touchAt t i=some x:=wK hn g;obtain⟨z,a,_⟩:=touch_of b;have hi:=lt_size_of_getElem? a;exact⟨hi,by grind[g?_old],x,by grind[act?_old],f,d.imp id (λe=>(heard_old hi).1 e)⟩
theorem ez.word(h:ez p t)(hg:y.g<p.n)(hn:y.act.touch?=none)(B:∀a,y.act≠ .mark (.release a)):ez p (t++#[y]):=by
 refine⟨λi a c n c6=>h.oC i a (wK hn c) n c6,λi op hi=>?_,λi a b c d=>h.low i a b (wK hn c) d,λi a b c q d hK k hk=>(h.still i a b (wK hn c) q d hK k hk).app _,λk i a b hk c d v=>(h.own k i a b hk (wK hn c) d v).app _,
  λk hk=>⟨(h.tL k hk).1,λi a c f=>((h.tL k hk).2 i a (wK hn c) f).app _⟩,λhk i a c f=>(h.Cp hk i a (wK hn c) f).imp Ld (λx=>x.app _),
  λi a c hs=>(h.e9 i a (wK hn c) hs).imp id (λx=>x.imp (λy=>⟨y.1,y.2.app _⟩) Ld),λi a m=>?_,λsaid=>?_,λi k hk r j=>?_⟩
 .rcases getElem?_append_cases hi with⟨_,o⟩|⟨_,D⟩
  .exact h.gs i op o
  grind
 .obtain⟨op,u,l⟩:=vaj.1 m;rcases getElem?_append_cases u with⟨_,A⟩|⟨_,C⟩
  .exact h.qK i a (by rw[act?_of A,l])
  grind
 .refine noRace_append (g:=y.g) (h.yc said) AF (λi x c op s b d j=>?_);grind
 .obtain⟨hi,z,w⟩:=Ru hn hk j;exact(h.past i k z r w).imp Lb Lb
theorem YG(h:ez p t){a:Addr}(d:y.act=.mark (.acquire a))(hd:Deaf t y.g=0)(e:FM t a i):Knows (t++#[y]) y.g i:=by
 obtain⟨q,c,g,f⟩:=e;have hq:=lt_of_act? c;have b:=IY t y;have edge:HappensBefore (t++#[y]) q t.size:=.single (.inr ⟨.marked hq (.inr (by rw[act?_old hq];exact c)) (by rw[act?_of b,d]) (λk _ hk=>by rw[act?_old hk];exact h.qK k a),(heard_old hq).2 g,
  ⟨y.g,by simp[Trace.g?],FH⟩⟩)
 exact⟨t.size,y,b,U,.inr ((f.app #[y]).hb edge)⟩
def ez.ali(h:ez p t)(ht:p.tok=none)(c:p.bf y.g)(d:y.act=.mark (.acquire p.mu))(hd:Deaf t y.g=0):ez {p with tok:=some y.g} (t++#[y]):=by
 have hn:y.act.touch?=none:=by rw[d];rfl
 have b:=h.word c.1 hn AF;refine⟨b.oC,b.gs,b.low,b.still,b.own,λk hk=>?_,AF,b.e9,b.qK,b.yc,b.past⟩;simp at hk;subst hk;refine⟨c,λi a e hg=>?_⟩;rcases h.Cp ht i a (wK hn e) hg with hk|hk
 .exact(hk _ c).app _
 grind[YG]
def ez.alj(h:ez p t)(ht:p.tok=some y.g)(c:y.act=.mark (.releaseMerge p.mu))(hd:Deaf t y.g=0):ez {p with tok:=none} (t++#[y]):=by
 have hn:y.act.touch?=none:=by rw[c];rfl
 obtain⟨f,hk⟩:=h.tL _ ht;have b:=h.word f.1 hn AF;have d:=IY t y;refine⟨b.oC,b.gs,b.low,b.still,b.own,AF,λ_ i a e hg=>.inr ⟨t.size,by rw[act?_of d,c],⟨y.g,by simp[Trace.g?],FH⟩,.inr ?_⟩,b.e9,b.qK,b.yc,b.past⟩;exact(hk i a (wK hn e) hg).hb_new Jb d U
def ez.alk(h:ez p t)(g:p.bf y.g)(c:y.act=.mark (.releaseMerge p.wg))(hd:Deaf t y.g=0){past:c7}(e:∀k,past k->p.past k\/k=y.g):ez {p with past:=past} (t++#[y]):=by
 have hn:y.act.touch?=none:=by rw[c];rfl
 have a:=h.word g.1 hn AF;have f:=IY t y;refine⟨a.oC,a.gs,a.low,a.still,a.own,a.tL,a.Cp,a.e9,a.qK,a.yc,λi k hk b d=>?_⟩;obtain⟨hi,l,j⟩:=Ru hn hk d;rcases e k b with b|rfl
 .exact a.past i k hk b d
 .refine .inr ⟨t.size,by rw[act?_of f,c],⟨y.g,by simp[Trace.g?],FH⟩,.inr ?_⟩;grind[Trace.g?,hb_po]
def ez.alm(h:ez p t)(hg:y.g=0)(h0:0<p.n)(a:y.act=.mark (.acquire p.wg))(hd:Deaf t 0=0):
 ez p (t++#[y])/\∀i j,(t++#[y]).g? i=some j->p.past j->(t++#[y]).counts i->Knows (t++#[y]) 0 i:=by
 have hn:y.act.touch?=none:=by rw[a];rfl
 refine⟨h.word AF hn AF,λi j c b d=>?_⟩;obtain⟨hi,g,f⟩:=Ru hn c d;rcases h.past i j g b f with e|e
 .exact e.app _
 grind[YG]
def ez.aln(h:ez p t){x:MemOp}(F:x.g=0/\x.act=.go p.n)(E:y.g=p.n/\y.act=.start)(h0:Deaf t 0=0)(hn:0<p.n)(Q:∀b,¬p.mine p.n b):ez {p with n:=p.n+1} (t++#[x,y]):=by
 have hk:Deaf t p.n=0:=Deaf_absent λi op hi e=>by have:=h.gs i op hi;omega
 have C:∀op∈#[x,y],op=x\/op=y:=AF;have R:∀op∈#[x,y],∀b,op.act.touch?=some b->False:=by
  intro op m b d;rcases C op m with rfl|rfl
  .rw[F.2]at d;cases d
  .rw[E.2]at d;cases d
 have old:∀{i:Nat}{b:Touch},touchAt (t++#[x,y]) i=some b->touchAt t i=some b:=by intro i b d;obtain⟨z,r,D⟩:=touch_of d;grind[touchAt_of]
 have c_:p.bf 0:=⟨hn,.inl U⟩;have all:∀{i:Nat},(∀j,p.bf j->Knows t j i)->∀j,({p with n:=p.n+1}:kO).bf j->Knows (t++#[x,y]) j i:=by
  intro i hi j f;rcases vcx j p.n with k|v
  .exact(hi j ⟨k,f.2⟩).app _
  .have O:j<p.n+1:=f.1;grind[fork_knows]
 refine⟨λi a c w c6=>h.oC i a (old c) w c6,λi op hi=>?_,λi a b c d=>h.low i a b (old c) d,λi a b c H d hK=>all (h.still i a b (old c) H d hK),λj i a b f c d q=>?_,λj f=>?_,λK i a c hg=>?_,
  λi a c hs=>(h.e9 i a (old c) hs).imp id (λx=>x.imp (λy=>⟨y.1,y.2.app _⟩) all),λi a I=>?_,λsaid=>?_,λi j f P L=>?_⟩
 .rcases getElem?_append_cases hi with⟨_,B⟩|⟨_,T⟩
  .exact Nat.lt_succ_of_lt (h.gs i op B)
  grind
 .rcases vcx j p.n with k|v
  .exact(h.own j i a b ⟨k,f.2⟩ (old c) d q).app _
  .have O:j<p.n+1:=f.1;grind
 .obtain⟨l,o⟩:=h.tL j f;exact⟨⟨Nat.lt_succ_of_lt l.1,l.2⟩,λi a c hg=>(o i a (old c) hg).app _⟩
 .exact(h.Cp K i a (old c) hg).imp all Lb
 .obtain⟨op,J,u⟩:=vaj.1 I;rcases getElem?_append_cases J with⟨_,N⟩|⟨_,S⟩
  .exact h.qK i a (by rw[act?_of N,u])
  grind
 .have e:t++#[x,y]=(t++#[x])++#[y]:=by grind
  rw[e];refine noRace_append (g:=p.n) (noRace_append (g:=0) (h.yc said) AF AF)
   AF AF
 .obtain⟨s,l,o,M⟩:=L;have A:touchAt t i=some s:=old l;obtain⟨z,r,_⟩:=touch_of A;have hi:=lt_size_of_getElem? r;exact(h.past i j (by grind[g?_old]) P ⟨s,by grind[act?_old],o,M.imp id (λe=>(heard_old hi).1 e)⟩).imp Lb Lb
end
end
end bo
namespace ag
structure bn where
 L:Bool
 W:Bool
 S:Bool
 k:Nat
 sema:Nat
 gD:Nat
def bn.word(m:bn):Nat:=m.L.toNat+2*m.W.toNat+4*m.S.toNat+8*m.k
def bn.jL(m:bn):Prop:=m.L=false/\m.W=false/\m.S=false/\0<m.k
inductive b6 where
 |idle|mm|jv|kf|hand|own
 |eQ (v o:Nat)
 |nd|ps
def hJ:b6->Nat| .own=>1| _=>0
def gE:b6->Nat| .jv=>1| _=>0
def fM:b6->Nat| .kf=>1| _=>0
def fB:b6->Nat| .hand=>1| _=>0
def ed:b6->Nat| .nd=>1| _=>0
def eA:b6->Nat| .ps=>1| _=>0
def tU(x:b6)(W:Bool):Bool:=match x with| .jv=>false| _=>W
def aW(f:b6->Nat)(xs:List b6):Nat:=(xs.map f).sum
theorem pb(f:b6->Nat):∀(xs:List b6)(i:Nat)(x y:b6),xs[i]?=some x->aW f (xs.set i y)+f x=aW f xs+f y
 | [],i,x,y,h=>AF
 |a::xs,0,x,y,h=>by grind[aW]
 |a::xs,i+1,x,y,h=>by have:=pb f xs i x y Dd;simp[aW]at this⊢;omega
theorem CA(f:b6->Nat):∀(xs:List b6)(i:Nat)(x:b6),xs[i]?=some x->f x<=aW f xs
 | [],i,x,h=>AF
 |a::xs,0,x,h=>by grind[aW]
 |a::xs,i+1,x,h=>by have:=CA f xs i x Dd;simp[aW]at this⊢;omega
theorem RG(f:b6->Nat):∀(xs:List b6)(i j:Nat)(x y:b6),xs[i]?=some x->xs[j]?=some y->i≠j->f x+f y<=aW f xs
 | [],i,j,x,y,h,_,_=>AF
 |a::xs,0,0,x,y,_,_,h=>absurd U h
 |a::xs,0,j+1,x,y,c,b,_=>by simp at c b;subst c;have:=CA f xs j y b;grind[aW]
 |a::xs,i+1,0,x,y,c,b,_=>by simp at c b;subst b;have:=CA f xs i x c;grind[aW]
 |a::xs,i+1,j+1,x,y,c,b,h=>by have:=RG f xs i j x y Fz (by simpa using b) AX;simp[aW]at this⊢;omega
theorem YT(f:b6->Nat)(b:∀x,f x<=1):∀(xs:List b6),aW f xs<=xs.length
 | []=>by simp[aW]
 |a::xs=>by have:=YT f b xs;have:=b a;simp[aW]at *;omega
theorem YU(f:b6->Nat):∀(xs:List b6),(∀(i:Nat) x,xs[i]?=some x->f x=0)->aW f xs=0
 | [],_=>by simp[aW]
 |a::xs,h=>by have c:=h 0 a Ab;have b:=YU f xs λi x hi=>h (i+1) x Iu;simp[aW]at b⊢;omega
def RH(f:b6->Nat)(xs:List b6)(y:b6):aW f (xs++[y])=aW f xs+f y:=by simp[aW]
structure dx(m:bn)(xs:List b6):Prop where
 o:aW hJ xs=m.L.toNat
 nm:m.S=false->m.W.toNat=aW gE xs+aW ed xs+m.sema/\aW fB xs=0/\aW eA xs=0/\aW fM xs=m.k+m.sema+aW ed xs
 st:m.S=true->m.W=false/\aW gE xs=0/\aW ed xs=0/\m.L.toNat+aW fB xs+aW eA xs+m.sema=1/\aW fM xs+aW fB xs=m.k/\1<=m.k
 ow:m.jL->∃i:Nat,xs[i]?=some (.eQ m.gD m.word)
 eQ:∀(i:Nat) v o,xs[i]?=some (.eQ v o)->v<=m.gD/\(v=m.gD->m.jL->o=m.word)
def qN(m:bn)(xs:List b6):Nat:=m.sema+aW ed xs+aW eA xs
section
variable{m:bn}{xs:List b6}{i:Nat}{x:b6}
def dx.MG(h:dx m xs):m.k<=xs.length:=by
 have q:=YT fM (λx=>by cases x<;>simp[fM]) xs
 cases hS:m.S with
 |false=>have:=h.nm hS;omega
 |true=>
  have d:=h.st hS;have c:m.L.toNat<=1:=AF;by_cases e:aW fB xs=0
  .omega
  .
   have:∀(xs:List b6),aW fM xs+aW fB xs<=xs.length:=by intro xs;induction xs with|nil=>simp[aW]|cons a xs b=>cases a<;>simp[aW,fM,fB]at b⊢ <;>omega
   grind
def rW{y:b6}(hi:xs[i]?=some x)(b:∀v o,x≠ .eQ v o)(a:∀v o,y≠ .eQ v o){j:Nat}{v o:Nat}:(xs.set i y)[j]?=some (.eQ v o)↔xs[j]?=some (.eQ v o):=by grind
def dx.alR(h:dx m xs)(hi:xs[i]?=some x)(d:x=.mm\/x=.jv)(k:m.L=false)(hS:m.S=false):dx {m with L:=true,W:=tU x m.W} (xs.set i .own):=by
 have c:=λf=>pb f xs i x .own hi;have o:=c hJ;have a:=c gE;have p:=c ed;have hd:=c fB;have ps:=c eA;have q:=c fM;have nm:=h.nm hS;have g:=h.o;rw[k]at g;have l:m.W.toNat<=1:=vaz _;rcases d with rfl|rfl;all_goals
  simp[hJ,gE,ed,fB,eA,fM,tU]at *;refine⟨AF,AF,λe=>?_,λe=>?_,λj v o b=>?_⟩
  .grind
  .exact absurd e.1 Ab
  .have b:=(rW hi Ab Ab).1 b;exact⟨(h.eQ j v o b).1,λ_ e=>absurd e.1 Ab⟩
def dx.queue(h:dx m xs)(hi:xs[i]?=some b6.mm)(hq:m.L=true\/m.S=true):dx {m with k:=m.k+1} (xs.set i b6.kf):=by
 have c:=λf=>pb f xs i b6.mm b6.kf hi;have o:=c hJ;have a:=c gE;have p:=c ed;have hd:=c fB;have ps:=c eA;have q:=c fM;have r:=h.o;have l:m.W.toNat<=1:=vaz _;have n:m.L.toNat<=1:=vaz _;simp only[hJ,gE,ed,fB,eA,fM]at o a p hd ps q;refine⟨AF,λe=>?_,λe=>?_,λe=>?_,λj v o' b=>?_⟩
 .have:=h.nm e;grind
 .have:=h.st e;grind
 .exact absurd e (by rintro⟨g,_,d,_⟩;grind)
 .have b:=(rW hi Ab Ab).1 b;exact⟨(h.eQ j v o' b).1,λ_ e=>absurd e (by rintro⟨g,_,d,_⟩;grind)⟩
def dx.YV(h:dx m xs)(hi:xs[i]?=some .jv):m.S=false/\m.W=true/\aW gE xs=1/\aW ed xs=0/\m.sema=0:=by have a:=CA gE xs i .jv hi;have b:m.W.toNat<=1:=vaz _;simp[gE]at a;cases hS:m.S with|true=>have:=h.st hS;omega|false=>have:=h.nm hS;grind
def dx.alS(h:dx m xs)(hi:xs[i]?=some b6.jv)(sv:Bool)(n:m.L=true):dx {m with k:=m.k+1,W:=false,S:=sv} (xs.set i b6.kf):=by
 have c:=λf=>pb f xs i b6.jv b6.kf hi;have o:=c hJ;have a:=c gE;have p:=c ed;have hd:=c fB;have ps:=c eA;have q:=c fM;have d:=h.o;have r:m.W.toNat<=1:=vaz _;have g:m.L.toNat<=1:=AF;simp only[hJ,gE,ed,fB,eA,fM]at o a p hd ps q;obtain⟨hS,l,n1,eJ,s⟩:=h.YV hi;have nm:=h.nm hS;rw[l]at nm;rw[n]at d g;simp at nm d;refine⟨AF,λe=>?_,λe=>?_,λe=>absurd e.1 AF,λj v o' b=>?_⟩
 .grind
 .grind
 .have b:=(rW hi Ab Ab).1 b;exact⟨(h.eQ j v o' b).1,λ_ e=>absurd e.1 AF⟩
def dx.alT(h:dx m xs)(hi:xs[i]?=some b6.mm)(n:m.L=true)(hS:m.S=false)(d:m.W=false):dx {m with W:=true} (xs.set i b6.jv):=by
 have c:=λf=>pb f xs i b6.mm b6.jv hi;have o:=c hJ;have a:=c gE;have p:=c ed;have hd:=c fB;have ps:=c eA;have q:=c fM;have l:=h.o;have g:m.W.toNat<=1:=AF;have k:m.L.toNat<=1:=AF;simp only[hJ,gE,ed,fB,eA,fM]at o a p hd ps q;have nm:=h.nm hS;rw[d]at nm;simp at nm;refine⟨AF,λe=>?_,λe=>?_,λe=>absurd e.1 AF,λj v o' b=>?_⟩
 .grind
 .grind
 .have b:=(rW hi Ab Ab).1 b;exact⟨(h.eQ j v o' b).1,λ_ e=>absurd e.1 AF⟩
def dx.alU(h:dx m xs)(hi:xs[i]?=some b6.kf)(hS:m.S=false)(hs:0<m.sema):dx {m with sema:=m.sema-1} (xs.set i b6.jv):=by
 have c:=λf=>pb f xs i b6.kf b6.jv hi;have o:=c hJ;have a:=c gE;have p:=c ed;have hd:=c fB;have ps:=c eA;have q:=c fM;have k:=h.o;have d:m.W.toNat<=1:=vaz _;have g:m.L.toNat<=1:=vaz _;simp only[hJ,gE,ed,fB,eA,fM]at o a p hd ps q;have nm:=h.nm hS;have l:m.W=true:=by grind
 refine⟨AF,λe=>?_,λe=>?_,λe=>absurd e.2.1 AF,λj v o' b=>?_⟩
 .grind
 .grind
 .have b:=(rW hi Ab Ab).1 b;exact⟨(h.eQ j v o' b).1,λ_ e=>absurd e.2.1 AF⟩
def dx.alV(h:dx m xs)(hi:xs[i]?=some b6.kf)(hS:m.S=true)(hs:0<m.sema):dx {m with sema:=m.sema-1} (xs.set i b6.hand):=by
 have c:=λf=>pb f xs i b6.kf b6.hand hi;have o:=c hJ;have a:=c gE;have p:=c ed;have hd:=c fB;have ps:=c eA;have q:=c fM;have k:=h.o;have d:m.W.toNat<=1:=vaz _;have g:m.L.toNat<=1:=vaz _;simp only[hJ,gE,ed,fB,eA,fM]at o a p hd ps q;have st:=h.st hS;refine⟨AF,λe=>?_,λe=>?_,λe=>absurd e.2.2.1 AF,λj v o' b=>?_⟩
 .grind
 .grind
 .have b:=(rW hi Ab Ab).1 b;exact⟨(h.eQ j v o' b).1,λ_ e=>absurd e.2.2.1 AF⟩
def dx.I5(h:dx m xs)(hi:xs[i]?=some .hand):m.S=true/\m.L=false/\m.W=false/\1<=m.k/\m.sema=0/\aW fB xs=1/\aW eA xs=0:=by have a:=CA fB xs i .hand hi;have b:m.L.toNat<=1:=vaz _;simp[fB]at a;cases hS:m.S with|false=>have:=h.nm hS;omega|true=>have:=h.st hS;grind
def dx.handed(h:dx m xs)(hi:xs[i]?=some b6.hand)(clear:Bool)(s:clear=false->2<=m.k):dx {m with L:=true,k:=m.k-1,S:= !clear} (xs.set i b6.own):=by
 have c:=λf=>pb f xs i b6.hand b6.own hi;have o:=c hJ;have a:=c gE;have p:=c ed;have hd:=c fB;have ps:=c eA;have q:=c fM;have d:=h.o;have l:m.W.toNat<=1:=vaz _;have n:m.L.toNat<=1:=vaz _;simp only[hJ,gE,ed,fB,eA,fM]at o a p hd ps q;obtain⟨hS,g,t,n1,eJ,r,nF⟩:=h.I5 hi;have st:=h.st hS;rw[g]at d st;simp at d st;refine⟨AF,λe=>?_,λe=>?_,λe=>absurd e.1 Ab,λj v o' b=>?_⟩
 .grind
 .grind
 .have b:=(rW hi Ab Ab).1 b;exact⟨(h.eQ j v o' b).1,λ_ e=>absurd e.1 Ab⟩
def dx.MH(h:dx m xs)(hi:xs[i]?=some .own):m.L=true:=by have a:=CA hJ xs i .own hi;simp[hJ]at a;have:=h.o;grind
def dx.YW(h:dx m xs){j:Nat}(hi:xs[i]?=some .own)(c:xs[j]?=some .own):i=j:=by apply vaw;intro b;have a:=RG hJ xs i j .own .own hi c b;simp only[hJ]at a;have:=h.o;grind[Bool.toNat_le]
def dx.alW(h:dx m xs)(hi:xs[i]?=some b6.own)(hS:m.S=true):dx {m with L:=false} (xs.set i b6.ps):=by
 have c:=λf=>pb f xs i b6.own b6.ps hi;have o:=c hJ;have a:=c gE;have p:=c ed;have hd:=c fB;have ps:=c eA;have q:=c fM;have d:=h.o;have k:m.W.toNat<=1:=vaz _;have l:m.L.toNat<=1:=vaz _;simp only[hJ,gE,ed,fB,eA,fM]at o a p hd ps q;have g:=h.MH hi;have st:=h.st hS;rw[g]at d st;simp at d st;refine⟨AF,λe=>?_,λe=>?_,λe=>absurd e.2.2.1 AF,λj v o' b=>?_⟩
 .grind
 .grind
 .have b:=(rW hi Ab Ab).1 b;exact⟨(h.eQ j v o' b).1,λ_ e=>absurd e.2.2.1 AF⟩
def dx.alX(h:dx m xs)(hi:xs[i]?=some .own)(hS:m.S=false)(hk:m.k=0):dx {m with L:=false} (xs.set i .idle):=by
 have c:=λf=>pb f xs i .own .idle hi;have o:=c hJ;have a:=c gE;have p:=c ed;have hd:=c fB;have ps:=c eA;have q:=c fM;have d:=h.o;have g:=h.MH hi;simp only[hJ,gE,ed,fB,eA,fM]at o a p hd ps q;have nm:=h.nm hS;rw[g]at d;simp at d;refine⟨AF,λe=>?_,λe=>?_,λe=>absurd e.2.2.2 AF,λj v o' b=>?_⟩
 .grind
 .grind
 .have b:=(rW hi Ab Ab).1 b;exact⟨(h.eQ j v o' b).1,λ_ e=>absurd e.2.2.2 AF⟩
def dx.alY(h:dx m xs)(hi:xs[i]?=some .own)(hS:m.S=false):dx {m with L:=false,gD:=m.gD+1} (xs.set i (.eQ (m.gD+1) ({m with L:=false}:bn).word)):=by
 have c:=λf=>pb f xs i .own (.eQ (m.gD+1) ({m with L:=false}:bn).word) hi;have o:=c hJ;have a:=c gE;have p:=c ed;have hd:=c fB;have ps:=c eA;have q:=c fM;have g:=h.o;have l:=h.MH hi;have b:i<xs.length:=(vab.1 hi).1;simp only[hJ,gE,ed,fB,eA,fM]at o a p hd ps q;have nm:=h.nm hS;rw[l]at g;simp at g;refine⟨AF,λe=>?_,λe=>?_,λe=>⟨i,by rw[vch b];rfl⟩,λj v o' d=>?_⟩
 .grind
 .grind
 .by_cases k:j=i
  .subst k;rw[vch b]at d;simp at d;obtain⟨rfl,rfl⟩:=d;exact⟨vac _,λ_ _=>U⟩
  .rw[vba (Ne.symm k)]at d;have:=(h.eQ j v o' d).1;grind
def dx.RI(h:dx m xs){v o:Nat}(hi:xs[i]?=some (.eQ v o))(g:m.jL):dx {m with k:=m.k-1,W:=true} (xs.set i .nd):=by
 have c:=λf=>pb f xs i (.eQ v o) .nd hi;have o':=c hJ;have a:=c gE;have p:=c ed;have hd:=c fB;have ps:=c eA;have q:=c fM;have s:=h.o;have d:i<xs.length:=(vab.1 hi).1;simp only[hJ,gE,ed,fB,eA,fM]at o' a p hd ps q;obtain⟨t,l,hS,hk⟩:=g;have nm:=h.nm hS;rw[l]at nm;simp at nm;refine⟨AF,λe=>?_,λe=>?_,λe=>absurd e.2.1 Ab,λj v' r b=>?_⟩
 .grind
 .grind
 .by_cases n:j=i
  .grind
  .rw[vba (Ne.symm n)]at b;exact⟨(h.eQ j v' r b).1,λ_ e=>absurd e.2.1 Ab⟩
def dx.leave(h:dx m xs){v o:Nat}(hi:xs[i]?=some (.eQ v o))(hn:¬(m.jL/\m.gD=v)):dx m (xs.set i .idle):=by
 have c:=λf=>pb f xs i (.eQ v o) .idle hi;have o':=c hJ;have a:=c gE;have p:=c ed;have hd:=c fB;have ps:=c eA;have q:=c fM;have l:=h.o;have d:i<xs.length:=(vab.1 hi).1;simp only[hJ,gE,ed,fB,eA,fM]at o' a p hd ps q;refine⟨AX,λe=>?_,λe=>?_,λe=>?_,λj v' k b=>?_⟩
 .have:=h.nm e;omega
 .have:=h.st e;grind
 .obtain⟨j,b⟩:=h.ow e;refine⟨j,?_⟩;grind
 .by_cases g:j=i
  .grind
  .rw[vba (Ne.symm g)]at b;exact h.eQ j v' k b
def dx.alZ(h:dx m xs)(hi:xs[i]?=some b6.nd):dx {m with sema:=m.sema+1} (xs.set i b6.idle):=by
 have c:=λf=>pb f xs i b6.nd b6.idle hi;have o:=c hJ;have a:=c gE;have p:=c ed;have hd:=c fB;have ps:=c eA;have q:=c fM;have k:=h.o;have d:m.W.toNat<=1:=vaz _;have g:m.L.toNat<=1:=vaz _;simp only[hJ,gE,ed,fB,eA,fM]at o a p hd ps q;refine⟨AF,λe=>?_,λe=>?_,λe=>?_,λj v o' b=>?_⟩
 .have:=h.nm e;grind
 .have:=h.st e;grind
 .obtain⟨j,b⟩:=h.ow e;exact⟨j,(rW hi Ab Ab).2 b⟩
 .have b:=(rW hi Ab Ab).1 b;exact h.eQ j v o' b
def dx.al0(h:dx m xs)(hi:xs[i]?=some b6.ps):dx {m with sema:=m.sema+1} (xs.set i b6.idle):=by
 have c:=λf=>pb f xs i b6.ps b6.idle hi;have o:=c hJ;have a:=c gE;have p:=c ed;have hd:=c fB;have ps:=c eA;have q:=c fM;have k:=h.o;have d:m.W.toNat<=1:=vaz _;have g:m.L.toNat<=1:=vaz _;simp only[hJ,gE,ed,fB,eA,fM]at o a p hd ps q;refine⟨AF,λe=>?_,λe=>?_,λe=>?_,λj v o' b=>?_⟩
 .have:=h.nm e;grind
 .have:=h.st e;grind
 .obtain⟨j,b⟩:=h.ow e;exact⟨j,(rW hi Ab Ab).2 b⟩
 .have b:=(rW hi Ab Ab).1 b;exact h.eQ j v o' b
def dx.start(h:dx m xs)(hi:xs[i]?=some b6.idle):dx m (xs.set i b6.mm):=by
 have c:=λf=>pb f xs i b6.idle b6.mm hi;have o:=c hJ;have a:=c gE;have p:=c ed;have hd:=c fB;have ps:=c eA;have q:=c fM;have k:=h.o;have d:m.W.toNat<=1:=vaz _;have g:m.L.toNat<=1:=vaz _;simp only[hJ,gE,ed,fB,eA,fM]at o a p hd ps q;refine⟨AX,λe=>?_,λe=>?_,λe=>?_,λj v o' b=>?_⟩
 .have:=h.nm e;omega
 .have:=h.st e;grind
 .obtain⟨j,b⟩:=h.ow e;exact⟨j,AF⟩
 .have b:=(rW hi Ab Ab).1 b;exact h.eQ j v o' b
def dx.alive(h:dx m xs)(hs:m.sema=0)(hi:xs[i]?=some .kf):∃(j:Nat)(y:b6),xs[j]?=some y/\y≠ .idle/\y≠ .kf:=by
 apply vaw;intro hn;have all:∀(j:Nat)(y:b6),xs[j]?=some y->y=.idle\/y=.kf:=AF;have z:∀f:b6->Nat,f .idle=0->f .kf=0->aW f xs=0:=λf k g=>YU f xs AF;have o:=z hJ U U;have a:=z gE U U;have p:=z ed U U;have hd:=z fB U U;have ps:=z eA U U;have q:=CA fM xs i .kf hi;simp[fM]at q;have d:=h.o;have c:m.L=false:=by grind
 cases hS:m.S with
 |true=>have:=h.st hS;grind
 |false=>
  have nm:=h.nm hS;have b:m.W=false:=by grind
  obtain⟨j,e⟩:=h.ow ⟨c,b,hS,AX⟩;grind
def dx.push(h:dx m xs):dx m (xs++[.idle]):=by
 have c:=λf=>RH f xs .idle;have o:=c hJ;have a:=c gE;have p:=c ed;have hd:=c fB;have ps:=c eA;have q:=c fM;simp only[hJ,gE,ed,fB,eA,fM]at o a p hd ps q;have i:=h.o;refine⟨AX,λe=>?_,λe=>?_,λe=>?_,λj v o' d=>?_⟩
 .have:=h.nm e;omega
 .have:=h.st e;grind
 .obtain⟨j,d⟩:=h.ow e;have b:j<xs.length:=(vab.1 d).1;exact⟨j,AF⟩
 .rcases vcx j xs.length with b|g
  .rw[vcb b]at d;exact h.eQ j v o' d
  grind
end
def yg(z:b6)(m m1:bn):Prop:=(z=.hand->m.k<=m1.k)/\∀v o,z=.eQ v o->¬(m.jL/\m.gD=v)->¬(m1.jL/\m1.gD=v)
theorem yg.refl(z:b6)(m:bn):yg z m m:=⟨AF,λ_ _ _ h=>h⟩
theorem yg.trans{z:b6}{a b c:bn}(h:yg z a b)(d:yg z b c):yg z a c:=⟨λe=>vad (h.1 e) (d.1 e),λv o e n=>d.2 v o e (h.2 v o e n)⟩
structure lZ(x y:b6)(m m1:bn)(f f1:Nat):Prop where
 inv:∀(xs:List b6)(i:Nat),xs[i]?=some x->dx m xs->dx m1 (xs.set i y)
 fuel:∀(xs:List b6)(i:Nat),xs[i]?=some x->dx m xs->f1+2*qN m1 (xs.set i y)+1<=f+2*qN m xs
 iv:∀(xs:List b6)(i j:Nat)(z:b6),dx m xs->xs[i]?=some x->j≠i->xs[j]?=some z->yg z m m1
section
variable{m:bn}{f f1:Nat}
theorem qO{xs:List b6}{i:Nat}{x:b6}(hi:xs[i]?=some x)(m1:bn)(y:b6):qN m1 (xs.set i y)+ed x+eA x+m.sema=qN m xs+ed y+eA y+m1.sema:=by grind[pb,qN]
def wN{z:b6}{m1:bn}(hk:m.k<=m1.k)(a:m1.jL->m.jL/\m1.gD=m.gD):yg z m m1:=⟨λ_=>hk,AF⟩
def sU(a:f1<f)(x:b6):lZ x x m m f f1:=by
 have e:∀(xs:List b6)(i:Nat),xs[i]?=some x->xs.set i x=xs:=λxs i hi=>by apply vca;grind
 exact⟨AF,AF,λ_ _ _ z _ _ _ _=>.refl z m⟩
def al1(a:f1<f):lZ .idle .mm m m f f1:=
 ⟨λxs i hi h=>h.start hi,λxs i hi _=>by have:=qO (m:=m) hi m .mm;grind[ed,eA],λ_ _ _ z _ _ _ _=>.refl z m⟩
def RL{x:b6}(a:x=.mm\/x=.jv)(b:m.L=false)(hS:m.S=false)(c:f1<f):lZ x .own m {m with L:=true,W:=tU x m.W} f f1:=
 ⟨λxs i hi h=>h.alR hi a b hS,λxs i hi _=>by
  have:=qO (m:=m) hi {m with L:=true,W:=tU x m.W} .own;rcases a with rfl|rfl<;>simp[ed,eA]at this⊢ <;>omega,
  λ_ _ _ z _ _ _ _=>wN Jb (λe=>absurd e.1 Ab)⟩
def YX(hq:m.L=true\/m.S=true)(a:f1<f):lZ .mm .kf m {m with k:=m.k+1} f f1:=
 ⟨λxs i hi h=>h.queue hi hq,λxs i hi _=>by have:=qO (m:=m) hi {m with k:=m.k+1} .kf;grind[ed,eA],
  λ_ _ _ z _ _ _ _=>wN (vdw _) (λe=>by obtain⟨c,_,b,_⟩:=e;grind)⟩
def YY(sv:Bool)(a:m.L=true)(b:f1<f):lZ .jv .kf m {m with k:=m.k+1,W:=false,S:=sv} f f1:=
 ⟨λxs i hi h=>h.alS hi sv a,λxs i hi _=>by have:=qO (m:=m) hi {m with k:=m.k+1,W:=false,S:=sv} .kf;grind[ed,eA],
  λ_ _ _ z _ _ _ _=>wN (vdw _) (λe=>absurd e.1 AF)⟩
def al2(b:m.L=true)(hS:m.S=false)(a:m.W=false)(c:f1<f):lZ .mm .jv m {m with W:=true} f f1:=
 ⟨λxs i hi h=>h.alT hi b hS a,λxs i hi _=>by have:=qO (m:=m) hi {m with W:=true} .jv;grind[ed,eA],
  λ_ _ _ z _ _ _ _=>wN Jb (λe=>absurd e.1 AF)⟩
def al3(hS:m.S=false)(hs:0<m.sema)(a:f1<f+2):lZ .kf .jv m {m with sema:=m.sema-1} f f1:=
 ⟨λxs i hi h=>h.alU hi hS hs,λxs i hi _=>by have:=qO (m:=m) hi {m with sema:=m.sema-1} .jv;grind[ed,eA],
  λ_ _ _ z _ _ _ _=>wN Jb (λe=>⟨e,U⟩)⟩
def al4(hS:m.S=true)(hs:0<m.sema)(a:f1<f+2):lZ .kf .hand m {m with sema:=m.sema-1} f f1:=
 ⟨λxs i hi h=>h.alV hi hS hs,λxs i hi _=>by have:=qO (m:=m) hi {m with sema:=m.sema-1} .hand;grind[ed,eA],
  λ_ _ _ z _ _ _ _=>wN Jb (λe=>⟨e,U⟩)⟩
def al5(clear:Bool)(c:clear=false->2<=m.k)(d:f1<f):lZ .hand .own m {m with L:=true,k:=m.k-1,S:= !clear} f f1:=
 ⟨λxs i hi h=>h.handed hi clear c,λxs i hi _=>by have:=qO (m:=m) hi {m with L:=true,k:=m.k-1,S:= !clear} .own;grind[ed,eA],
  λxs i j z h hi b a=>⟨λe=>by
   subst e;have:=RG fB xs i j .hand .hand hi a (Ne.symm b);have g:=(h.I5 hi).2.2.2.2.2.1;grind[fB],λ_ _ _ _ e=>absurd e.1.1 Ab⟩⟩
def al6(hS:m.S=true)(a:f1+2<f):lZ .own .ps m {m with L:=false} f f1:=
 ⟨λxs i hi h=>h.alW hi hS,λxs i hi _=>by have:=qO (m:=m) hi {m with L:=false} .ps;grind[ed,eA],
  λ_ _ _ z _ _ _ _=>wN Jb (λe=>absurd e.2.2.1 AF)⟩
def al7(hS:m.S=false)(hk:m.k=0)(a:f1<f):lZ .own .idle m {m with L:=false} f f1:=
 ⟨λxs i hi h=>h.alX hi hS hk,λxs i hi _=>by have:=qO (m:=m) hi {m with L:=false} .idle;grind[ed,eA],
  λ_ _ _ z _ _ _ _=>wN Jb (λe=>absurd e.2.2.2 AF)⟩
def al8(hS:m.S=false)(c:f1<f):lZ .own (.eQ (m.gD+1) ({m with L:=false}:bn).word) m {m with L:=false,gD:=m.gD+1} f f1:=
 ⟨λxs i hi h=>h.alY hi hS,λxs i hi _=>by have:=qO (m:=m) hi {m with L:=false,gD:=m.gD+1} (.eQ (m.gD+1) ({m with L:=false}:bn).word);grind[ed,eA],
  λxs i j z h hi b a=>⟨AF,λv o e _ d=>by
   subst e;have:=(h.eQ j v o a).1;grind⟩⟩
def al9{v o:Nat}(a:m.jL)(d:f1+2<f):lZ (.eQ v o) .nd m {m with k:=m.k-1,W:=true} f f1:=
 ⟨λxs i hi h=>h.RI hi a,λxs i hi _=>by have:=qO (m:=m) hi {m with k:=m.k-1,W:=true} .nd;grind[ed,eA],
  λxs i j z h hi c b=>⟨λe=>by
   subst e;have:=(h.I5 b).1;rw[a.2.2.1]at this;grind,AF⟩⟩
def al_{v o:Nat}(hn:¬(m.jL/\m.gD=v))(a:f1<f):lZ (.eQ v o) .idle m m f f1:=
 ⟨λxs i hi h=>h.leave hi hn,λxs i hi _=>by have:=qO (m:=m) hi m .idle;grind[ed,eA],λ_ _ _ z _ _ _ _=>.refl z m⟩
def ama(a:f1<f):lZ .nd .idle m {m with sema:=m.sema+1} f f1:=
 ⟨λxs i hi h=>h.alZ hi,λxs i hi _=>by have:=qO (m:=m) hi {m with sema:=m.sema+1} .idle;grind[ed,eA],λ_ _ _ z _ _ _ _=>wN Jb (λe=>⟨e,U⟩)⟩
def amb(a:f1<f):lZ .ps .idle m {m with sema:=m.sema+1} f f1:=
 ⟨λxs i hi h=>h.al0 hi,λxs i hi _=>by have:=qO (m:=m) hi {m with sema:=m.sema+1} .idle;grind[ed,eA],λ_ _ _ z _ _ _ _=>wN Jb (λe=>⟨e,U⟩)⟩
end
end ag
namespace ft
inductive amw where
 |free
 |has (p:Nat)
 |half (p:Nat) (v:Value)
 |rel
 |nW
 |lb
inductive Jd where
 |spawn (k:Nat) (pend:Bool)
 |pX
 |sZ
 |over
inductive At where
 |main (s:Jd)
 |work (s:amw) (put:uac)
 |gone (put:uac)
 |old
structure ck where
 aW:Nat
 et:Bool
 gF:Nat
 taken:Nat
 came:Nat
 done:List Value
 least:Option Nat
def gA:At->Nat
 | .main (.spawn _ true)=>1
 | .work .free _ | .work (.has _) _ | .work (.half _ _) _ | .work .rel _=>1
 | _=>0
def gG:At->Nat| .work .nW _=>1| _=>0
def gT:At->Nat| .work .lb _=>1| _=>0
def yj:At->Bool
 | .work .rel _ | .work .nW _ | .work .lb _ | .gone _=>true
 | _=>false
def nX:At->List (Nat×Value)
 | .work _ l| .gone l=>l
 | _=>[]
def hand:At->List Nat
 | .work (.has p) _ | .work (.half p _) _=>[p]
 | _=>[]
def laid:At->List (Nat×Value)
 | .work (.half p v) l=>(p,v)::l
 | .work _ l| .gone l=>l
 | _=>[]
def dB(p:Nat)(a:At):Nat:=(hand a).count p+((nX a).map (·.1)).count p
def dC(p:Nat)(a:At):Nat:=((nX a).map (·.1)).count p
def dc(f:At->Nat)(aB:List At):Nat:=(aB.map f).sum
theorem tY(f:At->Nat):∀(aB:List At)(i:Nat)(x y:At),aB[i]?=some x->dc f (aB.set i y)+f x=dc f aB+f y
 | [],i,x,y,h=>AF
 |a::aB,0,x,y,h=>by grind[dc]
 |a::aB,i+1,x,y,h=>by have:=tY f aB i x y Dd;simp[dc]at this⊢;omega
theorem nY(f:At->Nat):∀(aB:List At)(i:Nat)(x:At),aB[i]?=some x->f x<=dc f aB
 | [],i,x,h=>AF
 |a::aB,0,x,h=>by grind[dc]
 |a::aB,i+1,x,h=>by have:=nY f aB i x Dd;simp[dc]at this⊢;omega
def amx(f:At->Nat)(aB:List At)(y:At):dc f (aB++[y])=dc f aB+f y:=by simp[dc]
theorem MP(f:At->Nat):∀(aB:List At),(∀(i:Nat) x,aB[i]?=some x->f x=0)->dc f aB=0
 | [],_=>by simp[dc]
 |a::aB,h=>by have c:=h 0 a Ab;have b:=MP f aB λi x hi=>h (i+1) x Iu;simp[dc]at b⊢;omega
def ju(f:uas):Nat->Nat
 |0=>0
 |n+1=>ju f n+f n
theorem R7{f g:uas}:∀{n:Nat},(∀p,p<n->f p<=g p)->ju f n<=ju g n
 |0,_=>vac _
 |n+1,h=>by have:=R7 (n:=n) λp a=>h p AX;grind[ju]
theorem Je{f g:uas}:∀{n:Nat},(∀p,p<n->f p=g p)->ju f n=ju g n
 |0,_=>rfl
 |n+1,h=>by have c:=Je (n:=n) λp a=>h p AX;have b:=h n AX;simp[ju];omega
theorem Y5{f g:uas}{q d:Nat}:∀{n:Nat},q<n->(∀p,p≠q->g p=f p)->g q=f q+d->ju g n=ju f n+d
 |0,h,_,_=>AX
 |n+1,h,b,a=>by
  simp[ju];by_cases e:q=n
  .grind[Je]
  .have:=Y5 (n:=n) AX b a;grind
theorem Y6{f:uas}{n:Nat}:∀{m:Nat},n<=m->(∀p,n<=p->p<m->f p=0)->ju f m=ju f n
 |0,h,_=>by rw[Nat.le_zero.1 h]
 |m+1,h,a=>by
  by_cases e:n=m+1
  .rw[e]
  .rw[ju,a m AX AX,Y6 AX λp b c=>a p b AX];rfl
def vf(s:Jd)(b:ck)(aB:List At):Prop:=
 match s with
 | .spawn _ _ | .pX=>b.et=false/\b.gF=0/\dc gG aB=0/\dc gT aB=0
 | .sZ=>(b.et=true/\b.gF=0/\dc gT aB=0/\((0<b.aW/\dc gG aB=0)\/(b.aW=0/\dc gG aB=1)))\/(b.et=false/\b.aW=0/\dc gG aB=0/\b.gF+dc gT aB=1)
 | .over=>b.et=false/\b.aW=0/\b.gF=0/\dc gG aB=0/\dc gT aB=0
def R8(m:Nat)(aB:List At):Prop:=∀k q,aB[0]?=some (.main (.spawn k q))->aB.length=m+k
def Y7:At->Bool
 | .work _ _ | .gone _=>true
 | _=>false
def eu(m:Nat)(aB:List At):Prop:=∀s,aB[0]?=some (.main s)->(∃q,s=.spawn 0 q)\/∃a,aB[m]?=some a/\Y7 a=true
def Low(N:Nat)(b3:ube)(L:ubf)(put:uas):Prop:=(∀q,L=some q->b3 q=true/\q<N)/\∀p,b3 p=true->0<put p->∃q,L=some q/\q<=p
def oG(N:Nat)(b:ck):Prop:=N<=b.taken\/300<b.came
def r4{N:Nat}{b b':ck}(h:oG N b)(a:b.taken<=b'.taken/\b.came<=b'.came):oG N b':=h.imp (λx=>vad x a.1) λx=>vap x a.2
structure cT(N:Nat)(rows:uas)(b3:ube)(b:ck)(aB:List At):Prop where
 oH:R8 (rows N) aB
 s2:eu (rows N) aB
 main:∃s,aB[0]?=some (.main s)/\vf s b aB
 only:∀(j:Nat) s,aB[j]?=some (.main s)->j=0
 aW:b.aW=dc gA aB
 aU:b.taken<=N
 len:b.done.length=N/\∀p,b.taken<=p->p<N->b.done[p]?=some (.N)
 own:∀p,dc (dB p) aB=if p<b.taken then 1 else 0
 val:∀(j:Nat) a,aB[j]?=some a->∀pv∈laid a,b3 pv.1=false->b.done[pv.1]?=some pv.2
 came:b.came=ju (λp=>dc (dC p) aB*rows p) N/\Low N b3 b.least λp=>dc (dC p) aB
 dN:(∃(j:Nat)(a:At),aB[j]?=some a/\yj a=true)->oG N b
variable{v:Value}
section
variable{N:Nat}{rows:uas}{b3:ube}{b:ck}{aB:List At}{i:Nat}
def wP{m:Nat}{x y:At}(h:R8 m aB)(hi:aB[i]?=some x)(c:∀k q,y=.main (.spawn k q)->∃a,x=.main (.spawn k a)):R8 m (aB.set i y):=by
 intro k q hk;rw[vek];have b:i<aB.length:=(vab.1 hi).1;by_cases e:i=0
 .subst e;rw[vch b]at hk;obtain⟨a,rfl⟩:=c k q AF;exact h k a hi
 .rw[vba e]at hk;exact h k q hk
def yk{m:Nat}{x y:At}(h:eu m aB)(hi:aB[i]?=some x)(h0:i≠0)(b:Y7 y=true):eu m (aB.set i y):=by intro s hs;rw[vba h0]at hs;refine(h s hs).imp id λ⟨a,d,c⟩=>?_;grind
def amy{m:Nat}{s c:Jd}(h:eu m aB)(hi:aB[0]?=some (.main s))(hs:∀q,s=.spawn 0 q->∃g,c=.spawn 0 g):eu m (aB.set 0 (.main c)):=by
 intro kt f;have b:0<aB.length:=(vab.1 hi).1;rw[vch b]at f;cases f;refine(h s hi).imp AF λ⟨a,e,d⟩=>⟨a,?_,d⟩;have:0≠m:=by rintro rfl;rw[hi]at e;cases e;cases d
 grind
def R9(p:Nat)(a:At):dC p a<=dB p a:=Nat.le_add_left _ _
theorem MQ{f g:At->Nat}(h:∀a,f a<=g a):∀(aB:List At),dc f aB<=dc g aB
 | []=>by simp[dc]
 |a::aB=>by have:=MQ h aB;grind[dc]
def cT.amz(h:cT N rows b3 b aB):b.came<=ju rows N:=by rw[h.came.1];refine R7 λp _=>?_;have c:=MQ (R9 p) aB;have a:=h.own p;grind[Nat.le_one_iff_eq_zero_or_eq_one]
def yl{x:At}(h:cT N rows b3 b aB)(hi:aB[i]?=some x)(a:∀s,x≠ .main s):i≠0:=by rintro rfl;obtain⟨s,hs,_⟩:=h.main;grind
theorem Y8(f:At->Nat):∀(aB:List At)(i j:Nat)(x y:At),aB[i]?=some x->aB[j]?=some y->i≠j->f x+f y<=dc f aB
 | [],i,j,x,y,h,_,_=>AF
 |a::aB,0,0,x,y,_,_,h=>absurd U h
 |a::aB,0,j+1,x,y,c,b,_=>by simp at c b;subst c;have:=nY f aB j y b;grind[dc]
 |a::aB,i+1,0,x,y,c,b,_=>by simp at c b;subst b;have:=nY f aB i x c;grind[dc]
 |a::aB,i+1,j+1,x,y,c,b,h=>by have:=Y8 f aB i j x y Fz (by simpa using b) AX;simp[dc]at this⊢;omega
def amA{a:At}{p:Nat}(h:(p,v)∈laid a):1<=dB p a:=by
 unfold dB;cases a with
 |main s=>simp[laid]at h
 |old=>simp[laid]at h
 |gone l=>have:p∈l.map (·.1):=vbl.2 ⟨_,h,U⟩;grind[nX]
 |work s l=>
  have key:∀{l:uac},(p,v)∈l->1<=(l.map (·.1)).count p:=λh=>vep.2 AF;cases s with
  |half q u=>
   simp[laid]at h;rcases h with⟨rfl,rfl⟩|h
   .simp[hand]
   grind[nX]
  | _=>have:=key (show(p,v)∈l from h);grind[nX]
theorem Jf{s:Jd}{b b1:ck}{aB a:List At}(f:b1.aW=b.aW)(e:b1.et=b.et)(d:b1.gF=b.gF)(c:dc gG a=dc gG aB)(g:dc gT a=dc gT aB)(h:vf s b aB):vf s b1 a:=by simp_all[vf]
def je{aB:List At}{i j:Nat}{x y a:At}(hi:aB[i]?=some x)(h:(aB.set i y)[j]?=some a):(j=i/\a=y)\/(j≠i/\aB[j]?=some a):=by grind
def cT.take(h:cT N rows b3 b aB){l:uac}(a4:b.taken<N)(hi:aB[i]?=some (.work .free l)):cT N rows b3 {b with taken:=b.taken+1} (aB.set i (.work (.has b.taken) l)):=by
 have h0:i≠0:=yl h hi Ab;have c:=λf=>tY f aB i (.work .free l) (.work (.has b.taken) l) hi;have c1:=c gA;have bG:=c gG;have dH:=c gT;simp only[gA,gG,gT]at c1 bG dH;have w:=h.aW;obtain⟨s,hs,v⟩:=h.main;refine⟨wP h.oH hi AF,yk h.s2 hi h0 U,⟨s,AF,?_⟩,λj s' g=>?_,AF,AF,⟨h.len.1,λp r q=>h.len.2 p (Nat.le_of_succ_le r) q⟩,λd=>?_,λj a g pv k m=>?_,?_,λ⟨j,a,g,o⟩=>?_⟩
 .grind[Jf]
 .rcases je hi g with⟨_,e⟩|⟨_,e⟩
  .cases e
  .exact h.only j s' e
 .have:=c (dB d);have e:=h.own d;simp only[dB,hand,nX,List.count_nil,List.count_singleton]at this;simp only;by_cases u:d=b.taken
  .grind
  grind
 .rcases je hi g with⟨rfl,rfl⟩|⟨n,e⟩
  .exact h.val j _ hi pv k m
  .exact h.val j a e pv k m
 .have e:∀d,dc (dC d) (aB.set i (.work (.has b.taken) l))=dc (dC d) aB:=λd=>by have:=c (dC d);have t:dC d (.work (.has b.taken) l)=dC d (.work .free l):=rfl;grind
  simp only[e];exact h.came
 .rcases je hi g with⟨rfl,rfl⟩|⟨_,e⟩
  .simp[yj]at o
  .exact(h.dN AF).imp (λx=>Nat.le_succ_of_le x) id
def cT.lay(h:cT N rows b3 b aB){p:Nat}{l:uac}(hi:aB[i]?=some (.work (.has p) l)):cT N rows b3 {b with done:=b.done.set p v} (aB.set i (.work (.half p v) l)):=by
 have h0:i≠0:=yl h hi Ab;have c:=λf=>tY f aB i (.work (.has p) l) (.work (.half p v) l) hi;have c1:=c gA;have bG:=c gG;have dH:=c gT;simp only[gA,gG,gT]at c1 bG dH;have z:=h.aW;obtain⟨s,hs,y⟩:=h.main;refine⟨wP h.oH hi AF,yk h.s2 hi h0 U,⟨s,AF,?_⟩,λj s' k=>?_,AF,h.aU,⟨by simp;exact h.len.1,λq n w=>?_⟩,λg=>?_,λj a k pv m o=>?_,?_,λ⟨j,a,k,u⟩=>?_⟩
 .grind[Jf]
 .rcases je hi k with⟨_,e⟩|⟨_,e⟩
  .cases e
  .exact h.only j s' e
 .have e:=h.own p;have:=nY (dB p) aB i _ hi;have r:1<=dB p (.work (.has p) l):=Hj;have d:p≠q:=by rintro rfl;rw[vbp (Nat.not_lt.2 n)]at e;omega
  simp only;rw[vba d];exact h.len.2 q n w
 .have:=c (dB g);have e:=h.own g;have t:dB g (.work (.half p v) l)=dB g (.work (.has p) l):=rfl;grind
 .rcases je hi k with⟨rfl,rfl⟩|⟨d,e⟩
  .have B:p<b.done.length:=by have e:=h.own p;have:=nY (dB p) aB j _ hi;have r:1<=dB p (.work (.has p) l):=Hj;rw[h.len.1];have:=h.aU;grind
   simp[laid]at m;rcases m with rfl|m
   .grind
   .have d:pv.1≠p:=λe=>by have n:1<=(l.map (·.1)).count p:=vep.2 AF;have x:=h.own p;grind[nY,dB,hand,nX]
    simp only;rw[vba (Ne.symm d)];exact h.val j _ hi pv m o
  .have d:pv.1≠p:=λA=>by have n:1<=dB p a:=amA (v:=pv.2) AF;have:=Y8 (dB p) aB i j _ _ hi e (Ne.symm d);have r:1<=dB p (.work (.has p) l):=Hj;have x:=h.own p;grind
   simp only;rw[vba (Ne.symm d)];exact h.val j a e pv m o
 .have e:∀g,dc (dC g) (aB.set i (.work (.half p v) l))=dc (dC g) aB:=λg=>by have:=c (dC g);have t:dC g (.work (.half p v) l)=dC g (.work (.has p) l):=rfl;grind
  simp only[e];exact h.came
 .rcases je hi k with⟨rfl,rfl⟩|⟨_,e⟩
  .simp[yj]at u
  .exact h.dN AF
def cT.count(h:cT N rows b3 b aB){p:Nat}{l:uac}(u:b3 p=false)(hi:aB[i]?=some (.work (.half p v) l)):cT N rows b3 {b with came:=b.came+rows p} (aB.set i (.work .free ((p,v)::l))):=by
 have h0:i≠0:=yl h hi Ab;have c:=λf=>tY f aB i (.work (.half p v) l) (.work .free ((p,v)::l)) hi;have c1:=c gA;have bG:=c gG;have dH:=c gT;simp only[gA,gG,gT]at c1 bG dH;have t:=h.aW;obtain⟨s,hs,r⟩:=h.main;refine⟨wP h.oH hi AF,yk h.s2 hi h0 U,⟨s,AF,?_⟩,λj s' g=>?_,AF,h.aU,h.len,λd=>?_,λj a g pv k m=>?_,?_,λ⟨j,a,g,q⟩=>?_⟩
 .grind[Jf]
 .rcases je hi g with⟨_,e⟩|⟨_,e⟩
  .cases e
  .exact h.only j s' e
 .have:=c (dB d);have e:=h.own d;grind[dB,hand,nX]
 .rcases je hi g with⟨rfl,rfl⟩|⟨o,e⟩
  .exact h.val j _ hi pv k m
  .exact h.val j a e pv k m
 .have y:p<N:=by have e:=h.own p;have:=nY (dB p) aB i _ hi;have w:1<=dB p (.work (.half p v) l):=Hj;have:=h.aU;grind
  simp only;refine⟨?_,h.came.2.1,λd n h0=>h.came.2.2 d n ?_⟩
  .rw[h.came.1];grind[Y5,dC,nX]
  .have:=c (dC d);grind[dC,nX]
 .rcases je hi g with⟨rfl,rfl⟩|⟨_,e⟩
  .simp[yj]at q
  .exact(h.dN AF).imp id λx=>vap x (vdc _ _)
def cT.low(h:cT N rows b3 b aB){p:Nat}{l:uac}(j:b3 p=true)(hq:∀q,b.least=some q->p<=q)(hi:aB[i]?=some (.work (.has p) l)):cT N rows b3 {b with least:=some p} (aB.set i (.work (.has p) l)):=by
 have e:aB.set i (.work (.has p) l)=aB:=by obtain⟨c,a⟩:=vab.1 hi;rw[<-a];exact List.set_getElem_self c
 rw[e];have g:p<N:=by have e:=h.own p;have:=nY (dB p) aB i _ hi;have k:1<=dB p (.work (.has p) l):=Hj;have:=h.aU;grind
 exact⟨h.oH,h.s2,h.main,h.only,h.aW,h.aU,h.len,h.own,h.val,⟨h.came.1,AF,λf d h0=>by obtain⟨q,c,a⟩:=h.came.2.2 f d h0;exact⟨p,U,vad (hq q c) a⟩⟩,h.dN⟩
def cT.fail(h:cT N rows b3 b aB){p:Nat}{l:uac}(x:b3 p=true)(t:rows p=0)(hq:∃q,b.least=some q/\q<=p)(hi:aB[i]?=some (.work (.has p) l)):cT N rows b3 b (aB.set i (.work .free ((p,v)::l))):=by
 have h0:i≠0:=yl h hi Ab;have c:=λf=>tY f aB i (.work (.has p) l) (.work .free ((p,v)::l)) hi;have c1:=c gA;have bG:=c gG;have dH:=c gT;simp only[gA,gG,gT]at c1 bG dH;have w:=h.aW;obtain⟨s,hs,u⟩:=h.main;refine⟨wP h.oH hi AF,yk h.s2 hi h0 U,⟨s,AF,?_⟩,λj s' g=>?_,AF,h.aU,h.len,λd=>?_,λj a g pv k m=>?_,?_,λ⟨j,a,g,r⟩=>?_⟩
 .grind[Jf]
 .rcases je hi g with⟨_,e⟩|⟨_,e⟩
  .cases e
  .exact h.only j s' e
 .have:=c (dB d);have e:=h.own d;grind[dB,hand,nX]
 .rcases je hi g with⟨rfl,rfl⟩|⟨o,e⟩
  .simp only[laid,vbo]at k;rcases k with rfl|k
   .grind
   .exact h.val j _ hi pv k m
  .exact h.val j a e pv k m
 .refine⟨?_,h.came.2.1,λd n y=>?_⟩
  .rw[h.came.1];refine Je λd _=>?_;have:=c (dC d);by_cases e:d=p
   .grind
   .grind[dC,nX]
  .by_cases e:d=p
   .grind
   .have:=c (dC d);exact h.came.2.2 d n (by grind[dC,nX])
 .rcases je hi g with⟨rfl,rfl⟩|⟨_,e⟩
  .simp[yj]at r
  .exact h.dN AF
def cT.release(h:cT N rows b3 b aB){l:uac}(a4:oG N b)(hi:aB[i]?=some (.work .free l)):cT N rows b3 b (aB.set i (.work .rel l)):=by
 have h0:i≠0:=yl h hi Ab;have c:=λf=>tY f aB i (.work .free l) (.work .rel l) hi;have c1:=c gA;have bG:=c gG;have dH:=c gT;simp only[gA,gG,gT]at c1 bG dH;have r:=h.aW;obtain⟨s,hs,p⟩:=h.main;refine⟨wP h.oH hi AF,yk h.s2 hi h0 U,⟨s,AF,?_⟩,λj s' g=>?_,AX,h.aU,h.len,λd=>?_,λj a g pv k m=>?_,?_,λ⟨j,a,g,q⟩=>?_⟩
 .grind[Jf]
 .rcases je hi g with⟨_,e⟩|⟨_,e⟩
  .cases e
  .exact h.only j s' e
 .have:=c (dB d);have e:=h.own d;have n:dB d (.work .rel l)=dB d (.work .free l):=rfl;grind
 .rcases je hi g with⟨rfl,rfl⟩|⟨o,e⟩
  .exact h.val j _ hi pv k m
  .exact h.val j a e pv k m
 .have e:∀d,dc (dC d) (aB.set i (.work .rel l))=dc (dC d) aB:=λd=>by have:=c (dC d);have n:dC d (.work .rel l)=dC d (.work .free l):=rfl;grind
  simp only[e];exact h.came
 grind
theorem cT.out(h:cT N rows b3 b aB){l:uac}(t:b.et=false\/2<=b.aW)(hi:aB[i]?=some (.work .rel l)):cT N rows b3 {b with aW:=b.aW-1} (aB.set i (.gone l)):=by
 have h0:i≠0:=yl h hi Ab;have c:=λf=>tY f aB i (.work .rel l) (.gone l) hi;have c1:=c gA;have bG:=c gG;have dH:=c gT;simp only[gA,gG,gT]at c1 bG dH;have v:=h.aW;obtain⟨s,hs,g⟩:=h.main;refine⟨wP h.oH hi AF,yk h.s2 hi h0 U,⟨s,AF,?_⟩,λj s' m=>?_,AF,h.aU,h.len,λd=>?_,λj a m pv n o=>?_,?_,λ⟨j,a,m,u⟩=>?_⟩
 .cases s with|sZ=>grind[vf]|over=>grind[vf]|spawn k q=>exact⟨g.1,g.2.1,by have:=g.2.2.1;omega,by have:=g.2.2.2;omega⟩|pX=>exact⟨g.1,g.2.1,by have:=g.2.2.1;omega,by have:=g.2.2.2;omega⟩
 .rcases je hi m with⟨_,e⟩|⟨_,e⟩
  .cases e
  .exact h.only j s' e
 .have:=c (dB d);have e:=h.own d;have p:dB d (.gone l)=dB d (.work .rel l):=rfl;grind
 .rcases je hi m with⟨rfl,rfl⟩|⟨r,e⟩
  .exact h.val j _ hi pv n o
  .exact h.val j a e pv n o
 .have e:∀d,dc (dC d) (aB.set i (.gone l))=dc (dC d) aB:=λd=>by have:=c (dC d);have p:dC d (.gone l)=dC d (.work .rel l):=rfl;grind
  simp only[e];exact h.came
 .rcases je hi m with⟨rfl,rfl⟩|⟨_,e⟩
  .exact h.dN ⟨_,_,hi,U⟩
  .exact h.dN AF
def cT.amB(h:cT N rows b3 b aB){l:uac}(q:b.et=true)(p:b.aW=1)(hi:aB[i]?=some (.work .rel l)):cT N rows b3 {b with aW:=b.aW-1} (aB.set i (.work .nW l)):=by
 have h0:i≠0:=yl h hi Ab;have c:=λf=>tY f aB i (.work .rel l) (.work .nW l) hi;have c1:=c gA;have bG:=c gG;have dH:=c gT;simp only[gA,gG,gT]at c1 bG dH;have u:=h.aW;obtain⟨s,hs,r⟩:=h.main;refine⟨wP h.oH hi AF,yk h.s2 hi h0 U,⟨s,AF,?_⟩,λj s' g=>?_,AF,h.aU,h.len,λd=>?_,λj a g pv k m=>?_,?_,λ⟨j,a,g,t⟩=>?_⟩
 .simp_all[vf]
 .rcases je hi g with⟨_,e⟩|⟨_,e⟩
  .cases e
  .exact h.only j s' e
 .have:=c (dB d);have e:=h.own d;have n:dB d (.work .nW l)=dB d (.work .rel l):=rfl;grind
 .rcases je hi g with⟨rfl,rfl⟩|⟨o,e⟩
  .exact h.val j _ hi pv k m
  .exact h.val j a e pv k m
 .have e:∀d,dc (dC d) (aB.set i (.work .nW l))=dc (dC d) aB:=λd=>by have:=c (dC d);have n:dC d (.work .nW l)=dC d (.work .rel l):=rfl;grind
  simp only[e];exact h.came
 .rcases je hi g with⟨rfl,rfl⟩|⟨_,e⟩
  .exact h.dN ⟨_,_,hi,U⟩
  .exact h.dN AF
def cT.amC(h:cT N rows b3 b aB){l:uac}(hi:aB[i]?=some (.work .nW l)):cT N rows b3 {b with et:=false} (aB.set i (.work .lb l)):=by
 have h0:i≠0:=yl h hi Ab;have c:=λf=>tY f aB i (.work .nW l) (.work .lb l) hi;have c1:=c gA;have bG:=c gG;have dH:=c gT;simp only[gA,gG,gT]at c1 bG dH;have v:=h.aW;obtain⟨s,hs,m⟩:=h.main;refine⟨wP h.oH hi AF,yk h.s2 hi h0 U,⟨s,AF,?_⟩,λj s' g=>?_,AF,h.aU,h.len,λd=>?_,λj a g pv n o=>?_,?_,λ⟨j,a,g,u⟩=>?_⟩
 .have r:=nY gG aB i _ hi;simp[gG]at r;cases s with|sZ=>simp only[vf]at m⊢;grind|over=>have:=m.2.2.2;omega|spawn k q=>have:=m.2.2;omega|pX=>have:=m.2.2;omega
 .rcases je hi g with⟨_,e⟩|⟨_,e⟩
  .cases e
  .exact h.only j s' e
 .have:=c (dB d);have e:=h.own d;have p:dB d (.work .lb l)=dB d (.work .nW l):=rfl;grind
 .rcases je hi g with⟨rfl,rfl⟩|⟨t,e⟩
  .exact h.val j _ hi pv n o
  .exact h.val j a e pv n o
 .have e:∀d,dc (dC d) (aB.set i (.work .lb l))=dc (dC d) aB:=λd=>by have:=c (dC d);have p:dC d (.work .lb l)=dC d (.work .nW l):=rfl;grind
  simp only[e];exact h.came
 .rcases je hi g with⟨rfl,rfl⟩|⟨_,e⟩
  .exact h.dN ⟨_,_,hi,U⟩
  .exact h.dN AF
def cT.raise(h:cT N rows b3 b aB){l:uac}(hi:aB[i]?=some (.work .lb l)):cT N rows b3 {b with gF:=b.gF+1} (aB.set i (.gone l)):=by
 have h0:i≠0:=yl h hi Ab;have c:=λf=>tY f aB i (.work .lb l) (.gone l) hi;have c1:=c gA;have bG:=c gG;have dH:=c gT;simp only[gA,gG,gT]at c1 bG dH;have v:=h.aW;obtain⟨s,hs,m⟩:=h.main;refine⟨wP h.oH hi AF,yk h.s2 hi h0 U,⟨s,AF,?_⟩,λj s' g=>?_,AF,h.aU,h.len,λd=>?_,λj a g pv n o=>?_,?_,λ⟨j,a,g,u⟩=>?_⟩
 .have r:=nY gT aB i _ hi;simp[gT]at r;cases s with|sZ=>grind[vf]|over=>have:=m.2.2.2;omega|spawn k q=>have:=m.2.2;omega|pX=>have:=m.2.2;omega
 .rcases je hi g with⟨_,e⟩|⟨_,e⟩
  .cases e
  .exact h.only j s' e
 .have:=c (dB d);have e:=h.own d;have p:dB d (.gone l)=dB d (.work .lb l):=rfl;grind
 .rcases je hi g with⟨rfl,rfl⟩|⟨t,e⟩
  .exact h.val j _ hi pv n o
  .exact h.val j a e pv n o
 .have e:∀d,dc (dC d) (aB.set i (.gone l))=dc (dC d) aB:=λd=>by have:=c (dC d);have p:dC d (.gone l)=dC d (.work .lb l):=rfl;grind
  simp only[e];exact h.came
 .rcases je hi g with⟨rfl,rfl⟩|⟨_,e⟩
  .exact h.dN ⟨_,_,hi,U⟩
  .exact h.dN AF
def cT.Jg(h:cT N rows b3 b aB){s d:Jd}(hi:aB[0]?=some (.main s)){b1:ck}(A:b1.aW+gA (.main s)=b.aW+gA (.main d))(ht:b1.taken=b.taken)(hd:b1.done=b.done)(n:b1.came=b.came)(p:b1.least=b.least)(u:∀k q,d=.spawn k q->∃m,s=.spawn k m)(r:∀q,s=.spawn 0 q->∃m,d=.spawn 0 m)(hok:∀l,dc gG l=dc gG aB->dc gT l=dc gT aB->vf s b aB->vf d b1 l):cT N rows b3 b1 (aB.set 0 (.main d)):=by
 have c:=λf=>tY f aB 0 (.main s) (.main d) hi;have c1:=c gA;have bG:=c gG;have dH:=c gT;have C:gG (.main s)=0/\gG (.main d)=0:=⟨U,U⟩;have B:gT (.main s)=0/\gT (.main d)=0:=⟨U,U⟩;have v:0<aB.length:=(vab.1 hi).1;obtain⟨s',hs,z⟩:=h.main;rw[hi]at hs;cases hs;have y:=h.aW;refine⟨wP h.oH hi AF,amy h.s2 hi r,AF,λj s' i=>?_,AX,by rw[ht];exact h.aU,by rw[hd,ht];exact h.len,λg=>?_,λj a i pv o x=>?_,?_,λ⟨j,a,i,w⟩=>?_⟩
 .rcases je hi i with⟨e,_⟩|⟨_,e⟩
  .exact e
  .exact h.only j s' e
 .have:=c (dB g);have e:=h.own g;have t:dB g (.main s)=0/\dB g (.main d)=0:=⟨U,U⟩;grind
 .rw[hd];rcases je hi i with⟨_,rfl⟩|⟨_,e⟩
  .simp[laid]at o
  .exact h.val j a e pv o x
 .have e:∀g,dc (dC g) (aB.set 0 (.main d))=dc (dC g) aB:=λg=>by have:=c (dC g);have t:dC g (.main s)=0/\dC g (.main d)=0:=⟨U,U⟩;omega
  simp only[e];rw[n,p];exact h.came
 .show N<=b1.taken\/300<b1.came;rw[ht,n];rcases je hi i with⟨_,rfl⟩|⟨_,e⟩
  .simp[yj]at w
  .exact h.dN AF
theorem cT.add(h:cT N rows b3 b aB){k:Nat}(hi:aB[0]?=some (.main (.spawn k false))):cT N rows b3 {b with aW:=b.aW+1} (aB.set 0 (.main (.spawn k true))):=
 h.Jg hi JU U U U U AF AF λe d c a=>⟨a.1,a.2.1,d.trans a.2.2.1,c.trans a.2.2.2⟩
def cT.waits(h:cT N rows b3 b aB){k:Nat}(hk:0<k)(hi:aB[0]?=some (.main (.spawn k false))):cT N rows b3 b (aB.set 0 (.main .pX)):=
 h.Jg hi JU U U U U AF AF λe d c a=>⟨a.1,a.2.1,d.trans a.2.2.1,c.trans a.2.2.2⟩
def cT.amD(h:cT N rows b3 b aB)(hi:aB[0]?=some (.main .pX))(c:0<b.aW):cT N rows b3 {b with et:=true} (aB.set 0 (.main .sZ)):=
 h.Jg hi JU U U U U AF AF λf e d a=>.inl ⟨U,a.2.1,d.trans a.2.2.2,.inl ⟨c,e.trans a.2.2.1⟩⟩
def cT.zero(h:cT N rows b3 b aB)(hi:aB[0]?=some (.main .pX))(c:b.aW=0):cT N rows b3 b (aB.set 0 (.main .over)):=
 h.Jg hi JU U U U U AF AF λf e d a=>⟨a.1,c,a.2.1,e.trans a.2.2.1,d.trans a.2.2.2⟩
def cT.RI(h:cT N rows b3 b aB)(hi:aB[0]?=some (.main .sZ))(hs:b.gF≠0):cT N rows b3 {b with gF:=b.gF-1} (aB.set 0 (.main .over)):=
 h.Jg hi JU U U U U AF AF λf d g c=>by
  rcases c with⟨_,a,_⟩|⟨m1,a,e,i⟩
  .grind
  .exact⟨m1,a,AF,d.trans e,AX⟩
def cT.born(h:cT N rows b3 b aB){k:Nat}(hi:aB[0]?=some (.main (.spawn k true))):cT N rows b3 b (aB.set 0 (.main (.spawn (k+1) false))++[.work .free []]):=by
 have c:=λf=>tY f aB 0 (.main (.spawn k true)) (.main (.spawn (k+1) false)) hi;have d:=λf=>amx f (aB.set 0 (.main (.spawn (k+1) false))) (.work .free []);have c1:=c gA;have bG:=c gG;have dH:=c gT;have d1:=d gA;have y:=d gG;have x:=d gT;simp only[gA,gG,gT]at c1 bG dH d1 y x;have s:0<aB.length:=(vab.1 hi).1;obtain⟨s',hs,l⟩:=h.main;rw[hi]at hs;cases hs;have z:=h.aW;have get:∀{j:Nat}{a:At},(aB.set 0 (.main (.spawn (k+1) false))++[.work .free []])[j]?=some a->(j=0/\a=.main (.spawn (k+1) false))\/(j≠0/\aB[j]?=some a)\/(j=aB.length/\a=.work .free []):=by grind
 refine⟨λk' A C=>?_,λkt t=>.inr ?_,⟨.spawn (k+1) false,AF,l.1,l.2.1,by have:=l.2.2.1;omega,by have:=l.2.2.2;omega⟩,λj s' i=>?_,AX,h.aU,h.len,λg=>?_,λj a i pv o u=>?_,?_,λ⟨j,a,i,m⟩=>?_⟩
 .have m:=h.oH k true hi;grind
 .have m:=h.oH k true hi;rcases h.s2 _ hi with⟨q,e⟩|⟨a,n,r⟩
  .cases e;refine⟨.work .free [],?_,U⟩;grind
  .have B:rows N<aB.length:=(vab.1 n).1;have t:0≠rows N:=by intro e;rw[<-e,hi]at n;cases n;cases r
   grind
 .rcases get i with⟨e,_⟩|⟨_,e⟩|⟨_,e⟩
  .exact e
  .exact h.only j s' e
  grind
 .have w:=c (dB g);have v:=d (dB g);have e:=h.own g;have p:dB g (.main (.spawn k true))=0/\dB g (.main (.spawn (k+1) false))=0/\dB g (.work .free [])=0:=⟨U,U,U⟩;omega
 .rcases get i with⟨_,rfl⟩|⟨_,e⟩|⟨_,rfl⟩
  .simp[laid]at o
  .exact h.val j a e pv o u
  grind[laid]
 .have e:∀g,dc (dC g) (aB.set 0 (.main (.spawn (k+1) false))++[.work .free []])=dc (dC g) aB:=λg=>by have w:=c (dC g);have v:=d (dC g);have p:dC g (.main (.spawn k true))=0/\dC g (.main (.spawn (k+1) false))=0/\dC g (.work .free [])=0:=⟨U,U,U⟩;omega
  simp only[e];exact h.came
 .rcases get i with⟨_,rfl⟩|⟨_,e⟩|⟨_,rfl⟩
  .simp[yj]at m
  .exact h.dN AF
  grind[yj]
def qR:At->Prop
 | .gone _ | .old=>True
 | _=>False
def MS(a:At)(b:ck):Prop:=a=.main .sZ/\b.gF=0
def cT.alive(h:cT N rows b3 b aB):∃(j:Nat)(a:At),aB[j]?=some a/\¬qR a/\¬MS a b:=by
 obtain⟨s,hs,i⟩:=h.main;by_cases d:s=.sZ/\b.gF=0
 .obtain⟨rfl,m⟩:=d;apply vaw;intro hn;have all:∀(j:Nat)(a:At),aB[j]?=some a->qR a\/a=.main .sZ:=λj a k=>by apply vaw;intro g;exact hn ⟨j,a,k,AF,λe=>g (.inr e.1)⟩
  have z:∀f:At->Nat,(∀a,qR a->f a=0)->f (.main .sZ)=0->dc f aB=0:=λf p o=>MP f aB AF;have r:=z gA (λa c=>Fv) U;have q:=z gG (λa c=>Fv) U;have n:=z gT (λa c=>Fv) U;have g:=h.aW;rcases i with⟨_,_,_,l⟩|⟨_,_,_,l⟩<;>omega
 .exact⟨0,_,hs,λe=>e,λe=>d ⟨by have:=e.1;grind,e.2⟩⟩
def cT.all(h:cT N rows b3 b aB)(hi:aB[0]?=some (.main .over)):∀(j:Nat)(a:At),aB[j]?=some a->j=0\/qR a:=by intro j a c;obtain⟨s',hs,d⟩:=h.main;rw[hi]at hs;cases hs;have i:=h.aW;have g:=nY gA aB j a c;have f:=nY gG aB j a c;have e:=nY gT aB j a c;have:=d.2.1;have:=d.2.2.2;cases a with|main s=>exact .inl (h.only j s c)|gone l=>exact .inr trivial|old=>exact .inr trivial|work s l=>cases s<;>simp only[gA,gG,gT]at g f e<;>omega
