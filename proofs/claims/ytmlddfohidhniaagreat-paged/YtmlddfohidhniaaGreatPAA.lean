import Derived.Test.YtmlddfohidhniaaGreatP00
import Derived.Conc.CrowdTrace
set_option linter.all false
set_option maxRecDepth 100000
set_option maxHeartbeats 16000000
namespace Go.Proofs.YtmlddfohidhniaaGreat
abbrev aS:=Go.World
abbrev b4:=Go.Program
def vab:=@List.getElem?_eq_some_iff
def vac:=@Nat.le_refl
def vad:=@Nat.le_trans
def vae:=@Option.getD_some
def vaf:=@Bool.and_eq_true
def vag:=@List.getElem?_eq_getElem
def vah:=@Bool.false_eq_true
def vaj:=@Option.map_eq_some_iff
def vak:=@Array.getElem?_setIfInBounds
def vam:=@Array.all_eq_true_iff_forall_mem
def van:=@Option.some.inj
def vao:=@Array.getElem?_eq_getElem
def vap:=@Nat.lt_of_lt_of_le
def vas:=@Array.getElem?_eq_some_iff
def vav:=@Nat.zero_le
def vaw:=@Classical.byContradiction
def vax:=@List.getElem_mem
def vay:=@Bool.toNat_le
def vba:=@List.getElem?_set_ne
def vbb:=@Array.getElem?_modify
def vbd:=@List.getElem?_map
def vbe:=@Option.bind_eq_some_iff
def vbf:=@Array.mem_of_getElem?
def vbg:=@List.length_append
def vbh:=@List.mem_map
def vbi:=@Option.some.injEq
def vbj:=@List.all_cons
def vbl:=@Nat.eq_zero_or_pos
def vbm:=@Nat.zero_add
def vbn:=@List.mem_cons
def vbo:=@List.eq_nil_of_length_eq_zero
def vbq:=@if_neg
def vbr:=@Nat.le_of_eq
def vbv:=@List.take_of_length_le
def vbw:=@Nat.mod_eq_of_lt
def vby:=@if_pos
def vbz:=@Nat.add_zero
def vca:=@List.ext_getElem?
def vcb:=@List.append_nil
def vcc:=@Nat.min_eq_right
def vcd:=@List.mem_of_getElem?
def vce:=@Array.replicate_succ
def vcf:=@List.length_map
def vcg:=@List.getElem?_set_self
def vcj:=@Array.getElem?_map
def vck:=@Array.mapM_eq_mapM_toList
def vcl:=@List.take_succ_eq_append_getElem
def vcm:=@congrArg
def vcn:=@BitVec.ofInt_natCast
def vcp:=@Nat.min_eq_left
def vcq:=@List.range_succ
def vcr:=@List.map_append
def vct:=@Array.size_setIfInBounds
def vcx:=@Nat.le_add_right
def vcy:=@List.not_mem_nil
def vda:=@BitVec.toNat_ofNat
def vdb:=@Array.ext_getElem?
def vdc:=@Array.empty_append
def vdd:=@Nat.lt_or_ge
def vdf:=@Array.getD_eq_getD_getElem?
def vdg:=@List.map_cons
def vdh:=@if_true
def vdk:=@List.pairwise_iff_getElem
def vdm:=@List.length_cons
def vdn:=@Classical.skolem
def vdo:=@List.take_succ_cons
def vdq:=@Nat.le_of_lt
def vdr:=@List.getElem_append_left
def vdt:=@Option.map_some
def vdu:=@Nat.le_succ
def vdv:=@of_decide_eq_true
def vdw:=@Array.getElem?_setIfInBounds_ne
def vdx:=@List.drop_zero
def veb:=@Option.elim_some
def ved:=@Array.mem_append
def vee:=@if_false
def vef:=@Bool.not_true
def vei:=@List.nil_append
def vej:=@List.length_set
def vek:=@Array.toList_modify
def vel:=@List.getD_eq_getElem?_getD
def ven:=@List.count_pos_iff
def veo:=@List.take_zero
def vep:=@List.getElem_append_right
def veq:=@List.size_toArray
abbrev _root_.Go.Value.U:Go.Value:=Go.undef
abbrev _root_.Go.Item.R(o:Array Go.Oper)(l:List Nat):Go.Item:=.inRegion o l
abbrev _root_.Go.Addr.a(b o:Nat):Go.Addr:=⟨b,o,none⟩
abbrev dh:=Nat->Prop
abbrev dp:=Array Value
abbrev eY:=Array Oper
abbrev fV:=List Frame
abbrev g4:=TypeId
abbrev il:=List Item
abbrev uaa:=List Nat
abbrev uab:=Value->aS->Prop
abbrev uac:=List (Int×Int)
abbrev uad:=List Value
abbrev uae:=List (Nat×Value)
abbrev uaf:=Nat->Value->(Nat->Prop)->aS->Prop
abbrev uag:=Act->aS->Prop
abbrev uah:=Goroutine
abbrev uai:=Exit->Act->aS->Prop
abbrev uaj:=FuncId
abbrev uak:=Operand->Value
abbrev ual:=Nat->Option Value
abbrev uam:=Loc->Prop
abbrev uan:=Option Addr
abbrev uao:=Array Event
abbrev uap:=List (Nat×Obj)
abbrev uaq:=Array TypeId
abbrev uar:=Operand
abbrev uas:=Nat->Nat
abbrev uat:=Array Bool
abbrev uau:=Nat->aS->Value->Prop
abbrev uav:=Nat->Goroutine->aS->Prop
abbrev uaw:=Array Operand
abbrev uax:=Array Goroutine
abbrev uay:=List Int
abbrev uaz:=aS->Value->Prop
abbrev uba:=List Oper
abbrev ubb:=Option (Nat×Nat)
abbrev ubc:=List (Nat×List Value)
abbrev ubd:=Nat->Bool
abbrev ube:=Value->(Nat->Prop)->aS->Prop
abbrev ubf:=List (Value×Value)
abbrev ubg:=Option Nat
abbrev ubh:=Nat->Nat->Bool
abbrev ubi:=List Event
abbrev ubj:=Nat->(Nat->Prop)->aS->Prop
abbrev ubk:=Goroutine->Goroutine
abbrev ubl:=Int×Int
abbrev ubm:=TypeId->Prop
abbrev ubn:=aS->Value->aS->Prop
abbrev ubo:=Nat->aS->Prop
abbrev ubp:=Nat×Obj
abbrev ubq:=Nat->List Value
abbrev ubr:=List Bool
abbrev ubs:=Nat×Nat
abbrev ubt:=Value×Nat
abbrev _root_.Go.Value.P(b o:Nat):Go.Value:=.pointer (some (.a b o))
abbrev _root_.Go.Value.S(b o l c:Nat):Go.Value:=.slice (some (.a b o)) l c
abbrev _root_.Go.Value.N:Go.Value:=.slice none 0 0
abbrev _root_.Go.Value.I(n:Int):Go.Value:=.int .i64 n
abbrev _root_.Go.Value.T:Go.Value:=.bool true
abbrev _root_.Go.Value.F:Go.Value:=.bool false
abbrev _root_.Go.Value.E:Go.Value:=.string ⟨#[]⟩
abbrev _root_.Go.World.hs(w:Go.World):Nat:=w.heap.size
namespace ax
structure Ren where
 rel:Nat->Nat->Prop
 mine:Nat->Prop
def dr(ρ:Ren)(a a':Addr):Prop:=ρ.rel a.block a'.block/\a.off=a'.off/\a.spot=a'.spot
inductive s8(ρ:Ren):Fn->Fn->Prop
 |func (f:uaj):s8 ρ (.func f) (.func f)
 |yield {l l':Nat} (h:ρ.rel l l'):s8 ρ (.yield l) (.yield l')
inductive ar(ρ:Ren):Value->Value->Prop
 |bool (b:Bool):ar ρ (.bool b) (.bool b)
 |int (k:IntKind) (n:Int):ar ρ (.int k n) (.int k n)
 |string (s:ByteArray):ar ρ (.string s) (.string s)
 |lu:ar ρ (.pointer none) (.pointer none)
 |ptr {a a':Addr} (h:dr ρ a a'):ar ρ (.pointer (some a)) (.pointer (some a'))
 |jP (l c:Nat):ar ρ (.slice none l c) (.slice none l c)
 |slice {a a':Addr} (l c:Nat) (h:dr ρ a a'):ar ρ (.slice (some a) l c) (.slice (some a') l c)
 |pi:ar ρ (.map none) (.map none)
 |map {r r':Nat} (h:ρ.rel r r'):ar ρ (.map (some r)) (.map (some r'))
 |pj:ar ρ (.chan none) (.chan none)
 |func {fn mi:Fn} {a a' b b':dp} (h:s8 ρ fn mi) (ha:a.size=a'.size) (hb:b.size=b'.size)
  (h1:∀(i:Nat)(v v':Value),a[i]?=some v->a'[i]?=some v'->ar ρ v v') (h2:∀(i:Nat)(v v':Value),b[i]?=some v->b'[i]?=some v'->ar ρ v v'):ar ρ (.func fn a b) (.func mi a' b')
 |nilFunc:ar ρ .nilFunc .nilFunc
 |iface (t:g4) {v v':Value} (h:ar ρ v v'):ar ρ (.iface t v) (.iface t v')
 |nilIface:ar ρ .nilIface .nilIface
 |agg {a a':dp} (hs:a.size=a'.size) (h:∀(i:Nat)(v v':Value),a[i]?=some v->a'[i]?=some v'->ar ρ v v'):ar ρ (.agg a) (.agg a')
 |tuple {a a':dp} (hs:a.size=a'.size) (h:∀(i:Nat)(v v':Value),a[i]?=some v->a'[i]?=some v'->ar ρ v v'):ar ρ (.tuple a) (.tuple a')
structure aJ(ρ:Ren)(a a':dp):Prop where
 size:a.size=a'.size
 get:∀(i:Nat)(v v':Value),a[i]?=some v->a'[i]?=some v'->ar ρ v v'
def Ren.le(ρ σ:Ren):Prop:=(∀b b',ρ.rel b b'->σ.rel b b')/\∀b,ρ.mine b->σ.mine b
def Ren.le_refl(ρ:Ren):Ren.le ρ ρ:=⟨λ_ _ h=>h,λ_ h=>h⟩
variable{ρ σ:Ren}
theorem Ren.le_trans{a:Ren}(h:Ren.le ρ σ)(k:Ren.le σ a):Ren.le ρ a:=⟨λb b' x=>k.1 b b' (h.1 b b' x),λb x=>k.2 b (h.2 b x)⟩
theorem dr.mono(b:Ren.le ρ σ){a a':Addr}(h:dr ρ a a'):dr σ a a':=⟨b.1 _ _ h.1,h.2⟩
theorem s8.mono(b:Ren.le ρ σ){a a':Fn}(h:s8 ρ a a'):s8 σ a a':=by cases h with|yield h=>exact .yield (b.1 _ _ h)|func f=>exact .func f
variable{v v':Value}
theorem ar.mono(d:Ren.le ρ σ)(h:ar ρ v v'):ar σ v v':=by induction h with|bool b=>exact .bool b|int k n=>exact .int k n|string s=>exact .string s|lu=>exact .lu|ptr h=>exact .ptr (h.mono d)|jP l c=>exact .jP l c|slice l c h=>exact .slice l c (h.mono d)|pi=>exact .pi|map h=>exact .map (d.1 _ _ h)|pj=>exact .pj|func h i g _ _ f e=>exact .func (h.mono d) i g f e|nilFunc=>exact .nilFunc|iface t _ a=>exact .iface t a|nilIface=>exact .nilIface|agg hs _ a=>exact .agg hs a|tuple hs _ a=>exact .tuple hs a
variable{a a':dp}
theorem aJ.mono(b:Ren.le ρ σ)(h:aJ ρ a a'):aJ σ a a':=⟨h.size,λi v v' x y=>(h.get i v v' x y).mono b⟩
theorem aJ.nil(ρ:Ren):aJ ρ #[] #[]:=⟨Y,λi v v' h=>AA⟩
theorem aJ.one(h:ar ρ v v'):aJ ρ #[v] #[v']:=⟨Y,λi x c a b=>by
 grind⟩
theorem aJ.some{ρ:Ren}{a a':dp}(h:aJ ρ a a'){i:Nat}{v:Value}(hv:a[i]?=Option.some v):∃v',a'[i]?=Option.some v'/\ar ρ v v':=by
 have hi:i<a.size:=by grind
 have b:i<a'.size:=h.size▸hi;exact⟨a'[i],AA,h.get i v _ hv AA⟩
theorem aJ.none(h:aJ ρ a a'){i:Nat}(hv:a[i]?=Option.none):a'[i]?=Option.none:=by rw[Array.getElem?_eq_none_iff]at hv⊢;rw[<-h.size];exact hv
variable{b b':dp}
theorem aJ.append(h:aJ ρ a a')(k:aJ ρ b b'):aJ ρ (a++b) (a'++b'):=by
 refine⟨by simp[h.size,k.size],λi v v' x y=>?_⟩;rw[Array.getElem?_append]at x y;rw[<-h.size]at y;split at x
 .rename_i hi;rw[vby hi]at y;exact h.get i v v' x y
 .rename_i hi;rw[vbq hi]at y;exact k.get _ v v' x y
theorem aJ.push(h:aJ ρ a a')(k:ar ρ v v'):aJ ρ (a.push v) (a'.push v'):=by have e:∀(x:dp)(y:Value),x.push y=x++#[y]:=λx y=>Ad;rw[e,e];exact h.append (.one k)
def aJ.set(h:aJ ρ a a')(k:ar ρ v v')(i:Nat):aJ ρ (a.setIfInBounds i v) (a'.setIfInBounds i v'):=by
 refine⟨by simp[h.size],λj x d c b=>?_⟩;rw[vak]at c b;rw[<-h.size]at b;by_cases e:i=j
 .grind
 .rw[vbq e]at c b;exact h.get j x d c b
theorem aJ.extract(h:aJ ρ a a')(s e:Nat):aJ ρ (a.extract s e) (a'.extract s e):=by
 refine⟨by simp[h.size],λi v v' x y=>?_⟩;rw[Array.getElem?_extract]at x y;rw[<-h.size]at y;split at x
 .rename_i hi;rw[vby hi]at y;exact h.get _ v v' x y
 grind
theorem aJ.getD(h:aJ ρ a a'){d b:Value}(hd:ar ρ d b)(i:Nat):ar ρ (a.getD i d) (a'.getD i b):=by rw[vdf,vdf];grind[none,some]
theorem ar.undef(ρ:Ren):ar ρ undef undef:=.tuple Y λi v v' h=>by grind
def ar.pk(h:aJ ρ a a'):ar ρ (.agg a) (.agg a'):=.agg h.size h.get
def ar.EA(h:aJ ρ a a'):ar ρ (.tuple a) (.tuple a'):=.tuple h.size h.get
def ar.Hv{fn c:Fn}(d:s8 ρ fn c)(h:aJ ρ a a')(k:aJ ρ b b'):ar ρ (.func fn a b) (.func c a' b'):=.func d h.size k.size h.get k.get
theorem ar.cells{ρ:Ren}{v v':Value}(h:ar ρ v v'):aJ ρ v.cells v'.cells:=by cases h with|agg hs h=>exact⟨hs,h⟩|bool b=>exact .one (.bool b)|int k n=>exact .one (.int k n)|string s=>exact .one (.string s)|lu=>exact .one .lu|ptr h=>exact .one (.ptr h)|jP l c=>exact .one (.jP l c)|slice l c h=>exact .one (.slice l c h)|pi=>exact .one .pi|map h=>exact .one (.map h)|pj=>exact .one .pj|func h d a f e=>exact .one (.func h d a f e)|nilFunc=>exact .one .nilFunc|iface t h=>exact .one (.iface t h)|nilIface=>exact .one .nilIface|tuple hs h=>exact .one (.tuple hs h)
inductive iW:Value->Prop
 |bool (b:Bool):iW (.bool b)
 |int (k:IntKind) (n:Int):iW (.int k n)
 |string (s:ByteArray):iW (.string s)
 |lu:iW (.pointer none)
 |jP (l c:Nat):iW (.slice none l c)
 |pi:iW (.map none)
 |pj:iW (.chan none)
 |nilFunc:iW .nilFunc
 |func (f:uaj):iW (.func (.func f) #[] #[])
 |nilIface:iW .nilIface
 |iface (t:g4) {v:Value} (h:iW v):iW (.iface t v)
 |agg {a:dp} (h:∀(i:Nat)(v:Value),a[i]?=some v->iW v):iW (.agg a)
 |tuple {a:dp} (h:∀(i:Nat)(v:Value),a[i]?=some v->iW v):iW (.tuple a)
def iW.rel(h:iW v)(ρ:Ren):ar ρ v v:=by induction h with|bool b=>exact .bool b|int k n=>exact .int k n|string s=>exact .string s|lu=>exact .lu|jP l c=>exact .jP l c|pi=>exact .pi|pj=>exact .pj|nilFunc=>exact .nilFunc|func f=>exact .Hv (.func f) (.nil ρ) (.nil ρ)|nilIface=>exact .nilIface|iface t _ a=>exact .iface t a|agg _ a=>exact .agg Y λi v v' x y=>AA|tuple _ a=>exact .tuple Y λi v v' x y=>AA
def kj(a:dp):Prop:=∀(i:Nat)(v:Value),a[i]?=some v->iW v
theorem kj.rel(h:kj a)(ρ:Ren):aJ ρ a a:=⟨Y,λi v v' x y=>by rw[x]at y;cases y;exact(h i v x).rel ρ⟩
theorem iW.cells{v:Value}(h:iW v):kj v.cells:=by
 have one:∀{v:Value},iW v->v.cells=#[v]->kj v.cells:=λ{v} hv e i x a=>by grind
 cases h with|agg h=>exact h|bool b=>exact one (.bool b) Y|int k n=>exact one (.int k n) Y|string s=>exact one (.string s) Y|lu=>exact one .lu Y|jP l c=>exact one (.jP l c) Y|pi=>exact one .pi Y|pj=>exact one .pj Y|nilFunc=>exact one .nilFunc Y|func f=>exact one (.func f) Y|nilIface=>exact one .nilIface Y|iface t h=>exact one (.iface t h) Y|tuple h=>exact one (.tuple h) Y
def k9{ao:Type}:Result ao->aS
 | .ok _ w=>w
 | .halt _ w=>w
section
variable{ao:Type}
def agl:∀(k:Ask ao)(w:aS),w.drawn<=(w.ask k).2.drawn/\(w.ask k).2.heap=w.heap/\(w.ask k).2.tape=w.tape:=by intro k;induction k with|done a=>intro w;exact⟨vac _,Y,Y⟩|ask what range k b=>intro w;simp only[World.ask];grind
theorem agm(w:aS)(c:Sys):w.drawn<=(w.sys c).2.drawn/\(w.sys c).2.tape=w.tape:=by unfold World.sys;have:=agl (Kernel.perform c w.os) w;grind
theorem agn{P:b4}{w d:aS}{a:Addr}{b:Bool}{l:List Addr}(h:w.farStore P a v b=.ok (d,l)):d.drawn=w.drawn/\d.tape=w.tape:=by
 unfold World.farStore at h;split at h
 .split at h
  .rename_i r c;cases h;unfold World.viewStore at c;simp only[bind,Except.bind,pure,Except.pure]at c;repeat' (split at c)
   all_goals first
    |cases c;done
    |grind
  grind
 grind
def A5(P:b4):∀(m:Sem ao)(w:aS),w.drawn<=(k9 (m.run P w)).drawn/\(k9 (m.run P w)).tape=w.tape:=by
 intro m;induction m with
 |pure a=>intro w;exact⟨vac _,Y⟩
 |load md a k b=>intro w;simp only[Sem.run];cases w.cell? a with|some v=>grind|none=>simp only[];cases w.farLoad P a (md== .atomic)with|ok r=>grind|error h=>exact⟨vac _,Y⟩
 |store md a v k b=>
  intro w;have gen:w.drawn<=(k9 (match w.cell? a with
   |some _=>if w.frozen? a then .halt (.unsupported (.unsafePointer "a write to bytes that a string shares")) w else k.run P (w.setCell a v)
   |none=>match w.farStore P a v (md== .atomic)with
    | .ok (w,_)=>k.run P w
    | .error h=>.halt h w)).drawn/\(k9 (match w.cell? a with
   |some _=>if w.frozen? a then .halt (.unsupported (.unsafePointer "a write to bytes that a string shares")) w else k.run P (w.setCell a v)
   |none=>match w.farStore P a v (md== .atomic)with
    | .ok (w,_)=>k.run P w
    | .error h=>.halt h w)).tape=w.tape:=by
   cases w.cell? a with
   |some x=>
    simp only[];split
    .exact⟨vac _,Y⟩
    .exact b (w.setCell a v)
   |none=>simp only[];cases f:w.farStore P a v (md== .atomic)with|error h=>exact⟨vac _,Y⟩|ok r=>grind[agn]
  cases v<;>first|exact⟨vac _,Y⟩|exact gen
 |new o k b=>intro w;exact b _ {w with heap:=w.heap.push o}
 |shape r k b=>intro w;exact b _ w
 |freeze a n k b=>
  intro w;have e:(w.freeze a n).drawn=w.drawn/\(w.freeze a n).tape=w.tape:=by unfold World.freeze;grind
  have d:=b (w.freeze a n);exact⟨e.1▸d.1,d.2.trans e.2⟩
 |frozen a k b=>intro w;exact b _ w
 |getObj r k b=>
  intro w;simp only[Sem.run];split
  .exact⟨vac _,Y⟩
  .grind
  .exact⟨vac _,Y⟩
 |setObj r o k b=>
  intro w;simp only[Sem.run];split
  .exact⟨vac _,Y⟩
  .grind
  .exact⟨vac _,Y⟩
 |choose q k b=>intro w;simp only[Sem.run];grind
 |sys c k b=>grind[agm,Sem.run]
 |program k b=>intro w;exact b _ w
 |mark m k b=>intro w;exact b w
 |halt h=>intro w;exact⟨vac _,Y⟩
end
def iH:GStep->aS
 | .go _ w _ | .comm _ _ _ _ w _ | .spawn _ _ w _ | .count _ w _ | .timer _ _ w _ | .alone _ _ w _ | .newcoro _ _ _ w _ | .coroswitch _ _ _ w _ | .collect _ w _ | .watch _ w _ | .ended _ w _=>w
@[simp] theorem zu (es:uao) (s:GStep):iH (GStep.after es s)=iH s:=by cases s<;>rfl
theorem WZ(P:b4)(m:Bool)(fr:Frame)(cs:fV)(d:Option Dying)(v:Value)(w:aS):iH (doReturn P m fr cs d v w)=w:=by
 unfold doReturn;cases cs with
 |cons c cs=>simp only[];split<;>rfl
 |nil=>
  simp only[];split
  .rfl
  .rfl
  .split
   .rfl
   .split<;>rfl
def Qo{ao:Type}{P:b4}{m:Sem ao}{w:aS}{r:Result ao}(h:m.run P w=r):w.drawn<=(k9 r).drawn:=h▸(A5 P m w).1
def W0(P:b4)(fr:Frame)(cs:fV)(d:Option Dying)(m:String)(w:aS):w.drawn<=(iH (endFatal P fr cs d m w)).drawn:=by
 unfold endFatal;simp only[];split
 .rename_i a;exact Qo a
 .rename_i a;exact Qo a
 .rename_i a;exact Qo a
def ahS(P:b4)(fr:Frame)(cs:fV)(d:Option Dying)(g:Nat)(w:aS):w.drawn<=(iH (early P fr cs d g w)).drawn:=by
 unfold early;have notYet:∀a:aS,(iH (match a.heap[g]? with
  |some (.pending c elem)=>GStep.go {frame:=fr,callers:=cs,status:=.running,dying:=d} {a with heap:=a.heap.setIfInBounds g (.cells c elem)}
  | _=>.ended (.stuck "early: the variable does not wait" (fr.pos P)) a)).drawn=a.drawn:=by
  intro a;split<;>rfl
 simp only[];have dK:∀{s:GStep}{a:aS},(iH s).drawn=a.drawn->w.drawn<=a.drawn->w.drawn<=(iH s).drawn:=λe h=>AA;have same:∀{s:GStep},(iH s).drawn=w.drawn->w.drawn<=(iH s).drawn:=λe=>AA;split
 .grind
 split
 .exact vac _
 rename_i f _;split
 .grind
 split
 .grind
 split
 .exact vac _
 .exact vac _
 .exact vac _
 .grind
 .split
  .exact vac _
  split
  .grind
  split
  .rename_i a b;have:=A5 P (choose (.early g)) w;rw[b]at this;exact dK (notYet a) this.1
  .rename_i a _ b;have:=A5 P (choose (.early g)) w;rw[b]at this;exact this.1
  .rename_i a b;have:=A5 P (choose (.early g)) w;rw[b]at this;exact this.1
def EL(P:b4)(fr:Frame)(cs:fV)(d:Option Dying)(s:Sem Next)(w:aS):(k9 (s.run P w)).drawn<=(iH (stepG.apply P true fr cs d s w)).drawn:=by
 unfold stepG.apply;simp only[Sem.runT_eq,vdh,zu];cases s.run P w with
 |ok h f=>
  cases h with
  |callThen a b c e=>simp only[k9];split<;>exact vac _
  |row a b=>simp only[k9];split<;>exact vac _
  |stack a b=>simp only[k9];split<;>exact vac _
  |recover=>simp only[k9];split<;>exact vac _
  |spawn x=>simp only[k9];repeat' first|exact vac _ |split
  | _=>exact vac _
 |halt x f=>
  cases x with
  |fatal m=>exact W0 P fr cs d m f
  |unsupported u=>cases u with|initOrder g=>exact ahS P fr cs d g f| _=>exact vac _
  | _=>exact vac _
def W3(P:b4)(fr:Frame)(cs:fV)(d:Option Dying)(x:Deferred)(w:aS):((x.target matches .nil)&&(fr.mode matches .panicking _))=true\/(k9 ((invoke x.target x.args).run P w)).drawn<=(iH (callDeferred P fr cs d x w)).drawn:=by
 have key:∀{c:Prop}[Decidable c]{a b:GStep}{n:Nat},(¬c->n<=(iH b).drawn)->c\/n<=(iH (if c then a else b)).drawn:=by grind
 unfold callDeferred;simp only[Sem.runT_eq];refine key λ_=>?_;simp only[zu];cases(invoke x.target x.args).run P w with
 |ok g f=>cases g with|recover=>simp only[k9];split<;>exact vac _|alone on v=>cases on<;>exact vac _|coroswitch c e=>cases e<;>exact vac _| _=>exact vac _
 |halt y f=>cases y with|fatal m=>exact W0 P fr cs d m f| _=>exact vac _
end ax
namespace bp
open Conc ConcN
def fg:Loc->Option Nat
 | .cell a=>some a.block
 | .obj r=>some r
 | _=>none
structure kq where
 n:Nat
 base:Nat
 size:Nat
 K:Nat->Prop
 mine:Nat->Nat->Prop
 gS:Loc->Prop
 eZ:Loc->Prop
 tok:Option Nat
 mu:Addr
 wg:Addr
 past:Nat->Prop
def kq.bd(p:kq)(j:Nat):Prop:=j<p.n/\(j=0\/p.base<=j)
def E9(t:Trace)(a:Addr)(i:Nat):Prop:=∃q,t.act? q=some (.mark (.releaseMerge a))/\t.heard q/\Before t i q
variable{i:Nat}
theorem E9.app{t:Trace}{a:Addr}(h:E9 t a i)(u:Trace):E9 (t++u) a i:=
 let⟨q,d,c,b⟩:=h
 ⟨q,by grind[act?_old,lt_of_act?],(heard_old (lt_of_act? d)).2 c,b.app u⟩
def X4(p:kq)(l:Loc):Prop:=¬p.gS l/\∀b,fg l=some b->¬p.K b/\∀j,¬p.mine j b
structure eo(p:kq)(t:Trace):Prop where
 n6:∀i a,touchAt t i=some a->a.loc.isMemory=true->a.kind=.atomic->p.eZ a.loc\/X4 p a.loc
 gs:∀(i:Nat)(op:MemOp),t[i]?=some op->op.g<p.n
 low:∀i a b,touchAt t i=some a->fg a.loc=some b->b<p.size
 still:∀i a b,touchAt t i=some a->a.write=true->fg a.loc=some b->p.K b->∀j,p.bd j->Knows t j i
 own:∀j i a b,p.bd j->touchAt t i=some a->fg a.loc=some b->p.mine j b->Knows t j i
 tn:∀j,p.tok=some j->p.bd j/\∀i a,touchAt t i=some a->p.gS a.loc->Knows t j i
 BC:p.tok=none->∀i a,touchAt t i=some a->p.gS a.loc->(∀j,p.bd j->Knows t j i)\/E9 t p.mu i
 eZ:∀i a,touchAt t i=some a->p.eZ a.loc->a.kind=.atomic\/(a.kind=.said/\Knows t 0 i)\/∀j,p.bd j->Knows t j i
 qd:∀i a,t.act? i≠some (.mark (.release a))
 xM:∀said,¬Race said t
 past:∀i j,t.g? i=some j->p.past j->t.counts i->Knows t 0 i\/E9 t p.wg i
structure zQ(p:kq):Prop where
 own:∀j k b,p.mine j b->p.mine k b->j=k
 X5:∀j b,p.mine j b->¬p.K b
 E_:∀l b j,p.gS l->fg l=some b->¬p.mine j b/\¬p.K b
 Fa:∀l b j,p.eZ l->fg l=some b->¬p.mine j b/\¬p.K b
 tp:∀l,p.gS l->¬p.eZ l
 low:∀j b,p.mine j b->b<p.size
 ajX:∀b,p.K b->b<p.size
 Rj:∀l b,p.gS l\/p.eZ l->fg l=some b->b<p.size
def zR:Mark->Prop
 | .disable| .enable| .noRoom| .extern _=>True
 | _=>False
def L1(p:kq)(j:Nat)(d:Nat)(e:Event):Prop:=
 match e.loc with
 | .cell a=>(e.sync=false/\((p.K a.block/\e.write=false)\/p.mine j a.block\/(p.gS (.cell a)/\p.tok=some j))/\¬p.past j)\/(e.sync=true/\p.eZ (.cell a)/\0<d)
 | .obj r=>e.sync=false/\((p.K r/\e.write=false)\/p.mine j r)/\¬p.past j
 | .mark m=>zR m\/(j=0/\∃a,p.eZ (.cell a)/\(m=.read a\/m=.write a))
 | .output=>True
 | .goroutines=>False
def zS(d:Nat)(e:Event):Nat:=deafBehind d #[e]
def Rk(p:kq)(j:Nat):Nat->List Event->Prop
 | _,[]=>True
 |d,e::l=>L1 p j d e/\Rk p j (zS d e) l
variable{d j:Nat}{e:Event}{y:MemOp}
section
variable{p:kq}{t:Trace}
def ajY{l:Loc}(h:l.isMemory=true):∃b,fg l=some b:=by cases l<;>simp[Loc.isMemory]at h<;>exact⟨_,Y⟩
def ajZ(h:L1 p j d e){x:Touch}(c:(MemAct.ofEvent e).touch?=some x)(n:x.loc.isMemory=true):
 ∃b,fg x.loc=some b/\((x.kind=.plain/\((p.K b/\x.write=false)\/p.mine j b\/(p.gS x.loc/\p.tok=some j))/\¬p.past j)\/(x.kind=.atomic/\p.eZ x.loc/\0<d)\/(x.kind=.said/\p.eZ x.loc/\j=0)):=by
 obtain⟨loc,wr,g⟩:=e;cases loc with
 |cell a=>
  have l:x=⟨.cell a,wr,if g then .atomic else .plain⟩:=by grind[MemAct.ofEvent,MemAct.touch?]
  subst l;refine⟨a.block,Y,?_⟩;rcases h with⟨f,k,i⟩|⟨f,k,i⟩
  .grind
  grind
 |obj r=>
  obtain⟨f,k,i⟩:=h;simp only at f;subst f;have:(MemAct.ofEvent ⟨.obj r,wr,false⟩)=.access ⟨.obj r,wr,false⟩:=by cases wr<;>rfl
  rw[this]at c;simp only[MemAct.touch?,vbi]at c;subst c;exact⟨r,Y,AA⟩
 |output=>grind[MemAct.ofEvent,MemAct.touch?,Loc.isMemory]
 |goroutines=>exact h.elim
 |mark m=>
  have:(MemAct.ofEvent ⟨.mark m,wr,g⟩)=.mark m:=by cases wr<;>cases g<;>rfl
  rw[this]at c;rcases h with h|⟨h0,a,hs,rfl|rfl⟩
  .cases m<;>simp[zR]at h<;>simp[MemAct.touch?]at c
  .simp[MemAct.touch?]at c;subst c;exact⟨a.block,Y,AA⟩
  .simp[MemAct.touch?]at c;subst c;exact⟨a.block,Y,AA⟩
theorem aj0(h:L1 p j d e)(a:Addr):MemAct.ofEvent e≠ .mark (.release a):=by
 obtain⟨loc,wr,b⟩:=e;cases loc with
 |mark m=>
  have:(MemAct.ofEvent ⟨.mark m,wr,b⟩)=.mark m:=by cases wr<;>cases b<;>rfl
  rw[this];rcases h with h|⟨_,_,_,rfl|rfl⟩
  .grind[zR]
  .simp
  .simp
 | _=>cases wr<;>cases b<;>simp[MemAct.ofEvent]
def Iy(t:Trace)(y:MemOp):(t++#[y])[t.size]?=some y:=by simp
theorem zT{a:Touch}(h:touchAt (t++#[y]) i=some a):touchAt t i=some a\/(i=t.size/\y.act.touch?=some a):=by obtain⟨z,c,b⟩:=touch_of h;grind[touchAt_of]
structure L3(p:kq):Prop where
 gS:∀l,p.gS l->l.isMemory=true
 eZ:∀l,p.eZ l->l.isMemory=true
def Fb{l:Loc}{b:Nat}(h:fg l=some b):l.isMemory=true:=by cases l<;>simp[fg]at h<;>rfl
def eo.push(A:zQ p)(P:L3 p)(h:eo p t)(u:p.bd j)(R:L1 p j (Deaf t j) e)(fn:uaj)(pos:String):eo p (t++#[{g:=j,fn,pos,act:=.ofEvent e}]):=by
 generalize V:({g:=j,fn,pos,act:=.ofEvent e}:MemOp)=y;have hg:y.g=j:=AA;have W:y.act=.ofEvent e:=AA;have X:Knows (t++#[y]) j t.size:=⟨t.size,y,Iy t y,hg,.inl rfl⟩;have new:∀{a:Touch},y.act.touch?=some a->a.loc.isMemory=true->∃b,fg a.loc=some b/\((a.kind=.plain/\((p.K b/\a.write=false)\/p.mine j b\/(p.gS a.loc/\p.tok=some j))/\¬p.past j)\/(a.kind=.atomic/\p.eZ a.loc/\0<Deaf t j)\/(a.kind=.said/\p.eZ a.loc/\j=0)):=
  λc l=>ajZ R AA l
 refine⟨λi a c J cX=>?_,λi op hi=>?_,λi a b c d=>?_,λi a b c E d hK k hk=>?_,λk i a b hk c d l=>?_,λk hk=>⟨(h.tn k hk).1,λi a c f=>?_⟩,λhk i a c f=>?_,λi a c hs=>?_,λi a N=>?_,λsaid=>?_,λi k hk O hc=>?_⟩
 .rcases zT c with c|⟨_,c⟩
  .exact h.n6 i a c J cX
  grind
 .rcases getElem?_append_cases hi with⟨_,L⟩|⟨_,H⟩
  .exact h.gs i op L
  .simp at H;subst H;rw[hg];exact u.1
 .rcases zT c with c|⟨_,c⟩
  .exact h.low i a b c d
  .obtain⟨b',D,hc⟩:=new c (Fb d);obtain rfl:b=b':=AA;rcases hc with⟨_,⟨hK,_⟩|l|⟨f,_⟩,_⟩|⟨_,hs,_⟩|⟨_,hs,_⟩
   .exact A.ajX b hK
   .exact A.low j b l
   .exact A.Rj a.loc b (.inl f) d
   .exact A.Rj a.loc b (.inr hs) d
   .exact A.Rj a.loc b (.inr hs) d
 .rcases zT c with c|⟨_,c⟩
  .exact(h.still i a b c E d hK k hk).app _
  .exfalso;obtain⟨b',D,hc⟩:=new c (Fb d);obtain rfl:b=b':=AA;rcases hc with⟨_,⟨_,M⟩|l|⟨f,_⟩,_⟩|⟨_,hs,_⟩|⟨_,hs,_⟩
   .grind
   .exact A.X5 j b l hK
   .exact(A.E_ a.loc b 0 f d).2 hK
   .exact(A.Fa a.loc b 0 hs d).2 hK
   .exact(A.Fa a.loc b 0 hs d).2 hK
 .rcases zT c with c|⟨rfl,n⟩
  .exact(h.own k i a b hk c d l).app _
  .obtain⟨b',D,hc⟩:=new n (Fb d);obtain rfl:b=b':=AA;rcases hc with⟨_,⟨hK,_⟩|m|⟨f,_⟩,_⟩|⟨_,hs,_⟩|⟨_,hs,_⟩
   .exact absurd hK (A.X5 k b l)
   .rw[A.own k j b l m];grind
   .exact absurd l (A.E_ a.loc b k f d).1
   .exact absurd l (A.Fa a.loc b k hs d).1
   .exact absurd l (A.Fa a.loc b k hs d).1
 .rcases zT c with c|⟨rfl,n⟩
  .exact((h.tn k hk).2 i a c f).app _
  .obtain⟨b,d,hc⟩:=new n (P.gS _ f);rcases hc with⟨_,⟨hK,_⟩|m|⟨_,ht⟩,_⟩|⟨_,hs,_⟩|⟨_,hs,_⟩
   .exact absurd hK (A.E_ a.loc b 0 f d).2
   .exact absurd m (A.E_ a.loc b j f d).1
   .grind
   .exact absurd hs (A.tp _ f)
   .exact absurd hs (A.tp _ f)
 .rcases zT c with c|⟨rfl,n⟩
  .exact(h.BC hk i a c f).imp Lb (λx=>x.app _)
  .exfalso;obtain⟨b,d,hc⟩:=new n (P.gS _ f);rcases hc with⟨_,⟨hK,_⟩|m|⟨_,ht⟩,_⟩|⟨_,hs,_⟩|⟨_,hs,_⟩
   .exact absurd hK (A.E_ a.loc b 0 f d).2
   .exact absurd m (A.E_ a.loc b j f d).1
   .grind
   .exact absurd hs (A.tp _ f)
   .exact absurd hs (A.tp _ f)
 .rcases zT c with c|⟨rfl,n⟩
  .exact(h.eZ i a c hs).imp id (λx=>x.imp (λy=>⟨y.1,y.2.app _⟩) Lb)
  .obtain⟨b,d,hc⟩:=new n (P.eZ _ hs);rcases hc with⟨_,⟨hK,_⟩|m|⟨f,_⟩,_⟩|⟨hk,_,_⟩|⟨hk,_,h0⟩
   .exact absurd hK (A.Fa a.loc b 0 hs d).2
   .exact absurd m (A.Fa a.loc b j hs d).1
   .exact absurd hs (A.tp _ f)
   .grind
   grind
 .obtain⟨op,Q,I⟩:=vaj.1 N;rcases getElem?_append_cases Q with⟨_,T⟩|⟨_,Z⟩
  .exact h.qd i a (by rw[act?_of T,I])
  grind[aj0]
 .refine noRace_append (g:=j) (h.xM said) AA (λi x c op r b d hc=>?_);simp at r;subst r;have l:b.loc.isMemory=true:=by rw[<-hc.1];exact hc.2.1
  obtain⟨s,Y,o⟩:=new d l;have F:fg x.loc=some s:=by rw[hc.1];grind
  rcases o with⟨_,⟨hK,E⟩|m|⟨f,ht⟩,_⟩|⟨hk,hs,_⟩|⟨hk,hs,h0⟩
  .exact h.still i x s c (hc.2.2.1.resolve_right AA) F hK j u
  .exact h.own j i x s u c F m
  .exact(h.tn j ht).2 i x c (by rw[hc.1];grind)
  .rcases h.eZ i x c (by rw[hc.1];exact hs)with q|⟨q,_⟩|q
   .exfalso;rcases hc.2.2.2 with e|e|⟨_,e,_⟩
    .grind
    .grind
    grind
   .exfalso;rcases hc.2.2.2 with e|e|⟨_,_,e⟩
    .grind
    .grind
    grind
   grind
  .rcases h.eZ i x c (by rw[hc.1];exact hs)with q|⟨_,q⟩|q
   .exfalso;rcases hc.2.2.2 with e|e|⟨_,e,_⟩
    .grind
    .grind
    grind
   .grind
   grind
 .by_cases hi:i<t.size
  .have C:t.g? i=some k:=by grind[g?_old]
   have v:t.counts i:=by obtain⟨x,B,z,w⟩:=hc;exact⟨x,by grind[act?_old],z,w.imp id (λe=>(heard_old hi).1 e)⟩
   exact(h.past i k C O v).imp LR LR
  .have U:i=t.size:=by grind[Trace.g?]
   subst U;have q:k=j:=H_;subst q;obtain⟨x,B,z,w⟩:=hc;rw[act?_of (Iy t y)]at B;obtain⟨b,d,o⟩:=new B z;rcases o with⟨_,_,Lw⟩|⟨hk,_,hd⟩|⟨_,_,h0⟩
   .grind
   .exfalso;rcases w with e|⟨g,K,S⟩
    .grind
    .simp[Trace.g?]at K;rw[deaf_old JT]at S;grind[Deaf]
   grind
theorem aj2(t:Trace)(j:Nat)(fn:uaj)(pos:String)(e:Event):Deaf (t++#[{g:=j,fn,pos,act:=.ofEvent e}]) j=zS (Deaf t j) e:=by have:=Deaf_own t j fn pos #[e];grind[ofEvents_eq,zS]
theorem eo.step(A:zQ p)(P:L3 p){j:Nat}(a:p.bd j)(fn:uaj)(pos:String):∀(l:ubi){t:Trace},eo p t->Rk p j (Deaf t j) l->eo p (t++MemOp.ofEvents j fn pos l.toArray)
 | [],t,h,_=>by grind[ofEvents_eq]
 |e::l,t,h,⟨b,c⟩=>by have:=eo.step A P a fn pos l (h.push A P a b fn pos) (by grind[aj2]);grind[ofEvents_eq]
def eo.grow(h:eo p t){size:Nat}(hs:p.size<=size){mine:Nat->Nat->Prop}(g:∀j b,mine j b->p.mine j b\/p.size<=b):eo {p with size:=size,mine:=mine} t:=
 ⟨λi a d k cX=>(h.n6 i a d k cX).imp id λhn=>⟨hn.1,λb c=>⟨(hn.2 b c).1,λj f=>(g j b f).elim ((hn.2 b c).2 j) (λe=>absurd (h.low i a b d c) AP)⟩⟩,h.gs,λi a b d c=>vap (h.low i a b d c) hs,h.still,λj i a b f d c l=>(g j b l).elim (λe=>h.own j i a b f d c e) (λe=>absurd (h.low i a b d c) AP),h.tn,h.BC,h.eZ,h.qd,h.xM,h.past⟩
end
section
section
variable{p:kq}{t:Trace}
def wd(hn:y.act.touch?=none){a:Touch}(h:touchAt (t++#[y]) i=some a):touchAt t i=some a:=by grind[zT]
def Rl(hn:y.act.touch?=none)(hg:(t++#[y]).g? i=some j)(hc:(t++#[y]).counts i):i<t.size/\t.g? i=some j/\t.counts i:=by obtain⟨x,f,d,c⟩:=hc;have b:touchAt t i=some x:=wd hn f;obtain⟨z,a,_⟩:=touch_of b;have hi:=lt_size_of_getElem? a;exact⟨hi,by grind[g?_old],x,by grind[act?_old],d,c.imp id (λe=>(heard_old hi).1 e)⟩
theorem eo.word(h:eo p t)(hg:y.g<p.n)(hn:y.act.touch?=none)(A:∀a,y.act≠ .mark (.release a)):eo p (t++#[y]):=by
 refine⟨λi a c m cX=>h.n6 i a (wd hn c) m cX,λi op hi=>?_,λi a b c d=>h.low i a b (wd hn c) d,λi a b c o d hK k hk=>(h.still i a b (wd hn c) o d hK k hk).app _,λk i a b hk c d u=>(h.own k i a b hk (wd hn c) d u).app _,
  λk hk=>⟨(h.tn k hk).1,λi a c f=>((h.tn k hk).2 i a (wd hn c) f).app _⟩,λhk i a c f=>(h.BC hk i a (wd hn c) f).imp Lb (λx=>x.app _),
  λi a c hs=>(h.eZ i a (wd hn c) hs).imp id (λx=>x.imp (λy=>⟨y.1,y.2.app _⟩) Lb),λi a l=>?_,λsaid=>?_,λi k hk q hc=>?_⟩
 .rcases getElem?_append_cases hi with⟨_,n⟩|⟨_,C⟩
  .exact h.gs i op n
  grind
 .obtain⟨op,s,j⟩:=vaj.1 l;rcases getElem?_append_cases s with⟨_,z⟩|⟨_,B⟩
  .exact h.qd i a (by rw[act?_of z,j])
  grind
 .refine noRace_append (g:=y.g) (h.xM said) AA (λi x c op r b d hc=>?_);grind
 .obtain⟨hi,w,v⟩:=Rl hn hk hc;exact(h.past i k w q v).imp LR LR
theorem X8(h:eo p t){a:Addr}(d:y.act=.mark (.acquire a))(hd:Deaf t y.g=0)(e:E9 t a i):Knows (t++#[y]) y.g i:=by
 obtain⟨q,c,g,f⟩:=e;have hq:=lt_of_act? c;have b:=Iy t y;have edge:HappensBefore (t++#[y]) q t.size:=.single (.inr ⟨.marked hq (.inr (by rw[act?_old hq];exact c)) (by rw[act?_of b,d]) (λk _ hk=>by rw[act?_old hk];exact h.qd k a),(heard_old hq).2 g,
  ⟨y.g,by simp[Trace.g?],FJ⟩⟩)
 exact⟨t.size,y,b,Y,.inr ((f.app #[y]).hb edge)⟩
def eo.aj3(h:eo p t)(ht:p.tok=none)(c:p.bd y.g)(d:y.act=.mark (.acquire p.mu))(hd:Deaf t y.g=0):eo {p with tok:=some y.g} (t++#[y]):=by
 have hn:y.act.touch?=none:=by rw[d];rfl
 have b:=h.word c.1 hn AA;refine⟨b.n6,b.gs,b.low,b.still,b.own,λk hk=>?_,AA,b.eZ,b.qd,b.xM,b.past⟩;simp at hk;subst hk;refine⟨c,λi a e hg=>?_⟩;rcases h.BC ht i a (wd hn e) hg with hk|hk
 .exact(hk _ c).app _
 grind[X8]
def eo.aj4(h:eo p t)(ht:p.tok=some y.g)(c:y.act=.mark (.releaseMerge p.mu))(hd:Deaf t y.g=0):eo {p with tok:=none} (t++#[y]):=by
 have hn:y.act.touch?=none:=by rw[c];rfl
 obtain⟨f,hk⟩:=h.tn _ ht;have b:=h.word f.1 hn AA;have d:=Iy t y;refine⟨b.n6,b.gs,b.low,b.still,b.own,AA,λ_ i a e hg=>.inr ⟨t.size,by rw[act?_of d,c],⟨y.g,by simp[Trace.g?],FJ⟩,.inr ?_⟩,b.eZ,b.qd,b.xM,b.past⟩;exact(hk i a (wd hn e) hg).hb_new JT d Y
def eo.aj5(h:eo p t)(f:p.bd y.g)(c:y.act=.mark (.releaseMerge p.wg))(hd:Deaf t y.g=0){past:dh}(d:∀k,past k->p.past k\/k=y.g):eo {p with past:=past} (t++#[y]):=by
 have hn:y.act.touch?=none:=by rw[c];rfl
 have a:=h.word f.1 hn AA;have e:=Iy t y;refine⟨a.n6,a.gs,a.low,a.still,a.own,a.tn,a.BC,a.eZ,a.qd,a.xM,λi k hk b hc=>?_⟩;obtain⟨hi,j,g⟩:=Rl hn hk hc;rcases d k b with b|rfl
 .exact a.past i k hk b hc
 .refine .inr ⟨t.size,by rw[act?_of e,c],⟨y.g,by simp[Trace.g?],FJ⟩,.inr ?_⟩;grind[Trace.g?,hb_po]
def eo.aj6(h:eo p t)(hg:y.g=0)(h0:0<p.n)(a:y.act=.mark (.acquire p.wg))(hd:Deaf t 0=0):
 eo p (t++#[y])/\∀i j,(t++#[y]).g? i=some j->p.past j->(t++#[y]).counts i->Knows (t++#[y]) 0 i:=by
 have hn:y.act.touch?=none:=by rw[a];rfl
 refine⟨h.word AA hn AA,λi j c b hc=>?_⟩;obtain⟨hi,f,d⟩:=Rl hn c hc;rcases h.past i j f b d with e|e
 .exact e.app _
 grind[X8]
def eo.aj7(h:eo p t){x:MemOp}(F:x.g=0/\x.act=.go p.n)(E:y.g=p.n/\y.act=.start)(h0:Deaf t 0=0)(hn:0<p.n)(P:∀b,¬p.mine p.n b):eo {p with n:=p.n+1} (t++#[x,y]):=by
 have hk:Deaf t p.n=0:=Deaf_absent λi op hi e=>by have:=h.gs i op hi;omega
 have A:∀op∈#[x,y],op=x\/op=y:=AA;have Q:∀op∈#[x,y],∀b,op.act.touch?=some b->False:=by
  intro op m b d;rcases A op m with rfl|rfl
  .rw[F.2]at d;cases d
  .rw[E.2]at d;cases d
 have old:∀{i:Nat}{b:Touch},touchAt (t++#[x,y]) i=some b->touchAt t i=some b:=by intro i b d;obtain⟨z,r,D⟩:=touch_of d;grind[touchAt_of]
 have di:p.bd 0:=⟨hn,.inl Y⟩;have all:∀{i:Nat},(∀j,p.bd j->Knows t j i)->∀j,({p with n:=p.n+1}:kq).bd j->Knows (t++#[x,y]) j i:=by
  intro i hi j f;rcases vdd j p.n with k|v
  .exact(hi j ⟨k,f.2⟩).app _
  .have N:j<p.n+1:=f.1;grind[fork_knows]
 refine⟨λi a c w cX=>h.n6 i a (old c) w cX,λi op hi=>?_,λi a b c d=>h.low i a b (old c) d,λi a b c H d hK=>all (h.still i a b (old c) H d hK),λj i a b f c d q=>?_,λj f=>?_,λK i a c hg=>?_,
  λi a c hs=>(h.eZ i a (old c) hs).imp id (λx=>x.imp (λy=>⟨y.1,y.2.app _⟩) all),λi a I=>?_,λsaid=>?_,λi j f O hc=>?_⟩
 .rcases getElem?_append_cases hi with⟨_,B⟩|⟨_,S⟩
  .exact Nat.lt_succ_of_lt (h.gs i op B)
  grind
 .rcases vdd j p.n with k|v
  .exact(h.own j i a b ⟨k,f.2⟩ (old c) d q).app _
  .have N:j<p.n+1:=f.1;grind
 .obtain⟨l,o⟩:=h.tn j f;exact⟨⟨Nat.lt_succ_of_lt l.1,l.2⟩,λi a c hg=>(o i a (old c) hg).app _⟩
 .exact(h.BC K i a (old c) hg).imp all LR
 .obtain⟨op,J,u⟩:=vaj.1 I;rcases getElem?_append_cases J with⟨_,M⟩|⟨_,R⟩
  .exact h.qd i a (by rw[act?_of M,u])
  grind
 .have e:t++#[x,y]=(t++#[x])++#[y]:=by grind
  rw[e];refine noRace_append (g:=p.n) (noRace_append (g:=0) (h.xM said) AA AA)
   AA AA
 .obtain⟨s,l,o,L⟩:=hc;have C:touchAt t i=some s:=old l;obtain⟨z,r,_⟩:=touch_of C;have hi:=lt_size_of_getElem? r;exact(h.past i j (by grind[g?_old]) O ⟨s,by grind[act?_old],o,L.imp id (λe=>(heard_old hi).1 e)⟩).imp LR LR
end
end
end bp
namespace ag
structure bk where
 L:Bool
 W:Bool
 S:Bool
 k:Nat
 sema:Nat
 gm:Nat
def bk.word(m:bk):Nat:=m.L.toNat+2*m.W.toNat+4*m.S.toNat+8*m.k
def bk.jq(m:bk):Prop:=m.L=false/\m.W=false/\m.S=false/\0<m.k
inductive bU where
 |idle|l5|jc|jX|hand|own
 |eI (v o:Nat)
 |qg|ps
def gF:bU->Nat| .own=>1| _=>0
def gn:bU->Nat| .jc=>1| _=>0
def fD:bU->Nat| .jX=>1| _=>0
def fp:bU->Nat| .hand=>1| _=>0
def dR:bU->Nat| .qg=>1| _=>0
def ep:bU->Nat| .ps=>1| _=>0
def tz(x:bU)(W:Bool):Bool:=match x with| .jc=>false| _=>W
def aR(f:bU->Nat)(xs:List bU):Nat:=(xs.map f).sum
theorem oN(f:bU->Nat):∀(xs:List bU)(i:Nat)(x y:bU),xs[i]?=some x->aR f (xs.set i y)+f x=aR f xs+f y
 | [],i,x,y,h=>AA
 |a::xs,0,x,y,h=>by grind[aR]
 |a::xs,i+1,x,y,h=>by have:=oN f xs i x y EJ;simp[aR]at this⊢;omega
theorem BP(f:bU->Nat):∀(xs:List bU)(i:Nat)(x:bU),xs[i]?=some x->f x<=aR f xs
 | [],i,x,h=>AA
 |a::xs,0,x,h=>by grind[aR]
 |a::xs,i+1,x,h=>by have:=BP f xs i x EJ;simp[aR]at this⊢;omega
theorem Rw(f:bU->Nat):∀(xs:List bU)(i j:Nat)(x y:bU),xs[i]?=some x->xs[j]?=some y->i≠j->f x+f y<=aR f xs
 | [],i,j,x,y,h,_,_=>AA
 |a::xs,0,0,x,y,_,_,h=>absurd Y h
 |a::xs,0,j+1,x,y,c,b,_=>by simp at c b;subst c;have:=BP f xs j y b;grind[aR]
 |a::xs,i+1,0,x,y,c,b,_=>by simp at c b;subst b;have:=BP f xs i x c;grind[aR]
 |a::xs,i+1,j+1,x,y,c,b,h=>by have:=Rw f xs i j x y FZ (by simpa using b) AP;simp[aR]at this⊢;omega
theorem Yl(f:bU->Nat)(b:∀x,f x<=1):∀(xs:List bU),aR f xs<=xs.length
 | []=>by simp[aR]
 |a::xs=>by have:=Yl f b xs;have:=b a;simp[aR]at *;omega
theorem Ym(f:bU->Nat):∀(xs:List bU),(∀(i:Nat) x,xs[i]?=some x->f x=0)->aR f xs=0
 | [],_=>by simp[aR]
 |a::xs,h=>by have c:=h 0 a Ad;have b:=Ym f xs λi x hi=>h (i+1) x IL;simp[aR]at b⊢;omega
def Rx(f:bU->Nat)(xs:List bU)(y:bU):aR f (xs++[y])=aR f xs+f y:=by simp[aR]
structure dl(m:bk)(xs:List bU):Prop where
 o:aR gF xs=m.L.toNat
 nm:m.S=false->m.W.toNat=aR gn xs+aR dR xs+m.sema/\aR fp xs=0/\aR ep xs=0/\aR fD xs=m.k+m.sema+aR dR xs
 st:m.S=true->m.W=false/\aR gn xs=0/\aR dR xs=0/\m.L.toNat+aR fp xs+aR ep xs+m.sema=1/\aR fD xs+aR fp xs=m.k/\1<=m.k
 nW:m.jq->∃i:Nat,xs[i]?=some (.eI m.gm m.word)
 eI:∀(i:Nat) v o,xs[i]?=some (.eI v o)->v<=m.gm/\(v=m.gm->m.jq->o=m.word)
def qh(m:bk)(xs:List bU):Nat:=m.sema+aR dR xs+aR ep xs
section
variable{m:bk}{xs:List bU}{i:Nat}{x:bU}
def dl.Me(h:dl m xs):m.k<=xs.length:=by
 have q:=Yl fD (λx=>by cases x<;>simp[fD]) xs
 cases hS:m.S with
 |false=>have:=h.nm hS;omega
 |true=>
  have d:=h.st hS;have c:m.L.toNat<=1:=AA;by_cases e:aR fp xs=0
  .omega
  .
   have:∀(xs:List bU),aR fD xs+aR fp xs<=xs.length:=by intro xs;induction xs with|nil=>simp[aR]|cons a xs b=>cases a<;>simp[aR,fD,fp]at b⊢ <;>omega
   grind
def rf{y:bU}(hi:xs[i]?=some x)(b:∀v o,x≠ .eI v o)(a:∀v o,y≠ .eI v o){j:Nat}{v o:Nat}:(xs.set i y)[j]?=some (.eI v o)↔xs[j]?=some (.eI v o):=by grind
def dl.akz(h:dl m xs)(hi:xs[i]?=some x)(d:x=.l5\/x=.jc)(k:m.L=false)(hS:m.S=false):dl {m with L:=true,W:=tz x m.W} (xs.set i .own):=by
 have c:=λf=>oN f xs i x .own hi;have o:=c gF;have a:=c gn;have p:=c dR;have hd:=c fp;have ps:=c ep;have q:=c fD;have nm:=h.nm hS;have g:=h.o;rw[k]at g;have l:m.W.toNat<=1:=vay _;rcases d with rfl|rfl;all_goals
  simp[gF,gn,dR,fp,ep,fD,tz]at *;refine⟨AA,AA,λe=>?_,λe=>?_,λj v o b=>?_⟩
  .grind
  .exact absurd e.1 Ad
  .have b:=(rf hi Ad Ad).1 b;exact⟨(h.eI j v o b).1,λ_ e=>absurd e.1 Ad⟩
def dl.queue(h:dl m xs)(hi:xs[i]?=some bU.l5)(hq:m.L=true\/m.S=true):dl {m with k:=m.k+1} (xs.set i bU.jX):=by
 have c:=λf=>oN f xs i bU.l5 bU.jX hi;have o:=c gF;have a:=c gn;have p:=c dR;have hd:=c fp;have ps:=c ep;have q:=c fD;have r:=h.o;have l:m.W.toNat<=1:=vay _;have n:m.L.toNat<=1:=vay _;simp only[gF,gn,dR,fp,ep,fD]at o a p hd ps q;refine⟨AA,λe=>?_,λe=>?_,λe=>?_,λj v o' b=>?_⟩
 .have:=h.nm e;grind
 .have:=h.st e;grind
 .exact absurd e (by rintro⟨g,_,d,_⟩;grind)
 .have b:=(rf hi Ad Ad).1 b;exact⟨(h.eI j v o' b).1,λ_ e=>absurd e (by rintro⟨g,_,d,_⟩;grind)⟩
def dl.Yn(h:dl m xs)(hi:xs[i]?=some .jc):m.S=false/\m.W=true/\aR gn xs=1/\aR dR xs=0/\m.sema=0:=by have a:=BP gn xs i .jc hi;have b:m.W.toNat<=1:=vay _;simp[gn]at a;cases hS:m.S with|true=>have:=h.st hS;omega|false=>have:=h.nm hS;grind
def dl.akA(h:dl m xs)(hi:xs[i]?=some bU.jc)(sv:Bool)(n:m.L=true):dl {m with k:=m.k+1,W:=false,S:=sv} (xs.set i bU.jX):=by
 have c:=λf=>oN f xs i bU.jc bU.jX hi;have o:=c gF;have a:=c gn;have p:=c dR;have hd:=c fp;have ps:=c ep;have q:=c fD;have d:=h.o;have r:m.W.toNat<=1:=vay _;have g:m.L.toNat<=1:=AA;simp only[gF,gn,dR,fp,ep,fD]at o a p hd ps q;obtain⟨hS,l,n1,ey,s⟩:=h.Yn hi;have nm:=h.nm hS;rw[l]at nm;rw[n]at d g;simp at nm d;refine⟨AA,λe=>?_,λe=>?_,λe=>absurd e.1 AA,λj v o' b=>?_⟩
 .grind
 .grind
 .have b:=(rf hi Ad Ad).1 b;exact⟨(h.eI j v o' b).1,λ_ e=>absurd e.1 AA⟩
def dl.akB(h:dl m xs)(hi:xs[i]?=some bU.l5)(n:m.L=true)(hS:m.S=false)(d:m.W=false):dl {m with W:=true} (xs.set i bU.jc):=by
 have c:=λf=>oN f xs i bU.l5 bU.jc hi;have o:=c gF;have a:=c gn;have p:=c dR;have hd:=c fp;have ps:=c ep;have q:=c fD;have l:=h.o;have g:m.W.toNat<=1:=AA;have k:m.L.toNat<=1:=AA;simp only[gF,gn,dR,fp,ep,fD]at o a p hd ps q;have nm:=h.nm hS;rw[d]at nm;simp at nm;refine⟨AA,λe=>?_,λe=>?_,λe=>absurd e.1 AA,λj v o' b=>?_⟩
 .grind
 .grind
 .have b:=(rf hi Ad Ad).1 b;exact⟨(h.eI j v o' b).1,λ_ e=>absurd e.1 AA⟩
def dl.akC(h:dl m xs)(hi:xs[i]?=some bU.jX)(hS:m.S=false)(hs:0<m.sema):dl {m with sema:=m.sema-1} (xs.set i bU.jc):=by
 have c:=λf=>oN f xs i bU.jX bU.jc hi;have o:=c gF;have a:=c gn;have p:=c dR;have hd:=c fp;have ps:=c ep;have q:=c fD;have k:=h.o;have d:m.W.toNat<=1:=vay _;have g:m.L.toNat<=1:=vay _;simp only[gF,gn,dR,fp,ep,fD]at o a p hd ps q;have nm:=h.nm hS;have l:m.W=true:=by grind
 refine⟨AA,λe=>?_,λe=>?_,λe=>absurd e.2.1 AA,λj v o' b=>?_⟩
 .grind
 .grind
 .have b:=(rf hi Ad Ad).1 b;exact⟨(h.eI j v o' b).1,λ_ e=>absurd e.2.1 AA⟩
def dl.akD(h:dl m xs)(hi:xs[i]?=some bU.jX)(hS:m.S=true)(hs:0<m.sema):dl {m with sema:=m.sema-1} (xs.set i bU.hand):=by
 have c:=λf=>oN f xs i bU.jX bU.hand hi;have o:=c gF;have a:=c gn;have p:=c dR;have hd:=c fp;have ps:=c ep;have q:=c fD;have k:=h.o;have d:m.W.toNat<=1:=vay _;have g:m.L.toNat<=1:=vay _;simp only[gF,gn,dR,fp,ep,fD]at o a p hd ps q;have st:=h.st hS;refine⟨AA,λe=>?_,λe=>?_,λe=>absurd e.2.2.1 AA,λj v o' b=>?_⟩
 .grind
 .grind
 .have b:=(rf hi Ad Ad).1 b;exact⟨(h.eI j v o' b).1,λ_ e=>absurd e.2.2.1 AA⟩
def dl.IF(h:dl m xs)(hi:xs[i]?=some .hand):m.S=true/\m.L=false/\m.W=false/\1<=m.k/\m.sema=0/\aR fp xs=1/\aR ep xs=0:=by have a:=BP fp xs i .hand hi;have b:m.L.toNat<=1:=vay _;simp[fp]at a;cases hS:m.S with|false=>have:=h.nm hS;omega|true=>have:=h.st hS;grind
def dl.handed(h:dl m xs)(hi:xs[i]?=some bU.hand)(clear:Bool)(hc:clear=false->2<=m.k):dl {m with L:=true,k:=m.k-1,S:= !clear} (xs.set i bU.own):=by
 have c:=λf=>oN f xs i bU.hand bU.own hi;have o:=c gF;have a:=c gn;have p:=c dR;have hd:=c fp;have ps:=c ep;have q:=c fD;have d:=h.o;have l:m.W.toNat<=1:=vay _;have n:m.L.toNat<=1:=vay _;simp only[gF,gn,dR,fp,ep,fD]at o a p hd ps q;obtain⟨hS,g,s,n1,ey,r,oz⟩:=h.IF hi;have st:=h.st hS;rw[g]at d st;simp at d st;refine⟨AA,λe=>?_,λe=>?_,λe=>absurd e.1 Ad,λj v o' b=>?_⟩
 .grind
 .grind
 .have b:=(rf hi Ad Ad).1 b;exact⟨(h.eI j v o' b).1,λ_ e=>absurd e.1 Ad⟩
def dl.Mf(h:dl m xs)(hi:xs[i]?=some .own):m.L=true:=by have a:=BP gF xs i .own hi;simp[gF]at a;have:=h.o;grind
def dl.Yo(h:dl m xs){j:Nat}(hi:xs[i]?=some .own)(c:xs[j]?=some .own):i=j:=by apply vaw;intro b;have a:=Rw gF xs i j .own .own hi c b;simp only[gF]at a;have:=h.o;grind[Bool.toNat_le]
def dl.akE(h:dl m xs)(hi:xs[i]?=some bU.own)(hS:m.S=true):dl {m with L:=false} (xs.set i bU.ps):=by
 have c:=λf=>oN f xs i bU.own bU.ps hi;have o:=c gF;have a:=c gn;have p:=c dR;have hd:=c fp;have ps:=c ep;have q:=c fD;have d:=h.o;have k:m.W.toNat<=1:=vay _;have l:m.L.toNat<=1:=vay _;simp only[gF,gn,dR,fp,ep,fD]at o a p hd ps q;have g:=h.Mf hi;have st:=h.st hS;rw[g]at d st;simp at d st;refine⟨AA,λe=>?_,λe=>?_,λe=>absurd e.2.2.1 AA,λj v o' b=>?_⟩
 .grind
 .grind
 .have b:=(rf hi Ad Ad).1 b;exact⟨(h.eI j v o' b).1,λ_ e=>absurd e.2.2.1 AA⟩
def dl.akF(h:dl m xs)(hi:xs[i]?=some .own)(hS:m.S=false)(hk:m.k=0):dl {m with L:=false} (xs.set i .idle):=by
 have c:=λf=>oN f xs i .own .idle hi;have o:=c gF;have a:=c gn;have p:=c dR;have hd:=c fp;have ps:=c ep;have q:=c fD;have d:=h.o;have g:=h.Mf hi;simp only[gF,gn,dR,fp,ep,fD]at o a p hd ps q;have nm:=h.nm hS;rw[g]at d;simp at d;refine⟨AA,λe=>?_,λe=>?_,λe=>absurd e.2.2.2 AA,λj v o' b=>?_⟩
 .grind
 .grind
 .have b:=(rf hi Ad Ad).1 b;exact⟨(h.eI j v o' b).1,λ_ e=>absurd e.2.2.2 AA⟩
def dl.akG(h:dl m xs)(hi:xs[i]?=some .own)(hS:m.S=false):dl {m with L:=false,gm:=m.gm+1} (xs.set i (.eI (m.gm+1) ({m with L:=false}:bk).word)):=by
 have c:=λf=>oN f xs i .own (.eI (m.gm+1) ({m with L:=false}:bk).word) hi;have o:=c gF;have a:=c gn;have p:=c dR;have hd:=c fp;have ps:=c ep;have q:=c fD;have g:=h.o;have l:=h.Mf hi;have b:i<xs.length:=(vab.1 hi).1;simp only[gF,gn,dR,fp,ep,fD]at o a p hd ps q;have nm:=h.nm hS;rw[l]at g;simp at g;refine⟨AA,λe=>?_,λe=>?_,λe=>⟨i,by rw[vcg b];rfl⟩,λj v o' d=>?_⟩
 .grind
 .grind
 .by_cases k:j=i
  .subst k;rw[vcg b]at d;simp at d;obtain⟨rfl,rfl⟩:=d;exact⟨vac _,λ_ _=>Y⟩
  .rw[vba (Ne.symm k)]at d;have:=(h.eI j v o' d).1;grind
def dl.Ry(h:dl m xs){v o:Nat}(hi:xs[i]?=some (.eI v o))(g:m.jq):dl {m with k:=m.k-1,W:=true} (xs.set i .qg):=by
 have c:=λf=>oN f xs i (.eI v o) .qg hi;have o':=c gF;have a:=c gn;have p:=c dR;have hd:=c fp;have ps:=c ep;have q:=c fD;have s:=h.o;have d:i<xs.length:=(vab.1 hi).1;simp only[gF,gn,dR,fp,ep,fD]at o' a p hd ps q;obtain⟨t,l,hS,hk⟩:=g;have nm:=h.nm hS;rw[l]at nm;simp at nm;refine⟨AA,λe=>?_,λe=>?_,λe=>absurd e.2.1 Ad,λj v' r b=>?_⟩
 .grind
 .grind
 .by_cases n:j=i
  .grind
  .rw[vba (Ne.symm n)]at b;exact⟨(h.eI j v' r b).1,λ_ e=>absurd e.2.1 Ad⟩
def dl.leave(h:dl m xs){v o:Nat}(hi:xs[i]?=some (.eI v o))(hn:¬(m.jq/\m.gm=v)):dl m (xs.set i .idle):=by
 have c:=λf=>oN f xs i (.eI v o) .idle hi;have o':=c gF;have a:=c gn;have p:=c dR;have hd:=c fp;have ps:=c ep;have q:=c fD;have l:=h.o;have d:i<xs.length:=(vab.1 hi).1;simp only[gF,gn,dR,fp,ep,fD]at o' a p hd ps q;refine⟨AP,λe=>?_,λe=>?_,λe=>?_,λj v' k b=>?_⟩
 .have:=h.nm e;omega
 .have:=h.st e;grind
 .obtain⟨j,b⟩:=h.nW e;refine⟨j,?_⟩;grind
 .by_cases g:j=i
  .grind
  .rw[vba (Ne.symm g)]at b;exact h.eI j v' k b
def dl.akH(h:dl m xs)(hi:xs[i]?=some bU.qg):dl {m with sema:=m.sema+1} (xs.set i bU.idle):=by
 have c:=λf=>oN f xs i bU.qg bU.idle hi;have o:=c gF;have a:=c gn;have p:=c dR;have hd:=c fp;have ps:=c ep;have q:=c fD;have k:=h.o;have d:m.W.toNat<=1:=vay _;have g:m.L.toNat<=1:=vay _;simp only[gF,gn,dR,fp,ep,fD]at o a p hd ps q;refine⟨AA,λe=>?_,λe=>?_,λe=>?_,λj v o' b=>?_⟩
 .have:=h.nm e;grind
 .have:=h.st e;grind
 .obtain⟨j,b⟩:=h.nW e;exact⟨j,(rf hi Ad Ad).2 b⟩
 .have b:=(rf hi Ad Ad).1 b;exact h.eI j v o' b
def dl.akI(h:dl m xs)(hi:xs[i]?=some bU.ps):dl {m with sema:=m.sema+1} (xs.set i bU.idle):=by
 have c:=λf=>oN f xs i bU.ps bU.idle hi;have o:=c gF;have a:=c gn;have p:=c dR;have hd:=c fp;have ps:=c ep;have q:=c fD;have k:=h.o;have d:m.W.toNat<=1:=vay _;have g:m.L.toNat<=1:=vay _;simp only[gF,gn,dR,fp,ep,fD]at o a p hd ps q;refine⟨AA,λe=>?_,λe=>?_,λe=>?_,λj v o' b=>?_⟩
 .have:=h.nm e;grind
 .have:=h.st e;grind
 .obtain⟨j,b⟩:=h.nW e;exact⟨j,(rf hi Ad Ad).2 b⟩
 .have b:=(rf hi Ad Ad).1 b;exact h.eI j v o' b
def dl.start(h:dl m xs)(hi:xs[i]?=some bU.idle):dl m (xs.set i bU.l5):=by
 have c:=λf=>oN f xs i bU.idle bU.l5 hi;have o:=c gF;have a:=c gn;have p:=c dR;have hd:=c fp;have ps:=c ep;have q:=c fD;have k:=h.o;have d:m.W.toNat<=1:=vay _;have g:m.L.toNat<=1:=vay _;simp only[gF,gn,dR,fp,ep,fD]at o a p hd ps q;refine⟨AP,λe=>?_,λe=>?_,λe=>?_,λj v o' b=>?_⟩
 .have:=h.nm e;omega
 .have:=h.st e;grind
 .obtain⟨j,b⟩:=h.nW e;exact⟨j,AA⟩
 .have b:=(rf hi Ad Ad).1 b;exact h.eI j v o' b
def dl.alive(h:dl m xs)(hs:m.sema=0)(hi:xs[i]?=some .jX):∃(j:Nat)(y:bU),xs[j]?=some y/\y≠ .idle/\y≠ .jX:=by
 apply vaw;intro hn;have all:∀(j:Nat)(y:bU),xs[j]?=some y->y=.idle\/y=.jX:=AA;have z:∀f:bU->Nat,f .idle=0->f .jX=0->aR f xs=0:=λf k g=>Ym f xs AA;have o:=z gF Y Y;have a:=z gn Y Y;have p:=z dR Y Y;have hd:=z fp Y Y;have ps:=z ep Y Y;have q:=BP fD xs i .jX hi;simp[fD]at q;have d:=h.o;have c:m.L=false:=by grind
 cases hS:m.S with
 |true=>have:=h.st hS;grind
 |false=>
  have nm:=h.nm hS;have b:m.W=false:=by grind
  obtain⟨j,e⟩:=h.nW ⟨c,b,hS,AP⟩;grind
def dl.push(h:dl m xs):dl m (xs++[.idle]):=by
 have c:=λf=>Rx f xs .idle;have o:=c gF;have a:=c gn;have p:=c dR;have hd:=c fp;have ps:=c ep;have q:=c fD;simp only[gF,gn,dR,fp,ep,fD]at o a p hd ps q;have i:=h.o;refine⟨AP,λe=>?_,λe=>?_,λe=>?_,λj v o' d=>?_⟩
 .have:=h.nm e;omega
 .have:=h.st e;grind
 .obtain⟨j,d⟩:=h.nW e;have b:j<xs.length:=(vab.1 d).1;exact⟨j,AA⟩
 .rcases vdd j xs.length with b|g
  .rw[List.getElem?_append_left b]at d;exact h.eI j v o' d
  grind
end
def xP(z:bU)(m m1:bk):Prop:=(z=.hand->m.k<=m1.k)/\∀v o,z=.eI v o->¬(m.jq/\m.gm=v)->¬(m1.jq/\m1.gm=v)
theorem xP.refl(z:bU)(m:bk):xP z m m:=⟨AA,λ_ _ _ h=>h⟩
theorem xP.trans{z:bU}{a b c:bk}(h:xP z a b)(d:xP z b c):xP z a c:=⟨λe=>vad (h.1 e) (d.1 e),λv o e n=>d.2 v o e (h.2 v o e n)⟩
structure lE(x y:bU)(m m1:bk)(f f1:Nat):Prop where
 inv:∀(xs:List bU)(i:Nat),xs[i]?=some x->dl m xs->dl m1 (xs.set i y)
 fuel:∀(xs:List bU)(i:Nat),xs[i]?=some x->dl m xs->f1+2*qh m1 (xs.set i y)+1<=f+2*qh m xs
 hV:∀(xs:List bU)(i j:Nat)(z:bU),dl m xs->xs[i]?=some x->j≠i->xs[j]?=some z->xP z m m1
section
variable{m:bk}{f f1:Nat}
def qi{xs:List bU}{i:Nat}{x:bU}(hi:xs[i]?=some x)(m1:bk)(y:bU):qh m1 (xs.set i y)+dR x+ep x+m.sema=qh m xs+dR y+ep y+m1.sema:=by grind[oN,qh]
def wj{z:bU}{m1:bk}(hk:m.k<=m1.k)(a:m1.jq->m.jq/\m1.gm=m.gm):xP z m m1:=⟨λ_=>hk,AA⟩
def sj(a:f1<f)(x:bU):lE x x m m f f1:=by
 have e:∀(xs:List bU)(i:Nat),xs[i]?=some x->xs.set i x=xs:=λxs i hi=>by apply vca;grind
 exact⟨AA,AA,λ_ _ _ z _ _ _ _=>.refl z m⟩
def akJ(a:f1<f):lE .idle .l5 m m f f1:=
 ⟨λxs i hi h=>h.start hi,λxs i hi _=>by have:=qi (m:=m) hi m .l5;grind[dR,ep],λ_ _ _ z _ _ _ _=>.refl z m⟩
def RA{x:bU}(a:x=.l5\/x=.jc)(b:m.L=false)(hS:m.S=false)(c:f1<f):lE x .own m {m with L:=true,W:=tz x m.W} f f1:=
 ⟨λxs i hi h=>h.akz hi a b hS,λxs i hi _=>by
  have:=qi (m:=m) hi {m with L:=true,W:=tz x m.W} .own;rcases a with rfl|rfl<;>simp[dR,ep]at this⊢ <;>omega,
  λ_ _ _ z _ _ _ _=>wj JT (λe=>absurd e.1 Ad)⟩
def Yp(hq:m.L=true\/m.S=true)(a:f1<f):lE .l5 .jX m {m with k:=m.k+1} f f1:=
 ⟨λxs i hi h=>h.queue hi hq,λxs i hi _=>by have:=qi (m:=m) hi {m with k:=m.k+1} .jX;grind[dR,ep],
  λ_ _ _ z _ _ _ _=>wj (vdu _) (λe=>by obtain⟨c,_,b,_⟩:=e;grind)⟩
def Yq(sv:Bool)(a:m.L=true)(b:f1<f):lE .jc .jX m {m with k:=m.k+1,W:=false,S:=sv} f f1:=
 ⟨λxs i hi h=>h.akA hi sv a,λxs i hi _=>by have:=qi (m:=m) hi {m with k:=m.k+1,W:=false,S:=sv} .jX;grind[dR,ep],
  λ_ _ _ z _ _ _ _=>wj (vdu _) (λe=>absurd e.1 AA)⟩
def akK(b:m.L=true)(hS:m.S=false)(a:m.W=false)(c:f1<f):lE .l5 .jc m {m with W:=true} f f1:=
 ⟨λxs i hi h=>h.akB hi b hS a,λxs i hi _=>by have:=qi (m:=m) hi {m with W:=true} .jc;grind[dR,ep],
  λ_ _ _ z _ _ _ _=>wj JT (λe=>absurd e.1 AA)⟩
def akL(hS:m.S=false)(hs:0<m.sema)(a:f1<f+2):lE .jX .jc m {m with sema:=m.sema-1} f f1:=
 ⟨λxs i hi h=>h.akC hi hS hs,λxs i hi _=>by have:=qi (m:=m) hi {m with sema:=m.sema-1} .jc;grind[dR,ep],
  λ_ _ _ z _ _ _ _=>wj JT (λe=>⟨e,Y⟩)⟩
def akM(hS:m.S=true)(hs:0<m.sema)(a:f1<f+2):lE .jX .hand m {m with sema:=m.sema-1} f f1:=
 ⟨λxs i hi h=>h.akD hi hS hs,λxs i hi _=>by have:=qi (m:=m) hi {m with sema:=m.sema-1} .hand;grind[dR,ep],
  λ_ _ _ z _ _ _ _=>wj JT (λe=>⟨e,Y⟩)⟩
def akN(clear:Bool)(hc:clear=false->2<=m.k)(c:f1<f):lE .hand .own m {m with L:=true,k:=m.k-1,S:= !clear} f f1:=
 ⟨λxs i hi h=>h.handed hi clear hc,λxs i hi _=>by have:=qi (m:=m) hi {m with L:=true,k:=m.k-1,S:= !clear} .own;grind[dR,ep],
  λxs i j z h hi b a=>⟨λe=>by
   subst e;have:=Rw fp xs i j .hand .hand hi a (Ne.symm b);have d:=(h.IF hi).2.2.2.2.2.1;grind[fp],λ_ _ _ _ e=>absurd e.1.1 Ad⟩⟩
def akO(hS:m.S=true)(a:f1+2<f):lE .own .ps m {m with L:=false} f f1:=
 ⟨λxs i hi h=>h.akE hi hS,λxs i hi _=>by have:=qi (m:=m) hi {m with L:=false} .ps;grind[dR,ep],
  λ_ _ _ z _ _ _ _=>wj JT (λe=>absurd e.2.2.1 AA)⟩
def akP(hS:m.S=false)(hk:m.k=0)(a:f1<f):lE .own .idle m {m with L:=false} f f1:=
 ⟨λxs i hi h=>h.akF hi hS hk,λxs i hi _=>by have:=qi (m:=m) hi {m with L:=false} .idle;grind[dR,ep],
  λ_ _ _ z _ _ _ _=>wj JT (λe=>absurd e.2.2.2 AA)⟩
def akQ(hS:m.S=false)(c:f1<f):lE .own (.eI (m.gm+1) ({m with L:=false}:bk).word) m {m with L:=false,gm:=m.gm+1} f f1:=
 ⟨λxs i hi h=>h.akG hi hS,λxs i hi _=>by have:=qi (m:=m) hi {m with L:=false,gm:=m.gm+1} (.eI (m.gm+1) ({m with L:=false}:bk).word);grind[dR,ep],
  λxs i j z h hi b a=>⟨AA,λv o e _ d=>by
   subst e;have:=(h.eI j v o a).1;grind⟩⟩
def akR{v o:Nat}(a:m.jq)(d:f1+2<f):lE (.eI v o) .qg m {m with k:=m.k-1,W:=true} f f1:=
 ⟨λxs i hi h=>h.Ry hi a,λxs i hi _=>by have:=qi (m:=m) hi {m with k:=m.k-1,W:=true} .qg;grind[dR,ep],
  λxs i j z h hi c b=>⟨λe=>by
   subst e;have:=(h.IF b).1;rw[a.2.2.1]at this;grind,AA⟩⟩
def akS{v o:Nat}(hn:¬(m.jq/\m.gm=v))(a:f1<f):lE (.eI v o) .idle m m f f1:=
 ⟨λxs i hi h=>h.leave hi hn,λxs i hi _=>by have:=qi (m:=m) hi m .idle;grind[dR,ep],λ_ _ _ z _ _ _ _=>.refl z m⟩
def akT(a:f1<f):lE .qg .idle m {m with sema:=m.sema+1} f f1:=
 ⟨λxs i hi h=>h.akH hi,λxs i hi _=>Fy,λ_ _ _ z _ _ _ _=>wj JT (λe=>⟨e,Y⟩)⟩
def akU(a:f1<f):lE .ps .idle m {m with sema:=m.sema+1} f f1:=
 ⟨λxs i hi h=>h.akI hi,λxs i hi _=>Fy,λ_ _ _ z _ _ _ _=>wj JT (λe=>⟨e,Y⟩)⟩
end
end ag
namespace fq
inductive alf where
 |free
 |has (p:Nat)
 |half (p:Nat) (v:Value)
 |rel
 |nv
 |lb
inductive IM where
 |spawn (k:Nat) (pend:Bool)
 |pH
 |su
 |over
inductive At where
 |main (s:IM)
 |work (s:alf) (put:uae)
 |gone (put:uae)
 |old
structure co where
 aR:Nat
 eg:Bool
 gp:Nat
 taken:Nat
 came:Nat
 done:List Value
 least:Option Nat
def gh:At->Nat
 | .main (.spawn _ true)=>1
 | .work .free _ | .work (.has _) _ | .work (.half _ _) _ | .work .rel _=>1
 | _=>0
def gq:At->Nat| .work .nv _=>1| _=>0
def gy:At->Nat| .work .lb _=>1| _=>0
def xR:At->Bool
 | .work .rel _ | .work .nv _ | .work .lb _ | .gone _=>true
 | _=>false
def nw:At->List (Nat×Value)
 | .work _ l| .gone l=>l
 | _=>[]
def hand:At->List Nat
 | .work (.has p) _ | .work (.half p _) _=>[p]
 | _=>[]
def laid:At->List (Nat×Value)
 | .work (.half p v) l=>(p,v)::l
 | .work _ l| .gone l=>l
 | _=>[]
def dt(p:Nat)(a:At):Nat:=(hand a).count p+((nw a).map (·.1)).count p
def du(p:Nat)(a:At):Nat:=((nw a).map (·.1)).count p
def c3(f:At->Nat)(aA:List At):Nat:=(aA.map f).sum
theorem tC(f:At->Nat):∀(aA:List At)(i:Nat)(x y:At),aA[i]?=some x->c3 f (aA.set i y)+f x=c3 f aA+f y
 | [],i,x,y,h=>AA
 |a::aA,0,x,y,h=>by grind[c3]
 |a::aA,i+1,x,y,h=>by have:=tC f aA i x y EJ;simp[c3]at this⊢;omega
theorem nx(f:At->Nat):∀(aA:List At)(i:Nat)(x:At),aA[i]?=some x->f x<=c3 f aA
 | [],i,x,h=>AA
 |a::aA,0,x,h=>by grind[c3]
 |a::aA,i+1,x,h=>by have:=nx f aA i x EJ;simp[c3]at this⊢;omega
def alg(f:At->Nat)(aA:List At)(y:At):c3 f (aA++[y])=c3 f aA+f y:=by simp[c3]
theorem Mo(f:At->Nat):∀(aA:List At),(∀(i:Nat) x,aA[i]?=some x->f x=0)->c3 f aA=0
 | [],_=>by simp[c3]
 |a::aA,h=>by have c:=h 0 a Ad;have b:=Mo f aA λi x hi=>h (i+1) x IL;simp[c3]at b⊢;omega
def jb(f:uas):Nat->Nat
 |0=>0
 |n+1=>jb f n+f n
theorem RV{f g:uas}:∀{n:Nat},(∀p,p<n->f p<=g p)->jb f n<=jb g n
 |0,_=>vac _
 |n+1,h=>by have:=RV (n:=n) λp a=>h p AP;grind[jb]
theorem IN{f g:uas}:∀{n:Nat},(∀p,p<n->f p=g p)->jb f n=jb g n
 |0,_=>rfl
 |n+1,h=>by have c:=IN (n:=n) λp a=>h p AP;have b:=h n AP;simp[jb];omega
theorem Yx{f g:uas}{q d:Nat}:∀{n:Nat},q<n->(∀p,p≠q->g p=f p)->g q=f q+d->jb g n=jb f n+d
 |0,h,_,_=>AP
 |n+1,h,b,a=>by
  simp[jb];by_cases e:q=n
  .grind[IN]
  .have:=Yx (n:=n) AP b a;grind
theorem Yy{f:uas}{n:Nat}:∀{m:Nat},n<=m->(∀p,n<=p->p<m->f p=0)->jb f m=jb f n
 |0,h,_=>by rw[Nat.le_zero.1 h]
 |m+1,h,a=>by
  by_cases e:n=m+1
  .rw[e]
  .rw[jb,a m AP AP,Yy AP λp b c=>a p b AP];rfl
def uH(s:IM)(b:co)(aA:List At):Prop:=
 match s with
 | .spawn _ _ | .pH=>b.eg=false/\b.gp=0/\c3 gq aA=0/\c3 gy aA=0
 | .su=>(b.eg=true/\b.gp=0/\c3 gy aA=0/\((0<b.aR/\c3 gq aA=0)\/(b.aR=0/\c3 gq aA=1)))\/(b.eg=false/\b.aR=0/\c3 gq aA=0/\b.gp+c3 gy aA=1)
 | .over=>b.eg=false/\b.aR=0/\b.gp=0/\c3 gq aA=0/\c3 gy aA=0
def RX(m:Nat)(aA:List At):Prop:=∀k q,aA[0]?=some (.main (.spawn k q))->aA.length=m+k
def Yz:At->Bool
 | .work _ _ | .gone _=>true
 | _=>false
def eh(m:Nat)(aA:List At):Prop:=∀s,aA[0]?=some (.main s)->(∃q,s=.spawn 0 q)\/∃a,aA[m]?=some a/\Yz a=true
def Low(N:Nat)(cj:ubd)(L:ubg)(put:uas):Prop:=(∀q,L=some q->cj q=true/\q<N)/\∀p,cj p=true->0<put p->∃q,L=some q/\q<=p
def oc(N:Nat)(b:co):Prop:=N<=b.taken\/300<b.came
def ri{N:Nat}{b b':co}(h:oc N b)(a:b.taken<=b'.taken/\b.came<=b'.came):oc N b':=h.imp (λx=>vad x a.1) λx=>vap x a.2
structure cN(N:Nat)(rows:uas)(cj:ubd)(b:co)(aA:List At):Prop where
 od:RX (rows N) aA
 sw:eh (rows N) aA
 main:∃s,aA[0]?=some (.main s)/\uH s b aA
 only:∀(j:Nat) s,aA[j]?=some (.main s)->j=0
 aR:b.aR=c3 gh aA
 aT:b.taken<=N
 len:b.done.length=N/\∀p,b.taken<=p->p<N->b.done[p]?=some (.N)
 own:∀p,c3 (dt p) aA=if p<b.taken then 1 else 0
 val:∀(j:Nat) a,aA[j]?=some a->∀pv∈laid a,cj pv.1=false->b.done[pv.1]?=some pv.2
 came:b.came=jb (λp=>c3 (du p) aA*rows p) N/\Low N cj b.least λp=>c3 (du p) aA
 dK:(∃(j:Nat)(a:At),aA[j]?=some a/\xR a=true)->oc N b
variable{v:Value}
section
variable{N:Nat}{rows:uas}{cj:ubd}{b:co}{aA:List At}{i:Nat}
def wm{m:Nat}{x y:At}(h:RX m aA)(hi:aA[i]?=some x)(c:∀k q,y=.main (.spawn k q)->∃a,x=.main (.spawn k a)):RX m (aA.set i y):=by
 intro k q hk;rw[vej];have b:i<aA.length:=(vab.1 hi).1;by_cases e:i=0
 .subst e;rw[vcg b]at hk;obtain⟨a,rfl⟩:=c k q AA;exact h k a hi
 .rw[vba e]at hk;exact h k q hk
def xS{m:Nat}{x y:At}(h:eh m aA)(hi:aA[i]?=some x)(h0:i≠0)(b:Yz y=true):eh m (aA.set i y):=by intro s hs;rw[vba h0]at hs;refine(h s hs).imp id λ⟨a,d,c⟩=>?_;grind
def alh{m:Nat}{s c:IM}(h:eh m aA)(hi:aA[0]?=some (.main s))(hs:∀q,s=.spawn 0 q->∃g,c=.spawn 0 g):eh m (aA.set 0 (.main c)):=by
 intro i f;have b:0<aA.length:=(vab.1 hi).1;rw[vcg b]at f;cases f;refine(h s hi).imp AA λ⟨a,e,d⟩=>⟨a,?_,d⟩;have:0≠m:=by rintro rfl;rw[hi]at e;cases e;cases d
 grind
def RY(p:Nat)(a:At):du p a<=dt p a:=Nat.le_add_left _ _
theorem Mp{f g:At->Nat}(h:∀a,f a<=g a):∀(aA:List At),c3 f aA<=c3 g aA
 | []=>by simp[c3]
 |a::aA=>by have:=Mp h aA;grind[c3]
def cN.ali(h:cN N rows cj b aA):b.came<=jb rows N:=by rw[h.came.1];refine RV λp _=>?_;have c:=Mp (RY p) aA;have a:=h.own p;grind[Nat.le_one_iff_eq_zero_or_eq_one]
def xT{x:At}(h:cN N rows cj b aA)(hi:aA[i]?=some x)(a:∀s,x≠ .main s):i≠0:=by rintro rfl;obtain⟨s,hs,_⟩:=h.main;grind
theorem YA(f:At->Nat):∀(aA:List At)(i j:Nat)(x y:At),aA[i]?=some x->aA[j]?=some y->i≠j->f x+f y<=c3 f aA
 | [],i,j,x,y,h,_,_=>AA
 |a::aA,0,0,x,y,_,_,h=>absurd Y h
 |a::aA,0,j+1,x,y,c,b,_=>by simp at c b;subst c;have:=nx f aA j y b;grind[c3]
 |a::aA,i+1,0,x,y,c,b,_=>by simp at c b;subst b;have:=nx f aA i x c;grind[c3]
 |a::aA,i+1,j+1,x,y,c,b,h=>by have:=YA f aA i j x y FZ (by simpa using b) AP;simp[c3]at this⊢;omega
def alj{a:At}{p:Nat}(h:(p,v)∈laid a):1<=dt p a:=by
 unfold dt;cases a with
 |main s=>simp[laid]at h
 |old=>simp[laid]at h
 |gone l=>have:p∈l.map (·.1):=vbh.2 ⟨_,h,Y⟩;grind[nw]
 |work s l=>
  have key:∀{l:uae},(p,v)∈l->1<=(l.map (·.1)).count p:=λh=>ven.2 AA;cases s with
  |half q u=>
   simp[laid]at h;rcases h with⟨rfl,rfl⟩|h
   .simp[hand]
   grind[nw]
  | _=>have:=key (show(p,v)∈l from h);grind[nw]
theorem IP{s:IM}{b b1:co}{aA a:List At}(f:b1.aR=b.aR)(e:b1.eg=b.eg)(d:b1.gp=b.gp)(c:c3 gq a=c3 gq aA)(g:c3 gy a=c3 gy aA)(h:uH s b aA):uH s b1 a:=by simp_all[uH]
def iP{aA:List At}{i j:Nat}{x y a:At}(hi:aA[i]?=some x)(h:(aA.set i y)[j]?=some a):(j=i/\a=y)\/(j≠i/\aA[j]?=some a):=by grind
def cN.take(h:cN N rows cj b aA){l:uae}(a7:b.taken<N)(hi:aA[i]?=some (.work .free l)):cN N rows cj {b with taken:=b.taken+1} (aA.set i (.work (.has b.taken) l)):=by
 have h0:i≠0:=xT h hi Ad;have c:=λf=>tC f aA i (.work .free l) (.work (.has b.taken) l) hi;have c1:=c gh;have bH:=c gq;have dB:=c gy;simp only[gh,gq,gy]at c1 bH dB;have hc:=h.aR;obtain⟨s,hs,v⟩:=h.main;refine⟨wm h.od hi AA,xS h.sw hi h0 Y,⟨s,AA,?_⟩,λj s' g=>?_,AA,AA,⟨h.len.1,λp r q=>h.len.2 p (Nat.le_of_succ_le r) q⟩,λd=>?_,λj a g pv k m=>?_,?_,λ⟨j,a,g,o⟩=>?_⟩
 .grind[IP]
 .rcases iP hi g with⟨_,e⟩|⟨_,e⟩
  .cases e
  .exact h.only j s' e
 .have:=c (dt d);have e:=h.own d;simp only[dt,hand,nw,List.count_nil,List.count_singleton]at this;simp only;by_cases u:d=b.taken
  .grind
  grind
 .rcases iP hi g with⟨rfl,rfl⟩|⟨n,e⟩
  .exact h.val j _ hi pv k m
  .exact h.val j a e pv k m
 .have e:∀d,c3 (du d) (aA.set i (.work (.has b.taken) l))=c3 (du d) aA:=λd=>by have:=c (du d);have t:du d (.work (.has b.taken) l)=du d (.work .free l):=rfl;grind
  simp only[e];exact h.came
 .rcases iP hi g with⟨rfl,rfl⟩|⟨_,e⟩
  .simp[xR]at o
  .exact(h.dK AA).imp (λx=>Nat.le_succ_of_le x) id
def cN.lay(h:cN N rows cj b aA){p:Nat}{l:uae}(hi:aA[i]?=some (.work (.has p) l)):cN N rows cj {b with done:=b.done.set p v} (aA.set i (.work (.half p v) l)):=by
 have h0:i≠0:=xT h hi Ad;have c:=λf=>tC f aA i (.work (.has p) l) (.work (.half p v) l) hi;have c1:=c gh;have bH:=c gq;have dB:=c gy;simp only[gh,gq,gy]at c1 bH dB;have hc:=h.aR;obtain⟨s,hs,y⟩:=h.main;refine⟨wm h.od hi AA,xS h.sw hi h0 Y,⟨s,AA,?_⟩,λj s' k=>?_,AA,h.aT,⟨by simp;exact h.len.1,λq n w=>?_⟩,λg=>?_,λj a k pv m o=>?_,?_,λ⟨j,a,k,u⟩=>?_⟩
 .grind[IP]
 .rcases iP hi k with⟨_,e⟩|⟨_,e⟩
  .cases e
  .exact h.only j s' e
 .have e:=h.own p;have:=nx (dt p) aA i _ hi;have r:1<=dt p (.work (.has p) l):=HR;have d:p≠q:=by rintro rfl;rw[vbq (Nat.not_lt.2 n)]at e;omega
  simp only;rw[vba d];exact h.len.2 q n w
 .have:=c (dt g);have e:=h.own g;have t:dt g (.work (.half p v) l)=dt g (.work (.has p) l):=rfl;grind
 .rcases iP hi k with⟨rfl,rfl⟩|⟨d,e⟩
  .have A:p<b.done.length:=by have e:=h.own p;have:=nx (dt p) aA j _ hi;have r:1<=dt p (.work (.has p) l):=HR;rw[h.len.1];have:=h.aT;grind
   simp[laid]at m;rcases m with rfl|m
   .grind
   .have d:pv.1≠p:=λe=>by have n:1<=(l.map (·.1)).count p:=ven.2 AA;have x:=h.own p;grind[nx,dt,hand,nw]
    simp only;rw[vba (Ne.symm d)];exact h.val j _ hi pv m o
  .have d:pv.1≠p:=λz=>by have n:1<=dt p a:=alj (v:=pv.2) AA;have:=YA (dt p) aA i j _ _ hi e (Ne.symm d);have r:1<=dt p (.work (.has p) l):=HR;have x:=h.own p;grind
   simp only;rw[vba (Ne.symm d)];exact h.val j a e pv m o
 .have e:∀g,c3 (du g) (aA.set i (.work (.half p v) l))=c3 (du g) aA:=λg=>by have:=c (du g);have t:du g (.work (.half p v) l)=du g (.work (.has p) l):=rfl;grind
  simp only[e];exact h.came
 .rcases iP hi k with⟨rfl,rfl⟩|⟨_,e⟩
  .simp[xR]at u
  .exact h.dK AA
def cN.count(h:cN N rows cj b aA){p:Nat}{l:uae}(t:cj p=false)(hi:aA[i]?=some (.work (.half p v) l)):cN N rows cj {b with came:=b.came+rows p} (aA.set i (.work .free ((p,v)::l))):=by
 have h0:i≠0:=xT h hi Ad;have c:=λf=>tC f aA i (.work (.half p v) l) (.work .free ((p,v)::l)) hi;have c1:=c gh;have bH:=c gq;have dB:=c gy;simp only[gh,gq,gy]at c1 bH dB;have hc:=h.aR;obtain⟨s,hs,r⟩:=h.main;refine⟨wm h.od hi AA,xS h.sw hi h0 Y,⟨s,AA,?_⟩,λj s' g=>?_,AA,h.aT,h.len,λd=>?_,λj a g pv k m=>?_,?_,λ⟨j,a,g,q⟩=>?_⟩
 .grind[IP]
 .rcases iP hi g with⟨_,e⟩|⟨_,e⟩
  .cases e
  .exact h.only j s' e
 .have:=c (dt d);have e:=h.own d;grind[dt,hand,nw]
 .rcases iP hi g with⟨rfl,rfl⟩|⟨o,e⟩
  .exact h.val j _ hi pv k m
  .exact h.val j a e pv k m
 .have w:p<N:=by have e:=h.own p;have:=nx (dt p) aA i _ hi;have u:1<=dt p (.work (.half p v) l):=HR;have:=h.aT;grind
  simp only;refine⟨?_,h.came.2.1,λd n h0=>h.came.2.2 d n ?_⟩
  .rw[h.came.1];grind[Yx,du,nw]
  .have:=c (du d);grind[du,nw]
 .rcases iP hi g with⟨rfl,rfl⟩|⟨_,e⟩
  .simp[xR]at q
  .exact(h.dK AA).imp id λx=>vap x (vcx _ _)
def cN.low(h:cN N rows cj b aA){p:Nat}{l:uae}(j:cj p=true)(hq:∀q,b.least=some q->p<=q)(hi:aA[i]?=some (.work (.has p) l)):cN N rows cj {b with least:=some p} (aA.set i (.work (.has p) l)):=by
 have e:aA.set i (.work (.has p) l)=aA:=by obtain⟨c,a⟩:=vab.1 hi;rw[<-a];exact List.set_getElem_self c
 rw[e];have g:p<N:=by have e:=h.own p;have:=nx (dt p) aA i _ hi;have k:1<=dt p (.work (.has p) l):=HR;have:=h.aT;grind
 exact⟨h.od,h.sw,h.main,h.only,h.aR,h.aT,h.len,h.own,h.val,⟨h.came.1,AA,λf d h0=>by obtain⟨q,c,a⟩:=h.came.2.2 f d h0;exact⟨p,Y,vad (hq q c) a⟩⟩,h.dK⟩
def cN.fail(h:cN N rows cj b aA){p:Nat}{l:uae}(w:cj p=true)(t:rows p=0)(hq:∃q,b.least=some q/\q<=p)(hi:aA[i]?=some (.work (.has p) l)):cN N rows cj b (aA.set i (.work .free ((p,v)::l))):=by
 have h0:i≠0:=xT h hi Ad;have c:=λf=>tC f aA i (.work (.has p) l) (.work .free ((p,v)::l)) hi;have c1:=c gh;have bH:=c gq;have dB:=c gy;simp only[gh,gq,gy]at c1 bH dB;have hc:=h.aR;obtain⟨s,hs,u⟩:=h.main;refine⟨wm h.od hi AA,xS h.sw hi h0 Y,⟨s,AA,?_⟩,λj s' g=>?_,AA,h.aT,h.len,λd=>?_,λj a g pv k m=>?_,?_,λ⟨j,a,g,r⟩=>?_⟩
 .grind[IP]
 .rcases iP hi g with⟨_,e⟩|⟨_,e⟩
  .cases e
  .exact h.only j s' e
 .have:=c (dt d);have e:=h.own d;grind[dt,hand,nw]
 .rcases iP hi g with⟨rfl,rfl⟩|⟨o,e⟩
  .simp only[laid,vbn]at k;rcases k with rfl|k
   .grind
   .exact h.val j _ hi pv k m
  .exact h.val j a e pv k m
 .refine⟨?_,h.came.2.1,λd n x=>?_⟩
  .rw[h.came.1];refine IN λd _=>?_;have:=c (du d);by_cases e:d=p
   .grind
   .grind[du,nw]
  .by_cases e:d=p
   .grind
   .have:=c (du d);exact h.came.2.2 d n (by grind[du,nw])
 .rcases iP hi g with⟨rfl,rfl⟩|⟨_,e⟩
  .simp[xR]at r
  .exact h.dK AA
def cN.release(h:cN N rows cj b aA){l:uae}(a7:oc N b)(hi:aA[i]?=some (.work .free l)):cN N rows cj b (aA.set i (.work .rel l)):=by
 have h0:i≠0:=xT h hi Ad;have c:=λf=>tC f aA i (.work .free l) (.work .rel l) hi;have c1:=c gh;have bH:=c gq;have dB:=c gy;simp only[gh,gq,gy]at c1 bH dB;have hc:=h.aR;obtain⟨s,hs,p⟩:=h.main;refine⟨wm h.od hi AA,xS h.sw hi h0 Y,⟨s,AA,?_⟩,λj s' g=>?_,AP,h.aT,h.len,λd=>?_,λj a g pv k m=>?_,?_,λ⟨j,a,g,q⟩=>?_⟩
 .grind[IP]
 .rcases iP hi g with⟨_,e⟩|⟨_,e⟩
  .cases e
  .exact h.only j s' e
 .have:=c (dt d);have e:=h.own d;have n:dt d (.work .rel l)=dt d (.work .free l):=rfl;grind
 .rcases iP hi g with⟨rfl,rfl⟩|⟨o,e⟩
  .exact h.val j _ hi pv k m
  .exact h.val j a e pv k m
 .have e:∀d,c3 (du d) (aA.set i (.work .rel l))=c3 (du d) aA:=λd=>by have:=c (du d);have n:du d (.work .rel l)=du d (.work .free l):=rfl;grind
  simp only[e];exact h.came
 grind
theorem cN.out(h:cN N rows cj b aA){l:uae}(t:b.eg=false\/2<=b.aR)(hi:aA[i]?=some (.work .rel l)):cN N rows cj {b with aR:=b.aR-1} (aA.set i (.gone l)):=by
 have h0:i≠0:=xT h hi Ad;have c:=λf=>tC f aA i (.work .rel l) (.gone l) hi;have c1:=c gh;have bH:=c gq;have dB:=c gy;simp only[gh,gq,gy]at c1 bH dB;have hc:=h.aR;obtain⟨s,hs,g⟩:=h.main;refine⟨wm h.od hi AA,xS h.sw hi h0 Y,⟨s,AA,?_⟩,λj s' m=>?_,AA,h.aT,h.len,λd=>?_,λj a m pv n o=>?_,?_,λ⟨j,a,m,u⟩=>?_⟩
 .cases s with|su=>grind[uH]|over=>grind[uH]|spawn k q=>exact⟨g.1,g.2.1,by have:=g.2.2.1;omega,by have:=g.2.2.2;omega⟩|pH=>exact⟨g.1,g.2.1,by have:=g.2.2.1;omega,by have:=g.2.2.2;omega⟩
 .rcases iP hi m with⟨_,e⟩|⟨_,e⟩
  .cases e
  .exact h.only j s' e
 .have:=c (dt d);have e:=h.own d;have p:dt d (.gone l)=dt d (.work .rel l):=rfl;grind
 .rcases iP hi m with⟨rfl,rfl⟩|⟨r,e⟩
  .exact h.val j _ hi pv n o
  .exact h.val j a e pv n o
 .have e:∀d,c3 (du d) (aA.set i (.gone l))=c3 (du d) aA:=λd=>by have:=c (du d);have p:du d (.gone l)=du d (.work .rel l):=rfl;grind
  simp only[e];exact h.came
 .rcases iP hi m with⟨rfl,rfl⟩|⟨_,e⟩
  .exact h.dK ⟨_,_,hi,Y⟩
  .exact h.dK AA
def cN.alk(h:cN N rows cj b aA){l:uae}(q:b.eg=true)(p:b.aR=1)(hi:aA[i]?=some (.work .rel l)):cN N rows cj {b with aR:=b.aR-1} (aA.set i (.work .nv l)):=by
 have h0:i≠0:=xT h hi Ad;have c:=λf=>tC f aA i (.work .rel l) (.work .nv l) hi;have c1:=c gh;have bH:=c gq;have dB:=c gy;simp only[gh,gq,gy]at c1 bH dB;have hc:=h.aR;obtain⟨s,hs,r⟩:=h.main;refine⟨wm h.od hi AA,xS h.sw hi h0 Y,⟨s,AA,?_⟩,λj s' g=>?_,AA,h.aT,h.len,λd=>?_,λj a g pv k m=>?_,?_,λ⟨j,a,g,t⟩=>?_⟩
 .simp_all[uH]
 .rcases iP hi g with⟨_,e⟩|⟨_,e⟩
  .cases e
  .exact h.only j s' e
 .have:=c (dt d);have e:=h.own d;have n:dt d (.work .nv l)=dt d (.work .rel l):=rfl;grind
 .rcases iP hi g with⟨rfl,rfl⟩|⟨o,e⟩
  .exact h.val j _ hi pv k m
  .exact h.val j a e pv k m
 .have e:∀d,c3 (du d) (aA.set i (.work .nv l))=c3 (du d) aA:=λd=>by have:=c (du d);have n:du d (.work .nv l)=du d (.work .rel l):=rfl;grind
  simp only[e];exact h.came
 .rcases iP hi g with⟨rfl,rfl⟩|⟨_,e⟩
  .exact h.dK ⟨_,_,hi,Y⟩
  .exact h.dK AA
def cN.alm(h:cN N rows cj b aA){l:uae}(hi:aA[i]?=some (.work .nv l)):cN N rows cj {b with eg:=false} (aA.set i (.work .lb l)):=by
 have h0:i≠0:=xT h hi Ad;have c:=λf=>tC f aA i (.work .nv l) (.work .lb l) hi;have c1:=c gh;have bH:=c gq;have dB:=c gy;simp only[gh,gq,gy]at c1 bH dB;have hc:=h.aR;obtain⟨s,hs,m⟩:=h.main;refine⟨wm h.od hi AA,xS h.sw hi h0 Y,⟨s,AA,?_⟩,λj s' g=>?_,AA,h.aT,h.len,λd=>?_,λj a g pv n o=>?_,?_,λ⟨j,a,g,u⟩=>?_⟩
 .have r:=nx gq aA i _ hi;simp[gq]at r;cases s with|su=>simp only[uH]at m⊢;grind|over=>have:=m.2.2.2;omega|spawn k q=>have:=m.2.2;omega|pH=>have:=m.2.2;omega
 .rcases iP hi g with⟨_,e⟩|⟨_,e⟩
  .cases e
  .exact h.only j s' e
 .have:=c (dt d);have e:=h.own d;have p:dt d (.work .lb l)=dt d (.work .nv l):=rfl;grind
 .rcases iP hi g with⟨rfl,rfl⟩|⟨t,e⟩
  .exact h.val j _ hi pv n o
  .exact h.val j a e pv n o
 .have e:∀d,c3 (du d) (aA.set i (.work .lb l))=c3 (du d) aA:=λd=>by have:=c (du d);have p:du d (.work .lb l)=du d (.work .nv l):=rfl;grind
  simp only[e];exact h.came
 .rcases iP hi g with⟨rfl,rfl⟩|⟨_,e⟩
  .exact h.dK ⟨_,_,hi,Y⟩
  .exact h.dK AA
def cN.raise(h:cN N rows cj b aA){l:uae}(hi:aA[i]?=some (.work .lb l)):cN N rows cj {b with gp:=b.gp+1} (aA.set i (.gone l)):=by
 have h0:i≠0:=xT h hi Ad;have c:=λf=>tC f aA i (.work .lb l) (.gone l) hi;have c1:=c gh;have bH:=c gq;have dB:=c gy;simp only[gh,gq,gy]at c1 bH dB;have hc:=h.aR;obtain⟨s,hs,m⟩:=h.main;refine⟨wm h.od hi AA,xS h.sw hi h0 Y,⟨s,AA,?_⟩,λj s' g=>?_,AA,h.aT,h.len,λd=>?_,λj a g pv n o=>?_,?_,λ⟨j,a,g,u⟩=>?_⟩
 .have r:=nx gy aA i _ hi;simp[gy]at r;cases s with|su=>grind[uH]|over=>have:=m.2.2.2;omega|spawn k q=>have:=m.2.2;omega|pH=>have:=m.2.2;omega
 .rcases iP hi g with⟨_,e⟩|⟨_,e⟩
  .cases e
  .exact h.only j s' e
 .have:=c (dt d);have e:=h.own d;have p:dt d (.gone l)=dt d (.work .lb l):=rfl;grind
 .rcases iP hi g with⟨rfl,rfl⟩|⟨t,e⟩
  .exact h.val j _ hi pv n o
  .exact h.val j a e pv n o
 .have e:∀d,c3 (du d) (aA.set i (.gone l))=c3 (du d) aA:=λd=>by have:=c (du d);have p:du d (.gone l)=du d (.work .lb l):=rfl;grind
  simp only[e];exact h.came
 .rcases iP hi g with⟨rfl,rfl⟩|⟨_,e⟩
  .exact h.dK ⟨_,_,hi,Y⟩
  .exact h.dK AA
def cN.IQ(h:cN N rows cj b aA){s d:IM}(hi:aA[0]?=some (.main s)){b1:co}(hc:b1.aR+gh (.main s)=b.aR+gh (.main d))(ht:b1.taken=b.taken)(hd:b1.done=b.done)(n:b1.came=b.came)(p:b1.least=b.least)(u:∀k q,d=.spawn k q->∃m,s=.spawn k m)(r:∀q,s=.spawn 0 q->∃m,d=.spawn 0 m)(hok:∀l,c3 gq l=c3 gq aA->c3 gy l=c3 gy aA->uH s b aA->uH d b1 l):cN N rows cj b1 (aA.set 0 (.main d)):=by
 have c:=λf=>tC f aA 0 (.main s) (.main d) hi;have c1:=c gh;have bH:=c gq;have dB:=c gy;have B:gq (.main s)=0/\gq (.main d)=0:=⟨Y,Y⟩;have A:gy (.main s)=0/\gy (.main d)=0:=⟨Y,Y⟩;have v:0<aA.length:=(vab.1 hi).1;obtain⟨s',hs,z⟩:=h.main;rw[hi]at hs;cases hs;have y:=h.aR;refine⟨wm h.od hi AA,alh h.sw hi r,AA,λj s' i=>?_,AP,by rw[ht];exact h.aT,by rw[hd,ht];exact h.len,λg=>?_,λj a i pv o x=>?_,?_,λ⟨j,a,i,w⟩=>?_⟩
 .rcases iP hi i with⟨e,_⟩|⟨_,e⟩
  .exact e
  .exact h.only j s' e
 .have:=c (dt g);have e:=h.own g;have t:dt g (.main s)=0/\dt g (.main d)=0:=⟨Y,Y⟩;grind
 .rw[hd];rcases iP hi i with⟨_,rfl⟩|⟨_,e⟩
  .simp[laid]at o
  .exact h.val j a e pv o x
 .have e:∀g,c3 (du g) (aA.set 0 (.main d))=c3 (du g) aA:=λg=>by have:=c (du g);have t:du g (.main s)=0/\du g (.main d)=0:=⟨Y,Y⟩;omega
  simp only[e];rw[n,p];exact h.came
 .show N<=b1.taken\/300<b1.came;rw[ht,n];rcases iP hi i with⟨_,rfl⟩|⟨_,e⟩
  .simp[xR]at w
  .exact h.dK AA
theorem cN.add(h:cN N rows cj b aA){k:Nat}(hi:aA[0]?=some (.main (.spawn k false))):cN N rows cj {b with aR:=b.aR+1} (aA.set 0 (.main (.spawn k true))):=
 h.IQ hi JF Y Y Y Y AA AA λe d c a=>⟨a.1,a.2.1,d.trans a.2.2.1,c.trans a.2.2.2⟩
def cN.waits(h:cN N rows cj b aA){k:Nat}(hk:0<k)(hi:aA[0]?=some (.main (.spawn k false))):cN N rows cj b (aA.set 0 (.main .pH)):=
 h.IQ hi JF Y Y Y Y AA AA λe d c a=>⟨a.1,a.2.1,d.trans a.2.2.1,c.trans a.2.2.2⟩
def cN.aln(h:cN N rows cj b aA)(hi:aA[0]?=some (.main .pH))(hc:0<b.aR):cN N rows cj {b with eg:=true} (aA.set 0 (.main .su)):=
 h.IQ hi JF Y Y Y Y AA AA λe d c a=>.inl ⟨Y,a.2.1,c.trans a.2.2.2,.inl ⟨hc,d.trans a.2.2.1⟩⟩
def cN.zero(h:cN N rows cj b aA)(hi:aA[0]?=some (.main .pH))(hc:b.aR=0):cN N rows cj b (aA.set 0 (.main .over)):=
 h.IQ hi JF Y Y Y Y AA AA λe d c a=>⟨a.1,hc,a.2.1,d.trans a.2.2.1,c.trans a.2.2.2⟩
def cN.Ry(h:cN N rows cj b aA)(hi:aA[0]?=some (.main .su))(hs:b.gp≠0):cN N rows cj {b with gp:=b.gp-1} (aA.set 0 (.main .over)):=
 h.IQ hi JF Y Y Y Y AA AA λf d g c=>by
  rcases c with⟨_,a,_⟩|⟨m1,a,e,i⟩
  .grind
  .exact⟨m1,a,AA,d.trans e,AP⟩
def cN.born(h:cN N rows cj b aA){k:Nat}(hi:aA[0]?=some (.main (.spawn k true))):cN N rows cj b (aA.set 0 (.main (.spawn (k+1) false))++[.work .free []]):=by
 have c:=λf=>tC f aA 0 (.main (.spawn k true)) (.main (.spawn (k+1) false)) hi;have d:=λf=>alg f (aA.set 0 (.main (.spawn (k+1) false))) (.work .free []);have c1:=c gh;have bH:=c gq;have dB:=c gy;have d1:=d gh;have y:=d gq;have x:=d gy;simp only[gh,gq,gy]at c1 bH dB d1 y x;have s:0<aA.length:=(vab.1 hi).1;obtain⟨s',hs,l⟩:=h.main;rw[hi]at hs;cases hs;have A:=h.aR;have get:∀{j:Nat}{a:At},(aA.set 0 (.main (.spawn (k+1) false))++[.work .free []])[j]?=some a->(j=0/\a=.main (.spawn (k+1) false))\/(j≠0/\aA[j]?=some a)\/(j=aA.length/\a=.work .free []):=by grind
 refine⟨λk' B D=>?_,λz t=>.inr ?_,⟨.spawn (k+1) false,AA,l.1,l.2.1,by have:=l.2.2.1;omega,by have:=l.2.2.2;omega⟩,λj s' i=>?_,AP,h.aT,h.len,λg=>?_,λj a i pv o u=>?_,?_,λ⟨j,a,i,m⟩=>?_⟩
 .have m:=h.od k true hi;grind
 .have m:=h.od k true hi;rcases h.sw _ hi with⟨q,e⟩|⟨a,n,r⟩
  .cases e;refine⟨.work .free [],?_,Y⟩;grind
  .have C:rows N<aA.length:=(vab.1 n).1;have t:0≠rows N:=by intro e;rw[<-e,hi]at n;cases n;cases r
   grind
 .rcases get i with⟨e,_⟩|⟨_,e⟩|⟨_,e⟩
  .exact e
  .exact h.only j s' e
  grind
 .have w:=c (dt g);have v:=d (dt g);have e:=h.own g;have p:dt g (.main (.spawn k true))=0/\dt g (.main (.spawn (k+1) false))=0/\dt g (.work .free [])=0:=⟨Y,Y,Y⟩;omega
 .rcases get i with⟨_,rfl⟩|⟨_,e⟩|⟨_,rfl⟩
  .simp[laid]at o
  .exact h.val j a e pv o u
  grind[laid]
 .have e:∀g,c3 (du g) (aA.set 0 (.main (.spawn (k+1) false))++[.work .free []])=c3 (du g) aA:=λg=>by have w:=c (du g);have v:=d (du g);have p:du g (.main (.spawn k true))=0/\du g (.main (.spawn (k+1) false))=0/\du g (.work .free [])=0:=⟨Y,Y,Y⟩;omega
  simp only[e];exact h.came
 .rcases get i with⟨_,rfl⟩|⟨_,e⟩|⟨_,rfl⟩
  .simp[xR]at m
  .exact h.dK AA
  grind[xR]
def qk:At->Prop
 | .gone _ | .old=>True
 | _=>False
def Mr(a:At)(b:co):Prop:=a=.main .su/\b.gp=0
def cN.alive(h:cN N rows cj b aA):∃(j:Nat)(a:At),aA[j]?=some a/\¬qk a/\¬Mr a b:=by
 obtain⟨s,hs,g⟩:=h.main;by_cases d:s=.su/\b.gp=0
 .obtain⟨rfl,l⟩:=d;apply vaw;intro hn;have all:∀(j:Nat)(a:At),aA[j]?=some a->qk a\/a=.main .su:=λj a i=>by apply vaw;intro hc;exact hn ⟨j,a,i,AA,λe=>hc (.inr e.1)⟩
  have z:∀f:At->Nat,(∀a,qk a->f a=0)->f (.main .su)=0->c3 f aA=0:=λf n m=>Mo f aA AA;have q:=z gh (λa c=>FX) Y;have p:=z gq (λa c=>FX) Y;have o:=z gy (λa c=>FX) Y;have hc:=h.aR;rcases g with⟨_,_,_,k⟩|⟨_,_,_,k⟩<;>omega
 .exact⟨0,_,hs,λe=>e,λe=>d ⟨by have:=e.1;grind,e.2⟩⟩
def cN.all(h:cN N rows cj b aA)(hi:aA[0]?=some (.main .over)):∀(j:Nat)(a:At),aA[j]?=some a->j=0\/qk a:=by intro j a c;obtain⟨s',hs,d⟩:=h.main;rw[hi]at hs;cases hs;have hc:=h.aR;have g:=nx gh aA j a c;have f:=nx gq aA j a c;have e:=nx gy aA j a c;have:=d.2.1;have:=d.2.2.2;cases a with|main s=>exact .inl (h.only j s c)|gone l=>exact .inr trivial|old=>exact .inr trivial|work s l=>cases s<;>simp only[gh,gq,gy]at g f e<;>omega
