import Derived.Test.YtnomloiacicoaaaGreatP00
import Derived.Conc.CrowdTrace
set_option linter.all false
set_option maxRecDepth 100000
set_option maxHeartbeats 16000000
namespace Go.Proofs.YtnomloiacicoaaaGreat
abbrev aR:=Go.World
abbrev cE:=Go.Program
def vab:=@List.getElem?_eq_some_iff
def vac:=@Nat.le_refl
def vad:=@Nat.le_trans
def vae:=@List.getElem_mem
def vaf:=@Option.getD_some
def vag:=@Bool.and_eq_true
def vah:=@Bool.false_eq_true
def vai:=@Option.map_eq_some_iff
def vak:=@Nat.lt_of_lt_of_le
def vam:=@Array.getElem?_setIfInBounds
def van:=@Option.some.inj
def vao:=@Array.getElem?_eq_some_iff
def vaq:=@List.getElem?_eq_getElem
def vas:=@Array.getElem?_eq_getElem
def vau:=@Array.all_eq_true_iff_forall_mem
def vaw:=@List.mem_cons
def vax:=@Nat.zero_le
def vay:=@Bool.toNat_le
def vaz:=@Classical.byContradiction
def vbc:=@Option.bind_eq_some_iff
def vbf:=@List.getElem?_map
def vbg:=@List.getElem?_set_ne
def vbh:=@Array.getElem?_modify
def vbi:=@Classical.skolem
def vbj:=@List.getElem_of_mem
def vbk:=@Array.replicate_succ
def vbl:=@List.mem_map
def vbm:=@Option.some.injEq
def vbo:=@List.take_of_length_le
def vbp:=@List.not_mem_nil
def vbq:=@Nat.eq_zero_or_pos
def vbr:=@Array.mem_of_getElem?
def vbs:=@Nat.zero_add
def vbu:=@List.all_cons
def vbw:=@List.ext_getElem?
def vbx:=@List.ext_getElem
def vby:=@if_neg
def vca:=@if_pos
def vcb:=@Array.getD_eq_getD_getElem?
def vcc:=@Nat.add_zero
def vcd:=@congrArg
def vcf:=@Array.getElem?_map
def vci:=@List.getElem_modify
def vck:=@List.getElem?_set_self
def vcl:=@List.length_append
def vcm:=@Array.ext_getElem?
def vcn:=@List.pairwise_iff_getElem
def vcp:=@List.getElem_append_left
def vcr:=@if_false
def vct:=@Nat.le_succ
def vcv:=@Option.bind_some
def vcx:=@if_true
def vcy:=@Option.map_some
def vcz:=@List.mem_append
def vda:=@List.map_append
def vdb:=@List.foldl_cons
def vdc:=@List.append_nil
def vdd:=@Array.getElem?_eq_none_iff
def vde:=@List.getElem_zipWith
def vdf:=@or_false
def vdg:=@List.length_cons
def vdh:=@List.all_eq_true
def vdj:=@List.take_succ_cons
def vdk:=@List.mem_map_of_mem
def vdo:=@List.range_succ
def vdp:=@List.nil_append
def vdq:=@List.length_set
def vdr:=@List.mem_singleton
def vds:=@List.getElem?_cons_zero
def vdt:=@List.getElem?_cons_succ
def vdu:=@List.take_succ_eq_append_getElem
def vdv:=@List.size_toArray
def vdw:=@Array.getElem?_setIfInBounds_ne
def vdx:=@List.mem_range
def vdz:=@Nat.lt_or_ge
def vee:=@Nat.le_add_right
def vef:=@List.getElem_map
def veg:=@List.cons_append
def vei:=@Array.mem_append
def vej:=@List.map_cons
def vem:=@Bool.or_eq_true
def veq:=@List.count_pos_iff
def ver:=@Bool.false_ne_true
def ves:=@List.take_zero
def vet:=@List.getElem_append_right
def veu:=@List.getElem?_append_left
def vev:=@Array.mapM_eq_mapM_toList
def vew:=@decide_eq_true_eq
def vey:=@Array.size_setIfInBounds
abbrev _root_.Go.Value.U:Go.Value:=Go.undef
abbrev _root_.Go.Item.R(o:Array Go.Oper)(l:List Nat):Go.Item:=.inRegion o l
abbrev _root_.Go.Addr.a(b o:Nat):Go.Addr:=⟨b,o,none⟩
abbrev dL:=Nat->Prop
abbrev dX:=Array Value
abbrev fF:=Array Oper
abbrev g7:=List (Int×Int)
abbrev hH:=List Frame
abbrev hV:=Value->aR->Prop
abbrev uaa:=TypeId
abbrev uab:=List Item
abbrev uac:=List Nat
abbrev uad:=List (Nat×Value)
abbrev uae:=Act->aR->Prop
abbrev uaf:=Nat->Value->(Nat->Prop)->aR->Prop
abbrev uag:=Option Addr
abbrev uah:=Operand->Value
abbrev uai:=List Value
abbrev uaj:=Goroutine
abbrev uak:=FuncId
abbrev ual:=Loc->Prop
abbrev uam:=Operand
abbrev uan:=Nat->Option Value
abbrev uao:=Exit->Act->aR->Prop
abbrev uap:=Array Bool
abbrev uaq:=Array TypeId
abbrev uar:=List (Nat×Obj)
abbrev uas:=Nat->Nat
abbrev uat:=Array Event
abbrev uau:=Nat->aR->Value->Prop
abbrev uav:=List (Value×Value)
abbrev uaw:=aR->Value->Prop
abbrev uax:=Nat->Goroutine->aR->Prop
abbrev uay:=Array Operand
abbrev uaz:=Array Goroutine
abbrev uba:=List Bool
abbrev ubb:=Option (Nat×Nat)
abbrev ubc:=List Oper
abbrev ubd:=TypeId->Prop
abbrev ube:=Nat->Bool
abbrev ubf:=Value->(Nat->Prop)->aR->Prop
abbrev ubg:=Option Nat
abbrev ubh:=Nat->Nat->Prop
abbrev ubi:=List Int×List (Int×Int)
abbrev ubj:=Nat->aR->Prop
abbrev ubk:=List Event
abbrev ubl:=Goroutine->Goroutine
abbrev ubm:=List Int
abbrev ubn:=Nat->Nat->aR->Value->Prop
abbrev ubo:=Nat->Value->Act->aR->Prop
abbrev ubp:=Array Bool->Act->aR->Prop
abbrev ubq:=aR->Value->aR->Prop
abbrev ubr:=Nat×Nat
abbrev ubs:=Int×Int
abbrev ubt:=Nat×Obj
abbrev ubu:=Nat->List Value
abbrev ubv:=Nat->Value
abbrev ubw:=Nat->Int
abbrev ubx:=Value×Nat
abbrev _root_.Go.Value.P(b o:Nat):Go.Value:=.pointer (some (.a b o))
abbrev _root_.Go.Value.S(b o l c:Nat):Go.Value:=.slice (some (.a b o)) l c
abbrev _root_.Go.Value.N:Go.Value:=.slice none 0 0
abbrev _root_.Go.Value.I(n:Int):Go.Value:=.int .i64 n
abbrev _root_.Go.Value.T:Go.Value:=.bool true
abbrev _root_.Go.Value.F:Go.Value:=.bool false
abbrev _root_.Go.Value.E:Go.Value:=.string ⟨#[]⟩
abbrev _root_.Go.World.hs(w:Go.World):Nat:=w.heap.size
namespace av
structure Ren where
 rel:Nat->Nat->Prop
 mine:Nat->Prop
def dR(ρ:Ren)(a a':Addr):Prop:=ρ.rel a.block a'.block/\a.off=a'.off/\a.spot=a'.spot
inductive ud(ρ:Ren):Fn->Fn->Prop
 |func (f:uak):ud ρ (.func f) (.func f)
 |yield {l l':Nat} (h:ρ.rel l l'):ud ρ (.yield l) (.yield l')
inductive au(ρ:Ren):Value->Value->Prop
 |bool (b:Bool):au ρ (.bool b) (.bool b)
 |int (k:IntKind) (n:Int):au ρ (.int k n) (.int k n)
 |string (s:ByteArray):au ρ (.string s) (.string s)
 |l_:au ρ (.pointer none) (.pointer none)
 |ptr {a a':Addr} (h:dR ρ a a'):au ρ (.pointer (some a)) (.pointer (some a'))
 |iH (l c:Nat):au ρ (.slice none l c) (.slice none l c)
 |slice {a a':Addr} (l c:Nat) (h:dR ρ a a'):au ρ (.slice (some a) l c) (.slice (some a') l c)
 |p8:au ρ (.map none) (.map none)
 |map {r r':Nat} (h:ρ.rel r r'):au ρ (.map (some r)) (.map (some r'))
 |p9:au ρ (.chan none) (.chan none)
 |func {fn qS:Fn} {a a' b b':dX} (h:ud ρ fn qS) (ha:a.size=a'.size) (hb:b.size=b'.size)
  (h1:∀(i:Nat)(v v':Value),a[i]?=some v->a'[i]?=some v'->au ρ v v') (h2:∀(i:Nat)(v v':Value),b[i]?=some v->b'[i]?=some v'->au ρ v v'):au ρ (.func fn a b) (.func qS a' b')
 |nilFunc:au ρ .nilFunc .nilFunc
 |iface (t:uaa) {v v':Value} (h:au ρ v v'):au ρ (.iface t v) (.iface t v')
 |nilIface:au ρ .nilIface .nilIface
 |agg {a a':dX} (hs:a.size=a'.size) (h:∀(i:Nat)(v v':Value),a[i]?=some v->a'[i]?=some v'->au ρ v v'):au ρ (.agg a) (.agg a')
 |tuple {a a':dX} (hs:a.size=a'.size) (h:∀(i:Nat)(v v':Value),a[i]?=some v->a'[i]?=some v'->au ρ v v'):au ρ (.tuple a) (.tuple a')
structure aJ(ρ:Ren)(a a':dX):Prop where
 size:a.size=a'.size
 get:∀(i:Nat)(v v':Value),a[i]?=some v->a'[i]?=some v'->au ρ v v'
def Ren.le(ρ σ:Ren):Prop:=(∀b b',ρ.rel b b'->σ.rel b b')/\∀b,ρ.mine b->σ.mine b
def Ren.le_refl ρ:Ren.le ρ ρ:=⟨λ_ _ h=>h,λ_ h=>h⟩
variable{ρ σ:Ren}
theorem Ren.le_trans{a}(h:Ren.le ρ σ)(k:Ren.le σ a):Ren.le ρ a:=⟨λb b' x=>k.1 b b' (h.1 b b' x),λb x=>k.2 b (h.2 b x)⟩
theorem dR.mono(b:Ren.le ρ σ){a a'}(h:dR ρ a a'):dR σ a a':=⟨b.1 _ _ h.1,h.2⟩
theorem ud.mono(b:Ren.le ρ σ){a a'}(h:ud ρ a a'):ud σ a a':=by cases h with|yield h=>exact .yield (b.1 _ _ h)|func f=>exact .func f
variable{v v':Value}
theorem au.mono(d:Ren.le ρ σ)(h:au ρ v v'):au σ v v':=by induction h with|bool b=>exact .bool b|int k n=>exact .int k n|string s=>exact .string s|l_=>exact .l_|ptr h=>exact .ptr (h.mono d)|iH l c=>exact .iH l c|slice l c h=>exact .slice l c (h.mono d)|p8=>exact .p8|map h=>exact .map (d.1 _ _ h)|p9=>exact .p9|func h i g _ _ f e=>exact .func (h.mono d) i g f e|nilFunc=>exact .nilFunc|iface t _ a=>exact .iface t a|nilIface=>exact .nilIface|agg hs _ a=>exact .agg hs a|tuple hs _ a=>exact .tuple hs a
variable{a a':dX}
theorem aJ.mono(b:Ren.le ρ σ)(h:aJ ρ a a'):aJ σ a a':=⟨h.size,λi v v' x y=>(h.get i v v' x y).mono b⟩
theorem aJ.nil ρ:aJ ρ #[] #[]:=⟨Y,λi v v' h=>AA⟩
theorem aJ.one(h:au ρ v v'):aJ ρ #[v] #[v']:=⟨Y,λi x c a b=>by
 grind⟩
theorem aJ.some{ρ a a'}(h:aJ ρ a a'){i:Nat}{v}(hv:a[i]?=Option.some v):∃v',a'[i]?=Option.some v'/\au ρ v v':=by
 have hi:i<a.size:=by grind
 have b:i<a'.size:=h.size▸hi;exact⟨a'[i],AA,h.get i v _ hv AA⟩
theorem aJ.none(h:aJ ρ a a'){i:Nat}(hv:a[i]?=Option.none):a'[i]?=Option.none:=by rw[vdd]at hv⊢;rw[<-h.size];exact hv
variable{b b':dX}
theorem aJ.append(h:aJ ρ a a')(k:aJ ρ b b'):aJ ρ (a++b) (a'++b'):=by
 refine⟨by simp[h.size,k.size],λi v v' x y=>?_⟩;rw[Array.getElem?_append]at x y;rw[<-h.size]at y;split at x
 .rename_i hi;rw[vca hi]at y;exact h.get i v v' x y
 .rename_i hi;rw[vby hi]at y;exact k.get _ v v' x y
theorem aJ.push(h:aJ ρ a a')(k:au ρ v v'):aJ ρ (a.push v) (a'.push v'):=by have e:∀(x:dX)(y:Value),x.push y=x++#[y]:=λx y=>AS;rw[e,e];exact h.append (.one k)
def aJ.set(h:aJ ρ a a')(k:au ρ v v')i:aJ ρ (a.setIfInBounds i v) (a'.setIfInBounds i v'):=by
 refine⟨by simp[h.size],λj x d c b=>?_⟩;rw[vam]at c b;rw[<-h.size]at b;by_cases e:i=j
 .grind
 .rw[vby e]at c b;exact h.get j x d c b
theorem aJ.extract(h:aJ ρ a a')s e:aJ ρ (a.extract s e) (a'.extract s e):=by
 refine⟨by simp[h.size],λi v v' x y=>?_⟩;rw[Array.getElem?_extract]at x y;rw[<-h.size]at y;split at x
 .rename_i hi;rw[vca hi]at y;exact h.get _ v v' x y
 grind
theorem aJ.getD(h:aJ ρ a a'){d b}(hd:au ρ d b)(i:Nat):au ρ (a.getD i d) (a'.getD i b):=by rw[vcb,vcb];grind[none,some]
theorem au.undef ρ:au ρ undef undef:=.tuple Y λi v v' h=>by grind
def au.qT(h:aJ ρ a a'):au ρ (.agg a) (.agg a'):=.agg h.size h.get
def au.F_(h:aJ ρ a a'):au ρ (.tuple a) (.tuple a'):=.tuple h.size h.get
def au.Mx{fn c}(d:ud ρ fn c)(h:aJ ρ a a')(k:aJ ρ b b'):au ρ (.func fn a b) (.func c a' b'):=.func d h.size k.size h.get k.get
theorem au.cells{ρ v v'}(h:au ρ v v'):aJ ρ v.cells v'.cells:=by cases h with|agg hs h=>exact⟨hs,h⟩|bool b=>exact .one (.bool b)|int k n=>exact .one (.int k n)|string s=>exact .one (.string s)|l_=>exact .one .l_|ptr h=>exact .one (.ptr h)|iH l c=>exact .one (.iH l c)|slice l c h=>exact .one (.slice l c h)|p8=>exact .one .p8|map h=>exact .one (.map h)|p9=>exact .one .p9|func h d a h1 h2=>exact .one (.func h d a h1 h2)|nilFunc=>exact .one .nilFunc|iface t h=>exact .one (.iface t h)|nilIface=>exact .one .nilIface|tuple hs h=>exact .one (.tuple hs h)
inductive jl:Value->Prop
 |bool (b:Bool):jl (.bool b)
 |int (k:IntKind) (n:Int):jl (.int k n)
 |string (s:ByteArray):jl (.string s)
 |l_:jl (.pointer none)
 |iH (l c:Nat):jl (.slice none l c)
 |p8:jl (.map none)
 |p9:jl (.chan none)
 |nilFunc:jl .nilFunc
 |func (f:uak):jl (.func (.func f) #[] #[])
 |nilIface:jl .nilIface
 |iface (t:uaa) {v:Value} (h:jl v):jl (.iface t v)
 |agg {a:dX} (h:∀(i:Nat)(v:Value),a[i]?=some v->jl v):jl (.agg a)
 |tuple {a:dX} (h:∀(i:Nat)(v:Value),a[i]?=some v->jl v):jl (.tuple a)
def jl.rel(h:jl v)ρ:au ρ v v:=by induction h with|bool b=>exact .bool b|int k n=>exact .int k n|string s=>exact .string s|l_=>exact .l_|iH l c=>exact .iH l c|p8=>exact .p8|p9=>exact .p9|nilFunc=>exact .nilFunc|func f=>exact .Mx (.func f) (.nil ρ) (.nil ρ)|nilIface=>exact .nilIface|iface t _ a=>exact .iface t a|agg _ a=>exact .agg Y λi v v' x y=>AA|tuple _ a=>exact .tuple Y λi v v' x y=>AA
def kP(a:dX):Prop:=∀(i:Nat)(v:Value),a[i]?=some v->jl v
theorem kP.rel(h:kP a)ρ:aJ ρ a a:=⟨Y,λi v v' x y=>by rw[x]at y;cases y;exact(h i v x).rel ρ⟩
theorem jl.cells{v}(h:jl v):kP v.cells:=by
 have one:∀{v:Value},jl v->v.cells=#[v]->kP v.cells:=λ{v} hv e i x a=>by grind
 cases h with|agg h=>exact h|bool b=>exact one (.bool b) Y|int k n=>exact one (.int k n) Y|string s=>exact one (.string s) Y|l_=>exact one .l_ Y|iH l c=>exact one (.iH l c) Y|p8=>exact one .p8 Y|p9=>exact one .p9 Y|nilFunc=>exact one .nilFunc Y|func f=>exact one (.func f) Y|nilIface=>exact one .nilIface Y|iface t h=>exact one (.iface t h) Y|tuple h=>exact one (.tuple h) Y
def oK{aq:Type}:Result aq->aR
 | .ok _ w=>w
 | .halt _ w=>w
section
variable{aq:Type}
def ajl:∀(k:Ask aq)(w:aR),w.drawn<=(w.ask k).2.drawn/\(w.ask k).2.heap=w.heap/\(w.ask k).2.tape=w.tape:=by intro k;induction k with|done a=>intro w;exact⟨vac _,Y,Y⟩|ask what range k b=>intro w;simp only[World.ask];grind
theorem ajm(w:aR)c:w.drawn<=(w.sys c).2.drawn/\(w.sys c).2.tape=w.tape:=by unfold World.sys;have:=ajl (Kernel.perform c w.os) w;grind
theorem ajn{P:cE}{w d:aR}{a:Addr}{b:Bool}{l:List Addr}(h:w.farStore P a v b=.ok (d,l)):d.drawn=w.drawn/\d.tape=w.tape:=by
 unfold World.farStore at h;split at h
 .split at h
  .rename_i r c;cases h;unfold World.viewStore at c;simp only[bind,Except.bind,pure,Except.pure]at c;repeat' (split at c)
   all_goals first
    |cases c;done
    |grind
  grind
 grind
def Ga(P:cE):∀(m:Sem aq)(w:aR),w.drawn<=(oK (m.run P w)).drawn/\(oK (m.run P w)).tape=w.tape:=by
 intro m;induction m with
 |pure a=>intro w;exact⟨vac _,Y⟩
 |load md a k b=>intro w;simp only[Sem.run];cases w.cell? a with|some v=>grind|none=>simp only[];cases w.farLoad P a (md== .atomic)with|ok r=>grind|error h=>exact⟨vac _,Y⟩
 |store md a v k b=>
  intro w;have gen:w.drawn<=(oK (match w.cell? a with
   |some _=>if w.frozen? a then .halt (.unsupported (.unsafePointer "a write to bytes that a string shares")) w else k.run P (w.setCell a v)
   |none=>match w.farStore P a v (md== .atomic)with
    | .ok (w,_)=>k.run P w
    | .error h=>.halt h w)).drawn/\(oK (match w.cell? a with
   |some _=>if w.frozen? a then .halt (.unsupported (.unsafePointer "a write to bytes that a string shares")) w else k.run P (w.setCell a v)
   |none=>match w.farStore P a v (md== .atomic)with
    | .ok (w,_)=>k.run P w
    | .error h=>.halt h w)).tape=w.tape:=by
   cases w.cell? a with
   |some x=>
    simp only[];split
    .exact⟨vac _,Y⟩
    .exact b (w.setCell a v)
   |none=>simp only[];cases d:w.farStore P a v (md== .atomic)with|error h=>exact⟨vac _,Y⟩|ok r=>grind[ajn]
  cases v<;>first|exact⟨vac _,Y⟩|exact gen
 |new o k b=>intro w;exact b _ {w with heap:=w.heap.push o}
 |shape r k b=>intro w;exact b _ w
 |freeze a n k b=>
  intro w;have h1:(w.freeze a n).drawn=w.drawn/\(w.freeze a n).tape=w.tape:=by unfold World.freeze;grind
  have h2:=b (w.freeze a n);exact⟨h1.1▸h2.1,h2.2.trans h1.2⟩
 |frozen a k b=>intro w;exact b _ w
 |getObj r k b=>
  intro w;simp only[Sem.run];split
  .exact⟨vac _,Y⟩
  .grind
  .exact⟨vac _,Y⟩
 |setObj r o k b=>
  intro w;simp only[Sem.run];split
  .exact⟨vac _,Y⟩
  .grind
  .exact⟨vac _,Y⟩
 |choose q k b=>intro w;simp only[Sem.run];grind
 |sys c k b=>grind[ajm,Sem.run]
 |program k b=>intro w;exact b _ w
 |mark m k b=>intro w;exact b w
 |halt h=>intro w;exact⟨vac _,Y⟩
end
def kR:GStep->aR
 | .go _ w _ | .comm _ _ _ _ w _ | .spawn _ _ w _ | .count _ w _ | .timer _ _ w _ | .alone _ _ w _ | .newcoro _ _ _ w _ | .coroswitch _ _ _ w _ | .collect _ w _ | .watch _ w _ | .ended _ w _=>w
@[simp] theorem Cr (es:uat) (s:GStep):kR (GStep.after es s)=kR s:=by cases s<;>rfl
theorem Y6(P:cE)(m:Bool)(fr:Frame)(cs:hH)(d:Option Dying)(v:Value)(w:aR):kR (doReturn P m fr cs d v w)=w:=by
 unfold doReturn;cases cs with
 |cons c cs=>simp only[];split<;>rfl
 |nil=>
  simp only[];split
  .rfl
  .rfl
  .split
   .rfl
   .split<;>rfl
def R6{aq:Type}{P:cE}{m:Sem aq}{w:aR}{r:Result aq}(h:m.run P w=r):w.drawn<=(oK r).drawn:=h▸(Ga P m w).1
def Y7(P:cE)(fr:Frame)(cs:hH)(d:Option Dying)(m:String)(w:aR):w.drawn<=(kR (endFatal P fr cs d m w)).drawn:=by
 unfold endFatal;simp only[];split
 .rename_i a;exact R6 a
 .rename_i a;exact R6 a
 .rename_i a;exact R6 a
def akS(P:cE)(fr:Frame)(cs:hH)(d:Option Dying)(g:Nat)(w:aR):w.drawn<=(kR (early P fr cs d g w)).drawn:=by
 unfold early;have notYet:∀a:aR,(kR (match a.heap[g]? with
  |some (.pending c elem)=>GStep.go {frame:=fr,callers:=cs,status:=.running,dying:=d} {a with heap:=a.heap.setIfInBounds g (.cells c elem)}
  | _=>.ended (.stuck "early: the variable does not wait" (fr.pos P)) a)).drawn=a.drawn:=by
  intro a;split<;>rfl
 simp only[];have dF:∀{s:GStep}{a:aR},(kR s).drawn=a.drawn->w.drawn<=a.drawn->w.drawn<=(kR s).drawn:=λe h=>AA;have same:∀{s:GStep},(kR s).drawn=w.drawn->w.drawn<=(kR s).drawn:=λe=>AA;split
 .grind
 split
 .exact vac _
 rename_i f _;split
 .grind
 split
 .grind
 split
 .exact vac _
 .exact vac _
 .exact vac _
 .grind
 .split
  .exact vac _
  split
  .grind
  split
  .rename_i a b;have:=Ga P (choose (.early g)) w;rw[b]at this;exact dF (notYet a) this.1
  .rename_i a _ b;have:=Ga P (choose (.early g)) w;rw[b]at this;exact this.1
  .rename_i a b;have:=Ga P (choose (.early g)) w;rw[b]at this;exact this.1
def Y8(P:cE)(fr:Frame)(cs:hH)(d:Option Dying)(s:Sem Next)(w:aR):(oK (s.run P w)).drawn<=(kR (stepG.apply P true fr cs d s w)).drawn:=by
 unfold stepG.apply;simp only[Sem.runT_eq,vcx,Cr];cases s.run P w with
 |ok h f=>
  cases h with
  |callThen a b c e=>simp only[oK];split<;>exact vac _
  |row a b=>simp only[oK];split<;>exact vac _
  |stack a b=>simp only[oK];split<;>exact vac _
  |recover=>simp only[oK];split<;>exact vac _
  |spawn x=>simp only[oK];repeat' first|exact vac _ |split
  | _=>exact vac _
 |halt x f=>
  cases x with
  |fatal m=>exact Y7 P fr cs d m f
  |unsupported u=>cases u with|initOrder g=>exact akS P fr cs d g f| _=>exact vac _
  | _=>exact vac _
def akT(P:cE)(fr:Frame)(cs:hH)(d:Option Dying)(x:Deferred)(w:aR):((x.target matches .nil)&&(fr.mode matches .panicking _))=true\/(oK ((invoke x.target x.args).run P w)).drawn<=(kR (callDeferred P fr cs d x w)).drawn:=by
 have key:∀{c:Prop}[Decidable c]{a b:GStep}{n:Nat},(¬c->n<=(kR b).drawn)->c\/n<=(kR (if c then a else b)).drawn:=by grind
 unfold callDeferred;simp only[Sem.runT_eq];refine key λ_=>?_;simp only[Cr];cases(invoke x.target x.args).run P w with
 |ok g f=>cases g with|recover=>simp only[oK];split<;>exact vac _|alone on v=>cases on<;>exact vac _|coroswitch c e=>cases e<;>exact vac _| _=>exact vac _
 |halt y f=>cases y with|fatal m=>exact Y7 P fr cs d m f| _=>exact vac _
end av
namespace bj
open Conc ConcN
def fy:Loc->Option Nat
 | .cell a=>some a.block
 | .obj r=>some r
 | _=>none
structure kG where
 n:Nat
 base:Nat
 size:Nat
 K:Nat->Prop
 mine:Nat->Nat->Prop
 h_:Loc->Prop
 fj:Loc->Prop
 tok:Option Nat
 mu:Addr
 wg:Addr
 past:Nat->Prop
def kG.bq(p:kG)(j:Nat):Prop:=j<p.n/\(j=0\/p.base<=j)
def GQ(t:Trace)(a:Addr)(i:Nat):Prop:=∃q,t.act? q=some (.mark (.releaseMerge a))/\t.heard q/\Before t i q
variable{i:Nat}
theorem GQ.app{t a}(h:GQ t a i)u:GQ (t++u) a i:=
 let⟨q,h1,h2,h3⟩:=h
 ⟨q,by grind[act?_old,lt_of_act?],(heard_old (lt_of_act? h1)).2 h2,h3.app u⟩
def aaB(p:kG)(l:Loc):Prop:=¬p.h_ l/\∀b,fy l=some b->¬p.K b/\∀j,¬p.mine j b
structure eH(p:kG)(t:Trace):Prop where
 oW:∀i a,touchAt t i=some a->a.loc.isMemory=true->a.kind=.atomic->p.fj a.loc\/aaB p a.loc
 gs:∀(i:Nat)(op:MemOp),t[i]?=some op->op.g<p.n
 low:∀i a b,touchAt t i=some a->fy a.loc=some b->b<p.size
 still:∀i a b,touchAt t i=some a->a.write=true->fy a.loc=some b->p.K b->∀j,p.bq j->Knows t j i
 own:∀j i a b,p.bq j->touchAt t i=some a->fy a.loc=some b->p.mine j b->Knows t j i
 uw:∀j,p.tok=some j->p.bq j/\∀i a,touchAt t i=some a->p.h_ a.loc->Knows t j i
 CZ:p.tok=none->∀i a,touchAt t i=some a->p.h_ a.loc->(∀j,p.bq j->Knows t j i)\/GQ t p.mu i
 fj:∀i a,touchAt t i=some a->p.fj a.loc->a.kind=.atomic\/(a.kind=.said/\Knows t 0 i)\/∀j,p.bq j->Knows t j i
 rp:∀i a,t.act? i≠some (.mark (.release a))
 yU:∀said,¬Race said t
 past:∀i j,t.g? i=some j->p.past j->t.counts i->Knows t 0 i\/GQ t p.wg i
structure Tj(p:kG):Prop where
 own:∀j k b,p.mine j b->p.mine k b->j=k
 aaC:∀j b,p.mine j b->¬p.K b
 GR:∀l b j,p.h_ l->fy l=some b->¬p.mine j b/\¬p.K b
 GU:∀l b j,p.fj l->fy l=some b->¬p.mine j b/\¬p.K b
 ux:∀l,p.h_ l->¬p.fj l
 low:∀j b,p.mine j b->b<p.size
 anE:∀b,p.K b->b<p.size
 Tk:∀l b,p.h_ l\/p.fj l->fy l=some b->b<p.size
def A3:Mark->Prop
 | .disable| .enable| .noRoom| .extern _=>True
 | _=>False
def Nn(p:kG)(j:Nat)(d:Nat)(e:Event):Prop:=
 match e.loc with
 | .cell a=>(e.sync=false/\((p.K a.block/\e.write=false)\/p.mine j a.block\/(p.h_ (.cell a)/\p.tok=some j))/\¬p.past j)\/(e.sync=true/\p.fj (.cell a)/\0<d)
 | .obj r=>e.sync=false/\((p.K r/\e.write=false)\/p.mine j r)/\¬p.past j
 | .mark m=>A3 m\/(j=0/\∃a,p.fj (.cell a)/\(m=.read a\/m=.write a))
 | .output=>True
 | .goroutines=>False
def A4(d:Nat)(e:Event):Nat:=deafBehind d #[e]
def Tl(p:kG)(j:Nat):Nat->List Event->Prop
 | _,[]=>True
 |d,e::l=>Nn p j d e/\Tl p j (A4 d e) l
variable{d j:Nat}{e:Event}{y:MemOp}
section
variable{p:kG}{t:Trace}
def anF{l}(h:l.isMemory=true):∃b,fy l=some b:=by cases l<;>simp[Loc.isMemory]at h<;>exact⟨_,Y⟩
def anG(h:Nn p j d e){x}(c:(MemAct.ofEvent e).touch?=some x)(i:x.loc.isMemory=true):
 ∃b,fy x.loc=some b/\((x.kind=.plain/\((p.K b/\x.write=false)\/p.mine j b\/(p.h_ x.loc/\p.tok=some j))/\¬p.past j)\/(x.kind=.atomic/\p.fj x.loc/\0<d)\/(x.kind=.said/\p.fj x.loc/\j=0)):=by
 obtain⟨loc,wr,f⟩:=e;cases loc with
 |cell a=>
  have g:x=⟨.cell a,wr,if f then .atomic else .plain⟩:=by grind[MemAct.ofEvent,MemAct.touch?]
  subst g;refine⟨a.block,Y,?_⟩;rcases h with⟨h1,h2,h3⟩|⟨h1,h2,h3⟩
  .grind
  grind
 |obj r=>
  obtain⟨h1,h2,h3⟩:=h;simp only at h1;subst h1;have:(MemAct.ofEvent ⟨.obj r,wr,false⟩)=.access ⟨.obj r,wr,false⟩:=by cases wr<;>rfl
  rw[this]at c;simp only[MemAct.touch?,vbm]at c;subst c;exact⟨r,Y,AA⟩
 |output=>grind[MemAct.ofEvent,MemAct.touch?,Loc.isMemory]
 |goroutines=>exact h.elim
 |mark m=>
  have:(MemAct.ofEvent ⟨.mark m,wr,f⟩)=.mark m:=by cases wr<;>cases f<;>rfl
  rw[this]at c;rcases h with h|⟨h0,a,hs,rfl|rfl⟩
  .cases m<;>simp[A3]at h<;>simp[MemAct.touch?]at c
  .simp[MemAct.touch?]at c;subst c;exact⟨a.block,Y,AA⟩
  .simp[MemAct.touch?]at c;subst c;exact⟨a.block,Y,AA⟩
theorem anH(h:Nn p j d e)a:MemAct.ofEvent e≠ .mark (.release a):=by
 obtain⟨loc,wr,b⟩:=e;cases loc with
 |mark m=>
  have:(MemAct.ofEvent ⟨.mark m,wr,b⟩)=.mark m:=by cases wr<;>cases b<;>rfl
  rw[this];rcases h with h|⟨_,_,_,rfl|rfl⟩
  .grind[A3]
  .simp
  .simp
 | _=>cases wr<;>cases b<;>simp[MemAct.ofEvent]
def JS(t:Trace)(y:MemOp):(t++#[y])[t.size]?=some y:=by simp
theorem A5{a}(h:touchAt (t++#[y]) i=some a):touchAt t i=some a\/(i=t.size/\y.act.touch?=some a):=by obtain⟨z,c,b⟩:=touch_of h;grind[touchAt_of]
structure No(p:kG):Prop where
 h_:∀l,p.h_ l->l.isMemory=true
 fj:∀l,p.fj l->l.isMemory=true
def GV{l b}(h:fy l=some b):l.isMemory=true:=by cases l<;>simp[fy]at h<;>rfl
def eH.push(A:Tj p)(P:No p)(h:eH p t)(v:p.bq j)(O:Nn p j (Deaf t j) e)(fn:uak)(pos:String):eH p (t++#[{g:=j,fn,pos,act:=.ofEvent e}]):=by
 generalize W:({g:=j,fn,pos,act:=.ofEvent e}:MemOp)=y;have hg:y.g=j:=AA;have X:y.act=.ofEvent e:=AA;have V:Knows (t++#[y]) j t.size:=⟨t.size,y,JS t y,hg,.inl Y⟩;have new:∀{a:Touch},y.act.touch?=some a->a.loc.isMemory=true->∃b,fy a.loc=some b/\((a.kind=.plain/\((p.K b/\a.write=false)\/p.mine j b\/(p.h_ a.loc/\p.tok=some j))/\¬p.past j)\/(a.kind=.atomic/\p.fj a.loc/\0<Deaf t j)\/(a.kind=.said/\p.fj a.loc/\j=0)):=
  λc m=>anG O AA m
 refine⟨λi a c I S=>?_,λi op hi=>?_,λi a b c d=>?_,λi a b c B d hK k hk=>?_,λk i a b hk c d m=>?_,λk hk=>⟨(h.uw k hk).1,λi a c l=>?_⟩,λhk i a c l=>?_,λi a c hs=>?_,λi a L=>?_,λsaid=>?_,λi k hk M f=>?_⟩
 .rcases A5 c with c|⟨_,c⟩
  .exact h.oW i a c I S
  grind
 .rcases getElem?_append_cases hi with⟨_,R⟩|⟨_,E⟩
  .exact h.gs i op R
  .simp at E;subst E;rw[hg];exact v.1
 .rcases A5 c with c|⟨_,c⟩
  .exact h.low i a b c d
  .obtain⟨b',C,f⟩:=new c (GV d);obtain rfl:b=b':=AA;rcases f with⟨_,⟨hK,_⟩|m|⟨l,_⟩,_⟩|⟨_,hs,_⟩|⟨_,hs,_⟩
   .exact A.anE b hK
   .exact A.low j b m
   .exact A.Tk a.loc b (.inl l) d
   .exact A.Tk a.loc b (.inr hs) d
   .exact A.Tk a.loc b (.inr hs) d
 .rcases A5 c with c|⟨_,c⟩
  .exact(h.still i a b c B d hK k hk).app _
  .exfalso;obtain⟨b',C,f⟩:=new c (GV d);obtain rfl:b=b':=AA;rcases f with⟨_,⟨_,K⟩|m|⟨l,_⟩,_⟩|⟨_,hs,_⟩|⟨_,hs,_⟩
   .grind
   .exact A.aaC j b m hK
   .exact(A.GR a.loc b 0 l d).2 hK
   .exact(A.GU a.loc b 0 hs d).2 hK
   .exact(A.GU a.loc b 0 hs d).2 hK
 .rcases A5 c with c|⟨rfl,o⟩
  .exact(h.own k i a b hk c d m).app _
  .obtain⟨b',C,f⟩:=new o (GV d);obtain rfl:b=b':=AA;rcases f with⟨_,⟨hK,_⟩|n|⟨l,_⟩,_⟩|⟨_,hs,_⟩|⟨_,hs,_⟩
   .exact absurd hK (A.aaC k b m)
   .rw[A.own k j b m n];grind
   .exact absurd m (A.GR a.loc b k l d).1
   .exact absurd m (A.GU a.loc b k hs d).1
   .exact absurd m (A.GU a.loc b k hs d).1
 .rcases A5 c with c|⟨rfl,o⟩
  .exact((h.uw k hk).2 i a c l).app _
  .obtain⟨b,d,f⟩:=new o (P.h_ _ l);rcases f with⟨_,⟨hK,_⟩|n|⟨_,ht⟩,_⟩|⟨_,hs,_⟩|⟨_,hs,_⟩
   .exact absurd hK (A.GR a.loc b 0 l d).2
   .exact absurd n (A.GR a.loc b j l d).1
   .grind
   .exact absurd hs (A.ux _ l)
   .exact absurd hs (A.ux _ l)
 .rcases A5 c with c|⟨rfl,o⟩
  .exact(h.CZ hk i a c l).imp LN (λx=>x.app _)
  .exfalso;obtain⟨b,d,f⟩:=new o (P.h_ _ l);rcases f with⟨_,⟨hK,_⟩|n|⟨_,ht⟩,_⟩|⟨_,hs,_⟩|⟨_,hs,_⟩
   .exact absurd hK (A.GR a.loc b 0 l d).2
   .exact absurd n (A.GR a.loc b j l d).1
   .grind
   .exact absurd hs (A.ux _ l)
   .exact absurd hs (A.ux _ l)
 .rcases A5 c with c|⟨rfl,o⟩
  .exact(h.fj i a c hs).imp id (λx=>x.imp (λy=>⟨y.1,y.2.app _⟩) LN)
  .obtain⟨b,d,f⟩:=new o (P.fj _ hs);rcases f with⟨_,⟨hK,_⟩|n|⟨l,_⟩,_⟩|⟨hk,_,_⟩|⟨hk,_,h0⟩
   .exact absurd hK (A.GU a.loc b 0 hs d).2
   .exact absurd n (A.GU a.loc b j hs d).1
   .exact absurd hs (A.ux _ l)
   .grind
   grind
 .obtain⟨op,N,F⟩:=vai.1 L;rcases getElem?_append_cases N with⟨_,Q⟩|⟨_,T⟩
  .exact h.rp i a (by rw[act?_of Q,F])
  grind[anH]
 .refine noRace_append (g:=j) (h.yU said) AA (λi x c op s b d f=>?_);simp at s;subst s;have m:b.loc.isMemory=true:=by rw[<-f.1];exact f.2.1
  obtain⟨u,GJ,q⟩:=new d m;have D:fy x.loc=some u:=by rw[f.1];grind
  rcases q with⟨_,⟨hK,B⟩|n|⟨l,ht⟩,_⟩|⟨hk,hs,_⟩|⟨hk,hs,h0⟩
  .exact h.still i x u c (f.2.2.1.resolve_right AA) D hK j v
  .exact h.own j i x u v c D n
  .exact(h.uw j ht).2 i x c (by rw[f.1];grind)
  .rcases h.fj i x c (by rw[f.1];exact hs)with r|⟨r,_⟩|r
   .exfalso;rcases f.2.2.2 with e|e|⟨_,e,_⟩
    .grind
    .grind
    grind
   .exfalso;rcases f.2.2.2 with e|e|⟨_,_,e⟩
    .grind
    .grind
    grind
   grind
  .rcases h.fj i x c (by rw[f.1];exact hs)with r|⟨_,r⟩|r
   .exfalso;rcases f.2.2.2 with e|e|⟨_,e,_⟩
    .grind
    .grind
    grind
   .grind
   grind
 .by_cases hi:i<t.size
  .have z:t.g? i=some k:=by grind[g?_old]
   have w:t.counts i:=by obtain⟨x,h1,h2,h3⟩:=f;exact⟨x,by grind[act?_old],h2,h3.imp id (λe=>(heard_old hi).1 e)⟩
   exact(h.past i k z M w).imp LB LB
  .have U:i=t.size:=by grind[Trace.g?]
   subst U;have r:k=j:=Iz;subst r;obtain⟨x,h1,h2,h3⟩:=f;rw[act?_of (JS t y)]at h1;obtain⟨b,d,q⟩:=new h1 h2;rcases q with⟨_,_,Z⟩|⟨hk,_,hd⟩|⟨_,_,h0⟩
   .grind
   .exfalso;rcases h3 with e|⟨g,H,J⟩
    .grind
    .simp[Trace.g?]at H;rw[deaf_old JR]at J;grind[Deaf]
   grind
theorem anJ(t:Trace)(j:Nat)(fn:uak)(pos:String)(e:Event):Deaf (t++#[{g:=j,fn,pos,act:=.ofEvent e}]) j=A4 (Deaf t j) e:=by have:=Deaf_own t j fn pos #[e];grind[ofEvents_eq,A4]
theorem eH.step(A:Tj p)(P:No p){j:Nat}(a:p.bq j)(fn:uak)(pos:String):∀(l:ubk){t:Trace},eH p t->Tl p j (Deaf t j) l->eH p (t++MemOp.ofEvents j fn pos l.toArray)
 | [],t,h,_=>by grind[ofEvents_eq]
 |e::l,t,h,⟨h1,h2⟩=>by have:=eH.step A P a fn pos l (h.push A P a h1 fn pos) (by grind[anJ]);grind[ofEvents_eq]
def eH.grow(h:eH p t){size:Nat}(hs:p.size<=size){mine:ubh}(g:∀j b,mine j b->p.mine j b\/p.size<=b):eH {p with size:=size,mine:=mine} t:=
 ⟨λi a d k l=>(h.oW i a d k l).imp id λhn=>⟨hn.1,λb c=>⟨(hn.2 b c).1,λj f=>(g j b f).elim ((hn.2 b c).2 j) (λe=>absurd (h.low i a b d c) AQ)⟩⟩,h.gs,λi a b d c=>vak (h.low i a b d c) hs,h.still,λj i a b f d c m=>(g j b m).elim (λe=>h.own j i a b f d c e) (λe=>absurd (h.low i a b d c) AQ),h.uw,h.CZ,h.fj,h.rp,h.yU,h.past⟩
end
section
section
variable{p:kG}{t:Trace}
def xB(hn:y.act.touch?=none){a}(h:touchAt (t++#[y]) i=some a):touchAt t i=some a:=by grind[A5]
def Tm(hn:y.act.touch?=none)(hg:(t++#[y]).g? i=some j)(c:(t++#[y]).counts i):i<t.size/\t.g? i=some j/\t.counts i:=by obtain⟨x,h1,h2,h3⟩:=c;have b:touchAt t i=some x:=xB hn h1;obtain⟨z,a,_⟩:=touch_of b;have hi:=lt_size_of_getElem? a;exact⟨hi,by grind[g?_old],x,by grind[act?_old],h2,h3.imp id (λe=>(heard_old hi).1 e)⟩
theorem eH.word(h:eH p t)(hg:y.g<p.n)(hn:y.act.touch?=none)(B:∀a,y.act≠ .mark (.release a)):eH p (t++#[y]):=by
 refine⟨λi a c n z=>h.oW i a (xB hn c) n z,λi op hi=>?_,λi a b c d=>h.low i a b (xB hn c) d,λi a b c o d hK k hk=>(h.still i a b (xB hn c) o d hK k hk).app _,λk i a b hk c d u=>(h.own k i a b hk (xB hn c) d u).app _,
  λk hk=>⟨(h.uw k hk).1,λi a c f=>((h.uw k hk).2 i a (xB hn c) f).app _⟩,λhk i a c f=>(h.CZ hk i a (xB hn c) f).imp LN (λx=>x.app _),
  λi a c hs=>(h.fj i a (xB hn c) hs).imp id (λx=>x.imp (λy=>⟨y.1,y.2.app _⟩) LN),λi a l=>?_,λsaid=>?_,λi k hk q j=>?_⟩
 .rcases getElem?_append_cases hi with⟨_,w⟩|⟨_,C⟩
  .exact h.gs i op w
  grind
 .obtain⟨op,s,m⟩:=vai.1 l;rcases getElem?_append_cases s with⟨_,v⟩|⟨_,A⟩
  .exact h.rp i a (by rw[act?_of v,m])
  grind
 .refine noRace_append (g:=y.g) (h.yU said) AA (λi x c op r b d j=>?_);grind
 .obtain⟨hi,h1,h2⟩:=Tm hn hk j;exact(h.past i k h1 q h2).imp LB LB
theorem aaE(h:eH p t){a}(c:y.act=.mark (.acquire a))(hd:Deaf t y.g=0)(d:GQ t a i):Knows (t++#[y]) y.g i:=by
 obtain⟨q,h1,h2,h3⟩:=d;have hq:=lt_of_act? h1;have b:=JS t y;have edge:HappensBefore (t++#[y]) q t.size:=.single (.inr ⟨.marked hq (.inr (by rw[act?_old hq];exact h1)) (by rw[act?_of b,c]) (λk _ hk=>by rw[act?_old hk];exact h.rp k a),(heard_old hq).2 h2,
  ⟨y.g,by simp[Trace.g?],GX⟩⟩)
 exact⟨t.size,y,b,Y,.inr ((h3.app #[y]).hb edge)⟩
def eH.anK(h:eH p t)(ht:p.tok=none)(c:p.bq y.g)(d:y.act=.mark (.acquire p.mu))(hd:Deaf t y.g=0):eH {p with tok:=some y.g} (t++#[y]):=by
 have hn:y.act.touch?=none:=by rw[d];rfl
 have b:=h.word c.1 hn AA;refine⟨b.oW,b.gs,b.low,b.still,b.own,λk hk=>?_,AA,b.fj,b.rp,b.yU,b.past⟩;simp at hk;subst hk;refine⟨c,λi a e hg=>?_⟩;rcases h.CZ ht i a (xB hn e) hg with hk|hk
 .exact(hk _ c).app _
 grind[aaE]
def eH.anL(h:eH p t)(ht:p.tok=some y.g)(c:y.act=.mark (.releaseMerge p.mu))(hd:Deaf t y.g=0):eH {p with tok:=none} (t++#[y]):=by
 have hn:y.act.touch?=none:=by rw[c];rfl
 obtain⟨f,hk⟩:=h.uw _ ht;have b:=h.word f.1 hn AA;have d:=JS t y;refine⟨b.oW,b.gs,b.low,b.still,b.own,AA,λ_ i a e hg=>.inr ⟨t.size,by rw[act?_of d,c],⟨y.g,by simp[Trace.g?],GX⟩,.inr ?_⟩,b.fj,b.rp,b.yU,b.past⟩;exact(hk i a (xB hn e) hg).hb_new JR d Y
def eH.anM(h:eH p t)(g:p.bq y.g)(c:y.act=.mark (.releaseMerge p.wg))(hd:Deaf t y.g=0){past:dL}(e:∀k,past k->p.past k\/k=y.g):eH {p with past:=past} (t++#[y]):=by
 have hn:y.act.touch?=none:=by rw[c];rfl
 have a:=h.word g.1 hn AA;have f:=JS t y;refine⟨a.oW,a.gs,a.low,a.still,a.own,a.uw,a.CZ,a.fj,a.rp,a.yU,λi k hk b d=>?_⟩;obtain⟨hi,h1,h2⟩:=Tm hn hk d;rcases e k b with b|rfl
 .exact a.past i k hk b d
 .refine .inr ⟨t.size,by rw[act?_of f,c],⟨y.g,by simp[Trace.g?],GX⟩,.inr ?_⟩;grind[Trace.g?,hb_po]
def eH.anN(h:eH p t)(hg:y.g=0)(h0:0<p.n)(a:y.act=.mark (.acquire p.wg))(hd:Deaf t 0=0):
 eH p (t++#[y])/\∀i j,(t++#[y]).g? i=some j->p.past j->(t++#[y]).counts i->Knows (t++#[y]) 0 i:=by
 have hn:y.act.touch?=none:=by rw[a];rfl
 refine⟨h.word AA hn AA,λi j c b d=>?_⟩;obtain⟨hi,h1,h2⟩:=Tm hn c d;rcases h.past i j h1 b h2 with e|e
 .exact e.app _
 grind[aaE]
def eH.anO(h:eH p t){x}(C:x.g=0/\x.act=.go p.n)(B:y.g=p.n/\y.act=.start)(h0:Deaf t 0=0)(hn:0<p.n)(P:∀b,¬p.mine p.n b):eH {p with n:=p.n+1} (t++#[x,y]):=by
 have hk:Deaf t p.n=0:=Deaf_absent λi op hi e=>by have:=h.gs i op hi;omega
 have w:∀op∈#[x,y],op=x\/op=y:=AA;have M:∀op∈#[x,y],∀b,op.act.touch?=some b->False:=by
  intro op l b d;rcases w op l with rfl|rfl
  .rw[C.2]at d;cases d
  .rw[B.2]at d;cases d
 have old:∀{i:Nat}{b:Touch},touchAt (t++#[x,y]) i=some b->touchAt t i=some b:=by intro i b d;obtain⟨z,o,A⟩:=touch_of d;grind[touchAt_of]
 have b3:p.bq 0:=⟨hn,.inl Y⟩;have all:∀{i:Nat},(∀j,p.bq j->Knows t j i)->∀j,({p with n:=p.n+1}:kG).bq j->Knows (t++#[x,y]) j i:=by
  intro i hi j f;rcases vdz j p.n with k|s
  .exact(hi j ⟨k,f.2⟩).app _
  .have e1:j<p.n+1:=f.1;grind[fork_knows]
 refine⟨λi a c u L=>h.oW i a (old c) u L,λi op hi=>?_,λi a b c d=>h.low i a b (old c) d,λi a b c D d hK=>all (h.still i a b (old c) D d hK),λj i a b f c d m=>?_,λj f=>?_,λH i a c hg=>?_,
  λi a c hs=>(h.fj i a (old c) hs).imp id (λx=>x.imp (λy=>⟨y.1,y.2.app _⟩) all),λi a E=>?_,λsaid=>?_,λi j f O I=>?_⟩
 .rcases getElem?_append_cases hi with⟨_,K⟩|⟨_,Q⟩
  .exact Nat.lt_succ_of_lt (h.gs i op K)
  grind
 .rcases vdz j p.n with k|s
  .exact(h.own j i a b ⟨k,f.2⟩ (old c) d m).app _
  .have e1:j<p.n+1:=f.1;grind
 .obtain⟨h1,h2⟩:=h.uw j f;exact⟨⟨Nat.lt_succ_of_lt h1.1,h1.2⟩,λi a c hg=>(h2 i a (old c) hg).app _⟩
 .exact(h.CZ H i a (old c) hg).imp all LB
 .obtain⟨op,F,r⟩:=vai.1 E;rcases getElem?_append_cases F with⟨_,J⟩|⟨_,N⟩
  .exact h.rp i a (by rw[act?_of J,r])
  grind
 .have e:t++#[x,y]=(t++#[x])++#[y]:=by grind
  rw[e];refine noRace_append (g:=p.n) (noRace_append (g:=0) (h.yU said) AA AA)
   AA AA
 .obtain⟨q,h1,h2,h3⟩:=I;have v:touchAt t i=some q:=old h1;obtain⟨z,o,_⟩:=touch_of v;have hi:=lt_size_of_getElem? o;exact(h.past i j (by grind[g?_old]) O ⟨q,by grind[act?_old],h2,h3.imp id (λe=>(heard_old hi).1 e)⟩).imp LB LB
end
end
end bj
namespace ah
structure be where
 L:Bool
 W:Bool
 S:Bool
 k:Nat
 sema:Nat
 gR:Nat
def be.word(m:be):Nat:=m.L.toNat+2*m.W.toNat+4*m.S.toNat+8*m.k
def be.jP(m:be):Prop:=m.L=false/\m.W=false/\m.S=false/\0<m.k
inductive b5 where
 |idle|mL|jq|km|hand|own
 |eT (v o:Nat)
 |ru|ps
def hN:b5->Nat| .own=>1| _=>0
def gS:b5->Nat| .jq=>1| _=>0
def ge:b5->Nat| .km=>1| _=>0
def fP:b5->Nat| .hand=>1| _=>0
def er:b5->Nat| .ru=>1| _=>0
def eI:b5->Nat| .ps=>1| _=>0
def uD(x:b5)(W:Bool):Bool:=match x with| .jq=>false| _=>W
def aS(f:b5->Nat)(xs:List b5):Nat:=(xs.map f).sum
theorem pB f:∀xs i x y,xs[i]?=some x->aS f (xs.set i y)+f x=aS f xs+f y
 | [],i,x,y,h=>AA
 |a::xs,0,x,y,h=>by grind[aS]
 |a::xs,i+1,x,y,h=>by have:=pB f xs i x y Dt;simp[aS]at this⊢;omega
theorem Dc f:∀(xs:List b5)(i:Nat)(x:b5),xs[i]?=some x->f x<=aS f xs
 | [],i,x,h=>AA
 |a::xs,0,x,h=>by grind[aS]
 |a::xs,i+1,x,h=>by have:=Dc f xs i x Dt;simp[aS]at this⊢;omega
theorem Tv f:∀(xs:List b5)(i j:Nat)(x y:b5),xs[i]?=some x->xs[j]?=some y->i≠j->f x+f y<=aS f xs
 | [],i,j,x,y,h,_,_=>AA
 |a::xs,0,0,x,y,_,_,h=>absurd Y h
 |a::xs,0,j+1,x,y,c,b,_=>by simp at c b;subst c;have:=Dc f xs j y b;grind[aS]
 |a::xs,i+1,0,x,y,c,b,_=>by simp at c b;subst b;have:=Dc f xs i x c;grind[aS]
 |a::xs,i+1,j+1,x,y,c,b,h=>by have:=Tv f xs i j x y I4 (by simpa using b) AQ;simp[aS]at this⊢;omega
theorem aaQ f(b:∀x,f x<=1):∀xs,aS f xs<=xs.length
 | []=>by simp[aS]
 |a::xs=>by have:=aaQ f b xs;have:=b a;simp[aS]at *;omega
theorem aaR f:∀xs,(∀(i:Nat) x,xs[i]?=some x->f x=0)->aS f xs=0
 | [],_=>by simp[aS]
 |a::xs,h=>by have h1:=h 0 a AS;have h2:=aaR f xs λi x hi=>h (i+1) x (by simpa using hi);simp[aS]at h2⊢;omega
def Tw f xs y:aS f (xs++[y])=aS f xs+f y:=by simp[aS]
structure dN(m:be)(xs:List b5):Prop where
 o:aS hN xs=m.L.toNat
 nm:m.S=false->m.W.toNat=aS gS xs+aS er xs+m.sema/\aS fP xs=0/\aS eI xs=0/\aS ge xs=m.k+m.sema+aS er xs
 st:m.S=true->m.W=false/\aS gS xs=0/\aS er xs=0/\m.L.toNat+aS fP xs+aS eI xs+m.sema=1/\aS ge xs+aS fP xs=m.k/\1<=m.k
 q1:m.jP->∃i:Nat,xs[i]?=some (.eT m.gR m.word)
 eT:∀(i:Nat) v o,xs[i]?=some (.eT v o)->v<=m.gR/\(v=m.gR->m.jP->o=m.word)
def rx(m:be)(xs:List b5):Nat:=m.sema+aS er xs+aS eI xs
section
variable{m:be}{xs:List b5}{i:Nat}{x:b5}
def dN.NA(h:dN m xs):m.k<=xs.length:=by
 have q:=aaQ ge (λx=>by cases x<;>simp[ge]) xs
 cases b:m.S with
 |false=>have:=h.nm b;omega
 |true=>
  have h1:=h.st b;have d:m.L.toNat<=1:=AA;by_cases e:aS fP xs=0
  .omega
  .
   have:∀(xs:List b5),aS ge xs+aS fP xs<=xs.length:=by intro xs;induction xs with|nil=>simp[aS]|cons a xs c=>cases a<;>simp[aS,ge,fP]at c⊢ <;>omega
   grind
def sA{y}(hi:xs[i]?=some x)(b:∀v o,x≠ .eT v o)(a:∀v o,y≠ .eT v o){j:Nat}{v o:Nat}:(xs.set i y)[j]?=some (.eT v o)↔xs[j]?=some (.eT v o):=by grind
def dN.aof(h:dN m xs)(hi:xs[i]?=some x)(d:x=.mL\/x=.jq)(l:m.L=false)(k:m.S=false):dN {m with L:=true,W:=uD x m.W} (xs.set i .own):=by
 have c:=λf=>pB f xs i x .own hi;have o:=c hN;have a:=c gS;have p:=c er;have hd:=c fP;have ps:=c eI;have q:=c ge;have nm:=h.nm k;have g:=h.o;rw[l]at g;have n:m.W.toNat<=1:=vay _;rcases d with rfl|rfl;all_goals
  simp[hN,gS,er,fP,eI,ge,uD]at *;refine⟨AA,AA,λe=>?_,λe=>?_,λj v o b=>?_⟩
  .grind
  .exact absurd e.1 AS
  .have b:=(sA hi AS AS).1 b;exact⟨(h.eT j v o b).1,λ_ e=>absurd e.1 AS⟩
def dN.queue(h:dN m xs)(hi:xs[i]?=some b5.mL)(hq:m.L=true\/m.S=true):dN {m with k:=m.k+1} (xs.set i b5.km):=by
 have c:=λf=>pB f xs i b5.mL b5.km hi;have o:=c hN;have a:=c gS;have p:=c er;have hd:=c fP;have ps:=c eI;have q:=c ge;have l:=h.o;have d:m.W.toNat<=1:=vay _;have g:m.L.toNat<=1:=vay _;simp only[hN,gS,er,fP,eI,ge]at o a p hd ps q;refine⟨AA,λe=>?_,λe=>?_,λe=>?_,λj v o' b=>?_⟩
 .have:=h.nm e;grind
 .have:=h.st e;grind
 .exact absurd e (by rintro⟨e1,_,e3,_⟩;grind)
 .have b:=(sA hi AS AS).1 b;exact⟨(h.eT j v o' b).1,λ_ e=>absurd e (by rintro⟨e1,_,e3,_⟩;grind)⟩
def dN.aaS(h:dN m xs)(hi:xs[i]?=some .jq):m.S=false/\m.W=true/\aS gS xs=1/\aS er xs=0/\m.sema=0:=by have a:=Dc gS xs i .jq hi;have c:m.W.toNat<=1:=vay _;simp[gS]at a;cases b:m.S with|true=>have:=h.st b;omega|false=>have:=h.nm b;grind
def dN.aog(h:dN m xs)(hi:xs[i]?=some b5.jq)sv(r:m.L=true):dN {m with k:=m.k+1,W:=false,S:=sv} (xs.set i b5.km):=by
 have c:=λf=>pB f xs i b5.jq b5.km hi;have o:=c hN;have a:=c gS;have p:=c er;have hd:=c fP;have ps:=c eI;have q:=c ge;have d:=h.o;have s:m.W.toNat<=1:=vay _;have g:m.L.toNat<=1:=AA;simp only[hN,gS,er,fP,eI,ge]at o a p hd ps q;obtain⟨n,l,n1,ik,nE⟩:=h.aaS hi;have nm:=h.nm n;rw[l]at nm;rw[r]at d g;simp at nm d;refine⟨AA,λe=>?_,λe=>?_,λe=>absurd e.1 AA,λj v o' b=>?_⟩
 .grind
 .grind
 .have b:=(sA hi AS AS).1 b;exact⟨(h.eT j v o' b).1,λ_ e=>absurd e.1 AA⟩
def dN.aoh(h:dN m xs)(hi:xs[i]?=some b5.mL)(r:m.L=true)(g:m.S=false)(d:m.W=false):dN {m with W:=true} (xs.set i b5.jq):=by
 have c:=λf=>pB f xs i b5.mL b5.jq hi;have o:=c hN;have a:=c gS;have p:=c er;have hd:=c fP;have ps:=c eI;have q:=c ge;have n:=h.o;have k:m.W.toNat<=1:=AA;have l:m.L.toNat<=1:=AA;simp only[hN,gS,er,fP,eI,ge]at o a p hd ps q;have nm:=h.nm g;rw[d]at nm;simp at nm;refine⟨AA,λe=>?_,λe=>?_,λe=>absurd e.1 AA,λj v o' b=>?_⟩
 .grind
 .grind
 .have b:=(sA hi AS AS).1 b;exact⟨(h.eT j v o' b).1,λ_ e=>absurd e.1 AA⟩
def dN.aoi(h:dN m xs)(hi:xs[i]?=some b5.km)(d:m.S=false)(hs:0<m.sema):dN {m with sema:=m.sema-1} (xs.set i b5.jq):=by
 have c:=λf=>pB f xs i b5.km b5.jq hi;have o:=c hN;have a:=c gS;have p:=c er;have hd:=c fP;have ps:=c eI;have q:=c ge;have l:=h.o;have g:m.W.toNat<=1:=vay _;have k:m.L.toNat<=1:=vay _;simp only[hN,gS,er,fP,eI,ge]at o a p hd ps q;have nm:=h.nm d;have n:m.W=true:=by grind
 refine⟨AA,λe=>?_,λe=>?_,λe=>absurd e.2.1 AA,λj v o' b=>?_⟩
 .grind
 .grind
 .have b:=(sA hi AS AS).1 b;exact⟨(h.eT j v o' b).1,λ_ e=>absurd e.2.1 AA⟩
def dN.aoj(h:dN m xs)(hi:xs[i]?=some b5.km)(d:m.S=true)(hs:0<m.sema):dN {m with sema:=m.sema-1} (xs.set i b5.hand):=by
 have c:=λf=>pB f xs i b5.km b5.hand hi;have o:=c hN;have a:=c gS;have p:=c er;have hd:=c fP;have ps:=c eI;have q:=c ge;have l:=h.o;have g:m.W.toNat<=1:=vay _;have k:m.L.toNat<=1:=vay _;simp only[hN,gS,er,fP,eI,ge]at o a p hd ps q;have st:=h.st d;refine⟨AA,λe=>?_,λe=>?_,λe=>absurd e.2.2.1 AA,λj v o' b=>?_⟩
 .grind
 .grind
 .have b:=(sA hi AS AS).1 b;exact⟨(h.eT j v o' b).1,λ_ e=>absurd e.2.2.1 AA⟩
def dN.JY(h:dN m xs)(hi:xs[i]?=some .hand):m.S=true/\m.L=false/\m.W=false/\1<=m.k/\m.sema=0/\aS fP xs=1/\aS eI xs=0:=by have a:=Dc fP xs i .hand hi;have c:m.L.toNat<=1:=vay _;simp[fP]at a;cases b:m.S with|false=>have:=h.nm b;omega|true=>have:=h.st b;grind
def dN.handed(h:dN m xs)(hi:xs[i]?=some b5.hand)clear(s:clear=false->2<=m.k):dN {m with L:=true,k:=m.k-1,S:= !clear} (xs.set i b5.own):=by
 have c:=λf=>pB f xs i b5.hand b5.own hi;have o:=c hN;have a:=c gS;have p:=c er;have hd:=c fP;have ps:=c eI;have q:=c ge;have d:=h.o;have n:m.W.toNat<=1:=vay _;have r:m.L.toNat<=1:=vay _;simp only[hN,gS,er,fP,eI,ge]at o a p hd ps q;obtain⟨g,l,t,n1,ik,nE,qb⟩:=h.JY hi;have st:=h.st g;rw[l]at d st;simp at d st;refine⟨AA,λe=>?_,λe=>?_,λe=>absurd e.1 AS,λj v o' b=>?_⟩
 .grind
 .grind
 .have b:=(sA hi AS AS).1 b;exact⟨(h.eT j v o' b).1,λ_ e=>absurd e.1 AS⟩
def dN.NB(h:dN m xs)(hi:xs[i]?=some .own):m.L=true:=by have a:=Dc hN xs i .own hi;simp[hN]at a;have:=h.o;grind
def dN.aaT(h:dN m xs){j}(hi:xs[i]?=some .own)(c:xs[j]?=some .own):i=j:=by apply vaz;intro b;have a:=Tv hN xs i j .own .own hi c b;simp only[hN]at a;have:=h.o;grind[Bool.toNat_le]
def dN.aok(h:dN m xs)(hi:xs[i]?=some b5.own)(g:m.S=true):dN {m with L:=false} (xs.set i b5.ps):=by
 have c:=λf=>pB f xs i b5.own b5.ps hi;have o:=c hN;have a:=c gS;have p:=c er;have hd:=c fP;have ps:=c eI;have q:=c ge;have d:=h.o;have l:m.W.toNat<=1:=vay _;have n:m.L.toNat<=1:=vay _;simp only[hN,gS,er,fP,eI,ge]at o a p hd ps q;have k:=h.NB hi;have st:=h.st g;rw[k]at d st;simp at d st;refine⟨AA,λe=>?_,λe=>?_,λe=>absurd e.2.2.1 AA,λj v o' b=>?_⟩
 .grind
 .grind
 .have b:=(sA hi AS AS).1 b;exact⟨(h.eT j v o' b).1,λ_ e=>absurd e.2.2.1 AA⟩
def dN.aol(h:dN m xs)(hi:xs[i]?=some .own)(g:m.S=false)(hk:m.k=0):dN {m with L:=false} (xs.set i .idle):=by
 have c:=λf=>pB f xs i .own .idle hi;have o:=c hN;have a:=c gS;have p:=c er;have hd:=c fP;have ps:=c eI;have q:=c ge;have d:=h.o;have k:=h.NB hi;simp only[hN,gS,er,fP,eI,ge]at o a p hd ps q;have nm:=h.nm g;rw[k]at d;simp at d;refine⟨AA,λe=>?_,λe=>?_,λe=>absurd e.2.2.2 AA,λj v o' b=>?_⟩
 .grind
 .grind
 .have b:=(sA hi AS AS).1 b;exact⟨(h.eT j v o' b).1,λ_ e=>absurd e.2.2.2 AA⟩
def dN.aom(h:dN m xs)(hi:xs[i]?=some .own)(l:m.S=false):dN {m with L:=false,gR:=m.gR+1} (xs.set i (.eT (m.gR+1) ({m with L:=false}:be).word)):=by
 have c:=λf=>pB f xs i .own (.eT (m.gR+1) ({m with L:=false}:be).word) hi;have o:=c hN;have a:=c gS;have p:=c er;have hd:=c fP;have ps:=c eI;have q:=c ge;have g:=h.o;have n:=h.NB hi;have b:i<xs.length:=(vab.1 hi).1;simp only[hN,gS,er,fP,eI,ge]at o a p hd ps q;have nm:=h.nm l;rw[n]at g;simp at g;refine⟨AA,λe=>?_,λe=>?_,λe=>⟨i,by rw[vck b];rfl⟩,λj v o' d=>?_⟩
 .grind
 .grind
 .by_cases k:j=i
  .subst k;rw[vck b]at d;simp at d;obtain⟨rfl,rfl⟩:=d;exact⟨vac _,λ_ _=>Y⟩
  .rw[vbg (Ne.symm k)]at d;have:=(h.eT j v o' d).1;grind
def dN.Tx(h:dN m xs){v o}(hi:xs[i]?=some (.eT v o))(g:m.jP):dN {m with k:=m.k-1,W:=true} (xs.set i .ru):=by
 have c:=λf=>pB f xs i (.eT v o) .ru hi;have o':=c hN;have a:=c gS;have p:=c er;have hd:=c fP;have ps:=c eI;have q:=c ge;have t:=h.o;have d:i<xs.length:=(vab.1 hi).1;simp only[hN,gS,er,fP,eI,ge]at o' a p hd ps q;obtain⟨u,l,n,hk⟩:=g;have nm:=h.nm n;rw[l]at nm;simp at nm;refine⟨AA,λe=>?_,λe=>?_,λe=>absurd e.2.1 AS,λj v' s b=>?_⟩
 .grind
 .grind
 .by_cases r:j=i
  .grind
  .rw[vbg (Ne.symm r)]at b;exact⟨(h.eT j v' s b).1,λ_ e=>absurd e.2.1 AS⟩
theorem dN.leave(h:dN m xs){v o}(hi:xs[i]?=some (.eT v o))(hn:¬(m.jP/\m.gR=v)):dN m (xs.set i .idle):=by
 have c:=λf=>pB f xs i (.eT v o) .idle hi;have o':=c hN;have a:=c gS;have p:=c er;have hd:=c fP;have ps:=c eI;have q:=c ge;have l:=h.o;have d:i<xs.length:=(vab.1 hi).1;simp only[hN,gS,er,fP,eI,ge]at o' a p hd ps q;refine⟨AQ,λe=>?_,λe=>?_,λe=>?_,λj v' k b=>?_⟩
 .have:=h.nm e;omega
 .have:=h.st e;grind
 .obtain⟨j,b⟩:=h.q1 e;refine⟨j,?_⟩;grind
 .by_cases g:j=i
  .grind
  .rw[vbg (Ne.symm g)]at b;exact h.eT j v' k b
def dN.aon(h:dN m xs)(hi:xs[i]?=some b5.ru):dN {m with sema:=m.sema+1} (xs.set i b5.idle):=by
 have c:=λf=>pB f xs i b5.ru b5.idle hi;have o:=c hN;have a:=c gS;have p:=c er;have hd:=c fP;have ps:=c eI;have q:=c ge;have k:=h.o;have d:m.W.toNat<=1:=vay _;have g:m.L.toNat<=1:=vay _;simp only[hN,gS,er,fP,eI,ge]at o a p hd ps q;refine⟨AA,λe=>?_,λe=>?_,λe=>?_,λj v o' b=>?_⟩
 .have:=h.nm e;grind
 .have:=h.st e;grind
 .obtain⟨j,b⟩:=h.q1 e;exact⟨j,(sA hi AS AS).2 b⟩
 .have b:=(sA hi AS AS).1 b;exact h.eT j v o' b
def dN.aoo(h:dN m xs)(hi:xs[i]?=some b5.ps):dN {m with sema:=m.sema+1} (xs.set i b5.idle):=by
 have c:=λf=>pB f xs i b5.ps b5.idle hi;have o:=c hN;have a:=c gS;have p:=c er;have hd:=c fP;have ps:=c eI;have q:=c ge;have k:=h.o;have d:m.W.toNat<=1:=vay _;have g:m.L.toNat<=1:=vay _;simp only[hN,gS,er,fP,eI,ge]at o a p hd ps q;refine⟨AA,λe=>?_,λe=>?_,λe=>?_,λj v o' b=>?_⟩
 .have:=h.nm e;grind
 .have:=h.st e;grind
 .obtain⟨j,b⟩:=h.q1 e;exact⟨j,(sA hi AS AS).2 b⟩
 .have b:=(sA hi AS AS).1 b;exact h.eT j v o' b
def dN.start(h:dN m xs)(hi:xs[i]?=some b5.idle):dN m (xs.set i b5.mL):=by
 have c:=λf=>pB f xs i b5.idle b5.mL hi;have o:=c hN;have a:=c gS;have p:=c er;have hd:=c fP;have ps:=c eI;have q:=c ge;have k:=h.o;have d:m.W.toNat<=1:=vay _;have g:m.L.toNat<=1:=vay _;simp only[hN,gS,er,fP,eI,ge]at o a p hd ps q;refine⟨AQ,λe=>?_,λe=>?_,λe=>?_,λj v o' b=>?_⟩
 .have:=h.nm e;omega
 .have:=h.st e;grind
 .obtain⟨j,b⟩:=h.q1 e;exact⟨j,AA⟩
 .have b:=(sA hi AS AS).1 b;exact h.eT j v o' b
def dN.alive(h:dN m xs)(hs:m.sema=0)(hi:xs[i]?=some .km):∃(j:Nat)(y:b5),xs[j]?=some y/\y≠ .idle/\y≠ .km:=by
 apply vaz;intro hn;have all:∀(j:Nat)(y:b5),xs[j]?=some y->y=.idle\/y=.km:=AA;have z:∀f:b5->Nat,f .idle=0->f .km=0->aS f xs=0:=λf h1 h2=>aaR f xs AA;have o:=z hN Y Y;have a:=z gS Y Y;have p:=z er Y Y;have hd:=z fP Y Y;have ps:=z eI Y Y;have q:=Dc ge xs i .km hi;simp[ge]at q;have e:=h.o;have d:m.L=false:=by grind
 cases b:m.S with
 |true=>have:=h.st b;grind
 |false=>
  have nm:=h.nm b;have c:m.W=false:=by grind
  obtain⟨j,g⟩:=h.q1 ⟨d,c,b,AQ⟩;grind
def dN.push(h:dN m xs):dN m (xs++[.idle]):=by
 have c:=λf=>Tw f xs .idle;have o:=c hN;have a:=c gS;have p:=c er;have hd:=c fP;have ps:=c eI;have q:=c ge;simp only[hN,gS,er,fP,eI,ge]at o a p hd ps q;have i:=h.o;refine⟨AQ,λe=>?_,λe=>?_,λe=>?_,λj v o' d=>?_⟩
 .have:=h.nm e;omega
 .have:=h.st e;grind
 .obtain⟨j,d⟩:=h.q1 e;have b:j<xs.length:=(vab.1 d).1;exact⟨j,AA⟩
 .rcases vdz j xs.length with b|g
  .rw[veu b]at d;exact h.eT j v o' d
  grind
end
def yY(z:b5)(m m1:be):Prop:=(z=.hand->m.k<=m1.k)/\∀v o,z=.eT v o->¬(m.jP/\m.gR=v)->¬(m1.jP/\m1.gR=v)
theorem yY.refl z m:yY z m m:=⟨AA,λ_ _ _ h=>h⟩
theorem yY.trans{z a b c}(h:yY z a b)(d:yY z b c):yY z a c:=⟨λe=>vad (h.1 e) (d.1 e),λv o e n=>d.2 v o e (h.2 v o e n)⟩
structure mm(x y:b5)(m m1:be)(f f1:Nat):Prop where
 inv:∀(xs:List b5)(i:Nat),xs[i]?=some x->dN m xs->dN m1 (xs.set i y)
 fuel:∀(xs:List b5)(i:Nat),xs[i]?=some x->dN m xs->f1+2*rx m1 (xs.set i y)+1<=f+2*rx m xs
 ln:∀(xs:List b5)(i j:Nat)(z:b5),dN m xs->xs[i]?=some x->j≠i->xs[j]?=some z->yY z m m1
section
variable{m:be}{f f1:Nat}
def ry{xs i x}(hi:xs[i]?=some x)m1 y:rx m1 (xs.set i y)+er x+eI x+m.sema=rx m xs+er y+eI y+m1.sema:=by grind[pB,rx]
def xG{z m1}(hk:m.k<=m1.k)(a:m1.jP->m.jP/\m1.gR=m.gR):yY z m m1:=⟨λ_=>hk,AA⟩
def tr(a:f1<f)x:mm x x m m f f1:=by
 have e:∀(xs:List b5)(i:Nat),xs[i]?=some x->xs.set i x=xs:=λxs i hi=>by apply vbw;grind
 exact⟨AA,AA,λ_ _ _ z _ _ _ _=>.refl z m⟩
def aop(a:f1<f):mm .idle .mL m m f f1:=
 ⟨λxs i hi h=>h.start hi,λxs i hi _=>by have:=ry (m:=m) hi m .mL;grind[er,eI],λ_ _ _ z _ _ _ _=>.refl z m⟩
def Tz{x}(a:x=.mL\/x=.jq)(c:m.L=false)(b:m.S=false)(d:f1<f):mm x .own m {m with L:=true,W:=uD x m.W} f f1:=
 ⟨λxs i hi h=>h.aof hi a c b,λxs i hi _=>by
  have:=ry (m:=m) hi {m with L:=true,W:=uD x m.W} .own;rcases a with rfl|rfl<;>simp[er,eI]at this⊢ <;>omega,
  λ_ _ _ z _ _ _ _=>xG JR (λe=>absurd e.1 AS)⟩
def aaU(hq:m.L=true\/m.S=true)(a:f1<f):mm .mL .km m {m with k:=m.k+1} f f1:=
 ⟨λxs i hi h=>h.queue hi hq,λxs i hi _=>by have:=ry (m:=m) hi {m with k:=m.k+1} .km;grind[er,eI],
  λ_ _ _ z _ _ _ _=>xG (vct _) (λe=>by obtain⟨e1,_,e3,_⟩:=e;grind)⟩
def aaV sv(a:m.L=true)(b:f1<f):mm .jq .km m {m with k:=m.k+1,W:=false,S:=sv} f f1:=
 ⟨λxs i hi h=>h.aog hi sv a,λxs i hi _=>by have:=ry (m:=m) hi {m with k:=m.k+1,W:=false,S:=sv} .km;grind[er,eI],
  λ_ _ _ z _ _ _ _=>xG (vct _) (λe=>absurd e.1 AA)⟩
def aoq(c:m.L=true)(b:m.S=false)(a:m.W=false)(d:f1<f):mm .mL .jq m {m with W:=true} f f1:=
 ⟨λxs i hi h=>h.aoh hi c b a,λxs i hi _=>by have:=ry (m:=m) hi {m with W:=true} .jq;grind[er,eI],
  λ_ _ _ z _ _ _ _=>xG JR (λe=>absurd e.1 AA)⟩
def aor(a:m.S=false)(hs:0<m.sema)(b:f1<f+2):mm .km .jq m {m with sema:=m.sema-1} f f1:=
 ⟨λxs i hi h=>h.aoi hi a hs,λxs i hi _=>by have:=ry (m:=m) hi {m with sema:=m.sema-1} .jq;grind[er,eI],
  λ_ _ _ z _ _ _ _=>xG JR (λe=>⟨e,Y⟩)⟩
def aos(a:m.S=true)(hs:0<m.sema)(b:f1<f+2):mm .km .hand m {m with sema:=m.sema-1} f f1:=
 ⟨λxs i hi h=>h.aoj hi a hs,λxs i hi _=>by have:=ry (m:=m) hi {m with sema:=m.sema-1} .hand;grind[er,eI],
  λ_ _ _ z _ _ _ _=>xG JR (λe=>⟨e,Y⟩)⟩
def aot clear(c:clear=false->2<=m.k)(d:f1<f):mm .hand .own m {m with L:=true,k:=m.k-1,S:= !clear} f f1:=
 ⟨λxs i hi h=>h.handed hi clear c,λxs i hi _=>by have:=ry (m:=m) hi {m with L:=true,k:=m.k-1,S:= !clear} .own;grind[er,eI],
  λxs i j z h hi b a=>⟨λe=>by
   subst e;have:=Tv fP xs i j .hand .hand hi a (Ne.symm b);have h1:=(h.JY hi).2.2.2.2.2.1;grind[fP],λ_ _ _ _ e=>absurd e.1.1 AS⟩⟩
def aou(a:m.S=true)(b:f1+2<f):mm .own .ps m {m with L:=false} f f1:=
 ⟨λxs i hi h=>h.aok hi a,λxs i hi _=>by have:=ry (m:=m) hi {m with L:=false} .ps;grind[er,eI],
  λ_ _ _ z _ _ _ _=>xG JR (λe=>absurd e.2.2.1 AA)⟩
def aov(a:m.S=false)(hk:m.k=0)(b:f1<f):mm .own .idle m {m with L:=false} f f1:=
 ⟨λxs i hi h=>h.aol hi a hk,λxs i hi _=>by have:=ry (m:=m) hi {m with L:=false} .idle;grind[er,eI],
  λ_ _ _ z _ _ _ _=>xG JR (λe=>absurd e.2.2.2 AA)⟩
def aow(b:m.S=false)(d:f1<f):mm .own (.eT (m.gR+1) ({m with L:=false}:be).word) m {m with L:=false,gR:=m.gR+1} f f1:=
 ⟨λxs i hi h=>h.aom hi b,λxs i hi _=>by have:=ry (m:=m) hi {m with L:=false,gR:=m.gR+1} (.eT (m.gR+1) ({m with L:=false}:be).word);grind[er,eI],
  λxs i j z h hi c a=>⟨AA,λv o e _ g=>by
   subst e;have:=(h.eT j v o a).1;grind⟩⟩
def aox{v o}(a:m.jP)(d:f1+2<f):mm (.eT v o) .ru m {m with k:=m.k-1,W:=true} f f1:=
 ⟨λxs i hi h=>h.Tx hi a,λxs i hi _=>by have:=ry (m:=m) hi {m with k:=m.k-1,W:=true} .ru;grind[er,eI],
  λxs i j z h hi c b=>⟨λe=>by
   subst e;have:=(h.JY b).1;rw[a.2.2.1]at this;grind,AA⟩⟩
def aoy{v o}(hn:¬(m.jP/\m.gR=v))(a:f1<f):mm (.eT v o) .idle m m f f1:=
 ⟨λxs i hi h=>h.leave hi hn,λxs i hi _=>by have:=ry (m:=m) hi m .idle;grind[er,eI],λ_ _ _ z _ _ _ _=>.refl z m⟩
def aoz(a:f1<f):mm .ru .idle m {m with sema:=m.sema+1} f f1:=
 ⟨λxs i hi h=>h.aon hi,λxs i hi _=>Hk,λ_ _ _ z _ _ _ _=>xG JR (λe=>⟨e,Y⟩)⟩
def aoA(a:f1<f):mm .ps .idle m {m with sema:=m.sema+1} f f1:=
 ⟨λxs i hi h=>h.aoo hi,λxs i hi _=>Hk,λ_ _ _ z _ _ _ _=>xG JR (λe=>⟨e,Y⟩)⟩
end
end ah
namespace eK
inductive aoY where
 |free
 |has (p:Nat)
 |half (p:Nat) (v:Value)
 |rel
 |oh
 |lb
inductive J6 where
 |spawn (k:Nat) (pend:Bool)
 |qx
 |tB
 |over
inductive At where
 |main (s:J6)
 |work (s:aoY) (put:uad)
 |gone (put:uad)
 |old
structure cO where
 aS:Nat
 eF:Bool
 gT:Nat
 taken:Nat
 came:Nat
 done:List Value
 least:Option Nat
def gI:At->Nat
 | .main (.spawn _ true)=>1
 | .work .free _ | .work (.has _) _ | .work (.half _ _) _ | .work .rel _=>1
 | _=>0
def gU:At->Nat| .work .oh _=>1| _=>0
def g6:At->Nat| .work .lb _=>1| _=>0
def yZ:At->Bool
 | .work .rel _ | .work .oh _ | .work .lb _ | .gone _=>true
 | _=>false
def ou:At->List (Nat×Value)
 | .work _ l| .gone l=>l
 | _=>[]
def hand:At->List Nat
 | .work (.has p) _ | .work (.half p _) _=>[p]
 | _=>[]
def laid:At->List (Nat×Value)
 | .work (.half p v) l=>(p,v)::l
 | .work _ l| .gone l=>l
 | _=>[]
def eb(p:Nat)(a:At):Nat:=(hand a).count p+((ou a).map (·.1)).count p
def ed(p:Nat)(a:At):Nat:=((ou a).map (·.1)).count p
def dI(f:At->Nat)(aB:List At):Nat:=(aB.map f).sum
theorem uG f:∀aB i x y,aB[i]?=some x->dI f (aB.set i y)+f x=dI f aB+f y
 | [],i,x,y,h=>AA
 |a::aB,0,x,y,h=>by grind[dI]
 |a::aB,i+1,x,y,h=>by have:=uG f aB i x y Dt;simp[dI]at this⊢;omega
theorem o5 f:∀(aB:List At)(i:Nat)(x:At),aB[i]?=some x->f x<=dI f aB
 | [],i,x,h=>AA
 |a::aB,0,x,h=>by grind[dI]
 |a::aB,i+1,x,h=>by have:=o5 f aB i x Dt;simp[dI]at this⊢;omega
def aoZ f aB y:dI f (aB++[y])=dI f aB+f y:=by simp[dI]
theorem NK f:∀aB,(∀(i:Nat) x,aB[i]?=some x->f x=0)->dI f aB=0
 | [],_=>by simp[dI]
 |a::aB,h=>by have h1:=h 0 a AS;have h2:=NK f aB λi x hi=>h (i+1) x (by simpa using hi);simp[dI]at h2⊢;omega
def je(f:uas):Nat->Nat
 |0=>0
 |n+1=>je f n+f n
theorem aa3{f g}:∀{n:Nat},(∀p,p<n->f p<=g p)->je f n<=je g n
 |0,_=>vac _
 |n+1,h=>by have:=aa3 (n:=n) λp a=>h p AQ;grind[je]
theorem NL{f g}:∀{n:Nat},(∀p,p<n->f p=g p)->je f n=je g n
 |0,_=>rfl
 |n+1,h=>by have h1:=NL (n:=n) λp a=>h p AQ;have h2:=h n AQ;simp[je];omega
theorem aa4{f g q d}:∀{n:Nat},q<n->(∀p,p≠q->g p=f p)->g q=f q+d->je g n=je f n+d
 |0,h,_,_=>AQ
 |n+1,h,h1,h2=>by
  simp[je];by_cases e:q=n
  .grind[NL]
  .have:=aa4 (n:=n) AQ h1 h2;grind
def vK(s:J6)(b:cO)(aB:List At):Prop:=
 match s with
 | .spawn _ _ | .qx=>b.eF=false/\b.gT=0/\dI gU aB=0/\dI g6 aB=0
 | .tB=>(b.eF=true/\b.gT=0/\dI g6 aB=0/\((0<b.aS/\dI gU aB=0)\/(b.aS=0/\dI gU aB=1)))\/(b.eF=false/\b.aS=0/\dI gU aB=0/\b.gT+dI g6 aB=1)
 | .over=>b.eF=false/\b.aS=0/\b.gT=0/\dI gU aB=0/\dI g6 aB=0
def TP(m:Nat)(aB:List At):Prop:=∀k q,aB[0]?=some (.main (.spawn k q))->aB.length=m+k
def aa5:At->Bool
 | .work _ _ | .gone _=>true
 | _=>false
def J7(m:Nat)(aB:List At):Prop:=∀s,aB[0]?=some (.main s)->(∃q,s=.spawn 0 q)\/∃a,aB[m]?=some a/\aa5 a=true
def Low(N:Nat)(cq:ube)(L:ubg)(put:uas):Prop:=(∀q,L=some q->cq q=true/\q<N)/\∀p,cq p=true->0<put p->∃q,L=some q/\q<=p
structure db(N:Nat)(rows:uas)(cq:ube)(b:cO)(aB:List At):Prop where
 pD:TP (rows N) aB
 tC:J7 (rows N) aB
 main:∃s,aB[0]?=some (.main s)/\vK s b aB
 only:∀(j:Nat) s,aB[j]?=some (.main s)->j=0
 aS:b.aS=dI gI aB
 aX:b.taken<=N
 len:b.done.length=N
 own:∀p,dI (eb p) aB=if p<b.taken then 1 else 0
 val:∀(j:Nat) a,aB[j]?=some a->∀pv∈laid a,cq pv.1=false->b.done[pv.1]?=some pv.2
 came:b.came=je (λp=>dI (ed p) aB*rows p) N/\Low N cq b.least λp=>dI (ed p) aB
 dF:(∃(j:Nat)(a:At),aB[j]?=some a/\yZ a=true)->b.taken=N
variable{v:Value}
section
variable{N:Nat}{rows:uas}{cq:ube}{b:cO}{aB:List At}{i:Nat}
def xK{m x y}(h:TP m aB)(hi:aB[i]?=some x)(c:∀k q,y=.main (.spawn k q)->∃a,x=.main (.spawn k a)):TP m (aB.set i y):=by
 intro k q hk;rw[vdq];have b:i<aB.length:=(vab.1 hi).1;by_cases e:i=0
 .subst e;rw[vck b]at hk;obtain⟨a,rfl⟩:=c k q AA;exact h k a hi
 .rw[vbg e]at hk;exact h k q hk
def y0{m x y}(h:J7 m aB)(hi:aB[i]?=some x)(h0:i≠0)(b:aa5 y=true):J7 m (aB.set i y):=by intro s hs;rw[vbg h0]at hs;refine(h s hs).imp id λ⟨a,d,c⟩=>?_;grind
def ao0{m s jJ}(h:J7 m aB)(hi:aB[0]?=some (.main s))(hs:∀q,s=.spawn 0 q->∃e,jJ=.spawn 0 e):J7 m (aB.set 0 (.main jJ)):=by
 intro tb h2;have b:0<aB.length:=(vab.1 hi).1;rw[vck b]at h2;cases h2;refine(h s hi).imp AA λ⟨a,d,c⟩=>⟨a,?_,c⟩;have:0≠m:=by rintro rfl;rw[hi]at d;cases d;cases c
 grind
def ao1 p a:ed p a<=eb p a:=Nat.le_add_left _ _
theorem aa6{f g}(h:∀a,f a<=g a):∀aB,dI f aB<=dI g aB
 | []=>by simp[dI]
 |a::aB=>by have:=aa6 h aB;grind[dI]
def db.aa7(h:db N rows cq b aB):b.came<=je rows N:=by rw[h.came.1];refine aa3 λp _=>?_;have h1:=aa6 (ao1 p) aB;have h2:=h.own p;grind[Nat.le_one_iff_eq_zero_or_eq_one]
def y1{x}(h:db N rows cq b aB)(hi:aB[i]?=some x)(a:∀s,x≠ .main s):i≠0:=by rintro rfl;obtain⟨s,hs,_⟩:=h.main;grind
theorem aa8 f:∀(aB:List At)(i j:Nat)(x y:At),aB[i]?=some x->aB[j]?=some y->i≠j->f x+f y<=dI f aB
 | [],i,j,x,y,h,_,_=>AA
 |a::aB,0,0,x,y,_,_,h=>absurd Y h
 |a::aB,0,j+1,x,y,c,b,_=>by simp at c b;subst c;have:=o5 f aB j y b;grind[dI]
 |a::aB,i+1,0,x,y,c,b,_=>by simp at c b;subst b;have:=o5 f aB i x c;grind[dI]
 |a::aB,i+1,j+1,x,y,c,b,h=>by have:=aa8 f aB i j x y I4 (by simpa using b) AQ;simp[dI]at this⊢;omega
def ao2{a p}(h:(p,v)∈laid a):1<=eb p a:=by
 unfold eb;cases a with
 |main s=>simp[laid]at h
 |old=>simp[laid]at h
 |gone l=>have:p∈l.map (·.1):=vbl.2 ⟨_,h,Y⟩;grind[ou]
 |work s l=>
  have key:∀{l:uad},(p,v)∈l->1<=(l.map (·.1)).count p:=λh=>veq.2 AA;cases s with
  |half q u=>
   simp[laid]at h;rcases h with⟨rfl,rfl⟩|h
   .simp[hand]
   grind[ou]
  | _=>have:=key (show(p,v)∈l from h);grind[ou]
theorem J8{s b b1 aB a}(h1:b1.aS=b.aS)(h2:b1.eF=b.eF)(h3:b1.gT=b.gT)(h4:dI gU a=dI gU aB)(c:dI g6 a=dI g6 aB)(h:vK s b aB):vK s b1 a:=by simp_all[vK]
def jb{aB:List At}{i j x y a}(hi:aB[i]?=some x)(h:(aB.set i y)[j]?=some a):(j=i/\a=y)\/(j≠i/\aB[j]?=some a):=by grind
def db.take(h:db N rows cq b aB){l}(a5:b.taken<N)(hi:aB[i]?=some (.work .free l)):db N rows cq {b with taken:=b.taken+1} (aB.set i (.work (.has b.taken) l)):=by
 have h0:i≠0:=y1 h hi AS;have c:=λf=>uG f aB i (.work .free l) (.work (.has b.taken) l) hi;have c1:=c gI;have bt:=c gU;have cF:=c g6;simp only[gI,gU,g6]at c1 bt cF;have t:=h.aS;obtain⟨s,hs,r⟩:=h.main;refine⟨xK h.pD hi AA,y0 h.tC hi h0 Y,⟨s,AA,?_⟩,λj s' g=>?_,AA,AA,h.len,λd=>?_,λj a g pv k m=>?_,?_,λ⟨j,a,g,o⟩=>?_⟩
 .grind[J8]
 .rcases jb hi g with⟨_,e⟩|⟨_,e⟩
  .cases e
  .exact h.only j s' e
 .have:=c (eb d);have e:=h.own d;simp only[eb,hand,ou,List.count_nil,List.count_singleton]at this;simp only;by_cases q:d=b.taken
  .grind
  grind
 .rcases jb hi g with⟨rfl,rfl⟩|⟨n,e⟩
  .exact h.val j _ hi pv k m
  .exact h.val j a e pv k m
 .have e:∀d,dI (ed d) (aB.set i (.work (.has b.taken) l))=dI (ed d) aB:=λd=>by have:=c (ed d);have p:ed d (.work (.has b.taken) l)=ed d (.work .free l):=rfl;grind
  simp only[e];exact h.came
 .rcases jb hi g with⟨rfl,rfl⟩|⟨_,e⟩
  .simp[yZ]at o
  .have:=h.dF AA;omega
def db.lay(h:db N rows cq b aB){p l}(hi:aB[i]?=some (.work (.has p) l)):db N rows cq {b with done:=b.done.set p v} (aB.set i (.work (.half p v) l)):=by
 have h0:i≠0:=y1 h hi AS;have c:=λf=>uG f aB i (.work (.has p) l) (.work (.half p v) l) hi;have c1:=c gI;have bt:=c gU;have cF:=c g6;simp only[gI,gU,g6]at c1 bt cF;have u:=h.aS;obtain⟨s,hs,t⟩:=h.main;refine⟨xK h.pD hi AA,y0 h.tC hi h0 Y,⟨s,AA,?_⟩,λj s' k=>?_,AA,h.aX,by simp;exact h.len,λd=>?_,λj a k pv m n=>?_,?_,λ⟨j,a,k,q⟩=>?_⟩
 .grind[J8]
 .rcases jb hi k with⟨_,e⟩|⟨_,e⟩
  .cases e
  .exact h.only j s' e
 .have:=c (eb d);have e:=h.own d;have o:eb d (.work (.half p v) l)=eb d (.work (.has p) l):=rfl;grind
 .rcases jb hi k with⟨rfl,rfl⟩|⟨g,e⟩
  .have r:p<b.done.length:=by
    have e:=h.own p;have:=o5 (eb p) aB j _ hi;have e1:1<=eb p (.work (.has p) l):=by simp[eb,hand]
    rw[h.len];have:=h.aX;grind
   simp[laid]at m;rcases m with rfl|m
   .grind
   .have g:pv.1≠p:=λe=>by have h1:1<=(l.map (·.1)).count p:=veq.2 AA;have e2:=h.own p;grind[o5,eb,hand,ou]
    simp only;rw[vbg (Ne.symm g)];exact h.val j _ hi pv m n
  .have g:pv.1≠p:=λw=>by
    have h1:1<=eb p a:=ao2 (v:=pv.2) AA;have:=aa8 (eb p) aB i j _ _ hi e (Ne.symm g);have e1:1<=eb p (.work (.has p) l):=by simp[eb,hand]
    have e2:=h.own p;grind
   simp only;rw[vbg (Ne.symm g)];exact h.val j a e pv m n
 .have e:∀d,dI (ed d) (aB.set i (.work (.half p v) l))=dI (ed d) aB:=λd=>by have:=c (ed d);have o:ed d (.work (.half p v) l)=ed d (.work (.has p) l):=rfl;grind
  simp only[e];exact h.came
 .rcases jb hi k with⟨rfl,rfl⟩|⟨_,e⟩
  .simp[yZ]at q
  .exact h.dF AA
def db.count(h:db N rows cq b aB){p l}(w:cq p=false)(hi:aB[i]?=some (.work (.half p v) l)):db N rows cq {b with came:=b.came+rows p} (aB.set i (.work .free ((p,v)::l))):=by
 have h0:i≠0:=y1 h hi AS;have c:=λf=>uG f aB i (.work (.half p v) l) (.work .free ((p,v)::l)) hi;have c1:=c gI;have bt:=c gU;have cF:=c g6;simp only[gI,gU,g6]at c1 bt cF;have u:=h.aS;obtain⟨s,hs,t⟩:=h.main;refine⟨xK h.pD hi AA,y0 h.tC hi h0 Y,⟨s,AA,?_⟩,λj s' g=>?_,AA,h.aX,h.len,λd=>?_,λj a g pv k m=>?_,?_,λ⟨j,a,g,q⟩=>?_⟩
 .grind[J8]
 .rcases jb hi g with⟨_,e⟩|⟨_,e⟩
  .cases e
  .exact h.only j s' e
 .have:=c (eb d);have e:=h.own d;grind[eb,hand,ou]
 .rcases jb hi g with⟨rfl,rfl⟩|⟨o,e⟩
  .exact h.val j _ hi pv k m
  .exact h.val j a e pv k m
 .have r:p<N:=by
   have e:=h.own p;have:=o5 (eb p) aB i _ hi;have e1:1<=eb p (.work (.half p v) l):=by simp[eb,hand]
   have:=h.aX;grind
  simp only;refine⟨?_,h.came.2.1,λd n h0=>h.came.2.2 d n ?_⟩
  .rw[h.came.1];grind[aa4,ed,ou]
  .have:=c (ed d);grind[ed,ou]
 .rcases jb hi g with⟨rfl,rfl⟩|⟨_,e⟩
  .simp[yZ]at q
  .exact h.dF AA
def db.low(h:db N rows cq b aB){p l}(f:cq p=true)(hq:∀q,b.least=some q->p<=q)(hi:aB[i]?=some (.work (.has p) l)):db N rows cq {b with least:=some p} (aB.set i (.work (.has p) l)):=by
 have e:aB.set i (.work (.has p) l)=aB:=by obtain⟨h1,h2⟩:=vab.1 hi;rw[<-h2];exact List.set_getElem_self h1
 rw[e];have d:p<N:=by
  have e:=h.own p;have:=o5 (eb p) aB i _ hi;have e1:1<=eb p (.work (.has p) l):=by simp[eb,hand]
  have:=h.aX;grind
 exact⟨h.pD,h.tC,h.main,h.only,h.aS,h.aX,h.len,h.own,h.val,⟨h.came.1,AA,λa c h0=>by obtain⟨q,h1,h2⟩:=h.came.2.2 a c h0;exact⟨p,Y,vad (hq q h1) h2⟩⟩,h.dF⟩
def db.fail(h:db N rows cq b aB){p l}(x:cq p=true)(t:rows p=0)(hq:∃q,b.least=some q/\q<=p)(hi:aB[i]?=some (.work (.has p) l)):db N rows cq b (aB.set i (.work .free ((p,v)::l))):=by
 have h0:i≠0:=y1 h hi AS;have c:=λf=>uG f aB i (.work (.has p) l) (.work .free ((p,v)::l)) hi;have c1:=c gI;have bt:=c gU;have cF:=c g6;simp only[gI,gU,g6]at c1 bt cF;have w:=h.aS;obtain⟨s,hs,u⟩:=h.main;refine⟨xK h.pD hi AA,y0 h.tC hi h0 Y,⟨s,AA,?_⟩,λj s' g=>?_,AA,h.aX,h.len,λd=>?_,λj a g pv k m=>?_,?_,λ⟨j,a,g,r⟩=>?_⟩
 .grind[J8]
 .rcases jb hi g with⟨_,e⟩|⟨_,e⟩
  .cases e
  .exact h.only j s' e
 .have:=c (eb d);have e:=h.own d;grind[eb,hand,ou]
 .rcases jb hi g with⟨rfl,rfl⟩|⟨o,e⟩
  .simp only[laid,vaw]at k;rcases k with rfl|k
   .grind
   .exact h.val j _ hi pv k m
  .exact h.val j a e pv k m
 .refine⟨?_,h.came.2.1,λd n h1=>?_⟩
  .rw[h.came.1];refine NL λd _=>?_;have:=c (ed d);by_cases e:d=p
   .grind
   .grind[ed,ou]
  .by_cases e:d=p
   .grind
   .have:=c (ed d);exact h.came.2.2 d n (by grind[ed,ou])
 .rcases jb hi g with⟨rfl,rfl⟩|⟨_,e⟩
  .simp[yZ]at r
  .exact h.dF AA
def db.release(h:db N rows cq b aB){l}(a5:b.taken=N)(hi:aB[i]?=some (.work .free l)):db N rows cq b (aB.set i (.work .rel l)):=by
 have h0:i≠0:=y1 h hi AS;have c:=λf=>uG f aB i (.work .free l) (.work .rel l) hi;have c1:=c gI;have bt:=c gU;have cF:=c g6;simp only[gI,gU,g6]at c1 bt cF;have r:=h.aS;obtain⟨s,hs,p⟩:=h.main;refine⟨xK h.pD hi AA,y0 h.tC hi h0 Y,⟨s,AA,?_⟩,λj s' g=>?_,AQ,h.aX,h.len,λd=>?_,λj a g pv k m=>?_,?_,λ⟨j,a,g,q⟩=>?_⟩
 .grind[J8]
 .rcases jb hi g with⟨_,e⟩|⟨_,e⟩
  .cases e
  .exact h.only j s' e
 .have:=c (eb d);have e:=h.own d;have n:eb d (.work .rel l)=eb d (.work .free l):=rfl;grind
 .rcases jb hi g with⟨rfl,rfl⟩|⟨o,e⟩
  .exact h.val j _ hi pv k m
  .exact h.val j a e pv k m
 .have e:∀d,dI (ed d) (aB.set i (.work .rel l))=dI (ed d) aB:=λd=>by have:=c (ed d);have n:ed d (.work .rel l)=ed d (.work .free l):=rfl;grind
  simp only[e];exact h.came
 grind
theorem db.out(h:db N rows cq b aB){l}(t:b.eF=false\/2<=b.aS)(hi:aB[i]?=some (.work .rel l)):db N rows cq {b with aS:=b.aS-1} (aB.set i (.gone l)):=by
 have h0:i≠0:=y1 h hi AS;have c:=λf=>uG f aB i (.work .rel l) (.gone l) hi;have c1:=c gI;have bt:=c gU;have cF:=c g6;simp only[gI,gU,g6]at c1 bt cF;have v:=h.aS;obtain⟨s,hs,g⟩:=h.main;refine⟨xK h.pD hi AA,y0 h.tC hi h0 Y,⟨s,AA,?_⟩,λj s' m=>?_,AA,h.aX,h.len,λd=>?_,λj a m pv n o=>?_,?_,λ⟨j,a,m,u⟩=>?_⟩
 .cases s with|tB=>grind[vK]|over=>grind[vK]|spawn k q=>exact⟨g.1,g.2.1,by have:=g.2.2.1;omega,by have:=g.2.2.2;omega⟩|qx=>exact⟨g.1,g.2.1,by have:=g.2.2.1;omega,by have:=g.2.2.2;omega⟩
 .rcases jb hi m with⟨_,e⟩|⟨_,e⟩
  .cases e
  .exact h.only j s' e
 .have:=c (eb d);have e:=h.own d;have p:eb d (.gone l)=eb d (.work .rel l):=rfl;grind
 .rcases jb hi m with⟨rfl,rfl⟩|⟨r,e⟩
  .exact h.val j _ hi pv n o
  .exact h.val j a e pv n o
 .have e:∀d,dI (ed d) (aB.set i (.gone l))=dI (ed d) aB:=λd=>by have:=c (ed d);have p:ed d (.gone l)=ed d (.work .rel l):=rfl;grind
  simp only[e];exact h.came
 .rcases jb hi m with⟨rfl,rfl⟩|⟨_,e⟩
  .exact h.dF ⟨_,_,hi,Y⟩
  .exact h.dF AA
def db.ao3(h:db N rows cq b aB){l}(q:b.eF=true)(p:b.aS=1)(hi:aB[i]?=some (.work .rel l)):db N rows cq {b with aS:=b.aS-1} (aB.set i (.work .oh l)):=by
 have h0:i≠0:=y1 h hi AS;have c:=λf=>uG f aB i (.work .rel l) (.work .oh l) hi;have c1:=c gI;have bt:=c gU;have cF:=c g6;simp only[gI,gU,g6]at c1 bt cF;have u:=h.aS;obtain⟨s,hs,r⟩:=h.main;refine⟨xK h.pD hi AA,y0 h.tC hi h0 Y,⟨s,AA,?_⟩,λj s' g=>?_,AA,h.aX,h.len,λd=>?_,λj a g pv k m=>?_,?_,λ⟨j,a,g,t⟩=>?_⟩
 .simp_all[vK]
 .rcases jb hi g with⟨_,e⟩|⟨_,e⟩
  .cases e
  .exact h.only j s' e
 .have:=c (eb d);have e:=h.own d;have n:eb d (.work .oh l)=eb d (.work .rel l):=rfl;grind
 .rcases jb hi g with⟨rfl,rfl⟩|⟨o,e⟩
  .exact h.val j _ hi pv k m
  .exact h.val j a e pv k m
 .have e:∀d,dI (ed d) (aB.set i (.work .oh l))=dI (ed d) aB:=λd=>by have:=c (ed d);have n:ed d (.work .oh l)=ed d (.work .rel l):=rfl;grind
  simp only[e];exact h.came
 .rcases jb hi g with⟨rfl,rfl⟩|⟨_,e⟩
  .exact h.dF ⟨_,_,hi,Y⟩
  .exact h.dF AA
def db.ao4(h:db N rows cq b aB){l}(hi:aB[i]?=some (.work .oh l)):db N rows cq {b with eF:=false} (aB.set i (.work .lb l)):=by
 have h0:i≠0:=y1 h hi AS;have c:=λf=>uG f aB i (.work .oh l) (.work .lb l) hi;have c1:=c gI;have bt:=c gU;have cF:=c g6;simp only[gI,gU,g6]at c1 bt cF;have v:=h.aS;obtain⟨s,hs,m⟩:=h.main;refine⟨xK h.pD hi AA,y0 h.tC hi h0 Y,⟨s,AA,?_⟩,λj s' g=>?_,AA,h.aX,h.len,λd=>?_,λj a g pv n o=>?_,?_,λ⟨j,a,g,u⟩=>?_⟩
 .have r:=o5 gU aB i _ hi;simp[gU]at r;cases s with|tB=>simp only[vK]at m⊢;grind|over=>have:=m.2.2.2;omega|spawn k q=>have:=m.2.2;omega|qx=>have:=m.2.2;omega
 .rcases jb hi g with⟨_,e⟩|⟨_,e⟩
  .cases e
  .exact h.only j s' e
 .have:=c (eb d);have e:=h.own d;have p:eb d (.work .lb l)=eb d (.work .oh l):=rfl;grind
 .rcases jb hi g with⟨rfl,rfl⟩|⟨t,e⟩
  .exact h.val j _ hi pv n o
  .exact h.val j a e pv n o
 .have e:∀d,dI (ed d) (aB.set i (.work .lb l))=dI (ed d) aB:=λd=>by have:=c (ed d);have p:ed d (.work .lb l)=ed d (.work .oh l):=rfl;grind
  simp only[e];exact h.came
 .rcases jb hi g with⟨rfl,rfl⟩|⟨_,e⟩
  .exact h.dF ⟨_,_,hi,Y⟩
  .exact h.dF AA
def db.raise(h:db N rows cq b aB){l}(hi:aB[i]?=some (.work .lb l)):db N rows cq {b with gT:=b.gT+1} (aB.set i (.gone l)):=by
 have h0:i≠0:=y1 h hi AS;have c:=λf=>uG f aB i (.work .lb l) (.gone l) hi;have c1:=c gI;have bt:=c gU;have cF:=c g6;simp only[gI,gU,g6]at c1 bt cF;have v:=h.aS;obtain⟨s,hs,m⟩:=h.main;refine⟨xK h.pD hi AA,y0 h.tC hi h0 Y,⟨s,AA,?_⟩,λj s' g=>?_,AA,h.aX,h.len,λd=>?_,λj a g pv n o=>?_,?_,λ⟨j,a,g,u⟩=>?_⟩
 .have r:=o5 g6 aB i _ hi;simp[g6]at r;cases s with|tB=>grind[vK]|over=>have:=m.2.2.2;omega|spawn k q=>have:=m.2.2;omega|qx=>have:=m.2.2;omega
 .rcases jb hi g with⟨_,e⟩|⟨_,e⟩
  .cases e
  .exact h.only j s' e
 .have:=c (eb d);have e:=h.own d;have p:eb d (.gone l)=eb d (.work .lb l):=rfl;grind
 .rcases jb hi g with⟨rfl,rfl⟩|⟨t,e⟩
  .exact h.val j _ hi pv n o
  .exact h.val j a e pv n o
 .have e:∀d,dI (ed d) (aB.set i (.gone l))=dI (ed d) aB:=λd=>by have:=c (ed d);have p:ed d (.gone l)=ed d (.work .lb l):=rfl;grind
  simp only[e];exact h.came
 .rcases jb hi g with⟨rfl,rfl⟩|⟨_,e⟩
  .exact h.dF ⟨_,_,hi,Y⟩
  .exact h.dF AA
def db.J9(h:db N rows cq b aB){s jJ}(hi:aB[0]?=some (.main s)){b1}(y:b1.aS+gI (.main s)=b.aS+gI (.main jJ))(ht:b1.taken=b.taken)(hd:b1.done=b.done)(t:b1.came=b.came)(m:b1.least=b.least)(r:∀k q,jJ=.spawn k q->∃l,s=.spawn k l)(o:∀q,s=.spawn 0 q->∃l,jJ=.spawn 0 l)(hok:∀i,dI gU i=dI gU aB->dI g6 i=dI g6 aB->vK s b aB->vK jJ b1 i):db N rows cq b1 (aB.set 0 (.main jJ)):=by
 have c:=λf=>uG f aB 0 (.main s) (.main jJ) hi;have c1:=c gI;have bt:=c gU;have cF:=c g6;have e2:gU (.main s)=0/\gU (.main jJ)=0:=⟨Y,Y⟩;have e3:g6 (.main s)=0/\g6 (.main jJ)=0:=⟨Y,Y⟩;have u:0<aB.length:=(vab.1 hi).1;obtain⟨s',hs,z⟩:=h.main;rw[hi]at hs;cases hs;have x:=h.aS;refine⟨xK h.pD hi AA,ao0 h.tC hi o,AA,λj s' g=>?_,AQ,by rw[ht];exact h.aX,by rw[hd];exact h.len,λd=>?_,λj a g pv n w=>?_,?_,λ⟨j,a,g,v⟩=>?_⟩
 .rcases jb hi g with⟨e,_⟩|⟨_,e⟩
  .exact e
  .exact h.only j s' e
 .have:=c (eb d);have e:=h.own d;have p:eb d (.main s)=0/\eb d (.main jJ)=0:=⟨Y,Y⟩;grind
 .rw[hd];rcases jb hi g with⟨_,rfl⟩|⟨_,e⟩
  .simp[laid]at n
  .exact h.val j a e pv n w
 .have e:∀d,dI (ed d) (aB.set 0 (.main jJ))=dI (ed d) aB:=λd=>by have:=c (ed d);have p:ed d (.main s)=0/\ed d (.main jJ)=0:=⟨Y,Y⟩;omega
  simp only[e];rw[t,m];exact h.came
 .rw[ht];rcases jb hi g with⟨_,rfl⟩|⟨_,e⟩
  .simp[yZ]at v
  .exact h.dF AA
theorem db.add(h:db N rows cq b aB){k}(hi:aB[0]?=some (.main (.spawn k false))):db N rows cq {b with aS:=b.aS+1} (aB.set 0 (.main (.spawn k true))):=
 h.J9 hi JG Y Y Y Y AA AA λc h1 h2 a=>⟨a.1,a.2.1,h1.trans a.2.2.1,h2.trans a.2.2.2⟩
def db.waits(h:db N rows cq b aB){k}(hk:0<k)(hi:aB[0]?=some (.main (.spawn k false))):db N rows cq b (aB.set 0 (.main .qx)):=
 h.J9 hi JG Y Y Y Y AA AA λc h1 h2 a=>⟨a.1,a.2.1,h1.trans a.2.2.1,h2.trans a.2.2.2⟩
def db.ao6(h:db N rows cq b aB)(hi:aB[0]?=some (.main .qx))(c:0<b.aS):db N rows cq {b with eF:=true} (aB.set 0 (.main .tB)):=
 h.J9 hi JG Y Y Y Y AA AA λd h1 h2 a=>.inl ⟨Y,a.2.1,h2.trans a.2.2.2,.inl ⟨c,h1.trans a.2.2.1⟩⟩
def db.zero(h:db N rows cq b aB)(hi:aB[0]?=some (.main .qx))(c:b.aS=0):db N rows cq b (aB.set 0 (.main .over)):=
 h.J9 hi JG Y Y Y Y AA AA λd h1 h2 a=>⟨a.1,c,a.2.1,h1.trans a.2.2.1,h2.trans a.2.2.2⟩
def db.Tx(h:db N rows cq b aB)(hi:aB[0]?=some (.main .tB))(hs:b.gT≠0):db N rows cq {b with gT:=b.gT-1} (aB.set 0 (.main .over)):=
 h.J9 hi JG Y Y Y Y AA AA λe h1 h2 c=>by
  rcases c with⟨_,a,_⟩|⟨m1,a,d,f⟩
  .grind
  .exact⟨m1,a,AA,h1.trans d,AQ⟩
def db.born(h:db N rows cq b aB){k}(hi:aB[0]?=some (.main (.spawn k true))):db N rows cq b (aB.set 0 (.main (.spawn (k+1) false))++[.work .free []]):=by
 have c:=λf=>uG f aB 0 (.main (.spawn k true)) (.main (.spawn (k+1) false)) hi;have d:=λf=>aoZ f (aB.set 0 (.main (.spawn (k+1) false))) (.work .free []);have c1:=c gI;have bt:=c gU;have cF:=c g6;have d1:=d gI;have v:=d gU;have u:=d g6;simp only[gI,gU,g6]at c1 bt cF d1 v u;have s:0<aB.length:=(vab.1 hi).1;obtain⟨s',hs,l⟩:=h.main;rw[hi]at hs;cases hs;have w:=h.aS;have get:∀{j:Nat}{a:At},(aB.set 0 (.main (.spawn (k+1) false))++[.work .free []])[j]?=some a->(j=0/\a=.main (.spawn (k+1) false))\/(j≠0/\aB[j]?=some a)\/(j=aB.length/\a=.work .free []):=by grind
 refine⟨λk' x y=>?_,λtb h2=>.inr ?_,⟨.spawn (k+1) false,AA,l.1,l.2.1,by have:=l.2.2.1;omega,by have:=l.2.2.2;omega⟩,λj s' i=>?_,AQ,h.aX,h.len,λg=>?_,λj a i pv o t=>?_,?_,λ⟨j,a,i,m⟩=>?_⟩
 .have m:=h.pD k true hi;grind
 .have m:=h.pD k true hi;rcases h.tC _ hi with⟨q,e⟩|⟨a,n,r⟩
  .cases e;refine⟨.work .free [],?_,Y⟩;grind
  .have h1:rows N<aB.length:=(vab.1 n).1;have h2:0≠rows N:=by intro e;rw[<-e,hi]at n;cases n;cases r
   grind
 .rcases get i with⟨e,_⟩|⟨_,e⟩|⟨_,e⟩
  .exact e
  .exact h.only j s' e
  grind
 .have e1:=c (eb g);have e2:=d (eb g);have e:=h.own g;have p:eb g (.main (.spawn k true))=0/\eb g (.main (.spawn (k+1) false))=0/\eb g (.work .free [])=0:=⟨Y,Y,Y⟩;omega
 .rcases get i with⟨_,rfl⟩|⟨_,e⟩|⟨_,rfl⟩
  .simp[laid]at o
  .exact h.val j a e pv o t
  grind[laid]
 .have e:∀g,dI (ed g) (aB.set 0 (.main (.spawn (k+1) false))++[.work .free []])=dI (ed g) aB:=λg=>by have e1:=c (ed g);have e2:=d (ed g);have p:ed g (.main (.spawn k true))=0/\ed g (.main (.spawn (k+1) false))=0/\ed g (.work .free [])=0:=⟨Y,Y,Y⟩;omega
  simp only[e];exact h.came
 .rcases get i with⟨_,rfl⟩|⟨_,e⟩|⟨_,rfl⟩
  .simp[yZ]at m
  .exact h.dF AA
  grind[yZ]
def rA:At->Prop
 | .gone _ | .old=>True
 | _=>False
def NM(a:At)(b:cO):Prop:=a=.main .tB/\b.gT=0
def db.alive(h:db N rows cq b aB):∃(j:Nat)(a:At),aB[j]?=some a/\¬rA a/\¬NM a b:=by
 obtain⟨s,hs,i⟩:=h.main;by_cases d:s=.tB/\b.gT=0
 .obtain⟨rfl,m⟩:=d;apply vaz;intro hn;have all:∀(j:Nat)(a:At),aB[j]?=some a->rA a\/a=.main .tB:=λj a k=>by apply vaz;intro g;exact hn ⟨j,a,k,AA,λe=>g (.inr e.1)⟩
  have z:∀f:At->Nat,(∀a,rA a->f a=0)->f (.main .tB)=0->dI f aB=0:=λf h1 h2=>NK f aB AA;have n:=z gI (λa c=>HL) Y;have gG:=z gU (λa c=>HL) Y;have fx:=z g6 (λa c=>HL) Y;have g:=h.aS;rcases i with⟨_,_,_,l⟩|⟨_,_,_,l⟩<;>omega
 .exact⟨0,_,hs,λe=>e,λe=>d ⟨by have:=e.1;grind,e.2⟩⟩
def db.all(h:db N rows cq b aB)(hi:aB[0]?=some (.main .over)):∀j a,aB[j]?=some a->j=0\/rA a:=by intro j a c;obtain⟨s',hs,d⟩:=h.main;rw[hi]at hs;cases hs;have e:=h.aS;have h1:=o5 gI aB j a c;have h2:=o5 gU aB j a c;have h3:=o5 g6 aB j a c;have:=d.2.1;have:=d.2.2.2;cases a with|main s=>exact .inl (h.only j s c)|gone l=>exact .inr trivial|old=>exact .inr trivial|work s l=>cases s<;>simp only[gI,gU,g6]at h1 h2 h3<;>omega
