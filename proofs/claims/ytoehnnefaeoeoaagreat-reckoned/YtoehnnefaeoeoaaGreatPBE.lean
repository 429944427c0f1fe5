/- Proved: the statement ReckonedSaid of quarrykeep.Reckoned at this commit, whole and without further conditions: for every argument within the seat's bounds the call ends as the law asks, whatever the goroutines' order. The texts are packed: names shortened by program. -/
import Derived.Test.YtoehnnefaeoeoaaGreatRows
import Derived.Deep.Fields
import Derived.Test.YtoehnnefaeoeoaaGreatPBC
import Derived.Test.YtoehnnefaeoeoaaGreatPBD
set_option linter.all false
set_option maxRecDepth 100000
set_option maxHeartbeats 16000000
namespace Go.Proofs.YtoehnnefaeoeoaaGreat
open Go.Proofs.Tryz
namespace bD
open Conc ConcM RowKit az bu cZ dD b_ cA gi nG
section
variable {O:jW} {n0:Nat}
section
variable {P:Program} {Post:Value->World->Prop} {n:Nat} {Shun:Loc->Prop} {w:World} {f:FuncId} {b:Act} {ops:Array Oper} {i:Nat} {rest:List Nat} {k k':List Item} {cs:List Frame} {o:Oper}
theorem K_(h:∀w,stepG P true (bb ((base f).at b k) cs) w=.go (bb ((base f).at b k') cs) w #[])(a:∀j,cp P Post n Shun 0 (bb ((base f).at b k') cs) (w.at j)):cp P Post n Shun 0 (bb ((base f).at b k) cs) w:=
 DI rfl fun j=>⟨_,w.at j,#[],h _,Aa,Nat.le_refl _,a j⟩
theorem Wa(l:ops[i]?=some o)(e:o.guard=none){d:Tmp}(hd:o.dst=some d){v:Value}{w1:World}(h:∀j,(execOp b.eval o).run P (w.at j)=.ok (.value v) (w1.at j))(q:∀j,(execOp b.eval o).events P (w.at j) #[]=#[])(g:w.heap.size<=w1.heap.size)
 (p:∀j,cp P Post n Shun 0 (bb ((base f).at (b.put (some d) v) (.inRegion ops rest::k)) cs) (w1.at j)):cp P Post n Shun 0 (bb ((base f).at b (.inRegion ops (i::rest)::k)) cs) w:=by
 refine DI rfl fun j=>⟨_,w1.at j,#[],?_,Aa,g,p j⟩;have c:=stepG_value (P:=P) (main:=true) (b:=base f) (a:=b) (k:=k) (cs:=cs) (rest:=rest) l (fJ e _) (by simp[base]) (h j);have m:listed P (base f).fn b o (w.at j)=#[]:=by grind[listed,seen_none]
 rw[m,hd]at c;exact c
end
theorem az5:fL Tryz.f3=.seq (.region 0 (aF Tryz.f3 0) false) (.seq (.region 1 (aF Tryz.f3 1) false) (dR Tryz.f3 1)):=by kernel_rfl
theorem Wb(x h:Value)(i:Nat):(#[x,h]++Array.replicate 306 undef:Array Value)[i]?=if i=0 then some x else if i=1 then some h else if i<308 then some undef else none:=by
 rcases i with _ | _ |i
 ·simp_all
 ·simp_all
 grind[Array.getElem?_append_right]
def Ho(rv h p u:Value):Act:=((((⟨#[rv,h]++Array.replicate 306 undef,[]⟩:Act).put (some 3) p).put (some 4) (.bool false)).put (some 24) rv).put (some 25) u
def zh(h p u:Value):Act:=(((⟨#[undef,h]++Array.replicate 306 undef,[]⟩:Act).put (some 3) p).put (some 4) (.bool false)).put (some 25) u
theorem az6(rv h p u:Value):jX (sR (some rv) (some rv) 0) (zh h p u) (Ho rv h p u):=by
 have b:∀i,(zh h p u).tmps[i]?=if 25=i then some u else if 4=i then some (.bool false)else if 3=i then some p else if i=0 then some undef else if i=1 then some h else if i<308 then some undef else none:=by intro i;simp only[zh,Act.put,Array.getElem?_setIfInBounds,Array.size_setIfInBounds,Array.size_append,List.size_toArray,List.length_cons,List.length_nil,Array.size_replicate,Wb];rfl
 have a:∀i,(Ho rv h p u).tmps[i]?=if 25=i then some u else if 24=i then some rv else if 4=i then some (.bool false)else if 3=i then some p else if i=0 then some rv else if i=1 then some h else if i<308 then some undef else none:=by intro i;simp only[Ho,Act.put,Array.getElem?_setIfInBounds,Array.size_setIfInBounds,Array.size_append,List.size_toArray,List.length_cons,List.length_nil,Array.size_replicate,Wb];rfl
 refine⟨by simp[zh,Ho,Act.put],fun i hi=>?_,fun i v hi c=>?_,fun i hi=>?_,by simp[zh,Ho,Act.put]⟩
 ·have h0:i≠0:=fun e=>by subst e;cases hi
  have d:24≠i:=fun e=>by subst e;cases hi
  simp_all
 ·have h0:i=0\/i=24:=by grind[sR]
  grind
 ·have h0:i=0\/i=24:=by grind[sR]
  rw[a];rcases h0 with rfl|rfl<;>rfl
structure afJ(W w':World):Prop where
 old:∀b,0<b->b<W.heap.size->w'.heap[b]?=W.heap[b]?
 first:∀c e fr,W.heap[0]?=some (.cells c e fr)->w'.heap[0]?=some (.cells c e fr)
 gA:pE W w'
section
variable {Post:Value->World->Prop} {n:Nat} {Shun:Loc->Prop} {W:World} {b:Act} {cs:List Frame} {rv:Value} {x y:Int}
theorem az8(h:∀j,cp prog Post n Shun 0 (bb ((base 3).at b [.inRegion (aF Tryz.f3 0) [0,1],.code (.seq (.region 1 (aF Tryz.f3 1) false) (dR Tryz.f3 1))]) cs) (W.at j)):cp prog Post n Shun 0 (bb ((base 3).at b [.code (fL Tryz.f3)]) cs) W:=by rw[az5];refine K_ (k':=[.code (.region 0 (aF Tryz.f3 0) false),.code (.seq (.region 1 (aF Tryz.f3 1) false) (dR Tryz.f3 1))]) (fun w=>Gj) fun c=>?_;refine K_ (fun w=>?_) fun a=>h a;have hsz:(aF Tryz.f3 0).size=2:=AS;simp[bb,stepG,stepG.exec,Frame.at,base,hsz,List.range_succ]
theorem az9(h:∀j,cp prog Post n Shun 0 (bb ((base 3).at b [.inRegion (aF Tryz.f3 1) [0,1,2,3],.code (dR Tryz.f3 1)]) cs) (W.at j)):cp prog Post n Shun 0 (bb ((base 3).at b [.inRegion (aF Tryz.f3 0) [],.code (.seq (.region 1 (aF Tryz.f3 1) false) (dR Tryz.f3 1))]) cs) W:=by refine K_ (k':=[.code (.seq (.region 1 (aF Tryz.f3 1) false) (dR Tryz.f3 1))]) (fun w=>Gj) fun c=>?_;refine K_ (k':=[.code (.region 1 (aF Tryz.f3 1) false),.code (dR Tryz.f3 1)]) (fun w=>Gj) fun d=>?_;refine K_ (fun w=>?_) fun a=>h a;have hsz:(aF Tryz.f3 1).size=4:=AS;simp[bb,stepG,stepG.exec,Frame.at,base,hsz,List.range_succ]
theorem az_(c:b.tmps[1]?=some (.agg #[.int .i64 x,.int .i64 y])){rest:List Nat}{k:List Item}(h:∀j,cp prog Post n Shun 0 (bb ((base 3).at (b.put (some 3) (.pointer (some ⟨W.heap.size,0,none⟩))) (.inRegion (aF Tryz.f3 0) rest::k)) cs) ((W.alloc (.cells #[.int .i64 x,.int .i64 y] 24)).at j)):cp prog Post n Shun 0 (bb ((base 3).at b (.inRegion (aF Tryz.f3 0) (0::rest)::k)) cs) W:=by obtain⟨o,a⟩:∃o,(aF Tryz.f3 0)[0]?=some o:=⟨_,B2⟩;obtain rfl:=iE a;exact Wa a rfl rfl (v:=.pointer (some ⟨W.heap.size,0,none⟩)) (w1:=(W.alloc (.cells #[.int .i64 x,.int .i64 y] 24))) (fun j=>by simp[go_sem,c];exact⟨rfl,rfl⟩) (fun j=>by simp[go_sem,c]) Aa h
theorem aAa{rest:List Nat}{k:List Item}(h:∀j,cp prog Post n Shun 0 (bb ((base 3).at (b.put (some 4) (.bool false)) (.inRegion (aF Tryz.f3 0) rest::k)) cs) (W.at j)):cp prog Post n Shun 0 (bb ((base 3).at b (.inRegion (aF Tryz.f3 0) (1::rest)::k)) cs) W:=by obtain⟨o,a⟩:∃o,(aF Tryz.f3 0)[1]?=some o:=⟨_,B2⟩;obtain rfl:=iE a;exact Wa a rfl rfl (v:=.bool false) (w1:=W) (fun j=>by simp[go_sem]) (fun j=>by simp[go_sem]) Jr h
theorem aAb(c:b.tmps[0]?=some rv){rest:List Nat}{k:List Item}(h:∀j,cp prog Post n Shun 0 (bb ((base 3).at (b.put (some 24) rv) (.inRegion (aF Tryz.f3 1) rest::k)) cs) (W.at j)):cp prog Post n Shun 0 (bb ((base 3).at b (.inRegion (aF Tryz.f3 1) (0::rest)::k)) cs) W:=by obtain⟨o,a⟩:∃o,(aF Tryz.f3 1)[0]?=some o:=⟨_,B2⟩;obtain rfl:=iE a;exact Wa a rfl rfl (v:=rv) (w1:=W) (fun j=>by simp[go_sem,c]) (fun j=>by simp[go_sem,c]) Jr h
theorem afK:∃o,(aF Tryz.f3 1)[1]?=some o/\o.op=.call {callee:=.value (.func 4),args:=#[.tmp 24,.const (.int .i64 40)],argTypes:=#[22,3]}/\o.guard=none/\o.dst=some 25:=⟨_,B2,rfl,rfl,rfl⟩
theorem aAc(i:b.tmps[24]?=some rv){rest:List Nat}{k:List Item}(h:∀j,cp prog Post n Shun 0 (bb (Frame.enter prog 4 #[rv,.int .i64 40] .normal) ((base 3).at b (.inRegion (aF Tryz.f3 1) (1::rest)::k)::cs)) (W.at j)):cp prog Post n Shun 0 (bb ((base 3).at b (.inRegion (aF Tryz.f3 1) (1::rest)::k)) cs) W:=by
 obtain⟨o,f,c,g,-⟩:=afK;have d:#[Operand.tmp 24,.const (.int .i64 40)].map b.eval=#[rv,.int .i64 40]:=by simp[i,Act.eval]
 have e:=jn.tW (b:=base 3) (Q:=prog) (o:=o) (a:=b) c func4 BB rfl d;exact Bs (pD rfl (w1:=W) (es:=#[]) (fun k'=>(stepG_enter f (fJ g _) (by simp[base]) (e _).1).trans (congrArg (fun es=>GStep.go _ _ es) (e _).2)) Aa Jr (.stop h))
theorem aAe{rest:List Nat}{k:List Item}(u:Value):Frame.finish ((base 3).at b (.inRegion (aF Tryz.f3 1) (1::rest)::k)) u=(base 3).at (b.put (some 25) u) (.inRegion (aF Tryz.f3 1) rest::k):=by grind[afK,Frame.finish_at]
end
theorem aAf{Post:Value->World->Prop}{W:World}{rv:Value}{rs:List cL}{x y:Int}(D:hM x)(C:hM y)(h0:∃c e,W.heap[0]?=some (.cells c e)/\∀v∈c,G3 v)(L:K2 ⟨W.heap.size,W.heap⟩ rv rs)(I:∀w',afJ W w'->Post (.bool true) w'):
 cp prog Post 1 (fun _=>False) 0 (bb (Frame.enter prog 3 #[rv,.agg #[.int .i64 x,.int .i64 y]] .normal) []) W:=by
 obtain⟨cu,O,t,T⟩:=h0;have s:0<W.heap.size:=n9 t;rw[enter_at func3 (c:=fL Tryz.f3) rfl];have d:=az6 rv (.agg #[.int .i64 x,.int .i64 y]) (.pointer (some ⟨W.heap.size,0,none⟩));have f:=Wb rv (.agg #[.int .i64 x,.int .i64 y]);have hsz:(⟨#[rv,.agg #[.int .i64 x,.int .i64 y]]++Array.replicate 306 undef,[]⟩:Act).tmps.size=308:=Aa;unfold Ho at d;have Q:Tryz.f3.ntmps-(#[rv,.agg #[.int .i64 x,.int .i64 y]]:Array Value).size=306:=Aa;rw[Q];have K:(⟨#[rv,.agg #[.int .i64 x,.int .i64 y]]++Array.replicate 306 undef,[]⟩:Act).tmps[0]?=some rv:=f 0;have J:(⟨#[rv,.agg #[.int .i64 x,.int .i64 y]]++Array.replicate 306 undef,[]⟩:Act).tmps[1]?=some (.agg #[.int .i64 x,.int .i64 y]):=f 1;clear f;generalize(⟨#[rv,.agg #[.int .i64 x,.int .i64 y]]++Array.replicate 306 undef,[]⟩:Act)=b at *;have U:(W.alloc (.cells #[.int .i64 x,.int .i64 y] 24)).heap.size=W.heap.size+1:=Aa;have hold:∀b,b<W.heap.size->(W.alloc (.cells #[.int .i64 x,.int .i64 y] 24)).heap[b]?=W.heap[b]?:=fun b d=>Below.heap_alloc _ _ _ Ay;have r:af (W.alloc (.cells #[.int .i64 x,.int .i64 y] 24)) W.heap.size #[.int .i64 x,.int .i64 y] 24:=af.new W _ _;have o:∀j,pE W ((W.alloc (.cells #[.int .i64 x,.int .i64 y] 24)).at j):=fun j=>⟨by show W.heap.size<=(W.alloc (.cells #[.int .i64 x,.int .i64 y] 24)).heap.size;omega,.refl _,rfl,rfl⟩;refine az8 fun dn=>az_ J fun ep=>aAa fun X=>az9 fun Y=>aAb ((kg AW).trans ((kg AW).trans K)) fun Z=>aAc (lO Dl) fun i=>?_;show cp _ _ _ _ _ _ ((W.alloc (.cells #[.int .i64 x,.int .i64 y] 24)).at i);generalize(W.alloc (.cells #[.int .i64 x,.int .i64 y] 24))=m at *;have N:∀(M:Nat->Prop) v,G3 v->aA (cB M) v v:=fun M v a=>by cases v<;>first|exact a.elim|exact .int _ _ |exact .bool _ |exact .string _
 have P:Home ⟨W.heap.size,W.heap⟩ prog (fun b=>b=0\/b=W.heap.size) (fun _=>False) (m.at i):=by
  refine⟨fun b d=>?_,fun g f=>.inl Bp,AU,fun b d h=>?_,by show W.heap.size<=m.heap.size;omega,fun b _ d=>hold b d,AU⟩
  ·rcases d with rfl|rfl
   ·refine⟨_,(hold 0 s).trans t,.inl (.cells _ ?_ AU)⟩;obtain⟨l⟩:=cu;grind[iA]
   ·refine⟨_,r,.inl (.cells _ (iA (l:=[.int .i64 x,.int .i64 y]) fun v a=>?_) AU)⟩;simp at a;rcases a with rfl|rfl<;>exact .int _ _
  grind
 refine ayV P L fun u M' w' R H9 F w q S=>?_;rw[aAe];have A:M' W.heap.size:=AU;have B:a3 (cB M') (zh (.agg #[.int .i64 x,.int .i64 y]) (.pointer (some ⟨W.heap.size,0,none⟩)) u).tmps (zh (.agg #[.int .i64 x,.int .i64 y]) (.pointer (some ⟨W.heap.size,0,none⟩)) u).tmps:=by
  have k:aA (cB M') (.pointer (some ⟨W.heap.size,0,none⟩)) (.pointer (some ⟨W.heap.size,0,none⟩)):=.e7 ⟨⟨rfl,A⟩,rfl,rfl⟩;unfold zh;simp only[Act.put];refine a3.set (a3.set (a3.set (a3.append (iA (l:=[undef,.agg #[.int .i64 x,.int .i64 y]]) fun v a=>?_) (BS _ _)) k _) (.bool _) _) F _;simp at a;rcases a with rfl|rfl
  ·exact .undef _
  ·refine .ki (iA (l:=[.int .i64 x,.int .i64 y]) fun v a=>?_);simp at a;rcases a with rfl|rfl<;>exact .int _ _
 have hsz':1<=w'.heap.size:=Nat.le_trans (show 1<=(m.at i).heap.size by show 1<=m.heap.size;omega) w.size;have H:Held ⟨W.heap.size,W.heap⟩ prog M' w' 1 (zh (.agg #[.int .i64 x,.int .i64 y]) (.pointer (some ⟨W.heap.size,0,none⟩)) u) M' w' (fun _=>False):=.start R hsz' B rfl;refine az4 (n0:=1) (d u) H D C (rs.take 40) AU ⟨by simp[zh,Act.put],fun p k=>?_⟩ AW fun bz M2 z V n=>I z ⟨fun b h0 d=>n.dH.old b h0 d,fun c e fr E=>?_,?_⟩
 ·simp at k;rcases k with rfl|rfl
  ·exact⟨.pointer (some ⟨W.heap.size,0,none⟩),(kg AU).trans ((kg AU).trans (lO Aa)),W.heap.size,rfl,q _ _ _ _ K0 r⟩
  ·exact⟨u,lO Dl,S⟩
 ·exact n.keep 0 c e fr AU (q 0 c e fr Jt ((hold 0 s).trans E))
 ·exact(o i).trans (w.trans n.gA)
end
section
open ChangeShapes WideShapes ChangeAt Deep
section
variable {H:Type} {enc:TypeId×Value->H} {spare:Nat->Bool} {held:Bool} {fuel:Nat} {cs:List Value} {x:DataW H×List MemPlace} {w:World}
theorem aAh{n:Int}(h:(Lit.int .i64 n).wf=true):hM n:=by simp[Lit.wf,IntKind.min,IntKind.max,IntKind.signed,IntKind.bits]at h;exact h
theorem afL{t:TypeId}{fs:Array Field}(ht:prog.underlying t=some (.struct fs))(k:oneCellFields prog fs=true)(e:prog.cellsOf t=fs.size)(h:DataW.trod enc prog w 0 spare held fuel t cs=some x):
 cs.length=fs.size/\∀(i:Nat)(f:Field),fs[i]?=some f->∃u y n,cs[i]?=some u/\DataW.trod enc prog w 0 spare held n f.type [u]=some y:=by
 obtain⟨xs,n,-,rfl,hl,j,d⟩:=DataW.trod_struct ht h;refine⟨hl.trans e,fun i f hi=>?_⟩;obtain⟨b,a⟩:=hone_of k i f hi;have c:i<fs.size:=(Array.getElem?_eq_some_iff.1 hi).1;have g:=d i f hi;rw[b,a,take1_drop cs i undef Ay,List.getElem?_eq_getElem Ay]at g;grind
theorem Hp{e:TypeId}(a:prog.underlying e=some (.int .i64)){u:Value}(h:DataW.trod enc prog w 0 spare held fuel e [u]=some x):∃n,u=.int .i64 n/\hM n:=by grind[DataW.trod_int,aAh]
theorem aAi(h:DataW.trod enc prog w 0 spare held fuel 52 cs=some x):∃r:cL,cs=[.int .i64 r.1,.int .i64 r.2.1,.int .i64 r.2.2.1,.int .i64 r.2.2.2]/\hM r.1/\hM r.2.1/\hM r.2.2.1/\hM r.2.2.2:=by obtain⟨hl,a⟩:=afL underlying52 BB BB h;obtain⟨u0,o,n0,cu,g⟩:=a 0 _ rfl;obtain⟨u1,v,A,c1,f⟩:=a 1 _ rfl;obtain⟨u2,t,z,bH,e⟩:=a 2 _ rfl;obtain⟨u3,q,s,eI,d⟩:=a 3 _ rfl;obtain⟨n,rfl,w0⟩:=Hp underlying50 g;obtain⟨m,rfl,w1⟩:=Hp underlying50 f;obtain⟨l,rfl,c⟩:=Hp underlying50 e;obtain⟨k,rfl,b⟩:=Hp underlying50 d;refine⟨(n,m,l,k),?_,w0,w1,c,b⟩;have hl:cs.length=4:=hl;obtain⟨ap,u,rfl,h0⟩:=bq hl;obtain⟨a1,l1,rfl,j⟩:=bq h0;obtain⟨D,B,rfl,i⟩:=bq j;obtain⟨C,p,rfl,y⟩:=bq i;grind
theorem aAj{v:Value}(M:∀(c:Array Value) e z,w.heap[0]?=some (.cells c e z)->∀(i:Nat)(n:Int),c[i]?≠some (Value.int .i64 n))(h:DataW.trod enc prog w 0 spare held fuel 22 [v]=some x):∃rs,K2 ⟨w.heap.size,w.heap⟩ v rs:=by
 rcases open_slice underlying22 h with⟨l,rfl⟩|⟨a,len,cap,m,n,D,I,l,-,T,-,P,rfl,F⟩
 ·obtain rfl:v=_:=by simpa using l
  exact⟨[],none,0,rfl,AU⟩
 obtain rfl:v=_:=by simpa using l
 have H:len<=m:=AU;have J:prog.cellsOf 52=4:=BB;have k:∀i,∃r:cL,i<len->(∀j u,[Value.int .i64 r.1,.int .i64 r.2.1,.int .i64 r.2.2.1,.int .i64 r.2.2.2][j]?=some u->w.cell? ((a.add (i*4)).add j)=some u)/\hM r.1/\hM r.2.1/\hM r.2.2.1/\hM r.2.2.2:=fun i=>by
  by_cases hi:i<len
  ·obtain⟨S,f,o⟩:=F i Ay;obtain⟨r,rfl,O⟩:=aAi o;rw[J]at f;obtain⟨-,K,L⟩:=World.cells?_some f;grind
  ·exact⟨(0,0,0,0),AU⟩
 obtain⟨R,q⟩:=Classical.skolem.1 k;refine⟨(List.range len).map R,some a,cap,Aa,fun i hi=>?_⟩;have y:i<len:=AU;obtain⟨d,E,C,B,A⟩:=q i y;simp;obtain⟨b,off,spot⟩:=a;have s:spot=none:=by have:=(q 0 Ay).1 0 _ rfl;simpa[Addr.add]using World.cell?_spot this
 subst s;have key:∀j,((⟨b,off,none⟩:Addr).add (i*4)).add j=⟨b,off+i*4+j,none⟩:=fun j=>by unfold Addr.add;by_cases f:i*4=0<;>by_cases o:j=0<;>simp[f,o]
 have cu:=d 0 _ rfl;have c1:=d 1 _ rfl;have bH:=d 2 _ rfl;have eI:=d 3 _ rfl;rw[key]at cu c1 bH eI;obtain⟨c,e,z,p,-,Q⟩:=vJ cu;have g:∀j u,w.cell? ⟨b,j,none⟩=some u->c[j]?=some u:=fun j u N=>by grind[World.cell?]
 have t:0<b:=by grind
 exact⟨b,off,c,e,z,rfl,t,n9 p,p,AU,E,C,B,A⟩
end
theorem aAk(P:Program)(t:Nat->Question->Nat)(os:Os):(begin P t os).world.heap[P.globals.size]?=some (.cells ((Array.range P.types.size).map fun t=>.int .u64 (Int.ofNat t)) 0):=by have key:∀(A:Array Obj)(n:Nat),n=A.size->∀a b c d e,(((((A.push a).push b).push c).push d).push e)[n]?=some a:=AU;exact key _ _ Aa _ _ _ _ _
theorem aAl{W:World}(h:W.ShapedOpen prog):W.heap[0]?=some (.cells ((Array.range prog.types.size).map fun t=>.int .u64 (Int.ofNat t)) 0):=by have h0:prog.globals.size=0:=Aa;have a:=aAk prog (fun _ _=>0) default;rw[h0]at a;obtain⟨o,e,d,c,b⟩:=h.2 0 Ay (n9 a);simp_all[World.looseAt]
theorem aAm{B:Nat}:nF (fun _=>False) B 0 1 #[]:=
 ⟨AU,AU,fun i a h=>Ig,fun said=>by rintro⟨i,j,_,⟨a,b,c,_⟩,_⟩;simp[Trace.act?]at c,fun i a h=>Ig,fun i g h=>by simp[Trace.g?]at h,rfl,fun i a b h=>Ig⟩
theorem aAn{P:Program}{Post:Value->World->Prop}{g:Goroutine}{W:World}(h:cp P Post 1 (fun _=>False) 0 g W):cZ.mx P Post (solo g W) #[]:=by rw[solo_eq_crowd];refine h #[g] none (fun _=>0) #[] rfl rfl ⟨fun i x hi a=>?_,fun j b=>rfl⟩ aAm;grind
theorem aAo:ownKnob prog.godebug=none:=by kernel_rfl
theorem afM:laidOutB prog=true:=by kernel_rfl
theorem aAp(os:Os)(started:os.Started)(H:Type)(enc:TypeId×Value->H)(F:Stop.Interp):
 ReturnsInLeavingWide Rows.reckonedRow.assume checked os 3 .any (Rows.reckonedSpec.pre6 enc prog Tryz.f3 Rows.reckonedRow.domain false) ((OpenSpec.ofChange Rows.reckonedSpec).postWith enc prog Tryz.f3 F (outsideKept [.timePasses]) false true false):=by
 refine returnsInLeavingWide_of_good (C:=checked) aAo started
  (ChangeSpec.witness6c (enc:=enc) (C:=checked) ⟨#[],#[.slice none 0 0,.agg #[.int .i64 0,.int .i64 0]],[]⟩ 8 BB BB BB BB) ?_
 intro w tape i _ d _ Q m _;obtain⟨_,_,_,K,RH,_,_,_,_,c⟩:=Q;obtain rfl:K=Tryz.f3:=Option.some.inj (RH.symm.trans func3);obtain⟨⟨ds,gs,before,z,-⟩,-⟩:=m;have g:=DataW.Whole.of_heap (w':=w.forCall tape i) B2 z;have d:(w.forCall tape i).ShapedOpen prog:=d;clear z;generalize Z:w.forCall tape i=W at *;obtain⟨vars,args,more⟩:=i;simp only at c g⊢;have c:∀(j:Nat) t v,Tryz.f3.params[j]?=some t->args[j]?=some v->Value.okWide prog W .any w.heap.size t v:=c;have r:=g;obtain⟨p,q,hA0,Ds,rfl,_,_⟩:=g;have k:DataW.TrodAll enc prog W 0 (fun _=>true) true Tryz.f3.params.toList args.toList ds p:=hA0;rw[params3]at k c;obtain⟨v0,v1,dw,d1,Br,R,rfl,rfl,rfl,u,s⟩:=trodAll_two k;obtain⟨rfl,rfl⟩:=trodVars_none Ds;clear hA0 k;simp only[List.append_nil]at r;have O:∀x∈Br++R,x.block<W.heap.size:=fun x f=>by simpa using r.lt x f
 have h0:=aAl d;obtain⟨ap,len,cap,rfl⟩:=okWide_slice underlying22 (c 0 22 v0 rfl rfl);obtain⟨cs,rfl,cI⟩:=okWide_struct underlying24 (c 1 24 v1 rfl rfl);obtain⟨f0,S⟩:=id u;obtain⟨f1,g1⟩:=id s;obtain⟨rs,X⟩:=aAj (w:=W) AU (by simpa[Value.cells]using S);obtain⟨hl,A⟩:=afL underlying24 BB BB g1;obtain⟨u0,yZ,n0,cu,T⟩:=A 0 _ rfl;obtain⟨u1,jv,gH,c1,B⟩:=A 1 _ rfl;obtain⟨x,rfl,f⟩:=Hp underlying3 T;obtain⟨y,rfl,L⟩:=Hp underlying3 B;obtain rfl:cs=#[.int .i64 x,.int .i64 y]:=by obtain⟨l⟩:=cs;simp only[Value.cells]at cu c1 hl;grind
 obtain⟨N,last,o,w',V,r1,E,D,v,e,Y,q1,U,J,I⟩:=aAn (aAf (Post:=fun v w'=>v=.bool true/\afJ W w') f L ⟨_,_,h0,fun v M=>by
  obtain⟨t,-,rfl⟩:=Array.mem_map.1 M;trivial⟩ X AU)
 refine⟨N,last,o,w',V,r1,E,D,v,e,?_,q1,U,J,I⟩;obtain⟨rfl,a⟩:=Y;have n:Below W.heap.size W {w' with os:=W.os}:=by
  refine⟨rfl,a.gA.tape,a.gA.output,a.gA.size,fun b P=>?_⟩;rcases Nat.eq_zero_or_pos b with rfl|h
  ·exact(a.first _ _ _ h0).trans h0.symm
  ·exact a.old b h P
 have HU:Rows.reckonedSpec.post enc prog Tryz.f3 false true false false W #[.slice ap len cap,.agg #[.int .i64 x,.int .i64 y]] (.bool true) {w' with os:=W.os}:=
  ⟨_,_,_,[],_,[],r,trodAll_mk1 (shut_bool underlying4 true),trodAll_mk2 (Below.trod afM BB (of_decide_eq_true Aa) u n AU) (Below.trod afM BB (of_decide_eq_true Aa) s n AU),rfl,n.frame _,AU⟩
 exact postWith_blind (postWith_of_post HU a.gA.later)
end
end bD
theorem reckoned_holds:Rows.ReckonedSaid:=
 OpenClaim.holds_of_wide_leaving_time 3 Tryz.f3 rfl rfl rfl rfl rfl rfl rfl ⟨rfl,rfl,rfl,rfl,rfl⟩ rfl rfl rfl rfl rfl BB func3 BB
  (of_decide_eq_true BB) (by unfold Func.isWrapper;first|(rw[if_pos AS];kernel_rfl)|(rw[if_neg AS];exact⟨rfl,rfl⟩))
  (fun os started H enc _ F=>bD.aAp os started H enc F)
end Go.Proofs.YtoehnnefaeoeoaaGreat
