/- Proved: ErringSaid of quarrykeep.Erring at this commit, whole, without further conditions, whatever the goroutines' order. Names are shortened by program. -/
import Derived.Test.YtcjlmniddnnieaaGreatRows
import Derived.Deep.Fields
import Derived.Test.YtcjlmniddnnieaaGreatPAZ
import Derived.Test.YtcjlmniddnnieaaGreatPBA
set_option linter.all false
set_option maxRecDepth 100000
set_option maxHeartbeats 16000000
namespace Go.Proofs.YtcjlmniddnnieaaGreat
open Go.Proofs.Tryz
namespace dI
open Conc ConcM RowKit au bn cC c5 bU bM eb aK kO
section
variable{O:fk}{n0:Nat}
abbrev hv(x y:Int):Value:=.agg #[.I x,.I y]
section
variable{P:cf}{Post:fX}{n:Nat}{Shun:uai}{w:aH}{f:uah}{b:Act}{ops:fC}{i:Nat}{rest:uad}{k k':uaa}{cs:fG}{o:Oper}
def L_(h:∀w,stepG P true (a0 ((base f).at b k) cs) w=.go (a0 ((base f).at b k') cs) w #[])(hn:∀j,bK P Post n Shun 0 (a0 ((base f).at b k') cs) (w.at j)):bK P Post n Shun 0 (a0 ((base f).at b k) cs) w:=
 Dn Y λj=>⟨_,w.at j,#[],h _,AQ,vad _,hn j⟩
def XV(g:ops[i]?=some o)(l:o.guard=none){d:Tmp}(hd:o.dst=some d){v:Value}{w1:aH}(e:∀j,(execOp b.eval o).run P (w.at j)=.ok (.value v) (w1.at j))(p:∀j,(execOp b.eval o).events P (w.at j) #[]=#[])(hs:w.heap.size<=w1.heap.size)(m:∀j,bK P Post n Shun 0 (a0 ((base f).at (b.put (some d) v) (.R ops rest::k)) cs) (w1.at j)):bK P Post n Shun 0 (a0 ((base f).at b (.R ops (i::rest)::k)) cs) w:=by
 refine Dn Y λj=>⟨_,w1.at j,#[],?_,AQ,hs,m j⟩;have c:=vaq (P:=P) (main:=true) (b:=base f) (a:=b) (k:=k) (cs:=cs) (rest:=rest) g (xW l _) (by simp[base]) (e j);have h:listed P (base f).fn b o (w.at j)=#[]:=by grind[listed,seen_none]
 rw[h,hd]at c;exact c
end
def Q2(lS cu dr:Value)(i:Nat):(#[lS,cu,dr]++Array.replicate 244 undef:fi)[i]?=if i=0 then some lS else if i=1 then some cu else if i=2 then some dr else if i<247 then some undef else none:=by
 rcases i with _ | _ | _ |i
 .simp_all
 .simp_all
 .simp_all
 .rw[Array.getElem?_append_right AQ,Array.getElem?_replicate];grind
def Ih(rv cu dr p q u:Value):Act:=(((((⟨#[rv,cu,dr]++Array.replicate 244 undef,[]⟩:Act).put (some 4) p).put (some 5) q).put (some 6) (.F)).put (some 27) rv).put (some 28) u
def B2(cu dr p q u:Value):Act:=((((⟨#[undef,cu,dr]++Array.replicate 244 undef,[]⟩:Act).put (some 4) p).put (some 5) q).put (some 6) (.F)).put (some 28) u
abbrev Ii(W:aH)(x y x' y':Int)(u:Value):Act:=B2 (hv x y) (hv x' y') (.P W.heap.size 0) (.P (W.heap.size+1) 0) u
def aCN(rv cu dr p q u:Value):gb (jG (some rv) (some rv) 0) (B2 cu dr p q u) (Ih rv cu dr p q u):=by
 have b:∀i,(B2 cu dr p q u).tmps[i]?=if 28=i then some u else if 6=i then some (.F)else if 5=i then some q else if 4=i then some p else if i=0 then some undef else if i=1 then some cu else if i=2 then some dr else if i<247 then some undef else none:=by intro i;simp only[B2,Act.put,vam,vdb,Array.size_append,vdy,vdl,List.length_nil,Array.size_replicate,Q2];rfl
 have a:∀i,(Ih rv cu dr p q u).tmps[i]?=if 28=i then some u else if 27=i then some rv else if 6=i then some (.F)else if 5=i then some q else if 4=i then some p else if i=0 then some rv else if i=1 then some cu else if i=2 then some dr else if i<247 then some undef else none:=by intro i;simp only[Ih,Act.put,vam,vdb,Array.size_append,vdy,vdl,List.length_nil,Array.size_replicate,Q2];rfl
 refine⟨by simp[B2,Ih,Act.put],λi hi=>?_,λi v hi hv=>?_,λi hi=>?_,by simp[B2,Ih,Act.put]⟩
 .have h0:i≠0:=λe=>by subst e;cases hi
  have c:27≠i:=λe=>by subst e;cases hi
  simp_all
 .have h0:i=0\/i=27:=by grind[jG]
  rw[b]at hv;rcases h0 with rfl|rfl<;>simp at hv<;>exact hv.symm
 .have h0:i=0\/i=27:=by grind[jG]
  rw[a];rcases h0 with rfl|rfl<;>rfl
structure ga(W w':aH):Prop where
 old:∀b,0<b->b<W.heap.size->w'.heap[b]?=W.heap[b]?
 first:∀c e fr,W.heap[0]?=some (.cells c e fr)->w'.heap[0]?=some (.cells c e fr)
 since:oM W w'
section
variable{Post:fX}{n:Nat}{Shun:uai}{W:aH}{b:Act}{cs:fG}{rv:Value}{x y:Int}
def aCQ(h:∀j,bK prog Post n Shun 0 (a0 ((base 3).at b [.R (aI Tryz.f3 0) [0,1,2],.code (.seq (.region 1 (aI Tryz.f3 1) false) (uY Tryz.f3))]) cs) (W.at j)):bK prog Post n Shun 0 (a0 ((base 3).at b [.code (.seq (.region 0 (aI Tryz.f3 0) false) (.seq (.region 1 (aI Tryz.f3 1) false) (uY Tryz.f3)))]) cs) W:=by refine L_ (k':=[.code (.region 0 (aI Tryz.f3 0) false),.code (.seq (.region 1 (aI Tryz.f3 1) false) (uY Tryz.f3))]) (λw=>GM) λc=>?_;refine L_ (λw=>?_) λa=>h a;have hsz:(aI Tryz.f3 0).size=3:=AM;simp[a0,stepG,stepG.exec,Frame.at,base,hsz,vct]
def aCR(h:∀j,bK prog Post n Shun 0 (a0 ((base 3).at b [.R (aI Tryz.f3 1) [0,1,2,3],.code (uY Tryz.f3)]) cs) (W.at j)):bK prog Post n Shun 0 (a0 ((base 3).at b [.R (aI Tryz.f3 0) [],.code (.seq (.region 1 (aI Tryz.f3 1) false) (uY Tryz.f3))]) cs) W:=by refine L_ (k':=[.code (.seq (.region 1 (aI Tryz.f3 1) false) (uY Tryz.f3))]) (λw=>GM) λd=>?_;refine L_ (k':=[.code (.region 1 (aI Tryz.f3 1) false),.code (uY Tryz.f3)]) (λw=>GM) λc=>?_;refine L_ (λw=>?_) λa=>h a;have hsz:(aI Tryz.f3 1).size=4:=AM;simp[a0,stepG,stepG.exec,Frame.at,base,hsz,vct]
def kt{i s d:Nat}{o:Oper}(c:(aI Tryz.f3 0)[i]?=some o)(a:o.op=.box 24 (.tmp s))(hg:o.guard=none)(hd:o.dst=some d)(f:b.tmps[s]?=some (hv x y)){rest:uad}{k:uaa}(h:∀j,bK prog Post n Shun 0 (a0 ((base 3).at (b.put (some d) (.P W.heap.size 0)) (.R (aI Tryz.f3 0) rest::k)) cs) ((W.alloc (.cells #[.I x,.I y] 24)).at j)):bK prog Post n Shun 0 (a0 ((base 3).at b (.R (aI Tryz.f3 0) (i::rest)::k)) cs) W:=by
 have e:=c2 f;refine XV c hg hd (v:=.P W.heap.size 0) (w1:=(W.alloc (.cells #[.I x,.I y] 24))) (λj=>?_) (λj=>?_) AQ h
 .generalize b.eval=ev at e⊢;cases o;simp only at a;subst a;simp[go_sem,e];exact⟨Y,Y⟩
 .generalize b.eval=ev at e⊢;cases o;simp only at a;subst a;simp[go_sem,e]
def aCS{o:Oper}(c:(aI Tryz.f3 0)[2]?=some o)(a:o.op=.assign (.const (.F)))(hg:o.guard=none)(hd:o.dst=some 6){rest:uad}{k:uaa}(h:∀j,bK prog Post n Shun 0 (a0 ((base 3).at (b.put (some 6) (.F)) (.R (aI Tryz.f3 0) rest::k)) cs) (W.at j)):bK prog Post n Shun 0 (a0 ((base 3).at b (.R (aI Tryz.f3 0) (2::rest)::k)) cs) W:=
 XV c hg hd (v:=.F) (w1:=W) (λj=>by cases o;simp only at a;subst a;simp[go_sem]) (λj=>by cases o;simp only at a;subst a;simp[go_sem]) Kj h
def aCT{o:Oper}(d:(aI Tryz.f3 1)[0]?=some o)(a:o.op=.move (.tmp 0))(hg:o.guard=none)(hd:o.dst=some 27)(c:b.tmps[0]?=some rv){rest:uad}{k:uaa}(h:∀j,bK prog Post n Shun 0 (a0 ((base 3).at (b.put (some 27) rv) (.R (aI Tryz.f3 1) rest::k)) cs) (W.at j)):bK prog Post n Shun 0 (a0 ((base 3).at b (.R (aI Tryz.f3 1) (0::rest)::k)) cs) W:=
 XV d hg hd (v:=rv) (w1:=W) (λj=>KQ) (λj=>KQ) Kj h
theorem kr:∃o,(aI Tryz.f3 1)[1]?=some o/\o.op=.call {callee:=.value (.func 4),args:=#[.tmp 27,.const (.I 40)],argTypes:=#[22,3]}/\o.guard=none/\o.dst=some 28:=by rw[jF (aI Tryz.f3 1)];simp_all
def aCU(e:b.tmps[27]?=some rv){rest:uad}{k:uaa}(h:∀j,bK prog Post n Shun 0 (a0 (Frame.enter prog 4 #[rv,.I 40] .normal) ((base 3).at b (.R (aI Tryz.f3 1) (1::rest)::k)::cs)) (W.at j)):bK prog Post n Shun 0 (a0 ((base 3).at b (.R (aI Tryz.f3 1) (1::rest)::k)) cs) W:=by
 obtain⟨o,g,c,hg,-⟩:=kr;have d:#[Operand.tmp 27,.const (.I 40)].map b.eval=#[rv,.I 40]:=by simp[e,Act.eval]
 have f:=hU.pi (b:=base 3) (Q:=prog) (o:=o) (a:=b) c func4 AS Y d;exact vU (mD Y (w1:=W) (es:=#[]) (λk'=>(stepG_enter g (xW hg _) (by simp[base]) (f _).1).trans (vbp (λes=>GStep.go _ _ es) (f _).2)) AQ Kj (.stop h))
def aCX{rest:uad}{k:uaa}(u:Value):Frame.finish ((base 3).at b (.R (aI Tryz.f3 1) (1::rest)::k)) u=(base 3).at (b.put (some 28) u) (.R (aI Tryz.f3 1) rest::k):=by grind[kr,Frame.finish_at]
end
def aCY{Post:fX}{W:aH}{rv:Value}{rs:List dw}{x y d a:Int}(U:c9 x)(T:c9 y)(Z:c9 d)(B:c9 a)(h0:∃c e,W.heap[0]?=some (.cells c e)/\∀v∈c,LI v)(bt:LS ⟨W.heap.size,W.heap⟩ rv rs)(fa:∀w',ga W w'->Post (.T) w'):
 bK prog Post 1 (λ_=>False) 0 (a0 (Frame.enter prog 3 #[rv,hv x y,hv d a] .normal) []) W:=by
 obtain⟨cz,aJH,I,R⟩:=h0;have M:0<W.heap.size:=ml I;rw[aK.vdc func3 aBR];have f:=aCN rv (hv x y) (hv d a) (.P W.heap.size 0) (.P (W.heap.size+1) 0);have hg:=Q2 rv (hv x y) (hv d a);have hsz:(⟨#[rv,hv x y,hv d a]++Array.replicate 244 undef,[]⟩:Act).tmps.size=247:=AQ;unfold Ih at f;have D:Tryz.f3.ntmps-(#[rv,hv x y,hv d a]:fi).size=244:=AQ;rw[D];have e0:(⟨#[rv,hv x y,hv d a]++Array.replicate 244 undef,[]⟩:Act).tmps[0]?=some rv:=hg 0;have e3:(⟨#[rv,hv x y,hv d a]++Array.replicate 244 undef,[]⟩:Act).tmps[1]?=some (hv x y):=hg 1;have e4:(⟨#[rv,hv x y,hv d a]++Array.replicate 244 undef,[]⟩:Act).tmps[2]?=some (hv d a):=hg 2;clear hg;generalize(⟨#[rv,hv x y,hv d a]++Array.replicate 244 undef,[]⟩:Act)=b at *;obtain⟨gl,z⟩:∃o,(aI Tryz.f3 0)[0]?=some o/\o.op=.box 24 (.tmp 1)/\o.guard=none/\o.dst=some 4:=by rw[jF (aI Tryz.f3 0)];simp_all
 obtain⟨o1,w⟩:∃o,(aI Tryz.f3 0)[1]?=some o/\o.op=.box 24 (.tmp 2)/\o.guard=none/\o.dst=some 5:=by rw[jF (aI Tryz.f3 0)];grind
 obtain⟨o2,t⟩:∃o,(aI Tryz.f3 0)[2]?=some o/\o.op=.assign (.const (.F))/\o.guard=none/\o.dst=some 6:=by rw[jF (aI Tryz.f3 0)];grind
 obtain⟨o3,r⟩:∃o,(aI Tryz.f3 1)[0]?=some o/\o.op=.move (.tmp 0)/\o.guard=none/\o.dst=some 27:=by rw[jF (aI Tryz.f3 1)];grind
 have yt:((W.alloc (.cells #[.I x,.I y] 24)).alloc (.cells #[.I d,.I a] 24)).heap.size=W.heap.size+2:=AQ;have hold:∀b,b<W.heap.size->((W.alloc (.cells #[.I x,.I y] 24)).alloc (.cells #[.I d,.I a] 24)).heap[b]?=W.heap[b]?:=λb f=>(vdm _ _ _ An).trans (vdm _ _ _ AP);have L:ag ((W.alloc (.cells #[.I x,.I y] 24)).alloc (.cells #[.I d,.I a] 24)) W.heap.size #[.I x,.I y] 24:=(ag.new W _ _).alloc _;have J:ag ((W.alloc (.cells #[.I x,.I y] 24)).alloc (.cells #[.I d,.I a] 24)) (W.heap.size+1) #[.I d,.I a] 24:=by have:=ag.new (W.alloc (.cells #[.I x,.I y] 24)) #[.I d,.I a] 24;simp_all
 have E:∀j,oM W (((W.alloc (.cells #[.I x,.I y] 24)).alloc (.cells #[.I d,.I a] 24)).at j):=λj=>⟨by show W.heap.size<=((W.alloc (.cells #[.I x,.I y] 24)).alloc (.cells #[.I d,.I a] 24)).heap.size;omega,.refl _,rfl,rfl⟩;have F:(W.alloc (.cells #[.I x,.I y] 24)).heap.size=W.heap.size+1:=AQ;refine aCQ λdn=>kt z.1 z.2.1 z.2.2.1 z.2.2.2 e3 λdB=>kt w.1 w.2.1 w.2.2.1 w.2.2.2 ((dV AU).trans e4) λjB=>aCS t.1 t.2.1 t.2.2.1 t.2.2.2 λig=>aCR λh5=>aCT r.1 r.2.1 r.2.2.1 r.2.2.2 ((dV AU).trans ((dV AU).trans ((dV AU).trans e0))) λz1=>aCU (kS (by grind[gY])) λm=>?_;have ku:∀j,((W.at j).alloc (.cells #[.I x,.I y] 24)).heap.size=W.heap.size+1:=λj=>by show(W.alloc (.cells #[.I x,.I y] 24)).heap.size=_;simp
 show bK _ _ _ _ _ (a0 _ [(base 3).at (((((b.put (some 4) (.P W.heap.size 0)).put (some 5) (.pointer (some ⟨(W.alloc (.cells #[.I x,.I y] 24)).heap.size,0,none⟩))).put (some 6) (.F)).put (some 27) rv)) _]) (((W.alloc (.cells #[.I x,.I y] 24)).alloc (.cells #[.I d,.I a] 24)).at m);rw[F];generalize((W.alloc (.cells #[.I x,.I y] 24)).alloc (.cells #[.I d,.I a] 24))=n at *;have aQ:Home ⟨W.heap.size,W.heap⟩ prog (λb=>b=0\/b=W.heap.size\/b=W.heap.size+1) (λ_=>False) (n.at m):=by
  refine⟨λb f=>?_,λg hg=>.inl BR,AJ,λb f h=>?_,by show W.heap.size<=n.heap.size;omega,λb _ f=>hold b f,AJ⟩
  .rcases f with rfl|rfl|rfl
   .refine⟨_,(hold 0 M).trans I,.inl (.cells _ ?_ AJ)⟩;obtain⟨l⟩:=cz;refine lg λv hv=>?_;have hv:=R v AJ;cases v<;>first|exact hv.elim|exact .int _ _ |exact .bool _ |exact .string _
   .refine⟨_,L,.inl (.cells _ (lg (l:=[.I x,.I y]) λv hv=>?_) AJ)⟩;simp at hv;rcases hv with rfl|rfl<;>exact .int _ _
   .refine⟨_,J,.inl (.cells _ (lg (l:=[.I d,.I a]) λv hv=>?_) AJ)⟩;simp at hv;rcases hv with rfl|rfl<;>exact .int _ _
  grind
 refine aAV aQ bt λu M' w' Q IZ X O A PB=>?_;rw[aCX];have c3:M' W.heap.size:=AJ;have P:M' (W.heap.size+1):=AJ;have dg:aM (bG M') (Ii W x y d a u).tmps (Ii W x y d a u).tmps:=by
  have k:ax (bG M') (.P W.heap.size 0) (.P W.heap.size 0):=.ptr ⟨⟨rfl,c3⟩,rfl,rfl⟩;have hq:ax (bG M') (.P (W.heap.size+1) 0) (.P (W.heap.size+1) 0):=.ptr ⟨⟨rfl,P⟩,rfl,rfl⟩;have K:∀x y:Int,ax (bG M') (hv x y) (hv x y):=λx y=>.oW (lg (l:=[.I x,.I y]) λv hv=>by
   simp at hv;rcases hv with rfl|rfl<;>exact .int _ _)
  unfold Ii B2;simp only[Act.put];refine aM.set (aM.set (aM.set (aM.set (aM.append (lg (l:=[undef,hv x y,hv d a]) λv hv=>?_) (Hq _ _)) k _) hq _) (.bool _) _) X _;simp at hv;rcases hv with rfl|rfl|rfl
  .exact .undef _
  .exact K _ _
  .exact K _ _
 have hsz':1<=w'.heap.size:=vac (show 1<=(n.at m).heap.size by show 1<=n.heap.size;omega) O.size;have H:Held ⟨W.heap.size,W.heap⟩ prog M' w' 1 (Ii W x y d a u) M' w' (λ_=>False):=.start Q hsz' dg rfl;have N:∀j,(⟨#[undef,hv x y,hv d a]++Array.replicate 244 undef,[]⟩:Act).tmps[j]?=_:=Q2 _ _ _;have i:(⟨#[undef,hv x y,hv d a]++Array.replicate 244 undef,[]⟩:Act).tmps.size=247:=AQ;have S:ah 247 (aW [(4,kW x y),(5,kW d a),(28,qF (eD (rs.take 40))),(246,lL)]) (Ii W x y d a u) w':=by
  unfold Ii B2;generalize(⟨#[undef,hv x y,hv d a]++Array.replicate 244 undef,[]⟩:Act)=q at N i;refine ah.of (by simp only[gY];exact i) λp k=>?_;simp at k;rcases k with rfl|rfl|rfl|rfl
  .exact⟨_,(dV (s:=4) AU).trans ((dV (s:=4) AU).trans ((dV (s:=4) AU).trans (kS AJ))),_,rfl,A _ _ _ _ (.inr LF) L⟩
  .exact⟨_,(dV (s:=5) AU).trans ((dV (s:=5) AU).trans (kS (by grind[gY]))),_,rfl,A _ _ _ _ (.inr LO) J⟩
  .exact⟨u,kS (by grind[gY]),PB⟩
  .exact⟨_,(dV (s:=246) AU).trans ((dV (s:=246) AU).trans ((dV (s:=246) AU).trans ((dV (s:=246) AU).trans (N 246)))),rfl⟩
 refine aCC (n0:=1) (f u) H (rs.take 40) AJ U T Z B S AU λbV M2 w2 EV C=>fa w2 ⟨λb h0 f=>C.gq.old b h0 f,λc e fr V=>?_,?_⟩
 .exact C.keep 0 c e fr AJ (A 0 c e fr LF ((hold 0 M).trans V))
 .exact(E m).trans (O.trans C.since)
end
section
open ChangeShapes WideShapes ChangeAt Deep
section
variable{H:Type}{enc:TypeId×Value->H}{spare:uaz}{held:Bool}{fuel:Nat}{cs:uaj}{x:DataW H×List MemPlace}{w:aH}
theorem wf_i64{n:Int}(h:(Lit.int .i64 n).wf=true):c9 n:=by simp[Lit.wf,IntKind.min,IntKind.max,IntKind.signed,IntKind.bits]at h;exact h
def km{t:uab}{fs:Array Field}(ht:prog.underlying t=some (.struct fs))(a:oneCellFields prog fs=true)(hn:prog.cellsOf t=fs.size)(h:DataW.trod enc prog w 0 spare held fuel t cs=some x):
 cs.length=fs.size/\∀(i:Nat)(f:Field),fs[i]?=some f->∃u y n,cs[i]?=some u/\DataW.trod enc prog w 0 spare held n f.type [u]=some y:=by
 obtain⟨xs,n,-,rfl,e,k,j⟩:=DataW.trod_struct ht h;refine⟨e.trans hn,λi f hi=>?_⟩;obtain⟨c,b⟩:=hone_of a i f hi;have d:i<fs.size:=(vaj.1 hi).1;have g:=j i f hi;rw[c,b,take1_drop cs i undef AP,vat AP]at g;grind
def Ij{e:uab}(a:prog.underlying e=some (.int .i64)){u:Value}(h:DataW.trod enc prog w 0 spare held fuel e [u]=some x):∃n,u=.I n/\c9 n:=by grind[DataW.trod_int,wf_i64]
def aC1(h:DataW.trod enc prog w 0 spare held fuel 59 cs=some x):∃r:dw,cs=[.I r.1,.I r.2.1,.I r.2.2.1,.I r.2.2.2]/\c9 r.1/\c9 r.2.1/\c9 r.2.2.1/\c9 r.2.2.2:=by obtain⟨a,hs⟩:=km underlying59 AS AS h;obtain⟨u0,z,n0,cz,t0⟩:=hs 0 _ Y;obtain⟨u1,p,o,c1,d⟩:=hs 1 _ Y;obtain⟨u2,l,q,co,d_⟩:=hs 2 _ Y;obtain⟨u3,m,n,db,c⟩:=hs 3 _ Y;obtain⟨k,rfl,w0⟩:=Ij underlying57 t0;obtain⟨j,rfl,w1⟩:=Ij underlying57 d;obtain⟨f,rfl,w2⟩:=Ij underlying57 d_;obtain⟨e,rfl,b⟩:=Ij underlying57 c;refine⟨(k,j,f,e),?_,w0,w1,w2,b⟩;have a:cs.length=4:=a;obtain⟨y,l0,rfl,h0⟩:=PI a;obtain⟨a1,l1,rfl,i⟩:=PI h0;obtain⟨v,l2,rfl,g⟩:=PI i;obtain⟨u,t,rfl,s⟩:=PI g;grind
def aC2{v:Value}(M:∀(c:fi) e z,w.heap[0]?=some (.cells c e z)->∀(i:Nat)(n:Int),c[i]?≠some (Value.int .i64 n))(h:DataW.trod enc prog w 0 spare held fuel 22 [v]=some x):∃rs,LS ⟨w.heap.size,w.heap⟩ v rs:=by
 rcases open_slice underlying22 h with⟨l,rfl⟩|⟨a,len,cap,m,n,D,I,l,-,S,-,P,rfl,F⟩
 .obtain rfl:v=_:=by simpa using l
  exact⟨[],none,0,Y,AJ⟩
 obtain rfl:v=_:=by simpa using l
 have H:len<=m:=AJ;have J:prog.cellsOf 59=4:=AS;have k:∀i,∃r:dw,i<len->(∀j u,[Value.int .i64 r.1,.I r.2.1,.I r.2.2.1,.I r.2.2.2][j]?=some u->w.cell? ((a.add (i*4)).add j)=some u)/\c9 r.1/\c9 r.2.1/\c9 r.2.2.1/\c9 r.2.2.2:=λi=>by
  by_cases hi:i<len
  .obtain⟨Q,f,o⟩:=F i AP;obtain⟨r,rfl,O⟩:=aC1 o;rw[J]at f;obtain⟨-,K,hcell⟩:=World.cells?_some f;grind
  .exact⟨(0,0,0,0),AJ⟩
 obtain⟨R,q⟩:=vcn.1 k;refine⟨(List.range len).map R,some a,cap,AQ,λi hi=>?_⟩;have t:i<len:=AJ;obtain⟨d,E,C,B,A⟩:=q i t;simp;obtain⟨b,off,spot⟩:=a;have s:spot=none:=by have:=(q 0 AP).1 0 _ Y;simpa[Addr.add]using World.cell?_spot this
 subst s;have key:∀j,((⟨b,off,none⟩:Addr).add (i*4)).add j=⟨b,off+i*4+j,none⟩:=λj=>by unfold Addr.add;by_cases f:i*4=0<;>by_cases o:j=0<;>simp[f,o]
 have cz:=d 0 _ Y;have c1:=d 1 _ Y;have co:=d 2 _ Y;have db:=d 3 _ Y;rw[key]at cz c1 co db;obtain⟨c,e,z,p,-,L⟩:=u9 cz;have g:∀j u,w.cell? (.a b j)=some u->c[j]?=some u:=λj u N=>by grind[World.cell?]
 have y:0<b:=by grind
 exact⟨b,off,c,e,z,Y,y,ml p,p,AJ,E,C,B,A⟩
end
def aC3(P:cf)(t:Nat->Question->Nat)(os:Os):(begin P t os).world.heap[P.globals.size]?=some (.cells ((Array.range P.types.size).map λt=>.int .u64 (Int.ofNat t)) 0):=by have key:∀(A:Array Obj)(n:Nat),n=A.size->∀a b c d e,(((((A.push a).push b).push c).push d).push e)[n]?=some a:=AJ;exact key _ _ AQ _ _ _ _ _
def aC4{W:aH}(h:W.ShapedOpen prog):W.heap[0]?=some (.cells ((Array.range prog.types.size).map λt=>.int .u64 (Int.ofNat t)) 0):=by have h0:prog.globals.size=0:=AQ;have a:=aC3 prog (λ_ _=>0) default;rw[h0]at a;obtain⟨o,e,d,c,b⟩:=h.2 0 AP (ml a);simp_all[World.looseAt]
def aC5{B:Nat}:nz (λ_=>False) B 0 1 #[]:=
 ⟨AJ,AJ,λi a h=>I7,λsaid=>by rintro⟨i,j,_,⟨a,b,c,_⟩,_⟩;simp[Trace.act?]at c,λi a h=>I7,λi g h=>by simp[Trace.g?]at h,Y,λi a b h=>I7⟩
def aC6{P:cf}{Post:fX}{g:uaf}{W:aH}(h:bK P Post 1 (λ_=>False) 0 g W):cC.mC P Post (solo g W) #[]:=by rw[solo_eq_crowd];refine h #[g] none (λ_=>0) #[] Y Y ⟨λi x hi a=>?_,λj b=>Y⟩ aC5;grind
theorem aC7:ownKnob prog.godebug=none:=by kernel_rfl
theorem XW:laidOutB prog=true:=by kernel_rfl
def j4{H:Type}{enc:TypeId×Value->H}{spare:uaz}{held:Bool}{fuel:Nat}{x:DataW H×List MemPlace}{w:aH}{cs:fi}(g:DataW.trod enc prog w 0 spare held fuel 24 cs.toList=some x):∃a b:Int,cs=#[.I a,.I b]/\c9 a/\c9 b:=by obtain⟨f,hs⟩:=km underlying24 AS AS g;obtain⟨u0,j,n0,cz,s0⟩:=hs 0 _ Y;obtain⟨u1,i,h,c1,c⟩:=hs 1 _ Y;obtain⟨x,rfl,e⟩:=Ij underlying3 s0;obtain⟨y,rfl,d⟩:=Ij underlying3 c;refine⟨x,y,?_,e,d⟩;obtain⟨l⟩:=cs;simp only at cz c1 f;grind
def aC8{H:Type}{enc:TypeId×Value->H}{P:cf}{w:aH}{base:Nat}{spare:uaz}{held:Bool}{t0 g d_:uab}{args:fi}{ds:List (DataW H)}{ps:List MemPlace}(h:DataW.TrodAll enc P w base spare held [t0,g,d_] args.toList ds ps):
 ∃v0 v1 v2 f d1 e d c b,args=#[v0,v1,v2]/\ds=[f,d1,e]/\ps=d++(c++b)/\DataW.Trod enc P w base spare held t0 v0 f d/\DataW.Trod enc P w base spare held g v1 d1 c/\DataW.Trod enc P w base spare held d_ v2 e b:=by
 obtain⟨v0,vs,f,o,d,q,p,rfl,rfl,h0,a⟩:=trodAll_cons h;obtain⟨v1,n,d1,m,c,r,rfl,rfl,rfl,j,a⟩:=trodAll_cons a;obtain⟨v2,l,e,k,b,s,rfl,rfl,rfl,i,a⟩:=trodAll_cons a;obtain⟨rfl,rfl,rfl⟩:=trodAll_nil a;exact⟨v0,v1,v2,f,d1,e,d,c,b,by cases args;simp_all,Y,AQ,h0,j,i⟩
def aC9(os:Os)(started:os.Started)(H:Type)(enc:TypeId×Value->H)(F:Stop.Interp):
 ReturnsInLeavingWide Rows.erringRow.assume checked os 3 .any (Rows.erringSpec.pre6 enc prog Tryz.f3 Rows.erringRow.domain false) ((OpenSpec.ofChange Rows.erringSpec).postWith enc prog Tryz.f3 F (outsideKept [.timePasses]) false true false):=by
 refine returnsInLeavingWide_of_good (C:=checked) aC7 started
  (ChangeSpec.witness6c (enc:=enc) (C:=checked) ⟨#[],#[.N,.agg #[.I 0,.I 0],.agg #[.I 0,.I 0]],[]⟩ 8 AS AS AS AS) ?_
 intro w tape i _ l _ hok K8 _;obtain⟨_,_,_,L,Gx,_,_,_,_,hval⟩:=hok;obtain rfl:L=Tryz.f3:=van (Gx.symm.trans func3);obtain⟨⟨ds,gs,before,r,-⟩,-⟩:=K8;have g:=DataW.Whole.of_heap (w':=w.forCall tape i) A_ r;have l:(w.forCall tape i).ShapedOpen prog:=l;clear r;generalize aJR:w.forCall tape i=W at *;obtain⟨vars,args,more⟩:=i;simp only at hval g⊢;have hval:∀(j:Nat) t v,Tryz.f3.params[j]?=some t->args[j]?=some v->Value.okWide prog W .any w.heap.size t v:=hval;have m:=g;obtain⟨p,q,hA0,s,rfl,_,_⟩:=g;have k:DataW.TrodAll enc prog W 0 (λ_=>true) true Tryz.f3.params.toList args.toList ds p:=hA0;rw[params3]at k hval;obtain⟨v0,v1,v2,d0,d1,d2,K,J,I,rfl,rfl,rfl,t0,n,d_⟩:=aC8 k;obtain⟨rfl,rfl⟩:=trodVars_none s;clear hA0 k;simp only[vde]at m;have P:∀x∈K++(J++I),x.block<W.heap.size:=λx f=>by simpa using m.lt x f
 have h0:=aC4 l;obtain⟨Y,len,cap,rfl⟩:=okWide_slice underlying22 (hval 0 22 v0 rfl rfl);obtain⟨aJS,rfl,aJT⟩:=okWide_struct underlying24 (hval 1 24 v1 rfl rfl);obtain⟨aJU,rfl,aJV⟩:=okWide_struct underlying24 (hval 2 24 v2 rfl rfl);obtain⟨f0,T⟩:=id t0;obtain⟨f1,g1⟩:=id n;obtain⟨f2,S⟩:=id d_;obtain⟨rs,V⟩:=aC2 (w:=W) AJ (by simpa[Value.cells]using T);obtain⟨x,y,rfl,f,M⟩:=j4 g1;obtain⟨z,u,rfl,R,d⟩:=j4 S;obtain⟨N,last,o,w',U,r1,B,A,v,e,O,X,Z,E,D⟩:=aC6 (aCY (Post:=λv w'=>v=.T/\ga W w') f M R d ⟨_,_,h0,λv hv=>by
  obtain⟨t,-,rfl⟩:=Array.mem_map.1 hv;trivial⟩ V AJ)
 refine⟨N,last,o,w',U,r1,B,A,v,e,?_,X,Z,E,D⟩;obtain⟨rfl,a⟩:=O;have c:cy W {w' with os:=W.os}:=by
  refine⟨rfl,a.since.tape,a.since.output,a.since.size,λb Q=>?_⟩;rcases vbn b with rfl|h
  .exact(a.first _ _ _ h0).trans h0.symm
  .exact a.old b h Q
 have IG:Rows.erringSpec.post enc prog Tryz.f3 false true false false W #[.slice Y len cap,.agg #[.I x,.I y],.agg #[.I z,.I u]] (.T) {w' with os:=W.os}:=
  ⟨_,_,_,[],_,[],m,trodAll_mk1 (shut_bool underlying4 true),trodAll_mk3 (Below.trod XW AS (vdx AQ) t0 c AJ) (Below.trod XW AS (vdx AQ) n c AJ) (Below.trod XW AS (vdx AQ) d_ c AJ),rfl,c.frame _,AJ⟩
 exact postWith_blind (postWith_of_post IG a.since.later)
end
end dI
theorem erring_holds:Rows.ErringSaid:=
 OpenClaim.holds_of_wide_leaving_time 3 Tryz.f3 Y Y Y Y Y Y Y ⟨Y,Y,Y,Y,Y⟩ Y Y Y Y Y AS func3 AS
  (vdx AS) (by unfold Func.isWrapper;first|(rw[vbz AM];kernel_rfl)|(rw[vbt AM];exact⟨Y,Y⟩))
  (λos started H enc _ F=>dI.aC9 os started H enc F)
