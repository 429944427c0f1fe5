import Derived.Test.YtnkpmooengcinaaGreatPAO
import Derived.Test.YtnkpmooengcinaaGreatPAP
import Derived.Test.YtnkpmooengcinaaGreatPAR
set_option linter.all false
set_option maxRecDepth 100000
set_option maxHeartbeats 16000000
namespace Go.Proofs.YtnkpmooengcinaaGreat
open Go.Proofs.Tryz
namespace bB
open Conc ConcM RowKit av bn ae fY eW gH lE dv
variable{M aD:c5}{w0:aH}{bs:uat}
def Rx{P:ck}{upd:Bool}(C:(cm P upd).Good)(V:upd=false){f:ual}{fn:Func}{D:Code}(y:P.funcs[f]?=some fn)(hk:fG P upd fn=true)(a:fn.body=some D)(A:uC fn=true)(o:∀b,M b->aD b)(hg:∀g,g<=P.globals.size->M g){args:dC}(z:aL (c8 M bE) args args)(F:eA (cm P upd) M bE w0){n:Int}(U:∀w,(∀b,M b->w.heap[b]?=w0.heap[b]?)->∀i,fX (cm P upd) M bE w i->∀T,Calls (aa P upd) f args {i with tape:=T} (λe _=>e=.returned (.I n))){ST:Bool->en.Lo->aV->Prop}(r:∀m l g w N j,(∀b,N b->j b)->ST m l ⟨g,w,N⟩->ST m l ⟨g,w,j⟩){m:Bool}:
 io P ST m f args (iC en () aD w0 bs) (λu E=>u=.I n/\E=iC en () aD w0 bs):=by
 intro aY aF az aI aK aG csZ O w γ B
 have hF:af en aD w0 bs w:=B
 have L:∀b,M b->w.heap[b]?=w0.heap[b]?:=λb a=>hF.rw.heap b AN
 have K:eA (cm P upd) M bE w:=mS F L
 obtain⟨i,J⟩:=EI (cm P upd) M bE w
 have q:=iH.more (K':=M) AN (Qd C y hk a A K hg AN z (R:=λv _=>v=.I n) J AN m (aY.at aF (.inRegion az (aI::aK)::aG)) csZ)
 have p:(⟨bf (Frame.enter P f args .normal) (aY.at aF (.inRegion az (aI::aK)::aG)::csZ),w,b8 aD bs⟩:aV)=qd ⟨bf (Frame.enter P f args .normal) (aY.at aF (.inRegion az (aI::aK)::aG)::csZ),w,bE⟩ (b8 aD bs):=by
  unfold qd;congr 1
  funext b
  exact propext ⟨.inr,λh=>h.resolve_left (λx=>x)⟩
 show bd _ _ _ _ () γ ⟨bf (Frame.enter P f args .normal) (aY.at aF (.inRegion az (aI::aK)::aG)::csZ),w,b8 aD bs⟩
 rw[p]
 have c:∀b,b8 aD bs b->b<w.heap.size:=by
  rintro b (h|h)
  .exact hF.lt b (.inr (.inl h))
  .obtain⟨x,t,rfl⟩:=vbz.1 h;exact jk (hF.bI x t)
 refine Xw tL rfl (λ_ _ h=>h) q γ (b8 aD bs) (λb a=>.inr (.inl (o b a))) rfl (λb _ h=>h) (λb a=>⟨λx=>x,λh=>h,c b a⟩) AN AN ?_
 rintro Y I ⟨ρ,w1,v,v',d⟩ W Qh LN X hsz H Z LO k S Q
 obtain rfl:v'=.I n:=by have:=d.val;rw[d.post]at this;exact this.px
 have s:af en aD w0 bs Y.w:=hF.on ⟨AN,hsz,k,S,Q⟩
 have:=O (.I n) (iC en () aD w0 bs) ⟨rfl,rfl⟩ Y.w I s
 unfold qd
 have e:=d.g
 rw[vcc]at e
 rw[e]
 exact bd.more r this (λb a=>.inr a)
def amb:(aa prog false).funcs[(198:Nat)]?=some f198:=bo (upd:=false) func198 AT
def amc:(aa prog false).funcs[(203:Nat)]?=some f203:=bo (upd:=false) func203 AT
def amd:(aa prog false).funcs[(210:Nat)]?=some f210:=bo (upd:=false) func210 AT
def ame(t:List bQ)(v:Value)(w:aH)(hv:nV w v t)(h0:0<t.length):
 Calls (aa prog false) 198 #[.agg #[v]] w λe _=>e=.returned (.I (t[0].j_.length:Int)):=by
 obtain⟨l,cap,rfl,-,c⟩:=hv;obtain⟨b,off,rfl,b9,vs,k,-,-,-,-,d,a⟩:=c 0 h0;obtain⟨h,ci,f,g,an,j,-,-,rfl⟩:=a.shape;simp at d;have i:=dx d;clear c a;have hi:(0:Int)<(t.length:Int):=AY;go_enter amb,ntmps198
 go_wp2
 go_ret
 rfl
abbrev eP(op a:Int)(b5:uad)(bC gc:Nat)(a_:Value):Value:=.agg #[.I op,.I a,.I 0,.N,.N,.N,.slice b5 bC gc,a_]
def amf(op a:Int)(b5 ek:uad)(b gc n cc:Nat)(w:aH):
 Calls (aa prog false) 203 #[eP op a b5 b gc (.slice ek n cc)] w λe _=>e=.returned (.I (n:Int)):=by
 go_enter amc,ntmps203
 go_wp2
 go_ret
 rfl
def amg(op a:Int)(b5 ek:uad)(b gc n cc:Nat)(w:aH):
 Calls (aa prog false) 210 #[eP op a b5 b gc (.slice ek n cc)] w λe _=>e=.returned (.I (n:Int)):=by
 go_enter amd,ntmps210
 go_wp2
 go_ret
 rfl
def amh:fG prog false f198=true:=by decide+kernel
def ami:fG prog false f203=true:=by decide+kernel
def amj:fG prog false f210=true:=by decide+kernel
theorem amk(h:∀b,M b->aD b)(hg:∀g,g<=prog.globals.size->M g)(a:eA (cm prog false) M bE w0){t:List bQ}{v:Value}(hv:nV w0 v t)(hrel:ap (c8 M bE) v v)(h0:0<t.length){ST:Bool->en.Lo->aV->Prop}(i:∀m l g w N c,(∀b,N b->c b)->ST m l ⟨g,w,N⟩->ST m l ⟨g,w,c⟩):
 io prog ST true 198 (#[.agg #[v]]++#[]) (iC en () aD w0 bs) (λu j=>u=.I (t[0].j_.length:Int)/\j=iC en () aD w0 bs):=
 Rx jQ U func198 amh U AT h hg (.one (.qU (.one hrel))) a (λw f e k d=>ame t v {e with tape:=d} (bw.mono q_ (Ak e d) (av.bw.carry wA (k.carry (mS a f)) hrel (av.bw.carry wA (py f a) hrel hv))) h0) i
variable{b5 ek:uad}
def aml(e:∀b,M b->aD b)(hg:∀g,g<=prog.globals.size->M g)(j:eA (cm prog false) M bE w0){op a:Int}{c gc n cc:Nat}(h:ap (c8 M bE) (eP op a b5 c gc (.slice ek n cc)) (eP op a b5 c gc (.slice ek n cc))){ST:Bool->en.Lo->aV->Prop}(f:∀m l g w N d,(∀b,N b->d b)->ST m l ⟨g,w,N⟩->ST m l ⟨g,w,d⟩):
 io prog ST true 203 (#[eP op a b5 c gc (.slice ek n cc)]++#[]) (iC en () aD w0 bs) (λu i=>u=.I (n:Int)/\i=iC en () aD w0 bs):=
 Rx jQ U func203 ami U AT e hg (.one h) j (λw q o p k=>amf op a b5 ek c gc n cc _) f
def YP(e:∀b,M b->aD b)(hg:∀g,g<=prog.globals.size->M g)(j:eA (cm prog false) M bE w0){op a:Int}{c gc n cc:Nat}(h:ap (c8 M bE) (eP op a b5 c gc (.slice ek n cc)) (eP op a b5 c gc (.slice ek n cc))){ST:Bool->en.Lo->aV->Prop}(f:∀m l g w N d,(∀b,N b->d b)->ST m l ⟨g,w,N⟩->ST m l ⟨g,w,d⟩):
 io prog ST true 210 (#[eP op a b5 c gc (.slice ek n cc)]++#[]) (iC en () aD w0 bs) (λu i=>u=.I (n:Int)/\i=iC en () aD w0 bs):=
 Rx jQ U func210 amj U AT e hg (.one h) j (λw q o p k=>amg op a b5 ek c gc n cc _) f
end bB
namespace bB
open Conc ConcM RowKit av
def amm(v:Value)(args:dC)(w:aH):(callMethod (.iface 103 (.agg #[v])) "Piece" args).run prog w=.ok (.enter 197 (#[.agg #[v]]++args)) w/\(callMethod (.iface 103 (.agg #[v])) "Piece" args).events prog w #[]=#[]:=⟨AU,AU⟩
def amn(v:Value)(w:aH):(callMethod (.iface 103 (.agg #[v])) "Size" #[]).run prog w=.ok (.enter 198 (#[.agg #[v]]++#[])) w/\(callMethod (.iface 103 (.agg #[v])) "Size" #[]).events prog w #[]=#[]:=⟨AU,AU⟩
def amo(op a:Int)(b5:uad)(b gc:Nat)(a_:Value)(args:dC)(w:aH):(callMethod (.iface 140 (eP op a b5 b gc a_)) "Piece" args).run prog w=.ok (.enter 202 (#[eP op a b5 b gc a_]++args)) w/\(callMethod (.iface 140 (eP op a b5 b gc a_)) "Piece" args).events prog w #[]=#[]:=⟨AU,AU⟩
def amp(op a:Int)(b5:uad)(b gc:Nat)(a_:Value)(w:aH):(callMethod (.iface 140 (eP op a b5 b gc a_)) "Size" #[]).run prog w=.ok (.enter 203 (#[eP op a b5 b gc a_]++#[])) w/\(callMethod (.iface 140 (eP op a b5 b gc a_)) "Size" #[]).events prog w #[]=#[]:=⟨AU,AU⟩
def amq(op a:Int)(b5:uad)(b gc:Nat)(a_:Value)(args:dC)(w:aH):(callMethod (.iface 146 (eP op a b5 b gc a_)) "Piece" args).run prog w=.ok (.enter 209 (#[eP op a b5 b gc a_]++args)) w/\(callMethod (.iface 146 (eP op a b5 b gc a_)) "Piece" args).events prog w #[]=#[]:=⟨AU,AU⟩
def YQ(op a:Int)(b5:uad)(b gc:Nat)(a_:Value)(w:aH):(callMethod (.iface 146 (eP op a b5 b gc a_)) "Size" #[]).run prog w=.ok (.enter 210 (#[eP op a b5 b gc a_]++#[])) w/\(callMethod (.iface 146 (eP op a b5 b gc a_)) "Size" #[]).events prog w #[]=#[]:=⟨AU,AU⟩
end bB
namespace lE
open Conc RowKit Conc.Lib ConcR.Gen ConcM av bn ae fY eW gH bM
def ZF:prog.underlying 77=some (.slice 57):=by simp
def ZG:prog.underlying 216=some (.slice 133):=by simp
def ZH{t c:uaa}(up:prog.underlying t=some (.slice c))(inf:(prog.info? c).map (λi=>(i.zero,i.size,i.bytes))=some (some (.N),1,24)){a:Act}{b:Frame}{o:Oper}{x y:uaq}{N:Nat}(a5:N<=2000000)(d:o.op=.makeSlice t x y)(l:a.eval x=.I (N:Int))(k:a.eval y=.I (N:Int))(w:aH):
 (execOp a.eval o).run prog w=.ok (.value (.S w.heap.size 0 N N)) (w.alloc (.cells (madeCells #[.N] N) c))/\listed prog b.fn a o w=#[]:=by
 obtain⟨i,hi,f⟩:=vaj.1 inf;simp at f;obtain⟨h,m,n⟩:=f;have g:(i.bytes:Int)*(N:Int)<=281474976710656:=AN;have e:=run_makeSlice (P:=prog) w t c i (.N) up hi h .i64 .i64 (N:Int) (N:Int) AY (Int.le_refl _) AN g AY;have j:=events_make (P:=prog) w t c i (.N) up hi h .i64 .i64 (N:Int) (N:Int) AY (Int.le_refl _) g AY AN #[];simp[m]at e;unfold listed execOp;simp only[d,l,k];constructor
 .simp[e];rfl
 .simp[j,vcn]
section
variable{ST:Bool->en.Lo->aV->Prop}
def anT(i:Bool){S ab N:Nat}(E:0<ab)(a5:N=(S+ab-1) / ab)(B:S<=1000000)(A:ab<=1000000){M:c5}{w0:aH}{bs:uat}:
 io prog ST true (ba i 40 84) #[.I (S:Int),.I (ab:Int)] (iC en () M w0 bs) (λu s=>∃st cx,u=.P st 0/\s=iC en () M w0 ((st,.cells #[.int .i32 0,.int .u32 0,.I (S:Int),.I (ab:Int),.I 0,.I 0,.S cx 0 N N,.N] (ba i 160 218))::(cx,.cells (madeCells #[.N] N) (ba i 57 133))::bs)):=by
 generalize q:ba i 160 218=ny at *;generalize p:ba i 57 133=F at *;cases i<;>dsimp only[ba]at *
 all_goals
  replace q:=q.symm;replace p:=p.symm;intro aY aF az aI aK aG csZ hK w γ hF;have m:=tL.mO;obtain⟨j,D,r⟩:∃j:Nat,IntKind.wrap .i64 ((S:Int)+(ab:Int))=(j:Int)/\qC (j=S+ab):=⟨S+ab,De,U⟩;obtain⟨g,C,z⟩:∃g:Nat,IntKind.wrap .i64 ((j:Int)-1)=(g:Int)/\qC (g=S+ab-1):=⟨S+ab-1,by grind[IntKind.wrap_i64],U⟩;have hq:Int.tdiv (g:Int) (ab:Int)=(N:Int):=by grind[qC.out]
  have o:N<=2000000:=by rw[a5];exact vac (Nat.div_le_self _ _) AY
  replace a5:qC (N=(S+ab-1) / ab):=a5;have y:IntKind.wrap .i64 (N:Int)=(N:Int):=De;have x:¬ab=0:=AY;first|rw[vcf _ func40 U]|rw[vcf _ func84 U]
  refine uu (γ:=()) tL (λ_ _ h=>h) 200 _ _ _ trivial ?_;unfold iC at hF⊢;simp only[ba,f40,f84];walk_nrm
  repeat w_go af.on
  refine fU U hF λd c n f a t l k hF=>?_;refine tg AN m U hF (vau U U Ad (ZH (b:=base 0) (by first|exact ZF|exact ZG) AU o U U U a).1) U (ZH (by first|exact ZF|exact ZG) AU o U U U a).2 (λe=>?_);clear hF;have hF:=e;clear e k l f c;generalize a.heap.size=cx at hF⊢;generalize a.alloc _=w3 at hF⊢;refine uu (γ:=()) tL (λ_ _ h=>h) 200 _ _ _ trivial ?_;walk_nrm
  repeat w_go af.on
  refine fU U hF λd c n f a t l k hF=>?_;refine tg AN m U hF (vau (v:=.P a.heap.size 0) (w':=a.alloc (.cells #[.int .i32 0,.int .u32 0,.I (S:Int),.I (ab:Int),.I 0,.I 0,.S cx 0 N N,.N] ny)) U U Ad Ah) U A1 (λe=>?_);clear hF;have hF:=e;clear e k l f c;generalize a.heap.size=st at hF⊢;generalize a.alloc (.cells #[.int .i32 0,.int .u32 0,.I (S:Int),.I (ab:Int),.I 0,.I 0,.S cx 0 N N,.N] ny)=w3 at hF⊢;refine uu (γ:=()) tL (λ_ _ h=>h) 200 _ _ _ trivial ?_;walk_nrm
  repeat w_go af.on
  u_in af.on hF
  refine goes_leave1 U U D6 U ⟨Be,?_⟩;refine vaf (λd c=>⟨U,λn f=>?_⟩);replace hF:=hF.on c;simp_all[iC]
end
section
section
variable{ST:Bool->en.Lo->aV->Prop}
variable{aY:Frame}{aF:Act}{az:eQ}{aI:Nat}{aK:uag}{aG:uab}{csZ:fA}
def anU(i:Bool){S ab N W:Nat}(dP:0<ab)(a5:N=(S+ab-1) / ab)(Y:S<=1000000)(V:ab<=1000000){jt:uaa}{c J:Value}{c2:ual}{M:c5}{w0:aH}(hinv:∀w,(callMethod (.iface jt c) "Size" #[]).run prog w=.ok (.enter c2 (#[J]++#[])) w/\(callMethod (.iface jt c) "Size" #[]).events prog w #[]=#[])(tP:∀bs,io prog ST true c2 (#[J]++#[]) (iC en () M w0 bs) (λu bk=>u=.I (S:Int)/\bk=iC en () M w0 bs))(I:∀st cx k f g wg bs w'(R cK c_ T X e9 e_ fa fb fc fd fD fm fo fp U fq f_ ga gb:Value),af en M w0 bs w'->(∀x∈[(wg,Obj.cells #[.int .u64 0,.int .u32 0] 126),(k,Obj.cells #[.P st 0] (ba i 114 185)),(st,Obj.cells #[.int .i32 0,.int .u32 0,.I (S:Int),.I (ab:Int),.I 0,.I 0,.S cx 0 N N,.N] (ba i 160 218)),(cx,Obj.cells (madeCells #[.N] N) (ba i 57 133)),(g,Obj.cells #[.iface jt c] (ba i 113 184)),(f,Obj.cells #[.I (W:Int),.I (ab:Int)] 52)],x∈bs)->(∀x∈bs,x∈[(wg,Obj.cells #[.int .u64 0,.int .u32 0] 126),(k,Obj.cells #[.P st 0] (ba i 114 185)),(st,Obj.cells #[.int .i32 0,.int .u32 0,.I (S:Int),.I (ab:Int),.I 0,.I 0,.S cx 0 N N,.N] (ba i 160 218)),(cx,Obj.cells (madeCells #[.N] N) (ba i 57 133)),(g,Obj.cells #[.iface jt c] (ba i 113 184)),(f,Obj.cells #[.I (W:Int),.I (ab:Int)] 52)])->bd en prog ST true () () ⟨Conc.G ((base (ba i 28 48)).at ⟨#[R,cK,c_,.P g 0,T,X,.P k 0,.P wg 0,e9,e_,fa,fb,fc,fd,.I (W:Int),.I (0:Int),fD,fm,fo,fp,U,fq,f_,ga,gb],[]⟩ [.code ((bM.dA ((ba i f28 f48).body.getD .skip)).getD .skip),.inLoop ((bM.dA ((ba i f28 f48).body.getD .skip)).getD .skip),.inBlock 0,.code ((bM.ed 8 ((ba i f28 f48).body.getD .skip)).getD .skip)]) (aY.at aF (.inRegion az (aI::aK)::aG)::csZ),w',b8 M bs⟩)(w:aH)(hk:af en M w0 [] w):
 bd en prog ST true () () ⟨Conc.G (Frame.enter prog (ba i 28 48) #[.agg #[.I (W:Int),.I (ab:Int)],.iface jt c] .normal) (aY.at aF (.inRegion az (aI::aK)::aG)::csZ),w,b8 M []⟩:=by
 have D:=λbs=>anT (ST:=ST) i dP a5 Y V (M:=M) (w0:=w0) (bs:=bs);generalize P:ba i 160 218=ny at *;generalize L:ba i 57 133=F at *;generalize O:ba i 114 185=B at *;generalize K:ba i 113 184=m at *;cases i<;>dsimp only[ba]at *
 all_goals
  replace P:=P.symm;replace L:=L.symm;replace O:=O.symm;replace K:=K.symm;have hF:=hk;have t:=tL.mO;have Q:prog.follows .mixedOrders=true:=AU;first|rw[vcf _ func28 rfl]|rw[vcf _ func48 rfl]
  refine uu (γ:=()) tL AN 200 _ _ _ trivial ?_;simp only[ba,f28,f48];walk_nrm
  repeat w_go af.on
  refine fU rfl hF λd b y n a E s q hF=>?_;refine tg AN t rfl hF (vau (v:=.P a.heap.size 0) (w':=a.alloc (Obj.cells #[.I (W:Int),.I (ab:Int)] 52)) rfl rfl Ad Ah) rfl A1 (λl=>?_);clear hF;have hF:=l;clear l q s n b;generalize a.heap.size=f at hF⊢;generalize a.alloc (Obj.cells #[.I (W:Int),.I (ab:Int)] 52)=w3 at hF⊢;refine uu (γ:=()) tL AN 200 _ _ _ trivial ?_;walk_nrm
  repeat w_go af.on
  refine fU rfl hF λd b y n a E s q hF=>?_;refine tg AN t rfl hF (vau (v:=.P a.heap.size 0) (w':=a.alloc (Obj.cells #[.iface jt c] m)) rfl rfl Ad Ah) rfl A1 (λl=>?_);clear hF;have hF:=l;clear l q s n b;generalize a.heap.size=g at hF⊢;generalize a.alloc (Obj.cells #[.iface jt c] m)=w3 at hF⊢;refine uu (γ:=()) tL AN 200 _ _ _ trivial ?_;walk_nrm
  repeat w_go af.on
  refine vaf (λd b=>⟨rfl,λy n=>?_⟩);replace hF:=hF.on b;clear b n;have mg:∀bs:List (Nat×Obj),(g,Obj.cells #[.iface jt c] m)∈bs->(f,Obj.cells #[.I (W:Int),.I (ab:Int)] 52)∈bs->∀x∈[(f,Obj.cells #[.I (W:Int),.I (ab:Int)] 52),(g,Obj.cells #[.iface jt c] m)],Cd x M w0 bs:=by
   intro bs h1 h2 x H;simp at H;rcases H with rfl|rfl
   .exact .inl h2
   .exact .inl h1
  refine zV (Z:=en) (C:=Ms en () [(f,Obj.cells #[.I (W:Int),.I (ab:Int)] 52),(g,Obj.cells #[.iface jt c] m)]) AN Ad Q Mt al_ (σ:=iC en () M w0 [(g,Obj.cells #[.iface jt c] m),(f,Obj.cells #[.I (W:Int),.I (ab:Int)] 52)]) (ib:=q2 prog ST true _ _ _ _ []) IG ⟨_,_,_,AN,rfl⟩ ?_ _ y hF;walk_nrm
  refine iK (i:=0) (v:=.iface jt c) Mt rfl AT AT AT (YO rfl (z:=(g,Obj.cells #[.iface jt c] m)) Ab rfl (λw j=>?_)) ⟨_,_,_,AN,rfl⟩ ?_
  .have p:w.cell? (.a g 0)=some (.iface jt c):=by simp[World.cell?,j]
   refine⟨Ah,λe r=>⟨0,?_⟩⟩;have o:=vbp r;simp[go_sem,p]at o;grind
  walk_nrm
  refine eN 2 (.P f 1) ?_ Mt ⟨_,_,_,AN,rfl⟩;walk_nrm
  refine iK (i:=3) (v:=.I (ab:Int)) Mt rfl AT AT AT (YO rfl (z:=(f,Obj.cells #[.I (W:Int),.I (ab:Int)] 52)) Ab rfl (λw j=>?_)) ⟨_,_,_,AN,rfl⟩ ?_
  .have p:w.cell? (.a f 1)=some (.I (ab:Int)):=by simp[World.cell?,j]
   refine⟨Ah,λe r=>⟨1,?_⟩⟩;have o:=vbp r;simp[go_sem,p]at o;grind
  walk_nrm
  refine P3 (rs:=[1,5]) AT Ab (λi hi=>?_);simp at hi;rcases hi with rfl|rfl;focus
   refine(xR rfl rfl (xU (λw=>Qe (rv:=.iface jt c) (vs:=#[]) rfl rfl B3 (hinv w)) (tP _) ?_));rintro u _ ⟨rfl,rfl⟩;refine⟨⟨_,_,_,AN,rfl⟩,?_⟩;walk_nrm
   refine P3 (rs:=[4,5]) AT Ab (λi hi=>?_);simp at hi;rcases hi with rfl|rfl;focus
    refine(xR rfl rfl (xU (λw=>pw (vs:=#[.I (S:Int),.I (ab:Int)]) rfl D6 AU rfl B3 w) (D _) ?_));rintro u _ ⟨st,cx,rfl,rfl⟩;refine⟨⟨_,_,_,AN,rfl⟩,?_⟩;walk_nrm
    refine qk (i:=5) AT (xQ rfl rfl (Rv t (ob:=Obj.cells #[.pointer none] B) (λw=>⟨Ah,A1⟩) (λk=>⟨⟨_,_,_,AN,rfl⟩,?_⟩)));walk_nrm
    refine qk (i:=6) AT (xQ rfl rfl (Rw rfl (pre:=[]) (post:=[(st,Obj.cells #[.int .i32 0,.int .u32 0,.I (S:Int),.I (ab:Int),.I 0,.I 0,.S cx 0 N N,.N] ny),(cx,Obj.cells (madeCells #[.N] N) F),(g,Obj.cells #[.iface jt c] m),(f,Obj.cells #[.I (W:Int),.I (ab:Int)] 52)]) (new:=#[.P st 0]) (λw j=>?_) ⟨⟨_,_,_,AN,rfl⟩,?_⟩))
   rotate_left 2
   focus
    refine(xQ rfl rfl (Rv t (ob:=Obj.cells #[.pointer none] B) (λw=>⟨Ah,A1⟩) (λk=>⟨⟨_,_,_,AN,rfl⟩,?_⟩)));walk_nrm
    refine qk (i:=4) AT (xR rfl rfl (xU (λw=>pw (vs:=#[.I (S:Int),.I (ab:Int)]) rfl D6 AU rfl B3 w) (D _) ?_));rintro u _ ⟨st,cx,rfl,rfl⟩;refine⟨⟨_,_,_,AN,rfl⟩,?_⟩;walk_nrm
    refine qk (i:=6) AT (xQ rfl rfl (Rw rfl (pre:=[(st,Obj.cells #[.int .i32 0,.int .u32 0,.I (S:Int),.I (ab:Int),.I 0,.I 0,.S cx 0 N N,.N] ny),(cx,Obj.cells (madeCells #[.N] N) F)]) (post:=[(g,Obj.cells #[.iface jt c] m),(f,Obj.cells #[.I (W:Int),.I (ab:Int)] 52)]) (new:=#[.P st 0]) (λw j=>?_) ⟨⟨_,_,_,AN,rfl⟩,?_⟩))
  rotate_left 4
  focus
   refine(xQ rfl rfl (Rv t (ob:=Obj.cells #[.pointer none] B) (λw=>⟨Ah,A1⟩) (λk=>⟨⟨_,_,_,AN,rfl⟩,?_⟩)));walk_nrm
   refine qk (i:=1) AT (xR rfl rfl (xU (λw=>Qe (rv:=.iface jt c) (vs:=#[]) rfl rfl B3 (hinv w)) (tP _) ?_));rintro u _ ⟨rfl,rfl⟩;refine⟨⟨_,_,_,AN,rfl⟩,?_⟩;walk_nrm
   refine qk (i:=4) AT (xR rfl rfl (xU (λw=>pw (vs:=#[.I (S:Int),.I (ab:Int)]) rfl D6 AU rfl B3 w) (D _) ?_));rintro u _ ⟨st,cx,rfl,rfl⟩;refine⟨⟨_,_,_,AN,rfl⟩,?_⟩;walk_nrm
   refine qk (i:=6) AT (xQ rfl rfl (Rw rfl (pre:=[(st,Obj.cells #[.int .i32 0,.int .u32 0,.I (S:Int),.I (ab:Int),.I 0,.I 0,.S cx 0 N N,.N] ny),(cx,Obj.cells (madeCells #[.N] N) F)]) (post:=[(g,Obj.cells #[.iface jt c] m),(f,Obj.cells #[.I (W:Int),.I (ab:Int)] 52)]) (new:=#[.P st 0]) (λw j=>?_) ⟨⟨_,_,_,AN,rfl⟩,?_⟩))
  all_goals
   first
   |have p:w.cell? (.a k 0)=some (.pointer none):=by simp[World.cell?,j]
    have m0:w.frozen? ⟨k,0,none⟩=false:=by simp[World.frozen?,j]
    have bS:w.setCell ⟨k,0,none⟩ (.P st 0)=w.setRow k #[.P st 0]:=setCell_eq_setRow w k 0 #[.pointer none] B (0,0) (.P st 0) j;refine⟨by rw[<-bS];go_simp,λe r=>⟨0,?_⟩⟩;have o:=vbp r;simp[go_sem]at o;rw[Go.events_store _ _ _ _ _ _ rfl,p]at o;grind
   |walk_nrm
    refine zU AT ?_ _;intro A ew l;replace hF:af en M w0 _ A:=l;clear l;unfold iC;refine uu (γ:=()) tL AN 200 _ _ _ trivial ?_;walk_nrm
    repeat w_go af.on
    refine fU rfl hF λd b y n a E s q hF=>?_;refine tg AN t rfl hF (vau (v:=.P a.heap.size 0) (w':=a.alloc (Obj.cells #[.int .u64 0,.int .u32 0] 126)) rfl rfl Ad Ah) rfl A1 (λl=>?_);clear hF;have hF:=l;clear l q s n b;generalize a.heap.size=wg at hF⊢;generalize a.alloc (Obj.cells #[.int .u64 0,.int .u32 0] 126)=w3 at hF⊢;refine uu (γ:=()) tL AN 200 _ _ _ trivial ?_;walk_nrm
    repeat w_go af.on
    refine fU rfl hF λd b y n a E s q hF=>?_;have j:=hF.bI (f,Obj.cells #[.I (W:Int),.I (ab:Int)] 52) Ab;have p:a.cell? (.a f 0)=some (.I (W:Int)):=by simp[World.cell?,j]
    refine r9 AN rfl AN (vau (v:=.I (W:Int)) rfl rfl Ad Ah) rfl (λe r=>?_) ?_
    .have o:=vbp r;simp[go_sem,p]at o;subst o;exact⟨rfl,.inr (.inr Ab)⟩
    clear j p q s n b;refine uu (γ:=()) tL AN 200 _ _ _ trivial ?_;walk_nrm
    iterate 4 w_go af.on
    refine vaf (λd b=>⟨rfl,λy n=>?_⟩);replace hF:=hF.on b;simp only[ba,f28,f48,vah,bM.dA,bM.ed,Nat.reduceBEq,vai,↓reduceIte]at I;exact I st cx k f g wg _ d (.agg #[.I (W:Int),.I (ab:Int)]) (.iface jt c) (.P f 0) _ _ (.iface jt c) (.I (S:Int)) (.P f 1) (.I (ab:Int)) (.P st 0) (.P f 0) undef undef undef undef undef undef undef undef undef hF Ab Ab
end
end
end lE
namespace bj
open Conc ConcM RowKit av bn cW dv
section
variable{O:gp}
def kT(T:uaa)(w w':aH):Prop:=w.heap.size<=w'.heap.size/\∀(b:Nat) c e z,w.heap[b]?=some (.cells c e z)->∃c',w'.heap[b]?=some (.cells c' e z)/\c'.size=c.size/\(e≠T->c'=c)
def mC(T:uaa)(F:bg):Prop:=∀w w' v,kT T w w'->F.R w v->F.R w' v
structure m3 where
 g:Nat
 pos:Nat->Bool
 nB:Nat->Bool
 jo:List (Nat×TypeId×Nat)
def m3.st(S:m3)(j:Nat):Option (TypeId×Nat):=(S.jo.find? λp=>p.1==j).map (·.2)
def qH(S:m3)(j:Nat)(o:Oper):Option Nat:=match S.st j with|some p=>some p.2|none=>o.dst
def Ox(nB:ubg)(acc:bZ):bZ:=λs=>if nB s then acc s else none
def SJ(L K:bZ):bZ:=λs=>match L s with|some F=>some F|none=>K s
def apF{N:Nat}{L K:bZ}{a:Act}{w:aH}(b:af N L a w)(c:af N K a w):af N (SJ L K) a w:=⟨b.size,λs F e=>by
 unfold SJ at e;split at e
 .cases e;exact b.has s _ AN
 .exact c.has s F e⟩
def F_(P:ck)(N n0:Nat)(E:bZ)(o:Oper)(p:TypeId×Nat)(F:bg):Prop:=o.guard=none/\o.dst=none/\∀a w,af N E a w->∃w',(execOp a.eval o).run P w=.ok .skip w'/\kT p.1 w w'/\Below n0 w w'/\∃v,a.tmps[p.2]?=some v/\F.R w' v
def y6(S:m3)(ops:eQ)(L K:bZ)(j:Nat)(acc:bZ)(o:Oper):bZ:=if S.pos j then Fq K ops (Ox S.nB acc) o else Fq (SJ L K) ops acc o
def apG(P:ck)(N n0:Nat)(ops:eQ)(E:bZ)(o:Oper)(F:bg):Prop:=(uL ops E o true/\∀a w,n0<=w.heap.size->af N E a w->Fp P o F a w)\/(uL ops E o false/\F=mX)
def AB(P:ck)(N n0:Nat)(ops:eQ)(S:m3)(cp:bg)(oW:bZ->Prop)(j:Nat)(E:bZ)(o:Oper)(F:bg):Prop:=
 match S.st j with
 |some p=>j≠S.g/\F_ P N n0 E o p F
 |none=>j=S.g/\oW E/\F=cp\/j≠S.g/\apG P N n0 ops E o F
abbrev sA(P:ck)(N n0:Nat)(ops:eQ)(S:m3)(L K:bZ)(cp:bg)(oW:bZ->Prop):List Oper->Nat->bZ->bZ->bZ->Prop:=
 B7 (qH S) S.nB (λj acc o F=>F.ok n0/\(S.nB j=true->∀p∈S.jo,p.1≠j->mC p.2.1 F)/\AB P N n0 ops S cp oW j (y6 S ops L K j acc o) o F) N
section
variable{P:ck}{N n0:Nat}{ops:eQ}{S:m3}{L K K':bZ}{cp:bg}{oW:bZ->Prop}{o:Oper}{l:ubf}{j:Nat}{acc iA:bZ}{d:Nat}{F:bg}
def hn(hd:o.dst=some d)(c:∀a w,n0<=w.heap.size->af N (y6 S ops L K j acc o) a w->Fp P o F a w)(h:sA P N n0 ops S L K cp oW l (j+1) (up acc j F) (if S.nB j then up iA d F else iA) K')(hs:S.nB j=true->∀p∈S.jo,p.1≠j->mC p.2.1 F:=by first|(intro h;cases h;done)|(intro _ _ h;cases h;done))(hg:o.guard=none:=by rfl)(a5:d<N:=by decide)(e:j≠S.g:=by decide)(b:S.st j=none:=by rfl)(hok:F.ok n0:=by first|exact trivial|exact rfl):sA P N n0 ops S L K cp oW (o::l) j acc iA K':=⟨d,by unfold qH;rw[b];exact hd,a5,F,⟨hok,hs,by unfold AB;rw[b];exact .inr ⟨e,.inl ⟨by grind[uL],c⟩⟩⟩,h⟩
def hq(hd:o.dst=some d)(b:bK P N (y6 S ops L K j acc o) o F)(h:sA P N n0 ops S L K cp oW l (j+1) (up acc j F) (if S.nB j then up iA d F else iA) K')(hs:S.nB j=true->∀p∈S.jo,p.1≠j->mC p.2.1 F:=by first|(intro h;cases h;done)|(intro _ _ h;cases h;done))(hg:o.guard=none:=by rfl)(a5:d<N:=by decide)(e:j≠S.g:=by decide)(c:S.st j=none:=by rfl)(hok:F.ok n0:=by first|exact trivial|exact rfl):sA P N n0 ops S L K cp oW (o::l) j acc iA K':=hn hd (λa w _ h=>b a w h) h hs hg a5 e c hok
def hg(hd:o.dst=some d)(b:oW (y6 S ops L K j acc o))(h:sA P N n0 ops S L K cp oW l (j+1) (up acc j cp) (if S.nB j then up iA d cp else iA) K')(hs:S.nB j=true->∀p∈S.jo,p.1≠j->mC p.2.1 cp:=by first|(intro h;cases h;done)|(intro _ _ h;cases h;done))(a5:d<N:=by decide)(c:j=S.g:=by rfl)(a:S.st j=none:=by rfl)(hok:cp.ok n0:=by exact trivial):sA P N n0 ops S L K cp oW (o::l) j acc iA K':=⟨d,by unfold qH;rw[a];exact hd,a5,cp,⟨hok,hs,by unfold AB;rw[a];exact .inl ⟨c,b,U⟩⟩,h⟩
def hk{B:ubh}(hd:o.dst=some d)(a:bK P N (y6 S ops L K j acc o) o F)(hs:∀T,B T->mC T F)(c:∀p∈S.jo,B p.2.1)(h:sA P N n0 ops S L K cp oW l (j+1) (up acc j F) (if S.nB j then up iA d F else iA) K')(hg:o.guard=none:=by rfl)(a5:d<N:=by decide)(f:j≠S.g:=by decide)(e:S.st j=none:=by rfl)(hok:F.ok n0:=by first|exact trivial|exact rfl):sA P N n0 ops S L K cp oW (o::l) j acc iA K':=hq hd a h (λ_ p b _=>hs _ (c p b)) hg a5 f e hok
def hst{p:TypeId×Nat}(a:S.st j=some p)(b:F_ P N n0 (y6 S ops L K j acc o) o p F)(h:sA P N n0 ops S L K cp oW l (j+1) (up acc j F) (if S.nB j then up iA p.2 F else iA) K')(hs:S.nB j=true->∀p∈S.jo,p.1≠j->mC p.2.1 F:=by first|(intro h;cases h;done)|(intro _;decide))(a5:p.2<N:=by decide)(c:j≠S.g:=by decide)(hok:F.ok n0:=by exact U):sA P N n0 ops S L K cp oW (o::l) j acc iA K':=⟨p.2,by unfold qH;rw[a],a5,F,⟨hok,hs,by unfold AB;rw[a];exact⟨c,b⟩⟩,h⟩
end
def DF(S:m3)(am:uaw):Prop:=∀p∈S.jo,am.getD p.1 false=false
structure l6(N:Nat)(ops:eQ)(S:m3)(L Q:bZ)(c2:Nat->bg)(am:uaw)(a:Act)(w:aH):Prop where
 len:am.size=ops.size
 size:a.tmps.size=N
 oN:∀p∈S.jo,am.getD p.1 false=true->∀i,i<ops.size->S.pos i=false->i≠p.1->am.getD i false=true
 loc:DF S am->af N L a w
 Ga:af N Q a w
 val:∀(j:Nat) o d,ops[j]?=some o->qH S j o=some d->am.getD j false=true->DF S am\/S.nB j=true->∃v,a.tmps[d]?=some v/\(c2 j).R w v
structure l3(ops:eQ)(S:m3)(L Q K:bZ):Prop where
 one:∀(i j:Nat) o o' d,ops[i]?=some o->ops[j]?=some o'->qH S i o=some d->o'.dst=some d->S.st j=none->i=j\/S.pos j=false/\∃p∈S.jo,p.1=i
 l:∀(i:Nat) o d,ops[i]?=some o->o.dst=some d->L d=none/\Q d=none/\K d=none
 x:∀p∈S.jo,S.st p.1=some p.2/\p.1<ops.size/\(∀i,i<ops.size->S.pos i=false->i≠p.1->wJ ops p.1 i=true)/\∀q∈S.jo,q.2.2=p.2.2->q=p
 sd:∀(j:Nat) o q,S.st j=some q->ops[j]?=some o->o.dst=none
 g:S.pos S.g=false/\S.st S.g=none
 oN:(List.range ops.size).all (λj=>match ops[j]? with|some o=>o.after.all λe=> !Region.binds .any e||decide (e.on<j)|none=>true)=true
def Jm(ops:eQ)(S:m3):Bool:=
 ((List.range ops.size).all λi=>(List.range ops.size).all λj=>i==j||(ops[j]?).bind (·.dst)==none||(S.st j).isSome||(ops[i]?).bind (qH S i) != (ops[j]?).bind (·.dst)||(!S.pos j&&S.jo.any λp=>p.1==i))&&
 (S.jo.all λp=>S.st p.1==some p.2&&decide (p.1<ops.size)&&((List.range ops.size).all λi=>S.pos i||i==p.1||wJ ops p.1 i)&&S.jo.all λq=>q.2.2 != p.2.2||q==p)&&
 ((List.range ops.size).all λj=>S.st j==none||(ops[j]?).bind (·.dst)==none)&&
 (!S.pos S.g&&S.st S.g==none)&&
 ((List.range ops.size).all λj=>match ops[j]? with|some o=>o.after.all λe=> !Region.binds .any e||decide (e.on<j)|none=>true)
theorem l3.of{ops:eQ}{L Q K:bZ}{S:m3}(h:Jm ops S=true)(k:rf L ops.toList=true)(c:rf Q ops.toList=true)(hK:rf K ops.toList=true):l3 ops S L Q K:=by
 unfold Jm at h;simp only[vae,List.all_eq_true,List.mem_range,Bool.or_eq_true,beq_iff_eq,bne_iff_ne,Bool.not_eq_true',decide_eq_true_eq,List.any_eq_true]at h;obtain⟨⟨⟨⟨r,n⟩,s⟩,f⟩,e⟩:=h;have b:∀{K:bZ},rf K ops.toList=true->∀(i:Nat) o d,ops[i]?=some o->o.dst=some d->K d=none:=λhK i o d a hd=>by unfold rf at hK;rw[List.all_eq_true]at hK;have:=hK o (Array.mem_toList_iff.2 (vbf a));simp_all
 refine⟨λi j o o' d hi m g dj hs=>?_,λi o d a hd=>⟨b k i o d a hd,b c i o d a hd,b hK i o d a hd⟩,λp l=>?_,λj o q hq a=>?_,f,by simpa using e⟩
 .grind
 .grind
 .grind
section
variable{P:ck}{N n0:Nat}{ops:eQ}{S:m3}{L Q K:bZ}{c2:Nat->bg}{am:uaw}{a:Act}{w w1:aH}
def Og(r:∀s F,L s=some F->F.ok n0)(f:∀s F,Q s=some F->F.ok n0)(hF:∀j,j<ops.size->(c2 j).ok n0):oM n0 (l6 N ops S L Q c2 am):=by intro ρ a a' w w' c b h;refine⟨h.len,by rw[<-b.size];exact h.size,h.oN,λq=>gY n0 r ρ a a' w w' c b (h.loc q),gY n0 f ρ a a' w w' c b h.Ga,λj o d e p n m=>?_⟩;obtain⟨v,l,k⟩:=h.val j o d e p n m;obtain⟨v',i,g⟩:=b.some l;exact⟨v',i,(c2 j).gX _ (hF j (vag.1 e).1) _ _ _ _ _ c g k⟩
def l6.start(h:af N L a w)(hq:af N Q a w):l6 N ops S L Q c2 (Array.replicate ops.size false) a w:=⟨Ab,h.size,λp _ q=>by grind[Q2],λ_=>h,hq,λj o d _ _ q=>by grind[Q2]⟩
def l6.apH(g:l3 ops S L Q K)(h:l6 N ops S L Q c2 am a w){i:Nat}(f:i<ops.size)(d:S.pos i=false)(b:am.getD i false=false):DF S am:=λp c=>by
 cases e:am.getD p.1 false with
 |false=>rfl
 |true=>
  by_cases hi:i=p.1
  .grind
  .rw[h.oN p c e i f d hi]at b;cases b
def l6.env(j:l3 ops S L Q K)(h:l6 N ops S L Q c2 am a w)(hK:af N K a w){i:Nat}{o:Oper}(c:ops[i]?=some o)(k:am.getD i false=false)(l:∀e∈o.after,Region.binds .any e=true->am.getD e.on false=true):af N (y6 S ops L K i (λs=>if 0<=s/\s<i then some (c2 s)else none) o) a w:=by
 have f:i<ops.size:=(vag.1 c).1;have key:∀B acc,af N B a w->(∀s F,acc s=some F->F=c2 s/\(DF S am\/S.nB s=true))->af N (Fq B ops acc o) a w:=λB acc m n=>⟨h.size,λs F e=>by
  unfold Fq at e;split at e
  .rename_i x g;have b:=List.find?_some g;have q:=List.mem_of_find?_eq_some g;simp at b;obtain⟨rfl,hF⟩:=n _ _ e;cases c:ops[x.on]? with
   |none=>grind
   |some o'=>
    simp[c]at b;refine h.val _ o' s c ?_ (l x AN b.1) hF;unfold qH;split
    .rename_i p d;rw[j.sd _ _ _ d c]at b;cases b.2
    .exact b.2
  .exact m.has s F e⟩
 unfold y6;split
 .refine key K _ hK λs F e=>?_;unfold Ox at e;grind
 .rename_i d;have h0:=h.apH j f (by simpa using d) k;exact key _ _ (apF (h.loc h0) hK) λs F e=>AN
def SK(b:l3 ops S L Q K){i:Nat}(hs:S.st i=none){p:Nat×TypeId×Nat}(a:p∈S.jo):i≠p.1:=λe=>by rw[e,(b.x p a).1]at hs;cases hs
def SL{am:uaw}{i j:Nat}(h:i≠j):(am.setIfInBounds i true).getD j false=am.getD j false:=by simp_all
def M4{N:Nat}{K:bZ}{a:Act}{w w1:aH}(h:af N K a w){d:Nat}(hd:K d=none)(f:cC w w1){v:Value}:af N K (a.put (some d) v) w1:=⟨ED,λs F e=>by
 obtain⟨x,c,b⟩:=h.has s F e;exact⟨x,(et λx=>AN).trans c,F.fZ _ _ _ f b⟩⟩
theorem l6.put(f:l3 ops S L Q K)(h:l6 N ops S L Q c2 am a w){i:Nat}{o:Oper}{d:Nat}(k:ops[i]?=some o)(hd:o.dst=some d)(hs:S.st i=none)(a5:d<N)(r:am.getD i false=false)(m:cC w w1){v:Value}(hv:(c2 i).R w1 v):l6 N ops S L Q c2 (am.setIfInBounds i true) (a.put (some d) v) w1:=by
 have hi:i<am.size:=Ff;have hn:DF S (am.setIfInBounds i true)↔DF S am:=⟨λq p b=>(SL (SK f hs b))▸q p b,λq p b=>(SL (SK f hs b)).trans (q p b)⟩;refine⟨DD,ED,λp b q j g c n=>?_,λq=>M4 (h.loc (hn.1 q)) (f.l i o d k hd).1 m,M4 h.Ga (f.l i o d k hd).2.1 m,λj o' t g c n z=>?_⟩
 .rw[SL (SK f hs b)]at q;exact(k8 hi).2 (.inr (h.oN p b q j g c n))
 .by_cases e:j=i
  .subst e;rw[k]at g;cases g;unfold qH at c;rw[hs]at c;rw[hd]at c;cases c;exact⟨v,ja (by rw[h.size];exact a5),hv⟩
  .have s:=((k8 hi).1 n).resolve_left e;obtain⟨x,y,u⟩:=h.val j o' t g c s (z.imp hn.1 id);have l:d≠t:=λx=>by
    subst x;rcases f.one j i o' o d g k c hd hs with q|⟨q,p,b,rfl⟩
    .exact e q
    .rw[h.oN p b s i (by rw[<-h.len];exact hi) q (Ne.symm e)]at r;cases r
   exact⟨x,(et l).trans y,(c2 j).fZ _ _ _ m u⟩
theorem l6.store(E:l3 ops S L Q K)(h:l6 N ops S L Q c2 am a w){p:Nat×TypeId×Nat}(k:p∈S.jo){o:Oper}(B:ops[p.1]?=some o)(A:∀e∈o.after,Region.binds .any e=true->am.getD e.on false=true)(r:kT p.2.1 w w1)(hst:∀j,j<ops.size->S.nB j=true->p.1≠j->mC p.2.1 (c2 j))(P:∀s F,Q s=some F->∀p∈S.jo,mC p.2.1 F){v:Value}(e:a.tmps[p.2.2]?=some v)(hv:(c2 p.1).R w1 v):l6 N ops S L Q c2 (am.setIfInBounds p.1 true) a w1:=by
 obtain⟨O,J,I,-⟩:=E.x p k;have hi:p.1<am.size:=by rw[h.len];exact J
 have n:(am.setIfInBounds p.1 true).getD p.1 false=true:=(k8 hi).2 Ij;have hn:¬DF S (am.setIfInBounds p.1 true):=λq=>by rw[q p k]at n;cases n
 refine⟨DD,h.size,λq hq z j c b l=>(k8 hi).2 ?_,λq=>absurd q hn,⟨h.size,λs F d=>by
  obtain⟨x,i,g⟩:=h.Ga.has s F d;exact⟨x,i,P s F d p k _ _ _ r g⟩⟩,λj o' M c b l H=>?_⟩
 .by_cases y:j=p.1
  .exact .inl y
  rcases(k8 hi).1 z with z|z
  .obtain⟨o',t,e,C,D,rfl⟩:=Q6 (I j c b y);rw[B]at t;cases t;exact .inr (A e C D)
  .exact .inr (h.oN q hq z j c b l)
 .have m:=H.resolve_left hn;by_cases f:j=p.1
  .subst f;unfold qH at b;rw[O]at b;cases b;exact⟨v,e,hv⟩
  .obtain⟨u,i,g⟩:=h.val j o' M c b (((k8 hi).1 l).resolve_left f) (.inr m);exact⟨u,i,hst j (vag.1 c).1 m (Ne.symm f) _ _ _ r g⟩
def Ob{j:Nat}{q:TypeId×Nat}(h:S.st j=some q):(j,q)∈S.jo:=by unfold m3.st at h;obtain⟨p,a,rfl⟩:=vaj.1 h;have:=List.find?_some a;have:=List.mem_of_find?_eq_some a;grind
theorem l6.step{cp:bg}{oW:bZ->Prop}(r:l3 ops S L Q K)(T:∀s F,Q s=some F->∀p∈S.jo,mC p.2.1 F)(x:∀(j:Nat) o,ops[j]?=some o->∃d,qH S j o=some d/\d<N/\(c2 j).ok n0/\(S.nB j=true->∀p∈S.jo,p.1≠j->mC p.2.1 (c2 j))/\AB P N n0 ops S cp oW j (y6 S ops L K j (λs=>if 0<=s/\s<j then some (c2 s)else none) o) o (c2 j))(h:l6 N ops S L Q c2 am a w)(hK:af N K a w){i:Nat}{o:Oper}(z:i≠S.g)(u:n0<=w.heap.size)(m:am.getD i true=false)(b:ops[i]?=some o)(t:∀e∈o.after,Region.binds .any e=true->am.getD e.on false=true):
 wpOps P ops (ly λa1 w1=>((∃d v,o.dst=some d/\a1=a.put (some d) v)\/a1=a)/\l6 N ops S L Q c2 (am.setIfInBounds i true) a1 w1/\Below n0 w w1) [i] a w:=by
 have m:am.getD i false=false:=AN;obtain⟨d,c,M,V,U,k⟩:=x i o b;have l:=h.env r hK b m t;unfold AB at k;unfold qH at c;cases hs:S.st i with
 |some q=>
  simp only[hs]at k;obtain⟨-,g1,f,H⟩:=k;obtain⟨w',E,D,C,v,B,O⟩:=H a w l;exact sr b g1 f E ⟨.inr rfl,h.store r (p:=(i,q)) (Ob hs) b t D (λj J I n=>by
   obtain⟨-,-,-,-,A,-⟩:=x j _ (vak J);exact A I _ (Ob hs) n) T B O,C⟩
 |none=>
  simp only[hs]at k c;obtain⟨q,-⟩|⟨-,g⟩:=k
  .exact absurd q z
  refine fP (R:=λa1 w1=>(∃v,a1=a.put (some d) v/\(c2 i).R w1 v)/\cC w w1) (by
   rcases g with⟨g1,f⟩|⟨g1,f⟩
   .exact Ix b (g1.is l) c (f a w u l)
   .exact Yf b (g1.is l) c ⟨⟨undef,rfl,by rw[f];rfl⟩,vaa _ _⟩) ?_
  rintro a1 w1 ⟨⟨v,rfl,hv⟩,y⟩;exact⟨rfl,.inl ⟨d,v,c,rfl⟩,h.put r b c hs M m y hv,y.mono u⟩
def l6.dU(l:l3 ops S L Q K)(h:l6 N ops S L Q c2 am a w)(hK:af N K a w)(j:Region.ready .any ops am=[]){K' iA:bZ}(g:∀s F,iA s=some F->K s=some F\/S.jo=[]/\L s=some F)(m:∀s F,K' s=some F->(∃i o,ops.toList[i]?=some o/\qH S (0+i) o=some s/\F=c2 (0+i)/\S.nB (0+i)=true)\/iA s=some F):af N K' a w:=⟨h.size,λs F e=>by
 have hdone:=L8 l.oN h.len j;rcases m s F e with⟨i,o,b,d,rfl,c⟩|k
 .rw[vby]at d c⊢;have b:ops[i]?=some o:=AN;exact h.val i o s b d (hdone i (vag.1 b).1) (.inr c)
 .rcases g s F k with k|⟨n,k⟩
  .exact hK.has s F k
  .exact(h.loc λp f=>by rw[n]at f;cases f).has s F k⟩
end
section
variable{P:ck}{Post:fE}{n n0:Nat}{Shun:uan}{M aD:c5}{w w0:aH}{f:ual}{a:Act}{k:uab}{cs:fA}{N:Nat}{L Q K':bZ}{ops:eQ}{S:m3}
def N8{id:Nat}(hC:(cJ P).Good)(Z:P.follows .mixedOrders=true)(hf:jX P f)(hk:(Item.inRegion ops []::k).all (fM P)=true)(aB:∀s F,L s=some F->F.ok n0)(R:∀s F,Q s=some F->F.ok n0/\∀p∈S.jo,mC p.2.1 F)(eJ:Jm ops S=true)(SP:rf L ops.toList=true)(g:rf Q ops.toList=true){c:Oper}{d:Nat}{gf:ual}{J:Func}{fJ:Code}{args:uba}{ats:uau}(l:ops[S.g]?=some c)(A:c.op=.call {callee:=.value (.func gf),args,argTypes:=ats})(X:P.funcs[gf]?=some J)(jV:(J.name== "runtime.NumGoroutine")=false)(hb:J.body=some fJ)(c6:c.guard=none)(hn:n+16*d<=200){gq:Tmp}(C:c.dst=some gq){cp:bg}{iA:bZ}(hq:sA (aa P true) N n0 ops S L Q cp (λE=>∀a M w Shun,Home O P M Shun w->af N E a w->aL (bU M) a.tmps a.tmps->eb O P Post gf (args.map a.eval) M w d (λu _ w'=>cp.R w' u/\cO M w w')) ops.toList 0 (λ_=>none) iA K')(V:S.jo=[]/\iA=L\/iA=Q)(H:Held O P aD w0 n0 a M w Shun)(h0:af N L a w)(mM:af N Q a w)(h_:∀a M' w' m z,af N K' a w'->m<=n+16*d->Held O P aD w0 n0 a M' w' z->ca P Post m z 0 (bf ((base f).at a (.inRegion ops []::k)) cs) w'):
 ca P Post n Shun 0 (bf ((base f).at a (.code (.region id ops true)::k)) cs) w:=by
 obtain⟨c2,h1,h2⟩:=B7.all hq;have b:=l3.of (K:=Q) eJ SP g g;have y:∀(j:Nat) o,ops[j]?=some o->_:=λj o T=>h1 j o AN;simp only[vby]at y;have SQ:∀j,j<ops.size->(c2 j).ok n0:=λj hj=>by obtain⟨d',-,-,q,-⟩:=y j _ (vak hj);exact q
 obtain⟨apI,x,U,-,-,D⟩:=y S.g c l;unfold AB at D;unfold qH at x;simp only[b.g.2]at D x;rw[C]at x;cases x;obtain⟨-,iJ,lq⟩:_/\_/\c2 S.g=cp:=D.resolve_right λh=>absurd rfl h.1;refine als hC Z hf hk S.g l A X jV hb c6 hn (I:=l6 N ops S L Q c2) (λam=>Og aB (λs F e=>(R s F e).1) SQ) C (λam a w h=>by rw[h.size];exact U) (ie:=cp.R) (λam a w h=>h.len) H (l6.start h0 mM) ?_ ?_ ?_ ?_
 .intro am a W i o h hd hW Y kE T r;refine fP (h.step b (λs F e=>(R s F e).2) y h.Ga Y hW kE T r) λa1 w1⟨aQ,aT,q3⟩=>⟨rfl,?_,aT,q3⟩;rcases aQ with⟨d',v,-,rfl⟩|rfl
  .rw[put_defers];exact hd
  .exact hd
 .intro am a M w Shun t h B r;exact iJ a M w Shun t.fk (h.env b h.Ga l B r) t.all
 .intro am a w u h B r hu;exact h.put b l C b.g.2 U B (vaa _ _) (by rw[lq];exact hu)
 .intro am a M' w' m z h hr ll t;exact h_ a M' w' m z (h.dU b h.Ga hr (λs F e=>by rcases V with⟨k1,rfl⟩|rfl;exact .inr ⟨k1,e⟩;exact .inl e) h2) ll t
end
end
section
open lU
variable{O:gp}
section
variable{P:ck}{Post:fE}{n:Nat}{Shun:uan}{M:c5}{w:aH}{f:ual}{a b:Act}{k k':uab}{cs:fA}{n0:Nat}{aD:c5}{w0:aH}
theorem mo.act{D:fN}(hd:D.d=cs.length){g:uai}(h:mo P D (bf ((base f).at a k) cs) g):∃b,g=bf ((base f).at b k) cs/\hR D a b:=by
 generalize c:bf ((base f).at a k) cs=g0 at h;cases h with
 |same g e=>grind[bf]
 |gU h v=>cases c;obtain⟨b,rfl,d⟩:=eY.act h;exact⟨b,U,d⟩
 |under a h=>cases c;have:=h.lt;omega
def J2(m:(cJ P).Good)(hF:P.follows .rangeFuncRecover=true)(x:jX P f){D:fN}(hd:D.d=cs.length)(z:Ac P D f)(A:hR D a b)(s:k.all (hQ D)=true)(H:Held O P aD w0 n0 a M w Shun)(hk:k.all (fM P)=true)(C:k'.all (fM P)=true){I J:uak}(hI:oM n0 I)(B:oM n0 J)(h0:I a w)(hrun:∀W,n0<=W.heap.size->I a W->cb (aa P true) k k' (λa1 w1=>a1.defers=[]/\J a1 w1/\Below n0 W w1) a W)(E:∀a' d M' w',Held O P aD w0 n0 a' M' w' Shun->hR D a' d->J a' w'->ca P Post n Shun 0 (bf ((base f).at d k') cs) w'):
 ca P Post n Shun 0 (bf ((base f).at b k) cs) w:=by
 refine QN m hF (D:=D) H.fk (f:=f) (cs0:=[]) (bs:=cs) (g:=bf ((base f).at b k) cs) AY (.gU (A.QO f k) (z.b9 s a) cs hd.symm _ _) (Ik m x H.all H.defers hk) .nil ⟨U,U⟩ (R:=λr cse c l=>cse=[]/\∃a1,r=(base f).at a1 k'/\a1.defers=[]/\J a1 l/\∃T,Below n0 {c with tape:=T} l) (λc e T=>?_) ?_
 .obtain⟨a1,w1,⟨q,p,j⟩,o⟩:=hrun {c with tape:=T} HV (hI _ _ _ _ _ (H.fk.lA e T) H.all h0) (base f) [eI f];grind
 .rintro ρ r cse c l K F w' g' e ⟨rfl,a1,rfl,u,q,T,p⟩ v h i t;cases h;obtain⟨a',rfl,j,o⟩:=Il u C v;obtain⟨d,rfl,y⟩:=mo.act hd t;exact E a' d (pA ρ) w' (H.next e i p (i.all j) o) y (B _ _ _ _ _ (i.lA H.size) j q)
variable{ops:eQ}{i:Nat}{rest:uag}{o:Oper}
theorem hR.put{D:fN}(h:hR D a b){d:Tmp}(e:D.T d=false)(hK:D.K d=false)(u:Value):hR D (a.put (some d) u) (b.put (some d) u):=by
 refine⟨by rw[iz,iz];exact h.size,λi hi=>?_,λi v hi hv=>?_,λi hi=>?_,by rw[put_defers,put_defers];exact h.defers⟩
 .simp[Act.put,vaq,h.size,h.same i hi]
 .have c:d≠i:=AN;simp[Act.put,c]at hv;exact h.gone i v hi hv
 .have c:d≠i:=AN;simp[Act.put,c];exact h.kept i hi
theorem hR.eval{D:fN}(h:hR D a b){x:uaq}(c:z_ D x=true):b.eval x=a.eval x:=by
 cases x with
 |tmp t=>
  have ht:D.T t=false:=by grind[z_]
  simp[Act.eval,h.same t ht]
 | _=>rfl
structure J3(P:ck)(f:ual)(ops:eQ)(k:uab)(D:Nat->fN):Prop where
 d:∀n,(D n).d=n
 fn:∀n,Ac P (D n) f
 ops:∀n,ops.all (sj (D n) ops)=true
 items:∀n,k.all (hQ (D n))=true
 aW:∀n i,(D n).T i=true->(D n).K i=true
 follows:P.follows .rangeFuncRecover=true
 one:∀n m i,((D n).T i=(D m).T i/\(D n).K i=(D m).K i/\(D n).V i=(D m).V i)
def hR.any{D:Nat->fN}(h:J3 P f ops k D){n:Nat}(c:hR (D n) a b)(m:Nat):hR (D m) a b:=
 ⟨c.size,λi hi=>c.same i ((h.one n m i).1.trans hi),λi v hi hv=>c.gone i v ((h.one n m i).1.trans hi) hv,λi hi=>(c.kept i ((h.one n m i).2.1.trans hi)).trans (h.one n m i).2.2,c.defers⟩
def uv{d:Nat}{g:ual}{s:Func}{T:Code}{args:uba}{ats:uau}(r:o.op=.call {callee:=.value (.func g),args,argTypes:=ats})(hg:P.funcs[g]?=some s)(B:(s.name== "runtime.NumGoroutine")=false)(j:s.body=some T)(hn:n+16*d<=200)(E:jX P f){D:Nat->fN}(c:J3 P f ops k D)(l:hR (D cs.length) a b)(H:Held O P aD w0 n0 a M w Shun)(hk:(Item.inRegion ops []::k).all (fM P)=true)(v:ops[i]?=some o)(V:o.guard=none){h:Tmp}(R:o.dst=some h/\h<a.tmps.size)(Q:∀n,lU.ik (D n) o=true){I J:uak}{ie:uaz}(hI:oM n0 I)(h0:I a w)(C:∀k,eb O P Post g (args.map a.eval) M (w.at k) d (λu _ w'=>ie w' u/\cO M w w'))(S:∀u w',I a w'->ie w' u->J (a.put (some h) u) w')(W:∀a' z M' w' p q,p<=n+16*d->Held O P aD w0 n0 a' M' w' q->hR (D cs.length) a' z->J a' w'->ca P Post p q 0 (bf ((base f).at z (.inRegion ops rest::k)) cs) w'):
 ca P Post n Shun 0 (bf ((base f).at b (.inRegion ops (i::rest)::k)) cs) w:=by
 simp only[vbi,vae]at hk;have F:∀n,(D n).T h=false:=λn=>by simp_all[lU.ik,QI]
 have U:args.map b.eval=args.map a.eval:=Array.map_congr_left λx Y=>l.eval (by
  have:=Q cs.length;simp only[lU.ik,vae]at this;grind[Array.all_eq_true_iff_forall_mem,Op.operands,Call.operands])
 have hK:(D cs.length).K h=false:=by have:=vap.1 (c.ops cs.length) o (vbf v);simp_all[sj,QJ]
 refine X4 r hg B j U hn H.fk ⟨E,.inr ⟨D,a,λm=>l.any c m,H.all,c.d,c.fn,c.ops,c.items,λn Z e=>?_,c.aW,c.follows⟩,by rw[l.defers];exact H.defers,hk.1,hk.2,⟨h,AN,by rw[l.size];grind⟩⟩ v (tC V _) C ?_
 .grind
 rintro u M' w' p q N L y K A ⟨X,t⟩;rw[R.1];refine W _ _ M' w' p q N ⟨L,λb j=>y b (H.sub b j),H.since.trans A,H.keep.trans (λb j=>H.sub b j.1) t,?_,Gm,vac H.size A.size⟩ (l.put (F _) hK u) (S u w' (hI _ _ _ _ _ (t.lA H.fk) H.all h0) X);exact(H.all.mono (uH y)).set K _
end
section
variable{D D':fN}
def T1(c:D.T=D'.T)(b:D.K=D'.K)(a:D.sl=D'.sl):sj D=sj D':=by cases D;cases D';simp only at c b a;subst c;subst b;subst a;rfl
def atu(a:D.T=D'.T):z_ D=z_ D':=by cases D;cases D';simp only at a;subst a;rfl
def uh(g:D.T=D'.T)(j:D.K=D'.K)(h:D.sl=D'.sl):∀c,oJ D c=oJ D' c:=by intro c;induction c with|region id ops d=>simp[oJ,T1 g j h]|seq a b f e=>grind[oJ]|cond c a b f e=>simp[oJ,f,e,atu g]|block id c i=>grind[oJ]|loop c i=>grind[oJ]| _=>rfl
def atv(d:D.T=D'.T)(b:D.K=D'.K)(a:D.sl=D'.sl):∀x,hQ D x=hQ D' x:=by intro x;cases x with|code c=>exact uh d b a c|inLoop c=>exact uh d b a c|inRegion ops l=>simp[hQ,T1 d b a]| _=>rfl
def tZ(c:D.T=D'.T)(b:D.K=D'.K)(a:D.sl=D'.sl)(l:uab):l.all (hQ D)=l.all (hQ D'):=by rw[vee (atv c b a)]
