import Derived.Test.YtnomloiacicoaaaGreatPAK
import Derived.Test.YtnomloiacicoaaaGreatPAO
set_option linter.all false
set_option maxRecDepth 100000
set_option maxHeartbeats 16000000
namespace Go.Proofs.YtnomloiacicoaaaGreat
open Tryz
namespace fH
open Conc ConcM av bj ah eK hO
section
section
variable{c:dU}
def ase{Stop:Bool->ah.Lo At->a0->Prop}{mine:dL}{f:Nat}{p:uad}(fl:c.most<=250)(n:∀b,c.K b\/mine b->b≠c.st){w0:aR}{d:Frame}{cs:hH}(i:d.mode=.returning)(e:(Conc.G d cs).status=.running)(j:∀w' g,ai (ao (ay c)) mine w0 w'->c.N<=g.am.taken->bc (ao (ay c)) prog Stop false ⟨.idle,false,0,f,.work .free p⟩ g ⟨Conc.G d cs,w',mine⟩)(w:aR)(γ:ah.aQ cO)(k:ai (ao (ay c)) mine w0 w)(a5:c.N<=γ.am.taken):
 bc (ao (ay c)) prog Stop false ⟨.own,true,0,f+8,.work .free p⟩ γ ⟨Conc.G ((baseD 89).at ⟨#[.P c.st 0,.U,.U,.U,.U,.U],[]⟩ [.code (f89.body.getD .skip)]) (d::cs),w,mine⟩:=by
 refine bc.seq (Z:=ao (ay c)) (Stop':=λ_(l:ah.Lo At) X=>l=(⟨.idle,false,0,f,.work .free p⟩:ah.Lo At)/\∃w',ai (ao (ay c)) mine w0 w'/\X=⟨Conc.G d cs,w',mine⟩) (I:=Ha c) NS apt ?_ ?_ (bQ.U_ (A:=ay c) (bW c) (a:=.work .free p) Ke fl n i e (λw' g r=>.stop ⟨Y,w',r,Y⟩) w γ k) Y ⟨λh=>h,a5⟩
 .rintro m l X ⟨rfl,_⟩ h;exact h
 .rintro l γ X ⟨rfl,w',r,rfl⟩ hi;exact j w' γ r hi.2
end
end
end fH
namespace oB
open Conc RowKit Conc.Lib ConcR.Gen ConcM av bj ah hO fH iu bQ
def Ud:prog.underlying 87=some (.slice 67):=by simp
def Uc:prog.underlying 226=some (.slice 143):=by simp
def Ub{t c:uaa}(up:prog.underlying t=some (.slice c))(inf:(prog.info? c).map (λi=>(i.zero,i.size,i.bytes))=some (some (.N),1,24)){a:Act}{b:Frame}{o:Oper}{x y:uam}{N:Nat}(a5:N<=2000000)(d:o.op=.makeSlice t x y)(k:a.eval x=.I (N:Int))(j:a.eval y=.I (N:Int))(w:aR):
 (execOp a.eval o).run prog w=.ok (.value (.S w.heap.size 0 N N)) (w.alloc (.cells (madeCells #[.N] N) c))/\listed prog b.fn a o w=#[]:=by
 obtain⟨i,hi,f⟩:=vai.1 inf;simp at f;obtain⟨h1,h2,h3⟩:=f;have g:(i.bytes:Int)*(N:Int)<=281474976710656:=AA;have e:=run_makeSlice (P:=prog) w t c i (.N) up hi h1 .i64 .i64 (N:Int) (N:Int) AQ (Int.le_refl _) AA g AQ;have h:=events_make (P:=prog) w t c i (.N) up hi h1 .i64 .i64 (N:Int) (N:Int) AQ (Int.le_refl _) g AQ AA #[];simp[h2]at e;unfold listed execOp;simp only[d,k,j];constructor
 .simp[e];rfl
 .simp[h,vdy]
section
variable{ST:Bool->eU.Lo->a0->Prop}
def asW(i:Bool){S af N:Nat}(F:0<af)(a5:N=(S+af-1) / af)(C:S<=1000000)(B:af<=1000000){M w0 bs}:
 iU prog ST true (a_ i 47 91) #[.I (S:Int),.I (af:Int)] (jy eU () M w0 bs) (λu t=>∃st cU,u=.P st 0/\t=jy eU () M w0 ((st,.cells #[.int .i32 0,.int .u32 0,.I (S:Int),.I (af:Int),.I 0,.I 0,.S cU 0 N N,.N] (a_ i 170 228))::(cU,.cells (madeCells #[.N] N) (a_ i 67 143))::bs)):=by
 generalize r:a_ i 170 228=q at *;generalize p:a_ i 67 143=H at *;cases i<;>dsimp only[a_]at *
 all_goals
  replace r:=r.symm;replace p:=p.symm;intro a2 aI aC aL aO aK csZ hK w γ hF;have m:=uX.oo;obtain⟨j,E,s⟩:∃j:Nat,IntKind.wrap .i64 ((S:Int)+(af:Int))=(j:Int)/\rP (j=S+af):=⟨S+af,CL,Y⟩;obtain⟨g,D,A⟩:∃g:Nat,IntKind.wrap .i64 ((j:Int)-1)=(g:Int)/\rP (g=S+af-1):=⟨S+af-1,by grind[IntKind.wrap_i64],Y⟩;have hq:Int.tdiv (g:Int) (af:Int)=(N:Int):=by grind[rP.out]
  have o:N<=2000000:=by rw[a5];exact vad (Nat.div_le_self _ _) AQ
  replace a5:rP (N=(S+af-1) / af):=a5;have z:IntKind.wrap .i64 (N:Int)=(N:Int):=CL;have y:¬af=0:=AQ;first|rw[vcj _ func47 Y]|rw[vcj _ func91 Y]
  refine vI (γ:=()) uX LK 200 _ _ _ trivial ?_;unfold jy at hF⊢;simp only[a_,f47,f91];walk_nrm
  repeat w_go ak.on
  refine iA Y hF λd c n f a x l k hF=>?_;refine uE AA m Y hF (vbd Y Y An (Ub (b:=base 0) (by first|exact Ud|exact Uc) AB o Y Y Y a).1) Y (Ub (by first|exact Ud|exact Uc) AB o Y Y Y a).2 (λe=>?_);clear hF;have hF:=e;clear e k l f c;generalize a.heap.size=cU at hF⊢;generalize a.alloc _=w3 at hF⊢;refine vI (γ:=()) uX LK 200 _ _ _ trivial ?_;walk_nrm
  repeat w_go ak.on
  refine iA Y hF λd c n f a x l k hF=>?_;refine uE AA m Y hF (vbd (v:=.P a.heap.size 0) (w':=a.alloc (.cells #[.int .i32 0,.int .u32 0,.I (S:Int),.I (af:Int),.I 0,.I 0,.S cU 0 N N,.N] q)) Y Y An Ak) Y BP (λe=>?_);clear hF;have hF:=e;clear e k l f c;generalize a.heap.size=st at hF⊢;generalize a.alloc (.cells #[.int .i32 0,.int .u32 0,.I (S:Int),.I (af:Int),.I 0,.I 0,.S cU 0 N N,.N] q)=w3 at hF⊢;refine vI (γ:=()) uX LK 200 _ _ _ trivial ?_;walk_nrm
  repeat w_go ak.on
  u_in ak.on hF
  refine goes_leave1 Y Y FR Y ⟨DN,?_⟩;refine vaj (λd c=>⟨Y,λn f=>?_⟩);replace hF:=hF.on c;simp_all[jy]
end
section
section
variable{ST:Bool->eU.Lo->a0->Prop}
variable{a2:Frame}{aI:Act}{aC:fF}{aL:Nat}{aO:uac}{aK:uab}{csZ:hH}
def asX(i:Bool){S af N W:Nat}(fQ:0<af)(a5:N=(S+af-1) / af)(hS:S<=1000000)(hm:af<=1000000){jt:uaa}{c ie:Value}{L:uak}{M:dL}{w0:aR}(hinv:∀w,(callMethod (.iface jt c) "Size" #[]).run prog w=.ok (.enter L (#[ie]++#[])) w/\(callMethod (.iface jt c) "Size" #[]).events prog w #[]=#[])(x3:∀bs,iU prog ST true L (#[ie]++#[]) (jy eU () M w0 bs) (λu bX=>u=.I (S:Int)/\bX=jy eU () M w0 bs))(J:∀st cU k f g wg bs w'(X cC dm V T gi gj gl gm gn gp gA gq gr gu U gv g9 g_ hh:Value),ak eU M w0 bs w'->(∀x∈[(wg,.cells #[.int .u64 0,.int .u32 0] 136),(k,.cells #[.P st 0] (a_ i 124 195)),(st,.cells #[.int .i32 0,.int .u32 0,.I (S:Int),.I (af:Int),.I 0,.I 0,.S cU 0 N N,.N] (a_ i 170 228)),(cU,.cells (madeCells #[.N] N) (a_ i 67 143)),(g,.cells #[.iface jt c] (a_ i 123 194)),(f,.cells #[.I (W:Int),.I (af:Int)] 63)],x∈bs)->(∀x∈bs,x∈[(wg,.cells #[.int .u64 0,.int .u32 0] 136),(k,.cells #[.P st 0] (a_ i 124 195)),(st,.cells #[.int .i32 0,.int .u32 0,.I (S:Int),.I (af:Int),.I 0,.I 0,.S cU 0 N N,.N] (a_ i 170 228)),(cU,.cells (madeCells #[.N] N) (a_ i 67 143)),(g,.cells #[.iface jt c] (a_ i 123 194)),(f,.cells #[.I (W:Int),.I (af:Int)] 63)])->bc eU prog ST true () () ⟨Conc.G ((base (a_ i 35 55)).at ⟨#[X,cC,dm,.P g 0,V,T,.P k 0,.P wg 0,gi,gj,gl,gm,gn,gp,.I (W:Int),.I (0:Int),gA,gq,gr,gu,U,gv,g9,g_,hh],[]⟩ [.code ((bQ.dV ((a_ i f35 f55).body.getD .skip)).getD .skip),.inLoop ((bQ.dV ((a_ i f35 f55).body.getD .skip)).getD .skip),.inBlock 0,.code ((bQ.eu 8 ((a_ i f35 f55).body.getD .skip)).getD .skip)]) (a2.at aI (.inRegion aC (aL::aO)::aK)::csZ),w',cv M bs⟩)(w:aR)(hk:ak eU M w0 [] w):
 bc eU prog ST true () () ⟨Conc.G (Frame.enter prog (a_ i 35 55) #[.agg #[.I (W:Int),.I (af:Int)],.iface jt c] .normal) (a2.at aI (.inRegion aC (aL::aO)::aK)::csZ),w,cv M []⟩:=by
 have E:=λbs=>asW (ST:=ST) i fQ a5 hS hm (M:=M) (w0:=w0) (bs:=bs);generalize Q:a_ i 170 228=I at *;generalize O:a_ i 67 143=H at *;generalize P:a_ i 124 195=D at *;generalize B:a_ i 123 194=m at *;cases i<;>dsimp only[a_]at *
 all_goals
  replace Q:=Q.symm;replace O:=O.symm;replace P:=P.symm;replace B:=B.symm;have hF:=hk;have t:=uX.oo;have R:prog.follows .mixedOrders=true:=AB;first|rw[vcj _ func35 Y]|rw[vcj _ func55 Y]
  refine vI (γ:=()) uX AA 200 _ _ _ trivial ?_;simp only[a_,f35,f55];walk_nrm
  repeat w_go ak.on
  refine iA Y hF λd b y n a F s q hF=>?_;refine uE AA t Y hF (vbd (v:=.P a.heap.size 0) (w':=a.alloc (Obj.cells #[.I (W:Int),.I (af:Int)] 63)) Y Y An Ak) Y BP (λl=>?_);clear hF;have hF:=l;clear l q s n b;generalize a.heap.size=f at hF⊢;generalize a.alloc (Obj.cells #[.I (W:Int),.I (af:Int)] 63)=w3 at hF⊢;refine vI (γ:=()) uX AA 200 _ _ _ trivial ?_;walk_nrm
  repeat w_go ak.on
  refine iA Y hF λd b y n a F s q hF=>?_;refine uE AA t Y hF (vbd (v:=.P a.heap.size 0) (w':=a.alloc (Obj.cells #[.iface jt c] m)) Y Y An Ak) Y BP (λl=>?_);clear hF;have hF:=l;clear l q s n b;generalize a.heap.size=g at hF⊢;generalize a.alloc (Obj.cells #[.iface jt c] m)=w3 at hF⊢;refine vI (γ:=()) uX AA 200 _ _ _ trivial ?_;walk_nrm
  repeat w_go ak.on
  refine vaj (λd b=>⟨Y,λy n=>?_⟩);replace hF:=hF.on b;clear b n;have lT:∀bs:List (Nat×Obj),(g,.cells #[.iface jt c] m)∈bs->(f,.cells #[.I (W:Int),.I (af:Int)] 63)∈bs->∀x∈[(f,.cells #[.I (W:Int),.I (af:Int)] 63),(g,.cells #[.iface jt c] m)],DS x M w0 bs:=by
   intro bs h1 h2 x K;simp at K;rcases K with rfl|rfl
   .exact .inl h2
   .exact .inl h1
  refine Dh (Z:=eU) (C:=OA eU () [(f,.cells #[.I (W:Int),.I (af:Int)] 63),(g,.cells #[.iface jt c] m)]) AA An R OB aq8 (σ:=jy eU () M w0 [(g,.cells #[.iface jt c] m),(f,.cells #[.I (W:Int),.I (af:Int)] 63)]) (iM:=tw prog ST true _ _ _ _ []) Jf ⟨_,_,_,AA,Y⟩ ?_ _ y hF;walk_nrm
  refine j3 (i:=0) (v:=.iface jt c) OB Y AD AD AD (Yd Y (z:=(g,.cells #[.iface jt c] m)) AS Y (λw j=>?_)) ⟨_,_,_,AA,Y⟩ ?_
  .have p:w.cell? (.a g 0)=some (.iface jt c):=by simp[World.cell?,j]
   refine⟨Ak,λe r=>⟨0,?_⟩⟩;have o:=vbt r;simp[go_sem,p]at o;grind
  walk_nrm
  refine e7 2 (.P f 1) ?_ OB ⟨_,_,_,AA,Y⟩;walk_nrm
  refine j3 (i:=3) (v:=.I (af:Int)) OB Y AD AD AD (Yd Y (z:=(f,.cells #[.I (W:Int),.I (af:Int)] 63)) AS Y (λw j=>?_)) ⟨_,_,_,AA,Y⟩ ?_
  .have p:w.cell? (.a f 1)=some (.I (af:Int)):=by simp[World.cell?,j]
   refine⟨Ak,λe r=>⟨1,?_⟩⟩;have o:=vbt r;simp[go_sem,p]at o;grind
  walk_nrm
  refine TK (rs:=[1,5]) AD AS (λi hi=>?_);simp at hi;rcases hi with rfl|rfl;focus
   refine(Bd Y Y (Bf (λw=>TU (rv:=.iface jt c) (vs:=#[]) Y Y Cv (hinv w)) (x3 _) ?_));rintro u _ ⟨rfl,rfl⟩;refine⟨⟨_,_,_,AA,Y⟩,?_⟩;walk_nrm
   refine TK (rs:=[4,5]) AD AS (λi hi=>?_);simp at hi;rcases hi with rfl|rfl;focus
    refine(Bd Y Y (Bf (λw=>sE (vs:=#[.I (S:Int),.I (af:Int)]) Y FR AB Y Cv w) (E _) ?_));rintro u _ ⟨st,cU,rfl,rfl⟩;refine⟨⟨_,_,_,AA,Y⟩,?_⟩;walk_nrm
    refine tE (i:=5) AD (y5 Y Y (UR t (ob:=Obj.cells #[.pointer none] D) (λw=>⟨Ak,BP⟩) (λk=>⟨⟨_,_,_,AA,Y⟩,?_⟩)));walk_nrm
    refine tE (i:=6) AD (y5 Y Y (US Y (pre:=[]) (post:=[(st,.cells #[.int .i32 0,.int .u32 0,.I (S:Int),.I (af:Int),.I 0,.I 0,.S cU 0 N N,.N] I),(cU,.cells (madeCells #[.N] N) H),(g,.cells #[.iface jt c] m),(f,.cells #[.I (W:Int),.I (af:Int)] 63)]) (new:=#[.P st 0]) (λw j=>?_) ⟨⟨_,_,_,AA,Y⟩,?_⟩))
   rotate_left 2
   focus
    refine(y5 Y Y (UR t (ob:=Obj.cells #[.pointer none] D) (λw=>⟨Ak,BP⟩) (λk=>⟨⟨_,_,_,AA,Y⟩,?_⟩)));walk_nrm
    refine tE (i:=4) AD (Bd Y Y (Bf (λw=>sE (vs:=#[.I (S:Int),.I (af:Int)]) Y FR AB Y Cv w) (E _) ?_));rintro u _ ⟨st,cU,rfl,rfl⟩;refine⟨⟨_,_,_,AA,Y⟩,?_⟩;walk_nrm
    refine tE (i:=6) AD (y5 Y Y (US Y (pre:=[(st,.cells #[.int .i32 0,.int .u32 0,.I (S:Int),.I (af:Int),.I 0,.I 0,.S cU 0 N N,.N] I),(cU,.cells (madeCells #[.N] N) H)]) (post:=[(g,.cells #[.iface jt c] m),(f,.cells #[.I (W:Int),.I (af:Int)] 63)]) (new:=#[.P st 0]) (λw j=>?_) ⟨⟨_,_,_,AA,Y⟩,?_⟩))
  rotate_left 4
  focus
   refine(y5 Y Y (UR t (ob:=Obj.cells #[.pointer none] D) (λw=>⟨Ak,BP⟩) (λk=>⟨⟨_,_,_,AA,Y⟩,?_⟩)));walk_nrm
   refine tE (i:=1) AD (Bd Y Y (Bf (λw=>TU (rv:=.iface jt c) (vs:=#[]) Y Y Cv (hinv w)) (x3 _) ?_));rintro u _ ⟨rfl,rfl⟩;refine⟨⟨_,_,_,AA,Y⟩,?_⟩;walk_nrm
   refine tE (i:=4) AD (Bd Y Y (Bf (λw=>sE (vs:=#[.I (S:Int),.I (af:Int)]) Y FR AB Y Cv w) (E _) ?_));rintro u _ ⟨st,cU,rfl,rfl⟩;refine⟨⟨_,_,_,AA,Y⟩,?_⟩;walk_nrm
   refine tE (i:=6) AD (y5 Y Y (US Y (pre:=[(st,.cells #[.int .i32 0,.int .u32 0,.I (S:Int),.I (af:Int),.I 0,.I 0,.S cU 0 N N,.N] I),(cU,.cells (madeCells #[.N] N) H)]) (post:=[(g,.cells #[.iface jt c] m),(f,.cells #[.I (W:Int),.I (af:Int)] 63)]) (new:=#[.P st 0]) (λw j=>?_) ⟨⟨_,_,_,AA,Y⟩,?_⟩))
  all_goals
   first
   |have p:w.cell? (.a k 0)=some (.pointer none):=by simp[World.cell?,j]
    have sN:w.frozen? ⟨k,0,none⟩=false:=by simp[World.frozen?,j]
    have bM:w.setCell ⟨k,0,none⟩ (.P st 0)=w.setRow k #[.P st 0]:=setCell_eq_setRow w k 0 #[.pointer none] D (0,0) (.P st 0) j;refine⟨by rw[<-bM];go_simp,λe r=>⟨0,?_⟩⟩;have o:=vbt r;simp[go_sem]at o;rw[Go.events_store _ _ _ _ _ _ Y,p]at o;grind
   |walk_nrm
    refine Dg AD ?_ _;intro A eV l;replace hF:ak eU M w0 _ A:=l;clear l;unfold jy;refine vI (γ:=()) uX AA 200 _ _ _ trivial ?_;walk_nrm
    repeat w_go ak.on
    refine iA Y hF λd b y n a F s q hF=>?_;refine uE AA t Y hF (vbd (v:=.P a.heap.size 0) (w':=a.alloc (Obj.cells #[.int .u64 0,.int .u32 0] 136)) Y Y An Ak) Y BP (λl=>?_);clear hF;have hF:=l;clear l q s n b;generalize a.heap.size=wg at hF⊢;generalize a.alloc (Obj.cells #[.int .u64 0,.int .u32 0] 136)=w3 at hF⊢;refine vI (γ:=()) uX AA 200 _ _ _ trivial ?_;walk_nrm
    repeat w_go ak.on
    refine iA Y hF λd b y n a F s q hF=>?_;have j:=hF.bO (f,.cells #[.I (W:Int),.I (af:Int)] 63) AS;have p:a.cell? (.a f 0)=some (.I (W:Int)):=by simp[World.cell?,j]
    refine tA AA Y AA (vbd (v:=.I (W:Int)) Y Y An Ak) Y (λe r=>?_) ?_
    .have o:=vbt r;simp[go_sem,p]at o;subst o;exact⟨Y,.inr (.inr AS)⟩
    clear j p q s n b;refine vI (γ:=()) uX AA 200 _ _ _ trivial ?_;walk_nrm
    iterate 4 w_go ak.on
    refine vaj (λd b=>⟨Y,λy n=>?_⟩);replace hF:=hF.on b;simp only[a_,f35,f55,vaf,bQ.dV,bQ.eu,Nat.reduceBEq,vah,↓reduceIte]at J;exact J st cU k f g wg _ d (.agg #[.I (W:Int),.I (af:Int)]) (.iface jt c) (.P f 0) _ _ (.iface jt c) (.I (S:Int)) (.P f 1) (.I (af:Int)) (.P st 0) (.P f 0) undef undef undef undef undef undef undef undef undef hF AS AS
end
end
end oB
namespace iu
open Conc RowKit Conc.Lib ConcR.Gen ConcM av bj ah eK hO fH
section
section
variable{c:dU}{Stop:Bool->ah.Lo At->a0->Prop}{fr aT:uas}{fX ie:Value}{j4:uak}{ox cJ:uaf}
def atp i{cH}(J:uK c cH prog Stop (a_ i 110 131) fX j4 ie fr aT ox cJ){f T q M w0}(W:T<c.N)(hI:qA c cH w0)(V:∀s aW M' w1,ak (ao (ay c)) M' w1 [] w1->iU prog Stop false (a_ i 109 130) #[.P c.st 0,.agg #[.I (T:Int),.I (fr T:Int),.I (aT T:Int)],.slice s (c.rows T) aW] (gg c ⟨.idle,false,0,f+16,.work (.has T) q⟩ M' w1) (λu S=>u=.tuple #[]/\S=gg c ⟨.idle,false,0,f,.work .free ((T,.slice s (c.rows T) aW)::q)⟩ M' w1)):
 iU prog Stop false (a_ i 82 116) #[.P c.st 0,fX,.agg #[.I (T:Int),.I (fr T:Int),.I (aT T:Int)]] (gg c ⟨.idle,false,0,f+16,.work (.has T) q⟩ M w0) (λu S=>u=.tuple #[]/\∃v M' w1,jf (ao (ay c)) M w0 M' w1/\(c.cq T=false->cJ T v (λb=>M' b/\¬M b) w1)/\S=gg c ⟨.idle,false,0,f,.work .free ((T,v)::q)⟩ M' w1):=by
 obtain⟨z,HE⟩:∃t,t=a_ i 124 195:=⟨_,Y⟩;cases i<;>dsimp only[a_]
 all_goals
  intro a2 aI aC aL aO aK csZ hK w γ X;have hF:ak (ao (ay c)) M w0 [] w:=X;clear X;have U:=(dE (bW c)).oo;have x2:prog.follows .mixedOrders=true:=AB;first|rw[vcj _ func82 Y]|rw[vcj _ func116 Y]
  unfold gg;rw[<-js (M:=M)];refine bf (bW c) ?_;simp only[a_,f82,f116];walk_nrm
  repeat w_go ak.on
  refine iA Y hF λj d E y a ax P K hF=>?_;refine uE AA U Y hF (vbd (v:=.P a.heap.size 0) (w':=a.alloc (Obj.cells #[.P c.st 0] z)) Y Y An Ak) Y BP (λN=>?_);clear hF;have hF:=N;clear N K P y d;generalize a.heap.size=D at hF⊢;generalize a.alloc (Obj.cells #[.P c.st 0] z)=w3 at hF⊢;refine bf (bW c) ?_;walk_nrm
  repeat w_go ak.on
  refine iA Y hF λj d E y a ax P K hF=>?_;refine uE AA U Y hF (vbd (v:=.P a.heap.size 0) (w':=a.alloc (Obj.cells #[.I (T:Int),.I (fr T:Int),.I (aT T:Int)] 185)) Y Y An Ak) Y BP (λN=>?_);clear hF;have hF:=N;clear N K P y d;generalize a.heap.size=bS at hF⊢;generalize a.alloc (Obj.cells #[.I (T:Int),.I (fr T:Int),.I (aT T:Int)] 185)=w3 at hF⊢;refine bf (bW c) ?_;walk_nrm
  repeat w_go ak.on
  u_in ak.on hF
  rw[apE Y Y An Y Y];simp only[goes_go];refine⟨DN,?_⟩;walk_nrm
  repeat w_go ak.on
  refine vaj (λj d=>⟨Y,λE y=>?_⟩);replace hF:=hF.on d;clear d y;have o:=hF.bO (D,.cells #[.P c.st 0] z) AS;have n:=hF.bO (bS,.cells #[.I (T:Int),.I (fr T:Int),.I (aT T:Int)] 185) AS;have m:cv M [(bS,.cells #[.I (T:Int),.I (fr T:Int),.I (aT T:Int)] 185),(D,.cells #[.P c.st 0] z)] D:=.inr AS;have l:cv M [(bS,.cells #[.I (T:Int),.I (fr T:Int),.I (aT T:Int)] 185),(D,.cells #[.P c.st 0] z)] bS:=.inr AS;have R:=ak.sD hF;refine Dh (Z:=ao (ay c)) (C:=NT c (D,.cells #[.P c.st 0] z) (bS,.cells #[.I (T:Int),.I (fr T:Int),.I (aT T:Int)] 185)) AA An x2 Be apH (σ:=gg c ⟨.idle,false,0,f+16,.work (.has T) q⟩ (cv M [(bS,.cells #[.I (T:Int),.I (fr T:Int),.I (aT T:Int)] 185),(D,.cells #[.P c.st 0] z)]) j) (iM:=tw prog Stop false _ _ _ _ []) Jf ⟨_,_,_,Y,⟨m,o⟩,⟨l,n⟩,Y⟩ ?_ _ E R;walk_nrm
  refine j3 (i:=0) (v:=.P c.st 0) Be Y AD AD AD (NU Jv Y (λw r=>?_)) ⟨_,_,_,Y,⟨m,o⟩,⟨l,n⟩,Y⟩ ?_
  .have L:w.cell? (.a D 0)=some (.P c.st 0):=by simp[World.cell?,r]
   refine⟨Ak,λe A=>⟨0,?_⟩⟩;have B:=vbt A;simp[go_sem,L]at B;grind
  walk_nrm
  refine j3 (i:=1) (v:=.agg #[.I (T:Int),.I (fr T:Int),.I (aT T:Int)]) Be Y AD AD AD (NU Jz Y (λw r=>⟨(Bv r Y Y).1,λe A=>?_⟩)) ⟨_,_,_,Y,⟨m,o⟩,⟨l,n⟩,Y⟩ ?_
  .have B:=vbt A;rw[(Bv r Y Y).2]at B;grind
  walk_nrm
  refine j3 (i:=2) (v:=fX) Be Y AD AD AD (G8 Y (λ_=>Ak) (λ_=>BP)) ⟨_,_,_,Y,⟨m,o⟩,⟨l,n⟩,Y⟩ ?_;walk_nrm
  refine j3 (i:=3) (v:=.P bS 1) Be Y AD AD AD (G8 Y (λ_=>Ak) (λ_=>BP)) ⟨_,_,_,Y,⟨m,o⟩,⟨l,n⟩,Y⟩ ?_;walk_nrm
  refine j3 (i:=4) (v:=.I (fr T:Int)) Be Y AD AD AD (NU Jz Y (λw r=>?_)) ⟨_,_,_,Y,⟨m,o⟩,⟨l,n⟩,Y⟩ ?_
  .have L:w.cell? (.a bS 1)=some (.I (fr T:Int)):=by simp[World.cell?,r]
   refine⟨Ak,λe A=>⟨1,?_⟩⟩;have B:=vbt A;simp[go_sem,L]at B;grind
  walk_nrm
  refine j3 (i:=5) (v:=.P bS 2) Be Y AD AD AD (G8 Y (λ_=>Ak) (λ_=>BP)) ⟨_,_,_,Y,⟨m,o⟩,⟨l,n⟩,Y⟩ ?_;walk_nrm
  refine j3 (i:=6) (v:=.I (aT T:Int)) Be Y AD AD AD (NU Jz Y (λw r=>?_)) ⟨_,_,_,Y,⟨m,o⟩,⟨l,n⟩,Y⟩ ?_
  .have L:w.cell? (.a bS 2)=some (.I (aT T:Int)):=by simp[World.cell?,r]
   refine⟨Ak,λe A=>⟨2,?_⟩⟩;have B:=vbt A;simp[go_sem,L]at B;grind
  walk_nrm
  refine tE (i:=7) AD (Bd Y Y (Bf (λw=>TU (rv:=fX) (vs:=#[.I (fr T:Int),.I (aT T:Int)]) Y Y Cv (J.inv #[.I (fr T:Int),.I (aT T:Int)] w)) (J.abo T ⟨.idle,false,0,f+16,.work (.has T) q⟩ _ _ W Y R (hI.br hF)) ?_));rintro u _ ⟨cx,w1,g,O,rfl⟩;refine⟨⟨_,_,_,Y,⟨g.sub _ m,g.heap m o⟩,⟨g.sub _ l,g.heap l n⟩,Y⟩,?_⟩;walk_nrm
  refine tE (i:=8) AD (Bd Y Y (Bf (λw=>sE (vs:=#[u]) Y (by first|exact func110|exact func131) AB Y Cv w) (J.abp T ⟨.idle,false,0,f+16,.work (.has T) q⟩ _ _ u _ (λb h=>h.1) W Y g.br ((hI.br hF).more g) O) ?_));rintro v _ ⟨F,I,p,Q,rfl⟩;replace Q:=J.mono _ _ _ _ (λb=>F b/\¬M b) I Q (λ_ _=>Y) (λb hb=>hb.elim (λx=>⟨p.sub b x.1,λk=>x.2 (.inl k)⟩) λx=>⟨x.1,λk=>x.2 (g.sub b (.inl k))⟩);refine⟨⟨_,_,_,Y,⟨p.sub _ (g.sub _ m),p.heap (g.sub _ m) (g.heap m o)⟩,⟨p.sub _ (g.sub _ l),p.heap (g.sub _ l) (g.heap l n)⟩,Y⟩,?_⟩;obtain⟨s,aW,rfl⟩:=J.slice _ _ _ _ Q;walk_nrm
  refine tE (i:=9) AD (Bd Y Y (Bf (λw=>sE (vs:=#[.P c.st 0,.agg #[.I (T:Int),.I (fr T:Int),.I (aT T:Int)],.slice s (c.rows T) aW]) Y (by first|exact func109|exact func130) AB Y Cv w) (V s aW F I p.br) ?_));rintro u2 _ ⟨rfl,rfl⟩;refine⟨⟨_,_,_,Y,⟨p.sub _ (g.sub _ m),p.heap (g.sub _ m) (g.heap m o)⟩,⟨p.sub _ (g.sub _ l),p.heap (g.sub _ l) (g.heap l n)⟩,Y⟩,?_⟩;walk_nrm
  refine Dg AD ?_ _;have pp:=(jf.start hF g).trans p;clear g p O R m l o n hF V;intro H eV hF;replace hF:ak (ao (ay c)) F I [] H:=hF;unfold gg;rw[<-js (M:=F)];refine bf (bW c) ?_;walk_nrm
  repeat w_go ak.on
  u_in ak.on hF
  first|rw[abl Y func107 AB Y]|rw[abl Y func128 AB Y]
  simp only[goes_go];refine⟨DN,?_⟩;simp only[a_,f107,f128];walk_nrm
  repeat w_go ak.on
  u_in ak.on hF
  rw[apF Y Y Y Y Ak BP];simp only[goes_go];refine⟨DN,?_⟩;walk_nrm
  repeat w_go ak.on
  refine iA Y hF λj d E y a ax P K hF=>?_;refine TS AA (vbd (v:=.F) Y Y An (by simp[go_sem])) Y FO ?_;clear K P y d;refine bf (bW c) ?_;walk_nrm
  repeat w_go ak.on
  u_in ak.on hF
  refine bQ.KK Y Y (by first|exact func107|exact func128) Y Y ⟨DN,?_⟩;u_in ak.on hF
  refine goes_leave0 Y Y (by first|exact func82|exact func116) Y ⟨DN,?_⟩;refine vaj (λj d=>⟨Y,λE y=>?_⟩);replace hF:=hF.on d;rw[js];exact hK (.tuple #[]) (gg c ⟨.idle,false,0,f,.work .free ((T,.slice s (c.rows T) aW)::q)⟩ F I) ⟨Y,_,F,I,pp,λ_=>Q,Y⟩ j E hF
end
end
end iu
namespace aV
open Conc ConcM RowKit av bj cV dx gD
variable{D:fT}
section
variable{O:gW}
section
variable{P:cE}{Post:hV}{n:Nat}{Shun:ual}{M:dL}{w:aR}{f:uak}{a b:Act}{k k':uab}{cs:hH}{n0:Nat}{aD:dL}{w0:aR}
def LC(j:(dr P).Good)(s:jQ P f)(r:DC P D)(q:jv D a b)(p:k.all (fK D.1)=true)(H:Held O P aD w0 n0 a M w Shun)(hk:k.all (fB P)=true)(v:k'.all (fB P)=true){I J}(hI:o9 n0 I)(t:o9 n0 J)(h0:I a w)(hrun:∀W,n0<=W.heap.size->I a W->bI (ae P true) k k' (λa1 w1=>a1.defers=[]/\J a1 w1/\Below n0 W w1) a W)(u:∀a' d M' w',Held O P aD w0 n0 a' M' w' Shun->jv D a' d->J a' w'->bT P Post n Shun 0 (a4 ((base f).at d k') cs) w'):
 bT P Post n Shun 0 (a4 ((base f).at b k) cs) w:=by
 refine Od j H.fC (f:=f) (cs0:=[]) (Kk:=[]) (bs:=cs) (q.rel j s r H.all H.defers hk p) .nil ⟨Y,Y⟩ (R:=λl cse c i=>cse=[]/\∃a1,l=(base f).at a1 k'/\a1.defers=[]/\J a1 i/\∃T,Below n0 {c with tape:=T} i) (λc e T=>?_) ?_
 .obtain⟨a1,w1,⟨h1,h2,h3⟩,h4⟩:=hrun {c with tape:=T} I7 (hI _ _ _ _ _ (H.fC.my e T) H.all h0) (base f) [fL f];grind
 .rintro ρ l cse c i y x w' e ⟨rfl,a1,rfl,m,h1,T,h2⟩ o g h;cases g;obtain⟨a',d,rfl,h3,hv,h4⟩:=abV m v o;exact u a' d (qD ρ) w' (H.next e h h2 (h.all h3) h4) hv (t _ _ _ _ _ (h.my H.size) h3 h1)
variable{ops:fF}{i:Nat}{rest:uac}{o:Oper}
theorem jv.put(h:jv D a b){d:Tmp}(e:D.T d=false)(hK:D.K d=false)(u:Value):jv D (a.put (some d) u) (b.put (some d) u):=by
 refine⟨by rw[jR,jR];exact h.size,λi hi=>?_,λi v hi hv=>?_,λi hi=>?_,by rw[put_defers,put_defers];exact h.defers⟩
 .simp[Act.put,vam,h.size,h.same i hi]
 .have c:d≠i:=AA;simp[Act.put,c]at hv;exact h.gone i v hi hv
 .have c:d≠i:=AA;simp[Act.put,c];exact h.kept i hi
theorem jv.eval(h:jv D a b){x:uam}(c:Cs D.1 x=true):b.eval x=a.eval x:=by
 cases x with
 |tmp t=>
  have ht:D.T t=false:=by grind[Cs]
  simp[Act.eval,h.same t ht]
 | _=>rfl
structure Ij(P:cE)(ops:fF)(k:uab)(D:fT):Prop where
 fn:DC P D
 ops:ops.all (vt D.1 ops)=true
 items:k.all (fK D.1)=true
 aX:∀i,D.T i=true->D.K i=true
theorem Ij.all(h:Ij P ops k D)(l:uac):(Item.inRegion ops l::k).all (fK D.1)=true:=by rw[vbu,vag];exact⟨Zg h.ops l,h.items⟩
def axA{d:Nat}{g:uak}{cA:Func}{F:Code}{args:uay}{ats:uaq}(q:o.op=.call {callee:=.value (.func g),args,argTypes:=ats})(hg:P.funcs[g]?=some cA)(z:(cA.name== "runtime.NumGoroutine")=false)(j:cA.body=some F)(hn:n+16*d<=200)(C:jQ P f)(m:Ij P ops k D)(h:jv D a b)(H:Held O P aD w0 n0 a M w Shun)(hk:(Item.inRegion ops []::k).all (fB P)=true)(s:ops[i]?=some o)(Q:o.guard=none){c:Tmp}(A:o.dst=some c/\c<a.tmps.size)(y:gD.hX D.1 o=true){I J:uae}{iP:uaw}(hI:o9 n0 I)(h0:I a w)(B:∀k,fZ O P Post g (args.map a.eval) M (w.at k) d (λu _ w'=>iP w' u/\dy M w w'))(K:∀u w',I a w'->iP w' u->J (a.put (some c) u) w')(N:∀a' t M' w' l p,l<=n+16*d->Held O P aD w0 n0 a' M' w' p->jv D a' t->J a' w'->bT P Post l p 0 (a4 ((base f).at t (.inRegion ops rest::k)) cs) w'):
 bT P Post n Shun 0 (a4 ((base f).at b (.inRegion ops (i::rest)::k)) cs) w:=by
 simp only[vbu,vag]at hk;have E:D.T c=false:=by simp_all[gD.hX,Ct]
 have L:args.map b.eval=args.map a.eval:=Array.map_congr_left λx S=>h.eval (by
  have:=y;simp only[gD.hX,vag]at this;grind[Array.all_eq_true_iff_forall_mem,Op.operands,Call.operands])
 have hK:D.K c=false:=by have:=vau.1 m.ops o (vbr s);simp_all[vt,R9]
 refine abX q hg z j L hn H.fC ⟨C,.inr ⟨D,a,h,H.all,m.fn,m.all,λT e=>?_,m.aX⟩,by rw[h.defers];exact H.defers,hk.1,hk.2,⟨c,AA,by rw[h.size];grind⟩⟩ s (xX Q _) B ?_
 .grind
 rintro u M' w' l p h1 h2 h3 h4 v ⟨R,r⟩;rw[A.1];refine N _ _ M' w' l p h1 ⟨h2,λb j=>h3 b (H.sub b j),H.since.trans v,H.keep.trans (λb j=>H.sub b j.1) r,?_,H5,vad H.size v.size⟩ (h.put E hK u) (K u w' (hI _ _ _ _ _ (r.my H.fC) H.all h0) R);exact(H.all.mono (tJ h3)).set h4 _
