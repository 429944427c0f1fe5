import Derived.Test.YtnomloiacicoaaaGreatPAL
import Derived.Test.YtnomloiacicoaaaGreatPAR
import Derived.Test.YtnomloiacicoaaaGreatPAS
import Derived.Test.YtnomloiacicoaaaGreatPAT
set_option linter.all false
set_option maxRecDepth 100000
set_option maxHeartbeats 16000000
namespace Go.Proofs.YtnomloiacicoaaaGreat
open Tryz
namespace fH
open Conc RowKit Conc.Lib ConcR.Gen ConcM av bj ah eK hO bQ
theorem Ky:f89.nn=false:=AB
structure wB(c:dU)(S af jc:Nat):Prop where
 size:c.size=.I (S:Int)
 A_:c.A_=.I (af:Int)
 y2:c.y2=.S c.cU 0 c.N jc
 pD:je c.rows c.N<=300
 room:(c.N+1)*af+S<4611686018427387904
 most:c.most<=250
 small:c.N<4611686018427387904
section
variable{c:dU}{Stop:Bool->ah.Lo At->a0->Prop}{mine:dL}{S af jc:Nat}
variable{a2:Frame}{aI:Act}{aC:fF}{aL:Nat}{aO:uac}{aK:uab}{csZ:hH}
def asL(ok:wB c S af jc){T}(h:T<c.N):(T:Int)*(af:Int)=((T*af:Nat):Int)/\T*af+af+S<4611686018427387904:=by refine⟨AA,?_⟩;have h1:(T+1)*af<=(c.N+1)*af:=Nat.mul_le_mul_right _ AQ;have h2:=ok.room;grind
def asM(ok:wB c S af jc){T}(h:T<c.N):∃F a E:Nat,(T:Int)*(af:Int)=(F:Int)/\IntKind.wrap .i64 (F:Int)=(F:Int)/\IntKind.wrap .i64 ((F:Int)+(af:Int))=(a:Int)/\(if S<a then(S:Int)else(a:Int))=(E:Int)/\rP (F=T*af/\E=min (T*af+af) S):=by
 obtain⟨h1,h2⟩:=asL ok h;refine⟨T*af,T*af+af,min (T*af+af) S,h1,?_,?_,?_,Y,Y⟩
 .rw[veh];omega
 .rw[veh];omega
 grind
def asN(ok:wB c S af jc){T}(h:T<c.N):IntKind.wrap .i64 ((T:Int)+1)=((T+1:Nat):Int):=by have:=ok.small;rw[veh];omega
def Vn(S af T:Nat):Value:=.agg #[.I (T:Int),.I ((T*af:Nat):Int),.I ((min (T*af+af) S:Nat):Int)]
def Vo(aI:Act)(aC:fF)(aL:Nat)(v:Value):Act:=aI.put ((aC[aL]?).bind (·.dst)) v
def asO(i:Bool)(ok:wB c S af jc){f:Nat}{p:uad}{w0:aR}(hS:∀m l g w M M',(∀b,M b->M' b)->Stop m l ⟨g,w,M⟩->Stop m l ⟨g,w,M'⟩)(a5:∀w' aj,ai (ao (ay c)) mine w0 w'->c.N<=aj.am.taken->bc (ao (ay c)) prog Stop false ⟨.idle,false,0,f+1,.work .free p⟩ aj ⟨Conc.G (a2.at (Vo aI aC aL (.tuple #[.agg #[.I 0,.I 0,.I 0],.F])) (.inRegion aC aO::aK)) csZ,w',mine⟩)(fY:∀w' aj T,ai (ao (ay c)) mine w0 w'->T<c.N->bc (ao (ay c)) prog Stop false ⟨.idle,false,0,f+c.C,.work (.has T) p⟩ aj ⟨Conc.G (a2.at (Vo aI aC aL (.tuple #[Vn S af T,.T])) (.inRegion aC aO::aK)) csZ,w',mine⟩)(w:aR)(γ:ah.aQ cO)(hk:ak (ao (ay c)) mine w0 [] w):
 bc (ao (ay c)) prog Stop false ⟨.idle,false,0,f+15,.work .free p⟩ γ ⟨Conc.G ((base (a_ i 81 115)).at ⟨#[.P c.st 0]++Array.replicate 64 undef,[]⟩ [.code ((a_ i f81 f115).body.getD .skip)]) (a2.at aI (.inRegion aC (aL::aO)::aK)::csZ),w,cv mine []⟩:=by
 cases i<;>dsimp only[a_]
 all_goals
  have hF:=hk;have kJ:=(dE (bW c)).oo;have W:prog.follows .mixedOrders=true:=AB;refine bf (bW c) ?_;simp only[a_,f81,f115,vaf];walk_nrm
  repeat w_go ak.on
  refine iA Y hF λo j J s n N B y hF=>?_;refine uE AA kJ Y hF (vbd (v:=.P n.heap.size 0) (w':=n.alloc (Obj.cells #[Value.I 0,Value.I 0,Value.I 0] 185)) Y Y An Ak) Y BP (λr=>?_);clear hF;have hF:=r;clear r y B s j;generalize n.heap.size=b0 at hF⊢;generalize n.alloc (Obj.cells #[Value.I 0,Value.I 0,Value.I 0] 185)=w3 at hF⊢;refine bf (bW c) ?_;walk_nrm
  repeat w_go ak.on
  u_call func88 U2 f88 ak.on hF
  have U:∀b,(ay c).K b\/cv mine [(b0,.cells #[Value.I 0,Value.I 0,Value.I 0] 185)] b->b≠(ay c).st:=λb D e=>hF.fA b D (.inl e);refine vaj (λz R=>⟨Y,λV _=>Uh (f:=f+9) (bW c) (a:=.work .free p) Ke ok.most U (λP z0 Q=>?_) z V (ai.refl _ _ _)⟩);replace hF:=(hF.on R).on Q;clear R Q U;refine bf (bW c) ?_;walk_nrm
  repeat w_go ak.on
  u_defer ak.on hF
  repeat w_go ak.on
  refine vaj (λo j=>⟨Y,λJ s=>?_⟩);replace hF:=hF.on j;clear j s;refine bc.seen (dE (bW c)) Y λJ _ lB=>?_;obtain⟨xs,cT,vS,kn⟩:=vM lB;obtain⟨d,hd⟩:∃d,ir.of J.am=d:=⟨_,Y⟩;have OM:d.T<=c.N:=by subst hd;exact kn.aX
  have dH:d.M<=300:=by subst hd;exact vad kn.aa7 ok.pD
  clear vS kn lB;by_cases hT:d.T=c.N
  .skip
   refine Dh (Z:=ao (ay c)) (C:=Dm c mine w0 (d) ⟨.own,true,0,f+9,.work .free p⟩) AA An W KW Ka (σ:=np c mine w0 (d) ⟨.own,true,0,f+9,.work .free p⟩ [(b0,.cells #[Value.I 0,Value.I 0,Value.I 0] 185)]) (iM:=tw prog Stop false _ _ _ _ []) Jf ⟨_,Y⟩ ?_ _ J ⟨hF,hd⟩;walk_nrm
   refine e7 0 (.P c.st 0) ?_;walk_nrm
   refine e7 1 (.P c.st 0) ?_;walk_nrm
   refine e7 2 (.P c.st 4) ?_;walk_nrm
   refine j3 (i:=3) (v:=.I (d.T:Int)) KW Y AD AD AD (vO Y Y Y 2 Y (λx I=>by grind[ir.of]) (λw q=>⟨Ak,B3⟩)) ⟨_,Y⟩ ?_;walk_nrm
   refine e7 4 (.P c.st 0) ?_;walk_nrm
   refine e7 5 (.P c.st 0) ?_;walk_nrm
   refine e7 6 (.P c.st 6) ?_;walk_nrm
   refine j3 (i:=7) (v:=.S c.cU 0 c.N jc) KW Y AD AD AD (vO Y Y Y 4 Y (λx I=>by subst I;simp[ok.y2]) (λw q=>⟨Ak,B3⟩)) ⟨_,Y⟩ ?_;walk_nrm
   refine e7 8 (.I (c.N:Int)) ?_;walk_nrm
   refine e7 9 (.T) ?_;walk_nrm
   refine e7 10 (.T) ?_;walk_nrm
   refine j3 (i:=11) (v:=undef) KW Y AD AD AD (Kb Y) ⟨_,Y⟩ ?_;walk_nrm
   refine j3 (i:=12) (v:=undef) KW Y AD AD AD (Kb Y) ⟨_,Y⟩ ?_;walk_nrm
   refine j3 (i:=13) (v:=undef) KW Y AD AD AD (Kb Y) ⟨_,Y⟩ ?_;walk_nrm
   refine j3 (i:=14) (v:=undef) KW Y AD AD AD (Kb Y) ⟨_,Y⟩ ?_;walk_nrm
   refine j3 (i:=15) (v:=undef) KW Y AD AD AD (Kb Y) ⟨_,Y⟩ ?_;walk_nrm
   refine e7 16 (.T) ?_;walk_nrm
   refine Dg AD ?_ _;rintro o X ⟨r,K⟩;clear hd;have hd:=K;clear K;clear hF;have hF:=r;clear r;simp[np];have eJ:Ha c ⟨.own,true,0,f+9,.work .free p⟩ X:=⟨λh=>h,by have e:=vcd ir.T hd;grind[ir.of]⟩;clear hd dH OM hT;refine bf (bW c) ?_;walk_nrm
   repeat w_go ak.on
   refine iA Y hF λo j J s n N B y hF=>?_;replace eJ:=NS _ _ _ (NS _ _ _ eJ s) B;have u:=hF.bO (b0,.cells #[.I 0,.I 0,.I 0] 185) AS;refine Do AA Y (pre:=[]) (post:=[]) hF (vek (w':=n.setRow b0 #[.I 0,.I 0,.I 0]) Y Y An (qH u ⟨Y,Y,Y⟩ Y Y Y).1) Y (λe L=>?_) (λr=>?_)
   .have H:=vbt L;rw[(qH u ⟨Y,Y,Y⟩ Y Y Y).2]at H;grind
   clear hF;have hF:=r;clear r u;clear y B s j;refine bf (bW c) ?_;walk_nrm
   repeat w_go ak.on
   u_in ak.on hF
   rw[vep Y func89 Ky Y];simp only[goes_go];refine⟨DN,?_⟩;walk_nrmf f89
   have U:∀b,c.K b\/cv mine [(b0,.cells #[Value.I 0,Value.I 0,Value.I 0] 185)] b->b≠c.st:=λb D e=>hF.fA b D (.inl e);refine vaj (λz R=>⟨Y,λV KM=>ase (f:=f+1) ok.most U Y Y (λP z0 Q aIs=>?_) z V (ai.refl _ _ _) (NS _ _ _ eJ KM).2⟩);replace hF:=(hF.on R).on Q;clear R Q U eJ;refine bc.mk Y (λn N B y=>?_);replace hF:=hF.on (ep.rw y);have u:=hF.bO (b0,.cells #[.I 0,.I 0,.I 0] 185) AS;refine tA AA Y (λb D=>hF.fA b (.inr D)) (abe Y Y E1 (OI Ao (t:=.F) u Y Y).1 (OI Ao (t:=.F) u Y Y).2) Y (λe L=>?_) ?_
   .have H:=av.Gj L;simp at H;rcases H with rfl|rfl|rfl<;>exact⟨Y,.inr (.inr AS)⟩
   rw[vco];exact bc.more hS (a5 n N hF.rw AA) (λb D=>.inl D)
  .skip
   have O:d.T<c.N:=AQ;have hne:((d.T:Int)==(c.N:Int))=false:=AA;have GK:decide ((300:Int)<(d.M:Int))=false:=AA;obtain⟨F,KL,E,hmul,asP,asQ,asR,asS⟩:=asM ok O;refine Dh (Z:=ao (ay c)) (C:=Dm c mine w0 (d) ⟨.own,true,0,f+9,.work .free p⟩) AA An W KW Ka (σ:=np c mine w0 (d) ⟨.own,true,0,f+9,.work .free p⟩ [(b0,.cells #[Value.I 0,Value.I 0,Value.I 0] 185)]) (iM:=tw prog Stop false _ _ _ _ []) Jf ⟨_,Y⟩ ?_ _ J ⟨hF,hd⟩;walk_nrm
   refine e7 0 (.P c.st 0) ?_;walk_nrm
   refine e7 1 (.P c.st 0) ?_;walk_nrm
   refine e7 2 (.P c.st 4) ?_;walk_nrm
   refine j3 (i:=3) (v:=.I (d.T:Int)) KW Y AD AD AD (vO Y Y Y 2 Y (λx I=>by grind[ir.of]) (λw q=>⟨Ak,B3⟩)) ⟨_,Y⟩ ?_;walk_nrm
   refine e7 4 (.P c.st 0) ?_;walk_nrm
   refine e7 5 (.P c.st 0) ?_;walk_nrm
   refine e7 6 (.P c.st 6) ?_;walk_nrm
   refine j3 (i:=7) (v:=.S c.cU 0 c.N jc) KW Y AD AD AD (vO Y Y Y 4 Y (λx I=>by subst I;simp[ok.y2]) (λw q=>⟨Ak,B3⟩)) ⟨_,Y⟩ ?_;walk_nrm
   refine e7 8 (.I (c.N:Int)) ?_;walk_nrm
   refine e7 9 (.F) ?_;walk_nrm
   refine e7 10 (.F) ?_;walk_nrm
   refine e7 11 (.P c.st 0) ?_;walk_nrm
   refine e7 12 (.P c.st 0) ?_;walk_nrm
   refine e7 13 (.P c.st 5) ?_;walk_nrm
   refine j3 (i:=14) (v:=.I (d.M:Int)) KW Y AD AD AD (vO Y Y Y 3 Y (λx I=>by grind[ir.of]) (λw q=>⟨Ak,B3⟩)) ⟨_,Y⟩ ?_;walk_nrm
   refine e7 15 (.F) ?_;walk_nrm
   refine e7 16 (.F) ?_;walk_nrm
   refine Dg AD ?_ _;rintro o X ⟨r,K⟩;clear hd;have hd:=K;clear K;clear hF;have hF:=r;clear r;simp[np];clear hT OM dH hne GK;refine bf (bW c) ?_;walk_nrm
   repeat w_go ak.on
   refine vaj (λo j=>⟨Y,λJ s=>?_⟩);replace hF:=hF.on j;replace hd:=(vN (c:=c) (l:=⟨.own,true,0,f+9,.work .free p⟩) Y s).trans hd;clear j s;refine Dh (Z:=ao (ay c)) (C:=Dm c mine w0 (d) ⟨.own,true,0,f+9,.work .free p⟩) AA An W KW Ka (σ:=np c mine w0 (d) ⟨.own,true,0,f+9,.work .free p⟩ [(b0,.cells #[Value.I 0,Value.I 0,Value.I 0] 185)]) (iM:=tw prog Stop false _ _ _ _ []) Jf ⟨_,Y⟩ ?_ _ J ⟨hF,hd⟩;walk_nrm
   refine e7 0 (.P c.st 0) ?_;walk_nrm
   refine e7 1 (.P c.st 0) ?_;walk_nrm
   refine e7 2 (.P c.st 4) ?_;walk_nrm
   refine j3 (i:=3) (v:=.I (d.T:Int)) KW Y AD AD AD (vO Y Y Y 2 Y (λx I=>by grind[ir.of]) (λw q=>⟨Ak,B3⟩)) ⟨_,Y⟩ ?_;walk_nrm
   refine e7 4 (.P c.st 0) ?_;walk_nrm
   refine e7 5 (.P c.st 0) ?_;walk_nrm
   refine e7 6 (.P c.st 3) ?_;walk_nrm
   refine j3 (i:=7) (v:=.I (af:Int)) KW Y AD AD AD (vO Y Y Y 1 Y (λx I=>by subst I;simp[ok.A_]) (λw q=>⟨Ak,B3⟩)) ⟨_,Y⟩ ?_;walk_nrm
   refine e7 8 (.I (F:Int)) ?_;walk_nrm
   refine e7 9 (.I (F:Int)) ?_;walk_nrm
   refine Dg AD ?_ _;rintro o X ⟨r,K⟩;clear hd;have hd:=K;clear K;clear hF;have hF:=r;clear r;simp[np];refine bf (bW c) ?_;walk_nrm
   repeat w_go ak.on
   refine vaj (λo j=>⟨Y,λJ s=>?_⟩);replace hF:=hF.on j;replace hd:=(vN (c:=c) (l:=⟨.own,true,0,f+9,.work .free p⟩) Y s).trans hd;clear j s;refine Dh (Z:=ao (ay c)) (C:=Dm c mine w0 (d) ⟨.own,true,0,f+9,.work .free p⟩) AA An W KW Ka (σ:=np c mine w0 (d) ⟨.own,true,0,f+9,.work .free p⟩ [(b0,.cells #[Value.I 0,Value.I 0,Value.I 0] 185)]) (iM:=tw prog Stop false _ _ _ _ []) Jf ⟨_,Y⟩ ?_ _ J ⟨hF,hd⟩;walk_nrm
   refine e7 0 (.P c.st 0) ?_;walk_nrm
   refine e7 1 (.P c.st 0) ?_;walk_nrm
   refine e7 2 (.P c.st 4) ?_;walk_nrm
   refine j3 (i:=3) (v:=.I (d.T:Int)) KW Y AD AD AD (vO Y Y Y 2 Y (λx I=>by grind[ir.of]) (λw q=>⟨Ak,B3⟩)) ⟨_,Y⟩ ?_;walk_nrm
   refine e7 4 (.I (F:Int)) ?_;walk_nrm
   refine e7 5 (.I (F:Int)) ?_;walk_nrm
   refine e7 6 (.P c.st 0) ?_;walk_nrm
   refine e7 7 (.P c.st 0) ?_;walk_nrm
   refine e7 8 (.P c.st 3) ?_;walk_nrm
   refine j3 (i:=9) (v:=.I (af:Int)) KW Y AD AD AD (vO Y Y Y 1 Y (λx I=>by subst I;simp[ok.A_]) (λw q=>⟨Ak,B3⟩)) ⟨_,Y⟩ ?_;walk_nrm
   refine e7 10 (.I (KL:Int)) ?_;walk_nrm
   refine e7 11 (.P c.st 0) ?_;walk_nrm
   refine e7 12 (.P c.st 0) ?_;walk_nrm
   refine e7 13 (.P c.st 2) ?_;walk_nrm
   refine j3 (i:=14) (v:=.I (S:Int)) KW Y AD AD AD (vO Y Y Y 0 Y (λx I=>by subst I;simp[ok.size]) (λw q=>⟨Ak,B3⟩)) ⟨_,Y⟩ ?_;walk_nrm
   refine e7 15 (.I (E:Int)) ?_;walk_nrm
   refine j3 (i:=16) (v:=.agg #[.I (d.T:Int),.I (F:Int),.I (E:Int)]) KW Y AD AD AD (G8 Y (λ_=>(ac1 Y Y Y Y).1) (λw=>by unfold listed;rw[(ac1 Y Y Y Y).2];rfl)) ⟨_,Y⟩ ?_;walk_nrm
   refine tE (i:=17) AD (y5 Y Y (apv (ob:=Obj.cells #[Value.I 0,Value.I 0,Value.I 0] 185) Y (λw=>⟨Ak,BP⟩) (λbS=>⟨⟨_,Y⟩,?_⟩)));walk_nrm
   refine tE (i:=18) AD (y5 Y Y (apw Y Y (pre:=[]) (new:=#[.I (d.T:Int),.I (F:Int),.I (E:Int)]) (λw u=>⟨(qH u ⟨Y,Y,Y⟩ Y Y Y).1,λe L=>?_⟩) ⟨⟨_,Y⟩,?_⟩))
   .have H:=vbt L;rw[(qH u ⟨Y,Y,Y⟩ Y Y Y).2]at H;grind
   walk_nrm
   refine Dg AD ?_ _;rintro o X ⟨r,K⟩;clear hF hd;have hF:=r;have hd:=K;clear r K;simp[np]at hF⊢;refine bf (bW c) ?_;walk_nrm
   repeat w_go ak.on
   refine iA Y hF λo j J s n N B y hF=>?_;replace hd:=(vN (c:=c) (l:=⟨.own,true,0,f+9,.work .free p⟩) Y B).trans ((vN (c:=c) (l:=⟨.own,true,0,f+9,.work .free p⟩) Y s).trans hd);clear s B j;have q:n.cell? (.a c.st 4)=some (.I (d.T:Int)):=by rw[Kc y.mt.1 2];subst hd;simp[ir.of]
   refine abf (k:=2) Y Y ((vbd (v:=.I (d.T:Int)) Y Y An Ak).trans (vcd (λes=>GStep.go _ _ es) B3)) Y ?_;clear q y;have asT:IntKind.wrap .i64 ((d.T:Int)+1)=((d.T+1:Nat):Int):=asN ok O;refine bf (bW c) ?_;walk_nrm
   repeat w_go ak.on
   refine iA Y hF λo j J s n N B y hF=>?_;replace hd:=(vN (c:=c) (l:=⟨.own,true,0,f+9,.work .free p⟩) Y B).trans ((vN (c:=c) (l:=⟨.own,true,0,f+9,.work .free p⟩) Y s).trans hd);clear s B j;have q:n.cell? (.a c.st 4)=some (.I (d.T:Int)):=by rw[Kc y.mt.1 2];subst hd;simp[ir.of]
   have sN:n.frozen? ⟨c.st,4,none⟩=false:=by simp[World.frozen?,y.mt.1,iq]
   refine apk (f1:=f+c.C+8) (v:=.I ((d.T+1:Nat):Int)) y ((vek Y Y An Ak).trans (vcd (λes=>GStep.go _ _ es) (by simp[listed,go_sem,q,sN];rfl))) Y (by subst hd;rfl) Y Y Y (by subst hd;exact O) AA ?_;have e1:N.am.taken=d.T:=by subst hd;rfl
   have r:=hF.shared (k:=c.st) (off:=4) (sp:=none) Jv (.I ((d.T+1:Nat):Int));clear hF;have hF:=r;clear r q sN y;rw[e1];clear hd e1 asP asQ asT hmul asR;dsimp only;generalize n.setCell ⟨c.st,4,none⟩ (.I ((d.T+1:Nat):Int))=w4 at hF⊢;refine bf (bW c) ?_;walk_nrm
   repeat w_go ak.on
   refine iA Y hF λo j J s n N B y hF=>?_;have u:=hF.bO (bS,.cells #[.I (d.T:Int),.I (F:Int),.I (E:Int)] 185) AS;refine tA AA Y (λb D=>hF.fA b (.inr D)) (vbd Y Y An (Bv u Y Y).1) Y (λe L=>?_) ?_
   .have H:=vbt L;rw[(Bv u Y Y).2]at H;simp at H;rcases H with rfl|rfl|rfl<;>exact⟨Y,.inr (.inr AS)⟩
   clear u y B s j;refine bf (bW c) ?_;walk_nrm
   repeat w_go ak.on
   refine iA Y hF λo j J s n N B y hF=>?_;have u:=hF.bO (b0,.cells #[Value.I 0,Value.I 0,Value.I 0] 185) AS;refine Do AA Y (pre:=[(bS,.cells #[.I (d.T:Int),.I (F:Int),.I (E:Int)] 185)]) (post:=[]) hF (vek (w':=n.setRow b0 #[.I (d.T:Int),.I (F:Int),.I (E:Int)]) Y Y An (qH u ⟨Y,Y,Y⟩ Y Y Y).1) Y (λe L=>?_) (λr=>?_)
   .have H:=vbt L;rw[(qH u ⟨Y,Y,Y⟩ Y Y Y).2]at H;grind
   clear hF;have hF:=r;clear r u y B s j;simp only[veg,vdp]at hF⊢;refine bf (bW c) ?_;walk_nrm
   repeat w_go ak.on
   u_in ak.on hF
   rw[vep Y func89 Ky Y];simp only[goes_go];refine⟨DN,?_⟩;walk_nrmf f89
   have U:∀b,(ay c).K b\/cv mine [(bS,.cells #[.I (d.T:Int),.I (F:Int),.I (E:Int)] 185),(b0,.cells #[.I (d.T:Int),.I (F:Int),.I (E:Int)] 185)] b->b≠(ay c).st:=λb D e=>hF.fA b D (.inl e);refine vaj (λz R=>⟨Y,λV KM=>U_ (A:=ay c) (f:=f+c.C) (bW c) (a:=.work (.has d.T) p) Ke ok.most U Y Y (λP z0 Q=>?_) z V (ai.refl _ _ _)⟩);replace hF:=(hF.on R).on Q;clear R Q U;refine bc.mk Y (λn N B y=>?_);replace hF:=hF.on (ep.rw y);have u:=hF.bO (b0,.cells #[.I (d.T:Int),.I (F:Int),.I (E:Int)] 185) AS;refine tA AA Y (λb D=>hF.fA b (.inr D)) (abe Y Y E1 (OI Ao (t:=.T) u Y Y).1 (OI Ao (t:=.T) u Y Y).2) Y (λe L=>?_) ?_
   .have H:=av.Gj L;simp at H;rcases H with rfl|rfl|rfl<;>exact⟨Y,.inr (.inr AS)⟩
   rw[vco];have fk:Vn S af d.T=.agg #[.I (d.T:Int),.I (F:Int),.I (E:Int)]:=by obtain⟨rfl,rfl⟩:=rP.out asS;rfl
   have ki:=fY n N d.T hF.rw O;rw[fk]at ki;exact bc.more hS ki (λb D=>.inl D)
end
end fH
namespace oB
open Conc RowKit Conc.Lib ConcR.Gen ConcM bj cV x0 bQ
section
section
variable{Shun:ual}{Stop:uax}
variable{a2:Frame}{aI:Act}{aC:fF}{aL:Nat}{aO:uac}{aK:uab}{csZ:hH}
def ON(Shun:ual)(Stop:uax)(f:uak)(args:dX)(w:aR)(V:hV):Prop:=
 ∀(Hz:Frame)(a₂:Act)(E2:fF)(HA:Nat)(HB:uac)(k₂:uab)(HD:hH),
  (∀u w',V u w'->e8 prog Shun Stop 0 (Conc.G (Hz.at (a₂.put ((E2[HA]?).bind (·.dst)) u) (.inRegion E2 HB::k₂)) HD) w')->
  e8 prog Shun Stop 0 (Conc.G (Frame.enter prog f args .normal) (Hz.at a₂ (.inRegion E2 (HA::HB)::k₂)::HD)) w
def asU(i:Bool){st h dB wg W:Nat}{X cC dm U T gi gj gl gm gn gp gA gq gr gu gv g9 g_ hh F C B A y:Value}{w:aR}{V:hV}(s:w.heap[st]?=some (Obj.cells #[.int .i32 0,.int .u32 0,F,C,B,A,y,.N] (a_ i 170 228)))(D:w.heap[h]?=some (.cells #[.P st 0] (a_ i 124 195)))(hne:h≠st)(M:∃a n c,y=.slice a n c)(kQ:∀off sp,2<=off->¬Shun (.cell ⟨st,off,sp⟩))(z:Shun (.cell ⟨st,0,none⟩))(E3:¬Shun (.cell ⟨h,0,none⟩))(I:ON Shun Stop (a_ i 90 117) #[y] (w.setCell ⟨st,0,none⟩ (.int .i32 1)) (λu w'=>V u w'/\(∃a n c,u=.slice a n c)/\w'.heap[st]?=(w.setCell ⟨st,0,none⟩ (.int .i32 1)).heap[st]?/\w.heap.size<=w'.heap.size))(hk:∀u w',V u w'->e8 prog Shun Stop 0 (Conc.G (a2.at (aI.put ((aC[aL]?).bind (·.dst)) (.tuple #[u,.N])) (.inRegion aC aO::aK)) csZ) (w'.setCell ⟨st,0,none⟩ (.int .i32 0))):
 e8 prog Shun Stop 0 (Conc.G ((base (a_ i 35 55)).at ⟨#[X,cC,dm,.P dB 0,U,T,.P h 0,.P wg 0,gi,gj,gl,gm,gn,gp,.I (W:Int),.I (W:Int),gA,gq,gr,gu,.tuple #[],gv,g9,g_,hh],[]⟩ [.inRegion (bQ.pd ((bQ.eu 8 ((a_ i f35 f55).body.getD .skip)).getD .skip)) [],.code (bQ.lA ((bQ.eu 8 ((a_ i f35 f55).body.getD .skip)).getD .skip))]) (a2.at aI (.inRegion aC (aL::aO)::aK)::csZ)) w:=by
 generalize L:a_ i 170 228=Bx at *;generalize K:a_ i 124 195=tU at *;cases i<;>dsimp only[a_]at *
 all_goals
  replace L:=L.symm;replace K:=K.symm;obtain⟨sa,o,m,rfl⟩:=M;have Vq:st<w.heap.size:=(vao.1 s).1;have t:h<w.heap.size:=(vao.1 D).1;have q:w.cell? (.a h 0)=some (.P st 0):=by simp[World.cell?,D]
  have N:w.cell? (.a st 0)=some (.int .i32 0):=by simp[World.cell?,s]
  have P:w.frozen? ⟨st,0,none⟩=false:=by simp[World.frozen?,s]
  have r:(w.setCell ⟨st,0,none⟩ (.int .i32 1)).heap[st]?=some (Obj.cells #[.int .i32 1,.int .u32 0,F,C,B,A,.slice sa o m,.N] Bx):=by simp[World.setCell,vbh,s]
  have hF:=atRel_refl w;simp[a_,f35,f55,bQ.eu,bQ.lA,bQ.pd];refine mR (R:=AtRel) Ju 300 _ _ ?_;repeat w_go eh
  refine vaj (λg f=>?_);replace hF:=eh hF f;obtain⟨d,rfl⟩:=hF;clear f;refine o7 Y (w1:=w.at d) (es:=#[⟨.cell ⟨h,0,none⟩,false,false⟩]) (λk=>(vbd (v:=.P st 0) Y Y An (by have l:((w.at d).at k).cell? (.a h 0)=some (.P st 0):=q;go_simp)).trans (vcd (λes=>GStep.go _ _ es) (by have l:((w.at d).at k).cell? (.a h 0)=some (.P st 0):=q;simp[listed,go_sem,l];rfl))) ?_ JR ?_
  .intro e j;simp at j;subst j;exact Kj E3 t _
  show e8 prog Shun Stop 0 _ _;have hF:AtRel w (w.at d):=⟨d,Y⟩;refine mR (R:=AtRel) Ju 300 _ _ ?_;walk_nrm
  repeat w_go eh
  first|u_call func53 AB f53 eh hF|u_call func94 AB f94 eh hF
  repeat w_go eh
  u_call func88 bQ.U2 f88 eh hF
  refine vaj (λg f=>?_);replace hF:=eh hF f;obtain⟨d,rfl⟩:=hF;clear f;refine asb (w:=w.at d) N P z Vq ?_;have hF:AtRel (w.setCell ⟨st,0,none⟩ (.int .i32 1)) ((w.at d).setCell ⟨st,0,none⟩ (.int .i32 1)):=⟨d,Y⟩;have hsz:(w.setCell ⟨st,0,none⟩ (.int .i32 1)).heap.size=w.heap.size:=ah.oq _ _ _;generalize w.setCell ⟨st,0,none⟩ (.int .i32 1)=w2 at hF I r hsz;generalize(w.at d).setCell ⟨st,0,none⟩ (.int .i32 1)=w3 at hF⊢;have H:st<w2.heap.size:=AQ;have p:w2.cell? (.a st 7)=some (.N):=Hu;have J:w2.cell? (.a st 6)=some (.slice sa o m):=Hu;refine mR (R:=AtRel) Ju 300 _ _ ?_;walk_nrm
  repeat w_go eh
  u_defer eh hF
  repeat w_go eh
  refine vaj (λg f=>?_);replace hF:=eh hF f;obtain⟨d,rfl⟩:=hF;clear f;refine o7 Y (w1:=w2.at d) (es:=#[⟨.cell ⟨st,7,none⟩,false,false⟩]) (λk=>(vbd (v:=.N) Y Y An (by have l:((w2.at d).at k).cell? (.a st 7)=some (.N):=p;go_simp)).trans (vcd (λes=>GStep.go _ _ es) (by have l:((w2.at d).at k).cell? (.a st 7)=some (.N):=p;simp[listed,go_sem,l];rfl))) ?_ JR ?_
  .intro e j;simp at j;subst j;exact Kj AA H _
  show e8 prog Shun Stop 0 _ _;have hF:AtRel w2 (w2.at d):=⟨d,Y⟩;refine mR (R:=AtRel) Ju 300 _ _ ?_;walk_nrm
  repeat w_go eh
  refine vaj (λg f=>?_);replace hF:=eh hF f;obtain⟨d,rfl⟩:=hF;clear f;refine o7 Y (w1:=w2.at d) (es:=#[]) (λk=>(vbd (v:=.F) Y Y An (by simp[go_sem,binOp,Op.equal];rw[show Op.maxDepth=9999+1 from Y,Op.equalIn];simp)).trans (vcd (λes=>GStep.go _ _ es) FO)) AS JR ?_;show e8 prog Shun Stop 0 _ _;have hF:AtRel w2 (w2.at d):=⟨d,Y⟩;refine mR (R:=AtRel) Ju 300 _ _ ?_;walk_nrm
  repeat w_go eh
  refine vaj (λg f=>?_);replace hF:=eh hF f;obtain⟨d,rfl⟩:=hF;clear f;refine o7 Y (w1:=w2.at d) (es:=#[⟨.cell ⟨st,6,none⟩,false,false⟩]) (λk=>(vbd (v:=.slice sa o m) Y Y An (by have l:((w2.at d).at k).cell? (.a st 6)=some (.slice sa o m):=J;go_simp)).trans (vcd (λes=>GStep.go _ _ es) (by have l:((w2.at d).at k).cell? (.a st 6)=some (.slice sa o m):=J;simp[listed,go_sem,l];rfl))) ?_ JR ?_
  .intro e j;simp at j;subst j;exact Kj AA H _
  show e8 prog Shun Stop 0 _ _;have hF:AtRel w2 (w2.at d):=⟨d,Y⟩;refine mR (R:=AtRel) Ju 300 _ _ ?_;walk_nrm
  repeat w_go eh
  refine vaj (λg f=>?_);replace hF:=eh hF f;obtain⟨d,rfl⟩:=hF;clear f;refine o7 Y (w1:=w2) (es:=#[]) (λk=>(stepG_enter Y Y An (iu.sE (b:=base 0) (vs:=#[.slice sa o m]) Y (by first|exact func90|exact func117) AB Y Cv _).1).trans (vcd (λes=>GStep.go _ _ es) (iu.sE (vs:=#[.slice sa o m]) Y (by first|exact func90|exact func117) AB Y Cv _).2)) AS JR ?_;refine I _ _ _ _ _ _ _ (λu w' hv=>?_);obtain⟨O,⟨By,un,uc,rfl⟩,x,hsz'⟩:=hv;rw[r]at x;have S:w'.cell? (.a st 0)=some (.int .i32 1):=by simp[World.cell?,x]
  have Q:w'.frozen? ⟨st,0,none⟩=false:=by simp[World.frozen?,x]
  have Z:st<w'.heap.size:=AQ;have hF:=atRel_refl w';refine mR (R:=AtRel) Ju 300 _ _ ?_;walk_nrm
  repeat w_go eh
  u_in eh hF
  rw[vep Y func89 bQ.Ky Y];simp only[goes_go];refine⟨DN,?_⟩;walk_nrmf f89
  refine vaj (λg f=>?_);replace hF:=eh hF f;obtain⟨d,rfl⟩:=hF;clear f;refine asc (w:=w'.at d) Y S Q z Z ?_;have hF:AtRel (w'.setCell ⟨st,0,none⟩ (.int .i32 0)) ((w'.at d).setCell ⟨st,0,none⟩ (.int .i32 0)):=⟨d,Y⟩;have E:=hk _ w' O;generalize w'.setCell ⟨st,0,none⟩ (.int .i32 0)=w4 at hF E;generalize(w'.at d).setCell ⟨st,0,none⟩ (.int .i32 0)=iK at hF⊢;refine mR (R:=AtRel) Ju 300 _ _ ?_;u_in eh hF
  refine goes_leave2 Y Y (by first|exact func53|exact func94) Y ⟨DN,?_⟩;walk_nrm
  repeat w_go eh
  u_in eh hF
  refine goes_leave2 Y Y (by first|exact func35|exact func55) Y ⟨DN,?_⟩;refine vaj (λg f=>?_);replace hF:=eh hF f;obtain⟨d,rfl⟩:=hF;exact E.at d
end
end
end oB
namespace fH
open Conc RowKit Conc.Lib ConcR.Gen ConcM av bj ah eK hO bQ
section
section
variable{c:dU}{Stop:Bool->ah.Lo At->a0->Prop}{mine:dL}{S af jc:Nat}
variable{a2:Frame}{aI:Act}{aC:fF}{aL:Nat}{aO:uac}{aK:uab}{csZ:hH}
def atu(i:Bool)(ok:wB c S af jc){f T aW:Nat}(mf:c.cq T=false){F E:Int}{s:uag}{q:uad}{w0:aR}(hS:∀m l g w M M',(∀b,M b->M' b)->Stop m l ⟨g,w,M⟩->Stop m l ⟨g,w,M'⟩)(fY:∀w' aj,ai (ao (ay c)) mine w0 w'->bc (ao (ay c)) prog Stop false ⟨.idle,false,0,f,.work .free ((T,.slice s (c.rows T) aW)::q)⟩ aj ⟨Conc.G (a2.at (Vo aI aC aL (.tuple #[])) (.inRegion aC aO::aK)) csZ,w',mine⟩)(w:aR)(γ:ah.aQ cO)(hk:ak (ao (ay c)) mine w0 [] w):
 bc (ao (ay c)) prog Stop false ⟨.idle,false,0,f+16,.work (.has T) q⟩ γ ⟨Conc.G ((base (a_ i 109 130)).at ⟨#[.P c.st 0,.agg #[.I (T:Int),.I F,.I E],.slice s (c.rows T) aW]++Array.replicate 27 undef,[]⟩ [.code ((a_ i f109 f130).body.getD .skip)]) (a2.at aI (.inRegion aC (aL::aO)::aK)::csZ),w,cv mine []⟩:=by
 cases i<;>dsimp only[a_]
 all_goals
  have hF:=hk;have kJ:=(dE (bW c)).oo;have x2:prog.follows .mixedOrders=true:=AB;refine bc.seen (dE (bW c)) Y λγ _ U=>?_;have OM:=abk U Y;clear U;refine bf (bW c) ?_;simp only[a_,f109,f130,vaf];walk_nrm
  repeat w_go ak.on
  refine iA Y hF λo n y B j X I z hF=>?_;refine uE AA kJ Y hF (vbd (v:=.P j.heap.size 0) (w':=j.alloc (.cells #[.I (T:Int),.I F,.I E] 185)) Y Y An Ak) Y BP (λH=>?_);clear hF;have hF:=H;clear H z I B n;generalize j.heap.size=b0 at hF⊢;generalize j.alloc (.cells #[.I (T:Int),.I F,.I E] 185)=w3 at hF⊢;refine bf (bW c) ?_;walk_nrm
  repeat w_go ak.on
  u_call func88 U2 f88 ak.on hF
  have O:∀b,(ay c).K b\/cv mine [(b0,.cells #[.I (T:Int),.I F,.I E] 185)] b->b≠(ay c).st:=λb P e=>hF.fA b P (.inl e);refine vaj (λr N=>⟨Y,λR _=>Uh (f:=f+10) (bW c) (a:=.work (.has T) q) Ke ok.most O (λK z0 L=>?_) r R (ai.refl _ _ _)⟩);replace hF:=(hF.on N).on L;clear N L O;refine bf (bW c) ?_;walk_nrm
  repeat w_go ak.on
  u_defer ak.on hF
  repeat w_go ak.on
  refine vaj (λo n=>⟨Y,λy B=>?_⟩);replace hF:=hF.on n;clear n B;refine Dh (Z:=ao (ay c)) (C:=Kd c mine w0 (b0,.cells #[.I (T:Int),.I F,.I E] 185)) AA An x2 y6 apy (σ:=np c mine w0 (ir.of y.am) ⟨.own,true,0,f+10,.work (.has T) q⟩ [(b0,.cells #[.I (T:Int),.I F,.I E] 185)]) (iM:=tw prog Stop false _ _ _ _ []) Jf ⟨_,_,_,Y,Y,Y,AS,Y⟩ ?_ _ y ⟨hF,Y⟩;walk_nrm
  refine e7 0 (.P c.st 0) ?_ y6 ⟨_,_,_,Y,Y,Y,AS,Y⟩;walk_nrm
  refine e7 1 (.P c.st 0) ?_ y6 ⟨_,_,_,Y,Y,Y,AS,Y⟩;walk_nrm
  refine e7 2 (.P c.st 6) ?_ y6 ⟨_,_,_,Y,Y,Y,AS,Y⟩;walk_nrm
  refine j3 (i:=3) (v:=.S c.cU 0 c.N jc) y6 Y AD AD AD (apz 4 Y (λx=>by simp[ok.y2]) (λw t=>⟨Ak,by simp[listed,go_sem,t];rfl⟩)) ⟨_,_,_,Y,Y,Y,AS,Y⟩ ?_;walk_nrm
  refine e7 4 (.P b0 0) ?_ y6 ⟨_,_,_,Y,Y,Y,AS,Y⟩;walk_nrm
  refine j3 (i:=5) (v:=.I (T:Int)) y6 Y AD AD AD (apA Y (λw hB=>?_)) ⟨_,_,_,Y,Y,Y,AS,Y⟩ ?_
  .have t:w.cell? (.a b0 0)=some (.I (T:Int)):=by simp[World.cell?,hB]
   refine⟨Ak,λe he=>⟨0,?_⟩⟩;have W:=vbt he;simp[go_sem,t]at W;exact W
  walk_nrm
  refine e7 6 (.slice s (c.rows T) aW) ?_ y6 ⟨_,_,_,Y,Y,Y,AS,Y⟩;walk_nrm
  refine j3 (i:=7) (v:=.P c.cU T) y6 Y AD AD AD (G8 Y (λ_=>Ak) (λ_=>by simp[listed,go_sem,OM];rfl)) ⟨_,_,_,Y,Y,Y,AS,Y⟩ ?_;walk_nrm
  refine tE (i:=8) AD (y5 Y Y (apC (f1:=f+9) (v:=.slice s (c.rows T) aW) Y Y Y AA (λw D V hp=>?_) ⟨⟨_,_,_,Y,Y,Y,AS,Y⟩,?_⟩))
  .have t:w.cell? (.a c.cU T)=some D[T]:=by simp[World.cell?,V,hp]
   have Q:w.frozen? ⟨c.cU,T,none⟩=false:=by simp[World.frozen?,V]
   exact⟨Ak,by simp[listed,go_sem];rw[Go.events_store _ _ _ _ _ _ Y,t];simp[Q];rfl⟩
  walk_nrm
  refine Dg AD ?_ _;rintro o eV ⟨H,hd⟩;clear hF;have hF:=H;clear H;generalize(⟨(ir.of y.am).T,(ir.of y.am).M,(ir.of y.am).D.set T (.slice s (c.rows T) aW),(ir.of y.am).L⟩:ir)=d at hd;simp[np];refine bf (bW c) ?_;walk_nrm
  repeat w_go ak.on
  refine iA Y hF λo n y B j X I z hF=>?_;replace hd:=(vN (c:=c) (l:=⟨.own,true,0,f+9,.work (.half T (.slice s (c.rows T) aW)) q⟩) Y I).trans ((vN (c:=c) (l:=⟨.own,true,0,f+9,.work (.half T (.slice s (c.rows T) aW)) q⟩) Y B).trans hd);clear B I n;have t:j.cell? (.a c.st 5)=some (.I (d.M:Int)):=by rw[Kc z.mt.1 3];subst hd;simp[ir.of]
  obtain⟨J,EY,z3⟩:∃J:Nat,IntKind.wrap .i64 ((d.M:Int)+(c.rows T:Int))=(J:Int)/\rP (J=d.M+c.rows T):=by have h1:=apB z.sees mf Y;have h2:=ok.pD;refine⟨d.M+c.rows T,?_,Y⟩;subst hd;simp only[ir.of];rw[veh];omega
  refine abf (k:=3) Y Y ((vbd (v:=.I (d.M:Int)) Y Y An Ak).trans (vcd (λes=>GStep.go _ _ es) (by simp[listed,go_sem,t];rfl))) Y ?_;clear t z;refine bf (bW c) ?_;walk_nrm
  repeat w_go ak.on
  refine iA Y hF λo n y B j X I z hF=>?_;replace hd:=(vN (c:=c) (l:=⟨.own,true,0,f+9,.work (.half T (.slice s (c.rows T) aW)) q⟩) Y I).trans ((vN (c:=c) (l:=⟨.own,true,0,f+9,.work (.half T (.slice s (c.rows T) aW)) q⟩) Y B).trans hd);clear B I n;have t:j.cell? (.a c.st 5)=some (.I (d.M:Int)):=by rw[Kc z.mt.1 3];subst hd;simp[ir.of]
  have Q:j.frozen? ⟨c.st,5,none⟩=false:=by simp[World.frozen?,z.mt.1,iq]
  refine apm (f1:=f+8) (p:=T) (v:=.slice s (c.rows T) aW) (q:=q) (u:=.I (J:Int)) z ((vek Y Y An Ak).trans (vcd (λes=>GStep.go _ _ es) (by simp[listed,go_sem,t,Q];rfl))) Y mf (by rw[rP.out z3];subst hd;rfl) Y Y Y AA ?_;have H:=hF.shared (k:=c.st) (off:=5) (sp:=none) Jv (.I (J:Int));clear hF;have hF:=H;clear H t Q z hd EY;dsimp only;generalize j.setCell ⟨c.st,5,none⟩ (.I (J:Int))=w4 at hF⊢;refine bf (bW c) ?_;walk_nrm
  repeat w_go ak.on
  u_in ak.on hF
  rw[vep Y func89 Ky Y];simp only[goes_go];refine⟨DN,?_⟩;walk_nrmf f89
  have O:∀b,(ay c).K b\/cv mine [(b0,.cells #[.I (T:Int),.I F,.I E] 185)] b->b≠(ay c).st:=λb P e=>hF.fA b P (.inl e);refine vaj (λr N=>⟨Y,λR KM=>U_ (A:=ay c) (f:=f) (bW c) (a:=.work .free ((T,.slice s (c.rows T) aW)::q)) Ke ok.most O Y Y (λK z0 L=>?_) r R (ai.refl _ _ _)⟩);replace hF:=(hF.on N).on L;clear N L O;refine bf (bW c) ?_;u_in ak.on hF
  refine goes_leave0 Y Y (by first|exact func109|exact func130) Y ⟨DN,?_⟩;refine vaj (λo n=>⟨Y,λy B=>?_⟩);replace hF:=hF.on n;exact bc.more hS (fY o y hF.rw) (λb P=>.inl P)
end
end
end fH
namespace iu
open Conc RowKit Conc.Lib ConcR.Gen ConcM av bj ah eK hO fH
section
section
variable{c:dU}{Stop:Bool->ah.Lo At->a0->Prop}{S af jc:Nat}{fX ie:Value}{j4:uak}{ox cJ:uaf}
def ak.Vy{Z M w1 w}(h:ak Z M w1 [] w1)(r:ai Z M w1 w):ak Z M w1 [] w:=h.on (by rw[js];exact r)
def atv i(ok:wB c S af jc)(n:c.C=31)(k:∀m l g w M M',(∀b,M b->M' b)->Stop m l ⟨g,w,M⟩->Stop m l ⟨g,w,M'⟩){f}q M w1(d:ak (ao (ay c)) M w1 [] w1):
 iU prog Stop false (a_ i 81 115) #[.P c.st 0] (gg c ⟨.idle,false,0,f+15,.work .free q⟩ M w1)
  (λu e=>(u=.tuple #[.agg #[.I 0,.I 0,.I 0],.F]/\e=xN c ⟨.idle,false,0,f+1,.work .free q⟩ M w1)\/∃T,T<c.N/\u=.tuple #[Vn S af T,.T]/\e=gg c ⟨.idle,false,0,f+31,.work (.has T) q⟩ M w1):=by
 intro a2 aI aC aL aO aK csZ hK w γ j;have hk:ak (ao (ay c)) M w1 [] w:=j;unfold gg;have h:=asO i (a2:=a2) (aI:=aI) (aC:=aC) (aL:=aL) (aO:=aO) (aK:=aK) (csZ:=csZ) ok (f:=f) (p:=q) (w0:=w1) k
  (λw' a r a5=>hK _ (xN c ⟨.idle,false,0,f+1,.work .free q⟩ M w1) AA w' a ⟨ak.Vy d r,a5⟩)
  (λw' a T r o=>by rw[n];exact hK _ (gg c ⟨.idle,false,0,f+31,.work (.has T) q⟩ M w1) AA w' a (ak.Vy d r)) w γ hk
 rw[js]at h;cases i<;>(first|rw[vcj _ func81 Y]|rw[vcj _ func115 Y])<;>exact h
def atw(i:Bool)(ok:wB c S af jc){T:Nat}(mf:c.cq T=false)(e:∀m l g w M M',(∀b,M b->M' b)->Stop m l ⟨g,w,M⟩->Stop m l ⟨g,w,M'⟩){f:Nat}{F E:Int}{q:uad}(s:uag)(aW:Nat)(M:dL)(w1:aR)(a:ak (ao (ay c)) M w1 [] w1):
 iU prog Stop false (a_ i 109 130) #[.P c.st 0,.agg #[.I (T:Int),.I F,.I E],.slice s (c.rows T) aW] (gg c ⟨.idle,false,0,f+16,.work (.has T) q⟩ M w1)
  (λu j=>u=.tuple #[]/\j=gg c ⟨.idle,false,0,f,.work .free ((T,.slice s (c.rows T) aW)::q)⟩ M w1):=by
 intro a2 aI aC aL aO aK csZ hK w γ d;have hk:ak (ao (ay c)) M w1 [] w:=d;unfold gg;have h:=atu i (a2:=a2) (aI:=aI) (aC:=aC) (aL:=aL) (aO:=aO) (aK:=aK) (csZ:=csZ) ok (f:=f) (q:=q) (T:=T) mf (s:=s) (aW:=aW) (F:=F) (E:=E) (w0:=w1) e
  (λw' k r=>hK _ (gg c ⟨.idle,false,0,f,.work .free ((T,.slice s (c.rows T) aW)::q)⟩ M w1) ⟨Y,Y⟩ w' k (ak.Vy a r)) w γ hk
 rw[js]at h;cases i<;>(first|rw[vcj _ func109 Y]|rw[vcj _ func130 Y])<;>exact h
def atx i(ok:wB c S af jc)(k:i=true->∀T,c.cq T=false)(h:c.C=31)(d:∀m l g w M M',(∀b,M b->M' b)->Stop m l ⟨g,w,M⟩->Stop m l ⟨g,w,M'⟩){cH}(J:uK c cH prog Stop (a_ i 110 131) fX j4 ie (λT=>T*af) (λT=>min (T*af+af) S) ox cJ){f M w0}(hI:qA c cH w0):
 iU prog Stop false (a_ i 51 93) #[.P c.st 0,fX] (gg c ⟨.idle,false,0,f+15,.work .free []⟩ M w0) (λu j=>u=.tuple #[]/\∃q M' w1,jf (ao (ay c)) M w0 M' w1/\kX c cJ q M' w1/\j=xN c ⟨.idle,false,0,f+1,.work .free q⟩ M' w1):=
 att i (fr:=λT=>T*af) (aT:=λT=>min (T*af+af) S) hI J.mono (atv i ok h d) (λq T n w1 e a=>atp i J (f:=f+15) e a (λs aW M' w1 hk=>atw i ok (J.uL T) d s aW M' w1 hk))
end
end
def E7(n:Nat):Frame:={(default:Frame)with fn:=n,defers:=[],mode:=.panicking [goexitEntry]}
theorem atK:f50.nn=false:=AB
def atL{P:cE}{f:uak}{fn:Func}{c:Code}(a:P.funcs[f]?=some fn)(d:(fn.name== "runtime.NumGoroutine")=false)(b:fn.body=some c)(cap:dX)(w:aR):stepG P false (born P (tF f cap)) w=
 .go (Conc.G ((baseD f).at {tmps:=cap++Array.replicate (fn.ntmps-cap.size) undef,defers:=[]} [.code c]) [E7 P.funcs.size]) w #[]:=by
 have hn:¬fn.name= "runtime.NumGoroutine" :=AA;rw[<-enter_atD cap a b];simp[born,tF,stepG,unwind,callDeferred,invoke,callFunc,a,hn,b,GStep.after,Conc.G,E7,vdy]
def atM{F:uak}{fn:Func}(b:prog.funcs[F]?=some fn)(a:fn.results=#[])(T:dX):QuitsD prog 2 0 (Conc.G {(baseD F).at ⟨T,[]⟩ []with mode:=.returning} [E7 prog.funcs.size]):=by
 refine QuitsD.ctl (g':=Conc.G (E7 prog.funcs.size) []) Y (λw=>?_) ?_
 .simp[Conc.G,stepG,unwind,doReturn,results,Frame.at,baseD,E7,b,a,seen,GStep.after,goexitEntry]
 refine QuitsD.ctl (g':={Conc.G (E7 prog.funcs.size) []with status:=.finished}) Y (λw=>?_) ⟨Y,Y⟩;simp[Conc.G,stepG,unwind,E7,goexitEntry,Frame.catches];rfl
section
variable{c:dU}{Stop:Bool->ah.Lo At->a0->Prop}{S af jc:Nat}{fX ie:Value}{j4:uak}{ox cJ:uaf}
def atN(i:Bool)(ok:wB c S af jc)(eG:i=true->∀T,c.cq T=false)(Z:c.C=31)(X:∀m l g w M M',(∀b,M b->M' b)->Stop m l ⟨g,w,M⟩->Stop m l ⟨g,w,M'⟩){cH:aR}(J:uK c cH prog Stop (a_ i 110 131) fX j4 ie (λT=>T*af) (λT=>min (T*af+af) S) ox cJ)(L:∀q M f' g w,kX c cJ q M w->(∃n,QuitsD prog n 1 g)->Stop false ⟨.idle,false,1,f',.gone q⟩ ⟨g,w,M⟩){f A y:Nat}(KS:c.K A)(VE:c.K y)(VF:∃t v,fX=.iface t v){M:dL}{w0:aR}(hI:qA c cH w0)(eC:w0.heap[A]?=some (.cells #[.P c.st 0] (a_ i 124 195)))(Da:w0.heap[y]?=some (.cells #[fX] (a_ i 123 194)))(w:aR)(γ:ah.aQ cO)(hk:ak (ao (ay c)) M w0 [] w):
 bc (ao (ay c)) prog Stop false ⟨.idle,false,0,f+19,.work .free []⟩ γ ⟨born prog (tF (a_ i 49 92) #[.P c.wg 0,.P A 0,.P y 0]),w,M⟩:=by
 cases i<;>dsimp only[a_]
 all_goals
  have hF:=hk;obtain⟨jt,F,rfl⟩:=VF;refine bc.mk Y (λa H p k=>?_);replace hF:=ak.rel hF k;refine TS AA (atL (by first|exact func49|exact func92) AB Y _ a) Y Y ?_;clear k p hk;rw[<-js (M:=M)];refine bf (bW c) ?_;simp only[a_,f49,f92];walk_nrm
  repeat w_go ak.on
  u_defer ak.on hF
  repeat w_go ak.on
  refine iA Y hF λj d P B a H p k hF=>?_;have x:a.cell? (.a A 0)=some (.P c.st 0):=by simp[World.cell?,(hF.rw.heap A (.inl KS)).trans eC]
  refine tA AA Y (λb o=>hF.fA b (.inr o)) (vbd (v:=.P c.st 0) Y Y An Ak) Y (λe C=>?_) ?_
  .have z:=vbt C;simp[go_sem,x]at z;subst z;exact⟨Y,AA⟩
  clear x k p B d;refine bf (bW c) ?_;walk_nrm
  repeat w_go ak.on
  refine iA Y hF λj d P B a H p k hF=>?_;have x:a.cell? (.a y 0)=some (.iface jt F):=by simp[World.cell?,(hF.rw.heap y (.inl VE)).trans Da]
  refine tA AA Y (λb o=>hF.fA b (.inr o)) (vbd (v:=.iface jt F) Y Y An Ak) Y (λe C=>?_) ?_
  .have z:=vbt C;simp[go_sem,x]at z;subst z;exact⟨Y,AA⟩
  clear x k p B d;refine bf (bW c) ?_;walk_nrm
  repeat w_go ak.on
  refine iA Y hF λj d P B a H p k hF=>?_;have E:=ak.sD hF;rw[js]at E;rw[js];refine NW (σ:=gg c ⟨.idle,false,0,f+4+15,.work .free []⟩ M a) AA Y Y An (sE (vs:=#[.P c.st 0,.iface jt F]) Y Gz AB Y Cv a) (atx _ ok eG Z X J (hI.br hF)) E ?_;clear k p B d E hF;rintro u _ ⟨rfl,q,M',w1,pp,U,rfl⟩ O eV ⟨hF,a5⟩;simp only[xN];rw[<-js (M:=M')];refine bf (bW c) ?_;walk_nrm
  repeat w_go ak.on
  u_in ak.on hF
  rw[vep Y func50 atK Y];simp only[goes_go];refine⟨DN,?_⟩;walk_nrmf f50
  have W:∀b,c.K b\/cv M' [] b->b≠c.wg:=λb o e=>hF.fA b o (.inr (.inl e));refine vaj (λs V=>⟨Y,λoC KM=>?_⟩);replace hF:=hF.on V;replace a5:=vad a5 (vR (c:=c) (l:=⟨.idle,false,0,f+4+1,.work .free q⟩) KM);refine bc.seen (dE (bW c)) Y λN K Q=>?_;replace a5:=vad a5 (vR (c:=c) (l:=⟨.idle,false,0,f+4+1,.work .free q⟩) K);have I:N.am.taken=c.N:=by obtain⟨xs,cT,vS,R⟩:=vM Q;have:=R.aX;omega
  refine tS.atI (f:=f) ok.most W Y (atM (by first|exact func49|exact func92) Ao _) (λf' g w' r hq=>?_) s N (ai.refl _ _ _) I;have D:=hF.on r;rw[js]at r⊢;exact L q M' f' g w' (U.same J.mono (λb o=>(D.rw.heap b o)) (λ_ h=>h)) hq
