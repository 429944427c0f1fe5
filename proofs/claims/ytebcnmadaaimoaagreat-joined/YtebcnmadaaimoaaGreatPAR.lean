import Derived.Test.YtebcnmadaaimoaaGreatPAM
import Derived.Test.YtebcnmadaaimoaaGreatPAN
import Derived.Test.YtebcnmadaaimoaaGreatPAO
import Derived.Test.YtebcnmadaaimoaaGreatPAP
import Derived.Test.YtebcnmadaaimoaaGreatPAQ
set_option linter.all false
set_option maxRecDepth 100000
set_option maxHeartbeats 16000000
namespace Go.Proofs.YtebcnmadaaimoaaGreat
open Go.Proofs.Tryz
namespace gi
open Conc RowKit Conc.Lib ConcR.Gen ConcM az bo ag ft ix bR
theorem Bh:(f89.name== "runtime.NumGoroutine")=false:=by kernel_rfl
structure uy(c:dy)(S am hE:Nat):Prop where
 size:c.size=.I (S:Int)
 AJ:c.AJ=.I (am:Int)
 ym:c.ym=.S c.cP 0 c.N hE
 oH:ju c.rows c.N<=1000000
 room:(c.N+1)*am+S<4611686018427387904
 most:c.most<=250
 small:c.N<4611686018427387904
section
variable{c:dy}{Stop:Bool->ag.Lo At->aX->Prop}{mine:c7}{S am hE:Nat}
variable{a2:Frame}{aF:Act}{aC:du}{aJ:Nat}{aO:e8}{aH:fC}{csZ:dZ}
def asE(ok:uy c S am hE){T:Nat}(h:T<c.N):(T:Int)*(am:Int)=((T*am:Nat):Int)/\T*am+am+S<4611686018427387904:=by refine⟨AF,?_⟩;have b:(T+1)*am<=(c.N+1)*am:=Nat.mul_le_mul_right _ AX;have a:=ok.room;grind
def asF(ok:uy c S am hE){T:Nat}(h:T<c.N):∃F a E:Nat,(T:Int)*(am:Int)=(F:Int)/\IntKind.wrap .i64 (F:Int)=(F:Int)/\IntKind.wrap .i64 ((F:Int)+(am:Int))=(a:Int)/\(if S<a then(S:Int)else(a:Int))=(E:Int)/\rk (F=T*am/\E=min (T*am+am) S):=by
 obtain⟨b,d⟩:=asE ok h;refine⟨T*am,T*am+am,min (T*am+am) S,b,?_,?_,?_,U,U⟩
 .rw[IntKind.wrap_i64];omega
 .rw[IntKind.wrap_i64];omega
 grind
def asG(ok:uy c S am hE){T:Nat}(h:T<c.N):IntKind.wrap .i64 ((T:Int)+1)=((T+1:Nat):Int):=by have:=ok.small;rw[IntKind.wrap_i64];omega
def Ue(S am T:Nat):Value:=.agg #[.I (T:Int),.I ((T*am:Nat):Int),.I ((min (T*am+am) S:Nat):Int)]
def Uf(aF:Act)(aC:du)(aJ:Nat)(v:Value):Act:=aF.put ((aC[aJ]?).bind (·.dst)) v
def asH(ok:uy c S am hE){f:Nat}{p:uac}{w0:aL}(hS:∀m l g w M M',(∀b,M b->M' b)->Stop m l ⟨g,w,M⟩->Stop m l ⟨g,w,M'⟩)(a4:∀w' ai,ak (al (av c)) mine w0 w'->oG c.N ai.aj->bg (al (av c)) prog Stop false ⟨.idle,false,0,f+1,.work .free p⟩ ai ⟨Conc.G (a2.at (Uf aF aC aJ (.tuple #[.agg #[.I 0,.I 0,.I 0],.F])) (.inRegion aC aO::aH)) csZ,w',mine⟩)(fH:∀w' ai T,ak (al (av c)) mine w0 w'->T<c.N->bg (al (av c)) prog Stop false ⟨.idle,false,0,f+c.C,.work (.has T) p⟩ ai ⟨Conc.G (a2.at (Uf aF aC aJ (.tuple #[Ue S am T,.T])) (.inRegion aC aO::aH)) csZ,w',mine⟩)(w:aL)(γ:ag.aN ck)(hk:af (al (av c)) mine w0 [] w):
 bg (al (av c)) prog Stop false ⟨.idle,false,0,f+15,.work .free p⟩ γ ⟨Conc.G ((base 81).at ⟨#[.P c.st 0]++Array.replicate 64 undef,[]⟩ [.code (f81.body.getD .skip)]) (a2.at aF (.inRegion aC (aJ::aO)::aH)::csZ),w,cj mine []⟩:=by
 have hF:=hk;have kg:=(dk (bD c)).nb;have X:prog.follows .mixedOrders=true:=Ao;refine a9 (bD c) ?_;simp only[f81,vae];walk_nrm
 repeat w_go af.on
 refine fN rfl hF λo j J s n N B y hF=>?_;refine tX AF kg rfl hF (vay (v:=.P n.heap.size 0) (w':=n.alloc (Obj.cells #[Value.I 0,Value.I 0,Value.I 0] 184)) rfl rfl Ap Ar) rfl BB (λr=>?_);clear hF;have hF:=r;clear r y B s j;generalize n.heap.size=b0 at hF⊢;generalize n.alloc (Obj.cells #[Value.I 0,Value.I 0,Value.I 0] 184)=w3 at hF⊢;refine a9 (bD c) ?_;walk_nrm
 repeat w_go af.on
 u_call func88 N8 f88 af.on hF
 have R:∀b,(av c).K b\/cj mine [(b0,Obj.cells #[Value.I 0,Value.I 0,Value.I 0] 184)] b->b≠(av c).st:=λb H e=>hF.eV b H (.inl e);refine vah (λz U=>⟨rfl,λW _=>Uc (f:=f+9) (bD c) (a:=.work .free p) K8 ok.most R (λP uw Q=>?_) z W (ak.refl _ _ _)⟩);replace hF:=(hF.on U).on Q;clear U Q R;refine a9 (bD c) ?_;walk_nrm
 repeat w_go af.on
 u_defer af.on hF
 repeat w_go af.on
 refine vah (λo j=>⟨rfl,λJ s=>?_⟩);replace hF:=hF.on j;clear j s;refine bg.seen (dk (bD c)) rfl λJ _ lN=>?_;obtain⟨xs,dQ,qU,iw⟩:=vh lN;obtain⟨d,hd⟩:∃d,gU.of J.aj=d:=⟨_,rfl⟩;have Oj:d.T<=c.N:=by subst hd;exact iw.aU
 clear qU iw lN;by_cases hT:d.T=c.N\/300<d.M
 .skip
  refine AH (Z:=al (av c)) (C:=CH c mine w0 (d) ⟨.own,true,0,f+9,.work .free p⟩) AF Ap X LB Jh (σ:=mN c mine w0 (d) ⟨.own,true,0,f+9,.work .free p⟩ [(b0,Obj.cells #[Value.I 0,Value.I 0,Value.I 0] 184)]) (iy:=rY prog Stop false _ _ _ _ []) Kt ⟨_,rfl⟩ ?_ _ J ⟨hF,hd⟩;walk_nrm
  refine ei 0 (.P c.st 0) ?_;walk_nrm
  refine ei 1 (.P c.st 0) ?_;walk_nrm
  refine ei 2 (.P c.st 4) ?_;walk_nrm
  refine iR (i:=3) (v:=.I (d.T:Int)) LB rfl AQ AQ AQ (t7 rfl rfl rfl 2 rfl (λx D=>by grind[gU.of]) (λw q=>⟨Ar,Bw⟩)) ⟨_,rfl⟩ ?_;walk_nrm
  refine ei 4 (.P c.st 0) ?_;walk_nrm
  refine ei 5 (.P c.st 0) ?_;walk_nrm
  refine ei 6 (.P c.st 6) ?_;walk_nrm
  refine iR (i:=7) (v:=.S c.cP 0 c.N hE) LB rfl AQ AQ AQ (t7 rfl rfl rfl 4 rfl (λx D=>by subst D;simp[ok.ym]) (λw q=>⟨Ar,Bw⟩)) ⟨_,rfl⟩ ?_;walk_nrm
  refine ei 8 (.I (c.N:Int)) ?_;walk_nrm
  by_cases asI:d.T=c.N;case' pos=>
   refine ei 9 (.T) ?_;walk_nrm
   refine ei 10 (.T) ?_;walk_nrm
   refine iR (i:=11) (v:=undef) LB rfl AQ AQ AQ (Ji rfl) ⟨_,rfl⟩ ?_;walk_nrm
   refine iR (i:=12) (v:=undef) LB rfl AQ AQ AQ (Ji rfl) ⟨_,rfl⟩ ?_;walk_nrm
   refine iR (i:=13) (v:=undef) LB rfl AQ AQ AQ (Ji rfl) ⟨_,rfl⟩ ?_;walk_nrm
   refine iR (i:=14) (v:=undef) LB rfl AQ AQ AQ (Ji rfl) ⟨_,rfl⟩ ?_;walk_nrm
   refine iR (i:=15) (v:=undef) LB rfl AQ AQ AQ (Ji rfl) ⟨_,rfl⟩ ?_;walk_nrm
   refine ei 16 (.T) ?_;walk_nrm
   refine yi AQ ?_ _
  case' neg=>
   have V:((d.T:Int)==(c.N:Int))=false:=AF;have tI:decide ((300:Int)<(d.M:Int))=true:=AF;refine ei 9 (.F) ?_;walk_nrm
   refine ei 10 (.F) ?_;walk_nrm
   refine ei 11 (.P c.st 0) ?_;walk_nrm
   refine ei 12 (.P c.st 0) ?_;walk_nrm
   refine ei 13 (.P c.st 5) ?_;walk_nrm
   refine iR (i:=14) (v:=.I (d.M:Int)) LB rfl AQ AQ AQ (t7 rfl rfl rfl 3 rfl (λx D=>by grind[gU.of]) (λw q=>⟨Ar,Bw⟩)) ⟨_,rfl⟩ ?_;walk_nrm
   refine ei 15 (.T) ?_;walk_nrm
   refine ei 16 (.T) ?_;walk_nrm
   refine yi AQ ?_ _;clear V tI
  all_goals
   rintro o Y ⟨r,K⟩;clear hd;have hd:=K;clear K;clear hF;have hF:=r;clear r;simp[mN];have eB:F7 c ⟨.own,true,0,f+9,.work .free p⟩ Y:=⟨λh=>h,by have e:=vbx gU.T hd;have e2:=vbx gU.M hd;simp only[gU.of]at e e2;exact hT.imp (λx=>AX) λx=>AX⟩;clear hd Oj hT asI;refine a9 (bD c) ?_;walk_nrm
   repeat w_go af.on
   refine fN rfl hF λo j J s n N B y hF=>?_;replace eB:=M0 _ _ _ (M0 _ _ _ eB s) B;have u:=hF.cW (b0,.cells #[.I 0,.I 0,.I 0] 184) Ab;refine CJ AF rfl (pre:=[]) (post:=[]) hF (vdj (w':=n.setRow b0 #[.I 0,.I 0,.I 0]) rfl rfl Ap (ql u ⟨rfl,rfl,rfl⟩ rfl rfl rfl).1) rfl (λe L=>?_) (λr=>?_)
   .have I:=vbs L;rw[(ql u ⟨rfl,rfl,rfl⟩ rfl rfl rfl).2]at I;grind
   clear hF;have hF:=r;clear r u;clear y B s j;refine a9 (bD c) ?_;walk_nrm
   repeat w_go af.on
   u_in af.on hF
   rw[vck rfl func89 Bh rfl];simp only[veg];refine⟨CM,?_⟩;walk_nrmf f89
   have R:∀b,c.K b\/cj mine [(b0,Obj.cells #[Value.I 0,Value.I 0,Value.I 0] 184)] b->b≠c.st:=λb H e=>hF.eV b H (.inl e);refine vah (λz U=>⟨rfl,λW v8=>ar8 (f:=f+1) ok.most R rfl rfl (λP uw Q asJ=>?_) z W (ak.refl _ _ _) (M0 _ _ _ eB v8).2⟩);replace hF:=(hF.on U).on Q;clear U Q R eB;refine bg.mk rfl (λn N B y=>?_);replace hF:=hF.on (dP.rw y);have u:=hF.cW (b0,.cells #[.I 0,.I 0,.I 0] 184) Ab;refine sY AF rfl (λb H=>hF.eV b (.inr H)) (Ze rfl rfl func81 (Oe (t:=.F) u rfl rfl).1 (Oe (t:=.F) u rfl rfl).2) rfl (λe L=>?_) ?_
   .have I:=az.xY L;simp at I;rcases I with rfl|rfl|rfl<;>exact⟨rfl,.inr (.inr Ab)⟩
   rw[vct];exact bg.more hS (a4 n N hF.rw (r4 asJ (t_ B))) (λb H=>.inl H)
 .skip
  have O:d.T<c.N:=AX;have V:((d.T:Int)==(c.N:Int))=false:=AF;have tI:decide ((300:Int)<(d.M:Int))=false:=AF;obtain⟨F,Kn,E,hmul,asK,asL,asM,asN⟩:=asF ok O;refine AH (Z:=al (av c)) (C:=CH c mine w0 (d) ⟨.own,true,0,f+9,.work .free p⟩) AF Ap X LB Jh (σ:=mN c mine w0 (d) ⟨.own,true,0,f+9,.work .free p⟩ [(b0,Obj.cells #[Value.I 0,Value.I 0,Value.I 0] 184)]) (iy:=rY prog Stop false _ _ _ _ []) Kt ⟨_,rfl⟩ ?_ _ J ⟨hF,hd⟩;walk_nrm
  refine ei 0 (.P c.st 0) ?_;walk_nrm
  refine ei 1 (.P c.st 0) ?_;walk_nrm
  refine ei 2 (.P c.st 4) ?_;walk_nrm
  refine iR (i:=3) (v:=.I (d.T:Int)) LB rfl AQ AQ AQ (t7 rfl rfl rfl 2 rfl (λx D=>by grind[gU.of]) (λw q=>⟨Ar,Bw⟩)) ⟨_,rfl⟩ ?_;walk_nrm
  refine ei 4 (.P c.st 0) ?_;walk_nrm
  refine ei 5 (.P c.st 0) ?_;walk_nrm
  refine ei 6 (.P c.st 6) ?_;walk_nrm
  refine iR (i:=7) (v:=.S c.cP 0 c.N hE) LB rfl AQ AQ AQ (t7 rfl rfl rfl 4 rfl (λx D=>by subst D;simp[ok.ym]) (λw q=>⟨Ar,Bw⟩)) ⟨_,rfl⟩ ?_;walk_nrm
  refine ei 8 (.I (c.N:Int)) ?_;walk_nrm
  refine ei 9 (.F) ?_;walk_nrm
  refine ei 10 (.F) ?_;walk_nrm
  refine ei 11 (.P c.st 0) ?_;walk_nrm
  refine ei 12 (.P c.st 0) ?_;walk_nrm
  refine ei 13 (.P c.st 5) ?_;walk_nrm
  refine iR (i:=14) (v:=.I (d.M:Int)) LB rfl AQ AQ AQ (t7 rfl rfl rfl 3 rfl (λx D=>by grind[gU.of]) (λw q=>⟨Ar,Bw⟩)) ⟨_,rfl⟩ ?_;walk_nrm
  refine ei 15 (.F) ?_;walk_nrm
  refine ei 16 (.F) ?_;walk_nrm
  refine yi AQ ?_ _;rintro o Y ⟨r,K⟩;clear hd;have hd:=K;clear K;clear hF;have hF:=r;clear r;simp[mN];clear hT Oj V tI;refine a9 (bD c) ?_;walk_nrm
  repeat w_go af.on
  refine vah (λo j=>⟨rfl,λJ s=>?_⟩);replace hF:=hF.on j;replace hd:=(t2 (c:=c) (l:=⟨.own,true,0,f+9,.work .free p⟩) rfl s).trans hd;clear j s;refine AH (Z:=al (av c)) (C:=CH c mine w0 (d) ⟨.own,true,0,f+9,.work .free p⟩) AF Ap X LB Jh (σ:=mN c mine w0 (d) ⟨.own,true,0,f+9,.work .free p⟩ [(b0,Obj.cells #[Value.I 0,Value.I 0,Value.I 0] 184)]) (iy:=rY prog Stop false _ _ _ _ []) Kt ⟨_,rfl⟩ ?_ _ J ⟨hF,hd⟩;walk_nrm
  refine ei 0 (.P c.st 0) ?_;walk_nrm
  refine ei 1 (.P c.st 0) ?_;walk_nrm
  refine ei 2 (.P c.st 4) ?_;walk_nrm
  refine iR (i:=3) (v:=.I (d.T:Int)) LB rfl AQ AQ AQ (t7 rfl rfl rfl 2 rfl (λx D=>by grind[gU.of]) (λw q=>⟨Ar,Bw⟩)) ⟨_,rfl⟩ ?_;walk_nrm
  refine ei 4 (.P c.st 0) ?_;walk_nrm
  refine ei 5 (.P c.st 0) ?_;walk_nrm
  refine ei 6 (.P c.st 3) ?_;walk_nrm
  refine iR (i:=7) (v:=.I (am:Int)) LB rfl AQ AQ AQ (t7 rfl rfl rfl 1 rfl (λx D=>by subst D;simp[ok.AJ]) (λw q=>⟨Ar,Bw⟩)) ⟨_,rfl⟩ ?_;walk_nrm
  refine ei 8 (.I (F:Int)) ?_;walk_nrm
  refine ei 9 (.I (F:Int)) ?_;walk_nrm
  refine yi AQ ?_ _;rintro o Y ⟨r,K⟩;clear hd;have hd:=K;clear K;clear hF;have hF:=r;clear r;simp[mN];refine a9 (bD c) ?_;walk_nrm
  repeat w_go af.on
  refine vah (λo j=>⟨rfl,λJ s=>?_⟩);replace hF:=hF.on j;replace hd:=(t2 (c:=c) (l:=⟨.own,true,0,f+9,.work .free p⟩) rfl s).trans hd;clear j s;refine AH (Z:=al (av c)) (C:=CH c mine w0 (d) ⟨.own,true,0,f+9,.work .free p⟩) AF Ap X LB Jh (σ:=mN c mine w0 (d) ⟨.own,true,0,f+9,.work .free p⟩ [(b0,Obj.cells #[Value.I 0,Value.I 0,Value.I 0] 184)]) (iy:=rY prog Stop false _ _ _ _ []) Kt ⟨_,rfl⟩ ?_ _ J ⟨hF,hd⟩;walk_nrm
  refine ei 0 (.P c.st 0) ?_;walk_nrm
  refine ei 1 (.P c.st 0) ?_;walk_nrm
  refine ei 2 (.P c.st 4) ?_;walk_nrm
  refine iR (i:=3) (v:=.I (d.T:Int)) LB rfl AQ AQ AQ (t7 rfl rfl rfl 2 rfl (λx D=>by grind[gU.of]) (λw q=>⟨Ar,Bw⟩)) ⟨_,rfl⟩ ?_;walk_nrm
  refine ei 4 (.I (F:Int)) ?_;walk_nrm
  refine ei 5 (.I (F:Int)) ?_;walk_nrm
  refine ei 6 (.P c.st 0) ?_;walk_nrm
  refine ei 7 (.P c.st 0) ?_;walk_nrm
  refine ei 8 (.P c.st 3) ?_;walk_nrm
  refine iR (i:=9) (v:=.I (am:Int)) LB rfl AQ AQ AQ (t7 rfl rfl rfl 1 rfl (λx D=>by subst D;simp[ok.AJ]) (λw q=>⟨Ar,Bw⟩)) ⟨_,rfl⟩ ?_;walk_nrm
  refine ei 10 (.I (Kn:Int)) ?_;walk_nrm
  refine ei 11 (.P c.st 0) ?_;walk_nrm
  refine ei 12 (.P c.st 0) ?_;walk_nrm
  refine ei 13 (.P c.st 2) ?_;walk_nrm
  refine iR (i:=14) (v:=.I (S:Int)) LB rfl AQ AQ AQ (t7 rfl rfl rfl 0 rfl (λx D=>by subst D;simp[ok.size]) (λw q=>⟨Ar,Bw⟩)) ⟨_,rfl⟩ ?_;walk_nrm
  refine ei 15 (.I (E:Int)) ?_;walk_nrm
  refine iR (i:=16) (v:=.agg #[.I (d.T:Int),.I (F:Int),.I (E:Int)]) LB rfl AQ AQ AQ (AN rfl (λ_=>(PK rfl rfl rfl rfl).1) (λw=>by unfold listed;rw[(PK rfl rfl rfl rfl).2];rfl)) ⟨_,rfl⟩ ?_;walk_nrm
  refine qT (i:=17) AQ (yo rfl rfl (amZ (ob:=Obj.cells #[Value.I 0,Value.I 0,Value.I 0] 184) rfl (λw=>⟨Ar,BB⟩) (λbt=>⟨⟨_,rfl⟩,?_⟩)));walk_nrm
  refine qT (i:=18) AQ (yo rfl rfl (am0 rfl rfl (pre:=[]) (new:=#[.I (d.T:Int),.I (F:Int),.I (E:Int)]) (λw u=>⟨(ql u ⟨rfl,rfl,rfl⟩ rfl rfl rfl).1,λe L=>?_⟩) ⟨⟨_,rfl⟩,?_⟩))
  .have I:=vbs L;rw[(ql u ⟨rfl,rfl,rfl⟩ rfl rfl rfl).2]at I;grind
  walk_nrm
  refine yi AQ ?_ _;rintro o Y ⟨r,K⟩;clear hF hd;have hF:=r;have hd:=K;clear r K;simp[mN]at hF⊢;refine a9 (bD c) ?_;walk_nrm
  repeat w_go af.on
  refine fN rfl hF λo j J s n N B y hF=>?_;replace hd:=(t2 (c:=c) (l:=⟨.own,true,0,f+9,.work .free p⟩) rfl B).trans ((t2 (c:=c) (l:=⟨.own,true,0,f+9,.work .free p⟩) rfl s).trans hd);clear s B j;have q:n.cell? (.a c.st 4)=some (.I (d.T:Int)):=by rw[AO y.mt.1 2];subst hd;simp[gU.of]
  refine Jj (k:=2) rfl rfl ((vay (v:=.I (d.T:Int)) rfl rfl Ap Ar).trans (vbx (λes=>GStep.go _ _ es) Bw)) rfl ?_;clear q y;have asO:IntKind.wrap .i64 ((d.T:Int)+1)=((d.T+1:Nat):Int):=asG ok O;refine a9 (bD c) ?_;walk_nrm
  repeat w_go af.on
  refine fN rfl hF λo j J s n N B y hF=>?_;replace hd:=(t2 (c:=c) (l:=⟨.own,true,0,f+9,.work .free p⟩) rfl B).trans ((t2 (c:=c) (l:=⟨.own,true,0,f+9,.work .free p⟩) rfl s).trans hd);clear s B j;have q:n.cell? (.a c.st 4)=some (.I (d.T:Int)):=by rw[AO y.mt.1 2];subst hd;simp[gU.of]
  have nx:n.frozen? ⟨c.st,4,none⟩=false:=by simp[World.frozen?,y.mt.1,gS]
  refine amR (f1:=f+c.C+8) (v:=.I ((d.T+1:Nat):Int)) y ((vdj rfl rfl Ap Ar).trans (vbx (λes=>GStep.go _ _ es) (by simp[listed,go_sem,q,nx];rfl))) rfl (by subst hd;rfl) rfl rfl rfl (by subst hd;exact O) AF ?_;have e1:N.aj.taken=d.T:=by subst hd;rfl
  have r:=hF.shared (k:=c.st) (off:=4) (sp:=none) KB (.I ((d.T+1:Nat):Int));clear hF;have hF:=r;clear r q nx y;rw[e1];clear hd e1 asK asL asO hmul asM;dsimp only;generalize n.setCell ⟨c.st,4,none⟩ (.I ((d.T+1:Nat):Int))=w4 at hF⊢;refine a9 (bD c) ?_;walk_nrm
  repeat w_go af.on
  refine fN rfl hF λo j J s n N B y hF=>?_;have u:=hF.cW (bt,.cells #[.I (d.T:Int),.I (F:Int),.I (E:Int)] 184) Ab;refine sY AF rfl (λb H=>hF.eV b (.inr H)) (vay rfl rfl Ap (Bm u rfl rfl).1) rfl (λe L=>?_) ?_
  .have I:=vbs L;rw[(Bm u rfl rfl).2]at I;simp at I;rcases I with rfl|rfl|rfl<;>exact⟨rfl,.inr (.inr Ab)⟩
  clear u y B s j;refine a9 (bD c) ?_;walk_nrm
  repeat w_go af.on
  refine fN rfl hF λo j J s n N B y hF=>?_;have u:=hF.cW (b0,Obj.cells #[Value.I 0,Value.I 0,Value.I 0] 184) Ab;refine CJ AF rfl (pre:=[(bt,.cells #[.I (d.T:Int),.I (F:Int),.I (E:Int)] 184)]) (post:=[]) hF (vdj (w':=n.setRow b0 #[.I (d.T:Int),.I (F:Int),.I (E:Int)]) rfl rfl Ap (ql u ⟨rfl,rfl,rfl⟩ rfl rfl rfl).1) rfl (λe L=>?_) (λr=>?_)
  .have I:=vbs L;rw[(ql u ⟨rfl,rfl,rfl⟩ rfl rfl rfl).2]at I;grind
  clear hF;have hF:=r;clear r u y B s j;simp only[List.cons_append,vej]at hF⊢;refine a9 (bD c) ?_;walk_nrm
  repeat w_go af.on
  u_in af.on hF
  rw[vck rfl func89 Bh rfl];simp only[veg];refine⟨CM,?_⟩;walk_nrmf f89
  have R:∀b,(av c).K b\/cj mine [(bt,.cells #[.I (d.T:Int),.I (F:Int),.I (E:Int)] 184),(b0,.cells #[.I (d.T:Int),.I (F:Int),.I (E:Int)] 184)] b->b≠(av c).st:=λb H e=>hF.eV b H (.inl e);refine vah (λz U=>⟨rfl,λW v8=>T1 (A:=av c) (f:=f+c.C) (bD c) (a:=.work (.has d.T) p) K8 ok.most R rfl rfl (λP uw Q=>?_) z W (ak.refl _ _ _)⟩);replace hF:=(hF.on U).on Q;clear U Q R;refine bg.mk rfl (λn N B y=>?_);replace hF:=hF.on (dP.rw y);have u:=hF.cW (b0,.cells #[.I (d.T:Int),.I (F:Int),.I (E:Int)] 184) Ab;refine sY AF rfl (λb H=>hF.eV b (.inr H)) (Ze rfl rfl func81 (Oe (t:=.T) u rfl rfl).1 (Oe (t:=.T) u rfl rfl).2) rfl (λe L=>?_) ?_
  .have I:=az.xY L;simp at I;rcases I with rfl|rfl|rfl<;>exact⟨rfl,.inr (.inr Ab)⟩
  rw[vct];have fu:Ue S am d.T=.agg #[.I (d.T:Int),.I (F:Int),.I (E:Int)]:=by obtain⟨rfl,rfl⟩:=rk.out asN;rfl
  have iO:=fH n N d.T hF.rw O;rw[fu]at iO;exact bg.more hS iO (λb H=>.inl H)
end
end gi
namespace qj
open Conc RowKit Conc.Lib ConcR.Gen ConcM bo cF xo bR
theorem asP:(f53.name== "runtime.NumGoroutine")=false:=by kernel_rfl
theorem Rj:(f90.name== "runtime.NumGoroutine")=false:=by kernel_rfl
section
variable{Shun:uam}{Stop:uaw}
variable{a2:Frame}{aF:Act}{aC:du}{aJ:Nat}{aO:e8}{aH:fC}{csZ:dZ}
def Ug(Shun:uam)(Stop:uaw)(f:uaj)(args:df)(w:aL)(V:uab):Prop:=
 ∀(G0:Frame)(a₂:Act)(Et:du)(G1:Nat)(G2:e8)(k₂:fC)(G3:dZ),
  (∀u w',V u w'->eW prog Shun Stop 0 (Conc.G (G0.at (a₂.put ((Et[G1]?).bind (·.dst)) u) (.inRegion Et G2::k₂)) G3) w')->
  eW prog Shun Stop 0 (Conc.G (Frame.enter prog f args .normal) (G0.at a₂ (.inRegion Et (G1::G2)::k₂)::G3)) w
def asQ{st h dW wg W:Nat}{N dR eX P O fS fT fU fV fW fX S fY Z f2 Y X U T dI B nO z y:Value}{w:aL}{V:uab}(r:w.heap[st]?=some (Obj.cells #[.int .i32 0,.int .u32 0,dI,B,nO,z,y,.N] 169))(C:w.heap[h]?=some (.cells #[.P st 0] 121))(Q:h≠st)(FJ:∃a n c,y=.slice a n c)(i6:∀off sp,2<=off->¬Shun (.cell ⟨st,off,sp⟩))(A:Shun (.cell ⟨st,0,none⟩))(J0:¬Shun (.cell ⟨h,0,none⟩))(H:Ug Shun Stop 90 #[y] (w.setCell ⟨st,0,none⟩ (.int .i32 1)) (λu w'=>V u w'/\(∃a n c,u=.slice a n c)/\w'.heap[st]?=(w.setCell ⟨st,0,none⟩ (.int .i32 1)).heap[st]?/\w.heap.size<=w'.heap.size))(hk:∀u w',V u w'->eW prog Shun Stop 0 (Conc.G (a2.at (aF.put ((aC[aJ]?).bind (·.dst)) (.tuple #[u,.N])) (.inRegion aC aO::aH)) csZ) (w'.setCell ⟨st,0,none⟩ (.int .i32 0))):
 eW prog Shun Stop 0 (Conc.G ((base 35).at ⟨#[N,dR,eX,.P dW 0,P,O,.P h 0,.P wg 0,fS,fT,fU,fV,fW,fX,.I (W:Int),.I (W:Int),S,fY,Z,f2,.tuple #[],Y,X,U,T],[]⟩ [.inRegion (bR.oM ((bR.er 8 (f35.body.getD .skip)).getD .skip)) [],.code (bR.lM ((bR.er 8 (f35.body.getD .skip)).getD .skip))]) (a2.at aF (.inRegion aC (aJ::aO)::aH)::csZ)) w:=by
 obtain⟨sa,m,l,rfl⟩:=FJ;have t:st<w.heap.size:=(vam.1 r).1;have s:h<w.heap.size:=(vam.1 C).1;have p:w.cell? (.a h 0)=some (.P st 0):=by simp[World.cell?,C]
 have AW:w.cell? (.a st 0)=some (.int .i32 0):=by simp[World.cell?,r]
 have I:w.frozen? ⟨st,0,none⟩=false:=by simp[World.frozen?,r]
 have q:(w.setCell ⟨st,0,none⟩ (.int .i32 1)).heap[st]?=some (Obj.cells #[.int .i32 1,.int .u32 0,dI,B,nO,z,.slice sa m l,.N] 169):=by simp[World.setCell,vbb,r]
 have hF:=atRel_refl w;simp[f35,bR.er,bR.lM,bR.oM];refine mr (R:=AtRel) KF 300 _ _ ?_;repeat w_go d_
 refine vah (λg f=>?_);replace hF:=d_ hF f;obtain⟨d,rfl⟩:=hF;clear f;refine oL rfl (w1:=w.at d) (es:=#[⟨.cell ⟨h,0,none⟩,false,false⟩]) (λk=>(vay (v:=.P st 0) rfl rfl Ap (by have j:((w.at d).at k).cell? (.a h 0)=some (.P st 0):=p;go_simp)).trans (vbx (λes=>GStep.go _ _ es) (by have j:((w.at d).at k).cell? (.a h 0)=some (.P st 0):=p;simp[listed,go_sem,j];rfl))) ?_ Jb ?_
 .intro e i;simp at i;subst i;exact Gr J0 s _
 show eW prog Shun Stop 0 _ _;have hF:AtRel w (w.at d):=⟨d,rfl⟩;refine mr (R:=AtRel) KF 300 _ _ ?_;walk_nrm
 repeat w_go d_
 u_call func53 asP f53 d_ hF
 repeat w_go d_
 u_call func88 bR.N8 f88 d_ hF
 refine vah (λg f=>?_);replace hF:=d_ hF f;obtain⟨d,rfl⟩:=hF;clear f;refine ar5 (w:=w.at d) AW I A t ?_;have hF:AtRel (w.setCell ⟨st,0,none⟩ (.int .i32 1)) ((w.at d).setCell ⟨st,0,none⟩ (.int .i32 1)):=⟨d,rfl⟩;have hsz:(w.setCell ⟨st,0,none⟩ (.int .i32 1)).heap.size=w.heap.size:=ag.nU _ _ _;generalize w.setCell ⟨st,0,none⟩ (.int .i32 1)=w2 at hF H q hsz;generalize(w.at d).setCell ⟨st,0,none⟩ (.int .i32 1)=w3 at hF⊢;have D:st<w2.heap.size:=AX;have o:w2.cell? (.a st 7)=some (.N):=by simp[World.cell?,q]
 have F:w2.cell? (.a st 6)=some (.slice sa m l):=by simp[World.cell?,q]
 refine mr (R:=AtRel) KF 300 _ _ ?_;walk_nrm
 repeat w_go d_
 u_defer d_ hF
 repeat w_go d_
 refine vah (λg f=>?_);replace hF:=d_ hF f;obtain⟨d,rfl⟩:=hF;clear f;refine oL rfl (w1:=w2.at d) (es:=#[⟨.cell ⟨st,7,none⟩,false,false⟩]) (λk=>(vay (v:=.N) rfl rfl Ap (by have j:((w2.at d).at k).cell? (.a st 7)=some (.N):=o;go_simp)).trans (vbx (λes=>GStep.go _ _ es) (by have j:((w2.at d).at k).cell? (.a st 7)=some (.N):=o;simp[listed,go_sem,j];rfl))) ?_ Jb ?_
 .intro e i;simp at i;subst i;exact Gr AF D _
 show eW prog Shun Stop 0 _ _;have hF:AtRel w2 (w2.at d):=⟨d,rfl⟩;refine mr (R:=AtRel) KF 300 _ _ ?_;walk_nrm
 repeat w_go d_
 refine vah (λg f=>?_);replace hF:=d_ hF f;obtain⟨d,rfl⟩:=hF;clear f;refine oL rfl (w1:=w2.at d) (es:=#[]) (λk=>(vay (v:=.F) rfl rfl Ap Cg).trans (vbx (λes=>GStep.go _ _ es) Be)) Ab Jb ?_;show eW prog Shun Stop 0 _ _;have hF:AtRel w2 (w2.at d):=⟨d,rfl⟩;refine mr (R:=AtRel) KF 300 _ _ ?_;walk_nrm
 repeat w_go d_
 refine vah (λg f=>?_);replace hF:=d_ hF f;obtain⟨d,rfl⟩:=hF;clear f;refine oL rfl (w1:=w2.at d) (es:=#[⟨.cell ⟨st,6,none⟩,false,false⟩]) (λk=>(vay (v:=.slice sa m l) rfl rfl Ap (by have j:((w2.at d).at k).cell? (.a st 6)=some (.slice sa m l):=F;go_simp)).trans (vbx (λes=>GStep.go _ _ es) (by have j:((w2.at d).at k).cell? (.a st 6)=some (.slice sa m l):=F;simp[listed,go_sem,j];rfl))) ?_ Jb ?_
 .intro e i;simp at i;subst i;exact Gr AF D _
 show eW prog Shun Stop 0 _ _;have hF:AtRel w2 (w2.at d):=⟨d,rfl⟩;refine mr (R:=AtRel) KF 300 _ _ ?_;walk_nrm
 repeat w_go d_
 refine vah (λg f=>?_);replace hF:=d_ hF f;obtain⟨d,rfl⟩:=hF;clear f;refine oL rfl (w1:=w2) (es:=#[]) (λk=>(stepG_enter rfl rfl Ap (iS.pf (b:=base 53) (vs:=#[.slice sa m l]) rfl func90 Rj rfl CK _).1).trans (vbx (λes=>GStep.go _ _ es) (iS.pf (vs:=#[.slice sa m l]) rfl func90 Rj rfl CK _).2)) Ab Jb ?_;refine H _ _ _ _ _ _ _ (λu w' hv=>?_);obtain⟨J,⟨v_,un,uc,rfl⟩,x,hsz'⟩:=hv;rw[q]at x;have K:w'.cell? (.a st 0)=some (.int .i32 1):=by simp[World.cell?,x]
 have L:w'.frozen? ⟨st,0,none⟩=false:=by simp[World.frozen?,x]
 have M:st<w'.heap.size:=AX;have hF:=atRel_refl w';refine mr (R:=AtRel) KF 300 _ _ ?_;walk_nrm
 repeat w_go d_
 u_in d_ hF
 rw[vck rfl func89 bR.Bh rfl];simp only[veg];refine⟨CM,?_⟩;walk_nrmf f89
 refine vah (λg f=>?_);replace hF:=d_ hF f;obtain⟨d,rfl⟩:=hF;clear f;refine ar6 (w:=w'.at d) rfl K L A M ?_;have hF:AtRel (w'.setCell ⟨st,0,none⟩ (.int .i32 0)) ((w'.at d).setCell ⟨st,0,none⟩ (.int .i32 0)):=⟨d,rfl⟩;have E:=hk _ w' J;generalize w'.setCell ⟨st,0,none⟩ (.int .i32 0)=w4 at hF E;generalize(w'.at d).setCell ⟨st,0,none⟩ (.int .i32 0)=dK at hF⊢;refine mr (R:=AtRel) KF 300 _ _ ?_;u_in d_ hF
 refine goes_leave2 rfl rfl func53 rfl ⟨CM,?_⟩;walk_nrm
 repeat w_go d_
 u_in d_ hF
 refine goes_leave2 rfl rfl func35 rfl ⟨CM,?_⟩;refine vah (λg f=>?_);replace hF:=d_ hF f;obtain⟨d,rfl⟩:=hF;exact E.at d
end
end qj
namespace gi
open Conc RowKit Conc.Lib ConcR.Gen ConcM az bo ag ft ix bR
section
section
variable{c:dy}{Stop:Bool->ag.Lo At->aX->Prop}{mine:c7}{S am hE:Nat}
variable{a2:Frame}{aF:Act}{aC:du}{aJ:Nat}{aO:e8}{aH:fC}{csZ:dZ}
def atw(ok:uy c S am hE){f T bE:Nat}(ox:c.b3 T=false){F E:Int}{s:uan}{q:uac}{w0:aL}(hS:∀m l g w M M',(∀b,M b->M' b)->Stop m l ⟨g,w,M⟩->Stop m l ⟨g,w,M'⟩)(fH:∀w' ai,ak (al (av c)) mine w0 w'->bg (al (av c)) prog Stop false ⟨.idle,false,0,f,.work .free ((T,.slice s (c.rows T) bE)::q)⟩ ai ⟨Conc.G (a2.at (Uf aF aC aJ (.tuple #[])) (.inRegion aC aO::aH)) csZ,w',mine⟩)(w:aL)(γ:ag.aN ck)(hk:af (al (av c)) mine w0 [] w):
 bg (al (av c)) prog Stop false ⟨.idle,false,0,f+16,.work (.has T) q⟩ γ ⟨Conc.G ((base 109).at ⟨#[.P c.st 0,.agg #[.I (T:Int),.I F,.I E],.slice s (c.rows T) bE]++Array.replicate 27 undef,[]⟩ [.code (f109.body.getD .skip)]) (a2.at aF (.inRegion aC (aJ::aO)::aH)::csZ),w,cj mine []⟩:=by
 have hF:=hk;have kg:=(dk (bD c)).nb;have tz:prog.follows .mixedOrders=true:=Ao;refine bg.seen (dk (bD c)) rfl λγ _ U=>?_;have Oj:=Zn U rfl;clear U;refine a9 (bD c) ?_;simp only[f109,vae];walk_nrm
 repeat w_go af.on
 refine fN rfl hF λo n y B j X I z hF=>?_;refine tX AF kg rfl hF (vay (v:=.P j.heap.size 0) (w':=j.alloc (.cells #[.I (T:Int),.I F,.I E] 184)) rfl rfl Ap Ar) rfl BB (λH=>?_);clear hF;have hF:=H;clear H z I B n;generalize j.heap.size=b0 at hF⊢;generalize j.alloc (.cells #[.I (T:Int),.I F,.I E] 184)=w3 at hF⊢;refine a9 (bD c) ?_;walk_nrm
 repeat w_go af.on
 u_call func88 N8 f88 af.on hF
 have N:∀b,(av c).K b\/cj mine [(b0,.cells #[.I (T:Int),.I F,.I E] 184)] b->b≠(av c).st:=λb O e=>hF.eV b O (.inl e);refine vah (λr P=>⟨rfl,λR _=>Uc (f:=f+10) (bD c) (a:=.work (.has T) q) K8 ok.most N (λK Y L=>?_) r R (ak.refl _ _ _)⟩);replace hF:=(hF.on P).on L;clear P L N;refine a9 (bD c) ?_;walk_nrm
 repeat w_go af.on
 u_defer af.on hF
 repeat w_go af.on
 refine vah (λo n=>⟨rfl,λy B=>?_⟩);replace hF:=hF.on n;clear n B;refine AH (Z:=al (av c)) (C:=Jl c mine w0 (b0,.cells #[.I (T:Int),.I F,.I E] 184)) AF Ap tz yq am2 (σ:=mN c mine w0 (gU.of y.aj) ⟨.own,true,0,f+10,.work (.has T) q⟩ [(b0,.cells #[.I (T:Int),.I F,.I E] 184)]) (iy:=rY prog Stop false _ _ _ _ []) Kt ⟨_,_,_,rfl,rfl,rfl,Ab,rfl⟩ ?_ _ y ⟨hF,rfl⟩;walk_nrm
 refine ei 0 (.P c.st 0) ?_ yq ⟨_,_,_,rfl,rfl,rfl,Ab,rfl⟩;walk_nrm
 refine ei 1 (.P c.st 0) ?_ yq ⟨_,_,_,rfl,rfl,rfl,Ab,rfl⟩;walk_nrm
 refine ei 2 (.P c.st 6) ?_ yq ⟨_,_,_,rfl,rfl,rfl,Ab,rfl⟩;walk_nrm
 refine iR (i:=3) (v:=.S c.cP 0 c.N hE) yq rfl AQ AQ AQ (am3 4 rfl (λx=>by simp[ok.ym]) (λw t=>⟨Ar,by simp[listed,go_sem,t];rfl⟩)) ⟨_,_,_,rfl,rfl,rfl,Ab,rfl⟩ ?_;walk_nrm
 refine ei 4 (.P b0 0) ?_ yq ⟨_,_,_,rfl,rfl,rfl,Ab,rfl⟩;walk_nrm
 refine iR (i:=5) (v:=.I (T:Int)) yq rfl AQ AQ AQ (am4 rfl (λw hB=>?_)) ⟨_,_,_,rfl,rfl,rfl,Ab,rfl⟩ ?_
 .have t:w.cell? (.a b0 0)=some (.I (T:Int)):=by simp[World.cell?,hB]
  refine⟨Ar,λe he=>⟨0,?_⟩⟩;have W:=vbs he;simp[go_sem,t]at W;exact W
 walk_nrm
 refine ei 6 (.slice s (c.rows T) bE) ?_ yq ⟨_,_,_,rfl,rfl,rfl,Ab,rfl⟩;walk_nrm
 refine iR (i:=7) (v:=.P c.cP T) yq rfl AQ AQ AQ (AN rfl (λ_=>Ar) (λ_=>by simp[listed,go_sem,Oj];rfl)) ⟨_,_,_,rfl,rfl,rfl,Ab,rfl⟩ ?_;walk_nrm
 refine qT (i:=8) AQ (yo rfl rfl (am6 (f1:=f+9) (v:=.slice s (c.rows T) bE) rfl rfl rfl AF (λw D V hp=>?_) ⟨⟨_,_,_,rfl,rfl,rfl,Ab,rfl⟩,?_⟩))
 .have t:w.cell? (.a c.cP T)=some D[T]:=by simp[World.cell?,V,hp]
  have Q:w.frozen? ⟨c.cP,T,none⟩=false:=by simp[World.frozen?,V]
  exact⟨Ar,by simp[listed,go_sem];rw[Go.events_store _ _ _ _ _ _ rfl,t];simp[Q];rfl⟩
 walk_nrm
 refine yi AQ ?_ _;rintro o eF ⟨H,hd⟩;clear hF;have hF:=H;clear H;generalize(⟨(gU.of y.aj).T,(gU.of y.aj).M,(gU.of y.aj).D.set T (.slice s (c.rows T) bE),(gU.of y.aj).L⟩:gU)=d at hd;simp[mN];refine a9 (bD c) ?_;walk_nrm
 repeat w_go af.on
 refine fN rfl hF λo n y B j X I z hF=>?_;replace hd:=(t2 (c:=c) (l:=⟨.own,true,0,f+9,.work (.half T (.slice s (c.rows T) bE)) q⟩) rfl I).trans ((t2 (c:=c) (l:=⟨.own,true,0,f+9,.work (.half T (.slice s (c.rows T) bE)) q⟩) rfl B).trans hd);clear B I n;have t:j.cell? (.a c.st 5)=some (.I (d.M:Int)):=by rw[AO z.mt.1 3];subst hd;simp[gU.of]
 obtain⟨J,Of,Ku⟩:∃J:Nat,IntKind.wrap .i64 ((d.M:Int)+(c.rows T:Int))=(J:Int)/\rk (J=d.M+c.rows T):=by have h1:=am5 z.sees ox rfl;have h2:=ok.oH;refine⟨d.M+c.rows T,?_,rfl⟩;subst hd;simp only[gU.of];rw[IntKind.wrap_i64];omega
 refine Jj (k:=3) rfl rfl ((vay (v:=.I (d.M:Int)) rfl rfl Ap Ar).trans (vbx (λes=>GStep.go _ _ es) (by simp[listed,go_sem,t];rfl))) rfl ?_;clear t z;refine a9 (bD c) ?_;walk_nrm
 repeat w_go af.on
 refine fN rfl hF λo n y B j X I z hF=>?_;replace hd:=(t2 (c:=c) (l:=⟨.own,true,0,f+9,.work (.half T (.slice s (c.rows T) bE)) q⟩) rfl I).trans ((t2 (c:=c) (l:=⟨.own,true,0,f+9,.work (.half T (.slice s (c.rows T) bE)) q⟩) rfl B).trans hd);clear B I n;have t:j.cell? (.a c.st 5)=some (.I (d.M:Int)):=by rw[AO z.mt.1 3];subst hd;simp[gU.of]
 have Q:j.frozen? ⟨c.st,5,none⟩=false:=by simp[World.frozen?,z.mt.1,gS]
 refine amS (f1:=f+8) (p:=T) (v:=.slice s (c.rows T) bE) (q:=q) (u:=.I (J:Int)) z ((vdj rfl rfl Ap Ar).trans (vbx (λes=>GStep.go _ _ es) (by simp[listed,go_sem,t,Q];rfl))) rfl ox (by rw[rk.out Ku];subst hd;rfl) rfl rfl rfl AF ?_;have H:=hF.shared (k:=c.st) (off:=5) (sp:=none) KB (.I (J:Int));clear hF;have hF:=H;clear H t Q z hd Of;dsimp only;generalize j.setCell ⟨c.st,5,none⟩ (.I (J:Int))=w4 at hF⊢;refine a9 (bD c) ?_;walk_nrm
 repeat w_go af.on
 u_in af.on hF
 rw[vck rfl func89 Bh rfl];simp only[veg];refine⟨CM,?_⟩;walk_nrmf f89
 have N:∀b,(av c).K b\/cj mine [(b0,.cells #[.I (T:Int),.I F,.I E] 184)] b->b≠(av c).st:=λb O e=>hF.eV b O (.inl e);refine vah (λr P=>⟨rfl,λR v8=>T1 (A:=av c) (f:=f) (bD c) (a:=.work .free ((T,.slice s (c.rows T) bE)::q)) K8 ok.most N rfl rfl (λK Y L=>?_) r R (ak.refl _ _ _)⟩);replace hF:=(hF.on P).on L;clear P L N;refine a9 (bD c) ?_;u_in af.on hF
 refine vei rfl rfl func109 rfl ⟨CM,?_⟩;refine vah (λo n=>⟨rfl,λy B=>?_⟩);replace hF:=hF.on n;exact bg.more hS (fH o y hF.rw) (λb O=>.inl O)
end
end
end gi
namespace iS
open Conc RowKit Conc.Lib ConcR.Gen ConcM az bo ag ft ix gi
theorem atx:(f123.name== "runtime.NumGoroutine")=false:=by kernel_rfl
section
variable{c:dy}{Stop:Bool->ag.Lo At->aX->Prop}{S am hE:Nat}
def zI(L:ubf)(γ:ag.aN ck):Prop:=γ.aj.least=L
def pt{l:ag.Lo At}(d:l.mx=.own){L:ubf}{γ a:ag.aN ck}(h:zI L γ)(b:(al (av c)).dO l γ a):zI L a:=by have:=vbx gU.L (t2 d b);exact Eq.trans this h
def Ut{q:uac}{T F:Nat}{L:ubf}{γ:ag.aN ck}(f:c.b3 T=true)(b:c.rows T=0)(j:zI L γ)(hq:∃p,L=some p/\p<=T):
 ∀a,(al (av c)).dO (⟨.own,true,0,F,.work (.has T) q⟩:ag.Lo At) γ a->∀(xs:List At)(i:Nat),xs[i]?=some (.work (.has T) q)->(av c).tV a.aj xs->(av c).tV a.aj (xs.set i (.work .free ((T,undef)::q))):=by
 intro a e xs i hi h;have g:=pt U j e;obtain⟨p,rfl,d⟩:=hq;exact cT.fail h f b ⟨p,g,d⟩ hi
def aty{b4:aL}(ok:uy c S am hE)(K:Jp c b4 prog Stop 123){f T:Nat}{q:uac}(N:T<c.N)(s:c.b3 T=true){M:c7}{w0:aL}(jX:af (al (av c)) M w0 [] w0)(hI:nZ c b4 w0):
 jw prog Stop false 108 #[.P c.st 0,c.place T] (ep c ⟨.idle,false,0,f+16,.work (.has T) q⟩ M w0)
  (λu bx=>u=.tuple #[]/\∃M' w1,gj (al (av c)) M w0 M' w1/\bx=ep c ⟨.idle,false,0,f,.work .free ((T,undef)::q)⟩ M' w1):=by
 intro a2 aF aC aJ aO aH csZ hK w γ hS;have hF:af (al (av c)) M w0 [] w:=hS;clear hS;have kg:=(dk (bD c)).nb;obtain⟨bu,I,xt,aU,Ot⟩:=K.place T N s;rw[Ot,vdv _ func108 rfl];unfold ep;rw[<-fO (M:=M)];refine a9 (bD c) ?_;walk_nrmf f108
 repeat w_go af.on
 u_call func88 bR.N8 f88 af.on hF
 have y:∀b,(av c).K b\/cj M [] b->b≠(av c).st:=λb s e=>hF.eV b s (.inl e);refine vah (λo E=>⟨rfl,λJ _=>bR.Uc (f:=f+10) (bD c) (a:=.work (.has T) q) K8 ok.most y (λC uw D=>?_) o J (ak.refl _ _ _)⟩);replace hF:=(hF.on E).on D;clear E D y;refine a9 (bD c) ?_;walk_nrm
 repeat w_go af.on
 u_defer af.on hF
 repeat w_go af.on
 refine fN rfl hF λi d B r g n t m hF=>?_;obtain⟨L,j⟩:∃L,zI L n:=⟨_,rfl⟩;obtain⟨xs,dQ,qU,iw⟩:=vh m.sees;have X:=iw.came.2.1;clear qU iw;rw[show n.aj.least=L from j]at X;clear r t d;cases L with
 |none=>
  have x:g.cell? (.a c.st 7)=some (.N):=Gb;refine Jj (k:=5) rfl rfl ((vay (v:=.N) rfl rfl Ap Ar).trans (vbx (λes=>GStep.go _ _ es) HJ)) rfl ?_;clear x m;refine a9 (bD c) ?_;walk_nrm
  repeat w_go af.on
  refine fN rfl hF λi d B r g n t m hF=>?_;replace j:=pt (c:=c) (l:=⟨.own,true,0,f+10,.work (.has T) q⟩) rfl (pt (c:=c) (l:=⟨.own,true,0,f+10,.work (.has T) q⟩) rfl j r) t;refine F6 AF (vay (v:=.T) rfl rfl Ap Cg) rfl Be ?_;clear m t r d;refine a9 (bD c) ?_;walk_nrm
  repeat w_go af.on
  refine fN rfl hF λi d B r g n t m hF=>?_;replace j:=pt (c:=c) (l:=⟨.own,true,0,f+10,.work (.has T) q⟩) rfl (pt (c:=c) (l:=⟨.own,true,0,f+10,.work (.has T) q⟩) rfl j r) t;have x:g.cell? (.a c.st 7)=some (.N):=Gb;have Q:g.frozen? ⟨c.st,7,none⟩=false:=by simp[World.frozen?,m.mt.1,gS]
  refine Zg (f1:=f+9) (p:=T) (q:=q) (u:=.S bu I xt aU) m ((vdj rfl rfl Ap Ar).trans (vbx (λes=>GStep.go _ _ es) FY)) rfl Ot.symm s (λp R=>by rw[show n.aj.least=none from j]at R;cases R) rfl rfl rfl AF ?_;have W:=hF.shared (k:=c.st) (off:=7) (sp:=none) KB (.S bu I xt aU);clear hF;have hF:=W;replace j:zI (some T) ({n with aj:={n.aj with least:=some T},a6:=n.a6-1}:ag.aN ck):=rfl;clear W x Q m t r d;dsimp only;generalize g.setCell ⟨c.st,7,none⟩ (.S bu I xt aU)=w4 at hF⊢;generalize({n with aj:={n.aj with least:=some T},a6:=n.a6-1}:ag.aN ck)=atz at j⊢;refine a9 (bD c) ?_;walk_nrm
  repeat w_go af.on
  u_in af.on hF
  rw[vck rfl func89 Bh rfl];simp only[veg];refine⟨CM,?_⟩;walk_nrmf f89
  have y:∀b,(av c).K b\/cj M [] b->b≠(av c).st:=λb s e=>hF.eV b s (.inl e);refine vah (λo E=>⟨rfl,λJ P=>bR.Oc (A:=av c) (f:=f) (F:=f+9) (bD c) AX (a':=.work (.has T) q) (a:=.work .free ((T,undef)::q)) K8 rfl ok.most y rfl rfl (λC uw D=>?_) o J (ak.refl _ _ _) (Ut s (K.rows T N s) (pt (c:=c) (l:=⟨.own,true,0,f+9,.work (.has T) q⟩) rfl j P) ⟨T,rfl,vac _⟩)⟩);replace hF:=(hF.on E).on D;clear E D y;refine a9 (bD c) ?_;u_in af.on hF
  refine vei rfl rfl func108 rfl ⟨CM,?_⟩;refine vah (λi d=>⟨rfl,λB r=>?_⟩);replace hF:=hF.on d;rw[fO];exact hK (.tuple #[]) (ep c ⟨.idle,false,0,f,.work .free ((T,undef)::q)⟩ M w0) ⟨rfl,M,w0,⟨λ_ h=>h,ak.refl _ _ _,jX⟩,rfl⟩ i B hF
 |some H=>
  obtain⟨kA,Ko⟩:=X H rfl;obtain⟨l3,Z,nd,kn,mP⟩:=K.place H Ko kA;have Ag:=K.cmp T H N s Ko kA;rw[mP,Ot]at Ag;have ca:∀γ,zI (some H) γ->∀w:aL,w.heap[c.st]?=some (gS (av c) γ.mu γ.aj)->w.cell? (.a c.st 7)=some (.S l3 Z nd kn):=λγ h w y=>by rw[AO y 5];simp[show γ.aj.least=some H from h,mP]
  have x:=ca _ j _ m.mt.1;refine Jj (k:=5) rfl rfl ((vay (v:=.S l3 Z nd kn) rfl rfl Ap Ar).trans (vbx (λes=>GStep.go _ _ es) HJ)) rfl ?_;clear x m;refine a9 (bD c) ?_;walk_nrm
  repeat w_go af.on
  refine fN rfl hF λi d B r g n t m hF=>?_;replace j:=pt (c:=c) (l:=⟨.own,true,0,f+10,.work (.has T) q⟩) rfl (pt (c:=c) (l:=⟨.own,true,0,f+10,.work (.has T) q⟩) rfl j r) t;refine F6 AF (vay (v:=.F) rfl rfl Ap Cg) rfl Be ?_;clear m t r d;refine a9 (bD c) ?_;walk_nrm
  repeat w_go af.on
  refine fN rfl hF λi d B r g n t m hF=>?_;replace j:=pt (c:=c) (l:=⟨.own,true,0,f+10,.work (.has T) q⟩) rfl (pt (c:=c) (l:=⟨.own,true,0,f+10,.work (.has T) q⟩) rfl j r) t;have x:=ca _ j _ m.mt.1;refine Jj (k:=5) rfl rfl ((vay (v:=.S l3 Z nd kn) rfl rfl Ap Ar).trans (vbx (λes=>GStep.go _ _ es) HJ)) rfl ?_;clear x m t r d;refine a9 (bD c) ?_;walk_nrm
  repeat w_go af.on
  refine fN rfl hF λi d B r g n t m hF=>?_;replace j:=pt (c:=c) (l:=⟨.own,true,0,f+10,.work (.has T) q⟩) rfl (pt (c:=c) (l:=⟨.own,true,0,f+10,.work (.has T) q⟩) rfl j r) t;have V:=af.p5 hF;rw[fO]at V;rw[fO];refine Jo (σ:=yr c ⟨.own,true,0,f+10,.work (.has T) q⟩ M g (zI (some H))) AF rfl rfl Ap (pf (vs:=#[.S bu I xt aU,.S l3 Z nd kn]) rfl func123 atx rfl CK g) (Ag _ M g (zI (some H)) rfl (λ_ _ h ho=>pt rfl h ho) V (hI.aE hF)) ⟨V,j⟩ ?_;have iz:gj (al (av c)) M w0 M g:=⟨λ_ h=>h,hF.rw,V⟩;clear hF m t r d V j;rintro u _ ⟨z,rfl,hz,O,Y,jH,rfl⟩ wX eF ⟨hF,j⟩;have gy:=iz.trans jH;clear jH iz;simp only[yr];rw[<-fO (M:=O)];by_cases U:T<H
  .have RR:decide (z<0)=true:=by simp[hz,U]
   clear hz;refine a9 (bD c) ?_;walk_nrm
   repeat w_go af.on
   refine fN rfl hF λi d B r g n t m hF=>?_;replace j:=pt (c:=c) (l:=⟨.own,true,0,f+10,.work (.has T) q⟩) rfl (pt (c:=c) (l:=⟨.own,true,0,f+10,.work (.has T) q⟩) rfl j r) t;have x:=ca _ j _ m.mt.1;have Q:g.frozen? ⟨c.st,7,none⟩=false:=by simp[World.frozen?,m.mt.1,gS]
   refine Zg (f1:=f+9) (p:=T) (q:=q) (u:=.S bu I xt aU) m ((vdj rfl rfl Ap Ar).trans (vbx (λes=>GStep.go _ _ es) FY)) rfl Ot.symm s (λp R=>by rw[show n.aj.least=some H from j]at R;cases R;omega) rfl rfl rfl AF ?_;have W:=hF.shared (k:=c.st) (off:=7) (sp:=none) KB (.S bu I xt aU);clear hF;have hF:=W;replace j:zI (some T) ({n with aj:={n.aj with least:=some T},a6:=n.a6-1}:ag.aN ck):=rfl;clear W x Q m t r d;dsimp only;generalize g.setCell ⟨c.st,7,none⟩ (.S bu I xt aU)=w4 at hF⊢;generalize({n with aj:={n.aj with least:=some T},a6:=n.a6-1}:ag.aN ck)=atz at j⊢;refine a9 (bD c) ?_;walk_nrm
   repeat w_go af.on
   u_in af.on hF
   rw[vck rfl func89 Bh rfl];simp only[veg];refine⟨CM,?_⟩;walk_nrmf f89
   have y:∀b,(av c).K b\/cj O [] b->b≠(av c).st:=λb s e=>hF.eV b s (.inl e);refine vah (λo E=>⟨rfl,λJ P=>bR.Oc (A:=av c) (f:=f) (F:=f+9) (bD c) AX (a':=.work (.has T) q) (a:=.work .free ((T,undef)::q)) K8 rfl ok.most y rfl rfl (λC uw D=>?_) o J (ak.refl _ _ _) (Ut s (K.rows T N s) (pt (c:=c) (l:=⟨.own,true,0,f+9,.work (.has T) q⟩) rfl j P) ⟨T,rfl,vac _⟩)⟩);replace hF:=(hF.on E).on D;clear E D y;refine a9 (bD c) ?_;u_in af.on hF
   refine vei rfl rfl func108 rfl ⟨CM,?_⟩;refine vah (λi d=>⟨rfl,λB r=>?_⟩);replace hF:=hF.on d;rw[fO];exact hK (.tuple #[]) (ep c ⟨.idle,false,0,f,.work .free ((T,undef)::q)⟩ O Y) ⟨rfl,O,Y,gy,rfl⟩ i B hF
  .have RR:decide (z<0)=false:=by simp[hz,U]
   clear hz;refine a9 (bD c) ?_;walk_nrm
   repeat w_go af.on
   u_in af.on hF
   rw[vck rfl func89 Bh rfl];simp only[veg];refine⟨CM,?_⟩;walk_nrmf f89
   have y:∀b,(av c).K b\/cj O [] b->b≠(av c).st:=λb s e=>hF.eV b s (.inl e);refine vah (λo E=>⟨rfl,λJ P=>bR.Oc (A:=av c) (f:=f) (F:=f+10) (bD c) AX (a':=.work (.has T) q) (a:=.work .free ((T,undef)::q)) K8 rfl ok.most y rfl rfl (λC uw D=>?_) o J (ak.refl _ _ _) (Ut s (K.rows T N s) (pt (c:=c) (l:=⟨.own,true,0,f+10,.work (.has T) q⟩) rfl j P) ⟨H,rfl,AX⟩)⟩);replace hF:=(hF.on E).on D;clear E D y;refine a9 (bD c) ?_;u_in af.on hF
   refine vei rfl rfl func108 rfl ⟨CM,?_⟩;refine vah (λi d=>⟨rfl,λB r=>?_⟩);replace hF:=hF.on d;rw[fO];exact hK (.tuple #[]) (ep c ⟨.idle,false,0,f,.work .free ((T,undef)::q)⟩ O Y) ⟨rfl,O,Y,gy,rfl⟩ i B hF
end
section
section
variable{c:dy}{Stop:Bool->ag.Lo At->aX->Prop}{S am hE:Nat}{gl gV:Value}{jM:uaj}{nh cV:uag}
def af.Uu{Z:e_}{M:c7}{w1 w:aL}(h:af Z M w1 [] w1)(r:ak Z M w1 w):af Z M w1 [] w:=h.on (by rw[fO];exact r)
def atA(ok:uy c S am hE)(i:c.C=31)(hS:∀m l g w M M',(∀b,M b->M' b)->Stop m l ⟨g,w,M⟩->Stop m l ⟨g,w,M'⟩){f:Nat}(q:uac)(M:c7)(w1:aL)(d:af (al (av c)) M w1 [] w1):
 jw prog Stop false 81 #[.P c.st 0] (ep c ⟨.idle,false,0,f+15,.work .free q⟩ M w1)
  (λu e=>(u=.tuple #[.agg #[.I 0,.I 0,.I 0],.F]/\e=wR c ⟨.idle,false,0,f+1,.work .free q⟩ M w1)\/∃T,T<c.N/\u=.tuple #[Ue S am T,.T]/\e=ep c ⟨.idle,false,0,f+31,.work (.has T) q⟩ M w1):=by
 intro a2 aF aC aJ aO aH csZ hK w γ il;have hk:af (al (av c)) M w1 [] w:=il;rw[vdv _ func81 U];unfold ep;have h:=asH (a2:=a2) (aF:=aF) (aC:=aC) (aJ:=aJ) (aO:=aO) (aH:=aH) (csZ:=csZ) ok (f:=f) (p:=q) (w0:=w1) hS
  (λw' a r a4=>hK _ (wR c ⟨.idle,false,0,f+1,.work .free q⟩ M w1) AF w' a ⟨af.Uu d r,a4⟩)
  (λw' a T r j=>by rw[i];exact hK _ (ep c ⟨.idle,false,0,f+31,.work (.has T) q⟩ M w1) AF w' a (af.Uu d r)) w γ hk
 rw[fO]at h;exact h
def atB(ok:uy c S am hE){T:Nat}(ox:c.b3 T=false)(hS:∀m l g w M M',(∀b,M b->M' b)->Stop m l ⟨g,w,M⟩->Stop m l ⟨g,w,M'⟩){f:Nat}{F E:Int}{q:uac}(s:uan)(bE:Nat)(M:c7)(w1:aL)(a:af (al (av c)) M w1 [] w1):
 jw prog Stop false 109 #[.P c.st 0,.agg #[.I (T:Int),.I F,.I E],.slice s (c.rows T) bE] (ep c ⟨.idle,false,0,f+16,.work (.has T) q⟩ M w1)
  (λu d=>u=.tuple #[]/\d=ep c ⟨.idle,false,0,f,.work .free ((T,.slice s (c.rows T) bE)::q)⟩ M w1):=by
 intro a2 aF aC aJ aO aH csZ hK w γ il;have hk:af (al (av c)) M w1 [] w:=il;rw[vdv _ func109 U];unfold ep;have h:=atw (a2:=a2) (aF:=aF) (aC:=aC) (aJ:=aJ) (aO:=aO) (aH:=aH) (csZ:=csZ) ok (f:=f) (q:=q) (T:=T) ox (s:=s) (bE:=bE) (F:=F) (E:=E) (w0:=w1) hS
  (λw' e r=>hK _ (ep c ⟨.idle,false,0,f,.work .free ((T,.slice s (c.rows T) bE)::q)⟩ M w1) ⟨U,U⟩ w' e (af.Uu a r)) w γ hk
 rw[fO]at h;exact h
def atC(ok:uy c S am hE)(j:c.C=31)(hS:∀m l g w M M',(∀b,M b->M' b)->Stop m l ⟨g,w,M⟩->Stop m l ⟨g,w,M'⟩){b4:aL}(J:ub c b4 prog Stop 110 gl jM gV (λT=>T*am) (λT=>min (T*am+am) S) nh cV){f:Nat}{M:c7}{w0:aL}(i:nZ c b4 w0):
 jw prog Stop false 51 #[.P c.st 0,gl] (ep c ⟨.idle,false,0,f+15,.work .free []⟩ M w0) (λu k=>u=.tuple #[]/\∃q M' w1,gj (al (av c)) M w0 M' w1/\oI c cV q M' w1/\k=wR c ⟨.idle,false,0,f+1,.work .free q⟩ M' w1):=
 atv (fr:=λT=>T*am) (aZ:=λT=>min (T*am+am) S) i J.mono (atA ok j hS) (λq T n w1 e d=>atp J (f:=f+15) e d (λa M' w1 hk h=>aty ok J.fails e a hk h) (λa s bE M' w1 hk=>atB ok a hS s bE M' w1 hk))
end
end
def Ez(n:Nat):Frame:={(default:Frame)with fn:=n,defers:=[],mode:=.panicking [goexitEntry]}
theorem atO:(f51.name== "runtime.NumGoroutine")=false:=by kernel_rfl
theorem atP:(f50.name== "runtime.NumGoroutine")=false:=by kernel_rfl
theorem atQ:(f49.name== "runtime.NumGoroutine")=false:=by kernel_rfl
def atR{P:cf}{f:uaj}{fn:Func}{c:Code}(a:P.funcs[f]?=some fn)(d:(fn.name== "runtime.NumGoroutine")=false)(b:fn.body=some c)(cap:df)(w:aL):stepG P false (born P (pZ f cap)) w=
 .go (Conc.G ((baseD f).at {tmps:=cap++Array.replicate (fn.ntmps-cap.size) undef,defers:=[]} [.code c]) [Ez P.funcs.size]) w #[]:=by
 have hn:¬fn.name= "runtime.NumGoroutine" :=AF;rw[<-enter_atD cap a b];simp[born,pZ,stepG,unwind,callDeferred,invoke,callFunc,a,hn,b,GStep.after,Conc.G,Ez,vcz]
def atS(T:df):QuitsD prog 2 0 (Conc.G {(baseD 49).at ⟨T,[]⟩ []with mode:=.returning} [Ez prog.funcs.size]):=by
 refine QuitsD.ctl (g':=Conc.G (Ez prog.funcs.size) []) U (λw=>?_) ?_
 .simp[Conc.G,stepG,unwind,doReturn,results,Frame.at,baseD,Ez,func49,f49,seen,GStep.after,goexitEntry]
 refine QuitsD.ctl (g':={Conc.G (Ez prog.funcs.size) []with status:=.finished}) U (λw=>?_) ⟨U,U⟩;simp[Conc.G,stepG,unwind,Ez,goexitEntry,Frame.catches];rfl
section
variable{c:dy}{Stop:Bool->ag.Lo At->aX->Prop}{S am hE:Nat}{gl gV:Value}{jM:uaj}{nh cV:uag}
theorem atT(ok:uy c S am hE)(Y:c.C=31)(hS:∀m l g w M M',(∀b,M b->M' b)->Stop m l ⟨g,w,M⟩->Stop m l ⟨g,w,M'⟩){b4:aL}(J:ub c b4 prog Stop 110 gl jM gV (λT=>T*am) (λT=>min (T*am+am) S) nh cV)(K:∀q M f' g w,oI c cV q M w->(∃n,QuitsD prog n 1 g)->Stop false ⟨.idle,false,1,f',.gone q⟩ ⟨g,w,M⟩){f A y:Nat}(Ow:c.K A)(N:c.K y)(L:∃t v,gl=.iface t v){M:c7}{w0:aL}(X:nZ c b4 w0)(fA:w0.heap[A]?=some (.cells #[.P c.st 0] 121))(FW:w0.heap[y]?=some (.cells #[gl] 120))(w:aL)(γ:ag.aN ck)(hk:af (al (av c)) M w0 [] w):
 bg (al (av c)) prog Stop false ⟨.idle,false,0,f+19,.work .free []⟩ γ ⟨born prog (pZ 49 #[.P c.wg 0,.P A 0,.P y 0]),w,M⟩:=by
 have hF:=hk;obtain⟨jt,E,rfl⟩:=L;refine bg.mk rfl (λa H o k=>?_);replace hF:=af.rel hF k;refine F6 AF (atR func49 atQ rfl _ a) rfl rfl ?_;clear k o hk;rw[<-fO (M:=M)];refine a9 (bD c) ?_;walk_nrmf f49
 repeat w_go af.on
 u_defer af.on hF
 repeat w_go af.on
 refine fN rfl hF λj d P B a H o k hF=>?_;have s:a.cell? (.a A 0)=some (.P c.st 0):=by simp[World.cell?,(hF.rw.heap A (.inl Ow)).trans fA]
 refine sY AF rfl (λb i=>hF.eV b (.inr i)) (vay (v:=.P c.st 0) rfl rfl Ap Ar) rfl (λe C=>?_) ?_
 .have z:=vbs C;simp[go_sem,s]at z;subst z;exact⟨rfl,AF⟩
 clear s k o B d;refine a9 (bD c) ?_;walk_nrm
 repeat w_go af.on
 refine fN rfl hF λj d P B a H o k hF=>?_;have s:a.cell? (.a y 0)=some (.iface jt E):=by simp[World.cell?,(hF.rw.heap y (.inl N)).trans FW]
 refine sY AF rfl (λb i=>hF.eV b (.inr i)) (vay (v:=.iface jt E) rfl rfl Ap Ar) rfl (λe C=>?_) ?_
 .have z:=vbs C;simp[go_sem,s]at z;subst z;exact⟨rfl,AF⟩
 clear s k o B d;refine a9 (bD c) ?_;walk_nrm
 repeat w_go af.on
 refine fN rfl hF λj d P B a H o k hF=>?_;have F:=af.p5 hF;rw[fO]at F;rw[fO];refine Jo (σ:=ep c ⟨.idle,false,0,f+4+15,.work .free []⟩ M a) AF rfl rfl Ap (pf (vs:=#[.P c.st 0,.iface jt E]) rfl func51 atO rfl CK a) (atC ok Y hS J (X.aE hF)) F ?_;clear k o B d F hF;rintro u _ ⟨rfl,q,M',w1,gy,U,rfl⟩ O eF ⟨hF,a4⟩;simp only[wR];rw[<-fO (M:=M')];refine a9 (bD c) ?_;walk_nrm
 repeat w_go af.on
 u_in af.on hF
 rw[vck rfl func50 atP rfl];simp only[veg];refine⟨CM,?_⟩;walk_nrmf f50
 have W:∀b,c.K b\/cj M' [] b->b≠c.wg:=λb i e=>hF.eV b i (.inr (.inl e));refine vah (λp Z=>⟨rfl,λkG Q=>?_⟩);replace hF:=hF.on Z;replace a4:=r4 a4 (t_ (c:=c) (l:=⟨.idle,false,0,f+4+1,.work .free q⟩) Q);refine bg.seen (dk (bD c)) rfl λR I lN=>?_;replace a4:=r4 a4 (t_ (c:=c) (l:=⟨.idle,false,0,f+4+1,.work .free q⟩) I);refine ti.atM (f:=f) ok.most W rfl (atS _) (λf' g w' r hq=>?_) p R (ak.refl _ _ _) a4;have D:=hF.on r;rw[fO]at r⊢;refine K q M' f' g w' (λx V i=>?_) hq;exact J.mono _ _ _ _ _ _ (U x V i) (λb i=>(D.rw.heap b i)) (λ_ h=>h)
end
end iS
namespace xo
open Conc RowKit Conc.Lib ConcR.Gen ConcM az bo ag ft ix gi iS
theorem at1:(f48.name== "runtime.NumGoroutine")=false:=by kernel_rfl
theorem at2:(f52.name== "runtime.NumGoroutine")=false:=by kernel_rfl
section
variable{c:dy}{b4:aL}{S am hE:Nat}{gl gV:Value}{jM:uaj}{nh cV:uag}{M:c7}{w0:aL}{mA:Goroutine->Prop}
def at3(i:∀T v M w M' w',cV T v M w->(∀b,c.K b\/M b->w'.heap[b]?=w.heap[b]?)->(∀b,M b->M' b)->cV T v M' w'):∀m l g w d e,(∀b,d b->e b)->(cF.Ew c prog cV (cF.Kq c prog M w0 mA)) m l ⟨g,w,d⟩->(cF.Ew c prog cV (cF.Kq c prog M w0 mA)) m l ⟨g,w,e⟩:=by
 intro m l g w d e hs h;cases m with
 |true=>exact⟨h.1,h.2.1,h.2.2.1,λb a=>hs b (h.2.2.2 b a)⟩
 |false=>
  rcases h with h|⟨q,f,o,n,k⟩
  .exact .inl h
  .exact .inr ⟨q,f,o,n,λx j a=>i _ _ _ _ _ _ (k x j a) (λ_ _=>U) hs⟩
def at4{Stop:Bool->ag.Lo At->aX->Prop}(ok:uy c S am hE)(hC:c.C=31)(hS:∀m l g w M M',(∀b,M b->M' b)->Stop m l ⟨g,w,M⟩->Stop m l ⟨g,w,M'⟩)(J:ub c b4 prog Stop 110 gl jM gV (λT=>T*am) (λT=>min (T*am+am) S) nh cV)(aGC:∀q M f' g w,oI c cV q M w->(∃n,QuitsD prog n 1 g)->Stop false ⟨.idle,false,1,f',.gone q⟩ ⟨g,w,M⟩){fw Z Y W:Nat}{cs:dZ}(Ow:c.K Z)(adm:c.K Y)(adn:∃t v,gl=.iface t v)(hW:W<4611686018427387904)(hI:nZ c b4 w0)(eR:c.rows c.N+W<=c.most)(fA:w0.heap[Z]?=some (.cells #[.P c.st 0] 121))(FW:w0.heap[Y]?=some (.cells #[gl] 120))(On:∀(j O N p o K I H F E D U C B L R A z u s:Value) g w',ak (al (av c)) M w0 w'->ti.Oy c g (Conc.G ((base 35).at ⟨#[j,O,N,.P Y 0,p,o,.P Z 0,.P c.wg 0,K,I,H,F,E,D,.I (W:Int),.I (W:Int),U,C,B,L,.tuple #[],A,z,u,s],[]⟩ [.inRegion (bR.oM ((bR.er 8 (f35.body.getD .skip)).getD .skip)) [],.code (bR.lM ((bR.er 8 (f35.body.getD .skip)).getD .skip))]) cs)->Stop true ⟨.idle,false,0,fw,.main .over⟩ ⟨g,w',M⟩)(r:Nat):
 ∀(k:Nat)(j O N p o K I H F E D U C B L R A z u s:Value)(w:aL)(γ:ag.aN ck),k+r=W->0<W->af (al (av c)) M w0 [] w->bg (al (av c)) prog Stop true ⟨.idle,false,0,23*r+4+fw,.main (.spawn k false)⟩ γ ⟨Conc.G ((base 35).at ⟨#[j,O,N,.P Y 0,p,o,.P Z 0,.P c.wg 0,K,I,H,F,E,D,.I (W:Int),.I (k:Int),U,C,B,L,R,A,z,u,s],[]⟩ [.code ((bR.dG (f35.body.getD .skip)).getD .skip),.inLoop ((bR.dG (f35.body.getD .skip)).getD .skip),.inBlock 0,.code ((bR.er 8 (f35.body.getD .skip)).getD .skip)]) cs,w,M⟩:=by
 have kg:=(dk (bD c)).nb;induction r with
 |zero=>
  intro k j O N p o K I H F E D U C B L R A z u s w γ hk h0 hF;obtain rfl:k=W:=AX;rw[Nat.mul_zero,vbr,Nat.add_comm 4 fw];rw[<-fO (M:=M)];refine a9 (bD c) ?_;simp only[f35,vae,bR.dG,bR.er,Nat.reduceBEq,vai,↓reduceIte];repeat w_go af.on
  u_call func52 at2 f52 af.on hF
  have V:∀b,c.K b\/cj M [] b->b≠c.wg:=λb i e=>hF.eV b i (.inr (.inl e));refine vah (λa X=>⟨rfl,λkG _=>ti.at0 (f:=fw) (k:=k) h0 ok.most V (λg w' r' ha=>?_) a kG (ak.refl _ _ _)⟩);replace hF:=(hF.on X).on r';rw[fO];simp only[f35,vae,bR.er,bR.lM,bR.oM,Nat.reduceBEq,vai,↓reduceIte]at On;exact On j O N p o K I H F E D (.F) C B L R A z u s g w' hF.rw ha
 |succ r ih=>
  intro k j O N p o K I H F E D U C B L R A z u s w γ hk h0 hF;have e:23*(r+1)+4+fw=(23*r+4+fw+20)+3:=AX;rw[e];rw[<-fO (M:=M)];refine a9 (bD c) ?_;simp only[f35,vae,bR.dG,bR.er,Nat.reduceBEq,vai,↓reduceIte]at ih⊢;have aGD:decide (k<W)=true:=AF;have Of:IntKind.wrap .i64 ((k:Int)+1)=((k+1:Nat):Int):=E5;repeat w_go af.on
  u_call func48 at1 f48 af.on hF
  have V:∀b,c.K b\/cj M [] b->b≠c.wg:=λb i e=>hF.eV b i (.inr (.inl e));refine vah (λa X=>⟨rfl,λkG _=>ti.atF (f:=23*r+4+fw+20) (k:=k) ok.most V (λwY uw jZ=>?_) a kG (ak.refl _ _ _)⟩);replace hF:=(hF.on X).on jZ;clear X jZ V;refine a9 (bD c) ?_;walk_nrm
  repeat w_go af.on
  refine fN rfl hF λQ d aR aA P ax aD hr hF=>?_;refine atl hr (atk rfl rfl Ap rfl rfl) rfl rfl (f:=23*r+4+fw) (k:=k) rfl AX ?_ ?_
  .clear hr aD aA d;refine a9 (bD c) ?_;walk_nrm
   iterate 7 w_go af.on
   refine vah (λQ d=>⟨rfl,λaR aA=>?_⟩);replace hF:=hF.on d;grind[fO]
  .have Rz:af (al (av c)) (λ_=>False) w0 [] P:=⟨⟨λb i=>hF.rw.heap b (i.imp id False.elim),hF.rw.size,hF.rw.later,hF.rw.output,hF.rw.tape⟩,Ab,λb i=>hF.lt b (i.imp id (λx=>x.imp False.elim id)),λb i=>hF.eV b (i.imp id (λx=>x.elim False.elim (λy=>AF))),Ab,Ab,λ_ h=>h.elim⟩;grind[atT]
end
end xo
namespace qj
open Conc RowKit ConcM az bo ag ft ix gi iS cF xo
def at5(x:Value)(N:Nat):madeCells #[x] N=(List.replicate N x).toArray:=by unfold madeCells;grind
structure G_(c:dy)(a8:c7)(S am N n W:Nat)(rows:uas)(b3:ube)(place:Nat->Value)(cR dW b2:Nat):Prop where
 ox:c.b3=b3
 aGG:c.place=place
 a4:c.N=N
 tH:∀T,T<N->c.rows T=rows T
 hK:∀b,c.K b↔a8 b\/b=cR\/b=dW\/b=b2
 xq:c.size=.I (S:Int)
 at6:c.AJ=.I (am:Int)
 at7:c.ym=.S c.cP 0 N N
 at8:c.least=.N
 eR:c.most=n+W
 at9:c.MU=169
 aGH:c.F3=64
section
variable{P:cf}{Post:uab}
variable{a2:Frame}{aF:Act}{aC:du}{aJ:Nat}{aO:e8}{aH:fC}{csZ:dZ}
def aua{n:Nat}{Shun:uam}{S am N W:Nat}{rows:uas}{b3:ube}{place:Nat->Value}(iz:0<am)(hm:am<=64)(tk:0<W)(hW:W<=16)(hS:S<=1000)(a4:N=(S+am-1) / am)(hn:n+W<=250)(tH:ju rows N<=1000000){jt:uaa}{fD gV:Value}{c0 jM:uaj}{a8:c7}{w:aL}{nh cV:dy->Nat->Value->(Nat->Prop)->aL->Prop}(dV:∀b,a8 b->b<w.heap.size)(hZ:∀b,a8 b\/w.heap.size<=b->∀l,fq l=some b->¬Shun l)(hinv:∀w,(callMethod (.iface jt fD) "Size" #[]).run prog w=.ok (.enter c0 (#[gV]++#[])) w/\(callMethod (.iface jt fD) "Size" #[]).events prog w #[]=#[])(xq:∀(ST:Bool->fi.Lo->aX->Prop) bs,(∀m l g w M M',(∀b,M b->M' b)->ST m l ⟨g,w,M⟩->ST m l ⟨g,w,M'⟩)->jw prog ST true c0 (#[gV]++#[]) (jV fi () a8 w bs) (λu bx=>u=.I (S:Int)/\bx=jV fi () a8 w bs))(Kw:∀c b4 Stop d e b2,G_ c a8 S am N n W rows b3 place d e b2->(∀b,a8 b->b4.heap[b]?=w.heap[b]?)->ub c b4 prog Stop 110 (.iface jt fD) jM gV (λT=>T*am) (λT=>min (T*am+am) S) (nh c) (cV c))(Up:∀c b4 d e b2(f V U j i Q P O L I H o F E R B A z r:Value) de n' bQ M' D w',G_ c a8 S am N n W rows b3 place d e b2->ak fi a8 w b4->b4.heap[d]?=some (.cells #[.P c.st 0] 121)->Kp c (cV c) de (λ_=>False) b4 n' bQ M' D w'->bU prog Post n' bQ 0 (Conc.G ((base 35).at ⟨#[f,V,U,.P e 0,j,i,.P d 0,.P c.wg 0,Q,P,O,L,I,H,.I (W:Int),.I (W:Int),o,F,E,R,.tuple #[],B,A,z,r],[]⟩ [.inRegion (bR.oM ((bR.er 8 (f35.body.getD .skip)).getD .skip)) [],.code (bR.lM ((bR.er 8 (f35.body.getD .skip)).getD .skip))]) (a2.at aF (.inRegion aC (aJ::aO)::aH)::csZ)) w'):
 bU prog Post n Shun 0 (Conc.G (Frame.enter prog 35 #[.agg #[.I (W:Int),.I (am:Int)],.iface jt fD] .normal) (a2.at aF (.inRegion aC (aJ::aO)::aH)::csZ)) w:=by
 have jX:af fi a8 w [] w:=af.start (λb Z=>AF) (λb _ h=>h.elim) (λ_ _ h=>h.elim);refine AZ (aq5 (X:=⟨_,w,cj a8 []⟩) (asT (ST:=λ_ _ Y=>∃st cP d b2 e wg bs,∃(f V U j i Q P O L I H o F E R jk B A z r:Value),af fi a8 w bs Y.w/\(∀x∈[(wg,Obj.cells #[.int .u64 0,.int .u32 0] 133),(d,Obj.cells #[.P st 0] 121),(st,Obj.cells #[.int .i32 0,.int .u32 0,.I (S:Int),.I (am:Int),.I 0,.I 0,.S cP 0 N N,.N] 169),(cP,Obj.cells (madeCells #[.N] N) 64),(e,Obj.cells #[.iface jt fD] 120),(b2,Obj.cells #[.I (W:Int),.I (am:Int)] 60)],x∈bs)/\Y.g=Conc.G ((base 35).at ⟨#[f,V,U,.P e 0,j,i,.P d 0,.P wg 0,Q,P,O,L,I,H,.I (W:Int),.I (0:Int),o,F,E,R,jk,B,A,z,r],[]⟩ [.code ((bR.dG (f35.body.getD .skip)).getD .skip),.inLoop ((bR.dG (f35.body.getD .skip)).getD .skip),.inBlock 0,.code ((bR.er 8 (f35.body.getD .skip)).getD .skip)]) (a2.at aF (.inRegion aC (aJ::aO)::aH)::csZ)/\∀b,cj a8 bs b->Y.mine b) (N:=N) (W:=W) iz a4 AX AX hinv (λbs=>xq _ bs (λm l g w M M' yZ h=>by obtain⟨st,cP,d,b2,e,wg,bs,f,V,U,j,i,Q,P,O,L,I,H,o,F,E,R,jk,B,A,z,r,hk,bH,hg,c2⟩:=h;exact⟨st,cP,d,b2,e,wg,bs,f,V,U,j,i,Q,P,O,L,I,H,o,F,E,R,jk,B,A,z,r,hk,bH,hg,λb Z=>yZ b (c2 b Z)⟩)) (λst cP d b2 e wg bs w' f V U j i Q P O L I H o F E R jk B A z r hk bH _=>.stop ⟨st,cP,d,b2,e,wg,bs,f,V,U,j,i,Q,P,O,L,I,H,o,F,E,R,jk,B,A,z,r,hk,bH,rfl,λ_ h=>h⟩) w jX) rfl (λb Z=>dV b (by simp_all[fO])) (λb Z=>hZ b (by simp_all[fO])) (λY kz hl=>.stop (λk=>?_)));obtain⟨st,cP,d,b2,e,wg,bs,f,V,U,j,i,Q,P,O,L,I,H,o,F,E,R,jk,B,A,z,r,hk,bH,hg,c2⟩:=kz;rw[hg];have I1:=hk.cW _ (bH (wg,Obj.cells #[.int .u64 0,.int .u32 0] 133) Ab);have fA:=hk.cW _ (bH (d,Obj.cells #[.P st 0] 121) Ab);have hst:=hk.cW _ (bH (st,Obj.cells #[.int .i32 0,.int .u32 0,.I (S:Int),.I (am:Int),.I 0,.I 0,.S cP 0 N N,.N] 169) Ab);have tG:=hk.cW _ (bH (cP,Obj.cells (madeCells #[.N] N) 64) Ab);have FW:=hk.cW _ (bH (e,Obj.cells #[.iface jt fD] 120) Ab);have cG:=hk.cW _ (bH (b2,Obj.cells #[.I (W:Int),.I (am:Int)] 60) Ab);have hne:∀{a b:Nat}{x y:df}{s t:uaa},Y.w.heap[a]?=some (.cells x s)->Y.w.heap[b]?=some (.cells y t)->s≠t->a≠b:=by grind
 have nI:∀x∈[(wg,Obj.cells #[.int .u64 0,.int .u32 0] 133),(d,Obj.cells #[.P st 0] 121),(st,Obj.cells #[.int .i32 0,.int .u32 0,.I (S:Int),.I (am:Int),.I 0,.I 0,.S cP 0 N N,.N] 169),(cP,Obj.cells (madeCells #[.N] N) 64),(e,Obj.cells #[.iface jt fD] 120),(b2,Obj.cells #[.I (W:Int),.I (am:Int)] 60)],¬a8 x.1/\w.heap.size<=x.1/\x.1<Y.w.heap.size:=by
  intro x hx;have h1:x.1∈bs.map (·.1):=vbl.2 ⟨x,bH x hx,rfl⟩;have h2:¬a8 x.1:=λh=>hk.sX x.1 h1 (.inr h);have h3:Y.mine x.1:=c2 _ (.inr h1);rcases hl.new x.1 h3 with h|h
  .simp_all[fO]
  grind
 have aGI:=nI (wg,Obj.cells #[.int .u64 0,.int .u32 0] 133) Ab;have aGJ:=nI (d,Obj.cells #[.P st 0] 121) Ab;have Uo:=nI (st,Obj.cells #[.int .i32 0,.int .u32 0,.I (S:Int),.I (am:Int),.I 0,.I 0,.S cP 0 N N,.N] 169) Ab;have aGK:=nI (cP,Obj.cells (madeCells #[.N] N) 64) Ab;have aGL:=nI (e,Obj.cells #[.iface jt fD] 120) Ab;have aGM:=nI (b2,Obj.cells #[.I (W:Int),.I (am:Int)] 60) Ab;have aub:∀b,a8 b->Y.w.heap[b]?=w.heap[b]?:=λb Z=>hk.rw.heap b (.inr Z);have hsz:w.heap.size<=Y.w.heap.size:=hk.rw.size;have auc:∀b,(a8 b\/b=d\/b=e\/b=b2)->b≠st/\b≠wg/\b≠cP:=by grind
 let c:dy:={st:=st,cP:=cP,wg:=wg,MU:=169,F3:=64,tWg:=133,N:=N,rows:=(λT=>if T<N then rows T else n),size:=.I (S:Int),AJ:=.I (am:Int),ym:=.S cP 0 N N,least:=.N,b3:=b3,place:=place,K:=(λb=>a8 b\/b=d\/b=e\/b=b2),most:=n+W,C:=31,eV:=⟨hne hst I1 AU,hne hst tG AU,hne I1 tG AU⟩,AK:=auc}
 have uz:G_ c a8 S am N n W rows b3 place d e b2:=⟨rfl,rfl,rfl,λT h=>vbv h,λb=>Iff.rfl,rfl,rfl,rfl,rfl,rfl,rfl,rfl⟩;have Ul:N<=S+am:=by rw[a4];exact vad (Nat.div_le_self _ _) AX
 have hmul:(N+1)*am<=2000*64:=Nat.mul_le_mul AX hm;have ok:uy c S am N:=⟨rfl,rfl,rfl,(by
  show ju c.rows N<=1000000;rw[Je (g:=rows) (λp hp=>vbv hp)];grind),AF,AF,AF⟩
 have J:=λStop=>Kw c Y.w Stop d e b2 uz aub;have zG:∀b,c.K b\/(al (av c)).hX b->b<Y.w.heap.size/\∀l,fq l=some b->¬Shun l:=by
  rintro b ((h|rfl|rfl|rfl)|(h|h|h))
  .exact⟨vap (dV b h) hsz,hZ b (.inl h)⟩
  .grind
  .grind
  .grind
  .grind
  .grind
  grind
 refine as7 (c:=c) (cV:=cV c) (J (λ_ _ _=>True)).mono (n:=n) (mA:=λg'=>∃(f V U j i Q P O L I H o F E R B A z r:Value),g'=Conc.G ((base 35).at ⟨#[f,V,U,.P e 0,j,i,.P d 0,.P c.wg 0,Q,P,O,L,I,H,.I (W:Int),.I (W:Int),o,F,E,R,.tuple #[],B,A,z,r],[]⟩ [.inRegion (bR.oM ((bR.er 8 (f35.body.getD .skip)).getD .skip)) [],.code (bR.lM ((bR.er 8 (f35.body.getD .skip)).getD .skip))]) (a2.at aF (.inRegion aC (aJ::aO)::aH)::csZ)) (w:=Y.w.at k) (w0:=Y.w.at k) (M:=λ_=>False) (Shun:=Shun) (f0:=23*W+4+0) (v:=0) (b0:=⟨0,false,0,0,0,List.replicate N (.N),none⟩) rfl (vbp (Nat.lt_irrefl _)).symm (vdc _ _) ⟨rfl,rfl,rfl,rfl,rfl,⟨by simp;rfl,λp hp=>by show(List.replicate N (Value.slice none 0 0))[p]?=some (.N);rw[List.getElem?_replicate,vbv (show p<N from hp)]⟩,rfl⟩ ⟨?_,?_,λ_=>?_⟩ (λb h=>h.elim) (λb Z=>zG b (Z.resolve_left K8)) (λk'=>?_) (λg' na de n' bQ M' D w' cr=>?_)
 .show Y.w.heap[st]?=some (gS (av c) ⟨false,false,false,0,0,0⟩ ⟨0,false,0,0,0,List.replicate N (.N),none⟩);rw[hst];simp[gS,bn.word,c]
 .show Y.w.heap[wg]?=some (s4 c ⟨0,false,0,0,0,List.replicate N (.N),none⟩);rw[I1];simp[s4,c]
 .show Y.w.heap[cP]?=_;rw[tG,at5];rfl
 .refine at4 (c:=c) (b4:=Y.w) (w0:=Y.w.at k) (M:=λ_=>False) ok rfl (at3 (J (λ_ _ _=>True)).mono) (J _) (λq M f' g w kl hq=>.inr ⟨q,f',rfl,hq,kl⟩) (fw:=0) (W:=W) (cs:=a2.at aF (.inRegion aC (aJ::aO)::aH)::csZ) (.inr KB) (.inr (.inr KB)) ⟨jt,fD,rfl⟩ AX (λb Z=>rfl) AF fA FW (λf V U j i Q P O L I H o F E R jk B A z r g w' hr ha=>?_) W 0 f V U j i Q P O L I H o F E R jk B A z r ((Y.w.at k).at k') _ AX tk ?_
  .obtain⟨g1,h1,h2⟩:=ha;exact⟨⟨rfl,rfl,rfl⟩,⟨g1,h1,_,⟨f,V,U,j,i,Q,P,O,L,I,H,o,F,E,R,B,A,z,r,rfl⟩,h2⟩,hr,λb h=>h.elim⟩
  .exact⟨⟨λ_ _=>rfl,vac _,.refl _,rfl,rfl⟩,Ab,λb Z=>(zG b AF).1,λb Z=>by
    rcases Z with h|h|h
    .grind
    .grind
    .simp at h,by simp,by simp,λ_ h=>h.elim⟩
 .obtain⟨f,V,U,j,i,Q,P,O,L,I,H,o,F,E,R,B,A,z,r,rfl⟩:=na;exact Up c (Y.w.at k) d e b2 f V U j i Q P O L I H o F E R B A z r de n' bQ M' D w' uz ⟨hk.rw.heap,hk.rw.size,hk.rw.later,hk.rw.output,hk.rw.tape⟩ fA cr
end
section
section
variable{Post:uab}
variable{a2:Frame}{aF:Act}{aC:du}{aJ:Nat}{aO:e8}{aH:fC}{csZ:dZ}
def aud{n:Nat}{Shun:uam}{S am N W:Nat}{rows:uas}(x:0<am)(y:am<=64)(t:0<W)(A:W<=16)(hS:S<=1000)(a4:N=(S+am-1) / am)(hn:n+W<=250)(tH:ju rows N<=1000000){jt:uaa}{p gV:Value}{s jM:uaj}{a8:c7}{w:aL}{nh cV:dy->Nat->Value->(Nat->Prop)->aL->Prop}(E:∀b,a8 b->b<w.heap.size)(z:∀b,a8 b\/w.heap.size<=b->∀l,fq l=some b->¬Shun l)(hinv:∀w,(callMethod (.iface jt p) "Size" #[]).run prog w=.ok (.enter s (#[gV]++#[])) w/\(callMethod (.iface jt p) "Size" #[]).events prog w #[]=#[])(xq:∀(ST:Bool->fi.Lo->aX->Prop) bs,(∀m l g w M M',(∀b,M b->M' b)->ST m l ⟨g,w,M⟩->ST m l ⟨g,w,M'⟩)->jw prog ST true s (#[gV]++#[]) (jV fi () a8 w bs) (λu F=>u=.I (S:Int)/\F=jV fi () a8 w bs))(K:∀c b4 Stop d o b2,G_ c a8 S am N n W rows (λ_=>false) (λ_=>undef) d o b2->(∀b,a8 b->b4.heap[b]?=w.heap[b]?)->ub c b4 prog Stop 110 (.iface jt p) jM gV (λT=>T*am) (λT=>min (T*am+am) S) (nh c) (cV c)){V:Value->aL->Nat->(Loc->Prop)->Prop}(O:∀u w n Shun k,V u w n Shun->V u (w.at k) n Shun)(J:∀c b4 d o b2 de f e M' D w' st,G_ c a8 S am N n W rows (λ_=>false) (λ_=>undef) d o b2->ak fi a8 w b4->Kp c (cV c) de (λ_=>False) b4 f e M' D w'->st=c.st->
  Ug e (bU prog Post f e) 90 #[.S c.cP 0 N N] (w'.setCell ⟨st,0,none⟩ (.int .i32 1)) (λu j=>V u (j.setCell ⟨st,0,none⟩ (.int .i32 0)) f e/\(∃a n c,u=.slice a n c)/\j.heap[st]?=(w'.setCell ⟨st,0,none⟩ (.int .i32 1)).heap[st]?/\w'.heap.size<=j.heap.size))(hk:∀u w' f e,V u w' f e->bU prog Post f e 0 (Conc.G (a2.at (aF.put ((aC[aJ]?).bind (·.dst)) (.tuple #[u,.N])) (.inRegion aC aO::aH)) csZ) w'):
 bU prog Post n Shun 0 (Conc.G (Frame.enter prog 35 #[.agg #[.I (W:Int),.I (am:Int)],.iface jt p] .normal) (a2.at aF (.inRegion aC (aJ::aO)::aH)::csZ)) w:=by
 refine aua x y t A hS a4 hn tH E z hinv xq K (λc b4 d o b2 P dR eX R Q fS fT fU fV fW fX U fY fZ f2 f_ Z Y X de f e M' D w' h B C i=>?_);obtain⟨T,m,L,hst,H,-⟩:=i.st;obtain rfl:L=none:=by cases L with|none=>rfl|some q=>have:=(H q rfl).1;rw[h.ox]at this;cases this
 simp only[Option.elim]at hst;rw[h.xq,h.at6,h.at7,h.at8,h.at9]at hst;have I:c.K d:=(h.hK d).2 AF;have r:w'.heap[d]?=some (.cells #[.P c.st 0] 121):=(i.stands d (.inl I)).trans C;have v:=J c b4 d o b2 de f e M' D w' c.st h B i rfl;exact AZ (asQ hst r AF AF i.as3 i.as4.1 (i.Ex d (.inl (i.sub d AF)) _ rfl) (V:=λu j=>V u (j.setCell ⟨c.st,0,none⟩ (.int .i32 0)) f e) v (λu j hv=>.stop AF))
