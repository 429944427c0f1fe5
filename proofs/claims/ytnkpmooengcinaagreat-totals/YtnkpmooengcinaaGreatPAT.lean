import Derived.Test.YtnkpmooengcinaaGreatPAN
import Derived.Test.YtnkpmooengcinaaGreatPAO
import Derived.Test.YtnkpmooengcinaaGreatPAP
import Derived.Test.YtnkpmooengcinaaGreatPAQ
import Derived.Test.YtnkpmooengcinaaGreatPAR
set_option linter.all false
set_option maxRecDepth 100000
set_option maxHeartbeats 16000000
namespace Go.Proofs.YtnkpmooengcinaaGreat
open Go.Proofs.Tryz
namespace eW
open Conc RowKit Conc.Lib ConcR.Gen ConcM av bn ae ej fY bM
theorem yg:(f82.name== "runtime.NumGoroutine")=false:=by kernel_rfl
structure tO(c:db)(S ab e8:Nat):Prop where
 size:c.size=.I (S:Int)
 zX:c.zX=.I (ab:Int)
 xN:c.xN=.S c.cx 0 c.N e8
 oD:iY c.rows c.N<=300
 room:(c.N+1)*ab+S<4611686018427387904
 most:c.most<=250
 small:c.N<4611686018427387904
section
variable{c:db}{Stop:Bool->ae.Lo At->aV->Prop}{mine:c5}{S ab e8:Nat}
variable{aY:Frame}{aF:Act}{az:eQ}{aI:Nat}{aK:uag}{aG:uab}{csZ:fA}
def anJ(ok:tO c S ab e8){T:Nat}(h:T<c.N):(T:Int)*(ab:Int)=((T*ab:Nat):Int)/\T*ab+ab+S<4611686018427387904:=by refine⟨AN,?_⟩;have b:(T+1)*ab<=(c.N+1)*ab:=Nat.mul_le_mul_right _ AY;have a:=ok.room;grind
def anK(ok:tO c S ab e8){T:Nat}(h:T<c.N):∃F a E:Nat,(T:Int)*(ab:Int)=(F:Int)/\IntKind.wrap .i64 (F:Int)=(F:Int)/\IntKind.wrap .i64 ((F:Int)+(ab:Int))=(a:Int)/\(if S<a then(S:Int)else(a:Int))=(E:Int)/\qC (F=T*ab/\E=min (T*ab+ab) S):=by
 obtain⟨b,d⟩:=anJ ok h;refine⟨T*ab,T*ab+ab,min (T*ab+ab) S,b,?_,?_,?_,U,U⟩
 .rw[IntKind.wrap_i64];omega
 .rw[IntKind.wrap_i64];omega
 grind
def anL(ok:tO c S ab e8){T:Nat}(h:T<c.N):IntKind.wrap .i64 ((T:Int)+1)=((T+1:Nat):Int):=by have:=ok.small;rw[IntKind.wrap_i64];omega
def R7(S ab T:Nat):Value:=.agg #[.I (T:Int),.I ((T*ab:Nat):Int),.I ((min (T*ab+ab) S:Nat):Int)]
def R8(aF:Act)(az:eQ)(aI:Nat)(v:Value):Act:=aF.put ((az[aI]?).bind (·.dst)) v
def anM(i:Bool)(ok:tO c S ab e8){f:Nat}{p:uac}{w0:aH}(hS:∀m l g w M M',(∀b,M b->M' b)->Stop m l ⟨g,w,M⟩->Stop m l ⟨g,w,M'⟩)(a5:∀w' ah,ai (ak (ar c)) mine w0 w'->c.N<=ah.aj.taken->bd (ak (ar c)) prog Stop false ⟨.idle,false,0,f+1,.work .free p⟩ ah ⟨Conc.G (aY.at (R8 aF az aI (.tuple #[.agg #[.I 0,.I 0,.I 0],.F])) (.inRegion az aK::aG)) csZ,w',mine⟩)(gj:∀w' ah T,ai (ak (ar c)) mine w0 w'->T<c.N->bd (ak (ar c)) prog Stop false ⟨.idle,false,0,f+c.C,.work (.has T) p⟩ ah ⟨Conc.G (aY.at (R8 aF az aI (.tuple #[R7 S ab T,.T])) (.inRegion az aK::aG)) csZ,w',mine⟩)(w:aH)(γ:ae.aM cj)(hk:af (ak (ar c)) mine w0 [] w):
 bd (ak (ar c)) prog Stop false ⟨.idle,false,0,f+15,.work .free p⟩ γ ⟨Conc.G ((base (ba i 74 108)).at ⟨#[.P c.st 0]++Array.replicate 64 undef,[]⟩ [.code ((ba i f74 f108).body.getD .skip)]) (aY.at aF (.inRegion az (aI::aK)::aG)::csZ),w,b8 mine []⟩:=by
 cases i<;>dsimp only[ba]
 all_goals
  have hF:=hk;have jU:=(df (bu c)).mO;have W:prog.follows .mixedOrders=true:=AU;refine a8 (bu c) ?_;simp only[ba,f74,f108,vah];walk_nrm
  repeat w_go af.on
  refine fU rfl hF λo j J s n N B y hF=>?_;refine tg AN jU rfl hF (vau (v:=.P n.heap.size 0) (w':=n.alloc (Obj.cells #[Value.I 0,Value.I 0,Value.I 0] 175)) rfl rfl Ad Ah) rfl A1 (λr=>?_);clear hF;have hF:=r;clear r y B s j;generalize n.heap.size=b0 at hF⊢;generalize n.alloc (Obj.cells #[Value.I 0,Value.I 0,Value.I 0] 175)=w3 at hF⊢;refine a8 (bu c) ?_;walk_nrm
  repeat w_go af.on
  u_call func81 IP f81 af.on hF
  have R:∀b,(ar c).K b\/b8 mine [(b0,Obj.cells #[Value.I 0,Value.I 0,Value.I 0] 175)] b->b≠(ar c).st:=λb D e=>hF.eK b D (.inl e);refine vaf (λz U=>⟨rfl,λV _=>R5 (f:=f+9) (bu c) (a:=.work .free p) I3 ok.most R (λP su Q=>?_) z V (ai.refl _ _ _)⟩);replace hF:=(hF.on U).on Q;clear U Q R;refine a8 (bu c) ?_;walk_nrm
  repeat w_go af.on
  u_defer af.on hF
  repeat w_go af.on
  refine vaf (λo j=>⟨rfl,λJ s=>?_⟩);replace hF:=hF.on j;clear j s;refine bd.seen (df (bu c)) rfl λJ _ kS=>?_;obtain⟨xs,j8,si,i6⟩:=tj kS;obtain⟨d,hd⟩:∃d,hh.of J.aj=d:=⟨_,rfl⟩;have MF:d.T<=c.N:=by subst hd;exact i6.aW
  have cX:d.M<=300:=by subst hd;exact vac i6.W8 ok.oD
  clear si i6 kS;by_cases hT:d.T=c.N
  .skip
   refine zV (Z:=ak (ar c)) (C:=BO c mine w0 (d) ⟨.own,true,0,f+9,.work .free p⟩) AN Ad W I_ H6 (σ:=mj c mine w0 (d) ⟨.own,true,0,f+9,.work .free p⟩ [(b0,Obj.cells #[Value.I 0,Value.I 0,Value.I 0] 175)]) (ib:=q2 prog Stop false _ _ _ _ []) IG ⟨_,rfl⟩ ?_ _ J ⟨hF,hd⟩;walk_nrm
   refine eN 0 (.P c.st 0) ?_;walk_nrm
   refine eN 1 (.P c.st 0) ?_;walk_nrm
   refine eN 2 (.P c.st 4) ?_;walk_nrm
   refine iK (i:=3) (v:=.I (d.T:Int)) I_ rfl AT AT AT (uB rfl rfl rfl 2 rfl (λx I=>by grind[hh.of]) (λw q=>⟨Ah,BW⟩)) ⟨_,rfl⟩ ?_;walk_nrm
   refine eN 4 (.P c.st 0) ?_;walk_nrm
   refine eN 5 (.P c.st 0) ?_;walk_nrm
   refine eN 6 (.P c.st 6) ?_;walk_nrm
   refine iK (i:=7) (v:=.S c.cx 0 c.N e8) I_ rfl AT AT AT (uB rfl rfl rfl 4 rfl (λx I=>by subst I;simp[ok.xN]) (λw q=>⟨Ah,BW⟩)) ⟨_,rfl⟩ ?_;walk_nrm
   refine eN 8 (.I (c.N:Int)) ?_;walk_nrm
   refine eN 9 (.T) ?_;walk_nrm
   refine eN 10 (.T) ?_;walk_nrm
   refine iK (i:=11) (v:=undef) I_ rfl AT AT AT (H7 rfl) ⟨_,rfl⟩ ?_;walk_nrm
   refine iK (i:=12) (v:=undef) I_ rfl AT AT AT (H7 rfl) ⟨_,rfl⟩ ?_;walk_nrm
   refine iK (i:=13) (v:=undef) I_ rfl AT AT AT (H7 rfl) ⟨_,rfl⟩ ?_;walk_nrm
   refine iK (i:=14) (v:=undef) I_ rfl AT AT AT (H7 rfl) ⟨_,rfl⟩ ?_;walk_nrm
   refine iK (i:=15) (v:=undef) I_ rfl AT AT AT (H7 rfl) ⟨_,rfl⟩ ?_;walk_nrm
   refine eN 16 (.T) ?_;walk_nrm
   refine zU AT ?_ _;rintro o X ⟨r,K⟩;clear hd;have hd:=K;clear K;clear hF;have hF:=r;clear r;simp[mj];have Y:E6 c ⟨.own,true,0,f+9,.work .free p⟩ X:=⟨λh=>h,by have e:=vbn hh.T hd;grind[hh.of]⟩;clear hd cX MF hT;refine a8 (bu c) ?_;walk_nrm
   repeat w_go af.on
   refine fU rfl hF λo j J s n N B y hF=>?_;replace Y:=LK _ _ _ (LK _ _ _ Y s) B;have u:=hF.bI (b0,.cells #[.I 0,.I 0,.I 0] 175) Ab;refine BP AN rfl (pre:=[]) (post:=[]) hF (vcz (w':=n.setRow b0 #[.I 0,.I 0,.I 0]) rfl rfl Ad (pL u ⟨rfl,rfl,rfl⟩ rfl rfl rfl).1) rfl (λe L=>?_) (λr=>?_)
   .have H:=vbp L;rw[(pL u ⟨rfl,rfl,rfl⟩ rfl rfl rfl).2]at H;grind
   clear hF;have hF:=r;clear r u;clear y B s j;refine a8 (bu c) ?_;walk_nrm
   repeat w_go af.on
   u_in af.on hF
   rw[vbv rfl func82 yg rfl];simp only[vdm];refine⟨Be,?_⟩;walk_nrmf f82
   have R:∀b,c.K b\/b8 mine [(b0,Obj.cells #[Value.I 0,Value.I 0,Value.I 0] 175)] b->b≠c.st:=λb D e=>hF.eK b D (.inl e);refine vaf (λz U=>⟨rfl,λV vm=>anb (f:=f+1) ok.most R rfl rfl (λP su Q aA6=>?_) z V (ai.refl _ _ _) (LK _ _ _ Y vm).2⟩);replace hF:=(hF.on U).on Q;clear U Q R Y;refine bd.mk rfl (λn N B y=>?_);replace hF:=hF.on (dI.rw y);have u:=hF.bI (b0,.cells #[.I 0,.I 0,.I 0] 175) Ab;refine r9 AN rfl (λb D=>hF.eK b (.inr D)) (Xf rfl rfl Dm (MB Av (t:=.F) u rfl rfl).1 (MB Av (t:=.F) u rfl rfl).2) rfl (λe L=>?_) ?_
   .have H:=av.xr L;simp at H;rcases H with rfl|rfl|rfl<;>exact⟨rfl,.inr (.inr Ab)⟩
   rw[vcc];exact bd.more hS (a5 n N hF.rw AN) (λb D=>.inl D)
  .skip
   have O:d.T<c.N:=AY;have hne:((d.T:Int)==(c.N:Int))=false:=AN;have Fw:decide ((300:Int)<(d.M:Int))=false:=AN;obtain⟨F,I2,E,hmul,anN,anO,anP,anQ⟩:=anK ok O;refine zV (Z:=ak (ar c)) (C:=BO c mine w0 (d) ⟨.own,true,0,f+9,.work .free p⟩) AN Ad W I_ H6 (σ:=mj c mine w0 (d) ⟨.own,true,0,f+9,.work .free p⟩ [(b0,Obj.cells #[Value.I 0,Value.I 0,Value.I 0] 175)]) (ib:=q2 prog Stop false _ _ _ _ []) IG ⟨_,rfl⟩ ?_ _ J ⟨hF,hd⟩;walk_nrm
   refine eN 0 (.P c.st 0) ?_;walk_nrm
   refine eN 1 (.P c.st 0) ?_;walk_nrm
   refine eN 2 (.P c.st 4) ?_;walk_nrm
   refine iK (i:=3) (v:=.I (d.T:Int)) I_ rfl AT AT AT (uB rfl rfl rfl 2 rfl (λx I=>by grind[hh.of]) (λw q=>⟨Ah,BW⟩)) ⟨_,rfl⟩ ?_;walk_nrm
   refine eN 4 (.P c.st 0) ?_;walk_nrm
   refine eN 5 (.P c.st 0) ?_;walk_nrm
   refine eN 6 (.P c.st 6) ?_;walk_nrm
   refine iK (i:=7) (v:=.S c.cx 0 c.N e8) I_ rfl AT AT AT (uB rfl rfl rfl 4 rfl (λx I=>by subst I;simp[ok.xN]) (λw q=>⟨Ah,BW⟩)) ⟨_,rfl⟩ ?_;walk_nrm
   refine eN 8 (.I (c.N:Int)) ?_;walk_nrm
   refine eN 9 (.F) ?_;walk_nrm
   refine eN 10 (.F) ?_;walk_nrm
   refine eN 11 (.P c.st 0) ?_;walk_nrm
   refine eN 12 (.P c.st 0) ?_;walk_nrm
   refine eN 13 (.P c.st 5) ?_;walk_nrm
   refine iK (i:=14) (v:=.I (d.M:Int)) I_ rfl AT AT AT (uB rfl rfl rfl 3 rfl (λx I=>by grind[hh.of]) (λw q=>⟨Ah,BW⟩)) ⟨_,rfl⟩ ?_;walk_nrm
   refine eN 15 (.F) ?_;walk_nrm
   refine eN 16 (.F) ?_;walk_nrm
   refine zU AT ?_ _;rintro o X ⟨r,K⟩;clear hd;have hd:=K;clear K;clear hF;have hF:=r;clear r;simp[mj];clear hT MF cX hne Fw;refine a8 (bu c) ?_;walk_nrm
   repeat w_go af.on
   refine vaf (λo j=>⟨rfl,λJ s=>?_⟩);replace hF:=hF.on j;replace hd:=(tk (c:=c) (l:=⟨.own,true,0,f+9,.work .free p⟩) rfl s).trans hd;clear j s;refine zV (Z:=ak (ar c)) (C:=BO c mine w0 (d) ⟨.own,true,0,f+9,.work .free p⟩) AN Ad W I_ H6 (σ:=mj c mine w0 (d) ⟨.own,true,0,f+9,.work .free p⟩ [(b0,Obj.cells #[Value.I 0,Value.I 0,Value.I 0] 175)]) (ib:=q2 prog Stop false _ _ _ _ []) IG ⟨_,rfl⟩ ?_ _ J ⟨hF,hd⟩;walk_nrm
   refine eN 0 (.P c.st 0) ?_;walk_nrm
   refine eN 1 (.P c.st 0) ?_;walk_nrm
   refine eN 2 (.P c.st 4) ?_;walk_nrm
   refine iK (i:=3) (v:=.I (d.T:Int)) I_ rfl AT AT AT (uB rfl rfl rfl 2 rfl (λx I=>by grind[hh.of]) (λw q=>⟨Ah,BW⟩)) ⟨_,rfl⟩ ?_;walk_nrm
   refine eN 4 (.P c.st 0) ?_;walk_nrm
   refine eN 5 (.P c.st 0) ?_;walk_nrm
   refine eN 6 (.P c.st 3) ?_;walk_nrm
   refine iK (i:=7) (v:=.I (ab:Int)) I_ rfl AT AT AT (uB rfl rfl rfl 1 rfl (λx I=>by subst I;simp[ok.zX]) (λw q=>⟨Ah,BW⟩)) ⟨_,rfl⟩ ?_;walk_nrm
   refine eN 8 (.I (F:Int)) ?_;walk_nrm
   refine eN 9 (.I (F:Int)) ?_;walk_nrm
   refine zU AT ?_ _;rintro o X ⟨r,K⟩;clear hd;have hd:=K;clear K;clear hF;have hF:=r;clear r;simp[mj];refine a8 (bu c) ?_;walk_nrm
   repeat w_go af.on
   refine vaf (λo j=>⟨rfl,λJ s=>?_⟩);replace hF:=hF.on j;replace hd:=(tk (c:=c) (l:=⟨.own,true,0,f+9,.work .free p⟩) rfl s).trans hd;clear j s;refine zV (Z:=ak (ar c)) (C:=BO c mine w0 (d) ⟨.own,true,0,f+9,.work .free p⟩) AN Ad W I_ H6 (σ:=mj c mine w0 (d) ⟨.own,true,0,f+9,.work .free p⟩ [(b0,Obj.cells #[Value.I 0,Value.I 0,Value.I 0] 175)]) (ib:=q2 prog Stop false _ _ _ _ []) IG ⟨_,rfl⟩ ?_ _ J ⟨hF,hd⟩;walk_nrm
   refine eN 0 (.P c.st 0) ?_;walk_nrm
   refine eN 1 (.P c.st 0) ?_;walk_nrm
   refine eN 2 (.P c.st 4) ?_;walk_nrm
   refine iK (i:=3) (v:=.I (d.T:Int)) I_ rfl AT AT AT (uB rfl rfl rfl 2 rfl (λx I=>by grind[hh.of]) (λw q=>⟨Ah,BW⟩)) ⟨_,rfl⟩ ?_;walk_nrm
   refine eN 4 (.I (F:Int)) ?_;walk_nrm
   refine eN 5 (.I (F:Int)) ?_;walk_nrm
   refine eN 6 (.P c.st 0) ?_;walk_nrm
   refine eN 7 (.P c.st 0) ?_;walk_nrm
   refine eN 8 (.P c.st 3) ?_;walk_nrm
   refine iK (i:=9) (v:=.I (ab:Int)) I_ rfl AT AT AT (uB rfl rfl rfl 1 rfl (λx I=>by subst I;simp[ok.zX]) (λw q=>⟨Ah,BW⟩)) ⟨_,rfl⟩ ?_;walk_nrm
   refine eN 10 (.I (I2:Int)) ?_;walk_nrm
   refine eN 11 (.P c.st 0) ?_;walk_nrm
   refine eN 12 (.P c.st 0) ?_;walk_nrm
   refine eN 13 (.P c.st 2) ?_;walk_nrm
   refine iK (i:=14) (v:=.I (S:Int)) I_ rfl AT AT AT (uB rfl rfl rfl 0 rfl (λx I=>by subst I;simp[ok.size]) (λw q=>⟨Ah,BW⟩)) ⟨_,rfl⟩ ?_;walk_nrm
   refine eN 15 (.I (E:Int)) ?_;walk_nrm
   refine iK (i:=16) (v:=.agg #[.I (d.T:Int),.I (F:Int),.I (E:Int)]) I_ rfl AT AT AT (z0 rfl (λ_=>(Zo rfl rfl rfl rfl).1) (λw=>by unfold listed;rw[(Zo rfl rfl rfl rfl).2];rfl)) ⟨_,rfl⟩ ?_;walk_nrm
   refine qk (i:=17) AT (xQ rfl rfl (aks (ob:=Obj.cells #[Value.I 0,Value.I 0,Value.I 0] 175) rfl (λw=>⟨Ah,A1⟩) (λcr=>⟨⟨_,rfl⟩,?_⟩)));walk_nrm
   refine qk (i:=18) AT (xQ rfl rfl (akt rfl rfl (pre:=[]) (new:=#[.I (d.T:Int),.I (F:Int),.I (E:Int)]) (λw u=>⟨(pL u ⟨rfl,rfl,rfl⟩ rfl rfl rfl).1,λe L=>?_⟩) ⟨⟨_,rfl⟩,?_⟩))
   .have H:=vbp L;rw[(pL u ⟨rfl,rfl,rfl⟩ rfl rfl rfl).2]at H;grind
   walk_nrm
   refine zU AT ?_ _;rintro o X ⟨r,K⟩;clear hF hd;have hF:=r;have hd:=K;clear r K;simp[mj]at hF⊢;refine a8 (bu c) ?_;walk_nrm
   repeat w_go af.on
   refine fU rfl hF λo j J s n N B y hF=>?_;replace hd:=(tk (c:=c) (l:=⟨.own,true,0,f+9,.work .free p⟩) rfl B).trans ((tk (c:=c) (l:=⟨.own,true,0,f+9,.work .free p⟩) rfl s).trans hd);clear s B j;have q:n.cell? (.a c.st 4)=some (.I (d.T:Int)):=by rw[z1 y.mt.1 2];subst hd;simp[hh.of]
   refine H8 (k:=2) rfl rfl ((vau (v:=.I (d.T:Int)) rfl rfl Ad Ah).trans (vbn (λes=>GStep.go _ _ es) BW)) rfl ?_;clear q y;have anR:IntKind.wrap .i64 ((d.T:Int)+1)=((d.T+1:Nat):Int):=anL ok O;refine a8 (bu c) ?_;walk_nrm
   repeat w_go af.on
   refine fU rfl hF λo j J s n N B y hF=>?_;replace hd:=(tk (c:=c) (l:=⟨.own,true,0,f+9,.work .free p⟩) rfl B).trans ((tk (c:=c) (l:=⟨.own,true,0,f+9,.work .free p⟩) rfl s).trans hd);clear s B j;have q:n.cell? (.a c.st 4)=some (.I (d.T:Int)):=by rw[z1 y.mt.1 2];subst hd;simp[hh.of]
   have m0:n.frozen? ⟨c.st,4,none⟩=false:=by simp[World.frozen?,y.mt.1,gE]
   refine akk (f1:=f+c.C+8) (v:=.I ((d.T+1:Nat):Int)) y ((vcz rfl rfl Ad Ah).trans (vbn (λes=>GStep.go _ _ es) (by simp[listed,go_sem,q,m0];rfl))) rfl (by subst hd;rfl) rfl rfl rfl (by subst hd;exact O) AN ?_;have e1:N.aj.taken=d.T:=by subst hd;rfl
   have r:=hF.shared (k:=c.st) (off:=4) (sp:=none) Ij (.I ((d.T+1:Nat):Int));clear hF;have hF:=r;clear r q m0 y;rw[e1];clear hd e1 anN anO anR hmul anP;dsimp only;generalize n.setCell ⟨c.st,4,none⟩ (.I ((d.T+1:Nat):Int))=w4 at hF⊢;refine a8 (bu c) ?_;walk_nrm
   repeat w_go af.on
   refine fU rfl hF λo j J s n N B y hF=>?_;have u:=hF.bI (cr,.cells #[.I (d.T:Int),.I (F:Int),.I (E:Int)] 175) Ab;refine r9 AN rfl (λb D=>hF.eK b (.inr D)) (vau rfl rfl Ad (Ap u rfl rfl).1) rfl (λe L=>?_) ?_
   .have H:=vbp L;rw[(Ap u rfl rfl).2]at H;simp at H;rcases H with rfl|rfl|rfl<;>exact⟨rfl,.inr (.inr Ab)⟩
   clear u y B s j;refine a8 (bu c) ?_;walk_nrm
   repeat w_go af.on
   refine fU rfl hF λo j J s n N B y hF=>?_;have u:=hF.bI (b0,Obj.cells #[Value.I 0,Value.I 0,Value.I 0] 175) Ab;refine BP AN rfl (pre:=[(cr,.cells #[.I (d.T:Int),.I (F:Int),.I (E:Int)] 175)]) (post:=[]) hF (vcz (w':=n.setRow b0 #[.I (d.T:Int),.I (F:Int),.I (E:Int)]) rfl rfl Ad (pL u ⟨rfl,rfl,rfl⟩ rfl rfl rfl).1) rfl (λe L=>?_) (λr=>?_)
   .have H:=vbp L;rw[(pL u ⟨rfl,rfl,rfl⟩ rfl rfl rfl).2]at H;grind
   clear hF;have hF:=r;clear r u y B s j;simp only[List.cons_append,vdy]at hF⊢;refine a8 (bu c) ?_;walk_nrm
   repeat w_go af.on
   u_in af.on hF
   rw[vbv rfl func82 yg rfl];simp only[vdm];refine⟨Be,?_⟩;walk_nrmf f82
   have R:∀b,(ar c).K b\/b8 mine [(cr,.cells #[.I (d.T:Int),.I (F:Int),.I (E:Int)] 175),(b0,.cells #[.I (d.T:Int),.I (F:Int),.I (E:Int)] 175)] b->b≠(ar c).st:=λb D e=>hF.eK b D (.inl e);refine vaf (λz U=>⟨rfl,λV vm=>RQ (A:=ar c) (f:=f+c.C) (bu c) (a:=.work (.has d.T) p) I3 ok.most R rfl rfl (λP su Q=>?_) z V (ai.refl _ _ _)⟩);replace hF:=(hF.on U).on Q;clear U Q R;refine bd.mk rfl (λn N B y=>?_);replace hF:=hF.on (dI.rw y);have u:=hF.bI (b0,.cells #[.I (d.T:Int),.I (F:Int),.I (E:Int)] 175) Ab;refine r9 AN rfl (λb D=>hF.eK b (.inr D)) (Xf rfl rfl Dm (MB Av (t:=.T) u rfl rfl).1 (MB Av (t:=.T) u rfl rfl).2) rfl (λe L=>?_) ?_
   .have H:=av.xr L;simp at H;rcases H with rfl|rfl|rfl<;>exact⟨rfl,.inr (.inr Ab)⟩
   rw[vcc];have eL:R7 S ab d.T=.agg #[.I (d.T:Int),.I (F:Int),.I (E:Int)]:=by obtain⟨rfl,rfl⟩:=qC.out anQ;rfl
   have h_:=gj n N d.T hF.rw O;rw[eL]at h_;exact bd.more hS h_ (λb D=>.inl D)
end
end eW
namespace lE
open Conc RowKit Conc.Lib ConcR.Gen ConcM bn cW tM bM
section
section
variable{Shun:uan}{Stop:uax}
variable{aY:Frame}{aF:Act}{az:eQ}{aI:Nat}{aK:uag}{aG:uab}{csZ:fA}
def MG(Shun:uan)(Stop:uax)(f:ual)(args:dC)(w:aH)(V:fE):Prop:=
 ∀(FL:Frame)(a₂:Act)(Dl:eQ)(FM:Nat)(FN:uag)(kY:uab)(FO:fA),
  (∀u w',V u w'->er prog Shun Stop 0 (Conc.G (FL.at (a₂.put ((Dl[FM]?).bind (·.dst)) u) (.inRegion Dl FN::kY)) FO) w')->
  er prog Shun Stop 0 (Conc.G (Frame.enter prog f args .normal) (FL.at a₂ (.inRegion Dl (FM::FN)::kY)::FO)) w
def anS(i:Bool){st h dh wg W:Nat}{N cK c_ O Q e9 e_ fa fb fc fd fD fm Z Y X f_ U T z y ku kv r:Value}{w:aH}{V:fE}(p:w.heap[st]?=some (Obj.cells #[.int .i32 0,.int .u32 0,z,y,ku,kv,r,.N] (ba i 160 218)))(x:w.heap[h]?=some (.cells #[.P st 0] (ba i 114 185)))(P:h≠st)(Fe:∃a n c,r=.slice a n c)(jO:∀off sp,2<=off->¬Shun (.cell ⟨st,off,sp⟩))(t:Shun (.cell ⟨st,0,none⟩))(K:¬Shun (.cell ⟨h,0,none⟩))(C:MG Shun Stop (ba i 83 110) #[r] (w.setCell ⟨st,0,none⟩ (.int .i32 1)) (λu w'=>V u w'/\(∃a n c,u=.slice a n c)/\w'.heap[st]?=(w.setCell ⟨st,0,none⟩ (.int .i32 1)).heap[st]?/\w.heap.size<=w'.heap.size))(hk:∀u w',V u w'->er prog Shun Stop 0 (Conc.G (aY.at (aF.put ((az[aI]?).bind (·.dst)) (.tuple #[u,.N])) (.inRegion az aK::aG)) csZ) (w'.setCell ⟨st,0,none⟩ (.int .i32 0))):
 er prog Shun Stop 0 (Conc.G ((base (ba i 28 48)).at ⟨#[N,cK,c_,.P dh 0,O,Q,.P h 0,.P wg 0,e9,e_,fa,fb,fc,fd,.I (W:Int),.I (W:Int),fD,fm,Z,Y,.tuple #[],X,f_,U,T],[]⟩ [.inRegion (bM.pI ((bM.ed 8 ((ba i f28 f48).body.getD .skip)).getD .skip)) [],.code (bM.lY ((bM.ed 8 ((ba i f28 f48).body.getD .skip)).getD .skip))]) (aY.at aF (.inRegion az (aI::aK)::aG)::csZ)) w:=by
 generalize H:ba i 160 218=ny at *;generalize F:ba i 114 185=qD at *;cases i<;>dsimp only[ba]at *
 all_goals
  replace H:=H.symm;replace F:=F.symm;obtain⟨sa,m,mB,rfl⟩:=Fe;have FR:st<w.heap.size:=(vag.1 p).1;have R9:h<w.heap.size:=(vag.1 x).1;have D:w.cell? (.a h 0)=some (.P st 0):=by simp[World.cell?,x]
  have Ar:w.cell? (.a st 0)=some (.int .i32 0):=by simp[World.cell?,p]
  have J:w.frozen? ⟨st,0,none⟩=false:=by simp[World.frozen?,p]
  have o:(w.setCell ⟨st,0,none⟩ (.int .i32 1)).heap[st]?=some (Obj.cells #[.int .i32 1,.int .u32 0,z,y,ku,kv,.slice sa m mB,.N] ny):=by simp[World.setCell,vay,p]
  have hF:=atRel_refl w;simp[ba,f28,f48,bM.ed,bM.lY,bM.pI];refine jz (R:=AtRel) IZ 300 _ _ ?_;repeat w_go cI
  refine vaf (λg f=>?_);replace hF:=cI hF f;obtain⟨d,rfl⟩:=hF;clear f;refine mh rfl (w1:=w.at d) (es:=#[⟨.cell ⟨h,0,none⟩,false,false⟩]) (λk=>(vau (v:=.P st 0) rfl rfl Ad (by have l:((w.at d).at k).cell? (.a h 0)=some (.P st 0):=D;go_simp)).trans (vbn (λes=>GStep.go _ _ es) (by have l:((w.at d).at k).cell? (.a h 0)=some (.P st 0):=D;simp[listed,go_sem,l];rfl))) ?_ IB ?_
  .intro e j;simp at j;subst j;exact BE K R9 _
  show er prog Shun Stop 0 _ _;have hF:AtRel w (w.at d):=⟨d,rfl⟩;refine jz (R:=AtRel) IZ 300 _ _ ?_;walk_nrm
  repeat w_go cI
  first|u_call func46 AU f46 cI hF|u_call func87 AU f87 cI hF
  repeat w_go cI
  u_call func81 bM.IP f81 cI hF
  refine vaf (λg f=>?_);replace hF:=cI hF f;obtain⟨d,rfl⟩:=hF;clear f;refine Zl (w:=w.at d) Ar J t FR ?_;have hF:AtRel (w.setCell ⟨st,0,none⟩ (.int .i32 1)) ((w.at d).setCell ⟨st,0,none⟩ (.int .i32 1)):=⟨d,rfl⟩;have hsz:(w.setCell ⟨st,0,none⟩ (.int .i32 1)).heap.size=w.heap.size:=ae.k6 _ _ _;generalize w.setCell ⟨st,0,none⟩ (.int .i32 1)=w2 at hF C o hsz;generalize(w.at d).setCell ⟨st,0,none⟩ (.int .i32 1)=w3 at hF⊢;have B:st<w2.heap.size:=AY;have s:w2.cell? (.a st 7)=some (.N):=by simp[World.cell?,o]
  have E:w2.cell? (.a st 6)=some (.slice sa m mB):=by simp[World.cell?,o]
  refine jz (R:=AtRel) IZ 300 _ _ ?_;walk_nrm
  repeat w_go cI
  u_defer cI hF
  repeat w_go cI
  refine vaf (λg f=>?_);replace hF:=cI hF f;obtain⟨d,rfl⟩:=hF;clear f;refine mh rfl (w1:=w2.at d) (es:=#[⟨.cell ⟨st,7,none⟩,false,false⟩]) (λk=>(vau (v:=.N) rfl rfl Ad (by have l:((w2.at d).at k).cell? (.a st 7)=some (.N):=s;go_simp)).trans (vbn (λes=>GStep.go _ _ es) (by have l:((w2.at d).at k).cell? (.a st 7)=some (.N):=s;simp[listed,go_sem,l];rfl))) ?_ IB ?_
  .intro e j;simp at j;subst j;exact BE AN B _
  show er prog Shun Stop 0 _ _;have hF:AtRel w2 (w2.at d):=⟨d,rfl⟩;refine jz (R:=AtRel) IZ 300 _ _ ?_;walk_nrm
  repeat w_go cI
  refine vaf (λg f=>?_);replace hF:=cI hF f;obtain⟨d,rfl⟩:=hF;clear f;refine mh rfl (w1:=w2.at d) (es:=#[]) (λk=>(vau (v:=.F) rfl rfl Ad BY).trans (vbn (λes=>GStep.go _ _ es) A8)) Ab IB ?_;show er prog Shun Stop 0 _ _;have hF:AtRel w2 (w2.at d):=⟨d,rfl⟩;refine jz (R:=AtRel) IZ 300 _ _ ?_;walk_nrm
  repeat w_go cI
  refine vaf (λg f=>?_);replace hF:=cI hF f;obtain⟨d,rfl⟩:=hF;clear f;refine mh rfl (w1:=w2.at d) (es:=#[⟨.cell ⟨st,6,none⟩,false,false⟩]) (λk=>(vau (v:=.slice sa m mB) rfl rfl Ad (by have l:((w2.at d).at k).cell? (.a st 6)=some (.slice sa m mB):=E;go_simp)).trans (vbn (λes=>GStep.go _ _ es) (by have l:((w2.at d).at k).cell? (.a st 6)=some (.slice sa m mB):=E;simp[listed,go_sem,l];rfl))) ?_ IB ?_
  .intro e j;simp at j;subst j;exact BE AN B _
  show er prog Shun Stop 0 _ _;have hF:AtRel w2 (w2.at d):=⟨d,rfl⟩;refine jz (R:=AtRel) IZ 300 _ _ ?_;walk_nrm
  repeat w_go cI
  refine vaf (λg f=>?_);replace hF:=cI hF f;obtain⟨d,rfl⟩:=hF;clear f;refine mh rfl (w1:=w2) (es:=#[]) (λk=>(stepG_enter rfl rfl Ad (gH.pw (b:=base 0) (vs:=#[.slice sa m mB]) rfl (by first|exact func83|exact func110) AU rfl B3 _).1).trans (vbn (λes=>GStep.go _ _ es) (gH.pw (vs:=#[.slice sa m mB]) rfl (by first|exact func83|exact func110) AU rfl B3 _).2)) Ab IB ?_;refine C _ _ _ _ _ _ _ (λu w' hv=>?_);obtain⟨I,⟨As,un,uc,rfl⟩,q,hsz'⟩:=hv;rw[o]at q;have M:w'.cell? (.a st 0)=some (.int .i32 1):=by simp[World.cell?,q]
  have L:w'.frozen? ⟨st,0,none⟩=false:=by simp[World.frozen?,q]
  have S:st<w'.heap.size:=AY;have hF:=atRel_refl w';refine jz (R:=AtRel) IZ 300 _ _ ?_;walk_nrm
  repeat w_go cI
  u_in cI hF
  rw[vbv rfl func82 bM.yg rfl];simp only[vdm];refine⟨Be,?_⟩;walk_nrmf f82
  refine vaf (λg f=>?_);replace hF:=cI hF f;obtain⟨d,rfl⟩:=hF;clear f;refine Zm (w:=w'.at d) rfl M L t S ?_;have hF:AtRel (w'.setCell ⟨st,0,none⟩ (.int .i32 0)) ((w'.at d).setCell ⟨st,0,none⟩ (.int .i32 0)):=⟨d,rfl⟩;have A:=hk _ w' I;generalize w'.setCell ⟨st,0,none⟩ (.int .i32 0)=w4 at hF A;generalize(w'.at d).setCell ⟨st,0,none⟩ (.int .i32 0)=gg at hF⊢;refine jz (R:=AtRel) IZ 300 _ _ ?_;u_in cI hF
  refine goes_leave2 rfl rfl (by first|exact func46|exact func87) rfl ⟨Be,?_⟩;walk_nrm
  repeat w_go cI
  u_in cI hF
  refine goes_leave2 rfl rfl (by first|exact func28|exact func48) rfl ⟨Be,?_⟩;refine vaf (λg f=>?_);replace hF:=cI hF f;obtain⟨d,rfl⟩:=hF;exact A.at d
end
end
end lE
namespace eW
open Conc RowKit Conc.Lib ConcR.Gen ConcM av bn ae ej fY bM
section
section
variable{c:db}{Stop:Bool->ae.Lo At->aV->Prop}{mine:c5}{S ab e8:Nat}
variable{aY:Frame}{aF:Act}{az:eQ}{aI:Nat}{aK:uag}{aG:uab}{csZ:fA}
def aoq(i:Bool)(ok:tO c S ab e8){f T a_:Nat}(ji:c.bad T=false){F E:Int}{s:uad}{q:uac}{w0:aH}(hS:∀m l g w M M',(∀b,M b->M' b)->Stop m l ⟨g,w,M⟩->Stop m l ⟨g,w,M'⟩)(gj:∀w' ah,ai (ak (ar c)) mine w0 w'->bd (ak (ar c)) prog Stop false ⟨.idle,false,0,f,.work .free ((T,.slice s (c.rows T) a_)::q)⟩ ah ⟨Conc.G (aY.at (R8 aF az aI (.tuple #[])) (.inRegion az aK::aG)) csZ,w',mine⟩)(w:aH)(γ:ae.aM cj)(hk:af (ak (ar c)) mine w0 [] w):
 bd (ak (ar c)) prog Stop false ⟨.idle,false,0,f+16,.work (.has T) q⟩ γ ⟨Conc.G ((base (ba i 102 123)).at ⟨#[.P c.st 0,.agg #[.I (T:Int),.I F,.I E],.slice s (c.rows T) a_]++Array.replicate 27 undef,[]⟩ [.code ((ba i f102 f123).body.getD .skip)]) (aY.at aF (.inRegion az (aI::aK)::aG)::csZ),w,b8 mine []⟩:=by
 cases i<;>dsimp only[ba]
 all_goals
  have hF:=hk;have jU:=(df (bu c)).mO;have sX:prog.follows .mixedOrders=true:=AU;refine bd.seen (df (bu c)) rfl λγ _ U=>?_;have MF:=Xn U rfl;clear U;refine a8 (bu c) ?_;simp only[ba,f102,f123,vah];walk_nrm
  repeat w_go af.on
  refine fU rfl hF λo n y B j X I z hF=>?_;refine tg AN jU rfl hF (vau (v:=.P j.heap.size 0) (w':=j.alloc (.cells #[.I (T:Int),.I F,.I E] 175)) rfl rfl Ad Ah) rfl A1 (λH=>?_);clear hF;have hF:=H;clear H z I B n;generalize j.heap.size=b0 at hF⊢;generalize j.alloc (.cells #[.I (T:Int),.I F,.I E] 175)=w3 at hF⊢;refine a8 (bu c) ?_;walk_nrm
  repeat w_go af.on
  u_call func81 IP f81 af.on hF
  have N:∀b,(ar c).K b\/b8 mine [(b0,.cells #[.I (T:Int),.I F,.I E] 175)] b->b≠(ar c).st:=λb O e=>hF.eK b O (.inl e);refine vaf (λr P=>⟨rfl,λR _=>R5 (f:=f+10) (bu c) (a:=.work (.has T) q) I3 ok.most N (λK su L=>?_) r R (ai.refl _ _ _)⟩);replace hF:=(hF.on P).on L;clear P L N;refine a8 (bu c) ?_;walk_nrm
  repeat w_go af.on
  u_defer af.on hF
  repeat w_go af.on
  refine vaf (λo n=>⟨rfl,λy B=>?_⟩);replace hF:=hF.on n;clear n B;refine zV (Z:=ak (ar c)) (C:=H_ c mine w0 (b0,.cells #[.I (T:Int),.I F,.I E] 175)) AN Ad sX xS akv (σ:=mj c mine w0 (hh.of y.aj) ⟨.own,true,0,f+10,.work (.has T) q⟩ [(b0,.cells #[.I (T:Int),.I F,.I E] 175)]) (ib:=q2 prog Stop false _ _ _ _ []) IG ⟨_,_,_,rfl,rfl,rfl,Ab,rfl⟩ ?_ _ y ⟨hF,rfl⟩;walk_nrm
  refine eN 0 (.P c.st 0) ?_ xS ⟨_,_,_,rfl,rfl,rfl,Ab,rfl⟩;walk_nrm
  refine eN 1 (.P c.st 0) ?_ xS ⟨_,_,_,rfl,rfl,rfl,Ab,rfl⟩;walk_nrm
  refine eN 2 (.P c.st 6) ?_ xS ⟨_,_,_,rfl,rfl,rfl,Ab,rfl⟩;walk_nrm
  refine iK (i:=3) (v:=.S c.cx 0 c.N e8) xS rfl AT AT AT (akw 4 rfl (λx=>by simp[ok.xN]) (λw t=>⟨Ah,by simp[listed,go_sem,t];rfl⟩)) ⟨_,_,_,rfl,rfl,rfl,Ab,rfl⟩ ?_;walk_nrm
  refine eN 4 (.P b0 0) ?_ xS ⟨_,_,_,rfl,rfl,rfl,Ab,rfl⟩;walk_nrm
  refine iK (i:=5) (v:=.I (T:Int)) xS rfl AT AT AT (akx rfl (λw hB=>?_)) ⟨_,_,_,rfl,rfl,rfl,Ab,rfl⟩ ?_
  .have t:w.cell? (.a b0 0)=some (.I (T:Int)):=by simp[World.cell?,hB]
   refine⟨Ah,λe he=>⟨0,?_⟩⟩;have W:=vbp he;simp[go_sem,t]at W;exact W
  walk_nrm
  refine eN 6 (.slice s (c.rows T) a_) ?_ xS ⟨_,_,_,rfl,rfl,rfl,Ab,rfl⟩;walk_nrm
  refine iK (i:=7) (v:=.P c.cx T) xS rfl AT AT AT (z0 rfl (λ_=>Ah) (λ_=>by simp[listed,go_sem,MF];rfl)) ⟨_,_,_,rfl,rfl,rfl,Ab,rfl⟩ ?_;walk_nrm
  refine qk (i:=8) AT (xQ rfl rfl (akz (f1:=f+9) (v:=.slice s (c.rows T) a_) rfl rfl rfl AN (λw D V hp=>?_) ⟨⟨_,_,_,rfl,rfl,rfl,Ab,rfl⟩,?_⟩))
  .have t:w.cell? (.a c.cx T)=some D[T]:=by simp[World.cell?,V,hp]
   have Q:w.frozen? ⟨c.cx,T,none⟩=false:=by simp[World.frozen?,V]
   exact⟨Ah,by simp[listed,go_sem];rw[Go.events_store _ _ _ _ _ _ rfl,t];simp[Q];rfl⟩
  walk_nrm
  refine zU AT ?_ _;rintro o ew ⟨H,hd⟩;clear hF;have hF:=H;clear H;generalize(⟨(hh.of y.aj).T,(hh.of y.aj).M,(hh.of y.aj).D.set T (.slice s (c.rows T) a_),(hh.of y.aj).L⟩:hh)=d at hd;simp[mj];refine a8 (bu c) ?_;walk_nrm
  repeat w_go af.on
  refine fU rfl hF λo n y B j X I z hF=>?_;replace hd:=(tk (c:=c) (l:=⟨.own,true,0,f+9,.work (.half T (.slice s (c.rows T) a_)) q⟩) rfl I).trans ((tk (c:=c) (l:=⟨.own,true,0,f+9,.work (.half T (.slice s (c.rows T) a_)) q⟩) rfl B).trans hd);clear B I n;have t:j.cell? (.a c.st 5)=some (.I (d.M:Int)):=by rw[z1 z.mt.1 3];subst hd;simp[hh.of]
  obtain⟨J,R4,Y⟩:∃J:Nat,IntKind.wrap .i64 ((d.M:Int)+(c.rows T:Int))=(J:Int)/\qC (J=d.M+c.rows T):=by have h1:=aky z.sees ji rfl;have h2:=ok.oD;refine⟨d.M+c.rows T,?_,rfl⟩;subst hd;simp only[hh.of];rw[IntKind.wrap_i64];omega
  refine H8 (k:=3) rfl rfl ((vau (v:=.I (d.M:Int)) rfl rfl Ad Ah).trans (vbn (λes=>GStep.go _ _ es) (by simp[listed,go_sem,t];rfl))) rfl ?_;clear t z;refine a8 (bu c) ?_;walk_nrm
  repeat w_go af.on
  refine fU rfl hF λo n y B j X I z hF=>?_;replace hd:=(tk (c:=c) (l:=⟨.own,true,0,f+9,.work (.half T (.slice s (c.rows T) a_)) q⟩) rfl I).trans ((tk (c:=c) (l:=⟨.own,true,0,f+9,.work (.half T (.slice s (c.rows T) a_)) q⟩) rfl B).trans hd);clear B I n;have t:j.cell? (.a c.st 5)=some (.I (d.M:Int)):=by rw[z1 z.mt.1 3];subst hd;simp[hh.of]
  have Q:j.frozen? ⟨c.st,5,none⟩=false:=by simp[World.frozen?,z.mt.1,gE]
  refine akl (f1:=f+8) (p:=T) (v:=.slice s (c.rows T) a_) (q:=q) (u:=.I (J:Int)) z ((vcz rfl rfl Ad Ah).trans (vbn (λes=>GStep.go _ _ es) (by simp[listed,go_sem,t,Q];rfl))) rfl ji (by rw[qC.out Y];subst hd;rfl) rfl rfl rfl AN ?_;have H:=hF.shared (k:=c.st) (off:=5) (sp:=none) Ij (.I (J:Int));clear hF;have hF:=H;clear H t Q z hd R4;dsimp only;generalize j.setCell ⟨c.st,5,none⟩ (.I (J:Int))=w4 at hF⊢;refine a8 (bu c) ?_;walk_nrm
  repeat w_go af.on
  u_in af.on hF
  rw[vbv rfl func82 yg rfl];simp only[vdm];refine⟨Be,?_⟩;walk_nrmf f82
  have N:∀b,(ar c).K b\/b8 mine [(b0,.cells #[.I (T:Int),.I F,.I E] 175)] b->b≠(ar c).st:=λb O e=>hF.eK b O (.inl e);refine vaf (λr P=>⟨rfl,λR vm=>RQ (A:=ar c) (f:=f) (bu c) (a:=.work .free ((T,.slice s (c.rows T) a_)::q)) I3 ok.most N rfl rfl (λK su L=>?_) r R (ai.refl _ _ _)⟩);replace hF:=(hF.on P).on L;clear P L N;refine a8 (bu c) ?_;u_in af.on hF
  refine vdv rfl rfl (by first|exact func102|exact func123) rfl ⟨Be,?_⟩;refine vaf (λo n=>⟨rfl,λy B=>?_⟩);replace hF:=hF.on n;exact bd.more hS (gj o y hF.rw) (λb O=>.inl O)
end
end
end eW
namespace gH
open Conc RowKit Conc.Lib ConcR.Gen ConcM av bn ae ej fY eW
theorem aor:(f116.name== "runtime.NumGoroutine")=false:=by kernel_rfl
section
variable{c:db}{Stop:Bool->ae.Lo At->aV->Prop}{S ab e8:Nat}
def yZ(L:ubj)(γ:ae.aM cj):Prop:=γ.aj.least=L
def oV{l:ae.Lo At}(d:l.mx=.own){L:ubj}{γ a:ae.aM cj}(h:yZ L γ)(b:(ak (ar c)).dH l γ a):yZ L a:=by have:=vbn hh.L (tk d b);exact Eq.trans this h
def Sj{q:uac}{T F:Nat}{L:ubj}{γ:ae.aM cj}(f:c.bad T=true)(b:c.rows T=0)(j:yZ L γ)(hq:∃p,L=some p/\p<=T):
 ∀a,(ak (ar c)).dH (⟨.own,true,0,F,.work (.has T) q⟩:ae.Lo At) γ a->∀(xs:List At)(i:Nat),xs[i]?=some (.work (.has T) q)->(ar c).tf a.aj xs->(ar c).tf a.aj (xs.set i (.work .free ((T,undef)::q))):=by
 intro a e xs i hi h;have g:=oV U j e;obtain⟨p,rfl,d⟩:=hq;exact cT.fail h f b ⟨p,g,d⟩ hi
def aos{bO:aH}(ok:tO c S ab e8)(K:E7 c bO prog Stop 116){f T:Nat}{q:uac}(N:T<c.N)(s:c.bad T=true){M:c5}{w0:aH}(j0:af (ak (ar c)) M w0 [] w0)(hI:nr c bO w0):
 io prog Stop false 101 #[.P c.st 0,c.place T] (dZ c ⟨.idle,false,0,f+16,.work (.has T) q⟩ M w0)
  (λu bk=>u=.tuple #[]/\∃M' w1,gm (ak (ar c)) M w0 M' w1/\bk=dZ c ⟨.idle,false,0,f,.work .free ((T,undef)::q)⟩ M' w1):=by
 intro aY aF az aI aK aG csZ hK w γ hS;have hF:af (ak (ar c)) M w0 [] w:=hS;clear hS;have jU:=(df (bu c)).mO;obtain⟨ba,J,P,aW,Z⟩:=K.place T N s;rw[Z,vcf _ func101 rfl];unfold dZ;rw[<-fV (M:=M)];refine a8 (bu c) ?_;walk_nrmf f101
 repeat w_go af.on
 u_call func81 bM.IP f81 af.on hF
 have y:∀b,(ar c).K b\/b8 M [] b->b≠(ar c).st:=λb s e=>hF.eK b s (.inl e);refine vaf (λo E=>⟨rfl,λI _=>bM.R5 (f:=f+10) (bu c) (a:=.work (.has T) q) I3 ok.most y (λC su D=>?_) o I (ai.refl _ _ _)⟩);replace hF:=(hF.on E).on D;clear E D y;refine a8 (bu c) ?_;walk_nrm
 repeat w_go af.on
 u_defer af.on hF
 repeat w_go af.on
 refine fU rfl hF λi d B r g n t m hF=>?_;obtain⟨L,j⟩:∃L,yZ L n:=⟨_,rfl⟩;obtain⟨xs,j8,si,i6⟩:=tj m.sees;have Z1:=i6.came.2.1;clear si i6;rw[show n.aj.least=L from j]at Z1;clear r t d;cases L with
 |none=>
  have x:g.cell? (.a c.st 7)=some (.N):=GA;refine H8 (k:=5) rfl rfl ((vau (v:=.N) rfl rfl Ad Ah).trans (vbn (λes=>GStep.go _ _ es) Gy)) rfl ?_;clear x m;refine a8 (bu c) ?_;walk_nrm
  repeat w_go af.on
  refine fU rfl hF λi d B r g n t m hF=>?_;replace j:=oV (c:=c) (l:=⟨.own,true,0,f+10,.work (.has T) q⟩) rfl (oV (c:=c) (l:=⟨.own,true,0,f+10,.work (.has T) q⟩) rfl j r) t;refine E5 AN (vau (v:=.T) rfl rfl Ad BY) rfl A8 ?_;clear m t r d;refine a8 (bu c) ?_;walk_nrm
  repeat w_go af.on
  refine fU rfl hF λi d B r g n t m hF=>?_;replace j:=oV (c:=c) (l:=⟨.own,true,0,f+10,.work (.has T) q⟩) rfl (oV (c:=c) (l:=⟨.own,true,0,f+10,.work (.has T) q⟩) rfl j r) t;have x:g.cell? (.a c.st 7)=some (.N):=GA;have R:g.frozen? ⟨c.st,7,none⟩=false:=by simp[World.frozen?,m.mt.1,gE]
  refine Xh (f1:=f+9) (p:=T) (q:=q) (u:=.S ba J P aW) m ((vcz rfl rfl Ad Ah).trans (vbn (λes=>GStep.go _ _ es) FK)) rfl Z.symm s (λp U=>by rw[show n.aj.least=none from j]at U;cases U) rfl rfl rfl AN ?_;have X:=hF.shared (k:=c.st) (off:=7) (sp:=none) Ij (.S ba J P aW);clear hF;have hF:=X;replace j:yZ (some T) ({n with aj:={n.aj with least:=some T},a4:=n.a4-1}:ae.aM cj):=rfl;clear X x R m t r d;dsimp only;generalize g.setCell ⟨c.st,7,none⟩ (.S ba J P aW)=w4 at hF⊢;generalize({n with aj:={n.aj with least:=some T},a4:=n.a4-1}:ae.aM cj)=aot at j⊢;refine a8 (bu c) ?_;walk_nrm
  repeat w_go af.on
  u_in af.on hF
  rw[vbv rfl func82 yg rfl];simp only[vdm];refine⟨Be,?_⟩;walk_nrmf f82
  have y:∀b,(ar c).K b\/b8 M [] b->b≠(ar c).st:=λb s e=>hF.eK b s (.inl e);refine vaf (λo E=>⟨rfl,λI Q=>bM.Mz (A:=ar c) (f:=f) (F:=f+9) (bu c) AY (a':=.work (.has T) q) (a:=.work .free ((T,undef)::q)) I3 rfl ok.most y rfl rfl (λC su D=>?_) o I (ai.refl _ _ _) (Sj s (K.rows T N s) (oV (c:=c) (l:=⟨.own,true,0,f+9,.work (.has T) q⟩) rfl j Q) ⟨T,rfl,vad _⟩)⟩);replace hF:=(hF.on E).on D;clear E D y;refine a8 (bu c) ?_;u_in af.on hF
  refine vdv rfl rfl func101 rfl ⟨Be,?_⟩;refine vaf (λi d=>⟨rfl,λB r=>?_⟩);replace hF:=hF.on d;rw[fV];exact hK (.tuple #[]) (dZ c ⟨.idle,false,0,f,.work .free ((T,undef)::q)⟩ M w0) ⟨rfl,M,w0,⟨λ_ h=>h,ai.refl _ _ _,j0⟩,rfl⟩ i B hF
 |some H=>
  obtain⟨fH,FY⟩:=Z1 H rfl;obtain⟨bD,b7,fj,b3,gS⟩:=K.place H FY fH;have zI:=K.cmp T H N s FY fH;rw[gS,Z]at zI;have bP:∀γ,yZ (some H) γ->∀w:aH,w.heap[c.st]?=some (gE (ar c) γ.mu γ.aj)->w.cell? (.a c.st 7)=some (.S bD b7 fj b3):=λγ h w y=>by rw[z1 y 5];simp[show γ.aj.least=some H from h,gS]
  have x:=bP _ j _ m.mt.1;refine H8 (k:=5) rfl rfl ((vau (v:=.S bD b7 fj b3) rfl rfl Ad Ah).trans (vbn (λes=>GStep.go _ _ es) Gy)) rfl ?_;clear x m;refine a8 (bu c) ?_;walk_nrm
  repeat w_go af.on
  refine fU rfl hF λi d B r g n t m hF=>?_;replace j:=oV (c:=c) (l:=⟨.own,true,0,f+10,.work (.has T) q⟩) rfl (oV (c:=c) (l:=⟨.own,true,0,f+10,.work (.has T) q⟩) rfl j r) t;refine E5 AN (vau (v:=.F) rfl rfl Ad BY) rfl A8 ?_;clear m t r d;refine a8 (bu c) ?_;walk_nrm
  repeat w_go af.on
  refine fU rfl hF λi d B r g n t m hF=>?_;replace j:=oV (c:=c) (l:=⟨.own,true,0,f+10,.work (.has T) q⟩) rfl (oV (c:=c) (l:=⟨.own,true,0,f+10,.work (.has T) q⟩) rfl j r) t;have x:=bP _ j _ m.mt.1;refine H8 (k:=5) rfl rfl ((vau (v:=.S bD b7 fj b3) rfl rfl Ad Ah).trans (vbn (λes=>GStep.go _ _ es) Gy)) rfl ?_;clear x m t r d;refine a8 (bu c) ?_;walk_nrm
  repeat w_go af.on
  refine fU rfl hF λi d B r g n t m hF=>?_;replace j:=oV (c:=c) (l:=⟨.own,true,0,f+10,.work (.has T) q⟩) rfl (oV (c:=c) (l:=⟨.own,true,0,f+10,.work (.has T) q⟩) rfl j r) t;have W:=af.pu hF;rw[fV]at W;rw[fV];refine Ic (σ:=xT c ⟨.own,true,0,f+10,.work (.has T) q⟩ M g (yZ (some H))) AN rfl rfl Ad (pw (vs:=#[.S ba J P aW,.S bD b7 fj b3]) rfl func116 aor rfl B3 g) (zI _ M g (yZ (some H)) rfl (λ_ _ h ho=>oV rfl h ho) W (hI.gQ hF)) ⟨W,j⟩ ?_;have dP:gm (ak (ar c)) M w0 M g:=⟨λ_ h=>h,hF.rw,W⟩;clear hF m t r d W j;rintro u _ ⟨z,rfl,Y,O,w2,jy,rfl⟩ w₃ ew ⟨hF,j⟩;have g5:=dP.trans jy;clear jy dP;simp only[xT];rw[<-fV (M:=O)];by_cases V:T<H
  .have PU:decide (z<0)=true:=by simp[Y,V]
   clear Y;refine a8 (bu c) ?_;walk_nrm
   repeat w_go af.on
   refine fU rfl hF λi d B r g n t m hF=>?_;replace j:=oV (c:=c) (l:=⟨.own,true,0,f+10,.work (.has T) q⟩) rfl (oV (c:=c) (l:=⟨.own,true,0,f+10,.work (.has T) q⟩) rfl j r) t;have x:=bP _ j _ m.mt.1;have R:g.frozen? ⟨c.st,7,none⟩=false:=by simp[World.frozen?,m.mt.1,gE]
   refine Xh (f1:=f+9) (p:=T) (q:=q) (u:=.S ba J P aW) m ((vcz rfl rfl Ad Ah).trans (vbn (λes=>GStep.go _ _ es) FK)) rfl Z.symm s (λp U=>by rw[show n.aj.least=some H from j]at U;cases U;omega) rfl rfl rfl AN ?_;have X:=hF.shared (k:=c.st) (off:=7) (sp:=none) Ij (.S ba J P aW);clear hF;have hF:=X;replace j:yZ (some T) ({n with aj:={n.aj with least:=some T},a4:=n.a4-1}:ae.aM cj):=rfl;clear X x R m t r d;dsimp only;generalize g.setCell ⟨c.st,7,none⟩ (.S ba J P aW)=w4 at hF⊢;generalize({n with aj:={n.aj with least:=some T},a4:=n.a4-1}:ae.aM cj)=aot at j⊢;refine a8 (bu c) ?_;walk_nrm
   repeat w_go af.on
   u_in af.on hF
   rw[vbv rfl func82 yg rfl];simp only[vdm];refine⟨Be,?_⟩;walk_nrmf f82
   have y:∀b,(ar c).K b\/b8 O [] b->b≠(ar c).st:=λb s e=>hF.eK b s (.inl e);refine vaf (λo E=>⟨rfl,λI Q=>bM.Mz (A:=ar c) (f:=f) (F:=f+9) (bu c) AY (a':=.work (.has T) q) (a:=.work .free ((T,undef)::q)) I3 rfl ok.most y rfl rfl (λC su D=>?_) o I (ai.refl _ _ _) (Sj s (K.rows T N s) (oV (c:=c) (l:=⟨.own,true,0,f+9,.work (.has T) q⟩) rfl j Q) ⟨T,rfl,vad _⟩)⟩);replace hF:=(hF.on E).on D;clear E D y;refine a8 (bu c) ?_;u_in af.on hF
   refine vdv rfl rfl func101 rfl ⟨Be,?_⟩;refine vaf (λi d=>⟨rfl,λB r=>?_⟩);replace hF:=hF.on d;rw[fV];exact hK (.tuple #[]) (dZ c ⟨.idle,false,0,f,.work .free ((T,undef)::q)⟩ O w2) ⟨rfl,O,w2,g5,rfl⟩ i B hF
  .have PU:decide (z<0)=false:=by simp[Y,V]
   clear Y;refine a8 (bu c) ?_;walk_nrm
   repeat w_go af.on
   u_in af.on hF
   rw[vbv rfl func82 yg rfl];simp only[vdm];refine⟨Be,?_⟩;walk_nrmf f82
   have y:∀b,(ar c).K b\/b8 O [] b->b≠(ar c).st:=λb s e=>hF.eK b s (.inl e);refine vaf (λo E=>⟨rfl,λI Q=>bM.Mz (A:=ar c) (f:=f) (F:=f+10) (bu c) AY (a':=.work (.has T) q) (a:=.work .free ((T,undef)::q)) I3 rfl ok.most y rfl rfl (λC su D=>?_) o I (ai.refl _ _ _) (Sj s (K.rows T N s) (oV (c:=c) (l:=⟨.own,true,0,f+10,.work (.has T) q⟩) rfl j Q) ⟨H,rfl,AY⟩)⟩);replace hF:=(hF.on E).on D;clear E D y;refine a8 (bu c) ?_;u_in af.on hF
   refine vdv rfl rfl func101 rfl ⟨Be,?_⟩;refine vaf (λi d=>⟨rfl,λB r=>?_⟩);replace hF:=hF.on d;rw[fV];exact hK (.tuple #[]) (dZ c ⟨.idle,false,0,f,.work .free ((T,undef)::q)⟩ O w2) ⟨rfl,O,w2,g5,rfl⟩ i B hF
end
section
section
variable{c:db}{Stop:Bool->ae.Lo At->aV->Prop}{S ab e8:Nat}{fK gn:Value}{iM:ual}{lR cq:uae}
def af.Sk{Z:eV}{M:c5}{w1 w:aH}(h:af Z M w1 [] w1)(r:ai Z M w1 w):af Z M w1 [] w:=h.on (by rw[fV];exact r)
def aou(i:Bool)(ok:tO c S ab e8)(n:c.C=31)(k:∀m l g w M M',(∀b,M b->M' b)->Stop m l ⟨g,w,M⟩->Stop m l ⟨g,w,M'⟩){f:Nat}(q:uac)(M:c5)(w1:aH)(d:af (ak (ar c)) M w1 [] w1):
 io prog Stop false (ba i 74 108) #[.P c.st 0] (dZ c ⟨.idle,false,0,f+15,.work .free q⟩ M w1)
  (λu e=>(u=.tuple #[.agg #[.I 0,.I 0,.I 0],.F]/\e=wy c ⟨.idle,false,0,f+1,.work .free q⟩ M w1)\/∃T,T<c.N/\u=.tuple #[R7 S ab T,.T]/\e=dZ c ⟨.idle,false,0,f+31,.work (.has T) q⟩ M w1):=by
 intro aY aF az aI aK aG csZ hK w γ j;have hk:af (ak (ar c)) M w1 [] w:=j;unfold dZ;have h:=anM i (aY:=aY) (aF:=aF) (az:=az) (aI:=aI) (aK:=aK) (aG:=aG) (csZ:=csZ) ok (f:=f) (p:=q) (w0:=w1) k
  (λw' a r a5=>hK _ (wy c ⟨.idle,false,0,f+1,.work .free q⟩ M w1) AN w' a ⟨af.Sk d r,a5⟩)
  (λw' a T r o=>by rw[n];exact hK _ (dZ c ⟨.idle,false,0,f+31,.work (.has T) q⟩ M w1) AN w' a (af.Sk d r)) w γ hk
 rw[fV]at h;cases i<;>(first|rw[vcf _ func74 U]|rw[vcf _ func108 U])<;>exact h
def aov(i:Bool)(ok:tO c S ab e8){T:Nat}(ji:c.bad T=false)(d:∀m l g w M M',(∀b,M b->M' b)->Stop m l ⟨g,w,M⟩->Stop m l ⟨g,w,M'⟩){f:Nat}{F E:Int}{q:uac}(s:uad)(a_:Nat)(M:c5)(w1:aH)(e:af (ak (ar c)) M w1 [] w1):
 io prog Stop false (ba i 102 123) #[.P c.st 0,.agg #[.I (T:Int),.I F,.I E],.slice s (c.rows T) a_] (dZ c ⟨.idle,false,0,f+16,.work (.has T) q⟩ M w1)
  (λu j=>u=.tuple #[]/\j=dZ c ⟨.idle,false,0,f,.work .free ((T,.slice s (c.rows T) a_)::q)⟩ M w1):=by
 intro aY aF az aI aK aG csZ hK w γ a;have hk:af (ak (ar c)) M w1 [] w:=a;unfold dZ;have h:=aoq i (aY:=aY) (aF:=aF) (az:=az) (aI:=aI) (aK:=aK) (aG:=aG) (csZ:=csZ) ok (f:=f) (q:=q) (T:=T) ji (s:=s) (a_:=a_) (F:=F) (E:=E) (w0:=w1) d
  (λw' k r=>hK _ (dZ c ⟨.idle,false,0,f,.work .free ((T,.slice s (c.rows T) a_)::q)⟩ M w1) ⟨U,U⟩ w' k (af.Sk e r)) w γ hk
 rw[fV]at h;cases i<;>(first|rw[vcf _ func102 U]|rw[vcf _ func123 U])<;>exact h
def aow(i:Bool)(ok:tO c S ab e8)(n:i=true->∀T,c.bad T=false)(k:c.C=31)(h:∀m l g w M M',(∀b,M b->M' b)->Stop m l ⟨g,w,M⟩->Stop m l ⟨g,w,M'⟩){bO:aH}(J:q8 c bO prog Stop (ba i 103 124) fK iM gn (λT=>T*ab) (λT=>min (T*ab+ab) S) lR cq){f:Nat}{M:c5}{w0:aH}(hI:nr c bO w0):
 io prog Stop false (ba i 44 86) #[.P c.st 0,fK] (dZ c ⟨.idle,false,0,f+15,.work .free []⟩ M w0) (λu o=>u=.tuple #[]/\∃q M' w1,gm (ak (ar c)) M w0 M' w1/\kq c cq q M' w1/\o=wy c ⟨.idle,false,0,f+1,.work .free q⟩ M' w1):=
 aop i (fr:=λT=>T*ab) (a7:=λT=>min (T*ab+ab) S) hI J.mono (aou i ok k h) (λq T p w1 e d=>aol i J (f:=f+15) e d (λa M' w1 hk j=>(by cases i;exact aos ok J.fails e a hk j;exact absurd a (by simp[n U]))) (λa s a_ M' w1 hk=>aov i ok a h s a_ M' w1 hk))
end
end
def Du(n:Nat):Frame:={(default:Frame)with fn:=n,defers:=[],mode:=.panicking [goexitEntry]}
theorem aoJ:(f43.name== "runtime.NumGoroutine")=false:=by kernel_rfl
def aoK{P:ck}{f:ual}{fn:Func}{c:Code}(a:P.funcs[f]?=some fn)(d:(fn.name== "runtime.NumGoroutine")=false)(b:fn.body=some c)(cap:dC)(w:aH):stepG P false (born P (pt f cap)) w=
 .go (Conc.G ((baseD f).at {tmps:=cap++Array.replicate (fn.ntmps-cap.size) undef,defers:=[]} [.code c]) [Du P.funcs.size]) w #[]:=by
 have hn:¬fn.name= "runtime.NumGoroutine" :=AN;rw[<-enter_atD cap a b];simp[born,pt,stepG,unwind,callDeferred,invoke,callFunc,a,hn,b,GStep.after,Conc.G,Du,vcn]
def aoL{F:ual}{fn:Func}(b:prog.funcs[F]?=some fn)(a:fn.results=#[])(T:dC):QuitsD prog 2 0 (Conc.G {(baseD F).at ⟨T,[]⟩ []with mode:=.returning} [Du prog.funcs.size]):=by
 refine QuitsD.ctl (g':=Conc.G (Du prog.funcs.size) []) U (λw=>?_) ?_
 .simp[Conc.G,stepG,unwind,doReturn,results,Frame.at,baseD,Du,b,a,seen,GStep.after,goexitEntry]
 refine QuitsD.ctl (g':={Conc.G (Du prog.funcs.size) []with status:=.finished}) U (λw=>?_) ⟨U,U⟩;simp[Conc.G,stepG,unwind,Du,goexitEntry,Frame.catches];rfl
section
variable{c:db}{Stop:Bool->ae.Lo At->aV->Prop}{S ab e8:Nat}{fK gn:Value}{iM:ual}{lR cq:uae}
def aoM(i:Bool)(ok:tO c S ab e8)(eG:i=true->∀T,c.bad T=false)(Y:c.C=31)(X:∀m l g w M M',(∀b,M b->M' b)->Stop m l ⟨g,w,M⟩->Stop m l ⟨g,w,M'⟩){bO:aH}(J:q8 c bO prog Stop (ba i 103 124) fK iM gn (λT=>T*ab) (λT=>min (T*ab+ab) S) lR cq)(L:∀q M f' g w,kq c cq q M w->(∃n,QuitsD prog n 1 g)->Stop false ⟨.idle,false,1,f',.gone q⟩ ⟨g,w,M⟩){f A y:Nat}(Dv:c.K A)(Sq:c.K y)(Sr:∃t v,fK=.iface t v){M:c5}{w0:aH}(hI:nr c bO w0)(eu:w0.heap[A]?=some (.cells #[.P c.st 0] (ba i 114 185)))(Bz:w0.heap[y]?=some (.cells #[fK] (ba i 113 184)))(w:aH)(γ:ae.aM cj)(hk:af (ak (ar c)) M w0 [] w):
 bd (ak (ar c)) prog Stop false ⟨.idle,false,0,f+19,.work .free []⟩ γ ⟨born prog (pt (ba i 42 85) #[.P c.wg 0,.P A 0,.P y 0]),w,M⟩:=by
 cases i<;>dsimp only[ba]
 all_goals
  have hF:=hk;obtain⟨jt,E,rfl⟩:=Sr;refine bd.mk rfl (λa H p k=>?_);replace hF:=af.rel hF k;refine E5 AN (aoK (by first|exact func42|exact func85) AU rfl _ a) rfl rfl ?_;clear k p hk;rw[<-fV (M:=M)];refine a8 (bu c) ?_;simp only[ba,f42,f85];walk_nrm
  repeat w_go af.on
  u_defer af.on hF
  repeat w_go af.on
  refine fU rfl hF λj d P B a H p k hF=>?_;have x:a.cell? (.a A 0)=some (.P c.st 0):=by simp[World.cell?,(hF.rw.heap A (.inl Dv)).trans eu]
  refine r9 AN rfl (λb o=>hF.eK b (.inr o)) (vau (v:=.P c.st 0) rfl rfl Ad Ah) rfl (λe C=>?_) ?_
  .have z:=vbp C;simp[go_sem,x]at z;subst z;exact⟨rfl,AN⟩
  clear x k p B d;refine a8 (bu c) ?_;walk_nrm
  repeat w_go af.on
  refine fU rfl hF λj d P B a H p k hF=>?_;have x:a.cell? (.a y 0)=some (.iface jt E):=by simp[World.cell?,(hF.rw.heap y (.inl Sq)).trans Bz]
  refine r9 AN rfl (λb o=>hF.eK b (.inr o)) (vau (v:=.iface jt E) rfl rfl Ad Ah) rfl (λe C=>?_) ?_
  .have z:=vbp C;simp[go_sem,x]at z;subst z;exact⟨rfl,AN⟩
  clear x k p B d;refine a8 (bu c) ?_;walk_nrm
  repeat w_go af.on
  refine fU rfl hF λj d P B a H p k hF=>?_;have F:=af.pu hF;rw[fV]at F;rw[fV];refine Ic (σ:=dZ c ⟨.idle,false,0,f+4+15,.work .free []⟩ M a) AN rfl rfl Ad (pw (vs:=#[.P c.st 0,.iface jt E]) rfl Fc AU rfl B3 a) (aow _ ok eG Y X J (hI.gQ hF)) F ?_;clear k p B d F hF;rintro u _ ⟨rfl,q,M',w1,g5,U,rfl⟩ N ew ⟨hF,a5⟩;simp only[wy];rw[<-fV (M:=M')];refine a8 (bu c) ?_;walk_nrm
  repeat w_go af.on
  u_in af.on hF
  rw[vbv rfl func43 aoJ rfl];simp only[vdm];refine⟨Be,?_⟩;walk_nrmf f43
  have W:∀b,c.K b\/b8 M' [] b->b≠c.wg:=λb o e=>hF.eK b o (.inr (.inl e));refine vaf (λs Z=>⟨rfl,λkd Q=>?_⟩);replace hF:=hF.on Z;replace a5:=vac a5 (uD (c:=c) (l:=⟨.idle,false,0,f+4+1,.work .free q⟩) Q);refine bd.seen (df (bu c)) rfl λO K R=>?_;replace a5:=vac a5 (uD (c:=c) (l:=⟨.idle,false,0,f+4+1,.work .free q⟩) K);have I:O.aj.taken=c.N:=by obtain⟨xs,j8,si,V⟩:=tj R;have:=V.aW;omega
  refine sw.aoH (f:=f) ok.most W rfl (aoL (by first|exact func42|exact func85) Av _) (λf' g w' r hq=>?_) s O (ai.refl _ _ _) I;have D:=hF.on r;rw[fV]at r⊢;exact L q M' f' g w' (U.same J.mono (λb o=>(D.rw.heap b o)) (λ_ h=>h)) hq
end
end gH
namespace tM
open Conc RowKit Conc.Lib ConcR.Gen ConcM av bn ae ej fY eW gH
theorem aoV:(f41.name== "runtime.NumGoroutine")=false:=by kernel_rfl
theorem aoW:(f45.name== "runtime.NumGoroutine")=false:=by kernel_rfl
section
variable{c:db}{bO:aH}{S ab e8:Nat}{fK gn:Value}{iM:ual}{lR cq:uae}{M:c5}{w0:aH}{l3:Goroutine->Prop}
def aoX(e:∀T v M w M' w',cq T v M w->(∀b,c.K b\/M b->w'.heap[b]?=w.heap[b]?)->(∀b,M b->M' b)->cq T v M' w'):∀m l g w a d,(∀b,a b->d b)->(cW.Do c prog cq (cW.I6 c prog M w0 l3)) m l ⟨g,w,a⟩->(cW.Do c prog cq (cW.I6 c prog M w0 l3)) m l ⟨g,w,d⟩:=by
 intro m l g w a d hs h;cases m with
 |true=>exact⟨h.1,h.2.1,h.2.2.1,λb i=>hs b (h.2.2.2 b i)⟩
 |false=>
  rcases h with h|⟨q,f,n,k,j⟩
  .exact .inl h
  .exact .inr ⟨q,f,n,k,j.same e (λ_ _=>U) hs⟩
def aoY(i:Bool){Stop:Bool->ae.Lo At->aV->Prop}(ok:tO c S ab e8)(eG:i=true->∀T,c.bad T=false)(hC:c.C=31)(hS:∀m l g w M M',(∀b,M b->M' b)->Stop m l ⟨g,w,M⟩->Stop m l ⟨g,w,M'⟩)(J:q8 c bO prog Stop (ba i 103 124) fK iM gn (λT=>T*ab) (λT=>min (T*ab+ab) S) lR cq)(aoZ:∀q M f' g w,kq c cq q M w->(∃n,QuitsD prog n 1 g)->Stop false ⟨.idle,false,1,f',.gone q⟩ ⟨g,w,M⟩){fw bW Z W:Nat}{cs:fA}(Dv:c.K bW)(Sq:c.K Z)(Sr:∃t v,fK=.iface t v)(hW:W<4611686018427387904)(hI:nr c bO w0)(eR:c.rows c.N+W<=c.most)(eu:w0.heap[bW]?=some (.cells #[.P c.st 0] (ba i 114 185)))(Bz:w0.heap[Z]?=some (.cells #[fK] (ba i 113 184)))(ML:∀(p Q P s u O N K I H F V E D C U B L A z:Value) g w',ai (ak (ar c)) M w0 w'->sw.MS c g (Conc.G ((base (ba i 28 48)).at ⟨#[p,Q,P,.P Z 0,s,u,.P bW 0,.P c.wg 0,O,N,K,I,H,F,.I (W:Int),.I (W:Int),V,E,D,C,.tuple #[],B,L,A,z],[]⟩ [.inRegion (bM.pI ((bM.ed 8 ((ba i f28 f48).body.getD .skip)).getD .skip)) [],.code (bM.lY ((bM.ed 8 ((ba i f28 f48).body.getD .skip)).getD .skip))]) cs)->Stop true ⟨.idle,false,0,fw,.main .over⟩ ⟨g,w',M⟩)(r:Nat):
 ∀(k:Nat)(p Q P s u O N K I H F V E D C U B L A z:Value)(w:aH)(γ:ae.aM cj),k+r=W->0<W->af (ak (ar c)) M w0 [] w->bd (ak (ar c)) prog Stop true ⟨.idle,false,0,23*r+4+fw,.main (.spawn k false)⟩ γ ⟨Conc.G ((base (ba i 28 48)).at ⟨#[p,Q,P,.P Z 0,s,u,.P bW 0,.P c.wg 0,O,N,K,I,H,F,.I (W:Int),.I (k:Int),V,E,D,C,U,B,L,A,z],[]⟩ [.code ((bM.dA ((ba i f28 f48).body.getD .skip)).getD .skip),.inLoop ((bM.dA ((ba i f28 f48).body.getD .skip)).getD .skip),.inBlock 0,.code ((bM.ed 8 ((ba i f28 f48).body.getD .skip)).getD .skip)]) cs,w,M⟩:=by
 cases i<;>dsimp only[ba]
 all_goals
  have jU:=(df (bu c)).mO;induction r with
  |zero=>
   intro k p Q P s u O N K I H F V E D C U B L A z w γ hk h0 hF;obtain rfl:k=W:=AY;rw[Nat.mul_zero,vby,Nat.add_comm 4 fw];rw[<-fV (M:=M)];refine a8 (bu c) ?_;simp only[ba,f28,f48,vah,bM.dA,bM.ed,Nat.reduceBEq,vai,↓reduceIte];repeat w_go af.on
   u_call func45 aoW f45 af.on hF
   have X:∀b,c.K b\/b8 M [] b->b≠c.wg:=λb j e=>hF.eK b j (.inr (.inl e));refine vaf (λa Y=>⟨rfl,λkd _=>sw.aoU (f:=fw) (k:=k) h0 ok.most X (λg w' r' ha=>?_) a kd (ai.refl _ _ _)⟩);replace hF:=(hF.on Y).on r';rw[fV];simp only[ba,f28,f48,vah,bM.ed,bM.lY,bM.pI,Nat.reduceBEq,vai,↓reduceIte]at ML;exact ML p Q P s u O N K I H F (.F) E D C U B L A z g w' hF.rw ha
  |succ r ih=>
   intro k p Q P s u O N K I H F V E D C U B L A z w γ hk h0 hF;have e:23*(r+1)+4+fw=(23*r+4+fw+20)+3:=AY;rw[e];rw[<-fV (M:=M)];refine a8 (bu c) ?_;simp only[ba,f28,f48,vah,bM.dA,bM.ed,Nat.reduceBEq,vai,↓reduceIte]at ih⊢;have aBq:decide (k<W)=true:=AN;have R4:IntKind.wrap .i64 ((k:Int)+1)=((k+1:Nat):Int):=De;repeat w_go af.on
   u_call func41 aoV f41 af.on hF
   have X:∀b,c.K b\/b8 M [] b->b≠c.wg:=λb j e=>hF.eK b j (.inr (.inl e));refine vaf (λa Y=>⟨rfl,λkd _=>sw.aoz (f:=23*r+4+fw+20) (k:=k) ok.most X (λw₅ su jH=>?_) a kd (ai.refl _ _ _)⟩);replace hF:=(hF.on Y).on jH;clear Y jH X;refine a8 (bu c) ?_;walk_nrm
   repeat w_go af.on
   refine fU rfl hF λR d aS ax o au aE hr hF=>?_;refine aoj hr (aoi rfl rfl Ad rfl rfl) rfl rfl (f:=23*r+4+fw) (k:=k) rfl AY ?_ ?_
   .clear hr aE ax d;refine a8 (bu c) ?_;walk_nrm
    iterate 7 w_go af.on
    refine vaf (λR d=>⟨rfl,λaS ax=>?_⟩);replace hF:=hF.on d;grind[fV]
   .have tb:af (ak (ar c)) (λ_=>False) w0 [] o:=⟨⟨λb j=>hF.rw.heap b (j.imp id False.elim),hF.rw.size,hF.rw.later,hF.rw.output,hF.rw.tape⟩,Ab,λb j=>hF.lt b (j.imp id (λx=>x.imp False.elim id)),λb j=>hF.eK b (j.imp id (λx=>x.elim False.elim (λy=>AN))),Ab,Ab,λ_ h=>h.elim⟩;have ct:=λf γ=>aoM (f:=f) _ ok eG hC hS J aoZ Dv Sq Sr hI eu Bz o γ tb;dsimp only[ba]at ct;grind
end
end tM
namespace lE
open Conc RowKit Conc.Lib ConcR.Gen ConcM bn cW tM bM
section
section
variable{Shun:uan}{Stop:uax}
variable{aY:Frame}{aF:Act}{az:eQ}{aI:Nat}{aK:uag}{aG:uab}{csZ:fA}
def G2(f:Func)(id:Nat):Array Oper:=bM.pI ((bM.ed id (f.body.getD .skip)).getD .skip)
section
variable{Post:fE}{n:Nat}{w2:aH}{st bD b7 fj b3:Nat}{c9 ku kv o6 pU rA qJ rB rC m7 rD m8 qP m9 mG rE qI rF:Value}{ds:List Deferred}{k:uab}{cs:fA}
def kB(st bD b7 fj b3:Nat)(c9 ku kv o6 pU rA qJ rB rC m7 rD m8 qP m9 mG rE qI rF:Value)(l0 l1 l2 dT h9:Bool):Array Value:=#[.P st 0,c9,.N,(if h9 then .S bD b7 fj b3 else .N),ku,kv,o6,pU,rA,qJ,rB,rC,m7,rD,m8,qP,(if l0 then .P st 0 else undef),(if l1 then .P st 0 else undef),(if l2 then .P st 7 else undef),(if dT then .S bD b7 fj b3 else undef),m9,mG,rE,qI,rF]
def avl(z:w2.cell? (.a st 7)=some (.S bD b7 fj b3))(y:¬Shun (.cell ⟨st,7,none⟩))(E:st<w2.heap.size)(hk:∀j,ca prog Post n Shun 0 (Conc.G ((base 46).at ⟨kB st bD b7 fj b3 c9 ku kv o6 pU rA qJ rB rC m7 rD m8 qP m9 mG rE qI rF true true true true true,ds⟩ (.inRegion (G2 f46 4) []::k)) cs) (w2.at j)):
 ca prog Post n Shun 0 (Conc.G ((base 46).at ⟨kB st bD b7 fj b3 c9 ku kv o6 pU rA qJ rB rC m7 rD m8 qP m9 mG rE qI rF false false false false false,ds⟩ (.code (.region 4 (G2 f46 4) true)::k)) cs) w2:=by
 refine bj.QR (M:=λ_=>True) AU (I:=λam a _ w g l=>g=n/\l=Shun/\(∃j,w=w2.at j)/\∃l0 l1 l2 c d b:Bool,am=#[l0,l1,l2,c,d,b]/\a=⟨kB st bD b7 fj b3 c9 ku kv o6 pU rA qJ rB rC m7 rD m8 qP m9 mG rE qI rF l0 l1 l2 c b,ds⟩) ?_ ?_ ?_ ⟨U,U,⟨w2.drawn,U⟩,false,false,false,false,false,false,U,U⟩
 .rintro am a M w g l j ⟨u,t,⟨L,rfl⟩,q⟩;exact⟨u,t,⟨j,U⟩,q⟩
 .rintro am a M w g l i o rest ⟨rfl,rfl,⟨j,rfl⟩,l0,l1,l2,c,d,b,rfl,rfl⟩ hi s r x;have H:i<6:=by have:=(vag.1 s).1;exact this
  have go:∀v b0 b1 p m cH cr es,(#[l0,l1,l2,c,d,b]:uaw).setIfInBounds i true=#[b0,b1,p,m,cH,cr]->(Act.put ⟨kB st bD b7 fj b3 c9 ku kv o6 pU rA qJ rB rC m7 rD m8 qP m9 mG rE qI rF l0 l1 l2 c b,ds⟩ o.dst v)=⟨kB st bD b7 fj b3 c9 ku kv o6 pU rA qJ rB rC m7 rD m8 qP m9 mG rE qI rF b0 b1 p m cr,ds⟩->(∀w:aH,w.cell? (.a st 7)=some (.S bD b7 fj b3)->(execOp (Act.eval ⟨kB st bD b7 fj b3 c9 ku kv o6 pU rA qJ rB rC m7 rD m8 qP m9 mG rE qI rF l0 l1 l2 c b,ds⟩) o).run prog w=.ok (.value v) w/\listed prog (base 46).fn ⟨kB st bD b7 fj b3 c9 ku kv o6 pU rA qJ rB rC m7 rD m8 qP m9 mG rE qI rF l0 l1 l2 c b,ds⟩ o w=es)->(∀e∈es,e=⟨.cell ⟨st,7,none⟩,false,false⟩)->o.guard=none->deafBehind 0 es=0->ca prog Post g l 0 (Conc.G ((base 46).at ⟨kB st bD b7 fj b3 c9 ku kv o6 pU rA qJ rB rC m7 rD m8 qP m9 mG rE qI rF l0 l1 l2 c b,ds⟩ (.inRegion (G2 f46 4) (i::rest)::k)) cs) (w2.at j):=by
   intro v b0 b1 p m cH cr es u t q D J F;refine wo (mh U (w1:=w2.at j) (es:=es) (λkk=>(vau (v:=v) s (by simp[Region.wanted,J]) Ad (q ((w2.at j).at kk) z).1).trans (vbn (λes=>GStep.go _ _ es) (q ((w2.at j).at kk) z).2)) ?_ IB (.stop λkk=>?_))
   .intro e C;rw[D e C];exact BE y E _
   .have A:=x ⟨kB st bD b7 fj b3 c9 ku kv o6 pU rA qJ rB rC m7 rD m8 qP m9 mG rE qI rF b0 b1 p m cr,ds⟩ M ((w2.at j).at kk) g l ⟨U,U,⟨kk,U⟩,b0,b1,p,m,cH,cr,u,U⟩;rw[t,F];exact A
  have f:(G2 f46 4)[i]?=some o:=s;unfold G2 at f;simp only[f46,vah,bM.ed,bM.pI,Nat.reduceBEq,vai,↓reduceIte]at f;have K:i=0\/i=1\/i=2\/i=3\/i=4\/i=5:=AY;rcases K with rfl|rfl|rfl|rfl|rfl|rfl<;>(obtain rfl:=vbq f)
  .exact go (.P st 0) true l1 l2 c d b #[] U EN (λw h=>⟨EY,A1⟩) Ab U U
  .obtain rfl:l0=true:=by simpa using r ⟨0,.data⟩ Ab U
   exact go (.P st 0) true true l2 c d b #[] U EN (λw h=>⟨EY,HF⟩) Ab U U
  .obtain rfl:l1=true:=by simpa using r ⟨1,.data⟩ Ab U
   exact go (.P st 7) l0 true true c d b #[] U EN (λw h=>⟨EY,HF⟩) Ab U U
  .obtain rfl:l2=true:=by simpa using r ⟨2,.data⟩ Ab U
   exact go (.S bD b7 fj b3) l0 l1 true true d b #[⟨.cell ⟨st,7,none⟩,false,false⟩] U EN (λw h=>⟨EY,by simp[listed,go_sem,kB,h];rfl⟩) Ab U U
  .exact go (.N) l0 l1 l2 c true b #[] U EN (λw h=>⟨EY,A1⟩) Ab U U
  .obtain rfl:c=true:=by simpa using r ⟨3,.data⟩ Ab U
   exact go (.S bD b7 fj b3) l0 l1 l2 true d true #[] U EN (λw h=>⟨EY,HF⟩) Ab U U
 .rintro am a M w g l ⟨rfl,rfl,⟨j,rfl⟩,l0,l1,l2,c,d,b,rfl,rfl⟩ B;have hd:=bj.L8 (ops:=(G2 f46 4)) AT U B;obtain rfl:l0=true:=by simpa using hd 0 AT
  obtain rfl:l1=true:=by simpa using hd 1 AT
  obtain rfl:l2=true:=by simpa using hd 2 AT
  obtain rfl:c=true:=by simpa using hd 3 AT
  obtain rfl:b=true:=by simpa using hd 5 AT
  exact hk j
end
def avp{st d Z wg W:Nat}{D cK c_ F I Y X T S Q P V O N M L U K J t s ku kv y:Value}{w:aH}{bD b7 fj b3:Nat}{Post:fE}{n:Nat}(l:w.heap[st]?=some (Obj.cells #[.int .i32 0,.int .u32 0,t,s,ku,kv,y,.S bD b7 fj b3] 160))(r:w.heap[d]?=some (.cells #[.P st 0] 114))(H:d≠st)(E:∀off sp,2<=off->¬Shun (.cell ⟨st,off,sp⟩))(q:Shun (.cell ⟨st,0,none⟩))(A:¬Shun (.cell ⟨d,0,none⟩))(hk:∀j,ca prog Post n Shun 0 (Conc.G (aY.at (aF.put ((az[aI]?).bind (·.dst)) (.tuple #[.N,.S bD b7 fj b3])) (.inRegion az aK::aG)) csZ) (((w.setCell ⟨st,0,none⟩ (.int .i32 1)).setCell ⟨st,0,none⟩ (.int .i32 0)).at j)):
 ca prog Post n Shun 0 (Conc.G ((base 28).at ⟨#[D,cK,c_,.P Z 0,F,I,.P d 0,.P wg 0,Y,X,T,S,Q,P,.I (W:Int),.I (W:Int),V,O,N,M,.tuple #[],L,U,K,J],[]⟩ [.inRegion (bM.pI ((bM.ed 8 (f28.body.getD .skip)).getD .skip)) [],.code (bM.lY ((bM.ed 8 (f28.body.getD .skip)).getD .skip))]) (aY.at aF (.inRegion az (aI::aK)::aG)::csZ)) w:=by
 have FR:st<w.heap.size:=(vag.1 l).1;have R9:d<w.heap.size:=(vag.1 r).1;have x:w.cell? (.a d 0)=some (.P st 0):=by simp[World.cell?,r]
 have Ar:w.cell? (.a st 0)=some (.int .i32 0):=by simp[World.cell?,l]
 have z:w.frozen? ⟨st,0,none⟩=false:=by simp[World.frozen?,l]
 have i:(w.setCell ⟨st,0,none⟩ (.int .i32 1)).heap[st]?=some (Obj.cells #[.int .i32 1,.int .u32 0,t,s,ku,kv,y,.S bD b7 fj b3] 160):=by simp[World.setCell,vay,l]
 have hF:=atRel_refl w;simp[f28,bM.ed,bM.lY,bM.pI];refine wo (jz (R:=AtRel) IZ 300 _ _ ?_);repeat w_go cI
 refine vaf (λc b=>?_);replace hF:=cI hF b;obtain⟨a,rfl⟩:=hF;clear b;refine mh rfl (w1:=w.at a) (es:=#[⟨.cell ⟨d,0,none⟩,false,false⟩]) (λk=>(vau (v:=.P st 0) rfl rfl Ad (by have h:((w.at a).at k).cell? (.a d 0)=some (.P st 0):=x;go_simp)).trans (vbn (λes=>GStep.go _ _ es) (by have h:((w.at a).at k).cell? (.a d 0)=some (.P st 0):=x;simp[listed,go_sem,h];rfl))) ?_ IB ?_
 .intro e g;simp at g;subst g;exact BE A R9 _
 show er prog Shun _ 0 _ _;have hF:AtRel w (w.at a):=⟨a,rfl⟩;refine jz (R:=AtRel) IZ 300 _ _ ?_;walk_nrm
 repeat w_go cI
 u_call func46 (by kernel_rfl) f46 cI hF
 repeat w_go cI
 u_call func81 bM.IP f81 cI hF
 refine vaf (λc b=>?_);replace hF:=cI hF b;obtain⟨a,rfl⟩:=hF;clear b;refine Zl (w:=w.at a) Ar z q FR ?_;have hF:AtRel (w.setCell ⟨st,0,none⟩ (.int .i32 1)) ((w.at a).setCell ⟨st,0,none⟩ (.int .i32 1)):=⟨a,rfl⟩;have hsz:(w.setCell ⟨st,0,none⟩ (.int .i32 1)).heap.size=w.heap.size:=ae.k6 _ _ _;generalize w.setCell ⟨st,0,none⟩ (.int .i32 1)=w2 at hF hk i hsz;generalize(w.at a).setCell ⟨st,0,none⟩ (.int .i32 1)=w3 at hF⊢;have o:st<w2.heap.size:=AY;have m:w2.cell? (.a st 7)=some (.S bD b7 fj b3):=by simp[World.cell?,i]
 refine jz (R:=AtRel) IZ 300 _ _ ?_;walk_nrm
 repeat w_go cI
 u_defer cI hF
 repeat w_go cI
 refine vaf (λc b=>?_);replace hF:=cI hF b;obtain⟨a,rfl⟩:=hF;clear b;refine mh rfl (w1:=w2.at a) (es:=#[⟨.cell ⟨st,7,none⟩,false,false⟩]) (λk=>(vau (v:=.S bD b7 fj b3) rfl rfl Ad (by have h:((w2.at a).at k).cell? (.a st 7)=some (.S bD b7 fj b3):=m;go_simp)).trans (vbn (λes=>GStep.go _ _ es) (by have h:((w2.at a).at k).cell? (.a st 7)=some (.S bD b7 fj b3):=m;simp[listed,go_sem,h];rfl))) ?_ IB ?_
 .intro e g;simp at g;subst g;exact BE AN o _
 show er prog Shun _ 0 _ _;have hF:AtRel w2 (w2.at a):=⟨a,rfl⟩;refine jz (R:=AtRel) IZ 300 _ _ ?_;walk_nrm
 repeat w_go cI
 refine vaf (λc b=>?_);replace hF:=cI hF b;obtain⟨a,rfl⟩:=hF;clear b;refine mh rfl (w1:=w2.at a) (es:=#[]) (λk=>(vau (v:=.T) rfl rfl Ad BY).trans (vbn (λes=>GStep.go _ _ es) A8)) Ab IB ?_;show er prog Shun _ 0 _ _;have hF:AtRel w2 (w2.at a):=⟨a,rfl⟩;refine jz (R:=AtRel) IZ 300 _ _ ?_;walk_nrm
 repeat w_go cI
 refine vaf (λc b=>?_);replace hF:=cI hF b;obtain⟨a,rfl⟩:=hF;clear b;have C:w2.cell? (.a st 0)=some (.int .i32 1):=by simp[World.cell?,i]
 have B:w2.frozen? ⟨st,0,none⟩=false:=by simp[World.frozen?,i]
 refine .stop λaG=>avl (w2:=(w2.at a).at aG) (qP:=.T) m (E 7 none AY) o (λf=>?_);have hF:AtRel w2 (((w2.at a).at aG).at f):=⟨f,rfl⟩;unfold kB;simp only[↓reduceIte];refine wo (jz (R:=AtRel) IZ 300 _ _ ?_);repeat w_go cI
 u_in cI hF
 rw[vbv rfl func82 bM.yg rfl];simp only[vdm];refine⟨Be,?_⟩;walk_nrmf f82
 refine vaf (λc b=>?_);replace hF:=cI hF b;obtain⟨a,rfl⟩:=hF;clear b;refine Zm (w:=w2.at a) rfl C B q o ?_;have hF:AtRel (w2.setCell ⟨st,0,none⟩ (.int .i32 0)) ((w2.at a).setCell ⟨st,0,none⟩ (.int .i32 0)):=⟨a,rfl⟩;have u:=hk;generalize w2.setCell ⟨st,0,none⟩ (.int .i32 0)=w4 at hF u;generalize(w2.at a).setCell ⟨st,0,none⟩ (.int .i32 0)=gg at hF⊢;refine jz (R:=AtRel) IZ 300 _ _ ?_;u_in cI hF
 refine goes_leave2 rfl rfl func46 rfl ⟨Be,?_⟩;walk_nrm
 repeat w_go cI
 u_in cI hF
 refine goes_leave2 rfl rfl func28 rfl ⟨Be,?_⟩;refine vaf (λc b=>?_);replace hF:=cI hF b;obtain⟨a,rfl⟩:=hF;exact .stop λp=>u p
