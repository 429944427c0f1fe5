import Derived.Test.YtmlddfohidhniaaGreatPAK
import Derived.Test.YtmlddfohidhniaaGreatPAN
import Derived.Test.YtmlddfohidhniaaGreatPAO
import Derived.Test.YtmlddfohidhniaaGreatPAP
import Derived.Test.YtmlddfohidhniaaGreatPAQ
set_option linter.all false
set_option maxRecDepth 100000
set_option maxHeartbeats 16000000
namespace Go.Proofs.YtmlddfohidhniaaGreat
open Go.Proofs.Tryz
namespace gg
open Conc RowKit Conc.Lib ConcR.Gen ConcM ax bp ag fq iu bM
theorem JK:(f91.name== "runtime.NumGoroutine")=false:=by kernel_rfl
structure vA(c:dD)(S ak g_:Nat):Prop where
 size:c.size=.I (S:Int)
 zZ:c.zZ=.I (ak:Int)
 xU:c.xU=.S c.cP 0 c.N g_
 od:jb c.rows c.N<=1000000
 room:(c.N+1)*ak+S<4611686018427387904
 most:c.most<=1000000
 small:c.N<4611686018427387904
section
variable{c:dD}{Stop:Bool->ag.Lo At->aV->Prop}{mine:dh}{S ak g_:Nat}
variable{a4:Frame}{aF:Act}{aC:eY}{aK:Nat}{aM:uaa}{aH:il}{csZ:fV}
def arx(ok:vA c S ak g_){T:Nat}(h:T<c.N):(T:Int)*(ak:Int)=((T*ak:Nat):Int)/\T*ak+ak+S<4611686018427387904:=by refine⟨AA,?_⟩;have b:(T+1)*ak<=(c.N+1)*ak:=Nat.mul_le_mul_right _ AP;have a:=ok.room;grind
def ary(ok:vA c S ak g_){T:Nat}(h:T<c.N):∃F a E:Nat,(T:Int)*(ak:Int)=(F:Int)/\IntKind.wrap .i64 (F:Int)=(F:Int)/\IntKind.wrap .i64 ((F:Int)+(ak:Int))=(a:Int)/\(if S<a then(S:Int)else(a:Int))=(E:Int)/\qE (F=T*ak/\E=min (T*ak+ak) S):=by
 obtain⟨b,d⟩:=arx ok h;refine⟨T*ak,T*ak+ak,min (T*ak+ak) S,b,?_,?_,?_,Y,Y⟩
 .rw[IntKind.wrap_i64];omega
 .rw[IntKind.wrap_i64];omega
 grind
def arz(ok:vA c S ak g_){T:Nat}(h:T<c.N):IntKind.wrap .i64 ((T:Int)+1)=((T+1:Nat):Int):=by have:=ok.small;rw[IntKind.wrap_i64];omega
def TY(S ak T:Nat):Value:=.agg #[.I (T:Int),.I ((T*ak:Nat):Int),.I ((min (T*ak+ak) S:Nat):Int)]
def TZ(aF:Act)(aC:eY)(aK:Nat)(v:Value):Act:=aF.put ((aC[aK]?).bind (·.dst)) v
def arA(ok:vA c S ak g_){f:Nat}{p:uae}{w0:aS}(hS:∀m l g w M M',(∀b,M b->M' b)->Stop m l ⟨g,w,M⟩->Stop m l ⟨g,w,M'⟩)(a7:∀w' aj,ah (am (az c)) mine w0 w'->oc c.N aj.al->bg (am (az c)) prog Stop false ⟨.idle,false,0,f+1,.work .free p⟩ aj ⟨Conc.G (a4.at (TZ aF aC aK (.tuple #[.agg #[.I 0,.I 0,.I 0],.F])) (.inRegion aC aM::aH)) csZ,w',mine⟩)(fF:∀w' aj T,ah (am (az c)) mine w0 w'->T<c.N->bg (am (az c)) prog Stop false ⟨.idle,false,0,f+c.C,.work (.has T) p⟩ aj ⟨Conc.G (a4.at (TZ aF aC aK (.tuple #[TY S ak T,.T])) (.inRegion aC aM::aH)) csZ,w',mine⟩)(w:aS)(γ:ag.aO co)(hk:af (am (az c)) mine w0 [] w):
 bg (am (az c)) prog Stop false ⟨.idle,false,0,f+15,.work .free p⟩ γ ⟨Conc.G ((base 83).at ⟨#[.P c.st 0]++Array.replicate 64 undef,[]⟩ [.code (f83.body.getD .skip)]) (a4.at aF (.inRegion aC (aK::aM)::aH)::csZ),w,cd mine []⟩:=by
 have hF:=hk;have j_:=(da (bR c)).np;have W:prog.follows .mixedOrders=true:=Ah;refine bl (bR c) ?_;simp only[f83,vae];walk_nrm
 repeat w_go af.on
 refine hX rfl hF λo j I r n L z u hF=>?_;refine tB AA j_ rfl hF (vbc (v:=.P n.heap.size 0) (w':=n.alloc (Obj.cells #[Value.I 0,Value.I 0,Value.I 0] 186)) rfl rfl Am Ap) rfl BH (λq=>?_);clear hF;have hF:=q;clear q u z r j;generalize n.heap.size=b0 at hF⊢;generalize n.alloc (Obj.cells #[Value.I 0,Value.I 0,Value.I 0] 186)=w3 at hF⊢;refine bl (bR c) ?_;walk_nrm
 repeat w_go af.on
 u_call func90 TB f90 af.on hF
 have R:∀b,(az c).K b\/cd mine [(b0,Obj.cells #[Value.I 0,Value.I 0,Value.I 0] 186)] b->b≠(az c).st:=λb D e=>hF.fd b D (.inl e);refine vai (λy Q=>⟨rfl,λV _=>RR (f:=f+9) (bR c) (a:=.work .free p) Kx ok.most R (λO Aw P=>?_) y V (ah.refl _ _ _)⟩);replace hF:=(hF.on Q).on P;clear Q P R;refine bl (bR c) ?_;walk_nrm
 repeat w_go af.on
 u_defer af.on hF
 repeat w_go af.on
 refine vai (λo j=>⟨rfl,λI r=>?_⟩);replace hF:=hF.on j;clear j r;refine bg.seen (da (bR c)) rfl λI _ lq=>?_;obtain⟨xs,ee,sA,iO⟩:=wq lq;obtain⟨d,hd⟩:∃d,gG.of I.al=d:=⟨_,rfl⟩;have NV:d.T<=c.N:=by subst hd;exact iO.aT
 clear sA iO lq;by_cases hT:d.T=c.N\/300<d.M
 .skip
  refine BU (Z:=am (az c)) (C:=BX c mine w0 (d) ⟨.own,true,0,f+9,.work .free p⟩) AA Am W Ki IS (σ:=my c mine w0 (d) ⟨.own,true,0,f+9,.work .free p⟩ [(b0,Obj.cells #[Value.I 0,Value.I 0,Value.I 0] 186)]) (ia:=sn prog Stop false _ _ _ _ []) KQ ⟨_,rfl⟩ ?_ _ I ⟨hF,hd⟩;walk_nrm
  refine dU 0 (.P c.st 0) ?_;walk_nrm
  refine dU 1 (.P c.st 0) ?_;walk_nrm
  refine dU 2 (.P c.st 4) ?_;walk_nrm
  refine js (i:=3) (v:=.I (d.T:Int)) Ki rfl AJ AJ AJ (tF rfl rfl rfl 2 rfl (λx B=>by grind[gG.of]) (λw hc=>⟨Ap,BZ⟩)) ⟨_,rfl⟩ ?_;walk_nrm
  refine dU 4 (.P c.st 0) ?_;walk_nrm
  refine dU 5 (.P c.st 0) ?_;walk_nrm
  refine dU 6 (.P c.st 6) ?_;walk_nrm
  refine js (i:=7) (v:=.S c.cP 0 c.N g_) Ki rfl AJ AJ AJ (tF rfl rfl rfl 4 rfl (λx B=>by subst B;simp[ok.xU]) (λw hc=>⟨Ap,BZ⟩)) ⟨_,rfl⟩ ?_;walk_nrm
  refine dU 8 (.I (c.N:Int)) ?_;walk_nrm
  by_cases arB:d.T=c.N;case' pos=>
   refine dU 9 (.T) ?_;walk_nrm
   refine dU 10 (.T) ?_;walk_nrm
   refine js (i:=11) (v:=undef) Ki rfl AJ AJ AJ (IT rfl) ⟨_,rfl⟩ ?_;walk_nrm
   refine js (i:=12) (v:=undef) Ki rfl AJ AJ AJ (IT rfl) ⟨_,rfl⟩ ?_;walk_nrm
   refine js (i:=13) (v:=undef) Ki rfl AJ AJ AJ (IT rfl) ⟨_,rfl⟩ ?_;walk_nrm
   refine js (i:=14) (v:=undef) Ki rfl AJ AJ AJ (IT rfl) ⟨_,rfl⟩ ?_;walk_nrm
   refine js (i:=15) (v:=undef) Ki rfl AJ AJ AJ (IT rfl) ⟨_,rfl⟩ ?_;walk_nrm
   refine dU 16 (.T) ?_;walk_nrm
   refine zY AJ ?_ _
  case' neg=>
   have U:((d.T:Int)==(c.N:Int))=false:=AA;have uw:decide ((300:Int)<(d.M:Int))=true:=AA;refine dU 9 (.F) ?_;walk_nrm
   refine dU 10 (.F) ?_;walk_nrm
   refine dU 11 (.P c.st 0) ?_;walk_nrm
   refine dU 12 (.P c.st 0) ?_;walk_nrm
   refine dU 13 (.P c.st 5) ?_;walk_nrm
   refine js (i:=14) (v:=.I (d.M:Int)) Ki rfl AJ AJ AJ (tF rfl rfl rfl 3 rfl (λx B=>by grind[gG.of]) (λw hc=>⟨Ap,BZ⟩)) ⟨_,rfl⟩ ?_;walk_nrm
   refine dU 15 (.T) ?_;walk_nrm
   refine dU 16 (.T) ?_;walk_nrm
   refine zY AJ ?_ _;clear U uw
  all_goals
   rintro o X ⟨q,J⟩;clear hd;have hd:=J;clear J;clear hF;have hF:=q;clear q;simp[my];have Y:Fv c ⟨.own,true,0,f+9,.work .free p⟩ X:=⟨λh=>h,by have e:=vcm gG.T hd;have e2:=vcm gG.M hd;simp only[gG.of]at e e2;exact hT.imp (λx=>AP) λx=>AP⟩;clear hd NV hT arB;refine bl (bR c) ?_;walk_nrm
   repeat w_go af.on
   refine hX rfl hF λo j I r n L z u hF=>?_;replace Y:=Mw _ _ _ (Mw _ _ _ Y r) z;have s:=hF.c8 (b0,.cells #[.I 0,.I 0,.I 0] 186) Ad;refine B1 AA rfl (pre:=[]) (post:=[]) hF (veg (w':=n.setRow b0 #[.I 0,.I 0,.I 0]) rfl rfl Am (pV s ⟨rfl,rfl,rfl⟩ rfl rfl rfl).1) rfl (λe K=>?_) (λq=>?_)
   .have H:=vbs K;rw[(pV s ⟨rfl,rfl,rfl⟩ rfl rfl rfl).2]at H;grind
   clear hF;have hF:=q;clear q s;clear u z r j;refine bl (bR c) ?_;walk_nrm
   repeat w_go af.on
   u_in af.on hF
   rw[vem rfl func91 JK rfl];simp only[goes_go];refine⟨ED,?_⟩;walk_nrmf f91
   have R:∀b,c.K b\/cd mine [(b0,Obj.cells #[Value.I 0,Value.I 0,Value.I 0] 186)] b->b≠c.st:=λb D e=>hF.fd b D (.inl e);refine vai (λy Q=>⟨rfl,λV JY=>aq1 (f:=f+1) ok.most R rfl rfl (λO Aw P arC=>?_) y V (ah.refl _ _ _) (Mw _ _ _ Y JY).2⟩);replace hF:=(hF.on Q).on P;clear Q P R Y;refine bg.mk rfl (λn L z u=>?_);replace hF:=hF.on (dQ.rw u);have s:=hF.c8 (b0,.cells #[.I 0,.I 0,.I 0] 186) Ad;refine ss AA rfl (λb D=>hF.fd b (.inr D)) (YH rfl rfl func83 (NQ (t:=.F) s rfl rfl).1 (NQ (t:=.F) s rfl rfl).2) rfl (λe K=>?_) ?_
   .have H:=ax.xy K;simp at H;rcases H with rfl|rfl|rfl<;>exact⟨rfl,.inr (.inr Ad)⟩
   rw[vde];exact bg.more hS (a7 n L hF.rw (ri arC (tH z))) (λb D=>.inl D)
 .skip
  have N:d.T<c.N:=AP;have U:((d.T:Int)==(c.N:Int))=false:=AA;have uw:decide ((300:Int)<(d.M:Int))=false:=AA;obtain⟨F,JX,E,hmul,arD,arE,arF,arG⟩:=ary ok N;refine BU (Z:=am (az c)) (C:=BX c mine w0 (d) ⟨.own,true,0,f+9,.work .free p⟩) AA Am W Ki IS (σ:=my c mine w0 (d) ⟨.own,true,0,f+9,.work .free p⟩ [(b0,Obj.cells #[Value.I 0,Value.I 0,Value.I 0] 186)]) (ia:=sn prog Stop false _ _ _ _ []) KQ ⟨_,rfl⟩ ?_ _ I ⟨hF,hd⟩;walk_nrm
  refine dU 0 (.P c.st 0) ?_;walk_nrm
  refine dU 1 (.P c.st 0) ?_;walk_nrm
  refine dU 2 (.P c.st 4) ?_;walk_nrm
  refine js (i:=3) (v:=.I (d.T:Int)) Ki rfl AJ AJ AJ (tF rfl rfl rfl 2 rfl (λx B=>by grind[gG.of]) (λw hc=>⟨Ap,BZ⟩)) ⟨_,rfl⟩ ?_;walk_nrm
  refine dU 4 (.P c.st 0) ?_;walk_nrm
  refine dU 5 (.P c.st 0) ?_;walk_nrm
  refine dU 6 (.P c.st 6) ?_;walk_nrm
  refine js (i:=7) (v:=.S c.cP 0 c.N g_) Ki rfl AJ AJ AJ (tF rfl rfl rfl 4 rfl (λx B=>by subst B;simp[ok.xU]) (λw hc=>⟨Ap,BZ⟩)) ⟨_,rfl⟩ ?_;walk_nrm
  refine dU 8 (.I (c.N:Int)) ?_;walk_nrm
  refine dU 9 (.F) ?_;walk_nrm
  refine dU 10 (.F) ?_;walk_nrm
  refine dU 11 (.P c.st 0) ?_;walk_nrm
  refine dU 12 (.P c.st 0) ?_;walk_nrm
  refine dU 13 (.P c.st 5) ?_;walk_nrm
  refine js (i:=14) (v:=.I (d.M:Int)) Ki rfl AJ AJ AJ (tF rfl rfl rfl 3 rfl (λx B=>by grind[gG.of]) (λw hc=>⟨Ap,BZ⟩)) ⟨_,rfl⟩ ?_;walk_nrm
  refine dU 15 (.F) ?_;walk_nrm
  refine dU 16 (.F) ?_;walk_nrm
  refine zY AJ ?_ _;rintro o X ⟨q,J⟩;clear hd;have hd:=J;clear J;clear hF;have hF:=q;clear q;simp[my];clear hT NV U uw;refine bl (bR c) ?_;walk_nrm
  repeat w_go af.on
  refine vai (λo j=>⟨rfl,λI r=>?_⟩);replace hF:=hF.on j;replace hd:=(uJ (c:=c) (l:=⟨.own,true,0,f+9,.work .free p⟩) rfl r).trans hd;clear j r;refine BU (Z:=am (az c)) (C:=BX c mine w0 (d) ⟨.own,true,0,f+9,.work .free p⟩) AA Am W Ki IS (σ:=my c mine w0 (d) ⟨.own,true,0,f+9,.work .free p⟩ [(b0,Obj.cells #[Value.I 0,Value.I 0,Value.I 0] 186)]) (ia:=sn prog Stop false _ _ _ _ []) KQ ⟨_,rfl⟩ ?_ _ I ⟨hF,hd⟩;walk_nrm
  refine dU 0 (.P c.st 0) ?_;walk_nrm
  refine dU 1 (.P c.st 0) ?_;walk_nrm
  refine dU 2 (.P c.st 4) ?_;walk_nrm
  refine js (i:=3) (v:=.I (d.T:Int)) Ki rfl AJ AJ AJ (tF rfl rfl rfl 2 rfl (λx B=>by grind[gG.of]) (λw hc=>⟨Ap,BZ⟩)) ⟨_,rfl⟩ ?_;walk_nrm
  refine dU 4 (.P c.st 0) ?_;walk_nrm
  refine dU 5 (.P c.st 0) ?_;walk_nrm
  refine dU 6 (.P c.st 3) ?_;walk_nrm
  refine js (i:=7) (v:=.I (ak:Int)) Ki rfl AJ AJ AJ (tF rfl rfl rfl 1 rfl (λx B=>by subst B;simp[ok.zZ]) (λw hc=>⟨Ap,BZ⟩)) ⟨_,rfl⟩ ?_;walk_nrm
  refine dU 8 (.I (F:Int)) ?_;walk_nrm
  refine dU 9 (.I (F:Int)) ?_;walk_nrm
  refine zY AJ ?_ _;rintro o X ⟨q,J⟩;clear hd;have hd:=J;clear J;clear hF;have hF:=q;clear q;simp[my];refine bl (bR c) ?_;walk_nrm
  repeat w_go af.on
  refine vai (λo j=>⟨rfl,λI r=>?_⟩);replace hF:=hF.on j;replace hd:=(uJ (c:=c) (l:=⟨.own,true,0,f+9,.work .free p⟩) rfl r).trans hd;clear j r;refine BU (Z:=am (az c)) (C:=BX c mine w0 (d) ⟨.own,true,0,f+9,.work .free p⟩) AA Am W Ki IS (σ:=my c mine w0 (d) ⟨.own,true,0,f+9,.work .free p⟩ [(b0,Obj.cells #[Value.I 0,Value.I 0,Value.I 0] 186)]) (ia:=sn prog Stop false _ _ _ _ []) KQ ⟨_,rfl⟩ ?_ _ I ⟨hF,hd⟩;walk_nrm
  refine dU 0 (.P c.st 0) ?_;walk_nrm
  refine dU 1 (.P c.st 0) ?_;walk_nrm
  refine dU 2 (.P c.st 4) ?_;walk_nrm
  refine js (i:=3) (v:=.I (d.T:Int)) Ki rfl AJ AJ AJ (tF rfl rfl rfl 2 rfl (λx B=>by grind[gG.of]) (λw hc=>⟨Ap,BZ⟩)) ⟨_,rfl⟩ ?_;walk_nrm
  refine dU 4 (.I (F:Int)) ?_;walk_nrm
  refine dU 5 (.I (F:Int)) ?_;walk_nrm
  refine dU 6 (.P c.st 0) ?_;walk_nrm
  refine dU 7 (.P c.st 0) ?_;walk_nrm
  refine dU 8 (.P c.st 3) ?_;walk_nrm
  refine js (i:=9) (v:=.I (ak:Int)) Ki rfl AJ AJ AJ (tF rfl rfl rfl 1 rfl (λx B=>by subst B;simp[ok.zZ]) (λw hc=>⟨Ap,BZ⟩)) ⟨_,rfl⟩ ?_;walk_nrm
  refine dU 10 (.I (JX:Int)) ?_;walk_nrm
  refine dU 11 (.P c.st 0) ?_;walk_nrm
  refine dU 12 (.P c.st 0) ?_;walk_nrm
  refine dU 13 (.P c.st 2) ?_;walk_nrm
  refine js (i:=14) (v:=.I (S:Int)) Ki rfl AJ AJ AJ (tF rfl rfl rfl 0 rfl (λx B=>by subst B;simp[ok.size]) (λw hc=>⟨Ap,BZ⟩)) ⟨_,rfl⟩ ?_;walk_nrm
  refine dU 15 (.I (E:Int)) ?_;walk_nrm
  refine js (i:=16) (v:=.agg #[.I (d.T:Int),.I (F:Int),.I (E:Int)]) Ki rfl AJ AJ AJ (Ft rfl (λ_=>(QT rfl rfl rfl rfl).1) (λw=>by unfold listed;rw[(QT rfl rfl rfl rfl).2];rfl)) ⟨_,rfl⟩ ?_;walk_nrm
  refine sz (i:=17) AJ (xW rfl rfl (alM (ob:=Obj.cells #[Value.I 0,Value.I 0,Value.I 0] 186) rfl (λw=>⟨Ap,BH⟩) (λbt=>⟨⟨_,rfl⟩,?_⟩)));walk_nrm
  refine sz (i:=18) AJ (xW rfl rfl (alN rfl rfl (pre:=[]) (new:=#[.I (d.T:Int),.I (F:Int),.I (E:Int)]) (λw s=>⟨(pV s ⟨rfl,rfl,rfl⟩ rfl rfl rfl).1,λe K=>?_⟩) ⟨⟨_,rfl⟩,?_⟩))
  .have H:=vbs K;rw[(pV s ⟨rfl,rfl,rfl⟩ rfl rfl rfl).2]at H;grind
  walk_nrm
  refine zY AJ ?_ _;rintro o X ⟨q,J⟩;clear hF hd;have hF:=q;have hd:=J;clear q J;simp[my]at hF⊢;refine bl (bR c) ?_;walk_nrm
  repeat w_go af.on
  refine hX rfl hF λo j I r n L z u hF=>?_;replace hd:=(uJ (c:=c) (l:=⟨.own,true,0,f+9,.work .free p⟩) rfl z).trans ((uJ (c:=c) (l:=⟨.own,true,0,f+9,.work .free p⟩) rfl r).trans hd);clear r z j;have hc:n.cell? (.a c.st 4)=some (.I (d.T:Int)):=by rw[IU u.mt.1 2];subst hd;simp[gG.of]
  refine YI (k:=2) rfl rfl ((vbc (v:=.I (d.T:Int)) rfl rfl Am Ap).trans (vcm (λes=>GStep.go _ _ es) BZ)) rfl ?_;clear hc u;have arH:IntKind.wrap .i64 ((d.T:Int)+1)=((d.T+1:Nat):Int):=arz ok N;refine bl (bR c) ?_;walk_nrm
  repeat w_go af.on
  refine hX rfl hF λo j I r n L z u hF=>?_;replace hd:=(uJ (c:=c) (l:=⟨.own,true,0,f+9,.work .free p⟩) rfl z).trans ((uJ (c:=c) (l:=⟨.own,true,0,f+9,.work .free p⟩) rfl r).trans hd);clear r z j;have hc:n.cell? (.a c.st 4)=some (.I (d.T:Int)):=by rw[IU u.mt.1 2];subst hd;simp[gG.of]
  have rJ:n.frozen? ⟨c.st,4,none⟩=false:=by simp[World.frozen?,u.mt.1,hH]
  refine alC (f1:=f+c.C+8) (v:=.I ((d.T+1:Nat):Int)) u ((veg rfl rfl Am Ap).trans (vcm (λes=>GStep.go _ _ es) (by simp[listed,go_sem,hc,rJ];rfl))) rfl (by subst hd;rfl) rfl rfl rfl (by subst hd;exact N) AA ?_;have e1:L.al.taken=d.T:=by subst hd;rfl
  have q:=hF.shared (k:=c.st) (off:=4) (sp:=none) J1 (.I ((d.T+1:Nat):Int));clear hF;have hF:=q;clear q hc rJ u;rw[e1];clear hd e1 arD arE arH hmul arF;dsimp only;generalize n.setCell ⟨c.st,4,none⟩ (.I ((d.T+1:Nat):Int))=w4 at hF⊢;refine bl (bR c) ?_;walk_nrm
  repeat w_go af.on
  refine hX rfl hF λo j I r n L z u hF=>?_;have s:=hF.c8 (bt,.cells #[.I (d.T:Int),.I (F:Int),.I (E:Int)] 186) Ad;refine ss AA rfl (λb D=>hF.fd b (.inr D)) (vbc rfl rfl Am (Ax s rfl rfl).1) rfl (λe K=>?_) ?_
  .have H:=vbs K;rw[(Ax s rfl rfl).2]at H;simp at H;rcases H with rfl|rfl|rfl<;>exact⟨rfl,.inr (.inr Ad)⟩
  clear s u z r j;refine bl (bR c) ?_;walk_nrm
  repeat w_go af.on
  refine hX rfl hF λo j I r n L z u hF=>?_;have s:=hF.c8 (b0,Obj.cells #[Value.I 0,Value.I 0,Value.I 0] 186) Ad;refine B1 AA rfl (pre:=[(bt,.cells #[.I (d.T:Int),.I (F:Int),.I (E:Int)] 186)]) (post:=[]) hF (veg (w':=n.setRow b0 #[.I (d.T:Int),.I (F:Int),.I (E:Int)]) rfl rfl Am (pV s ⟨rfl,rfl,rfl⟩ rfl rfl rfl).1) rfl (λe K=>?_) (λq=>?_)
  .have H:=vbs K;rw[(pV s ⟨rfl,rfl,rfl⟩ rfl rfl rfl).2]at H;grind
  clear hF;have hF:=q;clear q s u z r j;simp only[List.cons_append,vei]at hF⊢;refine bl (bR c) ?_;walk_nrm
  repeat w_go af.on
  u_in af.on hF
  rw[vem rfl func91 JK rfl];simp only[goes_go];refine⟨ED,?_⟩;walk_nrmf f91
  have R:∀b,(az c).K b\/cd mine [(bt,.cells #[.I (d.T:Int),.I (F:Int),.I (E:Int)] 186),(b0,.cells #[.I (d.T:Int),.I (F:Int),.I (E:Int)] 186)] b->b≠(az c).st:=λb D e=>hF.fd b D (.inl e);refine vai (λy Q=>⟨rfl,λV JY=>TL (A:=az c) (f:=f+c.C) (bR c) (a:=.work (.has d.T) p) Kx ok.most R rfl rfl (λO Aw P=>?_) y V (ah.refl _ _ _)⟩);replace hF:=(hF.on Q).on P;clear Q P R;refine bg.mk rfl (λn L z u=>?_);replace hF:=hF.on (dQ.rw u);have s:=hF.c8 (b0,.cells #[.I (d.T:Int),.I (F:Int),.I (E:Int)] 186) Ad;refine ss AA rfl (λb D=>hF.fd b (.inr D)) (YH rfl rfl func83 (NQ (t:=.T) s rfl rfl).1 (NQ (t:=.T) s rfl rfl).2) rfl (λe K=>?_) ?_
  .have H:=ax.xy K;simp at H;rcases H with rfl|rfl|rfl<;>exact⟨rfl,.inr (.inr Ad)⟩
  rw[vde];have fh:TY S ak d.T=.agg #[.I (d.T:Int),.I (F:Int),.I (E:Int)]:=by obtain⟨rfl,rfl⟩:=qE.out arG;rfl
  have jT:=fF n L d.T hF.rw N;rw[fh]at jT;exact bg.more hS jT (λb D=>.inl D)
end
end gg
namespace pT
open Conc RowKit Conc.Lib ConcR.Gen ConcM bp cI wY bM
theorem arJ:(f55.name== "runtime.NumGoroutine")=false:=by kernel_rfl
theorem RO:(f92.name== "runtime.NumGoroutine")=false:=by kernel_rfl
section
variable{Shun:uam}{Stop:uav}
variable{a4:Frame}{aF:Act}{aC:eY}{aK:Nat}{aM:uaa}{aH:il}{csZ:fV}
def T0(Shun:uam)(Stop:uav)(f:uaj)(args:dp)(w:aS)(V:uab):Prop:=
 ∀(Gn:Frame)(a₂:Act)(DQ:eY)(Gp:Nat)(Gq:uaa)(k₂:il)(Gr:fV),
  (∀u w',V u w'->eQ prog Shun Stop 0 (Conc.G (Gn.at (a₂.put ((DQ[Gp]?).bind (·.dst)) u) (.inRegion DQ Gq::k₂)) Gr) w')->
  eQ prog Shun Stop 0 (Conc.G (Frame.enter prog f args .normal) (Gn.at a₂ (.inRegion DQ (Gp::Gq)::k₂)::Gr)) w
def arK{st h dJ wg W:Nat}{K dC e9 M L fK fL fM fN fO Z f2 Y X U T S Q P ed A l4 y x:Value}{w:aS}{V:uab}(q:w.heap[st]?=some (Obj.cells #[.int .i32 0,.int .u32 0,ed,A,l4,y,x,.N] 171))(B:w.heap[h]?=some (.cells #[.P st 0] 123))(O:h≠st)(LW:∃a n c,x=.slice a n c)(jQ:∀off sp,2<=off->¬Shun (.cell ⟨st,off,sp⟩))(z:Shun (.cell ⟨st,0,none⟩))(Tb:¬Shun (.cell ⟨h,0,none⟩))(F:T0 Shun Stop 92 #[x] (w.setCell ⟨st,0,none⟩ (.int .i32 1)) (λu w'=>V u w'/\(∃a n c,u=.slice a n c)/\w'.heap[st]?=(w.setCell ⟨st,0,none⟩ (.int .i32 1)).heap[st]?/\w.heap.size<=w'.heap.size))(hk:∀u w',V u w'->eQ prog Shun Stop 0 (Conc.G (a4.at (aF.put ((aC[aK]?).bind (·.dst)) (.tuple #[u,.N])) (.inRegion aC aM::aH)) csZ) (w'.setCell ⟨st,0,none⟩ (.int .i32 0))):
 eQ prog Shun Stop 0 (Conc.G ((base 37).at ⟨#[K,dC,e9,.P dJ 0,M,L,.P h 0,.P wg 0,fK,fL,fM,fN,fO,Z,.I (W:Int),.I (W:Int),f2,Y,X,U,.tuple #[],T,S,Q,P],[]⟩ [.inRegion (bM.oo ((bM.dW 8 (f37.body.getD .skip)).getD .skip)) [],.code (bM.k0 ((bM.dW 8 (f37.body.getD .skip)).getD .skip))]) (a4.at aF (.inRegion aC (aK::aM)::aH)::csZ)) w:=by
 obtain⟨sa,l,j,rfl⟩:=LW;have s:st<w.heap.size:=(vas.1 q).1;have r:h<w.heap.size:=(vas.1 B).1;have o:w.cell? (.a h 0)=some (.P st 0):=by simp[World.cell?,B]
 have Aa:w.cell? (.a st 0)=some (.int .i32 0):=by simp[World.cell?,q]
 have H:w.frozen? ⟨st,0,none⟩=false:=by simp[World.frozen?,q]
 have p:(w.setCell ⟨st,0,none⟩ (.int .i32 1)).heap[st]?=some (Obj.cells #[.int .i32 1,.int .u32 0,ed,A,l4,y,.slice sa l j,.N] 171):=by simp[World.setCell,vbb,q]
 have hF:=atRel_refl w;simp[f37,bM.dW,bM.k0,bM.oo];refine l_ (R:=AtRel) Jy 300 _ _ ?_;repeat w_go dN
 refine vai (λg f=>?_);replace hF:=dN hF f;obtain⟨d,rfl⟩:=hF;clear f;refine oi rfl (w1:=w.at d) (es:=#[⟨.cell ⟨h,0,none⟩,false,false⟩]) (λk=>(vbc (v:=.P st 0) rfl rfl Am (by have hc:((w.at d).at k).cell? (.a h 0)=some (.P st 0):=o;go_simp)).trans (vcm (λes=>GStep.go _ _ es) (by have hc:((w.at d).at k).cell? (.a h 0)=some (.P st 0):=o;simp[listed,go_sem,hc];rfl))) ?_ JT ?_
 .intro e i;simp at i;subst i;exact Jk Tb r _
 show eQ prog Shun Stop 0 _ _;have hF:AtRel w (w.at d):=⟨d,rfl⟩;refine l_ (R:=AtRel) Jy 300 _ _ ?_;walk_nrm
 repeat w_go dN
 u_call func55 arJ f55 dN hF
 repeat w_go dN
 u_call func90 bM.TB f90 dN hF
 refine vai (λg f=>?_);replace hF:=dN hF f;obtain⟨d,rfl⟩:=hF;clear f;refine aqY (w:=w.at d) Aa H z s ?_;have hF:AtRel (w.setCell ⟨st,0,none⟩ (.int .i32 1)) ((w.at d).setCell ⟨st,0,none⟩ (.int .i32 1)):=⟨d,rfl⟩;have hsz:(w.setCell ⟨st,0,none⟩ (.int .i32 1)).heap.size=w.heap.size:=ag.oO _ _ _;generalize w.setCell ⟨st,0,none⟩ (.int .i32 1)=w2 at hF F p hsz;generalize(w.at d).setCell ⟨st,0,none⟩ (.int .i32 1)=w3 at hF⊢;have D:st<w2.heap.size:=AP;have m:w2.cell? (.a st 7)=some (.N):=by simp[World.cell?,p]
 have E:w2.cell? (.a st 6)=some (.slice sa l j):=by simp[World.cell?,p]
 refine l_ (R:=AtRel) Jy 300 _ _ ?_;walk_nrm
 repeat w_go dN
 u_defer dN hF
 repeat w_go dN
 refine vai (λg f=>?_);replace hF:=dN hF f;obtain⟨d,rfl⟩:=hF;clear f;refine oi rfl (w1:=w2.at d) (es:=#[⟨.cell ⟨st,7,none⟩,false,false⟩]) (λk=>(vbc (v:=.N) rfl rfl Am (by have hc:((w2.at d).at k).cell? (.a st 7)=some (.N):=m;go_simp)).trans (vcm (λes=>GStep.go _ _ es) (by have hc:((w2.at d).at k).cell? (.a st 7)=some (.N):=m;simp[listed,go_sem,hc];rfl))) ?_ JT ?_
 .intro e i;simp at i;subst i;exact Jk AA D _
 show eQ prog Shun Stop 0 _ _;have hF:AtRel w2 (w2.at d):=⟨d,rfl⟩;refine l_ (R:=AtRel) Jy 300 _ _ ?_;walk_nrm
 repeat w_go dN
 refine vai (λg f=>?_);replace hF:=dN hF f;obtain⟨d,rfl⟩:=hF;clear f;refine oi rfl (w1:=w2.at d) (es:=#[]) (λk=>(vbc (v:=.F) rfl rfl Am (by simp[go_sem,binOp,Op.equal];rw[show Op.maxDepth=9999+1 from rfl,Op.equalIn];simp)).trans (vcm (λes=>GStep.go _ _ es) Ec)) Ad JT ?_;show eQ prog Shun Stop 0 _ _;have hF:AtRel w2 (w2.at d):=⟨d,rfl⟩;refine l_ (R:=AtRel) Jy 300 _ _ ?_;walk_nrm
 repeat w_go dN
 refine vai (λg f=>?_);replace hF:=dN hF f;obtain⟨d,rfl⟩:=hF;clear f;refine oi rfl (w1:=w2.at d) (es:=#[⟨.cell ⟨st,6,none⟩,false,false⟩]) (λk=>(vbc (v:=.slice sa l j) rfl rfl Am (by have hc:((w2.at d).at k).cell? (.a st 6)=some (.slice sa l j):=E;go_simp)).trans (vcm (λes=>GStep.go _ _ es) (by have hc:((w2.at d).at k).cell? (.a st 6)=some (.slice sa l j):=E;simp[listed,go_sem,hc];rfl))) ?_ JT ?_
 .intro e i;simp at i;subst i;exact Jk AA D _
 show eQ prog Shun Stop 0 _ _;have hF:AtRel w2 (w2.at d):=⟨d,rfl⟩;refine l_ (R:=AtRel) Jy 300 _ _ ?_;walk_nrm
 repeat w_go dN
 refine vai (λg f=>?_);replace hF:=dN hF f;obtain⟨d,rfl⟩:=hF;clear f;refine oi rfl (w1:=w2) (es:=#[]) (λk=>(stepG_enter rfl rfl Am (jd.rl (b:=base 55) (vs:=#[.slice sa l j]) rfl func92 RO rfl Cs _).1).trans (vcm (λes=>GStep.go _ _ es) (jd.rl (vs:=#[.slice sa l j]) rfl func92 RO rfl Cs _).2)) Ad JT ?_;refine F _ _ _ _ _ _ _ (λu w' hv=>?_);obtain⟨B4,⟨Ay,un,uc,rfl⟩,t,hsz'⟩:=hv;rw[p]at t;have I:w'.cell? (.a st 0)=some (.int .i32 1):=by simp[World.cell?,t]
 have N:w'.frozen? ⟨st,0,none⟩=false:=by simp[World.frozen?,t]
 have J:st<w'.heap.size:=AP;have hF:=atRel_refl w';refine l_ (R:=AtRel) Jy 300 _ _ ?_;walk_nrm
 repeat w_go dN
 u_in dN hF
 rw[vem rfl func91 bM.JK rfl];simp only[goes_go];refine⟨ED,?_⟩;walk_nrmf f91
 refine vai (λg f=>?_);replace hF:=dN hF f;obtain⟨d,rfl⟩:=hF;clear f;refine aqZ (w:=w'.at d) rfl I N z J ?_;have hF:AtRel (w'.setCell ⟨st,0,none⟩ (.int .i32 0)) ((w'.at d).setCell ⟨st,0,none⟩ (.int .i32 0)):=⟨d,rfl⟩;have C:=hk _ w' B4;generalize w'.setCell ⟨st,0,none⟩ (.int .i32 0)=w4 at hF C;generalize(w'.at d).setCell ⟨st,0,none⟩ (.int .i32 0)=er at hF⊢;refine l_ (R:=AtRel) Jy 300 _ _ ?_;u_in dN hF
 refine goes_leave2 rfl rfl func55 rfl ⟨ED,?_⟩;walk_nrm
 repeat w_go dN
 u_in dN hF
 refine goes_leave2 rfl rfl func37 rfl ⟨ED,?_⟩;refine vai (λg f=>?_);replace hF:=dN hF f;obtain⟨d,rfl⟩:=hF;exact C.at d
end
end pT
namespace gg
open Conc RowKit Conc.Lib ConcR.Gen ConcM ax bp ag fq iu bM
section
section
variable{c:dD}{Stop:Bool->ag.Lo At->aV->Prop}{mine:dh}{S ak g_:Nat}
variable{a4:Frame}{aF:Act}{aC:eY}{aK:Nat}{aM:uaa}{aH:il}{csZ:fV}
def asp(ok:vA c S ak g_){f T bq:Nat}(pw:c.cj T=false){F E:Int}{s:uan}{q:uae}{w0:aS}(hS:∀m l g w M M',(∀b,M b->M' b)->Stop m l ⟨g,w,M⟩->Stop m l ⟨g,w,M'⟩)(fF:∀w' aj,ah (am (az c)) mine w0 w'->bg (am (az c)) prog Stop false ⟨.idle,false,0,f,.work .free ((T,.slice s (c.rows T) bq)::q)⟩ aj ⟨Conc.G (a4.at (TZ aF aC aK (.tuple #[])) (.inRegion aC aM::aH)) csZ,w',mine⟩)(w:aS)(γ:ag.aO co)(hk:af (am (az c)) mine w0 [] w):
 bg (am (az c)) prog Stop false ⟨.idle,false,0,f+16,.work (.has T) q⟩ γ ⟨Conc.G ((base 111).at ⟨#[.P c.st 0,.agg #[.I (T:Int),.I F,.I E],.slice s (c.rows T) bq]++Array.replicate 27 undef,[]⟩ [.code (f111.body.getD .skip)]) (a4.at aF (.inRegion aC (aK::aM)::aH)::csZ),w,cd mine []⟩:=by
 have hF:=hk;have Y:=(da (bR c)).np;have X:prog.follows .mixedOrders=true:=Ah;refine bg.seen (da (bR c)) rfl λγ _ R=>?_;have NV:=YN R rfl;clear R;refine bl (bR c) ?_;simp only[f111,vae];walk_nrm
 repeat w_go af.on
 refine hX rfl hF λo n t z j W H y hF=>?_;refine tB AA Y rfl hF (vbc (v:=.P j.heap.size 0) (w':=j.alloc (.cells #[.I (T:Int),.I F,.I E] 186)) rfl rfl Am Ap) rfl BH (λB=>?_);clear hF;have hF:=B;clear B y H z n;generalize j.heap.size=b0 at hF⊢;generalize j.alloc (.cells #[.I (T:Int),.I F,.I E] 186)=w3 at hF⊢;refine bl (bR c) ?_;walk_nrm
 repeat w_go af.on
 u_call func90 TB f90 af.on hF
 have N:∀b,(az c).K b\/cd mine [(b0,.cells #[.I (T:Int),.I F,.I E] 186)] b->b≠(az c).st:=λb O e=>hF.fd b O (.inl e);refine vai (λr L=>⟨rfl,λQ _=>RR (f:=f+10) (bR c) (a:=.work (.has T) q) Kx ok.most N (λJ Aw K=>?_) r Q (ah.refl _ _ _)⟩);replace hF:=(hF.on L).on K;clear L K N;refine bl (bR c) ?_;walk_nrm
 repeat w_go af.on
 u_defer af.on hF
 repeat w_go af.on
 refine vai (λo n=>⟨rfl,λt z=>?_⟩);replace hF:=hF.on n;clear n z;refine BU (Z:=am (az c)) (C:=IW c mine w0 (b0,.cells #[.I (T:Int),.I F,.I E] 186)) AA Am X xX alP (σ:=my c mine w0 (gG.of t.al) ⟨.own,true,0,f+10,.work (.has T) q⟩ [(b0,.cells #[.I (T:Int),.I F,.I E] 186)]) (ia:=sn prog Stop false _ _ _ _ []) KQ ⟨_,_,_,rfl,rfl,rfl,Ad,rfl⟩ ?_ _ t ⟨hF,rfl⟩;walk_nrm
 refine dU 0 (.P c.st 0) ?_ xX ⟨_,_,_,rfl,rfl,rfl,Ad,rfl⟩;walk_nrm
 refine dU 1 (.P c.st 0) ?_ xX ⟨_,_,_,rfl,rfl,rfl,Ad,rfl⟩;walk_nrm
 refine dU 2 (.P c.st 6) ?_ xX ⟨_,_,_,rfl,rfl,rfl,Ad,rfl⟩;walk_nrm
 refine js (i:=3) (v:=.S c.cP 0 c.N g_) xX rfl AJ AJ AJ (alQ 4 rfl (λx=>by simp[ok.xU]) (λw hc=>⟨Ap,BZ⟩)) ⟨_,_,_,rfl,rfl,rfl,Ad,rfl⟩ ?_;walk_nrm
 refine dU 4 (.P b0 0) ?_ xX ⟨_,_,_,rfl,rfl,rfl,Ad,rfl⟩;walk_nrm
 refine js (i:=5) (v:=.I (T:Int)) xX rfl AJ AJ AJ (alR rfl (λw hB=>?_)) ⟨_,_,_,rfl,rfl,rfl,Ad,rfl⟩ ?_
 .have hc:w.cell? (.a b0 0)=some (.I (T:Int)):=by simp[World.cell?,hB]
  refine⟨Ap,λe he=>⟨0,?_⟩⟩;have V:=vbs he;simp[go_sem,hc]at V;exact V
 walk_nrm
 refine dU 6 (.slice s (c.rows T) bq) ?_ xX ⟨_,_,_,rfl,rfl,rfl,Ad,rfl⟩;walk_nrm
 refine js (i:=7) (v:=.P c.cP T) xX rfl AJ AJ AJ (Ft rfl (λ_=>Ap) (λ_=>by simp[listed,go_sem,NV];rfl)) ⟨_,_,_,rfl,rfl,rfl,Ad,rfl⟩ ?_;walk_nrm
 refine sz (i:=8) AJ (xW rfl rfl (alT (f1:=f+9) (v:=.slice s (c.rows T) bq) rfl rfl rfl AA (λw D U hp=>?_) ⟨⟨_,_,_,rfl,rfl,rfl,Ad,rfl⟩,?_⟩))
 .have hc:w.cell? (.a c.cP T)=some D[T]:=by simp[World.cell?,U,hp]
  have P:w.frozen? ⟨c.cP,T,none⟩=false:=by simp[World.frozen?,U]
  exact⟨Ap,by simp[listed,go_sem];rw[Go.events_store _ _ _ _ _ _ rfl,hc];simp[P];rfl⟩
 walk_nrm
 refine zY AJ ?_ _;rintro o eJ ⟨B,hd⟩;clear hF;have hF:=B;clear B;generalize(⟨(gG.of t.al).T,(gG.of t.al).M,(gG.of t.al).D.set T (.slice s (c.rows T) bq),(gG.of t.al).L⟩:gG)=d at hd;simp[my];refine bl (bR c) ?_;walk_nrm
 repeat w_go af.on
 refine hX rfl hF λo n t z j W H y hF=>?_;replace hd:=(uJ (c:=c) (l:=⟨.own,true,0,f+9,.work (.half T (.slice s (c.rows T) bq)) q⟩) rfl H).trans ((uJ (c:=c) (l:=⟨.own,true,0,f+9,.work (.half T (.slice s (c.rows T) bq)) q⟩) rfl z).trans hd);clear z H n;have hc:j.cell? (.a c.st 5)=some (.I (d.M:Int)):=by rw[IU y.mt.1 3];subst hd;simp[gG.of]
 obtain⟨I,NR,J3⟩:∃I:Nat,IntKind.wrap .i64 ((d.M:Int)+(c.rows T:Int))=(I:Int)/\qE (I=d.M+c.rows T):=by have h1:=alS y.sees pw rfl;have h2:=ok.od;refine⟨d.M+c.rows T,?_,rfl⟩;subst hd;simp only[gG.of];rw[IntKind.wrap_i64];omega
 refine YI (k:=3) rfl rfl ((vbc (v:=.I (d.M:Int)) rfl rfl Am Ap).trans (vcm (λes=>GStep.go _ _ es) BZ)) rfl ?_;clear hc y;refine bl (bR c) ?_;walk_nrm
 repeat w_go af.on
 refine hX rfl hF λo n t z j W H y hF=>?_;replace hd:=(uJ (c:=c) (l:=⟨.own,true,0,f+9,.work (.half T (.slice s (c.rows T) bq)) q⟩) rfl H).trans ((uJ (c:=c) (l:=⟨.own,true,0,f+9,.work (.half T (.slice s (c.rows T) bq)) q⟩) rfl z).trans hd);clear z H n;have hc:j.cell? (.a c.st 5)=some (.I (d.M:Int)):=by rw[IU y.mt.1 3];subst hd;simp[gG.of]
 have P:j.frozen? ⟨c.st,5,none⟩=false:=by simp[World.frozen?,y.mt.1,hH]
 refine alE (f1:=f+8) (p:=T) (v:=.slice s (c.rows T) bq) (q:=q) (u:=.I (I:Int)) y ((veg rfl rfl Am Ap).trans (vcm (λes=>GStep.go _ _ es) (by simp[listed,go_sem,hc,P];rfl))) rfl pw (by rw[qE.out J3];subst hd;rfl) rfl rfl rfl AA ?_;have B:=hF.shared (k:=c.st) (off:=5) (sp:=none) J1 (.I (I:Int));clear hF;have hF:=B;clear B hc P y hd NR;dsimp only;generalize j.setCell ⟨c.st,5,none⟩ (.I (I:Int))=w4 at hF⊢;refine bl (bR c) ?_;walk_nrm
 repeat w_go af.on
 u_in af.on hF
 rw[vem rfl func91 JK rfl];simp only[goes_go];refine⟨ED,?_⟩;walk_nrmf f91
 have N:∀b,(az c).K b\/cd mine [(b0,.cells #[.I (T:Int),.I F,.I E] 186)] b->b≠(az c).st:=λb O e=>hF.fd b O (.inl e);refine vai (λr L=>⟨rfl,λQ JY=>TL (A:=az c) (f:=f) (bR c) (a:=.work .free ((T,.slice s (c.rows T) bq)::q)) Kx ok.most N rfl rfl (λJ Aw K=>?_) r Q (ah.refl _ _ _)⟩);replace hF:=(hF.on L).on K;clear L K N;refine bl (bR c) ?_;u_in af.on hF
 refine goes_leave0 rfl rfl func111 rfl ⟨ED,?_⟩;refine vai (λo n=>⟨rfl,λt z=>?_⟩);replace hF:=hF.on n;exact bg.more hS (fF o t hF.rw) (λb O=>.inl O)
end
end
end gg
namespace jd
open Conc RowKit Conc.Lib ConcR.Gen ConcM ax bp ag fq iu gg
section
section
variable{c:dD}{Stop:Bool->ag.Lo At->aV->Prop}{S ak g_:Nat}{gH iw:Value}{kT:uaj}{mQ cW:uaf}
def af.Uc{Z:fc}{M:dh}{w1 w:aS}(h:af Z M w1 [] w1)(r:ah Z M w1 w):af Z M w1 [] w:=h.on (by rw[je];exact r)
def asq(ok:vA c S ak g_)(i:c.C=31)(hS:∀m l g w M M',(∀b,M b->M' b)->Stop m l ⟨g,w,M⟩->Stop m l ⟨g,w,M'⟩){f:Nat}(q:uae)(M:dh)(w1:aS)(d:af (am (az c)) M w1 [] w1):
 jJ prog Stop false 83 #[.P c.st 0] (fE c ⟨.idle,false,0,f+15,.work .free q⟩ M w1)
  (λu e=>(u=.tuple #[.agg #[.I 0,.I 0,.I 0],.F]/\e=wu c ⟨.idle,false,0,f+1,.work .free q⟩ M w1)\/∃T,T<c.N/\u=.tuple #[TY S ak T,.T]/\e=fE c ⟨.idle,false,0,f+31,.work (.has T) q⟩ M w1):=by
 intro a4 aF aC aK aM aH csZ hK w γ hJ;have hk:af (am (az c)) M w1 [] w:=hJ;rw[vds _ func83 Y];unfold fE;have h:=arA (a4:=a4) (aF:=aF) (aC:=aC) (aK:=aK) (aM:=aM) (aH:=aH) (csZ:=csZ) ok (f:=f) (p:=q) (w0:=w1) hS
  (λw' a r a7=>hK _ (wu c ⟨.idle,false,0,f+1,.work .free q⟩ M w1) AA w' a ⟨af.Uc d r,a7⟩)
  (λw' a T r j=>by rw[i];exact hK _ (fE c ⟨.idle,false,0,f+31,.work (.has T) q⟩ M w1) AA w' a (af.Uc d r)) w γ hk
 rw[je]at h;exact h
def asr(ok:vA c S ak g_){T:Nat}(pw:c.cj T=false)(hS:∀m l g w M M',(∀b,M b->M' b)->Stop m l ⟨g,w,M⟩->Stop m l ⟨g,w,M'⟩){f:Nat}{F E:Int}{q:uae}(s:uan)(bq:Nat)(M:dh)(w1:aS)(a:af (am (az c)) M w1 [] w1):
 jJ prog Stop false 111 #[.P c.st 0,.agg #[.I (T:Int),.I F,.I E],.slice s (c.rows T) bq] (fE c ⟨.idle,false,0,f+16,.work (.has T) q⟩ M w1)
  (λu d=>u=.tuple #[]/\d=fE c ⟨.idle,false,0,f,.work .free ((T,.slice s (c.rows T) bq)::q)⟩ M w1):=by
 intro a4 aF aC aK aM aH csZ hK w γ hJ;have hk:af (am (az c)) M w1 [] w:=hJ;rw[vds _ func111 Y];unfold fE;have h:=asp (a4:=a4) (aF:=aF) (aC:=aC) (aK:=aK) (aM:=aM) (aH:=aH) (csZ:=csZ) ok (f:=f) (q:=q) (T:=T) pw (s:=s) (bq:=bq) (F:=F) (E:=E) (w0:=w1) hS
  (λw' e r=>hK _ (fE c ⟨.idle,false,0,f,.work .free ((T,.slice s (c.rows T) bq)::q)⟩ M w1) ⟨Y,Y⟩ w' e (af.Uc a r)) w γ hk
 rw[je]at h;exact h
def ass(ok:vA c S ak g_)(h:c.C=31)(hS:∀m l g w M M',(∀b,M b->M' b)->Stop m l ⟨g,w,M⟩->Stop m l ⟨g,w,M'⟩){cb:aS}(J:uM c cb prog Stop 112 gH kT iw (λT=>T*ak) (λT=>min (T*ak+ak) S) mQ cW){f:Nat}{M:dh}{w0:aS}(e:pJ c cb w0):
 jJ prog Stop false 53 #[.P c.st 0,gH] (fE c ⟨.idle,false,0,f+15,.work .free []⟩ M w0) (λu i=>u=.tuple #[]/\∃q M' w1,iv (am (az c)) M w0 M' w1/\oe c cW q M' w1/\i=wu c ⟨.idle,false,0,f+1,.work .free q⟩ M' w1):=
 aso (fr:=λT=>T*ak) (aU:=λT=>min (T*ak+ak) S) e J.mono (asq ok h hS) (λq T j w1 d a=>asj J (f:=f+15) d a (λs bq M' w1 hk=>asr ok (J.kJ T) hS s bq M' w1 hk))
end
end
def DW(n:Nat):Frame:={(default:Frame)with fn:=n,defers:=[],mode:=.panicking [goexitEntry]}
theorem asE:(f53.name== "runtime.NumGoroutine")=false:=by kernel_rfl
theorem asF:(f52.name== "runtime.NumGoroutine")=false:=by kernel_rfl
theorem asG:(f51.name== "runtime.NumGoroutine")=false:=by kernel_rfl
def asH{P:b4}{f:uaj}{fn:Func}{c:Code}(a:P.funcs[f]?=some fn)(d:(fn.name== "runtime.NumGoroutine")=false)(b:fn.body=some c)(cap:dp)(w:aS):stepG P false (born P (sB f cap)) w=
 .go (Conc.G ((baseD f).at {tmps:=cap++Array.replicate (fn.ntmps-cap.size) undef,defers:=[]} [.code c]) [DW P.funcs.size]) w #[]:=by
 have hn:¬fn.name= "runtime.NumGoroutine" :=AA;rw[<-enter_atD cap a b];simp[born,sB,stepG,unwind,callDeferred,invoke,callFunc,a,hn,b,GStep.after,Conc.G,DW,vdy]
def asI(T:dp):QuitsD prog 2 0 (Conc.G {(baseD 51).at ⟨T,[]⟩ []with mode:=.returning} [DW prog.funcs.size]):=by
 refine QuitsD.ctl (g':=Conc.G (DW prog.funcs.size) []) Y (λw=>?_) ?_
 .simp[Conc.G,stepG,unwind,doReturn,results,Frame.at,baseD,DW,func51,f51,seen,GStep.after,goexitEntry]
 refine QuitsD.ctl (g':={Conc.G (DW prog.funcs.size) []with status:=.finished}) Y (λw=>?_) ⟨Y,Y⟩;simp[Conc.G,stepG,unwind,DW,goexitEntry,Frame.catches];rfl
section
variable{c:dD}{Stop:Bool->ag.Lo At->aV->Prop}{S ak g_:Nat}{gH iw:Value}{kT:uaj}{mQ cW:uaf}
theorem asJ(ok:vA c S ak g_)(W:c.C=31)(hS:∀m l g w M M',(∀b,M b->M' b)->Stop m l ⟨g,w,M⟩->Stop m l ⟨g,w,M'⟩){cb:aS}(J:uM c cb prog Stop 112 gH kT iw (λT=>T*ak) (λT=>min (T*ak+ak) S) mQ cW)(I:∀q M f' g w,oe c cW q M w->(∃n,QuitsD prog n 1 g)->Stop false ⟨.idle,false,1,f',.gone q⟩ ⟨g,w,M⟩){f y s:Nat}(Y:c.K y)(L:c.K s)(K:∃t v,gH=.iface t v){M:dh}{w0:aS}(V:pJ c cb w0)(X:w0.heap[y]?=some (.cells #[.P c.st 0] 123))(Fi:w0.heap[s]?=some (.cells #[gH] 122))(w:aS)(γ:ag.aO co)(hk:af (am (az c)) M w0 [] w):
 bg (am (az c)) prog Stop false ⟨.idle,false,0,f+19,.work .free []⟩ γ ⟨born prog (sB 51 #[.P c.wg 0,.P y 0,.P s 0]),w,M⟩:=by
 have hF:=hk;obtain⟨jt,D,rfl⟩:=K;refine bg.mk rfl (λa F o k=>?_);replace hF:=af.rel hF k;refine R2 AA (asH func51 asG rfl _ a) rfl rfl ?_;clear k o hk;rw[<-je (M:=M)];refine bl (bR c) ?_;walk_nrmf f51
 repeat w_go af.on
 u_defer af.on hF
 repeat w_go af.on
 refine hX rfl hF λj d O A a F o k hF=>?_;have hc:a.cell? (.a y 0)=some (.P c.st 0):=by simp[World.cell?,(hF.rw.heap y (.inl Y)).trans X]
 refine ss AA rfl (λb i=>hF.fd b (.inr i)) (vbc (v:=.P c.st 0) rfl rfl Am Ap) rfl (λe B=>?_) ?_
 .have z:=vbs B;simp[go_sem,hc]at z;subst z;exact⟨rfl,AA⟩
 clear hc k o A d;refine bl (bR c) ?_;walk_nrm
 repeat w_go af.on
 refine hX rfl hF λj d O A a F o k hF=>?_;have hc:a.cell? (.a s 0)=some (.iface jt D):=by simp[World.cell?,(hF.rw.heap s (.inl L)).trans Fi]
 refine ss AA rfl (λb i=>hF.fd b (.inr i)) (vbc (v:=.iface jt D) rfl rfl Am Ap) rfl (λe B=>?_) ?_
 .have z:=vbs B;simp[go_sem,hc]at z;subst z;exact⟨rfl,AA⟩
 clear hc k o A d;refine bl (bR c) ?_;walk_nrm
 repeat w_go af.on
 refine hX rfl hF λj d O A a F o k hF=>?_;have E:=af.rk hF;rw[je]at E;rw[je];refine MA (σ:=fE c ⟨.idle,false,0,f+4+15,.work .free []⟩ M a) AA rfl rfl Am (rl (vs:=#[.P c.st 0,.iface jt D]) rfl func53 asE rfl Cs a) (ass ok W hS J (V.aD hF)) E ?_;clear k o A d E hF;rintro u _ ⟨rfl,q,M',w1,h8,P,rfl⟩ N eJ ⟨hF,a7⟩;simp only[wu];rw[<-je (M:=M')];refine bl (bR c) ?_;walk_nrm
 repeat w_go af.on
 u_in af.on hF
 rw[vem rfl func52 asF rfl];simp only[goes_go];refine⟨ED,?_⟩;walk_nrmf f52
 have U:∀b,c.K b\/cd M' [] b->b≠c.wg:=λb i e=>hF.fd b i (.inr (.inl e));refine vai (λp Q=>⟨rfl,λnI Z=>?_⟩);replace hF:=hF.on Q;replace a7:=ri a7 (tH (c:=c) (l:=⟨.idle,false,0,f+4+1,.work .free q⟩) Z);refine bg.seen (da (bR c)) rfl λAw H lq=>?_;replace a7:=ri a7 (tH (c:=c) (l:=⟨.idle,false,0,f+4+1,.work .free q⟩) H);refine sM.asC (f:=f) ok.most U rfl (asI _) (λf' g w' r hq=>?_) p Aw (ah.refl _ _ _) a7;have C:=hF.on r;rw[je]at r⊢;refine I q M' f' g w' (λx R i=>?_) hq;exact J.mono _ _ _ _ _ _ (P x R i) (λb i=>(C.rw.heap b i)) (λ_ h=>h)
end
end jd
namespace wY
open Conc RowKit Conc.Lib ConcR.Gen ConcM ax bp ag fq iu gg jd
theorem asR:(f50.name== "runtime.NumGoroutine")=false:=by kernel_rfl
theorem asS:(f54.name== "runtime.NumGoroutine")=false:=by kernel_rfl
section
variable{c:dD}{cb:aS}{S ak g_:Nat}{gH iw:Value}{kT:uaj}{mQ cW:uaf}{M:dh}{w0:aS}{me:Goroutine->Prop}
def asT(i:∀T v M w M' w',cW T v M w->(∀b,c.K b\/M b->w'.heap[b]?=w.heap[b]?)->(∀b,M b->M' b)->cW T v M' w'):∀m l g w d e,(∀b,d b->e b)->(cI.DT c prog cW (cI.J0 c prog M w0 me)) m l ⟨g,w,d⟩->(cI.DT c prog cW (cI.J0 c prog M w0 me)) m l ⟨g,w,e⟩:=by
 intro m l g w d e hs h;cases m with
 |true=>exact⟨h.1,h.2.1,h.2.2.1,λb a=>hs b (h.2.2.2 b a)⟩
 |false=>
  rcases h with h|⟨q,f,o,n,k⟩
  .exact .inl h
  .exact .inr ⟨q,f,o,n,λx j a=>i _ _ _ _ _ _ (k x j a) (λ_ _=>Y) hs⟩
def asU{Stop:Bool->ag.Lo At->aV->Prop}(ok:vA c S ak g_)(hC:c.C=31)(hS:∀m l g w M M',(∀b,M b->M' b)->Stop m l ⟨g,w,M⟩->Stop m l ⟨g,w,M'⟩)(J:uM c cb prog Stop 112 gH kT iw (λT=>T*ak) (λT=>min (T*ak+ak) S) mQ cW)(aEM:∀q M f' g w,oe c cW q M w->(∃n,QuitsD prog n 1 g)->Stop false ⟨.idle,false,1,f',.gone q⟩ ⟨g,w,M⟩){fw Z Y W:Nat}{cs:fV}(N5:c.K Z)(acw:c.K Y)(acx:∃t v,gH=.iface t v)(hW:W<4611686018427387904)(hI:pJ c cb w0)(eK:c.rows c.N+W<=c.most)(fo:w0.heap[Z]?=some (.cells #[.P c.st 0] 123))(Fi:w0.heap[Y]?=some (.cells #[gH] 122))(N0:∀(j O N p o L K I H F E U D C B R A z u s:Value) g w',ah (am (az c)) M w0 w'->sM.N7 c g (Conc.G ((base 37).at ⟨#[j,O,N,.P Y 0,p,o,.P Z 0,.P c.wg 0,L,K,I,H,F,E,.I (W:Int),.I (W:Int),U,D,C,B,.tuple #[],A,z,u,s],[]⟩ [.inRegion (bM.oo ((bM.dW 8 (f37.body.getD .skip)).getD .skip)) [],.code (bM.k0 ((bM.dW 8 (f37.body.getD .skip)).getD .skip))]) cs)->Stop true ⟨.idle,false,0,fw,.main .over⟩ ⟨g,w',M⟩)(r:Nat):
 ∀(k:Nat)(j O N p o L K I H F E U D C B R A z u s:Value)(w:aS)(γ:ag.aO co),k+r=W->0<W->af (am (az c)) M w0 [] w->bg (am (az c)) prog Stop true ⟨.idle,false,0,23*r+4+fw,.main (.spawn k false)⟩ γ ⟨Conc.G ((base 37).at ⟨#[j,O,N,.P Y 0,p,o,.P Z 0,.P c.wg 0,L,K,I,H,F,E,.I (W:Int),.I (k:Int),U,D,C,B,R,A,z,u,s],[]⟩ [.code ((bM.dA (f37.body.getD .skip)).getD .skip),.inLoop ((bM.dA (f37.body.getD .skip)).getD .skip),.inBlock 0,.code ((bM.dW 8 (f37.body.getD .skip)).getD .skip)]) cs,w,M⟩:=by
 have j_:=(da (bR c)).np;induction r with
 |zero=>
  intro k j O N p o L K I H F E U D C B R A z u s w γ hk h0 hF;obtain rfl:k=W:=AP;rw[Nat.mul_zero,vbm,Nat.add_comm 4 fw];rw[<-je (M:=M)];refine bl (bR c) ?_;simp only[f37,vae,bM.dA,bM.dW,Nat.reduceBEq,vah,↓reduceIte];repeat w_go af.on
  u_call func54 asS f54 af.on hF
  have X:∀b,c.K b\/cd M [] b->b≠c.wg:=λb i e=>hF.fd b i (.inr (.inl e));refine vai (λa V=>⟨rfl,λnI _=>sM.asQ (f:=fw) (k:=k) h0 ok.most X (λg w' r' ha=>?_) a nI (ah.refl _ _ _)⟩);replace hF:=(hF.on V).on r';rw[je];simp only[f37,vae,bM.dW,bM.k0,bM.oo,Nat.reduceBEq,vah,↓reduceIte]at N0;exact N0 j O N p o L K I H F E (.F) D C B R A z u s g w' hF.rw ha
 |succ r ih=>
  intro k j O N p o L K I H F E U D C B R A z u s w γ hk h0 hF;have e:23*(r+1)+4+fw=(23*r+4+fw+20)+3:=AP;rw[e];rw[<-je (M:=M)];refine bl (bR c) ?_;simp only[f37,vae,bM.dA,bM.dW,Nat.reduceBEq,vah,↓reduceIte]at ih⊢;have acB:decide (k<W)=true:=AA;have NR:IntKind.wrap .i64 ((k:Int)+1)=((k+1:Nat):Int):=EX;repeat w_go af.on
  u_call func50 asR f50 af.on hF
  have X:∀b,c.K b\/cd M [] b->b≠c.wg:=λb i e=>hF.fd b i (.inr (.inl e));refine vai (λa V=>⟨rfl,λnI _=>sM.asv (f:=23*r+4+fw+20) (k:=k) ok.most X (λwX Aw o6=>?_) a nI (ah.refl _ _ _)⟩);replace hF:=(hF.on V).on o6;clear V o6 X;refine bl (bR c) ?_;walk_nrm
  repeat w_go af.on
  refine hX rfl hF λQ d aW aB P ay aE hr hF=>?_;refine ase hr (asd rfl rfl Am rfl rfl) rfl rfl (f:=23*r+4+fw) (k:=k) rfl AP ?_ ?_
  .clear hr aE aB d;refine bl (bR c) ?_;walk_nrm
   iterate 7 w_go af.on
   refine vai (λQ d=>⟨rfl,λaW aB=>?_⟩);replace hF:=hF.on d;grind[je]
  .have Rq:af (am (az c)) (λ_=>False) w0 [] P:=⟨⟨λb i=>hF.rw.heap b (i.imp id False.elim),hF.rw.size,hF.rw.later,hF.rw.output,hF.rw.tape⟩,Ad,λb i=>hF.lt b (i.imp id (λx=>x.imp False.elim id)),λb i=>hF.fd b (i.imp id (λx=>x.elim False.elim (λy=>AA))),Ad,Ad,λ_ h=>h.elim⟩;grind[asJ]
end
end wY
namespace pT
open Conc RowKit ConcM ax bp ag fq iu gg jd cI wY
def asV(x:Value)(N:Nat):madeCells #[x] N=(List.replicate N x).toArray:=by unfold madeCells;grind
structure Gy(c:dD)(a6:dh)(S ak N n W:Nat)(rows:uas)(cj:ubd)(place:Nat->Value)(cL dJ b2:Nat):Prop where
 pw:c.cj=cj
 aEP:c.place=place
 a7:c.N=N
 tj:∀T,T<N->c.rows T=rows T
 hK:∀b,c.K b↔a6 b\/b=cL\/b=dJ\/b=b2
 w5:c.size=.I (S:Int)
 asW:c.zZ=.I (ak:Int)
 asX:c.xU=.S c.cP 0 N N
 asY:c.least=.N
 eK:c.most=n+W
 asZ:c.Ms=171
 aEQ:c.Fq=66
section
variable{P:b4}{Post:uab}
variable{a4:Frame}{aF:Act}{aC:eY}{aK:Nat}{aM:uaa}{aH:il}{csZ:fV}
def as0{n:Nat}{Shun:uam}{S ak N W:Nat}{rows:uas}{cj:ubd}{place:Nat->Value}(iQ:0<ak)(hm:ak<=64)(sO:0<W)(hW:W<=16)(hS:S<=1000)(a7:N=(S+ak-1) / ak)(hn:n+W<=1000000)(tj:jb rows N<=1000000){jt:g4}{ft iw:Value}{cS kT:uaj}{a6:dh}{w:aS}{mQ cW:dD->Nat->Value->(Nat->Prop)->aS->Prop}(dI:∀b,a6 b->b<w.heap.size)(gV:∀b,a6 b\/w.heap.size<=b->∀l,fg l=some b->¬Shun l)(hinv:∀w,(callMethod (.iface jt ft) "Size" #[]).run prog w=.ok (.enter cS (#[iw]++#[])) w/\(callMethod (.iface jt ft) "Size" #[]).events prog w #[]=#[])(w5:∀(ST:Bool->fb.Lo->aV->Prop) bs,(∀m l g w M M',(∀b,M b->M' b)->ST m l ⟨g,w,M⟩->ST m l ⟨g,w,M'⟩)->jJ prog ST true cS (#[iw]++#[]) (jL fb () a6 w bs) (λu bW=>u=.I (S:Int)/\bW=jL fb () a6 w bs))(J5:∀c cb Stop d e f,Gy c a6 S ak N n W rows cj place d e f->(∀b,a6 b->cb.heap[b]?=w.heap[b]?)->uM c cb prog Stop 112 (.iface jt ft) kT iw (λT=>T*ak) (λT=>min (T*ak+ak) S) (mQ c) (cW c))(T9:∀c cb d e f(i Z V o j R Q P O L I U H F E B A z r:Value) c5 n' bJ M' D w',Gy c a6 S ak N n W rows cj place d e f->ah fb a6 w cb->cb.heap[d]?=some (.cells #[.P c.st 0] 123)->JZ c (cW c) c5 (λ_=>False) cb n' bJ M' D w'->bP prog Post n' bJ 0 (Conc.G ((base 37).at ⟨#[i,Z,V,.P e 0,o,j,.P d 0,.P c.wg 0,R,Q,P,O,L,I,.I (W:Int),.I (W:Int),U,H,F,E,.tuple #[],B,A,z,r],[]⟩ [.inRegion (bM.oo ((bM.dW 8 (f37.body.getD .skip)).getD .skip)) [],.code (bM.k0 ((bM.dW 8 (f37.body.getD .skip)).getD .skip))]) (a4.at aF (.inRegion aC (aK::aM)::aH)::csZ)) w'):
 bP prog Post n Shun 0 (Conc.G (Frame.enter prog 37 #[.agg #[.I (W:Int),.I (ak:Int)],.iface jt ft] .normal) (a4.at aF (.inRegion aC (aK::aM)::aH)::csZ)) w:=by
 have lP:af fb a6 w [] w:=af.start (λb hb=>AA) (λb _ h=>h.elim) (λ_ _ h=>h.elim);refine Ae (apW (X:=⟨_,w,cd a6 []⟩) (arN (ST:=λ_ _ Y=>∃st cP d f e wg bs,∃(i Z V o j R Q P O L I U H F E iU B A z r:Value),af fb a6 w bs Y.w/\(∀x∈[(wg,Obj.cells #[.int .u64 0,.int .u32 0] 135),(d,Obj.cells #[.P st 0] 123),(st,Obj.cells #[.int .i32 0,.int .u32 0,.I (S:Int),.I (ak:Int),.I 0,.I 0,.S cP 0 N N,.N] 171),(cP,Obj.cells (madeCells #[.N] N) 66),(e,Obj.cells #[.iface jt ft] 122),(f,Obj.cells #[.I (W:Int),.I (ak:Int)] 62)],x∈bs)/\Y.g=Conc.G ((base 37).at ⟨#[i,Z,V,.P e 0,o,j,.P d 0,.P wg 0,R,Q,P,O,L,I,.I (W:Int),.I (0:Int),U,H,F,E,iU,B,A,z,r],[]⟩ [.code ((bM.dA (f37.body.getD .skip)).getD .skip),.inLoop ((bM.dA (f37.body.getD .skip)).getD .skip),.inBlock 0,.code ((bM.dW 8 (f37.body.getD .skip)).getD .skip)]) (a4.at aF (.inRegion aC (aK::aM)::aH)::csZ)/\∀b,cd a6 bs b->Y.mine b) (N:=N) (W:=W) iQ a7 AP AP hinv (λbs=>w5 _ bs (λm l g w M M' yo h=>by obtain⟨st,cP,d,f,e,wg,bs,i,Z,V,o,j,R,Q,P,O,L,I,U,H,F,E,iU,B,A,z,r,hk,bx,hg,cV⟩:=h;exact⟨st,cP,d,f,e,wg,bs,i,Z,V,o,j,R,Q,P,O,L,I,U,H,F,E,iU,B,A,z,r,hk,bx,hg,λb hb=>yo b (cV b hb)⟩)) (λst cP d f e wg bs w' i Z V o j R Q P O L I U H F E iU B A z r hk bx _=>.stop ⟨st,cP,d,f,e,wg,bs,i,Z,V,o,j,R,Q,P,O,L,I,U,H,F,E,iU,B,A,z,r,hk,bx,rfl,λ_ h=>h⟩) w lP) rfl (λb hb=>dI b (by simp_all[je])) (λb hb=>gV b (by simp_all[je])) (λY jI hl=>.stop (λk=>?_)));obtain⟨st,cP,d,f,e,wg,bs,i,Z,V,o,j,R,Q,P,O,L,I,U,H,F,E,iU,B,A,z,r,hk,bx,hg,cV⟩:=jI;rw[hg];have IB:=hk.c8 _ (bx (wg,Obj.cells #[.int .u64 0,.int .u32 0] 135) Ad);have fo:=hk.c8 _ (bx (d,Obj.cells #[.P st 0] 123) Ad);have hst:=hk.c8 _ (bx (st,Obj.cells #[.int .i32 0,.int .u32 0,.I (S:Int),.I (ak:Int),.I 0,.I 0,.S cP 0 N N,.N] 171) Ad);have se:=hk.c8 _ (bx (cP,Obj.cells (madeCells #[.N] N) 66) Ad);have Fi:=hk.c8 _ (bx (e,Obj.cells #[.iface jt ft] 122) Ad);have cw:=hk.c8 _ (bx (f,Obj.cells #[.I (W:Int),.I (ak:Int)] 62) Ad);have hne:∀{a b:Nat}{x y:dp}{s t:g4},Y.w.heap[a]?=some (.cells x s)->Y.w.heap[b]?=some (.cells y t)->s≠t->a≠b:=by grind
 have ng:∀x∈[(wg,Obj.cells #[.int .u64 0,.int .u32 0] 135),(d,Obj.cells #[.P st 0] 123),(st,Obj.cells #[.int .i32 0,.int .u32 0,.I (S:Int),.I (ak:Int),.I 0,.I 0,.S cP 0 N N,.N] 171),(cP,Obj.cells (madeCells #[.N] N) 66),(e,Obj.cells #[.iface jt ft] 122),(f,Obj.cells #[.I (W:Int),.I (ak:Int)] 62)],¬a6 x.1/\w.heap.size<=x.1/\x.1<Y.w.heap.size:=by
  intro x hx;have h1:x.1∈bs.map (·.1):=vbh.2 ⟨x,bx x hx,rfl⟩;have h2:¬a6 x.1:=λh=>hk.sr x.1 h1 (.inr h);have h3:Y.mine x.1:=cV _ (.inr h1);rcases hl.new x.1 h3 with h|h
  .simp_all[je]
  grind
 have aER:=ng (wg,Obj.cells #[.int .u64 0,.int .u32 0] 135) Ad;have aES:=ng (d,Obj.cells #[.P st 0] 123) Ad;have T8:=ng (st,Obj.cells #[.int .i32 0,.int .u32 0,.I (S:Int),.I (ak:Int),.I 0,.I 0,.S cP 0 N N,.N] 171) Ad;have aET:=ng (cP,Obj.cells (madeCells #[.N] N) 66) Ad;have aEU:=ng (e,Obj.cells #[.iface jt ft] 122) Ad;have aEV:=ng (f,Obj.cells #[.I (W:Int),.I (ak:Int)] 62) Ad;have as1:∀b,a6 b->Y.w.heap[b]?=w.heap[b]?:=λb hb=>hk.rw.heap b (.inr hb);have hsz:w.heap.size<=Y.w.heap.size:=hk.rw.size;have as2:∀b,(a6 b\/b=d\/b=e\/b=f)->b≠st/\b≠wg/\b≠cP:=by grind
 let c:dD:={st:=st,cP:=cP,wg:=wg,Ms:=171,Fq:=66,tWg:=135,N:=N,rows:=(λT=>if T<N then rows T else n),size:=.I (S:Int),zZ:=.I (ak:Int),xU:=.S cP 0 N N,least:=.N,cj:=cj,place:=place,K:=(λb=>a6 b\/b=d\/b=e\/b=f),most:=n+W,C:=31,fd:=⟨hne hst IB AX,hne hst se AX,hne IB se AX⟩,z0:=as2}
 have t7:Gy c a6 S ak N n W rows cj place d e f:=⟨rfl,rfl,rfl,λT h=>vby h,λb=>Iff.rfl,rfl,rfl,rfl,rfl,rfl,rfl,rfl⟩;have T5:N<=S+ak:=by rw[a7];exact vad (Nat.div_le_self _ _) AP
 have hmul:(N+1)*ak<=2000*64:=Nat.mul_le_mul AP hm;have ok:vA c S ak N:=⟨rfl,rfl,rfl,(by
  show jb c.rows N<=1000000;rw[IN (g:=rows) (λp hp=>vby hp)];grind),AA,AA,AA⟩
 have J:=λStop=>J5 c Y.w Stop d e f t7 as1;have Ml:∀b,c.K b\/(am (az c)).gT b->b<Y.w.heap.size/\∀l,fg l=some b->¬Shun l:=by
  rintro b ((h|rfl|rfl|rfl)|(h|h|h))
  .exact⟨vap (dI b h) hsz,gV b (.inl h)⟩
  .grind
  .grind
  .grind
  .grind
  .grind
  grind
 refine ar1 (c:=c) (cW:=cW c) (J (λ_ _ _=>True)).mono (n:=n) (me:=λg'=>∃(i Z V o j R Q P O L I U H F E B A z r:Value),g'=Conc.G ((base 37).at ⟨#[i,Z,V,.P e 0,o,j,.P d 0,.P c.wg 0,R,Q,P,O,L,I,.I (W:Int),.I (W:Int),U,H,F,E,.tuple #[],B,A,z,r],[]⟩ [.inRegion (bM.oo ((bM.dW 8 (f37.body.getD .skip)).getD .skip)) [],.code (bM.k0 ((bM.dW 8 (f37.body.getD .skip)).getD .skip))]) (a4.at aF (.inRegion aC (aK::aM)::aH)::csZ)) (w:=Y.w.at k) (w0:=Y.w.at k) (M:=λ_=>False) (Shun:=Shun) (f0:=23*W+4+0) (v:=0) (b0:=⟨0,false,0,0,0,List.replicate N (.N),none⟩) rfl (vbq (Nat.lt_irrefl _)).symm (vcx _ _) ⟨rfl,rfl,rfl,rfl,rfl,⟨by simp;rfl,λp hp=>by show(List.replicate N (Value.slice none 0 0))[p]?=some (.N);rw[List.getElem?_replicate,vby (show p<N from hp)]⟩,rfl⟩ ⟨?_,?_,λ_=>?_⟩ (λb h=>h.elim) (λb hb=>Ml b (hb.resolve_left Kx)) (λk'=>?_) (λg' mP c5 n' bJ M' D w' cz=>?_)
 .show Y.w.heap[st]?=some (hH (az c) ⟨false,false,false,0,0,0⟩ ⟨0,false,0,0,0,List.replicate N (.N),none⟩);rw[hst];simp[hH,bk.word,c]
 .show Y.w.heap[wg]?=some (sy c ⟨0,false,0,0,0,List.replicate N (.N),none⟩);rw[IB];simp[sy,c]
 .show Y.w.heap[cP]?=_;rw[se,asV];rfl
 .refine asU (c:=c) (cb:=Y.w) (w0:=Y.w.at k) (M:=λ_=>False) ok rfl (asT (J (λ_ _ _=>True)).mono) (J _) (λq M f' g w kY hq=>.inr ⟨q,f',rfl,hq,kY⟩) (fw:=0) (W:=W) (cs:=a4.at aF (.inRegion aC (aK::aM)::aH)::csZ) (.inr J1) (.inr (.inr J1)) ⟨jt,ft,rfl⟩ AP (λb hb=>rfl) AA fo Fi (λi Z V o j R Q P O L I U H F E iU B A z r g w' hr ha=>?_) W 0 i Z V o j R Q P O L I U H F E iU B A z r ((Y.w.at k).at k') _ AP sO ?_
  .obtain⟨g1,h1,h2⟩:=ha;exact⟨⟨rfl,rfl,rfl⟩,⟨g1,h1,_,⟨i,Z,V,o,j,R,Q,P,O,L,I,U,H,F,E,B,A,z,r,rfl⟩,h2⟩,hr,λb h=>h.elim⟩
  .exact⟨⟨λ_ _=>rfl,vac _,.refl _,rfl,rfl⟩,Ad,λb hb=>(Ml b AA).1,λb hb=>by
    rcases hb with h|h|h
    .grind
    .grind
    .simp at h,by simp,by simp,λ_ h=>h.elim⟩
 .obtain⟨i,Z,V,o,j,R,Q,P,O,L,I,U,H,F,E,B,A,z,r,rfl⟩:=mP;exact T9 c (Y.w.at k) d e f i Z V o j R Q P O L I U H F E B A z r c5 n' bJ M' D w' t7 ⟨hk.rw.heap,hk.rw.size,hk.rw.later,hk.rw.output,hk.rw.tape⟩ fo cz
end
section
section
variable{Post:uab}
variable{a4:Frame}{aF:Act}{aC:eY}{aK:Nat}{aM:uaa}{aH:il}{csZ:fV}
def as3{n:Nat}{Shun:uam}{S ak N W:Nat}{rows:uas}(x:0<ak)(y:ak<=64)(t:0<W)(z:W<=16)(hS:S<=1000)(a7:N=(S+ak-1) / ak)(hn:n+W<=1000000)(tj:jb rows N<=1000000){jt:g4}{p iw:Value}{s kT:uaj}{a6:dh}{w:aS}{mQ cW:dD->Nat->Value->(Nat->Prop)->aS->Prop}(E:∀b,a6 b->b<w.heap.size)(B:∀b,a6 b\/w.heap.size<=b->∀l,fg l=some b->¬Shun l)(hinv:∀w,(callMethod (.iface jt p) "Size" #[]).run prog w=.ok (.enter s (#[iw]++#[])) w/\(callMethod (.iface jt p) "Size" #[]).events prog w #[]=#[])(w5:∀(ST:Bool->fb.Lo->aV->Prop) bs,(∀m l g w M M',(∀b,M b->M' b)->ST m l ⟨g,w,M⟩->ST m l ⟨g,w,M'⟩)->jJ prog ST true s (#[iw]++#[]) (jL fb () a6 w bs) (λu F=>u=.I (S:Int)/\F=jL fb () a6 w bs))(K:∀c cb Stop d j o,Gy c a6 S ak N n W rows (λ_=>false) (λ_=>undef) d j o->(∀b,a6 b->cb.heap[b]?=w.heap[b]?)->uM c cb prog Stop 112 (.iface jt p) kT iw (λT=>T*ak) (λT=>min (T*ak+ak) S) (mQ c) (cW c)){V:Value->aS->Nat->(Loc->Prop)->Prop}(B4:∀u w n Shun k,V u w n Shun->V u (w.at k) n Shun)(I:∀c cb d j o c5 f e M' D w' st,Gy c a6 S ak N n W rows (λ_=>false) (λ_=>undef) d j o->ah fb a6 w cb->JZ c (cW c) c5 (λ_=>False) cb f e M' D w'->st=c.st->
  T0 e (bP prog Post f e) 92 #[.S c.cP 0 N N] (w'.setCell ⟨st,0,none⟩ (.int .i32 1)) (λu i=>V u (i.setCell ⟨st,0,none⟩ (.int .i32 0)) f e/\(∃a n c,u=.slice a n c)/\i.heap[st]?=(w'.setCell ⟨st,0,none⟩ (.int .i32 1)).heap[st]?/\w'.heap.size<=i.heap.size))(hk:∀u w' f e,V u w' f e->bP prog Post f e 0 (Conc.G (a4.at (aF.put ((aC[aK]?).bind (·.dst)) (.tuple #[u,.N])) (.inRegion aC aM::aH)) csZ) w'):
 bP prog Post n Shun 0 (Conc.G (Frame.enter prog 37 #[.agg #[.I (W:Int),.I (ak:Int)],.iface jt p] .normal) (a4.at aF (.inRegion aC (aK::aM)::aH)::csZ)) w:=by
 refine as0 x y t z hS a7 hn tj E B hinv w5 K (λc cb d j o O dC e9 Q P fK fL fM fN fO fP f2 fQ fR Z Y X U R c5 f e M' D w' hc A C h=>?_);obtain⟨T,m,L,hst,H,-⟩:=h.st;obtain rfl:L=none:=by cases L with|none=>rfl|some q=>have:=(H q rfl).1;rw[hc.pw]at this;cases this
 simp only[Option.elim]at hst;rw[hc.w5,hc.asW,hc.asX,hc.asY,hc.asZ]at hst;have J:c.K d:=(hc.hK d).2 AA;have r:w'.heap[d]?=some (.cells #[.P c.st 0] 123):=(h.stands d (.inl J)).trans C;have v:=I c cb d j o c5 f e M' D w' c.st hc A h rfl;exact Ae (arK hst r AA AA h.arX h.arY.1 (h.DU d (.inl (h.sub d AA)) _ rfl) (V:=λu i=>V u (i.setCell ⟨c.st,0,none⟩ (.int .i32 0)) f e) v (λu i hv=>.stop AA))
end
end
end pT
namespace bS
open Conc ConcM RowKit ax bp ag fq iu gg jd cI pT dm
def as5:ww MJ:=by rintro ρ w w' rd d x hc a ⟨v,h0,b⟩;obtain⟨v',c,b0⟩:=a 0 _ h0;exact⟨v',c,ax.aX.carry qo hc b0 b⟩
def as6:pm MJ:=λ_ _ _ _ _ hk a⟨v,h0,b⟩=>⟨v,a _ _ h0,b.mono qp hk⟩
def N8{D D':dh}(h:∀b,D b->D' b):Ren.le (eS D de) (eS D' de):=⟨λ_ b k=>⟨k.1,h b k.2⟩,λ_ k=>k.elim⟩
structure J6(M a6:dh)(w:aS)(most:Nat)(rs:List aZ)(u:Value)(w':aS)(n':Nat)(bJ:uam)(cZ:dh):Prop where
 n:n'<=most
 sub:∀b,M b->cZ b
 new:∀b,cZ b->M b\/¬a6 b
 cl:io (ej prog false) cZ de w'
 val:ar (eS cZ de) u u
 rows:fG w' u rs
 cap:nn rs.length u
 same:∀b,a6 b->w'.heap[b]?=w.heap[b]?
 sh:∀b,cZ b\/a6 b\/w'.heap.size<=b->∀l,fg l=some b->¬bJ l
 size:w.heap.size<=w'.heap.size
 later:OsLater w.os w'.os
 output:w'.output=w.output
 tape:w'.tape=w.tape
theorem J6.at{M a6:dh}{w:aS}{most:Nat}{rs:List aZ}{u:Value}{w':aS}{a:Nat}{c:uam}{b:dh}(h:J6 M a6 w most rs u w' a c b)(k:Nat):J6 M a6 w most rs u (w'.at k) a c b:=
 ⟨h.n,h.sub,h.new,h.cl,h.val,aX.mono qp (λ_ _ _ x=>x) h.rows,h.cap,h.same,h.sh,h.size,h.later,h.output,h.tape⟩
def as7:iK prog false f92=true:=by decide+kernel
def as8{S ak N n W:Nat}{rows:uas}{M a6:dh}{w:aS}(yo:∀b,M b->a6 b)(hg:∀g,g<=prog.globals.size->M g)(ca:io (ej prog false) M de w)(ps:List (List aZ))(a7:N=ps.length)(uP:ps.length<=1000)(oQ:∀k,ku ps k<=100000){cW:uaf}{c:dD}{cb:aS}{cL dJ b2 n' c5:Nat}{O:uam}{M':dh}{D:uad}{w':aS}(xQ:∀p(h:p<ps.length),c5<=p->ps[p]=[])(MH:∀T v N w,T<c5->cW T v N w->pK (ej prog false) M c.K (λw v=>∃h:T<ps.length,fG w v ps[T]) v N w)(hc:Gy c a6 S ak N n W rows (λ_=>false) (λ_=>undef) cL dJ b2)(z:ah fb a6 w cb)(f:JZ c cW c5 (λ_=>False) cb n' O M' D w'){Stop:uav}{st:Nat}(hst:st=c.st):
 T0 O Stop 92 #[.S c.cP 0 N N] (w'.setCell ⟨st,0,none⟩ (.int .i32 1))
  (λu K=>(∃cZ,J6 M a6 w (n+W) (kU ps ps.length) u (K.setCell ⟨st,0,none⟩ (.int .i32 0)) n' O cZ)/\(∃a n c,u=.slice a n c)/\K.heap[st]?=(w'.setCell ⟨st,0,none⟩ (.int .i32 1)).heap[st]?/\w'.heap.size<=K.heap.size):=by
 subst hst;subst a7;have H:c.N=ps.length:=hc.a7;have ab5:c.st<w'.heap.size:=f.low _ KK;have Gz:(w'.setCell ⟨c.st,0,none⟩ (.int .i32 1)).heap.size=w'.heap.size:=ag.oO _ _ _;have n8:∀b,M' b->(w'.setCell ⟨c.st,0,none⟩ (.int .i32 1)).heap[b]?=w'.heap[b]?:=λb d=>nt w' _ _ (λe=>f.T8 AA);have Uj:(w'.setCell ⟨c.st,0,none⟩ (.int .i32 1)).os=w'.os/\(w'.setCell ⟨c.st,0,none⟩ (.int .i32 1)).output=w'.output/\(w'.setCell ⟨c.st,0,none⟩ (.int .i32 1)).tape=w'.tape:=⟨rfl,rfl,rfl⟩;generalize mI:w'.setCell ⟨c.st,0,none⟩ (.int .i32 1)=w1 at *;have aE0:∀b,a6 b->M' b:=λb d=>f.sub b (.inr (.inl ((hc.hK b).2 (.inl d))));have V:∀b,a6 b->w'.heap[b]?=w.heap[b]?:=λb d=>(f.stands b (.inl ((hc.hK b).2 (.inl d)))).trans (z.heap b (.inr d));have m:∀p:Nat,∃(v:Value)(G:dh),p<ps.length->D[p]?=some v/\(∀b,G b->M' b/\¬c.K b)/\io (ej prog false) (λb=>M b\/G b) de w'/\ar (eS (λb=>M b\/G b) de) v v/\∃h:p<ps.length,fG w' v ps[p]:=by
  intro p;by_cases j:p<ps.length
  .by_cases I:p<c5
   .obtain⟨v,r,q⟩:=f.FT p I (by rw[hc.pw]);obtain⟨G,g1,g2,eP,gW⟩:=MH _ _ _ _ I q;exact⟨v,G,AA⟩
   .refine⟨.N,de,λ_=>⟨f.arZ p (Nat.not_lt.1 I) (H▸j),λb h=>h.elim,λb d=>?_,.jP _ _,j,by rw[xQ p j (Nat.not_lt.1 I)];exact aX.nil _ _ _⟩⟩;rcases d with h|h
    .obtain⟨o,r,q⟩:=ca b h;exact⟨o,(V b (yo b h)).trans r,q.imp (gN.mono (N8 λ_=>.inl)) id⟩
    .exact h.elim
  .exact⟨.F,de,AA⟩
 obtain⟨vs,m⟩:=vdn.1 m;obtain⟨G,m⟩:=vdn.1 m;let s:Nat->Prop:=λb=>M b\/b=c.cP\/∃p,p<ps.length/\G p b
 have Z:∀b,s b->M' b:=by
  rintro b (h|h|⟨p,j,h⟩)
  .grind
  .exact f.sub b (.inr (.inr h))
  grind
 have F:∀p,p<ps.length->∀b,M b\/G p b->s b:=by grind
 have E:io (ej prog false) s de w1:=by
  intro b d;rw[n8 b (Z b d)];rcases d with h|h|⟨p,j,h⟩
  .obtain⟨o,r,q⟩:=ca b h;exact⟨o,AA,q.imp (gN.mono (N8 AA)) id⟩
  .subst h;refine⟨_,f.done,.inl (.cells _ (og λv hv=>?_) AA)⟩;obtain⟨p,j,rfl⟩:=List.getElem_of_mem hv;have tE:p<ps.length:=by rw[<-H,<-f.len];exact j
   have:=m p tE;rw[vag j]at this;have e:=van this.1;rw[e];exact this.2.2.2.1.mono (N8 (F p tE))
  .obtain⟨o,r,q⟩:=(m p j).2.2.1 b (.inr h);exact⟨o,r,q.imp (gN.mono (N8 (F p j))) id⟩
 have fB:aJ (eS s de) #[Value.slice (some (.a c.cP 0)) ps.length ps.length] #[Value.slice (some (.a c.cP 0)) ps.length ps.length]:=.one (.slice _ _ ⟨⟨rfl,.inr J1⟩,rfl,rfl⟩);have U:aX w1 1 MJ (.S c.cP 0 ps.length ps.length) ps:=by
  refine⟨_,_,rfl,AP,λi hi=>⟨c.cP,0,rfl,vs i,?_,?_⟩⟩
  .have r:=(m i hi).1;have q:w1.heap[c.cP]?=some (.cells D.toArray c.Fq):=(n8 _ AA).trans f.done;simp_all[World.cell?]
  .obtain⟨r,q,h3,h4,aL,bx⟩:=m i hi;exact ax.aX.carry qo (tJ AA h3) h4 bx
 obtain⟨X,aN⟩:=HV (ej prog false) s de w1;intro Gn A DQ Gp Gq t Gr hk;have Q:∀T,Calls (ae prog false) 92 #[Value.slice (some (.a c.cP 0)) ps.length ps.length] {X with tape:=T} (λe J=>∃v,e=.returned v/\fG J v (kU ps ps.length)/\nn (ku ps ps.length) v):=λT=>
  (amx ps _ {X with tape:=T} (aX.mono as6 (z_ X T) (ax.aX.carry as5 (aN.carry E (.inl rfl)) (fB.get 0 _ _ rfl rfl) U)) uP oQ).mono AA
 have qa:=R0 kJ func92 as7 rfl AJ E AA AA fB (R:=λv J=>fG J v (kU ps ps.length)/\nn (ku ps ps.length) v) aN Q true (Gn.at A (.inRegion DQ (Gp::Gq)::t)) Gr;refine SO qa rfl (λb d=>?_) (λb d=>?_) ?_
 .rcases d with h|h
  .rw[Gz];exact f.low b AA
  .exact h.elim
 .rcases d with h|h|h
  .exact f.DU b AA
  .exact h.elim
  .exact f.DU b AA
 rintro Y ⟨ρ,J,v,v',l⟩ y;rw[l.g,vde];obtain⟨aE1,hW⟩:=l.world;have ng:∀b,Y.mine b->w1.heap.size<=b/\b<Y.w.heap.size:=λb d=>(y.new b d).resolve_left λh=>h.elim;have J3:∀b,(∃a,ρ.rel a b)->s b\/w1.heap.size<=b:=by
  rintro b ⟨a,L⟩;rcases l.dom a b L with h|h
  .grind
  grind
 have aE2:∀b,b<w1.heap.size->Y.w.heap[b]?=w1.heap[b]?:=λb d=>y.kept b d λh=>h.elim;have aE3:¬ ∃a,ρ.rel a c.st:=λh=>by
  rcases J3 _ h with h|h
  .exact f.T8 (Z _ h)
  .omega
 have C:∀b,(∃a,ρ.rel a b)->(Y.w.setCell ⟨c.st,0,none⟩ (.int .i32 0)).heap[b]?=Y.w.heap[b]?:=λb d=>nt _ _ _ AA;have B:=hW.closed de;have Cy:ar (eS (λb=>∃a,ρ.rel a b) de) v' v':=ar.right (σ:=eS (λb=>∃a,ρ.rel a b) de) (λa b L=>⟨rfl,a,L⟩) l.val;have fJ:fG Y.w v' (kU ps ps.length):=ax.aX.carry qo hW.carry l.val l.post.1;have P:w'.heap.size<=Y.w.heap.size:=AA;have aE4:w.heap.size<=w'.heap.size:=vad z.size f.size;have aE5:(Y.w.setCell ⟨c.st,0,none⟩ (.int .i32 0)).heap.size=Y.w.heap.size:=ag.oO _ _ _;refine hk v' Y.w ⟨⟨λb=>∃a,ρ.rel a b,⟨?_,λb d=>⟨b,l.le.1 b b ⟨rfl,.inl d⟩⟩,λb d=>?_,uN B C,Cy,ax.aX.carry qo (tJ C B) Cy fJ,l.post.2.carry l.val,λb d=>?_,λb d=>?_,?_,?_,?_,?_⟩⟩,?_,?_,P⟩
 .rw[<-hc.eK];exact f.n
 .rcases J3 b d with h|h
  .rcases h with h|h|⟨p,j,h⟩
   .grind
   .exact .inr λx=>(c.z0 b ((hc.hK b).2 (.inl x))).2.2 h
   .exact .inr λx=>((m p j).2.1 b h).2 ((hc.hK b).2 (.inl x))
  .exact .inr λx=>by have:=f.low b AA;omega
 .have hlt:b<w1.heap.size:=by rw[Gz];exact f.low b AA
  have hne:b≠c.st:=(c.z0 b ((hc.hK b).2 (.inl d))).1;grind[nt]
 .rcases d with h|h|h
  .rcases J3 b h with h|h
   .exact f.DU b (.inl (Z b h))
   .exact f.DU b AA
  .exact f.DU b AA
  .exact f.DU b AA
 .omega
 .exact(z.later.trans f.os).trans (by have:=y.os;rw[show(Y.w.setCell ⟨c.st,0,none⟩ (.int .i32 0)).os=Y.w.os from rfl,<-Uj.1];grind)
 .exact(show Y.w.output=_ from y.output).trans (Uj.2.1.trans (f.output.trans z.output))
 .exact(show Y.w.tape=_ from y.tape).trans (Uj.2.2.trans (f.tape.trans z.tape))
 .obtain⟨a,cap,e,_⟩:=l.post.2.carry l.val;grind
 grind
end bS
namespace a3
open Conc ConcM RowKit ax bp ag fq iu gg jd cI pT dm bS
section
variable{O:gJ}
def nJ:(cY prog).Good:=Xq true AJ AJ
def Ul{C m:cH}{D M M':dh}{w:aS}(h:io C D M w):io m D M' w:=by
 intro b i;obtain⟨o,j,d⟩:=h b i;have f:∀a b,(eS D M).rel a b->(eS D M').rel b b:=λa b k=>⟨Y,k.2⟩;refine⟨o,j,?_⟩;rcases d with d|d
 .cases o with
  |cells c e fr=>cases d with|cells _ hc _=>exact .inl (.cells e (hc.right f) AA)
  |map es k=>cases d with|map _ g=>exact .inl (.map k (g.right λa b x=>⟨x.key.right f,x.val.right f,Y⟩))
  |number a l=>cases d with|number hn _=>exact .inl (.number (hn.right f) l)
  |coro x=>cases d with|shut h=>grind
  | _=>first|exact .inr trivial|(cases d)
 grind
theorem sP{D M M':dh}{v:Value}(h:ar (eS D M) v v):ar (eS D M') v v:=ar.right (ρ:=eS D M) (σ:=eS D M') (λ_ _ k=>⟨Y,k.2⟩) h
def cut{ao:Type}(g:Nat->ao)(fr aU:Nat):List ao:=(List.range (aU-fr)).map λk=>g (fr+k)
def Mi{ao:Type}(g:Nat->ao)(fr aU:Nat):(cut g fr aU).length=aU-fr:=by simp[cut]
def atc{ao:Type}(g:Nat->ao){a b c:Nat}(e:a<=b)(d:b<=c):cut g a b++cut g b c=cut g a c:=by
 apply List.ext_getElem
 .simp[Mi];omega
 grind[cut]
structure kq(g:Nat->Nat->List aZ):Prop where
 none:∀a b,b<=a->g a b=[]
 app:∀{a b c},a<=b->b<=c->g a b++g b c=g a c
def atd(f:Nat->aZ):kq (cut f):=⟨λa b h=>vbo (by rw[Mi];omega),atc f⟩
def ate(aD:uaa)(F:c2->List aZ)(rs:List aZ):kq (λa b=>eN aD F rs a (b-a)):=by
 refine⟨λa b h=>by simp[eN,Nat.sub_eq_zero_of_le h],λ{a b c} e d=>?_⟩;simp only[eN];rw[<-List.flatMap_append];congr 1
 rw[show c-a=(b-a)+(c-b) by omega,List.take_add,List.drop_drop,show a+(b-a)=b by omega]
def first (p:Nat->List aZ)(k:Nat):List aZ:=((List.range k).map p).flatten
def w7(p:Nat->List aZ)(k:Nat):first p (k+1)=first p k++p k:=by simp[first,vcq]
theorem Um(p:Nat->List aZ):∀k,fq.jb (λT=>(p T).length) k=(first p k).length
 |0=>by simp[fq.jb,first]
 |k+1=>by rw[fq.jb,Um p k,w7,vbg]
theorem L4{p:Nat->List aZ}{N:Nat}(a:∀T,T<N->(p T).length<=301):∀k,k<=N->(first p k).length<=301*k
 |0,_=>by simp[first]
 |k+1,h=>by rw[w7,vbg];have:=L4 a k AP;have:=a k AP;omega
def t8(p:Nat->List aZ)(N c5:Nat):List (List aZ):=(List.range N).map λT=>if T<c5 then p T else []
def DX(p:Nat->List aZ)(N c5:Nat):(t8 p N c5).length=N:=by simp[t8]
def Un(p:Nat->List aZ)(N c5 T:Nat)(h:T<(t8 p N c5).length):(t8 p N c5)[T]=if T<c5 then p T else []:=by simp[t8]
theorem N9(p:Nat->List aZ)(N c5:Nat):∀k,k<=N->kU (t8 p N c5) k=first p (min k c5)
 |0,_=>by simp[kU,first]
 |k+1,h=>by
  rw[MK (by rw[DX];omega),N9 p N c5 k AP,Un];by_cases hk:k<c5
  .rw[vby hk,vcp AP,vcp AP,w7]
  .rw[vbq hk,vcc AP,vcc AP,vcb]
def atf{g:Nat->Nat->List aZ}(hg:kq g)(ak S k:Nat):g 0 (min (k*ak) S)++g (k*ak) (min (k*ak+ak) S)=g 0 (min ((k+1)*ak) S):=by
 rw[Nat.succ_mul];rcases vdd (k*ak) S with x|x
 .rw[vcp (vdq x),hg.app (vav _) AP]
 .rw[hg.none (k*ak) _ AP,vcc x,vcc AP,vcb]
theorem Uo{g:Nat->Nat->List aZ}(hg:kq g){ak S:Nat}:∀k,first (λT=>g (T*ak) (min (T*ak+ak) S)) k=g 0 (min (k*ak) S)
 |0=>by simp[first,hg.none 0 0]
 |k+1=>by rw[w7,Uo hg k,atf hg]
def J7{ak S:Nat}(a:0<ak):S<=(S+ak-1) / ak*ak/\∀T,T<(S+ak-1) / ak->T*ak<S:=by
 have h:=Nat.div_add_mod (S+ak-1) ak;have d:=Nat.mod_lt (S+ak-1) a;have c:(S+ak-1) / ak*ak=ak*((S+ak-1) / ak):=Nat.mul_comm _ _;constructor
 .omega
 .intro T b;have:(T+1)*ak<=(S+ak-1) / ak*ak:=Nat.mul_le_mul_right _ b;grind
def Lt(M:dh)(w:aS)(R:List aZ->Prop)(u:Value)(_:dh)(w':aS):Prop:=
 ∃v rs,R rs/\u=.tuple #[v,.N]/\fG w' v rs/\nn rs.length v/\∀b,M b->w'.heap[b]?=w.heap[b]?
def atg(M:dh)(w:aS)(rs:List aZ)(u:Value)(_:dh)(w':aS):Prop:=
 ∃v,u=.tuple #[v,.N]/\fG w' v rs/\nn rs.length v/\∀b,M b->w'.heap[b]?=w.heap[b]?
section
variable{Post:uab}{M:dh}{w:aS}
theorem gi.mono{P:b4}{f:uaj}{args:dp}{d:Nat}{V a:ube}(h:gi O P Post f args M w d V)(q:∀u M w,V u M w->a u M w):gi O P Post f args M w d a:=
 λn Shun hn o j aF aC aK aM aH csZ hc k=>h n Shun hn o j aF aC aK aM aH csZ hc λu M' w' b m i g e c p l=>k u M' w' b m i g e c p (q _ _ _ l)
def Ls{p:Nat->List aZ}{ak S N W:Nat}(Y:∀T,T<N->(p T).length<=301)(A:0<ak)(Z:ak<=64)(U:0<W)(hW:W<=16)(hS:S<=300)(a7:N=(S+ak-1) / ak){jt:g4}{t iw:Value}{P kT:uaj}{mQ:dD->Nat->Value->(Nat->Prop)->aS->Prop}(hinv:∀w,(callMethod (.iface jt t) "Size" #[]).run prog w=.ok (.enter P (#[iw]++#[])) w/\(callMethod (.iface jt t) "Size" #[]).events prog w #[]=#[])(E:∀g,g<=prog.globals.size->M g)(ca:io (ej prog false) M de w)(w5:∀(ST:Bool->fb.Lo->aV->Prop) bs,(∀m l g w M M',(∀b,M b->M' b)->ST m l ⟨g,w,M⟩->ST m l ⟨g,w,M'⟩)->jJ prog ST true P (#[iw]++#[]) (jL fb () (λb=>M b\/b<O.n) w bs) (λu bW=>u=.I (S:Int)/\bW=jL fb () (λb=>M b\/b<O.n) w bs))(J5:∀c cb Stop,(∀b,M b->c.K b)->c.N=N->(∀T,T<N->c.rows T=(p T).length)->(∀T,c.cj T=false)->(∀b,M b->cb.heap[b]?=w.heap[b]?)->uM c cb prog Stop 112 (.iface jt t) kT iw (λT=>T*ak) (λT=>min (T*ak+ak) S) (mQ c) (λT v M' w=>pK (ej prog false) M c.K (λw v=>T<c.N/\fG w v (p T)) v M' w)):
 gi O prog Post 37 #[.agg #[.I (W:Int),.I (ak:Int)],.iface jt t] M w 1 (Lt M w (λrs=>∃c5,c5<=N/\rs=first p c5/\(c5=N\/300<rs.length))):=by
 intro n Shun hn e e7 aF aC aK aM aH csZ hc dg;obtain⟨dy,F⟩:=J7 (S:=S) A;rw[<-a7]at dy F;have aE7:N<=S:=by
  have:∀k,k<=N->k<=S:=by intro k hk;cases k with|zero=>grind|succ k=>have:=F k hk;have J:=Nat.le_mul_of_pos_right k A;omega
  grind
 have eK:=L4 Y;refine as3 (rows:=λT=>(p T).length) (a6:=λb=>M b\/b<O.n) (cW:=λc T v M' w=>pK (ej prog false) M c.K (λw v=>T<c.N/\fG w v (p T)) v M' w) A Z U hW AP a7 AP (by rw[Um];have:=eK N JT;omega) (λb a=>a.elim e.lt λx=>vap x e.ob) (λb a=>a.elim (λx=>x.elim (λy=>e.sh b (.inl y)) (e.so b)) λx=>e.sh b (.inr x)) hinv w5
  (λc cb Stop cL dJ b2 d I=>J5 c cb Stop (λb a=>(d.hK b).2 (.inl (.inl a))) d.a7 d.tj (λT=>by rw[d.pw]) AA)
  (V:=λu w' i j=>∃f c5,(c5<=N/\(c5=N\/300<(first p c5).length))/\J6 M (λb=>M b\/b<O.n) w (n+W) (first p c5) u w' i j f) (λu w' i j k h=>by obtain⟨f,c5,B,h⟩:=h;exact⟨f,c5,B,h.at k⟩) (λc cb cL dJ b2 c5 i j M' D w' st d I L hst=>?_) (λu w' i j hv=>?_)
 .obtain⟨r,K⟩:=L.aT;rw[d.a7]at r K;have z:c5=N\/300<(first p c5).length:=by refine K.imp_right λh=>?_;rw[<-Um];rwa[fq.IN (g:=λT=>(p T).length) λq hq=>d.tj q AP]at h
  have R:kU (t8 p N c5) (t8 p N c5).length=first p c5:=by rw[DX,N9 p N c5 N JT,vcc r]
  have:=as8 (Stop:=bP prog Post i j) (c5:=c5) AA E ca (t8 p N c5) (DX p N c5).symm (by rw[DX];omega) (λk=>?_) (λq h hq=>by rw[Un,vbq AP]) (λT v M w B h=>?_) d I L hst
  .rw[R]at this;exact λGn s DQ Gp Gq o Gr hK=>this Gn s DQ Gp Gq o Gr λu Q⟨⟨f,h⟩,J⟩=>hK u Q ⟨⟨f,c5,⟨r,z⟩,h⟩,J⟩
  .by_cases hk:k<=N
   .unfold ku;rw[N9 p N c5 k hk];have:=eK (min k c5) AP;omega
   .unfold ku kU;rw[vbv (by rw[DX];omega)];have:(t8 p N c5).flatten=kU (t8 p N c5) N:=by simp_all[kU,vbv,DX]
    rw[this,N9 p N c5 N JT];have:=eK (min N c5) AP;omega
  .obtain⟨G,g1,g2,eP,gW,X⟩:=h;have C:T<(t8 p N c5).length:=by rw[DX,<-d.a7];exact gW
   exact⟨G,g1,g2,eP,C,by rw[Un,vby B];exact X⟩
 .obtain⟨f,c5,⟨r,z⟩,h⟩:=hv;refine dg (.tuple #[u,.N]) f w' i j (by have:=h.n;omega) ⟨Ul h.cl,λg hg=>h.sub g (E g hg),λb a=>h.sh b (a.imp id .inr),λb a h0=>(h.new b a).elim (λx=>e.new b x h0) AA,vad e.ob h.size,λb h0 a=>(h.same b (.inr a)).trans (e.old b h0 a),λb a=>h.sh b AA⟩ h.sub (.EA (og λx H=>?_)) ⟨h.size,h.later,h.output,h.tape⟩ ⟨u,_,⟨c5,r,rfl,z⟩,rfl,h.rows,h.cap,λb a=>h.same b (.inl a)⟩;simp at H;rcases H with rfl|rfl
  .exact sP h.val
  .exact .jP _ _
theorem Ln{p q:Nat->List aZ}(h:∀T,(p T).length<=(q T).length):∀k,(first p k).length<=(first q k).length
 |0=>by simp[first]
 |k+1=>by rw[w7,w7,vbg,vbg];have:=Ln h k;have:=h k;omega
def Lj(p:Nat->List aZ){j k:Nat}(h:j<=k):(first p j).length<=(first p k).length:=by induction h with|refl=>exact vac _|step _ a=>rw[w7,vbg];omega
def ath{t:List aG}{v:Value}(B:io (cY prog) M (iR M) w)(j:∀g,g<=prog.globals.size->M g)(hv:nX w v t)(hrel:ar (bQ M) v v)(h0:0<t.length)(e:t.length<=1000000){ak S W:Nat}(d:0<ak)(q:ak<=64)(n:0<W)(r:W<=16)(hS:S<=300)(hJ:t[0].dk.length=S)(cX:∀i,i<S->∀c∈t,v_ i c):
 gi O prog Post 37 #[.agg #[.I (W:Int),.I (ak:Int)],.iface 112 (.agg #[v])] M w 1 (atg M w (hY t 0 S)):=by
 have m:io (ej prog false) M de w:=Ul B;have C:(λb=>M b\/de b)=M:=by
  funext b
  exact propext ⟨λh=>h.resolve_right λx=>x,.inl⟩
 refine(Ls (kT:=206) (mQ:=λc T u M' w=>pK (ej prog false) M c.K (wz t (T*ak) (min (T*ak+ak) S)) u M' w) (p:=λT=>hY t (T*ak) (min (T*ak+ak) S)) (λT _=>by simp only[uO];omega) d q n r hS Y (ap8 v) j m (λST bs D=>?_) (λc cb Stop hK a7 tj z s=>?_)).mono ?_
 .grind[ap5,sP]
 .refine amr (v:=v) (t:=t) (dE:=M) hK j (by grind[uN]) (ax.aX.carry xY (tJ s m) (sP hrel) hv) (by grind[sP]) (λargs w=>ap7 v args w) e (λT a=>?_) (λT a=>by grind[uO]) z;have:=(J7 (S:=S) d).2 T (a7▸a);grind
 .rintro u E w1 ⟨v1,rs,⟨c5,o,rfl,A⟩,rfl,l,k,y⟩;have f:=atd λi=>(([((i:Nat):Int)],t.map (hR · i)):aZ);have a7:first (λT=>hY t (T*ak) (min (T*ak+ak) S)) ((S+ak-1) / ak)=hY t 0 S:=by have:=Uo (g:=hY t) f (ak:=ak) (S:=S) ((S+ak-1) / ak);rw[this,vcc (J7 (S:=S) d).1]
  have a:c5=(S+ak-1) / ak:=by refine A.resolve_right λh=>?_;have:=Lj (λT=>hY t (T*ak) (min (T*ak+ak) S)) o;rw[a7,uO]at this;omega
  subst a;rw[a7]at l k;exact⟨v1,Y,l,k,y⟩
def Up(full rs:List aZ):Prop:=rs=full/\full.length<=300\/300<rs.length/\300<full.length
def atj{aD:uaa}{F:c2->List aZ}{rs:List aZ}(ok:JD aD F rs){d a:Value}{m:Nat}(P:io (cY prog) M (iR M) w)(j:∀g,g<=prog.globals.size->M g)(hv:dP w d (aD.map Int.ofNat))(hc:fG w a rs)(hd:nn rs.length a)(q:lO w m F)(t:ar (bQ M) d d)(r:ar (bQ M) a a)(s:ar (bQ M) (.map (some m)) (.map (some m))){ak W:Nat}(l:0<ak)(C:ak<=64)(v:0<W)(E:W<=16)(hS:rs.length<=300):
 gi O prog Post 37 #[.agg #[.I (W:Int),.I (ak:Int)],.iface 108 (.agg #[d,a,.map (some m)])] M w 1 (Lt M w (Up (eN aD F rs 0 rs.length))):=by
 have f:io (ej prog false) M de w:=Ul P;have U:(λb=>M b\/de b)=M:=by
  funext b
  exact propext ⟨λh=>h.resolve_right λx=>x,.inl⟩
 obtain⟨R,ec,X,-⟩:=id hv;refine(Ls (p:=λT=>rH aD F rs (T*ak) (min (T*ak+ak) rs.length)) (kT:=196) (mQ:=λc T u M' w=>pK (ej prog false) M c.K (ym aD F rs (T*ak) (min (T*ak+ak) rs.length)) u M' w) (λT _=>by simp only[JE];omega) l C v E hS rfl (ap_ d a (.map (some m))) j f (λST bs y=>ap6 (bs:=bs) AA j f AA hc (sP t) (sP r) (sP s) y) (λc cb Stop hK a7 tj L o=>?_)).mono ?_
 .obtain⟨V,e,z⟩:=q.carry (tJ o f) (sP s);cases e;refine apV (dE:=M) hK j (by grind[uN]) ok (ax.aX.carry wx (tJ o f) (sP t) hv) (ax.aX.carry qo (tJ o f) (sP r) hc) hd z (by grind[sP]) (by grind[sP]) (by grind[sP]) (λargs w=>ap9 d a (.map (some m)) args w) (λT H=>?_) AA L;have:=(J7 (S:=rs.length) l).2 T (a7▸H);omega
 .rintro u Y w1 ⟨v1,Z,⟨c5,A,rfl,N⟩,rfl,K,J,I⟩;refine⟨v1,_,?_,rfl,K,J,I⟩;have i:first (λT=>eN aD F rs (T*ak) (min (T*ak+ak) rs.length-T*ak)) ((rs.length+ak-1) / ak)=eN aD F rs 0 rs.length:=by have:=Uo (ate aD F rs) (ak:=ak) (S:=rs.length) ((rs.length+ak-1) / ak);simpa[vcc (J7 (S:=rs.length) l).1]using this
  have D:(first (λT=>rH aD F rs (T*ak) (min (T*ak+ak) rs.length)) c5).length<=(eN aD F rs 0 rs.length).length:=by rw[<-i];refine vad (Ln (λT=>?_) c5) (Lj _ A);simp only[JE];omega
  have n:∀k,(first (λT=>rH aD F rs (T*ak) (min (T*ak+ak) rs.length)) k).length<=300->first (λT=>rH aD F rs (T*ak) (min (T*ak+ak) rs.length)) k=first (λT=>eN aD F rs (T*ak) (min (T*ak+ak) rs.length-T*ak)) k:=by
   intro k;induction k with
   |zero=>intro;rfl
   |succ k B=>
    intro h;rw[w7,vbg]at h;rw[w7,w7,B AP];congr 1
    have Q:=JE aD F rs (k*ak) (min (k*ak+ak) rs.length);unfold rH at h Q⊢;exact vbv AP
  by_cases hs:(first (λT=>rH aD F rs (T*ak) (min (T*ak+ak) rs.length)) c5).length<=300
  .obtain rfl:=N.resolve_right AP;have e:=(n _ hs).trans i;rw[e]at hs⊢;exact .inl ⟨rfl,hs⟩
  .exact .inr ⟨AP,AP⟩
end
end
end a3
namespace a3
open Conc ConcM RowKit ax bp cI dm bS cq eC
structure Rd(ao:Type) where
 R:aS->(Nat->Option Value)->ao->Prop
 mono:pm R
 ic:ww R
def lS:Rd Int:=⟨qb,j6,wx⟩
def Lh:Rd ByteArray:=⟨Bo,QL,ME⟩
def Ld:Rd Bool:=⟨zC,QK,MD⟩
def nK:Rd aG:=⟨vS,tg,xY⟩
section
variable{ao:Type}(c6:Nat)(r:Rd ao)(xs:List ao)(x:ao)
def dO:bb:=⟨λw v=>aX w c6 r.R v xs,λ_ _ _ hb h=>h.mono r.mono (bo.bX hb),λ_=>True,λ_ _ _ _ _ _ _ hc hv h=>ax.aX.carry r.ic hc.cells hv h⟩
def GB:Rd (List ao):=⟨λw rd xs=>∃v,rd 0=some v/\aX w c6 r.R v xs,λ_ _ _ _ _ hk hr⟨v,h0,h⟩=>⟨v,hr _ _ h0,h.mono r.mono hk⟩,λρ w w' rd jV x hc hr⟨v,h0,h⟩=>by
 obtain⟨v',h1,h2⟩:=hr 0 v h0
 exact⟨v',h1,ax.aX.carry r.ic hc h2 h⟩⟩
def atu(w:aS)(v:Value):Prop:=∃b o,v=.P b o/\r.R w (λj=>w.cell? (.a b (o+j))) x
def eR:bb:=⟨atu r x,λw w' v hb⟨b,o,e,h⟩=>⟨b,o,e,r.mono _ _ _ _ _ (bo.bX hb) (λj v hv=>bo.bX hb _ _ _ hv) h⟩,λ_=>True,λn _ ρ w w' v v' hc hv⟨b,o,e,h⟩=>by
 subst e
 obtain⟨b',rfl,q⟩:=F1 hv
 exact⟨b',o,Y,r.ic ρ w w' _ _ x hc.cells (λj v hv=>hc.cells.cell ⟨b,o+j,none⟩ ⟨b',o+j,none⟩ v ⟨q,Y,Y⟩ hv) h⟩⟩
end
def sQ(v:Value)(F:bb):bb:=⟨λw u=>u=v/\F.R w u,λ_ _ _ hb h=>⟨h.1,F.fZ _ _ _ hb h.2⟩,λ_=>False,λ_ h=>h.elim⟩
def Us(B:Nat)(cs:dp)(T:g4):bb:=⟨λw u=>∃b,u=.P b 0/\B<=b/\ai w b cs T,λ_ _ _ hb⟨b,h1,h2,h3⟩=>⟨b,h1,h2,h3.call hb⟩,λ_=>False,λ_ h=>h.elim⟩
def rM(B:Nat)(F:bb):bb:=⟨λw u=>B<=w.heap.size/\F.R w u,λ_ _ _ hb h=>⟨vad h.1 hb.size,F.fZ _ _ _ hb h.2⟩,λ_=>False,λ_ h=>h.elim⟩
variable{a':Act}{w':aS}
theorem af.of{N:Nat}{l:List (Nat×bb)}(a7:a'.tmps.size=N)(b:∀p∈l,∃v,a'.tmps[p.1]?=some v/\p.2.R w' v):af N (a2 l) a' w':=by
 refine⟨a7,λs F e=>?_⟩;have key:∀l:List (Nat×bb),a2 l s=some F->(s,F)∈l:=by intro l;induction l with|nil=>intro e;cases e|cons p l a=>grind[a2]
 grind
variable{a:Act}{w:aS}
def af.get{N:Nat}{K:bL}{s:Nat}{F G:bb}(h:af N K a w)(hs:K s=some F)(b:a'.tmps[s]?=a.tmps[s]?)(d:∀v,F.R w v->G.R w' v):∃v,a'.tmps[s]?=some v/\G.R w' v:=by obtain⟨v,c,e⟩:=h.has s F hs;grind
def af.zx{N:Nat}{K:bL}(h:af N K a w){l:List (Nat×bb)}(a7:a'.tmps.size=N)(b:∀p∈l,a'.tmps[p.1]?=a.tmps[p.1]?/\∃F,K p.1=some F/\∀v,F.R w v->p.2.R w' v):af N (a2 l) a' w':=
 af.of a7 λp f=>by obtain⟨e,F,d,c⟩:=b p f;exact h.get d e c
def atv:bb:=⟨λ_ _=>True,λ_ _ _ _ h=>h,λ_=>True,λ_ _ _ _ _ _ _ _ _ h=>h⟩
inductive AB:Value->Prop
 |int (k:IntKind) (n:Int):AB (.int k n)
 |bool (b:Bool):AB (.bool b)
 |string (s:ByteArray):AB (.string s)
 |nil (l c:Nat):AB (.slice none l c)
variable{ρ:Ren}
def AB.same{x y:Value}(h:AB x)(hv:ar ρ x y):y=x:=by cases h with|int=>exact hO hv|bool=>exact S3 hv|string=>cases hv;rfl|nil=>exact om hv
theorem z9:∀{l a:uad},(∀x∈l,AB x)->cE (ar ρ) l a->a=l
 | [],_,_,.nil=>rfl
 |x::l,_,h,.cons c b=>by rw[(h x Ad).same c,z9 (λy d=>h y AA) b]
def Ut(l:uad)(h:∀x∈l,AB x):bb:=⟨eB (.agg l.toArray),rC.eq _,λ_=>True,λn _ ρ w w' v v' hc hv e=>by
 cases e
 obtain⟨l',rfl,k⟩:=sK hv
 rw[z9 h k]
 rfl⟩
variable{v:Value}
section
variable{P:b4}{N:Nat}{K:bL}{o:Oper}{F:bb}{x y z:uar}
def eb{nG:bb}(b:bh K x nG)(h:∀(ev:uak) w,nG.R w (ev x)->∃v w1,(execOp ev o).run P w=.ok (.value v) w1/\F.R w1 v/\cJ w w1):bF P N K o F:=λa w hk=>.inl (h a.eval w (hk.ev b))
def y9{nG b:bb}(d:bh K x nG)(c:bh K y b)(h:∀(ev:uak) w,nG.R w (ev x)->b.R w (ev y)->∃v w1,(execOp ev o).run P w=.ok (.value v) w1/\F.R w1 v/\cJ w w1):bF P N K o F:=λa w hk=>.inl (h a.eval w (hk.ev d) (hk.ev c))
def bf(b:o.op=.move x)(a:bh K x F):bF P N K o F:=eb a λev w h=>⟨_,w,by simp[execOp,b],h,vaa _ _⟩
def GC(b:o.op=.move x)(a:bh K x (sQ v F)):bF P N K o F:=eb a λev w h=>⟨_,w,by simp[execOp,b],h.2,vaa _ _⟩
def df(b:o.op=.assign x)(a:bh K x F):bF P N K o F:=eb a λev w h=>⟨_,w,by simp[execOp,b],h,vaa _ _⟩
def ki{c:Bool}(d:o.op=.pick x y z)(b:bh K x (dV c))(a:bh K (if c then y else z) F):bF P N K o F:=y9 b a λev w e h=>⟨if c then ev y else ev z,w,by
 have e:ev x=.bool c:=e;simp[execOp,d,e,go_sem],by grind,vaa _ _⟩
def AC{c:Bool}{T:g4}(b:o.op=.unOp .not T x)(a:bh K x (dV c)):bF P N K o (dV !c):=eb a λev w e=>⟨.bool !c,w,by
 have e:ev x=.bool c:=e;simp[execOp,b,e,go_sem],Y,vaa _ _⟩
end
variable{c:aG}{m n:Int}{f:uaj}
section
variable{N:Nat}{K:bL}{o:Oper}{F:bb}{x y z:uar}{ao:Type}{T T':g4}
def y_(b:bh K x (a5 m))(a:bh K y (a5 n))(hF:∀w,F.R w v)(h:∀(ev:uak) w,ev x=.I m->ev y=.I n->(execOp ev o).run (ae prog true) w=.ok (.value v) w):bF (ae prog true) N K o F:=y9 b a λev w d c=>⟨v,w,h ev w d c,hF w,vaa _ _⟩
abbrev rN(T:g4):Prop:=T=3\/T=2
def nL(b:o.op=.binOp .add T x y T')(d:bh K x (a5 m))(c:bh K y (a5 n))(a:cT (m+n))(e:rN T):bF (ae prog true) N K o (a5 (m+n)):=y_ d c (λ_=>Y) λev w g f=>by unfold cT at a;cases o;simp only at b;subst b;rcases e with rfl|rfl<;>(go_simp;exact IntWalk.i64_in _ a)
def z8(b:o.op=.binOp .sub T x y T')(d:bh K x (a5 m))(c:bh K y (a5 n))(a:cT (m-n))(e:rN T):bF (ae prog true) N K o (a5 (m-n)):=y_ d c (λ_=>Y) λev w g f=>by unfold cT at a;cases o;simp only at b;subst b;rcases e with rfl|rfl<;>(go_simp;exact IntWalk.i64_in _ a)
def N_(a:o.op=.binOp .lss T x y T')(c:bh K x (a5 m))(b:bh K y (a5 n))(d:rN T):bF (ae prog true) N K o (dV (decide (m<n))):=y_ c b (λ_=>Y) λev w f e=>by cases o;simp only at a;subst a;rcases d with rfl|rfl<;>go_simp
def Oa(a:o.op=.binOp .gtr T x y T')(c:bh K x (a5 m))(b:bh K y (a5 n))(d:rN T):bF (ae prog true) N K o (dV (decide (n<m))):=y_ c b (λ_=>Y) λev w f e=>by cases o;simp only at a;subst a;rcases d with rfl|rfl<;>go_simp
def w9(a:o.op=.binOp .eql T x y T')(c:bh K x (a5 m))(b:bh K y (a5 n))(d:rN T):bF (ae prog true) N K o (dV (m==n)):=y_ c b (λ_=>Y) λev w f e=>by cases o;simp only at a;subst a;rcases d with rfl|rfl<;>go_simp
def atw{m:ByteArray}(a:o.op=.binOp .neq 9 x y T')(e:bh K x (Nk m))(d:bh K y (Nk m)):bF (ae prog true) N K o (dV false):=y9 e d λev w c b=>⟨.F,w,by
 have c:ev x=.string m:=c;have b:ev y=.string m:=b;cases o;simp only at a;subst a;go_simp,Y,vaa _ _⟩
def z7{m:Bool}(a:o.op=.binOp .neq 4 x y T')(e:bh K x (dV m))(d:bh K y (dV m)):bF (ae prog true) N K o (dV false):=y9 e d λev w c b=>⟨.F,w,by
 have c:ev x=.bool m:=c;have b:ev y=.bool m:=b;cases o;simp only at a;subst a;go_simp,Y,vaa _ _⟩
def hP{k:Nat}{r:Rd ao}{y:ao}(a:o.op=.fieldAddr 53 x k)(d:bh K x (eR nK c))(hk:k<5)(g:∀w rd,vS w rd c->r.R w (λj=>rd (k+j)) y):bF (ae prog true) N K o (eR r y):=eb d λev w h=>by
 obtain⟨b,f,e,h⟩:=h;refine⟨.P b (f+k),w,?_,⟨b,f+k,Y,?_⟩,vaa _ _⟩
 .cases o;simp only at a;subst a;have:k=0\/k=1\/k=2\/k=3\/k=4:=AP;rcases this with rfl|rfl|rfl|rfl|rfl<;>go_simp
 .have:=g w (λj=>w.cell? (.a b (f+j))) h;grind
def Uu(w:aS)(rd:ual)(h:vS w rd c):lS.R w (λj=>rd (0+j)) c.kind:=by obtain⟨bj,vs,f,h0,e,d,b,a,g⟩:=h;exact h0
def Uv(w:aS)(rd:ual)(h:vS w rd c):lS.R w (λj=>rd (1+j)) c.bV:=by obtain⟨bj,vs,f,h0,a,e,d,b,g⟩:=h;exact a
def za(w:aS)(rd:ual)(h:vS w rd c):(GB 1 lS).R w (λj=>rd (2+j)) c.fU:=by obtain⟨bj,vs,g,h0,f,a,e,d,b⟩:=h;exact⟨bj,a,b.fU⟩
def DY(w:aS)(rd:ual)(h:vS w rd c):(GB 1 Lh).R w (λj=>rd (3+j)) c.eF:=by obtain⟨bj,vs,g,h0,f,e,a,d,b⟩:=h;exact⟨vs,a,b.eF⟩
def rO(w:aS)(rd:ual)(h:vS w rd c):(GB 1 Ld).R w (λj=>rd (4+j)) c.dk:=by obtain⟨bj,vs,b,h0,g,f,e,a,d⟩:=h;exact⟨b,a,d.dk⟩
def ck{r:Rd ao}{y:ao}(a:o.op=.load T x)(c:bh K x (eR r y))(d:∀w rd,r.R w rd y->∃v,rd 0=some v/\F.R w v)(g:T=3\/T=2\/T=9\/T=4\/T=49\/T=50\/T=51\/T=25\/T=101\/T=30\/T=66):bF (ae prog true) N K o F:=eb c λev w h=>by obtain⟨b,f,e,h⟩:=h;obtain⟨v,j,i⟩:=d w _ h;refine⟨v,w,?_,i,vaa _ _⟩;simp only[vbz]at j;cases o;simp only at a;subst a;rcases g with rfl|rfl|rfl|rfl|rfl|rfl|rfl|rfl|rfl|rfl|rfl<;>go_simp
def lr(n:Int)(w:aS)(rd:ual)(h:lS.R w rd n):∃v,rd 0=some v/\(a5 n).R w v:=⟨_,h,Y⟩
def Uw(n:ByteArray)(w:aS)(rd:ual)(h:Lh.R w rd n):∃v,rd 0=some v/\(Nk n).R w v:=⟨_,h.1,Y⟩
def w_(n:Bool)(w:aS)(rd:ual)(h:Ld.R w rd n):∃v,rd 0=some v/\(dV n).R w v:=⟨_,h,Y⟩
def eX{c6:Nat}{r:Rd ao}(xs:List ao)(w:aS)(rd:ual)(h:(GB c6 r).R w rd xs):∃v,rd 0=some v/\(dO c6 r xs).R w v:=h
abbrev Ob(T:g4)(c6:Nat):Prop:=(c6=1/\(T=49\/T=50\/T=51\/T=31\/T=30\/T=86\/T=29))\/(c6=7/\T=36)\/(c6=5/\T=25)\/(c6=4/\T=101)
def zX{c6:Nat}{r:Rd ao}{xs:List ao}{i:Nat}{e:ao}(a:o.op=.indexAddr T x y)(d:xs[i]?=some e)(g:Ob T c6)(ev:uak)(w:aS)(h:aX w c6 r.R (ev x) xs)(m:ev y=.I i):∃v w1,(execOp ev o).run (ae prog true) w=.ok (.value v) w1/\(eR r e).R w1 v/\cJ w w1:=by obtain⟨hi,rfl⟩:=vab.1 d;obtain⟨p,cap,n,l,j⟩:=h;obtain⟨b,f,rfl,c⟩:=j i hi;have k:(i:Int)<(xs.length:Int):=AP;refine⟨.P b (f+i*c6),w,?_,⟨b,f+i*c6,Y,c⟩,vaa _ _⟩;cases o;simp only at a;subst a;rcases g with⟨rfl,rfl|rfl|rfl|rfl|rfl|rfl|rfl⟩|⟨rfl,rfl⟩|⟨rfl,rfl⟩|⟨rfl,rfl⟩<;>go_simp
def ee{c6:Nat}{r:Rd ao}{xs:List ao}{i:Nat}{e:ao}(c:o.op=.indexAddr T x y)(b:bh K x (dO c6 r xs))(a:bh K y (a5 i))(d:xs[i]?=some e)(f:Ob T c6):bF (ae prog true) N K o (eR r e):=y9 b a (zX c d f)
def atx{c6:Nat}{r:Rd ao}{xs:List ao}{i:Nat}{e:ao}(c:o.op=.indexAddr T x y)(b:bh K x (sQ v (dO c6 r xs)))(a:bh K y (a5 i))(d:xs[i]?=some e)(f:Ob T c6):bF (ae prog true) N K o (eR r e):=y9 b a λev w h=>zX c d f ev w h.2
def mD{c6:Nat}{r:Rd ao}{xs:List ao}(a:o.op=.call {callee:=.builtin .len,args:=#[x],argTypes:=#[T]})(b:bh K x (dO c6 r xs))(c:Ob T c6):bF (ae prog true) N K o (a5 xs.length):=eb b λev w h=>by obtain⟨g,cap,e,d,f⟩:=h;refine⟨.I xs.length,w,?_,Y,vaa _ _⟩;cases o;simp only at a;subst a;rcases c with⟨rfl,rfl|rfl|rfl|rfl|rfl|rfl|rfl⟩|⟨rfl,rfl⟩|⟨rfl,rfl⟩|⟨rfl,rfl⟩<;>go_simp
def AD(a:o.op=.binOp .neq T x y T')(c:bh K x (a5 m))(b:bh K y (a5 m))(d:rN T):bF (ae prog true) N K o (dV false):=y_ c b (λ_=>Y) λev w f e=>by cases o;simp only at a;subst a;rcases d with rfl|rfl<;>go_simp
def zW(c:o.op=.binOp .gtr T x y T')(b:bh K x (a5 m))(a:bh K y (a5 n))(d:rN T)(h:n<m):bF (ae prog true) N K o (dV true):=by have:=Oa (N:=N) c b a d;grind
def zM(c:o.op=.binOp .gtr T x y T')(b:bh K x (a5 m))(a:bh K y (a5 n))(d:rN T)(h:¬n<m):bF (ae prog true) N K o (dV false):=by have:=Oa (N:=N) c b a d;grind
def zb(c:o.op=.binOp .lss T x y T')(b:bh K x (a5 m))(a:bh K y (a5 n))(d:rN T)(h:m<n):bF (ae prog true) N K o (dV true):=by have:=N_ (N:=N) c b a d;grind
def vE(c:o.op=.binOp .lss T x y T')(b:bh K x (a5 m))(a:bh K y (a5 n))(d:rN T)(h:¬m<n):bF (ae prog true) N K o (dV false):=by have:=N_ (N:=N) c b a d;grind
def Oc{P:b4}{args:uaw}{ats:uaq}(d:o.op=.call {callee:=.value (.func f),args,argTypes:=ats})(c:∀vs w,Sem.run P (callFunc f vs) w=.ok (.enter f vs) w)(h:∀a w,af N K a w->Calls P f (args.map a.eval) w λe w'=>∃v,e=.returned v/\F.R w' v/\cJ w w'):bF P N K o F:=λa w hk=>.inr ⟨f,args.map a.eval,by
 have:=c (args.map a.eval) w;generalize b:a.eval=ev at *;have e:ev (.func f)=.func (.func f) #[] #[]:=by rw[<-b];rfl
 grind[execOp,resolve,Deferred.ofValue,invoke],h a w hk⟩
def J_{P:b4}{ats:uaq}{nG:bb}(c:o.op=.call {callee:=.value (.func f),args:=#[x],argTypes:=ats})(d:∀vs w,Sem.run P (callFunc f vs) w=.ok (.enter f vs) w)(b:bh K x nG)(h:∀v w,nG.R w v->Calls P f #[v] w λe w'=>∃r,e=.returned r/\F.R w' r/\cJ w w'):bF P N K o F:=
 Oc c d λa w hk=>by have:=h _ w (hk.ev b);grind
def Ka{P:b4}{ats:uaq}{nG b:bb}(g:o.op=.call {callee:=.value (.func f),args:=#[x,y],argTypes:=ats})(i:∀vs w,Sem.run P (callFunc f vs) w=.ok (.enter f vs) w)(d:bh K x nG)(c:bh K y b)(h:∀v v' w,nG.R w v->b.R w v'->Calls P f #[v,v'] w λe w'=>∃r,e=.returned r/\F.R w' r/\cJ w w'):bF P N K o F:=
 Oc g i λa w hk=>by have:=h _ _ w (hk.ev d) (hk.ev c);grind
def Ux{o2:Oper}{P:b4}{ops:eY}{i d s:Nat}{Q:uai}{rest:uaa}{w1 GD:aS}{c:Value}(l:ops[i]?=some o)(j:ops[i+1]?=some o2)(g1:o.guard=none)(m:o2.guard=none)(hd:o.dst=some d)(f:o2.dst=none)(a7:d<N)(n:d≠s)(hk:af N K a w)(g:a.tmps[s]?=some c)(e:∀ev:Operand->Value,(execOp ev o).run P w=.ok (.value (.P w.heap.size 0)) GD)(p:∀ev:Operand->Value,ev (.tmp d)=.P w.heap.size 0->ev (.tmp s)=c->(execOp ev o2).run P GD=.ok .skip w1)(h:cJ w w1)(hF:F.R w1 (.P w.heap.size 0))(k:∀a',af N (up K d F) a' w1->a'.defers=a.defers->wpOps P ops Q rest a' w1):wpOps P ops Q (i::(i+1)::rest) a w:=by
 refine kh (R:=λa1 w1=>a1=a.put (some d) (.P w.heap.size 0)/\w1=GD) (rD l g1 hd (e _) ⟨Y,Y⟩) ?_;rintro a1 b ⟨rfl,rfl⟩;refine kh (R:=λa1 b=>a1=a.put (some d) (.P w.heap.size 0)/\b=w1) (tV j m f (p _ (d_ (mY (by rw[hk.size];exact a7))) (d_ ((fY n).trans g))) ⟨Y,Y⟩) ?_;rintro a1 q ⟨rfl,rfl⟩;exact k _ (hk.put a7 h hF) (put_defers _ _ _)
end
def GF{P:b4}{N id m:Nat}{ops:eY}{ks ks':il}{Q:uag}{K K':bL}(hk:af N K a w)(h:vc P N ops (ops.toList.take m) K K')(c:m<=ops.size)(k:∀a' w',af N K' a' w'->a'.defers=a.defers->cJ w w'->wpOps P ops (jZ (bI P (.inRegion ops []::ks) ks' Q)) (List.range' m (ops.size-m)) a' w'):bI P (.code (.region id ops false)::ks) ks' Q a w:=by
 refine Z_ (n:=ops.size) Y ?_;have b:(ops.toList.take m).length=m:=AA;rw[show List.range' 0 ops.size=List.range' 0 (ops.toList.take m).length++List.range' m (ops.size-m) by
  rw[b];have:=List.range'_append_1 (s:=0) (m:=m) (n:=ops.size-m);grind]
 exact Nn h (λj o d=>by
  grind) hk k
def Uy{n N:Nat}{l:uad}{fs:List (Nat×bb)}(hn:l.length<=n)(a7:n=N)(h:∀p∈fs,∃v,l[p.1]?=some v/\p.2.R w v):af N (a2 fs) ⟨l.toArray++Array.replicate (n-l.toArray.size) undef,[]⟩ w:=by
 subst a7;refine⟨AA,λs F e=>?_⟩;have key:∀fs:List (Nat×bb),a2 fs s=some F->(s,F)∈fs:=by intro fs;induction fs with|nil=>intro e;cases e|cons p fs a=>grind[a2]
 grind
variable{v':Value}
def MG{n:Nat}(h:nn n v)(hv:ar ρ v v'):nn n v':=by obtain⟨a,c,rfl,hc⟩:=h;obtain⟨b,rfl⟩:=Nj hv;exact⟨_,_,Y,hc⟩
def k5(rs:List aZ):bb:=⟨λw v=>fG w v rs/\nn rs.length v,λ_ _ _ hb h=>⟨aX.mono qp (bo.bX hb) h.1,h.2⟩,λ_=>True,λ_ _ _ _ _ _ _ hc hv h=>⟨ax.aX.carry qo hc.cells hv h.1,MG h.2 hv⟩⟩
def qI:Rd (List aZ):=⟨λw rd rs=>∃v,rd 0=some v/\(fG w v rs/\nn rs.length v),λ_ _ _ _ _ hk hr⟨v,h0,h⟩=>⟨v,hr _ _ h0,aX.mono qp hk h.1,h.2⟩,λρ w w' rd jV x hc hr⟨v,h0,h⟩=>by
 obtain⟨v',h1,h2⟩:=hr 0 v h0
 exact⟨v',h1,ax.aX.carry qo hc h2 h.1,MG h.2 h2⟩⟩
def Oe(t:List aG):bb:=⟨λw v=>∃c,v=.agg #[c]/\nX w c t,λ_ _ _ hb⟨c,e,h⟩=>⟨c,e,aX.mono tg (bo.bX hb) h⟩,λ_=>True,λ_ _ ρ w w' v v' hc hv⟨c,e,h⟩=>by
 subst e
 obtain⟨l',rfl,k⟩:=sK (l:=[c]) hv
 cases k with
 |cons k1 k=>cases k;exact⟨_,Y,ax.aX.carry xY hc.cells k1 h⟩⟩
def lT:Rd (List aG):=⟨λw rd t=>∃v,rd 0=some v/\nX w v t,λ_ _ _ _ _ hk hr⟨v,h0,h⟩=>⟨v,hr _ _ h0,aX.mono tg hk h⟩,λρ w w' rd jV x hc hr⟨v,h0,h⟩=>by
 obtain⟨v',h1,h2⟩:=hr 0 v h0
 exact⟨v',h1,ax.aX.carry xY hc h2 h⟩⟩
def mg(x y:Int):bb:=⟨eB (.agg #[.I x,.I y]),rC.eq _,λ_=>True,λ_ _=>aov x y⟩
def zd(v:Value):Prop:=∃a l c,v=.slice a l c
def zd.ic(h:zd v)(hv:ar ρ v v'):zd v':=by
 obtain⟨a,l,c,rfl⟩:=h;cases hv
 .exact⟨_,_,_,Y⟩
 .exact⟨_,_,_,Y⟩
abbrev sS:=Int×Int×Int×List Int×List Int
def Kd(hc:Carry ρ w w')(hv:ar ρ v v'){l:uay}(h:dP w v l):dP w' v' l:=ax.aX.carry wx hc hv h
def ou:Rd sS:=⟨λw rd n=>∃v x y z,(rd 0=some (.I n.1)/\rd 1=some (.I n.2.1)/\rd 2=some (.I n.2.2.1)/\rd 3=some v/\rd 4=some x/\rd 5=some y/\rd 6=some z)/\(zd v/\zd z)/\dP w x n.2.2.2.1/\dP w y n.2.2.2.2,λ_ _ _ _ _ hk hr⟨v,x,y,z,⟨h0,h1,h2,h3,h4,aL,bx⟩,h',h⟩=>⟨v,x,y,z,⟨hr _ _ h0,hr _ _ h1,hr _ _ h2,hr _ _ h3,hr _ _ h4,hr _ _ aL,hr _ _ bx⟩,h',aX.mono j6 hk h.1,aX.mono j6 hk h.2⟩,λρ w w' rd jV n hc hr⟨v,x,y,z,⟨h0,h1,h2,h3,h4,aL,bx⟩,h',h⟩=>by
 obtain⟨v0,eE,q0⟩:=hr 0 _ h0
 obtain⟨v1,k1,br⟩:=hr 1 _ h1
 obtain⟨v2,k2,bn⟩:=hr 2 _ h2
 obtain⟨v3,k3,q3⟩:=hr 3 _ h3
 obtain⟨v4,k4,q4⟩:=hr 4 _ h4
 obtain⟨v5,dG,q5⟩:=hr 5 _ aL
 obtain⟨v6,ie,q6⟩:=hr 6 _ bx
 rw[hO q0]at eE
 rw[hO br]at k1
 rw[hO bn]at k2
 exact⟨v3,v4,v5,v6,⟨eE,k1,k2,k3,k4,dG,ie⟩,⟨h'.1.ic q3,h'.2.ic q6⟩,Kd hc q4 h.1,Kd hc q5 h.2⟩⟩
def atE(n:sS)(w:aS)(u:Value):Prop:=∃v x y z,u=.agg [.I n.1,.I n.2.1,.I n.2.2.1,v,x,y,z].toArray/\(zd v/\zd z)/\dP w x n.2.2.2.1/\dP w y n.2.2.2.2
def qJ(n:sS):bb:=⟨atE n,λ_ _ _ hb⟨v,x,y,z,e,h',h⟩=>⟨v,x,y,z,e,h',aX.mono j6 (bo.bX hb) h.1,aX.mono j6 (bo.bX hb) h.2⟩,λ_=>True,λ_ _ ρ w w' u jC hc hv⟨v,x,y,z,e,h',h⟩=>by
 subst e
 obtain⟨l',rfl,k⟩:=sK hv
 cases k with
 |cons k1 k=>cases k with
  |cons k2 k=>cases k with
   |cons k3 k=>cases k with
    |cons k4 k=>cases k with
     |cons dG k=>cases k with
      |cons ie k=>cases k with
       |cons mh k=>
        cases k
        rw[hO k1,hO k2,hO k3]
        exact⟨_,_,_,_,Y,⟨h'.1.ic k4,h'.2.ic mh⟩,Kd hc.cells dG h.1,Kd hc.cells ie h.2⟩⟩
def pX(rs:List aZ):bb:=⟨λw u=>∃v,u=.tuple [v,.N].toArray/\(k5 rs).R w v,λ_ _ _ hb⟨v,e,h⟩=>⟨v,e,(k5 rs).fZ _ _ _ hb h⟩,λ_=>True,λ_ _ ρ w w' u jC hc hv⟨v,e,h⟩=>by
 subst e
 obtain⟨l',rfl,k⟩:=F0 hv
 cases k with
 |cons k1 k=>cases k with
  |cons k2 k=>
   cases k
   rw[om k2]
   exact⟨_,Y,(k5 rs).ic 0 trivial _ _ _ _ _ ⟨hc.cells,hc.types,λ_ _ _ _=>vav _,hc.inj⟩ k1 h⟩⟩
def xb:Rd (Int×Int):=⟨λ_ rd x=>rd 0=some (.I x.1)/\rd 1=some (.I x.2),λ_ _ _ _ _ _ hr⟨h1,h2⟩=>⟨hr _ _ h1,hr _ _ h2⟩,λρ w w' rd jV x hc hr⟨h1,h2⟩=>by
 obtain⟨v1,k1,br⟩:=hr 0 _ h1
 obtain⟨v2,k2,bn⟩:=hr 1 _ h2
 rw[hO br]at k1
 rw[hO bn]at k2
 exact⟨k1,k2⟩⟩
def UF(T:g4)(F:bb):bb:=⟨λw v=>∃u,v=.iface T u/\F.R w u,λ_ _ _ hb⟨u,e,h⟩=>⟨u,e,F.fZ _ _ _ hb h⟩,F.ok,λn ok ρ w w' v v' hc hv⟨u,e,h⟩=>by
 subst e
 cases hv
 rename_i k
 exact⟨_,Y,F.ic n ok _ _ _ _ _ hc k h⟩⟩
def MF(aD:uaa)(F:c2->List aZ)(rs:List aZ):bb:=⟨λw u=>∃a b m,u=.agg [a,b,.map (some m)].toArray/\dP w a (aD.map Int.ofNat)/\(k5 rs).R w b/\lO w m F,λ_ _ _ hb⟨a,b,m,e,h,h',h2⟩=>⟨a,b,m,e,aX.mono j6 (bo.bX hb) h,(k5 rs).fZ _ _ _ hb h',h2.below hb⟩,λ_=>True,λn _ ρ w w' u jC hc hv⟨a,b,m,e,h,h',h2⟩=>by
 subst e
 obtain⟨l',rfl,k⟩:=sK hv
 cases k with
 |cons k1 k=>cases k with
  |cons k2 k=>cases k with
   |cons k3 k=>
    cases k
    obtain⟨m',rfl,h3⟩:=h2.carry hc.cells k3
    exact⟨_,_,m',Y,Kd hc.cells k1 h,(k5 rs).ic n trivial _ _ _ _ _ hc k2 h',h3⟩⟩
section
variable{N:Nat}{K:bL}{o:Oper}{F:bb}{x y z:uar}{T T':g4}
def Mu{n:sS}(b:o.op=.box 34 x)(f:bh K x (qJ n)):bF (ae prog true) N K o (eR ou n):=eb f λev w h=>by obtain⟨v,p,q,r,e,c,h⟩:=h;obtain⟨⟨a1,l1,c1,rfl⟩,⟨k,l2,bH,rfl⟩⟩:=id c;obtain⟨j,dB,rfl,-⟩:=h.1.shape;obtain⟨l,i,rfl,-⟩:=h.2.shape;have a:cJ w (w.alloc (.cells #[.I n.1,.I n.2.1,.I n.2.2.1,.slice a1 l1 c1,.slice j n.2.2.2.1.length dB,.slice l n.2.2.2.2.length i,.slice k l2 bH] 34)):=(vaa _ w).alloc JT _;have d:=aX.mono j6 (bo.bX a) h.1;have g:=aX.mono j6 (bo.bX a) h.2;clear h;refine⟨.P w.heap.size 0,_,by cases o;simp only at b;subst b;go_simp,⟨w.heap.size,0,Y,_,_,_,_,⟨?_,?_,?_,?_,?_,?_,?_⟩,c,d,g⟩,a⟩<;>exact mj (vaz w _) Y Y
def UG(a:o.op=.box 62 x)(b:bh K x (mg m n)):bF (ae prog true) N K o (eR xb (m,n)):=eb b λev w h=>by have h:ev x=.agg #[.I m,.I n]:=h;have c:cJ w (w.alloc (.cells #[.I m,.I n] 62)):=(vaa _ w).alloc JT _;refine⟨.P w.heap.size 0,_,BB,⟨w.heap.size,0,Y,?_,?_⟩,c⟩<;>exact mj (vaz w _) Y Y
def Mn{n:sS}(a:o.op=.fieldAddr 34 x 0)(c:bh K x (eR ou n)):bF (ae prog true) N K o (eR lS n.1):=eb c λev w h=>by obtain⟨b,f,e,v,p,q,r,⟨h0,j,i,g,d,m,l⟩,k,h⟩:=h;exact⟨.P b f,w,BB,⟨b,f,Y,h0⟩,vaa _ _⟩
def Mm{n:sS}(a:o.op=.fieldAddr 34 x 1)(c:bh K x (eR ou n)):bF (ae prog true) N K o (eR lS n.2.1):=eb c λev w h=>by obtain⟨b,f,e,v,p,q,r,⟨h0,d,j,i,g,m,l⟩,k,h⟩:=h;exact⟨.P b (f+1),w,BB,⟨b,f+1,Y,d⟩,vaa _ _⟩
def atF{n:sS}(a:o.op=.fieldAddr 34 x 2)(c:bh K x (eR ou n)):bF (ae prog true) N K o (eR lS n.2.2.1):=eb c λev w h=>by obtain⟨b,f,e,v,p,q,r,⟨h0,j,d,i,g,m,l⟩,k,h⟩:=h;exact⟨.P b (f+2),w,BB,⟨b,f+2,Y,d⟩,vaa _ _⟩
def UH{n:sS}(a:o.op=.load 34 x)(d:bh K x (eR ou n)):bF (ae prog true) N K o (qJ n):=eb d λev w h=>by obtain⟨b,f,e,v,p,q,r,⟨h0,k,j,i,g,y,s⟩,c,h⟩:=h;simp only[vbz]at h0;refine⟨.agg #[.I n.1,.I n.2.1,.I n.2.2.1,v,p,q,r],w,?_,⟨v,p,q,r,Y,c,h⟩,vaa _ _⟩;obtain⟨⟨a1,l1,c1,rfl⟩,⟨t,l2,bH,rfl⟩⟩:=id c;obtain⟨m,dB,rfl,-⟩:=h.1.shape;obtain⟨u,l,rfl,-⟩:=h.2.shape;clear h;cases o;simp only at a;subst a;go_simp
def Ke(a:o.op=.load 62 x)(c:bh K x (eR xb (m,n))):bF (ae prog true) N K o (mg m n):=eb c λev w h=>by obtain⟨b,f,e,h0,d⟩:=h;simp only[vbz]at h0 d;exact⟨.agg #[.I m,.I n],w,BB,Y,vaa _ _⟩
def atG{t:List aG}(a:o.op=.load 27 x)(d:bh K x (eR lT t)):bF (ae prog true) N K o (Oe t):=eb d λev w h=>by obtain⟨b,f,e,v,h0,c⟩:=h;simp only[vbz]at h0;refine⟨.agg #[v],w,?_,⟨v,Y,c⟩,vaa _ _⟩;clear c;cases o;simp only at a;subst a;go_simp
def lF(a:o.op=.makeInterface T x)(b:bh K x F)(c:T=108\/T=112):bF (ae prog true) N K o (UF T F):=eb b λev w h=>by refine⟨.iface T (ev x),w,?_,⟨_,Y,h⟩,vaa _ _⟩;clear h;cases o;simp only at a;subst a;rcases c with rfl|rfl<;>go_simp
def UI{rs:List aZ}(a:o.op=.extract x 0)(b:bh K x (pX rs)):bF (ae prog true) N K o (k5 rs):=eb b λev w h=>by obtain⟨v,e,h⟩:=h;refine⟨v,w,?_,h,vaa _ _⟩;clear h;cases o;simp only at a;subst a;go_simp
def sT:bb:=⟨eB (.N),rC.eq _,λ_=>True,λ_ _ _ _ _ _ _ _ hv h=>by cases h;exact om hv⟩
def UJ{rs:List aZ}(a:o.op=.extract x 1)(b:bh K x (pX rs)):bF (ae prog true) N K o sT:=eb b λev w h=>by obtain⟨v,e,h⟩:=h;refine⟨.N,w,?_,Y,vaa _ _⟩;clear h;cases o;simp only at a;subst a;go_simp
def atH{n0 n1 ey:Int}{aD on:uaa}{rs pY:List aZ}{ats:uaq}(D:o.op=.call {callee:=.value (.func 38),args:=#[x,y,z],argTypes:=ats})(C:bh K x (qJ (n0,n1,ey,aD.map Int.ofNat,on.map Int.ofNat)))(B:bh K y (k5 rs))(A:bh K z (k5 pY))(I:pY.length<=1000)(H:∀r∈pY,∀k∈on,k<r.2.length)(F:on.length<=4):
 bF (ae prog true) N K o (MF aD (ma on pY) rs):=Oc D (λvs w=>ao6 vs w) λa w hk=>by
 obtain⟨g,b,f,j,J,⟨t,s⟩,h,q⟩:=hk.ev C;obtain⟨L,i⟩:=hk.ev B;obtain⟨p,M⟩:=hk.ev A;have e:(#[x,y,z].map a.eval)=#[.agg #[.I n0,.I n1,.I ey,g,b,f,j],a.eval y,a.eval z]:=by simp[J]
 rw[e];have hs:∀{v:Value}{n:Nat},nn n v->∃a l c,v=.slice a l c:=λ⟨a,c,e,_⟩=>⟨a,_,c,e⟩;have u:∃a l c,b=.slice a l c:=let⟨a,c,e,_⟩:=h;⟨a,_,c,e⟩
 refine(apb n0 n1 ey on pY g b f j (a.eval y) (a.eval z) w t u s (hs i) q p I H F).mono ?_;rintro e w' ⟨m,rfl,E,-,d⟩;exact⟨_,Y,⟨b,a.eval y,m,Y,aX.mono j6 (bo.bX d) h,(k5 rs).fZ _ _ _ d ⟨L,i⟩,E⟩,d⟩
def atI{t:List aG}(a:o.op=.build 112 #[(0,x)])(b:bh K x (Oe t)):bF (ae prog true) N K o (Oe t):=eb b λev w h=>by obtain⟨c,e,h⟩:=h;refine⟨.agg #[c],w,?_,⟨_,Y,h⟩,vaa _ _⟩;obtain⟨d,cap,rfl,-⟩:=h;cases o;simp only at a;subst a;go_simp
def UL(rs:List aZ)(w:aS)(rd:ual)(h:qI.R w rd rs):∃v,rd 0=some v/\(k5 rs).R w v:=h
end
end a3
namespace a3
open Conc ConcM RowKit ax bp cI dm bS
section
variable{O:gJ}
def dw(f:Func)(id:Nat):Array Oper:=bM.oo ((bM.dW id (f.body.getD .skip)).getD .skip)
def sU(f:Func)(id:Nat):Code:=bM.k0 ((bM.dW id (f.body.getD .skip)).getD .skip)
def pa(id:Nat):Code->Option (Array Oper)
 | .region i o _=>if i==id then some o else none
 | .seq x y=>match pa id x with|some c=>some c|none=>pa id y
 | .block _ c=>pa id c
 | .loop c=>pa id c
 | .cond _ x y=>match pa id x with|some c=>some c|none=>pa id y
 | _=>none
def av(f:Func)(id:Nat):Array Oper:=(pa id (f.body.getD .skip)).getD #[]
def GI{l:Option Oper}{o o':Oper}(h:l=some o)(e:l=some o':=by simp only[dw,Tryz.f6,Tryz.f3,Tryz.f4,Tryz.f17,Tryz.f9,Tryz.f20,Tryz.f27,vae,bM.dW,bM.oo,Nat.reduceBEq,vah,↓reduceIte];exact rfl):o'=o:=van (e.symm.trans h)
def fk(l:eY){l':eY}(e:l=l':=by simp only[av,pa,dw,Tryz.f6,Tryz.f3,Tryz.f4,Tryz.f17,Tryz.f9,Tryz.f20,Tryz.f27,vae,bM.dW,bM.oo,Nat.reduceBEq,vah,↓reduceIte];exact rfl):l=l':=e
def AF(f:Func):Code:=f.body.getD .skip
def vds{P:b4}{f:uaj}{fn:Func}{c:Code}(a:P.funcs[f]?=some fn)(b:fn.body=some c)(args:dp):Frame.enter P f args .normal=(base f).at ⟨args++Array.replicate (fn.ntmps-args.size) undef,[]⟩ [.code c]:=by grind[Frame.enter,Frame.at,base]
def GJ(ρ:Ren)(n:Nat):aJ ρ (Array.replicate n undef) (Array.replicate n undef):=⟨Y,λi v v' h a=>by
 rw[Array.getElem?_replicate]at h a;split at h<;>simp_all
 subst h;subst a;exact .undef ρ⟩
def zj(ρ:Ren)(a b:Int):aJ ρ #[.I a,.I b] #[.I a,.I b]:=og (l:=[.I a,.I b]) λx c=>by simp at c;rcases c with rfl|rfl<;>exact .int _ _
def xf:iK prog true f27=true:=by decide+kernel
def mixed:prog.follows .mixedOrders=true:=by decide+kernel
theorem qK{w:aS}{a:Addr}{v:Value}(h:w.cell? a=some v)(o:Obj):(w.alloc o).cell? a=some v:=by grind[xq,mj,Below.heap_alloc]
end
end a3
namespace a3
open Conc ConcM RowKit ax bp cI dm
variable{Post:uab}{fX:uaw}{ats:uaq}
section
variable{O:gJ}
def xd{P:b4}{M:dh}{w:aS}{f:uaj}{fn:Func}{body:Code}{args:dp}{N id:Nat}{dE ze c:bL}{ops:eY}{Fr:bb}(ks:il)(l:(cY P).Good)(V:P.follows .mixedOrders=true)(i:P.funcs[f]?=some fn)(y:iK P true fn=true)(m:fn.body=some body)(fB:aJ (bQ M) args args)(h0:af N dE ⟨args++Array.replicate (fn.ntmps-args.size) undef,[]⟩ w)(X:∀s F,dE s=some F->F.ok w.heap.size)(D:∀s F,ze s=some F->F.ok w.heap.size){l2:List (Nat×bb)}(t:Jv w.heap.size l2)(UN:Fr.ok w.heap.size)(hi:[Item.code body].all (gr P)=true)(j7:(Item.code (.region id ops true):: .code .ret::ks).all (gr P)=true)(x:(Item.inRegion ops []:: .code .ret::ks).all (gr P)=true)(Kf:∀a W,a.defers=[]->af N dE a W->bI (ae P true) [.code body] (.code (.region id ops true):: .code .ret::ks) (λa1 w1=>a1.defers=[]/\af N ze a1 w1/\cJ W w1) a W){S:m5}(gV:Kb ops S=true)(hK:pR ze ops.toList=true){g:Oper}{d:Nat}{gf:uaj}{p:Func}{hL:Code}(oZ:ops[S.g]?=some g)(h:g.op=.call {callee:=.value (.func gf),args:=fX,argTypes:=ats})(L:P.funcs[gf]?=some p)(lK:(p.name== "runtime.NumGoroutine")=false)(j:p.body=some hL)(dY:g.guard=none){iy:Tmp}(ix:g.dst=some iy){dF:bb}(hG:sR (ae P true) N w.heap.size ops S ze (λ_=>none) dF (λE=>∀a M w Shun,Home O P M Shun w->af N E a w->aJ (bQ M) a.tmps a.tmps->gi O P Post gf (fX.map a.eval) M w d (λu _ w'=>dF.R w' u/\cy M w w')) ops.toList 0 (λ_=>none) ze c)(hS:S.jy=[])(I6:Cw c l2)(R:∀a W,af N (a2 l2) a W->∃v,(results fn a.tmps).run (ae P true) W=.ok v W/\Fr.R W v):
 gi O P Post f args M w d (λu _ w'=>Fr.R w' u/\cy M w w'):=by
 intro n Shun hn aP e7 aF aC aK aM aH csZ hc dg;have C:kA P f:=Aj i y m;rw[vds i m];have H:=Held.start (n0:=w.heap.size) aP JT (a:=⟨args++Array.replicate (fn.ntmps-args.size) undef,[]⟩) (fB.append (GJ _ _)) rfl;refine Ng l C H hi j7 (I:=af N dE) (J:=af N ze) (jx _ X) (jx _ D) h0 (λW z k=>?_) λa' M' w' fI A=>?_
 .intro b cs;obtain⟨a1,w1,⟨q,r,Z⟩,Y⟩:=Kf _ W rfl k b cs;exact⟨a1,w1,⟨q,r,Z.mono z⟩,Y⟩
 refine Nc (Q:=λ_=>none) l V C x D (λ_ _ e=>Cn) gV hK Fw oZ h L lK j dY hn ix hG (.inl ⟨hS,rfl⟩) fI A ⟨A.size,λ_ _ e=>Cn⟩ λbc M2 w2 ey K eH T B=>?_;refine Ju l i y m B x hc (I:=af N (a2 l2)) (gZ:=Fr.R) (jx _ (iz t)) (Fr.ic _ UN) (eH.aU I6) (λW z k=>?_) λu m6 U h1 h2 h3 h4 aL bx=>?_
 .obtain⟨v,q,r⟩:=R _ W k;exact Cv (wO (kf (Nf B.defers q ⟨r,vaa _ _⟩)))
 .exact dg u m6 U ey K T h1 h2 h3 h4 ⟨bx,aL.sub λb j hw=>⟨j,hw⟩⟩
def w6{P:b4}{M:dh}{w:aS}{f:uaj}{fn:Func}{body:Code}{args:dp}{N i:Nat}{rest:uaa}{l0 l1:List (Nat×bb)}{ops:eY}{o:Oper}{ks:il}{d:Nat}{g:uaj}{B:Func}{hL:Code}{c:Tmp}{dF Fr:bb}(Q:(cY P).Good)(p:P.funcs[f]?=some fn)(K:iK P true fn=true)(A:fn.body=some body)(fB:aJ (bQ M) args args)(h0:af N (a2 l0) ⟨args++Array.replicate (fn.ntmps-args.size) undef,[]⟩ w)(Z:Jv w.heap.size l0)(m:Jv w.heap.size l1)(D:dF.ok w.heap.size)(UN:Fr.ok w.heap.size)(hi:[Item.code body].all (gr P)=true)(L:(Item.inRegion ops []::ks).all (gr P)=true)(j:ops[i]?=some o/\o.op=.call {callee:=.value (.func g),args:=fX,argTypes:=ats}/\o.guard=none/\o.dst=some c)(T:c<N)(hg:P.funcs[g]?=some B)(lK:(B.name== "runtime.NumGoroutine")=false)(q:B.body=some hL)(Kf:∀a W,a.defers=[]->w.heap.size<=W.heap.size->af N (a2 l0) a W->bI (ae P true) [.code body] (.inRegion ops (i::rest)::ks) (λa1 w1=>a1.defers=[]/\af N (a2 l1) a1 w1/\Below w.heap.size W w1) a W)(lf:∀a M w Shun,Home O P M Shun w->af N (a2 l1) a w->aJ (bQ M) a.tmps a.tmps->gi O P Post g (fX.map a.eval) M w d (λu _ w'=>dF.R w' u/\cy M w w'))(n3:∀a W,a.defers=[]->w.heap.size<=W.heap.size->af N (up (a2 l1) c dF) a W->rA (ae P true) fn (.inRegion ops rest::ks) (λv w1=>Fr.R w1 v/\Below w.heap.size W w1) a W):
 gi O P Post f args M w d (λu _ w'=>Fr.R w' u/\cy M w w'):=by
 intro n Shun hn aP e7 aF aC aK aM aH csZ hc dg;have S:kA P f:=Aj p K A;rw[vds p A];have E:∀l,(Item.inRegion ops l::ks).all (gr P)=true:=λl=>by simpa[gr]using L
 have H:=Held.start (n0:=w.heap.size) aP JT (a:=⟨args++Array.replicate (fn.ntmps-args.size) undef,[]⟩) (fB.append (GJ _ _)) rfl;refine Ng Q S H hi (E _) (I:=af N (a2 l0)) (J:=af N (a2 l1)) (jx _ (iz Z)) (jx _ (iz m)) h0 (λW r t=>Kf _ W rfl r t) λa' M' w' h z=>?_;have hok:∀s F,up (a2 l1) c dF s=some F->F.ok w.heap.size:=λs F e=>by
  unfold up at e;split at e
  .cases e;exact D
  .exact iz m s F e
 refine S1 j.2.1 hg lK q hn S h L j.1 j.2.2.1 ⟨j.2.2.2,by rw[z.size];exact T⟩ (I:=af N (a2 l1)) (J:=af N (up (a2 l1) c dF)) (mX:=dF.R) (jx _ (iz m)) z (λk=>lf a' M' (w'.at k) Shun (h.at k).fH (jx _ (iz m) _ _ _ _ _ ((cy.FY M' w' k).kX (n0:=w.heap.size) h.fH) h.all z) h.all) (λu Y y x=>y.put T (vaa _ _) x) λbc M2 Y ey U V R C=>?_;exact Ju Q p K A R (E _) hc (I:=af N (up (a2 l1) c dF)) (gZ:=Fr.R) (jx _ hok) (Fr.ic _ UN) C (λW r t=>n3 _ W R.defers r t) λu m6 X y x h3 h4 aL bx=>dg u m6 X ey U V y x h3 h4 ⟨bx,aL.sub λb q hw=>⟨q,hw⟩⟩
end
end a3
namespace cq
open RowKit ax a3
abbrev GQ(k:Nat):Array Value:=kx 1 (k:Int) 0 none none 0 0 0
def vG(w:aS)(dc no:Nat)(op a b:Int)(ka fX:uan)(n kc cx:Nat):Prop:=∀(j:Nat) v,(kx op a b ka fX n kc cx)[j]?=some v->w.cell? (.a dc (no+j))=some v
variable{cx dc kc n no:Nat}{fX ka:uan}
def Ea{w:aS}{op a b:Int}(h:vG w dc no op a b ka fX n kc cx):w.cell? (.a dc no)=some (.I op)/\w.cell? (.a dc (no+1))=some (.I a)/\w.cell? (.a dc (no+2))=some (.I b)/\w.cell? (.a dc (no+3))=some (.N)/\w.cell? (.a dc (no+4))=some (.slice ka n kc)/\w.cell? (.a dc (no+5))=some (.slice fX n cx)/\w.cell? (.a dc (no+6))=some (.N):=
 ⟨h 0 _ Y,h 1 _ Y,h 2 _ Y,h 3 _ Y,h 4 _ Y,h 5 _ Y,h 6 _ Y⟩
def AK{w w':aS}{op a b:Int}(h:vG w dc no op a b ka fX n kc cx)(hk:bo w w'):vG w' dc no op a b ka fX n kc cx:=λj v hv=>hk _ _ _ (h j v hv)
def aux(k:Nat)(w:aS):Calls (ae prog true) 43 #[.agg (GQ k)] w λe w'=>e=.returned (.T)/\cJ w w':=by
 unfold GQ kx;go_enter (bw (upd:=true) func43 AJ),ntmps43
 go_wp2
 go_ret
 exact⟨Y,(vaa _ _).alloc JT _⟩
def auy(ka fX:uan)(kc cx:Nat)(w:aS):Calls (ae prog true) 43 #[.agg (kx 4 0 1 ka fX 1 kc cx)] w λe w'=>e=.returned (.T)/\cJ w w':=by
 unfold kx;go_enter (bw (upd:=true) func43 AJ),ntmps43
 go_wp2_with (go_at_call 65;refine(ai9 _ _ _ _).mono ?_;rintro e a ⟨rfl,rfl⟩)
 go_ret
 exact⟨Y,(vaa _ _).alloc JT _⟩
variable{k:Nat}
def auz(d:k<1)(sb a:Nat)(b:uan)(w:aS)(h0:w.cell? (.a sb 0)=some (.slice b 1 a)):Calls (ae prog true) 42 #[.P sb 0,.agg (GQ k)] w λe w'=>e=.returned (.T)/\cJ w w':=by
 unfold GQ kx;have c:=ff h0;obtain rfl:k=0:=AP;all_goals
  go_enter (bw (upd:=true) func42 AJ),ntmps42
  go_wp2
  go_region
  go_wp2
  go_ret
  exact⟨Y,((vaa _ _).alloc JT _).drew⟩
def xw(b:k<2)(sb kb kc:Nat)(w:aS)(a:w.cell? (.a sb 3)=some (.S kb 0 2 kc))(hk:w.cell? (.a kb k)=some (.F)):Calls (ae prog true) 64 #[.P sb 0,.I (k:Int)] w λe w'=>e=.returned (.T)/\w'=w:=by
 obtain rfl|rfl:k=0\/k=1:=AP;all_goals
  go_enter (bw (upd:=true) func64 AJ),ntmps64
  go_wp2
  go_ret
  simp_all
def auA(sb kb kc c cx:Nat)(ka fX:uan)(w:aS)(a:w.cell? (.a sb 3)=some (.S kb 0 2 kc))(hk:w.cell? (.a kb 0)=some (.F))(b:w.cell? (.a kb 1)=some (.F)):Calls (ae prog true) 42 #[.P sb 0,.agg (kx 4 0 1 ka fX 1 c cx)] w λe w'=>e=.returned (.T)/\cJ w w':=by
 unfold kx;go_enter (bw (upd:=true) func42 AJ),ntmps42
 go_wp2_with fail
 refine(xw (k:=0) AX sb kb kc _ (qK a _) (qK hk _)).mono ?_;rintro e w' ⟨rfl,rfl⟩;go_wp2_with fail
 refine(xw (k:=1) AX sb kb kc _ (qK a _) (qK b _)).mono ?_;rintro e w' ⟨rfl,rfl⟩;go_wp2
 go_ret
 exact⟨Y,(vaa _ _).alloc JT _⟩
def xu(r:k<2)(sb b dc no j:Nat)(f:uan)(w:aS)(h0:w.cell? (.a sb 0)=some (.slice f 1 b))(o:w.cell? (.a sb 1)=some (.S dc no 3 j))(hn:vG w dc (no+k*7) 1 ((0:Nat):Int) 0 none none 0 0 0):Calls (ae prog true) 34 #[.P sb 0,.I (k:Int)] w λe w'=>e=.returned (.T)/\cJ w w':=by
 obtain⟨y,d1,x,v,u,t,s⟩:=Ea hn;have m:(0:Int)<=(k:Int):=AP;have n:(k:Int)<(3:Int):=AP;have l:¬(10:Int)<=(k:Int):=AP;go_enter (bw (upd:=true) func34 AJ),ntmps34
 go_wp2
 refine(auz (k:=0) AX sb b f _ (qK h0 _)).mono ?_;rintro e w1 ⟨rfl,a⟩;have c8:=(ai.new w (GQ 0) 34).call a;obtain⟨i,q,p⟩:=c8.all;have d:Hid (cJ w w1):=Below.step a ((vaa _ _).alloc JT _) Ad;clear a c8;unfold GQ kx at i;go_wp2
 refine(aux 0 _).mono ?_;rintro e g ⟨rfl,c⟩;have h:Hid (cJ w g):=Below.step c d.out d.out.size;clear c;go_wp2
 go_ret
 exact⟨Y,h.out⟩
def auB(sb kb kc dc no k a cx:Nat)(ka fX:uan)(w:aS)(i:w.cell? (.a sb 3)=some (.S kb 0 2 kc))(hk:w.cell? (.a kb 0)=some (.F))(g:w.cell? (.a kb 1)=some (.F))(l:w.cell? (.a sb 1)=some (.S dc no 3 k))(hn:vG w dc (no+14) 4 0 1 ka fX 1 a cx):Calls (ae prog true) 34 #[.P sb 0,.I 2] w λe w'=>e=.returned (.T)/\cJ w w':=by
 obtain⟨t,d1,s,r,q,p,o⟩:=Ea hn;go_enter (bw (upd:=true) func34 AJ),ntmps34
 go_wp2
 refine(auA sb kb kc a cx ka fX _ (qK i _) (qK hk _) (qK g _)).mono ?_;rintro e w1 ⟨rfl,b⟩;have c8:=(ai.new w (kx 4 0 1 ka fX 1 a cx) 34).call b;obtain⟨j,n,m⟩:=c8.all;have d:Hid (cJ w w1):=Below.step b ((vaa _ _).alloc JT _) Ad;clear b c8;unfold kx at j;go_wp2
 refine(auy ka fX a cx _).mono ?_;rintro e f ⟨rfl,c⟩;have h:Hid (cJ w f):=Below.step c d.out d.out.size;clear c;go_wp2
 go_ret
 exact⟨Y,h.out⟩
