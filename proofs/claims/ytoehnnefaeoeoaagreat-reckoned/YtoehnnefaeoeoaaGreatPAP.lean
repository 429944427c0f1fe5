import Derived.Test.YtoehnnefaeoeoaaGreatPAK
import Derived.Test.YtoehnnefaeoeoaaGreatPAM
set_option linter.all false
set_option maxRecDepth 100000
set_option maxHeartbeats 16000000
namespace Go.Proofs.YtoehnnefaeoeoaaGreat
open Go.Proofs.Tryz
namespace gF
open Conc RowKit Conc.Lib ConcR.Gen ConcM az bu ab gb iJ ba
theorem Jy:(f90.name== "runtime.NumGoroutine")=false:=by kernel_rfl
structure xU(c:dT)(S ak jA:Nat):Prop where
 size:c.size=.int .i64 (S:Int)
 Bg:c.Bg=.int .i64 (ak:Int)
 zQ:c.zQ=.slice (some ⟨c.bG,0,none⟩) c.N jA
 tl:kr c.rows c.N<=300
 room:(c.N+1)*ak+S<4611686018427387904
 d4:c.d4<=250
 small:c.N<4611686018427387904
section
variable {c:dT} {Stop:Bool->ab.av aV->a6->Prop} {mine:Nat->Prop} {S ak jA:Nat}
variable {b₁:Frame} {a₁:Act} {aG:Array Oper} {i₁:Nat} {aP:List Nat} {k₁:List Item} {cs₁:List Frame}
theorem aqe(ok:xU c S ak jA){T:Nat}(h:T<c.N):(T:Int)*(ak:Int)=((T*ak:Nat):Int)/\T*ak+ak+S<4611686018427387904:=by refine⟨AU,?_⟩;have b:(T+1)*ak<=(c.N+1)*ak:=Nat.mul_le_mul_right _ Ay;have a:=ok.room;grind
theorem aqf(ok:xU c S ak jA){T:Nat}(h:T<c.N):∃F a E:Nat,(T:Int)*(ak:Int)=(F:Int)/\IntKind.wrap .i64 (F:Int)=(F:Int)/\IntKind.wrap .i64 ((F:Int)+(ak:Int))=(a:Int)/\(if S<a then(S:Int)else(a:Int))=(E:Int)/\tx (F=T*ak/\E=min (T*ak+ak) S):=by
 obtain⟨b,d⟩:=aqe ok h;refine⟨T*ak,T*ak+ak,min (T*ak+ak) S,b,?_,?_,?_,rfl,rfl⟩
 ·rw[IntKind.wrap_i64];omega
 ·rw[IntKind.wrap_i64];omega
 grind
theorem aqg(ok:xU c S ak jA){T:Nat}(h:T<c.N):IntKind.wrap .i64 ((T:Int)+1)=((T+1:Nat):Int):=by have:=ok.small;rw[IntKind.wrap_i64];omega
def Tg(S ak T:Nat):Value:=.agg #[.int .i64 (T:Int),.int .i64 ((T*ak:Nat):Int),.int .i64 ((min (T*ak+ak) S:Nat):Int)]
def Ti(a₁:Act)(aG:Array Oper)(i₁:Nat)(v:Value):Act:=a₁.put ((aG[i₁]?).bind (·.dst)) v
theorem aqh(ok:xU c S ak jA){f:Nat}{p:List (Nat×Value)}{w0:World}(hS:∀m l g w M M',(∀b,M b->M' b)->Stop m l ⟨g,w,M⟩->Stop m l ⟨g,w,M'⟩)
 (cj:∀w' ae,U (ah (aE c)) mine w0 w'->c.N<=ae.am.taken->bh (ah (aE c)) prog Stop false ⟨.idle,false,0,f+1,.aR .free p⟩ ae ⟨Conc.G (b₁.at (Ti a₁ aG i₁ (.tuple #[.agg #[.int .i64 0,.int .i64 0,.int .i64 0],.bool false])) (.inRegion aG aP::k₁)) cs₁,w',mine⟩)
 (g8:∀w' ae T,U (ah (aE c)) mine w0 w'->T<c.N->bh (ah (aE c)) prog Stop false ⟨.idle,false,0,f+c.C,.aR (.has T) p⟩ ae ⟨Conc.G (b₁.at (Ti a₁ aG i₁ (.tuple #[Tg S ak T,.bool true])) (.inRegion aG aP::k₁)) cs₁,w',mine⟩) (w:World) (γ:ab.aT cF) (hk:aZ (ah (aE c)) mine w0 [] w):
 bh (ah (aE c)) prog Stop false ⟨.idle,false,0,f+15,.aR .free p⟩ γ ⟨Conc.G ((base 82).at ⟨#[.pointer (some ⟨c.st,0,none⟩)]++Array.replicate 64 undef,[]⟩ [.code (f82.body.getD .skip)]) (b₁.at a₁ (.inRegion aG (i₁::aP)::k₁)::cs₁),w,ck mine []⟩:=by
 have hF:=hk;have jT:=(aN (bR c)).og;have W:prog.follows .mixedOrders=true:=BB;refine a5 (aN (bR c)) AU 200 _ _ γ Jt ?_;simp only[f82,Option.getD_some];walk_nrm
 repeat w_go aZ.on
 refine g6 rfl hF fun I r H o u L y s hF=>?_;refine tU AU jT rfl hF (stepG_value (v:=.pointer (some ⟨u.heap.size,0,none⟩)) (w':=u.alloc (Obj.cells #[Value.int IntKind.i64 0,Value.int IntKind.i64 0,Value.int IntKind.i64 0] 187)) rfl rfl Bc BD) rfl Bb (fun n=>?_);clear hF;have hF:=n;clear n s y o r;generalize u.heap.size=b0 at hF⊢;generalize u.alloc (Obj.cells #[Value.int IntKind.i64 0,Value.int IntKind.i64 0,Value.int IntKind.i64 0] 187)=w3 at hF⊢;refine a5 (aN (bR c)) AU 200 _ _ _ Jt ?_;walk_nrm
 repeat w_go aZ.on
 u_call func89 SW f89 aZ.on hF
 have Q:∀b,(aE c).K b\/ck mine [(b0,Obj.cells #[Value.int IntKind.i64 0,Value.int IntKind.i64 0,Value.int IntKind.i64 0] 187)] b->b≠(aE c).st:=fun b z e=>hF.fy b z (.inl e);refine Goes.stop (fun R P=>⟨rfl,fun V _=>abl (f:=f+9) (bR c) (a:=.aR .free p) K4 ok.d4 Q (fun GA Ac O=>?_) R V (U.refl _ _ _)⟩);replace hF:=(hF.on P).on O;clear P O Q;refine a5 (aN (bR c)) AU 200 _ _ _ Jt ?_;walk_nrm
 repeat w_go aZ.on
 u_defer aZ.on hF
 repeat w_go aZ.on
 refine Goes.stop (fun I r=>⟨rfl,fun H o=>?_⟩);replace hF:=hF.on r;clear r o;refine bh.seen (aN (bR c)) rfl fun H _ lg=>?_;obtain⟨xs,iz,wo,kO⟩:=xD lg;obtain⟨d,hd⟩:∃d,ir.of H.am=d:=⟨_,rfl⟩;have NR:d.T<=c.N:=by subst hd;exact kO.a2
 have dG:d.M<=300:=by subst hd;exact Nat.le_trans kO.YV ok.tl
 clear wo kO lg;by_cases hT:d.T=c.N
 ·skip
  refine Dg (Z:=ah (aE c)) (C:=Dk c mine w0 (d) ⟨.own,true,0,f+9,.aR .free p⟩) AU Bc W KT IW (σ:=mZ c mine w0 (d) ⟨.own,true,0,f+9,.aR .free p⟩ [(b0,Obj.cells #[Value.int IntKind.i64 0,Value.int IntKind.i64 0,Value.int IntKind.i64 0] 187)]) (jm:=va prog Stop false _ _ _ _ []) K3 ⟨_,rfl⟩ ?_ _ H ⟨hF,hd⟩;walk_nrm
  refine cQ (i:=0) (v:=.pointer (some ⟨c.st,0,none⟩)) KT rfl AS AS AS (eh rfl (fun _=>BD) KL) ⟨_,rfl⟩ ?_;walk_nrm
  refine cQ (i:=1) (v:=.pointer (some ⟨c.st,0,none⟩)) KT rfl AS AS AS (eh rfl (fun _=>BD) KL) ⟨_,rfl⟩ ?_;walk_nrm
  refine cQ (i:=2) (v:=.pointer (some ⟨c.st,4,none⟩)) KT rfl AS AS AS (eh rfl (fun _=>BD) KL) ⟨_,rfl⟩ ?_;walk_nrm
  refine cQ (i:=3) (v:=.int .i64 (d.T:Int)) KT rfl AS AS AS (xF rfl rfl rfl 2 rfl (fun x D=>by grind[ir.of]) (fun w j=>⟨BD,AY⟩)) ⟨_,rfl⟩ ?_;walk_nrm
  refine cQ (i:=4) (v:=.pointer (some ⟨c.st,0,none⟩)) KT rfl AS AS AS (eh rfl (fun _=>BD) KL) ⟨_,rfl⟩ ?_;walk_nrm
  refine cQ (i:=5) (v:=.pointer (some ⟨c.st,0,none⟩)) KT rfl AS AS AS (eh rfl (fun _=>BD) KL) ⟨_,rfl⟩ ?_;walk_nrm
  refine cQ (i:=6) (v:=.pointer (some ⟨c.st,6,none⟩)) KT rfl AS AS AS (eh rfl (fun _=>BD) KL) ⟨_,rfl⟩ ?_;walk_nrm
  refine cQ (i:=7) (v:=.slice (some ⟨c.bG,0,none⟩) c.N jA) KT rfl AS AS AS (xF rfl rfl rfl 4 rfl (fun x D=>by subst D;simp[ok.zQ]) (fun w j=>⟨BD,AY⟩)) ⟨_,rfl⟩ ?_;walk_nrm
  refine cQ (i:=8) (v:=.int .i64 (c.N:Int)) KT rfl AS AS AS (eh rfl (fun _=>BD) KL) ⟨_,rfl⟩ ?_;walk_nrm
  refine cQ (i:=9) (v:=.bool true) KT rfl AS AS AS (eh rfl (fun _=>BD) KL) ⟨_,rfl⟩ ?_;walk_nrm
  refine cQ (i:=10) (v:=.bool true) KT rfl AS AS AS (eh rfl (fun _=>BD) KL) ⟨_,rfl⟩ ?_;walk_nrm
  refine cQ (i:=11) (v:=undef) KT rfl AS AS AS (IX rfl) ⟨_,rfl⟩ ?_;walk_nrm
  refine cQ (i:=12) (v:=undef) KT rfl AS AS AS (IX rfl) ⟨_,rfl⟩ ?_;walk_nrm
  refine cQ (i:=13) (v:=undef) KT rfl AS AS AS (IX rfl) ⟨_,rfl⟩ ?_;walk_nrm
  refine cQ (i:=14) (v:=undef) KT rfl AS AS AS (IX rfl) ⟨_,rfl⟩ ?_;walk_nrm
  refine cQ (i:=15) (v:=undef) KT rfl AS AS AS (IX rfl) ⟨_,rfl⟩ ?_;walk_nrm
  refine cQ (i:=16) (v:=.bool true) KT rfl AS AS AS (eh rfl (fun _=>BD) KL) ⟨_,rfl⟩ ?_;walk_nrm
  refine zO AS ?_ _;rintro I Y ⟨n,J⟩;clear hd;have hd:=J;clear J;clear hF;have hF:=n;clear n;simp[mZ];have X:F9 c ⟨.own,true,0,f+9,.aR .free p⟩ Y:=⟨fun h=>h,by have e:=congrArg ir.T hd;grind[ir.of]⟩;clear hd dG NR hT;refine a5 (aN (bR c)) AU 200 _ _ _ Jt ?_;walk_nrm
  repeat w_go aZ.on
  refine g6 rfl hF fun I r H o u L y s hF=>?_;replace X:=ML _ _ _ (ML _ _ _ X o) y;have q:=hF.cV (b0,.cells #[.int .i64 0,.int .i64 0,.int .i64 0] 187) Aa;refine Do AU rfl (pre:=[]) (post:=[]) hF (stepG_none (w':=u.setRow b0 #[.int .i64 0,.int .i64 0,.int .i64 0]) rfl rfl Bc (sM q ⟨rfl,rfl,rfl⟩ rfl rfl rfl).1) rfl (fun e K=>?_) (fun n=>?_)
  ·have B:=mem_listed K;rw[(sM q ⟨rfl,rfl,rfl⟩ rfl rfl rfl).2]at B;grind
  clear hF;have hF:=n;clear n q;clear s y o r;refine a5 (aN (bR c)) AU 200 _ _ _ Jt ?_;walk_nrm
  repeat w_go aZ.on
  u_in aZ.on hF
  rw[stepG_unwind_enter rfl func90 Jy rfl];simp only[goes_go];refine⟨FQ,?_⟩;walk_nrmf f90
  have Q:∀b,c.K b\/ck mine [(b0,Obj.cells #[Value.int IntKind.i64 0,Value.int IntKind.i64 0,Value.int IntKind.i64 0] 187)] b->b≠c.st:=fun b z e=>hF.fy b z (.inl e);refine Goes.stop (fun R P=>⟨rfl,fun V JK=>apC (f:=f+1) ok.d4 Q rfl rfl (fun GA Ac O aEB=>?_) R V (U.refl _ _ _) (ML _ _ _ X JK).2⟩);replace hF:=(hF.on P).on O;clear P O Q X;refine bh.mk rfl (fun u L y s=>?_);replace hF:=hF.on (dX.rw s);have q:=hF.cV (b0,.cells #[.int .i64 0,.int .i64 0,.int .i64 0] 187) Aa;refine tj AU rfl (fun b z=>hF.fy b (.inr z)) (Y6 rfl rfl func82 (NM (t:=.bool false) q rfl rfl).1 (NM (t:=.bool false) q rfl rfl).2) rfl (fun e K=>?_) ?_
  ·have B:=az.zo K;simp at B;rcases B with rfl|rfl|rfl<;>exact⟨rfl,.inr (.inr Aa)⟩
  rw[Frame.finish_at];exact bh.more hS (cj u L hF.rw AU) (fun b z=>.inl z)
 ·skip
  have N:d.T<c.N:=Ay;have hne:((d.T:Int)==(c.N:Int))=false:=AU;have FO:decide ((300:Int)<(d.M:Int))=false:=AU;obtain⟨F,JJ,E,hmul,aqi,aqj,aqk,aql⟩:=aqf ok N;refine Dg (Z:=ah (aE c)) (C:=Dk c mine w0 (d) ⟨.own,true,0,f+9,.aR .free p⟩) AU Bc W KT IW (σ:=mZ c mine w0 (d) ⟨.own,true,0,f+9,.aR .free p⟩ [(b0,Obj.cells #[Value.int IntKind.i64 0,Value.int IntKind.i64 0,Value.int IntKind.i64 0] 187)]) (jm:=va prog Stop false _ _ _ _ []) K3 ⟨_,rfl⟩ ?_ _ H ⟨hF,hd⟩;walk_nrm
  refine cQ (i:=0) (v:=.pointer (some ⟨c.st,0,none⟩)) KT rfl AS AS AS (eh rfl (fun _=>BD) KL) ⟨_,rfl⟩ ?_;walk_nrm
  refine cQ (i:=1) (v:=.pointer (some ⟨c.st,0,none⟩)) KT rfl AS AS AS (eh rfl (fun _=>BD) KL) ⟨_,rfl⟩ ?_;walk_nrm
  refine cQ (i:=2) (v:=.pointer (some ⟨c.st,4,none⟩)) KT rfl AS AS AS (eh rfl (fun _=>BD) KL) ⟨_,rfl⟩ ?_;walk_nrm
  refine cQ (i:=3) (v:=.int .i64 (d.T:Int)) KT rfl AS AS AS (xF rfl rfl rfl 2 rfl (fun x D=>by grind[ir.of]) (fun w j=>⟨BD,AY⟩)) ⟨_,rfl⟩ ?_;walk_nrm
  refine cQ (i:=4) (v:=.pointer (some ⟨c.st,0,none⟩)) KT rfl AS AS AS (eh rfl (fun _=>BD) KL) ⟨_,rfl⟩ ?_;walk_nrm
  refine cQ (i:=5) (v:=.pointer (some ⟨c.st,0,none⟩)) KT rfl AS AS AS (eh rfl (fun _=>BD) KL) ⟨_,rfl⟩ ?_;walk_nrm
  refine cQ (i:=6) (v:=.pointer (some ⟨c.st,6,none⟩)) KT rfl AS AS AS (eh rfl (fun _=>BD) KL) ⟨_,rfl⟩ ?_;walk_nrm
  refine cQ (i:=7) (v:=.slice (some ⟨c.bG,0,none⟩) c.N jA) KT rfl AS AS AS (xF rfl rfl rfl 4 rfl (fun x D=>by subst D;simp[ok.zQ]) (fun w j=>⟨BD,AY⟩)) ⟨_,rfl⟩ ?_;walk_nrm
  refine cQ (i:=8) (v:=.int .i64 (c.N:Int)) KT rfl AS AS AS (eh rfl (fun _=>BD) KL) ⟨_,rfl⟩ ?_;walk_nrm
  refine cQ (i:=9) (v:=.bool false) KT rfl AS AS AS (eh rfl (fun _=>BD) KL) ⟨_,rfl⟩ ?_;walk_nrm
  refine cQ (i:=10) (v:=.bool false) KT rfl AS AS AS (eh rfl (fun _=>BD) KL) ⟨_,rfl⟩ ?_;walk_nrm
  refine cQ (i:=11) (v:=.pointer (some ⟨c.st,0,none⟩)) KT rfl AS AS AS (eh rfl (fun _=>BD) KL) ⟨_,rfl⟩ ?_;walk_nrm
  refine cQ (i:=12) (v:=.pointer (some ⟨c.st,0,none⟩)) KT rfl AS AS AS (eh rfl (fun _=>BD) KL) ⟨_,rfl⟩ ?_;walk_nrm
  refine cQ (i:=13) (v:=.pointer (some ⟨c.st,5,none⟩)) KT rfl AS AS AS (eh rfl (fun _=>BD) KL) ⟨_,rfl⟩ ?_;walk_nrm
  refine cQ (i:=14) (v:=.int .i64 (d.M:Int)) KT rfl AS AS AS (xF rfl rfl rfl 3 rfl (fun x D=>by grind[ir.of]) (fun w j=>⟨BD,AY⟩)) ⟨_,rfl⟩ ?_;walk_nrm
  refine cQ (i:=15) (v:=.bool false) KT rfl AS AS AS (eh rfl (fun _=>BD) KL) ⟨_,rfl⟩ ?_;walk_nrm
  refine cQ (i:=16) (v:=.bool false) KT rfl AS AS AS (eh rfl (fun _=>BD) KL) ⟨_,rfl⟩ ?_;walk_nrm
  refine zO AS ?_ _;rintro I Y ⟨n,J⟩;clear hd;have hd:=J;clear J;clear hF;have hF:=n;clear n;simp[mZ];clear hT NR dG hne FO;refine a5 (aN (bR c)) AU 200 _ _ _ Jt ?_;walk_nrm
  repeat w_go aZ.on
  refine Goes.stop (fun I r=>⟨rfl,fun H o=>?_⟩);replace hF:=hF.on r;replace hd:=(xE (c:=c) (l:=⟨.own,true,0,f+9,.aR .free p⟩) rfl o).trans hd;clear r o;refine Dg (Z:=ah (aE c)) (C:=Dk c mine w0 (d) ⟨.own,true,0,f+9,.aR .free p⟩) AU Bc W KT IW (σ:=mZ c mine w0 (d) ⟨.own,true,0,f+9,.aR .free p⟩ [(b0,Obj.cells #[Value.int IntKind.i64 0,Value.int IntKind.i64 0,Value.int IntKind.i64 0] 187)]) (jm:=va prog Stop false _ _ _ _ []) K3 ⟨_,rfl⟩ ?_ _ H ⟨hF,hd⟩;walk_nrm
  refine cQ (i:=0) (v:=.pointer (some ⟨c.st,0,none⟩)) KT rfl AS AS AS (eh rfl (fun _=>BD) KL) ⟨_,rfl⟩ ?_;walk_nrm
  refine cQ (i:=1) (v:=.pointer (some ⟨c.st,0,none⟩)) KT rfl AS AS AS (eh rfl (fun _=>BD) KL) ⟨_,rfl⟩ ?_;walk_nrm
  refine cQ (i:=2) (v:=.pointer (some ⟨c.st,4,none⟩)) KT rfl AS AS AS (eh rfl (fun _=>BD) KL) ⟨_,rfl⟩ ?_;walk_nrm
  refine cQ (i:=3) (v:=.int .i64 (d.T:Int)) KT rfl AS AS AS (xF rfl rfl rfl 2 rfl (fun x D=>by grind[ir.of]) (fun w j=>⟨BD,AY⟩)) ⟨_,rfl⟩ ?_;walk_nrm
  refine cQ (i:=4) (v:=.pointer (some ⟨c.st,0,none⟩)) KT rfl AS AS AS (eh rfl (fun _=>BD) KL) ⟨_,rfl⟩ ?_;walk_nrm
  refine cQ (i:=5) (v:=.pointer (some ⟨c.st,0,none⟩)) KT rfl AS AS AS (eh rfl (fun _=>BD) KL) ⟨_,rfl⟩ ?_;walk_nrm
  refine cQ (i:=6) (v:=.pointer (some ⟨c.st,3,none⟩)) KT rfl AS AS AS (eh rfl (fun _=>BD) KL) ⟨_,rfl⟩ ?_;walk_nrm
  refine cQ (i:=7) (v:=.int .i64 (ak:Int)) KT rfl AS AS AS (xF rfl rfl rfl 1 rfl (fun x D=>by subst D;simp[ok.Bg]) (fun w j=>⟨BD,AY⟩)) ⟨_,rfl⟩ ?_;walk_nrm
  refine cQ (i:=8) (v:=.int .i64 (F:Int)) KT rfl AS AS AS (eh rfl (fun _=>BD) KL) ⟨_,rfl⟩ ?_;walk_nrm
  refine cQ (i:=9) (v:=.int .i64 (F:Int)) KT rfl AS AS AS (eh rfl (fun _=>BD) KL) ⟨_,rfl⟩ ?_;walk_nrm
  refine zO AS ?_ _;rintro I Y ⟨n,J⟩;clear hd;have hd:=J;clear J;clear hF;have hF:=n;clear n;simp[mZ];refine a5 (aN (bR c)) AU 200 _ _ _ Jt ?_;walk_nrm
  repeat w_go aZ.on
  refine Goes.stop (fun I r=>⟨rfl,fun H o=>?_⟩);replace hF:=hF.on r;replace hd:=(xE (c:=c) (l:=⟨.own,true,0,f+9,.aR .free p⟩) rfl o).trans hd;clear r o;refine Dg (Z:=ah (aE c)) (C:=Dk c mine w0 (d) ⟨.own,true,0,f+9,.aR .free p⟩) AU Bc W KT IW (σ:=mZ c mine w0 (d) ⟨.own,true,0,f+9,.aR .free p⟩ [(b0,Obj.cells #[Value.int IntKind.i64 0,Value.int IntKind.i64 0,Value.int IntKind.i64 0] 187)]) (jm:=va prog Stop false _ _ _ _ []) K3 ⟨_,rfl⟩ ?_ _ H ⟨hF,hd⟩;walk_nrm
  refine cQ (i:=0) (v:=.pointer (some ⟨c.st,0,none⟩)) KT rfl AS AS AS (eh rfl (fun _=>BD) KL) ⟨_,rfl⟩ ?_;walk_nrm
  refine cQ (i:=1) (v:=.pointer (some ⟨c.st,0,none⟩)) KT rfl AS AS AS (eh rfl (fun _=>BD) KL) ⟨_,rfl⟩ ?_;walk_nrm
  refine cQ (i:=2) (v:=.pointer (some ⟨c.st,4,none⟩)) KT rfl AS AS AS (eh rfl (fun _=>BD) KL) ⟨_,rfl⟩ ?_;walk_nrm
  refine cQ (i:=3) (v:=.int .i64 (d.T:Int)) KT rfl AS AS AS (xF rfl rfl rfl 2 rfl (fun x D=>by grind[ir.of]) (fun w j=>⟨BD,AY⟩)) ⟨_,rfl⟩ ?_;walk_nrm
  refine cQ (i:=4) (v:=.int .i64 (F:Int)) KT rfl AS AS AS (eh rfl (fun _=>BD) KL) ⟨_,rfl⟩ ?_;walk_nrm
  refine cQ (i:=5) (v:=.int .i64 (F:Int)) KT rfl AS AS AS (eh rfl (fun _=>BD) KL) ⟨_,rfl⟩ ?_;walk_nrm
  refine cQ (i:=6) (v:=.pointer (some ⟨c.st,0,none⟩)) KT rfl AS AS AS (eh rfl (fun _=>BD) KL) ⟨_,rfl⟩ ?_;walk_nrm
  refine cQ (i:=7) (v:=.pointer (some ⟨c.st,0,none⟩)) KT rfl AS AS AS (eh rfl (fun _=>BD) KL) ⟨_,rfl⟩ ?_;walk_nrm
  refine cQ (i:=8) (v:=.pointer (some ⟨c.st,3,none⟩)) KT rfl AS AS AS (eh rfl (fun _=>BD) KL) ⟨_,rfl⟩ ?_;walk_nrm
  refine cQ (i:=9) (v:=.int .i64 (ak:Int)) KT rfl AS AS AS (xF rfl rfl rfl 1 rfl (fun x D=>by subst D;simp[ok.Bg]) (fun w j=>⟨BD,AY⟩)) ⟨_,rfl⟩ ?_;walk_nrm
  refine cQ (i:=10) (v:=.int .i64 (JJ:Int)) KT rfl AS AS AS (eh rfl (fun _=>BD) KL) ⟨_,rfl⟩ ?_;walk_nrm
  refine cQ (i:=11) (v:=.pointer (some ⟨c.st,0,none⟩)) KT rfl AS AS AS (eh rfl (fun _=>BD) KL) ⟨_,rfl⟩ ?_;walk_nrm
  refine cQ (i:=12) (v:=.pointer (some ⟨c.st,0,none⟩)) KT rfl AS AS AS (eh rfl (fun _=>BD) KL) ⟨_,rfl⟩ ?_;walk_nrm
  refine cQ (i:=13) (v:=.pointer (some ⟨c.st,2,none⟩)) KT rfl AS AS AS (eh rfl (fun _=>BD) KL) ⟨_,rfl⟩ ?_;walk_nrm
  refine cQ (i:=14) (v:=.int .i64 (S:Int)) KT rfl AS AS AS (xF rfl rfl rfl 0 rfl (fun x D=>by subst D;simp[ok.size]) (fun w j=>⟨BD,AY⟩)) ⟨_,rfl⟩ ?_;walk_nrm
  refine cQ (i:=15) (v:=.int .i64 (E:Int)) KT rfl AS AS AS (eh rfl (fun _=>BD) KL) ⟨_,rfl⟩ ?_;walk_nrm
  refine cQ (i:=16) (v:=.agg #[.int .i64 (d.T:Int),.int .i64 (F:Int),.int .i64 (E:Int)]) KT rfl AS AS AS (eh rfl (fun _=>(aa6 rfl rfl rfl rfl).1) (fun w=>by unfold listed;rw[(aa6 rfl rfl rfl rfl).2];rfl)) ⟨_,rfl⟩ ?_;walk_nrm
  refine ve (i:=17) AS (zR rfl rfl (alU (ob:=Obj.cells #[Value.int IntKind.i64 0,Value.int IntKind.i64 0,Value.int IntKind.i64 0] 187) rfl (fun w=>⟨BD,Bb⟩) (fun aO=>⟨⟨_,rfl⟩,?_⟩)));walk_nrm
  refine ve (i:=18) AS (zR rfl rfl (alV rfl rfl (pre:=[]) (new:=#[.int .i64 (d.T:Int),.int .i64 (F:Int),.int .i64 (E:Int)]) (fun w q=>⟨(sM q ⟨rfl,rfl,rfl⟩ rfl rfl rfl).1,fun e K=>?_⟩) ⟨⟨_,rfl⟩,?_⟩))
  ·have B:=mem_listed K;rw[(sM q ⟨rfl,rfl,rfl⟩ rfl rfl rfl).2]at B;grind
  walk_nrm
  refine zO AS ?_ _;rintro I Y ⟨n,J⟩;clear hF hd;have hF:=n;have hd:=J;clear n J;simp[mZ]at hF⊢;refine a5 (aN (bR c)) AU 200 _ _ _ Jt ?_;walk_nrm
  repeat w_go aZ.on
  refine g6 rfl hF fun I r H o u L y s hF=>?_;replace hd:=(xE (c:=c) (l:=⟨.own,true,0,f+9,.aR .free p⟩) rfl y).trans ((xE (c:=c) (l:=⟨.own,true,0,f+9,.aR .free p⟩) rfl o).trans hd);clear o y r;have j:u.cell? ⟨c.st,4,none⟩=some (.int .i64 (d.T:Int)):=by rw[IY s.mt.1 2];subst hd;simp[ir.of]
  refine Y7 (k:=2) rfl rfl ((stepG_value (v:=.int .i64 (d.T:Int)) rfl rfl Bc BD).trans (congrArg (fun es=>GStep.go _ _ es) AY)) rfl ?_;clear j s;have aqm:IntKind.wrap .i64 ((d.T:Int)+1)=((d.T+1:Nat):Int):=aqg ok N;refine a5 (aN (bR c)) AU 200 _ _ _ Jt ?_;walk_nrm
  repeat w_go aZ.on
  refine g6 rfl hF fun I r H o u L y s hF=>?_;replace hd:=(xE (c:=c) (l:=⟨.own,true,0,f+9,.aR .free p⟩) rfl y).trans ((xE (c:=c) (l:=⟨.own,true,0,f+9,.aR .free p⟩) rfl o).trans hd);clear o y r;have j:u.cell? ⟨c.st,4,none⟩=some (.int .i64 (d.T:Int)):=by rw[IY s.mt.1 2];subst hd;simp[ir.of]
  have sL:u.frozen? ⟨c.st,4,none⟩=false:=by simp[World.frozen?,s.mt.1,ic]
  refine alL (f1:=f+c.C+8) (v:=.int .i64 ((d.T+1:Nat):Int)) s ((stepG_none rfl rfl Bc BD).trans (congrArg (fun es=>GStep.go _ _ es) (by simp[listed,go_sem,j,sL];rfl))) rfl (by subst hd;rfl) rfl rfl rfl (by subst hd;exact N) AU ?_;have e1:L.am.taken=d.T:=by subst hd;rfl
  have n:=hF.shared (k:=c.st) (off:=4) (sp:=none) Jt (.int .i64 ((d.T+1:Nat):Int));clear hF;have hF:=n;clear n j sL s;rw[e1];clear hd e1 aqi aqj aqm hmul aqk;dsimp only;generalize u.setCell ⟨c.st,4,none⟩ (.int .i64 ((d.T+1:Nat):Int))=w4 at hF⊢;refine a5 (aN (bR c)) AU 200 _ _ _ Jt ?_;walk_nrm
  repeat w_go aZ.on
  refine g6 rfl hF fun I r H o u L y s hF=>?_;have q:=hF.cV (aO,.cells #[.int .i64 (d.T:Int),.int .i64 (F:Int),.int .i64 (E:Int)] 187) Aa;refine tj AU rfl (fun b z=>hF.fy b (.inr z)) (stepG_value rfl rfl Bc (BN q rfl rfl).1) rfl (fun e K=>?_) ?_
  ·have B:=mem_listed K;rw[(BN q rfl rfl).2]at B;simp at B;rcases B with rfl|rfl|rfl<;>exact⟨rfl,.inr (.inr Aa)⟩
  clear q s y o r;refine a5 (aN (bR c)) AU 200 _ _ _ Jt ?_;walk_nrm
  repeat w_go aZ.on
  refine g6 rfl hF fun I r H o u L y s hF=>?_;have q:=hF.cV (b0,Obj.cells #[Value.int IntKind.i64 0,Value.int IntKind.i64 0,Value.int IntKind.i64 0] 187) Aa;refine Do AU rfl (pre:=[(aO,.cells #[.int .i64 (d.T:Int),.int .i64 (F:Int),.int .i64 (E:Int)] 187)]) (post:=[]) hF (stepG_none (w':=u.setRow b0 #[.int .i64 (d.T:Int),.int .i64 (F:Int),.int .i64 (E:Int)]) rfl rfl Bc (sM q ⟨rfl,rfl,rfl⟩ rfl rfl rfl).1) rfl (fun e K=>?_) (fun n=>?_)
  ·have B:=mem_listed K;rw[(sM q ⟨rfl,rfl,rfl⟩ rfl rfl rfl).2]at B;grind
  clear hF;have hF:=n;clear n q s y o r;simp only[List.cons_append,List.nil_append]at hF⊢;refine a5 (aN (bR c)) AU 200 _ _ _ Jt ?_;walk_nrm
  repeat w_go aZ.on
  u_in aZ.on hF
  rw[stepG_unwind_enter rfl func90 Jy rfl];simp only[goes_go];refine⟨FQ,?_⟩;walk_nrmf f90
  have Q:∀b,(aE c).K b\/ck mine [(aO,.cells #[.int .i64 (d.T:Int),.int .i64 (F:Int),.int .i64 (E:Int)] 187),(b0,.cells #[.int .i64 (d.T:Int),.int .i64 (F:Int),.int .i64 (E:Int)] 187)] b->b≠(aE c).st:=fun b z e=>hF.fy b z (.inl e);refine Goes.stop (fun R P=>⟨rfl,fun V JK=>S3 (A:=aE c) (f:=f+c.C) (bR c) (a:=.aR (.has d.T) p) K4 ok.d4 Q rfl rfl (fun GA Ac O=>?_) R V (U.refl _ _ _)⟩);replace hF:=(hF.on P).on O;clear P O Q;refine bh.mk rfl (fun u L y s=>?_);replace hF:=hF.on (dX.rw s);have q:=hF.cV (b0,.cells #[.int .i64 (d.T:Int),.int .i64 (F:Int),.int .i64 (E:Int)] 187) Aa;refine tj AU rfl (fun b z=>hF.fy b (.inr z)) (Y6 rfl rfl func82 (NM (t:=.bool true) q rfl rfl).1 (NM (t:=.bool true) q rfl rfl).2) rfl (fun e K=>?_) ?_
  ·have B:=az.zo K;simp at B;rcases B with rfl|rfl|rfl<;>exact⟨rfl,.inr (.inr Aa)⟩
  rw[Frame.finish_at];have ie:Tg S ak d.T=.agg #[.int .i64 (d.T:Int),.int .i64 (F:Int),.int .i64 (E:Int)]:=by obtain⟨rfl,rfl⟩:=tx.out aql;rfl
  have jN:=g8 u L d.T hF.rw N;rw[ie]at jN;exact bh.more hS jN (fun b z=>.inl z)
end
section
section
variable {c:dT} {Stop:Bool->ab.av aV->a6->Prop} {mine:Nat->Prop} {S ak jA:Nat}
variable {b₁:Frame} {a₁:Act} {aG:Array Oper} {i₁:Nat} {aP:List Nat} {k₁:List Item} {cs₁:List Frame}
theorem aq4(ok:xU c S ak jA){f T a9:Nat}{F E:Int}{s:Option Addr}{q:List (Nat×Value)}{w0:World}(hS:∀m l g w M M',(∀b,M b->M' b)->Stop m l ⟨g,w,M⟩->Stop m l ⟨g,w,M'⟩)
 (g8:∀w' ae,U (ah (aE c)) mine w0 w'->bh (ah (aE c)) prog Stop false ⟨.idle,false,0,f,.aR .free ((T,.slice s (c.rows T) a9)::q)⟩ ae ⟨Conc.G (b₁.at (Ti a₁ aG i₁ (.tuple #[])) (.inRegion aG aP::k₁)) cs₁,w',mine⟩) (w:World) (γ:ab.aT cF) (hk:aZ (ah (aE c)) mine w0 [] w):
 bh (ah (aE c)) prog Stop false ⟨.idle,false,0,f+16,.aR (.has T) q⟩ γ ⟨Conc.G ((base 110).at ⟨#[.pointer (some ⟨c.st,0,none⟩),.agg #[.int .i64 (T:Int),.int .i64 F,.int .i64 E],.slice s (c.rows T) a9]++Array.replicate 27 undef,[]⟩ [.code (f110.body.getD .skip)]) (b₁.at a₁ (.inRegion aG (i₁::aP)::k₁)::cs₁),w,ck mine []⟩:=by
 have hF:=hk;have jT:=(aN (bR c)).og;have Y:prog.follows .mixedOrders=true:=BB;refine bh.seen (aN (bR c)) rfl fun γ _ R=>?_;have NR:=Zc R rfl;clear R;refine a5 (aN (bR c)) Js 200 _ _ γ Jt ?_;simp only[f110,Option.getD_some];walk_nrm
 repeat w_go aZ.on
 refine g6 rfl hF fun I o r y t X B n hF=>?_;refine tU AU jT rfl hF (stepG_value (v:=.pointer (some ⟨t.heap.size,0,none⟩)) (w':=t.alloc (.cells #[.int .i64 (T:Int),.int .i64 F,.int .i64 E] 187)) rfl rfl Bc BD) rfl Bb (fun z=>?_);clear hF;have hF:=z;clear z n B y o;generalize t.heap.size=b0 at hF⊢;generalize t.alloc (.cells #[.int .i64 (T:Int),.int .i64 F,.int .i64 E] 187)=w3 at hF⊢;refine a5 (aN (bR c)) Js 200 _ _ _ Jt ?_;walk_nrm
 repeat w_go aZ.on
 u_call func89 SW f89 aZ.on hF
 have L:∀b,(aE c).K b\/ck mine [(b0,.cells #[.int .i64 (T:Int),.int .i64 F,.int .i64 E] 187)] b->b≠(aE c).st:=fun b N e=>hF.fy b N (.inl e);refine Goes.stop (fun P K=>⟨rfl,fun Q _=>abl (f:=f+10) (bR c) (a:=.aR (.has T) q) K4 ok.d4 L (fun GA Ac J=>?_) P Q (U.refl _ _ _)⟩);replace hF:=(hF.on K).on J;clear K J L;refine a5 (aN (bR c)) Js 200 _ _ _ Jt ?_;walk_nrm
 repeat w_go aZ.on
 u_defer aZ.on hF
 repeat w_go aZ.on
 refine Goes.stop (fun I o=>⟨rfl,fun r y=>?_⟩);replace hF:=hF.on o;clear o y;refine Dg (Z:=ah (aE c)) (C:=I0 c mine w0 (b0,.cells #[.int .i64 (T:Int),.int .i64 F,.int .i64 E] 187)) AU Bc Y zS alX (σ:=mZ c mine w0 (ir.of r.am) ⟨.own,true,0,f+10,.aR (.has T) q⟩ [(b0,.cells #[.int .i64 (T:Int),.int .i64 F,.int .i64 E] 187)]) (jm:=va prog Stop false _ _ _ _ []) K3 ⟨_,_,_,rfl,rfl,rfl,Aa,rfl⟩ ?_ _ r ⟨hF,rfl⟩;walk_nrm
 refine cQ (i:=0) (v:=.pointer (some ⟨c.st,0,none⟩)) zS rfl AS AS AS (eh rfl (fun _=>BD) KL) ⟨_,_,_,rfl,rfl,rfl,Aa,rfl⟩ ?_;walk_nrm
 refine cQ (i:=1) (v:=.pointer (some ⟨c.st,0,none⟩)) zS rfl AS AS AS (eh rfl (fun _=>BD) KL) ⟨_,_,_,rfl,rfl,rfl,Aa,rfl⟩ ?_;walk_nrm
 refine cQ (i:=2) (v:=.pointer (some ⟨c.st,6,none⟩)) zS rfl AS AS AS (eh rfl (fun _=>BD) KL) ⟨_,_,_,rfl,rfl,rfl,Aa,rfl⟩ ?_;walk_nrm
 refine cQ (i:=3) (v:=.slice (some ⟨c.bG,0,none⟩) c.N jA) zS rfl AS AS AS (alY 4 rfl (fun x=>by simp[ok.zQ]) (fun w j=>⟨BD,AY⟩)) ⟨_,_,_,rfl,rfl,rfl,Aa,rfl⟩ ?_;walk_nrm
 refine cQ (i:=4) (v:=.pointer (some ⟨b0,0,none⟩)) zS rfl AS AS AS (eh rfl (fun _=>BD) KL) ⟨_,_,_,rfl,rfl,rfl,Aa,rfl⟩ ?_;walk_nrm
 refine cQ (i:=5) (v:=.int .i64 (T:Int)) zS rfl AS AS AS (alZ rfl (fun w ao=>?_)) ⟨_,_,_,rfl,rfl,rfl,Aa,rfl⟩ ?_
 ·have j:w.cell? ⟨b0,0,none⟩=some (.int .i64 (T:Int)):=by simp[World.cell?,ao]
  refine⟨BD,fun e he=>⟨0,?_⟩⟩;have W:=mem_listed he;simp[go_sem,j]at W;exact W
 walk_nrm
 refine cQ (i:=6) (v:=.slice s (c.rows T) a9) zS rfl AS AS AS (eh rfl (fun _=>BD) KL) ⟨_,_,_,rfl,rfl,rfl,Aa,rfl⟩ ?_;walk_nrm
 refine cQ (i:=7) (v:=.pointer (some ⟨c.bG,T,none⟩)) zS rfl AS AS AS (eh rfl (fun _=>BD) (fun _=>by simp[listed,go_sem,NR];rfl)) ⟨_,_,_,rfl,rfl,rfl,Aa,rfl⟩ ?_;walk_nrm
 refine ve (i:=8) AS (zR rfl rfl (al1 (f1:=f+9) (v:=.slice s (c.rows T) a9) rfl rfl rfl AU (fun w D V al=>?_) ⟨⟨_,_,_,rfl,rfl,rfl,Aa,rfl⟩,?_⟩))
 ·have j:w.cell? ⟨c.bG,T,none⟩=some D[T]:=by simp[World.cell?,V,al]
  have O:w.frozen? ⟨c.bG,T,none⟩=false:=by simp[World.frozen?,V]
  exact⟨BD,by simp[listed,go_sem];rw[Go.events_store _ _ _ _ _ _ rfl,j];simp[O];rfl⟩
 walk_nrm
 refine zO AS ?_ _;rintro I eF ⟨z,hd⟩;clear hF;have hF:=z;clear z;generalize(⟨(ir.of r.am).T,(ir.of r.am).M,(ir.of r.am).D.set T (.slice s (c.rows T) a9)⟩:ir)=d at hd;simp[mZ];refine a5 (aN (bR c)) Js 200 _ _ _ Jt ?_;walk_nrm
 repeat w_go aZ.on
 refine g6 rfl hF fun I o r y t X B n hF=>?_;replace hd:=(xE (c:=c) (l:=⟨.own,true,0,f+9,.aR (.lE T (.slice s (c.rows T) a9)) q⟩) rfl B).trans ((xE (c:=c) (l:=⟨.own,true,0,f+9,.aR (.lE T (.slice s (c.rows T) a9)) q⟩) rfl y).trans hd);clear y B o;have j:t.cell? ⟨c.st,5,none⟩=some (.int .i64 (d.M:Int)):=by rw[IY n.mt.1 3];subst hd;simp[ir.of]
 obtain⟨H,NN,JP⟩:∃H:Nat,IntKind.wrap .i64 ((d.M:Int)+(c.rows T:Int))=(H:Int)/\tx (H=d.M+c.rows T):=by have h1:=al0 n.sees rfl;have h2:=ok.tl;refine⟨d.M+c.rows T,?_,rfl⟩;subst hd;simp only[ir.of];rw[IntKind.wrap_i64];omega
 refine Y7 (k:=3) rfl rfl ((stepG_value (v:=.int .i64 (d.M:Int)) rfl rfl Bc BD).trans (congrArg (fun es=>GStep.go _ _ es) AY)) rfl ?_;clear j n;refine a5 (aN (bR c)) Js 200 _ _ _ Jt ?_;walk_nrm
 repeat w_go aZ.on
 refine g6 rfl hF fun I o r y t X B n hF=>?_;replace hd:=(xE (c:=c) (l:=⟨.own,true,0,f+9,.aR (.lE T (.slice s (c.rows T) a9)) q⟩) rfl B).trans ((xE (c:=c) (l:=⟨.own,true,0,f+9,.aR (.lE T (.slice s (c.rows T) a9)) q⟩) rfl y).trans hd);clear y B o;have j:t.cell? ⟨c.st,5,none⟩=some (.int .i64 (d.M:Int)):=by rw[IY n.mt.1 3];subst hd;simp[ir.of]
 have O:t.frozen? ⟨c.st,5,none⟩=false:=by simp[World.frozen?,n.mt.1,ic]
 refine alM (f1:=f+8) (p:=T) (v:=.slice s (c.rows T) a9) (q:=q) (u:=.int .i64 (H:Int)) n ((stepG_none rfl rfl Bc BD).trans (congrArg (fun es=>GStep.go _ _ es) (by simp[listed,go_sem,j,O];rfl))) rfl (by rw[tx.out JP];subst hd;rfl) rfl rfl rfl AU ?_;have z:=hF.shared (k:=c.st) (off:=5) (sp:=none) Jt (.int .i64 (H:Int));clear hF;have hF:=z;clear z j O n hd NN;dsimp only;generalize t.setCell ⟨c.st,5,none⟩ (.int .i64 (H:Int))=w4 at hF⊢;refine a5 (aN (bR c)) Js 200 _ _ _ Jt ?_;walk_nrm
 repeat w_go aZ.on
 u_in aZ.on hF
 rw[stepG_unwind_enter rfl func90 Jy rfl];simp only[goes_go];refine⟨FQ,?_⟩;walk_nrmf f90
 have L:∀b,(aE c).K b\/ck mine [(b0,.cells #[.int .i64 (T:Int),.int .i64 F,.int .i64 E] 187)] b->b≠(aE c).st:=fun b N e=>hF.fy b N (.inl e);refine Goes.stop (fun P K=>⟨rfl,fun Q JK=>S3 (A:=aE c) (f:=f) (bR c) (a:=.aR .free ((T,.slice s (c.rows T) a9)::q)) K4 ok.d4 L rfl rfl (fun GA Ac J=>?_) P Q (U.refl _ _ _)⟩);replace hF:=(hF.on K).on J;clear K J L;refine a5 (aN (bR c)) Js 200 _ _ _ Jt ?_;u_in aZ.on hF
 refine goes_leave0 rfl rfl func110 rfl ⟨FQ,?_⟩;refine Goes.stop (fun I o=>⟨rfl,fun r y=>?_⟩);replace hF:=hF.on o;exact bh.more hS (g8 I r hF.rw) (fun b N=>.inl N)
end
end
end gF
end Go.Proofs.YtoehnnefaeoeoaaGreat
