import Derived.Test.YtcjlmniddnnieaaGreatPAD
import Derived.Test.YtcjlmniddnnieaaGreatPAK
set_option linter.all false
set_option maxRecDepth 100000
set_option maxHeartbeats 16000000
namespace Go.Proofs.YtcjlmniddnnieaaGreat
open Tryz
namespace uG
open Conc RowKit Conc.Lib ConcR.Gen ConcM bn cC bz
section
section
variable{Shun:uai}{Stop:uav}{st:Nat}
variable{a2:Frame}{aD:Act}{aB:fC}{aJ:Nat}{aL:uad}{aG:uaa}{csZ:fG}
def ar_{w:aH}{a:Addr}{v x:Value}(h:w.cell? a=some x):(w.setCell a v).cell? a=some v:=World.cell?_setCell_same _ _ _ h
def Xd{B:Nat}:pq Shun B ⟨.mark .disable,false,true⟩:=Oe AJ _ _
def W_{B:Nat}:pq Shun B ⟨.mark .enable,false,true⟩:=Oe AJ _ _
def asa{B:Nat}(a:Addr):pq Shun B ⟨.mark (.acquire a),false,true⟩:=Oe AJ _ _
def asb{B:Nat}(a:Addr):pq Shun B ⟨.mark (.releaseMerge a),false,true⟩:=Oe AJ _ _
def Wx{w:aH}(f:w.cell? (.a st 0)=some (.int .i32 0))(h:w.frozen? ⟨st,0,none⟩=false)(m:Shun (.cell ⟨st,0,none⟩))(i:st<w.heap.size)(hk:en prog Shun Stop 0 (Conc.G (a2.at (aD.put ((aB[aJ]?).bind (·.dst)) (.tuple #[])) (.inRegion aB aL::aG)) csZ) (w.setCell ⟨st,0,none⟩ (.int .i32 1))):
 en prog Shun Stop 0 (Conc.G ((base 90).at ⟨#[.P st 0,.U,.U,.U,.U,.U],[]⟩ [.code (f90.body.getD .skip)]) (a2.at aD (.inRegion aB (aJ::aL)::aG)::csZ)) w:=by
 have hF:=atRel_refl w;simp[f90];refine jP (R:=AtRel) Ko 300 _ _ ?_;repeat w_go cL
 u_call func114 Vu f114 cL hF
 repeat w_go cL
 refine vag (λc a=>?_);replace hF:=cL hF a;obtain⟨b,rfl⟩:=hF;clear a;refine mD Y (w1:=w.at b) (λk=>vbu .disable AQ Y Y Ag Y func71 Du Dv Dw Dx) (by simp[Xd]) Kj ?_;have hF:AtRel w (w.at b):=⟨b,Y⟩;refine jP (R:=AtRel) Ko 300 _ _ ?_;walk_nrm
 repeat w_go cL
 refine vag (λc a=>?_);replace hF:=cL hF a;obtain⟨b,rfl⟩:=hF;clear a;refine mD Y (w1:=(w.at b).setCell ⟨st,0,none⟩ (.int .i32 1)) (λk=>stepG_cas_hit Y Y Ag Y func126 zk zl zm .i32 zn Y Y Y f h) ?_ (vdv (ai.mq _ _ _).symm) ?_
 .rw[ai.mq];intro e j;simp at j;rcases j with rfl|rfl<;>exact ab6 m i _
 have g:(w.setCell ⟨st,0,none⟩ (.int .i32 1)).cell? (.a st 0)=some (.int .i32 1):=ar_ f;generalize l:w.setCell ⟨st,0,none⟩ (.int .i32 1)=w2 at g hk;have hF:AtRel w2 ((w.at b).setCell ⟨st,0,none⟩ (.int .i32 1)):=⟨b,by rw[<-l];rfl⟩;have hsz:w.heap.size=w2.heap.size:=by rw[<-l,ai.mq]
 rw[hsz]at i;clear f h hsz;generalize(w.at b).setCell ⟨st,0,none⟩ (.int .i32 1)=w3 at hF⊢;show en prog Shun Stop 1 _ _;refine jP (R:=AtRel) Ko 300 _ _ ?_;walk_nrm
 repeat w_go cL
 refine vag (λc a=>?_);replace hF:=cL hF a;obtain⟨d,rfl⟩:=hF;clear a;refine mD Y (w1:=w2.at d) (λk=>vbu .enable AQ Y Y Ag Y func72 rm rn rp rq) (by simp[W_]) Kj ?_;show en prog Shun Stop 0 _ _;have hF:AtRel w2 (w2.at d):=⟨d,Y⟩;refine jP (R:=AtRel) Ko 300 _ _ ?_;walk_nrm
 repeat w_go cL
 refine vag (λc a=>?_);replace hF:=cL hF a;obtain⟨d,rfl⟩:=hF;clear a;refine mD Y (w1:=w2.at d) (λk=>GY Y Y Ag Y Y g) AQ Kj ?_;show en prog Shun Stop 0 _ _;have hF:AtRel w2 (w2.at d):=⟨d,Y⟩;refine jP (R:=AtRel) Ko 300 _ _ ?_;walk_nrm
 repeat w_go cL
 refine vag (λc a=>?_);replace hF:=cL hF a;obtain⟨d,rfl⟩:=hF;clear a;refine mD Y (w1:=w2.at d) (es:=#[⟨.mark (.acquire ⟨st,0,none⟩),false,true⟩]) (λk=>vck .acquire AQ Y Y Ag Y func85 GR GU GV GX Bi) (by simp[asa]) Kj ?_;show en prog Shun Stop 0 _ _;have hF:AtRel w2 (w2.at d):=⟨d,Y⟩;refine jP (R:=AtRel) Ko 300 _ _ ?_;walk_nrm
 repeat w_go cL
 u_leave0 func114 cL hF
 repeat w_go cL
 u_leave0 func90 cL hF
 refine vag (λc a=>?_);replace hF:=cL hF a;obtain⟨n,rfl⟩:=hF;exact hk.at n
end
end
section
section
variable{Shun:uai}{Stop:uav}{st:Nat}
variable{a2:Frame}{aD:Act}{aB:fC}{aJ:Nat}{aL:uad}{aG:uaa}{csZ:fG}
def Ww{w:aH}{c:Frame}{cs:fG}(l:c.mode=.returning)(g:w.cell? (.a st 0)=some (.int .i32 1))(h:w.frozen? ⟨st,0,none⟩=false)(m:Shun (.cell ⟨st,0,none⟩))(i:st<w.heap.size)(hk:en prog Shun Stop 0 (Conc.G c cs) (w.setCell ⟨st,0,none⟩ (.int .i32 0))):
 en prog Shun Stop 0 (Conc.G ((baseD 91).at ⟨#[.P st 0,.U,.U,.U,.U,.U],[]⟩ [.code (f91.body.getD .skip)]) (c::cs)) w:=by
 have hF:=atRel_refl w;simp[f91];refine jP (R:=AtRel) Ko 300 _ _ ?_;repeat w_go cL
 u_call func115 Vt f115 cL hF
 repeat w_go cL
 refine vag (λb a=>?_);replace hF:=cL hF a;obtain⟨d,rfl⟩:=hF;clear a;refine mD Y (w1:=w.at d) (λk=>Bo Y Y Ag Y Y g Ve) AQ Kj ?_;show en prog Shun Stop 0 _ _;have hF:AtRel w (w.at d):=⟨d,Y⟩;refine jP (R:=AtRel) Ko 300 _ _ ?_;walk_nrm
 repeat w_go cL
 refine vag (λb a=>?_);replace hF:=cL hF a;obtain⟨d,rfl⟩:=hF;clear a;refine mD Y (w1:=w.at d) (λk=>GY Y Y Ag Y Y g) AQ Kj ?_;show en prog Shun Stop 0 _ _;have hF:AtRel w (w.at d):=⟨d,Y⟩;refine jP (R:=AtRel) Ko 300 _ _ ?_;walk_nrm
 repeat w_go cL
 refine vag (λb a=>?_);replace hF:=cL hF a;obtain⟨d,rfl⟩:=hF;clear a;refine mD Y (w1:=w.at d) (es:=#[⟨.mark (.releaseMerge ⟨st,0,none⟩),false,true⟩]) (λk=>vck .releaseMerge AQ Y Y Ag Y func70 UD UE UF UG Bi) (by simp[asb]) Kj ?_;show en prog Shun Stop 0 _ _;have hF:AtRel w (w.at d):=⟨d,Y⟩;refine jP (R:=AtRel) Ko 300 _ _ ?_;walk_nrm
 repeat w_go cL
 refine vag (λb a=>?_);replace hF:=cL hF a;obtain⟨d,rfl⟩:=hF;clear a;refine mD Y (w1:=w.at d) (λk=>vbu .disable AQ Y Y Ag Y func71 Du Dv Dw Dx) (by simp[Xd]) Kj ?_;show en prog Shun Stop 1 _ _;have hF:AtRel w (w.at d):=⟨d,Y⟩;refine jP (R:=AtRel) Ko 300 _ _ ?_;walk_nrm
 repeat w_go cL
 refine vag (λb a=>?_);replace hF:=cL hF a;obtain⟨f,rfl⟩:=hF;clear a;refine mD Y (w1:=(w.at f).setCell ⟨st,0,none⟩ (.int .i32 (IntKind.wrap .i32 (1+ -1)))) (λk=>stepG_add_atomic Y Y Ag Y func128 Kr Ks Kt .i32 Ku Y Y g h) ?_ (vdv (ai.mq _ _ _).symm) ?_
 .rw[ai.mq];intro e j;simp at j;rcases j with rfl|rfl<;>exact ab6 m i _
 rw[show IntKind.wrap .i32 (1+ -1)=0 from AU];generalize n:w.setCell ⟨st,0,none⟩ (.int .i32 0)=w2 at hk;have hF:AtRel w2 ((w.at f).setCell ⟨st,0,none⟩ (.int .i32 0)):=⟨f,by rw[<-n];rfl⟩;clear g h i;generalize(w.at f).setCell ⟨st,0,none⟩ (.int .i32 0)=w3 at hF⊢;show en prog Shun Stop 1 _ _;refine jP (R:=AtRel) Ko 300 _ _ ?_;walk_nrm
 repeat w_go cL
 refine vag (λb a=>?_);replace hF:=cL hF a;obtain⟨d,rfl⟩:=hF;clear a;refine mD Y (w1:=w2.at d) (λk=>vbu .enable AQ Y Y Ag Y func72 rm rn rp rq) (by simp[W_]) Kj ?_;show en prog Shun Stop 0 _ _;have hF:AtRel w2 (w2.at d):=⟨d,Y⟩;refine jP (R:=AtRel) Ko 300 _ _ ?_;walk_nrm
 repeat w_go cL
 u_leave0 func115 cL hF
 repeat w_go cL
 u_in cL hF
 refine KH Y Y func91 Y l ⟨CP,?_⟩;refine vag (λb a=>?_);replace hF:=cL hF a;obtain⟨o,rfl⟩:=hF;exact hk.at o
