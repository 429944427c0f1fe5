import Derived.Test.YtmlddfohidhniaaGreatPAE
import Derived.Test.YtmlddfohidhniaaGreatPAJ
set_option linter.all false
set_option maxRecDepth 100000
set_option maxHeartbeats 16000000
namespace Go.Proofs.YtmlddfohidhniaaGreat
open Go.Proofs.Tryz
namespace wY
open Conc RowKit Conc.Lib ConcR.Gen ConcM bp cI bM
section
section
variable{Shun:uam}{Stop:uav}{st:Nat}
variable{a4:Frame}{aF:Act}{aC:eY}{aK:Nat}{aM:uaa}{aH:il}{csZ:fV}
def aqV{w:aS}{a:Addr}{v x:Value}(h:w.cell? a=some x):(w.setCell a v).cell? a=some v:=World.cell?_setCell_same _ _ _ h
def Q6{B:Nat}:oW Shun B ⟨.mark .disable,false,true⟩:=M7 AA _ _
def QU{B:Nat}:oW Shun B ⟨.mark .enable,false,true⟩:=M7 AA _ _
def aqW{B:Nat}(a:Addr):oW Shun B ⟨.mark (.acquire a),false,true⟩:=M7 AA _ _
def aqX{B:Nat}(a:Addr):oW Shun B ⟨.mark (.releaseMerge a),false,true⟩:=M7 AA _ _
def aqY{w:aS}(hc:w.cell? (.a st 0)=some (.int .i32 0))(g:w.frozen? ⟨st,0,none⟩=false)(l:Shun (.cell ⟨st,0,none⟩))(h:st<w.heap.size)(hk:eQ prog Shun Stop 0 (Conc.G (a4.at (aF.put ((aC[aK]?).bind (·.dst)) (.tuple #[])) (.inRegion aC aM::aH)) csZ) (w.setCell ⟨st,0,none⟩ (.int .i32 1))):
 eQ prog Shun Stop 0 (Conc.G ((base 90).at ⟨#[.P st 0,.U,.U,.U,.U,.U],[]⟩ [.code (f90.body.getD .skip)]) (a4.at aF (.inRegion aC (aK::aM)::aH)::csZ)) w:=by
 have hF:=atRel_refl w;simp[f90];refine l_ (R:=AtRel) Jy 300 _ _ ?_;repeat w_go dN
 u_call func114 NZ f114 dN hF
 repeat w_go dN
 refine vai (λc a=>?_);replace hF:=dN hF a;obtain⟨b,rfl⟩:=hF;clear a;refine oi Y (w1:=w.at b) (λk=>vbx .disable Ad Y Y Am Y func71 CE CF CG CH) (by simp[Q6]) JT ?_;have hF:AtRel w (w.at b):=⟨b,Y⟩;refine l_ (R:=AtRel) Jy 300 _ _ ?_;walk_nrm
 repeat w_go dN
 refine vai (λc a=>?_);replace hF:=dN hF a;obtain⟨b,rfl⟩:=hF;clear a;refine oi Y (w1:=(w.at b).setCell ⟨st,0,none⟩ (.int .i32 1)) (λk=>stepG_cas_hit Y Y Am Y func126 yp yq yr .i32 yt Y Y Y hc g) ?_ (vbr (ag.oO _ _ _).symm) ?_
 .rw[ag.oO];intro e i;simp at i;rcases i with rfl|rfl<;>exact ZF l h _
 have f:(w.setCell ⟨st,0,none⟩ (.int .i32 1)).cell? (.a st 0)=some (.int .i32 1):=aqV hc;generalize j:w.setCell ⟨st,0,none⟩ (.int .i32 1)=w2 at f hk;have hF:AtRel w2 ((w.at b).setCell ⟨st,0,none⟩ (.int .i32 1)):=⟨b,by rw[<-j];rfl⟩;have hsz:w.heap.size=w2.heap.size:=by rw[<-j,ag.oO]
 rw[hsz]at h;clear hc g hsz;generalize(w.at b).setCell ⟨st,0,none⟩ (.int .i32 1)=w3 at hF⊢;show eQ prog Shun Stop 1 _ _;refine l_ (R:=AtRel) Jy 300 _ _ ?_;walk_nrm
 repeat w_go dN
 refine vai (λc a=>?_);replace hF:=dN hF a;obtain⟨d,rfl⟩:=hF;clear a;refine oi Y (w1:=w2.at d) (λk=>vbx .enable Ad Y Y Am Y func72 qy qz qA qB) (by simp[QU]) JT ?_;show eQ prog Shun Stop 0 _ _;have hF:AtRel w2 (w2.at d):=⟨d,Y⟩;refine l_ (R:=AtRel) Jy 300 _ _ ?_;walk_nrm
 repeat w_go dN
 refine vai (λc a=>?_);replace hF:=dN hF a;obtain⟨d,rfl⟩:=hF;clear a;refine oi Y (w1:=w2.at d) (λk=>Ge Y Y Am Y Y f) Ad JT ?_;show eQ prog Shun Stop 0 _ _;have hF:AtRel w2 (w2.at d):=⟨d,Y⟩;refine l_ (R:=AtRel) Jy 300 _ _ ?_;walk_nrm
 repeat w_go dN
 refine vai (λc a=>?_);replace hF:=dN hF a;obtain⟨d,rfl⟩:=hF;clear a;refine oi Y (w1:=w2.at d) (es:=#[⟨.mark (.acquire ⟨st,0,none⟩),false,true⟩]) (λk=>vcu .acquire Ad Y Y Am Y func85 Ga Gb Gc Gd Bz) (by simp[aqW]) JT ?_;show eQ prog Shun Stop 0 _ _;have hF:AtRel w2 (w2.at d):=⟨d,Y⟩;refine l_ (R:=AtRel) Jy 300 _ _ ?_;walk_nrm
 repeat w_go dN
 u_leave0 func114 dN hF
 repeat w_go dN
 u_leave0 func90 dN hF
 refine vai (λc a=>?_);replace hF:=dN hF a;obtain⟨m,rfl⟩:=hF;exact hk.at m
end
end
section
section
variable{Shun:uam}{Stop:uav}{st:Nat}
variable{a4:Frame}{aF:Act}{aC:eY}{aK:Nat}{aM:uaa}{aH:il}{csZ:fV}
def aqZ{w:aS}{c:Frame}{cs:fV}(m:c.mode=.returning)(hc:w.cell? (.a st 0)=some (.int .i32 1))(g:w.frozen? ⟨st,0,none⟩=false)(j:Shun (.cell ⟨st,0,none⟩))(h:st<w.heap.size)(hk:eQ prog Shun Stop 0 (Conc.G c cs) (w.setCell ⟨st,0,none⟩ (.int .i32 0))):
 eQ prog Shun Stop 0 (Conc.G ((baseD 91).at ⟨#[.P st 0,.U,.U,.U,.U,.U],[]⟩ [.code (f91.body.getD .skip)]) (c::cs)) w:=by
 have hF:=atRel_refl w;simp[f91];refine l_ (R:=AtRel) Jy 300 _ _ ?_;repeat w_go dN
 u_call func115 NY f115 dN hF
 repeat w_go dN
 refine vai (λb a=>?_);replace hF:=dN hF a;obtain⟨d,rfl⟩:=hF;clear a;refine oi Y (w1:=w.at d) (λk=>Ar Y Y Am Y Y hc NW) Ad JT ?_;show eQ prog Shun Stop 0 _ _;have hF:AtRel w (w.at d):=⟨d,Y⟩;refine l_ (R:=AtRel) Jy 300 _ _ ?_;walk_nrm
 repeat w_go dN
 refine vai (λb a=>?_);replace hF:=dN hF a;obtain⟨d,rfl⟩:=hF;clear a;refine oi Y (w1:=w.at d) (λk=>Ge Y Y Am Y Y hc) Ad JT ?_;show eQ prog Shun Stop 0 _ _;have hF:AtRel w (w.at d):=⟨d,Y⟩;refine l_ (R:=AtRel) Jy 300 _ _ ?_;walk_nrm
 repeat w_go dN
 refine vai (λb a=>?_);replace hF:=dN hF a;obtain⟨d,rfl⟩:=hF;clear a;refine oi Y (w1:=w.at d) (es:=#[⟨.mark (.releaseMerge ⟨st,0,none⟩),false,true⟩]) (λk=>vcu .releaseMerge Ad Y Y Am Y func70 Tt Tu Tv Tw Bz) (by simp[aqX]) JT ?_;show eQ prog Shun Stop 0 _ _;have hF:AtRel w (w.at d):=⟨d,Y⟩;refine l_ (R:=AtRel) Jy 300 _ _ ?_;walk_nrm
 repeat w_go dN
 refine vai (λb a=>?_);replace hF:=dN hF a;obtain⟨d,rfl⟩:=hF;clear a;refine oi Y (w1:=w.at d) (λk=>vbx .disable Ad Y Y Am Y func71 CE CF CG CH) (by simp[Q6]) JT ?_;show eQ prog Shun Stop 1 _ _;have hF:AtRel w (w.at d):=⟨d,Y⟩;refine l_ (R:=AtRel) Jy 300 _ _ ?_;walk_nrm
 repeat w_go dN
 refine vai (λb a=>?_);replace hF:=dN hF a;obtain⟨f,rfl⟩:=hF;clear a;refine oi Y (w1:=(w.at f).setCell ⟨st,0,none⟩ (.int .i32 (IntKind.wrap .i32 (1+ -1)))) (λk=>vcw Y Y Am Y func128 JG JH JI .i32 JJ Y Y hc g) ?_ (vbr (ag.oO _ _ _).symm) ?_
 .rw[ag.oO];intro e i;simp at i;rcases i with rfl|rfl<;>exact ZF j h _
 rw[show IntKind.wrap .i32 (1+ -1)=0 from AX];generalize l:w.setCell ⟨st,0,none⟩ (.int .i32 0)=w2 at hk;have hF:AtRel w2 ((w.at f).setCell ⟨st,0,none⟩ (.int .i32 0)):=⟨f,by rw[<-l];rfl⟩;clear hc g h;generalize(w.at f).setCell ⟨st,0,none⟩ (.int .i32 0)=w3 at hF⊢;show eQ prog Shun Stop 1 _ _;refine l_ (R:=AtRel) Jy 300 _ _ ?_;walk_nrm
 repeat w_go dN
 refine vai (λb a=>?_);replace hF:=dN hF a;obtain⟨d,rfl⟩:=hF;clear a;refine oi Y (w1:=w2.at d) (λk=>vbx .enable Ad Y Y Am Y func72 qy qz qA qB) (by simp[QU]) JT ?_;show eQ prog Shun Stop 0 _ _;have hF:AtRel w2 (w2.at d):=⟨d,Y⟩;refine l_ (R:=AtRel) Jy 300 _ _ ?_;walk_nrm
 repeat w_go dN
 u_leave0 func115 dN hF
 repeat w_go dN
 u_in dN hF
 refine JW Y Y func91 Y m ⟨ED,?_⟩;refine vai (λb a=>?_);replace hF:=dN hF a;obtain⟨n,rfl⟩:=hF;exact hk.at n
