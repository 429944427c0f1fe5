import Derived.Test.YtncomcmfgmojkaaGreatPAD
import Derived.Test.YtncomcmfgmojkaaGreatPAK
set_option linter.all false
set_option maxRecDepth 100000
set_option maxHeartbeats 16000000
namespace Go.Proofs.YtncomcmfgmojkaaGreat
open Go.Proofs.Tryz
namespace wm
open Conc RowKit Conc.Lib ConcR.Gen ConcM bn cz bO
section
section
variable{Shun:Loc->Prop}{Stop:Nat->Goroutine->aO->Prop}{st:Nat}
variable{a2:Frame}{aF:Act}{aD:Array Oper}{aI:Nat}{aL:List Nat}{aH:List Item}{csZ:List Frame}
def apO{w:aO}{a:Addr}{v x:Value}(h:w.cell? a=some x):(w.setCell a v).cell? a=some v:=World.cell?_setCell_same _ _ _ h
def R4{B:Nat}:oK Shun B ⟨.mark .disable,false,true⟩:=MD AA _ _
def R2{B:Nat}:oK Shun B ⟨.mark .enable,false,true⟩:=MD AA _ _
def apP{B:Nat}(a:Addr):oK Shun B ⟨.mark (.acquire a),false,true⟩:=MD AA _ _
def apQ{B:Nat}(a:Addr):oK Shun B ⟨.mark (.releaseMerge a),false,true⟩:=MD AA _ _
def apR{w:aO}(f:w.cell? ⟨st,0,none⟩=some (.int .i32 0))(h:w.frozen? ⟨st,0,none⟩=false)(m:Shun (.cell ⟨st,0,none⟩))(i:st<w.heap.size)(hk:eB prog Shun Stop 0 (Conc.G (a2.at (aF.put ((aD[aI]?).bind (·.dst)) (.tuple #[])) (.inRegion aD aL::aH)) csZ) (w.setCell ⟨st,0,none⟩ (.int .i32 1))):
 eB prog Shun Stop 0 (Conc.G ((base 92).at ⟨#[.pointer (some ⟨st,0,none⟩),undef,undef,undef,undef,undef],[]⟩ [.code (f92.body.getD .skip)]) (a2.at aF (.inRegion aD (aI::aL)::aH)::csZ)) w:=by
 have hF:=atRel_refl w;simp[f92];refine lT (R:=AtRel) Ke 300 _ _ ?_;repeat w_go dJ
 u_call func116 S3 f116 dJ hF
 repeat w_go dJ
 refine Goes.stop (λc a=>?_);replace hF:=dJ hF a;obtain⟨b,rfl⟩:=hF;clear a;refine nX Y (w1:=w.at b) (λk=>stepG_mark0 .disable A_ Y Y BJ Y func73 Cq Cr Cs Ct) (by simp[R4]) J1 ?_;have hF:AtRel w (w.at b):=⟨b,Y⟩;refine lT (R:=AtRel) Ke 300 _ _ ?_;walk_nrm
 repeat w_go dJ
 refine Goes.stop (λc a=>?_);replace hF:=dJ hF a;obtain⟨b,rfl⟩:=hF;clear a;refine nX Y (w1:=(w.at b).setCell ⟨st,0,none⟩ (.int .i32 1)) (λk=>stepG_cas_hit Y Y BJ Y func128 xR xS xT .i32 xU Y Y Y f h) ?_ (Nat.le_of_eq (ah.oC _ _ _).symm) ?_
 .rw[ah.oC];intro e j;simp at j;rcases j with rfl|rfl<;>exact Zs m i _
 have g:(w.setCell ⟨st,0,none⟩ (.int .i32 1)).cell? ⟨st,0,none⟩=some (.int .i32 1):=apO f;generalize l:w.setCell ⟨st,0,none⟩ (.int .i32 1)=w2 at g hk;have hF:AtRel w2 ((w.at b).setCell ⟨st,0,none⟩ (.int .i32 1)):=⟨b,by rw[<-l];rfl⟩;have hsz:w.heap.size=w2.heap.size:=by rw[<-l,ah.oC]
 rw[hsz]at i;clear f h hsz;generalize(w.at b).setCell ⟨st,0,none⟩ (.int .i32 1)=w3 at hF⊢;show eB prog Shun Stop 1 _ _;refine lT (R:=AtRel) Ke 300 _ _ ?_;walk_nrm
 repeat w_go dJ
 refine Goes.stop (λc a=>?_);replace hF:=dJ hF a;obtain⟨d,rfl⟩:=hF;clear a;refine nX Y (w1:=w2.at d) (λk=>stepG_mark0 .enable A_ Y Y BJ Y func74 qy qz qA qB) (by simp[R2]) J1 ?_;show eB prog Shun Stop 0 _ _;have hF:AtRel w2 (w2.at d):=⟨d,Y⟩;refine lT (R:=AtRel) Ke 300 _ _ ?_;walk_nrm
 repeat w_go dJ
 refine Goes.stop (λc a=>?_);replace hF:=dJ hF a;obtain⟨d,rfl⟩:=hF;clear a;refine nX Y (w1:=w2.at d) (λk=>F7 Y Y BJ Y Y g) A_ J1 ?_;show eB prog Shun Stop 0 _ _;have hF:AtRel w2 (w2.at d):=⟨d,Y⟩;refine lT (R:=AtRel) Ke 300 _ _ ?_;walk_nrm
 repeat w_go dJ
 refine Goes.stop (λc a=>?_);replace hF:=dJ hF a;obtain⟨d,rfl⟩:=hF;clear a;refine nX Y (w1:=w2.at d) (es:=#[⟨.mark (.acquire ⟨st,0,none⟩),false,true⟩]) (λk=>stepG_markAt .acquire A_ Y Y BJ Y func87 F3 F4 F5 F6 B4) (by simp[apP]) J1 ?_;show eB prog Shun Stop 0 _ _;have hF:AtRel w2 (w2.at d):=⟨d,Y⟩;refine lT (R:=AtRel) Ke 300 _ _ ?_;walk_nrm
 repeat w_go dJ
 u_leave0 func116 dJ hF
 repeat w_go dJ
 u_leave0 func92 dJ hF
 refine Goes.stop (λc a=>?_);replace hF:=dJ hF a;obtain⟨n,rfl⟩:=hF;exact hk.at n
end
end
section
section
variable{Shun:Loc->Prop}{Stop:Nat->Goroutine->aO->Prop}{st:Nat}
variable{a2:Frame}{aF:Act}{aD:Array Oper}{aI:Nat}{aL:List Nat}{aH:List Item}{csZ:List Frame}
def apS{w:aO}{c:Frame}{cs:List Frame}(o:c.mode=.returning)(g:w.cell? ⟨st,0,none⟩=some (.int .i32 1))(h:w.frozen? ⟨st,0,none⟩=false)(l:Shun (.cell ⟨st,0,none⟩))(i:st<w.heap.size)(hk:eB prog Shun Stop 0 (Conc.G c cs) (w.setCell ⟨st,0,none⟩ (.int .i32 0))):
 eB prog Shun Stop 0 (Conc.G ((baseD 93).at ⟨#[.pointer (some ⟨st,0,none⟩),undef,undef,undef,undef,undef],[]⟩ [.code (f93.body.getD .skip)]) (c::cs)) w:=by
 have hF:=atRel_refl w;simp[f93];refine lT (R:=AtRel) Ke 300 _ _ ?_;repeat w_go dJ
 u_call func117 S2 f117 dJ hF
 repeat w_go dJ
 refine Goes.stop (λb a=>?_);replace hF:=dJ hF a;obtain⟨d,rfl⟩:=hF;clear a;refine nX Y (w1:=w.at d) (λk=>z_ Y Y BJ Y Y g SQ) A_ J1 ?_;show eB prog Shun Stop 0 _ _;have hF:AtRel w (w.at d):=⟨d,Y⟩;refine lT (R:=AtRel) Ke 300 _ _ ?_;walk_nrm
 repeat w_go dJ
 refine Goes.stop (λb a=>?_);replace hF:=dJ hF a;obtain⟨d,rfl⟩:=hF;clear a;refine nX Y (w1:=w.at d) (λk=>F7 Y Y BJ Y Y g) A_ J1 ?_;show eB prog Shun Stop 0 _ _;have hF:AtRel w (w.at d):=⟨d,Y⟩;refine lT (R:=AtRel) Ke 300 _ _ ?_;walk_nrm
 repeat w_go dJ
 refine Goes.stop (λb a=>?_);replace hF:=dJ hF a;obtain⟨d,rfl⟩:=hF;clear a;refine nX Y (w1:=w.at d) (es:=#[⟨.mark (.releaseMerge ⟨st,0,none⟩),false,true⟩]) (λk=>stepG_markAt .releaseMerge A_ Y Y BJ Y func72 Ti Tj Tk Tl B4) (by simp[apQ]) J1 ?_;show eB prog Shun Stop 0 _ _;have hF:AtRel w (w.at d):=⟨d,Y⟩;refine lT (R:=AtRel) Ke 300 _ _ ?_;walk_nrm
 repeat w_go dJ
 refine Goes.stop (λb a=>?_);replace hF:=dJ hF a;obtain⟨d,rfl⟩:=hF;clear a;refine nX Y (w1:=w.at d) (λk=>stepG_mark0 .disable A_ Y Y BJ Y func73 Cq Cr Cs Ct) (by simp[R4]) J1 ?_;show eB prog Shun Stop 1 _ _;have hF:AtRel w (w.at d):=⟨d,Y⟩;refine lT (R:=AtRel) Ke 300 _ _ ?_;walk_nrm
 repeat w_go dJ
 refine Goes.stop (λb a=>?_);replace hF:=dJ hF a;obtain⟨f,rfl⟩:=hF;clear a;refine nX Y (w1:=(w.at f).setCell ⟨st,0,none⟩ (.int .i32 (IntKind.wrap .i32 (1+ -1)))) (λk=>stepG_add_atomic Y Y BJ Y func130 I5 I6 I7 .i32 I8 Y Y g h) ?_ (Nat.le_of_eq (ah.oC _ _ _).symm) ?_
 .rw[ah.oC];intro e j;simp at j;rcases j with rfl|rfl<;>exact Zs l i _
 rw[show IntKind.wrap .i32 (1+ -1)=0 from Ae];generalize m:w.setCell ⟨st,0,none⟩ (.int .i32 0)=w2 at hk;have hF:AtRel w2 ((w.at f).setCell ⟨st,0,none⟩ (.int .i32 0)):=⟨f,by rw[<-m];rfl⟩;clear g h i;generalize(w.at f).setCell ⟨st,0,none⟩ (.int .i32 0)=w3 at hF⊢;show eB prog Shun Stop 1 _ _;refine lT (R:=AtRel) Ke 300 _ _ ?_;walk_nrm
 repeat w_go dJ
 refine Goes.stop (λb a=>?_);replace hF:=dJ hF a;obtain⟨d,rfl⟩:=hF;clear a;refine nX Y (w1:=w2.at d) (λk=>stepG_mark0 .enable A_ Y Y BJ Y func74 qy qz qA qB) (by simp[R2]) J1 ?_;show eB prog Shun Stop 0 _ _;have hF:AtRel w2 (w2.at d):=⟨d,Y⟩;refine lT (R:=AtRel) Ke 300 _ _ ?_;walk_nrm
 repeat w_go dJ
 u_leave0 func117 dJ hF
 repeat w_go dJ
 u_in dJ hF
 refine Jk Y Y func93 Y o ⟨E4,?_⟩;refine Goes.stop (λb a=>?_);replace hF:=dJ hF a;obtain⟨n,rfl⟩:=hF;exact hk.at n
end
end
end wm
end Go.Proofs.YtncomcmfgmojkaaGreat
