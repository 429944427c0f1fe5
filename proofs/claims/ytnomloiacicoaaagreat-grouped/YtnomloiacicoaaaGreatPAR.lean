import Derived.Test.YtnomloiacicoaaaGreatPAE
import Derived.Test.YtnomloiacicoaaaGreatPAK
set_option linter.all false
set_option maxRecDepth 100000
set_option maxHeartbeats 16000000
namespace Go.Proofs.YtnomloiacicoaaaGreat
open Tryz
namespace x0
open Conc RowKit Conc.Lib ConcR.Gen ConcM bj cV bQ
section
section
variable{Shun:ual}{Stop:uax}{st:Nat}
variable{a2:Frame}{aI:Act}{aC:fF}{aL:Nat}{aO:uac}{aK:uab}{csZ:hH}
def ar9{w:aR}{a v x}(h:w.cell? a=some x):(w.setCell a v).cell? a=some v:=World.cell?_setCell_same _ _ _ h
def YD{B}:pJ Shun B ⟨.mark .disable,false,true⟩:=Ob AA _ _
def YC{B}:pJ Shun B ⟨.mark .enable,false,true⟩:=Ob AA _ _
def ar_{B}a:pJ Shun B ⟨.mark (.acquire a),false,true⟩:=Ob AA _ _
def asa{B}a:pJ Shun B ⟨.mark (.releaseMerge a),false,true⟩:=Ob AA _ _
def asb{w}(f:w.cell? (.a st 0)=some (.int .i32 0))(g:w.frozen? ⟨st,0,none⟩=false)(m:Shun (.cell ⟨st,0,none⟩))(i:st<w.heap.size)(hk:e8 prog Shun Stop 0 (Conc.G (a2.at (aI.put ((aC[aL]?).bind (·.dst)) (.tuple #[])) (.inRegion aC aO::aK)) csZ) (w.setCell ⟨st,0,none⟩ (.int .i32 1))):
 e8 prog Shun Stop 0 (Conc.G ((base 88).at ⟨#[.P st 0,.U,.U,.U,.U,.U],[]⟩ [.code (f88.body.getD .skip)]) (a2.at aI (.inRegion aC (aL::aO)::aK)::csZ)) w:=by
 have hF:=atRel_refl w;simp[f88];refine mR (R:=AtRel) Ju 300 _ _ ?_;repeat w_go eh
 u_call func112 Zs f112 eh hF
 repeat w_go eh
 refine vaj (λc a=>?_);replace hF:=eh hF a;obtain⟨b,rfl⟩:=hF;clear a;refine o7 Y (w1:=w.at b) (λk=>vbz .disable AS Y Y An Y func69 DT DU DV DW) (by simp[YD]) JR ?_;have hF:AtRel w (w.at b):=⟨b,Y⟩;refine mR (R:=AtRel) Ju 300 _ _ ?_;walk_nrm
 repeat w_go eh
 refine vaj (λc a=>?_);replace hF:=eh hF a;obtain⟨b,rfl⟩:=hF;clear a;refine o7 Y (w1:=(w.at b).setCell ⟨st,0,none⟩ (.int .i32 1)) (λk=>stepG_cas_hit Y Y An Y func124 zj zk zl .i32 zm Y Y Y f g) ?_ (Nat.le_of_eq (ah.oq _ _ _).symm) ?_
 .rw[ah.oq];intro e j;simp at j;rcases j with rfl|rfl<;>exact abP m i _
 have h:(w.setCell ⟨st,0,none⟩ (.int .i32 1)).cell? (.a st 0)=some (.int .i32 1):=ar9 f;generalize l:w.setCell ⟨st,0,none⟩ (.int .i32 1)=w2 at h hk;have hF:AtRel w2 ((w.at b).setCell ⟨st,0,none⟩ (.int .i32 1)):=⟨b,by rw[<-l];rfl⟩;have hsz:w.heap.size=w2.heap.size:=by rw[<-l,ah.oq]
 rw[hsz]at i;clear f g hsz;generalize(w.at b).setCell ⟨st,0,none⟩ (.int .i32 1)=w3 at hF⊢;show e8 prog Shun Stop 1 _ _;refine mR (R:=AtRel) Ju 300 _ _ ?_;walk_nrm
 repeat w_go eh
 refine vaj (λc a=>?_);replace hF:=eh hF a;obtain⟨d,rfl⟩:=hF;clear a;refine o7 Y (w1:=w2.at d) (λk=>vbz .enable AS Y Y An Y func70 rJ rK rL rM) (by simp[YC]) JR ?_;show e8 prog Shun Stop 0 _ _;have hF:AtRel w2 (w2.at d):=⟨d,Y⟩;refine mR (R:=AtRel) Ju 300 _ _ ?_;walk_nrm
 repeat w_go eh
 refine vaj (λc a=>?_);replace hF:=eh hF a;obtain⟨d,rfl⟩:=hF;clear a;refine o7 Y (w1:=w2.at d) (λk=>Hs Y Y An Y Y h) AS JR ?_;show e8 prog Shun Stop 0 _ _;have hF:AtRel w2 (w2.at d):=⟨d,Y⟩;refine mR (R:=AtRel) Ju 300 _ _ ?_;walk_nrm
 repeat w_go eh
 refine vaj (λc a=>?_);replace hF:=eh hF a;obtain⟨d,rfl⟩:=hF;clear a;refine o7 Y (w1:=w2.at d) (es:=#[⟨.mark (.acquire ⟨st,0,none⟩),false,true⟩]) (λk=>vcq .acquire AS Y Y An Y func83 Ho Hp Hq Hr Bk) (by simp[ar_]) JR ?_;show e8 prog Shun Stop 0 _ _;have hF:AtRel w2 (w2.at d):=⟨d,Y⟩;refine mR (R:=AtRel) Ju 300 _ _ ?_;walk_nrm
 repeat w_go eh
 u_leave0 func112 eh hF
 repeat w_go eh
 u_leave0 func88 eh hF
 refine vaj (λc a=>?_);replace hF:=eh hF a;obtain⟨n,rfl⟩:=hF;exact hk.at n
end
end
section
section
variable{Shun:ual}{Stop:uax}{st:Nat}
variable{a2:Frame}{aI:Act}{aC:fF}{aL:Nat}{aO:uac}{aK:uab}{csZ:hH}
def asc{w:aR}{c:Frame}{cs:hH}(n:c.mode=.returning)(g:w.cell? (.a st 0)=some (.int .i32 1))(h:w.frozen? ⟨st,0,none⟩=false)(l:Shun (.cell ⟨st,0,none⟩))(i:st<w.heap.size)(hk:e8 prog Shun Stop 0 (Conc.G c cs) (w.setCell ⟨st,0,none⟩ (.int .i32 0))):
 e8 prog Shun Stop 0 (Conc.G ((baseD 89).at ⟨#[.P st 0,.U,.U,.U,.U,.U],[]⟩ [.code (f89.body.getD .skip)]) (c::cs)) w:=by
 have hF:=atRel_refl w;simp[f89];refine mR (R:=AtRel) Ju 300 _ _ ?_;repeat w_go eh
 u_call func113 Zr f113 eh hF
 repeat w_go eh
 refine vaj (λb a=>?_);replace hF:=eh hF a;obtain⟨d,rfl⟩:=hF;clear a;refine o7 Y (w1:=w.at d) (λk=>Br Y Y An Y Y g Zl) AS JR ?_;show e8 prog Shun Stop 0 _ _;have hF:AtRel w (w.at d):=⟨d,Y⟩;refine mR (R:=AtRel) Ju 300 _ _ ?_;walk_nrm
 repeat w_go eh
 refine vaj (λb a=>?_);replace hF:=eh hF a;obtain⟨d,rfl⟩:=hF;clear a;refine o7 Y (w1:=w.at d) (λk=>Hs Y Y An Y Y g) AS JR ?_;show e8 prog Shun Stop 0 _ _;have hF:AtRel w (w.at d):=⟨d,Y⟩;refine mR (R:=AtRel) Ju 300 _ _ ?_;walk_nrm
 repeat w_go eh
 refine vaj (λb a=>?_);replace hF:=eh hF a;obtain⟨d,rfl⟩:=hF;clear a;refine o7 Y (w1:=w.at d) (es:=#[⟨.mark (.releaseMerge ⟨st,0,none⟩),false,true⟩]) (λk=>vcq .releaseMerge AS Y Y An Y func68 UU UV UW UX Bk) (by simp[asa]) JR ?_;show e8 prog Shun Stop 0 _ _;have hF:AtRel w (w.at d):=⟨d,Y⟩;refine mR (R:=AtRel) Ju 300 _ _ ?_;walk_nrm
 repeat w_go eh
 refine vaj (λb a=>?_);replace hF:=eh hF a;obtain⟨d,rfl⟩:=hF;clear a;refine o7 Y (w1:=w.at d) (λk=>vbz .disable AS Y Y An Y func69 DT DU DV DW) (by simp[YD]) JR ?_;show e8 prog Shun Stop 1 _ _;have hF:AtRel w (w.at d):=⟨d,Y⟩;refine mR (R:=AtRel) Ju 300 _ _ ?_;walk_nrm
 repeat w_go eh
 refine vaj (λb a=>?_);replace hF:=eh hF a;obtain⟨f,rfl⟩:=hF;clear a;refine o7 Y (w1:=(w.at f).setCell ⟨st,0,none⟩ (.int .i32 (IntKind.wrap .i32 (1+ -1)))) (λk=>vcu Y Y An Y func126 Ku Kv Kw .i32 Kx Y Y g h) ?_ (Nat.le_of_eq (ah.oq _ _ _).symm) ?_
 .rw[ah.oq];intro e j;simp at j;rcases j with rfl|rfl<;>exact abP l i _
 rw[show IntKind.wrap .i32 (1+ -1)=0 from AF];generalize m:w.setCell ⟨st,0,none⟩ (.int .i32 0)=w2 at hk;have hF:AtRel w2 ((w.at f).setCell ⟨st,0,none⟩ (.int .i32 0)):=⟨f,by rw[<-m];rfl⟩;clear g h i;generalize(w.at f).setCell ⟨st,0,none⟩ (.int .i32 0)=w3 at hF⊢;show e8 prog Shun Stop 1 _ _;refine mR (R:=AtRel) Ju 300 _ _ ?_;walk_nrm
 repeat w_go eh
 refine vaj (λb a=>?_);replace hF:=eh hF a;obtain⟨d,rfl⟩:=hF;clear a;refine o7 Y (w1:=w2.at d) (λk=>vbz .enable AS Y Y An Y func70 rJ rK rL rM) (by simp[YC]) JR ?_;show e8 prog Shun Stop 0 _ _;have hF:AtRel w2 (w2.at d):=⟨d,Y⟩;refine mR (R:=AtRel) Ju 300 _ _ ?_;walk_nrm
 repeat w_go eh
 u_leave0 func113 eh hF
 repeat w_go eh
 u_in eh hF
 refine KK Y Y func89 Y n ⟨DN,?_⟩;refine vaj (λb a=>?_);replace hF:=eh hF a;obtain⟨o,rfl⟩:=hF;exact hk.at o
