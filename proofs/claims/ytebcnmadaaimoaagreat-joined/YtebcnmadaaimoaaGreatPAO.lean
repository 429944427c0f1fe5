import Derived.Test.YtebcnmadaaimoaaGreatPAE
import Derived.Test.YtebcnmadaaimoaaGreatPAJ
set_option linter.all false
set_option maxRecDepth 100000
set_option maxHeartbeats 16000000
namespace Go.Proofs.YtebcnmadaaimoaaGreat
open Go.Proofs.Tryz
namespace xo
open Conc RowKit Conc.Lib ConcR.Gen ConcM bo cF bR
section
section
variable{Shun:uam}{Stop:uaw}{st:Nat}
variable{a2:Frame}{aF:Act}{aC:du}{aJ:Nat}{aO:e8}{aH:fC}{csZ:dZ}
def ar2{w:aL}{a:Addr}{v x:Value}(h:w.cell? a=some x):(w.setCell a v).cell? a=some v:=World.cell?_setCell_same _ _ _ h
def PU{B:Nat}:pk Shun B ⟨.mark .disable,false,true⟩:=Ny AF _ _
def PL{B:Nat}:pk Shun B ⟨.mark .enable,false,true⟩:=Ny AF _ _
def ar3{B:Nat}(a:Addr):pk Shun B ⟨.mark (.acquire a),false,true⟩:=Ny AF _ _
def ar4{B:Nat}(a:Addr):pk Shun B ⟨.mark (.releaseMerge a),false,true⟩:=Ny AF _ _
def ar5{w:aL}(f:w.cell? (.a st 0)=some (.int .i32 0))(h:w.frozen? ⟨st,0,none⟩=false)(m:Shun (.cell ⟨st,0,none⟩))(i:st<w.heap.size)(hk:eW prog Shun Stop 0 (Conc.G (a2.at (aF.put ((aC[aJ]?).bind (·.dst)) (.tuple #[])) (.inRegion aC aO::aH)) csZ) (w.setCell ⟨st,0,none⟩ (.int .i32 1))):
 eW prog Shun Stop 0 (Conc.G ((base 88).at ⟨#[.P st 0,.U,.U,.U,.U,.U],[]⟩ [.code (f88.body.getD .skip)]) (a2.at aF (.inRegion aC (aJ::aO)::aH)::csZ)) w:=by
 have hF:=atRel_refl w;simp[f88];refine mr (R:=AtRel) KF 300 _ _ ?_;repeat w_go d_
 u_call func112 Qs f112 d_ hF
 repeat w_go d_
 refine vah (λc a=>?_);replace hF:=d_ hF a;obtain⟨b,rfl⟩:=hF;clear a;refine oL U (w1:=w.at b) (λk=>vbu .disable Ab U U Ap U func69 Dg Dh Di Dj) (by simp[PU]) Jb ?_;have hF:AtRel w (w.at b):=⟨b,U⟩;refine mr (R:=AtRel) KF 300 _ _ ?_;walk_nrm
 repeat w_go d_
 refine vah (λc a=>?_);replace hF:=d_ hF a;obtain⟨b,rfl⟩:=hF;clear a;refine oL U (w1:=(w.at b).setCell ⟨st,0,none⟩ (.int .i32 1)) (λk=>stepG_cas_hit U U Ap U func124 y0 y1 y2 .i32 y3 U U U f h) ?_ (vbk (ag.nU _ _ _).symm) ?_
 .rw[ag.nU];intro e j;simp at j;rcases j with rfl|rfl<;>exact Ww m i _
 have g:(w.setCell ⟨st,0,none⟩ (.int .i32 1)).cell? (.a st 0)=some (.int .i32 1):=ar2 f;generalize l:w.setCell ⟨st,0,none⟩ (.int .i32 1)=w2 at g hk;have hF:AtRel w2 ((w.at b).setCell ⟨st,0,none⟩ (.int .i32 1)):=⟨b,by rw[<-l];rfl⟩;have hsz:w.heap.size=w2.heap.size:=by rw[<-l,ag.nU]
 rw[hsz]at i;clear f h hsz;generalize(w.at b).setCell ⟨st,0,none⟩ (.int .i32 1)=w3 at hF⊢;show eW prog Shun Stop 1 _ _;refine mr (R:=AtRel) KF 300 _ _ ?_;walk_nrm
 repeat w_go d_
 refine vah (λc a=>?_);replace hF:=d_ hF a;obtain⟨d,rfl⟩:=hF;clear a;refine oL U (w1:=w2.at d) (λk=>vbu .enable Ab U U Ap U func70 re rf rg rh) (by simp[PL]) Jb ?_;show eW prog Shun Stop 0 _ _;have hF:AtRel w2 (w2.at d):=⟨d,U⟩;refine mr (R:=AtRel) KF 300 _ _ ?_;walk_nrm
 repeat w_go d_
 refine vah (λc a=>?_);replace hF:=d_ hF a;obtain⟨d,rfl⟩:=hF;clear a;refine oL U (w1:=w2.at d) (λk=>GQ U U Ap U U g) Ab Jb ?_;show eW prog Shun Stop 0 _ _;have hF:AtRel w2 (w2.at d):=⟨d,U⟩;refine mr (R:=AtRel) KF 300 _ _ ?_;walk_nrm
 repeat w_go d_
 refine vah (λc a=>?_);replace hF:=d_ hF a;obtain⟨d,rfl⟩:=hF;clear a;refine oL U (w1:=w2.at d) (es:=#[⟨.mark (.acquire ⟨st,0,none⟩),false,true⟩]) (λk=>vcw .acquire Ab U U Ap U func83 GL GM GN GO Bn) (by simp[ar3]) Jb ?_;show eW prog Shun Stop 0 _ _;have hF:AtRel w2 (w2.at d):=⟨d,U⟩;refine mr (R:=AtRel) KF 300 _ _ ?_;walk_nrm
 repeat w_go d_
 u_leave0 func112 d_ hF
 repeat w_go d_
 u_leave0 func88 d_ hF
 refine vah (λc a=>?_);replace hF:=d_ hF a;obtain⟨n,rfl⟩:=hF;exact hk.at n
end
end
section
section
variable{Shun:uam}{Stop:uaw}{st:Nat}
variable{a2:Frame}{aF:Act}{aC:du}{aJ:Nat}{aO:e8}{aH:fC}{csZ:dZ}
def ar6{w:aL}{c:Frame}{cs:dZ}(o:c.mode=.returning)(g:w.cell? (.a st 0)=some (.int .i32 1))(h:w.frozen? ⟨st,0,none⟩=false)(l:Shun (.cell ⟨st,0,none⟩))(i:st<w.heap.size)(hk:eW prog Shun Stop 0 (Conc.G c cs) (w.setCell ⟨st,0,none⟩ (.int .i32 0))):
 eW prog Shun Stop 0 (Conc.G ((baseD 89).at ⟨#[.P st 0,.U,.U,.U,.U,.U],[]⟩ [.code (f89.body.getD .skip)]) (c::cs)) w:=by
 have hF:=atRel_refl w;simp[f89];refine mr (R:=AtRel) KF 300 _ _ ?_;repeat w_go d_
 u_call func113 Qr f113 d_ hF
 repeat w_go d_
 refine vah (λb a=>?_);replace hF:=d_ hF a;obtain⟨d,rfl⟩:=hF;clear a;refine oL U (w1:=w.at d) (λk=>Bi U U Ap U U g Qm) Ab Jb ?_;show eW prog Shun Stop 0 _ _;have hF:AtRel w (w.at d):=⟨d,U⟩;refine mr (R:=AtRel) KF 300 _ _ ?_;walk_nrm
 repeat w_go d_
 refine vah (λb a=>?_);replace hF:=d_ hF a;obtain⟨d,rfl⟩:=hF;clear a;refine oL U (w1:=w.at d) (λk=>GQ U U Ap U U g) Ab Jb ?_;show eW prog Shun Stop 0 _ _;have hF:AtRel w (w.at d):=⟨d,U⟩;refine mr (R:=AtRel) KF 300 _ _ ?_;walk_nrm
 repeat w_go d_
 refine vah (λb a=>?_);replace hF:=d_ hF a;obtain⟨d,rfl⟩:=hF;clear a;refine oL U (w1:=w.at d) (es:=#[⟨.mark (.releaseMerge ⟨st,0,none⟩),false,true⟩]) (λk=>vcw .releaseMerge Ab U U Ap U func68 TM TN TO TP Bn) (by simp[ar4]) Jb ?_;show eW prog Shun Stop 0 _ _;have hF:AtRel w (w.at d):=⟨d,U⟩;refine mr (R:=AtRel) KF 300 _ _ ?_;walk_nrm
 repeat w_go d_
 refine vah (λb a=>?_);replace hF:=d_ hF a;obtain⟨d,rfl⟩:=hF;clear a;refine oL U (w1:=w.at d) (λk=>vbu .disable Ab U U Ap U func69 Dg Dh Di Dj) (by simp[PU]) Jb ?_;show eW prog Shun Stop 1 _ _;have hF:AtRel w (w.at d):=⟨d,U⟩;refine mr (R:=AtRel) KF 300 _ _ ?_;walk_nrm
 repeat w_go d_
 refine vah (λb a=>?_);replace hF:=d_ hF a;obtain⟨f,rfl⟩:=hF;clear a;refine oL U (w1:=(w.at f).setCell ⟨st,0,none⟩ (.int .i32 (IntKind.wrap .i32 (1+ -1)))) (λk=>vda U U Ap U func126 J8 J9 J_ .i32 Ka U U g h) ?_ (vbk (ag.nU _ _ _).symm) ?_
 .rw[ag.nU];intro e j;simp at j;rcases j with rfl|rfl<;>exact Ww l i _
 rw[show IntKind.wrap .i32 (1+ -1)=0 from AU];generalize m:w.setCell ⟨st,0,none⟩ (.int .i32 0)=w2 at hk;have hF:AtRel w2 ((w.at f).setCell ⟨st,0,none⟩ (.int .i32 0)):=⟨f,by rw[<-m];rfl⟩;clear g h i;generalize(w.at f).setCell ⟨st,0,none⟩ (.int .i32 0)=w3 at hF⊢;show eW prog Shun Stop 1 _ _;refine mr (R:=AtRel) KF 300 _ _ ?_;walk_nrm
 repeat w_go d_
 refine vah (λb a=>?_);replace hF:=d_ hF a;obtain⟨d,rfl⟩:=hF;clear a;refine oL U (w1:=w2.at d) (λk=>vbu .enable Ab U U Ap U func70 re rf rg rh) (by simp[PL]) Jb ?_;show eW prog Shun Stop 0 _ _;have hF:AtRel w2 (w2.at d):=⟨d,U⟩;refine mr (R:=AtRel) KF 300 _ _ ?_;walk_nrm
 repeat w_go d_
 u_leave0 func113 d_ hF
 repeat w_go d_
 u_in d_ hF
 refine Km U U func89 U o ⟨CM,?_⟩;refine vah (λb a=>?_);replace hF:=d_ hF a;obtain⟨n,rfl⟩:=hF;exact hk.at n
