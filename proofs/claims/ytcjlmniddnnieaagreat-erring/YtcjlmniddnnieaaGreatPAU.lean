import Derived.Test.YtcjlmniddnnieaaGreatPAQ
import Derived.Test.YtcjlmniddnnieaaGreatPAR
import Derived.Test.YtcjlmniddnnieaaGreatPAS
set_option linter.all false
set_option maxRecDepth 100000
set_option maxHeartbeats 16000000
namespace Go.Proofs.YtcjlmniddnnieaaGreat
open Tryz
namespace m8
open Conc RowKit Conc.Lib ConcR.Gen ConcM bn cC uG bz
theorem Qh:f55.nn=false:=AS
theorem P9:f92.nn=false:=AS
section
variable{Shun:uai}{Stop:uav}
variable{a2:Frame}{aD:Act}{aB:fC}{aJ:Nat}{aL:uad}{aG:uaa}{csZ:fG}
def U8(Shun:uai)(Stop:uav)(f:uah)(args:fi)(w:aH)(V:fX):Prop:=
 ∀(OI:Frame)(a₂:Act)(KJ:fC)(OJ:Nat)(OK:uad)(k₂:uaa)(OL:fG),
  (∀u w',V u w'->en prog Shun Stop 0 (Conc.G (OI.at (a₂.put ((KJ[OJ]?).bind (·.dst)) u) (.inRegion KJ OK::k₂)) OL) w')->
  en prog Shun Stop 0 (Conc.G (Frame.enter prog f args .normal) (OI.at a₂ (.inRegion KJ (OJ::OK)::k₂)::OL)) w
def asT{st h dp wg W:Nat}{M dn dB L O fm eO fo fp fq Z fI Y X U T S Q P dr x j_ l7 r:Value}{w:aH}{V:fX}(o:w.heap[st]?=some (Obj.cells #[.int .i32 0,.int .u32 0,dr,x,j_,l7,r,.N] 173))(y:w.heap[h]?=some (.cells #[.P st 0] 125))(N:h≠st)(Gd:∃a n c,r=.slice a n c)(lQ:∀off sp,2<=off->¬Shun (.cell ⟨st,off,sp⟩))(t:Shun (.cell ⟨st,0,none⟩))(U9:¬Shun (.cell ⟨h,0,none⟩))(C:U8 Shun Stop 92 #[r] (w.setCell ⟨st,0,none⟩ (.int .i32 1)) (λu w'=>V u w'/\(∃a n c,u=.slice a n c)/\w'.heap[st]?=(w.setCell ⟨st,0,none⟩ (.int .i32 1)).heap[st]?/\w.heap.size<=w'.heap.size))(hk:∀u w',V u w'->en prog Shun Stop 0 (Conc.G (a2.at (aD.put ((aB[aJ]?).bind (·.dst)) (.tuple #[u,.N])) (.inRegion aB aL::aG)) csZ) (w'.setCell ⟨st,0,none⟩ (.int .i32 0))):
 en prog Shun Stop 0 (Conc.G ((base 37).at ⟨#[M,dn,dB,.P dp 0,L,O,.P h 0,.P wg 0,fm,eO,fo,fp,fq,Z,.I (W:Int),.I (W:Int),fI,Y,X,U,.tuple #[],T,S,Q,P],[]⟩ [.inRegion (bz.mE ((bz.dJ 8 (f37.body.getD .skip)).getD .skip)) [],.code (bz.kC ((bz.dJ 8 (f37.body.getD .skip)).getD .skip))]) (a2.at aD (.inRegion aB (aJ::aL)::aG)::csZ)) w:=by
 obtain⟨sa,m,l,rfl⟩:=Gd;have KK:st<w.heap.size:=(vaj.1 o).1;have U_:h<w.heap.size:=(vaj.1 y).1;have D:w.cell? (.a h 0)=some (.P st 0):=GO;have E:w.cell? (.a st 0)=some (.int .i32 0):=by simp[World.cell?,o]
 have H:w.frozen? ⟨st,0,none⟩=false:=by simp[World.frozen?,o]
 have p:(w.setCell ⟨st,0,none⟩ (.int .i32 1)).heap[st]?=some (Obj.cells #[.int .i32 1,.int .u32 0,dr,x,j_,l7,.slice sa m l,.N] 173):=by simp[World.setCell,vaz,o]
 have hF:=atRel_refl w;simp[f37,bz.dJ,bz.kC,bz.mE];refine jP (R:=AtRel) Ko 300 _ _ ?_;repeat w_go cL
 refine vag (λg f=>?_);replace hF:=cL hF f;obtain⟨d,rfl⟩:=hF;clear f;refine mD rfl (w1:=w.at d) (es:=#[⟨.cell ⟨h,0,none⟩,false,false⟩]) (λk=>(vaq (v:=.P st 0) rfl rfl Ag (by have j:((w.at d).at k).cell? (.a h 0)=some (.P st 0):=D;go_simp)).trans (vbp (λes=>GStep.go _ _ es) (by have j:((w.at d).at k).cell? (.a h 0)=some (.P st 0):=D;simp[listed,go_sem,j];rfl))) ?_ Kj ?_
 .intro e i;simp at i;subst i;exact Bj U9 U_ _
 show en prog Shun Stop 0 _ _;have hF:AtRel w (w.at d):=⟨d,rfl⟩;refine jP (R:=AtRel) Ko 300 _ _ ?_;walk_nrm
 repeat w_go cL
 u_call func55 Qh f55 cL hF
 repeat w_go cL
 u_call func90 bz.Kv f90 cL hF
 refine vag (λg f=>?_);replace hF:=cL hF f;obtain⟨d,rfl⟩:=hF;clear f;refine Wx (w:=w.at d) E H t KK ?_;have hF:AtRel (w.setCell ⟨st,0,none⟩ (.int .i32 1)) ((w.at d).setCell ⟨st,0,none⟩ (.int .i32 1)):=⟨d,rfl⟩;have hsz:(w.setCell ⟨st,0,none⟩ (.int .i32 1)).heap.size=w.heap.size:=ai.mq _ _ _;generalize w.setCell ⟨st,0,none⟩ (.int .i32 1)=w2 at hF C p hsz;generalize(w.at d).setCell ⟨st,0,none⟩ (.int .i32 1)=w3 at hF⊢;have z:st<w2.heap.size:=AP;have s:w2.cell? (.a st 7)=some (.N):=by simp[World.cell?,p]
 have B:w2.cell? (.a st 6)=some (.slice sa m l):=by simp[World.cell?,p]
 refine jP (R:=AtRel) Ko 300 _ _ ?_;walk_nrm
 repeat w_go cL
 u_defer cL hF
 repeat w_go cL
 refine vag (λg f=>?_);replace hF:=cL hF f;obtain⟨d,rfl⟩:=hF;clear f;refine mD rfl (w1:=w2.at d) (es:=#[⟨.cell ⟨st,7,none⟩,false,false⟩]) (λk=>(vaq (v:=.N) rfl rfl Ag (by have j:((w2.at d).at k).cell? (.a st 7)=some (.N):=s;go_simp)).trans (vbp (λes=>GStep.go _ _ es) (by have j:((w2.at d).at k).cell? (.a st 7)=some (.N):=s;simp[listed,go_sem,j];rfl))) ?_ Kj ?_
 .intro e i;simp at i;subst i;exact Bj AJ z _
 show en prog Shun Stop 0 _ _;have hF:AtRel w2 (w2.at d):=⟨d,rfl⟩;refine jP (R:=AtRel) Ko 300 _ _ ?_;walk_nrm
 repeat w_go cL
 refine vag (λg f=>?_);replace hF:=cL hF f;obtain⟨d,rfl⟩:=hF;clear f;refine mD rfl (w1:=w2.at d) (es:=#[]) (λk=>(vaq (v:=.F) rfl rfl Ag CE).trans (vbp (λes=>GStep.go _ _ es) BK)) AQ Kj ?_;show en prog Shun Stop 0 _ _;have hF:AtRel w2 (w2.at d):=⟨d,rfl⟩;refine jP (R:=AtRel) Ko 300 _ _ ?_;walk_nrm
 repeat w_go cL
 refine vag (λg f=>?_);replace hF:=cL hF f;obtain⟨d,rfl⟩:=hF;clear f;refine mD rfl (w1:=w2.at d) (es:=#[⟨.cell ⟨st,6,none⟩,false,false⟩]) (λk=>(vaq (v:=.slice sa m l) rfl rfl Ag (by have j:((w2.at d).at k).cell? (.a st 6)=some (.slice sa m l):=B;go_simp)).trans (vbp (λes=>GStep.go _ _ es) (by have j:((w2.at d).at k).cell? (.a st 6)=some (.slice sa m l):=B;simp[listed,go_sem,j];rfl))) ?_ Kj ?_
 .intro e i;simp at i;subst i;exact Bj AJ z _
 show en prog Shun Stop 0 _ _;have hF:AtRel w2 (w2.at d):=⟨d,rfl⟩;refine jP (R:=AtRel) Ko 300 _ _ ?_;walk_nrm
 repeat w_go cL
 refine vag (λg f=>?_);replace hF:=cL hF f;obtain⟨d,rfl⟩:=hF;clear f;refine mD rfl (w1:=w2) (es:=#[]) (λk=>(stepG_enter rfl rfl Ag (hU.pi (b:=base 55) (vs:=#[.slice sa m l]) rfl func92 P9 rfl Ct _).1).trans (vbp (λes=>GStep.go _ _ es) (hU.pi (vs:=#[.slice sa m l]) rfl func92 P9 rfl Ct _).2)) AQ Kj ?_;refine C _ _ _ _ _ _ _ (λu w' hv=>?_);obtain⟨F,⟨Bt,un,uc,rfl⟩,q,hsz'⟩:=hv;rw[p]at q;have J:w'.cell? (.a st 0)=some (.int .i32 1):=by simp[World.cell?,q]
 have I:w'.frozen? ⟨st,0,none⟩=false:=by simp[World.frozen?,q]
 have K:st<w'.heap.size:=AP;have hF:=atRel_refl w';refine jP (R:=AtRel) Ko 300 _ _ ?_;walk_nrm
 repeat w_go cL
 u_in cL hF
 rw[vca rfl func91 bz.zo rfl];simp only[vdg];refine⟨CP,?_⟩;walk_nrmf f91
 refine vag (λg f=>?_);replace hF:=cL hF f;obtain⟨d,rfl⟩:=hF;clear f;refine Ww (w:=w'.at d) rfl J I t K ?_;have hF:AtRel (w'.setCell ⟨st,0,none⟩ (.int .i32 0)) ((w'.at d).setCell ⟨st,0,none⟩ (.int .i32 0)):=⟨d,rfl⟩;have A:=hk _ w' F;generalize w'.setCell ⟨st,0,none⟩ (.int .i32 0)=w4 at hF A;generalize(w'.at d).setCell ⟨st,0,none⟩ (.int .i32 0)=io at hF⊢;refine jP (R:=AtRel) Ko 300 _ _ ?_;u_in cL hF
 refine goes_leave2 rfl rfl func55 rfl ⟨CP,?_⟩;walk_nrm
 repeat w_go cL
 u_in cL hF
 refine goes_leave2 rfl rfl func37 rfl ⟨CP,?_⟩;refine vag (λg f=>?_);replace hF:=cL hF f;obtain⟨d,rfl⟩:=hF;exact A.at d
end
section
section
variable{Shun:uai}{Stop:uav}
variable{a2:Frame}{aD:Act}{aB:fC}{aJ:Nat}{aL:uad}{aG:uaa}{csZ:fG}
def Hi(f:Func)(id:Nat):Array Oper:=bz.mE ((bz.dJ id (f.body.getD .skip)).getD .skip)
section
variable{Post:fX}{n:Nat}{w2:aH}{st gn iv c8 ey:Nat}{cu j_ l7 rz nH n_ pw qs qt mI qu mJ px mK ma qv py qw:Value}{ds:List Deferred}{k:uaa}{cs:fG}
def kQ(st gn iv c8 ey:Nat)(cu j_ l7 rz nH n_ pw qs qt mI qu mJ px mK ma qv py qw:Value)(l0 l1 l2 dF hR:Bool):Array Value:=#[.P st 0,cu,.N,(if hR then .S gn iv c8 ey else .N),j_,l7,rz,nH,n_,pw,qs,qt,mI,qu,mJ,px,(if l0 then .P st 0 else undef),(if l1 then .P st 0 else undef),(if l2 then .P st 7 else undef),(if dF then .S gn iv c8 ey else undef),mK,ma,qv,py,qw]
def auz(x:w2.cell? (.a st 7)=some (.S gn iv c8 ey))(u:¬Shun (.cell ⟨st,7,none⟩))(C:st<w2.heap.size)(hk:∀j,bK prog Post n Shun 0 (Conc.G ((base 55).at ⟨kQ st gn iv c8 ey cu j_ l7 rz nH n_ pw qs qt mI qu mJ px mK ma qv py qw true true true true true,ds⟩ (.inRegion (Hi f55 4) []::k)) cs) (w2.at j)):
 bK prog Post n Shun 0 (Conc.G ((base 55).at ⟨kQ st gn iv c8 ey cu j_ l7 rz nH n_ pw qs qt mI qu mJ px mK ma qv py qw false false false false false,ds⟩ (.code (.region 4 (Hi f55 4) true)::k)) cs) w2:=by
 refine aK.VE (M:=λ_=>True) AS (I:=λaq a _ w g l=>g=n/\l=Shun/\(∃j,w=w2.at j)/\∃l0 l1 l2 c d b:Bool,aq=#[l0,l1,l2,c,d,b]/\a=⟨kQ st gn iv c8 ey cu j_ l7 rz nH n_ pw qs qt mI qu mJ px mK ma qv py qw l0 l1 l2 c b,ds⟩) ?_ ?_ ?_ ⟨Y,Y,⟨w2.drawn,Y⟩,false,false,false,false,false,false,Y,Y⟩
 .rintro aq a M w g l j ⟨t,s,⟨K,rfl⟩,p⟩;exact⟨t,s,⟨j,Y⟩,p⟩
 .rintro aq a M w g l i o rest ⟨rfl,rfl,⟨j,rfl⟩,l0,l1,l2,c,d,b,rfl,rfl⟩ hi r q J;have E:i<6:=by have:=(vaj.1 r).1;exact this
  have go:∀v b0 b1 b2 m cm cK es,(#[l0,l1,l2,c,d,b]:uar).setIfInBounds i true=#[b0,b1,b2,m,cm,cK]->(Act.put ⟨kQ st gn iv c8 ey cu j_ l7 rz nH n_ pw qs qt mI qu mJ px mK ma qv py qw l0 l1 l2 c b,ds⟩ o.dst v)=⟨kQ st gn iv c8 ey cu j_ l7 rz nH n_ pw qs qt mI qu mJ px mK ma qv py qw b0 b1 b2 m cK,ds⟩->(∀w:aH,w.cell? (.a st 7)=some (.S gn iv c8 ey)->(execOp (Act.eval ⟨kQ st gn iv c8 ey cu j_ l7 rz nH n_ pw qs qt mI qu mJ px mK ma qv py qw l0 l1 l2 c b,ds⟩) o).run prog w=.ok (.value v) w/\listed prog (base 55).fn ⟨kQ st gn iv c8 ey cu j_ l7 rz nH n_ pw qs qt mI qu mJ px mK ma qv py qw l0 l1 l2 c b,ds⟩ o w=es)->(∀e∈es,e=⟨.cell ⟨st,7,none⟩,false,false⟩)->o.guard=none->deafBehind 0 es=0->bK prog Post g l 0 (Conc.G ((base 55).at ⟨kQ st gn iv c8 ey cu j_ l7 rz nH n_ pw qs qt mI qu mJ px mK ma qv py qw l0 l1 l2 c b,ds⟩ (.inRegion (Hi f55 4) (i::rest)::k)) cs) (w2.at j):=by
   intro v b0 b1 b2 m cm cK es t s p B F D;refine vU (mD Y (w1:=w2.at j) (es:=es) (λkk=>(vaq (v:=v) r (by simp[Region.wanted,F]) Ag (p ((w2.at j).at kk) x).1).trans (vbp (λes=>GStep.go _ _ es) (p ((w2.at j).at kk) x).2)) ?_ Kj (.stop λkk=>?_))
   .intro e A;rw[B e A];exact Bj u C _
   .have y:=J ⟨kQ st gn iv c8 ey cu j_ l7 rz nH n_ pw qs qt mI qu mJ px mK ma qv py qw b0 b1 b2 m cK,ds⟩ M ((w2.at j).at kk) g l ⟨Y,Y,⟨kk,Y⟩,b0,b1,b2,m,cm,cK,t,Y⟩;rw[s,D];exact y
  have f:(Hi f55 4)[i]?=some o:=r;unfold Hi at f;simp only[f55,vae,bz.dJ,bz.mE,Nat.reduceBEq,vaf,↓reduceIte]at f;have H:i=0\/i=1\/i=2\/i=3\/i=4\/i=5:=AP;rcases H with rfl|rfl|rfl|rfl|rfl|rfl<;>(obtain rfl:=van f)
  .exact go (.P st 0) true l1 l2 c d b #[] Y FJ (λw h=>⟨FU,BJ⟩) AQ Y Y
  .obtain rfl:l0=true:=by simpa using q ⟨0,.data⟩ AQ Y
   exact go (.P st 0) true true l2 c d b #[] Y FJ (λw h=>⟨FU,JG⟩) AQ Y Y
  .obtain rfl:l1=true:=by simpa using q ⟨1,.data⟩ AQ Y
   exact go (.P st 7) l0 true true c d b #[] Y FJ (λw h=>⟨FU,JG⟩) AQ Y Y
  .obtain rfl:l2=true:=by simpa using q ⟨2,.data⟩ AQ Y
   exact go (.S gn iv c8 ey) l0 l1 true true d b #[⟨.cell ⟨st,7,none⟩,false,false⟩] Y FJ (λw h=>⟨FU,by simp[listed,go_sem,kQ,h];rfl⟩) AQ Y Y
  .exact go (.N) l0 l1 l2 c true b #[] Y FJ (λw h=>⟨FU,BJ⟩) AQ Y Y
  .obtain rfl:c=true:=by simpa using q ⟨3,.data⟩ AQ Y
   exact go (.S gn iv c8 ey) l0 l1 l2 true d true #[] Y FJ (λw h=>⟨FU,JG⟩) AQ Y Y
 .rintro aq a M w g l ⟨rfl,rfl,⟨j,rfl⟩,l0,l1,l2,c,d,b,rfl,rfl⟩ z;have hd:=aK.O0 (ops:=(Hi f55 4)) AM Y z;obtain rfl:l0=true:=by simpa using hd 0 AM
  obtain rfl:l1=true:=by simpa using hd 1 AM
  obtain rfl:l2=true:=by simpa using hd 2 AM
  obtain rfl:c=true:=by simpa using hd 3 AM
  obtain rfl:b=true:=by simpa using hd 5 AM
  exact hk j
end
def T3{st d Y wg W:Nat}{E Z dB D H U X T S Q P V O N M L K J I dr r j_ l7 x:Value}{w:aH}{gn iv c8 ey:Nat}{Post:fX}{n:Nat}(i:w.heap[st]?=some (Obj.cells #[.int .i32 0,.int .u32 0,dr,r,j_,l7,x,.S gn iv c8 ey] 173))(s:w.heap[d]?=some (.cells #[.P st 0] 125))(F:d≠st)(C:∀off sp,2<=off->¬Shun (.cell ⟨st,off,sp⟩))(q:Shun (.cell ⟨st,0,none⟩))(U9:¬Shun (.cell ⟨d,0,none⟩))(hk:∀j,bK prog Post n Shun 0 (Conc.G (a2.at (aD.put ((aB[aJ]?).bind (·.dst)) (.tuple #[.N,.S gn iv c8 ey])) (.inRegion aB aL::aG)) csZ) (((w.setCell ⟨st,0,none⟩ (.int .i32 1)).setCell ⟨st,0,none⟩ (.int .i32 0)).at j)):
 bK prog Post n Shun 0 (Conc.G ((base 37).at ⟨#[E,Z,dB,.P Y 0,D,H,.P d 0,.P wg 0,U,X,T,S,Q,P,.I (W:Int),.I (W:Int),V,O,N,M,.tuple #[],L,K,J,I],[]⟩ [.inRegion (bz.mE ((bz.dJ 8 (f37.body.getD .skip)).getD .skip)) [],.code (bz.kC ((bz.dJ 8 (f37.body.getD .skip)).getD .skip))]) (a2.at aD (.inRegion aB (aJ::aL)::aG)::csZ)) w:=by
 have KK:st<w.heap.size:=(vaj.1 i).1;have U_:d<w.heap.size:=(vaj.1 s).1;have u:w.cell? (.a d 0)=some (.P st 0):=by simp[World.cell?,s]
 have y:w.cell? (.a st 0)=some (.int .i32 0):=by simp[World.cell?,i]
 have z:w.frozen? ⟨st,0,none⟩=false:=by simp[World.frozen?,i]
 have l:(w.setCell ⟨st,0,none⟩ (.int .i32 1)).heap[st]?=some (Obj.cells #[.int .i32 1,.int .u32 0,dr,r,j_,l7,x,.S gn iv c8 ey] 173):=by simp[World.setCell,vaz,i]
 have hF:=atRel_refl w;simp[f37,bz.dJ,bz.kC,bz.mE];refine vU (jP (R:=AtRel) Ko 300 _ _ ?_);repeat w_go cL
 refine vag (λc b=>?_);replace hF:=cL hF b;obtain⟨a,rfl⟩:=hF;clear b;refine mD rfl (w1:=w.at a) (es:=#[⟨.cell ⟨d,0,none⟩,false,false⟩]) (λk=>(vaq (v:=.P st 0) rfl rfl Ag (by have h:((w.at a).at k).cell? (.a d 0)=some (.P st 0):=u;go_simp)).trans (vbp (λes=>GStep.go _ _ es) (by have h:((w.at a).at k).cell? (.a d 0)=some (.P st 0):=u;simp[listed,go_sem,h];rfl))) ?_ Kj ?_
 .intro e g;simp at g;subst g;exact Bj U9 U_ _
 show en prog Shun _ 0 _ _;have hF:AtRel w (w.at a):=⟨a,rfl⟩;refine jP (R:=AtRel) Ko 300 _ _ ?_;walk_nrm
 repeat w_go cL
 u_call func55 Qh f55 cL hF
 repeat w_go cL
 u_call func90 bz.Kv f90 cL hF
 refine vag (λc b=>?_);replace hF:=cL hF b;obtain⟨a,rfl⟩:=hF;clear b;refine Wx (w:=w.at a) y z q KK ?_;have hF:AtRel (w.setCell ⟨st,0,none⟩ (.int .i32 1)) ((w.at a).setCell ⟨st,0,none⟩ (.int .i32 1)):=⟨a,rfl⟩;have hsz:(w.setCell ⟨st,0,none⟩ (.int .i32 1)).heap.size=w.heap.size:=ai.mq _ _ _;generalize w.setCell ⟨st,0,none⟩ (.int .i32 1)=w2 at hF hk l hsz;generalize(w.at a).setCell ⟨st,0,none⟩ (.int .i32 1)=w3 at hF⊢;have o:st<w2.heap.size:=AP;have m:w2.cell? (.a st 7)=some (.S gn iv c8 ey):=by simp[World.cell?,l]
 refine jP (R:=AtRel) Ko 300 _ _ ?_;walk_nrm
 repeat w_go cL
 u_defer cL hF
 repeat w_go cL
 refine vag (λc b=>?_);replace hF:=cL hF b;obtain⟨a,rfl⟩:=hF;clear b;refine mD rfl (w1:=w2.at a) (es:=#[⟨.cell ⟨st,7,none⟩,false,false⟩]) (λk=>(vaq (v:=.S gn iv c8 ey) rfl rfl Ag (by have h:((w2.at a).at k).cell? (.a st 7)=some (.S gn iv c8 ey):=m;go_simp)).trans (vbp (λes=>GStep.go _ _ es) (by have h:((w2.at a).at k).cell? (.a st 7)=some (.S gn iv c8 ey):=m;simp[listed,go_sem,h];rfl))) ?_ Kj ?_
 .intro e g;simp at g;subst g;exact Bj AJ o _
 show en prog Shun _ 0 _ _;have hF:AtRel w2 (w2.at a):=⟨a,rfl⟩;refine jP (R:=AtRel) Ko 300 _ _ ?_;walk_nrm
 repeat w_go cL
 refine vag (λc b=>?_);replace hF:=cL hF b;obtain⟨a,rfl⟩:=hF;clear b;refine mD rfl (w1:=w2.at a) (es:=#[]) (λk=>(vaq (v:=.T) rfl rfl Ag CE).trans (vbp (λes=>GStep.go _ _ es) BK)) AQ Kj ?_;show en prog Shun _ 0 _ _;have hF:AtRel w2 (w2.at a):=⟨a,rfl⟩;refine jP (R:=AtRel) Ko 300 _ _ ?_;walk_nrm
 repeat w_go cL
 refine vag (λc b=>?_);replace hF:=cL hF b;obtain⟨a,rfl⟩:=hF;clear b;have B:w2.cell? (.a st 0)=some (.int .i32 1):=by simp[World.cell?,l]
 have A:w2.frozen? ⟨st,0,none⟩=false:=by simp[World.frozen?,l]
 refine .stop λaG=>auz (w2:=(w2.at a).at aG) (px:=.T) m (C 7 none AP) o (λf=>?_);have hF:AtRel w2 (((w2.at a).at aG).at f):=⟨f,rfl⟩;unfold kQ;simp only[↓reduceIte];refine vU (jP (R:=AtRel) Ko 300 _ _ ?_);repeat w_go cL
 u_in cL hF
 rw[vca rfl func91 bz.zo rfl];simp only[vdg];refine⟨CP,?_⟩;walk_nrmf f91
 refine vag (λc b=>?_);replace hF:=cL hF b;obtain⟨a,rfl⟩:=hF;clear b;refine Ww (w:=w2.at a) rfl B A q o ?_;have hF:AtRel (w2.setCell ⟨st,0,none⟩ (.int .i32 0)) ((w2.at a).setCell ⟨st,0,none⟩ (.int .i32 0)):=⟨a,rfl⟩;have t:=hk;generalize w2.setCell ⟨st,0,none⟩ (.int .i32 0)=w4 at hF t;generalize(w2.at a).setCell ⟨st,0,none⟩ (.int .i32 0)=io at hF⊢;refine jP (R:=AtRel) Ko 300 _ _ ?_;u_in cL hF
 refine goes_leave2 rfl rfl func55 rfl ⟨CP,?_⟩;walk_nrm
 repeat w_go cL
 u_in cL hF
 refine goes_leave2 rfl rfl func37 rfl ⟨CP,?_⟩;refine vag (λc b=>?_);replace hF:=cL hF b;obtain⟨a,rfl⟩:=hF;exact .stop λp=>t p
