import Derived.Test.YtebcnmadaaimoaaGreatPAK
set_option linter.all false
set_option maxRecDepth 100000
set_option maxHeartbeats 16000000
namespace Go.Proofs.YtebcnmadaaimoaaGreat
open Go.Proofs.Tryz
namespace ti
open Conc RowKit Conc.Lib ConcR.Gen ConcM az bo ag ft bR
def Ox{p:Prop}(h:True)(_:p):True:=h
def Oy(c:dy)(g g':uai):Prop:=∃g1,(∀w,stepG prog true g w=.go g1 w #[⟨.mark (.acquire ⟨c.wg,0,none⟩),false,true⟩])/\∃n,∀w,Goes prog true (λ_ _=>True) Go.ConcR.DC0 (λg2 _=>g2=g') n g1 w
variable{w0:aL}
section
variable{c:dy}{Stop:Bool->ag.Lo At->aX->Prop}{mine:c7}
variable{a2:Frame}{aF:Act}{aC:du}{aJ:Nat}{aO:e8}{aH:fC}{csZ:dZ}
def zK{l:ag.Lo At}{γ:ag.aN ck}(h:ij (al (av c)) l γ)(a:l.aj=.main .pX):γ.aj.et=false:=by obtain⟨xs,i,hi,hg⟩:=vh h;rw[a]at hi;have h0:=hg.only i _ hi;subst h0;obtain⟨s,hs,b⟩:=hg.main;rw[hi]at hs;cases hs;exact b.1
def atW{l:ag.Lo At}{γ:ag.aN ck}(h:ij (al (av c)) l γ)(b:l.aj=.main .over):γ.aj.aW=0/\γ.aj.et=false:=by obtain⟨xs,i,hi,hg⟩:=vh h;rw[b]at hi;have h0:=hg.only i _ hi;subst h0;obtain⟨s,hs,a⟩:=hg.main;rw[hi]at hs;cases hs;exact⟨a.2.1,a.1⟩
def atX{l:ag.Lo At}{γ a:ag.aN ck}(h:(al (av c)).dO l γ a)(b:AL l.aj):a.aj.aW<=γ.aj.aW:=by grind
def G9(c:dy)(Stop:Bool->ag.Lo At->aX->Prop)(mine:c7)(a2:Frame)(aF:Act)(aC:du)(aJ:Nat)(aO:e8)(aH:fC)(csZ:dZ)(l:ag.Lo At)(γ:ag.aN ck)(w:aL):Prop:=
 ∀(dR eX jY j0 jB En th fS fT fU fV fW fX ri rj gp fY fZ f2 jk f_ g3 g4 g5 vF vG vH vI vJ vK vL vM vN vO vP vQ vR vS vT vU vV vW y4 y5 y6 y7 y8 y9 y_ za zb zc zd ze zf zg zh zi zj zk zl zm zn zo zp zq zr zs zt zu zv zw zx zy zz zA Dk Dl Dm Dn zB zC zD:Value),bg (al (av c)) prog Stop true l γ ⟨Conc.G ((base 52).at ⟨#[.P c.wg 0,dR,eX,jY,j0,jB,En,th,fS,fT,fU,fV,fW,fX,ri,rj,gp,fY,fZ,f2,jk,f_,g3,g4,g5,vF,vG,vH,vI,vJ,vK,vL,vM,vN,vO,vP,vQ,vR,vS,vT,vU,vV,vW,y4,y5,y6,y7,y8,y9,y_,za,zb,zc,zd,ze,zf,zg,zh,zi,zj,zk,zl,zm,zn,zo,zp,zq,zr,zs,zt,zu,zv,zw,zx,zy,zz,zA,Dk,Dl,Dm,Dn,zB,zC,zD],[]⟩ [.code ((dG (f52.body.getD .skip)).getD .skip),.inLoop ((dG (f52.body.getD .skip)).getD .skip),.inBlock 0]) (a2.at aF (.inRegion aC (aJ::aO)::aH)::csZ),w,mine⟩
theorem atY{f:Nat}(eR:c.most<=250)(P:∀b,c.K b\/mine b->b≠c.wg)(hS:∀g w',ak (al (av c)) mine w0 w'->Oy c g (Conc.G (a2.at (aF.put ((aC[aJ]?).bind (·.dst)) (.tuple #[])) (.inRegion aC aO::aH)) csZ)->Stop true ⟨.idle,false,0,f,.main .over⟩ ⟨g,w',mine⟩)(w:aL)(γ:ag.aN ck)(W:ak (al (av c)) mine w0 w)(K:∀w' Q,Q.a6<γ.a6->ak (al (av c)) mine w0 w'->G9 c Stop mine a2 aF aC aJ aO aH csZ ⟨.idle,false,1,f+3,.main .pX⟩ Q w'):G9 c Stop mine a2 aF aC aJ aO aH csZ ⟨.idle,false,1,f+3,.main .pX⟩ γ w:=by
 unfold G9;intros
 unfold G9 at K;have hF:=W;simp only[f52,vae,dG]at K⊢;refine a9 (bD c) ?_;repeat w_go ak.trans
 u_call func77 Ub f77 ak.trans hF
 repeat w_go ak.trans
 refine dY rfl hF λj a r n m k p d hF=>?_;have Uy:=(dk (bD c)).trans _ _ _ _ n p;have Z:=Uv eR d.sees;have Y:=zK d.sees rfl;have o:=vg d.mt.2.1;have O:((k.aj.aW*4294967296+k.aj.et.toNat:Nat):Int)=((k.aj.aW:Nat):Int)*4294967296:=by grind
 rw[O]at o;have U:=Ou k.aj.aW AX 0 AX;have D:bits .and .u64 (((k.aj.aW:Nat):Int)*4294967296) 2147483648=0:=AF;have C:bits .and .u64 (((k.aj.aW:Nat):Int)*4294967296) 2147483647=0:=AF;have F:(((k.aj.aW:Nat):Int)*4294967296) / 4294967296=((k.aj.aW:Nat):Int):=AX;have S:IntKind.wrap .i32 ((k.aj.aW:Nat):Int)=((k.aj.aW:Nat):Int):=IZ;have s:IntKind.wrap .u64 (((k.aj.aW:Nat):Int)*4294967296+1)=((k.aj.aW:Nat):Int)*4294967296+1:=by rw[IntKind.wrap_u64];omega
 have X:IntKind.u32.wrap 0=0:=AU;refine sY d (stepG_load_atomic rfl rfl Ap rfl func105 T8 T9 Ua .u64 T_ rfl o) rfl Ab ?_;clear d p n a o U O;by_cases hz:k.aj.aW=0
 .have M:(((k.aj.aW:Nat):Int)==0)=true:=by grind
  generalize t:((k.aj.aW:Nat):Int)=y at D F C s S M⊢;generalize y*4294967296=x at D F C s⊢;clear t s;refine a9 (bD c) ?_;walk_nrm
  repeat w_go ak.trans
  u_leave1 func77 ak.trans hF
  repeat w_go ak.trans
  refine dY rfl hF λj a r n m k p d hF=>?_;refine Zd (d1:=0) d Kj (a1:=.main .over) (f1:=f) (vbu .enable Ab rfl rfl Ap rfl func70 re rf rg rh) rfl (λxs i hi hg=>?_) Ab (λe=>e) Ab rfl rfl ?_
  .have h0:=hg.only i _ hi;subst h0;refine hg.zero hi ?_;have h1:=atX (l:=⟨.idle,false,1,f+3,.main .pX⟩) ((dk (bD c)).trans _ _ _ _ n p) trivial;omega
  clear p n a;refine a9 (bD c) ?_;walk_nrm
  repeat w_go ak.trans
  refine dY rfl hF λj a r n m k p d hF=>?_;refine l6 (A:=av c) (Kv Uw Ux rfl rfl Ap rfl rfl (vg d.mt.2.1)) rfl rfl (.refl _) rfl rfl ?_;clear d p n a;walk_nrm
  refine .stop (hS _ _ hF ⟨_,λw=>vcw .acquire Ab rfl rfl Ap rfl func83 GL GM GN GO Bn,60,λw=>?_⟩);have hF:True:=trivial;walk_nrm
  repeat w_go Ox
  u_leave0 func52 Ox hF
  grind[Goes.stop]
 .have M:(((k.aj.aW:Nat):Int)==0)=false:=by grind
  generalize t:((k.aj.aW:Nat):Int)=y at D F C s S M⊢;generalize L:y*4294967296=x at D F C s⊢;refine a9 (bD c) ?_;walk_nrm
  repeat w_go ak.trans
  u_leave1 func77 ak.trans hF
  repeat w_go ak.trans
  u_call func85 asq f85 ak.trans hF
  repeat w_go ak.trans
  refine dY rfl hF λj a r n u q I d hF=>?_;have B:(al (av c)).dO ⟨.idle,false,1,f+3,.main .pX⟩ k q:=(dk (bD c)).trans _ _ _ _ n I;have z:=zK d.sees rfl;have o:=vg d.mt.2.1;have E:((q.aj.aW*4294967296+q.aj.et.toNat:Nat):Int)=((q.aj.aW:Nat):Int)*4294967296:=by grind
  by_cases J:q.aj.aW=k.aj.aW
  .rw[E,J,t,L]at o;have hv:x+1=((({q.aj with et:=true}:ck).aW*4294967296+({q.aj with et:=true}:ck).et.toNat:Nat):Int):=by grind
   refine MX d (a1:=.main .sZ) (b1:={q.aj with et:=true}) (f1:=f+2) (stepG_cas_hit rfl rfl Ap rfl func111 R0 RZ RY .u64 RX rfl rfl rfl o (AM d.mt.2.1 0 none)) rfl hv Ab rfl ⟨rfl,rfl,rfl,rfl⟩ (λxs i hi hg=>?_) Jz (.inl trivial) LH Ab rfl LH ?_
   .have h0:=hg.only i _ hi;subst h0;exact hg.amD hi AX
   replace hF:=ak.trans hF (G8 (c:=c) (mine:=mine) P u 0 none (.int .u64 (x+1)));clear d I n a o hv E J B z L t;refine a9 (bD c) ?_;walk_nrm
   repeat w_go ak.trans
   u_leave1 func85 ak.trans hF
   repeat w_go ak.trans
   refine dY rfl hF λj a r n m k p d hF=>?_;refine l6 (A:=av c) (Kv Lw z5 rfl rfl Ap rfl rfl (MV d.mt.2.1)) rfl rfl (.refl _) rfl rfl ?_;clear d p n a;refine a9 (bD c) ?_;walk_nrm
   repeat w_go ak.trans
   refine dY rfl hF λj a r n m k p d hF=>?_;refine z0 d Kj trivial (vcw .write Ab rfl rfl Ap rfl func86 asj asl asm asn Bn) rfl ?_;clear d p n a;refine a9 (bD c) ?_;walk_nrm
   repeat w_go ak.trans
   refine dY rfl hF λj a r n m k p d hF=>?_;have o:=MV d.mt.2.1;by_cases hsz:k.aj.gF=0
   .rw[hsz]at o;exact .wait (stepG_semacquire_wait (ad:=⟨c.wg,1,none⟩) rfl rfl rfl func87 RJ RE RA Rx Bn o) rfl (.inr ⟨rfl,rfl,hsz⟩) K8
   have R:((k.aj.gF:Nat):Int)-1=((k.aj.gF-1:Nat):Int):=AX;have N:=G8 (c:=c) (mine:=mine) P m 1 none (.int .u32 (((k.aj.gF:Nat):Int)-1));refine Zc d (a1:=.main .over) (b1:={k.aj with gF:=k.aj.gF-1}) (f1:=f+1) (stepG_semacquire (ad:=⟨c.wg,1,none⟩) rfl rfl Ap rfl func87 RJ RE RA Rx Bn o AX (AM d.mt.2.1 1 none)) rfl R ⟨rfl,rfl⟩ ⟨rfl,rfl,rfl,rfl⟩ (λxs i hi hg=>?_) Jz LH Ab rfl (.inr hsz) LH ?_
   .have h0:=hg.only i _ hi;subst h0;exact hg.RI hi hsz
   replace hF:=ak.trans hF N;clear N R hsz o;clear d p n a;refine a9 (bD c) ?_;walk_nrm
   repeat w_go ak.trans
   u_call func77 Ub f77 ak.trans hF
   repeat w_go ak.trans
   refine dY rfl hF λj a r n m k p d hF=>?_;have H:=atW d.sees rfl;have o:=vg d.mt.2.1;rw[H.1,H.2]at o;refine sY d (stepG_load_atomic (v:=0) rfl rfl Ap rfl func105 T8 T9 Ua .u64 T_ rfl o) rfl Ab ?_;clear H o;clear d p n a;refine a9 (bD c) ?_;walk_nrm
   repeat w_go ak.trans
   u_leave1 func77 ak.trans hF
   repeat w_go ak.trans
   refine dY rfl hF λj a r n m k p d hF=>?_;refine sV (d1:=0) (bD c) d Kj (vbu .enable Ab rfl rfl Ap rfl func70 re rf rg rh) rfl K8 (sU (f1:=f) Jz _) Ab rfl ?_;clear p n a;refine a9 (bD c) ?_;walk_nrm
   repeat w_go ak.trans
   refine dY rfl hF λj a r n m k p d hF=>?_;refine l6 (A:=av c) (Kv Uw Ux rfl rfl Ap rfl rfl (vg d.mt.2.1)) rfl rfl (.refl _) rfl rfl ?_;clear d p n a;walk_nrm
   refine .stop (hS _ _ hF ⟨_,λw=>vcw .acquire Ab rfl rfl Ap rfl func83 GL GM GN GO Bn,60,λw=>?_⟩);have hF:True:=trivial;walk_nrm
   repeat w_go Ox
   u_leave0 func52 Ox hF
   grind[Goes.stop]
  .rw[E]at o;have T:q.a6<γ.a6:=by grind
   refine sY d (stepG_cas_miss rfl rfl Ap rfl func111 R0 RZ RY .u64 RX rfl rfl rfl o (AM d.mt.2.1 0 none) AX) rfl Ab ?_;clear d I n a o E J B z L t;refine a9 (bD c) ?_;walk_nrm
   repeat w_go ak.trans
   u_leave1 func85 ak.trans hF
   repeat w_nl ak.trans
   u_c stepG_inLoop ak.trans hF
   exact vah (λj a=>⟨rfl,λr V=>(K j q T (ak.trans hF a) ..).iv (dk (bD c)) V⟩)
def atZ{f:Nat}(eR:c.most<=250)(d:∀b,c.K b\/mine b->b≠c.wg)(hS:∀g w',ak (al (av c)) mine w0 w'->Oy c g (Conc.G (a2.at (aF.put ((aC[aJ]?).bind (·.dst)) (.tuple #[])) (.inRegion aC aO::aH)) csZ)->Stop true ⟨.idle,false,0,f,.main .over⟩ ⟨g,w',mine⟩):
 ∀(N:Nat)(γ:ag.aN ck)(w:aL),γ.a6<N->ak (al (av c)) mine w0 w->G9 c Stop mine a2 aF aC aJ aO aH csZ ⟨.idle,false,1,f+3,.main .pX⟩ γ w:=by
 intro N;induction N with|zero=>grind|succ N a=>grind[atY]
end
section
section
variable{c:dy}{Stop:Bool->ag.Lo At->aX->Prop}{mine:c7}
variable{a2:Frame}{aF:Act}{aC:du}{aJ:Nat}{aO:e8}{aH:fC}{csZ:dZ}
def at0{f k:Nat}(p:0<k)(eR:c.most<=250)(r:∀b,c.K b\/mine b->b≠c.wg)(hS:∀g w',ak (al (av c)) mine w0 w'->Oy c g (Conc.G (a2.at (aF.put ((aC[aJ]?).bind (·.dst)) (.tuple #[])) (.inRegion aC aO::aH)) csZ)->Stop true ⟨.idle,false,0,f,.main .over⟩ ⟨g,w',mine⟩)(w:aL)(γ:ag.aN ck)(q:ak (al (av c)) mine w0 w):
 bg (al (av c)) prog Stop true ⟨.idle,false,0,f+4,.main (.spawn k false)⟩ γ ⟨Conc.G ((base 52).at ⟨#[.P c.wg 0,.U,.U,.U,.U,.U,.U,.U,.U,.U,.U,.U,.U,.U,.U,.U,.U,.U,.U,.U,.U,.U,.U,.U,.U,.U,.U,.U,.U,.U,.U,.U,.U,.U,.U,.U,.U,.U,.U,.U,.U,.U,.U,.U,.U,.U,.U,.U,.U,.U,.U,.U,.U,.U,.U,.U,.U,.U,.U,.U,.U,.U,.U,.U,.U,.U,.U,.U,.U,.U,.U,.U,.U,.U,.U,.U,.U,.U,.U,.U,.U,.U,.U,.U],[]⟩ [.code (f52.body.getD .skip)]) (a2.at aF (.inRegion aC (aJ::aO)::aH)::csZ),w,mine⟩:=by
 have hF:=q;have j:=λ(n:ag.aN ck)(w':aL)(h:ak (al (av c)) mine w0 w')=>atZ eR r hS (n.a6+1) n w' Jz h;unfold G9 at j;simp only[f52,vae,dG]at j⊢;refine a9 (bD c) ?_;repeat w_go ak.trans
 refine dY U hF λd a o t l u s m hF=>?_;refine Zd (d1:=1) m KB (a1:=.main .pX) (f1:=f+3) (vbu .disable Ab U U Ap U func69 Dg Dh Di Dj) U (λxs i hi hg=>?_) Jz (λe=>e) Ab U U ?_
 .have h0:=hg.only i _ hi;subst h0;exact hg.waits p hi
 clear m s t a;refine a9 (bD c) ?_;walk_nrm
 repeat w_but "code.loop" ak.trans
 u_c stepG_loop ak.trans hF
 exact vah (λd a=>⟨U,λo _=>j o d (ak.trans hF a) ..⟩)
