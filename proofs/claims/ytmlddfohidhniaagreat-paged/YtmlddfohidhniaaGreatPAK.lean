import Derived.Test.YtmlddfohidhniaaGreatPAF
set_option linter.all false
set_option maxRecDepth 100000
set_option maxHeartbeats 16000000
namespace Go.Proofs.YtmlddfohidhniaaGreat
open Go.Proofs.Tryz
namespace sM
open Conc RowKit Conc.Lib ConcR.Gen ConcM ax bp ag fq bM
def N6{p:Prop}(h:True)(_:p):True:=h
def N7(c:dD)(g g':uah):Prop:=∃g1,(∀w,stepG prog true g w=.go g1 w #[⟨.mark (.acquire ⟨c.wg,0,none⟩),false,true⟩])/\∃n,∀w,Goes prog true (λ_ _=>True) Go.ConcR.DC0 (λg2 _=>g2=g') n g1 w
variable{w0:aS}
section
variable{c:dD}{Stop:Bool->ag.Lo At->aV->Prop}{mine:dh}
variable{a4:Frame}{aF:Act}{aC:eY}{aK:Nat}{aM:uaa}{aH:il}{csZ:fV}
def x8{l:ag.Lo At}{γ:ag.aO co}(h:hh (am (az c)) l γ)(a:l.al=.main .pH):γ.al.eg=false:=by obtain⟨xs,i,hi,hg⟩:=wq h;rw[a]at hi;have h0:=hg.only i _ hi;subst h0;obtain⟨s,hs,b⟩:=hg.main;rw[hi]at hs;cases hs;exact b.1
def asM{l:ag.Lo At}{γ:ag.aO co}(h:hh (am (az c)) l γ)(b:l.al=.main .over):γ.al.aR=0/\γ.al.eg=false:=by obtain⟨xs,i,hi,hg⟩:=wq h;rw[b]at hi;have h0:=hg.only i _ hi;subst h0;obtain⟨s,hs,a⟩:=hg.main;rw[hi]at hs;cases hs;exact⟨a.2.1,a.1⟩
def asN{l:ag.Lo At}{γ a:ag.aO co}(h:(am (az c)).dZ l γ a)(b:z1 l.al):a.al.aR<=γ.al.aR:=by grind
def Gx(c:dD)(Stop:Bool->ag.Lo At->aV->Prop)(mine:dh)(a4:Frame)(aF:Act)(aC:eY)(aK:Nat)(aM:uaa)(aH:il)(csZ:fV)(l:ag.Lo At)(γ:ag.aO co)(w:aS):Prop:=
 ∀(dC e9 mC jN jh DJ sL fK fL fM fN fO fP qC qD f2 fQ fR fS iU fT gA gB gC ve vf vg vh vi vj vk vl vm vn vo vp vq vr vt vu vv vw yu yv yw yx yy yz yA yB yC yD yE yF yG yH yI yJ yK yL yM yN yO yP yQ yR yS yT yU yV yW yX yY yZ y0 y1 CI CJ CK CL y2 y3 y4:Value),bg (am (az c)) prog Stop true l γ ⟨Conc.G ((base 54).at ⟨#[.P c.wg 0,dC,e9,mC,jN,jh,DJ,sL,fK,fL,fM,fN,fO,fP,qC,qD,f2,fQ,fR,fS,iU,fT,gA,gB,gC,ve,vf,vg,vh,vi,vj,vk,vl,vm,vn,vo,vp,vq,vr,vt,vu,vv,vw,yu,yv,yw,yx,yy,yz,yA,yB,yC,yD,yE,yF,yG,yH,yI,yJ,yK,yL,yM,yN,yO,yP,yQ,yR,yS,yT,yU,yV,yW,yX,yY,yZ,y0,y1,CI,CJ,CK,CL,y2,y3,y4],[]⟩ [.code ((dA (f54.body.getD .skip)).getD .skip),.inLoop ((dA (f54.body.getD .skip)).getD .skip),.inBlock 0]) (a4.at aF (.inRegion aC (aK::aM)::aH)::csZ),w,mine⟩
theorem asO{f:Nat}(eK:c.most<=1000000)(P:∀b,c.K b\/mine b->b≠c.wg)(hS:∀g w',ah (am (az c)) mine w0 w'->N7 c g (Conc.G (a4.at (aF.put ((aC[aK]?).bind (·.dst)) (.tuple #[])) (.inRegion aC aM::aH)) csZ)->Stop true ⟨.idle,false,0,f,.main .over⟩ ⟨g,w',mine⟩)(w:aS)(γ:ag.aO co)(W:ah (am (az c)) mine w0 w)(L:∀w' Q,Q.a_<γ.a_->ah (am (az c)) mine w0 w'->Gx c Stop mine a4 aF aC aK aM aH csZ ⟨.idle,false,1,f+3,.main .pH⟩ Q w'):Gx c Stop mine a4 aF aC aK aM aH csZ ⟨.idle,false,1,f+3,.main .pH⟩ γ w:=by
 unfold Gx;intros
 unfold Gx at L;have hF:=W;simp only[f54,vae,dA]at L⊢;refine bl (bR c) ?_;repeat w_go ah.trans
 u_call func79 TW f79 ah.trans hF
 repeat w_go ah.trans
 refine dL rfl hF λj a r n m k p d hF=>?_;have Ug:=(da (bR c)).trans _ _ _ _ n p;have Y:=Ud eK d.sees;have X:=x8 d.sees rfl;have o:=uI d.mt.2.1;have O:((k.al.aR*4294967296+k.al.eg.toNat:Nat):Int)=((k.al.aR:Nat):Int)*4294967296:=by grind
 rw[O]at o;have U:=N3 k.al.aR AP 0 AP;have D:bits .and .u64 (((k.al.aR:Nat):Int)*4294967296) 2147483648=0:=AA;have C:bits .and .u64 (((k.al.aR:Nat):Int)*4294967296) 2147483647=0:=AA;have F:(((k.al.aR:Nat):Int)*4294967296) / 4294967296=((k.al.aR:Nat):Int):=AP;have S:IntKind.wrap .i32 ((k.al.aR:Nat):Int)=((k.al.aR:Nat):Int):=H4;have s:IntKind.wrap .u64 (((k.al.aR:Nat):Int)*4294967296+1)=((k.al.aR:Nat):Int)*4294967296+1:=by rw[IntKind.wrap_u64];omega
 have Bn:IntKind.u32.wrap 0=0:=AX;refine ss d (stepG_load_atomic rfl rfl Am rfl func107 TS TT TV .u64 TU rfl o) rfl Ad ?_;clear d p n a o U O;by_cases Z:k.al.aR=0
 .have I:(((k.al.aR:Nat):Int)==0)=true:=by grind
  generalize u:((k.al.aR:Nat):Int)=y at D F C s S I⊢;generalize y*4294967296=x at D F C s⊢;clear u s;refine bl (bR c) ?_;walk_nrm
  repeat w_go ah.trans
  u_leave1 func79 ah.trans hF
  repeat w_go ah.trans
  refine dL rfl hF λj a r n m k p d hF=>?_;refine YG (d1:=0) d KK (a1:=.main .over) (f1:=f) (vbx .enable Ad rfl rfl Am rfl func72 qy qz qA qB) rfl (λxs i hi hg=>?_) Ad (λe=>e) Ad rfl rfl ?_
  .have h0:=hg.only i _ hi;subst h0;refine hg.zero hi ?_;have h1:=asN (l:=⟨.idle,false,1,f+3,.main .pH⟩) ((da (bR c)).trans _ _ _ _ n p) trivial;omega
  clear p n a;refine bl (bR c) ?_;walk_nrm
  repeat w_go ah.trans
  refine dL rfl hF λj a r n m k p d hF=>?_;refine lH (A:=az c) (J4 Ue Uf rfl rfl Am rfl rfl (uI d.mt.2.1)) rfl rfl (.refl _) rfl rfl ?_;clear d p n a;walk_nrm
  refine .stop (hS _ _ hF ⟨_,λw=>vcu .acquire Ad rfl rfl Am rfl func85 Ga Gb Gc Gd Bz,60,λw=>?_⟩);have hF:True:=trivial;walk_nrm
  repeat w_go N6
  u_leave0 func54 N6 hF
  grind[Goes.stop]
 .have I:(((k.al.aR:Nat):Int)==0)=false:=by grind
  generalize u:((k.al.aR:Nat):Int)=y at D F C s S I⊢;generalize M:y*4294967296=x at D F C s⊢;refine bl (bR c) ?_;walk_nrm
  repeat w_go ah.trans
  u_leave1 func79 ah.trans hF
  repeat w_go ah.trans
  u_call func87 ari f87 ah.trans hF
  repeat w_go ah.trans
  refine dL rfl hF λj a r n t q J d hF=>?_;have z:(am (az c)).dZ ⟨.idle,false,1,f+3,.main .pH⟩ k q:=(da (bR c)).trans _ _ _ _ n J;have B:=x8 d.sees rfl;have o:=uI d.mt.2.1;have E:((q.al.aR*4294967296+q.al.eg.toNat:Nat):Int)=((q.al.aR:Nat):Int)*4294967296:=by grind
  by_cases K:q.al.aR=k.al.aR
  .rw[E,K,u,M]at o;have hv:x+1=((({q.al with eg:=true}:co).aR*4294967296+({q.al with eg:=true}:co).eg.toNat:Nat):Int):=by grind
   refine Mv d (a1:=.main .su) (b1:={q.al with eg:=true}) (f1:=f+2) (stepG_cas_hit rfl rfl Am rfl func113 Qh Qc P_ .u64 P9 rfl rfl rfl o (z2 d.mt.2.1 0 none)) rfl hv Ad rfl ⟨rfl,rfl,rfl,rfl⟩ (λxs i hi hg=>?_) Jo (.inl trivial) Kl Ad rfl Kl ?_
   .have h0:=hg.only i _ hi;subst h0;exact hg.aln hi AP
   replace hF:=ah.trans hF (Gw (c:=c) (mine:=mine) P t 0 none (.int .u64 (x+1)));clear d J n a o hv E K z B M u;refine bl (bR c) ?_;walk_nrm
   repeat w_go ah.trans
   u_leave1 func87 ah.trans hF
   repeat w_go ah.trans
   refine dL rfl hF λj a r n m k p d hF=>?_;refine lH (A:=az c) (J4 y6 yn rfl rfl Am rfl rfl (Mt d.mt.2.1)) rfl rfl (.refl _) rfl rfl ?_;clear d p n a;refine bl (bR c) ?_;walk_nrm
   repeat w_go ah.trans
   refine dL rfl hF λj a r n m k p d hF=>?_;refine yk d KK trivial (vcu .write Ad rfl rfl Am rfl func88 arc ard are arf Bz) rfl ?_;clear d p n a;refine bl (bR c) ?_;walk_nrm
   repeat w_go ah.trans
   refine dL rfl hF λj a r n m k p d hF=>?_;have o:=Mt d.mt.2.1;by_cases hsz:k.al.gp=0
   .rw[hsz]at o;exact .wait (stepG_semacquire_wait (ad:=⟨c.wg,1,none⟩) rfl rfl rfl func89 P3 P2 P1 P0 Bz o) rfl (.inr ⟨rfl,rfl,hsz⟩) Kx
   have R:((k.al.gp:Nat):Int)-1=((k.al.gp-1:Nat):Int):=AP;have N:=Gw (c:=c) (mine:=mine) P m 1 none (.int .u32 (((k.al.gp:Nat):Int)-1));refine YF d (a1:=.main .over) (b1:={k.al with gp:=k.al.gp-1}) (f1:=f+1) (stepG_semacquire (ad:=⟨c.wg,1,none⟩) rfl rfl Am rfl func89 P3 P2 P1 P0 Bz o AP (z2 d.mt.2.1 1 none)) rfl R ⟨rfl,rfl⟩ ⟨rfl,rfl,rfl,rfl⟩ (λxs i hi hg=>?_) Jo Kl Ad rfl (.inr hsz) Kl ?_
   .have h0:=hg.only i _ hi;subst h0;exact hg.Ry hi hsz
   replace hF:=ah.trans hF N;clear N R hsz o;clear d p n a;refine bl (bR c) ?_;walk_nrm
   repeat w_go ah.trans
   u_call func79 TW f79 ah.trans hF
   repeat w_go ah.trans
   refine dL rfl hF λj a r n m k p d hF=>?_;have H:=asM d.sees rfl;have o:=uI d.mt.2.1;rw[H.1,H.2]at o;refine ss d (stepG_load_atomic (v:=0) rfl rfl Am rfl func107 TS TT TV .u64 TU rfl o) rfl Ad ?_;clear H o;clear d p n a;refine bl (bR c) ?_;walk_nrm
   repeat w_go ah.trans
   u_leave1 func79 ah.trans hF
   repeat w_go ah.trans
   refine dL rfl hF λj a r n m k p d hF=>?_;refine sk (d1:=0) (bR c) d KK (vbx .enable Ad rfl rfl Am rfl func72 qy qz qA qB) rfl Kx (sj (f1:=f) Jo _) Ad rfl ?_;clear p n a;refine bl (bR c) ?_;walk_nrm
   repeat w_go ah.trans
   refine dL rfl hF λj a r n m k p d hF=>?_;refine lH (A:=az c) (J4 Ue Uf rfl rfl Am rfl rfl (uI d.mt.2.1)) rfl rfl (.refl _) rfl rfl ?_;clear d p n a;walk_nrm
   refine .stop (hS _ _ hF ⟨_,λw=>vcu .acquire Ad rfl rfl Am rfl func85 Ga Gb Gc Gd Bz,60,λw=>?_⟩);have hF:True:=trivial;walk_nrm
   repeat w_go N6
   u_leave0 func54 N6 hF
   grind[Goes.stop]
  .rw[E]at o;have T:q.a_<γ.a_:=by grind
   refine ss d (stepG_cas_miss rfl rfl Am rfl func113 Qh Qc P_ .u64 P9 rfl rfl rfl o (z2 d.mt.2.1 0 none) AP) rfl Ad ?_;clear d J n a o E K z B M u;refine bl (bR c) ?_;walk_nrm
   repeat w_go ah.trans
   u_leave1 func87 ah.trans hF
   repeat w_nl ah.trans
   u_c stepG_inLoop ah.trans hF
   exact vai (λj a=>⟨rfl,λr V=>(L j q T (ah.trans hF a) ..).hV (da (bR c)) V⟩)
def asP{f:Nat}(eK:c.most<=1000000)(d:∀b,c.K b\/mine b->b≠c.wg)(hS:∀g w',ah (am (az c)) mine w0 w'->N7 c g (Conc.G (a4.at (aF.put ((aC[aK]?).bind (·.dst)) (.tuple #[])) (.inRegion aC aM::aH)) csZ)->Stop true ⟨.idle,false,0,f,.main .over⟩ ⟨g,w',mine⟩):
 ∀(N:Nat)(γ:ag.aO co)(w:aS),γ.a_<N->ah (am (az c)) mine w0 w->Gx c Stop mine a4 aF aC aK aM aH csZ ⟨.idle,false,1,f+3,.main .pH⟩ γ w:=by
 intro N;induction N with|zero=>grind|succ N a=>grind[asO]
end
section
section
variable{c:dD}{Stop:Bool->ag.Lo At->aV->Prop}{mine:dh}
variable{a4:Frame}{aF:Act}{aC:eY}{aK:Nat}{aM:uaa}{aH:il}{csZ:fV}
def asQ{f k:Nat}(p:0<k)(eK:c.most<=1000000)(r:∀b,c.K b\/mine b->b≠c.wg)(hS:∀g w',ah (am (az c)) mine w0 w'->N7 c g (Conc.G (a4.at (aF.put ((aC[aK]?).bind (·.dst)) (.tuple #[])) (.inRegion aC aM::aH)) csZ)->Stop true ⟨.idle,false,0,f,.main .over⟩ ⟨g,w',mine⟩)(w:aS)(γ:ag.aO co)(q:ah (am (az c)) mine w0 w):
 bg (am (az c)) prog Stop true ⟨.idle,false,0,f+4,.main (.spawn k false)⟩ γ ⟨Conc.G ((base 54).at ⟨#[.P c.wg 0,.U,.U,.U,.U,.U,.U,.U,.U,.U,.U,.U,.U,.U,.U,.U,.U,.U,.U,.U,.U,.U,.U,.U,.U,.U,.U,.U,.U,.U,.U,.U,.U,.U,.U,.U,.U,.U,.U,.U,.U,.U,.U,.U,.U,.U,.U,.U,.U,.U,.U,.U,.U,.U,.U,.U,.U,.U,.U,.U,.U,.U,.U,.U,.U,.U,.U,.U,.U,.U,.U,.U,.U,.U,.U,.U,.U,.U,.U,.U,.U,.U,.U,.U],[]⟩ [.code (f54.body.getD .skip)]) (a4.at aF (.inRegion aC (aK::aM)::aH)::csZ),w,mine⟩:=by
 have hF:=q;have j:=λ(n:ag.aO co)(w':aS)(h:ah (am (az c)) mine w0 w')=>asP eK r hS (n.a_+1) n w' Jo h;unfold Gx at j;simp only[f54,vae,dA]at j⊢;refine bl (bR c) ?_;repeat w_go ah.trans
 refine dL Y hF λd a o t l u s m hF=>?_;refine YG (d1:=1) m J1 (a1:=.main .pH) (f1:=f+3) (vbx .disable Ad Y Y Am Y func71 CE CF CG CH) Y (λxs i hi hg=>?_) Jo (λe=>e) Ad Y Y ?_
 .have h0:=hg.only i _ hi;subst h0;exact hg.waits p hi
 clear m s t a;refine bl (bR c) ?_;walk_nrm
 repeat w_but "code.loop" ah.trans
 u_c stepG_loop ah.trans hF
 exact vai (λd a=>⟨Y,λo _=>j o d (ah.trans hF a) ..⟩)
