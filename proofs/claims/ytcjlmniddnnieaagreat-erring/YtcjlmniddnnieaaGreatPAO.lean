import Derived.Test.YtcjlmniddnnieaaGreatPAN
set_option linter.all false
set_option maxRecDepth 100000
set_option maxHeartbeats 16000000
namespace Go.Proofs.YtcjlmniddnnieaaGreat
open Tryz
namespace tr
open Conc RowKit Conc.Lib ConcR.Gen ConcM au bn ai e_ bz
def OW{p:Prop}(h:True)(_:p):True:=h
def OX(c:da)(g g':uaf):Prop:=∃g1,(∀w,stepG prog true g w=.go g1 w #[⟨.mark (.acquire ⟨c.wg,0,none⟩),false,true⟩])/\∃n,∀w,Goes prog true (λ_ _=>True) Go.ConcR.DC0 (λg2 _=>g2=g') n g1 w
variable{w0:aH}
section
variable{c:da}{Stop:Bool->ai.Lo At->aX->Prop}{mine:dY}
variable{a2:Frame}{aD:Act}{aB:fC}{aJ:Nat}{aL:uad}{aG:uaa}{csZ:fG}
def RS{l:ai.Lo At}{γ:ai.aN cb}(h:hH (am (ar c)) l γ)(a:l.al=.main .qa):γ.al.ea=false:=by obtain⟨xs,i,hi,hg⟩:=uu h;rw[a]at hi;have h0:=hg.only i _ hi;subst h0;obtain⟨s,hs,b⟩:=hg.main;rw[hi]at hs;cases hs;exact b.1
def atX{l:ai.Lo At}{γ:ai.aN cb}(h:hH (am (ar c)) l γ)(b:l.al=.main .over):γ.al.aY=0/\γ.al.ea=false:=by obtain⟨xs,i,hi,hg⟩:=uu h;rw[b]at hi;have h0:=hg.only i _ hi;subst h0;obtain⟨s,hs,a⟩:=hg.main;rw[hi]at hs;cases hs;exact⟨a.2.1,a.1⟩
def atY{l:ai.Lo At}{γ a:ai.aN cb}(h:(am (ar c)).dM l γ a)(b:A6 l.al):a.al.aY<=γ.al.aY:=by grind
def Hb(c:da)(Stop:Bool->ai.Lo At->aX->Prop)(mine:dY)(a2:Frame)(aD:Act)(aB:fC)(aJ:Nat)(aL:uad)(aG:uaa)(csZ:fG)(l:ai.Lo At)(γ:ai.aN cb)(w:aH):Prop:=
 ∀(dn dB jB ig h5 z1 tp fm eO fo fp fq ft rr ru fI fu fv fx i6 fy gr gt gu vZ v_ wa wb wd we wh wi wj wk wl wm wo wq wt wu wv ww zp zq zr zs zt zu zv zw zx zy zz zA zB zC zD zE zF zG zH zI zJ zK zL zM zN zO zP zQ zR zS zT zU zV zW Dy Dz DC DD zX zY zZ:Value),bf (am (ar c)) prog Stop true l γ ⟨Conc.G ((base 54).at ⟨#[.P c.wg 0,dn,dB,jB,ig,h5,z1,tp,fm,eO,fo,fp,fq,ft,rr,ru,fI,fu,fv,fx,i6,fy,gr,gt,gu,vZ,v_,wa,wb,wd,we,wh,wi,wj,wk,wl,wm,wo,wq,wt,wu,wv,ww,zp,zq,zr,zs,zt,zu,zv,zw,zx,zy,zz,zA,zB,zC,zD,zE,zF,zG,zH,zI,zJ,zK,zL,zM,zN,zO,zP,zQ,zR,zS,zT,zU,zV,zW,Dy,Dz,DC,DD,zX,zY,zZ],[]⟩ [.code ((dC (f54.body.getD .skip)).getD .skip),.inLoop ((dC (f54.body.getD .skip)).getD .skip),.inBlock 0]) (a2.at aD (.inRegion aB (aJ::aL)::aG)::csZ),w,mine⟩
theorem atZ{f:Nat}(e5:c.most<=250)(P:∀b,c.K b\/mine b->b≠c.wg)(hS:∀g w',ak (am (ar c)) mine w0 w'->OX c g (Conc.G (a2.at (aD.put ((aB[aJ]?).bind (·.dst)) (.tuple #[])) (.inRegion aB aL::aG)) csZ)->Stop true ⟨.idle,false,0,f,.main .over⟩ ⟨g,w',mine⟩)(w:aH)(γ:ai.aN cb)(W:ak (am (ar c)) mine w0 w)(J:∀w' Q,Q.a6<γ.a6->ak (am (ar c)) mine w0 w'->Hb c Stop mine a2 aD aB aJ aL aG csZ ⟨.idle,false,1,f+3,.main .qa⟩ Q w'):Hb c Stop mine a2 aD aB aJ aL aG csZ ⟨.idle,false,1,f+3,.main .qa⟩ γ w:=by
 unfold Hb;intros
 unfold Hb at J;have hF:=W;simp only[f54,vae,dC]at J⊢;refine bb (bA c) ?_;repeat w_go ak.trans
 u_call func79 U3 f79 ak.trans hF
 repeat w_go ak.trans
 refine dU rfl hF λj a r n m k p d hF=>?_;have Vs:=(c_ (bA c)).trans _ _ _ _ n p;have Z:=Vp e5 d.sees;have Y:=RS d.sees rfl;have o:=vH d.mt.2.1;have O:((k.al.aY*4294967296+k.al.ea.toNat:Nat):Int)=((k.al.aY:Nat):Int)*4294967296:=by grind
 rw[O]at o;have U:=OU k.al.aY AP 0 AP;have D:bits .and .u64 (((k.al.aY:Nat):Int)*4294967296) 2147483648=0:=AJ;have C:bits .and .u64 (((k.al.aY:Nat):Int)*4294967296) 2147483647=0:=AJ;have F:(((k.al.aY:Nat):Int)*4294967296) / 4294967296=((k.al.aY:Nat):Int):=AP;have S:IntKind.wrap .i32 ((k.al.aY:Nat):Int)=((k.al.aY:Nat):Int):=JH;have s:IntKind.wrap .u64 (((k.al.aY:Nat):Int)*4294967296+1)=((k.al.aY:Nat):Int)*4294967296+1:=by rw[IntKind.wrap_u64];omega
 have X:IntKind.u32.wrap 0=0:=AU;refine s9 d (stepG_load_atomic rfl rfl Ag rfl func107 UZ U0 U2 .u64 U1 rfl o) rfl AQ ?_;clear d p n a o U O;by_cases hz:k.al.aY=0
 .have M:(((k.al.aY:Nat):Int)==0)=true:=by grind
  generalize t:((k.al.aY:Nat):Int)=y at D F C s S M⊢;generalize y*4294967296=x at D F C s⊢;clear t s;refine bb (bA c) ?_;walk_nrm
  repeat w_go ak.trans
  u_leave1 func79 ak.trans hF
  repeat w_go ak.trans
  refine dU rfl hF λj a r n m k p d hF=>?_;refine aaJ (d1:=0) d LO (a1:=.main .over) (f1:=f) (vbu .enable AQ rfl rfl Ag rfl func72 rm rn rp rq) rfl (λxs i hi hg=>?_) AQ (λe=>e) AQ rfl rfl ?_
  .have h0:=hg.only i _ hi;subst h0;refine hg.zero hi ?_;have h1:=atY (l:=⟨.idle,false,1,f+3,.main .qa⟩) ((c_ (bA c)).trans _ _ _ _ n p) trivial;omega
  clear p n a;refine bb (bA c) ?_;walk_nrm
  repeat w_go ak.trans
  refine dU rfl hF λj a r n m k p d hF=>?_;refine l5 (A:=ar c) (KS Vq Vr rfl rfl Ag rfl rfl (vH d.mt.2.1)) rfl rfl (.refl _) rfl rfl ?_;clear d p n a;walk_nrm
  refine .stop (hS _ _ hF ⟨_,λw=>vck .acquire AQ rfl rfl Ag rfl func85 GR GU GV GX Bi,60,λw=>?_⟩);have hF:True:=trivial;walk_nrm
  repeat w_go OW
  u_leave0 func54 OW hF
  grind[Goes.stop]
 .have M:(((k.al.aY:Nat):Int)==0)=false:=by grind
  generalize t:((k.al.aY:Nat):Int)=y at D F C s S M⊢;generalize L:y*4294967296=x at D F C s⊢;refine bb (bA c) ?_;walk_nrm
  repeat w_go ak.trans
  u_leave1 func79 ak.trans hF
  repeat w_go ak.trans
  u_call func87 asw f87 ak.trans hF
  repeat w_go ak.trans
  refine dU rfl hF λj a r n u q H d hF=>?_;have B:(am (ar c)).dM ⟨.idle,false,1,f+3,.main .qa⟩ k q:=(c_ (bA c)).trans _ _ _ _ n H;have z:=RS d.sees rfl;have o:=vH d.mt.2.1;have E:((q.al.aY*4294967296+q.al.ea.toNat:Nat):Int)=((q.al.aY:Nat):Int)*4294967296:=by grind
  by_cases I:q.al.aY=k.al.aY
  .rw[E,I,t,L]at o;have hv:x+1=((({q.al with ea:=true}:cb).aY*4294967296+({q.al with ea:=true}:cb).ea.toNat:Nat):Int):=by grind
   refine Nz d (a1:=.main .s_) (b1:={q.al with ea:=true}) (f1:=f+2) (stepG_cas_hit rfl rfl Ag rfl func113 Q7 Q6 Q5 .u64 Q4 rfl rfl rfl o (A7 d.mt.2.1 0 none)) rfl hv AQ rfl ⟨rfl,rfl,rfl,rfl⟩ (λxs i hi hg=>?_) Kn (.inl trivial) Lm AQ rfl Lm ?_
   .have h0:=hg.only i _ hi;subst h0;exact hg.an_ hi AP
   replace hF:=ak.trans hF (G_ (c:=c) (mine:=mine) P u 0 none (.int .u64 (x+1)));clear d H n a o hv E I B z L t;refine bb (bA c) ?_;walk_nrm
   repeat w_go ak.trans
   u_leave1 func87 ak.trans hF
   repeat w_go ak.trans
   refine dU rfl hF λj a r n m k p d hF=>?_;refine l5 (A:=ar c) (KS R0 RY rfl rfl Ag rfl rfl (Nx d.mt.2.1)) rfl rfl (.refl _) rfl rfl ?_;clear d p n a;refine bb (bA c) ?_;walk_nrm
   repeat w_go ak.trans
   refine dU rfl hF λj a r n m k p d hF=>?_;refine RX d LO trivial (vck .write AQ rfl rfl Ag rfl func88 asq asr ass ast Bi) rfl ?_;clear d p n a;refine bb (bA c) ?_;walk_nrm
   repeat w_go ak.trans
   refine dU rfl hF λj a r n m k p d hF=>?_;have o:=Nx d.mt.2.1;by_cases hsz:k.al.gI=0
   .rw[hsz]at o;exact .wait (stepG_semacquire_wait (ad:=⟨c.wg,1,none⟩) rfl rfl rfl func89 Q3 Q1 QV QU Bi o) rfl (.inr ⟨rfl,rfl,hsz⟩) La
   have R:((k.al.gI:Nat):Int)-1=((k.al.gI-1:Nat):Int):=AP;have N:=G_ (c:=c) (mine:=mine) P m 1 none (.int .u32 (((k.al.gI:Nat):Int)-1));refine aaI d (a1:=.main .over) (b1:={k.al with gI:=k.al.gI-1}) (f1:=f+1) (stepG_semacquire (ad:=⟨c.wg,1,none⟩) rfl rfl Ag rfl func89 Q3 Q1 QV QU Bi o AP (A7 d.mt.2.1 1 none)) rfl R ⟨rfl,rfl⟩ ⟨rfl,rfl,rfl,rfl⟩ (λxs i hi hg=>?_) Kn Lm AQ rfl (.inr hsz) Lm ?_
   .have h0:=hg.only i _ hi;subst h0;exact hg.SO hi hsz
   replace hF:=ak.trans hF N;clear N R hsz o;clear d p n a;refine bb (bA c) ?_;walk_nrm
   repeat w_go ak.trans
   u_call func79 U3 f79 ak.trans hF
   repeat w_go ak.trans
   refine dU rfl hF λj a r n m k p d hF=>?_;have K:=atX d.sees rfl;have o:=vH d.mt.2.1;rw[K.1,K.2]at o;refine s9 d (stepG_load_atomic (v:=0) rfl rfl Ag rfl func107 UZ U0 U2 .u64 U1 rfl o) rfl AQ ?_;clear K o;clear d p n a;refine bb (bA c) ?_;walk_nrm
   repeat w_go ak.trans
   u_leave1 func79 ak.trans hF
   repeat w_go ak.trans
   refine dU rfl hF λj a r n m k p d hF=>?_;refine s7 (d1:=0) (bA c) d LO (vbu .enable AQ rfl rfl Ag rfl func72 rm rn rp rq) rfl La (s5 (f1:=f) Kn _) AQ rfl ?_;clear p n a;refine bb (bA c) ?_;walk_nrm
   repeat w_go ak.trans
   refine dU rfl hF λj a r n m k p d hF=>?_;refine l5 (A:=ar c) (KS Vq Vr rfl rfl Ag rfl rfl (vH d.mt.2.1)) rfl rfl (.refl _) rfl rfl ?_;clear d p n a;walk_nrm
   refine .stop (hS _ _ hF ⟨_,λw=>vck .acquire AQ rfl rfl Ag rfl func85 GR GU GV GX Bi,60,λw=>?_⟩);have hF:True:=trivial;walk_nrm
   repeat w_go OW
   u_leave0 func54 OW hF
   grind[Goes.stop]
  .rw[E]at o;have T:q.a6<γ.a6:=by grind
   refine s9 d (stepG_cas_miss rfl rfl Ag rfl func113 Q7 Q6 Q5 .u64 Q4 rfl rfl rfl o (A7 d.mt.2.1 0 none) AP) rfl AQ ?_;clear d H n a o E I B z L t;refine bb (bA c) ?_;walk_nrm
   repeat w_go ak.trans
   u_leave1 func87 ak.trans hF
   repeat w_nl ak.trans
   u_c stepG_inLoop ak.trans hF
   exact vag (λj a=>⟨rfl,λr V=>(J j q T (ak.trans hF a) ..).k9 (c_ (bA c)) V⟩)
def at0{f:Nat}(e5:c.most<=250)(d:∀b,c.K b\/mine b->b≠c.wg)(hS:∀g w',ak (am (ar c)) mine w0 w'->OX c g (Conc.G (a2.at (aD.put ((aB[aJ]?).bind (·.dst)) (.tuple #[])) (.inRegion aB aL::aG)) csZ)->Stop true ⟨.idle,false,0,f,.main .over⟩ ⟨g,w',mine⟩):
 ∀(N:Nat)(γ:ai.aN cb)(w:aH),γ.a6<N->ak (am (ar c)) mine w0 w->Hb c Stop mine a2 aD aB aJ aL aG csZ ⟨.idle,false,1,f+3,.main .qa⟩ γ w:=by
 intro N;induction N with|zero=>grind|succ N a=>grind[atZ]
end
section
section
variable{c:da}{Stop:Bool->ai.Lo At->aX->Prop}{mine:dY}
variable{a2:Frame}{aD:Act}{aB:fC}{aJ:Nat}{aL:uad}{aG:uaa}{csZ:fG}
def at1{f k:Nat}(p:0<k)(e5:c.most<=250)(r:∀b,c.K b\/mine b->b≠c.wg)(hS:∀g w',ak (am (ar c)) mine w0 w'->OX c g (Conc.G (a2.at (aD.put ((aB[aJ]?).bind (·.dst)) (.tuple #[])) (.inRegion aB aL::aG)) csZ)->Stop true ⟨.idle,false,0,f,.main .over⟩ ⟨g,w',mine⟩)(w:aH)(γ:ai.aN cb)(q:ak (am (ar c)) mine w0 w):
 bf (am (ar c)) prog Stop true ⟨.idle,false,0,f+4,.main (.spawn k false)⟩ γ ⟨Conc.G ((base 54).at ⟨#[.P c.wg 0,.U,.U,.U,.U,.U,.U,.U,.U,.U,.U,.U,.U,.U,.U,.U,.U,.U,.U,.U,.U,.U,.U,.U,.U,.U,.U,.U,.U,.U,.U,.U,.U,.U,.U,.U,.U,.U,.U,.U,.U,.U,.U,.U,.U,.U,.U,.U,.U,.U,.U,.U,.U,.U,.U,.U,.U,.U,.U,.U,.U,.U,.U,.U,.U,.U,.U,.U,.U,.U,.U,.U,.U,.U,.U,.U,.U,.U,.U,.U,.U,.U,.U,.U],[]⟩ [.code (f54.body.getD .skip)]) (a2.at aD (.inRegion aB (aJ::aL)::aG)::csZ),w,mine⟩:=by
 have hF:=q;have j:=λ(n:ai.aN cb)(w':aH)(h:ak (am (ar c)) mine w0 w')=>at0 e5 r hS (n.a6+1) n w' Kn h;unfold Hb at j;simp only[f54,vae,dC]at j⊢;refine bb (bA c) ?_;repeat w_go ak.trans
 refine dU Y hF λd a o s l u t m hF=>?_;refine aaJ (d1:=1) m LF (a1:=.main .qa) (f1:=f+3) (vbu .disable AQ Y Y Ag Y func71 Du Dv Dw Dx) Y (λxs i hi hg=>?_) Kn (λe=>e) AQ Y Y ?_
 .have h0:=hg.only i _ hi;subst h0;exact hg.waits p hi
 clear m t s a;refine bb (bA c) ?_;walk_nrm
 repeat w_but "code.loop" ak.trans
 u_c stepG_loop ak.trans hF
 exact vag (λd a=>⟨Y,λo _=>j o d (ak.trans hF a) ..⟩)
