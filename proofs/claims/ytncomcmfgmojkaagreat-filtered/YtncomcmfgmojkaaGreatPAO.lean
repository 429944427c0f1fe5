import Derived.Test.YtncomcmfgmojkaaGreatPAL
set_option linter.all false
set_option maxRecDepth 100000
set_option maxHeartbeats 16000000
namespace Go.Proofs.YtncomcmfgmojkaaGreat
open Go.Proofs.Tryz
namespace sn
open Conc RowKit Conc.Lib ConcR.Gen ConcM av bn ah fi bO
def NF{p:Prop}(h:True)(_:p):True:=h
def NG(c:dI)(g g':Goroutine):Prop:=∃g1,(∀w,stepG prog true g w=.go g1 w #[⟨.mark (.acquire ⟨c.wg,0,none⟩),false,true⟩])/\∃n,∀w,Goes prog true (λ_ _=>True) Go.ConcR.DC0 (λg2 _=>g2=g') n g1 w
variable{w0:aO}
section
variable{c:dI}{Stop:Bool->ah.Lo At->aV->Prop}{mine:Nat->Prop}
variable{a2:Frame}{aF:Act}{aD:Array Oper}{aI:Nat}{aL:List Nat}{aH:List Item}{csZ:List Frame}
def PF{l:ah.Lo At}{γ:ah.aN cx}(h:gH (ak (az c)) l γ)(a:l.am=.main .pn):γ.am.dZ=false:=by obtain⟨xs,i,hi,hg⟩:=t9 h;rw[a]at hi;have h0:=hg.only i _ hi;subst h0;obtain⟨s,hs,b⟩:=hg.main;rw[hi]at hs;cases hs;exact b.1
def arB{l:ah.Lo At}{γ:ah.aN cx}(h:gH (ak (az c)) l γ)(b:l.am=.main .over):γ.am.aR=0/\γ.am.dZ=false:=by obtain⟨xs,i,hi,hg⟩:=t9 h;rw[b]at hi;have h0:=hg.only i _ hi;subst h0;obtain⟨s,hs,a⟩:=hg.main;rw[hi]at hs;cases hs;exact⟨a.2.1,a.1⟩
def arC{l:ah.Lo At}{γ a:ah.aN cx}(h:(ak (az c)).dY l γ a)(b:zH l.am):a.am.aR<=γ.am.aR:=by grind
def Gj(c:dI)(Stop:Bool->ah.Lo At->aV->Prop)(mine:Nat->Prop)(a2:Frame)(aF:Act)(aD:Array Oper)(aI:Nat)(aL:List Nat)(aH:List Item)(csZ:List Frame)(l:ah.Lo At)(γ:ah.aN cx)(w:aO):Prop:=
 ∀(dC dQ j4 iQ h9 yx sm ft eW fu fv fx fy qC qD fG fz fA fB iq fC gi gj gl ux uy uz uA uB uC uD uE uF uG uH uI uJ uK uL uM uN uO xV xW xX xY xZ x0 x1 x2 x3 x4 x5 x6 x7 x8 x9 x_ ya yb yc yd ye yf yg yh yi yj yk yl ym yn yo yp yq yr Cu Cv Cw Cx yt yu yv:Value),bh (ak (az c)) prog Stop true l γ ⟨Conc.G ((base 56).at ⟨#[.pointer (some ⟨c.wg,0,none⟩),dC,dQ,j4,iQ,h9,yx,sm,ft,eW,fu,fv,fx,fy,qC,qD,fG,fz,fA,fB,iq,fC,gi,gj,gl,ux,uy,uz,uA,uB,uC,uD,uE,uF,uG,uH,uI,uJ,uK,uL,uM,uN,uO,xV,xW,xX,xY,xZ,x0,x1,x2,x3,x4,x5,x6,x7,x8,x9,x_,ya,yb,yc,yd,ye,yf,yg,yh,yi,yj,yk,yl,ym,yn,yo,yp,yq,yr,Cu,Cv,Cw,Cx,yt,yu,yv],[]⟩ [.code ((dp (f56.body.getD .skip)).getD .skip),.inLoop ((dp (f56.body.getD .skip)).getD .skip),.inBlock 0]) (a2.at aF (.inRegion aD (aI::aL)::aH)::csZ),w,mine⟩
theorem arD{f:Nat}(e9:c.most<=250)(Q:∀b,c.K b\/mine b->b≠c.wg)(hS:∀g w',ai (ak (az c)) mine w0 w'->NG c g (Conc.G (a2.at (aF.put ((aD[aI]?).bind (·.dst)) (.tuple #[])) (.inRegion aD aL::aH)) csZ)->Stop true ⟨.idle,false,0,f,.main .over⟩ ⟨g,w',mine⟩)(w:aO)(γ:ah.aN cx)(X:ai (ak (az c)) mine w0 w)(J:∀w' R,R.a_<γ.a_->ai (ak (az c)) mine w0 w'->Gj c Stop mine a2 aF aD aI aL aH csZ ⟨.idle,false,1,f+3,.main .pn⟩ R w'):Gj c Stop mine a2 aF aD aI aL aH csZ ⟨.idle,false,1,f+3,.main .pn⟩ γ w:=by
 unfold Gj;intros
 unfold Gj at J;have hF:=X;simp only[f56,Option.getD_some,dp]at J⊢;refine bk (bR c) ?_;repeat w_go ai.trans
 u_call func81 TI f81 ai.trans hF
 repeat w_go ai.trans
 refine dH Y hF λj a r n m k p d hF=>?_;have T6:=(dg (bR c)).trans _ _ _ _ n p;have sR:=T3 e9 d.sees;have Z:=PF d.sees Y;have o:=t8 d.mt.2.1;have P:((k.am.aR*4294967296+k.am.dZ.toNat:Nat):Int)=((k.am.aR:Nat):Int)*4294967296:=by grind
 rw[P]at o;have U:=NC k.am.aR As 0 As;have D:bits .and .u64 (((k.am.aR:Nat):Int)*4294967296) 2147483648=0:=AA;have C:bits .and .u64 (((k.am.aR:Nat):Int)*4294967296) 2147483647=0:=AA;have F:(((k.am.aR:Nat):Int)*4294967296) / 4294967296=((k.am.aR:Nat):Int):=As;have T:IntKind.wrap .i32 ((k.am.aR:Nat):Int)=((k.am.aR:Nat):Int):=Iu;have s:IntKind.wrap .u64 (((k.am.aR:Nat):Int)*4294967296+1)=((k.am.aR:Nat):Int)*4294967296+1:=by rw[IntKind.wrap_u64];omega
 have A0:IntKind.u32.wrap 0=0:=Ae;refine rY d (stepG_load_atomic Y Y BJ Y func109 TE TF TH .u64 TG Y o) Y A_ ?_;clear d p n a o U P;by_cases hz:k.am.aR=0
 .have M:(((k.am.aR:Nat):Int)==0)=true:=by grind
  generalize u:((k.am.aR:Nat):Int)=y at D F C s T M⊢;generalize y*4294967296=x at D F C s⊢;clear u s;refine bk (bR c) ?_;walk_nrm
  repeat w_go ai.trans
  u_leave1 func81 ai.trans hF
  repeat w_go ai.trans
  refine dH Y hF λj a r n m k p d hF=>?_;refine YY (d1:=0) d K1 (a1:=.main .over) (f1:=f) (stepG_mark0 .enable A_ Y Y BJ Y func74 qy qz qA qB) Y (λxs i hi hg=>?_) A_ (λe=>e) A_ Y Y ?_
  .have h0:=hg.only i _ hi;subst h0;refine hg.zero hi ?_;have h1:=arC (l:=⟨.idle,false,1,f+3,.main .pn⟩) ((dg (bR c)).trans _ _ _ _ n p) trivial;omega
  clear p n a;refine bk (bR c) ?_;walk_nrm
  repeat w_go ai.trans
  refine dH Y hF λj a r n m k p d hF=>?_;refine lz (A:=az c) (Js T4 T5 Y Y BJ Y Y (t8 d.mt.2.1)) Y Y (.refl _) Y Y ?_;clear d p n a;walk_nrm
  refine .stop (hS _ _ hF ⟨_,λw=>stepG_markAt .acquire A_ Y Y BJ Y func87 F3 F4 F5 F6 B4,60,λw=>?_⟩);have hF:True:=trivial;walk_nrm
  repeat w_go NF
  u_leave0 func56 NF hF
  grind[Goes.stop]
 .have M:(((k.am.aR:Nat):Int)==0)=false:=by grind
  generalize u:((k.am.aR:Nat):Int)=y at D F C s T M⊢;generalize L:y*4294967296=x at D F C s⊢;refine bk (bR c) ?_;walk_nrm
  repeat w_go ai.trans
  u_leave1 func81 ai.trans hF
  repeat w_go ai.trans
  u_call func89 aqb f89 ai.trans hF
  repeat w_go ai.trans
  refine dH Y hF λj a r n t q H d hF=>?_;have B:(ak (az c)).dY ⟨.idle,false,1,f+3,.main .pn⟩ k q:=(dg (bR c)).trans _ _ _ _ n H;have z:=PF d.sees Y;have o:=t8 d.mt.2.1;have E:((q.am.aR*4294967296+q.am.dZ.toNat:Nat):Int)=((q.am.aR:Nat):Int)*4294967296:=by grind
  by_cases I:q.am.aR=k.am.aR
  .rw[E,I,u,L]at o;have O:x+1=((({q.am with dZ:=true}:cx).aR*4294967296+({q.am with dZ:=true}:cx).dZ.toNat:Nat):Int):=by grind
   refine Mg d (a1:=.main .rZ) (b1:={q.am with dZ:=true}) (f1:=f+2) (stepG_cas_hit Y Y BJ Y func115 T8 T7 TQ .u64 TN Y Y Y o (zI d.mt.2.1 0 none)) Y O A_ Y ⟨Y,Y,Y⟩ (λxs i hi hg=>?_) KX (.inl trivial) Lh A_ Y Lh ?_
   .have h0:=hg.only i _ hi;subst h0;exact hg.alw hi As
   replace hF:=ai.trans hF (Gi (c:=c) (mine:=mine) Q t 0 none (.int .u64 (x+1)));clear d H n a o O E I B z L u;refine bk (bR c) ?_;walk_nrm
   repeat w_go ai.trans
   u_leave1 func89 ai.trans hF
   repeat w_go ai.trans
   refine dH Y hF λj a r n m k p d hF=>?_;refine lz (A:=az c) (Js zX PL Y Y BJ Y Y (Me d.mt.2.1)) Y Y (.refl _) Y Y ?_;clear d p n a;refine bk (bR c) ?_;walk_nrm
   repeat w_go ai.trans
   refine dH Y hF λj a r n m k p d hF=>?_;refine PH d K1 trivial (stepG_markAt .write A_ Y Y BJ Y func90 ap6 ap7 ap8 ap9 B4) Y ?_;clear d p n a;refine bk (bR c) ?_;walk_nrm
   repeat w_go ai.trans
   refine dH Y hF λj a r n m k p d hF=>?_;have o:=Me d.mt.2.1;by_cases hsz:k.am.fW=0
   .rw[hsz]at o;exact .wait (stepG_semacquire_wait (ad:=⟨c.wg,1,none⟩) Y Y Y func91 TJ Tz RO Nx B4 o) Y (.inr ⟨Y,Y,hsz⟩) Lv
   have S:((k.am.fW:Nat):Int)-1=((k.am.fW-1:Nat):Int):=As;have N:=Gi (c:=c) (mine:=mine) Q m 1 none (.int .u32 (((k.am.fW:Nat):Int)-1));refine YX d (a1:=.main .over) (b1:={k.am with fW:=k.am.fW-1}) (f1:=f+1) (stepG_semacquire (ad:=⟨c.wg,1,none⟩) Y Y BJ Y func91 TJ Tz RO Nx B4 o As (zI d.mt.2.1 1 none)) Y S ⟨Y,Y⟩ ⟨Y,Y,Y⟩ (λxs i hi hg=>?_) KX Lh A_ Y (.inr hsz) Lh ?_
   .have h0:=hg.only i _ hi;subst h0;exact hg.RA hi hsz
   replace hF:=ai.trans hF N;clear N S hsz o;clear d p n a;refine bk (bR c) ?_;walk_nrm
   repeat w_go ai.trans
   u_call func81 TI f81 ai.trans hF
   repeat w_go ai.trans
   refine dH Y hF λj a r n m k p d hF=>?_;have K:=arB d.sees Y;have o:=t8 d.mt.2.1;rw[K.1,K.2]at o;refine rY d (stepG_load_atomic (v:=0) Y Y BJ Y func109 TE TF TH .u64 TG Y o) Y A_ ?_;clear K o;clear d p n a;refine bk (bR c) ?_;walk_nrm
   repeat w_go ai.trans
   u_leave1 func81 ai.trans hF
   repeat w_go ai.trans
   refine dH Y hF λj a r n m k p d hF=>?_;refine rU (d1:=0) (bR c) d K1 (stepG_mark0 .enable A_ Y Y BJ Y func74 qy qz qA qB) Y Lv (rS (f1:=f) KX _) A_ Y ?_;clear p n a;refine bk (bR c) ?_;walk_nrm
   repeat w_go ai.trans
   refine dH Y hF λj a r n m k p d hF=>?_;refine lz (A:=az c) (Js T4 T5 Y Y BJ Y Y (t8 d.mt.2.1)) Y Y (.refl _) Y Y ?_;clear d p n a;walk_nrm
   refine .stop (hS _ _ hF ⟨_,λw=>stepG_markAt .acquire A_ Y Y BJ Y func87 F3 F4 F5 F6 B4,60,λw=>?_⟩);have hF:True:=trivial;walk_nrm
   repeat w_go NF
   u_leave0 func56 NF hF
   grind[Goes.stop]
  .rw[E]at o;have V:q.a_<γ.a_:=by grind
   refine rY d (stepG_cas_miss Y Y BJ Y func115 T8 T7 TQ .u64 TN Y Y Y o (zI d.mt.2.1 0 none) As) Y A_ ?_;clear d H n a o E I B z L u;refine bk (bR c) ?_;walk_nrm
   repeat w_go ai.trans
   u_leave1 func89 ai.trans hF
   repeat w_nl ai.trans
   u_c stepG_inLoop ai.trans hF
   exact Goes.stop (λj a=>⟨Y,λr W=>(J j q V (ai.trans hF a) ..).km (dg (bR c)) W⟩)
def arE{f:Nat}(e9:c.most<=250)(d:∀b,c.K b\/mine b->b≠c.wg)(hS:∀g w',ai (ak (az c)) mine w0 w'->NG c g (Conc.G (a2.at (aF.put ((aD[aI]?).bind (·.dst)) (.tuple #[])) (.inRegion aD aL::aH)) csZ)->Stop true ⟨.idle,false,0,f,.main .over⟩ ⟨g,w',mine⟩):
 ∀(N:Nat)(γ:ah.aN cx)(w:aO),γ.a_<N->ai (ak (az c)) mine w0 w->Gj c Stop mine a2 aF aD aI aL aH csZ ⟨.idle,false,1,f+3,.main .pn⟩ γ w:=by
 intro N;induction N with|zero=>grind|succ N a=>grind[arD]
end
section
section
variable{c:dI}{Stop:Bool->ah.Lo At->aV->Prop}{mine:Nat->Prop}
variable{a2:Frame}{aF:Act}{aD:Array Oper}{aI:Nat}{aL:List Nat}{aH:List Item}{csZ:List Frame}
def arF{f k:Nat}(p:0<k)(e9:c.most<=250)(r:∀b,c.K b\/mine b->b≠c.wg)(hS:∀g w',ai (ak (az c)) mine w0 w'->NG c g (Conc.G (a2.at (aF.put ((aD[aI]?).bind (·.dst)) (.tuple #[])) (.inRegion aD aL::aH)) csZ)->Stop true ⟨.idle,false,0,f,.main .over⟩ ⟨g,w',mine⟩)(w:aO)(γ:ah.aN cx)(q:ai (ak (az c)) mine w0 w):
 bh (ak (az c)) prog Stop true ⟨.idle,false,0,f+4,.main (.spawn k false)⟩ γ ⟨Conc.G ((base 56).at ⟨#[.pointer (some ⟨c.wg,0,none⟩),undef,undef,undef,undef,undef,undef,undef,undef,undef,undef,undef,undef,undef,undef,undef,undef,undef,undef,undef,undef,undef,undef,undef,undef,undef,undef,undef,undef,undef,undef,undef,undef,undef,undef,undef,undef,undef,undef,undef,undef,undef,undef,undef,undef,undef,undef,undef,undef,undef,undef,undef,undef,undef,undef,undef,undef,undef,undef,undef,undef,undef,undef,undef,undef,undef,undef,undef,undef,undef,undef,undef,undef,undef,undef,undef,undef,undef,undef,undef,undef,undef,undef,undef],[]⟩ [.code (f56.body.getD .skip)]) (a2.at aF (.inRegion aD (aI::aL)::aH)::csZ),w,mine⟩:=by
 have hF:=q;have j:=λ(n:ah.aN cx)(w':aO)(h:ai (ak (az c)) mine w0 w')=>arE e9 r hS (n.a_+1) n w' KX h;unfold Gj at j;simp only[f56,Option.getD_some,dp]at j⊢;refine bk (bR c) ?_;repeat w_go ai.trans
 refine dH Y hF λd a o t l u s m hF=>?_;refine YY (d1:=1) m Kg (a1:=.main .pn) (f1:=f+3) (stepG_mark0 .disable A_ Y Y BJ Y func73 Cq Cr Cs Ct) Y (λxs i hi hg=>?_) KX (λe=>e) A_ Y Y ?_
 .have h0:=hg.only i _ hi;subst h0;exact hg.waits p hi
 clear m s t a;refine bk (bR c) ?_;walk_nrm
 repeat w_but "code.loop" ai.trans
 u_c stepG_loop ai.trans hF
 exact Goes.stop (λd a=>⟨Y,λo _=>j o d (ai.trans hF a) ..⟩)
end
end
end sn
end Go.Proofs.YtncomcmfgmojkaaGreat
