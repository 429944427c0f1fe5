import Derived.Test.YtnkpmooengcinaaGreatPAL
set_option linter.all false
set_option maxRecDepth 100000
set_option maxHeartbeats 16000000
namespace Go.Proofs.YtnkpmooengcinaaGreat
open Go.Proofs.Tryz
namespace sw
open Conc RowKit Conc.Lib ConcR.Gen ConcM av bn ae ej bM
def MR{p:Prop}(h:True)(_:p):True:=h
def MS(c:db)(g g':uai):Prop:=∃g1,(∀w,stepG prog true g w=.go g1 w #[⟨.mark (.acquire ⟨c.wg,0,none⟩),false,true⟩])/\∃n,∀w,Goes prog true (λ_ _=>True) Go.ConcR.DC0 (λg2 _=>g2=g') n g1 w
variable{w0:aH}
section
variable{c:db}{Stop:Bool->ae.Lo At->aV->Prop}{mine:c5}
variable{aY:Frame}{aF:Act}{az:eQ}{aI:Nat}{aK:uag}{aG:uab}{csZ:fA}
def Z9{l:ae.Lo At}{γ:ae.aM cj}(h:g8 (ak (ar c)) l γ)(a:l.aj=.main .pq):γ.aj.ea=false:=by obtain⟨xs,i,hi,hg⟩:=tj h;rw[a]at hi;have h0:=hg.only i _ hi;subst h0;obtain⟨s,hs,b⟩:=hg.main;rw[hi]at hs;cases hs;exact b.1
def aoQ{l:ae.Lo At}{γ:ae.aM cj}(h:g8 (ak (ar c)) l γ)(b:l.aj=.main .over):γ.aj.aX=0/\γ.aj.ea=false:=by obtain⟨xs,i,hi,hg⟩:=tj h;rw[b]at hi;have h0:=hg.only i _ hi;subst h0;obtain⟨s,hs,a⟩:=hg.main;rw[hi]at hs;cases hs;exact⟨a.2.1,a.1⟩
def aoR{l:ae.Lo At}{γ a:ae.aM cj}(h:(ak (ar c)).dH l γ a)(b:zY l.aj):a.aj.aX<=γ.aj.aX:=by grind
def F5(c:db)(Stop:Bool->ae.Lo At->aV->Prop)(mine:c5)(aY:Frame)(aF:Act)(az:eQ)(aI:Nat)(aK:uag)(aG:uab)(csZ:fA)(l:ae.Lo At)(γ:ae.aM cj)(w:aH):Prop:=
 ∀(cK c_ hX ir hY yU qz e9 e_ fa fb fc fd qA qB fD fm fo fp iP fq f_ ga gb uT uU uV uW uX uY uZ u9 u_ va vb vc vd ve vf vg vh vi yh yi yj yk yl ym yn yo yp yq yr yt yu yv yw yx yy yz yA yB yC yD yE yF yG yH yI yJ yK yL yM yN yO yP Ci Cj Ck Cl yQ yR yS:Value),bd (ak (ar c)) prog Stop true l γ ⟨Conc.G ((base 45).at ⟨#[.P c.wg 0,cK,c_,hX,ir,hY,yU,qz,e9,e_,fa,fb,fc,fd,qA,qB,fD,fm,fo,fp,iP,fq,f_,ga,gb,uT,uU,uV,uW,uX,uY,uZ,u9,u_,va,vb,vc,vd,ve,vf,vg,vh,vi,yh,yi,yj,yk,yl,ym,yn,yo,yp,yq,yr,yt,yu,yv,yw,yx,yy,yz,yA,yB,yC,yD,yE,yF,yG,yH,yI,yJ,yK,yL,yM,yN,yO,yP,Ci,Cj,Ck,Cl,yQ,yR,yS],[]⟩ [.code ((dA (f45.body.getD .skip)).getD .skip),.inLoop ((dA (f45.body.getD .skip)).getD .skip),.inBlock 0]) (aY.at aF (.inRegion az (aI::aK)::aG)::csZ),w,mine⟩
theorem aoS{f:Nat}(eR:c.most<=250)(P:∀b,c.K b\/mine b->b≠c.wg)(N:∀g w',ai (ak (ar c)) mine w0 w'->MS c g (Conc.G (aY.at (aF.put ((az[aI]?).bind (·.dst)) (.tuple #[])) (.inRegion az aK::aG)) csZ)->Stop true ⟨.idle,false,0,f,.main .over⟩ ⟨g,w',mine⟩)(w:aH)(γ:ae.aM cj)(X:ai (ak (ar c)) mine w0 w)(I:∀w' Q,Q.a4<γ.a4->ai (ak (ar c)) mine w0 w'->F5 c Stop mine aY aF az aI aK aG csZ ⟨.idle,false,1,f+3,.main .pq⟩ Q w'):F5 c Stop mine aY aF az aI aK aG csZ ⟨.idle,false,1,f+3,.main .pq⟩ γ w:=by
 unfold F5;intros
 unfold F5 at I;have hF:=X;simp only[f45,vah,dA]at I⊢;refine a8 (bu c) ?_;repeat w_go ai.trans
 u_call func70 R3 f70 ai.trans hF
 repeat w_go ai.trans
 refine dO rfl hF λj a r n m k p d hF=>?_;have So:=(df (bu c)).trans _ _ _ _ n p;have s_:=Sl eR d.sees;have Z:=Z9 d.sees rfl;have o:=uA d.mt.2.1;have O:((k.aj.aX*4294967296+k.aj.ea.toNat:Nat):Int)=((k.aj.aX:Nat):Int)*4294967296:=by grind
 rw[O]at o;have U:=MP k.aj.aX AY 0 AY;have C:bits .and .u64 (((k.aj.aX:Nat):Int)*4294967296) 2147483648=0:=AN;have B:bits .and .u64 (((k.aj.aX:Nat):Int)*4294967296) 2147483647=0:=AN;have E:(((k.aj.aX:Nat):Int)*4294967296) / 4294967296=((k.aj.aX:Nat):Int):=AY;have T:IntKind.wrap .i32 ((k.aj.aX:Nat):Int)=((k.aj.aX:Nat):Int):=HG;have z:IntKind.wrap .u64 (((k.aj.aX:Nat):Int)*4294967296+1)=((k.aj.aX:Nat):Int)*4294967296+1:=by rw[IntKind.wrap_u64];omega
 have Y:IntKind.u32.wrap 0=0:=AX;refine r9 d (stepG_load_atomic rfl rfl Ad rfl func98 RZ R0 R2 .u64 R1 rfl o) rfl Ab ?_;clear d p n a o U O;by_cases hz:k.aj.aX=0
 .have L:(((k.aj.aX:Nat):Int)==0)=true:=by grind
  generalize t:((k.aj.aX:Nat):Int)=y at C E B z T L⊢;generalize y*4294967296=x at C E B z⊢;clear t z;refine a8 (bu c) ?_;walk_nrm
  repeat w_go ai.trans
  u_leave1 func70 ai.trans hF
  repeat w_go ai.trans
  refine dO rfl hF λj a r n m k p d hF=>?_;refine Xe (d1:=0) d Io (a1:=.main .over) (f1:=f) (vbs .enable Ab rfl rfl Ad rfl func63 qv qw qx qy) rfl (λxs i hi hg=>?_) Ab (λe=>e) Ab rfl rfl ?_
  .have h0:=hg.only i _ hi;subst h0;refine hg.zero hi ?_;have h1:=aoR (l:=⟨.idle,false,1,f+3,.main .pq⟩) ((df (bu c)).trans _ _ _ _ n p) trivial;omega
  clear p n a;refine a8 (bu c) ?_;walk_nrm
  repeat w_go ai.trans
  refine dO rfl hF λj a r n m k p d hF=>?_;refine lv (A:=ar c) (I9 Sm Sn rfl rfl Ad rfl rfl (uA d.mt.2.1)) rfl rfl (.refl _) rfl rfl ?_;clear d p n a;walk_nrm
  refine .stop (N _ _ hF ⟨_,λw=>vck .acquire Ab rfl rfl Ad rfl func76 FA FB FC FD BF,60,λw=>?_⟩);have hF:True:=trivial;walk_nrm
  repeat w_go MR
  u_leave0 func45 MR hF
  grind[Goes.stop]
 .have L:(((k.aj.aX:Nat):Int)==0)=false:=by grind
  generalize t:((k.aj.aX:Nat):Int)=y at C E B z T L⊢;generalize K:y*4294967296=x at C E B z⊢;refine a8 (bu c) ?_;walk_nrm
  repeat w_go ai.trans
  u_leave1 func70 ai.trans hF
  repeat w_go ai.trans
  u_call func78 anu f78 ai.trans hF
  repeat w_go ai.trans
  refine dO rfl hF λj a r n s q F d hF=>?_;have R:(ak (ar c)).dH ⟨.idle,false,1,f+3,.main .pq⟩ k q:=(df (bu c)).trans _ _ _ _ n F;have u:=Z9 d.sees rfl;have o:=uA d.mt.2.1;have D:((q.aj.aX*4294967296+q.aj.ea.toNat:Nat):Int)=((q.aj.aX:Nat):Int)*4294967296:=by grind
  by_cases H:q.aj.aX=k.aj.aX
  .rw[D,H,t,K]at o;have hv:x+1=((({q.aj with ea:=true}:cj).aX*4294967296+({q.aj with ea:=true}:cj).ea.toNat:Nat):Int):=by grind
   refine LH d (a1:=.main .r_) (b1:={q.aj with ea:=true}) (f1:=f+2) (stepG_cas_hit rfl rfl Ad rfl func104 Zt Zu Zv .u64 Zw rfl rfl rfl o (zZ d.mt.2.1 0 none)) rfl hv Ab rfl ⟨rfl,rfl,rfl,rfl⟩ (λxs i hi hg=>?_) IY (.inl trivial) I8 Ab rfl I8 ?_
   .have h0:=hg.only i _ hi;subst h0;exact hg.aj7 hi AY
   replace hF:=ai.trans hF (F4 (c:=c) (mine:=mine) P s 0 none (.int .u64 (x+1)));clear d F n a o hv D H R u K t;refine a8 (bu c) ?_;walk_nrm
   repeat w_go ai.trans
   u_leave1 func78 ai.trans hF
   repeat w_go ai.trans
   refine dO rfl hF λj a r n m k p d hF=>?_;refine lv (A:=ar c) (I9 Z2 Z3 rfl rfl Ad rfl rfl (LF d.mt.2.1)) rfl rfl (.refl _) rfl rfl ?_;clear d p n a;refine a8 (bu c) ?_;walk_nrm
   repeat w_go ai.trans
   refine dO rfl hF λj a r n m k p d hF=>?_;refine Z4 d Io trivial (vck .write Ab rfl rfl Ad rfl func79 ano anp anq anr BF) rfl ?_;clear d p n a;refine a8 (bu c) ?_;walk_nrm
   repeat w_go ai.trans
   refine dO rfl hF λj a r n m k p d hF=>?_;have o:=LF d.mt.2.1;by_cases hsz:k.aj.gz=0
   .rw[hsz]at o;exact .wait (stepG_semacquire_wait (ad:=⟨c.wg,1,none⟩) rfl rfl rfl func80 Zx Zy Zz ZA BF o) rfl (.inr ⟨rfl,rfl,hsz⟩) I3
   have S:((k.aj.gz:Nat):Int)-1=((k.aj.gz-1:Nat):Int):=AY;have M:=F4 (c:=c) (mine:=mine) P m 1 none (.int .u32 (((k.aj.gz:Nat):Int)-1));refine Xd d (a1:=.main .over) (b1:={k.aj with gz:=k.aj.gz-1}) (f1:=f+1) (stepG_semacquire (ad:=⟨c.wg,1,none⟩) rfl rfl Ad rfl func80 Zx Zy Zz ZA BF o AY (zZ d.mt.2.1 1 none)) rfl S ⟨rfl,rfl⟩ ⟨rfl,rfl,rfl,rfl⟩ (λxs i hi hg=>?_) IY I8 Ab rfl (.inr hsz) I8 ?_
   .have h0:=hg.only i _ hi;subst h0;exact hg.PN hi hsz
   replace hF:=ai.trans hF M;clear M S hsz o;clear d p n a;refine a8 (bu c) ?_;walk_nrm
   repeat w_go ai.trans
   u_call func70 R3 f70 ai.trans hF
   repeat w_go ai.trans
   refine dO rfl hF λj a r n m k p d hF=>?_;have J:=aoQ d.sees rfl;have o:=uA d.mt.2.1;rw[J.1,J.2]at o;refine r9 d (stepG_load_atomic (v:=0) rfl rfl Ad rfl func98 RZ R0 R2 .u64 R1 rfl o) rfl Ab ?_;clear J o;clear d p n a;refine a8 (bu c) ?_;walk_nrm
   repeat w_go ai.trans
   u_leave1 func70 ai.trans hF
   repeat w_go ai.trans
   refine dO rfl hF λj a r n m k p d hF=>?_;refine r5 (d1:=0) (bu c) d Io (vbs .enable Ab rfl rfl Ad rfl func63 qv qw qx qy) rfl I3 (rZ (f1:=f) IY _) Ab rfl ?_;clear p n a;refine a8 (bu c) ?_;walk_nrm
   repeat w_go ai.trans
   refine dO rfl hF λj a r n m k p d hF=>?_;refine lv (A:=ar c) (I9 Sm Sn rfl rfl Ad rfl rfl (uA d.mt.2.1)) rfl rfl (.refl _) rfl rfl ?_;clear d p n a;walk_nrm
   refine .stop (N _ _ hF ⟨_,λw=>vck .acquire Ab rfl rfl Ad rfl func76 FA FB FC FD BF,60,λw=>?_⟩);have hF:True:=trivial;walk_nrm
   repeat w_go MR
   u_leave0 func45 MR hF
   grind[Goes.stop]
  .rw[D]at o;have V:q.a4<γ.a4:=by grind
   refine r9 d (stepG_cas_miss rfl rfl Ad rfl func104 Zt Zu Zv .u64 Zw rfl rfl rfl o (zZ d.mt.2.1 0 none) AY) rfl Ab ?_;clear d F n a o D H R u K t;refine a8 (bu c) ?_;walk_nrm
   repeat w_go ai.trans
   u_leave1 func78 ai.trans hF
   repeat w_nl ai.trans
   u_c stepG_inLoop ai.trans hF
   exact vaf (λj a=>⟨rfl,λr W=>(I j q V (ai.trans hF a) ..).kG (df (bu c)) W⟩)
def aoT{f:Nat}(eR:c.most<=250)(e:∀b,c.K b\/mine b->b≠c.wg)(d:∀g w',ai (ak (ar c)) mine w0 w'->MS c g (Conc.G (aY.at (aF.put ((az[aI]?).bind (·.dst)) (.tuple #[])) (.inRegion az aK::aG)) csZ)->Stop true ⟨.idle,false,0,f,.main .over⟩ ⟨g,w',mine⟩):
 ∀(N:Nat)(γ:ae.aM cj)(w:aH),γ.a4<N->ai (ak (ar c)) mine w0 w->F5 c Stop mine aY aF az aI aK aG csZ ⟨.idle,false,1,f+3,.main .pq⟩ γ w:=by
 intro N;induction N with|zero=>grind|succ N a=>grind[aoS]
end
section
section
variable{c:db}{Stop:Bool->ae.Lo At->aV->Prop}{mine:c5}
variable{aY:Frame}{aF:Act}{az:eQ}{aI:Nat}{aK:uag}{aG:uab}{csZ:fA}
def aoU{f k:Nat}(p:0<k)(eR:c.most<=250)(s:∀b,c.K b\/mine b->b≠c.wg)(q:∀g w',ai (ak (ar c)) mine w0 w'->MS c g (Conc.G (aY.at (aF.put ((az[aI]?).bind (·.dst)) (.tuple #[])) (.inRegion az aK::aG)) csZ)->Stop true ⟨.idle,false,0,f,.main .over⟩ ⟨g,w',mine⟩)(w:aH)(γ:ae.aM cj)(r:ai (ak (ar c)) mine w0 w):
 bd (ak (ar c)) prog Stop true ⟨.idle,false,0,f+4,.main (.spawn k false)⟩ γ ⟨Conc.G ((base 45).at ⟨#[.P c.wg 0,.U,.U,.U,.U,.U,.U,.U,.U,.U,.U,.U,.U,.U,.U,.U,.U,.U,.U,.U,.U,.U,.U,.U,.U,.U,.U,.U,.U,.U,.U,.U,.U,.U,.U,.U,.U,.U,.U,.U,.U,.U,.U,.U,.U,.U,.U,.U,.U,.U,.U,.U,.U,.U,.U,.U,.U,.U,.U,.U,.U,.U,.U,.U,.U,.U,.U,.U,.U,.U,.U,.U,.U,.U,.U,.U,.U,.U,.U,.U,.U,.U,.U,.U],[]⟩ [.code (f45.body.getD .skip)]) (aY.at aF (.inRegion az (aI::aK)::aG)::csZ),w,mine⟩:=by
 have hF:=r;have j:=λ(n:ae.aM cj)(w':aH)(h:ai (ak (ar c)) mine w0 w')=>aoT eR s q (n.a4+1) n w' IY h;unfold F5 at j;simp only[f45,vah,dA]at j⊢;refine a8 (bu c) ?_;repeat w_go ai.trans
 refine dO U hF λd a o t l v u m hF=>?_;refine Xe (d1:=1) m Ij (a1:=.main .pq) (f1:=f+3) (vbs .disable Ab U U Ad U func62 Ce Cf Cg Ch) U (λxs i hi hg=>?_) IY (λe=>e) Ab U U ?_
 .have h0:=hg.only i _ hi;subst h0;exact hg.waits p hi
 clear m u t a;refine a8 (bu c) ?_;walk_nrm
 repeat w_but "code.loop" ai.trans
 u_c stepG_loop ai.trans hF
 exact vaf (λd a=>⟨U,λo _=>j o d (ai.trans hF a) ..⟩)
