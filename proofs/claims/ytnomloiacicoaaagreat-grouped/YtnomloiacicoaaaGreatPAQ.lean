import Derived.Test.YtnomloiacicoaaaGreatPAL
set_option linter.all false
set_option maxRecDepth 100000
set_option maxHeartbeats 16000000
namespace Go.Proofs.YtnomloiacicoaaaGreat
open Tryz
namespace tS
open Conc RowKit Conc.Lib ConcR.Gen ConcM av bj ah eK bQ
def OX{p:Prop}(h:True)(_:p):True:=h
def OY(c:dU)(g g':uaj):Prop:=∃g1,(∀w,stepG prog true g w=.go g1 w #[⟨.mark (.acquire ⟨c.wg,0,none⟩),false,true⟩])/\∃n,∀w,Goes prog true (λ_ _=>True) Go.ConcR.DC0 (λg2 _=>g2=g') n g1 w
variable{w0:aR}
section
variable{c:dU}{Stop:Bool->ah.Lo At->a0->Prop}{mine:dL}
variable{a2:Frame}{aI:Act}{aC:fF}{aL:Nat}{aO:uac}{aK:uab}{csZ:hH}
def VP{l:ah.Lo At}{γ:ah.aQ cO}(h:ib (ao (ay c)) l γ)(a:l.am=.main .qx):γ.am.eF=false:=by obtain⟨xs,i,hi,hg⟩:=vM h;rw[a]at hi;have h0:=hg.only i _ hi;subst h0;obtain⟨s,hs,b⟩:=hg.main;rw[hi]at hs;cases hs;exact b.1
def atR{l:ah.Lo At}{γ:ah.aQ cO}(h:ib (ao (ay c)) l γ)(b:l.am=.main .over):γ.am.aS=0/\γ.am.eF=false:=by obtain⟨xs,i,hi,hg⟩:=vM h;rw[b]at hi;have h0:=hg.only i _ hi;subst h0;obtain⟨s,hs,a⟩:=hg.main;rw[hi]at hs;cases hs;exact⟨a.2.1,a.1⟩
def atS{l:ah.Lo At}{γ a:ah.aQ cO}(h:(ao (ay c)).ey l γ a)(b:Ba l.am):a.am.aS<=γ.am.aS:=by grind
def HP(c:dU)(Stop:Bool->ah.Lo At->a0->Prop)(mine:dL)(a2:Frame)(aI:Act)(aC:fF)(aL:Nat)(aO:uac)(aK:uab)(csZ:hH)(l:ah.Lo At)(γ:ah.aQ cO)(w:aR):Prop:=
 ∀(cC dm gB j9 jz EW tR gi gj gl gm gn gp rN rO gA gq gr gu jh gv g9 g_ hh wa wb wc wd we wh wi wj wk wl wm wo wq wt wu wv ww wx zn zo zp zq zr zt zu zv zw zx zy zz zA zB zC zD zE zF zG zH zI zJ zK zL zM zN zO zP zQ zR zS zT zU zV DX DY DZ D1 zW zX zY:Value),bc (ao (ay c)) prog Stop true l γ ⟨Conc.G ((base 52).at ⟨#[.P c.wg 0,cC,dm,gB,j9,jz,EW,tR,gi,gj,gl,gm,gn,gp,rN,rO,gA,gq,gr,gu,jh,gv,g9,g_,hh,wa,wb,wc,wd,we,wh,wi,wj,wk,wl,wm,wo,wq,wt,wu,wv,ww,wx,zn,zo,zp,zq,zr,zt,zu,zv,zw,zx,zy,zz,zA,zB,zC,zD,zE,zF,zG,zH,zI,zJ,zK,zL,zM,zN,zO,zP,zQ,zR,zS,zT,zU,zV,DX,DY,DZ,D1,zW,zX,zY],[]⟩ [.code ((dV (f52.body.getD .skip)).getD .skip),.inLoop ((dV (f52.body.getD .skip)).getD .skip),.inBlock 0]) (a2.at aI (.inRegion aC (aL::aO)::aK)::csZ),w,mine⟩
theorem atT{f}(fl:c.most<=250)(O:∀b,c.K b\/mine b->b≠c.wg)(N:∀g w',ai (ao (ay c)) mine w0 w'->OY c g (Conc.G (a2.at (aI.put ((aC[aL]?).bind (·.dst)) (.tuple #[])) (.inRegion aC aO::aK)) csZ)->Stop true ⟨.idle,false,0,f,.main .over⟩ ⟨g,w',mine⟩)w γ(V:ai (ao (ay c)) mine w0 w)(I:∀w' P,P.a7<γ.a7->ai (ao (ay c)) mine w0 w'->HP c Stop mine a2 aI aC aL aO aK csZ ⟨.idle,false,1,f+3,.main .qx⟩ P w'):HP c Stop mine a2 aI aC aL aO aK csZ ⟨.idle,false,1,f+3,.main .qx⟩ γ w:=by
 unfold HP;intros
 unfold HP at I;have hF:=V;simp only[f52,vaf,dV]at I⊢;refine bf (bW c) ?_;repeat w_go ai.trans
 u_call func77 Vl f77 ai.trans hF
 repeat w_go ai.trans
 refine ei Y hF λj a r n m k p d hF=>?_;have VC:=(dE (bW c)).trans _ _ _ _ n p;have X:=Vz fl d.sees;have W:=VP d.sees Y;have o:=vL d.mt.2.1;have e0:((k.am.aS*4294967296+k.am.eF.toNat:Nat):Int)=((k.am.aS:Nat):Int)*4294967296:=by grind
 rw[e0]at o;have T:=OV k.am.aS AQ 0 AQ;have D:bits .and .u64 (((k.am.aS:Nat):Int)*4294967296) 2147483648=0:=AA;have C:bits .and .u64 (((k.am.aS:Nat):Int)*4294967296) 2147483647=0:=AA;have E:(((k.am.aS:Nat):Int)*4294967296) / 4294967296=((k.am.aS:Nat):Int):=AQ;have R:IntKind.wrap .i32 ((k.am.aS:Nat):Int)=((k.am.aS:Nat):Int):=Ia;have s:IntKind.wrap .u64 (((k.am.aS:Nat):Int)*4294967296+1)=((k.am.aS:Nat):Int)*4294967296+1:=by rw[IntKind.wrap_u64];omega
 have Cz:IntKind.u32.wrap 0=0:=AF;refine tA d (stepG_load_atomic Y Y An Y func105 Vh Vi Vk .u64 Vj Y o) Y AS ?_;clear d p n a o T e0;by_cases Z:k.am.aS=0
 .have L:(((k.am.aS:Nat):Int)==0)=true:=by grind
  generalize t:((k.am.aS:Nat):Int)=y at D E C s R L⊢;generalize y*4294967296=x at D E C s⊢;clear t s;refine bf (bW c) ?_;walk_nrm
  repeat w_go ai.trans
  u_leave1 func77 ai.trans hF
  repeat w_go ai.trans
  refine ei Y hF λj a r n m k p d hF=>?_;refine abd (d1:=0) d Jz (a1:=.main .over) (f1:=f) (vbz .enable AS Y Y An Y func70 rJ rK rL rM) Y (λxs i hi hg=>?_) AS (λe=>e) AS Y Y ?_
  .have h0:=hg.only i _ hi;subst h0;refine hg.zero hi ?_;have h1:=atS (l:=⟨.idle,false,1,f+3,.main .qx⟩) ((dE (bW c)).trans _ _ _ _ n p) trivial;omega
  clear p n a;refine bf (bW c) ?_;walk_nrm
  repeat w_go ai.trans
  refine ei Y hF λj a r n m k p d hF=>?_;refine mo (A:=ay c) (KR VA VB Y Y An Y Y (vL d.mt.2.1)) Y Y (.refl _) Y Y ?_;clear d p n a;walk_nrm
  refine .stop (N _ _ hF ⟨_,λw=>vcq .acquire AS Y Y An Y func83 Ho Hp Hq Hr Bk,60,λw=>?_⟩);have hF:True:=trivial;walk_nrm
  repeat w_go OX
  u_leave0 func52 OX hF
  grind[Goes.stop]
 .have L:(((k.am.aS:Nat):Int)==0)=false:=by grind
  generalize t:((k.am.aS:Nat):Int)=y at D E C s R L⊢;generalize K:y*4294967296=x at D E C s⊢;refine bf (bW c) ?_;walk_nrm
  repeat w_go ai.trans
  u_leave1 func77 ai.trans hF
  repeat w_go ai.trans
  u_call func85 asx f85 ai.trans hF
  repeat w_go ai.trans
  refine ei Y hF λj a r n u q F d hF=>?_;have B:(ao (ay c)).ey ⟨.idle,false,1,f+3,.main .qx⟩ k q:=(dE (bW c)).trans _ _ _ _ n F;have z:=VP d.sees Y;have o:=vL d.mt.2.1;have e3:((q.am.aS*4294967296+q.am.eF.toNat:Nat):Int)=((q.am.aS:Nat):Int)*4294967296:=by grind
  by_cases H:q.am.aS=k.am.aS
  .rw[e3,H,t,K]at o;have hv:x+1=((({q.am with eF:=true}:cO).aS*4294967296+({q.am with eF:=true}:cO).eF.toNat:Nat):Int):=by grind
   refine NQ d (a1:=.main .tB) (b1:={q.am with eF:=true}) (f1:=f+2) (stepG_cas_hit Y Y An Y func111 ac6 ac7 ac8 .u64 Z0 Y Y Y o (Bb d.mt.2.1 0 none)) Y hv AS Y ⟨Y,Y,Y,Y⟩ (λxs i hi hg=>?_) Jo (.inl trivial) KQ AS Y KQ ?_
   .have h0:=hg.only i _ hi;subst h0;exact hg.ao6 hi AQ
   replace hF:=ai.trans hF (HO (c:=c) (mine:=mine) O u 0 none (.int .u64 (x+1)));clear d F n a o hv e3 H B z K t;refine bf (bW c) ?_;walk_nrm
   repeat w_go ai.trans
   u_leave1 func85 ai.trans hF
   repeat w_go ai.trans
   refine ei Y hF λj a r n m k p d hF=>?_;refine mo (A:=ay c) (KR Wk Wf Y Y An Y Y (NO d.mt.2.1)) Y Y (.refl _) Y Y ?_;clear d p n a;refine bf (bW c) ?_;walk_nrm
   repeat w_go ai.trans
   refine ei Y hF λj a r n m k p d hF=>?_;refine V1 d Jz trivial (vcq .write AS Y Y An Y func86 asr ass ast asu Bk) Y ?_;clear d p n a;refine bf (bW c) ?_;walk_nrm
   repeat w_go ai.trans
   refine ei Y hF λj a r n m k p d hF=>?_;have o:=NO d.mt.2.1;by_cases hsz:k.am.gT=0
   .rw[hsz]at o;exact .wait (stepG_semacquire_wait (ad:=⟨c.wg,1,none⟩) Y Y Y func87 YA UL UJ UA Bk o) Y (.inr ⟨Y,Y,hsz⟩) Ke
   have Q:((k.am.gT:Nat):Int)-1=((k.am.gT-1:Nat):Int):=AQ;have M:=HO (c:=c) (mine:=mine) O m 1 none (.int .u32 (((k.am.gT:Nat):Int)-1));refine abc d (a1:=.main .over) (b1:={k.am with gT:=k.am.gT-1}) (f1:=f+1) (stepG_semacquire (ad:=⟨c.wg,1,none⟩) Y Y An Y func87 YA UL UJ UA Bk o AQ (Bb d.mt.2.1 1 none)) Y Q ⟨Y,Y⟩ ⟨Y,Y,Y,Y⟩ (λxs i hi hg=>?_) Jo KQ AS Y (.inr hsz) KQ ?_
   .have h0:=hg.only i _ hi;subst h0;exact hg.Tx hi hsz
   replace hF:=ai.trans hF M;clear M Q hsz o;clear d p n a;refine bf (bW c) ?_;walk_nrm
   repeat w_go ai.trans
   u_call func77 Vl f77 ai.trans hF
   repeat w_go ai.trans
   refine ei Y hF λj a r n m k p d hF=>?_;have J:=atR d.sees Y;have o:=vL d.mt.2.1;rw[J.1,J.2]at o;refine tA d (stepG_load_atomic (v:=0) Y Y An Y func105 Vh Vi Vk .u64 Vj Y o) Y AS ?_;clear J o;clear d p n a;refine bf (bW c) ?_;walk_nrm
   repeat w_go ai.trans
   u_leave1 func77 ai.trans hF
   repeat w_go ai.trans
   refine ei Y hF λj a r n m k p d hF=>?_;refine tu (d1:=0) (bW c) d Jz (vbz .enable AS Y Y An Y func70 rJ rK rL rM) Y Ke (tr (f1:=f) Jo _) AS Y ?_;clear p n a;refine bf (bW c) ?_;walk_nrm
   repeat w_go ai.trans
   refine ei Y hF λj a r n m k p d hF=>?_;refine mo (A:=ay c) (KR VA VB Y Y An Y Y (vL d.mt.2.1)) Y Y (.refl _) Y Y ?_;clear d p n a;walk_nrm
   refine .stop (N _ _ hF ⟨_,λw=>vcq .acquire AS Y Y An Y func83 Ho Hp Hq Hr Bk,60,λw=>?_⟩);have hF:True:=trivial;walk_nrm
   repeat w_go OX
   u_leave0 func52 OX hF
   grind[Goes.stop]
  .rw[e3]at o;have S:q.a7<γ.a7:=by grind
   refine tA d (stepG_cas_miss Y Y An Y func111 ac6 ac7 ac8 .u64 Z0 Y Y Y o (Bb d.mt.2.1 0 none) AQ) Y AS ?_;clear d F n a o e3 H B z K t;refine bf (bW c) ?_;walk_nrm
   repeat w_go ai.trans
   u_leave1 func85 ai.trans hF
   repeat w_nl ai.trans
   u_c stepG_inLoop ai.trans hF
   exact vaj (λj a=>⟨Y,λr U=>(I j q S (ai.trans hF a) ..).ln (dE (bW c)) U⟩)
def atU{f}(fl:c.most<=250)(e:∀b,c.K b\/mine b->b≠c.wg)(d:∀g w',ai (ao (ay c)) mine w0 w'->OY c g (Conc.G (a2.at (aI.put ((aC[aL]?).bind (·.dst)) (.tuple #[])) (.inRegion aC aO::aK)) csZ)->Stop true ⟨.idle,false,0,f,.main .over⟩ ⟨g,w',mine⟩):
 ∀N γ w,γ.a7<N->ai (ao (ay c)) mine w0 w->HP c Stop mine a2 aI aC aL aO aK csZ ⟨.idle,false,1,f+3,.main .qx⟩ γ w:=by
 intro N;induction N with|zero=>grind|succ N a=>grind[atT]
end
section
section
variable{c:dU}{Stop:Bool->ah.Lo At->a0->Prop}{mine:dL}
variable{a2:Frame}{aI:Act}{aC:fF}{aL:Nat}{aO:uac}{aK:uab}{csZ:hH}
def atV{f k:Nat}(p:0<k)(fl:c.most<=250)(s:∀b,c.K b\/mine b->b≠c.wg)(q:∀g w',ai (ao (ay c)) mine w0 w'->OY c g (Conc.G (a2.at (aI.put ((aC[aL]?).bind (·.dst)) (.tuple #[])) (.inRegion aC aO::aK)) csZ)->Stop true ⟨.idle,false,0,f,.main .over⟩ ⟨g,w',mine⟩)(w:aR)(γ:ah.aQ cO)(r:ai (ao (ay c)) mine w0 w):
 bc (ao (ay c)) prog Stop true ⟨.idle,false,0,f+4,.main (.spawn k false)⟩ γ ⟨Conc.G ((base 52).at ⟨#[.P c.wg 0,.U,.U,.U,.U,.U,.U,.U,.U,.U,.U,.U,.U,.U,.U,.U,.U,.U,.U,.U,.U,.U,.U,.U,.U,.U,.U,.U,.U,.U,.U,.U,.U,.U,.U,.U,.U,.U,.U,.U,.U,.U,.U,.U,.U,.U,.U,.U,.U,.U,.U,.U,.U,.U,.U,.U,.U,.U,.U,.U,.U,.U,.U,.U,.U,.U,.U,.U,.U,.U,.U,.U,.U,.U,.U,.U,.U,.U,.U,.U,.U,.U,.U,.U],[]⟩ [.code (f52.body.getD .skip)]) (a2.at aI (.inRegion aC (aL::aO)::aK)::csZ),w,mine⟩:=by
 have hF:=r;have j:=λ(n:ah.aQ cO)(w':aR)(h:ai (ao (ay c)) mine w0 w')=>atU fl s q (n.a7+1) n w' Jo h;unfold HP at j;simp only[f52,vaf,dV]at j⊢;refine bf (bW c) ?_;repeat w_go ai.trans
 refine ei Y hF λd a o u l v t m hF=>?_;refine abd (d1:=1) m Jv (a1:=.main .qx) (f1:=f+3) (vbz .disable AS Y Y An Y func69 DT DU DV DW) Y (λxs i hi hg=>?_) Jo (λe=>e) AS Y Y ?_
 .have h0:=hg.only i _ hi;subst h0;exact hg.waits p hi
 clear m t u a;refine bf (bW c) ?_;walk_nrm
 repeat w_but "code.loop" ai.trans
 u_c stepG_loop ai.trans hF
 exact vaj (λd a=>⟨Y,λo _=>j o d (ai.trans hF a) ..⟩)
