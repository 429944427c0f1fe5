import Derived.Test.YtoehnnefaeoeoaaGreatPAF
set_option linter.all false
set_option maxRecDepth 100000
set_option maxHeartbeats 16000000
namespace Go.Proofs.YtoehnnefaeoeoaaGreat
open Go.Proofs.Tryz
namespace vp
open Conc RowKit Conc.Lib ConcR.Gen ConcM az bu ab gb ba
theorem N5{p:Prop}(h:True)(_:p):True:=h
def N6(c:dT)(g g':Goroutine):Prop:=∃g1,(∀w,stepG prog true g w=.go g1 w #[⟨.mark (.acquire ⟨c.wg,0,none⟩),false,true⟩])/\∃n,∀w,Goes prog true (fun _ _=>True) Go.ConcR.DC0 (fun fR _=>fR=g') n g1 w
variable {w0:World}
section
variable {c:dT} {Stop:Bool->ab.av aV->a6->Prop} {mine:Nat->Prop}
variable {b₁:Frame} {a₁:Act} {aG:Array Oper} {i₁:Nat} {aP:List Nat} {k₁:List Item} {cs₁:List Frame}
theorem abP{l:ab.av aV}{γ:ab.aT cF}(h:hX (ah (aE c)) l γ)(e:l.am=.main .ss):γ.am.eg=false:=by obtain⟨xs,i,hi,b⟩:=xD h;rw[e]at hi;have h0:=b.only i _ hi;subst h0;obtain⟨s,a,d⟩:=b.main;rw[hi]at a;cases a;exact d.1
theorem art{l:ab.av aV}{γ:ab.aT cF}(h:hX (ah (aE c)) l γ)(e:l.am=.main .over):γ.am.a0=0/\γ.am.eg=false:=by obtain⟨xs,i,hi,d⟩:=xD h;rw[e]at hi;have h0:=d.only i _ hi;subst h0;obtain⟨s,a,b⟩:=d.main;rw[hi]at a;cases a;exact⟨b.2.1,b.1⟩
theorem aru{l:ab.av aV}{γ a:ab.aT cF}(h:(ah (aE c)).dN l γ a)(b:Bi l.am):a.am.a0<=γ.am.a0:=by grind
def GI(c:dT)(Stop:Bool->ab.av aV->a6->Prop)(mine:Nat->Prop)(b₁:Frame)(a₁:Act)(aG:Array Oper)(i₁:Nat)(aP:List Nat)(k₁:List Item)(cs₁:List Frame)(l:ab.av aV)(γ:ab.aT cF)(w:World):Prop:=
 ∀(dn ep mC jG iR BM l6 eu d7 ew ey ez eA ld lf eL eB eC eD gx eE fb fc fe m3 m4 m5 m6 m7 m8 m9 m_ na nc nd ne nf ng nh ni nj nk ow ox oy oz oA oB oC oD oE oF oG oH oI oJ oK oL oM oN oO oP oQ oR oS oT oU oV oW oX oY oZ o0 o5 o6 o7 qJ qK qL qM o8 o9 o_:Value),bh (ah (aE c)) prog Stop true l γ ⟨Conc.G ((base 53).at ⟨#[.pointer (some ⟨c.wg,0,none⟩),dn,ep,mC,jG,iR,BM,l6,eu,d7,ew,ey,ez,eA,ld,lf,eL,eB,eC,eD,gx,eE,fb,fc,fe,m3,m4,m5,m6,m7,m8,m9,m_,na,nc,nd,ne,nf,ng,nh,ni,nj,nk,ow,ox,oy,oz,oA,oB,oC,oD,oE,oF,oG,oH,oI,oJ,oK,oL,oM,oN,oO,oP,oQ,oR,oS,oT,oU,oV,oW,oX,oY,oZ,o0,o5,o6,o7,qJ,qK,qL,qM,o8,o9,o_],[]⟩ [.code ((cS (f53.body.getD .skip)).getD .skip),.inLoop ((cS (f53.body.getD .skip)).getD .skip),.inBlock 0]) (b₁.at a₁ (.inRegion aG (i₁::aP)::k₁)::cs₁),w,mine⟩
theorem arv{f:Nat}(fo:c.d4<=250)(Q:∀b,c.K b\/mine b->b≠c.wg)
 (hS:∀g w',U (ah (aE c)) mine w0 w'->N6 c g (Conc.G (b₁.at (a₁.put ((aG[i₁]?).bind (·.dst)) (.tuple #[])) (.inRegion aG aP::k₁)) cs₁)->Stop true ⟨.idle,false,0,f,.main .over⟩ ⟨g,w',mine⟩) (w:World) (γ:ab.aT cF) (X:U (ah (aE c)) mine w0 w)
 (J:∀w' R,R.be<γ.be->U (ah (aE c)) mine w0 w'->GI c Stop mine b₁ a₁ aG i₁ aP k₁ cs₁ ⟨.idle,false,1,f+3,.main .ss⟩ R w'):GI c Stop mine b₁ a₁ aG i₁ aP k₁ cs₁ ⟨.idle,false,1,f+3,.main .ss⟩ γ w:=by
 unfold GI;intros
 unfold GI at J;have hF:=X;simp only[f53,Option.getD_some,cS]at J⊢;refine a5 (aN (bR c)) Js 300 _ _ γ Jt ?_;repeat w_go U.trans
 u_call func78 Te f78 U.trans hF
 repeat w_go U.trans
 refine dj rfl hF fun o k q j r d n a hF=>?_;have TA:=(aN (bR c)).trans _ _ _ _ j n;have tQ:=Tx fo a.sees;have xv:=abP a.sees rfl;have m:=xC a.mt.2.1;have P:((d.am.a0*4294967296+d.am.eg.toNat:Nat):Int)=((d.am.a0:Nat):Int)*4294967296:=by grind
 rw[P]at m;have V:=N3 d.am.a0 Ay 0 Ay;have D:bits .and .u64 (((d.am.a0:Nat):Int)*4294967296) 2147483648=0:=AU;have C:bits .and .u64 (((d.am.a0:Nat):Int)*4294967296) 2147483647=0:=AU;have F:(((d.am.a0:Nat):Int)*4294967296) / 4294967296=((d.am.a0:Nat):Int):=Ay;have T:IntKind.wrap .i32 ((d.am.a0:Nat):Int)=((d.am.a0:Nat):Int):=Io;have B:IntKind.wrap .u64 (((d.am.a0:Nat):Int)*4294967296+1)=((d.am.a0:Nat):Int)*4294967296+1:=by rw[IntKind.wrap_u64];omega
 have CG:IntKind.u32.wrap 0=0:=AW;refine tj a (stepG_load_atomic rfl rfl Bc rfl func106 Ta Tb Td .u64 Tc rfl m) rfl Aa ?_;clear a n j k m V P;by_cases hz:d.am.a0=0
 ·have M:(((d.am.a0:Nat):Int)==0)=true:=by grind
  generalize t:((d.am.a0:Nat):Int)=y at D F C B T M⊢;generalize y*4294967296=x at D F C B⊢;clear t B;refine a5 (aN (bR c)) Js 300 _ _ _ Jt ?_;walk_nrm
  repeat w_go U.trans
  u_leave1 func78 U.trans hF
  repeat w_go U.trans
  refine dj rfl hF fun o k q j r d n a hF=>?_;refine Y5 (d1:=0) a K0 (a1:=.main .over) (f1:=f) (stepG_mark0 .enable Aa rfl rfl Bc rfl func71 oq ot ou ov) rfl (fun xs i hi s=>?_) Aa (fun e=>e) Aa rfl rfl ?_
  ·have h0:=s.only i _ hi;subst h0;refine s.zero hi ?_;have h1:=aru (l:=⟨.idle,false,1,f+3,.main .ss⟩) ((aN (bR c)).trans _ _ _ _ j n) trivial;omega
  clear n j k;refine a5 (aN (bR c)) Js 300 _ _ _ Jt ?_;walk_nrm
  repeat w_go U.trans
  refine dj rfl hF fun o k q j r d n a hF=>?_;refine k8 (A:=aE c) (JQ Ty Tz rfl rfl Bc rfl rfl (xC a.mt.2.1)) rfl rfl (.refl _) rfl rfl ?_;clear a n j k;walk_nrm
  refine .stop (hS _ _ hF ⟨_,fun w=>stepG_markAt .acquire Aa rfl rfl Bc rfl func84 BF BG BH BI CX,60,fun w=>?_⟩);have hF:True:=trivial;walk_nrm
  repeat w_go N5
  u_leave0 func53 N5 hF
  grind[Goes.stop]
 ·have M:(((d.am.a0:Nat):Int)==0)=false:=by grind
  generalize t:((d.am.a0:Nat):Int)=y at D F C B T M⊢;generalize L:y*4294967296=x at D F C B⊢;refine a5 (aN (bR c)) Js 300 _ _ _ Jt ?_;walk_nrm
  repeat w_go U.trans
  u_leave1 func78 U.trans hF
  repeat w_go U.trans
  u_call func86 apU f86 U.trans hF
  repeat w_go U.trans
  refine dj rfl hF fun o k q j Y p H a hF=>?_;have z:(ah (aE c)).dN ⟨.idle,false,1,f+3,.main .ss⟩ d p:=(aN (bR c)).trans _ _ _ _ j H;have u:=abP a.sees rfl;have m:=xC a.mt.2.1;have E:((p.am.a0*4294967296+p.am.eg.toNat:Nat):Int)=((p.am.a0:Nat):Int)*4294967296:=by grind
  by_cases I:p.am.a0=d.am.a0
  ·rw[E,I,t,L]at m;have O:x+1=((({p.am with eg:=true}:cF).a0*4294967296+({p.am with eg:=true}:cF).eg.toNat:Nat):Int):=by grind
   refine MJ a (a1:=.main .vc) (b1:={p.am with eg:=true}) (f1:=f+2) (stepG_cas_hit rfl rfl Bc rfl func112 aba abb abc .u64 abd rfl rfl rfl m (Bj a.mt.2.1 0 none)) rfl O Aa rfl ⟨rfl,rfl,rfl⟩ (fun xs i hi s=>?_) KI (.inl trivial) K5 Aa rfl K5 ?_
   ·have h0:=s.only i _ hi;subst h0;exact s.alv hi Ay
   replace hF:=U.trans hF (GH (c:=c) (mine:=mine) Q Y 0 none (.int .u64 (x+1)));clear a H j k m O E I z u L t;refine a5 (aN (bR c)) Js 300 _ _ _ Jt ?_;walk_nrm
   repeat w_go U.trans
   u_leave1 func86 U.trans hF
   repeat w_go U.trans
   refine dj rfl hF fun o k q j r d n a hF=>?_;refine k8 (A:=aE c) (JQ abG abH rfl rfl Bc rfl rfl (MH a.mt.2.1)) rfl rfl (.refl _) rfl rfl ?_;clear a n j k;refine a5 (aN (bR c)) Js 300 _ _ _ Jt ?_;walk_nrm
   repeat w_go U.trans
   refine dj rfl hF fun o k q j r d n a hF=>?_;refine abI a K0 trivial (stepG_markAt .write Aa rfl rfl Bc rfl func87 apO apP apQ apR CX) rfl ?_;clear a n j k;refine a5 (aN (bR c)) Js 300 _ _ _ Jt ?_;walk_nrm
   repeat w_go U.trans
   refine dj rfl hF fun o k q j r d n a hF=>?_;have m:=MH a.mt.2.1;by_cases hsz:d.am.gP=0
   ·rw[hsz]at m;exact .wait (stepG_semacquire_wait (ad:=⟨c.wg,1,none⟩) rfl rfl rfl func88 abe abf abg abh CX m) rfl (.inr ⟨rfl,rfl,hsz⟩) K4
   have S:((d.am.gP:Nat):Int)-1=((d.am.gP-1:Nat):Int):=Ay;have N:=GH (c:=c) (mine:=mine) Q r 1 none (.int .u32 (((d.am.gP:Nat):Int)-1));refine Y4 a (a1:=.main .over) (b1:={d.am with gP:=d.am.gP-1}) (f1:=f+1) (stepG_semacquire (ad:=⟨c.wg,1,none⟩) rfl rfl Bc rfl func88 abe abf abg abh CX m Ay (Bj a.mt.2.1 1 none)) rfl S ⟨rfl,rfl⟩ ⟨rfl,rfl,rfl⟩ (fun xs i hi s=>?_) KI K5 Aa rfl (.inr hsz) K5 ?_
   ·have h0:=s.only i _ hi;subst h0;exact s.Rk hi hsz
   replace hF:=U.trans hF N;clear N S hsz m;clear a n j k;refine a5 (aN (bR c)) Js 300 _ _ _ Jt ?_;walk_nrm
   repeat w_go U.trans
   u_call func78 Te f78 U.trans hF
   repeat w_go U.trans
   refine dj rfl hF fun o k q j r d n a hF=>?_;have K:=art a.sees rfl;have m:=xC a.mt.2.1;rw[K.1,K.2]at m;refine tj a (stepG_load_atomic (v:=0) rfl rfl Bc rfl func106 Ta Tb Td .u64 Tc rfl m) rfl Aa ?_;clear K m;clear a n j k;refine a5 (aN (bR c)) Js 300 _ _ _ Jt ?_;walk_nrm
   repeat w_go U.trans
   u_leave1 func78 U.trans hF
   repeat w_go U.trans
   refine dj rfl hF fun o k q j r d n a hF=>?_;refine sq (d1:=0) (bR c) a K0 (stepG_mark0 .enable Aa rfl rfl Bc rfl func71 oq ot ou ov) rfl K4 (sn (f1:=f) KI _) Aa rfl ?_;clear n j k;refine a5 (aN (bR c)) Js 300 _ _ _ Jt ?_;walk_nrm
   repeat w_go U.trans
   refine dj rfl hF fun o k q j r d n a hF=>?_;refine k8 (A:=aE c) (JQ Ty Tz rfl rfl Bc rfl rfl (xC a.mt.2.1)) rfl rfl (.refl _) rfl rfl ?_;clear a n j k;walk_nrm
   refine .stop (hS _ _ hF ⟨_,fun w=>stepG_markAt .acquire Aa rfl rfl Bc rfl func84 BF BG BH BI CX,60,fun w=>?_⟩);have hF:True:=trivial;walk_nrm
   repeat w_go N5
   u_leave0 func53 N5 hF
   grind[Goes.stop]
  ·rw[E]at m;have Z:p.be<γ.be:=by grind
   refine tj a (stepG_cas_miss rfl rfl Bc rfl func112 aba abb abc .u64 abd rfl rfl rfl m (Bj a.mt.2.1 0 none) Ay) rfl Aa ?_;clear a H j k m E I z u L t;refine a5 (aN (bR c)) Js 300 _ _ _ Jt ?_;walk_nrm
   repeat w_go U.trans
   u_leave1 func86 U.trans hF
   repeat w_nl U.trans
   u_c stepG_inLoop U.trans hF
   exact Goes.stop (fun o k=>⟨rfl,fun q W=>(J o p Z (U.trans hF k) ..).k5 (aN (bR c)) W⟩)
theorem arw{f:Nat}(fo:c.d4<=250)(d:∀b,c.K b\/mine b->b≠c.wg)
 (hS:∀g w',U (ah (aE c)) mine w0 w'->N6 c g (Conc.G (b₁.at (a₁.put ((aG[i₁]?).bind (·.dst)) (.tuple #[])) (.inRegion aG aP::k₁)) cs₁)->Stop true ⟨.idle,false,0,f,.main .over⟩ ⟨g,w',mine⟩):
 ∀(N:Nat)(γ:ab.aT cF)(w:World),γ.be<N->U (ah (aE c)) mine w0 w->GI c Stop mine b₁ a₁ aG i₁ aP k₁ cs₁ ⟨.idle,false,1,f+3,.main .ss⟩ γ w:=by
 intro N;induction N with|zero=>grind|succ N a=>grind[arv]
end
section
section
variable {c:dT} {Stop:Bool->ab.av aV->a6->Prop} {mine:Nat->Prop}
variable {b₁:Frame} {a₁:Act} {aG:Array Oper} {i₁:Nat} {aP:List Nat} {k₁:List Item} {cs₁:List Frame}
theorem arx{f k:Nat}(p:0<k)(fo:c.d4<=250)(r:∀b,c.K b\/mine b->b≠c.wg)
 (hS:∀g w',U (ah (aE c)) mine w0 w'->N6 c g (Conc.G (b₁.at (a₁.put ((aG[i₁]?).bind (·.dst)) (.tuple #[])) (.inRegion aG aP::k₁)) cs₁)->Stop true ⟨.idle,false,0,f,.main .over⟩ ⟨g,w',mine⟩) (w:World) (γ:ab.aT cF) (q:U (ah (aE c)) mine w0 w):
 bh (ah (aE c)) prog Stop true ⟨.idle,false,0,f+4,.main (.spawn k false)⟩ γ ⟨Conc.G ((base 53).at ⟨#[.pointer (some ⟨c.wg,0,none⟩),undef,undef,undef,undef,undef,undef,undef,undef,undef,undef,undef,undef,undef,undef,undef,undef,undef,undef,undef,undef,undef,undef,undef,undef,undef,undef,undef,undef,undef,undef,undef,undef,undef,undef,undef,undef,undef,undef,undef,undef,undef,undef,undef,undef,undef,undef,undef,undef,undef,undef,undef,undef,undef,undef,undef,undef,undef,undef,undef,undef,undef,undef,undef,undef,undef,undef,undef,undef,undef,undef,undef,undef,undef,undef,undef,undef,undef,undef,undef,undef,undef,undef,undef],[]⟩ [.code (f53.body.getD .skip)]) (b₁.at a₁ (.inRegion aG (i₁::aP)::k₁)::cs₁),w,mine⟩:=by
 have hF:=q;have a:=fun(m:ab.aT cF)(w':World)(h:U (ah (aE c)) mine w0 w')=>arw fo r hS (m.be+1) m w' KI h;unfold GI at a;simp only[f53,Option.getD_some,cS]at a⊢;refine a5 (aN (bR c)) Js 300 _ _ γ Jt ?_;repeat w_go U.trans
 refine dj rfl hF fun o d n t v u s j hF=>?_;refine Y5 (d1:=1) j Jt (a1:=.main .ss) (f1:=f+3) (stepG_mark0 .disable Aa rfl rfl Bc rfl func70 D1 D2 D3 D4) rfl (fun xs i hi l=>?_) KI (fun e=>e) Aa rfl rfl ?_
 ·have h0:=l.only i _ hi;subst h0;exact l.waits p hi
 clear j s t d;refine a5 (aN (bR c)) Js 300 _ _ _ Jt ?_;walk_nrm
 repeat w_but "code.loop" U.trans
 u_c stepG_loop U.trans hF
 exact Goes.stop (fun o d=>⟨rfl,fun n _=>a n o (U.trans hF d) ..⟩)
end
end
end vp
end Go.Proofs.YtoehnnefaeoeoaaGreat
