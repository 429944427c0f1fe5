import Derived.Test.YtcjlmniddnnieaaGreatPAJ
set_option linter.all false
set_option maxRecDepth 100000
set_option maxHeartbeats 16000000
namespace Go.Proofs.YtcjlmniddnnieaaGreat
open Tryz
namespace tr
open Conc RowKit Conc.Lib ConcR.Gen ConcM au bn ai e_ bz
variable{P Q:cf}{w':aH}{g1:uaf}
section
section
variable{c:da}{Stop:Bool->ai.Lo At->aX->Prop}{mine:dY}
theorem RV:∀{n d:Nat}{g:uaf},QuitsD P n d g->QuitsD P (n+1) d g
 |0,_,_,h=>.inl h
 | _+1,_,_,h=>h.imp id λ⟨e,g',es,c,b,a⟩=>⟨e,g',es,c,b,RV a⟩
theorem OV{n d:Nat}{g:uaf}(h:QuitsD P n d g):∀r,QuitsD P (n+r) d g
 |0=>h
 |r+1=>RV (OV h r)
def atH{l:ai.Lo At}{γ:ai.aN cb}{X:aX}(f:dN (am (ar c)) l γ X w'){p:uac}{f1:Nat}{v:Int}(hs:stepG Q false X.g w'=.go g1 (w'.setCell ⟨c.wg,0,none⟩ (.int .u64 v)) #[⟨.cell ⟨c.wg,0,none⟩,false,true⟩,⟨.cell ⟨c.wg,0,none⟩,true,true⟩])(hrun:g1.status=.running)(hv:v=(((γ.al.aY-1)*4294967296+γ.al.ea.toNat:Nat):Int))(hd:0<l.deaf)(b:l.al=.work .rel p)(d:γ.al.ea=false\/2<=γ.al.aY)(g:f1<l.fuel)(a:l.mx=.idle)(h:l.tok=false)(hS:Stop false ({l with al:=.gone p,fuel:=f1}:ai.Lo At) ⟨g1,w'.setCell ⟨c.wg,0,none⟩ (.int .u64 v),X.mine⟩):Then (Z:=am (ar c)) Q Stop false l γ X w':=
 Nz f (a1:=.gone p) (b1:={γ.al with aY:=γ.al.aY-1}) (f1:=f1) hs hrun hv hd Y ⟨Y,Y,Y,Y⟩ (λxs i hi hg=>hg.out d AJ) g (.inr (Nat.sub_le _ _)) (λ_=>a) (λe=>AJ) (by rw[b];rfl) (λ_=>⟨Y,hS⟩) (.stop hS)
def s9{m:Bool}{l:ai.Lo At}{γ:ai.aN cb}{X:aX}(d:dN (am (ar c)) l γ X w')(hs:stepG Q m X.g w'=.go g1 w' #[⟨.cell ⟨c.wg,0,none⟩,false,true⟩])(hrun:g1.status=.running)(hd:0<l.deaf)(h:bf (am (ar c)) Q Stop m l γ ⟨g1,w',X.mine⟩):Then (Z:=am (ar c)) Q Stop m l γ X w':=by
 refine .quiet hs ⟨hrun,p_ _ _ _,λ_ _ _=>Y,⟨.inr ⟨Y,.inr (.inr LF),hd⟩,PA⟩,?_⟩ ?_
 .rintro(⟨e,a,b⟩|h)
  .simp only[List.mem_toArray,vbh,vbs,vdo]at a;subst a;rcases b with h|h|⟨_,h⟩|⟨_,h⟩|⟨h,_⟩<;>cases h
  grind
 grind[kx]
def atI{l:ai.Lo At}{γ:ai.aN cb}{X:aX}(f:dN (am (ar c)) l γ X w'){p:uac}{f1:Nat}{v:Int}(hs:stepG Q false X.g w'=.go g1 (w'.setCell ⟨c.wg,1,none⟩ (.int .u32 v)) (semEvents ⟨c.wg,1,none⟩))(hrun:g1.status=.running)(hv:v=((γ.al.gI+1:Nat):Int))(d:l.al=.work .lb p)(g:f1<l.fuel)(a:l.mx=.idle)(h:l.tok=false)(b:mayWake Q X.g=true)(hS:Stop false ({l with al:=.gone p,fuel:=f1}:ai.Lo At) ⟨g1,w'.setCell ⟨c.wg,1,none⟩ (.int .u32 v),X.mine⟩):Then (Z:=am (ar c)) Q Stop false l γ X w':=
 aaI f (a1:=.gone p) (b1:={γ.al with gI:=γ.al.gI+1}) (f1:=f1) hs hrun hv ⟨Y,Y⟩ ⟨Y,Y,Y,Y⟩ (λxs i hi hg=>hg.raise AJ) g (λ_=>a) (λe=>AJ) (by rw[d];rfl) (.inl b) (λ_=>⟨Y,hS⟩) (.stop hS)
def atJ{l:ai.Lo At}{γ:ai.aN cb}(h:hH (am (ar c)) l γ):γ.al.taken<=c.N:=by obtain⟨ls,i,hi,hg⟩:∃(ls:List (ai.Lo At))(i:Nat),ls[i]?=some l/\s6 (ar c) γ ls:=h;exact hg.pe.aS
def atK{l:ai.Lo At}{γ a:ai.aN cb}(h:(am (ar c)).dM l γ a)(hs:hH (am (ar c)) l a)(a3:γ.al.taken=c.N):a.al.taken=c.N:=by have b:=atJ hs;grind
def atL(n t:Nat)(hn:1<=n)(a:n<=250)(ht:t<=1):IntKind.wrap .u64 (((n*4294967296+t:Nat):Int)+18446744069414584320)=(((n-1)*4294967296+t:Nat):Int):=by rw[IntKind.wrap_u64];omega
def atM{f nq:Nat}{p:uac}(e5:c.most<=250)(M:∀b,c.K b\/mine b->b≠c.wg){w0:aH}{E:Frame}{cs:fG}(K:E.mode=.returning)(hq:QuitsD prog nq 0 (Conc.G E cs))(hS:∀f' g w',ak (am (ar c)) mine w0 w'->(∃n,QuitsD prog n 1 g)->Stop false ⟨.idle,false,1,f',.gone p⟩ ⟨g,w',mine⟩)(w:aH)(γ:ai.aN cb)(Z:ak (am (ar c)) mine w0 w)(a3:γ.al.taken=c.N):
 bf (am (ar c)) prog Stop false ⟨.idle,false,0,f+5,.work .free p⟩ γ ⟨Conc.G ((baseD 52).at ⟨#[.P c.wg 0,.U,.U,.U],[]⟩ [.code (f52.body.getD .skip)]) (E::cs),w,mine⟩:=by
 have hF:=Z;simp only[f52,vae];refine bb (bA c) ?_;repeat w_go ak.trans
 u_call func50 asu f50 ak.trans hF
 repeat w_go ak.trans
 refine dU rfl hF λl a r m k d o j hF=>?_;have Y:=(c_ (bA c)).trans _ _ _ _ m o;refine l5 (A:=ar c) (KS Vq Vr rfl rfl Ag rfl rfl (vH j.mt.2.1)) rfl rfl (.refl _) rfl rfl ?_;clear j o m a;refine bb (bA c) ?_;walk_nrm
 repeat w_go ak.trans
 refine dU rfl hF λl a r m T ep o j hF=>?_;have z:=(c_ (bA c)).trans _ _ _ _ Y ((c_ (bA c)).trans _ _ _ _ m o);refine aok j (f1:=f+4) (vck .releaseMerge AQ rfl rfl Ag rfl func70 UD UE UF UG Bi) rfl rfl (atK z j.sees a3) Kn rfl rfl ?_;clear Y z;clear j o m a;refine bb (bA c) ?_;walk_nrm
 repeat w_go ak.trans
 refine dU rfl hF λl a r m k d o j hF=>?_;refine s7 (d1:=1) (bA c) j LF (vbu .disable AQ rfl rfl Ag rfl func71 Du Dv Dw Dx) rfl La (s5 (f1:=f+3) Kn _) AQ rfl ?_;clear j o m a;refine bb (bA c) ?_;walk_nrm
 repeat w_go ak.trans
 u_defer ak.trans hF
 repeat w_go ak.trans
 refine dU rfl hF λl a r m k d o j hF=>?_;refine l5 (A:=ar c) (stepG_entry_pure (.F) rfl rfl Ag rfl func73 Wu Us Ri Q8) rfl rfl (.refl _) rfl rfl ?_;clear j o m a;refine bb (bA c) ?_;walk_nrm
 repeat w_go ak.trans
 u_call func77 QE f77 ak.trans hF
 repeat w_go ak.trans
 refine dU rfl hF λl a r m k d o j hF=>?_;have U:=Vp e5 j.sees;have W:=aof j.sees rfl;have hv:=atL d.al.aY d.al.ea.toNat W U (vau _);have J:=OU (d.al.aY-1) AP d.al.ea.toNat (by grind[Bool.toNat_le]);have L:=J.1;have I:=J.2;have t:((((d.al.aY-1)*4294967296+d.al.ea.toNat:Nat):Int)) / 4294967296=((d.al.aY-1:Nat):Int):=by grind[Bool.toNat_le]
 have S:IntKind.wrap .i32 ((d.al.aY-1:Nat):Int)=((d.al.aY-1:Nat):Int):=JH;have Q:decide (((d.al.aY-1:Nat):Int)<0)=false:=AQ;have N:=G_ (c:=c) (mine:=mine) M k 0 none (.int .u64 (((d.al.aY-1)*4294967296+d.al.ea.toNat:Nat):Int));have H:=λ(g:uaf)(h:∃n,QuitsD prog n 1 g)=>hS (f+2) g (k.setCell ⟨c.wg,0,none⟩ (.int .u64 (IntKind.wrap .u64 (((d.al.aY*4294967296+d.al.ea.toNat:Nat):Int)+18446744069414584320)))) (by grind[ak.trans]) h;clear J;by_cases F:d.al.ea=true/\d.al.aY=1
 .obtain⟨s,u⟩:=F;have X:(((d.al.aY-1)*4294967296+d.al.ea.toNat:Nat):Int)=1:=AJ;have bc:bits .and .u64 1 2147483648=0:=AU;have bW:bits .and .u64 1 2147483647=1:=AU;refine Nz j (a1:=.work .nW p) (b1:={d.al with aY:=d.al.aY-1}) (f1:=f+2) (stepG_add_atomic rfl rfl Ag rfl func106 UV UW UX .u64 UY rfl rfl (vH j.mt.2.1) (A7 j.mt.2.1 0 none)) rfl hv AQ rfl ⟨rfl,rfl,rfl,rfl⟩ (λxs i hi hg=>hg.an7 s u hi) Kn (.inr (Nat.sub_le _ _)) Lm AQ rfl Lm ?_;rw[hv];replace hF:=ak.trans hF N;rw[X]at hF⊢;clear H N hv L t I S Q X s u U W;clear j o m a;refine bb (bA c) ?_;walk_nrm
  repeat w_go ak.trans
  u_leave1 func77 ak.trans hF
  repeat w_go ak.trans
  u_call func79 U3 f79 ak.trans hF
  repeat w_go ak.trans
  refine dU rfl hF λl a r m k d o j hF=>?_;have B:=aaH j.sees rfl;have q:=vH j.mt.2.1;rw[B.1,B.2]at q;refine s9 j (stepG_load_atomic (v:=1) rfl rfl Ag rfl func107 UZ U0 U2 .u64 U1 rfl q) rfl AQ ?_;clear B q;clear j o m a;refine bb (bA c) ?_;walk_nrm
  repeat w_go ak.trans
  u_leave1 func79 ak.trans hF
  repeat w_go ak.trans
  u_call func80 asv f80 ak.trans hF
  repeat w_go ak.trans
  refine dU rfl hF λl a r m k d o j hF=>?_;have B:=aaH j.sees rfl;refine aoj j (a1:=.work .lb p) (b1:={d.al with ea:=false}) (f1:=f+1) (stepG_store_atomic rfl rfl Ag rfl func108 ase asf ash asg rfl rfl (vH j.mt.2.1) (A7 j.mt.2.1 0 none)) rfl AJ AQ rfl ⟨rfl,rfl,rfl,rfl⟩ (λxs i hi hg=>hg.an8 hi) Kn (.inr Kj) (λe=>e) AQ rfl ?_;replace hF:=ak.trans hF (G_ (c:=c) (mine:=mine) M k 0 none (.int .u64 0));clear B;clear j o m a;refine bb (bA c) ?_;walk_nrm
  repeat w_go ak.trans
  u_leave0 func80 ak.trans hF
  repeat w_go ak.trans
  refine dU rfl hF λl a r m k d o j hF=>?_;have R:=aog j.sees rfl;have q:=Nx j.mt.2.1;rw[R]at q;have V:=G_ (c:=c) (mine:=mine) M k 1 none (.int .u32 (IntKind.wrap .u32 (((0:Nat):Int)+1)));refine atI j (f1:=f) (stepG_semrelease (ad:=⟨c.wg,1,none⟩) rfl rfl Ag rfl func82 asi QF asj asl Bi q (A7 j.mt.2.1 1 none)) rfl (by rw[R];rfl) rfl Kn rfl rfl (mayWake_entry rfl rfl func82 QF) (hS f _ _ (ak.trans hF V) ?_);clear j o m a hS V q R hF;refine⟨nq+140,?_⟩;walk_nrm
  repeat q_go
  refine QuitsD.unwind_mark .enable rfl AQ rfl func72 rm rn rp rq ?_;simp only[deafBehind_enable1];q_leave0 func50
  repeat q_go
  exact QuitsD.leaveD rfl rfl func52 rfl K (OV hq _)
 .have D:d.al.ea=false\/2<=d.al.aY:=by grind
  refine atH j (f1:=f+2) (stepG_add_atomic rfl rfl Ag rfl func106 UV UW UX .u64 UY rfl rfl (vH j.mt.2.1) (A7 j.mt.2.1 0 none)) rfl hv AQ rfl D Kn rfl rfl (H _ ?_);rw[hv];clear j o m a H N hv hS;have xc:IntKind.u32.wrap 0=0:=AU;have om:IntKind.u32.wrap 1=1:=AU;by_cases s:d.al.ea=false
  .have P:bits .and .u64 (((d.al.aY-1)*4294967296+d.al.ea.toNat:Nat):Int) 2147483647=0:=by grind
   clear I s D F;generalize(((d.al.aY-1)*4294967296+d.al.ea.toNat:Nat):Int)=x at L t P⊢;generalize C:((d.al.aY-1:Nat):Int)=y at t S Q⊢;by_cases h0:y=0;focus
    clear C;subst h0
   rotate_left
   focus
    have O:decide (0<y)=true:=AJ;clear C
   rotate_left
   all_goals
    refine⟨nq+140,?_⟩;walk_nrm
    repeat q_go
    q_leave1 func77
    repeat q_go
    refine QuitsD.unwind_mark .enable rfl AQ rfl func72 rm rn rp rq ?_;simp only[deafBehind_enable1];q_leave0 func50
    repeat q_go
    exact QuitsD.leaveD rfl rfl func52 rfl K (OV hq _)
  .have s:d.al.ea=true:=by grind
   have P:bits .and .u64 (((d.al.aY-1)*4294967296+d.al.ea.toNat:Nat):Int) 2147483647=1:=AJ;have h2:2<=d.al.aY:=D.resolve_left AJ;clear I s D F;generalize(((d.al.aY-1)*4294967296+d.al.ea.toNat:Nat):Int)=x at L t P⊢;generalize C:((d.al.aY-1:Nat):Int)=y at t S Q⊢;have O:decide (0<y)=true:=AJ;clear C;refine⟨nq+140,?_⟩;walk_nrm
   repeat q_go
   q_leave1 func77
   repeat q_go
   refine QuitsD.unwind_mark .enable rfl AQ rfl func72 rm rn rp rq ?_;simp only[deafBehind_enable1];q_leave0 func50
   repeat q_go
   exact QuitsD.leaveD rfl rfl func52 rfl K (OV hq _)
