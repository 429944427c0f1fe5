import Derived.Test.YtebcnmadaaimoaaGreatPAH
import Derived.Test.YtebcnmadaaimoaaGreatPAI
set_option linter.all false
set_option maxRecDepth 100000
set_option maxHeartbeats 16000000
namespace Go.Proofs.YtebcnmadaaimoaaGreat
open Go.Proofs.Tryz
namespace ti
open Conc RowKit Conc.Lib ConcR.Gen ConcM az bo ag ft bR
variable{P Q:cf}{w':aL}{g1:uai}
section
section
variable{c:dy}{Stop:Bool->ag.Lo At->aX->Prop}{mine:c7}
theorem zQ:∀{n d:Nat}{g:uai},QuitsD P n d g->QuitsD P (n+1) d g
 |0,_,_,h=>.inl h
 | _+1,_,_,h=>h.imp id λ⟨e,g',es,c,b,a⟩=>⟨e,g',es,c,b,zQ a⟩
theorem Ov{n d:Nat}{g:uai}(h:QuitsD P n d g):∀r,QuitsD P (n+r) d g
 |0=>h
 |r+1=>zQ (Ov h r)
def atI{l:ag.Lo At}{γ:ag.aN ck}{X:aX}(f:dP (al (av c)) l γ X w'){p:uac}{f1:Nat}{v:Int}(hs:stepG Q false X.g w'=.go g1 (w'.setCell ⟨c.wg,0,none⟩ (.int .u64 v)) #[⟨.cell ⟨c.wg,0,none⟩,false,true⟩,⟨.cell ⟨c.wg,0,none⟩,true,true⟩])(hrun:g1.status=.running)(hv:v=(((γ.aj.aW-1)*4294967296+γ.aj.et.toNat:Nat):Int))(hd:0<l.deaf)(b:l.aj=.work .rel p)(d:γ.aj.et=false\/2<=γ.aj.aW)(g:f1<l.fuel)(a:l.mx=.idle)(h:l.tok=false)(hS:Stop false ({l with aj:=.gone p,fuel:=f1}:ag.Lo At) ⟨g1,w'.setCell ⟨c.wg,0,none⟩ (.int .u64 v),X.mine⟩):Then (Z:=al (av c)) Q Stop false l γ X w':=
 MX f (a1:=.gone p) (b1:={γ.aj with aW:=γ.aj.aW-1}) (f1:=f1) hs hrun hv hd U ⟨U,U,U,U⟩ (λxs i hi hg=>hg.out d AF) g (.inr (Nat.sub_le _ _)) (λ_=>a) (λe=>AF) (by rw[b];rfl) (λ_=>⟨U,hS⟩) (.stop hS)
def sY{m:Bool}{l:ag.Lo At}{γ:ag.aN ck}{X:aX}(d:dP (al (av c)) l γ X w')(hs:stepG Q m X.g w'=.go g1 w' #[⟨.cell ⟨c.wg,0,none⟩,false,true⟩])(hrun:g1.status=.running)(hd:0<l.deaf)(h:bg (al (av c)) Q Stop m l γ ⟨g1,w',X.mine⟩):Then (Z:=al (av c)) Q Stop m l γ X w':=by
 refine .quiet hs ⟨hrun,pW _ _ _,λ_ _ _=>U,⟨.inr ⟨U,.inr (.inr KB),hd⟩,NE⟩,?_⟩ ?_
 .rintro(⟨e,a,b⟩|h)
  .simp only[List.mem_toArray,vbo,vdd,or_false]at a;subst a;rcases b with h|h|⟨_,h⟩|⟨_,h⟩|⟨h,_⟩<;>cases h
  grind
 grind[kC]
def atJ{l:ag.Lo At}{γ:ag.aN ck}{X:aX}(f:dP (al (av c)) l γ X w'){p:uac}{f1:Nat}{v:Int}(hs:stepG Q false X.g w'=.go g1 (w'.setCell ⟨c.wg,1,none⟩ (.int .u32 v)) (semEvents ⟨c.wg,1,none⟩))(hrun:g1.status=.running)(hv:v=((γ.aj.gF+1:Nat):Int))(d:l.aj=.work .lb p)(g:f1<l.fuel)(a:l.mx=.idle)(h:l.tok=false)(b:mayWake Q X.g=true)(hS:Stop false ({l with aj:=.gone p,fuel:=f1}:ag.Lo At) ⟨g1,w'.setCell ⟨c.wg,1,none⟩ (.int .u32 v),X.mine⟩):Then (Z:=al (av c)) Q Stop false l γ X w':=
 Zc f (a1:=.gone p) (b1:={γ.aj with gF:=γ.aj.gF+1}) (f1:=f1) hs hrun hv ⟨U,U⟩ ⟨U,U,U,U⟩ (λxs i hi hg=>hg.raise AF) g (λ_=>a) (λe=>AF) (by rw[d];rfl) (.inl b) (λ_=>⟨U,hS⟩) (.stop hS)
def atK{l:ag.Lo At}{γ a:ag.aN ck}(h:(al (av c)).dO l γ a)(hs:ij (al (av c)) l a)(a4:oG c.N γ.aj):oG c.N a.aj:=r4 a4 AF
def atL(n t:Nat)(hn:1<=n)(a:n<=250)(ht:t<=1):IntKind.wrap .u64 (((n*4294967296+t:Nat):Int)+18446744069414584320)=(((n-1)*4294967296+t:Nat):Int):=by rw[IntKind.wrap_u64];omega
def atM{f nq:Nat}{p:uac}(eR:c.most<=250)(M:∀b,c.K b\/mine b->b≠c.wg){w0:aL}{E:Frame}{cs:dZ}(J:E.mode=.returning)(hq:QuitsD prog nq 0 (Conc.G E cs))(hS:∀f' g w',ak (al (av c)) mine w0 w'->(∃n,QuitsD prog n 1 g)->Stop false ⟨.idle,false,1,f',.gone p⟩ ⟨g,w',mine⟩)(w:aL)(γ:ag.aN ck)(Z:ak (al (av c)) mine w0 w)(a4:oG c.N γ.aj):
 bg (al (av c)) prog Stop false ⟨.idle,false,0,f+5,.work .free p⟩ γ ⟨Conc.G ((baseD 50).at ⟨#[.P c.wg 0,.U,.U,.U],[]⟩ [.code (f50.body.getD .skip)]) (E::cs),w,mine⟩:=by
 have hF:=Z;simp only[f50,vae];refine a9 (bD c) ?_;repeat w_go ak.trans
 u_call func48 aso f48 ak.trans hF
 repeat w_go ak.trans
 refine dY rfl hF λl a r o k d m j hF=>?_;have Y:=(dk (bD c)).trans _ _ _ _ o m;refine l6 (A:=av c) (Kv Uw Ux rfl rfl Ap rfl rfl (vg j.mt.2.1)) rfl rfl (.refl _) rfl rfl ?_;clear j m o a;refine a9 (bD c) ?_;walk_nrm
 repeat w_go ak.trans
 refine dY rfl hF λl a r o T eF m j hF=>?_;have z:=(dk (bD c)).trans _ _ _ _ Y ((dk (bD c)).trans _ _ _ _ o m);refine amO j (f1:=f+4) (vcw .releaseMerge Ab rfl rfl Ap rfl func68 TM TN TO TP Bn) rfl rfl (atK z j.sees a4) Jz rfl rfl ?_;clear Y z;clear j m o a;refine a9 (bD c) ?_;walk_nrm
 repeat w_go ak.trans
 refine dY rfl hF λl a r o k d m j hF=>?_;refine sV (d1:=1) (bD c) j KB (vbu .disable Ab rfl rfl Ap rfl func69 Dg Dh Di Dj) rfl K8 (sU (f1:=f+3) Jz _) Ab rfl ?_;clear j m o a;refine a9 (bD c) ?_;walk_nrm
 repeat w_go ak.trans
 u_defer ak.trans hF
 repeat w_go ak.trans
 refine dY rfl hF λl a r o k d m j hF=>?_;refine l6 (A:=av c) (stepG_entry_pure (.F) rfl rfl Ap rfl func71 Pj Sd R4 R1) rfl rfl (.refl _) rfl rfl ?_;clear j m o a;refine a9 (bD c) ?_;walk_nrm
 repeat w_go ak.trans
 u_call func75 Rm f75 ak.trans hF
 repeat w_go ak.trans
 refine dY rfl hF λl a r o k d m j hF=>?_;have U:=Uv eR j.sees;have W:=amJ j.sees rfl;have hv:=atL d.aj.aW d.aj.et.toNat W U (vaz _);have I:=Ou (d.aj.aW-1) AX d.aj.et.toNat (by grind[Bool.toNat_le]);have K:=I.1;have H:=I.2;have t:((((d.aj.aW-1)*4294967296+d.aj.et.toNat:Nat):Int)) / 4294967296=((d.aj.aW-1:Nat):Int):=by grind[Bool.toNat_le]
 have S:IntKind.wrap .i32 ((d.aj.aW-1:Nat):Int)=((d.aj.aW-1:Nat):Int):=IZ;have R:decide (((d.aj.aW-1:Nat):Int)<0)=false:=Ab;have L:=G8 (c:=c) (mine:=mine) M k 0 none (.int .u64 (((d.aj.aW-1)*4294967296+d.aj.et.toNat:Nat):Int));have F:=λ(g:uai)(h:∃n,QuitsD prog n 1 g)=>hS (f+2) g (k.setCell ⟨c.wg,0,none⟩ (.int .u64 (IntKind.wrap .u64 (((d.aj.aW*4294967296+d.aj.et.toNat:Nat):Int)+18446744069414584320)))) (by grind[ak.trans]) h;clear I;by_cases P:d.aj.et=true/\d.aj.aW=1
 .obtain⟨s,u⟩:=P;have X:(((d.aj.aW-1)*4294967296+d.aj.et.toNat:Nat):Int)=1:=AF;have b_:bits .and .u64 1 2147483648=0:=AU;have cG:bits .and .u64 1 2147483647=1:=AU;refine MX j (a1:=.work .nW p) (b1:={d.aj with aW:=d.aj.aW-1}) (f1:=f+2) (vda rfl rfl Ap rfl func104 T4 T5 T6 .u64 T7 rfl rfl (vg j.mt.2.1) (AM j.mt.2.1 0 none)) rfl hv Ab rfl ⟨rfl,rfl,rfl,rfl⟩ (λxs i hi hg=>hg.amB s u hi) Jz (.inr (Nat.sub_le _ _)) LH Ab rfl LH ?_;rw[hv];replace hF:=ak.trans hF L;rw[X]at hF⊢;clear F L hv K t H S R X s u U W;clear j m o a;refine a9 (bD c) ?_;walk_nrm
  repeat w_go ak.trans
  u_leave1 func75 ak.trans hF
  repeat w_go ak.trans
  u_call func77 Ub f77 ak.trans hF
  repeat w_go ak.trans
  refine dY rfl hF λl a r o k d m j hF=>?_;have B:=Zb j.sees rfl;have q:=vg j.mt.2.1;rw[B.1,B.2]at q;refine sY j (stepG_load_atomic (v:=1) rfl rfl Ap rfl func105 T8 T9 Ua .u64 T_ rfl q) rfl Ab ?_;clear B q;clear j m o a;refine a9 (bD c) ?_;walk_nrm
  repeat w_go ak.trans
  u_leave1 func77 ak.trans hF
  repeat w_go ak.trans
  u_call func78 asp f78 ak.trans hF
  repeat w_go ak.trans
  refine dY rfl hF λl a r o k d m j hF=>?_;have B:=Zb j.sees rfl;refine amN j (a1:=.work .lb p) (b1:={d.aj with et:=false}) (f1:=f+1) (stepG_store_atomic rfl rfl Ap rfl func106 ar9 ar_ asb asa rfl rfl (vg j.mt.2.1) (AM j.mt.2.1 0 none)) rfl AF Ab rfl ⟨rfl,rfl,rfl,rfl⟩ (λxs i hi hg=>hg.amC hi) Jz (.inr Jb) (λe=>e) Ab rfl ?_;replace hF:=ak.trans hF (G8 (c:=c) (mine:=mine) M k 0 none (.int .u64 0));clear B;clear j m o a;refine a9 (bD c) ?_;walk_nrm
  repeat w_go ak.trans
  u_leave0 func78 ak.trans hF
  repeat w_go ak.trans
  refine dY rfl hF λl a r o k d m j hF=>?_;have Q:=amK j.sees rfl;have q:=MV j.mt.2.1;rw[Q]at q;have V:=G8 (c:=c) (mine:=mine) M k 1 none (.int .u32 (IntKind.wrap .u32 (((0:Nat):Int)+1)));refine atJ j (f1:=f) (stepG_semrelease (ad:=⟨c.wg,1,none⟩) rfl rfl Ap rfl func80 asc Rv asd ase Bn q (AM j.mt.2.1 1 none)) rfl (by rw[Q];rfl) rfl Jz rfl rfl (mayWake_entry rfl rfl func80 Rv) (hS f _ _ (ak.trans hF V) ?_);clear j m o a hS V q Q hF;refine⟨nq+140,?_⟩;walk_nrm
  repeat q_go
  refine QuitsD.unwind_mark .enable rfl Ab rfl func70 re rf rg rh ?_;simp only[deafBehind_enable1];q_leave0 func48
  repeat q_go
  exact QuitsD.leaveD rfl rfl func50 rfl J (Ov hq _)
 .have D:d.aj.et=false\/2<=d.aj.aW:=by grind
  refine atI j (f1:=f+2) (vda rfl rfl Ap rfl func104 T4 T5 T6 .u64 T7 rfl rfl (vg j.mt.2.1) (AM j.mt.2.1 0 none)) rfl hv Ab rfl D Jz rfl rfl (F _ ?_);rw[hv];clear j m o a F L hv hS;have x5:IntKind.u32.wrap 0=0:=AU;have m3:IntKind.u32.wrap 1=1:=AU;by_cases s:d.aj.et=false
  .have O:bits .and .u64 (((d.aj.aW-1)*4294967296+d.aj.et.toNat:Nat):Int) 2147483647=0:=by grind
   clear H s D P;generalize(((d.aj.aW-1)*4294967296+d.aj.et.toNat:Nat):Int)=x at K t O⊢;generalize C:((d.aj.aW-1:Nat):Int)=y at t S R⊢;by_cases h0:y=0;focus
    clear C;subst h0
   rotate_left
   focus
    have N:decide (0<y)=true:=AF;clear C
   rotate_left
   all_goals
    refine⟨nq+140,?_⟩;walk_nrm
    repeat q_go
    q_leave1 func75
    repeat q_go
    refine QuitsD.unwind_mark .enable rfl Ab rfl func70 re rf rg rh ?_;simp only[deafBehind_enable1];q_leave0 func48
    repeat q_go
    exact QuitsD.leaveD rfl rfl func50 rfl J (Ov hq _)
  .have s:d.aj.et=true:=by grind
   have O:bits .and .u64 (((d.aj.aW-1)*4294967296+d.aj.et.toNat:Nat):Int) 2147483647=1:=AF;have h2:2<=d.aj.aW:=D.resolve_left AF;clear H s D P;generalize(((d.aj.aW-1)*4294967296+d.aj.et.toNat:Nat):Int)=x at K t O⊢;generalize C:((d.aj.aW-1:Nat):Int)=y at t S R⊢;have N:decide (0<y)=true:=AF;clear C;refine⟨nq+140,?_⟩;walk_nrm
   repeat q_go
   q_leave1 func75
   repeat q_go
   refine QuitsD.unwind_mark .enable rfl Ab rfl func70 re rf rg rh ?_;simp only[deafBehind_enable1];q_leave0 func48
   repeat q_go
   exact QuitsD.leaveD rfl rfl func50 rfl J (Ov hq _)
