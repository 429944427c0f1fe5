import Derived.Test.YtnkpmooengcinaaGreatPAH
import Derived.Test.YtnkpmooengcinaaGreatPAI
set_option linter.all false
set_option maxRecDepth 100000
set_option maxHeartbeats 16000000
namespace Go.Proofs.YtnkpmooengcinaaGreat
open Go.Proofs.Tryz
namespace sw
open Conc RowKit Conc.Lib ConcR.Gen ConcM av bn ae ej bM
variable{P Q:ck}{w':aH}{g1:uai}
section
section
variable{c:db}{Stop:Bool->ae.Lo At->aV->Prop}{mine:c5}
theorem Z6:∀{n d:Nat}{g:uai},QuitsD P n d g->QuitsD P (n+1) d g
 |0,_,_,h=>.inl h
 | _+1,_,_,h=>h.imp id λ⟨e,g',es,c,b,a⟩=>⟨e,g',es,c,b,Z6 a⟩
theorem MQ{n d:Nat}{g:uai}(h:QuitsD P n d g):∀r,QuitsD P (n+r) d g
 |0=>h
 |r+1=>Z6 (MQ h r)
def aoC{l:ae.Lo At}{γ:ae.aM cj}{X:aV}(g:dI (ak (ar c)) l γ X w'){p:uac}{f1:Nat}{v:Int}(hs:stepG Q false X.g w'=.go g1 (w'.setCell ⟨c.wg,0,none⟩ (.int .u64 v)) #[⟨.cell ⟨c.wg,0,none⟩,false,true⟩,⟨.cell ⟨c.wg,0,none⟩,true,true⟩])(hrun:g1.status=.running)(hv:v=(((γ.aj.aX-1)*4294967296+γ.aj.ea.toNat:Nat):Int))(hd:0<l.deaf)(d:l.aj=.work .rel p)(f:γ.aj.ea=false\/2<=γ.aj.aX)(h:f1<l.fuel)(a:l.mx=.idle)(j:l.tok=false)(b:Stop false ({l with aj:=.gone p,fuel:=f1}:ae.Lo At) ⟨g1,w'.setCell ⟨c.wg,0,none⟩ (.int .u64 v),X.mine⟩):Then (Z:=ak (ar c)) Q Stop false l γ X w':=
 LH g (a1:=.gone p) (b1:={γ.aj with aX:=γ.aj.aX-1}) (f1:=f1) hs hrun hv hd U ⟨U,U,U,U⟩ (λxs i hi hg=>hg.out f AN) h (.inr (Nat.sub_le _ _)) (λ_=>a) (λe=>AN) (by rw[d];rfl) (λ_=>⟨U,b⟩) (.stop b)
def r9{m:Bool}{l:ae.Lo At}{γ:ae.aM cj}{X:aV}(d:dI (ak (ar c)) l γ X w')(hs:stepG Q m X.g w'=.go g1 w' #[⟨.cell ⟨c.wg,0,none⟩,false,true⟩])(hrun:g1.status=.running)(hd:0<l.deaf)(h:bd (ak (ar c)) Q Stop m l γ ⟨g1,w',X.mine⟩):Then (Z:=ak (ar c)) Q Stop m l γ X w':=by
 refine .quiet hs ⟨hrun,po _ _ _,λ_ _ _=>U,⟨.inr ⟨U,.inr (.inr Ij),hd⟩,PA⟩,?_⟩ ?_
 .rintro(⟨e,a,b⟩|h)
  .simp only[List.mem_toArray,vbc,vbr,vds]at a;subst a;rcases b with h|h|⟨_,h⟩|⟨_,h⟩|⟨h,_⟩<;>cases h
  grind
 grind[j9]
def aoD{l:ae.Lo At}{γ:ae.aM cj}{X:aV}(g:dI (ak (ar c)) l γ X w'){p:uac}{f1:Nat}{v:Int}(hs:stepG Q false X.g w'=.go g1 (w'.setCell ⟨c.wg,1,none⟩ (.int .u32 v)) (semEvents ⟨c.wg,1,none⟩))(hrun:g1.status=.running)(hv:v=((γ.aj.gz+1:Nat):Int))(f:l.aj=.work .lb p)(h:f1<l.fuel)(a:l.mx=.idle)(j:l.tok=false)(d:mayWake Q X.g=true)(b:Stop false ({l with aj:=.gone p,fuel:=f1}:ae.Lo At) ⟨g1,w'.setCell ⟨c.wg,1,none⟩ (.int .u32 v),X.mine⟩):Then (Z:=ak (ar c)) Q Stop false l γ X w':=
 Xd g (a1:=.gone p) (b1:={γ.aj with gz:=γ.aj.gz+1}) (f1:=f1) hs hrun hv ⟨U,U⟩ ⟨U,U,U,U⟩ (λxs i hi hg=>hg.raise AN) h (λ_=>a) (λe=>AN) (by rw[f];rfl) (.inl d) (λ_=>⟨U,b⟩) (.stop b)
def aoE{l:ae.Lo At}{γ:ae.aM cj}(h:g8 (ak (ar c)) l γ):γ.aj.taken<=c.N:=by obtain⟨ls,i,hi,hg⟩:∃(ls:List (ae.Lo At))(i:Nat),ls[i]?=some l/\r4 (ar c) γ ls:=h;exact hg.oB.aW
def aoF{l:ae.Lo At}{γ a:ae.aM cj}(h:(ak (ar c)).dH l γ a)(hs:g8 (ak (ar c)) l a)(a5:γ.aj.taken=c.N):a.aj.taken=c.N:=by have b:=aoE hs;grind
def aoG(n t:Nat)(hn:1<=n)(a:n<=250)(ht:t<=1):IntKind.wrap .u64 (((n*4294967296+t:Nat):Int)+18446744069414584320)=(((n-1)*4294967296+t:Nat):Int):=by rw[IntKind.wrap_u64];omega
def aoH{f nq:Nat}{p:uac}(eR:c.most<=250)(K:∀b,c.K b\/mine b->b≠c.wg){w0:aH}{D:Frame}{cs:fA}(I:D.mode=.returning)(hq:QuitsD prog nq 0 (Conc.G D cs))(C:∀f' g w',ai (ak (ar c)) mine w0 w'->(∃n,QuitsD prog n 1 g)->Stop false ⟨.idle,false,1,f',.gone p⟩ ⟨g,w',mine⟩)(w:aH)(γ:ae.aM cj)(Z:ai (ak (ar c)) mine w0 w)(a5:γ.aj.taken=c.N):
 bd (ak (ar c)) prog Stop false ⟨.idle,false,0,f+5,.work .free p⟩ γ ⟨Conc.G ((baseD 43).at ⟨#[.P c.wg 0,.U,.U,.U],[]⟩ [.code (f43.body.getD .skip)]) (D::cs),w,mine⟩:=by
 have hF:=Z;simp only[f43,vah];refine a8 (bu c) ?_;repeat w_go ai.trans
 u_call func41 ans f41 ai.trans hF
 repeat w_go ai.trans
 refine dO rfl hF λl a r m k d o j hF=>?_;have Y:=(df (bu c)).trans _ _ _ _ m o;refine lv (A:=ar c) (I9 Sm Sn rfl rfl Ad rfl rfl (uA j.mt.2.1)) rfl rfl (.refl _) rfl rfl ?_;clear j o m a;refine a8 (bu c) ?_;walk_nrm
 repeat w_go ai.trans
 refine dO rfl hF λl a r m R ew o j hF=>?_;have X:=(df (bu c)).trans _ _ _ _ Y ((df (bu c)).trans _ _ _ _ m o);refine akh j (f1:=f+4) (vck .releaseMerge Ab rfl rfl Ad rfl func61 Ry Rz RA RB BF) rfl rfl (aoF X j.sees a5) IY rfl rfl ?_;clear Y X;clear j o m a;refine a8 (bu c) ?_;walk_nrm
 repeat w_go ai.trans
 refine dO rfl hF λl a r m k d o j hF=>?_;refine r5 (d1:=1) (bu c) j Ij (vbs .disable Ab rfl rfl Ad rfl func62 Ce Cf Cg Ch) rfl I3 (rZ (f1:=f+3) IY _) Ab rfl ?_;clear j o m a;refine a8 (bu c) ?_;walk_nrm
 repeat w_go ai.trans
 u_defer ai.trans hF
 repeat w_go ai.trans
 refine dO rfl hF λl a r m k d o j hF=>?_;refine lv (A:=ar c) (stepG_entry_pure (.F) rfl rfl Ad rfl func64 Zp Zq Zr Zs) rfl rfl (.refl _) rfl rfl ?_;clear j o m a;refine a8 (bu c) ?_;walk_nrm
 repeat w_go ai.trans
 u_call func68 ZC f68 ai.trans hF
 repeat w_go ai.trans
 refine dO rfl hF λl a r m k d o j hF=>?_;have S:=Sl eR j.sees;have U:=akc j.sees rfl;have hv:=aoG d.aj.aX d.aj.ea.toNat U S (vaw _);have H:=MP (d.aj.aX-1) AY d.aj.ea.toNat (by grind[Bool.toNat_le]);have J:=H.1;have F:=H.2;have t:((((d.aj.aX-1)*4294967296+d.aj.ea.toNat:Nat):Int)) / 4294967296=((d.aj.aX-1:Nat):Int):=by grind[Bool.toNat_le]
 have Q:IntKind.wrap .i32 ((d.aj.aX-1:Nat):Int)=((d.aj.aX-1:Nat):Int):=HG;have O:decide (((d.aj.aX-1:Nat):Int)<0)=false:=Ab;have L:=F4 (c:=c) (mine:=mine) K k 0 none (.int .u64 (((d.aj.aX-1)*4294967296+d.aj.ea.toNat:Nat):Int));have E:=λ(g:uai)(h:∃n,QuitsD prog n 1 g)=>C (f+2) g (k.setCell ⟨c.wg,0,none⟩ (.int .u64 (IntKind.wrap .u64 (((d.aj.aX*4294967296+d.aj.ea.toNat:Nat):Int)+18446744069414584320)))) (by grind[ai.trans]) h;clear H;by_cases P:d.aj.ea=true/\d.aj.aX=1
 .obtain⟨s,W⟩:=P;have V:(((d.aj.aX-1)*4294967296+d.aj.ea.toNat:Nat):Int)=1:=AN;have bG:bits .and .u64 1 2147483648=0:=AX;have cE:bits .and .u64 1 2147483647=1:=AX;refine LH j (a1:=.work .nl p) (b1:={d.aj with aX:=d.aj.aX-1}) (f1:=f+2) (vco rfl rfl Ad rfl func97 RU RV RX .u64 RY rfl rfl (uA j.mt.2.1) (zZ j.mt.2.1 0 none)) rfl hv Ab rfl ⟨rfl,rfl,rfl,rfl⟩ (λxs i hi hg=>hg.aj4 s W hi) IY (.inr (Nat.sub_le _ _)) I8 Ab rfl I8 ?_;rw[hv];replace hF:=ai.trans hF L;rw[V]at hF⊢;clear E L hv J t F Q O V s W S U;clear j o m a;refine a8 (bu c) ?_;walk_nrm
  repeat w_go ai.trans
  u_leave1 func68 ai.trans hF
  repeat w_go ai.trans
  u_call func70 R3 f70 ai.trans hF
  repeat w_go ai.trans
  refine dO rfl hF λl a r m k d o j hF=>?_;have u:=Xc j.sees rfl;have q:=uA j.mt.2.1;rw[u.1,u.2]at q;refine r9 j (stepG_load_atomic (v:=1) rfl rfl Ad rfl func98 RZ R0 R2 .u64 R1 rfl q) rfl Ab ?_;clear u q;clear j o m a;refine a8 (bu c) ?_;walk_nrm
  repeat w_go ai.trans
  u_leave1 func70 ai.trans hF
  repeat w_go ai.trans
  u_call func71 ant f71 ai.trans hF
  repeat w_go ai.trans
  refine dO rfl hF λl a r m k d o j hF=>?_;have u:=Xc j.sees rfl;refine akg j (a1:=.work .lb p) (b1:={d.aj with ea:=false}) (f1:=f+1) (stepG_store_atomic rfl rfl Ad rfl func99 anc ane ang anf rfl rfl (uA j.mt.2.1) (zZ j.mt.2.1 0 none)) rfl AN Ab rfl ⟨rfl,rfl,rfl,rfl⟩ (λxs i hi hg=>hg.aj5 hi) IY (.inr IB) (λe=>e) Ab rfl ?_;replace hF:=ai.trans hF (F4 (c:=c) (mine:=mine) K k 0 none (.int .u64 0));clear u;clear j o m a;refine a8 (bu c) ?_;walk_nrm
  repeat w_go ai.trans
  u_leave0 func71 ai.trans hF
  repeat w_go ai.trans
  refine dO rfl hF λl a r m k d o j hF=>?_;have N:=akd j.sees rfl;have q:=LF j.mt.2.1;rw[N]at q;have T:=F4 (c:=c) (mine:=mine) K k 1 none (.int .u32 (IntKind.wrap .u32 (((0:Nat):Int)+1)));refine aoD j (f1:=f) (stepG_semrelease (ad:=⟨c.wg,1,none⟩) rfl rfl Ad rfl func73 anh ZB ani anj BF q (zZ j.mt.2.1 1 none)) rfl (by rw[N];rfl) rfl IY rfl rfl (mayWake_entry rfl rfl func73 ZB) (C f _ _ (ai.trans hF T) ?_);clear j o m a C T q N hF;refine⟨nq+140,?_⟩;walk_nrm
  repeat q_go
  refine QuitsD.unwind_mark .enable rfl Ab rfl func63 qv qw qx qy ?_;simp only[deafBehind_enable1];q_leave0 func41
  repeat q_go
  exact QuitsD.leaveD rfl rfl func43 rfl I (MQ hq _)
 .have B:d.aj.ea=false\/2<=d.aj.aX:=by grind
  refine aoC j (f1:=f+2) (vco rfl rfl Ad rfl func97 RU RV RX .u64 RY rfl rfl (uA j.mt.2.1) (zZ j.mt.2.1 0 none)) rfl hv Ab rfl B IY rfl rfl (E _ ?_);rw[hv];clear j o m a E L hv C;have wj:IntKind.u32.wrap 0=0:=AX;have nd:IntKind.u32.wrap 1=1:=AX;by_cases s:d.aj.ea=false
  .have M:bits .and .u64 (((d.aj.aX-1)*4294967296+d.aj.ea.toNat:Nat):Int) 2147483647=0:=by grind
   clear F s B P;generalize(((d.aj.aX-1)*4294967296+d.aj.ea.toNat:Nat):Int)=x at J t M⊢;generalize z:((d.aj.aX-1:Nat):Int)=y at t Q O⊢;by_cases h0:y=0;focus
    clear z;subst h0
   rotate_left
   focus
    have Z5:decide (0<y)=true:=AN;clear z
   rotate_left
   all_goals
    refine⟨nq+140,?_⟩;walk_nrm
    repeat q_go
    q_leave1 func68
    repeat q_go
    refine QuitsD.unwind_mark .enable rfl Ab rfl func63 qv qw qx qy ?_;simp only[deafBehind_enable1];q_leave0 func41
    repeat q_go
    exact QuitsD.leaveD rfl rfl func43 rfl I (MQ hq _)
  .have s:d.aj.ea=true:=by grind
   have M:bits .and .u64 (((d.aj.aX-1)*4294967296+d.aj.ea.toNat:Nat):Int) 2147483647=1:=AN;have h2:2<=d.aj.aX:=B.resolve_left AN;clear F s B P;generalize(((d.aj.aX-1)*4294967296+d.aj.ea.toNat:Nat):Int)=x at J t M⊢;generalize z:((d.aj.aX-1:Nat):Int)=y at t Q O⊢;have Z5:decide (0<y)=true:=AN;clear z;refine⟨nq+140,?_⟩;walk_nrm
   repeat q_go
   q_leave1 func68
   repeat q_go
   refine QuitsD.unwind_mark .enable rfl Ab rfl func63 qv qw qx qy ?_;simp only[deafBehind_enable1];q_leave0 func41
   repeat q_go
   exact QuitsD.leaveD rfl rfl func43 rfl I (MQ hq _)
