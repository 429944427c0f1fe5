import Derived.Test.YtnomloiacicoaaaGreatPAH
import Derived.Test.YtnomloiacicoaaaGreatPAJ
set_option linter.all false
set_option maxRecDepth 100000
set_option maxHeartbeats 16000000
namespace Go.Proofs.YtnomloiacicoaaaGreat
open Tryz
namespace tS
open Conc RowKit Conc.Lib ConcR.Gen ConcM av bj ah eK bQ
variable{P Q:cE}{w':aR}{g1:uaj}
section
section
variable{c:dU}{Stop:Bool->ah.Lo At->a0->Prop}{mine:dL}
theorem VQ:∀{n d:Nat}{g:uaj},QuitsD P n d g->QuitsD P (n+1) d g
 |0,_,_,h=>.inl h
 | _+1,_,_,h=>h.imp id λ⟨h1,g',es,h2,h3,h4⟩=>⟨h1,g',es,h2,h3,VQ h4⟩
theorem OW{n d:Nat}{g:uaj}(h:QuitsD P n d g):∀r,QuitsD P (n+r) d g
 |0=>h
 |r+1=>VQ (OW h r)
def atD{l:ah.Lo At}{γ:ah.aQ cO}{X:a0}(g:ep (ao (ay c)) l γ X w'){p:uad}{f1:Nat}{v:Int}(hs:stepG Q false X.g w'=.go g1 (w'.setCell ⟨c.wg,0,none⟩ (.int .u64 v)) #[⟨.cell ⟨c.wg,0,none⟩,false,true⟩,⟨.cell ⟨c.wg,0,none⟩,true,true⟩])(hrun:g1.status=.running)(hv:v=(((γ.am.aS-1)*4294967296+γ.am.eF.toNat:Nat):Int))(hd:0<l.deaf)(d:l.am=.work .rel p)(f:γ.am.eF=false\/2<=γ.am.aS)(h:f1<l.fuel)(a:l.mx=.idle)(j:l.tok=false)(b:Stop false ({l with am:=.gone p,fuel:=f1}:ah.Lo At) ⟨g1,w'.setCell ⟨c.wg,0,none⟩ (.int .u64 v),X.mine⟩):Then (Z:=ao (ay c)) Q Stop false l γ X w':=
 NQ g (a1:=.gone p) (b1:={γ.am with aS:=γ.am.aS-1}) (f1:=f1) hs hrun hv hd Y ⟨Y,Y,Y,Y⟩ (λxs i hi hg=>hg.out f AA) h (.inr (Nat.sub_le _ _)) (λ_=>a) (λe=>AA) (by rw[d];rfl) (λ_=>⟨Y,b⟩) (.stop b)
def tA{m:Bool}{l:ah.Lo At}{γ:ah.aQ cO}{X:a0}(d:ep (ao (ay c)) l γ X w')(hs:stepG Q m X.g w'=.go g1 w' #[⟨.cell ⟨c.wg,0,none⟩,false,true⟩])(hrun:g1.status=.running)(hd:0<l.deaf)(h:bc (ao (ay c)) Q Stop m l γ ⟨g1,w',X.mine⟩):Then (Z:=ao (ay c)) Q Stop m l γ X w':=by
 refine .quiet hs ⟨hrun,rz _ _ _,λ_ _ _=>Y,⟨.inr ⟨Y,.inr (.inr Jv),hd⟩,NE⟩,?_⟩ ?_
 .rintro(⟨e,a,b⟩|h)
  .simp only[List.mem_toArray,vaw,vbp,vdf]at a;subst a;rcases b with h|h|⟨_,h⟩|⟨_,h⟩|⟨h,_⟩<;>cases h
  grind
 grind[lq]
def atE{l:ah.Lo At}{γ:ah.aQ cO}{X:a0}(g:ep (ao (ay c)) l γ X w'){p:uad}{f1:Nat}{v:Int}(hs:stepG Q false X.g w'=.go g1 (w'.setCell ⟨c.wg,1,none⟩ (.int .u32 v)) (semEvents ⟨c.wg,1,none⟩))(hrun:g1.status=.running)(hv:v=((γ.am.gT+1:Nat):Int))(f:l.am=.work .lb p)(h:f1<l.fuel)(a:l.mx=.idle)(j:l.tok=false)(d:mayWake Q X.g=true)(b:Stop false ({l with am:=.gone p,fuel:=f1}:ah.Lo At) ⟨g1,w'.setCell ⟨c.wg,1,none⟩ (.int .u32 v),X.mine⟩):Then (Z:=ao (ay c)) Q Stop false l γ X w':=
 abc g (a1:=.gone p) (b1:={γ.am with gT:=γ.am.gT+1}) (f1:=f1) hs hrun hv ⟨Y,Y⟩ ⟨Y,Y,Y,Y⟩ (λxs i hi hg=>hg.raise AA) h (λ_=>a) (λe=>AA) (by rw[f];rfl) (.inl d) (λ_=>⟨Y,b⟩) (.stop b)
def atF{l:ah.Lo At}{γ:ah.aQ cO}(h:ib (ao (ay c)) l γ):γ.am.taken<=c.N:=by obtain⟨ls,i,hi,hg⟩:∃(ls:List (ah.Lo At))(i:Nat),ls[i]?=some l/\tt (ay c) γ ls:=h;exact hg.pC.aX
def atG{l:ah.Lo At}{γ a:ah.aQ cO}(h:(ao (ay c)).ey l γ a)(hs:ib (ao (ay c)) l a)(a5:γ.am.taken=c.N):a.am.taken=c.N:=by have h1:=atF hs;grind
def atH n t(hn:1<=n)(a:n<=250)(ht:t<=1):IntKind.wrap .u64 (((n*4294967296+t:Nat):Int)+18446744069414584320)=(((n-1)*4294967296+t:Nat):Int):=by rw[IntKind.wrap_u64];omega
def atI{f nq:Nat}{p:uad}(fl:c.most<=250)(N:∀b,c.K b\/mine b->b≠c.wg){w0:aR}{F:Frame}{cs:hH}(L:F.mode=.returning)(hq:QuitsD prog nq 0 (Conc.G F cs))(E:∀f' g w',ai (ao (ay c)) mine w0 w'->(∃n,QuitsD prog n 1 g)->Stop false ⟨.idle,false,1,f',.gone p⟩ ⟨g,w',mine⟩)(w:aR)(γ:ah.aQ cO)(f9:ai (ao (ay c)) mine w0 w)(a5:γ.am.taken=c.N):
 bc (ao (ay c)) prog Stop false ⟨.idle,false,0,f+5,.work .free p⟩ γ ⟨Conc.G ((baseD 50).at ⟨#[.P c.wg 0,.U,.U,.U],[]⟩ [.code (f50.body.getD .skip)]) (F::cs),w,mine⟩:=by
 have hF:=f9;simp only[f50,vaf];refine bf (bW c) ?_;repeat w_go ai.trans
 u_call func48 asv f48 ai.trans hF
 repeat w_go ai.trans
 refine ei Y hF λl a r o k d m j hF=>?_;have Z:=(dE (bW c)).trans _ _ _ _ o m;refine mo (A:=ay c) (KR VA VB Y Y An Y Y (vL j.mt.2.1)) Y Y (.refl _) Y Y ?_;clear j m o a;refine bf (bW c) ?_;walk_nrm
 repeat w_go ai.trans
 refine ei Y hF λl a r o U eV m j hF=>?_;have B:=(dE (bW c)).trans _ _ _ _ Z ((dE (bW c)).trans _ _ _ _ o m);refine aph j (f1:=f+4) (vcq .releaseMerge AS Y Y An Y func68 UU UV UW UX Bk) Y Y (atG B j.sees a5) Jo Y Y ?_;clear Z B;clear j m o a;refine bf (bW c) ?_;walk_nrm
 repeat w_go ai.trans
 refine ei Y hF λl a r o k d m j hF=>?_;refine tu (d1:=1) (bW c) j Jv (vbz .disable AS Y Y An Y func69 DT DU DV DW) Y Ke (tr (f1:=f+3) Jo _) AS Y ?_;clear j m o a;refine bf (bW c) ?_;walk_nrm
 repeat w_go ai.trans
 u_defer ai.trans hF
 repeat w_go ai.trans
 refine ei Y hF λl a r o k d m j hF=>?_;refine mo (A:=ay c) (stepG_entry_pure (.F) Y Y An Y func71 ac2 ac3 ac4 ac5) Y Y (.refl _) Y Y ?_;clear j m o a;refine bf (bW c) ?_;walk_nrm
 repeat w_go ai.trans
 u_call func75 Up f75 ai.trans hF
 repeat w_go ai.trans
 refine ei Y hF λl a r o k d m j hF=>?_;have V:=Vz fl j.sees;have X:=apc j.sees Y;have hv:=atH d.am.aS d.am.eF.toNat X V (vay _);have K:=OV (d.am.aS-1) AQ d.am.eF.toNat (by grind[Bool.toNat_le]);have M:=K.1;have J:=K.2;have u:((((d.am.aS-1)*4294967296+d.am.eF.toNat:Nat):Int)) / 4294967296=((d.am.aS-1:Nat):Int):=by grind[Bool.toNat_le]
 have T:IntKind.wrap .i32 ((d.am.aS-1:Nat):Int)=((d.am.aS-1:Nat):Int):=Ia;have R:decide (((d.am.aS-1:Nat):Int)<0)=false:=AS;have O:=HO (c:=c) (mine:=mine) N k 0 none (.int .u64 (((d.am.aS-1)*4294967296+d.am.eF.toNat:Nat):Int));have I:=λ(g:uaj)(h:∃n,QuitsD prog n 1 g)=>E (f+2) g (k.setCell ⟨c.wg,0,none⟩ (.int .u64 (IntKind.wrap .u64 (((d.am.aS*4294967296+d.am.eF.toNat:Nat):Int)+18446744069414584320)))) (by grind[ai.trans]) h;clear K;by_cases S:d.am.eF=true/\d.am.aS=1
 .obtain⟨s,z⟩:=S;have e1:(((d.am.aS-1)*4294967296+d.am.eF.toNat:Nat):Int)=1:=AA;have bl:bits .and .u64 1 2147483648=0:=AF;have cp:bits .and .u64 1 2147483647=1:=AF;refine NQ j (a1:=.work .oh p) (b1:={d.am with aS:=d.am.aS-1}) (f1:=f+2) (vcu Y Y An Y func104 Vd Ve Vf .u64 Vg Y Y (vL j.mt.2.1) (Bb j.mt.2.1 0 none)) Y hv AS Y ⟨Y,Y,Y,Y⟩ (λxs i hi hg=>hg.ao3 s z hi) Jo (.inr (Nat.sub_le _ _)) KQ AS Y KQ ?_;rw[hv];replace hF:=ai.trans hF O;rw[e1]at hF⊢;clear I O hv M u J T R e1 s z V X;clear j m o a;refine bf (bW c) ?_;walk_nrm
  repeat w_go ai.trans
  u_leave1 func75 ai.trans hF
  repeat w_go ai.trans
  u_call func77 Vl f77 ai.trans hF
  repeat w_go ai.trans
  refine ei Y hF λl a r o k d m j hF=>?_;have t:=abb j.sees Y;have q:=vL j.mt.2.1;rw[t.1,t.2]at q;refine tA j (stepG_load_atomic (v:=1) Y Y An Y func105 Vh Vi Vk .u64 Vj Y q) Y AS ?_;clear t q;clear j m o a;refine bf (bW c) ?_;walk_nrm
  repeat w_go ai.trans
  u_leave1 func77 ai.trans hF
  repeat w_go ai.trans
  u_call func78 asw f78 ai.trans hF
  repeat w_go ai.trans
  refine ei Y hF λl a r o k d m j hF=>?_;have t:=abb j.sees Y;refine apg j (a1:=.work .lb p) (b1:={d.am with eF:=false}) (f1:=f+1) (stepG_store_atomic Y Y An Y func106 asf asg asi ash Y Y (vL j.mt.2.1) (Bb j.mt.2.1 0 none)) Y AA AS Y ⟨Y,Y,Y,Y⟩ (λxs i hi hg=>hg.ao4 hi) Jo (.inr JR) (λe=>e) AS Y ?_;replace hF:=ai.trans hF (HO (c:=c) (mine:=mine) N k 0 none (.int .u64 0));clear t;clear j m o a;refine bf (bW c) ?_;walk_nrm
  repeat w_go ai.trans
  u_leave0 func78 ai.trans hF
  repeat w_go ai.trans
  refine ei Y hF λl a r o k d m j hF=>?_;have H:=apd j.sees Y;have q:=NO j.mt.2.1;rw[H]at q;have W:=HO (c:=c) (mine:=mine) N k 1 none (.int .u32 (IntKind.wrap .u32 (((0:Nat):Int)+1)));refine atE j (f1:=f) (stepG_semrelease (ad:=⟨c.wg,1,none⟩) Y Y An Y func80 asj Uz asl asm Bk q (Bb j.mt.2.1 1 none)) Y (by rw[H];rfl) Y Jo Y Y (mayWake_entry Y Y func80 Uz) (E f _ _ (ai.trans hF W) ?_);clear j m o a E W q H hF;refine⟨nq+140,?_⟩;walk_nrm
  repeat q_go
  refine QuitsD.unwind_mark .enable Y AS Y func70 rJ rK rL rM ?_;simp only[deafBehind_enable1];q_leave0 func48
  repeat q_go
  exact QuitsD.leaveD Y Y func50 Y L (OW hq _)
 .have D:d.am.eF=false\/2<=d.am.aS:=by grind
  refine atD j (f1:=f+2) (vcu Y Y An Y func104 Vd Ve Vf .u64 Vg Y Y (vL j.mt.2.1) (Bb j.mt.2.1 0 none)) Y hv AS Y D Jo Y Y (I _ ?_);rw[hv];clear j m o a I O hv E;have Cz:IntKind.u32.wrap 0=0:=AF;have nD:IntKind.u32.wrap 1=1:=AF;by_cases s:d.am.eF=false
  .have Q:bits .and .u64 (((d.am.aS-1)*4294967296+d.am.eF.toNat:Nat):Int) 2147483647=0:=by grind
   clear J s D S;generalize(((d.am.aS-1)*4294967296+d.am.eF.toNat:Nat):Int)=x at M u Q⊢;generalize C:((d.am.aS-1:Nat):Int)=y at u T R⊢;by_cases h0:y=0;focus
    clear C;subst h0
   rotate_left
   focus
    have P:decide (0<y)=true:=AA;clear C
   rotate_left
   all_goals
    refine⟨nq+140,?_⟩;walk_nrm
    repeat q_go
    q_leave1 func75
    repeat q_go
    refine QuitsD.unwind_mark .enable Y AS Y func70 rJ rK rL rM ?_;simp only[deafBehind_enable1];q_leave0 func48
    repeat q_go
    exact QuitsD.leaveD Y Y func50 Y L (OW hq _)
  .have s:d.am.eF=true:=by grind
   have Q:bits .and .u64 (((d.am.aS-1)*4294967296+d.am.eF.toNat:Nat):Int) 2147483647=1:=AA;have h2:2<=d.am.aS:=D.resolve_left AA;clear J s D S;generalize(((d.am.aS-1)*4294967296+d.am.eF.toNat:Nat):Int)=x at M u Q⊢;generalize C:((d.am.aS-1:Nat):Int)=y at u T R⊢;have P:decide (0<y)=true:=AA;clear C;refine⟨nq+140,?_⟩;walk_nrm
   repeat q_go
   q_leave1 func75
   repeat q_go
   refine QuitsD.unwind_mark .enable Y AS Y func70 rJ rK rL rM ?_;simp only[deafBehind_enable1];q_leave0 func48
   repeat q_go
   exact QuitsD.leaveD Y Y func50 Y L (OW hq _)
