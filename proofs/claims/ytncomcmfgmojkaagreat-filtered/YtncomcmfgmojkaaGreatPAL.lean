import Derived.Test.YtncomcmfgmojkaaGreatPAI
set_option linter.all false
set_option maxRecDepth 100000
set_option maxHeartbeats 16000000
namespace Go.Proofs.YtncomcmfgmojkaaGreat
open Go.Proofs.Tryz
namespace sn
open Conc RowKit Conc.Lib ConcR.Gen ConcM av bn ah fi bO
variable{P Q:cg}{w':aO}{g1:Goroutine}
section
section
variable{c:dI}{Stop:Bool->ah.Lo At->aV->Prop}{mine:Nat->Prop}
theorem PG:∀{n d:Nat}{g:Goroutine},QuitsD P n d g->QuitsD P (n+1) d g
 |0,_,_,h=>.inl h
 | _+1,_,_,h=>h.imp id λ⟨h1,g',es,b,h3,a⟩=>⟨h1,g',es,b,h3,PG a⟩
theorem ND{n d:Nat}{g:Goroutine}(h:QuitsD P n d g):∀r,QuitsD P (n+r) d g
 |0=>h
 |r+1=>PG (ND h r)
def ark{l:ah.Lo At}{γ:ah.aN cx}{X:aV}(g:dO (ak (az c)) l γ X w'){p:List (Nat×Value)}{f1:Nat}{v:Int}(hs:stepG Q false X.g w'=.go g1 (w'.setCell ⟨c.wg,0,none⟩ (.int .u64 v)) #[⟨.cell ⟨c.wg,0,none⟩,false,true⟩,⟨.cell ⟨c.wg,0,none⟩,true,true⟩])(hrun:g1.status=.running)(f:v=(((γ.am.aR-1)*4294967296+γ.am.dZ.toNat:Nat):Int))(hd:0<l.deaf)(b:l.am=.work .rel p)(d:γ.am.dZ=false\/2<=γ.am.aR)(h:f1<l.fuel)(a:l.mx=.idle)(j:l.tok=false)(hS:Stop false ({l with am:=.gone p,fuel:=f1}:ah.Lo At) ⟨g1,w'.setCell ⟨c.wg,0,none⟩ (.int .u64 v),X.mine⟩):Then (Z:=ak (az c)) Q Stop false l γ X w':=
 Mg g (a1:=.gone p) (b1:={γ.am with aR:=γ.am.aR-1}) (f1:=f1) hs hrun f hd Y ⟨Y,Y,Y⟩ (λxs i hi hg=>hg.out d AA) h (.inr (Nat.sub_le _ _)) (λ_=>a) (λe=>AA) (by rw[b];rfl) (λ_=>⟨Y,hS⟩) (.stop hS)
def rY{m:Bool}{l:ah.Lo At}{γ:ah.aN cx}{X:aV}(d:dO (ak (az c)) l γ X w')(hs:stepG Q m X.g w'=.go g1 w' #[⟨.cell ⟨c.wg,0,none⟩,false,true⟩])(hrun:g1.status=.running)(hd:0<l.deaf)(h:bh (ak (az c)) Q Stop m l γ ⟨g1,w',X.mine⟩):Then (Z:=ak (az c)) Q Stop m l γ X w':=by
 refine .quiet hs ⟨hrun,ra _ _ _,λ_ _ _=>Y,⟨.inr ⟨Y,.inr (.inr Kg),hd⟩,PA⟩,?_⟩ ?_
 .rintro(⟨e,a,b⟩|h)
  .simp only[List.mem_toArray,List.mem_cons,List.not_mem_nil,or_false]at a;subst a;rcases b with h|h|⟨_,h⟩|⟨_,h⟩|⟨h,_⟩<;>cases h
  grind
 grind[kX]
def arl{l:ah.Lo At}{γ:ah.aN cx}{X:aV}(g:dO (ak (az c)) l γ X w'){p:List (Nat×Value)}{f1:Nat}{v:Int}(hs:stepG Q false X.g w'=.go g1 (w'.setCell ⟨c.wg,1,none⟩ (.int .u32 v)) (semEvents ⟨c.wg,1,none⟩))(hrun:g1.status=.running)(f:v=((γ.am.fW+1:Nat):Int))(d:l.am=.work .lb p)(h:f1<l.fuel)(a:l.mx=.idle)(j:l.tok=false)(b:mayWake Q X.g=true)(hS:Stop false ({l with am:=.gone p,fuel:=f1}:ah.Lo At) ⟨g1,w'.setCell ⟨c.wg,1,none⟩ (.int .u32 v),X.mine⟩):Then (Z:=ak (az c)) Q Stop false l γ X w':=
 YX g (a1:=.gone p) (b1:={γ.am with fW:=γ.am.fW+1}) (f1:=f1) hs hrun f ⟨Y,Y⟩ ⟨Y,Y,Y⟩ (λxs i hi hg=>hg.raise AA) h (λ_=>a) (λe=>AA) (by rw[d];rfl) (.inl b) (λ_=>⟨Y,hS⟩) (.stop hS)
def arm{l:ah.Lo At}{γ:ah.aN cx}(h:gH (ak (az c)) l γ):γ.am.taken<=c.N:=by obtain⟨ls,i,hi,hg⟩:∃(ls:List (ah.Lo At))(i:Nat),ls[i]?=some l/\rT (az c) γ ls:=h;exact hg.oB.aQ
def arn{l:ah.Lo At}{γ a:ah.aN cx}(h:(ak (az c)).dY l γ a)(hs:gH (ak (az c)) l a)(a0:γ.am.taken=c.N):a.am.taken=c.N:=by have h1:=arm hs;grind
def aro(n t:Nat)(hn:1<=n)(a:n<=250)(ht:t<=1):IntKind.wrap .u64 (((n*4294967296+t:Nat):Int)+18446744069414584320)=(((n-1)*4294967296+t:Nat):Int):=by rw[IntKind.wrap_u64];omega
def arp{f nq:Nat}{p:List (Nat×Value)}(e9:c.most<=250)(M:∀b,c.K b\/mine b->b≠c.wg){w0:aO}{F:Frame}{cs:List Frame}(K:F.mode=.returning)(hq:QuitsD prog nq 0 (Conc.G F cs))(hS:∀f' g w',ai (ak (az c)) mine w0 w'->(∃n,QuitsD prog n 1 g)->Stop false ⟨.idle,false,1,f',.gone p⟩ ⟨g,w',mine⟩)(w:aO)(γ:ah.aN cx)(fY:ai (ak (az c)) mine w0 w)(a0:γ.am.taken=c.N):
 bh (ak (az c)) prog Stop false ⟨.idle,false,0,f+5,.work .free p⟩ γ ⟨Conc.G ((baseD 54).at ⟨#[.pointer (some ⟨c.wg,0,none⟩),undef,undef,undef],[]⟩ [.code (f54.body.getD .skip)]) (F::cs),w,mine⟩:=by
 have hF:=fY;simp only[f54,Option.getD_some];refine bk (bR c) ?_;repeat w_go ai.trans
 u_call func52 ap_ f52 ai.trans hF
 repeat w_go ai.trans
 refine dH Y hF λl a r o k d m j hF=>?_;have T6:=(dg (bR c)).trans _ _ _ _ o m;refine lz (A:=az c) (Js T4 T5 Y Y BJ Y Y (t8 j.mt.2.1)) Y Y (.refl _) Y Y ?_;clear j m o a;refine bk (bR c) ?_;walk_nrm
 repeat w_go ai.trans
 refine dH Y hF λl a r o U eE m j hF=>?_;have B:=(dg (bR c)).trans _ _ _ _ T6 ((dg (bR c)).trans _ _ _ _ o m);refine alK j (f1:=f+4) (stepG_markAt .releaseMerge A_ Y Y BJ Y func72 Ti Tj Tk Tl B4) Y Y (arn B j.sees a0) KX Y Y ?_;clear T6 B;clear j m o a;refine bk (bR c) ?_;walk_nrm
 repeat w_go ai.trans
 refine dH Y hF λl a r o k d m j hF=>?_;refine rU (d1:=1) (bR c) j Kg (stepG_mark0 .disable A_ Y Y BJ Y func73 Cq Cr Cs Ct) Y Lv (rS (f1:=f+3) KX _) A_ Y ?_;clear j m o a;refine bk (bR c) ?_;walk_nrm
 repeat w_go ai.trans
 u_defer ai.trans hF
 repeat w_go ai.trans
 refine dH Y hF λl a r o k d m j hF=>?_;refine lz (A:=az c) (stepG_entry_pure (.bool false) Y Y BJ Y func75 Ug Ub Ua T9) Y Y (.refl _) Y Y ?_;clear j m o a;refine bk (bR c) ?_;walk_nrm
 repeat w_go ai.trans
 u_call func79 Nv f79 ai.trans hF
 repeat w_go ai.trans
 refine dH Y hF λl a r o k d m j hF=>?_;have V:=T3 e9 j.sees;have X:=alF j.sees Y;have t:=aro d.am.aR d.am.dZ.toNat X V (Bool.toNat_le _);have J:=NC (d.am.aR-1) As d.am.dZ.toNat (by grind[Bool.toNat_le]);have L:=J.1;have I:=J.2;have u:((((d.am.aR-1)*4294967296+d.am.dZ.toNat:Nat):Int)) / 4294967296=((d.am.aR-1:Nat):Int):=by grind[Bool.toNat_le]
 have T:IntKind.wrap .i32 ((d.am.aR-1:Nat):Int)=((d.am.aR-1:Nat):Int):=Iu;have S:decide (((d.am.aR-1:Nat):Int)<0)=false:=A_;have N:=Gi (c:=c) (mine:=mine) M k 0 none (.int .u64 (((d.am.aR-1)*4294967296+d.am.dZ.toNat:Nat):Int));have H:=λ(g:Goroutine)(h:∃n,QuitsD prog n 1 g)=>hS (f+2) g (k.setCell ⟨c.wg,0,none⟩ (.int .u64 (IntKind.wrap .u64 (((d.am.aR*4294967296+d.am.dZ.toNat:Nat):Int)+18446744069414584320)))) (by grind[ai.trans]) h;clear J;by_cases Q:d.am.dZ=true/\d.am.aR=1
 .obtain⟨s,z⟩:=Q;have Z:(((d.am.aR-1)*4294967296+d.am.dZ.toNat:Nat):Int)=1:=AA;have a9:bits .and .u64 1 2147483648=0:=Ae;have bV:bits .and .u64 1 2147483647=1:=Ae;refine Mg j (a1:=.work .nc p) (b1:={d.am with aR:=d.am.aR-1}) (f1:=f+2) (stepG_add_atomic Y Y BJ Y func108 TA TB TC .u64 TD Y Y (t8 j.mt.2.1) (zI j.mt.2.1 0 none)) Y t A_ Y ⟨Y,Y,Y⟩ (λxs i hi hg=>hg.alu s z hi) KX (.inr (Nat.sub_le _ _)) Lh A_ Y Lh ?_;rw[t];replace hF:=ai.trans hF N;rw[Z]at hF⊢;clear H N t L u I T S Z s z V X;clear j m o a;refine bk (bR c) ?_;walk_nrm
  repeat w_go ai.trans
  u_leave1 func79 ai.trans hF
  repeat w_go ai.trans
  u_call func81 TI f81 ai.trans hF
  repeat w_go ai.trans
  refine dH Y hF λl a r o k d m j hF=>?_;have C:=YW j.sees Y;have q:=t8 j.mt.2.1;rw[C.1,C.2]at q;refine rY j (stepG_load_atomic (v:=1) Y Y BJ Y func109 TE TF TH .u64 TG Y q) Y A_ ?_;clear C q;clear j m o a;refine bk (bR c) ?_;walk_nrm
  repeat w_go ai.trans
  u_leave1 func81 ai.trans hF
  repeat w_go ai.trans
  u_call func82 aqa f82 ai.trans hF
  repeat w_go ai.trans
  refine dH Y hF λl a r o k d m j hF=>?_;have C:=YW j.sees Y;refine alJ j (a1:=.work .lb p) (b1:={d.am with dZ:=false}) (f1:=f+1) (stepG_store_atomic Y Y BJ Y func110 apV apW apY apX Y Y (t8 j.mt.2.1) (zI j.mt.2.1 0 none)) Y AA A_ Y ⟨Y,Y,Y⟩ (λxs i hi hg=>hg.alv hi) KX (.inr J1) (λe=>e) A_ Y ?_;replace hF:=ai.trans hF (Gi (c:=c) (mine:=mine) M k 0 none (.int .u64 0));clear C;clear j m o a;refine bk (bR c) ?_;walk_nrm
  repeat w_go ai.trans
  u_leave0 func82 ai.trans hF
  repeat w_go ai.trans
  refine dH Y hF λl a r o k d m j hF=>?_;have R:=alG j.sees Y;have q:=Me j.mt.2.1;rw[R]at q;have W:=Gi (c:=c) (mine:=mine) M k 1 none (.int .u32 (IntKind.wrap .u32 (((0:Nat):Int)+1)));refine arl j (f1:=f) (stepG_semrelease (ad:=⟨c.wg,1,none⟩) Y Y BJ Y func84 apZ Nw ap0 ap1 B4 q (zI j.mt.2.1 1 none)) Y (by rw[R];rfl) Y KX Y Y (mayWake_entry Y Y func84 Nw) (hS f _ _ (ai.trans hF W) ?_);clear j m o a hS W q R hF;refine⟨nq+140,?_⟩;walk_nrm
  repeat q_go
  refine QuitsD.unwind_mark .enable Y A_ Y func74 qy qz qA qB ?_;simp only[deafBehind_enable1];q_leave0 func52
  repeat q_go
  exact QuitsD.leaveD Y Y func54 Y K (ND hq _)
 .have E:d.am.dZ=false\/2<=d.am.aR:=by grind
  refine ark j (f1:=f+2) (stepG_add_atomic Y Y BJ Y func108 TA TB TC .u64 TD Y Y (t8 j.mt.2.1) (zI j.mt.2.1 0 none)) Y t A_ Y E KX Y Y (H _ ?_);rw[t];clear j m o a H N t hS;have A0:IntKind.u32.wrap 0=0:=Ae;have nD:IntKind.u32.wrap 1=1:=Ae;by_cases s:d.am.dZ=false
  .have P:bits .and .u64 (((d.am.aR-1)*4294967296+d.am.dZ.toNat:Nat):Int) 2147483647=0:=by grind
   clear I s E Q;generalize(((d.am.aR-1)*4294967296+d.am.dZ.toNat:Nat):Int)=x at L u P⊢;generalize D:((d.am.aR-1:Nat):Int)=y at u T S⊢;by_cases h0:y=0;focus
    clear D;subst h0
   rotate_left
   focus
    have O:decide (0<y)=true:=AA;clear D
   rotate_left
   all_goals
    refine⟨nq+140,?_⟩;walk_nrm
    repeat q_go
    q_leave1 func79
    repeat q_go
    refine QuitsD.unwind_mark .enable Y A_ Y func74 qy qz qA qB ?_;simp only[deafBehind_enable1];q_leave0 func52
    repeat q_go
    exact QuitsD.leaveD Y Y func54 Y K (ND hq _)
  .have s:d.am.dZ=true:=by grind
   have P:bits .and .u64 (((d.am.aR-1)*4294967296+d.am.dZ.toNat:Nat):Int) 2147483647=1:=AA;have h2:2<=d.am.aR:=E.resolve_left AA;clear I s E Q;generalize(((d.am.aR-1)*4294967296+d.am.dZ.toNat:Nat):Int)=x at L u P⊢;generalize D:((d.am.aR-1:Nat):Int)=y at u T S⊢;have O:decide (0<y)=true:=AA;clear D;refine⟨nq+140,?_⟩;walk_nrm
   repeat q_go
   q_leave1 func79
   repeat q_go
   refine QuitsD.unwind_mark .enable Y A_ Y func74 qy qz qA qB ?_;simp only[deafBehind_enable1];q_leave0 func52
   repeat q_go
   exact QuitsD.leaveD Y Y func54 Y K (ND hq _)
end
end
end sn
end Go.Proofs.YtncomcmfgmojkaaGreat
