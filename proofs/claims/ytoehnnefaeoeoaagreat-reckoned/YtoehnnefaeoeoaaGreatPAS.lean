import Derived.Test.YtoehnnefaeoeoaaGreatPAL
import Derived.Test.YtoehnnefaeoeoaaGreatPAP
import Derived.Test.YtoehnnefaeoeoaaGreatPAQ
import Derived.Test.YtoehnnefaeoeoaaGreatPAR
set_option linter.all false
set_option maxRecDepth 100000
set_option maxHeartbeats 16000000
namespace Go.Proofs.YtoehnnefaeoeoaaGreat
open Go.Proofs.Tryz
namespace sJ
open Conc RowKit Conc.Lib ConcR.Gen ConcM bu cZ yR ba
theorem aqo:(f54.name== "runtime.NumGoroutine")=false:=by kernel_rfl
theorem abm:(f91.name== "runtime.NumGoroutine")=false:=by kernel_rfl
section
variable {Shun:Loc->Prop} {Stop:Nat->Goroutine->World->Prop}
variable {b₁:Frame} {a₁:Act} {aG:Array Oper} {i₁:Nat} {aP:List Nat} {k₁:List Item} {cs₁:List Frame}
def Tj(Shun:Loc->Prop)(Stop:Nat->Goroutine->World->Prop)(f:FuncId)(args:Array Value)(w:World)(V:Value->World->Prop):Prop:=
 ∀(NS:Frame)(NT:Act)(JL:Array Oper)(NU:Nat)(NV:List Nat)(k₂:List Item)(NW:List Frame),
  (∀u w',V u w'->eU prog Shun Stop 0 (Conc.G (NS.at (NT.put ((JL[NU]?).bind (·.dst)) u) (.inRegion JL NV::k₂)) NW) w')->
  eU prog Shun Stop 0 (Conc.G (Frame.enter prog f args .normal) (NS.at NT (.inRegion JL (NU::NV)::k₂)::NW)) w
theorem aqp{st g dy wg W:Nat}{S dn ep Q T eu d7 ew ey ez eA eL eB eC eD eE fb fc Z H I C E A:Value}{w:World}{V:Value->World->Prop}(s:w.heap[st]?=some (Obj.cells #[.int .i32 0,.int .u32 0,H,I,C,E,A,.slice none 0 0] 172))(B:w.heap[g]?=some (.cells #[.pointer (some ⟨st,0,none⟩)] 124))(X:g≠st)(A1:∃a n c,A=.slice a n c)
 (mc:∀off sp,2<=off->¬Shun (.cell ⟨st,off,sp⟩)) (L:Shun (.cell ⟨st,0,none⟩)) (x:¬Shun (.cell ⟨g,0,none⟩))
 (K:Tj Shun Stop 91 #[A] (w.setCell ⟨st,0,none⟩ (.int .i32 1)) (fun u w'=>V u w'/\(∃a n c,u=.slice a n c)/\w'.heap[st]?=(w.setCell ⟨st,0,none⟩ (.int .i32 1)).heap[st]?/\w.heap.size<=w'.heap.size))
 (Y:∀u w',V u w'->eU prog Shun Stop 0 (Conc.G (b₁.at (a₁.put ((aG[i₁]?).bind (·.dst)) (.tuple #[u,.slice none 0 0])) (.inRegion aG aP::k₁)) cs₁) (w'.setCell ⟨st,0,none⟩ (.int .i32 0))):
 eU prog Shun Stop 0 (Conc.G ((base 36).at ⟨#[S,dn,ep,.pointer (some ⟨dy,0,none⟩),Q,T,.pointer (some ⟨g,0,none⟩),.pointer (some ⟨wg,0,none⟩),eu,d7,ew,ey,ez,eA,.int .i64 (W:Int),.int .i64 (W:Int),eL,eB,eC,eD,.tuple #[],eE,fb,fc,Z],[]⟩ [.inRegion (ba.iD ((ba.cH 8 (f36.body.getD .skip)).getD .skip)) [],.code (ba.fK ((ba.cH 8 (f36.body.getD .skip)).getD .skip))]) (b₁.at a₁ (.inRegion aG (i₁::aP)::k₁)::cs₁)) w:=by
 obtain⟨j,o,l,rfl⟩:=A1;have y:st<w.heap.size:=(Array.getElem?_eq_some_iff.1 s).1;have t:g<w.heap.size:=(Array.getElem?_eq_some_iff.1 B).1;have q:w.cell? ⟨g,0,none⟩=some (.pointer (some ⟨st,0,none⟩)):=by simp[World.cell?,B]
 have CP:w.cell? ⟨st,0,none⟩=some (.int .i32 0):=by simp[World.cell?,s]
 have M:w.frozen? ⟨st,0,none⟩=false:=by simp[World.frozen?,s]
 have r:(w.setCell ⟨st,0,none⟩ (.int .i32 1)).heap[st]?=some (Obj.cells #[.int .i32 1,.int .u32 0,H,I,C,E,.slice j o l,.slice none 0 0] 172):=by simp[World.setCell,Array.getElem?_modify,s]
 have hF:=atRel_refl w;simp[f36,ba.cH,ba.fK,ba.iD];refine my (R:=AtRel) KO 300 _ _ ?_;repeat w_go dU
 refine Goes.stop (fun m f=>?_);replace hF:=dU hF f;obtain⟨d,rfl⟩:=hF;clear f;refine pD rfl (w1:=w.at d) (es:=#[⟨.cell ⟨g,0,none⟩,false,false⟩]) (fun k=>(stepG_value (v:=.pointer (some ⟨st,0,none⟩)) rfl rfl Bc (by have i:((w.at d).at k).cell? ⟨g,0,none⟩=some (.pointer (some ⟨st,0,none⟩)):=q;go_simp)).trans (congrArg (fun es=>GStep.go _ _ es) (by have i:((w.at d).at k).cell? ⟨g,0,none⟩=some (.pointer (some ⟨st,0,none⟩)):=q;simp[listed,go_sem,i];rfl))) ?_ Jr ?_
 ·intro e h;simp at h;subst h;exact I6 x t _
 show eU prog Shun Stop 0 _ _;have hF:AtRel w (w.at d):=⟨d,rfl⟩;refine my (R:=AtRel) KO 300 _ _ ?_;walk_nrm
 repeat w_go dU
 u_call func54 aqo f54 dU hF
 repeat w_go dU
 u_call func89 ba.SW f89 dU hF
 refine Goes.stop (fun m f=>?_);replace hF:=dU hF f;obtain⟨d,rfl⟩:=hF;clear f;refine apz (w:=w.at d) CP M L y ?_;have hF:AtRel (w.setCell ⟨st,0,none⟩ (.int .i32 1)) ((w.at d).setCell ⟨st,0,none⟩ (.int .i32 1)):=⟨d,rfl⟩;have hsz:(w.setCell ⟨st,0,none⟩ (.int .i32 1)).heap.size=w.heap.size:=ab.oh _ _ _;generalize w.setCell ⟨st,0,none⟩ (.int .i32 1)=w2 at hF K r hsz;generalize(w.at d).setCell ⟨st,0,none⟩ (.int .i32 1)=w3 at hF⊢;have D:st<w2.heap.size:=Ay;have p:w2.cell? ⟨st,7,none⟩=some (.slice none 0 0):=by simp[World.cell?,r]
 have J:w2.cell? ⟨st,6,none⟩=some (.slice j o l):=by simp[World.cell?,r]
 refine my (R:=AtRel) KO 300 _ _ ?_;walk_nrm
 repeat w_go dU
 u_defer dU hF
 repeat w_go dU
 refine Goes.stop (fun m f=>?_);replace hF:=dU hF f;obtain⟨d,rfl⟩:=hF;clear f;refine pD rfl (w1:=w2.at d) (es:=#[⟨.cell ⟨st,7,none⟩,false,false⟩]) (fun k=>(stepG_value (v:=.slice none 0 0) rfl rfl Bc (by have i:((w2.at d).at k).cell? ⟨st,7,none⟩=some (.slice none 0 0):=p;go_simp)).trans (congrArg (fun es=>GStep.go _ _ es) (by have i:((w2.at d).at k).cell? ⟨st,7,none⟩=some (.slice none 0 0):=p;simp[listed,go_sem,i];rfl))) ?_ Jr ?_
 ·intro e h;simp at h;subst h;exact I6 AU D _
 show eU prog Shun Stop 0 _ _;have hF:AtRel w2 (w2.at d):=⟨d,rfl⟩;refine my (R:=AtRel) KO 300 _ _ ?_;walk_nrm
 repeat w_go dU
 refine Goes.stop (fun m f=>?_);replace hF:=dU hF f;obtain⟨d,rfl⟩:=hF;clear f;refine pD rfl (w1:=w2.at d) (es:=#[]) (fun k=>(stepG_value (v:=.bool false) rfl rfl Bc (by simp[go_sem,binOp,Op.equal];rw[show Op.maxDepth=9999+1 from rfl,Op.equalIn];simp)).trans (congrArg (fun es=>GStep.go _ _ es) F3)) Aa Jr ?_;show eU prog Shun Stop 0 _ _;have hF:AtRel w2 (w2.at d):=⟨d,rfl⟩;refine my (R:=AtRel) KO 300 _ _ ?_;walk_nrm
 repeat w_go dU
 refine Goes.stop (fun m f=>?_);replace hF:=dU hF f;obtain⟨d,rfl⟩:=hF;clear f;refine pD rfl (w1:=w2.at d) (es:=#[⟨.cell ⟨st,6,none⟩,false,false⟩]) (fun k=>(stepG_value (v:=.slice j o l) rfl rfl Bc (by have i:((w2.at d).at k).cell? ⟨st,6,none⟩=some (.slice j o l):=J;go_simp)).trans (congrArg (fun es=>GStep.go _ _ es) (by have i:((w2.at d).at k).cell? ⟨st,6,none⟩=some (.slice j o l):=J;simp[listed,go_sem,i];rfl))) ?_ Jr ?_
 ·intro e h;simp at h;subst h;exact I6 AU D _
 show eU prog Shun Stop 0 _ _;have hF:AtRel w2 (w2.at d):=⟨d,rfl⟩;refine my (R:=AtRel) KO 300 _ _ ?_;walk_nrm
 repeat w_go dU
 refine Goes.stop (fun m f=>?_);replace hF:=dU hF f;obtain⟨d,rfl⟩:=hF;clear f;refine pD rfl (w1:=w2) (es:=#[]) (fun k=>(stepG_enter rfl rfl Bc (jn.tW (b:=base 54) (vs:=#[.slice j o l]) rfl func91 abm rfl EB _).1).trans (congrArg (fun es=>GStep.go _ _ es) (jn.tW (vs:=#[.slice j o l]) rfl func91 abm rfl EB _).2)) Aa Jr ?_;refine K _ _ _ _ _ _ _ (fun u w' U=>?_);obtain⟨Ds,⟨aED,un,uc,rfl⟩,z,hsz'⟩:=U;rw[r]at z;have P:w'.cell? ⟨st,0,none⟩=some (.int .i32 1):=by simp[World.cell?,z]
 have N:w'.frozen? ⟨st,0,none⟩=false:=by simp[World.frozen?,z]
 have O:st<w'.heap.size:=Ay;have hF:=atRel_refl w';refine my (R:=AtRel) KO 300 _ _ ?_;walk_nrm
 repeat w_go dU
 u_in dU hF
 rw[stepG_unwind_enter rfl func90 ba.Jy rfl];simp only[goes_go];refine⟨FQ,?_⟩;walk_nrmf f90
 refine Goes.stop (fun m f=>?_);replace hF:=dU hF f;obtain⟨d,rfl⟩:=hF;clear f;refine apA (w:=w'.at d) rfl P N L O ?_;have hF:AtRel (w'.setCell ⟨st,0,none⟩ (.int .i32 0)) ((w'.at d).setCell ⟨st,0,none⟩ (.int .i32 0)):=⟨d,rfl⟩;have F:=Y _ w' Ds;generalize w'.setCell ⟨st,0,none⟩ (.int .i32 0)=w4 at hF F;generalize(w'.at d).setCell ⟨st,0,none⟩ (.int .i32 0)=lz at hF⊢;refine my (R:=AtRel) KO 300 _ _ ?_;u_in dU hF
 refine goes_leave2 rfl rfl func54 rfl ⟨FQ,?_⟩;walk_nrm
 repeat w_go dU
 u_in dU hF
 refine goes_leave2 rfl rfl func36 rfl ⟨FQ,?_⟩;refine Goes.stop (fun m f=>?_);replace hF:=dU hF f;obtain⟨d,rfl⟩:=hF;exact F.at d
end
end sJ
namespace jn
open Conc RowKit Conc.Lib ConcR.Gen ConcM az bu ab gb iJ gF
section
section
variable {c:dT} {Stop:Bool->ab.av aV->a6->Prop} {S ak jA:Nat} {hH iN:Value} {k9:FuncId} {nE c7:Nat->Value->(Nat->Prop)->World->Prop}
theorem aZ.Tw{Z:fG}{M:Nat->Prop}{w1 w:World}(h:aZ Z M w1 [] w1)(r:U Z M w1 w):aZ Z M w1 [] w:=h.on (by rw[jo];exact r)
theorem aq5(ok:xU c S ak jA)(j:c.C=31)(hS:∀m l g w M M',(∀b,M b->M' b)->Stop m l ⟨g,w,M⟩->Stop m l ⟨g,w,M'⟩){f:Nat}(q:List (Nat×Value))(M:Nat->Prop)(w1:World)(d:aZ (ah (aE c)) M w1 [] w1):
 jS prog Stop false 82 #[.pointer (some ⟨c.st,0,none⟩)] (gn c ⟨.idle,false,0,f+15,.aR .free q⟩ M w1)
  (fun u e=>(u=.tuple #[.agg #[.int .i64 0,.int .i64 0,.int .i64 0],.bool false]/\e=yE c ⟨.idle,false,0,f+1,.aR .free q⟩ M w1)\/∃T,T<c.N/\u=.tuple #[Tg S ak T,.bool true]/\e=gn c ⟨.idle,false,0,f+31,.aR (.has T) q⟩ M w1):=by
 intro b₁ a₁ aG i₁ aP k₁ cs₁ hK w γ hZ;have i:aZ (ah (aE c)) M w1 [] w:=hZ;rw[enter_at _ func82 rfl];unfold gn;have h:=aqh (b₁:=b₁) (a₁:=a₁) (aG:=aG) (i₁:=i₁) (aP:=aP) (k₁:=k₁) (cs₁:=cs₁) ok (f:=f) (p:=q) (w0:=w1) hS
  (fun w' a r cj=>hK _ (yE c ⟨.idle,false,0,f+1,.aR .free q⟩ M w1) AU w' a ⟨aZ.Tw d r,cj⟩)
  (fun w' a T r k=>by rw[j];exact hK _ (gn c ⟨.idle,false,0,f+31,.aR (.has T) q⟩ M w1) AU w' a (aZ.Tw d r)) w γ i
 rw[jo]at h;exact h
theorem aq6(ok:xU c S ak jA)(hS:∀m l g w M M',(∀b,M b->M' b)->Stop m l ⟨g,w,M⟩->Stop m l ⟨g,w,M'⟩){f T:Nat}{F E:Int}{q:List (Nat×Value)}(s:Option Addr)(a9:Nat)(M:Nat->Prop)(w1:World)(a:aZ (ah (aE c)) M w1 [] w1):
 jS prog Stop false 110 #[.pointer (some ⟨c.st,0,none⟩),.agg #[.int .i64 (T:Int),.int .i64 F,.int .i64 E],.slice s (c.rows T) a9] (gn c ⟨.idle,false,0,f+16,.aR (.has T) q⟩ M w1)
  (fun u e=>u=.tuple #[]/\e=gn c ⟨.idle,false,0,f,.aR .free ((T,.slice s (c.rows T) a9)::q)⟩ M w1):=by
 intro b₁ a₁ aG i₁ aP k₁ cs₁ hK w γ hZ;have d:aZ (ah (aE c)) M w1 [] w:=hZ;rw[enter_at _ func110 rfl];unfold gn;have h:=aq4 (b₁:=b₁) (a₁:=a₁) (aG:=aG) (i₁:=i₁) (aP:=aP) (k₁:=k₁) (cs₁:=cs₁) ok (f:=f) (q:=q) (T:=T) (s:=s) (a9:=a9) (F:=F) (E:=E) (w0:=w1) hS
  (fun w' i r=>hK _ (gn c ⟨.idle,false,0,f,.aR .free ((T,.slice s (c.rows T) a9)::q)⟩ M w1) ⟨rfl,rfl⟩ w' i (aZ.Tw a r)) w γ d
 rw[jo]at h;exact h
theorem aq7(ok:xU c S ak jA)(i:c.C=31)(hS:∀m l g w M M',(∀b,M b->M' b)->Stop m l ⟨g,w,M⟩->Stop m l ⟨g,w,M'⟩){de:World}(J:xI c de prog Stop 111 hH k9 iN (fun T=>T*ak) (fun T=>min (T*ak+ak) S) nE c7){f:Nat}{M:Nat->Prop}{w0:World}(h:sz c de w0):
 jS prog Stop false 52 #[.pointer (some ⟨c.st,0,none⟩),hH] (gn c ⟨.idle,false,0,f+15,.aR .free []⟩ M w0) (fun u j=>u=.tuple #[]/\∃q M' w1,iM (ah (aE c)) M w0 M' w1/\qx c7 q M' w1/\j=yE c ⟨.idle,false,0,f+1,.aR .free q⟩ M' w1):=
 aq3 (fr:=fun T=>T*ak) (aL:=fun T=>min (T*ak+ak) S) h J.mono (aq5 ok i hS) (fun q T k w1 e a=>aq0 J (f:=f+15) e a (fun s a9 M' w1 d=>aq6 ok hS s a9 M' w1 d))
end
end
def Ei(n:Nat):Frame:={(default:Frame)with fn:=n,defers:=[],mode:=.panicking [goexitEntry]}
theorem arj:(f52.name== "runtime.NumGoroutine")=false:=by kernel_rfl
theorem ark:(f51.name== "runtime.NumGoroutine")=false:=by kernel_rfl
theorem arl:(f50.name== "runtime.NumGoroutine")=false:=by kernel_rfl
theorem arm{P:Program}{f:FuncId}{fn:Func}{a:Code}(b:P.funcs[f]?=some fn)(e:(fn.name== "runtime.NumGoroutine")=false)(c:fn.body=some a)(cap:Array Value)(w:World):stepG P false (born P (vf f cap)) w=
 .go (Conc.G ((baseD f).at {tmps:=cap++Array.replicate (fn.ntmps-cap.size) undef,defers:=[]} [.code a]) [Ei P.funcs.size]) w #[]:=by
 have d:¬fn.name= "runtime.NumGoroutine" :=AU;rw[<-enter_atD cap b c];simp[born,vf,stepG,unwind,callDeferred,invoke,callFunc,b,d,c,GStep.after,Conc.G,Ei,seen_none]
theorem arn(T:Array Value):QuitsD prog 2 0 (Conc.G {(baseD 50).at ⟨T,[]⟩ []with mode:=.returning} [Ei prog.funcs.size]):=by
 refine QuitsD.ctl (g':=Conc.G (Ei prog.funcs.size) []) rfl (fun w=>?_) ?_
 ·simp[Conc.G,stepG,unwind,doReturn,results,Frame.at,baseD,Ei,func50,f50,seen,GStep.after,goexitEntry]
 refine QuitsD.ctl (g':={Conc.G (Ei prog.funcs.size) []with status:=.finished}) rfl (fun w=>?_) ⟨rfl,rfl⟩;simp[Conc.G,stepG,unwind,Ei,goexitEntry,Frame.catches];rfl
section
variable {c:dT} {Stop:Bool->ab.av aV->a6->Prop} {S ak jA:Nat} {hH iN:Value} {k9:FuncId} {nE c7:Nat->Value->(Nat->Prop)->World->Prop}
theorem aro(ok:xU c S ak jA)(hC:c.C=31)(hS:∀m l g w M M',(∀b,M b->M' b)->Stop m l ⟨g,w,M⟩->Stop m l ⟨g,w,M'⟩){de:World}(J:xI c de prog Stop 111 hH k9 iN (fun T=>T*ak) (fun T=>min (T*ak+ak) S) nE c7)
 (I:∀q M f' g w,qx c7 q M w->(∃n,QuitsD prog n 1 g)->Stop false ⟨.idle,false,1,f',.gone q⟩ ⟨g,w,M⟩) {f p o:Nat} (N4:c.K p) (L:c.K o) (K:∃t v,hH=.iface t v)
 {M:Nat->Prop} {w0:World} (hI:sz c de w0) (gK:w0.heap[p]?=some (.cells #[.pointer (some ⟨c.st,0,none⟩)] 124)) (F0:w0.heap[o]?=some (.cells #[hH] 123)) (w:World) (γ:ab.aT cF) (N:aZ (ah (aE c)) M w0 [] w):
 bh (ah (aE c)) prog Stop false ⟨.idle,false,0,f+19,.aR .free []⟩ γ ⟨born prog (vf 50 #[.pointer (some ⟨c.wg,0,none⟩),.pointer (some ⟨p,0,none⟩),.pointer (some ⟨o,0,none⟩)]),w,M⟩:=by
 have hF:=N;obtain⟨jt,D,rfl⟩:=K;refine bh.mk rfl (fun d E j a=>?_);replace hF:=aZ.rel hF a;refine RI AU (arm func50 arl rfl _ d) rfl rfl ?_;clear a j N;rw[<-jo (M:=M)];refine a5 (aN (bR c)) Js 200 _ _ _ Jt ?_;walk_nrmf f50
 repeat w_go aZ.on
 u_defer aZ.on hF
 repeat w_go aZ.on
 refine g6 rfl hF fun P y O z d E j a hF=>?_;have k:d.cell? ⟨p,0,none⟩=some (.pointer (some ⟨c.st,0,none⟩)):=by simp[World.cell?,(hF.rw.heap p (.inl N4)).trans gK]
 refine tj AU rfl (fun b i=>hF.fy b (.inr i)) (stepG_value (v:=.pointer (some ⟨c.st,0,none⟩)) rfl rfl Bc BD) rfl (fun e A=>?_) ?_
 ·have s:=mem_listed A;simp[go_sem,k]at s;subst s;exact⟨rfl,AU⟩
 clear k a j z y;refine a5 (aN (bR c)) Js 200 _ _ _ Jt ?_;walk_nrm
 repeat w_go aZ.on
 refine g6 rfl hF fun P y O z d E j a hF=>?_;have k:d.cell? ⟨o,0,none⟩=some (.iface jt D):=by simp[World.cell?,(hF.rw.heap o (.inl L)).trans F0]
 refine tj AU rfl (fun b i=>hF.fy b (.inr i)) (stepG_value (v:=.iface jt D) rfl rfl Bc BD) rfl (fun e A=>?_) ?_
 ·have s:=mem_listed A;simp[go_sem,k]at s;subst s;exact⟨rfl,AU⟩
 clear k a j z y;refine a5 (aN (bR c)) Js 200 _ _ _ Jt ?_;walk_nrm
 repeat w_go aZ.on
 refine g6 rfl hF fun P y O z d E j a hF=>?_;have C:=aZ.tV hF;rw[jo]at C;rw[jo];refine MP (σ:=gn c ⟨.idle,false,0,f+4+15,.aR .free []⟩ M d) AU rfl rfl Bc (tW (vs:=#[.pointer (some ⟨c.st,0,none⟩),.iface jt D]) rfl func52 arj rfl EB d) (aq7 ok hC hS J (hI.tr hF)) C ?_;clear a j z y C hF;rintro u _ ⟨rfl,q,M',w1,jx,W,rfl⟩ gd eF ⟨hF,cj⟩;simp only[yE];rw[<-jo (M:=M')];refine a5 (aN (bR c)) Js 200 _ _ _ Jt ?_;walk_nrm
 repeat w_go aZ.on
 u_in aZ.on hF
 rw[stepG_unwind_enter rfl func51 ark rfl];simp only[goes_go];refine⟨FQ,?_⟩;walk_nrmf f51
 have hm:∀b,c.K b\/ck M' [] b->b≠c.wg:=fun b i e=>hF.fy b i (.inr (.inl e));refine Goes.stop (fun R Y=>⟨rfl,fun pJ JK=>?_⟩);replace hF:=hF.on Y;replace cj:=Nat.le_trans cj (xH (c:=c) (l:=⟨.idle,false,0,f+4+1,.aR .free q⟩) JK);refine bh.seen (aN (bR c)) rfl fun Q H V=>?_;replace cj:=Nat.le_trans cj (xH (c:=c) (l:=⟨.idle,false,0,f+4+1,.aR .free q⟩) H);have F:Q.am.taken=c.N:=by obtain⟨xs,iz,wo,X⟩:=xD V;have:=X.a2;omega
 refine vp.arh (f:=f) ok.d4 hm rfl (arn _) (fun f' g w' r hq=>?_) R Q (U.refl _ _ _) F;have B:=hF.on r;rw[jo]at r⊢;refine I q M' f' g w' (fun x Z=>?_) hq;exact J.mono _ _ _ _ _ _ (W x Z) (fun b i=>(B.rw.heap b i)) (fun _ h=>h)
end
end jn
namespace yR
open Conc RowKit Conc.Lib ConcR.Gen ConcM az bu ab gb iJ gF jn
theorem ary:(f49.name== "runtime.NumGoroutine")=false:=by kernel_rfl
theorem arz:(f53.name== "runtime.NumGoroutine")=false:=by kernel_rfl
section
variable {c:dT} {de:World} {S ak jA:Nat} {hH iN:Value} {k9:FuncId} {nE c7:Nat->Value->(Nat->Prop)->World->Prop} {M:Nat->Prop} {w0:World} {yU:Goroutine->Prop}
theorem arA(i:∀T v M w M' w',c7 T v M w->(∀b,c.K b\/M b->w'.heap[b]?=w.heap[b]?)->(∀b,M b->M' b)->c7 T v M' w'):∀m l g w a d,(∀b,a b->d b)->(cZ.Ef prog c7 (cZ.JN c prog M w0 yU)) m l ⟨g,w,a⟩->(cZ.Ef prog c7 (cZ.JN c prog M w0 yU)) m l ⟨g,w,d⟩:=by
 intro m l g w a d e h;cases m with
 |true=>exact⟨h.1,h.2.1,h.2.2.1,fun b k=>e b (h.2.2.2 b k)⟩
 |false=>
  rcases h with h|⟨q,f,p,o,n⟩
  ·exact .inl h
  ·exact .inr ⟨q,f,p,o,fun x j=>i _ _ _ _ _ _ (n x j) (fun _ _=>rfl) e⟩
theorem arB{Stop:Bool->ab.av aV->a6->Prop}(ok:xU c S ak jA)(hC:c.C=31)(hS:∀m l g w M M',(∀b,M b->M' b)->Stop m l ⟨g,w,M⟩->Stop m l ⟨g,w,M'⟩)(J:xI c de prog Stop 111 hH k9 iN (fun T=>T*ak) (fun T=>min (T*ak+ak) S) nE c7)
 (aEY:∀q M f' g w,qx c7 q M w->(∃n,QuitsD prog n 1 g)->Stop false ⟨.idle,false,1,f',.gone q⟩ ⟨g,w,M⟩) {fw V R W:Nat} {cs:List Frame} (N4:c.K V) (abN:c.K R) (abO:∃t v,hH=.iface t v) (hW:W<4611686018427387904) (hI:sz c de w0) (fo:c.rows c.N+W<=c.d4)
 (gK:w0.heap[V]?=some (.cells #[.pointer (some ⟨c.st,0,none⟩)] 124)) (F0:w0.heap[R]?=some (.cells #[hH] 123))
 (N0:∀(i K C d j B L A z u I O H F E N D s p o:Value) g w',U (ah (aE c)) M w0 w'->vp.N6 c g (Conc.G ((base 36).at ⟨#[i,K,C,.pointer (some ⟨R,0,none⟩),d,j,.pointer (some ⟨V,0,none⟩),.pointer (some ⟨c.wg,0,none⟩),B,L,A,z,u,I,.int .i64 (W:Int),.int .i64 (W:Int),O,H,F,E,.tuple #[],D,s,p,o],[]⟩ [.inRegion (ba.iD ((ba.cH 8 (f36.body.getD .skip)).getD .skip)) [],.code (ba.fK ((ba.cH 8 (f36.body.getD .skip)).getD .skip))]) cs)->Stop true ⟨.idle,false,0,fw,.main .over⟩ ⟨g,w',M⟩) (r:Nat):
 ∀(k:Nat)(i K C d j B L A z u I O H F E N D s p o:Value)(w:World)(γ:ab.aT cF),k+r=W->0<W->aZ (ah (aE c)) M w0 [] w->bh (ah (aE c)) prog Stop true ⟨.idle,false,0,23*r+4+fw,.main (.spawn k false)⟩ γ ⟨Conc.G ((base 36).at ⟨#[i,K,C,.pointer (some ⟨R,0,none⟩),d,j,.pointer (some ⟨V,0,none⟩),.pointer (some ⟨c.wg,0,none⟩),B,L,A,z,u,I,.int .i64 (W:Int),.int .i64 (k:Int),O,H,F,E,N,D,s,p,o],[]⟩ [.code ((ba.cS (f36.body.getD .skip)).getD .skip),.inLoop ((ba.cS (f36.body.getD .skip)).getD .skip),.inBlock 0,.code ((ba.cH 8 (f36.body.getD .skip)).getD .skip)]) cs,w,M⟩:=by
 have jT:=(aN (bR c)).og;induction r with
 |zero=>
  intro k i K C d j B L A z u I O H F E N D s p o w γ hk h0 hF;obtain rfl:k=W:=Ay;rw[Nat.mul_zero,Nat.zero_add,Nat.add_comm 4 fw];rw[<-jo (M:=M)];refine a5 (aN (bR c)) Js 200 _ _ γ Jt ?_;simp only[f36,Option.getD_some,ba.cS,ba.cH,Nat.reduceBEq,Bool.false_eq_true,↓reduceIte];repeat w_go aZ.on
  u_call func53 arz f53 aZ.on hF
  have Q:∀b,c.K b\/ck M [] b->b≠c.wg:=fun b a e=>hF.fy b a (.inr (.inl e));refine Goes.stop (fun X P=>⟨rfl,fun Y _=>vp.arx (f:=fw) (k:=k) h0 ok.d4 Q (fun g w' c5 ha=>?_) X Y (U.refl _ _ _)⟩);replace hF:=(hF.on P).on c5;rw[jo];simp only[f36,Option.getD_some,ba.cH,ba.fK,ba.iD,Nat.reduceBEq,Bool.false_eq_true,↓reduceIte]at N0;exact N0 i K C d j B L A z u I (.bool false) H F E N D s p o g w' hF.rw ha
 |succ r ih=>
  intro k i K C d j B L A z u I O H F E N D s p o w γ hk h0 hF;have e:23*(r+1)+4+fw=(23*r+4+fw+20)+3:=Ay;rw[e];rw[<-jo (M:=M)];refine a5 (aN (bR c)) Js 200 _ _ γ Jt ?_;simp only[f36,Option.getD_some,ba.cS,ba.cH,Nat.reduceBEq,Bool.false_eq_true,↓reduceIte]at ih⊢;have aEZ:decide (k<W)=true:=AU;have NN:IntKind.wrap .i64 ((k:Int)+1)=((k+1:Nat):Int):=Ct;repeat w_go aZ.on
  u_call func49 ary f49 aZ.on hF
  have Q:∀b,c.K b\/ck M [] b->b≠c.wg:=fun b a e=>hF.fy b a (.inr (.inl e));refine Goes.stop (fun X P=>⟨rfl,fun Y _=>vp.aq_ (f:=23*r+4+fw+20) (k:=k) ok.d4 Q (fun GA Ac rS=>?_) X Y (U.refl _ _ _)⟩);replace hF:=(hF.on P).on rS;clear P rS Q;refine a5 (aN (bR c)) Js 200 _ _ _ Jt ?_;walk_nrm
  repeat w_go aZ.on
  refine g6 rfl hF fun aJ Z aS aB aK ax aH hr hF=>?_;refine aqV hr (aqU rfl rfl Bc rfl rfl) rfl rfl (f:=23*r+4+fw) (k:=k) rfl Ay ?_ ?_
  ·clear hr aH aB Z;refine a5 (aN (bR c)) Js 200 _ _ _ Jt ?_;walk_nrm
   iterate 7 w_go aZ.on
   refine Goes.stop (fun aJ Z=>⟨rfl,fun aS aB=>?_⟩);replace hF:=hF.on Z;grind[jo]
  ·have Rd:aZ (ah (aE c)) (fun _=>False) w0 [] aK:=⟨⟨fun b a=>hF.rw.heap b (a.imp id False.elim),hF.rw.size,hF.rw.later,hF.rw.output,hF.rw.tape⟩,Aa,fun b a=>hF.lt b (a.imp id (fun x=>x.imp False.elim id)),fun b a=>hF.fy b (a.imp id (fun x=>x.elim False.elim (fun y=>AU))),Aa,Aa,fun _ h=>h.elim⟩;grind[aro]
end
end yR
namespace sJ
open Conc RowKit ConcM az bu ab gb iJ gF jn cZ yR
theorem arC(x:Value)(N:Nat):madeCells #[x] N=(List.replicate N x).toArray:=by unfold madeCells;grind
structure GJ(c:dT)(bt:Nat->Prop)(S ak N n W:Nat)(rows:Nat->Nat)(cC dy b2:Nat):Prop where
 cj:c.N=N
 vV:∀T,T<N->c.rows T=rows T
 hK:∀b,c.K b↔bt b\/b=cC\/b=dy\/b=b2
 yT:c.size=.int .i64 (S:Int)
 arD:c.Bg=.int .i64 (ak:Int)
 arE:c.zQ=.slice (some ⟨c.bG,0,none⟩) N N
 arF:c.MG=.slice none 0 0
 fo:c.d4=n+W
 arG:c.MF=172
 aE2:c.F6=68
section
variable {P:Program} {Post:Value->World->Prop}
variable {b₁:Frame} {a₁:Act} {aG:Array Oper} {i₁:Nat} {aP:List Nat} {k₁:List Item} {cs₁:List Frame}
theorem arH{n:Nat}{Shun:Loc->Prop}{S ak N W:Nat}{rows:Nat->Nat}(iL:0<ak)(hm:ak<=64)(hn:0<W)(hW:W<=16)(hS:S<=1000)(cj:N=(S+ak-1) / ak)(aj:n+W<=250)(vV:kr rows N<=300)
 {jt:TypeId} {eM iN:Value} {xV k9:FuncId} {bt:Nat->Prop} {w:World} {nE c7:dT->Nat->Value->(Nat->Prop)->World->Prop}
 (dG:∀b,bt b->b<w.heap.size) (kt:∀b,bt b\/w.heap.size<=b->∀l,fF l=some b->¬Shun l)
 (hinv:∀w,(callMethod (.iface jt eM) "Size" #[]).run prog w=.ok (.enter xV (#[iN]++#[])) w/\(callMethod (.iface jt eM) "Size" #[]).events prog w #[]=#[])
 (yT:∀(ST:Bool->e6.av->a6->Prop) bs,(∀m l g w M M',(∀b,M b->M' b)->ST m l ⟨g,w,M⟩->ST m l ⟨g,w,M'⟩)->jS prog ST true xV (#[iN]++#[]) (jq e6 () bt w bs) (fun u b4=>u=.int .i64 (S:Int)/\b4=jq e6 () bt w bs))
 (JS:∀c de Stop d e i,GJ c bt S ak N n W rows d e i->(∀b,bt b->de.heap[b]?=w.heap[b]?)->xI c de prog Stop 111 (.iface jt eM) k9 iN (fun T=>T*ak) (fun T=>min (T*ak+ak) S) (nE c) (c7 c))
 (Ts:∀c de d e i(o dn L j r I d7 H F E Z O V R Q P B A z:Value) n' cR M' D w',GJ c bt S ak N n W rows d e i->U e6 bt w de->de.heap[d]?=some (.cells #[.pointer (some ⟨c.st,0,none⟩)] 124)->JM c (c7 c) (fun _=>False) de n' cR M' D w'->cp prog Post n' cR 0 (Conc.G ((base 36).at ⟨#[o,dn,L,.pointer (some ⟨e,0,none⟩),j,r,.pointer (some ⟨d,0,none⟩),.pointer (some ⟨c.wg,0,none⟩),I,d7,H,F,E,Z,.int .i64 (W:Int),.int .i64 (W:Int),O,V,R,Q,.tuple #[],P,B,A,z],[]⟩ [.inRegion (ba.iD ((ba.cH 8 (f36.body.getD .skip)).getD .skip)) [],.code (ba.fK ((ba.cH 8 (f36.body.getD .skip)).getD .skip))]) (b₁.at a₁ (.inRegion aG (i₁::aP)::k₁)::cs₁)) w'):
 cp prog Post n Shun 0 (Conc.G (Frame.enter prog 36 #[.agg #[.int .i64 (W:Int),.int .i64 (ak:Int)],.iface jt eM] .normal) (b₁.at a₁ (.inRegion aG (i₁::aP)::k₁)::cs₁)) w:=by
 have mA:aZ e6 bt w [] w:=aZ.start (fun b hb=>AU) (fun b _ h=>h.elim) (fun _ _ h=>h.elim);refine Bs (aoy (X:=⟨_,w,ck bt []⟩) (aqt (ST:=fun _ _ Y=>∃st bG d i e wg bs,∃(o dn L j r I d7 H F E Z O V R Q gx P B A z:Value),aZ e6 bt w bs Y.w/\(∀x∈[(wg,Obj.cells #[.int .u64 0,.int .u32 0] 136),(d,Obj.cells #[.pointer (some ⟨st,0,none⟩)] 124),(st,Obj.cells #[.int .i32 0,.int .u32 0,.int .i64 (S:Int),.int .i64 (ak:Int),.int .i64 0,.int .i64 0,.slice (some ⟨bG,0,none⟩) N N,.slice none 0 0] 172),(bG,Obj.cells (madeCells #[.slice none 0 0] N) 68),(e,Obj.cells #[.iface jt eM] 123),(i,Obj.cells #[.int .i64 (W:Int),.int .i64 (ak:Int)] 64)],x∈bs)/\Y.g=Conc.G ((base 36).at ⟨#[o,dn,L,.pointer (some ⟨e,0,none⟩),j,r,.pointer (some ⟨d,0,none⟩),.pointer (some ⟨wg,0,none⟩),I,d7,H,F,E,Z,.int .i64 (W:Int),.int .i64 (0:Int),O,V,R,Q,gx,P,B,A,z],[]⟩ [.code ((ba.cS (f36.body.getD .skip)).getD .skip),.inLoop ((ba.cS (f36.body.getD .skip)).getD .skip),.inBlock 0,.code ((ba.cH 8 (f36.body.getD .skip)).getD .skip)]) (b₁.at a₁ (.inRegion aG (i₁::aP)::k₁)::cs₁)/\∀b,ck bt bs b->Y.mine b) (N:=N) (W:=W) iL cj Ay Ay hinv (fun bs=>yT _ bs (fun m l g w M M' BC h=>by obtain⟨st,bG,d,i,e,wg,bs,o,dn,L,j,r,I,d7,H,F,E,Z,O,V,R,Q,gx,P,B,A,z,f,bI,hg,c_⟩:=h;exact⟨st,bG,d,i,e,wg,bs,o,dn,L,j,r,I,d7,H,F,E,Z,O,V,R,Q,gx,P,B,A,z,f,bI,hg,fun b hb=>BC b (c_ b hb)⟩)) (fun st bG d i e wg bs w' o dn L j r I d7 H F E Z O V R Q gx P B A z f bI _=>.stop ⟨st,bG,d,i,e,wg,bs,o,dn,L,j,r,I,d7,H,F,E,Z,O,V,R,Q,gx,P,B,A,z,f,bI,rfl,fun _ h=>h⟩) w mA) rfl (fun b hb=>dG b (by simp_all[jo])) (fun b hb=>kt b (by simp_all[jo])) (fun Y kM hl=>.stop (fun k=>?_)));obtain⟨st,bG,d,i,e,wg,bs,o,dn,L,j,r,I,d7,H,F,E,Z,O,V,R,Q,gx,P,B,A,z,f,bI,hg,c_⟩:=kM;rw[hg];have IH:=f.cV _ (bI (wg,Obj.cells #[.int .u64 0,.int .u32 0] 136) Aa);have gK:=f.cV _ (bI (d,Obj.cells #[.pointer (some ⟨st,0,none⟩)] 124) Aa);have hst:=f.cV _ (bI (st,Obj.cells #[.int .i32 0,.int .u32 0,.int .i64 (S:Int),.int .i64 (ak:Int),.int .i64 0,.int .i64 0,.slice (some ⟨bG,0,none⟩) N N,.slice none 0 0] 172) Aa);have I1:=f.cV _ (bI (bG,Obj.cells (madeCells #[.slice none 0 0] N) 68) Aa);have F0:=f.cV _ (bI (e,Obj.cells #[.iface jt eM] 123) Aa);have bY:=f.cV _ (bI (i,Obj.cells #[.int .i64 (W:Int),.int .i64 (ak:Int)] 64) Aa);have hne:∀{a b:Nat}{x y:Array Value}{s t:TypeId},Y.w.heap[a]?=some (.cells x s)->Y.w.heap[b]?=some (.cells y t)->s≠t->a≠b:=by grind
 have nZ:∀x∈[(wg,Obj.cells #[.int .u64 0,.int .u32 0] 136),(d,Obj.cells #[.pointer (some ⟨st,0,none⟩)] 124),(st,Obj.cells #[.int .i32 0,.int .u32 0,.int .i64 (S:Int),.int .i64 (ak:Int),.int .i64 0,.int .i64 0,.slice (some ⟨bG,0,none⟩) N N,.slice none 0 0] 172),(bG,Obj.cells (madeCells #[.slice none 0 0] N) 68),(e,Obj.cells #[.iface jt eM] 123),(i,Obj.cells #[.int .i64 (W:Int),.int .i64 (ak:Int)] 64)],¬bt x.1/\w.heap.size<=x.1/\x.1<Y.w.heap.size:=by
  intro x hx;have h1:x.1∈bs.map (·.1):=List.mem_map.2 ⟨x,bI x hx,rfl⟩;have h2:¬bt x.1:=fun h=>f.uS x.1 h1 (.inr h);have h3:Y.mine x.1:=c_ _ (.inr h1);rcases hl.new x.1 h3 with h|h
  ·simp_all[jo]
  grind
 have aE3:=nZ (wg,Obj.cells #[.int .u64 0,.int .u32 0] 136) Aa;have aE4:=nZ (d,Obj.cells #[.pointer (some ⟨st,0,none⟩)] 124) Aa;have Tr:=nZ (st,Obj.cells #[.int .i32 0,.int .u32 0,.int .i64 (S:Int),.int .i64 (ak:Int),.int .i64 0,.int .i64 0,.slice (some ⟨bG,0,none⟩) N N,.slice none 0 0] 172) Aa;have aE5:=nZ (bG,Obj.cells (madeCells #[.slice none 0 0] N) 68) Aa;have aE6:=nZ (e,Obj.cells #[.iface jt eM] 123) Aa;have aE7:=nZ (i,Obj.cells #[.int .i64 (W:Int),.int .i64 (ak:Int)] 64) Aa;have arI:∀b,bt b->Y.w.heap[b]?=w.heap[b]?:=fun b hb=>f.rw.heap b (.inr hb);have hsz:w.heap.size<=Y.w.heap.size:=f.rw.size;have arJ:∀b,(bt b\/b=d\/b=e\/b=i)->b≠st/\b≠wg/\b≠bG:=by grind
 let c:dT:={st:=st,bG:=bG,wg:=wg,MF:=172,F6:=68,tWg:=136,N:=N,rows:=(fun T=>if T<N then rows T else n),size:=.int .i64 (S:Int),Bg:=.int .i64 (ak:Int),zQ:=.slice (some ⟨bG,0,none⟩) N N,MG:=.slice none 0 0,K:=(fun b=>bt b\/b=d\/b=e\/b=i),d4:=n+W,C:=31,fy:=⟨hne hst IH AW,hne hst I1 AW,hne IH I1 AW⟩,Bh:=arJ}
 have Af:GJ c bt S ak N n W rows d e i:=⟨rfl,fun T h=>if_pos h,fun b=>Iff.rfl,rfl,rfl,rfl,rfl,rfl,rfl,rfl⟩;have To:N<=S+ak:=by rw[cj];exact Nat.le_trans (Nat.div_le_self _ _) Ay
 have hmul:(N+1)*ak<=2000*64:=Nat.mul_le_mul Ay hm;have ok:xU c S ak N:=⟨rfl,rfl,rfl,(by
  show kr c.rows N<=300;rw[RD (g:=rows) (fun p al=>if_pos al)];grind),AU,AU,AU⟩
 have J:=fun Stop=>JS c Y.w Stop d e i Af arI;have abS:∀b,c.K b\/(ah (aE c)).hV b->b<Y.w.heap.size/\∀l,fF l=some b->¬Shun l:=by
  rintro b ((h|rfl|rfl|rfl)|(h|h|h))
  ·exact⟨Nat.lt_of_lt_of_le (dG b h) hsz,kt b (.inl h)⟩
  ·grind
  ·grind
  ·grind
  ·grind
  ·grind
  grind
 refine aqG (c:=c) (c7:=c7 c) (J (fun _ _ _=>True)).mono (n:=n) (yU:=fun g'=>∃(o dn L j r I d7 H F E Z O V R Q P B A z:Value),g'=Conc.G ((base 36).at ⟨#[o,dn,L,.pointer (some ⟨e,0,none⟩),j,r,.pointer (some ⟨d,0,none⟩),.pointer (some ⟨c.wg,0,none⟩),I,d7,H,F,E,Z,.int .i64 (W:Int),.int .i64 (W:Int),O,V,R,Q,.tuple #[],P,B,A,z],[]⟩ [.inRegion (ba.iD ((ba.cH 8 (f36.body.getD .skip)).getD .skip)) [],.code (ba.fK ((ba.cH 8 (f36.body.getD .skip)).getD .skip))]) (b₁.at a₁ (.inRegion aG (i₁::aP)::k₁)::cs₁)) (w:=Y.w.at k) (w0:=Y.w.at k) (M:=fun _=>False) (Shun:=Shun) (f0:=23*W+4+0) (v:=0) (b0:=⟨0,false,0,0,0,List.replicate N (.slice none 0 0)⟩) rfl (if_neg (Nat.lt_irrefl _)).symm (Nat.le_add_right _ _) ⟨rfl,rfl,rfl,rfl,rfl,by simp;rfl⟩ ⟨?_,?_,fun _=>?_⟩ (fun b h=>h.elim) (fun b hb=>abS b (hb.resolve_left K4)) (fun k'=>?_) (fun g' sf n' cR M' D w' c0=>?_)
 ·show Y.w.heap[st]?=some (ic (aE c) ⟨false,false,false,0,0,0⟩ ⟨0,false,0,0,0,List.replicate N (.slice none 0 0)⟩);rw[hst];simp[ic,bk.word,c]
 ·show Y.w.heap[wg]?=some (vd c ⟨0,false,0,0,0,List.replicate N (.slice none 0 0)⟩);rw[IH];simp[vd,c]
 ·show Y.w.heap[bG]?=_;rw[I1,arC];rfl
 ·refine arB (c:=c) (de:=Y.w) (w0:=Y.w.at k) (M:=fun _=>False) ok rfl (arA (J (fun _ _ _=>True)).mono) (J _) (fun q M f' g w l4 hq=>.inr ⟨q,f',rfl,hq,l4⟩) (fw:=0) (W:=W) (cs:=b₁.at a₁ (.inRegion aG (i₁::aP)::k₁)::cs₁) (.inr Jt) (.inr (.inr Jt)) ⟨jt,eM,rfl⟩ Ay (fun b hb=>rfl) AU gK F0 (fun o dn L j r I d7 H F E Z O V R Q gx P B A z g w' hr ha=>?_) W 0 o dn L j r I d7 H F E Z O V R Q gx P B A z ((Y.w.at k).at k') _ Ay hn ?_
  ·obtain⟨g1,h1,h2⟩:=ha;exact⟨⟨rfl,rfl,rfl⟩,⟨g1,h1,_,⟨o,dn,L,j,r,I,d7,H,F,E,Z,O,V,R,Q,P,B,A,z,rfl⟩,h2⟩,hr,fun b h=>h.elim⟩
  ·exact⟨⟨fun _ _=>rfl,Nat.le_refl _,.refl _,rfl,rfl⟩,Aa,fun b hb=>(abS b AU).1,fun b hb=>by
    rcases hb with h|h|h
    ·grind
    ·grind
    ·simp at h,by simp,by simp,fun _ h=>h.elim⟩
 ·obtain⟨o,dn,L,j,r,I,d7,H,F,E,Z,O,V,R,Q,P,B,A,z,rfl⟩:=sf;exact Ts c (Y.w.at k) d e i o dn L j r I d7 H F E Z O V R Q P B A z n' cR M' D w' Af ⟨f.rw.heap,f.rw.size,f.rw.later,f.rw.output,f.rw.tape⟩ gK c0
end
end sJ
end Go.Proofs.YtoehnnefaeoeoaaGreat
