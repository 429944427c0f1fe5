import Derived.Test.YtncomcmfgmojkaaGreatPAO
import Derived.Test.YtncomcmfgmojkaaGreatPAP
import Derived.Test.YtncomcmfgmojkaaGreatPAQ
import Derived.Test.YtncomcmfgmojkaaGreatPAR
import Derived.Test.YtncomcmfgmojkaaGreatPAS
set_option linter.all false
set_option maxRecDepth 100000
set_option maxHeartbeats 16000000
namespace Go.Proofs.YtncomcmfgmojkaaGreat
open Go.Proofs.Tryz
namespace fO
open Conc RowKit Conc.Lib ConcR.Gen ConcM av bn ah fi hZ bO
theorem I9:(f93.name== "runtime.NumGoroutine")=false:=by kernel_rfl
structure uS(c:dI)(S ao iM:Nat):Prop where
 size:c.size=.int .i64 (S:Int)
 zF:c.zF=.int .i64 (ao:Int)
 xt:c.xt=.slice (some ⟨c.bF,0,none⟩) c.N iM
 oE:jK c.rows c.N<=300
 room:(c.N+1)*ao+S<4611686018427387904
 most:c.most<=250
 small:c.N<4611686018427387904
section
variable{c:dI}{Stop:Bool->ah.Lo At->aV->Prop}{mine:Nat->Prop}{S ao iM:Nat}
variable{a2:Frame}{aF:Act}{aD:Array Oper}{aI:Nat}{aL:List Nat}{aH:List Item}{csZ:List Frame}
def aqp(ok:uS c S ao iM){T:Nat}(h:T<c.N):(T:Int)*(ao:Int)=((T*ao:Nat):Int)/\T*ao+ao+S<4611686018427387904:=by refine⟨AA,?_⟩;have h1:(T+1)*ao<=(c.N+1)*ao:=Nat.mul_le_mul_right _ As;have a:=ok.room;grind
def aqq(ok:uS c S ao iM){T:Nat}(h:T<c.N):∃F a E:Nat,(T:Int)*(ao:Int)=(F:Int)/\IntKind.wrap .i64 (F:Int)=(F:Int)/\IntKind.wrap .i64 ((F:Int)+(ao:Int))=(a:Int)/\(if S<a then(S:Int)else(a:Int))=(E:Int)/\qE (F=T*ao/\E=min (T*ao+ao) S):=by
 obtain⟨h1,b⟩:=aqp ok h;refine⟨T*ao,T*ao+ao,min (T*ao+ao) S,h1,?_,?_,?_,Y,Y⟩
 .rw[IntKind.wrap_i64];omega
 .rw[IntKind.wrap_i64];omega
 grind
def aqr(ok:uS c S ao iM){T:Nat}(h:T<c.N):IntKind.wrap .i64 ((T:Int)+1)=((T+1:Nat):Int):=by have:=ok.small;rw[IntKind.wrap_i64];omega
def TK(S ao T:Nat):Value:=.agg #[.int .i64 (T:Int),.int .i64 ((T*ao:Nat):Int),.int .i64 ((min (T*ao+ao) S:Nat):Int)]
def TL(aF:Act)(aD:Array Oper)(aI:Nat)(v:Value):Act:=aF.put ((aD[aI]?).bind (·.dst)) v
def aqs(ok:uS c S ao iM){f:Nat}{p:List (Nat×Value)}{w0:aO}(hS:∀m l g w M M',(∀b,M b->M' b)->Stop m l ⟨g,w,M⟩->Stop m l ⟨g,w,M'⟩)(a0:∀w' aj,ai (ak (az c)) mine w0 w'->c.N<=aj.am.taken->bh (ak (az c)) prog Stop false ⟨.idle,false,0,f+1,.work .free p⟩ aj ⟨Conc.G (a2.at (TL aF aD aI (.tuple #[.agg #[.int .i64 0,.int .i64 0,.int .i64 0],.bool false])) (.inRegion aD aL::aH)) csZ,w',mine⟩)(gb:∀w' aj T,ai (ak (az c)) mine w0 w'->T<c.N->bh (ak (az c)) prog Stop false ⟨.idle,false,0,f+c.C,.work (.has T) p⟩ aj ⟨Conc.G (a2.at (TL aF aD aI (.tuple #[TK S ao T,.bool true])) (.inRegion aD aL::aH)) csZ,w',mine⟩)(w:aO)(γ:ah.aN cx)(hk:af (ak (az c)) mine w0 [] w):
 bh (ak (az c)) prog Stop false ⟨.idle,false,0,f+15,.work .free p⟩ γ ⟨Conc.G ((base 85).at ⟨#[.pointer (some ⟨c.st,0,none⟩)]++Array.replicate 64 undef,[]⟩ [.code (f85.body.getD .skip)]) (a2.at aF (.inRegion aD (aI::aL)::aH)::csZ),w,cd mine []⟩:=by
 have hF:=hk;have jL:=(dg (bR c)).nh;have W:prog.follows .mixedOrders=true:=BA;refine bk (bR c) ?_;simp only[f85,Option.getD_some];walk_nrm
 repeat w_go af.on
 refine g9 Y hF λo j J s n N B y hF=>?_;refine s7 AA jL Y hF (stepG_value (v:=.pointer (some ⟨n.heap.size,0,none⟩)) (w':=n.alloc (Obj.cells #[Value.int IntKind.i64 0,Value.int IntKind.i64 0,Value.int IntKind.i64 0] 190)) Y Y BJ Be) Y Bs (λr=>?_);clear hF;have hF:=r;clear r y B s j;generalize n.heap.size=b0 at hF⊢;generalize n.alloc (Obj.cells #[Value.int IntKind.i64 0,Value.int IntKind.i64 0,Value.int IntKind.i64 0] 190)=w3 at hF⊢;refine bk (bR c) ?_;walk_nrm
 repeat w_go af.on
 u_call func92 Tq f92 af.on hF
 have R:∀b,(az c).K b\/cd mine [(b0,Obj.cells #[Value.int IntKind.i64 0,Value.int IntKind.i64 0,Value.int IntKind.i64 0] 190)] b->b≠(az c).st:=λb D e=>hF.eZ b D (.inl e);refine Goes.stop (λz U=>⟨Y,λV _=>Nk (f:=f+9) (bR c) (a:=.work .free p) Lv ok.most R (λP yy Q=>?_) z V (ai.refl _ _ _)⟩);replace hF:=(hF.on U).on Q;clear U Q R;refine bk (bR c) ?_;walk_nrm
 repeat w_go af.on
 u_defer af.on hF
 repeat w_go af.on
 refine Goes.stop (λo j=>⟨Y,λJ s=>?_⟩);replace hF:=hF.on j;clear j s;refine bh.seen (dg (bR c)) Y λJ _ kz=>?_;obtain⟨xs,dM,ue,jZ⟩:=t9 kz;obtain⟨d,hd⟩:∃d,g_.of J.am=d:=⟨_,Y⟩;have Nq:d.T<=c.N:=by subst hd;exact jZ.aQ
 have dz:d.M<=300:=by subst hd;exact Nat.le_trans jZ.YQ ok.oE
 clear ue jZ kz;by_cases hT:d.T=c.N
 .skip
  refine BC (Z:=ak (az c)) (C:=BH c mine w0 (d) ⟨.own,true,0,f+9,.work .free p⟩) AA BJ W Ln Iz (σ:=mo c mine w0 (d) ⟨.own,true,0,f+9,.work .free p⟩ [(b0,Obj.cells #[Value.int IntKind.i64 0,Value.int IntKind.i64 0,Value.int IntKind.i64 0] 190)]) (hN:=rW prog Stop false _ _ _ _ []) Kj ⟨_,Y⟩ ?_ _ J ⟨hF,hd⟩;walk_nrm
  refine eA 0 (.pointer (some ⟨c.st,0,none⟩)) ?_;walk_nrm
  refine eA 1 (.pointer (some ⟨c.st,0,none⟩)) ?_;walk_nrm
  refine eA 2 (.pointer (some ⟨c.st,4,none⟩)) ?_;walk_nrm
  refine ja (i:=3) (v:=.int .i64 (d.T:Int)) Ln Y AV AV AV (ua Y Y Y 2 Y (λx I=>by grind[g_.of]) (λw q=>⟨Be,Cl⟩)) ⟨_,Y⟩ ?_;walk_nrm
  refine eA 4 (.pointer (some ⟨c.st,0,none⟩)) ?_;walk_nrm
  refine eA 5 (.pointer (some ⟨c.st,0,none⟩)) ?_;walk_nrm
  refine eA 6 (.pointer (some ⟨c.st,6,none⟩)) ?_;walk_nrm
  refine ja (i:=7) (v:=.slice (some ⟨c.bF,0,none⟩) c.N iM) Ln Y AV AV AV (ua Y Y Y 4 Y (λx I=>by subst I;simp[ok.xt]) (λw q=>⟨Be,Cl⟩)) ⟨_,Y⟩ ?_;walk_nrm
  refine eA 8 (.int .i64 (c.N:Int)) ?_;walk_nrm
  refine eA 9 (.bool true) ?_;walk_nrm
  refine eA 10 (.bool true) ?_;walk_nrm
  refine ja (i:=11) (v:=undef) Ln Y AV AV AV (IA Y) ⟨_,Y⟩ ?_;walk_nrm
  refine ja (i:=12) (v:=undef) Ln Y AV AV AV (IA Y) ⟨_,Y⟩ ?_;walk_nrm
  refine ja (i:=13) (v:=undef) Ln Y AV AV AV (IA Y) ⟨_,Y⟩ ?_;walk_nrm
  refine ja (i:=14) (v:=undef) Ln Y AV AV AV (IA Y) ⟨_,Y⟩ ?_;walk_nrm
  refine ja (i:=15) (v:=undef) Ln Y AV AV AV (IA Y) ⟨_,Y⟩ ?_;walk_nrm
  refine eA 16 (.bool true) ?_;walk_nrm
  refine BB AV ?_ _;rintro o X ⟨r,K⟩;clear hd;have hd:=K;clear K;clear hF;have hF:=r;clear r;simp[mo];have dB:FE c ⟨.own,true,0,f+9,.work .free p⟩ X:=⟨λh=>h,by have e:=congrArg g_.T hd;grind[g_.of]⟩;clear hd dz Nq hT;refine bk (bR c) ?_;walk_nrm
  repeat w_go af.on
  refine g9 Y hF λo j J s n N B y hF=>?_;replace dB:=Mh _ _ _ (Mh _ _ _ dB s) B;have u:=hF.cL (b0,.cells #[.int .i64 0,.int .i64 0,.int .i64 0] 190) A_;refine BL AA Y (pre:=[]) (post:=[]) hF (stepG_none (w':=n.setRow b0 #[.int .i64 0,.int .i64 0,.int .i64 0]) Y Y BJ (pG u ⟨Y,Y,Y⟩ Y Y Y).1) Y (λe L=>?_) (λr=>?_)
  .have H:=mem_listed L;rw[(pG u ⟨Y,Y,Y⟩ Y Y Y).2]at H;grind
  clear hF;have hF:=r;clear r u;clear y B s j;refine bk (bR c) ?_;walk_nrm
  repeat w_go af.on
  u_in af.on hF
  rw[stepG_unwind_enter Y func93 I9 Y];simp only[goes_go];refine⟨E4,?_⟩;walk_nrmf f93
  have R:∀b,c.K b\/cd mine [(b0,Obj.cells #[Value.int IntKind.i64 0,Value.int IntKind.i64 0,Value.int IntKind.i64 0] 190)] b->b≠c.st:=λb D e=>hF.eZ b D (.inl e);refine Goes.stop (λz U=>⟨Y,λV Jm=>apU (f:=f+1) ok.most R Y Y (λP yy Q aEE=>?_) z V (ai.refl _ _ _) (Mh _ _ _ dB Jm).2⟩);replace hF:=(hF.on U).on Q;clear U Q R dB;refine bh.mk Y (λn N B y=>?_);replace hF:=hF.on (dO.rw y);have u:=hF.cL (b0,.cells #[.int .i64 0,.int .i64 0,.int .i64 0] 190) A_;refine rY AA Y (λb D=>hF.eZ b (.inr D)) (YZ Y Y func85 (Nl (t:=.bool false) u Y Y).1 (Nl (t:=.bool false) u Y Y).2) Y (λe L=>?_) ?_
  .have H:=av.wS L;simp at H;rcases H with rfl|rfl|rfl<;>exact⟨Y,.inr (.inr A_)⟩
  rw[Frame.finish_at];exact bh.more hS (a0 n N hF.rw AA) (λb D=>.inl D)
 .skip
  have O:d.T<c.N:=As;have hne:((d.T:Int)==(c.N:Int))=false:=AA;have Ia:decide ((300:Int)<(d.M:Int))=false:=AA;obtain⟨F,Jl,E,hmul,aqt,aqu,aqv,aqw⟩:=aqq ok O;refine BC (Z:=ak (az c)) (C:=BH c mine w0 (d) ⟨.own,true,0,f+9,.work .free p⟩) AA BJ W Ln Iz (σ:=mo c mine w0 (d) ⟨.own,true,0,f+9,.work .free p⟩ [(b0,Obj.cells #[Value.int IntKind.i64 0,Value.int IntKind.i64 0,Value.int IntKind.i64 0] 190)]) (hN:=rW prog Stop false _ _ _ _ []) Kj ⟨_,Y⟩ ?_ _ J ⟨hF,hd⟩;walk_nrm
  refine eA 0 (.pointer (some ⟨c.st,0,none⟩)) ?_;walk_nrm
  refine eA 1 (.pointer (some ⟨c.st,0,none⟩)) ?_;walk_nrm
  refine eA 2 (.pointer (some ⟨c.st,4,none⟩)) ?_;walk_nrm
  refine ja (i:=3) (v:=.int .i64 (d.T:Int)) Ln Y AV AV AV (ua Y Y Y 2 Y (λx I=>by grind[g_.of]) (λw q=>⟨Be,Cl⟩)) ⟨_,Y⟩ ?_;walk_nrm
  refine eA 4 (.pointer (some ⟨c.st,0,none⟩)) ?_;walk_nrm
  refine eA 5 (.pointer (some ⟨c.st,0,none⟩)) ?_;walk_nrm
  refine eA 6 (.pointer (some ⟨c.st,6,none⟩)) ?_;walk_nrm
  refine ja (i:=7) (v:=.slice (some ⟨c.bF,0,none⟩) c.N iM) Ln Y AV AV AV (ua Y Y Y 4 Y (λx I=>by subst I;simp[ok.xt]) (λw q=>⟨Be,Cl⟩)) ⟨_,Y⟩ ?_;walk_nrm
  refine eA 8 (.int .i64 (c.N:Int)) ?_;walk_nrm
  refine eA 9 (.bool false) ?_;walk_nrm
  refine eA 10 (.bool false) ?_;walk_nrm
  refine eA 11 (.pointer (some ⟨c.st,0,none⟩)) ?_;walk_nrm
  refine eA 12 (.pointer (some ⟨c.st,0,none⟩)) ?_;walk_nrm
  refine eA 13 (.pointer (some ⟨c.st,5,none⟩)) ?_;walk_nrm
  refine ja (i:=14) (v:=.int .i64 (d.M:Int)) Ln Y AV AV AV (ua Y Y Y 3 Y (λx I=>by grind[g_.of]) (λw q=>⟨Be,Cl⟩)) ⟨_,Y⟩ ?_;walk_nrm
  refine eA 15 (.bool false) ?_;walk_nrm
  refine eA 16 (.bool false) ?_;walk_nrm
  refine BB AV ?_ _;rintro o X ⟨r,K⟩;clear hd;have hd:=K;clear K;clear hF;have hF:=r;clear r;simp[mo];clear hT Nq dz hne Ia;refine bk (bR c) ?_;walk_nrm
  repeat w_go af.on
  refine Goes.stop (λo j=>⟨Y,λJ s=>?_⟩);replace hF:=hF.on j;replace hd:=(t_ (c:=c) (l:=⟨.own,true,0,f+9,.work .free p⟩) Y s).trans hd;clear j s;refine BC (Z:=ak (az c)) (C:=BH c mine w0 (d) ⟨.own,true,0,f+9,.work .free p⟩) AA BJ W Ln Iz (σ:=mo c mine w0 (d) ⟨.own,true,0,f+9,.work .free p⟩ [(b0,Obj.cells #[Value.int IntKind.i64 0,Value.int IntKind.i64 0,Value.int IntKind.i64 0] 190)]) (hN:=rW prog Stop false _ _ _ _ []) Kj ⟨_,Y⟩ ?_ _ J ⟨hF,hd⟩;walk_nrm
  refine eA 0 (.pointer (some ⟨c.st,0,none⟩)) ?_;walk_nrm
  refine eA 1 (.pointer (some ⟨c.st,0,none⟩)) ?_;walk_nrm
  refine eA 2 (.pointer (some ⟨c.st,4,none⟩)) ?_;walk_nrm
  refine ja (i:=3) (v:=.int .i64 (d.T:Int)) Ln Y AV AV AV (ua Y Y Y 2 Y (λx I=>by grind[g_.of]) (λw q=>⟨Be,Cl⟩)) ⟨_,Y⟩ ?_;walk_nrm
  refine eA 4 (.pointer (some ⟨c.st,0,none⟩)) ?_;walk_nrm
  refine eA 5 (.pointer (some ⟨c.st,0,none⟩)) ?_;walk_nrm
  refine eA 6 (.pointer (some ⟨c.st,3,none⟩)) ?_;walk_nrm
  refine ja (i:=7) (v:=.int .i64 (ao:Int)) Ln Y AV AV AV (ua Y Y Y 1 Y (λx I=>by subst I;simp[ok.zF]) (λw q=>⟨Be,Cl⟩)) ⟨_,Y⟩ ?_;walk_nrm
  refine eA 8 (.int .i64 (F:Int)) ?_;walk_nrm
  refine eA 9 (.int .i64 (F:Int)) ?_;walk_nrm
  refine BB AV ?_ _;rintro o X ⟨r,K⟩;clear hd;have hd:=K;clear K;clear hF;have hF:=r;clear r;simp[mo];refine bk (bR c) ?_;walk_nrm
  repeat w_go af.on
  refine Goes.stop (λo j=>⟨Y,λJ s=>?_⟩);replace hF:=hF.on j;replace hd:=(t_ (c:=c) (l:=⟨.own,true,0,f+9,.work .free p⟩) Y s).trans hd;clear j s;refine BC (Z:=ak (az c)) (C:=BH c mine w0 (d) ⟨.own,true,0,f+9,.work .free p⟩) AA BJ W Ln Iz (σ:=mo c mine w0 (d) ⟨.own,true,0,f+9,.work .free p⟩ [(b0,Obj.cells #[Value.int IntKind.i64 0,Value.int IntKind.i64 0,Value.int IntKind.i64 0] 190)]) (hN:=rW prog Stop false _ _ _ _ []) Kj ⟨_,Y⟩ ?_ _ J ⟨hF,hd⟩;walk_nrm
  refine eA 0 (.pointer (some ⟨c.st,0,none⟩)) ?_;walk_nrm
  refine eA 1 (.pointer (some ⟨c.st,0,none⟩)) ?_;walk_nrm
  refine eA 2 (.pointer (some ⟨c.st,4,none⟩)) ?_;walk_nrm
  refine ja (i:=3) (v:=.int .i64 (d.T:Int)) Ln Y AV AV AV (ua Y Y Y 2 Y (λx I=>by grind[g_.of]) (λw q=>⟨Be,Cl⟩)) ⟨_,Y⟩ ?_;walk_nrm
  refine eA 4 (.int .i64 (F:Int)) ?_;walk_nrm
  refine eA 5 (.int .i64 (F:Int)) ?_;walk_nrm
  refine eA 6 (.pointer (some ⟨c.st,0,none⟩)) ?_;walk_nrm
  refine eA 7 (.pointer (some ⟨c.st,0,none⟩)) ?_;walk_nrm
  refine eA 8 (.pointer (some ⟨c.st,3,none⟩)) ?_;walk_nrm
  refine ja (i:=9) (v:=.int .i64 (ao:Int)) Ln Y AV AV AV (ua Y Y Y 1 Y (λx I=>by subst I;simp[ok.zF]) (λw q=>⟨Be,Cl⟩)) ⟨_,Y⟩ ?_;walk_nrm
  refine eA 10 (.int .i64 (Jl:Int)) ?_;walk_nrm
  refine eA 11 (.pointer (some ⟨c.st,0,none⟩)) ?_;walk_nrm
  refine eA 12 (.pointer (some ⟨c.st,0,none⟩)) ?_;walk_nrm
  refine eA 13 (.pointer (some ⟨c.st,2,none⟩)) ?_;walk_nrm
  refine ja (i:=14) (v:=.int .i64 (S:Int)) Ln Y AV AV AV (ua Y Y Y 0 Y (λx I=>by subst I;simp[ok.size]) (λw q=>⟨Be,Cl⟩)) ⟨_,Y⟩ ?_;walk_nrm
  refine eA 15 (.int .i64 (E:Int)) ?_;walk_nrm
  refine ja (i:=16) (v:=.agg #[.int .i64 (d.T:Int),.int .i64 (F:Int),.int .i64 (E:Int)]) Ln Y AV AV AV (FD Y (λ_=>(RR Y Y Y Y).1) (λw=>by unfold listed;rw[(RR Y Y Y Y).2];rfl)) ⟨_,Y⟩ ?_;walk_nrm
  refine r6 (i:=17) AV (xv Y Y (alX (ob:=Obj.cells #[Value.int IntKind.i64 0,Value.int IntKind.i64 0,Value.int IntKind.i64 0] 190) Y (λw=>⟨Be,Bs⟩) (λbr=>⟨⟨_,Y⟩,?_⟩)));walk_nrm
  refine r6 (i:=18) AV (xv Y Y (alY Y Y (pre:=[]) (new:=#[.int .i64 (d.T:Int),.int .i64 (F:Int),.int .i64 (E:Int)]) (λw u=>⟨(pG u ⟨Y,Y,Y⟩ Y Y Y).1,λe L=>?_⟩) ⟨⟨_,Y⟩,?_⟩))
  .have H:=mem_listed L;rw[(pG u ⟨Y,Y,Y⟩ Y Y Y).2]at H;grind
  walk_nrm
  refine BB AV ?_ _;rintro o X ⟨r,K⟩;clear hF hd;have hF:=r;have hd:=K;clear r K;simp[mo]at hF⊢;refine bk (bR c) ?_;walk_nrm
  repeat w_go af.on
  refine g9 Y hF λo j J s n N B y hF=>?_;replace hd:=(t_ (c:=c) (l:=⟨.own,true,0,f+9,.work .free p⟩) Y B).trans ((t_ (c:=c) (l:=⟨.own,true,0,f+9,.work .free p⟩) Y s).trans hd);clear s B j;have q:n.cell? ⟨c.st,4,none⟩=some (.int .i64 (d.T:Int)):=by rw[IB y.mt.1 2];subst hd;simp[g_.of]
  refine Y0 (k:=2) Y Y ((stepG_value (v:=.int .i64 (d.T:Int)) Y Y BJ Be).trans (congrArg (λes=>GStep.go _ _ es) Cl)) Y ?_;clear q y;have aqx:IntKind.wrap .i64 ((d.T:Int)+1)=((d.T+1:Nat):Int):=aqr ok O;refine bk (bR c) ?_;walk_nrm
  repeat w_go af.on
  refine g9 Y hF λo j J s n N B y hF=>?_;replace hd:=(t_ (c:=c) (l:=⟨.own,true,0,f+9,.work .free p⟩) Y B).trans ((t_ (c:=c) (l:=⟨.own,true,0,f+9,.work .free p⟩) Y s).trans hd);clear s B j;have q:n.cell? ⟨c.st,4,none⟩=some (.int .i64 (d.T:Int)):=by rw[IB y.mt.1 2];subst hd;simp[g_.of]
  have rm:n.frozen? ⟨c.st,4,none⟩=false:=by simp[World.frozen?,y.mt.1,gT]
  refine alN (f1:=f+c.C+8) (v:=.int .i64 ((d.T+1:Nat):Int)) y ((stepG_none Y Y BJ Be).trans (congrArg (λes=>GStep.go _ _ es) (by simp[listed,go_sem,q,rm];rfl))) Y (by subst hd;rfl) Y Y Y (by subst hd;exact O) AA ?_;have e1:N.am.taken=d.T:=by subst hd;rfl
  have r:=hF.shared (k:=c.st) (off:=4) (sp:=none) Kg (.int .i64 ((d.T+1:Nat):Int));clear hF;have hF:=r;clear r q rm y;rw[e1];clear hd e1 aqt aqu aqx hmul aqv;dsimp only;generalize n.setCell ⟨c.st,4,none⟩ (.int .i64 ((d.T+1:Nat):Int))=w4 at hF⊢;refine bk (bR c) ?_;walk_nrm
  repeat w_go af.on
  refine g9 Y hF λo j J s n N B y hF=>?_;have u:=hF.cL (br,.cells #[.int .i64 (d.T:Int),.int .i64 (F:Int),.int .i64 (E:Int)] 190) A_;refine rY AA Y (λb D=>hF.eZ b (.inr D)) (stepG_value Y Y BJ (Ad u Y Y).1) Y (λe L=>?_) ?_
  .have H:=mem_listed L;rw[(Ad u Y Y).2]at H;simp at H;rcases H with rfl|rfl|rfl<;>exact⟨Y,.inr (.inr A_)⟩
  clear u y B s j;refine bk (bR c) ?_;walk_nrm
  repeat w_go af.on
  refine g9 Y hF λo j J s n N B y hF=>?_;have u:=hF.cL (b0,Obj.cells #[Value.int IntKind.i64 0,Value.int IntKind.i64 0,Value.int IntKind.i64 0] 190) A_;refine BL AA Y (pre:=[(br,.cells #[.int .i64 (d.T:Int),.int .i64 (F:Int),.int .i64 (E:Int)] 190)]) (post:=[]) hF (stepG_none (w':=n.setRow b0 #[.int .i64 (d.T:Int),.int .i64 (F:Int),.int .i64 (E:Int)]) Y Y BJ (pG u ⟨Y,Y,Y⟩ Y Y Y).1) Y (λe L=>?_) (λr=>?_)
  .have H:=mem_listed L;rw[(pG u ⟨Y,Y,Y⟩ Y Y Y).2]at H;grind
  clear hF;have hF:=r;clear r u y B s j;simp only[List.cons_append,List.nil_append]at hF⊢;refine bk (bR c) ?_;walk_nrm
  repeat w_go af.on
  u_in af.on hF
  rw[stepG_unwind_enter Y func93 I9 Y];simp only[goes_go];refine⟨E4,?_⟩;walk_nrmf f93
  have R:∀b,(az c).K b\/cd mine [(br,.cells #[.int .i64 (d.T:Int),.int .i64 (F:Int),.int .i64 (E:Int)] 190),(b0,.cells #[.int .i64 (d.T:Int),.int .i64 (F:Int),.int .i64 (E:Int)] 190)] b->b≠(az c).st:=λb D e=>hF.eZ b D (.inl e);refine Goes.stop (λz U=>⟨Y,λV Jm=>Tw (A:=az c) (f:=f+c.C) (bR c) (a:=.work (.has d.T) p) Lv ok.most R Y Y (λP yy Q=>?_) z V (ai.refl _ _ _)⟩);replace hF:=(hF.on U).on Q;clear U Q R;refine bh.mk Y (λn N B y=>?_);replace hF:=hF.on (dO.rw y);have u:=hF.cL (b0,.cells #[.int .i64 (d.T:Int),.int .i64 (F:Int),.int .i64 (E:Int)] 190) A_;refine rY AA Y (λb D=>hF.eZ b (.inr D)) (YZ Y Y func85 (Nl (t:=.bool true) u Y Y).1 (Nl (t:=.bool true) u Y Y).2) Y (λe L=>?_) ?_
  .have H:=av.wS L;simp at H;rcases H with rfl|rfl|rfl<;>exact⟨Y,.inr (.inr A_)⟩
  rw[Frame.finish_at];have gU:TK S ao d.T=.agg #[.int .i64 (d.T:Int),.int .i64 (F:Int),.int .i64 (E:Int)]:=by obtain⟨rfl,rfl⟩:=qE.out aqw;rfl
  have jk:=gb n N d.T hF.rw O;rw[gU]at jk;exact bh.more hS jk (λb D=>.inl D)
end
end fO
namespace pE
open Conc RowKit Conc.Lib ConcR.Gen ConcM bn cz wm bO
theorem aqz:(f57.name== "runtime.NumGoroutine")=false:=by kernel_rfl
theorem M9:(f94.name== "runtime.NumGoroutine")=false:=by kernel_rfl
section
variable{Shun:Loc->Prop}{Stop:Nat->Goroutine->aO->Prop}
variable{a2:Frame}{aF:Act}{aD:Array Oper}{aI:Nat}{aL:List Nat}{aH:List Item}{csZ:List Frame}
def TM(Shun:Loc->Prop)(Stop:Nat->Goroutine->aO->Prop)(f:FuncId)(args:Array Value)(w:aO)(V:Value->aO->Prop):Prop:=
 ∀(Nr:Frame)(a₂:Act)(Jn:Array Oper)(Ns:Nat)(Nt:List Nat)(k₂:List Item)(Nu:List Frame),
  (∀u w',V u w'->eB prog Shun Stop 0 (Conc.G (Nr.at (a₂.put ((Jn[Ns]?).bind (·.dst)) u) (.inRegion Jn Nt::k₂)) Nu) w')->
  eB prog Shun Stop 0 (Conc.G (Frame.enter prog f args .normal) (Nr.at a₂ (.inRegion Jn (Ns::Nt)::k₂)::Nu)) w
def aqA{st h dF wg W:Nat}{N dC dQ O S ft eW fu fv fx fy fG Z fA fB fC X U T dA D gM z y:Value}{w:aO}{V:Value->aO->Prop}(q:w.heap[st]?=some (Obj.cells #[.int .i32 0,.int .u32 0,dA,D,gM,z,y,.slice none 0 0] 175))(B:w.heap[h]?=some (.cells #[.pointer (some ⟨st,0,none⟩)] 127))(Q:h≠st)(Fe:∃a n c,y=.slice a n c)(kh:∀off sp,2<=off->¬Shun (.cell ⟨st,off,sp⟩))(A:Shun (.cell ⟨st,0,none⟩))(TO:¬Shun (.cell ⟨h,0,none⟩))(H:TM Shun Stop 94 #[y] (w.setCell ⟨st,0,none⟩ (.int .i32 1)) (λu w'=>V u w'/\(∃a n c,u=.slice a n c)/\w'.heap[st]?=(w.setCell ⟨st,0,none⟩ (.int .i32 1)).heap[st]?/\w.heap.size<=w'.heap.size))(hk:∀u w',V u w'->eB prog Shun Stop 0 (Conc.G (a2.at (aF.put ((aD[aI]?).bind (·.dst)) (.tuple #[u,.slice none 0 0])) (.inRegion aD aL::aH)) csZ) (w'.setCell ⟨st,0,none⟩ (.int .i32 0))):
 eB prog Shun Stop 0 (Conc.G ((base 39).at ⟨#[N,dC,dQ,.pointer (some ⟨dF,0,none⟩),O,S,.pointer (some ⟨h,0,none⟩),.pointer (some ⟨wg,0,none⟩),ft,eW,fu,fv,fx,fy,.int .i64 (W:Int),.int .i64 (W:Int),fG,Z,fA,fB,.tuple #[],fC,X,U,T],[]⟩ [.inRegion (bO.n2 ((bO.dR 8 (f39.body.getD .skip)).getD .skip)) [],.code (bO.ky ((bO.dR 8 (f39.body.getD .skip)).getD .skip))]) (a2.at aF (.inRegion aD (aI::aL)::aH)::csZ)) w:=by
 obtain⟨sa,m,l,rfl⟩:=Fe;have t:st<w.heap.size:=(Array.getElem?_eq_some_iff.1 q).1;have s:h<w.heap.size:=(Array.getElem?_eq_some_iff.1 B).1;have p:w.cell? ⟨h,0,none⟩=some (.pointer (some ⟨st,0,none⟩)):=by simp[World.cell?,B]
 have A7:w.cell? ⟨st,0,none⟩=some (.int .i32 0):=by simp[World.cell?,q]
 have J:w.frozen? ⟨st,0,none⟩=false:=by simp[World.frozen?,q]
 have r:(w.setCell ⟨st,0,none⟩ (.int .i32 1)).heap[st]?=some (Obj.cells #[.int .i32 1,.int .u32 0,dA,D,gM,z,.slice sa m l,.slice none 0 0] 175):=by simp[World.setCell,Array.getElem?_modify,q]
 have hF:=atRel_refl w;simp[f39,bO.dR,bO.ky,bO.n2];refine lT (R:=AtRel) Ke 300 _ _ ?_;repeat w_go dJ
 refine Goes.stop (λg f=>?_);replace hF:=dJ hF f;obtain⟨d,rfl⟩:=hF;clear f;refine nX Y (w1:=w.at d) (es:=#[⟨.cell ⟨h,0,none⟩,false,false⟩]) (λk=>(stepG_value (v:=.pointer (some ⟨st,0,none⟩)) Y Y BJ (by have j:((w.at d).at k).cell? ⟨h,0,none⟩=some (.pointer (some ⟨st,0,none⟩)):=p;go_simp)).trans (congrArg (λes=>GStep.go _ _ es) (by have j:((w.at d).at k).cell? ⟨h,0,none⟩=some (.pointer (some ⟨st,0,none⟩)):=p;simp[listed,go_sem,j];rfl))) ?_ J1 ?_
 .intro e i;simp at i;subst i;exact IJ TO s _
 show eB prog Shun Stop 0 _ _;have hF:AtRel w (w.at d):=⟨d,Y⟩;refine lT (R:=AtRel) Ke 300 _ _ ?_;walk_nrm
 repeat w_go dJ
 u_call func57 aqz f57 dJ hF
 repeat w_go dJ
 u_call func92 bO.Tq f92 dJ hF
 refine Goes.stop (λg f=>?_);replace hF:=dJ hF f;obtain⟨d,rfl⟩:=hF;clear f;refine apR (w:=w.at d) A7 J A t ?_;have hF:AtRel (w.setCell ⟨st,0,none⟩ (.int .i32 1)) ((w.at d).setCell ⟨st,0,none⟩ (.int .i32 1)):=⟨d,Y⟩;have hsz:(w.setCell ⟨st,0,none⟩ (.int .i32 1)).heap.size=w.heap.size:=ah.oC _ _ _;generalize w.setCell ⟨st,0,none⟩ (.int .i32 1)=w2 at hF H r hsz;generalize(w.at d).setCell ⟨st,0,none⟩ (.int .i32 1)=w3 at hF⊢;have C:st<w2.heap.size:=As;have o:w2.cell? ⟨st,7,none⟩=some (.slice none 0 0):=by simp[World.cell?,r]
 have F:w2.cell? ⟨st,6,none⟩=some (.slice sa m l):=by simp[World.cell?,r]
 refine lT (R:=AtRel) Ke 300 _ _ ?_;walk_nrm
 repeat w_go dJ
 u_defer dJ hF
 repeat w_go dJ
 refine Goes.stop (λg f=>?_);replace hF:=dJ hF f;obtain⟨d,rfl⟩:=hF;clear f;refine nX Y (w1:=w2.at d) (es:=#[⟨.cell ⟨st,7,none⟩,false,false⟩]) (λk=>(stepG_value (v:=.slice none 0 0) Y Y BJ (by have j:((w2.at d).at k).cell? ⟨st,7,none⟩=some (.slice none 0 0):=o;go_simp)).trans (congrArg (λes=>GStep.go _ _ es) (by have j:((w2.at d).at k).cell? ⟨st,7,none⟩=some (.slice none 0 0):=o;simp[listed,go_sem,j];rfl))) ?_ J1 ?_
 .intro e i;simp at i;subst i;exact IJ AA C _
 show eB prog Shun Stop 0 _ _;have hF:AtRel w2 (w2.at d):=⟨d,Y⟩;refine lT (R:=AtRel) Ke 300 _ _ ?_;walk_nrm
 repeat w_go dJ
 refine Goes.stop (λg f=>?_);replace hF:=dJ hF f;obtain⟨d,rfl⟩:=hF;clear f;refine nX Y (w1:=w2.at d) (es:=#[]) (λk=>(stepG_value (v:=.bool false) Y Y BJ (by simp[go_sem,binOp,Op.equal];rw[show Op.maxDepth=9999+1 from Y,Op.equalIn];simp)).trans (congrArg (λes=>GStep.go _ _ es) Fg)) A_ J1 ?_;show eB prog Shun Stop 0 _ _;have hF:AtRel w2 (w2.at d):=⟨d,Y⟩;refine lT (R:=AtRel) Ke 300 _ _ ?_;walk_nrm
 repeat w_go dJ
 refine Goes.stop (λg f=>?_);replace hF:=dJ hF f;obtain⟨d,rfl⟩:=hF;clear f;refine nX Y (w1:=w2.at d) (es:=#[⟨.cell ⟨st,6,none⟩,false,false⟩]) (λk=>(stepG_value (v:=.slice sa m l) Y Y BJ (by have j:((w2.at d).at k).cell? ⟨st,6,none⟩=some (.slice sa m l):=F;go_simp)).trans (congrArg (λes=>GStep.go _ _ es) (by have j:((w2.at d).at k).cell? ⟨st,6,none⟩=some (.slice sa m l):=F;simp[listed,go_sem,j];rfl))) ?_ J1 ?_
 .intro e i;simp at i;subst i;exact IJ AA C _
 show eB prog Shun Stop 0 _ _;have hF:AtRel w2 (w2.at d):=⟨d,Y⟩;refine lT (R:=AtRel) Ke 300 _ _ ?_;walk_nrm
 repeat w_go dJ
 refine Goes.stop (λg f=>?_);replace hF:=dJ hF f;obtain⟨d,rfl⟩:=hF;clear f;refine nX Y (w1:=w2) (es:=#[]) (λk=>(stepG_enter Y Y BJ (iE.rh (b:=base 57) (vs:=#[.slice sa m l]) Y func94 M9 Y D5 _).1).trans (congrArg (λes=>GStep.go _ _ es) (iE.rh (vs:=#[.slice sa m l]) Y func94 M9 Y D5 _).2)) A_ J1 ?_;refine H _ _ _ _ _ _ _ (λu w' P=>?_);obtain⟨I,⟨wt,un,uc,rfl⟩,x,hsz'⟩:=P;rw[r]at x;have L:w'.cell? ⟨st,0,none⟩=some (.int .i32 1):=by simp[World.cell?,x]
 have K:w'.frozen? ⟨st,0,none⟩=false:=by simp[World.frozen?,x]
 have M:st<w'.heap.size:=As;have hF:=atRel_refl w';refine lT (R:=AtRel) Ke 300 _ _ ?_;walk_nrm
 repeat w_go dJ
 u_in dJ hF
 rw[stepG_unwind_enter Y func93 bO.I9 Y];simp only[goes_go];refine⟨E4,?_⟩;walk_nrmf f93
 refine Goes.stop (λg f=>?_);replace hF:=dJ hF f;obtain⟨d,rfl⟩:=hF;clear f;refine apS (w:=w'.at d) Y L K A M ?_;have hF:AtRel (w'.setCell ⟨st,0,none⟩ (.int .i32 0)) ((w'.at d).setCell ⟨st,0,none⟩ (.int .i32 0)):=⟨d,Y⟩;have E:=hk _ w' I;generalize w'.setCell ⟨st,0,none⟩ (.int .i32 0)=w4 at hF E;generalize(w'.at d).setCell ⟨st,0,none⟩ (.int .i32 0)=en at hF⊢;refine lT (R:=AtRel) Ke 300 _ _ ?_;u_in dJ hF
 refine goes_leave2 Y Y func57 Y ⟨E4,?_⟩;walk_nrm
 repeat w_go dJ
 u_in dJ hF
 refine goes_leave2 Y Y func39 Y ⟨E4,?_⟩;refine Goes.stop (λg f=>?_);replace hF:=dJ hF f;obtain⟨d,rfl⟩:=hF;exact E.at d
end
end pE
namespace fO
open Conc RowKit Conc.Lib ConcR.Gen ConcM av bn ah fi hZ bO
section
section
variable{c:dI}{Stop:Bool->ah.Lo At->aV->Prop}{mine:Nat->Prop}{S ao iM:Nat}
variable{a2:Frame}{aF:Act}{aD:Array Oper}{aI:Nat}{aL:List Nat}{aH:List Item}{csZ:List Frame}
def arc(ok:uS c S ao iM){f T aT:Nat}{F E:Int}{s:Option Addr}{q:List (Nat×Value)}{w0:aO}(hS:∀m l g w M M',(∀b,M b->M' b)->Stop m l ⟨g,w,M⟩->Stop m l ⟨g,w,M'⟩)(gb:∀w' aj,ai (ak (az c)) mine w0 w'->bh (ak (az c)) prog Stop false ⟨.idle,false,0,f,.work .free ((T,.slice s (c.rows T) aT)::q)⟩ aj ⟨Conc.G (a2.at (TL aF aD aI (.tuple #[])) (.inRegion aD aL::aH)) csZ,w',mine⟩)(w:aO)(γ:ah.aN cx)(hk:af (ak (az c)) mine w0 [] w):
 bh (ak (az c)) prog Stop false ⟨.idle,false,0,f+16,.work (.has T) q⟩ γ ⟨Conc.G ((base 113).at ⟨#[.pointer (some ⟨c.st,0,none⟩),.agg #[.int .i64 (T:Int),.int .i64 F,.int .i64 E],.slice s (c.rows T) aT]++Array.replicate 27 undef,[]⟩ [.code (f113.body.getD .skip)]) (a2.at aF (.inRegion aD (aI::aL)::aH)::csZ),w,cd mine []⟩:=by
 have hF:=hk;have jL:=(dg (bR c)).nh;have tC:prog.follows .mixedOrders=true:=BA;refine bh.seen (dg (bR c)) Y λγ _ U=>?_;have Nq:=Y5 U Y;clear U;refine bk (bR c) ?_;simp only[f113,Option.getD_some];walk_nrm
 repeat w_go af.on
 refine g9 Y hF λo n z B j X I y hF=>?_;refine s7 AA jL Y hF (stepG_value (v:=.pointer (some ⟨j.heap.size,0,none⟩)) (w':=j.alloc (.cells #[.int .i64 (T:Int),.int .i64 F,.int .i64 E] 190)) Y Y BJ Be) Y Bs (λH=>?_);clear hF;have hF:=H;clear H y I B n;generalize j.heap.size=b0 at hF⊢;generalize j.alloc (.cells #[.int .i64 (T:Int),.int .i64 F,.int .i64 E] 190)=w3 at hF⊢;refine bk (bR c) ?_;walk_nrm
 repeat w_go af.on
 u_call func92 Tq f92 af.on hF
 have N:∀b,(az c).K b\/cd mine [(b0,.cells #[.int .i64 (T:Int),.int .i64 F,.int .i64 E] 190)] b->b≠(az c).st:=λb O e=>hF.eZ b O (.inl e);refine Goes.stop (λr P=>⟨Y,λR _=>Nk (f:=f+10) (bR c) (a:=.work (.has T) q) Lv ok.most N (λK yy L=>?_) r R (ai.refl _ _ _)⟩);replace hF:=(hF.on P).on L;clear P L N;refine bk (bR c) ?_;walk_nrm
 repeat w_go af.on
 u_defer af.on hF
 repeat w_go af.on
 refine Goes.stop (λo n=>⟨Y,λz B=>?_⟩);replace hF:=hF.on n;clear n B;refine BC (Z:=ak (az c)) (C:=ID c mine w0 (b0,.cells #[.int .i64 (T:Int),.int .i64 F,.int .i64 E] 190)) AA BJ tC xw al0 (σ:=mo c mine w0 (g_.of z.am) ⟨.own,true,0,f+10,.work (.has T) q⟩ [(b0,.cells #[.int .i64 (T:Int),.int .i64 F,.int .i64 E] 190)]) (hN:=rW prog Stop false _ _ _ _ []) Kj ⟨_,_,_,Y,Y,Y,A_,Y⟩ ?_ _ z ⟨hF,Y⟩;walk_nrm
 refine eA 0 (.pointer (some ⟨c.st,0,none⟩)) ?_ xw ⟨_,_,_,Y,Y,Y,A_,Y⟩;walk_nrm
 refine eA 1 (.pointer (some ⟨c.st,0,none⟩)) ?_ xw ⟨_,_,_,Y,Y,Y,A_,Y⟩;walk_nrm
 refine eA 2 (.pointer (some ⟨c.st,6,none⟩)) ?_ xw ⟨_,_,_,Y,Y,Y,A_,Y⟩;walk_nrm
 refine ja (i:=3) (v:=.slice (some ⟨c.bF,0,none⟩) c.N iM) xw Y AV AV AV (al1 4 Y (λx=>by simp[ok.xt]) (λw t=>⟨Be,by simp[listed,go_sem,t];rfl⟩)) ⟨_,_,_,Y,Y,Y,A_,Y⟩ ?_;walk_nrm
 refine eA 4 (.pointer (some ⟨b0,0,none⟩)) ?_ xw ⟨_,_,_,Y,Y,Y,A_,Y⟩;walk_nrm
 refine ja (i:=5) (v:=.int .i64 (T:Int)) xw Y AV AV AV (al2 Y (λw hB=>?_)) ⟨_,_,_,Y,Y,Y,A_,Y⟩ ?_
 .have t:w.cell? ⟨b0,0,none⟩=some (.int .i64 (T:Int)):=by simp[World.cell?,hB]
  refine⟨Be,λe he=>⟨0,?_⟩⟩;have W:=mem_listed he;simp[go_sem,t]at W;exact W
 walk_nrm
 refine eA 6 (.slice s (c.rows T) aT) ?_ xw ⟨_,_,_,Y,Y,Y,A_,Y⟩;walk_nrm
 refine ja (i:=7) (v:=.pointer (some ⟨c.bF,T,none⟩)) xw Y AV AV AV (FD Y (λ_=>Be) (λ_=>by simp[listed,go_sem,Nq];rfl)) ⟨_,_,_,Y,Y,Y,A_,Y⟩ ?_;walk_nrm
 refine r6 (i:=8) AV (xv Y Y (al4 (f1:=f+9) (v:=.slice s (c.rows T) aT) Y Y Y AA (λw D V hp=>?_) ⟨⟨_,_,_,Y,Y,Y,A_,Y⟩,?_⟩))
 .have t:w.cell? ⟨c.bF,T,none⟩=some D[T]:=by simp[World.cell?,V,hp]
  have Q:w.frozen? ⟨c.bF,T,none⟩=false:=by simp[World.frozen?,V]
  exact⟨Be,by simp[listed,go_sem];rw[Go.events_store _ _ _ _ _ _ Y,t];simp[Q];rfl⟩
 walk_nrm
 refine BB AV ?_ _;rintro o eE ⟨H,hd⟩;clear hF;have hF:=H;clear H;generalize(⟨(g_.of z.am).T,(g_.of z.am).M,(g_.of z.am).D.set T (.slice s (c.rows T) aT)⟩:g_)=d at hd;simp[mo];refine bk (bR c) ?_;walk_nrm
 repeat w_go af.on
 refine g9 Y hF λo n z B j X I y hF=>?_;replace hd:=(t_ (c:=c) (l:=⟨.own,true,0,f+9,.work (.half T (.slice s (c.rows T) aT)) q⟩) Y I).trans ((t_ (c:=c) (l:=⟨.own,true,0,f+9,.work (.half T (.slice s (c.rows T) aT)) q⟩) Y B).trans hd);clear B I n;have t:j.cell? ⟨c.st,5,none⟩=some (.int .i64 (d.M:Int)):=by rw[IB y.mt.1 3];subst hd;simp[g_.of]
 obtain⟨J,Nm,Jr⟩:∃J:Nat,IntKind.wrap .i64 ((d.M:Int)+(c.rows T:Int))=(J:Int)/\qE (J=d.M+c.rows T):=by have h1:=al3 y.sees Y;have h2:=ok.oE;refine⟨d.M+c.rows T,?_,Y⟩;subst hd;simp only[g_.of];rw[IntKind.wrap_i64];omega
 refine Y0 (k:=3) Y Y ((stepG_value (v:=.int .i64 (d.M:Int)) Y Y BJ Be).trans (congrArg (λes=>GStep.go _ _ es) (by simp[listed,go_sem,t];rfl))) Y ?_;clear t y;refine bk (bR c) ?_;walk_nrm
 repeat w_go af.on
 refine g9 Y hF λo n z B j X I y hF=>?_;replace hd:=(t_ (c:=c) (l:=⟨.own,true,0,f+9,.work (.half T (.slice s (c.rows T) aT)) q⟩) Y I).trans ((t_ (c:=c) (l:=⟨.own,true,0,f+9,.work (.half T (.slice s (c.rows T) aT)) q⟩) Y B).trans hd);clear B I n;have t:j.cell? ⟨c.st,5,none⟩=some (.int .i64 (d.M:Int)):=by rw[IB y.mt.1 3];subst hd;simp[g_.of]
 have Q:j.frozen? ⟨c.st,5,none⟩=false:=by simp[World.frozen?,y.mt.1,gT]
 refine alP (f1:=f+8) (p:=T) (v:=.slice s (c.rows T) aT) (q:=q) (u:=.int .i64 (J:Int)) y ((stepG_none Y Y BJ Be).trans (congrArg (λes=>GStep.go _ _ es) (by simp[listed,go_sem,t,Q];rfl))) Y (by rw[qE.out Jr];subst hd;rfl) Y Y Y AA ?_;have H:=hF.shared (k:=c.st) (off:=5) (sp:=none) Kg (.int .i64 (J:Int));clear hF;have hF:=H;clear H t Q y hd Nm;dsimp only;generalize j.setCell ⟨c.st,5,none⟩ (.int .i64 (J:Int))=w4 at hF⊢;refine bk (bR c) ?_;walk_nrm
 repeat w_go af.on
 u_in af.on hF
 rw[stepG_unwind_enter Y func93 I9 Y];simp only[goes_go];refine⟨E4,?_⟩;walk_nrmf f93
 have N:∀b,(az c).K b\/cd mine [(b0,.cells #[.int .i64 (T:Int),.int .i64 F,.int .i64 E] 190)] b->b≠(az c).st:=λb O e=>hF.eZ b O (.inl e);refine Goes.stop (λr P=>⟨Y,λR Jm=>Tw (A:=az c) (f:=f) (bR c) (a:=.work .free ((T,.slice s (c.rows T) aT)::q)) Lv ok.most N Y Y (λK yy L=>?_) r R (ai.refl _ _ _)⟩);replace hF:=(hF.on P).on L;clear P L N;refine bk (bR c) ?_;u_in af.on hF
 refine goes_leave0 Y Y func113 Y ⟨E4,?_⟩;refine Goes.stop (λo n=>⟨Y,λz B=>?_⟩);replace hF:=hF.on n;exact bh.more hS (gb o z hF.rw) (λb O=>.inl O)
end
end
end fO
namespace iE
open Conc RowKit Conc.Lib ConcR.Gen ConcM av bn ah fi hZ fO
section
section
variable{c:dI}{Stop:Bool->ah.Lo At->aV->Prop}{S ao iM:Nat}{gq h6:Value}{kq:FuncId}{mP cY:Nat->Value->(Nat->Prop)->aO->Prop}
def af.T1{Z:eY}{M:Nat->Prop}{w1 w:aO}(h:af Z M w1 [] w1)(r:ai Z M w1 w):af Z M w1 [] w:=h.on (by rw[iF];exact r)
def ard(ok:uS c S ao iM)(i:c.C=31)(hS:∀m l g w M M',(∀b,M b->M' b)->Stop m l ⟨g,w,M⟩->Stop m l ⟨g,w,M'⟩){f:Nat}(q:List (Nat×Value))(M:Nat->Prop)(w1:aO)(d:af (ak (az c)) M w1 [] w1):
 i_ prog Stop false 85 #[.pointer (some ⟨c.st,0,none⟩)] (fo c ⟨.idle,false,0,f+15,.work .free q⟩ M w1)
  (λu e=>(u=.tuple #[.agg #[.int .i64 0,.int .i64 0,.int .i64 0],.bool false]/\e=vU c ⟨.idle,false,0,f+1,.work .free q⟩ M w1)\/∃T,T<c.N/\u=.tuple #[TK S ao T,.bool true]/\e=fo c ⟨.idle,false,0,f+31,.work (.has T) q⟩ M w1):=by
 intro a2 aF aD aI aL aH csZ hK w γ hh;have hk:af (ak (az c)) M w1 [] w:=hh;rw[enter_at _ func85 Y];unfold fo;have h:=aqs (a2:=a2) (aF:=aF) (aD:=aD) (aI:=aI) (aL:=aL) (aH:=aH) (csZ:=csZ) ok (f:=f) (p:=q) (w0:=w1) hS
  (λw' a r a0=>hK _ (vU c ⟨.idle,false,0,f+1,.work .free q⟩ M w1) AA w' a ⟨af.T1 d r,a0⟩)
  (λw' a T r j=>by rw[i];exact hK _ (fo c ⟨.idle,false,0,f+31,.work (.has T) q⟩ M w1) AA w' a (af.T1 d r)) w γ hk
 rw[iF]at h;exact h
def are(ok:uS c S ao iM)(hS:∀m l g w M M',(∀b,M b->M' b)->Stop m l ⟨g,w,M⟩->Stop m l ⟨g,w,M'⟩){f T:Nat}{F E:Int}{q:List (Nat×Value)}(s:Option Addr)(aT:Nat)(M:Nat->Prop)(w1:aO)(a:af (ak (az c)) M w1 [] w1):
 i_ prog Stop false 113 #[.pointer (some ⟨c.st,0,none⟩),.agg #[.int .i64 (T:Int),.int .i64 F,.int .i64 E],.slice s (c.rows T) aT] (fo c ⟨.idle,false,0,f+16,.work (.has T) q⟩ M w1)
  (λu d=>u=.tuple #[]/\d=fo c ⟨.idle,false,0,f,.work .free ((T,.slice s (c.rows T) aT)::q)⟩ M w1):=by
 intro a2 aF aD aI aL aH csZ hK w γ hh;have hk:af (ak (az c)) M w1 [] w:=hh;rw[enter_at _ func113 Y];unfold fo;have h:=arc (a2:=a2) (aF:=aF) (aD:=aD) (aI:=aI) (aL:=aL) (aH:=aH) (csZ:=csZ) ok (f:=f) (q:=q) (T:=T) (s:=s) (aT:=aT) (F:=F) (E:=E) (w0:=w1) hS
  (λw' e r=>hK _ (fo c ⟨.idle,false,0,f,.work .free ((T,.slice s (c.rows T) aT)::q)⟩ M w1) ⟨Y,Y⟩ w' e (af.T1 a r)) w γ hk
 rw[iF]at h;exact h
def arf(ok:uS c S ao iM)(e:c.C=31)(hS:∀m l g w M M',(∀b,M b->M' b)->Stop m l ⟨g,w,M⟩->Stop m l ⟨g,w,M'⟩){cf:aO}(J:ug c cf prog Stop 114 gq kq h6 (λT=>T*ao) (λT=>min (T*ao+ao) S) mP cY){f:Nat}{M:Nat->Prop}{w0:aO}(d:pq c cf w0):
 i_ prog Stop false 55 #[.pointer (some ⟨c.st,0,none⟩),gq] (fo c ⟨.idle,false,0,f+15,.work .free []⟩ M w0) (λu h=>u=.tuple #[]/\∃q M' w1,h5 (ak (az c)) M w0 M' w1/\oG cY q M' w1/\h=vU c ⟨.idle,false,0,f+1,.work .free q⟩ M' w1):=
 arb (fr:=λT=>T*ao) (aU:=λT=>min (T*ao+ao) S) d J.mono (ard ok e hS) (λq T j w1 a i=>aq9 J (f:=f+15) a i (λs aT M' w1 hk=>are ok hS s aT M' w1 hk))
end
end
def DD(n:Nat):Frame:={(default:Frame)with fn:=n,defers:=[],mode:=.panicking [goexitEntry]}
theorem ars:(f55.name== "runtime.NumGoroutine")=false:=by kernel_rfl
theorem art:(f54.name== "runtime.NumGoroutine")=false:=by kernel_rfl
theorem aru:(f53.name== "runtime.NumGoroutine")=false:=by kernel_rfl
def arv{P:cg}{f:FuncId}{fn:Func}{c:Code}(a:P.funcs[f]?=some fn)(d:(fn.name== "runtime.NumGoroutine")=false)(b:fn.body=some c)(cap:Array Value)(w:aO):stepG P false (born P (r7 f cap)) w=
 .go (Conc.G ((baseD f).at {tmps:=cap++Array.replicate (fn.ntmps-cap.size) undef,defers:=[]} [.code c]) [DD P.funcs.size]) w #[]:=by
 have hn:¬fn.name= "runtime.NumGoroutine" :=AA;rw[<-enter_atD cap a b];simp[born,r7,stepG,unwind,callDeferred,invoke,callFunc,a,hn,b,GStep.after,Conc.G,DD,seen_none]
def arw(T:Array Value):QuitsD prog 2 0 (Conc.G {(baseD 53).at ⟨T,[]⟩ []with mode:=.returning} [DD prog.funcs.size]):=by
 refine QuitsD.ctl (g':=Conc.G (DD prog.funcs.size) []) Y (λw=>?_) ?_
 .simp[Conc.G,stepG,unwind,doReturn,results,Frame.at,baseD,DD,func53,f53,seen,GStep.after,goexitEntry]
 refine QuitsD.ctl (g':={Conc.G (DD prog.funcs.size) []with status:=.finished}) Y (λw=>?_) ⟨Y,Y⟩;simp[Conc.G,stepG,unwind,DD,goexitEntry,Frame.catches];rfl
section
variable{c:dI}{Stop:Bool->ah.Lo At->aV->Prop}{S ao iM:Nat}{gq h6:Value}{kq:FuncId}{mP cY:Nat->Value->(Nat->Prop)->aO->Prop}
theorem arx(ok:uS c S ao iM)(hC:c.C=31)(hS:∀m l g w M M',(∀b,M b->M' b)->Stop m l ⟨g,w,M⟩->Stop m l ⟨g,w,M'⟩){cf:aO}(J:ug c cf prog Stop 114 gq kq h6 (λT=>T*ao) (λT=>min (T*ao+ao) S) mP cY)(K:∀q M f' g w,oG cY q M w->(∃n,QuitsD prog n 1 g)->Stop false ⟨.idle,false,1,f',.gone q⟩ ⟨g,w,M⟩){f A y:Nat}(NE:c.K A)(O:c.K y)(N:∃t v,gq=.iface t v){M:Nat->Prop}{w0:aO}(hI:pq c cf w0)(f7:w0.heap[A]?=some (.cells #[.pointer (some ⟨c.st,0,none⟩)] 127))(Fw:w0.heap[y]?=some (.cells #[gq] 126))(w:aO)(γ:ah.aN cx)(hk:af (ak (az c)) M w0 [] w):
 bh (ak (az c)) prog Stop false ⟨.idle,false,0,f+19,.work .free []⟩ γ ⟨born prog (r7 53 #[.pointer (some ⟨c.wg,0,none⟩),.pointer (some ⟨A,0,none⟩),.pointer (some ⟨y,0,none⟩)]),w,M⟩:=by
 have hF:=hk;obtain⟨jt,E,rfl⟩:=N;refine bh.mk Y (λa H o j=>?_);replace hF:=af.rel hF j;refine R1 AA (arv func53 aru Y _ a) Y Y ?_;clear j o hk;rw[<-iF (M:=M)];refine bk (bR c) ?_;walk_nrmf f53
 repeat w_go af.on
 u_defer af.on hF
 repeat w_go af.on
 refine g9 Y hF λi d R B a H o j hF=>?_;have s:a.cell? ⟨A,0,none⟩=some (.pointer (some ⟨c.st,0,none⟩)):=by simp[World.cell?,(hF.rw.heap A (.inl NE)).trans f7]
 refine rY AA Y (λb k=>hF.eZ b (.inr k)) (stepG_value (v:=.pointer (some ⟨c.st,0,none⟩)) Y Y BJ Be) Y (λe C=>?_) ?_
 .have z:=mem_listed C;simp[go_sem,s]at z;subst z;exact⟨Y,AA⟩
 clear s j o B d;refine bk (bR c) ?_;walk_nrm
 repeat w_go af.on
 refine g9 Y hF λi d R B a H o j hF=>?_;have s:a.cell? ⟨y,0,none⟩=some (.iface jt E):=by simp[World.cell?,(hF.rw.heap y (.inl O)).trans Fw]
 refine rY AA Y (λb k=>hF.eZ b (.inr k)) (stepG_value (v:=.iface jt E) Y Y BJ Be) Y (λe C=>?_) ?_
 .have z:=mem_listed C;simp[go_sem,s]at z;subst z;exact⟨Y,AA⟩
 clear s j o B d;refine bk (bR c) ?_;walk_nrm
 repeat w_go af.on
 refine g9 Y hF λi d R B a H o j hF=>?_;have F:=af.rg hF;rw[iF]at F;rw[iF];refine Ml (σ:=fo c ⟨.idle,false,0,f+4+15,.work .free []⟩ M a) AA Y Y BJ (rh (vs:=#[.pointer (some ⟨c.st,0,none⟩),.iface jt E]) Y func55 ars Y D5 a) (arf ok hC hS J (hI.mq hF)) F ?_;clear j o B d F hF;rintro u _ ⟨rfl,q,M',w1,iJ,U,rfl⟩ Q eE ⟨hF,a0⟩;simp only[vU];rw[<-iF (M:=M')];refine bk (bR c) ?_;walk_nrm
 repeat w_go af.on
 u_in af.on hF
 rw[stepG_unwind_enter Y func54 art Y];simp only[goes_go];refine⟨E4,?_⟩;walk_nrmf f54
 have Z:∀b,c.K b\/cd M' [] b->b≠c.wg:=λb k e=>hF.eZ b k (.inr (.inl e));refine Goes.stop (λp h_=>⟨Y,λn3 Jm=>?_⟩);replace hF:=hF.on h_;replace a0:=Nat.le_trans a0 (ud (c:=c) (l:=⟨.idle,false,0,f+4+1,.work .free q⟩) Jm);refine bh.seen (dg (bR c)) Y λP I V=>?_;replace a0:=Nat.le_trans a0 (ud (c:=c) (l:=⟨.idle,false,0,f+4+1,.work .free q⟩) I);have L:P.am.taken=c.N:=by obtain⟨xs,dM,ue,W⟩:=t9 V;have:=W.aQ;omega
 refine sn.arp (f:=f) ok.most Z Y (arw _) (λf' g w' r hq=>?_) p P (ai.refl _ _ _) L;have D:=hF.on r;rw[iF]at r⊢;refine K q M' f' g w' (λx X=>?_) hq;exact J.mono _ _ _ _ _ _ (U x X) (λb k=>(D.rw.heap b k)) (λ_ h=>h)
end
end iE
namespace wm
open Conc RowKit Conc.Lib ConcR.Gen ConcM av bn ah fi hZ fO iE
theorem arG:(f52.name== "runtime.NumGoroutine")=false:=by kernel_rfl
theorem arH:(f56.name== "runtime.NumGoroutine")=false:=by kernel_rfl
section
variable{c:dI}{cf:aO}{S ao iM:Nat}{gq h6:Value}{kq:FuncId}{mP cY:Nat->Value->(Nat->Prop)->aO->Prop}{M:Nat->Prop}{w0:aO}{lZ:Goroutine->Prop}
def arI(e:∀T v M w M' w',cY T v M w->(∀b,c.K b\/M b->w'.heap[b]?=w.heap[b]?)->(∀b,M b->M' b)->cY T v M' w'):∀m l g w a d,(∀b,a b->d b)->(cz.Dy prog cY (cz.Jp c prog M w0 lZ)) m l ⟨g,w,a⟩->(cz.Dy prog cY (cz.Jp c prog M w0 lZ)) m l ⟨g,w,d⟩:=by
 intro m l g w a d hs h;cases m with
 |true=>exact⟨h.1,h.2.1,h.2.2.1,λb j=>hs b (h.2.2.2 b j)⟩
 |false=>
  rcases h with h|⟨q,f,h1,k,h3⟩
  .exact .inl h
  .exact .inr ⟨q,f,h1,k,λx i=>e _ _ _ _ _ _ (h3 x i) (λ_ _=>Y) hs⟩
def arJ{Stop:Bool->ah.Lo At->aV->Prop}(ok:uS c S ao iM)(hC:c.C=31)(hS:∀m l g w M M',(∀b,M b->M' b)->Stop m l ⟨g,w,M⟩->Stop m l ⟨g,w,M'⟩)(J:ug c cf prog Stop 114 gq kq h6 (λT=>T*ao) (λT=>min (T*ao+ao) S) mP cY)(aEZ:∀q M f' g w,oG cY q M w->(∃n,QuitsD prog n 1 g)->Stop false ⟨.idle,false,1,f',.gone q⟩ ⟨g,w,M⟩){fw cP Z W:Nat}{cs:List Frame}(NE:c.K cP)(abG:c.K Z)(abH:∃t v,gq=.iface t v)(hW:W<4611686018427387904)(hI:pq c cf w0)(e9:c.rows c.N+W<=c.most)(f7:w0.heap[cP]?=some (.cells #[.pointer (some ⟨c.st,0,none⟩)] 127))(Fw:w0.heap[Z]?=some (.cells #[gq] 126))(Nz:∀(j O N o p F L E D C B U A K I R H z u s:Value) g w',ai (ak (az c)) M w0 w'->sn.NG c g (Conc.G ((base 39).at ⟨#[j,O,N,.pointer (some ⟨Z,0,none⟩),o,p,.pointer (some ⟨cP,0,none⟩),.pointer (some ⟨c.wg,0,none⟩),F,L,E,D,C,B,.int .i64 (W:Int),.int .i64 (W:Int),U,A,K,I,.tuple #[],H,z,u,s],[]⟩ [.inRegion (bO.n2 ((bO.dR 8 (f39.body.getD .skip)).getD .skip)) [],.code (bO.ky ((bO.dR 8 (f39.body.getD .skip)).getD .skip))]) cs)->Stop true ⟨.idle,false,0,fw,.main .over⟩ ⟨g,w',M⟩)(r:Nat):
 ∀(k:Nat)(j O N o p F L E D C B U A K I R H z u s:Value)(w:aO)(γ:ah.aN cx),k+r=W->0<W->af (ak (az c)) M w0 [] w->bh (ak (az c)) prog Stop true ⟨.idle,false,0,23*r+4+fw,.main (.spawn k false)⟩ γ ⟨Conc.G ((base 39).at ⟨#[j,O,N,.pointer (some ⟨Z,0,none⟩),o,p,.pointer (some ⟨cP,0,none⟩),.pointer (some ⟨c.wg,0,none⟩),F,L,E,D,C,B,.int .i64 (W:Int),.int .i64 (k:Int),U,A,K,I,R,H,z,u,s],[]⟩ [.code ((bO.dp (f39.body.getD .skip)).getD .skip),.inLoop ((bO.dp (f39.body.getD .skip)).getD .skip),.inBlock 0,.code ((bO.dR 8 (f39.body.getD .skip)).getD .skip)]) cs,w,M⟩:=by
 have jL:=(dg (bR c)).nh;induction r with
 |zero=>
  intro k j O N o p F L E D C B U A K I R H z u s w γ hk h0 hF;obtain rfl:k=W:=As;rw[Nat.mul_zero,Nat.zero_add,Nat.add_comm 4 fw];rw[<-iF (M:=M)];refine bk (bR c) ?_;simp only[f39,Option.getD_some,bO.dp,bO.dR,Nat.reduceBEq,Bool.false_eq_true,↓reduceIte];repeat w_go af.on
  u_call func56 arH f56 af.on hF
  have V:∀b,c.K b\/cd M [] b->b≠c.wg:=λb i e=>hF.eZ b i (.inr (.inl e));refine Goes.stop (λa X=>⟨Y,λn3 _=>sn.arF (f:=fw) (k:=k) h0 ok.most V (λg w' r' ha=>?_) a n3 (ai.refl _ _ _)⟩);replace hF:=(hF.on X).on r';rw[iF];simp only[f39,Option.getD_some,bO.dR,bO.ky,bO.n2,Nat.reduceBEq,Bool.false_eq_true,↓reduceIte]at Nz;exact Nz j O N o p F L E D C B (.bool false) A K I R H z u s g w' hF.rw ha
 |succ r ih=>
  intro k j O N o p F L E D C B U A K I R H z u s w γ hk h0 hF;have e:23*(r+1)+4+fw=(23*r+4+fw+20)+3:=As;rw[e];rw[<-iF (M:=M)];refine bk (bR c) ?_;simp only[f39,Option.getD_some,bO.dp,bO.dR,Nat.reduceBEq,Bool.false_eq_true,↓reduceIte]at ih⊢;have aE0:decide (k<W)=true:=AA;have Nm:IntKind.wrap .i64 ((k:Int)+1)=((k+1:Nat):Int):=Gc;repeat w_go af.on
  u_call func52 arG f52 af.on hF
  have V:∀b,c.K b\/cd M [] b->b≠c.wg:=λb i e=>hF.eZ b i (.inr (.inl e));refine Goes.stop (λa X=>⟨Y,λn3 _=>sn.arh (f:=23*r+4+fw+20) (k:=k) ok.most V (λwQ yy oT=>?_) a n3 (ai.refl _ _ _)⟩);replace hF:=(hF.on X).on oT;clear X oT V;refine bk (bR c) ?_;walk_nrm
  repeat w_go af.on
  refine g9 Y hF λQ d aW aB P ax aE hr hF=>?_;refine aq4 hr (aq3 Y Y BJ Y Y) Y Y (f:=23*r+4+fw) (k:=k) Y As ?_ ?_
  .clear hr aE aB d;refine bk (bR c) ?_;walk_nrm
   iterate 7 w_go af.on
   refine Goes.stop (λQ d=>⟨Y,λaW aB=>?_⟩);replace hF:=hF.on d;grind[iF]
  .have Rt:af (ak (az c)) (λ_=>False) w0 [] P:=⟨⟨λb i=>hF.rw.heap b (i.imp id False.elim),hF.rw.size,hF.rw.later,hF.rw.output,hF.rw.tape⟩,A_,λb i=>hF.lt b (i.imp id (λx=>x.imp False.elim id)),λb i=>hF.eZ b (i.imp id (λx=>x.elim False.elim (λy=>AA))),A_,A_,λ_ h=>h.elim⟩;grind[arx]
end
end wm
namespace pE
open Conc RowKit ConcM av bn ah fi hZ fO iE cz wm
def arK(x:Value)(N:Nat):madeCells #[x] N=(List.replicate N x).toArray:=by unfold madeCells;grind
structure Gk(c:dI)(aX:Nat->Prop)(S ao N n W:Nat)(rows:Nat->Nat)(cP dF b2:Nat):Prop where
 a0:c.N=N
 vC:∀T,T<N->c.rows T=rows T
 hK:∀b,c.K b↔aX b\/b=cP\/b=dF\/b=b2
 wu:c.size=.int .i64 (S:Int)
 arL:c.zF=.int .i64 (ao:Int)
 arM:c.xt=.slice (some ⟨c.bF,0,none⟩) N N
 arN:c.least=.slice none 0 0
 e9:c.most=n+W
 arO:c.Md=175
 aE3:c.FB=71
section
variable{P:cg}{Post:Value->aO->Prop}
variable{a2:Frame}{aF:Act}{aD:Array Oper}{aI:Nat}{aL:List Nat}{aH:List Item}{csZ:List Frame}
def arP{n:Nat}{Shun:Loc->Prop}{S ao N W:Nat}{rows:Nat->Nat}(iP:0<ao)(hm:ao<=64)(ss:0<W)(hW:W<=16)(hS:S<=1000)(a0:N=(S+ao-1) / ao)(hn:n+W<=250)(vC:jK rows N<=300){jt:TypeId}{fe h6:Value}{cV kq:FuncId}{aX:Nat->Prop}{w:aO}{mP cY:dI->Nat->Value->(Nat->Prop)->aO->Prop}(dz:∀b,aX b->b<w.heap.size)(gJ:∀b,aX b\/w.heap.size<=b->∀l,e8 l=some b->¬Shun l)(hinv:∀w,(callMethod (.iface jt fe) "Size" #[]).run prog w=.ok (.enter cV (#[h6]++#[])) w/\(callMethod (.iface jt fe) "Size" #[]).events prog w #[]=#[])(wu:∀(ST:Bool->eV.Lo->aV->Prop) bs,(∀m l g w M M',(∀b,M b->M' b)->ST m l ⟨g,w,M⟩->ST m l ⟨g,w,M'⟩)->i_ prog ST true cV (#[h6]++#[]) (je eV () aX w bs) (λu bY=>u=.int .i64 (S:Int)/\bY=je eV () aX w bs))(Jt:∀c cf Stop d e f,Gk c aX S ao N n W rows d e f->(∀b,aX b->cf.heap[b]?=w.heap[b]?)->ug c cf prog Stop 114 (.iface jt fe) kq h6 (λT=>T*ao) (λT=>min (T*ao+ao) S) (mP c) (cY c))(TW:∀c cf d e f(i Z V j o L U I H F E O B R Q P A z r:Value) n' bw M' D w',Gk c aX S ao N n W rows d e f->ai eV aX w cf->cf.heap[d]?=some (.cells #[.pointer (some ⟨c.st,0,none⟩)] 127)->Jo c (cY c) (λ_=>False) cf n' bw M' D w'->bS prog Post n' bw 0 (Conc.G ((base 39).at ⟨#[i,Z,V,.pointer (some ⟨e,0,none⟩),j,o,.pointer (some ⟨d,0,none⟩),.pointer (some ⟨c.wg,0,none⟩),L,U,I,H,F,E,.int .i64 (W:Int),.int .i64 (W:Int),O,B,R,Q,.tuple #[],P,A,z,r],[]⟩ [.inRegion (bO.n2 ((bO.dR 8 (f39.body.getD .skip)).getD .skip)) [],.code (bO.ky ((bO.dR 8 (f39.body.getD .skip)).getD .skip))]) (a2.at aF (.inRegion aD (aI::aL)::aH)::csZ)) w'):
 bS prog Post n Shun 0 (Conc.G (Frame.enter prog 39 #[.agg #[.int .i64 (W:Int),.int .i64 (ao:Int)],.iface jt fe] .normal) (a2.at aF (.inRegion aD (aI::aL)::aH)::csZ)) w:=by
 have lD:af eV aX w [] w:=af.start (λb hb=>AA) (λb _ h=>h.elim) (λ_ _ h=>h.elim);refine zU (aoR (X:=⟨_,w,cd aX []⟩) (aqD (ST:=λ_ _ Y=>∃st bF d f e wg bs,∃(i Z V j o L U I H F E O B R Q iq P A z r:Value),af eV aX w bs Y.w/\(∀x∈[(wg,Obj.cells #[.int .u64 0,.int .u32 0] 139),(d,Obj.cells #[.pointer (some ⟨st,0,none⟩)] 127),(st,Obj.cells #[.int .i32 0,.int .u32 0,.int .i64 (S:Int),.int .i64 (ao:Int),.int .i64 0,.int .i64 0,.slice (some ⟨bF,0,none⟩) N N,.slice none 0 0] 175),(bF,Obj.cells (madeCells #[.slice none 0 0] N) 71),(e,Obj.cells #[.iface jt fe] 126),(f,Obj.cells #[.int .i64 (W:Int),.int .i64 (ao:Int)] 67)],x∈bs)/\Y.g=Conc.G ((base 39).at ⟨#[i,Z,V,.pointer (some ⟨e,0,none⟩),j,o,.pointer (some ⟨d,0,none⟩),.pointer (some ⟨wg,0,none⟩),L,U,I,H,F,E,.int .i64 (W:Int),.int .i64 (0:Int),O,B,R,Q,iq,P,A,z,r],[]⟩ [.code ((bO.dp (f39.body.getD .skip)).getD .skip),.inLoop ((bO.dp (f39.body.getD .skip)).getD .skip),.inBlock 0,.code ((bO.dR 8 (f39.body.getD .skip)).getD .skip)]) (a2.at aF (.inRegion aD (aI::aL)::aH)::csZ)/\∀b,cd aX bs b->Y.mine b) (N:=N) (W:=W) iP a0 As As hinv (λbs=>wu _ bs (λm l g w M M' z8 h=>by obtain⟨st,bF,d,f,e,wg,bs,i,Z,V,j,o,L,U,I,H,F,E,O,B,R,Q,iq,P,A,z,r,hk,bP,hg,db⟩:=h;exact⟨st,bF,d,f,e,wg,bs,i,Z,V,j,o,L,U,I,H,F,E,O,B,R,Q,iq,P,A,z,r,hk,bP,hg,λb hb=>z8 b (db b hb)⟩)) (λst bF d f e wg bs w' i Z V j o L U I H F E O B R Q iq P A z r hk bP _=>.stop ⟨st,bF,d,f,e,wg,bs,i,Z,V,j,o,L,U,I,H,F,E,O,B,R,Q,iq,P,A,z,r,hk,bP,rfl,λ_ h=>h⟩) w lD) rfl (λb hb=>dz b (by simp_all[iF])) (λb hb=>gJ b (by simp_all[iF])) (λY jH hl=>.stop (λk=>?_)));obtain⟨st,bF,d,f,e,wg,bs,i,Z,V,j,o,L,U,I,H,F,E,O,B,R,Q,iq,P,A,z,r,hk,bP,hg,db⟩:=jH;rw[hg];have In:=hk.cL _ (bP (wg,Obj.cells #[.int .u64 0,.int .u32 0] 139) A_);have f7:=hk.cL _ (bP (d,Obj.cells #[.pointer (some ⟨st,0,none⟩)] 127) A_);have hst:=hk.cL _ (bP (st,Obj.cells #[.int .i32 0,.int .u32 0,.int .i64 (S:Int),.int .i64 (ao:Int),.int .i64 0,.int .i64 0,.slice (some ⟨bF,0,none⟩) N N,.slice none 0 0] 175) A_);have BM:=hk.cL _ (bP (bF,Obj.cells (madeCells #[.slice none 0 0] N) 71) A_);have Fw:=hk.cL _ (bP (e,Obj.cells #[.iface jt fe] 126) A_);have bV:=hk.cL _ (bP (f,Obj.cells #[.int .i64 (W:Int),.int .i64 (ao:Int)] 67) A_);have hne:∀{a b:Nat}{x y:Array Value}{s t:TypeId},Y.w.heap[a]?=some (.cells x s)->Y.w.heap[b]?=some (.cells y t)->s≠t->a≠b:=by grind
 have m6:∀x∈[(wg,Obj.cells #[.int .u64 0,.int .u32 0] 139),(d,Obj.cells #[.pointer (some ⟨st,0,none⟩)] 127),(st,Obj.cells #[.int .i32 0,.int .u32 0,.int .i64 (S:Int),.int .i64 (ao:Int),.int .i64 0,.int .i64 0,.slice (some ⟨bF,0,none⟩) N N,.slice none 0 0] 175),(bF,Obj.cells (madeCells #[.slice none 0 0] N) 71),(e,Obj.cells #[.iface jt fe] 126),(f,Obj.cells #[.int .i64 (W:Int),.int .i64 (ao:Int)] 67)],¬aX x.1/\w.heap.size<=x.1/\x.1<Y.w.heap.size:=by
  intro x hx;have h1:x.1∈bs.map (·.1):=List.mem_map.2 ⟨x,bP x hx,rfl⟩;have h2:¬aX x.1:=λh=>hk.rQ x.1 h1 (.inr h);have h3:Y.mine x.1:=db _ (.inr h1);rcases hl.new x.1 h3 with h|h
  .simp_all[iF]
  grind
 have aE4:=m6 (wg,Obj.cells #[.int .u64 0,.int .u32 0] 139) A_;have aE5:=m6 (d,Obj.cells #[.pointer (some ⟨st,0,none⟩)] 127) A_;have TV:=m6 (st,Obj.cells #[.int .i32 0,.int .u32 0,.int .i64 (S:Int),.int .i64 (ao:Int),.int .i64 0,.int .i64 0,.slice (some ⟨bF,0,none⟩) N N,.slice none 0 0] 175) A_;have aE6:=m6 (bF,Obj.cells (madeCells #[.slice none 0 0] N) 71) A_;have aE7:=m6 (e,Obj.cells #[.iface jt fe] 126) A_;have aE8:=m6 (f,Obj.cells #[.int .i64 (W:Int),.int .i64 (ao:Int)] 67) A_;have arQ:∀b,aX b->Y.w.heap[b]?=w.heap[b]?:=λb hb=>hk.rw.heap b (.inr hb);have hsz:w.heap.size<=Y.w.heap.size:=hk.rw.size;have arR:∀b,(aX b\/b=d\/b=e\/b=f)->b≠st/\b≠wg/\b≠bF:=by grind
 let c:dI:={st:=st,bF:=bF,wg:=wg,Md:=175,FB:=71,tWg:=139,N:=N,rows:=(λT=>if T<N then rows T else n),size:=.int .i64 (S:Int),zF:=.int .i64 (ao:Int),xt:=.slice (some ⟨bF,0,none⟩) N N,least:=.slice none 0 0,K:=(λb=>aX b\/b=d\/b=e\/b=f),most:=n+W,C:=31,eZ:=⟨hne hst In Ae,hne hst BM Ae,hne In BM Ae⟩,zG:=arR}
 have yC:Gk c aX S ao N n W rows d e f:=⟨rfl,λT h=>if_pos h,λb=>Iff.rfl,rfl,rfl,rfl,rfl,rfl,rfl,rfl⟩;have TS:N<=S+ao:=by rw[a0];exact Nat.le_trans (Nat.div_le_self _ _) As
 have hmul:(N+1)*ao<=2000*64:=Nat.mul_le_mul As hm;have ok:uS c S ao N:=⟨rfl,rfl,rfl,(by
  show jK c.rows N<=300;rw[RV (g:=rows) (λp hp=>if_pos hp)];grind),AA,AA,AA⟩
 have J:=λStop=>Jt c Y.w Stop d e f yC arQ;have PE:∀b,c.K b\/(ak (az c)).gG b->b<Y.w.heap.size/\∀l,e8 l=some b->¬Shun l:=by
  rintro b ((h|rfl|rfl|rfl)|(h|h|h))
  .exact⟨Nat.lt_of_lt_of_le (dz b h) hsz,gJ b (.inl h)⟩
  .grind
  .grind
  .grind
  .grind
  .grind
  grind
 refine aqQ (c:=c) (cY:=cY c) (J (λ_ _ _=>True)).mono (n:=n) (lZ:=λg'=>∃(i Z V j o L U I H F E O B R Q P A z r:Value),g'=Conc.G ((base 39).at ⟨#[i,Z,V,.pointer (some ⟨e,0,none⟩),j,o,.pointer (some ⟨d,0,none⟩),.pointer (some ⟨c.wg,0,none⟩),L,U,I,H,F,E,.int .i64 (W:Int),.int .i64 (W:Int),O,B,R,Q,.tuple #[],P,A,z,r],[]⟩ [.inRegion (bO.n2 ((bO.dR 8 (f39.body.getD .skip)).getD .skip)) [],.code (bO.ky ((bO.dR 8 (f39.body.getD .skip)).getD .skip))]) (a2.at aF (.inRegion aD (aI::aL)::aH)::csZ)) (w:=Y.w.at k) (w0:=Y.w.at k) (M:=λ_=>False) (Shun:=Shun) (f0:=23*W+4+0) (v:=0) (b0:=⟨0,false,0,0,0,List.replicate N (.slice none 0 0)⟩) rfl (if_neg (Nat.lt_irrefl _)).symm (Nat.le_add_right _ _) ⟨rfl,rfl,rfl,rfl,rfl,by simp;rfl⟩ ⟨?_,?_,λ_=>?_⟩ (λb h=>h.elim) (λb hb=>PE b (hb.resolve_left Lv)) (λk'=>?_) (λg' m_ n' bw M' D w' cS=>?_)
 .show Y.w.heap[st]?=some (gT (az c) ⟨false,false,false,0,0,0⟩ ⟨0,false,0,0,0,List.replicate N (.slice none 0 0)⟩);rw[hst];simp[gT,bj.word,c]
 .show Y.w.heap[wg]?=some (r5 c ⟨0,false,0,0,0,List.replicate N (.slice none 0 0)⟩);rw[In];simp[r5,c]
 .show Y.w.heap[bF]?=_;rw[BM,arK];rfl
 .refine arJ (c:=c) (cf:=Y.w) (w0:=Y.w.at k) (M:=λ_=>False) ok rfl (arI (J (λ_ _ _=>True)).mono) (J _) (λq M f' g w lC hq=>.inr ⟨q,f',rfl,hq,lC⟩) (fw:=0) (W:=W) (cs:=a2.at aF (.inRegion aD (aI::aL)::aH)::csZ) (.inr Kg) (.inr (.inr Kg)) ⟨jt,fe,rfl⟩ As (λb hb=>rfl) AA f7 Fw (λi Z V j o L U I H F E O B R Q iq P A z r g w' hr ha=>?_) W 0 i Z V j o L U I H F E O B R Q iq P A z r ((Y.w.at k).at k') _ As ss ?_
  .obtain⟨g1,h1,h2⟩:=ha;exact⟨⟨rfl,rfl,rfl⟩,⟨g1,h1,_,⟨i,Z,V,j,o,L,U,I,H,F,E,O,B,R,Q,P,A,z,r,rfl⟩,h2⟩,hr,λb h=>h.elim⟩
  .exact⟨⟨λ_ _=>rfl,Nat.le_refl _,.refl _,rfl,rfl⟩,A_,λb hb=>(PE b AA).1,λb hb=>by
    rcases hb with h|h|h
    .grind
    .grind
    .simp at h,by simp,by simp,λ_ h=>h.elim⟩
 .obtain⟨i,Z,V,j,o,L,U,I,H,F,E,O,B,R,Q,P,A,z,r,rfl⟩:=m_;exact TW c (Y.w.at k) d e f i Z V j o L U I H F E O B R Q P A z r n' bw M' D w' yC ⟨hk.rw.heap,hk.rw.size,hk.rw.later,hk.rw.output,hk.rw.tape⟩ f7 cS
end
section
section
variable{Post:Value->aO->Prop}
variable{a2:Frame}{aF:Act}{aD:Array Oper}{aI:Nat}{aL:List Nat}{aH:List Item}{csZ:List Frame}
def arS{n:Nat}{Shun:Loc->Prop}{S ao N W:Nat}{rows:Nat->Nat}(x:0<ao)(y:ao<=64)(t:0<W)(z:W<=16)(hS:S<=1000)(a0:N=(S+ao-1) / ao)(hn:n+W<=250)(vC:jK rows N<=300){jt:TypeId}{q h6:Value}{s kq:FuncId}{aX:Nat->Prop}{w:aO}{mP cY:dI->Nat->Value->(Nat->Prop)->aO->Prop}(E:∀b,aX b->b<w.heap.size)(B:∀b,aX b\/w.heap.size<=b->∀l,e8 l=some b->¬Shun l)(hinv:∀w,(callMethod (.iface jt q) "Size" #[]).run prog w=.ok (.enter s (#[h6]++#[])) w/\(callMethod (.iface jt q) "Size" #[]).events prog w #[]=#[])(wu:∀(ST:Bool->eV.Lo->aV->Prop) bs,(∀m l g w M M',(∀b,M b->M' b)->ST m l ⟨g,w,M⟩->ST m l ⟨g,w,M'⟩)->i_ prog ST true s (#[h6]++#[]) (je eV () aX w bs) (λu F=>u=.int .i64 (S:Int)/\F=je eV () aX w bs))(J:∀c cf Stop d o p,Gk c aX S ao N n W rows d o p->(∀b,aX b->cf.heap[b]?=w.heap[b]?)->ug c cf prog Stop 114 (.iface jt q) kq h6 (λT=>T*ao) (λT=>min (T*ao+ao) S) (mP c) (cY c)){V:Value->aO->Nat->(Loc->Prop)->Prop}(K:∀u w n Shun k,V u w n Shun->V u (w.at k) n Shun)(H:∀c cf d o p f e M' D w' st,Gk c aX S ao N n W rows d o p->ai eV aX w cf->Jo c (cY c) (λ_=>False) cf f e M' D w'->st=c.st->
  TM e (bS prog Post f e) 94 #[.slice (some ⟨c.bF,0,none⟩) N N] (w'.setCell ⟨st,0,none⟩ (.int .i32 1)) (λu j=>V u (j.setCell ⟨st,0,none⟩ (.int .i32 0)) f e/\(∃a n c,u=.slice a n c)/\j.heap[st]?=(w'.setCell ⟨st,0,none⟩ (.int .i32 1)).heap[st]?/\w'.heap.size<=j.heap.size))(hk:∀u w' f e,V u w' f e->bS prog Post f e 0 (Conc.G (a2.at (aF.put ((aD[aI]?).bind (·.dst)) (.tuple #[u,.slice none 0 0])) (.inRegion aD aL::aH)) csZ) w'):
 bS prog Post n Shun 0 (Conc.G (Frame.enter prog 39 #[.agg #[.int .i64 (W:Int),.int .i64 (ao:Int)],.iface jt q] .normal) (a2.at aF (.inRegion aD (aI::aL)::aH)::csZ)) w:=by
 refine arP x y t z hS a0 hn vC E B hinv wu J (λc cf d o p L dC dQ O Q ft eW fu fv fx fy fG Z fA fB fC X U R f e M' D w' h A C i=>?_);obtain⟨T,m,hst⟩:=i.st;rw[h.wu,h.arL,h.arM,h.arN,h.arO]at hst;have I:c.K d:=(h.hK d).2 AA;have r:w'.heap[d]?=some (.cells #[.pointer (some ⟨c.st,0,none⟩)] 127):=(i.stands d (.inl I)).trans C;have v:=H c cf d o p f e M' D w' c.st h A i Y;exact zU (aqA hst r AA AA i.aqN i.aqO.1 (i.Dz d (.inl (i.sub d AA)) _ Y) (V:=λu j=>V u (j.setCell ⟨c.st,0,none⟩ (.int .i32 0)) f e) v (λu j P=>.stop AA))
end
end
end pE
namespace bZ
open Conc ConcM RowKit av bn ah fi hZ fO iE cz pE c5
def arU:uh M7:=by rintro ρ w w' rd d x b a ⟨v,h0,h1⟩;obtain⟨v',c,b0⟩:=a 0 _ h0;exact⟨v',c,av.a8.carry rj b b0 h1⟩
def arV:o8 M7:=λ_ _ _ _ _ hk a⟨v,h0,h1⟩=>⟨v,a _ _ h0,h1.mono r8 hk⟩
def T_{D D':Nat->Prop}(h:∀b,D b->D' b):Ren.le (e6 D dh) (e6 D' dh):=⟨λ_ b k=>⟨k.1,h b k.2⟩,λ_ k=>k.elim⟩
structure Ju(M aX:Nat->Prop)(w:aO)(most:Nat)(rs:List bB)(u:Value)(w':aO)(n':Nat)(bw:Loc->Prop)(dr:Nat->Prop):Prop where
 n:n'<=most
 sub:∀b,M b->dr b
 new:∀b,dr b->M b\/¬aX b
 cl:ik (ed prog false) dr dh w'
 val:ay (e6 dr dh) u u
 rows:hE w' u rs
 cap:pD rs.length u
 same:∀b,aX b->w'.heap[b]?=w.heap[b]?
 sh:∀b,dr b\/aX b\/w'.heap.size<=b->∀l,e8 l=some b->¬bw l
 size:w.heap.size<=w'.heap.size
 later:OsLater w.os w'.os
 output:w'.output=w.output
 tape:w'.tape=w.tape
theorem Ju.at{M aX:Nat->Prop}{w:aO}{most:Nat}{rs:List bB}{u:Value}{w':aO}{a:Nat}{c:Loc->Prop}{b:Nat->Prop}(h:Ju M aX w most rs u w' a c b)(k:Nat):Ju M aX w most rs u (w'.at k) a c b:=
 ⟨h.n,h.sub,h.new,h.cl,h.val,a8.mono r8 (λ_ _ _ x=>x) h.rows,h.cap,h.same,h.sh,h.size,h.later,h.output,h.tape⟩
def arW:hX prog false f94=true:=by decide+kernel
def arX{S ao N n W:Nat}{rows:Nat->Nat}{M aX:Nat->Prop}{w:aO}(z8:∀b,M b->aX b)(hg:∀g,g<=prog.globals.size->M g)(cK:ik (ed prog false) M dh w)(ps:List (List bB))(a0:N=ps.length)(I3:ps.length<=1000)(I4:∀k,j6 ps k<=1000){cY:Nat->Value->(Nat->Prop)->aO->Prop}{c:dI}{cf:aO}{cP dF b2 n':Nat}{L:Loc->Prop}{M':Nat->Prop}{D:List Value}{w':aO}(Ms:∀T v N w,cY T v N w->pr (ed prog false) M c.K (λw v=>∃h:T<ps.length,hE w v ps[T]) v N w)(q:Gk c aX S ao N n W rows cP dF b2)(z:ai eV aX w cf)(f:Jo c cY (λ_=>False) cf n' L M' D w'){Stop:Nat->Goroutine->aO->Prop}{st:Nat}(hst:st=c.st):
 TM L Stop 94 #[.slice (some ⟨c.bF,0,none⟩) N N] (w'.setCell ⟨st,0,none⟩ (.int .i32 1))
  (λu J=>(∃dr,Ju M aX w (n+W) (kw ps ps.length) u (J.setCell ⟨st,0,none⟩ (.int .i32 0)) n' L dr)/\(∃a n c,u=.slice a n c)/\J.heap[st]?=(w'.setCell ⟨st,0,none⟩ (.int .i32 1)).heap[st]?/\w'.heap.size<=J.heap.size):=by
 subst hst;subst a0;have H:c.N=ps.length:=q.a0;have abg:c.st<w'.heap.size:=f.low _ K1;have Gl:(w'.setCell ⟨c.st,0,none⟩ (.int .i32 1)).heap.size=w'.heap.size:=ah.oC _ _ _;have qk:∀b,M' b->(w'.setCell ⟨c.st,0,none⟩ (.int .i32 1)).heap[b]?=w'.heap[b]?:=λb d=>ni w' _ _ (λe=>f.TV AA);have X:(w'.setCell ⟨c.st,0,none⟩ (.int .i32 1)).os=w'.os/\(w'.setCell ⟨c.st,0,none⟩ (.int .i32 1)).output=w'.output/\(w'.setCell ⟨c.st,0,none⟩ (.int .i32 1)).tape=w'.tape:=⟨rfl,rfl,rfl⟩;generalize nD:w'.setCell ⟨c.st,0,none⟩ (.int .i32 1)=w1 at *;have aFd:∀b,aX b->M' b:=λb d=>f.sub b (.inr (.inl ((q.hK b).2 (.inl d))));have aFe:∀b,aX b->w'.heap[b]?=w.heap[b]?:=λb d=>(f.stands b (.inl ((q.hK b).2 (.inl d)))).trans (z.heap b (.inr d));have m:∀p:Nat,∃(v:Value)(G:Nat->Prop),p<ps.length->D[p]?=some v/\(∀b,G b->M' b/\¬c.K b)/\ik (ed prog false) (λb=>M b\/G b) dh w'/\ay (e6 (λb=>M b\/G b) dh) v v/\∃h:p<ps.length,hE w' v ps[p]:=by
  intro p;by_cases l:p<ps.length
  .obtain⟨v,h1,r⟩:=f.FK p (H▸l);obtain⟨G,g1,g2,fh,j7⟩:=Ms _ _ _ _ r;exact⟨v,G,AA⟩
  .exact⟨.bool false,dh,AA⟩
 obtain⟨vs,m⟩:=Classical.skolem.1 m;obtain⟨G,m⟩:=Classical.skolem.1 m;let s:Nat->Prop:=λb=>M b\/b=c.bF\/∃p,p<ps.length/\G p b
 have V:∀b,s b->M' b:=by
  rintro b (h|h|⟨p,l,h⟩)
  .grind
  .exact f.sub b (.inr (.inr h))
  grind
 have F:∀p,p<ps.length->∀b,M b\/G p b->s b:=by grind
 have E:ik (ed prog false) s dh w1:=by
  intro b d;rw[qk b (V b d)];rcases d with h|h|⟨p,l,h⟩
  .obtain⟨o,h1,r⟩:=cK b h;exact⟨o,AA,r.imp (g7.mono (T_ AA)) id⟩
  .subst h;refine⟨_,f.done,.inl (.cells _ (mQ λv hv=>?_) AA)⟩;obtain⟨p,l,rfl⟩:=List.getElem_of_mem hv;have F_:p<ps.length:=by rw[<-H,<-f.len];exact l
   have:=m p F_;rw[List.getElem?_eq_getElem l]at this;have e:=Option.some.inj this.1;rw[e];exact this.2.2.2.1.mono (T_ (F p F_))
  .obtain⟨o,h1,r⟩:=(m p l).2.2.1 b (.inr h);exact⟨o,h1,r.imp (g7.mono (T_ (F p l))) id⟩
 have i6:aS (e6 s dh) #[Value.slice (some ⟨c.bF,0,none⟩) ps.length ps.length] #[Value.slice (some ⟨c.bF,0,none⟩) ps.length ps.length]:=.one (.slice _ _ ⟨⟨rfl,.inr Kg⟩,rfl,rfl⟩);have P:a8 w1 1 M7 (.slice (some ⟨c.bF,0,none⟩) ps.length ps.length) ps:=by
  refine⟨_,_,rfl,As,λi hi=>⟨c.bF,0,rfl,vs i,?_,?_⟩⟩
  .have h1:=(m i hi).1;have r:w1.heap[c.bF]?=some (.cells D.toArray c.FB):=(qk _ AA).trans f.done;simp_all[World.cell?]
  .obtain⟨h1,r,h3,h4,a4,bP⟩:=m i hi;exact av.a8.carry rj (s_ AA h3) h4 bP
 obtain⟨U,aM⟩:=HB (ed prog false) s dh w1;intro Nr A Jn Ns Nt t Nu hk;have O:∀T,Calls (ae prog false) 94 #[Value.slice (some ⟨c.bF,0,none⟩) ps.length ps.length] {U with tape:=T} (λe I=>∃v,e=.returned v/\hE I v (kw ps ps.length)/\pD (j6 ps ps.length) v):=λT=>
  (aoJ ps _ {U with tape:=T} (a8.mono arV (Cm U T) (av.a8.carry arU (aM.carry E) (i6.get 0 _ _ rfl rfl) P)) I3 I4).mono AA
 have p6:=RZ ln func94 arW rfl AV E AA AA i6 (R:=λv I=>hE I v (kw ps ps.length)/\pD (j6 ps ps.length) v) aM O true (Nr.at A (.inRegion Jn (Ns::Nt)::t)) Nu;refine Ss p6 rfl (λb d=>?_) (λb d=>?_) ?_
 .rcases d with h|h
  .rw[Gl];exact f.low b AA
  .exact h.elim
 .rcases d with h|h|h
  .exact f.Dz b AA
  .exact h.elim
  .exact f.Dz b AA
 rintro Y ⟨ρ,I,v,v',j⟩ y;rw[j.g,Frame.finish_at];obtain⟨aFf,hW⟩:=j.world;have m6:∀b,Y.mine b->w1.heap.size<=b/\b<Y.w.heap.size:=λb d=>(y.new b d).resolve_left λh=>h.elim;have Z:∀b,(∃a,ρ.rel a b)->s b\/w1.heap.size<=b:=by
  rintro b ⟨a,K⟩;rcases j.dom a b K with h|h
  .grind
  grind
 have aFg:∀b,b<w1.heap.size->Y.w.heap[b]?=w1.heap[b]?:=λb d=>y.kept b d λh=>h.elim;have aFh:¬ ∃a,ρ.rel a c.st:=λh=>by
  rcases Z _ h with h|h
  .exact f.TV (V _ h)
  .omega
 have C:∀b,(∃a,ρ.rel a b)->(Y.w.setCell ⟨c.st,0,none⟩ (.int .i32 0)).heap[b]?=Y.w.heap[b]?:=λb d=>ni _ _ _ AA;have B:=hW.closed dh;have HP:ay (e6 (λb=>∃a,ρ.rel a b) dh) v' v':=ay.right (σ:=e6 (λb=>∃a,ρ.rel a b) dh) (λa b K=>⟨rfl,a,K⟩) j.val;have fY:hE Y.w v' (kw ps ps.length):=av.a8.carry rj hW.carry j.val j.post.1;have Q:w'.heap.size<=Y.w.heap.size:=AA;have aFi:w.heap.size<=w'.heap.size:=Nat.le_trans z.size f.size;have aFj:(Y.w.setCell ⟨c.st,0,none⟩ (.int .i32 0)).heap.size=Y.w.heap.size:=ah.oC _ _ _;refine hk v' Y.w ⟨⟨λb=>∃a,ρ.rel a b,⟨?_,λb d=>⟨b,j.le.1 b b ⟨rfl,.inl d⟩⟩,λb d=>?_,s9 B C,HP,av.a8.carry rj (s_ C B) HP fY,j.post.2.carry j.val,λb d=>?_,λb d=>?_,?_,?_,?_,?_⟩⟩,?_,?_,Q⟩
 .rw[<-q.e9];exact f.n
 .rcases Z b d with h|h
  .rcases h with h|h|⟨p,l,h⟩
   .grind
   .exact .inr λx=>(c.zG b ((q.hK b).2 (.inl x))).2.2 h
   .exact .inr λx=>((m p l).2.1 b h).2 ((q.hK b).2 (.inl x))
  .exact .inr λx=>by have:=f.low b AA;omega
 .have hlt:b<w1.heap.size:=by rw[Gl];exact f.low b AA
  have hne:b≠c.st:=(c.zG b ((q.hK b).2 (.inl d))).1;grind[ni]
 .rcases d with h|h|h
  .rcases Z b h with h|h
   .exact f.Dz b (.inl (V b h))
   .exact f.Dz b AA
  .exact f.Dz b AA
  .exact f.Dz b AA
 .omega
 .exact(z.later.trans f.os).trans (by have:=y.os;rw[show(Y.w.setCell ⟨c.st,0,none⟩ (.int .i32 0)).os=Y.w.os from rfl,<-X.1];grind)
 .exact(show Y.w.output=_ from y.output).trans (X.2.1.trans (f.output.trans z.output))
 .exact(show Y.w.tape=_ from y.tape).trans (X.2.2.trans (f.tape.trans z.tape))
 .obtain⟨a,cap,e,_⟩:=j.post.2.carry j.val;grind
 grind
end bZ
namespace aG
open Conc ConcM RowKit av bn ah fi hZ fO iE cz pE c5 bZ
section
variable{O:gW}
def l3:(cU prog).Good:=Xa true AV AV
def Uc{C m:cO}{D M M':Nat->Prop}{w:aO}(h:ik C D M w):ik m D M' w:=by
 intro b j;obtain⟨o,h1,d⟩:=h b j;have f:∀a b,(e6 D M).rel a b->(e6 D M').rel b b:=λa b k=>⟨Y,k.2⟩;refine⟨o,h1,?_⟩;rcases d with d|d
 .cases o with
  |cells c e fr=>cases d with|cells _ i _=>exact .inl (.cells e (i.right f) AA)
  |map es k=>cases d with|map _ g=>exact .inl (.map k (g.right λa b x=>⟨x.key.right f,x.val.right f,Y⟩))
  |number a l=>cases d with|number hn _=>exact .inl (.number (hn.right f) l)
  |coro x=>cases d with|shut h=>grind
  | _=>first|exact .inr trivial|(cases d)
 grind
theorem ww{D M M':Nat->Prop}{v:Value}(h:ay (e6 D M) v v):ay (e6 D M') v v:=ay.right (ρ:=e6 D M) (σ:=e6 D M') (λ_ _ k=>⟨Y,k.2⟩) h
def cut{al:Type}(g:Nat->al)(fr aU:Nat):List al:=(List.range (aU-fr)).map λk=>g (fr+k)
def Ud{al:Type}(g:Nat->al)(fr aU:Nat):(cut g fr aU).length=aU-fr:=by simp[cut]
def ar1{al:Type}(g:Nat->al){a b c:Nat}(h1:a<=b)(d:b<=c):cut g a b++cut g b c=cut g a c:=by
 apply List.ext_getElem
 .simp[Ud];omega
 grind[cut]
structure jq(g:Nat->Nat->List bB):Prop where
 none:∀a b,b<=a->g a b=[]
 app:∀{a b c},a<=b->b<=c->g a b++g b c=g a c
 le:∀a b,(g a b).length<=b-a
def ar2(f:Nat->bB):jq (cut f):=⟨λa b h=>List.eq_nil_of_length_eq_zero (by rw[Ud];omega),ar1 f,λa b=>by rw[Ud];omega⟩
def ar3(rs:List bB)(outs:Nat->bD):jq (j5 rs outs):=by
 refine⟨λa b h=>?_,λ{a b c} h1 d=>?_,λa b=>by grind[S_,Ta]⟩
 .simp[j5,jd,Nat.sub_eq_zero_of_le h]
 .have e:=List.range'_append_1 (s:=a) (m:=b-a) (n:=c-b);grind[j5,jd]
def pieces(g:Nat->Nat->List bB)(ao S N:Nat):List (List bB):=(List.range N).map λT=>g (T*ao) (min (T*ao+ao) S)
def DF(g:Nat->Nat->List bB)(ao S N:Nat):(pieces g ao S N).length=N:=by simp[pieces]
theorem PD(g:Nat->Nat->List bB)(ao S N T:Nat)(h:T<(pieces g ao S N).length):(pieces g ao S N)[T]=g (T*ao) (min (T*ao+ao) S):=by simp[pieces]
def Pt{g:Nat->Nat->List bB}(hg:jq g)(ao S k:Nat):g 0 (min (k*ao) S)++g (k*ao) (min (k*ao+ao) S)=g 0 (min ((k+1)*ao) S):=by
 rw[Nat.succ_mul];rcases Nat.lt_or_ge (k*ao) S with x|x
 .rw[Nat.min_eq_left (Nat.le_of_lt x),hg.app (Nat.zero_le _) As]
 .rw[hg.none (k*ao) _ As,Nat.min_eq_right x,Nat.min_eq_right As,List.append_nil]
theorem NH{g:Nat->Nat->List bB}(hg:jq g){ao S N:Nat}:∀k,k<=N->kw (pieces g ao S N) k=g 0 (min (k*ao) S)
 |0,_=>by simp[kw,hg.none 0 0]
 |k+1,h=>by rw[M8 (by rw[DF];omega),NH hg k As,PD,Pt hg]
def Ue{ao S:Nat}(a:0<ao):S<=(S+ao-1) / ao*ao/\∀T,T<(S+ao-1) / ao->T*ao<S:=by
 have h:=Nat.div_add_mod (S+ao-1) ao;have c:=Nat.mod_lt (S+ao-1) a;have h3:(S+ao-1) / ao*ao=ao*((S+ao-1) / ao):=Nat.mul_comm _ _;constructor
 .omega
 .intro T b;have:(T+1)*ao<=(S+ao-1) / ao*ao:=Nat.mul_le_mul_right _ b;grind
theorem Pn{g:Nat->Nat->List bB}(hg:jq g){ao S:Nat}:∀N,fi.jK (λT=>(g (T*ao) (min (T*ao+ao) S)).length) N=(g 0 (min (N*ao) S)).length
 |0=>by simp[fi.jK,hg.none 0 0]
 |N+1=>by rw[fi.jK,Pn hg N,<-List.length_append,Pt hg]
def Uf(M:Nat->Prop)(w:aO)(rs:List bB)(u:Value)(_:Nat->Prop)(w':aO):Prop:=
 ∃v,u=.tuple #[v,.slice none 0 0]/\hE w' v rs/\pD rs.length v/\∀b,M b->w'.heap[b]?=w.heap[b]?
section
variable{Post:Value->aO->Prop}{M:Nat->Prop}{w:aO}
def Pk{g:Nat->Nat->List bB}(hg:jq g){ao S N W:Nat}(p:0<ao)(E:ao<=64)(A:0<W)(F:W<=16)(hS:S<=300)(a0:N=(S+ao-1) / ao){jt:TypeId}{o h6:Value}{z kq:FuncId}{mP:dI->Nat->Value->(Nat->Prop)->aO->Prop}(hinv:∀w,(callMethod (.iface jt o) "Size" #[]).run prog w=.ok (.enter z (#[h6]++#[])) w/\(callMethod (.iface jt o) "Size" #[]).events prog w #[]=#[])(q:∀g,g<=prog.globals.size->M g)(U:ik (ed prog false) M dh w)(wu:∀(ST:Bool->eV.Lo->aV->Prop) bs,(∀m l g w M M',(∀b,M b->M' b)->ST m l ⟨g,w,M⟩->ST m l ⟨g,w,M'⟩)->i_ prog ST true z (#[h6]++#[]) (je eV () (λb=>M b\/b<O.n) w bs) (λu X=>u=.int .i64 (S:Int)/\X=je eV () (λb=>M b\/b<O.n) w bs))(Jt:∀c cf Stop,(∀b,M b->c.K b)->c.N=N->(∀T,T<N->c.rows T=(g (T*ao) (min (T*ao+ao) S)).length)->(∀b,M b->cf.heap[b]?=w.heap[b]?)->ug c cf prog Stop 114 (.iface jt o) kq h6 (λT=>T*ao) (λT=>min (T*ao+ao) S) (mP c) (λT v M' w=>pr (ed prog false) M c.K (λw v=>T<c.N/\hE w v (g (T*ao) (min (T*ao+ao) S))) v M' w)):
 jN O prog Post 39 #[.agg #[.int .i64 (W:Int),.int .i64 (ao:Int)],.iface jt o] M w 1 (Uf M w (g 0 S)):=by
 intro n Shun hn d eT aF aD aI aL aH csZ hc P;obtain⟨L,r⟩:=Ue (S:=S) p;rw[<-a0]at L r;have aFl:N<=S:=by
  have:∀k,k<=N->k<=S:=by intro k hk;cases k with|zero=>grind|succ k=>have:=r k hk;have h2:=Nat.le_mul_of_pos_right k p;omega
  grind
 refine arS (rows:=λT=>(g (T*ao) (min (T*ao+ao) S)).length) (aX:=λb=>M b\/b<O.n) (cY:=λc T v M' w=>pr (ed prog false) M c.K (λw v=>T<c.N/\hE w v (g (T*ao) (min (T*ao+ao) S))) v M' w) p E A F As a0 As (by rw[Pn hg];have:=hg.le 0 (min (N*ao) S);omega) (λb a=>a.elim d.lt λx=>Nat.lt_of_lt_of_le x d.ob) (λb a=>a.elim (λx=>x.elim (λy=>d.sh b (.inl y)) (d.so b)) λx=>d.sh b (.inr x)) hinv wu
  (λc cf Stop R K Z e t=>Jt c cf Stop (λb a=>(e.hK b).2 (.inl (.inl a))) e.a0 e.vC AA)
  (V:=λu w' f i=>∃j,Ju M (λb=>M b\/b<O.n) w (n+W) (g 0 S) u w' f i j) (λu w' f i k h=>by obtain⟨j,h⟩:=h;exact⟨j,h.at k⟩) (λc cf R K Z f i M' D w' st e t Q hst=>?_) (λu w' f i C=>?_)
 .have I3:kw (pieces g ao S N) (pieces g ao S N).length=g 0 S:=by simp_all[DF,NH]
  have:=arX (Stop:=bS prog Post f i) AA q U (pieces g ao S N) (DF g ao S N).symm (by rw[DF];omega) (λk=>?_) (λT v M w h=>?_) e t Q hst
  .grind
  .by_cases hk:k<=N
   .unfold j6;rw[NH hg k hk];have:=hg.le 0 (min (k*ao) S);omega
   .unfold j6 kw;rw[List.take_of_length_le (by rw[DF];omega)];have:(pieces g ao S N).flatten=kw (pieces g ao S N) N:=by simp_all[kw,List.take_of_length_le,DF]
    rw[this,NH hg N J1];have:=hg.le 0 (min (N*ao) S);omega
  .obtain⟨G,g1,I,J,B,qH⟩:=h;have H:T<(pieces g ao S N).length:=by rw[DF,<-e.a0];exact B
   exact⟨G,g1,I,J,H,by grind[PD]⟩
 .obtain⟨j,h⟩:=C;refine P (.tuple #[u,.slice none 0 0]) j w' f i (by have:=h.n;omega) ⟨Uc h.cl,λg hg=>h.sub g (q g hg),λb a=>h.sh b (a.imp id .inr),λb a h0=>(h.new b a).elim (λx=>d.new b x h0) AA,Nat.le_trans d.ob h.size,λb h0 a=>(h.same b (.inr a)).trans (d.old b h0 a),λb a=>h.sh b AA⟩ h.sub (.PI (mQ λx s=>?_)) ⟨h.size,h.later,h.output,h.tape⟩ ⟨u,Y,h.rows,h.cap,λb a=>h.same b (.inl a)⟩;simp at s;rcases s with rfl|rfl
  .exact ww h.val
  .exact .jy _ _
def ar4{t:List aA}{v:Value}(p:ik (cU prog) M (hO M) w)(d:∀g,g<=prog.globals.size->M g)(l:m8 w v t)(hrel:ay (cq M) v v)(h0:0<t.length)(a:t.length<=1000000){ao S W:Nat}(e:0<ao)(m:ao<=64)(k:0<W)(n:W<=16)(hS:S<=300)(hh:t[0].cp.length=S)(cQ:∀i,i<S->∀c∈t,vH i c):
 jN O prog Post 39 #[.agg #[.int .i64 (W:Int),.int .i64 (ao:Int)],.iface 116 (.agg #[v])] M w 1 (Uf M w (mV t 0 S)):=by
 have j:ik (ed prog false) M dh w:=Uc p;have q:(λb=>M b\/dh b)=M:=by
  funext b
  exact propext ⟨λh=>h.resolve_right λx=>x,.inl⟩
 refine Pk (kq:=208) (mP:=λc T u M' w=>pr (ed prog false) M c.K (vX t (T*ao) (min (T*ao+ao) S)) u M' w) (g:=mV t) (ar2 λi=>([((i:Nat):Int)],t.map (gE · i))) e m k n hS Y (ao3 v) d j (λST bs r=>?_) (λc cf Stop hK a0 vC o=>?_)
 .grind[ao0,ww]
 .refine aot (v:=v) (t:=t) (dE:=M) hK d (by grind[s9]) (av.a8.carry vW (s_ o j) (ww hrel) l) (by grind[ww]) (λargs w=>ao2 v args w) a (λT f=>?_) (λT f=>by grind[I1]);have:=(Ue (S:=S) e).2 T (a0▸f);grind
def ar5{ts:List bI}{rs:List bB}{outs:Nat->bD}(ok:Cn ts rs outs){ev aT:Value}(r:ik (cU prog) M (hO M) w)(d:∀g,g<=prog.globals.size->M g)(i:p8 w ev ts)(j:hE w aT rs)(hd:pD rs.length aT)(l:ay (cq M) ev ev)(e:ay (cq M) aT aT){ao W:Nat}(f:0<ao)(o:ao<=64)(m:0<W)(p:W<=16)(hS:rs.length<=300):
 jN O prog Post 39 #[.agg #[.int .i64 (W:Int),.int .i64 (ao:Int)],.iface 107 (.agg #[ev,aT])] M w 1 (Uf M w (j5 rs outs 0 rs.length)):=by
 have a:ik (ed prog false) M dh w:=Uc r;have s:(λb=>M b\/dh b)=M:=by
  funext b
  exact propext ⟨λh=>h.resolve_right λx=>x,.inl⟩
 obtain⟨t,ec,v,-⟩:=id i;refine Pk (g:=j5 rs outs) (kq:=173) (mP:=λc T u M' w=>pr (ed prog false) M c.K (wk ts rs (T*ao) (min (T*ao+ao) rs.length)) u M' w) (ar3 rs outs) f o m p hS Y (ao5 ev aT) d a (λST bs n=>ao1 (bs:=bs) AA d a AA j (ww l) (ww e) n) (λc cf Stop hK a0 vC k=>?_);refine aoB (dE:=M) hK d (by grind[s9]) ok (av.a8.carry zQ (s_ k a) (ww l) i) (av.a8.carry rj (s_ k a) (ww e) j) hd (by grind[ww]) (by grind[ww]) (λargs w=>ao4 ev aT args w) (λT q=>?_) AA;have:=(Ue (S:=rs.length) f).2 T (a0▸q);grind
end
end
end aG
namespace aG
open Conc ConcM RowKit av bn cz c5 bZ bN cM
structure Rd(al:Type) where
 R:aO->(Nat->Option Value)->al->Prop
 mono:o8 R
 j3:uh R
def j9:Rd Int:=⟨tD,A3,IE⟩
def Uh:Rd ByteArray:=⟨A2,Qn,Mp⟩
def OK:Rd Bool:=⟨ze,Qm,Mo⟩
def nt:Rd aA:=⟨vp,rM,vW⟩
def dS:Rd bI:=⟨HE,p7,zQ⟩
section
variable{al:Type}(du:Nat)(r:Rd al)(xs:List al)(x:al)
def b6:bp:=⟨λw v=>a8 w du r.R v xs,λ_ _ _ hb h=>h.mono r.mono (bo.cj hb),λ_=>True,λ_ _ _ _ _ _ _ hc hv h=>av.a8.carry r.j3 hc.cells hv h⟩
def pI:Rd (List al):=⟨λw rd xs=>∃v,rd 0=some v/\a8 w du r.R v xs,λ_ _ _ _ _ hk hr⟨v,h0,h⟩=>⟨v,hr _ _ h0,h.mono r.mono hk⟩,λρ w w' rd i7 x hc hr⟨v,h0,h⟩=>by
 obtain⟨v',h1,h2⟩:=hr 0 v h0
 exact⟨v',h1,av.a8.carry r.j3 hc h2 h⟩⟩
def asi(w:aO)(v:Value):Prop:=∃b o,v=.pointer (some ⟨b,o,none⟩)/\r.R w (λj=>w.cell? ⟨b,o+j,none⟩) x
def ei:bp:=⟨asi r x,λw w' v hb⟨b,o,e,h⟩=>⟨b,o,e,r.mono _ _ _ _ _ (bo.cj hb) (λj v hv=>bo.cj hb _ _ _ hv) h⟩,λ_=>True,λn _ ρ w w' v v' hc hv⟨b,o,e,h⟩=>by
 subst e
 obtain⟨b',rfl,q⟩:=FR hv
 exact⟨b',o,Y,r.j3 ρ w w' _ _ x hc.cells (λj v hv=>hc.cells ⟨b,o+j,none⟩ ⟨b',o+j,none⟩ v ⟨q,Y,Y⟩ hv) h⟩⟩
end
def iR(v:Value)(F:bp):bp:=⟨λw u=>u=v/\F.R w u,λ_ _ _ hb h=>⟨h.1,F.hJ _ _ _ hb h.2⟩,λ_=>False,λ_ h=>h.elim⟩
def Ui(B:Nat)(cs:Array Value)(T:TypeId):bp:=⟨λw u=>∃b,u=.pointer (some ⟨b,0,none⟩)/\B<=b/\ag w b cs T,λ_ _ _ hb⟨b,h1,h2,h3⟩=>⟨b,h1,h2,h3.call hb⟩,λ_=>False,λ_ h=>h.elim⟩
def rp(B:Nat)(F:bp):bp:=⟨λw u=>B<=w.heap.size/\F.R w u,λ_ _ _ hb h=>⟨Nat.le_trans h.1 hb.size,F.hJ _ _ _ hb h.2⟩,λ_=>False,λ_ h=>h.elim⟩
variable{a':Act}{w':aO}
theorem af.of{N:Nat}{l:List (Nat×bp)}(a0:a'.tmps.size=N)(b:∀p∈l,∃v,a'.tmps[p.1]?=some v/\p.2.R w' v):af N (aK l) a' w':=by
 refine⟨a0,λs F e=>?_⟩;have key:∀l:List (Nat×bp),aK l s=some F->(s,F)∈l:=by intro l;induction l with|nil=>intro e;cases e|cons p l a=>grind[aK]
 grind
variable{a:Act}{w:aO}
def af.get{N:Nat}{K:bJ}{s:Nat}{F G:bp}(h:af N K a w)(hs:K s=some F)(b:a'.tmps[s]?=a.tmps[s]?)(d:∀v,F.R w v->G.R w' v):∃v,a'.tmps[s]?=some v/\G.R w' v:=by obtain⟨v,c,e⟩:=h.has s F hs;grind
def af.zb{N:Nat}{K:bJ}(h:af N K a w){l:List (Nat×bp)}(a0:a'.tmps.size=N)(b:∀p∈l,a'.tmps[p.1]?=a.tmps[p.1]?/\∃F,K p.1=some F/\∀v,F.R w v->p.2.R w' v):af N (aK l) a' w':=
 af.of a0 λp h1=>by obtain⟨d,F,h3,c⟩:=b p h1;exact h.get h3 d c
def asj:bp:=⟨λ_ _=>True,λ_ _ _ _ h=>h,λ_=>True,λ_ _ _ _ _ _ _ _ _ h=>h⟩
inductive wy:Value->Prop
 |int (k:IntKind) (n:Int):wy (.int k n)
 |bool (b:Bool):wy (.bool b)
 |string (s:ByteArray):wy (.string s)
 |nil (l c:Nat):wy (.slice none l c)
variable{ρ:Ren}
def wy.same{x y:Value}(h:wy x)(a:ay ρ x y):y=x:=by cases h with|int=>exact js a|bool=>exact SK a|string=>cases a;rfl|nil=>exact qv a
theorem OJ:∀{l a:List Value},(∀x∈l,wy x)->dy (ay ρ) l a->a=l
 | [],_,_,.nil=>rfl
 |x::l,_,h,.cons h1 b=>by rw[(h x A_).same h1,OJ (λy c=>h y AA) b]
def Uj(l:List Value)(h:∀x∈l,wy x):bp:=⟨eo (.agg l.toArray),th.eq _,λ_=>True,λn _ ρ w w' v v' hc hv e=>by
 cases e
 obtain⟨l',rfl,k⟩:=tg hv
 rw[OJ h k]
 rfl⟩
variable{v:Value}
section
variable{P:cg}{N:Nat}{K:bJ}{o:Oper}{F:bp}{x y z:Operand}
def dT{b:bp}(c:bl K x b)(h:∀(ev:Operand->Value) w,b.R w (ev x)->∃v w1,(execOp ev o).run P w=.ok (.value v) w1/\F.R w1 v/\Below w.heap.size w w1):bG P N K o F:=λa w hk=>.inl (h a.eval w (hk.ev c))
def rq{b c:bp}(e:bl K x b)(d:bl K y c)(h:∀(ev:Operand->Value) w,b.R w (ev x)->c.R w (ev y)->∃v w1,(execOp ev o).run P w=.ok (.value v) w1/\F.R w1 v/\Below w.heap.size w w1):bG P N K o F:=λa w hk=>.inl (h a.eval w (hk.ev e) (hk.ev d))
def bf(b:o.op=.move x)(a:bl K x F):bG P N K o F:=dT a λev w h=>⟨_,w,by simp[execOp,b],h,Below.refl _ _⟩
def uV(b:o.op=.move x)(a:bl K x (iR v F)):bG P N K o F:=dT a λev w h=>⟨_,w,by simp[execOp,b],h.2,Below.refl _ _⟩
def dv(b:o.op=.assign x)(a:bl K x F):bG P N K o F:=dT a λev w h=>⟨_,w,by simp[execOp,b],h,Below.refl _ _⟩
def kB{c:Bool}(d:o.op=.pick x y z)(b:bl K x (bL c))(a:bl K (if c then y else z) F):bG P N K o F:=rq b a λev w e h=>⟨if c then ev y else ev z,w,by
 have e:ev x=.bool c:=e;simp[execOp,d,e,go_sem],by grind,Below.refl _ _⟩
def rr{c:Bool}{T:TypeId}(b:o.op=.unOp .not T x)(a:bl K x (bL c)):bG P N K o (bL !c):=dT a λev w e=>⟨.bool !c,w,by
 have e:ev x=.bool c:=e;simp[execOp,b,e,go_sem],Y,Below.refl _ _⟩
end
variable{c:aA}{m n:Int}{f:FuncId}
section
variable{N:Nat}{K:bJ}{o:Oper}{F:bp}{x y z:Operand}{al:Type}{T T':TypeId}
def DH(b:bl K x (bt m))(a:bl K y (bt n))(hF:∀w,F.R w v)(h:∀(ev:Operand->Value) w,ev x=.int .i64 m->ev y=.int .i64 n->(execOp ev o).run (ae prog true) w=.ok (.value v) w):bG (ae prog true) N K o F:=rq b a λev w d c=>⟨v,w,h ev w d c,hF w,Below.refl _ _⟩
abbrev uW(T:TypeId):Prop:=T=3\/T=2
def uX(b:o.op=.binOp .add T x y T')(d:bl K x (bt m))(c:bl K y (bt n))(a:cD (m+n))(e:uW T):bG (ae prog true) N K o (bt (m+n)):=DH d c (λ_=>Y) λev w g f=>by unfold cD at a;cases o;simp only at b;subst b;rcases e with rfl|rfl<;>(go_simp;exact IntWalk.i64_in _ a)
def Uk(b:o.op=.binOp .sub T x y T')(d:bl K x (bt m))(c:bl K y (bt n))(a:cD (m-n))(e:uW T):bG (ae prog true) N K o (bt (m-n)):=DH d c (λ_=>Y) λev w g f=>by unfold cD at a;cases o;simp only at b;subst b;rcases e with rfl|rfl<;>(go_simp;exact IntWalk.i64_in _ a)
def Jx(a:o.op=.binOp .lss T x y T')(c:bl K x (bt m))(b:bl K y (bt n))(d:uW T):bG (ae prog true) N K o (bL (decide (m<n))):=DH c b (λ_=>Y) λev w f e=>by cases o;simp only at a;subst a;rcases d with rfl|rfl<;>go_simp
def Ul(a:o.op=.binOp .gtr T x y T')(c:bl K x (bt m))(b:bl K y (bt n))(d:uW T):bG (ae prog true) N K o (bL (decide (n<m))):=DH c b (λ_=>Y) λev w f e=>by cases o;simp only at a;subst a;rcases d with rfl|rfl<;>go_simp
def DI(a:o.op=.binOp .eql T x y T')(c:bl K x (bt m))(b:bl K y (bt n))(d:uW T):bG (ae prog true) N K o (bL (m==n)):=DH c b (λ_=>Y) λev w f e=>by cases o;simp only at a;subst a;rcases d with rfl|rfl<;>go_simp
def asl{m n:ByteArray}(a:o.op=.binOp .eql 9 x y T')(e:bl K x (z2 m))(d:bl K y (z2 n)):bG (ae prog true) N K o (bL (m.toList==n.toList)):=rq e d λev w c b=>⟨.bool (m.toList==n.toList),w,by
 have c:ev x=.string m:=c;have b:ev y=.string n:=b;cases o;simp only at a;subst a;go_simp,Y,Below.refl _ _⟩
def asm{m:ByteArray}(a:o.op=.binOp .neq 9 x y T')(e:bl K x (z2 m))(d:bl K y (z2 m)):bG (ae prog true) N K o (bL false):=rq e d λev w c b=>⟨.bool false,w,by
 have c:ev x=.string m:=c;have b:ev y=.string m:=b;cases o;simp only at a;subst a;go_simp,Y,Below.refl _ _⟩
def NS{m:Bool}(a:o.op=.binOp .neq 4 x y T')(e:bl K x (bL m))(d:bl K y (bL m)):bG (ae prog true) N K o (bL false):=rq e d λev w c b=>⟨.bool false,w,by
 have c:ev x=.bool m:=c;have b:ev y=.bool m:=b;cases o;simp only at a;subst a;go_simp,Y,Below.refl _ _⟩
def ia{k:Nat}{r:Rd al}{y:al}(a:o.op=.fieldAddr 43 x k)(d:bl K x (ei nt c))(hk:k<5)(g:∀w rd,vp w rd c->r.R w (λj=>rd (k+j)) y):bG (ae prog true) N K o (ei r y):=dT d λev w h=>by
 obtain⟨b,f,e,h⟩:=h;refine⟨.pointer (some ⟨b,f+k,none⟩),w,?_,⟨b,f+k,Y,?_⟩,Below.refl _ _⟩
 .cases o;simp only at a;subst a;have:k=0\/k=1\/k=2\/k=3\/k=4:=As;rcases this with rfl|rfl|rfl|rfl|rfl<;>go_simp
 .have:=g w (λj=>w.cell? ⟨b,f+j,none⟩) h;grind
def Um(w:aO)(rd:Nat->Option Value)(h:vp w rd c):j9.R w (λj=>rd (0+j)) c.kind:=by obtain⟨bg,vs,d,h0,h1,b,h3,a,e⟩:=h;exact h0
def Un(w:aO)(rd:Nat->Option Value)(h:vp w rd c):j9.R w (λj=>rd (1+j)) c.ck:=by obtain⟨bg,vs,d,h0,h1,b,h3,a,e⟩:=h;exact h1
def Af(w:aO)(rd:Nat->Option Value)(h:vp w rd c):(pI 1 j9).R w (λj=>rd (2+j)) c.fg:=by obtain⟨bg,vs,e,h0,h1,a,h3,d,b⟩:=h;exact⟨bg,a,b.fg⟩
def Ag(w:aO)(rd:Nat->Option Value)(h:vp w rd c):(pI 1 Uh).R w (λj=>rd (3+j)) c.dl:=by obtain⟨bg,vs,e,h0,h1,d,h3,b,a⟩:=h;exact⟨vs,h3,a.dl⟩
def uY(w:aO)(rd:Nat->Option Value)(h:vp w rd c):(pI 1 OK).R w (λj=>rd (4+j)) c.cp:=by obtain⟨bg,vs,b,h0,h1,e,h3,a,d⟩:=h;exact⟨b,a,d.cp⟩
def asn{t:bI}(a:o.op=.fieldAddr 32 x 2)(c:bl K x (ei dS t)):bG (ae prog true) N K o (ei j9 t.v):=dT c λev w h=>by obtain⟨b,f,e,h0,h1,d,h3,g⟩:=h;exact⟨.pointer (some ⟨b,f+2,none⟩),w,Bf,⟨b,f+2,Y,d⟩,Below.refl _ _⟩
def aso{t:bI}(a:o.op=.fieldAddr 32 x 3)(c:bl K x (ei dS t)):bG (ae prog true) N K o (ei Uh t.s):=dT c λev w h=>by obtain⟨b,f,e,h0,h1,g,h3,d⟩:=h;exact⟨.pointer (some ⟨b,f+3,none⟩),w,Bf,⟨b,f+3,Y,h3,d⟩,Below.refl _ _⟩
def cH{r:Rd al}{y:al}(a:o.op=.load T x)(c:bl K x (ei r y))(d:∀w rd,r.R w rd y->∃v,rd 0=some v/\F.R w v)(g:T=3\/T=2\/T=9\/T=4\/T=39\/T=40\/T=41\/T=26\/T=35\/T=46\/T=71):bG (ae prog true) N K o F:=dT c λev w h=>by obtain⟨b,f,e,h⟩:=h;obtain⟨v,h1,i⟩:=d w _ h;refine⟨v,w,?_,i,Below.refl _ _⟩;simp only[Nat.add_zero]at h1;cases o;simp only at a;subst a;rcases g with rfl|rfl|rfl|rfl|rfl|rfl|rfl|rfl|rfl|rfl|rfl<;>go_simp
def mX(n:Int)(w:aO)(rd:Nat->Option Value)(h:j9.R w rd n):∃v,rd 0=some v/\(bt n).R w v:=⟨_,h,Y⟩
def Jy(n:ByteArray)(w:aO)(rd:Nat->Option Value)(h:Uh.R w rd n):∃v,rd 0=some v/\(z2 n).R w v:=⟨_,h.1,Y⟩
def DJ(n:Bool)(w:aO)(rd:Nat->Option Value)(h:OK.R w rd n):∃v,rd 0=some v/\(bL n).R w v:=⟨_,h,Y⟩
def e_{du:Nat}{r:Rd al}(xs:List al)(w:aO)(rd:Nat->Option Value)(h:(pI du r).R w rd xs):∃v,rd 0=some v/\(b6 du r xs).R w v:=h
abbrev NI(T:TypeId)(du:Nat):Prop:=(du=1/\(T=39\/T=40\/T=41\/T=37\/T=46\/T=91\/T=30))\/(du=7/\T=52)\/(du=5/\T=26)\/(du=4/\T=35)
def QA{du:Nat}{r:Rd al}{xs:List al}{i:Nat}{e:al}(a:o.op=.indexAddr T x y)(d:xs[i]?=some e)(g:NI T du)(ev:Operand->Value)(w:aO)(h:a8 w du r.R (ev x) xs)(m:ev y=.int .i64 i):∃v w1,(execOp ev o).run (ae prog true) w=.ok (.value v) w1/\(ei r e).R w1 v/\Below w.heap.size w w1:=by obtain⟨hi,rfl⟩:=List.getElem?_eq_some_iff.1 d;obtain⟨p,cap,n,l,j⟩:=h;obtain⟨b,f,rfl,c⟩:=j i hi;have k:(i:Int)<(xs.length:Int):=As;refine⟨.pointer (some ⟨b,f+i*du,none⟩),w,?_,⟨b,f+i*du,Y,c⟩,Below.refl _ _⟩;cases o;simp only at a;subst a;rcases g with⟨rfl,rfl|rfl|rfl|rfl|rfl|rfl|rfl⟩|⟨rfl,rfl⟩|⟨rfl,rfl⟩|⟨rfl,rfl⟩<;>go_simp
def dM{du:Nat}{r:Rd al}{xs:List al}{i:Nat}{e:al}(c:o.op=.indexAddr T x y)(b:bl K x (b6 du r xs))(a:bl K y (bt i))(d:xs[i]?=some e)(f:NI T du):bG (ae prog true) N K o (ei r e):=rq b a (QA c d f)
def asp{du:Nat}{r:Rd al}{xs:List al}{i:Nat}{e:al}(c:o.op=.indexAddr T x y)(b:bl K x (iR v (b6 du r xs)))(a:bl K y (bt i))(d:xs[i]?=some e)(f:NI T du):bG (ae prog true) N K o (ei r e):=rq b a λev w h=>QA c d f ev w h.2
def my{du:Nat}{r:Rd al}{xs:List al}(a:o.op=.call {callee:=.builtin .len,args:=#[x],argTypes:=#[T]})(b:bl K x (b6 du r xs))(c:NI T du):bG (ae prog true) N K o (bt xs.length):=dT b λev w h=>by obtain⟨f,cap,e,d,g⟩:=h;refine⟨.int .i64 xs.length,w,?_,Y,Below.refl _ _⟩;cases o;simp only at a;subst a;rcases c with⟨rfl,rfl|rfl|rfl|rfl|rfl|rfl|rfl⟩|⟨rfl,rfl⟩|⟨rfl,rfl⟩|⟨rfl,rfl⟩<;>go_simp
def DK(a:o.op=.binOp .neq T x y T')(c:bl K x (bt m))(b:bl K y (bt m))(d:uW T):bG (ae prog true) N K o (bL false):=DH c b (λ_=>Y) λev w f e=>by cases o;simp only at a;subst a;rcases d with rfl|rfl<;>go_simp
def Qz(c:o.op=.binOp .gtr T x y T')(b:bl K x (bt m))(a:bl K y (bt n))(d:uW T)(h:n<m):bG (ae prog true) N K o (bL true):=by have:=Ul (N:=N) c b a d;grind
def Qy(c:o.op=.binOp .gtr T x y T')(b:bl K x (bt m))(a:bl K y (bt n))(d:uW T)(h:¬n<m):bG (ae prog true) N K o (bL false):=by have:=Ul (N:=N) c b a d;grind
def Jz(c:o.op=.binOp .lss T x y T')(b:bl K x (bt m))(a:bl K y (bt n))(d:uW T)(h:m<n):bG (ae prog true) N K o (bL true):=by have:=Jx (N:=N) c b a d;grind
def DL(c:o.op=.binOp .lss T x y T')(b:bl K x (bt m))(a:bl K y (bt n))(d:uW T)(h:¬m<n):bG (ae prog true) N K o (bL false):=by have:=Jx (N:=N) c b a d;grind
def Uo{P:cg}{args:Array Operand}{ats:Array TypeId}(d:o.op=.call {callee:=.value (.func f),args,argTypes:=ats})(c:∀vs w,Sem.run P (callFunc f vs) w=.ok (.enter f vs) w)(h:∀a w,af N K a w->Calls P f (args.map a.eval) w λe w'=>∃v,e=.returned v/\F.R w' v/\Below w.heap.size w w'):bG P N K o F:=λa w hk=>.inr ⟨f,args.map a.eval,by
 have:=c (args.map a.eval) w;generalize b:a.eval=ev at *;have e:ev (.func f)=.func (.func f) #[] #[]:=by rw[<-b];rfl
 grind[execOp,resolve,Deferred.ofValue,invoke],h a w hk⟩
def DN{P:cg}{ats:Array TypeId}{b:bp}(d:o.op=.call {callee:=.value (.func f),args:=#[x],argTypes:=ats})(g:∀vs w,Sem.run P (callFunc f vs) w=.ok (.enter f vs) w)(c:bl K x b)(h:∀v w,b.R w v->Calls P f #[v] w λe w'=>∃r,e=.returned r/\F.R w' r/\Below w.heap.size w w'):bG P N K o F:=
 Uo d g λa w hk=>by have:=h _ w (hk.ev c);grind
def Gn{P:cg}{ats:Array TypeId}{b c:bp}(i:o.op=.call {callee:=.value (.func f),args:=#[x,y],argTypes:=ats})(j:∀vs w,Sem.run P (callFunc f vs) w=.ok (.enter f vs) w)(g:bl K x b)(d:bl K y c)(h:∀v v' w,b.R w v->c.R w v'->Calls P f #[v,v'] w λe w'=>∃r,e=.returned r/\F.R w' r/\Below w.heap.size w w'):bG P N K o F:=
 Uo i j λa w hk=>by have:=h _ _ w (hk.ev g) (hk.ev d);grind
def Up{b:Oper}{P:cg}{ops:Array Oper}{i d s:Nat}{Q:Exit->Act->aO->Prop}{rest:List Nat}{w1 Gp:aO}{e:Value}(h1:ops[i]?=some o)(j:ops[i+1]?=some b)(g1:o.guard=none)(l:b.guard=none)(hd:o.dst=some d)(f:b.dst=none)(a0:d<N)(p:d≠s)(hk:af N K a w)(g:a.tmps[s]?=some e)(n:∀ev:Operand->Value,(execOp ev o).run P w=.ok (.value (.pointer (some ⟨w.heap.size,0,none⟩))) Gp)(m:∀ev:Operand->Value,ev (.tmp d)=.pointer (some ⟨w.heap.size,0,none⟩)->ev (.tmp s)=e->(execOp ev b).run P Gp=.ok .skip w1)(h:Below w.heap.size w w1)(hF:F.R w1 (.pointer (some ⟨w.heap.size,0,none⟩)))(k:∀a',af N (up K d F) a' w1->a'.defers=a.defers->wpOps P ops Q rest a' w1):wpOps P ops Q (i::(i+1)::rest) a w:=by
 refine jO (R:=λa1 w1=>a1=a.put (some d) (.pointer (some ⟨w.heap.size,0,none⟩))/\w1=Gp) (qw h1 g1 hd (n _) ⟨Y,Y⟩) ?_;rintro a1 c ⟨rfl,rfl⟩;refine jO (R:=λa1 c=>a1=a.put (some d) (.pointer (some ⟨w.heap.size,0,none⟩))/\c=w1) (wb j l f (m _ (eb (kt (by rw[hk.size];exact a0))) (eb ((dP p).trans g))) ⟨Y,Y⟩) ?_;rintro a1 q ⟨rfl,rfl⟩;exact k _ (hk.put a0 h hF) (put_defers _ _ _)
end
def DQ{P:cg}{N id m:Nat}{ops:Array Oper}{ks ks':List Item}{Q:Act->aO->Prop}{K K':bJ}(hk:af N K a w)(h:uu P N ops (ops.toList.take m) K K')(c:m<=ops.size)(k:∀a' w',af N K' a' w'->a'.defers=a.defers->Below w.heap.size w w'->wpOps P ops (jb (bK P (.inRegion ops []::ks) ks' Q)) (List.range' m (ops.size-m)) a' w'):bK P (.code (.region id ops false)::ks) ks' Q a w:=by
 refine SO (n:=ops.size) Y ?_;have b:(ops.toList.take m).length=m:=AA;rw[show List.range' 0 ops.size=List.range' 0 (ops.toList.take m).length++List.range' m (ops.size-m) by
  rw[b];have:=List.range'_append_1 (s:=0) (m:=m) (n:=ops.size-m);grind]
 exact MP h (λj o d=>by
  grind) hk k
def Qu{n N:Nat}{l:List Value}{fs:List (Nat×bp)}(hn:l.length<=n)(a0:n=N)(h:∀p∈fs,∃v,l[p.1]?=some v/\p.2.R w v):af N (aK fs) ⟨l.toArray++Array.replicate (n-l.toArray.size) undef,[]⟩ w:=by
 subst a0;refine⟨AA,λs F e=>?_⟩;have key:∀fs:List (Nat×bp),aK fs s=some F->(s,F)∈fs:=by intro fs;induction fs with|nil=>intro e;cases e|cons p fs a=>grind[aK]
 grind
variable{v':Value}
def yY{n:Nat}(h:pD n v)(b:ay ρ v v'):pD n v':=by obtain⟨a,c,rfl,d⟩:=h;obtain⟨e,rfl⟩:=SL b;exact⟨_,_,Y,d⟩
def l5(rs:List bB):bp:=⟨λw v=>hE w v rs/\pD rs.length v,λ_ _ _ hb h=>⟨a8.mono r8 (bo.cj hb) h.1,h.2⟩,λ_=>True,λ_ _ _ _ _ _ _ hc hv h=>⟨av.a8.carry rj hc.cells hv h.1,yY h.2 hv⟩⟩
def tn:Rd (List bB):=⟨λw rd rs=>∃v,rd 0=some v/\(hE w v rs/\pD rs.length v),λ_ _ _ _ _ hk hr⟨v,h0,h⟩=>⟨v,hr _ _ h0,a8.mono r8 hk h.1,h.2⟩,λρ w w' rd i7 x hc hr⟨v,h0,h⟩=>by
 obtain⟨v',h1,h2⟩:=hr 0 v h0
 exact⟨v',h1,av.a8.carry rj hc h2 h.1,yY h.2 h2⟩⟩
def NK(t:List aA):bp:=⟨λw v=>∃c,v=.agg #[c]/\m8 w c t,λ_ _ _ hb⟨c,e,h⟩=>⟨c,e,a8.mono rM (bo.cj hb) h⟩,λ_=>True,λ_ _ ρ w w' v v' hc hv⟨c,e,h⟩=>by
 subst e
 obtain⟨l',rfl,k⟩:=tg (l:=[c]) hv
 cases k with
 |cons k1 k=>cases k;exact⟨_,Y,av.a8.carry vW hc.cells k1 h⟩⟩
def pJ:Rd (List aA):=⟨λw rd t=>∃v,rd 0=some v/\m8 w v t,λ_ _ _ _ _ hk hr⟨v,h0,h⟩=>⟨v,hr _ _ h0,a8.mono rM hk h⟩,λρ w w' rd i7 x hc hr⟨v,h0,h⟩=>by
 obtain⟨v',h1,h2⟩:=hr 0 v h0
 exact⟨v',h1,av.a8.carry vW hc h2 h⟩⟩
def nw(x y:Int):bp:=⟨eo (.agg #[.int .i64 x,.int .i64 y]),th.eq _,λ_=>True,λ_ _=>anL x y⟩
def yX(b x y z:Value):Prop:=(b.oneCell'=true/\x.oneCell'=true)/\y.oneCell'=true/\z.oneCell'=true
def Ai(h:ay ρ v v')(e:v.oneCell'=true):v'.oneCell'=true:=by cases h<;>first|rfl|cases e
abbrev tp:=Int×Int×List (List bI)
def pK:Rd tp:=⟨λw rd n=>∃b v x y z,(rd 0=some (.int .i64 n.1)/\rd 1=some (.int .i64 n.2.1)/\rd 2=some b/\rd 3=some v/\rd 4=some x/\rd 5=some y/\rd 6=some z)/\yX b x y z/\a8 w 1 (pI 4 dS).R v n.2.2,λ_ _ _ _ _ hk hr⟨b,v,x,y,z,⟨h0,h1,h2,h3,h4,a4,bP⟩,h',h⟩=>⟨b,v,x,y,z,⟨hr _ _ h0,hr _ _ h1,hr _ _ h2,hr _ _ h3,hr _ _ h4,hr _ _ a4,hr _ _ bP⟩,h',a8.mono (pI 4 dS).mono hk h⟩,λρ w w' rd i7 n hc hr⟨b,v,x,y,z,⟨h0,h1,h2,h3,h4,a4,bP⟩,h',h⟩=>by
 obtain⟨v0,eC,q0⟩:=hr 0 _ h0
 obtain⟨v1,k1,bu⟩:=hr 1 _ h1
 obtain⟨v2,k2,bb⟩:=hr 2 _ h2
 obtain⟨v3,k3,q3⟩:=hr 3 _ h3
 obtain⟨v4,k4,q4⟩:=hr 4 _ h4
 obtain⟨v5,dw,q5⟩:=hr 5 _ a4
 obtain⟨v6,fH,q6⟩:=hr 6 _ bP
 rw[js q0]at eC
 rw[js bu]at k1
 exact⟨v2,v3,v4,v5,v6,⟨eC,k1,k2,k3,k4,dw,fH⟩,⟨⟨Ai bb h'.1.1,Ai q4 h'.1.2⟩,Ai q5 h'.2.1,Ai q6 h'.2.2⟩,av.a8.carry (pI 4 dS).j3 hc q3 h⟩⟩
def asw(n:tp)(w:aO)(u:Value):Prop:=∃b v x y z,u=.agg [.int .i64 n.1,.int .i64 n.2.1,b,v,x,y,z].toArray/\yX b x y z/\a8 w 1 (pI 4 dS).R v n.2.2
def uZ(n:tp):bp:=⟨asw n,λ_ _ _ hb⟨b,v,x,y,z,e,h',h⟩=>⟨b,v,x,y,z,e,h',a8.mono (pI 4 dS).mono (bo.cj hb) h⟩,λ_=>True,λ_ _ ρ w w' u kK hc hv⟨b,v,x,y,z,e,h',h⟩=>by
 subst e
 obtain⟨l',rfl,k⟩:=tg hv
 cases k with
 |cons k1 k=>cases k with
  |cons k2 k=>cases k with
   |cons k3 k=>cases k with
    |cons k4 k=>cases k with
     |cons dw k=>cases k with
      |cons fH k=>cases k with
       |cons l6 k=>
        cases k
        rw[js k1,js k2]
        exact⟨_,_,_,_,_,Y,⟨⟨Ai k3 h'.1.1,Ai dw h'.1.2⟩,Ai fH h'.2.1,Ai l6 h'.2.2⟩,av.a8.carry (pI 4 dS).j3 hc.cells k4 h⟩⟩
def u9(rs:List bB):bp:=⟨λw u=>∃v,u=.tuple [v,.slice none 0 0].toArray/\(l5 rs).R w v,λ_ _ _ hb⟨v,e,h⟩=>⟨v,e,(l5 rs).hJ _ _ _ hb h⟩,λ_=>True,λ_ _ ρ w w' u kK hc hv⟨v,e,h⟩=>by
 subst e
 obtain⟨l',rfl,k⟩:=IR hv
 cases k with
 |cons k1 k=>cases k with
  |cons k2 k=>
   cases k
   rw[qv k2]
   exact⟨_,Y,(l5 rs).j3 0 trivial _ _ _ _ _ ⟨hc.cells,hc.types,λ_ _ _ _=>Nat.zero_le _,hc.inj⟩ k1 h⟩⟩
def wz:Rd (Int×Int):=⟨λ_ rd x=>rd 0=some (.int .i64 x.1)/\rd 1=some (.int .i64 x.2),λ_ _ _ _ _ _ hr⟨h1,h2⟩=>⟨hr _ _ h1,hr _ _ h2⟩,λρ w w' rd i7 x hc hr⟨h1,h2⟩=>by
 obtain⟨v1,k1,bu⟩:=hr 0 _ h1
 obtain⟨v2,k2,bb⟩:=hr 1 _ h2
 rw[js bu]at k1
 rw[js bb]at k2
 exact⟨k1,k2⟩⟩
def Uw(T:TypeId)(F:bp):bp:=⟨λw v=>∃u,v=.iface T u/\F.R w u,λ_ _ _ hb⟨u,e,h⟩=>⟨u,e,F.hJ _ _ _ hb h⟩,F.ok,λn ok ρ w w' v v' hc hv⟨u,e,h⟩=>by
 subst e
 cases hv
 rename_i k
 exact⟨_,Y,F.j3 n ok _ _ _ _ _ hc k h⟩⟩
def yR(ts:List bI)(rs:List bB):bp:=⟨λw u=>∃a b,u=.agg [a,b].toArray/\p8 w a ts/\(l5 rs).R w b,λ_ _ _ hb⟨a,b,e,h,h'⟩=>⟨a,b,e,a8.mono p7 (bo.cj hb) h,(l5 rs).hJ _ _ _ hb h'⟩,λ_=>True,λn _ ρ w w' u kK hc hv⟨a,b,e,h,h'⟩=>by
 subst e
 obtain⟨l',rfl,k⟩:=tg hv
 cases k with
 |cons k1 k=>cases k with
  |cons k2 k=>cases k;exact⟨_,_,Y,av.a8.carry zQ hc.cells k1 h,(l5 rs).j3 n trivial _ _ _ _ _ hc k2 h'⟩⟩
section
variable{N:Nat}{K:bJ}{o:Oper}{F:bp}{x y z:Operand}{T T':TypeId}
def yH{n:tp}(a:o.op=.box 49 x)(d:bl K x (uZ n)):bG (ae prog true) N K o (ei pK n):=dT d λev w h=>by obtain⟨b,v,p,q,r,e,g,h⟩:=h;have c:Below w.heap.size w (w.alloc (.cells #[.int .i64 n.1,.int .i64 n.2.1,b,v,p,q,r] 49)):=(Below.refl _ w).alloc J1 _;have f:=a8.mono (pI 4 dS).mono (bo.cj c) h;clear h;refine⟨.pointer (some ⟨w.heap.size,0,none⟩),_,Bf,⟨w.heap.size,0,Y,b,v,p,q,r,⟨?_,?_,?_,?_,?_,?_,?_⟩,g,f⟩,c⟩<;>exact nE (World.alloc_heap_new w _) Y Y
def Ux(a:o.op=.box 67 x)(b:bl K x (nw m n)):bG (ae prog true) N K o (ei wz (m,n)):=dT b λev w h=>by have h:ev x=.agg #[.int .i64 m,.int .i64 n]:=h;have c:Below w.heap.size w (w.alloc (.cells #[.int .i64 m,.int .i64 n] 67)):=(Below.refl _ w).alloc J1 _;refine⟨.pointer (some ⟨w.heap.size,0,none⟩),_,Bf,⟨w.heap.size,0,Y,?_,?_⟩,c⟩<;>exact nE (World.alloc_heap_new w _) Y Y
def yG{n:tp}(a:o.op=.fieldAddr 49 x 0)(d:bl K x (ei pK n)):bG (ae prog true) N K o (ei j9 n.1):=dT d λev w h=>by obtain⟨b,f,e,c,v,p,q,r,⟨h0,h1,i,h3,g,l,k⟩,j,h⟩:=h;exact⟨.pointer (some ⟨b,f,none⟩),w,Bf,⟨b,f,Y,h0⟩,Below.refl _ _⟩
def yz{n:tp}(a:o.op=.fieldAddr 49 x 1)(d:bl K x (ei pK n)):bG (ae prog true) N K o (ei j9 n.2.1):=dT d λev w h=>by obtain⟨b,f,e,c,v,p,q,r,⟨h0,h1,i,h3,g,l,k⟩,j,h⟩:=h;exact⟨.pointer (some ⟨b,f+1,none⟩),w,Bf,⟨b,f+1,Y,h1⟩,Below.refl _ _⟩
def asx{n:tp}(a:o.op=.fieldAddr 49 x 3)(d:bl K x (ei pK n)):bG (ae prog true) N K o (ei (pI 1 (pI 4 dS)) n.2.2):=dT d λev w h=>by obtain⟨b,f,e,c,v,p,q,r,⟨h0,h1,i,h3,g,l,k⟩,j,h⟩:=h;exact⟨.pointer (some ⟨b,f+3,none⟩),w,Bf,⟨b,f+3,Y,v,h3,h⟩,Below.refl _ _⟩
def xN{n:tp}(a:o.op=.load 49 x)(d:bl K x (ei pK n)):bG (ae prog true) N K o (uZ n):=dT d λev w h=>by obtain⟨b,f,e,c,v,p,q,r,⟨h0,h1,j,h3,i,l,k⟩,g,h⟩:=h;simp only[Nat.add_zero]at h0;refine⟨.agg #[.int .i64 n.1,.int .i64 n.2.1,c,v,p,q,r],w,?_,⟨c,v,p,q,r,Y,g,h⟩,Below.refl _ _⟩;clear h;cases o;simp only at a;subst a;go_simp
def JD(a:o.op=.load 67 x)(c:bl K x (ei wz (m,n))):bG (ae prog true) N K o (nw m n):=dT c λev w h=>by obtain⟨b,f,e,h0,h1⟩:=h;simp only[Nat.add_zero]at h0 h1;exact⟨.agg #[.int .i64 m,.int .i64 n],w,Bf,Y,Below.refl _ _⟩
def asy{t:List aA}(a:o.op=.load 28 x)(c:bl K x (ei pJ t)):bG (ae prog true) N K o (NK t):=dT c λev w h=>by obtain⟨b,f,e,v,h0,h1⟩:=h;simp only[Nat.add_zero]at h0;refine⟨.agg #[v],w,?_,⟨v,Y,h1⟩,Below.refl _ _⟩;clear h1;cases o;simp only at a;subst a;go_simp
def lx(a:o.op=.makeInterface T x)(b:bl K x F)(c:T=107\/T=116):bG (ae prog true) N K o (Uw T F):=dT b λev w h=>by refine⟨.iface T (ev x),w,?_,⟨_,Y,h⟩,Below.refl _ _⟩;clear h;cases o;simp only at a;subst a;rcases c with rfl|rfl<;>go_simp
def Uy{rs:List bB}(a:o.op=.extract x 0)(b:bl K x (u9 rs)):bG (ae prog true) N K o (l5 rs):=dT b λev w h=>by obtain⟨v,e,h⟩:=h;refine⟨v,w,?_,h,Below.refl _ _⟩;clear h;cases o;simp only at a;subst a;go_simp
def u_:bp:=⟨eo (.slice none 0 0),th.eq _,λ_=>True,λ_ _ _ _ _ _ _ _ hv h=>by cases h;exact qv hv⟩
def Uz{rs:List bB}(a:o.op=.extract x 1)(b:bl K x (u9 rs)):bG (ae prog true) N K o u_:=dT b λev w h=>by obtain⟨v,e,h⟩:=h;refine⟨.slice none 0 0,w,?_,Y,Below.refl _ _⟩;clear h;cases o;simp only at a;subst a;go_simp
def asz{ts:List bI}{rs:List bB}(a:o.op=.build 107 #[(0,x),(1,y)])(d:bl K x (b6 4 dS ts))(c:bl K y (l5 rs)):bG (ae prog true) N K o (yR ts rs):=rq d c λev w h b=>by refine⟨.agg #[ev x,ev y],w,?_,⟨_,_,Y,h,b⟩,Below.refl _ _⟩;obtain⟨g,cap,f,-⟩:=h;obtain⟨-,i,cr,e,-⟩:=b;cases o;simp only at a;subst a;go_simp
def asA{t:List aA}(a:o.op=.build 116 #[(0,x)])(b:bl K x (NK t)):bG (ae prog true) N K o (NK t):=dT b λev w h=>by obtain⟨c,e,h⟩:=h;refine⟨.agg #[c],w,?_,⟨_,Y,h⟩,Below.refl _ _⟩;obtain⟨d,cap,rfl,-⟩:=h;cases o;simp only at a;subst a;go_simp
def xD(rs:List bB)(w:aO)(rd:Nat->Option Value)(h:tn.R w rd rs):∃v,rd 0=some v/\(l5 rs).R w v:=h
end
end aG
namespace aG
open Conc ConcM RowKit av bn cz c5 bZ
section
variable{O:gW}
def dx(f:Func)(id:Nat):Array Oper:=bO.n2 ((bO.dR id (f.body.getD .skip)).getD .skip)
def sy(f:Func)(id:Nat):Code:=bO.ky ((bO.dR id (f.body.getD .skip)).getD .skip)
def pL(id:Nat):Code->Option (Array Oper)
 | .region i o _=>if i==id then some o else none
 | .seq x y=>match pL id x with|some c=>some c|none=>pL id y
 | .block _ c=>pL id c
 | .loop c=>pL id c
 | .cond _ x y=>match pL id x with|some c=>some c|none=>pL id y
 | _=>none
def aq(f:Func)(id:Nat):Array Oper:=(pL id (f.body.getD .skip)).getD #[]
def Gr{l:Option Oper}{o o':Oper}(h:l=some o)(e:l=some o':=by simp only[dx,Tryz.f10,Tryz.f3,Tryz.f4,Tryz.f18,Tryz.f19,Tryz.f22,Tryz.f29,Option.getD_some,bO.dR,bO.n2,Nat.reduceBEq,Bool.false_eq_true,↓reduceIte];exact Y):o'=o:=Option.some.inj (e.symm.trans h)
def fZ(l:Array Oper){l':Array Oper}(e:l=l':=by simp only[aq,pL,dx,Tryz.f10,Tryz.f3,Tryz.f4,Tryz.f18,Tryz.f19,Tryz.f22,Tryz.f29,Option.getD_some,bO.dR,bO.n2,Nat.reduceBEq,Bool.false_eq_true,↓reduceIte];exact Y):l=l':=e
def Aj(f:Func):Code:=f.body.getD .skip
def enter_at{P:cg}{f:FuncId}{fn:Func}{c:Code}(a:P.funcs[f]?=some fn)(b:fn.body=some c)(args:Array Value):Frame.enter P f args .normal=(base f).at ⟨args++Array.replicate (fn.ntmps-args.size) undef,[]⟩ [.code c]:=by grind[Frame.enter,Frame.at,base]
def Gs(ρ:Ren)(n:Nat):aS ρ (Array.replicate n undef) (Array.replicate n undef):=⟨Y,λi v v' h a=>by
 rw[Array.getElem?_replicate]at h a;split at h<;>simp_all
 subst h;subst a;exact .undef ρ⟩
def xC(ρ:Ren)(a b:Int):aS ρ #[.int .i64 a,.int .i64 b] #[.int .i64 a,.int .i64 b]:=mQ (l:=[.int .i64 a,.int .i64 b]) λx c=>by simp at c;rcases c with rfl|rfl<;>exact .int _ _
def xu:hX prog true f29=true:=by decide+kernel
def mixed:prog.follows .mixedOrders=true:=by decide+kernel
theorem ru{w:aO}{a:Addr}{v:Value}(h:w.cell? a=some v)(o:Obj):(w.alloc o).cell? a=some v:=by grind[tx,nE,Below.heap_alloc]
def jh(op a:Int)(ev:Value):Array Value:=#[.int .i64 op,.int .i64 a,.int .i64 0,ev,.slice none 0 0,.slice none 0 0,.slice none 0 0]
def rx(w:aO)(nb no:Nat)(op a:Int)(ev:Value):Prop:=∀j v,(jh op a ev)[j]?=some v->w.cell? ⟨nb,no+j,none⟩=some v
def DS(w:aO)(nb no k:Nat)(ts:List bI):Prop:=∃k9 oW mW sv,rx w nb (no+7*(k+1)) 2 (k:Int) (.slice (some ⟨k9,oW,none⟩) 1 mW)/\w.cell? ⟨k9,oW,none⟩=some sv/\p8 w sv ts
def xo{w w':aO}{nb no k:Nat}{ts:List bI}(h:DS w nb no k ts)(hk:bo w w'):DS w' nb no k ts:=by obtain⟨k9,a,b,sv,h1,d,h3⟩:=h;exact⟨k9,a,b,sv,λj x c=>hk _ _ _ (h1 j x c),hk _ _ _ d,a8.mono p7 hk h3⟩
end
end aG
namespace bN
open RowKit av aG
def aty(w:aO):Calls (ae prog true) 45 #[.agg (jh 1 0 (.slice none 0 0))] w λe w'=>e=.returned (.bool true)/\Below w.heap.size w w':=by
 unfold jh;go_enter (a6 (upd:=true) func45 AV),ntmps45
 go_wp2
 go_ret
 exact⟨Y,(Below.refl _ _).alloc J1 _⟩
def zf(k:Nat)(a:Option Addr)(ec:Nat)(w:aO):Calls (ae prog true) 45 #[.agg (jh 2 (k:Int) (.slice a 1 ec))] w λe w'=>e=.returned (.bool true)/\Below w.heap.size w w':=by
 unfold jh;go_enter (a6 (upd:=true) func45 AV),ntmps45
 go_wp2
 go_ret
 exact⟨Y,(Below.refl _ _).alloc J1 _⟩
def atz(sb a:Nat)(b:Option Addr)(w:aO)(h0:w.cell? ⟨sb,0,none⟩=some (.slice b 1 a)):Calls (ae prog true) 44 #[.pointer (some ⟨sb,0,none⟩),.agg (jh 1 0 (.slice none 0 0))] w λe w'=>e=.returned (.bool true)/\Below w.heap.size w w':=by
 unfold jh;have c:=fS h0;go_enter (a6 (upd:=true) func44 AV),ntmps44
 go_wp2
 go_region
 go_wp2
 go_ret
 exact⟨Y,((Below.refl _ _).alloc J1 _).drew⟩
variable{k:Nat}
def atA(a:k<2)(sb kb kc:Nat)(w:aO)(h3:w.cell? ⟨sb,3,none⟩=some (.slice (some ⟨kb,0,none⟩) (k+1) kc))(hk:w.cell? ⟨kb,k,none⟩=some (.bool false)):Calls (ae prog true) 66 #[.pointer (some ⟨sb,0,none⟩),.int .i64 (k:Int)] w λe w'=>e=.returned (.bool true)/\w'=w:=by
 obtain rfl|rfl:k=0\/k=1:=As;all_goals
  go_enter (a6 (upd:=true) func66 AV),ntmps66
  go_wp2
  go_ret
  simp_all
def y6(b:k<2)(sb kb kc ec:Nat)(a:Option Addr)(w:aO)(h3:w.cell? ⟨sb,3,none⟩=some (.slice (some ⟨kb,0,none⟩) (k+1) kc))(hk:w.cell? ⟨kb,k,none⟩=some (.bool false)):Calls (ae prog true) 44 #[.pointer (some ⟨sb,0,none⟩),.agg (jh 2 (k:Int) (.slice a 1 ec))] w λe w'=>e=.returned (.bool true)/\Below w.heap.size w w':=by
 unfold jh;go_enter (a6 (upd:=true) func44 AV),ntmps44
 go_wp2
 refine(atA b sb kb kc _ (ru h3 _) (ru hk _)).mono ?_;rintro e w' ⟨rfl,rfl⟩;go_wp2
 go_ret
 exact⟨Y,(Below.refl _ _).alloc J1 _⟩
variable{nb no:Nat}{w:aO}
def D3{op a:Int}{ev:Value}(h:rx w nb no op a ev):w.cell? ⟨nb,no,none⟩=some (.int .i64 op)/\w.cell? ⟨nb,no+1,none⟩=some (.int .i64 a)/\w.cell? ⟨nb,no+2,none⟩=some (.int .i64 0)/\w.cell? ⟨nb,no+3,none⟩=some ev/\w.cell? ⟨nb,no+4,none⟩=some (.slice none 0 0)/\w.cell? ⟨nb,no+5,none⟩=some (.slice none 0 0)/\w.cell? ⟨nb,no+6,none⟩=some (.slice none 0 0):=
 ⟨h 0 _ Y,h 1 _ Y,h 2 _ Y,h 3 _ Y,h 4 _ Y,h 5 _ Y,h 6 _ Y⟩
def JW{w':aO}{op a:Int}{ev:Value}(h:rx w nb no op a ev)(hk:bo w w'):rx w' nb no op a ev:=λj v b=>hk _ _ _ (h j v b)
variable{N:Nat}
def atB(a0:N=2\/N=3)(sb b nb no j:Nat)(f:Option Addr)(w:aO)(h0:w.cell? ⟨sb,0,none⟩=some (.slice f 1 b))(h1:w.cell? ⟨sb,1,none⟩=some (.slice (some ⟨nb,no,none⟩) N j))(hn:rx w nb no 1 0 (.slice none 0 0)):Calls (ae prog true) 36 #[.pointer (some ⟨sb,0,none⟩),.int .i64 0] w λe w'=>e=.returned (.bool true)/\Below w.heap.size w w':=by
 obtain⟨s,d1,r,q,p,o,n⟩:=D3 hn;have k:0<N:=As;go_enter (a6 (upd:=true) func36 AV),ntmps36
 go_wp2
 refine(atz sb b f _ (ru h0 _)).mono ?_;rintro e w1 ⟨rfl,a⟩;have cL:=(ag.new w (jh 1 0 (.slice none 0 0)) 49).call a;obtain⟨i,m,l⟩:=cL.all;have c:Hid (Below w.heap.size w w1):=Below.step a ((Below.refl _ _).alloc J1 _) A_;clear a cL;unfold jh at i;go_wp2
 refine(aty _).mono ?_;rintro e g ⟨rfl,d⟩;have h:Hid (Below w.heap.size w g):=Below.step d c.out c.out.size;clear d;go_wp2
 go_ret
 exact⟨Y,h.out⟩
def atC(i:(N=2/\k=0)\/(N=3/\k=0)\/(N=3/\k=1))(sb kb kc nb no s ec:Nat)(a:Option Addr)(w:aO)(h3:w.cell? ⟨sb,3,none⟩=some (.slice (some ⟨kb,0,none⟩) (k+1) kc))(hk:w.cell? ⟨kb,k,none⟩=some (.bool false))(h1:w.cell? ⟨sb,1,none⟩=some (.slice (some ⟨nb,no,none⟩) N s))(hn:rx w nb (no+7*(k+1)) 2 (k:Int) (.slice a 1 ec)):Calls (ae prog true) 36 #[.pointer (some ⟨sb,0,none⟩),.int .i64 ((k+1:Nat):Int)] w λe w'=>e=.returned (.bool true)/\Below w.heap.size w w':=by
 rcases i with⟨rfl,rfl⟩|⟨rfl,rfl⟩|⟨rfl,rfl⟩;rotate_left
 rotate_left
 .obtain⟨r,d1,q,p,o,n,m⟩:=D3 hn;go_enter (a6 (upd:=true) func36 AV),ntmps36
  go_wp2
  refine(y6 (k:=1) Ae sb kb kc ec a _ (ru h3 _) (ru hk _)).mono ?_;rintro e w1 ⟨rfl,b⟩;have cL:=(ag.new w (jh 2 ((1:Nat):Int) (.slice a 1 ec)) 49).call b;obtain⟨h,l,j⟩:=cL.all;have c:Hid (Below w.heap.size w w1):=Below.step b ((Below.refl _ _).alloc J1 _) A_;clear b cL;unfold jh at h;go_wp2
  refine(zf 1 a ec _).mono ?_;rintro e f ⟨rfl,d⟩;have g:Hid (Below w.heap.size w f):=Below.step d c.out c.out.size;clear d;go_wp2
  go_ret
  exact⟨Y,g.out⟩
 all_goals
  obtain⟨r,d1,q,p,o,n,m⟩:=D3 hn;go_enter (a6 (upd:=true) func36 AV),ntmps36
  go_wp2
  refine(y6 (k:=0) Ae sb kb kc ec a _ (ru h3 _) (ru hk _)).mono ?_;rintro e w1 ⟨rfl,b⟩;have cL:=(ag.new w (jh 2 ((0:Nat):Int) (.slice a 1 ec)) 49).call b;obtain⟨h,l,j⟩:=cL.all;have c:Hid (Below w.heap.size w w1):=Below.step b ((Below.refl _ _).alloc J1 _) A_;clear b cL;unfold jh at h;go_wp2
  refine(zf 0 a ec _).mono ?_;rintro e f ⟨rfl,d⟩;have g:Hid (Below w.heap.size w f):=Below.step d c.out c.out.size;clear d;go_wp2
  go_ret
  exact⟨Y,g.out⟩
variable{bs:Nat}{w0:aO}{ts:List (List aA)}{cJ:List (List (Int×Int))}
section
attribute [local go_sem ↓] Go.wp_at_zero Go.wp_at_succ
def atD(w:aO):Calls (ae prog true) 38 #[.agg (jh 1 0 (.slice none 0 0))] w λe w'=>∃v,e=.returned v/\jC w' v []/\e7 3 w' v/\Below w.heap.size w w':=by
 unfold jh;go_enter (a6 (upd:=true) func38 AV),ntmps38
 go_wp2
 go_ret
 exact⟨_,Y,a8.nil _ _ _,λ_ _ _ _ e=>by simp at e,(Below.refl _ _).alloc J1 _⟩
def atE(k:Nat)(a:Option Addr)(ec:Nat)(w:aO):Calls (ae prog true) 38 #[.agg (jh 2 (k:Int) (.slice a 1 ec))] w λe w'=>∃v,e=.returned v/\jC w' v [(k:Int)]/\e7 3 w' v/\Below w.heap.size w w':=by
 unfold jh;go_enter (a6 (upd:=true) func38 AV),ntmps38
 go_wp2
 go_ret
 have cL:=ag.new (w.alloc (.cells #[.int .i64 2,.int .i64 (k:Int),.int .i64 0,.slice a 1 ec,.slice none 0 0,.slice none 0 0,.slice none 0 0] 49)) #[.int .i64 (k:Int)] 3;simp at cL;exact⟨_,Y,jC.box cL [(k:Int)] 1 A_ AA,e7.box cL _ _ _,((Below.refl _ _).alloc J1 _).alloc A_ _⟩
def y1{i f:Nat}{op cv:Int}{gY:Option Addr}{aK ec:Nat}{d g j:Value}{a:List lI}{aQ:List Bool}{vals:List Value}(h:Own w0 w bs d (.slice (some ⟨nb,no,none⟩) N f) g j ts a cJ aQ vals)(hi:i<N)(Aq:N<=3)(z:cJ.length<=20/\aQ.length<=20)(hn:rx w0 nb (no+i*7) op cv (.slice gY aK ec)){l:List (Int×Int)}{ch:List Int}(E:∀x∈ch,∃q:Nat,x=(q:Int)/\q<aQ.length)(aFD:ch.length<=2)(D:Calls (ae prog true) 36 #[.pointer (some ⟨bs,0,none⟩),.int .i64 i] w λe w'=>e=.returned (.bool true)/\Below w.heap.size w w')(nQ:∀w',Own w0 w' bs d (.slice (some ⟨nb,no,none⟩) N f) g j ts a cJ aQ vals->Calls (ae prog true) 37 #[.pointer (some ⟨bs,0,none⟩),.agg (jh op cv (.slice gY aK ec))] w' λe w''=>zo w'' e (some l)/\Below w'.heap.size w' w'')(C:∀w',Calls (ae prog true) 38 #[.agg (jh op cv (.slice gY aK ec))] w' λe w''=>∃v,e=.returned v/\jC w'' v ch/\e7 3 w'' v/\Below w'.heap.size w' w''):
 Calls (ae prog true) 27 #[.pointer (some ⟨bs,0,none⟩),.int .i64 i] w λe w'=>e=.returned (.int .i64 0)/\∃NV NW NY,Own w0 w' bs d (.slice (some ⟨nb,no,none⟩) N f) NV NW ts a (cJ++[l]) (kU aQ ch++[false]) NY:=by
 have zj:Hid _:=z;have nP:Hid _:=hn;have HC:Hid _:=nQ;have r:Hid _:=C;have atF:Hid _:=E;have B:Hid (Own w0 w bs d (.slice (some ⟨nb,no,none⟩) N f) g j ts a cJ aQ vals):=h;have A:Hid _:=D;have oq:(0:Int)<=(i:Int):=As;have lL:(i:Int)<(N:Int):=As;clear hn nQ C E z h D;go_enter (a6 (upd:=true) func27 AV),ntmps27
 go_wp2_with fail
 refine Calls.mono A.out ?_;rintro e w1 ⟨rfl,a9⟩;have Q:Hid (Own w0 w1 bs d (.slice (some ⟨nb,no,none⟩) N f) g j ts a cJ aQ vals):=B.out.call a9;obtain⟨fM,gQ,gR⟩:=Q.out.box.all;obtain⟨d0,d1,d2,d3,d4,d5,d6⟩:=D3 (JW nP.out (bo.cj Q.out.below));clear a9 B A;go_wp2_with fail
 refine Calls.mono (HC.out _ Q.out) ?_;rintro e w2 ⟨⟨v1,rfl,me,Lw⟩,bV⟩;have gm:Hid (Own w0 w2 bs d (.slice (some ⟨nb,no,none⟩) N f) g j ts a cJ aQ vals):=Q.out.call bV;have P:Hid (eP w2 v1 l):=me;have O:Hid (e7 118 w2 v1):=Lw;obtain⟨a1,c1,rfl,-⟩:=me.shape;clear fM gQ gR d0 d1 d2 d3 d4 d5 d6 bV me Lw Q HC;obtain⟨fM,gQ,gR⟩:=gm.out.box.all;obtain⟨d0,d1,d2,d3,d4,d5,d6⟩:=D3 (JW nP.out (bo.cj gm.out.below));go_wp2_with fail
 refine Calls.mono (r.out _) ?_;rintro e s ⟨aFE,rfl,o,M,i8⟩;obtain⟨ac,cc,rfl,-⟩:=o.shape;have kC:Hid (Own w0 s bs d (.slice (some ⟨nb,no,none⟩) N f) g j ts a cJ aQ vals):=gm.out.call i8;have My:Hid (eP s (.slice a1 l.length c1) l):=a8.mono nL (bo.cj i8) P.out;have L:Hid (e7 118 s (.slice a1 l.length c1)):=O.out.call i8;have K:Hid (jC s (.slice ac ch.length cc) ch):=o;have J:Hid (e7 3 s (.slice ac ch.length cc)):=M;clear fM gQ gR d0 d1 d2 d3 d4 d5 d6 o M i8 P O gm r;go_wp2_with fail
 go_loopw [36] (λx W=>∃k:Nat,k<=ch.length/\x=.int .i64 k/\Own w0 W bs d (.slice (some ⟨nb,no,none⟩) N f) g j ts a cJ (kU aQ (ch.take k)) vals/\jC W (.slice ac ch.length cc) ch/\e7 3 W (.slice ac ch.length cc)/\eP W (.slice a1 l.length c1) l/\e7 118 W (.slice a1 l.length c1))
  (λx _=>ch.length-(intOf x).toNat)
 case atStart=>exact⟨0,Nat.zero_le _,Y,by simpa[kU]using kC.out,K.out,J.out,My.out,L.out⟩
 case round=>
  obtain⟨k,hk,rfl,c9,Ib,R,LJ,Lu⟩:=hrel;have HOW:Hid (Own w0 wr bs d (.slice (some ⟨nb,no,none⟩) N f) g j ts a cJ (kU aQ (ch.take k)) vals):=c9;have r:Hid (jC wr (.slice ac ch.length cc) ch):=Ib;have oY:Hid (e7 3 wr (.slice ac ch.length cc)):=R;have UU:Hid (eP wr (.slice a1 l.length c1) l):=LJ;have NZ:Hid (e7 118 wr (.slice a1 l.length c1)):=Lu;clear c9 R LJ Lu kC K J My L;by_cases hlt:k<ch.length
  .obtain⟨BT,JX,aom,Mx,QU,atG⟩:=ints_at r.out hlt;simp at Mx;obtain⟨rfl,rfl⟩:=Mx;obtain⟨q,hq,aFF⟩:=atF.out ch[k] AA;have RJ:q<(kU aQ (ch.take k)).length:=by grind[XZ]
   rw[hq]at atG;have D4:Hid _:=hq;obtain⟨gk,I,rfl,QL,wx⟩:=World.ownsRow.form HOW.out.qa As;have atH:=HOW.out.take RJ;have hV:=HOW.out.box.rules.1 3;have aFG:wr.cell? ⟨bs,3,none⟩=some (.slice (some ⟨gk,0,none⟩) (kU aQ (ch.take k)).length I):=AA;have aFH:=qV HOW.out.qa q (.bool (kU aQ (ch.take k))[q]) AA;obtain⟨be,iL⟩:=aju HOW.out.qa;have aFI:=iL.rules.2;have m:∀{T:TypeId}{v:Value},e7 T wr v->T≠4->∀b off n c,v=.slice (some ⟨b,off,none⟩) n c->(wr.setCell ⟨gk,q,none⟩ (.bool true)).heap[b]?=wr.heap[b]?:=by intro T v hv hT b off n c e;subst e;exact Below.heap_setCell _ _ _ _ (hv.ne iL hT)
   have hrel':Own w0 (wr.setCell ⟨gk,q,none⟩ (.bool true)) bs d (.slice (some ⟨nb,no,none⟩) N f) g (.slice (some ⟨gk,0,none⟩) (kU aQ (ch.take k)).length I) ts a cJ (kU aQ (ch.take (k+1))) vals:=by grind[List.take_succ_eq_append_getElem,ajA]
   have atI:Hid _:=hrel';have Cj:Hid (jC (wr.setCell ⟨gk,q,none⟩ (.bool true)) _ ch):=r.out.xc (m oY.out Ae);have atJ:Hid (e7 3 (wr.setCell ⟨gk,q,none⟩ (.bool true)) _):=oY.out.set _ _;have If:Hid (eP (wr.setCell ⟨gk,q,none⟩ (.bool true)) _ l):=UU.out.xc (m NZ.out Ae);have atK:Hid (e7 118 (wr.setCell ⟨gk,q,none⟩ (.bool true)) _):=NZ.out.set _ _;have Ny:(0:Int)<=(q:Int):=As;have MJ:(q:Int)<((kU aQ (ch.take k)).length:Int):=As;have aFJ:=HOW.out.box.lt;clear hV m hrel' atH iL hq Ib;go_wp2_with fail
   go_roundw
   case rel=>exact⟨k+1,As,by go_num,atI.out,Cj.out,atJ.out,If.out,atK.out⟩
   case measure=>simp[intOf];omega
  .have QO:ch.take k=ch:=AA;have p:Hid (Own w0 wr bs d (.slice (some ⟨nb,no,none⟩) N f) g j ts a cJ (kU aQ ch) vals):=AA;clear QO HOW r oY Ib;have cE:=p.out.box;obtain⟨R,Lr,Ba⟩:=cE.all;clear cE;have V:Hid _:=LB (ag.new wr #[.slice a1 l.length c1] 83);have X:Hid (∀u∈([.slice a1 l.length c1]:List Value),u.oneCell'=true):=EM;have Z:Hid _:=p.out.ph.alloc (.cells #[.slice a1 l.length c1] 83);have S:Hid ((wr.alloc (.cells #[.slice a1 l.length c1] 83)).heap.size=wr.heap.size+1):=Br;have U:Hid (w0.heap.size<=(wr.alloc (.cells #[.slice a1 l.length c1] 83)).heap.size):=by have:=p.out.below.size;grind[Hid]
   go_upto_region 12 with(at_builtin;refine Le ais _ Bo _ _ Bo w0.heap.size g cJ.length vals Bo Z.out wr.heap.size 1 1 _ Bo Y V.out X.out As (by have:=zj.out;omega) (by have:=zj.out;omega) U.out (wr.heap.size+1) S.out ?_;intro fh tI w4 H UV atL zT;obtain⟨UW,atM,m4⟩:=(p.out.ajy UV).all)
   have t:Hid (Own w0 (w4.setCell ⟨bs,2,none⟩ (.slice (some ⟨fh,0,none⟩) (cJ.length+1) tI)) bs d (.slice (some ⟨nb,no,none⟩) N f) (.slice (some ⟨fh,0,none⟩) (cJ.length+1) tI) j ts a (cJ++[l]) (kU aQ ch) (vals++[.slice a1 l.length c1])):=p.out.ajv UU.out NZ.out (by have:=zj.out;omega) H UV;clear H UV atL zT UW atM m4 V X Z S U UU NZ p R Lr Ba;generalize w4.setCell ⟨bs,2,none⟩ (.slice (some ⟨fh,0,none⟩) (cJ.length+1) tI)=en at *;obtain⟨R,Lr,Ba⟩:=t.out.box.all;have xz:(kU aQ ch).length=aQ.length:=XZ _ _;have UX:Hid ((kU aQ ch).length<=20):=by grind[Hid]
   clear xz;have V:Hid _:=LB (ag.new en #[.bool false] 4);have X:Hid (∀u∈([.bool false]:List Value),u.oneCell'=true):=EM;have Z:Hid _:=t.out.qa.alloc (.cells #[.bool false] 4);have S:Hid ((en.alloc (.cells #[.bool false] 4)).heap.size=en.heap.size+1):=Br;have U:Hid (w0.heap.size<=(en.alloc (.cells #[.bool false] 4)).heap.size):=by have:=t.out.below.size;grind[Hid]
   go_wp2_with (at_builtin;refine Le HJ _ Bo _ _ Bo w0.heap.size j (kU aQ ch).length ((kU aQ ch).map .bool) Bo Z.out en.heap.size 1 1 _ Bo Y V.out X.out As (by have:=UX.out;omega) (by have:=UX.out;omega) U.out (en.heap.size+1) S.out ?_;intro j7 aFK gS atN F aFL y0;obtain⟨TP,aFM,aFN⟩:=(t.out.ajz F).all)
   have JY:=t.out.ajx (by have:=UX.out;omega) atN F;go_ret
   exact⟨Y,_,_,_,JY⟩
end
section
attribute [local go_sem ↓] Go.wp_at_zero Go.wp_at_succ
def tr:Nat->List Bool
 |0=>[]
 |i+1=>List.replicate i true++[false]
def N0(i:Nat):(tr i).length=i:=by cases i<;>simp[tr]
theorem atO(k:Nat):kU (tr (k+1)) [(k:Int)]++[false]=tr (k+2):=by simp[tr,kU,List.replicate_succ',List.set_append]
def tN{a f d e:Value}{i:List lI}{aQ:List Bool}{vals:List Value}(h:Own w0 w bs a f d e ts i cJ aQ vals)(j:0<aQ.length):∃g c,e=.slice (some ⟨g,0,none⟩) aQ.length c/\(∀k b,aQ[k]?=some b->w.cell? ⟨g,k,none⟩=some (.bool b))/\w.cell? ⟨bs,3,none⟩=some (.slice (some ⟨g,0,none⟩) aQ.length c)/\w.cell? ⟨bs,1,none⟩=some f/\w.cell? ⟨bs,0,none⟩=some a/\w.cell? ⟨bs,2,none⟩=some d:=by obtain⟨g,c,rfl,-,-⟩:=World.ownsRow.form h.qa j;have l:=h.box.rules.1;exact⟨g,c,Y,λk b m=>qV h.qa k (.bool b) AA,AA,AA,AA,AA⟩
def atP(a0:N=2\/N=3)(bs g kc:Nat)(a:Option Addr)(c:Nat)(w:aO)(h1:w.cell? ⟨bs,1,none⟩=some (.slice a N c))(h3:w.cell? ⟨bs,3,none⟩=some (.slice (some ⟨g,0,none⟩) N kc))(hg:∀i,i+1<N->w.cell? ⟨g,i,none⟩=some (.bool true)):
 Calls (ae prog true) 28 #[.pointer (some ⟨bs,0,none⟩)] w λe w'=>e=.returned (.tuple #[.int .i64 0,.bool false])/\w'=w:=by
 rcases a0 with rfl|rfl
 .have b:=hg 0 Ae;clear hg;go_enter (a6 (upd:=true) func28 AV),ntmps28
  go_wp2
  go_loopw [17] (λx W=>W=w/\(x=.int .i64 0\/x=.int .i64 1)) (λx _=>1-(intOf x).toNat)
  case atStart=>grind
  case round=>
   obtain⟨rfl,rfl|rfl⟩:=hrel
   .go_wp2
    simp_all[intOf]
   .go_wp2
    go_ret2
    simp_all
 .have b:=hg 0 Ae;have g1:=hg 1 Ae;clear hg;go_enter (a6 (upd:=true) func28 AV),ntmps28
  go_wp2
  go_loopw [17] (λx W=>W=w/\(x=.int .i64 0\/x=.int .i64 1\/x=.int .i64 2)) (λx _=>2-(intOf x).toNat)
  case atStart=>grind
  case round=>
   obtain⟨rfl,rfl|rfl|rfl⟩:=hrel
   .go_wp2
    simp_all[intOf]
   .go_wp2
    simp_all[intOf]
   .go_wp2
    go_ret2
    simp_all
end
end bN
namespace bN
open RowKit Shelf av bZ
variable{L:List eJ}
section
@[simp] theorem atZ (a:Array Value) (w:aO):Sem.run (ae prog true) (callFunc 25 a) w=.ok (.enter 25 a) w:=cB (a6 (upd:=true) func25 AV) AV a w
theorem at0{b:Nat}(h:¬g8 L b):∃i,∃(hi:i<L.length),L[i].v.ownBlock=some b:=Classical.byContradiction λhn=>h λi hi hg=>AA
def tE{B:Nat}{W W':aO}{Y:TypeId->Prop}(h:eH B W L)(hk:hH Y W W')(c:∀i(h:i<L.length),Y L[i].e):eH B W' L:=h.kept λg hg=>by
 obtain⟨i,hi,a⟩:=at0 hg;rcases(h.own i hi).2 with⟨hn,-⟩|⟨g',cap,be,d,-,b,-⟩
 .rw[hn]at a;cases a
 .rw[d]at a;cases a;exact(hk.cells _ _ _ _ b (c i hi)).trans b.symm
def tu{e:TypeId}(h:e=2\/e=9\/e=4):¬r9 e:=by unfold r9;grind
structure GD(B bT t4 t5:Nat)(l:List (Int×Int))(D:Nat->Nat->bD)(m:Nat->Nat)(V:aO)(L:List eJ)(cs:Array Value):Prop where
 f2:eH B V L
 at_:uj l D m L cs
 box:ag V bT cs 43
 br:ag V t5 #[.slice (some ⟨bT,0,none⟩) l.length l.length] 26
 bc:ag V t4 #[.slice none 0 0] 28
def GD.N2{B d c b:Nat}{l:List (Int×Int)}{D:Nat->Nat->bD}{m:Nat->Nat}{V a:aO}{cs:Array Value}(h:GD B d c b l D m V L cs)(hk:hH (λe=>¬r9 e) V a):GD B d c b l D m a L cs:=
 ⟨tE h.f2 hk λi hi=>tu (h.at_.BX i hi),h.at_,hk.cells _ _ _ _ h.box (by grind[r9]),hk.cells _ _ _ _ h.br (by grind[r9]),hk.cells _ _ _ _ h.bc (by grind[r9])⟩
def nx(rs:List bB)(t i:Nat):bD:=((rs[t]?.map (·.2)).getD [])[i]?.getD fL
def at1{l:List (Int×Int)}(D:Nat->Nat->bD){cs:Array Value}(hs:cs.size=l.length*5)(a:Bh cs l l.length):uj l D (λ_=>0) ((List.range (3*l.length)).map λi=>⟨if i % 3=0 then 2 else if i % 3=1 then 9 else 4,.slice none 0 0,[]⟩) cs:=by
 refine⟨hs,λi hi=>?_,λi hi=>?_⟩
 .obtain⟨b,a1,e,d,c⟩:=a i hi hi;refine⟨_,_,_,b,a1,e,d,c,?_,?_,?_⟩
  .grind[oH]
  .grind[oI]
  grind[r_]
 grind
def at2(B:Nat)(w:aO)(n:Nat)(e:Nat->TypeId):eH B w ((List.range n).map λi=>⟨e i,.slice none 0 0,[]⟩):=by
 refine⟨λi hi=>?_,λi j hi b g a hg=>?_⟩
 .grind[World.ownsRow_nil]
 grind[Value.ownBlock]
attribute [local go_sem] Oper.semAt_some
def at3(l:List (Int×Int))(v:Value)(rs:List bB){gf:Nat}{lb:Array Value}(w:aO)(hv:eP w v l)(hl:l.length<=1000)(FZ:rs.length<=1000)(hlen:∀r∈rs,r.2.length=l.length)(Ar:∀r∈rs,∀d∈r.2,d.text.size<=1000000)(za:∀args w,(callFunc gf args).run (ae prog true) w=.ok (.enter gf args) w)(vA:∀n,Sg r9 n (ae prog true) gf lb (Mt w rs) rs.length w.heap.size w):
 Calls (ae prog true) 25 #[v,.func (.func gf) #[] lb] w λe w'=>∃v',e=.returned (.agg #[v'])/\jM w' v' (se l (nx rs) rs.length)/\Below w.heap.size w w':=by
 obtain⟨D2,kD,rfl,-,-⟩:=id hv;have xj:Hid (eP w _ l):=hv;have tq:Hid _:=hlen;have td:Hid _:=Ar;clear hv hlen Ar;refine(callsIn_wide (n:=3)).1 ?_;refine callsIn_of_wp_marks (a6 (upd:=true) func25 AV) rfl trivial ?_;simp[Array.replicate_succ];gi_wp2_with (refine⟨PA,(callsIn_wide.2 (ajV l _ _ (xj.out.mono nL (bo.cj ((Below.refl _ w).alloc AA _))) As)).mono ?_⟩;rintro e w1 ⟨a,cs0,rfl,cE,hsz,Ls,ov,a9⟩)
 have U0:ag w1 w.heap.size #[.slice none 0 0] 28:=(ag.new w _ _).call a9;have fR:Below w.heap.size w w1:=Below.step a9 ((Below.refl _ w).alloc AA _) A_;have aiZ:w.heap.size<w1.heap.size:=U0.lt;have bV:Below w1.heap.size w1 (w1.alloc (.cells #[.slice (some ⟨a,0,none⟩) l.length l.length] 26)):=(Below.refl _ w1).alloc AA _;have hst:GD (w1.heap.size+1) a w.heap.size w1.heap.size l (nx rs) (λ_=>0) (w1.alloc (.cells #[.slice (some ⟨a,0,none⟩) l.length l.length] 26)) _ cs0:=⟨at2 _ _ _ _,at1 _ hsz Ls,cE.alloc _,ag.new _ _ _,U0.alloc _⟩;refine amA (n:=3) (gf:=gf) (lb:=lb) (w0:=w) (nZ:=w.heap.size) (N:=rs.length) (Row:=Mt w rs) rfl za (vA _) (fR.trans (bV.mono As)) Bg
  (λt V=>∃L cs,GD (w1.heap.size+1) a w.heap.size w1.heap.size l (nx rs) (λ_=>t) V L cs)
  (λt V xx h hk=>by
   obtain⟨L,cs,h⟩:=h;exact⟨L,cs,h.N2 hk⟩)
  AA
  (λt x a' V=>∃P A hY pc E J D,ag V P #[.slice A hY pc,.slice E J D] 81/\x=.agg #[.slice A hY pc,.slice E J D]/\Mt w rs t V x/\∃z,a'={tmps:=#[.slice D2 l.length kD,.func (.func gf) #[] lb,undef,undef,.pointer (some ⟨w.heap.size,0,none⟩),.pointer (some ⟨w1.heap.size,0,none⟩),.pointer (some ⟨P,0,none⟩),undef,undef,.slice D2 l.length kD,.slice (some ⟨a,0,none⟩) l.length l.length,.func (.func gf) #[] lb,z,undef,undef,undef,undef,undef,undef,undef,undef,undef,undef,undef,undef,undef,undef,undef,undef,undef,undef,undef,undef],defers:=[]})
  (λt x a' V xx h hk=>by
   obtain⟨P,A,hY,pc,E,J,D,h1,h2,⟨h3,p1,p2,p3,p4,k_,at4,at5⟩,h4⟩:=h;exact⟨P,A,hY,pc,E,J,D,hk.cells _ _ _ _ h1,h2,⟨h3,p1,p2,p3,p4,k_,at4,λ_ _ _ y=>BS hk (at5 _ _ _ y)⟩,h4⟩)
  ?assign ?body ?done
 case assign=>
  rintro l' t x V K- -⟨H,A,pc,E,D,rfl,q1,iO⟩ hK;gi_wp2
  have f7:Below V.heap.size V (V.alloc (.cells #[.slice A rs[t].1.length pc,.slice E rs[t].2.length D] 81)):=(Below.refl _ V).alloc AA _;exact hK _ _ f7 ⟨V.heap.size,_,_,_,_,_,_,ag.new V _ _,rfl,⟨H,A,pc,E,D,rfl,q1,λ_ _ _ y=>bo.cj f7 _ _ _ (iO _ _ _ y)⟩,_,rfl⟩
 case body=>
  rintro l' t x a' V ⟨aFR,cs1,tc⟩ hlt ⟨P,A,hY,pc,E,J,D,N3,rfl,⟨H,aFS,aFT,aFU,aFV,at6,q1,iO⟩,z,rfl⟩ kT;cases at6;have JZ:rs[t].2.length=l.length:=tq.out _ AA;have IF:Hid _:=q1;have U1:Hid _:=JZ;have at7:Hid _:=tc;have u:Hid (a<w1.heap.size):=cE.lt;have U2:Hid (w.heap.size<a):=by unfold Hid;simp at ov;omega
  have at8:Hid _:=iO;obtain⟨c0,dA,eX⟩:=N3.all;clear q1 JZ tc iO vA hst cE bV fR a9 Ls hsz U0 ov;gi_wp2
  gi_loopw [16] (λp wr=>∃(k:Nat)(L:List eJ)(cs:Array Value),k<=l.length/\p=.int .i64 k/\GD (w1.heap.size+1) a w.heap.size w1.heap.size l (nx rs) (λi=>if i<k then t+1 else t) wr L cs/\KeepsOthers V wr/\Below w.heap.size V wr/\hH r9 V wr/\bo w wr)
   (λi _=>l.length-(intOf i).toNat)
  case atStart=>exact⟨0,_,_,Nat.zero_le _,rfl,by simpa using at7.out,KeepsOthers.refl _,Below.refl _ _,.pt ⟨Nat.le_refl _,AA⟩,at8.out⟩
  case round=>
   obtain⟨k,L,cs,hk,rfl,I,vB,xQ,Mu,s8⟩:=hrel;have s:Hid _:=I;have aFW:w1.heap.size<wr.heap.size:=s.out.br.lt;have s5:Hid (KeepsOthers V wr):=vB;have MW:Hid (Below w.heap.size V wr):=xQ;have sS:Hid (hH r9 V wr):=Mu;have J0:Hid (bo w wr):=s8;clear I vB xQ Mu s8;by_cases wZ:k<l.length
   .obtain⟨nn,aFX,at9,-,b9⟩:=id IF.out;cases at9;have aua:k<rs[t].2.length:=by have:=U1.out;omega
    obtain⟨b,off,rfl,d0,d1,d2,d3,-⟩:=b9 k aua;simp at d0;have e0:=J0.out _ _ _ d0;have e1:=J0.out _ _ _ d1;have e2:=J0.out _ _ _ d2;have e3:=J0.out _ _ _ d3;have QU:=fS e0;have oq:(0:Int)<=(k:Int):=As;have lL:(k:Int)<(l.length:Int):=As;have hD:nx rs t k=rs[t].2[k]:=by grind[nx]
    have M1:Hid _:=hD;have mM:Below wr.heap.size wr (wr.alloc (.cells #[.bool rs[t].2[k].eG,.int .i64 rs[t].2[k].num,.int .i64 rs[t].2[k].ck,.string rs[t].2[k].text] 98)):=(Below.refl _ wr).alloc AA _;have xy:Hid _:=mM;have f:Hid _:=s.out.N2 (.pt (.below mM));have N4:Hid _:=ag.new wr #[.bool rs[t].2[k].eG,.int .i64 rs[t].2[k].num,.int .i64 rs[t].2[k].ck,.string rs[t].2[k].text] 98;have wX:(rs[t].2.length:Int)=(l.length:Int):=by have:=U1.out;omega
    clear d0 d1 d2 d3 b9 hD mM;gi_wp2
    have aub:Hid ((wr.alloc (.cells #[.bool rs[t].2[k].eG,.int .i64 rs[t].2[k].num,.int .i64 rs[t].2[k].ck,.string rs[t].2[k].text] 98)).heap.size=wr.heap.size+1):=by unfold Hid;simp
    clear e0 e1 e2 e3;generalize wr.alloc (.cells #[.bool rs[t].2[k].eG,.int .i64 rs[t].2[k].num,.int .i64 rs[t].2[k].ck,.string rs[t].2[k].text] 98)=q at *;obtain⟨bg,vs,J,cv,a1,bC,bX,cC,dL,io,lB⟩:=f.out.at_.xA k wZ;obtain⟨p0,q0,rfl⟩:=m9 (show q.ownsRow _ 2 1 bg (oH l[k].1 (nx rs · k) _).length _ from f.out.f2.at dL);obtain⟨p1,bu,rfl⟩:=m9 (show q.ownsRow _ 9 1 vs (oI l[k].1 (nx rs · k) _).length _ from f.out.f2.at io);obtain⟨p2,bb,rfl⟩:=m9 (show q.ownsRow _ 4 1 J (r_ (nx rs · k) _).length _ from f.out.f2.at lB);have kP:=amP f.out.at_ (w:=q.drew) (B:=w1.heap.size+1) ⟨f.out.f2.own,f.out.f2.apart⟩ (by have:=f.out.br.lt;simp;omega) wZ AA (by simp;rw[M1.out];exact td.out _ (List.getElem_mem H) _ AA) bC bX cC;simp only[Nat.lt_irrefl,if_false]at kP;rw[M1.out]at kP;have HC:Hid _:=kP;obtain⟨f1,kA,f3⟩:=f.out.box.all;have g0:q.cell? ⟨a,k*5,none⟩=_:=(f1 _).trans cv;have g1:q.cell? ⟨a,k*5+1,none⟩=_:=(f1 _).trans a1;have g2:q.cell? ⟨a,k*5+2,none⟩=_:=(f1 _).trans bC;have fh:q.cell? ⟨a,k*5+3,none⟩=_:=(f1 _).trans bX;have j7:q.cell? ⟨a,k*5+4,none⟩=_:=(f1 _).trans cC;obtain⟨auc,aud,aue⟩:=f.out.br.all;obtain⟨me,m5,auf⟩:=ag.all (show ag q wr.heap.size _ _ from N4.out);have sP:∀j,qc L q.drew j->ag j a cs 43/\ag j w1.heap.size #[.slice (some ⟨a,0,none⟩) l.length l.length] 26/\ag j w.heap.size #[.slice none 0 0] 28:=λj hF=>
     ⟨(hF.block a f.out.box.lt (f.out.f2.ng (.inr (by have:=u.out;omega)))).trans f.out.box,(hF.block _ f.out.br.lt (f.out.f2.ng AA)).trans f.out.br,(hF.block _ f.out.bc.lt (f.out.f2.ng AA)).trans f.out.bc⟩
    have HL:Hid _:=sP;have O:Hid _:=f.out.at_.size;clear kP cv a1 bC bX cC dL io lB f1 kA sP;refine amW BA BA (BY (C:=λW=>ag W w1.heap.size #[.slice (some ⟨a,0,none⟩) l.length l.length] 26/\ag W wr.heap.size #[.bool rs[t].2[k].eG,.int .i64 rs[t].2[k].num,.int .i64 rs[t].2[k].ck,.string rs[t].2[k].text] 98) _ _ _ _ ?_);have M:Hid (ag q.drew w1.heap.size #[.slice (some ⟨a,0,none⟩) l.length l.length] 26/\ag q.drew wr.heap.size #[.bool rs[t].2[k].eG,.int .i64 rs[t].2[k].num,.int .i64 rs[t].2[k].ck,.string rs[t].2[k].text] 98):=⟨f.out.br,N4.out⟩;refine mR (i:=1) (v:=.int .i64 k) rfl BA BA BA Kj M.out ⟨Bo,λW _=>Be,AA,λ_=>rfl⟩ ?_;refine mR (i:=3) (v:=.int .i64 k) rfl BA BA BA Kj M.out ⟨Bo,λW _=>Be,AA,λ_=>rfl⟩ ?_;refine mR (i:=0) (v:=.slice (some ⟨a,0,none⟩) l.length l.length) rfl BA BA BA Kj M.out ⟨Bo,λW Q=>by obtain⟨dC,dQ,j4⟩:=Q.1.all;go_simp,AA,λ_=>rfl⟩ ?_;refine mR (i:=2) (v:=.slice (some ⟨a,0,none⟩) l.length l.length) rfl BA BA BA Kj M.out ⟨Bo,λW Q=>by obtain⟨dC,dQ,j4⟩:=Q.1.all;go_simp,AA,λ_=>rfl⟩ ?_;refine mR (i:=6) (v:=eQ rs[t].2[k]) rfl BA BA BA Kj M.out ⟨Bo,λW Q=>by obtain⟨dC,dQ,j4⟩:=Q.2.all;go_simp,AA,λ_=>rfl⟩ ?_;refine h7 (i:=4) BA rfl λK hK=>?_;go_simp
    refine hK _ _ M.out ?_;clear hK K;refine h7 (i:=5) BA rfl λK hK=>?_;go_simp
    refine hK _ _ M.out ?_;clear hK K;refine h7 (i:=7) BA rfl λK hK=>?_;go_simp
    refine⟨PA,(callsIn_wide.2 HC.out).mono ?_⟩;rintro e j ⟨r0,n0,cX,r1,n1,c1,r2,iv,cr,L',rfl,sF,sr,hF⟩;obtain⟨F,U3,Z⟩:=HL.out j hF;have U4:ag j wr.heap.size #[.bool rs[t].2[k].eG,.int .i64 rs[t].2[k].num,.int .i64 rs[t].2[k].ck,.string rs[t].2[k].text] 98:=(hF.block _ Br (MA f.out.f2 λc e z y i hi he=>by
     have m:ag q wr.heap.size _ _:=N4.out;unfold ag at m;rw[m]at y;cases y;rcases f.out.at_.BX i hi with h|h|h<;>rw[h]at he<;>exact absurd he Ae)).trans N4.out
    refine hK _ _ ⟨U3,U4⟩ ?_;clear hK K g0 g1 g2 fh j7 auc aud aue me m5 auf;have i0:j.cell? ⟨a,k*5,none⟩=some (cs[k*5]'GY):=HH;have i1:j.cell? ⟨a,k*5+1,none⟩=some (cs[k*5+1]'GY):=HH;have i2:j.cell? ⟨a,k*5+2,none⟩=some (cs[k*5+2]'GY):=HH;have i3:j.cell? ⟨a,k*5+3,none⟩=some (cs[k*5+3]'GY):=HH;have i4:j.cell? ⟨a,k*5+4,none⟩=some (cs[k*5+4]'GY):=HH;have i5:=F.rules.2;have X:Hid (ag j a cs 43):=F;have U5:Hid (ag j w1.heap.size #[.slice (some ⟨a,0,none⟩) l.length l.length] 26):=U3;have aug:Hid (ag j w.heap.size #[.slice none 0 0] 28):=Z;have U:Hid (ag j wr.heap.size #[.bool rs[t].2[k].eG,.int .i64 rs[t].2[k].num,.int .i64 rs[t].2[k].ck,.string rs[t].2[k].text] 98):=U4;have Cj:Hid _:=sF;have auh:Hid _:=sr;have U6:Hid _:=hF;clear F U3 Z U4 sF sr hF;refine h7 (i:=8) BA rfl λK hK=>?_;go_simp
    refine hK _ _ ⟨U5.out,U.out⟩ ?_;clear hK K;refine h7 (i:=9) BA rfl λK hK=>?_;go_simp
    refine hK _ _ ⟨((((U5.out.iA Dq _).iA Dq _).iA Dq _).iA Dq _).iA Dq _,((((U.out.iA Dq _).iA Dq _).iA Dq _).iA Dq _).iA Dq _⟩ ?_;clear hK K;refine BZ BA ?_ _;clear i0 i1 i2 i3 i4 i5;have hA0:KeepsOthers wr j:=(amz xy.out).trans (by have m:=amQ U6.out ⟨f.out.f2.own,f.out.f2.apart⟩;exact⟨m.size,m.same⟩);have hA1:hH r9 wr j:=(hH.pt (.below xy.out)).trans (by have m:=amR (Y:=r9) U6.out ⟨f.out.f2.own,f.out.f2.apart⟩ λi hi=>tu (f.out.at_.BX i hi);exact⟨m.size,m.cells⟩);have hA2:Below w.heap.size wr j:=(xy.out.mono As).trans (by have m:=amS (n:=w.heap.size) U6.out ⟨f.out.f2.own,f.out.f2.apart⟩ As (by have:=aub.out;simp;omega);exact⟨m.os,m.tape,m.output,m.size,m.block⟩);have aui:Hid _:=hA0;have auj:Hid _:=hA1;have S:Hid _:=hA2;clear hA0 hA1 hA2;gi_wp2
    go_roundw
    case rel=>
     refine⟨_,_,.int .i64 ((k:Int)+1),⟨k+1,As,A_,⟨L',q8 cs k (.int .i64 l[k].1) (.int .i64 l[k].2) (.slice r0 n0 cX) (.slice r1 n1 c1) (.slice r2 iv cr),⟨?_,?_,?_,?_,?_⟩⟩,?_,?_,?_,?_⟩,rfl,rfl,rfl⟩
     .exact Cj.out.kept λg hg=>MB _ _ _ _ _ _ _ _ λe=>hg (e▸Cj.out.ng (.inr (by have:=u.out;omega)))
     .refine auh.out.congr λi hi=>?_;grind[vY]
     .exact Zn X.out _ _ _ _ _ _
     .exact(MB _ _ _ _ _ _ _ _ (by have:=u.out;omega)).trans U5.out
     .exact(MB _ _ _ _ _ _ _ _ (by have:=U2.out;omega)).trans aug.out
     .exact(s5.out.trans aui.out).trans (am0 ..)
     .exact(MW.out.trans S.out).trans (So _ (by have:=U2.out;omega) _ _ _ _ _ _)
     .exact(sS.out.trans auj.out).trans (am1 X.out (by grind[r9]) _ _ _ _ _ _)
     .exact λb o x y=>((S.out.trans (So _ (by have:=U2.out;omega) _ _ _ _ _ _)).cell (p:=⟨b,o,none⟩) (fS y)).trans (J0.out _ _ _ y)
    case measure=>simp[intOf];omega
   .have ou:k=l.length:=by omega
    have wX:(rs[t].2.length:Int)=(l.length:Int):=by have:=U1.out;omega
    gi_wp2
    refine⟨s5.out,MW.out,sS.out,L,cs,s.out.f2,s.out.at_.congr λi hi=>?_,s.out.box,s.out.br,s.out.bc⟩;grind
 case done=>
  rintro V ⟨L,cs,I⟩ hB hK;obtain⟨bu,bb,q3⟩:=I.br.all;obtain⟨kg,o9,qe⟩:=I.bc.all;have s:Hid _:=I;have S0:Hid _:=hK;have b_:Hid _:=hB;clear I hB hK;gi_wp2
  have hne:(w1.alloc (.cells #[.slice (some ⟨a,0,none⟩) l.length l.length] 26)).heap.size≠w.heap.size:=Bg;have U7:=(Below.heap_setCell V ⟨w.heap.size,0,none⟩ (.slice (some ⟨a,0,none⟩) l.length l.length) _ hne).trans S0.out;refine⟨A_,.inl ⟨_,_,rfl,run_takeDeferred U7,?_⟩⟩;have zT:w.heap.size<a:=by simp at ov;omega
  have kk:hH (λe=>e≠28) V ((V.setCell ⟨w.heap.size,0,none⟩ (.slice (some ⟨a,0,none⟩) l.length l.length)).putObj (w1.alloc (.cells #[.slice (some ⟨a,0,none⟩) l.length l.length] 26)).heap.size (.deferred none)):=
   (hH.set s.out.bc AA _ _).trans (.pt (LD U7))
  refine⟨.agg #[.slice (some ⟨a,0,none⟩) l.length l.length],?_,_,rfl,am3 (tE s.out.f2 kk λi hi=>?_) s.out.at_ (kk.cells _ _ _ _ s.out.box Ae) hl ?_,?_⟩
  .have auk:(V.setCell ⟨w.heap.size,0,none⟩ (.slice (some ⟨a,0,none⟩) l.length l.length)).heap[w.heap.size]?=some (.cells #[.slice (some ⟨a,0,none⟩) l.length l.length] 28):=s.out.bc.set _ _;have R:((V.setCell ⟨w.heap.size,0,none⟩ (.slice (some ⟨a,0,none⟩) l.length l.length)).putObj (w1.alloc (.cells #[.slice (some ⟨a,0,none⟩) l.length l.length] 26)).heap.size (.deferred none)).cell? ⟨w.heap.size,0,none⟩=some (.slice (some ⟨a,0,none⟩) l.length l.length):=BS (LD U7) (((ag.rules (T:=28) auk).1 0).trans rfl);simp at R⊢;simp[results,results25,go_sem,R]
  .rcases s.out.at_.BX i hi with h|h|h<;>rw[h]<;>decide
  .intro r i H hi;simp[nx,List.getElem?_eq_getElem H];have QT:=tq.out _ (List.getElem_mem H);rw[List.getElem?_eq_getElem As];exact td.out _ (List.getElem_mem H) _ AA
  .exact((fR.trans (bV.mono As)).trans b_.out).trans ((Below.setCell (Below.refl _ V) (p:=⟨w.heap.size,0,none⟩) AA _).trans (xd _ Bg))
end
end bN
end Go.Proofs.YtncomcmfgmojkaaGreat
