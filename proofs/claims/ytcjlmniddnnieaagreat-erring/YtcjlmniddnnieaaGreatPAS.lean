import Derived.Test.YtcjlmniddnnieaaGreatPAK
import Derived.Test.YtcjlmniddnnieaaGreatPAL
set_option linter.all false
set_option maxRecDepth 100000
set_option maxHeartbeats 16000000
namespace Go.Proofs.YtcjlmniddnnieaaGreat
open Tryz
namespace fF
open Conc ConcM au bn ai e_ g6
variable{w0:aH}
section
section
variable{c:da}
def asd{Stop:Bool->ai.Lo At->aX->Prop}{mine:dY}{f:Nat}{p:uac}(e5:c.most<=250)(n:∀b,c.K b\/mine b->b≠c.st){d:Frame}{cs:fG}(i:d.mode=.returning)(e:(Conc.G d cs).status=.running)(j:∀w' g,ak (am (ar c)) mine w0 w'->c.N<=g.al.taken->bf (am (ar c)) prog Stop false ⟨.idle,false,0,f,.work .free p⟩ g ⟨Conc.G d cs,w',mine⟩)(w:aH)(γ:ai.aN cb)(k:ak (am (ar c)) mine w0 w)(a3:c.N<=γ.al.taken):
 bf (am (ar c)) prog Stop false ⟨.own,true,0,f+8,.work .free p⟩ γ ⟨Conc.G ((baseD 91).at ⟨#[.P c.st 0,.U,.U,.U,.U,.U],[]⟩ [.code (f91.body.getD .skip)]) (d::cs),w,mine⟩:=by
 refine bf.seq (Z:=am (ar c)) (Stop':=λ_(l:ai.Lo At) X=>l=(⟨.idle,false,0,f,.work .free p⟩:ai.Lo At)/\∃w',ak (am (ar c)) mine w0 w'/\X=⟨Conc.G d cs,w',mine⟩) (I:=Gz c) NC aos ?_ ?_ (bz.US (A:=ar c) (bA c) (a:=.work .free p) La e5 n i e (λw' g r=>.stop ⟨Y,w',r,Y⟩) w γ k) Y ⟨λh=>h,a3⟩
 .rintro m l X ⟨rfl,_⟩ h;exact h
 .rintro l γ X ⟨rfl,w',r,rfl⟩ hi;exact j w' γ r hi.2
end
end
open RowKit Conc.Lib ConcR.Gen bz
theorem zo:f91.nn=false:=AS
structure uI(c:da)(S af iW:Nat):Prop where
 size:c.size=.I (S:Int)
 A5:c.A5=.I (af:Int)
 yT:c.yT=.S c.bJ 0 c.N iW
 pg:ib c.rows c.N<=300
 room:(c.N+1)*af+S<4611686018427387904
 most:c.most<=250
 small:c.N<4611686018427387904
section
variable{c:da}{Stop:Bool->ai.Lo At->aX->Prop}{mine:dY}{S af iW:Nat}
variable{a2:Frame}{aD:Act}{aB:fC}{aJ:Nat}{aL:uad}{aG:uaa}{csZ:fG}
def asK(ok:uI c S af iW){T:Nat}(h:T<c.N):(T:Int)*(af:Int)=((T*af:Nat):Int)/\T*af+af+S<4611686018427387904:=by refine⟨AJ,?_⟩;have b:(T+1)*af<=(c.N+1)*af:=vcx _ AP;have a:=ok.room;grind
def asL(ok:uI c S af iW){T:Nat}(h:T<c.N):∃F a E:Nat,(T:Int)*(af:Int)=(F:Int)/\IntKind.wrap .i64 (F:Int)=(F:Int)/\IntKind.wrap .i64 ((F:Int)+(af:Int))=(a:Int)/\(if S<a then(S:Int)else(a:Int))=(E:Int)/\rx (F=T*af/\E=min (T*af+af) S):=by
 obtain⟨b,d⟩:=asK ok h;refine⟨T*af,T*af+af,min (T*af+af) S,b,?_,?_,?_,Y,Y⟩
 .rw[IntKind.wrap_i64];omega
 .rw[IntKind.wrap_i64];omega
 grind
def asM(ok:uI c S af iW){T:Nat}(h:T<c.N):IntKind.wrap .i64 ((T:Int)+1)=((T+1:Nat):Int):=by have:=ok.small;rw[IntKind.wrap_i64];omega
def U6(S af T:Nat):Value:=.agg #[.I (T:Int),.I ((T*af:Nat):Int),.I ((min (T*af+af) S:Nat):Int)]
def U7(aD:Act)(aB:fC)(aJ:Nat)(v:Value):Act:=aD.put ((aB[aJ]?).bind (·.dst)) v
def asN(ok:uI c S af iW){f:Nat}{p:uac}(hS:∀m l g w M M',(∀b,M b->M' b)->Stop m l ⟨g,w,M⟩->Stop m l ⟨g,w,M'⟩)(a3:∀w' aj,ak (am (ar c)) mine w0 w'->c.N<=aj.al.taken->bf (am (ar c)) prog Stop false ⟨.idle,false,0,f+1,.work .free p⟩ aj ⟨Conc.G (a2.at (U7 aD aB aJ (.tuple #[.agg #[.I 0,.I 0,.I 0],.F])) (.inRegion aB aL::aG)) csZ,w',mine⟩)(fa:∀w' aj T,ak (am (ar c)) mine w0 w'->T<c.N->bf (am (ar c)) prog Stop false ⟨.idle,false,0,f+c.C,.work (.has T) p⟩ aj ⟨Conc.G (a2.at (U7 aD aB aJ (.tuple #[U6 S af T,.T])) (.inRegion aB aL::aG)) csZ,w',mine⟩)(w:aH)(γ:ai.aN cb)(hk:ah (am (ar c)) mine w0 [] w):
 bf (am (ar c)) prog Stop false ⟨.idle,false,0,f+15,.work .free p⟩ γ ⟨Conc.G ((base 83).at ⟨#[.P c.st 0]++Array.replicate 64 undef,[]⟩ [.code (f83.body.getD .skip)]) (a2.at aD (.inRegion aB (aJ::aL)::aG)::csZ),w,ca mine []⟩:=by
 have hF:=hk;have j7:=(c_ (bA c)).nt;have W:prog.follows .mixedOrders=true:=AS;refine bb (bA c) ?_;simp only[f83,vae];walk_nrm
 repeat w_go ah.on
 refine fZ rfl hF λo j J s n N B y hF=>?_;refine uo AJ j7 rfl hF (vaq (v:=.P n.heap.size 0) (w':=n.alloc (Obj.cells #[Value.I 0,Value.I 0,Value.I 0] 188)) rfl rfl Ag A0) rfl BJ (λr=>?_);clear hF;have hF:=r;clear r y B s j;generalize n.heap.size=b0 at hF⊢;generalize n.alloc (Obj.cells #[Value.I 0,Value.I 0,Value.I 0] 188)=w3 at hF⊢;refine bb (bA c) ?_;walk_nrm
 repeat w_go ah.on
 u_call func90 Kv f90 ah.on hF
 have R:∀b,(ar c).K b\/ca mine [(b0,.cells #[Value.I 0,Value.I 0,Value.I 0] 188)] b->b≠(ar c).st:=λb D e=>hF.eL b D (.inl e);refine vag (λz U=>⟨rfl,λV _=>U4 (f:=f+9) (bA c) (a:=.work .free p) La ok.most R (λP tq Q=>?_) z V (ak.refl _ _ _)⟩);replace hF:=(hF.on U).on Q;clear U Q R;refine bb (bA c) ?_;walk_nrm
 repeat w_go ah.on
 u_defer ah.on hF
 repeat w_go ah.on
 refine vag (λo j=>⟨rfl,λJ s=>?_⟩);replace hF:=hF.on j;clear j s;refine bf.seen (c_ (bA c)) rfl λJ _ lu=>?_;obtain⟨xs,iF,te,jl⟩:=uu lu;obtain⟨d,hd⟩:∃d,hL.of J.al=d:=⟨_,rfl⟩;have OH:d.T<=c.N:=by subst hd;exact jl.aS
 have dA:d.M<=300:=by subst hd;exact vac jl.aaC ok.pg
 clear te jl lu;by_cases hT:d.T=c.N
 .skip
  refine A3 (Z:=am (ar c)) (C:=C1 c mine w0 (d) ⟨.own,true,0,f+9,.work .free p⟩) AJ Ag W MG JO (σ:=m4 c mine w0 (d) ⟨.own,true,0,f+9,.work .free p⟩ [(b0,.cells #[Value.I 0,Value.I 0,Value.I 0] 188)]) (ic:=se prog Stop false _ _ _ _ []) K3 ⟨_,rfl⟩ ?_ _ J ⟨hF,hd⟩;walk_nrm
  refine eN 0 (.P c.st 0) ?_;walk_nrm
  refine eN 1 (.P c.st 0) ?_;walk_nrm
  refine eN 2 (.P c.st 4) ?_;walk_nrm
  refine iY (i:=3) (v:=.I (d.T:Int)) MG rfl AM AM AM (vI rfl rfl rfl 2 rfl (λx I=>by grind[hL.of]) (λw q=>⟨A0,CB⟩)) ⟨_,rfl⟩ ?_;walk_nrm
  refine eN 4 (.P c.st 0) ?_;walk_nrm
  refine eN 5 (.P c.st 0) ?_;walk_nrm
  refine eN 6 (.P c.st 6) ?_;walk_nrm
  refine iY (i:=7) (v:=.S c.bJ 0 c.N iW) MG rfl AM AM AM (vI rfl rfl rfl 4 rfl (λx I=>by subst I;simp[ok.yT]) (λw q=>⟨A0,CB⟩)) ⟨_,rfl⟩ ?_;walk_nrm
  refine eN 8 (.I (c.N:Int)) ?_;walk_nrm
  refine eN 9 (.T) ?_;walk_nrm
  refine eN 10 (.T) ?_;walk_nrm
  refine iY (i:=11) (v:=undef) MG rfl AM AM AM (JP rfl) ⟨_,rfl⟩ ?_;walk_nrm
  refine iY (i:=12) (v:=undef) MG rfl AM AM AM (JP rfl) ⟨_,rfl⟩ ?_;walk_nrm
  refine iY (i:=13) (v:=undef) MG rfl AM AM AM (JP rfl) ⟨_,rfl⟩ ?_;walk_nrm
  refine iY (i:=14) (v:=undef) MG rfl AM AM AM (JP rfl) ⟨_,rfl⟩ ?_;walk_nrm
  refine iY (i:=15) (v:=undef) MG rfl AM AM AM (JP rfl) ⟨_,rfl⟩ ?_;walk_nrm
  refine eN 16 (.T) ?_;walk_nrm
  refine A2 AM ?_ _;rintro o X ⟨r,K⟩;clear hd;have hd:=K;clear K;clear hF;have hF:=r;clear r;simp[m4];have Y:Gz c ⟨.own,true,0,f+9,.work .free p⟩ X:=⟨λh=>h,by have e:=vbp hL.T hd;grind[hL.of]⟩;clear hd dA OH hT;refine bb (bA c) ?_;walk_nrm
  repeat w_go ah.on
  refine fZ rfl hF λo j J s n N B y hF=>?_;replace Y:=NC _ _ _ (NC _ _ _ Y s) B;have u:=hF.cZ (b0,.cells #[.I 0,.I 0,.I 0] 188) AQ;refine C3 AJ rfl (pre:=[]) (post:=[]) hF (vda (w':=n.setRow b0 #[.I 0,.I 0,.I 0]) rfl rfl Ag (qo u ⟨rfl,rfl,rfl⟩ rfl rfl rfl).1) rfl (λe L=>?_) (λr=>?_)
  .have H:=vbo L;rw[(qo u ⟨rfl,rfl,rfl⟩ rfl rfl rfl).2]at H;grind
  clear hF;have hF:=r;clear r u;clear y B s j;refine bb (bA c) ?_;walk_nrm
  repeat w_go ah.on
  u_in ah.on hF
  rw[vca rfl func91 zo rfl];simp only[vdg];refine⟨CP,?_⟩;walk_nrmf f91
  have R:∀b,c.K b\/ca mine [(b0,.cells #[Value.I 0,Value.I 0,Value.I 0] 188)] b->b≠c.st:=λb D e=>hF.eL b D (.inl e);refine vag (λz U=>⟨rfl,λV wB=>asd (f:=f+1) ok.most R rfl rfl (λP tq Q aHe=>?_) z V (ak.refl _ _ _) (NC _ _ _ Y wB).2⟩);replace hF:=(hF.on U).on Q;clear U Q R Y;refine bf.mk rfl (λn N B y=>?_);replace hF:=hF.on (dN.rw y);have u:=hF.cZ (b0,.cells #[.I 0,.I 0,.I 0] 188) AQ;refine s9 AJ rfl (λb D=>hF.eL b (.inr D)) (aaK rfl rfl func83 (OC (t:=.F) u rfl rfl).1 (OC (t:=.F) u rfl rfl).2) rfl (λe L=>?_) ?_
  .have H:=au.ym L;simp at H;rcases H with rfl|rfl|rfl<;>exact⟨rfl,.inr (.inr AQ)⟩
  rw[vcj];exact bf.more hS (a3 n N hF.rw AJ) (λb D=>.inl D)
 .skip
  have O:d.T<c.N:=AP;have hne:((d.T:Int)==(c.N:Int))=false:=AJ;have yF:decide ((300:Int)<(d.M:Int))=false:=AJ;obtain⟨F,KI,E,hmul,asO,asP,asQ,asR⟩:=asL ok O;refine A3 (Z:=am (ar c)) (C:=C1 c mine w0 (d) ⟨.own,true,0,f+9,.work .free p⟩) AJ Ag W MG JO (σ:=m4 c mine w0 (d) ⟨.own,true,0,f+9,.work .free p⟩ [(b0,.cells #[Value.I 0,Value.I 0,Value.I 0] 188)]) (ic:=se prog Stop false _ _ _ _ []) K3 ⟨_,rfl⟩ ?_ _ J ⟨hF,hd⟩;walk_nrm
  refine eN 0 (.P c.st 0) ?_;walk_nrm
  refine eN 1 (.P c.st 0) ?_;walk_nrm
  refine eN 2 (.P c.st 4) ?_;walk_nrm
  refine iY (i:=3) (v:=.I (d.T:Int)) MG rfl AM AM AM (vI rfl rfl rfl 2 rfl (λx I=>by grind[hL.of]) (λw q=>⟨A0,CB⟩)) ⟨_,rfl⟩ ?_;walk_nrm
  refine eN 4 (.P c.st 0) ?_;walk_nrm
  refine eN 5 (.P c.st 0) ?_;walk_nrm
  refine eN 6 (.P c.st 6) ?_;walk_nrm
  refine iY (i:=7) (v:=.S c.bJ 0 c.N iW) MG rfl AM AM AM (vI rfl rfl rfl 4 rfl (λx I=>by subst I;simp[ok.yT]) (λw q=>⟨A0,CB⟩)) ⟨_,rfl⟩ ?_;walk_nrm
  refine eN 8 (.I (c.N:Int)) ?_;walk_nrm
  refine eN 9 (.F) ?_;walk_nrm
  refine eN 10 (.F) ?_;walk_nrm
  refine eN 11 (.P c.st 0) ?_;walk_nrm
  refine eN 12 (.P c.st 0) ?_;walk_nrm
  refine eN 13 (.P c.st 5) ?_;walk_nrm
  refine iY (i:=14) (v:=.I (d.M:Int)) MG rfl AM AM AM (vI rfl rfl rfl 3 rfl (λx I=>by grind[hL.of]) (λw q=>⟨A0,CB⟩)) ⟨_,rfl⟩ ?_;walk_nrm
  refine eN 15 (.F) ?_;walk_nrm
  refine eN 16 (.F) ?_;walk_nrm
  refine A2 AM ?_ _;rintro o X ⟨r,K⟩;clear hd;have hd:=K;clear K;clear hF;have hF:=r;clear r;simp[m4];clear hT OH dA hne yF;refine bb (bA c) ?_;walk_nrm
  repeat w_go ah.on
  refine vag (λo j=>⟨rfl,λJ s=>?_⟩);replace hF:=hF.on j;replace hd:=(uv (c:=c) (l:=⟨.own,true,0,f+9,.work .free p⟩) rfl s).trans hd;clear j s;refine A3 (Z:=am (ar c)) (C:=C1 c mine w0 (d) ⟨.own,true,0,f+9,.work .free p⟩) AJ Ag W MG JO (σ:=m4 c mine w0 (d) ⟨.own,true,0,f+9,.work .free p⟩ [(b0,.cells #[Value.I 0,Value.I 0,Value.I 0] 188)]) (ic:=se prog Stop false _ _ _ _ []) K3 ⟨_,rfl⟩ ?_ _ J ⟨hF,hd⟩;walk_nrm
  refine eN 0 (.P c.st 0) ?_;walk_nrm
  refine eN 1 (.P c.st 0) ?_;walk_nrm
  refine eN 2 (.P c.st 4) ?_;walk_nrm
  refine iY (i:=3) (v:=.I (d.T:Int)) MG rfl AM AM AM (vI rfl rfl rfl 2 rfl (λx I=>by grind[hL.of]) (λw q=>⟨A0,CB⟩)) ⟨_,rfl⟩ ?_;walk_nrm
  refine eN 4 (.P c.st 0) ?_;walk_nrm
  refine eN 5 (.P c.st 0) ?_;walk_nrm
  refine eN 6 (.P c.st 3) ?_;walk_nrm
  refine iY (i:=7) (v:=.I (af:Int)) MG rfl AM AM AM (vI rfl rfl rfl 1 rfl (λx I=>by subst I;simp[ok.A5]) (λw q=>⟨A0,CB⟩)) ⟨_,rfl⟩ ?_;walk_nrm
  refine eN 8 (.I (F:Int)) ?_;walk_nrm
  refine eN 9 (.I (F:Int)) ?_;walk_nrm
  refine A2 AM ?_ _;rintro o X ⟨r,K⟩;clear hd;have hd:=K;clear K;clear hF;have hF:=r;clear r;simp[m4];refine bb (bA c) ?_;walk_nrm
  repeat w_go ah.on
  refine vag (λo j=>⟨rfl,λJ s=>?_⟩);replace hF:=hF.on j;replace hd:=(uv (c:=c) (l:=⟨.own,true,0,f+9,.work .free p⟩) rfl s).trans hd;clear j s;refine A3 (Z:=am (ar c)) (C:=C1 c mine w0 (d) ⟨.own,true,0,f+9,.work .free p⟩) AJ Ag W MG JO (σ:=m4 c mine w0 (d) ⟨.own,true,0,f+9,.work .free p⟩ [(b0,.cells #[Value.I 0,Value.I 0,Value.I 0] 188)]) (ic:=se prog Stop false _ _ _ _ []) K3 ⟨_,rfl⟩ ?_ _ J ⟨hF,hd⟩;walk_nrm
  refine eN 0 (.P c.st 0) ?_;walk_nrm
  refine eN 1 (.P c.st 0) ?_;walk_nrm
  refine eN 2 (.P c.st 4) ?_;walk_nrm
  refine iY (i:=3) (v:=.I (d.T:Int)) MG rfl AM AM AM (vI rfl rfl rfl 2 rfl (λx I=>by grind[hL.of]) (λw q=>⟨A0,CB⟩)) ⟨_,rfl⟩ ?_;walk_nrm
  refine eN 4 (.I (F:Int)) ?_;walk_nrm
  refine eN 5 (.I (F:Int)) ?_;walk_nrm
  refine eN 6 (.P c.st 0) ?_;walk_nrm
  refine eN 7 (.P c.st 0) ?_;walk_nrm
  refine eN 8 (.P c.st 3) ?_;walk_nrm
  refine iY (i:=9) (v:=.I (af:Int)) MG rfl AM AM AM (vI rfl rfl rfl 1 rfl (λx I=>by subst I;simp[ok.A5]) (λw q=>⟨A0,CB⟩)) ⟨_,rfl⟩ ?_;walk_nrm
  refine eN 10 (.I (KI:Int)) ?_;walk_nrm
  refine eN 11 (.P c.st 0) ?_;walk_nrm
  refine eN 12 (.P c.st 0) ?_;walk_nrm
  refine eN 13 (.P c.st 2) ?_;walk_nrm
  refine iY (i:=14) (v:=.I (S:Int)) MG rfl AM AM AM (vI rfl rfl rfl 0 rfl (λx I=>by subst I;simp[ok.size]) (λw q=>⟨A0,CB⟩)) ⟨_,rfl⟩ ?_;walk_nrm
  refine eN 15 (.I (E:Int)) ?_;walk_nrm
  refine iY (i:=16) (v:=.agg #[.I (d.T:Int),.I (F:Int),.I (E:Int)]) MG rfl AM AM AM (A8 rfl (λ_=>(Wv rfl rfl rfl rfl).1) (λw=>by unfold listed;rw[(Wv rfl rfl rfl rfl).2];rfl)) ⟨_,rfl⟩ ?_;walk_nrm
  refine rf (i:=17) AM (yX rfl rfl (aov (ob:=Obj.cells #[Value.I 0,Value.I 0,Value.I 0] 188) rfl (λw=>⟨A0,BJ⟩) (λcK=>⟨⟨_,rfl⟩,?_⟩)));walk_nrm
  refine rf (i:=18) AM (yX rfl rfl (aow rfl rfl (pre:=[]) (new:=#[.I (d.T:Int),.I (F:Int),.I (E:Int)]) (λw u=>⟨(qo u ⟨rfl,rfl,rfl⟩ rfl rfl rfl).1,λe L=>?_⟩) ⟨⟨_,rfl⟩,?_⟩))
  .have H:=vbo L;rw[(qo u ⟨rfl,rfl,rfl⟩ rfl rfl rfl).2]at H;grind
  walk_nrm
  refine A2 AM ?_ _;rintro o X ⟨r,K⟩;clear hF hd;have hF:=r;have hd:=K;clear r K;simp[m4]at hF⊢;refine bb (bA c) ?_;walk_nrm
  repeat w_go ah.on
  refine fZ rfl hF λo j J s n N B y hF=>?_;replace hd:=(uv (c:=c) (l:=⟨.own,true,0,f+9,.work .free p⟩) rfl B).trans ((uv (c:=c) (l:=⟨.own,true,0,f+9,.work .free p⟩) rfl s).trans hd);clear s B j;have q:n.cell? (.a c.st 4)=some (.I (d.T:Int)):=by rw[A9 y.mt.1 2];subst hd;simp[hL.of]
  refine JQ (k:=2) rfl rfl ((vaq (v:=.I (d.T:Int)) rfl rfl Ag A0).trans (vbp (λes=>GStep.go _ _ es) CB)) rfl ?_;clear q y;have asS:IntKind.wrap .i64 ((d.T:Int)+1)=((d.T+1:Nat):Int):=asM ok O;refine bb (bA c) ?_;walk_nrm
  repeat w_go ah.on
  refine fZ rfl hF λo j J s n N B y hF=>?_;replace hd:=(uv (c:=c) (l:=⟨.own,true,0,f+9,.work .free p⟩) rfl B).trans ((uv (c:=c) (l:=⟨.own,true,0,f+9,.work .free p⟩) rfl s).trans hd);clear s B j;have q:n.cell? (.a c.st 4)=some (.I (d.T:Int)):=by rw[A9 y.mt.1 2];subst hd;simp[hL.of]
  have nD:n.frozen? ⟨c.st,4,none⟩=false:=by simp[World.frozen?,y.mt.1,gU]
  refine aon (f1:=f+c.C+8) (v:=.I ((d.T+1:Nat):Int)) y ((vda rfl rfl Ag A0).trans (vbp (λes=>GStep.go _ _ es) (by simp[listed,go_sem,q,nD];rfl))) rfl (by subst hd;rfl) rfl rfl rfl (by subst hd;exact O) AJ ?_;have e1:N.al.taken=d.T:=by subst hd;rfl
  have r:=hF.shared (k:=c.st) (off:=4) (sp:=none) LF (.I ((d.T+1:Nat):Int));clear hF;have hF:=r;clear r q nD y;rw[e1];clear hd e1 asO asP asS hmul asQ;dsimp only;generalize n.setCell ⟨c.st,4,none⟩ (.I ((d.T+1:Nat):Int))=w4 at hF⊢;refine bb (bA c) ?_;walk_nrm
  repeat w_go ah.on
  refine fZ rfl hF λo j J s n N B y hF=>?_;have u:=hF.cZ (cK,.cells #[.I (d.T:Int),.I (F:Int),.I (E:Int)] 188) AQ;refine s9 AJ rfl (λb D=>hF.eL b (.inr D)) (vaq rfl rfl Ag (Bs u rfl rfl).1) rfl (λe L=>?_) ?_
  .have H:=vbo L;rw[(Bs u rfl rfl).2]at H;simp at H;rcases H with rfl|rfl|rfl<;>exact⟨rfl,.inr (.inr AQ)⟩
  clear u y B s j;refine bb (bA c) ?_;walk_nrm
  repeat w_go ah.on
  refine fZ rfl hF λo j J s n N B y hF=>?_;have u:=hF.cZ (b0,.cells #[Value.I 0,Value.I 0,Value.I 0] 188) AQ;refine C3 AJ rfl (pre:=[(cK,.cells #[.I (d.T:Int),.I (F:Int),.I (E:Int)] 188)]) (post:=[]) hF (vda (w':=n.setRow b0 #[.I (d.T:Int),.I (F:Int),.I (E:Int)]) rfl rfl Ag (qo u ⟨rfl,rfl,rfl⟩ rfl rfl rfl).1) rfl (λe L=>?_) (λr=>?_)
  .have H:=vbo L;rw[(qo u ⟨rfl,rfl,rfl⟩ rfl rfl rfl).2]at H;grind
  clear hF;have hF:=r;clear r u y B s j;simp only[List.cons_append,vdr]at hF⊢;refine bb (bA c) ?_;walk_nrm
  repeat w_go ah.on
  u_in ah.on hF
  rw[vca rfl func91 zo rfl];simp only[vdg];refine⟨CP,?_⟩;walk_nrmf f91
  have R:∀b,(ar c).K b\/ca mine [(cK,.cells #[.I (d.T:Int),.I (F:Int),.I (E:Int)] 188),(b0,.cells #[.I (d.T:Int),.I (F:Int),.I (E:Int)] 188)] b->b≠(ar c).st:=λb D e=>hF.eL b D (.inl e);refine vag (λz U=>⟨rfl,λV wB=>US (A:=ar c) (f:=f+c.C) (bA c) (a:=.work (.has d.T) p) La ok.most R rfl rfl (λP tq Q=>?_) z V (ak.refl _ _ _)⟩);replace hF:=(hF.on U).on Q;clear U Q R;refine bf.mk rfl (λn N B y=>?_);replace hF:=hF.on (dN.rw y);have u:=hF.cZ (b0,.cells #[.I (d.T:Int),.I (F:Int),.I (E:Int)] 188) AQ;refine s9 AJ rfl (λb D=>hF.eL b (.inr D)) (aaK rfl rfl func83 (OC (t:=.T) u rfl rfl).1 (OC (t:=.T) u rfl rfl).2) rfl (λe L=>?_) ?_
  .have H:=au.ym L;simp at H;rcases H with rfl|rfl|rfl<;>exact⟨rfl,.inr (.inr AQ)⟩
  rw[vcj];have fQ:U6 S af d.T=.agg #[.I (d.T:Int),.I (F:Int),.I (E:Int)]:=by obtain⟨rfl,rfl⟩:=rx.out asR;rfl
  have iB:=fa n N d.T hF.rw O;rw[fQ]at iB;exact bf.more hS iB (λb D=>.inl D)
end
section
section
variable{c:da}{Stop:Bool->ai.Lo At->aX->Prop}{mine:dY}{S af iW:Nat}
variable{a2:Frame}{aD:Act}{aB:fC}{aJ:Nat}{aL:uad}{aG:uaa}{csZ:fG}
def atv(ok:uI c S af iW){f T aA:Nat}(im:c.bad T=false){F E:Int}{s:uam}{q:uac}(hS:∀m l g w M M',(∀b,M b->M' b)->Stop m l ⟨g,w,M⟩->Stop m l ⟨g,w,M'⟩)(fa:∀w' aj,ak (am (ar c)) mine w0 w'->bf (am (ar c)) prog Stop false ⟨.idle,false,0,f,.work .free ((T,.slice s (c.rows T) aA)::q)⟩ aj ⟨Conc.G (a2.at (U7 aD aB aJ (.tuple #[])) (.inRegion aB aL::aG)) csZ,w',mine⟩)(w:aH)(γ:ai.aN cb)(hk:ah (am (ar c)) mine w0 [] w):
 bf (am (ar c)) prog Stop false ⟨.idle,false,0,f+16,.work (.has T) q⟩ γ ⟨Conc.G ((base 111).at ⟨#[.P c.st 0,.agg #[.I (T:Int),.I F,.I E],.slice s (c.rows T) aA]++Array.replicate 27 undef,[]⟩ [.code (f111.body.getD .skip)]) (a2.at aD (.inRegion aB (aJ::aL)::aG)::csZ),w,ca mine []⟩:=by
 have hF:=hk;have j7:=(c_ (bA c)).nt;have tQ:prog.follows .mixedOrders=true:=AS;refine bf.seen (c_ (bA c)) rfl λγ _ U=>?_;have OH:=aaT U rfl;clear U;refine bb (bA c) ?_;simp only[f111,vae];walk_nrm
 repeat w_go ah.on
 refine fZ rfl hF λo n y B j X I z hF=>?_;refine uo AJ j7 rfl hF (vaq (v:=.P j.heap.size 0) (w':=j.alloc (.cells #[.I (T:Int),.I F,.I E] 188)) rfl rfl Ag A0) rfl BJ (λH=>?_);clear hF;have hF:=H;clear H z I B n;generalize j.heap.size=b0 at hF⊢;generalize j.alloc (.cells #[.I (T:Int),.I F,.I E] 188)=w3 at hF⊢;refine bb (bA c) ?_;walk_nrm
 repeat w_go ah.on
 u_call func90 Kv f90 ah.on hF
 have N:∀b,(ar c).K b\/ca mine [(b0,.cells #[.I (T:Int),.I F,.I E] 188)] b->b≠(ar c).st:=λb O e=>hF.eL b O (.inl e);refine vag (λr P=>⟨rfl,λR _=>U4 (f:=f+10) (bA c) (a:=.work (.has T) q) La ok.most N (λK Y L=>?_) r R (ak.refl _ _ _)⟩);replace hF:=(hF.on P).on L;clear P L N;refine bb (bA c) ?_;walk_nrm
 repeat w_go ah.on
 u_defer ah.on hF
 repeat w_go ah.on
 refine vag (λo n=>⟨rfl,λy B=>?_⟩);replace hF:=hF.on n;clear n B;refine A3 (Z:=am (ar c)) (C:=JS c mine w0 (b0,.cells #[.I (T:Int),.I F,.I E] 188)) AJ Ag tQ yZ aoy (σ:=m4 c mine w0 (hL.of y.al) ⟨.own,true,0,f+10,.work (.has T) q⟩ [(b0,.cells #[.I (T:Int),.I F,.I E] 188)]) (ic:=se prog Stop false _ _ _ _ []) K3 ⟨_,_,_,rfl,rfl,rfl,AQ,rfl⟩ ?_ _ y ⟨hF,rfl⟩;walk_nrm
 refine eN 0 (.P c.st 0) ?_ yZ ⟨_,_,_,rfl,rfl,rfl,AQ,rfl⟩;walk_nrm
 refine eN 1 (.P c.st 0) ?_ yZ ⟨_,_,_,rfl,rfl,rfl,AQ,rfl⟩;walk_nrm
 refine eN 2 (.P c.st 6) ?_ yZ ⟨_,_,_,rfl,rfl,rfl,AQ,rfl⟩;walk_nrm
 refine iY (i:=3) (v:=.S c.bJ 0 c.N iW) yZ rfl AM AM AM (aoz 4 rfl (λx=>by simp[ok.yT]) (λw t=>⟨A0,by simp[listed,go_sem,t];rfl⟩)) ⟨_,_,_,rfl,rfl,rfl,AQ,rfl⟩ ?_;walk_nrm
 refine eN 4 (.P b0 0) ?_ yZ ⟨_,_,_,rfl,rfl,rfl,AQ,rfl⟩;walk_nrm
 refine iY (i:=5) (v:=.I (T:Int)) yZ rfl AM AM AM (aoA rfl (λw hB=>?_)) ⟨_,_,_,rfl,rfl,rfl,AQ,rfl⟩ ?_
 .have t:w.cell? (.a b0 0)=some (.I (T:Int)):=by simp[World.cell?,hB]
  refine⟨A0,λe he=>⟨0,?_⟩⟩;have W:=vbo he;simp[go_sem,t]at W;exact W
 walk_nrm
 refine eN 6 (.slice s (c.rows T) aA) ?_ yZ ⟨_,_,_,rfl,rfl,rfl,AQ,rfl⟩;walk_nrm
 refine iY (i:=7) (v:=.P c.bJ T) yZ rfl AM AM AM (A8 rfl (λ_=>A0) (λ_=>by simp[listed,go_sem,OH];rfl)) ⟨_,_,_,rfl,rfl,rfl,AQ,rfl⟩ ?_;walk_nrm
 refine rf (i:=8) AM (yX rfl rfl (aoC (f1:=f+9) (v:=.slice s (c.rows T) aA) rfl rfl rfl AJ (λw D V hp=>?_) ⟨⟨_,_,_,rfl,rfl,rfl,AQ,rfl⟩,?_⟩))
 .have t:w.cell? (.a c.bJ T)=some D[T]:=by simp[World.cell?,V,hp]
  have Q:w.frozen? ⟨c.bJ,T,none⟩=false:=by simp[World.frozen?,V]
  exact⟨A0,by simp[listed,go_sem];rw[Go.events_store _ _ _ _ _ _ rfl,t];simp[Q];rfl⟩
 walk_nrm
 refine A2 AM ?_ _;rintro o ep ⟨H,hd⟩;clear hF;have hF:=H;clear H;generalize(⟨(hL.of y.al).T,(hL.of y.al).M,(hL.of y.al).D.set T (.slice s (c.rows T) aA),(hL.of y.al).L⟩:hL)=d at hd;simp[m4];refine bb (bA c) ?_;walk_nrm
 repeat w_go ah.on
 refine fZ rfl hF λo n y B j X I z hF=>?_;replace hd:=(uv (c:=c) (l:=⟨.own,true,0,f+9,.work (.half T (.slice s (c.rows T) aA)) q⟩) rfl I).trans ((uv (c:=c) (l:=⟨.own,true,0,f+9,.work (.half T (.slice s (c.rows T) aA)) q⟩) rfl B).trans hd);clear B I n;have t:j.cell? (.a c.st 5)=some (.I (d.M:Int)):=by rw[A9 z.mt.1 3];subst hd;simp[hL.of]
 obtain⟨J,OD,KR⟩:∃J:Nat,IntKind.wrap .i64 ((d.M:Int)+(c.rows T:Int))=(J:Int)/\rx (J=d.M+c.rows T):=by have h1:=aoB z.sees im rfl;have h2:=ok.pg;refine⟨d.M+c.rows T,?_,rfl⟩;subst hd;simp only[hL.of];rw[IntKind.wrap_i64];omega
 refine JQ (k:=3) rfl rfl ((vaq (v:=.I (d.M:Int)) rfl rfl Ag A0).trans (vbp (λes=>GStep.go _ _ es) (by simp[listed,go_sem,t];rfl))) rfl ?_;clear t z;refine bb (bA c) ?_;walk_nrm
 repeat w_go ah.on
 refine fZ rfl hF λo n y B j X I z hF=>?_;replace hd:=(uv (c:=c) (l:=⟨.own,true,0,f+9,.work (.half T (.slice s (c.rows T) aA)) q⟩) rfl I).trans ((uv (c:=c) (l:=⟨.own,true,0,f+9,.work (.half T (.slice s (c.rows T) aA)) q⟩) rfl B).trans hd);clear B I n;have t:j.cell? (.a c.st 5)=some (.I (d.M:Int)):=by rw[A9 z.mt.1 3];subst hd;simp[hL.of]
 have Q:j.frozen? ⟨c.st,5,none⟩=false:=by simp[World.frozen?,z.mt.1,gU]
 refine aoo (f1:=f+8) (p:=T) (v:=.slice s (c.rows T) aA) (q:=q) (u:=.I (J:Int)) z ((vda rfl rfl Ag A0).trans (vbp (λes=>GStep.go _ _ es) (by simp[listed,go_sem,t,Q];rfl))) rfl im (by rw[rx.out KR];subst hd;rfl) rfl rfl rfl AJ ?_;have H:=hF.shared (k:=c.st) (off:=5) (sp:=none) LF (.I (J:Int));clear hF;have hF:=H;clear H t Q z hd OD;dsimp only;generalize j.setCell ⟨c.st,5,none⟩ (.I (J:Int))=w4 at hF⊢;refine bb (bA c) ?_;walk_nrm
 repeat w_go ah.on
 u_in ah.on hF
 rw[vca rfl func91 zo rfl];simp only[vdg];refine⟨CP,?_⟩;walk_nrmf f91
 have N:∀b,(ar c).K b\/ca mine [(b0,.cells #[.I (T:Int),.I F,.I E] 188)] b->b≠(ar c).st:=λb O e=>hF.eL b O (.inl e);refine vag (λr P=>⟨rfl,λR wB=>US (A:=ar c) (f:=f) (bA c) (a:=.work .free ((T,.slice s (c.rows T) aA)::q)) La ok.most N rfl rfl (λK Y L=>?_) r R (ak.refl _ _ _)⟩);replace hF:=(hF.on P).on L;clear P L N;refine bb (bA c) ?_;u_in ah.on hF
 refine vdq rfl rfl func111 rfl ⟨CP,?_⟩;refine vag (λo n=>⟨rfl,λy B=>?_⟩);replace hF:=hF.on n;exact bf.more hS (fa o y hF.rw) (λb O=>.inl O)
end
end
end fF
namespace hU
open Conc RowKit Conc.Lib ConcR.Gen ConcM au bn ai e_ g6 fF
theorem atw:f125.nn=false:=AS
section
variable{c:da}{Stop:Bool->ai.Lo At->aX->Prop}{S af iW:Nat}
def z8(L:ubc)(γ:ai.aN cb):Prop:=γ.al.least=L
def pu{l:ai.Lo At}(d:l.mx=.own){L:ubc}{γ a:ai.aN cb}(h:z8 L γ)(b:(am (ar c)).dM l γ a):z8 L a:=by have:=vbp hL.L (uv d b);exact Eq.trans this h
def Vn{q:uac}{T F:Nat}{L:ubc}{γ:ai.aN cb}(f:c.bad T=true)(b:c.rows T=0)(j:z8 L γ)(hq:∃p,L=some p/\p<=T):
 ∀a,(am (ar c)).dM (⟨.own,true,0,F,.work (.has T) q⟩:ai.Lo At) γ a->∀(xs:List At)(i:Nat),xs[i]?=some (.work (.has T) q)->(ar c).um a.al xs->(ar c).um a.al (xs.set i (.work .free ((T,undef)::q))):=by
 intro a e xs i hi h;have g:=pu Y j e;obtain⟨p,rfl,d⟩:=hq;exact cV.fail h f b ⟨p,g,d⟩ hi
def atx{bY:aH}(ok:uI c S af iW)(K:GA c bY prog Stop 125){f T:Nat}{q:uac}(O:T<c.N)(s:c.bad T=true){M:dY}{w0:aH}(i7:ah (am (ar c)) M w0 [] w0)(hI:n5 c bY w0):
 iG prog Stop false 110 #[.P c.st 0,c.place T] (dZ c ⟨.idle,false,0,f+16,.work (.has T) q⟩ M w0)
  (λu bu=>u=.tuple #[]/\∃M' w1,gp (am (ar c)) M w0 M' w1/\bu=dZ c ⟨.idle,false,0,f,.work .free ((T,undef)::q)⟩ M' w1):=by
 intro a2 aD aB aJ aL aG csZ hK w γ hS;have hF:ah (am (ar c)) M w0 [] w:=hS;clear hS;have j7:=(c_ (bA c)).nt;obtain⟨I,N,Q,aS,OT⟩:=K.place T O s;rw[OT,vdc _ func110 rfl];unfold dZ;rw[<-mT (M:=M)];refine bb (bA c) ?_;walk_nrmf f110
 repeat w_go ah.on
 u_call func90 bz.Kv f90 ah.on hF
 have y:∀b,(ar c).K b\/ca M [] b->b≠(ar c).st:=λb s e=>hF.eL b s (.inl e);refine vag (λo E=>⟨rfl,λJ _=>bz.U4 (f:=f+10) (bA c) (a:=.work (.has T) q) La ok.most y (λC tq D=>?_) o J (ak.refl _ _ _)⟩);replace hF:=(hF.on E).on D;clear E D y;refine bb (bA c) ?_;walk_nrm
 repeat w_go ah.on
 u_defer ah.on hF
 repeat w_go ah.on
 refine fZ rfl hF λi d B r g n t m hF=>?_;obtain⟨L,j⟩:∃L,z8 L n:=⟨_,rfl⟩;obtain⟨xs,iF,te,jl⟩:=uu m.sees;have Z:=jl.came.2.1;clear te jl;rw[show n.al.least=L from j]at Z;clear r t d;cases L with
 |none=>
  have x:g.cell? (.a c.st 7)=some (.N):=II;refine JQ (k:=5) rfl rfl ((vaq (v:=.N) rfl rfl Ag A0).trans (vbp (λes=>GStep.go _ _ es) I8)) rfl ?_;clear x m;refine bb (bA c) ?_;walk_nrm
  repeat w_go ah.on
  refine fZ rfl hF λi d B r g n t m hF=>?_;replace j:=pu (c:=c) (l:=⟨.own,true,0,f+10,.work (.has T) q⟩) rfl (pu (c:=c) (l:=⟨.own,true,0,f+10,.work (.has T) q⟩) rfl j r) t;refine Gy AJ (vaq (v:=.T) rfl rfl Ag CE) rfl BK ?_;clear m t r d;refine bb (bA c) ?_;walk_nrm
  repeat w_go ah.on
  refine fZ rfl hF λi d B r g n t m hF=>?_;replace j:=pu (c:=c) (l:=⟨.own,true,0,f+10,.work (.has T) q⟩) rfl (pu (c:=c) (l:=⟨.own,true,0,f+10,.work (.has T) q⟩) rfl j r) t;have x:g.cell? (.a c.st 7)=some (.N):=II;have U:g.frozen? ⟨c.st,7,none⟩=false:=by simp[World.frozen?,m.mt.1,gU]
  refine aaM (f1:=f+9) (p:=T) (q:=q) (u:=.S I N Q aS) m ((vda rfl rfl Ag A0).trans (vbp (λes=>GStep.go _ _ es) G4)) rfl OT.symm s (λp V=>by rw[show n.al.least=none from j]at V;cases V) rfl rfl rfl AJ ?_;have Y:=hF.shared (k:=c.st) (off:=7) (sp:=none) LF (.S I N Q aS);clear hF;have hF:=Y;replace j:z8 (some T) ({n with al:={n.al with least:=some T},a6:=n.a6-1}:ai.aN cb):=rfl;clear Y x U m t r d;dsimp only;generalize g.setCell ⟨c.st,7,none⟩ (.S I N Q aS)=w4 at hF⊢;generalize({n with al:={n.al with least:=some T},a6:=n.a6-1}:ai.aN cb)=aty at j⊢;refine bb (bA c) ?_;walk_nrm
  repeat w_go ah.on
  u_in ah.on hF
  rw[vca rfl func91 zo rfl];simp only[vdg];refine⟨CP,?_⟩;walk_nrmf f91
  have y:∀b,(ar c).K b\/ca M [] b->b≠(ar c).st:=λb s e=>hF.eL b s (.inl e);refine vag (λo E=>⟨rfl,λJ R=>bz.OA (A:=ar c) (f:=f) (F:=f+9) (bA c) AP (a':=.work (.has T) q) (a:=.work .free ((T,undef)::q)) La rfl ok.most y rfl rfl (λC tq D=>?_) o J (ak.refl _ _ _) (Vn s (K.rows T O s) (pu (c:=c) (l:=⟨.own,true,0,f+9,.work (.has T) q⟩) rfl j R) ⟨T,rfl,vad _⟩)⟩);replace hF:=(hF.on E).on D;clear E D y;refine bb (bA c) ?_;u_in ah.on hF
  refine vdq rfl rfl func110 rfl ⟨CP,?_⟩;refine vag (λi d=>⟨rfl,λB r=>?_⟩);replace hF:=hF.on d;rw[mT];exact hK (.tuple #[]) (dZ c ⟨.idle,false,0,f,.work .free ((T,undef)::q)⟩ M w0) ⟨rfl,M,w0,⟨λ_ h=>h,ak.refl _ _ _,i7⟩,rfl⟩ i B hF
 |some H=>
  obtain⟨gT,Bh⟩:=Z H rfl;obtain⟨gn,iv,c8,ey,fR⟩:=K.place H Bh gT;have oq:=K.cmp T H O s Bh gT;rw[fR,OT]at oq;have bX:∀γ,z8 (some H) γ->∀w:aH,w.heap[c.st]?=some (gU (ar c) γ.mu γ.al)->w.cell? (.a c.st 7)=some (.S gn iv c8 ey):=λγ h w y=>by rw[A9 y 5];simp[show γ.al.least=some H from h,fR]
  have x:=bX _ j _ m.mt.1;refine JQ (k:=5) rfl rfl ((vaq (v:=.S gn iv c8 ey) rfl rfl Ag A0).trans (vbp (λes=>GStep.go _ _ es) I8)) rfl ?_;clear x m;refine bb (bA c) ?_;walk_nrm
  repeat w_go ah.on
  refine fZ rfl hF λi d B r g n t m hF=>?_;replace j:=pu (c:=c) (l:=⟨.own,true,0,f+10,.work (.has T) q⟩) rfl (pu (c:=c) (l:=⟨.own,true,0,f+10,.work (.has T) q⟩) rfl j r) t;refine Gy AJ (vaq (v:=.F) rfl rfl Ag CE) rfl BK ?_;clear m t r d;refine bb (bA c) ?_;walk_nrm
  repeat w_go ah.on
  refine fZ rfl hF λi d B r g n t m hF=>?_;replace j:=pu (c:=c) (l:=⟨.own,true,0,f+10,.work (.has T) q⟩) rfl (pu (c:=c) (l:=⟨.own,true,0,f+10,.work (.has T) q⟩) rfl j r) t;have x:=bX _ j _ m.mt.1;refine JQ (k:=5) rfl rfl ((vaq (v:=.S gn iv c8 ey) rfl rfl Ag A0).trans (vbp (λes=>GStep.go _ _ es) I8)) rfl ?_;clear x m t r d;refine bb (bA c) ?_;walk_nrm
  repeat w_go ah.on
  refine fZ rfl hF λi d B r g n t m hF=>?_;replace j:=pu (c:=c) (l:=⟨.own,true,0,f+10,.work (.has T) q⟩) rfl (pu (c:=c) (l:=⟨.own,true,0,f+10,.work (.has T) q⟩) rfl j r) t;have X:=ah.qe hF;rw[mT]at X;rw[mT];refine JV (σ:=y0 c ⟨.own,true,0,f+10,.work (.has T) q⟩ M g (z8 (some H))) AJ rfl rfl Ag (pi (vs:=#[.S I N Q aS,.S gn iv c8 ey]) rfl func125 atw rfl Ct g) (oq _ M g (z8 (some H)) rfl (λ_ _ h ho=>pu rfl h ho) X (hI.n4 hF)) ⟨X,j⟩ ?_;have eR:gp (am (ar c)) M w0 M g:=⟨λ_ h=>h,hF.rw,X⟩;clear hF m t r d X j;rintro u _ ⟨z,rfl,hz,P,w2,iD,rfl⟩ w₃ ep ⟨hF,j⟩;have g8:=eR.trans iD;clear iD eR;simp only[y0];rw[<-mT (M:=P)];by_cases W:T<H
  .have SW:decide (z<0)=true:=by simp[hz,W]
   clear hz;refine bb (bA c) ?_;walk_nrm
   repeat w_go ah.on
   refine fZ rfl hF λi d B r g n t m hF=>?_;replace j:=pu (c:=c) (l:=⟨.own,true,0,f+10,.work (.has T) q⟩) rfl (pu (c:=c) (l:=⟨.own,true,0,f+10,.work (.has T) q⟩) rfl j r) t;have x:=bX _ j _ m.mt.1;have U:g.frozen? ⟨c.st,7,none⟩=false:=by simp[World.frozen?,m.mt.1,gU]
   refine aaM (f1:=f+9) (p:=T) (q:=q) (u:=.S I N Q aS) m ((vda rfl rfl Ag A0).trans (vbp (λes=>GStep.go _ _ es) G4)) rfl OT.symm s (λp V=>by rw[show n.al.least=some H from j]at V;cases V;omega) rfl rfl rfl AJ ?_;have Y:=hF.shared (k:=c.st) (off:=7) (sp:=none) LF (.S I N Q aS);clear hF;have hF:=Y;replace j:z8 (some T) ({n with al:={n.al with least:=some T},a6:=n.a6-1}:ai.aN cb):=rfl;clear Y x U m t r d;dsimp only;generalize g.setCell ⟨c.st,7,none⟩ (.S I N Q aS)=w4 at hF⊢;generalize({n with al:={n.al with least:=some T},a6:=n.a6-1}:ai.aN cb)=aty at j⊢;refine bb (bA c) ?_;walk_nrm
   repeat w_go ah.on
   u_in ah.on hF
   rw[vca rfl func91 zo rfl];simp only[vdg];refine⟨CP,?_⟩;walk_nrmf f91
   have y:∀b,(ar c).K b\/ca P [] b->b≠(ar c).st:=λb s e=>hF.eL b s (.inl e);refine vag (λo E=>⟨rfl,λJ R=>bz.OA (A:=ar c) (f:=f) (F:=f+9) (bA c) AP (a':=.work (.has T) q) (a:=.work .free ((T,undef)::q)) La rfl ok.most y rfl rfl (λC tq D=>?_) o J (ak.refl _ _ _) (Vn s (K.rows T O s) (pu (c:=c) (l:=⟨.own,true,0,f+9,.work (.has T) q⟩) rfl j R) ⟨T,rfl,vad _⟩)⟩);replace hF:=(hF.on E).on D;clear E D y;refine bb (bA c) ?_;u_in ah.on hF
   refine vdq rfl rfl func110 rfl ⟨CP,?_⟩;refine vag (λi d=>⟨rfl,λB r=>?_⟩);replace hF:=hF.on d;rw[mT];exact hK (.tuple #[]) (dZ c ⟨.idle,false,0,f,.work .free ((T,undef)::q)⟩ P w2) ⟨rfl,P,w2,g8,rfl⟩ i B hF
  .have SW:decide (z<0)=false:=by simp[hz,W]
   clear hz;refine bb (bA c) ?_;walk_nrm
   repeat w_go ah.on
   u_in ah.on hF
   rw[vca rfl func91 zo rfl];simp only[vdg];refine⟨CP,?_⟩;walk_nrmf f91
   have y:∀b,(ar c).K b\/ca P [] b->b≠(ar c).st:=λb s e=>hF.eL b s (.inl e);refine vag (λo E=>⟨rfl,λJ R=>bz.OA (A:=ar c) (f:=f) (F:=f+10) (bA c) AP (a':=.work (.has T) q) (a:=.work .free ((T,undef)::q)) La rfl ok.most y rfl rfl (λC tq D=>?_) o J (ak.refl _ _ _) (Vn s (K.rows T O s) (pu (c:=c) (l:=⟨.own,true,0,f+10,.work (.has T) q⟩) rfl j R) ⟨H,rfl,AP⟩)⟩);replace hF:=(hF.on E).on D;clear E D y;refine bb (bA c) ?_;u_in ah.on hF
   refine vdq rfl rfl func110 rfl ⟨CP,?_⟩;refine vag (λi d=>⟨rfl,λB r=>?_⟩);replace hF:=hF.on d;rw[mT];exact hK (.tuple #[]) (dZ c ⟨.idle,false,0,f,.work .free ((T,undef)::q)⟩ P w2) ⟨rfl,P,w2,g8,rfl⟩ i B hF
