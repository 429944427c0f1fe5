import Derived.Test.YtnomloiacicoaaaGreatPAQ
import Derived.Test.YtnomloiacicoaaaGreatPAU
set_option linter.all false
set_option maxRecDepth 100000
set_option maxHeartbeats 16000000
namespace Go.Proofs.YtnomloiacicoaaaGreat
open Tryz
namespace x0
open Conc RowKit Conc.Lib ConcR.Gen ConcM av bj ah eK hO fH iu
theorem atW:f48.nn=false:=AB
theorem atX:f52.nn=false:=AB
section
variable{c:dU}{cH:aR}{S af jc:Nat}{fX ie:Value}{j4:uak}{ox cJ:uaf}{M:dL}{w0:aR}{mW:Goroutine->Prop}
def atY(e:∀T v M w M' w',cJ T v M w->(∀b,c.K b\/M b->w'.heap[b]?=w.heap[b]?)->(∀b,M b->M' b)->cJ T v M' w'):∀m l g w a d,(∀b,a b->d b)->(cV.E6 c prog cJ (cV.KP c prog M w0 mW)) m l ⟨g,w,a⟩->(cV.E6 c prog cJ (cV.KP c prog M w0 mW)) m l ⟨g,w,d⟩:=by
 intro m l g w a d hs h;cases m with
 |true=>exact⟨h.1,h.2.1,h.2.2.1,λb i=>hs b (h.2.2.2 b i)⟩
 |false=>
  rcases h with h|⟨q,f,h1,h2,h3⟩
  .exact .inl h
  .exact .inr ⟨q,f,h1,h2,h3.same e (λ_ _=>Y) hs⟩
def atZ(i:Bool){Stop:Bool->ah.Lo At->a0->Prop}(ok:wB c S af jc)(eG:i=true->∀T,c.cq T=false)(hC:c.C=31)(hS:∀m l g w M M',(∀b,M b->M' b)->Stop m l ⟨g,w,M⟩->Stop m l ⟨g,w,M'⟩)(J:uK c cH prog Stop (a_ i 110 131) fX j4 ie (λT=>T*af) (λT=>min (T*af+af) S) ox cJ)(at0:∀q M f' g w,kX c cJ q M w->(∃n,QuitsD prog n 1 g)->Stop false ⟨.idle,false,1,f',.gone q⟩ ⟨g,w,M⟩){fw c2 dB W:Nat}{cs:hH}(KS:c.K c2)(VE:c.K dB)(VF:∃t v,fX=.iface t v)(hW:W<4611686018427387904)(hI:qA c cH w0)(fl:c.rows c.N+W<=c.most)(eC:w0.heap[c2]?=some (.cells #[.P c.st 0] (a_ i 124 195)))(Da:w0.heap[dB]?=some (.cells #[fX] (a_ i 123 194)))(OS:∀(u Q P s p L K I H F E V D C B U A O N z:Value) g w',ai (ao (ay c)) M w0 w'->tS.OY c g (Conc.G ((base (a_ i 35 55)).at ⟨#[u,Q,P,.P dB 0,s,p,.P c2 0,.P c.wg 0,L,K,I,H,F,E,.I (W:Int),.I (W:Int),V,D,C,B,.tuple #[],A,O,N,z],[]⟩ [.inRegion (bQ.pd ((bQ.eu 8 ((a_ i f35 f55).body.getD .skip)).getD .skip)) [],.code (bQ.lA ((bQ.eu 8 ((a_ i f35 f55).body.getD .skip)).getD .skip))]) cs)->Stop true ⟨.idle,false,0,fw,.main .over⟩ ⟨g,w',M⟩)(r:Nat):
 ∀(k:Nat)(u Q P s p L K I H F E V D C B U A O N z:Value)(w:aR)(γ:ah.aQ cO),k+r=W->0<W->ak (ao (ay c)) M w0 [] w->bc (ao (ay c)) prog Stop true ⟨.idle,false,0,23*r+4+fw,.main (.spawn k false)⟩ γ ⟨Conc.G ((base (a_ i 35 55)).at ⟨#[u,Q,P,.P dB 0,s,p,.P c2 0,.P c.wg 0,L,K,I,H,F,E,.I (W:Int),.I (k:Int),V,D,C,B,U,A,O,N,z],[]⟩ [.code ((bQ.dV ((a_ i f35 f55).body.getD .skip)).getD .skip),.inLoop ((bQ.dV ((a_ i f35 f55).body.getD .skip)).getD .skip),.inBlock 0,.code ((bQ.eu 8 ((a_ i f35 f55).body.getD .skip)).getD .skip)]) cs,w,M⟩:=by
 cases i<;>dsimp only[a_]
 all_goals
  have kJ:=(dE (bW c)).oo;induction r with
  |zero=>
   intro k u Q P s p L K I H F E V D C B U A O N z w γ hk h0 hF;obtain rfl:k=W:=AQ;rw[Nat.mul_zero,vbs,Nat.add_comm 4 fw];rw[<-js (M:=M)];refine bf (bW c) ?_;simp only[a_,f35,f55,vaf,bQ.dV,bQ.eu,Nat.reduceBEq,vah,↓reduceIte];repeat w_go ak.on
   u_call func52 atX f52 ak.on hF
   have Z:∀b,c.K b\/cv M [] b->b≠c.wg:=λb j e=>hF.fA b j (.inr (.inl e));refine vaj (λa X=>⟨Y,λoC _=>tS.atV (f:=fw) (k:=k) h0 ok.most Z (λg w' r' ha=>?_) a oC (ai.refl _ _ _)⟩);replace hF:=(hF.on X).on r';rw[js];simp only[a_,f35,f55,vaf,bQ.eu,bQ.lA,bQ.pd,Nat.reduceBEq,vah,↓reduceIte]at OS;exact OS u Q P s p L K I H F E (.F) D C B U A O N z g w' hF.rw ha
  |succ r ih=>
   intro k u Q P s p L K I H F E V D C B U A O N z w γ hk h0 hF;have e:23*(r+1)+4+fw=(23*r+4+fw+20)+3:=AQ;rw[e];rw[<-js (M:=M)];refine bf (bW c) ?_;simp only[a_,f35,f55,vaf,bQ.dV,bQ.eu,Nat.reduceBEq,vah,↓reduceIte]at ih⊢;have aIN:decide (k<W)=true:=AA;have EY:IntKind.wrap .i64 ((k:Int)+1)=((k+1:Nat):Int):=CL;repeat w_go ak.on
   u_call func48 atW f48 ak.on hF
   have Z:∀b,c.K b\/cv M [] b->b≠c.wg:=λb j e=>hF.fA b j (.inr (.inl e));refine vaj (λa X=>⟨Y,λoC _=>tS.atA (f:=23*r+4+fw+20) (k:=k) ok.most Z (λw₅ z0 pN=>?_) a oC (ai.refl _ _ _)⟩);replace hF:=(hF.on X).on pN;clear X pN Z;refine bf (bW c) ?_;walk_nrm
   repeat w_go ak.on
   refine iA Y hF λR d aY aA o ax aE hr hF=>?_;refine atn hr (atm Y Y An Y Y) Y Y (f:=23*r+4+fw) (k:=k) Y AQ ?_ ?_
   .clear hr aE aA d;refine bf (bW c) ?_;walk_nrm
    iterate 7 w_go ak.on
    refine vaj (λR d=>⟨Y,λaY aA=>?_⟩);replace hF:=hF.on d;grind[js]
   .have sz:ak (ao (ay c)) (λ_=>False) w0 [] o:=⟨⟨λb j=>hF.rw.heap b (j.imp id False.elim),hF.rw.size,hF.rw.later,hF.rw.output,hF.rw.tape⟩,AS,λb j=>hF.lt b (j.imp id (λx=>x.imp False.elim id)),λb j=>hF.fA b (j.imp id (λx=>x.elim False.elim (λy=>AA))),AS,AS,λ_ h=>h.elim⟩;have ct:=λf γ=>atN (f:=f) _ ok eG hC hS J at0 KS VE VF hI eC Da o γ sz;dsimp only[a_]at ct;grind
end
end x0
namespace oB
open Conc RowKit ConcM av bj ah eK hO fH iu cV x0
def at1 x N:madeCells #[x] N=(List.replicate N x).toArray:=by unfold madeCells;grind
structure E8(i:Bool)(c:dU)(aD:dL)(S af N n W:Nat)(rows:uas)(cq:ube)(place:ubv)(c2 dB b2:Nat):Prop where
 mf:c.cq=cq
 aIQ:c.place=place
 a5:c.N=N
 ss:∀T,T<N->c.rows T=rows T
 hK:∀b,c.K b↔aD b\/b=c2\/b=dB\/b=b2
 x3:c.size=.I (S:Int)
 at2:c.A_=.I (af:Int)
 at3:c.y2=.S c.cU 0 N N
 at4:c.least=.N
 fl:c.most=n+W
 at5:c.NN=(a_ i 170 228)
 aIR:c.Dl=(a_ i 67 143)
section
variable{P:cE}{Post:hV}
variable{a2:Frame}{aI:Act}{aC:fF}{aL:Nat}{aO:uac}{aK:uab}{csZ:hH}
def at6(i:Bool){n:Nat}{Shun:ual}{S af N W:Nat}{rows:uas}{cq:ube}{place:ubv}(fQ:0<af)(hm:af<=64)(nS:0<W)(hW:W<=16)(hS:S<=1000)(a5:N=(S+af-1) / af)(hn:n+W<=250)(ss:je rows N<=300)(fU:i=true->∀T,cq T=false){jt:uaa}{fR ie:Value}{dh j4:uak}{aD:dL}{w:aR}{ox cJ:dU->Nat->Value->(Nat->Prop)->aR->Prop}(dH:∀b,aD b->b<w.heap.size)(gH:∀b,aD b\/w.heap.size<=b->∀l,fy l=some b->¬Shun l)(hinv:∀w,(callMethod (.iface jt fR) "Size" #[]).run prog w=.ok (.enter dh (#[ie]++#[])) w/\(callMethod (.iface jt fR) "Size" #[]).events prog w #[]=#[])(x3:∀(ST:Bool->eU.Lo->a0->Prop) bs,(∀m l g w M M',(∀b,M b->M' b)->ST m l ⟨g,w,M⟩->ST m l ⟨g,w,M'⟩)->iU prog ST true dh (#[ie]++#[]) (jy eU () aD w bs) (λu bX=>u=.I (S:Int)/\bX=jy eU () aD w bs))(BC:∀c cH Stop d e f,E8 i c aD S af N n W rows cq place d e f->((∀b,aD b->cH.heap[b]?=w.heap[b]?)/\w.heap.size<=cH.heap.size)->uK c cH prog Stop (a_ i 110 131) (.iface jt fR) j4 ie (λT=>T*af) (λT=>min (T*af+af) S) (ox c) (cJ c))(Vu:∀c cH d e f(r cC Z o j Q P O L I H U F E B A V R z:Value) n' bm M' D w',E8 i c aD S af N n W rows cq place d e f->ai eU aD w cH->cH.heap[d]?=some (.cells #[.P c.st 0] (a_ i 124 195))->HK c (cJ c) (λ_=>False) cH n' bm M' D w'->bT prog Post n' bm 0 (Conc.G ((base (a_ i 35 55)).at ⟨#[r,cC,Z,.P e 0,o,j,.P d 0,.P c.wg 0,Q,P,O,L,I,H,.I (W:Int),.I (W:Int),U,F,E,B,.tuple #[],A,V,R,z],[]⟩ [.inRegion (bQ.pd ((bQ.eu 8 ((a_ i f35 f55).body.getD .skip)).getD .skip)) [],.code (bQ.lA ((bQ.eu 8 ((a_ i f35 f55).body.getD .skip)).getD .skip))]) (a2.at aI (.inRegion aC (aL::aO)::aK)::csZ)) w'):
 bT prog Post n Shun 0 (Conc.G (Frame.enter prog (a_ i 35 55) #[.agg #[.I (W:Int),.I (af:Int)],.iface jt fR] .normal) (a2.at aI (.inRegion aC (aL::aO)::aK)::csZ)) w:=by
 have lC:ak eU aD w [] w:=ak.start (λb hb=>AA) (λb _ h=>h.elim) (λ_ _ h=>h.elim);refine Dz (aq7 (X:=⟨_,w,cv aD []⟩) (asX i (ST:=λ_ _ Y=>∃st cU d f e wg bs,∃(r cC Z o j Q P O L I H U F E B jh A V R z:Value),ak eU aD w bs Y.w/\(∀x∈[(wg,.cells #[.int .u64 0,.int .u32 0] 136),(d,.cells #[.P st 0] (a_ i 124 195)),(st,.cells #[.int .i32 0,.int .u32 0,.I (S:Int),.I (af:Int),.I 0,.I 0,.S cU 0 N N,.N] (a_ i 170 228)),(cU,.cells (madeCells #[.N] N) (a_ i 67 143)),(e,.cells #[.iface jt fR] (a_ i 123 194)),(f,.cells #[.I (W:Int),.I (af:Int)] 63)],x∈bs)/\Y.g=Conc.G ((base (a_ i 35 55)).at ⟨#[r,cC,Z,.P e 0,o,j,.P d 0,.P wg 0,Q,P,O,L,I,H,.I (W:Int),.I (0:Int),U,F,E,B,jh,A,V,R,z],[]⟩ [.code ((bQ.dV ((a_ i f35 f55).body.getD .skip)).getD .skip),.inLoop ((bQ.dV ((a_ i f35 f55).body.getD .skip)).getD .skip),.inBlock 0,.code ((bQ.eu 8 ((a_ i f35 f55).body.getD .skip)).getD .skip)]) (a2.at aI (.inRegion aC (aL::aO)::aK)::csZ)/\∀b,cv aD bs b->Y.mine b) (N:=N) (W:=W) fQ a5 AQ AQ hinv (λbs=>x3 _ bs (λm l g w M M' vZ h=>by obtain⟨st,cU,d,f,e,wg,bs,r,cC,Z,o,j,Q,P,O,L,I,H,U,F,E,B,jh,A,V,R,z,hk,bE,hg,dv⟩:=h;exact⟨st,cU,d,f,e,wg,bs,r,cC,Z,o,j,Q,P,O,L,I,H,U,F,E,B,jh,A,V,R,z,hk,bE,hg,λb hb=>vZ b (dv b hb)⟩)) (λst cU d f e wg bs w' r cC Z o j Q P O L I H U F E B jh A V R z hk bE _=>.stop ⟨st,cU,d,f,e,wg,bs,r,cC,Z,o,j,Q,P,O,L,I,H,U,F,E,B,jh,A,V,R,z,hk,bE,rfl,λ_ h=>h⟩) w lC) rfl (λb hb=>dH b (by simp_all[js])) (λb hb=>gH b (by simp_all[js])) (λY jd hl=>.stop (λk=>?_)));obtain⟨st,cU,d,f,e,wg,bs,r,cC,Z,o,j,Q,P,O,L,I,H,U,F,E,B,jh,A,V,R,z,hk,bE,hg,dv⟩:=jd;rw[hg];have JV:=hk.bO _ (bE (wg,.cells #[.int .u64 0,.int .u32 0] 136) AS);have eC:=hk.bO _ (bE (d,.cells #[.P st 0] (a_ i 124 195)) AS);have hst:=hk.bO _ (bE (st,.cells #[.int .i32 0,.int .u32 0,.I (S:Int),.I (af:Int),.I 0,.I 0,.S cU 0 N N,.N] (a_ i 170 228)) AS);have xM:=hk.bO _ (bE (cU,.cells (madeCells #[.N] N) (a_ i 67 143)) AS);have Da:=hk.bO _ (bE (e,.cells #[.iface jt fR] (a_ i 123 194)) AS);have cp:=hk.bO _ (bE (f,.cells #[.I (W:Int),.I (af:Int)] 63) AS);have hne:∀{a b:Nat}{x y:dX}{s t:uaa},Y.w.heap[a]?=some (.cells x s)->Y.w.heap[b]?=some (.cells y t)->s≠t->a≠b:=by grind
 have lP:∀x∈[(wg,Obj.cells #[.int .u64 0,.int .u32 0] 136),(d,Obj.cells #[.P st 0] (a_ i 124 195)),(st,Obj.cells #[.int .i32 0,.int .u32 0,.I (S:Int),.I (af:Int),.I 0,.I 0,.S cU 0 N N,.N] (a_ i 170 228)),(cU,Obj.cells (madeCells #[.N] N) (a_ i 67 143)),(e,Obj.cells #[.iface jt fR] (a_ i 123 194)),(f,Obj.cells #[.I (W:Int),.I (af:Int)] 63)],¬aD x.1/\w.heap.size<=x.1/\x.1<Y.w.heap.size:=by
  intro x hx;have h1:x.1∈bs.map (·.1):=vbl.2 ⟨x,bE x hx,rfl⟩;have h2:¬aD x.1:=λh=>hk.tj x.1 h1 (.inr h);have h3:Y.mine x.1:=dv _ (.inr h1);rcases hl.new x.1 h3 with h|h
  .simp_all[js]
  grind
 have aIS:=lP (wg,.cells #[.int .u64 0,.int .u32 0] 136) AS;have aIT:=lP (d,.cells #[.P st 0] (a_ i 124 195)) AS;have KO:=lP (st,.cells #[.int .i32 0,.int .u32 0,.I (S:Int),.I (af:Int),.I 0,.I 0,.S cU 0 N N,.N] (a_ i 170 228)) AS;have aIU:=lP (cU,.cells (madeCells #[.N] N) (a_ i 67 143)) AS;have aIV:=lP (e,.cells #[.iface jt fR] (a_ i 123 194)) AS;have aIW:=lP (f,.cells #[.I (W:Int),.I (af:Int)] 63) AS;have at7:∀b,aD b->Y.w.heap[b]?=w.heap[b]?:=λb hb=>hk.rw.heap b (.inr hb);have hsz:w.heap.size<=Y.w.heap.size:=hk.rw.size;have at8:∀b,(aD b\/b=d\/b=e\/b=f)->b≠st/\b≠wg/\b≠cU:=by cases i<;>dsimp only[a_]at * <;>grind
 let c:dU:={st:=st,cU:=cU,wg:=wg,NN:=(a_ i 170 228),Dl:=(a_ i 67 143),tWg:=136,N:=N,rows:=(λT=>if T<N then rows T else n),size:=.I (S:Int),A_:=.I (af:Int),y2:=.S cU 0 N N,least:=.N,cq:=cq,place:=place,K:=(λb=>aD b\/b=d\/b=e\/b=f),most:=n+W,C:=31,fA:=⟨hne hst JV (by cases i<;>decide),hne hst xM (by cases i<;>decide),hne JV xM (by cases i<;>decide)⟩,xL:=at8}
 have oD:E8 i c aD S af N n W rows cq place d e f:=⟨rfl,rfl,rfl,λT h=>vca h,λb=>Iff.rfl,rfl,rfl,rfl,rfl,rfl,rfl,rfl⟩;have Vs:N<=S+af:=by rw[a5];exact vad (Nat.div_le_self _ _) AQ
 have hmul:(N+1)*af<=2000*64:=Nat.mul_le_mul AQ hm;have ok:wB c S af N:=⟨rfl,rfl,rfl,(by
  show je c.rows N<=300;rw[NL (g:=rows) (λp hp=>vca hp)];grind),AA,AA,AA⟩
 have J:=λStop=>BC c Y.w Stop d e f oD ⟨at7,hsz⟩;have VH:∀b,c.K b\/(ao (ay c)).ia b->b<Y.w.heap.size/\∀l,fy l=some b->¬Shun l:=by
  rintro b ((h|rfl|rfl|rfl)|(h|h|h))
  .exact⟨vak (dH b h) hsz,gH b (.inl h)⟩
  .grind
  .grind
  .grind
  .grind
  .grind
  grind
 refine as_ (c:=c) (cJ:=cJ c) (J (λ_ _ _=>True)).mono (n:=n) (mW:=λg'=>∃(r cC Z o j Q P O L I H U F E B A V R z:Value),g'=Conc.G ((base (a_ i 35 55)).at ⟨#[r,cC,Z,.P e 0,o,j,.P d 0,.P c.wg 0,Q,P,O,L,I,H,.I (W:Int),.I (W:Int),U,F,E,B,.tuple #[],A,V,R,z],[]⟩ [.inRegion (bQ.pd ((bQ.eu 8 ((a_ i f35 f55).body.getD .skip)).getD .skip)) [],.code (bQ.lA ((bQ.eu 8 ((a_ i f35 f55).body.getD .skip)).getD .skip))]) (a2.at aI (.inRegion aC (aL::aO)::aK)::csZ)) (w:=Y.w.at k) (w0:=Y.w.at k) (M:=λ_=>False) (Shun:=Shun) (f0:=23*W+4+0) (v:=0) (b0:=⟨0,false,0,0,0,List.replicate N (.N),none⟩) rfl (vby (Nat.lt_irrefl _)).symm (vee _ _) ⟨rfl,rfl,rfl,rfl,rfl,by simp;rfl⟩ ⟨?_,?_,λ_=>?_⟩ (λb h=>h.elim) (λb hb=>VH b (hb.resolve_left Ke)) (λk'=>?_) (λg' tk n' bm M' D w' cr=>?_)
 .show Y.w.heap[st]?=some (iq (ay c) ⟨false,false,false,0,0,0⟩ ⟨0,false,0,0,0,List.replicate N (.N),none⟩);rw[hst];simp[iq,be.word,c]
 .show Y.w.heap[wg]?=some (tD c ⟨0,false,0,0,0,List.replicate N (.N),none⟩);rw[JV];simp[tD,c]
 .show Y.w.heap[cU]?=_;rw[xM,at1];rfl
 .refine atZ (c:=c) (cH:=Y.w) (w0:=Y.w.at k) (M:=λ_=>False) i ok (λh T=>fU h T) rfl (atY (J (λ_ _ _=>True)).mono) (J _) (λq M f' g w jw hq=>.inr ⟨q,f',rfl,hq,jw⟩) (fw:=0) (W:=W) (cs:=a2.at aI (.inRegion aC (aL::aO)::aK)::csZ) (.inr Jv) (.inr (.inr Jv)) ⟨jt,fR,rfl⟩ AQ ⟨λb hb=>rfl,vac _⟩ AA eC Da (λr cC Z o j Q P O L I H U F E B jh A V R z g w' hr ha=>?_) W 0 r cC Z o j Q P O L I H U F E B jh A V R z ((Y.w.at k).at k') _ AQ nS ?_
  .obtain⟨g1,h1,h2⟩:=ha;exact⟨⟨rfl,rfl,rfl⟩,⟨g1,h1,_,⟨r,cC,Z,o,j,Q,P,O,L,I,H,U,F,E,B,A,V,R,z,rfl⟩,h2⟩,hr,λb h=>h.elim⟩
  .exact⟨⟨λ_ _=>rfl,vac _,.refl _,rfl,rfl⟩,AS,λb hb=>(VH b AA).1,λb hb=>by
    rcases hb with h|h|h
    .grind
    .grind
    .simp at h,by simp,by simp,λ_ h=>h.elim⟩
 .obtain⟨r,cC,Z,o,j,Q,P,O,L,I,H,U,F,E,B,A,V,R,z,rfl⟩:=tk;exact Vu c (Y.w.at k) d e f r cC Z o j Q P O L I H U F E B A V R z n' bm M' D w' oD ⟨hk.rw.heap,hk.rw.size,hk.rw.later,hk.rw.output,hk.rw.tape⟩ eC cr
end
section
section
variable{Post:hV}
variable{a2:Frame}{aI:Act}{aC:fF}{aL:Nat}{aO:uac}{aK:uab}{csZ:hH}
def VG(i:Bool){n:Nat}{Shun:ual}{S af N W:Nat}{rows:uas}(E:0<af)(z:af<=64)(y:0<W)(A:W<=16)(B:S<=1000)(a5:N=(S+af-1) / af)(hn:n+W<=250)(ss:je rows N<=300){jt:uaa}{s ie:Value}{v j4:uak}{aD:dL}{w:aR}{ox cJ:dU->Nat->Value->(Nat->Prop)->aR->Prop}(H:∀b,aD b->b<w.heap.size)(C:∀b,aD b\/w.heap.size<=b->∀l,fy l=some b->¬Shun l)(hinv:∀w,(callMethod (.iface jt s) "Size" #[]).run prog w=.ok (.enter v (#[ie]++#[])) w/\(callMethod (.iface jt s) "Size" #[]).events prog w #[]=#[])(x3:∀(ST:Bool->eU.Lo->a0->Prop) bs,(∀m l g w M M',(∀b,M b->M' b)->ST m l ⟨g,w,M⟩->ST m l ⟨g,w,M'⟩)->iU prog ST true v (#[ie]++#[]) (jy eU () aD w bs) (λu I=>u=.I (S:Int)/\I=jy eU () aD w bs))(P:∀c cH Stop d p r,E8 i c aD S af N n W rows (λ_=>false) (λ_=>undef) d p r->((∀b,aD b->cH.heap[b]?=w.heap[b]?)/\w.heap.size<=cH.heap.size)->uK c cH prog Stop (a_ i 110 131) (.iface jt s) j4 ie (λT=>T*af) (λT=>min (T*af+af) S) (ox c) (cJ c)){V:Value->aR->Nat->(Loc->Prop)->Prop}(Q:∀u w n Shun k,V u w n Shun->V u (w.at k) n Shun)(K:∀c cH d p r f e M' D w' st,E8 i c aD S af N n W rows (λ_=>false) (λ_=>undef) d p r->ai eU aD w cH->HK c (cJ c) (λ_=>False) cH f e M' D w'->st=c.st->
  ON e (bT prog Post f e) (a_ i 90 117) #[.S c.cU 0 N N] (w'.setCell ⟨st,0,none⟩ (.int .i32 1)) (λu o=>V u (o.setCell ⟨st,0,none⟩ (.int .i32 0)) f e/\(∃a n c,u=.slice a n c)/\o.heap[st]?=(w'.setCell ⟨st,0,none⟩ (.int .i32 1)).heap[st]?/\w'.heap.size<=o.heap.size))(hk:∀u w' f e,V u w' f e->bT prog Post f e 0 (Conc.G (a2.at (aI.put ((aC[aL]?).bind (·.dst)) (.tuple #[u,.N])) (.inRegion aC aO::aK)) csZ) w'):
 bT prog Post n Shun 0 (Conc.G (Frame.enter prog (a_ i 35 55) #[.agg #[.I (W:Int),.I (af:Int)],.iface jt s] .normal) (a2.at aI (.inRegion aC (aL::aO)::aK)::csZ)) w:=by
 refine at6 i E z y A B a5 hn ss (λ_ _=>Y) H C hinv x3 P (λc cH d p r X cC dm U R gi gj gl gm gn gp gA gq gr gu gv g9 g_ Z f e M' D w' h hI F j=>?_);obtain⟨T,m,L,hst,J,-⟩:=j.st;obtain rfl:L=none:=by cases L with|none=>rfl|some q=>have:=(J q Y).1;rw[h.mf]at this;cases this
 simp only[Option.elim]at hst;rw[h.x3,h.at2,h.at3,h.at4,h.at5]at hst;have O:c.K d:=(h.hK d).2 AA;have t:w'.heap[d]?=some (.cells #[.P c.st 0] (a_ i 124 195)):=(j.stands d (.inl O)).trans F;have x:=K c cH d p r f e M' D w' c.st h hI j Y;exact Dz (asU i hst t AA AA j.as7 j.as8.1 (j.tV d (.inl (j.sub d AA)) _ Y) (V:=λu o=>V u (o.setCell ⟨c.st,0,none⟩ (.int .i32 0)) f e) x (λu o hv=>.stop AA))
end
end
end oB
namespace bd
open Conc ConcM RowKit av bj ah eK hO fH iu cV oB dx
def auc:xO Ot:=by rintro ρ w w' rd d x b a ⟨v,h0,h1⟩;obtain⟨v',c,b0⟩:=a 0 _ h0;exact⟨v',c,av.bo.carry Bj b b0 h1⟩
def aud:p_ Ot:=λ_ _ _ _ _ hk a⟨v,h0,h1⟩=>⟨v,a _ _ h0,h1.mono zb hk⟩
def E9{D a}(h:∀b,D b->a b):Ren.le (dp D bL) (dp a bL):=⟨λ_ b k=>⟨k.1,h b k.2⟩,λ_ k=>k.elim⟩
structure KT(M aD:dL)(w:aR)(most:Nat)(rs:List cP)(u:Value)(w':aR)(n':Nat)(bm:ual)(cx:dL):Prop where
 n:n'<=most
 sub:∀b,M b->cx b
 new:∀b,cx b->M b\/¬aD b
 cl:fG (da prog false) cx bL w'
 val:au (dp cx bL) u u
 rows:ko w' u rs
 cap:uW rs.length u
 same:∀b,aD b->w'.heap[b]?=w.heap[b]?
 sh:∀b,cx b\/aD b\/w'.heap.size<=b->∀l,fy l=some b->¬bm l
 size:w.heap.size<=w'.heap.size
 later:OsLater w.os w'.os
 output:w'.output=w.output
 tape:w'.tape=w.tape
theorem KT.at{M aD w most rs u w' a c b}(h:KT M aD w most rs u w' a c b)k:KT M aD w most rs u (w'.at k) a c b:=
 ⟨h.n,h.sub,h.new,h.cl,h.val,bo.mono zb (λ_ _ _ x=>x) h.rows,h.cap,h.same,h.sh,h.size,h.later,h.output,h.tape⟩
def aue:gE prog false f90=true:=by decide+kernel
def auf{S af N n W:Nat}{rows:uas}{M aD:dL}{w:aR}(vZ:∀b,M b->aD b)(hg:∀g,g<=prog.globals.size->M g)(cB:fG (da prog false) M bL w)(ps:List (List cP))(a5:N=ps.length)(DL:ps.length<=1000)(Hn:∀k,k5 ps k<=1000){cJ:uaf}{c:dU}{cH:aR}{c2 dB b2 P:Nat}{F:ual}{M':dL}{D:uai}{w':aR}(Bi:∀T v N w,cJ T v N w->o6 (da prog false) M c.K (λw v=>∃h:T<ps.length,ko w v ps[T]) v N w)(q:E8 false c aD S af N n W rows (λ_=>false) (λ_=>undef) c2 dB b2)(hI:ai eU aD w cH)(f:HK c cJ (λ_=>False) cH P F M' D w'){Stop:uax}{st:Nat}(hst:st=c.st):
 ON F Stop 90 #[.S c.cU 0 N N] (w'.setCell ⟨st,0,none⟩ (.int .i32 1))
  (λu C=>(∃cx,KT M aD w (n+W) (ly ps ps.length) u (C.setCell ⟨st,0,none⟩ (.int .i32 0)) P F cx)/\(∃a n c,u=.slice a n c)/\C.heap[st]?=(w'.setCell ⟨st,0,none⟩ (.int .i32 1)).heap[st]?/\w'.heap.size<=C.heap.size):=by
 subst hst;subst a5;have J:c.N=ps.length:=q.a5;have Vq:c.st<w'.heap.size:=f.low _ Jz;have K:(w'.setCell ⟨c.st,0,none⟩ (.int .i32 1)).heap.size=w'.heap.size:=ah.oq _ _ _;have Q:∀b,M' b->(w'.setCell ⟨c.st,0,none⟩ (.int .i32 1)).heap[b]?=w'.heap[b]?:=λb d=>mN w' _ _ (λe=>f.KO AA);have I:(w'.setCell ⟨c.st,0,none⟩ (.int .i32 1)).os=w'.os/\(w'.setCell ⟨c.st,0,none⟩ (.int .i32 1)).output=w'.output/\(w'.setCell ⟨c.st,0,none⟩ (.int .i32 1)).tape=w'.tape:=⟨rfl,rfl,rfl⟩;generalize nD:w'.setCell ⟨c.st,0,none⟩ (.int .i32 1)=w1 at *;have aug:∀b,aD b->M' b:=λb d=>f.sub b (.inr (.inl ((q.hK b).2 (.inl d))));have auh:∀b,aD b->w'.heap[b]?=w.heap[b]?:=λb d=>(f.stands b (.inl ((q.hK b).2 (.inl d)))).trans (hI.heap b (.inr d));obtain⟨VI,VJ,-,qz⟩:=f.Ua;have m:∀p:Nat,∃(v:Value)(G:dL),p<ps.length->D[p]?=some v/\(∀b,G b->M' b/\¬c.K b)/\fG (da prog false) (λb=>M b\/G b) bL w'/\au (dp (λb=>M b\/G b) bL) v v/\∃h:p<ps.length,ko w' v ps[p]:=by
  intro p;by_cases j:p<ps.length
  .obtain⟨v,h1,h2⟩:=qz p (J▸j) (by rw[q.mf]);have VD:=λb=>VJ p b (J▸j);obtain⟨G,g1,g2,g4,jB⟩:=Bi _ _ _ _ h2;exact⟨v,G,AA⟩
  .exact⟨.F,bL,AA⟩
 obtain⟨vs,m⟩:=vbi.1 m;obtain⟨G,m⟩:=vbi.1 m;let r:Nat->Prop:=λb=>M b\/b=c.cU\/∃p,p<ps.length/\G p b
 have B:∀b,r b->M' b:=by
  rintro b (h|h|⟨p,j,h⟩)
  .grind
  .exact f.sub b (.inr (.inr h))
  grind
 have Fb:∀p,p<ps.length->∀b,M b\/G p b->r b:=by grind
 have KU:fG (da prog false) r bL w1:=by
  intro b d;rw[Q b (B b d)];rcases d with h|h|⟨p,j,h⟩
  .obtain⟨o,h1,h2⟩:=cB b h;exact⟨o,AA,h2.imp (hU.mono (E9 AA)) id⟩
  .subst h;refine⟨_,f.done,.inl (.cells _ (mw λv hv=>?_) AA)⟩;obtain⟨p,j,rfl⟩:=vbj hv;have O:p<ps.length:=by rw[<-J,<-f.len];exact j
   have:=m p O;rw[vaq j]at this;have e:=van this.1;rw[e];exact this.2.2.2.1.mono (E9 (Fb p O))
  .obtain⟨o,h1,h2⟩:=(m p j).2.2.1 b (.inr h);exact⟨o,h1,h2.imp (hU.mono (E9 (Fb p j))) id⟩
 have V:aJ (dp r bL) #[Value.slice (some (.a c.cU 0)) ps.length ps.length] #[Value.slice (some (.a c.cU 0)) ps.length ps.length]:=.one (.slice _ _ ⟨⟨rfl,.inr Jv⟩,rfl,rfl⟩);have VK:bo w1 1 Ot (.S c.cU 0 ps.length ps.length) ps:=by
  refine⟨_,_,rfl,AQ,λi hi=>⟨c.cU,0,rfl,vs i,?_,?_⟩⟩
  .have h1:=(m i hi).1;have h2:w1.heap[c.cU]?=some (.cells D.toArray c.Dl):=(Q _ AA).trans f.done;simp_all[World.cell?]
  .obtain⟨h1,h2,h3,h4,aP,bE⟩:=m i hi;exact av.bo.carry Bj (sF AA h3) h4 bE
 obtain⟨H,X⟩:=Jm (da prog false) r bL w1;intro Hz y E2 HA HB s HD hk;have VL:∀T,Calls vfd 90 #[Value.slice (some (.a c.cU 0)) ps.length ps.length] {H with tape:=T} (λe z=>∃v,e=.returned v/\ko z v (ly ps ps.length)/\uW (k5 ps ps.length) v):=λT=>
  (aq2 ps _ {H with tape:=T} (bo.mono aud (zi H T) (av.bo.carry auc (X.carry KU) (V.get 0 _ _ rfl rfl) VK)) DL Hn).mono AA
 have q7:=NR uL func90 aue rfl AD KU AA AA V (R:=λv z=>ko z v (ly ps ps.length)/\uW (k5 ps ps.length) v) X VL true (Hz.at y (.inRegion E2 (HA::HB)::s)) HD;refine Uq q7 rfl (λb d=>?_) (λb d=>?_) ?_
 .rcases d with h|h
  .rw[K];exact f.low b AA
  .exact h.elim
 .rcases d with h|h|h
  .exact f.tV b AA
  .exact h.elim
  .exact f.tV b AA
 rintro Y ⟨ρ,z,v,v',l⟩ t;rw[l.g,vco];obtain⟨aui,U⟩:=l.world;have lP:∀b,Y.mine b->w1.heap.size<=b/\b<Y.w.heap.size:=λb d=>(t.new b d).resolve_left λh=>h.elim;have A:∀b,(∃a,ρ.rel a b)->r b\/w1.heap.size<=b:=by
  rintro b ⟨a,E⟩;rcases l.dom a b E with h|h
  .grind
  grind
 have Vr:∀b,b<w1.heap.size->Y.w.heap[b]?=w1.heap[b]?:=λb d=>t.kept b d λh=>h.elim;have auj:¬ ∃a,ρ.rel a c.st:=λh=>by
  rcases A _ h with h|h
  .exact f.KO (B _ h)
  .omega
 have HQ:∀b,(∃a,ρ.rel a b)->(Y.w.setCell ⟨c.st,0,none⟩ (.int .i32 0)).heap[b]?=Y.w.heap[b]?:=λb d=>mN _ _ _ AA;have Z:=U.closed bL;have L:au (dp (λb=>∃a,ρ.rel a b) bL) v' v':=au.right (σ:=dp (λb=>∃a,ρ.rel a b) bL) (λa b E=>⟨rfl,a,E⟩) l.val;have f9:ko Y.w v' (ly ps ps.length):=av.bo.carry Bj U.carry l.val l.post.1;have VM:w'.heap.size<=Y.w.heap.size:=AA;have auk:w.heap.size<=w'.heap.size:=vad hI.size f.size;have aul:(Y.w.setCell ⟨c.st,0,none⟩ (.int .i32 0)).heap.size=Y.w.heap.size:=ah.oq _ _ _;refine hk v' Y.w ⟨⟨λb=>∃a,ρ.rel a b,⟨?_,λb d=>⟨b,l.le.1 b b ⟨rfl,.inl d⟩⟩,λb d=>?_,pE Z HQ,L,av.bo.carry Bj (sF HQ Z) L f9,l.post.2.carry l.val,λb d=>?_,λb d=>?_,?_,?_,?_,?_⟩⟩,?_,?_,VM⟩
 .rw[<-q.fl];exact f.n
 .rcases A b d with h|h
  .rcases h with h|h|⟨p,j,h⟩
   .grind
   .exact .inr λx=>(c.xL b ((q.hK b).2 (.inl x))).2.2 h
   .exact .inr λx=>((m p j).2.1 b h).2 ((q.hK b).2 (.inl x))
  .exact .inr λx=>by have:=f.low b AA;omega
 .have hlt:b<w1.heap.size:=by rw[K];exact f.low b AA
  have hne:b≠c.st:=(c.xL b ((q.hK b).2 (.inl d))).1;grind[mN]
 .rcases d with h|h|h
  .rcases A b h with h|h
   .exact f.tV b (.inl (B b h))
   .exact f.tV b AA
  .exact f.tV b AA
  .exact f.tV b AA
 .omega
 .exact(hI.later.trans f.os).trans (by have:=t.os;rw[show(Y.w.setCell ⟨c.st,0,none⟩ (.int .i32 0)).os=Y.w.os from rfl,<-I.1];grind)
 .exact(show Y.w.output=_ from t.output).trans (I.2.1.trans (f.output.trans hI.output))
 .exact(show Y.w.tape=_ from t.tape).trans (I.2.2.trans (f.tape.trans hI.tape))
 .obtain⟨a,cap,e,_⟩:=l.post.2.carry l.val;grind
 grind
end bd
namespace aV
open Conc ConcM RowKit av bj ah eK hO fH iu cV oB dx bd
section
variable{O:gW}
def nx:(dr prog).Good:=ZB true AD AD
def HR{C C' D M M' w}(h:fG C D M w):fG C' D M' w:=by
 intro b i;obtain⟨o,h1,h2⟩:=h b i;have d:∀a b,(dp D M).rel a b->(dp D M').rel b b:=λa b k=>⟨Y,k.2⟩;refine⟨o,h1,?_⟩;rcases h2 with h2|h2
 .cases o with
  |cells c e fr=>cases h2 with|cells _ g _=>exact .inl (.cells e (g.right d) AA)
  |map es k=>cases h2 with|map _ f=>exact .inl (.map k (f.right λa b x=>⟨x.key.right d,x.val.right d,Y⟩))
  |number a l=>cases h2 with|number hn _=>exact .inl (.number (hn.right d) l)
  |coro x=>cases h2 with|shut h=>grind
  | _=>first|exact .inr trivial|(cases h2)
 grind
theorem x7{D M M' v}(h:au (dp D M) v v):au (dp D M') v v:=au.right (ρ:=dp D M) (σ:=dp D M') (λ_ _ k=>⟨Y,k.2⟩) h
def cut{aq:Type}(g:Nat->aq)(fr aT:Nat):List aq:=(List.range (aT-fr)).map λk=>g (fr+k)
theorem z5{aq:Type}(g:Nat->aq)fr aT:(cut g fr aT).length=aT-fr:=by simp[cut]
def Vp{aq:Type}(g:Nat->aq){a b c}(h1:a<=b)(h2:b<=c):cut g a b++cut g b c=cut g a c:=by
 apply vbx
 .simp[z5];omega
 grind[cut]
structure kG(g:Nat->Nat->List cP):Prop where
 none:∀a b,b<=a->g a b=[]
 app:∀{a b c},a<=b->b<=c->g a b++g b c=g a c
 le:∀a b,(g a b).length<=b-a
def Vm f:kG (cut f):=⟨λa b h=>List.eq_nil_of_length_eq_zero (by rw[z5];omega),Vp f,λa b=>by rw[z5];omega⟩
def pieces(g:Nat->Nat->List cP)(af S N:Nat):List (List cP):=(List.range N).map λT=>g (T*af) (min (T*af+af) S)
def Fc g af S N:(pieces g af S N).length=N:=by simp[pieces]
theorem Vb g af S N T(h:T<(pieces g af S N).length):(pieces g af S N)[T]=g (T*af) (min (T*af+af) S):=by simp[pieces]
def Va{g}(hg:kG g)af S k:g 0 (min (k*af) S)++g (k*af) (min (k*af+af) S)=g 0 (min ((k+1)*af) S):=by
 rw[Nat.succ_mul];rcases vdz (k*af) S with x|x
 .rw[Nat.min_eq_left (Nat.le_of_lt x),hg.app (vax _) AQ]
 .rw[hg.none (k*af) _ AQ,Nat.min_eq_right x,Nat.min_eq_right AQ,vdc]
theorem O0{g}(hg:kG g){af S N}:∀k,k<=N->ly (pieces g af S N) k=g 0 (min (k*af) S)
 |0,_=>by simp[ly,hg.none 0 0]
 |k+1,h=>by rw[Ou (by rw[Fc];omega),O0 hg k AQ,Vb,Va hg]
def HS{af S}(b:0<af):S<=(S+af-1) / af*af/\∀T,T<(S+af-1) / af->T*af<S:=by
 have h:=Nat.div_add_mod (S+af-1) af;have h2:=Nat.mod_lt (S+af-1) b;have h3:(S+af-1) / af*af=af*((S+af-1) / af):=Nat.mul_comm _ _;constructor
 .omega
 .intro T a;have:(T+1)*af<=(S+af-1) / af*af:=Nat.mul_le_mul_right _ a;grind
theorem U9{g}(hg:kG g){af S}:∀N,eK.je (λT=>(g (T*af) (min (T*af+af) S)).length) N=(g 0 (min (N*af) S)).length
 |0=>by simp[eK.je,hg.none 0 0]
 |N+1=>by rw[eK.je,U9 hg N,<-vcl,Va hg]
def VN(M:dL)(w:aR)(rs:List cP)(u:Value)(_:dL)(w':aR):Prop:=
 ∃v,u=.tuple #[v,.N]/\ko w' v rs/\uW rs.length v/\∀b,M b->w'.heap[b]?=w.heap[b]?
section
variable{Post:hV}{M:dL}{w:aR}
def U8{g:Nat->Nat->List cP}(hg:kG g){af S N W:Nat}(p:0<af)(A:af<=64)(z:0<W)(B:W<=16)(hS:S<=300)(a5:N=(S+af-1) / af){jt:uaa}{o ie:Value}{t j4:uak}{ox:dU->Nat->Value->(Nat->Prop)->aR->Prop}(hinv:∀w,(callMethod (.iface jt o) "Size" #[]).run prog w=.ok (.enter t (#[ie]++#[])) w/\(callMethod (.iface jt o) "Size" #[]).events prog w #[]=#[])(q:∀g,g<=prog.globals.size->M g)(L:fG (da prog false) M bL w)(x3:∀(ST:Bool->eU.Lo->a0->Prop) bs,(∀m l g w M M',(∀b,M b->M' b)->ST m l ⟨g,w,M⟩->ST m l ⟨g,w,M'⟩)->iU prog ST true t (#[ie]++#[]) (jy eU () (λb=>M b\/b<O.n) w bs) (λu Q=>u=.I (S:Int)/\Q=jy eU () (λb=>M b\/b<O.n) w bs))(X:∀c cH Stop,(∀b,M b->c.K b)->c.N=N->(∀T,T<N->c.rows T=(g (T*af) (min (T*af+af) S)).length)->(∀T,c.cq T=false)->(∀b,M b->cH.heap[b]?=w.heap[b]?)->uK c cH prog Stop 110 (.iface jt o) j4 ie (λT=>T*af) (λT=>min (T*af+af) S) (ox c) (λT v M' w=>o6 (da prog false) M c.K (λw v=>T<c.N/\ko w v (g (T*af) (min (T*af+af) S))) v M' w)):
 fZ O prog Post 35 #[.agg #[.I (W:Int),.I (af:Int)],.iface jt o] M w 1 (VN M w (g 0 S)):=by
 intro n Shun hn d gX aI aC aL aO aK csZ hc I;obtain⟨H,r⟩:=HS (S:=S) p;rw[<-a5]at H r;have U:N<=S:=by
  have:∀k,k<=N->k<=S:=by intro k hk;cases k with|zero=>grind|succ k=>have:=r k hk;have h2:=Nat.le_mul_of_pos_right k p;omega
  grind
 refine VG false (rows:=λT=>(g (T*af) (min (T*af+af) S)).length) (aD:=λb=>M b\/b<O.n) (cJ:=λc T v M' w=>o6 (da prog false) M c.K (λw v=>T<c.N/\ko w v (g (T*af) (min (T*af+af) S))) v M' w) p A z B AQ a5 AQ (by rw[U9 hg];have:=hg.le 0 (min (N*af) S);omega) (λb a=>a.elim d.lt λx=>vak x d.ob) (λb a=>a.elim (λx=>x.elim (λy=>d.sh b (.inl y)) (d.so b)) λx=>d.sh b (.inr x)) hinv x3
  (λc cH Stop P J R e hI=>X c cH Stop (λb a=>(e.hK b).2 (.inl (.inl a))) e.a5 e.ss (λT=>by rw[e.mf]) AA)
  (V:=λu w' f i=>∃j,KT M (λb=>M b\/b<O.n) w (n+W) (g 0 S) u w' f i j) (λu w' f i k h=>by obtain⟨j,h⟩:=h;exact⟨j,h.at k⟩) (λc cH P J R f i M' D w' st e hI K hst=>?_) (λu w' f i hv=>?_)
 .have DL:ly (pieces g af S N) (pieces g af S N).length=g 0 S:=by simp_all[Fc,O0]
  have:=auf (Stop:=bT prog Post f i) AA q L (pieces g af S N) (Fc g af S N).symm (by rw[Fc];omega) (λk=>?_) (λT v M w h=>?_) e hI K hst
  .grind
  .by_cases hk:k<=N
   .unfold k5;rw[O0 hg k hk];have:=hg.le 0 (min (k*af) S);omega
   .unfold k5 ly;rw[vbo (by rw[Fc];omega)];have:(pieces g af S N).flatten=ly (pieces g af S N) N:=by simp_all[ly,vbo,Fc]
    rw[this,O0 hg N JR];have:=hg.le 0 (min (N*af) S);omega
  .obtain⟨G,g1,F,E,jB,Z⟩:=h;have C:T<(pieces g af S N).length:=by rw[Fc,<-e.a5];exact jB
   exact⟨G,g1,F,E,C,by grind[Vb]⟩
 .obtain⟨j,h⟩:=hv;refine I (.tuple #[u,.N]) j w' f i (by have:=h.n;omega) ⟨HR h.cl,λg hg=>h.sub g (q g hg),λb a=>h.sh b (a.imp id .inr),λb a h0=>(h.new b a).elim (λx=>d.new b x h0) AA,vad d.ob h.size,λb h0 a=>(h.same b (.inr a)).trans (d.old b h0 a),λb a=>h.sh b AA⟩ h.sub (.F_ (mw λx s=>?_)) ⟨h.size,h.later,h.output,h.tape⟩ ⟨u,Y,h.rows,h.cap,λb a=>h.same b (.inl a)⟩;simp at s;rcases s with rfl|rfl
  .exact x7 h.val
  .exact .iH _ _
def auo{t v}(p:fG (dr prog) M (ju M) w)(d:∀g,g<=prog.globals.size->M g)(hv:n8 w v t)(hrel:au (b7 M) v v)(h0:0<t.length)(a:t.length<=1000000){af S W:Nat}(f:0<af)(l:af<=64)(k:0<W)(m:W<=16)(n:S<=300)(s:t[0].ff.length=S)(y:∀i,i<S->∀c∈t,xy i c):
 fZ O prog Post 35 #[.agg #[.I (W:Int),.I (af:Int)],.iface 113 (.agg #[v])] M w 1 (VN M w (mU t 0 S)):=by
 have j:fG (da prog false) M bL w:=HR p;have q:(λb=>M b\/bL b)=M:=by
  funext b
  exact propext ⟨λh=>h.resolve_right λx=>x,.inl⟩
 refine U8 (j4:=204) (ox:=λc T u M' w=>o6 (da prog false) M c.K (xQ t (T*af) (min (T*af+af) S)) u M' w) (g:=mU t) (Vm λi=>([((i:Nat):Int)],t.map (nk · i))) f l k m n Y (arm v) d j (λST bs r=>?_) (λc cH Stop hK a5 ss o hI=>?_)
 .grind[ari,x7]
 .refine aqW (v:=v) (t:=t) (a8:=M) hK d (by grind[pE]) (av.bo.carry xP (sF hI j) (x7 hrel) hv) (by grind[x7]) (λargs w=>arl v args w) a (λT e=>?_) (λT e=>by grind[DK]) o;have:=(HS (S:=S) f).2 T (a5▸e);grind
end
end
end aV
namespace aV
open Conc ConcM RowKit av bj cV dx bd b_ e9
structure Rd(aq:Type) where
 R:aR->(Nat->Option Value)->aq->Prop
 mono:p_ R
 f7:xO R
def HT:Rd Int:=⟨sg,q8,Dq⟩
def W3:Rd ByteArray:=⟨Gp,Sx,T3⟩
def W0:Rd Bool:=⟨CA,Sw,T2⟩
def VR:Rd a9:=⟨AO,si,xP⟩
section
variable{aq:Type}(dK:Nat)(r:Rd aq)(xs:List aq)(x:aq)
def fS:bg:=⟨λw v=>bo w dK r.R v xs,λ_ _ _ hb h=>h.mono r.mono (bp.cy hb),λ_=>True,λ_ _ _ _ _ _ _ hc hv h=>av.bo.carry r.f7 hc.cells hv h⟩
def HU:Rd (List aq):=⟨λw rd xs=>∃v,rd 0=some v/\bo w dK r.R v xs,λ_ _ _ _ _ hk hr⟨v,h0,h⟩=>⟨v,hr _ _ h0,h.mono r.mono hk⟩,λρ w w' rd lg x hc hr⟨v,h0,h⟩=>by
 obtain⟨v',h1,h2⟩:=hr 0 v h0
 exact⟨v',h1,av.bo.carry r.f7 hc h2 h⟩⟩
def auy(w:aR)(v:Value):Prop:=∃b o,v=.P b o/\r.R w (λj=>w.cell? (.a b (o+j))) x
def ji:bg:=⟨auy r x,λw w' v hb⟨b,o,e,h⟩=>⟨b,o,e,r.mono _ _ _ _ _ (bp.cy hb) (λj v hv=>bp.cy hb _ _ _ hv) h⟩,λ_=>True,λn _ ρ w w' v v' hc hv⟨b,o,e,h⟩=>by
 subst e
 obtain⟨b',rfl,q⟩:=zg hv
 exact⟨b',o,Y,r.f7 ρ w w' _ _ x hc.cells (λj v hv=>hc.cells ⟨b,o+j,none⟩ ⟨b',o+j,none⟩ v ⟨q,Y,Y⟩ hv) h⟩⟩
end
def O1(v:Value)(F:bg):bg:=⟨λw u=>u=v/\F.R w u,λ_ _ _ hb h=>⟨h.1,F.jS _ _ _ hb h.2⟩,λ_=>False,λ_ h=>h.elim⟩
def O2(B:Nat)(cs:dX)(T:uaa):bg:=⟨λw u=>∃b,u=.P b 0/\B<=b/\ag w b cs T,λ_ _ _ hb⟨b,h1,h2,h3⟩=>⟨b,h1,h2,h3.call hb⟩,λ_=>False,λ_ h=>h.elim⟩
def BD(B:Nat)(F:bg):bg:=⟨λw u=>B<=w.heap.size/\F.R w u,λ_ _ _ hb h=>⟨vad h.1 hb.size,F.jS _ _ _ hb h.2⟩,λ_=>False,λ_ h=>h.elim⟩
variable{a':Act}{w':aR}
theorem ak.of{N l}(a5:a'.tmps.size=N)(b:∀p∈l,∃v,a'.tmps[p.1]?=some v/\p.2.R w' v):ak N (bh l) a' w':=by
 refine⟨a5,λs F e=>?_⟩;have key:∀l:List (Nat×bg),bh l s=some F->(s,F)∈l:=by intro l;induction l with|nil=>intro e;cases e|cons p l a=>grind[bh]
 grind
variable{a:Act}{w:aR}
def ak.get{N K s F}{G:bg}(h:ak N K a w)(hs:K s=some F)(b:a'.tmps[s]?=a.tmps[s]?)(c:∀v,F.R w v->G.R w' v):∃v,a'.tmps[s]?=some v/\G.R w' v:=by obtain⟨v,h4,d⟩:=h.has s F hs;grind
def ak.alq{N K}(h:ak N K a w){l}(a5:a'.tmps.size=N)(b:∀p∈l,a'.tmps[p.1]?=a.tmps[p.1]?/\∃F,K p.1=some F/\∀v,F.R w v->p.2.R w' v):ak N (bh l) a' w':=
 ak.of a5 λp h1=>by obtain⟨h2,F,h3,h4⟩:=b p h1;exact h.get h3 h2 h4
def auz:bg:=⟨λ_ _=>True,λ_ _ _ _ h=>h,λ_=>True,λ_ _ _ _ _ _ _ _ _ h=>h⟩
inductive wH:Value->Prop
 |int (k:IntKind) (n:Int):wH (.int k n)
 |bool (b:Bool):wH (.bool b)
 |string (s:ByteArray):wH (.string s)
 |nil (l c:Nat):wH (.slice none l c)
def wH.same{ρ x y}(h:wH x)(hv:au ρ x y):y=x:=by cases h with|int=>exact hP hv|bool=>exact UG hv|string=>cases hv;rfl|nil=>exact lx hv
theorem VS{ρ}:∀{l a:uai},(∀x∈l,wH x)->dJ (au ρ) l a->a=l
 | [],_,_,.nil=>rfl
 |x::l,_,h,.cons h1 h2=>by rw[(h x AS).same h1,VS (λy b=>h y AA) h2]
def WZ(l:uai)(h:∀x∈l,wH x):bg:=⟨eO (.agg l.toArray),uV.eq _,λ_=>True,λn _ ρ w w' v v' hc hv e=>by
 cases e
 obtain⟨l',rfl,k⟩:=uU hv
 rw[VS h k]
 rfl⟩
variable{v:Value}
section
variable{P:cE}{N:Nat}{K:b6}{o:Oper}{F:bg}{x y z:uam}
def fe{b}(c:bw K x b)(h:∀(ev:uah) w,b.R w (ev x)->∃v w1,(execOp ev o).run P w=.ok (.value v) w1/\F.R w1 v/\c6 w w1):bU P N K o F:=λa w hk=>.inl (h a.eval w (hk.ev c))
def sR{b c}(e:bw K x b)(d:bw K y c)(h:∀(ev:uah) w,b.R w (ev x)->c.R w (ev y)->∃v w1,(execOp ev o).run P w=.ok (.value v) w1/\F.R w1 v/\c6 w w1):bU P N K o F:=λa w hk=>.inl (h a.eval w (hk.ev e) (hk.ev d))
def bk(b:o.op=.move x)(a:bw K x F):bU P N K o F:=fe a λev w h=>⟨_,w,by simp[execOp,b],h,vaa _ _⟩
def auA(b:o.op=.move x)(a:bw K x (O1 v F)):bU P N K o F:=fe a λev w h=>⟨_,w,by simp[execOp,b],h.2,vaa _ _⟩
def dO(b:o.op=.assign x)(a:bw K x F):bU P N K o F:=fe a λev w h=>⟨_,w,by simp[execOp,b],h,vaa _ _⟩
def iY{c}(d:o.op=.pick x y z)(b:bw K x (dt c))(a:bw K (if c then y else z) F):bU P N K o F:=sR b a λev w e h=>⟨if c then ev y else ev z,w,by
 have e:ev x=.bool c:=e;simp[execOp,d,e,go_sem],by grind,vaa _ _⟩
def sS{c:Bool}{T:uaa}(b:o.op=.unOp .not T x)(a:bw K x (dt c)):bU P N K o (dt !c):=fe a λev w e=>⟨.bool !c,w,by
 have e:ev x=.bool c:=e;simp[execOp,b,e,go_sem],Y,vaa _ _⟩
end
variable{c:a9}{m n:Int}{f:uak}
section
variable{N:Nat}{K:b6}{o:Oper}{F:bg}{x y z:uam}{aq:Type}{T T':uaa}
def z6(b:bw K x (bG m))(a:bw K y (bG n))(hF:∀w,F.R w v)(h:∀(ev:uah) w,ev x=.I m->ev y=.I n->(execOp ev o).run vfc w=.ok (.value v) w):bU vfc N K o F:=sR b a λev w e1 e2=>⟨v,w,h ev w e1 e2,hF w,vaa _ _⟩
abbrev u9(T:uaa):Prop:=T=3\/T=2
def x8(b:o.op=.binOp .add T x y T')(d:bw K x (bG m))(c:bw K y (bG n))(a:ek (m+n))(e:u9 T):bU vfc N K o (bG (m+n)):=z6 d c (λ_=>Y) λev w e1 e2=>by unfold ek at a;cases o;simp only at b;subst b;rcases e with rfl|rfl<;>(go_simp;exact IntWalk.i64_in _ a)
def WL(b:o.op=.binOp .sub T x y T')(d:bw K x (bG m))(c:bw K y (bG n))(a:ek (m-n))(e:u9 T):bU vfc N K o (bG (m-n)):=z6 d c (λ_=>Y) λev w e1 e2=>by unfold ek at a;cases o;simp only at b;subst b;rcases e with rfl|rfl<;>(go_simp;exact IntWalk.i64_in _ a)
def KX(a:o.op=.binOp .lss T x y T')(c:bw K x (bG m))(b:bw K y (bG n))(d:u9 T):bU vfc N K o (dt (decide (m<n))):=z6 c b (λ_=>Y) λev w e1 e2=>by cases o;simp only at a;subst a;rcases d with rfl|rfl<;>go_simp
def auB(a:o.op=.binOp .gtr T x y T')(c:bw K x (bG m))(b:bw K y (bG n))(d:u9 T):bU vfc N K o (dt (decide (n<m))):=z6 c b (λ_=>Y) λev w e1 e2=>by cases o;simp only at a;subst a;rcases d with rfl|rfl<;>go_simp
def u_(a:o.op=.binOp .eql T x y T')(c:bw K x (bG m))(b:bw K y (bG n))(d:u9 T):bU vfc N K o (dt (m==n)):=z6 c b (λ_=>Y) λev w e1 e2=>by cases o;simp only at a;subst a;rcases d with rfl|rfl<;>go_simp
def auC(a:o.op=.binOp .neq T x y T')(c:bw K x (bG m))(b:bw K y (bG n))(d:u9 T):bU vfc N K o (dt (m != n)):=z6 c b (λ_=>Y) λev w e1 e2=>by cases o;simp only at a;subst a;rcases d with rfl|rfl<;>go_simp
def auD{m n}(a:o.op=.binOp .eql 9 x y T')(c:bw K x (Bp m))(b:bw K y (Bp n)):bU vfc N K o (dt (m.toList==n.toList)):=sR c b λev w e1 e2=>⟨.bool (m.toList==n.toList),w,by
 have e1:ev x=.string m:=e1;have e2:ev y=.string n:=e2;cases o;simp only at a;subst a;go_simp,Y,vaa _ _⟩
def iZ{k}{r:Rd aq}{y:aq}(a:o.op=.fieldAddr 45 x k)(d:bw K x (ji VR c))(hk:k<5)(g:∀w rd,AO w rd c->r.R w (λj=>rd (k+j)) y):bU vfc N K o (ji r y):=fe d λev w h=>by
 obtain⟨b,f,e,h⟩:=h;refine⟨.P b (f+k),w,?_,⟨b,f+k,Y,?_⟩,vaa _ _⟩
 .cases o;simp only at a;subst a;have:k=0\/k=1\/k=2\/k=3\/k=4:=AQ;rcases this with rfl|rfl|rfl|rfl|rfl<;>go_simp
 .have:=g w (λj=>w.cell? (.a b (f+j))) h;grind
def va w rd(h:AO w rd c):(HU 1 HT).R w (λj=>rd (2+j)) c.im:=by obtain⟨a,vs,d,h0,h1,h2,h3,h4,b⟩:=h;exact⟨a,h2,b.im⟩
def O3 w rd(h:AO w rd c):(HU 1 W3).R w (λj=>rd (3+j)) c.iJ:=by obtain⟨b,vs,d,h0,h1,h2,h3,h4,a⟩:=h;exact⟨vs,h3,a.iJ⟩
def pR w rd(h:AO w rd c):(HU 1 W0).R w (λj=>rd (4+j)) c.ff:=by obtain⟨d,vs,a,h0,h1,h2,h3,h4,b⟩:=h;exact⟨a,h4,b.ff⟩
def b8{r:Rd aq}{y:aq}(a:o.op=.load T x)(c:bw K x (ji r y))(d:∀w rd,r.R w rd y->∃v,rd 0=some v/\F.R w v)(g:T=3\/T=2\/T=9\/T=4\/T=41\/T=42\/T=43\/T=25\/T=102\/T=33\/T=67):bU vfc N K o F:=fe c λev w h=>by obtain⟨b,f,e,h⟩:=h;obtain⟨v,h1,h2⟩:=d w _ h;refine⟨v,w,?_,h2,vaa _ _⟩;simp only[vcc]at h1;cases o;simp only at a;subst a;rcases g with rfl|rfl|rfl|rfl|rfl|rfl|rfl|rfl|rfl|rfl|rfl<;>go_simp
def pS(n:Int)(w:aR)(rd:uan)(h:HT.R w rd n):∃v,rd 0=some v/\(bG n).R w v:=⟨_,h,Y⟩
def VT(n:ByteArray)(w:aR)(rd:uan)(h:W3.R w rd n):∃v,rd 0=some v/\(Bp n).R w v:=⟨_,h.1,Y⟩
def qJ(n:Bool)(w:aR)(rd:uan)(h:W0.R w rd n):∃v,rd 0=some v/\(dt n).R w v:=⟨_,h,Y⟩
def dP{dK:Nat}{r:Rd aq}(xs:List aq)(w:aR)(rd:uan)(h:(HU dK r).R w rd xs):∃v,rd 0=some v/\(fS dK r xs).R w v:=h
abbrev O4(T:uaa)(dK:Nat):Prop:=(dK=1/\(T=41\/T=42\/T=43\/T=29\/T=33\/T=87\/T=38))\/(dK=7/\T=40)\/(dK=5/\T=25)\/(dK=4/\T=102)
def WI{dK:Nat}{r:Rd aq}{xs:List aq}{i:Nat}{e:aq}(a:o.op=.indexAddr T x y)(d:xs[i]?=some e)(g:O4 T dK)(ev:uah)(w:aR)(h:bo w dK r.R (ev x) xs)(e2:ev y=.I i):∃v w1,(execOp ev o).run vfc w=.ok (.value v) w1/\(ji r e).R w1 v/\c6 w w1:=by obtain⟨hi,rfl⟩:=vab.1 d;obtain⟨bY,cap,e1,k,j⟩:=h;obtain⟨b,f,rfl,c⟩:=j i hi;have l:(i:Int)<(xs.length:Int):=AQ;refine⟨.P b (f+i*dK),w,?_,⟨b,f+i*dK,Y,c⟩,vaa _ _⟩;cases o;simp only at a;subst a;rcases g with⟨rfl,rfl|rfl|rfl|rfl|rfl|rfl|rfl⟩|⟨rfl,rfl⟩|⟨rfl,rfl⟩|⟨rfl,rfl⟩<;>go_simp
def cT{dK:Nat}{r:Rd aq}{xs:List aq}{i:Nat}{e:aq}(c:o.op=.indexAddr T x y)(b:bw K x (fS dK r xs))(a:bw K y (bG i))(d:xs[i]?=some e)(f:O4 T dK):bU vfc N K o (ji r e):=sR b a (WI c d f)
def auE{dK:Nat}{r:Rd aq}{xs:List aq}{i:Nat}{e:aq}(c:o.op=.indexAddr T x y)(b:bw K x (O1 v (fS dK r xs)))(a:bw K y (bG i))(d:xs[i]?=some e)(f:O4 T dK):bU vfc N K o (ji r e):=sR b a λev w h=>WI c d f ev w h.2
def KY{dK}{r:Rd aq}{xs:List aq}(a:o.op=.call {callee:=.builtin .len,args:=#[x],argTypes:=#[T]})(b:bw K x (fS dK r xs))(c:O4 T dK):bU vfc N K o (bG xs.length):=fe b λev w h=>by obtain⟨bY,cap,e1,d,e⟩:=h;refine⟨.I xs.length,w,?_,Y,vaa _ _⟩;cases o;simp only at a;subst a;rcases c with⟨rfl,rfl|rfl|rfl|rfl|rfl|rfl|rfl⟩|⟨rfl,rfl⟩|⟨rfl,rfl⟩|⟨rfl,rfl⟩<;>go_simp
theorem auF(a:o.op=.binOp .neq T x y T')(c:bw K x (bG m))(b:bw K y (bG m))(d:u9 T):bU vfc N K o (dt false):=z6 c b (λ_=>Y) λev w e1 e2=>by cases o;simp only at a;subst a;rcases d with rfl|rfl<;>go_simp
def VU(c:o.op=.binOp .lss T x y T')(b:bw K x (bG m))(a:bw K y (bG n))(d:u9 T)(h:m<n):bU vfc N K o (dt true):=by have:=KX (N:=N) c b a d;grind
def KZ(c:o.op=.binOp .lss T x y T')(b:bw K x (bG m))(a:bw K y (bG n))(d:u9 T)(h:¬m<n):bU vfc N K o (dt false):=by have:=KX (N:=N) c b a d;grind
def VV{P:cE}{args:uay}{ats:uaq}(d:o.op=.call {callee:=.value (.func f),args,argTypes:=ats})(c:∀vs w,Sem.run P (callFunc f vs) w=.ok (.enter f vs) w)(h:∀a w,ak N K a w->Calls P f (args.map a.eval) w λe w'=>∃v,e=.returned v/\F.R w' v/\c6 w w'):bU P N K o F:=λa w hk=>.inr ⟨f,args.map a.eval,by
 have:=c (args.map a.eval) w;generalize b:a.eval=ev at *;have e:ev (.func f)=.func (.func f) #[] #[]:=by rw[<-b];rfl
 grind[execOp,resolve,Deferred.ofValue,invoke],h a w hk⟩
def O5{P:cE}{ats:uaq}{b:bg}(d:o.op=.call {callee:=.value (.func f),args:=#[x],argTypes:=ats})(g:∀vs w,Sem.run P (callFunc f vs) w=.ok (.enter f vs) w)(c:bw K x b)(h:∀v w,b.R w v->Calls P f #[v] w λe w'=>∃r,e=.returned r/\F.R w' r/\c6 w w'):bU P N K o F:=
 VV d g λa w hk=>by have:=h _ w (hk.ev c);grind
def VW{P:cE}{ats:uaq}{b c:bg}(i:o.op=.call {callee:=.value (.func f),args:=#[x,y],argTypes:=ats})(j:∀vs w,Sem.run P (callFunc f vs) w=.ok (.enter f vs) w)(g:bw K x b)(d:bw K y c)(h:∀v v' w,b.R w v->c.R w v'->Calls P f #[v,v'] w λe w'=>∃r,e=.returned r/\F.R w' r/\c6 w w'):bU P N K o F:=
 VV i j λa w hk=>by have:=h _ _ w (hk.ev g) (hk.ev d);grind
def VX{o2:Oper}{P:cE}{ops:fF}{i d s:Nat}{Q:uao}{rest:uac}{w1 z7:aR}{c:Value}(h1:ops[i]?=some o)(h2:ops[i+1]?=some o2)(g1:o.guard=none)(j:o2.guard=none)(hd:o.dst=some d)(f:o2.dst=none)(a5:d<N)(l:d≠s)(hk:ak N K a w)(g:a.tmps[s]?=some c)(m:∀ev:Operand->Value,(execOp ev o).run P w=.ok (.value (.P w.heap.size 0)) z7)(e:∀ev:Operand->Value,ev (.tmp d)=.P w.heap.size 0->ev (.tmp s)=c->(execOp ev o2).run P z7=.ok .skip w1)(h:c6 w w1)(hF:F.R w1 (.P w.heap.size 0))(k:∀a',ak N (up K d F) a' w1->a'.defers=a.defers->wpOps P ops Q rest a' w1):wpOps P ops Q (i::(i+1)::rest) a w:=by
 refine mS (R:=λa1 w1=>a1=a.put (some d) (.P w.heap.size 0)/\w1=z7) (nR h1 g1 hd (m _) ⟨Y,Y⟩) ?_;rintro a1 b ⟨rfl,rfl⟩;refine mS (R:=λa1 b=>a1=a.put (some d) (.P w.heap.size 0)/\b=w1) (Bo h2 j f (e _ (ej (nw (by rw[hk.size];exact a5))) (ej ((hQ l).trans g))) ⟨Y,Y⟩) ?_;rintro a1 n ⟨rfl,rfl⟩;exact k _ (hk.put a5 h hF) (put_defers _ _ _)
end
def O6{P:cE}{N id m:Nat}{ops:fF}{ks ks':uab}{Q:uae}{K K':b6}(hk:ak N K a w)(h:tP P N ops (ops.toList.take m) K K')(c:m<=ops.size)(k:∀a' w',ak N K' a' w'->a'.defers=a.defers->c6 w w'->wpOps P ops (jg (bI P (.inRegion ops []::ks) ks' Q)) (List.range' m (ops.size-m)) a' w'):bI P (.code (.region id ops false)::ks) ks' Q a w:=by
 refine Yy (n:=ops.size) Y ?_;have b:(ops.toList.take m).length=m:=AA;rw[show List.range' 0 ops.size=List.range' 0 (ops.toList.take m).length++List.range' m (ops.size-m) by
  rw[b];have:=List.range'_append_1 (s:=0) (m:=m) (n:=ops.size-m);grind]
 exact Oo h (λj o d=>by
  grind) hk k
def auG{n N}{l:uai}{fs}(hn:l.length<=n)(a5:n=N)(h:∀p∈fs,∃v,l[p.1]?=some v/\p.2.R w v):ak N (bh fs) ⟨l.toArray++Array.replicate (n-l.toArray.size) undef,[]⟩ w:=by
 subst a5;refine⟨AA,λs F e=>?_⟩;have key:∀fs:List (Nat×bg),bh fs s=some F->(s,F)∈fs:=by intro fs;induction fs with|nil=>intro e;cases e|cons p fs a=>grind[bh]
 grind
theorem Tt{ρ n v'}(h:uW n v)(hv:au ρ v v'):uW n v':=by obtain⟨a,c,rfl,b⟩:=h;obtain⟨bY,rfl⟩:=Oj hv;exact⟨_,_,Y,b⟩
def mY(rs:List cP):bg:=⟨λw v=>ko w v rs/\uW rs.length v,λ_ _ _ hb h=>⟨bo.mono zb (bp.cy hb) h.1,h.2⟩,λ_=>True,λ_ _ _ _ _ _ _ hc hv h=>⟨av.bo.carry Bj hc.cells hv h.1,Tt h.2 hv⟩⟩
def rT:Rd (List cP):=⟨λw rd rs=>∃v,rd 0=some v/\(ko w v rs/\uW rs.length v),λ_ _ _ _ _ hk hr⟨v,h0,h⟩=>⟨v,hr _ _ h0,bo.mono zb hk h.1,h.2⟩,λρ w w' rd lg x hc hr⟨v,h0,h⟩=>by
 grind[av.bo.carry,Bj,Tt]⟩
def O8(t:List a9):bg:=⟨λw v=>∃c,v=.agg #[c]/\n8 w c t,λ_ _ _ hb⟨c,e,h⟩=>⟨c,e,bo.mono si (bp.cy hb) h⟩,λ_=>True,λ_ _ ρ w w' v v' hc hv⟨c,e,h⟩=>by
 subst e
 obtain⟨l',rfl,k⟩:=uU (l:=[c]) hv
 cases k with
 |cons k1 k=>cases k;exact⟨_,Y,av.bo.carry xP hc.cells k1 h⟩⟩
def nU:Rd (List a9):=⟨λw rd t=>∃v,rd 0=some v/\n8 w v t,λ_ _ _ _ _ hk hr⟨v,h0,h⟩=>⟨v,hr _ _ h0,bo.mono si hk h⟩,λρ w w' rd lg x hc hr⟨v,h0,h⟩=>by
 grind[av.bo.carry,xP]⟩
def mZ(x y:Int):bg:=⟨eO (.agg #[.I x,.I y]),uV.eq _,λ_=>True,λ_ _=>ab7 x y⟩
abbrev vc:=Int×Int×List Int×List (Int×Int)
def pU:Rd vc:=⟨λw rd n=>∃q v,(rd 0=some (.I n.1)/\rd 1=some (.I n.2.1)/\rd 2=some (.I 0)/\rd 3=some (.N)/\rd 4=some q/\rd 5=some (.N)/\rd 6=some v)/\h5 w q n.2.2.1/\bo w 2 Gq v n.2.2.2,λ_ _ _ _ _ hk hr⟨q,v,⟨h0,h1,h2,h3,h4,aP,bE⟩,h,h'⟩=>⟨q,v,⟨hr _ _ h0,hr _ _ h1,hr _ _ h2,hr _ _ h3,hr _ _ h4,hr _ _ aP,hr _ _ bE⟩,bo.mono q8 hk h,bo.mono nf hk h'⟩,λρ w w' rd lg n hc hr⟨q,v,⟨h0,h1,h2,h3,h4,aP,bE⟩,h,h'⟩=>by
 obtain⟨nF,e0,r0⟩:=hr _ _ h0
 obtain⟨dG,e1,r1⟩:=hr _ _ h1
 obtain⟨d_,e2,r2⟩:=hr _ _ h2
 obtain⟨eN,e3,r3⟩:=hr _ _ h3
 obtain⟨j_,e4,C9⟩:=hr _ _ h4
 obtain⟨sO,eE,nL⟩:=hr _ _ aP
 obtain⟨BG,iB,ut⟩:=hr _ _ bE
 rw[hP r0]at e0
 rw[hP r1]at e1
 rw[hP r2]at e2
 rw[lx r3]at e3
 rw[lx nL]at eE
 exact⟨j_,BG,⟨e0,e1,e2,e3,e4,eE,iB⟩,av.bo.carry Dq hc C9 h,av.bo.carry N0 hc ut h'⟩⟩
def V4(n:vc)(w:aR)(u:Value):Prop:=∃q v,u=.agg [.I n.1,.I n.2.1,.I 0,.N,q,.N,v].toArray/\h5 w q n.2.2.1/\bo w 2 Gq v n.2.2.2
def rU(n:vc):bg:=⟨V4 n,λ_ _ _ hb⟨q,v,e,h,h'⟩=>⟨q,v,e,bo.mono q8 (bp.cy hb) h,bo.mono nf (bp.cy hb) h'⟩,λ_=>True,λ_ _ ρ w w' u gz hc hv⟨q,v,e,h,h'⟩=>by
 subst e
 obtain⟨l',rfl,k⟩:=uU hv
 cases k with
 |cons k1 k=>cases k with
  |cons k2 k=>cases k with
   |cons k3 k=>cases k with
    |cons k4 k=>cases k with
     |cons fo k=>cases k with
      |cons hY k=>cases k with
       |cons nG k=>
        cases k
        rw[hP k1,hP k2,hP k3,lx k4,lx hY]
        exact⟨_,_,Y,av.bo.carry Dq hc.cells fo h,av.bo.carry N0 hc.cells nG h'⟩⟩
def sT(rs:List cP):bg:=⟨λw u=>∃v,u=.tuple [v,.N].toArray/\(mY rs).R w v,λ_ _ _ hb⟨v,e,h⟩=>⟨v,e,(mY rs).jS _ _ _ hb h⟩,λ_=>True,λ_ _ ρ w w' u gz hc hv⟨v,e,h⟩=>by
 subst e
 obtain⟨l',rfl,k⟩:=Hh hv
 cases k with
 |cons k1 k=>cases k with
  |cons k2 k=>
   cases k
   rw[lx k2]
   exact⟨_,Y,(mY rs).f7 0 trivial _ _ _ _ _ ⟨hc.cells,hc.types,λ_ _ _ _=>vax _,hc.inj⟩ k1 h⟩⟩
def x9:Rd (Int×Int):=⟨λ_ rd x=>rd 0=some (.I x.1)/\rd 1=some (.I x.2),λ_ _ _ _ _ _ hr⟨h1,h2⟩=>⟨hr _ _ h1,hr _ _ h2⟩,λρ w w' rd lg x hc hr⟨h1,h2⟩=>by
 grind[hP]⟩
def Tp(T:uaa)(F:bg):bg:=⟨λw v=>∃u,v=.iface T u/\F.R w u,λ_ _ _ hb⟨u,e,h⟩=>⟨u,e,F.jS _ _ _ hb h⟩,F.ok,λn ok ρ w w' v v' hc hv⟨u,e,h⟩=>by
 subst e
 cases hv
 rename_i k
 exact⟨_,Y,F.f7 n ok _ _ _ _ _ hc k h⟩⟩
section
variable{N:Nat}{K:b6}{o:Oper}{F:bg}{x y z:uam}{T T':uaa}
def Tn{n}(b:o.op=.box 35 x)(d:bw K x (rU n)):bU vfc N K o (ji pU n):=fe d λev w h=>by obtain⟨q,v,e,h,c⟩:=h;have a:c6 w (w.alloc (.cells #[.I n.1,.I n.2.1,.I 0,.N,q,.N,v] 35)):=(vaa _ w).alloc JR _;have f:=bo.mono nf (bp.cy a) c;have hq:=bo.mono q8 (bp.cy a) h;obtain⟨j,i,rfl,-,-⟩:=c;obtain⟨g,cg,rfl,-,-⟩:=h;refine⟨.P w.heap.size 0,_,by cases o;simp only at b;subst b;go_simp,⟨w.heap.size,0,Y,_,_,⟨?_,?_,?_,?_,?_,?_,?_⟩,hq,f⟩,a⟩<;>exact n2 (vbb w _) Y Y
def V5(a:o.op=.box 63 x)(b:bw K x (mZ m n)):bU vfc N K o (ji x9 (m,n)):=fe b λev w h=>by have h:ev x=.agg #[.I m,.I n]:=h;have c:c6 w (w.alloc (.cells #[.I m,.I n] 63)):=(vaa _ w).alloc JR _;refine⟨.P w.heap.size 0,_,A9,⟨w.heap.size,0,Y,?_,?_⟩,c⟩<;>exact n2 (vbb w _) Y Y
def Tb{n}(a:o.op=.fieldAddr 35 x 0)(c:bw K x (ji pU n)):bU vfc N K o (ji HT n.1):=fe c λev w h=>by obtain⟨b,f,e,q,v,⟨h0,h1,h2,h3,h4,i,g⟩,h,d⟩:=h;exact⟨.P b f,w,A9,⟨b,f,Y,h0⟩,vaa _ _⟩
def S7{n}(a:o.op=.fieldAddr 35 x 1)(c:bw K x (ji pU n)):bU vfc N K o (ji HT n.2.1):=fe c λev w h=>by obtain⟨b,f,e,q,v,⟨h0,h1,h2,h3,h4,i,g⟩,h,d⟩:=h;exact⟨.P b (f+1),w,A9,⟨b,f+1,Y,h1⟩,vaa _ _⟩
def V6{n}(a:o.op=.load 35 x)(d:bw K x (ji pU n)):bU vfc N K o (rU n):=fe d λev w h=>by obtain⟨b,f,e,q,v,⟨h0,h1,h2,h3,h4,i,g⟩,h,c⟩:=h;simp only[vcc]at h0;refine⟨.agg #[.I n.1,.I n.2.1,.I 0,.N,q,.N,v],w,?_,⟨q,v,Y,h,c⟩,vaa _ _⟩;clear h c;cases o;simp only at a;subst a;go_simp
def K2(a:o.op=.load 63 x)(c:bw K x (ji x9 (m,n))):bU vfc N K o (mZ m n):=fe c λev w h=>by obtain⟨b,f,e,h0,h1⟩:=h;simp only[vcc]at h0 h1;exact⟨.agg #[.I m,.I n],w,A9,Y,vaa _ _⟩
def auO{t}(a:o.op=.load 27 x)(c:bw K x (ji nU t)):bU vfc N K o (O8 t):=fe c λev w h=>by obtain⟨b,f,e,v,h0,h1⟩:=h;simp only[vcc]at h0;refine⟨.agg #[v],w,?_,⟨v,Y,h1⟩,vaa _ _⟩;clear h1;cases o;simp only at a;subst a;go_simp
def mM(a:o.op=.makeInterface T x)(b:bw K x F)(c:T=113):bU vfc N K o (Tp T F):=fe b λev w h=>by refine⟨.iface T (ev x),w,?_,⟨_,Y,h⟩,vaa _ _⟩;clear h;cases o;simp only at a;subst a;subst c;go_simp
def V7{rs}(a:o.op=.extract x 0)(b:bw K x (sT rs)):bU vfc N K o (mY rs):=fe b λev w h=>by obtain⟨v,e,h⟩:=h;refine⟨v,w,?_,h,vaa _ _⟩;clear h;cases o;simp only at a;subst a;go_simp
def sU:bg:=⟨eO (.N),uV.eq _,λ_=>True,λ_ _ _ _ _ _ _ _ hv h=>by cases h;exact lx hv⟩
def V8{rs}(a:o.op=.extract x 1)(b:bw K x (sT rs)):bU vfc N K o sU:=fe b λev w h=>by obtain⟨v,e,h⟩:=h;refine⟨.N,w,?_,Y,vaa _ _⟩;clear h;cases o;simp only at a;subst a;go_simp
def auP{t}(a:o.op=.build 113 #[(0,x)])(b:bw K x (O8 t)):bU vfc N K o (O8 t):=fe b λev w h=>by obtain⟨c,e,h⟩:=h;refine⟨.agg #[c],w,?_,⟨_,Y,h⟩,vaa _ _⟩;obtain⟨bY,cap,rfl,-⟩:=h;cases o;simp only at a;subst a;go_simp
def S3(rs:List cP)(w:aR)(rd:uan)(h:rT.R w rd rs):∃v,rd 0=some v/\(mY rs).R w v:=h
end
end aV
namespace aV
open Conc ConcM RowKit av bj cV dx bd
section
variable{O:gW}
def dT(f:Func)(id:Nat):Array Oper:=bQ.pd ((bQ.eu id (f.body.getD .skip)).getD .skip)
def tX(f:Func)(id:Nat):Code:=bQ.lA ((bQ.eu id (f.body.getD .skip)).getD .skip)
def rV(id:Nat):Code->Option (Array Oper)
 | .region i o _=>if i==id then some o else none
 | .seq x y=>match rV id x with|some c=>some c|none=>rV id y
 | .block _ c=>rV id c
 | .loop c=>rV id c
 | .cond _ x y=>match rV id x with|some c=>some c|none=>rV id y
 | _=>none
def az(f:Func)(id:Nat):Array Oper:=(rV id (f.body.getD .skip)).getD #[]
def HW{l:Option Oper}{o o':Oper}(h:l=some o)(e:l=some o':=by simp only[dT,Tryz.f5,Tryz.f3,Tryz.f4,Tryz.f13,Tryz.f15,Tryz.f18,Tryz.f25,Tryz.f37,vaf,bQ.eu,bQ.pd,Nat.reduceBEq,vah,↓reduceIte];exact rfl):o'=o:=van (e.symm.trans h)
def fE(l:fF){l':fF}(e:l=l':=by simp only[az,rV,dT,Tryz.f5,Tryz.f3,Tryz.f4,Tryz.f13,Tryz.f15,Tryz.f18,Tryz.f25,Tryz.f37,vaf,bQ.eu,bQ.pd,Nat.reduceBEq,vah,↓reduceIte];exact rfl):l=l':=e
def BH(f:Func):Code:=f.body.getD .skip
def vcj{P:cE}{f:uak}{fn:Func}{c:Code}(a:P.funcs[f]?=some fn)(b:fn.body=some c)(args:dX):Frame.enter P f args .normal=(base f).at ⟨args++Array.replicate (fn.ntmps-args.size) undef,[]⟩ [.code c]:=by grind[Frame.enter,Frame.at,base]
def Fg ρ n:aJ ρ (Array.replicate n undef) (Array.replicate n undef):=⟨Y,λi v v' h a=>by
 rw[Array.getElem?_replicate]at h a;split at h<;>simp_all
 subst h;subst a;exact .undef ρ⟩
def SU ρ a b:aJ ρ #[.I a,.I b] #[.I a,.I b]:=mw (l:=[.I a,.I b]) λx c=>by simp at c;rcases c with rfl|rfl<;>exact .int _ _
def SS:gE prog true f25=true:=by decide+kernel
def mixed:prog.follows .mixedOrders=true:=by decide+kernel
theorem x_{w:aR}{a v}(h:w.cell? a=some v)o:(w.alloc o).cell? a=some v:=by grind[xd,n2,Below.heap_alloc]
end
end aV
namespace aV
open Conc ConcM RowKit av bj cV dx
variable{P:cE}{f:uak}{ats:uaq}
section
variable{O:gW}
def SG{Post:hV}{M:dL}{w:aR}{fn:Func}{body:Code}{args:dX}{N id:Nat}{a8 z9 g:b6}{ops:fF}{Fr:bg}(ks:uab)(l:(dr P).Good)(T:P.follows .mixedOrders=true)(j:P.funcs[f]?=some fn)(r:gE P true fn=true)(m:fn.body=some body)(eM:aJ (b7 M) args args)(h0:ak N a8 ⟨args++Array.replicate (fn.ntmps-args.size) undef,[]⟩ w)(Z:∀s F,a8 s=some F->F.ok w.heap.size)(D:∀s F,z9 s=some F->F.ok w.heap.size){l2:List (Nat×bg)}(p:Kq w.heap.size l2)(V9:Fr.ok w.heap.size)(hi:[Item.code body].all (fB P)=true)(li:(Item.code (.region id ops true):: .code .ret::ks).all (fB P)=true)(q:(Item.inRegion ops []:: .code .ret::ks).all (fB P)=true)(K3:∀a W,a.defers=[]->ak N a8 a W->bI (ae P true) [.code body] (.code (.region id ops true):: .code .ret::ks) (λa1 w1=>a1.defers=[]/\ak N z9 a1 w1/\c6 W w1) a W){S:oF}(gH:K0 ops S=true)(hK:qE z9 ops.toList=true){h:Oper}{d:Nat}{gf:uak}{cA:Func}{gV:Code}{C:uay}(V:ops[S.g]?=some h)(i:h.op=.call {callee:=.value (.func gf),args:=C,argTypes:=ats})(L:P.funcs[gf]?=some cA)(kF:(cA.name== "runtime.NumGoroutine")=false)(k:cA.body=some gV)(c_:h.guard=none){gJ:Tmp}(iv:h.dst=some gJ){cW:bg}(hG:tW (ae P true) N w.heap.size ops S z9 (λ_=>none) cW (λE=>∀a M w Shun,Home O P M Shun w->ak N E a w->aJ (b7 M) a.tmps a.tmps->fZ O P Post gf (C.map a.eval) M w d (λu _ w'=>cW.R w' u/\dy M w w')) ops.toList 0 (λ_=>none) z9 g)(hS:S.kr=[])(hin:Om g l2)(U:∀a W,ak N (bh l2) a W->∃v,(results fn a.tmps).run (ae P true) W=.ok v W/\Fr.R W v):
 fZ O P Post f args M w d (λu _ w'=>Fr.R w' u/\dy M w w'):=by
 intro n Shun hn aN gX aI aC aL aO aK csZ hc di;have t:jQ P f:=Bm j r m;rw[vcj j m];have H:=Held.start (n0:=w.heap.size) aN JR (a:=⟨args++Array.replicate (fn.ntmps-args.size) undef,[]⟩) (eM.append (Fg _ _)) Y;refine UD l t H hi li (I:=ak N a8) (J:=ak N z9) (kZ _ Z) (kZ _ D) h0 (λW A hI=>?_) λa' M' w' fD B=>?_
 .intro b cs;obtain⟨a1,w1,⟨aZ,a3,q3⟩,q4⟩:=K3 _ W Y hI b cs;exact⟨a1,w1,⟨aZ,a3,q3.mono A⟩,q4⟩
 refine Ty (Q:=λ_=>none) l T t q D (λ_ _ e=>GA) gH hK Hf V i L kF k c_ hn iv hG (.inl ⟨hS,Y⟩) fD B ⟨B.size,λ_ _ e=>GA⟩ λa6 M2 w2 ik HX fp R x=>?_;refine Kp l j r m x q hc (I:=ak N (bh l2)) (iC:=Fr.R) (kZ _ (jT p)) (Fr.f7 _ V9) (fp.aT hin) (λW A hI=>?_) λu X K h1 h2 h3 h4 aP bE=>?_
 .obtain⟨v,aZ,a3⟩:=U _ W hI;exact DH (xW (lV (Og x.defers aZ ⟨a3,vaa _ _⟩)))
 .exact di u X K ik HX R h1 h2 h3 h4 ⟨bE,λb c e z k y=>aP b c e z ⟨k,(vao.1 y).1⟩ y⟩
def SF{Post:hV}{M:dL}{w:aR}{fn:Func}{body:Code}{args:dX}{N i:Nat}{rest:uac}{l0 l1:List (Nat×bg)}{ops:fF}{o:Oper}{ks:uab}{d:Nat}{g:uak}{cA:Func}{gV:Code}{T:uay}{h:Tmp}{cW Fr:bg}(R:(dr P).Good)(r:P.funcs[f]?=some fn)(K:gE P true fn=true)(A:fn.body=some body)(eM:aJ (b7 M) args args)(h0:ak N (bh l0) ⟨args++Array.replicate (fn.ntmps-args.size) undef,[]⟩ w)(mq:Kq w.heap.size l0)(q:Kq w.heap.size l1)(C:cW.ok w.heap.size)(V9:Fr.ok w.heap.size)(hi:[Item.code body].all (fB P)=true)(E:(Item.inRegion ops []::ks).all (fB P)=true)(m:ops[i]?=some o/\o.op=.call {callee:=.value (.func g),args:=T,argTypes:=ats}/\o.guard=none/\o.dst=some h)(U:h<N)(hg:P.funcs[g]?=some cA)(kF:(cA.name== "runtime.NumGoroutine")=false)(p:cA.body=some gV)(K3:∀a W,a.defers=[]->w.heap.size<=W.heap.size->ak N (bh l0) a W->bI (ae P true) [.code body] (.inRegion ops (i::rest)::ks) (λa1 w1=>a1.defers=[]/\ak N (bh l1) a1 w1/\Below w.heap.size W w1) a W)(iS:∀a M w Shun,Home O P M Shun w->ak N (bh l1) a w->aJ (b7 M) a.tmps a.tmps->fZ O P Post g (T.map a.eval) M w d (λu _ w'=>cW.R w' u/\dy M w w'))(kS:∀a W,a.defers=[]->w.heap.size<=W.heap.size->ak N (up (bh l1) h cW) a W->tM (ae P true) fn (.inRegion ops rest::ks) (λv w1=>Fr.R w1 v/\Below w.heap.size W w1) a W):
 fZ O P Post f args M w d (λu _ w'=>Fr.R w' u/\dy M w w'):=by
 intro n Shun hn S gX aI aC aL aO aK csZ hc di;have L:jQ P f:=Bm r K A;rw[vcj r A];have D:∀l,(Item.inRegion ops l::ks).all (fB P)=true:=λl=>by simpa[fB]using E
 have H:=Held.start (n0:=w.heap.size) S JR (a:=⟨args++Array.replicate (fn.ntmps-args.size) undef,[]⟩) (eM.append (Fg _ _)) Y;refine UD R L H hi (D _) (I:=ak N (bh l0)) (J:=ak N (bh l1)) (kZ _ (jT mq)) (kZ _ (jT q)) h0 (λW t hI=>K3 _ W Y t hI) λa' M' w' j y=>?_;have hok:∀s F,up (bh l1) h cW s=some F->F.ok w.heap.size:=λs F e=>by
  unfold up at e;split at e
  .cases e;exact C
  .exact jT q s F e
 refine ab3 m.2.1 hg kF p hn L j E m.1 m.2.2.1 ⟨m.2.2.2,by rw[y.size];exact U⟩ (I:=ak N (bh l1)) (J:=ak N (up (bh l1) h cW)) (iP:=cW.R) (kZ _ (jT q)) y (λk=>iS a' M' (w'.at k) Shun (j.at k).fC (kZ _ (jT q) _ _ _ _ _ ((show dy M' w' (w'.at k)from λ_ _ _ _ _ x=>x).my (n0:=w.heap.size) j.fC) j.all y) j.all) (λu X h1 h2=>h1.put U (vaa _ _) h2) λa6 M2 X ik HX Z Q B=>?_;exact Kp R r K A Q (D _) hc (I:=ak N (up (bh l1) h cW)) (iC:=Fr.R) (kZ _ hok) (Fr.f7 _ V9) B (λW t hI=>kS _ W Q.defers t hI) λu ny V h1 h2 h3 h4 aP bE=>di u ny V ik HX Z h1 h2 h3 h4 ⟨bE,λb c e z p hx=>aP b c e z ⟨p,S.lt p⟩ hx⟩
end
open bd b_ e9
def vd{N i m r:Nat}{ops:fF}{ks ks':uab}{Q:uae}{K K':b6}{a:Act}{w:aR}(hk:ak N K a w)(h:tP P N ops ((ops.toList.drop i).take m) K K')(g:i+m<=ops.size)(k:∀a' w',ak N K' a' w'->a'.defers=a.defers->c6 w w'->bI P (.inRegion ops (List.range' (i+m) r)::ks) ks' Q a' w'):bI P (.inRegion ops (List.range' i (m+r))::ks) ks' Q a w:=λb cs=>by
 obtain⟨a1,w1,h1,h2⟩:=Kl (R:=bI P (.inRegion ops (List.range' (i+m) r)::ks) ks' Q) (List.range' (i+m) r) (List.range' i m) a w (by
  have d:((ops.toList.drop i).take m).length=m:=BA;have:=Oo (Q:=jg (bI P (.inRegion ops (List.range' (i+m) r)::ks) ks' Q)) (rest:=[]) h (i:=i) (λj o l=>AA) hk λa' w' h1 h2 h3=>⟨Y,k a' w' h1 h2 h3⟩;rw[d,vdc]at this;exact this) b ks cs
 obtain⟨f,c,h3,h4⟩:=h1 b cs;have e:List.range' i (m+r)=List.range' i m++List.range' (i+m) r:=by simp[List.range'_append]
 rw[e];exact⟨f,c,h3,h2.trans h4⟩
def V_(w w':aR):Prop:=∀b o v,v≠ .N->w.cell? (.a b o)=some v->w'.cell? (.a b o)=some v
variable{aq:Type}
def Wa{w w' dK}{R:aR->(Nat->Option Value)->aq->Prop}{v}{xs:List aq}(f:∀x∈xs,∀b o,R w (λj=>w.cell? (.a b (o+j))) x->R w' (λj=>w'.cell? (.a b (o+j))) x)(h:bo w dK R v xs):bo w' dK R v xs:=by obtain⟨bY,cap,rfl,c,d⟩:=h;refine⟨bY,cap,Y,c,λi hi=>?_⟩;obtain⟨b,off,e,a⟩:=d i hi;exact⟨b,off,e,f _ (vae hi) _ _ a⟩
def SE{w dK}{R:aR->(Nat->Option Value)->aq->Prop}{v}{xs:List aq}(h:bo w dK R v xs)(a:0<xs.length):v≠ .N:=by obtain⟨bY,cap,rfl,-,-⟩:=h;grind
def Sp{w dK}{R:aR->(Nat->Option Value)->aq->Prop}{v}{xs:List aq}(h:bo w dK R v xs):v.oneCell'=true:=by obtain⟨bY,cap,rfl,-,-⟩:=h;rfl
def Full(rs:List cP):Prop:=∀r∈rs,0<r.1.length/\0<r.2.length
def Sk{w w'}(hk:V_ w w'){v rs}(f:Full rs)(h:ko w v rs):ko w' v rs:=by refine Wa (λx e b o⟨pv,a,h0,h1,h2,h3⟩=>?_) h;obtain⟨d,c⟩:=f x e;exact⟨pv,a,hk _ _ _ (SE h2 d) h0,hk _ _ _ (SE h3 c) h1,Wa (λy _ b o h=>hk _ _ _ AS h) h2,Wa (λy _ b o⟨h0,h1,h2,h3,h4⟩=>⟨hk _ _ _ AS h0,hk _ _ _ AS h1,hk _ _ _ AS h2,hk _ _ _ AS h3,h4⟩) h3⟩
def z_(n0 N:Nat)(D:List (List cP))(w:aR)(v:Value):Prop:=∃b cs,v=.S b 0 D.length N/\n0<=b/\ag w b cs 67/\cs.size=N/\(∀(i:Nat) rs,D[i]?=some rs->∃u,cs[i]?=some u/\(mY rs).R w u)/\∀i,D.length<=i->i<N->cs[i]?=some (.N)
def Wb(n0:Nat)(w:aR)(v:Value):Prop:=∃b,v=.P b 0/\n0<=b/\ag w b #[.I 0,.N] 58
variable{T:uaa}
section
variable{n0 N:Nat}{D:List (List cP)}
def Sb{ρ w w'}(f:sK n0 ρ w w'){b d}(r:ρ.rel b d){cs}(h:ag w b cs T):∃a,ag w' d a T/\a.size=cs.size/\∀(i:Nat) u,cs[i]?=some u->∃c,a[i]?=some c/\au ρ u c:=by obtain⟨a,e,g⟩:=f.types _ _ _ _ _ r h;refine⟨a,e,g,λi u hi=>?_⟩;obtain⟨c,aZ,a3⟩:=f.cells ⟨b,i,none⟩ ⟨d,i,none⟩ u ⟨r,Y,Y⟩ ((h.rules.1 i).trans hi);exact⟨c,((ag.rules e).1 i).symm.trans aZ,a3⟩
def auT:kY n0 (z_ n0 N D):=by
 rintro ρ w w' v v' c hv ⟨b,cs,rfl,hn,g,hs,h1,h2⟩;obtain⟨j,rfl,r⟩:=rH hv;obtain⟨h,f,e,key⟩:=Sb c r g;refine⟨j,h,Y,c.new _ _ r hn,f,e.trans hs,λi rs hi=>?_,λi h3 h4=>?_⟩
 .obtain⟨u,aZ,a3⟩:=h1 i rs hi;obtain⟨d,q4,a⟩:=key i u aZ;exact⟨d,q4,(mY rs).f7 _ trivial _ _ _ _ _ c a a3⟩
 .obtain⟨d,q4,a⟩:=key i _ (h2 i h3 h4);rw[lx a]at q4;exact q4
def auU:kY n0 (Wb n0):=by
 rintro ρ w w' v v' a hv ⟨b,rfl,hn,e⟩;obtain⟨g,rfl,r⟩:=zg hv;obtain⟨f,d,c,key⟩:=Sb a r e;obtain⟨u0,q0,e0⟩:=key 0 _ Y;obtain⟨u1,aZ,e1⟩:=key 1 _ Y;rw[hP e0]at q0;rw[lx e1]at aZ;refine⟨g,Y,a.new _ _ r hn,?_⟩;have:f=#[.I 0,.N]:=by apply vcm;intro i;match i with|0=>exact q0|1=>exact aZ|i+2=>simp[c]
 exact this▸d
def RZ(n0 N:Nat)(D:List (List cP)):bg:=⟨z_ n0 N D,λw w' v hb⟨b,cs,e,h1,h2,h3,h4,aP⟩=>⟨b,cs,e,h1,h2.call hb,h3,λi rs hi=>by
 obtain⟨u,aZ,a3⟩:=h4 i rs hi
 exact⟨u,aZ,(mY rs).jS _ _ _ hb a3⟩,aP⟩,λn=>n=n0,λn h=>h▸auT⟩
def HY(n0:Nat):bg:=⟨Wb n0,λw w' v hb⟨b,e,h1,h2⟩=>⟨b,e,h1,h2.call hb⟩,λn=>n=n0,λn h=>h▸auU⟩
def z_.list{w v}(h:z_ n0 N D w v)(a5:D.length<=1000):(fS 1 rT D).R w v:=by obtain⟨b,cs,rfl,-,a,-,h1,-⟩:=h;refine⟨_,_,Y,AQ,λi hi=>⟨b,0,Y,?_⟩⟩;obtain⟨u,aZ,a3⟩:=h1 i _ (vaq hi);exact⟨u,by simp[a.rules.1,aZ],a3⟩
def z_.grow{w b cs rs u}(d:ag w b cs 67)(hn:n0<=b)(hs:cs.size=N)(f:D.length<N)(h1:∀(i:Nat) rs,D[i]?=some rs->∃u,cs[i]?=some u/\(mY rs).R w u)(h2:∀i,D.length<=i->i<N->cs[i]?=some (.N))(c:(mY rs).R w u)(j:Full rs)(hF:∀x∈D,Full x):V_ w (w.setCell ⟨b,D.length,none⟩ u)/\z_ n0 N (D++[rs]) (w.setCell ⟨b,D.length,none⟩ u) (.S b 0 (D.length+1) N):=by
 have hk:V_ w (w.setCell ⟨b,D.length,none⟩ u):=λk o v hv a=>by
  by_cases e:(⟨b,D.length,none⟩:Addr)=⟨k,o,none⟩
  .cases e;rw[d.rules.1,h2 _ JR f]at a;cases a;exact absurd Y hv
  .rw[World.cell?_setCell_other (h:=e)];exact a
 refine⟨hk,b,_,AS,hn,d.set _ _,by simpa using hs,λi r hi=>?_,λi h3 h4=>?_⟩
 .by_cases e:i=D.length
  .subst e;simp at hi;subst hi;exact⟨u,by simp[hs,f],Sk hk j c.1,c.2⟩
  .have g:D[i]?=some r:=by grind
   obtain⟨v,aZ,a3⟩:=h1 i r g;exact⟨v,AA,Sk hk (hF r (List.mem_of_getElem? g)) a3.1,a3.2⟩
 .simp at h3;grind
end
def RS{w:aR}{b o:Nat}{c:dX}{e:uaa}{fr:ubr}{v:Value}(h:w.heap[b]?=some (.cells c e fr))(hv:c[o]?=some v):w.setCell ⟨b,o,none⟩ v=w:=by
 have a:(w.setCell ⟨b,o,none⟩ v).heap=w.heap:=by
  apply vcm;intro i;simp only[World.setCell,vbh];by_cases hi:b=i
  .subst hi;simp only[vcx,h,vcy];have d:o<c.size:=by grind
   have:c.setIfInBounds o v=c:=by grind
   grind
  grind
 show({w with heap:=(w.setCell ⟨b,o,none⟩ v).heap}:aR)=w;rw[a]
def sV:Value:=.agg #[.I 0,.N]
def Wc{ρ u}(h:au ρ sV u):u=sV:=by
 obtain⟨a,rfl,k⟩:=uU h;cases k with
 |cons h1 k=>cases k with
  |cons h2 k=>cases k;rw[hP h1,lx h2];rfl
def HZ(rs:List cP)(w:aR)(u:Value):Prop:=∃aW,u=.tuple #[aW,.I 0,sV]/\ko w aW rs
def RO{n0}rs:kY n0 (HZ rs):=by
 rintro ρ w w' v v' a hv ⟨aW,rfl,h⟩;obtain⟨b,rfl,k⟩:=Hh hv;cases k with
 |cons h1 k=>cases k with
  |cons h2 k=>cases k with
   |cons h3 k=>cases k;exact⟨_,by rw[hP h2,Wc h3],av.bo.carry Bj a.cells h1 h⟩
def Wd(F:Func):Code:=.seq (.block 2 (.seq (.region 6 (az F 6) false) (.cond (.tmp 32) (.seq (.region 7 (az F 7) false) .ret) (.seq (.region 8 (az F 8) false) (.cond (.tmp 39) (.seq (.region 9 (az F 9) false) .ret) .skip))))) (.region 10 (az F 10) false)
def H0(F:Func):Code:=.seq (.region 3 (az F 3) false) (.seq (.cond (.tmp 20) .skip (.exit 0)) (.seq (.block 1 (.seq (.region 4 (az F 4) false) (.seq (.region 5 (az F 5) false) (Wd F)))) (.region 11 (az F 11) false)))
def O_(F:Func):Code:=.seq (.region 12 (az F 12) false) .ret
def We(F:Func):Code:=.seq (.region 0 (az F 0) false) (.seq (.region 1 (az F 1) false) (.seq (.seq (.region 2 (az F 2) false) (.block 0 (.loop (H0 F)))) (O_ F)))
def wJ(F:Func):List Item:=[.code (H0 F),.inLoop (H0 F),.inBlock 0,.code (O_ F)]
def K5(F:Func):List Item:=[.code (Wd F),.inBlock 1,.code (.region 11 (az F 11) false),.inLoop (H0 F),.inBlock 0,.code (O_ F)]
theorem K6:f18.body=some (We f18):=by kernel_rfl
section
variable{N:Nat}{K:b6}{o:Oper}{F:bg}{x y:uam}
def auV{s B}(b:o.op=.alloc 58)(hs:K s=some (BD B F)):bU vfc N K o (HY B):=λa w hk=>by obtain⟨v,-,c,-⟩:=hk.has s _ hs;refine .inl ⟨.P w.heap.size 0,w.alloc (.cells #[.I 0,.N] 58),?_,⟨_,Y,c,ag.new _ _ _⟩,(vaa _ w).alloc JR _⟩;generalize a.eval=ev;cases o;simp only at b;subst b;go_simp
def auW{s B n:Nat}(d:o.op=.makeSlice 87 x y)(c:bw K x (bG 0))(b:bw K y (bG n))(hn:n<=1000)(hs:K s=some (BD B F)):bU vfc N K o (RZ B n []):=λa w hk=>by obtain⟨v,-,e,-⟩:=hk.has s _ hs;have e1:a.eval x=.I 0:=hk.ev c;have e2:a.eval y=.I n:=hk.ev b;refine .inl ⟨.S w.heap.size 0 0 n,w.alloc (.cells (Array.replicate n (.N)) 67),?_,⟨_,_,Y,e,ag.new _ _ _,AS,λi rs h=>by simp at h,λi _ h=>by simp[h]⟩,(vaa _ w).alloc JR _⟩;obtain⟨i,h1,h2,h3,h4⟩:=vce (show(prog.info? 67).map (λi=>(i.zero,i.size,i.bytes))=some (some (.N),1,24)from AB);have:=run_make (P:=ae prog true) w 87 67 i _ BB h1 h2 .i64 .i64 0 n AF AQ (by rw[h4];simp;omega) AQ;generalize a.eval=ev at e1 e2⊢;simp[execOp,d,e1,e2,this,h3,madeCells,go_sem];rw[show(λx=>[Value.slice none 0 0][x % 1]?.getD default)=λ_:Nat=>Value.slice none 0 0 from funext λx=>by rw[Nat.mod_one];rfl,show Array.map (λ_:Nat=>Value.slice none 0 0) (Array.range n)=Array.replicate n (.N)from Array.ext AS (by intros;simp)]
def RN:um vfc 87 67 (.N) 1 24:=⟨BB,AB,AF,AF⟩
def auX{ops:fF}{i d:Nat}{a:Act}{w:aR}{b n cap g:Nat}{u:Value}{cs:dX}(p:ops[i]?=some o)(q:o.guard=none)(hd:o.dst=some d)(c:o.op=.call {callee:=.builtin .append,args:=#[x,y],argTypes:=#[87,87]})(l:a.eval x=.S b 0 n cap)(k:a.eval y=.S g 0 1 1)(hv:w.cell? (.a g 0)=some u)(h1:u.oneCell'=true)(f:ag w b cs 67)(z:cs.size=cap)(hn:n+1<=cap){Q:uae}(h:Q (a.put (some d) (.S b 0 (n+1) cap)) (w.setCell ⟨b,n,none⟩ u)):wpOps vfc ops (jg Q) [i] a w:=by
 obtain⟨e,hi,s,hsz,r⟩:=vce RN.hi;have m:=run_append_room_cells (P:=ae prog true) w 87 o.type 67 e RN.ht hi b 0 n cap ⟨g,0,none⟩ 1 1 [u] AA (λj u t=>by
  grind[Addr.add]) AA hn (by have:=f.rules.1;grind) (by have:=f.rules.2;grind)
 refine nR p q hd (v:=.S b 0 (n+1) cap) (w1:=w.setCell ⟨b,n,none⟩ u) ?_ h;simp only[execOp,c,resolve,invoke,builtin,l,k,m,Result.andThen,veo,Sem.run_pure,List.map_toArray,vej,List.map_nil];grind[World.setCells]
def RH{bY:uag}{n c:Nat}(a:o.op=.call {callee:=.builtin .len,args:=#[x],argTypes:=#[T]})(b:bw K x (ig (.slice bY n c)))(d:T=40):bU vfc N K o (bG n):=fe b λev w h=>by have e:ev x=.slice bY n c:=h;subst d;refine⟨.I n,w,?_,Y,vaa _ _⟩;cases o;simp only at a;subst a;go_simp
def auZ{rs}(b:o.op=.call {callee:=.builtin .len,args:=#[x],argTypes:=#[67]})(d:bw K x (mY rs)):bU vfc N K o (bG rs.length):=fe d λev w h=>by obtain⟨-,a,c,e,-⟩:=h;refine⟨.I rs.length,w,?_,Y,vaa _ _⟩;cases o;simp only at b;subst b;go_simp
def au0{T':uaa}(b:o.op=.binOp .neq T x (.const (.N)) T')(c:bw K x sU)(d:T=74):bU vfc N K o (dt false):=λa w hk=>.inl ⟨.F,w,by
 have e:a.eval x=.N:=hk.ev c;have e2:a.eval (.const (.N))=.N:=rfl;generalize a.eval=ev at e e2⊢;subst d;cases o;simp only at b;subst b;go_simp,Y,vaa _ _⟩
def RG(b:o.op=.build 58 #[]):bU vfc N K o (WZ [.I 0,.N] (by simp;exact⟨.int _ _,.nil _ _⟩)):=λa w hk=>by refine .inl ⟨.agg #[.I 0,.N],w,?_,Y,vaa _ _⟩;generalize a.eval=ev;cases o;simp only at b;subst b;go_simp
def au1{b:uag}{n uc:Nat}(a:o.op=.buildSlice 87 1 #[(0,x)])(ev:uah)(w:aR)(c:ev x=.slice b n uc):(execOp ev o).run vfc w=.ok (.value (.S w.heap.size 0 1 1)) (w.alloc (.cells #[.slice b n uc] 67)):=by cases o;simp only at a;subst a;go_simp
def K7{v:Value}(b:o.op=.assign x){ev:uah}(a:ev x=v)(w:aR):(execOp ev o).run P w=.ok (.value v) w:=by simp[execOp,b,a]
def au2(a:o.op=.alloc 35)(ev:uah)(w:aR):(execOp ev o).run vfc w=.ok (.value (.P w.heap.size 0)) (w.alloc (.cells #[.I 0,.I 0,.I 0,.N,.N,.N,.N] 35)):=by cases o;simp only at a;subst a;go_simp
def Fi{w b o cs v}(a:ag w b cs T)(h:v.oneCell'=true)(c:o<cs.size:=by simp):(store ⟨b,o,none⟩ v).run P w=.ok () (w.setCell ⟨b,o,none⟩ v):=by rw[run_store _ _ _ _ _ h];simp[a.rules.1,a.rules.2,c]
def au3(w:aR)(v0 v1 v2 v3 j i h:Value)(h0:v0.oneCell'=true)(h1:v1.oneCell'=true)(h2:v2.oneCell'=true)(h3:v3.oneCell'=true)(h4:j.oneCell'=true)(r:i.oneCell'=true)(p:h.oneCell'=true):∃w',(∀{o:Oper}{x y:uam},o.op=.store 35 x y->∀{ev:uah},ev x=.P w.heap.size 0->ev y=.agg #[v0,v1,v2,v3,j,i,h]->(execOp ev o).run vfc (w.alloc (.cells #[.I 0,.I 0,.I 0,.N,.N,.N,.N] 35))=.ok .skip w')/\ag w' w.heap.size #[v0,v1,v2,v3,j,i,h] 35/\c6 w w':=by
 have a:=ag.new w #[.I 0,.I 0,.I 0,.N,.N,.N,.N] 35;have b:=a.set 0 v0;have c:=b.set 1 v1;have g:=c.set 2 v2;have f:=g.set 3 v3;have e:=f.set 4 j;have d:=e.set 5 i;have k:=d.set 6 h;simp only[List.setIfInBounds_toArray,List.set_cons_zero,List.set_cons_succ]at k;refine⟨_,@fun o x y l ev t s=>?_,k,(((((((((vaa _ w).alloc JR _).setCell JR _).setCell JR _).setCell JR _).setCell JR _).setCell JR _).setCell JR _).setCell JR _)⟩;have q:Hid _:=And.intro a (And.intro b (And.intro c (And.intro g (And.intro f (And.intro e d)))));generalize m:World.setCell _ _ _=W';have n:Hid _:=m;clear a b c g f e d k m;cases o;simp only at l;subst l;go_simp
 obtain⟨a,b,c,g,f,e,d⟩:=q.out;rw[Fi a h0,vbv,Fi b h1,vbv,Fi c h2,vbv,Fi g h3,vbv,Fi f h4,vbv,Fi e r,vbv,Fi d p,vbv,n.out]
def au4(c:o.op=.store 58 x y)(ev:uah){w:aR}{b:Nat}(a:ag w b #[.I 0,.N] 58)(f:ev x=.P b 0)(d:ev y=.agg #[.I 0,.N]):(execOp ev o).run vfc w=.ok .skip w:=by
 obtain⟨g,gG,fx⟩:=a.all;cases o;simp only at c;subst c;have e:(w.setCell ⟨b,0,none⟩ (.I 0)).setCell ⟨b,1,none⟩ (.N)=w:=by rw[RS a Y,RS a Y]
 go_simp
end
def wL{N a w}(h:a.tmps.size=N):ak N (bh []) a w:=⟨h,λ_ _ e=>GA⟩
def en{N l a w s F v}(h:a.tmps[s]?=some v)(hv:F.R w v)(hk:ak N (bh l) a w):ak N (bh ((s,F)::l)) a w:=⟨hk.size,λs' G e=>by
 unfold bh at e;split at e
 .grind
 .exact hk.has s' G e⟩
def lY{args:dX}{n i:Nat}{v:Value}(h:args[i]?=some v):(⟨args++Array.replicate n undef,[]⟩:Act).tmps[i]?=some v:=by grind
def Fj{N K a w s b c}(h:ak N K a w)(e:K s=some (dt b))(d:b=c):a.eval (.tmp s)=.bool c:=d▸h.ev (x:=.tmp s) (F:=dt b) e
abbrev nV(n0 N:Nat)(D:List (List cP))(W af:Int)(k:Nat):List (Nat×bg):=[(9,RZ n0 N D),(8,HY n0),(5,ji x9 (W,af)),(18,bG N),(19,bG k)]
section
variable{n0 N k c:Nat}{bY:uag}{W af:Int}{D:List (List cP)}{rs:List cP}{ns:List vc}{bN:vc}{ts:List (List a9)}{bB cf:Value}{a:Act}{w:aR}
def au5(a5:N<=1000)(hd:a.defers=[])(hn:n0<=w.heap.size)(hk:ak 57 (bh [(0,ig bB),(1,ig (.slice bY N c)),(2,mZ W af),(3,mT)]) a w):
 bI vfc [.code (We f18)] (wJ f18) (λa1 w1=>a1.defers=[]/\(a1.tmps[0]?=some bB/\a1.tmps[17]?=some (.slice bY N c))/\ak 57 (bh (nV n0 N [] W af 0)) a1 w1/\Below n0 w w1) a w:=by
 obtain⟨u,h3,f⟩:=hk.has 3 _ Y;have hk:=en (F:=BD n0 mT) h3 ⟨hn,f⟩ hk;unfold We;refine bC ?_;rw[fE (az f18 0)];refine dl hk (ap Y (V5 Y Y)<|ap Y (dO (F:=sU) Y Jg)<|ap Y (dO (F:=bG 0) Y Jg)<|ap Y (auV (s:=3) Y Y)<|rfl) λa1 w1 e d1 b1=>bC ?_;rw[fE (az f18 1)];refine dl e (ap Y Jc<|ap Y (RH Y Y Y)<|ap Y (auW (s:=3) Y Jg Y a5 Y)<|ap Y Jt<|rfl) λn l d h j=>bC (bC ?_);rw[fE (az f18 2)];refine dl d (ap Y Jc<|ap Y (RH Y Y Y)<|ap Y (bk (F:=bG (0:Nat)) Y Jg)<|rfl) λm k b g i=>tL (Km (lV ⟨g.trans (h.trans (d1.trans hd)),?_,b.aT ⟨Y,Y,Y,Y,Y,NE⟩,?_⟩))
 .obtain⟨v,aZ,rfl⟩:=b.has 0 _ Y;obtain⟨u,a3,rfl⟩:=b.has 17 _ Y;grind
 .have e2:=b1.trans (j.mono b1.size);exact(e2.trans (i.mono e2.size)).mono hn
def au6(O:D.length=k)(a5:N<=1000)(S:k<N)(A:ns[k]?=some bN)(hd:a.defers=[])(hn:n0<=w.heap.size)(h0:a.tmps[0]?=some bB)(L:a.tmps[17]?=some cf)(ht:(fS 1 nU ts).R w bB)(y:(fS 7 pU ns).R w cf)(h:ak 57 (bh (nV n0 N D W af k)) a w):
 bI vfc (wJ f18) (.inRegion (az f18 5) (List.range' 4 6)::K5 f18) (λa1 w1=>a1.defers=[]/\(a1.tmps[0]?=some bB/\a1.tmps[17]?=some cf)/\ak 57 (bh ((27,fS 1 rT D)::(25,rU bN)::(26,fS 1 nU ts)::(28,mZ W af)::(10,bG k)::nV n0 N D W af k)) a1 w1/\Below n0 w w1) a w:=by
 have hk:=en (F:=O1 bB (fS 1 nU ts)) h0 ⟨Y,ht⟩<|en (F:=O1 cf (fS 7 pU ns)) L ⟨Y,y⟩ h;unfold wJ H0;refine bC ?_;rw[fE (az f18 3)];refine dl hk (ap Y (KX Y Y Y AF)<|rfl) λa1 w1 p d1 b1=>bC (gh (t:=true) (Fj p Y AA) (nv (bC (tL (bC ?_)))));rw[fE (az f18 4)];refine uR (show bI _ (.inRegion _ (List.range' 0 (3+3))::_) _ _ _ _ from vd p (ap Y Jc<|ap Y (auE Y Y Y A AF)<|ap Y (V6 Y Y)<|rfl) AF λd b j I J=>DJ ?_);obtain⟨Q,n,e,o,rfl,f,q⟩:=j.has 23 _ Y;obtain⟨c,m,C⟩:=j.has 21 _ Y;refine mS (R:=λa' w'=>a'=d.put (some 11) (.P b.heap.size 0)/\w'=b.alloc (.cells #[.I 0,.I 0,.I 0,.N,.N,.N,.N] 35)) (nR Y Y Y (au2 Y _ _) ⟨Y,Y⟩) ?_;rintro _ _ ⟨rfl,rfl⟩;have K:(d.put (some 11) (.P b.heap.size 0)).tmps[21]?=some c:=(hQ AF).trans m;refine mS (R:=λa' w'=>a'=(d.put (some 11) (.P b.heap.size 0)).put (some 10) c/\w'=b.alloc (.cells #[.I 0,.I 0,.I 0,.N,.N,.N,.N] 35)) (nR (v:=c) Y Y Y (K7 Y (ej K) _) ⟨Y,Y⟩) ?_;rintro _ _ ⟨rfl,rfl⟩;have r:((d.put (some 11) (.P b.heap.size 0)).put (some 10) c).tmps[11]?=some (.P b.heap.size 0):=(hQ AF).trans (nw AA);have l:((d.put (some 11) (.P b.heap.size 0)).put (some 10) c).tmps[23]?=some _:=(hQ AF).trans ((hQ AF).trans n);obtain⟨x,z,E,i⟩:=au3 b (.I bN.1) (.I bN.2.1) (.I 0) (.N) e (.N) o Y Y Y Y (Sp f) Y (Sp q);refine mS (R:=λa' w'=>a'=(d.put (some 11) (.P b.heap.size 0)).put (some 10) c/\w'=x) (Bo Y Y Y (z Y (ej r) (ej l)) ⟨Y,Y⟩) ?_;rintro _ _ ⟨rfl,rfl⟩;have hcell:=E.rules.1;have B:=(j.put (s:=11) (F:=ji pU bN) AF i ⟨b.heap.size,0,Y,e,o,⟨hcell _,hcell _,hcell _,hcell _,hcell _,hcell _,hcell _⟩,bo.mono q8 (bp.cy i) f,bo.mono nf (bp.cy i) q⟩).put (s:=10) (F:=bG k) AF (vaa _ _) C;refine vW (bC (uR ?_));rw[fE (az f18 5)];refine(show bI _ (.inRegion _ (List.range' 0 (4+6))::_) _ _ _ _ from vd B (ap Y (V6 Y Y)<|ap Y (auA Y Y)<|ap Y Jc<|ap Y (K2 Y Y)<|rfl) AF λP M g H bV=>lV ⟨H.trans ((put_defers _ _ _).trans ((put_defers _ _ _).trans (I.trans (d1.trans hd)))),?_,?_,?_⟩)
 .obtain⟨v,aZ,rfl,-⟩:=g.has 0 _ Y;obtain⟨u,a3,rfl,-⟩:=g.has 17 _ Y;grind
 .obtain⟨v,aZ,a3⟩:=g.has 27 _ Y;exact en aZ (z_.list a3 AQ) (g.aT ⟨Y,Y,Y,Y,Y,Y,Y,Y,Y,NE⟩)
 .have e2:=b1.trans (J.mono b1.size);have e3:=e2.trans (i.mono e2.size);exact(e3.trans (bV.mono e3.size)).mono hn
def au_(hD:D.length=k)(a5:N<=1000)(BI:k<N)(La:rs.length<=300)(hf:Full rs)(hF:∀x∈D,Full x)(hd:a.defers=[])(hn:n0<=w.heap.size)(h0:a.tmps[0]?=some bB)(BJ:a.tmps[17]?=some cf)(h:ak 57 (bh ((29,sT rs)::nV n0 N D W af k)) a w):
 bI vfc (.inRegion (az f18 5) (List.range' 5 5)::K5 f18) (wJ f18) (λa1 w1=>a1.defers=[]/\(a1.tmps[0]?=some bB/\a1.tmps[17]?=some cf)/\ak 57 (bh (nV n0 N (D++[rs]) W af (k+1))) a1 w1/\Below n0 w w1) a w:=by
 have hk:=en (F:=ig bB) h0 Y<|en (F:=ig cf) BJ Y h;unfold K5 Wd;rw[fE (az f18 5)];refine(show bI _ (.inRegion _ (List.range' 5 (5+0))::_) _ _ _ _ from vd hk (ap Y Jc<|ap Y (V7 Y Y)<|ap Y (V8 Y Y)<|ap Y Jt<|ap Y Jt<|rfl) AF λa1 w1 k1 d1 b1=>xW (bC (tL (bC ?_))));rw[fE (az f18 6)];refine dl k1 (ap Y Jc<|ap Y (au0 Y Y Y)<|ap Y Jt<|rfl) λa6 w2 Z d2 b2=>gh (t:=false) (Fj Z Y Y) (bC ?_);rw[fE (az f18 8)];refine dl Z (ap Y Jc<|ap Y (auZ Y Y)<|ap Y (auB (n:=300) Y Y Jg AF)<|ap Y Jt<|rfl) λbK w3 X d3 bH=>gh (t:=false) (Fj X Y AA) (nv (DD ?_));rw[fE (az f18 10)];refine uR (show bI _ (.inRegion _ (List.range' 0 (2+3))::_) _ _ _ _ from vd X (ap Y Jc<|ap Y Jc<|rfl) AF λp b f d4 bV=>DJ ?_);obtain⟨TM,U,d,cs,rfl,m,dD,g,Ox,T⟩:=f.has 45 _ Y;obtain⟨H2,aeD,-⟩:=f.has 9 _ Y;obtain⟨TJ,S,hr⟩:=f.has 46 _ Y;obtain⟨q,uc,rfl,aI6⟩:=hr.2;have bS:c6 b (b.alloc (.cells #[.slice q rs.length uc] 67)):=(vaa _ b).alloc JR _;refine mS (R:=λa' w'=>a'=p.put (some 47) (.S b.heap.size 0 1 1)/\w'=b.alloc (.cells #[.slice q rs.length uc] 67)) (nR Y Y Y (au1 Y _ _ (ej S)) ⟨Y,Y⟩) ?_;rintro _ iK ⟨rfl,eE⟩;have c:=f.put (s:=47) (F:=ig (.S b.heap.size 0 1 1)) AF (eE▸bS) Y;have Q:iK.cell? (.a b.heap.size 0)=some (.slice q rs.length uc):=BB;have P:=(mY rs).jS _ _ _ (eE▸bS) hr;have O:∀(i:Nat) r,D[i]?=some r->∃u,cs[i]?=some u/\(mY r).R iK u:=λi r hi=>by obtain⟨u,gQ,gG⟩:=Ox i r hi;grind[mY]
 have l:ag iK d cs 67:=dD.call (eE▸bS);obtain⟨A,j⟩:=z_.grow (n0:=n0) l m g AQ O T P hf hF;refine mS (R:=λa' w'=>a'=(p.put (some 47) (.S b.heap.size 0 1 1)).put (some 48) (.S d 0 (D.length+1) N)/\w'=iK.setCell ⟨d,D.length,none⟩ (.slice q rs.length uc)) (auX Y Y Y Y (ej ((hQ AF).trans U)) (ej (nw (by rw[f.size];decide))) Q Y l g AQ ⟨Y,Y⟩) ?_;rintro _ o ⟨rfl,B⟩;rw[<-B]at A j;refine mS (R:=λa' w'=>a'=((p.put (some 47) (.S b.heap.size 0 1 1)).put (some 48) (.S d 0 (D.length+1) N)).put (some 9) (.S d 0 (D.length+1) N)/\w'=o) (nR (v:=.S d 0 (D.length+1) N) Y Y Y (K7 Y (ej (nw (by rw[c.size];decide))) _) ⟨Y,Y⟩) ?_;rintro z o ⟨Pb,rfl⟩;have ht:∀s v,s≠48->s≠9->(p.put (some 47) (.S b.heap.size 0 1 1)).tmps[s]?=some v->z.tmps[s]?=some v:=λs v h1 h2 h3=>by simp_all[hQ,Ne.symm]
 obtain⟨Lb,Lc,rfl⟩:=c.has 0 _ Y;obtain⟨M,L,rfl⟩:=c.has 17 _ Y;obtain⟨BK,ve,V,rfl,Pd,K⟩:=c.has 8 _ Y;obtain⟨aeH,wN,Ld,Le,rfl,f0,f1⟩:=c.has 5 _ Y;obtain⟨aI7,J,I⟩:=c.has 18 _ Y;obtain⟨aI8,H,E⟩:=c.has 19 _ Y;have C:V≠d:=λe=>by simp_all[ag]
 have hY:ak 57 (bh ((0,ig Lb)::(17,ig M)::nV n0 N (D++[rs]) W af k)) z o:=
  en (ht _ _ AF AF Lc) Y<|en (ht _ _ AF AF L) Y<|en (by grind[nw,jR]) j<|en (ht _ _ AF AF ve) ⟨V,Y,Pd,by rw[B];exact K.fg C _⟩<|en (ht _ _ AF AF wN) ⟨Ld,Le,Y,A _ _ _ AS f0,A _ _ _ AS f1⟩<|en (ht _ _ AF AF J) I<|en (ht _ _ AF AF H) E<|wL (by rw[Pb,jR,jR];exact c.size)
 have d6:z.defers=[]:=by grind[put_defers]
 have e2:=b1.trans (b2.mono b1.size);have e3:=e2.trans (bH.mono e2.size);have e4:=e3.trans (bV.mono e3.size);have c2:Below n0 w o:=by rw[B,eE];exact(((e4.trans (bS.mono e4.size)).mono hn)).setCell m _
 refine vW (DD ?_);rw[fE (az f18 11)];refine dl hY (ap Y (x8 (n:=1) Y Y Jg Cj AF)<|ap Y Jc<|rfl) λrE CV y d7 qL=>Kn (lV ⟨d7.trans d6,?_,y.aT ⟨Y,Y,Y,Y,Y,NE⟩,c2.trans (qL.mono (vad hn c2.size))⟩);obtain⟨v,aZ,rfl⟩:=y.has 0 _ Y;obtain⟨u,a3,rfl⟩:=y.has 17 _ Y;grind
def avo(A:D.length=N)(h0:0<N)(a5:N<=1000)(m:D[N-1]?=some rs)(hd:a.defers=[])(hn:n0<=w.heap.size)(h:ak 57 (bh (nV n0 N D W af N)) a w):
 tM vfc f18 (wJ f18) (λv w1=>HZ rs w1 v/\Below n0 w w1) a w:=by
 obtain⟨B,x,g⟩:=h.has 9 _ Y;have hk:=en (F:=fS 1 rT D) x (z_.list g AQ) h;unfold wJ H0;refine DH (ks':=[.code .ret]) (bC ?_);rw[fE (az f18 3)];refine dl hk (ap Y (KX Y Y Y AF)<|rfl) λa1 w1 f d1 b1=>bC (gh (t:=false) (Fj f Y AS) (DF Y ?_));unfold O_;refine bC ?_;rw[fE (az f18 12)];have u:((D.length:Int)-1)=((N-1:Nat):Int):=AQ;refine uR (show bI _ (.inRegion _ (List.range' 0 (9+1))::_) _ _ _ _ from vd f (ap Y Jc<|ap Y Jc<|ap Y (KY Y Y AF)<|ap Y (WL (n:=1) Y Y Jg Cj AF)<|ap Y (cT (i:=N-1) Y Y (by rw[<-u];rfl) m AF)<|ap Y (b8 Y Y (S3 _) AF)<|ap Y (RG Y)<|ap Y Jt<|ap Y (dO (F:=bG 0) Y Jg)<|rfl) AF λr j c o p=>DJ ?_);have e2:=b1.trans (p.mono b1.size);obtain⟨E,e,z,rfl,-,b⟩:=c.has 8 _ Y;obtain⟨q,d,rfl⟩:=c.has 56 _ Y;obtain⟨y,s,k⟩:=c.has 6 _ Y;obtain⟨C,l,rfl⟩:=c.has 7 _ Y;refine mS (R:=λa' w'=>a'=r/\w'=j) (Bo Y Y Y (au4 Y _ b (ej e) (ej d)) ⟨Y,Y⟩) ?_;rintro _ _ ⟨rfl,rfl⟩;refine vW (lV (Og (v:=.tuple #[y,.I 0,sV]) (o.trans (d1.trans hd)) ?_ ⟨⟨_,Y,k.1⟩,e2.mono hn⟩));obtain⟨c1,bt,cF⟩:=b.all;simp[results,results18,go_sem,s,l,e,c1,sV]
end
section
variable{O:gW}
def Pe(F:Func):Code:=.seq (.region 10 (dT F 10) true) .ret
def Lh(F:Func):Code:=(.seq (.region 0 (dT F 0) false) (.seq (.seq (.region 1 (dT F 1) false) (.block 0 (.seq (.region 2 (dT F 2) false) (.cond (.tmp 12) (.seq (.region 3 (dT F 3) true) .ret) (.seq (.region 4 (dT F 4) false) (.cond (.tmp 29) (.seq (.region 5 (dT F 5) true) .ret) (.seq (.region 6 (dT F 6) false) (.cond (.tmp 44) (.seq (.region 7 (dT F 7) true) .ret) (.seq (.region 8 (dT F 8) false) (.cond (.tmp 63) (.seq (.region 9 (dT F 9) true) .ret) .skip)))))))))) (Pe F)))
theorem Wg:f25.body=some (Lh f25):=by kernel_rfl
def BL{N K a w}(h:ak N K a w){s b}(e:K s=some (dt b)):a.eval (.tmp s)=.bool b:=h.ev (x:=.tmp s) (F:=dt b) e
def avq{es:ubi}{t:List a9}{x y:Int}{a:Act}{w:aR}(hd:a.defers=[])(hk:ak 86 (bh [(0,rU (1,0,es)),(1,fS 1 nU [t]),(3,mZ x y)]) a w):
 bI vfc [.code (Lh f25)] [.code (.region 10 (dT f25 10) true),.code .ret] (λa1 w1=>a1.defers=[]/\ak 86 (bh [(1,fS 1 nU [t]),(4,ji pU (1,0,es)),(7,ji x9 (x,y))]) a1 w1/\c6 w w1) a w:=by
 unfold Lh;refine bC ?_;rw[fE (dT f25 0)];refine dl hk (ap Y (Tn Y Y)<|ap Y (V5 Y Y)<|ap Y (dO (F:=sU) Y Jg)<|ap Y (dO (F:=sU) Y Jg)<|rfl) λa1 w1 g d1 b1=>bC (bC ?_);rw[fE (dT f25 1)];refine dl g (ap Y (Tb Y Y)<|ap Y Jx<|rfl) λA r f m o=>tL (bC ?_);rw[fE (dT f25 2)];refine dl f Jp λz q c l n=>gh (t:=false) (BL c Y) (bC ?_);rw[fE (dT f25 4)];refine dl c Jp λv p b k bV=>gh (t:=false) (BL b Y) (bC ?_);rw[fE (dT f25 6)];refine dl b Jp λfO iK e j bS=>gh (t:=false) (BL e Y) (bC ?_);rw[fE (dT f25 8)];refine dl e Jp λs u d i h=>gh (t:=false) (BL d Y) (nv (DD ?_));unfold Pe;have e2:=b1.trans (o.mono b1.size);have e3:=e2.trans (n.mono e2.size);have e4:=e3.trans (bV.mono e3.size);have eE:=e4.trans (bS.mono e4.size);exact bC (lV ⟨i.trans (j.trans (k.trans (l.trans (m.trans (d1.trans hd))))),d.aT ⟨Y,Y,Y,NE⟩,eE.trans (h.mono eE.size)⟩)
def avr{Post:hV}{M:dL}{w:aR}{args:dX}{es:ubi}{t:List a9}{af S W:Nat}(C:aJ (b7 M) args args)(o:ak 86 (bh [(0,rU (1,0,es)),(1,fS 1 nU [t]),(3,mZ W af)]) ⟨args++Array.replicate (86-args.size) undef,[]⟩ w)(h0:0<t.length)(d:t.length<=1000000)(B:0<af)(v:af<=64)(j:0<W)(z:W<=16)(A:S<=300)(q:t[0].ff.length=S)(F:∀i,i<S->∀c∈t,xy i c):
 fZ O prog Post 25 args M w 1 (λu _ w'=>(sT (mU t 0 S)).R w' u/\dy M w w'):=by
 refine SG [] (N:=86) (id:=10) (z9:=bh [(1,fS 1 nU [t]),(4,ji pU (1,0,es)),(7,ji x9 (W,af))]) (l2:=[(8,mY (mU t 0 S)),(9,sU)]) (ops:=dT f25 10) (S:=⟨8,λ_=>false,λ_=>true,[]⟩) (cW:=sT (mU t 0 S)) nx mixed func25 SS Wg C o (jT ⟨NE,NE,NE,NE⟩) (jT ⟨NE,NE,NE,NE⟩) ⟨NE,NE,NE⟩ trivial AD AD AD (λa W hd hk=>avq hd hk) AD Y Y Y func35 AB Y Y Y (by
  rw[fE (dT f25 10)];exact hq Y (K2 Y Y)<|hq Y Jc<|hq Y (S7 Y Y)<|hq Y Jx<|hq Y (cT (i:=0) Y Y Y Y AF)<|hq Y (auO Y Y)<|hq Y (auP Y Y)<|hq Y (mM Y Y AF)<|hg Y (λa M w Shun g hk D=>by
   obtain⟨u1,aZ,r1⟩:=hk.has 75 (mZ W af) Y;obtain⟨u2,a3,_,rfl,c,rfl,b⟩:=hk.has 82 (Tp _ (O8 t)) Y;cases r1;rw[show(#[Operand.tmp 75,.tmp 82].map a.eval)=#[.agg #[.I W,.I af],.iface 113 (.agg #[c])]from by grind[ej]];have hv:au (b7 M) c c:=by
    have:=D.get _ _ _ a3 a3;cases this with
    |iface _ k=>cases k with
     |agg _ hg=>exact hg 0 _ _ Y Y
   intro n f hn m f1 a1 o1 s r1 p cs1 y E;exact auo g.cl g.ze b hv h0 d B v j z A q F n f hn m f1 a1 o1 s r1 p cs1 y λu M' w' l f e1 e2 e3 e4 eE⟨x,e,H,r,h⟩=>E u M' w' l f e1 e2 e3 e4 eE ⟨⟨x,e,H,r⟩,dy.J3 h⟩)<|hq Y (V7 Y Y)<|hq Y (V8 Y Y)<|hq Y Jt<|hq Y Jt<|rfl) Y ⟨Y,Y,NE⟩ λa W hk=>?_
 obtain⟨u1,aZ,r1⟩:=hk.has 8 (mY (mU t 0 S)) Y;obtain⟨u2,a3,b⟩:=hk.has 9 sU Y;cases b;refine⟨.tuple #[u1,.N],?_,⟨_,Y,r1⟩⟩;rw[(G9 AD _ _).1];simp[vQ,uI,results25,vcb,aZ,a3]
def avs{j:Int}{es:ubi}{D:List (List cP)}{x y:Int}{a:Act}{w:aR}(hd:a.defers=[])(hk:ak 86 (bh [(0,rU (5,j,es)),(2,fS 1 rT D),(3,mZ x y)]) a w):
 bI vfc [.code (Lh f25)] (.code (.region 9 (dT f25 9) true):: .code .ret::[.inBlock 0,.code (Pe f25)]) (λa1 w1=>a1.defers=[]/\ak 86 (bh [(2,fS 1 rT D),(4,ji pU (5,j,es)),(7,ji x9 (x,y))]) a1 w1/\c6 w w1) a w:=by
 unfold Lh;refine bC ?_;rw[fE (dT f25 0)];refine dl hk (ap Y (Tn Y Y)<|ap Y (V5 Y Y)<|ap Y (dO (F:=sU) Y Jg)<|ap Y (dO (F:=sU) Y Jg)<|rfl) λa1 w1 g d1 b1=>bC (bC ?_);rw[fE (dT f25 1)];refine dl g (ap Y (Tb Y Y)<|ap Y Jx<|rfl) λB s f n p=>tL (bC ?_);rw[fE (dT f25 2)];refine dl f Jp λA r c m o=>gh (t:=false) (BL c Y) (bC ?_);rw[fE (dT f25 4)];refine dl c Jp λz q b l bV=>gh (t:=false) (BL b Y) (bC ?_);rw[fE (dT f25 6)];refine dl b Jp λfO iK e k bS=>gh (t:=false) (BL e Y) (bC ?_);rw[fE (dT f25 8)];refine dl e Jp λu v d i h=>gh (t:=true) (BL d Y) ?_;have e2:=b1.trans (p.mono b1.size);have e3:=e2.trans (o.mono e2.size);have e4:=e3.trans (bV.mono e3.size);have eE:=e4.trans (bS.mono e4.size);exact bC (lV ⟨i.trans (k.trans (l.trans (m.trans (n.trans (d1.trans hd))))),d.aT ⟨Y,Y,Y,NE⟩,eE.trans (h.mono eE.size)⟩)
def fZ.more{Post args M w d a V}(h:fZ O prog Post f args M w d V)(hd:d<=a):fZ O prog Post f args M w a V:=λn Shun hn k g aI aC aL aO aK csZ c i=>
 h n Shun AQ k g aI aC aL aO aK csZ c λu M' w' b j e=>i u M' w' b j AQ
def avt{cW ml oH:bg}(Wh:cW.ok=λ_=>True)(Pf:ml.ok=λ_=>True)(Pg:oH.ok=λ_=>True)(e:∀(K:b6)(o:Oper)(x:uam),o.op=.extract x 0->bw K x cW->bU vfc 86 K o ml)(d:∀(K:b6)(o:Oper)(x:uam),o.op=.extract x 1->bw K x cW->bU vfc 86 K o oH)(g:∀w x y,ml.R w x->oH.R w y->cW.R w (.tuple #[x,y])){Post:hV}{M:dL}{w:aR}{args:dX}{es:ubi}{D:List (List cP)}{rs:List cP}{j af W:Nat}(m:aJ (b7 M) args args)(i:ak 86 (bh [(0,rU (5,j,es)),(2,fS 1 rT D),(3,mZ W af)]) ⟨args++Array.replicate (86-args.size) undef,[]⟩ w)(k:D[j]?=some rs)(n:∀M w Shun cf aW,Home O prog M Shun w->aJ (b7 M) #[cf,aW,.agg #[.I W,.I af]] #[cf,aW,.agg #[.I W,.I af]]->V4 (5,j,es) w cf->(mY rs).R w aW->fZ O prog Post 37 #[cf,aW,.agg #[.I W,.I af]] M w 2 (λu _ w'=>cW.R w' u/\dy M w w')):
 fZ O prog Post 25 args M w 2 (λu _ w'=>cW.R w' u/\dy M w w'):=by
 refine SG [.inBlock 0,.code (Pe f25)] (N:=86) (id:=9) (z9:=bh [(2,fS 1 rT D),(4,ji pU (5,j,es)),(7,ji x9 (W,af))]) (l2:=[(8,ml),(9,oH)]) (ops:=dT f25 9) (S:=⟨7,λ_=>false,λ_=>true,[]⟩) (cW:=cW) nx mixed func25 SS Wg m i (jT ⟨NE,NE,NE,NE⟩) (jT ⟨NE,NE,NE,NE⟩) ⟨AA,AA,NE⟩ AA AD AD AD (λa W hd hk=>avs hd hk) AD Y Y Y func37 AB Y Y Y (by
  rw[fE (dT f25 9)];exact hq Y (V6 Y Y)<|hq Y Jc<|hq Y (S7 Y Y)<|hq Y Jx<|hq Y (cT Y Y Y k AF)<|hq Y (b8 Y Y (S3 _) AF)<|hq Y (K2 Y Y)<|hg Y (λa M w Shun p hk c=>by
   obtain⟨u1,aZ,r1⟩:=hk.has 65 (rU (5,j,es)) Y;obtain⟨u2,a3,b⟩:=hk.has 70 (mY rs) Y;obtain⟨u3,q3,h⟩:=hk.has 71 (mZ W af) Y;cases h;rw[show(#[Operand.tmp 65,.tmp 70,.tmp 71].map a.eval)=#[u1,u2,.agg #[.I W,.I af]]from by grind[ej]];exact n M w Shun u1 u2 p (mw (l:=[u1,u2,.agg #[.I W,.I af]]) λx f=>by
    simp only[vaw,vbp,vdf]at f;rcases f with rfl|rfl|rfl
    .exact c.get _ _ _ aZ aZ
    .exact c.get _ _ _ a3 a3
    .exact c.get _ _ _ q3 q3) r1 b) (hok:=AA)<|hq Y (e _ _ _ Y Y) (hok:=AA)<|hq Y (d _ _ _ Y Y) (hok:=AA)<|hq Y Jt (hok:=AA)<|hq Y Jt (hok:=AA)<|rfl) Y ⟨Y,Y,NE⟩ λa W hk=>?_
 obtain⟨u1,aZ,r1⟩:=hk.has 8 ml Y;obtain⟨u2,a3,b⟩:=hk.has 9 oH Y;refine⟨.tuple #[u1,u2],?_,g _ _ _ r1 b⟩;rw[(G9 AD _ _).1];simp[vQ,uI,results25,vcb,aZ,a3]
end
end aV
namespace b_
open RowKit av aV
abbrev Pj:Array Value:=kU 1 0 none 0 0 none 0 0
def Ac(w:aR)(dC no:Nat)(op a:Int)(ka:uag)(mA cg:Nat)(bZ:uag)(n gc:Nat):Prop:=∀(j:Nat) v,(kU op a ka mA cg bZ n gc)[j]?=some v->w.cell? (.a dC (no+j))=some v
variable{w:aR}{cg dC gc mA n no:Nat}{bZ ka:uag}
def Fp{op a}(h:Ac w dC no op a ka mA cg bZ n gc):w.cell? (.a dC no)=some (.I op)/\w.cell? (.a dC (no+1))=some (.I a)/\w.cell? (.a dC (no+2))=some (.I 0)/\w.cell? (.a dC (no+3))=some (.N)/\w.cell? (.a dC (no+4))=some (.slice ka mA cg)/\w.cell? (.a dC (no+5))=some (.N)/\w.cell? (.a dC (no+6))=some (.slice bZ n gc):=
 ⟨h 0 _ Y,h 1 _ Y,h 2 _ Y,h 3 _ Y,h 4 _ Y,h 5 _ Y,h 6 _ Y⟩
def H4{w' op a}(h:Ac w dC no op a ka mA cg bZ n gc)(hk:bp w w'):Ac w' dC no op a ka mA cg bZ n gc:=λj v hv=>hk _ _ _ (h j v hv)
def avH(w:aR):Calls vfc 41 #[.agg Pj] w λe w'=>e=.returned (.T)/\c6 w w':=by
 unfold Pj kU;go_enter (vez func41),ntmps41
 go_wp2
 go_ret
 exact⟨Y,(vaa _ _).alloc JR _⟩
def avI(ka:uag)(cg:Nat)(bZ:uag)(gc:Nat)(w:aR):Calls vfc 41 #[.agg (kU 5 0 ka 1 cg bZ 5 gc)] w λe w'=>e=.returned (.T)/\c6 w w':=by
 unfold kU;go_enter (vez func41),ntmps41
 go_wp2
 go_ret
 exact⟨Y,(vaa _ _).alloc JR _⟩
def avJ(sb b:Nat)(a:uag)(w:aR)(h0:w.cell? (.a sb 0)=some (.slice a 1 b)):Calls vfc 40 #[.P sb 0,.agg Pj] w λe w'=>e=.returned (.T)/\c6 w w':=by
 unfold Pj kU;have c:=ef h0;go_enter (vez func40),ntmps40
 go_wp2
 go_region
 go_wp2
 go_ret
 exact⟨Y,((vaa _ _).alloc JR _).drew⟩
def avK(sb kb kc:Nat)(w:aR)(h3:w.cell? (.a sb 3)=some (.S kb 0 1 kc))(hk:w.cell? (.a kb 0)=some (.F)):Calls vfc 62 #[.P sb 0,.I 0] w λe w'=>e=.returned (.T)/\w'=w:=by
 go_enter (vez func62),ntmps62
 go_wp2
 go_ret
 simp_all
def avL(sb kb kc:Nat)(ka:uag)(cg:Nat)(bZ:uag)(gc:Nat)(w:aR)(h3:w.cell? (.a sb 3)=some (.S kb 0 1 kc))(hk:w.cell? (.a kb 0)=some (.F)):Calls vfc 40 #[.P sb 0,.agg (kU 5 0 ka 1 cg bZ 5 gc)] w λe w'=>e=.returned (.T)/\c6 w w':=by
 unfold kU;go_enter (vez func40),ntmps40
 go_wp2_with fail
 refine(avK sb kb kc _ (x_ h3 _) (x_ hk _)).mono ?_;rintro e w' ⟨rfl,rfl⟩;go_wp2
 go_ret
 exact⟨Y,(vaa _ _).alloc JR _⟩
def TI i(hi:i<2)op ka mA cg bZ n gc sb dC no m w(h1:w.cell? (.a sb 1)=some (.S dC no 2 m))(hn:Ac w dC (no+i*7) op 0 ka mA cg bZ n gc)(hs:∀w',(∀a v,w.cell? a=some v->w'.cell? a=some v)->Calls vfc 40 #[.P sb 0,.agg (kU op 0 ka mA cg bZ n gc)] w' λe w''=>e=.returned (.T)/\Below w'.heap.size w' w'')(d:∀w',Calls vfc 41 #[.agg (kU op 0 ka mA cg bZ n gc)] w' λe w''=>e=.returned (.T)/\Below w'.heap.size w' w''):Calls vfc 32 #[.P sb 0,.I (i:Int)] w λe w'=>e=.returned (.T)/\c6 w w':=by
 obtain⟨y,d1,x,u,t,s,r⟩:=Fp hn;have o:(0:Int)<=(i:Int):=AQ;have q:(i:Int)<(2:Int):=AQ;have p:¬(10:Int)<=(i:Int):=AQ;have b:Hid _:=hs (w.alloc (.cells (kU op 0 ka mA cg bZ n gc) 35)) (λa v h=>x_ h _);have HC:Hid _:=d;clear hs d;unfold kU at b;go_enter (vez func32),ntmps32
 go_wp2
 refine vdm b.out ?_;rintro e w1 ⟨rfl,c⟩;have bO:=(ag.new w (kU op 0 ka mA cg bZ n gc) 35).call c;obtain⟨l,gG,fx⟩:=bO.all;have g:Hid (c6 w w1):=Below.step c ((vaa _ _).alloc JR _) AS;clear c bO b;unfold kU at l;go_wp2
 refine vdm (HC.out _) ?_;rintro e j ⟨rfl,f⟩;have k:Hid (c6 w j):=Below.step f g.out g.out.size;clear f;go_wp2
 go_ret
 exact⟨Y,k.out⟩
variable{w0:aR}{bs:Nat}{ts:List (List a9)}{dk:List (List (Int×Int))}
section
attribute [local go_sem ↓] Go.wp_at_zero Go.wp_at_succ
def avM(w:aR):Calls vfc 34 #[.agg (kU 1 0 none 0 0 none 0 0)] w λe w'=>∃v,e=.returned v/\h5 w' v []/\fM 3 w' v/\c6 w w':=by
 unfold kU;go_enter (vez func34),ntmps34
 go_wp2
 go_ret
 exact⟨_,Y,bo.nil _ _ _,λ_ _ _ _ e=>by simp at e,(vaa _ _).alloc JR _⟩
def avN(ka:uag)(cg:Nat)(bZ:uag)(gc:Nat)(w:aR):Calls vfc 34 #[.agg (kU 5 0 ka 1 cg bZ 5 gc)] w λe w'=>∃v,e=.returned v/\h5 w' v [0]/\fM 3 w' v/\c6 w w':=by
 unfold kU;go_enter (vez func34),ntmps34
 go_wp2
 go_ret
 have bO:=ag.new (w.alloc (.cells #[.I 5,.I 0,.I 0,.N,.slice ka 1 cg,.N,.slice bZ 5 gc] 35)) #[.I 0] 3;simp at bO;exact⟨_,Y,h5.box bO [0] 1 AS AA,fM.box bO _ _ _,((vaa _ _).alloc JR _).alloc AS _⟩
def TH{i d N:Nat}{op cG:Int}{br:Nat}{a f g:Value}{ns:List ng}{aX:uba}{vals:uai}(h:Own w0 w bs a (.S dC no N d) f g ts ns dk aX vals)(hi:i<N)(aJa:N<=2)(z:dk.length<=20/\aX.length<=20)(hn:Ac w0 dC (no+i*7) op cG ka mA cg bZ br gc){l:g7}{ch:ubm}(O:∀x∈ch,∃q:Nat,x=(q:Int)/\q<aX.length)(aJb:ch.length<=2)(M:Calls vfc 32 #[.P bs 0,.I i] w λe w'=>e=.returned (.T)/\c6 w w')(qk:∀w',Own w0 w' bs a (.S dC no N d) f g ts ns dk aX vals->Calls vfc 33 #[.P bs 0,.agg (kU op cG ka mA cg bZ br gc)] w' λe w''=>CH w'' e (some l)/\Below w'.heap.size w' w'')(L:∀w',Calls vfc 34 #[.agg (kU op cG ka mA cg bZ br gc)] w' λe w''=>∃v,e=.returned v/\h5 w'' v ch/\fM 3 w'' v/\Below w'.heap.size w' w''):
 Calls vfc 23 #[.P bs 0,.I i] w λe w'=>e=.returned (.I 0)/\∃Pk Pl Pm,Own w0 w' bs a (.S dC no N d) Pk Pl ts ns (dk++[l]) (mj aX ch++[false]) Pm:=by
 have nz:Hid _:=z;have j0:Hid _:=hn;have HC:Hid _:=qk;have p:Hid _:=L;have avO:Hid _:=O;have vg:Hid (Own w0 w bs a (.S dC no N d) f g ts ns dk aX vals):=h;have K:Hid _:=M;have oe:(0:Int)<=(i:Int):=AQ;have li:(i:Int)<(N:Int):=AQ;clear hn qk L O z h M;go_enter (vez func23),ntmps23
 go_wp2_with fail
 refine vdm K.out ?_;rintro e w1 ⟨rfl,bl⟩;have P:Hid (Own w0 w1 bs a (.S dC no N d) f g ts ns dk aX vals):=vg.out.call bl;obtain⟨gQ,gG,fx⟩:=P.out.box.all;obtain⟨d0,d1,d2,d3,d4,d5,d6⟩:=Fp (H4 j0.out (bp.cy P.out.below));clear bl vg K;go_wp2_with fail
 refine vdm (HC.out _ P.out) ?_;rintro e w2 ⟨⟨v1,rfl,iI,GD⟩,cp⟩;have V:Hid (Own w0 w2 bs a (.S dC no N d) f g ts ns dk aX vals):=P.out.call cp;have J:Hid (hJ w2 v1 l):=iI;have I:Hid (fM 115 w2 v1):=GD;obtain⟨a1,c1,rfl,-⟩:=iI.shape;clear gQ gG fx d0 d1 d2 d3 d4 d5 d6 cp iI GD P HC;obtain⟨gQ,gG,fx⟩:=V.out.box.all;obtain⟨d0,d1,d2,d3,d4,d5,d6⟩:=Fp (H4 j0.out (bp.cy V.out.below));go_wp2_with fail
 refine vdm (p.out _) ?_;rintro e r ⟨aJc,rfl,m,H,U⟩;obtain⟨ac,cc,rfl,-⟩:=m.shape;have gK:Hid (Own w0 r bs a (.S dC no N d) f g ts ns dk aX vals):=V.out.call U;have N7:Hid (hJ r (.slice a1 l.length c1) l):=bo.mono nf (bp.cy U) J.out;have F:Hid (fM 115 r (.slice a1 l.length c1)):=I.out.call U;have E:Hid (h5 r (.slice ac ch.length cc) ch):=m;have D:Hid (fM 3 r (.slice ac ch.length cc)):=H;clear gQ gG fx d0 d1 d2 d3 d4 d5 d6 m H U J I V p;go_wp2_with fail
 go_loopw [36] (λx W=>∃k:Nat,k<=ch.length/\x=.I k/\Own w0 W bs a (.S dC no N d) f g ts ns dk (mj aX (ch.take k)) vals/\h5 W (.slice ac ch.length cc) ch/\fM 3 W (.slice ac ch.length cc)/\hJ W (.slice a1 l.length c1) l/\fM 115 W (.slice a1 l.length c1))
  (λx _=>ch.length-(intOf x).toNat)
 case atStart=>exact⟨0,vax _,Y,by simpa[mj]using gK.out,E.out,D.out,N7.out,F.out⟩
 case round=>
  obtain⟨k,hk,rfl,dS,JI,t,Nm,C⟩:=hrel;have HOW:Hid (Own w0 wr bs a (.S dC no N d) f g ts ns dk (mj aX (ch.take k)) vals):=dS;have p:Hid (h5 wr (.slice ac ch.length cc) ch):=JI;have pV:Hid (fM 3 wr (.slice ac ch.length cc)):=t;have Wo:Hid (hJ wr (.slice a1 l.length c1) l):=Nm;have X:Hid (fM 115 wr (.slice a1 l.length c1)):=C;clear dS t Nm C gK E D N7 F;by_cases hlt:k<ch.length
  .obtain⟨Ds,aJd,aJe,N6,SO,avP⟩:=ints_at p.out hlt;simp at N6;obtain⟨rfl,rfl⟩:=N6;obtain⟨q,hq,aJf⟩:=avO.out ch[k] AA;have Wp:q<(mj aX (ch.take k)).length:=by grind[aag]
   rw[hq]at avP;have mi:Hid _:=hq;obtain⟨gk,B,rfl,wO,kp⟩:=World.ownsRow.form HOW.out.re AQ;have avQ:=HOW.out.take Wp;have kA:=HOW.out.box.rules.1 3;have aJg:wr.cell? (.a bs 3)=some (.S gk 0 (mj aX (ch.take k)).length B):=AA;have aJh:=CD HOW.out.re q (.bool (mj aX (ch.take k))[q]) AA;obtain⟨bq,lj⟩:=am5 HOW.out.re;have aJi:=lj.rules.2;have j:∀{T:uaa}{v:Value},fM T wr v->T≠4->∀b off n c,v=.S b off n c->(wr.setCell ⟨gk,q,none⟩ (.T)).heap[b]?=wr.heap[b]?:=by intro T v hv hT b off n c e;subst e;exact vat _ _ _ _ (hv.ne lj hT)
   have hrel':Own w0 (wr.setCell ⟨gk,q,none⟩ (.T)) bs a (.S dC no N d) f (.S gk 0 (mj aX (ch.take k)).length B) ts ns dk (mj aX (ch.take (k+1))) vals:=by grind[List.take_succ_eq_append_getElem,ana]
   have avR:Hid _:=hrel';have AW:Hid (h5 (wr.setCell ⟨gk,q,none⟩ (.T)) _ ch):=p.out.yL (j pV.out AF);have H6:Hid (fM 3 (wr.setCell ⟨gk,q,none⟩ (.T)) _):=pV.out.set _ _;have JL:Hid (hJ (wr.setCell ⟨gk,q,none⟩ (.T)) _ l):=Wo.out.yL (j X.out AF);have avS:Hid (fM 115 (wr.setCell ⟨gk,q,none⟩ (.T)) _):=X.out.set _ _;have HI:(0:Int)<=(q:Int):=AQ;have Ux:(q:Int)<((mj aX (ch.take k)).length:Int):=AQ;have aJj:=HOW.out.box.lt;clear kA j hrel' avQ lj hq JI;go_wp2_with fail
   go_roundw
   case rel=>exact⟨k+1,AQ,by go_num,avR.out,AW.out,H6.out,JL.out,avS.out⟩
   case measure=>simp[intOf];omega
  .have xr:ch.take k=ch:=AA;have o:Hid (Own w0 wr bs a (.S dC no N d) f g ts ns dk (mj aX ch) vals):=AA;clear xr HOW p pV JI;have dD:=o.out.box;obtain⟨t,Gu,yC⟩:=dD.all;clear dD;have S:Hid _:=Nd (ag.new wr #[.slice a1 l.length c1] 79);have R:Hid (∀u∈([.slice a1 l.length c1]:uai),u.oneCell'=true):=by intro u y;simp at y;subst y;rfl
   have Q:Hid _:=o.out.sr.alloc (.cells #[.slice a1 l.length c1] 79);have AU:Hid ((wr.alloc (.cells #[.slice a1 l.length c1] 79)).heap.size=wr.heap.size+1):=BB;have Z:Hid (w0.heap.size<=(wr.alloc (.cells #[.slice a1 l.length c1] 79)).heap.size):=by have:=o.out.below.size;grind[Hid]
   go_upto_region 12 with(at_builtin;refine Gr amf _ Ao _ _ Ao w0.heap.size f dk.length vals Ao Q.out wr.heap.size 1 1 _ Ao Y S.out R.out AQ (by have:=nz.out;omega) (by have:=nz.out;omega) Z.out (wr.heap.size+1) AU.out ?_;intro g4 CJ w4 A BM avT TV;obtain⟨H8,avU,la⟩:=(o.out.am9 BM).all)
   have s:Hid (Own w0 (w4.setCell ⟨bs,2,none⟩ (.S g4 0 (dk.length+1) CJ)) bs a (.S dC no N d) (.S g4 0 (dk.length+1) CJ) g ts ns (dk++[l]) (mj aX ch) (vals++[.slice a1 l.length c1])):=o.out.am6 Wo.out X.out (by have:=nz.out;omega) A BM;clear A BM avT TV H8 avU la S R Q AU Z Wo X o t Gu yC;generalize w4.setCell ⟨bs,2,none⟩ (.S g4 0 (dk.length+1) CJ)=iK at *;obtain⟨t,Gu,yC⟩:=s.out.box.all;have sI:(mj aX ch).length=aX.length:=aag _ _;have H9:Hid ((mj aX ch).length<=20):=GB;clear sI;have S:Hid _:=Nd (ag.new iK #[.F] 4);have R:Hid (∀u∈([.F]:uai),u.oneCell'=true):=by intro u y;simp at y;subst y;rfl
   have Q:Hid _:=s.out.re.alloc (.cells #[.F] 4);have AU:Hid ((iK.alloc (.cells #[.F] 4)).heap.size=iK.heap.size+1):=BB;have Z:Hid (w0.heap.size<=(iK.alloc (.cells #[.F] 4)).heap.size):=by have:=s.out.below.size;grind[Hid]
   go_wp2_with (at_builtin;refine Gr M3 _ Ao _ _ Ao w0.heap.size g (mj aX ch).length ((mj aX ch).map .bool) Ao Q.out iK.heap.size 1 1 _ Ao Y S.out R.out AQ (by have:=H9.out;omega) (by have:=H9.out;omega) Z.out (iK.heap.size+1) AU.out ?_;intro jB aJk ip H_ yc aJl TT;obtain⟨HF,aJm,ajQ⟩:=(s.out.am_ yc).all)
   have avV:=s.out.am8 (by have:=H9.out;omega) H_ yc;go_ret
   exact⟨Y,_,_,_,avV⟩
end
section
attribute [local go_sem ↓] Go.wp_at_zero Go.wp_at_succ
def vh:Nat->List Bool
 |0=>[]
 |1=>[false]
 | _=>[true,false]
def TR{a f d e ns aX vals}(h:Own w0 w bs a f d e ts ns dk aX vals)(i:0<aX.length):∃g c,e=.S g 0 aX.length c/\(∀k b,aX[k]?=some b->w.cell? (.a g k)=some (.bool b))/\w.cell? (.a bs 3)=some (.S g 0 aX.length c)/\w.cell? (.a bs 1)=some f/\w.cell? (.a bs 0)=some a/\w.cell? (.a bs 2)=some d:=by obtain⟨g,c,rfl,-,-⟩:=World.ownsRow.form h.re i;have j:=h.box.rules.1;exact⟨g,c,Y,λk b l=>CD h.re k (.bool b) AA,AA,AA,AA,AA⟩
def avW(bs g kc:Nat)(a:uag)(b:Nat)(w:aR)(h1:w.cell? (.a bs 1)=some (.slice a 2 b))(h3:w.cell? (.a bs 3)=some (.S g 0 2 kc))(c:w.cell? (.a g 0)=some (.T)):
 Calls vfc 24 #[.P bs 0] w λe w'=>e=.returned (.tuple #[.I 0,.F])/\w'=w:=by
 go_enter (vez func24),ntmps24
 go_wp2
 go_loopw [17] (λx W=>W=w/\(x=.I 0\/x=.I 1)) (λx _=>1-(intOf x).toNat)
 case atStart=>grind
 case round=>
  obtain⟨rfl,rfl|rfl⟩:=hrel
  .go_wp2
   simp_all[intOf]
  .go_wp2
   go_ret2
   simp_all
