import Derived.Test.YtcjlmniddnnieaaGreatPAG
import Derived.Test.YtcjlmniddnnieaaGreatPAH
import Derived.Test.YtcjlmniddnnieaaGreatPAI
set_option linter.all false
set_option maxRecDepth 100000
set_option maxHeartbeats 16000000
namespace Go.Proofs.YtcjlmniddnnieaaGreat
open Tryz
namespace bz
open Conc RowKit Conc.Lib ConcR.Gen ConcM au bn ai
def UO{A:e9}{l:ai.Lo A.ao}{γ:ai.aN A.aO}(h:hH (am A) l γ):l.fuel<=γ.a6:=by obtain⟨ls,i,hi,hg⟩:∃(ls:List (ai.Lo A.ao))(i:Nat),ls[i]?=some l/\s6 A γ ls:=h;have:=Nl (ls.map (·.fuel)) i l.fuel AJ;have:=hg.hJ;omega
theorem Uv{A:e9}(e5:A.most<256){l:ai.Lo A.ao}{γ:ai.aN A.aO}(h:hH (am A) l γ):γ.mu.k<256:=by obtain⟨ls,i,hi,hg⟩:=h;have b:=hg.l3.Ni;have a:=hg.len;grind
theorem Oz{A:e9}{l:ai.Lo A.ao}{γ:ai.aN A.aO}(h:hH (am A) l γ)(a:l.mx=.jk):γ.mu.S=false/\γ.mu.W=true:=by obtain⟨ls,i,hi,hg⟩:=h;have:=hg.l3.aap (i:=i) AJ;grind
def arW{A:e9}{l:ai.Lo A.ao}{γ:ai.aN A.aO}(h:hH (am A) l γ)(a:l.mx=.hand):γ.mu.S=true/\γ.mu.L=false/\γ.mu.W=false/\1<=γ.mu.k:=by obtain⟨ls,i,hi,hg⟩:=h;have:=hg.l3.JA (i:=i) AJ;grind
variable{n:bp}
def z0{m:bp}(h:m.word=n.word):m.L=n.L/\m.W=n.W/\m.S=n.S/\m.k=n.k:=by have a1:m.L.toNat<=1:=vau _;have i:m.W.toNat<=1:=vau _;have f:m.S.toNat<=1:=vau _;have b1:n.L.toNat<=1:=vau _;have b2:n.W.toNat<=1:=vau _;have g:n.S.toNat<=1:=vau _;unfold bp.word at h;have e:m.L.toNat=n.L.toNat:=AP;have d:m.W.toNat=n.W.toNat:=AP;have c:m.S.toNat=n.S.toNat:=AP;have key:∀a b:Bool,a.toNat=b.toNat->a=b:=AU;grind
variable{o:bp}{cw it old:Int}{w:aH}
section
variable{A:e9}{Stop:Bool->ai.Lo A.ao->aX->Prop}{m:Bool}{mine:dY}
variable{a2:Frame}{aD:Act}{aB:fC}{aJ:Nat}{aL:uad}{aG:uaa}{csZ:fG}
def arX(G:A.Good){f:Nat}{a:A.ao}{γ:ai.aN A.aO}{sv aw:Bool}(d:¬A.left a)(e5:A.most<256)(j:∀b,A.K b\/mine b->b≠A.st)(hs:hH (am A) ⟨.hand,false,1,f+3,a⟩ γ)(e:Behind A Stop m mine a2 aD aB aJ aL aG csZ f a w):EB A Stop m mine a2 aD aB aJ aL aG csZ ⟨.hand,false,1,f+3,a⟩ γ cw sv aw it (γ.mu.word:Int) w:=by
 have hk:=Uv e5 hs;obtain⟨hS,n,k,l⟩:=arW hs Y;have g:bits .and .i32 (γ.mu.word:Int) 4=4:=by grind[Kz]
 have h:bits .and .i32 (γ.mu.word:Int) 3=0:=by grind[arK]
 have i:=KB γ.mu;have c:(((γ.mu.k:Nat):Int)==0)=false:=AJ;refine arV G (!sv||γ.mu.k==1) ?_ d e5 g h i c j e;cases sv<;>grind
def arY(G:A.Good){f:Nat}{a:A.ao}{γ:ai.aN A.aO}{sv aw:Bool}(o:¬A.left a)(e5:A.most<256)(u:∀b,A.K b\/mine b->b≠A.st)(D:∀w' g k,g.a6<γ.a6->ak (am A) mine w w'->hH (am A) ⟨.jk,false,1,f+3,a⟩ g->qm A Stop m mine a2 aD aB aJ aL aG csZ ⟨.jk,false,1,f+3,a⟩ g cw k true 0 (g.mu.word:Int) w')(C:Behind A Stop m mine a2 aD aB aJ aL aG csZ f a w):Ox A Stop m mine a2 aD aB aJ aL aG csZ ⟨.j6,false,1,f+2,a⟩ γ cw sv aw it old w:=by
 unfold Ox;intros
 have hF:=ak.refl (am A) mine w;refine bf.mk Y (λj d H c=>?_);replace hF:=ak.trans hF (dN.rw c);have E:d.a6<=γ.a6:=by grind
 have F:f+2<=d.a6:=UO c.sees;by_cases h0:d.mu.sema=0
 .refine .wait (stepG_semacquire_wait (ad:=ai.k_ A) Y Y Y func148 UH UI UJ UK Bi ?_) Y (.inl ⟨Y,h0⟩) La;have:=JE c.mt.1;grind
 have v:((d.mu.sema:Nat):Int)-1=((d.mu.sema-1:Nat):Int):=AP;have s:=wz (A:=A) (mine:=mine) u j 1 none (.int .u32 ((d.mu.sema-1:Nat):Int));cases hS:d.mu.S with
 |false=>
  refine Oy G c (y:=.jk) (m1:={d.mu with sema:=d.mu.sema-1}) (f1:=f+3) (stepG_semacquire Y Y Ag Y func148 UH UI UJ UK Bi (JE c.mt.1) AP (p9 c.mt.1 1 none)) v Y Y o (anw hS AP AQ) AQ (.inr AP) ?_;clear c;refine bb G ?_;replace hF:=ak.trans hF s;u_c vdh ak.trans hF
  refine vag (λi l=>⟨Y,λt z=>?_⟩);replace hF:=ak.trans hF l;have x:t.a6<γ.a6:=by grind
  exact Uy G (λw' g k r p n=>arU G (by grind[Kz,Uv,Oz]) (λw'' q=>D w'' g k (r.elim (λe=>AJ) (λe=>Nat.lt_trans e x)) (ak.trans hF (ak.trans p q)) n)) ..
 |true=>
  refine Oy G c (y:=.hand) (m1:={d.mu with sema:=d.mu.sema-1}) (f1:=f+3) (stepG_semacquire Y Y Ag Y func148 UH UI UJ UK Bi (JE c.mt.1) AP (p9 c.mt.1 1 none)) v Y Y o (anx hS AP AQ) AQ (.inr AP) ?_;clear c;refine bb G ?_;replace hF:=ak.trans hF s;u_c vdh ak.trans hF
  refine vag (λi l=>⟨Y,λt z=>?_⟩);replace hF:=ak.trans hF l;exact Uy G (λw' g k r p n=>arX G o e5 u n (λw'' B q=>C w'' B (ak.trans hF (ak.trans p q)))) ..
def GZ(G:A.Good){f hJ:Nat}{x y:b3}{a:A.ao}{γ:ai.aN A.aO}{new:Int}{sv aw:Bool}(q:¬A.left a)(u:∀b,A.K b\/mine b->b≠A.st)(D:1<=hJ)(i:bp->bp)(ht:∀mu:bp,mu.word=o.word->lZ x y mu (i mu) hJ (f+2)/\((i mu).word:Int)=new/\(i mu).sema=mu.sema)(B:∀w' e,e.a6<γ.a6->ak (am A) mine w w'->wx A Stop m mine a2 aD aB aJ aL aG csZ ⟨y,false,1,f+2,a⟩ e cw sv aw it (o.word:Int) true w')(z:∀w' e,(e=γ\/e.a6<γ.a6)->e.mu.word≠o.word->ak (am A) mine w w'->wx A Stop m mine a2 aD aB aJ aL aG csZ ⟨x,false,1,hJ,a⟩ e cw sv aw it (o.word:Int) false w'):
 Ky A Stop m mine a2 aD aB aJ aL aG csZ ⟨x,false,1,hJ,a⟩ γ cw sv aw it (o.word:Int) new w:=by
 unfold Ky;intros
 have hF:=ak.refl (am A) mine w;refine bf.mk Y (λh g v d=>?_);replace hF:=ak.trans hF (dN.rw d);have p:=(c_ G).less _ _ _ v;have C:hJ<=g.a6:=UO d.sees;by_cases k:g.mu.word=o.word
 .obtain⟨t,s,r⟩:=ht g.mu k;have hcell:=l4 d.mt.1;rw[k]at hcell;refine Bq G d (y:=y) (m1:=i g.mu) (f1:=f+2) (stepG_cas_hit Y Y Ag Y func126 zk zl zm .i32 zn Y Y Y hcell (p9 d.mt.1 0 none)) s.symm Y AQ r q t AQ ?_;replace hF:=ak.trans hF (wz (A:=A) (mine:=mine) u h 0 none (.int .i32 ((i g.mu).word:Int)));clear d;refine bb G ?_;u_c vdh ak.trans hF
  refine vag (λc j=>⟨Y,λn l=>?_⟩);exact B c n (by
   grind) (ak.trans hF j) ..
 .refine No (stepG_cas_miss Y Y Ag Y func126 zk zl zm .i32 zn Y Y Y (l4 d.mt.1) (p9 d.mt.1 0 none) AP) Y AQ ?_;clear d;refine bb G ?_;u_c vdh ak.trans hF
  exact vag (λc j=>⟨Y,λn l=>(z c g p k (ak.trans hF j) ..).k9 (c_ G) l⟩)
end
def Br(A:e9)(Stop:Bool->ai.Lo A.ao->aX->Prop)(m:Bool)(mine:dY)(a2:Frame)(aD:Act)(aB:fC)(aJ:Nat)(aL:uad)(aG:uaa)(csZ:fG)(l:ai.Lo A.ao)(γ:ai.aN A.aO)(old:Int)(w:aH):Prop:=
 ∀(dn dB jB h5 z1 tp fm eO fo fp fq ft rr ru fI fu fv fx i6 fy gr gt gu vZ v_ wa wb wd we wh wi wj wk wl wm wo wq wt wu wv ww:Value),bf (am A) prog Stop m l γ ⟨Conc.G ((base 129).at ⟨#[.pointer (some (ai.fP A)),dn,dB,jB,.int .i32 old,h5,z1,tp,fm,eO,fo,fp,fq,ft,rr,ru,fI,fu,fv,fx,i6,fy,gr,gt,gu,vZ,v_,wa,wb,wd,we,wh,wi,wj,wk,wl,wm,wo,wq,wt,wu,wv,ww],[]⟩ [.code ((dC (f129.body.getD .skip)).getD .skip),.inLoop ((dC (f129.body.getD .skip)).getD .skip),.inBlock 0]) (a2.at aD (.inRegion aB (aJ::aL)::aG)::csZ),w,mine⟩
def EC{A:e9}{l:ai.Lo A.ao}{γ a:ai.aN A.aO}{v o:Nat}(b:l.mx=.eG v o)(h:¬(γ.mu.jz/\γ.mu.gG=v))(c:(am A).dM l γ a):¬(a.mu.jz/\a.mu.gG=v):=by
 rcases c with rfl|⟨_,_,d⟩
 .exact h
 .exact d.2 v o b h
def Xx{A:e9}{l:ai.Lo A.ao}{γ:ai.aN A.aO}(h:hH (am A) l γ):IntKind.u32.wrap ((γ.mu.sema:Int)+1)=((γ.mu.sema+1:Nat):Int):=by
 obtain⟨ls,i,hi,hg⟩:=h;have b:γ.mu.sema<=1:=by have a:γ.mu.W.toNat<=1:=vau _;cases hS:γ.mu.S with|false=>have:=hg.l3.nm hS;omega|true=>have:=hg.l3.st hS;omega
 rw[IntKind.wrap_u32];omega
theorem ar0{A:e9}{l:ai.Lo A.ao}{γ:ai.aN A.aO}{v o:Nat}(h:hH (am A) l γ)(d:l.mx=.eG v o)(a:γ.mu.word≠o):¬(γ.mu.jz/\γ.mu.gG=v):=by obtain⟨ls,i,hi,hg⟩:=h;rintro⟨c,b⟩;exact a ((hg.l3.eG i v o AJ).2 b.symm c).symm
def Xt{A:e9}(e5:A.most<=250){l:ai.Lo A.ao}{γ:ai.aN A.aO}(h:hH (am A) l γ):γ.mu.k<=250:=by obtain⟨ls,i,hi,hg⟩:=h;have b:=hg.l3.Ni;have a:=hg.len;grind
def ar1{m:bp}(h:m.word=n.word)(a:n.jz):m.jz:=by obtain⟨e,d,c,b⟩:=z0 h;exact⟨e.trans a.1,d.trans a.2.1,c.trans a.2.2.1,by rw[b];exact a.2.2.2⟩
variable{kk:Int}{w0:aH}
section
variable{A:e9}{Stop:Bool->ai.Lo A.ao->aX->Prop}{m:Bool}{mine:dY}
variable{a2:Frame}{aD:Act}{aB:fC}{aJ:Nat}{aL:uad}{aG:uaa}{csZ:fG}
def ar2(G:A.Good){l:ai.Lo A.ao}{γ:ai.aN A.aO}(hk:old / 8=kk)(c:(kk==0)=true\/((kk==0)=false/\(bits .and .i32 old 7 != 0)=true))(f:∀w' d,ak (am A) mine w w'->(am A).dM l γ d->bf (am A) prog Stop m l d ⟨Conc.G (a2.at (aD.put ((aB[aJ]?).bind (·.dst)) (.tuple #[])) (.inRegion aB aL::aG)) csZ,w',mine⟩):
 Br A Stop m mine a2 aD aB aJ aL aG csZ l γ old w:=by
 unfold Br;intros
 have hF:=ak.refl (am A) mine w;simp only[f129,vae,dC];refine bb G ?_;rcases c with c|⟨h0,c⟩;all_goals
  repeat w_go ak.trans
  u_leave0 func129 ak.trans hF
  exact vag (λa b=>⟨Y,λg e=>f a g (ak.trans hF b) e⟩)
def ar3(G:A.Good){f v l:Nat}{a:A.ao}{γ:ai.aN A.aO}(z:¬A.left a)(B:∀b,A.K b\/mine b->b≠A.st)(n:o.jz)(hok:o.k<256)(H:∀w' p,ak (am A) mine w w'->bf (am A) prog Stop m ⟨.idle,false,1,f+1,a⟩ p ⟨Conc.G (a2.at (aD.put ((aB[aJ]?).bind (·.dst)) (.tuple #[])) (.inRegion aB aL::aG)) csZ,w',mine⟩)(x:∀w' p t,(am A).dM ⟨.eG v l,false,1,f+5,a⟩ γ t->t.mu.word≠o.word->hH (am A) ⟨.eG v l,false,1,f+5,a⟩ t->(am A).dM ⟨.eG v l,false,1,f+5,a⟩ t p->ak (am A) mine w w'->hH (am A) ⟨.eG v l,false,1,f+5,a⟩ p->Br A Stop m mine a2 aD aB aJ aL aG csZ ⟨.eG v l,false,1,f+5,a⟩ p (p.mu.word:Int) w'):
 Br A Stop m mine a2 aD aB aJ aL aG csZ ⟨.eG v l,false,1,f+5,a⟩ γ (o.word:Int) w:=by
 unfold Br;intros
 unfold Br at x;have hF:=ak.refl (am A) mine w;have hk:=KB o;have L:(((o.k:Nat):Int)==0)=false:=by have:=n.2.2.2;grind
 have K:(bits .and .i32 (o.word:Int) 7 != 0)=false:=by rw[UR o hok,n.1,n.2.1,n.2.2.1];rfl
 have J:=arP o hok n.2.2.2;have M:=UQ ({o with k:=o.k-1}:bp) AJ;simp only[f129,vae,dC]at x⊢;refine bb G ?_;repeat w_go ak.trans
 refine dU Y hF λd c s h q i j e hF=>?_;have E:=(c_ G).trans _ _ _ _ h j;by_cases u:i.mu.word=o.word
 .have hcell:=l4 e.mt.1;rw[u]at hcell;obtain⟨Q,P,O,N⟩:=z0 u;have hv:(({o with k:=o.k-1,W:=true}:bp).word:Int)=(({i.mu with k:=i.mu.k-1,W:=true}:bp).word:Int):=by grind[bp.word]
  refine Bq G e (y:=.c8) (m1:={i.mu with k:=i.mu.k-1,W:=true}) (f1:=f+2) (stepG_cas_hit Y Y Ag Y func126 zk zl zm .i32 zn Y Y Y hcell (p9 e.mt.1 0 none)) hv Y AQ Y z (anD (ar1 u n) AQ) AQ ?_;replace hF:=ak.trans hF (wz (A:=A) (mine:=mine) B q 0 none (.int .i32 (({i.mu with k:=i.mu.k-1,W:=true}:bp).word:Int)));clear e j h c x;refine bb G ?_;walk_nrm
  repeat w_go ak.trans
  refine dU Y hF λd c s h g r j e hF=>?_;refine Oy G e (y:=.idle) (m1:={r.mu with sema:=r.mu.sema+1}) (f1:=f+1) (stepG_semrelease (ad:=ai.k_ A) Y Y Ag Y func150 VF Ov Vz Vy (by simp[Act.eval,ai.fP,ai.k_]) (JE e.mt.1) (p9 e.mt.1 1 none)) ?_ Y Y z (anF Kn) AQ (.inl ?_) ?_
  .exact Xx e.sees
  .exact mayWake_entry Y Y func150 Ov
  replace hF:=ak.trans hF (wz (A:=A) (mine:=mine) B g 1 none (.int .u32 ((r.mu.sema+1:Nat):Int)));clear e j h c;refine bb G ?_;walk_nrm
  repeat w_go ak.trans
  u_leave0 func129 ak.trans hF
  exact vag (λd c=>⟨Y,λs _=>H d s (ak.trans hF c)⟩)
 .have D:=e.sees;refine No (stepG_cas_miss Y Y Ag Y func126 zk zl zm .i32 zn Y Y Y (l4 e.mt.1) (p9 e.mt.1 0 none) AP) Y AQ ?_;clear e j h c;refine bb G ?_;walk_nrm
  repeat w_go ak.trans
  refine dU Y hF λd c s h g r j e hF=>?_;have F:=(c_ G).trans _ _ _ _ h j;have C:=e.sees;refine l5 (Bo Y Y Ag Y Y (l4 e.mt.1) ary) Y Y (.refl _) Y Y ?_;clear e j h c;refine bb G ?_;walk_nrm
  repeat w_nl ak.trans
  u_c stepG_inLoop ak.trans hF
  exact vag (λd c=>⟨Y,λs I=>(x d r i E u D F (ak.trans hF c) C ..).k9 (c_ G) I⟩)
def ar4(G:A.Good){f v e:Nat}{a:A.ao}(r:¬A.left a)(e5:A.most<=250)(u:∀b,A.K b\/mine b->b≠A.st)(s:∀w' c,ak (am A) mine w0 w'->bf (am A) prog Stop m ⟨.idle,false,1,f+1,a⟩ c ⟨Conc.G (a2.at (aD.put ((aB[aJ]?).bind (·.dst)) (.tuple #[])) (.inRegion aB aL::aG)) csZ,w',mine⟩)(t:∀w' c,ak (am A) mine w0 w'->¬(c.mu.jz/\c.mu.gG=v)->bf (am A) prog Stop m ⟨.eG v e,false,1,f+5,a⟩ c ⟨Conc.G (a2.at (aD.put ((aB[aJ]?).bind (·.dst)) (.tuple #[])) (.inRegion aB aL::aG)) csZ,w',mine⟩):
 ∀(N:Nat)(γ:ai.aN A.aO)(o:bp)(w:aH),o.k<=250->(¬(γ.mu.jz/\γ.mu.gG=v)\/(o.jz/\e=o.word))->ak (am A) mine w0 w->γ.a6*2+(if o.word=γ.mu.word then 0 else 1)<N->Br A Stop m mine a2 aD aB aJ aL aG csZ ⟨.eG v e,false,1,f+5,a⟩ γ (o.word:Int) w:=by
 intro N;induction N with
 |zero=>grind
 |succ N q=>
  intro γ o w hk d j a3;have n:o.k<256:=AP;by_cases g:o.jz
  .refine ar3 G r u g n (λw' c h=>s w' c (ak.trans j h)) (λw' c l z D C i y x=>?_);have k:¬(l.mu.jz/\l.mu.gG=v):=by
    rcases d with d|⟨_,d⟩
    .exact EC Y d z
    grind[ar0]
   refine q c c.mu w' (Xt e5 x) (.inl (EC Y k i)) (ak.trans j y) ?_;grind
  .have p:¬(γ.mu.jz/\γ.mu.gG=v):=d.resolve_right (λh=>g h.1);refine ar2 G (KB o) ?_ (λw' c h i=>t w' c (ak.trans j h) (EC Y p i));by_cases B:o.k=0
   .grind
   .refine .inr ⟨AJ,?_⟩;rw[UR o n];have E:¬(o.L=false/\o.W=false/\o.S=false):=λh=>g ⟨h.1,h.2.1,h.2.2,AP⟩;grind
end
def Xs(m:bp)(hk:m.k<256)(a:m.L=false):IntKind.wrap .i32 ((m.word:Int)+1)=(({m with L:=true}:bp).word:Int):=by grind[Bool.toNat_le,IntKind.wrap_i32,bp.word]
section
variable{A:e9}{Stop:Bool->ai.Lo A.ao->aX->Prop}{m:Bool}{mine:dY}
def KH{P:cf}{main:Bool}{b:Frame}{a:Act}{todo:uaa}{c:Frame}{cs:fG}{fn:Func}{K:Goroutine->aH->Array Event->Prop}(hn:b.kind=.deferred)(hd:a.defers=[])(e:P.funcs[b.fn]?=some fn)(d:fn.results=#[])(f:c.mode=.returning)(h:K (Conc.G c cs) w #[]):
 (stepG P main (Conc.G {b.at a todo with mode:=.returning} (c::cs)) w).goes K:=by
 simp_all[stepG_leave_deferred,results_none,events_results_none]
section
variable{a2:Frame}{aD:Act}{aB:fC}{aJ:Nat}{aL:uad}{aG:uaa}{csZ:fG}
def ar6(G:A.Good){f v g:Nat}{a:A.ao}(q:¬A.left a)(e5:A.most<=250)(u:∀b,A.K b\/mine b->b≠A.st)(j:o.L=false)(hS:o.S=false)(hk:o.k<=250)(r:∀w' c,ak (am A) mine w0 w'->bf (am A) prog Stop m ⟨.idle,false,1,f+1,a⟩ c ⟨Conc.G (a2.at (aD.put ((aB[aJ]?).bind (·.dst)) (.tuple #[])) (.inRegion aB aL::aG)) csZ,w',mine⟩)(s:∀w' c,ak (am A) mine w0 w'->¬(c.mu.jz/\c.mu.gG=v)->bf (am A) prog Stop m ⟨.eG v g,false,1,f+5,a⟩ c ⟨Conc.G (a2.at (aD.put ((aB[aJ]?).bind (·.dst)) (.tuple #[])) (.inRegion aB aL::aG)) csZ,w',mine⟩)(w:aH)(γ:ai.aN A.aO)(t:ak (am A) mine w0 w)(n:¬(γ.mu.jz/\γ.mu.gG=v)\/(o.jz/\g=o.word)):
 bf (am A) prog Stop m ⟨.eG v g,false,1,f+5,a⟩ γ ⟨Conc.G ((base 129).at ⟨#[.pointer (some (ai.fP A)),.int .i32 (o.word:Int),.U,.U,.U,.U,.U,.U,.U,.U,.U,.U,.U,.U,.U,.U,.U,.U,.U,.U,.U,.U,.U,.U,.U,.U,.U,.U,.U,.U,.U,.U,.U,.U,.U,.U,.U,.U,.U,.U,.U,.U,.U],[]⟩ [.code (f129.body.getD .skip)]) (a2.at aD (.inRegion aB (aJ::aL)::aG)::csZ),w,mine⟩:=by
 have hF:=t;have x:o.k<256:=AP;have i:=λ(c:ai.aN A.aO)(w':aH)(h:ak (am A) mine w0 w')(k:¬(c.mu.jz/\c.mu.gG=v)\/(o.jz/\g=o.word))=>ar4 G q e5 u r s (c.a6*2+(if o.word=c.mu.word then 0 else 1)+1) c o w' hk k h Kn;unfold Br at i;have C:=Xs o x j;have B:bits .and .i32 (({o with L:=true}:bp).word:Int) 1=1:=by grind[UM]
 have z:bits .and .i32 (o.word:Int) 4=0:=by grind[Kz]
 simp only[f129,vae,dC]at i⊢;clear j hS;refine bb G ?_;repeat w_but "code.loop" ak.trans
 u_c stepG_loop ak.trans hF
 exact vag (λd e=>⟨Y,λy p=>i y d (ak.trans hF e) (n.imp (λh=>EC (A:=A) (l:=⟨.eG v g,false,1,f+5,a⟩) Y h p) id) ..⟩)
def ar7(G:A.Good){f:Nat}{a:A.ao}(k:¬A.left a)(p:∀b,A.K b\/mine b->b≠A.st)(j:o.L=false)(hS:o.S=true)(hk:o.k<=250)(l:∀w' s,ak (am A) mine w0 w'->bf (am A) prog Stop m ⟨.idle,false,1,f+1,a⟩ s ⟨Conc.G (a2.at (aD.put ((aB[aJ]?).bind (·.dst)) (.tuple #[])) (.inRegion aB aL::aG)) csZ,w',mine⟩)(w:aH)(γ:ai.aN A.aO)(n:ak (am A) mine w0 w):
 bf (am A) prog Stop m ⟨.ps,false,1,f+2,a⟩ γ ⟨Conc.G ((base 129).at ⟨#[.pointer (some (ai.fP A)),.int .i32 (o.word:Int),.U,.U,.U,.U,.U,.U,.U,.U,.U,.U,.U,.U,.U,.U,.U,.U,.U,.U,.U,.U,.U,.U,.U,.U,.U,.U,.U,.U,.U,.U,.U,.U,.U,.U,.U,.U,.U,.U,.U,.U,.U],[]⟩ [.code (f129.body.getD .skip)]) (a2.at aD (.inRegion aB (aJ::aL)::aG)::csZ),w,mine⟩:=by
 have hF:=n;have q:o.k<256:=AP;have x:=Xs o q j;have v:bits .and .i32 (({o with L:=true}:bp).word:Int) 1=1:=by grind[UM]
 have u:bits .and .i32 (o.word:Int) 4=4:=by grind[Kz]
 simp only[f129,vae];clear j hS;refine bb G ?_;repeat w_go ak.trans
 refine dU Y hF λd c i r e h t g hF=>?_;refine Oy G g (y:=.idle) (m1:={h.mu with sema:=h.mu.sema+1}) (f1:=f+1) (stepG_semrelease (ad:=ai.k_ A) Y Y Ag Y func150 VF Ov Vz Vy (by simp[Act.eval,ai.fP,ai.k_]) (JE g.mt.1) (p9 g.mt.1 1 none)) (Xx g.sees) Y Y k (anG Kn) AQ (.inl (mayWake_entry Y Y func150 Ov)) ?_;replace hF:=ak.trans hF (wz (A:=A) (mine:=mine) p e 1 none (.int .u32 ((h.mu.sema+1:Nat):Int)));clear g t r c;refine bb G ?_;walk_nrm
 repeat w_go ak.trans
 u_leave0 func129 ak.trans hF
 exact vag (λd c=>⟨Y,λi _=>l d i (ak.trans hF c)⟩)
end
def OA(G:A.Good){f F:Nat}(X:f+8<=F){a' a:A.ao}(s:¬A.left a)(R:A.past a=A.past a')(e5:A.most<=250)(B:∀b,A.K b\/mine b->b≠A.st){c:Frame}{cs:fG}(I:c.mode=.returning)(U:(Conc.G c cs).status=.running)(Z:∀w' C,ak (am A) mine w0 w'->bf (am A) prog Stop m ⟨.idle,false,0,f,a⟩ C ⟨Conc.G c cs,w',mine⟩)(w:aH)(γ:ai.aN A.aO)(V:ak (am A) mine w0 w)(P:∀C,(am A).dM (⟨.own,true,0,F,a'⟩:ai.Lo A.ao) γ C->∀(xs:List A.ao)(i:Nat),xs[i]?=some a'->A.um C.al xs->A.um C.al (xs.set i a)):
 bf (am A) prog Stop m ⟨.own,true,0,F,a'⟩ γ ⟨Conc.G ((baseD 91).at ⟨#[.pointer (some (ai.fP A)),.U,.U,.U,.U,.U],[]⟩ [.code (f91.body.getD .skip)]) (c::cs),w,mine⟩:=by
 have hF:=V;simp only[f91,vae];refine bb G ?_;repeat w_go ak.trans
 u_call func115 Vt f115 ak.trans hF
 repeat w_go ak.trans
 refine dU rfl hF λn d x o k g p j hF=>?_;refine l5 (Bo rfl rfl Ag rfl rfl (l4 j.mt.1) Ve) rfl rfl (.refl _) rfl rfl ?_;have z:=(c_ G).trans _ _ _ _ o p;clear j p o d;refine bb G ?_;walk_nrm
 repeat w_go ak.trans
 refine dU rfl hF λn d D o k H p j hF=>?_;refine l5 (GY rfl rfl Ag rfl rfl (l4 j.mt.1)) rfl rfl (.refl _) rfl rfl ?_;replace z:=(c_ G).trans _ _ _ _ z ((c_ G).trans _ _ _ _ o p);clear j p o d;refine bb G ?_;walk_nrm
 repeat w_go ak.trans
 refine dU rfl hF λn d x o k g p j hF=>?_;replace z:=(c_ G).trans _ _ _ _ z ((c_ G).trans _ _ _ _ o p);refine anO G j (a1:=a) (f1:=f+7) (vck .releaseMerge AQ rfl rfl Ag rfl func70 UD UE UF UG Bi) rfl s R rfl rfl X (P _ z) ?_;clear j p o d z P;refine bb G ?_;walk_nrm
 repeat w_go ak.trans
 refine dU rfl hF λn d x o k g p j hF=>?_;refine s7 (d1:=1) G j LF (vbu .disable AQ rfl rfl Ag rfl func71 Du Dv Dw Dx) rfl s (s5 (f1:=f+6) Kn _) AQ rfl ?_;clear j p o d;refine bb G ?_;walk_nrm
 repeat w_go ak.trans
 refine dU rfl hF λn d x o k g p j hF=>?_;have hk:g.mu.k<=250:=Xt e5 j.sees;have W:g.mu.k<256:=AP;have E:g.mu.L=true:=by obtain⟨ls,iF,hi,hg⟩:=j.sees;exact hg.l3.Nj (Gq hi)
 have hv:=arO g.mu W E;cases hS:g.mu.S with
 |true=>
  refine Bq G j (y:=.ps) (m1:={g.mu with L:=false}) (f1:=f+2) (stepG_add_atomic rfl rfl Ag rfl func128 Kr Ks Kt .i32 Ku rfl rfl (l4 j.mt.1) (p9 j.mt.1 0 none)) hv rfl AQ rfl s (anA hS AQ) AQ ?_;rw[hv];replace hF:=ak.trans hF (wz (A:=A) (mine:=mine) B k 0 none (.int .i32 (({g.mu with L:=false}:bp).word:Int)));have q:((({g.mu with L:=false}:bp).word:Int) != 0)=true:=by
   have:({g.mu with L:=false}:bp).word≠0:=λe=>by have:=(UL e).2.2.1;grind
   grind
  clear hv E;generalize K:({g.mu with L:=false}:bp)=M at q hF⊢;clear j p o d;refine bb G ?_;walk_nrm
  repeat w_go ak.trans
  u_call func129 Vb f129 ak.trans hF
  refine vag (λr v=>⟨rfl,λD _=>ar7 G s B AJ AJ AJ (λt H u=>?_) r D (ak.refl _ _ _)⟩);replace hF:=ak.trans hF (ak.trans v u);clear v u q;refine bb G ?_;walk_nrm
  repeat w_go ak.trans
  refine dU rfl hF λn d x o k g p j hF=>?_;refine s7 (d1:=0) G j LO (vbu .enable AQ rfl rfl Ag rfl func72 rm rn rp rq) rfl s (s5 (f1:=f) Kn _) AQ rfl ?_;clear j p o d;refine bb G ?_;walk_nrm
  repeat w_go ak.trans
  u_leave0 func115 ak.trans hF
  repeat w_go ak.trans
  u_in ak.trans hF
  refine KH rfl rfl func91 rfl I ⟨CP,?_⟩;grind[Goes.stop,ak.trans]
 |false=>
  by_cases h0:({g.mu with L:=false}:bp).word=0
  .have Q:g.mu.k=0:=(UL h0).2.2.2;refine Bq G j (y:=.idle) (m1:={g.mu with L:=false}) (f1:=f+5) (stepG_add_atomic rfl rfl Ag rfl func128 Kr Ks Kt .i32 Ku rfl rfl (l4 j.mt.1) (p9 j.mt.1 0 none)) hv rfl AQ rfl s (anB hS Q Kn) AQ ?_;rw[hv,h0];replace hF:=ak.trans hF (wz (A:=A) (mine:=mine) B k 0 none (.int .i32 ((0:Nat):Int)));clear hv E h0 Q;clear j p o d;refine bb G ?_;walk_nrm
   repeat w_go ak.trans
   refine dU rfl hF λn d x o k g p j hF=>?_;refine s7 (d1:=0) G j LO (vbu .enable AQ rfl rfl Ag rfl func72 rm rn rp rq) rfl s (s5 (f1:=f) AQ _) AQ rfl ?_;clear j p o d;refine bb G ?_;walk_nrm
   repeat w_go ak.trans
   u_leave0 func115 ak.trans hF
   repeat w_go ak.trans
   u_in ak.trans hF
   refine KH rfl rfl func91 rfl I ⟨CP,?_⟩;grind[Goes.stop,ak.trans]
  .refine Bq G j (y:=.eG (g.mu.gG+1) ({g.mu with L:=false}:bp).word) (m1:={g.mu with L:=false,gG:=g.mu.gG+1}) (f1:=f+5) (stepG_add_atomic rfl rfl Ag rfl func128 Kr Ks Kt .i32 Ku rfl rfl (l4 j.mt.1) (p9 j.mt.1 0 none)) hv rfl AQ rfl s (anC hS Kn) AQ ?_;rw[hv];replace hF:=ak.trans hF (wz (A:=A) (mine:=mine) B k 0 none (.int .i32 (({g.mu with L:=false}:bp).word:Int)));have O:¬(({g.mu with L:=false,gG:=g.mu.gG+1}:bp).jz/\({g.mu with L:=false,gG:=g.mu.gG+1}:bp).gG=g.mu.gG+1)\/(({g.mu with L:=false}:bp).jz/\({g.mu with L:=false}:bp).word=({g.mu with L:=false}:bp).word):=by
    by_cases T:({g.mu with L:=false}:bp).jz
    .grind
    .exact .inl λh=>T h.1
   have q:((({g.mu with L:=false}:bp).word:Int) != 0)=true:=AJ;clear hv E h0;show bf (am A) prog Stop m _ _ ⟨_,k.setCell (ai.fP A) (.int .i32 (({g.mu with L:=false}:bp).word:Int)),_⟩;generalize K:({g.mu with L:=false}:bp)=M at q hF O⊢;clear j p o d;refine bb G ?_;walk_nrm
   repeat w_go ak.trans
   u_call func129 Vb f129 ak.trans hF
   refine vag (λr v=>⟨rfl,λD S=>ar6 G s e5 B AJ AJ AJ (λt H u=>?_) (λt H u J=>?_) r D (ak.refl _ _ _) (O.imp (λh=>EC (A:=A) (l:=⟨.eG (g.mu.gG+1) M.word,false,1,f+5,a⟩) rfl h S) id)⟩);focus
    replace hF:=ak.trans hF (ak.trans v u);clear v u q;refine bb G ?_;walk_nrm
    repeat w_go ak.trans
    refine dU rfl hF λn d x o k g p j hF=>?_;refine s7 (d1:=0) G j LO (vbu .enable AQ rfl rfl Ag rfl func72 rm rn rp rq) rfl s (s5 (f1:=f) Kn _) AQ rfl ?_
   rotate_left
   focus
    replace hF:=ak.trans hF (ak.trans v u);clear v u q;refine bb G ?_;walk_nrm
    repeat w_go ak.trans
    refine dU rfl hF λn d x o N Y p j hF=>?_;refine s7 (d1:=0) G j LO (vbu .enable AQ rfl rfl Ag rfl func72 rm rn rp rq) rfl s (anE (f1:=f) (EC (A:=A) rfl (EC (A:=A) (l:=⟨.eG (g.mu.gG+1) M.word,false,1,f+5,a⟩) rfl J o) p) AQ) AQ rfl ?_
   rotate_left
   all_goals
    clear j p o d;refine bb G ?_;walk_nrm
    repeat w_go ak.trans
    u_leave0 func115 ak.trans hF
    repeat w_go ak.trans
    u_in ak.trans hF
    refine KH rfl rfl func91 rfl I ⟨CP,?_⟩;grind[Goes.stop,ak.trans]
def US(G:A.Good){f:Nat}{a:A.ao}(e:¬A.left a)(e5:A.most<=250)(o:∀b,A.K b\/mine b->b≠A.st){c:Frame}{cs:fG}(g:c.mode=.returning)(d:(Conc.G c cs).status=.running)(j:∀w' p,ak (am A) mine w0 w'->bf (am A) prog Stop m ⟨.idle,false,0,f,a⟩ p ⟨Conc.G c cs,w',mine⟩)(w:aH)(γ:ai.aN A.aO)(n:ak (am A) mine w0 w):
 bf (am A) prog Stop m ⟨.own,true,0,f+8,a⟩ γ ⟨Conc.G ((baseD 91).at ⟨#[.pointer (some (ai.fP A)),.U,.U,.U,.U,.U],[]⟩ [.code (f91.body.getD .skip)]) (c::cs),w,mine⟩:=
 OA G Kj e Y e5 o g d j w γ n λ_ _ xs i hi h=>by obtain⟨l,k⟩:=vab.1 hi;rw[<-k,List.set_getElem_self l];exact h
end
def rx(p:Prop):Prop:=p
theorem rx.out{p:Prop}(h:rx p):p:=h
section
variable{A:e9}{Stop:Bool->ai.Lo A.ao->aX->Prop}{m:Bool}{mine:dY}
variable{a2:Frame}{aD:Act}{aB:fC}{aJ:Nat}{aL:uad}{aG:uaa}{csZ:fG}
theorem asz(G:A.Good){l:ai.Lo A.ao}{γ:ai.aN A.aO}{sv:Bool}(a3:∀w' c,(am A).dM l γ c->ak (am A) mine w w'->uH A Stop m mine a2 aD aB aJ aL aG csZ l c cw sv true it old w'):
 xS A Stop m mine a2 aD aB aJ aL aG csZ l γ cw sv true it old w:=by
 unfold xS jQ;intros
 unfold uH jQ at a3;have hF:=ak.refl (am A) mine w;simp only[f127,vae,dC,lr,dJ,G2,Nat.reduceBEq,vaf,↓reduceIte]at a3⊢;refine bb G ?_;u_c vdp ak.trans hF
 u_c vdp ak.trans hF
 repeat w_but "code.seq" ak.trans
 exact vag (λa b=>⟨Y,λe d=>a3 a e d (ak.trans hF b) ..⟩)
theorem asA(G:A.Good){l:ai.Lo A.ao}{γ:ai.aN A.aO}{sv:Bool}(f:bits .and .i32 old 2=2)(a3:∀w' c,(am A).dM l γ c->ak (am A) mine w w'->uH A Stop m mine a2 aD aB aJ aL aG csZ l c cw sv false it old w'):
 xS A Stop m mine a2 aD aB aJ aL aG csZ l γ cw sv false it old w:=by
 unfold xS jQ;intros
 unfold uH jQ at a3;have hF:=ak.refl (am A) mine w;simp only[f127,vae,dC,lr,dJ,G2,Nat.reduceBEq,vaf,↓reduceIte]at a3⊢;refine bb G ?_;u_c vdp ak.trans hF
 u_c vdp ak.trans hF
 repeat w_but "code.seq" ak.trans
 exact vag (λa b=>⟨Y,λe d=>a3 a e d (ak.trans hF b) ..⟩)
theorem asB(G:A.Good){l:ai.Lo A.ao}{γ:ai.aN A.aO}{sv:Bool}(f:bits .and .i32 old 2=0)(hk:old / 8=0)(a3:∀w' c,(am A).dM l γ c->ak (am A) mine w w'->uH A Stop m mine a2 aD aB aJ aL aG csZ l c cw sv false it old w'):
 xS A Stop m mine a2 aD aB aJ aL aG csZ l γ cw sv false it old w:=by
 unfold xS jQ;intros
 unfold uH jQ at a3;have hF:=ak.refl (am A) mine w;simp only[f127,vae,dC,lr,dJ,G2,Nat.reduceBEq,vaf,↓reduceIte]at a3⊢;refine bb G ?_;u_c vdp ak.trans hF
 u_c vdp ak.trans hF
 repeat w_but "code.seq" ak.trans
 exact vag (λa b=>⟨Y,λe d=>a3 a e d (ak.trans hF b) ..⟩)
def asC(G:A.Good){f:Nat}{a:A.ao}{γ:ai.aN A.aO}{new:Int}{sv:Bool}(H:¬A.left a)(K:∀b,A.K b\/mine b->b≠A.st)(n:rx (o.L=true/\o.S=false/\o.W=false))(N:bits .and .i32 (o.word:Int) 2=0)(hk:(o.word:Int) / 8=kk)(M:(kk != 0)=true)(L:bits .or .i32 (o.word:Int) 2=new)(F:rx (new=(({o with W:=true}:bp).word:Int)))(v:∀w' j,j.a6<γ.a6->ak (am A) mine w w'->uH A Stop m mine a2 aD aB aJ aL aG csZ ⟨.jk,false,1,f+4,a⟩ j cw sv true it (o.word:Int) w')(u:∀w' j,(j=γ\/j.a6<γ.a6)->ak (am A) mine w w'->uH A Stop m mine a2 aD aB aJ aL aG csZ ⟨.mo,false,1,f+5,a⟩ j cw sv false it (o.word:Int) w'):
 xS A Stop m mine a2 aD aB aJ aL aG csZ ⟨.mo,false,1,f+5,a⟩ γ cw sv false it (o.word:Int) w:=by
 unfold xS jQ;intros
 unfold uH jQ at v u;have hF:=ak.refl (am A) mine w;simp only[f127,vae,dC,lr,dJ,G2,Nat.reduceBEq,vaf,↓reduceIte]at v u⊢;refine bb G ?_;u_c vdp ak.trans hF
 u_c vdp ak.trans hF
 repeat w_but "code.seq" ak.trans
 refine dU Y hF λx e P s k c t i hF=>?_;have z:=(c_ G).less _ _ _ ((c_ G).trans _ _ _ _ s t);have O:f+5<=c.a6:=UO i.sees;by_cases B:c.mu.word=o.word
 .obtain⟨D,J,C,I⟩:=z0 B;have hcell:=l4 i.mt.1;rw[B]at hcell;have hv:new=(({c.mu with W:=true}:bp).word:Int):=by rw[rx.out F];simp only[bp.word,D,C,I]
  refine Bq G i (y:=.jk) (m1:={c.mu with W:=true}) (f1:=f+4) (stepG_cas_hit Y Y Ag Y func126 zk zl zm .i32 zn Y Y Y hcell (p9 i.mt.1 0 none)) hv Y AQ Y H (anv (D.trans n.out.1) (C.trans n.out.2.1) (J.trans n.out.2.2) Kn) AQ ?_;replace hF:=ak.trans hF (wz (A:=A) (mine:=mine) K k 0 none (.int .i32 (({c.mu with W:=true}:bp).word:Int)));clear i t s e;refine bb G ?_;walk_nrm
  repeat w_but "code.seq" ak.trans
  refine vag (λd p=>⟨Y,λr l=>?_⟩);exact v d r (by
   have q:∀g:ai.aN A.aO,(g=({c with mu:={c.mu with W:=true},a6:=c.a6-1}:ai.aN A.aO)\/g.a6<c.a6-1)->g.a6<c.a6:=by
    rintro g (rfl|h)
    .show c.a6-1<c.a6;omega
    .omega
   have:=q r (Or.imp id (λh=>h.1) l);rcases z with E|E
   .simp_all
   .exact Nat.lt_trans this E) (ak.trans hF p) ..
 .refine No (stepG_cas_miss Y Y Ag Y func126 zk zl zm .i32 zn Y Y Y (l4 i.mt.1) (p9 i.mt.1 0 none) AP) Y AQ ?_;clear i t s e;refine bb G ?_;walk_nrm
  repeat w_but "code.seq" ak.trans
  exact vag (λd p=>⟨Y,λr l=>(u d c z (ak.trans hF p) ..).k9 (c_ G) l⟩)
end
section
section
variable{A:e9}{Stop:Bool->ai.Lo A.ao->aX->Prop}{m:Bool}{mine:dY}
variable{a2:Frame}{aD:Act}{aB:fC}{aJ:Nat}{aL:uad}{aG:uaa}{csZ:fG}
def OE(f:Nat)(x:b3)(hJ:Nat)(sv aw:Bool)(o:bp):Prop:=
 (x=.mo/\hJ=f+5/\sv=false/\aw=false)\/(x=.jk/\f+3<=hJ/\hJ<=f+4/\aw=true/\o.W=true/\o.S=false)
def ED(γ:ai.aN A.aO)(o:bp)(it:Int):Nat:=γ.a6*16+(if o.word=γ.mu.word then 0 else 8)+(4-it).toNat
def asE{γ a:ai.aN A.aO}{o':bp}{it':Int}(h:a.a6<γ.a6)(hi:0<=it'):ED a o' it'<ED γ o it:=by grind[ED]
theorem EE(e5:A.most<=250){l:ai.Lo A.ao}{γ:ai.aN A.aO}(h:hH (am A) l γ):γ.mu.k<=250:=by obtain⟨ls,i,hi,hg⟩:=h;have b:=hg.l3.Ni;have a:=hg.len;grind
def asF(G:A.Good){f:Nat}{a:A.ao}(l:¬A.left a)(e5:A.most<=250)(p:∀b,A.K b\/mine b->b≠A.st){γ:ai.aN A.aO}{x:b3}{hJ:Nat}{sv aw:Bool}(hok:OE f x hJ sv aw o)(hk:o.k<=250)(O:Behind A Stop m mine a2 aD aB aJ aL aG csZ f a w)(R:∀w' c H I,c.a6<γ.a6->ak (am A) mine w w'->hH (am A) ⟨.jk,false,1,f+3,a⟩ c->qm A Stop m mine a2 aD aB aJ aL aG csZ ⟨.jk,false,1,f+3,a⟩ c H I true 0 (c.mu.word:Int) w')(dA:∀w' c v,(v=γ\/v.a6<γ.a6)->v.mu.word≠o.word->(c=v\/c.a6<v.a6)->ak (am A) mine w w'->hH (am A) ⟨x,false,1,hJ,a⟩ c->qm A Stop m mine a2 aD aB aJ aL aG csZ ⟨x,false,1,hJ,a⟩ c cw sv aw it (c.mu.word:Int) w'):
 Bp A Stop m mine a2 aD aB aJ aL aG csZ ⟨x,false,1,hJ,a⟩ γ cw sv aw it (o.word:Int) w:=by
 have q:o.k<256:=AP;have s:∀(w1:aH)(bB:ai.aN A.aO),ak (am A) mine w w1->(bB=γ\/bB.a6<γ.a6)->∀w' c,(c=bB\/c.a6<bB.a6)->c.mu.word≠o.word->ak (am A) mine w1 w'->wx A Stop m mine a2 aD aB aJ aL aG csZ ⟨x,false,1,hJ,a⟩ c cw sv aw it (o.word:Int) false w':=by grind[arS,ak.trans]
 have queue:∀(w1:aH)(bB:ai.aN A.aO),ak (am A) mine w w1->(bB=γ\/bB.a6<γ.a6)->(bits .and .i32 (o.word:Int) 5==0)=false->∀w' c,c.a6<bB.a6->ak (am A) mine w1 w'->wx A Stop m mine a2 aD aB aJ aL aG csZ ⟨.j6,false,1,f+2,a⟩ c cw sv aw it (o.word:Int) true w':=by
  intro w1 bB d h2 M w' c h3 E;have Z:c.a6<γ.a6:=by grind
  refine arT G M (λw2 V H e P=>arY G l AP p (λt u I Y z T=>R t u H I ?_ (ak.trans d (ak.trans E (ak.trans P z))) T) (λt u z=>O t u (ak.trans d (ak.trans E (ak.trans P z)))));grind
 have take:∀(w1:aH)(bB:ai.aN A.aO),ak (am A) mine w w1->bits .and .i32 (o.word:Int) 5=0->∀w' c,c.a6<bB.a6->ak (am A) mine w1 w'->wx A Stop m mine a2 aD aB aJ aL aG csZ ⟨.own,false,1,f+2,a⟩ c cw sv aw it (o.word:Int) true w':=
  λw1 bB d M w' c _ E=>arR G M l (λt u z=>O t u (ak.trans d (ak.trans E z)))
 have j:=Kz o q;have fO:=UT o q;have a1:=UM o q;have N:=arL o q;have ad:=arN o q;rcases hok with⟨rfl,rfl,rfl,rfl⟩|⟨rfl,X,U,rfl,hW,hS⟩
 .cases hS:o.S with
  |false=>
   rw[hS]at j fO;cases i:o.L with
   |false=>rw[i]at fO;refine G1 G (.inl ⟨rfl,rfl,.inl ⟨j,fO,N⟩⟩) (λw1 bB d e=>GZ (y:=.own) G l p AP (λmu=>{mu with L:=true,W:=ul .mo mu.W}) (λmu g=>?_) (take w1 bB d fO) (s w1 bB d ((c_ G).less _ _ _ e)));obtain⟨h,C,n,B⟩:=z0 g;exact⟨SQ LF (h.trans i) (n.trans hS) AP,by grind[bp.word,ul],rfl⟩
   |true=>
    rw[i]at fO;have F:bits .or .i32 (o.word:Int) 1=(o.word:Int):=by grind[bp.word]
    have r:(bits .and .i32 (o.word:Int) 5==0)=false:=AJ;refine G1 G (.inl ⟨rfl,rfl,.inr (.inl ⟨j,fO,F,ad⟩)⟩) (λw1 bB d e=>GZ (y:=.j6) G l p AP (λmu=>{mu with k:=mu.k+1}) (λmu g=>?_) (queue w1 bB d ((c_ G).less _ _ _ e) r) (s w1 bB d ((c_ G).less _ _ _ e)));obtain⟨h,C,n,B⟩:=z0 g;exact⟨aar (.inl (h.trans i)) AP,Iv,rfl⟩
  |true=>
   rw[hS]at j fO;have K:(bits .and .i32 (o.word:Int) 5 != 0)=true:=by grind
   have r:(bits .and .i32 (o.word:Int) 5==0)=false:=by grind
   refine G1 G (.inl ⟨rfl,rfl,.inr (.inr ⟨j,K,ad⟩)⟩) (λw1 bB d e=>GZ (y:=.j6) G l p AP (λmu=>{mu with k:=mu.k+1}) (λmu g=>?_) (queue w1 bB d ((c_ G).less _ _ _ e) r) (s w1 bB d ((c_ G).less _ _ _ e)));obtain⟨h,C,n,B⟩:=z0 g;exact⟨aar (.inr (n.trans hS)) AP,Iv,rfl⟩
 .rw[hS]at j fO;cases i:o.L with
  |false=>
   rw[i]at fO a1;have b2:bits .and .i32 (({o with L:=true}:bp).word:Int) 2=2:=by simp_all[KA]
   have D:=UN ({o with L:=true}:bp) q;have e6:∀w1 bB,ak (am A) mine w w1->(am A).dM ⟨.jk,false,1,hJ,a⟩ γ bB->Ky A Stop m mine a2 aD aB aJ aL aG csZ ⟨.jk,false,1,hJ,a⟩ bB cw sv true it (o.word:Int) (({o with L:=true,W:=false}:bp).word:Int) w1:=λw1 bB d e=>by refine GZ (y:=.own) G l p AP (λmu=>{mu with L:=true,W:=ul .jk mu.W}) (λmu g=>?_) (take w1 bB d fO) (s w1 bB d ((c_ G).less _ _ _ e));obtain⟨h,C,n,B⟩:=z0 g;exact⟨SQ LO (h.trans i) (n.trans hS) AP,by grind[bp.word,ul],rfl⟩
   exact G1 G (.inr ⟨rfl,_,b2,D,j,.inl ⟨fO,by cases sv<;>simp_all,N⟩⟩) e6
  |true=>
   rw[i]at fO a1;have F:bits .or .i32 (o.word:Int) 1=(o.word:Int):=by grind[bp.word]
   have r:(bits .and .i32 (o.word:Int) 5==0)=false:=AJ;have J:({o with k:=o.k+1}:bp).k<256:=AJ;cases sv with
   |false=>
    have b2:bits .and .i32 (({o with k:=o.k+1}:bp).word:Int) 2=2:=by simp_all[KA]
    have D:=UN ({o with k:=o.k+1}:bp) J;refine G1 G (.inr ⟨rfl,_,b2,D,j,.inr ⟨fO,F,.inl ⟨rfl,ad⟩⟩⟩) (λw1 bB d e=>GZ (y:=.j6) G l p AP (λmu=>{mu with k:=mu.k+1,W:=false,S:=false}) (λmu g=>?_) (queue w1 bB d ((c_ G).less _ _ _ e) r) (s w1 bB d ((c_ G).less _ _ _ e)));obtain⟨h,C,n,B⟩:=z0 g;exact⟨aas false (h.trans i) AP,Iv,rfl⟩
   |true=>
    have Q:({o with k:=o.k+1,S:=true}:bp).k<256:=J;have cm:=arM ({o with k:=o.k+1}:bp) J;have b2:bits .and .i32 (({o with k:=o.k+1,S:=true}:bp).word:Int) 2=2:=by simp_all[KA]
    have D:=UN ({o with k:=o.k+1,S:=true}:bp) Q;refine G1 G (.inr ⟨rfl,_,b2,D,j,.inr ⟨fO,F,.inr ⟨rfl,a1,_,ad,cm⟩⟩⟩) (λw1 bB d e=>GZ (y:=.j6) G l p AP (λmu=>{mu with k:=mu.k+1,W:=false,S:=true}) (λmu g=>?_) (queue w1 bB d ((c_ G).less _ _ _ e) r) (s w1 bB d ((c_ G).less _ _ _ e)));obtain⟨h,C,n,B⟩:=z0 g;exact⟨aas true (h.trans i) AP,Iv,rfl⟩
def asH(G:A.Good){f:Nat}{a:A.ao}(I:¬A.left a)(e5:A.most<=250)(K:∀b,A.K b\/mine b->b≠A.st)(S:Behind A Stop m mine a2 aD aB aJ aL aG csZ f a w0):
 ∀(N:Nat)(γ:ai.aN A.aO)(x:b3)(hJ:Nat)(cw it:Int)(sv aw:Bool)(o:bp)(w:aH),OE f x hJ sv aw o->o.k<=250->0<=it->ak (am A) mine w0 w->ED γ o it<N->qm A Stop m mine a2 aD aB aJ aL aG csZ ⟨x,false,1,hJ,a⟩ γ cw sv aw it (o.word:Int) w:=by
 intro N;induction N with
 |zero=>grind
 |succ N C=>
  intro γ x hJ cw it sv aw o w hok hk B u a3;have M:o.k<256:=AP;have fO:=UT o M;have ok':∀{c:ai.aN A.aO},hH (am A) ⟨x,false,1,hJ,a⟩ c->OE f x hJ sv aw c.mu:=λhs=>by
   rcases hok with h|⟨i,d,j,g,_⟩
   .exact .inl h
   .have:=Oz hs i;exact .inr ⟨i,d,j,g,this.2,this.1⟩
  have lower:∀(c:ai.aN A.aO)(t:b3)(y:Nat)(r it':Int)(q v:Bool)(o':bp)(w':aH),c.a6<γ.a6->OE f t y q v o'->o'.k<=250->0<=it'->ak (am A) mine w w'->qm A Stop m mine a2 aD aB aJ aL aG csZ ⟨t,false,1,y,a⟩ c r q v it' (o'.word:Int) w':=
   λc t y r it' q v o' w' i d j g p=>C c t y r it' q v o' w' d j g (ak.trans u p) (by have:=asE (o:=o) (o':=o') (it:=it) i g;omega)
  have L:∀w1 bB,(am A).dM ⟨x,false,1,hJ,a⟩ γ bB->ak (am A) mine w w1->Bp A Stop m mine a2 aD aB aJ aL aG csZ ⟨x,false,1,hJ,a⟩ bB cw sv aw it (o.word:Int) w1:=by
   intro w1 bB D i;have R:bB=γ\/bB.a6<γ.a6:=(c_ G).less _ _ _ D;refine asF G I e5 K hok hk (λw' c h=>S w' c (ak.trans u (ak.trans i h))) (λw' c r q d j g=>?_) (λw' c P d j g p k=>?_)
   .have:=Oz g Y;refine lower c .jk (f+3) r 0 q true c.mu w' ?_ (.inr ⟨Y,vad _,Nat.le_succ _,Y,this.2,this.1⟩) (EE e5 g) (Int.le_refl _) (ak.trans i j);grind
   .
    by_cases s:c.a6<γ.a6
    .grind[EE,ak.trans]
    .have X:bB=γ:=by grind
     have W:P=γ:=by grind
     have E:c=γ:=by grind
     subst E;refine C c x hJ cw it sv aw c.mu w' (ok' k) (EE e5 k) B (ak.trans u (ak.trans i p)) ?_;have Q:o.word≠c.mu.word:=λe=>j AJ;unfold ED at a3⊢;grind
  cases F:(o.L&& !o.S)with
  |false=>refine asx G ?_ L;rw[fO];cases H:o.L<;>cases hS:o.S<;>simp[H,hS]at F⊢
  |true=>
   have H:o.L=true:=by grind
   have hS:o.S=false:=by grind
   refine asy G AJ L (λg w1 bB D i=>?_);have R:bB=γ\/bB.a6<γ.a6:=(c_ G).less _ _ _ D;have again:∀(w2:aH)(n:ai.aN A.aO),ak (am A) mine w1 w2->(n=bB\/n.a6<bB.a6)->uH A Stop m mine a2 aD aB aJ aL aG csZ ⟨x,false,1,hJ,a⟩ n cw sv aw it (o.word:Int) w2:=by
    intro w2 n d O;refine QD G B g (λz l j p k=>?_);by_cases s:l.a6<γ.a6
    .grind[EE,ak.trans]
    .have E:l=γ:=by grind
     subst E;refine C l x hJ cw (it+1) sv aw l.mu z (ok' k) (EE e5 k) AP (ak.trans u (ak.trans i (ak.trans d p))) ?_;unfold ED at a3⊢;grind
   rcases hok with⟨rfl,rfl,rfl,rfl⟩|⟨rfl,U,T,rfl,J,_⟩
   .cases J:o.W with
    |true=>grind[asA,KA]
    |false=>
     have d:bits .and .i32 (o.word:Int) 2=0:=by grind[KA]
     by_cases V:o.k=0
     .grind[asB,KB]
     .refine asC G I K (show rx _ from⟨H,hS,J⟩) d (KB o) AJ (UQ o M) (show rx (_=_)from Y) (λw2 n s d=>?_) (λw2 n O d=>again w2 n d O);refine QD G B g (λz l j p k=>?_);have:=Oz k Y;refine lower l .jk (f+4) cw (it+1) false true l.mu z ?_ (.inr ⟨Y,Nat.le_succ _,vad _,Y,this.2,this.1⟩) (EE e5 k) AP (ak.trans i (ak.trans d p));grind
   grind[asz]
end
end
section
section
variable{A:e9}{Stop:Bool->ai.Lo A.ao->aX->Prop}{m:Bool}{mine:dY}
variable{a2:Frame}{aD:Act}{aB:fC}{aJ:Nat}{aL:uad}{aG:uaa}{csZ:fG}
def asJ(G:A.Good){f:Nat}{a:A.ao}(n:¬A.left a)(e5:A.most<=250)(q:∀b,A.K b\/mine b->b≠A.st)(o:Behind A Stop m mine a2 aD aB aJ aL aG csZ f a w0)(w:aH)(γ:ai.aN A.aO)(p:ak (am A) mine w0 w):
 bf (am A) prog Stop m ⟨.mo,false,1,f+5,a⟩ γ ⟨Conc.G ((base 127).at ⟨#[.pointer (some (ai.fP A)),.U,.U,.U,.U,.U,.U,.U,.U,.U,.U,.U,.U,.U,.U,.U,.U,.U,.U,.U,.U,.U,.U,.U,.U,.U,.U,.U,.U,.U,.U,.U,.U,.U,.U,.U,.U,.U,.U,.U,.U,.U,.U,.U,.U,.U,.U,.U,.U,.U,.U,.U,.U,.U,.U,.U,.U,.U,.U,.U,.U,.U,.U,.U,.U,.U,.U,.U,.U,.U,.U,.U,.U,.U,.U,.U,.U,.U,.U,.U,.U,.U,.U,.U,.U,.U,.U,.U,.U,.U,.U,.U,.U,.U,.U,.U,.U,.U,.U,.U,.U,.U,.U,.U,.U,.U,.U,.U,.U,.U,.U,.U,.U,.U,.U,.U,.U,.U,.U,.U,.U,.U,.U,.U,.U,.U,.U,.U,.U,.U,.U,.U,.U,.U,.U,.U,.U,.U,.U],[]⟩ [.code (f127.body.getD .skip)]) (a2.at aD (.inRegion aB (aJ::aL)::aG)::csZ),w,mine⟩:=by
 have hF:=p;have i:=λ(e:ai.aN A.aO)(w':aH)(h:ak (am A) mine w0 w')(hs:hH (am A) ⟨.mo,false,1,f+5,a⟩ e)=>asH G n e5 q o (ED e e.mu 0+1) e .mo (f+5) 0 0 false false e.mu w' (.inl ⟨Y,Y,Y,Y⟩) (EE e5 hs) (Int.le_refl _) h Kn;unfold qm jQ at i;simp only[f127,vae,dC,lr]at i⊢;refine bb G ?_;repeat w_go ak.trans
 refine dU Y hF λd c t r j s u g hF=>?_;have k:=g.sees;refine l5 (Bo Y Y Ag Y Y (l4 g.mt.1) Kw) Y Y (.refl _) Y Y ?_;clear g u r c;refine bb G ?_;walk_nrm
 repeat w_but "code.loop" ak.trans
 u_c stepG_loop ak.trans hF
 exact vag (λd c=>⟨Y,λt l=>(i s d (ak.trans hF c) k ..).k9 (c_ G) l⟩)
def U4(G:A.Good){f:Nat}{a:A.ao}(n:¬A.left a)(e5:A.most<=250)(u:∀b,A.K b\/mine b->b≠A.st)(v:Behind A Stop m mine a2 aD aB aJ aL aG csZ f a w0)(w:aH)(γ:ai.aN A.aO)(x:ak (am A) mine w0 w):
 bf (am A) prog Stop m ⟨.idle,false,0,f+6,a⟩ γ ⟨Conc.G ((base 90).at ⟨#[.pointer (some (ai.fP A)),.U,.U,.U,.U,.U],[]⟩ [.code (f90.body.getD .skip)]) (a2.at aD (.inRegion aB (aJ::aL)::aG)::csZ),w,mine⟩:=by
 have hF:=x;simp only[f90,vae];refine bb G ?_;repeat w_go ak.trans
 u_call func114 Vu f114 ak.trans hF
 repeat w_go ak.trans
 refine dU Y hF λd c k i g h j e hF=>?_;refine s7 (d1:=1) G e LF (vbu .disable AQ Y Y Ag Y func71 Du Dv Dw Dx) Y n (anu (f1:=f+5) Kn) AQ Y ?_;clear e j i c;refine bb G ?_;walk_nrm
 repeat w_go ak.trans
 refine dU Y hF λd c k i g h j e hF=>?_;by_cases o:h.mu.word=0;focus
  have hcell:=l4 e.mt.1;rw[o]at hcell;obtain⟨t,C,s,B⟩:=UL o;have hv:(1:Int)=(({h.mu with L:=true,W:=ul .mo h.mu.W}:bp).word:Int):=by grind[bp.word,ul]
  refine Bq G e (y:=.own) (m1:={h.mu with L:=true,W:=ul .mo h.mu.W}) (f1:=f+2) (stepG_cas_hit Y Y Ag Y func126 zk zl zm .i32 zn Y Y Y hcell (p9 e.mt.1 0 none)) hv Y AQ Y n (SQ LF t s AQ) AQ ?_;replace hF:=ak.trans hF (wz (A:=A) (mine:=mine) u g 0 none (.int .i32 (({h.mu with L:=true,W:=ul .mo h.mu.W}:bp).word:Int)));clear t C s B hv hcell o;clear e j i c;refine bb G ?_;walk_nrm
  repeat w_go ak.trans
  refine dU Y hF λd c k i g h j e hF=>?_;refine s7 G e LO (vbu .enable AQ Y Y Ag Y func72 rm rn rp rq) Y n (s5 (f1:=f+1) Kn _) AQ Y ?_;clear e j i c;refine bb G ?_;walk_nrm
  repeat w_go ak.trans
  refine dU Y hF λd c k i g h j e hF=>?_;refine l5 (GY Y Y Ag Y Y (l4 e.mt.1)) Y Y (.refl _) Y Y ?_;clear e j i c;refine bb G ?_;walk_nrm
  repeat w_go ak.trans
  refine dU Y hF λd c k i g h j e hF=>?_;refine SX G e (f1:=f) (vck .acquire AQ Y Y Ag Y func85 GR GU GV GX Bi) Y n Y Y Y Kn ?_;clear e j i c
 rotate_left
 focus
  refine No (stepG_cas_miss Y Y Ag Y func126 zk zl zm .i32 zn Y Y Y (l4 e.mt.1) (p9 e.mt.1 0 none) AP) Y AQ ?_;clear o;clear e j i c;refine bb G ?_;walk_nrm
  repeat w_go ak.trans
  u_call func127 arx f127 ak.trans hF
  refine vag (λl q=>⟨Y,λz _=>asJ G n e5 u (λp D r=>?_) l z (ak.refl _ _ _)⟩);replace hF:=ak.trans hF (ak.trans q r);clear q r
 rotate_left
 all_goals
  refine bb G ?_;walk_nrm
  repeat w_go ak.trans
  u_leave0 func114 ak.trans hF
  repeat w_go ak.trans
  u_leave0 func90 ak.trans hF
  exact vag (λd c=>⟨Y,λk _=>v d k (ak.trans hF c)⟩)
