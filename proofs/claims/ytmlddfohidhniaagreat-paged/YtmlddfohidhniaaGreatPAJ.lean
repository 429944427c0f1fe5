import Derived.Test.YtmlddfohidhniaaGreatPAG
set_option linter.all false
set_option maxRecDepth 100000
set_option maxHeartbeats 16000000
namespace Go.Proofs.YtmlddfohidhniaaGreat
open Go.Proofs.Tryz
namespace bM
open Conc RowKit Conc.Lib ConcR.Gen ConcM ax bp ag
def TH{A:e_}{l:ag.Lo A.ao}{γ:ag.aO A.aI}(h:hh (am A) l γ):l.fuel<=γ.a_:=by obtain⟨ls,i,hi,hg⟩:∃(ls:List (ag.Lo A.ao))(i:Nat),ls[i]?=some l/\tA A γ ls:=h;have:=Mh (ls.map (·.fuel)) i l.fuel AA;have:=hg.gU;omega
theorem Rm{A:e_}(eK:A.most<1048576){l:ag.Lo A.ao}{γ:ag.aO A.aI}(h:hh (am A) l γ):γ.mu.k<1048576:=by obtain⟨ls,i,hi,hg⟩:=h;have b:=hg.lF.Me;have a:=hg.len;grind
theorem NO{A:e_}{l:ag.Lo A.ao}{γ:ag.aO A.aI}(h:hh (am A) l γ)(a:l.mx=.jc):γ.mu.S=false/\γ.mu.W=true:=by obtain⟨ls,i,hi,hg⟩:=h;have:=hg.lF.Yn (i:=i) AA;grind
def aqF{A:e_}{l:ag.Lo A.ao}{γ:ag.aO A.aI}(h:hh (am A) l γ)(a:l.mx=.hand):γ.mu.S=true/\γ.mu.L=false/\γ.mu.W=false/\1<=γ.mu.k:=by obtain⟨ls,i,hi,hg⟩:=h;have:=hg.lF.IF (i:=i) AA;grind
variable{n:bk}
def y5{m:bk}(h:m.word=n.word):m.L=n.L/\m.W=n.W/\m.S=n.S/\m.k=n.k:=by have a1:m.L.toNat<=1:=vay _;have g:m.W.toNat<=1:=vay _;have f:m.S.toNat<=1:=vay _;have b1:n.L.toNat<=1:=vay _;have j:n.W.toNat<=1:=vay _;have i:n.S.toNat<=1:=vay _;unfold bk.word at h;have e:m.L.toNat=n.L.toNat:=AP;have d:m.W.toNat=n.W.toNat:=AP;have c:m.S.toNat=n.S.toNat:=AP;have key:∀a b:Bool,a.toNat=b.toNat->a=b:=AX;grind
variable{o:bk}{cp it old:Int}{w:aS}
section
variable{A:e_}{Stop:Bool->ag.Lo A.ao->aV->Prop}{m:Bool}{mine:dh}
variable{a4:Frame}{aF:Act}{aC:eY}{aK:Nat}{aM:uaa}{aH:il}{csZ:fV}
def aqG(G:A.Good){f:Nat}{a:A.ao}{γ:ag.aO A.aI}{sv aw:Bool}(d:¬A.left a)(eK:A.most<1048576)(j:∀b,A.K b\/mine b->b≠A.st)(hs:hh (am A) ⟨.hand,false,1,f+3,a⟩ γ)(e:Behind A Stop m mine a4 aF aC aK aM aH csZ f a w):DI A Stop m mine a4 aF aC aK aM aH csZ ⟨.hand,false,1,f+3,a⟩ γ cp sv aw it (γ.mu.word:Int) w:=by
 have hk:=Rm eK hs;obtain⟨hS,n,k,l⟩:=aqF hs Y;have g:bits .and .i32 (γ.mu.word:Int) 4=4:=by grind[JO]
 have h:bits .and .i32 (γ.mu.word:Int) 3=0:=by grind[aqt]
 have i:=JQ γ.mu;have c:(((γ.mu.k:Nat):Int)==0)=false:=AA;refine aqE G (!sv||γ.mu.k==1) ?_ d eK g h i c j e;cases sv<;>grind
def aqH(G:A.Good){f:Nat}{a:A.ao}{γ:ag.aO A.aI}{sv aw:Bool}(o:¬A.left a)(eK:A.most<1048576)(u:∀b,A.K b\/mine b->b≠A.st)(D:∀w' g k,g.a_<γ.a_->ah (am A) mine w w'->hh (am A) ⟨.jc,false,1,f+3,a⟩ g->pU A Stop m mine a4 aF aC aK aM aH csZ ⟨.jc,false,1,f+3,a⟩ g cp k true 0 (g.mu.word:Int) w')(C:Behind A Stop m mine a4 aF aC aK aM aH csZ f a w):NM A Stop m mine a4 aF aC aK aM aH csZ ⟨.jX,false,1,f+2,a⟩ γ cp sv aw it old w:=by
 unfold NM;intros
 have hF:=ah.refl (am A) mine w;refine bg.mk Y (λj d H c=>?_);replace hF:=ah.trans hF (dQ.rw c);have E:d.a_<=γ.a_:=by grind
 have F:f+2<=d.a_:=TH c.sees;by_cases h0:d.mu.sema=0
 .refine .wait (stepG_semacquire_wait (ad:=ag.kQ A) Y Y Y func148 Tx Ty Tz TA Bz ?_) Y (.inl ⟨Y,h0⟩) Kx;have:=IJ c.mt.1;grind
 have v:((d.mu.sema:Nat):Int)-1=((d.mu.sema-1:Nat):Int):=AP;have s:=vz (A:=A) (mine:=mine) u j 1 none (.int .u32 ((d.mu.sema-1:Nat):Int));cases hS:d.mu.S with
 |false=>
  refine NN G c (y:=.jc) (m1:={d.mu with sema:=d.mu.sema-1}) (f1:=f+3) (stepG_semacquire Y Y Am Y func148 Tx Ty Tz TA Bz (IJ c.mt.1) AP (pG c.mt.1 1 none)) v Y Y o (akL hS AP Ad) Ad (.inr AP) ?_;clear c;refine bl G ?_;replace hF:=ah.trans hF s;u_c vea ah.trans hF
  refine vai (λi l=>⟨Y,λt x=>?_⟩);replace hF:=ah.trans hF l;have z:t.a_<γ.a_:=by grind
  exact Ro G (λw' g k r p n=>aqD G (by grind[JO,Rm,NO]) (λw'' q=>D w'' g k (r.elim (λe=>AA) (λe=>Nat.lt_trans e z)) (ah.trans hF (ah.trans p q)) n)) ..
 |true=>
  refine NN G c (y:=.hand) (m1:={d.mu with sema:=d.mu.sema-1}) (f1:=f+3) (stepG_semacquire Y Y Am Y func148 Tx Ty Tz TA Bz (IJ c.mt.1) AP (pG c.mt.1 1 none)) v Y Y o (akM hS AP Ad) Ad (.inr AP) ?_;clear c;refine bl G ?_;replace hF:=ah.trans hF s;u_c vea ah.trans hF
  refine vai (λi l=>⟨Y,λt x=>?_⟩);replace hF:=ah.trans hF l;exact Ro G (λw' g k r p n=>aqG G o eK u n (λw'' B q=>C w'' B (ah.trans hF (ah.trans p q)))) ..
def Gh(G:A.Good){f gU:Nat}{x y:bU}{a:A.ao}{γ:ag.aO A.aI}{new:Int}{sv aw:Bool}(q:¬A.left a)(u:∀b,A.K b\/mine b->b≠A.st)(D:1<=gU)(i:bk->bk)(ht:∀mu:bk,mu.word=o.word->lE x y mu (i mu) gU (f+2)/\((i mu).word:Int)=new/\(i mu).sema=mu.sema)(B:∀w' e,e.a_<γ.a_->ah (am A) mine w w'->vx A Stop m mine a4 aF aC aK aM aH csZ ⟨y,false,1,f+2,a⟩ e cp sv aw it (o.word:Int) true w')(z:∀w' e,(e=γ\/e.a_<γ.a_)->e.mu.word≠o.word->ah (am A) mine w w'->vx A Stop m mine a4 aF aC aK aM aH csZ ⟨x,false,1,gU,a⟩ e cp sv aw it (o.word:Int) false w'):
 JN A Stop m mine a4 aF aC aK aM aH csZ ⟨x,false,1,gU,a⟩ γ cp sv aw it (o.word:Int) new w:=by
 unfold JN;intros
 have hF:=ah.refl (am A) mine w;refine bg.mk Y (λh g v d=>?_);replace hF:=ah.trans hF (dQ.rw d);have p:=(da G).less _ _ _ v;have C:gU<=g.a_:=TH d.sees;by_cases k:g.mu.word=o.word
 .obtain⟨t,s,r⟩:=ht g.mu k;have hcell:=lG d.mt.1;rw[k]at hcell;refine Au G d (y:=y) (m1:=i g.mu) (f1:=f+2) (stepG_cas_hit Y Y Am Y func126 yp yq yr .i32 yt Y Y Y hcell (pG d.mt.1 0 none)) s.symm Y Ad r q t Ad ?_;replace hF:=ah.trans hF (vz (A:=A) (mine:=mine) u h 0 none (.int .i32 ((i g.mu).word:Int)));clear d;refine bl G ?_;u_c vea ah.trans hF
  refine vai (λc j=>⟨Y,λn l=>?_⟩);exact B c n (by
   grind) (ah.trans hF j) ..
 .refine Mk (stepG_cas_miss Y Y Am Y func126 yp yq yr .i32 yt Y Y Y (lG d.mt.1) (pG d.mt.1 0 none) AP) Y Ad ?_;clear d;refine bl G ?_;u_c vea ah.trans hF
  exact vai (λc j=>⟨Y,λn l=>(z c g p k (ah.trans hF j) ..).hV (da G) l⟩)
end
def Av(A:e_)(Stop:Bool->ag.Lo A.ao->aV->Prop)(m:Bool)(mine:dh)(a4:Frame)(aF:Act)(aC:eY)(aK:Nat)(aM:uaa)(aH:il)(csZ:fV)(l:ag.Lo A.ao)(γ:ag.aO A.aI)(old:Int)(w:aS):Prop:=
 ∀(dC e9 mC jh DJ sL fK fL fM fN fO fP qC qD f2 fQ fR fS iU fT gA gB gC ve vf vg vh vi vj vk vl vm vn vo vp vq vr vt vu vv vw:Value),bg (am A) prog Stop m l γ ⟨Conc.G ((base 129).at ⟨#[.pointer (some (ag.fy A)),dC,e9,mC,.int .i32 old,jh,DJ,sL,fK,fL,fM,fN,fO,fP,qC,qD,f2,fQ,fR,fS,iU,fT,gA,gB,gC,ve,vf,vg,vh,vi,vj,vk,vl,vm,vn,vo,vp,vq,vr,vt,vu,vv,vw],[]⟩ [.code ((dA (f129.body.getD .skip)).getD .skip),.inLoop ((dA (f129.body.getD .skip)).getD .skip),.inBlock 0]) (a4.at aF (.inRegion aC (aK::aM)::aH)::csZ),w,mine⟩
def DK{A:e_}{l:ag.Lo A.ao}{γ a:ag.aO A.aI}{v o:Nat}(b:l.mx=.eI v o)(h:¬(γ.mu.jq/\γ.mu.gm=v))(c:(am A).dZ l γ a):¬(a.mu.jq/\a.mu.gm=v):=by
 rcases c with rfl|⟨_,_,d⟩
 .exact h
 .exact d.2 v o b h
def Rc{A:e_}{l:ag.Lo A.ao}{γ:ag.aO A.aI}(h:hh (am A) l γ):IntKind.u32.wrap ((γ.mu.sema:Int)+1)=((γ.mu.sema+1:Nat):Int):=by
 obtain⟨ls,i,hi,hg⟩:=h;have b:γ.mu.sema<=1:=by have a:γ.mu.W.toNat<=1:=vay _;cases hS:γ.mu.S with|false=>have:=hg.lF.nm hS;omega|true=>have:=hg.lF.st hS;omega
 rw[IntKind.wrap_u32];omega
theorem aqJ{A:e_}{l:ag.Lo A.ao}{γ:ag.aO A.aI}{v o:Nat}(h:hh (am A) l γ)(d:l.mx=.eI v o)(a:γ.mu.word≠o):¬(γ.mu.jq/\γ.mu.gm=v):=by obtain⟨ls,i,hi,hg⟩:=h;rintro⟨c,b⟩;exact a ((hg.lF.eI i v o AA).2 b.symm c).symm
def Ra{A:e_}(eK:A.most<=1000000){l:ag.Lo A.ao}{γ:ag.aO A.aI}(h:hh (am A) l γ):γ.mu.k<=1000000:=by obtain⟨ls,i,hi,hg⟩:=h;have b:=hg.lF.Me;have a:=hg.len;grind
def aqK{m:bk}(h:m.word=n.word)(a:n.jq):m.jq:=by obtain⟨e,d,c,b⟩:=y5 h;exact⟨e.trans a.1,d.trans a.2.1,c.trans a.2.2.1,by rw[b];exact a.2.2.2⟩
variable{kk:Int}{w0:aS}
section
variable{A:e_}{Stop:Bool->ag.Lo A.ao->aV->Prop}{m:Bool}{mine:dh}
variable{a4:Frame}{aF:Act}{aC:eY}{aK:Nat}{aM:uaa}{aH:il}{csZ:fV}
def aqL(G:A.Good){l:ag.Lo A.ao}{γ:ag.aO A.aI}(hk:old / 8=kk)(c:(kk==0)=true\/((kk==0)=false/\(bits .and .i32 old 7 != 0)=true))(f:∀w' d,ah (am A) mine w w'->(am A).dZ l γ d->bg (am A) prog Stop m l d ⟨Conc.G (a4.at (aF.put ((aC[aK]?).bind (·.dst)) (.tuple #[])) (.inRegion aC aM::aH)) csZ,w',mine⟩):
 Av A Stop m mine a4 aF aC aK aM aH csZ l γ old w:=by
 unfold Av;intros
 have hF:=ah.refl (am A) mine w;simp only[f129,vae,dA];refine bl G ?_;rcases c with c|⟨h0,c⟩;all_goals
  repeat w_go ah.trans
  u_leave0 func129 ah.trans hF
  exact vai (λa b=>⟨Y,λg e=>f a g (ah.trans hF b) e⟩)
def aqM(G:A.Good){f v n:Nat}{a:A.ao}{γ:ag.aO A.aI}(z:¬A.left a)(B:∀b,A.K b\/mine b->b≠A.st)(l:o.jq)(hok:o.k<1048576)(H:∀w' p,ah (am A) mine w w'->bg (am A) prog Stop m ⟨.idle,false,1,f+1,a⟩ p ⟨Conc.G (a4.at (aF.put ((aC[aK]?).bind (·.dst)) (.tuple #[])) (.inRegion aC aM::aH)) csZ,w',mine⟩)(x:∀w' p t,(am A).dZ ⟨.eI v n,false,1,f+5,a⟩ γ t->t.mu.word≠o.word->hh (am A) ⟨.eI v n,false,1,f+5,a⟩ t->(am A).dZ ⟨.eI v n,false,1,f+5,a⟩ t p->ah (am A) mine w w'->hh (am A) ⟨.eI v n,false,1,f+5,a⟩ p->Av A Stop m mine a4 aF aC aK aM aH csZ ⟨.eI v n,false,1,f+5,a⟩ p (p.mu.word:Int) w'):
 Av A Stop m mine a4 aF aC aK aM aH csZ ⟨.eI v n,false,1,f+5,a⟩ γ (o.word:Int) w:=by
 unfold Av;intros
 unfold Av at x;have hF:=ah.refl (am A) mine w;have hk:=JQ o;have J:(((o.k:Nat):Int)==0)=false:=by have:=l.2.2.2;grind
 have M:(bits .and .i32 (o.word:Int) 7 != 0)=false:=by rw[Rz o hok,l.1,l.2.1,l.2.2.1];rfl
 have K:=aqy o hok l.2.2.2;have L:=Ru ({o with k:=o.k-1}:bk) AA;simp only[f129,vae,dA]at x⊢;refine bl G ?_;repeat w_go ah.trans
 refine dL Y hF λd c s j q h i e hF=>?_;have E:=(da G).trans _ _ _ _ j i;by_cases u:h.mu.word=o.word
 .have hcell:=lG e.mt.1;rw[u]at hcell;obtain⟨Q,P,O,N⟩:=y5 u;have hv:(({o with k:=o.k-1,W:=true}:bk).word:Int)=(({h.mu with k:=h.mu.k-1,W:=true}:bk).word:Int):=by grind[bk.word]
  refine Au G e (y:=.qg) (m1:={h.mu with k:=h.mu.k-1,W:=true}) (f1:=f+2) (stepG_cas_hit Y Y Am Y func126 yp yq yr .i32 yt Y Y Y hcell (pG e.mt.1 0 none)) hv Y Ad Y z (akR (aqK u l) Ad) Ad ?_;replace hF:=ah.trans hF (vz (A:=A) (mine:=mine) B q 0 none (.int .i32 (({h.mu with k:=h.mu.k-1,W:=true}:bk).word:Int)));clear e i j c x;refine bl G ?_;walk_nrm
  repeat w_go ah.trans
  refine dL Y hF λd c s j g r i e hF=>?_;refine NN G e (y:=.idle) (m1:={r.mu with sema:=r.mu.sema+1}) (f1:=f+1) (stepG_semrelease (ad:=ag.kQ A) Y Y Am Y func150 Ov NK Ou Ot (by simp[Act.eval,ag.fy,ag.kQ]) (IJ e.mt.1) (pG e.mt.1 1 none)) ?_ Y Y z (akT Jo) Ad (.inl ?_) ?_
  .exact Rc e.sees
  .exact mayWake_entry Y Y func150 NK
  replace hF:=ah.trans hF (vz (A:=A) (mine:=mine) B g 1 none (.int .u32 ((r.mu.sema+1:Nat):Int)));clear e i j c;refine bl G ?_;walk_nrm
  repeat w_go ah.trans
  u_leave0 func129 ah.trans hF
  exact vai (λd c=>⟨Y,λs _=>H d s (ah.trans hF c)⟩)
 .have D:=e.sees;refine Mk (stepG_cas_miss Y Y Am Y func126 yp yq yr .i32 yt Y Y Y (lG e.mt.1) (pG e.mt.1 0 none) AP) Y Ad ?_;clear e i j c;refine bl G ?_;walk_nrm
  repeat w_go ah.trans
  refine dL Y hF λd c s j g r i e hF=>?_;have F:=(da G).trans _ _ _ _ j i;have C:=e.sees;refine lH (Ar Y Y Am Y Y (lG e.mt.1) aqf) Y Y (.refl _) Y Y ?_;clear e i j c;refine bl G ?_;walk_nrm
  repeat w_nl ah.trans
  u_c stepG_inLoop ah.trans hF
  exact vai (λd c=>⟨Y,λs I=>(x d r h E u D F (ah.trans hF c) C ..).hV (da G) I⟩)
def aqN(G:A.Good){f v j:Nat}{a:A.ao}(r:¬A.left a)(eK:A.most<=1000000)(u:∀b,A.K b\/mine b->b≠A.st)(s:∀w' c,ah (am A) mine w0 w'->bg (am A) prog Stop m ⟨.idle,false,1,f+1,a⟩ c ⟨Conc.G (a4.at (aF.put ((aC[aK]?).bind (·.dst)) (.tuple #[])) (.inRegion aC aM::aH)) csZ,w',mine⟩)(t:∀w' c,ah (am A) mine w0 w'->¬(c.mu.jq/\c.mu.gm=v)->bg (am A) prog Stop m ⟨.eI v j,false,1,f+5,a⟩ c ⟨Conc.G (a4.at (aF.put ((aC[aK]?).bind (·.dst)) (.tuple #[])) (.inRegion aC aM::aH)) csZ,w',mine⟩):
 ∀(N:Nat)(γ:ag.aO A.aI)(o:bk)(w:aS),o.k<=1000000->(¬(γ.mu.jq/\γ.mu.gm=v)\/(o.jq/\j=o.word))->ah (am A) mine w0 w->γ.a_*2+(if o.word=γ.mu.word then 0 else 1)<N->Av A Stop m mine a4 aF aC aK aM aH csZ ⟨.eI v j,false,1,f+5,a⟩ γ (o.word:Int) w:=by
 intro N;induction N with
 |zero=>grind
 |succ N q=>
  intro γ o w hk d i a7;have n:o.k<1048576:=AP;by_cases e:o.jq
  .refine aqM G r u e n (λw' c h=>s w' c (ah.trans i h)) (λw' c l z D C g y x=>?_);have k:¬(l.mu.jq/\l.mu.gm=v):=by
    rcases d with d|⟨_,d⟩
    .exact DK Y d z
    grind[aqJ]
   refine q c c.mu w' (Ra eK x) (.inl (DK Y k g)) (ah.trans i y) ?_;grind
  .have p:¬(γ.mu.jq/\γ.mu.gm=v):=d.resolve_right (λh=>e h.1);refine aqL G (JQ o) ?_ (λw' c h g=>t w' c (ah.trans i h) (DK Y p g));by_cases B:o.k=0
   .grind
   .refine .inr ⟨AA,?_⟩;rw[Rz o n];have E:¬(o.L=false/\o.W=false/\o.S=false):=λh=>e ⟨h.1,h.2.1,h.2.2,AP⟩;grind
end
def Q_(m:bk)(hk:m.k<1048576)(a:m.L=false):IntKind.wrap .i32 ((m.word:Int)+1)=(({m with L:=true}:bk).word:Int):=by grind[Bool.toNat_le,IntKind.wrap_i32,bk.word]
section
variable{A:e_}{Stop:Bool->ag.Lo A.ao->aV->Prop}{m:Bool}{mine:dh}
def JW{P:b4}{main:Bool}{b:Frame}{a:Act}{todo:il}{c:Frame}{cs:fV}{fn:Func}{K:Goroutine->aS->Array Event->Prop}(hn:b.kind=.deferred)(hd:a.defers=[])(e:P.funcs[b.fn]?=some fn)(d:fn.results=#[])(hc:c.mode=.returning)(h:K (Conc.G c cs) w #[]):
 (stepG P main (Conc.G {b.at a todo with mode:=.returning} (c::cs)) w).goes K:=by
 simp_all[stepG_leave_deferred,results_none,events_results_none]
section
variable{a4:Frame}{aF:Act}{aC:eY}{aK:Nat}{aM:uaa}{aH:il}{csZ:fV}
def aqP(G:A.Good){f v g:Nat}{a:A.ao}(q:¬A.left a)(eK:A.most<=1000000)(x:∀b,A.K b\/mine b->b≠A.st)(j:o.L=false)(hS:o.S=false)(hk:o.k<=1000000)(r:∀w' c,ah (am A) mine w0 w'->bg (am A) prog Stop m ⟨.idle,false,1,f+1,a⟩ c ⟨Conc.G (a4.at (aF.put ((aC[aK]?).bind (·.dst)) (.tuple #[])) (.inRegion aC aM::aH)) csZ,w',mine⟩)(s:∀w' c,ah (am A) mine w0 w'->¬(c.mu.jq/\c.mu.gm=v)->bg (am A) prog Stop m ⟨.eI v g,false,1,f+5,a⟩ c ⟨Conc.G (a4.at (aF.put ((aC[aK]?).bind (·.dst)) (.tuple #[])) (.inRegion aC aM::aH)) csZ,w',mine⟩)(w:aS)(γ:ag.aO A.aI)(t:ah (am A) mine w0 w)(n:¬(γ.mu.jq/\γ.mu.gm=v)\/(o.jq/\g=o.word)):
 bg (am A) prog Stop m ⟨.eI v g,false,1,f+5,a⟩ γ ⟨Conc.G ((base 129).at ⟨#[.pointer (some (ag.fy A)),.int .i32 (o.word:Int),.U,.U,.U,.U,.U,.U,.U,.U,.U,.U,.U,.U,.U,.U,.U,.U,.U,.U,.U,.U,.U,.U,.U,.U,.U,.U,.U,.U,.U,.U,.U,.U,.U,.U,.U,.U,.U,.U,.U,.U,.U],[]⟩ [.code (f129.body.getD .skip)]) (a4.at aF (.inRegion aC (aK::aM)::aH)::csZ),w,mine⟩:=by
 have hF:=t;have u:o.k<1048576:=AP;have i:=λ(c:ag.aO A.aI)(w':aS)(h:ah (am A) mine w0 w')(k:¬(c.mu.jq/\c.mu.gm=v)\/(o.jq/\g=o.word))=>aqN G q eK x r s (c.a_*2+(if o.word=c.mu.word then 0 else 1)+1) c o w' hk k h Jo;unfold Av at i;have C:=Q_ o u j;have B:bits .and .i32 (({o with L:=true}:bk).word:Int) 1=1:=by grind[TF]
 have z:bits .and .i32 (o.word:Int) 4=0:=by grind[JO]
 simp only[f129,vae,dA]at i⊢;clear j hS;refine bl G ?_;repeat w_but "code.loop" ah.trans
 u_c stepG_loop ah.trans hF
 exact vai (λd e=>⟨Y,λy p=>i y d (ah.trans hF e) (n.imp (λh=>DK (A:=A) (l:=⟨.eI v g,false,1,f+5,a⟩) Y h p) id) ..⟩)
def aqQ(G:A.Good){f:Nat}{a:A.ao}(k:¬A.left a)(q:∀b,A.K b\/mine b->b≠A.st)(j:o.L=false)(hS:o.S=true)(hk:o.k<=1000000)(l:∀w' r,ah (am A) mine w0 w'->bg (am A) prog Stop m ⟨.idle,false,1,f+1,a⟩ r ⟨Conc.G (a4.at (aF.put ((aC[aK]?).bind (·.dst)) (.tuple #[])) (.inRegion aC aM::aH)) csZ,w',mine⟩)(w:aS)(γ:ag.aO A.aI)(n:ah (am A) mine w0 w):
 bg (am A) prog Stop m ⟨.ps,false,1,f+2,a⟩ γ ⟨Conc.G ((base 129).at ⟨#[.pointer (some (ag.fy A)),.int .i32 (o.word:Int),.U,.U,.U,.U,.U,.U,.U,.U,.U,.U,.U,.U,.U,.U,.U,.U,.U,.U,.U,.U,.U,.U,.U,.U,.U,.U,.U,.U,.U,.U,.U,.U,.U,.U,.U,.U,.U,.U,.U,.U,.U],[]⟩ [.code (f129.body.getD .skip)]) (a4.at aF (.inRegion aC (aK::aM)::aH)::csZ),w,mine⟩:=by
 have hF:=n;have p:o.k<1048576:=AP;have x:=Q_ o p j;have v:bits .and .i32 (({o with L:=true}:bk).word:Int) 1=1:=by grind[TF]
 have u:bits .and .i32 (o.word:Int) 4=4:=by grind[JO]
 simp only[f129,vae];clear j hS;refine bl G ?_;repeat w_go ah.trans
 refine dL Y hF λd c i t e h s g hF=>?_;refine NN G g (y:=.idle) (m1:={h.mu with sema:=h.mu.sema+1}) (f1:=f+1) (stepG_semrelease (ad:=ag.kQ A) Y Y Am Y func150 Ov NK Ou Ot (by simp[Act.eval,ag.fy,ag.kQ]) (IJ g.mt.1) (pG g.mt.1 1 none)) (Rc g.sees) Y Y k (akU Jo) Ad (.inl (mayWake_entry Y Y func150 NK)) ?_;replace hF:=ah.trans hF (vz (A:=A) (mine:=mine) q e 1 none (.int .u32 ((h.mu.sema+1:Nat):Int)));clear g s t c;refine bl G ?_;walk_nrm
 repeat w_go ah.trans
 u_leave0 func129 ah.trans hF
 exact vai (λd c=>⟨Y,λi _=>l d i (ah.trans hF c)⟩)
end
def aqR(G:A.Good){f F:Nat}(W:f+8<=F){a' a:A.ao}(s:¬A.left a)(K:A.past a=A.past a')(eK:A.most<=1000000)(B:∀b,A.K b\/mine b->b≠A.st){c:Frame}{cs:fV}(hc:c.mode=.returning)(T:(Conc.G c cs).status=.running)(X:∀w' C,ah (am A) mine w0 w'->bg (am A) prog Stop m ⟨.idle,false,0,f,a⟩ C ⟨Conc.G c cs,w',mine⟩)(w:aS)(γ:ag.aO A.aI)(U:ah (am A) mine w0 w)(P:∀C,(am A).dZ (⟨.own,true,0,F,a'⟩:ag.Lo A.ao) γ C->∀(xs:List A.ao)(i:Nat),xs[i]?=some a'->A.wk C.al xs->A.wk C.al (xs.set i a)):
 bg (am A) prog Stop m ⟨.own,true,0,F,a'⟩ γ ⟨Conc.G ((baseD 91).at ⟨#[.pointer (some (ag.fy A)),.U,.U,.U,.U,.U],[]⟩ [.code (f91.body.getD .skip)]) (c::cs),w,mine⟩:=by
 have hF:=U;simp only[f91,vae];refine bl G ?_;repeat w_go ah.trans
 u_call func115 NY f115 ah.trans hF
 repeat w_go ah.trans
 refine dL rfl hF λn d x p k g o j hF=>?_;refine lH (Ar rfl rfl Am rfl rfl (lG j.mt.1) NW) rfl rfl (.refl _) rfl rfl ?_;have z:=(da G).trans _ _ _ _ p o;clear j o p d;refine bl G ?_;walk_nrm
 repeat w_go ah.trans
 refine dL rfl hF λn d D p k H o j hF=>?_;refine lH (Ge rfl rfl Am rfl rfl (lG j.mt.1)) rfl rfl (.refl _) rfl rfl ?_;replace z:=(da G).trans _ _ _ _ z ((da G).trans _ _ _ _ p o);clear j o p d;refine bl G ?_;walk_nrm
 repeat w_go ah.trans
 refine dL rfl hF λn d x p k g o j hF=>?_;replace z:=(da G).trans _ _ _ _ z ((da G).trans _ _ _ _ p o);refine ak3 G j (a1:=a) (f1:=f+7) (vcu .releaseMerge Ad rfl rfl Am rfl func70 Tt Tu Tv Tw Bz) rfl s K rfl rfl W (P _ z) ?_;clear j o p d z P;refine bl G ?_;walk_nrm
 repeat w_go ah.trans
 refine dL rfl hF λn d x p k g o j hF=>?_;refine sk (d1:=1) G j J1 (vbx .disable Ad rfl rfl Am rfl func71 CE CF CG CH) rfl s (sj (f1:=f+6) Jo _) Ad rfl ?_;clear j o p d;refine bl G ?_;walk_nrm
 repeat w_go ah.trans
 refine dL rfl hF λn d x p k g o j hF=>?_;have hk:g.mu.k<=1000000:=Ra eK j.sees;have V:g.mu.k<1048576:=AP;have E:g.mu.L=true:=by obtain⟨ls,ee,hi,hg⟩:=j.sees;exact hg.lF.Mf (Fj hi)
 have hv:=aqx g.mu V E;cases hS:g.mu.S with
 |true=>
  refine Au G j (y:=.ps) (m1:={g.mu with L:=false}) (f1:=f+2) (vcw rfl rfl Am rfl func128 JG JH JI .i32 JJ rfl rfl (lG j.mt.1) (pG j.mt.1 0 none)) hv rfl Ad rfl s (akO hS Ad) Ad ?_;rw[hv];replace hF:=ah.trans hF (vz (A:=A) (mine:=mine) B k 0 none (.int .i32 (({g.mu with L:=false}:bk).word:Int)));have q:((({g.mu with L:=false}:bk).word:Int) != 0)=true:=by
   have:({g.mu with L:=false}:bk).word≠0:=λe=>by have:=(TC e).2.2.1;grind
   grind
  clear hv E;generalize J:({g.mu with L:=false}:bk)=M at q hF⊢;clear j o p d;refine bl G ?_;walk_nrm
  repeat w_go ah.trans
  u_call func129 NU f129 ah.trans hF
  refine vai (λr v=>⟨rfl,λD _=>aqQ G s B AA AA AA (λt H u=>?_) r D (ah.refl _ _ _)⟩);replace hF:=ah.trans hF (ah.trans v u);clear v u q;refine bl G ?_;walk_nrm
  repeat w_go ah.trans
  refine dL rfl hF λn d x p k g o j hF=>?_;refine sk (d1:=0) G j KK (vbx .enable Ad rfl rfl Am rfl func72 qy qz qA qB) rfl s (sj (f1:=f) Jo _) Ad rfl ?_;clear j o p d;refine bl G ?_;walk_nrm
  repeat w_go ah.trans
  u_leave0 func115 ah.trans hF
  repeat w_go ah.trans
  u_in ah.trans hF
  refine JW rfl rfl func91 rfl hc ⟨ED,?_⟩;grind[Goes.stop,ah.trans]
 |false=>
  by_cases h0:({g.mu with L:=false}:bk).word=0
  .have Q:g.mu.k=0:=(TC h0).2.2.2;refine Au G j (y:=.idle) (m1:={g.mu with L:=false}) (f1:=f+5) (vcw rfl rfl Am rfl func128 JG JH JI .i32 JJ rfl rfl (lG j.mt.1) (pG j.mt.1 0 none)) hv rfl Ad rfl s (akP hS Q Jo) Ad ?_;rw[hv,h0];replace hF:=ah.trans hF (vz (A:=A) (mine:=mine) B k 0 none (.int .i32 ((0:Nat):Int)));clear hv E h0 Q;clear j o p d;refine bl G ?_;walk_nrm
   repeat w_go ah.trans
   refine dL rfl hF λn d x p k g o j hF=>?_;refine sk (d1:=0) G j KK (vbx .enable Ad rfl rfl Am rfl func72 qy qz qA qB) rfl s (sj (f1:=f) Ad _) Ad rfl ?_;clear j o p d;refine bl G ?_;walk_nrm
   repeat w_go ah.trans
   u_leave0 func115 ah.trans hF
   repeat w_go ah.trans
   u_in ah.trans hF
   refine JW rfl rfl func91 rfl hc ⟨ED,?_⟩;grind[Goes.stop,ah.trans]
  .refine Au G j (y:=.eI (g.mu.gm+1) ({g.mu with L:=false}:bk).word) (m1:={g.mu with L:=false,gm:=g.mu.gm+1}) (f1:=f+5) (vcw rfl rfl Am rfl func128 JG JH JI .i32 JJ rfl rfl (lG j.mt.1) (pG j.mt.1 0 none)) hv rfl Ad rfl s (akQ hS Jo) Ad ?_;rw[hv];replace hF:=ah.trans hF (vz (A:=A) (mine:=mine) B k 0 none (.int .i32 (({g.mu with L:=false}:bk).word:Int)));have O:¬(({g.mu with L:=false,gm:=g.mu.gm+1}:bk).jq/\({g.mu with L:=false,gm:=g.mu.gm+1}:bk).gm=g.mu.gm+1)\/(({g.mu with L:=false}:bk).jq/\({g.mu with L:=false}:bk).word=({g.mu with L:=false}:bk).word):=by
    by_cases S:({g.mu with L:=false}:bk).jq
    .grind
    .exact .inl λh=>S h.1
   have q:((({g.mu with L:=false}:bk).word:Int) != 0)=true:=AA;clear hv E h0;show bg (am A) prog Stop m _ _ ⟨_,k.setCell (ag.fy A) (.int .i32 (({g.mu with L:=false}:bk).word:Int)),_⟩;generalize J:({g.mu with L:=false}:bk)=M at q hF O⊢;clear j o p d;refine bl G ?_;walk_nrm
   repeat w_go ah.trans
   u_call func129 NU f129 ah.trans hF
   refine vai (λr v=>⟨rfl,λD R=>aqP G s eK B AA AA AA (λt H u=>?_) (λt H u I=>?_) r D (ah.refl _ _ _) (O.imp (λh=>DK (A:=A) (l:=⟨.eI (g.mu.gm+1) M.word,false,1,f+5,a⟩) rfl h R) id)⟩);focus
    replace hF:=ah.trans hF (ah.trans v u);clear v u q;refine bl G ?_;walk_nrm
    repeat w_go ah.trans
    refine dL rfl hF λn d x p k g o j hF=>?_;refine sk (d1:=0) G j KK (vbx .enable Ad rfl rfl Am rfl func72 qy qz qA qB) rfl s (sj (f1:=f) Jo _) Ad rfl ?_
   rotate_left
   focus
    replace hF:=ah.trans hF (ah.trans v u);clear v u q;refine bl G ?_;walk_nrm
    repeat w_go ah.trans
    refine dL rfl hF λn d x p N Y o j hF=>?_;refine sk (d1:=0) G j KK (vbx .enable Ad rfl rfl Am rfl func72 qy qz qA qB) rfl s (akS (f1:=f) (DK (A:=A) rfl (DK (A:=A) (l:=⟨.eI (g.mu.gm+1) M.word,false,1,f+5,a⟩) rfl I p) o) Ad) Ad rfl ?_
   rotate_left
   all_goals
    clear j o p d;refine bl G ?_;walk_nrm
    repeat w_go ah.trans
    u_leave0 func115 ah.trans hF
    repeat w_go ah.trans
    u_in ah.trans hF
    refine JW rfl rfl func91 rfl hc ⟨ED,?_⟩;grind[Goes.stop,ah.trans]
def TL(G:A.Good){f:Nat}{a:A.ao}(e:¬A.left a)(eK:A.most<=1000000)(n:∀b,A.K b\/mine b->b≠A.st){c:Frame}{cs:fV}(hc:c.mode=.returning)(d:(Conc.G c cs).status=.running)(g:∀w' o,ah (am A) mine w0 w'->bg (am A) prog Stop m ⟨.idle,false,0,f,a⟩ o ⟨Conc.G c cs,w',mine⟩)(w:aS)(γ:ag.aO A.aI)(l:ah (am A) mine w0 w):
 bg (am A) prog Stop m ⟨.own,true,0,f+8,a⟩ γ ⟨Conc.G ((baseD 91).at ⟨#[.pointer (some (ag.fy A)),.U,.U,.U,.U,.U],[]⟩ [.code (f91.body.getD .skip)]) (c::cs),w,mine⟩:=
 aqR G JT e Y eK n hc d g w γ l λ_ _ xs i hi h=>by obtain⟨k,j⟩:=vab.1 hi;rw[<-j,List.set_getElem_self k];exact h
end
def qE(p:Prop):Prop:=p
theorem qE.out{p:Prop}(h:qE p):p:=h
section
variable{A:e_}{Stop:Bool->ag.Lo A.ao->aV->Prop}{m:Bool}{mine:dh}
variable{a4:Frame}{aF:Act}{aC:eY}{aK:Nat}{aM:uaa}{aH:il}{csZ:fV}
theorem arl(G:A.Good){l:ag.Lo A.ao}{γ:ag.aO A.aI}{sv:Bool}(a7:∀w' c,(am A).dZ l γ c->ah (am A) mine w w'->t6 A Stop m mine a4 aF aC aK aM aH csZ l c cp sv true it old w'):
 wZ A Stop m mine a4 aF aC aK aM aH csZ l γ cp sv true it old w:=by
 unfold wZ jM;intros
 unfold t6 jM at a7;have hF:=ah.refl (am A) mine w;simp only[f127,vae,dA,kZ,dW,Gk,Nat.reduceBEq,vah,↓reduceIte]at a7⊢;refine bl G ?_;u_c veh ah.trans hF
 u_c veh ah.trans hF
 repeat w_but "code.seq" ah.trans
 exact vai (λa b=>⟨Y,λe d=>a7 a e d (ah.trans hF b) ..⟩)
theorem arm(G:A.Good){l:ag.Lo A.ao}{γ:ag.aO A.aI}{sv:Bool}(f:bits .and .i32 old 2=2)(a7:∀w' c,(am A).dZ l γ c->ah (am A) mine w w'->t6 A Stop m mine a4 aF aC aK aM aH csZ l c cp sv false it old w'):
 wZ A Stop m mine a4 aF aC aK aM aH csZ l γ cp sv false it old w:=by
 unfold wZ jM;intros
 unfold t6 jM at a7;have hF:=ah.refl (am A) mine w;simp only[f127,vae,dA,kZ,dW,Gk,Nat.reduceBEq,vah,↓reduceIte]at a7⊢;refine bl G ?_;u_c veh ah.trans hF
 u_c veh ah.trans hF
 repeat w_but "code.seq" ah.trans
 exact vai (λa b=>⟨Y,λe d=>a7 a e d (ah.trans hF b) ..⟩)
theorem arn(G:A.Good){l:ag.Lo A.ao}{γ:ag.aO A.aI}{sv:Bool}(f:bits .and .i32 old 2=0)(hk:old / 8=0)(a7:∀w' c,(am A).dZ l γ c->ah (am A) mine w w'->t6 A Stop m mine a4 aF aC aK aM aH csZ l c cp sv false it old w'):
 wZ A Stop m mine a4 aF aC aK aM aH csZ l γ cp sv false it old w:=by
 unfold wZ jM;intros
 unfold t6 jM at a7;have hF:=ah.refl (am A) mine w;simp only[f127,vae,dA,kZ,dW,Gk,Nat.reduceBEq,vah,↓reduceIte]at a7⊢;refine bl G ?_;u_c veh ah.trans hF
 u_c veh ah.trans hF
 repeat w_but "code.seq" ah.trans
 exact vai (λa b=>⟨Y,λe d=>a7 a e d (ah.trans hF b) ..⟩)
def aro(G:A.Good){f:Nat}{a:A.ao}{γ:ag.aO A.aI}{new:Int}{sv:Bool}(H:¬A.left a)(K:∀b,A.K b\/mine b->b≠A.st)(l:qE (o.L=true/\o.S=false/\o.W=false))(N:bits .and .i32 (o.word:Int) 2=0)(hk:(o.word:Int) / 8=kk)(M:(kk != 0)=true)(L:bits .or .i32 (o.word:Int) 2=new)(F:qE (new=(({o with W:=true}:bk).word:Int)))(v:∀w' j,j.a_<γ.a_->ah (am A) mine w w'->t6 A Stop m mine a4 aF aC aK aM aH csZ ⟨.jc,false,1,f+4,a⟩ j cp sv true it (o.word:Int) w')(u:∀w' j,(j=γ\/j.a_<γ.a_)->ah (am A) mine w w'->t6 A Stop m mine a4 aF aC aK aM aH csZ ⟨.l5,false,1,f+5,a⟩ j cp sv false it (o.word:Int) w'):
 wZ A Stop m mine a4 aF aC aK aM aH csZ ⟨.l5,false,1,f+5,a⟩ γ cp sv false it (o.word:Int) w:=by
 unfold wZ jM;intros
 unfold t6 jM at v u;have hF:=ah.refl (am A) mine w;simp only[f127,vae,dA,kZ,dW,Gk,Nat.reduceBEq,vah,↓reduceIte]at v u⊢;refine bl G ?_;u_c veh ah.trans hF
 u_c veh ah.trans hF
 repeat w_but "code.seq" ah.trans
 refine dL Y hF λx e P t k c s i hF=>?_;have z:=(da G).less _ _ _ ((da G).trans _ _ _ _ t s);have O:f+5<=c.a_:=TH i.sees;by_cases B:c.mu.word=o.word
 .obtain⟨D,J,C,I⟩:=y5 B;have hcell:=lG i.mt.1;rw[B]at hcell;have hv:new=(({c.mu with W:=true}:bk).word:Int):=by rw[qE.out F];simp only[bk.word,D,C,I]
  refine Au G i (y:=.jc) (m1:={c.mu with W:=true}) (f1:=f+4) (stepG_cas_hit Y Y Am Y func126 yp yq yr .i32 yt Y Y Y hcell (pG i.mt.1 0 none)) hv Y Ad Y H (akK (D.trans l.out.1) (C.trans l.out.2.1) (J.trans l.out.2.2) Jo) Ad ?_;replace hF:=ah.trans hF (vz (A:=A) (mine:=mine) K k 0 none (.int .i32 (({c.mu with W:=true}:bk).word:Int)));clear i s t e;refine bl G ?_;walk_nrm
  repeat w_but "code.seq" ah.trans
  refine vai (λd p=>⟨Y,λr n=>?_⟩);exact v d r (by
   have q:∀g:ag.aO A.aI,(g=({c with mu:={c.mu with W:=true},a_:=c.a_-1}:ag.aO A.aI)\/g.a_<c.a_-1)->g.a_<c.a_:=by
    rintro g (rfl|h)
    .show c.a_-1<c.a_;omega
    .omega
   have:=q r (Or.imp id (λh=>h.1) n);rcases z with E|E
   .simp_all
   .exact Nat.lt_trans this E) (ah.trans hF p) ..
 .refine Mk (stepG_cas_miss Y Y Am Y func126 yp yq yr .i32 yt Y Y Y (lG i.mt.1) (pG i.mt.1 0 none) AP) Y Ad ?_;clear i s t e;refine bl G ?_;walk_nrm
  repeat w_but "code.seq" ah.trans
  exact vai (λd p=>⟨Y,λr n=>(u d c z (ah.trans hF p) ..).hV (da G) n⟩)
