import Derived.Test.YtncomcmfgmojkaaGreatPAG
set_option linter.all false
set_option maxRecDepth 100000
set_option maxHeartbeats 16000000
namespace Go.Proofs.YtncomcmfgmojkaaGreat
open Go.Proofs.Tryz
namespace bO
open Conc RowKit Conc.Lib ConcR.Gen ConcM av bn ah
def Tu{A:eR}{l:ah.Lo A.al}{γ:ah.aN A.aJ}(h:gH (ak A) l γ):l.fuel<=γ.a_:=by obtain⟨ls,i,hi,hg⟩:∃(ls:List (ah.Lo A.al))(i:Nat),ls[i]?=some l/\rT A γ ls:=h;have:=L1 (ls.map (·.fuel)) i l.fuel AA;have:=hg.gI;omega
theorem Sb{A:eR}(e9:A.most<256){l:ah.Lo A.al}{γ:ah.aN A.aJ}(h:gH (ak A) l γ):γ.mu.k<256:=by obtain⟨ls,i,hi,hg⟩:=h;have h1:=hg.lx.LY;have a:=hg.len;grind
theorem Nj{A:eR}{l:ah.Lo A.al}{γ:ah.aN A.aJ}(h:gH (ak A) l γ)(a:l.mx=.iD):γ.mu.S=false/\γ.mu.W=true:=by obtain⟨ls,i,hi,hg⟩:=h;have:=hg.lx.YB (i:=i) AA;grind
def apz{A:eR}{l:ah.Lo A.al}{γ:ah.aN A.aJ}(h:gH (ak A) l γ)(a:l.mx=.hand):γ.mu.S=true/\γ.mu.L=false/\γ.mu.W=false/\1<=γ.mu.k:=by obtain⟨ls,i,hi,hg⟩:=h;have:=hg.lx.Ip (i:=i) AA;grind
variable{n:bj}
def yw{m:bj}(h:m.word=n.word):m.L=n.L/\m.W=n.W/\m.S=n.S/\m.k=n.k:=by have a1:m.L.toNat<=1:=Bool.toNat_le _;have g:m.W.toNat<=1:=Bool.toNat_le _;have f:m.S.toNat<=1:=Bool.toNat_le _;have b1:n.L.toNat<=1:=Bool.toNat_le _;have j:n.W.toNat<=1:=Bool.toNat_le _;have i:n.S.toNat<=1:=Bool.toNat_le _;unfold bj.word at h;have e:m.L.toNat=n.L.toNat:=As;have d:m.W.toNat=n.W.toNat:=As;have c:m.S.toNat=n.S.toNat:=As;have key:∀a b:Bool,a.toNat=b.toNat->a=b:=Ae;grind
variable{o:bj}{cw it old:Int}{w:aO}
section
variable{A:eR}{Stop:Bool->ah.Lo A.al->aV->Prop}{m:Bool}{mine:Nat->Prop}
variable{a2:Frame}{aF:Act}{aD:Array Oper}{aI:Nat}{aL:List Nat}{aH:List Item}{csZ:List Frame}
def apA(G:A.Good){f:Nat}{a:A.al}{γ:ah.aN A.aJ}{sv aw:Bool}(d:¬A.left a)(e9:A.most<256)(i:∀b,A.K b\/mine b->b≠A.st)(hs:gH (ak A) ⟨.hand,false,1,f+3,a⟩ γ)(e:Behind A Stop m mine a2 aF aD aI aL aH csZ f a w):Dr A Stop m mine a2 aF aD aI aL aH csZ ⟨.hand,false,1,f+3,a⟩ γ cw sv aw it (γ.mu.word:Int) w:=by
 have hk:=Sb e9 hs;obtain⟨hS,k,j,h1⟩:=apz hs Y;have g:bits .and .i32 (γ.mu.word:Int) 4=4:=by grind[Jc]
 have h3:bits .and .i32 (γ.mu.word:Int) 3=0:=by grind[apm]
 have h:=Je γ.mu;have c:(((γ.mu.k:Nat):Int)==0)=false:=AA;refine apy G (!sv||γ.mu.k==1) ?_ d e9 g h3 h c i e;cases sv<;>grind
def apB(G:A.Good){f:Nat}{a:A.al}{γ:ah.aN A.aJ}{sv aw:Bool}(o:¬A.left a)(e9:A.most<256)(u:∀b,A.K b\/mine b->b≠A.st)(D:∀w' g k,g.a_<γ.a_->ai (ak A) mine w w'->gH (ak A) ⟨.iD,false,1,f+3,a⟩ g->pF A Stop m mine a2 aF aD aI aL aH csZ ⟨.iD,false,1,f+3,a⟩ g cw k true 0 (g.mu.word:Int) w')(C:Behind A Stop m mine a2 aF aD aI aL aH csZ f a w):Nh A Stop m mine a2 aF aD aI aL aH csZ ⟨.jr,false,1,f+2,a⟩ γ cw sv aw it old w:=by
 unfold Nh;intros
 have hF:=ai.refl (ak A) mine w;refine bh.mk Y (λj d F c=>?_);replace hF:=ai.trans hF (dO.rw c);have E:d.a_<=γ.a_:=by grind
 have H:f+2<=d.a_:=Tu c.sees;by_cases h0:d.mu.sema=0
 .refine .wait (stepG_semacquire_wait (ad:=ah.ko A) Y Y Y func150 Tm Tn To Tp B4 ?_) Y (.inl ⟨Y,h0⟩) Lv;have:=It c.mt.1;grind
 have v:((d.mu.sema:Nat):Int)-1=((d.mu.sema-1:Nat):Int):=As;have s:=uR (A:=A) (mine:=mine) u j 1 none (.int .u32 ((d.mu.sema-1:Nat):Int));cases hS:d.mu.S with
 |false=>
  refine Ni G c (y:=.iD) (m1:={d.mu with sema:=d.mu.sema-1}) (f1:=f+3) (stepG_semacquire Y Y BJ Y func150 Tm Tn To Tp B4 (It c.mt.1) As (pm c.mt.1 1 none)) v Y Y o (akV hS As A_) A_ (.inr As) ?_;clear c;refine bk G ?_;replace hF:=ai.trans hF s;u_c stepG_region_end ai.trans hF
  refine Goes.stop (λi l=>⟨Y,λt x=>?_⟩);replace hF:=ai.trans hF l;have B:t.a_<γ.a_:=by grind
  exact Si G (λw' g k r p n=>apx G (by grind[Jc,Sb,Nj]) (λw'' q=>D w'' g k (r.elim (λe=>AA) (λe=>Nat.lt_trans e B)) (ai.trans hF (ai.trans p q)) n)) ..
 |true=>
  refine Ni G c (y:=.hand) (m1:={d.mu with sema:=d.mu.sema-1}) (f1:=f+3) (stepG_semacquire Y Y BJ Y func150 Tm Tn To Tp B4 (It c.mt.1) As (pm c.mt.1 1 none)) v Y Y o (akW hS As A_) A_ (.inr As) ?_;clear c;refine bk G ?_;replace hF:=ai.trans hF s;u_c stepG_region_end ai.trans hF
  refine Goes.stop (λi l=>⟨Y,λt x=>?_⟩);replace hF:=ai.trans hF l;exact Si G (λw' g k r p n=>apA G o e9 u n (λw'' z q=>C w'' z (ai.trans hF (ai.trans p q)))) ..
def F8(G:A.Good){f gI:Nat}{x y:bU}{a:A.al}{γ:ah.aN A.aJ}{new:Int}{sv aw:Bool}(q:¬A.left a)(s:∀b,A.K b\/mine b->b≠A.st)(t:1<=gI)(i:bj->bj)(ht:∀mu:bj,mu.word=o.word->lv x y mu (i mu) gI (f+2)/\((i mu).word:Int)=new/\(i mu).sema=mu.sema)(z:∀w' e,e.a_<γ.a_->ai (ak A) mine w w'->uP A Stop m mine a2 aF aD aI aL aH csZ ⟨y,false,1,f+2,a⟩ e cw sv aw it (o.word:Int) true w')(v:∀w' e,(e=γ\/e.a_<γ.a_)->e.mu.word≠o.word->ai (ak A) mine w w'->uP A Stop m mine a2 aF aD aI aL aH csZ ⟨x,false,1,gI,a⟩ e cw sv aw it (o.word:Int) false w'):
 Jb A Stop m mine a2 aF aD aI aL aH csZ ⟨x,false,1,gI,a⟩ γ cw sv aw it (o.word:Int) new w:=by
 unfold Jb;intros
 have hF:=ai.refl (ak A) mine w;refine bh.mk Y (λh g u d=>?_);replace hF:=ai.trans hF (dO.rw d);have p:=(dg G).less _ _ _ u;have B:gI<=g.a_:=Tu d.sees;by_cases k:g.mu.word=o.word
 .obtain⟨h1,r,h3⟩:=ht g.mu k;have hcell:=ly d.mt.1;rw[k]at hcell;refine Ab G d (y:=y) (m1:=i g.mu) (f1:=f+2) (stepG_cas_hit Y Y BJ Y func128 xR xS xT .i32 xU Y Y Y hcell (pm d.mt.1 0 none)) r.symm Y A_ h3 q h1 A_ ?_;replace hF:=ai.trans hF (uR (A:=A) (mine:=mine) s h 0 none (.int .i32 ((i g.mu).word:Int)));clear d;refine bk G ?_;u_c stepG_region_end ai.trans hF
  refine Goes.stop (λc j=>⟨Y,λn l=>?_⟩);exact z c n (by
   grind) (ai.trans hF j) ..
 .refine L5 (stepG_cas_miss Y Y BJ Y func128 xR xS xT .i32 xU Y Y Y (ly d.mt.1) (pm d.mt.1 0 none) As) Y A_ ?_;clear d;refine bk G ?_;u_c stepG_region_end ai.trans hF
  exact Goes.stop (λc j=>⟨Y,λn l=>(v c g p k (ai.trans hF j) ..).km (dg G) l⟩)
end
def Ac(A:eR)(Stop:Bool->ah.Lo A.al->aV->Prop)(m:Bool)(mine:Nat->Prop)(a2:Frame)(aF:Act)(aD:Array Oper)(aI:Nat)(aL:List Nat)(aH:List Item)(csZ:List Frame)(l:ah.Lo A.al)(γ:ah.aN A.aJ)(old:Int)(w:aO):Prop:=
 ∀(dC dQ j4 h9 yx sm ft eW fu fv fx fy qC qD fG fz fA fB iq fC gi gj gl ux uy uz uA uB uC uD uE uF uG uH uI uJ uK uL uM uN uO:Value),bh (ak A) prog Stop m l γ ⟨Conc.G ((base 131).at ⟨#[.pointer (some (ah.fN A)),dC,dQ,j4,.int .i32 old,h9,yx,sm,ft,eW,fu,fv,fx,fy,qC,qD,fG,fz,fA,fB,iq,fC,gi,gj,gl,ux,uy,uz,uA,uB,uC,uD,uE,uF,uG,uH,uI,uJ,uK,uL,uM,uN,uO],[]⟩ [.code ((dp (f131.body.getD .skip)).getD .skip),.inLoop ((dp (f131.body.getD .skip)).getD .skip),.inBlock 0]) (a2.at aF (.inRegion aD (aI::aL)::aH)::csZ),w,mine⟩
def Ds{A:eR}{l:ah.Lo A.al}{γ a:ah.aN A.aJ}{v o:Nat}(b:l.mx=.ep v o)(h:¬(γ.mu.iN/\γ.mu.fU=v))(c:(ak A).dY l γ a):¬(a.mu.iN/\a.mu.fU=v):=by
 rcases c with rfl|⟨_,_,d⟩
 .exact h
 .exact d.2 v o b h
def R_{A:eR}{l:ah.Lo A.al}{γ:ah.aN A.aJ}(h:gH (ak A) l γ):IntKind.u32.wrap ((γ.mu.sema:Int)+1)=((γ.mu.sema+1:Nat):Int):=by
 obtain⟨ls,i,hi,hg⟩:=h;have h1:γ.mu.sema<=1:=by have a:γ.mu.W.toNat<=1:=Bool.toNat_le _;cases hS:γ.mu.S with|false=>have:=hg.lx.nm hS;omega|true=>have:=hg.lx.st hS;omega
 rw[IntKind.wrap_u32];omega
theorem apE{A:eR}{l:ah.Lo A.al}{γ:ah.aN A.aJ}{v o:Nat}(h:gH (ak A) l γ)(c:l.mx=.ep v o)(a:γ.mu.word≠o):¬(γ.mu.iN/\γ.mu.fU=v):=by obtain⟨ls,i,hi,hg⟩:=h;rintro⟨h1,b⟩;exact a ((hg.lx.ep i v o AA).2 b.symm h1).symm
def R9{A:eR}(e9:A.most<=250){l:ah.Lo A.al}{γ:ah.aN A.aJ}(h:gH (ak A) l γ):γ.mu.k<=250:=by obtain⟨ls,i,hi,hg⟩:=h;have h1:=hg.lx.LY;have a:=hg.len;grind
def apF{m:bj}(h:m.word=n.word)(a:n.iN):m.iN:=by obtain⟨e,d,c,b⟩:=yw h;exact⟨e.trans a.1,d.trans a.2.1,c.trans a.2.2.1,by rw[b];exact a.2.2.2⟩
variable{w0:aO}
section
variable{A:eR}{Stop:Bool->ah.Lo A.al->aV->Prop}{m:Bool}{mine:Nat->Prop}
variable{a2:Frame}{aF:Act}{aD:Array Oper}{aI:Nat}{aL:List Nat}{aH:List Item}{csZ:List Frame}
def apG(G:A.Good){l:ah.Lo A.al}{γ:ah.aN A.aJ}{kk:Int}(hk:old / 8=kk)(c:(kk==0)=true\/((kk==0)=false/\(bits .and .i32 old 7 != 0)=true))(f:∀w' d,ai (ak A) mine w w'->(ak A).dY l γ d->bh (ak A) prog Stop m l d ⟨Conc.G (a2.at (aF.put ((aD[aI]?).bind (·.dst)) (.tuple #[])) (.inRegion aD aL::aH)) csZ,w',mine⟩):
 Ac A Stop m mine a2 aF aD aI aL aH csZ l γ old w:=by
 unfold Ac;intros
 have hF:=ai.refl (ak A) mine w;simp only[f131,Option.getD_some,dp];refine bk G ?_;rcases c with c|⟨h0,c⟩;all_goals
  repeat w_go ai.trans
  u_leave0 func131 ai.trans hF
  exact Goes.stop (λa b=>⟨Y,λg e=>f a g (ai.trans hF b) e⟩)
def apH(G:A.Good){f v n:Nat}{a:A.al}{γ:ah.aN A.aJ}(z:¬A.left a)(B:∀b,A.K b\/mine b->b≠A.st)(l:o.iN)(hok:o.k<256)(I:∀w' p,ai (ak A) mine w w'->bh (ak A) prog Stop m ⟨.idle,false,1,f+1,a⟩ p ⟨Conc.G (a2.at (aF.put ((aD[aI]?).bind (·.dst)) (.tuple #[])) (.inRegion aD aL::aH)) csZ,w',mine⟩)(x:∀w' p t,(ak A).dY ⟨.ep v n,false,1,f+5,a⟩ γ t->t.mu.word≠o.word->gH (ak A) ⟨.ep v n,false,1,f+5,a⟩ t->(ak A).dY ⟨.ep v n,false,1,f+5,a⟩ t p->ai (ak A) mine w w'->gH (ak A) ⟨.ep v n,false,1,f+5,a⟩ p->Ac A Stop m mine a2 aF aD aI aL aH csZ ⟨.ep v n,false,1,f+5,a⟩ p (p.mu.word:Int) w'):
 Ac A Stop m mine a2 aF aD aI aL aH csZ ⟨.ep v n,false,1,f+5,a⟩ γ (o.word:Int) w:=by
 unfold Ac;intros
 unfold Ac at x;have hF:=ai.refl (ak A) mine w;have hk:=Je o;have K:(((o.k:Nat):Int)==0)=false:=by have:=l.2.2.2;grind
 have M:(bits .and .i32 (o.word:Int) 7 != 0)=false:=by rw[Sr o hok,l.1,l.2.1,l.2.2.1];rfl
 have L:=aps o hok l.2.2.2;have N:=Sn ({o with k:=o.k-1}:bj) AA;simp only[f131,Option.getD_some,dp]at x⊢;refine bk G ?_;repeat w_go ai.trans
 refine dH Y hF λd c s j q h i e hF=>?_;have C:=(dg G).trans _ _ _ _ j i;by_cases u:h.mu.word=o.word
 .have hcell:=ly e.mt.1;rw[u]at hcell;obtain⟨R,Q,P,O⟩:=yw u;have F:(({o with k:=o.k-1,W:=true}:bj).word:Int)=(({h.mu with k:=h.mu.k-1,W:=true}:bj).word:Int):=by grind[bj.word]
  refine Ab G e (y:=.hY) (m1:={h.mu with k:=h.mu.k-1,W:=true}) (f1:=f+2) (stepG_cas_hit Y Y BJ Y func128 xR xS xT .i32 xU Y Y Y hcell (pm e.mt.1 0 none)) F Y A_ Y z (ak1 (apF u l) A_) A_ ?_;replace hF:=ai.trans hF (uR (A:=A) (mine:=mine) B q 0 none (.int .i32 (({h.mu with k:=h.mu.k-1,W:=true}:bj).word:Int)));clear e i j c x;refine bk G ?_;walk_nrm
  repeat w_go ai.trans
  refine dH Y hF λd c s j g r i e hF=>?_;refine Ni G e (y:=.idle) (m1:={r.mu with sema:=r.mu.sema+1}) (f1:=f+1) (stepG_semrelease (ad:=ah.ko A) Y Y BJ Y func152 Tv Nf Te Td (by simp[Act.eval,ah.fN,ah.ko]) (It e.mt.1) (pm e.mt.1 1 none)) ?_ Y Y z (ak3 KX) A_ (.inl ?_) ?_
  .exact R_ e.sees
  .exact mayWake_entry Y Y func152 Nf
  replace hF:=ai.trans hF (uR (A:=A) (mine:=mine) B g 1 none (.int .u32 ((r.mu.sema+1:Nat):Int)));clear e i j c;refine bk G ?_;walk_nrm
  repeat w_go ai.trans
  u_leave0 func131 ai.trans hF
  exact Goes.stop (λd c=>⟨Y,λs _=>I d s (ai.trans hF c)⟩)
 .have E:=e.sees;refine L5 (stepG_cas_miss Y Y BJ Y func128 xR xS xT .i32 xU Y Y Y (ly e.mt.1) (pm e.mt.1 0 none) As) Y A_ ?_;clear e i j c;refine bk G ?_;walk_nrm
  repeat w_go ai.trans
  refine dH Y hF λd c s j g r i e hF=>?_;have H:=(dg G).trans _ _ _ _ j i;have D:=e.sees;refine lz (z_ Y Y BJ Y Y (ly e.mt.1) apa) Y Y (.refl _) Y Y ?_;clear e i j c;refine bk G ?_;walk_nrm
  repeat w_nl ai.trans
  u_c stepG_inLoop ai.trans hF
  exact Goes.stop (λd c=>⟨Y,λs J=>(x d r h C u E H (ai.trans hF c) D ..).km (dg G) J⟩)
def apI(G:A.Good){f v j:Nat}{a:A.al}(q:¬A.left a)(e9:A.most<=250)(t:∀b,A.K b\/mine b->b≠A.st)(r:∀w' c,ai (ak A) mine w0 w'->bh (ak A) prog Stop m ⟨.idle,false,1,f+1,a⟩ c ⟨Conc.G (a2.at (aF.put ((aD[aI]?).bind (·.dst)) (.tuple #[])) (.inRegion aD aL::aH)) csZ,w',mine⟩)(s:∀w' c,ai (ak A) mine w0 w'->¬(c.mu.iN/\c.mu.fU=v)->bh (ak A) prog Stop m ⟨.ep v j,false,1,f+5,a⟩ c ⟨Conc.G (a2.at (aF.put ((aD[aI]?).bind (·.dst)) (.tuple #[])) (.inRegion aD aL::aH)) csZ,w',mine⟩):
 ∀(N:Nat)(γ:ah.aN A.aJ)(o:bj)(w:aO),o.k<=250->(¬(γ.mu.iN/\γ.mu.fU=v)\/(o.iN/\j=o.word))->ai (ak A) mine w0 w->γ.a_*2+(if o.word=γ.mu.word then 0 else 1)<N->Ac A Stop m mine a2 aF aD aI aL aH csZ ⟨.ep v j,false,1,f+5,a⟩ γ (o.word:Int) w:=by
 intro N;induction N with
 |zero=>grind
 |succ N p=>
  intro γ o w hk d i a0;have n:o.k<256:=As;by_cases e:o.iN
  .refine apH G q t e n (λw' c h=>r w' c (ai.trans i h)) (λw' c l z C h3 g x u=>?_);have k:¬(l.mu.iN/\l.mu.fU=v):=by
    rcases d with d|⟨_,d⟩
    .exact Ds Y d z
    grind[apE]
   refine p c c.mu w' (R9 e9 u) (.inl (Ds Y k g)) (ai.trans i x) ?_;grind
  .have y:¬(γ.mu.iN/\γ.mu.fU=v):=d.resolve_right (λh=>e h.1);refine apG G (Je o) ?_ (λw' c h g=>s w' c (ai.trans i h) (Ds Y y g));by_cases B:o.k=0
   .grind
   .refine .inr ⟨AA,?_⟩;rw[Sr o n];have D:¬(o.L=false/\o.W=false/\o.S=false):=λh=>e ⟨h.1,h.2.1,h.2.2,As⟩;grind
end
def R8(m:bj)(hk:m.k<256)(a:m.L=false):IntKind.wrap .i32 ((m.word:Int)+1)=(({m with L:=true}:bj).word:Int):=by grind[Bool.toNat_le,IntKind.wrap_i32,bj.word]
section
variable{A:eR}{Stop:Bool->ah.Lo A.al->aV->Prop}{m:Bool}{mine:Nat->Prop}
def Jk{P:cg}{main:Bool}{b:Frame}{a:Act}{todo:List Item}{c:Frame}{cs:List Frame}{fn:Func}{K:Goroutine->aO->Array Event->Prop}(hn:b.kind=.deferred)(hd:a.defers=[])(e:P.funcs[b.fn]?=some fn)(d:fn.results=#[])(f:c.mode=.returning)(h:K (Conc.G c cs) w #[]):
 (stepG P main (Conc.G {b.at a todo with mode:=.returning} (c::cs)) w).goes K:=by
 simp_all[stepG_leave_deferred,results_none,events_results_none]
section
variable{a2:Frame}{aF:Act}{aD:Array Oper}{aI:Nat}{aL:List Nat}{aH:List Item}{csZ:List Frame}
def apK(G:A.Good){f v g:Nat}{a:A.al}(p:¬A.left a)(e9:A.most<=250)(t:∀b,A.K b\/mine b->b≠A.st)(j:o.L=false)(hS:o.S=false)(hk:o.k<=250)(q:∀w' c,ai (ak A) mine w0 w'->bh (ak A) prog Stop m ⟨.idle,false,1,f+1,a⟩ c ⟨Conc.G (a2.at (aF.put ((aD[aI]?).bind (·.dst)) (.tuple #[])) (.inRegion aD aL::aH)) csZ,w',mine⟩)(r:∀w' c,ai (ak A) mine w0 w'->¬(c.mu.iN/\c.mu.fU=v)->bh (ak A) prog Stop m ⟨.ep v g,false,1,f+5,a⟩ c ⟨Conc.G (a2.at (aF.put ((aD[aI]?).bind (·.dst)) (.tuple #[])) (.inRegion aD aL::aH)) csZ,w',mine⟩)(w:aO)(γ:ah.aN A.aJ)(s:ai (ak A) mine w0 w)(k:¬(γ.mu.iN/\γ.mu.fU=v)\/(o.iN/\g=o.word)):
 bh (ak A) prog Stop m ⟨.ep v g,false,1,f+5,a⟩ γ ⟨Conc.G ((base 131).at ⟨#[.pointer (some (ah.fN A)),.int .i32 (o.word:Int),undef,undef,undef,undef,undef,undef,undef,undef,undef,undef,undef,undef,undef,undef,undef,undef,undef,undef,undef,undef,undef,undef,undef,undef,undef,undef,undef,undef,undef,undef,undef,undef,undef,undef,undef,undef,undef,undef,undef,undef,undef],[]⟩ [.code (f131.body.getD .skip)]) (a2.at aF (.inRegion aD (aI::aL)::aH)::csZ),w,mine⟩:=by
 have hF:=s;have u:o.k<256:=As;have i:=λ(c:ah.aN A.aJ)(w':aO)(h:ai (ak A) mine w0 w')(y:¬(c.mu.iN/\c.mu.fU=v)\/(o.iN/\g=o.word))=>apI G p e9 t q r (c.a_*2+(if o.word=c.mu.word then 0 else 1)+1) c o w' hk y h KX;unfold Ac at i;have C:=R8 o u j;have B:bits .and .i32 (({o with L:=true}:bj).word:Int) 1=1:=by grind[Ts]
 have z:bits .and .i32 (o.word:Int) 4=0:=by grind[Jc]
 simp only[f131,Option.getD_some,dp]at i⊢;clear j hS;refine bk G ?_;repeat w_but "code.loop" ai.trans
 u_c stepG_loop ai.trans hF
 exact Goes.stop (λd e=>⟨Y,λx n=>i x d (ai.trans hF e) (k.imp (λh=>Ds (A:=A) (l:=⟨.ep v g,false,1,f+5,a⟩) Y h n) id) ..⟩)
def apL(G:A.Good){f:Nat}{a:A.al}(k:¬A.left a)(p:∀b,A.K b\/mine b->b≠A.st)(j:o.L=false)(hS:o.S=true)(hk:o.k<=250)(l:∀w' r,ai (ak A) mine w0 w'->bh (ak A) prog Stop m ⟨.idle,false,1,f+1,a⟩ r ⟨Conc.G (a2.at (aF.put ((aD[aI]?).bind (·.dst)) (.tuple #[])) (.inRegion aD aL::aH)) csZ,w',mine⟩)(w:aO)(γ:ah.aN A.aJ)(n:ai (ak A) mine w0 w):
 bh (ak A) prog Stop m ⟨.ps,false,1,f+2,a⟩ γ ⟨Conc.G ((base 131).at ⟨#[.pointer (some (ah.fN A)),.int .i32 (o.word:Int),undef,undef,undef,undef,undef,undef,undef,undef,undef,undef,undef,undef,undef,undef,undef,undef,undef,undef,undef,undef,undef,undef,undef,undef,undef,undef,undef,undef,undef,undef,undef,undef,undef,undef,undef,undef,undef,undef,undef,undef,undef],[]⟩ [.code (f131.body.getD .skip)]) (a2.at aF (.inRegion aD (aI::aL)::aH)::csZ),w,mine⟩:=by
 have hF:=n;have q:o.k<256:=As;have x:=R8 o q j;have v:bits .and .i32 (({o with L:=true}:bj).word:Int) 1=1:=by grind[Ts]
 have u:bits .and .i32 (o.word:Int) 4=4:=by grind[Jc]
 simp only[f131,Option.getD_some];clear j hS;refine bk G ?_;repeat w_go ai.trans
 refine dH Y hF λd c i t e h s g hF=>?_;refine Ni G g (y:=.idle) (m1:={h.mu with sema:=h.mu.sema+1}) (f1:=f+1) (stepG_semrelease (ad:=ah.ko A) Y Y BJ Y func152 Tv Nf Te Td (by simp[Act.eval,ah.fN,ah.ko]) (It g.mt.1) (pm g.mt.1 1 none)) (R_ g.sees) Y Y k (ak4 KX) A_ (.inl (mayWake_entry Y Y func152 Nf)) ?_;replace hF:=ai.trans hF (uR (A:=A) (mine:=mine) p e 1 none (.int .u32 ((h.mu.sema+1:Nat):Int)));clear g s t c;refine bk G ?_;walk_nrm
 repeat w_go ai.trans
 u_leave0 func131 ai.trans hF
 exact Goes.stop (λd c=>⟨Y,λi _=>l d i (ai.trans hF c)⟩)
end
def Tw(G:A.Good){f:Nat}{a:A.al}(r:¬A.left a)(e9:A.most<=250)(z:∀b,A.K b\/mine b->b≠A.st){c:Frame}{cs:List Frame}(C:c.mode=.returning)(P:(Conc.G c cs).status=.running)(U:∀w' S,ai (ak A) mine w0 w'->bh (ak A) prog Stop m ⟨.idle,false,0,f,a⟩ S ⟨Conc.G c cs,w',mine⟩)(w:aO)(γ:ah.aN A.aJ)(Q:ai (ak A) mine w0 w):
 bh (ak A) prog Stop m ⟨.own,true,0,f+8,a⟩ γ ⟨Conc.G ((baseD 93).at ⟨#[.pointer (some (ah.fN A)),undef,undef,undef,undef,undef],[]⟩ [.code (f93.body.getD .skip)]) (c::cs),w,mine⟩:=by
 have hF:=Q;simp only[f93,Option.getD_some];refine bk G ?_;repeat w_go ai.trans
 u_call func117 S2 f117 ai.trans hF
 repeat w_go ai.trans
 refine dH Y hF λk d v o j g n i hF=>?_;refine lz (z_ Y Y BJ Y Y (ly i.mt.1) SQ) Y Y (.refl _) Y Y ?_;clear i n o d;refine bk G ?_;walk_nrm
 repeat w_go ai.trans
 refine dH Y hF λk d v o j g n i hF=>?_;refine lz (F7 Y Y BJ Y Y (ly i.mt.1)) Y Y (.refl _) Y Y ?_;clear i n o d;refine bk G ?_;walk_nrm
 repeat w_go ai.trans
 refine dH Y hF λk d v o j g n i hF=>?_;refine ala G i (f1:=f+7) (stepG_markAt .releaseMerge A_ Y Y BJ Y func72 Ti Tj Tk Tl B4) Y r Y Y KX ?_;clear i n o d;refine bk G ?_;walk_nrm
 repeat w_go ai.trans
 refine dH Y hF λk d v o j g n i hF=>?_;refine rU (d1:=1) G i Kg (stepG_mark0 .disable A_ Y Y BJ Y func73 Cq Cr Cs Ct) Y r (rS (f1:=f+6) KX _) A_ Y ?_;clear i n o d;refine bk G ?_;walk_nrm
 repeat w_go ai.trans
 refine dH Y hF λk d v o j g n i hF=>?_;have hk:g.mu.k<=250:=R9 e9 i.sees;have R:g.mu.k<256:=As;have B:g.mu.L=true:=by obtain⟨ls,dM,hi,hg⟩:=i.sees;exact hg.lx.LZ (Fy hi)
 have s:=apr g.mu R B;cases hS:g.mu.S with
 |true=>
  refine Ab G i (y:=.ps) (m1:={g.mu with L:=false}) (f1:=f+2) (stepG_add_atomic Y Y BJ Y func130 I5 I6 I7 .i32 I8 Y Y (ly i.mt.1) (pm i.mt.1 0 none)) s Y A_ Y r (akY hS A_) A_ ?_;rw[s];replace hF:=ai.trans hF (uR (A:=A) (mine:=mine) z j 0 none (.int .i32 (({g.mu with L:=false}:bj).word:Int)));have p:((({g.mu with L:=false}:bj).word:Int) != 0)=true:=by
   have:({g.mu with L:=false}:bj).word≠0:=λe=>by have:=(Tr e).2.2.1;grind
   grind
  clear s B;generalize F:({g.mu with L:=false}:bj)=H at p hF⊢;clear i n o d;refine bk G ?_;walk_nrm
  repeat w_go ai.trans
  u_call func131 SH f131 ai.trans hF
  refine Goes.stop (λq x=>⟨Y,λD _=>apL G r z AA AA AA (λt J u=>?_) q D (ai.refl _ _ _)⟩);replace hF:=ai.trans hF (ai.trans x u);clear x u p;refine bk G ?_;walk_nrm
  repeat w_go ai.trans
  refine dH Y hF λk d v o j g n i hF=>?_;refine rU (d1:=0) G i K1 (stepG_mark0 .enable A_ Y Y BJ Y func74 qy qz qA qB) Y r (rS (f1:=f) KX _) A_ Y ?_;clear i n o d;refine bk G ?_;walk_nrm
  repeat w_go ai.trans
  u_leave0 func117 ai.trans hF
  repeat w_go ai.trans
  u_in ai.trans hF
  refine Jk Y Y func93 Y C ⟨E4,?_⟩;grind[Goes.stop,ai.trans]
 |false=>
  by_cases h0:({g.mu with L:=false}:bj).word=0
  .have K:g.mu.k=0:=(Tr h0).2.2.2;refine Ab G i (y:=.idle) (m1:={g.mu with L:=false}) (f1:=f+5) (stepG_add_atomic Y Y BJ Y func130 I5 I6 I7 .i32 I8 Y Y (ly i.mt.1) (pm i.mt.1 0 none)) s Y A_ Y r (akZ hS K KX) A_ ?_;rw[s,h0];replace hF:=ai.trans hF (uR (A:=A) (mine:=mine) z j 0 none (.int .i32 ((0:Nat):Int)));clear s B h0 K;clear i n o d;refine bk G ?_;walk_nrm
   repeat w_go ai.trans
   refine dH Y hF λk d v o j g n i hF=>?_;refine rU (d1:=0) G i K1 (stepG_mark0 .enable A_ Y Y BJ Y func74 qy qz qA qB) Y r (rS (f1:=f) A_ _) A_ Y ?_;clear i n o d;refine bk G ?_;walk_nrm
   repeat w_go ai.trans
   u_leave0 func117 ai.trans hF
   repeat w_go ai.trans
   u_in ai.trans hF
   refine Jk Y Y func93 Y C ⟨E4,?_⟩;grind[Goes.stop,ai.trans]
  .refine Ab G i (y:=.ep (g.mu.fU+1) ({g.mu with L:=false}:bj).word) (m1:={g.mu with L:=false,fU:=g.mu.fU+1}) (f1:=f+5) (stepG_add_atomic Y Y BJ Y func130 I5 I6 I7 .i32 I8 Y Y (ly i.mt.1) (pm i.mt.1 0 none)) s Y A_ Y r (ak0 hS KX) A_ ?_;rw[s];replace hF:=ai.trans hF (uR (A:=A) (mine:=mine) z j 0 none (.int .i32 (({g.mu with L:=false}:bj).word:Int)));have M:¬(({g.mu with L:=false,fU:=g.mu.fU+1}:bj).iN/\({g.mu with L:=false,fU:=g.mu.fU+1}:bj).fU=g.mu.fU+1)\/(({g.mu with L:=false}:bj).iN/\({g.mu with L:=false}:bj).word=({g.mu with L:=false}:bj).word):=by
    by_cases O:({g.mu with L:=false}:bj).iN
    .grind
    .exact .inl λh=>O h.1
   have p:((({g.mu with L:=false}:bj).word:Int) != 0)=true:=AA;clear s B h0;show bh (ak A) prog Stop m _ _ ⟨_,j.setCell (ah.fN A) (.int .i32 (({g.mu with L:=false}:bj).word:Int)),_⟩;generalize F:({g.mu with L:=false}:bj)=H at p hF M⊢;clear i n o d;refine bk G ?_;walk_nrm
   repeat w_go ai.trans
   u_call func131 SH f131 ai.trans hF
   refine Goes.stop (λq x=>⟨Y,λD N=>apK G r e9 z AA AA AA (λt J u=>?_) (λt J u E=>?_) q D (ai.refl _ _ _) (M.imp (λh=>Ds (A:=A) (l:=⟨.ep (g.mu.fU+1) H.word,false,1,f+5,a⟩) Y h N) id)⟩);focus
    replace hF:=ai.trans hF (ai.trans x u);clear x u p;refine bk G ?_;walk_nrm
    repeat w_go ai.trans
    refine dH Y hF λk d v o j g n i hF=>?_;refine rU (d1:=0) G i K1 (stepG_mark0 .enable A_ Y Y BJ Y func74 qy qz qA qB) Y r (rS (f1:=f) KX _) A_ Y ?_
   rotate_left
   focus
    replace hF:=ai.trans hF (ai.trans x u);clear x u p;refine bk G ?_;walk_nrm
    repeat w_go ai.trans
    refine dH Y hF λk d v o I T n i hF=>?_;refine rU (d1:=0) G i K1 (stepG_mark0 .enable A_ Y Y BJ Y func74 qy qz qA qB) Y r (ak2 (f1:=f) (Ds (A:=A) Y (Ds (A:=A) (l:=⟨.ep (g.mu.fU+1) H.word,false,1,f+5,a⟩) Y E o) n) A_) A_ Y ?_
   rotate_left
   all_goals
    clear i n o d;refine bk G ?_;walk_nrm
    repeat w_go ai.trans
    u_leave0 func117 ai.trans hF
    repeat w_go ai.trans
    u_in ai.trans hF
    refine Jk Y Y func93 Y C ⟨E4,?_⟩;grind[Goes.stop,ai.trans]
end
end bO
end Go.Proofs.YtncomcmfgmojkaaGreat
