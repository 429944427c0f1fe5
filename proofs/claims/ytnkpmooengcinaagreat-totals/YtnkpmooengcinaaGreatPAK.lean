import Derived.Test.YtnkpmooengcinaaGreatPAG
set_option linter.all false
set_option maxRecDepth 100000
set_option maxHeartbeats 16000000
namespace Go.Proofs.YtnkpmooengcinaaGreat
open Go.Proofs.Tryz
namespace bM
open Conc RowKit Conc.Lib ConcR.Gen ConcM av bn ae
def RK{A:e5}{l:ae.Lo A.ao}{γ:ae.aM A.aN}(h:g8 (ak A) l γ):l.fuel<=γ.a4:=by obtain⟨ls,i,hi,hg⟩:∃(ls:List (ae.Lo A.ao))(i:Nat),ls[i]?=some l/\r4 A γ ls:=h;have:=Ls (ls.map (·.fuel)) i l.fuel AN;have:=hg.g_;omega
theorem Ze{A:e5}(eR:A.most<256){l:ae.Lo A.ao}{γ:ae.aM A.aN}(h:g8 (ak A) l γ):γ.mu.k<256:=by obtain⟨ls,i,hi,hg⟩:=h;have b:=hg.lP.Lp;have a:=hg.len;grind
theorem My{A:e5}{l:ae.Lo A.ao}{γ:ae.aM A.aN}(h:g8 (ak A) l γ)(a:l.mx=.iZ):γ.mu.S=false/\γ.mu.W=true:=by obtain⟨ls,i,hi,hg⟩:=h;have:=hg.lP.WT (i:=i) AN;grind
def amU{A:e5}{l:ae.Lo A.ao}{γ:ae.aM A.aN}(h:g8 (ak A) l γ)(a:l.mx=.hand):γ.mu.S=true/\γ.mu.L=false/\γ.mu.W=false/\1<=γ.mu.k:=by obtain⟨ls,i,hi,hg⟩:=h;have:=hg.lP.HR (i:=i) AN;grind
variable{n:bh}
def yT{m:bh}(h:m.word=n.word):m.L=n.L/\m.W=n.W/\m.S=n.S/\m.k=n.k:=by have a1:m.L.toNat<=1:=vaw _;have i:m.W.toNat<=1:=vaw _;have f:m.S.toNat<=1:=vaw _;have b1:n.L.toNat<=1:=vaw _;have j:n.W.toNat<=1:=vaw _;have g:n.S.toNat<=1:=vaw _;unfold bh.word at h;have e:m.L.toNat=n.L.toNat:=AY;have d:m.W.toNat=n.W.toNat:=AY;have c:m.S.toNat=n.S.toNat:=AY;have key:∀a b:Bool,a.toNat=b.toNat->a=b:=AX;grind
variable{o:bh}{cA it old:Int}{w:aH}
section
variable{A:e5}{Stop:Bool->ae.Lo A.ao->aV->Prop}{m:Bool}{mine:c5}
variable{aY:Frame}{aF:Act}{az:eQ}{aI:Nat}{aK:uag}{aG:uab}{csZ:fA}
def amV(G:A.Good){f:Nat}{a:A.ao}{γ:ae.aM A.aN}{sv aw:Bool}(d:¬A.left a)(eR:A.most<256)(j:∀b,A.K b\/mine b->b≠A.st)(hs:g8 (ak A) ⟨.hand,false,1,f+3,a⟩ γ)(e:Behind A Stop m mine aY aF az aI aK aG csZ f a w):Df A Stop m mine aY aF az aI aK aG csZ ⟨.hand,false,1,f+3,a⟩ γ cA sv aw it (γ.mu.word:Int) w:=by
 have hk:=Ze eR hs;obtain⟨l,o,k,n⟩:=amU hs U;have g:bits .and .i32 (γ.mu.word:Int) 4=4:=by grind[IT]
 have h:bits .and .i32 (γ.mu.word:Int) 3=0:=by grind[amI]
 have i:=IV γ.mu;have c:(((γ.mu.k:Nat):Int)==0)=false:=AN;refine amT G (!sv||γ.mu.k==1) ?_ d eR g h i c j e;cases sv<;>grind
def amW(G:A.Good){f:Nat}{a:A.ao}{γ:ae.aM A.aN}{sv aw:Bool}(o:¬A.left a)(eR:A.most<256)(v:∀b,A.K b\/mine b->b≠A.st)(E:∀w' g k,g.a4<γ.a4->ai (ak A) mine w w'->g8 (ak A) ⟨.iZ,false,1,f+3,a⟩ g->pJ A Stop m mine aY aF az aI aK aG csZ ⟨.iZ,false,1,f+3,a⟩ g cA k true 0 (g.mu.word:Int) w')(D:Behind A Stop m mine aY aF az aI aK aG csZ f a w):Mw A Stop m mine aY aF az aI aK aG csZ ⟨.jS,false,1,f+2,a⟩ γ cA sv aw it old w:=by
 unfold Mw;intros
 have hF:=ai.refl (ak A) mine w;refine bd.mk U (λj d I c=>?_);replace hF:=ai.trans hF (dI.rw c);have F:d.a4<=γ.a4:=by grind
 have H:f+2<=d.a4:=RK c.sees;by_cases h0:d.mu.sema=0
 .refine .wait (stepG_semacquire_wait (ad:=ae.kL A) U U U func139 RD RE RF RG BF ?_) U (.inl ⟨U,h0⟩) I3;have:=HU c.mt.1;grind
 have x:((d.mu.sema:Nat):Int)-1=((d.mu.sema-1:Nat):Int):=AY;have s:=vl (A:=A) (mine:=mine) v j 1 none (.int .u32 ((d.mu.sema-1:Nat):Int));cases t:d.mu.S with
 |false=>
  refine Mx G c (y:=.iZ) (m1:={d.mu with sema:=d.mu.sema-1}) (f1:=f+3) (stepG_semacquire U U Ad U func139 RD RE RF RG BF (HU c.mt.1) AY (pn c.mt.1 1 none)) x U U o (aju t AY Ab) Ab (.inr AY) ?_;clear c;refine a8 G ?_;replace hF:=ai.trans hF s;u_c vdn ai.trans hF
  refine vaf (λi l=>⟨U,λu z=>?_⟩);replace hF:=ai.trans hF l;have C:u.a4<γ.a4:=by grind
  exact Zd G (λw' g k r p n=>amS G (by grind[IT,Ze,My]) (λw'' q=>E w'' g k (r.elim (λe=>AN) (λe=>Nat.lt_trans e C)) (ai.trans hF (ai.trans p q)) n)) ..
 |true=>
  refine Mx G c (y:=.hand) (m1:={d.mu with sema:=d.mu.sema-1}) (f1:=f+3) (stepG_semacquire U U Ad U func139 RD RE RF RG BF (HU c.mt.1) AY (pn c.mt.1 1 none)) x U U o (ajv t AY Ab) Ab (.inr AY) ?_;clear c;refine a8 G ?_;replace hF:=ai.trans hF s;u_c vdn ai.trans hF
  refine vaf (λi l=>⟨U,λu z=>?_⟩);replace hF:=ai.trans hF l;exact Zd G (λw' g k r p n=>amV G o eR v n (λw'' B q=>D w'' B (ai.trans hF (ai.trans p q)))) ..
def FF(G:A.Good){f g_:Nat}{x y:bT}{a:A.ao}{γ:ae.aM A.aN}{new:Int}{sv aw:Bool}(q:¬A.left a)(u:∀b,A.K b\/mine b->b≠A.st)(D:1<=g_)(i:bh->bh)(ht:∀mu:bh,mu.word=o.word->lr x y mu (i mu) g_ (f+2)/\((i mu).word:Int)=new/\(i mu).sema=mu.sema)(z:∀w' e,e.a4<γ.a4->ai (ak A) mine w w'->vj A Stop m mine aY aF az aI aK aG csZ ⟨y,false,1,f+2,a⟩ e cA sv aw it (o.word:Int) true w')(B:∀w' e,(e=γ\/e.a4<γ.a4)->e.mu.word≠o.word->ai (ak A) mine w w'->vj A Stop m mine aY aF az aI aK aG csZ ⟨x,false,1,g_,a⟩ e cA sv aw it (o.word:Int) false w'):
 IS A Stop m mine aY aF az aI aK aG csZ ⟨x,false,1,g_,a⟩ γ cA sv aw it (o.word:Int) new w:=by
 unfold IS;intros
 have hF:=ai.refl (ak A) mine w;refine bd.mk U (λh g v d=>?_);replace hF:=ai.trans hF (dI.rw d);have p:=(df G).less _ _ _ v;have C:g_<=g.a4:=RK d.sees;by_cases k:g.mu.word=o.word
 .obtain⟨t,s,r⟩:=ht g.mu k;have hcell:=lu d.mt.1;rw[k]at hcell;refine An G d (y:=y) (m1:=i g.mu) (f1:=f+2) (stepG_cas_hit U U Ad U func117 yc yd ye .i32 yf U U U hcell (pn d.mt.1 0 none)) s.symm U Ab r q t Ab ?_;replace hF:=ai.trans hF (vl (A:=A) (mine:=mine) u h 0 none (.int .i32 ((i g.mu).word:Int)));clear d;refine a8 G ?_;u_c vdn ai.trans hF
  refine vaf (λc j=>⟨U,λn l=>?_⟩);exact z c n (by
   grind) (ai.trans hF j) ..
 .refine Lv (stepG_cas_miss U U Ad U func117 yc yd ye .i32 yf U U U (lu d.mt.1) (pn d.mt.1 0 none) AY) U Ab ?_;clear d;refine a8 G ?_;u_c vdn ai.trans hF
  exact vaf (λc j=>⟨U,λn l=>(B c g p k (ai.trans hF j) ..).kG (df G) l⟩)
end
def Ao(A:e5)(Stop:Bool->ae.Lo A.ao->aV->Prop)(m:Bool)(mine:c5)(aY:Frame)(aF:Act)(az:eQ)(aI:Nat)(aK:uag)(aG:uab)(csZ:fA)(l:ae.Lo A.ao)(γ:ae.aM A.aN)(old:Int)(w:aH):Prop:=
 ∀(cK c_ hX hY yU qz e9 e_ fa fb fc fd qA qB fD fm fo fp iP fq f_ ga gb uT uU uV uW uX uY uZ u9 u_ va vb vc vd ve vf vg vh vi:Value),bd (ak A) prog Stop m l γ ⟨Conc.G ((base 120).at ⟨#[.pointer (some (ae.fI A)),cK,c_,hX,.int .i32 old,hY,yU,qz,e9,e_,fa,fb,fc,fd,qA,qB,fD,fm,fo,fp,iP,fq,f_,ga,gb,uT,uU,uV,uW,uX,uY,uZ,u9,u_,va,vb,vc,vd,ve,vf,vg,vh,vi],[]⟩ [.code ((dA (f120.body.getD .skip)).getD .skip),.inLoop ((dA (f120.body.getD .skip)).getD .skip),.inBlock 0]) (aY.at aF (.inRegion az (aI::aK)::aG)::csZ),w,mine⟩
def Dh{A:e5}{l:ae.Lo A.ao}{γ a:ae.aM A.aN}{v o:Nat}(b:l.mx=.eF v o)(h:¬(γ.mu.jj/\γ.mu.gw=v))(c:(ak A).dH l γ a):¬(a.mu.jj/\a.mu.gw=v):=by
 rcases c with rfl|⟨_,_,d⟩
 .exact h
 .exact d.2 v o b h
def Zf{A:e5}{l:ae.Lo A.ao}{γ:ae.aM A.aN}(h:g8 (ak A) l γ):IntKind.u32.wrap ((γ.mu.sema:Int)+1)=((γ.mu.sema+1:Nat):Int):=by
 obtain⟨ls,i,hi,hg⟩:=h;have c:γ.mu.sema<=1:=by have b:γ.mu.W.toNat<=1:=vaw _;cases a:γ.mu.S with|false=>have:=hg.lP.nm a;omega|true=>have:=hg.lP.st a;omega
 rw[IntKind.wrap_u32];omega
theorem amY{A:e5}{l:ae.Lo A.ao}{γ:ae.aM A.aN}{v o:Nat}(h:g8 (ak A) l γ)(d:l.mx=.eF v o)(a:γ.mu.word≠o):¬(γ.mu.jj/\γ.mu.gw=v):=by obtain⟨ls,i,hi,hg⟩:=h;rintro⟨c,b⟩;exact a ((hg.lP.eF i v o AN).2 b.symm c).symm
def Zg{A:e5}(eR:A.most<=250){l:ae.Lo A.ao}{γ:ae.aM A.aN}(h:g8 (ak A) l γ):γ.mu.k<=250:=by obtain⟨ls,i,hi,hg⟩:=h;have b:=hg.lP.Lp;have a:=hg.len;grind
def amZ{m:bh}(h:m.word=n.word)(a:n.jj):m.jj:=by obtain⟨e,d,c,b⟩:=yT h;exact⟨e.trans a.1,d.trans a.2.1,c.trans a.2.2.1,by rw[b];exact a.2.2.2⟩
variable{w0:aH}
section
variable{A:e5}{Stop:Bool->ae.Lo A.ao->aV->Prop}{m:Bool}{mine:c5}
variable{aY:Frame}{aF:Act}{az:eQ}{aI:Nat}{aK:uag}{aG:uab}{csZ:fA}
def am0(G:A.Good){l:ae.Lo A.ao}{γ:ae.aM A.aN}{kk:Int}(hk:old / 8=kk)(c:(kk==0)=true\/((kk==0)=false/\(bits .and .i32 old 7 != 0)=true))(f:∀w' d,ai (ak A) mine w w'->(ak A).dH l γ d->bd (ak A) prog Stop m l d ⟨Conc.G (aY.at (aF.put ((az[aI]?).bind (·.dst)) (.tuple #[])) (.inRegion az aK::aG)) csZ,w',mine⟩):
 Ao A Stop m mine aY aF az aI aK aG csZ l γ old w:=by
 unfold Ao;intros
 have hF:=ai.refl (ak A) mine w;simp only[f120,vah,dA];refine a8 G ?_;rcases c with c|⟨h0,c⟩;all_goals
  repeat w_go ai.trans
  u_leave0 func120 ai.trans hF
  exact vaf (λa b=>⟨U,λg e=>f a g (ai.trans hF b) e⟩)
def am1(G:A.Good){f v l:Nat}{a:A.ao}{γ:ae.aM A.aN}(z:¬A.left a)(B:∀b,A.K b\/mine b->b≠A.st)(n:o.jj)(hok:o.k<256)(hI:∀w' p,ai (ak A) mine w w'->bd (ak A) prog Stop m ⟨.idle,false,1,f+1,a⟩ p ⟨Conc.G (aY.at (aF.put ((az[aI]?).bind (·.dst)) (.tuple #[])) (.inRegion az aK::aG)) csZ,w',mine⟩)(x:∀w' p t,(ak A).dH ⟨.eF v l,false,1,f+5,a⟩ γ t->t.mu.word≠o.word->g8 (ak A) ⟨.eF v l,false,1,f+5,a⟩ t->(ak A).dH ⟨.eF v l,false,1,f+5,a⟩ t p->ai (ak A) mine w w'->g8 (ak A) ⟨.eF v l,false,1,f+5,a⟩ p->Ao A Stop m mine aY aF az aI aK aG csZ ⟨.eF v l,false,1,f+5,a⟩ p (p.mu.word:Int) w'):
 Ao A Stop m mine aY aF az aI aK aG csZ ⟨.eF v l,false,1,f+5,a⟩ γ (o.word:Int) w:=by
 unfold Ao;intros
 unfold Ao at x;have hF:=ai.refl (ak A) mine w;have hk:=IV o;have J:(((o.k:Nat):Int)==0)=false:=by have:=n.2.2.2;grind
 have K:(bits .and .i32 (o.word:Int) 7 != 0)=false:=by rw[Za o hok,n.1,n.2.1,n.2.2.1];rfl
 have I:=amN o hok n.2.2.2;have L:=Zb ({o with k:=o.k-1}:bh) AN;simp only[f120,vah,dA]at x⊢;refine a8 G ?_;repeat w_go ai.trans
 refine dO U hF λd c s h q i j e hF=>?_;have E:=(df G).trans _ _ _ _ h j;by_cases u:i.mu.word=o.word
 .have hcell:=lu e.mt.1;rw[u]at hcell;obtain⟨P,O,N,M⟩:=yT u;have hv:(({o with k:=o.k-1,W:=true}:bh).word:Int)=(({i.mu with k:=i.mu.k-1,W:=true}:bh).word:Int):=by grind[bh.word]
  refine An G e (y:=.fj) (m1:={i.mu with k:=i.mu.k-1,W:=true}) (f1:=f+2) (stepG_cas_hit U U Ad U func117 yc yd ye .i32 yf U U U hcell (pn e.mt.1 0 none)) hv U Ab U z (ajA (amZ u n) Ab) Ab ?_;replace hF:=ai.trans hF (vl (A:=A) (mine:=mine) B q 0 none (.int .i32 (({i.mu with k:=i.mu.k-1,W:=true}:bh).word:Int)));clear e j h c x;refine a8 G ?_;walk_nrm
  repeat w_go ai.trans
  refine dO U hF λd c s h g r j e hF=>?_;refine Mx G e (y:=.idle) (m1:={r.mu with sema:=r.mu.sema+1}) (f1:=f+1) (stepG_semrelease (ad:=ae.kL A) U U Ad U func141 YZ Mu Y0 Y1 (by simp[Act.eval,ae.fI,ae.kL]) (HU e.mt.1) (pn e.mt.1 1 none)) ?_ U U z (ajC IY) Ab (.inl ?_) ?_
  .exact Zf e.sees
  .exact mayWake_entry U U func141 Mu
  replace hF:=ai.trans hF (vl (A:=A) (mine:=mine) B g 1 none (.int .u32 ((r.mu.sema+1:Nat):Int)));clear e j h c;refine a8 G ?_;walk_nrm
  repeat w_go ai.trans
  u_leave0 func120 ai.trans hF
  exact vaf (λd c=>⟨U,λs _=>hI d s (ai.trans hF c)⟩)
 .have D:=e.sees;refine Lv (stepG_cas_miss U U Ad U func117 yc yd ye .i32 yf U U U (lu e.mt.1) (pn e.mt.1 0 none) AY) U Ab ?_;clear e j h c;refine a8 G ?_;walk_nrm
  repeat w_go ai.trans
  refine dO U hF λd c s h g r j e hF=>?_;have F:=(df G).trans _ _ _ _ h j;have C:=e.sees;refine lv (Al U U Ad U U (lu e.mt.1) amw) U U (.refl _) U U ?_;clear e j h c;refine a8 G ?_;walk_nrm
  repeat w_nl ai.trans
  u_c stepG_inLoop ai.trans hF
  exact vaf (λd c=>⟨U,λs H=>(x d r i E u D F (ai.trans hF c) C ..).kG (df G) H⟩)
def am2(G:A.Good){f v e:Nat}{a:A.ao}(r:¬A.left a)(eR:A.most<=250)(t:∀b,A.K b\/mine b->b≠A.st)(hI:∀w' c,ai (ak A) mine w0 w'->bd (ak A) prog Stop m ⟨.idle,false,1,f+1,a⟩ c ⟨Conc.G (aY.at (aF.put ((az[aI]?).bind (·.dst)) (.tuple #[])) (.inRegion az aK::aG)) csZ,w',mine⟩)(s:∀w' c,ai (ak A) mine w0 w'->¬(c.mu.jj/\c.mu.gw=v)->bd (ak A) prog Stop m ⟨.eF v e,false,1,f+5,a⟩ c ⟨Conc.G (aY.at (aF.put ((az[aI]?).bind (·.dst)) (.tuple #[])) (.inRegion az aK::aG)) csZ,w',mine⟩):
 ∀(N:Nat)(γ:ae.aM A.aN)(o:bh)(w:aH),o.k<=250->(¬(γ.mu.jj/\γ.mu.gw=v)\/(o.jj/\e=o.word))->ai (ak A) mine w0 w->γ.a4*2+(if o.word=γ.mu.word then 0 else 1)<N->Ao A Stop m mine aY aF az aI aK aG csZ ⟨.eF v e,false,1,f+5,a⟩ γ (o.word:Int) w:=by
 intro N;induction N with
 |zero=>grind
 |succ N q=>
  intro γ o w hk d j a5;have n:o.k<256:=AY;by_cases g:o.jj
  .refine am1 G r t g n (λw' c h=>hI w' c (ai.trans j h)) (λw' c l y C B i x u=>?_);have k:¬(l.mu.jj/\l.mu.gw=v):=by
    rcases d with d|⟨_,d⟩
    .exact Dh U d y
    grind[amY]
   refine q c c.mu w' (Zg eR u) (.inl (Dh U k i)) (ai.trans j x) ?_;grind
  .have p:¬(γ.mu.jj/\γ.mu.gw=v):=d.resolve_right (λh=>g h.1);refine am0 G (IV o) ?_ (λw' c h i=>s w' c (ai.trans j h) (Dh U p i));by_cases z:o.k=0
   .grind
   .refine .inr ⟨AN,?_⟩;rw[Za o n];have D:¬(o.L=false/\o.W=false/\o.S=false):=λh=>g ⟨h.1,h.2.1,h.2.2,AY⟩;grind
end
def Zh(m:bh)(hk:m.k<256)(a:m.L=false):IntKind.wrap .i32 ((m.word:Int)+1)=(({m with L:=true}:bh).word:Int):=by grind[Bool.toNat_le,IntKind.wrap_i32,bh.word]
section
variable{A:e5}{Stop:Bool->ae.Lo A.ao->aV->Prop}{m:Bool}{mine:c5}
def I1{P:ck}{main:Bool}{b:Frame}{a:Act}{todo:uab}{c:Frame}{cs:fA}{fn:Func}{K:Goroutine->aH->Array Event->Prop}(hn:b.kind=.deferred)(hd:a.defers=[])(e:P.funcs[b.fn]?=some fn)(d:fn.results=#[])(f:c.mode=.returning)(h:K (Conc.G c cs) w #[]):
 (stepG P main (Conc.G {b.at a todo with mode:=.returning} (c::cs)) w).goes K:=by
 simp_all[stepG_leave_deferred,results_none,events_results_none]
section
variable{aY:Frame}{aF:Act}{az:eQ}{aI:Nat}{aK:uag}{aG:uab}{csZ:fA}
def am4(G:A.Good){f v g:Nat}{a:A.ao}(q:¬A.left a)(eR:A.most<=250)(u:∀b,A.K b\/mine b->b≠A.st)(j:o.L=false)(r:o.S=false)(hk:o.k<=250)(hI:∀w' c,ai (ak A) mine w0 w'->bd (ak A) prog Stop m ⟨.idle,false,1,f+1,a⟩ c ⟨Conc.G (aY.at (aF.put ((az[aI]?).bind (·.dst)) (.tuple #[])) (.inRegion az aK::aG)) csZ,w',mine⟩)(s:∀w' c,ai (ak A) mine w0 w'->¬(c.mu.jj/\c.mu.gw=v)->bd (ak A) prog Stop m ⟨.eF v g,false,1,f+5,a⟩ c ⟨Conc.G (aY.at (aF.put ((az[aI]?).bind (·.dst)) (.tuple #[])) (.inRegion az aK::aG)) csZ,w',mine⟩)(w:aH)(γ:ae.aM A.aN)(t:ai (ak A) mine w0 w)(n:¬(γ.mu.jj/\γ.mu.gw=v)\/(o.jj/\g=o.word)):
 bd (ak A) prog Stop m ⟨.eF v g,false,1,f+5,a⟩ γ ⟨Conc.G ((base 120).at ⟨#[.pointer (some (ae.fI A)),.int .i32 (o.word:Int),.U,.U,.U,.U,.U,.U,.U,.U,.U,.U,.U,.U,.U,.U,.U,.U,.U,.U,.U,.U,.U,.U,.U,.U,.U,.U,.U,.U,.U,.U,.U,.U,.U,.U,.U,.U,.U,.U,.U,.U,.U],[]⟩ [.code (f120.body.getD .skip)]) (aY.at aF (.inRegion az (aI::aK)::aG)::csZ),w,mine⟩:=by
 have hF:=t;have x:o.k<256:=AY;have i:=λ(c:ae.aM A.aN)(w':aH)(h:ai (ak A) mine w0 w')(k:¬(c.mu.jj/\c.mu.gw=v)\/(o.jj/\g=o.word))=>am2 G q eR u hI s (c.a4*2+(if o.word=c.mu.word then 0 else 1)+1) c o w' hk k h IY;unfold Ao at i;have C:=Zh o x j;have B:bits .and .i32 (({o with L:=true}:bh).word:Int) 1=1:=by grind[RI]
 have z:bits .and .i32 (o.word:Int) 4=0:=by grind[IT]
 simp only[f120,vah,dA]at i⊢;clear j r;refine a8 G ?_;repeat w_but "code.loop" ai.trans
 u_c stepG_loop ai.trans hF
 exact vaf (λd e=>⟨U,λy p=>i y d (ai.trans hF e) (n.imp (λh=>Dh (A:=A) (l:=⟨.eF v g,false,1,f+5,a⟩) U h p) id) ..⟩)
def am5(G:A.Good){f:Nat}{a:A.ao}(k:¬A.left a)(p:∀b,A.K b\/mine b->b≠A.st)(j:o.L=false)(l:o.S=true)(hk:o.k<=250)(hI:∀w' s,ai (ak A) mine w0 w'->bd (ak A) prog Stop m ⟨.idle,false,1,f+1,a⟩ s ⟨Conc.G (aY.at (aF.put ((az[aI]?).bind (·.dst)) (.tuple #[])) (.inRegion az aK::aG)) csZ,w',mine⟩)(w:aH)(γ:ae.aM A.aN)(n:ai (ak A) mine w0 w):
 bd (ak A) prog Stop m ⟨.ps,false,1,f+2,a⟩ γ ⟨Conc.G ((base 120).at ⟨#[.pointer (some (ae.fI A)),.int .i32 (o.word:Int),.U,.U,.U,.U,.U,.U,.U,.U,.U,.U,.U,.U,.U,.U,.U,.U,.U,.U,.U,.U,.U,.U,.U,.U,.U,.U,.U,.U,.U,.U,.U,.U,.U,.U,.U,.U,.U,.U,.U,.U,.U],[]⟩ [.code (f120.body.getD .skip)]) (aY.at aF (.inRegion az (aI::aK)::aG)::csZ),w,mine⟩:=by
 have hF:=n;have q:o.k<256:=AY;have x:=Zh o q j;have v:bits .and .i32 (({o with L:=true}:bh).word:Int) 1=1:=by grind[RI]
 have u:bits .and .i32 (o.word:Int) 4=4:=by grind[IT]
 simp only[f120,vah];clear j l;refine a8 G ?_;repeat w_go ai.trans
 refine dO U hF λd c i r e h t g hF=>?_;refine Mx G g (y:=.idle) (m1:={h.mu with sema:=h.mu.sema+1}) (f1:=f+1) (stepG_semrelease (ad:=ae.kL A) U U Ad U func141 YZ Mu Y0 Y1 (by simp[Act.eval,ae.fI,ae.kL]) (HU g.mt.1) (pn g.mt.1 1 none)) (Zf g.sees) U U k (ajD IY) Ab (.inl (mayWake_entry U U func141 Mu)) ?_;replace hF:=ai.trans hF (vl (A:=A) (mine:=mine) p e 1 none (.int .u32 ((h.mu.sema+1:Nat):Int)));clear g t r c;refine a8 G ?_;walk_nrm
 repeat w_go ai.trans
 u_leave0 func120 ai.trans hF
 exact vaf (λd c=>⟨U,λi _=>hI d i (ai.trans hF c)⟩)
end
def Mz(G:A.Good){f F:Nat}(Y:f+8<=F){a' a:A.ao}(s:¬A.left a)(X:A.past a=A.past a')(eR:A.most<=250)(B:∀b,A.K b\/mine b->b≠A.st){c:Frame}{cs:fA}(I:c.mode=.returning)(U:(Conc.G c cs).status=.running)(hT:∀w' C,ai (ak A) mine w0 w'->bd (ak A) prog Stop m ⟨.idle,false,0,f,a⟩ C ⟨Conc.G c cs,w',mine⟩)(w:aH)(γ:ae.aM A.aN)(V:ai (ak A) mine w0 w)(P:∀C,(ak A).dH (⟨.own,true,0,F,a'⟩:ae.Lo A.ao) γ C->∀(xs:List A.ao)(i:Nat),xs[i]?=some a'->A.tf C.aj xs->A.tf C.aj (xs.set i a)):
 bd (ak A) prog Stop m ⟨.own,true,0,F,a'⟩ γ ⟨Conc.G ((baseD 82).at ⟨#[.pointer (some (ae.fI A)),.U,.U,.U,.U,.U],[]⟩ [.code (f82.body.getD .skip)]) (c::cs),w,mine⟩:=by
 have hF:=V;simp only[f82,vah];refine a8 G ?_;repeat w_go ai.trans
 u_call func106 Y4 f106 ai.trans hF
 repeat w_go ai.trans
 refine dO rfl hF λn d x o k g p j hF=>?_;refine lv (Al rfl rfl Ad rfl rfl (lu j.mt.1) Y5) rfl rfl (.refl _) rfl rfl ?_;have z:=(df G).trans _ _ _ _ o p;clear j p o d;refine a8 G ?_;walk_nrm
 repeat w_go ai.trans
 refine dO rfl hF λn d D o k H p j hF=>?_;refine lv (FE rfl rfl Ad rfl rfl (lu j.mt.1)) rfl rfl (.refl _) rfl rfl ?_;replace z:=(df G).trans _ _ _ _ z ((df G).trans _ _ _ _ o p);clear j p o d;refine a8 G ?_;walk_nrm
 repeat w_go ai.trans
 refine dO rfl hF λn d x o k g p j hF=>?_;replace z:=(df G).trans _ _ _ _ z ((df G).trans _ _ _ _ o p);refine ajL G j (a1:=a) (f1:=f+7) (vck .releaseMerge Ab rfl rfl Ad rfl func61 Ry Rz RA RB BF) rfl s X rfl rfl Y (P _ z) ?_;clear j p o d z P;refine a8 G ?_;walk_nrm
 repeat w_go ai.trans
 refine dO rfl hF λn d x o k g p j hF=>?_;refine r5 (d1:=1) G j Ij (vbs .disable Ab rfl rfl Ad rfl func62 Ce Cf Cg Ch) rfl s (rZ (f1:=f+6) IY _) Ab rfl ?_;clear j p o d;refine a8 G ?_;walk_nrm
 repeat w_go ai.trans
 refine dO rfl hF λn d x o k g p j hF=>?_;have hk:g.mu.k<=250:=Zg eR j.sees;have W:g.mu.k<256:=AY;have E:g.mu.L=true:=by obtain⟨ls,j8,hi,hg⟩:=j.sees;exact hg.lP.Lq (EX hi)
 have hv:=amM g.mu W E;cases J:g.mu.S with
 |true=>
  refine An G j (y:=.ps) (m1:={g.mu with L:=false}) (f1:=f+2) (vco rfl rfl Ad rfl func119 IK IL IM .i32 IN rfl rfl (lu j.mt.1) (pn j.mt.1 0 none)) hv rfl Ab rfl s (ajx J Ab) Ab ?_;rw[hv];replace hF:=ai.trans hF (vl (A:=A) (mine:=mine) B k 0 none (.int .i32 (({g.mu with L:=false}:bh).word:Int)));have q:((({g.mu with L:=false}:bh).word:Int) != 0)=true:=by
   have:({g.mu with L:=false}:bh).word≠0:=λe=>by have:=(RH e).2.2.1;grind
   grind
  clear hv E;generalize M:({g.mu with L:=false}:bh)=N at q hF⊢;clear j p o d;refine a8 G ?_;walk_nrm
  repeat w_go ai.trans
  u_call func120 Y6 f120 ai.trans hF
  refine vaf (λr v=>⟨rfl,λD _=>am5 G s B AN AN AN (λt H u=>?_) r D (ai.refl _ _ _)⟩);replace hF:=ai.trans hF (ai.trans v u);clear v u q;refine a8 G ?_;walk_nrm
  repeat w_go ai.trans
  refine dO rfl hF λn d x o k g p j hF=>?_;refine r5 (d1:=0) G j Io (vbs .enable Ab rfl rfl Ad rfl func63 qv qw qx qy) rfl s (rZ (f1:=f) IY _) Ab rfl ?_;clear j p o d;refine a8 G ?_;walk_nrm
  repeat w_go ai.trans
  u_leave0 func106 ai.trans hF
  repeat w_go ai.trans
  u_in ai.trans hF
  refine I1 rfl rfl func82 rfl I ⟨Be,?_⟩;grind[Goes.stop,ai.trans]
 |false=>
  by_cases h0:({g.mu with L:=false}:bh).word=0
  .have Q:g.mu.k=0:=(RH h0).2.2.2;refine An G j (y:=.idle) (m1:={g.mu with L:=false}) (f1:=f+5) (vco rfl rfl Ad rfl func119 IK IL IM .i32 IN rfl rfl (lu j.mt.1) (pn j.mt.1 0 none)) hv rfl Ab rfl s (ajy J Q IY) Ab ?_;rw[hv,h0];replace hF:=ai.trans hF (vl (A:=A) (mine:=mine) B k 0 none (.int .i32 ((0:Nat):Int)));clear hv E h0 Q;clear j p o d;refine a8 G ?_;walk_nrm
   repeat w_go ai.trans
   refine dO rfl hF λn d x o k g p j hF=>?_;refine r5 (d1:=0) G j Io (vbs .enable Ab rfl rfl Ad rfl func63 qv qw qx qy) rfl s (rZ (f1:=f) Ab _) Ab rfl ?_;clear j p o d;refine a8 G ?_;walk_nrm
   repeat w_go ai.trans
   u_leave0 func106 ai.trans hF
   repeat w_go ai.trans
   u_in ai.trans hF
   refine I1 rfl rfl func82 rfl I ⟨Be,?_⟩;grind[Goes.stop,ai.trans]
  .refine An G j (y:=.eF (g.mu.gw+1) ({g.mu with L:=false}:bh).word) (m1:={g.mu with L:=false,gw:=g.mu.gw+1}) (f1:=f+5) (vco rfl rfl Ad rfl func119 IK IL IM .i32 IN rfl rfl (lu j.mt.1) (pn j.mt.1 0 none)) hv rfl Ab rfl s (ajz J IY) Ab ?_;rw[hv];replace hF:=ai.trans hF (vl (A:=A) (mine:=mine) B k 0 none (.int .i32 (({g.mu with L:=false}:bh).word:Int)));have R:¬(({g.mu with L:=false,gw:=g.mu.gw+1}:bh).jj/\({g.mu with L:=false,gw:=g.mu.gw+1}:bh).gw=g.mu.gw+1)\/(({g.mu with L:=false}:bh).jj/\({g.mu with L:=false}:bh).word=({g.mu with L:=false}:bh).word):=by
    by_cases T:({g.mu with L:=false}:bh).jj
    .grind
    .exact .inl λh=>T h.1
   have q:((({g.mu with L:=false}:bh).word:Int) != 0)=true:=AN;clear hv E h0;show bd (ak A) prog Stop m _ _ ⟨_,k.setCell (ae.fI A) (.int .i32 (({g.mu with L:=false}:bh).word:Int)),_⟩;generalize M:({g.mu with L:=false}:bh)=N at q hF R⊢;clear j p o d;refine a8 G ?_;walk_nrm
   repeat w_go ai.trans
   u_call func120 Y6 f120 ai.trans hF
   refine vaf (λr v=>⟨rfl,λD S=>am4 G s eR B AN AN AN (λt H u=>?_) (λt H u K=>?_) r D (ai.refl _ _ _) (R.imp (λh=>Dh (A:=A) (l:=⟨.eF (g.mu.gw+1) N.word,false,1,f+5,a⟩) rfl h S) id)⟩);focus
    replace hF:=ai.trans hF (ai.trans v u);clear v u q;refine a8 G ?_;walk_nrm
    repeat w_go ai.trans
    refine dO rfl hF λn d x o k g p j hF=>?_;refine r5 (d1:=0) G j Io (vbs .enable Ab rfl rfl Ad rfl func63 qv qw qx qy) rfl s (rZ (f1:=f) IY _) Ab rfl ?_
   rotate_left
   focus
    replace hF:=ai.trans hF (ai.trans v u);clear v u q;refine a8 G ?_;walk_nrm
    repeat w_go ai.trans
    refine dO rfl hF λn d x o O Z p j hF=>?_;refine r5 (d1:=0) G j Io (vbs .enable Ab rfl rfl Ad rfl func63 qv qw qx qy) rfl s (ajB (f1:=f) (Dh (A:=A) rfl (Dh (A:=A) (l:=⟨.eF (g.mu.gw+1) N.word,false,1,f+5,a⟩) rfl K o) p) Ab) Ab rfl ?_
   rotate_left
   all_goals
    clear j p o d;refine a8 G ?_;walk_nrm
    repeat w_go ai.trans
    u_leave0 func106 ai.trans hF
    repeat w_go ai.trans
    u_in ai.trans hF
    refine I1 rfl rfl func82 rfl I ⟨Be,?_⟩;grind[Goes.stop,ai.trans]
def RQ(G:A.Good){f:Nat}{a:A.ao}(e:¬A.left a)(eR:A.most<=250)(o:∀b,A.K b\/mine b->b≠A.st){c:Frame}{cs:fA}(g:c.mode=.returning)(d:(Conc.G c cs).status=.running)(j:∀w' p,ai (ak A) mine w0 w'->bd (ak A) prog Stop m ⟨.idle,false,0,f,a⟩ p ⟨Conc.G c cs,w',mine⟩)(w:aH)(γ:ae.aM A.aN)(n:ai (ak A) mine w0 w):
 bd (ak A) prog Stop m ⟨.own,true,0,f+8,a⟩ γ ⟨Conc.G ((baseD 82).at ⟨#[.pointer (some (ae.fI A)),.U,.U,.U,.U,.U],[]⟩ [.code (f82.body.getD .skip)]) (c::cs),w,mine⟩:=
 Mz G IB e U eR o g d j w γ n λ_ _ xs i hi h=>by obtain⟨l,k⟩:=vab.1 hi;rw[<-k,List.set_getElem_self l];exact h
