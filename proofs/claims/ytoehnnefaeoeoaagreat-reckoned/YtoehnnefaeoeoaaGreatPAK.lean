import Derived.Test.YtoehnnefaeoeoaaGreatPAG
import Derived.Test.YtoehnnefaeoeoaaGreatPAH
set_option linter.all false
set_option maxRecDepth 100000
set_option maxHeartbeats 16000000
namespace Go.Proofs.YtoehnnefaeoeoaaGreat
open Go.Proofs.Tryz
namespace ba
open Conc RowKit Conc.Lib ConcR.Gen ConcM az bu ab
def BL(A:e_)(Stop:Bool->ab.av A.ar->a6->Prop)(m:Bool)(mine:Nat->Prop)(b₁:Frame)(a₁:Act)(aG:Array Oper)(i₁:Nat)(aP:List Nat)(k₁:List Item)(cs₁:List Frame)(l:ab.av A.ar)(γ:ab.aT A.aQ)(old:Int)(w:World):Prop:=
 ∀(dn ep mC iR BM l6 eu d7 ew ey ez eA ld lf eL eB eC eD gx eE fb fc fe m3 m4 m5 m6 m7 m8 m9 m_ na nc nd ne nf ng nh ni nj nk:Value),bh (ah A) prog Stop m l γ ⟨Conc.G ((base 128).at ⟨#[.pointer (some (ab.fI A)),dn,ep,mC,.int .i32 old,iR,BM,l6,eu,d7,ew,ey,ez,eA,ld,lf,eL,eB,eC,eD,gx,eE,fb,fc,fe,m3,m4,m5,m6,m7,m8,m9,m_,na,nc,nd,ne,nf,ng,nh,ni,nj,nk],[]⟩ [.code ((cS (f128.body.getD .skip)).getD .skip),.inLoop ((cS (f128.body.getD .skip)).getD .skip),.inBlock 0]) (b₁.at a₁ (.inRegion aG (i₁::aP)::k₁)::cs₁),w,mine⟩
theorem D9{A:e_}{l:ab.av A.ar}{γ a:ab.aT A.aQ}{v o:Nat}(b:l.bB=.et v o)(h:¬(γ.aC.jC/\γ.aC.gN=v))(c:(ah A).dN l γ a):¬(a.aC.jC/\a.aC.gN=v):=by
 rcases c with rfl|⟨_,_,d⟩
 ·exact h
 ·exact d.2 v o b h
theorem aa0{A:e_}{l:ab.av A.ar}{γ:ab.aT A.aQ}(h:hX (ah A) l γ):IntKind.u32.wrap ((γ.aC.sema:Int)+1)=((γ.aC.sema+1:Nat):Int):=by
 obtain⟨aU,i,hi,a⟩:=h;have c:γ.aC.sema<=1:=by have b:γ.aC.W.toNat<=1:=Bool.toNat_le _;cases hS:γ.aC.S with|false=>have:=a.lC.nm hS;omega|true=>have:=a.lC.st hS;omega
 rw[IntKind.wrap_u32];omega
theorem apl{A:e_}{l:ab.av A.ar}{γ:ab.aT A.aQ}{v o:Nat}(h:hX (ah A) l γ)(e:l.bB=.et v o)(a:γ.aC.word≠o):¬(γ.aC.jC/\γ.aC.gN=v):=by obtain⟨aU,i,hi,b⟩:=h;rintro⟨d,c⟩;exact a ((b.lC.et i v o AU).2 c.symm d).symm
theorem aa1{A:e_}(fo:A.d4<=250){l:ab.av A.ar}{γ:ab.aT A.aQ}(h:hX (ah A) l γ):γ.aC.k<=250:=by obtain⟨aU,i,hi,a⟩:=h;have c:=a.lC.F1;have b:=a.len;grind
theorem apm{m n:bk}(h:m.word=n.word)(hl:n.jC):m.jC:=by obtain⟨d,c,b,a⟩:=Ab h;exact⟨d.trans hl.1,c.trans hl.2.1,b.trans hl.2.2.1,by rw[a];exact hl.2.2.2⟩
variable {w w0:World}
section
variable {A:e_} {Stop:Bool->ab.av A.ar->a6->Prop} {m:Bool} {mine:Nat->Prop}
variable {b₁:Frame} {a₁:Act} {aG:Array Oper} {i₁:Nat} {aP:List Nat} {k₁:List Item} {cs₁:List Frame}
theorem apn(G:A.Good){l:ab.av A.ar}{γ:ab.aT A.aQ}{old kk:Int}(i:old / 8=kk)(b:(kk==0)=true\/((kk==0)=false/\(bits .and .i32 old 7 != 0)=true))
 (f:∀w' g,U (ah A) mine w w'->(ah A).dN l γ g->bh (ah A) prog Stop m l g ⟨Conc.G (b₁.at (a₁.put ((aG[i₁]?).bind (·.dst)) (.tuple #[])) (.inRegion aG aP::k₁)) cs₁,w',mine⟩):
 BL A Stop m mine b₁ a₁ aG i₁ aP k₁ cs₁ l γ old w:=by
 unfold BL;intros
 have hF:=U.refl (ah A) mine w;simp only[f128,Option.getD_some,cS];refine a5 (aN G) Js 300 _ _ γ Jt ?_;rcases b with b|⟨h0,b⟩
 ·repeat w_go U.trans
  u_leave0 func128 U.trans hF
  exact Goes.stop (fun e c=>⟨rfl,fun d a=>f e d (U.trans hF c) a⟩)
 ·repeat w_go U.trans
  u_leave0 func128 U.trans hF
  exact Goes.stop (fun e c=>⟨rfl,fun d a=>f e d (U.trans hF c) a⟩)
theorem apo(G:A.Good){f v l:Nat}{a:A.ar}{γ:ab.aT A.aQ}{o:bk}(hl:¬A.left a)(C:∀b,A.K b\/mine b->b≠A.st)(j:o.jC)(z:o.k<256)
 (J:∀w' n,U (ah A) mine w w'->bh (ah A) prog Stop m ⟨.idle,false,1,f+1,a⟩ n ⟨Conc.G (b₁.at (a₁.put ((aG[i₁]?).bind (·.dst)) (.tuple #[])) (.inRegion aG aP::k₁)) cs₁,w',mine⟩)
 (t:∀w' n s,(ah A).dN ⟨.et v l,false,1,f+5,a⟩ γ s->s.aC.word≠o.word->hX (ah A) ⟨.et v l,false,1,f+5,a⟩ s->(ah A).dN ⟨.et v l,false,1,f+5,a⟩ s n->U (ah A) mine w w'->hX (ah A) ⟨.et v l,false,1,f+5,a⟩ n->BL A Stop m mine b₁ a₁ aG i₁ aP k₁ cs₁ ⟨.et v l,false,1,f+5,a⟩ n (n.aC.word:Int) w'):
 BL A Stop m mine b₁ a₁ aG i₁ aP k₁ cs₁ ⟨.et v l,false,1,f+5,a⟩ γ (o.word:Int) w:=by
 unfold BL;intros
 unfold BL at t;have hF:=U.refl (ah A) mine w;have N:=JC o;have M:(((o.k:Nat):Int)==0)=false:=by have:=j.2.2.2;grind
 have Q:(bits .and .i32 (o.word:Int) 7 != 0)=false:=by rw[aaV o z,j.1,j.2.1,j.2.2.1];rfl
 have O:=ao9 o z j.2.2.2;have P:=aaW ({o with k:=o.k-1}:bk) AU;simp only[f128,Option.getD_some,cS]at t⊢;refine a5 (aN G) Js 300 _ _ γ Jt ?_;repeat w_go U.trans
 refine dj rfl hF fun p d r i L e g c hF=>?_;have F:=(aN G).trans _ _ _ _ i g;by_cases u:e.aC.word=o.word
 ·have x:=ks c.mt.1;rw[u]at x;obtain⟨V,T,S,R⟩:=Ab u;have H:(({o with k:=o.k-1,W:=true}:bk).word:Int)=(({e.aC with k:=e.aC.k-1,W:=true}:bk).word:Int):=by grind[bk.word]
  refine yQ G c (y:=.gO) (m1:={e.aC with k:=e.aC.k-1,W:=true}) (f1:=f+2) (stepG_cas_hit rfl rfl Bc rfl func125 z7 z8 z9 .i32 z_ rfl rfl rfl x (pA c.mt.1 0 none)) H rfl Aa rfl hl (akZ (apm u j) Aa) Aa ?_;replace hF:=U.trans hF (vo (A:=A) (mine:=mine) C L 0 none (.int .i32 (({e.aC with k:=e.aC.k-1,W:=true}:bk).word:Int)));clear c g i d t;refine a5 (aN G) Js 200 _ _ _ Jt ?_;walk_nrm
  repeat w_go U.trans
  refine dj rfl hF fun p d r i B q g c hF=>?_;refine NJ G c (y:=.idle) (m1:={q.aC with sema:=q.aC.sema+1}) (f1:=f+1) (stepG_semrelease (ad:=ab.k7 A) rfl rfl Bc rfl func149 aaJ NG aaK aaL (by simp[Act.eval,ab.fI,ab.k7]) (IN c.mt.1) (pA c.mt.1 1 none)) ?_ rfl rfl hl (ak1 KI) Aa (.inl ?_) ?_
  ·exact aa0 c.sees
  ·exact mayWake_entry rfl rfl func149 NG
  replace hF:=U.trans hF (vo (A:=A) (mine:=mine) C B 1 none (.int .u32 ((q.aC.sema+1:Nat):Int)));clear c g i d;refine a5 (aN G) Js 200 _ _ _ Jt ?_;walk_nrm
  repeat w_go U.trans
  u_leave0 func128 U.trans hF
  exact Goes.stop (fun p d=>⟨rfl,fun r _=>J p r (U.trans hF d)⟩)
 ·have D:=c.sees;refine Mw (stepG_cas_miss rfl rfl Bc rfl func125 z7 z8 z9 .i32 z_ rfl rfl rfl (ks c.mt.1) (pA c.mt.1 0 none) Ay) rfl Aa ?_;clear c g i d;refine a5 (aN G) Js 200 _ _ _ Jt ?_;walk_nrm
  repeat w_go U.trans
  refine dj rfl hF fun p d r i B q g c hF=>?_;have I:=(aN G).trans _ _ _ _ i g;have E:=c.sees;refine k8 (BK rfl rfl Bc rfl rfl (ks c.mt.1) aoS) rfl rfl (.refl _) rfl rfl ?_;clear c g i d;refine a5 (aN G) Js 200 _ _ _ Jt ?_;walk_nrm
  repeat w_nl U.trans
  u_c stepG_inLoop U.trans hF
  exact Goes.stop (fun p d=>⟨rfl,fun r K=>(t p q e F u D I (U.trans hF d) E ..).k5 (aN G) K⟩)
theorem apq(G:A.Good){f v i:Nat}{a:A.ar}(hl:¬A.left a)(fo:A.d4<=250)(s:∀b,A.K b\/mine b->b≠A.st)
 (q:∀w' c,U (ah A) mine w0 w'->bh (ah A) prog Stop m ⟨.idle,false,1,f+1,a⟩ c ⟨Conc.G (b₁.at (a₁.put ((aG[i₁]?).bind (·.dst)) (.tuple #[])) (.inRegion aG aP::k₁)) cs₁,w',mine⟩)
 (r:∀w' c,U (ah A) mine w0 w'->¬(c.aC.jC/\c.aC.gN=v)->bh (ah A) prog Stop m ⟨.et v i,false,1,f+5,a⟩ c ⟨Conc.G (b₁.at (a₁.put ((aG[i₁]?).bind (·.dst)) (.tuple #[])) (.inRegion aG aP::k₁)) cs₁,w',mine⟩):
 ∀(N:Nat)(γ:ab.aT A.aQ)(o:bk)(w:World),o.k<=250->(¬(γ.aC.jC/\γ.aC.gN=v)\/(o.jC/\i=o.word))->U (ah A) mine w0 w->γ.be*2+(if o.word=γ.aC.word then 0 else 1)<N->BL A Stop m mine b₁ a₁ aG i₁ aP k₁ cs₁ ⟨.et v i,false,1,f+5,a⟩ γ (o.word:Int) w:=by
 intro N;induction N with
 |zero=>grind
 |succ N p=>
  intro γ o w B d j cj;have n:o.k<256:=Ay;by_cases e:o.jC
  ·refine apo G hl s e n (fun w' c h=>q w' c (U.trans j h)) (fun w' c l y D C g t u=>?_);have k:¬(l.aC.jC/\l.aC.gN=v):=by
    rcases d with d|⟨_,d⟩
    ·exact D9 rfl d y
    grind[apl]
   refine p c c.aC w' (aa1 fo u) (.inl (D9 rfl k g)) (U.trans j t) ?_;grind
  ·have x:¬(γ.aC.jC/\γ.aC.gN=v):=d.resolve_right (fun h=>e h.1);refine apn G (JC o) ?_ (fun w' c h g=>r w' c (U.trans j h) (D9 rfl x g));by_cases z:o.k=0
   ·grind
   ·refine .inr ⟨AU,?_⟩;rw[aaV o n];have E:¬(o.L=false/\o.W=false/\o.S=false):=fun h=>e ⟨h.1,h.2.1,h.2.2,Ay⟩;grind
end
theorem aa2(m:bk)(a:m.k<256)(b:m.L=false):IntKind.wrap .i32 ((m.word:Int)+1)=(({m with L:=true}:bk).word:Int):=by grind[Bool.toNat_le,IntKind.wrap_i32,bk.word]
section
variable {A:e_} {Stop:Bool->ab.av A.ar->a6->Prop} {m:Bool} {mine:Nat->Prop}
theorem Gz{P:Program}{main:Bool}{b:Frame}{a:Act}{todo:List Item}{c:Frame}{cs:List Frame}{fn:Func}{K:Goroutine->World->Array Event->Prop}(g:b.kind=.deferred)(hd:a.defers=[])(e:P.funcs[b.fn]?=some fn)(d:fn.results=#[])(f:c.mode=.returning)(h:K (Conc.G c cs) w #[]):
 (stepG P main (Conc.G {b.at a todo with mode:=.returning} (c::cs)) w).goes K:=by
 simp_all[stepG_leave_deferred,results_none,events_results_none]
section
variable {b₁:Frame} {a₁:Act} {aG:Array Oper} {i₁:Nat} {aP:List Nat} {k₁:List Item} {cs₁:List Frame}
theorem aps(G:A.Good){f v d:Nat}{a:A.ar}(hl:¬A.left a)(fo:A.d4<=250)(r:∀b,A.K b\/mine b->b≠A.st){o:bk}(g:o.L=false)(hS:o.S=false)(j:o.k<=250)
 (k:∀w' c,U (ah A) mine w0 w'->bh (ah A) prog Stop m ⟨.idle,false,1,f+1,a⟩ c ⟨Conc.G (b₁.at (a₁.put ((aG[i₁]?).bind (·.dst)) (.tuple #[])) (.inRegion aG aP::k₁)) cs₁,w',mine⟩)
 (n:∀w' c,U (ah A) mine w0 w'->¬(c.aC.jC/\c.aC.gN=v)->bh (ah A) prog Stop m ⟨.et v d,false,1,f+5,a⟩ c ⟨Conc.G (b₁.at (a₁.put ((aG[i₁]?).bind (·.dst)) (.tuple #[])) (.inRegion aG aP::k₁)) cs₁,w',mine⟩) (w:World) (γ:ab.aT A.aQ) (p:U (ah A) mine w0 w) (s:¬(γ.aC.jC/\γ.aC.gN=v)\/(o.jC/\d=o.word)):
 bh (ah A) prog Stop m ⟨.et v d,false,1,f+5,a⟩ γ ⟨Conc.G ((base 128).at ⟨#[.pointer (some (ab.fI A)),.int .i32 (o.word:Int),undef,undef,undef,undef,undef,undef,undef,undef,undef,undef,undef,undef,undef,undef,undef,undef,undef,undef,undef,undef,undef,undef,undef,undef,undef,undef,undef,undef,undef,undef,undef,undef,undef,undef,undef,undef,undef,undef,undef,undef,undef],[]⟩ [.code (f128.body.getD .skip)]) (b₁.at a₁ (.inRegion aG (i₁::aP)::k₁)::cs₁),w,mine⟩:=by
 have hF:=p;have q:o.k<256:=Ay;have e:=fun(c:ab.aT A.aQ)(w':World)(h:U (ah A) mine w0 w')(y:¬(c.aC.jC/\c.aC.gN=v)\/(o.jC/\d=o.word))=>apq G hl fo r k n (c.be*2+(if o.word=c.aC.word then 0 else 1)+1) c o w' j y h KI;unfold BL at e;have C:=aa2 o q g;have B:bits .and .i32 (({o with L:=true}:bk).word:Int) 1=1:=by grind[SY]
 have z:bits .and .i32 (o.word:Int) 4=0:=by grind[JA]
 simp only[f128,Option.getD_some,cS]at e⊢;clear g hS;refine a5 (aN G) Js 300 _ _ γ Jt ?_;repeat w_but "code.loop" U.trans
 u_c stepG_loop U.trans hF
 exact Goes.stop (fun x t=>⟨rfl,fun u i=>e u x (U.trans hF t) (s.imp (fun h=>D9 (A:=A) (l:=⟨.et v d,false,1,f+5,a⟩) rfl h i) id) ..⟩)
theorem apt(G:A.Good){f:Nat}{a:A.ar}(hl:¬A.left a)(p:∀b,A.K b\/mine b->b≠A.st){o:bk}(i:o.L=false)(hS:o.S=true)(u:o.k<=250)
 (k:∀w' q,U (ah A) mine w0 w'->bh (ah A) prog Stop m ⟨.idle,false,1,f+1,a⟩ q ⟨Conc.G (b₁.at (a₁.put ((aG[i₁]?).bind (·.dst)) (.tuple #[])) (.inRegion aG aP::k₁)) cs₁,w',mine⟩) (w:World) (γ:ab.aT A.aQ) (l:U (ah A) mine w0 w):
 bh (ah A) prog Stop m ⟨.a8,false,1,f+2,a⟩ γ ⟨Conc.G ((base 128).at ⟨#[.pointer (some (ab.fI A)),.int .i32 (o.word:Int),undef,undef,undef,undef,undef,undef,undef,undef,undef,undef,undef,undef,undef,undef,undef,undef,undef,undef,undef,undef,undef,undef,undef,undef,undef,undef,undef,undef,undef,undef,undef,undef,undef,undef,undef,undef,undef,undef,undef,undef,undef],[]⟩ [.code (f128.body.getD .skip)]) (b₁.at a₁ (.inRegion aG (i₁::aP)::k₁)::cs₁),w,mine⟩:=by
 have hF:=l;have n:o.k<256:=Ay;have z:=aa2 o n i;have x:bits .and .i32 (({o with L:=true}:bk).word:Int) 1=1:=by grind[SY]
 have v:bits .and .i32 (o.word:Int) 4=4:=by grind[JA]
 simp only[f128,Option.getD_some];clear i hS;refine a5 (aN G) Js 300 _ _ γ Jt ?_;repeat w_go U.trans
 refine dj rfl hF fun j e g t r d s c hF=>?_;refine NJ G c (y:=.idle) (m1:={d.aC with sema:=d.aC.sema+1}) (f1:=f+1) (stepG_semrelease (ad:=ab.k7 A) rfl rfl Bc rfl func149 aaJ NG aaK aaL (by simp[Act.eval,ab.fI,ab.k7]) (IN c.mt.1) (pA c.mt.1 1 none)) (aa0 c.sees) rfl rfl hl (ak2 KI) Aa (.inl (mayWake_entry rfl rfl func149 NG)) ?_;replace hF:=U.trans hF (vo (A:=A) (mine:=mine) p r 1 none (.int .u32 ((d.aC.sema+1:Nat):Int)));clear c s t e;refine a5 (aN G) Js 200 _ _ _ Jt ?_;walk_nrm
 repeat w_go U.trans
 u_leave0 func128 U.trans hF
 exact Goes.stop (fun j e=>⟨rfl,fun g _=>k j g (U.trans hF e)⟩)
end
theorem S3(G:A.Good){f:Nat}{a:A.ar}(hl:¬A.left a)(fo:A.d4<=250)(u:∀b,A.K b\/mine b->b≠A.st){c:Frame}{cs:List Frame}(v:c.mode=.returning)(V:(Conc.G c cs).status=.running)
 (T:∀w' Q,U (ah A) mine w0 w'->bh (ah A) prog Stop m ⟨.idle,false,0,f,a⟩ Q ⟨Conc.G c cs,w',mine⟩) (w:World) (γ:ab.aT A.aQ) (O:U (ah A) mine w0 w):
 bh (ah A) prog Stop m ⟨.own,true,0,f+8,a⟩ γ ⟨Conc.G ((baseD 90).at ⟨#[.pointer (some (ab.fI A)),undef,undef,undef,undef,undef],[]⟩ [.code (f90.body.getD .skip)]) (c::cs),w,mine⟩:=by
 have hF:=O;simp only[f90,Option.getD_some];refine a5 (aN G) Js 300 _ _ γ Jt ?_;repeat w_go U.trans
 u_call func114 aaO f114 U.trans hF
 repeat w_go U.trans
 refine dj rfl hF fun s k r j o d i g hF=>?_;refine k8 (BK rfl rfl Bc rfl rfl (ks g.mt.1) aaP) rfl rfl (.refl _) rfl rfl ?_;clear g i j k;refine a5 (aN G) Js 200 _ _ _ Jt ?_;walk_nrm
 repeat w_go U.trans
 refine dj rfl hF fun s k r j o d i g hF=>?_;refine k8 (BJ rfl rfl Bc rfl rfl (ks g.mt.1)) rfl rfl (.refl _) rfl rfl ?_;clear g i j k;refine a5 (aN G) Js 200 _ _ _ Jt ?_;walk_nrm
 repeat w_go U.trans
 refine dj rfl hF fun s k r j o d i g hF=>?_;refine ak9 G g (f1:=f+7) (stepG_markAt .releaseMerge Aa rfl rfl Bc rfl func69 SN SO SP SQ CX) rfl hl rfl rfl KI ?_;clear g i j k;refine a5 (aN G) Js 200 _ _ _ Jt ?_;walk_nrm
 repeat w_go U.trans
 refine dj rfl hF fun s k r j o d i g hF=>?_;refine sq (d1:=1) G g Jt (stepG_mark0 .disable Aa rfl rfl Bc rfl func70 D1 D2 D3 D4) rfl hl (sn (f1:=f+6) KI _) Aa rfl ?_;clear g i j k;refine a5 (aN G) Js 200 _ _ _ Jt ?_;walk_nrm
 repeat w_go U.trans
 refine dj rfl hF fun s k r j o d i g hF=>?_;have S:d.aC.k<=250:=aa1 fo g.sees;have P:d.aC.k<256:=Ay;have x:d.aC.L=true:=by obtain⟨aU,R,hi,N⟩:=g.sees;exact N.lC.Mr (Ba hi)
 have p:=ao8 d.aC P x;cases hS:d.aC.S with
 |true=>
  refine yQ G g (y:=.a8) (m1:={d.aC with L:=false}) (f1:=f+2) (stepG_add_atomic rfl rfl Bc rfl func127 D5 D6 D7 .i32 D8 rfl rfl (ks g.mt.1) (pA g.mt.1 0 none)) p rfl Aa rfl hl (akW hS Aa) Aa ?_;rw[p];replace hF:=U.trans hF (vo (A:=A) (mine:=mine) u o 0 none (.int .i32 (({d.aC with L:=false}:bk).word:Int)));have n:((({d.aC with L:=false}:bk).word:Int) != 0)=true:=by
   have:({d.aC with L:=false}:bk).word≠0:=fun e=>by have:=(SX e).2.2.1;grind
   grind
  clear p x;generalize D:({d.aC with L:=false}:bk)=E at n hF⊢;clear g i j k;refine a5 (aN G) Js 200 _ _ _ Jt ?_;walk_nrm
  repeat w_go U.trans
  u_call func128 aaQ f128 U.trans hF
  refine Goes.stop (fun z t=>⟨rfl,fun B _=>apt G hl u AU AU AU (fun F H q=>?_) z B (U.refl _ _ _)⟩);replace hF:=U.trans hF (U.trans t q);clear t q n;refine a5 (aN G) Js 200 _ _ _ Jt ?_;walk_nrm
  repeat w_go U.trans
  refine dj rfl hF fun s k r j o d i g hF=>?_;refine sq (d1:=0) G g K0 (stepG_mark0 .enable Aa rfl rfl Bc rfl func71 oq ot ou ov) rfl hl (sn (f1:=f) KI _) Aa rfl ?_;clear g i j k;refine a5 (aN G) Js 200 _ _ _ Jt ?_;walk_nrm
  repeat w_go U.trans
  u_leave0 func114 U.trans hF
  repeat w_go U.trans
  u_in U.trans hF
  refine Gz rfl rfl func90 rfl v ⟨FQ,?_⟩;grind[Goes.stop,U.trans]
 |false=>
  by_cases h0:({d.aC with L:=false}:bk).word=0
  ·have I:d.aC.k=0:=(SX h0).2.2.2;refine yQ G g (y:=.idle) (m1:={d.aC with L:=false}) (f1:=f+5) (stepG_add_atomic rfl rfl Bc rfl func127 D5 D6 D7 .i32 D8 rfl rfl (ks g.mt.1) (pA g.mt.1 0 none)) p rfl Aa rfl hl (akX hS I KI) Aa ?_;rw[p,h0];replace hF:=U.trans hF (vo (A:=A) (mine:=mine) u o 0 none (.int .i32 ((0:Nat):Int)));clear p x h0 I;clear g i j k;refine a5 (aN G) Js 200 _ _ _ Jt ?_;walk_nrm
   repeat w_go U.trans
   refine dj rfl hF fun s k r j o d i g hF=>?_;refine sq (d1:=0) G g K0 (stepG_mark0 .enable Aa rfl rfl Bc rfl func71 oq ot ou ov) rfl hl (sn (f1:=f) Aa _) Aa rfl ?_;clear g i j k;refine a5 (aN G) Js 200 _ _ _ Jt ?_;walk_nrm
   repeat w_go U.trans
   u_leave0 func114 U.trans hF
   repeat w_go U.trans
   u_in U.trans hF
   refine Gz rfl rfl func90 rfl v ⟨FQ,?_⟩;grind[Goes.stop,U.trans]
  ·refine yQ G g (y:=.et (d.aC.gN+1) ({d.aC with L:=false}:bk).word) (m1:={d.aC with L:=false,gN:=d.aC.gN+1}) (f1:=f+5) (stepG_add_atomic rfl rfl Bc rfl func127 D5 D6 D7 .i32 D8 rfl rfl (ks g.mt.1) (pA g.mt.1 0 none)) p rfl Aa rfl hl (akY hS KI) Aa ?_;rw[p];replace hF:=U.trans hF (vo (A:=A) (mine:=mine) u o 0 none (.int .i32 (({d.aC with L:=false}:bk).word:Int)));have J:¬(({d.aC with L:=false,gN:=d.aC.gN+1}:bk).jC/\({d.aC with L:=false,gN:=d.aC.gN+1}:bk).gN=d.aC.gN+1)\/(({d.aC with L:=false}:bk).jC/\({d.aC with L:=false}:bk).word=({d.aC with L:=false}:bk).word):=by
    by_cases M:({d.aC with L:=false}:bk).jC
    ·grind
    ·exact .inl fun h=>M h.1
   have n:((({d.aC with L:=false}:bk).word:Int) != 0)=true:=AU;clear p x h0;show bh (ah A) prog Stop m _ _ ⟨_,o.setCell (ab.fI A) (.int .i32 (({d.aC with L:=false}:bk).word:Int)),_⟩;generalize D:({d.aC with L:=false}:bk)=E at n hF J⊢;clear g i j k;refine a5 (aN G) Js 200 _ _ _ Jt ?_;walk_nrm
   repeat w_go U.trans
   u_call func128 aaQ f128 U.trans hF
   refine Goes.stop (fun z t=>⟨rfl,fun B K=>aps G hl fo u AU AU AU (fun F H q=>?_) (fun F H q C=>?_) z B (U.refl _ _ _) (J.imp (fun h=>D9 (A:=A) (l:=⟨.et (d.aC.gN+1) E.word,false,1,f+5,a⟩) rfl h K) id)⟩)
   ·replace hF:=U.trans hF (U.trans t q);clear t q n;refine a5 (aN G) Js 200 _ _ _ Jt ?_;walk_nrm
    repeat w_go U.trans
    refine dj rfl hF fun s k r j o d i g hF=>?_;refine sq (d1:=0) G g K0 (stepG_mark0 .enable Aa rfl rfl Bc rfl func71 oq ot ou ov) rfl hl (sn (f1:=f) KI _) Aa rfl ?_;clear g i j k;refine a5 (aN G) Js 200 _ _ _ Jt ?_;walk_nrm
    repeat w_go U.trans
    u_leave0 func114 U.trans hF
    repeat w_go U.trans
    u_in U.trans hF
    refine Gz rfl rfl func90 rfl v ⟨FQ,?_⟩;grind[Goes.stop,U.trans]
   ·replace hF:=U.trans hF (U.trans t q);clear t q n;refine a5 (aN G) Js 200 _ _ _ Jt ?_;walk_nrm
    repeat w_go U.trans
    refine dj rfl hF fun s k r j W X i g hF=>?_;refine sq (d1:=0) G g K0 (stepG_mark0 .enable Aa rfl rfl Bc rfl func71 oq ot ou ov) rfl hl (ak0 (f1:=f) (D9 (A:=A) rfl (D9 (A:=A) (l:=⟨.et (d.aC.gN+1) E.word,false,1,f+5,a⟩) rfl C j) i) Aa) Aa rfl ?_;clear g i j k;refine a5 (aN G) Js 200 _ _ _ Jt ?_;walk_nrm
    repeat w_go U.trans
    u_leave0 func114 U.trans hF
    repeat w_go U.trans
    u_in U.trans hF
    refine Gz rfl rfl func90 rfl v ⟨FQ,?_⟩;grind[Goes.stop,U.trans]
end
end ba
namespace yR
open Conc RowKit Conc.Lib ConcR.Gen ConcM bu cZ ba
section
section
variable {Shun:Loc->Prop} {Stop:Nat->Goroutine->World->Prop} {st:Nat}
variable {b₁:Frame} {a₁:Act} {aG:Array Oper} {i₁:Nat} {aP:List Nat} {k₁:List Item} {cs₁:List Frame}
theorem apw{w:World}{a:Addr}{v x:Value}(h:w.cell? a=some x):(w.setCell a v).cell? a=some v:=World.cell?_setCell_same _ _ _ h
theorem aa3{B:Nat}:qD Shun B ⟨.mark .disable,false,true⟩:=M8 AU _ _
theorem aa4{B:Nat}:qD Shun B ⟨.mark .enable,false,true⟩:=M8 AU _ _
theorem apx{B:Nat}(a:Addr):qD Shun B ⟨.mark (.acquire a),false,true⟩:=M8 AU _ _
theorem apy{B:Nat}(a:Addr):qD Shun B ⟨.mark (.releaseMerge a),false,true⟩:=M8 AU _ _
theorem apz{w:World}(f:w.cell? ⟨st,0,none⟩=some (.int .i32 0))(g:w.frozen? ⟨st,0,none⟩=false)(n:Shun (.cell ⟨st,0,none⟩))(i:st<w.heap.size)
 (j:eU prog Shun Stop 0 (Conc.G (b₁.at (a₁.put ((aG[i₁]?).bind (·.dst)) (.tuple #[])) (.inRegion aG aP::k₁)) cs₁) (w.setCell ⟨st,0,none⟩ (.int .i32 1))):
 eU prog Shun Stop 0 (Conc.G ((base 89).at ⟨#[.pointer (some ⟨st,0,none⟩),undef,undef,undef,undef,undef],[]⟩ [.code (f89.body.getD .skip)]) (b₁.at a₁ (.inRegion aG (i₁::aP)::k₁)::cs₁)) w:=by
 have hF:=atRel_refl w;simp[f89];refine my (R:=AtRel) KO 300 _ _ ?_;repeat w_go dU
 u_call func113 aaN f113 dU hF
 repeat w_go dU
 refine Goes.stop (fun d a=>?_);replace hF:=dU hF a;obtain⟨c,rfl⟩:=hF;clear a;refine pD rfl (w1:=w.at c) (fun k=>stepG_mark0 .disable Aa rfl rfl Bc rfl func70 D1 D2 D3 D4) (by simp[aa3]) Jr ?_;have hF:AtRel w (w.at c):=⟨c,rfl⟩;refine my (R:=AtRel) KO 300 _ _ ?_;walk_nrm
 repeat w_go dU
 refine Goes.stop (fun d a=>?_);replace hF:=dU hF a;obtain⟨c,rfl⟩:=hF;clear a;refine pD rfl (w1:=(w.at c).setCell ⟨st,0,none⟩ (.int .i32 1)) (fun k=>stepG_cas_hit rfl rfl Bc rfl func125 z7 z8 z9 .i32 z_ rfl rfl rfl f g) ?_ (Nat.le_of_eq (ab.oh _ _ _).symm) ?_
 ·rw[ab.oh];intro e l;simp at l;rcases l with rfl|rfl<;>exact ZC n i _
 have h:(w.setCell ⟨st,0,none⟩ (.int .i32 1)).cell? ⟨st,0,none⟩=some (.int .i32 1):=apw f;generalize m:w.setCell ⟨st,0,none⟩ (.int .i32 1)=w2 at h j;have hF:AtRel w2 ((w.at c).setCell ⟨st,0,none⟩ (.int .i32 1)):=⟨c,by rw[<-m];rfl⟩;have hsz:w.heap.size=w2.heap.size:=by rw[<-m,ab.oh]
 rw[hsz]at i;clear f g hsz;generalize(w.at c).setCell ⟨st,0,none⟩ (.int .i32 1)=w3 at hF⊢;show eU prog Shun Stop 1 _ _;refine my (R:=AtRel) KO 300 _ _ ?_;walk_nrm
 repeat w_go dU
 refine Goes.stop (fun d a=>?_);replace hF:=dU hF a;obtain⟨b,rfl⟩:=hF;clear a;refine pD rfl (w1:=w2.at b) (fun k=>stepG_mark0 .enable Aa rfl rfl Bc rfl func71 oq ot ou ov) (by simp[aa4]) Jr ?_;show eU prog Shun Stop 0 _ _;have hF:AtRel w2 (w2.at b):=⟨b,rfl⟩;refine my (R:=AtRel) KO 300 _ _ ?_;walk_nrm
 repeat w_go dU
 refine Goes.stop (fun d a=>?_);replace hF:=dU hF a;obtain⟨b,rfl⟩:=hF;clear a;refine pD rfl (w1:=w2.at b) (fun k=>BJ rfl rfl Bc rfl rfl h) Aa Jr ?_;show eU prog Shun Stop 0 _ _;have hF:AtRel w2 (w2.at b):=⟨b,rfl⟩;refine my (R:=AtRel) KO 300 _ _ ?_;walk_nrm
 repeat w_go dU
 refine Goes.stop (fun d a=>?_);replace hF:=dU hF a;obtain⟨b,rfl⟩:=hF;clear a;refine pD rfl (w1:=w2.at b) (es:=#[⟨.mark (.acquire ⟨st,0,none⟩),false,true⟩]) (fun k=>stepG_markAt .acquire Aa rfl rfl Bc rfl func84 BF BG BH BI CX) (by simp[apx]) Jr ?_;show eU prog Shun Stop 0 _ _;have hF:AtRel w2 (w2.at b):=⟨b,rfl⟩;refine my (R:=AtRel) KO 300 _ _ ?_;walk_nrm
 repeat w_go dU
 u_leave0 func113 dU hF
 repeat w_go dU
 u_leave0 func89 dU hF
 refine Goes.stop (fun d a=>?_);replace hF:=dU hF a;obtain⟨o,rfl⟩:=hF;exact j.at o
end
end
end yR
namespace gF
open Conc ConcM az bu ab gb iJ
section
section
variable {c:dT}
theorem apC{Stop:Bool->ab.av aV->a6->Prop}{mine:Nat->Prop}{f:Nat}{p:List (Nat×Value)}(fo:c.d4<=250)(k:∀b,c.K b\/mine b->b≠c.st){w0:World}{d:Frame}{cs:List Frame}(g:d.mode=.returning)(n:(Conc.G d cs).status=.running)
 (i:∀w' e,U (ah (aE c)) mine w0 w'->c.N<=e.am.taken->bh (ah (aE c)) prog Stop false ⟨.idle,false,0,f,.aR .free p⟩ e ⟨Conc.G d cs,w',mine⟩) (w:World) (γ:ab.aT cF) (j:U (ah (aE c)) mine w0 w) (cj:c.N<=γ.am.taken):
 bh (ah (aE c)) prog Stop false ⟨.own,true,0,f+8,.aR .free p⟩ γ ⟨Conc.G ((baseD 90).at ⟨#[.pointer (some ⟨c.st,0,none⟩),undef,undef,undef,undef,undef],[]⟩ [.code (f90.body.getD .skip)]) (d::cs),w,mine⟩:=by
 refine bh.seq (Z:=ah (aE c)) (Stop':=fun _(l:ab.av aV) X=>l=(⟨.idle,false,0,f,.aR .free p⟩:ab.av aV)/\∃w',U (ah (aE c)) mine w0 w'/\X=⟨Conc.G d cs,w',mine⟩) (I:=F9 c) ML alS ?_ ?_ (ba.S3 (A:=aE c) (bR c) (a:=.aR .free p) K4 fo k g n (fun w' e r=>.stop ⟨rfl,w',r,rfl⟩) w γ j) rfl ⟨fun h=>h,cj⟩
 ·rintro m l X ⟨rfl,_⟩ h;exact h
 ·rintro l γ X ⟨rfl,w',r,rfl⟩ hi;exact i w' γ r hi.2
end
end
end gF
end Go.Proofs.YtoehnnefaeoeoaaGreat
