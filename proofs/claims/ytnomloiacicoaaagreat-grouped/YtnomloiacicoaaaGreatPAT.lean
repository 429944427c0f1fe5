import Derived.Test.YtnomloiacicoaaaGreatPAG
import Derived.Test.YtnomloiacicoaaaGreatPAK
import Derived.Test.YtnomloiacicoaaaGreatPAM
import Derived.Test.YtnomloiacicoaaaGreatPAO
set_option linter.all false
set_option maxRecDepth 100000
set_option maxHeartbeats 16000000
namespace Go.Proofs.YtnomloiacicoaaaGreat
open Tryz
namespace bd
open Conc ConcM RowKit av bj ah hO fH iu oB dx
variable{M aD:dL}{w0:aR}{bs:uar}
def UT{P:cE}{upd:Bool}(C:(da P upd).Good)(W:upd=false){f:uak}{fn:Func}{D:Code}(y:P.funcs[f]?=some fn)(hk:gE P upd fn=true)(a:fn.body=some D)(A:y3 fn=true)(o:∀b,M b->aD b)(hg:∀g,g<=P.globals.size->M g){args:dX}(z:aJ (dp M bL) args args)(E:fG (da P upd) M bL w0){n:Int}(V:∀w,(∀b,M b->w.heap[b]?=w0.heap[b]?)->∀i,iy (da P upd) M bL w i->∀T,Calls (ae P upd) f args {i with tape:=T} (λe _=>e=.returned (.I n))){ST:Bool->eU.Lo->a0->Prop}(s:∀m l g w N j,(∀b,N b->j b)->ST m l ⟨g,w,N⟩->ST m l ⟨g,w,j⟩){m:Bool}:
 iU P ST m f args (jy eU () aD w0 bs) (λu F=>u=.I n/\F=jy eU () aD w0 bs):=by
 intro a2 aI aC aL aO aK csZ L w γ B
 have hF:ak eU aD w0 bs w:=B
 have Q:∀b,M b->w.heap[b]?=w0.heap[b]?:=λb a=>hF.rw.heap b AA
 have O:fG (da P upd) M bL w:=pE E Q
 obtain⟨i,K⟩:=Jm (da P upd) M bL w
 have q:=ix.more (K':=M) AA (NR C y hk a A O hg AA z (R:=λv _=>v=.I n) K AA m (a2.at aI (.inRegion aC (aL::aO)::aK)) csZ)
 have p:(⟨a4 (Frame.enter P f args .normal) (a2.at aI (.inRegion aC (aL::aO)::aK)::csZ),w,cv aD bs⟩:a0)=rr ⟨a4 (Frame.enter P f args .normal) (a2.at aI (.inRegion aC (aL::aO)::aK)::csZ),w,bL⟩ (cv aD bs):=by
  unfold rr;congr 1
  funext b
  exact propext ⟨.inr,λh=>h.resolve_left (λx=>x)⟩
 show bc _ _ _ _ () γ ⟨a4 (Frame.enter P f args .normal) (a2.at aI (.inRegion aC (aL::aO)::aK)::csZ),w,cv aD bs⟩
 rw[p]
 have c:∀b,cv aD bs b->b<w.heap.size:=by
  rintro b (h|h)
  .exact hF.lt b (.inr (.inl h))
  .obtain⟨x,t,rfl⟩:=vbl.1 h;exact lR (hF.bO x t)
 refine abq uX rfl LK q γ (cv aD bs) (λb a=>.inr (.inl (o b a))) rfl (λb _ h=>h) (λb a=>⟨λx=>x,λh=>h,c b a⟩) AA AA ?_
 rintro Y I ⟨ρ,w1,v,v',d⟩ X TW TX J hsz H Z NY k U S
 obtain rfl:v'=.I n:=by have:=d.val;rw[d.post]at this;exact this.uM
 have r:ak eU aD w0 bs Y.w:=hF.on ⟨AA,hsz,k,U,S⟩
 have:=L (.I n) (jy eU () aD w0 bs) ⟨rfl,rfl⟩ Y.w I r
 unfold rr
 have e:=d.g
 rw[vco]at e
 rw[e]
 exact bc.more s this (λb a=>.inr a)
def aq_:vfd.funcs[(205:Nat)]?=some f205:=vfa func205
def ara:vfd.funcs[(210:Nat)]?=some f210:=vfa func210
def arb:vfd.funcs[(217:Nat)]?=some f217:=vfa func217
def arc t v w(hv:n8 w v t)(h0:0<t.length):
 Calls vfd 205 #[.agg #[v]] w λe _=>e=.returned (.I (t[0].ff.length:Int)):=by
 obtain⟨l,cap,rfl,-,c⟩:=hv;obtain⟨b,off,rfl,k,vs,m,-,-,-,-,d,a⟩:=c 0 h0;obtain⟨h,ci,f,g,an,j,-,-,rfl⟩:=a.shape;simp at d;have i:=ef d;clear c a;have hi:(0:Int)<(t.length:Int):=AQ;go_enter aq_,ntmps205
 go_wp2
 go_ret
 rfl
structure pb where
 op:Int
 a:Int
 ka:Option Addr
 br:Nat
 kc:Nat
 bZ:Option Addr
 cA:Nat
 gc:Nat
abbrev fI(bN:pb)(aW:Value):Value:=.agg #[.I bN.op,.I bN.a,.I 0,.N,.slice bN.ka bN.br bN.kc,.N,.slice bN.bZ bN.cA bN.gc,aW]
def ard(bN:pb)(ca:uag)(n cc:Nat)(w:aR):
 Calls vfd 210 #[fI bN (.slice ca n cc)] w λe _=>e=.returned (.I (n:Int)):=by
 go_enter ara,ntmps210
 go_wp2
 go_ret
 rfl
def are(bN:pb)(ca:uag)(n cc:Nat)(w:aR):
 Calls vfd 217 #[fI bN (.slice ca n cc)] w λe _=>e=.returned (.I (n:Int)):=by
 go_enter arb,ntmps217
 go_wp2
 go_ret
 rfl
def arf:gE prog false f205=true:=by decide+kernel
def arg:gE prog false f210=true:=by decide+kernel
def arh:gE prog false f217=true:=by decide+kernel
theorem ari(h:∀b,M b->aD b)(hg:∀g,g<=prog.globals.size->M g)(a:fG (da prog false) M bL w0){t v}(hv:n8 w0 v t)(hrel:au (dp M bL) v v)(h0:0<t.length){ST}(i:∀m l g w N c,(∀b,N b->c b)->ST m l ⟨g,w,N⟩->ST m l ⟨g,w,c⟩):
 iU prog ST true 205 (#[.agg #[v]]++#[]) (jy eU () aD w0 bs) (λu j=>u=.I (t[0].ff.length:Int)/\j=jy eU () aD w0 bs):=
 UT uL Y func205 arf Y AD h hg (.one (.qT (.one hrel))) a (λw f e k d=>arc t v {e with tape:=d} (bo.mono si (zi e d) (av.bo.carry xP (k.carry (pE a f)) hrel (av.bo.carry xP (sF f a) hrel hv))) h0) i
def arj(c:∀b,M b->aD b)(hg:∀g,g<=prog.globals.size->M g)(f:fG (da prog false) M bL w0){bN:pb}{ca:uag}{n cc:Nat}(e:au (dp M bL) (fI bN (.slice ca n cc)) (fI bN (.slice ca n cc))){ST:Bool->eU.Lo->a0->Prop}(d:∀m l g w N a,(∀b,N b->a b)->ST m l ⟨g,w,N⟩->ST m l ⟨g,w,a⟩):
 iU prog ST true 210 (#[fI bN (.slice ca n cc)]++#[]) (jy eU () aD w0 bs) (λu h=>u=.I (n:Int)/\h=jy eU () aD w0 bs):=
 UT uL Y func210 arg Y AD c hg (.one e) f (λw k j o i=>ard bN ca n cc _) d
def ark(c:∀b,M b->aD b)(hg:∀g,g<=prog.globals.size->M g)(f:fG (da prog false) M bL w0){bN:pb}{ca:uag}{n cc:Nat}(e:au (dp M bL) (fI bN (.slice ca n cc)) (fI bN (.slice ca n cc))){ST:Bool->eU.Lo->a0->Prop}(d:∀m l g w N a,(∀b,N b->a b)->ST m l ⟨g,w,N⟩->ST m l ⟨g,w,a⟩):
 iU prog ST true 217 (#[fI bN (.slice ca n cc)]++#[]) (jy eU () aD w0 bs) (λu h=>u=.I (n:Int)/\h=jy eU () aD w0 bs):=
 UT uL Y func217 arh Y AD c hg (.one e) f (λw k j o i=>are bN ca n cc _) d
end bd
namespace bd
open Conc ConcM RowKit av
def arl(v:Value)(args:dX)(w:aR):(callMethod (.iface 113 (.agg #[v])) "Piece" args).run prog w=.ok (.enter 204 (#[.agg #[v]]++args)) w/\(callMethod (.iface 113 (.agg #[v])) "Piece" args).events prog w #[]=#[]:=⟨AB,AB⟩
def arm(v:Value)(w:aR):(callMethod (.iface 113 (.agg #[v])) "Size" #[]).run prog w=.ok (.enter 205 (#[.agg #[v]]++#[])) w/\(callMethod (.iface 113 (.agg #[v])) "Size" #[]).events prog w #[]=#[]:=⟨AB,AB⟩
def XH(bN:pb)(aW:Value)(args:dX)(w:aR):(callMethod (.iface 150 (fI bN aW)) "Piece" args).run prog w=.ok (.enter 209 (#[fI bN aW]++args)) w/\(callMethod (.iface 150 (fI bN aW)) "Piece" args).events prog w #[]=#[]:=⟨AB,AB⟩
def arn(bN:pb)(aW:Value)(w:aR):(callMethod (.iface 150 (fI bN aW)) "Size" #[]).run prog w=.ok (.enter 210 (#[fI bN aW]++#[])) w/\(callMethod (.iface 150 (fI bN aW)) "Size" #[]).events prog w #[]=#[]:=⟨AB,AB⟩
def XF(bN:pb)(aW:Value)(args:dX)(w:aR):(callMethod (.iface 156 (fI bN aW)) "Piece" args).run prog w=.ok (.enter 216 (#[fI bN aW]++args)) w/\(callMethod (.iface 156 (fI bN aW)) "Piece" args).events prog w #[]=#[]:=⟨AB,AB⟩
def aro(bN:pb)(aW:Value)(w:aR):(callMethod (.iface 156 (fI bN aW)) "Size" #[]).run prog w=.ok (.enter 217 (#[fI bN aW]++#[])) w/\(callMethod (.iface 156 (fI bN aW)) "Size" #[]).events prog w #[]=#[]:=⟨AB,AB⟩
end bd
namespace bQ
open Conc RowKit Conc.Lib ConcR.Gen ConcM av bj ah
variable{w0:aR}
section
section
variable{A:fq}{Stop:Bool->ah.Lo A.aq->a0->Prop}{m:Bool}{mine:dL}
variable{a2:Frame}{aI:Act}{aC:fF}{aL:Nat}{aO:uac}{aK:uab}{csZ:hH}
def OJ(f:Nat)(x:b5)(ic:Nat)(sv aw:Bool)(o:be):Prop:=
 (x=.mL/\ic=f+5/\sv=false/\aw=false)\/(x=.jq/\f+3<=ic/\ic<=f+4/\aw=true/\o.W=true/\o.S=false)
def EZ(γ:ah.aQ A.aH)(o:be)(it:Int):Nat:=γ.a7*16+(if o.word=γ.mu.word then 0 else 8)+(4-it).toNat
def asF{γ a:ah.aQ A.aH}{o o' it it'}(h:a.a7<γ.a7)(hi:0<=it'):EZ a o' it'<EZ γ o it:=by grind[EZ]
theorem E0(fl:A.most<=250){l:ah.Lo A.aq}{γ:ah.aQ A.aH}(h:ib (ao A) l γ):γ.mu.k<=250:=by obtain⟨ls,i,hi,hg⟩:=h;have h1:=hg.mM.NA;have h2:=hg.len;grind
def asG(G:A.Good){f:Nat}{a:A.aq}(i:¬A.left a)(fl:A.most<=250)(l:∀b,A.K b\/mine b->b≠A.st){γ:ah.aQ A.aH}{x:b5}{ic:Nat}{p it:Int}{sv aw:Bool}{o:be}{w:aR}(hok:OJ f x ic sv aw o)(hk:o.k<=250)(J:Behind A Stop m mine a2 aI aC aL aO aK csZ f a w)(N:∀w' c D E,c.a7<γ.a7->ai (ao A) mine w w'->ib (ao A) ⟨.jq,false,1,f+3,a⟩ c->qF A Stop m mine a2 aI aC aL aO aK csZ ⟨.jq,false,1,f+3,a⟩ c D E true 0 (c.mu.word:Int) w')(Z:∀w' c z,(z=γ\/z.a7<γ.a7)->z.mu.word≠o.word->(c=z\/c.a7<z.a7)->ai (ao A) mine w w'->ib (ao A) ⟨x,false,1,ic,a⟩ c->qF A Stop m mine a2 aI aC aL aO aK csZ ⟨x,false,1,ic,a⟩ c p sv aw it (c.mu.word:Int) w'):
 Bs A Stop m mine a2 aI aC aL aO aK csZ ⟨x,false,1,ic,a⟩ γ p sv aw it (o.word:Int) w:=by
 have n:o.k<256:=AQ;have r:∀(w1:aR)(bu:ah.aQ A.aH),ai (ao A) mine w w1->(bu=γ\/bu.a7<γ.a7)->∀w' c,(c=bu\/c.a7<bu.a7)->c.mu.word≠o.word->ai (ao A) mine w1 w'->wy A Stop m mine a2 aI aC aL aO aK csZ ⟨x,false,1,ic,a⟩ c p sv aw it (o.word:Int) false w':=by grind[arP,ai.trans]
 have queue:∀(w1:aR)(bu:ah.aQ A.aH),ai (ao A) mine w w1->(bu=γ\/bu.a7<γ.a7)->(bits .and .i32 (o.word:Int) 5==0)=false->∀w' c,c.a7<bu.a7->ai (ao A) mine w1 w'->wy A Stop m mine a2 aI aC aL aO aK csZ ⟨.km,false,1,f+2,a⟩ c p sv aw it (o.word:Int) true w':=by
  intro w1 bu h1 h2 I w' c h3 h4;have V:c.a7<γ.a7:=by grind
  refine arQ G I (λQ R D d K=>arV G i AQ l (λt u E U v O=>N t u D E ?_ (ai.trans h1 (ai.trans h4 (ai.trans K v))) O) (λt u v=>J t u (ai.trans h1 (ai.trans h4 (ai.trans K v)))));grind
 have take:∀(w1:aR)(bu:ah.aQ A.aH),ai (ao A) mine w w1->bits .and .i32 (o.word:Int) 5=0->∀w' c,c.a7<bu.a7->ai (ao A) mine w1 w'->wy A Stop m mine a2 aI aC aL aO aK csZ ⟨.own,false,1,f+2,a⟩ c p sv aw it (o.word:Int) true w':=
  λw1 bu h1 I w' c _ h4=>arO G I i (λt u v=>J t u (ai.trans h1 (ai.trans h4 v)))
 have h:=KC o n;have fO:=Y4 o n;have a1:=U4 o n;have o1:=arI o n;have ad:=arK o n;rcases hok with⟨rfl,rfl,rfl,rfl⟩|⟨rfl,T,P,rfl,X,j⟩
 .cases j:o.S with
  |false=>
   rw[j]at h fO;cases g:o.L with
   |false=>rw[g]at fO;refine Hv G (.inl ⟨Y,Y,.inl ⟨h,fO,o1⟩⟩) (λw1 bu h1 d=>Ht (y:=.own) G i l AQ (λmu=>{mu with L:=true,W:=uD .mL mu.W}) (λmu e=>?_) (take w1 bu h1 fO) (r w1 bu h1 ((dE G).less _ _ _ d)));obtain⟨e1,e2,e3,e4⟩:=zZ e;exact⟨Tz Jv (e1.trans g) (e3.trans j) AQ,by grind[be.word,uD],Y⟩
   |true=>
    rw[g]at fO;have C:bits .or .i32 (o.word:Int) 1=(o.word:Int):=by grind[be.word]
    have q:(bits .and .i32 (o.word:Int) 5==0)=false:=AA;refine Hv G (.inl ⟨Y,Y,.inr (.inl ⟨h,fO,C,ad⟩)⟩) (λw1 bu h1 d=>Ht (y:=.km) G i l AQ (λmu=>{mu with k:=mu.k+1}) (λmu e=>?_) (queue w1 bu h1 ((dE G).less _ _ _ d) q) (r w1 bu h1 ((dE G).less _ _ _ d)));obtain⟨e1,e2,e3,e4⟩:=zZ e;exact⟨aaU (.inl (e1.trans g)) AQ,H7,Y⟩
  |true=>
   rw[j]at h fO;have H:(bits .and .i32 (o.word:Int) 5 != 0)=true:=by grind
   have q:(bits .and .i32 (o.word:Int) 5==0)=false:=by grind
   refine Hv G (.inl ⟨Y,Y,.inr (.inr ⟨h,H,ad⟩)⟩) (λw1 bu h1 d=>Ht (y:=.km) G i l AQ (λmu=>{mu with k:=mu.k+1}) (λmu e=>?_) (queue w1 bu h1 ((dE G).less _ _ _ d) q) (r w1 bu h1 ((dE G).less _ _ _ d)));obtain⟨e1,e2,e3,e4⟩:=zZ e;exact⟨aaU (.inr (e3.trans j)) AQ,H7,Y⟩
 .rw[j]at h fO;cases g:o.L with
  |false=>
   rw[g]at fO a1;have B:bits .and .i32 (({o with L:=true}:be).word:Int) 2=2:=by simp_all[KD]
   have s:=U5 ({o with L:=true}:be) n;have dF:∀w1 bu,ai (ao A) mine w w1->(ao A).ey ⟨.jq,false,1,ic,a⟩ γ bu->KB A Stop m mine a2 aI aC aL aO aK csZ ⟨.jq,false,1,ic,a⟩ bu p sv true it (o.word:Int) (({o with L:=true,W:=false}:be).word:Int) w1:=λw1 bu h1 d=>by refine Ht (y:=.own) G i l AQ (λmu=>{mu with L:=true,W:=uD .jq mu.W}) (λmu e=>?_) (take w1 bu h1 fO) (r w1 bu h1 ((dE G).less _ _ _ d));obtain⟨e1,e2,e3,e4⟩:=zZ e;exact⟨Tz Jz (e1.trans g) (e3.trans j) AQ,by grind[be.word,uD],Y⟩
   exact Hv G (.inr ⟨Y,_,B,s,h,.inl ⟨fO,by cases sv<;>simp_all,o1⟩⟩) dF
  |true=>
   rw[g]at fO a1;have C:bits .or .i32 (o.word:Int) 1=(o.word:Int):=by grind[be.word]
   have q:(bits .and .i32 (o.word:Int) 5==0)=false:=AA;have F:({o with k:=o.k+1}:be).k<256:=AA;cases sv with
   |false=>
    have B:bits .and .i32 (({o with k:=o.k+1}:be).word:Int) 2=2:=by simp_all[KD]
    have s:=U5 ({o with k:=o.k+1}:be) F;refine Hv G (.inr ⟨Y,_,B,s,h,.inr ⟨fO,C,.inl ⟨Y,ad⟩⟩⟩) (λw1 bu h1 d=>Ht (y:=.km) G i l AQ (λmu=>{mu with k:=mu.k+1,W:=false,S:=false}) (λmu e=>?_) (queue w1 bu h1 ((dE G).less _ _ _ d) q) (r w1 bu h1 ((dE G).less _ _ _ d)));obtain⟨e1,e2,e3,e4⟩:=zZ e;exact⟨aaV false (e1.trans g) AQ,H7,Y⟩
   |true=>
    have M:({o with k:=o.k+1,S:=true}:be).k<256:=F;have bV:=arJ ({o with k:=o.k+1}:be) F;have B:bits .and .i32 (({o with k:=o.k+1,S:=true}:be).word:Int) 2=2:=by simp_all[KD]
    have s:=U5 ({o with k:=o.k+1,S:=true}:be) M;refine Hv G (.inr ⟨Y,_,B,s,h,.inr ⟨fO,C,.inr ⟨Y,a1,_,ad,bV⟩⟩⟩) (λw1 bu h1 d=>Ht (y:=.km) G i l AQ (λmu=>{mu with k:=mu.k+1,W:=false,S:=true}) (λmu e=>?_) (queue w1 bu h1 ((dE G).less _ _ _ d) q) (r w1 bu h1 ((dE G).less _ _ _ d)));obtain⟨e1,e2,e3,e4⟩:=zZ e;exact⟨aaV true (e1.trans g) AQ,H7,Y⟩
def asI(G:A.Good){f a}(F:¬A.left a)(fl:A.most<=250)(I:∀b,A.K b\/mine b->b≠A.st)(Q:Behind A Stop m mine a2 aI aC aL aO aK csZ f a w0):
 ∀N γ x ic j it sv aw o w,OJ f x ic sv aw o->o.k<=250->0<=it->ai (ao A) mine w0 w->EZ γ o it<N->qF A Stop m mine a2 aI aC aL aO aK csZ ⟨x,false,1,ic,a⟩ γ j sv aw it (o.word:Int) w:=by
 intro N;induction N with
 |zero=>grind
 |succ N z=>
  intro γ x ic j it sv aw o w hok hk y s a5;have J:o.k<256:=AQ;have fO:=Y4 o J;have ok':∀{c:ah.aQ A.aH},ib (ao A) ⟨x,false,1,ic,a⟩ c->OJ f x ic sv aw c.mu:=λhs=>by
   rcases hok with h|⟨h1,h2,h3,h4,_⟩
   .exact .inl h
   .have:=OG hs h1;exact .inr ⟨h1,h2,h3,h4,this.2,this.1⟩
  have lower:∀(c:ah.aQ A.aH)(r:b5)(u:Nat)(p it':Int)(n t:Bool)(o':be)(w':aR),c.a7<γ.a7->OJ f r u n t o'->o'.k<=250->0<=it'->ai (ao A) mine w w'->qF A Stop m mine a2 aI aC aL aO aK csZ ⟨r,false,1,u,a⟩ c p n t it' (o'.word:Int) w':=
   λc r u p it' n t o' w' h1 h2 h3 h4 k=>z c r u p it' n t o' w' h2 h3 h4 (ai.trans s k) (by have:=asF (o:=o) (o':=o') (it:=it) h1 h4;omega)
  have K:∀w1 bu,(ao A).ey ⟨x,false,1,ic,a⟩ γ bu->ai (ao A) mine w w1->Bs A Stop m mine a2 aI aC aL aO aK csZ ⟨x,false,1,ic,a⟩ bu j sv aw it (o.word:Int) w1:=by
   intro w1 bu B h1;have P:bu=γ\/bu.a7<γ.a7:=(dE G).less _ _ _ B;refine asG G F fl I hok hk (λw' c h=>Q w' c (ai.trans s (ai.trans h1 h))) (λw' c p n h2 h3 h4=>?_) (λw' c M h2 h3 h4 k d=>?_)
   .have:=OG h4 Y;refine lower c .jq (f+3) p 0 n true c.mu w' ?_ (.inr ⟨Y,vac _,vct _,Y,this.2,this.1⟩) (E0 fl h4) (Int.le_refl _) (ai.trans h1 h3);grind
   .
    by_cases q:c.a7<γ.a7
    .grind[E0,ai.trans]
    .have e1:bu=γ:=by grind
     have e2:M=γ:=by grind
     have e3:c=γ:=by grind
     subst e3;refine z c x ic j it sv aw c.mu w' (ok' d) (E0 fl d) y (ai.trans s (ai.trans h1 k)) ?_;have O:o.word≠c.mu.word:=λe=>h3 AA;unfold EZ at a5⊢;grind
  cases D:(o.L&& !o.S)with
  |false=>refine asy G ?_ K;rw[fO];cases E:o.L<;>cases C:o.S<;>simp[E,C]at D⊢
  |true=>
   have E:o.L=true:=by grind
   have C:o.S=false:=by grind
   refine asz G AA K (λh4 w1 bu B h1=>?_);have P:bu=γ\/bu.a7<γ.a7:=(dE G).less _ _ _ B;have again:∀(l:aR)(g:ah.aQ A.aH),ai (ao A) mine w1 l->(g=bu\/g.a7<bu.a7)->uY A Stop m mine a2 aI aC aL aO aK csZ ⟨x,false,1,ic,a⟩ g j sv aw it (o.word:Int) l:=by
    intro l g h2 L;refine Ui G y h4 (λv i h3 k d=>?_);by_cases q:i.a7<γ.a7
    .grind[E0,ai.trans]
    .have e3:i=γ:=by grind
     subst e3;refine z i x ic j (it+1) sv aw i.mu v (ok' d) (E0 fl d) AQ (ai.trans s (ai.trans h1 (ai.trans h2 k))) ?_;unfold EZ at a5⊢;grind
   rcases hok with⟨rfl,rfl,rfl,rfl⟩|⟨rfl,S,R,rfl,H,_⟩
   .cases H:o.W with
    |true=>grind[asB,KD]
    |false=>
     have h2:bits .and .i32 (o.word:Int) 2=0:=by grind[KD]
     by_cases T:o.k=0
     .grind[asC,KE]
     .refine asD G F I (show rP _ from⟨E,C,H⟩) h2 (KE o) AA (YX o J) (show rP (_=_)from Y) (λl g q h2=>?_) (λl g L h2=>again l g h2 L);refine Ui G y h4 (λv i h3 k d=>?_);have:=OG d Y;refine lower i .jq (f+4) j (it+1) false true i.mu v ?_ (.inr ⟨Y,vct _,vac _,Y,this.2,this.1⟩) (E0 fl d) AQ (ai.trans h1 (ai.trans h2 k));grind
   grind[asA]
end
end
section
section
variable{A:fq}{Stop:Bool->ah.Lo A.aq->a0->Prop}{m:Bool}{mine:dL}
variable{a2:Frame}{aI:Act}{aC:fF}{aL:Nat}{aO:uac}{aK:uab}{csZ:hH}
def asK(G:A.Good){f:Nat}{a:A.aq}(n:¬A.left a)(fl:A.most<=250)(q:∀b,A.K b\/mine b->b≠A.st)(o:Behind A Stop m mine a2 aI aC aL aO aK csZ f a w0)(w:aR)(γ:ah.aQ A.aH)(p:ai (ao A) mine w0 w):
 bc (ao A) prog Stop m ⟨.mL,false,1,f+5,a⟩ γ ⟨Conc.G ((base 125).at ⟨#[.pointer (some (ah.fW A)),.U,.U,.U,.U,.U,.U,.U,.U,.U,.U,.U,.U,.U,.U,.U,.U,.U,.U,.U,.U,.U,.U,.U,.U,.U,.U,.U,.U,.U,.U,.U,.U,.U,.U,.U,.U,.U,.U,.U,.U,.U,.U,.U,.U,.U,.U,.U,.U,.U,.U,.U,.U,.U,.U,.U,.U,.U,.U,.U,.U,.U,.U,.U,.U,.U,.U,.U,.U,.U,.U,.U,.U,.U,.U,.U,.U,.U,.U,.U,.U,.U,.U,.U,.U,.U,.U,.U,.U,.U,.U,.U,.U,.U,.U,.U,.U,.U,.U,.U,.U,.U,.U,.U,.U,.U,.U,.U,.U,.U,.U,.U,.U,.U,.U,.U,.U,.U,.U,.U,.U,.U,.U,.U,.U,.U,.U,.U,.U,.U,.U,.U,.U,.U,.U,.U,.U,.U,.U],[]⟩ [.code (f125.body.getD .skip)]) (a2.at aI (.inRegion aC (aL::aO)::aK)::csZ),w,mine⟩:=by
 have hF:=p;have i:=λ(e:ah.aQ A.aH)(w':aR)(h:ai (ao A) mine w0 w')(hs:ib (ao A) ⟨.mL,false,1,f+5,a⟩ e)=>asI G n fl q o (EZ e e.mu 0+1) e .mL (f+5) 0 0 false false e.mu w' (.inl ⟨Y,Y,Y,Y⟩) (E0 fl hs) (Int.le_refl _) h Jo;unfold qF j7 at i;simp only[f125,vaf,dV,lz]at i⊢;refine bf G ?_;repeat w_go ai.trans
 refine ei Y hF λd c s u j r t g hF=>?_;have k:=g.sees;refine mo (Br Y Y An Y Y (mn g.mt.1) Kz) Y Y (.refl _) Y Y ?_;clear g t u c;refine bf G ?_;walk_nrm
 repeat w_but "code.loop" ai.trans
 u_c stepG_loop ai.trans hF
 exact vaj (λd c=>⟨Y,λs l=>(i r d (ai.trans hF c) k ..).ln (dE G) l⟩)
def Uh(G:A.Good){f:Nat}{a:A.aq}(n:¬A.left a)(fl:A.most<=250)(s:∀b,A.K b\/mine b->b≠A.st)(t:Behind A Stop m mine a2 aI aC aL aO aK csZ f a w0)(w:aR)(γ:ah.aQ A.aH)(u:ai (ao A) mine w0 w):
 bc (ao A) prog Stop m ⟨.idle,false,0,f+6,a⟩ γ ⟨Conc.G ((base 88).at ⟨#[.pointer (some (ah.fW A)),.U,.U,.U,.U,.U],[]⟩ [.code (f88.body.getD .skip)]) (a2.at aI (.inRegion aC (aL::aO)::aK)::csZ),w,mine⟩:=by
 have hF:=u;simp only[f88,vaf];refine bf G ?_;repeat w_go ai.trans
 u_call func112 Zs f112 ai.trans hF
 repeat w_go ai.trans
 refine ei Y hF λd c k j g h i e hF=>?_;refine tu (d1:=1) G e Jv (vbz .disable AS Y Y An Y func69 DT DU DV DW) Y n (aop (f1:=f+5) Jo) AS Y ?_;clear e i j c;refine bf G ?_;walk_nrm
 repeat w_go ai.trans
 refine ei Y hF λd c k j g h i e hF=>?_;by_cases o:h.mu.word=0;focus
  have hcell:=mn e.mt.1;rw[o]at hcell;obtain⟨e1,e2,e3,e4⟩:=U3 o;have hv:(1:Int)=(({h.mu with L:=true,W:=uD .mL h.mu.W}:be).word:Int):=by grind[be.word,uD]
  refine Bt G e (y:=.own) (m1:={h.mu with L:=true,W:=uD .mL h.mu.W}) (f1:=f+2) (stepG_cas_hit Y Y An Y func124 zj zk zl .i32 zm Y Y Y hcell (qw e.mt.1 0 none)) hv Y AS Y n (Tz Jv e1 e3 AS) AS ?_;replace hF:=ai.trans hF (wA (A:=A) (mine:=mine) s g 0 none (.int .i32 (({h.mu with L:=true,W:=uD .mL h.mu.W}:be).word:Int)));clear e1 e2 e3 e4 hv hcell o;clear e i j c;refine bf G ?_;walk_nrm
  repeat w_go ai.trans
  refine ei Y hF λd c k j g h i e hF=>?_;refine tu G e Jz (vbz .enable AS Y Y An Y func70 rJ rK rL rM) Y n (tr (f1:=f+1) Jo _) AS Y ?_;clear e i j c;refine bf G ?_;walk_nrm
  repeat w_go ai.trans
  refine ei Y hF λd c k j g h i e hF=>?_;refine mo (Hs Y Y An Y Y (mn e.mt.1)) Y Y (.refl _) Y Y ?_;clear e i j c;refine bf G ?_;walk_nrm
  repeat w_go ai.trans
  refine ei Y hF λd c k j g h i e hF=>?_;refine TE G e (f1:=f) (vcq .acquire AS Y Y An Y func83 Ho Hp Hq Hr Bk) Y n Y Y Y Jo ?_;clear e i j c
 rotate_left
 focus
  refine NG (stepG_cas_miss Y Y An Y func124 zj zk zl .i32 zm Y Y Y (mn e.mt.1) (qw e.mt.1 0 none) AQ) Y AS ?_;clear o;clear e i j c;refine bf G ?_;walk_nrm
  repeat w_go ai.trans
  u_call func125 aru f125 ai.trans hF
  refine vaj (λl q=>⟨Y,λv _=>asK G n fl s (λp x r=>?_) l v (ai.refl _ _ _)⟩);replace hF:=ai.trans hF (ai.trans q r);clear q r
 rotate_left
 all_goals
  refine bf G ?_;walk_nrm
  repeat w_go ai.trans
  u_leave0 func112 ai.trans hF
  repeat w_go ai.trans
  u_leave0 func88 ai.trans hF
  exact vaj (λd c=>⟨Y,λk _=>t d k (ai.trans hF c)⟩)
end
end
end bQ
namespace aV
open Conc ConcM RowKit av bj cV dx
section
variable{O:gW}
def pf(T:uaa)(w w':aR):Prop:=w.heap.size<=w'.heap.size/\∀(b:Nat) c e z,w.heap[b]?=some (.cells c e z)->∃c',w'.heap[b]?=some (.cells c' e z)/\c'.size=c.size/\(e≠T->c'=c)
def pg(T:uaa)(F:bg):Prop:=∀w w' v,pf T w w'->F.R w v->F.R w' v
structure oF where
 g:Nat
 pos:Nat->Bool
 oG:Nat->Bool
 kr:List (Nat×TypeId×Nat)
def oF.st(S:oF)(j:Nat):Option (TypeId×Nat):=(S.kr.find? λp=>p.1==j).map (·.2)
def rS(S:oF)(j:Nat)(o:Oper):Option Nat:=match S.st j with|some p=>some p.2|none=>o.dst
def Wn(oG:ube)(acc:b6):b6:=λs=>if oG s then acc s else none
def VY(L K:b6):b6:=λs=>match L s with|some F=>some F|none=>K s
def auH{N L K a w}(h1:ak N L a w)(h2:ak N K a w):ak N (VY L K) a w:=⟨h1.size,λs F e=>by
 unfold VY at e;split at e
 .cases e;exact h1.has s _ AA
 .exact h2.has s F e⟩
def O7(P:cE)(N n0:Nat)(E:b6)(o:Oper)(p:TypeId×Nat)(F:bg):Prop:=o.guard=none/\o.dst=none/\∀a w,ak N E a w->∃w',(execOp a.eval o).run P w=.ok .skip w'/\pf p.1 w w'/\Below n0 w w'/\∃v,a.tmps[p.2]?=some v/\F.R w' v
def z8(S:oF)(ops:fF)(L K:b6)(j:Nat)(acc:b6)(o:Oper):b6:=if S.pos j then vX K ops (Wn S.oG acc) o else vX (VY L K) ops acc o
def auI(P:cE)(N n0:Nat)(ops:fF)(E:b6)(o:Oper)(F:bg):Prop:=(rI ops E o true/\∀a w,n0<=w.heap.size->ak N E a w->Hi P o F a w)\/(rI ops E o false/\F=mT)
def BF(P:cE)(N n0:Nat)(ops:fF)(S:oF)(cW:bg)(pT:b6->Prop)(j:Nat)(E:b6)(o:Oper)(F:bg):Prop:=
 match S.st j with
 |some p=>j≠S.g/\O7 P N n0 E o p F
 |none=>j=S.g/\pT E/\F=cW\/j≠S.g/\auI P N n0 ops E o F
abbrev tW(P:cE)(N n0:Nat)(ops:fF)(S:oF)(L K:b6)(cW:bg)(pT:b6->Prop):List Oper->Nat->b6->b6->b6->Prop:=
 zh (rS S) S.oG (λj acc o F=>F.ok n0/\(S.oG j=true->∀p∈S.kr,p.1≠j->pg p.2.1 F)/\BF P N n0 ops S cW pT j (z8 S ops L K j acc o) o F) N
section
variable{P:cE}{N n0:Nat}{ops:fF}{S:oF}{L K K':b6}{cW:bg}{pT:b6->Prop}{o:Oper}{l:ubc}{j:Nat}{acc g8:b6}{d:Nat}{F:bg}
def hn(hd:o.dst=some d)(b:∀a w,n0<=w.heap.size->ak N (z8 S ops L K j acc o) a w->Hi P o F a w)(h:tW P N n0 ops S L K cW pT l (j+1) (up acc j F) (if S.oG j then up g8 d F else g8) K')(hs:S.oG j=true->∀p∈S.kr,p.1≠j->pg p.2.1 F:=by first|(intro h;cases h;done)|(intro _ _ h;cases h;done))(hg:o.guard=none:=by rfl)(a5:d<N:=by decide)(h1:j≠S.g:=by decide)(h2:S.st j=none:=by rfl)(hok:F.ok n0:=by first|exact trivial|exact rfl):tW P N n0 ops S L K cW pT (o::l) j acc g8 K':=⟨d,by unfold rS;rw[h2];exact hd,a5,F,⟨hok,hs,by unfold BF;rw[h2];exact .inr ⟨h1,.inl ⟨Gv,b⟩⟩⟩,h⟩
def hq(hd:o.dst=some d)(b:bU P N (z8 S ops L K j acc o) o F)(h:tW P N n0 ops S L K cW pT l (j+1) (up acc j F) (if S.oG j then up g8 d F else g8) K')(hs:S.oG j=true->∀p∈S.kr,p.1≠j->pg p.2.1 F:=by first|(intro h;cases h;done)|(intro _ _ h;cases h;done))(hg:o.guard=none:=by rfl)(a5:d<N:=by decide)(h1:j≠S.g:=by decide)(h2:S.st j=none:=by rfl)(hok:F.ok n0:=by first|exact trivial|exact rfl):tW P N n0 ops S L K cW pT (o::l) j acc g8 K':=hn hd (λa w _ h=>b a w h) h hs hg a5 h1 h2 hok
def hg(hd:o.dst=some d)(a:pT (z8 S ops L K j acc o))(h:tW P N n0 ops S L K cW pT l (j+1) (up acc j cW) (if S.oG j then up g8 d cW else g8) K')(hs:S.oG j=true->∀p∈S.kr,p.1≠j->pg p.2.1 cW:=by first|(intro h;cases h;done)|(intro _ _ h;cases h;done))(a5:d<N:=by decide)(h1:j=S.g:=by rfl)(h2:S.st j=none:=by rfl)(hok:cW.ok n0:=by exact trivial):tW P N n0 ops S L K cW pT (o::l) j acc g8 K':=⟨d,by unfold rS;rw[h2];exact hd,a5,cW,⟨hok,hs,by unfold BF;rw[h2];exact .inl ⟨h1,a,Y⟩⟩,h⟩
def hk{B:ubd}(hd:o.dst=some d)(a:bU P N (z8 S ops L K j acc o) o F)(hs:∀T,B T->pg T F)(c:∀p∈S.kr,B p.2.1)(h:tW P N n0 ops S L K cW pT l (j+1) (up acc j F) (if S.oG j then up g8 d F else g8) K')(hg:o.guard=none:=by rfl)(a5:d<N:=by decide)(h1:j≠S.g:=by decide)(h2:S.st j=none:=by rfl)(hok:F.ok n0:=by first|exact trivial|exact rfl):tW P N n0 ops S L K cW pT (o::l) j acc g8 K':=hq hd a h (λ_ p b _=>hs _ (c p b)) hg a5 h1 h2 hok
def hst{p}(h2:S.st j=some p)(a:O7 P N n0 (z8 S ops L K j acc o) o p F)(h:tW P N n0 ops S L K cW pT l (j+1) (up acc j F) (if S.oG j then up g8 p.2 F else g8) K')(hs:S.oG j=true->∀p∈S.kr,p.1≠j->pg p.2.1 F:=by first|(intro h;cases h;done)|(intro _;decide))(a5:p.2<N:=by decide)(h1:j≠S.g:=by decide)(hok:F.ok n0:=by exact Y):tW P N n0 ops S L K cW pT (o::l) j acc g8 K':=⟨p.2,by unfold rS;rw[h2],a5,F,⟨hok,hs,by unfold BF;rw[h2];exact⟨h1,a⟩⟩,h⟩
end
def auJ{S:oF}{j x:Nat}{T:uaa}{F:bg}(h:S.kr=[(j,T,x)]):∀p∈S.kr,p.1≠j->pg p.2.1 F:=by rw[h];intro p b a;simp at b;subst b;exact absurd Y a
def Ff(S:oF)(ar:uap):Prop:=∀p∈S.kr,ar.getD p.1 false=false
structure mX(N:Nat)(ops:fF)(S:oF)(L Q:b6)(dh:Nat->bg)(ar:uap)(a:Act)(w:aR):Prop where
 len:ar.size=ops.size
 size:a.tmps.size=N
 o_:∀p∈S.kr,ar.getD p.1 false=true->∀i,i<ops.size->S.pos i=false->i≠p.1->ar.getD i false=true
 loc:Ff S ar->ak N L a w
 HV:ak N Q a w
 val:∀(j:Nat) o d,ops[j]?=some o->rS S j o=some d->ar.getD j false=true->Ff S ar\/S.oG j=true->∃v,a.tmps[d]?=some v/\(dh j).R w v
structure mW(ops:fF)(S:oF)(L Q K:b6):Prop where
 one:∀(i j:Nat) o o' d,ops[i]?=some o->ops[j]?=some o'->rS S i o=some d->o'.dst=some d->S.st j=none->i=j\/S.pos j=false/\∃p∈S.kr,p.1=i
 l:∀(i:Nat) o d,ops[i]?=some o->o.dst=some d->L d=none/\Q d=none/\K d=none
 x:∀p∈S.kr,S.st p.1=some p.2/\p.1<ops.size/\(∀i,i<ops.size->S.pos i=false->i≠p.1->xY ops p.1 i=true)/\∀q∈S.kr,q.2.2=p.2.2->q=p
 sd:∀(j:Nat) o q,S.st j=some q->ops[j]?=some o->o.dst=none
 g:S.pos S.g=false/\S.st S.g=none
 o_:(List.range ops.size).all (λj=>match ops[j]? with|some o=>o.after.all λe=> !Region.binds .any e||decide (e.on<j)|none=>true)=true
def K0(ops:fF)(S:oF):Bool:=
 ((List.range ops.size).all λi=>(List.range ops.size).all λj=>i==j||(ops[j]?).bind (·.dst)==none||(S.st j).isSome||(ops[i]?).bind (rS S i) != (ops[j]?).bind (·.dst)||(!S.pos j&&S.kr.any λp=>p.1==i))&&
 (S.kr.all λp=>S.st p.1==some p.2&&decide (p.1<ops.size)&&((List.range ops.size).all λi=>S.pos i||i==p.1||xY ops p.1 i)&&S.kr.all λq=>q.2.2 != p.2.2||q==p)&&
 ((List.range ops.size).all λj=>S.st j==none||(ops[j]?).bind (·.dst)==none)&&
 (!S.pos S.g&&S.st S.g==none)&&
 ((List.range ops.size).all λj=>match ops[j]? with|some o=>o.after.all λe=> !Region.binds .any e||decide (e.on<j)|none=>true)
theorem mW.of{ops L Q K S}(h:K0 ops S=true)(e:qE L ops.toList=true)(c:qE Q ops.toList=true)(hK:qE K ops.toList=true):mW ops S L Q K:=by
 unfold K0 at h;simp only[vag,vdh,vdx,vem,beq_iff_eq,bne_iff_ne,Bool.not_eq_true',vew,List.any_eq_true]at h;obtain⟨⟨⟨⟨h1,h2⟩,k⟩,h3⟩,h4⟩:=h;have b:∀{K:b6},qE K ops.toList=true->∀(i:Nat) o d,ops[i]?=some o->o.dst=some d->K d=none:=λhK i o d a hd=>by unfold qE at hK;rw[vdh]at hK;have:=hK o (Array.mem_toList_iff.2 (vbr a));simp_all
 refine⟨λi j o o' d hi g l dj hs=>?_,λi o d a hd=>⟨b e i o d a hd,b c i o d a hd,b hK i o d a hd⟩,λp f=>?_,λj o q hq a=>?_,h3,by simpa using h4⟩
 .grind
 .grind
 .grind
section
variable{P:cE}{N n0:Nat}{ops:fF}{S:oF}{L Q K:b6}{dh:Nat->bg}{ar:uap}{a:Act}{w w1:aR}
def Wm(l:∀s F,L s=some F->F.ok n0)(e:∀s F,Q s=some F->F.ok n0)(hF:∀j,j<ops.size->(dh j).ok n0):o9 n0 (mX N ops S L Q dh ar):=by intro ρ a a' w w' c b h;refine⟨h.len,by rw[<-b.size];exact h.size,h.o_,λq=>kZ n0 l ρ a a' w w' c b (h.loc q),kZ n0 e ρ a a' w w' c b h.HV,λj o d h1 h2 h3 h4=>?_⟩;obtain⟨v,k,i⟩:=h.val j o d h1 h2 h3 h4;obtain⟨v',g,f⟩:=b.some k;exact⟨v',g,(dh j).f7 _ (hF j (vao.1 h1).1) _ _ _ _ _ c f i⟩
def mX.start(h:ak N L a w)(hq:ak N Q a w):mX N ops S L Q dh (Array.replicate ops.size false) a w:=⟨AS,h.size,λp _ q=>by grind[Ol],λ_=>h,hq,λj o d _ _ q=>by grind[Ol]⟩
def mX.auK(c:mW ops S L Q K)(h:mX N ops S L Q dh ar a w){i}(h1:i<ops.size)(h2:S.pos i=false)(h3:ar.getD i false=false):Ff S ar:=λp b=>by
 cases e:ar.getD p.1 false with
 |false=>rfl
 |true=>
  by_cases hi:i=p.1
  .grind
  .rw[h.o_ p b e i h1 h2 hi]at h3;cases h3
def mX.env(g:mW ops S L Q K)(h:mX N ops S L Q dh ar a w)(hK:ak N K a w){i o}(b:ops[i]?=some o)(j:ar.getD i false=false)(k:∀e∈o.after,Region.binds .any e=true->ar.getD e.on false=true):ak N (z8 S ops L K i (λs=>if 0<=s/\s<i then some (dh s)else none) o) a w:=by
 have d:i<ops.size:=(vao.1 b).1;have key:∀B acc,ak N B a w->(∀s F,acc s=some F->F=dh s/\(Ff S ar\/S.oG s=true))->ak N (vX B ops acc o) a w:=λB acc l m=>⟨h.size,λs F e=>by
  unfold vX at e;split at e
  .rename_i x f;have h1:=List.find?_some f;have h2:=List.mem_of_find?_eq_some f;simp at h1;obtain⟨rfl,hF⟩:=m _ _ e;cases b:ops[x.on]? with
   |none=>grind
   |some o'=>
    simp[b]at h1;refine h.val _ o' s b ?_ (k x AA h1.1) hF;unfold rS;split
    .rename_i p c;rw[g.sd _ _ _ c b]at h1;cases h1.2
    .exact h1.2
  .exact l.has s F e⟩
 unfold z8;split
 .refine key K _ hK λs F e=>?_;unfold Wn at e;grind
 .rename_i c;have h0:=h.auK g d I4 j;exact key _ _ (auH (h.loc h0) hK) λs F e=>AA
def VZ(b:mW ops S L Q K){i}(hs:S.st i=none){p}(a:p∈S.kr):i≠p.1:=λe=>by rw[e,(b.x p a).1]at hs;cases hs
def V0{ar:uap}{i j}(h:i≠j):(ar.setIfInBounds i true).getD j false=ar.getD j false:=by simp_all
def Wl{N:Nat}{K:b6}{a:Act}{w w1:aR}(h:ak N K a w){d:Nat}(hd:K d=none)(f:c6 w w1){v:Value}:ak N K (a.put (some d) v) w1:=⟨Fh,λs F e=>by
 obtain⟨x,c,b⟩:=h.has s F e;exact⟨x,(hQ λx=>AA).trans c,F.jS _ _ _ f b⟩⟩
theorem mX.put(c:mW ops S L Q K)(h:mX N ops S L Q dh ar a w){i:Nat}{o}{d:Nat}(f:ops[i]?=some o)(hd:o.dst=some d)(hs:S.st i=none)(a5:d<N)(l:ar.getD i false=false)(k:c6 w w1){v}(hv:(dh i).R w1 v):mX N ops S L Q dh (ar.setIfInBounds i true) (a.put (some d) v) w1:=by
 have hi:i<ar.size:=G4;have hn:Ff S (ar.setIfInBounds i true)↔Ff S ar:=⟨λq p b=>(V0 (VZ c hs b))▸q p b,λq p b=>(V0 (VZ c hs b)).trans (q p b)⟩;refine⟨Cp,Fh,λp b q j h1 h2 h3=>?_,λq=>Wl (h.loc (hn.1 q)) (c.l i o d f hd).1 k,Wl h.HV (c.l i o d f hd).2.1 k,λj o' n h1 h2 h3 h4=>?_⟩
 .rw[V0 (VZ c hs b)]at q;exact(lW hi).2 (.inr (h.o_ p b q j h1 h2 h3))
 .by_cases e:j=i
  .subst e;rw[f]at h1;cases h1;unfold rS at h2;rw[hs]at h2;rw[hd]at h2;cases h2;exact⟨v,nw (by rw[h.size];exact a5),hv⟩
  .have m:=((lW hi).1 h3).resolve_left e;obtain⟨x,s,r⟩:=h.val j o' n h1 h2 m (h4.imp hn.1 id);have g:d≠n:=λx=>by
    subst x;rcases c.one j i o' o d h1 f h2 hd hs with q|⟨q,p,b,rfl⟩
    .exact e q
    .rw[h.o_ p b m i (by rw[<-h.len];exact hi) q (Ne.symm e)]at l;cases l
   exact⟨x,(hQ g).trans s,(dh j).jS _ _ _ k r⟩
theorem mX.store(B:mW ops S L Q K)(h:mX N ops S L Q dh ar a w){p}(i:p∈S.kr){o}(t:ops[p.1]?=some o)(r:∀e∈o.after,Region.binds .any e=true->ar.getD e.on false=true)(m:pf p.2.1 w w1)(hst:∀j,j<ops.size->S.oG j=true->p.1≠j->pg p.2.1 (dh j))(I:∀s F,Q s=some F->∀p∈S.kr,pg p.2.1 F){v}(e:a.tmps[p.2.2]?=some v)(hv:(dh p.1).R w1 v):mX N ops S L Q dh (ar.setIfInBounds p.1 true) a w1:=by
 obtain⟨E,D,C,-⟩:=B.x p i;have hi:p.1<ar.size:=by rw[h.len];exact D
 have l:(ar.setIfInBounds p.1 true).getD p.1 false=true:=(lW hi).2 Jv;have hn:¬Ff S (ar.setIfInBounds p.1 true):=λq=>by rw[q p i]at l;cases l
 refine⟨Cp,h.size,λq hq z j h1 h2 h3=>(lW hi).2 ?_,λq=>absurd q hn,⟨h.size,λs F c=>by
  obtain⟨x,g,f⟩:=h.HV.has s F c;exact⟨x,g,I s F c p i _ _ _ m f⟩⟩,λj o' H h1 h2 h3 h4=>?_⟩
 .by_cases b:j=p.1
  .exact .inl b
  rcases(lW hi).1 z with z|z
  .obtain⟨o',n,e,y,A,rfl⟩:=Ks (C j h1 h2 b);rw[t]at n;cases n;exact .inr (r e y A)
  .exact .inr (h.o_ q hq z j h1 h2 h3)
 .have k:=h4.resolve_left hn;by_cases d:j=p.1
  .subst d;unfold rS at h2;rw[E]at h2;cases h2;exact⟨v,e,hv⟩
  .obtain⟨u,g,f⟩:=h.val j o' H h1 h2 (((lW hi).1 h3).resolve_left d) (.inr k);exact⟨u,g,hst j (vao.1 h1).1 k (Ne.symm d) _ _ _ m f⟩
def UO{j q}(h:S.st j=some q):(j,q)∈S.kr:=by unfold oF.st at h;obtain⟨p,h1,rfl⟩:=vai.1 h;have:=List.find?_some h1;have:=List.mem_of_find?_eq_some h1;grind
theorem mX.step{cW pT}(n:mW ops S L Q K)(J:∀s F,Q s=some F->∀p∈S.kr,pg p.2.1 F)(u:∀(j:Nat) o,ops[j]?=some o->∃d,rS S j o=some d/\d<N/\(dh j).ok n0/\(S.oG j=true->∀p∈S.kr,p.1≠j->pg p.2.1 (dh j))/\BF P N n0 ops S cW pT j (z8 S ops L K j (λs=>if 0<=s/\s<j then some (dh s)else none) o) o (dh j))(h:mX N ops S L Q dh ar a w)(hK:ak N K a w){i o}(y:i≠S.g)(r:n0<=w.heap.size)(l:ar.getD i true=false)(b:ops[i]?=some o)(t:∀e∈o.after,Region.binds .any e=true->ar.getD e.on false=true):
 wpOps P ops (jg λa1 w1=>((∃d v,o.dst=some d/\a1=a.put (some d) v)\/a1=a)/\mX N ops S L Q dh (ar.setIfInBounds i true) a1 w1/\Below n0 w w1) [i] a w:=by
 have l:ar.getD i false=false:=AA;obtain⟨d,h1,h2,h3,h4,f⟩:=u i o b;have k:=h.env n hK b l t;unfold BF at f;unfold rS at h1;cases hs:S.st i with
 |some q=>
  simp only[hs]at f;obtain⟨-,g1,c,H⟩:=f;obtain⟨w',C,B,A,v,z,I⟩:=H a w k;exact Bo b g1 c C ⟨.inr Y,h.store n (p:=(i,q)) (UO hs) b t B (λj E D m=>by
   obtain⟨-,-,-,-,q4,-⟩:=u j _ (vas E);exact q4 D _ (UO hs) m) J z I,A⟩
 |none=>
  simp only[hs]at f h1;obtain⟨q,-⟩|⟨-,g⟩:=f
  .exact absurd q y
  refine mS (R:=λa1 w1=>(∃v,a1=a.put (some d) v/\(dh i).R w1 v)/\c6 w w1) (by
   rcases g with⟨g1,c⟩|⟨g1,c⟩
   .exact Ys b (g1.is k) h1 (c a w r k)
   .exact ab_ b (g1.is k) h1 ⟨⟨undef,Y,by rw[c];rfl⟩,vaa _ _⟩) ?_
  rintro a1 w1 ⟨⟨v,rfl,hv⟩,x⟩;exact⟨Y,.inl ⟨d,v,h1,Y⟩,h.put n b h1 hs h2 l x hv,x.mono r⟩
def mX.dF(j:mW ops S L Q K)(h:mX N ops S L Q dh ar a w)(hK:ak N K a w)(g:Region.ready .any ops ar=[]){K' g8:b6}(m:∀s F,g8 s=some F->K s=some F\/S.kr=[]/\L s=some F)(h2:∀s F,K' s=some F->(∃i o,ops.toList[i]?=some o/\rS S (0+i) o=some s/\F=dh (0+i)/\S.oG (0+i)=true)\/g8 s=some F):ak N K' a w:=⟨h.size,λs F e=>by
 have hdone:=UB j.o_ h.len g;rcases h2 s F e with⟨i,o,b,d,rfl,c⟩|k
 .rw[vbs]at d c⊢;have b:ops[i]?=some o:=AA;exact h.val i o s b d (hdone i (vao.1 b).1) (.inr c)
 .rcases m s F k with k|⟨l,k⟩
  .exact hK.has s F k
  .exact(h.loc λp f=>by rw[l]at f;cases f).has s F k⟩
end
section
variable{P:cE}{Post:hV}{n n0:Nat}{Shun:ual}{M aD:dL}{w w0:aR}{f:uak}{a:Act}{k:uab}{cs:hH}{N:Nat}{L Q K':b6}{ops:fF}{S:oF}
def Ty{id:Nat}(hC:(dr P).Good)(T:P.follows .mixedOrders=true)(hf:jQ P f)(hk:(Item.inRegion ops []::k).all (fB P)=true)(aM:∀s F,L s=some F->F.ok n0)(C:∀s F,Q s=some F->F.ok n0/\∀p∈S.kr,pg p.2.1 F)(gH:K0 ops S=true)(V2:qE L ops.toList=true)(g:qE Q ops.toList=true){c:Oper}{d:Nat}{gf:uak}{cA:Func}{gV:Code}{args:uay}{ats:uaq}(l:ops[S.g]?=some c)(B:c.op=.call {callee:=.value (.func gf),args,argTypes:=ats})(J:P.funcs[gf]?=some cA)(Z:(cA.name== "runtime.NumGoroutine")=false)(hb:cA.body=some gV)(c_:c.guard=none)(hn:n+16*d<=200){gJ:Tmp}(z:c.dst=some gJ){cW:bg}{g8:b6}(hq:tW (ae P true) N n0 ops S L Q cW (λE=>∀a M w Shun,Home O P M Shun w->ak N E a w->aJ (b7 M) a.tmps a.tmps->fZ O P Post gf (args.map a.eval) M w d (λu _ w'=>cW.R w' u/\dy M w w')) ops.toList 0 (λ_=>none) g8 K')(Bg:S.kr=[]/\g8=L\/g8=Q)(H:Held O P aD w0 n0 a M w Shun)(h0:ak N L a w)(Sv:ak N Q a w)(X:∀a M' w' m y,ak N K' a w'->m<=n+16*d->Held O P aD w0 n0 a M' w' y->bT P Post m y 0 (a4 ((base f).at a (.inRegion ops []::k)) cs) w'):
 bT P Post n Shun 0 (a4 ((base f).at a (.code (.region id ops true)::k)) cs) w:=by
 obtain⟨dh,h1,h2⟩:=zh.all hq;have b:=mW.of (K:=Q) gH V2 g g;have x:∀(j:Nat) o,ops[j]?=some o->_:=λj o D=>h1 j o AA;simp only[vbs]at x;have V3:∀j,j<ops.size->(dh j).ok n0:=λj hj=>by obtain⟨d',-,-,q,-⟩:=x j _ (vas hj);exact q
 obtain⟨auL,e1,e2,-,-,e3⟩:=x S.g c l;unfold BF at e3;unfold rS at e1;simp only[b.g.2]at e3 e1;rw[z]at e1;cases e1;obtain⟨-,eE,iB⟩:_/\_/\dh S.g=cW:=e3.resolve_right λh=>absurd Y h.1;refine aqI hC T hf hk S.g l B J Z hb c_ hn (I:=mX N ops S L Q dh) (λar=>Wm aM (λs F e=>(C s F e).1) V3) z (λar a w h=>by rw[h.size];exact e2) (iP:=cW.R) (λar a w h=>h.len) H (mX.start h0 Sv) ?_ ?_ ?_ ?_
 .intro ar a W i o h hd hW R V D r;refine mS (h.step b (λs F e=>(C s F e).2) x h.HV R hW V D r) λa1 w1⟨aZ,a3,q3⟩=>⟨Y,?_,a3,q3⟩;rcases aZ with⟨d',v,-,rfl⟩|rfl
  .rw[put_defers];exact hd
  .exact hd
 .intro ar a M w Shun t h A r;exact eE a M w Shun t.fC (h.env b h.HV l A r) t.all
 .intro ar a w u h A r hu;exact h.put b l z b.g.2 e2 A (vaa _ _) (by rw[iB];exact hu)
 .intro ar a M' w' m y h hr U t;exact X a M' w' m y (h.dF b h.HV hr (λs F e=>by rcases Bg with⟨k1,rfl⟩|rfl;exact .inr ⟨k1,e⟩;exact .inl e) h2) U t
