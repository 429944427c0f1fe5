import Derived.Test.YtncomcmfgmojkaaGreatPAH
import Derived.Test.YtncomcmfgmojkaaGreatPAK
import Derived.Test.YtncomcmfgmojkaaGreatPAN
set_option linter.all false
set_option maxRecDepth 100000
set_option maxHeartbeats 16000000
namespace Go.Proofs.YtncomcmfgmojkaaGreat
open Go.Proofs.Tryz
namespace bO
open Conc RowKit Conc.Lib ConcR.Gen ConcM av bn ah
def qE(p:Prop):Prop:=p
theorem qE.out{p:Prop}(h:qE p):p:=h
variable{cw it old:Int}{w:aO}
section
variable{A:eR}{Stop:Bool->ah.Lo A.al->aV->Prop}{m:Bool}{mine:Nat->Prop}
variable{a2:Frame}{aF:Act}{aD:Array Oper}{aI:Nat}{aL:List Nat}{aH:List Item}{csZ:List Frame}
theorem aqe(G:A.Good){l:ah.Lo A.al}{γ:ah.aN A.aJ}{sv:Bool}(a0:∀w' c,(ak A).dY l γ c->ai (ak A) mine w w'->tl A Stop m mine a2 aF aD aI aL aH csZ l c cw sv true it old w'):
 wo A Stop m mine a2 aF aD aI aL aH csZ l γ cw sv true it old w:=by
 unfold wo jf;intros
 unfold tl jf at a0;have hF:=ai.refl (ak A) mine w;simp only[f129,Option.getD_some,dp,kx,dR,Gb,Nat.reduceBEq,Bool.false_eq_true,↓reduceIte]at a0⊢;refine bk G ?_;u_c stepG_seq ai.trans hF
 u_c stepG_seq ai.trans hF
 repeat w_but "code.seq" ai.trans
 exact Goes.stop (λa b=>⟨Y,λe d=>a0 a e d (ai.trans hF b) ..⟩)
theorem aqf(G:A.Good){l:ah.Lo A.al}{γ:ah.aN A.aJ}{sv:Bool}(f:bits .and .i32 old 2=2)(a0:∀w' c,(ak A).dY l γ c->ai (ak A) mine w w'->tl A Stop m mine a2 aF aD aI aL aH csZ l c cw sv false it old w'):
 wo A Stop m mine a2 aF aD aI aL aH csZ l γ cw sv false it old w:=by
 unfold wo jf;intros
 unfold tl jf at a0;have hF:=ai.refl (ak A) mine w;simp only[f129,Option.getD_some,dp,kx,dR,Gb,Nat.reduceBEq,Bool.false_eq_true,↓reduceIte]at a0⊢;refine bk G ?_;u_c stepG_seq ai.trans hF
 u_c stepG_seq ai.trans hF
 repeat w_but "code.seq" ai.trans
 exact Goes.stop (λa b=>⟨Y,λe d=>a0 a e d (ai.trans hF b) ..⟩)
theorem aqg(G:A.Good){l:ah.Lo A.al}{γ:ah.aN A.aJ}{sv:Bool}(f:bits .and .i32 old 2=0)(hk:old / 8=0)(a0:∀w' c,(ak A).dY l γ c->ai (ak A) mine w w'->tl A Stop m mine a2 aF aD aI aL aH csZ l c cw sv false it old w'):
 wo A Stop m mine a2 aF aD aI aL aH csZ l γ cw sv false it old w:=by
 unfold wo jf;intros
 unfold tl jf at a0;have hF:=ai.refl (ak A) mine w;simp only[f129,Option.getD_some,dp,kx,dR,Gb,Nat.reduceBEq,Bool.false_eq_true,↓reduceIte]at a0⊢;refine bk G ?_;u_c stepG_seq ai.trans hF
 u_c stepG_seq ai.trans hF
 repeat w_but "code.seq" ai.trans
 exact Goes.stop (λa b=>⟨Y,λe d=>a0 a e d (ai.trans hF b) ..⟩)
def aqh(G:A.Good){f:Nat}{a:A.al}{γ:ah.aN A.aJ}{new kk:Int}{sv:Bool}{o:bj}(I:¬A.left a)(L:∀b,A.K b\/mine b->b≠A.st)(l:qE (o.L=true/\o.S=false/\o.W=false))(O:bits .and .i32 (o.word:Int) 2=0)(hk:(o.word:Int) / 8=kk)(N:(kk != 0)=true)(M:bits .or .i32 (o.word:Int) 2=new)(F:qE (new=(({o with W:=true}:bj).word:Int)))(v:∀w' j,j.a_<γ.a_->ai (ak A) mine w w'->tl A Stop m mine a2 aF aD aI aL aH csZ ⟨.iD,false,1,f+4,a⟩ j cw sv true it (o.word:Int) w')(u:∀w' j,(j=γ\/j.a_<γ.a_)->ai (ak A) mine w w'->tl A Stop m mine a2 aF aD aI aL aH csZ ⟨.lQ,false,1,f+5,a⟩ j cw sv false it (o.word:Int) w'):
 wo A Stop m mine a2 aF aD aI aL aH csZ ⟨.lQ,false,1,f+5,a⟩ γ cw sv false it (o.word:Int) w:=by
 unfold wo jf;intros
 unfold tl jf at v u;have hF:=ai.refl (ak A) mine w;simp only[f129,Option.getD_some,dp,kx,dR,Gb,Nat.reduceBEq,Bool.false_eq_true,↓reduceIte]at v u⊢;refine bk G ?_;u_c stepG_seq ai.trans hF
 u_c stepG_seq ai.trans hF
 repeat w_but "code.seq" ai.trans
 refine dH Y hF λx e P t k c s i hF=>?_;have z:=(dg G).less _ _ _ ((dg G).trans _ _ _ _ t s);have Q:f+5<=c.a_:=Tu i.sees;by_cases B:c.mu.word=o.word
 .obtain⟨D,K,C,J⟩:=yw B;have hcell:=ly i.mt.1;rw[B]at hcell;have H:new=(({c.mu with W:=true}:bj).word:Int):=by rw[qE.out F];simp only[bj.word,D,C,J]
  refine Ab G i (y:=.iD) (m1:={c.mu with W:=true}) (f1:=f+4) (stepG_cas_hit Y Y BJ Y func128 xR xS xT .i32 xU Y Y Y hcell (pm i.mt.1 0 none)) H Y A_ Y I (akU (D.trans l.out.1) (C.trans l.out.2.1) (K.trans l.out.2.2) KX) A_ ?_;replace hF:=ai.trans hF (uR (A:=A) (mine:=mine) L k 0 none (.int .i32 (({c.mu with W:=true}:bj).word:Int)));clear i s t e;refine bk G ?_;walk_nrm
  repeat w_but "code.seq" ai.trans
  refine Goes.stop (λd p=>⟨Y,λr n=>?_⟩);exact v d r (by
   have q:∀g:ah.aN A.aJ,(g=({c with mu:={c.mu with W:=true},a_:=c.a_-1}:ah.aN A.aJ)\/g.a_<c.a_-1)->g.a_<c.a_:=by
    rintro g (rfl|h)
    .show c.a_-1<c.a_;omega
    .omega
   have:=q r (Or.imp id (λh=>h.1) n);rcases z with E|E
   .simp_all
   .exact Nat.lt_trans this E) (ai.trans hF p) ..
 .refine L5 (stepG_cas_miss Y Y BJ Y func128 xR xS xT .i32 xU Y Y Y (ly i.mt.1) (pm i.mt.1 0 none) As) Y A_ ?_;clear i s t e;refine bk G ?_;walk_nrm
  repeat w_but "code.seq" ai.trans
  exact Goes.stop (λd p=>⟨Y,λr n=>(u d c z (ai.trans hF p) ..).km (dg G) n⟩)
end
variable{w0:aO}
section
section
variable{A:eR}{Stop:Bool->ah.Lo A.al->aV->Prop}{m:Bool}{mine:Nat->Prop}
variable{a2:Frame}{aF:Act}{aD:Array Oper}{aI:Nat}{aL:List Nat}{aH:List Item}{csZ:List Frame}
def Nn(f:Nat)(x:bU)(gI:Nat)(sv aw:Bool)(o:bj):Prop:=
 (x=.lQ/\gI=f+5/\sv=false/\aw=false)\/(x=.iD/\f+3<=gI/\gI<=f+4/\aw=true/\o.W=true/\o.S=false)
def Dt(γ:ah.aN A.aJ)(o:bj)(it:Int):Nat:=γ.a_*16+(if o.word=γ.mu.word then 0 else 8)+(4-it).toNat
def aqj{γ a:ah.aN A.aJ}{o o':bj}{it':Int}(h:a.a_<γ.a_)(hi:0<=it'):Dt a o' it'<Dt γ o it:=by grind[Dt]
theorem Du(e9:A.most<=250){l:ah.Lo A.al}{γ:ah.aN A.aJ}(h:gH (ak A) l γ):γ.mu.k<=250:=by obtain⟨ls,i,hi,hg⟩:=h;have h1:=hg.lx.LY;have a:=hg.len;grind
def aqk(G:A.Good){f:Nat}{a:A.al}(l:¬A.left a)(e9:A.most<=250)(p:∀b,A.K b\/mine b->b≠A.st){γ:ah.aN A.aJ}{x:bU}{gI:Nat}{sv aw:Bool}{o:bj}(hok:Nn f x gI sv aw o)(hk:o.k<=250)(P:Behind A Stop m mine a2 aF aD aI aL aH csZ f a w)(T:∀w' c I J,c.a_<γ.a_->ai (ak A) mine w w'->gH (ak A) ⟨.iD,false,1,f+3,a⟩ c->pF A Stop m mine a2 aF aD aI aL aH csZ ⟨.iD,false,1,f+3,a⟩ c I J true 0 (c.mu.word:Int) w')(dz:∀w' c v,(v=γ\/v.a_<γ.a_)->v.mu.word≠o.word->(c=v\/c.a_<v.a_)->ai (ak A) mine w w'->gH (ak A) ⟨x,false,1,gI,a⟩ c->pF A Stop m mine a2 aF aD aI aL aH csZ ⟨x,false,1,gI,a⟩ c cw sv aw it (c.mu.word:Int) w'):
 Aa A Stop m mine a2 aF aD aI aL aH csZ ⟨x,false,1,gI,a⟩ γ cw sv aw it (o.word:Int) w:=by
 have q:o.k<256:=As;have s:∀(w1:aO)(bx:ah.aN A.aJ),ai (ak A) mine w w1->(bx=γ\/bx.a_<γ.a_)->∀w' c,(c=bx\/c.a_<bx.a_)->c.mu.word≠o.word->ai (ak A) mine w1 w'->uP A Stop m mine a2 aF aD aI aL aH csZ ⟨x,false,1,gI,a⟩ c cw sv aw it (o.word:Int) false w':=by grind[apv,ai.trans]
 have queue:∀(w1:aO)(bx:ah.aN A.aJ),ai (ak A) mine w w1->(bx=γ\/bx.a_<γ.a_)->(bits .and .i32 (o.word:Int) 5==0)=false->∀w' c,c.a_<bx.a_->ai (ak A) mine w1 w'->uP A Stop m mine a2 aF aD aI aL aH csZ ⟨.jr,false,1,f+2,a⟩ c cw sv aw it (o.word:Int) true w':=by
  intro w1 bx h1 h2 N w' c h3 F;have hb:c.a_<γ.a_:=by grind
  refine apw G N (λX Z I d Q=>apB G l As p (λt u J iI z U=>T t u I J ?_ (ai.trans h1 (ai.trans F (ai.trans Q z))) U) (λt u z=>P t u (ai.trans h1 (ai.trans F (ai.trans Q z)))));grind
 have take:∀(w1:aO)(bx:ah.aN A.aJ),ai (ak A) mine w w1->bits .and .i32 (o.word:Int) 5=0->∀w' c,c.a_<bx.a_->ai (ak A) mine w1 w'->uP A Stop m mine a2 aF aD aI aL aH csZ ⟨.own,false,1,f+2,a⟩ c cw sv aw it (o.word:Int) true w':=
  λw1 bx h1 N w' c _ F=>apu G N l (λt u z=>P t u (ai.trans h1 (ai.trans F z)))
 have j:=Jc o q;have e:=Sz o q;have a1:=Ts o q;have O:=apn o q;have ad:=apq o q;rcases hok with⟨rfl,rfl,rfl,rfl⟩|⟨rfl,p_,V,rfl,hW,hS⟩
 .cases hS:o.S with
  |false=>
   rw[hS]at j e;cases i:o.L with
   |false=>rw[i]at e;refine Ga G (.inl ⟨Y,Y,.inl ⟨j,e,O⟩⟩) (λw1 bx h1 d=>F8 (y:=.own) G l p As (λmu=>{mu with L:=true,W:=s6 .lQ mu.W}) (λmu g=>?_) (take w1 bx h1 e) (s w1 bx h1 ((dg G).less _ _ _ d)));obtain⟨h,C,n,B⟩:=yw g;exact⟨RD Kg (h.trans i) (n.trans hS) As,by grind[bj.word,s6],Y⟩
   |true=>
    rw[i]at e;have H:bits .or .i32 (o.word:Int) 1=(o.word:Int):=by grind[bj.word]
    have r:(bits .and .i32 (o.word:Int) 5==0)=false:=AA;refine Ga G (.inl ⟨Y,Y,.inr (.inl ⟨j,e,H,ad⟩)⟩) (λw1 bx h1 d=>F8 (y:=.jr) G l p As (λmu=>{mu with k:=mu.k+1}) (λmu g=>?_) (queue w1 bx h1 ((dg G).less _ _ _ d) r) (s w1 bx h1 ((dg G).less _ _ _ d)));obtain⟨h,C,n,B⟩:=yw g;exact⟨YD (.inl (h.trans i)) As,H8,Y⟩
  |true=>
   rw[hS]at j e;have M:(bits .and .i32 (o.word:Int) 5 != 0)=true:=by grind
   have r:(bits .and .i32 (o.word:Int) 5==0)=false:=by grind
   refine Ga G (.inl ⟨Y,Y,.inr (.inr ⟨j,M,ad⟩)⟩) (λw1 bx h1 d=>F8 (y:=.jr) G l p As (λmu=>{mu with k:=mu.k+1}) (λmu g=>?_) (queue w1 bx h1 ((dg G).less _ _ _ d) r) (s w1 bx h1 ((dg G).less _ _ _ d)));obtain⟨h,C,n,B⟩:=yw g;exact⟨YD (.inr (n.trans hS)) As,H8,Y⟩
 .rw[hS]at j e;cases i:o.L with
  |false=>
   rw[i]at e a1;have D:bits .and .i32 (({o with L:=true}:bj).word:Int) 2=2:=by simp_all[Jd]
   have E:=Tt ({o with L:=true}:bj) q;have eI:∀w1 bx,ai (ak A) mine w w1->(ak A).dY ⟨.iD,false,1,gI,a⟩ γ bx->Jb A Stop m mine a2 aF aD aI aL aH csZ ⟨.iD,false,1,gI,a⟩ bx cw sv true it (o.word:Int) (({o with L:=true,W:=false}:bj).word:Int) w1:=λw1 bx h1 d=>by refine F8 (y:=.own) G l p As (λmu=>{mu with L:=true,W:=s6 .iD mu.W}) (λmu g=>?_) (take w1 bx h1 e) (s w1 bx h1 ((dg G).less _ _ _ d));obtain⟨h,C,n,B⟩:=yw g;exact⟨RD K1 (h.trans i) (n.trans hS) As,by grind[bj.word,s6],Y⟩
   exact Ga G (.inr ⟨Y,_,D,E,j,.inl ⟨e,by cases sv<;>simp_all,O⟩⟩) eI
  |true=>
   rw[i]at e a1;have H:bits .or .i32 (o.word:Int) 1=(o.word:Int):=by grind[bj.word]
   have r:(bits .and .i32 (o.word:Int) 5==0)=false:=AA;have K:({o with k:=o.k+1}:bj).k<256:=AA;cases sv with
   |false=>
    have D:bits .and .i32 (({o with k:=o.k+1}:bj).word:Int) 2=2:=by simp_all[Jd]
    have E:=Tt ({o with k:=o.k+1}:bj) K;refine Ga G (.inr ⟨Y,_,D,E,j,.inr ⟨e,H,.inl ⟨Y,ad⟩⟩⟩) (λw1 bx h1 d=>F8 (y:=.jr) G l p As (λmu=>{mu with k:=mu.k+1,W:=false,S:=false}) (λmu g=>?_) (queue w1 bx h1 ((dg G).less _ _ _ d) r) (s w1 bx h1 ((dg G).less _ _ _ d)));obtain⟨h,C,n,B⟩:=yw g;exact⟨YE false (h.trans i) As,H8,Y⟩
   |true=>
    have R:({o with k:=o.k+1,S:=true}:bj).k<256:=K;have bc:=apo ({o with k:=o.k+1}:bj) K;have D:bits .and .i32 (({o with k:=o.k+1,S:=true}:bj).word:Int) 2=2:=by simp_all[Jd]
    have E:=Tt ({o with k:=o.k+1,S:=true}:bj) R;refine Ga G (.inr ⟨Y,_,D,E,j,.inr ⟨e,H,.inr ⟨Y,a1,_,ad,bc⟩⟩⟩) (λw1 bx h1 d=>F8 (y:=.jr) G l p As (λmu=>{mu with k:=mu.k+1,W:=false,S:=true}) (λmu g=>?_) (queue w1 bx h1 ((dg G).less _ _ _ d) r) (s w1 bx h1 ((dg G).less _ _ _ d)));obtain⟨h,C,n,B⟩:=yw g;exact⟨YE true (h.trans i) As,H8,Y⟩
def aqm(G:A.Good){f:Nat}{a:A.al}(H:¬A.left a)(e9:A.most<=250)(K:∀b,A.K b\/mine b->b≠A.st)(R:Behind A Stop m mine a2 aF aD aI aL aH csZ f a w0):
 ∀(N:Nat)(γ:ah.aN A.aJ)(x:bU)(gI:Nat)(cw it:Int)(sv aw:Bool)(o:bj)(w:aO),Nn f x gI sv aw o->o.k<=250->0<=it->ai (ak A) mine w0 w->Dt γ o it<N->pF A Stop m mine a2 aF aD aI aL aH csZ ⟨x,false,1,gI,a⟩ γ cw sv aw it (o.word:Int) w:=by
 intro N;induction N with
 |zero=>grind
 |succ N B=>
  intro γ x gI cw it sv aw o w hok hk z t a0;have L:o.k<256:=As;have S:=Sz o L;have ok':∀{c:ah.aN A.aJ},gH (ak A) ⟨x,false,1,gI,a⟩ c->Nn f x gI sv aw c.mu:=λhs=>by
   rcases hok with h|⟨h1,d,h3,g,_⟩
   .exact .inl h
   .have:=Nj hs h1;exact .inr ⟨h1,d,h3,g,this.2,this.1⟩
  have lower:∀(c:ah.aN A.aJ)(s:bU)(v:Nat)(q it':Int)(p u:Bool)(o':bj)(w':aO),c.a_<γ.a_->Nn f s v p u o'->o'.k<=250->0<=it'->ai (ak A) mine w w'->pF A Stop m mine a2 aF aD aI aL aH csZ ⟨s,false,1,v,a⟩ c q p u it' (o'.word:Int) w':=
   λc s v q it' p u o' w' h1 d h3 g l=>B c s v q it' p u o' w' d h3 g (ai.trans t l) (by have:=aqj (o:=o) (o':=o') (it:=it) h1 g;omega)
  have J:∀w1 bx,(ak A).dY ⟨x,false,1,gI,a⟩ γ bx->ai (ak A) mine w w1->Aa A Stop m mine a2 aF aD aI aL aH csZ ⟨x,false,1,gI,a⟩ bx cw sv aw it (o.word:Int) w1:=by
   intro w1 bx C h1;have Q:bx=γ\/bx.a_<γ.a_:=(dg G).less _ _ _ C;refine aqk G H e9 K hok hk (λw' c h=>R w' c (ai.trans t (ai.trans h1 h))) (λw' c q p d h3 g=>?_) (λw' c O d h3 g l i=>?_)
   .have:=Nj g Y;refine lower c .iD (f+3) q 0 p true c.mu w' ?_ (.inr ⟨Y,Nat.le_refl _,Nat.le_succ _,Y,this.2,this.1⟩) (Du e9 g) (Int.le_refl _) (ai.trans h1 h3);grind
   .
    by_cases r:c.a_<γ.a_
    .grind[Du,ai.trans]
    .have X:bx=γ:=by grind
     have W:O=γ:=by grind
     have D:c=γ:=by grind
     subst D;refine B c x gI cw it sv aw c.mu w' (ok' i) (Du e9 i) z (ai.trans t (ai.trans h1 l)) ?_;have P:o.word≠c.mu.word:=λe=>h3 AA;unfold Dt at a0⊢;grind
  cases E:(o.L&& !o.S)with
  |false=>refine aqc G ?_ J;rw[S];cases F:o.L<;>cases hS:o.S<;>simp[F,hS]at E⊢
  |true=>
   have F:o.L=true:=by grind
   have hS:o.S=false:=by grind
   refine aqd G AA J (λg w1 bx C h1=>?_);have Q:bx=γ\/bx.a_<γ.a_:=(dg G).less _ _ _ C;have again:∀(n:aO)(k:ah.aN A.aJ),ai (ak A) mine w1 n->(k=bx\/k.a_<bx.a_)->tl A Stop m mine a2 aF aD aI aL aH csZ ⟨x,false,1,gI,a⟩ k cw sv aw it (o.word:Int) n:=by
    intro n k d M;refine Np G z g (λy j h3 l i=>?_);by_cases r:j.a_<γ.a_
    .grind[Du,ai.trans]
    .have D:j=γ:=by grind
     subst D;refine B j x gI cw (it+1) sv aw j.mu y (ok' i) (Du e9 i) As (ai.trans t (ai.trans h1 (ai.trans d l))) ?_;unfold Dt at a0⊢;grind
   rcases hok with⟨rfl,rfl,rfl,rfl⟩|⟨rfl,U,T,rfl,I,_⟩
   .cases I:o.W with
    |true=>grind[aqf,Jd]
    |false=>
     have d:bits .and .i32 (o.word:Int) 2=0:=by grind[Jd]
     by_cases V:o.k=0
     .grind[aqg,Je]
     .refine aqh G H K (show qE _ from⟨F,hS,I⟩) d (Je o) AA (Sn o L) (show qE (_=_)from Y) (λn k r d=>?_) (λn k M d=>again n k d M);refine Np G z g (λy j h3 l i=>?_);have:=Nj i Y;refine lower j .iD (f+4) cw (it+1) false true j.mu y ?_ (.inr ⟨Y,Nat.le_succ _,Nat.le_refl _,Y,this.2,this.1⟩) (Du e9 i) As (ai.trans h1 (ai.trans d l));grind
   grind[aqe]
end
end
section
section
variable{A:eR}{Stop:Bool->ah.Lo A.al->aV->Prop}{m:Bool}{mine:Nat->Prop}
variable{a2:Frame}{aF:Act}{aD:Array Oper}{aI:Nat}{aL:List Nat}{aH:List Item}{csZ:List Frame}
def aqo(G:A.Good){f:Nat}{a:A.al}(n:¬A.left a)(e9:A.most<=250)(q:∀b,A.K b\/mine b->b≠A.st)(o:Behind A Stop m mine a2 aF aD aI aL aH csZ f a w0)(w:aO)(γ:ah.aN A.aJ)(p:ai (ak A) mine w0 w):
 bh (ak A) prog Stop m ⟨.lQ,false,1,f+5,a⟩ γ ⟨Conc.G ((base 129).at ⟨#[.pointer (some (ah.fN A)),undef,undef,undef,undef,undef,undef,undef,undef,undef,undef,undef,undef,undef,undef,undef,undef,undef,undef,undef,undef,undef,undef,undef,undef,undef,undef,undef,undef,undef,undef,undef,undef,undef,undef,undef,undef,undef,undef,undef,undef,undef,undef,undef,undef,undef,undef,undef,undef,undef,undef,undef,undef,undef,undef,undef,undef,undef,undef,undef,undef,undef,undef,undef,undef,undef,undef,undef,undef,undef,undef,undef,undef,undef,undef,undef,undef,undef,undef,undef,undef,undef,undef,undef,undef,undef,undef,undef,undef,undef,undef,undef,undef,undef,undef,undef,undef,undef,undef,undef,undef,undef,undef,undef,undef,undef,undef,undef,undef,undef,undef,undef,undef,undef,undef,undef,undef,undef,undef,undef,undef,undef,undef,undef,undef,undef,undef,undef,undef,undef,undef,undef,undef,undef,undef,undef,undef,undef,undef],[]⟩ [.code (f129.body.getD .skip)]) (a2.at aF (.inRegion aD (aI::aL)::aH)::csZ),w,mine⟩:=by
 have hF:=p;have i:=λ(e:ah.aN A.aJ)(w':aO)(h:ai (ak A) mine w0 w')(hs:gH (ak A) ⟨.lQ,false,1,f+5,a⟩ e)=>aqm G n e9 q o (Dt e e.mu 0+1) e .lQ (f+5) 0 0 false false e.mu w' (.inl ⟨Y,Y,Y,Y⟩) (Du e9 hs) (Int.le_refl _) h KX;unfold pF jf at i;simp only[f129,Option.getD_some,dp,kx]at i⊢;refine bk G ?_;repeat w_go ai.trans
 refine dH Y hF λd c s u j r t g hF=>?_;have k:=g.sees;refine lz (z_ Y Y BJ Y Y (ly g.mt.1) I_) Y Y (.refl _) Y Y ?_;clear g t u c;refine bk G ?_;walk_nrm
 repeat w_but "code.loop" ai.trans
 u_c stepG_loop ai.trans hF
 exact Goes.stop (λd c=>⟨Y,λs l=>(i r d (ai.trans hF c) k ..).km (dg G) l⟩)
def Nk(G:A.Good){f:Nat}{a:A.al}(n:¬A.left a)(e9:A.most<=250)(v:∀b,A.K b\/mine b->b≠A.st)(x:Behind A Stop m mine a2 aF aD aI aL aH csZ f a w0)(w:aO)(γ:ah.aN A.aJ)(z:ai (ak A) mine w0 w):
 bh (ak A) prog Stop m ⟨.idle,false,0,f+6,a⟩ γ ⟨Conc.G ((base 92).at ⟨#[.pointer (some (ah.fN A)),undef,undef,undef,undef,undef],[]⟩ [.code (f92.body.getD .skip)]) (a2.at aF (.inRegion aD (aI::aL)::aH)::csZ),w,mine⟩:=by
 have hF:=z;simp only[f92,Option.getD_some];refine bk G ?_;repeat w_go ai.trans
 u_call func116 S3 f116 ai.trans hF
 repeat w_go ai.trans
 refine dH Y hF λd c k j g h i e hF=>?_;refine rU (d1:=1) G e Kg (stepG_mark0 .disable A_ Y Y BJ Y func73 Cq Cr Cs Ct) Y n (akT (f1:=f+5) KX) A_ Y ?_;clear e i j c;refine bk G ?_;walk_nrm
 repeat w_go ai.trans
 refine dH Y hF λd c k j g h i e hF=>?_;by_cases o:h.mu.word=0;focus
  have hcell:=ly e.mt.1;rw[o]at hcell;obtain⟨u,D,t,C⟩:=Tr o;have r:(1:Int)=(({h.mu with L:=true,W:=s6 .lQ h.mu.W}:bj).word:Int):=by grind[bj.word,s6]
  refine Ab G e (y:=.own) (m1:={h.mu with L:=true,W:=s6 .lQ h.mu.W}) (f1:=f+2) (stepG_cas_hit Y Y BJ Y func128 xR xS xT .i32 xU Y Y Y hcell (pm e.mt.1 0 none)) r Y A_ Y n (RD Kg u t A_) A_ ?_;replace hF:=ai.trans hF (uR (A:=A) (mine:=mine) v g 0 none (.int .i32 (({h.mu with L:=true,W:=s6 .lQ h.mu.W}:bj).word:Int)));clear u D t C r hcell o;clear e i j c;refine bk G ?_;walk_nrm
  repeat w_go ai.trans
  refine dH Y hF λd c k j g h i e hF=>?_;refine rU G e K1 (stepG_mark0 .enable A_ Y Y BJ Y func74 qy qz qA qB) Y n (rS (f1:=f+1) KX _) A_ Y ?_;clear e i j c;refine bk G ?_;walk_nrm
  repeat w_go ai.trans
  refine dH Y hF λd c k j g h i e hF=>?_;refine lz (F7 Y Y BJ Y Y (ly e.mt.1)) Y Y (.refl _) Y Y ?_;clear e i j c;refine bk G ?_;walk_nrm
  repeat w_go ai.trans
  refine dH Y hF λd c k j g h i e hF=>?_;refine RH G e (f1:=f) (stepG_markAt .acquire A_ Y Y BJ Y func87 F3 F4 F5 F6 B4) Y n Y Y Y KX ?_;clear e i j c
 rotate_left
 focus
  refine L5 (stepG_cas_miss Y Y BJ Y func128 xR xS xT .i32 xU Y Y Y (ly e.mt.1) (pm e.mt.1 0 none) As) Y A_ ?_;clear o;clear e i j c;refine bk G ?_;walk_nrm
  repeat w_go ai.trans
  u_call func129 ao_ f129 ai.trans hF
  refine Goes.stop (λl q=>⟨Y,λB _=>aqo G n e9 v (λp E s=>?_) l B (ai.refl _ _ _)⟩);replace hF:=ai.trans hF (ai.trans q s);clear q s
 rotate_left
 all_goals
  refine bk G ?_;walk_nrm
  repeat w_go ai.trans
  u_leave0 func116 ai.trans hF
  repeat w_go ai.trans
  u_leave0 func92 ai.trans hF
  exact Goes.stop (λd c=>⟨Y,λk _=>x d k (ai.trans hF c)⟩)
end
end
end bO
namespace pE
open Conc RowKit Conc.Lib ConcR.Gen ConcM av bn ah hZ fO iE bO
def z9:prog.underlying 91=some (.slice 71):=by simp
theorem aqC:(prog.info? 71).map (λi=>(i.zero,i.size,i.bytes))=some (some (.slice none 0 0),1,24):=by kernel_rfl
def z7{a:Act}{b:Frame}{o:Oper}{x y:Operand}{N:Nat}(a0:N<=2000000)(c:o.op=.makeSlice 91 x y)(j:a.eval x=.int .i64 (N:Int))(h:a.eval y=.int .i64 (N:Int))(w:aO):
 (execOp a.eval o).run prog w=.ok (.value (.slice (some ⟨w.heap.size,0,none⟩) N N)) (w.alloc (.cells (madeCells #[.slice none 0 0] N) 71))/\listed prog b.fn a o w=#[]:=by
 obtain⟨i,hi,e⟩:=Option.map_eq_some_iff.1 aqC;simp at e;obtain⟨h1,k,h3⟩:=e;have f:(i.bytes:Int)*(N:Int)<=281474976710656:=AA;have d:=run_makeSlice (P:=prog) w 91 71 i (.slice none 0 0) z9 hi h1 .i64 .i64 (N:Int) (N:Int) As (Int.le_refl _) AA f As;have g:=events_make (P:=prog) w 91 71 i (.slice none 0 0) z9 hi h1 .i64 .i64 (N:Int) (N:Int) As (Int.le_refl _) f As AA #[];simp[k]at d;unfold listed execOp;simp only[c,j,h];constructor
 .simp[d];rfl
 .simp[g,seen_none]
section
variable{ST:Bool->eV.Lo->aV->Prop}
def TR{S d N:Nat}(y:0<d)(a0:N=(S+d-1) / d)(hS:S<=1000000)(z:d<=1000000){M:Nat->Prop}{w0:aO}{bs:List (Nat×Obj)}:
 i_ prog ST true 51 #[.int .i64 (S:Int),.int .i64 (d:Int)] (je eV () M w0 bs) (λu q=>∃st bF,u=.pointer (some ⟨st,0,none⟩)/\q=je eV () M w0 ((st,.cells #[.int .i32 0,.int .u32 0,.int .i64 (S:Int),.int .i64 (d:Int),.int .i64 0,.int .i64 0,.slice (some ⟨bF,0,none⟩) N N,.slice none 0 0] 175)::(bF,.cells (madeCells #[.slice none 0 0] N) 71)::bs)):=by
 intro a2 aF aD aI aL aH csZ hK w γ hF;have m:=tk.nh;obtain⟨j,B,p⟩:∃j:Nat,IntKind.wrap .i64 ((S:Int)+(d:Int))=(j:Int)/\qE (j=S+d):=⟨S+d,Gc,Y⟩;obtain⟨i,A,x⟩:∃i:Nat,IntKind.wrap .i64 ((j:Int)-1)=(i:Int)/\qE (i=S+d-1):=⟨S+d-1,by grind[IntKind.wrap_i64],Y⟩;have hq:Int.tdiv (i:Int) (d:Int)=(N:Int):=by grind[qE.out]
 have o:N<=2000000:=by rw[a0];exact Nat.le_trans (Nat.div_le_self _ _) As
 replace a0:qE (N=(S+d-1) / d):=a0;have t:IntKind.wrap .i64 (N:Int)=(N:Int):=Gc;have s:¬d=0:=As;rw[enter_at _ func51 Y];refine tU (γ:=()) tk (λ_ _ h=>h) 200 _ _ _ trivial ?_;unfold je at hF⊢;walk_nrmf f51
 repeat w_go af.on
 refine g9 Y hF λe c n g a r l k hF=>?_;refine s7 AA m Y hF (stepG_value Y Y BJ (z7 (b:=base 51) o Y Y Y a).1) Y (z7 o Y Y Y a).2 (λf=>?_);clear hF;have hF:=f;clear f k l g c;generalize a.heap.size=bF at hF⊢;generalize a.alloc (.cells (madeCells #[.slice none 0 0] N) 71)=w3 at hF⊢;refine tU (γ:=()) tk (λ_ _ h=>h) 200 _ _ _ trivial ?_;walk_nrm
 repeat w_go af.on
 refine g9 Y hF λe c n g a r l k hF=>?_;refine s7 AA m Y hF (stepG_value (v:=.pointer (some ⟨a.heap.size,0,none⟩)) (w':=a.alloc (.cells #[.int .i32 0,.int .u32 0,.int .i64 (S:Int),.int .i64 (d:Int),.int .i64 0,.int .i64 0,.slice (some ⟨bF,0,none⟩) N N,.slice none 0 0] 175)) Y Y BJ Be) Y Bs (λf=>?_);clear hF;have hF:=f;clear f k l g c;generalize a.heap.size=st at hF⊢;generalize a.alloc (.cells #[.int .i32 0,.int .u32 0,.int .i64 (S:Int),.int .i64 (d:Int),.int .i64 0,.int .i64 0,.slice (some ⟨bF,0,none⟩) N N,.slice none 0 0] 175)=w3 at hF⊢;refine tU (γ:=()) tk (λ_ _ h=>h) 200 _ _ _ trivial ?_;walk_nrm
 repeat w_go af.on
 u_in af.on hF
 refine goes_leave1 Y Y func51 Y ⟨E4,?_⟩;refine Goes.stop (λe c=>⟨Y,λn g=>?_⟩);replace hF:=hF.on c;simp_all[je]
end
theorem TT:(f51.name== "runtime.NumGoroutine")=false:=by kernel_rfl
section
variable{ST:Bool->eV.Lo->aV->Prop}
variable{a2:Frame}{aF:Act}{aD:Array Oper}{aI:Nat}{aL:List Nat}{aH:List Item}{csZ:List Frame}
def aqD{S c N W:Nat}(B:0<c)(a0:N=(S+c-1) / c)(hS:S<=1000000)(D:c<=1000000){jt:TypeId}{d I:Value}{J:FuncId}{M:Nat->Prop}{w0:aO}(hinv:∀w,(callMethod (.iface jt d) "Size" #[]).run prog w=.ok (.enter J (#[I]++#[])) w/\(callMethod (.iface jt d) "Size" #[]).events prog w #[]=#[])(wu:∀bs,i_ prog ST true J (#[I]++#[]) (je eV () M w0 bs) (λu bY=>u=.int .i64 (S:Int)/\bY=je eV () M w0 bs))(F:∀st bF l g j wg bs w'(L dC dQ P Q ft eW fu fv fx fy fG X fA fB O fC V U T:Value),af eV M w0 bs w'->(∀x∈[(wg,Obj.cells #[.int .u64 0,.int .u32 0] 139),(l,Obj.cells #[.pointer (some ⟨st,0,none⟩)] 127),(st,Obj.cells #[.int .i32 0,.int .u32 0,.int .i64 (S:Int),.int .i64 (c:Int),.int .i64 0,.int .i64 0,.slice (some ⟨bF,0,none⟩) N N,.slice none 0 0] 175),(bF,Obj.cells (madeCells #[.slice none 0 0] N) 71),(j,Obj.cells #[.iface jt d] 126),(g,Obj.cells #[.int .i64 (W:Int),.int .i64 (c:Int)] 67)],x∈bs)->(∀x∈bs,x∈[(wg,Obj.cells #[.int .u64 0,.int .u32 0] 139),(l,Obj.cells #[.pointer (some ⟨st,0,none⟩)] 127),(st,Obj.cells #[.int .i32 0,.int .u32 0,.int .i64 (S:Int),.int .i64 (c:Int),.int .i64 0,.int .i64 0,.slice (some ⟨bF,0,none⟩) N N,.slice none 0 0] 175),(bF,Obj.cells (madeCells #[.slice none 0 0] N) 71),(j,Obj.cells #[.iface jt d] 126),(g,Obj.cells #[.int .i64 (W:Int),.int .i64 (c:Int)] 67)])->bh eV prog ST true () () ⟨Conc.G ((base 39).at ⟨#[L,dC,dQ,.pointer (some ⟨j,0,none⟩),P,Q,.pointer (some ⟨l,0,none⟩),.pointer (some ⟨wg,0,none⟩),ft,eW,fu,fv,fx,fy,.int .i64 (W:Int),.int .i64 (0:Int),fG,X,fA,fB,O,fC,V,U,T],[]⟩ [.code ((bO.dp (f39.body.getD .skip)).getD .skip),.inLoop ((bO.dp (f39.body.getD .skip)).getD .skip),.inBlock 0,.code ((bO.dR 8 (f39.body.getD .skip)).getD .skip)]) (a2.at aF (.inRegion aD (aI::aL)::aH)::csZ),w',cd M bs⟩)(w:aO)(hk:af eV M w0 [] w):
 bh eV prog ST true () () ⟨Conc.G (Frame.enter prog 39 #[.agg #[.int .i64 (W:Int),.int .i64 (c:Int)],.iface jt d] .normal) (a2.at aF (.inRegion aD (aI::aL)::aH)::csZ),w,cd M []⟩:=by
 have hF:=hk;have t:=tk.nh;have K:prog.follows .mixedOrders=true:=BA;rw[enter_at _ func39 Y];refine tU (γ:=()) tk AA 200 _ _ _ trivial ?_;walk_nrmf f39
 repeat w_go af.on
 refine g9 Y hF λf b y n a E s q hF=>?_;refine s7 AA t Y hF (stepG_value (v:=.pointer (some ⟨a.heap.size,0,none⟩)) (w':=a.alloc (Obj.cells #[.int .i64 (W:Int),.int .i64 (c:Int)] 67)) Y Y BJ Be) Y Bs (λm=>?_);clear hF;have hF:=m;clear m q s n b;generalize a.heap.size=g at hF⊢;generalize a.alloc (Obj.cells #[.int .i64 (W:Int),.int .i64 (c:Int)] 67)=w3 at hF⊢;refine tU (γ:=()) tk AA 200 _ _ _ trivial ?_;walk_nrm
 repeat w_go af.on
 refine g9 Y hF λf b y n a E s q hF=>?_;refine s7 AA t Y hF (stepG_value (v:=.pointer (some ⟨a.heap.size,0,none⟩)) (w':=a.alloc (Obj.cells #[.iface jt d] 126)) Y Y BJ Be) Y Bs (λm=>?_);clear hF;have hF:=m;clear m q s n b;generalize a.heap.size=j at hF⊢;generalize a.alloc (Obj.cells #[.iface jt d] 126)=w3 at hF⊢;refine tU (γ:=()) tk AA 200 _ _ _ trivial ?_;walk_nrm
 repeat w_go af.on
 refine Goes.stop (λf b=>⟨Y,λy n=>?_⟩);replace hF:=hF.on b;clear b n;have mn:∀bs:List (Nat×Obj),(j,Obj.cells #[.iface jt d] 126)∈bs->(g,Obj.cells #[.int .i64 (W:Int),.int .i64 (c:Int)] 67)∈bs->∀x∈[(g,Obj.cells #[.int .i64 (W:Int),.int .i64 (c:Int)] 67),(j,Obj.cells #[.iface jt d] 126)],Cp x M w0 bs:=by
  intro bs h1 R x H;simp at H;rcases H with rfl|rfl
  .exact .inl R
  .exact .inl h1
 refine BC (Z:=eV) (C:=Nc eV () [(g,Obj.cells #[.int .i64 (W:Int),.int .i64 (c:Int)] 67),(j,Obj.cells #[.iface jt d] 126)]) AA BJ K Nd aoS (σ:=je eV () M w0 [(j,Obj.cells #[.iface jt d] 126),(g,Obj.cells #[.int .i64 (W:Int),.int .i64 (c:Int)] 67)]) (hN:=rW prog ST true _ _ _ _ []) Kj ⟨_,_,_,AA,Y⟩ ?_ _ y hF;walk_nrm
 refine ja (i:=0) (v:=.iface jt d) Nd Y AV AV AV (Rk Y (z:=(j,Obj.cells #[.iface jt d] 126)) A_ Y (λw k=>?_)) ⟨_,_,_,AA,Y⟩ ?_
 .have p:w.cell? ⟨j,0,none⟩=some (.iface jt d):=by simp[World.cell?,k]
  refine⟨Be,λe r=>⟨0,?_⟩⟩;have o:=mem_listed r;simp[go_sem,p]at o;grind
 walk_nrm
 refine eA 2 (.pointer (some ⟨g,1,none⟩)) ?_ Nd ⟨_,_,_,AA,Y⟩;walk_nrm
 refine ja (i:=3) (v:=.int .i64 (c:Int)) Nd Y AV AV AV (Rk Y (z:=(g,Obj.cells #[.int .i64 (W:Int),.int .i64 (c:Int)] 67)) A_ Y (λw k=>?_)) ⟨_,_,_,AA,Y⟩ ?_
 .have p:w.cell? ⟨g,1,none⟩=some (.int .i64 (c:Int)):=by simp[World.cell?,k]
  refine⟨Be,λe r=>⟨1,?_⟩⟩;have o:=mem_listed r;simp[go_sem,p]at o;grind
 walk_nrm
 refine RP (rs:=[1,5]) AV A_ (λi hi=>?_);simp at hi;rcases hi with rfl|rfl;focus
  refine(zL Y Y (zN (λw=>R3 (rv:=.iface jt d) (vs:=#[]) Y Y D5 (hinv w)) (wu _) ?_));rintro u _ ⟨rfl,rfl⟩;refine⟨⟨_,_,_,AA,Y⟩,?_⟩;walk_nrm
  refine RP (rs:=[4,5]) AV A_ (λi hi=>?_);simp at hi;rcases hi with rfl|rfl;focus
   refine(zL Y Y (zN (λw=>rh (vs:=#[.int .i64 (S:Int),.int .i64 (c:Int)]) Y func51 TT Y D5 w) (TR B a0 hS D) ?_));rintro u _ ⟨st,bF,rfl,rfl⟩;refine⟨⟨_,_,_,AA,Y⟩,?_⟩;walk_nrm
   refine r6 (i:=5) AV (xv Y Y (Tf t (ob:=Obj.cells #[.pointer none] 127) (λw=>⟨Be,Bs⟩) (λl=>⟨⟨_,_,_,AA,Y⟩,?_⟩)));walk_nrm
   refine r6 (i:=6) AV (xv Y Y (Tg Y (pre:=[]) (post:=[(st,Obj.cells #[.int .i32 0,.int .u32 0,.int .i64 (S:Int),.int .i64 (c:Int),.int .i64 0,.int .i64 0,.slice (some ⟨bF,0,none⟩) N N,.slice none 0 0] 175),(bF,Obj.cells (madeCells #[.slice none 0 0] N) 71),(j,Obj.cells #[.iface jt d] 126),(g,Obj.cells #[.int .i64 (W:Int),.int .i64 (c:Int)] 67)]) (new:=#[.pointer (some ⟨st,0,none⟩)]) (λw k=>?_) ⟨⟨_,_,_,AA,Y⟩,?_⟩))
  rotate_left 2
  focus
   refine(xv Y Y (Tf t (ob:=Obj.cells #[.pointer none] 127) (λw=>⟨Be,Bs⟩) (λl=>⟨⟨_,_,_,AA,Y⟩,?_⟩)));walk_nrm
   refine r6 (i:=4) AV (zL Y Y (zN (λw=>rh (vs:=#[.int .i64 (S:Int),.int .i64 (c:Int)]) Y func51 TT Y D5 w) (TR B a0 hS D) ?_));rintro u _ ⟨st,bF,rfl,rfl⟩;refine⟨⟨_,_,_,AA,Y⟩,?_⟩;walk_nrm
   refine r6 (i:=6) AV (xv Y Y (Tg Y (pre:=[(st,Obj.cells #[.int .i32 0,.int .u32 0,.int .i64 (S:Int),.int .i64 (c:Int),.int .i64 0,.int .i64 0,.slice (some ⟨bF,0,none⟩) N N,.slice none 0 0] 175),(bF,Obj.cells (madeCells #[.slice none 0 0] N) 71)]) (post:=[(j,Obj.cells #[.iface jt d] 126),(g,Obj.cells #[.int .i64 (W:Int),.int .i64 (c:Int)] 67)]) (new:=#[.pointer (some ⟨st,0,none⟩)]) (λw k=>?_) ⟨⟨_,_,_,AA,Y⟩,?_⟩))
 rotate_left 4
 focus
  refine(xv Y Y (Tf t (ob:=Obj.cells #[.pointer none] 127) (λw=>⟨Be,Bs⟩) (λl=>⟨⟨_,_,_,AA,Y⟩,?_⟩)));walk_nrm
  refine r6 (i:=1) AV (zL Y Y (zN (λw=>R3 (rv:=.iface jt d) (vs:=#[]) Y Y D5 (hinv w)) (wu _) ?_));rintro u _ ⟨rfl,rfl⟩;refine⟨⟨_,_,_,AA,Y⟩,?_⟩;walk_nrm
  refine r6 (i:=4) AV (zL Y Y (zN (λw=>rh (vs:=#[.int .i64 (S:Int),.int .i64 (c:Int)]) Y func51 TT Y D5 w) (TR B a0 hS D) ?_));rintro u _ ⟨st,bF,rfl,rfl⟩;refine⟨⟨_,_,_,AA,Y⟩,?_⟩;walk_nrm
  refine r6 (i:=6) AV (xv Y Y (Tg Y (pre:=[(st,Obj.cells #[.int .i32 0,.int .u32 0,.int .i64 (S:Int),.int .i64 (c:Int),.int .i64 0,.int .i64 0,.slice (some ⟨bF,0,none⟩) N N,.slice none 0 0] 175),(bF,Obj.cells (madeCells #[.slice none 0 0] N) 71)]) (post:=[(j,Obj.cells #[.iface jt d] 126),(g,Obj.cells #[.int .i64 (W:Int),.int .i64 (c:Int)] 67)]) (new:=#[.pointer (some ⟨st,0,none⟩)]) (λw k=>?_) ⟨⟨_,_,_,AA,Y⟩,?_⟩))
 all_goals
  first
  |have p:w.cell? ⟨l,0,none⟩=some (.pointer none):=by simp[World.cell?,k]
   have rm:w.frozen? ⟨l,0,none⟩=false:=by simp[World.frozen?,k]
   have cb:w.setCell ⟨l,0,none⟩ (.pointer (some ⟨st,0,none⟩))=w.setRow l #[.pointer (some ⟨st,0,none⟩)]:=setCell_eq_setRow w l 0 #[.pointer none] 127 (0,0) (.pointer (some ⟨st,0,none⟩)) k;refine⟨by rw[<-cb];go_simp,λe r=>⟨0,?_⟩⟩;have o:=mem_listed r;simp[go_sem]at o;rw[Go.events_store _ _ _ _ _ _ Y,p]at o;grind
  |walk_nrm
   refine BB AV ?_ _;intro A eE m;replace hF:af eV M w0 _ A:=m;clear m;unfold je;refine tU (γ:=()) tk AA 200 _ _ _ trivial ?_;walk_nrm
   repeat w_go af.on
   refine g9 Y hF λf b y n a E s q hF=>?_;refine s7 AA t Y hF (stepG_value (v:=.pointer (some ⟨a.heap.size,0,none⟩)) (w':=a.alloc (Obj.cells #[.int .u64 0,.int .u32 0] 139)) Y Y BJ Be) Y Bs (λm=>?_);clear hF;have hF:=m;clear m q s n b;generalize a.heap.size=wg at hF⊢;generalize a.alloc (Obj.cells #[.int .u64 0,.int .u32 0] 139)=w3 at hF⊢;refine tU (γ:=()) tk AA 200 _ _ _ trivial ?_;walk_nrm
   repeat w_go af.on
   refine g9 Y hF λf b y n a E s q hF=>?_;have k:=hF.cL (g,Obj.cells #[.int .i64 (W:Int),.int .i64 (c:Int)] 67) A_;have p:a.cell? ⟨g,0,none⟩=some (.int .i64 (W:Int)):=by simp[World.cell?,k]
   refine rY AA Y AA (stepG_value (v:=.int .i64 (W:Int)) Y Y BJ Be) Y (λe r=>?_) ?_
   .have o:=mem_listed r;simp[go_sem,p]at o;subst o;exact⟨Y,.inr (.inr A_)⟩
   clear k p q s n b;refine tU (γ:=()) tk AA 200 _ _ _ trivial ?_;walk_nrm
   iterate 4 w_go af.on
   refine Goes.stop (λf b=>⟨Y,λy n=>?_⟩);replace hF:=hF.on b;simp only[f39,Option.getD_some,bO.dp,bO.dR,Nat.reduceBEq,Bool.false_eq_true,↓reduceIte]at F;exact F st bF l g j wg _ f (.agg #[.int .i64 (W:Int),.int .i64 (c:Int)]) (.iface jt d) (.pointer (some ⟨g,0,none⟩)) _ _ (.iface jt d) (.int .i64 (S:Int)) (.pointer (some ⟨g,1,none⟩)) (.int .i64 (c:Int)) (.pointer (some ⟨st,0,none⟩)) (.pointer (some ⟨g,0,none⟩)) undef undef undef undef undef undef undef undef undef hF A_ A_
end
end pE
end Go.Proofs.YtncomcmfgmojkaaGreat
