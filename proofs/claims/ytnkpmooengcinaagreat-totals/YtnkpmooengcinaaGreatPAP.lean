import Derived.Test.YtnkpmooengcinaaGreatPAK
import Derived.Test.YtnkpmooengcinaaGreatPAM
set_option linter.all false
set_option maxRecDepth 100000
set_option maxHeartbeats 16000000
namespace Go.Proofs.YtnkpmooengcinaaGreat
open Go.Proofs.Tryz
namespace bM
open Conc RowKit Conc.Lib ConcR.Gen ConcM av bn ae
def qC(p:Prop):Prop:=p
theorem qC.out{p:Prop}(h:qC p):p:=h
variable{cA it old:Int}{w:aH}
section
variable{A:e5}{Stop:Bool->ae.Lo A.ao->aV->Prop}{m:Bool}{mine:c5}
variable{aY:Frame}{aF:Act}{az:eQ}{aI:Nat}{aK:uag}{aG:uab}{csZ:fA}
theorem anx(G:A.Good){l:ae.Lo A.ao}{γ:ae.aM A.aN}{sv:Bool}(a5:∀w' c,(ak A).dH l γ c->ai (ak A) mine w w'->tN A Stop m mine aY aF az aI aK aG csZ l c cA sv true it old w'):
 wQ A Stop m mine aY aF az aI aK aG csZ l γ cA sv true it old w:=by
 unfold wQ jG;intros
 unfold tN jG at a5;have hF:=ai.refl (ak A) mine w;simp only[f118,vah,dA,kR,ed,FI,Nat.reduceBEq,vai,↓reduceIte]at a5⊢;refine a8 G ?_;u_c vdu ai.trans hF
 u_c vdu ai.trans hF
 repeat w_but "code.seq" ai.trans
 exact vaf (λa b=>⟨U,λe d=>a5 a e d (ai.trans hF b) ..⟩)
theorem anz(G:A.Good){l:ae.Lo A.ao}{γ:ae.aM A.aN}{sv:Bool}(f:bits .and .i32 old 2=2)(a5:∀w' c,(ak A).dH l γ c->ai (ak A) mine w w'->tN A Stop m mine aY aF az aI aK aG csZ l c cA sv false it old w'):
 wQ A Stop m mine aY aF az aI aK aG csZ l γ cA sv false it old w:=by
 unfold wQ jG;intros
 unfold tN jG at a5;have hF:=ai.refl (ak A) mine w;simp only[f118,vah,dA,kR,ed,FI,Nat.reduceBEq,vai,↓reduceIte]at a5⊢;refine a8 G ?_;u_c vdu ai.trans hF
 u_c vdu ai.trans hF
 repeat w_but "code.seq" ai.trans
 exact vaf (λa b=>⟨U,λe d=>a5 a e d (ai.trans hF b) ..⟩)
theorem anA(G:A.Good){l:ae.Lo A.ao}{γ:ae.aM A.aN}{sv:Bool}(f:bits .and .i32 old 2=0)(hk:old / 8=0)(a5:∀w' c,(ak A).dH l γ c->ai (ak A) mine w w'->tN A Stop m mine aY aF az aI aK aG csZ l c cA sv false it old w'):
 wQ A Stop m mine aY aF az aI aK aG csZ l γ cA sv false it old w:=by
 unfold wQ jG;intros
 unfold tN jG at a5;have hF:=ai.refl (ak A) mine w;simp only[f118,vah,dA,kR,ed,FI,Nat.reduceBEq,vai,↓reduceIte]at a5⊢;refine a8 G ?_;u_c vdu ai.trans hF
 u_c vdu ai.trans hF
 repeat w_but "code.seq" ai.trans
 exact vaf (λa b=>⟨U,λe d=>a5 a e d (ai.trans hF b) ..⟩)
def anB(G:A.Good){f:Nat}{a:A.ao}{γ:ae.aM A.aN}{new kk:Int}{sv:Bool}{o:bh}(H:¬A.left a)(K:∀b,A.K b\/mine b->b≠A.st)(l:qC (o.L=true/\o.S=false/\o.W=false))(N:bits .and .i32 (o.word:Int) 2=0)(hk:(o.word:Int) / 8=kk)(M:(kk != 0)=true)(L:bits .or .i32 (o.word:Int) 2=new)(F:qC (new=(({o with W:=true}:bh).word:Int)))(u:∀w' j,j.a4<γ.a4->ai (ak A) mine w w'->tN A Stop m mine aY aF az aI aK aG csZ ⟨.iZ,false,1,f+4,a⟩ j cA sv true it (o.word:Int) w')(v:∀w' j,(j=γ\/j.a4<γ.a4)->ai (ak A) mine w w'->tN A Stop m mine aY aF az aI aK aG csZ ⟨.lO,false,1,f+5,a⟩ j cA sv false it (o.word:Int) w'):
 wQ A Stop m mine aY aF az aI aK aG csZ ⟨.lO,false,1,f+5,a⟩ γ cA sv false it (o.word:Int) w:=by
 unfold wQ jG;intros
 unfold tN jG at u v;have hF:=ai.refl (ak A) mine w;simp only[f118,vah,dA,kR,ed,FI,Nat.reduceBEq,vai,↓reduceIte]at u v⊢;refine a8 G ?_;u_c vdu ai.trans hF
 u_c vdu ai.trans hF
 repeat w_but "code.seq" ai.trans
 refine dO U hF λx e P s k c t i hF=>?_;have z:=(df G).less _ _ _ ((df G).trans _ _ _ _ s t);have O:f+5<=c.a4:=RK i.sees;by_cases B:c.mu.word=o.word
 .obtain⟨D,J,C,I⟩:=yT B;have hcell:=lu i.mt.1;rw[B]at hcell;have hv:new=(({c.mu with W:=true}:bh).word:Int):=by rw[qC.out F];simp only[bh.word,D,C,I]
  refine An G i (y:=.iZ) (m1:={c.mu with W:=true}) (f1:=f+4) (stepG_cas_hit U U Ad U func117 yc yd ye .i32 yf U U U hcell (pn i.mt.1 0 none)) hv U Ab U H (ajt (D.trans l.out.1) (C.trans l.out.2.1) (J.trans l.out.2.2) IY) Ab ?_;replace hF:=ai.trans hF (vl (A:=A) (mine:=mine) K k 0 none (.int .i32 (({c.mu with W:=true}:bh).word:Int)));clear i t s e;refine a8 G ?_;walk_nrm
  repeat w_but "code.seq" ai.trans
  refine vaf (λd p=>⟨U,λr n=>?_⟩);exact u d r (by
   have q:∀g:ae.aM A.aN,(g=({c with mu:={c.mu with W:=true},a4:=c.a4-1}:ae.aM A.aN)\/g.a4<c.a4-1)->g.a4<c.a4:=by
    rintro g (rfl|h)
    .show c.a4-1<c.a4;omega
    .omega
   have:=q r (Or.imp id (λh=>h.1) n);rcases z with E|E
   .simp_all
   .exact Nat.lt_trans this E) (ai.trans hF p) ..
 .refine Lv (stepG_cas_miss U U Ad U func117 yc yd ye .i32 yf U U U (lu i.mt.1) (pn i.mt.1 0 none) AY) U Ab ?_;clear i t s e;refine a8 G ?_;walk_nrm
  repeat w_but "code.seq" ai.trans
  exact vaf (λd p=>⟨U,λr n=>(v d c z (ai.trans hF p) ..).kG (df G) n⟩)
end
variable{w0:aH}
section
section
variable{A:e5}{Stop:Bool->ae.Lo A.ao->aV->Prop}{m:Bool}{mine:c5}
variable{aY:Frame}{aF:Act}{az:eQ}{aI:Nat}{aK:uag}{aG:uab}{csZ:fA}
def MC(f:Nat)(x:bT)(g_:Nat)(sv aw:Bool)(o:bh):Prop:=
 (x=.lO/\g_=f+5/\sv=false/\aw=false)\/(x=.iZ/\f+3<=g_/\g_<=f+4/\aw=true/\o.W=true/\o.S=false)
def Di(γ:ae.aM A.aN)(o:bh)(it:Int):Nat:=γ.a4*16+(if o.word=γ.mu.word then 0 else 8)+(4-it).toNat
def anD{γ a:ae.aM A.aN}{o o':bh}{it':Int}(h:a.a4<γ.a4)(hi:0<=it'):Di a o' it'<Di γ o it:=by grind[Di]
theorem Dj(eR:A.most<=250){l:ae.Lo A.ao}{γ:ae.aM A.aN}(h:g8 (ak A) l γ):γ.mu.k<=250:=by obtain⟨ls,i,hi,hg⟩:=h;have b:=hg.lP.Lp;have a:=hg.len;grind
def anE(G:A.Good){f:Nat}{a:A.ao}(n:¬A.left a)(eR:A.most<=250)(r:∀b,A.K b\/mine b->b≠A.st){γ:ae.aM A.aN}{x:bT}{g_:Nat}{sv aw:Bool}{o:bh}(hok:MC f x g_ sv aw o)(hk:o.k<=250)(R:Behind A Stop m mine aY aF az aI aK aG csZ f a w)(X:∀w' c K M,c.a4<γ.a4->ai (ak A) mine w w'->g8 (ak A) ⟨.iZ,false,1,f+3,a⟩ c->pJ A Stop m mine aY aF az aI aK aG csZ ⟨.iZ,false,1,f+3,a⟩ c K M true 0 (c.mu.word:Int) w')(cX:∀w' c D,(D=γ\/D.a4<γ.a4)->D.mu.word≠o.word->(c=D\/c.a4<D.a4)->ai (ak A) mine w w'->g8 (ak A) ⟨x,false,1,g_,a⟩ c->pJ A Stop m mine aY aF az aI aK aG csZ ⟨x,false,1,g_,a⟩ c cA sv aw it (c.mu.word:Int) w'):
 Am A Stop m mine aY aF az aI aK aG csZ ⟨x,false,1,g_,a⟩ γ cA sv aw it (o.word:Int) w:=by
 have s:o.k<256:=AY;have u:∀(w1:aH)(bz:ae.aM A.aN),ai (ak A) mine w w1->(bz=γ\/bz.a4<γ.a4)->∀w' c,(c=bz\/c.a4<bz.a4)->c.mu.word≠o.word->ai (ak A) mine w1 w'->vj A Stop m mine aY aF az aI aK aG csZ ⟨x,false,1,g_,a⟩ c cA sv aw it (o.word:Int) false w':=by grind[amQ,ai.trans]
 have queue:∀(w1:aH)(bz:ae.aM A.aN),ai (ak A) mine w w1->(bz=γ\/bz.a4<γ.a4)->(bits .and .i32 (o.word:Int) 5==0)=false->∀w' c,c.a4<bz.a4->ai (ak A) mine w1 w'->vj A Stop m mine aY aF az aI aK aG csZ ⟨.jS,false,1,f+2,a⟩ c cA sv aw it (o.word:Int) true w':=by
  intro w1 bz d h2 P w' c h3 I;have hb:c.a4<γ.a4:=by grind
  refine amR G P (λw2 Z K e T=>amW G n AY r (λv B M il C U=>X v B K M ?_ (ai.trans d (ai.trans I (ai.trans T C))) U) (λv B C=>R v B (ai.trans d (ai.trans I (ai.trans T C)))));grind
 have take:∀(w1:aH)(bz:ae.aM A.aN),ai (ak A) mine w w1->bits .and .i32 (o.word:Int) 5=0->∀w' c,c.a4<bz.a4->ai (ak A) mine w1 w'->vj A Stop m mine aY aF az aI aK aG csZ ⟨.own,false,1,f+2,a⟩ c cA sv aw it (o.word:Int) true w':=
  λw1 bz d P w' c _ I=>amP G P n (λv B C=>R v B (ai.trans d (ai.trans I C)))
 have l:=IT o s;have g:=Y_ o s;have a1:=RI o s;have Q:=amJ o s;have ad:=amL o s;rcases hok with⟨rfl,rfl,rfl,rfl⟩|⟨rfl,nZ,Y,rfl,hW,q⟩
 .cases q:o.S with
  |false=>
   rw[q]at l g;cases j:o.L with
   |false=>rw[j]at g;refine FH G (.inl ⟨rfl,rfl,.inl ⟨l,g,Q⟩⟩) (λw1 bz d e=>FF (y:=.own) G n r AY (λmu=>{mu with L:=true,W:=te .lO mu.W}) (λmu h=>?_) (take w1 bz d g) (u w1 bz d ((df G).less _ _ _ e)));obtain⟨i,F,p,E⟩:=yT h;exact⟨PP Ij (i.trans j) (p.trans q) AY,by grind[bh.word,te],rfl⟩
   |true=>
    rw[j]at g;have J:bits .or .i32 (o.word:Int) 1=(o.word:Int):=by grind[bh.word]
    have t:(bits .and .i32 (o.word:Int) 5==0)=false:=AN;refine FH G (.inl ⟨rfl,rfl,.inr (.inl ⟨l,g,J,ad⟩)⟩) (λw1 bz d e=>FF (y:=.jS) G n r AY (λmu=>{mu with k:=mu.k+1}) (λmu h=>?_) (queue w1 bz d ((df G).less _ _ _ e) t) (u w1 bz d ((df G).less _ _ _ e)));obtain⟨i,F,p,E⟩:=yT h;exact⟨WV (.inl (i.trans j)) AY,Gu,rfl⟩
  |true=>
   rw[q]at l g;have O:(bits .and .i32 (o.word:Int) 5 != 0)=true:=by grind
   have t:(bits .and .i32 (o.word:Int) 5==0)=false:=by grind
   refine FH G (.inl ⟨rfl,rfl,.inr (.inr ⟨l,O,ad⟩)⟩) (λw1 bz d e=>FF (y:=.jS) G n r AY (λmu=>{mu with k:=mu.k+1}) (λmu h=>?_) (queue w1 bz d ((df G).less _ _ _ e) t) (u w1 bz d ((df G).less _ _ _ e)));obtain⟨i,F,p,E⟩:=yT h;exact⟨WV (.inr (p.trans q)) AY,Gu,rfl⟩
 .rw[q]at l g;cases j:o.L with
  |false=>
   rw[j]at g a1;have H:bits .and .i32 (({o with L:=true}:bh).word:Int) 2=2:=by simp_all[IU]
   have z:=RJ ({o with L:=true}:bh) s;have dU:∀w1 bz,ai (ak A) mine w w1->(ak A).dH ⟨.iZ,false,1,g_,a⟩ γ bz->IS A Stop m mine aY aF az aI aK aG csZ ⟨.iZ,false,1,g_,a⟩ bz cA sv true it (o.word:Int) (({o with L:=true,W:=false}:bh).word:Int) w1:=λw1 bz d e=>by refine FF (y:=.own) G n r AY (λmu=>{mu with L:=true,W:=te .iZ mu.W}) (λmu h=>?_) (take w1 bz d g) (u w1 bz d ((df G).less _ _ _ e));obtain⟨i,F,p,E⟩:=yT h;exact⟨PP Io (i.trans j) (p.trans q) AY,by grind[bh.word,te],rfl⟩
   exact FH G (.inr ⟨rfl,_,H,z,l,.inl ⟨g,by cases sv<;>simp_all,Q⟩⟩) dU
  |true=>
   rw[j]at g a1;have J:bits .or .i32 (o.word:Int) 1=(o.word:Int):=by grind[bh.word]
   have t:(bits .and .i32 (o.word:Int) 5==0)=false:=AN;have N:({o with k:=o.k+1}:bh).k<256:=AN;cases sv with
   |false=>
    have H:bits .and .i32 (({o with k:=o.k+1}:bh).word:Int) 2=2:=by simp_all[IU]
    have z:=RJ ({o with k:=o.k+1}:bh) N;refine FH G (.inr ⟨rfl,_,H,z,l,.inr ⟨g,J,.inl ⟨rfl,ad⟩⟩⟩) (λw1 bz d e=>FF (y:=.jS) G n r AY (λmu=>{mu with k:=mu.k+1,W:=false,S:=false}) (λmu h=>?_) (queue w1 bz d ((df G).less _ _ _ e) t) (u w1 bz d ((df G).less _ _ _ e)));obtain⟨i,F,p,E⟩:=yT h;exact⟨WW false (i.trans j) AY,Gu,rfl⟩
   |true=>
    have V:({o with k:=o.k+1,S:=true}:bh).k<256:=N;have cH:=amK ({o with k:=o.k+1}:bh) N;have H:bits .and .i32 (({o with k:=o.k+1,S:=true}:bh).word:Int) 2=2:=by simp_all[IU]
    have z:=RJ ({o with k:=o.k+1,S:=true}:bh) V;refine FH G (.inr ⟨rfl,_,H,z,l,.inr ⟨g,J,.inr ⟨rfl,a1,_,ad,cH⟩⟩⟩) (λw1 bz d e=>FF (y:=.jS) G n r AY (λmu=>{mu with k:=mu.k+1,W:=false,S:=true}) (λmu h=>?_) (queue w1 bz d ((df G).less _ _ _ e) t) (u w1 bz d ((df G).less _ _ _ e)));obtain⟨i,F,p,E⟩:=yT h;exact⟨WW true (i.trans j) AY,Gu,rfl⟩
def anG(G:A.Good){f:Nat}{a:A.ao}(J:¬A.left a)(eR:A.most<=250)(L:∀b,A.K b\/mine b->b≠A.st)(T:Behind A Stop m mine aY aF az aI aK aG csZ f a w0):
 ∀(N:Nat)(γ:ae.aM A.aN)(x:bT)(g_:Nat)(cA it:Int)(sv aw:Bool)(o:bh)(w:aH),MC f x g_ sv aw o->o.k<=250->0<=it->ai (ak A) mine w0 w->Di γ o it<N->pJ A Stop m mine aY aF az aI aK aG csZ ⟨x,false,1,g_,a⟩ γ cA sv aw it (o.word:Int) w:=by
 intro N;induction N with
 |zero=>grind
 |succ N C=>
  intro γ x g_ cA it sv aw o w hok hk B u a5;have O:o.k<256:=AY;have U:=Y_ o O;have ok':∀{c:ae.aM A.aN},g8 (ak A) ⟨x,false,1,g_,a⟩ c->MC f x g_ sv aw c.mu:=λhs=>by
   rcases hok with h|⟨i,d,j,g,_⟩
   .exact .inl h
   .have:=My hs i;exact .inr ⟨i,d,j,g,this.2,this.1⟩
  have lower:∀(c:ae.aM A.aN)(t:bT)(y:Nat)(r it':Int)(q v:Bool)(o':bh)(w':aH),c.a4<γ.a4->MC f t y q v o'->o'.k<=250->0<=it'->ai (ak A) mine w w'->pJ A Stop m mine aY aF az aI aK aG csZ ⟨t,false,1,y,a⟩ c r q v it' (o'.word:Int) w':=
   λc t y r it' q v o' w' i d j g p=>C c t y r it' q v o' w' d j g (ai.trans u p) (by have:=anD (o:=o) (o':=o') (it:=it) i g;omega)
  have M:∀w1 bz,(ak A).dH ⟨x,false,1,g_,a⟩ γ bz->ai (ak A) mine w w1->Am A Stop m mine aY aF az aI aK aG csZ ⟨x,false,1,g_,a⟩ bz cA sv aw it (o.word:Int) w1:=by
   intro w1 bz D i;have S:bz=γ\/bz.a4<γ.a4:=(df G).less _ _ _ D;refine anE G J eR L hok hk (λw' c h=>T w' c (ai.trans u (ai.trans i h))) (λw' c r q d j g=>?_) (λw' c Q d j g p k=>?_)
   .have:=My g rfl;refine lower c .iZ (f+3) r 0 q true c.mu w' ?_ (.inr ⟨rfl,vad _,vcl _,rfl,this.2,this.1⟩) (Dj eR g) (Int.le_refl _) (ai.trans i j);grind
   .
    by_cases s:c.a4<γ.a4
    .grind[Dj,ai.trans]
    .have Z:bz=γ:=by grind
     have Y:Q=γ:=by grind
     have F:c=γ:=by grind
     subst F;refine C c x g_ cA it sv aw c.mu w' (ok' k) (Dj eR k) B (ai.trans u (ai.trans i p)) ?_;have R:o.word≠c.mu.word:=λe=>j AN;unfold Di at a5⊢;grind
  cases H:(o.L&& !o.S)with
  |false=>refine anv G ?_ M;rw[U];cases I:o.L<;>cases E:o.S<;>simp[I,E]at H⊢
  |true=>
   have I:o.L=true:=by grind
   have E:o.S=false:=by grind
   refine anw G AN M (λg w1 bz D i=>?_);have S:bz=γ\/bz.a4<γ.a4:=(df G).less _ _ _ D;have again:∀(w2:aH)(n:ae.aM A.aN),ai (ak A) mine w1 w2->(n=bz\/n.a4<bz.a4)->tN A Stop m mine aY aF az aI aK aG csZ ⟨x,false,1,g_,a⟩ n cA sv aw it (o.word:Int) w2:=by
    intro w2 n d P;refine ZD G B g (λz l j p k=>?_);by_cases s:l.a4<γ.a4
    .grind[Dj,ai.trans]
    .have F:l=γ:=by grind
     subst F;refine C l x g_ cA (it+1) sv aw l.mu z (ok' k) (Dj eR k) AY (ai.trans u (ai.trans i (ai.trans d p))) ?_;unfold Di at a5⊢;grind
   rcases hok with⟨rfl,rfl,rfl,rfl⟩|⟨rfl,W,V,rfl,K,_⟩
   .cases K:o.W with
    |true=>grind[anz,IU]
    |false=>
     have d:bits .and .i32 (o.word:Int) 2=0:=by grind[IU]
     by_cases X:o.k=0
     .grind[anA,IV]
     .refine anB G J L (show qC _ from⟨I,E,K⟩) d (IV o) AN (Zb o O) (show qC (_=_)from rfl) (λw2 n s d=>?_) (λw2 n P d=>again w2 n d P);refine ZD G B g (λz l j p k=>?_);have:=My k rfl;refine lower l .iZ (f+4) cA (it+1) false true l.mu z ?_ (.inr ⟨rfl,vcl _,vad _,rfl,this.2,this.1⟩) (Dj eR k) AY (ai.trans i (ai.trans d p));grind
   grind[anx]
end
end
section
section
variable{A:e5}{Stop:Bool->ae.Lo A.ao->aV->Prop}{m:Bool}{mine:c5}
variable{aY:Frame}{aF:Act}{az:eQ}{aI:Nat}{aK:uag}{aG:uab}{csZ:fA}
def anI(G:A.Good){f:Nat}{a:A.ao}(n:¬A.left a)(eR:A.most<=250)(q:∀b,A.K b\/mine b->b≠A.st)(o:Behind A Stop m mine aY aF az aI aK aG csZ f a w0)(w:aH)(γ:ae.aM A.aN)(p:ai (ak A) mine w0 w):
 bd (ak A) prog Stop m ⟨.lO,false,1,f+5,a⟩ γ ⟨Conc.G ((base 118).at ⟨#[.pointer (some (ae.fI A)),.U,.U,.U,.U,.U,.U,.U,.U,.U,.U,.U,.U,.U,.U,.U,.U,.U,.U,.U,.U,.U,.U,.U,.U,.U,.U,.U,.U,.U,.U,.U,.U,.U,.U,.U,.U,.U,.U,.U,.U,.U,.U,.U,.U,.U,.U,.U,.U,.U,.U,.U,.U,.U,.U,.U,.U,.U,.U,.U,.U,.U,.U,.U,.U,.U,.U,.U,.U,.U,.U,.U,.U,.U,.U,.U,.U,.U,.U,.U,.U,.U,.U,.U,.U,.U,.U,.U,.U,.U,.U,.U,.U,.U,.U,.U,.U,.U,.U,.U,.U,.U,.U,.U,.U,.U,.U,.U,.U,.U,.U,.U,.U,.U,.U,.U,.U,.U,.U,.U,.U,.U,.U,.U,.U,.U,.U,.U,.U,.U,.U,.U,.U,.U,.U,.U,.U,.U,.U],[]⟩ [.code (f118.body.getD .skip)]) (aY.at aF (.inRegion az (aI::aK)::aG)::csZ),w,mine⟩:=by
 have hF:=p;have i:=λ(e:ae.aM A.aN)(w':aH)(h:ai (ak A) mine w0 w')(hs:g8 (ak A) ⟨.lO,false,1,f+5,a⟩ e)=>anG G n eR q o (Di e e.mu 0+1) e .lO (f+5) 0 0 false false e.mu w' (.inl ⟨U,U,U,U⟩) (Dj eR hs) (Int.le_refl _) h IY;unfold pJ jG at i;simp only[f118,vah,dA,kR]at i⊢;refine a8 G ?_;repeat w_go ai.trans
 refine dO U hF λd c t r j s u g hF=>?_;have k:=g.sees;refine lv (Al U U Ad U U (lu g.mt.1) IQ) U U (.refl _) U U ?_;clear g u r c;refine a8 G ?_;walk_nrm
 repeat w_but "code.loop" ai.trans
 u_c stepG_loop ai.trans hF
 exact vaf (λd c=>⟨U,λt l=>(i s d (ai.trans hF c) k ..).kG (df G) l⟩)
def R5(G:A.Good){f:Nat}{a:A.ao}(n:¬A.left a)(eR:A.most<=250)(u:∀b,A.K b\/mine b->b≠A.st)(v:Behind A Stop m mine aY aF az aI aK aG csZ f a w0)(w:aH)(γ:ae.aM A.aN)(x:ai (ak A) mine w0 w):
 bd (ak A) prog Stop m ⟨.idle,false,0,f+6,a⟩ γ ⟨Conc.G ((base 81).at ⟨#[.pointer (some (ae.fI A)),.U,.U,.U,.U,.U],[]⟩ [.code (f81.body.getD .skip)]) (aY.at aF (.inRegion az (aI::aK)::aG)::csZ),w,mine⟩:=by
 have hF:=x;simp only[f81,vah];refine a8 G ?_;repeat w_go ai.trans
 u_call func105 Y3 f105 ai.trans hF
 repeat w_go ai.trans
 refine dO U hF λd c k i g h j e hF=>?_;refine r5 (d1:=1) G e Ij (vbs .disable Ab U U Ad U func62 Ce Cf Cg Ch) U n (ajs (f1:=f+5) IY) Ab U ?_;clear e j i c;refine a8 G ?_;walk_nrm
 repeat w_go ai.trans
 refine dO U hF λd c k i g h j e hF=>?_;by_cases o:h.mu.word=0;focus
  have hcell:=lu e.mt.1;rw[o]at hcell;obtain⟨t,C,s,B⟩:=RH o;have hv:(1:Int)=(({h.mu with L:=true,W:=te .lO h.mu.W}:bh).word:Int):=by grind[bh.word,te]
  refine An G e (y:=.own) (m1:={h.mu with L:=true,W:=te .lO h.mu.W}) (f1:=f+2) (stepG_cas_hit U U Ad U func117 yc yd ye .i32 yf U U U hcell (pn e.mt.1 0 none)) hv U Ab U n (PP Ij t s Ab) Ab ?_;replace hF:=ai.trans hF (vl (A:=A) (mine:=mine) u g 0 none (.int .i32 (({h.mu with L:=true,W:=te .lO h.mu.W}:bh).word:Int)));clear t C s B hv hcell o;clear e j i c;refine a8 G ?_;walk_nrm
  repeat w_go ai.trans
  refine dO U hF λd c k i g h j e hF=>?_;refine r5 G e Io (vbs .enable Ab U U Ad U func63 qv qw qx qy) U n (rZ (f1:=f+1) IY _) Ab U ?_;clear e j i c;refine a8 G ?_;walk_nrm
  repeat w_go ai.trans
  refine dO U hF λd c k i g h j e hF=>?_;refine lv (FE U U Ad U U (lu e.mt.1)) U U (.refl _) U U ?_;clear e j i c;refine a8 G ?_;walk_nrm
  repeat w_go ai.trans
  refine dO U hF λd c k i g h j e hF=>?_;refine PV G e (f1:=f) (vck .acquire Ab U U Ad U func76 FA FB FC FD BF) U n U U U IY ?_;clear e j i c
 rotate_left
 focus
  refine Lv (stepG_cas_miss U U Ad U func117 yc yd ye .i32 yf U U U (lu e.mt.1) (pn e.mt.1 0 none) AY) U Ab ?_;clear o;clear e j i c;refine a8 G ?_;walk_nrm
  repeat w_go ai.trans
  u_call func118 amv f118 ai.trans hF
  refine vaf (λl q=>⟨U,λz _=>anI G n eR u (λp D r=>?_) l z (ai.refl _ _ _)⟩);replace hF:=ai.trans hF (ai.trans q r);clear q r
 rotate_left
 all_goals
  refine a8 G ?_;walk_nrm
  repeat w_go ai.trans
  u_leave0 func105 ai.trans hF
  repeat w_go ai.trans
  u_leave0 func81 ai.trans hF
  exact vaf (λd c=>⟨U,λk _=>v d k (ai.trans hF c)⟩)
end
end
end bM
namespace lI
open RowKit av bB
def nb:(aa prog false).funcs[(144:Nat)]?=some f144:=bo (upd:=false) func144 AT
@[simp] theorem aDZ:cS false 144:=cN nb AT
theorem UD:(aa prog false).funcs[(134:Nat)]?=some f134:=bo (upd:=false) func134 AT
@[simp] theorem aD0:cS false 134:=cN UD AT
theorem m6:fG prog false f116=true:=by decide+kernel
def auT:(aa prog false).funcs[(116:Nat)]?=some f116:=bo (upd:=false) func116 m6
def m5(a:Int)(w:aH):Calls (aa prog false) 144 #[.I a] w λe w'=>e=.returned (.F)/\w'=w:=by
 go_enter nb,ntmps144
 go_wp2
 go_ret
 simp
def mZ(a b:Int)(w:aH):Calls (aa prog false) 134 #[.I a,.I b] w λe w'=>e=.returned (.I (sL a b))/\w'=w:=by
 unfold sL;by_cases c:a<b
 .simp only[c,vbx];go_enter UD,ntmps134
  go_wp2_with (go_at_call 144;refine(m5 _ _).mono ?_;rintro e w' ⟨rfl,rfl⟩)
  go_ret
  simp
 .by_cases d:b<a;focus
   simp only[c,d,vbx,vcj]
  rotate_left
  focus
   simp only[c,d,vcj]
  rotate_left
  all_goals
   go_enter UD,ntmps134
   go_wp2_with (go_at_call 144;refine(m5 _ _).mono ?_;rintro e w' ⟨rfl,rfl⟩)
   go_ret
   simp
theorem auU(a b:Int)(b1 f i g d h:Nat)(w:aH)(m:w.cell? (.a b1 f)=some (.I a))(l:w.cell? (.a g d)=some (.I b)):
 Calls (aa prog false) 116 #[.S b1 f 1 i,.S g d 1 h] w λe _=>∃z:Int,e=.returned (.I z)/\(z<0↔a<b):=by
 go_enter auT,ntmps116
 go_wp2
 go_loopw [11] (λp W=>W=w/\((p=.I 0)\/(p=.I 1/\a=b))) (λp _=>1-(intOf p).toNat)
 case atStart=>exact⟨U,.inl U⟩
 case round=>
  obtain⟨rfl,rfl|⟨rfl,rfl⟩⟩:=hrel
  .by_cases k:a=b
   .subst k;have h0:sL a a=0:=by simp[sL]
    go_wp2_with (go_at_call 134;refine(mZ _ _ _).mono ?_;rw[h0];rintro e w' ⟨rfl,rfl⟩)
    go_roundw
    case rel=>simp
    case measure=>simp[intOf]
   .have h0:(sL a b==0)=false:=by grind[sL]
    have c:Hid (sL a b<0↔a<b):=by grind[sL,Hid]
    generalize j:sL a b=z at h0 c;go_wp2_with (go_at_call 134;refine(mZ _ _ _).mono ?_;rw[j];rintro e w' ⟨rfl,rfl⟩)
    go_ret
    exact⟨z,U,c.out⟩
  .go_wp2
   go_ret
   exact⟨0,U,AY⟩
def oF:(aa prog true).funcs[(19:Nat)]?=some f19:=bo (upd:=true) func19 AT
def Tm(p:Int)(b o k:Nat)(w:aH)(d:w.cell? (.a b o)=some (.I p)):
 Calls (aa prog true) 19 #[.S b o 1 k] w λe w'=>∃g c cs,e=.returned (.S g 0 1 c)/\ag w' g cs 3/\cs[0]?=some (.I p)/\cC w w':=by
 have v:∀W:aH,(binOp .eql 64 (.S b o 1 k) (.N)).run (aa prog true) W=.ok (.F) W:=λW=>by simp[go_sem,binOp,Op.equal];rw[show Op.maxDepth=9999+1 from U,Op.equalIn];simp
 go_enter oF,ntmps19
 obtain⟨x,hi,n,hsz,m⟩:=vbt (show(prog.info? 3).map (λi=>(i.zero,i.size,i.bytes))=some (some (.I 0),1,8)from AU);have HC:Hid (w.cell? (.a b o)=some (.I p)):=d;have q:=dx d;clear d;go_wp2_with (at_builtin;refine wpList_append_grows _ Av _ _ 64 Av 3 x (.I 0) 1 8 AU hi n hsz m AX AX (some (.a w.heap.size 0)) 0 0 [] Av Ab Ab Ab ⟨b,o,none⟩ 1 k [.I p] Av Ab ?_ (by simp[Value.oneCell']) AX AX AX ?_)
 .intro j u h;match j with|0=>have a:=(bm.b4 ((vaa w.heap.size w).alloc IB (.cells #[] 3))) _ _ _ HC.out;simpa[Addr.add]using Eh▸a|j+1=>simp at h
 .intro v' w' t s;go_wp2
  go_ret
  have r:cC w w':=((vaa _ w).alloc IB _).grown s Ab Ab;obtain⟨-,⟨-,h0⟩|⟨g,cap,bc,rfl,hg,f,hn,y,hs,ht⟩⟩:=t
  .omega
  .have h0:bc[0]?=some (.I p):=by have:=vbn (λl:List Value=>l[0]?) ht;simpa using this
   exact⟨g,cap,bc,U,f,h0,r⟩
