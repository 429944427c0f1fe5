import Derived.Test.YtebcnmadaaimoaaGreatP01
import Derived.Conc.MuWords
import Derived.Test.YtebcnmadaaimoaaGreatProg
import Derived.Test.YtebcnmadaaimoaaGreatPAC
set_option linter.all false
set_option maxRecDepth 100000
set_option maxHeartbeats 16000000
namespace Go.Proofs.YtebcnmadaaimoaaGreat
def vda:=@Go.Conc.stepG_add_atomic
open Go.Proofs.Tryz
namespace bo
open Conc ConcM ConcN az
section
section
variable{Z:e_}{Q:cf}{Stop:Bool->Z.Lo->aX->Prop}{m:Bool}{l:Z.Lo}{γ:Z.aN}
theorem AE{mine:c7}:∀(es:ubj)(d:Nat),(∀e∈es,∀d,tO Z l mine d e)->oE Z l mine d es
 | [],_,_=>trivial
 |e::es,d,h=>⟨h e Ab d,AE es _ AF⟩
def qM(X:aX)(fr:c7):aX:=⟨X.g,X.w,λb=>X.mine b\/fr b⟩
end
end
end bo
namespace ag
open Conc ConcM az bo
structure Lo(ap:Type) where
 mx:b6
 tok:Bool
 deaf:Nat
 fuel:Nat
 aj:ap
structure aN(aK:Type) where
 mu:bn
 a6:Nat
 aj:aK
structure fe where
 ap:Type
 aK:Type
 tV:aK->List ap->Prop
 l3:aK->Nat
 CB:Bool->ap->aK->aK->Prop
 RN:ap->aK->Prop
 left:ap->Prop
 past:ap->Bool
 zero:ap->Prop
 st:Nat
 ty:TypeId
 cells:aK->Array Value
 oF:aK->aL->Prop
 CC:Nat->Prop
 hV:Loc->Prop
 e9:Loc->Prop
 K:Nat->Prop
 wg:Addr
 most:Nat
structure fe.Good(A:fe):Prop where
 refl:∀o a b,A.CB o a b b
 trans:∀o a b c d,A.CB o a b c->A.CB o a c d->A.CB o a b d
 RO:∀b w w',(∀k,A.CC k->w'.heap[k]?=w.heap[k]?)->A.oF b w->A.oF b w'
 MI:¬A.CC A.st
 nb:∀b,A.K b->b≠A.st/\¬A.CC b
 ow:∀b aB,A.tV b aB->∃(j:Nat)(a:A.ap),aB[j]?=some a/\¬A.left a/\¬A.RN a b
 zero:∀b(aB:List A.ap)(j:Nat) a,A.tV b aB->aB[j]?=some a->A.zero a->j=0
 hV:∀l,A.hV l->(∃off sp,l=.cell ⟨A.st,off,sp⟩/\2<=off)\/∃b,fq l=some b/\A.CC b
 e9:∀l,A.e9 l->∃b,fq l=some b/\A.CC b
 tM:∀l,A.hV l->¬A.e9 l
def YZ:b6->Bool| .own=>true| _=>false
def fG(A:fe):Addr:=⟨A.st,0,none⟩
def lf(A:fe):Addr:=⟨A.st,1,none⟩
def gS(A:fe)(m:bn)(b:A.aK):Obj:=.cells (#[.int .i32 (m.word:Int),.int .u32 (m.sema:Int)]++A.cells b) A.ty
structure tW(A:fe)(γ:aN A.aK)(ls:List (Lo A.ap)):Prop where
 l4:dx γ.mu (ls.map (·.mx))
 pT:A.tV γ.aj (ls.map (·.aj))
 hY:(ls.map (·.fuel)).sum+2*qN γ.mu (ls.map (·.mx))+A.l3 γ.aj<=γ.a6
 aU:∀(i:Nat)(l:Lo A.ap),ls[i]?=some l->l.tok=true->l.mx=.own
 I6:∀(i:Nat)(l:Lo A.ap),ls[i]?=some l->A.left l.aj->l.mx=.idle
 len:ls.length<=A.most
abbrev al(A:fe):e_ where
 Lo:=Lo A.ap
 aN:=aN A.aK
 a6:=λγ=>γ.a6
 pS:=tW A
 dO:=λl γ ai=>ai=γ\/(ai.a6<γ.a6/\A.CB (YZ l.mx) l.aj γ.aj ai.aj/\yg l.mx γ.mu ai.mu)
 K:=A.K
 hX:=λb=>b=A.st\/A.CC b
 tN:=λγ w=>w.heap[A.st]?=some (gS A γ.mu γ.aj)/\A.oF γ.aj w
 tok:=λl=>l.tok
 deaf:=λl=>l.deaf
 past:=λl=>A.past l.aj
 Left:=λl=>A.left l.aj
 zero:=λl=>A.zero l.aj
 oD:=λl γ=>(l.mx=.kf/\γ.mu.sema=0)\/(l.mx=.idle/\A.RN l.aj γ.aj)
 hV:=A.hV
 e9:=λl=>l=.cell (fG A)\/l=.cell (lf A)\/A.e9 l
 mu:=fG A
 wg:=A.wg
 pa:=λ_ _ _=>False
theorem MJ:∀(l:e8)(i x:Nat),l[i]?=some x->x<=l.sum
 |a::l,0,x,h=>AF
 |a::l,i+1,x,h=>by have:=MJ l i x AF;grind
def FX{A:fe}{ls:List (Lo A.ap)}{i:Nat}{l:Lo A.ap}(h:ls[i]?=some l):(ls.map (·.mx))[i]?=some l.mx:=by grind
theorem RP{ap aK:Type}(f:ap->aK){ls:List ap}{i:Nat}{l l1:ap}(h:ls[i]?=some l)(a:f l1=f l):(ls.set i l1).map f=ls.map f:=by apply vca;grind
def dk{A:fe}(G:A.Good):(al A).Good where
 refl:=AF
 trans:=by
  rintro l a b c (rfl|⟨f,d,s⟩) (rfl|⟨t,p,k3⟩)
  .grind
  .grind
  .grind
  .exact .inr ⟨AF,G.trans _ _ _ _ _ d p,s.trans k3⟩
 less:=by grind
 mt:=λγ w w' hs⟨f,d⟩=>⟨AF,G.RO _ w w' AF d⟩
 nb:=λb m hs=>hs.elim (G.nb b m).1 (G.nb b m).2
 one:=λγ ls i j a b h hi g r m=>by have f:=h.aU i a hi r;have d:=h.aU j b g m;exact h.l4.YW AF AF
 ow:=λγ ls h=>by
  obtain⟨j,a,g,v,u⟩:=G.ow _ _ h.pT;rw[vbc]at g;obtain⟨l,x,rfl⟩:=vaj.1 g;by_cases hq:l.mx=.kf/\γ.mu.sema=0
  .obtain⟨k,y,hk,f,d⟩:=h.l4.alive hq.2 (i:=j) AF;rw[vbc]at hk;obtain⟨o,n,rfl⟩:=vaj.1 hk;exact⟨k,o,n,λe=>f (h.I6 k o n e),AF⟩
  grind
 zero:=λγ ls j l h g q=>G.zero _ _ j l.aj h.pT AF q
 FR:=λl h=>by
  rcases G.hV l h with⟨off,sp,rfl,_⟩|⟨b,f,d⟩
  .exact⟨A.st,U,.inl U⟩
  grind
 Cq:=λl h=>by
  rcases h with rfl|rfl|h
  .exact⟨A.st,U,.inl U⟩
  .exact⟨A.st,U,.inl U⟩
  .obtain⟨b,f,d⟩:=G.e9 l h;grind
 tM:=λl h hs=>by
  rcases hs with rfl|rfl|hs
  .rcases G.hV _ h with⟨off,sp,e,d⟩|⟨b,f,d⟩
   .grind[fG]
   .simp[fq,fG]at f;subst f;exact G.MI d
  .rcases G.hV _ h with⟨off,sp,e,d⟩|⟨b,f,d⟩
   .grind[lf]
   .simp[fq,lf]at f;subst f;exact G.MI d
  .exact G.tM l h hs
def I7{A:fe}(G:A.Good){l:Lo A.ap}{γ:aN A.aK}(hs:ij (al A) l γ){y:b6}{m1:bn}{f1 d1:Nat}{mM:Bool}(h:lZ l.mx y γ.mu m1 l.fuel f1)(ht:mM=true->y=.own)(s:¬A.left l.aj\/y=.idle):
 Cs (al A) l γ ({mx:=y,tok:=mM,deaf:=d1,fuel:=f1,aj:=l.aj}:Lo A.ap) ({mu:=m1,a6:=γ.a6-1,aj:=γ.aj}:aN A.aK):=by
 have key:∀(ls:List (Lo A.ap))(i:Nat),ls[i]?=some l->tW A γ ls->(ls.map (·.fuel)).sum+f1=((ls.set i ({mx:=y,tok:=mM,deaf:=d1,fuel:=f1,aj:=l.aj}:Lo A.ap)).map (·.fuel)).sum+l.fuel/\1<=γ.a6/\
  ((ls.set i ({mx:=y,tok:=mM,deaf:=d1,fuel:=f1,aj:=l.aj}:Lo A.ap)).map (·.fuel)).sum+2*qN m1 ((ls.map (·.mx)).set i y)+A.l3 γ.aj<=γ.a6-1:=by
  intro ls i hi hg;have c:i<ls.length:=(vab.1 hi).1;have q:=(vab.1 hi).2;have e:=FU (ls.map (·.fuel)) i f1 AF;have k:(ls.set i ({mx:=y,tok:=mM,deaf:=d1,fuel:=f1,aj:=l.aj}:Lo A.ap)).map (·.fuel)=(ls.map (·.fuel)).set i f1:=Bc;rw[k];have g:(ls.map (·.fuel))[i]'AF=l.fuel:=AF;rw[g]at e;have t:=h.fuel _ i (FX hi) hg.l4;have r:=MJ (ls.map (·.fuel)) i l.fuel AF;have:=hg.hY;omega
 refine⟨?_,λls i hi hg=>?_⟩
 .obtain⟨ls,i,hi,hg⟩:=hs;grind
 .obtain⟨_,p,k3⟩:=key ls i hi hg;have o:(ls.set i ({mx:=y,tok:=mM,deaf:=d1,fuel:=f1,aj:=l.aj}:Lo A.ap)).map (·.mx)=(ls.map (·.mx)).set i y:=Bc;have n:(ls.set i ({mx:=y,tok:=mM,deaf:=d1,fuel:=f1,aj:=l.aj}:Lo A.ap)).map (·.aj)=ls.map (·.aj):=RP _ hi U;have c:i<ls.length:=(vab.1 hi).1;refine⟨⟨by rw[o];exact h.inv _ i (FX hi) hg.l4,by rw[n];exact hg.pT,AF,λj b a hk=>?_,λj b a hk=>?_,by rw[vek];exact hg.len⟩,λj f a m=>.inr ⟨AF,G.refl _ _ _,h.iv _ i j f.mx hg.l4 (FX hi) a (FX m)⟩⟩
  .by_cases d:j=i
   .grind
   .rw[vba (Ne.symm d)]at a;exact hg.aU j b a hk
  .by_cases d:j=i
   .grind
   .rw[vba (Ne.symm d)]at a;exact hg.I6 j b a hk
end ag
namespace ag
open Conc az bo
structure ak(Z:e_)(mine:c7)(w w1:aL):Prop where
 heap:∀b,Z.K b\/mine b->w1.heap[b]?=w.heap[b]?
 size:w.heap.size<=w1.heap.size
 later:Go.ConcM.OsLater w.os w1.os
 output:w1.output=w.output
 tape:w1.tape=w.tape
theorem ak.refl(Z:e_)(mine:c7)(w:aL):ak Z mine w w:=⟨λ_ _=>U,vac _,.refl _,U,U⟩
theorem ak.trans{Z:e_}{mine:c7}{a b c:aL}(h:ak Z mine a b)(k:ak Z mine b c):ak Z mine a c:=
 ⟨λx d=>(k.heap x d).trans (h.heap x d),vad h.size k.size,h.later.trans k.later,k.output.trans h.output,k.tape.trans h.tape⟩
theorem kC{mine:c7}{w w1:aL}(h:w1.heap.size=w.heap.size):grown mine w w1=mine:=by grind[grown]
variable{g:uai}
section
variable{Z:e_}{Q:cf}{Stop:Bool->Z.Lo->aX->Prop}{m:Bool}{l:Z.Lo}
def dP.rw{γ:Z.aN}{X:aX}{w':aL}(h:dP Z l γ X w'):ak Z X.mine X.w w':=⟨h.rely.heap,h.rely.size,h.later,h.output,h.tape⟩
def amd{mine:c7}{D:aL->aL->Array Event->Prop}{S:Goroutine->aL->Prop}:∀{n:Nat}{g:uai}{w:aL},Goes Q m (ak Z mine) D (λg w=>g.status=.running/\S g w) n g w->g.status=.running
 |0,_,w,h=>(h w (.refl _ _ _)).1
 | _+1,_,w,h=>h.elim (λh=>(h w (.refl _ _ _)).1) (λh=>h.1)
def dY{mine:c7}{X:Z.aN->Prop}{n:Nat}{w0 w:aL}(hs:g.status=.running)(hF:ak Z mine w0 w)(h:∀b,ak Z mine w b->∀e,X e->∀a d,Z.dO l e d->dP Z l d ⟨g,b,mine⟩ a->ak Z mine w0 a->Then Q Stop m l d ⟨g,b,mine⟩ a):
 Goes Q m (ak Z mine) Go.ConcR.DC0 (λg w=>g.status=.running/\∀i,X i->bg Z Q Stop m l i ⟨g,w,mine⟩) n g w:=
 vah λb c=>⟨hs,λe k=>bg.mk hs λa d j f=>h b c e k a d j f ((hF.trans c).trans (dP.rw f))⟩
theorem va(G:Z.Good)(d:∀g g1,¬Z.pa l g g1){mine:c7}{γ:Z.aN}:∀(n:Nat)(g:uai)(w:aL)(bF:Z.aN),Z.dO l γ bF->
 Goes Q m (ak Z mine) Go.ConcR.DC0 (λg w=>g.status=.running/\∀a,Z.dO l γ a->bg Z Q Stop m l a ⟨g,w,mine⟩) n g w->bg Z Q Stop m l bF ⟨g,w,mine⟩
 |0,g,w,bF,b,h=>(h w (.refl _ _ _)).2 bF b
 |n+1,g,w,bF,b,h=>by
  rcases h with h|⟨hs,h⟩
  .exact(h w (.refl _ _ _)).2 bF b
  .refine bg.mk hs λw' a i f=>?_;have:=h w' (dP.rw f);cases hst:stepG Q m g w' with
   |go g1 w1 es=>
    rw[hst]at this;obtain⟨⟨rfl,rfl⟩,c⟩:=this;have hg:grown mine w1 w1=mine:=kC U;refine .quiet hst ⟨?_,⟨AF,vac _,.refl _,U,U⟩,λ_ _ _=>U,NE,?_⟩ ?_
    .exact amd c
    .rintro(⟨e,j,_⟩|h)
     .grind
     grind
    .show bg Z Q Stop m l a ⟨g1,w1,grown mine w1 w1⟩;rw[hg];exact va G d n g1 w1 a (G.trans _ _ _ _ b i) c
   | _=>rw[hst]at this;exact this.elim
end
variable{d1 f1:Nat}
def RQ{A:fe}(G:A.Good){l:Lo A.ap}{γ:aN A.aK}(hs:ij (al A) l γ){a1:A.ap}{b1:A.aK}{mM:Bool}(k:∀(aB:List A.ap)(i:Nat),aB[i]?=some l.aj->A.tV γ.aj aB->A.tV b1 (aB.set i a1))(B:f1+A.l3 b1+1<=l.fuel+A.l3 γ.aj)(f:∀(o:Bool)(a':A.ap),(l.mx=.own->o=false)->(A.zero l.aj->¬A.zero a')->A.CB o a' γ.aj b1)(u:A.left a1->l.mx=.idle)(v:mM=true->l.mx=.own):
 Cs (al A) l γ ({mx:=l.mx,tok:=mM,deaf:=d1,fuel:=f1,aj:=a1}:Lo A.ap) ({mu:=γ.mu,a6:=γ.a6-1,aj:=b1}:aN A.aK):=by
 have key:∀(ls:List (Lo A.ap))(i:Nat),ls[i]?=some l->tW A γ ls->1<=γ.a6/\((ls.set i ({mx:=l.mx,tok:=mM,deaf:=d1,fuel:=f1,aj:=a1}:Lo A.ap)).map (·.fuel)).sum+2*qN γ.mu (ls.map (·.mx))+A.l3 b1<=γ.a6-1:=by intro ls i hi hg;have c:i<ls.length:=(vab.1 hi).1;have x:=(vab.1 hi).2;have e:=FU (ls.map (·.fuel)) i f1 AF;have p:(ls.set i ({mx:=l.mx,tok:=mM,deaf:=d1,fuel:=f1,aj:=a1}:Lo A.ap)).map (·.fuel)=(ls.map (·.fuel)).set i f1:=Bc;rw[p];have n:(ls.map (·.fuel))[i]'AF=l.fuel:=AF;rw[n]at e;have y:=MJ (ls.map (·.fuel)) i l.fuel AF;have:=hg.hY;omega
 refine⟨?_,λls i hi hg=>?_⟩
 .obtain⟨ls,i,hi,hg⟩:=hs;grind
 .obtain⟨t,k3⟩:=key ls i hi hg;have s:(ls.set i ({mx:=l.mx,tok:=mM,deaf:=d1,fuel:=f1,aj:=a1}:Lo A.ap)).map (·.mx)=ls.map (·.mx):=RP _ hi U;have r:(ls.set i ({mx:=l.mx,tok:=mM,deaf:=d1,fuel:=f1,aj:=a1}:Lo A.ap)).map (·.aj)=(ls.map (·.aj)).set i a1:=Bc;have c:i<ls.length:=(vab.1 hi).1;have h:(ls.map (·.aj))[i]?=some l.aj:=AF;refine⟨⟨by rw[s];exact hg.l4,by rw[r];exact k _ i h hg.pT,AF,λj b a hk=>?_,λj b a hk=>?_,by rw[vek];exact hg.len⟩,λj g a E=>.inr ⟨AF,?_,.refl _ _⟩⟩
  .by_cases d:j=i
   .grind
   .rw[vba (Ne.symm d)]at a;exact hg.aU j b a hk
  .by_cases d:j=i
   .grind
   .rw[vba (Ne.symm d)]at a;exact hg.I6 j b a hk
  .refine f _ _ (λz=>?_) (λm q=>?_)
   .cases w:g.mx<;>simp only[YZ]
    exact absurd (hg.l4.YW AF AF) a
   .have D:=G.zero _ _ i l.aj hg.pT h m;have C:=G.zero _ _ j g.aj hg.pT AF q;grind
variable{g1:uai}{m1 mu:bn}
section
variable{A:fe}{Q:cf}{Stop:Bool->Lo A.ap->aX->Prop}{m:Bool}{l:Lo A.ap}{γ:aN A.aK}{X:aX}{w':aL}
def a9(G:A.Good){mine:c7}{w:aL}(h:Goes Q m (ak (al A) mine) Go.ConcR.DC0 (λg w=>g.status=.running/\∀a,(al A).dO l γ a->bg (al A) Q Stop m l a ⟨g,w,mine⟩) 300 g w):bg (al A) Q Stop m l γ ⟨g,w,mine⟩:=
 va (dk G) (λ_ _ h=>h) 300 _ _ _ KB h
def l5{b:A.aK}{w:aL}(h:w.heap[A.st]?=some (gS A mu b)):w.cell? (fG A)=some (.int .i32 (mu.word:Int)):=by simp[World.cell?,fG,h,gS];grind
def I9{b:A.aK}{w:aL}(h:w.heap[A.st]?=some (gS A mu b)):w.cell? (lf A)=some (.int .u32 (mu.sema:Int)):=by simp[World.cell?,lf,h,gS];grind
def pV{b:A.aK}{w:aL}(h:w.heap[A.st]?=some (gS A mu b))(off:Nat)(sp):w.frozen? ⟨A.st,off,sp⟩=false:=by simp[World.frozen?,h,gS]
theorem nT(w:aL)(a:Addr)(v:Value){b:Nat}(c:b≠a.block):(w.setCell a v).heap[b]?=w.heap[b]?:=by simp[World.setCell,vbb,Ne.symm c]
def nU(w:aL)(a:Addr)(v:Value):(w.setCell a v).heap.size=w.heap.size:=by simp_all
def amf{b:A.aK}{w:aL}(h:w.heap[A.st]?=some (gS A mu b))(hs:m1.sema=mu.sema):(w.setCell (fG A) (.int .i32 (m1.word:Int))).heap[A.st]?=some (gS A m1 b):=by unfold World.setCell;simp_all[fG,vbb,gS]
def amg{b:A.aK}{w:aL}(h:w.heap[A.st]?=some (gS A mu b))(hs:m1.word=mu.word):(w.setCell (lf A) (.int .u32 (m1.sema:Int))).heap[A.st]?=some (gS A m1 b):=by unfold World.setCell;simp_all[lf,vbb,gS]
def Y0(G:A.Good){b:A.aK}{w:aL}(h:A.oF b w)(off:Nat)(sp)(v:Value):A.oF b (w.setCell ⟨A.st,off,sp⟩ v):=
 G.RO b w _ (λk hk=>nT w _ v (λe=>G.MI AF)) h
def Y1{mine:c7}(w:aL)(off:Nat)(sp)(v:Value):lF (al A) mine w (w.setCell ⟨A.st,off,sp⟩ v):=
 ⟨λb _ _ hs=>nT w _ v AF,Bc,.refl _,U,U⟩
def pW(Z:e_)(mine:c7)(w:aL):lF Z mine w w:=⟨AF,vac _,.refl _,U,U⟩
theorem amh(G:A.Good)(a:dP (al A) l γ X w'){y:b6}(hs:stepG Q m X.g w'=.go g1 (w'.setCell (fG A) (.int .i32 (m1.word:Int))) #[⟨.cell (fG A),false,true⟩,⟨.cell (fG A),true,true⟩])(hrun:g1.status=.running)(hd:0<l.deaf)(d:m1.sema=γ.mu.sema)(c:¬A.left l.aj)(ht:lZ l.mx y γ.mu m1 l.fuel f1)(b:l.tok=true->y=.own)(h:bg (al A) Q Stop m ({l with mx:=y,fuel:=f1}:Lo A.ap) ({γ with mu:=m1,a6:=γ.a6-1}:aN A.aK) ⟨g1,w'.setCell (fG A) (.int .i32 (m1.word:Int)),X.mine⟩):
 Then (Z:=al A) Q Stop m l γ X w':=by
 have hg:grown X.mine w' (w'.setCell (fG A) (.int .i32 (m1.word:Int)))=X.mine:=kC (nU _ _ _);refine .turn (l1:=({l with mx:=y,fuel:=f1}:Lo A.ap)) (bF:=({γ with mu:=m1,a6:=γ.a6-1}:aN A.aK)) hs ⟨hrun,.inl ⟨⟨.cell (fG A),true,true⟩,Ab,.inr (.inr (.inr (.inr ⟨U,A.st,U,.inl U⟩)))⟩,Y1 w' 0 none _,⟨amf a.mt.1 d,Y0 G a.mt.2 _ _ _⟩,
  I7 (d1:=l.deaf) (mM:=l.tok) G a.sees ht b (.inl c),.inl ⟨U,U,U,?_⟩,.inr λe f=>?_⟩ AF ?_
 .exact⟨.inr AF,.inr ⟨U,.inl U,hd⟩,NE⟩
 .grind
 grind
theorem ami(G:A.Good)(a:dP (al A) l γ X w'){y:b6}(hs:stepG Q m X.g w'=.go g1 (w'.setCell (lf A) (.int .u32 (m1.sema:Int))) (semEvents (lf A)))(hrun:g1.status=.running)(e:m1.word=γ.mu.word)(d:¬A.left l.aj)(ht:lZ l.mx y γ.mu m1 l.fuel f1)(c:l.tok=true->y=.own)(b:mayWake Q X.g=true\/0<γ.mu.sema)(h:bg (al A) Q Stop m ({l with mx:=y,fuel:=f1}:Lo A.ap) ({γ with mu:=m1,a6:=γ.a6-1}:aN A.aK) ⟨g1,w'.setCell (lf A) (.int .u32 (m1.sema:Int)),X.mine⟩):Then (Z:=al A) Q Stop m l γ X w':=by
 have hg:grown X.mine w' (w'.setCell (lf A) (.int .u32 (m1.sema:Int)))=X.mine:=kC (nU _ _ _);refine .turn (l1:=({l with mx:=y,fuel:=f1}:Lo A.ap)) (bF:=({γ with mu:=m1,a6:=γ.a6-1}:aN A.aK)) hs ⟨hrun,.inl ⟨⟨.cell (lf A),true,true⟩,by simp[semEvents],.inr (.inr (.inr (.inr ⟨U,A.st,U,.inl U⟩)))⟩,Y1 w' 1 none _,⟨amg a.mt.1 e,Y0 G a.mt.2 _ _ _⟩,
  I7 (d1:=l.deaf) (mM:=l.tok) G a.sees ht c (.inl d),.inl ⟨U,U,?_,?_⟩,b.imp id λi f g=>?_⟩ AF ?_
 .grind[deafBehind,semEvents]
 .exact⟨.inl trivial,.inr ⟨U,.inr KB,Gc⟩,.inr ⟨U,.inr KB,Gc⟩,.inl trivial,NE⟩
 .grind
 grind
def sV(G:A.Good)(b:dP (al A) l γ X w'){mk:Mark}(a:mk=.disable\/mk=.enable){y:b6}(hs:stepG Q m X.g w'=.go g1 w' #[⟨.mark mk,false,true⟩])(hrun:g1.status=.running)(d:¬A.left l.aj)(ht:lZ l.mx y γ.mu γ.mu l.fuel f1)(c:l.tok=true->y=.own)(hd:d1=deafBehind l.deaf #[⟨.mark mk,false,true⟩])(h:bg (al A) Q Stop m ({l with mx:=y,fuel:=f1,deaf:=d1}:Lo A.ap) ({γ with a6:=γ.a6-1}:aN A.aK) ⟨g1,w',X.mine⟩):Then (Z:=al A) Q Stop m l γ X w':=by
 refine .turn (l1:=({l with mx:=y,fuel:=f1,deaf:=d1}:Lo A.ap)) (bF:=({γ with a6:=γ.a6-1}:aN A.aK)) hs ⟨hrun,.inl ⟨⟨.mark mk,false,true⟩,Ab,a.elim (λe=>.inl JS) (λe=>.inr AF)⟩,pW _ _ _,b.mt,
  I7 (d1:=d1) (mM:=l.tok) G b.sees ht c (.inl d),.inl ⟨U,U,hd,.inl ?_,NE⟩,AF⟩ AF ?_
 .rcases a with rfl|rfl<;>trivial
 grind[kC]
def RS(G:A.Good)(b:dP (al A) l γ X w')(hs:stepG Q m X.g w'=.go g1 w' #[⟨.mark (.acquire (fG A)),false,true⟩])(hrun:g1.status=.running)(c:¬A.left l.aj)(a:l.mx=.own)(ht:l.tok=false)(hd:l.deaf=0)(d:f1<l.fuel)(h:bg (al A) Q Stop m ({l with fuel:=f1,tok:=true}:Lo A.ap) ({γ with a6:=γ.a6-1}:aN A.aK) ⟨g1,w',X.mine⟩):Then (Z:=al A) Q Stop m l γ X w':=by
 refine .turn (l1:=({l with fuel:=f1,tok:=true}:Lo A.ap)) (bF:=({γ with a6:=γ.a6-1}:aN A.aK)) hs ⟨hrun,.inl ⟨⟨.mark (.acquire (fG A)),false,true⟩,Ab,.inr AF⟩,pW _ _ _,b.mt,
  I7 (d1:=l.deaf) (mM:=true) G b.sees (sU d l.mx) (λ_=>a) (.inl c),.inr (.inl ⟨U,hd,hd,ht,U,U⟩),AF⟩ AF ?_
 grind[kC]
def aEG(G:A.Good)(a:dP (al A) l γ X w')(hs:stepG Q m X.g w'=.go g1 w' #[⟨.mark (.releaseMerge (fG A)),false,true⟩])(hrun:g1.status=.running)(b:¬A.left l.aj)(ht:l.tok=true)(hd:l.deaf=0)(c:f1<l.fuel)(h:bg (al A) Q Stop m ({l with fuel:=f1,tok:=false}:Lo A.ap) ({γ with a6:=γ.a6-1}:aN A.aK) ⟨g1,w',X.mine⟩):Then (Z:=al A) Q Stop m l γ X w':=by
 refine .turn (l1:=({l with fuel:=f1,tok:=false}:Lo A.ap)) (bF:=({γ with a6:=γ.a6-1}:aN A.aK)) hs ⟨hrun,.inl ⟨⟨.mark (.releaseMerge (fG A)),false,true⟩,Ab,.inr AF⟩,pW _ _ _,a.mt,
  I7 (d1:=l.deaf) (mM:=false) G a.sees (sU c l.mx) AF (.inl b),.inr (.inr (.inl ⟨U,hd,hd,ht,U,U⟩)),AF⟩ AF ?_
 grind[kC]
def l6{w1:aL}(hs:stepG Q m X.g w'=.go g1 w1 #[])(hrun:g1.status=.running)(d:w1.heap=w'.heap)(b:Go.ConcM.OsLater w'.os w1.os)(a:w1.output=w'.output)(ht:w1.tape=w'.tape)(h:bg (al A) Q Stop m l γ ⟨g1,w1,X.mine⟩):Then (Z:=al A) Q Stop m l γ X w':=by
 refine .quiet hs ⟨hrun,⟨AF,AF,b,a,ht⟩,AF,NE,?_⟩ ?_
 .rintro(⟨e,c,_⟩|h)
  .grind
  grind
 grind[kC]
def MM(hs:stepG Q m X.g w'=.go g1 w' #[⟨.cell (fG A),false,true⟩])(hrun:g1.status=.running)(hd:0<l.deaf)(h:bg (al A) Q Stop m l γ ⟨g1,w',X.mine⟩):Then (Z:=al A) Q Stop m l γ X w':=by
 refine .quiet hs ⟨hrun,pW _ _ _,λ_ _ _=>U,⟨.inr AF,NE⟩,?_⟩ ?_
 .rintro(⟨e,a,b⟩|h)
  .simp at a;subst a;rcases b with h|h|⟨_,h⟩|⟨_,h⟩|⟨h,_⟩<;>cases h
  grind
 grind[kC]
def amj(G:A.Good)(a:dP (al A) l γ X w'){a1:A.ap}(hs:stepG Q m X.g w'=.go g1 w' #[⟨.mark (.releaseMerge (fG A)),false,true⟩])(hrun:g1.status=.running)(d:¬A.left a1)(c:A.past a1=A.past l.aj)(ht:l.tok=true)(hd:l.deaf=0)(f:f1<l.fuel)(b:∀(aB:List A.ap)(i:Nat),aB[i]?=some l.aj->A.tV γ.aj aB->A.tV γ.aj (aB.set i a1))(h:bg (al A) Q Stop m ({l with fuel:=f1,tok:=false,aj:=a1}:Lo A.ap) ({γ with a6:=γ.a6-1}:aN A.aK) ⟨g1,w',X.mine⟩):Then (Z:=al A) Q Stop m l γ X w':=by
 refine .turn (l1:=({l with fuel:=f1,tok:=false,aj:=a1}:Lo A.ap)) (bF:=({γ with a6:=γ.a6-1}:aN A.aK)) hs ⟨hrun,.inl ⟨⟨.mark (.releaseMerge (fG A)),false,true⟩,Ab,.inr AF⟩,pW _ _ _,a.mt,
  RQ (d1:=l.deaf) (mM:=false) G a.sees b AX (λ_ _ _ _=>G.refl _ _ _) (λe=>absurd e d) Ab,.inr (.inr (.inl ⟨U,hd,hd,ht,U,c⟩)),AF⟩ AF ?_
 grind[kC]
end
end ag
namespace ft
open Conc az bo ag
structure dy where
 st:Nat
 cP:Nat
 wg:Nat
 MU:TypeId
 F3:TypeId
 tWg:TypeId
 N:Nat
 rows:Nat->Nat
 size:Value
 AJ:Value
 ym:Value
 least:Value
 b3:Nat->Bool
 place:Nat->Value
 K:Nat->Prop
 most:Nat
 C:Nat
 eV:st≠wg/\st≠cP/\wg≠cP
 AK:∀b,K b->b≠st/\b≠wg/\b≠cP
def AL:At->Prop
 | .main _=>True
 | _=>False
def jx:At->Bool
 | .work .rel _ | .work .nW _ | .work .lb _ | .gone _ | .old=>true
 | _=>false
def s4(c:dy)(b:ck):Obj:=.cells #[.int .u64 ((b.aW*4294967296+b.et.toNat:Nat):Int),.int .u32 (b.gF:Int)] c.tWg
def F4(c:dy)(b:ck):Obj:=.cells b.done.toArray c.F3
abbrev av(c:dy):fe where
 ap:=At
 aK:=ck
 tV:=cT c.N c.rows c.b3
 l3:=λb=>c.C*(c.N-b.taken)
 CB:=λo a b b'=>(o=true->b'.taken=b.taken/\b'.came=b.came/\b'.done=b.done/\b'.least=b.least)/\(b.taken<=b'.taken/\b.came<=b'.came)/\(AL a->b'.aW<=b.aW)
 RN:=MS
 left:=qR
 past:=jx
 zero:=AL
 st:=c.st
 ty:=c.MU
 cells:=λb=>#[c.size,c.AJ,.I (b.taken:Int),.I (b.came:Int),c.ym,b.least.elim c.least c.place]
 oF:=λb w=>w.heap[c.wg]?=some (s4 c b)/\(True->w.heap[c.cP]?=some (F4 c b))
 CC:=λk=>k=c.wg\/k=c.cP
 hV:=λl=>(∃off sp,l=.cell ⟨c.st,off,sp⟩/\2<=off)\/fq l=some c.cP
 e9:=λl=>l=.cell ⟨c.wg,0,none⟩\/l=.cell ⟨c.wg,1,none⟩
 K:=c.K
 wg:=⟨c.wg,0,none⟩
 most:=c.most
def bD(c:dy):(av c).Good where
 refl:=AF
 trans:=AF
 RO:=AF
 MI:=λh=>h.elim c.eV.1 c.eV.2.1
 nb:=λb d=>⟨(c.AK b d).1,λh=>h.elim (c.AK b d).2.1 (c.AK b d).2.2⟩
 ow:=λb aB h=>h.alive
 zero:=λb aB j a h f e=>by cases a with|main s=>exact h.only j s f| _=>exact e.elim
 hV:=AF
 e9:=λl h=>by rcases h with rfl|rfl<;>exact⟨c.wg,U,.inl U⟩
 tM:=λl h hs=>by
  rcases h with⟨off,sp,rfl,_⟩|h
  .grind
  .rcases hs with rfl|rfl<;>simp[fq]at h<;>exact c.eV.2.2 h
section
variable{c:dy}{Q:cf}{Stop:Bool->ag.Lo At->aX->Prop}{m:Bool}{l:ag.Lo At}{γ:ag.aN ck}{X:aX}{w':aL}
def vg{b:ck}{w:aL}(h:w.heap[c.wg]?=some (s4 c b)):w.cell? (.a c.wg 0)=some (.int .u64 ((b.aW*4294967296+b.et.toNat:Nat):Int)):=by simp[World.cell?,h,s4]
def MV{b:ck}{w:aL}(h:w.heap[c.wg]?=some (s4 c b)):w.cell? (.a c.wg 1)=some (.int .u32 (b.gF:Int)):=by simp[World.cell?,h,s4]
def AM{b:ck}{w:aL}(h:w.heap[c.wg]?=some (s4 c b))(off:Nat)(sp):w.frozen? ⟨c.wg,off,sp⟩=false:=by simp[World.frozen?,h,s4]
def Y_{mu:bn}{b b1:ck}{w:aL}(d:w.heap[c.st]?=some (gS (av c) mu b))(a:(av c).oF b w)(hs:b1.gF=b.gF)(ht:b1.taken=b.taken)(f:b1.came=b.came)(hd:b1.done=b.done/\b1.least=b.least){v:Int}(hv:v=((b1.aW*4294967296+b1.et.toNat:Nat):Int)):
 (w.setCell ⟨c.wg,0,none⟩ (.int .u64 v)).heap[c.st]?=some (gS (av c) mu b1)/\(av c).oF b1 (w.setCell ⟨c.wg,0,none⟩ (.int .u64 v)):=by
 subst hv;refine⟨?_,?_,λe=>?_⟩
 .rw[nT w _ _ c.eV.1,d];grind[gS]
 .simp_all[World.setCell,vbb,s4]
 .rw[nT w _ _ (Ne.symm c.eV.2.2),a.2 e];grind[F4]
def amE{mu:bn}{b b1:ck}{w:aL}(d:w.heap[c.st]?=some (gS (av c) mu b))(a:(av c).oF b w)(hs:b1.aW=b.aW/\b1.et=b.et)(ht:b1.taken=b.taken)(f:b1.came=b.came)(hd:b1.done=b.done/\b1.least=b.least){v:Int}(hv:v=(b1.gF:Int)):
 (w.setCell ⟨c.wg,1,none⟩ (.int .u32 v)).heap[c.st]?=some (gS (av c) mu b1)/\(av c).oF b1 (w.setCell ⟨c.wg,1,none⟩ (.int .u32 v)):=by
 subst hv;refine⟨?_,?_,λe=>?_⟩
 .rw[nT w _ _ c.eV.1,d];grind[gS]
 .simp_all[World.setCell,vbb,s4]
 .rw[nT w _ _ (Ne.symm c.eV.2.2),a.2 e];grind[F4]
def R_{mine:c7}(w:aL)(off:Nat)(sp)(v:Value):lF (al (av c)) mine w (w.setCell ⟨c.wg,off,sp⟩ v):=
 ⟨λb _ _ hs=>nT w _ v AF,Bc,.refl _,U,U⟩
def Sa{mine:c7}(w:aL)(off:Nat)(sp)(v:Value):lF (al (av c)) mine w (w.setCell ⟨c.st,off,sp⟩ v):=
 ⟨λb _ _ hs=>nT w _ v AF,Bc,.refl _,U,U⟩
def Za{mine:c7}(w:aL)(off:Nat)(sp)(v:Value):lF (al (av c)) mine w (w.setCell ⟨c.cP,off,sp⟩ v):=
 ⟨λb _ _ hs=>nT w _ v AF,Bc,.refl _,U,U⟩
end
end ft
namespace bR
open Conc
theorem Dg:(f69.name== "runtime.NumGoroutine")=false:=by kernel_rfl
theorem Dh:f69.body.isNone=true:=by kernel_rfl
theorem Di:Extern.findNext f69=none:=by kernel_rfl
theorem Dj:Extern.find f69=some (λ_=>do mark .disable;pure Extern.Race.none_):=by kernel_rfl
theorem re:(f70.name== "runtime.NumGoroutine")=false:=by kernel_rfl
theorem rf:f70.body.isNone=true:=by kernel_rfl
theorem rg:Extern.findNext f70=none:=by kernel_rfl
theorem rh:Extern.find f70=some (λ_=>do mark .enable;pure Extern.Race.none_):=by kernel_rfl
theorem GL:(f83.name== "runtime.NumGoroutine")=false:=by kernel_rfl
theorem GM:f83.body.isNone=true:=by kernel_rfl
theorem GN:Extern.findNext f83=none:=by kernel_rfl
theorem GO:Extern.find f83=some (Extern.Race.marked .acquire):=by kernel_rfl
theorem TM:(f68.name== "runtime.NumGoroutine")=false:=by kernel_rfl
theorem TN:f68.body.isNone=true:=by kernel_rfl
theorem TO:Extern.findNext f68=none:=by kernel_rfl
theorem TP:Extern.find f68=some (Extern.Race.marked .releaseMerge):=by kernel_rfl
theorem y0:(f124.name== "runtime.NumGoroutine")=false:=by kernel_rfl
theorem y1:f124.body.isNone=true:=by kernel_rfl
theorem y2:Extern.findNext f124=none:=by kernel_rfl
theorem y3:Extern.find f124=some (Extern.Atomic.casT (.int .i32)):=by kernel_rfl
theorem J8:(f126.name== "runtime.NumGoroutine")=false:=by kernel_rfl
theorem J9:f126.body.isNone=true:=by kernel_rfl
theorem J_:Extern.findNext f126=none:=by kernel_rfl
theorem Ka:Extern.find f126=some (Extern.Atomic.update (Op.intArith .add) .i32 true):=by kernel_rfl
theorem Vd:(f142.name== "runtime.NumGoroutine")=false:=by kernel_rfl
theorem U_:f142.body.isNone=true:=by kernel_rfl
theorem UZ:Extern.findNext f142=none:=by kernel_rfl
theorem UQ:Extern.find f142=some Extern.Sync.canSpin:=by kernel_rfl
theorem arj:(f143.name== "runtime.NumGoroutine")=false:=by kernel_rfl
theorem ark:f143.body.isNone=true:=by kernel_rfl
theorem arl:Extern.findNext f143=none:=by kernel_rfl
theorem arm:Extern.find f143=some Extern.Sync.nothing:=by kernel_rfl
theorem UA:(f145.name== "runtime.NumGoroutine")=false:=by kernel_rfl
theorem Uz:f145.body.isNone=true:=by kernel_rfl
theorem Uj:Extern.findNext f145=none:=by kernel_rfl
theorem Uh:Extern.find f145=some Extern.OsHooks.nano:=by kernel_rfl
theorem TQ:(f146.name== "runtime.NumGoroutine")=false:=by kernel_rfl
theorem TR:f146.body.isNone=true:=by kernel_rfl
theorem TS:Extern.findNext f146=none:=by kernel_rfl
theorem TT:Extern.find f146=some Extern.Sync.semacquire:=by kernel_rfl
theorem Tj:(f148.name== "runtime.NumGoroutine")=false:=by kernel_rfl
theorem N7:f148.body.isNone=true:=by kernel_rfl
theorem Q1:Extern.findNext f148=none:=by kernel_rfl
theorem Q0:Extern.find f148=some Extern.Sync.semrelease:=by kernel_rfl
theorem QE:f145.norace=true:=by kernel_rfl
theorem N8:(f88.name== "runtime.NumGoroutine")=false:=by kernel_rfl
theorem Bh:(f89.name== "runtime.NumGoroutine")=false:=by kernel_rfl
theorem Qs:(f112.name== "runtime.NumGoroutine")=false:=by kernel_rfl
theorem Qr:(f113.name== "runtime.NumGoroutine")=false:=by kernel_rfl
theorem Qm:(prog.funcs[(base 113).fn]?).any (·.norace)=true:=by kernel_rfl
theorem arn:(f125.name== "runtime.NumGoroutine")=false:=by kernel_rfl
theorem Kb:(prog.funcs[(base 125).fn]?).any (·.norace)=true:=by kernel_rfl
theorem Qj:(f127.name== "runtime.NumGoroutine")=false:=by kernel_rfl
theorem aro:(prog.funcs[(base 127).fn]?).any (·.norace)=true:=by kernel_rfl
open RowKit Conc.Lib ConcR.Gen ConcM az bo ag
def Qi:prog.underlying 236=some (.pointer 165):=by simp
def N9:prog.underlying 172=some .unsafePointer:=by simp
theorem Qc:(prog.info? 165).map (λi=>decide (i.size=0))=some false:=by kernel_rfl
section
variable{m:Bool}{b:Frame}{a:Act}{kk:fC}{cs:dZ}{w:aL}{ops:du}{i:Nat}{rest:e8}{o:Oper}
def GQ{x:uap}(g:ops[i]?=some o)(d:Region.wanted o (yielded ops a.tmps)=true)(hk:b.kind≠ .early)(f:o.op=.convert 236 172 x){ad:Addr}{v:Value}(k:a.eval x=.pointer (some ad))(c:w.cell? ad=some v):
 stepG prog m (Conc.G (b.at a (.inRegion ops (i::rest)::kk)) cs) w=.go (Conc.G (b.at (a.put o.dst (.pointer (some ad))) (.inRegion ops rest::kk)) cs) w #[]:=by
 have h:=run_convert_to_unsafe (P:=prog) Qi N9 Qc c;have j:=λes=>events_convert_to_unsafe (P:=prog) Qi N9 Qc c es;have e:(execOp a.eval o).run prog w=.ok (.value (.pointer (some ad))) w:=by simp_all[execOp]
 have l:(execOp a.eval o).events prog w #[]=#[]:=by simp_all[execOp]
 rw[vay g d hk e];grind[listed,seen_none]
def Bi{x:uap}(h:ops[i]?=some o)(f:Region.wanted o (yielded ops a.tmps)=true)(hk:b.kind≠ .early)(c:o.op=.load 21 x){ad:Addr}{v:Int}(d:a.eval x=.pointer (some ad))(e:w.cell? ad=some (.int .i32 v))(hq:(prog.funcs[b.fn]?).any (·.norace)=true):
 stepG prog m (Conc.G (b.at a (.inRegion ops (i::rest)::kk)) cs) w=.go (Conc.G (b.at (a.put o.dst (.int .i32 v)) (.inRegion ops rest::kk)) cs) w #[]:=by
 have g:(execOp a.eval o).run prog w=.ok (.value (.int .i32 v)) w:=by unfold execOp;simp only[c,d];simp[go_sem,e]
 have j:(execOp a.eval o).events prog w #[]=#[⟨.cell ad,false,false⟩]:=by unfold execOp;simp only[c,d];simp[go_sem,e]
 rw[vay h f hk g];grind[listed,seen_def,seenStep]
end
def TU{mu:bn}(h:mu.word=0):mu.L=false/\mu.W=false/\mu.S=false/\mu.k=0:=by grind[bn.word]
def dG:Code->Option Code
 | .loop c=>some c
 | .seq x y=>match dG x with|some c=>some c|none=>dG y
 | .block _ c=>dG c
 | .cond _ x y=>match dG x with|some c=>some c|none=>dG y
 | _=>none
def lr:Code->Option Code
 | .seq (.block _ _) r=>some r
 | .seq _ y=>lr y
 | _=>none
def er(id:Nat):Code->Option Code
 | .seq x y=>if(match x with| .region i _ _=>i==id| _=>false)then some (.seq x y)else match er id x with|some c=>some c|none=>er id y
 | .block _ c=>er id c
 | .loop c=>er id c
 | .cond _ x y=>match er id x with|some c=>some c|none=>er id y
 | _=>none
def lM:Code->Code
 | .seq _ y=>y
 | _=>.skip
def oM:Code->Array Oper
 | .seq (.region _ o _) _=>o
 | _=>#[]
def jW(ks:fC)(A:fe)(Stop:Bool->ag.Lo A.ap->aX->Prop)(m:Bool)(mine:c7)(a2:Frame)(aF:Act)(aC:du)(aJ:Nat)(aO:e8)(aH:fC)(csZ:dZ)(l:ag.Lo A.ap)(γ:ag.aN A.aK)(cA:Int)(sv aw:Bool)(it old:Int)(w:aL):Prop:=
 ∀(dR th fS fT fU fV fW fX ri rj gp fY fZ f2 jk f_ g3 g4 g5 vF vG vH vI vJ vK vL vM vN vO vP vQ vR vS vT vU vV vW y4 y5 y6 y7 y8 y9 y_ za zb zc zd ze zf zg zh zi zj zk zl zm zn zo zp zq zr zs zt zu zv zw zx zy zz zA Dk Dl Dm Dn zB zC zD Do Dp Dq Dr Ds Dt Du Kc Dv Dw Dx Dy Dz DC DD DF DG DH DI DJ DK DL DN DO DQ DR DS DT DU DV DW DX DY DZ D1 D2 D3 D4 D5 D6 D7 D8 D9 D_ Ea Eb Ec Ed Ee Ef Eg Eh Ei Ej Ek:Value),bg (al A) prog Stop m l γ ⟨Conc.G ((base 125).at ⟨#[.pointer (some (ag.fG A)),dR,.I cA,.bool sv,.bool aw,.I it,.int .i32 old,th,fS,fT,fU,fV,fW,fX,ri,rj,gp,fY,fZ,f2,jk,f_,g3,g4,g5,vF,vG,vH,vI,vJ,vK,vL,vM,vN,vO,vP,vQ,vR,vS,vT,vU,vV,vW,y4,y5,y6,y7,y8,y9,y_,za,zb,zc,zd,ze,zf,zg,zh,zi,zj,zk,zl,zm,zn,zo,zp,zq,zr,zs,zt,zu,zv,zw,zx,zy,zz,zA,Dk,Dl,Dm,Dn,zB,zC,zD,Do,Dp,Dq,Dr,Ds,Dt,Du,Kc,Dv,Dw,Dx,Dy,Dz,DC,DD,DF,DG,DH,DI,DJ,DK,DL,DN,DO,DQ,DR,DS,DT,DU,DV,DW,DX,DY,DZ,D1,D2,D3,D4,D5,D6,D7,D8,D9,D_,Ea,Eb,Ec,Ed,Ee,Ef,Eg,Eh,Ei,Ej,Ek],[]⟩ ks) (a2.at aF (.inRegion aC (aJ::aO)::aH)::csZ),w,mine⟩
def qk(A:fe)(Stop:Bool->ag.Lo A.ap->aX->Prop)(m:Bool)(mine:c7)(a2:Frame)(aF:Act)(aC:du)(aJ:Nat)(aO:e8)(aH:fC)(csZ:dZ)(l:ag.Lo A.ap)(γ:ag.aN A.aK)(cA:Int)(sv aw:Bool)(it old:Int)(w:aL):Prop:=
 jW [.code ((dG (f125.body.getD .skip)).getD .skip),.inLoop ((dG (f125.body.getD .skip)).getD .skip),.inBlock 0,.code ((lr (f125.body.getD .skip)).getD .skip)] A Stop m mine a2 aF aC aJ aO aH csZ l γ cA sv aw it old w
def Bj(A:fe)(Stop:Bool->ag.Lo A.ap->aX->Prop)(m:Bool)(mine:c7)(a2:Frame)(aF:Act)(aC:du)(aJ:Nat)(aO:e8)(aH:fC)(csZ:dZ)(l:ag.Lo A.ap)(γ:ag.aN A.aK)(cA:Int)(sv aw:Bool)(it old:Int)(w:aL):Prop:=
 jW [.code ((er 11 ((dG (f125.body.getD .skip)).getD .skip)).getD .skip),.inBlock 1,.inLoop ((dG (f125.body.getD .skip)).getD .skip),.inBlock 0,.code ((lr (f125.body.getD .skip)).getD .skip)] A Stop m mine a2 aF aC aJ aO aH csZ l γ cA sv aw it old w
def Kd(A:fe)(Stop:Bool->ag.Lo A.ap->aX->Prop)(m:Bool)(mine:c7)(a2:Frame)(aF:Act)(aC:du)(aJ:Nat)(aO:e8)(aH:fC)(csZ:dZ)(l:ag.Lo A.ap)(γ:ag.aN A.aK)(cA:Int)(sv aw:Bool)(it old:Int)(new:Int)(w:aL):Prop:=
 ∀(dR fS fT fU fV fW fX ri rj gp fY fZ f2 jk f_ g3 g4 g5 vF vG vH vI vJ vK vL vM vN vO vP vQ vR vS vT vU vV vW y4 y5 y6 y7 y8 y9 y_ za zb zc zd ze zf zg zh zi zj zk zl zm zn zo zp zq zr zs zt zu zv zw zx zy zz zA Dn zB zC zD Do Dp Dq Dr Ds Dt Du Kc Dv Dw Dx Dy Dz DC DD DF DG DH DI DJ DK DL DN DO DQ DR DS DT DU DV DW DX DY DZ D1 D2 D3 D4 D5 D6 D7 D8 D9 D_ Ea Eb Ec Ed Ee Ef Eg Eh Ei Ej Ek:Value),bg (al A) prog Stop m l γ ⟨Conc.G ((base 125).at ⟨#[.pointer (some (ag.fG A)),dR,.I cA,.bool sv,.bool aw,.I it,.int .i32 old,.int .i32 new,fS,fT,fU,fV,fW,fX,ri,rj,gp,fY,fZ,f2,jk,f_,g3,g4,g5,vF,vG,vH,vI,vJ,vK,vL,vM,vN,vO,vP,vQ,vR,vS,vT,vU,vV,vW,y4,y5,y6,y7,y8,y9,y_,za,zb,zc,zd,ze,zf,zg,zh,zi,zj,zk,zl,zm,zn,zo,zp,zq,zr,zs,zt,zu,zv,zw,zx,zy,zz,zA,.pointer (some (ag.fG A)),.int .i32 old,.int .i32 new,Dn,zB,zC,zD,Do,Dp,Dq,Dr,Ds,Dt,Du,Kc,Dv,Dw,Dx,Dy,Dz,DC,DD,DF,DG,DH,DI,DJ,DK,DL,DN,DO,DQ,DR,DS,DT,DU,DV,DW,DX,DY,DZ,D1,D2,D3,D4,D5,D6,D7,D8,D9,D_,Ea,Eb,Ec,Ed,Ee,Ef,Eg,Eh,Ei,Ej,Ek],[]⟩ [.inRegion (oM ((er 22 ((dG (f125.body.getD .skip)).getD .skip)).getD .skip)) [5],.code (lM ((er 22 ((dG (f125.body.getD .skip)).getD .skip)).getD .skip)),.inBlock 1,.inLoop ((dG (f125.body.getD .skip)).getD .skip),.inBlock 0,.code ((lr (f125.body.getD .skip)).getD .skip)]) (a2.at aF (.inRegion aC (aJ::aO)::aH)::csZ),w,mine⟩
def vX(A:fe)(Stop:Bool->ag.Lo A.ap->aX->Prop)(m:Bool)(mine:c7)(a2:Frame)(aF:Act)(aC:du)(aJ:Nat)(aO:e8)(aH:fC)(csZ:dZ)(l:ag.Lo A.ap)(γ:ag.aN A.aK)(cA:Int)(sv aw:Bool)(it old:Int)(ln:Bool)(w:aL):Prop:=
 ∀(dR th fS fT fU fV fW fX ri rj gp fY fZ f2 jk f_ g3 g4 g5 vF vG vH vI vJ vK vL vM vN vO vP vQ vR vS vT vU vV vW y4 y5 y6 y7 y8 y9 y_ za zb zc zd ze zf zg zh zi zj zk zl zm zn zo zp zq zr zs zt zu zv zw zx zy zz zA Dk Dl Dm zB zC zD Do Dp Dq Dr Ds Dt Du Kc Dv Dw Dx Dy Dz DC DD DF DG DH DI DJ DK DL DN DO DQ DR DS DT DU DV DW DX DY DZ D1 D2 D3 D4 D5 D6 D7 D8 D9 D_ Ea Eb Ec Ed Ee Ef Eg Eh Ei Ej Ek:Value),bg (al A) prog Stop m l γ ⟨Conc.G ((base 125).at ⟨#[.pointer (some (ag.fG A)),dR,.I cA,.bool sv,.bool aw,.I it,.int .i32 old,th,fS,fT,fU,fV,fW,fX,ri,rj,gp,fY,fZ,f2,jk,f_,g3,g4,g5,vF,vG,vH,vI,vJ,vK,vL,vM,vN,vO,vP,vQ,vR,vS,vT,vU,vV,vW,y4,y5,y6,y7,y8,y9,y_,za,zb,zc,zd,ze,zf,zg,zh,zi,zj,zk,zl,zm,zn,zo,zp,zq,zr,zs,zt,zu,zv,zw,zx,zy,zz,zA,Dk,Dl,Dm,.bool ln,zB,zC,zD,Do,Dp,Dq,Dr,Ds,Dt,Du,Kc,Dv,Dw,Dx,Dy,Dz,DC,DD,DF,DG,DH,DI,DJ,DK,DL,DN,DO,DQ,DR,DS,DT,DU,DV,DW,DX,DY,DZ,D1,D2,D3,D4,D5,D6,D7,D8,D9,D_,Ea,Eb,Ec,Ed,Ee,Ef,Eg,Eh,Ei,Ej,Ek],[]⟩ [.code (lM ((er 22 ((dG (f125.body.getD .skip)).getD .skip)).getD .skip)),.inBlock 1,.inLoop ((dG (f125.body.getD .skip)).getD .skip),.inBlock 0,.code ((lr (f125.body.getD .skip)).getD .skip)]) (a2.at aF (.inRegion aC (aJ::aO)::aH)::csZ),w,mine⟩
end bR
namespace bR
open Conc ag
def arq:∀(L W S:Bool)(k:Nat),k<256->bits .and .i32 ((L.toNat+2*W.toNat+4*S.toNat+8*k:Nat):Int) 4=((4*S.toNat:Nat):Int):=by decide+kernel
def ars:∀(L W S:Bool)(k:Nat),k<256->bits .and .i32 ((L.toNat+2*W.toNat+4*S.toNat+8*k:Nat):Int) 5=((L.toNat+4*S.toNat:Nat):Int):=by decide+kernel
def art:∀(L W S:Bool)(k:Nat),k<256->bits .and .i32 ((L.toNat+2*W.toNat+4*S.toNat+8*k:Nat):Int) 2=((2*W.toNat:Nat):Int):=by decide+kernel
def aru:∀(L W S:Bool)(k:Nat),k<256->bits .and .i32 ((L.toNat+2*W.toNat+4*S.toNat+8*k:Nat):Int) 1=((L.toNat:Nat):Int):=by decide+kernel
def arv:∀(L W S:Bool)(k:Nat),k<256->bits .and .i32 ((L.toNat+2*W.toNat+4*S.toNat+8*k:Nat):Int) 3=((L.toNat+2*W.toNat:Nat):Int):=by decide+kernel
def arw:∀(L W S:Bool)(k:Nat),k<256->bits .and .i32 ((L.toNat+2*W.toNat+4*S.toNat+8*k:Nat):Int) 7=((L.toNat+2*W.toNat+4*S.toNat:Nat):Int):=by decide+kernel
def arx:∀(L W S:Bool)(k:Nat),k<256->bits .or .i32 ((L.toNat+2*W.toNat+4*S.toNat+8*k:Nat):Int) 1=((1+2*W.toNat+4*S.toNat+8*k:Nat):Int):=by decide+kernel
def ary:∀(L W S:Bool)(k:Nat),k<256->bits .or .i32 ((L.toNat+2*W.toNat+4*S.toNat+8*k:Nat):Int) 2=((L.toNat+2+4*S.toNat+8*k:Nat):Int):=by decide+kernel
def arz:∀(L W S:Bool)(k:Nat),k<256->bits .or .i32 ((L.toNat+2*W.toNat+4*S.toNat+8*k:Nat):Int) 4=((L.toNat+2*W.toNat+4+8*k:Nat):Int):=by decide+kernel
def arA:∀(L W S:Bool)(k:Nat),k<256->bits .andNot .i32 ((L.toNat+2*W.toNat+4*S.toNat+8*k:Nat):Int) 2=((L.toNat+4*S.toNat+8*k:Nat):Int):=by decide+kernel
theorem Ke(m:bn)(hk:m.k<256):bits .and .i32 (m.word:Int) 4=((4*m.S.toNat:Nat):Int):=by have:=arq m.L m.W m.S m.k hk;grind[bn.word]
def Qb(m:bn)(hk:m.k<256):bits .and .i32 (m.word:Int) 5=((m.L.toNat+4*m.S.toNat:Nat):Int):=by have:=ars m.L m.W m.S m.k hk;grind[bn.word]
theorem Kf(m:bn)(hk:m.k<256):bits .and .i32 (m.word:Int) 2=((2*m.W.toNat:Nat):Int):=by have:=art m.L m.W m.S m.k hk;grind[bn.word]
theorem TV(m:bn)(hk:m.k<256):bits .and .i32 (m.word:Int) 1=((m.L.toNat:Nat):Int):=by have:=aru m.L m.W m.S m.k hk;grind[bn.word]
theorem arB(m:bn)(hk:m.k<256):bits .and .i32 (m.word:Int) 3=((m.L.toNat+2*m.W.toNat:Nat):Int):=by have:=arv m.L m.W m.S m.k hk;grind[bn.word]
def Qa(m:bn)(hk:m.k<256):bits .and .i32 (m.word:Int) 7=((m.L.toNat+2*m.W.toNat+4*m.S.toNat:Nat):Int):=by have:=arw m.L m.W m.S m.k hk;grind[bn.word]
def arC(m:bn)(hk:m.k<256):bits .or .i32 (m.word:Int) 1=(({m with L:=true}:bn).word:Int):=by have:=arx m.L m.W m.S m.k hk;grind[bn.word]
def P_(m:bn)(hk:m.k<256):bits .or .i32 (m.word:Int) 2=(({m with W:=true}:bn).word:Int):=by have:=ary m.L m.W m.S m.k hk;grind[bn.word]
def arD(m:bn)(hk:m.k<256):bits .or .i32 (m.word:Int) 4=(({m with S:=true}:bn).word:Int):=by have:=arz m.L m.W m.S m.k hk;grind[bn.word]
def TW(m:bn)(hk:m.k<256):bits .andNot .i32 (m.word:Int) 2=(({m with W:=false}:bn).word:Int):=by have:=arA m.L m.W m.S m.k hk;grind[bn.word]
def arE(m:bn)(hk:m.k<256):IntKind.wrap .i32 ((m.word:Int)+8)=(({m with k:=m.k+1}:bn).word:Int):=by grind[Bool.toNat_le,IntKind.wrap_i32,bn.word]
def arF(m:bn)(hk:m.k<256)(a:m.L=true):IntKind.wrap .i32 ((m.word:Int)+ -1)=(({m with L:=false}:bn).word:Int):=by grind[Bool.toNat_le,IntKind.wrap_i32,bn.word]
def arG(m:bn)(hk:m.k<256)(h0:0<m.k):IntKind.wrap .i32 ((m.word:Int)-8)=(({m with k:=m.k-1}:bn).word:Int):=by grind[Bool.toNat_le,IntKind.wrap_i32,bn.word]
def arH(m:bn)(hk:m.k<256)(h0:0<m.k)(b:m.L=false)(hS:m.S=true)(clear:Bool):IntKind.wrap .i32 ((m.word:Int)+(if clear then -11 else -7))=(({m with L:=true,k:=m.k-1,S:= !clear}:bn).word:Int):=by have a:m.W.toNat<=1:=vaz _;rw[IntKind.wrap_i32];unfold bn.word;grind
theorem Kg(m:bn):(m.word:Int) / 8=(m.k:Int):=by grind[Bool.toNat_le,bn.word]
variable{cA it old:Int}{w:aL}
section
open RowKit Conc.Lib ConcR.Gen ConcM az bo
section
variable{A:fe}{Stop:Bool->ag.Lo A.ap->aX->Prop}{m:Bool}{mine:c7}
variable{a2:Frame}{aF:Act}{aC:du}{aJ:Nat}{aO:e8}{aH:fC}{csZ:dZ}
def Behind(A:fe)(Stop:Bool->ag.Lo A.ap->aX->Prop)(m:Bool)(mine:c7)(a2:Frame)(aF:Act)(aC:du)(aJ:Nat)(aO:e8)(aH:fC)(csZ:dZ)(f:Nat)(a:A.ap)(w:aL):Prop:=
 ∀w' ai,ak (al A) mine w w'->bg (al A) prog Stop m ⟨.own,true,0,f,a⟩ ai ⟨Conc.G (a2.at (aF.put ((aC[aJ]?).bind (·.dst)) (.tuple #[])) (.inRegion aC aO::aH)) csZ,w',mine⟩
def arI(G:A.Good){f:Nat}{a:A.ap}{γ:ag.aN A.aK}{sv aw:Bool}(n:bits .and .i32 old 5=0)(j:¬A.left a)(l:Behind A Stop m mine a2 aF aC aJ aO aH csZ f a w):
 vX A Stop m mine a2 aF aC aJ aO aH csZ ⟨.own,false,1,f+2,a⟩ γ cA sv aw it old true w:=by
 unfold vX;intros
 have hF:=ak.refl (al A) mine w;refine a9 G ?_;simp only[f125,vae,dG,lr,er,lM,Nat.reduceBEq,vai,↓reduceIte];repeat w_go ak.trans
 refine dY U hF λc b i h d k g e hF=>?_;refine sV G e Kj (vbu .enable Ab U U Ap U func70 re rf rg rh) U j (sU (f1:=f+1) Jz _) Ab U ?_;clear e g h b;refine a9 G ?_;walk_nrm
 repeat w_go ak.trans
 refine dY U hF λc b i h d k g e hF=>?_;refine l6 (GQ U U Ap U U (l5 e.mt.1)) U U (.refl _) U U ?_;clear e g h b;refine a9 G ?_;walk_nrm
 repeat w_go ak.trans
 refine dY U hF λc b i h d k g e hF=>?_;refine RS G e (f1:=f) (vcw .acquire Ab U U Ap U func83 GL GM GN GO Bn) U j U U U Jz ?_;clear e g h b;refine a9 G ?_;walk_nrm
 repeat w_go ak.trans
 u_leave0 func125 ak.trans hF
 repeat w_go ak.trans
 exact vah (λc b=>⟨U,λi _=>l c i (ak.trans hF b)⟩)
end
end
open RowKit Conc.Lib ConcR.Gen ConcM az bo
def N_(A:fe)(Stop:Bool->ag.Lo A.ap->aX->Prop)(m:Bool)(mine:c7)(a2:Frame)(aF:Act)(aC:du)(aJ:Nat)(aO:e8)(aH:fC)(csZ:dZ)(l:ag.Lo A.ap)(γ:ag.aN A.aK)(cA:Int)(sv aw:Bool)(it old:Int)(w:aL):Prop:=
 ∀(dR th fS fT fU fV fW fX ri rj gp fY fZ f2 jk f_ g3 g4 g5 vF vG vH vI vJ vK vL vM vN vO vP vQ vR vS vT vU vV vW y4 y5 y6 y7 y8 y9 y_ za zb zc zd ze zf zg zh zi zj zk zl zm zn zo zp zq zr zs zt zu zv zw zx zy zz zA Dk Dl Dm Dn zB zC zD Do Dp Dq Dr Ds Dt Du Dv Dw Dx Dy Dz DC DD DF DG DH DI DJ DK DL DN DO DQ DR DS DT DU DV DW DX DY DZ D1 D2 D3 D4 D5 D6 D7 D8 D9 D_ Ea Eb Ec Ed Ee Ef Eg Eh Ei Ej Ek:Value),bg (al A) prog Stop m l γ ⟨Conc.G ((base 125).at ⟨#[.pointer (some (ag.fG A)),dR,.I cA,.bool sv,.bool aw,.I it,.int .i32 old,th,fS,fT,fU,fV,fW,fX,ri,rj,gp,fY,fZ,f2,jk,f_,g3,g4,g5,vF,vG,vH,vI,vJ,vK,vL,vM,vN,vO,vP,vQ,vR,vS,vT,vU,vV,vW,y4,y5,y6,y7,y8,y9,y_,za,zb,zc,zd,ze,zf,zg,zh,zi,zj,zk,zl,zm,zn,zo,zp,zq,zr,zs,zt,zu,zv,zw,zx,zy,zz,zA,Dk,Dl,Dm,Dn,zB,zC,zD,Do,Dp,Dq,Dr,Ds,Dt,Du,.pointer (some (ag.lf A)),Dv,Dw,Dx,Dy,Dz,DC,DD,DF,DG,DH,DI,DJ,DK,DL,DN,DO,DQ,DR,DS,DT,DU,DV,DW,DX,DY,DZ,D1,D2,D3,D4,D5,D6,D7,D8,D9,D_,Ea,Eb,Ec,Ed,Ee,Ef,Eg,Eh,Ei,Ej,Ek],[]⟩ [.inRegion (oM ((er 27 ((dG (f125.body.getD .skip)).getD .skip)).getD .skip)) [4],.code (lM ((er 27 ((dG (f125.body.getD .skip)).getD .skip)).getD .skip)),.inBlock 1,.inLoop ((dG (f125.body.getD .skip)).getD .skip),.inBlock 0,.code ((lr (f125.body.getD .skip)).getD .skip)]) (a2.at aF (.inRegion aC (aJ::aO)::aH)::csZ),w,mine⟩
def P7(A:fe)(Stop:Bool->ag.Lo A.ap->aX->Prop)(m:Bool)(mine:c7)(a2:Frame)(aF:Act)(aC:du)(aJ:Nat)(aO:e8)(aH:fC)(csZ:dZ)(l:ag.Lo A.ap)(γ:ag.aN A.aK)(cA:Int)(sv aw:Bool)(it old:Int)(w:aL):Prop:=
 jW [.code (lM ((er 27 ((dG (f125.body.getD .skip)).getD .skip)).getD .skip)),.inBlock 1,.inLoop ((dG (f125.body.getD .skip)).getD .skip),.inBlock 0,.code ((lr (f125.body.getD .skip)).getD .skip)] A Stop m mine a2 aF aC aJ aO aH csZ l γ cA sv aw it old w
section
variable{A:fe}{Stop:Bool->ag.Lo A.ap->aX->Prop}{m:Bool}{mine:c7}
variable{a2:Frame}{aF:Act}{aC:du}{aJ:Nat}{aO:e8}{aH:fC}{csZ:dZ}
theorem arJ(G:A.Good){l:ag.Lo A.ap}{γ:ag.aN A.aK}{sv aw:Bool}(e:∀w' c,(c=γ\/c.a6<γ.a6)->ak (al A) mine w w'->ij (al A) l c->qk A Stop m mine a2 aF aC aJ aO aH csZ l c cA sv aw it (c.mu.word:Int) w'):
 vX A Stop m mine a2 aF aC aJ aO aH csZ l γ cA sv aw it old false w:=by
 unfold vX;intros
 unfold qk jW at e;have hF:=ak.refl (al A) mine w;refine a9 G ?_;simp only[f125,vae,dG,lr,er,lM,Nat.reduceBEq,vai,↓reduceIte]at e⊢;repeat w_go ak.trans
 refine dY U hF λb a o i g f h d hF=>?_;have j:f=γ\/f.a6<γ.a6:=by
  rcases i with rfl|⟨q,_⟩<;>rcases h with rfl|⟨p,_⟩
  .simp_all
  .simp_all
  .simp_all
  omega
 have k:=d.sees;refine l6 (Bi U U Ap U U (l5 d.mt.1) Kb) U U (.refl _) U U ?_;clear d h i a;refine a9 G ?_;walk_nrm
 repeat w_nl ak.trans
 u_c stepG_inLoop ak.trans hF
 exact vah (λb a=>⟨U,λo n=>(e b f j (ak.trans hF a) k ..).iv (dk G) n⟩)
def arK(G:A.Good){l:ag.Lo A.ap}{γ:ag.aN A.aK}{sv aw:Bool}(t:(bits .and .i32 old 5==0)=false)(d:∀w' g j,(al A).dO l γ g->ak (al A) mine w w'->N_ A Stop m mine a2 aF aC aJ aO aH csZ l g j sv aw it old w'):
 vX A Stop m mine a2 aF aC aJ aO aH csZ l γ cA sv aw it old true w:=by
 unfold vX;intros
 unfold N_ at d;have hF:=ak.refl (al A) mine w;simp only[f125,vae,dG,lr,er,lM,oM,Nat.reduceBEq,vai,↓reduceIte]at d⊢;by_cases k:cA=0
 .subst k;refine a9 G ?_;repeat w_go ak.trans
  refine dY U hF λc a e i b s h n hF=>?_;have o:=(dk G).trans _ _ _ _ i h;refine l6 (stepG_nanotime U U Ap U func145 UA Uz Uj Uh QE) U U ⟨_,U⟩ U U ?_;replace hF:=ak.trans hF (⟨λ_ _=>U,vac _,⟨_,U⟩,U,U⟩:ak (al A) mine b b.later);clear n h i a;generalize((b.os.mono+b.tick:Nat):Int)=r;refine a9 G ?_;walk_nrm
  repeat w_go ak.trans
  exact vah (λc a=>⟨U,λe f=>d c e _ ((dk G).trans _ _ _ _ o f) (ak.trans hF a) ..⟩)
 .have p:(cA==0)=false:=by simp_all
  have q:(cA != 0)=true:=Bc;refine a9 G ?_;repeat w_go ak.trans
  exact vah (λc a=>⟨U,λe f=>d c e _ f (ak.trans hF a) ..⟩)
end
def Em(A:fe)(Stop:Bool->ag.Lo A.ap->aX->Prop)(m:Bool)(mine:c7)(a2:Frame)(aF:Act)(aC:du)(aJ:Nat)(aO:e8)(aH:fC)(csZ:dZ)(l:ag.Lo A.ap)(γ:ag.aN A.aK)(cA:Int)(sv aw:Bool)(it old:Int)(w:aL):Prop:=
 jW [.code (lM ((er 29 ((dG (f125.body.getD .skip)).getD .skip)).getD .skip)),.inBlock 1,.inLoop ((dG (f125.body.getD .skip)).getD .skip),.inBlock 0,.code ((lr (f125.body.getD .skip)).getD .skip)] A Stop m mine a2 aF aC aJ aO aH csZ l γ cA sv aw it old w
section
variable{A:fe}{Stop:Bool->ag.Lo A.ap->aX->Prop}{m:Bool}{mine:c7}
variable{a2:Frame}{aF:Act}{aC:du}{aJ:Nat}{aO:e8}{aH:fC}{csZ:dZ}
def P4(G:A.Good){l:ag.Lo A.ap}{γ:ag.aN A.aK}{sv aw:Bool}(i:∀w' h q,(h=γ\/h.a6<γ.a6)->ak (al A) mine w w'->ij (al A) l h->Em A Stop m mine a2 aF aC aJ aO aH csZ l h cA q aw it (h.mu.word:Int) w'):
 P7 A Stop m mine a2 aF aC aJ aO aH csZ l γ cA sv aw it old w:=by
 unfold P7 jW;intros
 unfold Em jW at i;have hF:=ak.refl (al A) mine w;simp only[f125,vae,dG,lr,er,lM,Nat.reduceBEq,vai,↓reduceIte]at i⊢;cases sv with
 |true=>
  refine a9 G ?_;repeat w_go ak.trans
  refine dY U hF λb a j f c p e d hF=>?_;have k:=(dk G).less _ _ _ ((dk G).trans _ _ _ _ f e);have n:=d.sees;refine l6 (Bi U U Ap U U (l5 d.mt.1) Kb) U U (.refl _) U U ?_;clear d e f a;refine a9 G ?_;walk_nrm
  u_op ak.trans hF
  u_c veb ak.trans hF
  exact vah (λb a=>⟨U,λj g=>(i b p _ k (ak.trans hF a) n ..).iv (dk G) g⟩)
 |false=>
  refine a9 G ?_;repeat w_go ak.trans
  refine dY U hF λb a j f c p e d hF=>?_;have g:=(dk G).trans _ _ _ _ f e;refine l6 (stepG_nanotime U U Ap U func145 UA Uz Uj Uh QE) U U ⟨_,U⟩ U U ?_;replace hF:=ak.trans hF (⟨λ_ _=>U,vac _,⟨_,U⟩,U,U⟩:ak (al A) mine c c.later);clear d e f a;generalize((c.os.mono+c.tick:Nat):Int)=s;refine a9 G ?_;walk_nrm
  repeat w_go ak.trans
  refine dY U hF λb a j f o r e d hF=>?_;have k:=(dk G).less _ _ _ ((dk G).trans _ _ _ _ g ((dk G).trans _ _ _ _ f e));have n:=d.sees;refine l6 (Bi U U Ap U U (l5 d.mt.1) Kb) U U (.refl _) U U ?_;clear d e f a;refine a9 G ?_;walk_nrm
  u_op ak.trans hF
  u_c veb ak.trans hF
  exact vah (λb a=>⟨U,λj g=>(i b r _ k (ak.trans hF a) n ..).iv (dk G) g⟩)
def arL(G:A.Good){l:ag.Lo A.ap}{γ:ag.aN A.aK}{sv aw:Bool}(e:bits .and .i32 old 4=0)(c:∀w',ak (al A) mine w w'->qk A Stop m mine a2 aF aC aJ aO aH csZ l γ cA sv true 0 old w'):
 Em A Stop m mine a2 aF aC aJ aO aH csZ l γ cA sv aw it old w:=by
 unfold Em jW;intros
 unfold qk jW at c;have hF:=ak.refl (al A) mine w;simp only[f125,vae,dG,lr,er,lM,Nat.reduceBEq,vai,↓reduceIte]at c⊢;refine a9 G ?_;repeat w_nl ak.trans
 u_c stepG_inLoop ak.trans hF
 exact vah (λa b=>⟨U,λf d=>(c a (ak.trans hF b) ..).iv (dk G) d⟩)
