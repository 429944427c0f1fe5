import Derived.Test.YtnomloiacicoaaaGreatP01
import Derived.Conc.MuWords
import Derived.Test.YtnomloiacicoaaaGreatProg
import Derived.Test.YtnomloiacicoaaaGreatPAC
set_option linter.all false
set_option maxRecDepth 100000
set_option maxHeartbeats 16000000
namespace Go.Proofs.YtnomloiacicoaaaGreat
def vcu:=@Go.Conc.stepG_add_atomic
open Tryz
namespace ah
open Conc ConcM av bj
structure Lo(aq:Type) where
 mx:b5
 tok:Bool
 deaf:Nat
 fuel:Nat
 am:aq
structure aQ(aH:Type) where
 mu:be
 a7:Nat
 am:aH
structure fq where
 aq:Type
 aH:Type
 xH:aH->List aq->Prop
 c5:aH->Nat
 Dd:Bool->aq->aH->aH->Prop
 TA:aq->aH->Prop
 left:aq->Prop
 past:aq->Bool
 zero:aq->Prop
 st:Nat
 ty:TypeId
 cells:aH->Array Value
 oZ:aH->aR->Prop
 De:Nat->Prop
 h_:Loc->Prop
 fj:Loc->Prop
 K:Nat->Prop
 wg:Addr
 most:Nat
structure fq.Good(A:fq):Prop where
 refl:∀o a b,A.Dd o a b b
 trans:∀o a b c d,A.Dd o a b c->A.Dd o a c d->A.Dd o a b d
 TB:∀b w w',(∀k,A.De k->w'.heap[k]?=w.heap[k]?)->A.oZ b w->A.oZ b w'
 NC:¬A.De A.st
 oo:∀b,A.K b->b≠A.st/\¬A.De b
 q1:∀b aB,A.xH b aB->∃(j:Nat)(a:A.aq),aB[j]?=some a/\¬A.left a/\¬A.TA a b
 zero:∀b(aB:List A.aq)(j:Nat) a,A.xH b aB->aB[j]?=some a->A.zero a->j=0
 h_:∀l,A.h_ l->(∃off sp,l=.cell ⟨A.st,off,sp⟩/\2<=off)\/∃b,fy l=some b/\A.De b
 fj:∀l,A.fj l->∃b,fy l=some b/\A.De b
 ux:∀l,A.h_ l->¬A.fj l
def aaW:b5->Bool| .own=>true| _=>false
def fW(A:fq):Addr:=⟨A.st,0,none⟩
def lp(A:fq):Addr:=⟨A.st,1,none⟩
def iq(A:fq)(m:be)(b:A.aH):Obj:=.cells (#[.int .i32 (m.word:Int),.int .u32 (m.sema:Int)]++A.cells b) A.ty
structure tt(A:fq)(γ:aQ A.aH)(ls:List (Lo A.aq)):Prop where
 mM:dN γ.mu (ls.map (·.mx))
 pC:A.xH γ.am (ls.map (·.am))
 ic:(ls.map (·.fuel)).sum+2*rx γ.mu (ls.map (·.mx))+A.c5 γ.am<=γ.a7
 aX:∀(i:Nat)(l:Lo A.aq),ls[i]?=some l->l.tok=true->l.mx=.own
 JZ:∀(i:Nat)(l:Lo A.aq),ls[i]?=some l->A.left l.am->l.mx=.idle
 len:ls.length<=A.most
abbrev ao(A:fq):fz where
 Lo:=Lo A.aq
 aQ:=aQ A.aH
 a7:=λγ=>γ.a7
 qu:=tt A
 ey:=λl γ aj=>aj=γ\/(aj.a7<γ.a7/\A.Dd (aaW l.mx) l.am γ.am aj.am/\yY l.mx γ.mu aj.mu)
 K:=A.K
 ia:=λb=>b=A.st\/A.De b
 uy:=λγ w=>w.heap[A.st]?=some (iq A γ.mu γ.am)/\A.oZ γ.am w
 tok:=λl=>l.tok
 deaf:=λl=>l.deaf
 past:=λl=>A.past l.am
 Left:=λl=>A.left l.am
 zero:=λl=>A.zero l.am
 oX:=λl γ=>(l.mx=.km/\γ.mu.sema=0)\/(l.mx=.idle/\A.TA l.am γ.am)
 h_:=A.h_
 fj:=λl=>l=.cell (fW A)\/l=.cell (lp A)\/A.fj l
 mu:=fW A
 wg:=A.wg
 py:=λ_ _ _=>False
theorem ND:∀(l:uac)(i x:Nat),l[i]?=some x->x<=l.sum
 |a::l,0,x,h=>AA
 |a::l,i+1,x,h=>by have:=ND l i x AA;grind
def G3{A:fq}{ls:List (Lo A.aq)}{i:Nat}{l:Lo A.aq}(h:ls[i]?=some l):(ls.map (·.mx))[i]?=some l.mx:=by grind
theorem TC{aq aH:Type}(f:aq->aH){ls:List aq}{i:Nat}{l l1:aq}(h:ls[i]?=some l)(a:f l1=f l):(ls.set i l1).map f=ls.map f:=by apply vbw;grind
def dE{A}(G:A.Good):(ao A).Good where
 refl:=AA
 trans:=by
  rintro l a b c (rfl|⟨h1,h2,h3⟩) (rfl|⟨r,o,n⟩)
  .grind
  .grind
  .grind
  .exact .inr ⟨AA,G.trans _ _ _ _ _ h2 o,h3.trans n⟩
 less:=by grind
 mt:=λγ w w' hs⟨h1,h2⟩=>⟨AA,G.TB _ w w' AA h2⟩
 oo:=λb f hs=>hs.elim (G.oo b f).1 (G.oo b f).2
 one:=λγ ls i j a b h hi d q f=>by have h1:=h.aX i a hi q;have h2:=h.aX j b d f;exact h.mM.aaT AA AA
 q1:=λγ ls h=>by
  obtain⟨j,a,d,t,s⟩:=G.q1 _ _ h.pC;rw[vbf]at d;obtain⟨l,u,rfl⟩:=vai.1 d;by_cases hq:l.mx=.km/\γ.mu.sema=0
  .obtain⟨k,y,hk,h1,h2⟩:=h.mM.alive hq.2 (i:=j) AA;rw[vbf]at hk;obtain⟨m,g,rfl⟩:=vai.1 hk;exact⟨k,m,g,λe=>h1 (h.JZ k m g e),AA⟩
  grind
 zero:=λγ ls j l h d p=>G.zero _ _ j l.am h.pC AA p
 GY:=λl h=>by
  rcases G.h_ l h with⟨off,sp,rfl,_⟩|⟨b,h1,h2⟩
  .exact⟨A.st,Y,.inl Y⟩
  grind
 C2:=λl h=>by
  rcases h with rfl|rfl|h
  .exact⟨A.st,Y,.inl Y⟩
  .exact⟨A.st,Y,.inl Y⟩
  .obtain⟨b,h1,h2⟩:=G.fj l h;grind
 ux:=λl h hs=>by
  rcases hs with rfl|rfl|hs
  .rcases G.h_ _ h with⟨off,sp,e,h2⟩|⟨b,h1,h2⟩
   .grind[fW]
   .simp[fy,fW]at h1;subst h1;exact G.NC h2
  .rcases G.h_ _ h with⟨off,sp,e,h2⟩|⟨b,h1,h2⟩
   .grind[lp]
   .simp[fy,lp]at h1;subst h1;exact G.NC h2
  .exact G.ux l h hs
def J0{A:fq}(G:A.Good){l:Lo A.aq}{γ:aQ A.aH}(hs:ib (ao A) l γ){y:b5}{m1:be}{f1 d1:Nat}{nn:Bool}(h:mm l.mx y γ.mu m1 l.fuel f1)(ht:nn=true->y=.own)(s:¬A.left l.am\/y=.idle):
 C4 (ao A) l γ ({mx:=y,tok:=nn,deaf:=d1,fuel:=f1,am:=l.am}:Lo A.aq) ({mu:=m1,a7:=γ.a7-1,am:=γ.am}:aQ A.aH):=by
 have key:∀(ls:List (Lo A.aq))(i:Nat),ls[i]?=some l->tt A γ ls->(ls.map (·.fuel)).sum+f1=((ls.set i ({mx:=y,tok:=nn,deaf:=d1,fuel:=f1,am:=l.am}:Lo A.aq)).map (·.fuel)).sum+l.fuel/\1<=γ.a7/\
  ((ls.set i ({mx:=y,tok:=nn,deaf:=d1,fuel:=f1,am:=l.am}:Lo A.aq)).map (·.fuel)).sum+2*rx m1 ((ls.map (·.mx)).set i y)+A.c5 γ.am<=γ.a7-1:=by
  intro ls i hi hg;have c:i<ls.length:=(vab.1 hi).1;have q:=(vab.1 hi).2;have e:=G0 (ls.map (·.fuel)) i f1 AA;have g:(ls.set i ({mx:=y,tok:=nn,deaf:=d1,fuel:=f1,am:=l.am}:Lo A.aq)).map (·.fuel)=(ls.map (·.fuel)).set i f1:=BB;rw[g];have e2:(ls.map (·.fuel))[i]'AA=l.fuel:=AA;rw[e2]at e;have t:=h.fuel _ i (G3 hi) hg.mM;have r:=ND (ls.map (·.fuel)) i l.fuel AA;have:=hg.ic;omega
 refine⟨?_,λls i hi hg=>?_⟩
 .obtain⟨ls,i,hi,hg⟩:=hs;grind
 .obtain⟨_,p,o⟩:=key ls i hi hg;have n:(ls.set i ({mx:=y,tok:=nn,deaf:=d1,fuel:=f1,am:=l.am}:Lo A.aq)).map (·.mx)=(ls.map (·.mx)).set i y:=BB;have m:(ls.set i ({mx:=y,tok:=nn,deaf:=d1,fuel:=f1,am:=l.am}:Lo A.aq)).map (·.am)=ls.map (·.am):=TC _ hi Y;have c:i<ls.length:=(vab.1 hi).1;refine⟨⟨by rw[n];exact h.inv _ i (G3 hi) hg.mM,by rw[m];exact hg.pC,AA,λj b a hk=>?_,λj b a hk=>?_,by rw[vdq];exact hg.len⟩,λj f a k=>.inr ⟨AA,G.refl _ _ _,h.ln _ i j f.mx hg.mM (G3 hi) a (G3 k)⟩⟩
  .by_cases d:j=i
   .grind
   .rw[vbg (Ne.symm d)]at a;exact hg.aX j b a hk
  .by_cases d:j=i
   .grind
   .rw[vbg (Ne.symm d)]at a;exact hg.JZ j b a hk
end ah
namespace ah
open Conc av bj
structure ai(Z:fz)(mine:dL)(w w1:aR):Prop where
 heap:∀b,Z.K b\/mine b->w1.heap[b]?=w.heap[b]?
 size:w.heap.size<=w1.heap.size
 later:Go.ConcM.OsLater w.os w1.os
 output:w1.output=w.output
 tape:w1.tape=w.tape
theorem ai.refl Z mine w:ai Z mine w w:=⟨λ_ _=>Y,vac _,.refl _,Y,Y⟩
theorem ai.trans{Z mine a b c}(h:ai Z mine a b)(k:ai Z mine b c):ai Z mine a c:=
 ⟨λx d=>(k.heap x d).trans (h.heap x d),vad h.size k.size,h.later.trans k.later,k.output.trans h.output,k.tape.trans h.tape⟩
theorem lq{mine w w1}(h:w1.heap.size=w.heap.size):grown mine w w1=mine:=by grind[grown]
variable{g:uaj}
section
variable{Z:fz}{Q:cE}{Stop:Bool->Z.Lo->a0->Prop}{m:Bool}{l:Z.Lo}
def ep.rw{γ X w'}(h:ep Z l γ X w'):ai Z X.mine X.w w':=⟨h.rely.heap,h.rely.size,h.later,h.output,h.tape⟩
def aoC{mine:dL}{D:aR->aR->Array Event->Prop}{S:Goroutine->aR->Prop}:∀{n:Nat}{g:uaj}{w:aR},Goes Q m (ai Z mine) D (λg w=>g.status=.running/\S g w) n g w->g.status=.running
 |0,_,w,h=>(h w (.refl _ _ _)).1
 | _+1,_,w,h=>h.elim (λh=>(h w (.refl _ _ _)).1) (λh=>h.1)
def ei{mine:dL}{X:Z.aQ->Prop}{n:Nat}{w0 w:aR}(hs:g.status=.running)(hF:ai Z mine w0 w)(h:∀b,ai Z mine w b->∀e,X e->∀a d,Z.ey l e d->ep Z l d ⟨g,b,mine⟩ a->ai Z mine w0 a->Then Q Stop m l d ⟨g,b,mine⟩ a):
 Goes Q m (ai Z mine) Go.ConcR.DC0 (λg w=>g.status=.running/\∀i,X i->bc Z Q Stop m l i ⟨g,w,mine⟩) n g w:=
 vaj λb c=>⟨hs,λe k=>bc.mk hs λa d j f=>h b c e k a d j f ((hF.trans c).trans (ep.rw f))⟩
theorem vI(G:Z.Good)(c:∀g g1,¬Z.py l g g1){mine γ}:∀(n:Nat)(g:uaj)(w:aR)(bu:Z.aQ),Z.ey l γ bu->
 Goes Q m (ai Z mine) Go.ConcR.DC0 (λg w=>g.status=.running/\∀a,Z.ey l γ a->bc Z Q Stop m l a ⟨g,w,mine⟩) n g w->bc Z Q Stop m l bu ⟨g,w,mine⟩
 |0,g,w,bu,b,h=>(h w (.refl _ _ _)).2 bu b
 |n+1,g,w,bu,b,h=>by
  rcases h with h|⟨hs,h⟩
  .exact(h w (.refl _ _ _)).2 bu b
  .refine bc.mk hs λw' a f d=>?_;have:=h w' (ep.rw d);cases hst:stepG Q m g w' with
   |go g1 w1 es=>
    rw[hst]at this;obtain⟨⟨rfl,rfl⟩,h1⟩:=this;have hg:grown mine w1 w1=mine:=lq Y;refine .quiet hst ⟨?_,⟨AA,vac _,.refl _,Y,Y⟩,λ_ _ _=>Y,NE,?_⟩ ?_
    .exact aoC h1
    .rintro(⟨e,i,_⟩|h)
     .grind
     grind
    .show bc Z Q Stop m l a ⟨g1,w1,grown mine w1 w1⟩;rw[hg];exact vI G c n g1 w1 a (G.trans _ _ _ _ b f) h1
   | _=>rw[hst]at this;exact this.elim
end
variable{d1 f1:Nat}
def TD{A:fq}(G:A.Good){l:Lo A.aq}{γ:aQ A.aH}(hs:ib (ao A) l γ){a1:A.aq}{b1:A.aH}{nn:Bool}(m:∀(aB:List A.aq)(i:Nat),aB[i]?=some l.am->A.xH γ.am aB->A.xH b1 (aB.set i a1))(B:f1+A.c5 b1+1<=l.fuel+A.c5 γ.am)(g:∀(o:Bool)(a':A.aq),(l.mx=.own->o=false)->(A.zero l.am->¬A.zero a')->A.Dd o a' γ.am b1)(v:A.left a1->l.mx=.idle)(s:nn=true->l.mx=.own):
 C4 (ao A) l γ ({mx:=l.mx,tok:=nn,deaf:=d1,fuel:=f1,am:=a1}:Lo A.aq) ({mu:=γ.mu,a7:=γ.a7-1,am:=b1}:aQ A.aH):=by
 have key:∀(ls:List (Lo A.aq))(i:Nat),ls[i]?=some l->tt A γ ls->1<=γ.a7/\((ls.set i ({mx:=l.mx,tok:=nn,deaf:=d1,fuel:=f1,am:=a1}:Lo A.aq)).map (·.fuel)).sum+2*rx γ.mu (ls.map (·.mx))+A.c5 b1<=γ.a7-1:=by intro ls i hi hg;have c:i<ls.length:=(vab.1 hi).1;have x:=(vab.1 hi).2;have e:=G0 (ls.map (·.fuel)) i f1 AA;have p:(ls.set i ({mx:=l.mx,tok:=nn,deaf:=d1,fuel:=f1,am:=a1}:Lo A.aq)).map (·.fuel)=(ls.map (·.fuel)).set i f1:=BB;rw[p];have e2:(ls.map (·.fuel))[i]'AA=l.fuel:=AA;rw[e2]at e;have y:=ND (ls.map (·.fuel)) i l.fuel AA;have:=hg.ic;omega
 refine⟨?_,λls i hi hg=>?_⟩
 .obtain⟨ls,i,hi,hg⟩:=hs;grind
 .obtain⟨u,t⟩:=key ls i hi hg;have r:(ls.set i ({mx:=l.mx,tok:=nn,deaf:=d1,fuel:=f1,am:=a1}:Lo A.aq)).map (·.mx)=ls.map (·.mx):=TC _ hi Y;have q:(ls.set i ({mx:=l.mx,tok:=nn,deaf:=d1,fuel:=f1,am:=a1}:Lo A.aq)).map (·.am)=(ls.map (·.am)).set i a1:=BB;have c:i<ls.length:=(vab.1 hi).1;have k:(ls.map (·.am))[i]?=some l.am:=AA;refine⟨⟨by rw[r];exact hg.mM,by rw[q];exact m _ i k hg.pC,AA,λj b a hk=>?_,λj b a hk=>?_,by rw[vdq];exact hg.len⟩,λj h a C=>.inr ⟨AA,?_,.refl _ _⟩⟩
  .by_cases d:j=i
   .grind
   .rw[vbg (Ne.symm d)]at a;exact hg.aX j b a hk
  .by_cases d:j=i
   .grind
   .rw[vbg (Ne.symm d)]at a;exact hg.JZ j b a hk
  .refine g _ _ (λz=>?_) (λn f=>?_)
   .cases w:h.mx<;>simp only[aaW]
    exact absurd (hg.mM.aaT AA AA) a
   .have h1:=G.zero _ _ i l.am hg.pC k n;have h2:=G.zero _ _ j h.am hg.pC AA f;grind
variable{g1:uaj}{m1 mu:be}
section
variable{A:fq}{Q:cE}{Stop:Bool->Lo A.aq->a0->Prop}{m:Bool}{l:Lo A.aq}{γ:aQ A.aH}{X:a0}{w':aR}
def bf(G:A.Good){mine:dL}{w:aR}(h:Goes Q m (ai (ao A) mine) Go.ConcR.DC0 (λg w=>g.status=.running/\∀a,(ao A).ey l γ a->bc (ao A) Q Stop m l a ⟨g,w,mine⟩) 300 g w):bc (ao A) Q Stop m l γ ⟨g,w,mine⟩:=
 vI (dE G) LK 300 _ _ _ Jv h
def mn{b}{w:aR}(h:w.heap[A.st]?=some (iq A mu b)):w.cell? (fW A)=some (.int .i32 (mu.word:Int)):=by simp[World.cell?,fW,h,iq];grind
def J2{b}{w:aR}(h:w.heap[A.st]?=some (iq A mu b)):w.cell? (lp A)=some (.int .u32 (mu.sema:Int)):=by simp[World.cell?,lp,h,iq];grind
def qw{b}{w:aR}(h:w.heap[A.st]?=some (iq A mu b))off(sp):w.frozen? ⟨A.st,off,sp⟩=false:=by simp[World.frozen?,h,iq]
theorem mN(w:aR)(a:Addr)v{b}(c:b≠a.block):(w.setCell a v).heap[b]?=w.heap[b]?:=by simp[World.setCell,vbh,Ne.symm c]
def oq(w:aR)a v:(w.setCell a v).heap.size=w.heap.size:=by simp_all
def aoF{b}{w:aR}(h:w.heap[A.st]?=some (iq A mu b))(hs:m1.sema=mu.sema):(w.setCell (fW A) (.int .i32 (m1.word:Int))).heap[A.st]?=some (iq A m1 b):=by unfold World.setCell;simp_all[fW,vbh,iq]
def aoG{b}{w:aR}(h:w.heap[A.st]?=some (iq A mu b))(hs:m1.word=mu.word):(w.setCell (lp A) (.int .u32 (m1.sema:Int))).heap[A.st]?=some (iq A m1 b):=by unfold World.setCell;simp_all[lp,vbh,iq]
def aaX(G:A.Good){b w}(h:A.oZ b w)off(sp)v:A.oZ b (w.setCell ⟨A.st,off,sp⟩ v):=
 G.TB b w _ (λk hk=>mN w _ v (λe=>G.NC AA)) h
def aaY{mine}w off(sp)v:lU (ao A) mine w (w.setCell ⟨A.st,off,sp⟩ v):=
 ⟨λb _ _ hs=>mN w _ v AA,BB,.refl _,Y,Y⟩
def rz Z mine w:lU Z mine w w:=⟨AA,vac _,.refl _,Y,Y⟩
theorem aoH(G:A.Good)(a:ep (ao A) l γ X w'){y}(hs:stepG Q m X.g w'=.go g1 (w'.setCell (fW A) (.int .i32 (m1.word:Int))) #[⟨.cell (fW A),false,true⟩,⟨.cell (fW A),true,true⟩])(hrun:g1.status=.running)(hd:0<l.deaf)(d:m1.sema=γ.mu.sema)(c:¬A.left l.am)(ht:mm l.mx y γ.mu m1 l.fuel f1)(b:l.tok=true->y=.own)(h:bc (ao A) Q Stop m ({l with mx:=y,fuel:=f1}:Lo A.aq) ({γ with mu:=m1,a7:=γ.a7-1}:aQ A.aH) ⟨g1,w'.setCell (fW A) (.int .i32 (m1.word:Int)),X.mine⟩):
 Then (Z:=ao A) Q Stop m l γ X w':=by
 have hg:grown X.mine w' (w'.setCell (fW A) (.int .i32 (m1.word:Int)))=X.mine:=lq (oq _ _ _);refine .turn (l1:=({l with mx:=y,fuel:=f1}:Lo A.aq)) (bu:=({γ with mu:=m1,a7:=γ.a7-1}:aQ A.aH)) hs ⟨hrun,.inl ⟨⟨.cell (fW A),true,true⟩,AS,.inr (.inr (.inr (.inr ⟨Y,A.st,Y,.inl Y⟩)))⟩,aaY w' 0 none _,⟨aoF a.mt.1 d,aaX G a.mt.2 _ _ _⟩,
  J0 (d1:=l.deaf) (nn:=l.tok) G a.sees ht b (.inl c),.inl ⟨Y,Y,Y,?_⟩,.inr λe f=>?_⟩ AA ?_
 .exact⟨.inr AA,.inr ⟨Y,.inl Y,hd⟩,NE⟩
 .grind
 grind
theorem aoI(G:A.Good)(a:ep (ao A) l γ X w'){y}(hs:stepG Q m X.g w'=.go g1 (w'.setCell (lp A) (.int .u32 (m1.sema:Int))) (semEvents (lp A)))(hrun:g1.status=.running)(e:m1.word=γ.mu.word)(d:¬A.left l.am)(ht:mm l.mx y γ.mu m1 l.fuel f1)(c:l.tok=true->y=.own)(b:mayWake Q X.g=true\/0<γ.mu.sema)(h:bc (ao A) Q Stop m ({l with mx:=y,fuel:=f1}:Lo A.aq) ({γ with mu:=m1,a7:=γ.a7-1}:aQ A.aH) ⟨g1,w'.setCell (lp A) (.int .u32 (m1.sema:Int)),X.mine⟩):Then (Z:=ao A) Q Stop m l γ X w':=by
 have hg:grown X.mine w' (w'.setCell (lp A) (.int .u32 (m1.sema:Int)))=X.mine:=lq (oq _ _ _);refine .turn (l1:=({l with mx:=y,fuel:=f1}:Lo A.aq)) (bu:=({γ with mu:=m1,a7:=γ.a7-1}:aQ A.aH)) hs ⟨hrun,.inl ⟨⟨.cell (lp A),true,true⟩,by simp[semEvents],.inr (.inr (.inr (.inr ⟨Y,A.st,Y,.inl Y⟩)))⟩,aaY w' 1 none _,⟨aoG a.mt.1 e,aaX G a.mt.2 _ _ _⟩,
  J0 (d1:=l.deaf) (nn:=l.tok) G a.sees ht c (.inl d),.inl ⟨Y,Y,?_,?_⟩,b.imp id λi f g=>?_⟩ AA ?_
 .grind[deafBehind,semEvents]
 .exact⟨.inl trivial,.inr ⟨Y,.inr Jv,Hx⟩,.inr ⟨Y,.inr Jv,Hx⟩,.inl trivial,NE⟩
 .grind
 grind
def tu(G:A.Good)(b:ep (ao A) l γ X w'){mk}(a:mk=.disable\/mk=.enable){y}(hs:stepG Q m X.g w'=.go g1 w' #[⟨.mark mk,false,true⟩])(hrun:g1.status=.running)(d:¬A.left l.am)(ht:mm l.mx y γ.mu γ.mu l.fuel f1)(c:l.tok=true->y=.own)(hd:d1=deafBehind l.deaf #[⟨.mark mk,false,true⟩])(h:bc (ao A) Q Stop m ({l with mx:=y,fuel:=f1,deaf:=d1}:Lo A.aq) ({γ with a7:=γ.a7-1}:aQ A.aH) ⟨g1,w',X.mine⟩):Then (Z:=ao A) Q Stop m l γ X w':=by
 refine .turn (l1:=({l with mx:=y,fuel:=f1,deaf:=d1}:Lo A.aq)) (bu:=({γ with a7:=γ.a7-1}:aQ A.aH)) hs ⟨hrun,.inl ⟨⟨.mark mk,false,true⟩,AS,a.elim (λe=>.inl JC) (λe=>.inr AA)⟩,rz _ _ _,b.mt,
  J0 (d1:=d1) (nn:=l.tok) G b.sees ht c (.inl d),.inl ⟨Y,Y,hd,.inl ?_,NE⟩,AA⟩ AA ?_
 .rcases a with rfl|rfl<;>trivial
 grind[lq]
def TE(G:A.Good)(b:ep (ao A) l γ X w')(hs:stepG Q m X.g w'=.go g1 w' #[⟨.mark (.acquire (fW A)),false,true⟩])(hrun:g1.status=.running)(c:¬A.left l.am)(a:l.mx=.own)(ht:l.tok=false)(hd:l.deaf=0)(d:f1<l.fuel)(h:bc (ao A) Q Stop m ({l with fuel:=f1,tok:=true}:Lo A.aq) ({γ with a7:=γ.a7-1}:aQ A.aH) ⟨g1,w',X.mine⟩):Then (Z:=ao A) Q Stop m l γ X w':=by
 refine .turn (l1:=({l with fuel:=f1,tok:=true}:Lo A.aq)) (bu:=({γ with a7:=γ.a7-1}:aQ A.aH)) hs ⟨hrun,.inl ⟨⟨.mark (.acquire (fW A)),false,true⟩,AS,.inr AA⟩,rz _ _ _,b.mt,
  J0 (d1:=l.deaf) (nn:=true) G b.sees (tr d l.mx) (λ_=>a) (.inl c),.inr (.inl ⟨Y,hd,hd,ht,Y,Y⟩),AA⟩ AA ?_
 grind[lq]
def aHF(G:A.Good)(a:ep (ao A) l γ X w')(hs:stepG Q m X.g w'=.go g1 w' #[⟨.mark (.releaseMerge (fW A)),false,true⟩])(hrun:g1.status=.running)(b:¬A.left l.am)(ht:l.tok=true)(hd:l.deaf=0)(c:f1<l.fuel)(h:bc (ao A) Q Stop m ({l with fuel:=f1,tok:=false}:Lo A.aq) ({γ with a7:=γ.a7-1}:aQ A.aH) ⟨g1,w',X.mine⟩):Then (Z:=ao A) Q Stop m l γ X w':=by
 refine .turn (l1:=({l with fuel:=f1,tok:=false}:Lo A.aq)) (bu:=({γ with a7:=γ.a7-1}:aQ A.aH)) hs ⟨hrun,.inl ⟨⟨.mark (.releaseMerge (fW A)),false,true⟩,AS,.inr AA⟩,rz _ _ _,a.mt,
  J0 (d1:=l.deaf) (nn:=false) G a.sees (tr c l.mx) AA (.inl b),.inr (.inr (.inl ⟨Y,hd,hd,ht,Y,Y⟩)),AA⟩ AA ?_
 grind[lq]
def mo{w1:aR}(hs:stepG Q m X.g w'=.go g1 w1 #[])(hrun:g1.status=.running)(d:w1.heap=w'.heap)(b:Go.ConcM.OsLater w'.os w1.os)(a:w1.output=w'.output)(ht:w1.tape=w'.tape)(h:bc (ao A) Q Stop m l γ ⟨g1,w1,X.mine⟩):Then (Z:=ao A) Q Stop m l γ X w':=by
 refine .quiet hs ⟨hrun,⟨AA,AA,b,a,ht⟩,AA,NE,?_⟩ ?_
 .rintro(⟨e,c,_⟩|h)
  .grind
  grind
 grind[lq]
def NG(hs:stepG Q m X.g w'=.go g1 w' #[⟨.cell (fW A),false,true⟩])(hrun:g1.status=.running)(hd:0<l.deaf)(h:bc (ao A) Q Stop m l γ ⟨g1,w',X.mine⟩):Then (Z:=ao A) Q Stop m l γ X w':=by
 refine .quiet hs ⟨hrun,rz _ _ _,λ_ _ _=>Y,⟨.inr AA,NE⟩,?_⟩ ?_
 .rintro(⟨e,a,b⟩|h)
  .simp at a;subst a;rcases b with h|h|⟨_,h⟩|⟨_,h⟩|⟨h,_⟩<;>cases h
  grind
 grind[lq]
def aoJ(G:A.Good)(a:ep (ao A) l γ X w'){a1}(hs:stepG Q m X.g w'=.go g1 w' #[⟨.mark (.releaseMerge (fW A)),false,true⟩])(hrun:g1.status=.running)(d:¬A.left a1)(c:A.past a1=A.past l.am)(ht:l.tok=true)(hd:l.deaf=0)(f:f1<l.fuel)(b:∀(aB:List A.aq)i,aB[i]?=some l.am->A.xH γ.am aB->A.xH γ.am (aB.set i a1))(h:bc (ao A) Q Stop m ({l with fuel:=f1,tok:=false,am:=a1}:Lo A.aq) ({γ with a7:=γ.a7-1}:aQ A.aH) ⟨g1,w',X.mine⟩):Then (Z:=ao A) Q Stop m l γ X w':=by
 refine .turn (l1:=({l with fuel:=f1,tok:=false,am:=a1}:Lo A.aq)) (bu:=({γ with a7:=γ.a7-1}:aQ A.aH)) hs ⟨hrun,.inl ⟨⟨.mark (.releaseMerge (fW A)),false,true⟩,AS,.inr AA⟩,rz _ _ _,a.mt,
  TD (d1:=l.deaf) (nn:=false) G a.sees b AQ (λ_ _ _ _=>G.refl _ _ _) (λe=>absurd e d) AS,.inr (.inr (.inl ⟨Y,hd,hd,ht,Y,c⟩)),AA⟩ AA ?_
 grind[lq]
end
end ah
namespace eK
open Conc av bj ah
structure dU where
 st:Nat
 cU:Nat
 wg:Nat
 NN:TypeId
 Dl:TypeId
 tWg:TypeId
 N:Nat
 rows:Nat->Nat
 size:Value
 A_:Value
 y2:Value
 least:Value
 cq:Nat->Bool
 place:Nat->Value
 K:Nat->Prop
 most:Nat
 C:Nat
 fA:st≠wg/\st≠cU/\wg≠cU
 xL:∀b,K b->b≠st/\b≠wg/\b≠cU
def Ba:At->Prop
 | .main _=>True
 | _=>False
def lr:At->Bool
 | .work .rel _ | .work .oh _ | .work .lb _ | .gone _ | .old=>true
 | _=>false
def tD(c:dU)(b:cO):Obj:=.cells #[.int .u64 ((b.aS*4294967296+b.eF.toNat:Nat):Int),.int .u32 (b.gT:Int)] c.tWg
def G7(c:dU)(b:cO):Obj:=.cells b.done.toArray c.Dl
abbrev ay(c:dU):fq where
 aq:=At
 aH:=cO
 xH:=db c.N c.rows c.cq
 c5:=λb=>c.C*(c.N-b.taken)
 Dd:=λo a b b'=>(o=true->b'.taken=b.taken/\b'.came=b.came/\b'.done=b.done/\b'.least=b.least)/\b.taken<=b'.taken/\(Ba a->b'.aS<=b.aS)
 TA:=NM
 left:=rA
 past:=lr
 zero:=Ba
 st:=c.st
 ty:=c.NN
 cells:=λb=>#[c.size,c.A_,.I (b.taken:Int),.I (b.came:Int),c.y2,b.least.elim c.least c.place]
 oZ:=λb w=>w.heap[c.wg]?=some (tD c b)/\(True->w.heap[c.cU]?=some (G7 c b))
 De:=λk=>k=c.wg\/k=c.cU
 h_:=λl=>(∃off sp,l=.cell ⟨c.st,off,sp⟩/\2<=off)\/fy l=some c.cU
 fj:=λl=>l=.cell ⟨c.wg,0,none⟩\/l=.cell ⟨c.wg,1,none⟩
 K:=c.K
 wg:=⟨c.wg,0,none⟩
 most:=c.most
def bW c:(ay c).Good where
 refl:=AA
 trans:=AA
 TB:=AA
 NC:=λh=>h.elim c.fA.1 c.fA.2.1
 oo:=λb d=>⟨(c.xL b d).1,λh=>h.elim (c.xL b d).2.1 (c.xL b d).2.2⟩
 q1:=λb aB h=>h.alive
 zero:=λb aB j a h f e=>by cases a with|main s=>exact h.only j s f| _=>exact e.elim
 h_:=AA
 fj:=λl h=>by rcases h with rfl|rfl<;>exact⟨c.wg,Y,.inl Y⟩
 ux:=λl h hs=>by
  rcases h with⟨off,sp,rfl,_⟩|h
  .grind
  .rcases hs with rfl|rfl<;>simp[fy]at h<;>exact c.fA.2.2 h
variable{v:Int}
section
variable{c:dU}{Q:cE}{Stop:Bool->ah.Lo At->a0->Prop}{m:Bool}{l:ah.Lo At}{γ:ah.aQ cO}{X:a0}{w':aR}
def vL{b}{w:aR}(h:w.heap[c.wg]?=some (tD c b)):w.cell? (.a c.wg 0)=some (.int .u64 ((b.aS*4294967296+b.eF.toNat:Nat):Int)):=by simp[World.cell?,h,tD]
def NO{b}{w:aR}(h:w.heap[c.wg]?=some (tD c b)):w.cell? (.a c.wg 1)=some (.int .u32 (b.gT:Int)):=by simp[World.cell?,h,tD]
def Bb{b}{w:aR}(h:w.heap[c.wg]?=some (tD c b))off(sp):w.frozen? ⟨c.wg,off,sp⟩=false:=by simp[World.frozen?,h,tD]
def aa_{mu:be}{b b1:cO}{w:aR}(h1:w.heap[c.st]?=some (iq (ay c) mu b))(h2:(ay c).oZ b w)(hs:b1.gT=b.gT)(ht:b1.taken=b.taken)(a:b1.came=b.came)(hd:b1.done=b.done/\b1.least=b.least)(hv:v=((b1.aS*4294967296+b1.eF.toNat:Nat):Int)):
 (w.setCell ⟨c.wg,0,none⟩ (.int .u64 v)).heap[c.st]?=some (iq (ay c) mu b1)/\(ay c).oZ b1 (w.setCell ⟨c.wg,0,none⟩ (.int .u64 v)):=by
 subst hv;refine⟨?_,?_,λe=>?_⟩
 .rw[mN w _ _ c.fA.1,h1];grind[iq]
 .simp_all[World.setCell,vbh,tD]
 .rw[mN w _ _ (Ne.symm c.fA.2.2),h2.2 e];grind[G7]
def ao7{mu:be}{b b1:cO}{w:aR}(h1:w.heap[c.st]?=some (iq (ay c) mu b))(h2:(ay c).oZ b w)(hs:b1.aS=b.aS/\b1.eF=b.eF)(ht:b1.taken=b.taken)(a:b1.came=b.came)(hd:b1.done=b.done/\b1.least=b.least)(hv:v=(b1.gT:Int)):
 (w.setCell ⟨c.wg,1,none⟩ (.int .u32 v)).heap[c.st]?=some (iq (ay c) mu b1)/\(ay c).oZ b1 (w.setCell ⟨c.wg,1,none⟩ (.int .u32 v)):=by
 subst hv;refine⟨?_,?_,λe=>?_⟩
 .rw[mN w _ _ c.fA.1,h1];grind[iq]
 .simp_all[World.setCell,vbh,tD]
 .rw[mN w _ _ (Ne.symm c.fA.2.2),h2.2 e];grind[G7]
def TQ{mine}w off(sp)v:lU (ao (ay c)) mine w (w.setCell ⟨c.wg,off,sp⟩ v):=
 ⟨λb _ _ hs=>mN w _ v AA,BB,.refl _,Y,Y⟩
def aba{mine}w off(sp)v:lU (ao (ay c)) mine w (w.setCell ⟨c.st,off,sp⟩ v):=
 ⟨λb _ _ hs=>mN w _ v AA,BB,.refl _,Y,Y⟩
def ao8{mine}w off(sp)v:lU (ao (ay c)) mine w (w.setCell ⟨c.cU,off,sp⟩ v):=
 ⟨λb _ _ hs=>mN w _ v AA,BB,.refl _,Y,Y⟩
end
variable{g1:uaj}{d1 f1:Nat}
section
section
variable{c:dU}{Q:cE}{Stop:Bool->ah.Lo At->a0->Prop}{m:Bool}{l:ah.Lo At}{γ:ah.aQ cO}{X:a0}{w':aR}
def Dn(n:ep (ao (ay c)) l γ X w'){w1:aR}{es:uat}{a1:At}{b1:cO}(hs:stepG Q m X.g w'=.go g1 w1 es)(hrun:g1.status=.running)(b:∃e∈es,xC (ao (ay c)) e)(hk:lU (ao (ay c)) X.mine w' w1)(hsz:w1.heap.size=w'.heap.size)(j:w1.heap[c.st]?=some (iq (ay c) γ.mu b1)/\(ay c).oZ b1 w1)(g:∀(aB:List At)(i:Nat),aB[i]?=some l.am->db c.N c.rows c.cq γ.am aB->db c.N c.rows c.cq b1 (aB.set i a1))(p:f1+c.C*(c.N-b1.taken)+1<=l.fuel+c.C*(c.N-γ.am.taken))(q:l.mx=.own\/(b1.taken=γ.am.taken/\b1.came=γ.am.came/\b1.done=γ.am.done/\b1.least=γ.am.least))(r:γ.am.taken<=b1.taken)(y:Ba l.am\/b1.aS<=γ.am.aS)(k:rA a1->l.mx=.idle)(f:l.tok=true->l.mx=.own)(says:Says (ao (ay c)) l ({l with am:=a1,fuel:=f1,deaf:=d1}:ah.Lo At) X.mine es)(d:mayWake Q X.g=true\/∀a,NM a γ.am->NM a b1)(w:rA a1->m=false/\Stop m ({l with am:=a1,fuel:=f1,deaf:=d1}:ah.Lo At) ⟨g1,w1,X.mine⟩)(h:bc (ao (ay c)) Q Stop m ({l with am:=a1,fuel:=f1,deaf:=d1}:ah.Lo At) ({γ with am:=b1,a7:=γ.a7-1}:ah.aQ cO) ⟨g1,w1,X.mine⟩):Then (Z:=ao (ay c)) Q Stop m l γ X w':=by
 have hg:grown X.mine w' w1=X.mine:=lq hsz;refine .turn (l1:=({l with am:=a1,fuel:=f1,deaf:=d1}:ah.Lo At)) (bu:=({γ with am:=b1,a7:=γ.a7-1}:ah.aQ cO)) hs ⟨hrun,.inl b,hk,j,TD (bW c) n.sees g p (λo a' v t=>?_) k f,AA,d.imp id λu s x=>?_⟩ AA AA
 .grind
 grind
def NQ(d:ep (ao (ay c)) l γ X w'){a1 b1}(hs:stepG Q m X.g w'=.go g1 (w'.setCell ⟨c.wg,0,none⟩ (.int .u64 v)) #[⟨.cell ⟨c.wg,0,none⟩,false,true⟩,⟨.cell ⟨c.wg,0,none⟩,true,true⟩])(hrun:g1.status=.running)(hv:v=((b1.aS*4294967296+b1.eF.toNat:Nat):Int))(hd:0<l.deaf)(f:b1.gT=γ.am.gT)(b:b1.taken=γ.am.taken/\b1.came=γ.am.came/\b1.done=γ.am.done/\b1.least=γ.am.least)(k:∀aB i,aB[i]?=some l.am->db c.N c.rows c.cq γ.am aB->db c.N c.rows c.cq b1 (aB.set i a1))(q:f1<l.fuel)(p:Ba l.am\/b1.aS<=γ.am.aS)(n:rA a1->l.mx=.idle)(j:l.tok=true->l.mx=.own)(g:lr a1=lr l.am)(o:rA a1->m=false/\Stop m ({l with am:=a1,fuel:=f1}:ah.Lo At) ⟨g1,w'.setCell ⟨c.wg,0,none⟩ (.int .u64 v),X.mine⟩)(h:bc (ao (ay c)) Q Stop m ({l with am:=a1,fuel:=f1}:ah.Lo At) ({γ with am:=b1,a7:=γ.a7-1}:ah.aQ cO) ⟨g1,w'.setCell ⟨c.wg,0,none⟩ (.int .u64 v),X.mine⟩):Then (Z:=ao (ay c)) Q Stop m l γ X w':=
 Dn (d1:=l.deaf) d hs hrun ⟨⟨.cell ⟨c.wg,0,none⟩,true,true⟩,AS,.inr (.inr (.inr (.inr ⟨Y,c.wg,Y,.inr Jv⟩)))⟩ (TQ w' 0 none _) (oq _ _ _) (aa_ d.mt.1 d.mt.2 f b.1 b.2.1 b.2.2 hv) k AA (.inr b) AA p n j
  (.inl ⟨Y,g,Y,.inr AA,.inr ⟨Y,AA,hd⟩,NE⟩) (.inr λa e=>⟨e.1,f.trans e.2⟩) o h
def apg(d:ep (ao (ay c)) l γ X w'){a1 b1}(hs:stepG Q m X.g w'=.go g1 (w'.setCell ⟨c.wg,0,none⟩ (.int .u64 v)) #[⟨.cell ⟨c.wg,0,none⟩,true,true⟩])(hrun:g1.status=.running)(hv:v=((b1.aS*4294967296+b1.eF.toNat:Nat):Int))(hd:0<l.deaf)(f:b1.gT=γ.am.gT)(b:b1.taken=γ.am.taken/\b1.came=γ.am.came/\b1.done=γ.am.done/\b1.least=γ.am.least)(k:∀aB i,aB[i]?=some l.am->db c.N c.rows c.cq γ.am aB->db c.N c.rows c.cq b1 (aB.set i a1))(p:f1<l.fuel)(n:Ba l.am\/b1.aS<=γ.am.aS)(o:¬rA a1)(j:l.tok=true->l.mx=.own)(g:lr a1=lr l.am)(h:bc (ao (ay c)) Q Stop m ({l with am:=a1,fuel:=f1}:ah.Lo At) ({γ with am:=b1,a7:=γ.a7-1}:ah.aQ cO) ⟨g1,w'.setCell ⟨c.wg,0,none⟩ (.int .u64 v),X.mine⟩):Then (Z:=ao (ay c)) Q Stop m l γ X w':=
 Dn (d1:=l.deaf) d hs hrun ⟨⟨.cell ⟨c.wg,0,none⟩,true,true⟩,AS,.inr (.inr (.inr (.inr ⟨Y,c.wg,Y,.inr Jv⟩)))⟩ (TQ w' 0 none _) (oq _ _ _) (aa_ d.mt.1 d.mt.2 f b.1 b.2.1 b.2.2 hv) k AA (.inr b) AA n AA j
  (.inl ⟨Y,g,Y,.inr AA,NE⟩) (.inr λa e=>⟨e.1,f.trans e.2⟩) AA h
def abc(d:ep (ao (ay c)) l γ X w'){a1 b1}(hs:stepG Q m X.g w'=.go g1 (w'.setCell ⟨c.wg,1,none⟩ (.int .u32 v)) (semEvents ⟨c.wg,1,none⟩))(hrun:g1.status=.running)(hv:v=(b1.gT:Int))(g:b1.aS=γ.am.aS/\b1.eF=γ.am.eF)(b:b1.taken=γ.am.taken/\b1.came=γ.am.came/\b1.done=γ.am.done/\b1.least=γ.am.least)(n:∀aB i,aB[i]?=some l.am->db c.N c.rows c.cq γ.am aB->db c.N c.rows c.cq b1 (aB.set i a1))(r:f1<l.fuel)(o:rA a1->l.mx=.idle)(k:l.tok=true->l.mx=.own)(j:lr a1=lr l.am)(f:mayWake Q X.g=true\/γ.am.gT≠0)(p:rA a1->m=false/\Stop m ({l with am:=a1,fuel:=f1}:ah.Lo At) ⟨g1,w'.setCell ⟨c.wg,1,none⟩ (.int .u32 v),X.mine⟩)(h:bc (ao (ay c)) Q Stop m ({l with am:=a1,fuel:=f1}:ah.Lo At) ({γ with am:=b1,a7:=γ.a7-1}:ah.aQ cO) ⟨g1,w'.setCell ⟨c.wg,1,none⟩ (.int .u32 v),X.mine⟩):Then (Z:=ao (ay c)) Q Stop m l γ X w':=
 Dn (d1:=l.deaf) d hs hrun ⟨⟨.cell ⟨c.wg,1,none⟩,true,true⟩,by simp[semEvents],.inr (.inr (.inr (.inr ⟨Y,c.wg,Y,.inr Jv⟩)))⟩ (TQ w' 1 none _) (oq _ _ _) (ao7 d.mt.1 d.mt.2 g b.1 b.2.1 b.2.2 hv) n AA (.inr b) AA AA o k
  (.inl ⟨Y,j,by grind[deafBehind,semEvents],.inl trivial,.inr ⟨Y,AA,Hx⟩,.inr ⟨Y,AA,Hx⟩,.inl trivial,NE⟩)
  (f.imp id λe a q=>absurd q.2 e) p h
def abd(b:ep (ao (ay c)) l γ X w'){mk}(a:mk=.disable\/mk=.enable){a1}(hs:stepG Q m X.g w'=.go g1 w' #[⟨.mark mk,false,true⟩])(hrun:g1.status=.running)(g:∀aB i,aB[i]?=some l.am->db c.N c.rows c.cq γ.am aB->db c.N c.rows c.cq γ.am (aB.set i a1))(k:f1<l.fuel)(j:¬rA a1)(f:l.tok=true->l.mx=.own)(d:lr a1=lr l.am)(hd:d1=deafBehind l.deaf #[⟨.mark mk,false,true⟩])(h:bc (ao (ay c)) Q Stop m ({l with am:=a1,fuel:=f1,deaf:=d1}:ah.Lo At) ({γ with a7:=γ.a7-1}:ah.aQ cO) ⟨g1,w',X.mine⟩):Then (Z:=ao (ay c)) Q Stop m l γ X w':=
 Dn (b1:=γ.am) (d1:=d1) b hs hrun ⟨⟨.mark mk,false,true⟩,AS,a.elim (λe=>.inl JC) (λe=>.inr AA)⟩ (rz _ _ _) Y b.mt g AQ AA JR AA AA f
  (.inl ⟨Y,d,hd,.inl (by rcases a with rfl|rfl<;>exact trivial),NE⟩) AA AA h
def aph(a:ep (ao (ay c)) l γ X w'){p}(hs:stepG Q m X.g w'=.go g1 w' #[⟨.mark (.releaseMerge ⟨c.wg,0,none⟩),false,true⟩])(hrun:g1.status=.running)(d:l.am=.work .free p)(a5:γ.am.taken=c.N)(f:f1<l.fuel)(hd:l.deaf=0)(b:l.tok=false)(h:bc (ao (ay c)) Q Stop m ({l with am:=.work .rel p,fuel:=f1}:ah.Lo At) ({γ with a7:=γ.a7-1}:ah.aQ cO) ⟨g1,w',X.mine⟩):Then (Z:=ao (ay c)) Q Stop m l γ X w':=
 Dn (a1:=.work .rel p) (b1:=γ.am) (d1:=l.deaf) a hs hrun ⟨⟨.mark (.releaseMerge ⟨c.wg,0,none⟩),false,true⟩,AS,.inr AA⟩ (rz _ _ _) Y a.mt (λaB i hi hg=>hg.release a5 AA) AQ AA JR AA KQ AA
  (.inr (.inr (.inr ⟨Y,hd,hd,Y,Y⟩))) AA (λe=>e.elim) h
end
end
end eK
namespace bQ
open Conc
abbrev _root_.Go.Func.nn(f:Func):Bool:=f.name== "runtime.NumGoroutine"
theorem DT:f69.nn=false:=AB
theorem DU:f69.body.isNone=true:=by kernel_rfl
theorem DV:Extern.findNext f69=none:=by kernel_rfl
theorem DW:Extern.find f69=some (λ_=>do mark .disable;pure Extern.Race.none_):=by kernel_rfl
theorem rJ:f70.nn=false:=AB
theorem rK:f70.body.isNone=true:=by kernel_rfl
theorem rL:Extern.findNext f70=none:=by kernel_rfl
theorem rM:Extern.find f70=some (λ_=>do mark .enable;pure Extern.Race.none_):=by kernel_rfl
theorem Ho:f83.nn=false:=AB
theorem Hp:f83.body.isNone=true:=by kernel_rfl
theorem Hq:Extern.findNext f83=none:=by kernel_rfl
theorem Hr:Extern.find f83=some (Extern.Race.marked .acquire):=by kernel_rfl
theorem UU:f68.nn=false:=AB
theorem UV:f68.body.isNone=true:=by kernel_rfl
theorem UW:Extern.findNext f68=none:=by kernel_rfl
theorem UX:Extern.find f68=some (Extern.Race.marked .releaseMerge):=by kernel_rfl
theorem zj:f124.nn=false:=AB
theorem zk:f124.body.isNone=true:=by kernel_rfl
theorem zl:Extern.findNext f124=none:=by kernel_rfl
theorem zm:Extern.find f124=some (Extern.Atomic.casT (.int .i32)):=by kernel_rfl
theorem Ku:f126.nn=false:=AB
theorem Kv:f126.body.isNone=true:=by kernel_rfl
theorem Kw:Extern.findNext f126=none:=by kernel_rfl
theorem Kx:Extern.find f126=some (Extern.Atomic.update (Op.intArith .add) .i32 true):=by kernel_rfl
theorem Xy:f142.nn=false:=AB
theorem Xx:f142.body.isNone=true:=by kernel_rfl
theorem Xo:Extern.findNext f142=none:=by kernel_rfl
theorem Xg:Extern.find f142=some Extern.Sync.canSpin:=by kernel_rfl
theorem arp:f143.nn=false:=AB
theorem arq:f143.body.isNone=true:=by kernel_rfl
theorem ars:Extern.findNext f143=none:=by kernel_rfl
theorem art:Extern.find f143=some Extern.Sync.nothing:=by kernel_rfl
theorem W7:f145.nn=false:=AB
theorem ZZ:f145.body.isNone=true:=by kernel_rfl
theorem ZY:Extern.findNext f145=none:=by kernel_rfl
theorem ZV:Extern.find f145=some Extern.OsHooks.nano:=by kernel_rfl
theorem UY:f146.nn=false:=AB
theorem UZ:f146.body.isNone=true:=by kernel_rfl
theorem U0:Extern.findNext f146=none:=by kernel_rfl
theorem U1:Extern.find f146=some Extern.Sync.semacquire:=by kernel_rfl
theorem ZU:f148.nn=false:=AB
theorem OC:f148.body.isNone=true:=by kernel_rfl
theorem ZJ:Extern.findNext f148=none:=by kernel_rfl
theorem ZC:Extern.find f148=some Extern.Sync.semrelease:=by kernel_rfl
theorem Zu:f145.norace=true:=by kernel_rfl
theorem U2:f88.nn=false:=AB
theorem Ky:f89.nn=false:=AB
theorem Zs:f112.nn=false:=AB
theorem Zr:f113.nn=false:=AB
theorem Zl:(prog.funcs[(base 113).fn]?).any (·.norace)=true:=by kernel_rfl
theorem aru:f125.nn=false:=AB
theorem Kz:(prog.funcs[(base 125).fn]?).any (·.norace)=true:=by kernel_rfl
theorem Zh:f127.nn=false:=AB
theorem arv:(prog.funcs[(base 127).fn]?).any (·.norace)=true:=by kernel_rfl
open RowKit Conc.Lib ConcR.Gen ConcM av bj ah
def Zf:prog.underlying 237=some (.pointer 166):=by simp
def OD:prog.underlying 173=some .unsafePointer:=by simp
theorem Zd:(prog.info? 166).map (λi=>decide (i.size=0))=some false:=by kernel_rfl
section
variable{m:Bool}{b:Frame}{a:Act}{kk:uab}{cs:hH}{w:aR}{ops:fF}{i:Nat}{rest:uac}{o:Oper}
abbrev _root_.Go.Proofs.YtnomloiacicoaaaGreat.vfe(o:Oper)(ops:Array Oper)(t:Array Value):Bool:=Region.wanted o (yielded ops t)
def Hs{x:uam}(g:ops[i]?=some o)(d:vfe o ops a.tmps=true)(hk:b.kind≠ .early)(f:o.op=.convert 237 173 x){ad:Addr}{v:Value}(k:a.eval x=.pointer (some ad))(c:w.cell? ad=some v):
 stepG prog m (Conc.G (b.at a (.inRegion ops (i::rest)::kk)) cs) w=.go (Conc.G (b.at (a.put o.dst (.pointer (some ad))) (.inRegion ops rest::kk)) cs) w #[]:=by
 have h:=run_convert_to_unsafe (P:=prog) Zf OD Zd c;have j:=λes=>events_convert_to_unsafe (P:=prog) Zf OD Zd c es;have e:(execOp a.eval o).run prog w=.ok (.value (.pointer (some ad))) w:=by simp_all[execOp]
 have l:(execOp a.eval o).events prog w #[]=#[]:=by simp_all[execOp]
 rw[vbd g d hk e];grind[listed,seen_none]
def Br{x:uam}(h:ops[i]?=some o)(f:vfe o ops a.tmps=true)(hk:b.kind≠ .early)(c:o.op=.load 21 x){ad:Addr}{v:Int}(d:a.eval x=.pointer (some ad))(e:w.cell? ad=some (.int .i32 v))(hq:(prog.funcs[b.fn]?).any (·.norace)=true):
 stepG prog m (Conc.G (b.at a (.inRegion ops (i::rest)::kk)) cs) w=.go (Conc.G (b.at (a.put o.dst (.int .i32 v)) (.inRegion ops rest::kk)) cs) w #[]:=by
 have g:(execOp a.eval o).run prog w=.ok (.value (.int .i32 v)) w:=by unfold execOp;simp only[c,d];simp[go_sem,e]
 have j:(execOp a.eval o).events prog w #[]=#[⟨.cell ad,false,false⟩]:=by unfold execOp;simp only[c,d];simp[go_sem,e]
 rw[vbd h f hk g];grind[listed,seen_def,seenStep]
end
def U3{mu:be}(h:mu.word=0):mu.L=false/\mu.W=false/\mu.S=false/\mu.k=0:=by grind[be.word]
def dV:Code->Option Code
 | .loop c=>some c
 | .seq x y=>match dV x with|some c=>some c|none=>dV y
 | .block _ c=>dV c
 | .cond _ x y=>match dV x with|some c=>some c|none=>dV y
 | _=>none
def lz:Code->Option Code
 | .seq (.block _ _) r=>some r
 | .seq _ y=>lz y
 | _=>none
def eu(id:Nat):Code->Option Code
 | .seq x y=>if(match x with| .region i _ _=>i==id| _=>false)then some (.seq x y)else match eu id x with|some c=>some c|none=>eu id y
 | .block _ c=>eu id c
 | .loop c=>eu id c
 | .cond _ x y=>match eu id x with|some c=>some c|none=>eu id y
 | _=>none
def lA:Code->Code
 | .seq _ y=>y
 | _=>.skip
def pd:Code->Array Oper
 | .seq (.region _ o _) _=>o
 | _=>#[]
def j7(ks:uab)(A:fq)(Stop:Bool->ah.Lo A.aq->a0->Prop)(m:Bool)(mine:dL)(a2:Frame)(aI:Act)(aC:fF)(aL:Nat)(aO:uac)(aK:uab)(csZ:hH)(l:ah.Lo A.aq)(γ:ah.aQ A.aH)(cK:Int)(sv aw:Bool)(it old:Int)(w:aR):Prop:=
 ∀(cC tR gi gj gl gm gn gp rN rO gA gq gr gu jh gv g9 g_ hh wa wb wc wd we wh wi wj wk wl wm wo wq wt wu wv ww wx zn zo zp zq zr zt zu zv zw zx zy zz zA zB zC zD zE zF zG zH zI zJ zK zL zM zN zO zP zQ zR zS zT zU zV DX DY DZ D1 zW zX zY D2 D3 D4 D5 D6 D7 D8 KA D9 D_ Ea Eb Ec Ed Ee Ef Eg Eh Ei Ej Ek El Em En Eo Ep Er Es Et Eu Ev Ew Ex Ey Ez EA EB EC ED EE EF EG EH EI EJ EK EL EM EN EO EP EQ ER ES ET:Value),bc (ao A) prog Stop m l γ ⟨Conc.G ((base 125).at ⟨#[.pointer (some (ah.fW A)),cC,.I cK,.bool sv,.bool aw,.I it,.int .i32 old,tR,gi,gj,gl,gm,gn,gp,rN,rO,gA,gq,gr,gu,jh,gv,g9,g_,hh,wa,wb,wc,wd,we,wh,wi,wj,wk,wl,wm,wo,wq,wt,wu,wv,ww,wx,zn,zo,zp,zq,zr,zt,zu,zv,zw,zx,zy,zz,zA,zB,zC,zD,zE,zF,zG,zH,zI,zJ,zK,zL,zM,zN,zO,zP,zQ,zR,zS,zT,zU,zV,DX,DY,DZ,D1,zW,zX,zY,D2,D3,D4,D5,D6,D7,D8,KA,D9,D_,Ea,Eb,Ec,Ed,Ee,Ef,Eg,Eh,Ei,Ej,Ek,El,Em,En,Eo,Ep,Er,Es,Et,Eu,Ev,Ew,Ex,Ey,Ez,EA,EB,EC,ED,EE,EF,EG,EH,EI,EJ,EK,EL,EM,EN,EO,EP,EQ,ER,ES,ET],[]⟩ ks) (a2.at aI (.inRegion aC (aL::aO)::aK)::csZ),w,mine⟩
def qF(A:fq)(Stop:Bool->ah.Lo A.aq->a0->Prop)(m:Bool)(mine:dL)(a2:Frame)(aI:Act)(aC:fF)(aL:Nat)(aO:uac)(aK:uab)(csZ:hH)(l:ah.Lo A.aq)(γ:ah.aQ A.aH)(cK:Int)(sv aw:Bool)(it old:Int)(w:aR):Prop:=
 j7 [.code ((dV (f125.body.getD .skip)).getD .skip),.inLoop ((dV (f125.body.getD .skip)).getD .skip),.inBlock 0,.code ((lz (f125.body.getD .skip)).getD .skip)] A Stop m mine a2 aI aC aL aO aK csZ l γ cK sv aw it old w
def Bs(A:fq)(Stop:Bool->ah.Lo A.aq->a0->Prop)(m:Bool)(mine:dL)(a2:Frame)(aI:Act)(aC:fF)(aL:Nat)(aO:uac)(aK:uab)(csZ:hH)(l:ah.Lo A.aq)(γ:ah.aQ A.aH)(cK:Int)(sv aw:Bool)(it old:Int)(w:aR):Prop:=
 j7 [.code ((eu 11 ((dV (f125.body.getD .skip)).getD .skip)).getD .skip),.inBlock 1,.inLoop ((dV (f125.body.getD .skip)).getD .skip),.inBlock 0,.code ((lz (f125.body.getD .skip)).getD .skip)] A Stop m mine a2 aI aC aL aO aK csZ l γ cK sv aw it old w
def KB(A:fq)(Stop:Bool->ah.Lo A.aq->a0->Prop)(m:Bool)(mine:dL)(a2:Frame)(aI:Act)(aC:fF)(aL:Nat)(aO:uac)(aK:uab)(csZ:hH)(l:ah.Lo A.aq)(γ:ah.aQ A.aH)(cK:Int)(sv aw:Bool)(it old:Int)(new:Int)(w:aR):Prop:=
 ∀(cC gi gj gl gm gn gp rN rO gA gq gr gu jh gv g9 g_ hh wa wb wc wd we wh wi wj wk wl wm wo wq wt wu wv ww wx zn zo zp zq zr zt zu zv zw zx zy zz zA zB zC zD zE zF zG zH zI zJ zK zL zM zN zO zP zQ zR zS zT zU zV D1 zW zX zY D2 D3 D4 D5 D6 D7 D8 KA D9 D_ Ea Eb Ec Ed Ee Ef Eg Eh Ei Ej Ek El Em En Eo Ep Er Es Et Eu Ev Ew Ex Ey Ez EA EB EC ED EE EF EG EH EI EJ EK EL EM EN EO EP EQ ER ES ET:Value),bc (ao A) prog Stop m l γ ⟨Conc.G ((base 125).at ⟨#[.pointer (some (ah.fW A)),cC,.I cK,.bool sv,.bool aw,.I it,.int .i32 old,.int .i32 new,gi,gj,gl,gm,gn,gp,rN,rO,gA,gq,gr,gu,jh,gv,g9,g_,hh,wa,wb,wc,wd,we,wh,wi,wj,wk,wl,wm,wo,wq,wt,wu,wv,ww,wx,zn,zo,zp,zq,zr,zt,zu,zv,zw,zx,zy,zz,zA,zB,zC,zD,zE,zF,zG,zH,zI,zJ,zK,zL,zM,zN,zO,zP,zQ,zR,zS,zT,zU,zV,.pointer (some (ah.fW A)),.int .i32 old,.int .i32 new,D1,zW,zX,zY,D2,D3,D4,D5,D6,D7,D8,KA,D9,D_,Ea,Eb,Ec,Ed,Ee,Ef,Eg,Eh,Ei,Ej,Ek,El,Em,En,Eo,Ep,Er,Es,Et,Eu,Ev,Ew,Ex,Ey,Ez,EA,EB,EC,ED,EE,EF,EG,EH,EI,EJ,EK,EL,EM,EN,EO,EP,EQ,ER,ES,ET],[]⟩ [.inRegion (pd ((eu 22 ((dV (f125.body.getD .skip)).getD .skip)).getD .skip)) [5],.code (lA ((eu 22 ((dV (f125.body.getD .skip)).getD .skip)).getD .skip)),.inBlock 1,.inLoop ((dV (f125.body.getD .skip)).getD .skip),.inBlock 0,.code ((lz (f125.body.getD .skip)).getD .skip)]) (a2.at aI (.inRegion aC (aL::aO)::aK)::csZ),w,mine⟩
def wy(A:fq)(Stop:Bool->ah.Lo A.aq->a0->Prop)(m:Bool)(mine:dL)(a2:Frame)(aI:Act)(aC:fF)(aL:Nat)(aO:uac)(aK:uab)(csZ:hH)(l:ah.Lo A.aq)(γ:ah.aQ A.aH)(cK:Int)(sv aw:Bool)(it old:Int)(kh:Bool)(w:aR):Prop:=
 ∀(cC tR gi gj gl gm gn gp rN rO gA gq gr gu jh gv g9 g_ hh wa wb wc wd we wh wi wj wk wl wm wo wq wt wu wv ww wx zn zo zp zq zr zt zu zv zw zx zy zz zA zB zC zD zE zF zG zH zI zJ zK zL zM zN zO zP zQ zR zS zT zU zV DX DY DZ zW zX zY D2 D3 D4 D5 D6 D7 D8 KA D9 D_ Ea Eb Ec Ed Ee Ef Eg Eh Ei Ej Ek El Em En Eo Ep Er Es Et Eu Ev Ew Ex Ey Ez EA EB EC ED EE EF EG EH EI EJ EK EL EM EN EO EP EQ ER ES ET:Value),bc (ao A) prog Stop m l γ ⟨Conc.G ((base 125).at ⟨#[.pointer (some (ah.fW A)),cC,.I cK,.bool sv,.bool aw,.I it,.int .i32 old,tR,gi,gj,gl,gm,gn,gp,rN,rO,gA,gq,gr,gu,jh,gv,g9,g_,hh,wa,wb,wc,wd,we,wh,wi,wj,wk,wl,wm,wo,wq,wt,wu,wv,ww,wx,zn,zo,zp,zq,zr,zt,zu,zv,zw,zx,zy,zz,zA,zB,zC,zD,zE,zF,zG,zH,zI,zJ,zK,zL,zM,zN,zO,zP,zQ,zR,zS,zT,zU,zV,DX,DY,DZ,.bool kh,zW,zX,zY,D2,D3,D4,D5,D6,D7,D8,KA,D9,D_,Ea,Eb,Ec,Ed,Ee,Ef,Eg,Eh,Ei,Ej,Ek,El,Em,En,Eo,Ep,Er,Es,Et,Eu,Ev,Ew,Ex,Ey,Ez,EA,EB,EC,ED,EE,EF,EG,EH,EI,EJ,EK,EL,EM,EN,EO,EP,EQ,ER,ES,ET],[]⟩ [.code (lA ((eu 22 ((dV (f125.body.getD .skip)).getD .skip)).getD .skip)),.inBlock 1,.inLoop ((dV (f125.body.getD .skip)).getD .skip),.inBlock 0,.code ((lz (f125.body.getD .skip)).getD .skip)]) (a2.at aI (.inRegion aC (aL::aO)::aK)::csZ),w,mine⟩
end bQ
namespace bQ
open Conc ah
def arx:∀(L W S:Bool)k,k<256->bits .and .i32 ((L.toNat+2*W.toNat+4*S.toNat+8*k:Nat):Int) 4=((4*S.toNat:Nat):Int):=by decide+kernel
def ary:∀(L W S:Bool)k,k<256->bits .and .i32 ((L.toNat+2*W.toNat+4*S.toNat+8*k:Nat):Int) 5=((L.toNat+4*S.toNat:Nat):Int):=by decide+kernel
def arz:∀(L W S:Bool)k,k<256->bits .and .i32 ((L.toNat+2*W.toNat+4*S.toNat+8*k:Nat):Int) 2=((2*W.toNat:Nat):Int):=by decide+kernel
def arA:∀(L W S:Bool)k,k<256->bits .and .i32 ((L.toNat+2*W.toNat+4*S.toNat+8*k:Nat):Int) 1=((L.toNat:Nat):Int):=by decide+kernel
def arB:∀(L W S:Bool)k,k<256->bits .and .i32 ((L.toNat+2*W.toNat+4*S.toNat+8*k:Nat):Int) 3=((L.toNat+2*W.toNat:Nat):Int):=by decide+kernel
def arC:∀(L W S:Bool)k,k<256->bits .and .i32 ((L.toNat+2*W.toNat+4*S.toNat+8*k:Nat):Int) 7=((L.toNat+2*W.toNat+4*S.toNat:Nat):Int):=by decide+kernel
def arD:∀(L W S:Bool)k,k<256->bits .or .i32 ((L.toNat+2*W.toNat+4*S.toNat+8*k:Nat):Int) 1=((1+2*W.toNat+4*S.toNat+8*k:Nat):Int):=by decide+kernel
def arE:∀(L W S:Bool)k,k<256->bits .or .i32 ((L.toNat+2*W.toNat+4*S.toNat+8*k:Nat):Int) 2=((L.toNat+2+4*S.toNat+8*k:Nat):Int):=by decide+kernel
def arF:∀(L W S:Bool)k,k<256->bits .or .i32 ((L.toNat+2*W.toNat+4*S.toNat+8*k:Nat):Int) 4=((L.toNat+2*W.toNat+4+8*k:Nat):Int):=by decide+kernel
def arG:∀(L W S:Bool)k,k<256->bits .andNot .i32 ((L.toNat+2*W.toNat+4*S.toNat+8*k:Nat):Int) 2=((L.toNat+4*S.toNat+8*k:Nat):Int):=by decide+kernel
theorem KC(m:be)(hk:m.k<256):bits .and .i32 (m.word:Int) 4=((4*m.S.toNat:Nat):Int):=by have:=arx m.L m.W m.S m.k hk;grind[be.word]
def Y4(m:be)(hk:m.k<256):bits .and .i32 (m.word:Int) 5=((m.L.toNat+4*m.S.toNat:Nat):Int):=by have:=ary m.L m.W m.S m.k hk;grind[be.word]
theorem KD(m:be)(hk:m.k<256):bits .and .i32 (m.word:Int) 2=((2*m.W.toNat:Nat):Int):=by have:=arz m.L m.W m.S m.k hk;grind[be.word]
theorem U4(m:be)(hk:m.k<256):bits .and .i32 (m.word:Int) 1=((m.L.toNat:Nat):Int):=by have:=arA m.L m.W m.S m.k hk;grind[be.word]
theorem arH(m:be)(hk:m.k<256):bits .and .i32 (m.word:Int) 3=((m.L.toNat+2*m.W.toNat:Nat):Int):=by have:=arB m.L m.W m.S m.k hk;grind[be.word]
def Y1(m:be)(hk:m.k<256):bits .and .i32 (m.word:Int) 7=((m.L.toNat+2*m.W.toNat+4*m.S.toNat:Nat):Int):=by have:=arC m.L m.W m.S m.k hk;grind[be.word]
def arI(m:be)(hk:m.k<256):bits .or .i32 (m.word:Int) 1=(({m with L:=true}:be).word:Int):=by have:=arD m.L m.W m.S m.k hk;grind[be.word]
def YX(m:be)(hk:m.k<256):bits .or .i32 (m.word:Int) 2=(({m with W:=true}:be).word:Int):=by have:=arE m.L m.W m.S m.k hk;grind[be.word]
def arJ(m:be)(hk:m.k<256):bits .or .i32 (m.word:Int) 4=(({m with S:=true}:be).word:Int):=by have:=arF m.L m.W m.S m.k hk;grind[be.word]
def U5(m:be)(hk:m.k<256):bits .andNot .i32 (m.word:Int) 2=(({m with W:=false}:be).word:Int):=by have:=arG m.L m.W m.S m.k hk;grind[be.word]
def arK(m:be)(hk:m.k<256):IntKind.wrap .i32 ((m.word:Int)+8)=(({m with k:=m.k+1}:be).word:Int):=by grind[Bool.toNat_le,IntKind.wrap_i32,be.word]
def arL(m:be)(hk:m.k<256)(a:m.L=true):IntKind.wrap .i32 ((m.word:Int)+ -1)=(({m with L:=false}:be).word:Int):=by grind[Bool.toNat_le,IntKind.wrap_i32,be.word]
def arM(m:be)(hk:m.k<256)(h0:0<m.k):IntKind.wrap .i32 ((m.word:Int)-8)=(({m with k:=m.k-1}:be).word:Int):=by grind[Bool.toNat_le,IntKind.wrap_i32,be.word]
def arN(m:be)(hk:m.k<256)(h0:0<m.k)(b:m.L=false)(a:m.S=true)(clear:Bool):IntKind.wrap .i32 ((m.word:Int)+(if clear then -11 else -7))=(({m with L:=true,k:=m.k-1,S:= !clear}:be).word:Int):=by have h2:m.W.toNat<=1:=vay _;rw[IntKind.wrap_i32];unfold be.word;grind
theorem KE(m:be):(m.word:Int) / 8=(m.k:Int):=by grind[Bool.toNat_le,be.word]
variable{cK it old:Int}{w:aR}
section
open RowKit Conc.Lib ConcR.Gen ConcM av bj
section
variable{A:fq}{Stop:Bool->ah.Lo A.aq->a0->Prop}{m:Bool}{mine:dL}
variable{a2:Frame}{aI:Act}{aC:fF}{aL:Nat}{aO:uac}{aK:uab}{csZ:hH}
def Behind(A:fq)(Stop:Bool->ah.Lo A.aq->a0->Prop)(m:Bool)(mine:dL)(a2:Frame)(aI:Act)(aC:fF)(aL:Nat)(aO:uac)(aK:uab)(csZ:hH)(f:Nat)(a:A.aq)(w:aR):Prop:=
 ∀w' aj,ai (ao A) mine w w'->bc (ao A) prog Stop m ⟨.own,true,0,f,a⟩ aj ⟨Conc.G (a2.at (aI.put ((aC[aL]?).bind (·.dst)) (.tuple #[])) (.inRegion aC aO::aK)) csZ,w',mine⟩
def arO(G:A.Good){f a γ sv aw}(n:bits .and .i32 old 5=0)(j:¬A.left a)(l:Behind A Stop m mine a2 aI aC aL aO aK csZ f a w):
 wy A Stop m mine a2 aI aC aL aO aK csZ ⟨.own,false,1,f+2,a⟩ γ cK sv aw it old true w:=by
 unfold wy;intros
 have hF:=ai.refl (ao A) mine w;refine bf G ?_;simp only[f125,vaf,dV,lz,eu,lA,Nat.reduceBEq,vah,↓reduceIte];repeat w_go ai.trans
 refine ei Y hF λc b i h d k g e hF=>?_;refine tu G e Jz (vbz .enable AS Y Y An Y func70 rJ rK rL rM) Y j (tr (f1:=f+1) Jo _) AS Y ?_;clear e g h b;refine bf G ?_;walk_nrm
 repeat w_go ai.trans
 refine ei Y hF λc b i h d k g e hF=>?_;refine mo (Hs Y Y An Y Y (mn e.mt.1)) Y Y (.refl _) Y Y ?_;clear e g h b;refine bf G ?_;walk_nrm
 repeat w_go ai.trans
 refine ei Y hF λc b i h d k g e hF=>?_;refine TE G e (f1:=f) (vcq .acquire AS Y Y An Y func83 Ho Hp Hq Hr Bk) Y j Y Y Y Jo ?_;clear e g h b;refine bf G ?_;walk_nrm
 repeat w_go ai.trans
 u_leave0 func125 ai.trans hF
 repeat w_go ai.trans
 exact vaj (λc b=>⟨Y,λi _=>l c i (ai.trans hF b)⟩)
end
end
open RowKit Conc.Lib ConcR.Gen ConcM av bj
def OE(A:fq)(Stop:Bool->ah.Lo A.aq->a0->Prop)(m:Bool)(mine:dL)(a2:Frame)(aI:Act)(aC:fF)(aL:Nat)(aO:uac)(aK:uab)(csZ:hH)(l:ah.Lo A.aq)(γ:ah.aQ A.aH)(cK:Int)(sv aw:Bool)(it old:Int)(w:aR):Prop:=
 ∀(cC tR gi gj gl gm gn gp rN rO gA gq gr gu jh gv g9 g_ hh wa wb wc wd we wh wi wj wk wl wm wo wq wt wu wv ww wx zn zo zp zq zr zt zu zv zw zx zy zz zA zB zC zD zE zF zG zH zI zJ zK zL zM zN zO zP zQ zR zS zT zU zV DX DY DZ D1 zW zX zY D2 D3 D4 D5 D6 D7 D8 D9 D_ Ea Eb Ec Ed Ee Ef Eg Eh Ei Ej Ek El Em En Eo Ep Er Es Et Eu Ev Ew Ex Ey Ez EA EB EC ED EE EF EG EH EI EJ EK EL EM EN EO EP EQ ER ES ET:Value),bc (ao A) prog Stop m l γ ⟨Conc.G ((base 125).at ⟨#[.pointer (some (ah.fW A)),cC,.I cK,.bool sv,.bool aw,.I it,.int .i32 old,tR,gi,gj,gl,gm,gn,gp,rN,rO,gA,gq,gr,gu,jh,gv,g9,g_,hh,wa,wb,wc,wd,we,wh,wi,wj,wk,wl,wm,wo,wq,wt,wu,wv,ww,wx,zn,zo,zp,zq,zr,zt,zu,zv,zw,zx,zy,zz,zA,zB,zC,zD,zE,zF,zG,zH,zI,zJ,zK,zL,zM,zN,zO,zP,zQ,zR,zS,zT,zU,zV,DX,DY,DZ,D1,zW,zX,zY,D2,D3,D4,D5,D6,D7,D8,.pointer (some (ah.lp A)),D9,D_,Ea,Eb,Ec,Ed,Ee,Ef,Eg,Eh,Ei,Ej,Ek,El,Em,En,Eo,Ep,Er,Es,Et,Eu,Ev,Ew,Ex,Ey,Ez,EA,EB,EC,ED,EE,EF,EG,EH,EI,EJ,EK,EL,EM,EN,EO,EP,EQ,ER,ES,ET],[]⟩ [.inRegion (pd ((eu 27 ((dV (f125.body.getD .skip)).getD .skip)).getD .skip)) [4],.code (lA ((eu 27 ((dV (f125.body.getD .skip)).getD .skip)).getD .skip)),.inBlock 1,.inLoop ((dV (f125.body.getD .skip)).getD .skip),.inBlock 0,.code ((lz (f125.body.getD .skip)).getD .skip)]) (a2.at aI (.inRegion aC (aL::aO)::aK)::csZ),w,mine⟩
def YU(A:fq)(Stop:Bool->ah.Lo A.aq->a0->Prop)(m:Bool)(mine:dL)(a2:Frame)(aI:Act)(aC:fF)(aL:Nat)(aO:uac)(aK:uab)(csZ:hH)(l:ah.Lo A.aq)(γ:ah.aQ A.aH)(cK:Int)(sv aw:Bool)(it old:Int)(w:aR):Prop:=
 j7 [.code (lA ((eu 27 ((dV (f125.body.getD .skip)).getD .skip)).getD .skip)),.inBlock 1,.inLoop ((dV (f125.body.getD .skip)).getD .skip),.inBlock 0,.code ((lz (f125.body.getD .skip)).getD .skip)] A Stop m mine a2 aI aC aL aO aK csZ l γ cK sv aw it old w
section
variable{A:fq}{Stop:Bool->ah.Lo A.aq->a0->Prop}{m:Bool}{mine:dL}
variable{a2:Frame}{aI:Act}{aC:fF}{aL:Nat}{aO:uac}{aK:uab}{csZ:hH}
theorem arP(G:A.Good){l:ah.Lo A.aq}{γ:ah.aQ A.aH}{sv aw:Bool}(d:∀w' c,(c=γ\/c.a7<γ.a7)->ai (ao A) mine w w'->ib (ao A) l c->qF A Stop m mine a2 aI aC aL aO aK csZ l c cK sv aw it (c.mu.word:Int) w'):
 wy A Stop m mine a2 aI aC aL aO aK csZ l γ cK sv aw it old false w:=by
 unfold wy;intros
 unfold qF j7 at d;have hF:=ai.refl (ao A) mine w;refine bf G ?_;simp only[f125,vaf,dV,lz,eu,lA,Nat.reduceBEq,vah,↓reduceIte]at d⊢;repeat w_go ai.trans
 refine ei Y hF λb a o i g f h e hF=>?_;have j:f=γ\/f.a7<γ.a7:=by
  rcases i with rfl|⟨h1,_⟩<;>rcases h with rfl|⟨h2,_⟩
  .simp_all
  .simp_all
  .simp_all
  omega
 have k:=e.sees;refine mo (Br Y Y An Y Y (mn e.mt.1) Kz) Y Y (.refl _) Y Y ?_;clear e h i a;refine bf G ?_;walk_nrm
 repeat w_nl ai.trans
 u_c stepG_inLoop ai.trans hF
 exact vaj (λb a=>⟨Y,λo n=>(d b f j (ai.trans hF a) k ..).ln (dE G) n⟩)
def arQ(G:A.Good){l:ah.Lo A.aq}{γ:ah.aQ A.aH}{sv aw:Bool}(s:(bits .and .i32 old 5==0)=false)(d:∀w' g j,(ao A).ey l γ g->ai (ao A) mine w w'->OE A Stop m mine a2 aI aC aL aO aK csZ l g j sv aw it old w'):
 wy A Stop m mine a2 aI aC aL aO aK csZ l γ cK sv aw it old true w:=by
 unfold wy;intros
 unfold OE at d;have hF:=ai.refl (ao A) mine w;simp only[f125,vaf,dV,lz,eu,lA,pd,Nat.reduceBEq,vah,↓reduceIte]at d⊢;by_cases k:cK=0
 .subst k;refine bf G ?_;repeat w_go ai.trans
  refine ei Y hF λc a e i b r h n hF=>?_;have o:=(dE G).trans _ _ _ _ i h;refine mo (stepG_nanotime Y Y An Y func145 W7 ZZ ZY ZV Zu) Y Y ⟨_,Y⟩ Y Y ?_;replace hF:=ai.trans hF (⟨λ_ _=>Y,vac _,⟨_,Y⟩,Y,Y⟩:ai (ao A) mine b b.later);clear n h i a;generalize((b.os.mono+b.tick:Nat):Int)=q;refine bf G ?_;walk_nrm
  repeat w_go ai.trans
  exact vaj (λc a=>⟨Y,λe f=>d c e _ ((dE G).trans _ _ _ _ o f) (ai.trans hF a) ..⟩)
 .have t:(cK==0)=false:=by simp_all
  have p:(cK != 0)=true:=BB;refine bf G ?_;repeat w_go ai.trans
  exact vaj (λc a=>⟨Y,λe f=>d c e _ f (ai.trans hF a) ..⟩)
end
def EV(A:fq)(Stop:Bool->ah.Lo A.aq->a0->Prop)(m:Bool)(mine:dL)(a2:Frame)(aI:Act)(aC:fF)(aL:Nat)(aO:uac)(aK:uab)(csZ:hH)(l:ah.Lo A.aq)(γ:ah.aQ A.aH)(cK:Int)(sv aw:Bool)(it old:Int)(w:aR):Prop:=
 j7 [.code (lA ((eu 29 ((dV (f125.body.getD .skip)).getD .skip)).getD .skip)),.inBlock 1,.inLoop ((dV (f125.body.getD .skip)).getD .skip),.inBlock 0,.code ((lz (f125.body.getD .skip)).getD .skip)] A Stop m mine a2 aI aC aL aO aK csZ l γ cK sv aw it old w
section
variable{A:fq}{Stop:Bool->ah.Lo A.aq->a0->Prop}{m:Bool}{mine:dL}
variable{a2:Frame}{aI:Act}{aC:fF}{aL:Nat}{aO:uac}{aK:uab}{csZ:hH}
def YR(G:A.Good){l:ah.Lo A.aq}{γ:ah.aQ A.aH}{sv aw:Bool}(i:∀w' h q,(h=γ\/h.a7<γ.a7)->ai (ao A) mine w w'->ib (ao A) l h->EV A Stop m mine a2 aI aC aL aO aK csZ l h cK q aw it (h.mu.word:Int) w'):
 YU A Stop m mine a2 aI aC aL aO aK csZ l γ cK sv aw it old w:=by
 unfold YU j7;intros
 unfold EV j7 at i;have hF:=ai.refl (ao A) mine w;simp only[f125,vaf,dV,lz,eu,lA,Nat.reduceBEq,vah,↓reduceIte]at i⊢;cases sv with
 |true=>
  refine bf G ?_;repeat w_go ai.trans
  refine ei Y hF λb a j f c p e d hF=>?_;have k:=(dE G).less _ _ _ ((dE G).trans _ _ _ _ f e);have n:=d.sees;refine mo (Br Y Y An Y Y (mn d.mt.1) Kz) Y Y (.refl _) Y Y ?_;clear d e f a;refine bf G ?_;walk_nrm
  u_op ai.trans hF
  u_c vea ai.trans hF
  exact vaj (λb a=>⟨Y,λj g=>(i b p _ k (ai.trans hF a) n ..).ln (dE G) g⟩)
 |false=>
  refine bf G ?_;repeat w_go ai.trans
  refine ei Y hF λb a j f c p e d hF=>?_;have g:=(dE G).trans _ _ _ _ f e;refine mo (stepG_nanotime Y Y An Y func145 W7 ZZ ZY ZV Zu) Y Y ⟨_,Y⟩ Y Y ?_;replace hF:=ai.trans hF (⟨λ_ _=>Y,vac _,⟨_,Y⟩,Y,Y⟩:ai (ao A) mine c c.later);clear d e f a;generalize((c.os.mono+c.tick:Nat):Int)=s;refine bf G ?_;walk_nrm
  repeat w_go ai.trans
  refine ei Y hF λb a j f o r e d hF=>?_;have k:=(dE G).less _ _ _ ((dE G).trans _ _ _ _ g ((dE G).trans _ _ _ _ f e));have n:=d.sees;refine mo (Br Y Y An Y Y (mn d.mt.1) Kz) Y Y (.refl _) Y Y ?_;clear d e f a;refine bf G ?_;walk_nrm
  u_op ai.trans hF
  u_c vea ai.trans hF
  exact vaj (λb a=>⟨Y,λj g=>(i b r _ k (ai.trans hF a) n ..).ln (dE G) g⟩)
def arR(G:A.Good){l γ sv aw}(h4:bits .and .i32 old 4=0)(c:∀w',ai (ao A) mine w w'->qF A Stop m mine a2 aI aC aL aO aK csZ l γ cK sv true 0 old w'):
 EV A Stop m mine a2 aI aC aL aO aK csZ l γ cK sv aw it old w:=by
 unfold EV j7;intros
 unfold qF j7 at c;have hF:=ai.refl (ao A) mine w;simp only[f125,vaf,dV,lz,eu,lA,Nat.reduceBEq,vah,↓reduceIte]at c⊢;refine bf G ?_;repeat w_nl ai.trans
 u_c stepG_inLoop ai.trans hF
 exact vaj (λa b=>⟨Y,λe d=>(c a (ai.trans hF b) ..).ln (dE G) d⟩)
end
end bQ
namespace tS
open Conc
theorem ac2:f71.nn=false:=AB
theorem ac3:f71.body.isNone=true:=by kernel_rfl
theorem ac4:Extern.findNext f71=none:=by kernel_rfl
theorem ac5:Extern.find f71=some (λ_=>pure (.F)):=by kernel_rfl
theorem Vd:f104.nn=false:=AB
theorem Ve:f104.body.isNone=true:=by kernel_rfl
theorem Vf:Extern.findNext f104=none:=by kernel_rfl
theorem Vg:Extern.find f104=some (Extern.Atomic.update (Op.intArith .add) .u64 true):=by kernel_rfl
theorem Vh:f105.nn=false:=AB
theorem Vi:f105.body.isNone=true:=by kernel_rfl
theorem Vj:Extern.find f105=some (Extern.Atomic.loadT (.int .u64)):=by kernel_rfl
theorem Vk:Extern.findNext f105=none:=by kernel_rfl
theorem asf:f106.nn=false:=AB
theorem asg:f106.body.isNone=true:=by kernel_rfl
theorem ash:Extern.find f106=some Extern.Atomic.storeT:=by kernel_rfl
theorem asi:Extern.findNext f106=none:=by kernel_rfl
theorem ac6:f111.nn=false:=AB
theorem ac7:f111.body.isNone=true:=by kernel_rfl
theorem ac8:Extern.findNext f111=none:=by kernel_rfl
theorem Z0:Extern.find f111=some (Extern.Atomic.casT (.int .u64)):=by kernel_rfl
theorem YA:f87.nn=false:=AB
theorem UL:f87.body.isNone=true:=by kernel_rfl
theorem UJ:Extern.findNext f87=none:=by kernel_rfl
theorem UA:Extern.find f87=some Extern.Sync.semacquire:=by kernel_rfl
theorem asj:f80.nn=false:=AB
theorem Uz:f80.body.isNone=true:=by kernel_rfl
theorem asl:Extern.findNext f80=none:=by kernel_rfl
theorem asm:Extern.find f80=some Extern.Sync.semrelease:=by kernel_rfl
theorem asn:f76.nn=false:=AB
theorem aso:f76.body.isNone=true:=by kernel_rfl
theorem asp:Extern.findNext f76=none:=by kernel_rfl
theorem asq:Extern.find f76=some (Extern.Race.marked .read):=by kernel_rfl
theorem asr:f86.nn=false:=AB
theorem ass:f86.body.isNone=true:=by kernel_rfl
theorem ast:Extern.findNext f86=none:=by kernel_rfl
theorem asu:Extern.find f86=some (Extern.Race.marked .write):=by kernel_rfl
theorem asv:f48.nn=false:=AB
theorem Up:f75.nn=false:=AB
theorem Vl:f77.nn=false:=AB
theorem asw:f78.nn=false:=AB
theorem asx:f85.nn=false:=AB
