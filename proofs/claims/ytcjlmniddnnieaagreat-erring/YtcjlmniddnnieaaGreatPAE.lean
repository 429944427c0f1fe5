import Derived.Test.YtcjlmniddnnieaaGreatP01
import Derived.Conc.MuWords
import Derived.Test.YtcjlmniddnnieaaGreatProg
import Derived.Test.YtcjlmniddnnieaaGreatPAC
set_option linter.all false
set_option maxRecDepth 100000
set_option maxHeartbeats 16000000
namespace Go.Proofs.YtcjlmniddnnieaaGreat
open Tryz
namespace bn
open Conc ConcM ConcN au
section
section
variable{Z:eX}{Q:cf}{Stop:Bool->Z.Lo->aX->Prop}{m:Bool}{l:Z.Lo}{γ:Z.aN}
theorem AZ{mine:dY}:∀(es:ubk)(d:Nat),(∀e∈es,∀d,uh Z l mine d e)->oI Z l mine d es
 | [],_,_=>trivial
 |e::es,d,h=>⟨h e AQ d,AZ es _ AJ⟩
def q8(X:aX)(fr:dY):aX:=⟨X.g,X.w,λb=>X.mine b\/fr b⟩
end
end
end bn
namespace ai
open Conc ConcM au bn
structure Lo(ao:Type) where
 mx:b3
 tok:Bool
 deaf:Nat
 fuel:Nat
 al:ao
structure aN(aO:Type) where
 mu:bp
 a6:Nat
 al:aO
structure e9 where
 ao:Type
 aO:Type
 um:aO->List ao->Prop
 gn:aO->Nat
 CV:Bool->ao->aO->aO->Prop
 SR:ao->aO->Prop
 left:ao->Prop
 past:ao->Bool
 zero:ao->Prop
 st:Nat
 ty:TypeId
 cells:aO->Array Value
 oJ:aO->aH->Prop
 CW:Nat->Prop
 hh:Loc->Prop
 eW:Loc->Prop
 K:Nat->Prop
 wg:Addr
 most:Nat
structure e9.Good(A:e9):Prop where
 refl:∀o a b,A.CV o a b b
 trans:∀o a b c d,A.CV o a b c->A.CV o a c d->A.CV o a b d
 SS:∀b w w',(∀k,A.CW k->w'.heap[k]?=w.heap[k]?)->A.oJ b w->A.oJ b w'
 Nk:¬A.CW A.st
 nt:∀b,A.K b->b≠A.st/\¬A.CW b
 ov:∀b az,A.um b az->∃(j:Nat)(a:A.ao),az[j]?=some a/\¬A.left a/\¬A.SR a b
 zero:∀b(az:List A.ao)(j:Nat) a,A.um b az->az[j]?=some a->A.zero a->j=0
 hh:∀l,A.hh l->(∃off sp,l=.cell ⟨A.st,off,sp⟩/\2<=off)\/∃b,e8 l=some b/\A.CW b
 eW:∀l,A.eW l->∃b,e8 l=some b/\A.CW b
 uf:∀l,A.hh l->¬A.eW l
def aat:b3->Bool| .own=>true| _=>false
def fP(A:e9):Addr:=⟨A.st,0,none⟩
def k_(A:e9):Addr:=⟨A.st,1,none⟩
def gU(A:e9)(m:bp)(b:A.aO):Obj:=.cells (#[.int .i32 (m.word:Int),.int .u32 (m.sema:Int)]++A.cells b) A.ty
structure s6(A:e9)(γ:aN A.aO)(ls:List (Lo A.ao)):Prop where
 l3:dm γ.mu (ls.map (·.mx))
 pe:A.um γ.al (ls.map (·.al))
 hJ:(ls.map (·.fuel)).sum+2*q9 γ.mu (ls.map (·.mx))+A.gn γ.al<=γ.a6
 aS:∀(i:Nat)(l:Lo A.ao),ls[i]?=some l->l.tok=true->l.mx=.own
 JB:∀(i:Nat)(l:Lo A.ao),ls[i]?=some l->A.left l.al->l.mx=.idle
 len:ls.length<=A.most
abbrev am(A:e9):eX where
 Lo:=Lo A.ao
 aN:=aN A.aO
 a6:=λγ=>γ.a6
 p7:=s6 A
 dM:=λl γ aj=>aj=γ\/(aj.a6<γ.a6/\A.CV (aat l.mx) l.al γ.al aj.al/\yO l.mx γ.mu aj.mu)
 K:=A.K
 hE:=λb=>b=A.st\/A.CW b
 ug:=λγ w=>w.heap[A.st]?=some (gU A γ.mu γ.al)/\A.oJ γ.al w
 tok:=λl=>l.tok
 deaf:=λl=>l.deaf
 past:=λl=>A.past l.al
 Left:=λl=>A.left l.al
 zero:=λl=>A.zero l.al
 oH:=λl γ=>(l.mx=.j6/\γ.mu.sema=0)\/(l.mx=.idle/\A.SR l.al γ.al)
 hh:=A.hh
 eW:=λl=>l=.cell (fP A)\/l=.cell (k_ A)\/A.eW l
 mu:=fP A
 wg:=A.wg
 o_:=λ_ _ _=>False
theorem Nl:∀(l:uad)(i x:Nat),l[i]?=some x->x<=l.sum
 |a::l,0,x,h=>AJ
 |a::l,i+1,x,h=>by have:=Nl l i x AJ;grind
def Gq{A:e9}{ls:List (Lo A.ao)}{i:Nat}{l:Lo A.ao}(h:ls[i]?=some l):(ls.map (·.mx))[i]?=some l.mx:=by grind
theorem SU{ao aO:Type}(f:ao->aO){ls:List ao}{i:Nat}{l l1:ao}(h:ls[i]?=some l)(a:f l1=f l):(ls.set i l1).map f=ls.map f:=by apply vbw;grind
def c_{A:e9}(G:A.Good):(am A).Good where
 refl:=AJ
 trans:=by
  rintro l a b c (rfl|⟨f,d,t⟩) (rfl|⟨u,q,p⟩)
  .grind
  .grind
  .grind
  .exact .inr ⟨AJ,G.trans _ _ _ _ _ d q,t.trans p⟩
 less:=by grind
 mt:=λγ w w' hs⟨f,d⟩=>⟨AJ,G.SS _ w w' AJ d⟩
 nt:=λb m hs=>hs.elim (G.nt b m).1 (G.nt b m).2
 one:=λγ ls i j a b h hi g s m=>by have f:=h.aS i a hi s;have d:=h.aS j b g m;exact h.l3.aaq AJ AJ
 ov:=λγ ls h=>by
  obtain⟨j,a,g,x,v⟩:=G.ov _ _ h.pe;rw[vbg]at g;obtain⟨l,z,rfl⟩:=vak.1 g;by_cases hq:l.mx=.j6/\γ.mu.sema=0
  .obtain⟨k,y,hk,f,d⟩:=h.l3.alive hq.2 (i:=j) AJ;rw[vbg]at hk;obtain⟨o,n,rfl⟩:=vak.1 hk;exact⟨k,o,n,λe=>f (h.JB k o n e),AJ⟩
  grind
 zero:=λγ ls j l h g r=>G.zero _ _ j l.al h.pe AJ r
 Gk:=λl h=>by
  rcases G.hh l h with⟨off,sp,rfl,_⟩|⟨b,f,d⟩
  .exact⟨A.st,Y,.inl Y⟩
  grind
 CK:=λl h=>by
  rcases h with rfl|rfl|h
  .exact⟨A.st,Y,.inl Y⟩
  .exact⟨A.st,Y,.inl Y⟩
  .obtain⟨b,f,d⟩:=G.eW l h;grind
 uf:=λl h hs=>by
  rcases hs with rfl|rfl|hs
  .rcases G.hh _ h with⟨off,sp,e,d⟩|⟨b,f,d⟩
   .grind[fP]
   .simp[e8,fP]at f;subst f;exact G.Nk d
  .rcases G.hh _ h with⟨off,sp,e,d⟩|⟨b,f,d⟩
   .grind[k_]
   .simp[e8,k_]at f;subst f;exact G.Nk d
  .exact G.uf l h hs
def JC{A:e9}(G:A.Good){l:Lo A.ao}{γ:aN A.aO}(hs:hH (am A) l γ){y:b3}{m1:bp}{f1 d1:Nat}{m2:Bool}(h:lZ l.mx y γ.mu m1 l.fuel f1)(ht:m2=true->y=.own)(t:¬A.left l.al\/y=.idle):
 CM (am A) l γ ({mx:=y,tok:=m2,deaf:=d1,fuel:=f1,al:=l.al}:Lo A.ao) ({mu:=m1,a6:=γ.a6-1,al:=γ.al}:aN A.aO):=by
 have key:∀(ls:List (Lo A.ao))(i:Nat),ls[i]?=some l->s6 A γ ls->(ls.map (·.fuel)).sum+f1=((ls.set i ({mx:=y,tok:=m2,deaf:=d1,fuel:=f1,al:=l.al}:Lo A.ao)).map (·.fuel)).sum+l.fuel/\1<=γ.a6/\
  ((ls.set i ({mx:=y,tok:=m2,deaf:=d1,fuel:=f1,al:=l.al}:Lo A.ao)).map (·.fuel)).sum+2*q9 m1 ((ls.map (·.mx)).set i y)+A.gn γ.al<=γ.a6-1:=by
  intro ls i hi hg;have c:i<ls.length:=(vab.1 hi).1;have r:=(vab.1 hi).2;have e:=Gm (ls.map (·.fuel)) i f1 AJ;have k:(ls.set i ({mx:=y,tok:=m2,deaf:=d1,fuel:=f1,al:=l.al}:Lo A.ao)).map (·.fuel)=(ls.map (·.fuel)).set i f1:=BR;rw[k];have g:(ls.map (·.fuel))[i]'AJ=l.fuel:=AJ;rw[g]at e;have u:=h.fuel _ i (Gq hi) hg.l3;have s:=Nl (ls.map (·.fuel)) i l.fuel AJ;have:=hg.hJ;omega
 refine⟨?_,λls i hi hg=>?_⟩
 .obtain⟨ls,i,hi,hg⟩:=hs;grind
 .obtain⟨_,q,p⟩:=key ls i hi hg;have o:(ls.set i ({mx:=y,tok:=m2,deaf:=d1,fuel:=f1,al:=l.al}:Lo A.ao)).map (·.mx)=(ls.map (·.mx)).set i y:=BR;have n:(ls.set i ({mx:=y,tok:=m2,deaf:=d1,fuel:=f1,al:=l.al}:Lo A.ao)).map (·.al)=ls.map (·.al):=SU _ hi Y;have c:i<ls.length:=(vab.1 hi).1;refine⟨⟨by rw[o];exact h.inv _ i (Gq hi) hg.l3,by rw[n];exact hg.pe,AJ,λj b a hk=>?_,λj b a hk=>?_,by rw[vds];exact hg.len⟩,λj f a m=>.inr ⟨AJ,G.refl _ _ _,h.k9 _ i j f.mx hg.l3 (Gq hi) a (Gq m)⟩⟩
  .by_cases d:j=i
   .grind
   .rw[vbb (Ne.symm d)]at a;exact hg.aS j b a hk
  .by_cases d:j=i
   .grind
   .rw[vbb (Ne.symm d)]at a;exact hg.JB j b a hk
end ai
namespace ai
open Conc au bn
structure ak(Z:eX)(mine:dY)(w w1:aH):Prop where
 heap:∀b,Z.K b\/mine b->w1.heap[b]?=w.heap[b]?
 size:w.heap.size<=w1.heap.size
 later:Go.ConcM.OsLater w.os w1.os
 output:w1.output=w.output
 tape:w1.tape=w.tape
theorem ak.refl(Z:eX)(mine:dY)(w:aH):ak Z mine w w:=⟨λ_ _=>Y,vad _,.refl _,Y,Y⟩
theorem ak.trans{Z:eX}{mine:dY}{a b c:aH}(h:ak Z mine a b)(k:ak Z mine b c):ak Z mine a c:=
 ⟨λx d=>(k.heap x d).trans (h.heap x d),vac h.size k.size,h.later.trans k.later,k.output.trans h.output,k.tape.trans h.tape⟩
theorem kx{mine:dY}{w w1:aH}(h:w1.heap.size=w.heap.size):grown mine w w1=mine:=by grind[grown]
variable{g:uaf}
section
variable{Z:eX}{Q:cf}{Stop:Bool->Z.Lo->aX->Prop}{m:Bool}{l:Z.Lo}
def dN.rw{γ:Z.aN}{X:aX}{w':aH}(h:dN Z l γ X w'):ak Z X.mine X.w w':=⟨h.rely.heap,h.rely.size,h.later,h.output,h.tape⟩
def anI{mine:dY}{D:aH->aH->Array Event->Prop}{S:Goroutine->aH->Prop}:∀{n:Nat}{g:uaf}{w:aH},Goes Q m (ak Z mine) D (λg w=>g.status=.running/\S g w) n g w->g.status=.running
 |0,_,w,h=>(h w (.refl _ _ _)).1
 | _+1,_,w,h=>h.elim (λh=>(h w (.refl _ _ _)).1) (λh=>h.1)
def dU{mine:dY}{X:Z.aN->Prop}{n:Nat}{w0 w:aH}(hs:g.status=.running)(hF:ak Z mine w0 w)(h:∀b,ak Z mine w b->∀e,X e->∀a d,Z.dM l e d->dN Z l d ⟨g,b,mine⟩ a->ak Z mine w0 a->Then Q Stop m l d ⟨g,b,mine⟩ a):
 Goes Q m (ak Z mine) Go.ConcR.DC0 (λg w=>g.status=.running/\∀i,X i->bf Z Q Stop m l i ⟨g,w,mine⟩) n g w:=
 vag λb c=>⟨hs,λe j=>bf.mk hs λa d k f=>h b c e j a d k f ((hF.trans c).trans (dN.rw f))⟩
theorem vC(G:Z.Good)(d:∀g g1,¬Z.o_ l g g1){mine:dY}{γ:Z.aN}:∀(n:Nat)(g:uaf)(w:aH)(bB:Z.aN),Z.dM l γ bB->
 Goes Q m (ak Z mine) Go.ConcR.DC0 (λg w=>g.status=.running/\∀a,Z.dM l γ a->bf Z Q Stop m l a ⟨g,w,mine⟩) n g w->bf Z Q Stop m l bB ⟨g,w,mine⟩
 |0,g,w,bB,b,h=>(h w (.refl _ _ _)).2 bB b
 |n+1,g,w,bB,b,h=>by
  rcases h with h|⟨hs,h⟩
  .exact(h w (.refl _ _ _)).2 bB b
  .refine bf.mk hs λw' a i f=>?_;have:=h w' (dN.rw f);cases hst:stepG Q m g w' with
   |go g1 w1 es=>
    rw[hst]at this;obtain⟨⟨rfl,rfl⟩,c⟩:=this;have hg:grown mine w1 w1=mine:=kx Y;refine .quiet hst ⟨?_,⟨AJ,vad _,.refl _,Y,Y⟩,λ_ _ _=>Y,PA,?_⟩ ?_
    .exact anI c
    .rintro(⟨e,j,_⟩|h)
     .grind
     grind
    .show bf Z Q Stop m l a ⟨g1,w1,grown mine w1 w1⟩;rw[hg];exact vC G d n g1 w1 a (G.trans _ _ _ _ b i) c
   | _=>rw[hst]at this;exact this.elim
end
variable{d1 f1:Nat}
def SV{A:e9}(G:A.Good){l:Lo A.ao}{γ:aN A.aO}(hs:hH (am A) l γ){a1:A.ao}{b1:A.aO}{m2:Bool}(k:∀(az:List A.ao)(i:Nat),az[i]?=some l.al->A.um γ.al az->A.um b1 (az.set i a1))(C:f1+A.gn b1+1<=l.fuel+A.gn γ.al)(f:∀(o:Bool)(a':A.ao),(l.mx=.own->o=false)->(A.zero l.al->¬A.zero a')->A.CV o a' γ.al b1)(w:A.left a1->l.mx=.idle)(t:m2=true->l.mx=.own):
 CM (am A) l γ ({mx:=l.mx,tok:=m2,deaf:=d1,fuel:=f1,al:=a1}:Lo A.ao) ({mu:=γ.mu,a6:=γ.a6-1,al:=b1}:aN A.aO):=by
 have key:∀(ls:List (Lo A.ao))(i:Nat),ls[i]?=some l->s6 A γ ls->1<=γ.a6/\((ls.set i ({mx:=l.mx,tok:=m2,deaf:=d1,fuel:=f1,al:=a1}:Lo A.ao)).map (·.fuel)).sum+2*q9 γ.mu (ls.map (·.mx))+A.gn b1<=γ.a6-1:=by intro ls i hi hg;have c:i<ls.length:=(vab.1 hi).1;have y:=(vab.1 hi).2;have e:=Gm (ls.map (·.fuel)) i f1 AJ;have p:(ls.set i ({mx:=l.mx,tok:=m2,deaf:=d1,fuel:=f1,al:=a1}:Lo A.ao)).map (·.fuel)=(ls.map (·.fuel)).set i f1:=BR;rw[p];have n:(ls.map (·.fuel))[i]'AJ=l.fuel:=AJ;rw[n]at e;have z:=Nl (ls.map (·.fuel)) i l.fuel AJ;have:=hg.hJ;omega
 refine⟨?_,λls i hi hg=>?_⟩
 .obtain⟨ls,i,hi,hg⟩:=hs;grind
 .obtain⟨v,u⟩:=key ls i hi hg;have s:(ls.set i ({mx:=l.mx,tok:=m2,deaf:=d1,fuel:=f1,al:=a1}:Lo A.ao)).map (·.mx)=ls.map (·.mx):=SU _ hi Y;have r:(ls.set i ({mx:=l.mx,tok:=m2,deaf:=d1,fuel:=f1,al:=a1}:Lo A.ao)).map (·.al)=(ls.map (·.al)).set i a1:=BR;have c:i<ls.length:=(vab.1 hi).1;have h:(ls.map (·.al))[i]?=some l.al:=AJ;refine⟨⟨by rw[s];exact hg.l3,by rw[r];exact k _ i h hg.pe,AJ,λj b a hk=>?_,λj b a hk=>?_,by rw[vds];exact hg.len⟩,λj g a F=>.inr ⟨AJ,?_,.refl _ _⟩⟩
  .by_cases d:j=i
   .grind
   .rw[vbb (Ne.symm d)]at a;exact hg.aS j b a hk
  .by_cases d:j=i
   .grind
   .rw[vbb (Ne.symm d)]at a;exact hg.JB j b a hk
  .refine f _ _ (λB=>?_) (λm q=>?_)
   .cases x:g.mx<;>simp only[aat]
    exact absurd (hg.l3.aaq AJ AJ) a
   .have E:=G.zero _ _ i l.al hg.pe h m;have D:=G.zero _ _ j g.al hg.pe AJ q;grind
variable{g1:uaf}{m1 mu:bp}
section
variable{A:e9}{Q:cf}{Stop:Bool->Lo A.ao->aX->Prop}{m:Bool}{l:Lo A.ao}{γ:aN A.aO}{X:aX}{w':aH}
def bb(G:A.Good){mine:dY}{w:aH}(h:Goes Q m (ak (am A) mine) Go.ConcR.DC0 (λg w=>g.status=.running/\∀a,(am A).dM l γ a->bf (am A) Q Stop m l a ⟨g,w,mine⟩) 300 g w):bf (am A) Q Stop m l γ ⟨g,w,mine⟩:=
 vC (c_ G) (λ_ _ h=>h) 300 _ _ _ LF h
def l4{b:A.aO}{w:aH}(h:w.heap[A.st]?=some (gU A mu b)):w.cell? (fP A)=some (.int .i32 (mu.word:Int)):=by simp[World.cell?,fP,h,gU];grind
def JE{b:A.aO}{w:aH}(h:w.heap[A.st]?=some (gU A mu b)):w.cell? (k_ A)=some (.int .u32 (mu.sema:Int)):=by simp[World.cell?,k_,h,gU];grind
def p9{b:A.aO}{w:aH}(h:w.heap[A.st]?=some (gU A mu b))(off:Nat)(sp):w.frozen? ⟨A.st,off,sp⟩=false:=by simp[World.frozen?,h,gU]
theorem m3(w:aH)(a:Addr)(v:Value){b:Nat}(c:b≠a.block):(w.setCell a v).heap[b]?=w.heap[b]?:=by simp[World.setCell,vaz,Ne.symm c]
def mq(w:aH)(a:Addr)(v:Value):(w.setCell a v).heap.size=w.heap.size:=by simp_all
def anK{b:A.aO}{w:aH}(h:w.heap[A.st]?=some (gU A mu b))(hs:m1.sema=mu.sema):(w.setCell (fP A) (.int .i32 (m1.word:Int))).heap[A.st]?=some (gU A m1 b):=by unfold World.setCell;simp_all[fP,vaz,gU]
def anL{b:A.aO}{w:aH}(h:w.heap[A.st]?=some (gU A mu b))(hs:m1.word=mu.word):(w.setCell (k_ A) (.int .u32 (m1.sema:Int))).heap[A.st]?=some (gU A m1 b):=by unfold World.setCell;simp_all[k_,vaz,gU]
def aau(G:A.Good){b:A.aO}{w:aH}(h:A.oJ b w)(off:Nat)(sp)(v:Value):A.oJ b (w.setCell ⟨A.st,off,sp⟩ v):=
 G.SS b w _ (λk hk=>m3 w _ v (λe=>G.Nk AJ)) h
def aav{mine:dY}(w:aH)(off:Nat)(sp)(v:Value):lE (am A) mine w (w.setCell ⟨A.st,off,sp⟩ v):=
 ⟨λb _ _ hs=>m3 w _ v AJ,BR,.refl _,Y,Y⟩
def p_(Z:eX)(mine:dY)(w:aH):lE Z mine w w:=⟨AJ,vad _,.refl _,Y,Y⟩
theorem anM(G:A.Good)(a:dN (am A) l γ X w'){y:b3}(hs:stepG Q m X.g w'=.go g1 (w'.setCell (fP A) (.int .i32 (m1.word:Int))) #[⟨.cell (fP A),false,true⟩,⟨.cell (fP A),true,true⟩])(hrun:g1.status=.running)(hd:0<l.deaf)(d:m1.sema=γ.mu.sema)(c:¬A.left l.al)(ht:lZ l.mx y γ.mu m1 l.fuel f1)(b:l.tok=true->y=.own)(h:bf (am A) Q Stop m ({l with mx:=y,fuel:=f1}:Lo A.ao) ({γ with mu:=m1,a6:=γ.a6-1}:aN A.aO) ⟨g1,w'.setCell (fP A) (.int .i32 (m1.word:Int)),X.mine⟩):
 Then (Z:=am A) Q Stop m l γ X w':=by
 have hg:grown X.mine w' (w'.setCell (fP A) (.int .i32 (m1.word:Int)))=X.mine:=kx (mq _ _ _);refine .turn (l1:=({l with mx:=y,fuel:=f1}:Lo A.ao)) (bB:=({γ with mu:=m1,a6:=γ.a6-1}:aN A.aO)) hs ⟨hrun,.inl ⟨⟨.cell (fP A),true,true⟩,AQ,.inr (.inr (.inr (.inr ⟨Y,A.st,Y,.inl Y⟩)))⟩,aav w' 0 none _,⟨anK a.mt.1 d,aau G a.mt.2 _ _ _⟩,
  JC (d1:=l.deaf) (m2:=l.tok) G a.sees ht b (.inl c),.inl ⟨Y,Y,Y,?_⟩,.inr λe f=>?_⟩ AJ ?_
 .exact⟨.inr AJ,.inr ⟨Y,.inl Y,hd⟩,PA⟩
 .grind
 grind
theorem anN(G:A.Good)(a:dN (am A) l γ X w'){y:b3}(hs:stepG Q m X.g w'=.go g1 (w'.setCell (k_ A) (.int .u32 (m1.sema:Int))) (semEvents (k_ A)))(hrun:g1.status=.running)(e:m1.word=γ.mu.word)(d:¬A.left l.al)(ht:lZ l.mx y γ.mu m1 l.fuel f1)(c:l.tok=true->y=.own)(b:mayWake Q X.g=true\/0<γ.mu.sema)(h:bf (am A) Q Stop m ({l with mx:=y,fuel:=f1}:Lo A.ao) ({γ with mu:=m1,a6:=γ.a6-1}:aN A.aO) ⟨g1,w'.setCell (k_ A) (.int .u32 (m1.sema:Int)),X.mine⟩):Then (Z:=am A) Q Stop m l γ X w':=by
 have hg:grown X.mine w' (w'.setCell (k_ A) (.int .u32 (m1.sema:Int)))=X.mine:=kx (mq _ _ _);refine .turn (l1:=({l with mx:=y,fuel:=f1}:Lo A.ao)) (bB:=({γ with mu:=m1,a6:=γ.a6-1}:aN A.aO)) hs ⟨hrun,.inl ⟨⟨.cell (k_ A),true,true⟩,by simp[semEvents],.inr (.inr (.inr (.inr ⟨Y,A.st,Y,.inl Y⟩)))⟩,aav w' 1 none _,⟨anL a.mt.1 e,aau G a.mt.2 _ _ _⟩,
  JC (d1:=l.deaf) (m2:=l.tok) G a.sees ht c (.inl d),.inl ⟨Y,Y,?_,?_⟩,b.imp id λi f g=>?_⟩ AJ ?_
 .grind[deafBehind,semEvents]
 .exact⟨.inl trivial,.inr ⟨Y,.inr LF,IT⟩,.inr ⟨Y,.inr LF,IT⟩,.inl trivial,PA⟩
 .grind
 grind
def s7(G:A.Good)(b:dN (am A) l γ X w'){mk:Mark}(a:mk=.disable\/mk=.enable){y:b3}(hs:stepG Q m X.g w'=.go g1 w' #[⟨.mark mk,false,true⟩])(hrun:g1.status=.running)(d:¬A.left l.al)(ht:lZ l.mx y γ.mu γ.mu l.fuel f1)(c:l.tok=true->y=.own)(hd:d1=deafBehind l.deaf #[⟨.mark mk,false,true⟩])(h:bf (am A) Q Stop m ({l with mx:=y,fuel:=f1,deaf:=d1}:Lo A.ao) ({γ with a6:=γ.a6-1}:aN A.aO) ⟨g1,w',X.mine⟩):Then (Z:=am A) Q Stop m l γ X w':=by
 refine .turn (l1:=({l with mx:=y,fuel:=f1,deaf:=d1}:Lo A.ao)) (bB:=({γ with a6:=γ.a6-1}:aN A.aO)) hs ⟨hrun,.inl ⟨⟨.mark mk,false,true⟩,AQ,a.elim (λe=>.inl KE) (λe=>.inr AJ)⟩,p_ _ _ _,b.mt,
  JC (d1:=d1) (m2:=l.tok) G b.sees ht c (.inl d),.inl ⟨Y,Y,hd,.inl ?_,PA⟩,AJ⟩ AJ ?_
 .rcases a with rfl|rfl<;>trivial
 grind[kx]
def SX(G:A.Good)(b:dN (am A) l γ X w')(hs:stepG Q m X.g w'=.go g1 w' #[⟨.mark (.acquire (fP A)),false,true⟩])(hrun:g1.status=.running)(c:¬A.left l.al)(a:l.mx=.own)(ht:l.tok=false)(hd:l.deaf=0)(d:f1<l.fuel)(h:bf (am A) Q Stop m ({l with fuel:=f1,tok:=true}:Lo A.ao) ({γ with a6:=γ.a6-1}:aN A.aO) ⟨g1,w',X.mine⟩):Then (Z:=am A) Q Stop m l γ X w':=by
 refine .turn (l1:=({l with fuel:=f1,tok:=true}:Lo A.ao)) (bB:=({γ with a6:=γ.a6-1}:aN A.aO)) hs ⟨hrun,.inl ⟨⟨.mark (.acquire (fP A)),false,true⟩,AQ,.inr AJ⟩,p_ _ _ _,b.mt,
  JC (d1:=l.deaf) (m2:=true) G b.sees (s5 d l.mx) (λ_=>a) (.inl c),.inr (.inl ⟨Y,hd,hd,ht,Y,Y⟩),AJ⟩ AJ ?_
 grind[kx]
def aFQ(G:A.Good)(a:dN (am A) l γ X w')(hs:stepG Q m X.g w'=.go g1 w' #[⟨.mark (.releaseMerge (fP A)),false,true⟩])(hrun:g1.status=.running)(b:¬A.left l.al)(ht:l.tok=true)(hd:l.deaf=0)(c:f1<l.fuel)(h:bf (am A) Q Stop m ({l with fuel:=f1,tok:=false}:Lo A.ao) ({γ with a6:=γ.a6-1}:aN A.aO) ⟨g1,w',X.mine⟩):Then (Z:=am A) Q Stop m l γ X w':=by
 refine .turn (l1:=({l with fuel:=f1,tok:=false}:Lo A.ao)) (bB:=({γ with a6:=γ.a6-1}:aN A.aO)) hs ⟨hrun,.inl ⟨⟨.mark (.releaseMerge (fP A)),false,true⟩,AQ,.inr AJ⟩,p_ _ _ _,a.mt,
  JC (d1:=l.deaf) (m2:=false) G a.sees (s5 c l.mx) AJ (.inl b),.inr (.inr (.inl ⟨Y,hd,hd,ht,Y,Y⟩)),AJ⟩ AJ ?_
 grind[kx]
def l5{w1:aH}(hs:stepG Q m X.g w'=.go g1 w1 #[])(hrun:g1.status=.running)(d:w1.heap=w'.heap)(b:Go.ConcM.OsLater w'.os w1.os)(a:w1.output=w'.output)(ht:w1.tape=w'.tape)(h:bf (am A) Q Stop m l γ ⟨g1,w1,X.mine⟩):Then (Z:=am A) Q Stop m l γ X w':=by
 refine .quiet hs ⟨hrun,⟨AJ,AJ,b,a,ht⟩,AJ,PA,?_⟩ ?_
 .rintro(⟨e,c,_⟩|h)
  .grind
  grind
 grind[kx]
def No(hs:stepG Q m X.g w'=.go g1 w' #[⟨.cell (fP A),false,true⟩])(hrun:g1.status=.running)(hd:0<l.deaf)(h:bf (am A) Q Stop m l γ ⟨g1,w',X.mine⟩):Then (Z:=am A) Q Stop m l γ X w':=by
 refine .quiet hs ⟨hrun,p_ _ _ _,λ_ _ _=>Y,⟨.inr AJ,PA⟩,?_⟩ ?_
 .rintro(⟨e,a,b⟩|h)
  .simp at a;subst a;rcases b with h|h|⟨_,h⟩|⟨_,h⟩|⟨h,_⟩<;>cases h
  grind
 grind[kx]
def anO(G:A.Good)(a:dN (am A) l γ X w'){a1:A.ao}(hs:stepG Q m X.g w'=.go g1 w' #[⟨.mark (.releaseMerge (fP A)),false,true⟩])(hrun:g1.status=.running)(d:¬A.left a1)(c:A.past a1=A.past l.al)(ht:l.tok=true)(hd:l.deaf=0)(f:f1<l.fuel)(b:∀(az:List A.ao)(i:Nat),az[i]?=some l.al->A.um γ.al az->A.um γ.al (az.set i a1))(h:bf (am A) Q Stop m ({l with fuel:=f1,tok:=false,al:=a1}:Lo A.ao) ({γ with a6:=γ.a6-1}:aN A.aO) ⟨g1,w',X.mine⟩):Then (Z:=am A) Q Stop m l γ X w':=by
 refine .turn (l1:=({l with fuel:=f1,tok:=false,al:=a1}:Lo A.ao)) (bB:=({γ with a6:=γ.a6-1}:aN A.aO)) hs ⟨hrun,.inl ⟨⟨.mark (.releaseMerge (fP A)),false,true⟩,AQ,.inr AJ⟩,p_ _ _ _,a.mt,
  SV (d1:=l.deaf) (m2:=false) G a.sees b AP (λ_ _ _ _=>G.refl _ _ _) (λe=>absurd e d) AQ,.inr (.inr (.inl ⟨Y,hd,hd,ht,Y,c⟩)),AJ⟩ AJ ?_
 grind[kx]
end
end ai
namespace bz
open Conc
abbrev _root_.Go.Func.nn(f:Func):Bool:=f.name== "runtime.NumGoroutine"
theorem Du:f71.nn=false:=AS
theorem Dv:f71.body.isNone=true:=by kernel_rfl
theorem Dw:Extern.findNext f71=none:=by kernel_rfl
theorem Dx:Extern.find f71=some (λ_=>do mark .disable;pure Extern.Race.none_):=by kernel_rfl
theorem rm:f72.nn=false:=AS
theorem rn:f72.body.isNone=true:=by kernel_rfl
theorem rp:Extern.findNext f72=none:=by kernel_rfl
theorem rq:Extern.find f72=some (λ_=>do mark .enable;pure Extern.Race.none_):=by kernel_rfl
theorem GR:f85.nn=false:=AS
theorem GU:f85.body.isNone=true:=by kernel_rfl
theorem GV:Extern.findNext f85=none:=by kernel_rfl
theorem GX:Extern.find f85=some (Extern.Race.marked .acquire):=by kernel_rfl
theorem UD:f70.nn=false:=AS
theorem UE:f70.body.isNone=true:=by kernel_rfl
theorem UF:Extern.findNext f70=none:=by kernel_rfl
theorem UG:Extern.find f70=some (Extern.Race.marked .releaseMerge):=by kernel_rfl
theorem zk:f126.nn=false:=AS
theorem zl:f126.body.isNone=true:=by kernel_rfl
theorem zm:Extern.findNext f126=none:=by kernel_rfl
theorem zn:Extern.find f126=some (Extern.Atomic.casT (.int .i32)):=by kernel_rfl
theorem Kr:f128.nn=false:=AS
theorem Ks:f128.body.isNone=true:=by kernel_rfl
theorem Kt:Extern.findNext f128=none:=by kernel_rfl
theorem Ku:Extern.find f128=some (Extern.Atomic.update (Op.intArith .add) .i32 true):=by kernel_rfl
theorem Wh:f144.nn=false:=AS
theorem Wd:f144.body.isNone=true:=by kernel_rfl
theorem V5:Extern.findNext f144=none:=by kernel_rfl
theorem VV:Extern.find f144=some Extern.Sync.canSpin:=by kernel_rfl
theorem art:f145.nn=false:=AS
theorem aru:f145.body.isNone=true:=by kernel_rfl
theorem arv:Extern.findNext f145=none:=by kernel_rfl
theorem arw:Extern.find f145=some Extern.Sync.nothing:=by kernel_rfl
theorem VU:f147.nn=false:=AS
theorem VR:f147.body.isNone=true:=by kernel_rfl
theorem VK:Extern.findNext f147=none:=by kernel_rfl
theorem VJ:Extern.find f147=some Extern.OsHooks.nano:=by kernel_rfl
theorem UH:f148.nn=false:=AS
theorem UI:f148.body.isNone=true:=by kernel_rfl
theorem UJ:Extern.findNext f148=none:=by kernel_rfl
theorem UK:Extern.find f148=some Extern.Sync.semacquire:=by kernel_rfl
theorem VF:f150.nn=false:=AS
theorem Ov:f150.body.isNone=true:=by kernel_rfl
theorem Vz:Extern.findNext f150=none:=by kernel_rfl
theorem Vy:Extern.find f150=some Extern.Sync.semrelease:=by kernel_rfl
theorem Vv:f147.norace=true:=by kernel_rfl
theorem Kv:f90.nn=false:=AS
theorem zo:f91.nn=false:=AS
theorem Vu:f114.nn=false:=AS
theorem Vt:f115.nn=false:=AS
theorem Ve:(prog.funcs[(base 115).fn]?).any (·.norace)=true:=by kernel_rfl
theorem arx:f127.nn=false:=AS
theorem Kw:(prog.funcs[(base 127).fn]?).any (·.norace)=true:=by kernel_rfl
theorem Vb:f129.nn=false:=AS
theorem ary:(prog.funcs[(base 129).fn]?).any (·.norace)=true:=by kernel_rfl
open RowKit Conc.Lib ConcR.Gen ConcM au bn ai
def U5:prog.underlying 238=some (.pointer 169):=by simp
def Ow:prog.underlying 176=some .unsafePointer:=by simp
theorem UU:(prog.info? 169).map (λi=>decide (i.size=0))=some false:=by kernel_rfl
section
variable{m:Bool}{b:Frame}{a:Act}{kk:uaa}{cs:fG}{w:aH}{ops:fC}{i:Nat}{rest:uad}{o:Oper}
def GY{x:uau}(g:ops[i]?=some o)(d:veg o ops a.tmps=true)(hk:b.kind≠ .early)(f:o.op=.convert 238 176 x){ad:Addr}{v:Value}(k:a.eval x=.pointer (some ad))(c:w.cell? ad=some v):
 stepG prog m (Conc.G (b.at a (.inRegion ops (i::rest)::kk)) cs) w=.go (Conc.G (b.at (a.put o.dst (.pointer (some ad))) (.inRegion ops rest::kk)) cs) w #[]:=by
 have h:=run_convert_to_unsafe (P:=prog) U5 Ow UU c;have j:=λes=>events_convert_to_unsafe (P:=prog) U5 Ow UU c es;have e:(execOp a.eval o).run prog w=.ok (.value (.pointer (some ad))) w:=by simp_all[execOp]
 have l:(execOp a.eval o).events prog w #[]=#[]:=by simp_all[execOp]
 rw[vaq g d hk e];grind[listed,seen_none]
def Bo{x:uau}(h:ops[i]?=some o)(f:veg o ops a.tmps=true)(hk:b.kind≠ .early)(c:o.op=.load 21 x){ad:Addr}{v:Int}(d:a.eval x=.pointer (some ad))(e:w.cell? ad=some (.int .i32 v))(hq:(prog.funcs[b.fn]?).any (·.norace)=true):
 stepG prog m (Conc.G (b.at a (.inRegion ops (i::rest)::kk)) cs) w=.go (Conc.G (b.at (a.put o.dst (.int .i32 v)) (.inRegion ops rest::kk)) cs) w #[]:=by
 have g:(execOp a.eval o).run prog w=.ok (.value (.int .i32 v)) w:=by unfold execOp;simp only[c,d];simp[go_sem,e]
 have j:(execOp a.eval o).events prog w #[]=#[⟨.cell ad,false,false⟩]:=by unfold execOp;simp only[c,d];simp[go_sem,e]
 rw[vaq h f hk g];grind[listed,seen_def,seenStep]
end
def UL{mu:bp}(h:mu.word=0):mu.L=false/\mu.W=false/\mu.S=false/\mu.k=0:=by grind[bp.word]
def dC:Code->Option Code
 | .loop c=>some c
 | .seq x y=>match dC x with|some c=>some c|none=>dC y
 | .block _ c=>dC c
 | .cond _ x y=>match dC x with|some c=>some c|none=>dC y
 | _=>none
def lr:Code->Option Code
 | .seq (.block _ _) r=>some r
 | .seq _ y=>lr y
 | _=>none
def dJ(id:Nat):Code->Option Code
 | .seq x y=>if(match x with| .region i _ _=>i==id| _=>false)then some (.seq x y)else match dJ id x with|some c=>some c|none=>dJ id y
 | .block _ c=>dJ id c
 | .loop c=>dJ id c
 | .cond _ x y=>match dJ id x with|some c=>some c|none=>dJ id y
 | _=>none
def kC:Code->Code
 | .seq _ y=>y
 | _=>.skip
def mE:Code->Array Oper
 | .seq (.region _ o _) _=>o
 | _=>#[]
def jQ(ks:uaa)(A:e9)(Stop:Bool->ai.Lo A.ao->aX->Prop)(m:Bool)(mine:dY)(a2:Frame)(aD:Act)(aB:fC)(aJ:Nat)(aL:uad)(aG:uaa)(csZ:fG)(l:ai.Lo A.ao)(γ:ai.aN A.aO)(cw:Int)(sv aw:Bool)(it old:Int)(w:aH):Prop:=
 ∀(dn tp fm eO fo fp fq ft rr ru fI fu fv fx i6 fy gr gt gu vZ v_ wa wb wd we wh wi wj wk wl wm wo wq wt wu wv ww zp zq zr zs zt zu zv zw zx zy zz zA zB zC zD zE zF zG zH zI zJ zK zL zM zN zO zP zQ zR zS zT zU zV zW Dy Dz DC DD zX zY zZ DF DG DH DI DJ DK DL Kx DN DO DQ DR DS DT DU DV DW DX DY DZ D1 D2 D3 D4 D5 D6 D7 D8 D9 D_ Ea Eb Ec Ed Ee Ef Eg Eh Ei Ej Ek El Em En Eo Ep Er Es Et Eu Ev Ew Ex Ey Ez:Value),bf (am A) prog Stop m l γ ⟨Conc.G ((base 127).at ⟨#[.pointer (some (ai.fP A)),dn,.I cw,.bool sv,.bool aw,.I it,.int .i32 old,tp,fm,eO,fo,fp,fq,ft,rr,ru,fI,fu,fv,fx,i6,fy,gr,gt,gu,vZ,v_,wa,wb,wd,we,wh,wi,wj,wk,wl,wm,wo,wq,wt,wu,wv,ww,zp,zq,zr,zs,zt,zu,zv,zw,zx,zy,zz,zA,zB,zC,zD,zE,zF,zG,zH,zI,zJ,zK,zL,zM,zN,zO,zP,zQ,zR,zS,zT,zU,zV,zW,Dy,Dz,DC,DD,zX,zY,zZ,DF,DG,DH,DI,DJ,DK,DL,Kx,DN,DO,DQ,DR,DS,DT,DU,DV,DW,DX,DY,DZ,D1,D2,D3,D4,D5,D6,D7,D8,D9,D_,Ea,Eb,Ec,Ed,Ee,Ef,Eg,Eh,Ei,Ej,Ek,El,Em,En,Eo,Ep,Er,Es,Et,Eu,Ev,Ew,Ex,Ey,Ez],[]⟩ ks) (a2.at aD (.inRegion aB (aJ::aL)::aG)::csZ),w,mine⟩
def qm(A:e9)(Stop:Bool->ai.Lo A.ao->aX->Prop)(m:Bool)(mine:dY)(a2:Frame)(aD:Act)(aB:fC)(aJ:Nat)(aL:uad)(aG:uaa)(csZ:fG)(l:ai.Lo A.ao)(γ:ai.aN A.aO)(cw:Int)(sv aw:Bool)(it old:Int)(w:aH):Prop:=
 jQ [.code ((dC (f127.body.getD .skip)).getD .skip),.inLoop ((dC (f127.body.getD .skip)).getD .skip),.inBlock 0,.code ((lr (f127.body.getD .skip)).getD .skip)] A Stop m mine a2 aD aB aJ aL aG csZ l γ cw sv aw it old w
def Bp(A:e9)(Stop:Bool->ai.Lo A.ao->aX->Prop)(m:Bool)(mine:dY)(a2:Frame)(aD:Act)(aB:fC)(aJ:Nat)(aL:uad)(aG:uaa)(csZ:fG)(l:ai.Lo A.ao)(γ:ai.aN A.aO)(cw:Int)(sv aw:Bool)(it old:Int)(w:aH):Prop:=
 jQ [.code ((dJ 11 ((dC (f127.body.getD .skip)).getD .skip)).getD .skip),.inBlock 1,.inLoop ((dC (f127.body.getD .skip)).getD .skip),.inBlock 0,.code ((lr (f127.body.getD .skip)).getD .skip)] A Stop m mine a2 aD aB aJ aL aG csZ l γ cw sv aw it old w
def Ky(A:e9)(Stop:Bool->ai.Lo A.ao->aX->Prop)(m:Bool)(mine:dY)(a2:Frame)(aD:Act)(aB:fC)(aJ:Nat)(aL:uad)(aG:uaa)(csZ:fG)(l:ai.Lo A.ao)(γ:ai.aN A.aO)(cw:Int)(sv aw:Bool)(it old:Int)(new:Int)(w:aH):Prop:=
 ∀(dn fm eO fo fp fq ft rr ru fI fu fv fx i6 fy gr gt gu vZ v_ wa wb wd we wh wi wj wk wl wm wo wq wt wu wv ww zp zq zr zs zt zu zv zw zx zy zz zA zB zC zD zE zF zG zH zI zJ zK zL zM zN zO zP zQ zR zS zT zU zV zW DD zX zY zZ DF DG DH DI DJ DK DL Kx DN DO DQ DR DS DT DU DV DW DX DY DZ D1 D2 D3 D4 D5 D6 D7 D8 D9 D_ Ea Eb Ec Ed Ee Ef Eg Eh Ei Ej Ek El Em En Eo Ep Er Es Et Eu Ev Ew Ex Ey Ez:Value),bf (am A) prog Stop m l γ ⟨Conc.G ((base 127).at ⟨#[.pointer (some (ai.fP A)),dn,.I cw,.bool sv,.bool aw,.I it,.int .i32 old,.int .i32 new,fm,eO,fo,fp,fq,ft,rr,ru,fI,fu,fv,fx,i6,fy,gr,gt,gu,vZ,v_,wa,wb,wd,we,wh,wi,wj,wk,wl,wm,wo,wq,wt,wu,wv,ww,zp,zq,zr,zs,zt,zu,zv,zw,zx,zy,zz,zA,zB,zC,zD,zE,zF,zG,zH,zI,zJ,zK,zL,zM,zN,zO,zP,zQ,zR,zS,zT,zU,zV,zW,.pointer (some (ai.fP A)),.int .i32 old,.int .i32 new,DD,zX,zY,zZ,DF,DG,DH,DI,DJ,DK,DL,Kx,DN,DO,DQ,DR,DS,DT,DU,DV,DW,DX,DY,DZ,D1,D2,D3,D4,D5,D6,D7,D8,D9,D_,Ea,Eb,Ec,Ed,Ee,Ef,Eg,Eh,Ei,Ej,Ek,El,Em,En,Eo,Ep,Er,Es,Et,Eu,Ev,Ew,Ex,Ey,Ez],[]⟩ [.inRegion (mE ((dJ 22 ((dC (f127.body.getD .skip)).getD .skip)).getD .skip)) [5],.code (kC ((dJ 22 ((dC (f127.body.getD .skip)).getD .skip)).getD .skip)),.inBlock 1,.inLoop ((dC (f127.body.getD .skip)).getD .skip),.inBlock 0,.code ((lr (f127.body.getD .skip)).getD .skip)]) (a2.at aD (.inRegion aB (aJ::aL)::aG)::csZ),w,mine⟩
def wx(A:e9)(Stop:Bool->ai.Lo A.ao->aX->Prop)(m:Bool)(mine:dY)(a2:Frame)(aD:Act)(aB:fC)(aJ:Nat)(aL:uad)(aG:uaa)(csZ:fG)(l:ai.Lo A.ao)(γ:ai.aN A.aO)(cw:Int)(sv aw:Bool)(it old:Int)(lp:Bool)(w:aH):Prop:=
 ∀(dn tp fm eO fo fp fq ft rr ru fI fu fv fx i6 fy gr gt gu vZ v_ wa wb wd we wh wi wj wk wl wm wo wq wt wu wv ww zp zq zr zs zt zu zv zw zx zy zz zA zB zC zD zE zF zG zH zI zJ zK zL zM zN zO zP zQ zR zS zT zU zV zW Dy Dz DC zX zY zZ DF DG DH DI DJ DK DL Kx DN DO DQ DR DS DT DU DV DW DX DY DZ D1 D2 D3 D4 D5 D6 D7 D8 D9 D_ Ea Eb Ec Ed Ee Ef Eg Eh Ei Ej Ek El Em En Eo Ep Er Es Et Eu Ev Ew Ex Ey Ez:Value),bf (am A) prog Stop m l γ ⟨Conc.G ((base 127).at ⟨#[.pointer (some (ai.fP A)),dn,.I cw,.bool sv,.bool aw,.I it,.int .i32 old,tp,fm,eO,fo,fp,fq,ft,rr,ru,fI,fu,fv,fx,i6,fy,gr,gt,gu,vZ,v_,wa,wb,wd,we,wh,wi,wj,wk,wl,wm,wo,wq,wt,wu,wv,ww,zp,zq,zr,zs,zt,zu,zv,zw,zx,zy,zz,zA,zB,zC,zD,zE,zF,zG,zH,zI,zJ,zK,zL,zM,zN,zO,zP,zQ,zR,zS,zT,zU,zV,zW,Dy,Dz,DC,.bool lp,zX,zY,zZ,DF,DG,DH,DI,DJ,DK,DL,Kx,DN,DO,DQ,DR,DS,DT,DU,DV,DW,DX,DY,DZ,D1,D2,D3,D4,D5,D6,D7,D8,D9,D_,Ea,Eb,Ec,Ed,Ee,Ef,Eg,Eh,Ei,Ej,Ek,El,Em,En,Eo,Ep,Er,Es,Et,Eu,Ev,Ew,Ex,Ey,Ez],[]⟩ [.code (kC ((dJ 22 ((dC (f127.body.getD .skip)).getD .skip)).getD .skip)),.inBlock 1,.inLoop ((dC (f127.body.getD .skip)).getD .skip),.inBlock 0,.code ((lr (f127.body.getD .skip)).getD .skip)]) (a2.at aD (.inRegion aB (aJ::aL)::aG)::csZ),w,mine⟩
end bz
namespace bz
open Conc ai
def arA:∀(L W S:Bool)(k:Nat),k<256->bits .and .i32 ((L.toNat+2*W.toNat+4*S.toNat+8*k:Nat):Int) 4=((4*S.toNat:Nat):Int):=by decide+kernel
def arB:∀(L W S:Bool)(k:Nat),k<256->bits .and .i32 ((L.toNat+2*W.toNat+4*S.toNat+8*k:Nat):Int) 5=((L.toNat+4*S.toNat:Nat):Int):=by decide+kernel
def arC:∀(L W S:Bool)(k:Nat),k<256->bits .and .i32 ((L.toNat+2*W.toNat+4*S.toNat+8*k:Nat):Int) 2=((2*W.toNat:Nat):Int):=by decide+kernel
def arD:∀(L W S:Bool)(k:Nat),k<256->bits .and .i32 ((L.toNat+2*W.toNat+4*S.toNat+8*k:Nat):Int) 1=((L.toNat:Nat):Int):=by decide+kernel
def arE:∀(L W S:Bool)(k:Nat),k<256->bits .and .i32 ((L.toNat+2*W.toNat+4*S.toNat+8*k:Nat):Int) 3=((L.toNat+2*W.toNat:Nat):Int):=by decide+kernel
def arF:∀(L W S:Bool)(k:Nat),k<256->bits .and .i32 ((L.toNat+2*W.toNat+4*S.toNat+8*k:Nat):Int) 7=((L.toNat+2*W.toNat+4*S.toNat:Nat):Int):=by decide+kernel
def arG:∀(L W S:Bool)(k:Nat),k<256->bits .or .i32 ((L.toNat+2*W.toNat+4*S.toNat+8*k:Nat):Int) 1=((1+2*W.toNat+4*S.toNat+8*k:Nat):Int):=by decide+kernel
def arH:∀(L W S:Bool)(k:Nat),k<256->bits .or .i32 ((L.toNat+2*W.toNat+4*S.toNat+8*k:Nat):Int) 2=((L.toNat+2+4*S.toNat+8*k:Nat):Int):=by decide+kernel
def arI:∀(L W S:Bool)(k:Nat),k<256->bits .or .i32 ((L.toNat+2*W.toNat+4*S.toNat+8*k:Nat):Int) 4=((L.toNat+2*W.toNat+4+8*k:Nat):Int):=by decide+kernel
def arJ:∀(L W S:Bool)(k:Nat),k<256->bits .andNot .i32 ((L.toNat+2*W.toNat+4*S.toNat+8*k:Nat):Int) 2=((L.toNat+4*S.toNat+8*k:Nat):Int):=by decide+kernel
theorem Kz(m:bp)(hk:m.k<256):bits .and .i32 (m.word:Int) 4=((4*m.S.toNat:Nat):Int):=by have:=arA m.L m.W m.S m.k hk;grind[bp.word]
def UT(m:bp)(hk:m.k<256):bits .and .i32 (m.word:Int) 5=((m.L.toNat+4*m.S.toNat:Nat):Int):=by have:=arB m.L m.W m.S m.k hk;grind[bp.word]
theorem KA(m:bp)(hk:m.k<256):bits .and .i32 (m.word:Int) 2=((2*m.W.toNat:Nat):Int):=by have:=arC m.L m.W m.S m.k hk;grind[bp.word]
theorem UM(m:bp)(hk:m.k<256):bits .and .i32 (m.word:Int) 1=((m.L.toNat:Nat):Int):=by have:=arD m.L m.W m.S m.k hk;grind[bp.word]
theorem arK(m:bp)(hk:m.k<256):bits .and .i32 (m.word:Int) 3=((m.L.toNat+2*m.W.toNat:Nat):Int):=by have:=arE m.L m.W m.S m.k hk;grind[bp.word]
def UR(m:bp)(hk:m.k<256):bits .and .i32 (m.word:Int) 7=((m.L.toNat+2*m.W.toNat+4*m.S.toNat:Nat):Int):=by have:=arF m.L m.W m.S m.k hk;grind[bp.word]
def arL(m:bp)(hk:m.k<256):bits .or .i32 (m.word:Int) 1=(({m with L:=true}:bp).word:Int):=by have:=arG m.L m.W m.S m.k hk;grind[bp.word]
def UQ(m:bp)(hk:m.k<256):bits .or .i32 (m.word:Int) 2=(({m with W:=true}:bp).word:Int):=by have:=arH m.L m.W m.S m.k hk;grind[bp.word]
def arM(m:bp)(hk:m.k<256):bits .or .i32 (m.word:Int) 4=(({m with S:=true}:bp).word:Int):=by have:=arI m.L m.W m.S m.k hk;grind[bp.word]
def UN(m:bp)(hk:m.k<256):bits .andNot .i32 (m.word:Int) 2=(({m with W:=false}:bp).word:Int):=by have:=arJ m.L m.W m.S m.k hk;grind[bp.word]
def arN(m:bp)(hk:m.k<256):IntKind.wrap .i32 ((m.word:Int)+8)=(({m with k:=m.k+1}:bp).word:Int):=by grind[Bool.toNat_le,IntKind.wrap_i32,bp.word]
def arO(m:bp)(hk:m.k<256)(a:m.L=true):IntKind.wrap .i32 ((m.word:Int)+ -1)=(({m with L:=false}:bp).word:Int):=by grind[Bool.toNat_le,IntKind.wrap_i32,bp.word]
def arP(m:bp)(hk:m.k<256)(h0:0<m.k):IntKind.wrap .i32 ((m.word:Int)-8)=(({m with k:=m.k-1}:bp).word:Int):=by grind[Bool.toNat_le,IntKind.wrap_i32,bp.word]
def arQ(m:bp)(hk:m.k<256)(h0:0<m.k)(b:m.L=false)(hS:m.S=true)(clear:Bool):IntKind.wrap .i32 ((m.word:Int)+(if clear then -11 else -7))=(({m with L:=true,k:=m.k-1,S:= !clear}:bp).word:Int):=by have a:m.W.toNat<=1:=vau _;rw[IntKind.wrap_i32];unfold bp.word;grind
theorem KB(m:bp):(m.word:Int) / 8=(m.k:Int):=by grind[Bool.toNat_le,bp.word]
variable{cw it old:Int}{w:aH}
section
open RowKit Conc.Lib ConcR.Gen ConcM au bn
section
variable{A:e9}{Stop:Bool->ai.Lo A.ao->aX->Prop}{m:Bool}{mine:dY}
variable{a2:Frame}{aD:Act}{aB:fC}{aJ:Nat}{aL:uad}{aG:uaa}{csZ:fG}
def Behind(A:e9)(Stop:Bool->ai.Lo A.ao->aX->Prop)(m:Bool)(mine:dY)(a2:Frame)(aD:Act)(aB:fC)(aJ:Nat)(aL:uad)(aG:uaa)(csZ:fG)(f:Nat)(a:A.ao)(w:aH):Prop:=
 ∀w' aj,ak (am A) mine w w'->bf (am A) prog Stop m ⟨.own,true,0,f,a⟩ aj ⟨Conc.G (a2.at (aD.put ((aB[aJ]?).bind (·.dst)) (.tuple #[])) (.inRegion aB aL::aG)) csZ,w',mine⟩
def arR(G:A.Good){f:Nat}{a:A.ao}{γ:ai.aN A.aO}{sv aw:Bool}(n:bits .and .i32 old 5=0)(j:¬A.left a)(l:Behind A Stop m mine a2 aD aB aJ aL aG csZ f a w):
 wx A Stop m mine a2 aD aB aJ aL aG csZ ⟨.own,false,1,f+2,a⟩ γ cw sv aw it old true w:=by
 unfold wx;intros
 have hF:=ak.refl (am A) mine w;refine bb G ?_;simp only[f127,vae,dC,lr,dJ,kC,Nat.reduceBEq,vaf,↓reduceIte];repeat w_go ak.trans
 refine dU Y hF λc b i g d k h e hF=>?_;refine s7 G e LO (vbu .enable AQ Y Y Ag Y func72 rm rn rp rq) Y j (s5 (f1:=f+1) Kn _) AQ Y ?_;clear e h g b;refine bb G ?_;walk_nrm
 repeat w_go ak.trans
 refine dU Y hF λc b i g d k h e hF=>?_;refine l5 (GY Y Y Ag Y Y (l4 e.mt.1)) Y Y (.refl _) Y Y ?_;clear e h g b;refine bb G ?_;walk_nrm
 repeat w_go ak.trans
 refine dU Y hF λc b i g d k h e hF=>?_;refine SX G e (f1:=f) (vck .acquire AQ Y Y Ag Y func85 GR GU GV GX Bi) Y j Y Y Y Kn ?_;clear e h g b;refine bb G ?_;walk_nrm
 repeat w_go ak.trans
 u_leave0 func127 ak.trans hF
 repeat w_go ak.trans
 exact vag (λc b=>⟨Y,λi _=>l c i (ak.trans hF b)⟩)
end
end
open RowKit Conc.Lib ConcR.Gen ConcM au bn
def Ox(A:e9)(Stop:Bool->ai.Lo A.ao->aX->Prop)(m:Bool)(mine:dY)(a2:Frame)(aD:Act)(aB:fC)(aJ:Nat)(aL:uad)(aG:uaa)(csZ:fG)(l:ai.Lo A.ao)(γ:ai.aN A.aO)(cw:Int)(sv aw:Bool)(it old:Int)(w:aH):Prop:=
 ∀(dn tp fm eO fo fp fq ft rr ru fI fu fv fx i6 fy gr gt gu vZ v_ wa wb wd we wh wi wj wk wl wm wo wq wt wu wv ww zp zq zr zs zt zu zv zw zx zy zz zA zB zC zD zE zF zG zH zI zJ zK zL zM zN zO zP zQ zR zS zT zU zV zW Dy Dz DC DD zX zY zZ DF DG DH DI DJ DK DL DN DO DQ DR DS DT DU DV DW DX DY DZ D1 D2 D3 D4 D5 D6 D7 D8 D9 D_ Ea Eb Ec Ed Ee Ef Eg Eh Ei Ej Ek El Em En Eo Ep Er Es Et Eu Ev Ew Ex Ey Ez:Value),bf (am A) prog Stop m l γ ⟨Conc.G ((base 127).at ⟨#[.pointer (some (ai.fP A)),dn,.I cw,.bool sv,.bool aw,.I it,.int .i32 old,tp,fm,eO,fo,fp,fq,ft,rr,ru,fI,fu,fv,fx,i6,fy,gr,gt,gu,vZ,v_,wa,wb,wd,we,wh,wi,wj,wk,wl,wm,wo,wq,wt,wu,wv,ww,zp,zq,zr,zs,zt,zu,zv,zw,zx,zy,zz,zA,zB,zC,zD,zE,zF,zG,zH,zI,zJ,zK,zL,zM,zN,zO,zP,zQ,zR,zS,zT,zU,zV,zW,Dy,Dz,DC,DD,zX,zY,zZ,DF,DG,DH,DI,DJ,DK,DL,.pointer (some (ai.k_ A)),DN,DO,DQ,DR,DS,DT,DU,DV,DW,DX,DY,DZ,D1,D2,D3,D4,D5,D6,D7,D8,D9,D_,Ea,Eb,Ec,Ed,Ee,Ef,Eg,Eh,Ei,Ej,Ek,El,Em,En,Eo,Ep,Er,Es,Et,Eu,Ev,Ew,Ex,Ey,Ez],[]⟩ [.inRegion (mE ((dJ 27 ((dC (f127.body.getD .skip)).getD .skip)).getD .skip)) [4],.code (kC ((dJ 27 ((dC (f127.body.getD .skip)).getD .skip)).getD .skip)),.inBlock 1,.inLoop ((dC (f127.body.getD .skip)).getD .skip),.inBlock 0,.code ((lr (f127.body.getD .skip)).getD .skip)]) (a2.at aD (.inRegion aB (aJ::aL)::aG)::csZ),w,mine⟩
def Uz(A:e9)(Stop:Bool->ai.Lo A.ao->aX->Prop)(m:Bool)(mine:dY)(a2:Frame)(aD:Act)(aB:fC)(aJ:Nat)(aL:uad)(aG:uaa)(csZ:fG)(l:ai.Lo A.ao)(γ:ai.aN A.aO)(cw:Int)(sv aw:Bool)(it old:Int)(w:aH):Prop:=
 jQ [.code (kC ((dJ 27 ((dC (f127.body.getD .skip)).getD .skip)).getD .skip)),.inBlock 1,.inLoop ((dC (f127.body.getD .skip)).getD .skip),.inBlock 0,.code ((lr (f127.body.getD .skip)).getD .skip)] A Stop m mine a2 aD aB aJ aL aG csZ l γ cw sv aw it old w
section
variable{A:e9}{Stop:Bool->ai.Lo A.ao->aX->Prop}{m:Bool}{mine:dY}
variable{a2:Frame}{aD:Act}{aB:fC}{aJ:Nat}{aL:uad}{aG:uaa}{csZ:fG}
theorem arS(G:A.Good){l:ai.Lo A.ao}{γ:ai.aN A.aO}{sv aw:Bool}(e:∀w' c,(c=γ\/c.a6<γ.a6)->ak (am A) mine w w'->hH (am A) l c->qm A Stop m mine a2 aD aB aJ aL aG csZ l c cw sv aw it (c.mu.word:Int) w'):
 wx A Stop m mine a2 aD aB aJ aL aG csZ l γ cw sv aw it old false w:=by
 unfold wx;intros
 unfold qm jQ at e;have hF:=ak.refl (am A) mine w;refine bb G ?_;simp only[f127,vae,dC,lr,dJ,kC,Nat.reduceBEq,vaf,↓reduceIte]at e⊢;repeat w_go ak.trans
 refine dU Y hF λb a o h g f i d hF=>?_;have j:f=γ\/f.a6<γ.a6:=by
  rcases h with rfl|⟨q,_⟩<;>rcases i with rfl|⟨p,_⟩
  .simp_all
  .simp_all
  .simp_all
  omega
 have k:=d.sees;refine l5 (Bo Y Y Ag Y Y (l4 d.mt.1) Kw) Y Y (.refl _) Y Y ?_;clear d i h a;refine bb G ?_;walk_nrm
 repeat w_nl ak.trans
 u_c stepG_inLoop ak.trans hF
 exact vag (λb a=>⟨Y,λo n=>(e b f j (ak.trans hF a) k ..).k9 (c_ G) n⟩)
def arT(G:A.Good){l:ai.Lo A.ao}{γ:ai.aN A.aO}{sv aw:Bool}(t:(bits .and .i32 old 5==0)=false)(d:∀w' h j,(am A).dM l γ h->ak (am A) mine w w'->Ox A Stop m mine a2 aD aB aJ aL aG csZ l h j sv aw it old w'):
 wx A Stop m mine a2 aD aB aJ aL aG csZ l γ cw sv aw it old true w:=by
 unfold wx;intros
 unfold Ox at d;have hF:=ak.refl (am A) mine w;simp only[f127,vae,dC,lr,dJ,kC,mE,Nat.reduceBEq,vaf,↓reduceIte]at d⊢;by_cases k:cw=0
 .subst k;refine bb G ?_;repeat w_go ak.trans
  refine dU Y hF λc a e g b r i n hF=>?_;have o:=(c_ G).trans _ _ _ _ g i;refine l5 (stepG_nanotime Y Y Ag Y func147 VU VR VK VJ Vv) Y Y ⟨_,Y⟩ Y Y ?_;replace hF:=ak.trans hF (⟨λ_ _=>Y,vad _,⟨_,Y⟩,Y,Y⟩:ak (am A) mine b b.later);clear n i g a;generalize((b.os.mono+b.tick:Nat):Int)=s;refine bb G ?_;walk_nrm
  repeat w_go ak.trans
  exact vag (λc a=>⟨Y,λe f=>d c e _ ((c_ G).trans _ _ _ _ o f) (ak.trans hF a) ..⟩)
 .have p:(cw==0)=false:=by simp_all
  have q:(cw != 0)=true:=BR;refine bb G ?_;repeat w_go ak.trans
  exact vag (λc a=>⟨Y,λe f=>d c e _ f (ak.trans hF a) ..⟩)
end
def EB(A:e9)(Stop:Bool->ai.Lo A.ao->aX->Prop)(m:Bool)(mine:dY)(a2:Frame)(aD:Act)(aB:fC)(aJ:Nat)(aL:uad)(aG:uaa)(csZ:fG)(l:ai.Lo A.ao)(γ:ai.aN A.aO)(cw:Int)(sv aw:Bool)(it old:Int)(w:aH):Prop:=
 jQ [.code (kC ((dJ 29 ((dC (f127.body.getD .skip)).getD .skip)).getD .skip)),.inBlock 1,.inLoop ((dC (f127.body.getD .skip)).getD .skip),.inBlock 0,.code ((lr (f127.body.getD .skip)).getD .skip)] A Stop m mine a2 aD aB aJ aL aG csZ l γ cw sv aw it old w
section
variable{A:e9}{Stop:Bool->ai.Lo A.ao->aX->Prop}{m:Bool}{mine:dY}
variable{a2:Frame}{aD:Act}{aB:fC}{aJ:Nat}{aL:uad}{aG:uaa}{csZ:fG}
def Uy(G:A.Good){l:ai.Lo A.ao}{γ:ai.aN A.aO}{sv aw:Bool}(i:∀w' h q,(h=γ\/h.a6<γ.a6)->ak (am A) mine w w'->hH (am A) l h->EB A Stop m mine a2 aD aB aJ aL aG csZ l h cw q aw it (h.mu.word:Int) w'):
 Uz A Stop m mine a2 aD aB aJ aL aG csZ l γ cw sv aw it old w:=by
 unfold Uz jQ;intros
 unfold EB jQ at i;have hF:=ak.refl (am A) mine w;simp only[f127,vae,dC,lr,dJ,kC,Nat.reduceBEq,vaf,↓reduceIte]at i⊢;cases sv with
 |true=>
  refine bb G ?_;repeat w_go ak.trans
  refine dU Y hF λb a j e c p f d hF=>?_;have k:=(c_ G).less _ _ _ ((c_ G).trans _ _ _ _ e f);have n:=d.sees;refine l5 (Bo Y Y Ag Y Y (l4 d.mt.1) Kw) Y Y (.refl _) Y Y ?_;clear d f e a;refine bb G ?_;walk_nrm
  u_op ak.trans hF
  u_c vdh ak.trans hF
  exact vag (λb a=>⟨Y,λj g=>(i b p _ k (ak.trans hF a) n ..).k9 (c_ G) g⟩)
 |false=>
  refine bb G ?_;repeat w_go ak.trans
  refine dU Y hF λb a j e c p f d hF=>?_;have g:=(c_ G).trans _ _ _ _ e f;refine l5 (stepG_nanotime Y Y Ag Y func147 VU VR VK VJ Vv) Y Y ⟨_,Y⟩ Y Y ?_;replace hF:=ak.trans hF (⟨λ_ _=>Y,vad _,⟨_,Y⟩,Y,Y⟩:ak (am A) mine c c.later);clear d f e a;generalize((c.os.mono+c.tick:Nat):Int)=s;refine bb G ?_;walk_nrm
  repeat w_go ak.trans
  refine dU Y hF λb a j e o r f d hF=>?_;have k:=(c_ G).less _ _ _ ((c_ G).trans _ _ _ _ g ((c_ G).trans _ _ _ _ e f));have n:=d.sees;refine l5 (Bo Y Y Ag Y Y (l4 d.mt.1) Kw) Y Y (.refl _) Y Y ?_;clear d f e a;refine bb G ?_;walk_nrm
  u_op ak.trans hF
  u_c vdh ak.trans hF
  exact vag (λb a=>⟨Y,λj g=>(i b r _ k (ak.trans hF a) n ..).k9 (c_ G) g⟩)
def arU(G:A.Good){l:ai.Lo A.ao}{γ:ai.aN A.aO}{sv aw:Bool}(e:bits .and .i32 old 4=0)(c:∀w',ak (am A) mine w w'->qm A Stop m mine a2 aD aB aJ aL aG csZ l γ cw sv true 0 old w'):
 EB A Stop m mine a2 aD aB aJ aL aG csZ l γ cw sv aw it old w:=by
 unfold EB jQ;intros
 unfold qm jQ at c;have hF:=ak.refl (am A) mine w;simp only[f127,vae,dC,lr,dJ,kC,Nat.reduceBEq,vaf,↓reduceIte]at c⊢;refine bb G ?_;repeat w_nl ak.trans
 u_c stepG_inLoop ak.trans hF
 exact vag (λa b=>⟨Y,λf d=>(c a (ak.trans hF b) ..).k9 (c_ G) d⟩)
