import Derived.Test.YtoehnnefaeoeoaaGreatP01
import Derived.Conc.MuWords
import Derived.Test.YtoehnnefaeoeoaaGreatProg
import Derived.Test.YtoehnnefaeoeoaaGreatPAC
set_option linter.all false
set_option maxRecDepth 100000
set_option maxHeartbeats 16000000
namespace Go.Proofs.YtoehnnefaeoeoaaGreat
open Go.Proofs.Tryz
namespace bu
open Conc ConcM ConcN az
section
section
variable {Z:fG} {Q:Program} {Stop:Bool->Z.av->a6->Prop} {m:Bool} {l:Z.av} {γ:Z.aT}
theorem A_{mine:Nat->Prop}:∀(es:List Event)(d:Nat),(∀e∈es,∀d,we Z l mine d e)->qs Z l mine d es
 | [],_,_=>trivial
 |e::es,d,h=>⟨h e Aa d,A_ es _ AU⟩
def tf(X:a6)(fr:Nat->Prop):a6:=⟨X.g,X.w,fun b=>X.mine b\/fr b⟩
end
end
end bu
namespace ab
open Conc ConcM az bu
structure av(ar:Type) where
 bB:bP
 cD:Bool
 deaf:Nat
 fuel:Nat
 am:ar
structure aT(aQ:Type) where
 aC:bk
 be:Nat
 am:aQ
structure e_ where
 ar:Type
 aQ:Type
 F2:aQ->List ar->Prop
 zN:aQ->Nat
 Dc:Bool->ar->aQ->aQ->Prop
 Rp:ar->aQ->Prop
 left:ar->Prop
 past:ar->Bool
 zero:ar->Prop
 st:Nat
 ty:TypeId
 cells:aQ->Array Value
 pz:aQ->World->Prop
 Dd:Nat->Prop
 hU:Loc->Prop
 fk:Loc->Prop
 K:Nat->Prop
 wg:Addr
 d4:Nat
structure e_.Good(A:e_):Prop where
 refl:∀o a b,A.Dc o a b b
 trans:∀o a b c d,A.Dc o a b c->A.Dc o a c d->A.Dc o a b d
 Rq:∀b w w',(∀k,A.Dd k->w'.heap[k]?=w.heap[k]?)->A.pz b w->A.pz b w'
 Ms:¬A.Dd A.st
 og:∀b,A.K b->b≠A.st/\¬A.Dd b
 pq:∀b aDb,A.F2 b aDb->∃(j:Nat)(a:A.ar),aDb[j]?=some a/\¬A.left a/\¬A.Rp a b
 zero:∀b(aDb:List A.ar)(j:Nat) a,A.F2 b aDb->aDb[j]?=some a->A.zero a->j=0
 hU:∀l,A.hU l->(∃off sp,l=.cell ⟨A.st,off,sp⟩/\2<=off)\/∃b,fF l=some b/\A.Dd b
 fk:∀l,A.fk l->∃b,fF l=some b/\A.Dd b
 wa:∀l,A.hU l->¬A.fk l
def YL:bP->Bool| .own=>true| _=>false
def fI(A:e_):Addr:=⟨A.st,0,none⟩
def k7(A:e_):Addr:=⟨A.st,1,none⟩
def ic(A:e_)(m:bk)(b:A.aQ):Obj:=.cells (#[.int .i32 (m.word:Int),.int .u32 (m.sema:Int)]++A.cells b) A.ty
structure u_(A:e_)(γ:aT A.aQ)(aU:List (av A.ar)):Prop where
 lC:du γ.aC (aU.map (·.bB))
 qw:A.F2 γ.am (aU.map (·.am))
 dO:(aU.map (·.fuel)).sum+2*tg γ.aC (aU.map (·.bB))+A.zN γ.am<=γ.be
 a2:∀(i:Nat)(l:av A.ar),aU[i]?=some l->l.cD=true->l.bB=.own
 IJ:∀(i:Nat)(l:av A.ar),aU[i]?=some l->A.left l.am->l.bB=.idle
 len:aU.length<=A.d4
abbrev ah(A:e_):fG where
 av:=av A.ar
 aT:=aT A.aQ
 be:=fun γ=>γ.be
 sk:=u_ A
 dN:=fun l γ ae=>ae=γ\/(ae.be<γ.be/\A.Dc (YL l.bB) l.am γ.am ae.am/\zM l.bB γ.aC ae.aC)
 K:=A.K
 hV:=fun b=>b=A.st\/A.Dd b
 wb:=fun γ w=>w.heap[A.st]?=some (ic A γ.aC γ.am)/\A.pz γ.am w
 cD:=fun l=>l.cD
 deaf:=fun l=>l.deaf
 past:=fun l=>A.past l.am
 Left:=fun l=>A.left l.am
 zero:=fun l=>A.zero l.am
 py:=fun l γ=>(l.bB=.j7/\γ.aC.sema=0)\/(l.bB=.idle/\A.Rp l.am γ.am)
 hU:=A.hU
 fk:=fun l=>l=.cell (fI A)\/l=.cell (k7 A)\/A.fk l
 aC:=fI A
 wg:=A.wg
 qr:=fun _ _ _=>False
theorem Mt:∀(l:List Nat)(i x:Nat),l[i]?=some x->x<=l.sum
 |a::l,0,x,h=>AU
 |a::l,i+1,x,h=>by have:=Mt l i x AU;grind
theorem Ba{A:e_}{aU:List (av A.ar)}{i:Nat}{l:av A.ar}(h:aU[i]?=some l):(aU.map (·.bB))[i]?=some l.bB:=by grind
theorem Rr{ar aQ:Type}(f:ar->aQ){aU:List ar}{i:Nat}{l l1:ar}(h:aU[i]?=some l)(a:f l1=f l):(aU.set i l1).map f=aU.map f:=by apply List.ext_getElem?;grind
theorem aN{A:e_}(G:A.Good):(ah A).Good where
 refl:=AU
 trans:=by
  rintro l a b c (rfl|⟨f,d,u⟩) (rfl|⟨z,x,v⟩)
  ·grind
  ·grind
  ·grind
  ·exact .inr ⟨AU,G.trans _ _ _ _ _ d x,u.trans v⟩
 mq:=by grind
 mt:=fun γ w w' g⟨f,d⟩=>⟨AU,G.Rq _ w w' AU d⟩
 og:=fun b n g=>g.elim (G.og b n).1 (G.og b n).2
 one:=fun γ aU i j a b h hi m t n=>by have f:=h.a2 i a hi t;have d:=h.a2 j b m n;exact h.lC.YI AU AU
 pq:=fun γ aU h=>by
  obtain⟨j,a,m,hl,B⟩:=G.pq _ _ h.qw;rw[List.getElem?_map]at m;obtain⟨l,C,rfl⟩:=Option.map_eq_some_iff.1 m;by_cases s:l.bB=.j7/\γ.aC.sema=0
  ·obtain⟨k,y,o,f,d⟩:=h.lC.Rm s.2 (i:=j) AU;rw[List.getElem?_map]at o;obtain⟨p,q,rfl⟩:=Option.map_eq_some_iff.1 o;exact⟨k,p,q,fun e=>f (h.IJ k p q e),AU⟩
  grind
 zero:=fun γ aU j l h m r=>G.zero _ _ j l.am h.qw AU r
 FW:=fun l h=>by
  rcases G.hU l h with⟨off,sp,rfl,_⟩|⟨b,f,d⟩
  ·exact⟨A.st,rfl,.inl rfl⟩
  grind
 C1:=fun l h=>by
  rcases h with rfl|rfl|h
  ·exact⟨A.st,rfl,.inl rfl⟩
  ·exact⟨A.st,rfl,.inl rfl⟩
  ·obtain⟨b,f,d⟩:=G.fk l h;grind
 wa:=fun l h g=>by
  rcases g with rfl|rfl|g
  ·rcases G.hU _ h with⟨off,sp,e,d⟩|⟨b,f,d⟩
   ·grind[fI]
   ·simp[fF,fI]at f;subst f;exact G.Ms d
  ·rcases G.hU _ h with⟨off,sp,e,d⟩|⟨b,f,d⟩
   ·grind[k7]
   ·simp[fF,k7]at f;subst f;exact G.Ms d
  ·exact G.wa l h g
theorem IL{A:e_}(G:A.Good){l:av A.ar}{γ:aT A.aQ}(m:hX (ah A) l γ){y:bP}{m1:bk}{f1 d1:Nat}{nC:Bool}(h:l2 l.bB y γ.aC m1 l.fuel f1)(ht:nC=true->y=.own)(hl:¬A.left l.am\/y=.idle):
 C3 (ah A) l γ ({bB:=y,cD:=nC,deaf:=d1,fuel:=f1,am:=l.am}:av A.ar) ({aC:=m1,be:=γ.be-1,am:=γ.am}:aT A.aQ):=by
 have key:∀(aU:List (av A.ar))(i:Nat),aU[i]?=some l->u_ A γ aU->(aU.map (·.fuel)).sum+f1=((aU.set i ({bB:=y,cD:=nC,deaf:=d1,fuel:=f1,am:=l.am}:av A.ar)).map (·.fuel)).sum+l.fuel/\1<=γ.be/\
  ((aU.set i ({bB:=y,cD:=nC,deaf:=d1,fuel:=f1,am:=l.am}:av A.ar)).map (·.fuel)).sum+2*tg m1 ((aU.map (·.bB)).set i y)+A.zN γ.am<=γ.be-1:=by
  intro aU i hi a;have c:i<aU.length:=(List.getElem?_eq_some_iff.1 hi).1;have s:=(List.getElem?_eq_some_iff.1 hi).2;have e:=FY (aU.map (·.fuel)) i f1 AU;have n:(aU.set i ({bB:=y,cD:=nC,deaf:=d1,fuel:=f1,am:=l.am}:av A.ar)).map (·.fuel)=(aU.map (·.fuel)).set i f1:=Bp;rw[n];have o:(aU.map (·.fuel))[i]'AU=l.fuel:=AU;rw[o]at e;have t:=h.fuel _ i (Ba hi) a.lC;have w:=Mt (aU.map (·.fuel)) i l.fuel AU;have:=a.dO;omega
 refine⟨?_,fun aU i hi a=>?_⟩
 ·obtain⟨aU,i,hi,a⟩:=m;grind
 ·obtain⟨_,v,u⟩:=key aU i hi a;have r:(aU.set i ({bB:=y,cD:=nC,deaf:=d1,fuel:=f1,am:=l.am}:av A.ar)).map (·.bB)=(aU.map (·.bB)).set i y:=Bp;have q:(aU.set i ({bB:=y,cD:=nC,deaf:=d1,fuel:=f1,am:=l.am}:av A.ar)).map (·.am)=aU.map (·.am):=Rr _ hi rfl;have c:i<aU.length:=(List.getElem?_eq_some_iff.1 hi).1;refine⟨⟨by rw[r];exact h.Fs _ i (Ba hi) a.lC,by rw[q];exact a.qw,AU,fun j g b d=>?_,fun j g b d=>?_,by rw[List.length_set];exact a.len⟩,fun j k b p=>.inr ⟨AU,G.refl _ _ _,h.k5 _ i j k.bB a.lC (Ba hi) b (Ba p)⟩⟩
  ·by_cases f:j=i
   ·grind
   ·rw[List.getElem?_set_ne (Ne.symm f)]at b;exact a.a2 j g b d
  ·by_cases f:j=i
   ·grind
   ·rw[List.getElem?_set_ne (Ne.symm f)]at b;exact a.IJ j g b d
end ab
namespace ab
open Conc az bu
structure U(Z:fG)(mine:Nat->Prop)(w w1:World):Prop where
 heap:∀b,Z.K b\/mine b->w1.heap[b]?=w.heap[b]?
 size:w.heap.size<=w1.heap.size
 later:Go.ConcM.OsLater w.os w1.os
 output:w1.output=w.output
 tape:w1.tape=w.tape
theorem U.refl(Z:fG)(mine:Nat->Prop)(w:World):U Z mine w w:=⟨fun _ _=>rfl,Nat.le_refl _,.refl _,rfl,rfl⟩
theorem U.trans{Z:fG}{mine:Nat->Prop}{a b c:World}(h:U Z mine a b)(k:U Z mine b c):U Z mine a c:=
 ⟨fun x d=>(k.heap x d).trans (h.heap x d),Nat.le_trans h.size k.size,h.later.trans k.later,k.output.trans h.output,k.tape.trans h.tape⟩
theorem lD{mine:Nat->Prop}{w w1:World}(h:w1.heap.size=w.heap.size):grown mine w w1=mine:=by grind[grown]
section
variable {Z:fG} {Q:Program} {Stop:Bool->Z.av->a6->Prop} {m:Bool} {l:Z.av}
theorem dX.rw{γ:Z.aT}{X:a6}{w':World}(h:dX Z l γ X w'):U Z X.mine X.w w':=⟨h.rely.heap,h.rely.size,h.later,h.output,h.tape⟩
theorem ak4{mine:Nat->Prop}{D:World->World->Array Event->Prop}{S:Goroutine->World->Prop}:∀{n:Nat}{g:Goroutine}{w:World},Goes Q m (U Z mine) D (fun g w=>g.status=.running/\S g w) n g w->g.status=.running
 |0,_,w,h=>(h w (.refl _ _ _)).1
 | _+1,_,w,h=>h.elim (fun h=>(h w (.refl _ _ _)).1) (fun h=>h.1)
theorem dj{mine:Nat->Prop}{X:Z.aT->Prop}{n:Nat}{g:Goroutine}{w0 w:World}(e:g.status=.running)(hF:U Z mine w0 w)(h:∀c,U Z mine w c->∀d,X d->∀b a,Z.dN l d a->dX Z l a ⟨g,c,mine⟩ b->U Z mine w0 b->iq Q Stop m l a ⟨g,c,mine⟩ b):
 Goes Q m (U Z mine) Go.ConcR.DC0 (fun g w=>g.status=.running/\∀j,X j->bh Z Q Stop m l j ⟨g,w,mine⟩) n g w:=
 Goes.stop fun c i=>⟨e,fun d o=>bh.mk e fun b a k f=>h c i d o b a k f ((hF.trans i).trans (dX.rw f))⟩
theorem a5(G:Z.Good)(f:∀g g1,¬Z.qr l g g1){mine:Nat->Prop}{γ:Z.aT}:∀(n:Nat)(g:Goroutine)(w:World)(bA:Z.aT),Z.dN l γ bA->
 Goes Q m (U Z mine) Go.ConcR.DC0 (fun g w=>g.status=.running/\∀b,Z.dN l γ b->bh Z Q Stop m l b ⟨g,w,mine⟩) n g w->bh Z Q Stop m l bA ⟨g,w,mine⟩
 |0,g,w,bA,c,h=>(h w (.refl _ _ _)).2 bA c
 |n+1,g,w,bA,c,h=>by
  rcases h with h|⟨i,h⟩
  ·exact(h w (.refl _ _ _)).2 bA c
  ·refine bh.mk i fun w' b o j=>?_;have:=h w' (dX.rw j);cases a:stepG Q m g w' with
   |go g1 w1 es=>
    rw[a]at this;obtain⟨⟨rfl,rfl⟩,d⟩:=this;have k:grown mine w1 w1=mine:=lD rfl;refine .quiet a ⟨?_,⟨AU,Nat.le_refl _,.refl _,rfl,rfl⟩,fun _ _ _=>rfl,trivial,?_⟩ ?_
    ·exact ak4 d
    ·rintro(⟨e,p,_⟩|h)
     ·grind
     grind
    ·show bh Z Q Stop m l b ⟨g1,w1,grown mine w1 w1⟩;rw[k];exact a5 G f n g1 w1 b (G.trans _ _ _ _ c o) d
   | _=>rw[a]at this;exact this.elim
end
variable {aC m1:bk}{g1:Goroutine}{f1:Nat}
section
variable {A:e_} {Q:Program} {Stop:Bool->av A.ar->a6->Prop} {m:Bool} {l:av A.ar} {γ:aT A.aQ} {X:a6} {w':World}
theorem ks{b:A.aQ}{w:World}(h:w.heap[A.st]?=some (ic A aC b)):w.cell? (fI A)=some (.int .i32 (aC.word:Int)):=by simp[World.cell?,fI,h,ic];grind
theorem IN{b:A.aQ}{w:World}(h:w.heap[A.st]?=some (ic A aC b)):w.cell? (k7 A)=some (.int .u32 (aC.sema:Int)):=by simp[World.cell?,k7,h,ic];grind
theorem pA{b:A.aQ}{w:World}(h:w.heap[A.st]?=some (ic A aC b))(off:Nat)(sp):w.frozen? ⟨A.st,off,sp⟩=false:=by simp[World.frozen?,h,ic]
theorem mw(w:World)(a:Addr)(v:Value){b:Nat}(c:b≠a.block):(w.setCell a v).heap[b]?=w.heap[b]?:=by simp[World.setCell,Array.getElem?_modify,Ne.symm c]
theorem oh(w:World)(a:Addr)(v:Value):(w.setCell a v).heap.size=w.heap.size:=by simp_all
theorem ak5{b:A.aQ}{w:World}(h:w.heap[A.st]?=some (ic A aC b))(a:m1.sema=aC.sema):(w.setCell (fI A) (.int .i32 (m1.word:Int))).heap[A.st]?=some (ic A m1 b):=by unfold World.setCell;simp_all[fI,Array.getElem?_modify,ic]
theorem ak6{b:A.aQ}{w:World}(h:w.heap[A.st]?=some (ic A aC b))(a:m1.word=aC.word):(w.setCell (k7 A) (.int .u32 (m1.sema:Int))).heap[A.st]?=some (ic A m1 b):=by unfold World.setCell;simp_all[k7,Array.getElem?_modify,ic]
theorem YM(G:A.Good){b:A.aQ}{w:World}(h:A.pz b w)(off:Nat)(sp)(v:Value):A.pz b (w.setCell ⟨A.st,off,sp⟩ v):=
 G.Rq b w _ (fun k a=>mw w _ v (fun e=>G.Ms AU)) h
theorem YN{mine:Nat->Prop}(w:World)(off:Nat)(sp)(v:Value):lB (ah A) mine w (w.setCell ⟨A.st,off,sp⟩ v):=
 ⟨fun b _ _ a=>mw w _ v AU,Bp,.refl _,rfl,rfl⟩
theorem tT(Z:fG)(mine:Nat->Prop)(w:World):lB Z mine w w:=⟨AU,Nat.le_refl _,.refl _,rfl,rfl⟩
theorem ak7(G:A.Good)(a:dX (ah A) l γ X w'){y:bP}
 (c:stepG Q m X.g w'=.go g1 (w'.setCell (fI A) (.int .i32 (m1.word:Int))) #[⟨.cell (fI A),false,true⟩,⟨.cell (fI A),true,true⟩]) (hrun:g1.status=.running) (hd:0<l.deaf) (d:m1.sema=γ.aC.sema) (hl:¬A.left l.am)
 (ht:l2 l.bB y γ.aC m1 l.fuel f1) (b:l.cD=true->y=.own) (h:bh (ah A) Q Stop m ({l with bB:=y,fuel:=f1}:av A.ar) ({γ with aC:=m1,be:=γ.be-1}:aT A.aQ) ⟨g1,w'.setCell (fI A) (.int .i32 (m1.word:Int)),X.mine⟩):
 iq (Z:=ah A) Q Stop m l γ X w':=by
 have g:grown X.mine w' (w'.setCell (fI A) (.int .i32 (m1.word:Int)))=X.mine:=lD (oh _ _ _);refine .turn (l1:=({l with bB:=y,fuel:=f1}:av A.ar)) (bA:=({γ with aC:=m1,be:=γ.be-1}:aT A.aQ)) c ⟨hrun,.inl ⟨⟨.cell (fI A),true,true⟩,Aa,.inr (.inr (.inr (.inr ⟨rfl,A.st,rfl,.inl rfl⟩)))⟩,YN w' 0 none _,⟨ak5 a.mt.1 d,YM G a.mt.2 _ _ _⟩,
  IL (d1:=l.deaf) (nC:=l.cD) G a.sees ht b (.inl hl),.inl ⟨rfl,rfl,rfl,?_⟩,.inr fun e f=>?_⟩ AU ?_
 ·exact⟨.inr AU,.inr ⟨rfl,.inl rfl,hd⟩,trivial⟩
 ·grind
 grind
theorem ak8(G:A.Good)(a:dX (ah A) l γ X w'){y:bP}
 (d:stepG Q m X.g w'=.go g1 (w'.setCell (k7 A) (.int .u32 (m1.sema:Int))) (semEvents (k7 A))) (hrun:g1.status=.running) (e:m1.word=γ.aC.word) (hl:¬A.left l.am)
 (ht:l2 l.bB y γ.aC m1 l.fuel f1) (c:l.cD=true->y=.own) (b:mayWake Q X.g=true\/0<γ.aC.sema)
 (h:bh (ah A) Q Stop m ({l with bB:=y,fuel:=f1}:av A.ar) ({γ with aC:=m1,be:=γ.be-1}:aT A.aQ) ⟨g1,w'.setCell (k7 A) (.int .u32 (m1.sema:Int)),X.mine⟩):iq (Z:=ah A) Q Stop m l γ X w':=by
 have i:grown X.mine w' (w'.setCell (k7 A) (.int .u32 (m1.sema:Int)))=X.mine:=lD (oh _ _ _);refine .turn (l1:=({l with bB:=y,fuel:=f1}:av A.ar)) (bA:=({γ with aC:=m1,be:=γ.be-1}:aT A.aQ)) d ⟨hrun,.inl ⟨⟨.cell (k7 A),true,true⟩,by simp[semEvents],.inr (.inr (.inr (.inr ⟨rfl,A.st,rfl,.inl rfl⟩)))⟩,YN w' 1 none _,⟨ak6 a.mt.1 e,YM G a.mt.2 _ _ _⟩,
  IL (d1:=l.deaf) (nC:=l.cD) G a.sees ht c (.inl hl),.inl ⟨rfl,rfl,?_,?_⟩,b.imp id fun j f g=>?_⟩ AU ?_
 ·grind[deafBehind,semEvents]
 ·exact⟨.inl trivial,.inr ⟨rfl,.inr Jt,IQ⟩,.inr ⟨rfl,.inr Jt,IQ⟩,.inl trivial,trivial⟩
 ·grind
 grind
theorem sq(G:A.Good)(b:dX (ah A) l γ X w'){mk:Mark}(a:mk=.disable\/mk=.enable){y:bP}(d:stepG Q m X.g w'=.go g1 w' #[⟨.mark mk,false,true⟩])(hrun:g1.status=.running)(hl:¬A.left l.am)
 (ht:l2 l.bB y γ.aC γ.aC l.fuel f1) (c:l.cD=true->y=.own) {d1:Nat} (hd:d1=deafBehind l.deaf #[⟨.mark mk,false,true⟩])
 (h:bh (ah A) Q Stop m ({l with bB:=y,fuel:=f1,deaf:=d1}:av A.ar) ({γ with be:=γ.be-1}:aT A.aQ) ⟨g1,w',X.mine⟩):iq (Z:=ah A) Q Stop m l γ X w':=by
 refine .turn (l1:=({l with bB:=y,fuel:=f1,deaf:=d1}:av A.ar)) (bA:=({γ with be:=γ.be-1}:aT A.aQ)) d ⟨hrun,.inl ⟨⟨.mark mk,false,true⟩,Aa,a.elim (fun e=>.inl (by rw[e])) (fun e=>.inr AU)⟩,tT _ _ _,b.mt,
  IL (d1:=d1) (nC:=l.cD) G b.sees ht c (.inl hl),.inl ⟨rfl,rfl,hd,.inl ?_,trivial⟩,AU⟩ AU ?_
 ·rcases a with rfl|rfl<;>trivial
 grind[lD]
theorem IP(G:A.Good)(b:dX (ah A) l γ X w')(c:stepG Q m X.g w'=.go g1 w' #[⟨.mark (.acquire (fI A)),false,true⟩])(hrun:g1.status=.running)(hl:¬A.left l.am)(a:l.bB=.own)(ht:l.cD=false)(hd:l.deaf=0)(d:f1<l.fuel)
 (h:bh (ah A) Q Stop m ({l with fuel:=f1,cD:=true}:av A.ar) ({γ with be:=γ.be-1}:aT A.aQ) ⟨g1,w',X.mine⟩):iq (Z:=ah A) Q Stop m l γ X w':=by
 refine .turn (l1:=({l with fuel:=f1,cD:=true}:av A.ar)) (bA:=({γ with be:=γ.be-1}:aT A.aQ)) c ⟨hrun,.inl ⟨⟨.mark (.acquire (fI A)),false,true⟩,Aa,.inr AU⟩,tT _ _ _,b.mt,
  IL (d1:=l.deaf) (nC:=true) G b.sees (sn d l.bB) (fun _=>a) (.inl hl),.inr (.inl ⟨rfl,hd,hd,ht,rfl,rfl⟩),AU⟩ AU ?_
 grind[lD]
theorem ak9(G:A.Good)(a:dX (ah A) l γ X w')(b:stepG Q m X.g w'=.go g1 w' #[⟨.mark (.releaseMerge (fI A)),false,true⟩])(hrun:g1.status=.running)(hl:¬A.left l.am)(ht:l.cD=true)(hd:l.deaf=0)(c:f1<l.fuel)
 (h:bh (ah A) Q Stop m ({l with fuel:=f1,cD:=false}:av A.ar) ({γ with be:=γ.be-1}:aT A.aQ) ⟨g1,w',X.mine⟩):iq (Z:=ah A) Q Stop m l γ X w':=by
 refine .turn (l1:=({l with fuel:=f1,cD:=false}:av A.ar)) (bA:=({γ with be:=γ.be-1}:aT A.aQ)) b ⟨hrun,.inl ⟨⟨.mark (.releaseMerge (fI A)),false,true⟩,Aa,.inr AU⟩,tT _ _ _,a.mt,
  IL (d1:=l.deaf) (nC:=false) G a.sees (sn c l.bB) AU (.inl hl),.inr (.inr (.inl ⟨rfl,hd,hd,ht,rfl,rfl⟩)),AU⟩ AU ?_
 grind[lD]
theorem k8{w1:World}(a:stepG Q m X.g w'=.go g1 w1 #[])(hrun:g1.status=.running)(f:w1.heap=w'.heap)(b:Go.ConcM.OsLater w'.os w1.os)(c:w1.output=w'.output)(ht:w1.tape=w'.tape)
 (h:bh (ah A) Q Stop m l γ ⟨g1,w1,X.mine⟩):iq (Z:=ah A) Q Stop m l γ X w':=by
 refine .quiet a ⟨hrun,⟨AU,AU,b,c,ht⟩,AU,trivial,?_⟩ ?_
 ·rintro(⟨e,d,_⟩|h)
  ·grind
  grind
 grind[lD]
theorem Mw(c:stepG Q m X.g w'=.go g1 w' #[⟨.cell (fI A),false,true⟩])(hrun:g1.status=.running)(hd:0<l.deaf)(h:bh (ah A) Q Stop m l γ ⟨g1,w',X.mine⟩):iq (Z:=ah A) Q Stop m l γ X w':=by
 refine .quiet c ⟨hrun,tT _ _ _,fun _ _ _=>rfl,⟨.inr AU,trivial⟩,?_⟩ ?_
 ·rintro(⟨e,a,b⟩|h)
  ·simp at a;subst a;rcases b with h|h|⟨_,h⟩|⟨_,h⟩|⟨h,_⟩<;>cases h
  grind
 grind[lD]
end
end ab
namespace gb
open Conc az bu ab
structure dT where
 st:Nat
 bG:Nat
 wg:Nat
 MF:TypeId
 F6:TypeId
 tWg:TypeId
 N:Nat
 rows:Nat->Nat
 size:Value
 Bg:Value
 zQ:Value
 MG:Value
 K:Nat->Prop
 d4:Nat
 C:Nat
 fy:st≠wg/\st≠bG/\wg≠bG
 Bh:∀b,K b->b≠st/\b≠wg/\b≠bG
def Bi:aV->Prop
 | .main _=>True
 | _=>False
def ku:aV->Bool
 | .aR .rel _ | .aR .n8 _ | .aR .lb _ | .gone _ | .old=>true
 | _=>false
def vd(c:dT)(b:cF):Obj:=.cells #[.int .u64 ((b.a0*4294967296+b.eg.toNat:Nat):Int),.int .u32 (b.gP:Int)] c.tWg
def F7(c:dT)(b:cF):Obj:=.cells b.done.toArray c.F6
abbrev aE(c:dT):e_ where
 ar:=aV
 aQ:=cF
 F2:=dc c.N c.rows
 zN:=fun b=>c.C*(c.N-b.taken)
 Dc:=fun o a b aD=>(o=true->aD.taken=b.taken/\aD.came=b.came/\aD.done=b.done)/\b.taken<=aD.taken/\(Bi a->aD.a0<=b.a0)
 Rp:=ME
 left:=tp
 past:=ku
 zero:=Bi
 st:=c.st
 ty:=c.MF
 cells:=fun b=>#[c.size,c.Bg,.int .i64 (b.taken:Int),.int .i64 (b.came:Int),c.zQ,c.MG]
 pz:=fun b w=>w.heap[c.wg]?=some (vd c b)/\(True->w.heap[c.bG]?=some (F7 c b))
 Dd:=fun k=>k=c.wg\/k=c.bG
 hU:=fun l=>(∃off sp,l=.cell ⟨c.st,off,sp⟩/\2<=off)\/fF l=some c.bG
 fk:=fun l=>l=.cell ⟨c.wg,0,none⟩\/l=.cell ⟨c.wg,1,none⟩
 K:=c.K
 wg:=⟨c.wg,0,none⟩
 d4:=c.d4
theorem bR(c:dT):(aE c).Good where
 refl:=AU
 trans:=AU
 Rq:=AU
 Ms:=fun h=>h.elim c.fy.1 c.fy.2.1
 og:=fun b d=>⟨(c.Bh b d).1,fun h=>h.elim (c.Bh b d).2.1 (c.Bh b d).2.2⟩
 pq:=fun b aDb h=>h.Rm
 zero:=fun b aDb j a h g e=>by cases a with|main s=>exact h.only j s g| _=>exact e.elim
 hU:=AU
 fk:=fun l h=>by rcases h with rfl|rfl<;>exact⟨c.wg,rfl,.inl rfl⟩
 wa:=fun l h f=>by
  rcases h with⟨off,sp,rfl,_⟩|h
  ·grind
  ·rcases f with rfl|rfl<;>simp[fF]at h<;>exact c.fy.2.2 h
theorem YZ{A:e_}(G:A.Good){l:ab.av A.ar}{γ:ab.aT A.aQ}(r:hX (ah A) l γ){a1:A.ar}{b1:A.aQ}{f1 d1:Nat}{nC:Bool}(p:∀(aDb:List A.ar)(i:Nat),aDb[i]?=some l.am->A.F2 γ.am aDb->A.F2 b1 (aDb.set i a1))(C:f1+A.zN b1+1<=l.fuel+A.zN γ.am)
 (h:∀(o:Bool)(a':A.ar),(l.bB=.own->o=false)->(A.zero l.am->¬A.zero a')->A.Dc o a' γ.am b1) (x:A.left a1->l.bB=.idle) (w:nC=true->l.bB=.own):
 C3 (ah A) l γ ({bB:=l.bB,cD:=nC,deaf:=d1,fuel:=f1,am:=a1}:ab.av A.ar) ({aC:=γ.aC,be:=γ.be-1,am:=b1}:ab.aT A.aQ):=by
 have key:∀(aU:List (ab.av A.ar))(i:Nat),aU[i]?=some l->u_ A γ aU->1<=γ.be/\((aU.set i ({bB:=l.bB,cD:=nC,deaf:=d1,fuel:=f1,am:=a1}:ab.av A.ar)).map (·.fuel)).sum+2*tg γ.aC (aU.map (·.bB))+A.zN b1<=γ.be-1:=by intro aU i hi a;have c:i<aU.length:=(List.getElem?_eq_some_iff.1 hi).1;have z:=(List.getElem?_eq_some_iff.1 hi).2;have e:=FY (aU.map (·.fuel)) i f1 AU;have s:(aU.set i ({bB:=l.bB,cD:=nC,deaf:=d1,fuel:=f1,am:=a1}:ab.av A.ar)).map (·.fuel)=(aU.map (·.fuel)).set i f1:=Bp;rw[s];have t:(aU.map (·.fuel))[i]'AU=l.fuel:=AU;rw[t]at e;have I:=Mt (aU.map (·.fuel)) i l.fuel AU;have:=a.dO;omega
 refine⟨?_,fun aU i hi a=>?_⟩
 ·obtain⟨aU,i,hi,a⟩:=r;grind
 ·obtain⟨H,F⟩:=key aU i hi a;have v:(aU.set i ({bB:=l.bB,cD:=nC,deaf:=d1,fuel:=f1,am:=a1}:ab.av A.ar)).map (·.bB)=aU.map (·.bB):=Rr _ hi rfl;have u:(aU.set i ({bB:=l.bB,cD:=nC,deaf:=d1,fuel:=f1,am:=a1}:ab.av A.ar)).map (·.am)=(aU.map (·.am)).set i a1:=Bp;have c:i<aU.length:=(List.getElem?_eq_some_iff.1 hi).1;have m:(aU.map (·.am))[i]?=some l.am:=AU;refine⟨⟨by rw[v];exact a.lC,by rw[u];exact p _ i m a.qw,AU,fun j k b d=>?_,fun j k b d=>?_,by rw[List.length_set];exact a.len⟩,fun j n b J=>.inr ⟨AU,?_,.refl _ _⟩⟩
  ·by_cases f:j=i
   ·grind
   ·rw[List.getElem?_set_ne (Ne.symm f)]at b;exact a.a2 j k b d
  ·by_cases f:j=i
   ·grind
   ·rw[List.getElem?_set_ne (Ne.symm f)]at b;exact a.IJ j k b d
  ·refine h _ _ (fun B=>?_) (fun q g=>?_)
   ·cases y:n.bB<;>simp only[YL]
    exact absurd (a.lC.YI AU AU) b
   ·have E:=G.zero _ _ i l.am a.qw m q;have D:=G.zero _ _ j n.am a.qw AU g;grind
section
variable {c:dT} {Q:Program} {Stop:Bool->ab.av aV->a6->Prop} {m:Bool} {l:ab.av aV} {γ:ab.aT cF} {X:a6} {w':World}
theorem xC{b:cF}{w:World}(h:w.heap[c.wg]?=some (vd c b)):w.cell? ⟨c.wg,0,none⟩=some (.int .u64 ((b.a0*4294967296+b.eg.toNat:Nat):Int)):=by simp[World.cell?,h,vd]
theorem MH{b:cF}{w:World}(h:w.heap[c.wg]?=some (vd c b)):w.cell? ⟨c.wg,1,none⟩=some (.int .u32 (b.gP:Int)):=by simp[World.cell?,h,vd]
theorem Bj{b:cF}{w:World}(h:w.heap[c.wg]?=some (vd c b))(off:Nat)(sp):w.frozen? ⟨c.wg,off,sp⟩=false:=by simp[World.frozen?,h,vd]
theorem Y0{aC:bk}{b b1:cF}{w:World}(f:w.heap[c.st]?=some (ic (aE c) aC b))(d:(aE c).pz b w)(g:b1.gP=b.gP)(ht:b1.taken=b.taken)(h:b1.came=b.came)(hd:b1.done=b.done){v:Int}(a:v=((b1.a0*4294967296+b1.eg.toNat:Nat):Int)):
 (w.setCell ⟨c.wg,0,none⟩ (.int .u64 v)).heap[c.st]?=some (ic (aE c) aC b1)/\(aE c).pz b1 (w.setCell ⟨c.wg,0,none⟩ (.int .u64 v)):=by
 subst a;refine⟨?_,?_,fun e=>?_⟩
 ·rw[mw w _ _ c.fy.1,f];grind[ic]
 ·simp_all[World.setCell,Array.getElem?_modify,vd]
 ·rw[mw w _ _ (Ne.symm c.fy.2.2),d.2 e];grind[F7]
theorem aly{aC:bk}{b b1:cF}{w:World}(f:w.heap[c.st]?=some (ic (aE c) aC b))(d:(aE c).pz b w)(g:b1.a0=b.a0/\b1.eg=b.eg)(ht:b1.taken=b.taken)(h:b1.came=b.came)(hd:b1.done=b.done){v:Int}(a:v=(b1.gP:Int)):
 (w.setCell ⟨c.wg,1,none⟩ (.int .u32 v)).heap[c.st]?=some (ic (aE c) aC b1)/\(aE c).pz b1 (w.setCell ⟨c.wg,1,none⟩ (.int .u32 v)):=by
 subst a;refine⟨?_,?_,fun e=>?_⟩
 ·rw[mw w _ _ c.fy.1,f];grind[ic]
 ·simp_all[World.setCell,Array.getElem?_modify,vd]
 ·rw[mw w _ _ (Ne.symm c.fy.2.2),d.2 e];grind[F7]
theorem RF{mine:Nat->Prop}(w:World)(off:Nat)(sp)(v:Value):lB (ah (aE c)) mine w (w.setCell ⟨c.wg,off,sp⟩ v):=
 ⟨fun b _ _ a=>mw w _ v AU,Bp,.refl _,rfl,rfl⟩
theorem Y1{mine:Nat->Prop}(w:World)(off:Nat)(sp)(v:Value):lB (ah (aE c)) mine w (w.setCell ⟨c.st,off,sp⟩ v):=
 ⟨fun b _ _ a=>mw w _ v AU,Bp,.refl _,rfl,rfl⟩
theorem Y2{mine:Nat->Prop}(w:World)(off:Nat)(sp)(v:Value):lB (ah (aE c)) mine w (w.setCell ⟨c.bG,off,sp⟩ v):=
 ⟨fun b _ _ a=>mw w _ v AU,Bp,.refl _,rfl,rfl⟩
end
end gb
namespace gb
open Conc bu ab
section
section
variable {N:Nat} {rows:Nat->Nat} {b:cF} {xs:List aV} {i:Nat} {l:List (Nat×Value)}
theorem dc.alA(h:dc N rows b xs)(hi:xs[i]?=some (.aR .rel l)):1<=b.a0:=by have a:=h.a0;grind[sw,g7]
theorem dc.alB(h:dc N rows b xs)(hi:xs[i]?=some (.aR .n8 l)):b.a0=0/\b.eg=true:=by
 have:=sw hE xs i _ hi;simp[hE]at this;obtain⟨s,_,a⟩:=h.main;cases s with
 |vc=>
  rcases a with⟨m1,_,_,c⟩|⟨_,_,d,_⟩
  ·grind
  ·omega
 |spawn k q=>have:=a.2.2.1;omega
 |ss=>have:=a.2.2.1;omega
 |over=>have:=a.2.2.2.1;omega
theorem dc.alC(h:dc N rows b xs)(hi:xs[i]?=some (.aR .lb l)):b.gP=0:=by
 have:=sw hY xs i _ hi;simp[hY]at this;obtain⟨s,_,a⟩:=h.main;cases s with
 |vc=>rcases a with⟨_,_,d,_⟩|⟨_,_,_,c⟩<;>omega
 |spawn k q=>have:=a.2.2.2;omega
 |ss=>have:=a.2.2.2;omega
 |over=>have:=a.2.2.2.2;omega
end
section
variable {c:dT} {l:ab.av aV} {γ:ab.aT cF} {p:List (Nat×Value)}
theorem xD(h:hX (ah (aE c)) l γ):∃(xs:List aV)(i:Nat),xs[i]?=some l.am/\dc c.N c.rows γ.am xs:=by obtain⟨aU,i,hi,a⟩:∃(aU:List (ab.av aV))(i:Nat),aU[i]?=some l/\u_ (aE c) γ aU:=h;exact⟨aU.map (·.am),i,AU,a.qw⟩
theorem alD(h:hX (ah (aE c)) l γ)(b:l.am=.aR .rel p):1<=γ.am.a0:=by obtain⟨xs,i,hi,a⟩:=xD h;rw[b]at hi;exact a.alA hi
theorem Y3(h:hX (ah (aE c)) l γ)(b:l.am=.aR .n8 p):γ.am.a0=0/\γ.am.eg=true:=by obtain⟨xs,i,hi,a⟩:=xD h;rw[b]at hi;exact a.alB hi
theorem alE(h:hX (ah (aE c)) l γ)(b:l.am=.aR .lb p):γ.am.gP=0:=by obtain⟨xs,i,hi,a⟩:=xD h;rw[b]at hi;exact a.alC hi
end
end
variable {g1:Goroutine}
section
open az
section
variable {c:dT} {Q:Program} {Stop:Bool->ab.av aV->a6->Prop} {m:Bool} {l:ab.av aV} {γ:ab.aT cF} {X:a6} {w':World}
theorem Bk(p:dX (ah (aE c)) l γ X w'){w1:World}{es:Array Event}{a1:aV}{b1:cF}{f1 d1:Nat}(n:stepG Q m X.g w'=.go g1 w1 es)(hrun:g1.status=.running)(b:∃e∈es,yy (ah (aE c)) e)
 (q:lB (ah (aE c)) X.mine w' w1) (hsz:w1.heap.size=w'.heap.size) (j:w1.heap[c.st]?=some (ic (aE c) γ.aC b1)/\(aE c).pz b1 w1)
 (f:∀(aDb:List aV)(i:Nat),aDb[i]?=some l.am->dc c.N c.rows γ.am aDb->dc c.N c.rows b1 (aDb.set i a1)) (r:f1+c.C*(c.N-b1.taken)+1<=l.fuel+c.C*(c.N-γ.am.taken))
 (s:l.bB=.own\/(b1.taken=γ.am.taken/\b1.came=γ.am.came/\b1.done=γ.am.done)) (t:γ.am.taken<=b1.taken) (A:Bi l.am\/b1.a0<=γ.am.a0) (k:tp a1->l.bB=.idle) (g:l.cD=true->l.bB=.own)
 (says:xn (ah (aE c)) l ({l with am:=a1,fuel:=f1,deaf:=d1}:ab.av aV) X.mine es) (d:mayWake Q X.g=true\/∀a,ME a γ.am->ME a b1)
 (hl:tp a1->m=false/\Stop m ({l with am:=a1,fuel:=f1,deaf:=d1}:ab.av aV) ⟨g1,w1,X.mine⟩)
 (h:bh (ah (aE c)) Q Stop m ({l with am:=a1,fuel:=f1,deaf:=d1}:ab.av aV) ({γ with am:=b1,be:=γ.be-1}:ab.aT cF) ⟨g1,w1,X.mine⟩):iq (Z:=ah (aE c)) Q Stop m l γ X w':=by
 have y:grown X.mine w' w1=X.mine:=lD hsz;refine .turn (l1:=({l with am:=a1,fuel:=f1,deaf:=d1}:ab.av aV)) (bA:=({γ with am:=b1,be:=γ.be-1}:ab.aT cF)) n ⟨hrun,.inl b,q,j,YZ (bR c) p.sees f r (fun o a' x v=>?_) k g,AU,d.imp id fun w u z=>?_⟩ AU AU
 ·grind
 grind
theorem MJ(d:dX (ah (aE c)) l γ X w'){a1:aV}{b1:cF}{f1:Nat}{v:Int}(p:stepG Q m X.g w'=.go g1 (w'.setCell ⟨c.wg,0,none⟩ (.int .u64 v)) #[⟨.cell ⟨c.wg,0,none⟩,false,true⟩,⟨.cell ⟨c.wg,0,none⟩,true,true⟩])(hrun:g1.status=.running)
 (o:v=((b1.a0*4294967296+b1.eg.toNat:Nat):Int)) (hd:0<l.deaf) (f:b1.gP=γ.am.gP) (b:b1.taken=γ.am.taken/\b1.came=γ.am.came/\b1.done=γ.am.done)
 (j:∀(aDb:List aV)(i:Nat),aDb[i]?=some l.am->dc c.N c.rows γ.am aDb->dc c.N c.rows b1 (aDb.set i a1)) (r:f1<l.fuel) (q:Bi l.am\/b1.a0<=γ.am.a0) (n:tp a1->l.bB=.idle) (k:l.cD=true->l.bB=.own) (g:ku a1=ku l.am)
 (hl:tp a1->m=false/\Stop m ({l with am:=a1,fuel:=f1}:ab.av aV) ⟨g1,w'.setCell ⟨c.wg,0,none⟩ (.int .u64 v),X.mine⟩)
 (h:bh (ah (aE c)) Q Stop m ({l with am:=a1,fuel:=f1}:ab.av aV) ({γ with am:=b1,be:=γ.be-1}:ab.aT cF) ⟨g1,w'.setCell ⟨c.wg,0,none⟩ (.int .u64 v),X.mine⟩):iq (Z:=ah (aE c)) Q Stop m l γ X w':=
 Bk (d1:=l.deaf) d p hrun ⟨⟨.cell ⟨c.wg,0,none⟩,true,true⟩,Aa,.inr (.inr (.inr (.inr ⟨rfl,c.wg,rfl,.inr Jt⟩)))⟩ (RF w' 0 none _) (oh _ _ _) (Y0 d.mt.1 d.mt.2 f b.1 b.2.1 b.2.2 o) j AU (.inr b) AU q n k
  (.inl ⟨rfl,g,rfl,.inr AU,.inr ⟨rfl,AU,hd⟩,trivial⟩) (.inr fun a e=>⟨e.1,f.trans e.2⟩) hl h
theorem alH(d:dX (ah (aE c)) l γ X w'){a1:aV}{b1:cF}{f1:Nat}{v:Int}(o:stepG Q m X.g w'=.go g1 (w'.setCell ⟨c.wg,0,none⟩ (.int .u64 v)) #[⟨.cell ⟨c.wg,0,none⟩,true,true⟩])(hrun:g1.status=.running)
 (n:v=((b1.a0*4294967296+b1.eg.toNat:Nat):Int)) (hd:0<l.deaf) (f:b1.gP=γ.am.gP) (b:b1.taken=γ.am.taken/\b1.came=γ.am.came/\b1.done=γ.am.done)
 (j:∀(aDb:List aV)(i:Nat),aDb[i]?=some l.am->dc c.N c.rows γ.am aDb->dc c.N c.rows b1 (aDb.set i a1)) (r:f1<l.fuel) (p:Bi l.am\/b1.a0<=γ.am.a0) (q:¬tp a1) (k:l.cD=true->l.bB=.own) (g:ku a1=ku l.am)
 (h:bh (ah (aE c)) Q Stop m ({l with am:=a1,fuel:=f1}:ab.av aV) ({γ with am:=b1,be:=γ.be-1}:ab.aT cF) ⟨g1,w'.setCell ⟨c.wg,0,none⟩ (.int .u64 v),X.mine⟩):iq (Z:=ah (aE c)) Q Stop m l γ X w':=
 Bk (d1:=l.deaf) d o hrun ⟨⟨.cell ⟨c.wg,0,none⟩,true,true⟩,Aa,.inr (.inr (.inr (.inr ⟨rfl,c.wg,rfl,.inr Jt⟩)))⟩ (RF w' 0 none _) (oh _ _ _) (Y0 d.mt.1 d.mt.2 f b.1 b.2.1 b.2.2 n) j AU (.inr b) AU p AU k
  (.inl ⟨rfl,g,rfl,.inr AU,trivial⟩) (.inr fun a e=>⟨e.1,f.trans e.2⟩) AU h
theorem Y4(d:dX (ah (aE c)) l γ X w'){a1:aV}{b1:cF}{f1:Nat}{v:Int}(p:stepG Q m X.g w'=.go g1 (w'.setCell ⟨c.wg,1,none⟩ (.int .u32 v)) (semEvents ⟨c.wg,1,none⟩))(hrun:g1.status=.running)
 (o:v=(b1.gP:Int)) (r:b1.a0=γ.am.a0/\b1.eg=γ.am.eg) (b:b1.taken=γ.am.taken/\b1.came=γ.am.came/\b1.done=γ.am.done)
 (j:∀(aDb:List aV)(i:Nat),aDb[i]?=some l.am->dc c.N c.rows γ.am aDb->dc c.N c.rows b1 (aDb.set i a1)) (s:f1<l.fuel) (n:tp a1->l.bB=.idle) (k:l.cD=true->l.bB=.own) (g:ku a1=ku l.am) (f:mayWake Q X.g=true\/γ.am.gP≠0)
 (hl:tp a1->m=false/\Stop m ({l with am:=a1,fuel:=f1}:ab.av aV) ⟨g1,w'.setCell ⟨c.wg,1,none⟩ (.int .u32 v),X.mine⟩)
 (h:bh (ah (aE c)) Q Stop m ({l with am:=a1,fuel:=f1}:ab.av aV) ({γ with am:=b1,be:=γ.be-1}:ab.aT cF) ⟨g1,w'.setCell ⟨c.wg,1,none⟩ (.int .u32 v),X.mine⟩):iq (Z:=ah (aE c)) Q Stop m l γ X w':=
 Bk (d1:=l.deaf) d p hrun ⟨⟨.cell ⟨c.wg,1,none⟩,true,true⟩,by simp[semEvents],.inr (.inr (.inr (.inr ⟨rfl,c.wg,rfl,.inr Jt⟩)))⟩ (RF w' 1 none _) (oh _ _ _) (aly d.mt.1 d.mt.2 r b.1 b.2.1 b.2.2 o) j AU (.inr b) AU AU n k
  (.inl ⟨rfl,g,by grind[deafBehind,semEvents],.inl trivial,.inr ⟨rfl,AU,IQ⟩,.inr ⟨rfl,AU,IQ⟩,.inl trivial,trivial⟩)
  (f.imp id fun e a q=>absurd q.2 e) hl h
theorem Y5(b:dX (ah (aE c)) l γ X w'){mk:Mark}(a:mk=.disable\/mk=.enable){a1:aV}{f1 d1:Nat}(j:stepG Q m X.g w'=.go g1 w' #[⟨.mark mk,false,true⟩])(hrun:g1.status=.running)
 (f:∀(aDb:List aV)(i:Nat),aDb[i]?=some l.am->dc c.N c.rows γ.am aDb->dc c.N c.rows γ.am (aDb.set i a1)) (n:f1<l.fuel) (k:¬tp a1) (g:l.cD=true->l.bB=.own) (d:ku a1=ku l.am) (hd:d1=deafBehind l.deaf #[⟨.mark mk,false,true⟩])
 (h:bh (ah (aE c)) Q Stop m ({l with am:=a1,fuel:=f1,deaf:=d1}:ab.av aV) ({γ with be:=γ.be-1}:ab.aT cF) ⟨g1,w',X.mine⟩):iq (Z:=ah (aE c)) Q Stop m l γ X w':=
 Bk (b1:=γ.am) (d1:=d1) b j hrun ⟨⟨.mark mk,false,true⟩,Aa,a.elim (fun e=>.inl (by rw[e])) (fun e=>.inr AU)⟩ (tT _ _ _) rfl b.mt f Ay AU Jr AU AU g
  (.inl ⟨rfl,d,hd,.inl (by rcases a with rfl|rfl<;>exact trivial),trivial⟩) AU AU h
theorem alI(a:dX (ah (aE c)) l γ X w'){p:List (Nat×Value)}{f1:Nat}(b:stepG Q m X.g w'=.go g1 w' #[⟨.mark (.releaseMerge ⟨c.wg,0,none⟩),false,true⟩])(hrun:g1.status=.running)(g:l.am=.aR .free p)(cj:γ.am.taken=c.N)(j:f1<l.fuel)(hd:l.deaf=0)(f:l.cD=false)
 (h:bh (ah (aE c)) Q Stop m ({l with am:=.aR .rel p,fuel:=f1}:ab.av aV) ({γ with be:=γ.be-1}:ab.aT cF) ⟨g1,w',X.mine⟩):iq (Z:=ah (aE c)) Q Stop m l γ X w':=
 Bk (a1:=.aR .rel p) (b1:=γ.am) (d1:=l.deaf) a b hrun ⟨⟨.mark (.releaseMerge ⟨c.wg,0,none⟩),false,true⟩,Aa,.inr AU⟩ (tT _ _ _) rfl a.mt (fun aDb i hi d=>d.release cj AU) Ay AU Jr AU K5 AU
  (.inr (.inr (.inr ⟨rfl,hd,hd,rfl,rfl⟩))) AU (fun e=>e.elim) h
end
end
end gb
namespace ba
open Conc
theorem D1:(f70.name== "runtime.NumGoroutine")=false:=by kernel_rfl
theorem D2:f70.body.isNone=true:=by kernel_rfl
theorem D3:Extern.findNext f70=none:=by kernel_rfl
theorem D4:Extern.find f70=some (fun _=>do mark .disable;pure Extern.Race.none_):=by kernel_rfl
theorem oq:(f71.name== "runtime.NumGoroutine")=false:=by kernel_rfl
theorem ot:f71.body.isNone=true:=by kernel_rfl
theorem ou:Extern.findNext f71=none:=by kernel_rfl
theorem ov:Extern.find f71=some (fun _=>do mark .enable;pure Extern.Race.none_):=by kernel_rfl
theorem BF:(f84.name== "runtime.NumGoroutine")=false:=by kernel_rfl
theorem BG:f84.body.isNone=true:=by kernel_rfl
theorem BH:Extern.findNext f84=none:=by kernel_rfl
theorem BI:Extern.find f84=some (Extern.Race.marked .acquire):=by kernel_rfl
theorem SN:(f69.name== "runtime.NumGoroutine")=false:=by kernel_rfl
theorem SO:f69.body.isNone=true:=by kernel_rfl
theorem SP:Extern.findNext f69=none:=by kernel_rfl
theorem SQ:Extern.find f69=some (Extern.Race.marked .releaseMerge):=by kernel_rfl
theorem z7:(f125.name== "runtime.NumGoroutine")=false:=by kernel_rfl
theorem z8:f125.body.isNone=true:=by kernel_rfl
theorem z9:Extern.findNext f125=none:=by kernel_rfl
theorem z_:Extern.find f125=some (Extern.Atomic.casT (.int .i32)):=by kernel_rfl
theorem D5:(f127.name== "runtime.NumGoroutine")=false:=by kernel_rfl
theorem D6:f127.body.isNone=true:=by kernel_rfl
theorem D7:Extern.findNext f127=none:=by kernel_rfl
theorem D8:Extern.find f127=some (Extern.Atomic.update (Op.intArith .add) .i32 true):=by kernel_rfl
theorem aaB:(f143.name== "runtime.NumGoroutine")=false:=by kernel_rfl
theorem aaC:f143.body.isNone=true:=by kernel_rfl
theorem aaD:Extern.findNext f143=none:=by kernel_rfl
theorem aaE:Extern.find f143=some Extern.Sync.canSpin:=by kernel_rfl
theorem aoN:(f144.name== "runtime.NumGoroutine")=false:=by kernel_rfl
theorem aoO:f144.body.isNone=true:=by kernel_rfl
theorem aoP:Extern.findNext f144=none:=by kernel_rfl
theorem aoQ:Extern.find f144=some Extern.Sync.nothing:=by kernel_rfl
theorem aaF:(f146.name== "runtime.NumGoroutine")=false:=by kernel_rfl
theorem aaG:f146.body.isNone=true:=by kernel_rfl
theorem aaH:Extern.findNext f146=none:=by kernel_rfl
theorem aaI:Extern.find f146=some Extern.OsHooks.nano:=by kernel_rfl
theorem SR:(f147.name== "runtime.NumGoroutine")=false:=by kernel_rfl
theorem SS:f147.body.isNone=true:=by kernel_rfl
theorem SU:Extern.findNext f147=none:=by kernel_rfl
theorem SV:Extern.find f147=some Extern.Sync.semacquire:=by kernel_rfl
theorem aaJ:(f149.name== "runtime.NumGoroutine")=false:=by kernel_rfl
theorem NG:f149.body.isNone=true:=by kernel_rfl
theorem aaK:Extern.findNext f149=none:=by kernel_rfl
theorem aaL:Extern.find f149=some Extern.Sync.semrelease:=by kernel_rfl
theorem aaM:f146.norace=true:=by kernel_rfl
theorem SW:(f89.name== "runtime.NumGoroutine")=false:=by kernel_rfl
theorem Jy:(f90.name== "runtime.NumGoroutine")=false:=by kernel_rfl
theorem aaN:(f113.name== "runtime.NumGoroutine")=false:=by kernel_rfl
theorem aaO:(f114.name== "runtime.NumGoroutine")=false:=by kernel_rfl
theorem aaP:(prog.funcs[(base 114).fn]?).any (·.norace)=true:=by kernel_rfl
theorem aoR:(f126.name== "runtime.NumGoroutine")=false:=by kernel_rfl
theorem Jz:(prog.funcs[(base 126).fn]?).any (·.norace)=true:=by kernel_rfl
theorem aaQ:(f128.name== "runtime.NumGoroutine")=false:=by kernel_rfl
theorem aoS:(prog.funcs[(base 128).fn]?).any (·.norace)=true:=by kernel_rfl
open RowKit Conc.Lib ConcR.Gen ConcM az bu ab
theorem aaR:prog.underlying 237=some (.pointer 168):=by simp
theorem NH:prog.underlying 175=some .unsafePointer:=by simp
theorem aaS:(prog.info? 168).map (fun i=>decide (i.size=0))=some false:=by kernel_rfl
section
variable {m:Bool} {b:Frame} {a:Act} {kk:List Item} {cs:List Frame} {w:World} {ops:Array Oper} {i:Nat} {rest:List Nat} {o:Oper}
theorem BJ{x:Operand}(g:ops[i]?=some o)(d:Region.wanted o (yielded ops a.tmps)=true)(h:b.kind≠ .early)(f:o.op=.convert 237 175 x){ad:Addr}{v:Value}(l:a.eval x=.pointer (some ad))(c:w.cell? ad=some v):
 stepG prog m (Conc.G (b.at a (.inRegion ops (i::rest)::kk)) cs) w=.go (Conc.G (b.at (a.put o.dst (.pointer (some ad))) (.inRegion ops rest::kk)) cs) w #[]:=by
 have j:=run_convert_to_unsafe (P:=prog) aaR NH aaS c;have k:=fun es=>events_convert_to_unsafe (P:=prog) aaR NH aaS c es;have e:(execOp a.eval o).run prog w=.ok (.value (.pointer (some ad))) w:=by simp_all[execOp]
 have n:(execOp a.eval o).events prog w #[]=#[]:=by simp_all[execOp]
 rw[stepG_value g d h e];grind[listed,seen_none]
theorem BK{x:Operand}(h:ops[i]?=some o)(f:Region.wanted o (yielded ops a.tmps)=true)(j:b.kind≠ .early)(c:o.op=.load 21 x)
 {ad:Addr} {v:Int} (d:a.eval x=.pointer (some ad)) (e:w.cell? ad=some (.int .i32 v)) (k:(prog.funcs[b.fn]?).any (·.norace)=true):
 stepG prog m (Conc.G (b.at a (.inRegion ops (i::rest)::kk)) cs) w=.go (Conc.G (b.at (a.put o.dst (.int .i32 v)) (.inRegion ops rest::kk)) cs) w #[]:=by
 have g:(execOp a.eval o).run prog w=.ok (.value (.int .i32 v)) w:=by unfold execOp;simp only[c,d];simp[go_sem,e]
 have l:(execOp a.eval o).events prog w #[]=#[⟨.cell ad,false,false⟩]:=by unfold execOp;simp only[c,d];simp[go_sem,e]
 rw[stepG_value h f j g];grind[listed,seen_def,seenStep]
end
theorem SX{aC:bk}(h:aC.word=0):aC.L=false/\aC.W=false/\aC.S=false/\aC.k=0:=by grind[bk.word]
def cS:Code->Option Code
 | .loop c=>some c
 | .seq x y=>match cS x with|some c=>some c|none=>cS y
 | .block _ c=>cS c
 | .cond _ x y=>match cS x with|some c=>some c|none=>cS y
 | _=>none
def iQ:Code->Option Code
 | .seq (.block _ _) r=>some r
 | .seq _ y=>iQ y
 | _=>none
def cH(id:Nat):Code->Option Code
 | .seq x y=>if(match x with| .region i _ _=>i==id| _=>false)then some (.seq x y)else match cH id x with|some c=>some c|none=>cH id y
 | .block _ c=>cH id c
 | .loop c=>cH id c
 | .cond _ x y=>match cH id x with|some c=>some c|none=>cH id y
 | _=>none
def fK:Code->Code
 | .seq _ y=>y
 | _=>.skip
def iD:Code->Array Oper
 | .seq (.region _ o _) _=>o
 | _=>#[]
def sK(A:e_)(Stop:Bool->ab.av A.ar->a6->Prop)(m:Bool)(mine:Nat->Prop)(b₁:Frame)(a₁:Act)(aG:Array Oper)(i₁:Nat)(aP:List Nat)(k₁:List Item)(cs₁:List Frame)(l:ab.av A.ar)(γ:ab.aT A.aQ)(bX:Int)(sv aw:Bool)(it old:Int)(w:World):Prop:=
 ∀(dn l6 eu d7 ew ey ez eA ld lf eL eB eC eD gx eE fb fc fe m3 m4 m5 m6 m7 m8 m9 m_ na nc nd ne nf ng nh ni nj nk ow ox oy oz oA oB oC oD oE oF oG oH oI oJ oK oL oM oN oO oP oQ oR oS oT oU oV oW oX oY oZ o0 o5 o6 o7 qJ qK qL qM o8 o9 o_ qN qO qP qQ qR qS qT tw qU qV qW qX qY qZ q0 q2 q7 q8 q9 q_ ra rb re rf rg rh ri rj rk rl rm rn rp rq rr ru rx ry rz rA rB rC rD rE rF rG rH rI rJ rK rL rM rN rO rP:Value),bh (ah A) prog Stop m l γ ⟨Conc.G ((base 126).at ⟨#[.pointer (some (ab.fI A)),dn,.int .i64 bX,.bool sv,.bool aw,.int .i64 it,.int .i32 old,l6,eu,d7,ew,ey,ez,eA,ld,lf,eL,eB,eC,eD,gx,eE,fb,fc,fe,m3,m4,m5,m6,m7,m8,m9,m_,na,nc,nd,ne,nf,ng,nh,ni,nj,nk,ow,ox,oy,oz,oA,oB,oC,oD,oE,oF,oG,oH,oI,oJ,oK,oL,oM,oN,oO,oP,oQ,oR,oS,oT,oU,oV,oW,oX,oY,oZ,o0,o5,o6,o7,qJ,qK,qL,qM,o8,o9,o_,qN,qO,qP,qQ,qR,qS,qT,tw,qU,qV,qW,qX,qY,qZ,q0,q2,q7,q8,q9,q_,ra,rb,re,rf,rg,rh,ri,rj,rk,rl,rm,rn,rp,rq,rr,ru,rx,ry,rz,rA,rB,rC,rD,rE,rF,rG,rH,rI,rJ,rK,rL,rM,rN,rO,rP],[]⟩ [.code ((cS (f126.body.getD .skip)).getD .skip),.inLoop ((cS (f126.body.getD .skip)).getD .skip),.inBlock 0,.code ((iQ (f126.body.getD .skip)).getD .skip)]) (b₁.at a₁ (.inRegion aG (i₁::aP)::k₁)::cs₁),w,mine⟩
def nM(A:e_)(Stop:Bool->ab.av A.ar->a6->Prop)(m:Bool)(mine:Nat->Prop)(b₁:Frame)(a₁:Act)(aG:Array Oper)(i₁:Nat)(aP:List Nat)(k₁:List Item)(cs₁:List Frame)(l:ab.av A.ar)(γ:ab.aT A.aQ)(bX:Int)(sv aw:Bool)(it old:Int)(w:World):Prop:=
 ∀(dn l6 eu d7 ew ey ez eA ld lf eL eB eC eD gx eE fb fc fe m3 m4 m5 m6 m7 m8 m9 m_ na nc nd ne nf ng nh ni nj nk ow ox oy oz oA oB oC oD oE oF oG oH oI oJ oK oL oM oN oO oP oQ oR oS oT oU oV oW oX oY oZ o0 o5 o6 o7 qJ qK qL qM o8 o9 o_ qN qO qP qQ qR qS qT tw qU qV qW qX qY qZ q0 q2 q7 q8 q9 q_ ra rb re rf rg rh ri rj rk rl rm rn rp rq rr ru rx ry rz rA rB rC rD rE rF rG rH rI rJ rK rL rM rN rO rP:Value),bh (ah A) prog Stop m l γ ⟨Conc.G ((base 126).at ⟨#[.pointer (some (ab.fI A)),dn,.int .i64 bX,.bool sv,.bool aw,.int .i64 it,.int .i32 old,l6,eu,d7,ew,ey,ez,eA,ld,lf,eL,eB,eC,eD,gx,eE,fb,fc,fe,m3,m4,m5,m6,m7,m8,m9,m_,na,nc,nd,ne,nf,ng,nh,ni,nj,nk,ow,ox,oy,oz,oA,oB,oC,oD,oE,oF,oG,oH,oI,oJ,oK,oL,oM,oN,oO,oP,oQ,oR,oS,oT,oU,oV,oW,oX,oY,oZ,o0,o5,o6,o7,qJ,qK,qL,qM,o8,o9,o_,qN,qO,qP,qQ,qR,qS,qT,tw,qU,qV,qW,qX,qY,qZ,q0,q2,q7,q8,q9,q_,ra,rb,re,rf,rg,rh,ri,rj,rk,rl,rm,rn,rp,rq,rr,ru,rx,ry,rz,rA,rB,rC,rD,rE,rF,rG,rH,rI,rJ,rK,rL,rM,rN,rO,rP],[]⟩ [.code ((cH 11 ((cS (f126.body.getD .skip)).getD .skip)).getD .skip),.inBlock 1,.inLoop ((cS (f126.body.getD .skip)).getD .skip),.inBlock 0,.code ((iQ (f126.body.getD .skip)).getD .skip)]) (b₁.at a₁ (.inRegion aG (i₁::aP)::k₁)::cs₁),w,mine⟩
def rQ(A:e_)(Stop:Bool->ab.av A.ar->a6->Prop)(m:Bool)(mine:Nat->Prop)(b₁:Frame)(a₁:Act)(aG:Array Oper)(i₁:Nat)(aP:List Nat)(k₁:List Item)(cs₁:List Frame)(l:ab.av A.ar)(γ:ab.aT A.aQ)(bX:Int)(sv aw:Bool)(it old:Int)(new:Int)(w:World):Prop:=
 ∀(dn eu d7 ew ey ez eA ld lf eL eB eC eD gx eE fb fc fe m3 m4 m5 m6 m7 m8 m9 m_ na nc nd ne nf ng nh ni nj nk ow ox oy oz oA oB oC oD oE oF oG oH oI oJ oK oL oM oN oO oP oQ oR oS oT oU oV oW oX oY oZ o0 o5 o6 o7 qM o8 o9 o_ qN qO qP qQ qR qS qT tw qU qV qW qX qY qZ q0 q2 q7 q8 q9 q_ ra rb re rf rg rh ri rj rk rl rm rn rp rq rr ru rx ry rz rA rB rC rD rE rF rG rH rI rJ rK rL rM rN rO rP:Value),bh (ah A) prog Stop m l γ ⟨Conc.G ((base 126).at ⟨#[.pointer (some (ab.fI A)),dn,.int .i64 bX,.bool sv,.bool aw,.int .i64 it,.int .i32 old,.int .i32 new,eu,d7,ew,ey,ez,eA,ld,lf,eL,eB,eC,eD,gx,eE,fb,fc,fe,m3,m4,m5,m6,m7,m8,m9,m_,na,nc,nd,ne,nf,ng,nh,ni,nj,nk,ow,ox,oy,oz,oA,oB,oC,oD,oE,oF,oG,oH,oI,oJ,oK,oL,oM,oN,oO,oP,oQ,oR,oS,oT,oU,oV,oW,oX,oY,oZ,o0,o5,o6,o7,.pointer (some (ab.fI A)),.int .i32 old,.int .i32 new,qM,o8,o9,o_,qN,qO,qP,qQ,qR,qS,qT,tw,qU,qV,qW,qX,qY,qZ,q0,q2,q7,q8,q9,q_,ra,rb,re,rf,rg,rh,ri,rj,rk,rl,rm,rn,rp,rq,rr,ru,rx,ry,rz,rA,rB,rC,rD,rE,rF,rG,rH,rI,rJ,rK,rL,rM,rN,rO,rP],[]⟩ [.inRegion (iD ((cH 22 ((cS (f126.body.getD .skip)).getD .skip)).getD .skip)) [5],.code (fK ((cH 22 ((cS (f126.body.getD .skip)).getD .skip)).getD .skip)),.inBlock 1,.inLoop ((cS (f126.body.getD .skip)).getD .skip),.inBlock 0,.code ((iQ (f126.body.getD .skip)).getD .skip)]) (b₁.at a₁ (.inRegion aG (i₁::aP)::k₁)::cs₁),w,mine⟩
def xR(A:e_)(Stop:Bool->ab.av A.ar->a6->Prop)(m:Bool)(mine:Nat->Prop)(b₁:Frame)(a₁:Act)(aG:Array Oper)(i₁:Nat)(aP:List Nat)(k₁:List Item)(cs₁:List Frame)(l:ab.av A.ar)(γ:ab.aT A.aQ)(bX:Int)(sv aw:Bool)(it old:Int)(k_:Bool)(w:World):Prop:=
 ∀(dn l6 eu d7 ew ey ez eA ld lf eL eB eC eD gx eE fb fc fe m3 m4 m5 m6 m7 m8 m9 m_ na nc nd ne nf ng nh ni nj nk ow ox oy oz oA oB oC oD oE oF oG oH oI oJ oK oL oM oN oO oP oQ oR oS oT oU oV oW oX oY oZ o0 o5 o6 o7 qJ qK qL o8 o9 o_ qN qO qP qQ qR qS qT tw qU qV qW qX qY qZ q0 q2 q7 q8 q9 q_ ra rb re rf rg rh ri rj rk rl rm rn rp rq rr ru rx ry rz rA rB rC rD rE rF rG rH rI rJ rK rL rM rN rO rP:Value),bh (ah A) prog Stop m l γ ⟨Conc.G ((base 126).at ⟨#[.pointer (some (ab.fI A)),dn,.int .i64 bX,.bool sv,.bool aw,.int .i64 it,.int .i32 old,l6,eu,d7,ew,ey,ez,eA,ld,lf,eL,eB,eC,eD,gx,eE,fb,fc,fe,m3,m4,m5,m6,m7,m8,m9,m_,na,nc,nd,ne,nf,ng,nh,ni,nj,nk,ow,ox,oy,oz,oA,oB,oC,oD,oE,oF,oG,oH,oI,oJ,oK,oL,oM,oN,oO,oP,oQ,oR,oS,oT,oU,oV,oW,oX,oY,oZ,o0,o5,o6,o7,qJ,qK,qL,.bool k_,o8,o9,o_,qN,qO,qP,qQ,qR,qS,qT,tw,qU,qV,qW,qX,qY,qZ,q0,q2,q7,q8,q9,q_,ra,rb,re,rf,rg,rh,ri,rj,rk,rl,rm,rn,rp,rq,rr,ru,rx,ry,rz,rA,rB,rC,rD,rE,rF,rG,rH,rI,rJ,rK,rL,rM,rN,rO,rP],[]⟩ [.code (fK ((cH 22 ((cS (f126.body.getD .skip)).getD .skip)).getD .skip)),.inBlock 1,.inLoop ((cS (f126.body.getD .skip)).getD .skip),.inBlock 0,.code ((iQ (f126.body.getD .skip)).getD .skip)]) (b₁.at a₁ (.inRegion aG (i₁::aP)::k₁)::cs₁),w,mine⟩
end ba
namespace ba
open Conc ab
theorem aoU:∀(L W S:Bool)(k:Nat),k<256->bits .and .i32 ((L.toNat+2*W.toNat+4*S.toNat+8*k:Nat):Int) 4=((4*S.toNat:Nat):Int):=by decide+kernel
theorem aoV:∀(L W S:Bool)(k:Nat),k<256->bits .and .i32 ((L.toNat+2*W.toNat+4*S.toNat+8*k:Nat):Int) 5=((L.toNat+4*S.toNat:Nat):Int):=by decide+kernel
theorem aoW:∀(L W S:Bool)(k:Nat),k<256->bits .and .i32 ((L.toNat+2*W.toNat+4*S.toNat+8*k:Nat):Int) 2=((2*W.toNat:Nat):Int):=by decide+kernel
theorem aoX:∀(L W S:Bool)(k:Nat),k<256->bits .and .i32 ((L.toNat+2*W.toNat+4*S.toNat+8*k:Nat):Int) 1=((L.toNat:Nat):Int):=by decide+kernel
theorem aoY:∀(L W S:Bool)(k:Nat),k<256->bits .and .i32 ((L.toNat+2*W.toNat+4*S.toNat+8*k:Nat):Int) 3=((L.toNat+2*W.toNat:Nat):Int):=by decide+kernel
theorem aoZ:∀(L W S:Bool)(k:Nat),k<256->bits .and .i32 ((L.toNat+2*W.toNat+4*S.toNat+8*k:Nat):Int) 7=((L.toNat+2*W.toNat+4*S.toNat:Nat):Int):=by decide+kernel
theorem ao0:∀(L W S:Bool)(k:Nat),k<256->bits .or .i32 ((L.toNat+2*W.toNat+4*S.toNat+8*k:Nat):Int) 1=((1+2*W.toNat+4*S.toNat+8*k:Nat):Int):=by decide+kernel
theorem ao1:∀(L W S:Bool)(k:Nat),k<256->bits .or .i32 ((L.toNat+2*W.toNat+4*S.toNat+8*k:Nat):Int) 2=((L.toNat+2+4*S.toNat+8*k:Nat):Int):=by decide+kernel
theorem ao2:∀(L W S:Bool)(k:Nat),k<256->bits .or .i32 ((L.toNat+2*W.toNat+4*S.toNat+8*k:Nat):Int) 4=((L.toNat+2*W.toNat+4+8*k:Nat):Int):=by decide+kernel
theorem ao3:∀(L W S:Bool)(k:Nat),k<256->bits .andNot .i32 ((L.toNat+2*W.toNat+4*S.toNat+8*k:Nat):Int) 2=((L.toNat+4*S.toNat+8*k:Nat):Int):=by decide+kernel
theorem JA(m:bk)(a:m.k<256):bits .and .i32 (m.word:Int) 4=((4*m.S.toNat:Nat):Int):=by have:=aoU m.L m.W m.S m.k a;grind[bk.word]
theorem aaU(m:bk)(a:m.k<256):bits .and .i32 (m.word:Int) 5=((m.L.toNat+4*m.S.toNat:Nat):Int):=by have:=aoV m.L m.W m.S m.k a;grind[bk.word]
theorem JB(m:bk)(a:m.k<256):bits .and .i32 (m.word:Int) 2=((2*m.W.toNat:Nat):Int):=by have:=aoW m.L m.W m.S m.k a;grind[bk.word]
theorem SY(m:bk)(a:m.k<256):bits .and .i32 (m.word:Int) 1=((m.L.toNat:Nat):Int):=by have:=aoX m.L m.W m.S m.k a;grind[bk.word]
theorem ao4(m:bk)(a:m.k<256):bits .and .i32 (m.word:Int) 3=((m.L.toNat+2*m.W.toNat:Nat):Int):=by have:=aoY m.L m.W m.S m.k a;grind[bk.word]
theorem aaV(m:bk)(a:m.k<256):bits .and .i32 (m.word:Int) 7=((m.L.toNat+2*m.W.toNat+4*m.S.toNat:Nat):Int):=by have:=aoZ m.L m.W m.S m.k a;grind[bk.word]
theorem ao5(m:bk)(a:m.k<256):bits .or .i32 (m.word:Int) 1=(({m with L:=true}:bk).word:Int):=by have:=ao0 m.L m.W m.S m.k a;grind[bk.word]
theorem aaW(m:bk)(a:m.k<256):bits .or .i32 (m.word:Int) 2=(({m with W:=true}:bk).word:Int):=by have:=ao1 m.L m.W m.S m.k a;grind[bk.word]
theorem ao6(m:bk)(a:m.k<256):bits .or .i32 (m.word:Int) 4=(({m with S:=true}:bk).word:Int):=by have:=ao2 m.L m.W m.S m.k a;grind[bk.word]
theorem SZ(m:bk)(a:m.k<256):bits .andNot .i32 (m.word:Int) 2=(({m with W:=false}:bk).word:Int):=by have:=ao3 m.L m.W m.S m.k a;grind[bk.word]
theorem ao7(m:bk)(a:m.k<256):IntKind.wrap .i32 ((m.word:Int)+8)=(({m with k:=m.k+1}:bk).word:Int):=by grind[Bool.toNat_le,IntKind.wrap_i32,bk.word]
theorem ao8(m:bk)(a:m.k<256)(b:m.L=true):IntKind.wrap .i32 ((m.word:Int)+ -1)=(({m with L:=false}:bk).word:Int):=by grind[Bool.toNat_le,IntKind.wrap_i32,bk.word]
theorem ao9(m:bk)(a:m.k<256)(h0:0<m.k):IntKind.wrap .i32 ((m.word:Int)-8)=(({m with k:=m.k-1}:bk).word:Int):=by grind[Bool.toNat_le,IntKind.wrap_i32,bk.word]
theorem S0(m:bk)(a:m.k<256)(h0:0<m.k)(c:m.L=false)(hS:m.S=true)(clear:Bool):IntKind.wrap .i32 ((m.word:Int)+(if clear then -11 else -7))=(({m with L:=true,k:=m.k-1,S:= !clear}:bk).word:Int):=by have b:m.W.toNat<=1:=Bool.toNat_le _;rw[IntKind.wrap_i32];unfold bk.word;grind
theorem JC(m:bk):(m.word:Int) / 8=(m.k:Int):=by grind[Bool.toNat_le,bk.word]
variable {bX it old:Int}{w:World}
section
open RowKit Conc.Lib ConcR.Gen ConcM az bu
section
variable {A:e_} {Stop:Bool->ab.av A.ar->a6->Prop} {m:Bool} {mine:Nat->Prop}
variable {b₁:Frame} {a₁:Act} {aG:Array Oper} {i₁:Nat} {aP:List Nat} {k₁:List Item} {cs₁:List Frame}
def Behind(A:e_)(Stop:Bool->ab.av A.ar->a6->Prop)(m:Bool)(mine:Nat->Prop)(b₁:Frame)(a₁:Act)(aG:Array Oper)(i₁:Nat)(aP:List Nat)(k₁:List Item)(cs₁:List Frame)(f:Nat)(a:A.ar)(w:World):Prop:=
 ∀w' ae,U (ah A) mine w w'->bh (ah A) prog Stop m ⟨.own,true,0,f,a⟩ ae ⟨Conc.G (b₁.at (a₁.put ((aG[i₁]?).bind (·.dst)) (.tuple #[])) (.inRegion aG aP::k₁)) cs₁,w',mine⟩
theorem ao_(G:A.Good){f:Nat}{a:A.ar}{γ:ab.aT A.aQ}{sv aw:Bool}(n:bits .and .i32 old 5=0)(hl:¬A.left a)(l:Behind A Stop m mine b₁ a₁ aG i₁ aP k₁ cs₁ f a w):
 xR A Stop m mine b₁ a₁ aG i₁ aP k₁ cs₁ ⟨.own,false,1,f+2,a⟩ γ bX sv aw it old true w:=by
 unfold xR;intros
 have hF:=U.refl (ah A) mine w;refine a5 (aN G) Js 300 _ _ γ Jt ?_;simp only[f126,Option.getD_some,cS,iQ,cH,fK,Nat.reduceBEq,Bool.false_eq_true,↓reduceIte];repeat w_go U.trans
 refine dj rfl hF fun i c g e k j d b hF=>?_;refine sq G b K0 (stepG_mark0 .enable Aa rfl rfl Bc rfl func71 oq ot ou ov) rfl hl (sn (f1:=f+1) KI _) Aa rfl ?_;clear b d e c;refine a5 (aN G) Js 200 _ _ _ Jt ?_;walk_nrm
 repeat w_go U.trans
 refine dj rfl hF fun i c g e k j d b hF=>?_;refine k8 (BJ rfl rfl Bc rfl rfl (ks b.mt.1)) rfl rfl (.refl _) rfl rfl ?_;clear b d e c;refine a5 (aN G) Js 200 _ _ _ Jt ?_;walk_nrm
 repeat w_go U.trans
 refine dj rfl hF fun i c g e k j d b hF=>?_;refine IP G b (f1:=f) (stepG_markAt .acquire Aa rfl rfl Bc rfl func84 BF BG BH BI CX) rfl hl rfl rfl rfl KI ?_;clear b d e c;refine a5 (aN G) Js 200 _ _ _ Jt ?_;walk_nrm
 repeat w_go U.trans
 u_leave0 func126 U.trans hF
 repeat w_go U.trans
 exact Goes.stop (fun i c=>⟨rfl,fun g _=>l i g (U.trans hF c)⟩)
end
end
open RowKit Conc.Lib ConcR.Gen ConcM az bu
def NI(A:e_)(Stop:Bool->ab.av A.ar->a6->Prop)(m:Bool)(mine:Nat->Prop)(b₁:Frame)(a₁:Act)(aG:Array Oper)(i₁:Nat)(aP:List Nat)(k₁:List Item)(cs₁:List Frame)(l:ab.av A.ar)(γ:ab.aT A.aQ)(bX:Int)(sv aw:Bool)(it old:Int)(w:World):Prop:=
 ∀(dn l6 eu d7 ew ey ez eA ld lf eL eB eC eD gx eE fb fc fe m3 m4 m5 m6 m7 m8 m9 m_ na nc nd ne nf ng nh ni nj nk ow ox oy oz oA oB oC oD oE oF oG oH oI oJ oK oL oM oN oO oP oQ oR oS oT oU oV oW oX oY oZ o0 o5 o6 o7 qJ qK qL qM o8 o9 o_ qN qO qP qQ qR qS qT qU qV qW qX qY qZ q0 q2 q7 q8 q9 q_ ra rb re rf rg rh ri rj rk rl rm rn rp rq rr ru rx ry rz rA rB rC rD rE rF rG rH rI rJ rK rL rM rN rO rP:Value),bh (ah A) prog Stop m l γ ⟨Conc.G ((base 126).at ⟨#[.pointer (some (ab.fI A)),dn,.int .i64 bX,.bool sv,.bool aw,.int .i64 it,.int .i32 old,l6,eu,d7,ew,ey,ez,eA,ld,lf,eL,eB,eC,eD,gx,eE,fb,fc,fe,m3,m4,m5,m6,m7,m8,m9,m_,na,nc,nd,ne,nf,ng,nh,ni,nj,nk,ow,ox,oy,oz,oA,oB,oC,oD,oE,oF,oG,oH,oI,oJ,oK,oL,oM,oN,oO,oP,oQ,oR,oS,oT,oU,oV,oW,oX,oY,oZ,o0,o5,o6,o7,qJ,qK,qL,qM,o8,o9,o_,qN,qO,qP,qQ,qR,qS,qT,.pointer (some (ab.k7 A)),qU,qV,qW,qX,qY,qZ,q0,q2,q7,q8,q9,q_,ra,rb,re,rf,rg,rh,ri,rj,rk,rl,rm,rn,rp,rq,rr,ru,rx,ry,rz,rA,rB,rC,rD,rE,rF,rG,rH,rI,rJ,rK,rL,rM,rN,rO,rP],[]⟩ [.inRegion (iD ((cH 27 ((cS (f126.body.getD .skip)).getD .skip)).getD .skip)) [4],.code (fK ((cH 27 ((cS (f126.body.getD .skip)).getD .skip)).getD .skip)),.inBlock 1,.inLoop ((cS (f126.body.getD .skip)).getD .skip),.inBlock 0,.code ((iQ (f126.body.getD .skip)).getD .skip)]) (b₁.at a₁ (.inRegion aG (i₁::aP)::k₁)::cs₁),w,mine⟩
def aaX(A:e_)(Stop:Bool->ab.av A.ar->a6->Prop)(m:Bool)(mine:Nat->Prop)(b₁:Frame)(a₁:Act)(aG:Array Oper)(i₁:Nat)(aP:List Nat)(k₁:List Item)(cs₁:List Frame)(l:ab.av A.ar)(γ:ab.aT A.aQ)(bX:Int)(sv aw:Bool)(it old:Int)(w:World):Prop:=
 ∀(dn l6 eu d7 ew ey ez eA ld lf eL eB eC eD gx eE fb fc fe m3 m4 m5 m6 m7 m8 m9 m_ na nc nd ne nf ng nh ni nj nk ow ox oy oz oA oB oC oD oE oF oG oH oI oJ oK oL oM oN oO oP oQ oR oS oT oU oV oW oX oY oZ o0 o5 o6 o7 qJ qK qL qM o8 o9 o_ qN qO qP qQ qR qS qT tw qU qV qW qX qY qZ q0 q2 q7 q8 q9 q_ ra rb re rf rg rh ri rj rk rl rm rn rp rq rr ru rx ry rz rA rB rC rD rE rF rG rH rI rJ rK rL rM rN rO rP:Value),bh (ah A) prog Stop m l γ ⟨Conc.G ((base 126).at ⟨#[.pointer (some (ab.fI A)),dn,.int .i64 bX,.bool sv,.bool aw,.int .i64 it,.int .i32 old,l6,eu,d7,ew,ey,ez,eA,ld,lf,eL,eB,eC,eD,gx,eE,fb,fc,fe,m3,m4,m5,m6,m7,m8,m9,m_,na,nc,nd,ne,nf,ng,nh,ni,nj,nk,ow,ox,oy,oz,oA,oB,oC,oD,oE,oF,oG,oH,oI,oJ,oK,oL,oM,oN,oO,oP,oQ,oR,oS,oT,oU,oV,oW,oX,oY,oZ,o0,o5,o6,o7,qJ,qK,qL,qM,o8,o9,o_,qN,qO,qP,qQ,qR,qS,qT,tw,qU,qV,qW,qX,qY,qZ,q0,q2,q7,q8,q9,q_,ra,rb,re,rf,rg,rh,ri,rj,rk,rl,rm,rn,rp,rq,rr,ru,rx,ry,rz,rA,rB,rC,rD,rE,rF,rG,rH,rI,rJ,rK,rL,rM,rN,rO,rP],[]⟩ [.code (fK ((cH 27 ((cS (f126.body.getD .skip)).getD .skip)).getD .skip)),.inBlock 1,.inLoop ((cS (f126.body.getD .skip)).getD .skip),.inBlock 0,.code ((iQ (f126.body.getD .skip)).getD .skip)]) (b₁.at a₁ (.inRegion aG (i₁::aP)::k₁)::cs₁),w,mine⟩
section
variable {A:e_} {Stop:Bool->ab.av A.ar->a6->Prop} {m:Bool} {mine:Nat->Prop}
variable {b₁:Frame} {a₁:Act} {aG:Array Oper} {i₁:Nat} {aP:List Nat} {k₁:List Item} {cs₁:List Frame}
theorem apa(G:A.Good){l:ab.av A.ar}{γ:ab.aT A.aQ}{sv aw:Bool}
 (b:∀w' a,(a=γ\/a.be<γ.be)->U (ah A) mine w w'->hX (ah A) l a->sK A Stop m mine b₁ a₁ aG i₁ aP k₁ cs₁ l a bX sv aw it (a.aC.word:Int) w'):
 xR A Stop m mine b₁ a₁ aG i₁ aP k₁ cs₁ l γ bX sv aw it old false w:=by
 unfold xR;intros
 unfold sK at b;have hF:=U.refl (ah A) mine w;refine a5 (aN G) Js 300 _ _ γ Jt ?_;simp only[f126,Option.getD_some,cS,iQ,cH,fK,Nat.reduceBEq,Bool.false_eq_true,↓reduceIte]at b⊢;repeat w_go U.trans
 refine dj rfl hF fun f e o i r d g c hF=>?_;have j:d=γ\/d.be<γ.be:=by
  rcases i with rfl|⟨q,_⟩<;>rcases g with rfl|⟨p,_⟩
  ·simp_all
  ·simp_all
  ·simp_all
  omega
 have k:=c.sees;refine k8 (BK rfl rfl Bc rfl rfl (ks c.mt.1) Jz) rfl rfl (.refl _) rfl rfl ?_;clear c g i e;refine a5 (aN G) Js 200 _ _ _ Jt ?_;walk_nrm
 repeat w_nl U.trans
 u_c stepG_inLoop U.trans hF
 exact Goes.stop (fun f e=>⟨rfl,fun o n=>(b f d j (U.trans hF e) k ..).k5 (aN G) n⟩)
theorem apb(G:A.Good){l:ab.av A.ar}{γ:ab.aT A.aQ}{sv aw:Bool}(s:(bits .and .i32 old 5==0)=false)
 (b:∀w' g k,(ah A).dN l γ g->U (ah A) mine w w'->NI A Stop m mine b₁ a₁ aG i₁ aP k₁ cs₁ l g k sv aw it old w'):
 xR A Stop m mine b₁ a₁ aG i₁ aP k₁ cs₁ l γ bX sv aw it old true w:=by
 unfold xR;intros
 unfold NI at b;have hF:=U.refl (ah A) mine w;simp only[f126,Option.getD_some,cS,iQ,cH,fK,iD,Nat.reduceBEq,Bool.false_eq_true,↓reduceIte]at b⊢;by_cases n:bX=0
 ·subst n;refine a5 (aN G) Js 300 _ _ γ Jt ?_;repeat w_go U.trans
  refine dj rfl hF fun e a c j d t i o hF=>?_;have p:=(aN G).trans _ _ _ _ j i;refine k8 (stepG_nanotime rfl rfl Bc rfl func146 aaF aaG aaH aaI aaM) rfl rfl ⟨_,rfl⟩ rfl rfl ?_;replace hF:=U.trans hF (⟨fun _ _=>rfl,Nat.le_refl _,⟨_,rfl⟩,rfl,rfl⟩:U (ah A) mine d d.later);clear o i j a;generalize((d.os.mono+d.tick:Nat):Int)=r;refine a5 (aN G) Js 200 _ _ _ Jt ?_;walk_nrm
  repeat w_go U.trans
  exact Goes.stop (fun e a=>⟨rfl,fun c f=>b e c _ ((aN G).trans _ _ _ _ p f) (U.trans hF a) ..⟩)
 ·have u:(bX==0)=false:=by simp_all
  have q:(bX != 0)=true:=Bp;refine a5 (aN G) Js 300 _ _ γ Jt ?_;repeat w_go U.trans
  exact Goes.stop (fun e a=>⟨rfl,fun c f=>b e c _ f (U.trans hF a) ..⟩)
end
def xT(A:e_)(Stop:Bool->ab.av A.ar->a6->Prop)(m:Bool)(mine:Nat->Prop)(b₁:Frame)(a₁:Act)(aG:Array Oper)(i₁:Nat)(aP:List Nat)(k₁:List Item)(cs₁:List Frame)(l:ab.av A.ar)(γ:ab.aT A.aQ)(bX:Int)(sv aw:Bool)(it old:Int)(w:World):Prop:=
 ∀(dn l6 eu d7 ew ey ez eA ld lf eL eB eC eD gx eE fb fc fe m3 m4 m5 m6 m7 m8 m9 m_ na nc nd ne nf ng nh ni nj nk ow ox oy oz oA oB oC oD oE oF oG oH oI oJ oK oL oM oN oO oP oQ oR oS oT oU oV oW oX oY oZ o0 o5 o6 o7 qJ qK qL qM o8 o9 o_ qN qO qP qQ qR qS qT tw qU qV qW qX qY qZ q0 q2 q7 q8 q9 q_ ra rb re rf rg rh ri rj rk rl rm rn rp rq rr ru rx ry rz rA rB rC rD rE rF rG rH rI rJ rK rL rM rN rO rP:Value),bh (ah A) prog Stop m l γ ⟨Conc.G ((base 126).at ⟨#[.pointer (some (ab.fI A)),dn,.int .i64 bX,.bool sv,.bool aw,.int .i64 it,.int .i32 old,l6,eu,d7,ew,ey,ez,eA,ld,lf,eL,eB,eC,eD,gx,eE,fb,fc,fe,m3,m4,m5,m6,m7,m8,m9,m_,na,nc,nd,ne,nf,ng,nh,ni,nj,nk,ow,ox,oy,oz,oA,oB,oC,oD,oE,oF,oG,oH,oI,oJ,oK,oL,oM,oN,oO,oP,oQ,oR,oS,oT,oU,oV,oW,oX,oY,oZ,o0,o5,o6,o7,qJ,qK,qL,qM,o8,o9,o_,qN,qO,qP,qQ,qR,qS,qT,tw,qU,qV,qW,qX,qY,qZ,q0,q2,q7,q8,q9,q_,ra,rb,re,rf,rg,rh,ri,rj,rk,rl,rm,rn,rp,rq,rr,ru,rx,ry,rz,rA,rB,rC,rD,rE,rF,rG,rH,rI,rJ,rK,rL,rM,rN,rO,rP],[]⟩ [.code (fK ((cH 29 ((cS (f126.body.getD .skip)).getD .skip)).getD .skip)),.inBlock 1,.inLoop ((cS (f126.body.getD .skip)).getD .skip),.inBlock 0,.code ((iQ (f126.body.getD .skip)).getD .skip)]) (b₁.at a₁ (.inRegion aG (i₁::aP)::k₁)::cs₁),w,mine⟩
section
variable {A:e_} {Stop:Bool->ab.av A.ar->a6->Prop} {m:Bool} {mine:Nat->Prop}
variable {b₁:Frame} {a₁:Act} {aG:Array Oper} {i₁:Nat} {aP:List Nat} {k₁:List Item} {cs₁:List Frame}
theorem aaY(G:A.Good){l:ab.av A.ar}{γ:ab.aT A.aQ}{sv aw:Bool}
 (j:∀w' g q,(g=γ\/g.be<γ.be)->U (ah A) mine w w'->hX (ah A) l g->xT A Stop m mine b₁ a₁ aG i₁ aP k₁ cs₁ l g bX q aw it (g.aC.word:Int) w'):
 aaX A Stop m mine b₁ a₁ aG i₁ aP k₁ cs₁ l γ bX sv aw it old w:=by
 unfold aaX;intros
 unfold xT at j;have hF:=U.refl (ah A) mine w;simp only[f126,Option.getD_some,cS,iQ,cH,fK,Nat.reduceBEq,Bool.false_eq_true,↓reduceIte]at j⊢;cases sv with
 |true=>
  refine a5 (aN G) Js 300 _ _ γ Jt ?_;repeat w_go U.trans
  refine dj rfl hF fun e b k d i p c a hF=>?_;have n:=(aN G).mq _ _ _ ((aN G).trans _ _ _ _ d c);have o:=a.sees;refine k8 (BK rfl rfl Bc rfl rfl (ks a.mt.1) Jz) rfl rfl (.refl _) rfl rfl ?_;clear a c d b;refine a5 (aN G) Js 200 _ _ _ Jt ?_;walk_nrm
  u_op U.trans hF
  u_c stepG_region_end U.trans hF
  exact Goes.stop (fun e b=>⟨rfl,fun k f=>(j e p _ n (U.trans hF b) o ..).k5 (aN G) f⟩)
 |false=>
  refine a5 (aN G) Js 300 _ _ γ Jt ?_;repeat w_go U.trans
  refine dj rfl hF fun e b k d i p c a hF=>?_;have f:=(aN G).trans _ _ _ _ d c;refine k8 (stepG_nanotime rfl rfl Bc rfl func146 aaF aaG aaH aaI aaM) rfl rfl ⟨_,rfl⟩ rfl rfl ?_;replace hF:=U.trans hF (⟨fun _ _=>rfl,Nat.le_refl _,⟨_,rfl⟩,rfl,rfl⟩:U (ah A) mine i i.later);clear a c d b;generalize((i.os.mono+i.tick:Nat):Int)=t;refine a5 (aN G) Js 200 _ _ _ Jt ?_;walk_nrm
  repeat w_go U.trans
  refine dj rfl hF fun e b k d s r c a hF=>?_;have n:=(aN G).mq _ _ _ ((aN G).trans _ _ _ _ f ((aN G).trans _ _ _ _ d c));have o:=a.sees;refine k8 (BK rfl rfl Bc rfl rfl (ks a.mt.1) Jz) rfl rfl (.refl _) rfl rfl ?_;clear a c d b;refine a5 (aN G) Js 200 _ _ _ Jt ?_;walk_nrm
  u_op U.trans hF
  u_c stepG_region_end U.trans hF
  exact Goes.stop (fun e b=>⟨rfl,fun k f=>(j e r _ n (U.trans hF b) o ..).k5 (aN G) f⟩)
theorem apc(G:A.Good){l:ab.av A.ar}{γ:ab.aT A.aQ}{sv aw:Bool}(e:bits .and .i32 old 4=0)
 (a:∀w',U (ah A) mine w w'->sK A Stop m mine b₁ a₁ aG i₁ aP k₁ cs₁ l γ bX sv true 0 old w'):
 xT A Stop m mine b₁ a₁ aG i₁ aP k₁ cs₁ l γ bX sv aw it old w:=by
 unfold xT;intros
 unfold sK at a;have hF:=U.refl (ah A) mine w;simp only[f126,Option.getD_some,cS,iQ,cH,fK,Nat.reduceBEq,Bool.false_eq_true,↓reduceIte]at a⊢;refine a5 (aN G) Js 300 _ _ γ Jt ?_;repeat w_nl U.trans
 u_c stepG_inLoop U.trans hF
 exact Goes.stop (fun d c=>⟨rfl,fun f b=>(a d (U.trans hF c) ..).k5 (aN G) b⟩)
end
end ba
namespace vp
open Conc
theorem aa7:(f72.name== "runtime.NumGoroutine")=false:=by kernel_rfl
theorem aa8:f72.body.isNone=true:=by kernel_rfl
theorem aa9:Extern.findNext f72=none:=by kernel_rfl
theorem aa_:Extern.find f72=some (fun _=>pure (.bool false)):=by kernel_rfl
theorem S7:(f105.name== "runtime.NumGoroutine")=false:=by kernel_rfl
theorem S8:f105.body.isNone=true:=by kernel_rfl
theorem S9:Extern.findNext f105=none:=by kernel_rfl
theorem S_:Extern.find f105=some (Extern.Atomic.update (Op.intArith .add) .u64 true):=by kernel_rfl
theorem Ta:(f106.name== "runtime.NumGoroutine")=false:=by kernel_rfl
theorem Tb:f106.body.isNone=true:=by kernel_rfl
theorem Tc:Extern.find f106=some (Extern.Atomic.loadT (.int .u64)):=by kernel_rfl
theorem Td:Extern.findNext f106=none:=by kernel_rfl
theorem apD:(f107.name== "runtime.NumGoroutine")=false:=by kernel_rfl
theorem apE:f107.body.isNone=true:=by kernel_rfl
theorem apF:Extern.find f107=some Extern.Atomic.storeT:=by kernel_rfl
theorem apG:Extern.findNext f107=none:=by kernel_rfl
theorem aba:(f112.name== "runtime.NumGoroutine")=false:=by kernel_rfl
theorem abb:f112.body.isNone=true:=by kernel_rfl
theorem abc:Extern.findNext f112=none:=by kernel_rfl
theorem abd:Extern.find f112=some (Extern.Atomic.casT (.int .u64)):=by kernel_rfl
theorem abe:(f88.name== "runtime.NumGoroutine")=false:=by kernel_rfl
theorem abf:f88.body.isNone=true:=by kernel_rfl
theorem abg:Extern.findNext f88=none:=by kernel_rfl
theorem abh:Extern.find f88=some Extern.Sync.semacquire:=by kernel_rfl
theorem apH:(f81.name== "runtime.NumGoroutine")=false:=by kernel_rfl
theorem abi:f81.body.isNone=true:=by kernel_rfl
theorem apI:Extern.findNext f81=none:=by kernel_rfl
theorem apJ:Extern.find f81=some Extern.Sync.semrelease:=by kernel_rfl
theorem apK:(f77.name== "runtime.NumGoroutine")=false:=by kernel_rfl
theorem apL:f77.body.isNone=true:=by kernel_rfl
theorem apM:Extern.findNext f77=none:=by kernel_rfl
theorem apN:Extern.find f77=some (Extern.Race.marked .read):=by kernel_rfl
theorem apO:(f87.name== "runtime.NumGoroutine")=false:=by kernel_rfl
theorem apP:f87.body.isNone=true:=by kernel_rfl
theorem apQ:Extern.findNext f87=none:=by kernel_rfl
theorem apR:Extern.find f87=some (Extern.Race.marked .write):=by kernel_rfl
theorem apS:(f49.name== "runtime.NumGoroutine")=false:=by kernel_rfl
theorem abj:(f76.name== "runtime.NumGoroutine")=false:=by kernel_rfl
theorem Te:(f78.name== "runtime.NumGoroutine")=false:=by kernel_rfl
theorem apT:(f79.name== "runtime.NumGoroutine")=false:=by kernel_rfl
theorem apU:(f86.name== "runtime.NumGoroutine")=false:=by kernel_rfl
end vp
namespace ba
open Conc RowKit Conc.Lib ConcR.Gen ConcM az bu ab
variable {bX gH it old:Int}{w:World}
section
section
variable {A:e_} {Stop:Bool->ab.av A.ar->a6->Prop} {m:Bool} {mine:Nat->Prop}
variable {b₁:Frame} {a₁:Act} {aG:Array Oper} {i₁:Nat} {aP:List Nat} {k₁:List Item} {cs₁:List Frame}
theorem apZ(G:A.Good){bB:bP}{dO:Nat}{a:A.ar}{γ:ab.aT A.aQ}{new:Int}(i:bits .and .i32 old 4=0)(l:bits .and .i32 old 5=0)(k:bits .and .i32 old 1=0)(d:bits .or .i32 old 1=gH)(j:bits .and .i32 gH 2=2)(n:bits .andNot .i32 gH 2=new)
 (c:∀w' b,U (ah A) mine w w'->(ah A).dN ⟨bB,false,1,dO,a⟩ γ b->rQ A Stop m mine b₁ a₁ aG i₁ aP k₁ cs₁ ⟨bB,false,1,dO,a⟩ b bX true true it old new w'):nM A Stop m mine b₁ a₁ aG i₁ aP k₁ cs₁ ⟨bB,false,1,dO,a⟩ γ bX true true it old w:=by
 unfold nM;intros
 unfold rQ at c;have hF:=U.refl (ah A) mine w;refine a5 (aN G) Js 300 _ _ γ Jt ?_;generalize hS:(fun(g:Goroutine)(w:World)=>g.status=.running/\_)=S;simp only[f126,Option.getD_some,cS,iQ,cH,fK,iD,Nat.reduceBEq,Bool.false_eq_true,↓reduceIte]at c⊢;repeat w_go U.trans
 refine Goes.stop (fun f e=>?_);replace hF:=U.trans hF e;subst hS;exact⟨rfl,fun b d=>c f b hF d ..⟩
theorem ap0(G:A.Good){bB:bP}{dO:Nat}{a:A.ar}{γ:ab.aT A.aQ}{new:Int}(j:bits .and .i32 old 4=0)(l:bits .and .i32 old 5=1)(d:bits .or .i32 old 1=old)(i:IntKind.wrap .i32 (old+8)=gH)(k:bits .and .i32 gH 2=2)(n:bits .andNot .i32 gH 2=new)
 (c:∀w' b,U (ah A) mine w w'->(ah A).dN ⟨bB,false,1,dO,a⟩ γ b->rQ A Stop m mine b₁ a₁ aG i₁ aP k₁ cs₁ ⟨bB,false,1,dO,a⟩ b bX false true it old new w'):nM A Stop m mine b₁ a₁ aG i₁ aP k₁ cs₁ ⟨bB,false,1,dO,a⟩ γ bX false true it old w:=by
 unfold nM;intros
 unfold rQ at c;have hF:=U.refl (ah A) mine w;refine a5 (aN G) Js 300 _ _ γ Jt ?_;generalize hS:(fun(g:Goroutine)(w:World)=>g.status=.running/\_)=S;simp only[f126,Option.getD_some,cS,iQ,cH,fK,iD,Nat.reduceBEq,Bool.false_eq_true,↓reduceIte]at c⊢;repeat w_go U.trans
 refine Goes.stop (fun f e=>?_);replace hF:=U.trans hF e;subst hS;exact⟨rfl,fun b d=>c f b hF d ..⟩
theorem ap1(G:A.Good){bB:bP}{dO:Nat}{a:A.ar}{γ:ab.aT A.aQ}{new d:Int}(k:bits .and .i32 old 4=0)(p:bits .and .i32 old 5=1)(o:bits .and .i32 old 1=1)(e:bits .or .i32 old 1=old)(j:IntKind.wrap .i32 (old+8)=gH)(l:bits .or .i32 gH 4=d)(n:bits .and .i32 d 2=2)(q:bits .andNot .i32 d 2=new)
 (c:∀w' b,U (ah A) mine w w'->(ah A).dN ⟨bB,false,1,dO,a⟩ γ b->rQ A Stop m mine b₁ a₁ aG i₁ aP k₁ cs₁ ⟨bB,false,1,dO,a⟩ b bX true true it old new w'):nM A Stop m mine b₁ a₁ aG i₁ aP k₁ cs₁ ⟨bB,false,1,dO,a⟩ γ bX true true it old w:=by
 unfold nM;intros
 unfold rQ at c;have hF:=U.refl (ah A) mine w;refine a5 (aN G) Js 300 _ _ γ Jt ?_;generalize hS:(fun(g:Goroutine)(w:World)=>g.status=.running/\_)=S;simp only[f126,Option.getD_some,cS,iQ,cH,fK,iD,Nat.reduceBEq,Bool.false_eq_true,↓reduceIte]at c⊢;repeat w_go U.trans
 refine Goes.stop (fun i f=>?_);replace hF:=U.trans hF f;subst hS;exact⟨rfl,fun b e=>c i b hF e ..⟩
end
end
end ba
end Go.Proofs.YtoehnnefaeoeoaaGreat
