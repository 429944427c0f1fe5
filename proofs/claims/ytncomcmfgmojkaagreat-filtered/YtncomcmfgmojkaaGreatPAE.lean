import Derived.Test.YtncomcmfgmojkaaGreatP01
import Derived.Conc.MuWords
import Derived.Test.YtncomcmfgmojkaaGreatProg
import Derived.Test.YtncomcmfgmojkaaGreatPAC
set_option linter.all false
set_option maxRecDepth 100000
set_option maxHeartbeats 16000000
namespace Go.Proofs.YtncomcmfgmojkaaGreat
open Go.Proofs.Tryz
namespace bn
open Conc ConcM ConcN av
section
section
variable{Z:eY}{Q:cg}{Stop:Bool->Z.Lo->aV->Prop}{m:Bool}{l:Z.Lo}{γ:Z.aN}
theorem zz{mine:Nat->Prop}:∀(es:List Event)(d:Nat),(∀e∈es,∀d,sZ Z l mine d e)->oy Z l mine d es
 | [],_,_=>trivial
 |e::es,d,h=>⟨h e A_ d,zz es _ AA⟩
def qm(X:aV)(fr:Nat->Prop):aV:=⟨X.g,X.w,λb=>X.mine b\/fr b⟩
end
end
end bn
namespace ah
open Conc ConcM av bn
structure Lo(al:Type) where
 mx:bU
 tok:Bool
 deaf:Nat
 fuel:Nat
 am:al
structure aN(aJ:Type) where
 mu:bj
 a_:Nat
 am:aJ
structure eR where
 al:Type
 aJ:Type
 Fx:aJ->List al->Prop
 xq:aJ->Nat
 Bx:Bool->al->aJ->aJ->Prop
 RE:al->aJ->Prop
 left:al->Prop
 past:al->Bool
 zero:al->Prop
 st:Nat
 ty:TypeId
 cells:aJ->Array Value
 nV:aJ->aO->Prop
 By:Nat->Prop
 gF:Loc->Prop
 eK:Loc->Prop
 K:Nat->Prop
 wg:Addr
 most:Nat
structure eR.Good(A:eR):Prop where
 refl:∀o a b,A.Bx o a b b
 trans:∀o a b c d,A.Bx o a b c->A.Bx o a c d->A.Bx o a b d
 RF:∀b w w',(∀k,A.By k->w'.heap[k]?=w.heap[k]?)->A.nV b w->A.nV b w'
 L0:¬A.By A.st
 nh:∀b,A.K b->b≠A.st/\¬A.By b
 nI:∀b aC,A.Fx b aC->∃(j:Nat)(a:A.al),aC[j]?=some a/\¬A.left a/\¬A.RE a b
 zero:∀b(aC:List A.al)(j:Nat) a,A.Fx b aC->aC[j]?=some a->A.zero a->j=0
 gF:∀l,A.gF l->(∃off sp,l=.cell ⟨A.st,off,sp⟩/\2<=off)\/∃b,e8 l=some b/\A.By b
 eK:∀l,A.eK l->∃b,e8 l=some b/\A.By b
 sX:∀l,A.gF l->¬A.eK l
def YF:bU->Bool| .own=>true| _=>false
def fN(A:eR):Addr:=⟨A.st,0,none⟩
def ko(A:eR):Addr:=⟨A.st,1,none⟩
def gT(A:eR)(m:bj)(b:A.aJ):Obj:=.cells (#[.int .i32 (m.word:Int),.int .u32 (m.sema:Int)]++A.cells b) A.ty
structure rT(A:eR)(γ:aN A.aJ)(ls:List (Lo A.al)):Prop where
 lx:df γ.mu (ls.map (·.mx))
 oB:A.Fx γ.am (ls.map (·.am))
 gI:(ls.map (·.fuel)).sum+2*qn γ.mu (ls.map (·.mx))+A.xq γ.am<=γ.a_
 aQ:∀(i:Nat)(l:Lo A.al),ls[i]?=some l->l.tok=true->l.mx=.own
 Iq:∀(i:Nat)(l:Lo A.al),ls[i]?=some l->A.left l.am->l.mx=.idle
 len:ls.length<=A.most
abbrev ak(A:eR):eY where
 Lo:=Lo A.al
 aN:=aN A.aJ
 a_:=λγ=>γ.a_
 pj:=rT A
 dY:=λl γ aj=>aj=γ\/(aj.a_<γ.a_/\A.Bx (YF l.mx) l.am γ.am aj.am/\xp l.mx γ.mu aj.mu)
 K:=A.K
 gG:=λb=>b=A.st\/A.By b
 sY:=λγ w=>w.heap[A.st]?=some (gT A γ.mu γ.am)/\A.nV γ.am w
 tok:=λl=>l.tok
 deaf:=λl=>l.deaf
 past:=λl=>A.past l.am
 Left:=λl=>A.left l.am
 zero:=λl=>A.zero l.am
 nU:=λl γ=>(l.mx=.jr/\γ.mu.sema=0)\/(l.mx=.idle/\A.RE l.am γ.am)
 gF:=A.gF
 eK:=λl=>l=.cell (fN A)\/l=.cell (ko A)\/A.eK l
 mu:=fN A
 wg:=A.wg
 ox:=λ_ _ _=>False
theorem L1:∀(l:List Nat)(i x:Nat),l[i]?=some x->x<=l.sum
 |a::l,0,x,h=>AA
 |a::l,i+1,x,h=>by have:=L1 l i x AA;grind
def Fy{A:eR}{ls:List (Lo A.al)}{i:Nat}{l:Lo A.al}(h:ls[i]?=some l):(ls.map (·.mx))[i]?=some l.mx:=by grind
theorem RG{al aJ:Type}(f:al->aJ){ls:List al}{i:Nat}{l l1:al}(h:ls[i]?=some l)(a:f l1=f l):(ls.set i l1).map f=ls.map f:=by apply List.ext_getElem?;grind
def dg{A:eR}(G:A.Good):(ak A).Good where
 refl:=AA
 trans:=by
  rintro l a b c (rfl|⟨h1,d,h3⟩) (rfl|⟨s,p,o⟩)
  .grind
  .grind
  .grind
  .exact .inr ⟨AA,G.trans _ _ _ _ _ d p,h3.trans o⟩
 less:=by grind
 mt:=λγ w w' hs⟨h1,d⟩=>⟨AA,G.RF _ w w' AA d⟩
 nh:=λb g hs=>hs.elim (G.nh b g).1 (G.nh b g).2
 one:=λγ ls i j a b h hi f r g=>by have h1:=h.aQ i a hi r;have d:=h.aQ j b f g;exact h.lx.YC AA AA
 nI:=λγ ls h=>by
  obtain⟨j,a,f,u,t⟩:=G.nI _ _ h.oB;rw[List.getElem?_map]at f;obtain⟨l,v,rfl⟩:=Option.map_eq_some_iff.1 f;by_cases hq:l.mx=.jr/\γ.mu.sema=0
  .obtain⟨k,y,hk,h1,d⟩:=h.lx.alive hq.2 (i:=j) AA;rw[List.getElem?_map]at hk;obtain⟨n,m,rfl⟩:=Option.map_eq_some_iff.1 hk;exact⟨k,n,m,λe=>h1 (h.Iq k n m e),AA⟩
  grind
 zero:=λγ ls j l h f q=>G.zero _ _ j l.am h.oB AA q
 Fs:=λl h=>by
  rcases G.gF l h with⟨off,sp,rfl,_⟩|⟨b,h1,d⟩
  .exact⟨A.st,Y,.inl Y⟩
  grind
 Bl:=λl h=>by
  rcases h with rfl|rfl|h
  .exact⟨A.st,Y,.inl Y⟩
  .exact⟨A.st,Y,.inl Y⟩
  .obtain⟨b,h1,d⟩:=G.eK l h;grind
 sX:=λl h hs=>by
  rcases hs with rfl|rfl|hs
  .rcases G.gF _ h with⟨off,sp,e,d⟩|⟨b,h1,d⟩
   .grind[fN]
   .simp[e8,fN]at h1;subst h1;exact G.L0 d
  .rcases G.gF _ h with⟨off,sp,e,d⟩|⟨b,h1,d⟩
   .grind[ko]
   .simp[e8,ko]at h1;subst h1;exact G.L0 d
  .exact G.sX l h hs
def Ir{A:eR}(G:A.Good){l:Lo A.al}{γ:aN A.aJ}(hs:gH (ak A) l γ){y:bU}{m1:bj}{f1 d1:Nat}{mO:Bool}(h:lv l.mx y γ.mu m1 l.fuel f1)(ht:mO=true->y=.own)(t:¬A.left l.am\/y=.idle):
 Bn (ak A) l γ ({mx:=y,tok:=mO,deaf:=d1,fuel:=f1,am:=l.am}:Lo A.al) ({mu:=m1,a_:=γ.a_-1,am:=γ.am}:aN A.aJ):=by
 have key:∀(ls:List (Lo A.al))(i:Nat),ls[i]?=some l->rT A γ ls->(ls.map (·.fuel)).sum+f1=((ls.set i ({mx:=y,tok:=mO,deaf:=d1,fuel:=f1,am:=l.am}:Lo A.al)).map (·.fuel)).sum+l.fuel/\1<=γ.a_/\
  ((ls.set i ({mx:=y,tok:=mO,deaf:=d1,fuel:=f1,am:=l.am}:Lo A.al)).map (·.fuel)).sum+2*qn m1 ((ls.map (·.mx)).set i y)+A.xq γ.am<=γ.a_-1:=by
  intro ls i hi hg;have c:i<ls.length:=(List.getElem?_eq_some_iff.1 hi).1;have r:=(List.getElem?_eq_some_iff.1 hi).2;have e:=Fu (ls.map (·.fuel)) i f1 AA;have k:(ls.set i ({mx:=y,tok:=mO,deaf:=d1,fuel:=f1,am:=l.am}:Lo A.al)).map (·.fuel)=(ls.map (·.fuel)).set i f1:=Br;rw[k];have g:(ls.map (·.fuel))[i]'AA=l.fuel:=AA;rw[g]at e;have u:=h.fuel _ i (Fy hi) hg.lx;have s:=L1 (ls.map (·.fuel)) i l.fuel AA;have:=hg.gI;omega
 refine⟨?_,λls i hi hg=>?_⟩
 .obtain⟨ls,i,hi,hg⟩:=hs;grind
 .obtain⟨_,q,p⟩:=key ls i hi hg;have o:(ls.set i ({mx:=y,tok:=mO,deaf:=d1,fuel:=f1,am:=l.am}:Lo A.al)).map (·.mx)=(ls.map (·.mx)).set i y:=Br;have n:(ls.set i ({mx:=y,tok:=mO,deaf:=d1,fuel:=f1,am:=l.am}:Lo A.al)).map (·.am)=ls.map (·.am):=RG _ hi Y;have c:i<ls.length:=(List.getElem?_eq_some_iff.1 hi).1;refine⟨⟨by rw[o];exact h.inv _ i (Fy hi) hg.lx,by rw[n];exact hg.oB,AA,λj b a hk=>?_,λj b a hk=>?_,by rw[List.length_set];exact hg.len⟩,λj f a m=>.inr ⟨AA,G.refl _ _ _,h.km _ i j f.mx hg.lx (Fy hi) a (Fy m)⟩⟩
  .by_cases d:j=i
   .grind
   .rw[List.getElem?_set_ne (Ne.symm d)]at a;exact hg.aQ j b a hk
  .by_cases d:j=i
   .grind
   .rw[List.getElem?_set_ne (Ne.symm d)]at a;exact hg.Iq j b a hk
end ah
namespace ah
open Conc av bn
structure ai(Z:eY)(mine:Nat->Prop)(w w1:aO):Prop where
 heap:∀b,Z.K b\/mine b->w1.heap[b]?=w.heap[b]?
 size:w.heap.size<=w1.heap.size
 later:Go.ConcM.OsLater w.os w1.os
 output:w1.output=w.output
 tape:w1.tape=w.tape
theorem ai.refl(Z:eY)(mine:Nat->Prop)(w:aO):ai Z mine w w:=⟨λ_ _=>Y,Nat.le_refl _,.refl _,Y,Y⟩
theorem ai.trans{Z:eY}{mine:Nat->Prop}{a b c:aO}(h:ai Z mine a b)(k:ai Z mine b c):ai Z mine a c:=
 ⟨λx d=>(k.heap x d).trans (h.heap x d),Nat.le_trans h.size k.size,h.later.trans k.later,k.output.trans h.output,k.tape.trans h.tape⟩
theorem kX{mine:Nat->Prop}{w w1:aO}(h:w1.heap.size=w.heap.size):grown mine w w1=mine:=by grind[grown]
variable{g:Goroutine}
section
variable{Z:eY}{Q:cg}{Stop:Bool->Z.Lo->aV->Prop}{m:Bool}{l:Z.Lo}
def dO.rw{γ:Z.aN}{X:aV}{w':aO}(h:dO Z l γ X w'):ai Z X.mine X.w w':=⟨h.rely.heap,h.rely.size,h.later,h.output,h.tape⟩
def ak6{mine:Nat->Prop}{D:aO->aO->Array Event->Prop}{S:Goroutine->aO->Prop}:∀{n:Nat}{g:Goroutine}{w:aO},Goes Q m (ai Z mine) D (λg w=>g.status=.running/\S g w) n g w->g.status=.running
 |0,_,w,h=>(h w (.refl _ _ _)).1
 | _+1,_,w,h=>h.elim (λh=>(h w (.refl _ _ _)).1) (λh=>h.1)
def dH{mine:Nat->Prop}{X:Z.aN->Prop}{n:Nat}{w0 w:aO}(hs:g.status=.running)(hF:ai Z mine w0 w)(h:∀b,ai Z mine w b->∀e,X e->∀a d,Z.dY l e d->dO Z l d ⟨g,b,mine⟩ a->ai Z mine w0 a->Then Q Stop m l d ⟨g,b,mine⟩ a):
 Goes Q m (ai Z mine) Go.ConcR.DC0 (λg w=>g.status=.running/\∀i,X i->bh Z Q Stop m l i ⟨g,w,mine⟩) n g w:=
 Goes.stop λb c=>⟨hs,λe k=>bh.mk hs λa d j f=>h b c e k a d j f ((hF.trans c).trans (dO.rw f))⟩
theorem tU(G:Z.Good)(c:∀g g1,¬Z.ox l g g1){mine:Nat->Prop}{γ:Z.aN}:∀(n:Nat)(g:Goroutine)(w:aO)(bx:Z.aN),Z.dY l γ bx->
 Goes Q m (ai Z mine) Go.ConcR.DC0 (λg w=>g.status=.running/\∀a,Z.dY l γ a->bh Z Q Stop m l a ⟨g,w,mine⟩) n g w->bh Z Q Stop m l bx ⟨g,w,mine⟩
 |0,g,w,bx,b,h=>(h w (.refl _ _ _)).2 bx b
 |n+1,g,w,bx,b,h=>by
  rcases h with h|⟨hs,h⟩
  .exact(h w (.refl _ _ _)).2 bx b
  .refine bh.mk hs λw' a f d=>?_;have:=h w' (dO.rw d);cases hst:stepG Q m g w' with
   |go g1 w1 es=>
    rw[hst]at this;obtain⟨⟨rfl,rfl⟩,h1⟩:=this;have hg:grown mine w1 w1=mine:=kX Y;refine .quiet hst ⟨?_,⟨AA,Nat.le_refl _,.refl _,Y,Y⟩,λ_ _ _=>Y,PA,?_⟩ ?_
    .exact ak6 h1
    .rintro(⟨e,i,_⟩|h)
     .grind
     grind
    .show bh Z Q Stop m l a ⟨g1,w1,grown mine w1 w1⟩;rw[hg];exact tU G c n g1 w1 a (G.trans _ _ _ _ b f) h1
   | _=>rw[hst]at this;exact this.elim
end
variable{g1:Goroutine}{m1 mu:bj}{f1:Nat}
section
variable{A:eR}{Q:cg}{Stop:Bool->Lo A.al->aV->Prop}{m:Bool}{l:Lo A.al}{γ:aN A.aJ}{X:aV}{w':aO}
def bk(G:A.Good){mine:Nat->Prop}{w:aO}(h:Goes Q m (ai (ak A) mine) Go.ConcR.DC0 (λg w=>g.status=.running/\∀a,(ak A).dY l γ a->bh (ak A) Q Stop m l a ⟨g,w,mine⟩) 300 g w):bh (ak A) Q Stop m l γ ⟨g,w,mine⟩:=
 tU (dg G) (λ_ _ h=>h) 300 _ _ _ Kg h
def ly{b:A.aJ}{w:aO}(h:w.heap[A.st]?=some (gT A mu b)):w.cell? (fN A)=some (.int .i32 (mu.word:Int)):=by simp[World.cell?,fN,h,gT];grind
def It{b:A.aJ}{w:aO}(h:w.heap[A.st]?=some (gT A mu b)):w.cell? (ko A)=some (.int .u32 (mu.sema:Int)):=by simp[World.cell?,ko,h,gT];grind
def pm{b:A.aJ}{w:aO}(h:w.heap[A.st]?=some (gT A mu b))(off:Nat)(sp):w.frozen? ⟨A.st,off,sp⟩=false:=by simp[World.frozen?,h,gT]
theorem ni(w:aO)(a:Addr)(v:Value){b:Nat}(c:b≠a.block):(w.setCell a v).heap[b]?=w.heap[b]?:=by simp[World.setCell,Array.getElem?_modify,Ne.symm c]
def oC(w:aO)(a:Addr)(v:Value):(w.setCell a v).heap.size=w.heap.size:=by simp_all
def ak7{b:A.aJ}{w:aO}(h:w.heap[A.st]?=some (gT A mu b))(hs:m1.sema=mu.sema):(w.setCell (fN A) (.int .i32 (m1.word:Int))).heap[A.st]?=some (gT A m1 b):=by unfold World.setCell;simp_all[fN,Array.getElem?_modify,gT]
def ak8{b:A.aJ}{w:aO}(h:w.heap[A.st]?=some (gT A mu b))(hs:m1.word=mu.word):(w.setCell (ko A) (.int .u32 (m1.sema:Int))).heap[A.st]?=some (gT A m1 b):=by unfold World.setCell;simp_all[ko,Array.getElem?_modify,gT]
def YG(G:A.Good){b:A.aJ}{w:aO}(h:A.nV b w)(off:Nat)(sp)(v:Value):A.nV b (w.setCell ⟨A.st,off,sp⟩ v):=
 G.RF b w _ (λk hk=>ni w _ v (λe=>G.L0 AA)) h
def YH{mine:Nat->Prop}(w:aO)(off:Nat)(sp)(v:Value):kW (ak A) mine w (w.setCell ⟨A.st,off,sp⟩ v):=
 ⟨λb _ _ hs=>ni w _ v AA,Br,.refl _,Y,Y⟩
def ra(Z:eY)(mine:Nat->Prop)(w:aO):kW Z mine w w:=⟨AA,Nat.le_refl _,.refl _,Y,Y⟩
theorem ak9(G:A.Good)(a:dO (ak A) l γ X w'){y:bU}(hs:stepG Q m X.g w'=.go g1 (w'.setCell (fN A) (.int .i32 (m1.word:Int))) #[⟨.cell (fN A),false,true⟩,⟨.cell (fN A),true,true⟩])(hrun:g1.status=.running)(hd:0<l.deaf)(b:m1.sema=γ.mu.sema)(d:¬A.left l.am)(ht:lv l.mx y γ.mu m1 l.fuel f1)(c:l.tok=true->y=.own)(h:bh (ak A) Q Stop m ({l with mx:=y,fuel:=f1}:Lo A.al) ({γ with mu:=m1,a_:=γ.a_-1}:aN A.aJ) ⟨g1,w'.setCell (fN A) (.int .i32 (m1.word:Int)),X.mine⟩):
 Then (Z:=ak A) Q Stop m l γ X w':=by
 have hg:grown X.mine w' (w'.setCell (fN A) (.int .i32 (m1.word:Int)))=X.mine:=kX (oC _ _ _);refine .turn (l1:=({l with mx:=y,fuel:=f1}:Lo A.al)) (bx:=({γ with mu:=m1,a_:=γ.a_-1}:aN A.aJ)) hs ⟨hrun,.inl ⟨⟨.cell (fN A),true,true⟩,A_,.inr (.inr (.inr (.inr ⟨Y,A.st,Y,.inl Y⟩)))⟩,YH w' 0 none _,⟨ak7 a.mt.1 b,YG G a.mt.2 _ _ _⟩,
  Ir (d1:=l.deaf) (mO:=l.tok) G a.sees ht c (.inl d),.inl ⟨Y,Y,Y,?_⟩,.inr λe f=>?_⟩ AA ?_
 .exact⟨.inr AA,.inr ⟨Y,.inl Y,hd⟩,PA⟩
 .grind
 grind
theorem ak_(G:A.Good)(a:dO (ak A) l γ X w'){y:bU}(hs:stepG Q m X.g w'=.go g1 (w'.setCell (ko A) (.int .u32 (m1.sema:Int))) (semEvents (ko A)))(hrun:g1.status=.running)(e:m1.word=γ.mu.word)(d:¬A.left l.am)(ht:lv l.mx y γ.mu m1 l.fuel f1)(c:l.tok=true->y=.own)(b:mayWake Q X.g=true\/0<γ.mu.sema)(h:bh (ak A) Q Stop m ({l with mx:=y,fuel:=f1}:Lo A.al) ({γ with mu:=m1,a_:=γ.a_-1}:aN A.aJ) ⟨g1,w'.setCell (ko A) (.int .u32 (m1.sema:Int)),X.mine⟩):Then (Z:=ak A) Q Stop m l γ X w':=by
 have hg:grown X.mine w' (w'.setCell (ko A) (.int .u32 (m1.sema:Int)))=X.mine:=kX (oC _ _ _);refine .turn (l1:=({l with mx:=y,fuel:=f1}:Lo A.al)) (bx:=({γ with mu:=m1,a_:=γ.a_-1}:aN A.aJ)) hs ⟨hrun,.inl ⟨⟨.cell (ko A),true,true⟩,by simp[semEvents],.inr (.inr (.inr (.inr ⟨Y,A.st,Y,.inl Y⟩)))⟩,YH w' 1 none _,⟨ak8 a.mt.1 e,YG G a.mt.2 _ _ _⟩,
  Ir (d1:=l.deaf) (mO:=l.tok) G a.sees ht c (.inl d),.inl ⟨Y,Y,?_,?_⟩,b.imp id λi f g=>?_⟩ AA ?_
 .grind[deafBehind,semEvents]
 .exact⟨.inl trivial,.inr ⟨Y,.inr Kg,H3⟩,.inr ⟨Y,.inr Kg,H3⟩,.inl trivial,PA⟩
 .grind
 grind
def rU(G:A.Good)(b:dO (ak A) l γ X w'){mk:Mark}(a:mk=.disable\/mk=.enable){y:bU}(hs:stepG Q m X.g w'=.go g1 w' #[⟨.mark mk,false,true⟩])(hrun:g1.status=.running)(d:¬A.left l.am)(ht:lv l.mx y γ.mu γ.mu l.fuel f1)(c:l.tok=true->y=.own){d1:Nat}(hd:d1=deafBehind l.deaf #[⟨.mark mk,false,true⟩])(h:bh (ak A) Q Stop m ({l with mx:=y,fuel:=f1,deaf:=d1}:Lo A.al) ({γ with a_:=γ.a_-1}:aN A.aJ) ⟨g1,w',X.mine⟩):Then (Z:=ak A) Q Stop m l γ X w':=by
 refine .turn (l1:=({l with mx:=y,fuel:=f1,deaf:=d1}:Lo A.al)) (bx:=({γ with a_:=γ.a_-1}:aN A.aJ)) hs ⟨hrun,.inl ⟨⟨.mark mk,false,true⟩,A_,a.elim (λe=>.inl (by rw[e])) (λe=>.inr AA)⟩,ra _ _ _,b.mt,
  Ir (d1:=d1) (mO:=l.tok) G b.sees ht c (.inl d),.inl ⟨Y,Y,hd,.inl ?_,PA⟩,AA⟩ AA ?_
 .rcases a with rfl|rfl<;>trivial
 grind[kX]
def RH(G:A.Good)(b:dO (ak A) l γ X w')(hs:stepG Q m X.g w'=.go g1 w' #[⟨.mark (.acquire (fN A)),false,true⟩])(hrun:g1.status=.running)(c:¬A.left l.am)(a:l.mx=.own)(ht:l.tok=false)(hd:l.deaf=0)(d:f1<l.fuel)(h:bh (ak A) Q Stop m ({l with fuel:=f1,tok:=true}:Lo A.al) ({γ with a_:=γ.a_-1}:aN A.aJ) ⟨g1,w',X.mine⟩):Then (Z:=ak A) Q Stop m l γ X w':=by
 refine .turn (l1:=({l with fuel:=f1,tok:=true}:Lo A.al)) (bx:=({γ with a_:=γ.a_-1}:aN A.aJ)) hs ⟨hrun,.inl ⟨⟨.mark (.acquire (fN A)),false,true⟩,A_,.inr AA⟩,ra _ _ _,b.mt,
  Ir (d1:=l.deaf) (mO:=true) G b.sees (rS d l.mx) (λ_=>a) (.inl c),.inr (.inl ⟨Y,hd,hd,ht,Y,Y⟩),AA⟩ AA ?_
 grind[kX]
def ala(G:A.Good)(a:dO (ak A) l γ X w')(hs:stepG Q m X.g w'=.go g1 w' #[⟨.mark (.releaseMerge (fN A)),false,true⟩])(hrun:g1.status=.running)(b:¬A.left l.am)(ht:l.tok=true)(hd:l.deaf=0)(c:f1<l.fuel)(h:bh (ak A) Q Stop m ({l with fuel:=f1,tok:=false}:Lo A.al) ({γ with a_:=γ.a_-1}:aN A.aJ) ⟨g1,w',X.mine⟩):Then (Z:=ak A) Q Stop m l γ X w':=by
 refine .turn (l1:=({l with fuel:=f1,tok:=false}:Lo A.al)) (bx:=({γ with a_:=γ.a_-1}:aN A.aJ)) hs ⟨hrun,.inl ⟨⟨.mark (.releaseMerge (fN A)),false,true⟩,A_,.inr AA⟩,ra _ _ _,a.mt,
  Ir (d1:=l.deaf) (mO:=false) G a.sees (rS c l.mx) AA (.inl b),.inr (.inr (.inl ⟨Y,hd,hd,ht,Y,Y⟩)),AA⟩ AA ?_
 grind[kX]
def lz{w1:aO}(hs:stepG Q m X.g w'=.go g1 w1 #[])(hrun:g1.status=.running)(d:w1.heap=w'.heap)(b:Go.ConcM.OsLater w'.os w1.os)(a:w1.output=w'.output)(ht:w1.tape=w'.tape)(h:bh (ak A) Q Stop m l γ ⟨g1,w1,X.mine⟩):Then (Z:=ak A) Q Stop m l γ X w':=by
 refine .quiet hs ⟨hrun,⟨AA,AA,b,a,ht⟩,AA,PA,?_⟩ ?_
 .rintro(⟨e,c,_⟩|h)
  .grind
  grind
 grind[kX]
def L5(hs:stepG Q m X.g w'=.go g1 w' #[⟨.cell (fN A),false,true⟩])(hrun:g1.status=.running)(hd:0<l.deaf)(h:bh (ak A) Q Stop m l γ ⟨g1,w',X.mine⟩):Then (Z:=ak A) Q Stop m l γ X w':=by
 refine .quiet hs ⟨hrun,ra _ _ _,λ_ _ _=>Y,⟨.inr AA,PA⟩,?_⟩ ?_
 .rintro(⟨e,a,b⟩|h)
  .simp at a;subst a;rcases b with h|h|⟨_,h⟩|⟨_,h⟩|⟨h,_⟩<;>cases h
  grind
 grind[kX]
end
end ah
namespace bO
open Conc
theorem Cq:(f73.name== "runtime.NumGoroutine")=false:=by kernel_rfl
theorem Cr:f73.body.isNone=true:=by kernel_rfl
theorem Cs:Extern.findNext f73=none:=by kernel_rfl
theorem Ct:Extern.find f73=some (λ_=>do mark .disable;pure Extern.Race.none_):=by kernel_rfl
theorem qy:(f74.name== "runtime.NumGoroutine")=false:=by kernel_rfl
theorem qz:f74.body.isNone=true:=by kernel_rfl
theorem qA:Extern.findNext f74=none:=by kernel_rfl
theorem qB:Extern.find f74=some (λ_=>do mark .enable;pure Extern.Race.none_):=by kernel_rfl
theorem F3:(f87.name== "runtime.NumGoroutine")=false:=by kernel_rfl
theorem F4:f87.body.isNone=true:=by kernel_rfl
theorem F5:Extern.findNext f87=none:=by kernel_rfl
theorem F6:Extern.find f87=some (Extern.Race.marked .acquire):=by kernel_rfl
theorem Ti:(f72.name== "runtime.NumGoroutine")=false:=by kernel_rfl
theorem Tj:f72.body.isNone=true:=by kernel_rfl
theorem Tk:Extern.findNext f72=none:=by kernel_rfl
theorem Tl:Extern.find f72=some (Extern.Race.marked .releaseMerge):=by kernel_rfl
theorem xR:(f128.name== "runtime.NumGoroutine")=false:=by kernel_rfl
theorem xS:f128.body.isNone=true:=by kernel_rfl
theorem xT:Extern.findNext f128=none:=by kernel_rfl
theorem xU:Extern.find f128=some (Extern.Atomic.casT (.int .i32)):=by kernel_rfl
theorem I5:(f130.name== "runtime.NumGoroutine")=false:=by kernel_rfl
theorem I6:f130.body.isNone=true:=by kernel_rfl
theorem I7:Extern.findNext f130=none:=by kernel_rfl
theorem I8:Extern.find f130=some (Extern.Atomic.update (Op.intArith .add) .i32 true):=by kernel_rfl
theorem Q5:(f146.name== "runtime.NumGoroutine")=false:=by kernel_rfl
theorem QZ:f146.body.isNone=true:=by kernel_rfl
theorem QY:Extern.findNext f146=none:=by kernel_rfl
theorem QX:Extern.find f146=some Extern.Sync.canSpin:=by kernel_rfl
theorem ao6:(f147.name== "runtime.NumGoroutine")=false:=by kernel_rfl
theorem ao7:f147.body.isNone=true:=by kernel_rfl
theorem ao8:Extern.findNext f147=none:=by kernel_rfl
theorem ao9:Extern.find f147=some Extern.Sync.nothing:=by kernel_rfl
theorem QW:(f149.name== "runtime.NumGoroutine")=false:=by kernel_rfl
theorem QB:f149.body.isNone=true:=by kernel_rfl
theorem Ty:Extern.findNext f149=none:=by kernel_rfl
theorem Tx:Extern.find f149=some Extern.OsHooks.nano:=by kernel_rfl
theorem Tm:(f150.name== "runtime.NumGoroutine")=false:=by kernel_rfl
theorem Tn:f150.body.isNone=true:=by kernel_rfl
theorem To:Extern.findNext f150=none:=by kernel_rfl
theorem Tp:Extern.find f150=some Extern.Sync.semacquire:=by kernel_rfl
theorem Tv:(f152.name== "runtime.NumGoroutine")=false:=by kernel_rfl
theorem Nf:f152.body.isNone=true:=by kernel_rfl
theorem Te:Extern.findNext f152=none:=by kernel_rfl
theorem Td:Extern.find f152=some Extern.Sync.semrelease:=by kernel_rfl
theorem S4:f149.norace=true:=by kernel_rfl
theorem Tq:(f92.name== "runtime.NumGoroutine")=false:=by kernel_rfl
theorem I9:(f93.name== "runtime.NumGoroutine")=false:=by kernel_rfl
theorem S3:(f116.name== "runtime.NumGoroutine")=false:=by kernel_rfl
theorem S2:(f117.name== "runtime.NumGoroutine")=false:=by kernel_rfl
theorem SQ:(prog.funcs[(base 117).fn]?).any (·.norace)=true:=by kernel_rfl
theorem ao_:(f129.name== "runtime.NumGoroutine")=false:=by kernel_rfl
theorem I_:(prog.funcs[(base 129).fn]?).any (·.norace)=true:=by kernel_rfl
theorem SH:(f131.name== "runtime.NumGoroutine")=false:=by kernel_rfl
theorem apa:(prog.funcs[(base 131).fn]?).any (·.norace)=true:=by kernel_rfl
open RowKit Conc.Lib ConcR.Gen ConcM av bn ah
def SF:prog.underlying 240=some (.pointer 171):=by simp
def Ng:prog.underlying 178=some .unsafePointer:=by simp
theorem SD:(prog.info? 171).map (λi=>decide (i.size=0))=some false:=by kernel_rfl
section
variable{m:Bool}{b:Frame}{a:Act}{kk:List Item}{cs:List Frame}{w:aO}{ops:Array Oper}{i:Nat}{rest:List Nat}{o:Oper}
def F7{x:Operand}(g:ops[i]?=some o)(d:Region.wanted o (yielded ops a.tmps)=true)(hk:b.kind≠ .early)(f:o.op=.convert 240 178 x){ad:Addr}{v:Value}(k:a.eval x=.pointer (some ad))(c:w.cell? ad=some v):
 stepG prog m (Conc.G (b.at a (.inRegion ops (i::rest)::kk)) cs) w=.go (Conc.G (b.at (a.put o.dst (.pointer (some ad))) (.inRegion ops rest::kk)) cs) w #[]:=by
 have h:=run_convert_to_unsafe (P:=prog) SF Ng SD c;have j:=λes=>events_convert_to_unsafe (P:=prog) SF Ng SD c es;have e:(execOp a.eval o).run prog w=.ok (.value (.pointer (some ad))) w:=by simp_all[execOp]
 have l:(execOp a.eval o).events prog w #[]=#[]:=by simp_all[execOp]
 rw[stepG_value g d hk e];grind[listed,seen_none]
def z_{x:Operand}(h:ops[i]?=some o)(f:Region.wanted o (yielded ops a.tmps)=true)(hk:b.kind≠ .early)(c:o.op=.load 21 x){ad:Addr}{v:Int}(d:a.eval x=.pointer (some ad))(e:w.cell? ad=some (.int .i32 v))(hq:(prog.funcs[b.fn]?).any (·.norace)=true):
 stepG prog m (Conc.G (b.at a (.inRegion ops (i::rest)::kk)) cs) w=.go (Conc.G (b.at (a.put o.dst (.int .i32 v)) (.inRegion ops rest::kk)) cs) w #[]:=by
 have g:(execOp a.eval o).run prog w=.ok (.value (.int .i32 v)) w:=by unfold execOp;simp only[c,d];simp[go_sem,e]
 have j:(execOp a.eval o).events prog w #[]=#[⟨.cell ad,false,false⟩]:=by unfold execOp;simp only[c,d];simp[go_sem,e]
 rw[stepG_value h f hk g];grind[listed,seen_def,seenStep]
end
def Tr{mu:bj}(h:mu.word=0):mu.L=false/\mu.W=false/\mu.S=false/\mu.k=0:=by grind[bj.word]
def dp:Code->Option Code
 | .loop c=>some c
 | .seq x y=>match dp x with|some c=>some c|none=>dp y
 | .block _ c=>dp c
 | .cond _ x y=>match dp x with|some c=>some c|none=>dp y
 | _=>none
def kx:Code->Option Code
 | .seq (.block _ _) r=>some r
 | .seq _ y=>kx y
 | _=>none
def dR(id:Nat):Code->Option Code
 | .seq x y=>if(match x with| .region i _ _=>i==id| _=>false)then some (.seq x y)else match dR id x with|some c=>some c|none=>dR id y
 | .block _ c=>dR id c
 | .loop c=>dR id c
 | .cond _ x y=>match dR id x with|some c=>some c|none=>dR id y
 | _=>none
def ky:Code->Code
 | .seq _ y=>y
 | _=>.skip
def n2:Code->Array Oper
 | .seq (.region _ o _) _=>o
 | _=>#[]
def jf(ks:List Item)(A:eR)(Stop:Bool->ah.Lo A.al->aV->Prop)(m:Bool)(mine:Nat->Prop)(a2:Frame)(aF:Act)(aD:Array Oper)(aI:Nat)(aL:List Nat)(aH:List Item)(csZ:List Frame)(l:ah.Lo A.al)(γ:ah.aN A.aJ)(cw:Int)(sv aw:Bool)(it old:Int)(w:aO):Prop:=
 ∀(dC sm ft eW fu fv fx fy qC qD fG fz fA fB iq fC gi gj gl ux uy uz uA uB uC uD uE uF uG uH uI uJ uK uL uM uN uO xV xW xX xY xZ x0 x1 x2 x3 x4 x5 x6 x7 x8 x9 x_ ya yb yc yd ye yf yg yh yi yj yk yl ym yn yo yp yq yr Cu Cv Cw Cx yt yu yv Cy Cz CA CB CC CD CE Ja CF CG CH CI CJ CK CL CM CN CO CP CQ CR CS CU CV CW CX CY CZ C0 C1 C2 C3 C4 C5 C6 C7 C8 C9 C_ Da Db Dc Dd De Df Dg Dh Di Dj Dk Dl Dm Dn Do Dp:Value),bh (ak A) prog Stop m l γ ⟨Conc.G ((base 129).at ⟨#[.pointer (some (ah.fN A)),dC,.int .i64 cw,.bool sv,.bool aw,.int .i64 it,.int .i32 old,sm,ft,eW,fu,fv,fx,fy,qC,qD,fG,fz,fA,fB,iq,fC,gi,gj,gl,ux,uy,uz,uA,uB,uC,uD,uE,uF,uG,uH,uI,uJ,uK,uL,uM,uN,uO,xV,xW,xX,xY,xZ,x0,x1,x2,x3,x4,x5,x6,x7,x8,x9,x_,ya,yb,yc,yd,ye,yf,yg,yh,yi,yj,yk,yl,ym,yn,yo,yp,yq,yr,Cu,Cv,Cw,Cx,yt,yu,yv,Cy,Cz,CA,CB,CC,CD,CE,Ja,CF,CG,CH,CI,CJ,CK,CL,CM,CN,CO,CP,CQ,CR,CS,CU,CV,CW,CX,CY,CZ,C0,C1,C2,C3,C4,C5,C6,C7,C8,C9,C_,Da,Db,Dc,Dd,De,Df,Dg,Dh,Di,Dj,Dk,Dl,Dm,Dn,Do,Dp],[]⟩ ks) (a2.at aF (.inRegion aD (aI::aL)::aH)::csZ),w,mine⟩
def pF(A:eR)(Stop:Bool->ah.Lo A.al->aV->Prop)(m:Bool)(mine:Nat->Prop)(a2:Frame)(aF:Act)(aD:Array Oper)(aI:Nat)(aL:List Nat)(aH:List Item)(csZ:List Frame)(l:ah.Lo A.al)(γ:ah.aN A.aJ)(cw:Int)(sv aw:Bool)(it old:Int)(w:aO):Prop:=
 jf [.code ((dp (f129.body.getD .skip)).getD .skip),.inLoop ((dp (f129.body.getD .skip)).getD .skip),.inBlock 0,.code ((kx (f129.body.getD .skip)).getD .skip)] A Stop m mine a2 aF aD aI aL aH csZ l γ cw sv aw it old w
def Aa(A:eR)(Stop:Bool->ah.Lo A.al->aV->Prop)(m:Bool)(mine:Nat->Prop)(a2:Frame)(aF:Act)(aD:Array Oper)(aI:Nat)(aL:List Nat)(aH:List Item)(csZ:List Frame)(l:ah.Lo A.al)(γ:ah.aN A.aJ)(cw:Int)(sv aw:Bool)(it old:Int)(w:aO):Prop:=
 jf [.code ((dR 11 ((dp (f129.body.getD .skip)).getD .skip)).getD .skip),.inBlock 1,.inLoop ((dp (f129.body.getD .skip)).getD .skip),.inBlock 0,.code ((kx (f129.body.getD .skip)).getD .skip)] A Stop m mine a2 aF aD aI aL aH csZ l γ cw sv aw it old w
def Jb(A:eR)(Stop:Bool->ah.Lo A.al->aV->Prop)(m:Bool)(mine:Nat->Prop)(a2:Frame)(aF:Act)(aD:Array Oper)(aI:Nat)(aL:List Nat)(aH:List Item)(csZ:List Frame)(l:ah.Lo A.al)(γ:ah.aN A.aJ)(cw:Int)(sv aw:Bool)(it old:Int)(new:Int)(w:aO):Prop:=
 ∀(dC ft eW fu fv fx fy qC qD fG fz fA fB iq fC gi gj gl ux uy uz uA uB uC uD uE uF uG uH uI uJ uK uL uM uN uO xV xW xX xY xZ x0 x1 x2 x3 x4 x5 x6 x7 x8 x9 x_ ya yb yc yd ye yf yg yh yi yj yk yl ym yn yo yp yq yr Cx yt yu yv Cy Cz CA CB CC CD CE Ja CF CG CH CI CJ CK CL CM CN CO CP CQ CR CS CU CV CW CX CY CZ C0 C1 C2 C3 C4 C5 C6 C7 C8 C9 C_ Da Db Dc Dd De Df Dg Dh Di Dj Dk Dl Dm Dn Do Dp:Value),bh (ak A) prog Stop m l γ ⟨Conc.G ((base 129).at ⟨#[.pointer (some (ah.fN A)),dC,.int .i64 cw,.bool sv,.bool aw,.int .i64 it,.int .i32 old,.int .i32 new,ft,eW,fu,fv,fx,fy,qC,qD,fG,fz,fA,fB,iq,fC,gi,gj,gl,ux,uy,uz,uA,uB,uC,uD,uE,uF,uG,uH,uI,uJ,uK,uL,uM,uN,uO,xV,xW,xX,xY,xZ,x0,x1,x2,x3,x4,x5,x6,x7,x8,x9,x_,ya,yb,yc,yd,ye,yf,yg,yh,yi,yj,yk,yl,ym,yn,yo,yp,yq,yr,.pointer (some (ah.fN A)),.int .i32 old,.int .i32 new,Cx,yt,yu,yv,Cy,Cz,CA,CB,CC,CD,CE,Ja,CF,CG,CH,CI,CJ,CK,CL,CM,CN,CO,CP,CQ,CR,CS,CU,CV,CW,CX,CY,CZ,C0,C1,C2,C3,C4,C5,C6,C7,C8,C9,C_,Da,Db,Dc,Dd,De,Df,Dg,Dh,Di,Dj,Dk,Dl,Dm,Dn,Do,Dp],[]⟩ [.inRegion (n2 ((dR 22 ((dp (f129.body.getD .skip)).getD .skip)).getD .skip)) [5],.code (ky ((dR 22 ((dp (f129.body.getD .skip)).getD .skip)).getD .skip)),.inBlock 1,.inLoop ((dp (f129.body.getD .skip)).getD .skip),.inBlock 0,.code ((kx (f129.body.getD .skip)).getD .skip)]) (a2.at aF (.inRegion aD (aI::aL)::aH)::csZ),w,mine⟩
def uP(A:eR)(Stop:Bool->ah.Lo A.al->aV->Prop)(m:Bool)(mine:Nat->Prop)(a2:Frame)(aF:Act)(aD:Array Oper)(aI:Nat)(aL:List Nat)(aH:List Item)(csZ:List Frame)(l:ah.Lo A.al)(γ:ah.aN A.aJ)(cw:Int)(sv aw:Bool)(it old:Int)(kr:Bool)(w:aO):Prop:=
 ∀(dC sm ft eW fu fv fx fy qC qD fG fz fA fB iq fC gi gj gl ux uy uz uA uB uC uD uE uF uG uH uI uJ uK uL uM uN uO xV xW xX xY xZ x0 x1 x2 x3 x4 x5 x6 x7 x8 x9 x_ ya yb yc yd ye yf yg yh yi yj yk yl ym yn yo yp yq yr Cu Cv Cw yt yu yv Cy Cz CA CB CC CD CE Ja CF CG CH CI CJ CK CL CM CN CO CP CQ CR CS CU CV CW CX CY CZ C0 C1 C2 C3 C4 C5 C6 C7 C8 C9 C_ Da Db Dc Dd De Df Dg Dh Di Dj Dk Dl Dm Dn Do Dp:Value),bh (ak A) prog Stop m l γ ⟨Conc.G ((base 129).at ⟨#[.pointer (some (ah.fN A)),dC,.int .i64 cw,.bool sv,.bool aw,.int .i64 it,.int .i32 old,sm,ft,eW,fu,fv,fx,fy,qC,qD,fG,fz,fA,fB,iq,fC,gi,gj,gl,ux,uy,uz,uA,uB,uC,uD,uE,uF,uG,uH,uI,uJ,uK,uL,uM,uN,uO,xV,xW,xX,xY,xZ,x0,x1,x2,x3,x4,x5,x6,x7,x8,x9,x_,ya,yb,yc,yd,ye,yf,yg,yh,yi,yj,yk,yl,ym,yn,yo,yp,yq,yr,Cu,Cv,Cw,.bool kr,yt,yu,yv,Cy,Cz,CA,CB,CC,CD,CE,Ja,CF,CG,CH,CI,CJ,CK,CL,CM,CN,CO,CP,CQ,CR,CS,CU,CV,CW,CX,CY,CZ,C0,C1,C2,C3,C4,C5,C6,C7,C8,C9,C_,Da,Db,Dc,Dd,De,Df,Dg,Dh,Di,Dj,Dk,Dl,Dm,Dn,Do,Dp],[]⟩ [.code (ky ((dR 22 ((dp (f129.body.getD .skip)).getD .skip)).getD .skip)),.inBlock 1,.inLoop ((dp (f129.body.getD .skip)).getD .skip),.inBlock 0,.code ((kx (f129.body.getD .skip)).getD .skip)]) (a2.at aF (.inRegion aD (aI::aL)::aH)::csZ),w,mine⟩
end bO
namespace bO
open Conc ah
def apc:∀(L W S:Bool)(k:Nat),k<256->bits .and .i32 ((L.toNat+2*W.toNat+4*S.toNat+8*k:Nat):Int) 4=((4*S.toNat:Nat):Int):=by decide+kernel
def apd:∀(L W S:Bool)(k:Nat),k<256->bits .and .i32 ((L.toNat+2*W.toNat+4*S.toNat+8*k:Nat):Int) 5=((L.toNat+4*S.toNat:Nat):Int):=by decide+kernel
def ape:∀(L W S:Bool)(k:Nat),k<256->bits .and .i32 ((L.toNat+2*W.toNat+4*S.toNat+8*k:Nat):Int) 2=((2*W.toNat:Nat):Int):=by decide+kernel
def apf:∀(L W S:Bool)(k:Nat),k<256->bits .and .i32 ((L.toNat+2*W.toNat+4*S.toNat+8*k:Nat):Int) 1=((L.toNat:Nat):Int):=by decide+kernel
def apg:∀(L W S:Bool)(k:Nat),k<256->bits .and .i32 ((L.toNat+2*W.toNat+4*S.toNat+8*k:Nat):Int) 3=((L.toNat+2*W.toNat:Nat):Int):=by decide+kernel
def aph:∀(L W S:Bool)(k:Nat),k<256->bits .and .i32 ((L.toNat+2*W.toNat+4*S.toNat+8*k:Nat):Int) 7=((L.toNat+2*W.toNat+4*S.toNat:Nat):Int):=by decide+kernel
def api:∀(L W S:Bool)(k:Nat),k<256->bits .or .i32 ((L.toNat+2*W.toNat+4*S.toNat+8*k:Nat):Int) 1=((1+2*W.toNat+4*S.toNat+8*k:Nat):Int):=by decide+kernel
def apj:∀(L W S:Bool)(k:Nat),k<256->bits .or .i32 ((L.toNat+2*W.toNat+4*S.toNat+8*k:Nat):Int) 2=((L.toNat+2+4*S.toNat+8*k:Nat):Int):=by decide+kernel
def apk:∀(L W S:Bool)(k:Nat),k<256->bits .or .i32 ((L.toNat+2*W.toNat+4*S.toNat+8*k:Nat):Int) 4=((L.toNat+2*W.toNat+4+8*k:Nat):Int):=by decide+kernel
def apl:∀(L W S:Bool)(k:Nat),k<256->bits .andNot .i32 ((L.toNat+2*W.toNat+4*S.toNat+8*k:Nat):Int) 2=((L.toNat+4*S.toNat+8*k:Nat):Int):=by decide+kernel
theorem Jc(m:bj)(hk:m.k<256):bits .and .i32 (m.word:Int) 4=((4*m.S.toNat:Nat):Int):=by have:=apc m.L m.W m.S m.k hk;grind[bj.word]
def Sz(m:bj)(hk:m.k<256):bits .and .i32 (m.word:Int) 5=((m.L.toNat+4*m.S.toNat:Nat):Int):=by have:=apd m.L m.W m.S m.k hk;grind[bj.word]
theorem Jd(m:bj)(hk:m.k<256):bits .and .i32 (m.word:Int) 2=((2*m.W.toNat:Nat):Int):=by have:=ape m.L m.W m.S m.k hk;grind[bj.word]
theorem Ts(m:bj)(hk:m.k<256):bits .and .i32 (m.word:Int) 1=((m.L.toNat:Nat):Int):=by have:=apf m.L m.W m.S m.k hk;grind[bj.word]
theorem apm(m:bj)(hk:m.k<256):bits .and .i32 (m.word:Int) 3=((m.L.toNat+2*m.W.toNat:Nat):Int):=by have:=apg m.L m.W m.S m.k hk;grind[bj.word]
def Sr(m:bj)(hk:m.k<256):bits .and .i32 (m.word:Int) 7=((m.L.toNat+2*m.W.toNat+4*m.S.toNat:Nat):Int):=by have:=aph m.L m.W m.S m.k hk;grind[bj.word]
def apn(m:bj)(hk:m.k<256):bits .or .i32 (m.word:Int) 1=(({m with L:=true}:bj).word:Int):=by have:=api m.L m.W m.S m.k hk;grind[bj.word]
def Sn(m:bj)(hk:m.k<256):bits .or .i32 (m.word:Int) 2=(({m with W:=true}:bj).word:Int):=by have:=apj m.L m.W m.S m.k hk;grind[bj.word]
def apo(m:bj)(hk:m.k<256):bits .or .i32 (m.word:Int) 4=(({m with S:=true}:bj).word:Int):=by have:=apk m.L m.W m.S m.k hk;grind[bj.word]
def Tt(m:bj)(hk:m.k<256):bits .andNot .i32 (m.word:Int) 2=(({m with W:=false}:bj).word:Int):=by have:=apl m.L m.W m.S m.k hk;grind[bj.word]
def apq(m:bj)(hk:m.k<256):IntKind.wrap .i32 ((m.word:Int)+8)=(({m with k:=m.k+1}:bj).word:Int):=by grind[Bool.toNat_le,IntKind.wrap_i32,bj.word]
def apr(m:bj)(hk:m.k<256)(a:m.L=true):IntKind.wrap .i32 ((m.word:Int)+ -1)=(({m with L:=false}:bj).word:Int):=by grind[Bool.toNat_le,IntKind.wrap_i32,bj.word]
def aps(m:bj)(hk:m.k<256)(h0:0<m.k):IntKind.wrap .i32 ((m.word:Int)-8)=(({m with k:=m.k-1}:bj).word:Int):=by grind[Bool.toNat_le,IntKind.wrap_i32,bj.word]
def apt(m:bj)(hk:m.k<256)(h0:0<m.k)(b:m.L=false)(hS:m.S=true)(clear:Bool):IntKind.wrap .i32 ((m.word:Int)+(if clear then -11 else -7))=(({m with L:=true,k:=m.k-1,S:= !clear}:bj).word:Int):=by have a:m.W.toNat<=1:=Bool.toNat_le _;rw[IntKind.wrap_i32];unfold bj.word;grind
theorem Je(m:bj):(m.word:Int) / 8=(m.k:Int):=by grind[Bool.toNat_le,bj.word]
variable{cw it old:Int}{w:aO}
section
open RowKit Conc.Lib ConcR.Gen ConcM av bn
section
variable{A:eR}{Stop:Bool->ah.Lo A.al->aV->Prop}{m:Bool}{mine:Nat->Prop}
variable{a2:Frame}{aF:Act}{aD:Array Oper}{aI:Nat}{aL:List Nat}{aH:List Item}{csZ:List Frame}
def Behind(A:eR)(Stop:Bool->ah.Lo A.al->aV->Prop)(m:Bool)(mine:Nat->Prop)(a2:Frame)(aF:Act)(aD:Array Oper)(aI:Nat)(aL:List Nat)(aH:List Item)(csZ:List Frame)(f:Nat)(a:A.al)(w:aO):Prop:=
 ∀w' aj,ai (ak A) mine w w'->bh (ak A) prog Stop m ⟨.own,true,0,f,a⟩ aj ⟨Conc.G (a2.at (aF.put ((aD[aI]?).bind (·.dst)) (.tuple #[])) (.inRegion aD aL::aH)) csZ,w',mine⟩
def apu(G:A.Good){f:Nat}{a:A.al}{γ:ah.aN A.aJ}{sv aw:Bool}(n:bits .and .i32 old 5=0)(j:¬A.left a)(l:Behind A Stop m mine a2 aF aD aI aL aH csZ f a w):
 uP A Stop m mine a2 aF aD aI aL aH csZ ⟨.own,false,1,f+2,a⟩ γ cw sv aw it old true w:=by
 unfold uP;intros
 have hF:=ai.refl (ak A) mine w;refine bk G ?_;simp only[f129,Option.getD_some,dp,kx,dR,ky,Nat.reduceBEq,Bool.false_eq_true,↓reduceIte];repeat w_go ai.trans
 refine dH Y hF λc b i h d k g e hF=>?_;refine rU G e K1 (stepG_mark0 .enable A_ Y Y BJ Y func74 qy qz qA qB) Y j (rS (f1:=f+1) KX _) A_ Y ?_;clear e g h b;refine bk G ?_;walk_nrm
 repeat w_go ai.trans
 refine dH Y hF λc b i h d k g e hF=>?_;refine lz (F7 Y Y BJ Y Y (ly e.mt.1)) Y Y (.refl _) Y Y ?_;clear e g h b;refine bk G ?_;walk_nrm
 repeat w_go ai.trans
 refine dH Y hF λc b i h d k g e hF=>?_;refine RH G e (f1:=f) (stepG_markAt .acquire A_ Y Y BJ Y func87 F3 F4 F5 F6 B4) Y j Y Y Y KX ?_;clear e g h b;refine bk G ?_;walk_nrm
 repeat w_go ai.trans
 u_leave0 func129 ai.trans hF
 repeat w_go ai.trans
 exact Goes.stop (λc b=>⟨Y,λi _=>l c i (ai.trans hF b)⟩)
end
end
open RowKit Conc.Lib ConcR.Gen ConcM av bn
def Nh(A:eR)(Stop:Bool->ah.Lo A.al->aV->Prop)(m:Bool)(mine:Nat->Prop)(a2:Frame)(aF:Act)(aD:Array Oper)(aI:Nat)(aL:List Nat)(aH:List Item)(csZ:List Frame)(l:ah.Lo A.al)(γ:ah.aN A.aJ)(cw:Int)(sv aw:Bool)(it old:Int)(w:aO):Prop:=
 ∀(dC sm ft eW fu fv fx fy qC qD fG fz fA fB iq fC gi gj gl ux uy uz uA uB uC uD uE uF uG uH uI uJ uK uL uM uN uO xV xW xX xY xZ x0 x1 x2 x3 x4 x5 x6 x7 x8 x9 x_ ya yb yc yd ye yf yg yh yi yj yk yl ym yn yo yp yq yr Cu Cv Cw Cx yt yu yv Cy Cz CA CB CC CD CE CF CG CH CI CJ CK CL CM CN CO CP CQ CR CS CU CV CW CX CY CZ C0 C1 C2 C3 C4 C5 C6 C7 C8 C9 C_ Da Db Dc Dd De Df Dg Dh Di Dj Dk Dl Dm Dn Do Dp:Value),bh (ak A) prog Stop m l γ ⟨Conc.G ((base 129).at ⟨#[.pointer (some (ah.fN A)),dC,.int .i64 cw,.bool sv,.bool aw,.int .i64 it,.int .i32 old,sm,ft,eW,fu,fv,fx,fy,qC,qD,fG,fz,fA,fB,iq,fC,gi,gj,gl,ux,uy,uz,uA,uB,uC,uD,uE,uF,uG,uH,uI,uJ,uK,uL,uM,uN,uO,xV,xW,xX,xY,xZ,x0,x1,x2,x3,x4,x5,x6,x7,x8,x9,x_,ya,yb,yc,yd,ye,yf,yg,yh,yi,yj,yk,yl,ym,yn,yo,yp,yq,yr,Cu,Cv,Cw,Cx,yt,yu,yv,Cy,Cz,CA,CB,CC,CD,CE,.pointer (some (ah.ko A)),CF,CG,CH,CI,CJ,CK,CL,CM,CN,CO,CP,CQ,CR,CS,CU,CV,CW,CX,CY,CZ,C0,C1,C2,C3,C4,C5,C6,C7,C8,C9,C_,Da,Db,Dc,Dd,De,Df,Dg,Dh,Di,Dj,Dk,Dl,Dm,Dn,Do,Dp],[]⟩ [.inRegion (n2 ((dR 27 ((dp (f129.body.getD .skip)).getD .skip)).getD .skip)) [4],.code (ky ((dR 27 ((dp (f129.body.getD .skip)).getD .skip)).getD .skip)),.inBlock 1,.inLoop ((dp (f129.body.getD .skip)).getD .skip),.inBlock 0,.code ((kx (f129.body.getD .skip)).getD .skip)]) (a2.at aF (.inRegion aD (aI::aL)::aH)::csZ),w,mine⟩
def Sj(A:eR)(Stop:Bool->ah.Lo A.al->aV->Prop)(m:Bool)(mine:Nat->Prop)(a2:Frame)(aF:Act)(aD:Array Oper)(aI:Nat)(aL:List Nat)(aH:List Item)(csZ:List Frame)(l:ah.Lo A.al)(γ:ah.aN A.aJ)(cw:Int)(sv aw:Bool)(it old:Int)(w:aO):Prop:=
 jf [.code (ky ((dR 27 ((dp (f129.body.getD .skip)).getD .skip)).getD .skip)),.inBlock 1,.inLoop ((dp (f129.body.getD .skip)).getD .skip),.inBlock 0,.code ((kx (f129.body.getD .skip)).getD .skip)] A Stop m mine a2 aF aD aI aL aH csZ l γ cw sv aw it old w
section
variable{A:eR}{Stop:Bool->ah.Lo A.al->aV->Prop}{m:Bool}{mine:Nat->Prop}
variable{a2:Frame}{aF:Act}{aD:Array Oper}{aI:Nat}{aL:List Nat}{aH:List Item}{csZ:List Frame}
theorem apv(G:A.Good){l:ah.Lo A.al}{γ:ah.aN A.aJ}{sv aw:Bool}(e:∀w' c,(c=γ\/c.a_<γ.a_)->ai (ak A) mine w w'->gH (ak A) l c->pF A Stop m mine a2 aF aD aI aL aH csZ l c cw sv aw it (c.mu.word:Int) w'):
 uP A Stop m mine a2 aF aD aI aL aH csZ l γ cw sv aw it old false w:=by
 unfold uP;intros
 unfold pF jf at e;have hF:=ai.refl (ak A) mine w;refine bk G ?_;simp only[f129,Option.getD_some,dp,kx,dR,ky,Nat.reduceBEq,Bool.false_eq_true,↓reduceIte]at e⊢;repeat w_go ai.trans
 refine dH Y hF λb a o i g f h d hF=>?_;have j:f=γ\/f.a_<γ.a_:=by
  rcases i with rfl|⟨h1,_⟩<;>rcases h with rfl|⟨p,_⟩
  .simp_all
  .simp_all
  .simp_all
  omega
 have k:=d.sees;refine lz (z_ Y Y BJ Y Y (ly d.mt.1) I_) Y Y (.refl _) Y Y ?_;clear d h i a;refine bk G ?_;walk_nrm
 repeat w_nl ai.trans
 u_c stepG_inLoop ai.trans hF
 exact Goes.stop (λb a=>⟨Y,λo n=>(e b f j (ai.trans hF a) k ..).km (dg G) n⟩)
def apw(G:A.Good){l:ah.Lo A.al}{γ:ah.aN A.aJ}{sv aw:Bool}(s:(bits .and .i32 old 5==0)=false)(d:∀w' g j,(ak A).dY l γ g->ai (ak A) mine w w'->Nh A Stop m mine a2 aF aD aI aL aH csZ l g j sv aw it old w'):
 uP A Stop m mine a2 aF aD aI aL aH csZ l γ cw sv aw it old true w:=by
 unfold uP;intros
 unfold Nh at d;have hF:=ai.refl (ak A) mine w;simp only[f129,Option.getD_some,dp,kx,dR,ky,n2,Nat.reduceBEq,Bool.false_eq_true,↓reduceIte]at d⊢;by_cases k:cw=0
 .subst k;refine bk G ?_;repeat w_go ai.trans
  refine dH Y hF λc a e i b r h n hF=>?_;have o:=(dg G).trans _ _ _ _ i h;refine lz (stepG_nanotime Y Y BJ Y func149 QW QB Ty Tx S4) Y Y ⟨_,Y⟩ Y Y ?_;replace hF:=ai.trans hF (⟨λ_ _=>Y,Nat.le_refl _,⟨_,Y⟩,Y,Y⟩:ai (ak A) mine b b.later);clear n h i a;generalize((b.os.mono+b.tick:Nat):Int)=q;refine bk G ?_;walk_nrm
  repeat w_go ai.trans
  exact Goes.stop (λc a=>⟨Y,λe f=>d c e _ ((dg G).trans _ _ _ _ o f) (ai.trans hF a) ..⟩)
 .have t:(cw==0)=false:=by simp_all
  have p:(cw != 0)=true:=Br;refine bk G ?_;repeat w_go ai.trans
  exact Goes.stop (λc a=>⟨Y,λe f=>d c e _ f (ai.trans hF a) ..⟩)
end
def Dr(A:eR)(Stop:Bool->ah.Lo A.al->aV->Prop)(m:Bool)(mine:Nat->Prop)(a2:Frame)(aF:Act)(aD:Array Oper)(aI:Nat)(aL:List Nat)(aH:List Item)(csZ:List Frame)(l:ah.Lo A.al)(γ:ah.aN A.aJ)(cw:Int)(sv aw:Bool)(it old:Int)(w:aO):Prop:=
 jf [.code (ky ((dR 29 ((dp (f129.body.getD .skip)).getD .skip)).getD .skip)),.inBlock 1,.inLoop ((dp (f129.body.getD .skip)).getD .skip),.inBlock 0,.code ((kx (f129.body.getD .skip)).getD .skip)] A Stop m mine a2 aF aD aI aL aH csZ l γ cw sv aw it old w
section
variable{A:eR}{Stop:Bool->ah.Lo A.al->aV->Prop}{m:Bool}{mine:Nat->Prop}
variable{a2:Frame}{aF:Act}{aD:Array Oper}{aI:Nat}{aL:List Nat}{aH:List Item}{csZ:List Frame}
def Si(G:A.Good){l:ah.Lo A.al}{γ:ah.aN A.aJ}{sv aw:Bool}(i:∀w' h q,(h=γ\/h.a_<γ.a_)->ai (ak A) mine w w'->gH (ak A) l h->Dr A Stop m mine a2 aF aD aI aL aH csZ l h cw q aw it (h.mu.word:Int) w'):
 Sj A Stop m mine a2 aF aD aI aL aH csZ l γ cw sv aw it old w:=by
 unfold Sj jf;intros
 unfold Dr jf at i;have hF:=ai.refl (ak A) mine w;simp only[f129,Option.getD_some,dp,kx,dR,ky,Nat.reduceBEq,Bool.false_eq_true,↓reduceIte]at i⊢;cases sv with
 |true=>
  refine bk G ?_;repeat w_go ai.trans
  refine dH Y hF λb a j f c p e d hF=>?_;have k:=(dg G).less _ _ _ ((dg G).trans _ _ _ _ f e);have n:=d.sees;refine lz (z_ Y Y BJ Y Y (ly d.mt.1) I_) Y Y (.refl _) Y Y ?_;clear d e f a;refine bk G ?_;walk_nrm
  u_op ai.trans hF
  u_c stepG_region_end ai.trans hF
  exact Goes.stop (λb a=>⟨Y,λj g=>(i b p _ k (ai.trans hF a) n ..).km (dg G) g⟩)
 |false=>
  refine bk G ?_;repeat w_go ai.trans
  refine dH Y hF λb a j f c p e d hF=>?_;have g:=(dg G).trans _ _ _ _ f e;refine lz (stepG_nanotime Y Y BJ Y func149 QW QB Ty Tx S4) Y Y ⟨_,Y⟩ Y Y ?_;replace hF:=ai.trans hF (⟨λ_ _=>Y,Nat.le_refl _,⟨_,Y⟩,Y,Y⟩:ai (ak A) mine c c.later);clear d e f a;generalize((c.os.mono+c.tick:Nat):Int)=s;refine bk G ?_;walk_nrm
  repeat w_go ai.trans
  refine dH Y hF λb a j f o r e d hF=>?_;have k:=(dg G).less _ _ _ ((dg G).trans _ _ _ _ g ((dg G).trans _ _ _ _ f e));have n:=d.sees;refine lz (z_ Y Y BJ Y Y (ly d.mt.1) I_) Y Y (.refl _) Y Y ?_;clear d e f a;refine bk G ?_;walk_nrm
  u_op ai.trans hF
  u_c stepG_region_end ai.trans hF
  exact Goes.stop (λb a=>⟨Y,λj g=>(i b r _ k (ai.trans hF a) n ..).km (dg G) g⟩)
def apx(G:A.Good){l:ah.Lo A.al}{γ:ah.aN A.aJ}{sv aw:Bool}(e:bits .and .i32 old 4=0)(c:∀w',ai (ak A) mine w w'->pF A Stop m mine a2 aF aD aI aL aH csZ l γ cw sv true 0 old w'):
 Dr A Stop m mine a2 aF aD aI aL aH csZ l γ cw sv aw it old w:=by
 unfold Dr jf;intros
 unfold pF jf at c;have hF:=ai.refl (ak A) mine w;simp only[f129,Option.getD_some,dp,kx,dR,ky,Nat.reduceBEq,Bool.false_eq_true,↓reduceIte]at c⊢;refine bk G ?_;repeat w_nl ai.trans
 u_c stepG_inLoop ai.trans hF
 exact Goes.stop (λa b=>⟨Y,λf d=>(c a (ai.trans hF b) ..).km (dg G) d⟩)
end
end bO
end Go.Proofs.YtncomcmfgmojkaaGreat
