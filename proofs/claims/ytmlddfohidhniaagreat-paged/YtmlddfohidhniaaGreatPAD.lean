import Derived.Test.YtmlddfohidhniaaGreatP01
import Derived.Conc.MuWords
import Derived.Test.YtmlddfohidhniaaGreatProg
import Derived.Test.YtmlddfohidhniaaGreatPAC
set_option linter.all false
set_option maxRecDepth 100000
set_option maxHeartbeats 16000000
namespace Go.Proofs.YtmlddfohidhniaaGreat
def vcw:=@Go.Conc.stepG_add_atomic
open Go.Proofs.Tryz
namespace bp
open Conc ConcM ConcN ax
section
section
variable{Z:fc}{Q:b4}{Stop:Bool->Z.Lo->aV->Prop}{m:Bool}{l:Z.Lo}{γ:Z.aO}
theorem zV{mine:dh}:∀(es:ubi)(d:Nat),(∀e∈es,∀d,tr Z l mine d e)->oL Z l mine d es
 | [],_,_=>trivial
 |e::es,d,h=>⟨h e Ad d,zV es _ AA⟩
def qf(X:aV)(fr:dh):aV:=⟨X.g,X.w,λb=>X.mine b\/fr b⟩
end
end
end bp
namespace ag
open Conc ConcM ax bp
structure Lo(ao:Type) where
 mx:bU
 tok:Bool
 deaf:Nat
 fuel:Nat
 al:ao
structure aO(aI:Type) where
 mu:bk
 a_:Nat
 al:aI
structure e_ where
 ao:Type
 aI:Type
 wk:aI->List ao->Prop
 n9:aI->Nat
 BQ:Bool->ao->aI->aI->Prop
 RB:ao->aI->Prop
 left:ao->Prop
 past:ao->Bool
 zero:ao->Prop
 st:Nat
 ty:TypeId
 cells:aI->Array Value
 n_:aI->aS->Prop
 BR:Nat->Prop
 gS:Loc->Prop
 eZ:Loc->Prop
 K:Nat->Prop
 wg:Addr
 most:Nat
structure e_.Good(A:e_):Prop where
 refl:∀o a b,A.BQ o a b b
 trans:∀o a b c d,A.BQ o a b c->A.BQ o a c d->A.BQ o a b d
 RD:∀b w w',(∀k,A.BR k->w'.heap[k]?=w.heap[k]?)->A.n_ b w->A.n_ b w'
 Mg:¬A.BR A.st
 np:∀b,A.K b->b≠A.st/\¬A.BR b
 nW:∀b aA,A.wk b aA->∃(j:Nat)(a:A.ao),aA[j]?=some a/\¬A.left a/\¬A.RB a b
 zero:∀b(aA:List A.ao)(j:Nat) a,A.wk b aA->aA[j]?=some a->A.zero a->j=0
 gS:∀l,A.gS l->(∃off sp,l=.cell ⟨A.st,off,sp⟩/\2<=off)\/∃b,fg l=some b/\A.BR b
 eZ:∀l,A.eZ l->∃b,fg l=some b/\A.BR b
 tp:∀l,A.gS l->¬A.eZ l
def Yr:bU->Bool| .own=>true| _=>false
def fy(A:e_):Addr:=⟨A.st,0,none⟩
def kQ(A:e_):Addr:=⟨A.st,1,none⟩
def hH(A:e_)(m:bk)(b:A.aI):Obj:=.cells (#[.int .i32 (m.word:Int),.int .u32 (m.sema:Int)]++A.cells b) A.ty
structure tA(A:e_)(γ:aO A.aI)(ls:List (Lo A.ao)):Prop where
 lF:dl γ.mu (ls.map (·.mx))
 pE:A.wk γ.al (ls.map (·.al))
 gU:(ls.map (·.fuel)).sum+2*qh γ.mu (ls.map (·.mx))+A.n9 γ.al<=γ.a_
 aT:∀(i:Nat)(l:Lo A.ao),ls[i]?=some l->l.tok=true->l.mx=.own
 IG:∀(i:Nat)(l:Lo A.ao),ls[i]?=some l->A.left l.al->l.mx=.idle
 len:ls.length<=A.most
abbrev am(A:e_):fc where
 Lo:=Lo A.ao
 aO:=aO A.aI
 a_:=λγ=>γ.a_
 pD:=tA A
 dZ:=λl γ aj=>aj=γ\/(aj.a_<γ.a_/\A.BQ (Yr l.mx) l.al γ.al aj.al/\xP l.mx γ.mu aj.mu)
 K:=A.K
 gT:=λb=>b=A.st\/A.BR b
 tq:=λγ w=>w.heap[A.st]?=some (hH A γ.mu γ.al)/\A.n_ γ.al w
 tok:=λl=>l.tok
 deaf:=λl=>l.deaf
 past:=λl=>A.past l.al
 Left:=λl=>A.left l.al
 zero:=λl=>A.zero l.al
 n7:=λl γ=>(l.mx=.jX/\γ.mu.sema=0)\/(l.mx=.idle/\A.RB l.al γ.al)
 gS:=A.gS
 eZ:=λl=>l=.cell (fy A)\/l=.cell (kQ A)\/A.eZ l
 mu:=fy A
 wg:=A.wg
 oK:=λ_ _ _=>False
theorem Mh:∀(l:uaa)(i x:Nat),l[i]?=some x->x<=l.sum
 |a::l,0,x,h=>AA
 |a::l,i+1,x,h=>by have:=Mh l i x AA;grind
def Fj{A:e_}{ls:List (Lo A.ao)}{i:Nat}{l:Lo A.ao}(h:ls[i]?=some l):(ls.map (·.mx))[i]?=some l.mx:=by grind
theorem RE{ao aI:Type}(f:ao->aI){ls:List ao}{i:Nat}{l l1:ao}(h:ls[i]?=some l)(a:f l1=f l):(ls.set i l1).map f=ls.map f:=by apply vca;grind
def da{A:e_}(G:A.Good):(am A).Good where
 refl:=AA
 trans:=by
  rintro l a b c (rfl|⟨f,d,t⟩) (rfl|⟨u,q,p⟩)
  .grind
  .grind
  .grind
  .exact .inr ⟨AA,G.trans _ _ _ _ _ d q,t.trans p⟩
 less:=by grind
 mt:=λγ w w' hs⟨f,d⟩=>⟨AA,G.RD _ w w' AA d⟩
 np:=λb m hs=>hs.elim (G.np b m).1 (G.np b m).2
 one:=λγ ls i j a b h hi g s m=>by have f:=h.aT i a hi s;have d:=h.aT j b g m;exact h.lF.Yo AA AA
 nW:=λγ ls h=>by
  obtain⟨j,a,g,x,v⟩:=G.nW _ _ h.pE;rw[vbd]at g;obtain⟨l,z,rfl⟩:=vaj.1 g;by_cases hq:l.mx=.jX/\γ.mu.sema=0
  .obtain⟨k,y,hk,f,d⟩:=h.lF.alive hq.2 (i:=j) AA;rw[vbd]at hk;obtain⟨o,n,rfl⟩:=vaj.1 hk;exact⟨k,o,n,λe=>f (h.IG k o n e),AA⟩
  grind
 zero:=λγ ls j l h g r=>G.zero _ _ j l.al h.pE AA r
 Fe:=λl h=>by
  rcases G.gS l h with⟨off,sp,rfl,_⟩|⟨b,f,d⟩
  .exact⟨A.st,Y,.inl Y⟩
  grind
 BD:=λl h=>by
  rcases h with rfl|rfl|h
  .exact⟨A.st,Y,.inl Y⟩
  .exact⟨A.st,Y,.inl Y⟩
  .obtain⟨b,f,d⟩:=G.eZ l h;grind
 tp:=λl h hs=>by
  rcases hs with rfl|rfl|hs
  .rcases G.gS _ h with⟨off,sp,e,d⟩|⟨b,f,d⟩
   .grind[fy]
   .simp[fg,fy]at f;subst f;exact G.Mg d
  .rcases G.gS _ h with⟨off,sp,e,d⟩|⟨b,f,d⟩
   .grind[kQ]
   .simp[fg,kQ]at f;subst f;exact G.Mg d
  .exact G.tp l h hs
def IH{A:e_}(G:A.Good){l:Lo A.ao}{γ:aO A.aI}(hs:hh (am A) l γ){y:bU}{m1:bk}{f1 d1:Nat}{mw:Bool}(h:lE l.mx y γ.mu m1 l.fuel f1)(ht:mw=true->y=.own)(t:¬A.left l.al\/y=.idle):
 BG (am A) l γ ({mx:=y,tok:=mw,deaf:=d1,fuel:=f1,al:=l.al}:Lo A.ao) ({mu:=m1,a_:=γ.a_-1,al:=γ.al}:aO A.aI):=by
 have key:∀(ls:List (Lo A.ao))(i:Nat),ls[i]?=some l->tA A γ ls->(ls.map (·.fuel)).sum+f1=((ls.set i ({mx:=y,tok:=mw,deaf:=d1,fuel:=f1,al:=l.al}:Lo A.ao)).map (·.fuel)).sum+l.fuel/\1<=γ.a_/\
  ((ls.set i ({mx:=y,tok:=mw,deaf:=d1,fuel:=f1,al:=l.al}:Lo A.ao)).map (·.fuel)).sum+2*qh m1 ((ls.map (·.mx)).set i y)+A.n9 γ.al<=γ.a_-1:=by
  intro ls i hi hg;have c:i<ls.length:=(vab.1 hi).1;have r:=(vab.1 hi).2;have e:=Fg (ls.map (·.fuel)) i f1 AA;have k:(ls.set i ({mx:=y,tok:=mw,deaf:=d1,fuel:=f1,al:=l.al}:Lo A.ao)).map (·.fuel)=(ls.map (·.fuel)).set i f1:=BK;rw[k];have g:(ls.map (·.fuel))[i]'AA=l.fuel:=AA;rw[g]at e;have u:=h.fuel _ i (Fj hi) hg.lF;have s:=Mh (ls.map (·.fuel)) i l.fuel AA;have:=hg.gU;omega
 refine⟨?_,λls i hi hg=>?_⟩
 .obtain⟨ls,i,hi,hg⟩:=hs;grind
 .obtain⟨_,q,p⟩:=key ls i hi hg;have o:(ls.set i ({mx:=y,tok:=mw,deaf:=d1,fuel:=f1,al:=l.al}:Lo A.ao)).map (·.mx)=(ls.map (·.mx)).set i y:=BK;have n:(ls.set i ({mx:=y,tok:=mw,deaf:=d1,fuel:=f1,al:=l.al}:Lo A.ao)).map (·.al)=ls.map (·.al):=RE _ hi Y;have c:i<ls.length:=(vab.1 hi).1;refine⟨⟨by rw[o];exact h.inv _ i (Fj hi) hg.lF,by rw[n];exact hg.pE,AA,λj b a hk=>?_,λj b a hk=>?_,by rw[vej];exact hg.len⟩,λj f a m=>.inr ⟨AA,G.refl _ _ _,h.hV _ i j f.mx hg.lF (Fj hi) a (Fj m)⟩⟩
  .by_cases d:j=i
   .grind
   .rw[vba (Ne.symm d)]at a;exact hg.aT j b a hk
  .by_cases d:j=i
   .grind
   .rw[vba (Ne.symm d)]at a;exact hg.IG j b a hk
end ag
namespace ag
open Conc ax bp
structure ah(Z:fc)(mine:dh)(w w1:aS):Prop where
 heap:∀b,Z.K b\/mine b->w1.heap[b]?=w.heap[b]?
 size:w.heap.size<=w1.heap.size
 later:Go.ConcM.OsLater w.os w1.os
 output:w1.output=w.output
 tape:w1.tape=w.tape
theorem ah.refl(Z:fc)(mine:dh)(w:aS):ah Z mine w w:=⟨λ_ _=>Y,vac _,.refl _,Y,Y⟩
theorem ah.trans{Z:fc}{mine:dh}{a b c:aS}(h:ah Z mine a b)(k:ah Z mine b c):ah Z mine a c:=
 ⟨λx d=>(k.heap x d).trans (h.heap x d),vad h.size k.size,h.later.trans k.later,k.output.trans h.output,k.tape.trans h.tape⟩
theorem kR{mine:dh}{w w1:aS}(h:w1.heap.size=w.heap.size):grown mine w w1=mine:=by grind[grown]
variable{g:uah}
section
variable{Z:fc}{Q:b4}{Stop:Bool->Z.Lo->aV->Prop}{m:Bool}{l:Z.Lo}
def dQ.rw{γ:Z.aO}{X:aV}{w':aS}(h:dQ Z l γ X w'):ah Z X.mine X.w w':=⟨h.rely.heap,h.rely.size,h.later,h.output,h.tape⟩
def akW{mine:dh}{D:aS->aS->Array Event->Prop}{S:Goroutine->aS->Prop}:∀{n:Nat}{g:uah}{w:aS},Goes Q m (ah Z mine) D (λg w=>g.status=.running/\S g w) n g w->g.status=.running
 |0,_,w,h=>(h w (.refl _ _ _)).1
 | _+1,_,w,h=>h.elim (λh=>(h w (.refl _ _ _)).1) (λh=>h.1)
def dL{mine:dh}{X:Z.aO->Prop}{n:Nat}{w0 w:aS}(hs:g.status=.running)(hF:ah Z mine w0 w)(h:∀b,ah Z mine w b->∀e,X e->∀a d,Z.dZ l e d->dQ Z l d ⟨g,b,mine⟩ a->ah Z mine w0 a->Then Q Stop m l d ⟨g,b,mine⟩ a):
 Goes Q m (ah Z mine) Go.ConcR.DC0 (λg w=>g.status=.running/\∀i,X i->bg Z Q Stop m l i ⟨g,w,mine⟩) n g w:=
 vai λb c=>⟨hs,λe k=>bg.mk hs λa d j f=>h b c e k a d j f ((hF.trans c).trans (dQ.rw f))⟩
theorem uD(G:Z.Good)(d:∀g g1,¬Z.oK l g g1){mine:dh}{γ:Z.aO}:∀(n:Nat)(g:uah)(w:aS)(bA:Z.aO),Z.dZ l γ bA->
 Goes Q m (ah Z mine) Go.ConcR.DC0 (λg w=>g.status=.running/\∀a,Z.dZ l γ a->bg Z Q Stop m l a ⟨g,w,mine⟩) n g w->bg Z Q Stop m l bA ⟨g,w,mine⟩
 |0,g,w,bA,b,h=>(h w (.refl _ _ _)).2 bA b
 |n+1,g,w,bA,b,h=>by
  rcases h with h|⟨hs,h⟩
  .exact(h w (.refl _ _ _)).2 bA b
  .refine bg.mk hs λw' a i f=>?_;have:=h w' (dQ.rw f);cases hst:stepG Q m g w' with
   |go g1 w1 es=>
    rw[hst]at this;obtain⟨⟨rfl,rfl⟩,c⟩:=this;have hg:grown mine w1 w1=mine:=kR Y;refine .quiet hst ⟨?_,⟨AA,vac _,.refl _,Y,Y⟩,λ_ _ _=>Y,PJ,?_⟩ ?_
    .exact akW c
    .rintro(⟨e,j,_⟩|h)
     .grind
     grind
    .show bg Z Q Stop m l a ⟨g1,w1,grown mine w1 w1⟩;rw[hg];exact uD G d n g1 w1 a (G.trans _ _ _ _ b i) c
   | _=>rw[hst]at this;exact this.elim
end
variable{d1 f1:Nat}
def RF{A:e_}(G:A.Good){l:Lo A.ao}{γ:aO A.aI}(hs:hh (am A) l γ){a1:A.ao}{b1:A.aI}{mw:Bool}(m:∀(aA:List A.ao)(i:Nat),aA[i]?=some l.al->A.wk γ.al aA->A.wk b1 (aA.set i a1))(z:f1+A.n9 b1+1<=l.fuel+A.n9 γ.al)(g:∀(o:Bool)(a':A.ao),(l.mx=.own->o=false)->(A.zero l.al->¬A.zero a')->A.BQ o a' γ.al b1)(B:A.left a1->l.mx=.idle)(C:mw=true->l.mx=.own):
 BG (am A) l γ ({mx:=l.mx,tok:=mw,deaf:=d1,fuel:=f1,al:=a1}:Lo A.ao) ({mu:=γ.mu,a_:=γ.a_-1,al:=b1}:aO A.aI):=by
 have key:∀(ls:List (Lo A.ao))(i:Nat),ls[i]?=some l->tA A γ ls->1<=γ.a_/\((ls.set i ({mx:=l.mx,tok:=mw,deaf:=d1,fuel:=f1,al:=a1}:Lo A.ao)).map (·.fuel)).sum+2*qh γ.mu (ls.map (·.mx))+A.n9 b1<=γ.a_-1:=by intro ls i hi hg;have c:i<ls.length:=(vab.1 hi).1;have w:=(vab.1 hi).2;have e:=Fg (ls.map (·.fuel)) i f1 AA;have q:(ls.set i ({mx:=l.mx,tok:=mw,deaf:=d1,fuel:=f1,al:=a1}:Lo A.ao)).map (·.fuel)=(ls.map (·.fuel)).set i f1:=BK;rw[q];have p:(ls.map (·.fuel))[i]'AA=l.fuel:=AA;rw[p]at e;have x:=Mh (ls.map (·.fuel)) i l.fuel AA;have:=hg.gU;omega
 refine⟨?_,λls i hi hg=>?_⟩
 .obtain⟨ls,i,hi,hg⟩:=hs;grind
 .obtain⟨u,t⟩:=key ls i hi hg;have s:(ls.set i ({mx:=l.mx,tok:=mw,deaf:=d1,fuel:=f1,al:=a1}:Lo A.ao)).map (·.mx)=ls.map (·.mx):=RE _ hi Y;have r:(ls.set i ({mx:=l.mx,tok:=mw,deaf:=d1,fuel:=f1,al:=a1}:Lo A.ao)).map (·.al)=(ls.map (·.al)).set i a1:=BK;have c:i<ls.length:=(vab.1 hi).1;have k:(ls.map (·.al))[i]?=some l.al:=AA;refine⟨⟨by rw[s];exact hg.lF,by rw[r];exact m _ i k hg.pE,AA,λj b a hk=>?_,λj b a hk=>?_,by rw[vej];exact hg.len⟩,λj h a F=>.inr ⟨AA,?_,.refl _ _⟩⟩
  .by_cases d:j=i
   .grind
   .rw[vba (Ne.symm d)]at a;exact hg.aT j b a hk
  .by_cases d:j=i
   .grind
   .rw[vba (Ne.symm d)]at a;exact hg.IG j b a hk
  .refine g _ _ (λy=>?_) (λn f=>?_)
   .cases v:h.mx<;>simp only[Yr]
    exact absurd (hg.lF.Yo AA AA) a
   .have E:=G.zero _ _ i l.al hg.pE k n;have D:=G.zero _ _ j h.al hg.pE AA f;grind
variable{g1:uah}{m1 mu:bk}
section
variable{A:e_}{Q:b4}{Stop:Bool->Lo A.ao->aV->Prop}{m:Bool}{l:Lo A.ao}{γ:aO A.aI}{X:aV}{w':aS}
def bl(G:A.Good){mine:dh}{w:aS}(h:Goes Q m (ah (am A) mine) Go.ConcR.DC0 (λg w=>g.status=.running/\∀a,(am A).dZ l γ a->bg (am A) Q Stop m l a ⟨g,w,mine⟩) 300 g w):bg (am A) Q Stop m l γ ⟨g,w,mine⟩:=
 uD (da G) (λ_ _ h=>h) 300 _ _ _ J1 h
def lG{b:A.aI}{w:aS}(h:w.heap[A.st]?=some (hH A mu b)):w.cell? (fy A)=some (.int .i32 (mu.word:Int)):=by simp[World.cell?,fy,h,hH];grind
def IJ{b:A.aI}{w:aS}(h:w.heap[A.st]?=some (hH A mu b)):w.cell? (kQ A)=some (.int .u32 (mu.sema:Int)):=by simp[World.cell?,kQ,h,hH];grind
def pG{b:A.aI}{w:aS}(h:w.heap[A.st]?=some (hH A mu b))(off:Nat)(sp):w.frozen? ⟨A.st,off,sp⟩=false:=by simp[World.frozen?,h,hH]
theorem nt(w:aS)(a:Addr)(v:Value){b:Nat}(c:b≠a.block):(w.setCell a v).heap[b]?=w.heap[b]?:=by simp[World.setCell,vbb,Ne.symm c]
def oO(w:aS)(a:Addr)(v:Value):(w.setCell a v).heap.size=w.heap.size:=by simp_all
def akZ{b:A.aI}{w:aS}(h:w.heap[A.st]?=some (hH A mu b))(hs:m1.sema=mu.sema):(w.setCell (fy A) (.int .i32 (m1.word:Int))).heap[A.st]?=some (hH A m1 b):=by unfold World.setCell;simp_all[fy,vbb,hH]
def ak0{b:A.aI}{w:aS}(h:w.heap[A.st]?=some (hH A mu b))(hs:m1.word=mu.word):(w.setCell (kQ A) (.int .u32 (m1.sema:Int))).heap[A.st]?=some (hH A m1 b):=by unfold World.setCell;simp_all[kQ,vbb,hH]
def Ys(G:A.Good){b:A.aI}{w:aS}(h:A.n_ b w)(off:Nat)(sp)(v:Value):A.n_ b (w.setCell ⟨A.st,off,sp⟩ v):=
 G.RD b w _ (λk hk=>nt w _ v (λe=>G.Mg AA)) h
def Yt{mine:dh}(w:aS)(off:Nat)(sp)(v:Value):li (am A) mine w (w.setCell ⟨A.st,off,sp⟩ v):=
 ⟨λb _ _ hs=>nt w _ v AA,BK,.refl _,Y,Y⟩
def qj(Z:fc)(mine:dh)(w:aS):li Z mine w w:=⟨AA,vac _,.refl _,Y,Y⟩
theorem ak1(G:A.Good)(a:dQ (am A) l γ X w'){y:bU}(hs:stepG Q m X.g w'=.go g1 (w'.setCell (fy A) (.int .i32 (m1.word:Int))) #[⟨.cell (fy A),false,true⟩,⟨.cell (fy A),true,true⟩])(hrun:g1.status=.running)(hd:0<l.deaf)(b:m1.sema=γ.mu.sema)(c:¬A.left l.al)(ht:lE l.mx y γ.mu m1 l.fuel f1)(d:l.tok=true->y=.own)(h:bg (am A) Q Stop m ({l with mx:=y,fuel:=f1}:Lo A.ao) ({γ with mu:=m1,a_:=γ.a_-1}:aO A.aI) ⟨g1,w'.setCell (fy A) (.int .i32 (m1.word:Int)),X.mine⟩):
 Then (Z:=am A) Q Stop m l γ X w':=by
 have hg:grown X.mine w' (w'.setCell (fy A) (.int .i32 (m1.word:Int)))=X.mine:=kR (oO _ _ _);refine .turn (l1:=({l with mx:=y,fuel:=f1}:Lo A.ao)) (bA:=({γ with mu:=m1,a_:=γ.a_-1}:aO A.aI)) hs ⟨hrun,.inl ⟨⟨.cell (fy A),true,true⟩,Ad,.inr (.inr (.inr (.inr ⟨Y,A.st,Y,.inl Y⟩)))⟩,Yt w' 0 none _,⟨akZ a.mt.1 b,Ys G a.mt.2 _ _ _⟩,
  IH (d1:=l.deaf) (mw:=l.tok) G a.sees ht d (.inl c),.inl ⟨Y,Y,Y,?_⟩,.inr λe f=>?_⟩ AA ?_
 .exact⟨.inr AA,.inr ⟨Y,.inl Y,hd⟩,PJ⟩
 .grind
 grind
theorem ak2(G:A.Good)(a:dQ (am A) l γ X w'){y:bU}(hs:stepG Q m X.g w'=.go g1 (w'.setCell (kQ A) (.int .u32 (m1.sema:Int))) (semEvents (kQ A)))(hrun:g1.status=.running)(e:m1.word=γ.mu.word)(c:¬A.left l.al)(ht:lE l.mx y γ.mu m1 l.fuel f1)(d:l.tok=true->y=.own)(b:mayWake Q X.g=true\/0<γ.mu.sema)(h:bg (am A) Q Stop m ({l with mx:=y,fuel:=f1}:Lo A.ao) ({γ with mu:=m1,a_:=γ.a_-1}:aO A.aI) ⟨g1,w'.setCell (kQ A) (.int .u32 (m1.sema:Int)),X.mine⟩):Then (Z:=am A) Q Stop m l γ X w':=by
 have hg:grown X.mine w' (w'.setCell (kQ A) (.int .u32 (m1.sema:Int)))=X.mine:=kR (oO _ _ _);refine .turn (l1:=({l with mx:=y,fuel:=f1}:Lo A.ao)) (bA:=({γ with mu:=m1,a_:=γ.a_-1}:aO A.aI)) hs ⟨hrun,.inl ⟨⟨.cell (kQ A),true,true⟩,by simp[semEvents],.inr (.inr (.inr (.inr ⟨Y,A.st,Y,.inl Y⟩)))⟩,Yt w' 1 none _,⟨ak0 a.mt.1 e,Ys G a.mt.2 _ _ _⟩,
  IH (d1:=l.deaf) (mw:=l.tok) G a.sees ht d (.inl c),.inl ⟨Y,Y,?_,?_⟩,b.imp id λi f g=>?_⟩ AA ?_
 .grind[deafBehind,semEvents]
 .exact⟨.inl trivial,.inr ⟨Y,.inr J1,F6⟩,.inr ⟨Y,.inr J1,F6⟩,.inl trivial,PJ⟩
 .grind
 grind
def sk(G:A.Good)(b:dQ (am A) l γ X w'){mk:Mark}(a:mk=.disable\/mk=.enable){y:bU}(hs:stepG Q m X.g w'=.go g1 w' #[⟨.mark mk,false,true⟩])(hrun:g1.status=.running)(c:¬A.left l.al)(ht:lE l.mx y γ.mu γ.mu l.fuel f1)(d:l.tok=true->y=.own)(hd:d1=deafBehind l.deaf #[⟨.mark mk,false,true⟩])(h:bg (am A) Q Stop m ({l with mx:=y,fuel:=f1,deaf:=d1}:Lo A.ao) ({γ with a_:=γ.a_-1}:aO A.aI) ⟨g1,w',X.mine⟩):Then (Z:=am A) Q Stop m l γ X w':=by
 refine .turn (l1:=({l with mx:=y,fuel:=f1,deaf:=d1}:Lo A.ao)) (bA:=({γ with a_:=γ.a_-1}:aO A.aI)) hs ⟨hrun,.inl ⟨⟨.mark mk,false,true⟩,Ad,a.elim (λe=>.inl H0) (λe=>.inr AA)⟩,qj _ _ _,b.mt,
  IH (d1:=d1) (mw:=l.tok) G b.sees ht d (.inl c),.inl ⟨Y,Y,hd,.inl ?_,PJ⟩,AA⟩ AA ?_
 .rcases a with rfl|rfl<;>trivial
 grind[kR]
def RG(G:A.Good)(b:dQ (am A) l γ X w')(hs:stepG Q m X.g w'=.go g1 w' #[⟨.mark (.acquire (fy A)),false,true⟩])(hrun:g1.status=.running)(c:¬A.left l.al)(a:l.mx=.own)(ht:l.tok=false)(hd:l.deaf=0)(d:f1<l.fuel)(h:bg (am A) Q Stop m ({l with fuel:=f1,tok:=true}:Lo A.ao) ({γ with a_:=γ.a_-1}:aO A.aI) ⟨g1,w',X.mine⟩):Then (Z:=am A) Q Stop m l γ X w':=by
 refine .turn (l1:=({l with fuel:=f1,tok:=true}:Lo A.ao)) (bA:=({γ with a_:=γ.a_-1}:aO A.aI)) hs ⟨hrun,.inl ⟨⟨.mark (.acquire (fy A)),false,true⟩,Ad,.inr AA⟩,qj _ _ _,b.mt,
  IH (d1:=l.deaf) (mw:=true) G b.sees (sj d l.mx) (λ_=>a) (.inl c),.inr (.inl ⟨Y,hd,hd,ht,Y,Y⟩),AA⟩ AA ?_
 grind[kR]
def aCQ(G:A.Good)(a:dQ (am A) l γ X w')(hs:stepG Q m X.g w'=.go g1 w' #[⟨.mark (.releaseMerge (fy A)),false,true⟩])(hrun:g1.status=.running)(b:¬A.left l.al)(ht:l.tok=true)(hd:l.deaf=0)(c:f1<l.fuel)(h:bg (am A) Q Stop m ({l with fuel:=f1,tok:=false}:Lo A.ao) ({γ with a_:=γ.a_-1}:aO A.aI) ⟨g1,w',X.mine⟩):Then (Z:=am A) Q Stop m l γ X w':=by
 refine .turn (l1:=({l with fuel:=f1,tok:=false}:Lo A.ao)) (bA:=({γ with a_:=γ.a_-1}:aO A.aI)) hs ⟨hrun,.inl ⟨⟨.mark (.releaseMerge (fy A)),false,true⟩,Ad,.inr AA⟩,qj _ _ _,a.mt,
  IH (d1:=l.deaf) (mw:=false) G a.sees (sj c l.mx) AA (.inl b),.inr (.inr (.inl ⟨Y,hd,hd,ht,Y,Y⟩)),AA⟩ AA ?_
 grind[kR]
def lH{w1:aS}(hs:stepG Q m X.g w'=.go g1 w1 #[])(hrun:g1.status=.running)(d:w1.heap=w'.heap)(b:Go.ConcM.OsLater w'.os w1.os)(a:w1.output=w'.output)(ht:w1.tape=w'.tape)(h:bg (am A) Q Stop m l γ ⟨g1,w1,X.mine⟩):Then (Z:=am A) Q Stop m l γ X w':=by
 refine .quiet hs ⟨hrun,⟨AA,AA,b,a,ht⟩,AA,PJ,?_⟩ ?_
 .rintro(⟨e,c,_⟩|h)
  .grind
  grind
 grind[kR]
def Mk(hs:stepG Q m X.g w'=.go g1 w' #[⟨.cell (fy A),false,true⟩])(hrun:g1.status=.running)(hd:0<l.deaf)(h:bg (am A) Q Stop m l γ ⟨g1,w',X.mine⟩):Then (Z:=am A) Q Stop m l γ X w':=by
 refine .quiet hs ⟨hrun,qj _ _ _,λ_ _ _=>Y,⟨.inr AA,PJ⟩,?_⟩ ?_
 .rintro(⟨e,a,b⟩|h)
  .simp at a;subst a;rcases b with h|h|⟨_,h⟩|⟨_,h⟩|⟨h,_⟩<;>cases h
  grind
 grind[kR]
def ak3(G:A.Good)(a:dQ (am A) l γ X w'){a1:A.ao}(hs:stepG Q m X.g w'=.go g1 w' #[⟨.mark (.releaseMerge (fy A)),false,true⟩])(hrun:g1.status=.running)(d:¬A.left a1)(c:A.past a1=A.past l.al)(ht:l.tok=true)(hd:l.deaf=0)(f:f1<l.fuel)(b:∀(aA:List A.ao)(i:Nat),aA[i]?=some l.al->A.wk γ.al aA->A.wk γ.al (aA.set i a1))(h:bg (am A) Q Stop m ({l with fuel:=f1,tok:=false,al:=a1}:Lo A.ao) ({γ with a_:=γ.a_-1}:aO A.aI) ⟨g1,w',X.mine⟩):Then (Z:=am A) Q Stop m l γ X w':=by
 refine .turn (l1:=({l with fuel:=f1,tok:=false,al:=a1}:Lo A.ao)) (bA:=({γ with a_:=γ.a_-1}:aO A.aI)) hs ⟨hrun,.inl ⟨⟨.mark (.releaseMerge (fy A)),false,true⟩,Ad,.inr AA⟩,qj _ _ _,a.mt,
  RF (d1:=l.deaf) (mw:=false) G a.sees b AP (λ_ _ _ _=>G.refl _ _ _) (λe=>absurd e d) Ad,.inr (.inr (.inl ⟨Y,hd,hd,ht,Y,c⟩)),AA⟩ AA ?_
 grind[kR]
end
end ag
namespace fq
open Conc ax bp ag
structure dD where
 st:Nat
 cP:Nat
 wg:Nat
 Ms:TypeId
 Fq:TypeId
 tWg:TypeId
 N:Nat
 rows:Nat->Nat
 size:Value
 zZ:Value
 xU:Value
 least:Value
 cj:Nat->Bool
 place:Nat->Value
 K:Nat->Prop
 most:Nat
 C:Nat
 fd:st≠wg/\st≠cP/\wg≠cP
 z0:∀b,K b->b≠st/\b≠wg/\b≠cP
def z1:At->Prop
 | .main _=>True
 | _=>False
def kS:At->Bool
 | .work .rel _ | .work .nv _ | .work .lb _ | .gone _ | .old=>true
 | _=>false
def sy(c:dD)(b:co):Obj:=.cells #[.int .u64 ((b.aR*4294967296+b.eg.toNat:Nat):Int),.int .u32 (b.gp:Int)] c.tWg
def Fs(c:dD)(b:co):Obj:=.cells b.done.toArray c.Fq
abbrev az(c:dD):e_ where
 ao:=At
 aI:=co
 wk:=cN c.N c.rows c.cj
 n9:=λb=>c.C*(c.N-b.taken)
 BQ:=λo a b b'=>(o=true->b'.taken=b.taken/\b'.came=b.came/\b'.done=b.done/\b'.least=b.least)/\(b.taken<=b'.taken/\b.came<=b'.came)/\(z1 a->b'.aR<=b.aR)
 RB:=Mr
 left:=qk
 past:=kS
 zero:=z1
 st:=c.st
 ty:=c.Ms
 cells:=λb=>#[c.size,c.zZ,.I (b.taken:Int),.I (b.came:Int),c.xU,b.least.elim c.least c.place]
 n_:=λb w=>w.heap[c.wg]?=some (sy c b)/\(True->w.heap[c.cP]?=some (Fs c b))
 BR:=λk=>k=c.wg\/k=c.cP
 gS:=λl=>(∃off sp,l=.cell ⟨c.st,off,sp⟩/\2<=off)\/fg l=some c.cP
 eZ:=λl=>l=.cell ⟨c.wg,0,none⟩\/l=.cell ⟨c.wg,1,none⟩
 K:=c.K
 wg:=⟨c.wg,0,none⟩
 most:=c.most
def bR(c:dD):(az c).Good where
 refl:=AA
 trans:=AA
 RD:=AA
 Mg:=λh=>h.elim c.fd.1 c.fd.2.1
 np:=λb d=>⟨(c.z0 b d).1,λh=>h.elim (c.z0 b d).2.1 (c.z0 b d).2.2⟩
 nW:=λb aA h=>h.alive
 zero:=λb aA j a h f e=>by cases a with|main s=>exact h.only j s f| _=>exact e.elim
 gS:=AA
 eZ:=λl h=>by rcases h with rfl|rfl<;>exact⟨c.wg,Y,.inl Y⟩
 tp:=λl h hs=>by
  rcases h with⟨off,sp,rfl,_⟩|h
  .grind
  .rcases hs with rfl|rfl<;>simp[fg]at h<;>exact c.fd.2.2 h
section
variable{c:dD}{Q:b4}{Stop:Bool->ag.Lo At->aV->Prop}{m:Bool}{l:ag.Lo At}{γ:ag.aO co}{X:aV}{w':aS}
def uI{b:co}{w:aS}(h:w.heap[c.wg]?=some (sy c b)):w.cell? (.a c.wg 0)=some (.int .u64 ((b.aR*4294967296+b.eg.toNat:Nat):Int)):=by simp[World.cell?,h,sy]
def Mt{b:co}{w:aS}(h:w.heap[c.wg]?=some (sy c b)):w.cell? (.a c.wg 1)=some (.int .u32 (b.gp:Int)):=by simp[World.cell?,h,sy]
def z2{b:co}{w:aS}(h:w.heap[c.wg]?=some (sy c b))(off:Nat)(sp):w.frozen? ⟨c.wg,off,sp⟩=false:=by simp[World.frozen?,h,sy]
def YC{mu:bk}{b b1:co}{w:aS}(d:w.heap[c.st]?=some (hH (az c) mu b))(a:(az c).n_ b w)(hs:b1.gp=b.gp)(ht:b1.taken=b.taken)(hc:b1.came=b.came)(hd:b1.done=b.done/\b1.least=b.least){v:Int}(hv:v=((b1.aR*4294967296+b1.eg.toNat:Nat):Int)):
 (w.setCell ⟨c.wg,0,none⟩ (.int .u64 v)).heap[c.st]?=some (hH (az c) mu b1)/\(az c).n_ b1 (w.setCell ⟨c.wg,0,none⟩ (.int .u64 v)):=by
 subst hv;refine⟨?_,?_,λe=>?_⟩
 .rw[nt w _ _ c.fd.1,d];grind[hH]
 .simp_all[World.setCell,vbb,sy]
 .rw[nt w _ _ (Ne.symm c.fd.2.2),a.2 e];grind[Fs]
def alo{mu:bk}{b b1:co}{w:aS}(d:w.heap[c.st]?=some (hH (az c) mu b))(a:(az c).n_ b w)(hs:b1.aR=b.aR/\b1.eg=b.eg)(ht:b1.taken=b.taken)(hc:b1.came=b.came)(hd:b1.done=b.done/\b1.least=b.least){v:Int}(hv:v=(b1.gp:Int)):
 (w.setCell ⟨c.wg,1,none⟩ (.int .u32 v)).heap[c.st]?=some (hH (az c) mu b1)/\(az c).n_ b1 (w.setCell ⟨c.wg,1,none⟩ (.int .u32 v)):=by
 subst hv;refine⟨?_,?_,λe=>?_⟩
 .rw[nt w _ _ c.fd.1,d];grind[hH]
 .simp_all[World.setCell,vbb,sy]
 .rw[nt w _ _ (Ne.symm c.fd.2.2),a.2 e];grind[Fs]
def RZ{mine:dh}(w:aS)(off:Nat)(sp)(v:Value):li (am (az c)) mine w (w.setCell ⟨c.wg,off,sp⟩ v):=
 ⟨λb _ _ hs=>nt w _ v AA,BK,.refl _,Y,Y⟩
def YD{mine:dh}(w:aS)(off:Nat)(sp)(v:Value):li (am (az c)) mine w (w.setCell ⟨c.st,off,sp⟩ v):=
 ⟨λb _ _ hs=>nt w _ v AA,BK,.refl _,Y,Y⟩
def alp{mine:dh}(w:aS)(off:Nat)(sp)(v:Value):li (am (az c)) mine w (w.setCell ⟨c.cP,off,sp⟩ v):=
 ⟨λb _ _ hs=>nt w _ v AA,BK,.refl _,Y,Y⟩
end
end fq
namespace fq
open Conc bp ag
section
section
variable{N:Nat}{rows:uas}{cj:ubd}{b:co}{xs:List At}{i:Nat}{l:uae}
def cN.alr(h:cN N rows cj b xs)(hi:xs[i]?=some (.work .rel l)):1<=b.aR:=by have a:=h.aR;grind[nx,gh]
def cN.als(h:cN N rows cj b xs)(hi:xs[i]?=some (.work .nv l)):b.aR=0/\b.eg=true:=by
 have:=nx gq xs i _ hi;simp[gq]at this;obtain⟨s,_,a⟩:=h.main;cases s with
 |su=>
  rcases a with⟨m1,_,_,d⟩|⟨_,_,c,_⟩
  .grind
  .omega
 |spawn k q=>have:=a.2.2.1;omega
 |pH=>have:=a.2.2.1;omega
 |over=>have:=a.2.2.2.1;omega
def cN.alt(h:cN N rows cj b xs)(hi:xs[i]?=some (.work .lb l)):b.gp=0:=by
 have:=nx gy xs i _ hi;simp[gy]at this;obtain⟨s,_,a⟩:=h.main;cases s with
 |su=>rcases a with⟨_,_,c,_⟩|⟨_,_,_,d⟩<;>omega
 |spawn k q=>have:=a.2.2.2;omega
 |pH=>have:=a.2.2.2;omega
 |over=>have:=a.2.2.2.2;omega
end
section
variable{c:dD}{l:ag.Lo At}{γ:ag.aO co}{p:uae}
def wq(h:hh (am (az c)) l γ):∃(xs:List At)(i:Nat),xs[i]?=some l.al/\cN c.N c.rows c.cj γ.al xs:=by obtain⟨ls,i,hi,hg⟩:∃(ls:List (ag.Lo At))(i:Nat),ls[i]?=some l/\tA (az c) γ ls:=h;exact⟨ls.map (·.al),i,AA,hg.pE⟩
def alu(h:hh (am (az c)) l γ)(a:l.al=.work .rel p):1<=γ.al.aR:=by obtain⟨xs,i,hi,hg⟩:=wq h;rw[a]at hi;exact hg.alr hi
def YE(h:hh (am (az c)) l γ)(a:l.al=.work .nv p):γ.al.aR=0/\γ.al.eg=true:=by obtain⟨xs,i,hi,hg⟩:=wq h;rw[a]at hi;exact hg.als hi
def alv(h:hh (am (az c)) l γ)(a:l.al=.work .lb p):γ.al.gp=0:=by obtain⟨xs,i,hi,hg⟩:=wq h;rw[a]at hi;exact hg.alt hi
end
end
variable{g1:uah}
section
open ax
section
variable{c:dD}{Q:b4}{Stop:Bool->ag.Lo At->aV->Prop}{m:Bool}{l:ag.Lo At}{γ:ag.aO co}{X:aV}{w':aS}
def BY(k:dQ (am (az c)) l γ X w'){w1:aS}{es:uao}{a1:At}{b1:co}{f1 d1:Nat}(hs:stepG Q m X.g w'=.go g1 w1 es)(hrun:g1.status=.running)(b:∃e∈es,we (am (az c)) e)(hk:li (am (az c)) X.mine w' w1)(hsz:w1.heap.size=w'.heap.size)(j:w1.heap[c.st]?=some (hH (az c) γ.mu b1)/\(az c).n_ b1 w1)(g:∀(aA:List At)(i:Nat),aA[i]?=some l.al->cN c.N c.rows c.cj γ.al aA->cN c.N c.rows c.cj b1 (aA.set i a1))(n:f1+c.C*(c.N-b1.taken)+1<=l.fuel+c.C*(c.N-γ.al.taken))(q:l.mx=.own\/(b1.taken=γ.al.taken/\b1.came=γ.al.came/\b1.done=γ.al.done/\b1.least=γ.al.least))(w:γ.al.taken<=b1.taken/\γ.al.came<=b1.came)(y:z1 l.al\/b1.aR<=γ.al.aR)(p:qk a1->l.mx=.idle)(f:l.tok=true->l.mx=.own)(says:Says (am (az c)) l ({l with al:=a1,fuel:=f1,deaf:=d1}:ag.Lo At) X.mine es)(d:mayWake Q X.g=true\/∀a,Mr a γ.al->Mr a b1)(v:qk a1->m=false/\Stop m ({l with al:=a1,fuel:=f1,deaf:=d1}:ag.Lo At) ⟨g1,w1,X.mine⟩)(h:bg (am (az c)) Q Stop m ({l with al:=a1,fuel:=f1,deaf:=d1}:ag.Lo At) ({γ with al:=b1,a_:=γ.a_-1}:ag.aO co) ⟨g1,w1,X.mine⟩):Then (Z:=am (az c)) Q Stop m l γ X w':=by
 have hg:grown X.mine w' w1=X.mine:=kR hsz;refine .turn (l1:=({l with al:=a1,fuel:=f1,deaf:=d1}:ag.Lo At)) (bA:=({γ with al:=b1,a_:=γ.a_-1}:ag.aO co)) hs ⟨hrun,.inl b,hk,j,RF (bR c) k.sees g n (λo a' u s=>?_) p f,AA,d.imp id λt r x=>?_⟩ AA AA
 .grind
 grind
def Mv(d:dQ (am (az c)) l γ X w'){a1:At}{b1:co}{f1:Nat}{v:Int}(hs:stepG Q m X.g w'=.go g1 (w'.setCell ⟨c.wg,0,none⟩ (.int .u64 v)) #[⟨.cell ⟨c.wg,0,none⟩,false,true⟩,⟨.cell ⟨c.wg,0,none⟩,true,true⟩])(hrun:g1.status=.running)(hv:v=((b1.aR*4294967296+b1.eg.toNat:Nat):Int))(hd:0<l.deaf)(e:b1.gp=γ.al.gp)(b:b1.taken=γ.al.taken/\b1.came=γ.al.came/\b1.done=γ.al.done/\b1.least=γ.al.least)(k:∀(aA:List At)(i:Nat),aA[i]?=some l.al->cN c.N c.rows c.cj γ.al aA->cN c.N c.rows c.cj b1 (aA.set i a1))(q:f1<l.fuel)(p:z1 l.al\/b1.aR<=γ.al.aR)(o:qk a1->l.mx=.idle)(j:l.tok=true->l.mx=.own)(g:kS a1=kS l.al)(n:qk a1->m=false/\Stop m ({l with al:=a1,fuel:=f1}:ag.Lo At) ⟨g1,w'.setCell ⟨c.wg,0,none⟩ (.int .u64 v),X.mine⟩)(h:bg (am (az c)) Q Stop m ({l with al:=a1,fuel:=f1}:ag.Lo At) ({γ with al:=b1,a_:=γ.a_-1}:ag.aO co) ⟨g1,w'.setCell ⟨c.wg,0,none⟩ (.int .u64 v),X.mine⟩):Then (Z:=am (az c)) Q Stop m l γ X w':=
 BY (d1:=l.deaf) d hs hrun ⟨⟨.cell ⟨c.wg,0,none⟩,true,true⟩,Ad,.inr (.inr (.inr (.inr ⟨Y,c.wg,Y,.inr J1⟩)))⟩ (RZ w' 0 none _) (oO _ _ _) (YC d.mt.1 d.mt.2 e b.1 b.2.1 b.2.2 hv) k AA (.inr b) AA p o j
  (.inl ⟨Y,g,Y,.inr AA,.inr ⟨Y,AA,hd⟩,PJ⟩) (.inr λa f=>⟨f.1,e.trans f.2⟩) n h
def aly(d:dQ (am (az c)) l γ X w'){a1:At}{b1:co}{f1:Nat}{v:Int}(hs:stepG Q m X.g w'=.go g1 (w'.setCell ⟨c.wg,0,none⟩ (.int .u64 v)) #[⟨.cell ⟨c.wg,0,none⟩,true,true⟩])(hrun:g1.status=.running)(hv:v=((b1.aR*4294967296+b1.eg.toNat:Nat):Int))(hd:0<l.deaf)(e:b1.gp=γ.al.gp)(b:b1.taken=γ.al.taken/\b1.came=γ.al.came/\b1.done=γ.al.done/\b1.least=γ.al.least)(k:∀(aA:List At)(i:Nat),aA[i]?=some l.al->cN c.N c.rows c.cj γ.al aA->cN c.N c.rows c.cj b1 (aA.set i a1))(o:f1<l.fuel)(n:z1 l.al\/b1.aR<=γ.al.aR)(p:¬qk a1)(j:l.tok=true->l.mx=.own)(g:kS a1=kS l.al)(h:bg (am (az c)) Q Stop m ({l with al:=a1,fuel:=f1}:ag.Lo At) ({γ with al:=b1,a_:=γ.a_-1}:ag.aO co) ⟨g1,w'.setCell ⟨c.wg,0,none⟩ (.int .u64 v),X.mine⟩):Then (Z:=am (az c)) Q Stop m l γ X w':=
 BY (d1:=l.deaf) d hs hrun ⟨⟨.cell ⟨c.wg,0,none⟩,true,true⟩,Ad,.inr (.inr (.inr (.inr ⟨Y,c.wg,Y,.inr J1⟩)))⟩ (RZ w' 0 none _) (oO _ _ _) (YC d.mt.1 d.mt.2 e b.1 b.2.1 b.2.2 hv) k AA (.inr b) AA n AA j
  (.inl ⟨Y,g,Y,.inr AA,PJ⟩) (.inr λa f=>⟨f.1,e.trans f.2⟩) AA h
def YF(d:dQ (am (az c)) l γ X w'){a1:At}{b1:co}{f1:Nat}{v:Int}(hs:stepG Q m X.g w'=.go g1 (w'.setCell ⟨c.wg,1,none⟩ (.int .u32 v)) (semEvents ⟨c.wg,1,none⟩))(hrun:g1.status=.running)(hv:v=(b1.gp:Int))(q:b1.aR=γ.al.aR/\b1.eg=γ.al.eg)(b:b1.taken=γ.al.taken/\b1.came=γ.al.came/\b1.done=γ.al.done/\b1.least=γ.al.least)(k:∀(aA:List At)(i:Nat),aA[i]?=some l.al->cN c.N c.rows c.cj γ.al aA->cN c.N c.rows c.cj b1 (aA.set i a1))(r:f1<l.fuel)(p:qk a1->l.mx=.idle)(j:l.tok=true->l.mx=.own)(g:kS a1=kS l.al)(f:mayWake Q X.g=true\/γ.al.gp≠0)(n:qk a1->m=false/\Stop m ({l with al:=a1,fuel:=f1}:ag.Lo At) ⟨g1,w'.setCell ⟨c.wg,1,none⟩ (.int .u32 v),X.mine⟩)(h:bg (am (az c)) Q Stop m ({l with al:=a1,fuel:=f1}:ag.Lo At) ({γ with al:=b1,a_:=γ.a_-1}:ag.aO co) ⟨g1,w'.setCell ⟨c.wg,1,none⟩ (.int .u32 v),X.mine⟩):Then (Z:=am (az c)) Q Stop m l γ X w':=
 BY (d1:=l.deaf) d hs hrun ⟨⟨.cell ⟨c.wg,1,none⟩,true,true⟩,by simp[semEvents],.inr (.inr (.inr (.inr ⟨Y,c.wg,Y,.inr J1⟩)))⟩ (RZ w' 1 none _) (oO _ _ _) (alo d.mt.1 d.mt.2 q b.1 b.2.1 b.2.2 hv) k AA (.inr b) AA AA p j
  (.inl ⟨Y,g,by grind[deafBehind,semEvents],.inl trivial,.inr ⟨Y,AA,F6⟩,.inr ⟨Y,AA,F6⟩,.inl trivial,PJ⟩)
  (f.imp id λe a o=>absurd o.2 e) n h
def YG(b:dQ (am (az c)) l γ X w'){mk:Mark}(a:mk=.disable\/mk=.enable){a1:At}{f1 d1:Nat}(hs:stepG Q m X.g w'=.go g1 w' #[⟨.mark mk,false,true⟩])(hrun:g1.status=.running)(g:∀(aA:List At)(i:Nat),aA[i]?=some l.al->cN c.N c.rows c.cj γ.al aA->cN c.N c.rows c.cj γ.al (aA.set i a1))(j:f1<l.fuel)(k:¬qk a1)(f:l.tok=true->l.mx=.own)(d:kS a1=kS l.al)(hd:d1=deafBehind l.deaf #[⟨.mark mk,false,true⟩])(h:bg (am (az c)) Q Stop m ({l with al:=a1,fuel:=f1,deaf:=d1}:ag.Lo At) ({γ with a_:=γ.a_-1}:ag.aO co) ⟨g1,w',X.mine⟩):Then (Z:=am (az c)) Q Stop m l γ X w':=
 BY (b1:=γ.al) (d1:=d1) b hs hrun ⟨⟨.mark mk,false,true⟩,Ad,a.elim (λe=>.inl H0) (λe=>.inr AA)⟩ (qj _ _ _) Y b.mt g AP AA ⟨vac _,vac _⟩ AA AA f
  (.inl ⟨Y,d,hd,.inl (by rcases a with rfl|rfl<;>exact trivial),PJ⟩) AA AA h
def alz(a:dQ (am (az c)) l γ X w'){p:uae}{f1:Nat}(hs:stepG Q m X.g w'=.go g1 w' #[⟨.mark (.releaseMerge ⟨c.wg,0,none⟩),false,true⟩])(hrun:g1.status=.running)(d:l.al=.work .free p)(a7:oc c.N γ.al)(f:f1<l.fuel)(hd:l.deaf=0)(b:l.tok=false)(h:bg (am (az c)) Q Stop m ({l with al:=.work .rel p,fuel:=f1}:ag.Lo At) ({γ with a_:=γ.a_-1}:ag.aO co) ⟨g1,w',X.mine⟩):Then (Z:=am (az c)) Q Stop m l γ X w':=
 BY (a1:=.work .rel p) (b1:=γ.al) (d1:=l.deaf) a hs hrun ⟨⟨.mark (.releaseMerge ⟨c.wg,0,none⟩),false,true⟩,Ad,.inr AA⟩ (qj _ _ _) Y a.mt (λaA i hi hg=>hg.release a7 AA) AP AA ⟨vac _,vac _⟩ AA Kl AA
  (.inr (.inr (.inr ⟨Y,hd,hd,Y,Y⟩))) AA (λe=>e.elim) h
end
end
end fq
namespace bM
open Conc
theorem CE:(f71.name== "runtime.NumGoroutine")=false:=by kernel_rfl
theorem CF:f71.body.isNone=true:=by kernel_rfl
theorem CG:Extern.findNext f71=none:=by kernel_rfl
theorem CH:Extern.find f71=some (λ_=>do mark .disable;pure Extern.Race.none_):=by kernel_rfl
theorem qy:(f72.name== "runtime.NumGoroutine")=false:=by kernel_rfl
theorem qz:f72.body.isNone=true:=by kernel_rfl
theorem qA:Extern.findNext f72=none:=by kernel_rfl
theorem qB:Extern.find f72=some (λ_=>do mark .enable;pure Extern.Race.none_):=by kernel_rfl
theorem Ga:(f85.name== "runtime.NumGoroutine")=false:=by kernel_rfl
theorem Gb:f85.body.isNone=true:=by kernel_rfl
theorem Gc:Extern.findNext f85=none:=by kernel_rfl
theorem Gd:Extern.find f85=some (Extern.Race.marked .acquire):=by kernel_rfl
theorem Tt:(f70.name== "runtime.NumGoroutine")=false:=by kernel_rfl
theorem Tu:f70.body.isNone=true:=by kernel_rfl
theorem Tv:Extern.findNext f70=none:=by kernel_rfl
theorem Tw:Extern.find f70=some (Extern.Race.marked .releaseMerge):=by kernel_rfl
theorem yp:(f126.name== "runtime.NumGoroutine")=false:=by kernel_rfl
theorem yq:f126.body.isNone=true:=by kernel_rfl
theorem yr:Extern.findNext f126=none:=by kernel_rfl
theorem yt:Extern.find f126=some (Extern.Atomic.casT (.int .i32)):=by kernel_rfl
theorem JG:(f128.name== "runtime.NumGoroutine")=false:=by kernel_rfl
theorem JH:f128.body.isNone=true:=by kernel_rfl
theorem JI:Extern.findNext f128=none:=by kernel_rfl
theorem JJ:Extern.find f128=some (Extern.Atomic.update (Op.intArith .add) .i32 true):=by kernel_rfl
theorem PS:(f144.name== "runtime.NumGoroutine")=false:=by kernel_rfl
theorem PR:f144.body.isNone=true:=by kernel_rfl
theorem PI:Extern.findNext f144=none:=by kernel_rfl
theorem Pk:Extern.find f144=some Extern.Sync.canSpin:=by kernel_rfl
theorem aqa:(f145.name== "runtime.NumGoroutine")=false:=by kernel_rfl
theorem aqb:f145.body.isNone=true:=by kernel_rfl
theorem aqc:Extern.findNext f145=none:=by kernel_rfl
theorem aqd:Extern.find f145=some Extern.Sync.nothing:=by kernel_rfl
theorem Pj:(f147.name== "runtime.NumGoroutine")=false:=by kernel_rfl
theorem OB:f147.body.isNone=true:=by kernel_rfl
theorem OA:Extern.findNext f147=none:=by kernel_rfl
theorem Oz:Extern.find f147=some Extern.OsHooks.nano:=by kernel_rfl
theorem Tx:(f148.name== "runtime.NumGoroutine")=false:=by kernel_rfl
theorem Ty:f148.body.isNone=true:=by kernel_rfl
theorem Tz:Extern.findNext f148=none:=by kernel_rfl
theorem TA:Extern.find f148=some Extern.Sync.semacquire:=by kernel_rfl
theorem Ov:(f150.name== "runtime.NumGoroutine")=false:=by kernel_rfl
theorem NK:f150.body.isNone=true:=by kernel_rfl
theorem Ou:Extern.findNext f150=none:=by kernel_rfl
theorem Ot:Extern.find f150=some Extern.Sync.semrelease:=by kernel_rfl
theorem Om:f147.norace=true:=by kernel_rfl
theorem TB:(f90.name== "runtime.NumGoroutine")=false:=by kernel_rfl
theorem JK:(f91.name== "runtime.NumGoroutine")=false:=by kernel_rfl
theorem NZ:(f114.name== "runtime.NumGoroutine")=false:=by kernel_rfl
theorem NY:(f115.name== "runtime.NumGoroutine")=false:=by kernel_rfl
theorem NW:(prog.funcs[(base 115).fn]?).any (·.norace)=true:=by kernel_rfl
theorem aqe:(f127.name== "runtime.NumGoroutine")=false:=by kernel_rfl
theorem JL:(prog.funcs[(base 127).fn]?).any (·.norace)=true:=by kernel_rfl
theorem NU:(f129.name== "runtime.NumGoroutine")=false:=by kernel_rfl
theorem aqf:(prog.funcs[(base 129).fn]?).any (·.norace)=true:=by kernel_rfl
open RowKit Conc.Lib ConcR.Gen ConcM ax bp ag
def NT:prog.underlying 238=some (.pointer 167):=by simp
def NL:prog.underlying 174=some .unsafePointer:=by simp
theorem NP:(prog.info? 167).map (λi=>decide (i.size=0))=some false:=by kernel_rfl
section
variable{m:Bool}{b:Frame}{a:Act}{kk:il}{cs:fV}{w:aS}{ops:eY}{i:Nat}{rest:uaa}{o:Oper}
def Ge{x:uar}(f:ops[i]?=some o)(c:Region.wanted o (yielded ops a.tmps)=true)(hk:b.kind≠ .early)(e:o.op=.convert 238 174 x){ad:Addr}{v:Value}(j:a.eval x=.pointer (some ad))(hc:w.cell? ad=some v):
 stepG prog m (Conc.G (b.at a (.inRegion ops (i::rest)::kk)) cs) w=.go (Conc.G (b.at (a.put o.dst (.pointer (some ad))) (.inRegion ops rest::kk)) cs) w #[]:=by
 have g:=run_convert_to_unsafe (P:=prog) NT NL NP hc;have h:=λes=>events_convert_to_unsafe (P:=prog) NT NL NP hc es;have d:(execOp a.eval o).run prog w=.ok (.value (.pointer (some ad))) w:=by simp_all[execOp]
 have k:(execOp a.eval o).events prog w #[]=#[]:=by simp_all[execOp]
 rw[vbc f c hk d];grind[listed,seen_none]
def Ar{x:uar}(g:ops[i]?=some o)(e:Region.wanted o (yielded ops a.tmps)=true)(hk:b.kind≠ .early)(c:o.op=.load 21 x){ad:Addr}{v:Int}(d:a.eval x=.pointer (some ad))(hc:w.cell? ad=some (.int .i32 v))(hq:(prog.funcs[b.fn]?).any (·.norace)=true):
 stepG prog m (Conc.G (b.at a (.inRegion ops (i::rest)::kk)) cs) w=.go (Conc.G (b.at (a.put o.dst (.int .i32 v)) (.inRegion ops rest::kk)) cs) w #[]:=by
 have f:(execOp a.eval o).run prog w=.ok (.value (.int .i32 v)) w:=by unfold execOp;simp only[c,d];simp[go_sem,hc]
 have h:(execOp a.eval o).events prog w #[]=#[⟨.cell ad,false,false⟩]:=by unfold execOp;simp only[c,d];simp[go_sem,hc]
 rw[vbc g e hk f];grind[listed,seen_def,seenStep]
end
def TC{mu:bk}(h:mu.word=0):mu.L=false/\mu.W=false/\mu.S=false/\mu.k=0:=by grind[bk.word]
def dA:Code->Option Code
 | .loop c=>some c
 | .seq x y=>match dA x with|some c=>some c|none=>dA y
 | .block _ c=>dA c
 | .cond _ x y=>match dA x with|some c=>some c|none=>dA y
 | _=>none
def kZ:Code->Option Code
 | .seq (.block _ _) r=>some r
 | .seq _ y=>kZ y
 | _=>none
def dW(id:Nat):Code->Option Code
 | .seq x y=>if(match x with| .region i _ _=>i==id| _=>false)then some (.seq x y)else match dW id x with|some c=>some c|none=>dW id y
 | .block _ c=>dW id c
 | .loop c=>dW id c
 | .cond _ x y=>match dW id x with|some c=>some c|none=>dW id y
 | _=>none
def k0:Code->Code
 | .seq _ y=>y
 | _=>.skip
def oo:Code->Array Oper
 | .seq (.region _ o _) _=>o
 | _=>#[]
def jM(ks:il)(A:e_)(Stop:Bool->ag.Lo A.ao->aV->Prop)(m:Bool)(mine:dh)(a4:Frame)(aF:Act)(aC:eY)(aK:Nat)(aM:uaa)(aH:il)(csZ:fV)(l:ag.Lo A.ao)(γ:ag.aO A.aI)(cp:Int)(sv aw:Bool)(it old:Int)(w:aS):Prop:=
 ∀(dC sL fK fL fM fN fO fP qC qD f2 fQ fR fS iU fT gA gB gC ve vf vg vh vi vj vk vl vm vn vo vp vq vr vt vu vv vw yu yv yw yx yy yz yA yB yC yD yE yF yG yH yI yJ yK yL yM yN yO yP yQ yR yS yT yU yV yW yX yY yZ y0 y1 CI CJ CK CL y2 y3 y4 CM CN CO CP CQ CR CS JM CU CV CW CX CY CZ C0 C1 C2 C3 C4 C5 C6 C7 C8 C9 C_ Da Db Dc Dd De Df Dg Dh Di Dj Dk Dl Dm Dn Do Dp Dq Dr Ds Dt Du Dv Dw Dx Dy Dz DC DD DF DG:Value),bg (am A) prog Stop m l γ ⟨Conc.G ((base 127).at ⟨#[.pointer (some (ag.fy A)),dC,.I cp,.bool sv,.bool aw,.I it,.int .i32 old,sL,fK,fL,fM,fN,fO,fP,qC,qD,f2,fQ,fR,fS,iU,fT,gA,gB,gC,ve,vf,vg,vh,vi,vj,vk,vl,vm,vn,vo,vp,vq,vr,vt,vu,vv,vw,yu,yv,yw,yx,yy,yz,yA,yB,yC,yD,yE,yF,yG,yH,yI,yJ,yK,yL,yM,yN,yO,yP,yQ,yR,yS,yT,yU,yV,yW,yX,yY,yZ,y0,y1,CI,CJ,CK,CL,y2,y3,y4,CM,CN,CO,CP,CQ,CR,CS,JM,CU,CV,CW,CX,CY,CZ,C0,C1,C2,C3,C4,C5,C6,C7,C8,C9,C_,Da,Db,Dc,Dd,De,Df,Dg,Dh,Di,Dj,Dk,Dl,Dm,Dn,Do,Dp,Dq,Dr,Ds,Dt,Du,Dv,Dw,Dx,Dy,Dz,DC,DD,DF,DG],[]⟩ ks) (a4.at aF (.inRegion aC (aK::aM)::aH)::csZ),w,mine⟩
def pU(A:e_)(Stop:Bool->ag.Lo A.ao->aV->Prop)(m:Bool)(mine:dh)(a4:Frame)(aF:Act)(aC:eY)(aK:Nat)(aM:uaa)(aH:il)(csZ:fV)(l:ag.Lo A.ao)(γ:ag.aO A.aI)(cp:Int)(sv aw:Bool)(it old:Int)(w:aS):Prop:=
 jM [.code ((dA (f127.body.getD .skip)).getD .skip),.inLoop ((dA (f127.body.getD .skip)).getD .skip),.inBlock 0,.code ((kZ (f127.body.getD .skip)).getD .skip)] A Stop m mine a4 aF aC aK aM aH csZ l γ cp sv aw it old w
def As(A:e_)(Stop:Bool->ag.Lo A.ao->aV->Prop)(m:Bool)(mine:dh)(a4:Frame)(aF:Act)(aC:eY)(aK:Nat)(aM:uaa)(aH:il)(csZ:fV)(l:ag.Lo A.ao)(γ:ag.aO A.aI)(cp:Int)(sv aw:Bool)(it old:Int)(w:aS):Prop:=
 jM [.code ((dW 11 ((dA (f127.body.getD .skip)).getD .skip)).getD .skip),.inBlock 1,.inLoop ((dA (f127.body.getD .skip)).getD .skip),.inBlock 0,.code ((kZ (f127.body.getD .skip)).getD .skip)] A Stop m mine a4 aF aC aK aM aH csZ l γ cp sv aw it old w
def JN(A:e_)(Stop:Bool->ag.Lo A.ao->aV->Prop)(m:Bool)(mine:dh)(a4:Frame)(aF:Act)(aC:eY)(aK:Nat)(aM:uaa)(aH:il)(csZ:fV)(l:ag.Lo A.ao)(γ:ag.aO A.aI)(cp:Int)(sv aw:Bool)(it old:Int)(new:Int)(w:aS):Prop:=
 ∀(dC fK fL fM fN fO fP qC qD f2 fQ fR fS iU fT gA gB gC ve vf vg vh vi vj vk vl vm vn vo vp vq vr vt vu vv vw yu yv yw yx yy yz yA yB yC yD yE yF yG yH yI yJ yK yL yM yN yO yP yQ yR yS yT yU yV yW yX yY yZ y0 y1 CL y2 y3 y4 CM CN CO CP CQ CR CS JM CU CV CW CX CY CZ C0 C1 C2 C3 C4 C5 C6 C7 C8 C9 C_ Da Db Dc Dd De Df Dg Dh Di Dj Dk Dl Dm Dn Do Dp Dq Dr Ds Dt Du Dv Dw Dx Dy Dz DC DD DF DG:Value),bg (am A) prog Stop m l γ ⟨Conc.G ((base 127).at ⟨#[.pointer (some (ag.fy A)),dC,.I cp,.bool sv,.bool aw,.I it,.int .i32 old,.int .i32 new,fK,fL,fM,fN,fO,fP,qC,qD,f2,fQ,fR,fS,iU,fT,gA,gB,gC,ve,vf,vg,vh,vi,vj,vk,vl,vm,vn,vo,vp,vq,vr,vt,vu,vv,vw,yu,yv,yw,yx,yy,yz,yA,yB,yC,yD,yE,yF,yG,yH,yI,yJ,yK,yL,yM,yN,yO,yP,yQ,yR,yS,yT,yU,yV,yW,yX,yY,yZ,y0,y1,.pointer (some (ag.fy A)),.int .i32 old,.int .i32 new,CL,y2,y3,y4,CM,CN,CO,CP,CQ,CR,CS,JM,CU,CV,CW,CX,CY,CZ,C0,C1,C2,C3,C4,C5,C6,C7,C8,C9,C_,Da,Db,Dc,Dd,De,Df,Dg,Dh,Di,Dj,Dk,Dl,Dm,Dn,Do,Dp,Dq,Dr,Ds,Dt,Du,Dv,Dw,Dx,Dy,Dz,DC,DD,DF,DG],[]⟩ [.inRegion (oo ((dW 22 ((dA (f127.body.getD .skip)).getD .skip)).getD .skip)) [5],.code (k0 ((dW 22 ((dA (f127.body.getD .skip)).getD .skip)).getD .skip)),.inBlock 1,.inLoop ((dA (f127.body.getD .skip)).getD .skip),.inBlock 0,.code ((kZ (f127.body.getD .skip)).getD .skip)]) (a4.at aF (.inRegion aC (aK::aM)::aH)::csZ),w,mine⟩
def vx(A:e_)(Stop:Bool->ag.Lo A.ao->aV->Prop)(m:Bool)(mine:dh)(a4:Frame)(aF:Act)(aC:eY)(aK:Nat)(aM:uaa)(aH:il)(csZ:fV)(l:ag.Lo A.ao)(γ:ag.aO A.aI)(cp:Int)(sv aw:Bool)(it old:Int)(kW:Bool)(w:aS):Prop:=
 ∀(dC sL fK fL fM fN fO fP qC qD f2 fQ fR fS iU fT gA gB gC ve vf vg vh vi vj vk vl vm vn vo vp vq vr vt vu vv vw yu yv yw yx yy yz yA yB yC yD yE yF yG yH yI yJ yK yL yM yN yO yP yQ yR yS yT yU yV yW yX yY yZ y0 y1 CI CJ CK y2 y3 y4 CM CN CO CP CQ CR CS JM CU CV CW CX CY CZ C0 C1 C2 C3 C4 C5 C6 C7 C8 C9 C_ Da Db Dc Dd De Df Dg Dh Di Dj Dk Dl Dm Dn Do Dp Dq Dr Ds Dt Du Dv Dw Dx Dy Dz DC DD DF DG:Value),bg (am A) prog Stop m l γ ⟨Conc.G ((base 127).at ⟨#[.pointer (some (ag.fy A)),dC,.I cp,.bool sv,.bool aw,.I it,.int .i32 old,sL,fK,fL,fM,fN,fO,fP,qC,qD,f2,fQ,fR,fS,iU,fT,gA,gB,gC,ve,vf,vg,vh,vi,vj,vk,vl,vm,vn,vo,vp,vq,vr,vt,vu,vv,vw,yu,yv,yw,yx,yy,yz,yA,yB,yC,yD,yE,yF,yG,yH,yI,yJ,yK,yL,yM,yN,yO,yP,yQ,yR,yS,yT,yU,yV,yW,yX,yY,yZ,y0,y1,CI,CJ,CK,.bool kW,y2,y3,y4,CM,CN,CO,CP,CQ,CR,CS,JM,CU,CV,CW,CX,CY,CZ,C0,C1,C2,C3,C4,C5,C6,C7,C8,C9,C_,Da,Db,Dc,Dd,De,Df,Dg,Dh,Di,Dj,Dk,Dl,Dm,Dn,Do,Dp,Dq,Dr,Ds,Dt,Du,Dv,Dw,Dx,Dy,Dz,DC,DD,DF,DG],[]⟩ [.code (k0 ((dW 22 ((dA (f127.body.getD .skip)).getD .skip)).getD .skip)),.inBlock 1,.inLoop ((dA (f127.body.getD .skip)).getD .skip),.inBlock 0,.code ((kZ (f127.body.getD .skip)).getD .skip)]) (a4.at aF (.inRegion aC (aK::aM)::aH)::csZ),w,mine⟩
end bM
namespace bM
open Conc ag
def Gf{n c:Nat}(hn:n<2147483648)(hc:c<2147483648):bits .and .i32 (n:Int) (c:Int)=((n&&& c:Nat):Int):=by
 have h:(n&&& c)<=c:=Nat.and_le_right;have e:(BitVec.ofInt 32 (n:Int)&&& BitVec.ofInt 32 (c:Int)).toNat=n&&& c:=by rw[BitVec.toNat_and,vcn,vcn,vda,vda,vbw AP,vbw AP]
 show IntKind.wrap .i32 (((BitVec.ofInt 32 (n:Int)&&& BitVec.ofInt 32 (c:Int)).toNat:Nat):Int)=_;rw[e,IntKind.wrap_i32];omega
def TD{n c:Nat}(hn:n<1073741824)(hc:c<1073741824):bits .or .i32 (n:Int) (c:Int)=((n|||c:Nat):Int):=by
 have h:(n|||c)<2^30:=Nat.or_lt_two_pow hn hc;have e:(BitVec.ofInt 32 (n:Int)|||BitVec.ofInt 32 (c:Int)).toNat=n|||c:=by rw[BitVec.toNat_or,vcn,vcn,vda,vda,vbw AP,vbw AP]
 show IntKind.wrap .i32 (((BitVec.ofInt 32 (n:Int)|||BitVec.ofInt 32 (c:Int)).toNat:Nat):Int)=_;rw[e,IntKind.wrap_i32];omega
def aqh{n:Nat}(hn:n<1073741824):bits .andNot .i32 (n:Int) 2=((n&&& 4294967293:Nat):Int):=by
 have h:(n&&& 4294967293)<=n:=Nat.and_le_left;have e:(BitVec.ofInt 32 (n:Int)&&& ~~~(BitVec.ofInt 32 2)).toNat=n&&& 4294967293:=by rw[BitVec.toNat_and,vcn,vda,vbw AP];rfl
 show IntKind.wrap .i32 (((BitVec.ofInt 32 (n:Int)&&& ~~~(BitVec.ofInt 32 2)).toNat:Nat):Int)=_;rw[e,IntKind.wrap_i32];omega
def Gg{r k c:Nat}(f:r<8)(hc:c<8):(r+8*k)&&& c=r&&& c:=by have g:((r+8*k)&&& c)<=c:=Nat.and_le_right;have d:=Nat.and_mod_two_pow (a:=r+8*k) (b:=c) (n:=3);have e:(r+8*k) % 2^3=r:=AP;rw[e,vbw (show c<2^3 from hc),vbw (show((r+8*k)&&& c)<2^3 by omega)]at d;exact d
def TE{r k c:Nat}(i:r<8)(hc:c<8):(r+8*k)|||c=(r|||c)+8*k:=by have f:=Nat.or_mod_two_pow (a:=r+8*k) (b:=c) (n:=3);have d:=Nat.or_div_two_pow (a:=r+8*k) (b:=c) (n:=3);have e:(r+8*k) % 2^3=r:=AP;have h:(r+8*k) / 2^3=k:=AP;have g:c / 2^3=0:=AP;rw[e,vbw (show c<2^3 from hc)]at f;rw[h,g,Nat.or_zero]at d;omega
def aqi{r k:Nat}(h:r<8)(hk:k<536870912):(r+8*k)&&& 4294967293=(r&&& 5)+8*k:=by have d:=Nat.and_mod_two_pow (a:=r+8*k) (b:=4294967293) (n:=3);have c:=Nat.and_div_two_pow (a:=r+8*k) (b:=4294967293) (n:=3);have e:(r+8*k) % 2^3=r:=AP;have g:(r+8*k) / 2^3=k:=AP;have f:k&&& 536870911=k:=Nat.and_two_pow_sub_one_of_lt_two_pow (n:=29) hk;rw[e]at d;rw[g]at c;simp[f]at d c;omega
def m2(L W S:Bool):L.toNat+2*W.toNat+4*S.toNat<8:=by cases L<;>cases W<;>cases S<;>decide
def aqj:∀(L W S:Bool)(k:Nat),k<1048576->bits .and .i32 ((L.toNat+2*W.toNat+4*S.toNat+8*k:Nat):Int) 4=((4*S.toNat:Nat):Int):=λL W S k h=>(Gf (c:=4) CB AX).trans (by rw[Gg (m2 L W S) AX];cases L<;>cases W<;>cases S<;>rfl)
def aqk:∀(L W S:Bool)(k:Nat),k<1048576->bits .and .i32 ((L.toNat+2*W.toNat+4*S.toNat+8*k:Nat):Int) 5=((L.toNat+4*S.toNat:Nat):Int):=λL W S k h=>(Gf (c:=5) CB AX).trans (by rw[Gg (m2 L W S) AX];cases L<;>cases W<;>cases S<;>rfl)
def aql:∀(L W S:Bool)(k:Nat),k<1048576->bits .and .i32 ((L.toNat+2*W.toNat+4*S.toNat+8*k:Nat):Int) 2=((2*W.toNat:Nat):Int):=λL W S k h=>(Gf (c:=2) CB AX).trans (by rw[Gg (m2 L W S) AX];cases L<;>cases W<;>cases S<;>rfl)
def aqm:∀(L W S:Bool)(k:Nat),k<1048576->bits .and .i32 ((L.toNat+2*W.toNat+4*S.toNat+8*k:Nat):Int) 1=((L.toNat:Nat):Int):=λL W S k h=>(Gf (c:=1) CB AX).trans (by rw[Gg (m2 L W S) AX];cases L<;>cases W<;>cases S<;>rfl)
def aqn:∀(L W S:Bool)(k:Nat),k<1048576->bits .and .i32 ((L.toNat+2*W.toNat+4*S.toNat+8*k:Nat):Int) 3=((L.toNat+2*W.toNat:Nat):Int):=λL W S k h=>(Gf (c:=3) CB AX).trans (by rw[Gg (m2 L W S) AX];cases L<;>cases W<;>cases S<;>rfl)
def aqo:∀(L W S:Bool)(k:Nat),k<1048576->bits .and .i32 ((L.toNat+2*W.toNat+4*S.toNat+8*k:Nat):Int) 7=((L.toNat+2*W.toNat+4*S.toNat:Nat):Int):=λL W S k h=>(Gf (c:=7) CB AX).trans (by rw[Gg (m2 L W S) AX];cases L<;>cases W<;>cases S<;>rfl)
def aqp:∀(L W S:Bool)(k:Nat),k<1048576->bits .or .i32 ((L.toNat+2*W.toNat+4*S.toNat+8*k:Nat):Int) 1=((1+2*W.toNat+4*S.toNat+8*k:Nat):Int):=λL W S k h=>(TD (c:=1) CB AX).trans (by rw[TE (m2 L W S) AX];cases L<;>cases W<;>cases S<;>rfl)
def aqq:∀(L W S:Bool)(k:Nat),k<1048576->bits .or .i32 ((L.toNat+2*W.toNat+4*S.toNat+8*k:Nat):Int) 2=((L.toNat+2+4*S.toNat+8*k:Nat):Int):=λL W S k h=>(TD (c:=2) CB AX).trans (by rw[TE (m2 L W S) AX];cases L<;>cases W<;>cases S<;>rfl)
def aqr:∀(L W S:Bool)(k:Nat),k<1048576->bits .or .i32 ((L.toNat+2*W.toNat+4*S.toNat+8*k:Nat):Int) 4=((L.toNat+2*W.toNat+4+8*k:Nat):Int):=λL W S k h=>(TD (c:=4) CB AX).trans (by rw[TE (m2 L W S) AX];cases L<;>cases W<;>cases S<;>rfl)
def aqs:∀(L W S:Bool)(k:Nat),k<1048576->bits .andNot .i32 ((L.toNat+2*W.toNat+4*S.toNat+8*k:Nat):Int) 2=((L.toNat+4*S.toNat+8*k:Nat):Int):=λL W S k h=>(aqh CB).trans (by rw[aqi (m2 L W S) AP];cases L<;>cases W<;>cases S<;>rfl)
theorem JO(m:bk)(hk:m.k<1048576):bits .and .i32 (m.word:Int) 4=((4*m.S.toNat:Nat):Int):=by have:=aqj m.L m.W m.S m.k hk;grind[bk.word]
def RJ(m:bk)(hk:m.k<1048576):bits .and .i32 (m.word:Int) 5=((m.L.toNat+4*m.S.toNat:Nat):Int):=by have:=aqk m.L m.W m.S m.k hk;grind[bk.word]
theorem JP(m:bk)(hk:m.k<1048576):bits .and .i32 (m.word:Int) 2=((2*m.W.toNat:Nat):Int):=by have:=aql m.L m.W m.S m.k hk;grind[bk.word]
theorem TF(m:bk)(hk:m.k<1048576):bits .and .i32 (m.word:Int) 1=((m.L.toNat:Nat):Int):=by have:=aqm m.L m.W m.S m.k hk;grind[bk.word]
theorem aqt(m:bk)(hk:m.k<1048576):bits .and .i32 (m.word:Int) 3=((m.L.toNat+2*m.W.toNat:Nat):Int):=by have:=aqn m.L m.W m.S m.k hk;grind[bk.word]
def Rz(m:bk)(hk:m.k<1048576):bits .and .i32 (m.word:Int) 7=((m.L.toNat+2*m.W.toNat+4*m.S.toNat:Nat):Int):=by have:=aqo m.L m.W m.S m.k hk;grind[bk.word]
def aqu(m:bk)(hk:m.k<1048576):bits .or .i32 (m.word:Int) 1=(({m with L:=true}:bk).word:Int):=by have:=aqp m.L m.W m.S m.k hk;grind[bk.word]
def Ru(m:bk)(hk:m.k<1048576):bits .or .i32 (m.word:Int) 2=(({m with W:=true}:bk).word:Int):=by have:=aqq m.L m.W m.S m.k hk;grind[bk.word]
def aqv(m:bk)(hk:m.k<1048576):bits .or .i32 (m.word:Int) 4=(({m with S:=true}:bk).word:Int):=by have:=aqr m.L m.W m.S m.k hk;grind[bk.word]
def TG(m:bk)(hk:m.k<1048576):bits .andNot .i32 (m.word:Int) 2=(({m with W:=false}:bk).word:Int):=by have:=aqs m.L m.W m.S m.k hk;grind[bk.word]
def aqw(m:bk)(hk:m.k<1048576):IntKind.wrap .i32 ((m.word:Int)+8)=(({m with k:=m.k+1}:bk).word:Int):=by grind[Bool.toNat_le,IntKind.wrap_i32,bk.word]
def aqx(m:bk)(hk:m.k<1048576)(a:m.L=true):IntKind.wrap .i32 ((m.word:Int)+ -1)=(({m with L:=false}:bk).word:Int):=by grind[Bool.toNat_le,IntKind.wrap_i32,bk.word]
def aqy(m:bk)(hk:m.k<1048576)(h0:0<m.k):IntKind.wrap .i32 ((m.word:Int)-8)=(({m with k:=m.k-1}:bk).word:Int):=by grind[Bool.toNat_le,IntKind.wrap_i32,bk.word]
def aqz(m:bk)(hk:m.k<1048576)(h0:0<m.k)(b:m.L=false)(hS:m.S=true)(clear:Bool):IntKind.wrap .i32 ((m.word:Int)+(if clear then -11 else -7))=(({m with L:=true,k:=m.k-1,S:= !clear}:bk).word:Int):=by have a:m.W.toNat<=1:=vay _;rw[IntKind.wrap_i32];unfold bk.word;grind
theorem JQ(m:bk):(m.word:Int) / 8=(m.k:Int):=by grind[Bool.toNat_le,bk.word]
variable{cp it old:Int}{w:aS}
section
open RowKit Conc.Lib ConcR.Gen ConcM ax bp
section
variable{A:e_}{Stop:Bool->ag.Lo A.ao->aV->Prop}{m:Bool}{mine:dh}
variable{a4:Frame}{aF:Act}{aC:eY}{aK:Nat}{aM:uaa}{aH:il}{csZ:fV}
def Behind(A:e_)(Stop:Bool->ag.Lo A.ao->aV->Prop)(m:Bool)(mine:dh)(a4:Frame)(aF:Act)(aC:eY)(aK:Nat)(aM:uaa)(aH:il)(csZ:fV)(f:Nat)(a:A.ao)(w:aS):Prop:=
 ∀w' aj,ah (am A) mine w w'->bg (am A) prog Stop m ⟨.own,true,0,f,a⟩ aj ⟨Conc.G (a4.at (aF.put ((aC[aK]?).bind (·.dst)) (.tuple #[])) (.inRegion aC aM::aH)) csZ,w',mine⟩
def aqA(G:A.Good){f:Nat}{a:A.ao}{γ:ag.aO A.aI}{sv aw:Bool}(n:bits .and .i32 old 5=0)(j:¬A.left a)(l:Behind A Stop m mine a4 aF aC aK aM aH csZ f a w):
 vx A Stop m mine a4 aF aC aK aM aH csZ ⟨.own,false,1,f+2,a⟩ γ cp sv aw it old true w:=by
 unfold vx;intros
 have hF:=ah.refl (am A) mine w;refine bl G ?_;simp only[f127,vae,dA,kZ,dW,k0,Nat.reduceBEq,vah,↓reduceIte];repeat w_go ah.trans
 refine dL Y hF λc b i h d k g e hF=>?_;refine sk G e KK (vbx .enable Ad Y Y Am Y func72 qy qz qA qB) Y j (sj (f1:=f+1) Jo _) Ad Y ?_;clear e g h b;refine bl G ?_;walk_nrm
 repeat w_go ah.trans
 refine dL Y hF λc b i h d k g e hF=>?_;refine lH (Ge Y Y Am Y Y (lG e.mt.1)) Y Y (.refl _) Y Y ?_;clear e g h b;refine bl G ?_;walk_nrm
 repeat w_go ah.trans
 refine dL Y hF λc b i h d k g e hF=>?_;refine RG G e (f1:=f) (vcu .acquire Ad Y Y Am Y func85 Ga Gb Gc Gd Bz) Y j Y Y Y Jo ?_;clear e g h b;refine bl G ?_;walk_nrm
 repeat w_go ah.trans
 u_leave0 func127 ah.trans hF
 repeat w_go ah.trans
 exact vai (λc b=>⟨Y,λi _=>l c i (ah.trans hF b)⟩)
end
end
open RowKit Conc.Lib ConcR.Gen ConcM ax bp
def NM(A:e_)(Stop:Bool->ag.Lo A.ao->aV->Prop)(m:Bool)(mine:dh)(a4:Frame)(aF:Act)(aC:eY)(aK:Nat)(aM:uaa)(aH:il)(csZ:fV)(l:ag.Lo A.ao)(γ:ag.aO A.aI)(cp:Int)(sv aw:Bool)(it old:Int)(w:aS):Prop:=
 ∀(dC sL fK fL fM fN fO fP qC qD f2 fQ fR fS iU fT gA gB gC ve vf vg vh vi vj vk vl vm vn vo vp vq vr vt vu vv vw yu yv yw yx yy yz yA yB yC yD yE yF yG yH yI yJ yK yL yM yN yO yP yQ yR yS yT yU yV yW yX yY yZ y0 y1 CI CJ CK CL y2 y3 y4 CM CN CO CP CQ CR CS CU CV CW CX CY CZ C0 C1 C2 C3 C4 C5 C6 C7 C8 C9 C_ Da Db Dc Dd De Df Dg Dh Di Dj Dk Dl Dm Dn Do Dp Dq Dr Ds Dt Du Dv Dw Dx Dy Dz DC DD DF DG:Value),bg (am A) prog Stop m l γ ⟨Conc.G ((base 127).at ⟨#[.pointer (some (ag.fy A)),dC,.I cp,.bool sv,.bool aw,.I it,.int .i32 old,sL,fK,fL,fM,fN,fO,fP,qC,qD,f2,fQ,fR,fS,iU,fT,gA,gB,gC,ve,vf,vg,vh,vi,vj,vk,vl,vm,vn,vo,vp,vq,vr,vt,vu,vv,vw,yu,yv,yw,yx,yy,yz,yA,yB,yC,yD,yE,yF,yG,yH,yI,yJ,yK,yL,yM,yN,yO,yP,yQ,yR,yS,yT,yU,yV,yW,yX,yY,yZ,y0,y1,CI,CJ,CK,CL,y2,y3,y4,CM,CN,CO,CP,CQ,CR,CS,.pointer (some (ag.kQ A)),CU,CV,CW,CX,CY,CZ,C0,C1,C2,C3,C4,C5,C6,C7,C8,C9,C_,Da,Db,Dc,Dd,De,Df,Dg,Dh,Di,Dj,Dk,Dl,Dm,Dn,Do,Dp,Dq,Dr,Ds,Dt,Du,Dv,Dw,Dx,Dy,Dz,DC,DD,DF,DG],[]⟩ [.inRegion (oo ((dW 27 ((dA (f127.body.getD .skip)).getD .skip)).getD .skip)) [4],.code (k0 ((dW 27 ((dA (f127.body.getD .skip)).getD .skip)).getD .skip)),.inBlock 1,.inLoop ((dA (f127.body.getD .skip)).getD .skip),.inBlock 0,.code ((kZ (f127.body.getD .skip)).getD .skip)]) (a4.at aF (.inRegion aC (aK::aM)::aH)::csZ),w,mine⟩
def Rr(A:e_)(Stop:Bool->ag.Lo A.ao->aV->Prop)(m:Bool)(mine:dh)(a4:Frame)(aF:Act)(aC:eY)(aK:Nat)(aM:uaa)(aH:il)(csZ:fV)(l:ag.Lo A.ao)(γ:ag.aO A.aI)(cp:Int)(sv aw:Bool)(it old:Int)(w:aS):Prop:=
 jM [.code (k0 ((dW 27 ((dA (f127.body.getD .skip)).getD .skip)).getD .skip)),.inBlock 1,.inLoop ((dA (f127.body.getD .skip)).getD .skip),.inBlock 0,.code ((kZ (f127.body.getD .skip)).getD .skip)] A Stop m mine a4 aF aC aK aM aH csZ l γ cp sv aw it old w
section
variable{A:e_}{Stop:Bool->ag.Lo A.ao->aV->Prop}{m:Bool}{mine:dh}
variable{a4:Frame}{aF:Act}{aC:eY}{aK:Nat}{aM:uaa}{aH:il}{csZ:fV}
theorem aqB(G:A.Good){l:ag.Lo A.ao}{γ:ag.aO A.aI}{sv aw:Bool}(e:∀w' c,(c=γ\/c.a_<γ.a_)->ah (am A) mine w w'->hh (am A) l c->pU A Stop m mine a4 aF aC aK aM aH csZ l c cp sv aw it (c.mu.word:Int) w'):
 vx A Stop m mine a4 aF aC aK aM aH csZ l γ cp sv aw it old false w:=by
 unfold vx;intros
 unfold pU jM at e;have hF:=ah.refl (am A) mine w;refine bl G ?_;simp only[f127,vae,dA,kZ,dW,k0,Nat.reduceBEq,vah,↓reduceIte]at e⊢;repeat w_go ah.trans
 refine dL Y hF λb a o i g f h d hF=>?_;have j:f=γ\/f.a_<γ.a_:=by
  rcases i with rfl|⟨q,_⟩<;>rcases h with rfl|⟨p,_⟩
  .simp_all
  .simp_all
  .simp_all
  omega
 have k:=d.sees;refine lH (Ar Y Y Am Y Y (lG d.mt.1) JL) Y Y (.refl _) Y Y ?_;clear d h i a;refine bl G ?_;walk_nrm
 repeat w_nl ah.trans
 u_c stepG_inLoop ah.trans hF
 exact vai (λb a=>⟨Y,λo n=>(e b f j (ah.trans hF a) k ..).hV (da G) n⟩)
def aqC(G:A.Good){l:ag.Lo A.ao}{γ:ag.aO A.aI}{sv aw:Bool}(s:(bits .and .i32 old 5==0)=false)(d:∀w' g j,(am A).dZ l γ g->ah (am A) mine w w'->NM A Stop m mine a4 aF aC aK aM aH csZ l g j sv aw it old w'):
 vx A Stop m mine a4 aF aC aK aM aH csZ l γ cp sv aw it old true w:=by
 unfold vx;intros
 unfold NM at d;have hF:=ah.refl (am A) mine w;simp only[f127,vae,dA,kZ,dW,k0,oo,Nat.reduceBEq,vah,↓reduceIte]at d⊢;by_cases k:cp=0
 .subst k;refine bl G ?_;repeat w_go ah.trans
  refine dL Y hF λc a e i b r h n hF=>?_;have o:=(da G).trans _ _ _ _ i h;refine lH (stepG_nanotime Y Y Am Y func147 Pj OB OA Oz Om) Y Y ⟨_,Y⟩ Y Y ?_;replace hF:=ah.trans hF (⟨λ_ _=>Y,vac _,⟨_,Y⟩,Y,Y⟩:ah (am A) mine b b.later);clear n h i a;generalize((b.os.mono+b.tick:Nat):Int)=q;refine bl G ?_;walk_nrm
  repeat w_go ah.trans
  exact vai (λc a=>⟨Y,λe f=>d c e _ ((da G).trans _ _ _ _ o f) (ah.trans hF a) ..⟩)
 .have t:(cp==0)=false:=by simp_all
  have p:(cp != 0)=true:=BK;refine bl G ?_;repeat w_go ah.trans
  exact vai (λc a=>⟨Y,λe f=>d c e _ f (ah.trans hF a) ..⟩)
end
def DI(A:e_)(Stop:Bool->ag.Lo A.ao->aV->Prop)(m:Bool)(mine:dh)(a4:Frame)(aF:Act)(aC:eY)(aK:Nat)(aM:uaa)(aH:il)(csZ:fV)(l:ag.Lo A.ao)(γ:ag.aO A.aI)(cp:Int)(sv aw:Bool)(it old:Int)(w:aS):Prop:=
 jM [.code (k0 ((dW 29 ((dA (f127.body.getD .skip)).getD .skip)).getD .skip)),.inBlock 1,.inLoop ((dA (f127.body.getD .skip)).getD .skip),.inBlock 0,.code ((kZ (f127.body.getD .skip)).getD .skip)] A Stop m mine a4 aF aC aK aM aH csZ l γ cp sv aw it old w
section
variable{A:e_}{Stop:Bool->ag.Lo A.ao->aV->Prop}{m:Bool}{mine:dh}
variable{a4:Frame}{aF:Act}{aC:eY}{aK:Nat}{aM:uaa}{aH:il}{csZ:fV}
def Ro(G:A.Good){l:ag.Lo A.ao}{γ:ag.aO A.aI}{sv aw:Bool}(i:∀w' h q,(h=γ\/h.a_<γ.a_)->ah (am A) mine w w'->hh (am A) l h->DI A Stop m mine a4 aF aC aK aM aH csZ l h cp q aw it (h.mu.word:Int) w'):
 Rr A Stop m mine a4 aF aC aK aM aH csZ l γ cp sv aw it old w:=by
 unfold Rr jM;intros
 unfold DI jM at i;have hF:=ah.refl (am A) mine w;simp only[f127,vae,dA,kZ,dW,k0,Nat.reduceBEq,vah,↓reduceIte]at i⊢;cases sv with
 |true=>
  refine bl G ?_;repeat w_go ah.trans
  refine dL Y hF λb a j f c p e d hF=>?_;have k:=(da G).less _ _ _ ((da G).trans _ _ _ _ f e);have n:=d.sees;refine lH (Ar Y Y Am Y Y (lG d.mt.1) JL) Y Y (.refl _) Y Y ?_;clear d e f a;refine bl G ?_;walk_nrm
  u_op ah.trans hF
  u_c vea ah.trans hF
  exact vai (λb a=>⟨Y,λj g=>(i b p _ k (ah.trans hF a) n ..).hV (da G) g⟩)
 |false=>
  refine bl G ?_;repeat w_go ah.trans
  refine dL Y hF λb a j f c p e d hF=>?_;have g:=(da G).trans _ _ _ _ f e;refine lH (stepG_nanotime Y Y Am Y func147 Pj OB OA Oz Om) Y Y ⟨_,Y⟩ Y Y ?_;replace hF:=ah.trans hF (⟨λ_ _=>Y,vac _,⟨_,Y⟩,Y,Y⟩:ah (am A) mine c c.later);clear d e f a;generalize((c.os.mono+c.tick:Nat):Int)=s;refine bl G ?_;walk_nrm
  repeat w_go ah.trans
  refine dL Y hF λb a j f o r e d hF=>?_;have k:=(da G).less _ _ _ ((da G).trans _ _ _ _ g ((da G).trans _ _ _ _ f e));have n:=d.sees;refine lH (Ar Y Y Am Y Y (lG d.mt.1) JL) Y Y (.refl _) Y Y ?_;clear d e f a;refine bl G ?_;walk_nrm
  u_op ah.trans hF
  u_c vea ah.trans hF
  exact vai (λb a=>⟨Y,λj g=>(i b r _ k (ah.trans hF a) n ..).hV (da G) g⟩)
def aqD(G:A.Good){l:ag.Lo A.ao}{γ:ag.aO A.aI}{sv aw:Bool}(e:bits .and .i32 old 4=0)(c:∀w',ah (am A) mine w w'->pU A Stop m mine a4 aF aC aK aM aH csZ l γ cp sv true 0 old w'):
 DI A Stop m mine a4 aF aC aK aM aH csZ l γ cp sv aw it old w:=by
 unfold DI jM;intros
 unfold pU jM at c;have hF:=ah.refl (am A) mine w;simp only[f127,vae,dA,kZ,dW,k0,Nat.reduceBEq,vah,↓reduceIte]at c⊢;refine bl G ?_;repeat w_nl ah.trans
 u_c stepG_inLoop ah.trans hF
 exact vai (λa b=>⟨Y,λf d=>(c a (ah.trans hF b) ..).hV (da G) d⟩)
end
end bM
namespace sM
open Conc
theorem QS:(f73.name== "runtime.NumGoroutine")=false:=by kernel_rfl
theorem QR:f73.body.isNone=true:=by kernel_rfl
theorem Qu:Extern.findNext f73=none:=by kernel_rfl
theorem Qi:Extern.find f73=some (λ_=>pure (.F)):=by kernel_rfl
theorem TO:(f106.name== "runtime.NumGoroutine")=false:=by kernel_rfl
theorem TP:f106.body.isNone=true:=by kernel_rfl
theorem TQ:Extern.findNext f106=none:=by kernel_rfl
theorem TR:Extern.find f106=some (Extern.Atomic.update (Op.intArith .add) .u64 true):=by kernel_rfl
theorem TS:(f107.name== "runtime.NumGoroutine")=false:=by kernel_rfl
theorem TT:f107.body.isNone=true:=by kernel_rfl
theorem TU:Extern.find f107=some (Extern.Atomic.loadT (.int .u64)):=by kernel_rfl
theorem TV:Extern.findNext f107=none:=by kernel_rfl
theorem aq2:(f108.name== "runtime.NumGoroutine")=false:=by kernel_rfl
theorem aq3:f108.body.isNone=true:=by kernel_rfl
theorem aq4:Extern.find f108=some Extern.Atomic.storeT:=by kernel_rfl
theorem aq5:Extern.findNext f108=none:=by kernel_rfl
theorem Qh:(f113.name== "runtime.NumGoroutine")=false:=by kernel_rfl
theorem Qc:f113.body.isNone=true:=by kernel_rfl
theorem P_:Extern.findNext f113=none:=by kernel_rfl
theorem P9:Extern.find f113=some (Extern.Atomic.casT (.int .u64)):=by kernel_rfl
theorem P3:(f89.name== "runtime.NumGoroutine")=false:=by kernel_rfl
theorem P2:f89.body.isNone=true:=by kernel_rfl
theorem P1:Extern.findNext f89=none:=by kernel_rfl
theorem P0:Extern.find f89=some Extern.Sync.semacquire:=by kernel_rfl
theorem aq6:(f82.name== "runtime.NumGoroutine")=false:=by kernel_rfl
theorem R9:f82.body.isNone=true:=by kernel_rfl
theorem aq7:Extern.findNext f82=none:=by kernel_rfl
theorem aq8:Extern.find f82=some Extern.Sync.semrelease:=by kernel_rfl
theorem aq9:(f78.name== "runtime.NumGoroutine")=false:=by kernel_rfl
theorem aq_:f78.body.isNone=true:=by kernel_rfl
theorem ara:Extern.findNext f78=none:=by kernel_rfl
theorem arb:Extern.find f78=some (Extern.Race.marked .read):=by kernel_rfl
theorem arc:(f88.name== "runtime.NumGoroutine")=false:=by kernel_rfl
theorem ard:f88.body.isNone=true:=by kernel_rfl
theorem are:Extern.findNext f88=none:=by kernel_rfl
theorem arf:Extern.find f88=some (Extern.Race.marked .write):=by kernel_rfl
theorem arg:(f50.name== "runtime.NumGoroutine")=false:=by kernel_rfl
theorem R5:(f77.name== "runtime.NumGoroutine")=false:=by kernel_rfl
theorem TW:(f79.name== "runtime.NumGoroutine")=false:=by kernel_rfl
theorem arh:(f80.name== "runtime.NumGoroutine")=false:=by kernel_rfl
theorem ari:(f87.name== "runtime.NumGoroutine")=false:=by kernel_rfl
end sM
namespace bM
open Conc RowKit Conc.Lib ConcR.Gen ConcM ax bp ag
def Gk:Code->Option Code
 | .block _ (.seq (.seq _ (.cond _ x _)) _)=>some x
 | _=>none
def t6(A:e_)(Stop:Bool->ag.Lo A.ao->aV->Prop)(m:Bool)(mine:dh)(a4:Frame)(aF:Act)(aC:eY)(aK:Nat)(aM:uaa)(aH:il)(csZ:fV)(l:ag.Lo A.ao)(γ:ag.aO A.aI)(cp:Int)(sv aw:Bool)(it old:Int)(w:aS):Prop:=
 jM [.code ((dW 8 ((dA (f127.body.getD .skip)).getD .skip)).getD .skip),.code ((dW 11 ((dA (f127.body.getD .skip)).getD .skip)).getD .skip),.inBlock 1,.inLoop ((dA (f127.body.getD .skip)).getD .skip),.inBlock 0,.code ((kZ (f127.body.getD .skip)).getD .skip)] A Stop m mine a4 aF aC aK aM aH csZ l γ cp sv aw it old w
def wZ(A:e_)(Stop:Bool->ag.Lo A.ao->aV->Prop)(m:Bool)(mine:dh)(a4:Frame)(aF:Act)(aC:eY)(aK:Nat)(aM:uaa)(aH:il)(csZ:fV)(l:ag.Lo A.ao)(γ:ag.aO A.aI)(cp:Int)(sv aw:Bool)(it old:Int)(w:aS):Prop:=
 jM [.code ((Gk ((dA (f127.body.getD .skip)).getD .skip)).getD .skip),.code ((dW 11 ((dA (f127.body.getD .skip)).getD .skip)).getD .skip),.inBlock 1,.inLoop ((dA (f127.body.getD .skip)).getD .skip),.inBlock 0,.code ((kZ (f127.body.getD .skip)).getD .skip)] A Stop m mine a4 aF aC aK aM aH csZ l γ cp sv aw it old w
variable{cp it old:Int}{w:aS}
section
variable{A:e_}{Stop:Bool->ag.Lo A.ao->aV->Prop}{m:Bool}{mine:dh}
variable{a4:Frame}{aF:Act}{aC:eY}{aK:Nat}{aM:uaa}{aH:il}{csZ:fV}
def arj(G:A.Good){l:ag.Lo A.ao}{γ:ag.aO A.aI}{sv aw:Bool}(g:(bits .and .i32 old 5==1)=false)(c:∀w' d,(am A).dZ l γ d->ah (am A) mine w w'->As A Stop m mine a4 aF aC aK aM aH csZ l d cp sv aw it old w'):
 pU A Stop m mine a4 aF aC aK aM aH csZ l γ cp sv aw it old w:=by
 unfold pU jM;intros
 unfold As jM at c;have hF:=ah.refl (am A) mine w;simp only[f127,vae,dA,kZ,dW,Nat.reduceBEq,vah,↓reduceIte]at c⊢;refine bl G ?_;u_c stepG_block ah.trans hF
 u_c veh ah.trans hF
 u_c veh ah.trans hF
 repeat w_but "code.seq" ah.trans
 exact vai (λa b=>⟨Y,λf e=>c a f e (ah.trans hF b) ..⟩)
def ark(G:A.Good){l:ag.Lo A.ao}{γ:ag.aO A.aI}{sv aw:Bool}(r:bits .and .i32 old 5=1)(g:∀w' f,(am A).dZ l γ f->ah (am A) mine w w'->As A Stop m mine a4 aF aC aK aM aH csZ l f cp sv aw it old w')(hS:it<4->∀w' f,(am A).dZ l γ f->ah (am A) mine w w'->wZ A Stop m mine a4 aF aC aK aM aH csZ l f cp sv aw it old w'):
 pU A Stop m mine a4 aF aC aK aM aH csZ l γ cp sv aw it old w:=by
 unfold pU jM;intros
 unfold As jM at g;unfold wZ jM at hS;have hF:=ah.refl (am A) mine w;simp only[f127,vae,dA,kZ,dW,Gk,Nat.reduceBEq,vah,↓reduceIte]at g hS⊢;refine bl G ?_;repeat w_go ah.trans
 refine dL Y hF λb a d j c q i o hF=>?_;have h:=(da G).trans _ _ _ _ j i;by_cases p:it<4
 .refine lH (stepG_canSpin_ask Y Y Am Y func144 PS PR PI Pk (k:=.i64) (n:=it) Bz p) Y Y (.refl _) Y Y ?_;replace hF:=ah.trans hF (⟨λ_ _=>Y,vac _,.refl _,Y,Y⟩:ah (am A) mine c c.asked);clear o i j a;cases c.spins with
  |false=>
   refine bl G ?_;walk_nrm
   repeat w_but "code.seq" ah.trans
   exact vai (λb a=>⟨Y,λd e=>g b d ((da G).trans _ _ _ _ h e) (ah.trans hF a) ..⟩)
  |true=>
   refine bl G ?_;walk_nrm
   repeat w_but "code.seq" ah.trans
   exact vai (λb a=>⟨Y,λd e=>hS p b d ((da G).trans _ _ _ _ h e) (ah.trans hF a) ..⟩)
 .refine lH (stepG_canSpin_no Y Y Am Y func144 PS PR PI Pk (k:=.i64) (n:=it) Bz AP) Y Y (.refl _) Y Y ?_;clear o i j a;refine bl G ?_;walk_nrm
  repeat w_but "code.seq" ah.trans
  exact vai (λb a=>⟨Y,λd e=>g b d ((da G).trans _ _ _ _ h e) (ah.trans hF a) ..⟩)
def R3(G:A.Good){l:ag.Lo A.ao}{γ:ag.aO A.aI}{sv aw:Bool}(r:0<=it)(q:it<4)(h:∀w' d,(d=γ\/d.a_<γ.a_)->ah (am A) mine w w'->hh (am A) l d->pU A Stop m mine a4 aF aC aK aM aH csZ l d cp sv aw (it+1) (d.mu.word:Int) w'):
 t6 A Stop m mine a4 aF aC aK aM aH csZ l γ cp sv aw it old w:=by
 unfold t6 jM;intros
 unfold pU jM at h;have hF:=ah.refl (am A) mine w;have t:IntKind.wrap .i64 (it+1)=it+1:=EX;simp only[f127,vae,dA,kZ,dW,Nat.reduceBEq,vah,↓reduceIte]at h⊢;refine bl G ?_;repeat w_go ah.trans
 refine dL Y hF λb a k f j s e c hF=>?_;have g:=(da G).trans _ _ _ _ f e;refine lH (stepG_entry_pure (.tuple #[]) Y Y Am Y func145 aqa aqb aqc aqd) Y Y (.refl _) Y Y ?_;clear c e f a;refine bl G ?_;walk_nrm
 repeat w_go ah.trans
 refine dL Y hF λb a k f i p e c hF=>?_;have n:=(da G).less _ _ _ ((da G).trans _ _ _ _ g ((da G).trans _ _ _ _ f e));have o:=c.sees;refine lH (Ar Y Y Am Y Y (lG c.mt.1) JL) Y Y (.refl _) Y Y ?_;clear c e f a;refine bl G ?_;walk_nrm
 repeat w_nl ah.trans
 u_c stepG_inLoop ah.trans hF
 exact vai (λb a=>⟨Y,λk g=>(h b p n (ah.trans hF a) o ..).hV (da G) g⟩)
