import Derived.Test.YtnkpmooengcinaaGreatP01
import Derived.Conc.MuWords
import Derived.Conc.CompanyDraw
import Derived.Test.YtnkpmooengcinaaGreatProg
import Derived.Test.YtnkpmooengcinaaGreatPAC
set_option linter.all false
set_option maxRecDepth 100000
set_option maxHeartbeats 16000000
namespace Go.Proofs.YtnkpmooengcinaaGreat
def vco:=@Go.Conc.stepG_add_atomic
open Go.Proofs.Tryz
namespace bn
open Conc ConcM ConcN av
section
section
variable{Z:eV}{Q:ck}{Stop:Bool->Z.Lo->aV->Prop}{base:Nat}{rs cM:List (cB Z)}{γ bz:Z.aM}{w w1:aH}{t:Trace}
def ai6{n d:Nat}{g:uai}(h:QuitsD Q n d g):awake g:=λx e=>by rcases h.status with h|h<;>rw[h]at e<;>cases e
theorem Inv.awake(h:Inv Z Q Stop base rs γ w t):∀g∈kp Z rs,awake g:=by intro g hg;obtain⟨j,a⟩:=Array.mem_iff_getElem?.1 hg;rw[Bx]at a;obtain⟨r,b,rfl⟩:=vaj.1 a;cases h.sits j r b with|runs hg c _ _ _ _ _=>intro x e;grind|waits hg _ _ _ _ _ _ _ _=>intro x e;grind|leaves _ hq _ _=>exact ai6 hq
def Inv.rel(h:Inv Z Q Stop base rs γ w t){j:Nat}{r:cB Z}(a:rs[j]?=some r):dI Z r.l γ r.X w:=
 let⟨e,d,c,b⟩:=h.rely j r a
 ⟨e,h.mt,⟨rs.map (·.l),j,AN,h.s9⟩,d,c,b⟩
theorem Inv.step(G:Z.Good)(C:∀l X,Stop false l X->Z.Left l/\∃n,QuitsD Q n (Z.deaf l) X.g)(h:Inv Z Q Stop base rs γ w t)(Y:base<=rs.length)(sl:ubd):
 PF Z Stop rs\/∃cM W w' sl' ops,stepT Q (crowd (kp Z rs) w sl)=(.next (crowd (kp Z cM) w' sl'),ops)/\Bu (Le Z Q Stop) (meas cM W) (meas rs γ)/\Inv Z Q Stop base cM W w' (t++ops)/\base<=cM.length:=by
 by_cases J:PF Z Stop rs
 .grind
 refine .inr ?_;obtain⟨j,l,U,azU,WJ⟩:=G.nM γ _ h.s9;rw[vbg]at U;obtain⟨O,N,rfl⟩:=vaj.1 U;have M:O.g.status=.running:=by cases h.sits j O N with|runs hg E _ _ _ _ _=>grind|waits _ _ _ _ _ A _ _ _=>grind|leaves _ _ c _=>grind
 obtain⟨i,g,d,sl',hi,azV,hst⟩:=crowd_pick (P:=Q) (w:=w) (sl:=sl) h.awake ⟨j,O.g,by grind[Bx],M⟩;rw[Bx]at hi;obtain⟨r,a,rfl⟩:=vaj.1 hi;have ET:i<rs.length:=(vab.1 a).1;have f:=h.at G d;rw[hst];have R:(kp Z rs)[i]?=some r.g:=by grind[Bx]
 have azW:xE r.g=1:=by grind[xE]
 cases h.sits i r a with
 |runs hg E ht hn hd h0 c=>
  rcases ht.next with hs|⟨_,c0⟩
  .exfalso;rcases vbh i with e|e
   .subst e;exact J ⟨r,a,hs,hg⟩
   grind
  .cases c0 (w.at d) γ (G.refl _ _) (f.rel a)with
   |quiet q hq u=>
    rename_i g1 w1 es;rw[<-hg]at q;have ni:Z.s6 γ w1:=by refine G.mt γ (w.at d) w1 (λb v=>?_) f.mt;exact hq.sh b (f.low b (.inr v)) v
    have HO:Says Z r.l r.l (grown r.X.mine (w.at d) w1) es:=by
     refine .inl ⟨rfl,rfl,?_,hq.evs⟩;have:∀(l:ubm)(d:Nat),(∀e∈l,¬uo Z e)->deafBehind d l.toArray=d:=by intro l;induction l with|nil=>intro d _;rfl|cons e l ih=>intro d c;have he:=c e Ab;have h1:=ih d (λe' f=>c e' AN);grind[deafBehind,uo]
     exact(this es.toList (Z.deaf r.l) (λe he A=>hq.low (.inl AN))).symm
    have L:(rs.map (·.l)).set i r.l=rs.map (·.l):=by apply vbu;grind
    obtain⟨cM,z,y,V⟩:=f.goes G C a c hd hq.keep ni (by rw[L];exact h.s9) (λ_ s _ _=>G.refl _ _) hq.run HO AN u AN r.g.frame.fn r.g.frame.place;refine⟨cM,γ,w1,sl',_,by grind[runT_crowd_go],?_,y,?_⟩
    .refine .inr ⟨rfl,.inl ⟨⟨i,(i==0,r.l,γ,r.X),(i==0,r.l,γ,⟨g1,w1,grown r.X.mine (w.at d) w1⟩),by grind[meas,ES],?_,V⟩,h.aiU G⟩⟩;refine⟨?_,rfl,rfl,rfl,w.at d,g1,w1,es,f.rel a,AN,hq.run,hq.low,rfl⟩;intro hs;rcases vbh i with e|e
     .subst e;exact J ⟨r,a,hs,hg⟩
     grind
    .have:=vbn Array.size z;grind[kp]
   |turn q hq hP u=>rename_i g1 w1 es l1 bz;obtain⟨k1,k2⟩:=aiV a f.s9 hq.zP;obtain⟨cM,z,y,V⟩:=f.goes G C a c hd hq.keep hq.mt k1 k2 hq.run hq.says (by rw[hg];exact hq.HM) u hP r.g.frame.fn r.g.frame.place;rw[<-hg]at q;refine⟨cM,bz,w1,sl',_,by grind[runT_crowd_go],.inl hq.zP.1,y,?_⟩;have:=vbn Array.size z;grind[kp]
   |wait q S A _=>
    rw[<-hg]at q;let r1:cB Z:={r with g:={r.X.g with status:=.blocked}}
    have m:=Lf rs a r1 id;have qb:¬Stop (i==0) r.l r.X:=by
     intro hs;rcases vbh i with e|e
     .subst e;exact J ⟨r,a,hs,hg⟩
     grind
    refine⟨_,γ,w.at d,sl',_,by rw[runT_crowd_go R q,ai0 (by rw[hg]),PD rs i r1 id,hg],?_,?_,?_⟩
    .refine .inr ⟨rfl,.inr ⟨WH a m rfl rfl,.inr ⟨?_,?_⟩⟩⟩
     .have:=WG a m;simp only[meas];grind
     .have:=aiZ a m;simp only[meas];have e:xE r1.g=0:=rfl;omega
    .have I:∀fn pos,MemOp.ofEvents i fn pos #[]=#[]:=λ_ _=>by rw[ofEvents_eq];simp
     rw[I,Array.append_empty];refine f.record a m rfl rfl (λk s hk hs=>?_) (.waits rfl E S ht qb A hd h0 c) (λ_ _ x=>x);obtain⟨D,H,rfl⟩:=m.other hk hs;exact h.sits k D H
    grind
   |born T q v u hc=>rename_i g1 child w1 es l1 bz lc;have I:i=0:=AN;subst I;rw[<-hg]at q;obtain⟨cM,z,y⟩:=f.ai1 G C Y a c hd v u hc r.g.frame.fn child.frame.fn r.g.frame.place r.g.frame.place;refine⟨cM,bz,w1,sl',_,by grind[runT_crowd_spawn,kp],.inl v.a4,y,?_⟩;have:=vbn Array.size z;grind[kp]
 |waits hg E S ht hn A hd h0 c=>grind
 |leaves T hq c hs=>
  obtain⟨g,l,X,n⟩:=r;cases n with
  |zero=>have:=hq.1;grind
  |succ n=>
   rcases hq with⟨hf,_⟩|⟨_,g',es,azX,q,F⟩
   .grind
   .let r1:cB Z:=⟨g',l,X,n⟩
    have K:stepG Q (i==0) g (w.at d)=.go g' (w.at d) es:=AN;have m:=Lf rs a r1 (woken Q g g' (w.at d));have nj:i≠0:=AN;refine⟨_,γ,w.at d,sl',_,by rw[runT_crowd_go R K,PD rs i r1],?_,?_,?_⟩
    .refine .inr ⟨rfl,.inr ⟨WH a m rfl rfl,.inl ?_⟩⟩;have:=WG a m;simp only[meas];grind
    .refine f.record a m rfl rfl (λk s hk oy=>?_) (.leaves T (by grind[Deaf_own]) c hs) (λsize aW hT=>?_)
     .obtain⟨D,H,rfl⟩:=m.other hk oy;rw[Deaf_other t (g':=i) (Ne.symm hk) _ WI];have B:g'.status=.running\/g'.status=.finished:=F.status;have key:=h.sits k D H;rcases B with B|B
      .exact key.woken G B (G.refl _ _) (.inr id)
      .have eqv:∀o,woken Q g g' (w.at d) o=woken Q g {g' with status:=.running} (w.at d) o:=λo=>by grind[woken]
       rw[eqv];exact key.woken G (g1:={g' with status:=.running}) rfl (G.refl _ _) (.inr id)
     .have:=eh.mute (p:=iX Z base rs size aW) (i:=i) ET g.frame.fn g.frame.place es.toList hT AN;omega
    grind
def phase(G:Z.Good)(c:∀l X,Stop false l X->Z.Left l/\∃n,QuitsD Q n (Z.deaf l) X.g)(h:Inv Z Q Stop base rs γ w t)(g:base<=rs.length)(sl:ubd):
 uq Q (crowd (kp Z rs) w sl) t λd f=>∃cM b w' sl',d=crowd (kp Z cM) w' sl'/\PF Z Stop cM/\Inv Z Q Stop base cM b w' f/\base<=cM.length:=by
 refine aiJ (aiK (Le Z Q Stop)) (λa m t=>∃rs γ w sl,m=crowd (kp Z rs) w sl/\a=meas rs γ/\Inv Z Q Stop base rs γ w t/\base<=rs.length) _ ?_ (meas rs γ) _ _ AN;rintro a m t ⟨rs,γ,w,sl,rfl,rfl,hI,e⟩;rcases hI.step G c e sl with hs|⟨cM,b,w',sl',ops,o,k,j,i⟩
 .grind
 grind
end
end
section
section
variable{Z:eV}{Q:ck}{Stop:Bool->Z.Lo->aV->Prop}{m:Bool}{l:Z.Lo}{γ:Z.aM}
theorem zS{mine:c5}:∀(es:ubm)(d:Nat),(∀e∈es,∀d,s7 Z l mine d e)->nQ Z l mine d es
 | [],_,_=>trivial
 |e::es,d,h=>⟨h e Ab d,zS es _ AN⟩
def qd(X:aV)(fr:c5):aV:=⟨X.g,X.w,λb=>X.mine b\/fr b⟩
end
end
end bn
namespace ae
open Conc ConcM av bn
structure Lo(ao:Type) where
 mx:bT
 tok:Bool
 deaf:Nat
 fuel:Nat
 aj:ao
structure aM(aN:Type) where
 mu:bh
 a4:Nat
 aj:aN
structure e5 where
 ao:Type
 aN:Type
 tf:aN->List ao->Prop
 bD:aN->Nat
 BH:Bool->ao->aN->aN->Prop
 PQ:ao->aN->Prop
 left:ao->Prop
 past:ao->Bool
 zero:ao->Prop
 st:Nat
 ty:TypeId
 cells:aN->Array Value
 nS:aN->aH->Prop
 BI:Nat->Prop
 g6:Loc->Prop
 eU:Loc->Prop
 K:Nat->Prop
 wg:Addr
 most:Nat
structure e5.Good(A:e5):Prop where
 refl:∀o a b,A.BH o a b b
 trans:∀o a b c d,A.BH o a b c->A.BH o a c d->A.BH o a b d
 PR:∀b w w',(∀k,A.BI k->w'.heap[k]?=w.heap[k]?)->A.nS b w->A.nS b w'
 Lr:¬A.BI A.st
 mO:∀b,A.K b->b≠A.st/\¬A.BI b
 nM:∀b ay,A.tf b ay->∃(j:Nat)(a:A.ao),ay[j]?=some a/\¬A.left a/\¬A.PQ a b
 zero:∀b(ay:List A.ao)(j:Nat) a,A.tf b ay->ay[j]?=some a->A.zero a->j=0
 g6:∀l,A.g6 l->(∃off sp,l=.cell ⟨A.st,off,sp⟩/\2<=off)\/∃b,eT l=some b/\A.BI b
 eU:∀l,A.eU l->∃b,eT l=some b/\A.BI b
 s4:∀l,A.g6 l->¬A.eU l
def WX:bT->Bool| .own=>true| _=>false
def fI(A:e5):Addr:=⟨A.st,0,none⟩
def kL(A:e5):Addr:=⟨A.st,1,none⟩
def gE(A:e5)(m:bh)(b:A.aN):Obj:=.cells (#[.int .i32 (m.word:Int),.int .u32 (m.sema:Int)]++A.cells b) A.ty
structure r4(A:e5)(γ:aM A.aN)(ls:List (Lo A.ao)):Prop where
 lP:dp γ.mu (ls.map (·.mx))
 oB:A.tf γ.aj (ls.map (·.aj))
 g_:(ls.map (·.fuel)).sum+2*qe γ.mu (ls.map (·.mx))+A.bD γ.aj<=γ.a4
 aW:∀(i:Nat)(l:Lo A.ao),ls[i]?=some l->l.tok=true->l.mx=.own
 bN:∀(i:Nat)(l:Lo A.ao),ls[i]?=some l->A.left l.aj->l.mx=.idle
 len:ls.length<=A.most
abbrev ak(A:e5):eV where
 Lo:=Lo A.ao
 aM:=aM A.aN
 a4:=λγ=>γ.a4
 pl:=r4 A
 dH:=λl γ ah=>ah=γ\/(ah.a4<γ.a4/\A.BH (WX l.mx) l.aj γ.aj ah.aj/\xI l.mx γ.mu ah.mu)
 K:=A.K
 g7:=λb=>b=A.st\/A.BI b
 s6:=λγ w=>w.heap[A.st]?=some (gE A γ.mu γ.aj)/\A.nS γ.aj w
 tok:=λl=>l.tok
 deaf:=λl=>l.deaf
 past:=λl=>A.past l.aj
 Left:=λl=>A.left l.aj
 zero:=λl=>A.zero l.aj
 nP:=λl γ=>(l.mx=.jS/\γ.mu.sema=0)\/(l.mx=.idle/\A.PQ l.aj γ.aj)
 g6:=A.g6
 eU:=λl=>l=.cell (fI A)\/l=.cell (kL A)\/A.eU l
 mu:=fI A
 wg:=A.wg
 ox:=λ_ _ _=>False
theorem Ls:∀(l:uag)(i x:Nat),l[i]?=some x->x<=l.sum
 |a::l,0,x,h=>AN
 |a::l,i+1,x,h=>by have:=Ls l i x AN;grind
def EX{A:e5}{ls:List (Lo A.ao)}{i:Nat}{l:Lo A.ao}(h:ls[i]?=some l):(ls.map (·.mx))[i]?=some l.mx:=by grind
theorem PS{ao aN:Type}(f:ao->aN){ls:List ao}{i:Nat}{l l1:ao}(h:ls[i]?=some l)(a:f l1=f l):(ls.set i l1).map f=ls.map f:=by apply vbu;grind
def df{A:e5}(G:A.Good):(ak A).Good where
 refl:=AN
 trans:=by
  rintro l a b c (rfl|⟨f,d,t⟩) (rfl|⟨u,q,p⟩)
  .grind
  .grind
  .grind
  .exact .inr ⟨AN,G.trans _ _ _ _ _ d q,t.trans p⟩
 less:=by grind
 mt:=λγ w w' hs⟨f,d⟩=>⟨AN,G.PR _ w w' AN d⟩
 mO:=λb m hs=>hs.elim (G.mO b m).1 (G.mO b m).2
 one:=λγ ls i j a b h hi g s m=>by have f:=h.aW i a hi s;have d:=h.aW j b g m;exact h.lP.WU AN AN
 nM:=λγ ls h=>by
  obtain⟨j,a,g,x,v⟩:=G.nM _ _ h.oB;rw[vbg]at g;obtain⟨l,z,rfl⟩:=vaj.1 g;by_cases hq:l.mx=.jS/\γ.mu.sema=0
  .obtain⟨k,y,hk,f,d⟩:=h.lP.alive hq.2 (i:=j) AN;rw[vbg]at hk;obtain⟨o,n,rfl⟩:=vaj.1 hk;exact⟨k,o,n,λe=>f (h.bN k o n e),AN⟩
  grind
 zero:=λγ ls j l h g r=>G.zero _ _ j l.aj h.oB AN r
 EO:=λl h=>by
  rcases G.g6 l h with⟨off,sp,rfl,_⟩|⟨b,f,d⟩
  .exact⟨A.st,U,.inl U⟩
  grind
 Bq:=λl h=>by
  rcases h with rfl|rfl|h
  .exact⟨A.st,U,.inl U⟩
  .exact⟨A.st,U,.inl U⟩
  .obtain⟨b,f,d⟩:=G.eU l h;grind
 s4:=λl h hs=>by
  rcases hs with rfl|rfl|hs
  .rcases G.g6 _ h with⟨off,sp,e,d⟩|⟨b,f,d⟩
   .grind[fI]
   .simp[eT,fI]at f;subst f;exact G.Lr d
  .rcases G.g6 _ h with⟨off,sp,e,d⟩|⟨b,f,d⟩
   .grind[kL]
   .simp[eT,kL]at f;subst f;exact G.Lr d
  .exact G.s4 l h hs
def HS{A:e5}(G:A.Good){l:Lo A.ao}{γ:aM A.aN}(hs:g8 (ak A) l γ){y:bT}{m1:bh}{f1 d1:Nat}{mi:Bool}(h:lr l.mx y γ.mu m1 l.fuel f1)(ht:mi=true->y=.own)(t:¬A.left l.aj\/y=.idle):
 Bs (ak A) l γ ({mx:=y,tok:=mi,deaf:=d1,fuel:=f1,aj:=l.aj}:Lo A.ao) ({mu:=m1,a4:=γ.a4-1,aj:=γ.aj}:aM A.aN):=by
 have key:∀(ls:List (Lo A.ao))(i:Nat),ls[i]?=some l->r4 A γ ls->(ls.map (·.fuel)).sum+f1=((ls.set i ({mx:=y,tok:=mi,deaf:=d1,fuel:=f1,aj:=l.aj}:Lo A.ao)).map (·.fuel)).sum+l.fuel/\1<=γ.a4/\
  ((ls.set i ({mx:=y,tok:=mi,deaf:=d1,fuel:=f1,aj:=l.aj}:Lo A.ao)).map (·.fuel)).sum+2*qe m1 ((ls.map (·.mx)).set i y)+A.bD γ.aj<=γ.a4-1:=by
  intro ls i hi hg;have c:i<ls.length:=(vab.1 hi).1;have r:=(vab.1 hi).2;have e:=ER (ls.map (·.fuel)) i f1 AN;have k:(ls.set i ({mx:=y,tok:=mi,deaf:=d1,fuel:=f1,aj:=l.aj}:Lo A.ao)).map (·.fuel)=(ls.map (·.fuel)).set i f1:=BB;rw[k];have g:(ls.map (·.fuel))[i]'AN=l.fuel:=AN;rw[g]at e;have u:=h.fuel _ i (EX hi) hg.lP;have s:=Ls (ls.map (·.fuel)) i l.fuel AN;have:=hg.g_;omega
 refine⟨?_,λls i hi hg=>?_⟩
 .obtain⟨ls,i,hi,hg⟩:=hs;grind
 .obtain⟨_,q,p⟩:=key ls i hi hg;have o:(ls.set i ({mx:=y,tok:=mi,deaf:=d1,fuel:=f1,aj:=l.aj}:Lo A.ao)).map (·.mx)=(ls.map (·.mx)).set i y:=BB;have n:(ls.set i ({mx:=y,tok:=mi,deaf:=d1,fuel:=f1,aj:=l.aj}:Lo A.ao)).map (·.aj)=ls.map (·.aj):=PS _ hi U;have c:i<ls.length:=(vab.1 hi).1;refine⟨⟨by rw[o];exact h.inv _ i (EX hi) hg.lP,by rw[n];exact hg.oB,AN,λj b a hk=>?_,λj b a hk=>?_,by rw[vdz];exact hg.len⟩,λj f a m=>.inr ⟨AN,G.refl _ _ _,h.kG _ i j f.mx hg.lP (EX hi) a (EX m)⟩⟩
  .by_cases d:j=i
   .grind
   .rw[vba (Ne.symm d)]at a;exact hg.aW j b a hk
  .by_cases d:j=i
   .grind
   .rw[vba (Ne.symm d)]at a;exact hg.bN j b a hk
end ae
namespace ae
open Conc av bn
structure ai(Z:eV)(mine:c5)(w w1:aH):Prop where
 heap:∀b,Z.K b\/mine b->w1.heap[b]?=w.heap[b]?
 size:w.heap.size<=w1.heap.size
 later:Go.ConcM.OsLater w.os w1.os
 output:w1.output=w.output
 tape:w1.tape=w.tape
theorem ai.refl(Z:eV)(mine:c5)(w:aH):ai Z mine w w:=⟨λ_ _=>U,vad _,.refl _,U,U⟩
theorem ai.trans{Z:eV}{mine:c5}{a b c:aH}(h:ai Z mine a b)(k:ai Z mine b c):ai Z mine a c:=
 ⟨λx d=>(k.heap x d).trans (h.heap x d),vac h.size k.size,h.later.trans k.later,k.output.trans h.output,k.tape.trans h.tape⟩
theorem j9{mine:c5}{w w1:aH}(h:w1.heap.size=w.heap.size):grown mine w w1=mine:=by grind[grown]
variable{g:uai}
section
variable{Z:eV}{Q:ck}{Stop:Bool->Z.Lo->aV->Prop}{m:Bool}{l:Z.Lo}
def dI.rw{γ:Z.aM}{X:aV}{w':aH}(h:dI Z l γ X w'):ai Z X.mine X.w w':=⟨h.rely.heap,h.rely.size,h.later,h.output,h.tape⟩
def ajF{mine:c5}{D:aH->aH->Array Event->Prop}{S:Goroutine->aH->Prop}:∀{n:Nat}{g:uai}{w:aH},Goes Q m (ai Z mine) D (λg w=>g.status=.running/\S g w) n g w->g.status=.running
 |0,_,w,h=>(h w (.refl _ _ _)).1
 | _+1,_,w,h=>h.elim (λh=>(h w (.refl _ _ _)).1) (λh=>h.1)
def dO{mine:c5}{X:Z.aM->Prop}{n:Nat}{w0 w:aH}(hs:g.status=.running)(hF:ai Z mine w0 w)(h:∀b,ai Z mine w b->∀e,X e->∀a d,Z.dH l e d->dI Z l d ⟨g,b,mine⟩ a->ai Z mine w0 a->Then Q Stop m l d ⟨g,b,mine⟩ a):
 Goes Q m (ai Z mine) Go.ConcR.DC0 (λg w=>g.status=.running/\∀i,X i->bd Z Q Stop m l i ⟨g,w,mine⟩) n g w:=
 vaf λb c=>⟨hs,λe j=>bd.mk hs λa d k f=>h b c e j a d k f ((hF.trans c).trans (dI.rw f))⟩
theorem uu(G:Z.Good)(d:∀g g1,¬Z.ox l g g1){mine:c5}{γ:Z.aM}:∀(n:Nat)(g:uai)(w:aH)(bz:Z.aM),Z.dH l γ bz->
 Goes Q m (ai Z mine) Go.ConcR.DC0 (λg w=>g.status=.running/\∀a,Z.dH l γ a->bd Z Q Stop m l a ⟨g,w,mine⟩) n g w->bd Z Q Stop m l bz ⟨g,w,mine⟩
 |0,g,w,bz,b,h=>(h w (.refl _ _ _)).2 bz b
 |n+1,g,w,bz,b,h=>by
  rcases h with h|⟨hs,h⟩
  .exact(h w (.refl _ _ _)).2 bz b
  .refine bd.mk hs λw' a i f=>?_;have:=h w' (dI.rw f);cases hst:stepG Q m g w' with
   |go g1 w1 es=>
    rw[hst]at this;obtain⟨⟨rfl,rfl⟩,c⟩:=this;have hg:grown mine w1 w1=mine:=j9 U;refine .quiet hst ⟨?_,⟨AN,vad _,.refl _,U,U⟩,λ_ _ _=>U,PA,?_⟩ ?_
    .exact ajF c
    .rintro(⟨e,j,_⟩|h)
     .grind
     grind
    .show bd Z Q Stop m l a ⟨g1,w1,grown mine w1 w1⟩;rw[hg];exact uu G d n g1 w1 a (G.trans _ _ _ _ b i) c
   | _=>rw[hst]at this;exact this.elim
end
variable{d1 f1:Nat}
def PT{A:e5}(G:A.Good){l:Lo A.ao}{γ:aM A.aN}(hs:g8 (ak A) l γ){a1:A.ao}{b1:A.aN}{mi:Bool}(k:∀(ay:List A.ao)(i:Nat),ay[i]?=some l.aj->A.tf γ.aj ay->A.tf b1 (ay.set i a1))(B:f1+A.bD b1+1<=l.fuel+A.bD γ.aj)(f:∀(o:Bool)(a':A.ao),(l.mx=.own->o=false)->(A.zero l.aj->¬A.zero a')->A.BH o a' γ.aj b1)(C:A.left a1->l.mx=.idle)(t:mi=true->l.mx=.own):
 Bs (ak A) l γ ({mx:=l.mx,tok:=mi,deaf:=d1,fuel:=f1,aj:=a1}:Lo A.ao) ({mu:=γ.mu,a4:=γ.a4-1,aj:=b1}:aM A.aN):=by
 have key:∀(ls:List (Lo A.ao))(i:Nat),ls[i]?=some l->r4 A γ ls->1<=γ.a4/\((ls.set i ({mx:=l.mx,tok:=mi,deaf:=d1,fuel:=f1,aj:=a1}:Lo A.ao)).map (·.fuel)).sum+2*qe γ.mu (ls.map (·.mx))+A.bD b1<=γ.a4-1:=by intro ls i hi hg;have c:i<ls.length:=(vab.1 hi).1;have x:=(vab.1 hi).2;have e:=ER (ls.map (·.fuel)) i f1 AN;have p:(ls.set i ({mx:=l.mx,tok:=mi,deaf:=d1,fuel:=f1,aj:=a1}:Lo A.ao)).map (·.fuel)=(ls.map (·.fuel)).set i f1:=BB;rw[p];have n:(ls.map (·.fuel))[i]'AN=l.fuel:=AN;rw[n]at e;have y:=Ls (ls.map (·.fuel)) i l.fuel AN;have:=hg.g_;omega
 refine⟨?_,λls i hi hg=>?_⟩
 .obtain⟨ls,i,hi,hg⟩:=hs;grind
 .obtain⟨v,u⟩:=key ls i hi hg;have s:(ls.set i ({mx:=l.mx,tok:=mi,deaf:=d1,fuel:=f1,aj:=a1}:Lo A.ao)).map (·.mx)=ls.map (·.mx):=PS _ hi U;have r:(ls.set i ({mx:=l.mx,tok:=mi,deaf:=d1,fuel:=f1,aj:=a1}:Lo A.ao)).map (·.aj)=(ls.map (·.aj)).set i a1:=BB;have c:i<ls.length:=(vab.1 hi).1;have h:(ls.map (·.aj))[i]?=some l.aj:=AN;refine⟨⟨by rw[s];exact hg.lP,by rw[r];exact k _ i h hg.oB,AN,λj b a hk=>?_,λj b a hk=>?_,by rw[vdz];exact hg.len⟩,λj g a F=>.inr ⟨AN,?_,.refl _ _⟩⟩
  .by_cases d:j=i
   .grind
   .rw[vba (Ne.symm d)]at a;exact hg.aW j b a hk
  .by_cases d:j=i
   .grind
   .rw[vba (Ne.symm d)]at a;exact hg.bN j b a hk
  .refine f _ _ (λz=>?_) (λm q=>?_)
   .cases w:g.mx<;>simp only[WX]
    exact absurd (hg.lP.WU AN AN) a
   .have E:=G.zero _ _ i l.aj hg.oB h m;have D:=G.zero _ _ j g.aj hg.oB AN q;grind
variable{g1:uai}{m1 mu:bh}
section
variable{A:e5}{Q:ck}{Stop:Bool->Lo A.ao->aV->Prop}{m:Bool}{l:Lo A.ao}{γ:aM A.aN}{X:aV}{w':aH}
def a8(G:A.Good){mine:c5}{w:aH}(h:Goes Q m (ai (ak A) mine) Go.ConcR.DC0 (λg w=>g.status=.running/\∀a,(ak A).dH l γ a->bd (ak A) Q Stop m l a ⟨g,w,mine⟩) 300 g w):bd (ak A) Q Stop m l γ ⟨g,w,mine⟩:=
 uu (df G) (λ_ _ h=>h) 300 _ _ _ Ij h
def lu{b:A.aN}{w:aH}(h:w.heap[A.st]?=some (gE A mu b)):w.cell? (fI A)=some (.int .i32 (mu.word:Int)):=by simp[World.cell?,fI,h,gE];grind
def HU{b:A.aN}{w:aH}(h:w.heap[A.st]?=some (gE A mu b)):w.cell? (kL A)=some (.int .u32 (mu.sema:Int)):=by simp[World.cell?,kL,h,gE];grind
def pn{b:A.aN}{w:aH}(h:w.heap[A.st]?=some (gE A mu b))(off:Nat)(sp):w.frozen? ⟨A.st,off,sp⟩=false:=by simp[World.frozen?,h,gE]
theorem k5(w:aH)(a:Addr)(v:Value){b:Nat}(c:b≠a.block):(w.setCell a v).heap[b]?=w.heap[b]?:=by simp[World.setCell,vay,Ne.symm c]
def k6(w:aH)(a:Addr)(v:Value):(w.setCell a v).heap.size=w.heap.size:=by simp_all
def ajH{b:A.aN}{w:aH}(h:w.heap[A.st]?=some (gE A mu b))(hs:m1.sema=mu.sema):(w.setCell (fI A) (.int .i32 (m1.word:Int))).heap[A.st]?=some (gE A m1 b):=by unfold World.setCell;simp_all[fI,vay,gE]
def ajI{b:A.aN}{w:aH}(h:w.heap[A.st]?=some (gE A mu b))(hs:m1.word=mu.word):(w.setCell (kL A) (.int .u32 (m1.sema:Int))).heap[A.st]?=some (gE A m1 b):=by unfold World.setCell;simp_all[kL,vay,gE]
def WY(G:A.Good){b:A.aN}{w:aH}(h:A.nS b w)(off:Nat)(sp)(v:Value):A.nS b (w.setCell ⟨A.st,off,sp⟩ v):=
 G.PR b w _ (λk hk=>k5 w _ v (λe=>G.Lr AN)) h
def WZ{mine:c5}(w:aH)(off:Nat)(sp)(v:Value):kZ (ak A) mine w (w.setCell ⟨A.st,off,sp⟩ v):=
 ⟨λb _ _ hs=>k5 w _ v AN,BB,.refl _,U,U⟩
def po(Z:eV)(mine:c5)(w:aH):kZ Z mine w w:=⟨AN,vad _,.refl _,U,U⟩
theorem ajJ(G:A.Good)(a:dI (ak A) l γ X w'){y:bT}(hs:stepG Q m X.g w'=.go g1 (w'.setCell (fI A) (.int .i32 (m1.word:Int))) #[⟨.cell (fI A),false,true⟩,⟨.cell (fI A),true,true⟩])(hrun:g1.status=.running)(hd:0<l.deaf)(b:m1.sema=γ.mu.sema)(d:¬A.left l.aj)(ht:lr l.mx y γ.mu m1 l.fuel f1)(c:l.tok=true->y=.own)(h:bd (ak A) Q Stop m ({l with mx:=y,fuel:=f1}:Lo A.ao) ({γ with mu:=m1,a4:=γ.a4-1}:aM A.aN) ⟨g1,w'.setCell (fI A) (.int .i32 (m1.word:Int)),X.mine⟩):
 Then (Z:=ak A) Q Stop m l γ X w':=by
 have hg:grown X.mine w' (w'.setCell (fI A) (.int .i32 (m1.word:Int)))=X.mine:=j9 (k6 _ _ _);refine .turn (l1:=({l with mx:=y,fuel:=f1}:Lo A.ao)) (bz:=({γ with mu:=m1,a4:=γ.a4-1}:aM A.aN)) hs ⟨hrun,.inl ⟨⟨.cell (fI A),true,true⟩,Ab,.inr (.inr (.inr (.inr ⟨U,A.st,U,.inl U⟩)))⟩,WZ w' 0 none _,⟨ajH a.mt.1 b,WY G a.mt.2 _ _ _⟩,
  HS (d1:=l.deaf) (mi:=l.tok) G a.sees ht c (.inl d),.inl ⟨U,U,U,?_⟩,.inr λe f=>?_⟩ AN ?_
 .exact⟨.inr AN,.inr ⟨U,.inl U,hd⟩,PA⟩
 .grind
 grind
theorem ajK(G:A.Good)(a:dI (ak A) l γ X w'){y:bT}(hs:stepG Q m X.g w'=.go g1 (w'.setCell (kL A) (.int .u32 (m1.sema:Int))) (semEvents (kL A)))(hrun:g1.status=.running)(e:m1.word=γ.mu.word)(d:¬A.left l.aj)(ht:lr l.mx y γ.mu m1 l.fuel f1)(c:l.tok=true->y=.own)(b:mayWake Q X.g=true\/0<γ.mu.sema)(h:bd (ak A) Q Stop m ({l with mx:=y,fuel:=f1}:Lo A.ao) ({γ with mu:=m1,a4:=γ.a4-1}:aM A.aN) ⟨g1,w'.setCell (kL A) (.int .u32 (m1.sema:Int)),X.mine⟩):Then (Z:=ak A) Q Stop m l γ X w':=by
 have hg:grown X.mine w' (w'.setCell (kL A) (.int .u32 (m1.sema:Int)))=X.mine:=j9 (k6 _ _ _);refine .turn (l1:=({l with mx:=y,fuel:=f1}:Lo A.ao)) (bz:=({γ with mu:=m1,a4:=γ.a4-1}:aM A.aN)) hs ⟨hrun,.inl ⟨⟨.cell (kL A),true,true⟩,by simp[semEvents],.inr (.inr (.inr (.inr ⟨U,A.st,U,.inl U⟩)))⟩,WZ w' 1 none _,⟨ajI a.mt.1 e,WY G a.mt.2 _ _ _⟩,
  HS (d1:=l.deaf) (mi:=l.tok) G a.sees ht c (.inl d),.inl ⟨U,U,?_,?_⟩,b.imp id λi f g=>?_⟩ AN ?_
 .grind[deafBehind,semEvents]
 .exact⟨.inl trivial,.inr ⟨U,.inr Ij,GN⟩,.inr ⟨U,.inr Ij,GN⟩,.inl trivial,PA⟩
 .grind
 grind
def r5(G:A.Good)(b:dI (ak A) l γ X w'){mk:Mark}(a:mk=.disable\/mk=.enable){y:bT}(hs:stepG Q m X.g w'=.go g1 w' #[⟨.mark mk,false,true⟩])(hrun:g1.status=.running)(d:¬A.left l.aj)(ht:lr l.mx y γ.mu γ.mu l.fuel f1)(c:l.tok=true->y=.own)(hd:d1=deafBehind l.deaf #[⟨.mark mk,false,true⟩])(h:bd (ak A) Q Stop m ({l with mx:=y,fuel:=f1,deaf:=d1}:Lo A.ao) ({γ with a4:=γ.a4-1}:aM A.aN) ⟨g1,w',X.mine⟩):Then (Z:=ak A) Q Stop m l γ X w':=by
 refine .turn (l1:=({l with mx:=y,fuel:=f1,deaf:=d1}:Lo A.ao)) (bz:=({γ with a4:=γ.a4-1}:aM A.aN)) hs ⟨hrun,.inl ⟨⟨.mark mk,false,true⟩,Ab,a.elim (λe=>.inl Gn) (λe=>.inr AN)⟩,po _ _ _,b.mt,
  HS (d1:=d1) (mi:=l.tok) G b.sees ht c (.inl d),.inl ⟨U,U,hd,.inl ?_,PA⟩,AN⟩ AN ?_
 .rcases a with rfl|rfl<;>trivial
 grind[j9]
def PV(G:A.Good)(b:dI (ak A) l γ X w')(hs:stepG Q m X.g w'=.go g1 w' #[⟨.mark (.acquire (fI A)),false,true⟩])(hrun:g1.status=.running)(c:¬A.left l.aj)(a:l.mx=.own)(ht:l.tok=false)(hd:l.deaf=0)(d:f1<l.fuel)(h:bd (ak A) Q Stop m ({l with fuel:=f1,tok:=true}:Lo A.ao) ({γ with a4:=γ.a4-1}:aM A.aN) ⟨g1,w',X.mine⟩):Then (Z:=ak A) Q Stop m l γ X w':=by
 refine .turn (l1:=({l with fuel:=f1,tok:=true}:Lo A.ao)) (bz:=({γ with a4:=γ.a4-1}:aM A.aN)) hs ⟨hrun,.inl ⟨⟨.mark (.acquire (fI A)),false,true⟩,Ab,.inr AN⟩,po _ _ _,b.mt,
  HS (d1:=l.deaf) (mi:=true) G b.sees (rZ d l.mx) (λ_=>a) (.inl c),.inr (.inl ⟨U,hd,hd,ht,U,U⟩),AN⟩ AN ?_
 grind[j9]
def aAb(G:A.Good)(a:dI (ak A) l γ X w')(hs:stepG Q m X.g w'=.go g1 w' #[⟨.mark (.releaseMerge (fI A)),false,true⟩])(hrun:g1.status=.running)(b:¬A.left l.aj)(ht:l.tok=true)(hd:l.deaf=0)(c:f1<l.fuel)(h:bd (ak A) Q Stop m ({l with fuel:=f1,tok:=false}:Lo A.ao) ({γ with a4:=γ.a4-1}:aM A.aN) ⟨g1,w',X.mine⟩):Then (Z:=ak A) Q Stop m l γ X w':=by
 refine .turn (l1:=({l with fuel:=f1,tok:=false}:Lo A.ao)) (bz:=({γ with a4:=γ.a4-1}:aM A.aN)) hs ⟨hrun,.inl ⟨⟨.mark (.releaseMerge (fI A)),false,true⟩,Ab,.inr AN⟩,po _ _ _,a.mt,
  HS (d1:=l.deaf) (mi:=false) G a.sees (rZ c l.mx) AN (.inl b),.inr (.inr (.inl ⟨U,hd,hd,ht,U,U⟩)),AN⟩ AN ?_
 grind[j9]
def lv{w1:aH}(hs:stepG Q m X.g w'=.go g1 w1 #[])(hrun:g1.status=.running)(d:w1.heap=w'.heap)(b:Go.ConcM.OsLater w'.os w1.os)(a:w1.output=w'.output)(ht:w1.tape=w'.tape)(h:bd (ak A) Q Stop m l γ ⟨g1,w1,X.mine⟩):Then (Z:=ak A) Q Stop m l γ X w':=by
 refine .quiet hs ⟨hrun,⟨AN,AN,b,a,ht⟩,AN,PA,?_⟩ ?_
 .rintro(⟨e,c,_⟩|h)
  .grind
  grind
 grind[j9]
def Lv(hs:stepG Q m X.g w'=.go g1 w' #[⟨.cell (fI A),false,true⟩])(hrun:g1.status=.running)(hd:0<l.deaf)(h:bd (ak A) Q Stop m l γ ⟨g1,w',X.mine⟩):Then (Z:=ak A) Q Stop m l γ X w':=by
 refine .quiet hs ⟨hrun,po _ _ _,λ_ _ _=>U,⟨.inr AN,PA⟩,?_⟩ ?_
 .rintro(⟨e,a,b⟩|h)
  .simp at a;subst a;rcases b with h|h|⟨_,h⟩|⟨_,h⟩|⟨h,_⟩<;>cases h
  grind
 grind[j9]
def ajL(G:A.Good)(a:dI (ak A) l γ X w'){a1:A.ao}(hs:stepG Q m X.g w'=.go g1 w' #[⟨.mark (.releaseMerge (fI A)),false,true⟩])(hrun:g1.status=.running)(d:¬A.left a1)(c:A.past a1=A.past l.aj)(ht:l.tok=true)(hd:l.deaf=0)(f:f1<l.fuel)(b:∀(ay:List A.ao)(i:Nat),ay[i]?=some l.aj->A.tf γ.aj ay->A.tf γ.aj (ay.set i a1))(h:bd (ak A) Q Stop m ({l with fuel:=f1,tok:=false,aj:=a1}:Lo A.ao) ({γ with a4:=γ.a4-1}:aM A.aN) ⟨g1,w',X.mine⟩):Then (Z:=ak A) Q Stop m l γ X w':=by
 refine .turn (l1:=({l with fuel:=f1,tok:=false,aj:=a1}:Lo A.ao)) (bz:=({γ with a4:=γ.a4-1}:aM A.aN)) hs ⟨hrun,.inl ⟨⟨.mark (.releaseMerge (fI A)),false,true⟩,Ab,.inr AN⟩,po _ _ _,a.mt,
  PT (d1:=l.deaf) (mi:=false) G a.sees b AY (λ_ _ _ _=>G.refl _ _ _) (λe=>absurd e d) Ab,.inr (.inr (.inl ⟨U,hd,hd,ht,U,c⟩)),AN⟩ AN ?_
 grind[j9]
end
end ae
namespace fY
open Conc av bn ae
structure cz(Z:eV) where
 l:Z.Lo
 mine:Nat->Prop
 S:aH->Z.aM->Prop
variable{i n:Nat}{a:Act}{v:Value}
section
variable{Z:eV}{Q:ck}{Stop:Bool->Z.Lo->aV->Prop}{m:Bool}{b:Frame}{k:uab}{cs:fA}{ops:eQ}{md:Region.Mode}
def r6(σ:cz Z):Prop:=∀w γ w' ah g,σ.S w γ->Z.dH σ.l γ ah->dI Z σ.l ah ⟨g,w,σ.mine⟩ w'->σ.S w' ah
def ajM(σ:cz Z)(γ:Z.aM)(w' w1:aH)(es:uav)(bk:cz Z):Prop:=
 bk.mine=grown σ.mine w' w1/\kZ Z σ.mine w' w1/\
 ((bk.l=σ.l/\bk.S w1 γ/\(∀b,b<w'.heap.size->Z.g7 b->w1.heap[b]?=w'.heap[b]?)/\nQ Z σ.l (grown σ.mine w' w1) (Z.deaf σ.l) es.toList/\¬ ∃e∈es,uo Z e)\/
  (∃bz,bk.S w1 bz/\(∃e∈es,uo Z e)/\Z.s6 bz w1/\Bs Z σ.l γ bk.l bz/\Says Z σ.l bk.l (grown σ.mine w' w1) es/\(∀kF,Z.nP kF γ->Z.nP kF bz)/\¬Z.Left bk.l))
variable(Q Stop m b k cs ops) in
def q2(todo:uag)(σ:cz Z)(a:Act):Prop:=∀w γ,σ.S w γ->bd Z Q Stop m σ.l γ ⟨G (b.at a (.inRegion ops todo::k)) cs,w,σ.mine⟩
variable(Q b) in
def BJ(o:Oper)(σ:cz Z)(a:Act)(K:cz Z->Act->Prop):Prop:=
 ∀w γ w' ah g,σ.S w γ->Z.dH σ.l γ ah->dI Z σ.l ah ⟨g,w,σ.mine⟩ w'->∃u w1 bk,((execOp a.eval o).run Q w'=.ok (.value u) w1\/((execOp a.eval o).run Q w'=.ok .skip w1/\u=undef))/\ajM σ ah w' w1 (listed Q b.fn a o w') bk/\K bk (a.put o.dst u)
variable(Q Stop m) in
def io(f:ual)(args:dC)(σ:cz Z)(V:Value->cz Z->Prop):Prop:=
 ∀(aY:Frame)(aF:Act)(az:eQ)(aI:Nat)(aK:uag)(aG:uab)(csZ:fA),
  (∀u bk,V u bk->∀w γ,bk.S w γ->bd Z Q Stop m bk.l γ ⟨G (aY.at (aF.put ((az[aI]?).bind (·.dst)) u) (.inRegion az aK::aG)) csZ,w,bk.mine⟩)->
  ∀w γ,σ.S w γ->bd Z Q Stop m σ.l γ ⟨G (Frame.enter Q f args .normal) (aY.at aF (.inRegion az (aI::aK)::aG)::csZ),w,σ.mine⟩
def EZ(c:Frame):Ending->Frame
 | .returned v=>c.finish v
 | .panicked l=>c.raise l
 | .outgrown=>c
variable(Q Stop m) in
def E0(f:ual)(args:dC)(σ:cz Z)(V:Ending->cz Z->Prop):Prop:=
 ∀(aY:Frame)(aF:Act)(az:eQ)(aI:Nat)(aK:uag)(aG:uab)(csZ:fA),
  (∀e bk,V e bk->∀w γ,bk.S w γ->bd Z Q Stop m bk.l γ ⟨G (EZ (aY.at aF (.inRegion az (aI::aK)::aG)) e) csZ,w,bk.mine⟩)->
  ∀w γ,σ.S w γ->bd Z Q Stop m σ.l γ ⟨G (Frame.enter Q f args .normal) (aY.at aF (.inRegion az (aI::aK)::aG)::csZ),w,σ.mine⟩
def E0.ret{f:ual}{args:dC}{σ:cz Z}{V:Ending->cz Z->Prop}{oC:Value->cz Z->Prop}(h:E0 Q Stop m f args σ V)(c:∀e a,V e a->∃v,e=.returned v/\oC v a):io Q Stop m f args σ oC:=by intro aY aF az aI aK aG csZ hK;refine h aY aF az aI aK aG csZ λe a hv w γ d=>?_;obtain⟨v,rfl,b⟩:=c e a hv;rw[EZ,vcc];exact hK v a b w γ d
variable(Q Stop m b) in
def PW(o:Oper)(σ:cz Z)(a:Act)(K:cz Z->Act->Prop):Prop:=
 ∃f args V,(∀w γ w' ah g,σ.S w γ->Z.dH σ.l γ ah->dI Z σ.l ah ⟨g,w,σ.mine⟩ w'->(execOp a.eval o).run Q w'=.ok (.enter f args) w'/\nQ Z σ.l σ.mine (Z.deaf σ.l) (listed Q b.fn a o w').toList/\¬ ∃e∈listed Q b.fn a o w',uo Z e)/\io Q Stop m f args σ V/\∀u bk,V u bk->K bk (a.put o.dst u)
variable(Q Stop m b k cs ops) in
def PX(o:Oper)(σ:cz Z)(a:Act):Prop:=
 ∃f args,(∀w γ w' ah g,σ.S w γ->Z.dH σ.l γ ah->dI Z σ.l ah ⟨g,w,σ.mine⟩ w'->(execOp a.eval o).run Q w'=.ok (.enter f args) w'/\nQ Z σ.l σ.mine (Z.deaf σ.l) (listed Q b.fn a o w').toList/\¬ ∃e∈listed Q b.fn a o w',uo Z e)/\
  ∀(a':Act)(i:Nat)(rest:uag),a'.defers=a.defers->∀w γ,σ.S w γ->bd Z Q Stop m σ.l γ ⟨G (Frame.enter Q f args .normal) (b.at a' (.inRegion ops (i::rest)::k)::cs),w,σ.mine⟩
variable(Q Stop m b k cs ops) in
def mR(i:Nat)(σ:cz Z)(a:Act)(K:cz Z->Act->Prop):Prop:=
 match ops[i]? with
 |none=>False
 |some o=>if Region.wanted o (yielded ops a.tmps)then BJ Q b o σ a K\/PW Q Stop m b o σ a K\/PX Q Stop m b k cs ops o σ a else K σ (a.put o.dst undef)
theorem mR.mono{σ:cz Z}{K K':cz Z->Act->Prop}(h:mR Q Stop m b k cs ops i σ a K)(hk:∀σ a,K σ a->K' σ a):mR Q Stop m b k cs ops i σ a K':=by
 unfold mR at *;split
 .simp_all
 .rename_i o l;simp[l]at h;split
  .rename_i j;simp[j]at h;rcases h with h|⟨f,args,V,d,c,e⟩|h
   .refine .inl λw γ w' n g d c e=>?_;obtain⟨u,w1,r,r1,q,p⟩:=h w γ w' n g d c e;grind
   .exact .inr (.inl ⟨f,args,V,d,c,AN⟩)
   .exact .inr (.inr h)
  grind
def ajN(p:∀l g g1,¬Z.ox l g g1)(hk:b.kind≠ .early){rest:uag}{σ:cz Z}(hst:r6 σ)(h:mR Q Stop m b k cs ops i σ a (λq a1=>q2 Q Stop m b k cs ops rest q a1)):q2 Q Stop m b k cs ops (i::rest) σ a:=by
 intro w γ n;unfold mR at h;split at h
 .grind
 .rename_i o t;split at h
  .rename_i s;refine bd.mk U λw' c d j=>?_;rcases h with h|⟨f,args,V,y,x,L⟩|⟨f,args,y,x⟩;rotate_left
   rotate_left
   .obtain⟨r1,E,r⟩:=y w γ w' c _ n d j;refine .quiet (stepG_enter t s hk r1) ⟨U,po _ _ _,AN,by grind[j9],λe=>e.elim r (p _ _ _)⟩ ?_;rw[j9 U];exact x a i rest U w' c (hst w γ w' c _ n d j)
   rotate_left
   .obtain⟨r1,E,r⟩:=y w γ w' c _ n d j;refine .quiet (stepG_enter t s hk r1) ⟨U,po _ _ _,AN,by grind[j9],λe=>e.elim r (p _ _ _)⟩ ?_;rw[j9 U];refine x b a ops i rest k cs (λu q hv w2 F N=>?_) w' c (hst w γ w' c _ n d j);have:=L u q hv w2 F N;grind
   obtain⟨u,w1,q,hrun,⟨O,B,K⟩,hK⟩:=h w γ w' c _ n d j;have hs:stepG Q m (G (b.at a (.inRegion ops (i::rest)::k)) cs) w'=.go (G (b.at (a.put o.dst u) (.inRegion ops rest::k)) cs) w1 (listed Q b.fn a o w'):=by grind[stepG_value,stepG_none]
   rcases K with⟨P,A,M,I,v⟩|⟨bz,A,J,H,C,z,D,R⟩
   .refine .quiet hs ⟨U,B,M,I,λe=>e.elim v (p _ _ _)⟩ ?_;have:=hK w1 c A;grind
   .refine .turn hs ⟨U,.inl J,B,H,C,z,.inr D⟩ AN ?_;have:=hK w1 bz A;grind
  .rename_i s;refine bd.mk U λw' c d j=>?_;have hs:stepG Q m (G (b.at a (.inRegion ops (i::rest)::k)) cs) w'=.go (G (b.at (a.put o.dst undef) (.inRegion ops rest::k)) cs) w' #[]:=stepG_unwanted t AN;refine .quiet hs ⟨U,po _ _ _,AN,PA,λe=>e.elim AN (p _ _ _)⟩ ?_;rw[j9 U];exact h w' c (hst w γ w' c _ n d j)
variable(Q Stop m b k cs md ops) in
def q7(C:cz Z->Prop)(ib:cz Z->Act->Prop):Nat->Array Bool->cz Z->Act->Prop
 |0,am,σ,a=>Region.ready md ops am=[]/\ib σ a
 |n+1,am,σ,a=>(Region.ready md ops am=[]->ib σ a)/\∀i∈Region.ready md ops am,mR Q Stop m b k cs ops i σ a (λbk a1=>C bk/\q7 C ib n (am.setIfInBounds i true) bk a1)
def ajP(f:∀l g g1,¬Z.ox l g g1)(hk:b.kind≠ .early){C:cz Z->Prop}(j:∀σ,C σ->r6 σ){ib:cz Z->Act->Prop}(hK:∀σ a,C σ->ib σ a->q2 Q Stop m b k cs ops [] σ a):
 ∀(n t:Nat)(am:uaw)(σ:cz Z)(a:Act),C σ->q7 Q Stop m b k cs ops md C ib n am σ a->q2 Q Stop m b k cs ops (Region.linearise.go md ops n t am []) σ a:=by
 intro n;induction n with
 |zero=>intro t am σ a d h;simpa[Region.linearise.go]using hK σ a d h.2
 |succ n p=>
  intro t am σ a d h;obtain⟨e,c⟩:=h;simp only[Region.linearise.go];change q2 Q Stop m b k cs ops (match(Region.ready md ops am)[t % (Region.ready md ops am).length]? with
   |some i=>Region.linearise.go md ops n (t / (Region.ready md ops am).length) (am.setIfInBounds i true) [i]
   |none=>[].reverse) σ a
  cases hi:(Region.ready md ops am)[t % (Region.ready md ops am).length]? with
  |none=>
   have o:Region.ready md ops am=[]:=by cases q:Region.ready md ops am with|nil=>rfl|cons x xs=>grind[Nat.mod_lt]
   grind
  |some i=>simp only[];rw[linearise_go_acc,List.reverse_singleton,List.singleton_append];exact ajN f hk (j σ d) ((c i (List.mem_of_getElem? hi)).mono AN)
variable(Q b ops) in
def nk(C:cz Z->Prop)(o:Oper)(v:Value)(a:Act):Prop:=
 (Region.wanted o (yielded ops a.tmps)=true/\∀σ,C σ->∀w γ w' ah g,σ.S w γ->Z.dH σ.l γ ah->dI Z σ.l ah ⟨g,w,σ.mine⟩ w'->(execOp a.eval o).run Q w'=.ok (.value v) w'/\nQ Z σ.l σ.mine (Z.deaf σ.l) (listed Q b.fn a o w').toList/\¬ ∃e∈listed Q b.fn a o w',uo Z e)\/
 (Region.wanted o (yielded ops a.tmps)=false/\v=undef)
def nk.E1{C:cz Z->Prop}{o:Oper}{a':Act}(c:nk Q b ops C o v a)(e:execOp a'.eval o=execOp a.eval o)(d:Region.wanted o (yielded ops a'.tmps)=Region.wanted o (yielded ops a.tmps)):nk Q b ops C o v a':=by
 grind[nk,listed]
def nk.W3{C:cz Z->Prop}{o:Oper}{σ:cz Z}(hi:ops[i]?=some o)(n:nk Q b ops C o v a)(p:C σ)(hst:r6 σ){K:cz Z->Act->Prop}(h:K σ (a.put o.dst v)):mR Q Stop m b k cs ops i σ a K:=by
 unfold mR;simp[hi];rcases n with⟨c,hv⟩|⟨c,rfl⟩
 .simp[c];refine .inl λw γ w' j g f e d=>?_;obtain⟨r1,q,l⟩:=hv σ p w γ w' j g f e d;have hg:grown σ.mine w' w'=σ.mine:=j9 U;exact⟨v,w',σ,.inl r1,⟨hg.symm,po _ _ _,.inl ⟨U,hst w γ w' j g f e d,AN,AN,l⟩⟩,h⟩
 grind
def ajR{C:cz Z->Prop}{j:Nat}{c oj:Oper}(D:ops[j]?=some oj)(F:c.apart ops oj=true)(E:∀cs b,c.op≠ .select cs b)(t:∀cs b,oj.op≠ .select cs b){K:cz Z->Act->Prop}{σ:cz Z}(r:nk Q b ops C c v a)(h:mR Q Stop m b k cs ops j σ (a.put c.dst v) K):
 mR Q Stop m b k cs ops j σ a (λs a1=>nk Q b ops C c v a1/\K s (a1.put c.dst v)):=by
 obtain⟨n,I,y⟩:=Oper.apart_spec F;have keep:∀(a:Act),nk Q b ops C c v a->∀u,nk Q b ops C c v (a.put oj.dst u):=λa r u=>
  r.E1 (execOp_put c E a oj.dst u y) (wanted_put c a oj.dst u y)
 unfold mR at *;simp only[D]at *;rw[wanted_put oj a c.dst v n]at h;split
 .rename_i B;simp[B]at h;rcases h with h|⟨f,args,V,l,e,x⟩|⟨f,args,l,e⟩
  .refine .inl λw γ w' d g l e x=>?_;obtain⟨u,w1,s,r1,z,H⟩:=h w γ w' d g l e x;unfold listed at *;rw[execOp_put oj t a c.dst v n]at r1 z;grind[Act.put_comm]
  .refine .inr (.inl ⟨f,args,V,λw γ w' d g q p o=>?_,e,λu s hv=>⟨keep a r u,by grind[Act.put_comm]⟩⟩);have r1:=l w γ w' d g q p o;unfold listed at *;rw[execOp_put oj t a c.dst v n]at r1;exact r1
  .refine .inr (.inr ⟨f,args,λw γ w' d g q p o=>?_,λa' i rest hd=>e a' i rest (by cases A:c.dst<;>simp[Act.put,A,hd])⟩)
   have r1:=l w γ w' d g q p o;unfold listed at *;rw[execOp_put oj t a c.dst v n]at r1;exact r1
 grind[Act.put_comm]
def ajS{C:cz Z->Prop}(r:∀σ,C σ->r6 σ){ib:cz Z->Act->Prop}{f:Oper}(hi:ops[i]?=some f)(K:∀(j:Nat)(o:Oper) cs b,ops[j]?=some o->o.op≠ .select cs b):
 ∀(n:Nat)(am:uaw)(σ:cz Z)(a:Act),
  (∀j oj,ops[j]?=some oj->j≠i->am.getD j true=false->(∀e∈oj.after,Region.binds md e=true->e.on≠i)->f.apart ops oj=true)->
  i∈Region.ready md ops am->nk Q b ops C f v a->C σ->
  q7 Q Stop m b k cs ops md C ib n (am.setIfInBounds i true) σ (a.put f.dst v)->q7 Q Stop m b k cs ops md C ib (n+1) am σ a:=by
 intro n;induction n with
 |zero=>
  intro am σ a _ q g c H;refine⟨AN,λj h=>?_⟩;by_cases d:j=i
  .subst d;exact g.W3 hi c (r σ c) ⟨c,H⟩
  .have:=ready_mono h d;rw[H.1]at this;grind
 |succ n s=>
  intro am σ a B q g c H;refine⟨AN,λj h=>?_⟩;by_cases d:j=i
  .subst d;exact g.W3 hi c (r σ c) ⟨c,H⟩
  .have w:=H.2 j (ready_mono h d);obtain⟨y,oj,A,J⟩:=mem_ready.1 h;have E:∀e∈oj.after,Region.binds md e=true->e.on≠i:=λe F I t=>by grind[mem_ready]
   have u:=ajR A AN AN AN g w;have z:∀k ok,ops[k]?=some ok->k≠i->(am.setIfInBounds j true).getD k true=false->
    (∀e∈ok.after,Region.binds md e=true->e.on≠i)->f.apart ops ok=true:=λk ok hk D M l=>by
    refine B k ok hk D ?_ l;by_cases L:j=k
    .grind
    simp_all
   refine u.mono λx a1 p=>⟨p.2.1,s (am.setIfInBounds j true) x a1 z (ready_mono q (Ne.symm d)) p.1 p.2.1 ?_⟩;grind[Array.setIfInBounds_comm]
def iK{C:cz Z->Prop}(g:∀σ,C σ->r6 σ){ib:cz Z->Act->Prop}{c:Oper}{am:uaw}{σ:cz Z}(hi:ops[i]?=some c)(hs:Region.noSelect ops=true)(e:Region.free md ops am i=true)(j:(Region.ready md ops am).contains i=true)(d:nk Q b ops C c v a)(f:C σ)(h:q7 Q Stop m b k cs ops md C ib n (am.setIfInBounds i true) σ (a.put c.dst v)):q7 Q Stop m b k cs ops md C ib (n+1) am σ a:=
 ajS g hi (Region.noSelect_spec hs) n am σ a (Region.free_spec hi e) AN d f h
def P3{C:cz Z->Prop}{ib:cz Z->Act->Prop}{rs:uag}{am:uaw}{σ:cz Z}(d:Region.ready md ops am=rs)(e:rs≠[])(h:∀i∈rs,mR Q Stop m b k cs ops i σ a (λc a1=>C c/\q7 Q Stop m b k cs ops md C ib n (am.setIfInBounds i true) c a1)):q7 Q Stop m b k cs ops md C ib (n+1) am σ a:=
 ⟨AN,d▸h⟩
def zU{C:cz Z->Prop}{ib:cz Z->Act->Prop}{am:uaw}{σ:cz Z}(c:Region.ready md ops am=[])(h:ib σ a):∀n,q7 Q Stop m b k cs ops md C ib n am σ a
 |0=>⟨c,h⟩
 | _+1=>⟨λ_=>h,AN⟩
def zV(i:∀l g g1,¬Z.ox l g g1)(hk:b.kind≠ .early)(p:Q.follows .mixedOrders=true){C:cz Z->Prop}(j:∀σ,C σ->r6 σ)(d:∀σ,C σ->∀w γ,σ.S w γ->σ.S {w with drawn:=w.drawn+1} γ){ib:cz Z->Act->Prop}(hK:∀σ a,C σ->ib σ a->q2 Q Stop m b k cs ops [] σ a){id:Nat}{σ:cz Z}(c:C σ)(h:q7 Q Stop m b k cs ops .any C ib ops.size (Array.replicate ops.size false) σ a)(w:aH)(γ:Z.aM)(q:σ.S w γ):
 bd Z Q Stop m σ.l γ ⟨G (b.at a (.code (.region id ops true)::k)) cs,w,σ.mine⟩:=by
 refine bd.mk U λw' f n o=>?_;refine .quiet stepG_region_draw ⟨U,⟨AN,vad _,.refl _,U,U⟩,AN,PA,λe=>e.elim AN (i _ _ _)⟩ ?_;rw[j9 (w:=w') (w1:={w' with drawn:=w'.drawn+1}) U];simp only[Region.schedule,p,Bool.true_or,vbx];exact ajP i hk j hK ops.size _ _ σ a c h _ f (d σ c w' f (j σ c w γ w' f _ q n o))
end
section
section
variable{Z:eV}{Q:ck}{Stop:Bool->Z.Lo->aV->Prop}{m:Bool}{l:Z.Lo}{γ:Z.aM}{X:aV}{w':aH}
def E2(Z:eV)(mine:c5)(e:Event):Prop:=
 match e.loc with
 | .cell a=>e.sync=false/\((Z.K a.block/\e.write=false)\/mine a.block)
 | .obj r=>e.sync=false/\((Z.K r/\e.write=false)\/mine r)
 | .mark .noRoom| .mark (.extern _)=>True
 | _=>False
def P4(u:∀l g g1,¬Z.ox l g g1)(v:Z.past l=false){g1:uai}{w1:aH}{es:uav}(hs:stepG Q m X.g w'=.go g1 w1 es)(hrun:g1.status=.running)(hk:∀b,b<w'.heap.size->¬X.mine b->w1.heap[b]?=w'.heap[b]?)(hsz:w'.heap.size<=w1.heap.size)(n:w1.os=w'.os)(t:w1.output=w'.output)(s:w1.tape=w'.tape)(q:∀b,grown X.mine w' w1 b->¬Z.g7 b)(c:∀e∈es,E2 Z (grown X.mine w' w1) e)(h:bd Z Q Stop m l γ ⟨g1,w1,grown X.mine w' w1⟩):Then (Z:=Z) Q Stop m l γ X w':=by
 refine .quiet hs ⟨hrun,⟨AN,hsz,by rw[n];exact .refl _,t,s⟩,λb j k=>hk b j λo=>q b (.inl o) k,zS _ _ λe i d=>?_,?_⟩ h
 .have:=c e AN;unfold E2 at this;unfold s7;cases p:e.loc with
  |cell a=>grind
  |obj r=>grind
  |mark mk=>rw[p]at this;cases mk<;>first|exact .inl this|grind
  |output=>trivial
  |goroutines=>grind
 .rintro(⟨e,i,f⟩|h)
  .have:=c e i;unfold E2 at this;rcases f with h|h|⟨a,h⟩|⟨a,h⟩|⟨f,b,j,k⟩
   .grind
   .grind
   .grind
   .grind
   grind[eT]
  grind
end
end
end fY
namespace ej
open Conc av bn ae
structure db where
 st:Nat
 cx:Nat
 wg:Nat
 LD:TypeId
 BN:TypeId
 tWg:TypeId
 N:Nat
 rows:Nat->Nat
 size:Value
 zX:Value
 xN:Value
 least:Value
 bad:Nat->Bool
 place:Nat->Value
 K:Nat->Prop
 most:Nat
 C:Nat
 eK:st≠wg/\st≠cx/\wg≠cx
 uz:∀b,K b->b≠st/\b≠wg/\b≠cx
def zY:At->Prop
 | .main _=>True
 | _=>False
def i7:At->Bool
 | .work .rel _ | .work .nl _ | .work .lb _ | .gone _ | .old=>true
 | _=>false
def se(c:db)(b:cj):Obj:=.cells #[.int .u64 ((b.aX*4294967296+b.ea.toNat:Nat):Int),.int .u32 (b.gz:Int)] c.tWg
def E3(c:db)(b:cj):Obj:=.cells b.done.toArray c.BN
abbrev ar(c:db):e5 where
 ao:=At
 aN:=cj
 tf:=cT c.N c.rows c.bad
 bD:=λb=>c.C*(c.N-b.taken)
 BH:=λo a b b'=>(o=true->b'.taken=b.taken/\b'.came=b.came/\b'.done=b.done/\b'.least=b.least)/\b.taken<=b'.taken/\(zY a->b'.aX<=b.aX)
 PQ:=LC
 left:=qh
 past:=i7
 zero:=zY
 st:=c.st
 ty:=c.LD
 cells:=λb=>#[c.size,c.zX,.I (b.taken:Int),.I (b.came:Int),c.xN,b.least.elim c.least c.place]
 nS:=λb w=>w.heap[c.wg]?=some (se c b)/\(True->w.heap[c.cx]?=some (E3 c b))
 BI:=λk=>k=c.wg\/k=c.cx
 g6:=λl=>(∃off sp,l=.cell ⟨c.st,off,sp⟩/\2<=off)\/eT l=some c.cx
 eU:=λl=>l=.cell ⟨c.wg,0,none⟩\/l=.cell ⟨c.wg,1,none⟩
 K:=c.K
 wg:=⟨c.wg,0,none⟩
 most:=c.most
def bu(c:db):(ar c).Good where
 refl:=AN
 trans:=AN
 PR:=AN
 Lr:=λh=>h.elim c.eK.1 c.eK.2.1
 mO:=λb d=>⟨(c.uz b d).1,λh=>h.elim (c.uz b d).2.1 (c.uz b d).2.2⟩
 nM:=λb ay h=>h.alive
 zero:=λb ay j a h f e=>by cases a with|main s=>exact h.only j s f| _=>exact e.elim
 g6:=AN
 eU:=λl h=>by rcases h with rfl|rfl<;>exact⟨c.wg,U,.inl U⟩
 s4:=λl h hs=>by
  rcases h with⟨off,sp,rfl,_⟩|h
  .grind
  .rcases hs with rfl|rfl<;>simp[eT]at h<;>exact c.eK.2.2 h
variable{v:Int}
section
variable{c:db}{Q:ck}{Stop:Bool->ae.Lo At->aV->Prop}{m:Bool}{l:ae.Lo At}{γ:ae.aM cj}{X:aV}{w':aH}
def uA{b:cj}{w:aH}(h:w.heap[c.wg]?=some (se c b)):w.cell? (.a c.wg 0)=some (.int .u64 ((b.aX*4294967296+b.ea.toNat:Nat):Int)):=by simp[World.cell?,h,se]
def LF{b:cj}{w:aH}(h:w.heap[c.wg]?=some (se c b)):w.cell? (.a c.wg 1)=some (.int .u32 (b.gz:Int)):=by simp[World.cell?,h,se]
def zZ{b:cj}{w:aH}(h:w.heap[c.wg]?=some (se c b))(off:Nat)(sp):w.frozen? ⟨c.wg,off,sp⟩=false:=by simp[World.frozen?,h,se]
def Xa{mu:bh}{b b1:cj}{w:aH}(d:w.heap[c.st]?=some (gE (ar c) mu b))(a:(ar c).nS b w)(hs:b1.gz=b.gz)(ht:b1.taken=b.taken)(f:b1.came=b.came)(hd:b1.done=b.done/\b1.least=b.least)(hv:v=((b1.aX*4294967296+b1.ea.toNat:Nat):Int)):
 (w.setCell ⟨c.wg,0,none⟩ (.int .u64 v)).heap[c.st]?=some (gE (ar c) mu b1)/\(ar c).nS b1 (w.setCell ⟨c.wg,0,none⟩ (.int .u64 v)):=by
 subst hv;refine⟨?_,?_,λe=>?_⟩
 .rw[k5 w _ _ c.eK.1,d];grind[gE]
 .simp_all[World.setCell,vay,se]
 .rw[k5 w _ _ (Ne.symm c.eK.2.2),a.2 e];grind[E3]
def aj8{mu:bh}{b b1:cj}{w:aH}(d:w.heap[c.st]?=some (gE (ar c) mu b))(a:(ar c).nS b w)(hs:b1.aX=b.aX/\b1.ea=b.ea)(ht:b1.taken=b.taken)(f:b1.came=b.came)(hd:b1.done=b.done/\b1.least=b.least)(hv:v=(b1.gz:Int)):
 (w.setCell ⟨c.wg,1,none⟩ (.int .u32 v)).heap[c.st]?=some (gE (ar c) mu b1)/\(ar c).nS b1 (w.setCell ⟨c.wg,1,none⟩ (.int .u32 v)):=by
 subst hv;refine⟨?_,?_,λe=>?_⟩
 .rw[k5 w _ _ c.eK.1,d];grind[gE]
 .simp_all[World.setCell,vay,se]
 .rw[k5 w _ _ (Ne.symm c.eK.2.2),a.2 e];grind[E3]
def P9{mine:c5}(w:aH)(off:Nat)(sp)(v:Value):kZ (ak (ar c)) mine w (w.setCell ⟨c.wg,off,sp⟩ v):=
 ⟨λb _ _ hs=>k5 w _ v AN,BB,.refl _,U,U⟩
def P_{mine:c5}(w:aH)(off:Nat)(sp)(v:Value):kZ (ak (ar c)) mine w (w.setCell ⟨c.st,off,sp⟩ v):=
 ⟨λb _ _ hs=>k5 w _ v AN,BB,.refl _,U,U⟩
def Xb{mine:c5}(w:aH)(off:Nat)(sp)(v:Value):kZ (ak (ar c)) mine w (w.setCell ⟨c.cx,off,sp⟩ v):=
 ⟨λb _ _ hs=>k5 w _ v AN,BB,.refl _,U,U⟩
end
variable{g1:uai}{d1 f1:Nat}
section
section
variable{c:db}{Q:ck}{Stop:Bool->ae.Lo At->aV->Prop}{m:Bool}{l:ae.Lo At}{γ:ae.aM cj}{X:aV}{w':aH}
def xO(k:dI (ak (ar c)) l γ X w'){w1:aH}{es:uav}{a1:At}{b1:cj}(hs:stepG Q m X.g w'=.go g1 w1 es)(hrun:g1.status=.running)(b:∃e∈es,uo (ak (ar c)) e)(hk:kZ (ak (ar c)) X.mine w' w1)(hsz:w1.heap.size=w'.heap.size)(j:w1.heap[c.st]?=some (gE (ar c) γ.mu b1)/\(ar c).nS b1 w1)(f:∀(ay:List At)(i:Nat),ay[i]?=some l.aj->cT c.N c.rows c.bad γ.aj ay->cT c.N c.rows c.bad b1 (ay.set i a1))(n:f1+c.C*(c.N-b1.taken)+1<=l.fuel+c.C*(c.N-γ.aj.taken))(q:l.mx=.own\/(b1.taken=γ.aj.taken/\b1.came=γ.aj.came/\b1.done=γ.aj.done/\b1.least=γ.aj.least))(r:γ.aj.taken<=b1.taken)(y:zY l.aj\/b1.aX<=γ.aj.aX)(p:qh a1->l.mx=.idle)(g:l.tok=true->l.mx=.own)(says:Says (ak (ar c)) l ({l with aj:=a1,fuel:=f1,deaf:=d1}:ae.Lo At) X.mine es)(d:mayWake Q X.g=true\/∀a,LC a γ.aj->LC a b1)(w:qh a1->m=false/\Stop m ({l with aj:=a1,fuel:=f1,deaf:=d1}:ae.Lo At) ⟨g1,w1,X.mine⟩)(h:bd (ak (ar c)) Q Stop m ({l with aj:=a1,fuel:=f1,deaf:=d1}:ae.Lo At) ({γ with aj:=b1,a4:=γ.a4-1}:ae.aM cj) ⟨g1,w1,X.mine⟩):Then (Z:=ak (ar c)) Q Stop m l γ X w':=by
 have hg:grown X.mine w' w1=X.mine:=j9 hsz;refine .turn (l1:=({l with aj:=a1,fuel:=f1,deaf:=d1}:ae.Lo At)) (bz:=({γ with aj:=b1,a4:=γ.a4-1}:ae.aM cj)) hs ⟨hrun,.inl b,hk,j,PT (bu c) k.sees f n (λo a' v t=>?_) p g,AN,d.imp id λu s x=>?_⟩ AN AN
 .grind
 grind
def LH(d:dI (ak (ar c)) l γ X w'){a1:At}{b1:cj}(hs:stepG Q m X.g w'=.go g1 (w'.setCell ⟨c.wg,0,none⟩ (.int .u64 v)) #[⟨.cell ⟨c.wg,0,none⟩,false,true⟩,⟨.cell ⟨c.wg,0,none⟩,true,true⟩])(hrun:g1.status=.running)(hv:v=((b1.aX*4294967296+b1.ea.toNat:Nat):Int))(hd:0<l.deaf)(e:b1.gz=γ.aj.gz)(b:b1.taken=γ.aj.taken/\b1.came=γ.aj.came/\b1.done=γ.aj.done/\b1.least=γ.aj.least)(j:∀(ay:List At)(i:Nat),ay[i]?=some l.aj->cT c.N c.rows c.bad γ.aj ay->cT c.N c.rows c.bad b1 (ay.set i a1))(q:f1<l.fuel)(p:zY l.aj\/b1.aX<=γ.aj.aX)(o:qh a1->l.mx=.idle)(k:l.tok=true->l.mx=.own)(g:i7 a1=i7 l.aj)(n:qh a1->m=false/\Stop m ({l with aj:=a1,fuel:=f1}:ae.Lo At) ⟨g1,w'.setCell ⟨c.wg,0,none⟩ (.int .u64 v),X.mine⟩)(h:bd (ak (ar c)) Q Stop m ({l with aj:=a1,fuel:=f1}:ae.Lo At) ({γ with aj:=b1,a4:=γ.a4-1}:ae.aM cj) ⟨g1,w'.setCell ⟨c.wg,0,none⟩ (.int .u64 v),X.mine⟩):Then (Z:=ak (ar c)) Q Stop m l γ X w':=
 xO (d1:=l.deaf) d hs hrun ⟨⟨.cell ⟨c.wg,0,none⟩,true,true⟩,Ab,.inr (.inr (.inr (.inr ⟨U,c.wg,U,.inr Ij⟩)))⟩ (P9 w' 0 none _) (k6 _ _ _) (Xa d.mt.1 d.mt.2 e b.1 b.2.1 b.2.2 hv) j AN (.inr b) AN p o k
  (.inl ⟨U,g,U,.inr AN,.inr ⟨U,AN,hd⟩,PA⟩) (.inr λa f=>⟨f.1,e.trans f.2⟩) n h
def akg(d:dI (ak (ar c)) l γ X w'){a1:At}{b1:cj}(hs:stepG Q m X.g w'=.go g1 (w'.setCell ⟨c.wg,0,none⟩ (.int .u64 v)) #[⟨.cell ⟨c.wg,0,none⟩,true,true⟩])(hrun:g1.status=.running)(hv:v=((b1.aX*4294967296+b1.ea.toNat:Nat):Int))(hd:0<l.deaf)(e:b1.gz=γ.aj.gz)(b:b1.taken=γ.aj.taken/\b1.came=γ.aj.came/\b1.done=γ.aj.done/\b1.least=γ.aj.least)(j:∀(ay:List At)(i:Nat),ay[i]?=some l.aj->cT c.N c.rows c.bad γ.aj ay->cT c.N c.rows c.bad b1 (ay.set i a1))(o:f1<l.fuel)(n:zY l.aj\/b1.aX<=γ.aj.aX)(p:¬qh a1)(k:l.tok=true->l.mx=.own)(g:i7 a1=i7 l.aj)(h:bd (ak (ar c)) Q Stop m ({l with aj:=a1,fuel:=f1}:ae.Lo At) ({γ with aj:=b1,a4:=γ.a4-1}:ae.aM cj) ⟨g1,w'.setCell ⟨c.wg,0,none⟩ (.int .u64 v),X.mine⟩):Then (Z:=ak (ar c)) Q Stop m l γ X w':=
 xO (d1:=l.deaf) d hs hrun ⟨⟨.cell ⟨c.wg,0,none⟩,true,true⟩,Ab,.inr (.inr (.inr (.inr ⟨U,c.wg,U,.inr Ij⟩)))⟩ (P9 w' 0 none _) (k6 _ _ _) (Xa d.mt.1 d.mt.2 e b.1 b.2.1 b.2.2 hv) j AN (.inr b) AN n AN k
  (.inl ⟨U,g,U,.inr AN,PA⟩) (.inr λa f=>⟨f.1,e.trans f.2⟩) AN h
def Xd(d:dI (ak (ar c)) l γ X w'){a1:At}{b1:cj}(hs:stepG Q m X.g w'=.go g1 (w'.setCell ⟨c.wg,1,none⟩ (.int .u32 v)) (semEvents ⟨c.wg,1,none⟩))(hrun:g1.status=.running)(hv:v=(b1.gz:Int))(j:b1.aX=γ.aj.aX/\b1.ea=γ.aj.ea)(b:b1.taken=γ.aj.taken/\b1.came=γ.aj.came/\b1.done=γ.aj.done/\b1.least=γ.aj.least)(k:∀(ay:List At)(i:Nat),ay[i]?=some l.aj->cT c.N c.rows c.bad γ.aj ay->cT c.N c.rows c.bad b1 (ay.set i a1))(r:f1<l.fuel)(q:qh a1->l.mx=.idle)(n:l.tok=true->l.mx=.own)(g:i7 a1=i7 l.aj)(f:mayWake Q X.g=true\/γ.aj.gz≠0)(o:qh a1->m=false/\Stop m ({l with aj:=a1,fuel:=f1}:ae.Lo At) ⟨g1,w'.setCell ⟨c.wg,1,none⟩ (.int .u32 v),X.mine⟩)(h:bd (ak (ar c)) Q Stop m ({l with aj:=a1,fuel:=f1}:ae.Lo At) ({γ with aj:=b1,a4:=γ.a4-1}:ae.aM cj) ⟨g1,w'.setCell ⟨c.wg,1,none⟩ (.int .u32 v),X.mine⟩):Then (Z:=ak (ar c)) Q Stop m l γ X w':=
 xO (d1:=l.deaf) d hs hrun ⟨⟨.cell ⟨c.wg,1,none⟩,true,true⟩,by simp[semEvents],.inr (.inr (.inr (.inr ⟨U,c.wg,U,.inr Ij⟩)))⟩ (P9 w' 1 none _) (k6 _ _ _) (aj8 d.mt.1 d.mt.2 j b.1 b.2.1 b.2.2 hv) k AN (.inr b) AN AN q n
  (.inl ⟨U,g,by grind[deafBehind,semEvents],.inl trivial,.inr ⟨U,AN,GN⟩,.inr ⟨U,AN,GN⟩,.inl trivial,PA⟩)
  (f.imp id λe a p=>absurd p.2 e) o h
def Xe(b:dI (ak (ar c)) l γ X w'){mk:Mark}(a:mk=.disable\/mk=.enable){a1:At}(hs:stepG Q m X.g w'=.go g1 w' #[⟨.mark mk,false,true⟩])(hrun:g1.status=.running)(f:∀(ay:List At)(i:Nat),ay[i]?=some l.aj->cT c.N c.rows c.bad γ.aj ay->cT c.N c.rows c.bad γ.aj (ay.set i a1))(j:f1<l.fuel)(k:¬qh a1)(g:l.tok=true->l.mx=.own)(d:i7 a1=i7 l.aj)(hd:d1=deafBehind l.deaf #[⟨.mark mk,false,true⟩])(h:bd (ak (ar c)) Q Stop m ({l with aj:=a1,fuel:=f1,deaf:=d1}:ae.Lo At) ({γ with a4:=γ.a4-1}:ae.aM cj) ⟨g1,w',X.mine⟩):Then (Z:=ak (ar c)) Q Stop m l γ X w':=
 xO (b1:=γ.aj) (d1:=d1) b hs hrun ⟨⟨.mark mk,false,true⟩,Ab,a.elim (λe=>.inl Gn) (λe=>.inr AN)⟩ (po _ _ _) U b.mt f AY AN IB AN AN g
  (.inl ⟨U,d,hd,.inl (by rcases a with rfl|rfl<;>exact trivial),PA⟩) AN AN h
def akh(a:dI (ak (ar c)) l γ X w'){p:uac}(hs:stepG Q m X.g w'=.go g1 w' #[⟨.mark (.releaseMerge ⟨c.wg,0,none⟩),false,true⟩])(hrun:g1.status=.running)(d:l.aj=.work .free p)(a5:γ.aj.taken=c.N)(f:f1<l.fuel)(hd:l.deaf=0)(b:l.tok=false)(h:bd (ak (ar c)) Q Stop m ({l with aj:=.work .rel p,fuel:=f1}:ae.Lo At) ({γ with a4:=γ.a4-1}:ae.aM cj) ⟨g1,w',X.mine⟩):Then (Z:=ak (ar c)) Q Stop m l γ X w':=
 xO (a1:=.work .rel p) (b1:=γ.aj) (d1:=l.deaf) a hs hrun ⟨⟨.mark (.releaseMerge ⟨c.wg,0,none⟩),false,true⟩,Ab,.inr AN⟩ (po _ _ _) U a.mt (λay i hi hg=>hg.release a5 AN) AY AN IB AN I8 AN
  (.inr (.inr (.inr ⟨U,hd,hd,U,U⟩))) AN (λe=>e.elim) h
end
end
end ej
namespace bM
open Conc
theorem Ce:(f62.name== "runtime.NumGoroutine")=false:=by kernel_rfl
theorem Cf:f62.body.isNone=true:=by kernel_rfl
theorem Cg:Extern.findNext f62=none:=by kernel_rfl
theorem Ch:Extern.find f62=some (λ_=>do mark .disable;pure Extern.Race.none_):=by kernel_rfl
theorem qv:(f63.name== "runtime.NumGoroutine")=false:=by kernel_rfl
theorem qw:f63.body.isNone=true:=by kernel_rfl
theorem qx:Extern.findNext f63=none:=by kernel_rfl
theorem qy:Extern.find f63=some (λ_=>do mark .enable;pure Extern.Race.none_):=by kernel_rfl
theorem FA:(f76.name== "runtime.NumGoroutine")=false:=by kernel_rfl
theorem FB:f76.body.isNone=true:=by kernel_rfl
theorem FC:Extern.findNext f76=none:=by kernel_rfl
theorem FD:Extern.find f76=some (Extern.Race.marked .acquire):=by kernel_rfl
theorem Ry:(f61.name== "runtime.NumGoroutine")=false:=by kernel_rfl
theorem Rz:f61.body.isNone=true:=by kernel_rfl
theorem RA:Extern.findNext f61=none:=by kernel_rfl
theorem RB:Extern.find f61=some (Extern.Race.marked .releaseMerge):=by kernel_rfl
theorem yc:(f117.name== "runtime.NumGoroutine")=false:=by kernel_rfl
theorem yd:f117.body.isNone=true:=by kernel_rfl
theorem ye:Extern.findNext f117=none:=by kernel_rfl
theorem yf:Extern.find f117=some (Extern.Atomic.casT (.int .i32)):=by kernel_rfl
theorem IK:(f119.name== "runtime.NumGoroutine")=false:=by kernel_rfl
theorem IL:f119.body.isNone=true:=by kernel_rfl
theorem IM:Extern.findNext f119=none:=by kernel_rfl
theorem IN:Extern.find f119=some (Extern.Atomic.update (Op.intArith .add) .i32 true):=by kernel_rfl
theorem YR:(f135.name== "runtime.NumGoroutine")=false:=by kernel_rfl
theorem YS:f135.body.isNone=true:=by kernel_rfl
theorem YT:Extern.findNext f135=none:=by kernel_rfl
theorem YU:Extern.find f135=some Extern.Sync.canSpin:=by kernel_rfl
theorem amr:(f136.name== "runtime.NumGoroutine")=false:=by kernel_rfl
theorem ams:f136.body.isNone=true:=by kernel_rfl
theorem amt:Extern.findNext f136=none:=by kernel_rfl
theorem amu:Extern.find f136=some Extern.Sync.nothing:=by kernel_rfl
theorem YV:(f138.name== "runtime.NumGoroutine")=false:=by kernel_rfl
theorem YW:f138.body.isNone=true:=by kernel_rfl
theorem YX:Extern.findNext f138=none:=by kernel_rfl
theorem YY:Extern.find f138=some Extern.OsHooks.nano:=by kernel_rfl
theorem RD:(f139.name== "runtime.NumGoroutine")=false:=by kernel_rfl
theorem RE:f139.body.isNone=true:=by kernel_rfl
theorem RF:Extern.findNext f139=none:=by kernel_rfl
theorem RG:Extern.find f139=some Extern.Sync.semacquire:=by kernel_rfl
theorem YZ:(f141.name== "runtime.NumGoroutine")=false:=by kernel_rfl
theorem Mu:f141.body.isNone=true:=by kernel_rfl
theorem Y0:Extern.findNext f141=none:=by kernel_rfl
theorem Y1:Extern.find f141=some Extern.Sync.semrelease:=by kernel_rfl
theorem Y2:f138.norace=true:=by kernel_rfl
theorem IP:(f81.name== "runtime.NumGoroutine")=false:=by kernel_rfl
theorem yg:(f82.name== "runtime.NumGoroutine")=false:=by kernel_rfl
theorem Y3:(f105.name== "runtime.NumGoroutine")=false:=by kernel_rfl
theorem Y4:(f106.name== "runtime.NumGoroutine")=false:=by kernel_rfl
theorem Y5:(prog.funcs[(base 106).fn]?).any (·.norace)=true:=by kernel_rfl
theorem amv:(f118.name== "runtime.NumGoroutine")=false:=by kernel_rfl
theorem IQ:(prog.funcs[(base 118).fn]?).any (·.norace)=true:=by kernel_rfl
theorem Y6:(f120.name== "runtime.NumGoroutine")=false:=by kernel_rfl
theorem amw:(prog.funcs[(base 120).fn]?).any (·.norace)=true:=by kernel_rfl
open RowKit Conc.Lib ConcR.Gen ConcM av bn ae
def Y7:prog.underlying 227=some (.pointer 156):=by simp
def Mv:prog.underlying 163=some .unsafePointer:=by simp
theorem Y8:(prog.info? 156).map (λi=>decide (i.size=0))=some false:=by kernel_rfl
section
variable{m:Bool}{b:Frame}{a:Act}{kk:uab}{cs:fA}{w:aH}{ops:eQ}{i:Nat}{rest:uag}{o:Oper}
def FE{x:uaq}(g:ops[i]?=some o)(d:Region.wanted o (yielded ops a.tmps)=true)(hk:b.kind≠ .early)(f:o.op=.convert 227 163 x){ad:Addr}{v:Value}(k:a.eval x=.pointer (some ad))(c:w.cell? ad=some v):
 stepG prog m (Conc.G (b.at a (.inRegion ops (i::rest)::kk)) cs) w=.go (Conc.G (b.at (a.put o.dst (.pointer (some ad))) (.inRegion ops rest::kk)) cs) w #[]:=by
 have h:=run_convert_to_unsafe (P:=prog) Y7 Mv Y8 c;have j:=λes=>events_convert_to_unsafe (P:=prog) Y7 Mv Y8 c es;have e:(execOp a.eval o).run prog w=.ok (.value (.pointer (some ad))) w:=by simp_all[execOp]
 have l:(execOp a.eval o).events prog w #[]=#[]:=by simp_all[execOp]
 rw[vau g d hk e];grind[listed,seen_none]
def Al{x:uaq}(h:ops[i]?=some o)(f:Region.wanted o (yielded ops a.tmps)=true)(hk:b.kind≠ .early)(c:o.op=.load 21 x){ad:Addr}{v:Int}(d:a.eval x=.pointer (some ad))(e:w.cell? ad=some (.int .i32 v))(hq:(prog.funcs[b.fn]?).any (·.norace)=true):
 stepG prog m (Conc.G (b.at a (.inRegion ops (i::rest)::kk)) cs) w=.go (Conc.G (b.at (a.put o.dst (.int .i32 v)) (.inRegion ops rest::kk)) cs) w #[]:=by
 have g:(execOp a.eval o).run prog w=.ok (.value (.int .i32 v)) w:=by unfold execOp;simp only[c,d];simp[go_sem,e]
 have j:(execOp a.eval o).events prog w #[]=#[⟨.cell ad,false,false⟩]:=by unfold execOp;simp only[c,d];simp[go_sem,e]
 rw[vau h f hk g];grind[listed,seen_def,seenStep]
end
def RH{mu:bh}(h:mu.word=0):mu.L=false/\mu.W=false/\mu.S=false/\mu.k=0:=by grind[bh.word]
def dA:Code->Option Code
 | .loop c=>some c
 | .seq x y=>match dA x with|some c=>some c|none=>dA y
 | .block _ c=>dA c
 | .cond _ x y=>match dA x with|some c=>some c|none=>dA y
 | _=>none
def kR:Code->Option Code
 | .seq (.block _ _) r=>some r
 | .seq _ y=>kR y
 | _=>none
def ed(id:Nat):Code->Option Code
 | .seq x y=>if(match x with| .region i _ _=>i==id| _=>false)then some (.seq x y)else match ed id x with|some c=>some c|none=>ed id y
 | .block _ c=>ed id c
 | .loop c=>ed id c
 | .cond _ x y=>match ed id x with|some c=>some c|none=>ed id y
 | _=>none
def lY:Code->Code
 | .seq _ y=>y
 | _=>.skip
def pI:Code->Array Oper
 | .seq (.region _ o _) _=>o
 | _=>#[]
def jG(ks:uab)(A:e5)(Stop:Bool->ae.Lo A.ao->aV->Prop)(m:Bool)(mine:c5)(aY:Frame)(aF:Act)(az:eQ)(aI:Nat)(aK:uag)(aG:uab)(csZ:fA)(l:ae.Lo A.ao)(γ:ae.aM A.aN)(cA:Int)(sv aw:Bool)(it old:Int)(w:aH):Prop:=
 ∀(cK qz e9 e_ fa fb fc fd qA qB fD fm fo fp iP fq f_ ga gb uT uU uV uW uX uY uZ u9 u_ va vb vc vd ve vf vg vh vi yh yi yj yk yl ym yn yo yp yq yr yt yu yv yw yx yy yz yA yB yC yD yE yF yG yH yI yJ yK yL yM yN yO yP Ci Cj Ck Cl yQ yR yS Cm Cn Co Cp Cq Cr Cs IR Ct Cu Cv Cw Cx Cy Cz CA CB CC CD CE CF CG CH CI CJ CK CL CM CN CO CP CQ CR CS CU CV CW CX CY CZ C0 C1 C2 C3 C4 C5 C6 C7 C8 C9 C_ Da Db Dc Dd:Value),bd (ak A) prog Stop m l γ ⟨Conc.G ((base 118).at ⟨#[.pointer (some (ae.fI A)),cK,.I cA,.bool sv,.bool aw,.I it,.int .i32 old,qz,e9,e_,fa,fb,fc,fd,qA,qB,fD,fm,fo,fp,iP,fq,f_,ga,gb,uT,uU,uV,uW,uX,uY,uZ,u9,u_,va,vb,vc,vd,ve,vf,vg,vh,vi,yh,yi,yj,yk,yl,ym,yn,yo,yp,yq,yr,yt,yu,yv,yw,yx,yy,yz,yA,yB,yC,yD,yE,yF,yG,yH,yI,yJ,yK,yL,yM,yN,yO,yP,Ci,Cj,Ck,Cl,yQ,yR,yS,Cm,Cn,Co,Cp,Cq,Cr,Cs,IR,Ct,Cu,Cv,Cw,Cx,Cy,Cz,CA,CB,CC,CD,CE,CF,CG,CH,CI,CJ,CK,CL,CM,CN,CO,CP,CQ,CR,CS,CU,CV,CW,CX,CY,CZ,C0,C1,C2,C3,C4,C5,C6,C7,C8,C9,C_,Da,Db,Dc,Dd],[]⟩ ks) (aY.at aF (.inRegion az (aI::aK)::aG)::csZ),w,mine⟩
def pJ(A:e5)(Stop:Bool->ae.Lo A.ao->aV->Prop)(m:Bool)(mine:c5)(aY:Frame)(aF:Act)(az:eQ)(aI:Nat)(aK:uag)(aG:uab)(csZ:fA)(l:ae.Lo A.ao)(γ:ae.aM A.aN)(cA:Int)(sv aw:Bool)(it old:Int)(w:aH):Prop:=
 jG [.code ((dA (f118.body.getD .skip)).getD .skip),.inLoop ((dA (f118.body.getD .skip)).getD .skip),.inBlock 0,.code ((kR (f118.body.getD .skip)).getD .skip)] A Stop m mine aY aF az aI aK aG csZ l γ cA sv aw it old w
def Am(A:e5)(Stop:Bool->ae.Lo A.ao->aV->Prop)(m:Bool)(mine:c5)(aY:Frame)(aF:Act)(az:eQ)(aI:Nat)(aK:uag)(aG:uab)(csZ:fA)(l:ae.Lo A.ao)(γ:ae.aM A.aN)(cA:Int)(sv aw:Bool)(it old:Int)(w:aH):Prop:=
 jG [.code ((ed 11 ((dA (f118.body.getD .skip)).getD .skip)).getD .skip),.inBlock 1,.inLoop ((dA (f118.body.getD .skip)).getD .skip),.inBlock 0,.code ((kR (f118.body.getD .skip)).getD .skip)] A Stop m mine aY aF az aI aK aG csZ l γ cA sv aw it old w
def IS(A:e5)(Stop:Bool->ae.Lo A.ao->aV->Prop)(m:Bool)(mine:c5)(aY:Frame)(aF:Act)(az:eQ)(aI:Nat)(aK:uag)(aG:uab)(csZ:fA)(l:ae.Lo A.ao)(γ:ae.aM A.aN)(cA:Int)(sv aw:Bool)(it old:Int)(new:Int)(w:aH):Prop:=
 ∀(cK e9 e_ fa fb fc fd qA qB fD fm fo fp iP fq f_ ga gb uT uU uV uW uX uY uZ u9 u_ va vb vc vd ve vf vg vh vi yh yi yj yk yl ym yn yo yp yq yr yt yu yv yw yx yy yz yA yB yC yD yE yF yG yH yI yJ yK yL yM yN yO yP Cl yQ yR yS Cm Cn Co Cp Cq Cr Cs IR Ct Cu Cv Cw Cx Cy Cz CA CB CC CD CE CF CG CH CI CJ CK CL CM CN CO CP CQ CR CS CU CV CW CX CY CZ C0 C1 C2 C3 C4 C5 C6 C7 C8 C9 C_ Da Db Dc Dd:Value),bd (ak A) prog Stop m l γ ⟨Conc.G ((base 118).at ⟨#[.pointer (some (ae.fI A)),cK,.I cA,.bool sv,.bool aw,.I it,.int .i32 old,.int .i32 new,e9,e_,fa,fb,fc,fd,qA,qB,fD,fm,fo,fp,iP,fq,f_,ga,gb,uT,uU,uV,uW,uX,uY,uZ,u9,u_,va,vb,vc,vd,ve,vf,vg,vh,vi,yh,yi,yj,yk,yl,ym,yn,yo,yp,yq,yr,yt,yu,yv,yw,yx,yy,yz,yA,yB,yC,yD,yE,yF,yG,yH,yI,yJ,yK,yL,yM,yN,yO,yP,.pointer (some (ae.fI A)),.int .i32 old,.int .i32 new,Cl,yQ,yR,yS,Cm,Cn,Co,Cp,Cq,Cr,Cs,IR,Ct,Cu,Cv,Cw,Cx,Cy,Cz,CA,CB,CC,CD,CE,CF,CG,CH,CI,CJ,CK,CL,CM,CN,CO,CP,CQ,CR,CS,CU,CV,CW,CX,CY,CZ,C0,C1,C2,C3,C4,C5,C6,C7,C8,C9,C_,Da,Db,Dc,Dd],[]⟩ [.inRegion (pI ((ed 22 ((dA (f118.body.getD .skip)).getD .skip)).getD .skip)) [5],.code (lY ((ed 22 ((dA (f118.body.getD .skip)).getD .skip)).getD .skip)),.inBlock 1,.inLoop ((dA (f118.body.getD .skip)).getD .skip),.inBlock 0,.code ((kR (f118.body.getD .skip)).getD .skip)]) (aY.at aF (.inRegion az (aI::aK)::aG)::csZ),w,mine⟩
def vj(A:e5)(Stop:Bool->ae.Lo A.ao->aV->Prop)(m:Bool)(mine:c5)(aY:Frame)(aF:Act)(az:eQ)(aI:Nat)(aK:uag)(aG:uab)(csZ:fA)(l:ae.Lo A.ao)(γ:ae.aM A.aN)(cA:Int)(sv aw:Bool)(it old:Int)(kP:Bool)(w:aH):Prop:=
 ∀(cK qz e9 e_ fa fb fc fd qA qB fD fm fo fp iP fq f_ ga gb uT uU uV uW uX uY uZ u9 u_ va vb vc vd ve vf vg vh vi yh yi yj yk yl ym yn yo yp yq yr yt yu yv yw yx yy yz yA yB yC yD yE yF yG yH yI yJ yK yL yM yN yO yP Ci Cj Ck yQ yR yS Cm Cn Co Cp Cq Cr Cs IR Ct Cu Cv Cw Cx Cy Cz CA CB CC CD CE CF CG CH CI CJ CK CL CM CN CO CP CQ CR CS CU CV CW CX CY CZ C0 C1 C2 C3 C4 C5 C6 C7 C8 C9 C_ Da Db Dc Dd:Value),bd (ak A) prog Stop m l γ ⟨Conc.G ((base 118).at ⟨#[.pointer (some (ae.fI A)),cK,.I cA,.bool sv,.bool aw,.I it,.int .i32 old,qz,e9,e_,fa,fb,fc,fd,qA,qB,fD,fm,fo,fp,iP,fq,f_,ga,gb,uT,uU,uV,uW,uX,uY,uZ,u9,u_,va,vb,vc,vd,ve,vf,vg,vh,vi,yh,yi,yj,yk,yl,ym,yn,yo,yp,yq,yr,yt,yu,yv,yw,yx,yy,yz,yA,yB,yC,yD,yE,yF,yG,yH,yI,yJ,yK,yL,yM,yN,yO,yP,Ci,Cj,Ck,.bool kP,yQ,yR,yS,Cm,Cn,Co,Cp,Cq,Cr,Cs,IR,Ct,Cu,Cv,Cw,Cx,Cy,Cz,CA,CB,CC,CD,CE,CF,CG,CH,CI,CJ,CK,CL,CM,CN,CO,CP,CQ,CR,CS,CU,CV,CW,CX,CY,CZ,C0,C1,C2,C3,C4,C5,C6,C7,C8,C9,C_,Da,Db,Dc,Dd],[]⟩ [.code (lY ((ed 22 ((dA (f118.body.getD .skip)).getD .skip)).getD .skip)),.inBlock 1,.inLoop ((dA (f118.body.getD .skip)).getD .skip),.inBlock 0,.code ((kR (f118.body.getD .skip)).getD .skip)]) (aY.at aF (.inRegion az (aI::aK)::aG)::csZ),w,mine⟩
end bM
namespace bM
open Conc ae
def amy:∀(L W S:Bool)(k:Nat),k<256->bits .and .i32 ((L.toNat+2*W.toNat+4*S.toNat+8*k:Nat):Int) 4=((4*S.toNat:Nat):Int):=by decide+kernel
def amz:∀(L W S:Bool)(k:Nat),k<256->bits .and .i32 ((L.toNat+2*W.toNat+4*S.toNat+8*k:Nat):Int) 5=((L.toNat+4*S.toNat:Nat):Int):=by decide+kernel
def amA:∀(L W S:Bool)(k:Nat),k<256->bits .and .i32 ((L.toNat+2*W.toNat+4*S.toNat+8*k:Nat):Int) 2=((2*W.toNat:Nat):Int):=by decide+kernel
def amB:∀(L W S:Bool)(k:Nat),k<256->bits .and .i32 ((L.toNat+2*W.toNat+4*S.toNat+8*k:Nat):Int) 1=((L.toNat:Nat):Int):=by decide+kernel
def amC:∀(L W S:Bool)(k:Nat),k<256->bits .and .i32 ((L.toNat+2*W.toNat+4*S.toNat+8*k:Nat):Int) 3=((L.toNat+2*W.toNat:Nat):Int):=by decide+kernel
def amD:∀(L W S:Bool)(k:Nat),k<256->bits .and .i32 ((L.toNat+2*W.toNat+4*S.toNat+8*k:Nat):Int) 7=((L.toNat+2*W.toNat+4*S.toNat:Nat):Int):=by decide+kernel
def amE:∀(L W S:Bool)(k:Nat),k<256->bits .or .i32 ((L.toNat+2*W.toNat+4*S.toNat+8*k:Nat):Int) 1=((1+2*W.toNat+4*S.toNat+8*k:Nat):Int):=by decide+kernel
def amF:∀(L W S:Bool)(k:Nat),k<256->bits .or .i32 ((L.toNat+2*W.toNat+4*S.toNat+8*k:Nat):Int) 2=((L.toNat+2+4*S.toNat+8*k:Nat):Int):=by decide+kernel
def amG:∀(L W S:Bool)(k:Nat),k<256->bits .or .i32 ((L.toNat+2*W.toNat+4*S.toNat+8*k:Nat):Int) 4=((L.toNat+2*W.toNat+4+8*k:Nat):Int):=by decide+kernel
def amH:∀(L W S:Bool)(k:Nat),k<256->bits .andNot .i32 ((L.toNat+2*W.toNat+4*S.toNat+8*k:Nat):Int) 2=((L.toNat+4*S.toNat+8*k:Nat):Int):=by decide+kernel
theorem IT(m:bh)(hk:m.k<256):bits .and .i32 (m.word:Int) 4=((4*m.S.toNat:Nat):Int):=by have:=amy m.L m.W m.S m.k hk;grind[bh.word]
def Y_(m:bh)(hk:m.k<256):bits .and .i32 (m.word:Int) 5=((m.L.toNat+4*m.S.toNat:Nat):Int):=by have:=amz m.L m.W m.S m.k hk;grind[bh.word]
theorem IU(m:bh)(hk:m.k<256):bits .and .i32 (m.word:Int) 2=((2*m.W.toNat:Nat):Int):=by have:=amA m.L m.W m.S m.k hk;grind[bh.word]
theorem RI(m:bh)(hk:m.k<256):bits .and .i32 (m.word:Int) 1=((m.L.toNat:Nat):Int):=by have:=amB m.L m.W m.S m.k hk;grind[bh.word]
theorem amI(m:bh)(hk:m.k<256):bits .and .i32 (m.word:Int) 3=((m.L.toNat+2*m.W.toNat:Nat):Int):=by have:=amC m.L m.W m.S m.k hk;grind[bh.word]
def Za(m:bh)(hk:m.k<256):bits .and .i32 (m.word:Int) 7=((m.L.toNat+2*m.W.toNat+4*m.S.toNat:Nat):Int):=by have:=amD m.L m.W m.S m.k hk;grind[bh.word]
def amJ(m:bh)(hk:m.k<256):bits .or .i32 (m.word:Int) 1=(({m with L:=true}:bh).word:Int):=by have:=amE m.L m.W m.S m.k hk;grind[bh.word]
def Zb(m:bh)(hk:m.k<256):bits .or .i32 (m.word:Int) 2=(({m with W:=true}:bh).word:Int):=by have:=amF m.L m.W m.S m.k hk;grind[bh.word]
def amK(m:bh)(hk:m.k<256):bits .or .i32 (m.word:Int) 4=(({m with S:=true}:bh).word:Int):=by have:=amG m.L m.W m.S m.k hk;grind[bh.word]
def RJ(m:bh)(hk:m.k<256):bits .andNot .i32 (m.word:Int) 2=(({m with W:=false}:bh).word:Int):=by have:=amH m.L m.W m.S m.k hk;grind[bh.word]
def amL(m:bh)(hk:m.k<256):IntKind.wrap .i32 ((m.word:Int)+8)=(({m with k:=m.k+1}:bh).word:Int):=by grind[Bool.toNat_le,IntKind.wrap_i32,bh.word]
def amM(m:bh)(hk:m.k<256)(a:m.L=true):IntKind.wrap .i32 ((m.word:Int)+ -1)=(({m with L:=false}:bh).word:Int):=by grind[Bool.toNat_le,IntKind.wrap_i32,bh.word]
def amN(m:bh)(hk:m.k<256)(h0:0<m.k):IntKind.wrap .i32 ((m.word:Int)-8)=(({m with k:=m.k-1}:bh).word:Int):=by grind[Bool.toNat_le,IntKind.wrap_i32,bh.word]
def amO(m:bh)(hk:m.k<256)(h0:0<m.k)(c:m.L=false)(a:m.S=true)(clear:Bool):IntKind.wrap .i32 ((m.word:Int)+(if clear then -11 else -7))=(({m with L:=true,k:=m.k-1,S:= !clear}:bh).word:Int):=by have b:m.W.toNat<=1:=vaw _;rw[IntKind.wrap_i32];unfold bh.word;grind
theorem IV(m:bh):(m.word:Int) / 8=(m.k:Int):=by grind[Bool.toNat_le,bh.word]
variable{cA it old:Int}{w:aH}
section
open RowKit Conc.Lib ConcR.Gen ConcM av bn
section
variable{A:e5}{Stop:Bool->ae.Lo A.ao->aV->Prop}{m:Bool}{mine:c5}
variable{aY:Frame}{aF:Act}{az:eQ}{aI:Nat}{aK:uag}{aG:uab}{csZ:fA}
def Behind(A:e5)(Stop:Bool->ae.Lo A.ao->aV->Prop)(m:Bool)(mine:c5)(aY:Frame)(aF:Act)(az:eQ)(aI:Nat)(aK:uag)(aG:uab)(csZ:fA)(f:Nat)(a:A.ao)(w:aH):Prop:=
 ∀w' ah,ai (ak A) mine w w'->bd (ak A) prog Stop m ⟨.own,true,0,f,a⟩ ah ⟨Conc.G (aY.at (aF.put ((az[aI]?).bind (·.dst)) (.tuple #[])) (.inRegion az aK::aG)) csZ,w',mine⟩
def amP(G:A.Good){f:Nat}{a:A.ao}{γ:ae.aM A.aN}{sv aw:Bool}(n:bits .and .i32 old 5=0)(j:¬A.left a)(l:Behind A Stop m mine aY aF az aI aK aG csZ f a w):
 vj A Stop m mine aY aF az aI aK aG csZ ⟨.own,false,1,f+2,a⟩ γ cA sv aw it old true w:=by
 unfold vj;intros
 have hF:=ai.refl (ak A) mine w;refine a8 G ?_;simp only[f118,vah,dA,kR,ed,lY,Nat.reduceBEq,vai,↓reduceIte];repeat w_go ai.trans
 refine dO U hF λc b i g d k h e hF=>?_;refine r5 G e Io (vbs .enable Ab U U Ad U func63 qv qw qx qy) U j (rZ (f1:=f+1) IY _) Ab U ?_;clear e h g b;refine a8 G ?_;walk_nrm
 repeat w_go ai.trans
 refine dO U hF λc b i g d k h e hF=>?_;refine lv (FE U U Ad U U (lu e.mt.1)) U U (.refl _) U U ?_;clear e h g b;refine a8 G ?_;walk_nrm
 repeat w_go ai.trans
 refine dO U hF λc b i g d k h e hF=>?_;refine PV G e (f1:=f) (vck .acquire Ab U U Ad U func76 FA FB FC FD BF) U j U U U IY ?_;clear e h g b;refine a8 G ?_;walk_nrm
 repeat w_go ai.trans
 u_leave0 func118 ai.trans hF
 repeat w_go ai.trans
 exact vaf (λc b=>⟨U,λi _=>l c i (ai.trans hF b)⟩)
end
end
open RowKit Conc.Lib ConcR.Gen ConcM av bn
def Mw(A:e5)(Stop:Bool->ae.Lo A.ao->aV->Prop)(m:Bool)(mine:c5)(aY:Frame)(aF:Act)(az:eQ)(aI:Nat)(aK:uag)(aG:uab)(csZ:fA)(l:ae.Lo A.ao)(γ:ae.aM A.aN)(cA:Int)(sv aw:Bool)(it old:Int)(w:aH):Prop:=
 ∀(cK qz e9 e_ fa fb fc fd qA qB fD fm fo fp iP fq f_ ga gb uT uU uV uW uX uY uZ u9 u_ va vb vc vd ve vf vg vh vi yh yi yj yk yl ym yn yo yp yq yr yt yu yv yw yx yy yz yA yB yC yD yE yF yG yH yI yJ yK yL yM yN yO yP Ci Cj Ck Cl yQ yR yS Cm Cn Co Cp Cq Cr Cs Ct Cu Cv Cw Cx Cy Cz CA CB CC CD CE CF CG CH CI CJ CK CL CM CN CO CP CQ CR CS CU CV CW CX CY CZ C0 C1 C2 C3 C4 C5 C6 C7 C8 C9 C_ Da Db Dc Dd:Value),bd (ak A) prog Stop m l γ ⟨Conc.G ((base 118).at ⟨#[.pointer (some (ae.fI A)),cK,.I cA,.bool sv,.bool aw,.I it,.int .i32 old,qz,e9,e_,fa,fb,fc,fd,qA,qB,fD,fm,fo,fp,iP,fq,f_,ga,gb,uT,uU,uV,uW,uX,uY,uZ,u9,u_,va,vb,vc,vd,ve,vf,vg,vh,vi,yh,yi,yj,yk,yl,ym,yn,yo,yp,yq,yr,yt,yu,yv,yw,yx,yy,yz,yA,yB,yC,yD,yE,yF,yG,yH,yI,yJ,yK,yL,yM,yN,yO,yP,Ci,Cj,Ck,Cl,yQ,yR,yS,Cm,Cn,Co,Cp,Cq,Cr,Cs,.pointer (some (ae.kL A)),Ct,Cu,Cv,Cw,Cx,Cy,Cz,CA,CB,CC,CD,CE,CF,CG,CH,CI,CJ,CK,CL,CM,CN,CO,CP,CQ,CR,CS,CU,CV,CW,CX,CY,CZ,C0,C1,C2,C3,C4,C5,C6,C7,C8,C9,C_,Da,Db,Dc,Dd],[]⟩ [.inRegion (pI ((ed 27 ((dA (f118.body.getD .skip)).getD .skip)).getD .skip)) [4],.code (lY ((ed 27 ((dA (f118.body.getD .skip)).getD .skip)).getD .skip)),.inBlock 1,.inLoop ((dA (f118.body.getD .skip)).getD .skip),.inBlock 0,.code ((kR (f118.body.getD .skip)).getD .skip)]) (aY.at aF (.inRegion az (aI::aK)::aG)::csZ),w,mine⟩
def Zc(A:e5)(Stop:Bool->ae.Lo A.ao->aV->Prop)(m:Bool)(mine:c5)(aY:Frame)(aF:Act)(az:eQ)(aI:Nat)(aK:uag)(aG:uab)(csZ:fA)(l:ae.Lo A.ao)(γ:ae.aM A.aN)(cA:Int)(sv aw:Bool)(it old:Int)(w:aH):Prop:=
 jG [.code (lY ((ed 27 ((dA (f118.body.getD .skip)).getD .skip)).getD .skip)),.inBlock 1,.inLoop ((dA (f118.body.getD .skip)).getD .skip),.inBlock 0,.code ((kR (f118.body.getD .skip)).getD .skip)] A Stop m mine aY aF az aI aK aG csZ l γ cA sv aw it old w
section
variable{A:e5}{Stop:Bool->ae.Lo A.ao->aV->Prop}{m:Bool}{mine:c5}
variable{aY:Frame}{aF:Act}{az:eQ}{aI:Nat}{aK:uag}{aG:uab}{csZ:fA}
theorem amQ(G:A.Good){l:ae.Lo A.ao}{γ:ae.aM A.aN}{sv aw:Bool}(e:∀w' c,(c=γ\/c.a4<γ.a4)->ai (ak A) mine w w'->g8 (ak A) l c->pJ A Stop m mine aY aF az aI aK aG csZ l c cA sv aw it (c.mu.word:Int) w'):
 vj A Stop m mine aY aF az aI aK aG csZ l γ cA sv aw it old false w:=by
 unfold vj;intros
 unfold pJ jG at e;have hF:=ai.refl (ak A) mine w;refine a8 G ?_;simp only[f118,vah,dA,kR,ed,lY,Nat.reduceBEq,vai,↓reduceIte]at e⊢;repeat w_go ai.trans
 refine dO U hF λb a o h g f i d hF=>?_;have j:f=γ\/f.a4<γ.a4:=by
  rcases h with rfl|⟨q,_⟩<;>rcases i with rfl|⟨p,_⟩
  .simp_all
  .simp_all
  .simp_all
  omega
 have k:=d.sees;refine lv (Al U U Ad U U (lu d.mt.1) IQ) U U (.refl _) U U ?_;clear d i h a;refine a8 G ?_;walk_nrm
 repeat w_nl ai.trans
 u_c stepG_inLoop ai.trans hF
 exact vaf (λb a=>⟨U,λo n=>(e b f j (ai.trans hF a) k ..).kG (df G) n⟩)
def amR(G:A.Good){l:ae.Lo A.ao}{γ:ae.aM A.aN}{sv aw:Bool}(s:(bits .and .i32 old 5==0)=false)(d:∀w' h j,(ak A).dH l γ h->ai (ak A) mine w w'->Mw A Stop m mine aY aF az aI aK aG csZ l h j sv aw it old w'):
 vj A Stop m mine aY aF az aI aK aG csZ l γ cA sv aw it old true w:=by
 unfold vj;intros
 unfold Mw at d;have hF:=ai.refl (ak A) mine w;simp only[f118,vah,dA,kR,ed,lY,pI,Nat.reduceBEq,vai,↓reduceIte]at d⊢;by_cases k:cA=0
 .subst k;refine a8 G ?_;repeat w_go ai.trans
  refine dO U hF λc a e g b r i n hF=>?_;have o:=(df G).trans _ _ _ _ g i;refine lv (stepG_nanotime U U Ad U func138 YV YW YX YY Y2) U U ⟨_,U⟩ U U ?_;replace hF:=ai.trans hF (⟨λ_ _=>U,vad _,⟨_,U⟩,U,U⟩:ai (ak A) mine b b.later);clear n i g a;generalize((b.os.mono+b.tick:Nat):Int)=aZ;refine a8 G ?_;walk_nrm
  repeat w_go ai.trans
  exact vaf (λc a=>⟨U,λe f=>d c e _ ((df G).trans _ _ _ _ o f) (ai.trans hF a) ..⟩)
 .have p:(cA==0)=false:=by simp_all
  have q:(cA != 0)=true:=BB;refine a8 G ?_;repeat w_go ai.trans
  exact vaf (λc a=>⟨U,λe f=>d c e _ f (ai.trans hF a) ..⟩)
end
def Df(A:e5)(Stop:Bool->ae.Lo A.ao->aV->Prop)(m:Bool)(mine:c5)(aY:Frame)(aF:Act)(az:eQ)(aI:Nat)(aK:uag)(aG:uab)(csZ:fA)(l:ae.Lo A.ao)(γ:ae.aM A.aN)(cA:Int)(sv aw:Bool)(it old:Int)(w:aH):Prop:=
 jG [.code (lY ((ed 29 ((dA (f118.body.getD .skip)).getD .skip)).getD .skip)),.inBlock 1,.inLoop ((dA (f118.body.getD .skip)).getD .skip),.inBlock 0,.code ((kR (f118.body.getD .skip)).getD .skip)] A Stop m mine aY aF az aI aK aG csZ l γ cA sv aw it old w
section
variable{A:e5}{Stop:Bool->ae.Lo A.ao->aV->Prop}{m:Bool}{mine:c5}
variable{aY:Frame}{aF:Act}{az:eQ}{aI:Nat}{aK:uag}{aG:uab}{csZ:fA}
def Zd(G:A.Good){l:ae.Lo A.ao}{γ:ae.aM A.aN}{sv aw:Bool}(i:∀w' h q,(h=γ\/h.a4<γ.a4)->ai (ak A) mine w w'->g8 (ak A) l h->Df A Stop m mine aY aF az aI aK aG csZ l h cA q aw it (h.mu.word:Int) w'):
 Zc A Stop m mine aY aF az aI aK aG csZ l γ cA sv aw it old w:=by
 unfold Zc jG;intros
 unfold Df jG at i;have hF:=ai.refl (ak A) mine w;simp only[f118,vah,dA,kR,ed,lY,Nat.reduceBEq,vai,↓reduceIte]at i⊢;cases sv with
 |true=>
  refine a8 G ?_;repeat w_go ai.trans
  refine dO U hF λb a j e c p f d hF=>?_;have k:=(df G).less _ _ _ ((df G).trans _ _ _ _ e f);have n:=d.sees;refine lv (Al U U Ad U U (lu d.mt.1) IQ) U U (.refl _) U U ?_;clear d f e a;refine a8 G ?_;walk_nrm
  u_op ai.trans hF
  u_c vdn ai.trans hF
  exact vaf (λb a=>⟨U,λj g=>(i b p _ k (ai.trans hF a) n ..).kG (df G) g⟩)
 |false=>
  refine a8 G ?_;repeat w_go ai.trans
  refine dO U hF λb a j e c p f d hF=>?_;have g:=(df G).trans _ _ _ _ e f;refine lv (stepG_nanotime U U Ad U func138 YV YW YX YY Y2) U U ⟨_,U⟩ U U ?_;replace hF:=ai.trans hF (⟨λ_ _=>U,vad _,⟨_,U⟩,U,U⟩:ai (ak A) mine c c.later);clear d f e a;generalize((c.os.mono+c.tick:Nat):Int)=aZ;refine a8 G ?_;walk_nrm
  repeat w_go ai.trans
  refine dO U hF λb a j e o r f d hF=>?_;have k:=(df G).less _ _ _ ((df G).trans _ _ _ _ g ((df G).trans _ _ _ _ e f));have n:=d.sees;refine lv (Al U U Ad U U (lu d.mt.1) IQ) U U (.refl _) U U ?_;clear d f e a;refine a8 G ?_;walk_nrm
  u_op ai.trans hF
  u_c vdn ai.trans hF
  exact vaf (λb a=>⟨U,λj g=>(i b r _ k (ai.trans hF a) n ..).kG (df G) g⟩)
def amS(G:A.Good){l:ae.Lo A.ao}{γ:ae.aM A.aN}{sv aw:Bool}(e:bits .and .i32 old 4=0)(c:∀w',ai (ak A) mine w w'->pJ A Stop m mine aY aF az aI aK aG csZ l γ cA sv true 0 old w'):
 Df A Stop m mine aY aF az aI aK aG csZ l γ cA sv aw it old w:=by
 unfold Df jG;intros
 unfold pJ jG at c;have hF:=ai.refl (ak A) mine w;simp only[f118,vah,dA,kR,ed,lY,Nat.reduceBEq,vai,↓reduceIte]at c⊢;refine a8 G ?_;repeat w_nl ai.trans
 u_c stepG_inLoop ai.trans hF
 exact vaf (λa b=>⟨U,λf d=>(c a (ai.trans hF b) ..).kG (df G) d⟩)
