import Derived.Test.YtcjlmniddnnieaaGreatPAP
import Derived.Test.YtcjlmniddnnieaaGreatPAR
set_option linter.all false
set_option maxRecDepth 100000
set_option maxHeartbeats 16000000
namespace Go.Proofs.YtcjlmniddnnieaaGreat
open Tryz
namespace aK
open Conc ConcM RowKit au bn cC c5
structure a4 where
 R:aH->Value->Prop
 iI:uP R
 ok:Nat->Prop
 ii:∀n,ok n->kf n R
def K0(n:Nat):List (Nat×a4)->Prop
 | []=>True
 |p::l=>p.2.ok n/\K0 n l
abbrev bF:=Nat->Option a4
def up(K:bF)(s:Nat)(F:a4):bF:=λi=>if i=s then some F else K i
def aW:List (Nat×a4)->bF
 | [],_=>none
 |p::l,s=>if s=p.1 then some p.2 else aW l s
structure ah(N:Nat)(K:bF)(a:Act)(w:aH):Prop where
 size:a.tmps.size=N
 has:∀s F,K s=some F->∃v,a.tmps[s]?=some v/\F.R w v
def O6(K:bF):List (Nat×a4)->Prop
 | []=>True
 |p::l=>K p.1=some p.2/\O6 K l
theorem yH{K:bF}:∀{l:List (Nat×a4)},O6 K l->∀s F,aW l s=some F->K s=some F
 | [],_,_,_,h=>by cases h
 |p::l,hi,s,F,h=>by
  unfold aW at h;split at h
  .rename_i e;rw[e,<-h];exact hi.1
  .exact yH hi.2 s F h
theorem fc{n:Nat}:∀{l:List (Nat×a4)},K0 n l->∀s F,aW l s=some F->F.ok n
 | [],_,_,_,h=>by cases h
 |p::l,hi,s,F,h=>by
  unfold aW at h;split at h
  .cases h;exact hi.1
  .exact fc hi.2 s F h
section
variable{N:Nat}{K K':bF}{a:Act}{w w1:aH}
def ah.sub(h:ah N K a w)(hs:∀s F,K' s=some F->K s=some F):ah N K' a w:=⟨h.size,λs F e=>h.has s F (hs s F e)⟩
def ah.a7{l:List (Nat×a4)}(h:ah N K a w)(hs:O6 K l):ah N (aW l) a w:=h.sub (yH hs)
theorem ah.iI(h:ah N K a w)(b:cy w w1):ah N K a w1:=⟨h.size,λs F e=>by
 obtain⟨v,d,c⟩:=h.has s F e;exact⟨v,d,F.iI _ _ _ b c⟩⟩
theorem ah.put(h:ah N K a w){s:Nat}(hs:s<N)(b:cy w w1){F:a4}{v:Value}(hv:F.R w1 v):ah N (up K s F) (a.put (some s) v) w1:=by
 refine⟨Is,λi G e=>?_⟩;unfold up at e;split at e
 .rename_i hi;cases e;subst hi;exact⟨v,kS (by rw[h.size];exact hs),hv⟩
 .rename_i hi;obtain⟨x,d,c⟩:=h.has i G e;exact⟨x,(dV (Ne.symm hi)).trans d,G.iI _ _ _ b c⟩
def kT(n:Nat)(hok:∀s F,K s=some F->F.ok n):qx n (ah N K):=by intro ρ a a' w w' d b h;refine⟨by rw[<-b.size];exact h.size,λs F e=>?_⟩;obtain⟨v,j,i⟩:=h.has s F e;obtain⟨c,g,f⟩:=b.some j;exact⟨c,g,F.ii _ (hok s F e) _ _ _ _ _ d f i⟩
end
def bg(K:bF):Operand->a4->Prop
 | .tmp s,F=>K s=some F
 | .const v,F=>∀w,F.R w v
 | _,_=>False
def ah.ev{N:Nat}{K:bF}{a:Act}{w:aH}(h:ah N K a w){x:uau}{F:a4}(b:bg K x F):F.R w (a.eval x):=by
 cases x with
 |tmp s=>obtain⟨v,d,c⟩:=h.has s F b;grind[c2]
 |const v=>exact b w
 | _=>exact b.elim
def Ab(P:cf)(o:Oper)(F:a4)(a:Act)(w:aH):Prop:=
 (∃v w1,(execOp a.eval o).run P w=.ok (.value v) w1/\F.R w1 v/\cy w w1)\/∃f args,(execOp a.eval o).run P w=.ok (.enter f args) w/\Calls P f args w λe w'=>∃v,e=.returned v/\F.R w' v/\cy w w'
def bD(P:cf)(N:Nat)(K:bF)(o:Oper)(F:a4):Prop:=∀a w,ah N K a w->Ab P o F a w
def yG{P:cf}{ops:fC}{i s:Nat}{o:Oper}{F:a4}{a:Act}{w:aH}(e:ops[i]?=some o)(d:veg o ops a.tmps=true)(hd:o.dst=some s)(h:Ab P o F a w):wpOps P ops (kE λa1 w1=>(∃v,a1=a.put (some s) v/\F.R w1 v)/\cy w w1) [i] a w:=by
 rcases h with⟨v,w1,c,b,g⟩|⟨f,args,c,b⟩
 .grind[yM]
 .refine auS e d hd c (b.mono ?_);grind
def a9(n:Int):a4:=⟨eA (.I n),uP.eq _,λ_=>True,λ_ _=>By _ _⟩
def eB(b:Bool):a4:=⟨eA (.bool b),uP.eq _,λ_=>True,λ_ _=>auP _⟩
def lL:a4:=⟨eA undef,uP.eq _,λ_=>True,λ_ _=>auQ⟩
def qz(v:Value):a4:=⟨eA v,uP.eq _,λ_=>False,λ_ h=>h.elim⟩
def tz(ops:fC)(K:bF)(o:Oper)(c:Bool):Prop:=
 match o.guard with
 |none=>c=true
 |some (g,b)=>∃d,(ops[g]?).bind (·.dst)=some d/\((∃x,K d=some (eB x)/\c=(x==b))\/K d=some lL/\c=false)
def tz.is{ops:fC}{K:bF}{o:Oper}{c:Bool}{N:Nat}{a:Act}{w:aH}(h:tz ops K o c)(hk:ah N K a w):veg o ops a.tmps=c:=by
 unfold tz at h;split at h
 .grind[xW]
 .rename_i g b e;obtain⟨d,k,⟨x,j,rfl⟩|⟨j,rfl⟩⟩:=h
  .obtain⟨v,i,f⟩:=hk.has d _ j;cases f;exact auT e k i
  .obtain⟨v,i,f⟩:=hk.has d _ j;cases f;exact auU e k i
def O7(P:cf)(N:Nat)(ops:fC)(K:bF)(o:Oper)(F:a4):Prop:=(tz ops K o true/\bD P N K o F)\/(tz ops K o false/\F=lL)
theorem O7.step{P:cf}{N:Nat}{ops:fC}{K:bF}{o:Oper}{F:a4}(h:O7 P N ops K o F){a:Act}{w:aH}{i s:Nat}(hk:ah N K a w)(c:ops[i]?=some o)(hd:o.dst=some s):wpOps P ops (kE λa1 w1=>(∃v,a1=a.put (some s) v/\F.R w1 v)/\cy w w1) [i] a w:=by
 rcases h with⟨b,d⟩|⟨b,rfl⟩
 .exact yG c (b.is hk) hd (d a w hk)
 .exact yK c (b.is hk) hd ⟨⟨undef,Y,Y⟩,vaa _ _⟩
def wJ(P:cf)(N:Nat)(ops:fC):List Oper->bF->bF->Prop
 | [],K,K'=>K=K'
 |o::l,K,K'=>∃d,o.dst=some d/\d<N/\∃F,O7 P N ops K o F/\wJ P N ops l (up K d F) K'
def aE{P:cf}{N:Nat}{ops:fC}{o:Oper}{l:ubi}{K K':bF}{d:Nat}{F:a4}(hd:o.dst=some d)(a:bD P N K o F)(h:wJ P N ops l (up K d F) K')(hg:o.guard=none:=by rfl)(a3:d<N:=by decide):wJ P N ops (o::l) K K':=⟨d,hd,a3,F,.inl ⟨J_,a⟩,h⟩
def dD{P:cf}{N:Nat}{ops:fC}{o:Oper}{l:ubi}{K K':bF}{d g t:Nat}{b:Bool}{F:a4}(hd:o.dst=some d)(a:bD P N K o F)(h:wJ P N ops l (up K d F) K')(a3:d<N:=by decide)(hg:o.guard=some (g,b):=by rfl)(ht:(ops[g]?).bind (·.dst)=some t:=by rfl)(hk:K t=some (eB b):=by rfl):wJ P N ops (o::l) K K':=⟨d,hd,a3,F,.inl ⟨J_,a⟩,h⟩
def Ac{P:cf}{N:Nat}{ops:fC}{o:Oper}{l:ubi}{K K':bF}{d g t:Nat}{b c:Bool}(hd:o.dst=some d)(h:wJ P N ops l (up K d lL) K')(a3:d<N:=by decide)(hg:o.guard=some (g,b):=by rfl)(ht:(ops[g]?).bind (·.dst)=some t:=by rfl)(hk:K t=some (eB c):=by rfl)(a:(c==b)=false:=by rfl):wJ P N ops (o::l) K K':=⟨d,hd,a3,lL,.inr ⟨J_,Y⟩,h⟩
theorem O8{P:cf}{N:Nat}{ops:fC}{Q:ual}{rest:uad}:∀{l:ubi}{i:Nat}{K K':bF}{a:Act}{w:aH},wJ P N ops l K K'->(∀j o,l[j]?=some o->ops[i+j]?=some o)->ah N K a w->(∀a' w',ah N K' a' w'->a'.defers=a.defers->cy w w'->wpOps P ops Q rest a' w')->wpOps P ops Q (List.range' i l.length++rest) a w
 | [],i,K,K',a,w,h,_,hk,k=>by cases h;grind[Below.refl]
 |o::l,i,K,K',a,w,⟨d,hd,a3,F,c,h⟩,hi,hk,k=>by rw[vdl,vdk,List.cons_append];refine i_ (c.step hk (hi 0 o Y) hd) ?_;rintro a1 w1 ⟨⟨v,rfl,hv⟩,b⟩;refine O8 h (λj o' m=>by have:=hi (j+1) o' AJ;grind) (hk.put a3 b hv) λa' w' g f e=>k a' w' g (f.trans (put_defers _ _ _)) (b.trans (e.mono b.size))
def gg{P:cf}{N id:Nat}{ops:fC}{ks ks':uaa}{Q:uag}{K K':bF}{a:Act}{w:aH}(hk:ah N K a w)(h:wJ P N ops ops.toList K K')(k:∀a' w',ah N K' a' w'->a'.defers=a.defers->cy w w'->b8 P ks ks' Q a' w'):b8 P (.code (.region id ops false)::ks) ks' Q a w:=by refine O5 (n:=ops.toList.length) AQ ?_;rw[<-vde (List.range' 0 ops.toList.length)];grind[O8,qy]
def xY(K:bF)(ops:fC)(acc:bF)(o:Oper):bF:=λs=>
 match o.after.toList.find? (λe=>Region.binds .any e&&((ops[e.on]?).bind (·.dst)==some s))with
 |some e=>acc e.on
 |none=>K s
def Ad(oN:Nat->Oper->Option Nat)(bx:uaz)(X:Nat->bF->Oper->a4->Prop)(N:Nat):List Oper->Nat->bF->bF->bF->Prop
 | [],_,_,hQ,K'=>hQ=K'
 |o::l,j,acc,hQ,K'=>∃d,oN j o=some d/\d<N/\∃F,X j acc o F/\Ad oN bx X N l (j+1) (up acc j F) (if bx j then up hQ d F else hQ) K'
abbrev Hk(P:cf)(N:Nat)(ops:fC)(K:bF):List Oper->Nat->bF->bF->bF->Prop:=Ad (λ_ o=>o.dst) (λ_=>true) (λ_ acc o=>O7 P N ops (xY K ops acc o) o) N
section
variable{P:cf}{N:Nat}{ops:fC}{K:bF}{o:Oper}{l:ubi}{j:Nat}{acc hQ K':bF}{d:Nat}{F:a4}
def dq(hd:o.dst=some d)(a:bD P N (xY K ops acc o) o F)(h:Hk P N ops K l (j+1) (up acc j F) (up hQ d F) K')(hg:o.guard=none:=by rfl)(a3:d<N:=by decide):Hk P N ops K (o::l) j acc hQ K':=⟨d,hd,a3,F,.inl ⟨J_,a⟩,h⟩
def rC{g t:Nat}{b:Bool}(hd:o.dst=some d)(a:bD P N (xY K ops acc o) o F)(h:Hk P N ops K l (j+1) (up acc j F) (up hQ d F) K')(a3:d<N:=by decide)(hg:o.guard=some (g,b):=by rfl)(ht:(ops[g]?).bind (·.dst)=some t:=by rfl)(hk:xY K ops acc o t=some (eB b):=by rfl):Hk P N ops K (o::l) j acc hQ K':=⟨d,hd,a3,F,.inl ⟨J_,a⟩,h⟩
theorem Ad.all{oN:Nat->Oper->Option Nat}{f:uaz}{X:Nat->bF->Oper->a4->Prop}:∀{l:ubi}{j:Nat}{acc hQ:bF},Ad oN f X N l j acc hQ K'->∃cW:Nat->a4,(∀i o,l[i]?=some o->∃d,oN (j+i) o=some d/\d<N/\X (j+i) (λs=>if j<=s/\s<j+i then some (cW s)else acc s) o (cW (j+i)))/\∀s F,K' s=some F->(∃i o,l[i]?=some o/\oN (j+i) o=some s/\F=cW (j+i)/\f (j+i)=true)\/hQ s=some F
 | [],j,acc,hQ,h=>by cases h;exact⟨λ_=>lL,λi o hi=>AJ,λs F h=>.inr h⟩
 |o::l,j,acc,hQ,⟨d,hd,a3,F,t,h⟩=>by
  obtain⟨cW,q,p⟩:=Ad.all h;refine⟨λs=>if s=j then F else cW s,λi o' hi=>?_,λs G n=>?_⟩
  .cases i with
   |zero=>simp at hi;subst hi;refine⟨d,hd,a3,?_⟩;have e:(λs=>if j<=s/\s<j+0 then some (if s=j then F else cW s)else acc s)=acc:=funext λs=>vbt AP;grind
   |succ i=>
    have a:j+1+i=j+(i+1):=AP;obtain⟨r,c,b,m⟩:=q i o' AJ;refine⟨r,a▸c,b,?_⟩;have e:(λs=>if j<=s/\s<j+(i+1)then some (if s=j then F else cW s)else acc s)=(λs=>if j+1<=s/\s<j+1+i then some (cW s)else up acc j F s):=funext λs=>by grind[up]
    grind
  .rcases p s G n with⟨i,o',c,b,m,g⟩|k
   .have a:j+1+i=j+(i+1):=by omega
    exact .inl ⟨i+1,o',AJ,a▸b,AJ,a▸g⟩
   .split at k
    .unfold up at k;split at k
     .rename_i hk e;cases k;exact .inl ⟨0,o,Y,AJ,AQ,hk⟩
     grind
    .exact .inr k
end
def pD(n i:Nat):Array Bool:=((List.range n).map λj=>decide (j<i)).toArray
def auW{n i j:Nat}(h:j<n):(pD n i).getD j false=decide (j<i):=by simp[pD,Array.getD,h]
theorem yE{n i:Nat}(h:i<n):(pD n i).setIfInBounds i true=pD n (i+1):=by
 apply vcp;intro j;rw[vam];by_cases e:i=j
 .grind[pD]
 .rw[vbt e];grind[pD]
theorem auX{n:Nat}:∀{m:Nat},m<=n->(pD n m).toList.count false=n-m:=by
 have key:∀k m,m<=n->n-m=k->(pD n m).toList.count false=k:=by intro k;induction k with|zero=>grind[List.count_eq_zero,pD]|succ k a=>intro m d c;have b:=count_set (aq:=pD n m) (i:=m) (by simp[pD,Array.getD];omega);grind[yE]
 grind
structure Hl(N:Nat)(ops:fC)(K:bF)(cW:Nat->a4)(aq:uar)(a:Act)(w:aH):Prop where
 len:aq.size=ops.size
 base:ah N K a w
 val:∀(j:Nat) o d,ops[j]?=some o->o.dst=some d->aq.getD j false=true->∃v,a.tmps[d]?=some v/\(cW j).R w v
structure K1(N m:Nat)(ops:fC)(K:bF)(cW:Nat->a4)(D:List Deferred)(rD:aH)(aq:uar)(a:Act)(w:aH):Prop extends Hl N ops K cW aq a w where
 defers:a.defers=D
 VQ:cy rD w
 most:∀j,aq.getD j false=true->j<m
 down:∀(j:Nat) o,ops[j]?=some o->aq.getD j false=true->∀e∈o.after,Region.binds .any e=true->aq.getD e.on false=true
def Hl.env{N:Nat}{ops:fC}{K:bF}{cW:Nat->a4}{aq:uar}{a:Act}{w:aH}(h:Hl N ops K cW aq a w){o:Oper}{acc:bF}(g:∀s F,acc s=some F->F=cW s)(f:∀e∈o.after,Region.binds .any e=true->aq.getD e.on false=true):ah N (xY K ops acc o) a w:=by
 refine⟨h.base.size,λs F e=>?_⟩;unfold xY at e;split at e
 .rename_i x c;have b:=List.find?_some c;have i:=List.mem_of_find?_eq_some c;simp at b;have hF:=g _ _ e;subst hF;cases d:ops[x.on]? with|none=>grind|some o'=>simp[d]at b;exact h.val _ o' s d b.2 (f x AJ b.1)
 .exact h.base.has s F e
theorem Hl.put{N:Nat}{ops:fC}{K:bF}{cW:Nat->a4}{aq:uar}{a:Act}{w w1:aH}(h:Hl N ops K cW aq a w){j:Nat}{o:Oper}{d:Nat}(q:ops[j]?=some o)(hd:o.dst=some d)(a3:d<N)(hK:K d=none)(p:∀i o',ops[i]?=some o'->o'.dst=some d->aq.getD i false=true->i=j)(l:cy w w1){v:Value}(hv:(cW j).R w1 v):Hl N ops K cW (aq.setIfInBounds j true) (a.put (some d) v) w1:=by
 have r:j<aq.size:=G9;refine⟨Fc,⟨by rw[gY];exact h.base.size,λs F e=>?_⟩,λi o' m c f n=>?_⟩
 .obtain⟨x,k,g⟩:=h.base.has s F e;have b:d≠s:=λx=>AJ;exact⟨x,(dV b).trans k,F.iI _ _ _ l g⟩
 .by_cases e:i=j
  .subst e;rw[q]at c;cases c;rw[hd]at f;cases f;exact⟨v,kS (by rw[h.base.size];exact a3),hv⟩
  .have hi:=((sq r).1 n).resolve_left e;obtain⟨x,k,g⟩:=h.val i o' m c f hi;have b:d≠m:=λx=>by subst x;exact e (p i o' c f hi)
   exact⟨x,(dV b).trans k,(cW i).iI _ _ _ l g⟩
def BA(ops:fC)(j i:Nat):Bool:=match ops[j]? with|some o=>o.after.any λe=>Region.binds .any e&&e.on==i|none=>false
def qA(K:bF)(l:ubi):Bool:=l.all λo=>match o.dst with|some d=>(K d).isNone|none=>true
def O9(ops:fC)(m:Nat):Bool:=
 decide (m<=ops.size)&&
 ((List.range m).all λi=>(List.range m).all λj=>i==j||(ops[i]?).bind (·.dst) != (ops[j]?).bind (·.dst))&&
 ((List.range m).all λi=>m==ops.size||(List.range (m+1)).any λj=>decide (i<j)&&BA ops j i)&&
 ((List.range ops.size).all λj=>decide (j<=m)||(List.range ops.size).any λe=>decide (m<=e)&&BA ops j e)&&
 ((List.range ops.size).all λj=>match ops[j]? with|some o=>o.after.all λe=> !Region.binds .any e||decide (e.on<j)|none=>true)&&
 ((List.range (ops.size+1)).all λj=>decide (j<m)||Region.ready .any ops (pD ops.size j)==if j<ops.size then [j]else [])
section
variable{ops:fC}{m:Nat}
structure Shape(ops:fC)(m:Nat):Prop where
 le:m<=ops.size
 one:∀(i j:Nat) o o' d,i<m->j<m->ops[i]?=some o->ops[j]?=some o'->o.dst=some d->o'.dst=some d->i=j
 auY:m<ops.size->∀i,i<m->∃j,i<j/\j<=m/\BA ops j i=true
 far:∀j,j<ops.size->m<j->∃e,m<=e/\BA ops j e=true
 Ae:(List.range ops.size).all (λj=>match ops[j]? with|some o=>o.after.all λe=> !Region.binds .any e||decide (e.on<j)|none=>true)=true
 next:∀j,m<=j->j<=ops.size->Region.ready .any ops (pD ops.size j)=if j<ops.size then [j]else []
theorem Shape.of(h:O9 ops m=true):Shape ops m:=by
 unfold O9 at h;simp only[vah,List.all_eq_true,List.mem_range,Bool.or_eq_true,decide_eq_true_eq,beq_iff_eq,bne_iff_ne,List.any_eq_true]at h;obtain⟨⟨⟨⟨⟨c,k⟩,g⟩,f⟩,q⟩,p⟩:=h;refine⟨c,λi j o o' d hi b e l hd n=>?_,λa i hi=>?_,λj b a=>?_,?_,λj a b=>?_⟩
 .grind
 .grind
 .grind
 .grind
 grind
def VS{j i:Nat}(h:BA ops j i=true):∃o,ops[j]?=some o/\∃e∈o.after,Region.binds .any e=true/\e.on=i:=by grind[BA]
variable{P:cf}{N:Nat}{K K':bF}{cW:Nat->a4}{D:List Deferred}{rD:aH}{aq:uar}{a:Act}{w w1:aH}{Q:ual}
theorem K1.put(h:K1 N m ops K cW D rD aq a w)(hK:qA K (ops.toList.take m)=true)(hS:Shape ops m){j:Nat}{o:Oper}{d:Nat}(g:j<m)(k:ops[j]?=some o)(hd:o.dst=some d)(a3:d<N)(s:∀e∈o.after,Region.binds .any e=true->aq.getD e.on false=true)(l:cy w w1){v:Value}(hv:(cW j).R w1 v):K1 N m ops K cW D rD (aq.setIfInBounds j true) (a.put (some d) v) w1:=by
 have c:j<aq.size:=G9;refine⟨h.toHl.put k hd a3 (by cases r:K d with|none=>rfl|some F=>grind[qA,List.mem_take_iff_getElem]) (λi o' f p b=>hS.one i j o' o _ (h.most i b) g f k p hd) l hv,Iq,h.VQ.trans (l.mono h.VQ.size),λi hi=>?_,λi o' f b e n q=>?_⟩
 .rcases(sq c).1 hi with rfl|hi
  .grind
  .exact h.most i hi
 .refine(sq c).2 (.inr ?_);rcases(sq c).1 b with rfl|hi
  .grind
  .exact h.down i o' f hi e n q
theorem yv(hS:Shape ops m):∀(k j fuel:Nat)(a:Act)(w:aH),m<=j->j+k=ops.size->k<=fuel->wpOps P ops Q (List.range' j k) a w->wpAny P .any ops Q fuel (pD ops.size j) a w
 |0,j,fuel,a,w,c,d,_,h=>by have b:=hS.next j c AP;rw[vbt AP]at b;cases fuel with|zero=>exact⟨b,h⟩|succ fuel=>exact⟨λ_=>h,λi hi=>AJ⟩
 |k+1,j,fuel,a,w,c,d,l,h=>by have b:=hS.next j c AP;rw[vbz AP]at b;obtain⟨fuel,rfl⟩:∃f,fuel=f+1:=⟨fuel-1,AP⟩;refine⟨λe=>(by rw[b]at e;cases e),λi hi=>?_⟩;rw[b]at hi;simp at hi;subst hi;rw[vdk,wpOps_cons]at h;rw[yE AP];exact wpOp_mono (λa w g=>yv hS k (i+1) fuel a w AP AP AP g) h
def au0{id:Nat}{l:Act}(h:Hk P N ops K (ops.toList.take m) 0 (λ_=>none) K K')(hk:ah N K l rD)(hK:qA K (ops.toList.take m)=true)(S:P.follows .mixedOrders=true)(U:O9 ops m=true)(k:∀a' w',ah N K' a' w'->a'.defers=l.defers->cy rD w'->wpOps P ops Q (List.range' m (ops.size-m)) a' w'):(Code.region id ops true).wp P Q l rD:=by
 have hS:=Shape.of U;obtain⟨cW,u,t⟩:=Ad.all h;refine wp_region_any S ?_;have e6:∀fuel(aq:uar) a w,aq.toList.count false<=fuel->K1 N m ops K cW l.defers rD aq a w->(∀j,j<m->aq.getD j false=true)->wpAny P .any ops Q fuel aq a w:=λfuel aq a w W h A=>by
  have e:aq=pD ops.size m:=by
   apply Array.ext (by rw[h.len];simp[pD]);intro j u t;have Z:(pD ops.size m).getD j false=decide (j<m):=auW (by rw[<-h.len];exact u);have Y:aq.getD j false=decide (j<m):=by
    by_cases c:j<m
    .grind
    .cases r:aq.getD j false with|false=>grind|true=>exact absurd (h.most j r) c
   simp_all
  subst e;refine yv hS (ops.size-m) m fuel a w Kj (by have:=hS.le;omega) (by grind[auX]) (k a w ⟨h.base.size,λs F e=>?_⟩ h.defers h.VQ);rcases t s F e with⟨i,o,V,M,rfl,-⟩|k
  .rw[vce];have H:ops[i]?=some o/\i<m:=by grind
   exact h.val i o s H.1 M (A i H.2)
  .exact h.base.has s F k
 have key:∀(fuel:Nat)(aq:uar)(a:Act)(w:aH),aq.toList.count false<=fuel->K1 N m ops K cW l.defers rD aq a w->wpAny P .any ops Q fuel aq a w:=by
  intro fuel;induction fuel with
  |zero=>
   intro aq a w J h;refine e6 0 aq a w J h λj c=>?_;have:¬aq.getD j true=false:=λe=>by grind[count_set]
   have:j<aq.size:=by rw[h.len];have:=hS.le;omega
   grind
  |succ fuel O=>
   intro aq a w J h;by_cases A:∀j,j<m->aq.getD j false=true
   .grind
   have step:∀i,i∈Region.ready .any ops aq->i<m:=λi hi=>by
    obtain⟨g1,o,g,y⟩:=mem_ready.1 hi;apply vap;intro q;have p:i<ops.size:=(vaj.1 g).1;rcases vcf m i with n|n
    .obtain⟨e,X,T⟩:=hS.far i p n;obtain⟨o',z,x,b,f,rfl⟩:=VS T;rw[g]at z;cases z;have:=h.most _ (y x b f);omega
    .obtain rfl:i=m:=by omega
     refine A λj c=>?_;have key:∀d j,i-j<=d->j<i->aq.getD j false=true:=by
      intro d;induction d with
      |zero=>grind
      |succ d D=>
       intro j u t;obtain⟨B,bj,a_,L⟩:=hS.auY p j t;obtain⟨o',z,x,b,f,rfl⟩:=VS L;rcases vcf B i with E|E
       .exact h.down B o' z (D B AP E) x b f
       grind
     exact key _ j Kj c
   have C:Region.ready .any ops aq≠[]:=λR=>A λj c=>O0 hS.Ae h.len R j (by have:=hS.le;omega);refine⟨λe=>absurd e C,λi hi=>?_⟩;have q:=step i hi;obtain⟨g1,o,g,y⟩:=mem_ready.1 hi;obtain⟨d,hd,a3,b⟩:=u i o AJ;rw[vce]at b;refine auV (b.step (h.env (λs F e=>?_) y) g hd) ?_
   .grind
   .rintro a1 w1 ⟨⟨v,rfl,hv⟩,f⟩;exact O _ _ _ (by grind[count_set]) (h.put hK hS q g hd a3 y f hv)
 have I:cy rD {rD with drawn:=rD.drawn+1}:=⟨rfl,rfl,rfl,vad _,λ_ _=>rfl⟩;refine key _ _ _ _ AQ ⟨⟨AQ,hk.iI I,λj o d _ _ r=>?_⟩,rfl,I,λj r=>?_,λj o _ r=>?_⟩;all_goals grind[VP]
def VT{id:Nat}{ks ks':uaa}{Q:uag}(hk:ah N K a w)(h:Hk P N ops K (ops.toList.take m) 0 (λ_=>none) K K')(hK:qA K (ops.toList.take m)=true)(b:P.follows .mixedOrders=true)(c:O9 ops m=true)(k:∀a' w',ah N K' a' w'->a'.defers=a.defers->cy w w'->wpOps P ops (kE (b8 P ks ks' Q)) (List.range' m (ops.size-m)) a' w'):b8 P (.code (.region id ops true)::ks) ks' Q a w:=Bv (au0 h hk hK b c k)
end
section
variable{O:fk}
def iJ(T:uab)(w w':aH):Prop:=w.heap.size<=w'.heap.size/\∀(b:Nat) c e z,w.heap[b]?=some (.cells c e z)->∃c',w'.heap[b]?=some (.cells c' e z)/\c'.size=c.size/\(e≠T->c'=c)
def kg(T:uab)(F:a4):Prop:=∀w w' v,iJ T w w'->F.R w v->F.R w' v
structure na where
 g:Nat
 pos:Nat->Bool
 oc:Nat->Bool
 ja:List (Nat×TypeId×Nat)
def na.st(S:na)(j:Nat):Option (TypeId×Nat):=(S.ja.find? λp=>p.1==j).map (·.2)
def rE(S:na)(j:Nat)(o:Oper):Option Nat:=match S.st j with|some p=>some p.2|none=>o.dst
def Nr(oc:uaz)(acc:bF):bF:=λs=>if oc s then acc s else none
def V2(L K:bF):bF:=λs=>match L s with|some F=>some F|none=>K s
def avk{N:Nat}{L K:bF}{a:Act}{w:aH}(b:ah N L a w)(c:ah N K a w):ah N (V2 L K) a w:=⟨b.size,λs F e=>by
 unfold V2 at e;split at e
 .cases e;exact b.has s _ AJ
 .exact c.has s F e⟩
def BC(P:cf)(N n0:Nat)(E:bF)(o:Oper)(p:TypeId×Nat)(F:a4):Prop:=o.guard=none/\o.dst=none/\∀a w,ah N E a w->∃w',(execOp a.eval o).run P w=.ok .skip w'/\iJ p.1 w w'/\Below n0 w w'/\∃v,a.tmps[p.2]?=some v/\F.R w' v
def Ah(S:na)(ops:fC)(L K:bF)(j:Nat)(acc:bF)(o:Oper):bF:=if S.pos j then xY K ops (Nr S.oc acc) o else xY (V2 L K) ops acc o
def avl(P:cf)(N n0:Nat)(ops:fC)(E:bF)(o:Oper)(F:a4):Prop:=(tz ops E o true/\∀a w,n0<=w.heap.size->ah N E a w->Ab P o F a w)\/(tz ops E o false/\F=lL)
def BD(P:cf)(N n0:Nat)(ops:fC)(S:na)(c6:a4)(pF:bF->Prop)(j:Nat)(E:bF)(o:Oper)(F:a4):Prop:=
 match S.st j with
 |some p=>j≠S.g/\BC P N n0 E o p F
 |none=>j=S.g/\pF E/\F=c6\/j≠S.g/\avl P N n0 ops E o F
abbrev tC(P:cf)(N n0:Nat)(ops:fC)(S:na)(L K:bF)(c6:a4)(pF:bF->Prop):List Oper->Nat->bF->bF->bF->Prop:=
 Ad (rE S) S.oc (λj acc o F=>F.ok n0/\(S.oc j=true->∀p∈S.ja,p.1≠j->kg p.2.1 F)/\BD P N n0 ops S c6 pF j (Ah S ops L K j acc o) o F) N
section
variable{P:cf}{N n0:Nat}{ops:fC}{S:na}{L K K':bF}{c6:a4}{pF:bF->Prop}{o:Oper}{l:ubi}{j:Nat}{acc hQ:bF}{d:Nat}{F:a4}
def hn(hd:o.dst=some d)(c:∀a w,n0<=w.heap.size->ah N (Ah S ops L K j acc o) a w->Ab P o F a w)(h:tC P N n0 ops S L K c6 pF l (j+1) (up acc j F) (if S.oc j then up hQ d F else hQ) K')(hs:S.oc j=true->∀p∈S.ja,p.1≠j->kg p.2.1 F:=by first|(intro h;cases h;done)|(intro _ _ h;cases h;done))(hg:o.guard=none:=by rfl)(a3:d<N:=by decide)(e:j≠S.g:=by decide)(b:S.st j=none:=by rfl)(hok:F.ok n0:=by first|exact trivial|exact rfl):tC P N n0 ops S L K c6 pF (o::l) j acc hQ K':=⟨d,by unfold rE;rw[b];exact hd,a3,F,⟨hok,hs,by unfold BD;rw[b];exact .inr ⟨e,.inl ⟨J_,c⟩⟩⟩,h⟩
def hq(hd:o.dst=some d)(b:bD P N (Ah S ops L K j acc o) o F)(h:tC P N n0 ops S L K c6 pF l (j+1) (up acc j F) (if S.oc j then up hQ d F else hQ) K')(hs:S.oc j=true->∀p∈S.ja,p.1≠j->kg p.2.1 F:=by first|(intro h;cases h;done)|(intro _ _ h;cases h;done))(hg:o.guard=none:=by rfl)(a3:d<N:=by decide)(e:j≠S.g:=by decide)(c:S.st j=none:=by rfl)(hok:F.ok n0:=by first|exact trivial|exact rfl):tC P N n0 ops S L K c6 pF (o::l) j acc hQ K':=hn hd (λa w _ h=>b a w h) h hs hg a3 e c hok
def hg(hd:o.dst=some d)(b:pF (Ah S ops L K j acc o))(h:tC P N n0 ops S L K c6 pF l (j+1) (up acc j c6) (if S.oc j then up hQ d c6 else hQ) K')(hs:S.oc j=true->∀p∈S.ja,p.1≠j->kg p.2.1 c6:=by first|(intro h;cases h;done)|(intro _ _ h;cases h;done))(a3:d<N:=by decide)(c:j=S.g:=by rfl)(a:S.st j=none:=by rfl)(hok:c6.ok n0:=by exact trivial):tC P N n0 ops S L K c6 pF (o::l) j acc hQ K':=⟨d,by unfold rE;rw[a];exact hd,a3,c6,⟨hok,hs,by unfold BD;rw[a];exact .inl ⟨c,b,Y⟩⟩,h⟩
def hk{B:ubn}(hd:o.dst=some d)(a:bD P N (Ah S ops L K j acc o) o F)(hs:∀T,B T->kg T F)(c:∀p∈S.ja,B p.2.1)(h:tC P N n0 ops S L K c6 pF l (j+1) (up acc j F) (if S.oc j then up hQ d F else hQ) K')(hg:o.guard=none:=by rfl)(a3:d<N:=by decide)(f:j≠S.g:=by decide)(e:S.st j=none:=by rfl)(hok:F.ok n0:=by first|exact trivial|exact rfl):tC P N n0 ops S L K c6 pF (o::l) j acc hQ K':=hq hd a h (λ_ p b _=>hs _ (c p b)) hg a3 f e hok
def hst{p:TypeId×Nat}(a:S.st j=some p)(b:BC P N n0 (Ah S ops L K j acc o) o p F)(h:tC P N n0 ops S L K c6 pF l (j+1) (up acc j F) (if S.oc j then up hQ p.2 F else hQ) K')(hs:S.oc j=true->∀p∈S.ja,p.1≠j->kg p.2.1 F:=by first|(intro h;cases h;done)|(intro _;decide))(a3:p.2<N:=by decide)(c:j≠S.g:=by decide)(hok:F.ok n0:=by exact Y):tC P N n0 ops S L K c6 pF (o::l) j acc hQ K':=⟨p.2,by unfold rE;rw[a],a3,F,⟨hok,hs,by unfold BD;rw[a];exact⟨c,b⟩⟩,h⟩
end
def avm{S:na}{j x:Nat}{T:uab}{F:a4}(h:S.ja=[(j,T,x)]):∀p∈S.ja,p.1≠j->kg p.2.1 F:=by rw[h];intro p b a;simp at b;subst b;exact absurd Y a
def ET(S:na)(aq:uar):Prop:=∀p∈S.ja,aq.getD p.1 false=false
structure mM(N:Nat)(ops:fC)(S:na)(L Q:bF)(cW:Nat->a4)(aq:uar)(a:Act)(w:aH):Prop where
 len:aq.size=ops.size
 size:a.tmps.size=N
 Ae:∀p∈S.ja,aq.getD p.1 false=true->∀i,i<ops.size->S.pos i=false->i≠p.1->aq.getD i false=true
 loc:ET S aq->ah N L a w
 Hn:ah N Q a w
 val:∀(j:Nat) o d,ops[j]?=some o->rE S j o=some d->aq.getD j false=true->ET S aq\/S.oc j=true->∃v,a.tmps[d]?=some v/\(cW j).R w v
structure mG(ops:fC)(S:na)(L Q K:bF):Prop where
 one:∀(i j:Nat) o o' d,ops[i]?=some o->ops[j]?=some o'->rE S i o=some d->o'.dst=some d->S.st j=none->i=j\/S.pos j=false/\∃p∈S.ja,p.1=i
 l:∀(i:Nat) o d,ops[i]?=some o->o.dst=some d->L d=none/\Q d=none/\K d=none
 x:∀p∈S.ja,S.st p.1=some p.2/\p.1<ops.size/\(∀i,i<ops.size->S.pos i=false->i≠p.1->BA ops p.1 i=true)/\∀q∈S.ja,q.2.2=p.2.2->q=p
 sd:∀(j:Nat) o q,S.st j=some q->ops[j]?=some o->o.dst=none
 g:S.pos S.g=false/\S.st S.g=none
 Ae:(List.range ops.size).all (λj=>match ops[j]? with|some o=>o.after.all λe=> !Region.binds .any e||decide (e.on<j)|none=>true)=true
def K5(ops:fC)(S:na):Bool:=
 ((List.range ops.size).all λi=>(List.range ops.size).all λj=>i==j||(ops[j]?).bind (·.dst)==none||(S.st j).isSome||(ops[i]?).bind (rE S i) != (ops[j]?).bind (·.dst)||(!S.pos j&&S.ja.any λp=>p.1==i))&&
 (S.ja.all λp=>S.st p.1==some p.2&&decide (p.1<ops.size)&&((List.range ops.size).all λi=>S.pos i||i==p.1||BA ops p.1 i)&&S.ja.all λq=>q.2.2 != p.2.2||q==p)&&
 ((List.range ops.size).all λj=>S.st j==none||(ops[j]?).bind (·.dst)==none)&&
 (!S.pos S.g&&S.st S.g==none)&&
 ((List.range ops.size).all λj=>match ops[j]? with|some o=>o.after.all λe=> !Region.binds .any e||decide (e.on<j)|none=>true)
theorem mG.of{ops:fC}{L Q K:bF}{S:na}(h:K5 ops S=true)(g:qA L ops.toList=true)(c:qA Q ops.toList=true)(hK:qA K ops.toList=true):mG ops S L Q K:=by
 unfold K5 at h;simp only[vah,List.all_eq_true,List.mem_range,Bool.or_eq_true,beq_iff_eq,bne_iff_ne,Bool.not_eq_true',decide_eq_true_eq,List.any_eq_true]at h;obtain⟨⟨⟨⟨n,m⟩,r⟩,f⟩,e⟩:=h;have b:∀{K:bF},qA K ops.toList=true->∀(i:Nat) o d,ops[i]?=some o->o.dst=some d->K d=none:=λhK i o d a hd=>by unfold qA at hK;rw[List.all_eq_true]at hK;have:=hK o (Array.mem_toList_iff.2 (vbd a));simp_all
 refine⟨λi j o o' d hi l s dj hs=>?_,λi o d a hd=>⟨b g i o d a hd,b c i o d a hd,b hK i o d a hd⟩,λp k=>?_,λj o q hq a=>?_,f,by simpa using e⟩
 .grind
 .grind
 .grind
section
variable{P:cf}{N n0:Nat}{ops:fC}{S:na}{L Q K:bF}{cW:Nat->a4}{aq:uar}{a:Act}{w w1:aH}
def Nq(t:∀s F,L s=some F->F.ok n0)(g:∀s F,Q s=some F->F.ok n0)(hF:∀j,j<ops.size->(cW j).ok n0):qx n0 (mM N ops S L Q cW aq):=by intro ρ a a' w w' c b h;refine⟨h.len,by rw[<-b.size];exact h.size,h.Ae,λq=>kT n0 t ρ a a' w w' c b (h.loc q),kT n0 g ρ a a' w w' c b h.Hn,λj o d e r p n=>?_⟩;obtain⟨v,m,l⟩:=h.val j o d e r p n;obtain⟨f,k,i⟩:=b.some m;exact⟨f,k,(cW j).ii _ (hF j (vaj.1 e).1) _ _ _ _ _ c i l⟩
def mM.start(h:ah N L a w)(hq:ah N Q a w):mM N ops S L Q cW (Array.replicate ops.size false) a w:=⟨AQ,h.size,λp _ q=>by grind[VP],λ_=>h,hq,λj o d _ _ q=>by grind[VP]⟩
def mM.avn(g:mG ops S L Q K)(h:mM N ops S L Q cW aq a w){i:Nat}(f:i<ops.size)(d:S.pos i=false)(b:aq.getD i false=false):ET S aq:=λp c=>by
 cases e:aq.getD p.1 false with
 |false=>rfl
 |true=>
  by_cases hi:i=p.1
  .grind
  .rw[h.Ae p c e i f d hi]at b;cases b
def mM.env(j:mG ops S L Q K)(h:mM N ops S L Q cW aq a w)(hK:ah N K a w){i:Nat}{o:Oper}(c:ops[i]?=some o)(k:aq.getD i false=false)(l:∀e∈o.after,Region.binds .any e=true->aq.getD e.on false=true):ah N (Ah S ops L K i (λs=>if 0<=s/\s<i then some (cW s)else none) o) a w:=by
 have f:i<ops.size:=(vaj.1 c).1;have key:∀B acc,ah N B a w->(∀s F,acc s=some F->F=cW s/\(ET S aq\/S.oc s=true))->ah N (xY B ops acc o) a w:=λB acc m n=>⟨h.size,λs F e=>by
  unfold xY at e;split at e
  .rename_i x g;have b:=List.find?_some g;have q:=List.mem_of_find?_eq_some g;simp at b;obtain⟨rfl,hF⟩:=n _ _ e;cases c:ops[x.on]? with
   |none=>grind
   |some o'=>
    simp[c]at b;refine h.val _ o' s c ?_ (l x AJ b.1) hF;unfold rE;split
    .rename_i p d;rw[j.sd _ _ _ d c]at b;cases b.2
    .exact b.2
  .exact m.has s F e⟩
 unfold Ah;split
 .refine key K _ hK λs F e=>?_;unfold Nr at e;grind
 .rename_i d;have h0:=h.avn j f (by simpa using d) k;exact key _ _ (avk (h.loc h0) hK) λs F e=>AJ
def V3(b:mG ops S L Q K){i:Nat}(hs:S.st i=none){p:Nat×TypeId×Nat}(a:p∈S.ja):i≠p.1:=λe=>by rw[e,(b.x p a).1]at hs;cases hs
def V4{aq:uar}{i j:Nat}(h:i≠j):(aq.setIfInBounds i true).getD j false=aq.getD j false:=by simp_all
def Np{N:Nat}{K:bF}{a:Act}{w w1:aH}(h:ah N K a w){d:Nat}(hd:K d=none)(f:cy w w1){v:Value}:ah N K (a.put (some d) v) w1:=⟨Is,λs F e=>by
 obtain⟨x,c,b⟩:=h.has s F e;exact⟨x,(dV λx=>AJ).trans c,F.iI _ _ _ f b⟩⟩
theorem mM.put(f:mG ops S L Q K)(h:mM N ops S L Q cW aq a w){i:Nat}{o:Oper}{d:Nat}(k:ops[i]?=some o)(hd:o.dst=some d)(hs:S.st i=none)(a3:d<N)(r:aq.getD i false=false)(m:cy w w1){v:Value}(hv:(cW i).R w1 v):mM N ops S L Q cW (aq.setIfInBounds i true) (a.put (some d) v) w1:=by
 have hi:i<aq.size:=G9;have hn:ET S (aq.setIfInBounds i true)↔ET S aq:=⟨λq p b=>(V4 (V3 f hs b))▸q p b,λq p b=>(V4 (V3 f hs b)).trans (q p b)⟩;refine⟨Fc,Is,λp b q j g c n=>?_,λq=>Np (h.loc (hn.1 q)) (f.l i o d k hd).1 m,Np h.Hn (f.l i o d k hd).2.1 m,λj o' t g c n z=>?_⟩
 .rw[V4 (V3 f hs b)]at q;exact(sq hi).2 (.inr (h.Ae p b q j g c n))
 .by_cases e:j=i
  .subst e;rw[k]at g;cases g;unfold rE at c;rw[hs]at c;rw[hd]at c;cases c;exact⟨v,kS (by rw[h.size];exact a3),hv⟩
  .have s:=((sq hi).1 n).resolve_left e;obtain⟨x,y,u⟩:=h.val j o' t g c s (z.imp hn.1 id);have l:d≠t:=λx=>by
    subst x;rcases f.one j i o' o d g k c hd hs with q|⟨q,p,b,rfl⟩
    .exact e q
    .rw[h.Ae p b s i (by rw[<-h.len];exact hi) q (Ne.symm e)]at r;cases r
   exact⟨x,(dV l).trans y,(cW j).iI _ _ _ m u⟩
theorem mM.store(E:mG ops S L Q K)(h:mM N ops S L Q cW aq a w){p:Nat×TypeId×Nat}(k:p∈S.ja){o:Oper}(B:ops[p.1]?=some o)(A:∀e∈o.after,Region.binds .any e=true->aq.getD e.on false=true)(t:iJ p.2.1 w w1)(hst:∀j,j<ops.size->S.oc j=true->p.1≠j->kg p.2.1 (cW j))(M:∀s F,Q s=some F->∀p∈S.ja,kg p.2.1 F){v:Value}(e:a.tmps[p.2.2]?=some v)(hv:(cW p.1).R w1 v):mM N ops S L Q cW (aq.setIfInBounds p.1 true) a w1:=by
 obtain⟨cu,dr,I,-⟩:=E.x p k;have hi:p.1<aq.size:=by rw[h.len];exact dr
 have r:(aq.setIfInBounds p.1 true).getD p.1 false=true:=(sq hi).2 LF;have hn:¬ET S (aq.setIfInBounds p.1 true):=λq=>by rw[q p k]at r;cases r
 refine⟨Fc,h.size,λq hq z j c b l=>(sq hi).2 ?_,λq=>absurd q hn,⟨h.size,λs F f=>by
  obtain⟨x,i,g⟩:=h.Hn.has s F f;exact⟨x,i,M s F f p k _ _ _ t g⟩⟩,λj o' J c b l H=>?_⟩
 .by_cases d:j=p.1
  .exact .inl d
  rcases(sq hi).1 z with z|z
  .obtain⟨o',y,e,C,D,rfl⟩:=VS (I j c b d);rw[B]at y;cases y;exact .inr (A e C D)
  .exact .inr (h.Ae q hq z j c b l)
 .have n:=H.resolve_left hn;by_cases m:j=p.1
  .subst m;unfold rE at b;rw[cu]at b;cases b;exact⟨v,e,hv⟩
  .obtain⟨u,i,g⟩:=h.val j o' J c b (((sq hi).1 l).resolve_left m) (.inr n);exact⟨u,i,hst j (vaj.1 c).1 n (Ne.symm m) _ _ _ t g⟩
def Nm{j:Nat}{q:TypeId×Nat}(h:S.st j=some q):(j,q)∈S.ja:=by unfold na.st at h;obtain⟨p,a,rfl⟩:=vak.1 h;have:=List.find?_some a;have:=List.mem_of_find?_eq_some a;grind
theorem mM.step{c6:a4}{pF:bF->Prop}(r:mG ops S L Q K)(T:∀s F,Q s=some F->∀p∈S.ja,kg p.2.1 F)(x:∀(j:Nat) o,ops[j]?=some o->∃d,rE S j o=some d/\d<N/\(cW j).ok n0/\(S.oc j=true->∀p∈S.ja,p.1≠j->kg p.2.1 (cW j))/\BD P N n0 ops S c6 pF j (Ah S ops L K j (λs=>if 0<=s/\s<j then some (cW s)else none) o) o (cW j))(h:mM N ops S L Q cW aq a w)(hK:ah N K a w){i:Nat}{o:Oper}(z:i≠S.g)(u:n0<=w.heap.size)(m:aq.getD i true=false)(b:ops[i]?=some o)(t:∀e∈o.after,Region.binds .any e=true->aq.getD e.on false=true):
 wpOps P ops (kE λa1 w1=>((∃d v,o.dst=some d/\a1=a.put (some d) v)\/a1=a)/\mM N ops S L Q cW (aq.setIfInBounds i true) a1 w1/\Below n0 w w1) [i] a w:=by
 have m:aq.getD i false=false:=AJ;obtain⟨d,c,J,V,U,k⟩:=x i o b;have l:=h.env r hK b m t;unfold BD at k;unfold rE at c;cases hs:S.st i with
 |some q=>
  simp only[hs]at k;obtain⟨-,g1,f,O⟩:=k;obtain⟨w',E,D,C,v,B,M⟩:=O a w l;exact tx b g1 f E ⟨.inr Y,h.store r (p:=(i,q)) (Nm hs) b t D (λj I H n=>by
   obtain⟨-,-,-,-,A,-⟩:=x j _ (vax I);exact A H _ (Nm hs) n) T B M,C⟩
 |none=>
  simp only[hs]at k c;obtain⟨q,-⟩|⟨-,g⟩:=k
  .exact absurd q z
  refine i_ (R:=λa1 w1=>(∃v,a1=a.put (some d) v/\(cW i).R w1 v)/\cy w w1) (by
   rcases g with⟨g1,f⟩|⟨g1,f⟩
   .exact yG b (g1.is l) c (f a w u l)
   .exact yK b (g1.is l) c ⟨⟨undef,Y,by rw[f];rfl⟩,vaa _ _⟩) ?_
  rintro a1 w1 ⟨⟨v,rfl,hv⟩,y⟩;exact⟨Y,.inl ⟨d,v,c,Y⟩,h.put r b c hs J m y hv,y.mono u⟩
def mM.e6(j:mG ops S L Q K)(h:mM N ops S L Q cW aq a w)(hK:ah N K a w)(g:Region.ready .any ops aq=[]){K' hQ:bF}(n:∀s F,hQ s=some F->K s=some F\/S.ja=[]/\L s=some F)(l:∀s F,K' s=some F->(∃i o,ops.toList[i]?=some o/\rE S (0+i) o=some s/\F=cW (0+i)/\S.oc (0+i)=true)\/hQ s=some F):ah N K' a w:=⟨h.size,λs F e=>by
 have hdone:=O0 j.Ae h.len g;rcases l s F e with⟨i,o,b,d,rfl,c⟩|k
 .rw[vce]at d c⊢;have b:ops[i]?=some o:=AJ;exact h.val i o s b d (hdone i (vaj.1 b).1) (.inr c)
 .rcases n s F k with k|⟨m,k⟩
  .exact hK.has s F k
  .exact(h.loc λp f=>by rw[m]at f;cases f).has s F k⟩
end
section
variable{P:cf}{Post:fX}{n n0:Nat}{Shun:uai}{M aT:dY}{w w0:aH}{f:uah}{a:Act}{k:uaa}{cs:fG}{N:Nat}{L Q K':bF}{ops:fC}{S:na}
def Nh{id:Nat}(hC:(c0 P).Good)(V:P.follows .mixedOrders=true)(hf:ln P f)(hk:(Item.inRegion ops []::k).all (gL P)=true)(aF:∀s F,L s=some F->F.ok n0)(J:∀s F,Q s=some F->F.ok n0/\∀p∈S.ja,kg p.2.1 F)(gV:K5 ops S=true)(V6:qA L ops.toList=true)(g:qA Q ops.toList=true){c:Oper}{d:Nat}{gf:uah}{D:Func}{gK:Code}{args:uaw}{ats:uap}(l:ops[S.g]?=some c)(B:c.op=.call {callee:=.value (.func gf),args,argTypes:=ats})(Aa:P.funcs[gf]?=some D)(lC:(D.name== "runtime.NumGoroutine")=false)(hb:D.body=some gK)(gS:c.guard=none)(hn:n+16*d<=200){de:Tmp}(z:c.dst=some de){c6:a4}{hQ:bF}(hq:tC (ae P true) N n0 ops S L Q c6 (λE=>∀a M w Shun,Home O P M Shun w->ah N E a w->aM (bG M) a.tmps a.tmps->ei O P Post gf (args.map a.eval) M w d (λu _ w'=>c6.R w' u/\cP M w w')) ops.toList 0 (λ_=>none) hQ K')(Bb:S.ja=[]/\hQ=L\/hQ=Q)(H:Held O P aT w0 n0 a M w Shun)(h0:ah N L a w)(Y:ah N Q a w)(iB:∀a M' w' m y,ah N K' a w'->m<=n+16*d->Held O P aT w0 n0 a M' w' y->bK P Post m y 0 (a0 ((base f).at a (.R ops []::k)) cs) w'):
 bK P Post n Shun 0 (a0 ((base f).at a (.code (.region id ops true)::k)) cs) w:=by
 obtain⟨cW,h1,h2⟩:=Ad.all hq;have b:=mG.of (K:=Q) gV V6 g g;have cR:∀(j:Nat) o,ops[j]?=some o->_:=λj o R=>h1 j o AJ;simp only[vce]at cR;have V7:∀j,j<ops.size->(cW j).ok n0:=λj hj=>by obtain⟨d',-,-,q,-⟩:=cR j _ (vax hj);exact q
 obtain⟨avo,x,T,-,-,C⟩:=cR S.g c l;unfold BD at C;unfold rE at x;simp only[b.g.2]at C x;rw[z]at x;cases x;obtain⟨-,fD,hX⟩:_/\_/\cW S.g=c6:=C.resolve_right λh=>absurd rfl h.1;refine auN hC V hf hk S.g l B Aa lC hb gS hn (I:=mM N ops S L Q cW) (λaq=>Nq aF (λs F e=>(J s F e).1) V7) z (λaq a w h=>by rw[h.size];exact T) (oa:=c6.R) (λaq a w h=>h.len) H (mM.start h0 Y) ?_ ?_ ?_ ?_
 .intro aq a W i o h hd hW U Z R r;refine i_ (h.step b (λs F e=>(J s F e).2) cR h.Hn U hW Z R r) λa1 w1⟨bj,a_,X⟩=>⟨rfl,?_,a_,X⟩;rcases bj with⟨d',v,-,rfl⟩|rfl
  .rw[put_defers];exact hd
  .exact hd
 .intro aq a M w Shun t h A r;exact fD a M w Shun t.gq (h.env b h.Hn l A r) t.all
 .intro aq a w u h A r hu;exact h.put b l z b.g.2 T A (vaa _ _) (by rw[hX];exact hu)
 .intro aq a M' w' m y h hr jJ t;exact iB a M' w' m y (h.e6 b h.Hn hr (λs F e=>by rcases Bb with⟨k1,rfl⟩|rfl;exact .inr ⟨k1,e⟩;exact .inl e) h2) jJ t
end
end
end aK
namespace dI
open RowKit au bU
def OO:vee.funcs[(28:Nat)]?=some f28:=vea func28
def Sk(p:Int)(b o k:Nat)(w:aH)(d:w.cell? (.a b o)=some (.I p)):
 Calls vee 28 #[.S b o 1 k] w λe w'=>∃g c cs,e=.returned (.S g 0 1 c)/\ag w' g cs 3/\cs[0]?=some (.I p)/\cy w w':=by
 have v:∀W:aH,(binOp .eql 76 (.S b o 1 k) (.N)).run vee W=.ok (.F) W:=λW=>by simp[go_sem,binOp,Op.equal];rw[show Op.maxDepth=9999+1 from Y,Op.equalIn];simp
 go_enter OO,ntmps28
 obtain⟨x,hi,n,hsz,m⟩:=vcv (show(prog.info? 3).map (λi=>(i.zero,i.size,i.bytes))=some (some (.I 0),1,8)from AS);have HC:Hid (w.cell? (.a b o)=some (.I p)):=d;have q:=fB d;clear d;go_wp2_with (at_builtin;refine wpList_append_grows _ A_ _ _ 76 A_ 3 x (.I 0) 1 8 AS hi n hsz m AU AU (some (.a w.heap.size 0)) 0 0 [] A_ AQ AQ AQ ⟨b,o,none⟩ 1 k [.I p] A_ AQ ?_ (by simp[Value.oneCell']) AU AU AU ?_)
 .intro j u h;match j with|0=>have a:=(br.ck ((vaa w.heap.size w).alloc Kj (.cells #[] 3))) _ _ _ HC.out;simpa[Addr.add]using Fa▸a|j+1=>simp at h
 .intro y w' s t;go_wp2
  go_ret
  have r:cy w w':=((vaa _ w).alloc Kj _).grown t AQ AQ;obtain⟨-,⟨-,h0⟩|⟨g,cap,bq,rfl,hg,f,hn,z,hs,ht⟩⟩:=s
  .omega
  .have h0:bq[0]?=some (.I p):=by have:=vbp (λl:List Value=>l[0]?) ht;simpa using this
   exact⟨g,cap,bq,Y,f,h0,r⟩
end dI
namespace bM
open RowKit Shelf au bU
variable{L:List eV}
section
@[simp] theorem aw5:dk true 23:=ved func23
theorem aw6{b:Nat}(h:¬ia L b):∃i,∃(hi:i<L.length),L[i].v.ownBlock=some b:=vap λhn=>h λi hi hg=>AJ
def xx{B:Nat}{W c:aH}{Y:ubn}(h:eQ B W L)(hk:iq Y W c)(d:∀i(h:i<L.length),Y L[i].e):eQ B c L:=h.kept λg hg=>by
 obtain⟨i,hi,a⟩:=aw6 hg;rcases(h.own i hi).2 with⟨hn,-⟩|⟨g',cap,bq,hv,-,b,-⟩
 .rw[hn]at a;cases a
 .rw[hv]at a;cases a;exact(hk.cells _ _ _ _ b (d i hi)).trans b.symm
def xt{e:uab}(h:e=2\/e=9\/e=4):¬ti e:=by unfold ti;grind
structure HL(B bT t4 t5:Nat)(l:fK)(D:Nat->Nat->bw)(m:uas)(V:aH)(L:List eV)(cs:fi):Prop where
 gP:eQ B V L
 at_:vO l D m L cs
 box:ag V bT cs 34
 cK:ag V t5 #[.S bT 0 l.length l.length] 25
 cm:ag V t4 #[.N] 27
def HL.PC{B c b a:Nat}{l:fK}{D:Nat->Nat->bw}{m:uas}{V pf:aH}{cs:fi}(h:HL B c b a l D m V L cs)(hk:iq (λe=>¬ti e) V pf):HL B c b a l D m pf L cs:=
 ⟨xx h.gP hk λi hi=>xt (h.at_.Dd i hi),h.at_,hk.cells _ _ _ _ h.box (by grind[ti]),hk.cells _ _ _ _ h.cK (by grind[ti]),hk.cells _ _ _ _ h.cm (by grind[ti])⟩
def og(rs:List bh)(t i:Nat):bw:=((rs[t]?.map (·.2)).getD [])[i]?.getD g4
def aw7{l:fK}(D:Nat->Nat->bw){cs:fi}(hs:cs.size=l.length*5)(a:CH cs l l.length):vO l D (λ_=>0) ((List.range (3*l.length)).map λi=>⟨if i % 3=0 then 2 else if i % 3=1 then 9 else 4,.N,[]⟩) cs:=by
 refine⟨hs,λi hi=>?_,λi hi=>?_⟩
 .obtain⟨e,a1,d,b,c⟩:=a i hi hi;refine⟨_,_,_,e,a1,d,b,c,?_,?_,?_⟩
  .grind[pk]
  .grind[pm]
  grind[tj]
 grind
def aw8(B:Nat)(w:aH)(n:Nat)(e:Nat->TypeId):eQ B w ((List.range n).map λi=>⟨e i,.N,[]⟩):=by
 refine⟨λi hi=>?_,λi j hi b g a hg=>?_⟩
 .grind[World.ownsRow_nil]
 grind[Value.ownBlock]
attribute [local go_sem] Oper.semAt_some
def aw9(l:fK)(v:Value)(rs:List bh){gf:Nat}{lb:fi}(w:aH)(hv:eF w v l)(hl:l.length<=1000)(pp:rs.length<=1000)(hlen:∀r∈rs,r.2.length=l.length)(uU:∀r∈rs,∀d∈r.2,d.text.size<=1000000)(vd:∀args w,(callFunc gf args).run vee w=.ok (.enter gf args) w)(rZ:∀n,TH ti n vee gf lb (NJ w rs) rs.length w.heap.size w):
 Calls vee 23 #[v,.func (.func gf) #[] lb] w λe w'=>∃v',e=.returned (.agg #[v'])/\l6 w' v' (pn l (og rs) rs.length)/\cy w w':=by
 obtain⟨Bf,kN,rfl,-,-⟩:=id hv;have qZ:Hid (eF w _ l):=hv;have U:Hid _:=hlen;have S:Hid _:=uU;clear hv hlen uU;refine(callsIn_wide (n:=3)).1 ?_;refine callsIn_of_wp_marks (vea func23) rfl trivial ?_;simp[vbq];gi_wp2_with (refine⟨PA,(callsIn_wide.2 (amz l _ _ (qZ.out.mono ni (br.ck ((vaa _ w).alloc AJ _))) AP)).mono ?_⟩;rintro e w1 ⟨a,cs0,rfl,cG,hsz,I6,nl,bc⟩)
 have WL:ag w1 w.heap.size #[.N] 27:=(ag.new w _ _).call bc;have fz:cy w w1:=Below.step bc ((vaa _ w).alloc AJ _) AQ;have alE:w.heap.size<w1.heap.size:=WL.lt;have bW:cy w1 (w1.alloc (.cells #[.S a 0 l.length l.length] 25)):=(vaa _ w1).alloc AJ _;have hst:HL (w1.heap.size+1) a w.heap.size w1.heap.size l (og rs) (λ_=>0) (w1.alloc (.cells #[.S a 0 l.length l.length] 25)) _ cs0:=⟨aw8 _ _ _ _,aw7 _ hsz I6,cG.alloc _,ag.new _ _ _,WL.alloc _⟩;refine ao4 (n:=3) (gf:=gf) (lb:=lb) (w0:=w) (nQ:=w.heap.size) (N:=rs.length) (Row:=NJ w rs) rfl vd (rZ _) (fz.trans (bW.mono AP)) An
  (λt V=>∃L cs,HL (w1.heap.size+1) a w.heap.size w1.heap.size l (og rs) (λ_=>t) V L cs)
  (λt V pf h hk=>by
   obtain⟨L,cs,h⟩:=h;exact⟨L,cs,h.PC hk⟩)
  AJ
  (λt x a' V=>∃O y c8 pc D I A,ag V O #[.slice y c8 pc,.slice D I A] 79/\x=.agg #[.slice y c8 pc,.slice D I A]/\NJ w rs t V x/\∃z,a'={tmps:=#[.slice Bf l.length kN,.func (.func gf) #[] lb,.U,.U,.P w.heap.size 0,.P w1.heap.size 0,.P O 0,.U,.U,.slice Bf l.length kN,.S a 0 l.length l.length,.func (.func gf) #[] lb,z,.U,.U,.U,.U,.U,.U,.U,.U,.U,.U,.U,.U,.U,.U,.U,.U,.U,.U,.U,.U],defers:=[]})
  (λt x a' V pf h hk=>by
   obtain⟨O,y,c8,pc,D,I,A,h1,h2,⟨h3,p1,p2,p3,p4,Aj,aw_,WM⟩,h4⟩:=h;exact⟨O,y,c8,pc,D,I,A,hk.cells _ _ _ _ h1,h2,⟨h3,p1,p2,p3,p4,Aj,aw_,λ_ _ _ u=>C9 hk (WM _ _ _ u)⟩,h4⟩)
  ?assign ?body ?done
 case assign=>
  rintro l' t x V K- -⟨F,y,pc,D,A,rfl,oC,jA⟩ hK;gi_wp2
  have ew:cy V (V.alloc (.cells #[.slice y rs[t].1.length pc,.slice D rs[t].2.length A] 79)):=(vaa _ V).alloc AJ _;exact hK _ _ ew ⟨V.heap.size,_,_,_,_,_,_,ag.new V _ _,rfl,⟨F,y,pc,D,A,rfl,oC,λ_ _ _ u=>br.ck ew _ _ _ (jA _ _ _ u)⟩,_,rfl⟩
 case body=>
  rintro l' t x a' V ⟨aIA,cs1,yj⟩ hlt ⟨O,y,c8,pc,D,I,A,axa,rfl,⟨F,aIB,aIC,aID,aIE,axb,oC,jA⟩,z,rfl⟩ fM;cases axb;have ye:rs[t].2.length=l.length:=U.out _ AJ;have y6:Hid _:=oC;have WN:Hid _:=ye;have axc:Hid _:=yj;have s:Hid (a<w1.heap.size):=cG.lt;have WO:Hid (w.heap.size<a):=by unfold Hid;simp at nl;omega
  have axd:Hid _:=jA;obtain⟨cu,dr,gB⟩:=axa.all;clear oC ye yj jA rZ hst cG bW fz bc I6 hsz WL nl;gi_wp2
  gi_loopw [16] (λp wr=>∃(k:Nat)(L:List eV)(cs:fi),k<=l.length/\p=.I k/\HL (w1.heap.size+1) a w.heap.size w1.heap.size l (og rs) (λi=>if i<k then t+1 else t) wr L cs/\KeepsOthers V wr/\Below w.heap.size V wr/\iq ti V wr/\br w wr)
   (λi _=>l.length-(intOf i).toNat)
  case atStart=>exact⟨0,_,_,vba _,rfl,by simpa using axc.out,KeepsOthers.refl _,vaa _ _,.qf ⟨vad _,AJ⟩,axd.out⟩
  case round=>
   obtain⟨k,L,cs,hk,rfl,H,p6,vT,NK,ya⟩:=hrel;have m:Hid _:=H;have aIF:w1.heap.size<wr.heap.size:=m.out.cK.lt;have x_:Hid (KeepsOthers V wr):=p6;have NW:Hid (Below w.heap.size V wr):=vT;have x9:Hid (iq ti V wr):=NK;have Li:Hid (br w wr):=ya;clear H p6 vT NK ya;by_cases vi:k<l.length
   .obtain⟨n8,Ui,axe,-,b5⟩:=id y6.out;cases axe;have axf:k<rs[t].2.length:=by have:=WN.out;omega
    obtain⟨b,off,rfl,d0,d1,d2,d3,-⟩:=b5 k axf;simp at d0;have e0:=Li.out _ _ _ d0;have e1:=Li.out _ _ _ d1;have e2:=Li.out _ _ _ d2;have e3:=Li.out _ _ _ d3;have Sa:=fB e0;have nS:(0:Int)<=(k:Int):=AP;have k0:(k:Int)<(l.length:Int):=AP;have hD:og rs t k=rs[t].2[k]:=by grind[og]
    have NZ:Hid _:=hD;have lD:cy wr (wr.alloc (.cells #[.bool rs[t].2[k].dL,.I rs[t].2[k].num,.I rs[t].2[k].eK,.string rs[t].2[k].text] 96)):=(vaa _ wr).alloc AJ _;have th:Hid _:=lD;have f:Hid _:=m.out.PC (.qf (.below lD));have PD:Hid _:=ag.new wr #[.bool rs[t].2[k].dL,.I rs[t].2[k].num,.I rs[t].2[k].eK,.string rs[t].2[k].text] 96;have yt:(rs[t].2.length:Int)=(l.length:Int):=by have:=WN.out;omega
    clear d0 d1 d2 d3 b5 hD lD;gi_wp2
    have Ka:Hid ((wr.alloc (.cells #[.bool rs[t].2[k].dL,.I rs[t].2[k].num,.I rs[t].2[k].eK,.string rs[t].2[k].text] 96)).heap.size=wr.heap.size+1):=by unfold Hid;simp
    clear e0 e1 e2 e3;generalize wr.alloc (.cells #[.bool rs[t].2[k].dL,.I rs[t].2[k].num,.I rs[t].2[k].eK,.string rs[t].2[k].text] 96)=q at *;obtain⟨c7,vs,I,b7,a1,bV,cn,cN,fO,lG,n6⟩:=f.out.at_.JZ k vi;obtain⟨p0,q0,rfl⟩:=qS (show q.ownsRow _ 2 1 c7 (pk l[k].1 (og rs · k) _).length _ from f.out.gP.at fO);obtain⟨p1,bj,rfl⟩:=qS (show q.ownsRow _ 9 1 vs (pm l[k].1 (og rs · k) _).length _ from f.out.gP.at lG);obtain⟨p2,a_,rfl⟩:=qS (show q.ownsRow _ 4 1 I (tj (og rs · k) _).length _ from f.out.gP.at n6);have h9:=api f.out.at_ (w:=q.drew) (B:=w1.heap.size+1) ⟨f.out.gP.own,f.out.gP.apart⟩ (by have:=f.out.cK.lt;simp;omega) vi AJ (by simp;rw[NZ.out];exact S.out _ (vbe F) _ AJ) bV cn cN;simp only[Nat.lt_irrefl,vbv]at h9;rw[NZ.out]at h9;have HC:Hid _:=h9;obtain⟨f1,f2,f3⟩:=f.out.box.all;have g0:q.cell? (.a a (k*5))=_:=(f1 _).trans b7;have g1:q.cell? (.a a (k*5+1))=_:=(f1 _).trans a1;have g2:q.cell? (.a a (k*5+2))=_:=(f1 _).trans bV;have gA:q.cell? (.a a (k*5+3))=_:=(f1 _).trans cn;have l_:q.cell? (.a a (k*5+4))=_:=(f1 _).trans cN;obtain⟨axg,axh,axi⟩:=f.out.cK.all;obtain⟨kY,mV,axj⟩:=ag.all (show ag q wr.heap.size _ _ from PD.out);have Kb:∀w2,qW L q.drew w2->ag w2 a cs 34/\ag w2 w1.heap.size #[.S a 0 l.length l.length] 25/\ag w2 w.heap.size #[.N] 27:=λw2 hF=>
     ⟨(hF.block a f.out.box.lt (f.out.gP.nY (.inr (by have:=s.out;omega)))).trans f.out.box,(hF.block _ f.out.cK.lt (f.out.gP.nY AJ)).trans f.out.cK,(hF.block _ f.out.cm.lt (f.out.gP.nY AJ)).trans f.out.cm⟩
    have rU:Hid _:=Kb;have M:Hid _:=f.out.at_.size;clear h9 b7 a1 bV cn cN fO lG n6 f1 f2 Kb;refine apq AS AS (Bd (C:=λW=>ag W w1.heap.size #[.S a 0 l.length l.length] 25/\ag W wr.heap.size #[.bool rs[t].2[k].dL,.I rs[t].2[k].num,.I rs[t].2[k].eK,.string rs[t].2[k].text] 96) _ _ _ _ ?_);have J:Hid (ag q.drew w1.heap.size #[.S a 0 l.length l.length] 25/\ag q.drew wr.heap.size #[.bool rs[t].2[k].dL,.I rs[t].2[k].num,.I rs[t].2[k].eK,.string rs[t].2[k].text] 96):=⟨f.out.cK,PD.out⟩;refine lh (i:=1) (v:=.I k) rfl AS AS AS K3 J.out ⟨A_,λW _=>A0,AJ,λ_=>rfl⟩ ?_;refine lh (i:=3) (v:=.I k) rfl AS AS AS K3 J.out ⟨A_,λW _=>A0,AJ,λ_=>rfl⟩ ?_;refine lh (i:=0) (v:=.S a 0 l.length l.length) rfl AS AS AS K3 J.out ⟨A_,λW P=>by obtain⟨dn,dB,jB⟩:=P.1.all;go_simp,AJ,λ_=>rfl⟩ ?_;refine lh (i:=2) (v:=.S a 0 l.length l.length) rfl AS AS AS K3 J.out ⟨A_,λW P=>by obtain⟨dn,dB,jB⟩:=P.1.all;go_simp,AJ,λ_=>rfl⟩ ?_;refine lh (i:=6) (v:=du rs[t].2[k]) rfl AS AS AS K3 J.out ⟨A_,λW P=>by obtain⟨dn,dB,jB⟩:=P.2.all;go_simp,AJ,λ_=>rfl⟩ ?_;refine ir (i:=4) AS rfl λK hK=>?_;go_simp
    refine hK _ _ J.out ?_;clear hK K;refine ir (i:=5) AS rfl λK hK=>?_;go_simp
    refine hK _ _ J.out ?_;clear hK K;refine ir (i:=7) AS rfl λK hK=>?_;go_simp
    refine⟨PA,(callsIn_wide.2 HC.out).mono ?_⟩;rintro e w2 ⟨r0,n0,cz,r1,n1,c1,r2,iy,co,L',rfl,x5,x2,hF⟩;obtain⟨E,WP,xT⟩:=rU.out w2 hF;have WQ:ag w2 wr.heap.size #[.bool rs[t].2[k].dL,.I rs[t].2[k].num,.I rs[t].2[k].eK,.string rs[t].2[k].text] 96:=(hF.block _ BR (NQ f.out.gP λc e z u i hi he=>by
     have j:ag q wr.heap.size _ _:=PD.out;unfold ag at j;rw[j]at u;cases u;rcases f.out.at_.Dd i hi with h|h|h<;>rw[h]at he<;>exact absurd he AU)).trans PD.out
    refine hK _ _ ⟨WP,WQ⟩ ?_;clear hK K g0 g1 g2 gA l_ axg axh axi kY mV axj;have i0:w2.cell? (.a a (k*5))=some (cs[k*5]'GG):=Gr;have i1:w2.cell? (.a a (k*5+1))=some (cs[k*5+1]'GG):=Gr;have i2:w2.cell? (.a a (k*5+2))=some (cs[k*5+2]'GG):=Gr;have i3:w2.cell? (.a a (k*5+3))=some (cs[k*5+3]'GG):=Gr;have i4:w2.cell? (.a a (k*5+4))=some (cs[k*5+4]'GG):=Gr;have i5:=E.rules.2;have Z:Hid (ag w2 a cs 34):=E;have WR:Hid (ag w2 w1.heap.size #[.S a 0 l.length l.length] 25):=WP;have axk:Hid (ag w2 w.heap.size #[.N] 27):=xT;have X:Hid (ag w2 wr.heap.size #[.bool rs[t].2[k].dL,.I rs[t].2[k].num,.I rs[t].2[k].eK,.string rs[t].2[k].text] 96):=WQ;have zc:Hid _:=x5;have axl:Hid _:=x2;have WS:Hid _:=hF;clear E WP xT WQ x5 x2 hF;refine ir (i:=8) AS rfl λK hK=>?_;go_simp
    refine hK _ _ ⟨WR.out,X.out⟩ ?_;clear hK K;refine ir (i:=9) AS rfl λK hK=>?_;go_simp
    refine hK _ _ ⟨((((WR.out.ek CY _).ek CY _).ek CY _).ek CY _).ek CY _,((((X.out.ek CY _).ek CY _).ek CY _).ek CY _).ek CY _⟩ ?_;clear hK K;refine De AS ?_ _;clear i0 i1 i2 i3 i4 i5;have hA0:KeepsOthers wr w2:=(ao3 th.out).trans (by have j:=apj WS.out ⟨f.out.gP.own,f.out.gP.apart⟩;exact⟨j.size,j.same⟩);have hA1:iq ti wr w2:=(iq.qf (.below th.out)).trans (by have j:=apk (Y:=ti) WS.out ⟨f.out.gP.own,f.out.gP.apart⟩ λi hi=>xt (f.out.at_.Dd i hi);exact⟨j.size,j.cells⟩);have hA2:Below w.heap.size wr w2:=(th.out.mono AP).trans (by have j:=apl (n:=w.heap.size) WS.out ⟨f.out.gP.own,f.out.gP.apart⟩ AP Ge;exact⟨j.os,j.tape,j.output,j.size,j.block⟩);have axm:Hid _:=hA0;have axn:Hid _:=hA1;have R:Hid _:=hA2;clear hA0 hA1 hA2;gi_wp2
    go_roundw
    case rel=>
     refine⟨_,_,.I ((k:Int)+1),⟨k+1,AP,AQ,⟨L',r6 cs k (.I l[k].1) (.I l[k].2) (.slice r0 n0 cz) (.slice r1 n1 c1) (.slice r2 iy co),⟨?_,?_,?_,?_,?_⟩⟩,?_,?_,?_,?_⟩,rfl,rfl,rfl⟩
     .exact zc.out.kept λg hg=>NR _ _ _ _ _ _ _ _ λe=>hg (e▸zc.out.nY (.inr (by have:=s.out;omega)))
     .refine axl.out.congr λi hi=>?_;grind[xF]
     .exact apt Z.out _ _ _ _ _ _
     .exact(NR _ _ _ _ _ _ _ _ (by have:=s.out;omega)).trans WR.out
     .exact(NR _ _ _ _ _ _ _ _ (by have:=WO.out;omega)).trans axk.out
     .exact(x_.out.trans axm.out).trans (apu ..)
     .exact(NW.out.trans R.out).trans (Zc _ (by have:=WO.out;omega) _ _ _ _ _ _)
     .exact(x9.out.trans axn.out).trans (apv Z.out (by grind[ti]) _ _ _ _ _ _)
     .exact λb o x u=>((R.out.trans (Zc _ (by have:=WO.out;omega) _ _ _ _ _ _)).cell (p:=⟨b,o,none⟩) (fB u)).trans (Li.out _ _ _ u)
    case measure=>simp[intOf];omega
   .have nV:k=l.length:=by omega
    have yt:(rs[t].2.length:Int)=(l.length:Int):=by have:=WN.out;omega
    gi_wp2
    refine⟨x_.out,NW.out,x9.out,L,cs,m.out.gP,m.out.at_.congr λi hi=>?_,m.out.box,m.out.cK,m.out.cm⟩;grind
 case done=>
  rintro V ⟨L,cs,H⟩ hB hK;obtain⟨bj,a_,q3⟩:=H.cK.all;obtain⟨kl,oY,oF⟩:=H.cm.all;have m:Hid _:=H;have TW:Hid _:=hK;have bP:Hid _:=hB;clear H hB hK;gi_wp2
  have hne:(w1.alloc (.cells #[.S a 0 l.length l.length] 25)).heap.size≠w.heap.size:=An;have WT:=(vaw V ⟨w.heap.size,0,none⟩ (.S a 0 l.length l.length) _ hne).trans TW.out;refine⟨AQ,.inl ⟨_,_,rfl,run_takeDeferred WT,?_⟩⟩;have xR:w.heap.size<a:=by simp at nl;omega
  have kk:iq (λe=>e≠27) V ((V.setCell ⟨w.heap.size,0,none⟩ (.S a 0 l.length l.length)).putObj (w1.alloc (.cells #[.S a 0 l.length l.length] 25)).heap.size (.deferred none)):=
   (iq.set m.out.cm AJ _ _).trans (.qf (M1 WT))
  refine⟨.agg #[.S a 0 l.length l.length],?_,_,rfl,apx (xx m.out.gP kk λi hi=>?_) m.out.at_ (kk.cells _ _ _ _ m.out.box AU) hl ?_,?_⟩
  .have axo:(V.setCell ⟨w.heap.size,0,none⟩ (.S a 0 l.length l.length)).heap[w.heap.size]?=some (.cells #[.S a 0 l.length l.length] 27):=m.out.cm.set _ _;have Q:((V.setCell ⟨w.heap.size,0,none⟩ (.S a 0 l.length l.length)).putObj (w1.alloc (.cells #[.S a 0 l.length l.length] 25)).heap.size (.deferred none)).cell? (.a w.heap.size 0)=some (.S a 0 l.length l.length):=C9 (M1 WT) (((ag.rules (T:=27) axo).1 0).trans rfl);simp at Q⊢;simp[results,results23,go_sem,Q]
  .rcases m.out.at_.Dd i hi with h|h|h<;>rw[h]<;>decide
  .intro r i F hi;simp[og,vat F];have R_:=U.out _ (vbe F);rw[vat AP];exact S.out _ (vbe F) _ AJ
  .exact((fz.trans (bW.mono AP)).trans bP.out).trans ((Below.setCell (vaa _ V) (p:=⟨w.heap.size,0,none⟩) AJ _).trans (t8 _ An))
