import Derived.Test.YtnkpmooengcinaaGreatP01
import Derived.RangeFuncBound
import Derived.Shelf.RegionOpen
import Derived.OwnWalkIn
import Derived.LoopNIn
import Derived.LoopIn
import Derived.Test.YtnkpmooengcinaaGreatProg
import Derived.Deep.Light
import Derived.Deep.RegionWith
import Derived.Test.YtnkpmooengcinaaGreatPAC
set_option linter.all false
set_option maxRecDepth 100000
set_option maxHeartbeats 16000000
namespace Go.Proofs.YtnkpmooengcinaaGreat
open Go.Proofs.Tryz
namespace av
def Carry(ρ:Ren)(w w':aH):Prop:=∀a a' v,dq ρ a a'->w.cell? a=some v->∃v',w'.cell? a'=some v'/\ap ρ v v'
variable{w w':aH}
theorem eo.carry{C:cy}{S:Sync}{ρ:Ren}(h:eo C S ρ w w'):Carry ρ w w':=λ_ _ _ r hv=>h.cell r hv
def wz{ao:Type}(R:aH->(Nat->Option Value)->ao->Prop):Prop:=
 ∀(ρ:Ren) w w' rd kN x,Carry ρ w w'->(∀j v,rd j=some v->∃v',kN j=some v'/\ap ρ v v')->R w rd x->R w' kN x
variable{v:Value}
section
variable{ρ:Ren}
def ap.px{k:IntKind}{n:Int}(h:ap ρ (.int k n) v):v=.int k n:=by cases h;rfl
def ap.XG{s:ByteArray}(h:ap ρ (.string s) v):v=.string s:=by cases h;rfl
def ap.XH{b:Bool}(h:ap ρ (.bool b) v):v=.bool b:=by cases h;rfl
end
theorem bw.carry{ao:Type}{sz:Nat}{R:aH->(Nat->Option Value)->ao->Prop}(n:wz R){ρ:Ren}(g:Carry ρ w w'){v':Value}(hv:ap ρ v v'){xs:List ao}(h:bw w sz R v xs):bw w' sz R v' xs:=by
 obtain⟨p,cap,rfl,f,k⟩:=h;cases hv with
 |h7=>refine⟨none,cap,U,f,λi hi=>?_⟩;obtain⟨b,off,e,_⟩:=k i hi;cases e
 |@slice a a' _ _ r=>refine⟨some a',cap,U,f,λi hi=>?_⟩;obtain⟨b,off,e,m⟩:=k i hi;cases e;obtain⟨r1,d,c⟩:=r;obtain⟨l,q,o⟩:=a';simp only at r1 d c;subst d;subst c;exact⟨l,off,U,n ρ w w' (λj=>w.cell? (.a b (off+i*sz+j))) _ _ g (λj v hv=>g ⟨b,off+i*sz+j,none⟩ ⟨l,off+i*sz+j,none⟩ v ⟨r1,U,U⟩ hv) m⟩
def BT:wz q9:=λρ w w' rd d x _ b h=>by obtain⟨v',a,c⟩:=b 0 _ h;rw[c.px]at a;exact a
def LS:wz BR:=λρ w w' rd d x _ b h=>by obtain⟨v',a,c⟩:=b 0 _ h;rw[c.XH]at a;exact a
def Qu:wz Ie:=λρ w w' rd d x _ b h=>by obtain⟨v',a,c⟩:=b 0 _ h.1;rw[c.XG]at a;exact⟨a,h.2⟩
theorem Qv:wz E8:=λρ w w' rd g x _ a h=>by obtain⟨v',c,e⟩:=a 0 _ h.1;obtain⟨f,b,d⟩:=a 1 _ h.2;rw[e.px]at c;rw[d.px]at b;exact⟨c,b⟩
theorem wA:wz E9:=by rintro ρ w w' rd s x c a ⟨b9,vs,t,h0,k,j,i,h,b⟩;obtain⟨r,d,b0⟩:=a 0 _ h0;obtain⟨q,a1,b1⟩:=a 1 _ k;obtain⟨g,o,p⟩:=a 2 _ j;obtain⟨f,m,n⟩:=a 3 _ i;obtain⟨e,l,cH⟩:=a 4 _ h;rw[b0.px]at d;rw[b1.px]at a1;exact⟨g,f,e,d,a1,o,m,l,bw.carry BT c p b.k7,bw.carry Qu c n b.jC,bw.carry LS c cH b.j_⟩
theorem fX.carry{C:cy}{D M:c5}{w0:aH}(h:fX C D M w w0)(g:eA C D M w):Carry (c8 D M) w w0:=by
 rintro a a' v ⟨⟨o,hd⟩,n,m⟩ hv;obtain⟨c,e,fr,f,j,d⟩:=wc hv;rw[o]at f;obtain⟨p,l,_⟩:=h.cells g hd f;refine⟨v,rP l (m▸j) (n▸d),?_⟩;obtain⟨ob,i,b⟩:=g _ hd;rw[f]at i;cases i;rcases b with b|b
 .cases b with|cells _ k _=>exact k.get _ _ _ d d
 .exact b.elim
end av
namespace lU
open av
structure fN where
 T:Nat->Bool
 K:Nat->Bool
 V:Nat->Option Value
 sl:TypeId->Bool
 d:Nat
structure eY(D:fN)(a b:Frame):Prop where
 eq:b={a with tmps:=b.tmps}
 size:b.tmps.size=a.tmps.size
 same:∀i,D.T i=false->b.tmps[i]?=a.tmps[i]?
 gone:a.mode=.run->∀i v,D.T i=true->a.tmps[i]?=some v->v=undef
 kept:a.mode=.run->∀i,D.K i=true->b.tmps[i]?=D.V i
def z_(D:fN):Operand->Bool
 | .tmp t=> !D.T t
 | _=>true
def XR(D:fN)(c:Call):Bool:=match c.callee with
 | .builtin .len=>match c.args.toList,c.argTypes.toList with
  | [.tmp t],[ty]=>D.T t&&D.sl ty
  | _,_=>false
 | _=>false
def XS(D:fN)(o:Oper):Bool:=match o.op with
 | .load _ (.tmp t)=>D.T t
 | .indexAddr _ (.tmp t) _=>D.T t
 | .call c=>XR D c
 | _=>false
def XT(D:fN)(o:Oper):Bool:=match o.op,o.dst with
 | .move (.tmp t),some d=>D.T t&&D.T d
 | _,_=>false
def QI(D:fN)(o:Oper):Bool:=match o.dst with
 |some d=> !D.T d
 |none=>true
def QJ(D:fN)(o:Oper):Bool:=match o.dst with
 |some d=> !D.K d
 |none=>true
def ik(D:fN)(o:Oper):Bool:=o.op.operands.all (z_ D)&& !(o.op matches .select ..)&&QI D o
def LX(D:fN)(ops:eQ)(o:Oper):Bool:=match o.guard with
 |some (g,_)=>match(ops[g]?).bind (·.dst)with
  |some t=> !D.T t
  |none=>true
 |none=>true
def sj(D:fN)(ops:eQ)(o:Oper):Bool:=LX D ops o&&QJ D o&&(ik D o||XT D o||XS D o)
def oJ(D:fN):Code->Bool
 | .region _ ops _=>ops.all (sj D ops)
 | .seq a b=>oJ D a&&oJ D b
 | .cond c a b=>z_ D c&&oJ D a&&oJ D b
 | .block _ c| .loop c=>oJ D c
 | .skip| .exit _ | .ret=>true
 | _=>false
def hQ(D:fN):Item->Bool
 | .code c=>oJ D c
 | .inBlock _=>true
 | .inLoop c=>oJ D c
 | .inRegion ops l=>l.all λi=>match ops[i]? with
  |some o=>sj D ops o
  |none=>true
 | _=>false
def BU(D:fN):ResultVar->Bool
 | .tmp t=> !D.T t
 | .cell t _=> !D.T t
structure mU(P:ck)(D:fN)(a:Frame):Prop where
 items:a.mode=.run->a.todo.all (hQ D)=true
 round:a.roundOf=none
 BV:∃fn,P.funcs[a.fn]?=some fn/\fn.results.all (BU D)=true
 sl:∀t,D.sl t=true->∃e,P.underlying t=some (.slice e)
 LY:P.inits.idxOf? a.fn=none
structure XU(P:ck)(D:fN)(a:Frame):Prop extends mU P D a where
 bc:a.mode=.run->∀ops i rest k,a.todo=.inRegion ops (i::rest)::k->∀o,ops[i]?=some o->∀d,o.dst=some d->D.T d=false
inductive mV(P:ck)(D:fN):List Frame->List Frame->Prop
 |here {a b:Frame} (h:eY D a b) (v:XU P D a) (l:fA) (hl:l.length=D.d):mV P D (a::l) (b::l)
 |there (a:Frame) {l l':fA} (h:mV P D l l'):mV P D (a::l) (a::l')
inductive mo(P:ck)(D:fN):Goroutine->Goroutine->Prop
 |same (g:uai) (hl:g.callers.length<D.d):mo P D g g
 |gU {a b:Frame} (h:eY D a b) (v:mU P D a) (cs:fA) (hl:cs.length=D.d) (s:GoStatus) (d:Option Dying):mo P D ⟨a,cs,s,d,none⟩ ⟨b,cs,s,d,none⟩
 |under (a:Frame) {cs bb:fA} (h:mV P D cs bb) (s:GoStatus) (d:Option Dying):mo P D ⟨a,cs,s,d,none⟩ ⟨a,bb,s,d,none⟩
def e6(P:ck)(D:fN)(s s':GStep):Prop:=∀g1 w1 es,s=.go g1 w1 es->g1.status=.running->g1.dying=none->∃Aa,s'=.go Aa w1 es/\mo P D g1 Aa
variable{g g':uai}{w:aH}{es:uav}{s:GStep}
section
variable{P:ck}{D:fN}{a b:Frame}
theorem e6.go(h:mo P D g g'):e6 P D (.go g w es) (.go g' w es):=λg1 w1 a e _ _=>by grind
theorem e6.ended{o:Outcome}:e6 P D (.ended o w es) s:=λ_ _ _ e=>by cases e
theorem e6.after{s':GStep}(es:uav)(h:e6 P D s s'):e6 P D (s.after es) (s'.after es):=λg1 w1 d e hs hd=>by
 cases s with
 |go g w a=>simp[GStep.after]at e;obtain⟨rfl,rfl,rfl⟩:=e;obtain⟨g',c,b⟩:=h g w a U hs hd;exact⟨g',by rw[c];rfl,b⟩
 | _=>cases e
def e6.uG(h:g.status≠ .running\/g.dying≠none):e6 P D (.go g w es) s:=λg1 w1 a e hs hd=>by grind
theorem eY.getD(h:eY D a b){t:Nat}(ht:D.T t=false):b.tmps.getD t undef=a.tmps.getD t undef:=by have:=h.same t ht;simp_all
theorem eY.eval(h:eY D a b){x:uaq}(c:z_ D x=true):b.eval x=a.eval x:=by
 cases x with
 |tmp t=>
  have ht:D.T t=false:=by grind[z_]
  simp only[Frame.eval];exact h.getD ht
 | _=>rfl
def eY.LZ(h:eY D a b)(d:a.mode=.run){t:Nat}(ht:D.T t=true):a.eval (.tmp t)=undef:=by simp[Frame.eval];cases c:a.tmps[t]? with|none=>rfl|some v=>rw[h.gone d t v ht c];rfl
theorem eY.todo(h:eY D a b):b.todo=a.todo:=by rw[h.eq]
theorem eY.fn(h:eY D a b):b.fn=a.fn:=by rw[h.eq]
theorem eY.mode(h:eY D a b):b.mode=a.mode:=by rw[h.eq]
theorem eY.kind(h:eY D a b):b.kind=a.kind:=by rw[h.eq]
theorem eY.defers(h:eY D a b):b.defers=a.defers:=by rw[h.eq]
theorem eY.roundOf(h:eY D a b):b.roundOf=a.roundOf:=by rw[h.eq]
def eY.ay(h:eY D a b){a' c:Frame}(f:a'.tmps=a.tmps)(d:c.tmps=b.tmps)(e:c={a' with tmps:=c.tmps})(g:a'.mode=.run->a.mode=.run):eY D a' c:=
 ⟨e,by rw[f,d];exact h.size,by rw[f,d];exact h.same,λx=>by rw[f];exact h.gone (g x),λx=>by rw[d];exact h.kept (g x)⟩
theorem eY.put(h:eY D a b){a' c:Frame}{d:Nat}{v u:Value}(k:a'.tmps=a.tmps.setIfInBounds d v)(j:c.tmps=b.tmps.setIfInBounds d u)(e:c={a' with tmps:=c.tmps})(l:a'.mode=a.mode)(hs:D.T d=false->u=v)(hg:a.mode=.run->D.T d=true->v=undef)(hk:a.mode=.run->D.K d=false):eY D a' c:=by
 refine⟨e,by rw[k,j];simpa using h.size,λi hi=>?_,λg i x hi f=>?_,λg i hi=>?_⟩
 .rw[k,j,vaq,vaq];by_cases hd:d=i
  .subst hd;simp[hs hi,h.size]
  .simp[hd];exact h.same i hi
 .rw[k,vaq]at f;by_cases hd:d=i
  .grind
  .simp[hd]at f;exact h.gone (l▸g) i x hi f
 .rw[j,vaq];by_cases hd:d=i
  .grind
  .simp[hd];exact h.kept (l▸g) i hi
def mU.ay{a':Frame}(h:mU P D a)(b:a'.fn=a.fn)(d:a'.roundOf=a.roundOf)(c:a'.mode=.run->a'.todo.all (hQ D)=true):mU P D a':=⟨c,d.trans h.round,by rw[b];exact h.BV,h.sl,by rw[b];exact h.LY⟩
def L0(h:eY D a b)(hi:mU P D a){v u:Value}(hn:a.mode≠ .run->u=v)(hd:a.mode=.run->∀ops i rest k,a.todo=.inRegion ops (i::rest)::k->∀o,ops[i]?=some o->∀d,o.dst=some d->(D.T d=false->u=v)/\(D.T d=true->v=undef)):eY D (a.finish v) (b.finish u)/\mU P D (a.finish v):=by
 have g:=hi.items;obtain⟨fn,tmps,todo,defers,mode,kind,ro⟩:=a;obtain⟨p,A,n,t,j,y,q⟩:=b;have e:=h.eq;simp at e;obtain⟨rfl,rfl,rfl,rfl,rfl,rfl⟩:=e;have g:j=.run->n.all (hQ D)=true:=g;have hn:j≠ .run->u=v:=hn;have hd:j=.run->∀ops i rest k,n=.inRegion ops (i::rest)::k->∀o,ops[i]?=some o->∀d,o.dst=some d->(D.T d=false->u=v)/\(D.T d=true->v=undef):=hd;cases n with
 |nil=>exact⟨h,hi⟩
 |cons x k=>
  simp only[vbi,vae]at g;cases x with
  |code c=>exact⟨h,hi⟩
  |inBlock id=>exact⟨h,hi⟩
  |inLoop c=>exact⟨h,hi⟩
  |inScope c=>exact⟨h,hi⟩
  |inRangeFunc l=>exact⟨h.ay U U U λx=>x,hi.ay U U λx=>(by cases(g x).1)⟩
  |endRangeFunc l=>exact⟨h,hi⟩
  |beginRound=>exact⟨h.ay U U U λx=>x,hi.ay U U λx=>(by cases(g x).1)⟩
  |call d w r s=>
   by_cases f:j=.run
   .cases(g f).1
   .obtain rfl:=hn f;exact⟨h.ay U U U λx=>x,hi.ay U U λx=>absurd x f⟩
  |extern r ay=>
   by_cases f:j=.run
   .cases(g f).1
   .obtain rfl:=hn f;exact⟨⟨U,U,λ_ _=>U,λx=>absurd x f,λx=>absurd x f⟩,hi.ay U U λx=>absurd x f⟩
  |inRegion ops l=>
   cases l with
   |nil=>exact⟨h,hi⟩
   |cons i rest=>
    have hv:mU P D (Frame.finish ⟨p,tmps,.inRegion ops (i::rest)::k,t,j,y,q⟩ v):=hi.ay U U (λx=>by
     simp_all[hQ,Frame.finish])
    refine⟨?_,hv⟩;cases m:ops[i]? with
    |none=>exact h.ay HW HW HW λx=>x
    |some o=>
     cases z:o.dst with
     |none=>exact h.ay Hu Hu Hu λx=>x
     |some d=>
      refine h.put (d:=d) (v:=v) (u:=u) ?_ ?_ ?_ U (λht=>?_) AN (λf=>?_)
      .grind[Frame.finish]
      .grind[Frame.finish]
      .grind[Frame.finish]
      .grind
      simp_all[hQ,sj,QJ]
def XV(h:eY D a b)(hi:mU P D a)(vs:List PanicEntry):eY D (a.raise vs) (b.raise vs)/\mU P D (a.raise vs):=by obtain⟨fn,tmps,todo,defers,mode,kind,ro⟩:=a;obtain⟨d,i,k,g,c,j,f⟩:=b;have e:=h.eq;simp at e;obtain⟨rfl,rfl,rfl,rfl,rfl,rfl⟩:=e;cases c<;>exact⟨h.ay U U U (λx=>by cases x),hi.ay U U (λx=>by cases x)⟩
theorem QK:∀{l:fA}{fr:Frame}{p:Value×List Frame},tryRecover fr l=some p->p.2.length=l.length
 | [],fr,p,e=>by obtain⟨i,h,f,d,c,b,g⟩:=fr;cases b<;>cases e
 |x::l,fr,p,e=>by
  cases a:fr.kind with
  |deferred=>
   simp[tryRecover,a]at e;split at e
   .cases e;rfl
   .cases e
  |wrapped=>simp only[tryRecover,a]at e;cases hq:tryRecover x l with|none=>rw[hq]at e;cases e|some q=>rw[hq]at e;cases e;simp[QK hq]
  | _=>obtain⟨i,h,f,d,c,b,g⟩:=fr;have a:b=_:=a;subst a;cases e
def akW:∀{cs bb:fA},mV P D cs bb->∀(fr:Frame),(tryRecover fr cs=none->tryRecover fr bb=none)/\∀v c1,tryRecover fr cs=some (v,c1)->∃r,tryRecover fr bb=some (v,r)/\mV P D c1 r:=by
 intro cs bb h;induction h with
 |@here a b h v l q=>
  intro fr;have J:=h.mode;have hk:=h.kind;obtain⟨fn,tmps,todo,defers,mode,kind,ro⟩:=a;obtain⟨j,H,n,m,g,f,k⟩:=b;have e:=h.eq;simp at e;obtain⟨rfl,rfl,rfl,rfl,rfl,rfl⟩:=e;cases c:fr.kind with
  |deferred=>
   simp[tryRecover,c];split
   .refine⟨AN,λd c1 e=>?_⟩;simp at e;obtain⟨rfl,rfl⟩:=e;refine⟨_,U,mV.here ?_ ?_ l q⟩
    .exact h.ay U U U AN
    .exact⟨v.tomU.ay U U AN,AN⟩
   .exact⟨λ_=>U,AN⟩
  |wrapped=>
   simp only[tryRecover,c];have B:∀l,tryRecover ⟨j,H,n,m,g,f,k⟩ l=tryRecover ⟨j,tmps,n,m,g,f,k⟩ l:=by intro l;cases l<;>cases f<;>rfl
   rw[B];cases hq:tryRecover ⟨j,tmps,n,m,g,f,k⟩ l with|none=>exact⟨λ_=>U,AN⟩|some p=>refine⟨AN,λd c1 e=>?_⟩;simp at e;obtain⟨rfl,rfl⟩:=e;exact⟨_,U,.here h v _ ((QK hq).trans q)⟩
  | _=>obtain⟨F,E,w,u,t,i,x⟩:=fr;have c:i=_:=c;subst c;exact⟨λ_=>U,λd c1 e=>DG⟩
 |@there a l I h y=>
  intro fr;cases c:fr.kind with
  |deferred=>
   simp[tryRecover,c];split
   .refine⟨AN,λd c1 e=>?_⟩;simp at e;obtain⟨rfl,rfl⟩:=e;exact⟨_,U,.there _ h⟩
   .exact⟨λ_=>U,AN⟩
  |wrapped=>simp only[tryRecover,c];obtain⟨A,z⟩:=y a;cases o:tryRecover a l with|none=>rw[A o];exact⟨λ_=>U,AN⟩|some p=>obtain⟨s,cw⟩:=p;obtain⟨K,C,h0⟩:=z s cw o;refine⟨AN,λd c1 e=>?_⟩;simp at e;obtain⟨rfl,rfl⟩:=e;rw[C];exact⟨_,U,.there _ h0⟩
  | _=>obtain⟨F,E,w,u,t,i,x⟩:=fr;have c:i=_:=c;subst c;exact⟨λ_=>U,λd c1 e=>DG⟩
end
inductive hE(P:ck)(D:fN):Frame->List Frame->Frame->List Frame->Prop
 |gU {a b:Frame} {cs:fA} (h:eY D a b) (v:XU P D a) (hl:cs.length=D.d):hE P D a cs b cs
 |under (a:Frame) {cs bb:fA} (h:mV P D cs bb):hE P D a cs a bb
variable{aN ao:Type}
section
variable{P:ck}{D:fN}{a b:Frame}{cs bb:fA}
theorem e6.A6{o:Outcome}{es':uav}:e6 P D (GStep.after es (.ended o w es')) s:=λ_ _ _ e=>by cases e
def e6.ite{c:Prop}[Decidable c]{A B a b:GStep}(e:c->e6 P D A a)(d:¬c->e6 P D B b):e6 P D (if c then A else B) (if c then a else b):=by grind
theorem hE.todo(h:hE P D a cs b bb):b.todo=a.todo:=by cases h with|gU h v c=>exact h.todo|under=>rfl
theorem hE.fn(h:hE P D a cs b bb):b.fn=a.fn:=by cases h with|gU h v c=>exact h.fn|under=>rfl
theorem hE.kind(h:hE P D a cs b bb):b.kind=a.kind:=by cases h with|gU h v c=>exact h.kind|under=>rfl
def hE.round(h:hE P D a cs b bb):b.roundOf=a.roundOf:=by cases h with|gU h v c=>exact h.roundOf|under=>rfl
theorem hE.mode(h:hE P D a cs b bb):b.mode=a.mode:=by cases h with|gU h v c=>exact h.mode|under=>rfl
theorem hE.defers(h:hE P D a cs b bb):b.defers=a.defers:=by cases h with|gU h v c=>exact h.defers|under=>rfl
def hE.x3(h:hE P D a cs b bb)(s:GoStatus)(d:Option Dying):mo P D ⟨a,cs,s,d,none⟩ ⟨b,bb,s,d,none⟩:=by cases h with|gU h v c=>exact .gU h v.tomU _ c _ _|under h=>exact .under _ h _ _
def hE.push(h:hE P D a cs b bb):mV P D (a::cs) (b::bb):=by cases h with|gU h v c=>exact .here h v _ c|under h=>exact .there _ h
def hE.dU(h:hE P D a cs b bb)(x:Value)(s:GoStatus)(d:Option Dying):mo P D ⟨a.finish x,cs,s,d,none⟩ ⟨b.finish x,bb,s,d,none⟩:=by
 cases h with
 |gU h v g=>obtain⟨l,j⟩:=L0 (v:=x) (u:=x) h v.tomU AN (λf ops i rest k e o c d hd=>⟨λ_=>U,λht=>by rw[v.bc f ops i rest k e o c d hd]at ht;cases ht⟩);exact .gU l j _ g _ _
 |under h=>exact .under _ h _ _
theorem hE.raise(h:hE P D a cs b bb)(vs:List PanicEntry)(s:GoStatus)(d:Option Dying):mo P D ⟨a.raise vs,cs,s,d,none⟩ ⟨b.raise vs,bb,s,d,none⟩:=by
 cases h with
 |gU h v c=>obtain⟨f,e⟩:=XV h v.tomU vs;exact .gU f e _ c _ _
 |under h=>exact .under _ h _ _
def hE.Bg(h:hE P D a cs b bb)(ds:List Deferred):hE P D {a with defers:=ds} cs {b with defers:=ds} bb:=by
 cases h with
 |gU h v c=>
  refine hE.gU ?_ ?_ c
  .refine h.ay U U ?_ λx=>x;rw[h.eq]
  .exact⟨v.tomU.ay U U v.items,v.bc⟩
 |under h=>exact .under _ h
def mV.data(h:mV P D cs bb):bb.map Frame.asData=cs.map Frame.asData:=by
 induction h with
 |@here a b h v l d=>
  have:b.asData=a.asData:=by rw[h.eq];rfl
  grind
 |there a h c=>grind
theorem mV.enter(h:mV P D cs bb)(l:fA):mV P D (l++cs) (l++bb):=by induction l with|nil=>exact h|cons x l a=>exact .there x a
def hE.recover(h:hE P D a cs b bb):(tryRecover a cs=none->tryRecover b bb=none)/\∀v c1,tryRecover a cs=some (v,c1)->∃f,tryRecover b bb=some (v,f)/\hE P D a c1 b f:=by
 cases h with
 |gU h v g=>
  have e:tryRecover b cs=tryRecover a cs:=by rw[h.eq];obtain⟨fn,tmps,todo,defers,mode,kind,ro⟩:=a;cases cs<;>cases kind<;>rfl
  rw[e];exact⟨id,λd c1 e=>⟨c1,e,.gU h v ((QK e).trans g)⟩⟩
 |under h=>obtain⟨l,k⟩:=akW h a;exact⟨l,λd c1 e=>(k d c1 e).imp λc⟨j,i⟩=>⟨j,.under _ i⟩⟩
def akX(h:hE P D a cs b bb)(g:Nat)(w:aH):e6 P D (early P a cs none g w) (early P b bb none g w):=by
 have notYet:∀w:aH,e6 P D (match w.heap[g]? with|some (.pending c elem)=>.go {frame:=a,callers:=cs,status:=.running,dying:=none} {w with heap:=w.heap.setIfInBounds g (.cells c elem)}| _=>.ended (.stuck "early: the variable does not wait" (a.pos P)) w)
  (match w.heap[g]? with|some (.pending c elem)=>.go {frame:=b,callers:=bb,status:=.running,dying:=none} {w with heap:=w.heap.setIfInBounds g (.cells c elem)}| _=>.ended (.stuck "early: the variable does not wait" (b.pos P)) w):=by
  intro w;split
  .exact .go (h.x3 _ _)
  .exact .ended
 have there:∀(f:ual)(w:aH)(l:fA),e6 P D (.go {frame:=Frame.enter P f #[] .early,callers:=l++a::cs,status:=.running,dying:=none} w) (.go {frame:=Frame.enter P f #[] .early,callers:=l++b::bb,status:=.running,dying:=none} w):=λf w l=>.go (.under _ (h.push.enter l) _ _);unfold early;simp only[h.kind];split
 .grind
 split
 .exact .ended
 split
 .grind
 split
 .grind
 split
 .exact .ended
 .grind
 .exact .ended
 .grind
 split
 .grind
 split
 .grind
 split
 .grind
 .grind
 .exact .ended
def XX{m:String}:e6 P D (endFatal P a cs none m w) s:=by unfold endFatal;intro g1 w1 es e hs hd;grind[dieOf]
theorem BX(hF:P.follows .rangeFuncRecover=true)(z:a.mode=.run)(h:hE P D a cs b bb)(s:Sem Next)(w:aH):e6 P D (stepG.apply P true a cs none s w) (stepG.apply P true b bb none s w):=by
 have ht:=h.todo;have c:∀r ay k,a.todo=.extern r ay::k->∃cs0 x,cs=cs0/\bb=x/\a=b/\mV P D cs bb:=by intro r ay k e;cases h with|gU h v o=>have:=v.items z;grind[hQ]|under h=>grind
 unfold stepG.apply;rw[ht,h.fn,h.kind];simp only[vbx];rcases hr:s.runT P w #[]with⟨r,es⟩;simp only[];refine e6.after _ ?_;cases r with
 |ok n w1=>
  cases n with
  |value v=>exact .go (h.dU _ _ _)
  |skip=>exact .go (h.dU _ _ _)
  |enter f args=>exact .go (.under _ h.push _ _)
  |callThen d resume saved wrapper=>
   simp only[];split
   .rename_i e;obtain⟨_,_,_,_,rfl,i⟩:=c _ _ _ e;exact .go (.under _ i _ _)
   .exact .go (.under _ h.push _ _)
  |row row args=>
   simp only[];split
   .rename_i e;obtain⟨_,_,_,_,rfl,i⟩:=c _ _ _ e;exact .go (.under _ i _ _)
   .exact .go (.under _ h.push _ _)
  |stack resume saved=>
   have j:(b::bb).toArray.map Frame.asData=(a::cs).toArray.map Frame.asData:=by have:=h.push.data;grind
   simp only[j];split
   .rename_i e;obtain⟨_,_,_,_,rfl,i⟩:=c _ _ _ e;exact .go (.under _ i _ _)
   .exact .go (.under _ h.push _ _)
  |round l f tmps assign body=>exact .go (.under _ h.push _ _)
  |recover=>
   obtain⟨B,A⟩:=h.recover;simp[h.round,hF];have key:e6 P D (match tryRecover a cs with
    |some (v,callers)=>.go {frame:=a.finish v,callers,status:=.running,dying:=none} w1
    |none=>.go {frame:=a.finish .nilIface,callers:=cs,status:=.running,dying:=none} w1)
    (match tryRecover b bb with
    |some (v,callers)=>.go {frame:=b.finish v,callers,status:=.running,dying:=none} w1
    |none=>.go {frame:=b.finish .nilIface,callers:=bb,status:=.running,dying:=none} w1):=by
    cases c:tryRecover a cs with|none=>rw[B c];exact .go (h.dU _ _ _)|some p=>obtain⟨y,cw⟩:=p;obtain⟨E,C,h0⟩:=A y cw c;rw[C];exact .go (h0.dU _ _ _)
   grind
  |sleep t=>exact .uG AN
  |spawn d=>
   simp only[];split<;>split
   all_goals first|exact λg1 w1 es e hs hd=>(by grind[endThrow,dieOf])|exact λ_ _ _ e _ _=>DG
  | _=>
   first
    |rename_i d
     have q:=(h.Bg (d::a.defers)).dU undef .running none;rw[ht,h.fn,h.kind]at q;simp[h.defers];exact .go q
    |intro g1 w1 es e
     cases e
 |halt o w1=>
  cases o with
  |panic v=>exact .go (h.raise _ _ _)
  |goexit=>exact .go (h.raise _ _ _)
  |blocked=>exact .uG AN
  |waiting=>exact .uG AN
  |fatal m=>exact XX
  |throw m=>exact .uG AN
  |unsupported u=>cases u with
   |initOrder g=>exact akX h g w1
   | _=>exact .ended
  | _=>exact .ended
theorem eY.wanted(h:eY D a b){ops:eQ}{o:Oper}(hg:LX D ops o=true):Region.wanted o (yielded ops b.tmps)=Region.wanted o (yielded ops a.tmps):=by
 unfold Region.wanted;cases e:o.guard with
 |none=>rfl
 |some iF=>
  obtain⟨g,want⟩:=iF;have d:yielded ops b.tmps g=yielded ops a.tmps g:=by
   unfold yielded;cases ht:(ops[g]?).bind (·.dst)with
   |none=>rfl
   |some t=>
    have c:D.T t=false:=by grind[LX]
    simp[h.same t c]
  grind
theorem QL{p:Item->Bool}{id:Nat}:∀{k k':uab},exitTo id k=some k'->k.all p=true->k'.all p=true
 | [],_,e,_=>DG
 |x::k,k',e,h=>by
  simp only[vbi,vae]at h;cases x with
  |inBlock a=>
   simp only[exitTo]at e;split at e
   .cases e;exact h.2
   .exact QL e h.2
  | _=>simp only[exitTo]at e;exact QL e h.2
inductive pB{ao:Type}:Result ao->Prop
 |stuck {m:String} {w:aH}:pB (.halt (.stuck m) w)
 |unsupported (u:Unsupported) {w:aH} (h:∀g,u≠ .initOrder g):pB (.halt (.unsupported u) w)
theorem pB.bind{m:Sem ao}{k:ao->Sem aN}(h:pB (m.run P w)):pB ((m>>= k).run P w):=by rw[mc];generalize m.run P w=r at h;cases h with|stuck=>exact .stuck|unsupported u a=>exact .unsupported u a
def pB.next{m:Sem ao}{k:ao->Sem aN}(h:pB (m.run P w)\/∃a,m.run P w=.ok a w/\pB ((k a).run P w)):pB ((m>>= k).run P w):=by
 rcases h with h|⟨a,e,h⟩
 .exact h.bind
 simp_all
def akZ(t:uaa)(i:Value)(w:aH):pB ((do pure (Next.value (<-Instr.indexAt t undef i)):Sem Next).run P w):=by
 refine pB.bind ?_;unfold Instr.indexAt;refine pB.next ?_;cases i with
 |int k n=>refine .inr ⟨(k,n),U,?_⟩;refine pB.next ?_;cases b:P.underlying t with|none=>exact .inl (by simp only[underlying,Go.program,Bind.bind,Sem.bind,Sem.run,b];exact .stuck)|some d=>refine .inr ⟨d,by simp_all[underlying,Go.program,Sem.run],?_⟩;cases d<;>exact pB.bind .stuck
 |pointer p=>cases p with
  |none=>exact .inl .stuck
  |some a=>exact .inl (.unsupported _ AN)
 | _=>exact .inl .stuck
def ak0{ev:uaj}{t:Nat}{c:Call}{at_ ty e:uaa}(a:c.callee=.builtin .len)(f:c.args=#[.tmp t])(b:c.argTypes=#[at_])(h:ev (.tmp t)=undef)(i:P.underlying at_=some (.slice e))(w:aH):pB ((do let d <-resolve ev c ty;invoke d.target d.args:Sem Next).run P w):=by
 have g:(Go.underlying at_).run P w=.ok (.slice e) w:=by simp_all[underlying,Go.program,Sem.run]
 simp[resolve,invoke,builtin,Builtin.len_,go_sem,a,f,b,h,g,undef];constructor
theorem ak1(hF:P.follows .rangeFuncRecover=true)(g:a.mode=.run)(h:eY D a b)(hv:mU P D a){ops:eQ}{i:Nat}{rest:uag}{k:uab}(ht:a.todo=.inRegion ops (i::rest)::k){o:Oper}(s:ops[i]?=some o)(A:sj D ops o=true)(cs:fA)(z:cs.length=D.d)(w:aH):e6 P D (stepG.oper P true a cs none w) (stepG.oper P true b cs none w):=by
 have Q:a.oper?=some o:=FJ;have ob:b.oper?=some o:=by simp[Frame.oper?,h.todo,ht,s]
 have B:=hv.round;have L:b.roundOf=none:=h.roundOf.trans B;unfold stepG.oper;simp[Q,ob,B,L];simp[sj]at A;rcases A.2 with(p|j)|hs
 .simp only[ik,vae,Bool.not_eq_true']at p;have hd:∀d,o.dst=some d->D.T d=false:=λd e=>by grind[QI]
  have M:∀c N,o.op≠ .select c N:=AN;have I:execOp b.eval o=execOp a.eval o:=execOp_congr o M λx H=>h.eval (vap.1 p.1.1 x H);rw[I];refine BX hF g (.gU h ⟨hv,λ_ ops' F rest' k' e o' m d l=>?_⟩ z) _ _;grind
 .unfold XT at j;split at j
  .rename_i t d f K;simp at j;have q:=L0 (v:=a.eval (.tmp t)) (u:=b.eval (.tmp t)) h hv AN (λ_ ops' F rest' k' e o' m T l=>by
    rw[ht]at e;cases e;rw[s]at m;cases m;rw[K]at l;cases l;exact⟨AN,λ_=>h.LZ g j.1⟩)
   have C:execOp a.eval o=pure (.value (a.eval (.tmp t))):=by grind[execOp]
   have O:execOp b.eval o=pure (.value (b.eval (.tmp t))):=by grind[execOp]
   rw[C,O];simp only[stepG.apply,vbx,Sem.runT,pure,h.fn,h.kind];exact .after _ (.go (.gU q.1 q.2 _ z _ _))
  grind
 .have hst:∀w,pB ((execOp a.eval o).run P w):=by
   unfold XS at hs;split at hs
   .rename_i t x f;intro w;simp only[execOp,f,h.LZ g hs];exact .stuck
   .rename_i t x y f;intro w;simp only[execOp,f,h.LZ g hs];exact akZ _ _ _
   .rename_i c f;intro w;simp only[execOp,f];unfold XR at hs;split at hs
    .rename_i J;split at hs
     .rename_i t ty S R;simp at hs;obtain⟨e,n⟩:=hv.sl _ hs.2;exact ak0 J AN AN (h.LZ g hs.1) n w
     grind
    grind
   grind
  have:=hst w;simp only[stepG.apply,vbx];rcases hr:(execOp a.eval o).runT P w #[]with⟨r,es⟩;have E:(execOp a.eval o).run P w=r:=by simp_all
  rw[E]at this;cases this with|stuck=>exact e6.A6|unsupported u n=>grind[e6.A6]
def eY.xt(h:eY D a b)(k:uab):eY D {a with todo:=k} {b with todo:=k}:=h.ay U U (by rw[h.eq]) λx=>x
def eY.uk(h:eY D a b){m:FrameMode}(c:m≠ .run):eY D {a with mode:=m} {b with mode:=m}:=h.ay U U (by rw[h.eq]) AN
def mU.uk(h:mU P D a){m:FrameMode}(b:m≠ .run):mU P D {a with mode:=m}:=h.ay U U AN
def mU.xt(h:mU P D a){k:uab}(hk:k.all (hQ D)=true):mU P D {a with todo:=k}:=h.ay U U λ_=>hk
theorem ak2(hF:P.follows .rangeFuncRecover=true)(main:Bool)(z:a.mode=.run)(h:eY D a b)(hv:mU P D a)(cs:fA)(f:cs.length=D.d)(w:aH):e6 P D (stepG.exec P main true a cs none w) (stepG.exec P main true b cs none w):=by
 have m:=hv.items z;have g:∀k:List Item,k.all (hQ D)=true->e6 P D (.go {frame:={a with todo:=k},callers:=cs,status:=.running,dying:=none} w) (.go {frame:={b with todo:=k},callers:=cs,status:=.running,dying:=none} w):=λk hk=>.go (.gU (h.xt k) (hv.xt hk) _ f _ _);have n:e6 P D (.go {frame:={a with mode:=.returning},callers:=cs,status:=.running,dying:=none} w) (.go {frame:={b with mode:=.returning},callers:=cs,status:=.running,dying:=none} w):=.go (.gU (h.uk Ab) (hv.uk Ab) _ f _ _);have ht:=h.todo;have y:=hv.round;have A:b.roundOf=none:=h.roundOf.trans y;unfold stepG.exec;rw[ht];rw[ht]at n;cases hk:a.todo with
 |nil=>grind
 |cons x k=>
  rw[hk]at m;simp only[vbi,vae]at m;obtain⟨d,j⟩:=m;cases x with
  |code c=>
   have d:oJ D c=true:=d;cases c with
   |ret=>grind
   |skip=>grind
   |seq c1 cg=>simp_all[oJ,hQ]
   |cond c t e=>
    simp[oJ]at d;simp[h.eval d.1.1];split
    .rename_i C _;refine g _ ?_;simp only[vbi,hQ,vae];grind
    .exact .ended
   |block id c=>exact g _ (by simp only[vbi,hQ,vae];exact⟨d,PA,j⟩)
   |loop c=>exact g _ (by simp only[vbi,hQ,vae];exact⟨d,d,j⟩)
   |exit id=>simp only[];cases E:exitTo id k with|none=>simp only[Option.elim,y,A];exact .ended|some k'=>grind[QL]
   |region id ops draw=>
    have B:∀l:List Nat,(Item.inRegion ops l::k).all (hQ D)=true:=λl=>by rw[vbi,vae];refine⟨?_,j⟩;simp[hQ];intro i _;cases s:ops[i]? with|none=>rfl|some o=>exact vap.1 d o (vbf s)
    cases draw with
    |false=>grind
    |true=>
     simp only[h.fn,Bool.not_true,vai,vcj];split
     .rename_i t _ _;have q:mo P D ⟨{a with todo:=_},cs,.running,none,none⟩ ⟨{b with todo:=_},cs,.running,none,none⟩:=.gU (h.xt _) (hv.xt (B (Region.schedule (P.follows .mixedOrders) ops t))) cs f .running none;rw[h.fn]at q;exact .go q
     .exact .ended
   | _=>cases d
  |inBlock id=>grind
  |inLoop c=>simp_all[hQ]
  |inRegion ops l=>
   cases l with
   |nil=>grind
   |cons i rest=>
    simp only[hQ,vbi,vae]at d;simp only[];cases s:ops[i]? with
    |none=>simp;obtain⟨r,p⟩:=L0 (v:=undef) (u:=undef) h hv AN AN;exact .go (.gU r p _ f _ _)
    |some o=>
     have F:sj D ops o=true:=AN;have hg:LX D ops o=true:=by simp_all[sj]
     simp[h.wanted hg];split
     .grind[ak1]
     .obtain⟨r,p⟩:=L0 (v:=undef) (u:=undef) h hv AN AN;exact .go (.gU r p _ f _ _)
  | _=>cases d
theorem Fh(c:mV P D cs bb)(main:Bool)(fr:Frame)(v:Value)(w:aH):e6 P D (doReturn P main fr cs none v w) (doReturn P main fr bb none v w):=by
 cases c with
 |there x h=>
  simp[doReturn];split
  .exact .go (.under _ h _ _)
  .exact .go (.under _ h _ _)
  .exact .go (.under _ h _ _)
  .exact .go (.under _ h _ _)
 |@here x y h hv l a=>
  have b:=h.mode;simp[doReturn];have dU:e6 P D (.go {frame:=x.finish v,callers:=l,status:=.running,dying:=none} w) (.go {frame:=y.finish v,callers:=l,status:=.running,dying:=none} w):=.go ((hE.gU h hv a).dU v _ _);split
  .grind
  .grind
  .exact .go (.gU h hv.tomU _ a _ _)
  .rw[b];split
   .split
    .exact .go (.gU (h.uk Ab) (hv.tomU.uk Ab) _ a _ _)
    .exact .go (.gU (h.uk Ab) (hv.tomU.uk Ab) _ a _ _)
   .exact .go (.gU h hv.tomU _ a _ _)
def XY(h:hE P D a cs b bb)(d:Deferred)(w:aH):e6 P D (callDeferred P a cs none d w) (callDeferred P b bb none d w):=by
 have x3:=h.x3 .running none;unfold callDeferred;rw[h.mode,h.fn];refine e6.ite (λ_=>.ended) (λ_=>?_);rcases hr:(invoke d.target d.args).runT P w #[]with⟨r,es⟩;simp only[];refine e6.after _ ?_;cases r with
 |ok n w1=>
  cases n with
  |enter f args=>exact .go (.under _ h.push _ _)
  |round l f tmps assign body=>exact .go (.under _ h.push _ _)
  |callThen d resume saved wrapper=>exact .go (.under _ h.push _ _)
  |row row args=>exact .go (.under _ h.push _ _)
  |recover=>
   obtain⟨o,k⟩:=h.recover;simp only[];cases g:tryRecover a cs with
   |none=>rw[o g];cases a.mode<;>exact .go x3
   |some p=>
    obtain⟨i,cw⟩:=p;obtain⟨u,q,h0⟩:=k i cw g;rw[q];cases a.mode
    .exact .go x3
    .exact .go (h0.x3 _ _)
    .exact .go x3
  |sleep t=>exact .uG AN
  |alone on v=>cases on<;>exact λ_ _ _ e=>DG
  |timer op=>exact .ended
  |collect=>exact λ_ _ _ e=>DG
  |watch v=>exact λ_ _ _ e=>DG
  |coroswitch c ex=>cases ex<;>exact λ_ _ _ e=>DG
  |newcoro c d=>exact .ended
  |stack r s=>exact .ended
  | _=>exact .go x3
 |halt j w1=>cases j with|panic v=>exact .go (h.raise _ _ _)|goexit=>exact .go (h.raise _ _ _)|blocked=>exact .uG AN|waiting=>exact .uG AN|fatal m=>exact XX|throw m=>exact .uG AN| _=>exact .ended
theorem XZ{f g:ao->Sem aN}:∀{l:List ao},(∀x∈l,f x=g x)->l.mapM f=l.mapM g
 | [],_=>rfl
 |x::l,h=>by rw[List.mapM_cons,List.mapM_cons,h x Ab,XZ λy a=>h y (by simp[a])]
def ak4(h:eY D a b){fn:Func}(c:fn.results.all (BU D)=true):results fn b.tmps=results fn a.tmps:=by
 unfold results;congr 1
 rw[vci,vci];congr 1
 refine XZ λr e=>?_;have d:=vap.1 c r AN;cases r with|tmp t=>simp[h.getD (show D.T t=false by grind[BU])]|cell x t=>simp[h.getD (show D.T x=false by grind[BU])]
theorem ak5(main:Bool)(m:a.mode≠ .run)(h:eY D a b)(hv:mU P D a)(cs:fA)(e:cs.length=D.d)(w:aH):e6 P D (unwind P main a cs none w) (unwind P main b cs none w):=by
 have i:hE P D a cs b cs:=.gU h ⟨hv,AN⟩ e;unfold unwind;rw[h.defers];cases hd:a.defers with
 |nil=>
  simp only[h.mode];split
  .grind
  .rename_i chain _;have f:b.catches P=a.catches P:=by rw[h.eq];rfl
   rw[f];split
   .exact .ended
   cases cs with
   |cons c rest=>exact .go (.same _ AN)
   |nil=>
    simp only[];split
    .exact .uG AN
    split
    .exact .uG AN
    .exact .ended
    .exact .ended
  .obtain⟨fn,k,j⟩:=hv.BV;simp only[h.fn,k,ak4 h j];rcases(results fn a.tmps).runT P w #[]with⟨r,es⟩;simp only[];refine e6.after _ ?_;cases r with
   |ok v w1=>
    simp only[doReturn,h.kind,h.fn];cases cs with
    |cons c rest=>simp only[];cases a.kind<;>exact .go (.same _ AN)
    |nil=>
     simp only[];split
     .grind
     .exact .ended
     .rw[hv.LY];split
      .exact .uG AN
      .exact .ended
   |halt e w1=>cases e<;>exact .ended
 |cons d ds=>
  obtain⟨g,args⟩:=d;have f:=XY (i.Bg ds) ⟨g,args⟩ w;cases g with
  |collected l=>simp only[h.fn];rcases(Instr.takeDeferred l).runT P w #[]with⟨r,es⟩;simp only[];refine e6.after _ ?_;cases r with|ok calls w1=>have q:=(i.Bg (calls++ds)).x3 .running none;rw[h.fn]at q;exact .go q|halt e w1=>exact .ended
  | _=>exact f
theorem ak6(main:Bool)(c:mV P D cs bb)(w:aH):e6 P D (unwind P main a cs none w) (unwind P main a bb none w):=by
 have f:hE P D a cs a bb:=.under a c;unfold unwind;cases hd:a.defers with
 |nil=>
  simp only[];split
  .exact .ended
  .rename_i chain _;split
   .exact .ended
   cases c with
   |@here x y h hv l b=>obtain⟨i,g⟩:=XV h hv.tomU chain;exact .go (.gU i g _ b _ _)
   |there x h=>exact .go (.under _ h _ _)
  .cases P.funcs[a.fn]? with|none=>grind[Fh]|some fn=>simp only[];rcases(results fn a.tmps).runT P w #[]with⟨r,es⟩;simp only[];refine e6.after _ ?_;cases r with|ok v w1=>grind[Fh]|halt b w1=>cases b<;>exact .ended
 |cons d ds=>
  obtain⟨e,args⟩:=d;have j:=XY (f.Bg ds) ⟨e,args⟩ w;cases e with
  |collected k=>simp only[];rcases(Instr.takeDeferred k).runT P w #[]with⟨r,es⟩;simp only[];refine e6.after _ ?_;cases r with|ok calls w1=>exact .go (.under _ c _ _)|halt b w1=>exact .ended
  | _=>grind
theorem ak7(hF:P.follows .rangeFuncRecover=true)(main:Bool)(m:mV P D cs bb)(n:a.mode=.run)(w:aH):e6 P D (stepG.exec P main true a cs none w) (stepG.exec P main true a bb none w):=by
 have q:hE P D a cs a bb:=.under a m;have go:∀(fr:Frame)(w:aH)(es:uav),e6 P D (.go {frame:=fr,callers:=cs,status:=.running,dying:=none} w es) (.go {frame:=fr,callers:=bb,status:=.running,dying:=none} w es):=λfr w es=>.go (.under _ m _ _);unfold stepG.exec;cases hk:a.todo with
 |nil=>cases h:a.roundOf with|none=>grind|some b=>simp only[];rcases(Instr.endRound b (none)).runT P w #[]with⟨r,es⟩;simp only[];refine e6.after _ ?_;cases r with|ok v w1=>grind[Fh]|halt g w1=>exact .ended
 |cons x k=>
  cases x with
  |code c=>
   cases c with
   |ret=>cases h:a.roundOf with|none=>grind|some b=>simp only[];rcases(Instr.endRound b (some .ret)).runT P w #[]with⟨r,es⟩;simp only[];refine e6.after _ ?_;cases r with|ok v w1=>grind[Fh]|halt g w1=>exact .ended
   |cond c t e=>
    simp only[];split
    .grind
    .exact .ended
   |exit id=>
    simp only[];cases o:exitTo id k with
    |none=>
     cases h:a.roundOf with
     |none=>simp only[Option.elim];first|exact go _ _ _ |exact .ended
     |some b=>simp only[Option.elim];rcases(Instr.endRound b (some (.exit id))).runT P w #[]with⟨r,es⟩;simp only[];refine e6.after _ ?_;cases r with|ok v w1=>grind[Fh]|halt g w1=>exact .ended
    |some k'=>grind
   |goto l=>
    simp only[];cases o:gotoIn l k with
    |none=>
     cases h:a.roundOf with
     |none=>simp only[Option.elim];first|exact go _ _ _ |exact .ended
     |some b=>simp only[Option.elim];rcases(Instr.endRound b (some (.goto l))).runT P w #[]with⟨r,es⟩;simp only[];refine e6.after _ ?_;cases r with|ok v w1=>grind[Fh]|halt g w1=>exact .ended
    |some k'=>grind
   |rangeFunc f params assign body=>
    simp only[];rcases(Instr.enterLoop a.fn a.tmps params assign body a.roundOf).runT P w #[]with⟨r,es⟩;simp only[];refine e6.after _ ?_;cases r with
    |ok lm w1=>obtain⟨l,mk⟩:=lm;exact BX hF (by exact n) (hE.under _ m) _ _
    |halt g w1=>exact .ended
   |refuse p=>exact .ended
   |region id ops draw=>
    cases draw with
    |false=>grind
    |true=>
     simp only[Bool.not_true,vai,vcj];split
     .grind
     .exact .ended
   | _=>grind
  |inRegion ops l=>
   cases l with
   |nil=>grind
   |cons i rest=>
    simp only[];split
    .unfold stepG.oper;split
     .exact .ended
     .split
      .grind[BX]
      grind[BX]
    grind
  |inRangeFunc l=>exact .ended
  |beginRound=>grind[BX]
  |endRangeFunc l=>simp only[];rcases(Instr.endLoop l).runT P w #[]with⟨r,es⟩;simp only[];refine e6.after _ ?_;cases r with|ok j w1=>grind|halt g w1=>cases g with|panic v=>grind| _=>exact .ended
  |call d wr rs sv=>grind[BX]
  |extern row args=>simp only[];cases Extern.next row with|none=>exact .ended|some e=>grind[BX]
  | _=>grind
def ak8(hF:P.follows .rangeFuncRecover=true)(main:Bool)(h:mo P D g g')(hn:D.d<=g.callers.length)(hd:g.dying=none)(w:aH):e6 P D (stepG P main g w) (stepG P main g' w):=by
 cases h with
 |same g c=>omega
 |@gU a b h hv cs c s d=>obtain rfl:d=none:=hd;unfold stepG;simp[h.mode];grind[ak2,ak5]
 |@under a cs bb e s d=>obtain rfl:d=none:=hd;unfold stepG;grind[ak7,ak6]
end
def mo.parts{P:ck}{D:fN}(h:mo P D g g'):g'.status=g.status/\g'.dying=g.dying:=by cases h<;>exact⟨U,U⟩
def ow.var{P:ck}{D:fN}(hF:P.follows .rangeFuncRecover=true){main:Bool}{K:c5}{post:aV->Prop}{base:fA}(r:D.d<=base.length){X:aV}(h:ow P main K (HD base) post X):
 ∀g',mo P D X.g g'->iH P main K (λg=>∃Y,post Y/\mo P D Y.g g.g/\g.w=Y.w/\g.mine=Y.mine) ⟨g',X.w,X.mine⟩:=by
 induction h with
 |@done X h=>exact λg' hs=>.done ⟨X,h,hs,U,U⟩
 |@step X inv ok _ o=>
  intro g' hs;obtain⟨fr,cs,hg⟩:=inv;have hstep:∀w' g1 w1 es,stepG P main X.g w'=.go g1 w1 es->g1.status=.running->g1.dying=none->∃c,stepG P main g' w'=.go c w1 es/\mo P D g1 c:=λw' g1 w1 es e q p=>ak8 hF main hs (by rw[hg];simp[bf];omega) (by rw[hg];rfl) w' g1 w1 es e q p;refine .step (λw' b=>?_) (λw' g1 w1 es b e=>?_)
  .obtain⟨g1,w1,es,e,a⟩:=ok w' ⟨b.heap,b.size,b.env⟩;obtain⟨c,f,d⟩:=hstep w' g1 w1 es e a.run a.nM;obtain⟨n,m⟩:=d.parts;exact⟨c,w1,es,f,n.trans a.run,m.trans a.nM,a.kept,a.size,a.os,a.output,a.tape,a.drawn,a.evs⟩
  .have i:j4 K X w':=⟨b.heap,b.size,b.env⟩;obtain⟨j,w2,l,k,a⟩:=ok w' i;obtain⟨c,f,d⟩:=hstep w' j w2 l k a.run a.nM;rw[f]at e;cases e;exact o w' j _ _ i k _ d
def mV.lt{P:ck}{D:fN}{l b:fA}(h:mV P D l b):D.d<l.length:=by induction h with|here h v l d=>simp;omega|there a h c=>simp;omega
end lU
namespace bB
open RowKit Shelf av
variable{W W':aH}
section
attribute [local go_sem] Oper.semAt_some
def Rc:(aa prog false).funcs[(103:Nat)]?=some f103:=bo (upd:=false) func103 AT
def Typed(n₀:Nat)(e t:uaa)(W W':aH):Prop:=∀(b:Nat)(c:dC)(u:uaa)(z:ubo),W.heap[b]?=some (Obj.cells c u z)->(b<n₀\/u≠e/\u≠t)->W'.heap[b]?=some (Obj.cells c u z)
def Typed.keep{n₀:Nat}{e t:uaa}(h:fO W W'):Typed n₀ e t W W':=λb c u z x _=>h.cells b c u z x
def Me{w1:aH}{n₀ B:Nat}{t e:uaa}{size:Nat}{v:Value}(v':Value){k:Nat}{xs:uam}{tmp:Obj}(hv:Boxed W B t v)(i:W.ownsRow n₀ e size v k xs)(a:(W.alloc tmp).grownBy w1 v.ownBlock)(n:n₀<=B):
 Typed n₀ e t W (w1.setCell ⟨B,0,none⟩ v'):=by
 intro b c u z x j;have m:b≠B:=by rintro rfl;rw[show W.heap[b]?=_ from hv]at x;grind
 have d:=jk x;have f:some b≠v.ownBlock:=by
  rcases i.2 with⟨rfl,_⟩|⟨g,cap,bc,rfl,l,hg,_⟩
  .simp[Value.ownBlock]
  .intro h;simp[Value.ownBlock]at h;grind
 have o:=a.block b BC f;simp_all[Below.heap_alloc,World.setCell,vay,Ne.symm]
structure Fv(n₀:Nat)(Row:uao):Prop where
 shape:∀t W x,Row t W x->∃p aJ pc q dY eO,x=.agg #[.slice p aJ pc,.slice q dY eO]
 keep:∀t W W' x,Row t W x->Typed n₀ 67 57 W W'->Row t W' x
def two(xs:uay):List Value:=xs.flatMap λp=>[p.1,p.2]
def Yq(xs:uay):(two xs).length=xs.length*2:=by induction xs with|nil=>rfl|cons a l b=>grind[two]
theorem Re(xs:uay)(p:Value×Value):two (xs++[p])=two xs++[p.1,p.2]:=by simp[two]
structure wL(Row:uao)(n₀ t:Nat)(v:Value)(W:aH):Prop where
 own:∃xs:List (Value×Value),xs.length=t/\W.ownsRow n₀ 67 2 v t (two xs)/\∀j(h:j<xs.length),Row j W (.agg #[xs[j].1,xs[j].2])
theorem IC:(prog.info? 67).map (λi=>(i.zero,i.size,i.bytes))=some (some (.agg #[.N,.N]),2,48):=by kernel_rfl
def wL.nu{Row:uao}{n₀ t:Nat}(f:Fv n₀ Row){v:Value}(h:wL Row n₀ t v W)(hk:fO W W'):wL Row n₀ t v W':=by obtain⟨xs,d,a,c⟩:=h;refine⟨xs,d,⟨a.1,a.2.imp_right ?_⟩,λj b=>f.keep _ _ _ _ (c j b) (.keep hk)⟩;rintro⟨g,cap,bc,a1,k,i,e⟩;exact⟨g,cap,bc,a1,k,hk.cells _ _ _ _ i,e⟩
def B9{l:Nat}{d:Option (List Deferred)}{o:Obj}(h:W.heap[l]?=some (.deferred d)):fO W (W.putObj l o):=
 ⟨Ab,λb c e z x=>by
  grind[World.putObj_heap_other]⟩
def hJ(p:Prop):Prop:=p
def qr{p:Prop}(h:hJ p):p:=h
def alF{Row:uao}{gf:Nat}{lb:dC}{N:Nat}(a5:N<=300)(w:aH)(d:Fv w.heap.size Row)(F:∀args w,(callFunc gf args).run (aa prog false) w=.ok (.enter gf args) w)(L:BZ 2 (aa prog false) gf lb Row N w.heap.size w):
 Calls (aa prog false) 103 #[.func (.func gf) #[] lb] w λe w'=>∃v,e=.returned v/\wL Row w.heap.size N v w'/\cC w w':=by
 refine(vea (n:=3)).1 ?_;refine vcm Rc rfl trivial ?_;simp[vbb];gi_wp2
 have P:Boxed (w.alloc (.cells #[.N] 57)) w.heap.size 57 (.N):=Boxed.new w _ _;refine X3 (n:=3) (gf:=gf) (lb:=lb) (w0:=w) (n₀:=w.heap.size) (N:=N) (Row:=Row) rfl F L ((vaa _ w).alloc IB _) Ab (λ_=>False) AN
  (λt W=>∃v,Boxed W w.heap.size 57 v/\wL Row w.heap.size t v W)
  (λt W W' h hk _=>by
   obtain⟨v,r,o⟩:=h;exact⟨v,hk.cells _ _ _ _ r,o.nu d hk⟩)
  ⟨_,P,⟨[],rfl,vbo _ _ _ _,AN⟩⟩
  (λt x a' W=>∃c p aJ pc q b a,W.heap[c]?=some (Obj.cells #[.slice p aJ pc,.slice q b a] 67 (0,0))/\x=.agg #[.slice p aJ pc,.slice q b a]/\Row t W x/\∃z,a'={tmps:=#[.func (.func gf) #[] lb,undef,.N,.P w.heap.size 0,.P c 0,.func (.func gf) #[] lb,z,.U,.U,.U,.U,.U,.U,.U,.U],defers:=[]})
  (λt x a' W W' h hk _=>by
   obtain⟨c,p,aJ,pc,q,b,a,r,o,X,V⟩:=h;exact⟨c,p,aJ,pc,q,b,a,hk.cells _ _ _ _ r,o,d.keep _ _ _ _ X (.keep hk),V⟩)
  ?assign ?body ?done
 case assign=>
  rintro l t x W K- -f hK;obtain⟨p,aJ,pc,q,b,a,rfl⟩:=d.shape _ _ _ f;gi_wp2
  have D:cC W (W.alloc (.cells #[.slice p aJ pc,.slice q b a] 67)):=(vaa _ W).alloc IB _;exact hK _ _ D ⟨W.heap.size,p,aJ,pc,q,b,a,vbm W _,rfl,d.keep _ _ _ _ f (.keep (.below D)),_,rfl⟩
 case body=>
  rintro l t x a' W ⟨v,hv,⟨xs,hlen,f,lB⟩⟩ S ⟨c,p,aJ,pc,q,b,a,y,rfl,R,z,rfl⟩ O;obtain⟨Q,hi,J,I,H⟩:=vbt IC;have i:=hv.cell;have E:W.cell? (.a c 0)=some (.slice p aJ pc):=GO;have Y:W.cell? (.a c 1)=some (.slice q b a):=GO;gi_wp2_with (gi_at_builtin;apply qr)
  unfold hJ;refine wpListIn_append_own _ rfl _ _ 57 rfl w.heap.size 67 Q _ 2 48 ((qc _ _ _).trans underlying57) hi J I H rfl AX v t (two xs) rfl (f.alloc _) ⟨W.heap.size,0,none⟩ 1 1 [.slice p aJ pc,.slice q b a] rfl rfl ?cel ?one B_ AY BC ?_
  case cel=>
   have kn:=vbm W (.cells #[.slice p aJ pc,.slice q b a] 67);intro j u g;rcases j with _ | _ |j
   .simp at g;subst g;show World.cell? _ ⟨W.heap.size,0,none⟩=_;simp_all
   .simp at g;subst g;show World.cell? _ ⟨W.heap.size,1,none⟩=_;simp_all
   grind
  case one=>
   intro u C;simp at C;rcases C with rfl|rfl<;>rfl
  intro v' w1 m k _;obtain⟨g',cap',rfl⟩:=vdj m;obtain⟨s,M,tH,dW,cE⟩:=hv.appended AX f O IB m k;have B:=Me (.S g' 0 (t+1) cap') hv f k IB;have km:=s.cell;have nZ:=s.frozen;have Fw:¬(300:Int)<(t:Int)+1:=AY;clear m k f hv i E Y y s;gi_wp2
  refine⟨_,M,⟨xs++[(.slice p aJ pc,.slice q b a)],AN,?_,λj g=>?_⟩⟩
  .grind[Re]
  .by_cases A:j<xs.length
   .rw[vdb A];exact d.keep _ _ _ _ (lB j A) B
   .have Z:j=xs.length:=by grind
    subst Z;simp;rw[hlen];exact d.keep _ _ _ _ R B
 case done=>
  rintro W ⟨v,hv,T⟩ U hK;have i:=hv.cell;gi_wp2
  refine⟨Ab,.inl ⟨_,_,rfl,vcw hK,?_⟩⟩;refine⟨_,results_tmp rfl _ _ _,v,rfl,T.nu d (B9 hK),?_⟩;exact(((vaa _ w).alloc IB _).trans U).trans (pC _ Ab)
end
structure dM where
 dN:Bool
 num:Int
 cY:Int
 text:ByteArray
abbrev jZ(d:dM):Value:=.agg #[.bool d.dN,.I d.num,.I d.cY,.string d.text]
def lW:ByteArray:=⟨#[]⟩
def uP:dM:=⟨true,0,0,lW⟩
def Rf(_:aH)(rd:uar)(d:dM):Prop:=
 rd 0=some (.bool d.dN)/\rd 1=some (.I d.num)/\rd 2=some (.I d.cY)/\rd 3=some (.string d.text)/\d.text.size<=9223372036854775807
abbrev n2(w:aH):=bw w 4 Rf
def mz(c:bQ)(i:Nat):dM:=
 if c.j_.getD i false then uP else if c.kind=3 then⟨false,0,0,c.jC.getD i lW⟩else⟨false,c.k7.getD i 0,c.cY,lW⟩
def Yr:(aa prog false).funcs[(178:Nat)]?=some f178:=bo (upd:=false) func178 AT
abbrev _root_.Go.Proofs.YtnkpmooengcinaaGreat.cS(u:Bool)(n:ual):Prop:=∀(a:dC)(w:aH),Sem.run (aa prog u) (callFunc n a) w=.ok (.enter n a) w
@[simp] theorem aAI:cS false 178:=cN Yr AT
theorem Mf:(aa prog false).funcs[(201:Nat)]?=some f201:=bo (upd:=false) func201 AT
@[simp] theorem aAJ:cS false 201:=cN Mf AT
theorem Ys(w:aH):Calls (aa prog false) 178 #[] w λe w'=>e=.returned (jZ uP)/\w'=w.alloc (.cells #[.T,.I 0,.I 0,.E] 84):=by
 go_enter Yr,ntmps178
 go_wp2
 exact vbe (v:=jZ uP) (by simp[results,results178,go_sem,uP,lW]) U ⟨U,U⟩
def alI(c:bQ)(i:Nat){b9 vs l:Value}(w:aH)(h:uE w b9 vs l c)(hn:i<c.j_.length)(hs:c.kind=3->i<c.jC.length)(hi:c.kind≠3->i<c.k7.length):
 Calls (aa prog false) 201 #[.agg #[.I c.kind,.I c.cY,b9,vs,l],.I i] w λe w'=>e=.returned (jZ (mz c i))/\cC w w':=by
 obtain⟨u,ci,rfl,-,b⟩:=h.k7;obtain⟨s,t,rfl,-,es⟩:=h.jC;obtain⟨an,x,rfl,-,be⟩:=h.j_;obtain⟨m,on,rfl,n⟩:=be i hn;have j:w.cell? (.a m (on+i))=some (.bool c.j_[i]):=by simp_all[BR]
 have q:=dx j;clear n be;cases k:c.j_[i]with
 |true=>
  have a:mz c i=uP:=by grind[mz]
  rw[a];rw[k]at j;clear b es h a;go_enter Mf,ntmps201
  go_wp2_with (go_at_call 178;refine(Ys _).mono ?_;rintro e w' ⟨rfl,rfl⟩)
  exact vbe (v:=jZ uP) (by simp[results,results201,go_sem,uP,lW]) U ⟨U,(((vaa _ w).alloc IB _).alloc Ab _).alloc BC _⟩
 |false=>
  rw[k]at j;by_cases hk:c.kind=3
  .obtain⟨bs,os,rfl,d⟩:=es i (hs hk);have A:=hs hk;have a:mz c i=⟨false,0,0,c.jC[i]⟩:=by grind[mz]
   rw[a];have g:w.cell? (.a bs (os+i))=some (.string c.jC[i]):=by simp_all[Ie]
   have z:=dx g;clear b es h a d;go_enter Mf,ntmps201
   go_wp2
   exact vbe (v:=jZ ⟨false,0,0,c.jC[i]⟩) (by simp[results,results201,go_sem]) U ⟨U,((vaa _ w).alloc IB _).alloc Ab _⟩
  .obtain⟨bi,o,rfl,p⟩:=b i (hi hk);have r:=hi hk;have a:mz c i=⟨false,c.k7[i],c.cY,lW⟩:=by grind[mz]
   rw[a];have f:w.cell? (.a bi (o+i))=some (.I c.k7[i]):=by simp_all[q9]
   have y:=dx f;clear b es h a p;go_enter Mf,ntmps201
   go_wp2
   go_region
   go_wp2
   exact vbe (v:=jZ ⟨false,c.k7[i],c.cY,lW⟩) (by simp[results,results201,go_sem,lW]) U ⟨U,(((vaa _ w).alloc IB _).alloc Ab _).drew⟩
def alL:rh (aa prog false) 65 84 (.agg #[.F,.I 0,.I 0,.E]) 4 40:=⟨(qc _ _ _).trans underlying65,AU,AX,AX⟩
def Yv:(aa prog false).funcs[(200:Nat)]?=some f200:=bo (upd:=false) func200 AT
@[simp] theorem aAK:cS false 200:=cN Yv AT
def Af(cs:dC)(l:List dM)(k:Nat):Prop:=∀j(h:j<l.length),j<k->cs[j*4]?=some (.bool l[j].dN)/\cs[j*4+1]?=some (.I l[j].num)/\cs[j*4+2]?=some (.I l[j].cY)/\cs[j*4+3]?=some (.string l[j].text)
abbrev IF(cs:dC)(k:Nat)(d:dM):Array Value:=(((cs.setIfInBounds (k*4) (.bool d.dN)).setIfInBounds (k*4+1) (.I d.num)).setIfInBounds (k*4+2) (.I d.cY)).setIfInBounds (k*4+3) (.string d.text)
theorem Af.step{cs:dC}{l:List dM}{k:Nat}(h:Af cs l k)(hk:k<l.length)(hs:cs.size=l.length*4):Af (IF cs k l[k]) l (k+1):=by
 intro j a b;by_cases e:j=k
 .subst e;grind
 .have:=h j a AY;simp only[IF,vaq];grind
def n2.Ra{w:aH}{b:Nat}{cs:dC}{T:uaa}{l:List dM}(h:ag w b cs T)(c:l.length<=9223372036854775807)(ht:∀d∈l,d.text.size<=9223372036854775807)(a:Af cs l l.length)(cap:Nat):n2 w (.S b 0 l.length cap) l:=by
 refine⟨_,cap,U,c,λi hi=>⟨b,0,U,?_,?_,?_,?_,AN⟩⟩
 .simp;rw[h.rules.1];exact(a i hi hi).1
 .simp;rw[h.rules.1];exact(a i hi hi).2.1
 .simp;rw[h.rules.1];exact(a i hi hi).2.2.1
 .simp;rw[h.rules.1];exact(a i hi hi).2.2.2
structure Ag(i:Nat)(c:bQ):Prop where
 j_:i<c.j_.length
 jC:c.kind=3->i<c.jC.length
 k7:c.kind≠3->i<c.k7.length
 text:∀s∈c.jC,s.size<=9223372036854775807
def Ag.small{i:Nat}{c:bQ}(h:Ag i c):(mz c i).text.size<=9223372036854775807:=by
 unfold mz;split
 .decide
 .split
  .rename_i hk;have:=h.jC hk;simp[this];exact h.text _ AN
  .show lW.size<=_;decide
def alM(t:List bQ)(v:Value)(i:Nat)(w:aH)(hv:nV w v t)(O:t.length<=1000000)(C:∀c∈t,Ag i c):
 Calls (aa prog false) 200 #[.agg #[v],.I i] w λe w'=>∃b cs,e=.returned (.S b 0 t.length t.length)/\ag w' b cs 84/\cs.size=t.length*4/\Af cs (t.map (mz · i)) t.length/\w.heap.size<=b/\cC w w':=by
 obtain⟨V,cap,rfl,hl,B⟩:=hv;have hlen:(t.map (mz · i)).length=t.length:=Ab;go_enter Yv,ntmps200
 go_wp2_with (at_make;refine Q_ alL _ rfl _ _ rfl _ _ t.length rfl rfl AY AY ?_;intro w1 bc U f q;have I:=(ag.new w #[.slice V t.length cap] 103).call q;obtain⟨Mg,tI,nv⟩:=I.all)
 have y:cC w w1:=Below.step q ((vaa _ _).alloc Ab _) Ab;have J:ag w1 (w.heap.size+1) bc 84:=BB;have M:Hid (ag w1 (w.heap.size+1) bc 84):=J;have N:Hid (cC w w1):=y;clear U J q y I;go_loopw [17] (λn W=>∃(k:Nat)(cs:dC),k<=t.length/\n=.I k/\ag W (w.heap.size+1) cs 84/\cs.size=t.length*4/\Af cs (t.map (mz · i)) k/\cC w W)
  (λi _=>t.length-(intOf i).toNat)
 case atStart=>exact⟨0,bc,vaz _,rfl,M.out,f,λj _ hj=>AN,N.out⟩
 case round=>
  obtain⟨k,cs,hk,rfl,u,K,s,z⟩:=hrel;have H:Hid (ag wr (w.heap.size+1) cs 84):=u;have x:Hid (Af cs (t.map (mz · i)) k):=s;have l:Hid (cC w wr):=z;have d:Hid _:=K;have Rh:Hid _:=f;clear u s z K f;by_cases h:k<t.length
  .obtain⟨b,off,rfl,b9,vs,bt,o,d1,F,E,D,m⟩:=B k h;simp at o;have g:=bm.b4 l.out;have A:=g _ _ _ o;have T:=g _ _ _ d1;have S:=g _ _ _ F;have R:=g _ _ _ E;have Q:=g _ _ _ D;have eu:=dx A;obtain⟨jD,ci,ql,nU,an,dm,rfl,rfl,rfl⟩:=m.shape;have HC:Hid (uE wr _ _ _ t[k]):=m.mono g;have r:=C _ (vdq h);clear g o d1 F E D m B C;have nj:(0:Int)<=(k:Int):=AY;have lX:(k:Int)<(t.length:Int):=AY;go_wp2_with fail
   refine(alI t[k] i _ (HC.out.mono (bm.b4 ((vaa _ wr).alloc IB _))) r.j_ r.jC r.k7).mono ?_;rintro e w2 ⟨rfl,p⟩;have a:=(H.out.alloc _).call p;have Z:Hid (ag w2 (w.heap.size+1) cs 84):=a;have P:Hid (cC w w2):=Below.step p (l.out.alloc (by have:=l.out.size;omega) _) (by have:=l.out.size;simp;omega);have Yw:w2.cell? (.a (w.heap.size+1) (k*4))=some (cs[k*4]'F3):=by rw[a.rules.1];simp
   have Yx:w2.cell? (.a (w.heap.size+1) (k*4+1))=some (cs[k*4+1]'F3):=by rw[a.rules.1];simp
   have Y:w2.cell? (.a (w.heap.size+1) (k*4+2))=some (cs[k*4+2]'F3):=by rw[a.rules.1];simp
   have X:w2.cell? (.a (w.heap.size+1) (k*4+3))=some (cs[k*4+3]'F3):=by rw[a.rules.1];simp
   have Yy:=a.rules.2;clear a p A T S R Q;go_wp2_with fail
   go_roundw
   case rel=>
    refine⟨k+1,IF cs k (mz t[k] i),AY,by go_num,(((Z.out.set _ _).set _ _).set _ _).set _ _,by simp;exact d.out,?_,(((P.out.setCell Ab _).setCell Ab _).setCell Ab _).setCell Ab _⟩;have:=x.out.step AN (by rw[hlen];exact d.out);grind
   case measure=>simp[intOf];omega
  .have L:k=t.length:=by omega
   go_wp2_with fail
   go_ret
   exact⟨_,_,rfl,H.out,d.out,by rw[<-L];exact x.out,AY,l.out⟩
def Yz:(aa prog false).funcs[(199:Nat)]?=some f199:=bo (upd:=false) func199 AT
def Mh(place:uaf)(vals:List dM)(W:aH)(x:Value):Prop:=
 ∃fC bv e8 cs,x=.agg #[.S fC 0 place.length place.length,.S bv 0 vals.length vals.length]/\ag W fC e8 3/\e8.toList=place.map (Value.int .i64)/\ag W bv cs 84/\cs.size=vals.length*4/\Af cs vals vals.length
def alP(n₀:Nat)(aJ:Nat->List Int)(vs:Nat->List dM):Fv n₀ (λt=>Mh (aJ t) (vs t)):=by
 refine⟨λt W x h=>?_,λt W W' x h hk=>?_⟩
 .obtain⟨a,bv,b,cs,rfl,-⟩:=h;grind
 .obtain⟨a,bv,b,cs,rfl,f,e,d,c⟩:=h;exact⟨a,bv,b,cs,U,hk _ _ _ _ f AN,e,hk _ _ _ _ d AN,c⟩
def alQ{n:Nat}(t:List bQ)(v:Value)(fr a7:Nat)(w0:aH)(hv:nV w0 v t)(m:t.length<=1000000)(U:fr<=a7)(x5:a7<=1000000)(w:∀i,i<a7->∀c∈t,Ag i c)(E P bs:Nat)(q:w0.cell? (.a E 0)=some (.I fr))(ht:w0.cell? (.a P 0)=some (.I a7))(hs:w0.cell? (.a bs 0)=some v):
 BZ n (aa prog false) 199 #[.P E 0,.P P 0,.P bs 0] (λk=>Mh [((fr+k:Nat):Int)] (t.map (mz · (fr+k)))) (a7-fr) w0.heap.size w0:=by
 intro l S J W a B A F h0;have K:=Fj B A;clear A B;have j:=bm.b4 a;have z:=j _ _ _ q;obtain⟨bJ,cap,rfl,-,-⟩:=id hv;refine vdt Yz rfl trivial ?_ rfl;simp[vbb];gi_wp2
 gi_loopw [5] (λp wr=>∃i:Nat,fr<=i/\i<=a7/\p=.I (i:Int)/\J (i-fr) wr/\cC w0 wr/\Below w0.heap.size W wr) (λp _=>a7-(intOf p).toNat)
 case atStart=>exact⟨fr,vad _,U,rfl,AN,a,vaa _ _⟩
 case round=>
  obtain⟨i,nj,lX,rfl,H,u,L⟩:=hrel;have d:=bm.b4 u;have x9:=d _ _ _ ht;have T:=d _ _ _ hs;have Fe:=dx T;have X:Hid (nV wr _ t):=hv.mono q_ d;have C:Hid (J (i-fr) wr):=H;have g:Hid (cC w0 wr):=u;have y:Hid (Below w0.heap.size W wr):=L;clear H u L d;by_cases o:i<a7
  .have Y:(i:Int)<(a7:Int):=by omega
   have I:=w i o;clear q ht hs z h0 a j w;gi_wp2
   have f:cC wr (wr.alloc (.cells #[.I (i:Int)] 3)):=(vaa _ wr).alloc IB _;refine⟨PA,λh=>BQ,(vea.2 (alM t _ i _ (X.out.mono q_ (bm.b4 f)) m I)).mono ?_⟩;rintro e w2 ⟨b,cs,rfl,M,r,Mi,V,x⟩;have s:Hid (cC wr w2):=Below.step x f Ab;have Q:=K _ _ _ C.out s.out;have R:fr+(i-fr)=i:=AY;have O:Mh [((fr+(i-fr):Nat):Int)] (t.map (mz · (fr+(i-fr)))) w2 (.agg #[.S wr.heap.size 0 1 1,.S b 0 t.length t.length]):=by rw[R];refine⟨wr.heap.size,b,#[.I (i:Int)],cs,Ab,(ag.new wr _ _).call x,rfl,M,AN,AN⟩
   obtain⟨fn,tmps,assign,body,Z,N⟩:=F (i-fr) _ w2 Q AY O;clear M r Mi V x O Q F K f R I;gi_wp2
   refine⟨λh=>BQ,N.mono ?_⟩;rintro e mw ⟨rfl,x_,D⟩;clear N Z;gi_wp2
   go_roundw
   case rel=>exact⟨i+1,AY,AY,Ab,AN,g.out.trans ((s.out.mono g.out.size).trans D),y.out.trans ((s.out.mono g.out.size).trans D)⟩
   case measure=>simp[intOf];omega
  .have Y:¬(i:Int)<(a7:Int):=by omega
   clear q ht hs z h0 a j w;gi_wp2
   go_end0
   have e:a7=i:=AY;subst e;exact⟨⟨_,rfl⟩,C.out,y.out⟩
abbrev w_(s:Int):Value:=.agg #[.I (s / 18446744073709551616),.int .u64 (s % 18446744073709551616)]
abbrev ky(s:Int):Prop:= -1267650600228229401496703205376<=s/\s<=1267650600228229401496703205376
abbrev jf(n:Int):Prop:= -9223372036854775808<=n/\n<=9223372036854775807
def atM(u:Bool):(aa prog u).funcs[(126:Nat)]?=some f126:=by simp only[aa,vbw,func126,vdw,Bm];rw[vdi Au]
def atN(u:Bool)(x y:Int)(i:0<=x)(g:0<=y)(w:aH):Sem.run (aa prog u) (callFunc 126 #[.int .u64 x,.int .u64 y,.int .u64 0]) w=.ok (.value (.tuple #[.int .u64 ((x+y) % 18446744073709551616),.int .u64 ((x+y) / 18446744073709551616)])) w:=by
 obtain⟨f,e,d,c⟩:=Ps (fn:=f126) AT;have h:Sem.run (aa prog u) (callFunc 126 #[.int .u64 x,.int .u64 y,.int .u64 0]) w=.ok (.value (Extern.MathBitsCarry.pair ((x.toNat+y.toNat) % 18446744073709551616) ((x.toNat+y.toNat) / 18446744073709551616))) w:=by unfold callFunc;simp only[mc,Go.program,Sem.run,atM u,c,d,Option.isNone_none,vbx,vai,vcj,f,e];rfl
 obtain⟨a,rfl⟩:=Int.eq_ofNat_of_zero_le i;obtain⟨b,rfl⟩:=Int.eq_ofNat_of_zero_le g;rw[h];simp only[Extern.MathBitsCarry.pair,Int.toNat_natCast,Int.ofNat_eq_natCast,Int.natCast_emod,Int.natCast_ediv,Int.natCast_add];rfl
theorem wrap_u64(n:Int):IntKind.wrap .u64 n=n % 18446744073709551616:=by simp[IntKind.wrap,show IntKind.signed .u64=false from U,show IntKind.bits .u64=64 from U]
def tw(u:Bool):(aa prog u).funcs[(208:Nat)]?=some f208:=bo (upd:=u) func208 Au
@[simp] theorem aDj (u:Bool) (args:dC) (w:aH):Sem.run (aa prog u) (callFunc 208 args) w=.ok (.enter 208 args) w:=cN (tw u) Au args w
theorem tq(u:Bool):(aa prog u).funcs[(111:Nat)]?=some f111:=bo (upd:=u) func111 Au
@[simp] theorem aDk (u:Bool) (args:dC) (w:aH):Sem.run (aa prog u) (callFunc 111 args) w=.ok (.enter 111 args) w:=cN (tq u) Au args w
theorem T7(u:Bool):(aa prog u).funcs[(215:Nat)]?=some f215:=bo (upd:=u) func215 Au
@[simp] theorem aDl (u:Bool) (args:dC) (w:aH):Sem.run (aa prog u) (callFunc 215 args) w=.ok (.enter 215 args) w:=cN (T7 u) Au args w
variable{u:Bool}
def T8(n:Int)(hn:jf n)(w:aH):
 Calls (aa prog u) 208 #[.I n] w λe w'=>e=.returned (w_ n)/\cC w w':=by
 have b:n / 9223372036854775808=n / 18446744073709551616:=AY;have a:=wrap_u64 n;go_enter (tw u),ntmps208
 go_wp2
 exact vbe (v:=w_ n) (by simp[results,results208,go_sem]) U ⟨U,(vaa _ w).alloc IB _⟩
def tn(s t:Int)(hs:ky s)(ht:ky t)(w:aH):
 Calls (aa prog u) 111 #[w_ s,w_ t] w λe w'=>e=.returned (w_ (s+t))/\cC w w':=by
 have a:=atN u (s % 18446744073709551616) (t % 18446744073709551616) AY AY;go_enter (tq u),ntmps111
 go_wp2
 have e:s / 18446744073709551616+t / 18446744073709551616+(s % 18446744073709551616+t % 18446744073709551616) / 18446744073709551616=(s+t) / 18446744073709551616:=AY;rw[e];exact vbe (v:=w_ (s+t)) (by simp[results,results111,go_sem]) U ⟨U,(((vaa _ w).alloc IB _).alloc Ab _).alloc BC _⟩
def rH(s:Int):Int:=wrap64 (s % 18446744073709551616)
def atO(s:Int):jf (rH s):=by unfold rH wrap64;omega
def atP(s:Int):(rH s / 18446744073709551616=s / 18446744073709551616/\rH s % 18446744073709551616=s % 18446744073709551616)↔jf s:=by unfold rH wrap64;omega
theorem ti{s:Int}(h:jf s):rH s=s:=by unfold rH wrap64;omega
def atQ(s m:Int)(b:Bool)(hs:ky s)(k:wrap64 (s % 18446744073709551616)=m)(f:jf m)(h:(b=true/\s=m)\/(b=false/\m / 18446744073709551616=s / 18446744073709551616/\¬m % 18446744073709551616=s % 18446744073709551616)\/(b=false/\¬m / 18446744073709551616=s / 18446744073709551616))(w:aH):
 Calls (aa prog u) 215 #[w_ s] w λe w'=>e=.returned (.tuple #[.I m,.bool b])/\cC w w':=by
 have dU:∀(W w1:aH),cC w W->Below W.drew.heap.size W.drew w1->cC w w1:=λW w1 c g=>c.trans ((show Below w.heap.size W W.drew from⟨U,U,U,vad _,λ_ _=>U⟩).trans (g.mono c.size));rcases h with⟨rfl,h0⟩|⟨rfl,c,g⟩|⟨rfl,c⟩
 .subst h0;go_enter (T7 u),ntmps215
  go_wp2
  have b0:=ag.new w #[.I (s / 18446744073709551616),.int .u64 (s % 18446744073709551616)] 191;have d:Hid _:=(vaa w.heap.size w).alloc IB (.cells #[.I (s / 18446744073709551616),.int .u64 (s % 18446744073709551616)] 191);generalize(w.alloc _)=W at *;obtain⟨c1,cg,du⟩:=b0.all;go_region_with (go_at_call 208;refine(T8 _ f _).mono ?_;rintro e w1 ⟨rfl,a⟩;obtain⟨d1,j,i⟩:=(b0.drew.call a).all)
  all_goals
   go_wp2
   exact vbe (v:=.tuple #[.I s,.T]) (by simp[results,results215,Act.put,go_sem]) U ⟨U,dU _ _ d.out a⟩
 all_goals
  go_enter (T7 u),ntmps215
  go_wp2
  have b0:=ag.new w #[.I (s / 18446744073709551616),.int .u64 (s % 18446744073709551616)] 191;have d:Hid _:=(vaa w.heap.size w).alloc IB (.cells #[.I (s / 18446744073709551616),.int .u64 (s % 18446744073709551616)] 191);generalize(w.alloc _)=W at *;obtain⟨c1,cg,du⟩:=b0.all;go_region_with (go_at_call 208;refine(T8 _ f _).mono ?_;rintro e w1 ⟨rfl,a⟩;obtain⟨d1,j,i⟩:=(b0.drew.call a).all)
  all_goals
   go_wp2
   exact vbe (v:=.tuple #[.I m,.F]) (by simp[results,results215,Act.put,go_sem]) U ⟨U,dU _ _ d.out a⟩
def atR(s:Int)(hs:ky s)(w:aH):
 Calls (aa prog u) 215 #[w_ s] w λe w'=>e=.returned (.tuple #[.I (rH s),.bool (decide (jf s))])/\cC w w':=by
 refine atQ s (rH s) _ hs U (atO s) ?_ w;have hq:=atP s;by_cases hI:jf s
 .exact .inl ⟨decide_eq_true hI,(ti hI).symm⟩
 .by_cases a:rH s / 18446744073709551616=s / 18446744073709551616
  .exact .inr (.inl ⟨decide_eq_false hI,a,λh=>hI (hq.1 ⟨a,h⟩)⟩)
  .exact .inr (.inr ⟨decide_eq_false hI,a⟩)
end bB
namespace lI
open RowKit Shelf av bB
variable{L:List PanicEntry}
section
attribute [local go_sem] Oper.semAt_some
def Ux(L:List PanicEntry)(n:Nat)(P:ck)(g:Nat)(lb:dC)(Row:uao)(N n₀:Nat)(w0:aH):Prop:=
 ∀(l:Nat)(S:c5)(J:ubi)(W:aH),Below n₀ w0 W->(∀t W,J t W->∀b,S b->b<W.heap.size)->(∀t W W',J t W->fO W W'->(∀b,S b->W'.heap[b]?=W.heap[b]?)->J t W')->
  (∀t x W1,J t W1->t<N->Row t W1 x->YieldAt Fence.wide (n-1) P l #[x] W1 λe W'=>e=.returned (.T)/\J (t+1) W'/\Below n₀ W1 W')->
  J 0 W->CallsIn Fence.wide n P g (#[.func (.yield l) #[] #[]]++lb) W λe W'=>e=.panicked L/\J N W'/\Below n₀ W W'
def auC{n:Nat}{P:ck}{g:uaq}{p:Tmp}{assign body:Code}{Q:uap}{a:Act}{w:aH}{gf:Nat}{lb:dC}{Row:uao}{N n₀:Nat}{w0:aH}(hg:a.eval g=.func (.func gf) #[] lb)(ov:∀args w,(callFunc gf args).run P w=.ok (.enter gf args) w)(D:Ux L (n-1) P gf lb Row N n₀ w0)(H:Below n₀ w0 w)(hn:n₀<=w.heap.size)(S:c5)(O:∀b,S b->b<w.heap.size)(I:ubi)(hI:∀t W W',I t W->fO W W'->(∀b,S b->W'.heap[b]?=W.heap[b]?)->I t W')(h0:I 0 w)(j:ubk)(hAx:∀t x a' W W',j t x a' W->fO W W'->(∀b,S b->W'.heap[b]?=W.heap[b]?)->j t x a' W')(B1:∀(l t:Nat)(x:Value)(W:aH)(K:uak),I t W->t<N->Row t W x->(∀a' W',cC W W'->j t x a' W'->K a' W')->
  assign.wpIn (Fence.wide.inRound l) (n-1-1) P (Exit.then K (λ_ _ _=>False)) {tmps:=a.tmps.setIfInBounds p x,defers:=[]} W)(C:∀(l t:Nat)(x:Value)(a':Act)(W:aH),I t W->t<N->j t x a' W->n₀<=W.heap.size->body.wpIn (Fence.wide.inRound l) (n-1-1) P (λe _ W'=>e=.normal/\KeepsOthers W W'/\Below n₀ W W'/\I (t+1) W') a' W)(hdone:∀W,Below n₀ w W->W.heap[w.heap.size]?=some (.deferred (some []))->Q (.panic L) {a with defers:={target:=.collected w.heap.size,args:=#[]}::a.defers} W):
 (Code.rangeFunc g #[p] assign body).wpIn Fence.wide n P Q a w:=by
 refine wpIn_rangeFunc ?_;intro fn R;obtain⟨rec,B2⟩:∃rec:LoopState->Loop,rec=λst=>{state:=st,pending:=none,fn,tmps:=a.tmps,params:=#[p],assign,body,defers:=w.heap.size}:=⟨_,rfl⟩;obtain⟨c,Ip⟩:∃c,(w.alloc (.deferred (some []))).alloc (.loop (rec .ready))=c:=⟨_,rfl⟩;have Bh:c.heap[w.heap.size+1]?=some (.loop (rec .ready)):=by grind[World.alloc_heap_new,World.size_alloc]
 have Iq:c.heap[w.heap.size]?=some (.deferred (some [])):=by grind[Below.heap_alloc,World.alloc_heap_new]
 have i:cC w c:=by rw[<-Ip];exact((vaa _ w).alloc IB _).alloc Ab _
 refine⟨w.heap.size+1,[{target:=.collected w.heap.size,args:=#[]}],c,{target:=.fn (.func gf) lb,args:=#[.func (.yield (w.heap.size+1)) #[] #[]]},c,gf,#[.func (.yield (w.heap.size+1)) #[] #[]]++lb,c,?_,?_,λ_ _=>trivial,?_,λh=>BQ,?_⟩
 .simp_all[run_enterLoop_outer]
 .simp only[resolve,hg];simp[go_sem]
 .grind[invoke]
 .refine(D (w.heap.size+1) (λb=>S b\/b=w.heap.size\/b=w.heap.size+1) (λt W=>(I t W/\n₀<=W.heap.size/\w.heap.size<=W.heap.size)/\W.heap[w.heap.size+1]?=some (.loop (rec .ready))/\W.heap[w.heap.size]?=some (.deferred (some []))) c (H.trans (i.mono hn)) ?_ ?_ ?_ ⟨⟨hI _ _ _ h0 (.below i) (λb hs=>i.block b (O b hs)),AN,i.size⟩,Bh,Iq⟩).mono ?_
  .grind
  .grind
  .rintro t x W ⟨⟨hi,F,wj⟩,k,hk⟩ f Y;have s:∀(W:aH)(o:Obj) b,S b->(W.putObj (w.heap.size+1) o).heap[b]?=W.heap[b]?:=λW o b hs=>vao AN;have r:=run_yield (P:=P) (args:=#[x]) k AN;rw[B2]at r;refine⟨fn,_,assign,body,r,roundIn_of_wpIn R ?_⟩;clear r;have V:(#[p].zip #[x]).foldl (λtmps(u:Tmp×Value)=>tmps.setIfInBounds u.1 u.2) a.tmps=a.tmps.setIfInBounds p x:=Ab;refine Eq.mp (vbn (λT=>Code.wpIn (Fence.wide.inRound (w.heap.size+1)) (n-1-1) P assign _ {tmps:=T,defers:=[]} W) V.symm) ?_;refine B1 _ t x W _ hi f Y ?_;intro a' z d Z;have m:=(d.block _ (jk k)).trans k;have X:=(d.block _ (jk hk)).trans hk;refine⟨_,run_beginRound m AN,?_⟩;have U:(z.putObj (w.heap.size+1) (.loop {rec .ready with state:=.busy})).heap[w.heap.size+1]?=some (.loop {rec .ready with state:=.busy}):=vdf (jk m);have E:(z.putObj (w.heap.size+1) (.loop {rec .ready with state:=.busy})).heap[w.heap.size]?=some (.deferred (some [])):=(vao AY).trans X;refine wpIn_mono (C _ t x a' _ (hI _ _ _ (hI _ _ _ hi (.below d) (λb hs=>d.block b AN)) (.put m) (s _ _)) f (hAx _ _ _ _ _ Z (.put m) (s _ _)) AN) ?_;rintro e bR mw ⟨rfl,v,q,B⟩;have y:=v.same _ _ U rfl;have A:=v.same _ _ E rfl;have J:=run_endRound (P:=P) none y;refine⟨_,_,J,rfl,⟨⟨hI _ _ _ B (.put y) (s _ _),by have:=d.size;have:=q.size;simp at this⊢;omega,by have:=d.size;have:=q.size;simp at this⊢;omega⟩,?_,(vao AY).trans A⟩,?_⟩
   .grind[World.putObj_heap_same]
   .exact((d.mono F).trans ((pC _ AY).trans q)).trans (pC _ AY)
  .rintro e W2 ⟨rfl,⟨⟨hi,-⟩,k,hk⟩,M⟩;exact hdone _ ((i.mono hn).trans M) hk
def auD{Row:uao}{gf:Nat}{lb:dC}{N:Nat}(a5:N<=300)(w:aH)(f:Fv w.heap.size Row)(F:∀args w,(callFunc gf args).run (aa prog false) w=.ok (.enter gf args) w)(M:Ux L 2 (aa prog false) gf lb Row N w.heap.size w):
 Calls (aa prog false) 103 #[.func (.func gf) #[] lb] w λe w'=>e=.panicked L/\cC w w':=by
 refine(vea (n:=3)).1 ?_;refine vcm Rc rfl trivial ?_;simp[vbb];gi_wp2
 have Q:Boxed (w.alloc (.cells #[.N] 57)) w.heap.size 57 (.N):=Boxed.new w _ _;refine auC (n:=3) (gf:=gf) (lb:=lb) (w0:=w) (n₀:=w.heap.size) (N:=N) (Row:=Row) rfl F M ((vaa _ w).alloc IB _) Ab (λ_=>False) AN
  (λt W=>∃v,Boxed W w.heap.size 57 v/\wL Row w.heap.size t v W)
  (λt W W' h hk _=>by
   obtain⟨v,r,o⟩:=h;exact⟨v,hk.cells _ _ _ _ r,o.nu f hk⟩)
  ⟨_,Q,⟨[],rfl,vbo _ _ _ _,AN⟩⟩
  (λt x a' W=>∃c p aJ pc q b a,W.heap[c]?=some (Obj.cells #[.slice p aJ pc,.slice q b a] 67 (0,0))/\x=.agg #[.slice p aJ pc,.slice q b a]/\Row t W x/\∃z,a'={tmps:=#[.func (.func gf) #[] lb,undef,.N,.P w.heap.size 0,.P c 0,.func (.func gf) #[] lb,z,.U,.U,.U,.U,.U,.U,.U,.U],defers:=[]})
  (λt x a' W W' h hk _=>by
   obtain⟨c,p,aJ,pc,q,b,a,r,o,X,V⟩:=h;exact⟨c,p,aJ,pc,q,b,a,hk.cells _ _ _ _ r,o,f.keep _ _ _ _ X (.keep hk),V⟩)
  ?assign ?body ?done
 case assign=>
  rintro l t x W K- -d hK;obtain⟨p,aJ,pc,q,b,a,rfl⟩:=f.shape _ _ _ d;gi_wp2
  have D:cC W (W.alloc (.cells #[.slice p aJ pc,.slice q b a] 67)):=(vaa _ W).alloc IB _;exact hK _ _ D ⟨W.heap.size,p,aJ,pc,q,b,a,vbm W _,rfl,f.keep _ _ _ _ d (.keep (.below D)),_,rfl⟩
 case body=>
  rintro l t x a' W ⟨v,hv,⟨xs,hlen,d,lB⟩⟩ T ⟨c,p,aJ,pc,q,b,a,y,rfl,S,z,rfl⟩ P;obtain⟨R,hi,J,I,H⟩:=vbt IC;have m:=hv.cell;have E:W.cell? (.a c 0)=some (.slice p aJ pc):=GO;have Y:W.cell? (.a c 1)=some (.slice q b a):=GO;gi_wp2_with (gi_at_builtin;apply qr)
  unfold hJ;refine wpListIn_append_own _ rfl _ _ 57 rfl w.heap.size 67 R _ 2 48 ((qc _ _ _).trans underlying57) hi J I H rfl AX v t (two xs) rfl (d.alloc _) ⟨W.heap.size,0,none⟩ 1 1 [.slice p aJ pc,.slice q b a] rfl rfl ?cel ?one B_ AY BC ?_
  case cel=>
   have kn:=vbm W (.cells #[.slice p aJ pc,.slice q b a] 67);intro j u g;rcases j with _ | _ |j
   .simp at g;subst g;show World.cell? _ ⟨W.heap.size,0,none⟩=_;simp_all
   .simp at g;subst g;show World.cell? _ ⟨W.heap.size,1,none⟩=_;simp_all
   grind
  case one=>
   intro u C;simp at C;rcases C with rfl|rfl<;>rfl
  intro v' w1 k i _;obtain⟨g',cap',rfl⟩:=vdj k;obtain⟨s,O,tH,dW,cE⟩:=hv.appended AX d P IB k i;have B:=Me (.S g' 0 (t+1) cap') hv d i IB;have km:=s.cell;have nZ:=s.frozen;have Fw:¬(300:Int)<(t:Int)+1:=AY;clear k i d hv m E Y y s;gi_wp2
  refine⟨_,O,⟨xs++[(.slice p aJ pc,.slice q b a)],AN,?_,λj g=>?_⟩⟩
  .grind[Re]
  .by_cases A:j<xs.length
   .rw[vdb A];exact f.keep _ _ _ _ (lB j A) B
   .have Z:j=xs.length:=by grind
    subst Z;simp;rw[hlen];exact f.keep _ _ _ _ S B
 case done=>
  rintro W U hK;refine⟨Ab,.inl ⟨_,_,rfl,vcw hK,?_⟩⟩;exact⟨rfl,(((vaa _ w).alloc IB _).trans U).trans (pC _ Ab)⟩
