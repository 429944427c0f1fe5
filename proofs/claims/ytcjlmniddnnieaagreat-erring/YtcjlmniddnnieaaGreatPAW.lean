import Derived.Test.YtcjlmniddnnieaaGreatPAT
import Derived.Test.YtcjlmniddnnieaaGreatPAU
import Derived.Test.YtcjlmniddnnieaaGreatPAV
set_option linter.all false
set_option maxRecDepth 100000
set_option maxHeartbeats 16000000
namespace Go.Proofs.YtcjlmniddnnieaaGreat
open Tryz
namespace m8
open Conc RowKit ConcM au bn ai e_ g6 fF hU cC uG
section
section
variable{Post:fX}
variable{a2:Frame}{aD:Act}{aB:fC}{aJ:Nat}{aL:uad}{aG:uaa}{csZ:fG}
def aud{n:Nat}{Shun:uai}{S af N W:Nat}{rows:uas}(B:0<af)(v:af<=64)(t:0<W)(x:W<=16)(hS:S<=1000)(a3:N=(S+af-1) / af)(hn:n+W<=250)(lB:ib rows N<=300){jt:uab}{o p:Value}{r ip:uah}{aT:dY}{w:aH}{lF cO:da->Nat->Value->(Nat->Prop)->aH->Prop}(C:∀b,aT b->b<w.heap.size)(z:∀b,aT b\/w.heap.size<=b->∀l,e8 l=some b->¬Shun l)(hinv:∀w,(callMethod (.iface jt o) "Size" #[]).run prog w=.ok (.enter r (#[p]++#[])) w/\(callMethod (.iface jt o) "Size" #[]).events prog w #[]=#[])(uJ:∀(ST:Bool->eo.Lo->aX->Prop) bs,(∀m l g w M M',(∀b,M b->M' b)->ST m l ⟨g,w,M⟩->ST m l ⟨g,w,M'⟩)->iG prog ST true r (#[p]++#[]) (iH eo () aT w bs) (λu E=>u=.I (S:Int)/\E=iH eo () aT w bs))(K:∀c bY Stop d j b2,EM c aT S af N n W rows (λ_=>false) (λ_=>undef) d j b2->(∀b,aT b->bY.heap[b]?=w.heap[b]?)->rh c bY prog Stop 112 (.iface jt o) ip p (λT=>T*af) (λT=>min (T*af+af) S) (lF c) (cO c)){V:Value->aH->Nat->(Loc->Prop)->Prop}(O:∀u w n Shun k,V u w n Shun->V u (w.at k) n Shun)(I:∀c bY d j b2 f e M' D w' st,EM c aT S af N n W rows (λ_=>false) (λ_=>undef) d j b2->ak eo aT w bY->KM c (cO c) (λ_=>False) bY f e M' D w'->st=c.st->
  U8 e (bK prog Post f e) 92 #[.S c.bJ 0 N N] (w'.setCell ⟨st,0,none⟩ (.int .i32 1)) (λu w2=>V u (w2.setCell ⟨st,0,none⟩ (.int .i32 0)) f e/\(∃a n c,u=.slice a n c)/\w2.heap[st]?=(w'.setCell ⟨st,0,none⟩ (.int .i32 1)).heap[st]?/\w'.heap.size<=w2.heap.size))(hk:∀u w' f e,V u w' f e->bK prog Post f e 0 (Conc.G (a2.at (aD.put ((aB[aJ]?).bind (·.dst)) (.tuple #[u,.N])) (.R aB aL::aG)) csZ) w'):
 bK prog Post n Shun 0 (Conc.G (Frame.enter prog 37 #[.agg #[.I (W:Int),.I (af:Int)],.iface jt o] .normal) (a2.at aD (.R aB (aJ::aL)::aG)::csZ)) w:=by
 refine SJ B v t x hS a3 hn lB C z hinv uJ K (λc bY d j b2 Q dn dB P R fm eO fo fp fq ft fI fu fv fx Z Y X U f e M' D w' h y A i=>?_);obtain⟨T,m,L,hst,F,-⟩:=i.st;obtain rfl:L=none:=by cases L with|none=>rfl|some q=>have:=(F q rfl).1;rw[h.im]at this;cases this
 simp only[Option.elim]at hst;rw[h.uJ,h.at7,h.at8,h.S0,h.SP]at hst;have J:c.K d:=(h.hK d).2 AJ;have H:w'.heap[d]?=some (.cells #[.P c.st 0] 125):=(i.stands d (.inl J)).trans A;have s:=I c bY d j b2 f e M' D w' c.st h y i rfl;exact vU (asT hst H AJ AJ i.PG i.Pv.1 (i.z4 d (.inl (i.sub d AJ)) _ rfl) (V:=λu w2=>V u (w2.setCell ⟨c.st,0,none⟩ (.int .i32 0)) f e) s (λu w2 hv=>.stop AJ))
end
end
end m8
namespace bU
open Conc ConcM RowKit au bn ai e_ g6 fF hU cC m8 c5
def aue:uy Ol:=by rintro ρ w w' rd e x b a ⟨v,h0,c⟩;obtain⟨v',d,b0⟩:=a 0 _ h0;exact⟨v',d,au.aZ.carry ny b b0 c⟩
def auf:pM Ol:=λ_ _ _ _ _ hk a⟨v,h0,b⟩=>⟨v,a _ _ h0,b.mono pj hk⟩
def Vx{D D':dY}(h:∀b,D b->D' b):Ren.le (dz D bZ) (dz D' bZ):=⟨λ_ b k=>⟨k.1,h b k.2⟩,λ_ k=>k.elim⟩
structure KT(M aT:dY)(w:aH)(most:Nat)(rs:List bh)(u:Value)(w':aH)(n':Nat)(a8:uai)(dv:dY):Prop where
 n:n'<=most
 sub:∀b,M b->dv b
 new:∀b,dv b->M b\/¬aT b
 cl:fA (cr prog false) dv bZ w'
 val:ax (dz dv bZ) u u
 rows:eS w' u rs
 cap:mA rs.length u
 same:∀b,aT b->w'.heap[b]?=w.heap[b]?
 sh:∀b,dv b\/aT b\/w'.heap.size<=b->∀l,e8 l=some b->¬a8 l
 size:w.heap.size<=w'.heap.size
 later:OsLater w.os w'.os
 output:w'.output=w.output
 tape:w'.tape=w.tape
theorem KT.at{M aT:dY}{w:aH}{most:Nat}{rs:List bh}{u:Value}{w':aH}{a:Nat}{c:uai}{b:dY}(h:KT M aT w most rs u w' a c b)(k:Nat):KT M aT w most rs u (w'.at k) a c b:=
 ⟨h.n,h.sub,h.new,h.cl,h.val,aZ.mono pj (λ_ _ _ x=>x) h.rows,h.cap,h.same,h.sh,h.size,h.later,h.output,h.tape⟩
def aug:gz prog false f92=true:=by decide+kernel
def auh{S af N n W:Nat}{rows:uas}{M aT:dY}{w:aH}(xQ:∀b,M b->aT b)(hg:∀g,g<=prog.globals.size->M g)(bX:fA (cr prog false) M bZ w)(ps:List (List bh))(a3:N=ps.length)(vX:ps.length<=1000)(Kq:∀k,kP ps k<=1000){cO:uae}{c:da}{bY:aH}{b9 dp b2 n':Nat}{U:uai}{M':dY}{D:uaj}{w':aH}(GC:∀T v N w,cO T v N w->lf (cr prog false) M c.K (λw v=>∃h:T<ps.length,eS w v ps[T]) v N w)(q:EM c aT S af N n W rows (λ_=>false) (λ_=>undef) b9 dp b2)(z:ak eo aT w bY)(f:KM c cO (λ_=>False) bY n' U M' D w'){Stop:uav}{st:Nat}(hst:st=c.st):
 U8 U Stop 92 #[.S c.bJ 0 N N] (w'.setCell ⟨st,0,none⟩ (.int .i32 1))
  (λu w2=>(∃dv,KT M aT w (n+W) (lq ps ps.length) u (w2.setCell ⟨st,0,none⟩ (.int .i32 0)) n' U dv)/\(∃a n c,u=.slice a n c)/\w2.heap[st]?=(w'.setCell ⟨st,0,none⟩ (.int .i32 1)).heap[st]?/\w'.heap.size<=w2.heap.size):=by
 subst hst;subst a3;have I:c.N=ps.length:=q.a3;have KK:c.st<w'.heap.size:=f.low _ LO;have Hc:(w'.setCell ⟨c.st,0,none⟩ (.int .i32 1)).heap.size=w'.heap.size:=ai.mq _ _ _;have pb:∀b,M' b->(w'.setCell ⟨c.st,0,none⟩ (.int .i32 1)).heap[b]?=w'.heap[b]?:=λb d=>m3 w' _ _ (λe=>f.Vi AJ);have X:(w'.setCell ⟨c.st,0,none⟩ (.int .i32 1)).os=w'.os/\(w'.setCell ⟨c.st,0,none⟩ (.int .i32 1)).output=w'.output/\(w'.setCell ⟨c.st,0,none⟩ (.int .i32 1)).tape=w'.tape:=⟨rfl,rfl,rfl⟩;generalize om:w'.setCell ⟨c.st,0,none⟩ (.int .i32 1)=w1 at *;have aHL:∀b,aT b->M' b:=λb d=>f.sub b (.inr (.inl ((q.hK b).2 (.inl d))));have aHM:∀b,aT b->w'.heap[b]?=w.heap[b]?:=λb d=>(f.stands b (.inl ((q.hK b).2 (.inl d)))).trans (z.heap b (.inr d));have m:∀p:Nat,∃(v:Value)(G:dY),p<ps.length->D[p]?=some v/\(∀b,G b->M' b/\¬c.K b)/\fA (cr prog false) (λb=>M b\/G b) bZ w'/\ax (dz (λb=>M b\/G b) bZ) v v/\∃h:p<ps.length,eS w' v ps[p]:=by
  intro p;by_cases l:p<ps.length
  .obtain⟨v,A,r⟩:=f.GK p (I▸l) (by rw[q.im]);obtain⟨G,g1,g2,gA,l_⟩:=GC _ _ _ _ r;exact⟨v,G,AJ⟩
  .exact⟨.F,bZ,AJ⟩
 obtain⟨vs,m⟩:=vcn.1 m;obtain⟨G,m⟩:=vcn.1 m;let s:Nat->Prop:=λb=>M b\/b=c.bJ\/∃p,p<ps.length/\G p b
 have V:∀b,s b->M' b:=by
  rintro b (h|h|⟨p,l,h⟩)
  .grind
  .exact f.sub b (.inr (.inr h))
  grind
 have H:∀p,p<ps.length->∀b,M b\/G p b->s b:=by grind
 have F:fA (cr prog false) s bZ w1:=by
  intro b d;rw[pb b (V b d)];rcases d with h|h|⟨p,l,h⟩
  .obtain⟨o,A,r⟩:=bX b h;exact⟨o,AJ,r.imp (h7.mono (Vx AJ)) id⟩
  .subst h;refine⟨_,f.done,.inl (.cells _ (lg λv hv=>?_) AJ)⟩;obtain⟨p,l,rfl⟩:=List.getElem_of_mem hv;have ut:p<ps.length:=by rw[<-I,<-f.len];exact l
   have:=m p ut;rw[vat l]at this;have e:=van this.1;rw[e];exact this.2.2.2.1.mono (Vx (H p ut))
  .obtain⟨o,A,r⟩:=(m p l).2.2.1 b (.inr h);exact⟨o,A,r.imp (h7.mono (Vx (H p l))) id⟩
 have dG:aM (dz s bZ) #[Value.slice (some (.a c.bJ 0)) ps.length ps.length] #[Value.slice (some (.a c.bJ 0)) ps.length ps.length]:=.one (.slice _ _ ⟨⟨rfl,.inr LF⟩,rfl,rfl⟩);have P:aZ w1 1 Ol (.S c.bJ 0 ps.length ps.length) ps:=by
  refine⟨_,_,rfl,AP,λi hi=>⟨c.bJ,0,rfl,vs i,?_,?_⟩⟩
  .have A:=(m i hi).1;have r:w1.heap[c.bJ]?=some (.cells D.toArray c.Gv):=(pb _ AJ).trans f.done;simp_all[World.cell?]
  .obtain⟨A,r,h3,h4,aU,bE⟩:=m i hi;exact au.aZ.carry ny (nx AJ h3) h4 bE
 obtain⟨Q,aF⟩:=IL (cr prog false) s bZ w1;intro OI B KJ OJ OK t OL hk;have O:∀T,Calls vef 92 #[Value.slice (some (.a c.bJ 0)) ps.length ps.length] {Q with tape:=T} (λe J=>∃v,e=.returned v/\eS J v (lq ps ps.length)/\mA (kP ps ps.length) v):=λT=>
  (aq7 ps _ {Q with tape:=T} (aZ.mono auf (xJ Q T) (au.aZ.carry aue (aF.carry F) (dG.get 0 _ _ rfl rfl) P)) vX Kq).mono AJ
 have pR:=aaP kH func92 aug rfl AM F AJ AJ dG (R:=λv J=>eS J v (lq ps ps.length)/\mA (kP ps ps.length) v) aF O true (OI.at B (.R KJ (OJ::OK)::t)) OL;refine Ul pR rfl (λb d=>?_) (λb d=>?_) ?_
 .rcases d with h|h
  .rw[Hc];exact f.low b AJ
  .exact h.elim
 .rcases d with h|h|h
  .exact f.z4 b AJ
  .exact h.elim
  .exact f.z4 b AJ
 rintro Y ⟨ρ,J,v,v',j⟩ y;rw[j.g,vcj];obtain⟨aHN,hW⟩:=j.world;have nh:∀b,Y.mine b->w1.heap.size<=b/\b<Y.w.heap.size:=λb d=>(y.new b d).resolve_left λh=>h.elim;have Z:∀b,(∃a,ρ.rel a b)->s b\/w1.heap.size<=b:=by
  rintro b ⟨a,K⟩;rcases j.dom a b K with h|h
  .grind
  grind
 have aHO:∀b,b<w1.heap.size->Y.w.heap[b]?=w1.heap[b]?:=λb d=>y.kept b d λh=>h.elim;have aHP:¬ ∃a,ρ.rel a c.st:=λh=>by
  rcases Z _ h with h|h
  .exact f.Vi (V _ h)
  .omega
 have E:∀b,(∃a,ρ.rel a b)->(Y.w.setCell ⟨c.st,0,none⟩ (.int .i32 0)).heap[b]?=Y.w.heap[b]?:=λb d=>m3 _ _ _ AJ;have C:=hW.closed bZ;have tY:ax (dz (λb=>∃a,ρ.rel a b) bZ) v' v':=ax.right (σ:=dz (λb=>∃a,ρ.rel a b) bZ) (λa b K=>⟨rfl,a,K⟩) j.val;have gv:eS Y.w v' (lq ps ps.length):=au.aZ.carry ny hW.carry j.val j.post.1;have L:w'.heap.size<=Y.w.heap.size:=AJ;have aHQ:w.heap.size<=w'.heap.size:=vac z.size f.size;have aHR:(Y.w.setCell ⟨c.st,0,none⟩ (.int .i32 0)).heap.size=Y.w.heap.size:=ai.mq _ _ _;refine hk v' Y.w ⟨⟨λb=>∃a,ρ.rel a b,⟨?_,λb d=>⟨b,j.le.1 b b ⟨rfl,.inl d⟩⟩,λb d=>?_,nw C E,tY,au.aZ.carry ny (nx E C) tY gv,j.post.2.carry j.val,λb d=>?_,λb d=>?_,?_,?_,?_,?_⟩⟩,?_,?_,L⟩
 .rw[<-q.e5];exact f.n
 .rcases Z b d with h|h
  .rcases h with h|h|⟨p,l,h⟩
   .grind
   .exact .inr λx=>(c.yU b ((q.hK b).2 (.inl x))).2.2 h
   .exact .inr λx=>((m p l).2.1 b h).2 ((q.hK b).2 (.inl x))
  .exact .inr λx=>by have:=f.low b AJ;omega
 .have hlt:b<w1.heap.size:=by rw[Hc];exact f.low b AJ
  have hne:b≠c.st:=(c.yU b ((q.hK b).2 (.inl d))).1;grind[m3]
 .rcases d with h|h|h
  .rcases Z b h with h|h
   .exact f.z4 b (.inl (V b h))
   .exact f.z4 b AJ
  .exact f.z4 b AJ
  .exact f.z4 b AJ
 .omega
 .exact(z.later.trans f.os).trans (by have:=y.os;rw[show(Y.w.setCell ⟨c.st,0,none⟩ (.int .i32 0)).os=Y.w.os from rfl,<-X.1];grind)
 .exact(show Y.w.output=_ from y.output).trans (X.2.1.trans (f.output.trans z.output))
 .exact(show Y.w.tape=_ from y.tape).trans (X.2.2.trans (f.tape.trans z.tape))
 .obtain⟨a,cap,e,_⟩:=j.post.2.carry j.val;grind
 grind
end bU
namespace aK
open Conc ConcM RowKit au bn ai e_ g6 fF hU cC m8 c5 bU
section
variable{O:fk}
def mH:(c0 prog).Good:=YU true AM AM
def He{C n:cQ}{D M M':dY}{w:aH}(h:fA C D M w):fA n D M' w:=by
 intro b j;obtain⟨o,m,d⟩:=h b j;have f:∀a b,(dz D M).rel a b->(dz D M').rel b b:=λa b k=>⟨Y,k.2⟩;refine⟨o,m,?_⟩;rcases d with d|d
 .cases o with
  |cells c e fr=>cases d with|cells _ i _=>exact .inl (.cells e (i.right f) AJ)
  |map es k=>cases d with|map _ g=>exact .inl (.map k (g.right λa b x=>⟨x.key.right f,x.val.right f,Y⟩))
  |number a l=>cases d with|number hn _=>exact .inl (.number (hn.right f) l)
  |coro x=>cases d with|shut h=>grind
  | _=>first|exact .inr trivial|(cases d)
 grind
theorem nF{D M M':dY}{v:Value}(h:ax (dz D M) v v):ax (dz D M') v v:=ax.right (ρ:=dz D M) (σ:=dz D M') (λ_ _ k=>⟨Y,k.2⟩) h
def cut{ao:Type}(g:Nat->ao)(fr a7:Nat):List ao:=(List.range (a7-fr)).map λk=>g (fr+k)
def VA{ao:Type}(g:Nat->ao)(fr a7:Nat):(cut g fr a7).length=a7-fr:=by simp[cut]
def aum{ao:Type}(g:Nat->ao){a b c:Nat}(e:a<=b)(d:b<=c):cut g a b++cut g b c=cut g a c:=by
 apply List.ext_getElem
 .simp[VA];omega
 grind[cut]
structure jM(g:Nat->Nat->List bh):Prop where
 none:∀a b,b<=a->g a b=[]
 app:∀{a b c},a<=b->b<=c->g a b++g b c=g a c
 le:∀a b,(g a b).length<=b-a
def SC(f:Nat->bh):jM (cut f):=⟨λa b h=>List.eq_nil_of_length_eq_zero (by rw[VA];omega),aum f,λa b=>by rw[VA];omega⟩
def aun(rs:List bh)(outs:Nat->bw):jM (mz rs outs):=by
 refine⟨λa b h=>?_,λ{a b c} f d=>?_,λa b=>by grind[Zw,Zv]⟩
 .simp[mz,j9,Nat.sub_eq_zero_of_le h]
 .have e:=List.range'_append_1 (s:=a) (m:=b-a) (n:=c-b);grind[mz,j9]
def pieces(g:Nat->Nat->List bh)(af S N:Nat):List (List bh):=(List.range N).map λT=>g (T*af) (min (T*af+af) S)
def EO(g:Nat->Nat->List bh)(af S N:Nat):(pieces g af S N).length=N:=by simp[pieces]
theorem Rt(g:Nat->Nat->List bh)(af S N T:Nat)(h:T<(pieces g af S N).length):(pieces g af S N)[T]=g (T*af) (min (T*af+af) S):=by simp[pieces]
def zh{g:Nat->Nat->List bh}(hg:jM g)(af S k:Nat):g 0 (min (k*af) S)++g (k*af) (min (k*af+af) S)=g 0 (min ((k+1)*af) S):=by
 rw[Nat.succ_mul];rcases vcf (k*af) S with x|x
 .rw[Nat.min_eq_left (Nat.le_of_lt x),hg.app (vba _) AP]
 .rw[hg.none (k*af) _ AP,Nat.min_eq_right x,Nat.min_eq_right AP,vde]
theorem OY{g:Nat->Nat->List bh}(hg:jM g){af S N:Nat}:∀k,k<=N->lq (pieces g af S N) k=g 0 (min (k*af) S)
 |0,_=>by simp[lq,hg.none 0 0]
 |k+1,h=>by rw[Om (by rw[EO];omega),OY hg k AP,Rt,zh hg]
def Hf{af S:Nat}(b:0<af):S<=(S+af-1) / af*af/\∀T,T<(S+af-1) / af->T*af<S:=by
 have h:=Nat.div_add_mod (S+af-1) af;have d:=Nat.mod_lt (S+af-1) b;have c:(S+af-1) / af*af=af*((S+af-1) / af):=Nat.mul_comm _ _;constructor
 .omega
 .intro T a;have:(T+1)*af<=(S+af-1) / af*af:=vcx _ a;grind
theorem VB{g:Nat->Nat->List bh}(hg:jM g){af S:Nat}:∀N,e_.ib (λT=>(g (T*af) (min (T*af+af) S)).length) N=(g 0 (min (N*af) S)).length
 |0=>by simp[e_.ib,hg.none 0 0]
 |N+1=>by rw[e_.ib,VB hg N,<-List.length_append,zh hg]
def OZ(M:dY)(w:aH)(rs:List bh)(u:Value)(_:dY)(w':aH):Prop:=
 ∃v,u=.tuple #[v,.N]/\eS w' v rs/\mA rs.length v/\∀b,M b->w'.heap[b]?=w.heap[b]?
section
variable{Post:fX}{M:dY}{w:aH}
def VC{g:Nat->Nat->List bh}(hg:jM g){af S N W:Nat}(q:0<af)(E:af<=64)(C:0<W)(F:W<=16)(hS:S<=300)(a3:N=(S+af-1) / af){jt:uab}{o p:Value}{A ip:uah}{lF:da->Nat->Value->(Nat->Prop)->aH->Prop}(hinv:∀w,(callMethod (.iface jt o) "Size" #[]).run prog w=.ok (.enter A (#[p]++#[])) w/\(callMethod (.iface jt o) "Size" #[]).events prog w #[]=#[])(r:∀g,g<=prog.globals.size->M g)(R:fA (cr prog false) M bZ w)(uJ:∀(ST:Bool->eo.Lo->aX->Prop) bs,(∀m l g w M M',(∀b,M b->M' b)->ST m l ⟨g,w,M⟩->ST m l ⟨g,w,M'⟩)->iG prog ST true A (#[p]++#[]) (iH eo () (λb=>M b\/b<O.n) w bs) (λu Q=>u=.I (S:Int)/\Q=iH eo () (λb=>M b\/b<O.n) w bs))(Z:∀c bY Stop,(∀b,M b->c.K b)->c.N=N->(∀T,T<N->c.rows T=(g (T*af) (min (T*af+af) S)).length)->(∀T,c.bad T=false)->(∀b,M b->bY.heap[b]?=w.heap[b]?)->rh c bY prog Stop 112 (.iface jt o) ip p (λT=>T*af) (λT=>min (T*af+af) S) (lF c) (λT v M' w=>lf (cr prog false) M c.K (λw v=>T<c.N/\eS w v (g (T*af) (min (T*af+af) S))) v M' w)):
 ei O prog Post 37 #[.agg #[.I (W:Int),.I (af:Int)],.iface jt o] M w 1 (OZ M w (g 0 S)):=by
 intro n Shun hn d eZ aD aB aJ aL aG csZ hc P;obtain⟨L,s⟩:=Hf (S:=S) q;rw[<-a3]at L s;have Y:N<=S:=by
  have:∀k,k<=N->k<=S:=by intro k hk;cases k with|zero=>grind|succ k=>have:=s k hk;have h2:=Nat.le_mul_of_pos_right k q;omega
  grind
 refine aud (rows:=λT=>(g (T*af) (min (T*af+af) S)).length) (aT:=λb=>M b\/b<O.n) (cO:=λc T v M' w=>lf (cr prog false) M c.K (λw v=>T<c.N/\eS w v (g (T*af) (min (T*af+af) S))) v M' w) q E C F AP a3 AP (by rw[VB hg];have:=hg.le 0 (min (N*af) S);omega) (λb a=>a.elim d.lt λx=>vav x d.ob) (λb a=>a.elim (λx=>x.elim (λy=>d.sh b (.inl y)) (d.so b)) λx=>d.sh b (.inr x)) hinv uJ
  (λc bY Stop X K b2 e z=>Z c bY Stop (λb a=>(e.hK b).2 (.inl (.inl a))) e.a3 e.lB (λT=>by rw[e.im]) AJ)
  (V:=λu w' f i=>∃j,KT M (λb=>M b\/b<O.n) w (n+W) (g 0 S) u w' f i j) (λu w' f i k h=>by obtain⟨j,h⟩:=h;exact⟨j,h.at k⟩) (λc bY X K b2 f i M' D w' st e z U hst=>?_) (λu w' f i hv=>?_)
 .have vX:lq (pieces g af S N) (pieces g af S N).length=g 0 S:=by simp_all[EO,OY]
  have:=auh (Stop:=bK prog Post f i) AJ r R (pieces g af S N) (EO g af S N).symm (by rw[EO];omega) (λk=>?_) (λT v M w h=>?_) e z U hst
  .grind
  .by_cases hk:k<=N
   .unfold kP;rw[OY hg k hk];have:=hg.le 0 (min (k*af) S);omega
   .unfold kP lq;rw[vco (by rw[EO];omega)];have:(pieces g af S N).flatten=lq (pieces g af S N) N:=by simp_all[lq,vco,EO]
    rw[this,OY hg N Kj];have:=hg.le 0 (min (N*af) S);omega
  .obtain⟨G,g1,J,I,B,uK⟩:=h;have H:T<(pieces g af S N).length:=by rw[EO,<-e.a3];exact B
   exact⟨G,g1,J,I,H,by grind[Rt]⟩
 .obtain⟨j,h⟩:=hv;refine P (.tuple #[u,.N]) j w' f i (by have:=h.n;omega) ⟨He h.cl,λg hg=>h.sub g (r g hg),λb a=>h.sh b (a.imp id .inr),λb a h0=>(h.new b a).elim (λx=>d.new b x h0) AJ,vac d.ob h.size,λb h0 a=>(h.same b (.inr a)).trans (d.old b h0 a),λb a=>h.sh b AJ⟩ h.sub (.Mb (lg λx t=>?_)) ⟨h.size,h.later,h.output,h.tape⟩ ⟨u,rfl,h.rows,h.cap,λb a=>h.same b (.inl a)⟩;simp at t;rcases t with rfl|rfl
  .exact nF h.val
  .exact .jV _ _
def auo{t:List bo}{v:Value}(p:fA (c0 prog) M (hY M) w)(d:∀g,g<=prog.globals.size->M g)(hv:nO w v t)(hrel:ax (bG M) v v)(h0:0<t.length)(a:t.length<=1000000){af S W:Nat}(f:0<af)(l:af<=64)(k:0<W)(m:W<=16)(hS:S<=300)(ie:t[0].gZ.length=S)(cR:∀i,i<S->∀c∈t,xo i c):
 ei O prog Post 37 #[.agg #[.I (W:Int),.I (af:Int)],.iface 114 (.agg #[v])] M w 1 (OZ M w (qj t 0 S)):=by
 have j:fA (cr prog false) M bZ w:=He p;have q:(λb=>M b\/bZ b)=M:=by
  funext b
  exact propext ⟨λh=>h.resolve_right λx=>x,.inl⟩
 refine VC (ip:=206) (lF:=λc T u M' w=>lf (cr prog false) M c.K (xE t (T*af) (min (T*af+af) S)) u M' w) (g:=qj t) (SC λi=>([((i:Nat):Int)],t.map (mm · i))) f l k m hS Y (arp v) d j (λST bs r=>?_) (λc bY Stop hK a3 lB o n=>?_)
 .grind[arm,nF]
 .refine aqk (v:=v) (t:=t) (bI:=M) hK d (by grind[nw]) (au.aZ.carry xD (nx n j) (nF hrel) hv) (by grind[nF]) (λargs w=>aro v args w) a (λT e=>?_) (λT e=>by grind[N9]) o;have:=(Hf (S:=S) f).2 T (a3▸e);grind
def aup{ts:List bH}{rs:List bh}{outs:Nat->bw}(ok:GI ts rs outs){ev aA:Value}(r:fA (c0 prog) M (hY M) w)(d:∀g,g<=prog.globals.size->M g)(hv:rS w ev ts)(i:eS w aA rs)(hd:mA rs.length aA)(e:ax (bG M) ev ev)(f:ax (bG M) aA aA){af W:Nat}(k:0<af)(n:af<=64)(l:0<W)(o:W<=16)(hS:rs.length<=300):
 ei O prog Post 37 #[.agg #[.I (W:Int),.I (af:Int)],.iface 105 (.agg #[ev,aA])] M w 1 (OZ M w (mz rs outs 0 rs.length)):=by
 have a:fA (cr prog false) M bZ w:=He r;have s:(λb=>M b\/bZ b)=M:=by
  funext b
  exact propext ⟨λh=>h.resolve_right λx=>x,.inl⟩
 obtain⟨v,ec,t,-⟩:=id hv;refine VC (g:=mz rs outs) (ip:=171) (lF:=λc T u M' w=>lf (cr prog false) M c.K (xK ts rs (T*af) (min (T*af+af) rs.length)) u M' w) (aun rs outs) k n l o hS Y (ars ev aA) d a (λST bs m=>arn (bs:=bs) AJ d a AJ i (nF e) (nF f) m) (λc bY Stop hK a3 lB q j=>?_);refine aqr (bI:=M) hK d (by grind[nw]) ok (au.aZ.carry C7 (nx j a) (nF e) hv) (au.aZ.carry ny (nx j a) (nF f) i) hd (by grind[nF]) (by grind[nF]) (λargs w=>arq ev aA args w) (λT p=>?_) AJ q;have:=(Hf (S:=rs.length) k).2 T (a3▸p);grind
end
end
end aK
namespace m8
open Conc RowKit ConcM au bn ai e_ g6 fF hU cC uG
structure KX(aT:dY)(w:aH)(most:Nat)(w':aH)(n':Nat)(a8:uai):Prop where
 n:n'<=most
 same:∀b,aT b->w'.heap[b]?=w.heap[b]?
 sh:∀b,aT b\/w'.heap.size<=b->∀l,e8 l=some b->¬a8 l
 size:w.heap.size<=w'.heap.size
 later:OsLater w.os w'.os
 output:w'.output=w.output
 tape:w'.tape=w.tape
theorem KX.at{aT:dY}{w:aH}{most:Nat}{w':aH}{a:Nat}{b:uai}(h:KX aT w most w' a b)(k:Nat):KX aT w most (w'.at k) a b:=⟨h.n,h.same,h.sh,h.size,h.later,h.output,h.tape⟩
section
variable{Post:fX}
variable{a2:Frame}{aD:Act}{aB:fC}{aJ:Nat}{aL:uad}{aG:uaa}{csZ:fG}
def auD{n:Nat}{Shun:uai}{S af N W:Nat}{rows:uas}{bad:uaz}{place:ubm}(X:0<af)(K:af<=64)(J:0<W)(O:W<=16)(hS:S<=1000)(a3:N=(S+af-1) / af)(hn:n+W<=250)(lB:ib rows N<=300){jt:uab}{z B:Value}{F ip:uah}{aT:dY}{w:aH}{lF cO:da->Nat->Value->(Nat->Prop)->aH->Prop}(Y:∀b,aT b->b<w.heap.size)(R:∀b,aT b\/w.heap.size<=b->∀l,e8 l=some b->¬Shun l)(hinv:∀w,(callMethod (.iface jt z) "Size" #[]).run prog w=.ok (.enter F (#[B]++#[])) w/\(callMethod (.iface jt z) "Size" #[]).events prog w #[]=#[])(uJ:∀(ST:Bool->eo.Lo->aX->Prop) bs,(∀m l g w M M',(∀b,M b->M' b)->ST m l ⟨g,w,M⟩->ST m l ⟨g,w,M'⟩)->iG prog ST true F (#[B]++#[]) (iH eo () aT w bs) (λu Z=>u=.I (S:Int)/\Z=iH eo () aT w bs))(EN:∀c bY Stop f E b2,EM c aT S af N n W rows bad place f E b2->(∀b,aT b->bY.heap[b]?=w.heap[b]?)->rh c bY prog Stop 112 (.iface jt z) ip B (λT=>T*af) (λT=>min (T*af+af) S) (lF c) (cO c))(U:∀T,T<N->bad T=true->∃b o n k,place T=.S b o n k)(A:∃T,T<N/\bad T=true)(hk:∀w' p y T,T<N->bad T=true->(∀T',T'<N->bad T'=true->T<=T')->KX aT w (n+W) w' p y->bK prog Post p y 0 (Conc.G (a2.at (aD.put ((aB[aJ]?).bind (·.dst)) (.tuple #[.N,place T])) (.R aB aL::aG)) csZ) w'):
 bK prog Post n Shun 0 (Conc.G (Frame.enter prog 37 #[.agg #[.I (W:Int),.I (af:Int)],.iface jt z] .normal) (a2.at aD (.R aB (aJ::aL)::aG)::csZ)) w:=by
 refine SJ X K J O hS a3 hn lB Y R hinv uJ EN (λc bY f E b2 i8 dn dB ig h5 fm eO fo fp fq ft fI fu fv fx fy gr gt gu p y M' D w' d s V a=>?_);obtain⟨T,m,L,hst,H,C⟩:=a.st;rw[d.im,d.a3]at H C;obtain⟨O1,I,bc⟩:=A;obtain⟨q,rfl,-⟩:=C O1 I bc;obtain⟨x,v⟩:=H q rfl;obtain⟨gn,iv,c8,ey,t⟩:=U q v x;simp only[Option.elim]at hst;rw[d.Dj,t,d.SP]at hst;have Ha:c.K f:=(d.hK f).2 AJ;have Vw:w'.heap[f]?=some (.cells #[.P c.st 0] 125):=(a.stands f (.inl Ha)).trans V;have KK:c.st<w'.heap.size:=a.low _ LO;have hsz:((w'.setCell ⟨c.st,0,none⟩ (.int .i32 1)).setCell ⟨c.st,0,none⟩ (.int .i32 0)).heap.size=w'.heap.size:=(ai.mq _ _ _).trans (ai.mq _ _ _);have hF:KX aT w (n+W) ((w'.setCell ⟨c.st,0,none⟩ (.int .i32 1)).setCell ⟨c.st,0,none⟩ (.int .i32 0)) p y:=by
  refine⟨by rw[<-d.e5];exact a.n,λb i=>?_,λb i=>a.z4 b ?_,by rw[hsz];exact vac s.size a.size,s.later.trans a.os,a.output.trans s.output,a.tape.trans s.tape⟩
  .have r:b≠c.st:=(c.yU b ((d.hK b).2 (.inl i))).1;rw[m3 _ _ _ r,m3 _ _ _ r];exact(a.stands b (.inl ((d.hK b).2 (.inl i)))).trans (s.heap b (.inr i))
  .rw[hsz]at i;exact i.imp (λh=>a.sub b (.inr (.inl ((d.hK b).2 (.inl h))))) id
 refine T3 hst Vw AJ a.PG a.Pv.1 (a.z4 f (.inl (a.sub f AJ)) _ rfl) (λj=>?_);rw[<-t];exact hk _ p y q v x (λT' Q P=>by obtain⟨q',e,h⟩:=C T' Q P;cases e;exact h) (hF.at j)
end
end m8
namespace aK
open Conc ConcM RowKit au bn cC c5 bU bM eb
structure Rd(ao:Type) where
 R:aH->(Nat->Option Value)->ao->Prop
 mono:pM R
 ii:uy R
def xZ:Rd Int:=⟨rQ,AF,GB⟩
def N0:Rd Bool:=⟨Ch,RL,Tr⟩
def NV:Rd bo:=⟨Ci,sO,xD⟩
def qC:Rd bH:=⟨IP,tT,C7⟩
section
variable{ao:Type}(dH:Nat)(r:Rd ao)(xs:List ao)(x:ao)
def dS:a4:=⟨λw v=>aZ w dH r.R v xs,λ_ _ _ hb h=>h.mono r.mono (br.ck hb),λ_=>True,λ_ _ _ _ _ _ _ hc hv h=>au.aZ.carry r.ii hc.cells hv h⟩
def pE:Rd (List ao):=⟨λw rd xs=>∃v,rd 0=some v/\aZ w dH r.R v xs,λ_ _ _ _ _ hk hr⟨v,h0,h⟩=>⟨v,hr _ _ h0,h.mono r.mono hk⟩,λρ w w' rd j1 x hc hr⟨v,h0,h⟩=>by
 obtain⟨v',h1,h2⟩:=hr 0 v h0
 exact⟨v',h1,au.aZ.carry r.ii hc h2 h⟩⟩
def ave(w:aH)(v:Value):Prop:=∃b o,v=.P b o/\r.R w (λj=>w.cell? (.a b (o+j))) x
def er:a4:=⟨ave r x,λw w' v hb⟨b,o,e,h⟩=>⟨b,o,e,r.mono _ _ _ _ _ (br.ck hb) (λj v hv=>br.ck hb _ _ _ hv) h⟩,λ_=>True,λn _ ρ w w' v v' hc hv⟨b,o,e,h⟩=>by
 subst e
 obtain⟨b',rfl,q⟩:=uO hv
 exact⟨b',o,Y,r.ii ρ w w' _ _ x hc.cells (λj v hv=>hc.cells ⟨b,o+j,none⟩ ⟨b',o+j,none⟩ v ⟨q,Y,Y⟩ hv) h⟩⟩
end
def O_(v:Value)(F:a4):a4:=⟨λw u=>u=v/\F.R w u,λ_ _ _ hb h=>⟨h.1,F.iI _ _ _ hb h.2⟩,λ_=>False,λ_ h=>h.elim⟩
def Hm(B:Nat)(cs:fi)(T:uab):a4:=⟨λw u=>∃b,u=.P b 0/\B<=b/\ag w b cs T,λ_ _ _ hb⟨b,h1,h2,h3⟩=>⟨b,h1,h2,h3.call hb⟩,λ_=>False,λ_ h=>h.elim⟩
def x0(B:Nat)(F:a4):a4:=⟨λw u=>B<=w.heap.size/\F.R w u,λ_ _ _ hb h=>⟨vac h.1 hb.size,F.iI _ _ _ hb h.2⟩,λ_=>False,λ_ h=>h.elim⟩
variable{a':Act}{w':aH}
theorem ah.of{N:Nat}{l:List (Nat×a4)}(a3:a'.tmps.size=N)(b:∀p∈l,∃v,a'.tmps[p.1]?=some v/\p.2.R w' v):ah N (aW l) a' w':=by
 refine⟨a3,λs F e=>?_⟩;have key:∀l:List (Nat×a4),aW l s=some F->(s,F)∈l:=by intro l;induction l with|nil=>intro e;cases e|cons p l a=>grind[aW]
 grind
variable{a:Act}{w:aH}
def ah.get{N:Nat}{K:bF}{s:Nat}{F G:a4}(h:ah N K a w)(hs:K s=some F)(b:a'.tmps[s]?=a.tmps[s]?)(d:∀v,F.R w v->G.R w' v):∃v,a'.tmps[s]?=some v/\G.R w' v:=by obtain⟨v,c,e⟩:=h.has s F hs;grind
def ah.akw{N:Nat}{K:bF}(h:ah N K a w){l:List (Nat×a4)}(a3:a'.tmps.size=N)(b:∀p∈l,a'.tmps[p.1]?=a.tmps[p.1]?/\∃F,K p.1=some F/\∀v,F.R w v->p.2.R w' v):ah N (aW l) a' w':=
 ah.of a3 λp f=>by obtain⟨e,F,d,c⟩:=b p f;exact h.get d e c
def avf:a4:=⟨λ_ _=>True,λ_ _ _ _ h=>h,λ_=>True,λ_ _ _ _ _ _ _ _ _ h=>h⟩
inductive uQ:Value->Prop
 |int (k:IntKind) (n:Int):uQ (.int k n)
 |bool (b:Bool):uQ (.bool b)
 |string (s:ByteArray):uQ (.string s)
 |nil (l c:Nat):uQ (.slice none l c)
variable{ρ:Ren}
def uQ.same{x y:Value}(h:uQ x)(hv:ax ρ x y):y=x:=by cases h with|int=>exact gM hv|bool=>exact VO hv|string=>cases hv;rfl|nil=>exact kR hv
theorem VW:∀{l a:uaj},(∀x∈l,uQ x)->dx (ax ρ) l a->a=l
 | [],_,_,.nil=>rfl
 |x::l,_,h,.cons c b=>by rw[(h x AQ).same c,VW (λy d=>h y AJ) b]
def VX(l:uaj)(h:∀x∈l,uQ x):a4:=⟨eA (.agg l.toArray),uP.eq _,λ_=>True,λn _ ρ w w' v v' hc hv e=>by
 cases e
 obtain⟨l',rfl,k⟩:=pB hv
 rw[VW h k]
 rfl⟩
variable{v:Value}
section
variable{P:cf}{N:Nat}{K:bF}{o:Oper}{F:a4}{x y z:uau}
def dK{b:a4}(c:bg K x b)(h:∀(ev:uak) w,b.R w (ev x)->∃v w1,(execOp ev o).run P w=.ok (.value v) w1/\F.R w1 v/\cy w w1):bD P N K o F:=λa w hk=>.inl (h a.eval w (hk.ev c))
def uR{b c:a4}(e:bg K x b)(d:bg K y c)(h:∀(ev:uak) w,b.R w (ev x)->c.R w (ev y)->∃v w1,(execOp ev o).run P w=.ok (.value v) w1/\F.R w1 v/\cy w w1):bD P N K o F:=λa w hk=>.inl (h a.eval w (hk.ev e) (hk.ev d))
def cj(b:o.op=.move x)(a:bg K x F):bD P N K o F:=dK a λev w h=>⟨_,w,by simp[execOp,b],h,vaa _ _⟩
def avg(b:o.op=.move x)(a:bg K x (O_ v F)):bD P N K o F:=dK a λev w h=>⟨_,w,by simp[execOp,b],h.2,vaa _ _⟩
def eC(b:o.op=.assign x)(a:bg K x F):bD P N K o F:=dK a λev w h=>⟨_,w,by simp[execOp,b],h,vaa _ _⟩
def ey{c:Bool}(d:o.op=.pick x y z)(b:bg K x (eB c))(a:bg K (if c then y else z) F):bD P N K o F:=uR b a λev w e h=>⟨if c then ev y else ev z,w,by
 have e:ev x=.bool c:=e;simp[execOp,d,e,go_sem],by grind,vaa _ _⟩
def VY{c:Bool}{T:uab}(b:o.op=.unOp .not T x)(a:bg K x (eB c)):bD P N K o (eB !c):=dK a λev w e=>⟨.bool !c,w,by
 have e:ev x=.bool c:=e;simp[execOp,b,e,go_sem],Y,vaa _ _⟩
end
variable{m n:Int}{f:uah}
section
variable{N:Nat}{K:bF}{o:Oper}{F:a4}{x y z:uau}{ao:Type}{T T':uab}
def wL(b:bg K x (a9 m))(a:bg K y (a9 n))(hF:∀w,F.R w v)(h:∀(ev:uak) w,ev x=.I m->ev y=.I n->(execOp ev o).run vee w=.ok (.value v) w):bD vee N K o F:=uR b a λev w d c=>⟨v,w,h ev w d c,hF w,vaa _ _⟩
abbrev tB(T:uab):Prop:=T=3\/T=2
def Af(b:o.op=.binOp .add T x y T')(d:bg K x (a9 m))(c:bg K y (a9 n))(a:c9 (m+n))(e:tB T):bD vee N K o (a9 (m+n)):=wL d c (λ_=>Y) λev w g f=>by unfold c9 at a;cases o;simp only at b;subst b;rcases e with rfl|rfl<;>(go_simp;exact IntWalk.i64_in _ a)
def Pa(b:o.op=.binOp .sub T x y T')(d:bg K x (a9 m))(c:bg K y (a9 n))(a:c9 (m-n))(e:tB T):bD vee N K o (a9 (m-n)):=wL d c (λ_=>Y) λev w g f=>by unfold c9 at a;cases o;simp only at b;subst b;rcases e with rfl|rfl<;>(go_simp;exact IntWalk.i64_in _ a)
def Pb(a:o.op=.binOp .lss T x y T')(c:bg K x (a9 m))(b:bg K y (a9 n))(d:tB T):bD vee N K o (eB (decide (m<n))):=wL c b (λ_=>Y) λev w f e=>by cases o;simp only at a;subst a;rcases d with rfl|rfl<;>go_simp
def NM(a:o.op=.binOp .gtr T x y T')(c:bg K x (a9 m))(b:bg K y (a9 n))(d:tB T):bD vee N K o (eB (decide (n<m))):=wL c b (λ_=>Y) λev w f e=>by cases o;simp only at a;subst a;rcases d with rfl|rfl<;>go_simp
def BB(a:o.op=.binOp .eql T x y T')(c:bg K x (a9 m))(b:bg K y (a9 n))(d:tB T):bD vee N K o (eB (m==n)):=wL c b (λ_=>Y) λev w f e=>by cases o;simp only at a;subst a;rcases d with rfl|rfl<;>go_simp
def NL(a:o.op=.binOp .neq T x y T')(c:bg K x (a9 m))(b:bg K y (a9 n))(d:tB T):bD vee N K o (eB (m != n)):=wL c b (λ_=>Y) λev w f e=>by cases o;simp only at a;subst a;rcases d with rfl|rfl<;>go_simp
def VZ{c:bo}{k:Nat}{r:Rd ao}{y:ao}(a:o.op=.fieldAddr 34 x k)(d:bg K x (er NV c))(hk:k<5)(g:∀w rd,Ci w rd c->r.R w (λj=>rd (k+j)) y):bD vee N K o (er r y):=dK d λev w h=>by
 obtain⟨b,f,e,h⟩:=h;refine⟨.P b (f+k),w,?_,⟨b,f+k,Y,?_⟩,vaa _ _⟩
 .cases o;simp only at a;subst a;have:k=0\/k=1\/k=2\/k=3\/k=4:=AP;rcases this with rfl|rfl|rfl|rfl|rfl<;>go_simp
 .have:=g w (λj=>w.cell? (.a b (f+j))) h;grind
def avh{c:bo}(w:aH)(rd:uaq)(h:Ci w rd c):(pE 1 xZ).R w (λj=>rd (2+j)) c.ko:=by obtain⟨c7,vs,g,h0,f,a,e,d,b⟩:=h;exact⟨c7,a,b.ko⟩
def NB{c:bo}(w:aH)(rd:uaq)(h:Ci w rd c):(pE 1 N0).R w (λj=>rd (4+j)) c.gZ:=by obtain⟨c7,vs,b,h0,g,f,e,a,d⟩:=h;exact⟨b,a,d.gZ⟩
def h6{r:Rd ao}{y:ao}(a:o.op=.load T x)(c:bg K x (er r y))(d:∀w rd,r.R w rd y->∃v,rd 0=some v/\F.R w v)(g:T=3\/T=2\/T=9\/T=4\/T=30\/T=31\/T=32\/T=25\/T=38\/T=39\/T=69):bD vee N K o F:=dK c λev w h=>by obtain⟨b,f,e,h⟩:=h;obtain⟨v,j,i⟩:=d w _ h;refine⟨v,w,?_,i,vaa _ _⟩;simp only[vcg]at j;cases o;simp only at a;subst a;rcases g with rfl|rfl|rfl|rfl|rfl|rfl|rfl|rfl|rfl|rfl|rfl<;>go_simp
def m_(n:Int)(w:aH)(rd:uaq)(h:xZ.R w rd n):∃v,rd 0=some v/\(a9 n).R w v:=⟨_,h,Y⟩
def NA(n:Bool)(w:aH)(rd:uaq)(h:N0.R w rd n):∃v,rd 0=some v/\(eB n).R w v:=⟨_,h,Y⟩
def x1{dH:Nat}{r:Rd ao}(xs:List ao)(w:aH)(rd:uaq)(h:(pE dH r).R w rd xs):∃v,rd 0=some v/\(dS dH r xs).R w v:=h
abbrev Pd(T:uab)(dH:Nat):Prop:=(dH=1/\(T=30\/T=31\/T=32\/T=40\/T=39\/T=89\/T=45))\/(dH=7/\T=47)\/(dH=5/\T=25)\/(dH=4/\T=38)
def Ny{dH:Nat}{r:Rd ao}{xs:List ao}{i:Nat}{e:ao}(a:o.op=.indexAddr T x y)(d:xs[i]?=some e)(g:Pd T dH)(ev:uak)(w:aH)(h:aZ w dH r.R (ev x) xs)(m:ev y=.I i):∃v w1,(execOp ev o).run vee w=.ok (.value v) w1/\(er r e).R w1 v/\cy w w1:=by obtain⟨hi,rfl⟩:=vab.1 d;obtain⟨bm,cap,n,l,j⟩:=h;obtain⟨b,f,rfl,c⟩:=j i hi;have k:(i:Int)<(xs.length:Int):=AP;refine⟨.P b (f+i*dH),w,?_,⟨b,f+i*dH,Y,c⟩,vaa _ _⟩;cases o;simp only at a;subst a;rcases g with⟨rfl,rfl|rfl|rfl|rfl|rfl|rfl|rfl⟩|⟨rfl,rfl⟩|⟨rfl,rfl⟩|⟨rfl,rfl⟩<;>go_simp
def iF{dH:Nat}{r:Rd ao}{xs:List ao}{i:Nat}{e:ao}(c:o.op=.indexAddr T x y)(b:bg K x (dS dH r xs))(a:bg K y (a9 i))(d:xs[i]?=some e)(f:Pd T dH):bD vee N K o (er r e):=uR b a (Ny c d f)
def avi{dH:Nat}{r:Rd ao}{xs:List ao}{i:Nat}{e:ao}(c:o.op=.indexAddr T x y)(b:bg K x (O_ v (dS dH r xs)))(a:bg K y (a9 i))(d:xs[i]?=some e)(f:Pd T dH):bD vee N K o (er r e):=uR b a λev w h=>Ny c d f ev w h.2
def K4{dH:Nat}{r:Rd ao}{xs:List ao}(a:o.op=.call {callee:=.builtin .len,args:=#[x],argTypes:=#[T]})(b:bg K x (dS dH r xs))(c:Pd T dH):bD vee N K o (a9 xs.length):=dK b λev w h=>by obtain⟨bm,cap,e,d,f⟩:=h;refine⟨.I xs.length,w,?_,Y,vaa _ _⟩;cases o;simp only at a;subst a;rcases c with⟨rfl,rfl|rfl|rfl|rfl|rfl|rfl|rfl⟩|⟨rfl,rfl⟩|⟨rfl,rfl⟩|⟨rfl,rfl⟩<;>go_simp
def EQ(a:o.op=.binOp .neq T x y T')(c:bg K x (a9 m))(b:bg K y (a9 m))(d:tB T):bD vee N K o (eB false):=wL c b (λ_=>Y) λev w f e=>by cases o;simp only at a;subst a;rcases d with rfl|rfl<;>go_simp
def avj(c:o.op=.binOp .lss T x y T')(b:bg K x (a9 m))(a:bg K y (a9 n))(d:tB T)(h:m<n):bD vee N K o (eB true):=by have:=Pb (N:=N) c b a d;grind
def V0(c:o.op=.binOp .lss T x y T')(b:bg K x (a9 m))(a:bg K y (a9 n))(d:tB T)(h:¬m<n):bD vee N K o (eB false):=by have:=Pb (N:=N) c b a d;grind
def V1{P:cf}{args:uaw}{ats:uap}(d:o.op=.call {callee:=.value (.func f),args,argTypes:=ats})(c:∀vs w,Sem.run P (callFunc f vs) w=.ok (.enter f vs) w)(h:∀a w,ah N K a w->Calls P f (args.map a.eval) w λe w'=>∃v,e=.returned v/\F.R w' v/\cy w w'):bD P N K o F:=λa w hk=>.inr ⟨f,args.map a.eval,by
 have:=c (args.map a.eval) w;generalize b:a.eval=ev at *;have e:ev (.func f)=.func (.func f) #[] #[]:=by rw[<-b];rfl
 grind[execOp,resolve,Deferred.ofValue,invoke],h a w hk⟩
def ER{P:cf}{ats:uap}{b:a4}(d:o.op=.call {callee:=.value (.func f),args:=#[x],argTypes:=ats})(g:∀vs w,Sem.run P (callFunc f vs) w=.ok (.enter f vs) w)(c:bg K x b)(h:∀v w,b.R w v->Calls P f #[v] w λe w'=>∃r,e=.returned r/\F.R w' r/\cy w w'):bD P N K o F:=
 V1 d g λa w hk=>by have:=h _ w (hk.ev c);grind
def Pe{P:cf}{ats:uap}{b c:a4}(i:o.op=.call {callee:=.value (.func f),args:=#[x,y],argTypes:=ats})(j:∀vs w,Sem.run P (callFunc f vs) w=.ok (.enter f vs) w)(g:bg K x b)(d:bg K y c)(h:∀v v' w,b.R w v->c.R w v'->Calls P f #[v,v'] w λe w'=>∃r,e=.returned r/\F.R w' r/\cy w w'):bD P N K o F:=
 V1 i j λa w hk=>by have:=h _ _ w (hk.ev g) (hk.ev d);grind
def Pf{b:Oper}{P:cf}{ops:fC}{i d s:Nat}{Q:ual}{rest:uad}{w1 ES:aH}{c:Value}(j:ops[i]?=some o)(h:ops[i+1]?=some b)(g1:o.guard=none)(l:b.guard=none)(hd:o.dst=some d)(e:b.dst=none)(a3:d<N)(p:d≠s)(hk:ah N K a w)(f:a.tmps[s]?=some c)(n:∀ev:Operand->Value,(execOp ev o).run P w=.ok (.value (.P w.heap.size 0)) ES)(m:∀ev:Operand->Value,ev (.tmp d)=.P w.heap.size 0->ev (.tmp s)=c->(execOp ev b).run P ES=.ok .skip w1)(g:cy w w1)(hF:F.R w1 (.P w.heap.size 0))(k:∀a',ah N (up K d F) a' w1->a'.defers=a.defers->wpOps P ops Q rest a' w1):wpOps P ops Q (i::(i+1)::rest) a w:=by
 refine i_ (R:=λa1 w1=>a1=a.put (some d) (.P w.heap.size 0)/\w1=ES) (pC j g1 hd (n _) ⟨Y,Y⟩) ?_;rintro a1 w2 ⟨rfl,rfl⟩;refine i_ (R:=λa1 w2=>a1=a.put (some d) (.P w.heap.size 0)/\w2=w1) (tx h l e (m _ (c2 (kS (by rw[hk.size];exact a3))) (c2 ((dV p).trans f))) ⟨Y,Y⟩) ?_;rintro a1 q ⟨rfl,rfl⟩;exact k _ (hk.put a3 g hF) (put_defers _ _ _)
end
def Pg{P:cf}{N id m:Nat}{ops:fC}{ks ks':uaa}{Q:uag}{K K':bF}(hk:ah N K a w)(h:wJ P N ops (ops.toList.take m) K K')(c:m<=ops.size)(k:∀a' w',ah N K' a' w'->a'.defers=a.defers->cy w w'->wpOps P ops (kE (b8 P (.R ops []::ks) ks' Q)) (List.range' m (ops.size-m)) a' w'):b8 P (.code (.region id ops false)::ks) ks' Q a w:=by
 refine O5 (n:=ops.size) Y ?_;have b:(ops.toList.take m).length=m:=AJ;rw[show List.range' 0 ops.size=List.range' 0 (ops.toList.take m).length++List.range' m (ops.size-m) by
  rw[b];have:=List.range'_append_1 (s:=0) (m:=m) (n:=ops.size-m);grind]
 exact O8 h (λj o d=>by
  grind) hk k
variable{v':Value}
def M_{n:Nat}(h:mA n v)(hv:ax ρ v v'):mA n v':=by obtain⟨a,c,rfl,b⟩:=h;obtain⟨bm,rfl⟩:=KZ hv;exact⟨_,_,Y,b⟩
def kh(rs:List bh):a4:=⟨λw v=>eS w v rs/\mA rs.length v,λ_ _ _ hb h=>⟨aZ.mono pj (br.ck hb) h.1,h.2⟩,λ_=>True,λ_ _ _ _ _ _ _ hc hv h=>⟨au.aZ.carry ny hc.cells hv h.1,M_ h.2 hv⟩⟩
def mc:Rd (List bh):=⟨λw rd rs=>∃v,rd 0=some v/\(eS w v rs/\mA rs.length v),λ_ _ _ _ _ hk hr⟨v,h0,h⟩=>⟨v,hr _ _ h0,aZ.mono pj hk h.1,h.2⟩,λρ w w' rd j1 x hc hr⟨v,h0,h⟩=>by
 obtain⟨v',h1,h2⟩:=hr 0 v h0
 exact⟨v',h1,au.aZ.carry ny hc h2 h.1,M_ h.2 h2⟩⟩
def Ph(t:List bo):a4:=⟨λw v=>∃c,v=.agg #[c]/\nO w c t,λ_ _ _ hb⟨c,e,h⟩=>⟨c,e,aZ.mono sO (br.ck hb) h⟩,λ_=>True,λ_ _ ρ w w' v v' hc hv⟨c,e,h⟩=>by
 subst e
 obtain⟨l',rfl,k⟩:=pB (l:=[c]) hv
 cases k with
 |cons k1 k=>cases k;exact⟨_,Y,au.aZ.carry xD hc.cells k1 h⟩⟩
def lM:Rd (List bo):=⟨λw rd t=>∃v,rd 0=some v/\nO w v t,λ_ _ _ _ _ hk hr⟨v,h0,h⟩=>⟨v,hr _ _ h0,aZ.mono sO hk h⟩,λρ w w' rd j1 x hc hr⟨v,h0,h⟩=>by
 obtain⟨v',h1,h2⟩:=hr 0 v h0
 exact⟨v',h1,au.aZ.carry xD hc h2 h⟩⟩
def jT(x y:Int):a4:=⟨eA (.agg #[.I x,.I y]),uP.eq _,λ_=>True,λ_ _=>auR x y⟩
def My(b x y z:Value):Prop:=(b.oneCell'=true/\x.oneCell'=true)/\y.oneCell'=true/\z.oneCell'=true
def BF(h:ax ρ v v')(e:v.oneCell'=true):v'.oneCell'=true:=by cases h<;>first|rfl|cases e
abbrev rF:=Int×Int×List (List bH)
def nb:Rd rF:=⟨λw rd n=>∃b v x y z,(rd 0=some (.I n.1)/\rd 1=some (.I n.2.1)/\rd 2=some b/\rd 3=some v/\rd 4=some x/\rd 5=some y/\rd 6=some z)/\My b x y z/\aZ w 1 (pE 4 qC).R v n.2.2,λ_ _ _ _ _ hk hr⟨b,v,x,y,z,⟨h0,h1,h2,h3,h4,aU,bE⟩,h',h⟩=>⟨b,v,x,y,z,⟨hr _ _ h0,hr _ _ h1,hr _ _ h2,hr _ _ h3,hr _ _ h4,hr _ _ aU,hr _ _ bE⟩,h',aZ.mono (pE 4 qC).mono hk h⟩,λρ w w' rd j1 n hc hr⟨b,v,x,y,z,⟨h0,h1,h2,h3,h4,aU,bE⟩,h',h⟩=>by
 obtain⟨v0,ez,q0⟩:=hr 0 _ h0
 obtain⟨v1,k1,bj⟩:=hr 1 _ h1
 obtain⟨v2,k2,a_⟩:=hr 2 _ h2
 obtain⟨v3,k3,q3⟩:=hr 3 _ h3
 obtain⟨v4,k4,q4⟩:=hr 4 _ h4
 obtain⟨v5,gh,q5⟩:=hr 5 _ aU
 obtain⟨v6,kU,q6⟩:=hr 6 _ bE
 rw[gM q0]at ez
 rw[gM bj]at k1
 exact⟨v2,v3,v4,v5,v6,⟨ez,k1,k2,k3,k4,gh,kU⟩,⟨⟨BF a_ h'.1.1,BF q4 h'.1.2⟩,BF q5 h'.2.1,BF q6 h'.2.2⟩,au.aZ.carry (pE 4 qC).ii hc q3 h⟩⟩
def avr(n:rF)(w:aH)(u:Value):Prop:=∃b v x y z,u=.agg [.I n.1,.I n.2.1,b,v,x,y,z].toArray/\My b x y z/\aZ w 1 (pE 4 qC).R v n.2.2
def nI(n:rF):a4:=⟨avr n,λ_ _ _ hb⟨b,v,x,y,z,e,h',h⟩=>⟨b,v,x,y,z,e,h',aZ.mono (pE 4 qC).mono (br.ck hb) h⟩,λ_=>True,λ_ _ ρ w w' u jI hc hv⟨b,v,x,y,z,e,h',h⟩=>by
 subst e
 obtain⟨l',rfl,k⟩:=pB hv
 cases k with
 |cons k1 k=>cases k with
  |cons k2 k=>cases k with
   |cons k3 k=>cases k with
    |cons k4 k=>cases k with
     |cons gh k=>cases k with
      |cons kU k=>cases k with
       |cons pG k=>
        cases k
        rw[gM k1,gM k2]
        exact⟨_,_,_,_,_,Y,⟨⟨BF k3 h'.1.1,BF gh h'.1.2⟩,BF kU h'.2.1,BF pG h'.2.2⟩,au.aZ.carry (pE 4 qC).ii hc.cells k4 h⟩⟩
def sr(rs:List bh):a4:=⟨λw u=>∃v,u=.tuple [v,.N].toArray/\(kh rs).R w v,λ_ _ _ hb⟨v,e,h⟩=>⟨v,e,(kh rs).iI _ _ _ hb h⟩,λ_=>True,λ_ _ ρ w w' u jI hc hv⟨v,e,h⟩=>by
 subst e
 obtain⟨l',rfl,k⟩:=Bx hv
 cases k with
 |cons k1 k=>cases k with
  |cons k2 k=>
   cases k
   rw[kR k2]
   exact⟨_,Y,(kh rs).ii 0 trivial _ _ _ _ _ ⟨hc.cells,hc.types,λ_ _ _ _=>vba _,hc.inj⟩ k1 h⟩⟩
def uS:Rd (Int×Int):=⟨λ_ rd x=>rd 0=some (.I x.1)/\rd 1=some (.I x.2),λ_ _ _ _ _ _ hr⟨h1,h2⟩=>⟨hr _ _ h1,hr _ _ h2⟩,λρ w w' rd j1 x hc hr⟨h1,h2⟩=>by
 obtain⟨v1,k1,bj⟩:=hr 0 _ h1
 obtain⟨v2,k2,a_⟩:=hr 1 _ h2
 rw[gM bj]at k1
 rw[gM a_]at k2
 exact⟨k1,k2⟩⟩
def K7(T:uab)(F:a4):a4:=⟨λw v=>∃u,v=.iface T u/\F.R w u,λ_ _ _ hb⟨u,e,h⟩=>⟨u,e,F.iI _ _ _ hb h⟩,F.ok,λn ok ρ w w' v v' hc hv⟨u,e,h⟩=>by
 subst e
 cases hv
 rename_i k
 exact⟨_,Y,F.ii n ok _ _ _ _ _ hc k h⟩⟩
def Mp(ts:List bH)(rs:List bh):a4:=⟨λw u=>∃a b,u=.agg [a,b].toArray/\rS w a ts/\(kh rs).R w b,λ_ _ _ hb⟨a,b,e,h,h'⟩=>⟨a,b,e,aZ.mono tT (br.ck hb) h,(kh rs).iI _ _ _ hb h'⟩,λ_=>True,λn _ ρ w w' u jI hc hv⟨a,b,e,h,h'⟩=>by
 subst e
 obtain⟨l',rfl,k⟩:=pB hv
 cases k with
 |cons k1 k=>cases k with
  |cons k2 k=>cases k;exact⟨_,_,Y,au.aZ.carry C7 hc.cells k1 h,(kh rs).ii n trivial _ _ _ _ _ hc k2 h'⟩⟩
section
variable{N:Nat}{K:bF}{o:Oper}{F:a4}{x y z:uau}{T T':uab}
def V8{n:rF}(a:o.op=.box 43 x)(d:bg K x (nI n)):bD vee N K o (er nb n):=dK d λev w h=>by obtain⟨b,v,p,q,r,e,g,h⟩:=h;have c:cy w (w.alloc (.cells #[.I n.1,.I n.2.1,b,v,p,q,r] 43)):=(vaa _ w).alloc Kj _;have f:=aZ.mono (pE 4 qC).mono (br.ck c) h;clear h;refine⟨.P w.heap.size 0,_,A1,⟨w.heap.size,0,Y,b,v,p,q,r,⟨?_,?_,?_,?_,?_,?_,?_⟩,g,f⟩,c⟩<;>exact oo (vbi w _) Y Y
def Pj(a:o.op=.box 65 x)(b:bg K x (jT m n)):bD vee N K o (er uS (m,n)):=dK b λev w h=>by have h:ev x=.agg #[.I m,.I n]:=h;have c:cy w (w.alloc (.cells #[.I m,.I n] 65)):=(vaa _ w).alloc Kj _;refine⟨.P w.heap.size 0,_,A1,⟨w.heap.size,0,Y,?_,?_⟩,c⟩<;>exact oo (vbi w _) Y Y
def V9{n:rF}(a:o.op=.fieldAddr 43 x 0)(d:bg K x (er nb n)):bD vee N K o (er xZ n.1):=dK d λev w h=>by obtain⟨b,f,e,c,v,p,q,r,⟨h0,k,j,i,g,s,m⟩,l,h⟩:=h;exact⟨.P b f,w,A1,⟨b,f,Y,h0⟩,vaa _ _⟩
def V_{n:rF}(a:o.op=.fieldAddr 43 x 1)(d:bg K x (er nb n)):bD vee N K o (er xZ n.2.1):=dK d λev w h=>by obtain⟨b,f,e,c,v,p,q,r,⟨h0,g,k,j,i,s,m⟩,l,h⟩:=h;exact⟨.P b (f+1),w,A1,⟨b,f+1,Y,g⟩,vaa _ _⟩
def Mm{n:rF}(a:o.op=.fieldAddr 43 x 3)(d:bg K x (er nb n)):bD vee N K o (er (pE 1 (pE 4 qC)) n.2.2):=dK d λev w h=>by obtain⟨b,f,e,c,v,p,q,r,⟨h0,k,j,g,i,s,m⟩,l,h⟩:=h;exact⟨.P b (f+3),w,A1,⟨b,f+3,Y,v,g,h⟩,vaa _ _⟩
def Ml{n:rF}(a:o.op=.load 43 x)(d:bg K x (er nb n)):bD vee N K o (nI n):=dK d λev w h=>by obtain⟨b,f,e,c,v,p,q,r,⟨h0,l,k,j,i,s,m⟩,g,h⟩:=h;simp only[vcg]at h0;refine⟨.agg #[.I n.1,.I n.2.1,c,v,p,q,r],w,?_,⟨c,v,p,q,r,Y,g,h⟩,vaa _ _⟩;clear h;cases o;simp only at a;subst a;go_simp
def Ho(a:o.op=.load 65 x)(c:bg K x (er uS (m,n))):bD vee N K o (jT m n):=dK c λev w h=>by obtain⟨b,f,e,h0,d⟩:=h;simp only[vcg]at h0 d;exact⟨.agg #[.I m,.I n],w,A1,Y,vaa _ _⟩
def avs{t:List bo}(a:o.op=.load 27 x)(d:bg K x (er lM t)):bD vee N K o (Ph t):=dK d λev w h=>by obtain⟨b,f,e,v,h0,c⟩:=h;simp only[vcg]at h0;refine⟨.agg #[v],w,?_,⟨v,Y,c⟩,vaa _ _⟩;clear c;cases o;simp only at a;subst a;go_simp
def l3(a:o.op=.makeInterface T x)(b:bg K x F)(c:T=105\/T=114):bD vee N K o (K7 T F):=dK b λev w h=>by refine⟨.iface T (ev x),w,?_,⟨_,Y,h⟩,vaa _ _⟩;clear h;cases o;simp only at a;subst a;rcases c with rfl|rfl<;>go_simp
def Pk{rs:List bh}(a:o.op=.extract x 0)(b:bg K x (sr rs)):bD vee N K o (kh rs):=dK b λev w h=>by obtain⟨v,e,h⟩:=h;refine⟨v,w,?_,h,vaa _ _⟩;clear h;cases o;simp only at a;subst a;go_simp
def mN:a4:=⟨eA (.N),uP.eq _,λ_=>True,λ_ _ _ _ _ _ _ _ hv h=>by cases h;exact kR hv⟩
def Pl{rs:List bh}(a:o.op=.extract x 1)(b:bg K x (sr rs)):bD vee N K o mN:=dK b λev w h=>by obtain⟨v,e,h⟩:=h;refine⟨.N,w,?_,Y,vaa _ _⟩;clear h;cases o;simp only at a;subst a;go_simp
def avt{ts:List bH}{rs:List bh}(a:o.op=.build 105 #[(0,x),(1,y)])(d:bg K x (dS 4 qC ts))(c:bg K y (kh rs)):bD vee N K o (Mp ts rs):=uR d c λev w h b=>by refine⟨.agg #[ev x,ev y],w,?_,⟨_,_,Y,h,b⟩,vaa _ _⟩;obtain⟨bm,cap,f,-⟩:=h;obtain⟨-,g,co,e,-⟩:=b;cases o;simp only at a;subst a;go_simp
def avu{t:List bo}(a:o.op=.build 114 #[(0,x)])(b:bg K x (Ph t)):bD vee N K o (Ph t):=dK b λev w h=>by obtain⟨c,e,h⟩:=h;refine⟨.agg #[c],w,?_,⟨_,Y,h⟩,vaa _ _⟩;obtain⟨bm,cap,rfl,-⟩:=h;cases o;simp only at a;subst a;go_simp
def Wa(rs:List bh)(w:aH)(rd:uaq)(h:mc.R w rd rs):∃v,rd 0=some v/\(kh rs).R w v:=h
end
end aK
namespace aK
open Conc ConcM RowKit au bn cC c5 bU
section
variable{O:fk}
def df(f:Func)(id:Nat):Array Oper:=bz.mE ((bz.dJ id (f.body.getD .skip)).getD .skip)
def tD(f:Func)(id:Nat):Code:=bz.kC ((bz.dJ id (f.body.getD .skip)).getD .skip)
def ss(id:Nat):Code->Option (Array Oper)
 | .region i o _=>if i==id then some o else none
 | .seq x y=>match ss id x with|some c=>some c|none=>ss id y
 | .block _ c=>ss id c
 | .loop c=>ss id c
 | .cond _ x y=>match ss id x with|some c=>some c|none=>ss id y
 | _=>none
def aI(f:Func)(id:Nat):Array Oper:=(ss id (f.body.getD .skip)).getD #[]
def Hp{l:Option Oper}{o o':Oper}(h:l=some o)(e:l=some o':=by simp only[df,Tryz.f12,Tryz.f3,Tryz.f4,Tryz.f10,Tryz.f17,Tryz.f20,Tryz.f27,vae,bz.dJ,bz.mE,Nat.reduceBEq,vaf,↓reduceIte];exact Y):o'=o:=van (e.symm.trans h)
def eI(l:fC){l':fC}(e:l=l':=by simp only[aI,ss,df,Tryz.f12,Tryz.f3,Tryz.f4,Tryz.f10,Tryz.f17,Tryz.f20,Tryz.f27,vae,bz.dJ,bz.mE,Nat.reduceBEq,vaf,↓reduceIte];exact Y):l=l':=e
def BG(f:Func):Code:=f.body.getD .skip
def vdc{P:cf}{f:uah}{fn:Func}{c:Code}(a:P.funcs[f]?=some fn)(b:fn.body=some c)(args:fi):Frame.enter P f args .normal=(base f).at ⟨args++Array.replicate (fn.ntmps-args.size) undef,[]⟩ [.code c]:=by grind[Frame.enter,Frame.at,base]
def Hq(ρ:Ren)(n:Nat):aM ρ (Array.replicate n undef) (Array.replicate n undef):=⟨Y,λi v v' h a=>by
 rw[Array.getElem?_replicate]at h a;split at h<;>simp_all
 subst h;subst a;exact .undef ρ⟩
def Mi(ρ:Ren)(a b:Int):aM ρ #[.I a,.I b] #[.I a,.I b]:=lg (l:=[.I a,.I b]) λx c=>by simp at c;rcases c with rfl|rfl<;>exact .int _ _
def Wb:gz prog true f27=true:=by decide+kernel
def mixed:prog.follows .mixedOrders=true:=by decide+kernel
theorem su{w:aH}{a:Addr}{v:Value}(h:w.cell? a=some v)(o:Obj):(w.alloc o).cell? a=some v:=by grind[u9,oo,Below.heap_alloc]
def js(op a:Int)(ev:Value):Array Value:=#[.I op,.I a,.I 0,ev,.N,.N,.N]
def qD(w:aH)(cE no:Nat)(op a:Int)(ev:Value):Prop:=∀j v,(js op a ev)[j]?=some v->w.cell? (.a cE (no+j))=some v
def Wc(w:aH)(cE no k:Nat)(ts:List bH):Prop:=∃tE Pm xP sv,qD w cE (no+7*(k+1)) 2 (k:Int) (.S tE Pm 1 xP)/\w.cell? (.a tE Pm)=some sv/\rS w sv ts
def avv{w w':aH}{cE no k:Nat}{ts:List bH}(h:Wc w cE no k ts)(hk:br w w'):Wc w' cE no k ts:=by obtain⟨tE,f,a,sv,e,d,c⟩:=h;exact⟨tE,f,a,sv,λj x b=>hk _ _ _ (e j x b),hk _ _ _ d,aZ.mono tT hk c⟩
end
end aK
namespace aK
open Conc ConcM RowKit au bn cC c5
variable{P:cf}{ats:uap}
section
variable{O:fk}
def We{Post:fX}{M:dY}{w:aH}{f:uah}{fn:Func}{body:Code}{args:fi}{N id:Nat}{bI rV L:bF}{ops:fC}{Fr:a4}(ks:uaa)(l:(c0 P).Good)(V:P.follows .mixedOrders=true)(i:P.funcs[f]?=some fn)(y:gz P true fn=true)(m:fn.body=some body)(dG:aM (bG M) args args)(h0:ah N bI ⟨args++Array.replicate (fn.ntmps-args.size) undef,[]⟩ w)(ld:∀s F,bI s=some F->F.ok w.heap.size)(R:∀s F,rV s=some F->F.ok w.heap.size){l2:List (Nat×a4)}(r:K0 w.heap.size l2)(Wf:Fr.ok w.heap.size)(hi:[Item.code body].all (gL P)=true)(k0:(Item.code (.region id ops true):: .code .ret::ks).all (gL P)=true)(x:(Item.inRegion ops []:: .code .ret::ks).all (gL P)=true)(K8:∀a W,a.defers=[]->ah N bI a W->b8 (ae P true) [.code body] (.code (.region id ops true):: .code .ret::ks) (λa1 w1=>a1.defers=[]/\ah N rV a1 w1/\cy W w1) a W){S:na}(gV:K5 ops S=true)(hK:qA rV ops.toList=true){g:Oper}{d:Nat}{gf:uah}{p:Func}{gK:Code}{T:uaw}(pA:ops[S.g]?=some g)(h:g.op=.call {callee:=.value (.func gf),args:=T,argTypes:=ats})(Aa:P.funcs[gf]?=some p)(lC:(p.name== "runtime.NumGoroutine")=false)(j:p.body=some gK)(gS:g.guard=none){de:Tmp}(jq:g.dst=some de){c6:a4}(hG:tC (ae P true) N w.heap.size ops S rV (λ_=>none) c6 (λE=>∀a M w Shun,Home O P M Shun w->ah N E a w->aM (bG M) a.tmps a.tmps->ei O P Post gf (T.map a.eval) M w d (λu _ w'=>c6.R w' u/\cP M w w')) ops.toList 0 (λ_=>none) rV L)(hS:S.ja=[])(Sj:O6 L l2)(Y:∀a W,ah N (aW l2) a W->∃v,(results fn a.tmps).run (ae P true) W=.ok v W/\Fr.R W v):
 ei O P Post f args M w d (λu _ w'=>Fr.R w' u/\cP M w w'):=by
 intro n Shun hn aQ eZ aD aB aJ aL aG csZ hc cx;have A:ln P f:=EP i y m;rw[vdc i m];have H:=Held.start (n0:=w.heap.size) aQ Kj (a:=⟨args++Array.replicate (fn.ntmps-args.size) undef,[]⟩) (dG.append (Hq _ _)) rfl;refine O2 l A H hi k0 (I:=ah N bI) (J:=ah N rV) (kT _ ld) (kT _ R) h0 (λW C k=>?_) λa' M' w' eH K=>?_
 .intro b cs;obtain⟨a1,w1,⟨q,t,q3⟩,Z⟩:=K8 _ W rfl k b cs;exact⟨a1,w1,⟨q,t,q3.mono C⟩,Z⟩
 refine Nh (Q:=λ_=>none) l V A x R (λ_ _ e=>Cy) gV hK IB pA h Aa lC j gS hn jq hG (.inl ⟨hS,rfl⟩) eH K ⟨K.size,λ_ _ e=>Cy⟩ λbV M2 w2 iy EV e7 U D=>?_;refine KY l i y m D x hc (I:=ah N (aW l2)) (hO:=Fr.R) (kT _ (fc r)) (Fr.ii _ Wf) (e7.a7 Sj) (λW C k=>?_) λu l8 X h1 h2 h3 h4 aU bE=>?_
 .obtain⟨v,q,t⟩:=Y _ W k;exact xV (tv (jS (Hh D.defers q ⟨t,vaa _ _⟩)))
 .exact cx u l8 X iy EV U h1 h2 h3 h4 ⟨bE,λb c e z j B=>aU b c e z ⟨j,(vaj.1 B).1⟩ B⟩
def Mh{Post:fX}{M:dY}{w:aH}{f:uah}{fn:Func}{body:Code}{args:fi}{N i:Nat}{rest:uad}{l0 l1:List (Nat×a4)}{ops:fC}{o:Oper}{ks:uaa}{d:Nat}{g:uah}{E:Func}{gK:Code}{Z:uaw}{h:Tmp}{c6 Fr:a4}(U:(c0 P).Good)(r:P.funcs[f]?=some fn)(S:gz P true fn=true)(D:fn.body=some body)(dG:aM (bG M) args args)(h0:ah N (aW l0) ⟨args++Array.replicate (fn.ntmps-args.size) undef,[]⟩ w)(ld:K0 w.heap.size l0)(q:K0 w.heap.size l1)(L:c6.ok w.heap.size)(Wf:Fr.ok w.heap.size)(hi:[Item.code body].all (gL P)=true)(R:(Item.inRegion ops []::ks).all (gL P)=true)(m:ops[i]?=some o/\o.op=.call {callee:=.value (.func g),args:=Z,argTypes:=ats}/\o.guard=none/\o.dst=some h)(Y:h<N)(hg:P.funcs[g]?=some E)(lC:(E.name== "runtime.NumGoroutine")=false)(p:E.body=some gK)(K8:∀a W,a.defers=[]->w.heap.size<=W.heap.size->ah N (aW l0) a W->b8 (ae P true) [.code body] (.R ops (i::rest)::ks) (λa1 w1=>a1.defers=[]/\ah N (aW l1) a1 w1/\Below w.heap.size W w1) a W)(h9:∀a M w Shun,Home O P M Shun w->ah N (aW l1) a w->aM (bG M) a.tmps a.tmps->ei O P Post g (Z.map a.eval) M w d (λu _ w'=>c6.R w' u/\cP M w w'))(m6:∀a W,a.defers=[]->w.heap.size<=W.heap.size->ah N (up (aW l1) h c6) a W->qr (ae P true) fn (.R ops rest::ks) (λv w1=>Fr.R w1 v/\Below w.heap.size W w1) a W):
 ei O P Post f args M w d (λu _ w'=>Fr.R w' u/\cP M w w'):=by
 intro n Shun hn X eZ aD aB aJ aL aG csZ hc cx;have T:ln P f:=EP r S D;rw[vdc r D];have Q:∀l,(Item.inRegion ops l::ks).all (gL P)=true:=λl=>by simpa[gL]using R
 have H:=Held.start (n0:=w.heap.size) X Kj (a:=⟨args++Array.replicate (fn.ntmps-args.size) undef,[]⟩) (dG.append (Hq _ _)) rfl;refine O2 U T H hi (Q _) (I:=ah N (aW l0)) (J:=ah N (aW l1)) (kT _ (fc ld)) (kT _ (fc q)) h0 (λW t y=>K8 _ W rfl t y) λa' M' w' j C=>?_;have hok:∀s F,up (aW l1) h c6 s=some F->F.ok w.heap.size:=λs F e=>by
  unfold up at e;split at e
  .cases e;exact L
  .exact fc q s F e
 refine VM m.2.1 hg lC p hn T j R m.1 m.2.2.1 ⟨m.2.2.2,by rw[C.size];exact Y⟩ (I:=ah N (aW l1)) (J:=ah N (up (aW l1) h c6)) (oa:=c6.R) (kT _ (fc q)) C (λk=>h9 a' M' (w'.at k) Shun (j.at k).gq (kT _ (fc q) _ _ _ _ _ ((show cP M' w' (w'.at k)from λ_ _ _ _ _ x=>x).mL (n0:=w.heap.size) j.gq) j.all C) j.all) (λu w2 B A=>B.put Y (vaa _ _) A) λbV M2 w2 iy EV wH V K=>?_;exact KY U r S D V (Q _) hc (I:=ah N (up (aW l1) h c6)) (hO:=Fr.R) (kT _ hok) (Fr.ii _ Wf) K (λW t y=>m6 _ W V.defers t y) λu l8 w3 B A h3 h4 aU bE=>cx u l8 w3 iy EV wH B A h3 h4 ⟨bE,λb c e z p hx=>aU b c e z ⟨p,X.lt p⟩ hx⟩
end
section
open bU bM eb
variable{O:fk}
def Hr(F:Func):Code:=.seq (.region 10 (df F 10) true) .ret
def EW(F:Func):Code:=(.seq (.region 0 (df F 0) false) (.seq (.seq (.region 1 (df F 1) false) (.block 0 (.seq (.region 2 (df F 2) false) (.cond (.tmp 12) (.seq (.region 3 (df F 3) true) .ret) (.seq (.region 4 (df F 4) false) (.cond (.tmp 29) (.seq (.region 5 (df F 5) true) .ret) (.seq (.region 6 (df F 6) false) (.cond (.tmp 44) (.seq (.region 7 (df F 7) true) .ret) (.seq (.region 8 (df F 8) false) (.cond (.tmp 63) (.seq (.region 9 (df F 9) true) .ret) .skip)))))))))) (Hr F)))
theorem Pn:f27.body=some (EW f27):=by kernel_rfl
def EX{N:Nat}{K:bF}{a:Act}{w:aH}(h:ah N K a w){s:Nat}{b:Bool}(e:K s=some (eB b)):a.eval (.tmp s)=.bool b:=h.ev (x:=.tmp s) (F:=eB b) e
def avB{es:List (List bH)}{t:List bo}{x y:Int}{a:Act}{w:aH}(hd:a.defers=[])(hk:ah 86 (aW [(0,nI (1,0,es)),(1,dS 1 lM [t]),(3,jT x y)]) a w):
 b8 vee [.code (EW f27)] [.code (.region 10 (df f27 10) true),.code .ret] (λa1 w1=>a1.defers=[]/\ah 86 (aW [(1,dS 1 lM [t]),(4,er nb (1,0,es)),(7,er uS (x,y))]) a1 w1/\cy w w1) a w:=by
 unfold EW;refine cg ?_;rw[eI (df f27 0)];refine gg hk (aE Y (V8 Y Y)<|aE Y (Pj Y Y)<|aE Y (eC (F:=mN) Y Kk)<|aE Y (eC (F:=mN) Y Kk)<|rfl) λa1 w1 k d1 b1=>cg (cg ?_);rw[eI (df f27 1)];refine gg k MH λC w2 j q b2=>wG (cg ?_);rw[eI (df f27 2)];refine gg j K_ λA u d p r=>lv (t:=false) (EX d Y) (cg ?_);rw[eI (df f27 4)];refine gg d K_ λB s c o cm=>lv (t:=false) (EX c Y) (cg ?_);rw[eI (df f27 6)];refine gg c K_ λfO io e n cK=>lv (t:=false) (EX e Y) (cg ?_);rw[eI (df f27 8)];refine gg e K_ λz v b m l=>lv (t:=false) (EX b Y) (uL (KV ?_));unfold Hr;have i:=b1.trans (b2.mono b1.size);have h:=i.trans (r.mono i.size);have g:=h.trans (cm.mono h.size);have f:=g.trans (cK.mono g.size);exact cg (jS ⟨m.trans (n.trans (o.trans (p.trans (q.trans (d1.trans hd))))),b.a7 ⟨Y,Y,Y,PA⟩,f.trans (l.mono f.size)⟩)
def avC{Post:fX}{M:dY}{w:aH}{args:fi}{es:List (List bH)}{t:List bo}{af S W:Nat}(K:aM (bG M) args args)(v:ah 86 (aW [(0,nI (1,0,es)),(1,dS 1 lM [t]),(3,jT W af)]) ⟨args++Array.replicate (86-args.size) undef,[]⟩ w)(h0:0<t.length)(f:t.length<=1000000)(D:0<af)(z:af<=64)(p:0<W)(B:W<=16)(hS:S<=300)(ie:t[0].gZ.length=S)(cR:∀i,i<S->∀c∈t,xo i c):
 ei O prog Post 27 args M w 1 (λu _ w'=>(sr (qj t 0 S)).R w' u/\cP M w w'):=by
 refine We [] (N:=86) (id:=10) (rV:=aW [(1,dS 1 lM [t]),(4,er nb (1,0,es)),(7,er uS (W,af))]) (l2:=[(8,kh (qj t 0 S)),(9,mN)]) (ops:=df f27 10) (S:=⟨8,λ_=>false,λ_=>true,[]⟩) (c6:=sr (qj t 0 S)) mH mixed func27 Wb Pn K v (fc ⟨PA,PA,PA,PA⟩) (fc ⟨PA,PA,PA,PA⟩) ⟨PA,PA,PA⟩ trivial AM AM AM (λa W hd hk=>avB hd hk) AM Y Y Y func37 AS Y Y Y (by
  rw[eI (df f27 10)];exact hq Y (Ho Y Y)<|hq Y Kl<|hq Y (V_ Y Y)<|hq Y Kp<|hq Y (iF (i:=0) Y Y Y Y AU)<|hq Y (avs Y Y)<|hq Y (avu Y Y)<|hq Y (l3 Y Y AU)<|hg Y (λa M w Shun j hk J=>by
   obtain⟨u1,g,r1⟩:=hk.has 75 (jT W af) Y;obtain⟨u2,b,_,rfl,c,rfl,d⟩:=hk.has 82 (K7 _ (Ph t)) Y;cases r1;rw[show(#[Operand.tmp 75,.tmp 82].map a.eval)=#[.agg #[.I W,.I af],.iface 114 (.agg #[c])]from by simp[c2 g,c2 b]];have hv:ax (bG M) c c:=by
    have:=J.get _ _ _ b b;cases this with
    |iface _ k=>cases k with
     |agg _ hg=>exact hg 0 _ _ Y Y
   intro n h hn l f1 a1 m y r1 r cs1 A L;exact auo j.cl j.Bk d hv h0 f D z p B hS ie cR n h hn l f1 a1 m y r1 r cs1 A λu M' w' o h I H F E C⟨x,e,P,s,q⟩=>L u M' w' o h I H F E C ⟨⟨x,e,P,s⟩,cP.JF q⟩)<|hq Y (Pk Y Y)<|hq Y (Pl Y Y)<|hq Y K6<|hq Y K6<|rfl) Y ⟨Y,Y,PA⟩ λa W hk=>?_
 obtain⟨u1,g,r1⟩:=hk.has 8 (kh (qj t 0 S)) Y;obtain⟨u2,b,d⟩:=hk.has 9 mN Y;cases d;refine⟨.tuple #[u1,.N],?_,⟨_,Y,r1⟩⟩;rw[(yW AM _ _).1];simp[tc,uw,results27,vcu,g,b]
def avD{j:Int}{es:List (List bH)}{D:List (List bh)}{x y:Int}{a:Act}{w:aH}(hd:a.defers=[])(hk:ah 86 (aW [(0,nI (2,j,es)),(2,dS 1 mc D),(3,jT x y)]) a w):
 b8 vee [.code (EW f27)] (.code (.region 3 (df f27 3) true):: .code .ret::[.inBlock 0,.code (Hr f27)]) (λa1 w1=>a1.defers=[]/\ah 86 (aW [(2,dS 1 mc D),(4,er nb (2,j,es)),(7,er uS (x,y))]) a1 w1/\cy w w1) a w:=by
 unfold EW;refine cg ?_;rw[eI (df f27 0)];refine gg hk (aE Y (V8 Y Y)<|aE Y (Pj Y Y)<|aE Y (eC (F:=mN) Y Kk)<|aE Y (eC (F:=mN) Y Kk)<|rfl) λa1 w1 e d1 b1=>cg (cg ?_);rw[eI (df f27 1)];refine gg e MH λl w2 d g b2=>wG (cg ?_);rw[eI (df f27 2)];refine gg d K_ λk i b f h=>lv (t:=true) (EX b Y) ?_;have c:=b1.trans (b2.mono b1.size);exact cg (jS ⟨f.trans (g.trans (d1.trans hd)),b.a7 ⟨Y,Y,Y,PA⟩,c.trans (h.mono c.size)⟩)
def avE{Post:fX}{M:dY}{w:aH}{args:fi}{ts:List bH}{D:List (List bh)}{rs:List bh}{outs:Nat->bw}{j af W:Nat}(Q:aM (bG M) args args)(y:ah 86 (aW [(0,nI (2,j,[ts])),(2,dS 1 mc D),(3,jT W af)]) ⟨args++Array.replicate (86-args.size) undef,[]⟩ w)(B:D[j]?=some rs)(ok:GI ts rs outs)(H:0<af)(A:af<=64)(r:0<W)(E:W<=16)(hS:rs.length<=300):
 ei O prog Post 27 args M w 1 (λu _ w'=>(sr (mz rs outs 0 rs.length)).R w' u/\cP M w w'):=by
 refine We [.inBlock 0,.code (Hr f27)] (N:=86) (id:=3) (rV:=aW [(2,dS 1 mc D),(4,er nb (2,j,[ts])),(7,er uS (W,af))]) (l2:=[(8,kh (mz rs outs 0 rs.length)),(9,mN)]) (ops:=df f27 3) (S:=⟨12,λ_=>false,λ_=>true,[]⟩) (c6:=sr (mz rs outs 0 rs.length)) mH mixed func27 Wb Pn Q y (fc ⟨PA,PA,PA,PA⟩) (fc ⟨PA,PA,PA,PA⟩) ⟨PA,PA,PA⟩ trivial AM AM AM (λa W hd hk=>avD hd hk) AM Y Y Y func37 AS Y Y Y (by
  rw[eI (df f27 3)];exact hq Y (Ho Y Y)<|hq Y (Mm Y Y)<|hq Y LU<|hq Y (iF (i:=0) Y Y Kk Y AU)<|hq Y LU<|hq Y Kl<|hq Y (V_ Y Y)<|hq Y Kp<|hq Y (iF Y Y Y B AU)<|hq Y (h6 Y Y (Wa _) AU)<|hq Y (avt Y Y Y)<|hq Y (l3 Y Y AU)<|hg Y (λa M w Shun m hk P=>by
   obtain⟨u1,g,r1⟩:=hk.has 14 (jT W af) Y;obtain⟨u2,b,_,rfl,c,f,rfl,d,l⟩:=hk.has 25 (K7 _ (Mp ts rs)) Y;cases r1;rw[show(#[Operand.tmp 14,.tmp 25].map a.eval)=#[.agg #[.I W,.I af],.iface 105 (.agg #[c,f])]from by simp[c2 g,c2 b]];have hv:ax (bG M) c c/\ax (bG M) f f:=by
    have:=P.get _ _ _ b b;cases this with
    |iface _ k=>cases k with
     |agg _ hg=>exact⟨hg 0 _ _ Y Y,hg 1 _ _ Y Y⟩
   intro n h hn o f1 a1 p z r1 t cs1 C R;exact aup ok m.cl m.Bk d l.1 l.2 hv.1 hv.2 H A r E hS n h hn o f1 a1 p z r1 t cs1 C λu M' w' q h L K J I F⟨x,e,T,v,s⟩=>R u M' w' q h L K J I F ⟨⟨x,e,T,v⟩,cP.JF s⟩)<|hq Y (Pk Y Y)<|hq Y (Pl Y Y)<|hq Y K6<|hq Y K6<|rfl) Y ⟨Y,Y,PA⟩ λa W hk=>?_
 obtain⟨u1,g,r1⟩:=hk.has 8 (kh (mz rs outs 0 rs.length)) Y;obtain⟨u2,b,d⟩:=hk.has 9 mN Y;cases d;refine⟨.tuple #[u1,.N],?_,⟨_,Y,r1⟩⟩;rw[(yW AM _ _).1];simp[tc,uw,results27,vcu,g,b]
end
open bU bM eb
def sw{N i m r:Nat}{ops:fC}{ks ks':uaa}{Q:uag}{K K':bF}{a:Act}{w:aH}(hk:ah N K a w)(h:wJ P N ops ((ops.toList.drop i).take m) K K')(p:i+m<=ops.size)(k:∀a' w',ah N K' a' w'->a'.defers=a.defers->cy w w'->b8 P (.R ops (List.range' (i+m) r)::ks) ks' Q a' w'):b8 P (.R ops (List.range' i (m+r))::ks) ks' Q a w:=λb cs=>by
 obtain⟨a1,w1,f,d⟩:=KU (R:=b8 P (.R ops (List.range' (i+m) r)::ks) ks' Q) (List.range' (i+m) r) (List.range' i m) a w (by
  have g:((ops.toList.drop i).take m).length=m:=An;have:=O8 (Q:=kE (b8 P (.R ops (List.range' (i+m) r)::ks) ks' Q)) (rest:=[]) h (i:=i) (λj o q=>AJ) hk λa' w' f d c=>⟨Y,k a' w' f d c⟩;rw[g,vde]at this;exact this) b ks cs
 obtain⟨n,w2,c,l⟩:=f b cs;have e:List.range' i (m+r)=List.range' i m++List.range' (i+m) r:=by simp[List.range'_append]
 rw[e];exact⟨n,w2,c,d.trans l⟩
def Wj(w w':aH):Prop:=∀b o v,v≠ .N->w.cell? (.a b o)=some v->w'.cell? (.a b o)=some v
variable{ao:Type}
def Wk{w w':aH}{dH:Nat}{R:aH->(Nat->Option Value)->ao->Prop}{v:Value}{xs:List ao}(d:∀x∈xs,∀b o,R w (λj=>w.cell? (.a b (o+j))) x->R w' (λj=>w'.cell? (.a b (o+j))) x)(h:aZ w dH R v xs):aZ w' dH R v xs:=by obtain⟨bm,cap,rfl,c,f⟩:=h;refine⟨bm,cap,Y,c,λi hi=>?_⟩;obtain⟨b,off,e,a⟩:=f i hi;exact⟨b,off,e,d _ (vbe hi) _ _ a⟩
def OM{w:aH}{dH:Nat}{R:aH->(Nat->Option Value)->ao->Prop}{v:Value}{xs:List ao}(h:aZ w dH R v xs)(a:0<xs.length):v≠ .N:=by obtain⟨bm,cap,rfl,-,-⟩:=h;grind
def avM{w:aH}{dH:Nat}{R:aH->(Nat->Option Value)->ao->Prop}{v:Value}{xs:List ao}(h:aZ w dH R v xs):v.oneCell'=true:=by obtain⟨bm,cap,rfl,-,-⟩:=h;rfl
def Full(rs:List bh):Prop:=∀r∈rs,0<r.1.length/\0<r.2.length
def OG{w w':aH}(hk:Wj w w'){v:Value}{rs:List bh}(i:Full rs)(h:eS w v rs):eS w' v rs:=by refine Wk (λx g b o⟨pv,k,h0,d,c,a⟩=>?_) h;obtain⟨f,e⟩:=i x g;exact⟨pv,k,hk _ _ _ (OM c f) h0,hk _ _ _ (OM a e) d,Wk (λy _ b o h=>hk _ _ _ AQ h) c,Wk (λy _ b o⟨h0,d,c,a,j⟩=>⟨hk _ _ _ AQ h0,hk _ _ _ AQ d,hk _ _ _ AQ c,hk _ _ _ AQ a,j⟩) a⟩
def Ai(n0 N:Nat)(D:List (List bh))(w:aH)(v:Value):Prop:=∃b cs,v=.S b 0 D.length N/\n0<=b/\ag w b cs 69/\cs.size=N/\(∀(i:Nat) rs,D[i]?=some rs->∃u,cs[i]?=some u/\(kh rs).R w u)/\∀i,D.length<=i->i<N->cs[i]?=some (.N)
def Po(n0:Nat)(w:aH)(v:Value):Prop:=∃b,v=.P b 0/\n0<=b/\ag w b #[.I 0,.N] 50
variable{T:uab}
section
variable{n0 N:Nat}{D:List (List bh)}
def Ht{ρ:Ren}{w w':aH}(f:rA n0 ρ w w'){b d:Nat}(r:ρ.rel b d){cs:fi}(h:ag w b cs T):∃a,ag w' d a T/\a.size=cs.size/\∀(i:Nat) u,cs[i]?=some u->∃c,a[i]?=some c/\ax ρ u c:=by obtain⟨a,e,g⟩:=f.types _ _ _ _ _ r h;refine⟨a,e,g,λi u hi=>?_⟩;obtain⟨c,j,k⟩:=f.cells ⟨b,i,none⟩ ⟨d,i,none⟩ u ⟨r,Y,Y⟩ ((h.rules.1 i).trans hi);exact⟨c,((ag.rules e).1 i).symm.trans j,k⟩
def avN:kf n0 (Ai n0 N D):=by
 rintro ρ w w' v v' d hv ⟨b,cs,rfl,hn,h,hs,m,l⟩;obtain⟨p,rfl,r⟩:=rB hv;obtain⟨n,g,f,key⟩:=Ht d r h;refine⟨p,n,Y,d.new _ _ r hn,g,f.trans hs,λi rs hi=>?_,λi k j=>?_⟩
 .obtain⟨u,o,q⟩:=m i rs hi;obtain⟨e,a,c⟩:=key i u o;exact⟨e,a,(kh rs).ii _ trivial _ _ _ _ _ d c q⟩
 .obtain⟨e,a,c⟩:=key i _ (l i k j);rw[kR c]at a;exact a
def OB:kf n0 (Po n0):=by
 rintro ρ w w' v v' c hv ⟨b,rfl,hn,g⟩;obtain⟨l,rfl,r⟩:=uO hv;obtain⟨k,f,e,key⟩:=Ht c r g;obtain⟨u0,a,j⟩:=key 0 _ Y;obtain⟨u1,d,h⟩:=key 1 _ Y;rw[gM j]at a;rw[kR h]at d;refine⟨l,Y,c.new _ _ r hn,?_⟩;have:k=#[.I 0,.N]:=by apply vcp;intro i;match i with|0=>exact a|1=>exact d|i+2=>simp[e]
 exact this▸f
def On(n0 N:Nat)(D:List (List bh)):a4:=⟨Ai n0 N D,λw w' v hb⟨b,cs,e,h1,h2,h3,h4,aU⟩=>⟨b,cs,e,h1,h2.call hb,h3,λi rs hi=>by
 obtain⟨u,bj,a_⟩:=h4 i rs hi
 exact⟨u,bj,(kh rs).iI _ _ _ hb a_⟩,aU⟩,λn=>n=n0,λn h=>h▸avN⟩
def BH(n0:Nat):a4:=⟨Po n0,λw w' v hb⟨b,e,h1,h2⟩=>⟨b,e,h1,h2.call hb⟩,λn=>n=n0,λn h=>h▸OB⟩
def Ai.list{w:aH}{v:Value}(h:Ai n0 N D w v)(a3:D.length<=1000):(dS 1 mc D).R w v:=by obtain⟨b,cs,rfl,-,a,-,c,-⟩:=h;refine⟨_,_,Y,AP,λi hi=>⟨b,0,Y,?_⟩⟩;obtain⟨u,d,e⟩:=c i _ (vat hi);exact⟨u,by simp[a.rules.1,d],e⟩
def Ai.grow{w:aH}{b:Nat}{cs:fi}{rs:List bh}{u:Value}(f:ag w b cs 69)(hn:n0<=b)(hs:cs.size=N)(g:D.length<N)(n:∀(i:Nat) rs,D[i]?=some rs->∃u,cs[i]?=some u/\(kh rs).R w u)(m:∀i,D.length<=i->i<N->cs[i]?=some (.N))(d:(kh rs).R w u)(k:Full rs)(hF:∀x∈D,Full x):Wj w (w.setCell ⟨b,D.length,none⟩ u)/\Ai n0 N (D++[rs]) (w.setCell ⟨b,D.length,none⟩ u) (.S b 0 (D.length+1) N):=by
 have hk:Wj w (w.setCell ⟨b,D.length,none⟩ u):=λp o v hv a=>by
  by_cases e:(⟨b,D.length,none⟩:Addr)=⟨p,o,none⟩
  .cases e;rw[f.rules.1,m _ Kj g]at a;cases a;exact absurd Y hv
  .rw[World.cell?_setCell_other (h:=e)];exact a
 refine⟨hk,b,_,AQ,hn,f.set _ _,by simpa using hs,λi r hi=>?_,λi l q=>?_⟩
 .by_cases e:i=D.length
  .subst e;simp at hi;subst hi;exact⟨u,by simp[hs,g],OG hk k d.1,d.2⟩
  .have c:D[i]?=some r:=by grind
   obtain⟨v,s,j⟩:=n i r c;exact⟨v,AJ,OG hk (hF r (vcb c)) j.1,j.2⟩
 .simp at l;grind
end
def Oj{w:aH}{b o:Nat}{c:fi}{e:uab}{fr:ubv}{v:Value}(h:w.heap[b]?=some (.cells c e fr))(hv:c[o]?=some v):w.setCell ⟨b,o,none⟩ v=w:=by
 have a:(w.setCell ⟨b,o,none⟩ v).heap=w.heap:=by
  apply vcp;intro i;simp only[World.setCell,vaz];by_cases hi:b=i
  .subst hi;simp only[vbr,h,vby];have d:o<c.size:=by grind
   have:c.setIfInBounds o v=c:=by grind
   grind
  grind
 show({w with heap:=(w.setCell ⟨b,o,none⟩ v).heap}:aH)=w;rw[a]
def sx:Value:=.agg #[.I 0,.N]
def Wl{ρ:Ren}{u:Value}(h:ax ρ sx u):u=sx:=by
 obtain⟨c,rfl,k⟩:=pB h;cases k with
 |cons b k=>cases k with
  |cons a k=>cases k;rw[gM b,kR a];rfl
def Hu(rs:List bh)(w:aH)(u:Value):Prop:=∃aA,u=.tuple #[aA,.I 0,sx]/\eS w aA rs
def Oc{n0:Nat}(rs:List bh):kf n0 (Hu rs):=by
 rintro ρ w w' v v' a hv ⟨aA,rfl,h⟩;obtain⟨e,rfl,k⟩:=Bx hv;cases k with
 |cons d k=>cases k with
  |cons c k=>cases k with
   |cons b k=>cases k;exact⟨_,by rw[gM c,Wl b],au.aZ.carry ny a.cells d h⟩
def Pp(F:Func):Code:=.seq (.block 2 (.seq (.region 6 (aI F 6) false) (.cond (.tmp 32) (.seq (.region 7 (aI F 7) false) .ret) (.seq (.region 8 (aI F 8) false) (.cond (.tmp 39) (.seq (.region 9 (aI F 9) false) .ret) .skip))))) (.region 10 (aI F 10) false)
def E0(F:Func):Code:=.seq (.region 3 (aI F 3) false) (.seq (.cond (.tmp 20) .skip (.exit 0)) (.seq (.block 1 (.seq (.region 4 (aI F 4) false) (.seq (.region 5 (aI F 5) false) (Pp F)))) (.region 11 (aI F 11) false)))
def K9(F:Func):Code:=.seq (.region 12 (aI F 12) false) .ret
def Wm(F:Func):Code:=.seq (.region 0 (aI F 0) false) (.seq (.region 1 (aI F 1) false) (.seq (.seq (.region 2 (aI F 2) false) (.block 0 (.loop (E0 F)))) (K9 F)))
def wM(F:Func):List Item:=[.code (E0 F),.inLoop (E0 F),.inBlock 0,.code (K9 F)]
def E1(F:Func):List Item:=[.code (Pp F),.inBlock 1,.code (.region 11 (aI F 11) false),.inLoop (E0 F),.inBlock 0,.code (K9 F)]
theorem Hv:f20.body=some (Wm f20):=by kernel_rfl
section
variable{N:Nat}{K:bF}{o:Oper}{F:a4}{x y:uau}
def avO{s B:Nat}(b:o.op=.alloc 50)(hs:K s=some (x0 B F)):bD vee N K o (BH B):=λa w hk=>by obtain⟨v,-,c,-⟩:=hk.has s _ hs;refine .inl ⟨.P w.heap.size 0,w.alloc (.cells #[.I 0,.N] 50),?_,⟨_,Y,c,ag.new _ _ _⟩,(vaa _ w).alloc Kj _⟩;generalize a.eval=ev;cases o;simp only at b;subst b;go_simp
def avP{s B n:Nat}(f:o.op=.makeSlice 89 x y)(e:bg K x (a9 0))(d:bg K y (a9 n))(hn:n<=1000)(hs:K s=some (x0 B F)):bD vee N K o (On B n []):=λa w hk=>by obtain⟨v,-,g,-⟩:=hk.has s _ hs;have c:a.eval x=.I 0:=hk.ev e;have b:a.eval y=.I n:=hk.ev d;refine .inl ⟨.S w.heap.size 0 0 n,w.alloc (.cells (Array.replicate n (.N)) 69),?_,⟨_,_,Y,g,ag.new _ _ _,AQ,λi rs h=>by simp at h,λi _ h=>by simp[h]⟩,(vaa _ w).alloc Kj _⟩;obtain⟨i,m,l,k,j⟩:=vcv (show(prog.info? 69).map (λi=>(i.zero,i.size,i.bytes))=some (some (.N),1,24)from AS);have:=run_make (P:=ae prog true) w 89 69 i _ BR m l .i64 .i64 0 n AU AP (by rw[j];simp;omega) AP;generalize a.eval=ev at c b⊢;simp[execOp,f,c,b,this,k,madeCells,go_sem];rw[show(λx=>[Value.slice none 0 0][x % 1]?.getD default)=λ_:Nat=>Value.slice none 0 0 from funext λx=>by rw[Nat.mod_one];rfl,show Array.map (λ_:Nat=>Value.slice none 0 0) (Array.range n)=Array.replicate n (.N)from Array.ext AQ (by intros;simp)]
def Ob:tV vee 89 69 (.N) 1 24:=⟨BR,AS,AU,AU⟩
def avQ{ops:fC}{i d:Nat}{a:Act}{w:aH}{b n cap g:Nat}{u:Value}{cs:fi}(m:ops[i]?=some o)(p:o.guard=none)(hd:o.dst=some d)(c:o.op=.call {callee:=.builtin .append,args:=#[x,y],argTypes:=#[89,89]})(k:a.eval x=.S b 0 n cap)(f:a.eval y=.S g 0 1 1)(hv:w.cell? (.a g 0)=some u)(A:u.oneCell'=true)(e:ag w b cs 69)(z:cs.size=cap)(hn:n+1<=cap){Q:uag}(h:Q (a.put (some d) (.S b 0 (n+1) cap)) (w.setCell ⟨b,n,none⟩ u)):wpOps vee ops (kE Q) [i] a w:=by
 obtain⟨q,hi,s,hsz,r⟩:=vcv Ob.hi;have l:=run_append_room_cells (P:=ae prog true) w 89 o.type 69 q Ob.ht hi b 0 n cap ⟨g,0,none⟩ 1 1 [u] AJ (λj u t=>by
  grind[Addr.add]) AJ hn (by have:=e.rules.1;grind) (by have:=e.rules.2;grind)
 refine pC m p hd (v:=.S b 0 (n+1) cap) (w1:=w.setCell ⟨b,n,none⟩ u) ?_ h;simp only[execOp,c,resolve,invoke,builtin,k,f,l,Result.andThen,Sem.run_bind,Sem.run_pure,List.map_toArray,vdd,List.map_nil];grind[World.setCells]
def Oa{bm:uam}{n c:Nat}(a:o.op=.call {callee:=.builtin .len,args:=#[x],argTypes:=#[T]})(b:bg K x (qz (.slice bm n c)))(d:T=47):bD vee N K o (a9 n):=dK b λev w h=>by have e:ev x=.slice bm n c:=h;subst d;refine⟨.I n,w,?_,Y,vaa _ _⟩;cases o;simp only at a;subst a;go_simp
def avR{rs:List bh}(b:o.op=.call {callee:=.builtin .len,args:=#[x],argTypes:=#[69]})(d:bg K x (kh rs)):bD vee N K o (a9 rs.length):=dK d λev w h=>by obtain⟨-,a,c,e,-⟩:=h;refine⟨.I rs.length,w,?_,Y,vaa _ _⟩;cases o;simp only at b;subst b;go_simp
def avS{T':uab}(b:o.op=.binOp .neq T x (.const (.N)) T')(c:bg K x mN)(d:T=76):bD vee N K o (eB false):=λa w hk=>.inl ⟨.F,w,by
 have e:a.eval x=.N:=hk.ev c;have f:a.eval (.const (.N))=.N:=rfl;generalize a.eval=ev at e f⊢;subst d;cases o;simp only at b;subst b;go_simp,Y,vaa _ _⟩
def N1(b:o.op=.build 50 #[]):bD vee N K o (VX [.I 0,.N] (by simp;exact⟨.int _ _,.nil _ _⟩)):=λa w hk=>by refine .inl ⟨.agg #[.I 0,.N],w,?_,Y,vaa _ _⟩;generalize a.eval=ev;cases o;simp only at b;subst b;go_simp
def avT{b:uam}{n uc:Nat}(a:o.op=.buildSlice 89 1 #[(0,x)])(ev:uak)(w:aH)(c:ev x=.slice b n uc):(execOp ev o).run vee w=.ok (.value (.S w.heap.size 0 1 1)) (w.alloc (.cells #[.slice b n uc] 69)):=by cases o;simp only at a;subst a;go_simp
def BI{v:Value}(b:o.op=.assign x){ev:uak}(a:ev x=v)(w:aH):(execOp ev o).run P w=.ok (.value v) w:=by simp[execOp,b,a]
def avU(a:o.op=.alloc 43)(ev:uak)(w:aH):(execOp ev o).run vee w=.ok (.value (.P w.heap.size 0)) (w.alloc (.cells #[.I 0,.I 0,.I 0,.N,.N,.N,.N] 43)):=by cases o;simp only at a;subst a;go_simp
def E2{w:aH}{b o:Nat}{cs:fi}{v:Value}(a:ag w b cs T)(h:v.oneCell'=true)(c:o<cs.size:=by simp):(store ⟨b,o,none⟩ v).run P w=.ok () (w.setCell ⟨b,o,none⟩ v):=by rw[run_store _ _ _ _ _ h];simp[a.rules.1,a.rules.2,c]
def avV(w:aH)(v0 v1 v2 v3 j i h:Value)(h0:v0.oneCell'=true)(s:v1.oneCell'=true)(r:v2.oneCell'=true)(q:v3.oneCell'=true)(p:j.oneCell'=true)(v:i.oneCell'=true)(u:h.oneCell'=true):∃w',(∀{o:Oper}{x y:uau},o.op=.store 43 x y->∀{ev:uak},ev x=.P w.heap.size 0->ev y=.agg #[v0,v1,v2,v3,j,i,h]->(execOp ev o).run vee (w.alloc (.cells #[.I 0,.I 0,.I 0,.N,.N,.N,.N] 43))=.ok .skip w')/\ag w' w.heap.size #[v0,v1,v2,v3,j,i,h] 43/\cy w w':=by
 have e:=ag.new w #[.I 0,.I 0,.I 0,.N,.N,.N,.N] 43;have c:=e.set 0 v0;have d:=c.set 1 v1;have b:=d.set 2 v2;have a:=b.set 3 v3;have g:=a.set 4 j;have f:=g.set 5 i;have k:=f.set 6 h;simp only[List.setIfInBounds_toArray,List.set_cons_zero,List.set_cons_succ]at k;refine⟨_,@fun o x y l ev A z=>?_,k,(((((((((vaa _ w).alloc Kj _).setCell Kj _).setCell Kj _).setCell Kj _).setCell Kj _).setCell Kj _).setCell Kj _).setCell Kj _)⟩;have t:Hid _:=And.intro e (And.intro c (And.intro d (And.intro b (And.intro a (And.intro g f)))));generalize m:World.setCell _ _ _=W';have n:Hid _:=m;clear e c d b a g f k m;cases o;simp only at l;subst l;go_simp
 obtain⟨e,c,d,b,a,g,f⟩:=t.out;rw[E2 e h0,vcw,E2 c s,vcw,E2 d r,vcw,E2 b q,vcw,E2 a p,vcw,E2 g v,vcw,E2 f u,vcw,n.out]
def avW(c:o.op=.store 50 x y)(ev:uak){w:aH}{b:Nat}(a:ag w b #[.I 0,.N] 50)(h:ev x=.P b 0)(g:ev y=.agg #[.I 0,.N]):(execOp ev o).run vee w=.ok .skip w:=by
 obtain⟨i,f,d⟩:=a.all;cases o;simp only at c;subst c;have e:(w.setCell ⟨b,0,none⟩ (.I 0)).setCell ⟨b,1,none⟩ (.N)=w:=by rw[Oj a Y,Oj a Y]
 go_simp
end
def x3{N:Nat}{a:Act}{w:aH}(h:a.tmps.size=N):ah N (aW []) a w:=⟨h,λ_ _ e=>Cy⟩
def dQ{N:Nat}{l:List (Nat×a4)}{a:Act}{w:aH}{s:Nat}{F:a4}{v:Value}(h:a.tmps[s]?=some v)(hv:F.R w v)(hk:ah N (aW l) a w):ah N (aW ((s,F)::l)) a w:=⟨hk.size,λs' G e=>by
 unfold aW at e;split at e
 .rename_i b;cases e;exact⟨v,b▸h,hv⟩
 .exact hk.has s' G e⟩
def nJ{args:fi}{n i:Nat}{v:Value}(h:args[i]?=some v):(⟨args++Array.replicate n undef,[]⟩:Act).tmps[i]?=some v:=by show(args++Array.replicate n undef)[i]?=some v;rw[Array.getElem?_append_left (vaj.1 h).1];exact h
def BL{N:Nat}{K:bF}{a:Act}{w:aH}{s:Nat}{b c:Bool}(h:ah N K a w)(e:K s=some (eB b))(d:b=c):a.eval (.tmp s)=.bool c:=d▸h.ev (x:=.tmp s) (F:=eB b) e
abbrev mO(n0 N:Nat)(D:List (List bh))(W af:Int)(k:Nat):List (Nat×a4):=[(9,On n0 N D),(8,BH n0),(5,er uS (W,af)),(18,a9 N),(19,a9 k)]
section
variable{n0 N k c:Nat}{bm:uam}{W af:Int}{D:List (List bh)}{rs:List bh}{ns:List rF}{la:rF}{ts:List (List bo)}{aV bd:Value}{a:Act}{w:aH}
def avX(a3:N<=1000)(hd:a.defers=[])(hn:n0<=w.heap.size)(hk:ah 57 (aW [(0,qz aV),(1,qz (.slice bm N c)),(2,jT W af),(3,lL)]) a w):
 b8 vee [.code (Wm f20)] (wM f20) (λa1 w1=>a1.defers=[]/\(a1.tmps[0]?=some aV/\a1.tmps[17]?=some (.slice bm N c))/\ah 57 (aW (mO n0 N [] W af 0)) a1 w1/\Below n0 w w1) a w:=by
 obtain⟨u,h,g⟩:=hk.has 3 _ Y;have hk:=dQ (F:=x0 n0 lL) h ⟨hn,g⟩ hk;unfold Wm;refine cg ?_;rw[eI (aI f20 0)];refine gg hk (aE Y (Pj Y Y)<|aE Y (eC (F:=mN) Y Kk)<|aE Y (eC (F:=a9 0) Y Kk)<|aE Y (avO (s:=3) Y Y)<|rfl) λa1 w1 f d1 b1=>cg ?_;rw[eI (aI f20 1)];refine gg f (aE Y Kl<|aE Y (Oa Y Y Y)<|aE Y (avP (s:=3) Y Kk Y a3 Y)<|aE Y K6<|rfl) λp w2 e j b2=>cg (cg ?_);rw[eI (aI f20 2)];refine gg e (aE Y Kl<|aE Y (Oa Y Y Y)<|aE Y (cj (F:=a9 (0:Nat)) Y Kk)<|rfl) λo n b i k=>wG (VG (jS ⟨i.trans (j.trans (d1.trans hd)),?_,b.a7 ⟨Y,Y,Y,Y,Y,PA⟩,?_⟩))
 .obtain⟨v,l,rfl⟩:=b.has 0 _ Y;obtain⟨u,m,rfl⟩:=b.has 17 _ Y;exact⟨l,m⟩
 .have d:=b1.trans (b2.mono b1.size);exact(d.trans (k.mono d.size)).mono hn
def avY(V:D.length=k)(a3:N<=1000)(T:k<N)(E:ns[k]?=some la)(hd:a.defers=[])(hn:n0<=w.heap.size)(h0:a.tmps[0]?=some aV)(O:a.tmps[17]?=some bd)(ht:(dS 1 lM ts).R w aV)(H:(dS 7 nb ns).R w bd)(h:ah 57 (aW (mO n0 N D W af k)) a w):
 b8 vee (wM f20) (.R (aI f20 5) (List.range' 4 6)::E1 f20) (λa1 w1=>a1.defers=[]/\(a1.tmps[0]?=some aV/\a1.tmps[17]?=some bd)/\ah 57 (aW ((27,dS 1 mc D)::(25,nI la)::(26,dS 1 lM ts)::(28,jT W af)::(10,a9 k)::mO n0 N D W af k)) a1 w1/\Below n0 w w1) a w:=by
 have hk:=dQ (F:=O_ aV (dS 1 lM ts)) h0 ⟨Y,ht⟩<|dQ (F:=O_ bd (dS 7 nb ns)) O ⟨Y,H⟩ h;unfold wM E0;refine cg ?_;rw[eI (aI f20 3)];refine gg hk (aE Y (Pb Y Y Y AU)<|rfl) λa1 w1 p d1 b1=>cg (lv (t:=true) (BL p Y An) (uL (cg (wG (cg ?_)))));rw[eI (aI f20 4)];refine uM (show b8 _ (.R _ (List.range' 0 (3+3))::_) _ _ _ _ from sw p (aE Y Kl<|aE Y (avi Y Y Y E AU)<|aE Y (Ml Y Y)<|rfl) AU λc w2 f M b2=>xX ?_);obtain⟨U,j,y,aA,z,A,o,rfl,d,q⟩:=f.has 23 _ Y;obtain⟨b,m,J⟩:=f.has 21 _ Y;refine i_ (R:=λa' w'=>a'=c.put (some 11) (.P w2.heap.size 0)/\w'=w2.alloc (.cells #[.I 0,.I 0,.I 0,.N,.N,.N,.N] 43)) (pC Y Y Y (avU Y _ _) ⟨Y,Y⟩) ?_;rintro _ _ ⟨rfl,rfl⟩;have Q:(c.put (some 11) (.P w2.heap.size 0)).tmps[21]?=some b:=(dV AU).trans m;refine i_ (R:=λa' w'=>a'=(c.put (some 11) (.P w2.heap.size 0)).put (some 10) b/\w'=w2.alloc (.cells #[.I 0,.I 0,.I 0,.N,.N,.N,.N] 43)) (pC (v:=b) Y Y Y (BI Y (c2 Q) _) ⟨Y,Y⟩) ?_;rintro _ _ ⟨rfl,rfl⟩;have P:((c.put (some 11) (.P w2.heap.size 0)).put (some 10) b).tmps[11]?=some (.P w2.heap.size 0):=(dV AU).trans (kS (by rw[f.size];decide));have l:((c.put (some 11) (.P w2.heap.size 0)).put (some 10) b).tmps[23]?=some _:=(dV AU).trans ((dV AU).trans j);obtain⟨B,C,K,g⟩:=avV w2 (.I la.1) (.I la.2.1) y aA z A o Y Y d.1.1 (avM q) d.1.2 d.2.1 d.2.2;refine i_ (R:=λa' w'=>a'=(c.put (some 11) (.P w2.heap.size 0)).put (some 10) b/\w'=B) (tx Y Y Y (C Y (c2 P) (c2 l)) ⟨Y,Y⟩) ?_;rintro _ _ ⟨rfl,rfl⟩;have hcell:=K.rules.1;have I:=(f.put (s:=11) (F:=er nb la) AU g ⟨w2.heap.size,0,Y,y,aA,z,A,o,⟨hcell _,hcell _,hcell _,hcell _,hcell _,hcell _,hcell _⟩,d,aZ.mono (pE 4 qC).mono (br.ck g) q⟩).put (s:=10) (F:=a9 k) AU (vaa _ _) J;refine qy (cg (uM ?_));rw[eI (aI f20 5)];refine(show b8 _ (.R _ (List.range' 0 (4+6))::_) _ _ _ _ from sw I (aE Y (Ml Y Y)<|aE Y (avg Y Y)<|aE Y Kl<|aE Y (Ho Y Y)<|rfl) AU λX S e L cm=>jS ⟨L.trans ((put_defers _ _ _).trans ((put_defers _ _ _).trans (M.trans (d1.trans hd)))),?_,?_,?_⟩)
 .obtain⟨v,i,rfl,-⟩:=e.has 0 _ Y;obtain⟨u,n,rfl,-⟩:=e.has 17 _ Y;exact⟨i,n⟩
 .obtain⟨v,i,n⟩:=e.has 27 _ Y;exact dQ i (Ai.list n AP) (e.a7 ⟨Y,Y,Y,Y,Y,Y,Y,Y,Y,PA⟩)
 .have x:=b1.trans (b2.mono b1.size);have r:=x.trans (g.mono x.size);exact(r.trans (cm.mono r.size)).mono hn
def av2(hD:D.length=k)(a3:N<=1000)(uT:k<N)(pp:rs.length<=300)(hf:Full rs)(hF:∀x∈D,Full x)(hd:a.defers=[])(hn:n0<=w.heap.size)(h0:a.tmps[0]?=some aV)(Wn:a.tmps[17]?=some bd)(h:ah 57 (aW ((29,sr rs)::mO n0 N D W af k)) a w):
 b8 vee (.R (aI f20 5) (List.range' 5 5)::E1 f20) (wM f20) (λa1 w1=>a1.defers=[]/\(a1.tmps[0]?=some aV/\a1.tmps[17]?=some bd)/\ah 57 (aW (mO n0 N (D++[rs]) W af (k+1))) a1 w1/\Below n0 w w1) a w:=by
 have hk:=dQ (F:=qz aV) h0 rfl<|dQ (F:=qz bd) Wn rfl h;unfold E1 Pp;rw[eI (aI f20 5)];refine(show b8 _ (.R _ (List.range' 5 (5+0))::_) _ _ _ _ from sw hk (aE rfl Kl<|aE rfl (Pk rfl rfl)<|aE rfl (Pl rfl rfl)<|aE rfl K6<|aE rfl K6<|rfl) AU λa1 w1 k1 d1 b1=>tv (cg (wG (cg ?_))));rw[eI (aI f20 6)];refine gg k1 (aE rfl Kl<|aE rfl (avS rfl rfl rfl)<|aE rfl K6<|rfl) λbV w2 k2 d2 b2=>lv (t:=false) (BL k2 rfl rfl) (cg ?_);rw[eI (aI f20 8)];refine gg k2 (aE rfl Kl<|aE rfl (avR rfl rfl)<|aE rfl (NM (n:=300) rfl rfl Kk AU)<|aE rfl K6<|rfl) λcn w3 k3 d3 cd=>lv (t:=false) (BL k3 rfl An) (uL (KV ?_));rw[eI (aI f20 10)];refine uM (show b8 _ (.R _ (List.range' 0 (2+3))::_) _ _ _ _ from sw k3 (aE rfl Kl<|aE rfl Kl<|rfl) AU λq b g d4 cm=>xX ?_);obtain⟨zi,X,d,cs,rfl,o,cG,j,Oo,V⟩:=g.has 45 _ rfl;obtain⟨pw,aH_,-⟩:=g.has 9 _ rfl;obtain⟨xr,U,hr⟩:=g.has 46 _ rfl;obtain⟨z,uc,rfl,aIa⟩:=hr.2;have cK:cy b (b.alloc (.cells #[.slice z rs.length uc] 69)):=(vaa _ b).alloc Kj _;refine i_ (R:=λa' w'=>a'=q.put (some 47) (.S b.heap.size 0 1 1)/\w'=b.alloc (.cells #[.slice z rs.length uc] 69)) (pC rfl rfl rfl (avT rfl _ _ (c2 U)) ⟨rfl,rfl⟩) ?_;rintro _ io ⟨rfl,f⟩;have c:=g.put (s:=47) (F:=qz (.S b.heap.size 0 1 1)) AU (f▸cK) rfl;have T:io.cell? (.a b.heap.size 0)=some (.slice z rs.length uc):=by rw[f];exact(ag.new _ _ _).rules.1 0
 have S:=(kh rs).iI _ _ _ (f▸cK) hr;have Q:∀(i:Nat) r,D[i]?=some r->∃u,cs[i]?=some u/\(kh r).R io u:=λi r hi=>by obtain⟨u,g9,iU⟩:=Oo i r hi;exact⟨u,g9,(kh r).iI _ _ _ (f▸cK) iU⟩
 have m:ag io d cs 69:=cG.call (f▸cK);obtain⟨C,l⟩:=Ai.grow (n0:=n0) m o j AP Q V S hf hF;refine i_ (R:=λa' w'=>a'=(q.put (some 47) (.S b.heap.size 0 1 1)).put (some 48) (.S d 0 (D.length+1) N)/\w'=io.setCell ⟨d,D.length,none⟩ (.slice z rs.length uc)) (avQ rfl rfl rfl rfl (c2 ((dV AU).trans X)) (c2 (kS (by rw[g.size];decide))) T rfl m j AP ⟨rfl,rfl⟩) ?_;rintro _ p ⟨rfl,E⟩;rw[<-E]at C l;refine i_ (R:=λa' w'=>a'=((q.put (some 47) (.S b.heap.size 0 1 1)).put (some 48) (.S d 0 (D.length+1) N)).put (some 9) (.S d 0 (D.length+1) N)/\w'=p) (pC (v:=.S d 0 (D.length+1) N) rfl rfl rfl (BI rfl (c2 (kS (by rw[c.size];decide))) _) ⟨rfl,rfl⟩) ?_;rintro B p ⟨y,rfl⟩;have ht:∀s v,s≠48->s≠9->(q.put (some 47) (.S b.heap.size 0 1 1)).tmps[s]?=some v->B.tmps[s]?=some v:=λs v h1 h2 h3=>by rw[y];exact(dV (Ne.symm h2)).trans ((dV (Ne.symm h1)).trans h3)
 obtain⟨Wo,Wp,rfl⟩:=c.has 0 _ rfl;obtain⟨P,O,rfl⟩:=c.has 17 _ rfl;obtain⟨E4,tF,Z,rfl,Hy,M⟩:=c.has 8 _ rfl;obtain⟨aIb,Wq,Aj,c3,rfl,f0,f1⟩:=c.has 5 _ rfl;obtain⟨aIc,L,K⟩:=c.has 18 _ rfl;obtain⟨aId,J,I⟩:=c.has 19 _ rfl;have H:Z≠d:=λe=>JJ;have kU:ah 57 (aW ((0,qz Wo)::(17,qz P)::mO n0 N (D++[rs]) W af k)) B p:=
  dQ (ht _ _ AU AU Wp) rfl<|dQ (ht _ _ AU AU O) rfl<|dQ (by rw[y];exact kS (by rw[gY,c.size];decide)) l<|dQ (ht _ _ AU AU tF) ⟨Z,rfl,Hy,by rw[E];exact M.ek H _⟩<|dQ (ht _ _ AU AU Wq) ⟨Aj,c3,rfl,C _ _ _ AQ f0,C _ _ _ AQ f1⟩<|dQ (ht _ _ AU AU L) K<|dQ (ht _ _ AU AU J) I<|x3 (by rw[y,gY,gY];exact c.size)
 have d6:B.defers=[]:=by rw[y,put_defers,put_defers,put_defers];exact d4.trans (d3.trans (d2.trans (d1.trans hd)))
 have e2:=b1.trans (b2.mono b1.size);have e3:=e2.trans (cd.mono e2.size);have e4:=e3.trans (cm.mono e3.size);have b9:Below n0 w p:=by rw[E,f];exact(((e4.trans (cK.mono e4.size)).mono hn)).setCell o _
 refine qy (KV ?_);rw[eI (aI f20 11)];refine gg kU (aE rfl (Af (n:=1) rfl rfl Kk CG AU)<|aE rfl Kl<|rfl) λn6 xm A d7 rG=>VH (jS ⟨d7.trans d6,?_,A.a7 ⟨rfl,rfl,rfl,rfl,rfl,PA⟩,b9.trans (rG.mono (vac hn b9.size))⟩);obtain⟨v,bj,rfl⟩:=A.has 0 _ rfl;obtain⟨u,a_,rfl⟩:=A.has 17 _ rfl;exact⟨bj,a_⟩
def awg(z:D.length=N)(h0:0<N)(a3:N<=1000)(j:D[N-1]?=some rs)(hd:a.defers=[])(hn:n0<=w.heap.size)(h:ah 57 (aW (mO n0 N D W af N)) a w):
 qr vee f20 (wM f20) (λv w1=>Hu rs w1 v/\Below n0 w w1) a w:=by
 obtain⟨B,r,u⟩:=h.has 9 _ Y;have hk:=dQ (F:=dS 1 mc D) r (Ai.list u AP) h;unfold wM E0;refine xV (ks':=[.code .ret]) (cg ?_);rw[eI (aI f20 3)];refine gg hk (aE Y (Pb Y Y Y AU)<|rfl) λa1 w1 f d1 b1=>cg (lv (t:=false) (BL f Y AQ) (VI Y ?_));unfold K9;refine cg ?_;rw[eI (aI f20 12)];have p:((D.length:Int)-1)=((N-1:Nat):Int):=AP;refine uM (show b8 _ (.R _ (List.range' 0 (9+1))::_) _ _ _ _ from sw f (aE Y Kl<|aE Y Kl<|aE Y (K4 Y Y AU)<|aE Y (Pa (n:=1) Y Y Kk CG AU)<|aE Y (iF (i:=N-1) Y Y (by rw[<-p];rfl) j AU)<|aE Y (h6 Y Y (Wa _) AU)<|aE Y (N1 Y)<|aE Y K6<|aE Y (eC (F:=a9 0) Y Kk)<|rfl) AU λm w2 c l b2=>xX ?_);have k:=b1.trans (b2.mono b1.size);obtain⟨C,e,y,rfl,-,b⟩:=c.has 8 _ Y;obtain⟨o,d,rfl⟩:=c.has 56 _ Y;obtain⟨s,q,x⟩:=c.has 6 _ Y;obtain⟨A,g,rfl⟩:=c.has 7 _ Y;refine i_ (R:=λa' w'=>a'=m/\w'=w2) (tx Y Y Y (avW Y _ b (c2 e) (c2 d)) ⟨Y,Y⟩) ?_;rintro _ _ ⟨rfl,rfl⟩;refine qy (jS (Hh (v:=.tuple #[s,.I 0,sx]) (l.trans (d1.trans hd)) ?_ ⟨⟨_,Y,x.1⟩,k.mono hn⟩));obtain⟨c1,co,db⟩:=b.all;simp[results,results20,go_sem,q,g,e,c1,sx]
end
end aK
namespace bM
open RowKit au aK
def awC(w:aH):Calls vee 43 #[.agg (js 1 0 (.N))] w λe w'=>e=.returned (.T)/\cy w w':=by
 unfold js;go_enter (vea func43),ntmps43
 go_wp2
 go_ret
 exact⟨Y,(vaa _ _).alloc Kj _⟩
variable{m:Nat}
def wE{op:Int}(a:(op=2/\m=1)\/(op=3/\m=2))(k:Nat)(b:uam)(ec:Nat)(w:aH):Calls vee 43 #[.agg (js op (k:Int) (.slice b m ec))] w λe w'=>e=.returned (.T)/\cy w w':=by
 rcases a with⟨rfl,rfl⟩|⟨rfl,rfl⟩
 .unfold js;go_enter (vea func43),ntmps43
  go_wp2
  go_ret
  exact⟨Y,(vaa _ _).alloc Kj _⟩
 .unfold js;go_enter (vea func43),ntmps43
  go_wp2
  refine(alb 2 1 8 _).mono ?_;rintro e w1 ⟨rfl,rfl⟩;go_wp2
  go_ret
  exact⟨Y,(vaa _ _).alloc Kj _⟩
def awD(sb a:Nat)(b:uam)(w:aH)(h0:w.cell? (.a sb 0)=some (.slice b 1 a)):Calls vee 42 #[.P sb 0,.agg (js 1 0 (.N))] w λe w'=>e=.returned (.T)/\cy w w':=by
 unfold js;have c:=fB h0;go_enter (vea func42),ntmps42
 go_wp2
 go_region
 go_wp2
 go_ret
 exact⟨Y,((vaa _ _).alloc Kj _).drew⟩
def awE{k:Nat}(b:k<2)(sb kb kc:Nat)(w:aH)(a:w.cell? (.a sb 3)=some (.S kb 0 (k+1) kc))(hk:w.cell? (.a kb k)=some (.F)):Calls vee 64 #[.P sb 0,.I (k:Int)] w λe w'=>e=.returned (.T)/\w'=w:=by
 obtain rfl|rfl:k=0\/k=1:=AP;all_goals
  go_enter (vea func64),ntmps64
  go_wp2
  go_ret
  simp_all
def wD{op:Int}(a:(op=2/\m=1)\/(op=3/\m=2)){k:Nat}(c:k<2)(sb kb kc ec:Nat)(d:uam)(w:aH)(b:w.cell? (.a sb 3)=some (.S kb 0 (k+1) kc))(hk:w.cell? (.a kb k)=some (.F)):Calls vee 42 #[.P sb 0,.agg (js op (k:Int) (.slice d m ec))] w λe w'=>e=.returned (.T)/\cy w w':=by
 rcases a with⟨rfl,rfl⟩|⟨rfl,rfl⟩;all_goals
  unfold js;go_enter (vea func42),ntmps42
  go_wp2
  refine(awE c sb kb kc _ (su b _) (su hk _)).mono ?_;rintro e w' ⟨rfl,rfl⟩;go_wp2
  go_ret
  exact⟨Y,(vaa _ _).alloc Kj _⟩
variable{cE no:Nat}{w:aH}
def E8{op a:Int}{ev:Value}(h:qD w cE no op a ev):w.cell? (.a cE no)=some (.I op)/\w.cell? (.a cE (no+1))=some (.I a)/\w.cell? (.a cE (no+2))=some (.I 0)/\w.cell? (.a cE (no+3))=some ev/\w.cell? (.a cE (no+4))=some (.N)/\w.cell? (.a cE (no+5))=some (.N)/\w.cell? (.a cE (no+6))=some (.N):=
 ⟨h 0 _ Y,h 1 _ Y,h 2 _ Y,h 3 _ Y,h 4 _ Y,h 5 _ Y,h 6 _ Y⟩
variable{w':aH}
def HG{op a:Int}{ev:Value}(h:qD w cE no op a ev)(hk:br w w'):qD w' cE no op a ev:=λj v hv=>hk _ _ _ (h j v hv)
variable{N:Nat}
def awF(a3:N=2\/N=3)(sb b cE no bC:Nat)(f:uam)(w:aH)(h0:w.cell? (.a sb 0)=some (.slice f 1 b))(k:w.cell? (.a sb 1)=some (.S cE no N bC))(hn:qD w cE no 1 0 (.N)):Calls vee 34 #[.P sb 0,.I 0] w λe w'=>e=.returned (.T)/\cy w w':=by
 obtain⟨r,d1,q,p,o,n,m⟩:=E8 hn;have l:0<N:=AP;go_enter (vea func34),ntmps34
 go_wp2
 refine(awD sb b f _ (su h0 _)).mono ?_;rintro e w1 ⟨rfl,a⟩;have cZ:=(ag.new w (js 1 0 (.N)) 43).call a;obtain⟨h,j,i⟩:=cZ.all;have d:Hid (cy w w1):=Below.step a ((vaa _ _).alloc Kj _) AQ;clear a cZ;unfold js at h;go_wp2
 refine(awC _).mono ?_;rintro e w2 ⟨rfl,c⟩;have g:Hid (cy w w2):=Below.step c d.out d.out.size;clear c;go_wp2
 go_ret
 exact⟨Y,g.out⟩
def awG{op:Int}(a:(op=2/\m=1)\/(op=3/\m=2)){k:Nat}(j:(N=2/\k=0)\/(N=3/\k=0)\/(N=3/\k=1))(sb kb kc cE no bC ec:Nat)(b:uam)(w:aH)(i:w.cell? (.a sb 3)=some (.S kb 0 (k+1) kc))(hk:w.cell? (.a kb k)=some (.F))(u:w.cell? (.a sb 1)=some (.S cE no N bC))(hn:qD w cE (no+7*(k+1)) op (k:Int) (.slice b m ec)):Calls vee 34 #[.P sb 0,.I ((k+1:Nat):Int)] w λe w'=>e=.returned (.T)/\cy w w':=by
 rcases j with⟨rfl,rfl⟩|⟨rfl,rfl⟩|⟨rfl,rfl⟩;rotate_left
 rotate_left
 .obtain⟨t,d1,s,r,q,p,o⟩:=E8 hn;go_enter (vea func34),ntmps34
  go_wp2
  refine(wD a (k:=1) AU sb kb kc ec b _ (su i _) (su hk _)).mono ?_;rintro e w1 ⟨rfl,c⟩;have cZ:=(ag.new w (js op ((1:Nat):Int) (.slice b m ec)) 43).call c;obtain⟨h,n,l⟩:=cZ.all;have f:Hid (cy w w1):=Below.step c ((vaa _ _).alloc Kj _) AQ;clear c cZ;unfold js at h;go_wp2
  refine(wE a 1 b ec _).mono ?_;rintro e w2 ⟨rfl,d⟩;have g:Hid (cy w w2):=Below.step d f.out f.out.size;clear d;go_wp2
  go_ret
  exact⟨Y,g.out⟩
 all_goals
  obtain⟨t,d1,s,r,q,p,o⟩:=E8 hn;go_enter (vea func34),ntmps34
  go_wp2
  refine(wD a (k:=0) AU sb kb kc ec b _ (su i _) (su hk _)).mono ?_;rintro e w1 ⟨rfl,c⟩;have cZ:=(ag.new w (js op ((0:Nat):Int) (.slice b m ec)) 43).call c;obtain⟨h,n,l⟩:=cZ.all;have f:Hid (cy w w1):=Below.step c ((vaa _ _).alloc Kj _) AQ;clear c cZ;unfold js at h;go_wp2
  refine(wE a 0 b ec _).mono ?_;rintro e w2 ⟨rfl,d⟩;have g:Hid (cy w w2):=Below.step d f.out f.out.size;clear d;go_wp2
  go_ret
  exact⟨Y,g.out⟩
variable{bC bs:Nat}{w0:aH}{ts:List (List bo)}{bk:List (List (Int×Int))}
section
attribute [local go_sem ↓] Go.wp_at_zero Go.wp_at_succ
def awH(w:aH):Calls vee 36 #[.agg (js 1 0 (.N))] w λe w'=>∃v,e=.returned v/\iQ w' v []/\eU 3 w' v/\cy w w':=by
 unfold js;go_enter (vea func36),ntmps36
 go_wp2
 go_ret
 exact⟨_,Y,aZ.nil _ _ _,λ_ _ _ _ e=>by simp at e,(vaa _ _).alloc Kj _⟩
def awI{op:Int}(a:(op=2/\m=1)\/(op=3/\m=2))(k:Nat)(b:uam)(ec:Nat)(w:aH):Calls vee 36 #[.agg (js op (k:Int) (.slice b m ec))] w λe w'=>∃v,e=.returned v/\iQ w' v [(k:Int)]/\eU 3 w' v/\cy w w':=by
 rcases a with⟨rfl,rfl⟩|⟨rfl,rfl⟩
 .unfold js;go_enter (vea func36),ntmps36
  go_wp2
  go_ret
  have cZ:=ag.new (w.alloc (.cells #[.I 2,.I (k:Int),.I 0,.slice b 1 ec,.N,.N,.N] 43)) #[.I (k:Int)] 3;simp at cZ;exact⟨_,Y,iQ.box cZ [(k:Int)] 1 AQ AJ,eU.box cZ _ _ _,((vaa _ _).alloc Kj _).alloc AQ _⟩
 .unfold js;go_enter (vea func36),ntmps36
  go_wp2
  go_ret
  have cZ:=ag.new (w.alloc (.cells #[.I 3,.I (k:Int),.I 0,.slice b 2 ec,.N,.N,.N] 43)) #[.I (k:Int)] 3;simp at cZ;exact⟨_,Y,iQ.box cZ [(k:Int)] 1 AQ AJ,eU.box cZ _ _ _,((vaa _ _).alloc Kj _).alloc AQ _⟩
def wA{i:Nat}{op b7:Int}{cD:uam}{aW ec:Nat}{a d f:Value}{ns:List lV}{aS:ubt}{vals:uaj}(h:Own w0 w bs a (.S cE no N bC) d f ts ns bk aS vals)(hi:i<N)(aIk:N<=3)(t:bk.length<=20/\aS.length<=20)(hn:qD w0 cE (no+i*7) op b7 (.slice cD aW ec)){l:fK}{ch:ubd}(C:∀x∈ch,∃q:Nat,x=(q:Int)/\q<aS.length)(aIl:ch.length<=2)(B:Calls vee 34 #[.P bs 0,.I i] w λe w'=>e=.returned (.T)/\cy w w')(pX:∀w',Own w0 w' bs a (.S cE no N bC) d f ts ns bk aS vals->Calls vee 35 #[.P bs 0,.agg (js op b7 (.slice cD aW ec))] w' λe w''=>vo w'' e (some l)/\Below w'.heap.size w' w'')(A:∀w',Calls vee 36 #[.agg (js op b7 (.slice cD aW ec))] w' λe w''=>∃v,e=.returned v/\iQ w'' v ch/\eU 3 w'' v/\Below w'.heap.size w' w''):
 Calls vee 25 #[.P bs 0,.I i] w λe w'=>e=.returned (.I 0)/\∃Px Py Pz,Own w0 w' bs a (.S cE no N bC) Px Py ts ns (bk++[l]) (lA aS ch++[false]) Pz:=by
 have tZ:Hid _:=t;have k5:Hid _:=hn;have HC:Hid _:=pX;have o:Hid _:=A;have awJ:Hid _:=C;have z:Hid (Own w0 w bs a (.S cE no N bC) d f ts ns bk aS vals):=h;have y:Hid _:=B;have nS:(0:Int)<=(i:Int):=AP;have k0:(i:Int)<(N:Int):=AP;clear hn pX A C t h B;go_enter (vea func25),ntmps25
 go_wp2_with fail
 refine Calls.mono y.out ?_;rintro e w1 ⟨rfl,bc⟩;have O:Hid (Own w0 w1 bs a (.S cE no N bC) d f ts ns bk aS vals):=z.out.call bc;obtain⟨g9,iU,iV⟩:=O.out.box.all;obtain⟨d0,d1,d2,d3,d4,d5,d6⟩:=E8 (HG k5.out (br.ck O.out.below));clear bc z y;go_wp2_with fail
 refine Calls.mono (HC.out _ O.out) ?_;rintro e w2 ⟨⟨v1,rfl,kY,MU⟩,bW⟩;have Y:Hid (Own w0 w2 bs a (.S cE no N bC) d f ts ns bk aS vals):=O.out.call bW;have M:Hid (eF w2 v1 l):=kY;have L:Hid (eU 116 w2 v1):=MU;obtain⟨a1,c1,rfl,-⟩:=kY.shape;clear g9 iU iV d0 d1 d2 d3 d4 d5 d6 bW kY MU O HC;obtain⟨g9,iU,iV⟩:=Y.out.box.all;obtain⟨d0,d1,d2,d3,d4,d5,d6⟩:=E8 (HG k5.out (br.ck Y.out.below));go_wp2_with fail
 refine Calls.mono (o.out _) ?_;rintro e p ⟨aIm,rfl,j,K,Q⟩;obtain⟨ac,cc,rfl,-⟩:=j.shape;have ju:Hid (Own w0 p bs a (.S cE no N bC) d f ts ns bk aS vals):=Y.out.call Q;have NO:Hid (eF p (.slice a1 l.length c1) l):=aZ.mono ni (br.ck Q) M.out;have J:Hid (eU 116 p (.slice a1 l.length c1)):=L.out.call Q;have I:Hid (iQ p (.slice ac ch.length cc) ch):=j;have H:Hid (eU 3 p (.slice ac ch.length cc)):=K;clear g9 iU iV d0 d1 d2 d3 d4 d5 d6 j K Q M L Y o;go_wp2_with fail
 go_loopw [36] (λx W=>∃k:Nat,k<=ch.length/\x=.I k/\Own w0 W bs a (.S cE no N bC) d f ts ns bk (lA aS (ch.take k)) vals/\iQ W (.slice ac ch.length cc) ch/\eU 3 W (.slice ac ch.length cc)/\eF W (.slice a1 l.length c1) l/\eU 116 W (.slice a1 l.length c1))
  (λx _=>ch.length-(intOf x).toNat)
 case atStart=>exact⟨0,vba _,rfl,by simpa[lA]using ju.out,I.out,H.out,NO.out,J.out⟩
 case round=>
  obtain⟨k,hk,rfl,dW,Jm,P,CI,MS⟩:=hrel;have HOW:Hid (Own w0 wr bs a (.S cE no N bC) d f ts ns bk (lA aS (ch.take k)) vals):=dW;have o:Hid (iQ wr (.slice ac ch.length cc) ch):=Jm;have pH:Hid (eU 3 wr (.slice ac ch.length cc)):=P;have WF:Hid (eF wr (.slice a1 l.length c1) l):=CI;have Z:Hid (eU 116 wr (.slice a1 l.length c1)):=MS;clear dW P CI MS ju I H NO J;by_cases hlt:k<ch.length
  .obtain⟨C_,aIn,N4,NN,Sa,awK⟩:=ints_at o.out hlt;simp at NN;obtain⟨rfl,rfl⟩:=NN;obtain⟨q,hq,aIo⟩:=awJ.out ch[k] AJ;have N5:q<(lA aS (ch.take k)).length:=by grind[ZL]
   rw[hq]at awK;have E9:Hid _:=hq;obtain⟨gk,F,rfl,Zs,nG⟩:=World.ownsRow.form HOW.out.qV AP;have awL:=HOW.out.take N5;have gi:=HOW.out.box.rules.1 3;have aIp:wr.cell? (.a bs 3)=some (.S gk 0 (lA aS (ch.take k)).length F):=AJ;have aIq:=rT HOW.out.qV q (.bool (lA aS (ch.take k))[q]) AJ;obtain⟨bq,jy⟩:=amc HOW.out.qV;have aIr:=jy.rules.2;have g:∀{T:uab}{v:Value},eU T wr v->T≠4->∀b off n c,v=.S b off n c->(wr.setCell ⟨gk,q,none⟩ (.T)).heap[b]?=wr.heap[b]?:=by intro T v hv hT b off n c e;subst e;exact vaw _ _ _ _ (hv.ne jy hT)
   have hrel':Own w0 (wr.setCell ⟨gk,q,none⟩ (.T)) bs a (.S cE no N bC) d (.S gk 0 (lA aS (ch.take k)).length F) ts ns bk (lA aS (ch.take (k+1))) vals:=by grind[List.take_succ_eq_append_getElem,ami]
   have awM:Hid _:=hrel';have zc:Hid (iQ (wr.setCell ⟨gk,q,none⟩ (.T)) _ ch):=o.out.yD (g pH.out AU);have awN:Hid (eU 3 (wr.setCell ⟨gk,q,none⟩ (.T)) _):=pH.out.set _ _;have Jq:Hid (eF (wr.setCell ⟨gk,q,none⟩ (.T)) _ l):=WF.out.yD (g Z.out AU);have awO:Hid (eU 116 (wr.setCell ⟨gk,q,none⟩ (.T)) _):=Z.out.set _ _;have OP:(0:Int)<=(q:Int):=AP;have Ok:(q:Int)<((lA aS (ch.take k)).length:Int):=AP;have aIs:=HOW.out.box.lt;clear gi g hrel' awL jy hq Jm;go_wp2_with fail
   go_roundw
   case rel=>exact⟨k+1,AP,by go_num,awM.out,zc.out,awN.out,Jq.out,awO.out⟩
   case measure=>simp[intOf];omega
  .have I2:ch.take k=ch:=AJ;have m:Hid (Own w0 wr bs a (.S cE no N bC) d f ts ns bk (lA aS ch) vals):=AJ;clear I2 HOW o pH Jm;have cG:=m.out.box;obtain⟨P,MO,Cu⟩:=cG.all;clear cG;have X:Hid _:=MY (ag.new wr #[.slice a1 l.length c1] 81);have U:Hid (∀u∈([.slice a1 l.length c1]:uaj),u.oneCell'=true):=by intro u s;simp at s;subst s;rfl
   have V:Hid _:=m.out.pZ.alloc (.cells #[.slice a1 l.length c1] 81);have R:Hid ((wr.alloc (.cells #[.slice a1 l.length c1] 81)).heap.size=wr.heap.size+1):=BR;have S:Hid (w0.heap.size<=(wr.alloc (.cells #[.slice a1 l.length c1] 81)).heap.size):=by have:=m.out.below.size;grind[Hid]
   go_upto_region 12 with(at_builtin;refine IR ak_ _ A_ _ _ A_ w0.heap.size d bk.length vals A_ V.out wr.heap.size 1 1 _ A_ rfl X.out U.out AP (by have:=tZ.out;omega) (by have:=tZ.out;omega) S.out (wr.heap.size+1) R.out ?_;intro gA sS w4 E Lb awP xR;obtain⟨WG,awQ,mf⟩:=(m.out.amg Lb).all)
   have r:Hid (Own w0 (w4.setCell ⟨bs,2,none⟩ (.S gA 0 (bk.length+1) sS)) bs a (.S cE no N bC) (.S gA 0 (bk.length+1) sS) f ts ns (bk++[l]) (lA aS ch) (vals++[.slice a1 l.length c1])):=m.out.amd WF.out Z.out (by have:=tZ.out;omega) E Lb;clear E Lb awP xR WG awQ mf X U V R S WF Z m P MO Cu;generalize w4.setCell ⟨bs,2,none⟩ (.S gA 0 (bk.length+1) sS)=io at *;obtain⟨P,MO,Cu⟩:=r.out.box.all;have C8:(lA aS ch).length=aS.length:=ZL _ _;have WH:Hid ((lA aS ch).length<=20):=by grind[Hid]
   clear C8;have X:Hid _:=MY (ag.new io #[.F] 4);have U:Hid (∀u∈([.F]:uaj),u.oneCell'=true):=by intro u s;simp at s;subst s;rfl
   have V:Hid _:=r.out.qV.alloc (.cells #[.F] 4);have R:Hid ((io.alloc (.cells #[.F] 4)).heap.size=io.heap.size+1):=BR;have S:Hid (w0.heap.size<=(io.alloc (.cells #[.F] 4)).heap.size):=by have:=r.out.below.size;grind[Hid]
   go_wp2_with (at_builtin;refine IR MF _ A_ _ _ A_ w0.heap.size f (lA aS ch).length ((lA aS ch).map .bool) A_ V.out io.heap.size 1 1 _ A_ rfl X.out U.out AP (by have:=WH.out;omega) (by have:=WH.out;omega) S.out (io.heap.size+1) R.out ?_;intro l_ aIt lY awR D aIu xG;obtain⟨Va,aIv,aIw⟩:=(r.out.amh D).all)
   have Lh:=r.out.amf (by have:=WH.out;omega) awR D;go_ret
   exact⟨rfl,_,_,_,Lh⟩
end
section
attribute [local go_sem ↓] Go.wp_at_zero Go.wp_at_succ
def tG:Nat->List Bool
 |0=>[]
 |i+1=>List.replicate i true++[false]
theorem HJ(i:Nat):(tG i).length=i:=by cases i<;>simp[tG]
def awS(k:Nat):lA (tG (k+1)) [(k:Int)]++[false]=tG (k+2):=by simp[tG,lA,List.replicate_succ',List.set_append]
def xC{a f d e:Value}{ns:List lV}{aS:ubt}{vals:uaj}(h:Own w0 w bs a f d e ts ns bk aS vals)(i:0<aS.length):∃g c,e=.S g 0 aS.length c/\(∀k b,aS[k]?=some b->w.cell? (.a g k)=some (.bool b))/\w.cell? (.a bs 3)=some (.S g 0 aS.length c)/\w.cell? (.a bs 1)=some f/\w.cell? (.a bs 0)=some a/\w.cell? (.a bs 2)=some d:=by obtain⟨g,c,rfl,-,-⟩:=World.ownsRow.form h.qV i;have j:=h.box.rules.1;exact⟨g,c,Y,λk b l=>rT h.qV k (.bool b) AJ,AJ,AJ,AJ,AJ⟩
def awT(a3:N=2\/N=3)(bs g kc:Nat)(b:uam)(bC:Nat)(w:aH)(d:w.cell? (.a bs 1)=some (.slice b N bC))(c:w.cell? (.a bs 3)=some (.S g 0 N kc))(hg:∀i,i+1<N->w.cell? (.a g i)=some (.T)):
 Calls vee 26 #[.P bs 0] w λe w'=>e=.returned (.tuple #[.I 0,.F])/\w'=w:=by
 rcases a3 with rfl|rfl
 .have a:=hg 0 AU;clear hg;go_enter (vea func26),ntmps26
  go_wp2
  go_loopw [17] (λx W=>W=w/\(x=.I 0\/x=.I 1)) (λx _=>1-(intOf x).toNat)
  case atStart=>grind
  case round=>
   obtain⟨rfl,rfl|rfl⟩:=hrel
   .go_wp2
    simp_all[intOf]
   .go_wp2
    go_ret2
    simp_all
 .have a:=hg 0 AU;have g1:=hg 1 AU;clear hg;go_enter (vea func26),ntmps26
  go_wp2
  go_loopw [17] (λx W=>W=w/\(x=.I 0\/x=.I 1\/x=.I 2)) (λx _=>2-(intOf x).toNat)
  case atStart=>grind
  case round=>
   obtain⟨rfl,rfl|rfl|rfl⟩:=hrel
   .go_wp2
    simp_all[intOf]
   .go_wp2
    simp_all[intOf]
   .go_wp2
    go_ret2
    simp_all
end
section
attribute [local go_sem ↓] Go.wp_at_zero Go.wp_at_succ
abbrev jb:=Int×List (List bH)
def sz(ps:List jb):List lV:=⟨1,0,0,[],[],[],[]⟩::ps.zipIdx.map λp=>⟨p.1.1,(p.2:Int),0,p.1.2,[],[],[]⟩
theorem WJ(ps:List jb):(sz ps).length=ps.length+1:=by simp[sz]
def E_(w:aH)(cE no k:Nat)(p:jb):Prop:=∃cD ec,qD w cE (no+7*(k+1)) p.1 (k:Int) (.slice cD p.2.length ec)/\nP w (.slice cD p.2.length ec) p.2
def xz{k:Nat}{p:jb}(h:E_ w cE no k p)(hk:br w w'):E_ w' cE no k p:=by obtain⟨c,ec,b,a⟩:=h;exact⟨c,ec,HG b hk,aZ.mono qR hk a⟩
def awU{ps:List jb}(j:ps.length+1=N)(a3:N<=3)(o:qD w cE no 1 0 (.N))(l:∀k(h:k<ps.length),E_ w cE no k ps[k]):IQ w (.S cE no N bC) (sz ps):=by
 refine⟨_,_,by rw[WJ,j],by rw[WJ];omega,λi hi=>⟨cE,no,Y,?_⟩⟩;cases i with
 |zero=>obtain⟨g,d1,f,d,c,b,a⟩:=E8 o;exact⟨_,_,_,_,by grind[sz],by grind[sz],by grind[sz],AJ,AJ,AJ,AJ,⟨aZ.nil _ _ _,aZ.nil _ _ _,aZ.nil _ _ _,aZ.nil _ _ _⟩⟩
 |succ k=>
  have hk:k<ps.length:=by grind[WJ]
  obtain⟨p,ec,n,m⟩:=l k hk;obtain⟨g,d1,f,d,c,b,a⟩:=E8 n;have e:(sz ps)[k+1]=⟨ps[k].1,(k:Int),0,ps[k].2,[],[],[]⟩:=by simp[sz]
  rw[e];have x:no+(k+1)*7=no+7*(k+1):=AP;rw[x];exact⟨_,_,_,_,g,d1,f,d,c,b,a,⟨m,aZ.nil _ _ _,aZ.nil _ _ _,aZ.nil _ _ _⟩⟩
def HK(p:jb)(l l':fK):Prop:=(∀e∈p.2,∀t∈e,Met t.op)/\((p.1=2/\(∃f,p.2=[f]/\iC f l=((4,0),true))/\l'=l)\/(p.1=3/\p.2.length=2/\lW l p.2=some l'))
def awV(t:List bo)(ps:List jb)(bk:List (List (Int×Int)))(a3:N=2\/N=3)(vX:ps.length+1=N)(yw:bk.length=N)(q s r cE no bC:Nat)(w:aH)(PB:Cj w (.S q s 1 r) [t])(awW:mY t=true)(X:qD w cE no 1 0 (.N))(S:∀k(h:k<ps.length),E_ w cE no k ps[k])(sk:bk[0]?=some (sU t))(nX:∀k(h:k<ps.length)(p:k<bk.length)(d:k+1<bk.length),HK ps[k] bk[k] bk[k+1]):
 Calls vee 19 #[.S q s 1 r,.S cE no N bC] w λe w'=>∃g c v,e=.returned (.tuple #[.S g 0 N c,.I 0,.I 0])/\w'.cell? (.a g (N-1))=some v/\eF w' v (bk.getD (N-1) [])/\cy w w':=by
 have kI:t.length<=8:=by simp_all[mY]
 have hok:told (Cs (yA [t]) [t].length)=(0,false):=by
  rw[Zx (λj hj=>by
   grind[yA])]
  rfl
 have O:IQ w (.S cE no N bC) (sz ps):=awU vX AP X S;have V:Hid (Cj w (.S q s 1 r) [t]):=PB;have x4:Hid (qD w cE no 1 0 (.N)):=X;have M:Hid (∀k(h:k<ps.length),E_ w cE no k ps[k]):=S;have L:Hid (IQ w (.S cE no N bC) (sz ps)):=O;have awX:Hid (bk[0]?=some (sU t)):=sk;have awY:Hid (∀k(h:k<ps.length)(p:k<bk.length)(d:k+1<bk.length),HK ps[k] bk[k] bk[k+1]):=nX;have K:Hid (bk.length=N):=yw;clear X S O sk nX PB awW yw;go_enter (vea func19),ntmps19
 go_wp2_with fail
 refine(alT [t] _ _ V.out).mono ?_;rintro e w1 ⟨rfl,bc⟩;rw[hok];have dl:Hid (cy w w1):=bc;have D:=br.ck bc;have J:Hid (Own w1 (w1.alloc (.cells #[.S q s 1 r,.S cE no N bC,.N,.N] 86)) w1.heap.size (.S q s 1 r) (.S cE no N bC) (.N) (.N) [t] (sz ps) [] [] []):=
  ⟨(vaa _ _).alloc Kj _,aZ.mono MB D V.out,aZ.mono RQ D L.out,vad _,ag.new _ _ _,vcc _ _ _ _,vcc _ _ _ _,AQ,AQ,AJ⟩
 have N3:Hid (qD w1 cE no 1 0 (.N)):=HG x4.out D;have awZ:Hid (∀k(h:k<ps.length),E_ w1 cE no k ps[k]):=λk h=>xz (M.out k h) D;clear bc D V x4 M L;go_wp2_with fail
 go_loopw [27] (λx W=>∃(i:Nat)(C Z:Value)(vals:uaj),i<=N/\x=.I (i:Int)/\Own w1 W w1.heap.size (.S q s 1 r) (.S cE no N bC) C Z [t] (sz ps) (bk.take i) (tG i) vals) (λx _=>N-(intOf x).toNat)
 case atStart=>exact⟨0,_,_,_,vba _,rfl,by simpa[tG]using J.out⟩
 case round=>
  clear J;obtain⟨i,C,Z,vals,hi,rfl,Y⟩:=hrel;have n:Hid (Own w1 wr w1.heap.size (.S q s 1 r) (.S cE no N bC) C Z [t] (sz ps) (bk.take i) (tG i) vals):=Y;have T:=Y.box.rules.1;clear Y;have o:(bk.take i).length=i:=by have:=K.out;simp;omega
  by_cases B:i<N
  .have k0:(i:Int)<(N:Int):=by omega
   have I:Calls vee 25 #[.P w1.heap.size 0,.I i] wr λe w'=>e=.returned (.I 0)/\∃Px Py Pz,Own w1 w' w1.heap.size (.S q s 1 r) (.S cE no N bC) Px Py [t] (sz ps) (bk.take (i+1)) (tG (i+1)) Pz:=by
    have Jn:i<bk.length:=by have:=K.out;omega
    rw[List.take_succ_eq_append_getElem Jn];cases i with
    |zero=>
     have e0:bk[0]=sU t:=by have:=awX.out;grind
     refine(wA (i:=0) (l:=sU t) (ch:=[]) n.out B AP (by simp[tG]) (by simpa using N3.out) AQ AQ (awF a3 _ _ _ _ _ _ _ (by rw[T];rfl) (by rw[T];rfl) (HG N3.out (br.ck n.out.below))) (λw' a=>?_) (λw'=>awH w')).mono ?_
     .exact al6 w1.heap.size 0 0 _ [t] none none none none 0 0 0 0 0 0 0 0 w' Jc (aZ.mono MB (br.ck a.below) a.AO) AQ kI
     rw[e0];simp_all[tG,lA]
    |succ k=>
     have hk:k<ps.length:=AP;obtain⟨cD,ec,c1,db⟩:=awZ.out k hk;obtain⟨g,c,rfl,R,u,Q,-,k2⟩:=xC n.out (by rw[HJ];omega);rw[HJ]at u;have uT:(N=2/\k=0)\/(N=3/\k=0)\/(N=3/\k=1):=AP;have x:no+(k+1)*7=no+7*(k+1):=AP;obtain⟨H,hst⟩:=awY.out k hk AP Jn;have A:(ps[k].1=2/\ps[k].2.length=1)\/(ps[k].1=3/\ps[k].2.length=2):=by
      rcases hst with⟨p,⟨f,d,-⟩,-⟩|⟨p,d,-⟩
      .exact .inl ⟨p,by rw[d];rfl⟩
      .exact .inr ⟨p,d⟩
     have F:(bk.take (k+1))[k]'FI=bk[k]:=AQ;refine(wA (i:=k+1) (l:=bk[k+1]) (ch:=[(k:Int)]) n.out B AP (by rw[o,HJ];omega) (by rw[x];exact c1) (λy hy=>⟨k,AJ,by grind[HJ]⟩) AQ (awG A uT _ g c _ _ _ _ _ _ u (R k false (by simp[tG])) Q (HG c1 (br.ck n.out.below))) (λw' a=>?_) (λw'=>awI A k _ ec w')).mono ?_
     .have aw0:=br.ck a.below;have E:∀op:Int,tU w' (.slice cD ps[k].2.length ec) (.N) (.N) (.N) ⟨op,(k:Int),0,ps[k].2,[],[],[]⟩:=λop=>⟨aZ.mono qR aw0 db,aZ.nil _ _ _,aZ.nil _ _ _,aZ.nil _ _ _⟩;rcases hst with⟨p,⟨f,d,U⟩,h4⟩|⟨p,d,U⟩
      .have hf:yC ⟨2,(k:Int),0,ps[k].2,[],[],[]⟩ bk[k]=true:=by simp[yC,d,U]
       have:=al7 w1.heap.size k 0 ps[k].2 [] [] [] C (bk.take (k+1)) (.slice cD ps[k].2.length ec) (.N) (.N) (.N) w' (E 2) Jc a.ZK.types FI (by rw[d];simp) (by rw[d];simpa using H f (by simp[d])) (λb off cap v hv hc=>?_)
       .rw[F,hf]at this;rw[h4,p];exact this
       .obtain⟨v2,P,-,bW⟩:=a.each k FI;obtain⟨WK,Hx,aw1,-,-⟩:=World.ownsRow.form a.pZ FI;subst aw1;have aIz:=rT a.pZ k v2 P;grind
      .have:=al9 w1.heap.size k 0 ps[k].2 [] [] [] C (bk.take (k+1)) (.slice cD ps[k].2.length ec) (.N) (.N) (.N) w' (E 3) Jc a.ZK.types FI H AP;rw[F,U]at this;rw[p];exact this
     rw[<-awS];exact λe w' h=>h
   have fW:Hid _:=I;clear I T;go_wp2_with fail
   refine Calls.mono fW.out ?_;rintro e w2 ⟨rfl,Px,Py,Pz,d⟩;have gN:Hid _:=d;clear d n fW;go_wp2_with fail
   go_roundw
   case rel=>exact⟨i+1,_,_,_,AP,AQ,gN.out⟩
   case measure=>simp[intOf];omega
  .obtain rfl:i=N:=by omega
   obtain⟨g,c,rfl,R,u,Q,-,k2⟩:=xC n.out (by rw[HJ];omega);rw[HJ]at u;obtain⟨WK,Hx,rfl,-,-⟩:=World.ownsRow.form n.out.pZ FI;obtain⟨v2,P,z,-⟩:=n.out.each (i-1) FI;have aw2:Hid _:=rT n.out.pZ (i-1) v2 P;have aw3:Hid (eF wr v2 (bk.getD (i-1) [])):=by have hx:bk.getD (i-1) []=(bk.take i)[i-1]'FI:=AJ;rw[hx];exact z
   have k0:¬((i:Int)<(i:Int)):=AP;have aw4:Hid _:=awT a3 _ g c _ _ _ Q u (λj hj=>R j true (by
    obtain⟨m,rfl⟩:∃m,i=m+1:=⟨i-1,AP⟩;grind[tG]))
   rw[o]at k2;clear R Q u P z;go_wp2_with fail
   refine Calls.mono aw4.out ?_;rintro e w2 ⟨rfl,rfl⟩;go_wp2_with fail
   refine vai (v:=.tuple #[.S WK 0 i Hx,.I 0,.I 0]) (by simp[results,results19,go_sem]) rfl ⟨WK,Hx,v2,rfl,aw2.out,?_,Below.step n.out.below dl.out dl.out.size⟩;exact aw3.out
