import Derived.Test.YtebcnmadaaimoaaGreatPAR
import Derived.Test.YtebcnmadaaimoaaGreatPAS
set_option linter.all false
set_option maxRecDepth 100000
set_option maxHeartbeats 16000000
namespace Go.Proofs.YtebcnmadaaimoaaGreat
open Go.Proofs.Tryz
namespace bX
open Conc ConcM RowKit az bo ag ft ix gi iS cF qj c3
def auf:wS M8:=by rintro ρ w w' rd e x b a ⟨v,h0,c⟩;obtain⟨v',d,b0⟩:=a 0 _ h0;exact⟨v',d,az.a0.carry qW b b0 c⟩
def aug:pG M8:=λ_ _ _ _ _ hk a⟨v,h0,b⟩=>⟨v,a _ _ h0,b.mono qX hk⟩
def Oz{D D':c7}(h:∀b,D b->D' b):Ren.le (eh D cJ) (eh D' cJ):=⟨λ_ b k=>⟨k.1,h b k.2⟩,λ_ k=>k.elim⟩
structure Kx(M a8:c7)(w:aL)(most:Nat)(rs:List a7)(u:Value)(w':aL)(n':Nat)(bQ:uam)(dv:c7):Prop where
 n:n'<=most
 sub:∀b,M b->dv b
 new:∀b,dv b->M b\/¬a8 b
 cl:ie (da prog false) dv cJ w'
 val:ar (eh dv cJ) u u
 rows:gm w' u rs
 cap:nP rs.length u
 same:∀b,a8 b->w'.heap[b]?=w.heap[b]?
 sh:∀b,dv b\/a8 b\/w'.heap.size<=b->∀l,fq l=some b->¬bQ l
 size:w.heap.size<=w'.heap.size
 later:OsLater w.os w'.os
 output:w'.output=w.output
 tape:w'.tape=w.tape
theorem Kx.at{M a8:c7}{w:aL}{most:Nat}{rs:List a7}{u:Value}{w':aL}{a:Nat}{c:uam}{b:c7}(h:Kx M a8 w most rs u w' a c b)(k:Nat):Kx M a8 w most rs u (w'.at k) a c b:=
 ⟨h.n,h.sub,h.new,h.cl,h.val,a0.mono qX (λ_ _ _ x=>x) h.rows,h.cap,h.same,h.sh,h.size,h.later,h.output,h.tape⟩
def auh:ir prog false f90=true:=by decide+kernel
def aui{S am N n W:Nat}{rows:uas}{M a8:c7}{w:aL}(yZ:∀b,M b->a8 b)(hg:∀g,g<=prog.globals.size->M g)(ca:ie (da prog false) M cJ w)(ps:List (List a7))(a4:N=ps.length)(vo:ps.length<=1000)(pg:∀k,kU ps k<=100000){cV:uag}{c:dy}{b4:aL}{cR dW b2 n' de:Nat}{P:uam}{M':c7}{D:uad}{w':aL}(yh:∀p(h:p<ps.length),de<=p->ps[p]=[])(F8:∀T v N w,T<de->cV T v N w->oJ (da prog false) M c.K (λw v=>∃h:T<ps.length,gm w v ps[T]) v N w)(r:G_ c a8 S am N n W rows (λ_=>false) (λ_=>undef) cR dW b2)(A:ak fi a8 w b4)(f:Kp c cV de (λ_=>False) b4 n' P M' D w'){Stop:uaw}{st:Nat}(hst:st=c.st):
 Ug P Stop 90 #[.S c.cP 0 N N] (w'.setCell ⟨st,0,none⟩ (.int .i32 1))
  (λu L=>(∃dv,Kx M a8 w (n+W) (lh ps ps.length) u (L.setCell ⟨st,0,none⟩ (.int .i32 0)) n' P dv)/\(∃a n c,u=.slice a n c)/\L.heap[st]?=(w'.setCell ⟨st,0,none⟩ (.int .i32 1)).heap[st]?/\w'.heap.size<=L.heap.size):=by
 subst hst;subst a4;have I:c.N=ps.length:=r.a4;have acQ:c.st<w'.heap.size:=f.low _ Kj;have Ha:(w'.setCell ⟨c.st,0,none⟩ (.int .i32 1)).heap.size=w'.heap.size:=ag.nU _ _ _;have nc:∀b,M' b->(w'.setCell ⟨c.st,0,none⟩ (.int .i32 1)).heap[b]?=w'.heap[b]?:=λb d=>nT w' _ _ (λe=>f.Uo AF);have UB:(w'.setCell ⟨c.st,0,none⟩ (.int .i32 1)).os=w'.os/\(w'.setCell ⟨c.st,0,none⟩ (.int .i32 1)).output=w'.output/\(w'.setCell ⟨c.st,0,none⟩ (.int .i32 1)).tape=w'.tape:=⟨rfl,rfl,rfl⟩;generalize m3:w'.setCell ⟨c.st,0,none⟩ (.int .i32 1)=w1 at *;have aGR:∀b,a8 b->M' b:=λb d=>f.sub b (.inr (.inl ((r.hK b).2 (.inl d))));have X:∀b,a8 b->w'.heap[b]?=w.heap[b]?:=λb d=>(f.stands b (.inl ((r.hK b).2 (.inl d)))).trans (A.heap b (.inr d));have m:∀p:Nat,∃(v:Value)(G:c7),p<ps.length->D[p]?=some v/\(∀b,G b->M' b/\¬c.K b)/\ie (da prog false) (λb=>M b\/G b) cJ w'/\ar (eh (λb=>M b\/G b) cJ) v v/\∃h:p<ps.length,gm w' v ps[p]:=by
  intro p;by_cases j:p<ps.length
  .by_cases J:p<de
   .obtain⟨v,s,q⟩:=f.Gs p J (by rw[r.ox]);obtain⟨G,g1,g2,ff,jf⟩:=F8 _ _ _ _ J q;exact⟨v,G,AF⟩
   .refine⟨.N,cJ,λ_=>⟨f.as5 p (Nat.not_lt.1 J) (I▸j),λb h=>h.elim,λb d=>?_,.j2 _ _,j,by rw[yh p j (Nat.not_lt.1 J)];exact a0.nil _ _ _⟩⟩;rcases d with h|h
    .obtain⟨o,s,q⟩:=ca b h;exact⟨o,(X b (yZ b h)).trans s,q.imp (hP.mono (Oz λ_=>.inl)) id⟩
    .exact h.elim
  .exact⟨.F,cJ,AF⟩
 obtain⟨vs,m⟩:=vdq.1 m;obtain⟨G,m⟩:=vdq.1 m;let t:Nat->Prop:=λb=>M b\/b=c.cP\/∃p,p<ps.length/\G p b
 have UC:∀b,t b->M' b:=by
  rintro b (h|h|⟨p,j,h⟩)
  .grind
  .exact f.sub b (.inr (.inr h))
  grind
 have H:∀p,p<ps.length->∀b,M b\/G p b->t b:=by grind
 have F:ie (da prog false) t cJ w1:=by
  intro b d;rw[nc b (UC b d)];rcases d with h|h|⟨p,j,h⟩
  .obtain⟨o,s,q⟩:=ca b h;exact⟨o,AF,q.imp (hP.mono (Oz AF)) id⟩
  .subst h;refine⟨_,f.done,.inl (.cells _ (oK λv hv=>?_) AF)⟩;obtain⟨p,j,rfl⟩:=vel hv;have qQ:p<ps.length:=by rw[<-I,<-f.len];exact j
   have:=m p qQ;rw[vag j]at this;have e:=vaq this.1;rw[e];exact this.2.2.2.1.mono (Oz (H p qQ))
  .obtain⟨o,s,q⟩:=(m p j).2.2.1 b (.inr h);exact⟨o,s,q.imp (hP.mono (Oz (H p j))) id⟩
 have gP:aM (eh t cJ) #[Value.slice (some (.a c.cP 0)) ps.length ps.length] #[Value.slice (some (.a c.cP 0)) ps.length ps.length]:=.one (.slice _ _ ⟨⟨rfl,.inr KB⟩,rfl,rfl⟩);have V:a0 w1 1 M8 (.S c.cP 0 ps.length ps.length) ps:=by
  refine⟨_,_,rfl,AX,λi hi=>⟨c.cP,0,rfl,vs i,?_,?_⟩⟩
  .have s:=(m i hi).1;have q:w1.heap[c.cP]?=some (.cells D.toArray c.F3):=(nc _ AF).trans f.done;simp_all[World.cell?]
  .obtain⟨s,q,h3,h4,aQ,bH⟩:=m i hi;exact az.a0.carry qW (ue AF h3) h4 bH
 obtain⟨Z,aG⟩:=Ip (da prog false) t cJ w1;intro G0 B Et G1 G2 y G3 hk;have U:∀T,Calls (ae prog false) 90 #[Value.slice (some (.a c.cP 0)) ps.length ps.length] {Z with tape:=T} (λe K=>∃v,e=.returned v/\gm K v (lh ps ps.length)/\nP (kU ps ps.length) v):=λT=>
  (anK ps _ {Z with tape:=T} (a0.mono aug (AV Z T) (az.a0.carry auf (aG.carry F (.inl rfl)) (gP.get 0 _ _ rfl rfl) V)) vo pg).mono AF
 have qF:=Zj lU func90 auh rfl AQ F AF AF gP (R:=λv K=>gm K v (lh ps ps.length)/\nP (kU ps ps.length) v) aG U true (G0.at B (.R Et (G1::G2)::y)) G3;refine S9 qF rfl (λb d=>?_) (λb d=>?_) ?_
 .rcases d with h|h
  .rw[Ha];exact f.low b AF
  .exact h.elim
 .rcases d with h|h|h
  .exact f.Ex b AF
  .exact h.elim
  .exact f.Ex b AF
 rintro Y ⟨ρ,K,v,v',l⟩ z;rw[l.g,vct];obtain⟨aGS,hW⟩:=l.world;have nI:∀b,Y.mine b->w1.heap.size<=b/\b<Y.w.heap.size:=λb d=>(z.new b d).resolve_left λh=>h.elim;have Ku:∀b,(∃a,ρ.rel a b)->t b\/w1.heap.size<=b:=by
  rintro b ⟨a,O⟩;rcases l.dom a b O with h|h
  .grind
  grind
 have aGT:∀b,b<w1.heap.size->Y.w.heap[b]?=w1.heap[b]?:=λb d=>z.kept b d λh=>h.elim;have aGU:¬ ∃a,ρ.rel a c.st:=λh=>by
  rcases Ku _ h with h|h
  .exact f.Uo (UC _ h)
  .omega
 have E:∀b,(∃a,ρ.rel a b)->(Y.w.setCell ⟨c.st,0,none⟩ (.int .i32 0)).heap[b]?=Y.w.heap[b]?:=λb d=>nT _ _ _ AF;have C:=hW.closed cJ;have yW:ar (eh (λb=>∃a,ρ.rel a b) cJ) v' v':=ar.right (σ:=eh (λb=>∃a,ρ.rel a b) cJ) (λa b O=>⟨rfl,a,O⟩) l.val;have fR:gm Y.w v' (lh ps ps.length):=az.a0.carry qW hW.carry l.val l.post.1;have Q:w'.heap.size<=Y.w.heap.size:=AF;have aGV:w.heap.size<=w'.heap.size:=vad A.size f.size;have aGW:(Y.w.setCell ⟨c.st,0,none⟩ (.int .i32 0)).heap.size=Y.w.heap.size:=ag.nU _ _ _;refine hk v' Y.w ⟨⟨λb=>∃a,ρ.rel a b,⟨?_,λb d=>⟨b,l.le.1 b b ⟨rfl,.inl d⟩⟩,λb d=>?_,vm C E,yW,az.a0.carry qW (ue E C) yW fR,l.post.2.carry l.val,λb d=>?_,λb d=>?_,?_,?_,?_,?_⟩⟩,?_,?_,Q⟩
 .rw[<-r.eR];exact f.n
 .rcases Ku b d with h|h
  .rcases h with h|h|⟨p,j,h⟩
   .grind
   .exact .inr λx=>(c.AK b ((r.hK b).2 (.inl x))).2.2 h
   .exact .inr λx=>((m p j).2.1 b h).2 ((r.hK b).2 (.inl x))
  .exact .inr λx=>by have:=f.low b AF;omega
 .have hlt:b<w1.heap.size:=by rw[Ha];exact f.low b AF
  have hne:b≠c.st:=(c.AK b ((r.hK b).2 (.inl d))).1;grind[nT]
 .rcases d with h|h|h
  .rcases Ku b h with h|h
   .exact f.Ex b (.inl (UC b h))
   .exact f.Ex b AF
  .exact f.Ex b AF
  .exact f.Ex b AF
 .omega
 .exact(A.later.trans f.os).trans (by have:=z.os;rw[show(Y.w.setCell ⟨c.st,0,none⟩ (.int .i32 0)).os=Y.w.os from rfl,<-UB.1];grind)
 .exact(show Y.w.output=_ from z.output).trans (UB.2.1.trans (f.output.trans A.output))
 .exact(show Y.w.tape=_ from z.tape).trans (UB.2.2.trans (f.tape.trans A.tape))
 .obtain⟨a,cap,e,_⟩:=l.post.2.carry l.val;grind
 grind
end bX
namespace bc
open Conc ConcM RowKit az bo ag ft ix gi iS cF qj c3 bX
section
variable{O:gW}
def qn:(c8 prog).Good:=XR true AQ AQ
def UD{C n:cM}{D M M':c7}{w:aL}(h:ie C D M w):ie n D M' w:=by
 intro b j;obtain⟨o,m,d⟩:=h b j;have f:∀a b,(eh D M).rel a b->(eh D M').rel b b:=λa b k=>⟨U,k.2⟩;refine⟨o,m,?_⟩;rcases d with d|d
 .cases o with
  |cells c e fr=>cases d with|cells _ i _=>exact .inl (.cells e (i.right f) AF)
  |map es k=>cases d with|map _ g=>exact .inl (.map k (g.right λa b x=>⟨x.key.right f,x.val.right f,U⟩))
  |number a l=>cases d with|number hn _=>exact .inl (.number (hn.right f) l)
  |coro x=>cases d with|shut h=>grind
  | _=>first|exact .inr trivial|(cases d)
 grind
theorem tl{D M M':c7}{v:Value}(h:ar (eh D M) v v):ar (eh D M') v v:=ar.right (ρ:=eh D M) (σ:=eh D M') (λ_ _ k=>⟨U,k.2⟩) h
def cut{ap:Type}(g:Nat->ap)(fr aZ:Nat):List ap:=(List.range (aZ-fr)).map λk=>g (fr+k)
def zF{ap:Type}(g:Nat->ap)(fr aZ:Nat):(cut g fr aZ).length=aZ-fr:=by simp[cut]
def aun{ap:Type}(g:Nat->ap){a b c:Nat}(e:a<=b)(d:b<=c):cut g a b++cut g b c=cut g a c:=by
 apply List.ext_getElem
 .simp[zF];omega
 grind[cut]
structure kO(g:Nat->Nat->List a7):Prop where
 none:∀a b,b<=a->g a b=[]
 app:∀{a b c},a<=b->b<=c->g a b++g b c=g a c
def auo(f:Nat->a7):kO (cut f):=⟨λa b h=>vbq (by rw[zF];omega),aun f⟩
def aup(aE:e8)(F:db->List a7)(rs:List a7):kO (λa b=>eT aE F rs a (b-a)):=by
 refine⟨λa b h=>by simp[eT,Nat.sub_eq_zero_of_le h],λ{a b c} e d=>?_⟩;simp only[eT];rw[<-List.flatMap_append];congr 1
 rw[show c-a=(b-a)+(c-b) by omega,List.take_add,List.drop_drop,show a+(b-a)=b by omega]
def first(p:Nat->List a7)(k:Nat):List a7:=((List.range k).map p).flatten
def xv(p:Nat->List a7)(k:Nat):first p (k+1)=first p k++p k:=by simp[first,vcq]
theorem UE(p:Nat->List a7):∀k,ft.ju (λT=>(p T).length) k=(first p k).length
 |0=>by simp[ft.ju,first]
 |k+1=>by rw[ft.ju,UE p k,xv,vbf]
theorem yY{p:Nat->List a7}{N:Nat}(a:∀T,T<N->(p T).length<=301):∀k,k<=N->(first p k).length<=301*k
 |0,_=>by simp[first]
 |k+1,h=>by rw[xv,vbf];have:=yY a k AX;have:=a k AX;omega
def uA(p:Nat->List a7)(N de:Nat):List (List a7):=(List.range N).map λT=>if T<de then p T else []
def EA(p:Nat->List a7)(N de:Nat):(uA p N de).length=N:=by simp[uA]
def UF(p:Nat->List a7)(N de T:Nat)(h:T<(uA p N de).length):(uA p N de)[T]=if T<de then p T else []:=by simp[uA]
theorem OA(p:Nat->List a7)(N de:Nat):∀k,k<=N->lh (uA p N de) k=first p (min k de)
 |0,_=>by simp[lh,first]
 |k+1,h=>by
  rw[M9 (by rw[EA];omega),OA p N de k AX,UF];by_cases hk:k<de
  .rw[vbv hk,vdh AX,vdh AX,xv]
  .rw[vbp hk,vdb AX,vdb AX,vce]
def auq{g:Nat->Nat->List a7}(hg:kO g)(am S k:Nat):g 0 (min (k*am) S)++g (k*am) (min (k*am+am) S)=g 0 (min ((k+1)*am) S):=by
 rw[Nat.succ_mul];rcases vcx (k*am) S with x|x
 .rw[vdh (vdu x),hg.app (vav _) AX]
 .rw[hg.none (k*am) _ AX,vdb x,vdb AX,vce]
theorem UG{g:Nat->Nat->List a7}(hg:kO g){am S:Nat}:∀k,first (λT=>g (T*am) (min (T*am+am) S)) k=g 0 (min (k*am) S)
 |0=>by simp[first,hg.none 0 0]
 |k+1=>by rw[xv,UG hg k,auq hg]
def Ky{am S:Nat}(a:0<am):S<=(S+am-1) / am*am/\∀T,T<(S+am-1) / am->T*am<S:=by
 have h:=Nat.div_add_mod (S+am-1) am;have d:=Nat.mod_lt (S+am-1) a;have c:(S+am-1) / am*am=am*((S+am-1) / am):=Nat.mul_comm _ _;constructor
 .omega
 .intro T b;have:(T+1)*am<=(S+am-1) / am*am:=Nat.mul_le_mul_right _ b;grind
def yI(M:c7)(w:aL)(R:List a7->Prop)(u:Value)(_:c7)(w':aL):Prop:=
 ∃v rs,R rs/\u=.tuple #[v,.N]/\gm w' v rs/\nP rs.length v/\∀b,M b->w'.heap[b]?=w.heap[b]?
def aur(M:c7)(w:aL)(rs:List a7)(u:Value)(_:c7)(w':aL):Prop:=
 ∃v,u=.tuple #[v,.N]/\gm w' v rs/\nP rs.length v/\∀b,M b->w'.heap[b]?=w.heap[b]?
section
variable{Post:uab}{M:c7}{w:aL}
theorem gJ.mono{P:cf}{f:uaj}{args:df}{d:Nat}{V nf:ubc}(h:gJ O P Post f args M w d V)(a:∀u M w,V u M w->nf u M w):gJ O P Post f args M w d nf:=
 λn Shun hn p k aF aC aJ aO aH csZ c l=>h n Shun hn p k aF aC aJ aO aH csZ c λu M' w' b m j i g e q o=>l u M' w' b m j i g e q (a _ _ _ o)
def Ol{p:Nat->List a7}{am S N W:Nat}(Z:∀T,T<N->(p T).length<=301)(A:0<am)(hm:am<=64)(U:0<W)(hW:W<=16)(hS:S<=300)(a4:N=(S+am-1) / am){jt:uaa}{t C:Value}{P jM:uaj}{nh:dy->Nat->Value->(Nat->Prop)->aL->Prop}(hinv:∀w,(callMethod (.iface jt t) "Size" #[]).run prog w=.ok (.enter P (#[C]++#[])) w/\(callMethod (.iface jt t) "Size" #[]).events prog w #[]=#[])(E:∀g,g<=prog.globals.size->M g)(ca:ie (da prog false) M cJ w)(xq:∀(ST:Bool->fi.Lo->aX->Prop) bs,(∀m l g w M M',(∀b,M b->M' b)->ST m l ⟨g,w,M⟩->ST m l ⟨g,w,M'⟩)->jw prog ST true P (#[C]++#[]) (jV fi () (λb=>M b\/b<O.n) w bs) (λu bx=>u=.I (S:Int)/\bx=jV fi () (λb=>M b\/b<O.n) w bs))(Kw:∀c b4 Stop,(∀b,M b->c.K b)->c.N=N->(∀T,T<N->c.rows T=(p T).length)->(∀T,c.b3 T=false)->(∀b,M b->b4.heap[b]?=w.heap[b]?)->ub c b4 prog Stop 110 (.iface jt t) jM C (λT=>T*am) (λT=>min (T*am+am) S) (nh c) (λT v M' w=>oJ (da prog false) M c.K (λw v=>T<c.N/\gm w v (p T)) v M' w)):
 gJ O prog Post 35 #[.agg #[.I (W:Int),.I (am:Int)],.iface jt t] M w 1 (yI M w (λrs=>∃de,de<=N/\rs=first p de/\(de=N\/300<rs.length))):=by
 intro n Shun hn e fh aF aC aJ aO aH csZ hc dr;obtain⟨eB,F⟩:=Ky (S:=S) A;rw[<-a4]at eB F;have aGY:N<=S:=by
  have:∀k,k<=N->k<=S:=by intro k hk;cases k with|zero=>grind|succ k=>have:=F k hk;have J:=Nat.le_mul_of_pos_right k A;omega
  grind
 have eR:=yY Z;refine aud (rows:=λT=>(p T).length) (a8:=λb=>M b\/b<O.n) (cV:=λc T v M' w=>oJ (da prog false) M c.K (λw v=>T<c.N/\gm w v (p T)) v M' w) A hm U hW AX a4 AX (by rw[UE];have:=eR N Jb;omega) (λb a=>a.elim e.lt λx=>vap x e.ob) (λb a=>a.elim (λx=>x.elim (λy=>e.sh b (.inl y)) (e.so b)) λx=>e.sh b (.inr x)) hinv xq
  (λc b4 Stop cR dW b2 d I=>Kw c b4 Stop (λb a=>(d.hK b).2 (.inl (.inl a))) d.a4 d.tH (λT=>by rw[d.ox]) AF)
  (V:=λu w' i j=>∃f de,(de<=N/\(de=N\/300<(first p de).length))/\Kx M (λb=>M b\/b<O.n) w (n+W) (first p de) u w' i j f) (λu w' i j k h=>by obtain⟨f,de,B,h⟩:=h;exact⟨f,de,B,h.at k⟩) (λc b4 cR dW b2 de i j M' D w' st d I L hst=>?_) (λu w' i j hv=>?_)
 .obtain⟨r,K⟩:=L.aU;rw[d.a4]at r K;have z:de=N\/300<(first p de).length:=by refine K.imp_right λh=>?_;rw[<-UE];rwa[ft.Je (g:=λT=>(p T).length) λq hq=>d.tH q AX]at h
  have R:lh (uA p N de) (uA p N de).length=first p de:=by rw[EA,OA p N de N Jb,vdb r]
  have:=aui (Stop:=bU prog Post i j) (de:=de) AF E ca (uA p N de) (EA p N de).symm (by rw[EA];omega) (λk=>?_) (λq h hq=>by rw[UF,vbp AX]) (λT v M w B h=>?_) d I L hst
  .rw[R]at this;exact λG0 s Et G1 G2 o G3 hK=>this G0 s Et G1 G2 o G3 λu Q⟨⟨f,h⟩,J⟩=>hK u Q ⟨⟨f,de,⟨r,z⟩,h⟩,J⟩
  .by_cases hk:k<=N
   .unfold kU;rw[OA p N de k hk];have:=eR (min k de) AX;omega
   .unfold kU lh;rw[vbz (by rw[EA];omega)];have:(uA p N de).flatten=lh (uA p N de) N:=by simp_all[lh,vbz,EA]
    rw[this,OA p N de N Jb];have:=eR (min N de) AX;omega
  .obtain⟨G,g1,g2,ff,Y,X⟩:=h;have Ko:T<(uA p N de).length:=by rw[EA,<-d.a4];exact Y
   exact⟨G,g1,g2,ff,Ko,by rw[UF,vbv B];exact X⟩
 .obtain⟨f,de,⟨r,z⟩,h⟩:=hv;refine dr (.tuple #[u,.N]) f w' i j (by have:=h.n;omega) ⟨UD h.cl,λg hg=>h.sub g (E g hg),λb a=>h.sh b (a.imp id .inr),λb a h0=>(h.new b a).elim (λx=>e.new b x h0) AF,vad e.ob h.size,λb h0 a=>(h.same b (.inr a)).trans (e.old b h0 a),λb a=>h.sh b AF⟩ h.sub (.E9 (oK λx H=>?_)) ⟨h.size,h.later,h.output,h.tape⟩ ⟨u,_,⟨de,r,rfl,z⟩,rfl,h.rows,h.cap,λb a=>h.same b (.inl a)⟩;simp at H;rcases H with rfl|rfl
  .exact tl h.val
  .exact .j2 _ _
theorem Ok{p q:Nat->List a7}(h:∀T,(p T).length<=(q T).length):∀k,(first p k).length<=(first q k).length
 |0=>by simp[first]
 |k+1=>by rw[xv,xv,vbf,vbf];have:=Ok h k;have:=h k;omega
def Oi(p:Nat->List a7){j k:Nat}(h:j<=k):(first p j).length<=(first p k).length:=by induction h with|refl=>exact vac _|step _ a=>rw[xv,vbf];omega
def aus{t:List aI}{v:Value}(B:ie (c8 prog) M (ji M) w)(j:∀g,g<=prog.globals.size->M g)(hv:oy w v t)(hrel:ar (b9 M) v v)(h0:0<t.length)(e:t.length<=1000000){am S W:Nat}(d:0<am)(q:am<=64)(n:0<W)(r:W<=16)(hS:S<=300)(il:t[0].dt.length=S)(c6:∀i,i<S->∀c∈t,wG i c):
 gJ O prog Post 35 #[.agg #[.I (W:Int),.I (am:Int)],.iface 110 (.agg #[v])] M w 1 (aur M w (iA t 0 S)):=by
 have m:ie (da prog false) M cJ w:=UD B;have C:(λb=>M b\/cJ b)=M:=by
  funext b
  exact propext ⟨λh=>h.resolve_right λx=>x,.inl⟩
 refine(Ol (jM:=205) (nh:=λc T u M' w=>oJ (da prog false) M c.K (wV t (T*am) (min (T*am+am) S)) u M' w) (p:=λT=>iA t (T*am) (min (T*am+am) S)) (λT _=>by simp only[uh];omega) d q n r hS U (arg v) j m (λST bs D=>?_) (λc b4 Stop hK a4 tH z s=>?_)).mono ?_
 .grind[ard,tl]
 .refine anE (v:=v) (t:=t) (cd:=M) hK j (by grind[vm]) (az.a0.carry yu (ue s m) (tl hrel) hv) (by grind[tl]) (λargs w=>arf v args w) e (λT a=>?_) (λT a=>by grind[uh]) z;have:=(Ky (S:=S) d).2 T (a4▸a);grind
 .rintro u E w1 ⟨v1,rs,⟨de,o,rfl,A⟩,rfl,l,k,y⟩;have f:=auo λi=>(([((i:Nat):Int)],t.map (gz · i)):a7);have a4:first (λT=>iA t (T*am) (min (T*am+am) S)) ((S+am-1) / am)=iA t 0 S:=by have:=UG (g:=iA t) f (am:=am) (S:=S) ((S+am-1) / am);rw[this,vdb (Ky (S:=S) d).1]
  have a:de=(S+am-1) / am:=by refine A.resolve_right λh=>?_;have:=Oi (λT=>iA t (T*am) (min (T*am+am) S)) o;rw[a4,uh]at this;omega
  subst a;rw[a4]at l k;exact⟨v1,U,l,k,y⟩
def UH(full rs:List a7):Prop:=rs=full/\full.length<=300\/300<rs.length/\300<full.length
def auu{aE:e8}{F:db->List a7}{rs:List a7}(ok:J6 aE F rs){d a:Value}{m:Nat}(Q:ie (c8 prog) M (ji M) w)(j:∀g,g<=prog.globals.size->M g)(hv:eb w d (aE.map Int.ofNat))(s:gm w a rs)(hd:nP rs.length a)(q:l9 w m F)(v:ar (b9 M) d d)(r:ar (b9 M) a a)(t:ar (b9 M) (.map (some m)) (.map (some m))){am W:Nat}(l:0<am)(D:am<=64)(y:0<W)(H:W<=16)(hS:rs.length<=300):
 gJ O prog Post 35 #[.agg #[.I (W:Int),.I (am:Int)],.iface 106 (.agg #[d,a,.map (some m)])] M w 1 (yI M w (UH (eT aE F rs 0 rs.length))):=by
 have f:ie (da prog false) M cJ w:=UD Q;have V:(λb=>M b\/cJ b)=M:=by
  funext b
  exact propext ⟨λh=>h.resolve_right λx=>x,.inl⟩
 obtain⟨U,ec,Y,-⟩:=id hv;refine(Ol (p:=λT=>sm aE F rs (T*am) (min (T*am+am) rs.length)) (jM:=195) (nh:=λc T u M' w=>oJ (da prog false) M c.K (yX aE F rs (T*am) (min (T*am+am) rs.length)) u M' w) (λT _=>by simp only[J7];omega) l D y H hS rfl (ari d a (.map (some m))) j f (λST bs z=>are (bs:=bs) AF j f AF s (tl v) (tl r) (tl t) z) (λc b4 Stop hK a4 tH N o=>?_)).mono ?_
 .obtain⟨X,e,B⟩:=q.carry (ue o f) (tl t);cases e;refine aq4 (cd:=M) hK j (by grind[vm]) ok (az.a0.carry wT (ue o f) (tl v) hv) (az.a0.carry qW (ue o f) (tl r) s) hd B (by grind[tl]) (by grind[tl]) (by grind[tl]) (λargs w=>arh d a (.map (some m)) args w) (λT I=>?_) AF N;have:=(Ky (S:=rs.length) l).2 T (a4▸I);omega
 .rintro u Z w1 ⟨v1,I3,⟨de,A,rfl,P⟩,rfl,L,K,J⟩;refine⟨v1,_,?_,rfl,L,K,J⟩;have i:first (λT=>eT aE F rs (T*am) (min (T*am+am) rs.length-T*am)) ((rs.length+am-1) / am)=eT aE F rs 0 rs.length:=by have:=UG (aup aE F rs) (am:=am) (S:=rs.length) ((rs.length+am-1) / am);simpa[vdb (Ky (S:=rs.length) l).1]using this
  have E:(first (λT=>sm aE F rs (T*am) (min (T*am+am) rs.length)) de).length<=(eT aE F rs 0 rs.length).length:=by rw[<-i];refine vad (Ok (λT=>?_) de) (Oi _ A);simp only[J7];omega
  have n:∀k,(first (λT=>sm aE F rs (T*am) (min (T*am+am) rs.length)) k).length<=300->first (λT=>sm aE F rs (T*am) (min (T*am+am) rs.length)) k=first (λT=>eT aE F rs (T*am) (min (T*am+am) rs.length-T*am)) k:=by
   intro k;induction k with
   |zero=>intro;rfl
   |succ k C=>
    intro h;rw[xv,vbf]at h;rw[xv,xv,C AX];congr 1
    have R:=J7 aE F rs (k*am) (min (k*am+am) rs.length);unfold sm at h R⊢;exact vbz AX
  by_cases hs:(first (λT=>sm aE F rs (T*am) (min (T*am+am) rs.length)) de).length<=300
  .obtain rfl:=P.resolve_right AX;have e:=(n _ hs).trans i;rw[e]at hs⊢;exact .inl ⟨rfl,hs⟩
  .exact .inr ⟨AX,AX⟩
end
end
end bc
namespace bc
open Conc ConcM RowKit az bo cF c3 bX cu ej
structure Rd(ap:Type) where
 R:aL->(Nat->Option Value)->ap->Prop
 mono:pG R
 io:wS R
def ip:Rd Int:=⟨qG,kw,wT⟩
def Od:Rd ByteArray:=⟨B_,QV,M6⟩
def NF:Rd Bool:=⟨Am,QU,M5⟩
def oa:Rd aI:=⟨wy,tE,yu⟩
section
variable{ap:Type}(dh:Nat)(r:Rd ap)(xs:List ap)(x:ap)
def c9:a5:=⟨λw v=>a0 w dh r.R v xs,λ_ _ _ hb h=>h.mono r.mono (bp.b7 hb),λ_=>True,λ_ _ _ _ _ _ _ hc hv h=>az.a0.carry r.io hc.cells hv h⟩
def Hc:Rd (List ap):=⟨λw rd xs=>∃v,rd 0=some v/\a0 w dh r.R v xs,λ_ _ _ _ _ hk hr⟨v,h0,h⟩=>⟨v,hr _ _ h0,h.mono r.mono hk⟩,λρ w w' rd j8 x hc hr⟨v,h0,h⟩=>by
 obtain⟨v',h1,h2⟩:=hr 0 v h0
 exact⟨v',h1,az.a0.carry r.io hc h2 h⟩⟩
def auE(w:aL)(v:Value):Prop:=∃b o,v=.P b o/\r.R w (λj=>w.cell? (.a b (o+j))) x
def eY:a5:=⟨auE r x,λw w' v hb⟨b,o,e,h⟩=>⟨b,o,e,r.mono _ _ _ _ _ (bp.b7 hb) (λj v hv=>bp.b7 hb _ _ _ hv) h⟩,λ_=>True,λn _ ρ w w' v v' hc hv⟨b,o,e,h⟩=>by
 subst e
 obtain⟨b',rfl,q⟩:=A9 hv
 exact⟨b',o,U,r.io ρ w w' _ _ x hc.cells (λj v hv=>hc.cells.cell ⟨b,o+j,none⟩ ⟨b',o+j,none⟩ v ⟨q,U,U⟩ hv) h⟩⟩
end
def sr(v:Value)(F:a5):a5:=⟨λw u=>u=v/\F.R w u,λ_ _ _ hb h=>⟨h.1,F.h8 _ _ _ hb h.2⟩,λ_=>False,λ_ h=>h.elim⟩
def UI(B:Nat)(cs:df)(T:uaa):a5:=⟨λw u=>∃b,u=.P b 0/\B<=b/\ah w b cs T,λ_ _ _ hb⟨b,h1,h2,h3⟩=>⟨b,h1,h2,h3.call hb⟩,λ_=>False,λ_ h=>h.elim⟩
def qo(B:Nat)(F:a5):a5:=⟨λw u=>B<=w.heap.size/\F.R w u,λ_ _ _ hb h=>⟨vad h.1 hb.size,F.h8 _ _ _ hb h.2⟩,λ_=>False,λ_ h=>h.elim⟩
variable{a':Act}{w':aL}
theorem af.of{N:Nat}{l:List (Nat×a5)}(a4:a'.tmps.size=N)(b:∀p∈l,∃v,a'.tmps[p.1]?=some v/\p.2.R w' v):af N (a3 l) a' w':=by
 refine⟨a4,λs F e=>?_⟩;have key:∀l:List (Nat×a5),a3 l s=some F->(s,F)∈l:=by intro l;induction l with|nil=>intro e;cases e|cons p l a=>grind[a3]
 grind
variable{a:Act}{w:aL}
def af.get{N:Nat}{K:bJ}{s:Nat}{F G:a5}(h:af N K a w)(hs:K s=some F)(b:a'.tmps[s]?=a.tmps[s]?)(d:∀v,F.R w v->G.R w' v):∃v,a'.tmps[s]?=some v/\G.R w' v:=by obtain⟨v,c,e⟩:=h.has s F hs;grind
def af.Ah{N:Nat}{K:bJ}(h:af N K a w){l:List (Nat×a5)}(a4:a'.tmps.size=N)(b:∀p∈l,a'.tmps[p.1]?=a.tmps[p.1]?/\∃F,K p.1=some F/\∀v,F.R w v->p.2.R w' v):af N (a3 l) a' w':=
 af.of a4 λp f=>by obtain⟨e,F,d,c⟩:=b p f;exact h.get d e c
def auF:a5:=⟨λ_ _=>True,λ_ _ _ _ h=>h,λ_=>True,λ_ _ _ _ _ _ _ _ _ h=>h⟩
inductive zL:Value->Prop
 |int (k:IntKind) (n:Int):zL (.int k n)
 |bool (b:Bool):zL (.bool b)
 |string (s:ByteArray):zL (.string s)
 |nil (l c:Nat):zL (.slice none l c)
variable{ρ:Ren}
def zL.same{x y:Value}(h:zL x)(hv:ar ρ x y):y=x:=by cases h with|int=>exact gX hv|bool=>exact XK hv|string=>cases hv;rfl|nil=>exact l8 hv
theorem Nq:∀{l a:uad},(∀x∈l,zL x)->cL (ar ρ) l a->a=l
 | [],_,_,.nil=>rfl
 |x::l,_,h,.cons c b=>by rw[(h x Ab).same c,Nq (λy d=>h y AF) b]
def KA(l:uad)(h:∀x∈l,zL x):a5:=⟨eE (.agg l.toArray),rb.eq _,λ_=>True,λn _ ρ w w' v v' hc hv e=>by
 cases e
 obtain⟨l',rfl,k⟩:=ra hv
 rw[Nq h k]
 rfl⟩
variable{v:Value}
section
variable{P:cf}{N:Nat}{K:bJ}{o:Oper}{F:a5}{x y z:uap}
def dM{n9:a5}(b:bl K x n9)(h:∀(ev:uak) w,n9.R w (ev x)->∃v w1,(execOp ev o).run P w=.ok (.value v) w1/\F.R w1 v/\cC w w1):bA P N K o F:=λa w hk=>.inl (h a.eval w (hk.ev b))
def xx{n9 b:a5}(d:bl K x n9)(c:bl K y b)(h:∀(ev:uak) w,n9.R w (ev x)->b.R w (ev y)->∃v w1,(execOp ev o).run P w=.ok (.value v) w1/\F.R w1 v/\cC w w1):bA P N K o F:=λa w hk=>.inl (h a.eval w (hk.ev d) (hk.ev c))
def bw(b:o.op=.move x)(a:bl K x F):bA P N K o F:=dM a λev w h=>⟨_,w,by simp[execOp,b],h,vaa _ _⟩
def Hd(b:o.op=.move x)(a:bl K x (sr v F)):bA P N K o F:=dM a λev w h=>⟨_,w,by simp[execOp,b],h.2,vaa _ _⟩
def dX(b:o.op=.assign x)(a:bl K x F):bA P N K o F:=dM a λev w h=>⟨_,w,by simp[execOp,b],h,vaa _ _⟩
def kn{c:Bool}(d:o.op=.pick x y z)(b:bl K x (eN c))(a:bl K (if c then y else z) F):bA P N K o F:=xx b a λev w e h=>⟨if c then ev y else ev z,w,by
 have e:ev x=.bool c:=e;simp[execOp,d,e,go_sem],by grind,vaa _ _⟩
def auG{c:Bool}{T:uaa}(b:o.op=.unOp .not T x)(a:bl K x (eN c)):bA P N K o (eN !c):=dM a λev w e=>⟨.bool !c,w,by
 have e:ev x=.bool c:=e;simp[execOp,b,e,go_sem],U,vaa _ _⟩
end
variable{c:aI}{m n:Int}{f:uaj}
section
variable{N:Nat}{K:bJ}{o:Oper}{F:a5}{x y z:uap}{ap:Type}{T T':uaa}
def Bo(b:bl K x (bd m))(a:bl K y (bd n))(hF:∀w,F.R w v)(h:∀(ev:uak) w,ev x=.I m->ev y=.I n->(execOp ev o).run (ae prog true) w=.ok (.value v) w):bA (ae prog true) N K o F:=xx b a λev w d c=>⟨v,w,h ev w d c,hF w,vaa _ _⟩
abbrev we(T:uaa):Prop:=T=3\/T=2
def zM(b:o.op=.binOp .add T x y T')(d:bl K x (bd m))(c:bl K y (bd n))(a:eC (m+n))(e:we T):bA (ae prog true) N K o (bd (m+n)):=Bo d c (λ_=>U) λev w g f=>by unfold eC at a;cases o;simp only at b;subst b;rcases e with rfl|rfl<;>(go_simp;exact IntWalk.i64_in _ a)
def Np(b:o.op=.binOp .sub T x y T')(d:bl K x (bd m))(c:bl K y (bd n))(a:eC (m-n))(e:we T):bA (ae prog true) N K o (bd (m-n)):=Bo d c (λ_=>U) λev w g f=>by unfold eC at a;cases o;simp only at b;subst b;rcases e with rfl|rfl<;>(go_simp;exact IntWalk.i64_in _ a)
def OB(a:o.op=.binOp .lss T x y T')(c:bl K x (bd m))(b:bl K y (bd n))(d:we T):bA (ae prog true) N K o (eN (decide (m<n))):=Bo c b (λ_=>U) λev w f e=>by cases o;simp only at a;subst a;rcases d with rfl|rfl<;>go_simp
def OC(a:o.op=.binOp .gtr T x y T')(c:bl K x (bd m))(b:bl K y (bd n))(d:we T):bA (ae prog true) N K o (eN (decide (n<m))):=Bo c b (λ_=>U) λev w f e=>by cases o;simp only at a;subst a;rcases d with rfl|rfl<;>go_simp
def uC(a:o.op=.binOp .eql T x y T')(c:bl K x (bd m))(b:bl K y (bd n))(d:we T):bA (ae prog true) N K o (eN (m==n)):=Bo c b (λ_=>U) λev w f e=>by cases o;simp only at a;subst a;rcases d with rfl|rfl<;>go_simp
def auH{m n:ByteArray}(a:o.op=.binOp .eql 9 x y T')(e:bl K x (GA m))(d:bl K y (GA n)):bA (ae prog true) N K o (eN (m.toList==n.toList)):=xx e d λev w c b=>⟨.bool (m.toList==n.toList),w,by
 have c:ev x=.string m:=c;have b:ev y=.string n:=b;cases o;simp only at a;subst a;go_simp,U,vaa _ _⟩
def auI{m:ByteArray}(a:o.op=.binOp .neq 9 x y T')(e:bl K x (GA m))(d:bl K y (GA m)):bA (ae prog true) N K o (eN false):=xx e d λev w c b=>⟨.F,w,by
 have c:ev x=.string m:=c;have b:ev y=.string m:=b;cases o;simp only at a;subst a;go_simp,U,vaa _ _⟩
def MZ{m:Bool}(a:o.op=.binOp .neq 4 x y T')(e:bl K x (eN m))(d:bl K y (eN m)):bA (ae prog true) N K o (eN false):=xx e d λev w c b=>⟨.F,w,by
 have c:ev x=.bool m:=c;have b:ev y=.bool m:=b;cases o;simp only at a;subst a;go_simp,U,vaa _ _⟩
def hM{k:Nat}{r:Rd ap}{y:ap}(a:o.op=.fieldAddr 36 x k)(d:bl K x (eY oa c))(hk:k<5)(g:∀w rd,wy w rd c->r.R w (λj=>rd (k+j)) y):bA (ae prog true) N K o (eY r y):=dM d λev w h=>by
 obtain⟨b,f,e,h⟩:=h;refine⟨.P b (f+k),w,?_,⟨b,f+k,U,?_⟩,vaa _ _⟩
 .cases o;simp only at a;subst a;have:k=0\/k=1\/k=2\/k=3\/k=4:=AX;rcases this with rfl|rfl|rfl|rfl|rfl<;>go_simp
 .have:=g w (λj=>w.cell? (.a b (f+j))) h;grind
def UJ(w:aL)(rd:ual)(h:wy w rd c):ip.R w (λj=>rd (0+j)) c.kind:=by obtain⟨be,vs,f,h0,e,d,b,a,g⟩:=h;exact h0
def UK(w:aL)(rd:ual)(h:wy w rd c):ip.R w (λj=>rd (1+j)) c.bV:=by obtain⟨be,vs,f,h0,a,e,d,b,g⟩:=h;exact a
def zN(w:aL)(rd:ual)(h:wy w rd c):(Hc 1 ip).R w (λj=>rd (2+j)) c.fy:=by obtain⟨be,vs,g,h0,f,a,e,d,b⟩:=h;exact⟨be,a,b.fy⟩
def zO(w:aL)(rd:ual)(h:wy w rd c):(Hc 1 Od).R w (λj=>rd (3+j)) c.dT:=by obtain⟨be,vs,g,h0,f,e,a,d,b⟩:=h;exact⟨vs,a,b.dT⟩
def ss(w:aL)(rd:ual)(h:wy w rd c):(Hc 1 NF).R w (λj=>rd (4+j)) c.dt:=by obtain⟨be,vs,b,h0,g,f,e,a,d⟩:=h;exact⟨b,a,d.dt⟩
def co{r:Rd ap}{y:ap}(a:o.op=.load T x)(c:bl K x (eY r y))(d:∀w rd,r.R w rd y->∃v,rd 0=some v/\F.R w v)(g:T=3\/T=2\/T=9\/T=4\/T=32\/T=33\/T=34\/T=25\/T=99\/T=37\/T=64):bA (ae prog true) N K o F:=dM c λev w h=>by obtain⟨b,f,e,h⟩:=h;obtain⟨v,j,i⟩:=d w _ h;refine⟨v,w,?_,i,vaa _ _⟩;simp only[vcc]at j;cases o;simp only at a;subst a;rcases g with rfl|rfl|rfl|rfl|rfl|rfl|rfl|rfl|rfl|rfl|rfl<;>go_simp
def ma(n:Int)(w:aL)(rd:ual)(h:ip.R w rd n):∃v,rd 0=some v/\(bd n).R w v:=⟨_,h,U⟩
def KC(n:ByteArray)(w:aL)(rd:ual)(h:Od.R w rd n):∃v,rd 0=some v/\(GA n).R w v:=⟨_,h.1,U⟩
def xy(n:Bool)(w:aL)(rd:ual)(h:NF.R w rd n):∃v,rd 0=some v/\(eN n).R w v:=⟨_,h,U⟩
def eG{dh:Nat}{r:Rd ap}(xs:List ap)(w:aL)(rd:ual)(h:(Hc dh r).R w rd xs):∃v,rd 0=some v/\(c9 dh r xs).R w v:=h
abbrev OD(T:uaa)(dh:Nat):Prop:=(dh=1/\(T=32\/T=33\/T=34\/T=29\/T=37\/T=84\/T=48))\/(dh=7/\T=42)\/(dh=5/\T=25)\/(dh=4/\T=99)
def MY{dh:Nat}{r:Rd ap}{xs:List ap}{i:Nat}{e:ap}(a:o.op=.indexAddr T x y)(d:xs[i]?=some e)(g:OD T dh)(ev:uak)(w:aL)(h:a0 w dh r.R (ev x) xs)(m:ev y=.I i):∃v w1,(execOp ev o).run (ae prog true) w=.ok (.value v) w1/\(eY r e).R w1 v/\cC w w1:=by obtain⟨hi,rfl⟩:=vab.1 d;obtain⟨bP,cap,n,l,j⟩:=h;obtain⟨b,f,rfl,c⟩:=j i hi;have k:(i:Int)<(xs.length:Int):=AX;refine⟨.P b (f+i*dh),w,?_,⟨b,f+i*dh,U,c⟩,vaa _ _⟩;cases o;simp only at a;subst a;rcases g with⟨rfl,rfl|rfl|rfl|rfl|rfl|rfl|rfl⟩|⟨rfl,rfl⟩|⟨rfl,rfl⟩|⟨rfl,rfl⟩<;>go_simp
def dQ{dh:Nat}{r:Rd ap}{xs:List ap}{i:Nat}{e:ap}(c:o.op=.indexAddr T x y)(b:bl K x (c9 dh r xs))(a:bl K y (bd i))(d:xs[i]?=some e)(f:OD T dh):bA (ae prog true) N K o (eY r e):=xx b a (MY c d f)
def auJ{dh:Nat}{r:Rd ap}{xs:List ap}{i:Nat}{e:ap}(c:o.op=.indexAddr T x y)(b:bl K x (sr v (c9 dh r xs)))(a:bl K y (bd i))(d:xs[i]?=some e)(f:OD T dh):bA (ae prog true) N K o (eY r e):=xx b a λev w h=>MY c d f ev w h.2
def mb{dh:Nat}{r:Rd ap}{xs:List ap}(a:o.op=.call {callee:=.builtin .len,args:=#[x],argTypes:=#[T]})(b:bl K x (c9 dh r xs))(c:OD T dh):bA (ae prog true) N K o (bd xs.length):=dM b λev w h=>by obtain⟨bP,cap,e,d,f⟩:=h;refine⟨.I xs.length,w,?_,U,vaa _ _⟩;cases o;simp only at a;subst a;rcases c with⟨rfl,rfl|rfl|rfl|rfl|rfl|rfl|rfl⟩|⟨rfl,rfl⟩|⟨rfl,rfl⟩|⟨rfl,rfl⟩<;>go_simp
def EB(a:o.op=.binOp .neq T x y T')(c:bl K x (bd m))(b:bl K y (bd m))(d:we T):bA (ae prog true) N K o (eN false):=Bo c b (λ_=>U) λev w f e=>by cases o;simp only at a;subst a;rcases d with rfl|rfl<;>go_simp
def UL(c:o.op=.binOp .gtr T x y T')(b:bl K x (bd m))(a:bl K y (bd n))(d:we T)(h:n<m):bA (ae prog true) N K o (eN true):=by have:=OC (N:=N) c b a d;grind
def UM(c:o.op=.binOp .gtr T x y T')(b:bl K x (bd m))(a:bl K y (bd n))(d:we T)(h:¬n<m):bA (ae prog true) N K o (eN false):=by have:=OC (N:=N) c b a d;grind
def EC(c:o.op=.binOp .lss T x y T')(b:bl K x (bd m))(a:bl K y (bd n))(d:we T)(h:m<n):bA (ae prog true) N K o (eN true):=by have:=OB (N:=N) c b a d;grind
def zP(c:o.op=.binOp .lss T x y T')(b:bl K x (bd m))(a:bl K y (bd n))(d:we T)(h:¬m<n):bA (ae prog true) N K o (eN false):=by have:=OB (N:=N) c b a d;grind
def KD{P:cf}{args:uav}{ats:uar}(d:o.op=.call {callee:=.value (.func f),args,argTypes:=ats})(c:∀vs w,Sem.run P (callFunc f vs) w=.ok (.enter f vs) w)(h:∀a w,af N K a w->Calls P f (args.map a.eval) w λe w'=>∃v,e=.returned v/\F.R w' v/\cC w w'):bA P N K o F:=λa w hk=>.inr ⟨f,args.map a.eval,by
 have:=c (args.map a.eval) w;generalize b:a.eval=ev at *;have e:ev (.func f)=.func (.func f) #[] #[]:=by rw[<-b];rfl
 grind[execOp,resolve,Deferred.ofValue,invoke],h a w hk⟩
def OE{P:cf}{ats:uar}{n9:a5}(c:o.op=.call {callee:=.value (.func f),args:=#[x],argTypes:=ats})(d:∀vs w,Sem.run P (callFunc f vs) w=.ok (.enter f vs) w)(b:bl K x n9)(h:∀v w,n9.R w v->Calls P f #[v] w λe w'=>∃r,e=.returned r/\F.R w' r/\cC w w'):bA P N K o F:=
 KD c d λa w hk=>by have:=h _ w (hk.ev b);grind
def OF{P:cf}{ats:uar}{n9 b:a5}(g:o.op=.call {callee:=.value (.func f),args:=#[x,y],argTypes:=ats})(i:∀vs w,Sem.run P (callFunc f vs) w=.ok (.enter f vs) w)(d:bl K x n9)(c:bl K y b)(h:∀v v' w,n9.R w v->b.R w v'->Calls P f #[v,v'] w λe w'=>∃r,e=.returned r/\F.R w' r/\cC w w'):bA P N K o F:=
 KD g i λa w hk=>by have:=h _ _ w (hk.ev d) (hk.ev c);grind
def OG{o2:Oper}{P:cf}{ops:du}{i d s:Nat}{Q:uah}{rest:e8}{w1 ED:aL}{c:Value}(m:ops[i]?=some o)(l:ops[i+1]?=some o2)(g1:o.guard=none)(n:o2.guard=none)(hd:o.dst=some d)(g:o2.dst=none)(a4:d<N)(e:d≠s)(hk:af N K a w)(h:a.tmps[s]?=some c)(p:∀ev:Operand->Value,(execOp ev o).run P w=.ok (.value (.P w.heap.size 0)) ED)(f:∀ev:Operand->Value,ev (.tmp d)=.P w.heap.size 0->ev (.tmp s)=c->(execOp ev o2).run P ED=.ok .skip w1)(j:cC w w1)(hF:F.R w1 (.P w.heap.size 0))(k:∀a',af N (up K d F) a' w1->a'.defers=a.defers->wpOps P ops Q rest a' w1):wpOps P ops Q (i::(i+1)::rest) a w:=by
 refine h7 (R:=λa1 w1=>a1=a.put (some d) (.P w.heap.size 0)/\w1=ED) (nu m g1 hd (p _) ⟨U,U⟩) ?_;rintro a1 b ⟨rfl,rfl⟩;refine h7 (R:=λa1 b=>a1=a.put (some d) (.P w.heap.size 0)/\b=w1) (qf l n g (f _ (cB (jz (by rw[hk.size];exact a4))) (cB ((dF e).trans h))) ⟨U,U⟩) ?_;rintro a1 q ⟨rfl,rfl⟩;exact k _ (hk.put a4 j hF) (put_defers _ _ _)
end
def xz{P:cf}{N id m:Nat}{ops:du}{ks ks':fC}{Q:uaf}{K K':bJ}(hk:af N K a w)(h:vD P N ops (ops.toList.take m) K K')(c:m<=ops.size)(k:∀a' w',af N K' a' w'->a'.defers=a.defers->cC w w'->wpOps P ops (kj (bO P (.R ops []::ks) ks' Q)) (List.range' m (ops.size-m)) a' w'):bO P (.code (.region id ops false)::ks) ks' Q a w:=by
 refine Tr (n:=ops.size) U ?_;have b:(ops.toList.take m).length=m:=AF;rw[show List.range' 0 ops.size=List.range' 0 (ops.toList.take m).length++List.range' m (ops.size-m) by
  rw[b];have:=List.range'_append_1 (s:=0) (m:=m) (n:=ops.size-m);grind]
 exact NL h (λj o d=>by
  grind) hk k
def MW{n N:Nat}{l:uad}{fs:List (Nat×a5)}(hn:l.length<=n)(a4:n=N)(h:∀p∈fs,∃v,l[p.1]?=some v/\p.2.R w v):af N (a3 fs) ⟨l.toArray++Array.replicate (n-l.toArray.size) undef,[]⟩ w:=by
 subst a4;refine⟨AF,λs F e=>?_⟩;have key:∀fs:List (Nat×a5),a3 fs s=some F->(s,F)∈fs:=by intro fs;induction fs with|nil=>intro e;cases e|cons p fs a=>grind[a3]
 grind
variable{v':Value}
def Mp{n:Nat}(h:nP n v)(hv:ar ρ v v'):nP n v':=by obtain⟨a,c,rfl,b⟩:=h;obtain⟨bP,rfl⟩:=NJ hv;exact⟨_,_,U,b⟩
def lv(rs:List a7):a5:=⟨λw v=>gm w v rs/\nP rs.length v,λ_ _ _ hb h=>⟨a0.mono qX (bp.b7 hb) h.1,h.2⟩,λ_=>True,λ_ _ _ _ _ _ _ hc hv h=>⟨az.a0.carry qW hc.cells hv h.1,Mp h.2 hv⟩⟩
def rn:Rd (List a7):=⟨λw rd rs=>∃v,rd 0=some v/\(gm w v rs/\nP rs.length v),λ_ _ _ _ _ hk hr⟨v,h0,h⟩=>⟨v,hr _ _ h0,a0.mono qX hk h.1,h.2⟩,λρ w w' rd j8 x hc hr⟨v,h0,h⟩=>by
 obtain⟨v',h1,h2⟩:=hr 0 v h0
 exact⟨v',h1,az.a0.carry qW hc h2 h.1,Mp h.2 h2⟩⟩
def OH(t:List aI):a5:=⟨λw v=>∃c,v=.agg #[c]/\oy w c t,λ_ _ _ hb⟨c,e,h⟩=>⟨c,e,a0.mono tE (bp.b7 hb) h⟩,λ_=>True,λ_ _ ρ w w' v v' hc hv⟨c,e,h⟩=>by
 subst e
 obtain⟨l',rfl,k⟩:=ra (l:=[c]) hv
 cases k with
 |cons k1 k=>cases k;exact⟨_,U,az.a0.carry yu hc.cells k1 h⟩⟩
def mc:Rd (List aI):=⟨λw rd t=>∃v,rd 0=some v/\oy w v t,λ_ _ _ _ _ hk hr⟨v,h0,h⟩=>⟨v,hr _ _ h0,a0.mono tE hk h⟩,λρ w w' rd j8 x hc hr⟨v,h0,h⟩=>by
 obtain⟨v',h1,h2⟩:=hr 0 v h0
 exact⟨v',h1,az.a0.carry yu hc h2 h⟩⟩
def mW(x y:Int):a5:=⟨eE (.agg #[.I x,.I y]),rb.eq _,λ_=>True,λ_ _=>apE x y⟩
def zS(v:Value):Prop:=∃a l c,v=.slice a l c
def zS.io(h:zS v)(hv:ar ρ v v'):zS v':=by
 obtain⟨a,l,c,rfl⟩:=h;cases hv
 .exact⟨_,_,_,U⟩
 .exact⟨_,_,_,U⟩
abbrev tp:=Int×Int×Int×List Int×List Int
def KG(a:Carry ρ w w')(hv:ar ρ v v'){l:uaz}(h:eb w v l):eb w' v' l:=az.a0.carry wT a hv h
def oQ:Rd tp:=⟨λw rd n=>∃v x y z,(rd 0=some (.I n.1)/\rd 1=some (.I n.2.1)/\rd 2=some (.I n.2.2.1)/\rd 3=some v/\rd 4=some x/\rd 5=some y/\rd 6=some z)/\(zS v/\zS z)/\eb w x n.2.2.2.1/\eb w y n.2.2.2.2,λ_ _ _ _ _ hk hr⟨v,x,y,z,⟨h0,h1,h2,h3,h4,aQ,bH⟩,h',h⟩=>⟨v,x,y,z,⟨hr _ _ h0,hr _ _ h1,hr _ _ h2,hr _ _ h3,hr _ _ h4,hr _ _ aQ,hr _ _ bH⟩,h',a0.mono kw hk h.1,a0.mono kw hk h.2⟩,λρ w w' rd j8 n hc hr⟨v,x,y,z,⟨h0,h1,h2,h3,h4,aQ,bH⟩,h',h⟩=>by
 obtain⟨v0,eO,q0⟩:=hr 0 _ h0
 obtain⟨v1,k1,bj⟩:=hr 1 _ h1
 obtain⟨v2,k2,bm⟩:=hr 2 _ h2
 obtain⟨v3,k3,q3⟩:=hr 3 _ h3
 obtain⟨v4,k4,q4⟩:=hr 4 _ h4
 obtain⟨v5,dn,q5⟩:=hr 5 _ aQ
 obtain⟨v6,iq,q6⟩:=hr 6 _ bH
 rw[gX q0]at eO
 rw[gX bj]at k1
 rw[gX bm]at k2
 exact⟨v3,v4,v5,v6,⟨eO,k1,k2,k3,k4,dn,iq⟩,⟨h'.1.io q3,h'.2.io q6⟩,KG hc q4 h.1,KG hc q5 h.2⟩⟩
def auR(n:tp)(w:aL)(u:Value):Prop:=∃v x y z,u=.agg [.I n.1,.I n.2.1,.I n.2.2.1,v,x,y,z].toArray/\(zS v/\zS z)/\eb w x n.2.2.2.1/\eb w y n.2.2.2.2
def rp(n:tp):a5:=⟨auR n,λ_ _ _ hb⟨v,x,y,z,e,h',h⟩=>⟨v,x,y,z,e,h',a0.mono kw (bp.b7 hb) h.1,a0.mono kw (bp.b7 hb) h.2⟩,λ_=>True,λ_ _ ρ w w' u jR hc hv⟨v,x,y,z,e,h',h⟩=>by
 subst e
 obtain⟨l',rfl,k⟩:=ra hv
 cases k with
 |cons k1 k=>cases k with
  |cons k2 k=>cases k with
   |cons k3 k=>cases k with
    |cons k4 k=>cases k with
     |cons dn k=>cases k with
      |cons iq k=>cases k with
       |cons oe k=>
        cases k
        rw[gX k1,gX k2,gX k3]
        exact⟨_,_,_,_,U,⟨h'.1.io k4,h'.2.io oe⟩,KG hc.cells dn h.1,KG hc.cells iq h.2⟩⟩
def qp(rs:List a7):a5:=⟨λw u=>∃v,u=.tuple [v,.N].toArray/\(lv rs).R w v,λ_ _ _ hb⟨v,e,h⟩=>⟨v,e,(lv rs).h8 _ _ _ hb h⟩,λ_=>True,λ_ _ ρ w w' u jR hc hv⟨v,e,h⟩=>by
 subst e
 obtain⟨l',rfl,k⟩:=Gz hv
 cases k with
 |cons k1 k=>cases k with
  |cons k2 k=>
   cases k
   rw[l8 k2]
   exact⟨_,U,(lv rs).io 0 trivial _ _ _ _ _ ⟨hc.cells,hc.types,λ_ _ _ _=>vav _,hc.inj⟩ k1 h⟩⟩
def xA:Rd (Int×Int):=⟨λ_ rd x=>rd 0=some (.I x.1)/\rd 1=some (.I x.2),λ_ _ _ _ _ _ hr⟨h1,h2⟩=>⟨hr _ _ h1,hr _ _ h2⟩,λρ w w' rd j8 x hc hr⟨h1,h2⟩=>by
 obtain⟨v1,k1,bj⟩:=hr 0 _ h1
 obtain⟨v2,k2,bm⟩:=hr 1 _ h2
 rw[gX bj]at k1
 rw[gX bm]at k2
 exact⟨k1,k2⟩⟩
def UT(T:uaa)(F:a5):a5:=⟨λw v=>∃u,v=.iface T u/\F.R w u,λ_ _ _ hb⟨u,e,h⟩=>⟨u,e,F.h8 _ _ _ hb h⟩,F.ok,λn ok ρ w w' v v' hc hv⟨u,e,h⟩=>by
 subst e
 cases hv
 rename_i k
 exact⟨_,U,F.io n ok _ _ _ _ _ hc k h⟩⟩
def Ml(aE:e8)(F:db->List a7)(rs:List a7):a5:=⟨λw u=>∃a b m,u=.agg [a,b,.map (some m)].toArray/\eb w a (aE.map Int.ofNat)/\(lv rs).R w b/\l9 w m F,λ_ _ _ hb⟨a,b,m,e,h,h',h2⟩=>⟨a,b,m,e,a0.mono kw (bp.b7 hb) h,(lv rs).h8 _ _ _ hb h',h2.below hb⟩,λ_=>True,λn _ ρ w w' u jR hc hv⟨a,b,m,e,h,h',h2⟩=>by
 subst e
 obtain⟨l',rfl,k⟩:=ra hv
 cases k with
 |cons k1 k=>cases k with
  |cons k2 k=>cases k with
   |cons k3 k=>
    cases k
    obtain⟨m',rfl,h3⟩:=h2.carry hc.cells k3
    exact⟨_,_,m',U,KG hc.cells k1 h,(lv rs).io n trivial _ _ _ _ _ hc k2 h',h3⟩⟩
section
variable{N:Nat}{K:bJ}{o:Oper}{F:a5}{x y z:uap}{T T':uaa}
def Me{n:tp}(b:o.op=.box 40 x)(f:bl K x (rp n)):bA (ae prog true) N K o (eY oQ n):=dM f λev w h=>by obtain⟨v,p,q,r,e,c,h⟩:=h;obtain⟨⟨a1,l1,c1,rfl⟩,⟨j,l2,bG,rfl⟩⟩:=id c;obtain⟨k,dH,rfl,-⟩:=h.1.shape;obtain⟨l,i,rfl,-⟩:=h.2.shape;have a:cC w (w.alloc (.cells #[.I n.1,.I n.2.1,.I n.2.2.1,.slice a1 l1 c1,.slice k n.2.2.2.1.length dH,.slice l n.2.2.2.2.length i,.slice j l2 bG] 40)):=(vaa _ w).alloc Jb _;have d:=a0.mono kw (bp.b7 a) h.1;have g:=a0.mono kw (bp.b7 a) h.2;clear h;refine⟨.P w.heap.size 0,_,by cases o;simp only at b;subst b;go_simp,⟨w.heap.size,0,U,_,_,_,_,⟨?_,?_,?_,?_,?_,?_,?_⟩,c,d,g⟩,a⟩<;>exact oq (vbg w _) U U
def UU(a:o.op=.box 60 x)(b:bl K x (mW m n)):bA (ae prog true) N K o (eY xA (m,n)):=dM b λev w h=>by have h:ev x=.agg #[.I m,.I n]:=h;have c:cC w (w.alloc (.cells #[.I m,.I n] 60)):=(vaa _ w).alloc Jb _;refine⟨.P w.heap.size 0,_,A7,⟨w.heap.size,0,U,?_,?_⟩,c⟩<;>exact oq (vbg w _) U U
def Mb{n:tp}(a:o.op=.fieldAddr 40 x 0)(c:bl K x (eY oQ n)):bA (ae prog true) N K o (eY ip n.1):=dM c λev w h=>by obtain⟨b,f,e,v,p,q,r,⟨h0,j,i,g,d,m,l⟩,k,h⟩:=h;exact⟨.P b f,w,A7,⟨b,f,U,h0⟩,vaa _ _⟩
def L9{n:tp}(a:o.op=.fieldAddr 40 x 1)(c:bl K x (eY oQ n)):bA (ae prog true) N K o (eY ip n.2.1):=dM c λev w h=>by obtain⟨b,f,e,v,p,q,r,⟨h0,d,j,i,g,m,l⟩,k,h⟩:=h;exact⟨.P b (f+1),w,A7,⟨b,f+1,U,d⟩,vaa _ _⟩
def auS{n:tp}(a:o.op=.fieldAddr 40 x 2)(c:bl K x (eY oQ n)):bA (ae prog true) N K o (eY ip n.2.2.1):=dM c λev w h=>by obtain⟨b,f,e,v,p,q,r,⟨h0,j,d,i,g,m,l⟩,k,h⟩:=h;exact⟨.P b (f+2),w,A7,⟨b,f+2,U,d⟩,vaa _ _⟩
def UV{n:tp}(a:o.op=.load 40 x)(d:bl K x (eY oQ n)):bA (ae prog true) N K o (rp n):=dM d λev w h=>by obtain⟨b,f,e,v,p,q,r,⟨h0,k,j,i,g,y,t⟩,c,h⟩:=h;simp only[vcc]at h0;refine⟨.agg #[.I n.1,.I n.2.1,.I n.2.2.1,v,p,q,r],w,?_,⟨v,p,q,r,U,c,h⟩,vaa _ _⟩;obtain⟨⟨a1,l1,c1,rfl⟩,⟨m,l2,bG,rfl⟩⟩:=id c;obtain⟨s,dH,rfl,-⟩:=h.1.shape;obtain⟨u,l,rfl,-⟩:=h.2.shape;clear h;cases o;simp only at a;subst a;go_simp
def KH(a:o.op=.load 60 x)(c:bl K x (eY xA (m,n))):bA (ae prog true) N K o (mW m n):=dM c λev w h=>by obtain⟨b,f,e,h0,d⟩:=h;simp only[vcc]at h0 d;exact⟨.agg #[.I m,.I n],w,A7,U,vaa _ _⟩
def auT{t:List aI}(a:o.op=.load 27 x)(d:bl K x (eY mc t)):bA (ae prog true) N K o (OH t):=dM d λev w h=>by obtain⟨b,f,e,v,h0,c⟩:=h;simp only[vcc]at h0;refine⟨.agg #[v],w,?_,⟨v,U,c⟩,vaa _ _⟩;clear c;cases o;simp only at a;subst a;go_simp
def l4(a:o.op=.makeInterface T x)(b:bl K x F)(c:T=106\/T=110):bA (ae prog true) N K o (UT T F):=dM b λev w h=>by refine⟨.iface T (ev x),w,?_,⟨_,U,h⟩,vaa _ _⟩;clear h;cases o;simp only at a;subst a;rcases c with rfl|rfl<;>go_simp
def UW{rs:List a7}(a:o.op=.extract x 0)(b:bl K x (qp rs)):bA (ae prog true) N K o (lv rs):=dM b λev w h=>by obtain⟨v,e,h⟩:=h;refine⟨v,w,?_,h,vaa _ _⟩;clear h;cases o;simp only at a;subst a;go_simp
def qq:a5:=⟨eE (.N),rb.eq _,λ_=>True,λ_ _ _ _ _ _ _ _ hv h=>by cases h;exact l8 hv⟩
def UX{rs:List a7}(a:o.op=.extract x 1)(b:bl K x (qp rs)):bA (ae prog true) N K o qq:=dM b λev w h=>by obtain⟨v,e,h⟩:=h;refine⟨.N,w,?_,U,vaa _ _⟩;clear h;cases o;simp only at a;subst a;go_simp
def auU{n0 n1 eJ:Int}{aE on:e8}{rs qr:List a7}{ats:uar}(C:o.op=.call {callee:=.value (.func 36),args:=#[x,y,z],argTypes:=ats})(B:bl K x (rp (n0,n1,eJ,aE.map Int.ofNat,on.map Int.ofNat)))(A:bl K y (lv rs))(u:bl K z (lv qr))(H:qr.length<=1000)(F:∀r∈qr,∀k∈on,k<r.2.length)(E:on.length<=4):
 bA (ae prog true) N K o (Ml aE (my on qr) rs):=KD C (λvs w=>aqf vs w) λa w hk=>by
 obtain⟨f,b,g,i,I,⟨s,q⟩,k3,p⟩:=hk.ev B;obtain⟨J,h⟩:=hk.ev A;obtain⟨j,L⟩:=hk.ev u;have e:(#[x,y,z].map a.eval)=#[.agg #[.I n0,.I n1,.I eJ,f,b,g,i],a.eval y,a.eval z]:=by simp[I]
 rw[e];have hs:∀{v:Value}{n:Nat},nP n v->∃a l c,v=.slice a l c:=λ⟨a,c,e,_⟩=>⟨a,_,c,e⟩;have t:∃a l c,b=.slice a l c:=let⟨a,c,e,_⟩:=k3;⟨a,_,c,e⟩
 refine(aql n0 n1 eJ on qr f b g i (a.eval y) (a.eval z) w s t q (hs h) p j H F E).mono ?_;rintro e w' ⟨m,rfl,D,-,d⟩;exact⟨_,U,⟨b,a.eval y,m,U,a0.mono kw (bp.b7 d) k3,(lv rs).h8 _ _ _ d ⟨J,h⟩,D⟩,d⟩
def auV{t:List aI}(a:o.op=.build 110 #[(0,x)])(b:bl K x (OH t)):bA (ae prog true) N K o (OH t):=dM b λev w h=>by obtain⟨c,e,h⟩:=h;refine⟨.agg #[c],w,?_,⟨_,U,h⟩,vaa _ _⟩;obtain⟨bP,cap,rfl,-⟩:=h;cases o;simp only at a;subst a;go_simp
def UY(rs:List a7)(w:aL)(rd:ual)(h:rn.R w rd rs):∃v,rd 0=some v/\(lv rs).R w v:=h
end
end bc
namespace bc
open Conc ConcM RowKit az bo cF c3 bX
section
variable{O:gW}
def dD(f:Func)(id:Nat):Array Oper:=bR.oM ((bR.er id (f.body.getD .skip)).getD .skip)
def zT(f:Func)(id:Nat):Code:=bR.lM ((bR.er id (f.body.getD .skip)).getD .skip)
def qs(id:Nat):Code->Option (Array Oper)
 | .region i o _=>if i==id then some o else none
 | .seq x y=>match qs id x with|some c=>some c|none=>qs id y
 | .block _ c=>qs id c
 | .loop c=>qs id c
 | .cond _ x y=>match qs id x with|some c=>some c|none=>qs id y
 | _=>none
def ay(f:Func)(id:Nat):Array Oper:=(qs id (f.body.getD .skip)).getD #[]
def Hf{l:Option Oper}{o o':Oper}(h:l=some o)(e:l=some o':=by simp only[dD,Tryz.f168,Tryz.f3,Tryz.f4,Tryz.f8,Tryz.f15,Tryz.f18,Tryz.f25,vae,bR.er,bR.oM,Nat.reduceBEq,vai,↓reduceIte];exact rfl):o'=o:=vaq (e.symm.trans h)
def fj(l:du){l':du}(e:l=l':=by simp only[ay,qs,dD,Tryz.f168,Tryz.f3,Tryz.f4,Tryz.f8,Tryz.f15,Tryz.f18,Tryz.f25,vae,bR.er,bR.oM,Nat.reduceBEq,vai,↓reduceIte];exact rfl):l=l':=e
def Br(f:Func):Code:=f.body.getD .skip
def vdv{P:cf}{f:uaj}{fn:Func}{c:Code}(a:P.funcs[f]?=some fn)(b:fn.body=some c)(args:df):Frame.enter P f args .normal=(base f).at ⟨args++Array.replicate (fn.ntmps-args.size) undef,[]⟩ [.code c]:=by grind[Frame.enter,Frame.at,base]
def KI(ρ:Ren)(n:Nat):aM ρ (Array.replicate n undef) (Array.replicate n undef):=⟨U,λi v v' h a=>by
 rw[Array.getElem?_replicate]at h a;split at h<;>simp_all
 subst h;subst a;exact .undef ρ⟩
def auW(ρ:Ren)(a b:Int):aM ρ #[.I a,.I b] #[.I a,.I b]:=oK (l:=[.I a,.I b]) λx c=>by simp at c;rcases c with rfl|rfl<;>exact .int _ _
def Lz:ir prog true f25=true:=by decide+kernel
def mixed:prog.follows .mixedOrders=true:=by decide+kernel
theorem rq{w:aL}{a:Addr}{v:Value}(h:w.cell? a=some v)(o:Obj):(w.alloc o).cell? a=some v:=by grind[xN,oq,Below.heap_alloc]
end
end bc
namespace bc
open Conc ConcM RowKit az bo cF c3
variable{P:cf}{ats:uar}
section
variable{O:gW}
def O2{Post:uab}{M:c7}{w:aL}{f:uaj}{fn:Func}{body:Code}{args:df}{N id:Nat}{cd zU c:bJ}{ops:du}{Fr:a5}(ks:fC)(l:(c8 P).Good)(R:P.follows .mixedOrders=true)(i:P.funcs[f]?=some fn)(y:ir P true fn=true)(m:fn.body=some body)(gP:aM (b9 M) args args)(h0:af N cd ⟨args++Array.replicate (fn.ntmps-args.size) undef,[]⟩ w)(Y:∀s F,cd s=some F->F.ok w.heap.size)(D:∀s F,zU s=some F->F.ok w.heap.size){l2:List (Nat×a5)}(t:JX w.heap.size l2)(U0:Fr.ok w.heap.size)(hi:[Item.code body].all (gI P)=true)(kx:(Item.code (.region id ops true):: .code .ret::ks).all (gI P)=true)(x:(Item.inRegion ops []:: .code .ret::ks).all (gI P)=true)(KJ:∀a W,a.defers=[]->af N cd a W->bO (ae P true) [.code body] (.code (.region id ops true):: .code .ret::ks) (λa1 w1=>a1.defers=[]/\af N zU a1 w1/\cC W w1) a W){S:oc}(hZ:KE ops S=true)(hK:qg zU ops.toList=true){g:Oper}{d:Nat}{gf:uaj}{p:Func}{gH:Code}{fP:uav}(X:ops[S.g]?=some g)(h:g.op=.call {callee:=.value (.func gf),args:=fP,argTypes:=ats})(K:P.funcs[gf]?=some p)(lG:(p.name== "runtime.NumGoroutine")=false)(j:p.body=some gH)(en:g.guard=none){iV:Tmp}(jy:g.dst=some iV){dS:a5}(hG:tn (ae P true) N w.heap.size ops S zU (λ_=>none) dS (λE=>∀a M w Shun,Home O P M Shun w->af N E a w->aM (b9 M) a.tmps a.tmps->gJ O P Post gf (fP.map a.eval) M w d (λu _ w'=>dS.R w' u/\cS M w w')) ops.toList 0 (λ_=>none) zU c)(hS:S.j1=[])(SQ:Ba c l2)(T:∀a W,af N (a3 l2) a W->∃v,(results fn a.tmps).run (ae P true) W=.ok v W/\Fr.R W v):
 gJ O P Post f args M w d (λu _ w'=>Fr.R w' u/\cS M w w'):=by
 intro n Shun hn aT fh aF aC aJ aO aH csZ hc dr;have C:ll P f:=C8 i y m;rw[vdv i m];have H:=Held.start (n0:=w.heap.size) aT Jb (a:=⟨args++Array.replicate (fn.ntmps-args.size) undef,[]⟩) (gP.append (KI _ _)) rfl;refine Tm l C H hi kx (I:=af N cd) (J:=af N zU) (lq _ Y) (lq _ D) h0 (λW z k=>?_) λa' M' w' fQ B=>?_
 .intro b cs;obtain⟨a1,w1,⟨r,q,V⟩,U⟩:=KJ _ W rfl k b cs;exact⟨a1,w1,⟨r,q,V.mono z⟩,U⟩
 refine auN (Q:=λ_=>none) l R C x D (λ_ _ e=>Cn) hZ hK GY X h K lG j en hn jy hG (.inl ⟨hS,rfl⟩) fQ B ⟨B.size,λ_ _ e=>Cn⟩ λbb M2 w2 eJ KK eo A8 A=>?_;refine NG l i y m A x hc (I:=af N (a3 l2)) (iU:=Fr.R) (lq _ (jO t)) (Fr.io _ U0) (eo.aZ SQ) (λW z k=>?_) λu Z L h1 h2 h3 h4 aQ bH=>?_
 .obtain⟨v,r,q⟩:=T _ W k;exact yK (vA (lp (Gy A.defers r ⟨q,vaa _ _⟩)))
 .exact dr u Z L eJ KK A8 h1 h2 h3 h4 ⟨bH,aQ.sub λb j hw=>⟨j,hw⟩⟩
def O1{Post:uab}{M:c7}{w:aL}{f:uaj}{fn:Func}{body:Code}{args:df}{N i:Nat}{rest:e8}{l0 l1:List (Nat×a5)}{ops:du}{o:Oper}{ks:fC}{d:Nat}{g:uaj}{B:Func}{gH:Code}{fP:uav}{c:Tmp}{dS Fr:a5}(Q:(c8 P).Good)(p:P.funcs[f]?=some fn)(L:ir P true fn=true)(A:fn.body=some body)(gP:aM (b9 M) args args)(h0:af N (a3 l0) ⟨args++Array.replicate (fn.ntmps-args.size) undef,[]⟩ w)(X:JX w.heap.size l0)(m:JX w.heap.size l1)(D:dS.ok w.heap.size)(U0:Fr.ok w.heap.size)(hi:[Item.code body].all (gI P)=true)(K:(Item.inRegion ops []::ks).all (gI P)=true)(j:ops[i]?=some o/\o.op=.call {callee:=.value (.func g),args:=fP,argTypes:=ats}/\o.guard=none/\o.dst=some c)(T:c<N)(hg:P.funcs[g]?=some B)(lG:(B.name== "runtime.NumGoroutine")=false)(q:B.body=some gH)(KJ:∀a W,a.defers=[]->w.heap.size<=W.heap.size->af N (a3 l0) a W->bO (ae P true) [.code body] (.R ops (i::rest)::ks) (λa1 w1=>a1.defers=[]/\af N (a3 l1) a1 w1/\Below w.heap.size W w1) a W)(j7:∀a M w Shun,Home O P M Shun w->af N (a3 l1) a w->aM (b9 M) a.tmps a.tmps->gJ O P Post g (fP.map a.eval) M w d (λu _ w'=>dS.R w' u/\cS M w w'))(Y:∀a W,a.defers=[]->w.heap.size<=W.heap.size->af N (up (a3 l1) c dS) a W->sg (ae P true) fn (.R ops rest::ks) (λv w1=>Fr.R w1 v/\Below w.heap.size W w1) a W):
 gJ O P Post f args M w d (λu _ w'=>Fr.R w' u/\cS M w w'):=by
 intro n Shun hn aT fh aF aC aJ aO aH csZ hc dr;have S:ll P f:=C8 p L A;rw[vdv p A];have E:∀l,(Item.inRegion ops l::ks).all (gI P)=true:=λl=>by simpa[gI]using K
 have H:=Held.start (n0:=w.heap.size) aT Jb (a:=⟨args++Array.replicate (fn.ntmps-args.size) undef,[]⟩) (gP.append (KI _ _)) rfl;refine Tm Q S H hi (E _) (I:=af N (a3 l0)) (J:=af N (a3 l1)) (lq _ (jO X)) (lq _ (jO m)) h0 (λW r t=>KJ _ W rfl r t) λa' M' w' h z=>?_;have hok:∀s F,up (a3 l1) c dS s=some F->F.ok w.heap.size:=λs F e=>by
  unfold up at e;split at e
  .cases e;exact D
  .exact jO m s F e
 refine Tn j.2.1 hg lG q hn S h K j.1 j.2.2.1 ⟨j.2.2.2,by rw[z.size];exact T⟩ (I:=af N (a3 l1)) (J:=af N (up (a3 l1) c dS)) (n7:=dS.R) (lq _ (jO m)) z (λk=>j7 a' M' (w'.at k) Shun (h.at k).gn (lq _ (jO m) _ _ _ _ _ ((cS.Gx M' w' k).kX (n0:=w.heap.size) h.gn) h.all z) h.all) (λu V y x=>y.put T (vaa _ _) x) λbb M2 V eJ KK A8 R C=>?_;exact NG Q p L A R (E _) hc (I:=af N (up (a3 l1) c dS)) (iU:=Fr.R) (lq _ hok) (Fr.io _ U0) C (λW r t=>Y _ W R.defers r t) λu Z U y x h3 h4 aQ bH=>dr u Z U eJ KK A8 y x h3 h4 ⟨bH,aQ.sub λb q hw=>⟨q,hw⟩⟩
end
open bX cu ej
def sw{N i m r:Nat}{ops:du}{ks ks':fC}{Q:uaf}{K K':bJ}{a:Act}{w:aL}(hk:af N K a w)(h:vD P N ops ((ops.toList.drop i).take m) K K')(q:i+m<=ops.size)(k:∀a' w',af N K' a' w'->a'.defers=a.defers->cC w w'->bO P (.R ops (List.range' (i+m) r)::ks) ks' Q a' w'):bO P (.R ops (List.range' i (m+r))::ks) ks' Q a w:=λb cs=>by
 obtain⟨a1,w1,f,d⟩:=JV (R:=bO P (.R ops (List.range' (i+m) r)::ks) ks' Q) (List.range' (i+m) r) (List.range' i m) a w (by
  have l:((ops.toList.drop i).take m).length=m:=A2;have:=NL (Q:=kj (bO P (.R ops (List.range' (i+m) r)::ks) ks' Q)) (rest:=[]) h (i:=i) (λj o s=>AF) hk λa' w' f d c=>⟨U,k a' w' f d c⟩;rw[l,vce]at this;exact this) b ks cs
 obtain⟨p,g,c,n⟩:=f b cs;have e:List.range' i (m+r)=List.range' i m++List.range' (i+m) r:=by simp[List.range'_append]
 rw[e];exact⟨p,g,c,d.trans n⟩
def U1(w w':aL):Prop:=∀b o v,v≠ .N->w.cell? (.a b o)=some v->w'.cell? (.a b o)=some v
variable{ap:Type}
def U2{w w':aL}{dh:Nat}{R:aL->(Nat->Option Value)->ap->Prop}{v:Value}{xs:List ap}(d:∀x∈xs,∀b o,R w (λj=>w.cell? (.a b (o+j))) x->R w' (λj=>w'.cell? (.a b (o+j))) x)(h:a0 w dh R v xs):a0 w' dh R v xs:=by obtain⟨bP,cap,rfl,c,f⟩:=h;refine⟨bP,cap,U,c,λi hi=>?_⟩;obtain⟨b,off,e,a⟩:=f i hi;exact⟨b,off,e,d _ (vax hi) _ _ a⟩
def O0{w:aL}{dh:Nat}{R:aL->(Nat->Option Value)->ap->Prop}{v:Value}{xs:List ap}(h:a0 w dh R v xs)(a:0<xs.length):v≠ .N:=by obtain⟨bP,cap,rfl,-,-⟩:=h;grind
def OZ{w:aL}{dh:Nat}{R:aL->(Nat->Option Value)->ap->Prop}{v:Value}{xs:List ap}(h:a0 w dh R v xs):v.oneCell'=true:=by obtain⟨bP,cap,rfl,-,-⟩:=h;rfl
def Full(rs:List a7):Prop:=∀r∈rs,0<r.1.length/\0<r.2.length
def OV{w w':aL}(hk:U1 w w'){v:Value}{rs:List a7}(j:Full rs)(h:gm w v rs):gm w' v rs:=by refine U2 (λx i b o⟨pv,g,h0,d,c,a⟩=>?_) h;obtain⟨f,e⟩:=j x i;exact⟨pv,g,hk _ _ _ (O0 c f) h0,hk _ _ _ (O0 a e) d,U2 (λy _ b o h=>hk _ _ _ Ab h) c,U2 (λy _ b o⟨h0,d,c,a,k⟩=>⟨hk _ _ _ Ab h0,hk _ _ _ Ab d,hk _ _ _ Ab c,hk _ _ _ Ab a,k⟩) a⟩
def zV(n0 N:Nat)(D:List (List a7))(w:aL)(v:Value):Prop:=∃b cs,v=.S b 0 D.length N/\n0<=b/\ah w b cs 64/\cs.size=N/\(∀(i:Nat) rs,D[i]?=some rs->∃u,cs[i]?=some u/\(lv rs).R w u)/\∀i,D.length<=i->i<N->cs[i]?=some (.N)
def OI(n0:Nat)(w:aL)(v:Value):Prop:=∃b,v=.P b 0/\n0<=b/\ah w b #[.I 0,.N] 45
variable{T:uaa}
section
variable{n0 N:Nat}{D:List (List a7)}
def OJ{ρ:Ren}{w w':aL}(f:yL n0 ρ w w'){b d:Nat}(r:ρ.rel b d){cs:df}(h:ah w b cs T):∃a,ah w' d a T/\a.size=cs.size/\∀(i:Nat) u,cs[i]?=some u->∃c,a[i]?=some c/\ar ρ u c:=by obtain⟨a,e,g⟩:=f.types _ _ _ _ _ r h;refine⟨a,e,g,λi u hi=>?_⟩;obtain⟨c,k,j⟩:=f.cells.cell ⟨b,i,none⟩ ⟨d,i,none⟩ u ⟨r,U,U⟩ ((h.rules.1 i).trans hi);exact⟨c,((ah.rules e).1 i).symm.trans k,j⟩
def au2:kE n0 (zV n0 N D):=by
 rintro ρ w w' v v' d hv ⟨b,cs,rfl,hn,h,hs,m,l⟩;obtain⟨q,rfl,r⟩:=xf hv;obtain⟨n,g,f,key⟩:=OJ d r h;refine⟨q,n,U,d.new _ _ r hn,g,f.trans hs,λi rs hi=>?_,λi k j=>?_⟩
 .obtain⟨u,p,o⟩:=m i rs hi;obtain⟨e,a,c⟩:=key i u p;exact⟨e,a,(lv rs).io _ trivial _ _ _ _ _ d c o⟩
 .obtain⟨e,a,c⟩:=key i _ (l i k j);rw[l8 c]at a;exact a
def OU:kE n0 (OI n0):=by
 rintro ρ w w' v v' c hv ⟨b,rfl,hn,g⟩;obtain⟨l,rfl,r⟩:=A9 hv;obtain⟨k,f,e,key⟩:=OJ c r g;obtain⟨u0,a,j⟩:=key 0 _ U;obtain⟨u1,d,h⟩:=key 1 _ U;rw[gX j]at a;rw[l8 h]at d;refine⟨l,U,c.new _ _ r hn,?_⟩;have:k=#[.I 0,.N]:=by apply vcf;intro i;match i with|0=>exact a|1=>exact d|i+2=>simp[e]
 exact this▸f
def OT(n0 N:Nat)(D:List (List a7)):a5:=⟨zV n0 N D,λw w' v hb⟨b,cs,e,h1,h2,h3,h4,aQ⟩=>⟨b,cs,e,h1,h2.call hb,h3,λi rs hi=>by
 obtain⟨u,bj,bm⟩:=h4 i rs hi
 exact⟨u,bj,(lv rs).h8 _ _ _ hb bm⟩,aQ⟩,λn=>n=n0,λn h=>h▸au2⟩
def Hg(n0:Nat):a5:=⟨OI n0,λw w' v hb⟨b,e,h1,h2⟩=>⟨b,e,h1,h2.call hb⟩,λn=>n=n0,λn h=>h▸OU⟩
def zV.list{w:aL}{v:Value}(h:zV n0 N D w v)(a4:D.length<=1000):(c9 1 rn D).R w v:=by obtain⟨b,cs,rfl,-,a,-,c,-⟩:=h;refine⟨_,_,U,AX,λi hi=>⟨b,0,U,?_⟩⟩;obtain⟨u,e,d⟩:=c i _ (vag hi);exact⟨u,by simp[a.rules.1,e],d⟩
def zV.grow{w:aL}{b:Nat}{cs:df}{rs:List a7}{u:Value}(f:ah w b cs 64)(hn:n0<=b)(hs:cs.size=N)(g:D.length<N)(n:∀(i:Nat) rs,D[i]?=some rs->∃u,cs[i]?=some u/\(lv rs).R w u)(m:∀i,D.length<=i->i<N->cs[i]?=some (.N))(d:(lv rs).R w u)(k:Full rs)(hF:∀x∈D,Full x):U1 w (w.setCell ⟨b,D.length,none⟩ u)/\zV n0 N (D++[rs]) (w.setCell ⟨b,D.length,none⟩ u) (.S b 0 (D.length+1) N):=by
 have hk:U1 w (w.setCell ⟨b,D.length,none⟩ u):=λp o v hv a=>by
  by_cases e:(⟨b,D.length,none⟩:Addr)=⟨p,o,none⟩
  .cases e;rw[f.rules.1,m _ Jb g]at a;cases a;exact absurd U hv
  .rw[World.cell?_setCell_other (h:=e)];exact a
 refine⟨hk,b,_,Ab,hn,f.set _ _,by simpa using hs,λi r hi=>?_,λi l q=>?_⟩
 .by_cases e:i=D.length
  .subst e;simp at hi;subst hi;exact⟨u,by simp[hs,g],OV hk k d.1,d.2⟩
  .have c:D[i]?=some r:=by grind
   obtain⟨v,s,j⟩:=n i r c;exact⟨v,AF,OV hk (hF r (vco c)) j.1,j.2⟩
 .simp at l;grind
end
def OP{w:aL}{b o:Nat}{c:df}{e:uaa}{fr:ubu}{v:Value}(h:w.heap[b]?=some (.cells c e fr))(hv:c[o]?=some v):w.setCell ⟨b,o,none⟩ v=w:=by
 have a:(w.setCell ⟨b,o,none⟩ v).heap=w.heap:=by
  apply vcf;intro i;simp only[World.setCell,vbb];by_cases hi:b=i
  .subst hi;simp only[vdg,h,Option.map_some];have d:o<c.size:=by grind
   have:c.setIfInBounds o v=c:=by grind
   grind
  grind
 show({w with heap:=(w.setCell ⟨b,o,none⟩ v).heap}:aL)=w;rw[a]
def sx:Value:=.agg #[.I 0,.N]
def U3{ρ:Ren}{u:Value}(h:ar ρ sx u):u=sx:=by
 obtain⟨c,rfl,k⟩:=ra h;cases k with
 |cons b k=>cases k with
  |cons a k=>cases k;rw[gX b,l8 a];rfl
def Hh(rs:List a7)(w:aL)(u:Value):Prop:=∃bE,u=.tuple #[bE,.I 0,sx]/\gm w bE rs
def Om{n0:Nat}(rs:List a7):kE n0 (Hh rs):=by
 rintro ρ w w' v v' a hv ⟨bE,rfl,h⟩;obtain⟨e,rfl,k⟩:=Gz hv;cases k with
 |cons d k=>cases k with
  |cons c k=>cases k with
   |cons b k=>cases k;exact⟨_,by rw[gX c,U3 b],az.a0.carry qW a.cells d h⟩
def OK(F:Func):Code:=.seq (.block 2 (.seq (.region 6 (ay F 6) false) (.cond (.tmp 32) (.seq (.region 7 (ay F 7) false) .ret) (.seq (.region 8 (ay F 8) false) (.cond (.tmp 39) (.seq (.region 9 (ay F 9) false) .ret) .skip))))) (.region 10 (ay F 10) false)
def EG(F:Func):Code:=.seq (.region 3 (ay F 3) false) (.seq (.cond (.tmp 20) .skip (.exit 0)) (.seq (.block 1 (.seq (.region 4 (ay F 4) false) (.seq (.region 5 (ay F 5) false) (OK F)))) (.region 11 (ay F 11) false)))
def KL(F:Func):Code:=.seq (.region 12 (ay F 12) false) .ret
def U4(F:Func):Code:=.seq (.region 0 (ay F 0) false) (.seq (.region 1 (ay F 1) false) (.seq (.seq (.region 2 (ay F 2) false) (.block 0 (.loop (EG F)))) (KL F)))
def uD(F:Func):List Item:=[.code (EG F),.inLoop (EG F),.inBlock 0,.code (KL F)]
def EH(F:Func):List Item:=[.code (OK F),.inBlock 1,.code (.region 11 (ay F 11) false),.inLoop (EG F),.inBlock 0,.code (KL F)]
theorem EI:Tryz.f18.body=some (U4 Tryz.f18):=by kernel_rfl
section
variable{N:Nat}{K:bJ}{o:Oper}{F:a5}{x y:uap}
def au3{s B:Nat}(b:o.op=.alloc 45)(hs:K s=some (qo B F)):bA (ae prog true) N K o (Hg B):=λa w hk=>by obtain⟨v,-,c,-⟩:=hk.has s _ hs;refine .inl ⟨.P w.heap.size 0,w.alloc (.cells #[.I 0,.N] 45),?_,⟨_,U,c,ah.new _ _ _⟩,(vaa _ w).alloc Jb _⟩;generalize a.eval=ev;cases o;simp only at b;subst b;go_simp
def au4{s B n:Nat}(f:o.op=.makeSlice 84 x y)(e:bl K x (bd 0))(d:bl K y (bd n))(hn:n<=1000)(hs:K s=some (qo B F)):bA (ae prog true) N K o (OT B n []):=λa w hk=>by obtain⟨v,-,g,-⟩:=hk.has s _ hs;have c:a.eval x=.I 0:=hk.ev e;have b:a.eval y=.I n:=hk.ev d;refine .inl ⟨.S w.heap.size 0 0 n,w.alloc (.cells (Array.replicate n (.N)) 64),?_,⟨_,_,U,g,ah.new _ _ _,Ab,λi rs h=>by simp at h,λi _ h=>by simp[h]⟩,(vaa _ w).alloc Jb _⟩;obtain⟨i,m,l,k,j⟩:=vci (show(prog.info? 64).map (λi=>(i.zero,i.size,i.bytes))=some (some (.N),1,24)from Ao);have:=run_make (P:=ae prog true) w 84 64 i _ Bc m l .i64 .i64 0 n AU AX (by rw[j];simp;omega) AX;generalize a.eval=ev at c b⊢;simp[execOp,f,c,b,this,k,madeCells,go_sem];rw[show(λx=>[Value.slice none 0 0][x % 1]?.getD default)=λ_:Nat=>Value.slice none 0 0 from funext λx=>by rw[Nat.mod_one];rfl,show Array.map (λ_:Nat=>Value.slice none 0 0) (Array.range n)=Array.replicate n (.N)from Array.ext Ab (by intros;simp)]
def Lx:pN (ae prog true) 84 64 (.N) 1 24:=⟨Bc,Ao,AU,AU⟩
def au5{ops:du}{i d:Nat}{a:Act}{w:aL}{b n cap g:Nat}{u:Value}{cs:df}(m:ops[i]?=some o)(p:o.guard=none)(hd:o.dst=some d)(c:o.op=.call {callee:=.builtin .append,args:=#[x,y],argTypes:=#[84,84]})(k:a.eval x=.S b 0 n cap)(f:a.eval y=.S g 0 1 1)(hv:w.cell? (.a g 0)=some u)(z:u.oneCell'=true)(e:ah w b cs 64)(t:cs.size=cap)(hn:n+1<=cap){Q:uaf}(h:Q (a.put (some d) (.S b 0 (n+1) cap)) (w.setCell ⟨b,n,none⟩ u)):wpOps (ae prog true) ops (kj Q) [i] a w:=by
 obtain⟨Hi,hi,r,hsz,q⟩:=vci Lx.hi;have l:=run_append_room_cells (P:=ae prog true) w 84 o.type 64 Hi Lx.ht hi b 0 n cap ⟨g,0,none⟩ 1 1 [u] AF (λj u s=>by
  grind[Addr.add]) AF hn (by have:=e.rules.1;grind) (by have:=e.rules.2;grind)
 refine nu m p hd (v:=.S b 0 (n+1) cap) (w1:=w.setCell ⟨b,n,none⟩ u) ?_ h;simp only[execOp,c,resolve,invoke,builtin,k,f,l,Result.andThen,vdt,Sem.run_pure,List.map_toArray,vcy,veo];grind[World.setCells]
def xG{bP:uan}{n c:Nat}(a:o.op=.call {callee:=.builtin .len,args:=#[x],argTypes:=#[T]})(b:bl K x (ew (.slice bP n c)))(d:T=42):bA (ae prog true) N K o (bd n):=dM b λev w h=>by have e:ev x=.slice bP n c:=h;subst d;refine⟨.I n,w,?_,U,vaa _ _⟩;cases o;simp only at a;subst a;go_simp
def xF{rs:List a7}(b:o.op=.call {callee:=.builtin .len,args:=#[x],argTypes:=#[64]})(d:bl K x (lv rs)):bA (ae prog true) N K o (bd rs.length):=dM d λev w h=>by obtain⟨-,a,c,e,-⟩:=h;refine⟨.I rs.length,w,?_,U,vaa _ _⟩;cases o;simp only at b;subst b;go_simp
def xD{T':uaa}(b:o.op=.binOp .neq T x (.const (.N)) T')(c:bl K x qq)(d:T=71):bA (ae prog true) N K o (eN false):=λa w hk=>.inl ⟨.F,w,by
 have e:a.eval x=.N:=hk.ev c;have f:a.eval (.const (.N))=.N:=rfl;generalize a.eval=ev at e f⊢;subst d;cases o;simp only at b;subst b;go_simp,U,vaa _ _⟩
def xu(b:o.op=.build 45 #[]):bA (ae prog true) N K o (KA [.I 0,.N] Fa):=λa w hk=>by refine .inl ⟨.agg #[.I 0,.N],w,?_,U,vaa _ _⟩;generalize a.eval=ev;cases o;simp only at b;subst b;go_simp
def au6{a:uan}{n uc:Nat}(b:o.op=.buildSlice 84 1 #[(0,x)])(ev:uak)(w:aL)(c:ev x=.slice a n uc):(execOp ev o).run (ae prog true) w=.ok (.value (.S w.heap.size 0 1 1)) (w.alloc (.cells #[.slice a n uc] 64)):=by cases o;simp only at b;subst b;go_simp
def Bs{v:Value}(b:o.op=.assign x){ev:uak}(a:ev x=v)(w:aL):(execOp ev o).run P w=.ok (.value v) w:=by simp[execOp,b,a]
def au7(a:o.op=.alloc 40)(ev:uak)(w:aL):(execOp ev o).run (ae prog true) w=.ok (.value (.P w.heap.size 0)) (w.alloc (.cells #[.I 0,.I 0,.I 0,.N,.N,.N,.N] 40)):=by cases o;simp only at a;subst a;go_simp
def EJ{w:aL}{b o:Nat}{cs:df}{v:Value}(a:ah w b cs T)(h:v.oneCell'=true)(c:o<cs.size:=by simp):(store ⟨b,o,none⟩ v).run P w=.ok () (w.setCell ⟨b,o,none⟩ v):=by rw[run_store _ _ _ _ _ h];simp[a.rules.1,a.rules.2,c]
def au8(w:aL)(v0 v1 v2 v3 j i h:Value)(h0:v0.oneCell'=true)(s:v1.oneCell'=true)(r:v2.oneCell'=true)(q:v3.oneCell'=true)(p:j.oneCell'=true)(v:i.oneCell'=true)(u:h.oneCell'=true):∃w',(∀{o:Oper}{x y:uap},o.op=.store 40 x y->∀{ev:uak},ev x=.P w.heap.size 0->ev y=.agg #[v0,v1,v2,v3,j,i,h]->(execOp ev o).run (ae prog true) (w.alloc (.cells #[.I 0,.I 0,.I 0,.N,.N,.N,.N] 40))=.ok .skip w')/\ah w' w.heap.size #[v0,v1,v2,v3,j,i,h] 40/\cC w w':=by
 have f:=ah.new w #[.I 0,.I 0,.I 0,.N,.N,.N,.N] 40;have e:=f.set 0 v0;have g:=e.set 1 v1;have d:=g.set 2 v2;have a:=d.set 3 v3;have b:=a.set 4 j;have c:=b.set 5 i;have k:=c.set 6 h;simp only[List.setIfInBounds_toArray,List.set_cons_zero,List.set_cons_succ]at k;refine⟨_,@fun o x y l ev A z=>?_,k,(((((((((vaa _ w).alloc Jb _).setCell Jb _).setCell Jb _).setCell Jb _).setCell Jb _).setCell Jb _).setCell Jb _).setCell Jb _)⟩;have t:Hid _:=And.intro f (And.intro e (And.intro g (And.intro d (And.intro a (And.intro b c)))));generalize m:World.setCell _ _ _=W';have n:Hid _:=m;clear f e g d a b c k m;cases o;simp only at l;subst l;go_simp
 obtain⟨f,e,g,d,a,b,c⟩:=t.out;rw[EJ f h0,vbt,EJ e s,vbt,EJ g r,vbt,EJ d q,vbt,EJ a p,vbt,EJ b v,vbt,EJ c u,vbt,n.out]
def au9(c:o.op=.store 45 x y)(ev:uak){w:aL}{b:Nat}(a:ah w b #[.I 0,.N] 45)(f:ev x=.P b 0)(d:ev y=.agg #[.I 0,.N]):(execOp ev o).run (ae prog true) w=.ok .skip w:=by
 obtain⟨i,h,g⟩:=a.all;cases o;simp only at c;subst c;have e:(w.setCell ⟨b,0,none⟩ (.I 0)).setCell ⟨b,1,none⟩ (.N)=w:=by rw[OP a U,OP a U]
 go_simp
end
def Hk{N:Nat}{a:Act}{w:aL}(h:a.tmps.size=N):af N (a3 []) a w:=⟨h,λ_ _ e=>Cn⟩
def ga{N:Nat}{l:List (Nat×a5)}{a:Act}{w:aL}{s:Nat}{F:a5}{v:Value}(h:a.tmps[s]?=some v)(hv:F.R w v)(hk:af N (a3 l) a w):af N (a3 ((s,F)::l)) a w:=⟨hk.size,λs' G e=>by
 unfold a3 at e;split at e
 .rename_i b;cases e;exact⟨v,b▸h,hv⟩
 .exact hk.has s' G e⟩
def px{args:df}{n i:Nat}{v:Value}(h:args[i]?=some v):(⟨args++Array.replicate n undef,[]⟩:Act).tmps[i]?=some v:=by show(args++Array.replicate n undef)[i]?=some v;rw[Array.getElem?_append_left (vam.1 h).1];exact h
def zW{N:Nat}{K:bJ}{a:Act}{w:aL}{s:Nat}{b c:Bool}(h:af N K a w)(e:K s=some (eN b))(d:b=c):a.eval (.tmp s)=.bool c:=d▸h.ev (x:=.tmp s) (F:=eN b) e
theorem zS.one{v:Value}(h:zS v):v.oneCell'=true:=by obtain⟨_,_,_,rfl⟩:=h;rfl
abbrev lx(n0 N:Nat)(D:List (List a7))(W am:Int)(k:Nat):List (Nat×a5):=[(9,OT n0 N D),(8,Hg n0),(5,eY xA (W,am)),(18,bd N),(19,bd k)]
section
variable{n0 N k c:Nat}{bP:uan}{W am:Int}{D:List (List a7)}{rs:List a7}{ns:List tp}{iI:tp}{ts:List (List aI)}{br bS:Value}{a:Act}{w:aL}
def au_(a4:N<=1000)(hd:a.defers=[])(hn:n0<=w.heap.size)(hk:af 57 (a3 [(0,ew br),(1,ew (.slice bP N c)),(2,mW W am),(3,pp)]) a w):
 bO (ae prog true) [.code (U4 Tryz.f18)] (uD Tryz.f18) (λa1 w1=>a1.defers=[]/\(a1.tmps[0]?=some br/\a1.tmps[17]?=some (.slice bP N c))/\af 57 (a3 (lx n0 N [] W am 0)) a1 w1/\Below n0 w w1) a w:=by
 obtain⟨u,g,f⟩:=hk.has 3 _ U;have hk:=ga (F:=qo n0 pp) g ⟨hn,f⟩ hk;unfold U4;refine bq ?_;rw[fj (ay Tryz.f18 0)];refine c5 hk (ao U (UU U U)<|ao U (dX (F:=qq) U Jx)<|ao U (dX (F:=bd 0) U Jx)<|ao U (au3 (s:=3) U U)<|rfl) λa1 w1 e d1 b1=>bq ?_;rw[fj (ay Tryz.f18 1)];refine c5 e (ao U Jc<|ao U (xG U U U)<|ao U (au4 (s:=3) U Jx U a4 U)<|ao U KV<|rfl) λo n d i b2=>bq (bq ?_);rw[fj (ay Tryz.f18 2)];refine c5 d (ao U Jc<|ao U (xG U U U)<|ao U (bw (F:=bd (0:Nat)) U Jx)<|rfl) λp m k3 h l=>nr (A4 (lp ⟨h.trans (i.trans (d1.trans hd)),?_,k3.aZ ⟨U,U,U,U,U,NE⟩,?_⟩))
 .obtain⟨v,k,rfl⟩:=k3.has 0 _ U;obtain⟨u,j,rfl⟩:=k3.has 17 _ U;exact⟨k,j⟩
 .have b:=b1.trans (b2.mono b1.size);exact(b.trans (l.mono b.size)).mono hn
def ava(T:D.length=k)(a4:N<=1000)(V:k<N)(E:ns[k]?=some iI)(hd:a.defers=[])(hn:n0<=w.heap.size)(h0:a.tmps[0]?=some br)(O:a.tmps[17]?=some bS)(ht:(c9 1 mc ts).R w br)(B:(c9 7 oQ ns).R w bS)(h:af 57 (a3 (lx n0 N D W am k)) a w):
 bO (ae prog true) (uD Tryz.f18) (.R (ay Tryz.f18 5) (List.range' 4 6)::EH Tryz.f18) (λa1 w1=>a1.defers=[]/\(a1.tmps[0]?=some br/\a1.tmps[17]?=some bS)/\af 57 (a3 ((27,c9 1 rn D)::(25,rp iI)::(26,c9 1 mc ts)::(28,mW W am)::(10,bd k)::lx n0 N D W am k)) a1 w1/\Below n0 w w1) a w:=by
 have hk:=ga (F:=sr br (c9 1 mc ts)) h0 ⟨rfl,ht⟩<|ga (F:=sr bS (c9 7 oQ ns)) O ⟨rfl,B⟩ h;unfold uD EG;refine bq ?_;rw[fj (ay Tryz.f18 3)];refine c5 hk (ao rfl (OB rfl rfl rfl AU)<|rfl) λa1 w1 r d1 b1=>bq (fI (t:=true) (zW r rfl A2) (nt (bq (nr (bq ?_)))));rw[fj (ay Tryz.f18 4)];refine uq (show bO _ (.R _ (List.range' 0 (3+3))::_) _ _ _ _ from sw r (ao rfl Jc<|ao rfl (auJ rfl rfl rfl E AU)<|ao rfl (UV rfl rfl)<|rfl) AU λc b f K b2=>xg ?_);obtain⟨L,o,bE,z,p,q,rfl,j,g⟩:=f.has 23 _ rfl;obtain⟨d,M,I⟩:=f.has 21 _ rfl;refine h7 (R:=λa' w'=>a'=c.put (some 11) (.P b.heap.size 0)/\w'=b.alloc (.cells #[.I 0,.I 0,.I 0,.N,.N,.N,.N] 40)) (nu rfl rfl rfl (au7 rfl _ _) ⟨rfl,rfl⟩) ?_;rintro _ _ ⟨rfl,rfl⟩;have Q:(c.put (some 11) (.P b.heap.size 0)).tmps[21]?=some d:=(dF AU).trans M;refine h7 (R:=λa' w'=>a'=(c.put (some 11) (.P b.heap.size 0)).put (some 10) d/\w'=b.alloc (.cells #[.I 0,.I 0,.I 0,.N,.N,.N,.N] 40)) (nu (v:=d) rfl rfl rfl (Bs rfl (cB Q) _) ⟨rfl,rfl⟩) ?_;rintro _ _ ⟨rfl,rfl⟩;have P:((c.put (some 11) (.P b.heap.size 0)).put (some 10) d).tmps[11]?=some (.P b.heap.size 0):=(dF AU).trans (jz (by rw[f.size];decide));have n:((c.put (some 11) (.P b.heap.size 0)).put (some 10) d).tmps[23]?=some _:=(dF AU).trans ((dF AU).trans o);obtain⟨A,C,H,i⟩:=au8 b (.I iI.1) (.I iI.2.1) (.I iI.2.2.1) bE z p q rfl rfl rfl j.1.one (OZ g.1) (OZ g.2) j.2.one;refine h7 (R:=λa' w'=>a'=(c.put (some 11) (.P b.heap.size 0)).put (some 10) d/\w'=A) (qf rfl rfl rfl (C rfl (cB P) (cB n)) ⟨rfl,rfl⟩) ?_;rintro _ _ ⟨rfl,rfl⟩;have hcell:=H.rules.1;have k3:=(f.put (s:=11) (F:=eY oQ iI) AU i ⟨b.heap.size,0,rfl,bE,z,p,q,⟨hcell _,hcell _,hcell _,hcell _,hcell _,hcell _,hcell _⟩,j,a0.mono kw (bp.b7 i) g.1,a0.mono kw (bp.b7 i) g.2⟩).put (s:=10) (F:=bd k) AU (vaa _ _) I;refine n8 (bq (uq ?_));rw[fj (ay Tryz.f18 5)];refine(show bO _ (.R _ (List.range' 0 (4+6))::_) _ _ _ _ from sw k3 (ao rfl (UV rfl rfl)<|ao rfl (Hd rfl rfl)<|ao rfl Jc<|ao rfl (KH rfl rfl)<|rfl) AU λU S e J bk=>lp ⟨J.trans ((put_defers _ _ _).trans ((put_defers _ _ _).trans (K.trans (d1.trans hd)))),?_,?_,?_⟩)
 .obtain⟨v,m,rfl,-⟩:=e.has 0 _ rfl;obtain⟨u,l,rfl,-⟩:=e.has 17 _ rfl;exact⟨m,l⟩
 .obtain⟨v,m,l⟩:=e.has 27 _ rfl;exact ga m (zV.list l AX) (e.aZ ⟨rfl,rfl,rfl,rfl,rfl,rfl,rfl,rfl,rfl,NE⟩)
 .have y:=b1.trans (b2.mono b1.size);have x:=y.trans (i.mono y.size);exact(x.trans (bk.mono x.size)).mono hn
def xn(hD:D.length=k)(a4:N<=1000)(Bt:k<N)(Bf:rs.length<=300)(hf:Full rs)(hF:∀x∈D,Full x)(hd:a.defers=[])(hn:n0<=w.heap.size)(h0:a.tmps[0]?=some br)(U5:a.tmps[17]?=some bS)(h:af 57 (a3 ((29,qp rs)::lx n0 N D W am k)) a w):
 bO (ae prog true) (.R (ay Tryz.f18 5) (List.range' 5 5)::EH Tryz.f18) (uD Tryz.f18) (λa1 w1=>a1.defers=[]/\(a1.tmps[0]?=some br/\a1.tmps[17]?=some bS)/\af 57 (a3 (lx n0 N (D++[rs]) W am (k+1))) a1 w1/\Below n0 w w1) a w:=by
 have hk:=ga (F:=ew br) h0 rfl<|ga (F:=ew bS) U5 rfl h;unfold EH OK;rw[fj (ay Tryz.f18 5)];refine(show bO _ (.R _ (List.range' 5 (5+0))::_) _ _ _ _ from sw hk LI AU λa1 w1 k1 d1 b1=>vA (bq (nr (bq ?_))));rw[fj (ay Tryz.f18 6)];refine c5 k1 (ao rfl Jc<|ao rfl (xD rfl rfl rfl)<|ao rfl KV<|rfl) λbb w2 k2 d2 b2=>fI (t:=false) (zW k2 rfl rfl) (bq ?_);rw[fj (ay Tryz.f18 8)];refine c5 k2 (ao rfl Jc<|ao rfl (xF rfl rfl)<|ao rfl (OC (n:=300) rfl rfl Jx AU)<|ao rfl KV<|rfl) λbI w3 k3 d3 b5=>fI (t:=false) (zW k3 rfl A2) (nt (vz ?_));rw[fj (ay Tryz.f18 10)];refine uq (show bO _ (.R _ (List.range' 0 (2+3))::_) _ _ _ _ from sw k3 (ao rfl Jc<|ao rfl Jc<|rfl) AU λz b g d4 bk=>xg ?_);obtain⟨xb,X,d,cs,rfl,o,cD,j,Nb,V⟩:=g.has 45 _ rfl;obtain⟨Rq,aG7,-⟩:=g.has 9 _ rfl;obtain⟨w6,U9,hr⟩:=g.has 46 _ rfl;obtain⟨q,uc,rfl,aG8⟩:=hr.2;have bt:cC b (b.alloc (.cells #[.slice q rs.length uc] 64)):=(vaa _ b).alloc Jb _;refine h7 (R:=λa' w'=>a'=z.put (some 47) (.S b.heap.size 0 1 1)/\w'=b.alloc (.cells #[.slice q rs.length uc] 64)) (nu rfl rfl rfl (au6 rfl _ _ (cB U9)) ⟨rfl,rfl⟩) ?_;rintro _ dK ⟨rfl,f⟩;have c:=g.put (s:=47) (F:=ew (.S b.heap.size 0 1 1)) AU (f▸bt) rfl;have T:dK.cell? (.a b.heap.size 0)=some (.slice q rs.length uc):=by rw[f];exact(ah.new _ _ _).rules.1 0
 have S:=(lv rs).h8 _ _ _ (f▸bt) hr;have Q:∀(i:Nat) r,D[i]?=some r->∃u,cs[i]?=some u/\(lv r).R dK u:=λi r hi=>by obtain⟨u,eU,gR⟩:=Nb i r hi;exact⟨u,eU,(lv r).h8 _ _ _ (f▸bt) gR⟩
 have m:ah dK d cs 64:=cD.call (f▸bt);obtain⟨E,l⟩:=zV.grow (n0:=n0) m o j AX Q V S hf hF;refine h7 (R:=λa' w'=>a'=(z.put (some 47) (.S b.heap.size 0 1 1)).put (some 48) (.S d 0 (D.length+1) N)/\w'=dK.setCell ⟨d,D.length,none⟩ (.slice q rs.length uc)) (au5 rfl rfl rfl rfl (cB ((dF AU).trans X)) (cB (jz (by rw[g.size];decide))) T rfl m j AX ⟨rfl,rfl⟩) ?_;rintro _ y ⟨rfl,C⟩;rw[<-C]at E l;refine h7 (R:=λa' w'=>a'=((z.put (some 47) (.S b.heap.size 0 1 1)).put (some 48) (.S d 0 (D.length+1) N)).put (some 9) (.S d 0 (D.length+1) N)/\w'=y) (nu (v:=.S d 0 (D.length+1) N) rfl rfl rfl (Bs rfl (cB (jz (by rw[c.size];decide))) _) ⟨rfl,rfl⟩) ?_;rintro B y ⟨p,rfl⟩;have ht:∀s v,s≠48->s≠9->(z.put (some 47) (.S b.heap.size 0 1 1)).tmps[s]?=some v->B.tmps[s]?=some v:=λs v h1 h2 h3=>by rw[p];exact(dF (Ne.symm h2)).trans ((dF (Ne.symm h1)).trans h3)
 obtain⟨IS,U7,rfl⟩:=c.has 0 _ rfl;obtain⟨P,O,rfl⟩:=c.has 17 _ rfl;obtain⟨FL,wh,Z,rfl,Hl,M⟩:=c.has 8 _ rfl;obtain⟨Yv,L,lP,Y,rfl,f0,f1⟩:=c.has 5 _ rfl;obtain⟨aG9,K,U8⟩:=c.has 18 _ rfl;obtain⟨aG_,J,I⟩:=c.has 19 _ rfl;have H:Z≠d:=λe=>by simp_all[ah]
 have iq:af 57 (a3 ((0,ew IS)::(17,ew P)::lx n0 N (D++[rs]) W am k)) B y:=
  ga (ht _ _ AU AU U7) rfl<|ga (ht _ _ AU AU O) rfl<|ga (by rw[p];exact jz (by rw[fo,c.size];decide)) l<|ga (ht _ _ AU AU wh) ⟨Z,rfl,Hl,by rw[C];exact M.fl H _⟩<|ga (ht _ _ AU AU L) ⟨lP,Y,rfl,E _ _ _ Ab f0,E _ _ _ Ab f1⟩<|ga (ht _ _ AU AU K) U8<|ga (ht _ _ AU AU J) I<|Hk (by rw[p,fo,fo];exact c.size)
 have d6:B.defers=[]:=by rw[p,put_defers,put_defers,put_defers];exact d4.trans (d3.trans (d2.trans (d1.trans hd)))
 have e2:=b1.trans (b2.mono b1.size);have e3:=e2.trans (b5.mono e2.size);have e4:=e3.trans (bk.mono e3.size);have cR:Below n0 w y:=by rw[C,f];exact(((e4.trans (bt.mono e4.size)).mono hn)).setCell o _
 refine n8 (vz ?_);rw[fj (ay Tryz.f18 11)];refine c5 iq (ao rfl (zM (n:=1) rfl rfl Jx Cv AU)<|ao rfl Jc<|rfl) λnk vu A d7 cU=>A5 (lp ⟨d7.trans d6,?_,A.aZ ⟨rfl,rfl,rfl,rfl,rfl,NE⟩,cR.trans (cU.mono (vad hn cR.size))⟩);obtain⟨v,bj,rfl⟩:=A.has 0 _ rfl;obtain⟨u,bm,rfl⟩:=A.has 17 _ rfl;exact⟨bj,bm⟩
def avr(B:D.length=N)(h0:0<N)(a4:N<=1000)(m:D[N-1]?=some rs)(hd:a.defers=[])(hn:n0<=w.heap.size)(h:af 57 (a3 (lx n0 N D W am N)) a w):
 sg (ae prog true) Tryz.f18 (uD Tryz.f18) (λv w1=>Hh rs w1 v/\Below n0 w w1) a w:=by
 obtain⟨z,y,l⟩:=h.has 9 _ U;have hk:=ga (F:=c9 1 rn D) y (zV.list l AX) h;unfold uD EG;refine yK (ks':=[.code .ret]) (bq ?_);rw[fj (ay Tryz.f18 3)];refine c5 hk (ao U (OB U U U AU)<|rfl) λa1 w1 e d1 b1=>bq (fI (t:=false) (zW e U Ab) (xe U ?_));unfold KL;refine bq ?_;rw[fj (ay Tryz.f18 12)];have u:((D.length:Int)-1)=((N-1:Nat):Int):=AX;refine uq (show bO _ (.R _ (List.range' 0 (9+1))::_) _ _ _ _ from sw e (ao U Jc<|ao U Jc<|ao U Kh<|ao U (Np (n:=1) U U Jx Cv AU)<|ao U (dQ (i:=N-1) U U (by rw[<-u];rfl) m AU)<|ao U (co U U (UY _) AU)<|ao U (xu U)<|ao U KV<|ao U (dX (F:=bd 0) U Jx)<|rfl) AU λq j b p b2=>xg ?_);have o:=b1.trans (b2.mono b1.size);obtain⟨E,d,A,rfl,-,f⟩:=b.has 8 _ U;obtain⟨r,c,rfl⟩:=b.has 56 _ U;obtain⟨x,s,g⟩:=b.has 6 _ U;obtain⟨C,k,rfl⟩:=b.has 7 _ U;refine h7 (R:=λa' w'=>a'=q/\w'=j) (qf U U U (au9 U _ f (cB d) (cB c)) ⟨U,U⟩) ?_;rintro _ _ ⟨rfl,rfl⟩;refine n8 (lp (Gy (v:=.tuple #[x,.I 0,sx]) (p.trans (d1.trans hd)) ?_ ⟨⟨_,U,g.1⟩,o.mono hn⟩));obtain⟨c1,bG,dH⟩:=f.all;simp[results,results18,go_sem,s,k,d,c1,sx]
def Hm(k:Nat)(u:Value):Prop:=u=.tuple #[.N,.I 6,.agg #[.I k,.N]]
def avt{K:bJ}{o:Oper}{x:uap}{k:Int}(a:o.op=.build 45 #[(0,x)])(b:bl K x (bd k)):bA (ae prog true) N K o (KA [.I k,.N] Fa):=dM b λev w h=>by have h:ev x=.I k:=h;refine⟨.agg #[.I k,.N],w,?_,U,vaa _ _⟩;cases o;simp only at a;subst a;go_simp
def avu{o:Oper}{x y:uap}{k:Int}(a:o.op=.store 45 x y)(ev:uak){w:aL}{b:Nat}(c:ah w b #[.I 0,.N] 45)(e:ev x=.P b 0)(d:ev y=.agg #[.I k,.N]):(execOp ev o).run (ae prog true) w=.ok .skip ((w.setCell ⟨b,0,none⟩ (.I k)).setCell ⟨b,1,none⟩ (.N)):=by obtain⟨h,g,f⟩:=c.all;cases o;simp only at a;subst a;go_simp
def avv(P:300<rs.length)(hd:a.defers=[])(hn:n0<=w.heap.size)(h:af 57 (a3 ((29,qp rs)::(10,bd k)::lx n0 N D W am k)) a w):
 sg (ae prog true) Tryz.f18 (.R (ay Tryz.f18 5) (List.range' 5 5)::EH Tryz.f18) (λv w1=>Hm k v/\Below n0 w w1) a w:=by
 unfold EH OK;rw[fj (ay Tryz.f18 5)];refine yK (ks':=[.code .ret,.inBlock 2,.code (.region 10 (ay Tryz.f18 10) false),.inBlock 1,.code (.region 11 (ay Tryz.f18 11) false),.inLoop (EG Tryz.f18),.inBlock 0,.code (KL Tryz.f18)]) ?_;refine(show bO _ (.R _ (List.range' 5 (5+0))::_) _ _ _ _ from sw h LI AU λa1 w1 r d1 b1=>vA (bq (nr (bq ?_))));rw[fj (ay Tryz.f18 6)];refine c5 r (ao U Jc<|ao U (xD U U U)<|ao U KV<|rfl) λJ I f y b2=>fI (t:=false) (zW f U U) (bq ?_);rw[fj (ay Tryz.f18 8)];refine c5 f (ao U Jc<|ao U (xF U U)<|ao U (OC (n:=300) U U Jx AU)<|ao U KV<|rfl) λK H k3 x B=>fI (t:=true) (zW k3 U A2) (bq ?_);rw[fj (ay Tryz.f18 9)];refine uq (show bO _ (.R _ (List.range' 0 (4+1))::_) _ _ _ _ from sw k3 (ao U Jc<|ao U (avt U U)<|ao U (dX (F:=qq) U Jx)<|ao U (dX (F:=bd 6) U Jx)<|rfl) AU λA p b u bk=>xg ?_);have j:=b1.trans (b2.mono b1.size);have i:=j.trans (B.mono j.size);have s:=i.trans (bk.mono i.size);obtain⟨O,e,c,rfl,m,l⟩:=b.has 8 _ U;obtain⟨C,d,rfl⟩:=b.has 44 _ U;obtain⟨L,E,rfl⟩:=b.has 6 _ U;obtain⟨M,q,rfl⟩:=b.has 7 _ U;refine h7 (R:=λa' w'=>a'=A/\w'=(p.setCell ⟨c,0,none⟩ (.I k)).setCell ⟨c,1,none⟩ (.N)) (qf U U U (avu U _ l (cB e) (cB d)) ⟨U,U⟩) ?_;rintro _ dK ⟨rfl,g⟩;have o:ah dK c #[.I k,.N] 45:=by rw[g];exact(l.set _ _).set _ _
 have z:Below n0 w dK:=by rw[g];exact((s.mono hn).setCell m _).setCell m _
 refine n8 (lp (Gy (v:=.tuple #[.N,.I 6,.agg #[.I k,.N]]) (u.trans (x.trans (y.trans (d1.trans hd)))) ?_ ⟨U,z⟩));obtain⟨c1,bG,dH⟩:=o.all;simp[results,results18,go_sem,E,q,e,c1]
end
section
variable{O:gW}
def ON(F:Func):Code:=.seq (.region 10 (dD F 10) true) .ret
def KM(F:Func):Code:=(.seq (.region 0 (dD F 0) false) (.seq (.seq (.region 1 (dD F 1) false) (.block 0 (.seq (.region 2 (dD F 2) false) (.cond (.tmp 12) (.seq (.region 3 (dD F 3) true) .ret) (.seq (.region 4 (dD F 4) false) (.cond (.tmp 29) (.seq (.region 5 (dD F 5) true) .ret) (.seq (.region 6 (dD F 6) false) (.cond (.tmp 44) (.seq (.region 7 (dD F 7) true) .ret) (.seq (.region 8 (dD F 8) false) (.cond (.tmp 63) (.seq (.region 9 (dD F 9) true) .ret) .skip)))))))))) (ON F)))
theorem Va:f25.body=some (KM f25):=by kernel_rfl
def EL{N:Nat}{K:bJ}{a:Act}{w:aL}(h:af N K a w){s:Nat}{b:Bool}(e:K s=some (eN b)):a.eval (.tmp s)=.bool b:=h.ev (x:=.tmp s) (F:=eN b) e
def avx{j:Int}{iI:Int×List Int×List Int}{ts:List (List aI)}{x y:Int}{a:Act}{w:aL}(hd:a.defers=[])(hk:af 86 (a3 [(0,rp (1,j,iI)),(1,c9 1 mc ts),(3,mW x y)]) a w):
 bO (ae prog true) [.code (KM f25)] [.code (.region 10 (dD f25 10) true),.code .ret] (λa1 w1=>a1.defers=[]/\af 86 (a3 [(1,c9 1 mc ts),(4,eY oQ (1,j,iI)),(7,eY xA (x,y))]) a1 w1/\cC w w1) a w:=by
 unfold KM;refine bq ?_;rw[fj (dD f25 0)];refine c5 hk (ao U (Me U U)<|ao U (UU U U)<|ao U (dX (F:=qq) U Jx)<|ao U (dX (F:=qq) U Jx)<|rfl) λa1 w1 k d1 b1=>bq (bq ?_);rw[fj (dD f25 1)];refine c5 k (ao U (Mb U U)<|ao U J5<|rfl) λC v i q b2=>nr (bq ?_);rw[fj (dD f25 2)];refine c5 i KZ λD u k3 p r=>fI (t:=false) (EL k3 U) (bq ?_);rw[fj (dD f25 4)];refine c5 k3 KZ λE s b o bk=>fI (t:=false) (EL b U) (bq ?_);rw[fj (dD f25 6)];refine c5 b KZ λB dK h n bt=>fI (t:=false) (EL h U) (bq ?_);rw[fj (dD f25 8)];refine c5 h KZ λA z c m l=>fI (t:=false) (EL c U) (nt (vz ?_));unfold ON;have g:=b1.trans (b2.mono b1.size);have f:=g.trans (r.mono g.size);have e:=f.trans (bk.mono f.size);have d:=e.trans (bt.mono e.size);exact bq (lp ⟨m.trans (n.trans (o.trans (p.trans (q.trans (d1.trans hd))))),c.aZ ⟨U,U,U,NE⟩,d.trans (l.mono d.size)⟩)
def wO{Post:uab}{M:c7}{w:aL}{args:df}{j:Nat}{iI:Int×List Int×List Int}{ts:List (List aI)}{t:List aI}{am S W:Nat}(F:aM (b9 M) args args)(s:af 86 (a3 [(0,rp (1,j,iI)),(1,c9 1 mc ts),(3,mW W am)]) ⟨args++Array.replicate (86-args.size) undef,[]⟩ w)(C:ts[j]?=some t)(h0:0<t.length)(f:t.length<=1000000)(v:0<am)(B:am<=64)(o:0<W)(E:W<=16)(hS:S<=300)(il:t[0].dt.length=S)(c6:∀i,i<S->∀c∈t,wG i c):
 gJ O prog Post 25 args M w 1 (λu _ w'=>(qp (iA t 0 S)).R w' u/\cS M w w'):=by
 refine O2 [] (N:=86) (id:=10) (zU:=a3 [(1,c9 1 mc ts),(4,eY oQ (1,j,iI)),(7,eY xA (W,am))]) (l2:=[(8,lv (iA t 0 S)),(9,qq)]) (ops:=dD f25 10) (S:=⟨8,λ_=>false,λ_=>true,[]⟩) (dS:=qp (iA t 0 S)) qn mixed func25 Lz Va F s (jO ⟨NE,NE,NE,NE⟩) (jO ⟨NE,NE,NE,NE⟩) ⟨NE,NE,NE⟩ trivial AQ AQ AQ (λa W hd hk=>avx hd hk) AQ U U U func35 Ao U U U (by
  rw[fj (dD f25 10)];exact hq U (KH U U)<|hq U Jc<|hq U (L9 U U)<|hq U J5<|hq U (dQ U U U C AU)<|hq U (auT U U)<|hq U (auV U U)<|hq U (l4 U U AU)<|hg U (λa M w Shun l hk I=>by
   obtain⟨u1,g,r1⟩:=hk.has 75 (mW W am) U;obtain⟨u2,b,_,rfl,c,rfl,d⟩:=hk.has 82 (UT _ (OH t)) U;cases r1;rw[show(#[Operand.tmp 75,.tmp 82].map a.eval)=#[.agg #[.I W,.I am],.iface 110 (.agg #[c])]from by simp[cB g,cB b]];have hv:ar (b9 M) c c:=by
    have:=I.get _ _ _ b b;cases this with
    |iface _ k=>cases k with
     |agg _ hg=>exact hg 0 _ _ U U
   intro n h hn m f1 a1 p A r1 r cs1 D Q;exact aus l.cl l.C4 d hv h0 f v B o E hS il c6 n h hn m f1 a1 p A r1 r cs1 D λu M' w' q h P L K J H⟨x,e,R,y,z⟩=>Q u M' w' q h P L K J H ⟨⟨x,e,R,y⟩,cS.F1 z⟩)<|hq U (UW U U)<|hq U (UX U U)<|hq U KV<|hq U KV<|rfl) U ⟨U,U,NE⟩ λa W hk=>?_
 obtain⟨u1,g,r1⟩:=hk.has 8 (lv (iA t 0 S)) U;obtain⟨u2,b,d⟩:=hk.has 9 qq U;cases d;refine⟨.tuple #[u1,.N],?_,⟨_,U,r1⟩⟩;rw[(AP AQ _ _).1];simp[c3.t8,vj,results25,vdi,g,b]
def Vb(full:List a7):a5:=⟨λw v=>∃rs,UH full rs/\(lv rs).R w v,λ_ _ _ hb⟨rs,h,h'⟩=>⟨rs,h,(lv rs).h8 _ _ _ hb h'⟩,λ_=>True,λn _ ρ w w' v v' hc hv⟨rs,h,h'⟩=>⟨rs,h,(lv rs).io n trivial _ _ _ _ _ hc hv h'⟩⟩
def Hn(full:List a7):a5:=⟨λw v=>∃rs,UH full rs/\(qp rs).R w v,λ_ _ _ hb⟨rs,h,h'⟩=>⟨rs,h,(qp rs).h8 _ _ _ hb h'⟩,λ_=>True,λn _ ρ w w' v v' hc hv⟨rs,h,h'⟩=>⟨rs,h,(qp rs).io n trivial _ _ _ _ _ hc hv h'⟩⟩
section
variable{N:Nat}{K:bJ}{o:Oper}{x:uap}{full:List a7}
def avy(a:o.op=.extract x 0)(b:bl K x (Hn full)):bA (ae prog true) N K o (Vb full):=dM b λev w h=>by obtain⟨rs,c,v,e,h⟩:=h;refine⟨v,w,?_,⟨rs,c,h⟩,vaa _ _⟩;clear h;cases o;simp only at a;subst a;go_simp
def avz(a:o.op=.extract x 1)(b:bl K x (Hn full)):bA (ae prog true) N K o qq:=dM b λev w h=>by obtain⟨rs,c,v,e,h⟩:=h;refine⟨.N,w,?_,U,vaa _ _⟩;clear h;cases o;simp only at a;subst a;go_simp
end
def avA{iI:Int×Int×List Int×List Int}{D:List (List a7)}{x y:Int}{a:Act}{w:aL}(hd:a.defers=[])(hk:af 86 (a3 [(0,rp (4,iI)),(2,c9 1 rn D),(3,mW x y)]) a w):
 bO (ae prog true) [.code (KM f25)] (.code (.region 7 (dD f25 7) true):: .code .ret::[.inBlock 0,.code (ON f25)]) (λa1 w1=>a1.defers=[]/\af 86 (a3 [(2,c9 1 rn D),(4,eY oQ (4,iI)),(7,eY xA (x,y))]) a1 w1/\cC w w1) a w:=by
 unfold KM;refine bq ?_;rw[fj (dD f25 0)];refine c5 hk (ao U (Me U U)<|ao U (UU U U)<|ao U (dX (F:=qq) U Jx)<|ao U (dX (F:=qq) U Jx)<|rfl) λa1 w1 h d1 b1=>bq (bq ?_);rw[fj (dD f25 1)];refine c5 h (ao U (Mb U U)<|ao U J5<|rfl) λr p g l b2=>nr (bq ?_);rw[fj (dD f25 2)];refine c5 g KZ λs o k3 k m=>fI (t:=false) (EL k3 U) (bq ?_);rw[fj (dD f25 4)];refine c5 k3 KZ λu n b j bk=>fI (t:=false) (EL b U) (bq ?_);rw[fj (dD f25 6)];refine c5 b KZ λq dK f i bt=>fI (t:=true) (EL f U) ?_;have e:=b1.trans (b2.mono b1.size);have d:=e.trans (m.mono e.size);have c:=d.trans (bk.mono d.size);exact bq (lp ⟨i.trans (j.trans (k.trans (l.trans (d1.trans hd)))),f.aZ ⟨U,U,U,NE⟩,c.trans (bt.mono c.size)⟩)
def avB{Post:uab}{M:c7}{w:aL}{args:df}{aE on:e8}{D:List (List a7)}{rs qr:List a7}{i j am W:Nat}(R:aM (b9 M) args args)(B:af 86 (a3 [(0,rp (4,i,j,aE.map Int.ofNat,on.map Int.ofNat)),(2,c9 1 rn D),(3,mW W am)]) ⟨args++Array.replicate (86-args.size) undef,[]⟩ w)(hi:D[i]?=some rs)(J:D[j]?=some qr)(Q:∀r∈qr,∀k∈on,k<r.2.length)(P:on.length<=4)(ok:J6 aE (my on qr) rs)(C:0<am)(I:am<=64)(t:0<W)(L:W<=16)(hS:rs.length<=300)(I_:qr.length<=300):
 gJ O prog Post 25 args M w 1 (λu _ w'=>(Hn (eT aE (my on qr) rs 0 rs.length)).R w' u/\cS M w w'):=by
 refine O2 [.inBlock 0,.code (ON f25)] (N:=86) (id:=7) (zU:=a3 [(2,c9 1 rn D),(4,eY oQ (4,i,j,aE.map Int.ofNat,on.map Int.ofNat)),(7,eY xA (W,am))]) (l2:=[(8,Vb (eT aE (my on qr) rs 0 rs.length)),(9,qq)]) (ops:=dD f25 7) (S:=⟨14,λ_=>false,λ_=>true,[]⟩) (dS:=Hn (eT aE (my on qr) rs 0 rs.length)) qn mixed func25 Lz Va R B (jO ⟨NE,NE,NE,NE⟩) (jO ⟨NE,NE,NE,NE⟩) ⟨NE,NE,NE⟩ trivial AQ AQ AQ (λa W hd hk=>avA hd hk) AQ rfl rfl rfl func35 Ao rfl rfl rfl (by
  rw[fj (dD f25 7)];exact hq rfl (KH rfl rfl)<|hq rfl (UV rfl rfl)<|hq rfl Jc<|hq rfl (L9 rfl rfl)<|hq rfl J5<|hq rfl (dQ rfl rfl rfl hi AU)<|hq rfl (co rfl rfl (UY _) AU)<|hq rfl Jc<|hq rfl (auS rfl rfl)<|hq rfl J5<|hq rfl (dQ rfl rfl rfl J AU)<|hq rfl (co rfl rfl (UY _) AU)<|hq rfl (auU rfl rfl rfl rfl AX Q P)<|hq rfl (l4 rfl rfl AU)<|hg rfl (λa M w Shun p hk U=>by
   obtain⟨u1,h,r1⟩:=hk.has 46 (mW W am) rfl;obtain⟨u2,b,_,rfl,c,g,m,rfl,d,o,s⟩:=hk.has 59 (UT _ (Ml aE (my on qr) rs)) rfl;cases r1;rw[show(#[Operand.tmp 46,.tmp 59].map a.eval)=#[.agg #[.I W,.I am],.iface 106 (.agg #[c,g,.map (some m)])]from by simp[cB h,cB b]];have hv:ar (b9 M) c c/\ar (b9 M) g g/\ar (b9 M) (.map (some m)) (.map (some m)):=by
    have:=U.get _ _ _ b b;cases this with
    |iface _ k=>cases k with
     |agg _ hg=>exact⟨hg 0 _ _ rfl rfl,hg 1 _ _ rfl rfl,hg 2 _ _ rfl rfl⟩
   intro n l hn q f1 a1 y H r1 A cs1 K dr;exact auu ok p.cl p.C4 d o.1 o.2 s hv.1 hv.2.1 hv.2.2 C I t L hS n l hn q f1 a1 y H r1 A cs1 K λu M' w' z l Z Y X V T⟨x,f,aQ,e,bH,E,F⟩=>dr u M' w' z l Z Y X V T ⟨⟨f,aQ,x,e,bH,E⟩,cS.F1 F⟩)<|hq rfl (avy rfl rfl)<|hq rfl (avz rfl rfl)<|hq rfl KV<|hq rfl KV<|rfl) rfl ⟨rfl,rfl,NE⟩ λa W hk=>?_
 obtain⟨u1,h,f,v,r1⟩:=hk.has 8 (Vb (eT aE (my on qr) rs 0 rs.length)) rfl;obtain⟨u2,b,d⟩:=hk.has 9 qq rfl;cases d;refine⟨.tuple #[u1,.N],?_,⟨f,v,_,rfl,r1⟩⟩;rw[(AP AQ _ _).1];simp[c3.t8,vj,results25,vdi,h,b]
end
end bc
namespace cu
open RowKit az bc
abbrev Ho(k:Nat):Array Value:=kW 1 (k:Int) 0 none none 0 0 0
def wi(w:aL)(bT no:Nat)(op a b:Int)(ka fP:uan)(n kc cK:Nat):Prop:=∀(j:Nat) v,(kW op a b ka fP n kc cK)[j]?=some v->w.cell? (.a bT (no+j))=some v
variable{w:aL}{bT cK kc n no:Nat}{fP ka:uan}
def EM{op a b:Int}(h:wi w bT no op a b ka fP n kc cK):w.cell? (.a bT no)=some (.I op)/\w.cell? (.a bT (no+1))=some (.I a)/\w.cell? (.a bT (no+2))=some (.I b)/\w.cell? (.a bT (no+3))=some (.N)/\w.cell? (.a bT (no+4))=some (.slice ka n kc)/\w.cell? (.a bT (no+5))=some (.slice fP n cK)/\w.cell? (.a bT (no+6))=some (.N):=
 ⟨h 0 _ U,h 1 _ U,h 2 _ U,h 3 _ U,h 4 _ U,h 5 _ U,h 6 _ U⟩
variable{w':aL}
def Bx{op a b:Int}(h:wi w bT no op a b ka fP n kc cK)(hk:bp w w'):wi w' bT no op a b ka fP n kc cK:=λj v hv=>hk _ _ _ (h j v hv)
def avJ(k:Nat)(w:aL):Calls (ae prog true) 41 #[.agg (Ho k)] w λe w'=>e=.returned (.T)/\cC w w':=by
 unfold Ho kW;go_enter (bB (upd:=true) func41 AQ),ntmps41
 go_wp2
 go_ret
 exact⟨U,(vaa _ _).alloc Jb _⟩
def avK(ka fP:uan)(kc cK:Nat)(w:aL):Calls (ae prog true) 41 #[.agg (kW 4 0 1 ka fP 1 kc cK)] w λe w'=>e=.returned (.T)/\cC w w':=by
 unfold kW;go_enter (bB (upd:=true) func41 AQ),ntmps41
 go_wp2_with (go_at_call 63;refine(akn _ _ _ _).mono ?_;rintro e a ⟨rfl,rfl⟩)
 go_ret
 exact⟨U,(vaa _ _).alloc Jb _⟩
def avL{k:Nat}(d:k<2)(sb a:Nat)(b:uan)(w:aL)(h0:w.cell? (.a sb 0)=some (.slice b 2 a)):Calls (ae prog true) 40 #[.P sb 0,.agg (Ho k)] w λe w'=>e=.returned (.T)/\cC w w':=by
 unfold Ho kW;have c:=fp h0;obtain rfl|rfl:k=0\/k=1:=AX;all_goals
  go_enter (bB (upd:=true) func40 AQ),ntmps40
  go_wp2
  go_region
  go_wp2
  go_ret
  exact⟨U,((vaa _ _).alloc Jb _).drew⟩
def wx{k:Nat}(b:k<2)(sb kb kc:Nat)(w:aL)(a:w.cell? (.a sb 3)=some (.S kb 0 2 kc))(hk:w.cell? (.a kb k)=some (.F)):Calls (ae prog true) 62 #[.P sb 0,.I (k:Int)] w λe w'=>e=.returned (.T)/\w'=w:=by
 obtain rfl|rfl:k=0\/k=1:=AX;all_goals
  go_enter (bB (upd:=true) func62 AQ),ntmps62
  go_wp2
  go_ret
  simp_all
def avM(sb kb kc c cK:Nat)(ka fP:uan)(w:aL)(a:w.cell? (.a sb 3)=some (.S kb 0 2 kc))(hk:w.cell? (.a kb 0)=some (.F))(b:w.cell? (.a kb 1)=some (.F)):Calls (ae prog true) 40 #[.P sb 0,.agg (kW 4 0 1 ka fP 1 c cK)] w λe w'=>e=.returned (.T)/\cC w w':=by
 unfold kW;go_enter (bB (upd:=true) func40 AQ),ntmps40
 go_wp2_with fail
 refine(wx (k:=0) AU sb kb kc _ (rq a _) (rq hk _)).mono ?_;rintro e w' ⟨rfl,rfl⟩;go_wp2_with fail
 refine(wx (k:=1) AU sb kb kc _ (rq a _) (rq b _)).mono ?_;rintro e w' ⟨rfl,rfl⟩;go_wp2
 go_ret
 exact⟨U,(vaa _ _).alloc Jb _⟩
def wv{k:Nat}(i:k<2)(sb b bT no bK:Nat)(f:uan)(w:aL)(h0:w.cell? (.a sb 0)=some (.slice f 2 b))(p:w.cell? (.a sb 1)=some (.S bT no 3 bK))(hn:wi w bT (no+k*7) 1 (k:Int) 0 none none 0 0 0):Calls (ae prog true) 32 #[.P sb 0,.I (k:Int)] w λe w'=>e=.returned (.T)/\cC w w':=by
 obtain⟨x,d1,v,u,t,s,r⟩:=EM hn;have m:(0:Int)<=(k:Int):=AX;have n:(k:Int)<(3:Int):=AX;have l:¬(10:Int)<=(k:Int):=AX;go_enter (bB (upd:=true) func32 AQ),ntmps32
 go_wp2
 refine(avL i sb b f _ (rq h0 _)).mono ?_;rintro e w1 ⟨rfl,a⟩;have cW:=(ah.new w (Ho k) 40).call a;obtain⟨j,q,o⟩:=cW.all;have c:Hid (cC w w1):=Below.step a ((vaa _ _).alloc Jb _) Ab;clear a cW;unfold Ho kW at j;go_wp2
 refine(avJ k _).mono ?_;rintro e g ⟨rfl,d⟩;have h:Hid (cC w g):=Below.step d c.out c.out.size;clear d;go_wp2
 go_ret
 exact⟨U,h.out⟩
def avN(sb kb kc bT no bK a cK:Nat)(ka fP:uan)(w:aL)(i:w.cell? (.a sb 3)=some (.S kb 0 2 kc))(hk:w.cell? (.a kb 0)=some (.F))(g:w.cell? (.a kb 1)=some (.F))(l:w.cell? (.a sb 1)=some (.S bT no 3 bK))(hn:wi w bT (no+14) 4 0 1 ka fP 1 a cK):Calls (ae prog true) 32 #[.P sb 0,.I 2] w λe w'=>e=.returned (.T)/\cC w w':=by
 obtain⟨s,d1,r,q,p,o,n⟩:=EM hn;go_enter (bB (upd:=true) func32 AQ),ntmps32
 go_wp2
 refine(avM sb kb kc a cK ka fP _ (rq i _) (rq hk _) (rq g _)).mono ?_;rintro e w1 ⟨rfl,b⟩;have cW:=(ah.new w (kW 4 0 1 ka fP 1 a cK) 40).call b;obtain⟨j,m,k⟩:=cW.all;have c:Hid (cC w w1):=Below.step b ((vaa _ _).alloc Jb _) Ab;clear b cW;unfold kW at j;go_wp2
 refine(avK ka fP a cK _).mono ?_;rintro e f ⟨rfl,d⟩;have h:Hid (cC w f):=Below.step d c.out c.out.size;clear d;go_wp2
 go_ret
 exact⟨U,h.out⟩
variable{w0:aL}{bK bs:Nat}{ts:List (List aI)}{cQ:List (List (Int×Int))}
section
attribute [local go_sem ↓] Go.wp_at_zero Go.wp_at_succ
def wq(k:Nat)(w:aL):Calls (ae prog true) 34 #[.agg (kW 1 (k:Int) 0 none none 0 0 0)] w λe w'=>∃v,e=.returned v/\eb w' v []/\fF 3 w' v/\cC w w':=by
 unfold kW;go_enter (bB (upd:=true) func34 AQ),ntmps34
 go_wp2
 go_ret
 exact⟨_,U,a0.nil _ _ _,λ_ _ _ _ e=>by simp at e,(vaa _ _).alloc Jb _⟩
def avO(ka fP:uan)(kc cK:Nat)(w:aL):Calls (ae prog true) 34 #[.agg (kW 4 0 1 ka fP 1 kc cK)] w λe w'=>∃v,e=.returned v/\eb w' v [0,1]/\fF 3 w' v/\cC w w':=by
 unfold kW;go_enter (bB (upd:=true) func34 AQ),ntmps34
 go_wp2
 go_ret
 have cW:=ah.new (w.alloc (.cells #[.I 4,.I 0,.I 1,.N,.slice ka 1 kc,.slice fP 1 cK,.N] 40)) #[.I 0,.I 1] 3;simp at cW;exact⟨_,U,eb.box cW [0,1] 2 Ab AF,fF.box cW _ _ _,((vaa _ _).alloc Jb _).alloc Ab _⟩
def Vh{i N:Nat}{op cz b0:Int}{aE:Nat}{a d f:Value}{ns:List oY}{aU:ubs}{vals:uad}(h:Own w0 w bs a (.S bT no N bK) d f ts ns cQ aU vals)(hi:i<N)(By:N<=3)(t:cQ.length<=20/\aU.length<=20)(hn:wi w0 bT (no+i*7) op cz b0 ka fP aE kc cK){l:uae}{ch:uaz}(B:∀x∈ch,∃q:Nat,x=(q:Int)/\q<aU.length)(aHf:ch.length<=2)(A:Calls (ae prog true) 32 #[.P bs 0,.I i] w λe w'=>e=.returned (.T)/\cC w w')(oB:∀w',Own w0 w' bs a (.S bT no N bK) d f ts ns cQ aU vals->Calls (ae prog true) 33 #[.P bs 0,.agg (kW op cz b0 ka fP aE kc cK)] w' λe w''=>CR w'' e (some l)/\Below w'.heap.size w' w'')(z:∀w',Calls (ae prog true) 34 #[.agg (kW op cz b0 ka fP aE kc cK)] w' λe w''=>∃v,e=.returned v/\eb w'' v ch/\fF 3 w'' v/\Below w'.heap.size w' w''):
 Calls (ae prog true) 23 #[.P bs 0,.I i] w λe w'=>e=.returned (.I 0)/\∃OQ OR OS,Own w0 w' bs a (.S bT no N bK) OQ OR ts ns (cQ++[l]) (lH aU ch++[false]) OS:=by
 have Vi:Hid _:=t;have pP:Hid _:=hn;have HC:Hid _:=oB;have o:Hid _:=z;have avP:Hid _:=B;have Hr:Hid (Own w0 w bs a (.S bT no N bK) d f ts ns cQ aU vals):=h;have y:Hid _:=A;have ml:(0:Int)<=(i:Int):=AX;have kx:(i:Int)<(N:Int):=AX;clear hn oB z B t h A;go_enter (bB (upd:=true) func23 AQ),ntmps23
 go_wp2_with fail
 refine vcp y.out ?_;rintro e w1 ⟨rfl,b_⟩;have M:Hid (Own w0 w1 bs a (.S bT no N bK) d f ts ns cQ aU vals):=Hr.out.call b_;obtain⟨eU,gR,hh⟩:=M.out.box.all;obtain⟨d0,d1,d2,d3,d4,d5,d6⟩:=EM (Bx pP.out (bp.b7 M.out.below));clear b_ Hr y;go_wp2_with fail
 refine vcp (HC.out _ M.out) ?_;rintro e Z ⟨⟨v1,rfl,k5,Gf⟩,cG⟩;have U:Hid (Own w0 Z bs a (.S bT no N bK) d f ts ns cQ aU vals):=M.out.call cG;have L:Hid (gC Z v1 l):=k5;have K:Hid (fF 112 Z v1):=Gf;obtain⟨a1,c1,rfl,-⟩:=k5.shape;clear eU gR hh d0 d1 d2 d3 d4 d5 d6 cG k5 Gf M HC;obtain⟨eU,gR,hh⟩:=U.out.box.all;obtain⟨d0,d1,d2,d3,d4,d5,d6⟩:=EM (Bx pP.out (bp.b7 U.out.below));go_wp2_with fail
 refine vcp (o.out _) ?_;rintro e r ⟨aHg,rfl,j,J,S⟩;obtain⟨ac,cc,rfl,-⟩:=j.shape;have gK:Hid (Own w0 r bs a (.S bT no N bK) d f ts ns cQ aU vals):=U.out.call S;have Ns:Hid (gC r (.slice a1 l.length c1) l):=a0.mono pM (bp.b7 S) L.out;have I:Hid (fF 112 r (.slice a1 l.length c1)):=K.out.call S;have H:Hid (eb r (.slice ac ch.length cc) ch):=j;have F:Hid (fF 3 r (.slice ac ch.length cc)):=J;clear eU gR hh d0 d1 d2 d3 d4 d5 d6 j J S L K U o;go_wp2_with fail
 go_loopw [36] (λx W=>∃k:Nat,k<=ch.length/\x=.I k/\Own w0 W bs a (.S bT no N bK) d f ts ns cQ (lH aU (ch.take k)) vals/\eb W (.slice ac ch.length cc) ch/\fF 3 W (.slice ac ch.length cc)/\gC W (.slice a1 l.length c1) l/\fF 112 W (.slice a1 l.length c1))
  (λx _=>ch.length-(intOf x).toNat)
 case atStart=>exact⟨0,vav _,rfl,by simpa[lH]using gK.out,H.out,F.out,Ns.out,I.out⟩
 case round=>
  obtain⟨k,hk,rfl,cO,IL,O,Mt,E⟩:=hrel;have HOW:Hid (Own w0 wr bs a (.S bT no N bK) d f ts ns cQ (lH aU (ch.take k)) vals):=cO;have o:Hid (eb wr (.slice ac ch.length cc) ch):=IL;have py:Hid (fF 3 wr (.slice ac ch.length cc)):=O;have Vj:Hid (gC wr (.slice a1 l.length c1) l):=Mt;have Y:Hid (fF 112 wr (.slice a1 l.length c1)):=E;clear cO O Mt E gK H F Ns I;by_cases hlt:k<ch.length
  .obtain⟨CX,cK,TY,Nr,Ye,avQ⟩:=ints_at o.out hlt;simp at Nr;obtain⟨rfl,rfl⟩:=Nr;obtain⟨q,hq,aHh⟩:=avP.out ch[k] AF;have Tv:q<(lH aU (ch.take k)).length:=by grind[Z1]
   rw[hq]at avQ;have rT:Hid _:=hq;obtain⟨gk,D,rfl,avR,xw⟩:=World.ownsRow.form HOW.out.q1 AX;have avS:=HOW.out.take Tv;have gw:=HOW.out.box.rules.1 3;have aHi:wr.cell? (.a bs 3)=some (.S gk 0 (lH aU (ch.take k)).length D):=AF;have Sm:=Ce HOW.out.q1 q (.bool (lH aU (ch.take k))[q]) AF;obtain⟨bf,ld⟩:=aoc HOW.out.q1;have aHj:=ld.rules.2;have g:∀{T:uaa}{v:Value},fF T wr v->T≠4->∀b off n c,v=.S b off n c->(wr.setCell ⟨gk,q,none⟩ (.T)).heap[b]?=wr.heap[b]?:=by intro T v hv hT b off n c e;subst e;exact vat _ _ _ _ (hv.ne ld hT)
   have hrel':Own w0 (wr.setCell ⟨gk,q,none⟩ (.T)) bs a (.S bT no N bK) d (.S gk 0 (lH aU (ch.take k)).length D) ts ns cQ (lH aU (ch.take (k+1))) vals:=by grind[List.take_succ_eq_append_getElem,aoi]
   have avT:Hid _:=hrel';have Ga:Hid (eb (wr.setCell ⟨gk,q,none⟩ (.T)) _ ch):=o.out.qZ (g py.out AU);have avU:Hid (fF 3 (wr.setCell ⟨gk,q,none⟩ (.T)) _):=py.out.set _ _;have JC:Hid (gC (wr.setCell ⟨gk,q,none⟩ (.T)) _ l):=Vj.out.qZ (g Y.out AU);have avV:Hid (fF 112 (wr.setCell ⟨gk,q,none⟩ (.T)) _):=Y.out.set _ _;have IQ:(0:Int)<=(q:Int):=AX;have IR:(q:Int)<((lH aU (ch.take k)).length:Int):=AX;have aHk:=HOW.out.box.lt;clear gw g hrel' avS ld hq IL;go_wp2_with fail
   go_roundw
   case rel=>exact⟨k+1,AX,by go_num,avT.out,Ga.out,avU.out,JC.out,avV.out⟩
   case measure=>simp[intOf];omega
  .have IP:ch.take k=ch:=AF;have m:Hid (Own w0 wr bs a (.S bT no N bK) d f ts ns cQ (lH aU ch) vals):=AF;clear IP HOW o py IL;have cD:=m.out.box;obtain⟨O,Mg,Ch⟩:=cD.all;clear cD;have Q:Hid _:=Nk (ah.new wr #[.slice a1 l.length c1] 76);have R:Hid (∀u∈([.slice a1 l.length c1]:uad),u.oneCell'=true):=by intro u s;simp at s;subst s;rfl
   have P:Hid _:=m.out.r8.alloc (.cells #[.slice a1 l.length c1] 76);have X:Hid ((wr.alloc (.cells #[.slice a1 l.length c1] 76)).heap.size=wr.heap.size+1):=Bc;have V:Hid (w0.heap.size<=(wr.alloc (.cells #[.slice a1 l.length c1] 76)).heap.size):=by have:=m.out.below.size;grind[Hid]
   go_upto_region 12 with(at_builtin;refine Md akl _ BK _ _ BK w0.heap.size d cQ.length vals BK P.out wr.heap.size 1 1 _ BK rfl Q.out R.out AX (by have:=Vi.out;omega) (by have:=Vi.out;omega) V.out (wr.heap.size+1) X.out ?_;intro ff Vk w4 C Vl avW xV;obtain⟨Vm,avX,mh⟩:=(m.out.aog Vl).all)
   have p:Hid (Own w0 (w4.setCell ⟨bs,2,none⟩ (.S ff 0 (cQ.length+1) Vk)) bs a (.S bT no N bK) (.S ff 0 (cQ.length+1) Vk) f ts ns (cQ++[l]) (lH aU ch) (vals++[.slice a1 l.length c1])):=m.out.aod Vj.out Y.out (by have:=Vi.out;omega) C Vl;clear C Vl avW xV Vm avX mh Q R P X V Vj Y m O Mg Ch;generalize w4.setCell ⟨bs,2,none⟩ (.S ff 0 (cQ.length+1) Vk)=dK at *;obtain⟨O,Mg,Ch⟩:=p.out.box.all;have wH:(lH aU ch).length=aU.length:=Z1 _ _;have Vn:Hid ((lH aU ch).length<=20):=by grind[Hid]
   clear wH;have Q:Hid _:=Nk (ah.new dK #[.F] 4);have R:Hid (∀u∈([.F]:uad),u.oneCell'=true):=by intro u s;simp at s;subst s;rfl
   have P:Hid _:=p.out.q1.alloc (.cells #[.F] 4);have X:Hid ((dK.alloc (.cells #[.F] 4)).heap.size=dK.heap.size+1):=Bc;have V:Hid (w0.heap.size<=(dK.alloc (.cells #[.F] 4)).heap.size):=by have:=p.out.below.size;grind[Hid]
   go_wp2_with (at_builtin;refine Md Iy _ BK _ _ BK w0.heap.size f (lH aU ch).length ((lH aU ch).map .bool) BK P.out dK.heap.size 1 1 _ BK rfl Q.out R.out AX (by have:=Vn.out;omega) (by have:=Vn.out;omega) V.out (dK.heap.size+1) X.out ?_;intro jf aHl jg J3 GJ aHm xU;obtain⟨Ui,aHn,ah9⟩:=(p.out.aoh GJ).all)
   have avY:=p.out.aof (by have:=Vn.out;omega) J3 GJ;go_ret
   exact⟨rfl,_,_,_,avY⟩
end
section
attribute [local go_sem ↓] Go.wp_at_zero Go.wp_at_succ
def ru:Nat->List Bool
 |0=>[]
 |1=>[false]
 |2=>[false,false]
 | _=>[true,true,false]
def xS{d f a e:Value}{ns:List oY}{aU:ubs}{vals:uad}(h:Own w0 w bs d f a e ts ns cQ aU vals)(i:0<aU.length):∃g c,e=.S g 0 aU.length c/\(∀k b,aU[k]?=some b->w.cell? (.a g k)=some (.bool b))/\w.cell? (.a bs 3)=some (.S g 0 aU.length c)/\w.cell? (.a bs 1)=some f/\w.cell? (.a bs 0)=some d/\w.cell? (.a bs 2)=some a:=by obtain⟨g,c,rfl,-,-⟩:=World.ownsRow.form h.q1 i;have j:=h.box.rules.1;exact⟨g,c,U,λk b l=>Ce h.q1 k (.bool b) AF,AF,AF,AF,AF⟩
def avZ(bs g kc:Nat)(a:uan)(bK:Nat)(w:aL)(c:w.cell? (.a bs 1)=some (.slice a 3 bK))(b:w.cell? (.a bs 3)=some (.S g 0 3 kc))(d:w.cell? (.a g 0)=some (.T))(g1:w.cell? (.a g 1)=some (.T)):
 Calls (ae prog true) 24 #[.P bs 0] w λe w'=>e=.returned (.tuple #[.I 0,.F])/\w'=w:=by
 go_enter (bB (upd:=true) func24 AQ),ntmps24
 go_wp2
 go_loopw [17] (λx W=>W=w/\(x=.I 0\/x=.I 1\/x=.I 2)) (λx _=>2-(intOf x).toNat)
 case atStart=>grind
 case round=>
  obtain⟨rfl,rfl|rfl|rfl⟩:=hrel
  .go_wp2
   simp_all[intOf]
  .go_wp2
   simp_all[intOf]
  .go_wp2
   go_ret2
   simp_all
end
variable{iB ii kb ob:Nat}
section
attribute [local go_sem ↓] Go.wp_at_zero Go.wp_at_succ
def sy(k:Int):List oY:=[⟨1,0,0,[],[],[],[]⟩,⟨1,1,0,[],[],[],[]⟩,⟨4,0,1,[],[k],[k],[]⟩]
def OW{b o c:Nat}{k:Int}(h:w.cell? (.a b o)=some (.I k)):eb w (.S b o 1 c) [k]:=by refine⟨_,_,U,Ab,λi hi=>⟨b,o,U,?_⟩⟩;obtain rfl:i=0:=Iu;simpa[qG]using h
structure Bz(w:aL)(bT no:Nat)(k:Int)(kb ii ob iB kc cK:Nat):Prop where
 n0:wi w bT no 1 0 0 none none 0 0 0
 n1:wi w bT (no+7) 1 1 0 none none 0 0 0
 eJ:wi w bT (no+14) 4 0 1 (some (.a kb ii)) (some (.a ob iB)) 1 kc cK
 key:w.cell? (.a kb ii)=some (.I k)
 iv:w.cell? (.a ob iB)=some (.I k)
def Bz.keeps{k:Int}(h:Bz w bT no k kb ii ob iB kc cK)(hk:bp w w'):Bz w' bT no k kb ii ob iB kc cK:=⟨Bx h.n0 hk,Bx h.n1 hk,Bx h.eJ hk,hk _ _ _ h.key,hk _ _ _ h.iv⟩
def av0{k:Int}(h:Bz w bT no k kb ii ob iB kc cK):QZ w (.S bT no 3 bK) (sy k):=by
 refine⟨_,_,U,by simp[sy],λi hi=>⟨bT,no,U,?_⟩⟩;obtain rfl|rfl|rfl:i=0\/i=1\/i=2:=by simp[sy]at hi;omega
 .obtain⟨f,d1,e,d,c,b,a⟩:=EM h.n0;exact⟨_,_,_,_,by simpa[sy]using f,by simpa[sy]using d1,by simpa[sy]using e,by simpa[sy]using d,by simpa[sy]using c,by simpa[sy]using b,by simpa[sy]using a,⟨a0.nil _ _ _,a0.nil _ _ _,a0.nil _ _ _,a0.nil _ _ _⟩⟩
 .obtain⟨f,d1,e,d,c,b,a⟩:=EM h.n1;exact⟨_,_,_,_,f,d1,e,d,c,b,a,⟨a0.nil _ _ _,a0.nil _ _ _,a0.nil _ _ _,a0.nil _ _ _⟩⟩
 .obtain⟨f,d1,e,d,c,b,a⟩:=EM h.eJ;exact⟨_,_,_,_,f,d1,e,d,c,b,a,⟨a0.nil _ _ _,OW h.key,OW h.iv,a0.nil _ _ _⟩⟩
def av1(b a:List aI)(k:Int)(ty:ubp)(bu o n bT no bK kb ii ob iB kc cK:Nat)(w:aL)(OX:Ca w (.S bu o 2 n) [b,a])(Ak:mH b=true)(x8:mH a=true)(U:Bz w bT no k kb ii ob iB kc cK)(Y:sM (eL b) k=(ty,true))(X:sM (eL a) k=(ty,true))(V:(eL b).length+(eL a).length<=8):
 Calls (ae prog true) 17 #[.S bu o 2 n,.S bT no 3 bK] w λe w'=>∃g c v,e=.returned (.tuple #[.S g 0 3 c,.I 0,.I 0])/\w'.cell? (.a g 2)=some v/\gC w' v (eL b++eL a)/\cC w w':=by
 have S:b.length<=8/\a.length<=8:=by simp_all[mH]
 have hok:told (Cf (x7 [b,a]) [b,a].length)=(0,false):=by
  rw[X_ (λj hj=>by
   grind[x7])]
  rfl
 have H:Hid (Ca w (.S bu o 2 n) [b,a]):=OX;have F:Hid (Bz w bT no k kb ii ob iB kc cK):=U;have I:Hid _:=And.intro Y (And.intro X V);clear U OX Ak x8 Y X V;go_enter (bB (upd:=true) func17 AQ),ntmps17
 go_wp2_with fail
 refine(akC [b,a] _ _ H.out).mono ?_;rintro e w1 ⟨rfl,L⟩;rw[hok];have R:Hid (cC w w1):=L;have E:=bp.b7 L;have B:Hid (Own w1 (w1.alloc (.cells #[.S bu o 2 n,.S bT no 3 bK,.N,.N] 81)) w1.heap.size (.S bu o 2 n) (.S bT no 3 bK) (.N) (.N) [b,a] (sy k) [] [] []):=
  ⟨(vaa _ _).alloc Jb _,a0.mono Ir E H.out,a0.mono QY E (av0 F.out),vac _,ah.new _ _ _,vbm _ _ _ _,vbm _ _ _ _,Ab,Ab,AF⟩
 have m:Hid (Bz w1 bT no k kb ii ob iB kc cK):=F.out.keeps E;clear L E H F;go_wp2_with fail
 go_loopw [27] (λx W=>∃(i:Nat)(D J:Value)(vals:uad),i<=3/\x=.I (i:Int)/\Own w1 W w1.heap.size (.S bu o 2 n) (.S bT no 3 bK) D J [b,a] (sy k) ([eL b,eL a,eL b++eL a].take i) (ru i) vals) (λx _=>3-(intOf x).toNat)
 case atStart=>exact⟨0,_,_,_,vav _,rfl,B.out⟩
 case round=>
  clear B;obtain⟨i,D,J,vals,hi,rfl,K⟩:=hrel;have f:Hid (Own w1 wr w1.heap.size (.S bu o 2 n) (.S bT no 3 bK) D J [b,a] (sy k) ([eL b,eL a,eL b++eL a].take i) (ru i) vals):=K;have s:=K.box.rules.1;clear K;by_cases p:i<3
  .have kx:(i:Int)<(3:Int):=by omega
   have A:Calls (ae prog true) 23 #[.P w1.heap.size 0,.I i] wr λe w'=>e=.returned (.I 0)/\∃OQ OR OS,Own w1 w' w1.heap.size (.S bu o 2 n) (.S bT no 3 bK) OQ OR [b,a] (sy k) ([eL b,eL a,eL b++eL a].take (i+1)) (ru (i+1)) OS:=by
    obtain rfl|rfl|rfl:i=0\/i=1\/i=2:=AX
    .refine(Vh (i:=0) (l:=eL b) (ch:=[]) f.out p AX F_ (by simpa using m.out.n0) Ab Ab (wv (k:=0) AU _ _ _ no _ _ _ (by rw[s];rfl) (by rw[s];rfl) (Bx (by simpa using m.out.n0) (bp.b7 f.out.below))) (λw' d=>?_) (λw'=>wq 0 w')).mono ?_
     .exact ZX w1.heap.size 0 0 _ [b,a] none none none none 0 0 0 0 0 0 0 0 w' In (a0.mono Ir (bp.b7 d.below) d.yE) Ab S.1
     .rintro e w' ⟨rfl,h⟩;exact⟨rfl,by simpa[ru,lH]using h⟩
    .refine(Vh (i:=1) (l:=eL a) (ch:=[]) f.out p AX F_ (by simpa using m.out.n1) Ab Ab (wv (k:=1) AU _ _ _ no _ _ _ (by rw[s];rfl) (by rw[s];rfl) (Bx (by simpa using m.out.n1) (bp.b7 f.out.below))) (λw' d=>?_) (λw'=>wq 1 w')).mono ?_
     .exact ZX w1.heap.size 1 0 _ [b,a] none none none none 0 0 0 0 0 0 0 0 w' In (a0.mono Ir (bp.b7 d.below) d.yE) Ab S.2
     .rintro e w' ⟨rfl,h⟩;exact⟨rfl,by simpa[ru,lH]using h⟩
    .obtain⟨g,c,rfl,q,k3,C,-,Q⟩:=xS f.out F_;refine(Vh (i:=2) (l:=eL b++eL a) (ch:=[0,1]) f.out p AX F_ (by simpa using m.out.eJ) (λy T=>?_) Ab (avN _ g c bT no bK kc cK _ _ _ (by simpa[ru]using k3) (q 0 false rfl) (q 1 false rfl) C (Bx m.out.eJ (bp.b7 f.out.below))) (λw' d=>?_) (λw'=>avO _ _ kc cK w')).mono ?_
     .simp at T;rcases T with rfl|rfl
      .exact⟨0,rfl,F_⟩
      .exact⟨1,rfl,F_⟩
     .have z:=bp.b7 d.below;exact an8 w1.heap.size k ty kb ii ob iB kc cK D [eL b,eL a] w' (z _ _ _ m.out.key) (z _ _ _ m.out.iv) In d.an9.types Ab I.out.1 I.out.2.1 I.out.2.2
     .rintro e w' ⟨rfl,h⟩;exact⟨rfl,by simpa[ru,lH]using h⟩
   have u:Hid _:=A;clear A s;go_wp2_with fail
   refine vcp u.out ?_;rintro e w2 ⟨rfl,OQ,OR,OS,Z⟩;have h9:Hid _:=Z;clear Z f u;go_wp2_with fail
   go_roundw
   case rel=>exact⟨i+1,_,_,_,AX,Ab,h9.out⟩
   case measure=>simp[intOf];omega
  .obtain rfl:i=3:=by omega
   obtain⟨g,c,rfl,q,k3,C,-,Q⟩:=xS f.out F_;obtain⟨t,O,rfl,-,-⟩:=World.ownsRow.form f.out.r8 Ab;obtain⟨v2,P,r,-⟩:=f.out.each 2 Ab;have N:Hid _:=Ce f.out.r8 2 v2 P;have Ng:Hid (gC wr v2 (eL b++eL a)):=r;have M:Hid _:=avZ _ g c _ _ _ C (by simpa[ru]using k3) (q 0 true rfl) (q 1 true rfl);simp only[vdr,veq,vdo,List.length_nil,vbr,Nat.reduceAdd]at Q k3;clear q C k3 P r;go_wp2_with fail
   refine vcp M.out ?_;rintro e w2 ⟨rfl,rfl⟩;go_wp2_with fail
   refine vbw (v:=.tuple #[.S t 0 3 O,.I 0,.I 0]) (by simp[results,results17,go_sem]) rfl ⟨t,O,v2,rfl,N.out,?_,Below.step f.out.below R.out R.out.size⟩;exact Ng.out
