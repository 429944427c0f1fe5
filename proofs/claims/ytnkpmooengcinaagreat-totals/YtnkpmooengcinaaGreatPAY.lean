import Derived.Test.YtnkpmooengcinaaGreatPAV
import Derived.Test.YtnkpmooengcinaaGreatPAW
set_option linter.all false
set_option maxRecDepth 100000
set_option maxHeartbeats 16000000
namespace Go.Proofs.YtnkpmooengcinaaGreat
open Go.Proofs.Tryz
namespace bB
open Conc ConcM RowKit av bn ae ej fY eW gH cW lE dv
def sN(pv:ubb)(aU:Nat->cV)(N:Nat)(fF:c5)(w:aH)(u:Value):Prop:=
 ∃(g cap:Nat)(aq ct:uas),u=.S g 0 N cap/\(∀t,t<N->∀j,j<18->w.cell? (.a g (t*18+j))=(c3 (pv t) (.S (aq t) 0 1 (ct t)))[j]?)/\(∀t,t<N->gL w (aq t) (aU t)/\fF (aq t))/\∀s t,s<N->t<N->s≠t->aq s≠aq t
structure N9(M aD:c5)(w:aH)(most:Nat)(pv:ubb)(aU:Nat->cV)(N:Nat)(u:Value)(w':aH)(n':Nat)(a9:uan)(co:c5):Prop where
 n:n'<=most
 sub:∀b,M b->co b
 new:∀b,co b->M b\/¬aD b
 cl:eA (cm prog false) co bE w'
 val:ap (c8 co bE) u u
 mA:sN pv aU N (λb=>co b/\w.heap.size<=b) w' u
 same:∀b,aD b->w'.heap[b]?=w.heap[b]?
 sh:∀b,co b\/aD b\/w'.heap.size<=b->∀l,eT l=some b->¬a9 l
 size:w.heap.size<=w'.heap.size
 later:OsLater w.os w'.os
 output:w'.output=w.output
 tape:w'.tape=w.tape
def avb:fG prog false f110=true:=by decide+kernel
def avc{D:c5}{v v':Value}(h:ap (c8 D bE) v v')(hv:(∃a l c,v=.slice a l c)\/AW v=true):v'=v:=by
 rcases hv with⟨a,l,c,rfl⟩|hv
 .exact UA h
 .exact Ej h hv
def N_{p t:Value}(d:∃a l c,p=.slice a l c)(ht:∃a l c,t=.slice a l c)(j:Nat)(e:j<18):∃v,(c3 p t)[j]?=some v/\((∃a l c,v=.slice a l c)\/AW v=true):=by
 by_cases h0:j=0
 .subst h0;exact⟨_,U,.inl d⟩
 by_cases b:j=17
 .subst b;exact⟨_,U,.inl ht⟩
 obtain⟨v,g,-,f⟩:=Uz p t t j e h0 b;exact⟨v,g,.inr f⟩
variable{w w':aH}{aZ pv:ubb}
def zt.same{D:c5}{b N:Nat}{c i:uas}(h:zt w b N c i pv aZ)(g:Carry (c8 D bE) w w')(hd:D b)(hg:∀p,p<N->D (c p)):zt w' b N c i pv aZ:=by
 refine⟨λp a=>?_,λp a j f=>?_,h.shape⟩
 .obtain⟨v',e,d⟩:=g ⟨b,p,none⟩ ⟨b,p,none⟩ _ ⟨⟨U,hd⟩,U,U⟩ (h.list p a);rw[e,UA d]
 .obtain⟨v,k,l⟩:=N_ (h.shape p a).1 (h.shape p a).2 j f;obtain⟨v',e,d⟩:=g ⟨c p,j,none⟩ ⟨c p,j,none⟩ v ⟨⟨U,hg p a⟩,U,U⟩ ((h.cells p a j f).trans k);rw[e,avc d l,k]
def zt.keeps{b N:Nat}{c e:uas}(h:zt w b N c e pv aZ)(hk:bm w w'):zt w' b N c e pv aZ:=by refine⟨λp a=>hk _ _ _ (h.list p a),λp a j d=>?_,h.shape⟩;obtain⟨v,f,-⟩:=N_ (h.shape p a).1 (h.shape p a).2 j d;rw[f];exact hk _ _ _ ((h.cells p a j d).trans f)
def avd{S ab N n W:Nat}{rows:uas}{M aD:c5}(uR:∀b,M b->aD b)(hg:∀g,g<=prog.globals.size->M g)(bP:eA (cm prog false) M bE w)(Oa:0<N)(Jw:N<=1000)(pv:ubb)(aU:Nat->cV)(eL:∀p,p<N->∃b o n k,pv p=.S b o n k/\M b){cq:uae}{c:db}{bO:aH}{bW dh b2 n':Nat}{a9:uan}{M':c5}{D:uam}(z8:∀T v Q x,cq T v Q x->T<N->xd (cm prog false) w.heap.size M c.K (G0 (pv T)) (aU T) v Q x)(q:Aw true c aD S ab N n W rows (λ_=>false) (λ_=>undef) bW dh b2)(hI:ai en aD w bO)(l:FZ c cq (λ_=>False) bO n' a9 M' D w'){Stop:uax}{st:Nat}(hst:st=c.st):
 MG a9 Stop 110 #[.S c.cx 0 N N] (w'.setCell ⟨st,0,none⟩ (.int .i32 1))
  (λu w2=>(∃co,N9 M aD w (n+W) pv aU N u (w2.setCell ⟨st,0,none⟩ (.int .i32 0)) n' a9 co)/\(∃a n c,u=.slice a n c)/\w2.heap[st]?=(w'.setCell ⟨st,0,none⟩ (.int .i32 1)).heap[st]?/\w'.heap.size<=w2.heap.size):=by
 subst hst;have C:c.N=N:=q.a5;have FR:c.st<w'.heap.size:=l.low _ Io;have wU:(w'.setCell ⟨c.st,0,none⟩ (.int .i32 1)).heap.size=w'.heap.size:=ae.k6 _ _ _;have O:∀b,M' b->(w'.setCell ⟨c.st,0,none⟩ (.int .i32 1)).heap[b]?=w'.heap[b]?:=λb d=>k5 w' _ _ (λe=>l.I5 AN);have Dw:(w'.setCell ⟨c.st,0,none⟩ (.int .i32 1)).os=w'.os/\(w'.setCell ⟨c.st,0,none⟩ (.int .i32 1)).output=w'.output/\(w'.setCell ⟨c.st,0,none⟩ (.int .i32 1)).tape=w'.tape:=⟨rfl,rfl,rfl⟩;generalize nd:w'.setCell ⟨c.st,0,none⟩ (.int .i32 1)=w1 at *;have apc:∀b,aD b->M' b:=λb d=>l.sub b (.inr (.inl ((q.hK b).2 (.inl d))));have apd:∀b,aD b->w'.heap[b]?=w.heap[b]?:=λb d=>(l.stands b (.inl ((q.hK b).2 (.inl d)))).trans (hI.heap b (.inr d));obtain⟨ave,MA,avf,qj⟩:=l.BV;have f:∀p:Nat,∃(aq g cap ct:Nat)(G:c5),p<N->D[p]?=some (.S g 0 1 cap)/\(∀b,G b->ave p b/\M' b/\¬c.K b)/\eA (cm prog false) (λb=>M b\/G b) bE w'/\(M g\/G g)/\(∀j,j<18->w'.cell? (.a g j)=(c3 (pv p) (.S aq 0 1 ct))[j]?)/\G aq/\gL w' aq (aU p)/\w.heap.size<=aq:=by
  intro p;by_cases i:p<N
  .obtain⟨v,z,y⟩:=qj p (C▸i) (by rw[q.ji]);have Sv:=λb=>MA p b (C▸i);obtain⟨aq,G,g1,g2,jb,⟨g,cap,ct,rfl,rn⟩,aap,Uw,avg⟩:=z8 _ _ _ _ y i;refine⟨aq,g,cap,ct,G,λ_=>⟨z,λb d=>⟨(g1 b d).1,Sv b (g1 b d).1,(g1 b d).2⟩,g2,?_,rn,aap,Uw,avg⟩⟩;cases jb with|slice _ _ r=>exact r.1.2
  .exact⟨0,0,0,0,bE,λh=>absurd h i⟩
 obtain⟨aq,f⟩:=vbj.1 f;obtain⟨nz,f⟩:=vbj.1 f;obtain⟨e8,f⟩:=vbj.1 f;obtain⟨ct,f⟩:=vbj.1 f;obtain⟨G,f⟩:=vbj.1 f;let m:Nat->Prop:=λb=>M b\/b=c.cx\/∃p,p<N/\G p b
 have B:∀b,m b->M' b:=by
  rintro b (h|h|⟨p,i,h⟩)
  .grind
  .exact l.sub b (.inr (.inr h))
  .exact((f p i).2.1 b h).2.1
 have X:∀p,p<N->∀b,M b\/G p b->m b:=by grind
 have Jc:eA (cm prog false) m bE w1:=by
  intro b d;rw[O b (B b d)];rcases d with h|h|⟨p,i,h⟩
  .obtain⟨o,z,y⟩:=bP b h;exact⟨o,AN,y.imp (g3.mono (Ja AN)) id⟩
  .subst h;refine⟨_,l.done,.inl (.cells _ (kO λv hv=>?_) AN)⟩;obtain⟨p,i,rfl⟩:=List.getElem_of_mem hv;have oE:p<N:=by rw[<-C,<-l.len];exact i
   have:=f p oE;rw[vas i]at this;have e:=vbq this.1;rw[e];exact .slice _ _ ⟨⟨rfl,X p oE _ this.2.2.2.1⟩,rfl,rfl⟩
  .obtain⟨o,z,y⟩:=(f p i).2.2.1 b (.inr h);exact⟨o,z,y.imp (g3.mono (Ja (X p i))) id⟩
 have dD:aL (c8 m bE) #[Value.slice (some (.a c.cx 0)) N N] #[Value.slice (some (.a c.cx 0)) N N]:=.one (.slice _ _ ⟨⟨rfl,.inr Ij⟩,rfl,rfl⟩);have wx:m c.cx:=.inr Ij;have Sw:zt w1 c.cx N nz e8 pv (λp=>.S (aq p) 0 1 (ct p)):=by
  refine⟨λp i=>?_,λp i j H=>?_,λp i=>⟨?_,⟨_,_,_,rfl⟩⟩⟩
  .have z:=(f p i).1;have y:w1.heap[c.cx]?=some (.cells D.toArray c.BN):=(O _ (B _ wx)).trans l.done;simp_all[World.cell?]
  .exact(vam (O _ (B _ (X p i _ (f p i).2.2.2.1)))).trans ((f p i).2.2.2.2.1 j H)
  .obtain⟨b,o,n,k,e,-⟩:=eL p i;exact⟨_,_,_,e⟩
 obtain⟨L,aB⟩:=EI (cm prog false) m bE w1;intro FL J Dl FM FN E FO hk;have Sx:∀T,Calls (aa prog false) 110 #[Value.slice (some (.a c.cx 0)) N N] {L with tape:=T} (λe I=>∃v,e=.returned v/\I.ownsRow L.heap.size 138 18 v N (uf pv (λp=>.S (aq p) 0 1 (ct p)) N)):=λT=>
  (au_ {L with tape:=T} ((Sw.same (aB.carry Jc) wx (λp i=>X p i _ (f p i).2.2.2.1)).keeps (Ak L T)) Jw).mono AN
 have qZ:=Qd jQ func110 avb rfl AT Jc AN AN dD (R:=λv I=>I.ownsRow L.heap.size 138 18 v N (uf pv (λp=>.S (aq p) 0 1 (ct p)) N)) aB Sx true (FL.at J (.R Dl (FM::FN)::E)) FO;refine Ln qZ rfl (λb d=>?_) (λb d=>?_) ?_
 .rcases d with h|h
  .rw[wU];exact l.low b AN
  .exact h.elim
 .rcases d with h|h|h
  .exact l.qE b AN
  .exact h.elim
  .exact l.qE b AN
 rintro Y ⟨ρ,I,v,v',A⟩ F;rw[A.g,vcc];obtain⟨ape,P⟩:=A.world;have kn:∀b,Y.mine b->w1.heap.size<=b/\b<Y.w.heap.size:=λb d=>(F.new b d).resolve_left λh=>h.elim;have Z:∀b,(∃a,ρ.rel a b)->m b\/w1.heap.size<=b:=by
  rintro b ⟨a,eg⟩;rcases A.dom a b eg with h|h
  .grind
  grind
 have Mo:∀b,b<w1.heap.size->Y.w.heap[b]?=w1.heap[b]?:=λb d=>F.kept b d λh=>h.elim;have apf:¬ ∃a,ρ.rel a c.st:=λh=>by
  rcases Z _ h with h|h
  .exact l.I5 (B _ h)
  .omega
 have F6:∀b,(∃a,ρ.rel a b)->(Y.w.setCell ⟨c.st,0,none⟩ (.int .i32 0)).heap[b]?=Y.w.heap[b]?:=λb d=>k5 _ _ _ AN;have MU:=P.closed bE;have F7:ap (c8 (λb=>∃a,ρ.rel a b) bE) v' v':=ap.right (σ:=c8 (λb=>∃a,ρ.rel a b) bE) (λa b eg=>⟨rfl,a,eg⟩) A.val;have Sy:w'.heap.size<=Y.w.heap.size:=AN;have apg:w.heap.size<=w'.heap.size:=vac hI.size l.size;have aph:(Y.w.setCell ⟨c.st,0,none⟩ (.int .i32 0)).heap.size=Y.w.heap.size:=ae.k6 _ _ _;have V:∀b,m b->ρ.rel b b:=λb d=>A.le.1 b b ⟨rfl,d⟩;have K:sN pv aU N (λb=>(∃a,ρ.rel a b)/\w.heap.size<=b) (Y.w.setCell ⟨c.st,0,none⟩ (.int .i32 0)) v':=by
  have UH:=A.post;obtain⟨g,cap,hv⟩:∃g cap,v=.S g 0 N cap:=by
   rcases UH.2 with⟨-,h⟩|⟨g,cap,bc,e,-⟩
   .omega
   .exact⟨g,cap,e⟩
  have hval:=A.val;rw[hv]at UH hval;obtain⟨g',rfl,Ae⟩:=GY hval;refine⟨g',cap,aq,ct,rfl,λt ht j H=>?_,λt ht=>?_,λs t hs ht hst e=>?_⟩
  .obtain⟨b,o,n,k,e,d⟩:=eL t ht;have yb:∀j,j<18->I.cell? (.a g (t*18+j))=(c3 (.S b o n k) (.S (aq t) 0 1 (ct t)))[j]?:=λj H=>by rw[Ke UH _ (by rw[UG];omega),au9 _ _ ht H,e]
   obtain⟨fi,r1,r2⟩:=Kh P.one P.carry Ae (V b (.inl d)) yb;have e2:=P.one _ _ _ r1 (V (aq t) (.inr (.inr ⟨t,ht,(f t ht).2.2.2.2.2.1⟩)));rw[e,vam (F6 g' ⟨g,Ae⟩),r2 j H,e2]
  .have avh:=(f t ht).2.2.2.2.2.1;have U:m (aq t):=.inr (.inr ⟨t,ht,avh⟩);refine⟨(f t ht).2.2.2.2.2.2.1.same ?_,⟨_,V _ U⟩,(f t ht).2.2.2.2.2.2.2⟩;rw[F6 _ ⟨_,V _ U⟩,Mo _ (by rw[wU];exact l.low _ (.inl (B _ U))),O _ (B _ U)]
  .have z:=((f s hs).2.1 _ (f s hs).2.2.2.2.2.1).1;have y:=((f t ht).2.1 _ (f t ht).2.2.2.2.2.1).1;rw[e]at z;exact avf s t _ (C▸hs) (C▸ht) hst z y
 refine hk v' Y.w ⟨⟨λb=>∃a,ρ.rel a b,⟨?_,λb d=>⟨b,A.le.1 b b ⟨rfl,.inl d⟩⟩,λb d=>?_,mS MU F6,F7,K,λb d=>?_,λb d=>?_,?_,?_,?_,?_⟩⟩,?_,?_,Sy⟩
 .rw[<-q.eR];exact l.n
 .rcases Z b d with h|h
  .rcases h with h|h|⟨p,i,h⟩
   .grind
   .exact .inr λx=>(c.uz b ((q.hK b).2 (.inl x))).2.2 h
   .exact .inr λx=>((f p i).2.1 b h).2.2 ((q.hK b).2 (.inl x))
  .exact .inr λx=>by have:=l.low b AN;omega
 .have hlt:b<w1.heap.size:=by rw[wU];exact l.low b AN
  have hne:b≠c.st:=(c.uz b ((q.hK b).2 (.inl d))).1;grind[k5]
 .rcases d with h|h|h
  .rcases Z b h with h|h
   .exact l.qE b (.inl (B b h))
   .exact l.qE b AN
  .exact l.qE b AN
  .exact l.qE b AN
 .omega
 .exact(hI.later.trans l.os).trans (by have:=F.os;rw[show(Y.w.setCell ⟨c.st,0,none⟩ (.int .i32 0)).os=Y.w.os from rfl,<-Dw.1];grind)
 .exact(show Y.w.output=_ from F.output).trans (Dw.2.1.trans (l.output.trans hI.output))
 .exact(show Y.w.tape=_ from F.tape).trans (Dw.2.2.trans (l.tape.trans hI.tape))
 .obtain⟨g,cap,_,_,e,_⟩:=K;exact⟨_,_,_,e⟩
 grind
end bB
namespace bj
open Conc ConcM RowKit av bn ae ej fY eW gH cW lE dv bB
section
variable{O:gp}
def avi{M aD:c5}{w:aH}{most:Nat}{pv:ubb}{aU:Nat->cV}{N:Nat}{u:Value}{w':aH}{a:Nat}{c:uan}{b:c5}(h:N9 M aD w most pv aU N u w' a c b)(k:Nat):N9 M aD w most pv aU N u (w'.at k) a c b:=
 ⟨h.n,h.sub,h.new,h.cl,h.val,h.mA,h.same,h.sh,h.size,h.later,h.output,h.tape⟩
def avj(M:c5)(w:aH)(pv:ubb)(aU:Nat->cV)(N:Nat)(u:Value)(M':c5)(w':aH):Prop:=
 ∃v,u=.tuple #[v,.N]/\sN pv aU N (λb=>M' b/\w.heap.size<=b) w' v/\∀b,M b->w'.heap[b]?=w.heap[b]?
theorem H2:∀N,ej.iY (λ_=>1) N=N
 |0=>rfl
 |N+1=>by rw[ej.iY,H2 N]
def avk{Post:fE}{M:c5}{w:aH}{op a:Int}{xs:uay}{vs:Nat->dM}{z dV cc aA aR gc ab W:Nat}(a0:eA (cJ prog) M (gT M) w)(C:∀g,g<=prog.globals.size->M g)(X:ue w xs vs z dV aA aR)(J:M z)(H:M aA)(E:xs.length<=cc)(U:∀i,jf (vs i).num)(R:ap (bU M) (eP op a (some (.a aA aR)) 1 gc (.S z dV xs.length cc)) (eP op a (some (.a aA aR)) 1 gc (.S z dV xs.length cc)))(P:∀i(h:i<xs.length),∃b o n k,xs[i].1=.S b o n k/\M b)(h0:0<xs.length)(hS:xs.length<=300)(F:0<ab)(hm:ab<=64)(Z:0<W)(hW:W<=16)(hok:∀fr dG,fr<dG->dG<=xs.length->G1 (λk=>lG (vs (fr+k))) (dG-fr)):
 eb O prog Post 48 #[.agg #[.I (W:Int),.I (ab:Int)],.iface 140 (eP op a (some (.a aA aR)) 1 gc (.S z dV xs.length cc))] M w 1
  (avj M w (λT=>m_ xs (T*ab)) (λT=>sM vs (T*ab) (min (T*ab+ab) xs.length)) ((xs.length+ab-1) / ab)):=by
 intro n Shun hn f eC aF az aI aK aG csZ hc c0;have A:eA (cm prog false) M bE w:=Ax a0;have I:(λb=>M b\/bE b)=M:=by
  funext b
  exact propext ⟨λh=>h.resolve_right λx=>x,.inl⟩
 obtain⟨dR,B⟩:=MW (S:=xs.length) F;generalize a5:(xs.length+ab-1) / ab=N at *;have LV:N<=xs.length:=by
  have:∀k,k<=N->k<=xs.length:=by intro k hk;cases k with|zero=>grind|succ k=>have:=B k hk;have h2:=Nat.le_mul_of_pos_right k F;omega
  grind
 have Oa:0<N:=by
  rcases vbh N with h|h
  .rw[h]at dR;omega
  .exact h
 have Ki:∀p,p<N->∃b o n k,m_ xs (p*ab)=.S b o n k/\M b:=λp hp=>by have L:=B p hp;obtain⟨b,o,n,k,e,d⟩:=P (p*ab) L;refine⟨b,o,n,k,?_,d⟩;unfold m_;rw[vcu,vas L];exact e
 refine MD true (iM:=202) (rows:=λ_=>1) (aD:=λb=>M b\/b<O.n) (lR:=λc T u M' w'=>T<c.N/\xd (cm prog false) w.heap.size M c.K (GV (m_ xs (T*ab))) (sM vs (T*ab) (min (T*ab+ab) xs.length)) u M' w') (cq:=λc T v M' w'=>T<c.N/\xd (cm prog false) w.heap.size M c.K (G0 (m_ xs (T*ab))) (sM vs (T*ab) (min (T*ab+ab) xs.length)) v M' w') F hm Z hW AY a5.symm AY (by rw[H2];omega) (λb d=>d.elim f.lt λx=>van x f.ob) (λb d=>d.elim (λx=>x.elim (λy=>f.sh b (.inl y)) (f.so b)) λx=>f.sh b (.inr x)) (amp op a _ 1 gc _)
  (λST bs ic=>aml (M:=M) (λb d=>.inl d) C A (y2 R) ic)
  (λc bO Stop bW dh b2 j hI=>?_)
  (V:=λu w' l q=>∃s,N9 M (λb=>M b\/b<O.n) w (n+W) (λT=>m_ xs (T*ab)) (λT=>sM vs (T*ab) (min (T*ab+ab) xs.length)) N u w' l q s) (λu w' l q k h=>by obtain⟨s,h⟩:=h;exact⟨s,avi h k⟩) (λc bO bW dh b2 l q M' D w' st j hI bx hst=>?_) (λu w' l q hv=>?_)
 .have r:∀b,M b->bO.heap[b]?=w.heap[b]?:=λb d=>hI.1 b (.inl d);have Y:=mS A r;refine auS (a2:=M) hI.2 (λb d=>(j.hK b).2 (.inl (.inl d))) C (by rw[I];exact Y) (ue.same X A (py r A) J H) J H E AY U (λT=>by rw[j.ji]) (by rw[I];exact y2 R) (amo op a _ 1 gc _) P (λT m=>?_) (λT m=>?_) (λT m=>j.lB T (j.a5▸m))
  .have:=B T (j.a5▸m);omega
  .have:=B T (j.a5▸m);exact hok _ _ AY AY
 .exact avd (Stop:=ca prog Post l q) (λb d=>.inl d) C A Oa AY _ _ Ki (λT v Q w h m=>h.2) j hI bx hst
 .obtain⟨s,h⟩:=hv;obtain⟨g,cap,aq,ct,e1,e2,e3,e4⟩:=h.mA;refine c0 (.tuple #[u,.N]) s w' l q (by have:=h.n;omega) ⟨Ax h.cl,λg hg=>h.sub g (C g hg),λb d=>h.sh b (d.imp id .inr),λb d h0=>(h.new b d).elim (λx=>f.new b x h0) AN,vac f.ob h.size,λb h0 d=>(h.same b (.inr d)).trans (f.old b h0 d),λb d=>h.sh b AN⟩ h.sub (.A2 (kO λx K=>?_)) ⟨h.size,h.later,h.output,h.tape⟩ ⟨u,rfl,⟨g,cap,aq,ct,e1,e2,λt ht=>e3 t ht,e4⟩,λb d=>h.same b (.inl d)⟩;simp at K;rcases K with rfl|rfl
  .exact y2 h.val
  .exact .h7 _ _
end
section
variable{O:gp}
section
variable{Post:fE}{M:c5}{w:aH}
def avt:(λb=>M b\/bE b)=M:=by
 funext b
 exact propext ⟨λh=>h.resolve_right λx=>x,.inl⟩
def me{ab:Nat}(a:0<ab):(1+ab-1) / ab=1:=by simp_all
variable{op a:Int}{gc cap aA aR g aq ct bD b7 b3:Nat}{ef:Int}{t:cV}
def l4(i:eA (cm prog false) M bE w)(n:∀g,g<=prog.globals.size->M g)(ht:ky t.sum)(j:1<=cap)(q:(cn 2 t).text.size<=9223372036854775807)(k:na w aA aR g aq ct bD b7 b3 ef t)(h:M aA)(f:M g)(e:M aq)(d:M bD){ab:Nat}(s:0<ab){c:db}{bO:aH}{Stop:Bool->ae.Lo At->aV->Prop}(hK:∀b,M b->c.K b)(a5:c.N=1)(hI:∀b,M b->bO.heap[b]?=w.heap[b]?)(ji:∀T,c.bad T= !iT 2 t)(y0:∀T,c.bad T=true->c.place T=.S bD b7 1 b3)(lB:∀T,T<c.N->c.rows T=if c.bad T then 0 else 1)(l:∀T,c.bad T=true->c.least=.N):
 q8 c bO prog Stop 103 (.iface 146 (eP op a (some (.a aA aR)) 1 gc (.S g 0 1 cap))) 209 (eP op a (some (.a aA aR)) 1 gc (.S g 0 1 cap)) (λT=>T*ab) (λT=>min (T*ab+ab) 1)
  (λT u M' w=>lS (cm prog false) M c.K (zs op a gc cap aA aR g aq ct bD b7 b3 ef t) u M' w) (λT v M' w=>lS (cm prog false) M c.K (λw v=>T<c.N/\jl w v [([ef],[cn 2 t])]) v M' w):=by
 have r:eA (cm prog false) M bE bO:=mS i hI;refine au4 (a2:=M) hK n (by rw[avt];grind) ht j q (k.carry (a2:=M) (ρ:=c8 M bE) (λb m=>⟨U,m⟩) (λa b x p o=>p.1.symm.trans o.1) (py hI i) h f e d) h f e d (amq op a _ 1 gc _) a5 Ab AN ji y0 lB l
def lZ(d:M aA)(c:M g):ap (c8 M bE) (eP op a (some (.a aA aR)) 1 gc (.S g 0 1 cap)) (eP op a (some (.a aA aR)) 1 gc (.S g 0 1 cap)):=by
 refine .qU (kO λv b=>?_);simp at b;rcases b with rfl|rfl|rfl|rfl|rfl|rfl
 .exact .int _ _
 .exact .int _ _
 .exact .int _ _
 .exact .h7 _ _
 .exact .slice _ _ ⟨⟨U,d⟩,U,U⟩
 .exact .slice _ _ ⟨⟨U,c⟩,U,U⟩
def avu(y:eA (cJ prog) M (gT M) w)(d:∀g,g<=prog.globals.size->M g)(ht:ky t.sum)(k:1<=cap)(z:(cn 2 t).text.size<=9223372036854775807)(l:na w aA aR g aq ct bD b7 b3 ef t)(j:M aA)(i:M g)(o:M aq)(n:M bD){ab W:Nat}(e:0<ab)(q:ab<=64)(m:0<W)(s:W<=16)(B:iT 2 t=true):
 eb O prog Post 28 #[.agg #[.I (W:Int),.I (ab:Int)],.iface 146 (eP op a (some (.a aA aR)) 1 gc (.S g 0 1 cap))] M w 1 (SA M w [([ef],[cn 2 t])]):=by
 have f:eA (cm prog false) M bE w:=Ax y;have x:([([ef],[cn 2 t])]:List dg)=cut (λ_=>([ef],[cn 2 t])) 0 1:=rfl;rw[x];refine L1 (S:=1) (iM:=209) (lR:=λc T u M' w=>lS (cm prog false) M c.K (zs op a gc cap aA aR g aq ct bD b7 b3 ef t) u M' w) (g:=cut (λ_=>([ef],[cn 2 t]))) (Mn _) e q m s AX (N:=1) (me e).symm (YQ op a _ 1 gc _) d f (λST bs p=>YP (M:=M) (λb r=>.inl r) d f (lZ j i) p) (λc bO Stop hK a5 lB C hI=>?_);have D:∀T,T<1->cut (λ_=>(([ef],[cn 2 t]):dg)) (T*ab) (min (T*ab+ab) 1)=[([ef],[cn 2 t])]:=λT v=>by grind
 have A:=l4 (op:=op) (a:=a) (gc:=gc) (Stop:=Stop) f d ht k z l j i o n e hK a5 hI (λT=>AN) (λT h=>AN) (λT v=>AN) (λT h=>AN);grind
def avv(M:c5)(w:aH)(p:Int)(u:Value)(_:c5)(w':aH):Prop:=
 ∃v,u=.tuple #[.N,v]/\jB w' v [p]/\∀b,M b->w'.heap[b]?=w.heap[b]?
def avw(Q:eA (cJ prog) M (gT M) w)(j:∀g,g<=prog.globals.size->M g)(ht:ky t.sum)(z:1<=cap)(R:(cn 2 t).text.size<=9223372036854775807)(o:na w aA aR g aq ct bD b7 b3 ef t)(r:M aA)(p:M g)(D:M aq)(i:M bD){ab W:Nat}(l:0<ab)(F:ab<=64)(C:0<W)(J:W<=16)(I:iT 2 t=false):
 eb O prog Post 28 #[.agg #[.I (W:Int),.I (ab:Int)],.iface 146 (eP op a (some (.a aA aR)) 1 gc (.S g 0 1 cap))] M w 1 (avv M w ef):=by
 intro n Shun hn f V aF az aI aK U csZ L K;have m:eA (cm prog false) M bE w:=Ax Q;refine avr (iM:=209) (rows:=λT=>0) (bad:=λT=>true) (place:=λT=>.S bD b7 1 b3) (aD:=λb=>M b\/b<O.n) (S:=1) (N:=1)
  (lR:=λc T u M' w=>lS (cm prog false) M c.K (zs op a gc cap aA aR g aq ct bD b7 b3 ef t) u M' w) (cq:=λc T v M' w=>lS (cm prog false) M c.K (λw v=>T<c.N/\jl w v [([ef],[cn 2 t])]) v M' w)
  l F C J AY (me l).symm AY (by simp[ej.iY]) (λb d=>d.elim f.lt λx=>van x f.ob) (λb d=>d.elim (λx=>x.elim (λy=>f.sh b (.inl y)) (f.so b)) λx=>f.sh b (.inr x)) (YQ op a _ 1 gc _)
  (λST bs E=>YP (M:=M) (λb d=>.inl d) j m (lZ r p) E) (λc bO Stop Y X Z e hI=>?_) (λT k d=>⟨bD,b7,1,b3,rfl⟩) ⟨0,AX,rfl⟩ (λw' B P T k d H hF=>?_)
 .exact l4 m j ht z R o r p D i l (λb d=>(e.hK b).2 (.inl (.inl d))) e.a5 (λb d=>hI.1 b (.inl d)) (λT=>by rw[e.ji,I];rfl) (λT _=>by rw[e.y0]) (λT k=>by rw[e.lB T (e.a5▸k),e.ji];rfl) (λT _=>e.MJ)
 .refine K (.tuple #[.N,.S bD b7 1 b3]) M w' B P (by have:=hF.n;omega) ⟨Ax (mS m λb d=>hF.same b (.inl d)),j,λb d=>hF.sh b (d.imp .inl id),f.new,vac f.ob hF.size,λb h0 d=>(hF.same b (.inr d)).trans (f.old b h0 d),λb d=>hF.sh b (.inl (.inr d))⟩ (λ_ h=>h) (.A2 (kO λx s=>?_)) ⟨hF.size,hF.later,hF.output,hF.tape⟩ ⟨_,rfl,⟨_,_,rfl,Ab,λq hq=>?_⟩,λb d=>hF.same b (.inl d)⟩
  .simp at s;rcases s with rfl|rfl
   .exact .h7 _ _
   .exact .slice _ _ ⟨⟨rfl,i⟩,rfl,rfl⟩
  .obtain rfl:q=0:=by grind
   refine⟨bD,b7,rfl,?_⟩;have A:w'.cell? (.a bD b7)=w.cell? (.a bD b7):=by simp[World.cell?,hF.same bD (.inl i)]
   simpa[q9]using A.trans o.place
end
end
end bj
namespace bj
open Conc ConcM RowKit av bn cW dv bB cv iD
def G3(aD:c5)(n0:Nat)(R:uaz):Prop:=∀ρ w w' v v',tD n0 ρ w w'->(∀b,aD b->ρ.rel b b)->(∀a b b',ρ.rel a b->ρ.rel a b'->b=b')->ap ρ v v'->R w v->R w' v'
variable{t:cV}
def gL.avx{n0:Nat}{ρ:Ren}{w w':aH}(c:tD n0 ρ w w'){b a:Nat}(r:ρ.rel b a)(h:gL w b t):gL w' a t:=by
 obtain⟨⟨fr,f⟩,k⟩:=id h;obtain⟨g,d,j⟩:=c.types _ _ _ _ _ r f;have e:g=dB t:=by
  apply vch;intro i;by_cases hi:i<(dB t).size
  .have e:=vak hi;obtain⟨u,m,l⟩:=c.cells ⟨b,i,none⟩ ⟨a,i,none⟩ _ ⟨r,U,U⟩ ((h.cell i).trans e);grind[Ej,N7,World.cell?]
  grind
 subst e;refine⟨⟨fr,d⟩,λo=>?_⟩;grind[World.frozen?]
section
variable{aD:c5}{n0:Nat}
def Od{pv:ubb}{aU:Nat->cV}{N:Nat}(p:∀t,t<N->∃b o n k,pv t=.S b o n k/\aD b):G3 aD n0 (sN pv aU N (λb=>n0<=b)):=by
 rintro ρ w w' v v' c i m hv ⟨g,cap,aq,ct,rfl,hcell,f,d⟩;obtain⟨g',rfl,hg⟩:=GY hv;have key:∀t,∃a,t<N->ρ.rel (aq t) a/\∀j,j<18->w'.cell? (.a g' (t*18+j))=(c3 (pv t) (.S a 0 1 (ct t)))[j]?:=by
  intro t;by_cases ht:t<N
  .obtain⟨b,o,n,k,e,l⟩:=p t ht;have hcell:=hcell t ht;rw[e]at hcell⊢;obtain⟨a,r1,q⟩:=Kh m c.cells hg (i b l) hcell;grind
  .exact⟨0,λh=>absurd h ht⟩
 obtain⟨a,key⟩:=vbj.1 key;exact⟨g',cap,a,ct,U,λt ht=>(key t ht).2,λt ht=>⟨gL.avx c (key t ht).1 (f t ht).1,c.new _ _ (key t ht).1 (f t ht).2⟩,λs t hs ht hst e=>d s t hs ht hst (c.inj _ _ _ (key s hs).1 AN)⟩
def UJ{pv:ubb}{aU:Nat->cV}{N:Nat}{fF:c5}{w w':aH}{v:Value}(i:cC w w')(h:sN pv aU N fF w v)(k:∀t,t<N->∃a l c,pv t=.slice a l c):sN pv aU N fF w' v:=by obtain⟨g,cap,aq,ct,rfl,hcell,b,d⟩:=h;refine⟨g,cap,aq,ct,U,λt ht j f=>?_,λt ht=>⟨(b t ht).1.same (i.block _ (b t ht).1.lt),(b t ht).2⟩,d⟩;obtain⟨v,e,-⟩:=N_ (k t ht) ⟨_,_,_,U⟩ j f;rw[e];exact bm.b4 i _ _ _ ((hcell t ht j f).trans e)
def UK{ρ:Ren}{w w':aH}(k:tD n0 ρ w w')(n:∀b,aD b->ρ.rel b b)(s:∀a b o,ρ.rel a b->ρ.rel a o->b=o){aA aR g g' aq ct bD b7 b3:Nat}{ef:Int}(hg:ρ.rel g g')(l:aD aA)(p:aD bD)(h:na w aA aR g aq ct bD b7 b3 ef t):∃c,na w' aA aR g' c ct bD b7 b3 ef t:=by
 obtain⟨c,r1,x⟩:=Kh (d:=0) s k.cells hg (n bD p) (by simpa using h.zr);have f:∀(b d:Nat)(z:Int),aD b->w.cell? (.a b d)=some (.I z)->w'.cell? (.a b d)=some (.I z):=λb d z r q=>by obtain⟨v',v,u⟩:=k.cells ⟨b,d,none⟩ ⟨b,d,none⟩ _ ⟨n b r,U,U⟩ q;grind[d9]
 refine⟨c,f _ _ _ l h.kind,f _ _ _ l h.jK,λj m=>?_,AN,f _ _ _ p h.place⟩;have i:j<(dB t).size:=m;have e:=vak i;obtain⟨v',v,u⟩:=k.cells ⟨aq,j,none⟩ ⟨c,j,none⟩ _ ⟨r1,U,U⟩ ((h.l_ j m).trans e);grind[Ej,N7]
def UL{w w':aH}(d:cC w w'){aA aR g aq ct bD b7 b3:Nat}{ef:Int}(h:na w aA aR g aq ct bD b7 b3 ef t):na w' aA aR g aq ct bD b7 b3 ef t:=by
 have c:=bm.b4 d;refine⟨c _ _ _ h.kind,c _ _ _ h.jK,λj b=>?_,λj b=>?_,c _ _ _ h.place⟩
 .have a:j<(dB t).size:=b;rw[vak a];exact c _ _ _ ((h.l_ j b).trans (vak a))
 .obtain⟨v,e,-⟩:=N_ (p:=.S bD b7 1 b3) (t:=.S aq 0 1 ct) ⟨_,_,_,U⟩ ⟨_,_,_,U⟩ j b;rw[e];exact c _ _ _ ((h.zr j b).trans e)
end
structure GP where
 op:Int
 a:Int
 aA:Nat
 aR:Nat
 gc:Nat
 bD:Nat
 b7:Nat
 b3:Nat
 ef:Int
 W:Nat
 ab:Nat
 pv:Nat->Value
 aU:Nat->cV
 N:Nat
 n0:Nat
 cp:bg
 je:bg
 kh:bg
abbrev GP.gF(c:GP):Array Value:=fR c.op c.a (some (.a c.aA c.aR)) 1 c.gc
def GP.jF(c:GP):cV:=lf c.aU (c.N-1)
abbrev GP.G4(c:GP)(g cap:Nat):Value:=eP c.op c.a (some (.a c.aA c.aR)) 1 c.gc (.S g 0 1 cap)
def GP.dU(c:GP)(w:aH)(g:Nat):Prop:=∃aq ct,na w c.aA c.aR g aq ct c.bD c.b7 c.b3 c.ef c.jF
def GP.R(c:GP):Nat->aH->Value->Prop
 |0,_,v=>v=.agg #[.I (c.W:Int),.I (c.ab:Int)]
 |1,_,v=>v=.agg c.gF
 |2,w,v=>sN c.pv c.aU c.N (λb=>c.n0<=b) w v
 |3,w,v=>∃bI u,v=.func (.func 89) #[] #[.P bI 0]/\w.cell? (.a bI 0)=some u/\sN c.pv c.aU c.N (λb=>c.n0<=b) w u
 |4,w,v=>∃g cap,v=.S g 0 1 cap/\1<=cap/\c.dU w g
 |5,w,v=>∃g cap,v=c.G4 g cap/\1<=cap/\c.dU w g
 |6,w,v=>∃g cap,v=.iface 146 (c.G4 g cap)/\1<=cap/\c.dU w g
 |7,w,v=>c.cp.R w v
 |8,w,v=>c.je.R w v
 |9,w,v=>c.kh.R w v
 |10,w,v=>c.je.R w v
 |11,w,v=>c.kh.R w v
 |12,w,v=>∃b,v=.P b 0/\ag w b c.gF 34
 |13,w,v=>∃b,v=.P b 0/\ag w b #[.I (c.W:Int),.I (c.ab:Int)] 52
 |14,w,v=>sN c.pv c.aU c.N (λb=>c.n0<=b) w v
 | _,_,_=>False
def zu:Nat->Nat
 |10=>6
 |11=>7
 |12=>3
 |13=>5
 |14=>8
 |j=>19+j
def lT{i j:Nat}(hi:i<15)(a:j<15)(h:i≠j):zu i≠zu j:=by have key:∀i,i<15->∀j,j<15->i≠j->zu i≠zu j:=AX;grind
def avy{i:Nat}(hi:i<15):zu i<29:=by have key:∀i,i<15->zu i<29:=AX;grind
structure GP.I(c:GP)(am:uaw)(a:Act)(w:aH):Prop where
 len:am.size=12
 size:a.tmps.size=29
 oN:∀j,5<=j->am.getD j false=true->am.getD 4 false=true
 Ek:(am.getD 3 false=true->am.getD 2 false=true)/\(am.getD 4 false=true->am.getD 3 false=true)
 kind:w.cell? (.a c.aA c.aR)=some (.I 2)
 jK:w.cell? (.a c.aA (c.aR+1))=some (.I 0)
 place:w.cell? (.a c.bD c.b7)=some (.I c.ef)
 val:∀j,j<15->(j<12->am.getD j false=true)->(am.getD 4 false=true->j≠2/\j≠3/\j≠14)->∃v,a.tmps[zu j]?=some v/\c.R j w v
structure GP.fF(c:GP)(aD:c5):Prop where
 aA:aD c.aA
 bD:aD c.bD
 wB:c.aA<c.n0
 aJ:c.bD<c.n0
 pv:∀t,t<c.N->∃b o n k,c.pv t=.S b o n k/\aD b
 p0:c.pv 0=.S c.bD c.b7 1 c.b3
 El:0<c.N
 avz:c.N<=1000
 sum:G1 c.aU c.N
 Jy:c.cp.ok=λ_=>True
 Gi:c.je.ok=λ_=>True
 Gj:c.kh.ok=λ_=>True
section
variable{c:GP}{aD:c5}{am:uaw}{a:Act}{w w1:aH}
def GP.qa(ok:c.fF aD){ρ:Ren}(p:∀b,aD b->ρ.rel b b)(r:∀a b d,ρ.rel a b->ρ.rel a d->b=d){g cap:Nat}{v:Value}(h:ap ρ (c.G4 g cap) v):∃g',v=c.G4 g' cap/\ρ.rel g g':=by
 obtain⟨t,rfl,k⟩:=pF (l:=[_,_,_,_,_,_,_,_]) h;cases k with
 |cons n k=>cases k with
  |cons m k=>cases k with
   |cons j k=>cases k with
    |cons i k=>cases k with
     |cons s k=>cases k with
      |cons o k=>cases k with
       |cons f k=>cases k with
        |cons e k=>cases k;obtain⟨g',rfl,hg⟩:=qp e;obtain⟨q,rfl,hq⟩:=qp f;rw[d9 n,d9 m,d9 j,gW i,gW s,gW o,r _ _ _ hq (p _ ok.aA)];grind
theorem GP.gX(ok:c.fF aD):∀j,G3 aD c.n0 (c.R j)
 |0=>λρ w w' v v' a _ _ hv h=>Yc (n0:=c.n0) _ _ ρ w w' v v' a hv h
 |1=>λρ w w' v v' a d m hv h=>by
  have h:v=.agg c.gF:=h;subst h;obtain⟨N,rfl,k⟩:=pF (l:=[_,_,_,_,_,_,_]) hv;cases k with
  |cons n k=>cases k with
   |cons C k=>cases k with
    |cons I k=>cases k with
     |cons H k=>cases k with
      |cons L k=>cases k with
       |cons J k=>cases k with
        |cons F k=>cases k;obtain⟨q,rfl,hq⟩:=qp F;rw[d9 n,d9 C,d9 I,gW H,gW L,gW J,m _ _ _ hq (d _ ok.aA)];rfl
 |2=>Od ok.pv
 |3=>λρ w w' v v' a d m hv⟨bI,u,e,f,s⟩=>by subst e;obtain⟨p,rfl,r⟩:=nx hv;obtain⟨K,B,o⟩:=a.cells _ _ _ r f;exact⟨p,K,U,B,Od ok.pv _ _ _ _ _ a d m o s⟩
 |4=>λρ w w' v v' a d m hv⟨g,cap,e,f,aq,ct,s⟩=>by subst e;obtain⟨g',rfl,hg⟩:=GY hv;obtain⟨A,z⟩:=UK a d m hg ok.aA ok.bD s;exact⟨g',cap,U,f,A,ct,z⟩
 |5=>λρ w w' v v' a d m hv⟨g,cap,e,f,aq,ct,s⟩=>by subst e;obtain⟨g',rfl,hg⟩:=GP.qa ok d m hv;obtain⟨A,z⟩:=UK a d m hg ok.aA ok.bD s;exact⟨g',cap,U,f,A,ct,z⟩
 |6=>λρ w w' v v' a d m hv⟨g,cap,e,f,aq,ct,s⟩=>by subst e;cases hv with|iface _ k=>obtain⟨g',rfl,hg⟩:=GP.qa ok d m k;obtain⟨A,z⟩:=UK a d m hg ok.aA ok.bD s;exact⟨g',cap,U,f,A,ct,z⟩
 |7=>λρ w w' v v' a _ _ hv h=>c.cp.gX c.n0 (by rw[ok.Jy];trivial) ρ w w' v v' a hv h
 |8=>λρ w w' v v' a _ _ hv h=>c.je.gX c.n0 (by rw[ok.Gi];trivial) ρ w w' v v' a hv h
 |9=>λρ w w' v v' a _ _ hv h=>c.kh.gX c.n0 (by rw[ok.Gj];trivial) ρ w w' v v' a hv h
 |10=>λρ w w' v v' a _ _ hv h=>c.je.gX c.n0 (by rw[ok.Gi];trivial) ρ w w' v v' a hv h
 |11=>λρ w w' v v' a _ _ hv h=>c.kh.gX c.n0 (by rw[ok.Gj];trivial) ρ w w' v v' a hv h
 |12=>λρ w w' v v' a d m hv⟨b,e,f⟩=>by
  subst e;obtain⟨p,rfl,r⟩:=wH hv;obtain⟨t,n,C⟩:=a.types _ _ _ _ _ r f;have n:ag w' p t _:=n;have M:∀(i:Nat) u,c.gF[i]?=some u->t[i]?=some u:=λi u hi=>by
   obtain⟨x,B,o⟩:=a.cells ⟨b,i,none⟩ ⟨p,i,none⟩ u ⟨r,U,U⟩ ((f.rules.1 i).trans hi);rw[<-n.rules.1 i,B];match i with
   |0=>cases hi;rw[d9 o];rfl
   |1=>cases hi;rw[d9 o];rfl
   |2=>cases hi;rw[d9 o];rfl
   |3=>cases hi;rw[gW o];rfl
   |4=>cases hi;rw[gW o];rfl
   |5=>cases hi;rw[gW o];rfl
   |6=>cases hi;obtain⟨q,rfl,hq⟩:=qp o;rw[m _ _ _ hq (d _ ok.aA)];rfl
   |i+7=>simp[fR]at hi
  have:t=c.gF:=by apply vch;grind
  exact⟨p,U,this▸n⟩
 |13=>λρ w w' v v' a d m hv⟨b,e,f⟩=>by
  subst e;obtain⟨p,rfl,r⟩:=wH hv;obtain⟨t,n,C⟩:=a.types _ _ _ _ _ r f;have n:ag w' p t _:=n;obtain⟨x,B,o⟩:=a.cells ⟨b,0,none⟩ ⟨p,0,none⟩ _ ⟨r,U,U⟩ ((f.rules.1 0).trans U);obtain⟨y,E,D⟩:=a.cells ⟨b,1,none⟩ ⟨p,1,none⟩ _ ⟨r,U,U⟩ ((f.rules.1 1).trans U);rw[n.rules.1,d9 o]at B;rw[n.rules.1,d9 D]at E;have:t=#[.I (c.W:Int),.I (c.ab:Int)]:=by grind
  exact⟨p,U,this▸n⟩
 |14=>Od ok.pv
 | _+15=>λ_ _ _ _ _ _ _ _ _ h=>h.elim
theorem GP.fZ(ok:c.fF aD)(a:cC w w1):∀j v,c.R j w v->c.R j w1 v
 |0,_,h=>h
 |1,_,h=>h
 |2,_,h=>UJ a h λt ht=>Ea
 |3,_,⟨bI,u,e,d,f⟩=>⟨bI,u,e,bm.b4 a _ _ _ d,UJ a f λt ht=>Ea⟩
 |4,_,⟨g,cap,e,d,aq,ct,f⟩=>⟨g,cap,e,d,aq,ct,UL a f⟩
 |5,_,⟨g,cap,e,d,aq,ct,f⟩=>⟨g,cap,e,d,aq,ct,UL a f⟩
 |6,_,⟨g,cap,e,d,aq,ct,f⟩=>⟨g,cap,e,d,aq,ct,UL a f⟩
 |7,_,h=>c.cp.fZ _ _ _ a h
 |8,_,h=>c.je.fZ _ _ _ a h
 |9,_,h=>c.kh.fZ _ _ _ a h
 |10,_,h=>c.je.fZ _ _ _ a h
 |11,_,h=>c.kh.fZ _ _ _ a h
 |12,_,⟨b,e,d⟩=>⟨b,e,d.call a⟩
 |13,_,⟨b,e,d⟩=>⟨b,e,d.call a⟩
 |14,_,h=>UJ a h λt ht=>Ea
 | _+15,_,h=>h.elim
def GP.p8(ok:c.fF aD)(am:uaw):B6 aD c.n0 (c.I am):=by
 intro ρ a a' w w' g f t i h;have e:∀(b d:Nat)(z:Int),aD b->w.cell? (.a b d)=some (.I z)->w'.cell? (.a b d)=some (.I z):=λb d z r o=>by obtain⟨v',x,u⟩:=g.cells ⟨b,d,none⟩ ⟨b,d,none⟩ _ ⟨f b r,U,U⟩ o;grind[d9]
 refine⟨h.len,by rw[<-i.size];exact h.size,h.oN,h.Ek,e _ _ _ ok.aA h.kind,e _ _ _ ok.aA h.jK,e _ _ _ ok.bD h.place,λj q p s=>?_⟩;obtain⟨v,n,m⟩:=h.val j q p s;obtain⟨v',l,k⟩:=i.some n;exact⟨v',l,GP.gX ok j _ _ _ _ _ g f t k m⟩
theorem GP.I.put(ok:c.fF aD)(h:c.I am a w)(l:cC w w1){i:Nat}{v:Value}(hi:i<12)(p:i≠4)(s:5<=i->am.getD 4 false=true)(hv:c.R i w1 v)(r:i=3->am.getD 2 false=true:=by omega):c.I (am.setIfInBounds i true) (a.put (some (zu i)) v) w1:=by
 have d:i<am.size:=by rw[h.len];exact hi
 have k:=bm.b4 l;have g:(am.setIfInBounds i true).getD 4 false=am.getD 4 false:=by simp[p]
 refine⟨DD,ED,λj b f=>?_,⟨λq=>(k8 d).2 (.inr (((k8 d).1 q).elim (λe=>r e.symm) h.Ek.1)),λq=>by rw[g]at q;exact(k8 d).2 (.inr (h.Ek.2 q))⟩,k _ _ _ h.kind,k _ _ _ h.jK,k _ _ _ h.place,λj b f m=>?_⟩
 .rw[g];rcases(k8 d).1 f with rfl|f
  .grind
  .exact h.oN j b f
 .rw[g]at m;by_cases e:j=i
  .subst e;exact⟨v,ja (by rw[h.size];exact avy b),hv⟩
  .obtain⟨u,o,n⟩:=h.val j b (λb=>((k8 d).1 (f b)).resolve_left e) m;exact⟨u,(et (lT AY b (Ne.symm e))).trans o,GP.fZ ok l j u n⟩
def GP.I.IF(ok:c.fF aD)(h:c.I am a w){X:Nat}{t0:cV}(y:gL w X t0)(hn:c.n0<=X)(s:hU X w.heap.size w w1)(D:am.getD 4 false=false)(t:am.getD 3 false=true){v:Value}(hv:c.R 4 w1 v):c.I (am.setIfInBounds 4 true) (a.put (some 23) v) w1:=by
 have g:4<am.size:=by rw[h.len];decide
 have n:∀{b d:Nat}{u:Value},b≠X->w.cell? (.a b d)=some u->w1.cell? (.a b d)=some u:=λf r=>(vam (s.2 _ (dx r) f)).trans r;have B:=ok.wB;have E:=ok.aJ;have bI:∀{b:Nat}{cs:dC}{T:uaa},ag w b cs T->T≠193->ag w1 b cs T:=λ{b cs T} h C=>by
  have f:b≠X:=λe=>by subst e;obtain⟨⟨fr,q⟩,-⟩:=y;rw[show w.heap[b]?=some (.cells cs T)from h]at q;grind
  exact(s.2 b h.lt f).trans h
 refine⟨DD,ED,λj k p=>(k8 g).2 Ij,⟨λ_=>(k8 g).2 (.inr (h.Ek.1 t)),λ_=>(k8 g).2 (.inr t)⟩,n AY h.kind,n AY h.jK,n AY h.place,λj k p x=>?_⟩;have x:=x ((k8 g).2 Ij);by_cases e:j=4
 .subst e;exact⟨v,ja (by rw[h.size];decide),hv⟩
 .have o:j<12->am.getD j false=true:=λk=>((k8 g).1 (p k)).resolve_left e;have A:¬(5<=j/\j<12):=λq=>by have:=h.oN j q.1 (o q.2);grind
  obtain⟨u,z,l⟩:=h.val j k o (λq=>AN);refine⟨u,(et (show 23≠zu j from lT (i:=4) AX k (Ne.symm e))).trans z,?_⟩;obtain rfl|rfl|rfl|rfl:j=0\/j=1\/j=12\/j=13:=AY
  .exact l
  .exact l
  .obtain⟨b,e,m⟩:=l;exact⟨b,e,bI m AX⟩
  .obtain⟨b,e,m⟩:=l;exact⟨b,e,bI m AX⟩
end
section
variable{O:gp}
section
variable{o:Oper}{x y:uaq}{ev:uaj}{w:aH}{op a:Int}{b5:uad}{n gc b:Nat}
def pV(d:o.op=.load 34 x)(e:ev x=.P b 0)(c:ag w b (fR op a b5 n gc) 34):(execOp ev o).run (aa prog true) w=.ok (.value (.agg (fR op a b5 n gc))) w:=by unfold fR at c⊢;obtain⟨h,f,g⟩:=c.all;clear c;cases o;simp only at d;subst d;go_simp
def pQ{W ab:Int}(a:o.op=.load 52 x)(d:ev x=.P b 0)(c:ag w b #[.I W,.I ab] 52):(execOp ev o).run (aa prog true) w=.ok (.value (.agg #[.I W,.I ab])) w:=by obtain⟨g,e,f⟩:=c.all;clear c;cases o;simp only at a;subst a;go_simp
def avA(b:o.op=.box 34 x)(c:ev x=.agg (fR op a b5 n gc)):(execOp ev o).run (aa prog true) w=.ok (.value (.P w.heap.size 0)) (w.alloc (.cells (fR op a b5 n gc) 34)):=by unfold fR at c⊢;cases o;simp only at b;subst b;go_simp
def avB{W ab:Int}(a:o.op=.box 52 x)(b:ev x=.agg #[.I W,.I ab]):(execOp ev o).run (aa prog true) w=.ok (.value (.P w.heap.size 0)) (w.alloc (.cells #[.I W,.I ab] 52)):=by cases o;simp only at a;subst a;go_simp
def pP{T:uaa}{c:uad}{d cc:Nat}(f:T=140\/T=146)(b:o.op=.build T #[(0,x),(1,y)])(e:ev x=.agg (fR op a b5 n gc))(g:ev y=.slice c d cc):(execOp ev o).run (aa prog true) w=.ok (.value (eP op a b5 n gc (.slice c d cc))) w:=by unfold fR at e;cases o;simp only at b;subst b;rcases f with rfl|rfl<;>go_simp
def pM{T:uaa}(b:T=140\/T=146)(a:o.op=.makeInterface T x):(execOp ev o).run (aa prog true) w=.ok (.value (.iface T (ev x))) w:=by cases o;simp only at a;subst a;rcases b with rfl|rfl<;>go_simp
def pK{u v:Value}(a:o.op=.extract x 0)(b:ev x=.tuple #[u,v]):(execOp ev o).run (aa prog true) w=.ok (.value u) w:=by cases o;simp only at a;subst a;go_simp
def pj{u v:Value}(a:o.op=.extract x 1)(b:ev x=.tuple #[u,v]):(execOp ev o).run (aa prog true) w=.ok (.value v) w:=by cases o;simp only at a;subst a;go_simp
def oY{f:ual}{ats:uau}(a:o.op=.call {callee:=.value (.func f),args:=#[x],argTypes:=ats})(c:∀vs w,Sem.run (aa prog true) (callFunc f vs) w=.ok (.enter f vs) w){v:Value}(b:ev x=v)(d:ev (.func f)=.func (.func f) #[] #[]):(execOp ev o).run (aa prog true) w=.ok (.enter f #[v]) w:=by cases o;simp only at a;subst a;simp[execOp,resolve,Deferred.ofValue,invoke,b,d,c]
end
def avC(a:dC)(w:aH):Sem.run (aa prog true) (callFunc 49 a) w=.ok (.enter 49 a) w:=cN (Ul true) AT a w
def avD(a:dC)(w:aH):Sem.run (aa prog true) (callFunc 89 a) w=.ok (.enter 89 a) w:=cN (Uo true) AT a w
def Kk(F:Func):Code:=.seq (.region 2 (aP F 2) true) .ret
def UM(F:Func):Code:=.seq (.region 0 (aP F 0) false) (.seq (.region 1 (aP F 1) false) (Kk F))
theorem UN:f30.body=some (UM f30):=by kernel_rfl
def oU:fG prog true f30=true:=by decide+kernel
def avE{c:GP}{aD:c5}(ok:c.fF aD){w:aH}{bI:Nat}{u:Value}(j:w.cell? (.a bI 0)=some u)(hg:sN c.pv c.aU c.N (λb=>c.n0<=b) w u):
 ∃X t0,gL w X t0/\c.n0<=X/\Calls (aa prog true) 49 #[.func (.func 89) #[] #[.P bI 0]] w λe w'=>∃g cap aq ct,e=.returned (.S g 0 1 cap)/\zo c.pv c.aU X w.heap.size (c.N-1) w' g cap aq ct/\hU X w.heap.size w w':=by
 obtain⟨g,cap,aq,ct,rfl,hcell,a,d⟩:=hg;have p:g≠aq 0:=λe=>by have i:=hcell 0 ok.El 1 AX;have f:=(a 0 ok.El).1.cell 1;grind
 refine⟨aq 0,c.aU 0,(a 0 ok.El).1,(a 0 ok.El).2,?_⟩;refine uS (Row:=Uq c.pv (λt=>.S (aq t) 0 1 (ct t)) (aq 0) w.heap.size w) c.pv c.aU (aq 0) c.N w (λt m W x ht l=>?_) ok.El avD (λn=>wN c.pv _ c.N g cap bI (aq 0) w p hcell (λt ht=>?_) j (by have:=ok.avz;omega)) ok.sum
 .obtain⟨b,o,n,k,e,-⟩:=ok.pv t ht;obtain⟨rfl,i,f⟩:=l;refine⟨_,_,_,aq t,ct t,e,Gn,?_,λh=>.inr (by rw[h]),λh=>.inr ⟨λx=>d t 0 ht ok.El AY x,(a t ht).1.lt⟩⟩;by_cases h0:t=0
  .exact(a t ht).1.same ((f h0).block _ (a t ht).1.lt)
  .exact(a t ht).1.same (i.2 _ (a t ht).1.lt (λx=>d t 0 ht ok.El h0 x))
 .obtain⟨b,o,n,k,e,-⟩:=ok.pv t ht;grind
def avF{c:GP}{aD:c5}(ok:c.fF aD){w w1:aH}{X n₀ g cap aq ct:Nat}(h:zo c.pv c.aU X n₀ (c.N-1) w1 g cap aq ct)(i:w1.cell? (.a c.aA c.aR)=some (.I 2))(f:w1.cell? (.a c.aA (c.aR+1))=some (.I 0))(d:w1.cell? (.a c.bD c.b7)=some (.I c.ef)):1<=cap/\c.dU w1 g:=by
 have a:=h.own;rw[ok.p0]at a;refine⟨?_,aq,ct,i,f,λj b=>h.l_.cell j,λj b=>?_,d⟩
 .rcases a.2 with⟨-,h0⟩|⟨g',cap',bc,e,-,-,hn,-⟩
  .omega
  grind
 .rw[Ke a j BB];simp
def avG{c:GP}{aD:c5}(ok:c.fF aD)(z:∀w u,c.cp.R w u->∃x y,u=.tuple #[x,y]/\c.je.R w x/\c.kh.R w y)(am:uaw)(a:Act)(W:aH)(i:Nat)(o:Oper)(h:c.I am a W)(hd:a.defers=[])(T:c.n0<=W.heap.size)(tF:i≠7)(kE:am.getD i true=false)(l:(aP f30 2)[i]?=some o)(Q:∀e∈o.after,Region.binds .any e=true->am.getD e.on false=true):
 wpOps (aa prog true) (aP f30 2) (ly λa1 w1=>a1.defers=[]/\c.I (am.setIfInBounds i true) a1 w1/\Below c.n0 W w1) [i] a W:=by
 have dep:∀j,wJ (aP f30 2) i j=true->am.getD j false=true:=λj S=>by obtain⟨o',r,e,A,m,rfl⟩:=Q6 S;rw[l]at r;cases r;exact Q e A m
 have B:am.getD i false=false:=AN;have H:=l;rw[ey (aP f30 2)]at H;have Y:i<12:=(vag.1 H).1;have n:∀(s:Nat) v,(a.put (some s) v).defers=[]:=λs v=>(put_defers _ _ _).trans hd;have Z:i=0\/i=1\/i=2\/i=3\/i=4\/i=5\/i=6\/i=8\/i=9\/i=10\/i=11:=AY;rcases Z with rfl|rfl|rfl|rfl|rfl|rfl|rfl|rfl|rfl|rfl|rfl<;>(obtain rfl:=vbq H)
 .obtain⟨v,k,b,rfl,C⟩:=h.val 13 AX (λh=>absurd h AX) JC;exact ip l rfl rfl (pQ rfl (cd k) C) ⟨n _ _,h.put ok (i:=0) (vaa _ _) AX AX (λh=>absurd h AX) rfl,vaa _ _⟩
 .obtain⟨v,k,b,rfl,C⟩:=h.val 12 AX (λh=>absurd h AX) JC;exact ip l rfl rfl (pV rfl (cd k) C) ⟨n _ _,h.put ok (i:=1) (vaa _ _) AX AX (λh=>absurd h AX) rfl,vaa _ _⟩
 .have D:am.getD 4 false=false:=by cases e:am.getD 4 false with|false=>rfl|true=>rw[h.Ek.1 (h.Ek.2 e)]at B;cases B
  obtain⟨v,k,hv⟩:=h.val 14 AX (λh=>absurd h AX) (λq=>AN);exact ip (v:=v) l rfl rfl (by simp[execOp,cd (show a.tmps[8]?=some v from k)]) ⟨n _ _,h.put ok (i:=2) (vaa _ _) AX AX (λh=>absurd h AX) hv,vaa _ _⟩
 .have D:am.getD 4 false=false:=by cases e:am.getD 4 false with|false=>rfl|true=>rw[h.Ek.2 e]at B;cases B
  obtain⟨v,k,g,cap,aq,ct,rfl,hv⟩:=h.val 2 AX (λ_=>dep 2 AT) (λq=>AN);exact Yg l rfl rfl (f:=50) (args:=#[.S g 0 c.N cap]) (oY rfl (auv true) (cd k) rfl) ((wD true _ _ _ W).mono λe w'⟨r,A,m⟩=>⟨_,r,n _ _,h.put ok (i:=3) m AX AX (λh=>absurd h AX) ⟨_,_,rfl,A.rules.1 0,GP.fZ ok m 2 _ ⟨g,cap,aq,ct,rfl,hv⟩⟩ (λ_=>dep 2 AT),m.mono T⟩)
 .obtain⟨v,k,bI,u,rfl,R,hg⟩:=h.val 3 AX (λ_=>dep 3 AT) (λq=>AN);obtain⟨X,t0,O,hn,P⟩:=avE ok R hg;refine Yg l rfl rfl (f:=49) (args:=#[.func (.func 89) #[] #[.P bI 0]]) (oY rfl avC (cd k) rfl) (P.mono λe w'⟨g,cap,aq,ct,r,A,m⟩=>⟨_,r,n _ _,?_,?_⟩)
  .have I:∀{b d:Nat}{u:Value},b≠X->W.cell? (.a b d)=some u->w'.cell? (.a b d)=some u:=λE p=>(vam (m.2 _ (dx p) E)).trans p;have hZ:=ok.wB;have gS:=ok.aJ;obtain⟨f1,U⟩:=avF (w:=W) ok A (I AY h.kind) (I AY h.jK) (I AY h.place);exact h.IF ok O hn m B (dep 3 AT) ⟨g,cap,rfl,f1,U⟩
  .exact⟨m.1.1,m.1.2,m.1.3,m.1.4,λb C=>m.2 b AY AY⟩
 .have D:=dep 4 AT;obtain⟨v,k,hv⟩:=h.val 1 AX (λ_=>dep 1 AT) JC;obtain⟨v',V,g,cap,rfl,p,F⟩:=h.val 4 AX (λ_=>D) JC;have hv:v=.agg c.gF:=hv;subst hv;exact ip l rfl rfl (pP Io rfl (cd k) (cd V)) ⟨n _ _,h.put ok (i:=5) (vaa _ _) AX AX (λ_=>D) ⟨g,cap,rfl,p,F⟩,vaa _ _⟩
 .have N:=dep 5 AT;obtain⟨v,k,g,cap,rfl,p,F⟩:=h.val 5 AX (λ_=>N) JC;refine ip l rfl rfl (pM Io rfl) ⟨n _ _,h.put ok (i:=6) (vaa _ _) AX AX (λ_=>h.oN 5 AX N) ⟨g,cap,?_,p,F⟩,vaa _ _⟩;rw[cd (show a.tmps[24]?=some _ from k)]
 .have t:=dep 7 AT;obtain⟨v,k,hv⟩:=h.val 7 AX (λ_=>t) JC;obtain⟨x,y,rfl,M,L⟩:=z _ _ hv;exact ip l rfl rfl (pK rfl (cd k)) ⟨n _ _,h.put ok (i:=8) (vaa _ _) AX AX (λ_=>h.oN 7 AX t) M,vaa _ _⟩
 .have t:=dep 7 AT;obtain⟨v,k,hv⟩:=h.val 7 AX (λ_=>t) JC;obtain⟨x,y,rfl,M,L⟩:=z _ _ hv;exact ip l rfl rfl (pj rfl (cd k)) ⟨n _ _,h.put ok (i:=9) (vaa _ _) AX AX (λ_=>h.oN 7 AX t) L,vaa _ _⟩
 .have K:=dep 8 AT;obtain⟨v,k,hv⟩:=h.val 8 AX (λ_=>K) JC;exact ip (v:=v) l rfl rfl (by simp[execOp,cd (show a.tmps[27]?=some v from k)]) ⟨n _ _,h.put ok (i:=10) (vaa _ _) AX AX (λ_=>h.oN 8 AX K) hv,vaa _ _⟩
 .have J:=dep 9 AT;obtain⟨v,k,hv⟩:=h.val 9 AX (λ_=>J) JC;exact ip (v:=v) l rfl rfl (by simp[execOp,cd (show a.tmps[28]?=some v from k)]) ⟨n _ _,h.put ok (i:=11) (vaa _ _) AX AX (λ_=>h.oN 9 AX J) hv,vaa _ _⟩
end
section
variable{O:gp}
section
variable{aD:c5}{n0 N:Nat}{fs:List (Nat×(aH->Value->Prop))}{a:Act}{w:aH}
def Of(h:∀p∈fs,G3 aD n0 p.2):B6 aD n0 (tE N fs):=by rintro ρ a a' w w' j i k c ⟨hs,hv⟩;refine⟨by rw[<-c.size];exact hs,λp b=>?_⟩;obtain⟨v,g,f⟩:=hv p b;obtain⟨v',e,d⟩:=c.some g;exact⟨v',e,h p b _ _ _ _ _ j i k d f⟩
def UO(h:a.tmps.size=N):tE N [] a w:=⟨h,λp b=>by cases b⟩
def sO{s:Nat}{R:uaz}{v:Value}(e:a.tmps[s]?=some v)(c:R w v)(h:tE N fs a w):tE N ((s,R)::fs) a w:=⟨h.1,λp b=>by
 rcases vbc.1 b with rfl|b
 .grind
 .exact h.2 p b⟩
def Kl{x:Value}(c:ap (bU aD) x x):G3 aD n0 (λ_ v=>v=x):=λρ w w' v v' f e d hv h=>by subst h;exact(LW d ((y2 (M':=bE) c).mono (show Ren.le (c8 aD bE) ρ from⟨λa b r=>by obtain⟨rfl,g⟩:=r;grind,λb h=>h.elim⟩)) hv).symm
end
def GP.nI(c:GP)(w:aH)(_:Value):Prop:=w.cell? (.a c.aA c.aR)=some (.I 2)/\w.cell? (.a c.aA (c.aR+1))=some (.I 0)/\w.cell? (.a c.bD c.b7)=some (.I c.ef)
def GP.nI.gX{c:GP}{aD:c5}(ok:c.fF aD):G3 aD c.n0 c.nI:=λρ w w' v v' g f j hv h=>by
 have a:∀(b d:Nat)(z:Int),aD b->w.cell? (.a b d)=some (.I z)->w'.cell? (.a b d)=some (.I z):=λb d z i e=>by obtain⟨v',l,k⟩:=g.cells ⟨b,d,none⟩ ⟨b,d,none⟩ _ ⟨f b i,U,U⟩ e;grind[d9]
 exact⟨a _ _ _ ok.aA h.1,a _ _ _ ok.aA h.2.1,a _ _ _ ok.bD h.2.2⟩
def GP.nI.fZ{c:GP}{w w':aH}{v v':Value}(h:c.nI w v)(a:cC w w'):c.nI w' v':=⟨bm.b4 a _ _ _ h.1,bm.b4 a _ _ _ h.2.1,bm.b4 a _ _ _ h.2.2⟩
def GP.ie(c:GP)(w:aH)(u:Value):Prop:=∃v,u=.tuple #[v,.N]/\sN c.pv c.aU c.N (λb=>c.n0<=b) w v
def GP.ie.gX{c:GP}{aD:c5}(ok:c.fF aD):G3 aD c.n0 c.ie:=λρ w w' v v' f d g hv⟨x,e,h⟩=>by
 subst e;obtain⟨i,rfl,k⟩:=x8 (l:=[_,_]) hv;cases k with
 |cons b k=>cases k with
  |cons a k=>cases k;rw[gW a];exact⟨_,U,Od ok.pv _ _ _ _ _ f d g b h⟩
def avH{pv:ubb}{aU:Nat->cV}{N:Nat}{fF a:c5}{w:aH}{u:Value}(h:sN pv aU N fF w u)(hi:∀b,fF b->a b):sN pv aU N a w u:=by obtain⟨g,cap,aq,ct,f,e,c,d⟩:=h;exact⟨g,cap,aq,ct,f,e,λt ht=>⟨(c t ht).1,hi _ (c t ht).2⟩,d⟩
section
variable{N:Nat}{K:bZ}{o:Oper}{x y:uaq}{op a:Int}{b5:uad}{n gc:Nat}
def avI(c:o.op=.box 34 x)(b:bq K x (fl (.agg (fR op a b5 n gc)))):bK (aa prog true) N K o (MX 0 (fR op a b5 n gc) 34):=dy b λev w h=>⟨_,_,avA c h,⟨_,U,vaz _,ag.new _ _ _⟩,(vaa _ w).alloc (vad _) _⟩
def avJ{W ab:Int}(b:o.op=.box 52 x)(a:bq K x (fl (.agg #[.I W,.I ab]))):bK (aa prog true) N K o (MX 0 #[.I W,.I ab] 52):=dy a λev w h=>⟨_,_,avB b h,⟨_,U,vaz _,ag.new _ _ _⟩,(vaa _ w).alloc (vad _) _⟩
def avK{B:Nat}(d:o.op=.load 34 x)(c:bq K x (MX B (fR op a b5 n gc) 34)):bK (aa prog true) N K o (fl (.agg (fR op a b5 n gc))):=dy c λev w⟨b,e,_,f⟩=>⟨_,w,pV d e f,U,vaa _ _⟩
def avL{B:Nat}{W ab:Int}(c:o.op=.load 52 x)(a:bq K x (MX B #[.I W,.I ab] 52)):bK (aa prog true) N K o (fl (.agg #[.I W,.I ab])):=dy a λev w⟨b,e,_,d⟩=>⟨_,w,pQ c e d,U,vaa _ _⟩
def avM{b:uad}{c cc:Nat}(f:o.op=.build 140 #[(0,x),(1,y)])(e:bq K x (fl (.agg (fR op a b5 n gc))))(d:bq K y (fl (.slice b c cc))):bK (aa prog true) N K o (fl (eP op a b5 n gc (.slice b c cc))):=wV e d λev w h g=>⟨_,w,pP (.inl U) f h g,U,vaa _ _⟩
def avN{v:Value}(b:o.op=.makeInterface 140 x)(a:bq K x (fl v)):bK (aa prog true) N K o (fl (.iface 140 v)):=dy a λev w h=>⟨_,w,pM (.inl U) b,vbn (Value.iface _) h,vaa _ _⟩
def avO{u v:Value}(b:o.op=.extract x 0)(a:bq K x (fl (.tuple #[u,v]))):bK (aa prog true) N K o (fl u):=dy a λev w h=>⟨_,w,pK b h,U,vaa _ _⟩
def avP{u v:Value}(b:o.op=.extract x 1)(a:bq K x (fl (.tuple #[u,v]))):bK (aa prog true) N K o (fl v):=dy a λev w h=>⟨_,w,pj b h,U,vaa _ _⟩
end
abbrev GP.rM(c:GP):Value:=.agg #[.I (c.W:Int),.I (c.ab:Int)]
abbrev GP.l0(c:GP)(a_:Value):List (Nat×(aH->Value->Prop)):=[(0,λ_ v=>v=.agg c.gF),(1,λ_ v=>v=a_),(2,λ_ v=>v=c.rM),(0,c.nI)]
abbrev GP.l1(c:GP)(a_:Value):List (Nat×(aH->Value->Prop)):=[(3,c.R 12),(5,c.R 13),(11,λ_ v=>v=c.rM),(15,λ_ v=>v=.iface 140 (eP c.op c.a (some (.a c.aA c.aR)) 1 c.gc a_)),(0,c.nI)]
abbrev GP.l2(c:GP):List (Nat×(aH->Value->Prop)):=[(3,c.R 12),(5,c.R 13),(16,c.ie),(0,c.nI)]
section
variable{c:GP}{aD:c5}{a:Act}{W:aH}
def avQ{e:uad}{f cc:Nat}(hd:a.defers=[])(p:c.n0<=W.heap.size)(h:tE 29 (c.l0 (.slice e f cc)) a W):
 cb (aa prog true) [.code (UM f30)] (.R (aP f30 1) (List.range' 5 6)::[.code (Kk f30)]) (λa1 w1=>a1.defers=[]/\tE 29 (c.l1 (.slice e f cc)) a1 w1/\Below c.n0 W w1) a W:=by
 obtain⟨D,m,rfl⟩:=h.2 (0,λ_ v=>v=.agg c.gF) Ab;obtain⟨C,x,rfl⟩:=h.2 (1,λ_ v=>v=.slice e f cc) Ab;obtain⟨B,w,rfl⟩:=h.2 (2,λ_ v=>v=c.rM) Ab;obtain⟨l,E,hk⟩:=h.2 (0,c.nI) Ab;have s:af 29 (be [(0,fl (.agg c.gF)),(1,fl (.slice e f cc)),(2,fl c.rM)]) a W:=bX m U<|bX x U<|bX w U<|mF h.1;unfold UM;refine cG ?_;rw[ey (aP f30 0)];refine f5 s (aC U (avI U U)<|aC U (avJ U U)<|aC U (eD (F:=n_) U IX)<|aC U (eD (F:=n_) U IX)<|rfl) λa1 w1 o d1 b1=>cG (ra ?_);rw[ey (aP f30 1)];refine(show cb _ (.R _ (List.range' 0 (5+6))::_) _ _ _ _ from k_ o (aC U (avL U U)<|aC U (avK U U)<|aC U IW<|aC U (avM U U U)<|aC U (avN U U)<|rfl) AX λH w2 d t i=>i9 ⟨t.trans (d1.trans hd),?_,?_⟩)
 .obtain⟨u3,q,b,rfl,-,r⟩:=d.has 3 _ U;obtain⟨u5,j,u,rfl,-,n⟩:=d.has 5 _ U;obtain⟨u11,g,k⟩:=d.has 11 _ U;obtain⟨u15,z,y⟩:=d.has 15 _ U;obtain⟨u0,A,-⟩:=d.has 0 _ U;exact sO q ⟨b,U,r⟩<|sO j ⟨u,U,n⟩<|sO g k<|sO z y<|sO A (GP.nI.fZ (v:=u0) (GP.nI.fZ (v:=l) (v':=u0) hk b1) i)<|UO d.size
 .exact(b1.trans (i.mono b1.size)).mono p
def avS(ok:c.fF aD)(hd:a.defers=[])(o:c.n0<=W.heap.size)(h:tE 29 c.l2 a W):
 cb (aa prog true) (.R (aP f30 1) (List.range' 6 5)::[.code (Kk f30)]) (.code (.region 2 (aP f30 2) true)::[.code .ret]) (λa1 w1=>a1.defers=[]/\c.I (Array.replicate 12 false) a1 w1/\Below c.n0 W w1) a W:=by
 obtain⟨k,m,p⟩:=h.2 (3,c.R 12) Ab;obtain⟨i,l,t⟩:=h.2 (5,c.R 13) Ab;obtain⟨v16,e,v,rfl,hg⟩:=h.2 (16,c.ie) Ab;obtain⟨d,n,hk⟩:=h.2 (0,c.nI) Ab;have s:af 29 (be [(3,fl k),(5,fl i),(16,fl (.tuple #[v,.N])),(0,fl d)]) a W:=bX m U<|bX l U<|bX e U<|bX n U<|mF h.1;unfold Kk;rw[ey (aP f30 1)];refine(show cb _ (.R _ (List.range' 6 (5+0))::_) _ _ _ _ from k_ s (aC U IW<|aC U (avO U U)<|aC U (avP U U)<|aC U In<|aC U In<|rfl) AX λa1 w1 b d1 b1=>tA (cG (i9 ⟨d1.trans hd,?_,b1.mono o⟩)));obtain⟨u3,r,rfl⟩:=b.has 3 _ U;obtain⟨u5,f,rfl⟩:=b.has 5 _ U;obtain⟨u8,g,rfl⟩:=b.has 8 _ U;obtain⟨c1,cg,du⟩:=GP.nI.fZ (v:=d) (v':=d) hk b1;have x:∀j,(Array.replicate 12 false).getD j false=false:=λj=>by grind[Q2]
 refine⟨Ab,b.size,λj _ q=>AN,⟨λq=>AN,λq=>AN⟩,c1,cg,du,λj w u _=>?_⟩;have y:¬j<12:=λq=>by grind
 obtain rfl|rfl|rfl:j=12\/j=13\/j=14:=AY
 .exact⟨_,r,GP.fZ ok b1 12 _ p⟩
 .exact⟨_,f,GP.fZ ok b1 13 _ t⟩
 .exact⟨_,g,GP.fZ ok b1 14 _ hg⟩
end
def avU:∃o ats,(aP f30 1)[5]?=some o/\o.op=.call {callee:=.value (.func 48),args:=#[.tmp 11,.tmp 15],argTypes:=ats}/\o.guard=none/\o.dst=some 16:=⟨_,_,U,U,U,U⟩
def avV:∃o ats,(aP f30 2)[7]?=some o/\o.op=.call {callee:=.value (.func 28),args:=#[.tmp 19,.tmp 25],argTypes:=ats}/\o.guard=none/\o.dst=some 26:=⟨_,_,U,U,U,U⟩
def avW{c:GP}{Post:fE}{M:c5}{w:aH}(ok:c.fF M)(iO:c.n0=w.heap.size){l dV cc:Nat}{xs:uay}{vs:Nat->dM}(P:aL (bU M) #[.agg c.gF,.S l dV xs.length cc,c.rM] #[.agg c.gF,.S l dV xs.length cc,c.rM])(U:ue w xs vs l dV c.aA c.aR)(y0:w.cell? (.a c.bD c.b7)=some (.I c.ef))(Z:xs.length<=cc)(vV:∀i,jf (vs i).num)(gS:∀i(h:i<xs.length),∃b o n k,xs[i].1=.S b o n k/\M b)(h0:0<xs.length)(hS:xs.length<=300)(dP:0<c.ab)(hm:c.ab<=64)(kg:0<c.W)(B:c.W<=16)(hok:∀fr dG,fr<dG->dG<=xs.length->G1 (λk=>lG (vs (fr+k))) (dG-fr))(eL:c.pv=λT=>m_ xs (T*c.ab))(avX:c.aU=λT=>sM vs (T*c.ab) (min (T*c.ab+c.ab) xs.length))(a5:c.N=(xs.length+c.ab-1) / c.ab)(X:∀w u,c.cp.R w u->∃x y,u=.tuple #[x,y]/\c.je.R w x/\c.kh.R w y)(vD:∀w x y,c.je.R w x->c.kh.R w y->c.cp.R w (.tuple #[x,y]))(lw:∀(M:c5) w g cap aq ct,eA (cJ prog) M (gT M) w->(∀g,g<=prog.globals.size->M g)->1<=cap->na w c.aA c.aR g aq ct c.bD c.b7 c.b3 c.ef c.jF->M c.aA->M g->M aq->M c.bD->eb O prog Post 28 #[c.rM,.iface 146 (c.G4 g cap)] M w 1 (λu _ w'=>c.cp.R w' u/\cO M w w')):
 eb O prog Post 30 #[.agg c.gF,.S l dV xs.length cc,c.rM] M w 2 (λu _ w'=>c.cp.R w' u/\cO M w w'):=by
 intro n Shun hn a0 eC aF az aI aK aG csZ hc c0;have N:jX prog 30:=B5 func30 oU UN;rw[vcf func30 UN];have cD:=P.get 0 _ _ rfl rfl;have a1:=P.get 1 _ _ rfl rfl;have bA:=P.get 2 _ _ rfl rfl;have m4:M l:=by cases a1 with|slice _ _ r=>exact r.1.2
 have wT:ap (bU M) (eP c.op c.a (some (.a c.aA c.aR)) 1 c.gc (.S l dV xs.length cc)) (eP c.op c.a (some (.a c.aA c.aR)) 1 c.gc (.S l dV xs.length cc)):=by
  refine .qU (kO λv hv=>?_);simp only[vbc,vbr,vds]at hv;rcases hv with rfl|rfl|rfl|rfl|rfl|rfl|rfl|rfl
  .exact .int _ _
  .exact .int _ _
  .exact .int _ _
  .exact .h7 _ _
  .exact .h7 _ _
  .exact .h7 _ _
  .exact .slice _ _ ⟨⟨rfl,ok.aA⟩,rfl,rfl⟩
  grind
 have H:=Held.start (n0:=c.n0) a0 AY (a:=⟨#[.agg c.gF,.S l dV xs.length cc,c.rM]++Array.replicate 26 undef,[]⟩) (P.append (Gc _ _)) rfl;refine L9 l5 N H (k':=.R (aP f30 1) (List.range' 5 6)::[.code (Kk f30)]) AT AT (I:=tE 29 (c.l0 (.S l dV xs.length cc))) (J:=tE 29 (c.l1 (.S l dV xs.length cc))) (Of λp f=>?_) (Of λp f=>?_) (sO I4 rfl<|sO I4 rfl<|sO I4 rfl<|sO (v:=.agg c.gF) I4 ⟨U.kind,U.jK,y0⟩<|UO Ab) (λW B hI=>avQ rfl B hI) λbR kf K q C=>?_
 .simp only[vbc,vbr,vds]at f;rcases f with rfl|rfl|rfl|rfl
  .exact Kl cD
  .exact Kl a1
  .exact Kl bA
  .exact GP.nI.gX ok
 .simp only[vbc,vbr,vds]at f;rcases f with rfl|rfl|rfl|rfl|rfl
  .exact GP.gX ok 12
  .exact GP.gX ok 13
  .exact Kl bA
  .exact Kl (.iface _ wT)
  .exact GP.nI.gX ok
 obtain⟨o,ats,ho,Y,c6,gI⟩:=avU;obtain⟨v11,UP,R⟩:=C.2 (11,λ_ v=>v=c.rM) Ab;obtain⟨v15,Ko,Kn⟩:=C.2 (15,λ_ v=>v=.iface 140 (eP c.op c.a (some (.a c.aA c.aR)) 1 c.gc (.S l dV xs.length cc))) Ab;have R:v11=c.rM:=R;have Kn:v15=_:=Kn;subst R Kn;have jT:cO M w K:=λb cc e z t V=>q.keep b cc e z ⟨t,AN⟩ V;have Q:ue K xs vs l dV c.aA c.aR:=ue.same U (Ax (C':=cm prog false) (M':=bE) a0.cl) (λa a' v r hv=>by
  obtain⟨⟨m,hd⟩,A,D⟩:=r;obtain⟨x,y,z⟩:=a;obtain⟨x',y',z'⟩:=a';simp only at m A D hd;subst m A D;exact⟨v,jT.cell hd hv,y2 (a0.cell hd hv)⟩) m4 ok.aA
 refine QZ (i:=5) (rest:=List.range' 6 5) (d:=1) Y func48 AU rfl AY N q AT ho c6 ⟨gI,by rw[C.1];decide⟩ (I:=tE 29 [(3,c.R 12),(5,c.R 13),(0,c.nI)]) (J:=tE 29 c.l2) (ie:=c.ie) (Of λp f=>?_) ⟨C.1,λp f=>C.2 p AN⟩ (λk'=>?_) (λu w4 m A=>?_) λcu Jz w4 wd aEh aEi tV Na=>?_
 .simp only[vbc,vbr,vds]at f;rcases f with rfl|rfl|rfl
  .exact GP.gX ok 12
  .exact GP.gX ok 13
  .exact GP.nI.gX ok
 .rw[show(#[Operand.tmp 11,.tmp 15].map bR.eval)=#[c.rM,.iface 140 (eP c.op c.a (some (.a c.aA c.aR)) 1 c.gc (.S l dV xs.length cc))]from by simp[cd UP,cd Ko]];intro S a9 ll lx f1 b1 o1 i1 r1 k1 cs1 hc' avY;refine avk (xs:=xs) (vs:=vs) (q.fk.at k').cl q.fk.wB ⟨Q.cell,Q.row,Q.kind,Q.jK⟩ (q.sub _ m4) (q.sub _ ok.aA) Z vV (wT.mono (uH q.sub)) (λi hi=>?_) h0 hS dP hm kg B hok S a9 ll lx f1 b1 o1 i1 r1 k1 cs1 hc' λu M' w' avZ Kp e1 e2 e3 e4 iJ⟨v,e,hg,hs⟩=>avY u M' w' avZ Kp e1 e2 e3 e4 iJ ⟨⟨v,e,?_⟩,cO.E1 hs⟩
  .obtain⟨b,o,n,k,e,t⟩:=gS i hi;exact⟨b,o,n,k,e,q.sub _ t⟩
  .rw[eL,avX,a5];exact avH hg λb t=>vac q.size t.2
 .have f:∀s v,s≠16->bR.tmps[s]?=some v->(bR.put (some 16) u).tmps[s]?=some v:=λs v hs e=>(et (Ne.symm hs)).trans e;obtain⟨v3,q3,r3⟩:=m.2 (3,c.R 12) Ab;obtain⟨v5,q5,Gw⟩:=m.2 (5,c.R 13) Ab;obtain⟨v0,q0,r0⟩:=m.2 (0,c.nI) Ab;exact sO (f _ _ AX q3) r3<|sO (f _ _ AX q5) Gw<|sO (ja (by rw[m.1];decide)) A<|sO (f _ _ AX q0) r0<|UO (by rw[iz];exact m.1)
 refine L9 l5 N tV (k':=.code (.region 2 (aP f30 2) true)::[.code .ret]) AT AT (I:=tE 29 c.l2) (J:=c.I (Array.replicate 12 false)) (Of λp f=>?_) (GP.p8 ok _) Na (λW B hI=>avS ok tV.defers B hI) λfQ av0 gg vJ aEj=>?_
 .simp only[vbc,vbr,vds]at f;rcases f with rfl|rfl|rfl|rfl
  .exact GP.gX ok 12
  .exact GP.gX ok 13
  .exact GP.ie.gX ok
  .exact GP.nI.gX ok
 obtain⟨o2,aEk,nK,Oh,av1,av2⟩:=avV;have hsz:(aP f30 2).size=12:=AT;have F:∀(am:uaw),(∀e∈o2.after,Region.binds .any e=true->am.getD e.on false=true)->∀j,wJ (aP f30 2) 7 j=true->am.getD j false=true:=λam L j hj=>by obtain⟨o',m,e,A,D,rfl⟩:=Q6 hj;grind
 refine Ya l5 mixed N AT 7 nK Oh func28 AU rfl av1 (d:=1) AY (I:=c.I) (GP.p8 ok) av2 (λam a w h=>by rw[h.size];decide) (ie:=c.cp.R) (λam a w h=>by rw[hsz];exact h.len) vJ AN (avG ok X) (λam a M w Shun H h hP L=>?_) (λam a w u h hP L hu=>?_) (λam a M' w' S a9 h hr ll eZ=>?_)
 .have d:=F am L;obtain⟨v,aQ,hv⟩:=h.val 0 AX (λ_=>d 0 AT) JC;obtain⟨v',aT,g,cap,rfl,Tl,aq,ct,hf⟩:=h.val 6 AX (λ_=>d 6 AT) JC;have hv:v=c.rM:=hv;subst hv;rw[show(#[Operand.tmp 19,.tmp 25].map a.eval)=#[c.rM,.iface 146 (c.G4 g cap)]from by simp[cd (show a.tmps[19]?=some _ from aQ),cd (show a.tmps[25]?=some _ from aT)]];have E:M g:=by
   have:=H.all.get _ _ _ aT aT;cases this with
   |iface _ k=>cases k with
    |agg _ hg=>have:=hg 7 _ _ rfl rfl;cases this with|slice _ _ r=>exact r.1.2
  have av3:M aq:=by have:=H.fk.cell (a:=⟨g,17,none⟩) E ((hf.zr 17 AX).trans rfl);cases this with|slice _ _ r=>exact r.1.2
  exact lw M w g cap aq ct H.fk.cl H.fk.wB Tl hf (H.sub _ ok.aA) E av3 (H.sub _ ok.bD)
 .exact h.put ok (i:=7) (vaa _ _) AX AX (λ_=>F am L 4 AT) hu
 .have hd:=L8 (ops:=aP f30 2) AT (by rw[hsz];exact h.len) hr;obtain⟨u6,DQ,pO⟩:=h.val 10 AX (λ_=>hd 10 AN) JC;obtain⟨u7,vC,sP⟩:=h.val 11 AX (λ_=>hd 11 AN) JC;have mr:af 29 (be [(6,c.je),(7,c.kh)]) a w':=bX DQ pO<|bX vC sP<|mF h.size;refine Fl l5 func30 oU UN eZ AT hc (I:=af 29 (be [(6,c.je),(7,c.kh)])) (gV:=c.cp.R) (gY _ (e7 ⟨by rw[ok.Gi];trivial,by rw[ok.Gj];trivial,PA⟩)) (c.cp.gX _ (by rw[ok.Jy];trivial)) mr (λW B hI=>?_) λu kf K m A D h4 a6 b6=>c0 u kf K S a9 AY m A D h4 ⟨b6,λb c e z t V=>a6 b c e z ⟨t,AN⟩ V⟩;obtain⟨o6,wY,AR⟩:=hI.has 6 _ rfl;obtain⟨pU,S6,UQ⟩:=hI.has 7 _ rfl;refine uI (tA (i9 (B4 eZ.defers (v:=.tuple #[o6,pU]) ?_ ⟨vD _ _ _ AR UQ,vaa _ _⟩)));rw[(xP AT _ _).1];simp[sf,tp,results30,vcr,wY,S6]
end
section
variable{O:gp}
def pX(l:uaf):List dg:=(List.range l.length).map λ(k:Nat)=>([(k:Int)],[rN l k])
theorem G5(l:uaf):(pX l).length=l.length:=by simp[pX]
def av6(l:uaf)(i:Nat)(h:i<(pX l).length):(pX l)[i]=([(i:Int)],[rN l i]):=by simp[pX]
def av7{w:aH}{v:Value}{z:Int}(h:jB w v [z]):∃b o k,v=.S b o 1 k/\w.cell? (.a b o)=some (.I z):=by obtain⟨c,k,rfl,-,a⟩:=h;simp_all[q9]
theorem UT{M:c5}{b o n k:Nat}{v:Value}(h:ap (bU M) (.S b o n k) v):M b:=by cases h with|slice _ _ r=>obtain⟨⟨c,a⟩,-⟩:=r;grind
def oT{cp je kh:bg}(Jy:cp.ok=λ_=>True)(Gi:je.ok=λ_=>True)(Gj:kh.ok=λ_=>True)(s:∀w u,cp.R w u->∃x y,u=.tuple #[x,y]/\je.R w x/\kh.R w y)(J:∀w x y,je.R w x->kh.R w y->cp.R w (.tuple #[x,y])){Post:fE}{l:uaf}(hs:pW l)(h0:0<l.length)(aB:l.length<=300){W ab:Nat}(Z:0<W)(hW:W<=16)(d:0<ab)(hm:ab<=64)(Y:∀(M:c5) w op a aA aR gc bD b7 b3 g cap aq ct t,ma t l.length (sumTo l l.length)->eA (cJ prog) M (gT M) w->(∀g,g<=prog.globals.size->M g)->1<=cap->na w aA aR g aq ct bD b7 b3 0 t->M aA->M g->M aq->M bD->eb O prog Post 28 #[.agg #[.I (W:Int),.I (ab:Int)],.iface 146 (eP op a (some (.a aA aR)) 1 gc (.S g 0 1 cap))] M w 1 (λu _ w'=>cp.R w' u/\cO M w w')){j:Int}(M:c5)(w:aH)(Shun:uan)(br a_:Value)(a0:Home O prog M Shun w)(p:aL (bU M) #[br,a_,.agg #[.I (W:Int),.I (ab:Int)]] #[br,a_,.agg #[.I (W:Int),.I (ab:Int)]])(hn:SR (5,j,[(2,0)]) w br)(hc:(mD (pX l)).R w a_):
 eb O prog Post 30 #[br,a_,.agg #[.I (W:Int),.I (ab:Int)]] M w 2 (λu _ w'=>cp.R w' u/\cO M w w'):=by
 obtain⟨v,rfl,hv⟩:=hn;obtain⟨b5,gc,rfl,-,dk⟩:=hv;obtain⟨aA,aR,rfl,k1,k2⟩:=dk 0 Ab;obtain⟨hr,ek,cc,e,z⟩:=hc;obtain⟨F,dV,aEn,xs,E,H,A,xC,Mq⟩:=YH hr (by grind[G5]);rw[E]at e;cases e;subst E;rw[G5]at z H;simp only[G5,<-H]at p⊢;have K:M aA:=by have:=p.get 0 _ _ rfl rfl;cases this with|agg _ hg=>exact UT (hg 6 _ _ rfl rfl)
 have X:M F:=UT (p.get 1 _ _ rfl rfl);have f:∀i(hi:i<xs.length),(∃b o k,xs[i].1=.S b o 1 k/\w.cell? (.a b o)=some (.I (i:Int))/\M b)/\n2 w xs[i].2 [rN l i]:=λi hi=>by
  have B:i<(pX l).length:=by rw[G5];omega
  obtain⟨r,q⟩:=Mq i hi B;rw[av6 l i B]at r q;obtain⟨b,o,k,e,hb⟩:=av7 r;refine⟨⟨b,o,k,e,hb,?_⟩,q⟩;have:=a0.cell (a:=⟨F,dV+i*2,none⟩) X (A _ _ (IH xs i hi).1);grind[UT]
 obtain⟨⟨bD,b7,b3,SO,C,Oe⟩,-⟩:=f 0 AY;obtain⟨dR,h⟩:=MW (S:=xs.length) d;generalize a5:(xs.length+ab-1) / ab=N at dR h;have Oa:0<N:=by grind
 have LV:N<=xs.length:=by have D:=h (N-1) AY;have h2:=Nat.le_mul_of_pos_right (N-1) d;omega
 have Ki:∀t,t<N->∃b o n k,m_ xs (t*ab)=.S b o n k/\M b:=λt ht=>by grind[m_]
 have I:ma (lf (λT=>sM (rN l) (T*ab) (min (T*ab+ab) xs.length)) (N-1)) l.length (sumTo l l.length):=by
  have ke:(N-1)*ab+ab=N*ab:=by obtain⟨m,rfl⟩:∃m,N=m+1:=⟨N-1,AY⟩;grind
  have:=US l (L:=xs.length) d (N-1) (h _ AY);grind
 refine avW (c:=⟨5,j,aA,aR,gc,bD,b7,b3,0,W,ab,λT=>m_ xs (T*ab),λT=>sM (rN l) (T*ab) (min (T*ab+ab) xs.length),N,w.heap.size,cp,je,kh⟩) (xs:=xs) (vs:=rN l) ⟨K,Oe,dx (show w.cell? (.a aA (aR+0*2+0))=some (.I 2)from k1),dx C,Ki,?_,Oa,show N<=1000 by omega,av5 hs d AY h,Jy,Gi,Gj⟩ rfl p ⟨A,λi hi=>⟨?_,(f i hi).2⟩,AN,AN⟩ C AY (λi=>hs.at i) (λi hi=>?_) AY AY d hm Z hW (λfr dG D h2=>av4 hs D AY) rfl rfl a5.symm s J (λM w g cap aq ct r q U R Q P V Ee=>Y M w _ _ _ _ _ _ _ _ g cap aq ct _ I r q U R Q P V Ee)
 .show m_ xs (0*ab)=_;unfold m_;grind
 .grind
 grind
def oG{n:Nat}{s:Int}(h:ma t n s)(hn:0<n):cn 2 t=⟨false,rH s,0,lW⟩/\iT 2 t=decide (jf s):=by
 have b:=h.held;have a:¬t.held=0:=AY;refine⟨?_,?_⟩
 .unfold cn;rw[vcy AX,vcy a,vcy AX,vcy AX,h.sum,h.mB]
 .unfold iT;rw[vcy AN,h.sum]
section
variable{Post:fE}{l:uaf}{W ab:Nat}
abbrev AZ(l:uaf):List dg:=[([0],[⟨false,sumTo l l.length,0,lW⟩])]
def av8(hs:pW l)(h0:0<l.length)(aB:l.length<=300)(rK:jf (sumTo l l.length))(i:0<W)(m:W<=16)(p:0<ab)(k:ab<=64){args:dC}{D:List (List dg)}{M:c5}{w:aH}(X:aL (bU M) args args)(L:af 86 (be [(0,nC (5,0,[(2,0)])),(2,cP 1 n8 D),(3,kx W ab)]) ⟨args++Array.replicate (86-args.size) undef,[]⟩ w)(Q:D[0]?=some (pX l)):
 eb O prog Post 18 args M w 2 (λu _ w'=>(rp (AZ l)).R w' u/\cO M w w'):=by
 refine KG (j:=0) (cp:=rp (AZ l)) (je:=mD (AZ l)) (kh:=n_) rfl rfl rfl (λK o x c b=>SV c b) (λK o x c b=>SW c b) (λw x y f d=>by cases d;exact⟨x,rfl,f⟩) X L Q ?_;refine oT (cp:=rp (AZ l)) (je:=mD (AZ l)) (kh:=n_) rfl rfl rfl (λw u⟨v,e,h⟩=>⟨v,_,e,h,rfl⟩) (λw x y f d=>by cases d;exact⟨x,rfl,f⟩) hs h0 aB i m p k λM w op a aA aR gc bD b7 b3 g cap aq ct t hn aQ Z A z s r E Ee=>?_;obtain⟨V,e2⟩:=oG hn h0;have hw:=Kq hs l.length;intro n a9 I H f1 a1 B P r1 J cs1 R Y;refine avu aQ Z (by rw[hn.sum];omega) A (by rw[V];exact vaz _) z s r E Ee p k i m AN n a9 I H f1 a1 B P r1 J cs1 R λu M' w' C Kp U S T JZ q⟨x,e,b6,N,F⟩=>Y u M' w' C Kp U S T JZ q ⟨⟨x,e,?_,N⟩,cO.E1 F⟩;grind[ti]
def av9(hs:pW l)(h0:0<l.length)(aB:l.length<=300)(rK:¬jf (sumTo l l.length))(i:0<W)(m:W<=16)(p:0<ab)(k:ab<=64){args:dC}{D:List (List dg)}{M:c5}{w:aH}(V:aL (bU M) args args)(J:af 86 (be [(0,nC (5,0,[(2,0)])),(2,cP 1 n8 D),(3,kx W ab)]) ⟨args++Array.replicate (86-args.size) undef,[]⟩ w)(P:D[0]?=some (pX l)):
 eb O prog Post 18 args M w 2 (λu _ w'=>(y7 [0]).R w' u/\cO M w w'):=by
 refine KG (j:=0) (cp:=y7 [0]) (je:=n_) (kh:=Jn [0]) rfl rfl rfl (λK o x c b=>NC c b) (λK o x c b=>Ny c b) (λw x y f d=>by cases f;exact⟨y,rfl,d⟩) V J P ?_;refine oT (cp:=y7 [0]) (je:=n_) (kh:=Jn [0]) rfl rfl rfl (λw u⟨v,e,h⟩=>⟨_,v,e,rfl,h⟩) (λw x y f d=>by cases f;exact⟨y,rfl,d⟩) hs h0 aB i m p k λM w op a aA aR gc bD b7 b3 g cap aq ct t hn aQ Z A z s r E Ee=>?_;obtain⟨U,e2⟩:=oG hn h0;have hw:=Kq hs l.length;intro n a9 H F f1 a1 B N r1 I cs1 Q X;exact avw aQ Z (by rw[hn.sum];omega) A (by rw[U];exact vaz _) z s r E Ee p k i m AN n a9 H F f1 a1 B N r1 I cs1 Q λu M' w' C Kp T R S JZ q⟨x,e,Y,L⟩=>X u M' w' C Kp T R S JZ q ⟨⟨x,e,Y⟩,cO.E1 L⟩
