import Derived.Test.YtoehnnefaeoeoaaGreatPAS
set_option linter.all false
set_option maxRecDepth 100000
set_option maxHeartbeats 16000000
namespace Go.Proofs.YtoehnnefaeoeoaaGreat
open Go.Proofs.Tryz
namespace sJ
open Conc RowKit ConcM az bu ab gb iJ gF jn cZ yR
section
section
variable {Post:Value->World->Prop}
variable {b₁:Frame} {a₁:Act} {aG:Array Oper} {i₁:Nat} {aP:List Nat} {k₁:List Item} {cs₁:List Frame}
theorem arK{n:Nat}{Shun:Loc->Prop}{S f N W:Nat}{rows:Nat->Nat}(A:0<f)(C:f<=64)(B:0<W)(E:W<=16)(hS:S<=1000)(cj:N=(S+f-1) / f)(K:n+W<=250)(vV:kr rows N<=300)
 {jt:TypeId} {s t:Value} {x k9:FuncId} {bt:Nat->Prop} {w:World} {nE c7:dT->Nat->Value->(Nat->Prop)->World->Prop}
 (I:∀b,bt b->b<w.heap.size) (z:∀b,bt b\/w.heap.size<=b->∀l,fF l=some b->¬Shun l)
 (hinv:∀w,(callMethod (.iface jt s) "Size" #[]).run prog w=.ok (.enter x (#[t]++#[])) w/\(callMethod (.iface jt s) "Size" #[]).events prog w #[]=#[])
 (yT:∀(ST:Bool->e6.av->a6->Prop) bs,(∀m l g w M M',(∀b,M b->M' b)->ST m l ⟨g,w,M⟩->ST m l ⟨g,w,M'⟩)->jS prog ST true x (#[t]++#[]) (jq e6 () bt w bs) (fun u J=>u=.int .i64 (S:Int)/\J=jq e6 () bt w bs))
 (P:∀c de Stop d q r,GJ c bt S f N n W rows d q r->(∀b,bt b->de.heap[b]?=w.heap[b]?)->xI c de prog Stop 111 (.iface jt s) k9 t (fun T=>T*f) (fun T=>min (T*f+f) S) (nE c) (c7 c))
 {V:Value->World->Nat->(Loc->Prop)->Prop} (Ds:∀u w n Shun k,V u w n Shun->V u (w.at k) n Shun)
 (L:∀c de d q r h e M' D w' st,GJ c bt S f N n W rows d q r->U e6 bt w de->JM c (c7 c) (fun _=>False) de h e M' D w'->st=c.st->
  Tj e (cp prog Post h e) 91 #[.slice (some ⟨c.bG,0,none⟩) N N] (w'.setCell ⟨st,0,none⟩ (.int .i32 1)) (fun u o=>V u (o.setCell ⟨st,0,none⟩ (.int .i32 0)) h e/\(∃a n c,u=.slice a n c)/\o.heap[st]?=(w'.setCell ⟨st,0,none⟩ (.int .i32 1)).heap[st]?/\w'.heap.size<=o.heap.size))
 (Z:∀u w' h e,V u w' h e->cp prog Post h e 0 (Conc.G (b₁.at (a₁.put ((aG[i₁]?).bind (·.dst)) (.tuple #[u,.slice none 0 0])) (.inRegion aG aP::k₁)) cs₁) w'):
 cp prog Post n Shun 0 (Conc.G (Frame.enter prog 36 #[.agg #[.int .i64 (W:Int),.int .i64 (f:Int)],.iface jt s] .normal) (b₁.at a₁ (.inRegion aG (i₁::aP)::k₁)::cs₁)) w:=by
 refine arH A C B E hS cj K vV I z hinv yT P (fun c de d q r R dn ep Q X eu d7 ew ey ez eA eL eB eC eD eE fb fc fe h e M' D w' i F H j=>?_);obtain⟨T,m,p⟩:=j.st;rw[i.yT,i.arD,i.arE,i.arF,i.arG]at p;have O:c.K d:=(i.hK d).2 AU;have v:w'.heap[d]?=some (.cells #[.pointer (some ⟨c.st,0,none⟩)] 124):=(j.stands d (.inl O)).trans H;have y:=L c de d q r h e M' D w' c.st i F j rfl;exact Bs (aqp p v AU AU j.aqD j.aqE.1 (j.Eg d (.inl (j.sub d AU)) _ rfl) (V:=fun u o=>V u (o.setCell ⟨c.st,0,none⟩ (.int .i32 0)) h e) y (fun u o Y=>.stop AU))
end
end
end sJ
namespace b_
open Conc ConcM RowKit az bu ab gb iJ gF jn cZ sJ dD
theorem arM:xK NB:=by rintro ρ w w' rd e x c b ⟨v,h0,d⟩;obtain⟨a,ap,b0⟩:=b 0 _ h0;exact⟨a,ap,az.bd.cw m0 c b0 d⟩
theorem arN:sV NB:=fun _ _ _ _ _ b a⟨v,h0,c⟩=>⟨v,a _ _ h0,c.mono xM b⟩
theorem TE{D D':Nat->Prop}(h:∀b,D b->D' b):ay.le (fE D dz) (fE D' dz):=⟨fun _ b k=>⟨k.1,h b k.2⟩,fun _ k=>k.elim⟩
structure JT(M bt:Nat->Prop)(w:World)(d4:Nat)(rs:List dY)(u:Value)(w':World)(n':Nat)(cR:Loc->Prop)(dE:Nat->Prop):Prop where
 n:n'<=d4
 sub:∀b,M b->dE b
 new:∀b,dE b->M b\/¬bt b
 cl:i7 (ei prog false) dE dz w'
 val:aA (fE dE dz) u u
 rows:g9 w' u rs
 cap:tv rs.length u
 same:∀b,bt b->w'.heap[b]?=w.heap[b]?
 kp:∀b,dE b\/bt b\/w'.heap.size<=b->∀l,fF l=some b->¬cR l
 size:w.heap.size<=w'.heap.size
 later:OsLater w.os w'.os
 output:w'.output=w.output
 tape:w'.tape=w.tape
theorem JT.at{M bt:Nat->Prop}{w:World}{d4:Nat}{rs:List dY}{u:Value}{w':World}{a:Nat}{c:Loc->Prop}{b:Nat->Prop}(h:JT M bt w d4 rs u w' a c b)(k:Nat):JT M bt w d4 rs u (w'.at k) a c b:=
 ⟨h.n,h.sub,h.new,h.cl,h.val,bd.mono xM (fun _ _ _ x=>x) h.rows,h.cap,h.same,h.kp,h.size,h.later,h.output,h.tape⟩
theorem arO:i6 prog false f91=true:=by decide+kernel
theorem arP{S ak N n W:Nat}{rows:Nat->Nat}{M bt:Nat->Prop}{w:World}(BC:∀b,M b->bt b)(hg:∀g,g<=prog.globals.size->M g)(da:i7 (ei prog false) M dz w)(a8:List (List dY))(cj:N=a8.length)
 (jV:∀p∈a8,0<p.length) (Jw:a8.length<=1000) (Jx:∀k,la a8 k<=1000) {c7:Nat->Value->(Nat->Prop)->World->Prop}
 {c:dT} {de:World} {cC dy b2 n':Nat} {P:Loc->Prop} {M':Nat->Prop} {D:List Value} {w':World} (MX:∀T v N w,c7 T v N w->sA (ei prog false) M c.K (fun w v=>∃h:T<a8.length,g9 w v a8[T]) v N w) (q:GJ c bt S ak N n W rows cC dy b2) (y:U e6 bt w de)
 (f:JM c c7 (fun _=>False) de n' P M' D w') {Stop:Nat->Goroutine->World->Prop} {st:Nat} (L:st=c.st):
 Tj P Stop 91 #[.slice (some ⟨c.bG,0,none⟩) N N] (w'.setCell ⟨st,0,none⟩ (.int .i32 1))
  (fun u K=>(∃dE,JT M bt w (n+W) (l5 a8 a8.length) u (K.setCell ⟨st,0,none⟩ (.int .i32 0)) n' P dE)/\(∃a n c,u=.slice a n c)/\K.heap[st]?=(w'.setCell ⟨st,0,none⟩ (.int .i32 1)).heap[st]?/\w'.heap.size<=K.heap.size):=by
 subst L;subst cj;have H:c.N=a8.length:=q.cj;have abn:c.st<w'.heap.size:=f.low _ K0;have F:(w'.setCell ⟨c.st,0,none⟩ (.int .i32 1)).heap.size=w'.heap.size:=ab.oh _ _ _;have qu:∀b,M' b->(w'.setCell ⟨c.st,0,none⟩ (.int .i32 1)).heap[b]?=w'.heap[b]?:=fun b d=>mw w' _ _ (fun e=>f.Tr AU);have TF:(w'.setCell ⟨c.st,0,none⟩ (.int .i32 1)).os=w'.os/\(w'.setCell ⟨c.st,0,none⟩ (.int .i32 1)).output=w'.output/\(w'.setCell ⟨c.st,0,none⟩ (.int .i32 1)).tape=w'.tape:=⟨rfl,rfl,rfl⟩;generalize po:w'.setCell ⟨c.st,0,none⟩ (.int .i32 1)=w1 at *;have aFc:∀b,bt b->M' b:=fun b d=>f.sub b (.inr (.inl ((q.hK b).2 (.inl d))));have aFd:∀b,bt b->w'.heap[b]?=w.heap[b]?:=fun b d=>(f.stands b (.inl ((q.hK b).2 (.inl d)))).trans (y.heap b (.inr d));have m:∀p:Nat,∃(v:Value)(G:Nat->Prop),p<a8.length->D[p]?=some v/\(∀b,G b->M' b/\¬c.K b)/\i7 (ei prog false) (fun b=>M b\/G b) dz w'/\aA (fE (fun b=>M b\/G b) dz) v v/\∃h:p<a8.length,g9 w' v a8[p]:=by
  intro p;by_cases l:p<a8.length
  ·obtain⟨v,z,r⟩:=f.Gh p (H▸l);obtain⟨G,g1,fR,gL,ka⟩:=MX _ _ _ _ r;exact⟨v,G,AU⟩
  ·exact⟨.bool false,dz,AU⟩
 obtain⟨vs,m⟩:=Classical.skolem.1 m;obtain⟨G,m⟩:=Classical.skolem.1 m;let s:Nat->Prop:=fun b=>M b\/b=c.bG\/∃p,p<a8.length/\G p b
 have TG:∀b,s b->M' b:=by
  rintro b (h|h|⟨p,l,h⟩)
  ·grind
  ·exact f.sub b (.inr (.inr h))
  grind
 have E:∀p,p<a8.length->∀b,M b\/G p b->s b:=by grind
 have C:i7 (ei prog false) s dz w1:=by
  intro b d;rw[qu b (TG b d)];rcases d with h|h|⟨p,l,h⟩
  ·obtain⟨o,z,r⟩:=da b h;exact⟨o,AU,r.imp (il.mono (TE AU)) id⟩
  ·subst h;refine⟨_,f.done,.inl (.cells _ (iA fun v hv=>?_) AU)⟩;obtain⟨p,l,rfl⟩:=List.getElem_of_mem hv;have Gy:p<a8.length:=by rw[<-H,<-f.len];exact l
   have:=m p Gy;rw[List.getElem?_eq_getElem l]at this;have e:=Option.some.inj this.1;rw[e];exact this.2.2.2.1.mono (TE (E p Gy))
  ·obtain⟨o,z,r⟩:=(m p l).2.2.1 b (.inr h);exact⟨o,z,r.imp (il.mono (TE (E p l))) id⟩
 have iZ:a3 (fE s dz) #[Value.slice (some ⟨c.bG,0,none⟩) a8.length a8.length] #[Value.slice (some ⟨c.bG,0,none⟩) a8.length a8.length]:=.one (.slice _ _ ⟨⟨rfl,.inr Jt⟩,rfl,rfl⟩);have X:bd w1 1 NB (.slice (some ⟨c.bG,0,none⟩) a8.length a8.length) a8:=by
  refine⟨_,_,rfl,Ay,fun i hi=>⟨c.bG,0,rfl,vs i,?_,?_⟩⟩
  ·have z:=(m i hi).1;have r:w1.heap[c.bG]?=some (.cells D.toArray c.F6):=(qu _ AU).trans f.done;simp_all[World.cell?]
  ·obtain⟨z,r,h3,h4,bn,bI⟩:=m i hi;exact az.bd.cw m0 (wu AU h3) h4 bI
 obtain⟨Z,aM⟩:=HZ (ei prog false) s dz w1;intro NS NT JL NU NV t NW hk;have V:∀T,Calls (ai prog false) 91 #[Value.slice (some ⟨c.bG,0,none⟩) a8.length a8.length] {Z with tape:=T} (fun e J=>∃v,e=.returned v/\g9 J v (l5 a8 a8.length)/\tv (la a8 a8.length) v):=fun T=>
  (aot a8 _ {Z with tape:=T} (bd.mono arN (DY Z T) (az.bd.cw arM (aM.cw C) (iZ.get 0 _ _ rfl rfl) X)) jV Jw Jx).mono AU
 have sd:=RG lS func91 arO rfl AS C AU AU iZ (R:=fun v J=>g9 J v (l5 a8 a8.length)/\tv (la a8 a8.length) v) aM V true (NS.at NT (.inRegion JL (NU::NV)::t)) NW;refine R_ sd rfl (fun b d=>?_) (fun b d=>?_) ?_
 ·rcases d with h|h
  ·rw[F];exact f.low b AU
  ·exact h.elim
 ·rcases d with h|h|h
  ·exact f.Eg b AU
  ·exact h.elim
  ·exact f.Eg b AU
 rintro Y ⟨ρ,J,v,I,j⟩ hl;rw[j.g,Frame.finish_at];obtain⟨aFe,hW⟩:=j.world;have nZ:∀b,Y.mine b->w1.heap.size<=b/\b<Y.w.heap.size:=fun b d=>(hl.new b d).resolve_left fun h=>h.elim;have JP:∀b,(∃a,ρ.rel a b)->s b\/w1.heap.size<=b:=by
  rintro b ⟨a,O⟩;rcases j.wZ a b O with h|h
  ·grind
  grind
 have aFf:∀b,b<w1.heap.size->Y.w.heap[b]?=w1.heap[b]?:=fun b d=>hl.kept b d fun h=>h.elim;have aFg:¬ ∃a,ρ.rel a c.st:=fun h=>by
  rcases JP _ h with h|h
  ·exact f.Tr (TG _ h)
  ·omega
 have B:∀b,(∃a,ρ.rel a b)->(Y.w.setCell ⟨c.st,0,none⟩ (.int .i32 0)).heap[b]?=Y.w.heap[b]?:=fun b d=>mw _ _ _ AU;have A:=hW.closed dz;have vR:aA (fE (fun b=>∃a,ρ.rel a b) dz) I I:=aA.right (σ:=fE (fun b=>∃a,ρ.rel a b) dz) (fun a b O=>⟨rfl,a,O⟩) j.val;have gy:g9 Y.w I (l5 a8 a8.length):=az.bd.cw m0 hW.cw j.val j.post.1;have Q:w'.heap.size<=Y.w.heap.size:=AU;have aFh:w.heap.size<=w'.heap.size:=Nat.le_trans y.size f.size;have aFi:(Y.w.setCell ⟨c.st,0,none⟩ (.int .i32 0)).heap.size=Y.w.heap.size:=ab.oh _ _ _;refine hk I Y.w ⟨⟨fun b=>∃a,ρ.rel a b,⟨?_,fun b d=>⟨b,j.le.1 b b ⟨rfl,.inl d⟩⟩,fun b d=>?_,wt A B,vR,az.bd.cw m0 (wu B A) vR gy,j.post.2.cw j.val,fun b d=>?_,fun b d=>?_,?_,?_,?_,?_⟩⟩,?_,?_,Q⟩
 ·rw[<-q.fo];exact f.n
 ·rcases JP b d with h|h
  ·rcases h with h|h|⟨p,l,h⟩
   ·grind
   ·exact .inr fun x=>(c.Bh b ((q.hK b).2 (.inl x))).2.2 h
   ·exact .inr fun x=>((m p l).2.1 b h).2 ((q.hK b).2 (.inl x))
  ·exact .inr fun x=>by have:=f.low b AU;omega
 ·have hlt:b<w1.heap.size:=by rw[F];exact f.low b AU
  have hne:b≠c.st:=(c.Bh b ((q.hK b).2 (.inl d))).1;grind[mw]
 ·rcases d with h|h|h
  ·rcases JP b h with h|h
   ·exact f.Eg b (.inl (TG b h))
   ·exact f.Eg b AU
  ·exact f.Eg b AU
  ·exact f.Eg b AU
 ·omega
 ·exact(y.later.trans f.os).trans (by have:=hl.os;rw[show(Y.w.setCell ⟨c.st,0,none⟩ (.int .i32 0)).os=Y.w.os from rfl,<-TF.1];grind)
 ·exact(show Y.w.output=_ from hl.output).trans (TF.2.1.trans (f.output.trans y.output))
 ·exact(show Y.w.tape=_ from hl.tape).trans (TF.2.2.trans (f.tape.trans y.tape))
 ·obtain⟨a,cap,e,_⟩:=j.post.2.cw j.val;grind
 grind
end b_
namespace bD
open Conc ConcM RowKit az bu ab gb iJ gF jn cZ sJ dD b_
section
variable {O:jW}
theorem fA:(df prog).Good:=Xd true AS AS
theorem TH{C p:cU}{D M M':Nat->Prop}{w:World}(h:i7 C D M w):i7 p D M' w:=by
 intro b j;obtain⟨o,m,d⟩:=h b j;have f:∀a b,(fE D M).rel a b->(fE D M').rel b b:=fun a b k=>⟨rfl,k.2⟩;refine⟨o,m,?_⟩;rcases d with d|d
 ·cases o with
  |cells c e fr=>cases d with|cells _ i _=>exact .inl (.cells e (i.right f) AU)
  |map es k=>cases d with|map _ g=>exact .inl (.map k (g.right fun a b x=>⟨x.key.right f,x.val.right f,rfl⟩))
  |number a l=>cases d with|number n _=>exact .inl (.number (n.right f) l)
  |coro x=>cases d with|qa h=>grind
  | _=>first|exact .inr trivial|(cases d)
 grind
theorem yW{D M M':Nat->Prop}{v:Value}(h:aA (fE D M) v v):aA (fE D M') v v:=aA.right (ρ:=fE D M) (σ:=fE D M') (fun _ _ k=>⟨rfl,k.2⟩) h
def cut{ar:Type}(g:Nat->ar)(fr aL:Nat):List ar:=(List.range (aL-fr)).map fun k=>g (fr+k)
theorem JU{ar:Type}(g:Nat->ar)(fr aL:Nat):(cut g fr aL).length=aL-fr:=by simp[cut]
theorem arT{ar:Type}(g:Nat->ar){a b c:Nat}(h:a<=b)(f:b<=c):cut g a b++cut g b c=cut g a c:=by
 apply List.ext_getElem
 ·simp[JU];omega
 ·intro i hi d;simp[cut]at hi d;by_cases e:i<b-a
  ·grind[cut]
  ·rw[List.getElem_append_right (by simp[cut];omega)];grind[cut]
def pieces(g:Nat->dY)(ak S N:Nat):List (List dY):=(List.range N).map fun T=>cut g (T*ak) (min (T*ak+ak) S)
theorem BR(g:Nat->dY)(a S N:Nat):(pieces g a S N).length=N:=by simp[pieces]
theorem TI(g:Nat->dY)(a S N T:Nat)(h:T<(pieces g a S N).length):(pieces g a S N)[T]=cut g (T*a) (min (T*a+a) S):=by simp[pieces]
theorem N7(g:Nat->dY){a S N:Nat}:∀k,k<=N->l5 (pieces g a S N) k=cut g 0 (min (k*a) S)
 |0,_=>by simp[l5,cut]
 |k+1,h=>by
  rw[SH (by rw[BR];omega),N7 g k Ay,TI];rcases Nat.lt_or_ge (k*a) S with x|x
  ·rw[Nat.min_eq_left (Nat.le_of_lt x),arT g (Nat.zero_le _) Ay,Nat.succ_mul]
  ·have e:cut g (k*a) (min (k*a+a) S)=[]:=by grind[List.eq_nil_of_length_eq_zero,JU]
   grind
theorem TJ{a S:Nat}(b:0<a):S<=(S+a-1) / a*a/\∀T,T<(S+a-1) / a->T*a<S:=by
 have h:=Nat.div_add_mod (S+a-1) a;have e:=Nat.mod_lt (S+a-1) b;have d:(S+a-1) / a*a=a*((S+a-1) / a):=Nat.mul_comm _ _;constructor
 ·omega
 ·intro T c;have:(T+1)*a<=(S+a-1) / a*a:=Nat.mul_le_mul_right _ c;grind
theorem abZ{a S:Nat}:∀N,gb.kr (fun T=>min (T*a+a) S-T*a) N=min (N*a) S
 |0=>by simp[gb.kr]
 |N+1=>by rw[gb.kr,abZ N,Nat.succ_mul];omega
def JV(M:Nat->Prop)(w:World)(rs:List dY)(u:Value)(_:Nat->Prop)(w':World):Prop:=
 ∃v,u=.tuple #[v,.slice none 0 0]/\g9 w' v rs/\tv rs.length v/\∀b,M b->w'.heap[b]?=w.heap[b]?
section
variable {Post:Value->World->Prop} {M:Nat->Prop} {w:World}
theorem ab0(g:Nat->dY){a S N W:Nat}(s:0<a)(L:a<=64)(K:0<W)(Q:W<=16)(hS:S<=300)(cj:N=(S+a-1) / a){jt:TypeId}{q r:Value}{A k9:FuncId}{nE:dT->Nat->Value->(Nat->Prop)->World->Prop}
 (hinv:∀w,(callMethod (.iface jt q) "Size" #[]).run prog w=.ok (.enter A (#[r]++#[])) w/\(callMethod (.iface jt q) "Size" #[]).events prog w #[]=#[])
 (z:∀g,g<=prog.globals.size->M g) (Z:i7 (ei prog false) M dz w)
 (yT:∀(ST:Bool->e6.av->a6->Prop) bs,(∀m l g w M M',(∀b,M b->M' b)->ST m l ⟨g,w,M⟩->ST m l ⟨g,w,M'⟩)->jS prog ST true A (#[r]++#[]) (jq e6 () (fun b=>M b\/b<O.n) w bs) (fun u b4=>u=.int .i64 (S:Int)/\b4=jq e6 () (fun b=>M b\/b<O.n) w bs))
 (JS:∀c de Stop,(∀b,M b->c.K b)->c.N=N->(∀T,T<N->c.rows T=min (T*a+a) S-T*a)->(∀b,M b->de.heap[b]?=w.heap[b]?)->xI c de prog Stop 111 (.iface jt q) k9 r (fun T=>T*a) (fun T=>min (T*a+a) S) (nE c) (fun T v M' w=>sA (ei prog false) M c.K (fun w v=>T<c.N/\g9 w v (cut g (T*a) (min (T*a+a) S))) v M' w)):
 qH O prog Post 36 #[.agg #[.int .i64 (W:Int),.int .i64 (a:Int)],.iface jt q] M w 1 (JV M w (cut g 0 S)):=by
 intro n Shun aj e eV a₁ aG i₁ aP k₁ cs₁ hc d_;obtain⟨C,B⟩:=TJ (S:=S) s;rw[<-cj]at C B;have aFk:N<=S:=by
  have:∀k,k<=N->k<=S:=by intro k F;cases k with|zero=>grind|succ k=>have:=B k F;have h2:=Nat.le_mul_of_pos_right k s;omega
  grind
 refine arK (rows:=fun T=>min (T*a+a) S-T*a) (bt:=fun b=>M b\/b<O.n) (c7:=fun c T v M' w=>sA (ei prog false) M c.K (fun w v=>T<c.N/\g9 w v (cut g (T*a) (min (T*a+a) S))) v M' w) s L K Q Ay cj Ay (by rw[abZ];omega) (fun b d=>d.elim e.lt fun x=>Nat.lt_of_lt_of_le x e.ob) (fun b d=>d.elim (fun x=>x.elim (fun y=>e.kp b (.inl y)) (e.so b)) fun x=>e.kp b (.inr x)) hinv yT
  (fun c de Stop cC Y b2 j H=>JS c de Stop (fun b d=>(j.hK b).2 (.inl (.inl d))) j.cj j.vV AU)
  (V:=fun u w' f i=>∃o,JT M (fun b=>M b\/b<O.n) w (n+W) (cut g 0 S) u w' f i o) (fun u w' f i k h=>by obtain⟨o,h⟩:=h;exact⟨o,h.at k⟩) (fun c de cC Y b2 f i M' D w' st j H c0 t=>?_) (fun u w' f i J=>?_)
 ·have Jw:l5 (pieces g a S N) (pieces g a S N).length=cut g 0 S:=by rw[BR,N7 g N Jr,Nat.min_eq_right C]
  have:=arP (Stop:=cp prog Post f i) AU z Z (pieces g a S N) (BR g a S N).symm (fun p al=>?_) (by rw[BR];omega) (fun k=>?_) (fun T v M w h=>?_) j H c0 t
  ·grind
  ·grind[List.getElem_of_mem,TI,JU,BR]
  ·by_cases F:k<=N
   ·grind[la,N7,JU]
   ·unfold la l5;rw[List.take_of_length_le (by rw[BR];omega)];have:(pieces g a S N).flatten=l5 (pieces g a S N) N:=by simp_all[l5,List.take_of_length_le,BR]
    rw[this,N7 g N Jr,JU];omega
  ·obtain⟨G,g1,X,U,I,js⟩:=h;have R:T<(pieces g a S N).length:=by rw[BR,<-j.cj];exact I
   exact⟨G,g1,X,U,R,by grind[TI]⟩
 ·obtain⟨o,h⟩:=J;refine d_ (.tuple #[u,.slice none 0 0]) o w' f i (by have:=h.n;omega) ⟨TH h.cl,fun g P=>h.sub g (z g P),fun b d=>h.kp b (d.imp id .inr),fun b d h0=>(h.new b d).elim (fun x=>e.new b x h0) AU,Nat.le_trans e.ob h.size,fun b h0 d=>(h.same b (.inr d)).trans (e.old b h0 d),fun b d=>h.kp b AU⟩ h.sub (.E8 (iA fun x E=>?_)) ⟨h.size,h.later,h.output,h.tape⟩ ⟨u,rfl,h.rows,h.cap,fun b d=>h.same b (.inl d)⟩;simp at E;rcases E with rfl|rfl
  ·exact yW h.val
  ·exact .hA _ _
theorem arU{t:List br}{v:Value}(q:i7 (df prog) M (ig M) w)(e:∀g,g<=prog.globals.size->M g)(k:lV w v t)(hrel:aA (cB M) v v)(h0:0<t.length)(d:t.length<=1000000){a S W:Nat}(f:0<a)(m:a<=64)(l:0<W)(n:W<=16)(hS:S<=300)(hZ:t[0].fY.length=S)(dF:∀i,i<S->∀c∈t,xk i c):
 qH O prog Post 36 #[.agg #[.int .i64 (W:Int),.int .i64 (a:Int)],.iface 113 (.agg #[v])] M w 1 (JV M w (bF t 0 S)):=by
 have j:i7 (ei prog false) M dz w:=TH q;have r:(fun b=>M b\/dz b)=M:=by
  funext b
  exact propext ⟨fun h=>h.resolve_right fun x=>x,.inl⟩
 refine ab0 (k9:=205) (nE:=fun c T u M' w=>sA (ei prog false) M c.K (yI t (T*a) (min (T*a+a) S)) u M' w) (fun i=>([((i:Nat):Int)],t.map (mW · i))) f m l n hS rfl (aoK v) e j (fun ST bs s=>?_) (fun c de Stop hK cj vV p=>?_)
 ·grind[aoH,yW]
 ·refine aof (v:=v) (t:=t) (dP:=M) hK e (by grind[wt]) (az.bd.cw yG (wu p j) (yW hrel) k) (by grind[yW]) (fun args w=>aoJ v args w) d (fun T o=>?_) AU;have:=(TJ (S:=S) f).2 T (cj▸o);grind
theorem arV{es:List (List cd)}{rs:List dY}{outs:Nat->List bU}(ok:Gu es rs outs){ev a9:Value}(t:i7 (df prog) M (ig M) w)(e:∀g,g<=prog.globals.size->M g)(j:mP w ev es)(k:g9 w a9 rs)(hd:tv rs.length a9)(n:aA (cB M) ev ev)(m:aA (cB M) a9 a9){a W:Nat}(f:0<a)(q:a<=64)(p:0<W)(r:W<=16)(hS:rs.length<=300):
 qH O prog Post 36 #[.agg #[.int .i64 (W:Int),.int .i64 (a:Int)],.iface 106 (.agg #[ev,a9])] M w 1 (JV M w (eX rs outs 0 rs.length)):=by
 have d:i7 (ei prog false) M dz w:=TH t;have v:(fun b=>M b\/dz b)=M:=by
  funext b
  exact propext ⟨fun h=>h.resolve_right fun x=>x,.inl⟩
 obtain⟨z,ec,y,-⟩:=id j;refine ab0 (k9:=191) (nE:=fun c T u M' w=>sA (ei prog false) M c.K (yO es rs (T*a) (min (T*a+a) rs.length)) u M' w) (fun i=>((rs[i]?.map (·.1)).getD [],outs i)) f q p r hS rfl (aoM ev a9) e d (fun ST bs o=>aoI (bs:=bs) AU e d AU k (yW n) (yW m) o) (fun c de Stop hK cj vV l=>?_);refine aoo (dP:=M) hK e (by grind[wt]) ok (az.bd.cw yH (wu l d) (yW n) j) (az.bd.cw m0 (wu l d) (yW m) k) hd (by grind[yW]) (by grind[yW]) (fun args w=>aoL ev a9 args w) (fun T s=>?_) AU;have:=(TJ (S:=rs.length) f).2 T (cj▸s);grind
end
end
end bD
namespace bD
open Conc ConcM RowKit az bu cZ dD b_
variable {c:Array Value}{ρ:ay}{e:TypeId}{ev gz lh li v:Value}
section
variable {O:jW}
def aF(f:Func)(id:Nat):Array Oper:=ba.iD ((ba.cH id (f.body.getD .skip)).getD .skip)
def dR(f:Func)(id:Nat):Code:=ba.fK ((ba.cH id (f.body.getD .skip)).getD .skip)
theorem iE{l:Option Oper}{o o':Oper}(h:l=some o)(e:l=some o':=by simp only[aF,Tryz.f7,Tryz.f3,Tryz.f4,Tryz.f14,Tryz.f16,Tryz.f19,Tryz.f26,Option.getD_some,ba.cH,ba.iD,Nat.reduceBEq,Bool.false_eq_true,↓reduceIte];exact rfl):o'=o:=Option.some.inj (e.symm.trans h)
theorem ju{l aW:Array Oper}{j:Nat}{o:Oper}(h:l[j]?=some o)(e:l=aW:=by simp only[aF,Tryz.f7,Tryz.f3,Tryz.f4,Tryz.f14,Tryz.f16,Tryz.f19,Tryz.f26,Option.getD_some,ba.cH,ba.iD,Nat.reduceBEq,Bool.false_eq_true,↓reduceIte];exact rfl):aW[j]?=some o:=e▸h
def fL(f:Func):Code:=f.body.getD .skip
theorem enter_at{P:Program}{f:FuncId}{fn:Func}{c:Code}(a:P.funcs[f]?=some fn)(b:fn.body=some c)(args:Array Value):Frame.enter P f args .normal=(base f).at ⟨args++Array.replicate (fn.ntmps-args.size) undef,[]⟩ [.code c]:=by grind[Frame.enter,Frame.at,base]
theorem BS(ρ:ay)(n:Nat):a3 ρ (Array.replicate n undef) (Array.replicate n undef):=⟨rfl,fun i v b h a=>by
 rw[Array.getElem?_replicate]at h a;split at h<;>simp_all
 subst h;subst a;exact .undef ρ⟩
section
variable {P:Program} {M:Nat->Prop} {Shun:Loc->Prop} {w:World}
theorem Behind.obj{i w':World}(h:Behind O P M Shun w ρ i w'){b d:Nat}(k:ρ.rel b d){fr:Nat×Nat}(n:i.heap[b]?=some (.cells c e fr))(m:a3 (cB M) c c):w'.heap[d]?=some (.cells c e fr):=by obtain⟨S,g⟩:=h.rel;obtain⟨o,o',f,j,q⟩:=g.obj b d k;rw[n]at f;cases f;cases q with|@cells _ s _ _ r a l=>have p:r=fr:=l.2 rfl;subst p;rw[Nh g.one a (m.mono h.le)]at j;exact j
theorem Behind.e7{ρ:ay}{g w':World}(_:Behind O P M Shun w ρ g w'){b o:Nat}{u:Value}(f:aA ρ (.pointer (some ⟨b,o,none⟩)) u):∃a,u=.pointer (some ⟨a,o,none⟩)/\ρ.rel b a:=by cases f with|@e7 _ a' r=>obtain⟨a,o',h⟩:=a';obtain⟨c,e,d⟩:=r;simp only at c e d;subst e;subst d;exact⟨a,rfl,c⟩
theorem Home.vt(h:Home O P M Shun w){a:World}(g:gW (df P) M (ig M) w a){b:Nat}{fr:Nat×Nat}(f:M b)(d:w.heap[b]?=some (.cells c e fr)):a.heap[b]?=some (.cells c e fr):=by obtain⟨i,j,k⟩:=g.cells h.cl f d;grind
end
theorem N8:i6 prog true Tryz.f26=true:=by decide+kernel
theorem arW(B W b:Int)(ev lh gz li a c:Value)(w:World):
 c2 (ai prog true) [.code (fL Tryz.f26)] [.code (.region 10 (aF Tryz.f26 10) true),.code (dR Tryz.f26 10)]
  (fun a1 w1=>a1.defers=[]/\(a1.tmps.size=86/\a1.tmps[1]?=some a/\a1.tmps[4]?=some (.pointer (some ⟨w.heap.size,0,none⟩))/\a1.tmps[7]?=some (.pointer (some ⟨w.heap.size+1,0,none⟩)))/\w1=(w.alloc (.cells #[.int .i64 1,.int .i64 0,.int .i64 B,ev,lh,gz,li] 37)).alloc (.cells #[.int .i64 W,.int .i64 b] 64))
  ⟨#[.agg #[.int .i64 1,.int .i64 0,.int .i64 B,ev,lh,gz,li],a,c,.agg #[.int .i64 W,.int .i64 b]]++Array.replicate 82 undef,[]⟩ w:=by
 simp[aF,dR,fL,Tryz.f26,ba.cH,ba.fK,ba.iD];simp[Array.replicate_succ];refine cn (g_ ?_);go_wp2
 refine⟨rfl,cn (g_ ?_)⟩;go_wp2
 refine⟨rfl,cn (om Bp)⟩
def N9(M:Nat->Prop)(w:World)(rs:List dY)(u:Value)(_:Nat->Prop)(w':World):Prop:=
 ∃v,u=.tuple #[v,.slice none 0 0]/\g9 w' v rs/\tv rs.length v/\fm M w w'
def vu(rs:List dY)(v:Value)(_:Nat->Prop)(w:World):Prop:=g9 w v rs/\tv rs.length v
theorem TK(rs:List dY):DQ (vu rs):=fun _ _ _ _ _ b a _ _ h=>⟨az.bd.cw m0 b a h.1,h.2⟩
theorem ab1(rs:List dY):DQ fun u M w=>∃v,u=.tuple #[v,.slice none 0 0]/\vu rs v M w:=by rintro u M w M' w' e a b c ⟨v,rfl,h⟩;refine⟨v,rfl,TK rs v M w M' w' e ?_ b c h⟩;cases a with|tuple _ d=>exact d 0 _ _ rfl rfl
def wG(j:Nat):Nat:=#[75,76,77,78,79,80,81,82,83,84,85,8,9].getD j 0
def Ej(cm v:Value)(bS dg aL:Nat)(W ak:Int)(rs:List dY)(j:Nat):Value->(Nat->Prop)->World->Prop:=
 match j with
 |0=>fun x _ _=>x=.agg #[.int .i64 W,.int .i64 ak]
 |1=>fun x _ _=>x=cm
 |2=>fun x _ _=>x=.pointer (some ⟨bS,1,none⟩)
 |3=>fun x _ _=>x=.int .i64 0
 |4=>fun x _ _=>x=.pointer (some ⟨dg,aL,none⟩)
 |5=>fun x _ _=>x=.agg #[v]
 |6=>fun x _ _=>x=.agg #[v]
 |7=>fun x _ _=>x=.iface 113 (.agg #[v])
 |8=>fun u M w=>∃x,u=.tuple #[x,.slice none 0 0]/\vu rs x M w
 |9=>vu rs
 |10=>fun x _ _=>x=.slice none 0 0
 |11=>vu rs
 | _=>fun x _ _=>x=.slice none 0 0
theorem arX(b v:Value)(bS a aL:Nat)(W c:Int)(rs:List dY)(j:Nat):DQ (Ej b v bS a aL W c rs j):=by unfold Ej;split<;>first|exact ZX _ |exact TK rs|exact ab1 rs
theorem arY(c v:Value)(bS b aL:Nat)(W d:Int)(rs:List dY)(j:Nat)(u:Value)(M:Nat->Prop)(w:World)(k:Nat)(h:Ej c v bS b aL W d rs j u M w):Ej c v bS b aL W d rs j u M (w.at k):=by have a:∀v,vu rs v M w->vu rs v M (w.at k):=fun v h=>⟨bd.mono xM (fun _ _ _ x=>x) h.1,h.2⟩;revert h;unfold Ej;split<;>intro h<;>first|exact h|exact a _ h|(obtain⟨x,f,e⟩:=h;exact⟨x,f,a _ e⟩)
theorem N_:prog.follows .mixedOrders=true:=by decide+kernel
theorem arZ{Post:Value->World->Prop}{M:Nat->Prop}{w:World}{B:Int}{nL:Value}{q aL I:Nat}{t:List br}(iZ:a3 (cB M) #[.agg #[.int .i64 1,.int .i64 0,.int .i64 B,ev,lh,gz,li],.slice (some ⟨q,aL,none⟩) 1 I,nL] #[.agg #[.int .i64 1,.int .i64 0,.int .i64 B,ev,lh,gz,li],.slice (some ⟨q,aL,none⟩) 1 I,nL])
 (iu:w.cell? ⟨q,aL,none⟩=some v) (hv:lV w v t) (h0:0<t.length) (hsm:t.length<=1000000) {C S W:Nat} (iL:0<C) (hm:C<=64) (R:0<W) (hW:W<=16) (hS:S<=300) (hZ:t[0].fY.length=S) (dF:∀i,i<S->∀c∈t,xk i c):
 qH O prog Post 26 #[.agg #[.int .i64 1,.int .i64 0,.int .i64 B,ev,lh,gz,li],.slice (some ⟨q,aL,none⟩) 1 I,nL,.agg #[.int .i64 W,.int .i64 C]] M w 1 (N9 M w (bF t 0 S)):=by
 intro n Shun aj a7 eV a₁ aG i₁ aP k₁ cs₁ hc d_;have wH:M q:=by have:=iZ.get 1 _ _ rfl rfl;cases this with|slice _ _ r=>exact r.1.2
 have E:mz prog 26:=Bw func26 N8 rfl;rw[enter_at func26 (c:=fL Tryz.f26) rfl];refine Ji fA a7 E (a:=⟨_,_⟩) ?_ rfl (k:=[.code (fL Tryz.f26)]) (k':=[.code (.region 10 (aF Tryz.f26 10) true),.code (dR Tryz.f26 10)]) AS AS
  (Q:=fun m a1 w1=>(a1.tmps.size=86/\a1.tmps[1]?=some (.slice (some ⟨q,aL,none⟩) 1 I)/\a1.tmps[4]?=some (.pointer (some ⟨m.heap.size,0,none⟩))/\a1.tmps[7]?=some (.pointer (some ⟨m.heap.size+1,0,none⟩)))/\∃T:Nat->Question->Nat,w1=(({m with tape:=T}:World).alloc (.cells #[.int .i64 1,.int .i64 0,.int .i64 B,ev,lh,gz,li] 37)).alloc (.cells #[.int .i64 W,.int .i64 C] 64)) (fun m y T b cs=>?_) ?_
 ·refine(a3.append (a:=#[.agg #[.int .i64 1,.int .i64 0,.int .i64 B,ev,lh,gz,li],.slice (some ⟨q,aL,none⟩) 1 I,nL]) (b:=#[.agg #[.int .i64 W,.int .i64 C]]) iZ (.one (.ki (iA (l:=[.int .i64 W,.int .i64 C]) fun x L=>?_)))).append (BS _ _);simp at L;rcases L with rfl|rfl<;>exact .int _ _
 ·obtain⟨a1,w1,⟨h1,h2,h3⟩,h4⟩:=arW B W C ev lh gz li (.slice (some ⟨q,aL,none⟩) 1 I) nL {m with tape:=T} b cs;exact⟨a1,w1,AU,h4⟩
 rintro ρ m a1 w1 a' w' y ⟨⟨hsz,h1,h4,eO⟩,T,rfl⟩ X gu A;have iK:fm M w w':=A.Gm a7 y fun b c e z U L=>by grind[World.alloc]
 obtain⟨u1,k1,r1⟩:=X.some h1;obtain⟨u4,jD,zI⟩:=X.some h4;obtain⟨u7,wI,sN⟩:=X.some eO;obtain rfl:=A.same (iZ.get 1 _ _ rfl rfl) r1;obtain⟨bS,rfl,q4⟩:=A.e7 zI;obtain⟨bK,rfl,tu⟩:=A.e7 sN;have Oa:a3 (cB M) #[.int .i64 1,.int .i64 0,.int .i64 B,ev,lh,gz,li] #[.int .i64 1,.int .i64 0,.int .i64 B,ev,lh,gz,li]:=by have:=iZ.get 0 _ _ rfl rfl;cases this with|agg h1 h2=>exact⟨h1,h2⟩
 have o4:=A.obj q4 (c:=#[.int .i64 1,.int .i64 0,.int .i64 B,ev,lh,gz,li]) (e:=37) (fr:=(0,0)) (by simp[World.alloc,Array.getElem?_push]) Oa;have Nw:=A.obj tu (c:=#[.int .i64 W,.int .i64 C]) (e:=64) (fr:=(0,0)) Ec (iA (l:=[.int .i64 W,.int .i64 C]) fun x L=>by
  simp at L;rcases L with rfl|rfl<;>exact .int _ _)
 have ct:=iK.cell wH iu;have qF:aA (cB M) v v:=a7.cell wH iu;have Gv:lV w' v t:=az.bd.cw yG (iK.cw a7) qF hv;have hst:gG O prog [(1,.slice (some ⟨q,aL,none⟩) 1 I),(4,.pointer (some ⟨bS,0,none⟩)),(7,.pointer (some ⟨bK,0,none⟩))] wG 13 86 (Ej (.slice (some ⟨q,aL,none⟩) 1 I) v bS q aL W C (bF t 0 S)) 13 (l3 ρ) w' 8 n (n+16) (Array.replicate 13 false) a' (l3 ρ) w' n Shun:=
  .start A.dH (by rw[<-X.size];grind) gu (A.all X) AU AU
 refine Ni N_ (fun _ _ _ _ _ _ k h=>h.at (arY _ _ _ _ _ _ _ _) k) ?_ ?_ hst
 ·intro aq s M2 Y gj pL i o rest f iH D cx K;have hi:i<13:=by have:(aF Tryz.f26 10).size=13:=AS;grind
  have P:(Item.inRegion (aF Tryz.f26 10) []::[.code (dR Tryz.f26 10)]).all (kv prog)=true:=AS;have g:∀i,i<13->i<13/\wG i<86/\(∀p∈[((1:Nat),Value.slice (some ⟨q,aL,none⟩) 1 I),(4,.pointer (some ⟨bS,0,none⟩)),(7,.pointer (some ⟨bK,0,none⟩))],wG i≠p.1)/\∀ix,ix<13->ix≠i->wG i≠wG ix:=by have h1:∀i,i<13->wG i<86/\wG i≠1/\wG i≠4/\wG i≠7/\∀ix,ix<13->ix≠i->wG i≠wG ix:=AS;grind
  have F:=fun i(_:i<13)=>arX (.slice (some ⟨q,aL,none⟩) 1 I) v bS q aL W C (bF t 0 S) i;have g5:s.tmps[1]?=_:=f.base (1,.slice (some ⟨q,aL,none⟩) 1 I) Aa;have p4:s.tmps[4]?=_:=f.base (4,.pointer (some ⟨bS,0,none⟩)) Aa;have vv:s.tmps[7]?=_:=f.base (7,.pointer (some ⟨bK,0,none⟩)) Aa;have tn:=f.sub bS ⟨_,q4⟩;have TL:=f.sub bK ⟨_,tu⟩;have mt:=f.sub q (A.mem wH);have e4:=f.keep _ _ _ _ ⟨_,q4⟩ o4;have BT:=f.keep _ _ _ _ ⟨_,tu⟩ Nw;have Ek:=f.keep.cell (A.mem wH) ct;have J:=ju D;have dep:∀j,(∃e∈o.after,Region.binds .any e=true/\e.on=j)->j<13->∃x,s.tmps[wG j]?=some x/\Ej (.slice (some ⟨q,aL,none⟩) 1 I) v bS q aL W C (bF t 0 S) j x M2 Y/\aA (cB M2) x x:=by rintro j ⟨e,he,U,rfl⟩ hj;obtain⟨x,dW,er⟩:=f.facts _ hj AU;exact⟨x,dW,er,f.all.get _ _ _ dW dW⟩
  match i,hi with
  |0,_=>
   obtain rfl:=Option.some.inj J;refine gG.val fA E P g F f D AW rfl rfl (.agg #[.int .i64 W,.int .i64 C]) (.ki (iA (l:=[.int .i64 W,.int .i64 C]) fun x L=>by
    simp at L;rcases L with rfl|rfl<;>exact .int _ _)) (fun m y T=>?_) rfl K
   have z:=f.dH.vt y TL BT;obtain⟨N,R⟩:∃N:World,N={m with tape:=T}:=⟨_,rfl⟩;have cu:N.cell? ⟨bK,0,none⟩=some (.int .i64 W):=Fi;have c1:N.cell? ⟨bK,1,none⟩=some (.int .i64 C):=Fi;rw[<-R];clear R z;go_simp
  |1,_=>obtain rfl:=Option.some.inj J;exact gG.val fA E P g F f D AW rfl rfl (.slice (some ⟨q,aL,none⟩) 1 I) (f.all.get _ _ _ g5 g5) (fun m y T=>BD) rfl K
  |2,_=>obtain rfl:=Option.some.inj J;exact gG.val fA E P g F f D AW rfl rfl (.pointer (some ⟨bS,1,none⟩)) (.e7 ⟨⟨rfl,tn⟩,rfl,rfl⟩) (fun m y T=>BD) rfl K
  |3,_=>obtain rfl:=Option.some.inj J;obtain⟨dA,lR,rfl,-⟩:=dep 2 ⟨⟨2,.data⟩,Aa,rfl,rfl⟩ AW;have lR:s.tmps[77]?=_:=lR;refine gG.val fA E P g F f D AW rfl rfl (.int .i64 0) (.int _ _) (fun m y T=>?_) rfl K;have z:=f.dH.vt y tn e4;obtain⟨N,R⟩:∃N:World,N={m with tape:=T}:=⟨_,rfl⟩;have c1:N.cell? ⟨bS,1,none⟩=some (.int .i64 0):=Fi;rw[<-R];clear R z;go_simp
  |4,_=>obtain rfl:=Option.some.inj J;obtain⟨db,jv,rfl,-⟩:=dep 1 ⟨⟨1,.data⟩,Aa,rfl,rfl⟩ AW;obtain⟨cY,mn,rfl,-⟩:=dep 3 ⟨⟨3,.data⟩,Aa,rfl,rfl⟩ AW;have jv:s.tmps[76]?=_:=jv;have mn:s.tmps[78]?=_:=mn;exact gG.val fA E P g F f D AW rfl rfl (.pointer (some ⟨q,aL,none⟩)) (.e7 ⟨⟨rfl,mt⟩,rfl,rfl⟩) (fun m y T=>BD) rfl K
  |5,_=>
   obtain rfl:=Option.some.inj J;obtain⟨ff,yY,rfl,-⟩:=dep 4 ⟨⟨4,.data⟩,Aa,rfl,rfl⟩ AW;have yY:s.tmps[79]?=_:=yY;refine gG.val fA E P g F f D AW rfl rfl (.agg #[v]) (.ki (.one (f.dH.cell mt Ek))) (fun m y T=>?_) rfl K;have z:=f.dH.su y mt Ek;obtain⟨N,R⟩:∃N:World,N={m with tape:=T}:=⟨_,rfl⟩;have c1:N.cell? ⟨q,aL,none⟩=some v:=by subst R;exact z
   rw[<-R];clear R z;go_simp
  |6,_=>obtain rfl:=Option.some.inj J;obtain⟨dQ,lj,rfl,gw⟩:=dep 5 ⟨⟨5,.data⟩,Aa,rfl,rfl⟩ AW;have lj:s.tmps[80]?=_:=lj;exact gG.val fA E P g F f D AW rfl rfl (.agg #[v]) gw (fun m y T=>BD) rfl K
  |7,_=>obtain rfl:=Option.some.inj J;obtain⟨jH,xZ,rfl,yq⟩:=dep 6 ⟨⟨6,.data⟩,Aa,rfl,rfl⟩ AW;have xZ:s.tmps[81]?=_:=xZ;exact gG.val fA E P g F f D AW rfl rfl (.iface 113 (.agg #[v])) (.iface _ yq) (fun m y T=>BD) rfl K
  |8,_=>
   obtain rfl:=Option.some.inj J;obtain⟨ft,yZ,rfl,-⟩:=dep 0 ⟨⟨0,.data⟩,Aa,rfl,rfl⟩ AW;obtain⟨gS,ua,rfl,sN⟩:=dep 7 ⟨⟨7,.data⟩,Aa,rfl,rfl⟩ AW;have yZ:s.tmps[75]?=_:=yZ;have ua:s.tmps[82]?=_:=ua;have TM:lV Y v t:=az.bd.cw yG (f.keep.cw A.dH) (qF.mono (sG fun b U=>A.mem U)) Gv;have k2:aA (cB M2) v v:=f.dH.cell mt Ek;have ar0:gj<=n:=f.d4.2 AU;refine Gn rfl func36 BB rfl (vs:=#[.agg #[.int .i64 W,.int .i64 C],.iface 113 (.agg #[v])]) (by simp[Act.eval,yZ,ua]) (d:=1) AU f.dH ⟨E,.inl f.all,f.defers,AU,AU,⟨83,rfl,by rw[f.size];decide⟩⟩ D rfl (V:=JV M2 Y (bF t 0 S)) (fun k=>?_) ?_
   ·have ar1:lV (Y.at k) v t:=bd.mono se (show bC Y (Y.at k)from fun _ _ _ x=>x) TM;exact arU (w:=Y.at k) f.dH.cl f.dH.Gg ar1 k2 h0 hsm iL hm R hW hS hZ dF
   ·rintro u El w3 mb TN h1 h2 h3 h4 bn ⟨x,rfl,bI,eO,h_⟩;obtain⟨d1,gV,fS,gJ⟩:=g 8 AW;exact K _ El w3 mb TN (f.step AU fS gJ F h2 h3 (fm.My h_) bn h4 ⟨x,rfl,bI,eO⟩ AU)
  |9,_=>obtain rfl:=Option.some.inj J;obtain⟨Z,H,⟨x,rfl,z⟩,k2⟩:=dep 8 ⟨⟨8,.data⟩,Aa,rfl,rfl⟩ AW;have H:s.tmps[83]?=_:=H;exact gG.val fA E P g F f D AW rfl rfl x (by cases k2 with|tuple _ hg=>exact hg 0 _ _ rfl rfl) (fun m y T=>BD) z K
  |10,_=>obtain rfl:=Option.some.inj J;obtain⟨Z,H,⟨x,rfl,z⟩,k2⟩:=dep 8 ⟨⟨8,.data⟩,Aa,rfl,rfl⟩ AW;have H:s.tmps[83]?=_:=H;exact gG.val fA E P g F f D AW rfl rfl (.slice none 0 0) (.hA _ _) (fun m y T=>BD) rfl K
  |11,_=>obtain rfl:=Option.some.inj J;obtain⟨ja,iF,z,tA⟩:=dep 9 ⟨⟨9,.data⟩,Aa,rfl,rfl⟩ AW;have iF:s.tmps[84]?=_:=iF;exact gG.val fA E P g F f D AW rfl rfl ja tA (fun m y T=>BD) z K
  |12,_=>obtain rfl:=Option.some.inj J;obtain⟨ja,iF,rfl,tA⟩:=dep 10 ⟨⟨10,.data⟩,Aa,rfl,rfl⟩ AW;have iF:s.tmps[85]?=_:=iF;exact gG.val fA E P g F f D AW rfl rfl (.slice none 0 0) AU (fun m y T=>BD) rfl K
 ·intro aq s M2 Y gj pL f hr;have hdone:=Jj (ops:=aF Tryz.f26 10) AS (f.len.trans AS) hr;have ar2:(aF Tryz.f26 10).size=13:=AS;obtain⟨Z,H,nN⟩:=f.facts 11 AW AU;obtain⟨ja,iF,pM⟩:=f.facts 12 AW AU;have H:s.tmps[8]?=some Z:=H;have iF:s.tmps[9]?=some ja:=iF;have pM:ja=.slice none 0 0:=pM;subst pM;have rv:aA (cB M2) (.tuple #[Z,.slice none 0 0]) (.tuple #[Z,.slice none 0 0]):=.E8 (iA (l:=[Z,.slice none 0 0]) fun x L=>by
   simp at L;rcases L with rfl|rfl
   ·exact f.all.get _ _ _ H H
   ·exact .hA _ _)
  refine Nk fA f.dH func26 N8 rfl f.all f.defers AS (hc.mono fun b U=>f.sub b (A.mem U)) (hJ:=fun m u bx=>u=.tuple #[Z,.slice none 0 0]/\∃T,bx={m with tape:=T}) (fun m y T=>?_) ?_
  ·refine Gq (t6 (om (Jh ?_)));rw[show dR Tryz.f26 10=.ret from BB];refine wp_ret ⟨f.defers,_,(IZ AS _ _).1,_,rfl,?_,T,rfl⟩;simp[yD,xG,results26,Array.getD_eq_getD_getElem?,H,iF]
  ·rintro JW x0 v2 bx u w3 Ag ⟨rfl,l7,rfl⟩ hu eQ;obtain rfl:=eQ.same rv hu;have hB:fm M2 Y w3:=eQ.Gm f.dH Ag AU;refine d_ _ (l3 JW) w3 gj pL f.d4.1 eQ.dH (fun b U=>eQ.mem (f.sub b (A.mem U))) (eQ.val hu) ((A.gA.trans f.gA).trans eQ.gA) ⟨Z,rfl,az.bd.cw m0 (hB.cw f.dH) (f.all.get _ _ _ H H) nN.1,nN.2,?_⟩;exact(iK.trans (fun b U=>A.mem U) f.keep).trans (fun b U=>f.sub b (A.mem U)) hB
end
variable {es:List (List cd)}
section
variable {O:jW}
theorem ar4(B W b:Int)(ev lh gz li c a:Value)(w:World):
 c2 (ai prog true) [.code (fL Tryz.f26)] [.code (.region 5 (aF Tryz.f26 5) true),.code (dR Tryz.f26 5),.inBlock 0,.code ((ba.cH 10 (fL Tryz.f26)).getD .skip)]
  (fun a1 w1=>a1.defers=[]/\(a1.tmps.size=86/\a1.tmps[2]?=some a/\a1.tmps[4]?=some (.pointer (some ⟨w.heap.size,0,none⟩))/\a1.tmps[7]?=some (.pointer (some ⟨w.heap.size+1,0,none⟩)))/\w1=(w.alloc (.cells #[.int .i64 3,.int .i64 0,.int .i64 B,ev,lh,gz,li] 37)).alloc (.cells #[.int .i64 W,.int .i64 b] 64))
  ⟨#[.agg #[.int .i64 3,.int .i64 0,.int .i64 B,ev,lh,gz,li],c,a,.agg #[.int .i64 W,.int .i64 b]]++Array.replicate 82 undef,[]⟩ w:=by
 simp[aF,dR,fL,Tryz.f26,ba.cH,ba.fK,ba.iD];simp[Array.replicate_succ];refine cn (g_ ?_);go_wp2
 refine⟨rfl,cn (cn (g_ ?_))⟩;go_wp2
 refine⟨rfl,t5 (cn (g_ ?_))⟩;go_wp2
 refine⟨rfl,m2 (t:=false) rfl (cn (g_ ?_))⟩;go_wp2
 refine⟨rfl,m2 (t:=true) rfl (cn (om Bp))⟩
def wJ(j:Nat):Nat:=#[31,32,33,34,35,36,37,38,39,40,41,42,43,8,9].getD j 0
def Em(nL ev a9:Value)(bS kf dq:Nat)(W ak:Int)(rs:List dY)(j:Nat):Value->(Nat->Prop)->World->Prop:=
 match j with
 |0=>fun x _ _=>x=.agg #[.int .i64 W,.int .i64 ak]
 |1=>fun x _ _=>x=.pointer (some ⟨bS,3,none⟩)
 |2=>fun x _ _=>x=ev
 |3=>fun x _ _=>x=nL
 |4=>fun x _ _=>x=.pointer (some ⟨bS,1,none⟩)
 |5=>fun x _ _=>x=.int .i64 0
 |6=>fun x _ _=>x=.pointer (some ⟨kf,dq,none⟩)
 |7=>fun x _ _=>x=a9
 |8=>fun x _ _=>x=.agg #[ev,a9]
 |9=>fun x _ _=>x=.iface 106 (.agg #[ev,a9])
 |10=>fun u M w=>∃x,u=.tuple #[x,.slice none 0 0]/\vu rs x M w
 |11=>vu rs
 |12=>fun x _ _=>x=.slice none 0 0
 |13=>vu rs
 | _=>fun x _ _=>x=.slice none 0 0
theorem ar5(a ev a9:Value)(bS b dq:Nat)(W c:Int)(rs:List dY)(j:Nat):DQ (Em a ev a9 bS b dq W c rs j):=by unfold Em;split<;>first|exact ZX _ |exact TK rs|exact ab1 rs
theorem ar6(a ev a9:Value)(bS b dq:Nat)(W d:Int)(rs:List dY)(j:Nat)(u:Value)(M:Nat->Prop)(w:World)(k:Nat)(h:Em a ev a9 bS b dq W d rs j u M w):Em a ev a9 bS b dq W d rs j u M (w.at k):=by have c:∀v,vu rs v M w->vu rs v M (w.at k):=fun v h=>⟨bd.mono xM (fun _ _ _ x=>x) h.1,h.2⟩;revert h;unfold Em;split<;>intro h<;>first|exact h|exact c _ h|(obtain⟨x,f,e⟩:=h;exact⟨x,f,c _ e⟩)
theorem ar7{Post:Value->World->Prop}{M:Nat->Prop}{w:World}{B:Int}{cm a9:Value}{q dq P:Nat}(iZ:a3 (cB M) #[.agg #[.int .i64 3,.int .i64 0,.int .i64 B,ev,lh,gz,li],cm,.slice (some ⟨q,dq,none⟩) 1 P] #[.agg #[.int .i64 3,.int .i64 0,.int .i64 B,ev,lh,gz,li],cm,.slice (some ⟨q,dq,none⟩) 1 P])
 (iu:w.cell? ⟨q,dq,none⟩=some a9)  {rs:List dY} {outs:Nat->List bU} (ok:Gu es rs outs) (hv:mP w ev es) (pv:g9 w a9 rs) (wy:tv rs.length a9) {F W:Nat} (iL:0<F) (hm:F<=64) (J:0<W) (hW:W<=16) (hS:rs.length<=300):
 qH O prog Post 26 #[.agg #[.int .i64 3,.int .i64 0,.int .i64 B,ev,lh,gz,li],cm,.slice (some ⟨q,dq,none⟩) 1 P,.agg #[.int .i64 W,.int .i64 F]] M w 1 (N9 M w (eX rs outs 0 rs.length)):=by
 intro n Shun aj a7 eV a₁ aG i₁ aP k₁ cs₁ hc d_;have wH:M q:=by have:=iZ.get 2 _ _ rfl rfl;cases this with|slice _ _ r=>exact r.1.2
 have E:mz prog 26:=Bw func26 N8 rfl;rw[enter_at func26 (c:=fL Tryz.f26) rfl];refine Ji fA a7 E (a:=⟨_,_⟩) ?_ rfl (k:=[.code (fL Tryz.f26)]) (k':=[.code (.region 5 (aF Tryz.f26 5) true),.code (dR Tryz.f26 5),.inBlock 0,.code ((ba.cH 10 (fL Tryz.f26)).getD .skip)]) AS AS
  (Q:=fun m a1 w1=>(a1.tmps.size=86/\a1.tmps[2]?=some (.slice (some ⟨q,dq,none⟩) 1 P)/\a1.tmps[4]?=some (.pointer (some ⟨m.heap.size,0,none⟩))/\a1.tmps[7]?=some (.pointer (some ⟨m.heap.size+1,0,none⟩)))/\∃T:Nat->Question->Nat,w1=(({m with tape:=T}:World).alloc (.cells #[.int .i64 3,.int .i64 0,.int .i64 B,ev,lh,gz,li] 37)).alloc (.cells #[.int .i64 W,.int .i64 F] 64)) (fun m v T b cs=>?_) ?_
 ·refine(a3.append (a:=#[.agg #[.int .i64 3,.int .i64 0,.int .i64 B,ev,lh,gz,li],cm,.slice (some ⟨q,dq,none⟩) 1 P]) (b:=#[.agg #[.int .i64 W,.int .i64 F]]) iZ (.one (.ki (iA (l:=[.int .i64 W,.int .i64 F]) fun x N=>?_)))).append (BS _ _);simp at N;rcases N with rfl|rfl<;>exact .int _ _
 ·obtain⟨a1,w1,⟨h1,h2,h3⟩,h4⟩:=ar4 B W F ev lh gz li cm (.slice (some ⟨q,dq,none⟩) 1 P) {m with tape:=T} b cs;exact⟨a1,w1,AU,h4⟩
 rintro ρ m a1 w1 a' w' v ⟨⟨hsz,h1,h4,eO⟩,T,rfl⟩ R gu t;have iK:fm M w w':=t.Gm a7 v fun b c e z y N=>by grind[World.alloc]
 obtain⟨u1,k1,r1⟩:=R.some h1;obtain⟨u4,jD,zI⟩:=R.some h4;obtain⟨u7,wI,sN⟩:=R.some eO;obtain rfl:=t.same (iZ.get 2 _ _ rfl rfl) r1;obtain⟨bS,rfl,q4⟩:=t.e7 zI;obtain⟨bK,rfl,tu⟩:=t.e7 sN;have Oa:a3 (cB M) #[.int .i64 3,.int .i64 0,.int .i64 B,ev,lh,gz,li] #[.int .i64 3,.int .i64 0,.int .i64 B,ev,lh,gz,li]:=by have:=iZ.get 0 _ _ rfl rfl;cases this with|agg h1 h2=>exact⟨h1,h2⟩
 have o4:=t.obj q4 (c:=#[.int .i64 3,.int .i64 0,.int .i64 B,ev,lh,gz,li]) (e:=37) (fr:=(0,0)) (by simp[World.alloc,Array.getElem?_push]) Oa;have Nw:=t.obj tu (c:=#[.int .i64 W,.int .i64 F]) (e:=64) (fr:=(0,0)) Ec (iA (l:=[.int .i64 W,.int .i64 F]) fun x N=>by
  simp at N;rcases N with rfl|rfl<;>exact .int _ _)
 have ct:=iK.cell wH iu;have qF:aA (cB M) a9 a9:=a7.cell wH iu;have Ob:aA (cB M) ev ev:=Oa.get 3 _ _ rfl rfl;have Gv:g9 w' a9 rs:=az.bd.cw m0 (iK.cw a7) qF pv;have BA:mP w' ev es:=az.bd.cw yH (iK.cw a7) Ob hv;obtain⟨dV,ec,ar8,-⟩:=id hv;have hst:gG O prog [(2,.slice (some ⟨q,dq,none⟩) 1 P),(4,.pointer (some ⟨bS,0,none⟩)),(7,.pointer (some ⟨bK,0,none⟩))] wJ 15 86 (Em (.slice (some ⟨q,dq,none⟩) 1 P) ev a9 bS q dq W F (eX rs outs 0 rs.length)) 15 (l3 ρ) w' 10 n (n+16) (Array.replicate 15 false) a' (l3 ρ) w' n Shun:=
  .start t.dH (by rw[<-R.size];grind) gu (t.all R) AU AU
 refine Ni N_ (fun _ _ _ _ _ _ k h=>h.at (ar6 _ _ _ _ _ _ _ _ _) k) ?_ ?_ hst
 ·intro aq s Y S gj pL i o rest f iH A cx K;have hi:i<15:=by have:(aF Tryz.f26 5).size=15:=AS;grind
  have L:(Item.inRegion (aF Tryz.f26 5) []::[.code (dR Tryz.f26 5),.inBlock 0,.code ((ba.cH 10 (fL Tryz.f26)).getD .skip)]).all (kv prog)=true:=AS;have g:∀i,i<15->i<15/\wJ i<86/\(∀p∈[((2:Nat),Value.slice (some ⟨q,dq,none⟩) 1 P),(4,.pointer (some ⟨bS,0,none⟩)),(7,.pointer (some ⟨bK,0,none⟩))],wJ i≠p.1)/\∀X,X<15->X≠i->wJ i≠wJ X:=by have h1:∀i,i<15->wJ i<86/\wJ i≠2/\wJ i≠4/\wJ i≠7/\∀X,X<15->X≠i->wJ i≠wJ X:=AS;grind
  have H:=fun i(_:i<15)=>ar5 (.slice (some ⟨q,dq,none⟩) 1 P) ev a9 bS q dq W F (eX rs outs 0 rs.length) i;have g5:s.tmps[2]?=_:=f.base (2,.slice (some ⟨q,dq,none⟩) 1 P) Aa;have p4:s.tmps[4]?=_:=f.base (4,.pointer (some ⟨bS,0,none⟩)) Aa;have vv:s.tmps[7]?=_:=f.base (7,.pointer (some ⟨bK,0,none⟩)) Aa;have tn:=f.sub bS ⟨_,q4⟩;have TL:=f.sub bK ⟨_,tu⟩;have mt:=f.sub q (t.mem wH);have e4:=f.keep _ _ _ _ ⟨_,q4⟩ o4;have BT:=f.keep _ _ _ _ ⟨_,tu⟩ Nw;have Ek:=f.keep.cell (t.mem wH) ct;have I:=ju A;have dep:∀j,(∃e∈o.after,Region.binds .any e=true/\e.on=j)->j<15->∃x,s.tmps[wJ j]?=some x/\Em (.slice (some ⟨q,dq,none⟩) 1 P) ev a9 bS q dq W F (eX rs outs 0 rs.length) j x Y S/\aA (cB Y) x x:=by rintro j ⟨e,he,y,rfl⟩ hj;obtain⟨x,dW,er⟩:=f.facts _ hj AU;exact⟨x,dW,er,f.all.get _ _ _ dW dW⟩
  match i,hi with
  |0,_=>
   obtain rfl:=Option.some.inj I;refine gG.val fA E L g H f A AW rfl rfl (.agg #[.int .i64 W,.int .i64 F]) (.ki (iA (l:=[.int .i64 W,.int .i64 F]) fun x N=>by
    simp at N;rcases N with rfl|rfl<;>exact .int _ _)) (fun m v T=>?_) rfl K
   have z:=f.dH.vt v TL BT;obtain⟨C,J⟩:∃C:World,C={m with tape:=T}:=⟨_,rfl⟩;have cu:C.cell? ⟨bK,0,none⟩=some (.int .i64 W):=Fi;have c1:C.cell? ⟨bK,1,none⟩=some (.int .i64 F):=Fi;rw[<-J];clear J z;go_simp
  |1,_=>obtain rfl:=Option.some.inj I;exact gG.val fA E L g H f A AW rfl rfl (.pointer (some ⟨bS,3,none⟩)) (.e7 ⟨⟨rfl,tn⟩,rfl,rfl⟩) (fun m v T=>BD) rfl K
  |2,_=>obtain rfl:=Option.some.inj I;obtain⟨db,jv,rfl,-⟩:=dep 1 ⟨⟨1,.data⟩,Aa,rfl,rfl⟩ AW;have jv:s.tmps[32]?=_:=jv;refine gG.val fA E L g H f A AW rfl rfl ev (Ob.mono (sG fun b y=>f.sub b (t.mem y))) (fun m v T=>?_) rfl K;have z:=f.dH.vt v tn e4;obtain⟨C,J⟩:∃C:World,C={m with tape:=T}:=⟨_,rfl⟩;have c1:C.cell? ⟨bS,3,none⟩=some ev:=Fi;rw[<-J];clear J z;go_simp
  |3,_=>obtain rfl:=Option.some.inj I;exact gG.val fA E L g H f A AW rfl rfl (.slice (some ⟨q,dq,none⟩) 1 P) (f.all.get _ _ _ g5 g5) (fun m v T=>BD) rfl K
  |4,_=>obtain rfl:=Option.some.inj I;exact gG.val fA E L g H f A AW rfl rfl (.pointer (some ⟨bS,1,none⟩)) (.e7 ⟨⟨rfl,tn⟩,rfl,rfl⟩) (fun m v T=>BD) rfl K
  |5,_=>obtain rfl:=Option.some.inj I;obtain⟨ff,yY,rfl,-⟩:=dep 4 ⟨⟨4,.data⟩,Aa,rfl,rfl⟩ AW;have yY:s.tmps[35]?=_:=yY;refine gG.val fA E L g H f A AW rfl rfl (.int .i64 0) (.int _ _) (fun m v T=>?_) rfl K;have z:=f.dH.vt v tn e4;obtain⟨C,J⟩:∃C:World,C={m with tape:=T}:=⟨_,rfl⟩;have c1:C.cell? ⟨bS,1,none⟩=some (.int .i64 0):=Fi;rw[<-J];clear J z;go_simp
  |6,_=>obtain rfl:=Option.some.inj I;obtain⟨cY,mn,rfl,-⟩:=dep 3 ⟨⟨3,.data⟩,Aa,rfl,rfl⟩ AW;have mn:s.tmps[34]?=_:=mn;obtain⟨dQ,lj,rfl,-⟩:=dep 5 ⟨⟨5,.data⟩,Aa,rfl,rfl⟩ AW;have lj:s.tmps[36]?=_:=lj;exact gG.val fA E L g H f A AW rfl rfl (.pointer (some ⟨q,dq,none⟩)) (.e7 ⟨⟨rfl,mt⟩,rfl,rfl⟩) (fun m v T=>BD) rfl K
  |7,_=>
   obtain rfl:=Option.some.inj I;obtain⟨jH,xZ,rfl,-⟩:=dep 6 ⟨⟨6,.data⟩,Aa,rfl,rfl⟩ AW;have xZ:s.tmps[37]?=_:=xZ;refine gG.val fA E L g H f A AW rfl rfl a9 (f.dH.cell mt Ek) (fun m v T=>?_) rfl K;have z:=f.dH.su v mt Ek;obtain⟨C,J⟩:∃C:World,C={m with tape:=T}:=⟨_,rfl⟩;have c1:C.cell? ⟨q,dq,none⟩=some a9:=by subst J;exact z
   rw[<-J];clear J z;go_simp
  |8,_=>
   obtain rfl:=Option.some.inj I;obtain⟨dA,lR,rfl,r2⟩:=dep 2 ⟨⟨2,.data⟩,Aa,rfl,rfl⟩ AW;obtain⟨gS,ua,rfl,sN⟩:=dep 7 ⟨⟨7,.data⟩,Aa,rfl,rfl⟩ AW;have lR:s.tmps[33]?=_:=lR;have ua:s.tmps[38]?=_:=ua;refine gG.val fA E L g H f A AW rfl rfl (.agg #[dA,gS]) (.ki (iA (l:=[dA,gS]) fun x N=>?_)) (fun m v T=>?_) rfl K
   ·grind
   ·obtain⟨cN,cc,hq,-⟩:=id wy;subst ar8;subst hq;go_simp
  |9,_=>obtain rfl:=Option.some.inj I;obtain⟨U,D,rfl,Z⟩:=dep 8 ⟨⟨8,.data⟩,Aa,rfl,rfl⟩ AW;have D:s.tmps[39]?=_:=D;exact gG.val fA E L g H f A AW rfl rfl (.iface 106 (.agg #[ev,a9])) (.iface _ Z) (fun m v T=>BD) rfl K
  |10,_=>
   obtain rfl:=Option.some.inj I;obtain⟨ft,yZ,rfl,-⟩:=dep 0 ⟨⟨0,.data⟩,Aa,rfl,rfl⟩ AW;obtain⟨ja,iF,rfl,tA⟩:=dep 9 ⟨⟨9,.data⟩,Aa,rfl,rfl⟩ AW;have yZ:s.tmps[31]?=_:=yZ;have iF:s.tmps[40]?=_:=iF;have TM:g9 S a9 rs:=az.bd.cw m0 (f.keep.cw t.dH) (qF.mono (sG fun b y=>t.mem y)) Gv;have ar9:mP S ev es:=az.bd.cw yH (f.keep.cw t.dH) (Ob.mono (sG fun b y=>t.mem y)) BA;have Z:aA (cB Y) a9 a9:=f.dH.cell mt Ek;have ar0:gj<=n:=f.d4.2 AU;refine Gn rfl func36 BB rfl (vs:=#[.agg #[.int .i64 W,.int .i64 F],.iface 106 (.agg #[ev,a9])]) (by simp[Act.eval,yZ,iF]) (d:=1) AU f.dH ⟨E,.inl f.all,f.defers,AU,AU,⟨41,rfl,by rw[f.size];decide⟩⟩ A rfl (V:=JV Y S (eX rs outs 0 rs.length)) (fun k=>?_) ?_
   ·have a4:bC S (S.at k):=fun _ _ _ x=>x;exact arV (w:=S.at k) ok f.dH.cl f.dH.Gg (bd.mono ns a4 ar9) (bd.mono xM a4 TM) wy (Ob.mono (sG fun b y=>f.sub b (t.mem y))) Z iL hm J hW hS
   ·rintro u El w3 mb TN h1 h2 h3 h4 bn ⟨x,rfl,bI,eO,h_⟩;obtain⟨d1,gV,fS,gJ⟩:=g 10 AW;exact K _ El w3 mb TN (f.step AU fS gJ H h2 h3 (fm.My h_) bn h4 ⟨x,rfl,bI,eO⟩ AU)
  |11,_=>obtain rfl:=Option.some.inj I;obtain⟨U,D,⟨x,rfl,z⟩,Z⟩:=dep 10 ⟨⟨10,.data⟩,Aa,rfl,rfl⟩ AW;have D:s.tmps[41]?=_:=D;exact gG.val fA E L g H f A AW rfl rfl x (by cases Z with|tuple _ hg=>exact hg 0 _ _ rfl rfl) (fun m v T=>BD) z K
  |12,_=>obtain rfl:=Option.some.inj I;obtain⟨U,D,⟨x,rfl,z⟩,Z⟩:=dep 10 ⟨⟨10,.data⟩,Aa,rfl,rfl⟩ AW;have D:s.tmps[41]?=_:=D;exact gG.val fA E L g H f A AW rfl rfl (.slice none 0 0) (.hA _ _) (fun m v T=>BD) rfl K
  |13,_=>obtain rfl:=Option.some.inj I;obtain⟨ja,iF,z,tA⟩:=dep 11 ⟨⟨11,.data⟩,Aa,rfl,rfl⟩ AW;have iF:s.tmps[42]?=_:=iF;exact gG.val fA E L g H f A AW rfl rfl ja tA (fun m v T=>BD) z K
  |14,_=>obtain rfl:=Option.some.inj I;obtain⟨ja,iF,rfl,tA⟩:=dep 12 ⟨⟨12,.data⟩,Aa,rfl,rfl⟩ AW;have iF:s.tmps[43]?=_:=iF;exact gG.val fA E L g H f A AW rfl rfl (.slice none 0 0) (.hA _ _) (fun m v T=>BD) rfl K
 ·intro aq s Y S gj pL f hr;have hdone:=Jj (ops:=aF Tryz.f26 5) AS (f.len.trans AS) hr;have ar2:(aF Tryz.f26 5).size=15:=AS;obtain⟨U,D,nN⟩:=f.facts 13 AW AU;obtain⟨ja,iF,pM⟩:=f.facts 14 AW AU;have D:s.tmps[8]?=some U:=D;have iF:s.tmps[9]?=some ja:=iF;have pM:ja=.slice none 0 0:=pM;subst pM;have rv:aA (cB Y) (.tuple #[U,.slice none 0 0]) (.tuple #[U,.slice none 0 0]):=.E8 (iA (l:=[U,.slice none 0 0]) fun x N=>by
   simp at N;rcases N with rfl|rfl
   ·exact f.all.get _ _ _ D D
   ·exact .hA _ _)
  refine Nk fA f.dH func26 N8 rfl f.all f.defers AS (hc.mono fun b y=>f.sub b (t.mem y)) (hJ:=fun m u bx=>u=.tuple #[U,.slice none 0 0]/\∃T,bx={m with tape:=T}) (fun m v T=>?_) ?_
  ·refine Gq (t6 (om ?_));rw[show dR Tryz.f26 5=.ret from BB];refine anD f.defers (IZ AS _ _).1 ⟨?_,T,rfl⟩;simp[yD,xG,results26,Array.getD_eq_getD_getElem?,D,iF]
  ·rintro JW x0 v2 bx u w3 Ag ⟨rfl,l7,rfl⟩ hu eQ;obtain rfl:=eQ.same rv hu;have hB:fm Y S w3:=eQ.Gm f.dH Ag AU;refine d_ _ (l3 JW) w3 gj pL f.d4.1 eQ.dH (fun b y=>eQ.mem (f.sub b (t.mem y))) (eQ.val hu) ((t.gA.trans f.gA).trans eQ.gA) ⟨U,rfl,az.bd.cw m0 (hB.cw f.dH) (f.all.get _ _ _ D D) nN.1,nN.2,?_⟩;exact(iK.trans (fun b y=>t.mem y) f.keep).trans (fun b y=>f.sub b (t.mem y)) hB
end
theorem ar_(w:World):(Instr.makeSlice 88 (.int .i64 0) (.int .i64 2)).run (ai prog true) w=.ok (.slice (some ⟨w.heap.size,0,none⟩) 0 2) (w.alloc (.cells #[.slice none 0 0,.slice none 0 0] 68)):=by obtain⟨i,c,b,a,d⟩:=info_parts (show(prog.info? 68).map (fun i=>(i.zero,i.size,i.bytes))=some (some (.slice none 0 0),1,24)from BB);have:=run_make (P:=ai prog true) w 88 68 i _ Bp c b .i64 .i64 0 2 AW AW AU AW;rw[this,a,show madeCells (Value.slice none 0 0).cells (Int.toNat 2*1)=#[.slice none 0 0,.slice none 0 0]from BB];rfl
def wK(f:Func)(l:List Nat):List Item:=
 [.inRegion (aF f 5) l,.code (dR f 5),.inBlock 1,.code (ba.fK (ba.fK (ba.fK ((ba.cS (fL f)).getD .skip)))),.inLoop ((ba.cS (fL f)).getD .skip),.inBlock 0,.code ((ba.cH 12 (fL f)).getD .skip)]
theorem nO{w:World}{a:Addr}(h:w.cell? a=some v)(o:Obj):(w.alloc o).cell? a=some v:=by grind[vJ,kH,Below.heap_alloc]
theorem En{w:World}{a:Addr}(h:w.cell? a=some v):∀x y z,(((w.alloc x).alloc y).alloc z).cell? a=some v:=fun x y z=>nO (nO (nO h x) y) z
def eY(op:Int)(ev:Value):Array Value:=#[.int .i64 op,.int .i64 0,.int .i64 0,ev,.slice none 0 0,.slice none 0 0,.slice none 0 0]
def nP(w:World)(nb no:Nat)(op:Int)(ev:Value):Prop:=∀j v,(eY op ev)[j]?=some v->w.cell? ⟨nb,no+j,none⟩=some v
theorem asa(W d:Int)(b:Value)(nb no c:Nat)(w:World)(a:nP w nb no 1 (.slice none 0 0)):
 c2 (ai prog true) [.code (fL Tryz.f19)] (wK Tryz.f19 (List.range' 4 6)) (fun a1 w1=>a1.defers=[]/\(a1.tmps.size=57/\a1.tmps[0]?=some b/\a1.tmps[1]?=some (.slice (some ⟨nb,no,none⟩) 2 c)/\a1.tmps[5]?=some (.pointer (some ⟨w.heap.size,0,none⟩))/\a1.tmps[8]?=some (.pointer (some ⟨w.heap.size+1,0,none⟩))/\a1.tmps[9]?=some (.slice (some ⟨w.heap.size+1+1,0,none⟩) 0 2)/\a1.tmps[17]?=some (.slice (some ⟨nb,no,none⟩) 2 c)/\a1.tmps[18]?=some (.int .i64 2)/\a1.tmps[19]?=some (.int .i64 0)/\
  a1.tmps[25]?=some (.agg (eY 1 (.slice none 0 0)))/\a1.tmps[26]?=some b/\a1.tmps[27]?=some (.slice (some ⟨w.heap.size+1+1,0,none⟩) 0 2)/\a1.tmps[28]?=some (.agg #[.int .i64 W,.int .i64 d]))/\
  w1=(((w.alloc (.cells #[.int .i64 W,.int .i64 d] 64)).alloc (.cells #[.int .i64 0,.slice none 0 0] 59)).alloc (.cells #[.slice none 0 0,.slice none 0 0] 68)).alloc (.cells (eY 1 (.slice none 0 0)) 37))
  ⟨#[b,.slice (some ⟨nb,no,none⟩) 2 c,.agg #[.int .i64 W,.int .i64 d]]++Array.replicate 54 undef,[]⟩ w:=by
 simp[wK,aF,dR,fL,Tryz.f19,ba.cH,ba.cS,ba.fK,ba.iD];simp[Array.replicate_succ];have e:=ar_;have h0:=En (a 0 (.int .i64 1) rfl);have i:=En (a 1 (.int .i64 0) rfl);have h:=En (a 2 (.int .i64 0) rfl);have g:=En (a 3 (.slice none 0 0) rfl);have f:=En (a 4 (.slice none 0 0) rfl);have j:=En (a 5 (.slice none 0 0) rfl);have k:=En (a 6 (.slice none 0 0) rfl);simp at h0;refine cn (g_ ?_);go_wp2
 refine⟨rfl,cn (g_ ?_)⟩;go_wp2
 refine⟨rfl,cn (cn (g_ ?_))⟩;go_wp2
 refine⟨rfl,t5 (Jf (cn (g_ ?_)))⟩;go_wp2
 refine⟨rfl,cn (m2 (t:=true) rfl (wB (cn (t5 (cn (g_ ?_))))))⟩;go_wp2
 refine⟨rfl,cn (zX (vk 4 AW AW ?_))⟩;simp only[List.drop_zero,List.take_succ_cons,List.take_zero];go_wp2
 exact⟨rfl,om ⟨rfl,⟨rfl,rfl,rfl,rfl,rfl,rfl,rfl,rfl,rfl,rfl,rfl,rfl,rfl⟩,rfl⟩⟩
theorem ab2{P:Program}{ops:Array Oper}{rest:List Oper}{o:Oper}{a:Act}{Q:Exit->Act->World->Prop}{w:World}(c:o.guard=none)(s x:Operand){t:TypeId}{z:Value}{bytes:Nat}(E:uJ P t e z 1 bytes)(k:o.op=.call {callee:=.builtin .append,args:=#[s,x],argTypes:=#[t,t]})
 {b n cap nb:Nat}  (f:a.eval s=.slice (some ⟨b,0,none⟩) n cap) (d:a.eval x=.slice (some ⟨nb,0,none⟩) 1 1) (q:w.cell? ⟨nb,0,none⟩=some v) (B:v.oneCell'=true) (A:(w.cell? ⟨b,n,none⟩).isSome=true) (y:w.frozen? ⟨b,n,none⟩=false) (l:n+1<=cap)
 (h:wpList P ops Q rest (a.put o.dst (.slice (some ⟨b,0,none⟩) (n+1) cap)) (w.setCell ⟨b,n,none⟩ v)):wpList P ops Q (o::rest) a w:=by
 obtain⟨i,hi,p,hsz,m⟩:=info_parts E.hi;refine wpList_plain c fun K hK=>?_;have g:=run_append_room_cells (P:=P) w t o.type e i E.ht hi b 0 n cap ⟨nb,0,none⟩ 1 1 [v] AU (fun j u r=>by
  grind[Addr.add]) AU l AU AU
 unfold Oper.wp execOp;simp only[k,resolve,invoke,builtin,Sem.run_bind,Sem.run_pure,Result.andThen_ok,List.map_toArray,List.map_cons,List.map_nil,f,d,g];refine hK _ _ ?_;grind[World.setCells]
theorem ab3:uJ (ai prog true) 88 68 (.slice none 0 0) 1 24:=⟨Bp,BB,AW,AW⟩
theorem asb(W p:Int)(n:Value)(nb no k aO u c d cc:Nat)(f:Option Addr)(j:Option Addr)(i ec:Nat)(dA cY ff jH gS lI ll ij ky kQ ln mD pN nQ pO lJ Z Y X V U T S R Q P O p0 p1 p5 p6 K J I H F E D C B A z y M L N x p7:Value)(w:World)(e:nP w nb (no+7) 3 (.slice j i ec))(tQ:d<=300)
 (g:nb≠c) (m:w.heap[c]?=some (.cells #[.slice none 0 0,.slice none 0 0] 68)) (l:w.heap[aO]?=some (.cells #[.int .i64 W,.int .i64 p] 64)):
 c2 (ai prog true) (wK Tryz.f19 (List.range' 5 5)) (wK Tryz.f19 (List.range' 4 6)) (fun a1 w1=>a1.defers=[]/\(a1.tmps.size=57/\a1.tmps[0]?=some n/\a1.tmps[1]?=some (.slice (some ⟨nb,no,none⟩) 2 k)/\a1.tmps[5]?=some (.pointer (some ⟨aO,0,none⟩))/\a1.tmps[8]?=some (.pointer (some ⟨u,0,none⟩))/\a1.tmps[9]?=some (.slice (some ⟨c,0,none⟩) 1 2)/\a1.tmps[17]?=some (.slice (some ⟨nb,no,none⟩) 2 k)/\a1.tmps[18]?=some (.int .i64 2)/\a1.tmps[19]?=some (.int .i64 1)/\
  a1.tmps[25]?=some (.agg (eY 3 (.slice j i ec)))/\a1.tmps[26]?=some n/\a1.tmps[27]?=some (.slice (some ⟨c,0,none⟩) 1 2)/\a1.tmps[28]?=some (.agg #[.int .i64 W,.int .i64 p]))/\
  w1=((w.alloc (.cells #[.slice f d cc] 68)).setCell ⟨c,0,none⟩ (.slice f d cc)).alloc (.cells (eY 3 (.slice j i ec)) 37))
  ⟨#[n,.slice (some ⟨nb,no,none⟩) 2 k,dA,cY,ff,.pointer (some ⟨aO,0,none⟩),jH,gS,.pointer (some ⟨u,0,none⟩),.slice (some ⟨c,0,none⟩) 0 2,lI,ll,ij,ky,kQ,ln,mD,.slice (some ⟨nb,no,none⟩) 2 k,.int .i64 2,.int .i64 0,pN,nQ,pO,lJ,Z,Y,X,V,U,.tuple #[.slice f d cc,.slice none 0 0],T,S,R,Q,P,O,p0,p1,p5,p6,K,J,I,H,F,E,D,C,B,A,z,y,M,L,N,x,p7],[]⟩ w:=by
 simp[wK,aF,dR,fL,Tryz.f19,ba.cH,ba.cS,ba.fK,ba.iD];refine vk 5 AW AW ?_;simp only[List.drop_zero,List.drop_succ_cons,List.take_succ_cons,List.take_zero];go_wp2
 refine⟨rfl,t6 (cn (t5 (cn (g_ ?_))))⟩;go_wp2
 refine⟨rfl,m2 (t:=false) rfl (cn (g_ ?_))⟩;have Is:¬((300:Int)<(d:Int)):=Ay;go_wp2
 refine⟨rfl,m2 (t:=false) rfl (wB (Bv (g_ ?_)))⟩;go_wp2_with (at_builtin;apply yn)
 unfold xh;have TO:c<w.heap.size:=n9 m;have s:(w.alloc (.cells #[.slice f d cc] 68)).heap[c]?=some (.cells #[.slice none 0 0,.slice none 0 0] 68):=(Below.heap_alloc _ _ _ TO).trans m;refine ab2 rfl _ _ ab3 rfl rfl rfl (nb:=w.heap.size) (v:=.slice f d cc) (kH (World.alloc_heap_new w _) rfl rfl) rfl (by simp[World.cell?,s]) (by simp[World.frozen?,s]) AW ?_;obtain⟨q,r⟩:∃q:World,q=(w.alloc (.cells #[.slice f d cc] 68)).setCell ⟨c,0,none⟩ (.slice f d cc):=⟨_,rfl⟩;have a:∀b o v,b≠c->w.cell? ⟨b,o,none⟩=some v->q.cell? ⟨b,o,none⟩=some v:=by grind[World.cell?_setCell_other,nO]
 have h:aO≠c:=AU;have h0:=a nb _ _ g (e 0 (.int .i64 3) rfl);have h1:=a nb _ _ g (e 1 (.int .i64 0) rfl);have h2:=a nb _ _ g (e 2 (.int .i64 0) rfl);have h3:=a nb _ _ g (e 3 (.slice j i ec) rfl);have h4:=a nb _ _ g (e 4 (.slice none 0 0) rfl);have bn:=a nb _ _ g (e 5 (.slice none 0 0) rfl);have bI:=a nb _ _ g (e 6 (.slice none 0 0) rfl);simp at h0;have aFn:=fun o=>nO (a aO 0 (.int .i64 W) h (by simp[World.cell?,l])) o;have aFo:=fun o=>nO (a aO 1 (.int .i64 p) h (by simp[World.cell?,l])) o;rw[<-r];have TP:Hid _:=r;have HC:Hid _:=a;clear r a s m l e;go_wp2
 refine⟨rfl,Bv (g_ ?_)⟩;go_wp2
 refine⟨rfl,Gp (cn (g_ ?_))⟩;go_wp2
 refine⟨rfl,cn (m2 (t:=true) rfl (wB (cn (t5 (cn (g_ ?_))))))⟩;go_wp2
 refine⟨rfl,cn (zX (vk 4 AW AW ?_))⟩;simp only[List.drop_zero,List.take_succ_cons,List.take_zero];go_wp2
 exact⟨rfl,om ⟨rfl,⟨rfl,rfl,rfl,rfl,rfl,rfl,rfl,rfl,rfl,rfl,rfl,rfl,rfl⟩,by rw[TP.out];rfl⟩⟩
theorem ab5{w:World}{b o:Nat}{fr:Nat×Nat}(h:w.heap[b]?=some (.cells c e fr))(d:c[o]?=some v):w.setCell ⟨b,o,none⟩ v=w:=by
 have a:(w.setCell ⟨b,o,none⟩ v).heap=w.heap:=by
  apply Array.ext_getElem?;intro i;simp only[World.setCell,Array.getElem?_modify];by_cases hi:b=i
  ·subst hi;simp only[if_true,h,Option.map_some];have f:o<c.size:=by grind
   have:c.setIfInBounds o v=c:=by grind
   grind
  grind
 show({w with heap:=(w.setCell ⟨b,o,none⟩ v).heap}:World)=w;rw[a]
theorem asc(cm:Value)(nb no o aO d c a cc bG j:Nat)(b h:Option Addr)(dA cY ff jH gS lI ll ij ky kQ ln mD Y nQ X lJ W V U T S Q P O N M L p0 p1 p5 p6 H F E D C B A z y x u s J I K r Z:Value)(w:World)(tQ:a<=300)
 (hne:d≠c) (i:w.heap[c]?=some (.cells #[.slice h bG j,.slice none 0 0] 68)) (Er:w.heap[d]?=some (.cells #[.int .i64 0,.slice none 0 0] 59)):
 xQ (ai prog true) Tryz.f19 (wK Tryz.f19 (List.range' 5 5)) (fun v w1=>v=.tuple #[.slice b a cc,.int .i64 0,.agg #[.int .i64 0,.slice none 0 0]]/\w1=(w.alloc (.cells #[.slice b a cc] 68)).setCell ⟨c,1,none⟩ (.slice b a cc))
  ⟨#[cm,.slice (some ⟨nb,no,none⟩) 2 o,dA,cY,ff,.pointer (some ⟨aO,0,none⟩),jH,gS,.pointer (some ⟨d,0,none⟩),.slice (some ⟨c,0,none⟩) 1 2,lI,ll,ij,ky,kQ,ln,mD,.slice (some ⟨nb,no,none⟩) 2 o,.int .i64 2,.int .i64 1,Y,nQ,X,lJ,W,V,U,T,S,.tuple #[.slice b a cc,.slice none 0 0],Q,P,O,N,M,L,p0,p1,p5,p6,H,F,E,D,C,B,A,z,y,x,u,s,J,I,K,r,Z],[]⟩ w:=by
 have aFp:d<w.heap.size:=AU;have TO:c<w.heap.size:=n9 i;have n:(w.alloc (.cells #[.slice b a cc] 68)).heap[c]?=some (.cells #[.slice h bG j,.slice none 0 0] 68):=(Below.heap_alloc _ _ _ TO).trans i;refine Gq (ks':=[.code ((ba.cH 12 (fL Tryz.f19)).getD .skip)]) ?_;generalize p:xQ (ai prog true) Tryz.f19 [.code ((ba.cH 12 (fL Tryz.f19)).getD .skip)] _=R;simp[wK,aF,dR,fL,Tryz.f19,ba.cH,ba.cS,ba.fK,ba.iD];refine vk 5 AW AW ?_;simp only[List.drop_zero,List.drop_succ_cons,List.take_succ_cons,List.take_zero];go_wp2
 refine⟨rfl,t6 (cn (t5 (cn (g_ ?_))))⟩;go_wp2
 refine⟨rfl,m2 (t:=false) rfl (cn (g_ ?_))⟩;have Is:¬((300:Int)<(a:Int)):=Ay;go_wp2
 refine⟨rfl,m2 (t:=false) rfl (wB (Bv (g_ ?_)))⟩;go_wp2_with (at_builtin;apply yn)
 unfold xh;refine ab2 rfl _ _ ab3 rfl rfl rfl (nb:=w.heap.size) (v:=.slice b a cc) (kH (World.alloc_heap_new w _) rfl rfl) rfl (by simp[World.cell?,n]) (by simp[World.frozen?,n]) AW ?_;obtain⟨e,m⟩:∃e:World,e=(w.alloc (.cells #[.slice b a cc] 68)).setCell ⟨c,1,none⟩ (.slice b a cc):=⟨_,rfl⟩;have g:e.heap[c]?=some (.cells #[.slice h bG j,.slice b a cc] 68):=by grind[World.setCell]
 have f:e.heap[d]?=some (.cells #[.int .i64 0,.slice none 0 0] 59):=by grind[ab.mw,Below.heap_alloc]
 rw[<-m];have TP:Hid _:=m;have k:Hid _:=g;have l:Hid _:=f;clear m n i Er g f;go_wp2
 refine⟨rfl,Bv (g_ ?_)⟩;go_wp2
 refine⟨rfl,Gp (cn (g_ ?_))⟩;go_wp2
 refine⟨rfl,cn (m2 (t:=false) rfl (Jg rfl (om ?_)))⟩;rw[<-p];clear p;refine Jh ?_;simp[fL,Tryz.f19,ba.cH];have c1:e.cell? ⟨c,1,none⟩=some (.slice b a cc):=kH k.out rfl rfl;have cV:af e d #[.int .i64 0,.slice none 0 0] 59:=l.out;obtain⟨dW,er,fx⟩:=cV.all;go_wp2
 have q:(e.setCell ⟨d,0,none⟩ (.int .i64 0)).setCell ⟨d,1,none⟩ (.slice none 0 0)=e:=by rw[ab5 l.out rfl,ab5 l.out rfl]
 rw[q];exact bodyPost_ret (v:=.tuple #[.slice b a cc,.int .i64 0,.agg #[.int .i64 0,.slice none 0 0]]) (by simp[results,go_sem,dW]) rfl ⟨_,rfl,rfl,TP.out⟩
section
variable {O:jW}
def GL(w w':World):Prop:=∀b o v,v≠ .slice none 0 0->w.cell? ⟨b,o,none⟩=some v->w'.cell? ⟨b,o,none⟩=some v
theorem ab8{ar:Type}{w:World}{a:Nat}{R:World->(Nat->Option Value)->ar->Prop}{xs:List ar}(h:bd w a R v xs)(b:0<xs.length):v≠ .slice none 0 0:=by obtain⟨c,cap,rfl,-,-⟩:=h;grind
theorem asf{w w':World}(c:GL w w'){l:List Int}(h:km w v l):km w' v l:=by obtain⟨d,cap,rfl,hl,f⟩:=h;refine⟨d,cap,rfl,hl,fun i hi=>?_⟩;obtain⟨b,off,e,a⟩:=f i hi;exact⟨b,off,e,c _ _ _ Aa a⟩
theorem asg{w w':World}(a:GL w w'){l:List bU}(h:k0 w v l):k0 w' v l:=by obtain⟨j,cap,rfl,hl,k⟩:=h;refine⟨j,cap,rfl,hl,fun i hi=>?_⟩;obtain⟨b,off,e,h0,g,f,d,c⟩:=k i hi;exact⟨b,off,e,a _ _ _ Aa h0,a _ _ _ Aa g,a _ _ _ Aa f,a _ _ _ Aa d,c⟩
theorem ab9{w w':World}(a:GL w w'){rs:List dY}(g:∀r∈rs,0<r.1.length/\0<r.2.length)(h:g9 w v rs):g9 w' v rs:=by obtain⟨m,cap,rfl,hl,o⟩:=h;refine⟨m,cap,rfl,hl,fun i hi=>?_⟩;obtain⟨b,off,e,l,k,h0,j,d,c⟩:=o i hi;obtain⟨f,n⟩:=g _ (List.getElem_mem hi);exact⟨b,off,e,l,k,a _ _ _ (ab8 d f) h0,a _ _ _ (ab8 c n) j,asf a d,asg a c⟩
section
variable {P:Program} {M:Nat->Prop} {Shun:Loc->Prop} {w:World}
theorem Behind.ash{d i w':World}(h:Behind O P M Shun w ρ i w')(k:Home O P M Shun w)(j:gW (df P) M (ig M) w d){b a:Nat}(e:ρ.rel b a)(l:d.heap.size<=b):¬M a:=by intro c;obtain⟨S,g⟩:=h.rel;have:=g.inj _ _ _ e (h.le.1 a a ⟨rfl,c⟩);have f:=k.lt c;have:=j.size;omega
theorem ab_{a:Act}(h:a.tmps.size=57)(hd:a.defers=[]):∃ft db dA cY ff dQ Z gS hp Y V T ij W X S R w u c K Q J U I H F E D b C B A z y x P O N M r q p o n m k j i g f e t s v d L,a=⟨#[ft,db,dA,cY,ff,dQ,Z,gS,hp,Y,V,T,ij,W,X,S,R,w,u,c,K,Q,J,U,I,H,F,E,D,b,C,B,A,z,y,x,P,O,N,M,r,q,p,o,n,m,k,j,i,g,f,e,t,s,v,d,L],[]⟩:=by obtain⟨⟨l⟩,ds⟩:=a;have hd:ds=[]:=hd;subst hd;have h:l.length=57:=h;match l,h with|ft::db::dA::cY::ff::dQ::Z::gS::hp::Y::V::T::ij::W::X::S::R::w::u::c::K::Q::J::U::I::H::F::E::D::b::C::B::A::z::y::x::P::O::N::M::r::q::p::o::n::m::k::j::i::g::f::e::t::s::v::d::L::[],_=>grind
theorem Behind.asi{e w':World}(_:Behind O P M Shun w ρ e w'){b o n c:Nat}{u:Value}(d:aA ρ (.slice (some ⟨b,o,none⟩) n c) u):∃a,u=.slice (some ⟨a,o,none⟩) n c/\ρ.rel b a:=by cases d with|@slice _ a' _ _ r=>obtain⟨a,o',f⟩:=a';obtain⟨g,i,h⟩:=r;grind
end
theorem aca:i6 prog true Tryz.f19=true:=by decide+kernel
theorem JX(ρ:ay)(a b:Int):a3 ρ #[.int .i64 a,.int .i64 b] #[.int .i64 a,.int .i64 b]:=iA (l:=[.int .i64 a,.int .i64 b]) fun x c=>by simp at c;rcases c with rfl|rfl<;>exact .int _ _
theorem acb{op:Int}(h:aA ρ ev ev):a3 ρ (eY op ev) (eY op ev):=iA (l:=[.int .i64 op,.int .i64 0,.int .i64 0,ev,.slice none 0 0,.slice none 0 0,.slice none 0 0]) fun x a=>by simp only[List.mem_cons,List.not_mem_nil,or_false]at a;rcases a with rfl|rfl|rfl|rfl|rfl|rfl|rfl<;>first|exact .int _ _ |exact .hA _ _ |exact h
theorem TR{a b c:Value}(f:aA ρ a a)(e:aA ρ b b)(d:aA ρ c c):a3 ρ #[a,b,c] #[a,b,c]:=iA (l:=[a,b,c]) AU
def asj(M:Nat->Prop)(w:World)(rs:List dY)(u:Value)(M':Nat->Prop)(w':World):Prop:=∃a9,u=.tuple #[a9,.int .i64 0,.agg #[.int .i64 0,.slice none 0 0]]/\vu rs a9 M' w'/\fm M w w'
theorem acd{w w':World}{b o:Nat}(f:∀a o' x,w.cell? ⟨a,o',none⟩=some x->(a≠b\/o'≠o)->w'.cell? ⟨a,o',none⟩=some x)(d:w.cell? ⟨b,o,none⟩=some v)(e:v=.slice none 0 0):GL w w':=by intro a o' x c g;grind
theorem asl{Post:Value->World->Prop}{M:Nat->Prop}{w:World}{E aL H nb no J:Nat}{P:Option Addr}{L ec:Nat}{t:List br}(Z:a3 (cB M) #[.slice (some ⟨E,aL,none⟩) 1 H,.slice (some ⟨nb,no,none⟩) 2 J] #[.slice (some ⟨E,aL,none⟩) 1 H,.slice (some ⟨nb,no,none⟩) 2 J])
 (iu:w.cell? ⟨E,aL,none⟩=some v) (hv:lV w v t) (h0:0<t.length) (hsm:t.length<=1000000) {K S W:Nat} (iL:0<K) (hm:K<=64) (hn:0<W) (hW:W<=16) (hS:S<=300) (hZ:t[0].fY.length=S) (dF:∀i,i<S->∀c∈t,xk i c)
 (nv:nP w nb no 1 (.slice none 0 0)) (pr:nP w nb (no+7) 3 (.slice P L ec))  {outs:Nat->List bU} (mf:mP w (.slice P L ec) es) (ok:Gu es (bF t 0 S) outs) (hes:0<es.length):
 qH O prog Post 19 #[.slice (some ⟨E,aL,none⟩) 1 H,.slice (some ⟨nb,no,none⟩) 2 J,.agg #[.int .i64 W,.int .i64 K]] M w 2 (asj M w (eX (bF t 0 S) outs 0 (bF t 0 S).length)):=by
 intro n Shun aj a7 eV a₁ aG i₁ aP k₁ cs₁ hc d_;have asm:(bF t 0 S).length=S:=by rw[z6];rfl
 have wH:M E:=by have:=Z.get 0 _ _ rfl rfl;cases this with|slice _ _ r=>exact r.1.2
 have uq:M nb:=by have:=Z.get 1 _ _ rfl rfl;cases this with|slice _ _ r=>exact r.1.2
 have eR:mz prog 19:=Bw func19 aca rfl;have qF:aA (cB M) v v:=a7.cell wH iu;have ace:aA (cB M) (.slice P L ec) (.slice P L ec):=a7.cell uq (pr 3 _ rfl);rw[enter_at func19 (c:=fL Tryz.f19) rfl];refine Ji fA a7 eR (a:=⟨_,_⟩) ?_ rfl (k:=[.code (fL Tryz.f19)]) (k':=wK Tryz.f19 (List.range' 4 6)) AS AS
  (Q:=fun F a1 w1=>(a1.tmps.size=57/\a1.tmps[0]?=some (.slice (some ⟨E,aL,none⟩) 1 H)/\a1.tmps[1]?=some (.slice (some ⟨nb,no,none⟩) 2 J)/\a1.tmps[5]?=some (.pointer (some ⟨F.heap.size,0,none⟩))/\a1.tmps[8]?=some (.pointer (some ⟨F.heap.size+1,0,none⟩))/\a1.tmps[9]?=some (.slice (some ⟨F.heap.size+1+1,0,none⟩) 0 2)/\a1.tmps[17]?=some (.slice (some ⟨nb,no,none⟩) 2 J)/\a1.tmps[18]?=some (.int .i64 2)/\a1.tmps[19]?=some (.int .i64 0)/\a1.tmps[25]?=some (.agg (eY 1 (.slice none 0 0)))/\a1.tmps[26]?=some (.slice (some ⟨E,aL,none⟩) 1 H)/\a1.tmps[27]?=some (.slice (some ⟨F.heap.size+1+1,0,none⟩) 0 2)/\a1.tmps[28]?=some (.agg #[.int .i64 W,.int .i64 K]))/\∃T:Nat->Question->Nat,w1=(((({F with tape:=T}:World).alloc (.cells #[.int .i64 W,.int .i64 K] 64)).alloc (.cells #[.int .i64 0,.slice none 0 0] 59)).alloc (.cells #[.slice none 0 0,.slice none 0 0] 68)).alloc (.cells (eY 1 (.slice none 0 0)) 37)) (fun F R T b cs=>?_) ?_
 ·exact(a3.append (a:=#[.slice (some ⟨E,aL,none⟩) 1 H,.slice (some ⟨nb,no,none⟩) 2 J]) (b:=#[.agg #[.int .i64 W,.int .i64 K]]) Z (.one (.ki (JX _ _ _)))).append (BS _ _)
 ·obtain⟨a1,w1,⟨h1,h2,h3⟩,h4⟩:=asa W K (.slice (some ⟨E,aL,none⟩) 1 H) nb no J {F with tape:=T} (fun j x h=>a7.su R uq (nv j x h)) b cs;exact⟨a1,w1,AU,h4⟩
 rintro ρ F a1 w1 a' qc R ⟨⟨hsz,f0,f1,f5,f8,f9,f17,f18,f19,f25,f26,f27,f28⟩,T,rfl⟩ m gu C;have iK:fm M w qc:=C.Gm a7 R fun b c e z A h=>by grind[Below.heap_alloc]
 obtain⟨u0,g0,r0⟩:=m.some f0;obtain⟨u1,g1,r1⟩:=m.some f1;obtain⟨u5,js,gw⟩:=m.some f5;obtain⟨u8,Es,k2⟩:=m.some f8;obtain⟨u9,Et,tA⟩:=m.some f9;obtain⟨u17,y1,Eu⟩:=m.some f17;obtain⟨u18,Ev,JY⟩:=m.some f18;obtain⟨u19,y2,JZ⟩:=m.some f19;obtain⟨u25,BU,x1⟩:=m.some f25;obtain⟨u26,BV,TS⟩:=m.some f26;obtain⟨u27,BW,J0⟩:=m.some f27;obtain⟨u28,Oc,J1⟩:=m.some f28;have C6:=C.rel.choose_spec.one;obtain rfl:=C.same (Z.get 0 _ _ rfl rfl) r0;obtain rfl:=C.same (Z.get 1 _ _ rfl rfl) r1;obtain rfl:=C.same (Z.get 1 _ _ rfl rfl) Eu;obtain rfl:=C.same (Z.get 0 _ _ rfl rfl) TS;obtain rfl:=C.same (.int _ _) JY;obtain rfl:=C.same (.int _ _) JZ;obtain rfl:=C.same (.ki (acb (.hA _ _))) x1;obtain rfl:=C.same (.ki (JX _ _ _)) J1;obtain rfl:=Sa C6 tA J0;obtain⟨aO,rfl,q5⟩:=C.e7 gw;obtain⟨h7,rfl,BX⟩:=C.e7 k2;obtain⟨g,rfl,Od⟩:=C.asi tA;have Sr:qc.heap[aO]?=some (.cells #[.int .i64 W,.int .i64 K] 64):=C.obj q5 ((Below.heap_alloc _ _ _ (by grind[World.size_alloc])).trans ((Below.heap_alloc _ _ _ (by grind[World.size_alloc])).trans ((Below.heap_alloc _ _ _ Bp).trans (World.alloc_heap_new _ _)))) (JX _ _ _);have asn:qc.heap[h7]?=some (.cells #[.int .i64 0,.slice none 0 0] 59):=C.obj BX ((Below.heap_alloc _ _ _ Bp).trans ((Below.heap_alloc _ _ _ Bp).trans Ec)) (iA (l:=[.int .i64 0,.slice none 0 0]) fun x h=>by
  simp at h;rcases h with rfl|rfl
  ·exact .int _ _
  ·exact .hA _ _)
 have aso:qc.heap[g]?=some (.cells #[.slice none 0 0,.slice none 0 0] 68):=C.obj Od ((Below.heap_alloc _ _ _ Bp).trans Ec) (iA (l:=[.slice none 0 0,.slice none 0 0]) fun x h=>by
  simp only[List.mem_cons,List.not_mem_nil,or_false]at h;rcases h with rfl|rfl<;>exact .hA _ _)
 have aFq:¬M g:=C.ash a7 R Od Ay;have J2:h7≠g:=AU;have gq:aO≠g:=AU;have asp:a'.tmps.size=57:=by rw[<-m.size];grind
 have J3:=C.all m;obtain⟨o,ho⟩:∃o,(aF Tryz.f19 5)[4]?=some o:=⟨_,B2⟩;obtain rfl:=iE ho;have aFr:(Act.eval a')=(Act.eval a'):=rfl;refine Gn (rest:=List.range' 5 5) rfl func26 BB rfl (vs:=#[.agg (eY 1 (.slice none 0 0)),.slice (some ⟨E,aL,none⟩) 1 H,.slice (some ⟨g,0,none⟩) 0 2,.agg #[.int .i64 W,.int .i64 K]]) Gl (d:=1) Ay C.dH ⟨eR,.inl J3,gu,AS,AS,AU⟩ ho rfl (V:=N9 (l3 ρ) qc (bF t 0 S)) (fun k=>?_) ?_
 ·have a4:bC qc (qc.at k):=fun _ _ _ x=>x;exact arZ (w:=qc.at k) (B:=0) (TR (J3.get _ _ _ BU BU) (J3.get _ _ _ BV BV) (J3.get _ _ _ BW BW)) (iK.cell wH iu) (bd.mono se a4 (az.bd.cw yG (iK.cw a7) qF hv)) h0 hsm iL hm hn hW hS hZ dF
 rintro u M2 yc gj pL t8 BY mc acf asq ⟨a9,rfl,vV,wy,Oe⟩;obtain⟨p,cc,rfl,hcc⟩:=id wy;rw[asm]at wy;have hcv:aA (cB M2) (.slice p (bF t 0 S).length cc) (.slice p (bF t 0 S).length cc):=by cases acf with|tuple _ hg=>exact hg 0 _ _ rfl rfl
 have J4:∀b,M b->M2 b:=fun b A=>mc b (C.mem A);have acg:fm M w yc:=iK.trans (fun b A=>C.mem A) Oe;have ach:=Oe _ _ _ _ ⟨_,Od⟩ aso;have asr:=Oe _ _ _ _ ⟨_,q5⟩ Sr;have ass:=Oe _ _ _ _ ⟨_,BX⟩ asn;have Ew:=mc _ ⟨_,Od⟩;have aci:=mc _ ⟨_,q5⟩;have Of:=mc _ ⟨_,BX⟩;have ast:a3 (cB M2) (a'.put (some 29) (.tuple #[.slice p (bF t 0 S).length cc,.slice none 0 0])).tmps (a'.put (some 29) (.tuple #[.slice p (bF t 0 S).length cc,.slice none 0 0])).tmps:=(J3.mono (sG mc)).set acf _;have asu:(a'.put (some 29) (.tuple #[.slice p (bF t 0 S).length cc,.slice none 0 0])).tmps.size=57:=Dl;have D:∀i x,i≠29->a'.tmps[i]?=some x->(a'.put (some 29) (.tuple #[.slice p (bF t 0 S).length cc,.slice none 0 0])).tmps[i]?=some x:=fun i x hi h=>by simp_all[Act.put,Ne.symm]
 have TT:(a'.put (some 29) (.tuple #[.slice p (bF t 0 S).length cc,.slice none 0 0])).tmps[29]?=some (.tuple #[.slice p (bF t 0 S).length cc,.slice none 0 0]):=by simp[Act.put,asp]
 replace g0:=D 0 _ AW g0;replace g1:=D 1 _ AW g1;replace js:=D 5 _ AW js;replace Es:=D 8 _ AW Es;replace Et:=D 9 _ AW Et;replace y1:=D 17 _ AW y1;replace Ev:=D 18 _ AW Ev;replace y2:=D 19 _ AW y2;have asv:(a'.put (some 29) (.tuple #[.slice p (bF t 0 S).length cc,.slice none 0 0])).defers=[]:=C8;show cp prog Post gj pL 0 (bb ((base 19).at (a'.put (some 29) (.tuple #[.slice p (bF t 0 S).length cc,.slice none 0 0])) (wK Tryz.f19 (List.range' 5 5))) _) yc;clear D f0 f1 f5 f8 f9 f17 f18 f19 f25 f26 f27 f28 BU BV BW Oc x1 J0 J1;generalize a'.put (some 29) (.tuple #[.slice p (bF t 0 S).length cc,.slice none 0 0])=bz at *;obtain⟨ft,db,dA,cY,ff,dQ,jH,gS,hp,ja,lI,ll,ij,ky,kQ,ln,mD,pe,rV,vw,pN,nQ,pO,lJ,pP,pQ,pR,pS,pT,vx,pU,pV,pW,pX,pY,pZ,p0,p1,p5,p6,ub,ud,ue,uf,ug,uh,ui,uj,uk,ul,um,uo,tB,tC,rU,up,p7,rfl⟩:=ab_ asu asv;obtain rfl:=Option.some.inj g0;obtain rfl:=Option.some.inj g1;obtain rfl:=Option.some.inj js;obtain rfl:=Option.some.inj Es;obtain rfl:=Option.some.inj Et;obtain rfl:=Option.some.inj y1;obtain rfl:=Option.some.inj Ev;obtain rfl:=Option.some.inj y2;obtain rfl:=Option.some.inj TT;have Ah:nb≠g:=AU;refine Ji fA BY eR ast rfl (k:=wK Tryz.f19 (List.range' 5 5)) (k':=wK Tryz.f19 (List.range' 4 6)) AS AS
  (Q:=fun F a1 w1=>(a1.tmps.size=57/\a1.tmps[0]?=some (.slice (some ⟨E,aL,none⟩) 1 H)/\a1.tmps[1]?=some (.slice (some ⟨nb,no,none⟩) 2 J)/\a1.tmps[5]?=some (.pointer (some ⟨aO,0,none⟩))/\a1.tmps[8]?=some (.pointer (some ⟨h7,0,none⟩))/\a1.tmps[9]?=some (.slice (some ⟨g,0,none⟩) 1 2)/\a1.tmps[17]?=some (.slice (some ⟨nb,no,none⟩) 2 J)/\a1.tmps[18]?=some (.int .i64 2)/\a1.tmps[19]?=some (.int .i64 1)/\a1.tmps[25]?=some (.agg (eY 3 (.slice P L ec)))/\a1.tmps[26]?=some (.slice (some ⟨E,aL,none⟩) 1 H)/\a1.tmps[27]?=some (.slice (some ⟨g,0,none⟩) 1 2)/\a1.tmps[28]?=some (.agg #[.int .i64 W,.int .i64 K]))/\∃T:Nat->Question->Nat,w1=((({F with tape:=T}:World).alloc (.cells #[.slice p (bF t 0 S).length cc] 68)).setCell ⟨g,0,none⟩ (.slice p (bF t 0 S).length cc)).alloc (.cells (eY 3 (.slice P L ec)) 37)) (fun F R T b cs=>?_) ?_
 ·obtain⟨a1,w1,⟨h1,h2,h3⟩,h4⟩:=asb W K (.slice (some ⟨E,aL,none⟩) 1 H) nb no J aO h7 g (bF t 0 S).length cc p P L ec dA cY ff jH gS lI ll ij ky kQ ln mD pN nQ pO lJ pP pQ pR pS pT pU pV pW pX pY pZ p0 p1 p5 p6 ub ud ue uf ug uh ui uj uk ul um uo tB tC rU up p7 {F with tape:=T} (fun j x h=>BY.su R (J4 _ uq) (acg.cell uq (pr j x h))) AU Ah (BY.vt R Ew ach) (BY.vt R aci asr) b cs;grind
 rintro JW X a1 w1 U wc Ag ⟨⟨aFs,f0,f1,f5,f8,f9,f17,f18,f19,f25,f26,f27,f28⟩,l7,rfl⟩ I vr y;have asw:g<X.heap.size:=by rw[Ag.size];grind
 have acj:X.heap[g]?=some (.cells #[.slice none 0 0,.slice none 0 0] 68):=BY.vt Ag Ew ach;have qu:∀b,b≠g->b<X.heap.size->(((({X with tape:=l7}:World).alloc (.cells #[.slice p (bF t 0 S).length cc] 68)).setCell ⟨g,0,none⟩ (.slice p (bF t 0 S).length cc)).alloc (.cells (eY 3 (.slice P L ec)) 37)).heap[b]?=X.heap[b]?:=fun b A hlt=>by grind[Below.heap_alloc,ab.mw]
 have asx:(((({X with tape:=l7}:World).alloc (.cells #[.slice p (bF t 0 S).length cc] 68)).setCell ⟨g,0,none⟩ (.slice p (bF t 0 S).length cc)).alloc (.cells (eY 3 (.slice P L ec)) 37)).heap[g]?=some (.cells #[.slice p (bF t 0 S).length cc,.slice none 0 0] 68):=by refine(Below.heap_alloc _ _ _ (by grind[ab.oh,World.size_alloc])).trans ?_;have:(({X with tape:=l7}:World).alloc (.cells #[.slice p (bF t 0 S).length cc] 68)).heap[g]?=some (.cells #[.slice none 0 0,.slice none 0 0] 68):=(Below.heap_alloc _ _ _ asw).trans acj;simp[World.setCell,Array.getElem?_modify,this]
 generalize(((({X with tape:=l7}:World).alloc (.cells #[.slice p (bF t 0 S).length cc] 68)).setCell ⟨g,0,none⟩ (.slice p (bF t 0 S).length cc)).alloc (.cells (eY 3 (.slice P L ec)) 37))=asy at *;have ack:fm (fun b=>M2 b/\b≠g) yc wc:=fun b c e z A h=>y.obj (y.le.1 b b ⟨rfl,A.1⟩) ((qu b A.2 (by rw[Ag.size];grind)).trans (BY.vt Ag A.1 h)) (by
  obtain⟨o,q1,N⟩:=BY.cl b A.1;rw[h]at q1;cases q1;rcases N with N|N
  ·cases N with|cells _ qi _=>grind
  ·exact N.elim)
 have acl:wc.heap[g]?=some (.cells #[.slice p (bF t 0 S).length cc,.slice none 0 0] 68):=y.obj (y.le.1 g g ⟨rfl,Ew⟩) asx (iA (l:=[.slice p (bF t 0 S).length cc,.slice none 0 0]) fun x h=>by
  simp at h;rcases h with rfl|rfl
  ·grind
  ·exact .hA _ _)
 have asz:GL X asy:=acd (b:=g) (o:=0) (fun aD o' x h hne=>by
  obtain⟨c,e,fr,k1,bE,cr⟩:=vJ h;grind[kH]) (kH acj rfl rfl) rfl
 have asA:∀r∈bF t 0 S,0<r.1.length/\0<r.2.length:=by intro r hr;simp only[bF,List.mem_map]at hr;obtain⟨k,-,rfl⟩:=hr;exact⟨Aa,AU⟩
 have asB:g9 wc (.slice p (bF t 0 S).length cc) (bF t 0 S):=by have h1:=ab9 asz asA (az.bd.cw m0 (Ag.cw BY.cl) hcv vV);exact az.bd.cw m0 y.cw (hcv.mono y.le) h1
 have acm:fm M w wc:=acg.trans AU ack;obtain⟨u0,g0,r0⟩:=I.some f0;obtain⟨u1,g1,r1⟩:=I.some f1;obtain⟨u5,js,gw⟩:=I.some f5;obtain⟨u8,Es,k2⟩:=I.some f8;obtain⟨u9,Et,tA⟩:=I.some f9;obtain⟨u17,y1,Eu⟩:=I.some f17;obtain⟨u18,Ev,JY⟩:=I.some f18;obtain⟨u19,y2,JZ⟩:=I.some f19;obtain⟨u25,BU,x1⟩:=I.some f25;obtain⟨u26,BV,TS⟩:=I.some f26;obtain⟨u27,BW,J0⟩:=I.some f27;obtain⟨u28,Oc,J1⟩:=I.some f28;have acn:aA (cB M2) (.slice (some ⟨E,aL,none⟩) 1 H) (.slice (some ⟨E,aL,none⟩) 1 H):=(Z.get 0 _ _ rfl rfl).mono (sG J4);have aco:aA (cB M2) (.slice (some ⟨nb,no,none⟩) 2 J) (.slice (some ⟨nb,no,none⟩) 2 J):=(Z.get 1 _ _ rfl rfl).mono (sG J4);obtain rfl:=y.same acn r0;obtain rfl:=y.same aco r1;obtain rfl:=y.same aco Eu;obtain rfl:=y.same acn TS;obtain rfl:=y.same (.int _ _) JY;obtain rfl:=y.same (.int _ _) JZ;obtain rfl:=y.same (.ki (acb (ace.mono (sG J4)))) x1;obtain rfl:=y.same (.ki (JX _ _ _)) J1;obtain rfl:=y.same (.e7 ⟨⟨rfl,aci⟩,rfl,rfl⟩) gw;obtain rfl:=y.same (.e7 ⟨⟨rfl,Of⟩,rfl,rfl⟩) k2;obtain rfl:=y.same (.slice _ _ ⟨⟨rfl,Ew⟩,rfl,rfl⟩) tA;obtain rfl:=y.same (.slice _ _ ⟨⟨rfl,Ew⟩,rfl,rfl⟩) J0;have J5:=y.all I;have asC:U.tmps.size=57:=by rw[<-I.size];grind
 refine Gn (rest:=List.range' 5 5) rfl func26 BB rfl (vs:=#[.agg (eY 3 (.slice P L ec)),.slice (some ⟨E,aL,none⟩) 1 H,.slice (some ⟨g,0,none⟩) 1 2,.agg #[.int .i64 W,.int .i64 K]]) (by simp[Act.eval,BU,BV,BW,Oc]) (d:=1) Ay y.dH ⟨eR,.inl J5,vr,AS,AS,⟨29,rfl,AU⟩⟩ ho rfl (V:=N9 (l3 JW) wc (eX (bF t 0 S) outs 0 (bF t 0 S).length)) (fun k=>?_) ?_
 ·have a4:bC wc (wc.at k):=fun _ _ _ x=>x;exact ar7 (w:=wc.at k) (B:=0) (TR (J5.get _ _ _ BU BU) (J5.get _ _ _ BV BV) (J5.get _ _ _ BW BW)) (kH acl rfl rfl) ok (bd.mono ns a4 (az.bd.cw yH (acm.cw a7) ace mf)) (bd.mono xM a4 asB) AU iL hm hn hW AU
 rintro u GM wd r8 acp BZ Ex Lm acq asD ⟨nR,rfl,gy,asE,TU⟩;obtain⟨q,s,rfl,aFt⟩:=id asE;have yJ:(eX (bF t 0 S) outs 0 (bF t 0 S).length).length=S:=by grind[Gt]
 have TV:aA (cB GM) (.slice q (eX (bF t 0 S) outs 0 (bF t 0 S).length).length s) (.slice q (eX (bF t 0 S) outs 0 (bF t 0 S).length).length s):=by cases acq with|tuple _ hg=>exact hg 0 _ _ rfl rfl
 have acr:∀b,M2 b->GM b:=fun b A=>Lm b (y.mem A);have acs:∀b,M b->GM b:=AU;have acu:=TU _ _ _ _ (y.mem Ew) acl;have asF:=ack _ _ _ _ ⟨Of,J2⟩ ass;have asG:=TU _ _ _ _ (y.mem Of) asF;have acv:=acr _ Ew;have asH:=acr _ Of;have asI:a3 (cB GM) (U.put (some 29) (.tuple #[.slice q (eX (bF t 0 S) outs 0 (bF t 0 S).length).length s,.slice none 0 0])).tmps (U.put (some 29) (.tuple #[.slice q (eX (bF t 0 S) outs 0 (bF t 0 S).length).length s,.slice none 0 0])).tmps:=(J5.mono (sG Lm)).set acq _;have asJ:(U.put (some 29) (.tuple #[.slice q (eX (bF t 0 S) outs 0 (bF t 0 S).length).length s,.slice none 0 0])).tmps.size=57:=Dl;have D:∀i x,i≠29->U.tmps[i]?=some x->(U.put (some 29) (.tuple #[.slice q (eX (bF t 0 S) outs 0 (bF t 0 S).length).length s,.slice none 0 0])).tmps[i]?=some x:=fun i x hi h=>by simp[Act.put,Ne.symm hi];exact h
 have TT:(U.put (some 29) (.tuple #[.slice q (eX (bF t 0 S) outs 0 (bF t 0 S).length).length s,.slice none 0 0])).tmps[29]?=some (.tuple #[.slice q (eX (bF t 0 S) outs 0 (bF t 0 S).length).length s,.slice none 0 0]):=by simp[Act.put,asC]
 replace g0:=D 0 _ AW g0;replace g1:=D 1 _ AW g1;replace js:=D 5 _ AW js;replace Es:=D 8 _ AW Es;replace Et:=D 9 _ AW Et;replace y1:=D 17 _ AW y1;replace Ev:=D 18 _ AW Ev;replace y2:=D 19 _ AW y2;have asK:(U.put (some 29) (.tuple #[.slice q (eX (bF t 0 S) outs 0 (bF t 0 S).length).length s,.slice none 0 0])).defers=[]:=C8;show cp prog Post r8 acp 0 (bb ((base 19).at (U.put (some 29) (.tuple #[.slice q (eX (bF t 0 S) outs 0 (bF t 0 S).length).length s,.slice none 0 0])) (wK Tryz.f19 (List.range' 5 5))) _) wd;clear D f0 f1 f5 f8 f9 f17 f18 f19 f25 f26 f27 f28 BU BV BW Oc x1 J0 J1;generalize U.put (some 29) (.tuple #[.slice q (eX (bF t 0 S) outs 0 (bF t 0 S).length).length s,.slice none 0 0])=ej at *;obtain⟨yZ,jv,lR,mn,yY,lj,xZ,ua,gT,iF,sO,asL,x2,asM,x3,TW,asN,aFu,aFv,aFw,uu,GN,asO,asP,asQ,asR,asS,asT,asU,aFx,asV,asW,asX,asY,asZ,as0,as1,as2,as3,as4,as5,as6,as7,as8,as9,as_,ata,atb,atc,atd,ate,atf,atg,ath,ati,atj,atk,rfl⟩:=ab_ asJ asK;obtain rfl:=Option.some.inj g0;obtain rfl:=Option.some.inj g1;obtain rfl:=Option.some.inj js;obtain rfl:=Option.some.inj Es;obtain rfl:=Option.some.inj Et;obtain rfl:=Option.some.inj y1;obtain rfl:=Option.some.inj Ev;obtain rfl:=Option.some.inj y2;obtain rfl:=Option.some.inj TT;have rv:aA (cB GM) (.tuple #[.slice q (eX (bF t 0 S) outs 0 (bF t 0 S).length).length s,.int .i64 0,.agg #[.int .i64 0,.slice none 0 0]]) (.tuple #[.slice q (eX (bF t 0 S) outs 0 (bF t 0 S).length).length s,.int .i64 0,.agg #[.int .i64 0,.slice none 0 0]]):=.E8 (TR TV (.int _ _) (.ki (iA (l:=[.int .i64 0,.slice none 0 0]) fun x h=>by
  simp at h;rcases h with rfl|rfl
  ·exact .int _ _
  ·exact .hA _ _)))
 refine Nk fA Ex func19 aca rfl asI rfl AS (hc.mono acs) (hJ:=fun F u bx=>u=.tuple #[.slice q (eX (bF t 0 S) outs 0 (bF t 0 S).length).length s,.int .i64 0,.agg #[.int .i64 0,.slice none 0 0]]/\∃T:Nat->Question->Nat,bx=(({F with tape:=T}:World).alloc (.cells #[.slice q (eX (bF t 0 S) outs 0 (bF t 0 S).length).length s] 68)).setCell ⟨g,1,none⟩ (.slice q (eX (bF t 0 S) outs 0 (bF t 0 S).length).length s)) (fun F R T f cs hf=>?_) ?_
 ·obtain⟨v4,w4,aFy,⟨h1,h2⟩,h3,h4⟩:=asc (.slice (some ⟨E,aL,none⟩) 1 H) nb no J aO h7 g (eX (bF t 0 S) outs 0 (bF t 0 S).length).length s (bF t 0 S).length cc q p lR mn yY xZ ua sO asL x2 asM x3 TW asN uu GN asO asP asQ asR asS asT asU asV asW asX asY asZ as0 as1 as2 as3 as4 as5 as6 as7 as8 as9 as_ ata atb atc atd ate atf atg ath ati atj atk {F with tape:=T} AU J2 (Ex.vt R acv acu) (Ex.vt R asH asG) f cs hf;grind
 rintro atl Ai v4 aFz u4 bx J6 ⟨rfl,Aj,rfl⟩ acw Y;obtain rfl:=Y.same rv acw;have atm:g<Ai.heap.size:=by rw[J6.size];grind
 have TX:Ai.heap[g]?=some (.cells #[.slice p (bF t 0 S).length cc,.slice none 0 0] 68):=Ex.vt J6 acv acu;have atn:∀b,b≠g->b<Ai.heap.size->((({Ai with tape:=Aj}:World).alloc (.cells #[.slice q (eX (bF t 0 S) outs 0 (bF t 0 S).length).length s] 68)).setCell ⟨g,1,none⟩ (.slice q (eX (bF t 0 S) outs 0 (bF t 0 S).length).length s)).heap[b]?=Ai.heap[b]?:=fun b A hlt=>by grind[ab.mw,Below.heap_alloc]
 have ato:((({Ai with tape:=Aj}:World).alloc (.cells #[.slice q (eX (bF t 0 S) outs 0 (bF t 0 S).length).length s] 68)).setCell ⟨g,1,none⟩ (.slice q (eX (bF t 0 S) outs 0 (bF t 0 S).length).length s)).heap[g]?=some (.cells #[.slice p (bF t 0 S).length cc,.slice q (eX (bF t 0 S) outs 0 (bF t 0 S).length).length s] 68):=by have:(({Ai with tape:=Aj}:World).alloc (.cells #[.slice q (eX (bF t 0 S) outs 0 (bF t 0 S).length).length s] 68)).heap[g]?=some (.cells #[.slice p (bF t 0 S).length cc,.slice none 0 0] 68):=(Below.heap_alloc _ _ _ atm).trans TX;simp[World.setCell,Array.getElem?_modify,this]
 generalize((({Ai with tape:=Aj}:World).alloc (.cells #[.slice q (eX (bF t 0 S) outs 0 (bF t 0 S).length).length s] 68)).setCell ⟨g,1,none⟩ (.slice q (eX (bF t 0 S) outs 0 (bF t 0 S).length).length s))=atp at *;have atq:fm (fun b=>GM b/\b≠g) wd bx:=fun b c e z A h=>Y.obj (Y.le.1 b b ⟨rfl,A.1⟩) ((atn b A.2 (by rw[J6.size];grind)).trans (Ex.vt J6 A.1 h)) (by
  obtain⟨o,q1,N⟩:=Ex.cl b A.1;rw[h]at q1;cases q1;rcases N with N|N
  ·cases N with|cells _ qi _=>grind
  ·exact N.elim)
 have atr:GL Ai atp:=acd (b:=g) (o:=1) (fun aD o' x h hne=>by
  obtain⟨c,e,fr,k1,bE,cr⟩:=vJ h;simp only at k1 cr;by_cases A:aD=g
  ·subst A;rw[TX]at k1;cases k1;have ho:o'≠1:=AU;refine kH ato rfl ?_;match o',ho with|0,_=>grind|o+2,_=>simp at cr
  grind[kH]) (kH TX rfl rfl) rfl
 have att:∀r∈eX (bF t 0 S) outs 0 (bF t 0 S).length,0<r.1.length/\0<r.2.length:=by intro r hr;simp only[eX,List.mem_map,List.mem_range]at hr;obtain⟨k,hk,rfl⟩:=hr;refine⟨?_,by rw[ok.len];grind⟩;have dK:0+k<(bF t 0 S).length:=Ay;simp[bF]at dK⊢;simp[dK]
 have atu:g9 bx (.slice q (eX (bF t 0 S) outs 0 (bF t 0 S).length).length s) (eX (bF t 0 S) outs 0 (bF t 0 S).length):=by have h1:=ab9 atr att (az.bd.cw m0 (J6.cw Ex.cl) TV gy);exact az.bd.cw m0 Y.cw (TV.mono Y.le) h1
 have atv:fm M w wd:=acm.trans (fun b A=>y.mem (J4 b A)) TU;refine d_ _ (l3 atl) bx r8 acp Ay Y.dH (fun b A=>Y.mem (acs b A)) (Y.val acw) ((((C.gA.trans asq).trans y.gA).trans asD).trans Y.gA) ⟨_,rfl,⟨atu,AU⟩,?_⟩;exact atv.trans AU atq
end
end bD
end Go.Proofs.YtoehnnefaeoeoaaGreat
