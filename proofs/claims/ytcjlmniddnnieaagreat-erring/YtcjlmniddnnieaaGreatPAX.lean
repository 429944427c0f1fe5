import Derived.Test.YtcjlmniddnnieaaGreatPAW
set_option linter.all false
set_option maxRecDepth 100000
set_option maxHeartbeats 16000000
namespace Go.Proofs.YtcjlmniddnnieaaGreat
open Tryz
namespace dI
open Conc ConcM RowKit au bn ai e_ g6 fF hU cC m8 c5 bU aK
variable{rs:List bh}{es:List (List bH)}
section
variable{O:fk}
def auE:vef.funcs[(193:Nat)]?=some f193:=veb func193
def auF(ev aA:Value)(rs:List bh)(w:aH)(b:∃a n c,ev=.slice a n c)(d:eS w aA rs):
 Calls vef 193 #[.agg #[ev,aA]] w λe _=>e=.returned (.I (rs.length:Int)):=by
 obtain⟨f,aW,ec,rfl⟩:=b;obtain⟨bm,cap,rfl,-,-⟩:=d;go_enter auE,ntmps193
 go_wp2
 go_ret
 rfl
def auG:gz prog false f193=true:=by decide+kernel
def y9{M aT:dY}(k:∀b,M b->aT b){w0:aH}{bs:uan}(hg:∀g,g<=prog.globals.size->M g)(d:fA (cr prog false) M bZ w0){ev aA:Value}(p:∃a n c,ev=.slice a n c)(hv:eS w0 aA rs)(s:ax (dz M bZ) ev ev)(f:ax (dz M bZ) aA aA){ST:Bool->eo.Lo->aX->Prop}(o:∀m l g w N e,(∀b,N b->e b)->ST m l ⟨g,w,N⟩->ST m l ⟨g,w,e⟩):
 iG prog ST true 193 (#[.agg #[ev,aA]]++#[]) (iH eo () aT w0 bs) (λu q=>u=.I (rs.length:Int)/\q=iH eo () aT w0 bs):=
 UC kH Y func193 auG Y AM k hg (.one (.oW (lg AJ))) d (λw i j r h=>auF ev aA rs {j with tape:=h} p (aZ.mono pj (xJ j h) (au.aZ.carry ny (r.carry (nw d i)) f (au.aZ.carry ny (nx i d) f hv)))) o
def auH(v u:Value)(args:fi)(w:aH):(callMethod (.iface 107 (.agg #[v,u])) "Piece" args).run prog w=.ok (.enter 192 (#[.agg #[v,u]]++args)) w/\(callMethod (.iface 107 (.agg #[v,u])) "Piece" args).events prog w #[]=#[]:=⟨AS,AS⟩
def y5(v u:Value)(w:aH):(callMethod (.iface 107 (.agg #[v,u])) "Size" #[]).run prog w=.ok (.enter 193 (#[.agg #[v,u]]++#[])) w/\(callMethod (.iface 107 (.agg #[v,u])) "Size" #[]).events prog w #[]=#[]:=⟨AS,AS⟩
def places{M:dY}{w:aH}(n:fA (cr prog false) M bZ w){aA:Value}(l:eS w aA rs)(j:ax (dz M bZ) aA aA){p:ubu}(f:∀i(h:i<rs.length),rs[i].1=[p i]):
 ∃pl:Nat->Value,zf w aA pl rs.length/\∀i,i<rs.length->∃b o k,pl i=.S b o 1 k/\M b/\w.cell? (.a b o)=some (.I (p i)):=by
 obtain⟨bm,cap,rfl,-,q⟩:=l;have u:(λb=>M b\/bZ b)=M:=by
  funext b
  exact propext ⟨λh=>h.resolve_right λx=>x,.inl⟩
 have key:∀i:Nat,∃v:Value,i<rs.length->(∃b off c,(Value.slice bm rs.length cap)=.S b off rs.length c/\w.cell? (.a b (off+i*2))=some v)/\∃b o k,v=.S b o 1 k/\M b/\w.cell? (.a b o)=some (.I (p i)):=by
  intro i;by_cases hi:i<rs.length
  .obtain⟨b,off,rfl,pv,z,d,d1,a,-⟩:=q i hi;simp only at d;refine⟨pv,λ_=>⟨⟨b,off,cap,Y,d⟩,?_⟩⟩;have m:M b:=by cases j with|slice _ _ r=>exact r.1.2
   obtain⟨t,e,g⟩:=nx (C:=cr prog false) (D:=M) (w:=w) (w':=w) (λ_ _=>Y) n ⟨b,off+i*2+0,none⟩ ⟨b,off+i*2+0,none⟩ _ ⟨⟨Y,m⟩,Y,Y⟩ d;rw[d]at e;cases e;rw[f i hi]at a;obtain⟨y,pc,rfl,-,s⟩:=a;obtain⟨b2,o2,rfl,hcell⟩:=s 0 AQ;refine⟨b2,o2,pc,Y,?_,?_⟩
   .cases g with|slice _ _ r=>exact r.1.2
   .simpa[rQ]using hcell
  .exact⟨undef,λh=>absurd h hi⟩
 obtain⟨pl,a⟩:=vcn.1 key;exact⟨pl,λi hi=>(a i hi).1,λi hi=>(a i hi).2⟩
def y4(rs:List bh)(outs:Nat->List bw):jM (kB rs outs):=SC λi=>((rs[i]?.map (λr:bh=>r.1)).getD [],outs i)
def auI{err:uaz}{n af S i T:Nat}(h:iu err 0 S=some i)(k:n=T*af)(c:n<=i)(g:i<min (n+af) S):iu err (T*af) (min (T*af+af) S)=some i:=by
 obtain⟨-,-,a,d⟩:=xL h;subst k;cases b:iu err (T*af) (min (T*af+af) S)with
 |none=>have:=Uh b i c g;rw[a]at this;cases this
 |some j=>
  obtain⟨l,m,e,f⟩:=xL b;rcases Nat.lt_trichotomy i j with x|x|x
  .have:=f i c x;rw[a]at this;cases this
  .rw[x]
  .have:=d j (vba _) x;rw[e]at this;cases this
section
variable{Post:fX}{M:dY}{w:aH}
def VL:(λb=>M b\/bZ b)=M:=by
 funext b
 exact propext ⟨λh=>h.resolve_right λx=>x,.inl⟩
def yP{outs:Nat->List bw}{bad:ubb}(ok:xM es rs outs bad){p:ubu}(A:∀i j,i<j->j<rs.length->p i<p j){ev aA:Value}(s:fA (cr prog false) M bZ w)(x:∀g,g<=prog.globals.size->M g)(hv:nP w ev es)(C:eS w aA rs)(hd:mA rs.length aA)(m:ax (dz M bZ) ev ev)(h:ax (dz M bZ) aA aA){af:Nat}(F:0<af)(I:af<=64){pl:ubm}(t:zf w aA pl rs.length)(r:∀i,i<rs.length->∃b o k,pl i=.S b o 1 k/\M b/\w.cell? (.a b o)=some (.I (p i))){c:da}{bY:aH}{Stop:Bool->ai.Lo At->aX->Prop}(hK:∀b,M b->c.K b)(a3:c.N=(rs.length+af-1) / af)(q:∀b,M b->bY.heap[b]?=w.heap[b]?)(im:∀T,T<c.N->c.bad T=(iu (ll bad) (T*af) (min (T*af+af) rs.length)).isSome)(Dj:∀T i,T<c.N->iu (ll bad) (T*af) (min (T*af+af) rs.length)=some i->c.place T=pl i)(lB:∀T,T<c.N->c.rows T=if c.bad T then 0 else min (T*af+af) rs.length-T*af)(B:∀T,c.bad T=true->c.least=.N):
 rh c bY prog Stop 112 (.iface 107 (.agg #[ev,aA])) 192 (.agg #[ev,aA]) (λT=>T*af) (λT=>min (T*af+af) rs.length)
  (λT u M' w=>lf (cr prog false) M c.K (uD es rs pl (T*af) (min (T*af+af) rs.length)) u M' w) (λT v M' w=>lf (cr prog false) M c.K (λw v=>T<c.N/\eS w v (kB rs outs (T*af) (min (T*af+af) rs.length))) v M' w):=by
 have y:fA (cr prog false) M bZ bY:=nw s q;have f:=nx q s;refine aqB (bI:=M) (p:=p) (pl:=pl) hK x (by rw[VL];exact y) ok (au.aZ.carry Bc f m hv) (au.aZ.carry ny f h C) hd (by rw[VL];exact m) (by rw[VL];exact h) (λi hi=>?_) A (t.carry (ρ:=dz M bZ) (λa b J E D=>E.1.symm.trans D.1) (λi hi=>by obtain⟨b,o,k,e,d,-⟩:=r i hi;exact⟨b,o,1,k,e,Y,d⟩) f h) (λargs w=>auH ev aA args w) (λT l=>?_) (λT T' l=>?_) im Dj lB B
 .obtain⟨b,o,k,e,d,hcell⟩:=r i hi;obtain⟨H,n,z⟩:=f ⟨b,o,none⟩ ⟨b,o,none⟩ _ ⟨⟨Y,d⟩,Y,Y⟩ hcell;rw[z.mw]at n;exact⟨b,o,k,e,d,n⟩
 .have:=(Hf (S:=rs.length) F).2 T (a3▸l);omega
 .have:(T+1)*af<=T'*af:=vcx _ l;rw[Nat.succ_mul]at this;omega
def auJ{outs:Nat->List bw}{bad:ubb}(ok:xM es rs outs bad){p:ubu}(s:∀i(h:i<rs.length),rs[i].1=[p i])(x:∀i j,i<j->j<rs.length->p i<p j)(e:∀i,i<rs.length->bad i=none){ev aA:Value}(D:fA (c0 prog) M (hY M) w)(b:∀g,g<=prog.globals.size->M g)(hv:nP w ev es)(f:eS w aA rs)(hd:mA rs.length aA)(l:ax (bG M) ev ev)(d:ax (bG M) aA aA){af W:Nat}(q:0<af)(m:af<=64)(t:0<W)(z:W<=16)(hS:rs.length<=300):
 ei O prog Post 37 #[.agg #[.I (W:Int),.I (af:Int)],.iface 107 (.agg #[ev,aA])] M w 1 (OZ M w (kB rs outs 0 rs.length)):=by
 have a:fA (cr prog false) M bZ w:=He D;obtain⟨H,ec,F,-⟩:=id hv;obtain⟨pl,r,C⟩:=places a f (nF d) s;refine VC (g:=kB rs outs) (ip:=192) (lF:=λc T u M' w=>lf (cr prog false) M c.K (uD es rs pl (T*af) (min (T*af+af) rs.length)) u M' w) (y4 rs outs) q m t z hS Y (y5 ev aA) b a (λST bs v=>y9 (bs:=bs) AJ b a AJ f (nF l) (nF d) v) (λc bY Stop hK a3 lB k B=>?_);have o:∀T,iu (ll bad) (T*af) (min (T*af+af) rs.length)=none:=λT=>by cases y:iu (ll bad) (T*af) (min (T*af+af) rs.length)with|none=>rfl|some i=>obtain⟨-,E,n,-⟩:=xL y;rw[ll,e i AP]at n;cases n
 refine yP ok x a b hv f hd (nF l) (nF d) q m r C hK a3 B (λT _=>by rw[k T,o T];rfl) (λT i _ h=>by rw[o T]at h;cases h) (λT A=>by rw[lB T (a3▸A),k T];simp[Bg]) (λT h=>by rw[k T]at h;cases h)
def auK(M:dY)(w:aH)(p:Int)(u:Value)(_:dY)(w':aH):Prop:=
 ∃v,u=.tuple #[.N,v]/\iQ w' v [p]/\∀b,M b->w'.heap[b]?=w.heap[b]?
def auL{outs:Nat->List bw}{bad:ubb}(ok:xM es rs outs bad){p:ubu}(R:∀i(h:i<rs.length),rs[i].1=[p i])(Z:∀i j,i<j->j<rs.length->p i<p j){i:Nat}(I:iu (ll bad) 0 rs.length=some i){ev aA:Value}(aQ:fA (c0 prog) M (hY M) w)(z:∀g,g<=prog.globals.size->M g)(hv:nP w ev es)(C:eS w aA rs)(hd:mA rs.length aA)(H:ax (bG M) ev ev)(A:ax (bG M) aA aA){af W:Nat}(s:0<af)(K:af<=64)(V:0<W)(hW:W<=16)(hS:rs.length<=300):
 ei O prog Post 37 #[.agg #[.I (W:Int),.I (af:Int)],.iface 107 (.agg #[ev,aA])] M w 1 (auK M w (p i)):=by
 intro n Shun hn f eZ aD aB aJ aL aG csZ aHY cx;have t:fA (cr prog false) M bZ w:=He aQ;obtain⟨cD,ec,e1,-⟩:=id hv;obtain⟨pl,P,F⟩:=places t C (nF A) R;obtain⟨-,f2,f3,f4⟩:=xL I;have dg:=(Hf (S:=rs.length) s).1;have nA:=(Hf (S:=rs.length) s).2;let m:Nat->Option Nat:=λT=>iu (ll bad) (T*af) (min (T*af+af) rs.length)
 have r:i / af<(rs.length+af-1) / af/\m (i / af)=some i:=by
  have E:=Nat.div_add_mod i af;have h2:=Nat.mod_lt i s;have h3:af*(i / af)=i / af*af:=Nat.mul_comm _ _;refine⟨?_,auI I rfl AP AP⟩;rcases vcf (i / af) ((rs.length+af-1) / af)with h|h
  .exact h
  .have:=vcx af h;omega
 refine auD (ip:=192) (rows:=λT=>if(m T).isSome then 0 else min (T*af+af) rs.length-T*af) (bad:=λT=>(m T).isSome) (place:=λT=>((m T).map pl).getD undef) (aT:=λb=>M b\/b<O.n) (S:=rs.length) (N:=(rs.length+af-1) / af)
  (lF:=λc T u M' w=>lf (cr prog false) M c.K (uD es rs pl (T*af) (min (T*af+af) rs.length)) u M' w) (cO:=λc T v M' w=>lf (cr prog false) M c.K (λw v=>T<c.N/\eS w v (kB rs outs (T*af) (min (T*af+af) rs.length))) v M' w)
  s K V hW AP rfl AP ?_ (λb a=>a.elim f.lt λx=>vav x f.ob) (λb a=>a.elim (λx=>x.elim (λy=>f.sh b (.inl y)) (f.so b)) λx=>f.sh b (.inr x)) (y5 ev aA)
  (λST bs c3=>y9 (bs:=bs) AJ z t AJ C (nF H) (nF A) c3) (λc bY Stop b9 dp b2 d hI=>?_) (λT D a=>?_) ⟨i / af,r.1,by rw[r.2];rfl⟩ (λw' U a8 T D a B hF=>?_)
 .have E:=VB (y4 rs outs) (af:=af) (S:=rs.length) ((rs.length+af-1) / af);refine vac (S_ λT _=>?_) (vac (vdv E) ?_)
  .simp only[Bg];split<;>omega
  .rw[Bg];omega
 .exact yP ok Z t z hv C hd (nF H) (nF A) s K P F (λb a=>(d.hK b).2 (.inl (.inl a))) d.a3 (λb a=>hI b (.inl a)) (λT _=>by rw[d.im]) (λT j _ h=>by rw[d.Dj];simp[m,h]) (λT D=>by rw[d.lB T (d.a3▸D),d.im]) (λT _=>d.S0)
 .obtain⟨j,l⟩:=Option.isSome_iff_exists.1 a;obtain⟨-,dB,-,-⟩:=xL l;obtain⟨b,o,k,e,-⟩:=F j AP;exact⟨b,o,1,k,by simp[l,e]⟩
 .obtain⟨j,l⟩:=Option.isSome_iff_exists.1 a;obtain⟨dn,dB,X,-⟩:=xL l;have aeo:i<=j:=by
   rcases vcf j i with h|h
   .have:=f4 j (vba _) h;rw[X]at this;cases this
   .exact h
  have Ke:=B (i / af) r.1 (by rw[r.2];rfl);have Jl:j=i:=by
   have E:=Nat.div_add_mod i af;have h3:af*(i / af)=i / af*af:=Nat.mul_comm _ _;have h4:i / af<=T:=by
    rcases vcf T (i / af)with h|h
    .have:(T+1)*af<=i / af*af:=vcx _ h;rw[Nat.succ_mul]at this;omega
    .exact h
   have aU:T=i / af:=AP;subst aU;have:=r.2;rw[l]at this;cases this;rfl
  subst Jl;obtain⟨b,o,k,e,L,hcell⟩:=F j f2;have fQ:(((m T).map pl).getD undef)=.S b o 1 k:=by rw[l];exact e
  rw[fQ];refine cx (.tuple #[.N,.S b o 1 k]) M w' U a8 (by have:=hF.n;omega) ⟨He (nw t λb a=>hF.same b (.inl a)),z,λb a=>hF.sh b (a.imp .inl id),f.new,vac f.ob hF.size,λb h0 a=>(hF.same b (.inr a)).trans (f.old b h0 a),λb a=>hF.sh b (.inl (.inr a))⟩ (λ_ h=>h) (.Mb (lg λx J=>?_)) ⟨hF.size,hF.later,hF.output,hF.tape⟩ ⟨_,rfl,⟨_,_,rfl,AQ,λq hq=>?_⟩,λb a=>hF.same b (.inl a)⟩
  .simp at J;rcases J with rfl|rfl
   .exact .jV _ _
   .exact .slice _ _ ⟨⟨rfl,L⟩,rfl,rfl⟩
  .obtain rfl:q=0:=by simpa using hq
   refine⟨b,o,rfl,?_⟩;have Q:w'.cell? (.a b o)=w.cell? (.a b o):=by simp[World.cell?,hF.same b (.inl L)]
   simpa[rQ]using Q.trans hcell
end
end
end dI
namespace dI
open Conc ConcM RowKit au bn cC c5 bU bM eb aK
section
variable{O:fk}
def Mg(es:List (List bH))(rs:List bh):a4:=⟨λw u=>∃a b,u=.agg [a,b].toArray/\nP w a es/\(kh rs).R w b,λ_ _ _ hb⟨a,b,e,h,h'⟩=>⟨a,b,e,aZ.mono qR (br.ck hb) h,(kh rs).iI _ _ _ hb h'⟩,λ_=>True,λn _ ρ w w' u jI hc hv⟨a,b,e,h,h'⟩=>by
 subst e
 obtain⟨l',rfl,k⟩:=pB hv
 cases k with
 |cons k1 k=>cases k with
  |cons k2 k=>cases k;exact⟨_,_,Y,au.aZ.carry Bc hc.cells k1 h,(kh rs).ii n trivial _ _ _ _ _ hc k2 h'⟩⟩
def Hs(p:ubd):a4:=⟨λw v=>iQ w v p,λ_ _ _ hb h=>aZ.mono AF (br.ck hb) h,λ_=>True,λ_ _ _ _ _ _ _ hc hv h=>au.aZ.carry GB hc.cells hv h⟩
def EY(p:ubd):a4:=⟨λw u=>∃v,u=.tuple [.N,v].toArray/\(Hs p).R w v,λ_ _ _ hb⟨v,e,h⟩=>⟨v,e,(Hs p).iI _ _ _ hb h⟩,λ_=>True,λ_ _ ρ w w' u jI hc hv⟨v,e,h⟩=>by
 subst e
 obtain⟨l',rfl,k⟩:=Bx hv
 cases k with
 |cons k1 k=>cases k with
  |cons k2 k=>
   cases k
   rw[kR k1]
   exact⟨_,Y,au.aZ.carry GB hc.cells k2 h⟩⟩
section
variable{N:Nat}{K:bF}{o:Oper}{F:a4}{x y:uau}
def avG(a:o.op=.makeInterface 107 x)(b:bg K x F):bD vee N K o (K7 107 F):=dK b λev w h=>by refine⟨.iface 107 (ev x),w,?_,⟨_,Y,h⟩,vaa _ _⟩;clear h;cases o;simp only at a;subst a;go_simp
def avH{es:List (List bH)}{rs:List bh}(a:o.op=.build 107 #[(0,x),(1,y)])(d:bg K x (dS 1 (pE 4 qC) es))(c:bg K y (kh rs)):bD vee N K o (Mg es rs):=uR d c λev w h b=>by refine⟨.agg #[ev x,ev y],w,?_,⟨_,_,Y,h,b⟩,vaa _ _⟩;obtain⟨bm,cap,f,-⟩:=h;obtain⟨-,g,co,e,-⟩:=b;cases o;simp only at a;subst a;go_simp
def z5{p:ubd}(a:o.op=.extract x 0)(b:bg K x (EY p)):bD vee N K o mN:=dK b λev w h=>by obtain⟨v,e,h⟩:=h;refine⟨.N,w,?_,Y,vaa _ _⟩;clear h;cases o;simp only at a;subst a;go_simp
def z3{p:ubd}(a:o.op=.extract x 1)(b:bg K x (EY p)):bD vee N K o (Hs p):=dK b λev w h=>by obtain⟨v,e,h⟩:=h;refine⟨v,w,?_,h,vaa _ _⟩;clear h;cases o;simp only at a;subst a;go_simp
end
def avI{j:Int}{es:List (List bH)}{D:List (List bh)}{x y:Int}{a:Act}{w:aH}(hd:a.defers=[])(hk:ah 86 (aW [(0,nI (3,j,es)),(2,dS 1 mc D),(3,jT x y)]) a w):
 b8 vee [.code (EW f27)] (.code (.region 5 (df f27 5) true):: .code .ret::[.inBlock 0,.code (Hr f27)]) (λa1 w1=>a1.defers=[]/\ah 86 (aW [(2,dS 1 mc D),(4,er nb (3,j,es)),(7,er uS (x,y))]) a1 w1/\cy w w1) a w:=by
 unfold EW;refine cg ?_;rw[eI (df f27 0)];refine gg hk (aE Y (V8 Y Y)<|aE Y (Pj Y Y)<|aE Y (eC (F:=mN) Y Kk)<|aE Y (eC (F:=mN) Y Kk)<|rfl) λa1 w1 g d1 b1=>cg (cg ?_);rw[eI (df f27 1)];refine gg g MH λq w2 f k b2=>wG (cg ?_);rw[eI (df f27 2)];refine gg f K_ λo n c i l=>lv (t:=false) (EX c Y) (cg ?_);rw[eI (df f27 4)];refine gg c K_ λp m b h cm=>lv (t:=true) (EX b Y) ?_;have e:=b1.trans (b2.mono b1.size);have d:=e.trans (l.mono e.size);exact cg (jS ⟨h.trans (i.trans (k.trans (d1.trans hd))),b.a7 ⟨Y,Y,Y,PA⟩,d.trans (cm.mono d.size)⟩)
section
variable{Post:fX}{M:dY}{w:aH}{args:fi}{es:List (List bH)}{D:List (List bh)}{rs:List bh}{outs:Nat->List bw}{bad:ubb}{p:ubu}{j af W:Nat}
def z2{c6 vu EZ:a4}(R:aM (bG M) args args)(A:ah 86 (aW [(0,nI (3,j,es)),(2,dS 1 mc D),(3,jT W af)]) ⟨args++Array.replicate (86-args.size) undef,[]⟩ w)(C:D[j]?=some rs)(hok:c6.ok=λ_=>True)(l:vu.ok=λ_=>True)(i:EZ.ok=λ_=>True)(q:∀(M:dY) w(Shun:uai) c d,Home O prog M Shun w->nP w c es->(kh rs).R w d->ax (bG M) c c->ax (bG M) d d->ei O prog Post 37 #[.agg #[.I (W:Int),.I (af:Int)],.iface 107 (.agg #[c,d])] M w 1 (λu _ w'=>c6.R w' u/\∀b,M b->w'.heap[b]?=w.heap[b]?))(h0:∀{K:bF}{o:Oper}{x:uau},o.op=.extract x 0->bg K x c6->bD vee 86 K o vu)(F:∀{K:bF}{o:Oper}{x:uau},o.op=.extract x 1->bg K x c6->bD vee 86 K o EZ)(t:∀w u v,vu.R w u->EZ.R w v->c6.R w (.tuple #[u,v])):
 ei O prog Post 27 args M w 1 (λu _ w'=>c6.R w' u/\cP M w w'):=by
 refine We [.inBlock 0,.code (Hr f27)] (N:=86) (id:=5) (rV:=aW [(2,dS 1 mc D),(4,er nb (3,j,es)),(7,er uS (W,af))]) (l2:=[(8,vu),(9,EZ)]) (ops:=df f27 5) (S:=⟨10,λ_=>false,λ_=>true,[]⟩) (c6:=c6) mH mixed func27 Wb Pn R A (fc ⟨PA,PA,PA,PA⟩) (fc ⟨PA,PA,PA,PA⟩) ⟨by rw[l];trivial,by rw[i];trivial,PA⟩ (by rw[hok];trivial) AM AM AM (λa W hd hk=>avI hd hk) AM Y Y Y func37 AS Y Y Y (by
  rw[eI (df f27 5)];exact hq Y (Ho Y Y)<|hq Y (Mm Y Y)<|hq Y LU<|hq Y Kl<|hq Y (V_ Y Y)<|hq Y Kp<|hq Y (iF Y Y Y C AU)<|hq Y (h6 Y Y (Wa _) AU)<|hq Y (avH Y Y Y)<|hq Y (avG Y Y)<|hg (hok:=by rw[hok];trivial) Y (λa M w Shun V hk Q=>by
   obtain⟨u1,h,r1⟩:=hk.has 31 (jT W af) Y;obtain⟨u2,e,_,rfl,c,d,rfl,g,p⟩:=hk.has 40 (K7 _ (Mg es rs)) Y;cases r1;rw[show(#[Operand.tmp 31,.tmp 40].map a.eval)=#[.agg #[.I W,.I af],.iface 107 (.agg #[c,d])]from by simp[c2 h,c2 e]];have hv:ax (bG M) c c/\ax (bG M) d d:=by
    have:=Q.get _ _ _ e e;cases this with
    |iface _ k=>cases k with
     |agg _ hg=>exact⟨hg 0 _ _ Y Y,hg 1 _ _ Y Y⟩
   intro n f hn m f1 a1 r B r1 z cs1 E T;exact q M w f c d m g p hv.1 hv.2 n f hn m f1 a1 r B r1 z cs1 E λu M' w' s f P L J I H⟨U,y⟩=>T u M' w' s f P L J I H ⟨U,cP.JF y⟩)<|hq (hok:=by rw[l];trivial) Y (h0 Y Y)<|hq (hok:=by rw[i];trivial) Y (F Y Y)<|hq (hok:=by rw[l];trivial) Y K6<|hq (hok:=by rw[i];trivial) Y K6<|rfl) Y ⟨Y,Y,PA⟩ λa W hk=>?_
 obtain⟨u1,h,r1⟩:=hk.has 8 vu Y;obtain⟨u2,e,g⟩:=hk.has 9 EZ Y;refine⟨.tuple #[u1,u2],?_,t _ _ _ r1 g⟩;rw[(yW AM _ _).1];simp[tc,uw,results27,vcu,h,e]
def avJ(T:aM (bG M) args args)(A:ah 86 (aW [(0,nI (3,j,es)),(2,dS 1 mc D),(3,jT W af)]) ⟨args++Array.replicate (86-args.size) undef,[]⟩ w)(F:D[j]?=some rs)(ok:xM es rs outs bad)(o:∀i(h:i<rs.length),rs[i].1=[p i])(C:∀i j,i<j->j<rs.length->p i<p j)(d:∀i,i<rs.length->bad i=none)(N:0<af)(E:af<=64)(s:0<W)(I:W<=16)(hS:rs.length<=300):
 ei O prog Post 27 args M w 1 (λu _ w'=>(sr (kB rs outs 0 rs.length)).R w' u/\cP M w w'):=
 z2 (vu:=kh (kB rs outs 0 rs.length)) (EZ:=mN) T A F Y Y Y (λM w Shun c X k m g v1 v2 n f hn l f1 a1 q B r1 y cs1 H U=>auJ ok o C d k.cl k.Bk m g.1 g.2 v1 v2 N E s I hS n f hn l f1 a1 q B r1 y cs1 H λu M' w' r f S R Q P L⟨x,e,V,z,t⟩=>U u M' w' r f S R Q P L ⟨⟨x,e,V,z⟩,t⟩) (λa b=>Pk a b) (λa b=>Pl a b) (λw u v K J=>by cases J;exact⟨_,Y,K⟩)
def avK{i:Nat}(S:aM (bG M) args args)(z:ah 86 (aW [(0,nI (3,j,es)),(2,dS 1 mc D),(3,jT W af)]) ⟨args++Array.replicate (86-args.size) undef,[]⟩ w)(E:D[j]?=some rs)(ok:xM es rs outs bad)(m:∀i(h:i<rs.length),rs[i].1=[p i])(B:∀i j,i<j->j<rs.length->p i<p j)(r:iu (ll bad) 0 rs.length=some i)(L:0<af)(C:af<=64)(s:0<W)(H:W<=16)(hS:rs.length<=300):
 ei O prog Post 27 args M w 1 (λu _ w'=>(EY [p i]).R w' u/\cP M w w'):=
 z2 (vu:=mN) (EZ:=Hs [p i]) S z E Y Y Y (λM w Shun c V g l f v1 v2 n d hn k f1 a1 o A r1 y cs1 F T=>auL ok m B r g.cl g.Bk l f.1 f.2 v1 v2 L C s H hS n d hn k f1 a1 o A r1 y cs1 F λu M' w' q d R Q P N K⟨x,e,U,t⟩=>T u M' w' q d R Q P N K ⟨⟨x,e,U⟩,t⟩) (λa b=>z5 a b) (λa b=>z3 a b) (λw u v J I=>by cases J;exact⟨_,Y,I⟩)
end
end
end dI
namespace aK
open Conc ConcM RowKit au bn cC c5 bU bM eb
section
variable{O:fk}
def Wt{P:cf}{Post:fX}{n:Nat}{Shun:uai}{M:dY}{w:aH}{f:uah}{a:Act}{k k':uaa}{cs:fG}{n0:Nat}{aT:dY}{w0:aH}(z:(c0 P).Good)(t:ln P f){s s':Nat}{x y:Value}(r:ax (bG M) x x)(q:ax (bG M) y y)(H:Held O P aT w0 n0 a M w Shun)(hk:k.all (gL P)=true)(C:k'.all (gL P)=true){I J:uag}(u:qx n0 I)(A:qx n0 J)(h0:I a w)(hrun:∀W,n0<=W.heap.size->I a W->b8 (ae P true) k k' (λa1 w1=>a1.defers=[]/\(a1.tmps[s]?=some x/\a1.tmps[s']?=some y)/\J a1 w1/\Below n0 W w1) a W)(B:∀a' M' w',Held O P aT w0 n0 a' M' w' Shun->(a'.tmps[s]?=some x/\a'.tmps[s']?=some y)->J a' w'->bK P Post n Shun 0 (a0 ((base f).at a' k') cs) w'):
 bK P Post n Shun 0 (a0 ((base f).at a k) cs) w:=by
 refine ze z H.gq t H.all H.defers hk C (Q:=λd a1 w1=>(a1.tmps[s]?=some x/\a1.tmps[s']?=some y)/\J a1 w1/\∃T,Below n0 {d with tape:=T} w1) (λd i T b cs=>?_) ?_
 .obtain⟨a1,w1,⟨m,g,l,c⟩,j⟩:=hrun {d with tape:=T} (by show n0<=d.heap.size;rw[i.size];exact H.size) (u _ _ _ _ _ (H.gq.mL i T) H.all h0) b cs;exact⟨a1,w1,⟨m,g,l,T,c⟩,j⟩
 .rintro ρ d a1 w1 a' w' i ⟨g,m,T,l⟩ c j h;have key:∀(s:Nat) v,ax (bG M) v v->a1.tmps[s]?=some v->a'.tmps[s]?=some v:=λs v hv e=>by obtain⟨D,p,o⟩:=c.some e;rw[p,h.same hv o]
  exact B a' (qk ρ) w' (H.next i h l (h.all c) j) ⟨key _ _ r g.1,key _ _ q g.2⟩ (A _ _ _ _ _ (h.mL H.size) c m)
def Ps:gz prog true f20=true:=by decide+kernel
def awi:∃o ats,(aI f20 5)[4]?=some o/\o.op=.call {callee:=.value (.func 27),args:=#[.tmp 25,.tmp 26,.tmp 27,.tmp 28],argTypes:=ats}/\o.guard=none/\o.dst=some 29:=⟨_,_,Y,Y,Y,Y⟩
section
variable{Post:fX}{M:dY}{w:aH}{aV:Value}{bm:uam}{cap:Nat}{ns:List rF}{ts:List (List bo)}{cX:List (List bh)}{W af:Int}{cs:fG}
def xl{c6:a4}(hok:c6.ok=λ_=>True)(p:∃Shun,Home O prog M Shun w)(fS:ax (bG M) aV aV)(X:ax (bG M) (.slice bm ns.length cap) (.slice bm ns.length cap))(ht:(dS 1 lM ts).R w aV)(m0:(dS 7 nb ns).R w (.slice bm ns.length cap))(a3:ns.length<=1000){k:Nat}(Q:k<ns.length)(vi:(cX.take k).length=k)(hw:∀args M w,aM (bG M) args args->ah 86 (aW [(0,nI ns[k]),(1,dS 1 lM ts),(2,dS 1 mc (cX.take k)),(3,jT W af)]) ⟨args++Array.replicate (86-args.size) undef,[]⟩ w->ei O prog Post 27 args M w 1 (λu _ w'=>c6.R w' u/\cP M w w')){a':Act}{M':dY}{w':aH}{t:Nat}{Z:uai}(jJ:t+16<=200)(n:Held O prog M w w.heap.size a' M' w' Z)(hs:a'.tmps[0]?=some aV/\a'.tmps[17]?=some (.slice bm ns.length cap))(m:ah 57 (aW (mO w.heap.size ns.length (cX.take k) W af k)) a' w')(cx:∀a y f q r,q<=t+16->Held O prog M w w.heap.size a y f r->(a.tmps[0]?=some aV/\a.tmps[17]?=some (.slice bm ns.length cap))->ah 57 (aW ((29,c6)::(10,a9 k)::mO w.heap.size ns.length (cX.take k) W af k)) a f->bK prog Post q r 0 (a0 ((base 20).at a (.R (aI f20 5) (List.range' 5 5)::E1 f20)) cs) f):
 bK prog Post t Z 0 (a0 ((base 20).at a' (wM f20)) cs) w':=by
 obtain⟨Shun,p⟩:=p;have U:ln prog 20:=EP func20 Ps Hv;have T:cP M w w':=λb c e z V hx=>n.keep b c e z ⟨V,p.lt V⟩ hx;have qc:=vat Q;have sub:∀{M'},(∀b,M b->M' b)->ax (bG M') aV aV/\ax (bG M') (.slice bm ns.length cap) (.slice bm ns.length cap):=λh=>⟨fS.mono (xO h),X.mono (xO h)⟩;refine Wt mH U (sub n.sub).1 (sub n.sub).2 n (k':=.R (aI f20 5) (List.range' 4 6)::E1 f20) AM AM (s:=0) (s':=17) (I:=ah 57 (aW ((0,dS 1 lM ts)::(17,dS 7 nb ns)::mO w.heap.size ns.length (cX.take k) W af k))) (J:=ah 57 (aW ((27,dS 1 mc (cX.take k))::(25,nI ns[k])::(26,dS 1 lM ts)::(28,jT W af)::(10,a9 k)::mO w.heap.size ns.length (cX.take k) W af k))) (kT _ (fc ⟨PA,PA,rfl,rfl,PA,PA,PA,PA⟩)) (kT _ (fc ⟨PA,PA,PA,PA,PA,rfl,rfl,PA,PA,PA,PA⟩)) (dQ hs.1 ((dS 1 lM ts).ii 0 trivial _ _ _ _ _ (T.mL p) fS ht)<|dQ hs.2 ((dS 7 nb ns).ii 0 trivial _ _ _ _ _ (T.mL p) X m0) m) (λW1 hW m=>?_) λbV M2 w2 j S g=>?_
 .obtain⟨v,c3,a_⟩:=m.has 0 _ rfl;obtain⟨u,R,q4⟩:=m.has 17 _ rfl;rw[hs.1]at c3;rw[hs.2]at R;cases c3;cases R;exact avY vi a3 Q qc n.defers hW hs.1 hs.2 a_ q4 (m.a7 ⟨rfl,rfl,rfl,rfl,rfl,PA⟩)
 obtain⟨o,ats,ho,A,gS,jq⟩:=awi;refine VM (i:=4) (rest:=List.range' 5 5) (d:=1) A func27 AS Pn AP U j AM ho gS ⟨jq,by rw[g.size];decide⟩ (I:=ah 57 (aW ((27,dS 1 mc (cX.take k))::(25,nI ns[k])::(26,dS 1 lM ts)::(28,jT W af)::(10,a9 k)::mO w.heap.size ns.length (cX.take k) W af k))) (J:=λa f=>(a.tmps[0]?=some aV/\a.tmps[17]?=some (.slice bm ns.length cap))/\ah 57 (aW ((29,c6)::(10,a9 k)::mO w.heap.size ns.length (cX.take k) W af k)) a f) (oa:=c6.R) (kT _ (fc ⟨PA,PA,PA,PA,PA,rfl,rfl,PA,PA,PA,PA⟩)) g (λk'=>?_) (λu f h1 h2=>?_) λa y f q r afg ju⟨rO,z6⟩=>?_
 .have g:=kT (N:=57) (K:=aW ((27,dS 1 mc (cX.take k))::(25,nI ns[k])::(26,dS 1 lM ts)::(28,jT W af)::(10,a9 k)::mO w.heap.size ns.length (cX.take k) W af k)) w.heap.size (fc ⟨PA,PA,PA,PA,PA,rfl,rfl,PA,PA,PA,PA⟩) _ _ _ _ _ ((show cP M2 w2 (w2.at k')from λ_ _ _ _ _ x=>x).mL j.gq) j.all g;obtain⟨v25,P,E⟩:=g.has 25 _ rfl;obtain⟨v26,L,D⟩:=g.has 26 _ rfl;obtain⟨v27,H,C⟩:=g.has 27 _ rfl;obtain⟨v28,F,B⟩:=g.has 28 _ rfl;rw[show(#[Operand.tmp 25,.tmp 26,.tmp 27,.tmp 28].map bV.eval)=#[v25,v26,v27,v28]from by simp[c2 P,c2 L,c2 H,c2 F]];exact hw _ M2 (w2.at k') (lg (l:=[v25,v26,v27,v28]) λv hv=>by
   simp only[vbh,vbs,vdo]at hv;rcases hv with rfl|rfl|rfl|rfl
   .exact j.all.get _ _ _ P P
   .exact j.all.get _ _ _ L L
   .exact j.all.get _ _ _ H H
   .exact j.all.get _ _ _ F F) (dQ (v:=v25) MC E<|dQ (v:=v26) MC D<|dQ (v:=v27) MC C<|dQ (v:=v28) MC B<|x3 AQ)
 .exact⟨⟨(dV AU).trans S.1,(dV AU).trans S.2⟩,(h1.put AU (vaa _ _) h2).a7 ⟨rfl,rfl,rfl,rfl,rfl,rfl,rfl,PA⟩⟩
 .exact cx a y f q r AP ju rO z6
def xg{m n:Nat}{Shun:uai}(y:aM (bG M) #[aV,.slice bm ns.length cap,.agg #[.I W,.I af]] #[aV,.slice bm ns.length cap,.agg #[.I W,.I af]])(ht:(dS 1 lM ts).R w aV)(P:(dS 7 nb ns).R w (.slice bm ns.length cap))(hl:cX.length=m)(hm:m<=ns.length)(a3:ns.length<=1000)(p:∀x∈cX,x.length<=300/\Full x)(hn:n+16*m<=200)(D:Home O prog M Shun w)(T:∀(k:Nat) la x,ns[k]?=some la->cX[k]?=some x->∀args M w,aM (bG M) args args->ah 86 (aW [(0,nI la),(1,dS 1 lM ts),(2,dS 1 mc (cX.take k)),(3,jT W af)]) ⟨args++Array.replicate (86-args.size) undef,[]⟩ w->ei O prog Post 27 args M w 1 (λu _ w'=>(sr x).R w' u/\cP M w w'))(c3:∀a' M' w' b d,b<=n+16*m->Held O prog M w w.heap.size a' M' w' d->(a'.tmps[0]?=some aV/\a'.tmps[17]?=some (.slice bm ns.length cap))->ah 57 (aW (mO w.heap.size ns.length cX W af m)) a' w'->bK prog Post b d 0 (a0 ((base 20).at a' (wM f20)) cs) w'):
 bK prog Post n Shun 0 (a0 (Frame.enter prog 20 #[aV,.slice bm ns.length cap,.agg #[.I W,.I af]] .normal) cs) w:=by
 have C:ln prog 20:=EP func20 Ps Hv;rw[vdc func20 Hv];have fS:=y.get 0 _ _ rfl rfl;have r:=y.get 1 _ _ rfl rfl;have loop:∀j k,k+j=m->∀a' M' w' b d,b<=n+16*k->Held O prog M w w.heap.size a' M' w' d->(a'.tmps[0]?=some aV/\a'.tmps[17]?=some (.slice bm ns.length cap))->ah 57 (aW (mO w.heap.size ns.length (cX.take k) W af k)) a' w'->bK prog Post b d 0 (a0 ((base 20).at a' (wM f20)) cs) w':=by
  intro j;induction j with
  |zero=>intro k hk a' M' w' b d B t hs c;obtain rfl:k=m:=hk;rw[vco AP]at c;exact c3 a' M' w' b d B t hs c
  |succ j R=>intro k hk a' M' w' b d B t hs c;have o:k<ns.length:=AP;have z:(cX.take k).length=k:=An;have S:=vat (l:=cX) (i:=k) AP;have f:cX[k]∈cX:=vbe _;refine xl (c6:=sr cX[k]) rfl ⟨Shun,D⟩ fS r ht P a3 o z (T k _ _ (vat o) S) AP t hs c λcn l8 w3 N BM Z g A E=>?_;refine Wt mH C (fS.mono (xO g.sub)) (r.mono (xO g.sub)) g (k':=wM f20) AM AM (s:=0) (s':=17) (I:=ah 57 (aW ((29,sr cX[k])::mO w.heap.size ns.length (cX.take k) W af k))) (J:=ah 57 (aW (mO w.heap.size ns.length (cX.take k++[cX[k]]) W af (k+1)))) (kT _ (fc ⟨PA,rfl,rfl,PA,PA,PA,PA⟩)) (kT _ (fc ⟨rfl,rfl,PA,PA,PA,PA⟩)) (E.a7 ⟨rfl,rfl,rfl,rfl,rfl,rfl,PA⟩) (λW1 q c=>av2 z a3 o (p _ f).1 (p _ f).2 (λx h=>(p x (List.mem_of_mem_take h)).2) g.defers q A.1 A.2 c) λV E5 F L Rg e=>?_;rw[List.take_append_getElem AP]at e;exact R (k+1) AP V E5 F N BM AP L Rg e
 have H:=Held.start (n0:=w.heap.size) D Kj (a:=⟨#[aV,.slice bm ns.length cap,.agg #[.I W,.I af]]++Array.replicate 54 undef,[]⟩) (y.append (Hq _ _)) rfl;exact Wt mH C fS r H (k':=wM f20) AM AM (s:=0) (s':=17) (I:=ah 57 (aW [(2,jT W af),(3,lL)])) (J:=ah 57 (aW (mO w.heap.size ns.length [] W af 0))) (kT _ (fc ⟨PA,PA,PA⟩)) (kT _ (fc ⟨rfl,rfl,PA,PA,PA,PA⟩)) (dQ (v:=.agg #[.I W,.I af]) MC rfl<|dQ (v:=undef) AQ rfl<|x3 AQ) (λW1 q c=>avX a3 rfl q (dQ (v:=aV) MC rfl<|dQ (v:=.slice bm ns.length cap) MC rfl c)) λX M2 w2 U Q K=>loop m 0 (vce _) X M2 w2 n Shun Kj U Q K
end
def awn{Post:fX}{M:dY}{w:aH}{aV bd:Value}{ns:List rF}{ts:List (List bo)}{cX:List (List bh)}{rs:List bh}{W af:Int}(C:aM (bG M) #[aV,bd,.agg #[.I W,.I af]] #[aV,bd,.agg #[.I W,.I af]])(ht:(dS 1 lM ts).R w aV)(d:(dS 7 nb ns).R w bd)(f:cX.length=ns.length)(h0:0<ns.length)(a3:ns.length<=1000)(r:∀x∈cX,x.length<=300/\Full x)(j:cX[ns.length-1]?=some rs)(q:∀(k:Nat) la x,ns[k]?=some la->cX[k]?=some x->∀args M w,aM (bG M) args args->ah 86 (aW [(0,nI la),(1,dS 1 lM ts),(2,dS 1 mc (cX.take k)),(3,jT W af)]) ⟨args++Array.replicate (86-args.size) undef,[]⟩ w->ei O prog Post 27 args M w 1 (λu _ w'=>(sr x).R w' u/\cP M w w')):
 ei O prog Post 20 #[aV,bd,.agg #[.I W,.I af]] M w ns.length (λu _ w'=>Hu rs w' u/\cP M w w'):=by
 intro n Shun hn i K aD aB aJ aL aG csZ s D;obtain⟨bm,cap,rfl,-,-⟩:=id d;refine xg C ht d f Kj a3 r hn i q λa' M' w' m H J h hs a=>?_;refine KY mH func20 Ps Hv h AM s (I:=ah 57 (aW (mO w.heap.size ns.length cX W af ns.length))) (hO:=Hu rs) (kT _ (fc ⟨Y,Y,PA,PA,PA,PA⟩)) (Oc _) a (λL t a=>awg f h0 a3 j h.defers t a) λu o l B A y v F E=>D u o l m H AP B A y v ⟨E,λb c e z g p=>F b c e z ⟨g,i.lt g⟩ p⟩
end
end aK
namespace aK
open Conc ConcM RowKit au bn cC c5 bU bM
variable{v:Value}
section
variable{n0:Nat}
def Pu(n0:Nat)(T:uab)(N:Nat)(w:aH)(v:Value):Prop:=∃b cs,v=.P b 0/\n0<=b/\ag w b cs T/\cs.size=N
def aww(T:uab)(N:Nat):kf n0 (Pu n0 T N):=by rintro ρ w w' v h a hv ⟨b,cs,rfl,hn,c,hs⟩;obtain⟨g,rfl,r⟩:=uO hv;obtain⟨f,e,d⟩:=a.types _ _ _ _ _ r c;exact⟨g,f,Y,a.new _ _ r hn,e,d.trans hs⟩
def od(t:List bo)(w:aH)(v:Value):Prop:=∃ke jD kN v',v=.S ke jD 1 kN/\w.cell? (.a ke jD)=some v'/\nO w v' t
def awx(t:List bo):kf n0 (od t):=by rintro ρ w w' v k b hv ⟨e,a,f,x,rfl,j,i⟩;obtain⟨c,rfl,r⟩:=rB hv;obtain⟨d,h,g⟩:=b.cells ⟨e,a,none⟩ ⟨c,a,none⟩ x ⟨r,Y,Y⟩ j;exact⟨c,a,f,d,Y,h,au.aZ.carry xD b.cells g i⟩
def w8{ρ:Ren}{w w':aH}(y:Carry ρ w w'){e b no:Nat}(r:ρ.rel e b){op g:Int}{f:uam}{n c:Nat}(h:qD w e no op g (.slice f n c)):∃d,ax ρ (.slice f n c) (.slice d n c)/\qD w' b no op g (.slice d n c):=by have key:∀j v,(js op g (.slice f n c))[j]?=some v->∃i,w'.cell? (.a b (no+j))=some i/\ax ρ v i:=λj v a=>y ⟨e,no+j,none⟩ ⟨b,no+j,none⟩ v ⟨r,Y,Y⟩ (h j v a);obtain⟨lS,h0,B⟩:=key 0 _ Y;obtain⟨cu,o,x⟩:=key 1 _ Y;obtain⟨dr,m,u⟩:=key 2 _ Y;obtain⟨F,z,k⟩:=key 3 _ Y;obtain⟨E,l,t⟩:=key 4 _ Y;obtain⟨D,q,A⟩:=key 5 _ Y;obtain⟨C,p,s⟩:=key 6 _ Y;rw[gM B]at h0;rw[gM x]at o;rw[gM u]at m;rw[kR t]at l;rw[kR A]at q;rw[kR s]at p;obtain⟨d,rfl⟩:=KZ k;refine⟨d,k,λj v a=>?_⟩;match j with|0=>cases a;exact h0|1=>cases a;exact o|2=>cases a;exact m|3=>cases a;exact z|4=>cases a;exact l|5=>cases a;exact q|6=>cases a;exact p|j+7=>simp[js]at a
def Wy(fs:List (List bH))(w:aH)(v:Value):Prop:=∃cE no bC,v=.S cE no (fs.length+1) bC/\qD w cE no 1 0 (.N)/\∀k(h:k<fs.length),Wc w cE no k fs[k]
def Wz(N:Nat)(l:fK)(w:aH)(x:Value):Prop:=∃g c v,x=.S g 0 N c/\w.cell? (.a g (N-1))=some v/\eF w v l
def awy(N:Nat)(l:fK):kf n0 (Wz N l):=by rintro ρ w w' v j a hv ⟨g,c,x,rfl,i,h⟩;obtain⟨b,rfl,r⟩:=rB hv;obtain⟨d,f,e⟩:=a.cells ⟨g,N-1,none⟩ ⟨b,N-1,none⟩ x ⟨r,Y,Y⟩ i;exact⟨b,c,d,Y,f,au.aZ.carry aoU a.cells e h⟩
def Pw{ρ:Ren}{w w':aH}(g:rA n0 ρ w w'){f:Value}(hv:ax ρ v f){e:uab}(h:vQ w v e):vQ w' f e:=by
 intro b d;cases hv with
 |@slice a a' l c r=>simp[Value.ownBlock]at d;subst d;obtain⟨c,z,i⟩:=h a.block Y;obtain⟨k,j,-⟩:=g.types _ _ _ _ _ r.1 i;grind
 | _=>cases d
def Lc(t:List bo):kf n0 λw v=>l6 w v t:=by rintro ρ w w' v J a hv ⟨⟨bm,cap,rfl,u,H⟩,ht⟩;obtain⟨I,rfl⟩:=KZ hv;refine⟨⟨I,cap,Y,u,λi hi=>?_⟩,Pw a hv ht⟩;obtain⟨b,off,rfl,c7,vs,K,h0,B,A,z,y,d,n,d_,m⟩:=H i hi;obtain⟨c,e,r⟩:=rB hv;cases e;have key:∀j x,w.cell? (.a b (off+i*5+j))=some x->∃f,w'.cell? (.a c (off+i*5+j))=some f/\ax ρ x f:=λj x s=>a.cells ⟨b,off+i*5+j,none⟩ ⟨c,off+i*5+j,none⟩ x ⟨r,Y,Y⟩ s;obtain⟨lS,l,F⟩:=key 0 _ h0;obtain⟨cu,g1,p⟩:=key 1 _ B;obtain⟨dr,E,k⟩:=key 2 _ A;obtain⟨C,D,h⟩:=key 3 _ z;obtain⟨q,o,g⟩:=key 4 _ y;rw[gM F]at l;rw[gM p]at g1;exact⟨c,off,Y,dr,C,q,l,g1,E,D,o,⟨au.aZ.carry GB a.cells k d.ko,au.aZ.carry aa4 a.cells h d.kJ,au.aZ.carry Tr a.cells g d.gZ⟩,Pw a k n,Pw a h d_,Pw a g m⟩
def wN(t:List bo)(w:aH)(u:Value):Prop:=∃aA,u=.tuple #[.agg #[aA],.I 0,sx]/\l6 w aA t
def awz(t:List bo):kf n0 (wN t):=by
 rintro ρ w w' v f a hv ⟨aA,rfl,h⟩;obtain⟨g,rfl,k⟩:=Bx hv;cases k with
 |cons d k=>cases k with
  |cons c k=>cases k with
   |cons b k=>cases k;obtain⟨m,rfl,q⟩:=pB d;cases q with|cons e q=>cases q;exact⟨_,by rw[gM c,Wl b],Lc t _ _ _ _ _ a e h⟩
theorem od.keeps{t:List bo}{w w':aH}(h:od t w v)(a:br w w'):od t w' v:=by obtain⟨b,d,c,x,rfl,f,e⟩:=h;exact⟨b,d,c,x,Y,a _ _ _ f,e.mono sO a⟩
theorem Wy.keeps{es:List (List bH)}{w w':aH}(h:Wy es w v)(a:br w w'):Wy es w' v:=by obtain⟨e,no,f,rfl,d,c⟩:=h;exact⟨e,no,f,Y,λj x b=>a _ _ _ (d j x b),λk h=>avv (c k h) a⟩
def E6{c3:ubn}{w w':aH}(a:cy w w'):iq c3 w w':=.qf (.below a)
def HD(t:List bo)(w:aH)(v:Value):Prop:=∃aA,v=.agg #[aA]/\l6 w aA t
theorem wV(t:List bo):kf n0 (HD t):=by rintro ρ w w' v c a hv ⟨aA,rfl,h⟩;obtain⟨m,rfl,q⟩:=pB hv;cases q with|cons b q=>cases q;exact⟨_,Y,Lc t _ _ _ _ _ a b h⟩
def HE(n0:Nat)(t:List bo)(w:aH)(v:Value):Prop:=∃b aA,v=.P b 0/\n0<=b/\ag w b #[aA] 27/\l6 w aA t
theorem WA(t:List bo):kf n0 (HE n0 t):=by
 rintro ρ w w' v i a hv ⟨b,aA,rfl,hn,e,h⟩;obtain⟨d,rfl,r⟩:=uO hv;obtain⟨f,c,k⟩:=a.types _ _ _ _ _ r e;obtain⟨x,j,g⟩:=a.cells ⟨b,0,none⟩ ⟨d,0,none⟩ aA ⟨r,Y,Y⟩ ((ag.rules e).1 0 |>.trans Y);have c:ag w' d f _:=c;have:f=#[x]:=by grind[ag.rules]
 subst this;exact⟨d,x,Y,a.new _ _ r hn,c,Lc t _ _ _ _ _ a g h⟩
def BO(t:List bo)(w:aH)(u:Value):Prop:=∃aA,u=.tuple #[.agg #[aA],.T]/\l6 w aA t
def wU(t:List bo):kf n0 (BO t):=by
 rintro ρ w w' v e a hv ⟨aA,rfl,h⟩;obtain⟨f,rfl,k⟩:=Bx hv;cases k with
 |cons c k=>cases k with
  |cons b k=>cases k;obtain⟨m,rfl,q⟩:=pB c;cases q with|cons d q=>cases q;exact⟨_,by rw[VO b],Lc t _ _ _ _ _ a d h⟩
def iw(n0:Nat)(T:uab)(N:Nat):a4:=⟨Pu n0 T N,λ_ _ _ hb⟨b,cs,e,h1,h2,h3⟩=>⟨b,cs,e,h1,h2.call hb,h3⟩,λn=>n=n0,λn h=>h▸aww T N⟩
def HF(n0:Nat)(t:List bo):a4:=⟨HE n0 t,λ_ _ _ hb⟨b,aA,e,h1,h2,h3⟩=>⟨b,aA,e,h1,h2.call hb,h3.kept (E6 hb)⟩,λn=>n=n0,λn h=>h▸WA t⟩
def qF(t:List bo):a4:=⟨HD t,λ_ _ _ hb⟨aA,e,h⟩=>⟨aA,e,h.kept (E6 hb)⟩,λ_=>True,λ_ _=>wV t⟩
def BP(t:List bo):a4:=⟨od t,λ_ _ _ hb h=>h.keeps (br.ck hb),λ_=>True,λ_ _=>awx t⟩
def Ld(N:Nat)(l:fK):a4:=⟨Wz N l,λ_ _ _ hb⟨g,c,v,e,h1,h2⟩=>⟨g,c,v,e,br.ck hb _ _ _ h1,h2.mono ni (br.ck hb)⟩,λ_=>True,λ_ _=>awy N l⟩
def BQ(t:List bo):a4:=⟨wN t,λ_ _ _ hb⟨aA,e,h⟩=>⟨aA,e,h.kept (E6 hb)⟩,λ_=>True,λ_ _=>awz t⟩
def Le(t:List bo):a4:=⟨BO t,λ_ _ _ hb⟨aA,e,h⟩=>⟨aA,e,h.kept (E6 hb)⟩,λ_=>True,λ_ _=>wU t⟩
def Lf(rs:List bh):a4:=⟨Hu rs,λ_ _ _ hb⟨aA,e,h⟩=>⟨aA,e,h.mono pj (br.ck hb)⟩,λ_=>True,λ_ _=>Oc rs⟩
def E7:a4:=⟨eA sx,uP.eq _,λ_=>True,λ_ _ _ _ _ _ _ _ hv h=>by cases h;exact Wl hv⟩
def iJ.kept{T:uab}{w w':aH}(h:iJ T w w')(g:¬qh T):iq qh w w':=⟨h.1,λb c e z f d=>by
 obtain⟨j,a,-,i⟩:=h.2 b c e z f;rw[i λq=>g (q▸d)]at a;exact a⟩
def iJ.box{T T':uab}{w w':aH}(h:iJ T w w'){b:Nat}{cs:fi}(c:ag w b cs T'):∃a,ag w' b a T'/\a.size=cs.size/\(T'≠T->a=cs):=h.2 b cs T' _ c
theorem iJ.set{T:uab}{w:aH}{b:Nat}{cs:fi}(d:ag w b cs T)(o:Nat)(v:Value):iJ T w (w.setCell ⟨b,o,none⟩ v):=⟨by simp[World.setCell],λf c e z a=>by
 by_cases h:f=b
 .subst h;rw[show w.heap[f]?=some (.cells cs T)from d]at a;cases a;exact⟨_,d.set o v,AQ,λh=>absurd Y h⟩
 .exact⟨c,(vaw _ _ _ _ h).trans a,Y,λ_=>Y⟩⟩
theorem iJ.trans{T:uab}{w w' w'':aH}(h:iJ T w w')(k:iJ T w' w''):iJ T w w'':=⟨vac h.1 k.1,λb c e z i=>by
 obtain⟨n,m,l,j⟩:=h.2 b c e z i;obtain⟨a,g,f,d⟩:=k.2 b n e z m;exact⟨a,g,f.trans l,λq=>(d q).trans (j q)⟩⟩
abbrev jU(T:uab):Prop:=T=27\/T=50
def Lg{T:uab}(h:jU T):¬qh T:=by rcases h with rfl|rfl<;>simp[qh]
section
variable{T T':uab}{N:Nat}
def wO:kg T (iw n0 T' N):=λw w' v h⟨b,cs,e,g,f,d⟩=>by obtain⟨i,c,a,-⟩:=h.box f;exact⟨b,i,e,g,c,a.trans d⟩
def WB{t:List bo}(c:T=50):kg T (HF n0 t):=λw w' v h⟨b,aA,e,i,g,f⟩=>by obtain⟨k,a,j,d⟩:=h.box g;rw[d (by rw[c];decide)]at a;exact⟨b,aA,e,i,a,f.kept (h.kept (Lg (.inr c)))⟩
def wS(d:T=27):kg T (BH n0):=λw w' v h⟨b,e,g,f⟩=>by obtain⟨j,a,i,c⟩:=h.box f;rw[c (by rw[d];decide)]at a;exact⟨b,e,g,a⟩
def WC{t:List bo}(a:jU T):kg T (qF t):=λw w' v h⟨aA,e,b⟩=>⟨aA,e,b.kept (h.kept (Lg a))⟩
def wK{t:List bo}(a:jU T):kg T (BQ t):=λw w' v h⟨aA,e,b⟩=>⟨aA,e,b.kept (h.kept (Lg a))⟩
def awB{t:List bo}(a:jU T):kg T (Le t):=λw w' v h⟨aA,e,b⟩=>⟨aA,e,b.kept (h.kept (Lg a))⟩
def wI{o:Oper}{x y:uau}{ev:uak}{w:aH}{t:List bo}(e:o.op=.store 27 x y)(g:Pu n0 27 1 w (ev x))(f:HD t w (ev y)):∃w',(execOp ev o).run vee w=.ok .skip w'/\iJ 27 w w'/\Below n0 w w'/\HE n0 t w' (ev x):=by
 obtain⟨b,cs,h,hn,c,hs⟩:=g;obtain⟨aA,r,a⟩:=f;obtain⟨⟨j,i,rfl,-,-⟩,-⟩:=id a;obtain⟨q,rfl⟩:∃q,cs=#[q]:=by obtain⟨l⟩:=cs;match l,hs with| [q],_=>grind
 have d:=iJ.set c 0 (.slice j t.length i);refine⟨_,?_,d,(vaa n0 w).setCell (p:=⟨b,0,none⟩) hn _,b,_,h,hn,c.set 0 _,a.kept (d.kept (Lg LF))⟩;obtain⟨n,m,k⟩:=c.all;clear a d c;cases o;simp only at e;subst e;go_simp
def WE{o:Oper}{x y:uau}{ev:uak}{w:aH}(d:o.op=.store 50 x y)(f:Pu n0 50 2 w (ev x))(e:ev y=sx):∃w',(execOp ev o).run vee w=.ok .skip w'/\iJ 50 w w'/\Below n0 w w'/\Po n0 w' (ev x):=by
 obtain⟨b,cs,g,hn,a,hs⟩:=f;obtain⟨q,r,rfl⟩:∃q r,cs=#[q,r]:=by obtain⟨l⟩:=cs;match l,hs with| [q,r],_=>grind
 have c:=a.set 0 (.I 0);refine⟨_,?_,(iJ.set a 0 (.I 0)).trans (iJ.set c 1 (.N)),((vaa n0 w).setCell (p:=⟨b,0,none⟩) hn _).setCell (p:=⟨b,1,none⟩) hn _,b,g,hn,c.set 1 _⟩;obtain⟨j,i,h⟩:=a.all;clear c a;unfold sx at e;cases o;simp only at d;subst d;go_simp
end
end
section
open eb
variable{O:fk}
@[simp] theorem Y6:dk true 18:=ved func18
@[simp] theorem Y5:dk true 19:=ved func19
theorem axp(W af:Nat)(i:0<W)(h:W<=16)(g:0<af)(f:af<=64)(w:aH):Calls vee 18 #[.agg #[.I W,.I af]] w λe w'=>e=.returned (.T)/\cy w w':=by
 have d:(1:Int)<=(W:Int):=AP;have c:(W:Int)<=16:=AP;have b:(1:Int)<=(af:Int):=AP;have a:(af:Int)<=64:=AP;go_enter (vea func18),ntmps18
 go_wp2
 go_ret
 exact⟨Y,(vaa _ _).alloc Kj _⟩
@[simp] theorem axq:dk true 22:=ved func22
@[simp] theorem axr:dk true 21:=ved func21
theorem axs:dk true 30:=cq (a5 (upd:=true) Tryz.func30 AM) AM
def axt(a:fi)(w:aH):Sem.run vee (callFunc 29 a) w=.ok (.enter 29 a) w:=cq (a5 (upd:=true) Tryz.func29 AM) AM a w
def axu(c:uam)(a cc:Nat)(w:aH):Calls vee 22 #[.slice c a cc] w λe w'=>∃b,e=.returned (.func (.func 30) #[] #[.P b 0])/\w'.cell? (.a b 0)=some (.slice c a cc)/\cy w w':=by
 go_enter (vea func22),ntmps22
 go_wp2
 go_ret
 exact⟨_,Y,oo (vbi w _) Y Y,(vaa _ w).alloc Kj _⟩
def axv(g:Nat)(lb:fi)(w:aH):Calls vee 21 #[.func (.func g) #[] lb,.I 0,.I 9223372036854775807] w λe w'=>∃b1 b2 a,e=.returned (.func (.func 29) #[] #[.P b1 0,.P b2 0,.P a 0])/\w'.cell? (.a b1 0)=some (.func (.func g) #[] lb)/\w'.cell? (.a b2 0)=some (.I 0)/\w'.cell? (.a a 0)=some (.I 9223372036854775807)/\cy w w':=by
 go_enter (vea func21),ntmps21
 go_wp2
 go_ret
 refine⟨_,_,_,Y,su (su (oo (vbi w _) Y Y) _) _,?_,?_,(((vaa _ w).alloc Kj _).alloc AQ _).alloc An _⟩
 .grind[su,World.alloc_heap_new,World.size_alloc,oo]
 grind[World.alloc_heap_new,World.size_alloc,oo]
def BS(N:Nat)(l:fK):a4:=⟨λw u=>∃x,u=.tuple #[x,.I 0,.I 0]/\Wz N l w x,λ_ _ _ hb⟨x,e,h⟩=>⟨x,e,(Ld N l).iI _ _ _ hb h⟩,λ_=>False,λ_ h=>h.elim⟩
def Fb(l:fK):a4:=⟨λw v=>eF w v l,λ_ _ _ hb h=>h.mono ni (br.ck hb),λ_=>False,λ_ h=>h.elim⟩
def WU(rs:List bh):a4:=⟨λw v=>eS w v rs,λ_ _ _ hb h=>h.mono pj (br.ck hb),λ_=>False,λ_ h=>h.elim⟩
def sV(rs:List bh)(w:aH)(v:Value):Prop:=∃b x,v=.func (.func 30) #[] #[.P b 0]/\w.cell? (.a b 0)=some x/\eS w x rs
def sR(rs:List bh):a4:=⟨sV rs,λ_ _ _ hb⟨b,x,e,h1,h2⟩=>⟨b,x,e,br.ck hb _ _ _ h1,h2.mono pj (br.ck hb)⟩,λ_=>False,λ_ h=>h.elim⟩
def axw(rs:List bh):a4:=⟨λw v=>∃b1 b2 cd x,v=.func (.func 29) #[] #[.P b1 0,.P b2 0,.P cd 0]/\w.cell? (.a b1 0)=some x/\w.cell? (.a b2 0)=some (.I 0)/\w.cell? (.a cd 0)=some (.I 9223372036854775807)/\sV rs w x,λ_ _ _ hb⟨b1,b2,cd,x,e,h1,h2,h3,h⟩=>⟨b1,b2,cd,x,e,br.ck hb _ _ _ h1,br.ck hb _ _ _ h2,br.ck hb _ _ _ h3,(sR rs).iI _ _ _ hb h⟩,λ_=>False,λ_ h=>h.elim⟩
section
variable{N:Nat}{K:bF}{o o2:Oper}{F:a4}{x y:uau}
def WV(a:o.op=.alloc 50)(ev:uak)(w:aH):(execOp ev o).run vee w=.ok (.value (.P w.heap.size 0)) (w.alloc (.cells #[.I 0,.N] 50)):=by cases o;simp only at a;subst a;go_simp
def axx(a:o.op=.alloc 27)(ev:uak)(w:aH):(execOp ev o).run vee w=.ok (.value (.P w.heap.size 0)) (w.alloc (.cells #[.N] 27)):=by cases o;simp only at a;subst a;go_simp
def HM{B:Nat}(b:o.op=.alloc 27)(a:Act)(w:aH)(c:B<=w.heap.size):Ab vee o (iw B 27 1) a w:=.inl ⟨_,_,axx b _ _,⟨_,_,Y,c,ag.new _ _ _,Y⟩,(vaa _ w).alloc (vad _) _⟩
def Lj{B:Nat}(b:o.op=.alloc 50)(a:Act)(w:aH)(c:B<=w.heap.size):Ab vee o (iw B 50 2) a w:=.inl ⟨_,_,WV b _ _,⟨_,_,Y,c,ag.new _ _ _,Y⟩,(vaa _ w).alloc (vad _) _⟩
def WW{s B:Nat}(b:o.op=.alloc 27)(hs:K s=some (x0 B F)):bD vee N K o (iw B 27 1):=λa w hk=>by obtain⟨v,-,c,-⟩:=hk.has s _ hs;exact HM b a w c
def sQ{s B:Nat}(b:o.op=.alloc 50)(hs:K s=some (x0 B F)):bD vee N K o (iw B 50 2):=λa w hk=>by obtain⟨v,-,c,-⟩:=hk.has s _ hs;exact Lj b a w c
def axy{m n:Int}(a:o.op=.build 65 #[(0,x),(1,y)])(e:bg K x (a9 m))(d:bg K y (a9 n)):bD vee N K o (jT m n):=uR e d λev w c b=>by have c:ev x=.I m:=c;have b:ev y=.I n:=b;refine⟨.agg #[.I m,.I n],w,?_,Y,vaa _ _⟩;cases o;simp only at a;subst a;go_simp
def axz{ops:fC}{i d s:Nat}{Q:ual}{rest:uad}{a:Act}{w:aH}{m n:Int}(j:ops[i]?=some o)(h:ops[i+1]?=some o2)(c:o.op=.alloc 65)(b:o2.op=.store 65 (.tmp d) (.tmp s))(g:K s=some (jT m n))(hk:ah N K a w)(hd:o.dst=some d)(f:o2.dst=none)(g1:o.guard=none)(l:o2.guard=none)(a3:d<N)(t:d≠s)(k:∀a' w1,ah N (up K d (er uS (m,n))) a' w1->a'.defers=a.defers->cy w w1->wpOps vee ops Q rest a' w1):wpOps vee ops Q (i::(i+1)::rest) a w:=by
 obtain⟨v,q,rfl⟩:=hk.has s _ g;have e:cy w (w.alloc (.cells #[.I m,.I n] 65)):=(vaa _ w).alloc Kj _;have cZ:=ag.new w #[.I m,.I n] 65;refine Pf (F:=er uS (m,n)) (ES:=w.alloc (.cells #[.I 0,.I 0] 65)) j h g1 l hd f a3 t hk q (λev=>?_) (λev u x=>?_) e ⟨w.heap.size,0,Y,cZ.rules.1 _,cZ.rules.1 _⟩ λa' r p=>k a' _ r p e
 .cases o;simp only at c;subst c;go_simp
 .cases o2;simp only at b;subst b;go_simp
def axA{n:Nat}{l:fK}(a:o.op=.extract x 0)(b:bg K x (BS n l)):bD vee N K o (Ld n l):=dK b λev w h=>by obtain⟨v,e,h⟩:=h;refine⟨v,w,?_,h,vaa _ _⟩;clear h;cases o;simp only at a;subst a;go_simp
def sP{n k:Nat}{l:fK}(a:o.op=.extract x k)(b:bg K x (BS n l))(hk:k=1\/k=2):bD vee N K o (a9 0):=dK b λev w h=>by obtain⟨v,e,h⟩:=h;refine⟨.I 0,w,?_,Y,vaa _ _⟩;clear h;cases o;simp only at a;subst a;rcases hk with rfl|rfl<;>go_simp
def axB{rs:List bh}(a:o.op=.extract x 0)(b:bg K x (Lf rs)):bD vee N K o (WU rs):=dK b λev w h=>by obtain⟨v,e,h⟩:=h;refine⟨v,w,?_,h,vaa _ _⟩;clear h;cases o;simp only at a;subst a;go_simp
def axC{rs:List bh}(a:o.op=.extract x 1)(b:bg K x (Lf rs)):bD vee N K o (a9 0):=dK b λev w h=>by obtain⟨v,e,h⟩:=h;refine⟨.I 0,w,?_,Y,vaa _ _⟩;clear h;cases o;simp only at a;subst a;go_simp
def axD{rs:List bh}(a:o.op=.extract x 2)(b:bg K x (Lf rs)):bD vee N K o E7:=dK b λev w h=>by obtain⟨v,e,h⟩:=h;refine⟨sx,w,?_,Y,vaa _ _⟩;clear h;cases o;simp only at a;subst a;go_simp
def PE{m:Int}{T':uab}(a:o.op=.binOp .neq 48 x y T')(c:bg K x (a9 m))(b:bg K y (a9 m)):bD vee N K o (eB false):=wL c b (λ_=>Y) λev w e d=>by cases o;simp only at a;subst a;go_simp
def sJ(l:fK):a4:=⟨λw v=>∃g k x,v=.P g k/\w.cell? (.a g k)=some x/\eF w x l,λ_ _ _ hb⟨g,k,x,e,h1,h2⟩=>⟨g,k,x,e,br.ck hb _ _ _ h1,h2.mono ni (br.ck hb)⟩,λ_=>False,λ_ h=>h.elim⟩
def axE{n:Nat}{l:fK}(a:o.op=.indexAddr 66 x y)(f:bg K x (Ld n l))(e:bg K y (a9 ((n-1:Nat):Int)))(hn:0<n):bD vee N K o (sJ l):=uR f e λev w h d=>by obtain⟨g,c,v,k,i,b⟩:=h;have d:ev y=.I ((n-1:Nat):Int):=d;have j:((n-1:Nat):Int)<(n:Int):=AP;refine⟨.P g (n-1),w,?_,⟨g,n-1,v,Y,i,b⟩,vaa _ _⟩;clear b;cases o;simp only at a;subst a;go_simp
def axF{l:fK}(a:o.op=.load 81 x)(c:bg K x (sJ l)):bD vee N K o (Fb l):=dK c λev w h=>by obtain⟨g,k,v,e,d,b⟩:=h;refine⟨v,w,?_,b,vaa _ _⟩;clear b;cases o;simp only at a;subst a;go_simp
def axG(a:o.op=.build 50 #[]):bD vee N K o E7:=N1 a
def axH{n:Nat}{l:fK}{T:uab}(a:o.op=.call {callee:=.builtin .len,args:=#[x],argTypes:=#[T]})(b:bg K x (Ld n l))(d:T=66):bD vee N K o (a9 n):=dK b λev w h=>by obtain⟨g,c,v,e,-,-⟩:=h;subst d;refine⟨.I n,w,?_,Y,vaa _ _⟩;cases o;simp only at a;subst a;go_simp
end
end
variable{aV bd:Value}
section
open eb
variable{O:fk}
def sB{F:Func}{ops:fC}{n0 N i xa sa xi tE sb:Nat}{y:uau}{K:bF}{a:Act}{w:aH}{ks:uaa}{bN:List bo}(hk:ah N K a w)(hd:a.defers=[])(e:K xa=some (iw n0 27 1)/\K sa=some (qF bN)/\K tE=some (iw n0 50 2)/\K sb=some E7)(g:bg K y (a9 0))(M:∃c o2 b,(ops[i]?=some c/\c.op=.store 27 (.tmp xa) (.tmp sa)/\c.guard=none/\c.dst=none)/\(ops[i+1]?=some o2/\o2.op=.assign y/\o2.guard=none/\o2.dst=some xi)/\ops[i+2]?=some b/\b.op=.store 50 (.tmp tE) (.tmp sb)/\b.guard=none/\b.dst=none)(f:xi<N/\xi≠xa/\xi≠tE/\xi≠sb)(n:∀(tmps:fi)(w:aH) ba d aA,tmps[xa]?=some (.P ba 0)->tmps[xi]?=some (.I 0)->tmps[tE]?=some (.P d 0)->ag w ba #[aA] 27->ag w d #[.I 0,.N] 50->(results F tmps).run vee w=.ok (.tuple #[.agg #[aA],.I 0,sx]) w):
 qr vee F (.R ops (List.range' i 3):: .code .ret::ks) (λv w1=>wN bN w1 v/\Below n0 w w1) a w:=by
 obtain⟨c,o2,b,⟨D,C,B,A⟩,⟨I,L,z,x⟩,r1,u,s,o⟩:=M;obtain⟨l,a1,J⟩:=hk.has xa _ e.1;obtain⟨vs,b1,b2⟩:=hk.has sa _ e.2.1;obtain⟨m,c1,co⟩:=hk.has tE _ e.2.2.1;obtain⟨j,d1,H⟩:=hk.has sb _ e.2.2.2;have g:a.eval y=.I 0:=hk.ev g;obtain⟨w1,r,d_,q,k⟩:=wI (n0:=n0) (t:=bN) (ev:=a.eval) C (by rw[c2 a1];exact J) (by rw[c2 b1];exact b2);have f1:(a.put (some xi) (.I 0)).tmps[xa]?=some l:=(dV f.2.1).trans a1;have h:(a.put (some xi) (.I 0)).tmps[tE]?=some m:=(dV f.2.2.1).trans c1;have f3:(a.put (some xi) (.I 0)).tmps[sb]?=some j:=(dV f.2.2.2).trans d1;obtain⟨w2,u1,u2,u3,u4⟩:=WE (n0:=n0) (w:=w1) (ev:=(a.put (some xi) (.I 0)).eval) u (by rw[c2 h];exact wO w w1 m d_ co) (by rw[c2 f3];exact H);rw[c2 a1]at k;rw[c2 h]at u4;have p:=WB (n0:=n0) (t:=bN) Y w1 w2 l u2 k;obtain⟨ba,aA,rfl,-,cu,dr⟩:=p;obtain⟨d,rfl,-,E⟩:=u4;refine xV (ks':=.code .ret::ks) (xX (i_ (R:=λa' w'=>a=a'/\w1=w') (tx D B A r ⟨Y,Y⟩) ?_));rintro _ _ ⟨rfl,rfl⟩;refine i_ (R:=λa' w'=>a'=a.put (some xi) (.I 0)/\w1=w') (pC I z x (BI L g _) ⟨Y,Y⟩) ?_;rintro _ _ ⟨rfl,rfl⟩;refine i_ (R:=λa' w'=>a'=a.put (some xi) (.I 0)/\w2=w') (tx r1 s o u1 ⟨Y,Y⟩) ?_;rintro _ _ ⟨rfl,rfl⟩;exact qy (jS (Hh ((put_defers _ _ _).trans hd) (n _ w2 ba d aA f1 (kS (by rw[hk.size];exact f.1)) h cu E) ⟨⟨aA,Y,dr⟩,q.trans (u3)⟩))
def Al(F:Func):Code:=.seq (.seq (.region 8 (aI F 8) false) (.cond (.tmp 60) (.seq (.region 9 (aI F 9) true) .ret) .skip)) (.seq (.region 10 (aI F 10) false) (.seq (.region 11 (aI F 11) false) .ret))
def WY(F:Func):Code:=.seq (.region 0 (aI F 0) false) (.seq (.region 1 (aI F 1) false) (.seq (.seq (.region 2 (aI F 2) false) (.cond (.tmp 35) (.seq (.region 3 (aI F 3) false) .ret) .skip)) (.seq (.region 4 (aI F 4) false) (.seq (.seq (.region 5 (aI F 5) false) (.cond (.tmp 46) (.seq (.region 6 (aI F 6) false) .ret) .skip)) (.seq (.region 7 (aI F 7) false) (Al F))))))
theorem sy:f17.body=some (WY f17):=by kernel_rfl
def PC:gz prog true f17=true:=by decide+kernel
def axJ:∃o ats,(aI f17 7)[3]?=some o/\o.op=.call {callee:=.value (.func 20),args:=#[.tmp 52,.tmp 53,.tmp 54],argTypes:=ats}/\o.guard=none/\o.dst=some 55:=⟨_,_,Y,Y,Y,Y⟩
def axK:∃b o2 a,((aI f17 11)[9]?=some b/\b.op=.store 27 (.tmp 12) (.tmp 76)/\b.guard=none/\b.dst=none)/\((aI f17 11)[9+1]?=some o2/\o2.op=.assign (.const (.I 0))/\o2.guard=none/\o2.dst=some 13)/\(aI f17 11)[9+2]?=some a/\a.op=.store 50 (.tmp 14) (.tmp 77)/\a.guard=none/\a.dst=none:=⟨_,_,_,⟨Y,Y,Y,Y⟩,⟨Y,Y,Y,Y⟩,Y,Y,Y,Y⟩
section
variable{fg fh:a4}{n0 oh:Nat}{l:fK}{W af:Nat}{rs:List bh}{a:Act}{w:aH}
abbrev Lk(fg fh:a4)(n0 oh:Nat)(l:fK)(W af:Nat):List (Nat×a4):=[(4,a9 0),(5,a9 9223372036854775807),(12,iw n0 27 1),(14,iw n0 50 2),(16,Ld oh l),(52,fg),(53,fh),(54,jT W af)]
def axL(S:∀w aV bd,fg.R w aV->fh.R w bd->Calls vee 19 #[aV,bd] w λe w'=>∃v,e=.returned v/\(BS oh l).R w' v/\cy w w')(I:0<W)(H:W<=16)(E:0<af)(D:af<=64)(hd:a.defers=[])(hn:n0<=w.heap.size)(hk:ah 78 (aW [(0,fg),(1,fh),(2,a9 W),(3,a9 af),(4,a9 0),(5,a9 9223372036854775807),(77,lL)]) a w):
 b8 vee [.code (WY f17)] (.R (aI f17 7) (3::List.range' 4 8)::[.code (Al f17)]) (λa1 w1=>a1.defers=[]/\ah 78 (aW (Lk fg fh n0 oh l W af)) a1 w1/\Below n0 w w1) a w:=by
 obtain⟨u,b,B⟩:=hk.has 77 _ rfl;have hk:=dQ (F:=x0 n0 lL) b ⟨hn,B⟩ hk;unfold WY;refine cg ?_;rw[eI (aI f17 0)];refine gg hk (aE rfl (WW (s:=77) rfl rfl)<|aE rfl (eC (F:=a9 0) rfl Kk)<|aE rfl (sQ (s:=77) rfl rfl)<|rfl) λa1 w1 A d1 b1=>cg ?_;rw[eI (aI f17 1)];refine Pg (m:=3) A (aE rfl Kl<|aE rfl Kl<|aE rfl (axy rfl rfl rfl)<|rfl) AU λbV w2 z Q b2=>axz rfl rfl rfl rfl rfl z rfl rfl rfl rfl AU AU λcn V y P R=>qy (cg (cg ?_));rw[eI (aI f17 2)];refine gg y (aE rfl (Ho rfl rfl)<|aE rfl (ER (F:=eB true) rfl Y6 rfl λv w h=>by cases h;exact(axp W af I H E D w).mono λe w'⟨q,C⟩=>⟨_,q,rfl,C⟩)<|aE rfl (VY rfl rfl)<|aE rfl Kl<|dD rfl Kl<|dD rfl (V0 (n:=0) rfl rfl Kk AU AU)<|aE rfl (ey (c:=false) rfl rfl rfl)<|aE rfl Kl<|dD rfl Kl<|dD rfl (V0 (n:=0) rfl rfl Kk AU AU)<|aE rfl (ey (c:=false) rfl rfl rfl)<|rfl) λcN U f O cm=>lv (t:=false) (BL f rfl rfl) (uL (cg ?_));rw[eI (aI f17 4)];refine gg f (aE rfl Kl<|aE rfl Kl<|aE rfl (Pe (F:=BS oh l) rfl Y5 rfl rfl λv u w r1 r=>S w v u r1 r)<|aE rfl Kl<|aE rfl (axA rfl rfl)<|aE rfl (sP rfl rfl AU)<|aE rfl (sP rfl rfl AU)<|aE rfl K6<|aE rfl K6<|aE rfl K6<|rfl) λfO io J N cK=>cg (cg ?_);rw[eI (aI f17 5)];refine gg J (aE rfl Kl<|aE rfl (PE rfl rfl Kk)<|rfl) λZ c3 d M K=>lv (t:=false) (BL d rfl rfl) (uL (cg (uM ?_)));rw[eI (aI f17 7)];refine(show b8 _ (.R _ (List.range' 0 (3+9))::_) _ _ _ _ from sw d (aE rfl Kl<|aE rfl Kl<|aE rfl (Ho rfl rfl)<|rfl) AU λX T x L p=>jS ⟨L.trans (M.trans (N.trans (O.trans (P.trans (Q.trans (d1.trans hd)))))),x.a7 ⟨rfl,rfl,rfl,rfl,rfl,rfl,rfl,rfl,PA⟩,?_⟩);have o:=b1.trans (b2.mono b1.size);have k:=o.trans (R.mono o.size);have j:=k.trans (cm.mono k.size);have i:=j.trans (cK.mono j.size);have g:=i.trans (K.mono i.size);exact(g.trans (p.mono g.size)).mono hn
def axN(F6:0<oh/\oh<=1000)(hl:l.length<=1000)(pp:rs.length<=1000)(hlen:∀r∈rs,r.2.length=l.length)(Z:∀r∈rs,∀d∈r.2,d.text.size<=1000000)(hd:a.defers=[])(hn:n0<=w.heap.size)(hk:ah 78 (up (aW (Lk fg fh n0 oh l W af)) 55 (Lf rs)) a w):
 qr vee f17 (.R (aI f17 7) (List.range' 4 8)::[.code (Al f17)]) (λv w1=>wN (pn l (og rs) rs.length) w1 v/\Below n0 w w1) a w:=by
 have key:b8 vee (.R (aI f17 7) (List.range' 4 8)::[.code (Al f17)]) [.R (aI f17 11) (List.range' 9 3),.code .ret] (λa1 w1=>a1.defers=[]/\ah 78 (aW [(12,iw n0 27 1),(14,iw n0 50 2),(76,qF (pn l (og rs) rs.length)),(77,E7)]) a1 w1/\Below n0 w w1) a w:=by
  rw[eI (aI f17 7)];refine(show b8 _ (.R _ (List.range' 4 (4+4))::_) _ _ _ _ from sw hk (aE rfl Kl<|aE rfl (axB rfl rfl)<|aE rfl (axC rfl rfl)<|aE rfl (axD rfl rfl)<|rfl) AU λa1 w1 m d1 b1=>xX ?_);obtain⟨v56,WZ,J⟩:=m.has 56 _ rfl;obtain⟨v57,W0,I⟩:=m.has 57 _ rfl;obtain⟨v58,W3,H⟩:=m.has 58 _ rfl;obtain⟨o,P,mR,Db,Ll⟩:∃o,(aI f17 7)[11]?=some o/\o.op=.store 50 (.tmp 20) (.tmp 58)/\o.guard=none/\o.dst=none:=⟨_,rfl,rfl,rfl,rfl⟩;rw[eI (aI f17 7)]at P;refine i_ (R:=λa' w'=>a'=a1.put (some 20) (.P w1.heap.size 0)/\w'=w1.alloc (.cells #[.I 0,.N] 50)) (pC rfl rfl rfl (WV rfl _ _) ⟨rfl,rfl⟩) ?_;rintro bV w2 ⟨rfl,z⟩;refine i_ (R:=λa' w'=>a'=(a1.put (some 20) (.P w1.heap.size 0)).put (some 19) v56/\w2=w') (pC (v:=v56) rfl rfl rfl (BI rfl (c2 ((dV AU).trans WZ)) _) ⟨rfl,rfl⟩) ?_;rintro _ _ ⟨rfl,rfl⟩;refine i_ (R:=λa' w'=>a'=((a1.put (some 20) (.P w1.heap.size 0)).put (some 19) v56).put (some 17) v57/\w2=w') (pC (v:=v57) rfl rfl rfl (BI rfl (c2 ((dV AU).trans ((dV AU).trans W0))) _) ⟨rfl,rfl⟩) ?_;rintro p _ ⟨q,rfl⟩;have c3:p.tmps[20]?=some (.P w1.heap.size 0):=by rw[q];exact(dV AU).trans ((dV AU).trans (kS (by rw[m.size];decide)))
  have E:p.tmps[58]?=some v58:=by rw[q];exact(dV AU).trans ((dV AU).trans ((dV AU).trans W3))
  obtain⟨M,g9,-,iV,-⟩:=WE (n0:=w1.heap.size) (ev:=p.eval) (w:=w2) mR (by rw[c2 c3,z];exact⟨_,_,rfl,vad _,ag.new _ _ _,rfl⟩) (by rw[c2 E];exact H);have k:cy w1 M:=((vaa _ w1).alloc Kj _).trans (z▸iV);refine i_ (R:=λa' w'=>p=a'/\M=w') (tx P Db Ll g9 ⟨rfl,rfl⟩) ?_;rintro _ _ ⟨rfl,rfl⟩;have O:=((m.put (s:=20) (F:=avf) (v:=.P w1.heap.size 0) AU k trivial).put (s:=19) (F:=WU rs) AU (vaa _ _) ((WU rs).iI _ _ _ k J)).put (s:=17) (F:=a9 0) AU (vaa _ _) I;rw[<-q]at O;have d4:p.defers=a.defers:=by rw[q,put_defers,put_defers,put_defers];exact d1
  refine qy ?_;unfold Al;refine cg (cg ?_);rw[eI (aI f17 8)];refine gg O (aE rfl Kl<|aE rfl (PE rfl rfl Kk)<|rfl) λfO io Q d5 cK=>lv (t:=false) (BL Q rfl rfl) (uL (cg ?_));rw[eI (aI f17 10)];refine gg Q (aE rfl Kl<|aE rfl (ER (F:=sR rs) rfl axq rfl λv w r1=>by
   obtain⟨fL,cc,rfl,-,-⟩:=id r1;exact(axu _ _ _ w).mono λe w'⟨b,g,c,j⟩=>⟨_,g,⟨b,_,rfl,c,aZ.mono pj (br.ck j) r1⟩,j⟩)<|aE rfl Kl<|aE rfl Kl<|aE rfl (V1 (F:=axw rs) rfl axr λa w hk=>by
   obtain⟨v,D,b,x,rfl,r1,A⟩:=hk.has 65 _ rfl;obtain⟨v2,K,rfl⟩:=hk.has 66 _ rfl;obtain⟨v3,B,rfl⟩:=hk.has 67 _ rfl;rw[show(#[Operand.tmp 65,.tmp 66,.tmp 67].map a.eval)=#[.func (.func 30) #[] #[.P b 0],.I 0,.I 9223372036854775807]from by simp[c2 D,c2 K,c2 B]];exact(axv _ _ w).mono λe w'⟨b1,b2,k,g,c,j,C,L⟩=>⟨_,g,⟨b1,b2,k,_,rfl,c,j,C,b,x,rfl,br.ck L _ _ _ r1,aZ.mono pj (br.ck L) A⟩,L⟩)<|aE rfl K6<|rfl) λlG lY kU d6 ff=>cg (uM ?_)
  rw[eI (aI f17 11)];have Wr:((oh:Int)-1)=((oh-1:Nat):Int):=AP;refine(show b8 _ (.R _ (List.range' 0 (9+3))::_) _ _ _ _ from sw kU (aE rfl Kl<|aE rfl Kl<|aE rfl (axH rfl rfl rfl)<|aE rfl (Pa (n:=1) rfl rfl Kk CG AU)<|aE rfl (axE rfl rfl (by rw[<-Wr];rfl) F6.1)<|aE rfl (axF rfl rfl)<|aE rfl Kl<|aE rfl (Pe (F:=qF (pn l (og rs) rs.length)) rfl aw5 rfl rfl λv u w r1 A=>by
   obtain⟨b1,b2,k,x,rfl,p1,p2,p3,b,y,rfl,p4,Aj⟩:=A;exact(aw9 l v rs w r1 hl pp hlen Z axt λn=>ao6 b1 b2 k w (λn=>ao2 rs y b w Aj AP p4) axs
    (λt W x h=>by obtain⟨_,U,pc,X,V,rfl,-,-⟩:=h;grind) (λt W W' x hk h=>by
     obtain⟨h0,U,pc,X,V,rfl,g,c⟩:=h;exact⟨h0,U,pc,X,V,rfl,g,λ_ _ _ hc=>C9 hk (c _ _ _ hc)⟩) AP p1 p2 p3).mono λe w'⟨aA,g,c,j⟩=>⟨_,g,⟨aA,rfl,c⟩,j⟩)<|aE rfl (axG rfl)<|rfl) AU λn6 xm pG d7 rG=>jS ⟨d7.trans (d6.trans (d5.trans (d4.trans hd))),pG.a7 ⟨rfl,rfl,rfl,rfl,PA⟩,?_⟩)
  have T:=b1.trans (k.mono b1.size);have S:=T.trans (cK.mono T.size);have N:=S.trans (ff.mono S.size);exact(N.trans (rG.mono N.size)).mono hn
 refine xV (ks':=[.R (aI f17 11) (List.range' 9 3),.code .ret]) λb cs=>?_;obtain⟨a1,w1,⟨g,c,j⟩,C⟩:=key b cs;refine⟨a1,w1,λf cs hf=>?_,C⟩;obtain⟨v,w2,fr,⟨D,K⟩,B,q4⟩:=sB (F:=f17) (ks:=[]) (i:=9) (xa:=12) (sa:=76) (xi:=13) (tE:=14) (sb:=77) (y:=.const (.I 0)) c g ⟨rfl,rfl,rfl,rfl⟩ Kk axK AU (λtmps w ba s4 aA e1 z e3 cu dr=>by simp[results,results17,go_sem,sx,e1,z,e3,cu.rules.1,dr.rules.1]) f cs hf;exact⟨v,w2,fr,⟨D,j.trans K⟩,B,q4⟩
def sn{c6 Fr:a4}(hg:c6.ok=λ_=>True)(r:Fr.ok=λ_=>True){Post:fX}{M:dY}{d:Nat}(m:∀n,fg.ok n)(k:∀n,fh.ok n)(D:aM (bG M) #[aV,bd] #[aV,bd])(fS:fg.R w aV)(B:fh.R w bd)(A:0<W)(z:W<=16)(y:0<af)(t:af<=64)(F:∀w aV bd,fg.R w aV->fh.R w bd->Calls vee 19 #[aV,bd] w λe w'=>∃v,e=.returned v/\(BS oh l).R w' v/\cy w w')(E:∀M w aV bd,aM (bG M) #[aV,bd,.agg #[.I W,.I af]] #[aV,bd,.agg #[.I W,.I af]]->fg.R w aV->fh.R w bd->ei O prog Post 20 #[aV,bd,.agg #[.I W,.I af]] M w d (λu _ w'=>c6.R w' u/\cP M w w'))(q:∀(n0:Nat) a c,a.defers=[]->n0<=c.heap.size->ah 78 (up (aW (Lk fg fh n0 oh l W af)) 55 c6) a c->qr vee f17 (.R (aI f17 7) (List.range' 4 8)::[.code (Al f17)]) (λv w1=>Fr.R w1 v/\Below n0 c w1) a c):
 ei O prog Post 17 #[aV,bd,.I W,.I af,.I 0,.I 9223372036854775807] M w d (λu _ w'=>Fr.R w' u/\cP M w w'):=by
 obtain⟨o,ats,s⟩:=axJ;refine Mh (N:=78) (l0:=[(0,fg),(1,fh),(2,a9 W),(3,a9 af),(4,a9 0),(5,a9 9223372036854775807),(77,lL)]) (l1:=Lk fg fh w.heap.size oh l W af) (c6:=c6) (Fr:=Fr) mH func17 PC sy ?_ ?_ ⟨m _,k _,PA,PA,PA,PA,PA,PA⟩ ⟨PA,PA,Y,Y,PA,m _,k _,PA,PA⟩ (by rw[hg];trivial) (by rw[r];trivial) AM (ks:=[.code (Al f17)]) AM s AU func20 AS Hv (λa c hd hn hk=>axL F A z y t hd hn hk) (λa C w1 Shun H hk h=>?_) (λa c hd hn hk=>q _ a c hd hn hk)
 .exact aM.append (a:=#[aV,bd]) (b:=#[.I W,.I af,.I 0,.I 9223372036854775807]) D (lg (l:=[.I W,.I af,.I 0,.I 9223372036854775807]) λx f=>by
   simp at f;rcases f with rfl|rfl|rfl|rfl<;>exact .int _ _)
 .exact dQ (v:=aV) MC fS<|dQ (v:=bd) MC B<|dQ (v:=.I W) MC Y<|dQ (v:=.I af) MC Y<|dQ (v:=.I 0) MC Y<|dQ (v:=.I 9223372036854775807) MC Y<|dQ (v:=undef) (by simp[f17]) Y<|x3 (by simp[f17])
 .obtain⟨v52,i,r1⟩:=hk.has 52 _ Y;obtain⟨v53,j,p⟩:=hk.has 53 _ Y;obtain⟨v54,g,rfl⟩:=hk.has 54 _ Y;rw[show(#[Operand.tmp 52,.tmp 53,.tmp 54].map a.eval)=#[v52,v53,.agg #[.I W,.I af]]from by simp[c2 i,c2 j,c2 g]];exact E C w1 v52 v53 (lg (l:=[v52,v53,.agg #[.I W,.I af]]) λx f=>by
   simp only[vbh,vbs,vdo]at f;rcases f with rfl|rfl|rfl
   .exact h.get _ _ _ i i
   .exact h.get _ _ _ j j
   .exact h.get _ _ _ g g) r1 p
def axS{Post:fX}{M:dY}{d:Nat}(g:∀n,fg.ok n)(f:∀n,fh.ok n)(p:aM (bG M) #[aV,bd] #[aV,bd])(fS:fg.R w aV)(o:fh.R w bd)(m:0<W)(k:W<=16)(j:0<af)(i:af<=64)(t:0<oh/\oh<=1000)(h:l.length<=1000)(c:rs.length<=1000)(hlen:∀r∈rs,r.2.length=l.length)(b:∀r∈rs,∀d∈r.2,d.text.size<=1000000)(s:∀w aV bd,fg.R w aV->fh.R w bd->Calls vee 19 #[aV,bd] w λe w'=>∃v,e=.returned v/\(BS oh l).R w' v/\cy w w')(q:∀M w aV bd,aM (bG M) #[aV,bd,.agg #[.I W,.I af]] #[aV,bd,.agg #[.I W,.I af]]->fg.R w aV->fh.R w bd->ei O prog Post 20 #[aV,bd,.agg #[.I W,.I af]] M w d (λu _ w'=>Hu rs w' u/\cP M w w')):
 ei O prog Post 17 #[aV,bd,.I W,.I af,.I 0,.I 9223372036854775807] M w d (λu _ w'=>wN (pn l (og rs) rs.length) w' u/\cP M w w'):=
 sn (c6:=Lf rs) (Fr:=BQ (pn l (og rs) rs.length)) Y Y g f p fS o m k j i s q λn0 a x hd hn hk=>axN t h c hlen b hd hn hk
end
end
section
open eb
variable{O:fk}
section
variable{N:Nat}{K:bF}{o:Oper}{x:uau}{t:List bo}
def W4(a:o.op=.extract x 0)(b:bg K x (BQ t)):bD vee N K o (qF t):=dK b λev w h=>by obtain⟨v,e,h⟩:=h;refine⟨.agg #[v],w,?_,⟨v,Y,h⟩,vaa _ _⟩;clear h;cases o;simp only at a;subst a;go_simp
def W5(a:o.op=.extract x 1)(b:bg K x (BQ t)):bD vee N K o (a9 0):=dK b λev w h=>by obtain⟨v,e,h⟩:=h;refine⟨.I 0,w,?_,Y,vaa _ _⟩;clear h;cases o;simp only at a;subst a;go_simp
def W6(a:o.op=.extract x 2)(b:bg K x (BQ t)):bD vee N K o E7:=dK b λev w h=>by obtain⟨v,e,h⟩:=h;refine⟨sx,w,?_,Y,vaa _ _⟩;clear h;cases o;simp only at a;subst a;go_simp
end
def sm(F:Func):Code:=.seq (.region 0 (aI F 0) false) (.seq (.region 1 (aI F 1) false) .ret)
theorem Ln:Tryz.f10.body=some (sm Tryz.f10):=by kernel_rfl
def axT:∃o ats,(aI Tryz.f10 1)[4]?=some o/\o.op=.call {callee:=.value (.func 17),args:=#[.tmp 11,.tmp 12,.tmp 13,.tmp 14,.const (.I 0),.const (.I 9223372036854775807)],argTypes:=ats}/\o.guard=none/\o.dst=some 15:=⟨_,_,Y,Y,Y,Y⟩
def sg:∃b o2 a,((aI Tryz.f10 1)[8]?=some b/\b.op=.store 27 (.tmp 8) (.tmp 16)/\b.guard=none/\b.dst=none)/\((aI Tryz.f10 1)[8+1]?=some o2/\o2.op=.assign (.tmp 17)/\o2.guard=none/\o2.dst=some 9)/\(aI Tryz.f10 1)[8+2]?=some a/\a.op=.store 50 (.tmp 10) (.tmp 18)/\a.guard=none/\a.dst=none:=⟨_,_,_,⟨Y,Y,Y,Y⟩,⟨Y,Y,Y,Y⟩,Y,Y,Y,Y⟩
def r8{fg fh Fr:a4}(k:Fr.ok=λ_=>True){W af d:Nat}{w:aH}{Post:fX}{M:dY}(i:∀n,fg.ok n)(h:∀n,fh.ok n)(E:aM (bG M) #[aV,bd] #[aV,bd])(fS:fg.R w aV)(C:fh.R w bd)(I:∀M w aV bd,aM (bG M) #[aV,bd] #[aV,bd]->fg.R w aV->fh.R w bd->ei O prog Post 17 #[aV,bd,.I W,.I af,.I 0,.I 9223372036854775807] M w d (λu _ w'=>Fr.R w' u/\cP M w w'))(t:∀(n0:Nat) a c,a.defers=[]->n0<=c.heap.size->ah 19 (up (aW [(8,iw n0 27 1),(10,iw n0 50 2),(11,fg),(12,fh),(13,a9 W),(14,a9 af)]) 15 Fr) a c->qr vee Tryz.f10 (.R (aI Tryz.f10 1) (List.range' 5 6)::[.code .ret]) (λv w1=>Fr.R w1 v/\Below n0 c w1) a c):
 ei O prog Post 10 #[aV,bd,.I W,.I af] M w d (λu _ w'=>Fr.R w' u/\cP M w w'):=by
 obtain⟨o,ats,B⟩:=axT;refine Mh (N:=19) (rest:=List.range' 5 6) (l0:=[(0,fg),(1,fh),(2,a9 W),(3,a9 af),(18,lL)]) (l1:=[(8,iw w.heap.size 27 1),(10,iw w.heap.size 50 2),(11,fg),(12,fh),(13,a9 W),(14,a9 af)]) (c6:=Fr) (Fr:=Fr) mH func10 AM Ln ?_ ?_ ⟨i _,h _,PA,PA,PA,PA⟩ ⟨Y,Y,i _,h _,PA,PA,PA⟩ (by rw[k];trivial) (by rw[k];trivial) AM (ks:=[.code .ret]) AM B AU func17 AS sy (λa c hd hn hk=>?_) (λa D w1 Shun L hk m=>?_) (λa c hd hn hk=>t _ a c hd hn hk)
 .exact aM.append (a:=#[aV,bd]) (b:=#[.I W,.I af]) E (Mi _ _ _)
 .exact dQ (v:=aV) MC fS<|dQ (v:=bd) MC C<|dQ (v:=.I W) MC Y<|dQ (v:=.I af) MC Y<|dQ (v:=undef) (by simp[Tryz.f10]) Y<|x3 (by simp[Tryz.f10])
 .obtain⟨u,f,A⟩:=hk.has 18 _ Y;have hk:=dQ (F:=x0 w.heap.size lL) f ⟨hn,A⟩ hk;unfold sm;refine cg ?_;rw[eI (aI Tryz.f10 0)];refine gg hk (aE Y (WW (s:=18) Y Y)<|aE Y (eC (F:=a9 0) Y Kk)<|aE Y (sQ (s:=18) Y Y)<|rfl) λa1 w1 z d1 b1=>cg (uM ?_);rw[eI (aI Tryz.f10 1)];exact(show b8 _ (.R _ (List.range' 0 (4+7))::_) _ _ _ _ from sw z (aE Y Kl<|aE Y Kl<|aE Y Kl<|aE Y Kl<|rfl) AU λK w2 y H b2=>jS ⟨H.trans (d1.trans hd),y.a7 ⟨Y,Y,Y,Y,Y,Y,PA⟩,(b1.trans (b2.mono b1.size)).mono hn⟩)
 .obtain⟨v1,e,r1⟩:=hk.has 11 _ Y;obtain⟨v2,g,p⟩:=hk.has 12 _ Y;obtain⟨v3,r,rfl⟩:=hk.has 13 _ Y;obtain⟨J,q,rfl⟩:=hk.has 14 _ Y;rw[show(#[Operand.tmp 11,.tmp 12,.tmp 13,.tmp 14,.const (.I 0),.const (.I 9223372036854775807)].map a.eval)=#[v1,v2,.I W,.I af,.I 0,.I 9223372036854775807]from by simp[Act.eval,e,g,r,q]];exact I D w1 v1 v2 (lg (l:=[v1,v2]) λx j=>by
   simp at j;rcases j with rfl|rfl
   .exact m.get _ _ _ e e
   .exact m.get _ _ _ g g) r1 p
def r4{fg fh:a4}{W af d:Nat}{bN:List bo}{w:aH}{Post:fX}{M:dY}(g:∀n,fg.ok n)(e:∀n,fh.ok n)(p:aM (bG M) #[aV,bd] #[aV,bd])(fS:fg.R w aV)(k:fh.R w bd)(s:∀M w aV bd,aM (bG M) #[aV,bd] #[aV,bd]->fg.R w aV->fh.R w bd->ei O prog Post 17 #[aV,bd,.I W,.I af,.I 0,.I 9223372036854775807] M w d (λu _ w'=>wN bN w' u/\cP M w w')):
 ei O prog Post 10 #[aV,bd,.I W,.I af] M w d (λu _ w'=>wN bN w' u/\cP M w w'):=by
 refine r8 (Fr:=BQ bN) Y g e p fS k s λn0 a x hd hn hk=>?_;refine xV (ks':=[.R (aI Tryz.f10 1) (List.range' 8 3),.code .ret]) ?_;rw[eI (aI Tryz.f10 1)];refine(show b8 _ (.R _ (List.range' 5 (3+3))::_) _ _ _ _ from sw hk (aE Y (W4 Y Y)<|aE Y (W5 Y Y)<|aE Y (W6 Y Y)<|rfl) AU λa1 w1 h d1 b1=>jS λf cs j=>?_);obtain⟨v,w2,fr,⟨q,r⟩,c,b⟩:=sB (F:=Tryz.f10) (ks:=[]) (i:=8) (xa:=8) (sa:=16) (xi:=9) (tE:=10) (sb:=18) (y:=.tmp 17) h (d1.trans hd) ⟨Y,Y,Y,Y⟩ Y sg AU (λtmps w ba t aA o m l cu dr=>by simp[results,results10,go_sem,sx,o,m,l,cu.rules.1,dr.rules.1]) f cs j;exact⟨v,w2,fr,⟨q,(b1.mono hn).trans r⟩,c,b⟩
end
section
open eb
variable{O:fk}
def P2(x y:Int):a4:=jT x y
def x7(x y:Int):a4:=er uS (x,y)
section
variable{N n0:Nat}{K:bF}{o:Oper}{F:a4}{x y:uau}
def ayi{m n:Int}(a:o.op=.box 24 x)(b:bg K x (P2 m n)):bD vee N K o (x7 m n):=dK b λev w h=>by have h:ev x=.agg #[.I m,.I n]:=h;have c:cy w (w.alloc (.cells #[.I m,.I n] 24)):=(vaa _ w).alloc Kj _;refine⟨.P w.heap.size 0,_,A1,⟨w.heap.size,0,Y,?_,?_⟩,c⟩<;>exact oo (vbi w _) Y Y
def P3{m n:Int}(a:o.op=.fieldAddr 24 x 0)(c:bg K x (x7 m n)):bD vee N K o (er xZ m):=dK c λev w h=>by obtain⟨b,f,e,h0,d⟩:=h;exact⟨.P b f,w,A1,⟨b,f,Y,h0⟩,vaa _ _⟩
def P4{m n:Int}(a:o.op=.fieldAddr 24 x 1)(c:bg K x (x7 m n)):bD vee N K o (er xZ n):=dK c λev w h=>by obtain⟨b,f,e,h0,d⟩:=h;exact⟨.P b (f+1),w,A1,⟨b,f+1,Y,d⟩,vaa _ _⟩
def BU{c n:Int}{ats:uap}(f:o.op=.call {callee:=.value (.func 11),args:=#[x,y],argTypes:=ats})(d:bg K x (a9 c))(b:bg K y (a9 n))(g:c9 c)(hn:0<n/\n<=1000000):bD vee N K o (a9 (m9 c n)):=Pe f (λa w=>au2 a w) d b λv j w h i=>by cases h;cases i;refine(K2 c n g hn w).mono ?_;rintro e w' ⟨rfl,rfl⟩;exact⟨_,Y,Y,vaa _ _⟩
def ra{s v:Nat}{t:List bo}(e:o.op=.store 27 (.tmp s) (.tmp v))(hs:K s=some (iw n0 27 1))(hv:K v=some (qF t))(hg:o.guard=none:=by rfl)(hd:o.dst=none:=by rfl):BC vee N n0 K o (27,s) (HF n0 t):=⟨hg,hd,λa w hk=>by
 obtain⟨x,b,r1⟩:=hk.has s _ hs;obtain⟨y,i,d⟩:=hk.has v _ hv;obtain⟨w',h,g,f,c⟩:=wI (n0:=n0) (t:=t) (ev:=a.eval) (w:=w) e (by rw[c2 b];exact r1) (by rw[c2 i];exact d);rw[c2 b]at c;exact⟨w',h,g,f,x,b,c⟩⟩
def q7{s v:Nat}(e:o.op=.store 50 (.tmp s) (.tmp v))(hs:K s=some (iw n0 50 2))(hv:K v=some E7)(hg:o.guard=none:=by rfl)(hd:o.dst=none:=by rfl):BC vee N n0 K o (50,s) (BH n0):=⟨hg,hd,λa w hk=>by
 obtain⟨x,b,r1⟩:=hk.has s _ hs;obtain⟨y,i,d⟩:=hk.has v _ hv;obtain⟨w',h,g,f,c⟩:=WE (n0:=n0) (ev:=a.eval) (w:=w) e (by rw[c2 b];exact r1) (by rw[c2 i];exact d);rw[c2 b]at c;exact⟨w',h,g,f,x,b,c⟩⟩
def P5:a4:=⟨λw v=>∃b k,v=.P b k/\w.cell? (.a b k)=some (.N),λ_ _ _ hb⟨b,k,e,h⟩=>⟨b,k,e,br.ck hb _ _ _ h⟩,λ_=>False,λ_ h=>h.elim⟩
def vt(a:o.op=.load 40 x)(c:bg K x P5):bD vee N K o mN:=dK c λev w h=>by obtain⟨b,k,e,h⟩:=h;exact⟨.N,w,A1,Y,vaa _ _⟩
def vp(a:o.op=.call {callee:=.builtin .len,args:=#[x],argTypes:=#[40]})(b:bg K x mN):bD vee N K o (a9 0):=dK b λev w h=>by have e:ev x=.N:=h;exact⟨.I 0,w,A1,Y,vaa _ _⟩
def ayj{m n:Int}{T':uab}(a:o.op=.binOp .eql 48 x y T')(c:bg K x (a9 m))(b:bg K y (a9 n)):bD vee N K o (eB (m==n)):=wL c b (λ_=>Y) λev w e d=>by cases o;simp only at a;subst a;go_simp
end
def vm(F:Func):Code:=.seq (.region 0 (aI F 0) false) (.seq (.region 1 (aI F 1) true) (tD F 1))
theorem Xa:Tryz.f12.body=some (vm Tryz.f12):=by kernel_rfl
def vl:gz prog true Tryz.f12=true:=by decide+kernel
def P6:na:=⟨10,λi=>i==13||i==14||decide (17<i),λi=>decide (10<i),[(17,27,8),(19,50,10)]⟩
def ayk{n0:Nat}{bN:List bo}{a:Act}{w:aH}(hd:a.defers=[])(hk:ah 40 (aW [(6,iw n0 27 1),(8,HF n0 bN),(9,a9 0),(10,BH n0)]) a w):qr vee Tryz.f12 [.code (tD Tryz.f12 1)] (λv w1=>BO bN w1 v/\Below n0 w w1) a w:=by
 obtain⟨R,t,c,j,rfl,M,r,L⟩:=hk.has 6 _ rfl;obtain⟨Q,i,ki,aA,rfl,Xb,y,b⟩:=hk.has 8 _ rfl;obtain⟨P,x,o⟩:=hk.has 9 _ rfl;obtain⟨v10,u,HN,rfl,J,g⟩:=hk.has 10 _ rfl;obtain⟨lS,cu,dr,gB,j_,l7,S,nH,n_,Z,X,W,mI,V,mJ,px,PJ,PK,PL,PM,mK,ma,U,c3,T,PN,PO,PP,PQ,PR,PS,PT,PU,PV,PW,PX,PY,PZ,P0,P1,rfl⟩:=ayh hk.size hd;obtain rfl:=van t;obtain rfl:=van i;obtain rfl:=van x;obtain rfl:=van u;cases o;clear t i x u hk hd;obtain⟨C,rfl⟩:∃q,j=#[q]:=by obtain⟨l⟩:=j;match l,L with| [q],_=>grind
 obtain⟨I,E,D⟩:=r.all;obtain⟨n,K,N⟩:=y.all;obtain⟨B,A,O⟩:=g.all;obtain⟨⟨e,d,rfl,-,-⟩,-⟩:=id b;have H:Hid (l6 w _ bN):=b;have f:Hid (ag w c #[C] 27):=r;clear r y g b;simp[tD,Tryz.f12,bz.dJ,bz.kC];refine auw ?_;go_wp2
 go_region
 go_wp2
 have u6:ag (w.setCell ⟨c,0,none⟩ (.slice e bN.length d)) c #[.slice e bN.length d] 27:=f.out.set 0 _;have s:iq qh w (w.setCell ⟨c,0,none⟩ (.slice e bN.length d)):=iq.set f.out (by grind[qh]) _ _;have z:Below n0 w (w.setCell ⟨c,0,none⟩ (.slice e bN.length d)):=(vaa n0 w).setCell (p:=⟨c,0,none⟩) M _;have m:=l6.kept s H.out;clear I E D n K N B A O s;generalize w.setCell ⟨c,0,none⟩ (.slice e bN.length d)=k at *;obtain⟨F,-⟩:=u6.rules;exact vai (v:=.tuple #[.agg #[.slice e bN.length d],.T]) (by simp[results,results12,go_sem,F]) rfl ⟨_,rfl,⟨_,rfl,l6.kept (show iq qh k k.drew from⟨vad _,λ_ _ _ _ h _=>h⟩) m⟩,z.trans (show Below n0 k k.drew from⟨rfl,rfl,rfl,vad _,λ_ _=>rfl⟩)⟩
def LD:∀p∈P6.ja,jU p.2.1:=by decide
def ayo{fg fh:a4}{d:Nat}{x y:Int}{bN:List bo}{w:aH}{Post:fX}{M:dY}(k:∀n,fg.ok n)(j:∀n,fh.ok n)(i:c9 x)(hy:c9 y)(dG:aM (bG M) #[aV,bd] #[aV,bd])(fS:fg.R w aV)(gO:fh.R w bd)(Lp:∀W af:Nat,0<W->W<=16->0<af->af<=64->∀M w aV bd,aM (bG M) #[aV,bd] #[aV,bd]->fg.R w aV->fh.R w bd->ei O prog Post 17 #[aV,bd,.I W,.I af,.I 0,.I 9223372036854775807] M w d (λu _ w'=>wN bN w' u/\cP M w w')):
 ei O prog Post 12 #[.agg #[.I x,.I y],aV,bd] M w d (λu _ w'=>BO bN w' u/\cP M w w'):=by
 intro n Shun hn C eZ aD aB aJ aL aG csZ hc cx;obtain⟨p,f⟩:∃p:Nat,m9 x 16=p:=⟨(m9 x 16).toNat,by have:=tA x (n:=16) AP;omega⟩;obtain⟨q,hq⟩:∃q:Nat,m9 y 64=q:=⟨(m9 y 64).toNat,by have:=tA y (n:=64) AP;omega⟩;have xI:=tA x (n:=16) AP;have GH:=tA y (n:=64) AP;have E:ln prog 12:=EP func12 vl Xa;rw[vdc func12 Xa];have m:aM (bG M) #[.agg #[.I x,.I y],aV,bd] #[.agg #[.I x,.I y],aV,bd]:=aM.append (a:=#[.agg #[.I x,.I y]]) (b:=#[aV,bd]) (.one (.oW (Mi _ _ _))) dG;have H:=Held.start (n0:=w.heap.size) C Kj (a:=⟨#[.agg #[.I x,.I y],aV,bd]++Array.replicate 37 undef,[]⟩) (m.append (Hq _ _)) rfl;refine O2 mH E H (k':=[.code (.region 1 (aI Tryz.f12 1) true),.code (tD Tryz.f12 1)]) AM AM (I:=ah 40 (aW [(0,P2 x y),(1,fg),(2,fh),(39,lL)])) (J:=ah 40 (aW [(1,fg),(2,fh),(3,x7 x y),(6,iw w.heap.size 27 1)])) (kT _ (fc ⟨PA,k _,j _,PA,PA⟩)) (kT _ (fc ⟨k _,j _,PA,rfl,PA⟩)) (dQ (v:=.agg #[.I x,.I y]) MC rfl<|dQ (v:=aV) MC fS<|dQ (v:=bd) MC gO<|dQ (v:=undef) AQ rfl<|x3 AQ) (λW1 o hk=>?_) λa1 dv w1 H1 D=>?_
 .obtain⟨u,A,hu⟩:=hk.has 39 _ rfl;have hk:=dQ (F:=x0 w.heap.size lL) A ⟨o,hu⟩ hk;unfold vm;refine cg ?_;rw[eI (aI Tryz.f12 0)];exact gg hk (aE rfl (ayi rfl rfl)<|aE rfl (WW (s:=39) rfl rfl)<|aE rfl (eC (F:=eB false) rfl Kk)<|rfl) λbV w2 Z d2 b2=>cg (jS ⟨d2,Z.a7 ⟨rfl,rfl,rfl,rfl,PA⟩,b2.mono o⟩)
 have t:(1:Int)+(p:Int)=((1+p:Nat):Int):=AP;have Di:(1:Int)+(q:Int)=((1+q:Nat):Int):=AP;refine Nh (N:=40) (S:=P6) (L:=aW [(1,fg),(2,fh),(3,x7 x y)]) (Q:=aW [(6,iw w.heap.size 27 1)]) mH mixed E AM (fc ⟨k _,j _,PA,PA⟩) (λs F e=>?_) AM rfl rfl rfl rfl func10 AS Ln rfl hn rfl (c6:=BQ bN) (by
  rw[eI (aI Tryz.f12 1)];exact aK.hq rfl Kl (hok:=k _)<|aK.hq rfl Kl (hok:=j _)<|aK.hq rfl (P3 rfl rfl)<|aK.hq (F:=a9 x) rfl Kp<|aK.hq (F:=a9 p) rfl (f▸BU rfl rfl Kk i AU)<|aK.hq (F:=a9 (1+p:Nat)) rfl (t▸Af rfl Kk rfl CG AU)<|aK.hq rfl (P4 rfl rfl)<|aK.hq (F:=a9 y) rfl Kp<|aK.hq (F:=a9 q) rfl (hq▸BU rfl rfl Kk hy AU)<|aK.hq (F:=a9 (1+q:Nat)) rfl (Di▸Af rfl Kk rfl CG AU)<|hg rfl (λa M w Shun C hk m=>by
   obtain⟨v1,r,r1⟩:=hk.has 12 _ rfl;obtain⟨v2,B,U⟩:=hk.has 13 _ rfl;obtain⟨v3,X,rfl⟩:=hk.has 17 (a9 (1+p:Nat)) rfl;obtain⟨v4,V,rfl⟩:=hk.has 21 (a9 (1+q:Nat)) rfl;rw[show(#[Operand.tmp 12,.tmp 13,.tmp 17,.tmp 21].map a.eval)=#[v1,v2,.I (1+p:Nat),.I (1+q:Nat)]from by simp[Act.eval,r,B,X,V]];exact r4 k j (lg (l:=[v1,v2]) λx i=>by
    simp at i;rcases i with rfl|rfl
    .exact m.get _ _ _ r r
    .exact m.get _ _ _ B B) r1 U (Lp _ _ AP AP AP AP))<|aK.hk rfl Kl (λ_=>wK) LD<|aK.hk rfl (W4 rfl rfl) (λ_=>WC) LD<|aK.hk rfl (W5 rfl rfl) LQ LD<|aK.hk rfl (W6 rfl rfl) LQ LD<|aK.hn (F:=iw w.heap.size 27 1) rfl L9 (hs:=λ_ _ _ _=>wO)<|aK.hn (F:=iw w.heap.size 50 2) rfl MJ (hs:=λ_ _ _ _=>wO)<|hst rfl (ra rfl rfl rfl) (hs:=λ_ p f g=>WB (by simp[P6]at f;rcases f with rfl|rfl;exact absurd rfl g;rfl))<|aK.hk rfl K6 LQ LD<|hst rfl (q7 rfl rfl rfl) (hs:=λ_ p f g=>wS (by simp[P6]at f;rcases f with rfl|rfl;rfl;exact absurd rfl g))<|rfl) LO H1 (D.a7 ⟨rfl,rfl,rfl,PA⟩) (D.a7 ⟨rfl,PA⟩) λbV M2 w2 iy EV e7 R P=>?_
 .unfold aW at e;split at e
  .cases e;exact⟨rfl,λp _=>wO⟩
  .cases e
 refine KY mH func12 vl Xa P AM hc (I:=ah 40 (aW [(6,iw w.heap.size 27 1),(8,HF w.heap.size bN),(9,a9 0),(10,BH w.heap.size)])) (hO:=BO bN) (kT _ (fc ⟨rfl,rfl,PA,rfl,PA⟩)) (wU _) (e7.a7 ⟨rfl,rfl,rfl,rfl,PA⟩) (λW1 o hI=>xV (tv (jS (ayk P.defers hI)))) λu c3 T h1 h2 h3 h4 aU bE=>cx u c3 T iy EV R h1 h2 h3 h4 ⟨bE,λb c e z K i=>aU b c e z ⟨K,C.lt K⟩ i⟩
