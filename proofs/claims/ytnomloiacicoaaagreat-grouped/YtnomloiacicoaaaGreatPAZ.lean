import Derived.Test.YtnomloiacicoaaaGreatPAX
set_option linter.all false
set_option maxRecDepth 100000
set_option maxHeartbeats 16000000
namespace Go.Proofs.YtnomloiacicoaaaGreat
open Tryz
namespace aV
open Conc ConcM RowKit av bj ah eK hO fH iu cV oB dx bd
section
variable{O:gW}
section
variable{Post:hV}{M:dL}{w:aR}{op a:Int}{gs:List cY}{ds:Nat->aG}{aF:g7}{iG:ubw}{kb cL kc aU bA gc cap g:Nat}{bZ:uag}
def aCd:(λb=>M b\/bL b)=M:=by
 funext b
 exact propext ⟨λh=>h.resolve_right λx=>x,.inl⟩
def aCe(E:fG (dr prog) M (ju M) w)(j:∀g,g<=prog.globals.size->M g)(s:∀i(h:i<gs.length),gs[i].1=ds i)(D:aF.length=5)(hlen:gs.length<=300)(q:gs.length<=cap)(htx:∀i,i<gs.length->∀v∈jX (ds i) aF,v.text.size<=9223372036854775807)(hin:0<gs.length->bZ=some ⟨g,0,none⟩/\wY w gs aF iG aU bA g/\Q4 M gs kb aU g)(F:au (b7 M) (fI (gy op a kb cL 1 kc aU bA gc) (.slice bZ gs.length cap)) (fI (gy op a kb cL 1 kc aU bA gc) (.slice bZ gs.length cap))){af W:Nat}(m:0<af)(A:af<=64)(r:0<W)(B:W<=16):
 fZ O prog Post 35 #[.agg #[.I (W:Int),.I (af:Int)],.iface 156 (fI (gy op a kb cL 1 kc aU bA gc) (.slice bZ gs.length cap))] M w 1 (VN M w (cut (s6 ds aF iG) 0 gs.length)):=by
 have f:fG (da prog false) M bL w:=HR E;obtain⟨J,I⟩:=HS (S:=gs.length) m;refine U8 (S:=gs.length) (j4:=216) (ox:=λc T u M' w=>T<c.N/\o6 (da prog false) M c.K (FT (gy op a kb cL 1 kc aU bA gc) gs aF iG cap aU bA g (T*af) (min (T*af+af) gs.length)) u M' w) (g:=cut (s6 ds aF iG)) (Vm _) m A r B hlen Y (aro _ _) j f (λST bs z=>ark (M:=M) (λb k=>.inl k) j f (x7 F) z) (λc cH Stop hK a5 ss n hI=>?_);by_cases h0:0<gs.length
 .obtain⟨rfl,hin,o⟩:=hin h0;have H:fG (da prog false) M bL cH:=pE f hI;have e:=aBV (op:=op) (a:=a) (cL:=cL) (kc:=kc) (gc:=gc) (a8:=M) (Stop:=Stop) (c:=c) (fr:=λT=>T*af) (cZ:=λT=>min (T*af+af) gs.length) hK j (by rw[aCd];grind) s D hlen q htx (hin.carry (a8:=M) (ρ:=dp M bL) (λb k=>⟨Y,k⟩) (λa b K h1 h2=>h1.1.symm.trans h2.1) (sF hI f) o) o (XF _ _) (λT d=>by
   grind) n (λT d=>by grind[z5])
  exact⟨e.inv,λT l M w0 d h1 h2 h3=>iU.mono (e.abo T l M w0 d h1 h2 h3) λu σ⟨M',w1,y,x,t⟩=>⟨M',w1,y,⟨d,x⟩,t⟩,λT l M w0 u X C d h1 h2 h3 h4=>e.abp T l M w0 u X C d h1 h2 h3 h4.2,e.slice,e.uL,e.mono⟩
 .have p:∀T,¬T<c.N:=λT d=>by grind
  exact⟨XF _ _,λT _ _ _ d=>absurd d (p T),λT _ _ _ _ _ _ d=>absurd d (p T),(λT _ _ _ h=>by
   obtain⟨G,-,-,-,h⟩:=h;grind),n,λT _ _ _ _ _ h=>by
   obtain⟨G,-,-,-,h⟩:=h;grind⟩
end
end
end aV
namespace aV
open RowKit Shelf av bd
variable{Q:aG->Prop}{g:aG}
def vp{ds}(b:∀x,Q x->Q g->x.key=g.key->Q (ku g x))(h:∀d∈ds,Q d)(hg:Q g):∀d∈fu ds g,Q d:=by intro x a;cases hq:eX g.key ds with|none=>grind[p6]|some j=>rw[m4 hq]at a;grind[List.getElem_of_mem,B0]
def Q7(b:∀x g,Q x->Q g->x.key=g.key->Q (ku g x)){L}(h:∀d∈L,Q d):∀d∈ee L,Q d:=by
 have:∀(L ds:List aG),(∀d∈L,Q d)->(∀d∈ds,Q d)->∀d∈L.foldl fu ds,Q d:=by intro L;induction L with|nil=>grind|cons g L a=>exact λds h1 h2=>a _ (λd hd=>h1 d AA) (vp (λx=>b x g) h2 (h1 g AS))
 exact this L [] h AS
def vn{D N}(h:∀p,p<N->∀d∈D p,Q d):∀d∈jj D N,Q d:=λd hd=>by grind[XL]
def jG(B O K:uas)(d:aG):aG:={d with c5:=B d.c5,pa:=O d.c5,iY:=K d.c5}
section
variable{B O K:uas}
def vb q ds:eX q (ds.map (jG B O K))=eX q ds:=by unfold eX;rw[List.findIdx?_map];rfl
theorem aCg ds g:fu (ds.map (jG B O K)) (jG B O K g)=(fu ds g).map (jG B O K):=by
 cases hq:eX g.key ds with
 |none=>rw[p6 (by rw[vb];exact hq),p6 hq,vda];rfl
 |some j=>
  rw[m4 (by rw[vb];exact hq),m4 hq];apply vbx
  .simp
  .intro i h1 h2;simp only[vci,vef];split<;>rfl
def XO L:ee (L.map (jG B O K))=(ee L).map (jG B O K):=by
 have:∀(L ds:List aG),(L.map (jG B O K)).foldl fu (ds.map (jG B O K))=(L.foldl fu ds).map (jG B O K):=by intro L;induction L with|nil=>grind|cons g L a=>grind[aCg]
 exact this L []
theorem aCh G af n T:lH (λi=>jG B O K (G i)) af n T=(lH G af n T).map (jG B O K):=by
 unfold lH;rw[<-XO];congr 1
 simp[jF]
theorem uT D:∀N,jj (λT=>(D T).map (jG B O K)) N=(jj D N).map (jG B O K)
 |0=>rfl
 |N+1=>by rw[jj,jj,uT D N,vda]
end
abbrev B8(rs:List cP)(i:Nat):List bz:=(rs.getD i ([],[])).2
def m6(rs:List cP)(br:uac)(aF:g7)(i:Nat):aG:=⟨i,0,0,ke (br.map λk=>(B8 rs i).getD k du),kv (B8 rs i) aF⟩
def Q8(rs:List cP)(br:uac)(aF:g7)(af:Nat):List aG:=ee (jj (lH (m6 rs br aF) af rs.length) ((rs.length+af-1) / af))
def wZ(rs:List cP)(br:uac)(aF:g7)(af:Nat):List cP:=(Q8 rs br aF af).map λd=>([(d.c5:Int)],jX d aF)
structure FV(v:bz):Prop where
 lo: -1000<=v.num
 hi:v.num<=1000
 Me:v.text.size<=1000
structure vq(c:Nat)(t:dn):Prop where
 qQ:vl c t
 tl:t.least.text.size<=1000
 sL:t.greatest.text.size<=1000
theorem vq.mono{c d t}(h:vq c t)(hd:c<=d):vq d t:=⟨h.qQ.mono hd,h.tl,h.sL⟩
theorem vq.of{v}(h:FV v):vq 1 (lG v):=by
 have h1:=h.lo;have h2:=h.hi;unfold lG;split
 .exact⟨⟨AF,AF,AF,AF⟩,AF,AF⟩
 .exact⟨⟨AS,AS,AA,AA⟩,h.Me,h.Me⟩
theorem vq.and{c d a b}(h:vq c a)(k:vq d b):vq (c+d) (eP a b):=by
 refine⟨h.qQ.and k.qQ,?_,?_⟩
 .unfold eP;split
  .exact k.tl
  .split
   .exact h.tl
   .simp only;split
    .exact k.tl
    .exact h.tl
 .unfold eP;split
  .exact k.sL
  .split
   .exact h.sL
   .simp only;split
    .exact k.sL
    .exact h.sL
structure m7(c:Nat)(d:aG):Prop where
 l8:d.c9.length=5
 i_:∀t∈d.c9,vq c t
 key:d.key.1.text.size<=1000
theorem m7.mono{c d}(h:m7 c g)(hd:c<=d):m7 d g:=⟨h.l8,λt ht=>(h.i_ t ht).mono hd,h.key⟩
def m7.ok{c g}(h:m7 c g):mC c g:=⟨h.l8,λt ht=>(h.i_ t ht).qQ⟩
def m7.join{c d x}(h:m7 c x)(k:m7 d g):m7 (c+d) (ku g x):=by refine⟨LY h.l8 k.l8,λt ht=>?_,h.key⟩;obtain⟨i,hi,rfl⟩:=vbj ht;have hi:i<(List.zipWith eP x.c9 g.c9).length:=hi;show vq _ (List.zipWith eP x.c9 g.c9)[i];rw[vde];exact(h.i_ _ (vae _)).and (k.i_ _ (vae _))
def aCi{c d ds}(h:∀x∈ds,m7 c x)(k:m7 d g):∀x∈fu ds g,m7 (c+d) x:=by
 intro x a;cases hq:eX g.key ds with
 |none=>
  rw[p6 hq]at a;rcases vcz.1 a with a|a
  .exact(h x a).mono AQ
  .rw[vdr.1 a];exact k.mono AQ
 |some j=>
  rw[m4 hq]at a;obtain⟨i,hi,rfl⟩:=vbj a;rw[vci];split
  .exact(h _ (vae _)).join k
  .exact(h _ (vae _)).mono AQ
def Q9{c L}(h:∀d∈L,m7 c d):∀x∈ee L,m7 (c*L.length) x:=by
 have:∀t,t<=L.length->∀x∈ee (L.take t),m7 (c*t) x:=by intro t;induction t with|zero=>grind[ee]|succ t b=>intro ht x a;rw[LX L AQ]at a;rw[Nat.mul_succ];exact aCi (b AQ) (h _ (vae _)) x a
 grind
end aV
namespace aV
open RowKit av bd
theorem Q_:∀l:List UInt8,Op.bytesLess l l=false
 | []=>rfl
 |a::l=>by rw[Op.bytesLess,Q_ l];simp
theorem Mf:∀{x y z:List UInt8},Op.bytesLess x y=true->Op.bytesLess y z=true->Op.bytesLess x z=true
 |x,y,[],h1,h2=>by grind[Op.bytesLess]
 |x,[],z::zs,h1,h2=>by grind[Op.bytesLess]
 | [],y::ys,z::zs,h1,h2=>rfl
 |x::xs,y::ys,z::zs,h1,h2=>by
  simp only[Op.bytesLess,vem,vew,vag,beq_iff_eq]at h1 h2⊢;rcases h1 with h1|⟨rfl,h1⟩<;>rcases h2 with h2|⟨rfl,h2⟩
  .exact .inl (UInt8.lt_trans h1 h2)
  .exact .inl h1
  .exact .inl h2
  .exact .inr ⟨Y,Mf h1 h2⟩
theorem Ra:∀x y,Op.bytesLess x y=true\/x=y\/Op.bytesLess y x=true
 | [],[]=>.inr Jv
 | [],_::_=>.inl Y
 | _::_,[]=>.inr Jz
 |a::x,b::y=>by
  simp only[Op.bytesLess,vem,vew,vag,beq_iff_eq,List.cons.injEq];rcases Ra x y with h|h|h
  .by_cases e:a=b
   .exact .inl (.inr ⟨e,h⟩)
   .rcases UInt8.lt_or_lt_of_ne e with k|k
    .exact .inl (.inl k)
    .exact .inr (.inr (.inl k))
  .by_cases e:a=b
   .exact .inr (.inl ⟨e,h⟩)
   .rcases UInt8.lt_or_lt_of_ne e with k|k
    .exact .inl (.inl k)
    .exact .inr (.inr (.inl k))
  .by_cases e:a=b
   .exact .inr (.inr (.inr ⟨e.symm,h⟩))
   .rcases UInt8.lt_or_lt_of_ne e with k|k
    .exact .inl (.inl k)
    .exact .inr (.inr (.inl k))
def s8(x y:bz):Prop:=x.num<y.num\/(x.num=y.num/\Op.bytesLess x.text.toList y.text.toList=true)
theorem FW x y:m3 x y<0↔s8 x y:=by unfold m3 LQ Iw Ix s8;grind
theorem FX x y:0<m3 x y↔s8 y x:=by
 unfold m3 LQ Iw Ix s8;by_cases h1:x.num<y.num
 .grind
 .by_cases h2:y.num<x.num
  .grind
  .have e:x.num=y.num:=by omega
   simp only[e,Int.lt_irrefl,vcr,ne_eq,not_true_eq_false,false_or,true_and];grind[Ra,Mf,Q_]
theorem s8.trans{x y z}(h:s8 x y)(k:s8 y z):s8 x z:=by
 rcases h with h|⟨h,a⟩<;>rcases k with k|⟨k,k'⟩
 .exact .inl AQ
 .exact .inl AQ
 .exact .inl AQ
 .exact .inr ⟨AQ,Mf a k'⟩
theorem s8.cut{x z}(h:s8 x z)y:s8 x y\/s8 y z:=by
 rcases h with h|⟨h,a⟩
 .by_cases k:x.num<y.num
  .exact .inl (.inl k)
  .exact .inr (.inl AQ)
 .by_cases k:x.num<y.num
  .exact .inl (.inl k)
  .by_cases b:y.num<z.num
   .exact .inr (.inl b)
   .have e1:x.num=y.num:=by omega
    have e2:y.num=z.num:=AQ;rcases Ra x.text.toList y.text.toList with q|q|q
    .exact .inl (.inr ⟨e1,q⟩)
    .exact .inr (.inr ⟨e2,q▸a⟩)
    .exact .inr (.inr ⟨e2,Mf q a⟩)
def uJ{R:bz->bz->Prop}[DecidableRel R](ht:∀{x y z},R x y->R y z->R x z)(d:∀{x z},R x z->∀y,R x y\/R y z)(a b c:bz):(if R c (if R b a then b else a)then c else if R b a then b else a)=if R (if R c b then c else b) a then(if R c b then c else b)else a:=by grind
def aCk{a b c}(i:0<=a.held)(g:0<=b.held)(f:0<=c.held):eP (eP a b) c=eP a (eP b c):=by
 by_cases h1:a.held=0
 .simp[eP,h1]
 .by_cases h2:b.held=0
  .grind[eP]
  .by_cases h3:c.held=0
   .grind[eP]
   .have e1:¬a.held+b.held=0:=by omega
    have e2:¬b.held+c.held=0:=AQ;have e:=uJ (R:=λx y=>m3 x y<0) (λ{x y z} h k=>(FW _ _).2 (((FW _ _).1 h).trans ((FW _ _).1 k))) (λ{x z} h y=>(((FW _ _).1 h).cut y).imp (FW _ _).2 (FW _ _).2) a.least b.least c.least;have j2:=uJ (R:=λx y=>0<m3 x y) (λ{x y z} h k=>(FX _ _).2 (((FX _ _).1 k).trans ((FX _ _).1 h))) (λ{x z} h y=>(((FX _ _).1 h).cut y).symm.imp (FX _ _).2 (FX _ _).2) a.greatest b.greatest c.greatest;have f1:eP a b=⟨a.held+b.held,a.sum+b.sum,if m3 b.least a.least<0 then b.least else a.least,if 0<m3 b.greatest a.greatest then b.greatest else a.greatest⟩:=by grind[eP]
    have d:eP b c=⟨b.held+c.held,b.sum+c.sum,if m3 c.least b.least<0 then c.least else b.least,if 0<m3 c.greatest b.greatest then c.greatest else b.greatest⟩:=by grind[eP]
    rw[f1,d];unfold eP;grind
open Conc ConcM bj cV dx b_ e9
def II(aD:dL)(n0:Nat)(R:uaw):Prop:=∀ρ w w' v v',sK n0 ρ w w'->(∀b,aD b->ρ.rel b b)->(∀a b b',ρ.rel a b->ρ.rel a b'->b=b')->au ρ v v'->R w v->R w' v'
def eZ.aCl{n0 ρ w w'}(c:sK n0 ρ w w'){b a}(r:ρ.rel b a){t}(h:eZ w b t):eZ w' a t:=by
 obtain⟨⟨fr,h1⟩,h2⟩:=id h;obtain⟨f,d,g⟩:=c.types _ _ _ _ _ r h1;have e:f=(jD t).toArray:=by
  apply vcm;intro i;by_cases hi:i<(jD t).length
  .have e:=vaq hi;obtain⟨u,aZ,a3⟩:=c.cells ⟨b,i,none⟩ ⟨a,i,none⟩ _ ⟨r,Y,Y⟩ ((h.cell i).trans e);grind[uj,IF,World.cell?]
  grind
 subst e;refine⟨⟨fr,d⟩,λo=>?_⟩;grind[World.frozen?]
section
variable{aD:dL}{n0:Nat}
def FY{ds}(h:∀d∈ds,aD d.c5):II aD n0 (nC ds (λb=>n0<=b)):=by rintro ρ w w' v v' a g h1 hv ⟨gs,e,hcell,ht⟩;obtain⟨gs',r,h2⟩:=L9 h1 a.cells hv (λp c=>g _ (Ma h e p c)) hcell;exact⟨gs',r.fst.trans e,h2,ht.rel r a.inj λp c i f s o=>⟨eZ.aCl a f s,a.new _ _ f o⟩⟩
def IJ{ds:List aG}{ew:dL}{w w':aR}{v:Value}(a:c6 w w')(h:nC ds ew w v):nC ds ew w' v:=by obtain⟨gs,e,hcell,ht⟩:=h;exact⟨gs,e,hcell.keeps (bp.cy a),ht.imp λp b s o=>⟨s.same (a.block _ s.lt),o⟩⟩
end
abbrev w5(bN:pb):Array Value:=#[.I bN.op,.I bN.a,.I 0,.N,.slice bN.ka bN.br bN.kc,.N,.slice bN.bZ bN.cA bN.gc]
structure GP where
 op:Int
 a:Int
 kb:Nat
 cL:Nat
 kc:Nat
 aU:Nat
 bA:Nat
 gc:Nat
 aF:List (Int×Int)
 told:List aG
 iG:aG->Int
 W:Nat
 af:Nat
 n0:Nat
 cW:bg
 ml:bg
 oH:bg
abbrev GP.cd(c:GP):pb:=gy c.op c.a c.kb c.cL 1 c.kc c.aU c.bA c.gc
abbrev GP.bN(c:GP):Array Value:=w5 c.cd
abbrev GP.yo(c:GP)(v:Value):Value:=fI c.cd v
structure GP.k8(c:GP)(w:aR)(_:Value):Prop where
 e5:vo w c.aU c.bA c.aF
 place:∀d∈ee c.told,w.cell? (.a d.c5 d.pa)=some (.I (c.iG d))
def GP.R(c:GP):Nat->aR->Value->Prop
 |0,_,v=>v=.agg #[.I (c.W:Int),.I (c.af:Int)]
 |1,_,v=>v=.agg c.bN
 |2,w,v=>nC c.told (λb=>c.n0<=b) w v
 |3,w,v=>∃bO u,v=.func (.func 96) #[] #[.P bO 0]/\w.cell? (.a bO 0)=some u/\nC c.told (λb=>c.n0<=b) w u
 |4,w,v=>nC (ee c.told) (λb=>c.n0<=b) w v
 |5,w,v=>∃u,v=c.yo u/\nC (ee c.told) (λb=>c.n0<=b) w u
 |6,w,v=>∃u,v=.iface 156 (c.yo u)/\nC (ee c.told) (λb=>c.n0<=b) w u
 |7,w,v=>c.cW.R w v
 |8,w,v=>c.ml.R w v
 |9,w,v=>c.oH.R w v
 |10,w,v=>c.ml.R w v
 |11,w,v=>c.oH.R w v
 |12,w,v=>∃b,v=.P b 0/\ag w b c.bN 35
 |13,w,v=>∃b,v=.P b 0/\ag w b #[.I (c.W:Int),.I (c.af:Int)] 63
 |14,w,v=>nC c.told (λb=>c.n0<=b) w v
 | _,_,_=>False
def Aw:Nat->Nat
 |10=>6
 |11=>7
 |12=>3
 |13=>5
 |14=>8
 |j=>19+j
def sM{i j}(hi:i<15)(a:j<15)(h:i≠j):Aw i≠Aw j:=by have key:∀i,i<15->∀j,j<15->i≠j->Aw i≠Aw j:=AF;grind
def aCm{i}(hi:i<15):Aw i<29:=by have key:∀i,i<15->Aw i<29:=AF;grind
structure GP.I(c:GP)(ar:uap)(a:Act)(w:aR):Prop where
 len:ar.size=12
 size:a.tmps.size=29
 o_:∀j,5<=j->ar.getD j false=true->ar.getD 4 false=true
 FZ:(ar.getD 3 false=true->ar.getD 2 false=true)/\(ar.getD 4 false=true->ar.getD 3 false=true)
 kc:c.k8 w undef
 val:∀j,j<15->(j<12->ar.getD j false=true)->(ar.getD 4 false=true->j≠2/\j≠3/\j≠14)->∃v,a.tmps[Aw j]?=some v/\c.R j w v
structure GP.ew(c:GP)(aD:dL):Prop where
 kb:aD c.kb
 aU:aD c.aU
 ze:c.aU<c.n0
 c5:∀d∈c.told,aD d.c5
 cw:∀d∈c.told,d.c5<c.n0
 tok:∀d∈c.told,mC 40 d
 len:c.told.length<=300
 Wh:c.cW.ok=λ_=>True
 Pf:c.ml.ok=λ_=>True
 Pg:c.oH.ok=λ_=>True
section
variable{c:GP}{aD:dL}{ar:uap}{a:Act}{w w1:aR}
theorem GP.k8.f7(ok:c.ew aD){n0}:II aD n0 c.k8:=λρ w w' v v' g f h1 hv h=>by
 have a:∀(b d:Nat)(z:Int),aD b->w.cell? (.a b d)=some (.I z)->w'.cell? (.a b d)=some (.I z):=λb d z j e=>by obtain⟨v',aZ,a3⟩:=g.cells ⟨b,d,none⟩ ⟨b,d,none⟩ _ ⟨f b j,Y,Y⟩ e;rw[aZ,IF a3 Y]
 exact⟨λi hi=>⟨a _ _ _ ok.aU (h.e5 i hi).1,a _ _ _ ok.aU (h.e5 i hi).2⟩,λd hd=>a _ _ _ (B7 ok.c5 d hd) (h.place d hd)⟩
def GP.k8.keeps{v v'}(h:c.k8 w v)(hk:bp w w1):c.k8 w1 v':=⟨λi hi=>⟨hk _ _ _ (h.e5 i hi).1,hk _ _ _ (h.e5 i hi).2⟩,λd hd=>hk _ _ _ (h.place d hd)⟩
def GP.mV(ok:c.ew aD){ρ}(d:∀b,aD b->ρ.rel b b)(h1:∀a b f,ρ.rel a b->ρ.rel a f->b=f){u v}(h:au ρ (c.yo u) v):∃e,v=c.yo e/\au ρ u e:=by
 obtain⟨t,rfl,k⟩:=uU (l:=[_,_,_,_,_,_,_,_]) h;cases k with
 |cons n k=>cases k with
  |cons m k=>cases k with
   |cons j k=>cases k with
    |cons i k=>cases k with
     |cons s k=>cases k with
      |cons r k=>cases k with
       |cons g k=>cases k with
        |cons w k=>cases k;obtain⟨q,rfl,hq⟩:=rH g;obtain⟨p,rfl,o⟩:=rH s;rw[hP n,hP m,hP j,lx i,lx r,h1 _ _ _ hq (d _ ok.aU),h1 _ _ _ o (d _ ok.kb)];grind
theorem GP.f7(ok:c.ew aD):∀j,II aD c.n0 (c.R j)
 |0=>λρ w w' v v' a _ _ hv h=>ab7 (n0:=c.n0) _ _ ρ w w' v v' a hv h
 |1=>λρ w w' v v' a d h1 hv h=>by
  have h:v=.agg c.bN:=h;subst h;obtain⟨F,rfl,k⟩:=uU (l:=[_,_,_,_,_,_,_]) hv;cases k with
  |cons f k=>cases k with
   |cons o k=>cases k with
    |cons A k=>cases k with
     |cons z k=>cases k with
      |cons D k=>cases k with
       |cons C k=>cases k with
        |cons t k=>cases k;obtain⟨q,rfl,hq⟩:=rH t;obtain⟨p,rfl,B⟩:=rH D;rw[hP f,hP o,hP A,lx z,lx C,h1 _ _ _ hq (d _ ok.aU),h1 _ _ _ B (d _ ok.kb)];rfl
 |2=>FY ok.c5
 |3=>λρ w w' v v' a d h1 hv⟨bO,u,e,h2,h3⟩=>by subst e;obtain⟨g,rfl,r⟩:=ub hv;obtain⟨n,aZ,a3⟩:=a.cells _ _ _ r h2;exact⟨g,n,Y,aZ,FY ok.c5 _ _ _ _ _ a d h1 a3 h3⟩
 |4=>FY (B7 ok.c5)
 |5=>λρ w w' v v' a d h1 hv⟨u,e,h2⟩=>by subst e;obtain⟨n,rfl,s⟩:=GP.mV ok d h1 hv;exact⟨n,Y,FY (B7 ok.c5) _ _ _ _ _ a d h1 s h2⟩
 |6=>λρ w w' v v' a d h1 hv⟨u,e,h2⟩=>by subst e;cases hv with|iface _ k=>obtain⟨n,rfl,s⟩:=GP.mV ok d h1 k;exact⟨n,Y,FY (B7 ok.c5) _ _ _ _ _ a d h1 s h2⟩
 |7=>λρ w w' v v' a _ _ hv h=>c.cW.f7 c.n0 (by rw[ok.Wh];trivial) ρ w w' v v' a hv h
 |8=>λρ w w' v v' a _ _ hv h=>c.ml.f7 c.n0 (by rw[ok.Pf];trivial) ρ w w' v v' a hv h
 |9=>λρ w w' v v' a _ _ hv h=>c.oH.f7 c.n0 (by rw[ok.Pg];trivial) ρ w w' v v' a hv h
 |10=>λρ w w' v v' a _ _ hv h=>c.ml.f7 c.n0 (by rw[ok.Pf];trivial) ρ w w' v v' a hv h
 |11=>λρ w w' v v' a _ _ hv h=>c.oH.f7 c.n0 (by rw[ok.Pg];trivial) ρ w w' v v' a hv h
 |12=>λρ w w' v v' a d h1 hv⟨b,e,h2⟩=>by
  subst e;obtain⟨g,rfl,r⟩:=zg hv;obtain⟨m,f,o⟩:=a.types _ _ _ _ _ r h2;have f:ag w' g m _:=f;have E:∀(i:Nat) u,c.bN[i]?=some u->m[i]?=some u:=λi u hi=>by
   obtain⟨x,aZ,a3⟩:=a.cells ⟨b,i,none⟩ ⟨g,i,none⟩ u ⟨r,Y,Y⟩ ((h2.rules.1 i).trans hi);rw[<-f.rules.1 i,aZ];match i with
   |0=>grind[hP]
   |1=>grind[hP]
   |2=>grind[hP]
   |3=>cases hi;rw[lx a3];rfl
   |4=>cases hi;obtain⟨q,rfl,hq⟩:=rH a3;rw[h1 _ _ _ hq (d _ ok.kb)];rfl
   |5=>cases hi;rw[lx a3];rfl
   |6=>cases hi;obtain⟨q,rfl,hq⟩:=rH a3;rw[h1 _ _ _ hq (d _ ok.aU)];rfl
   |i+7=>simp at hi
  have:m=c.bN:=by apply vcm;grind
  exact⟨g,Y,this▸f⟩
 |13=>λρ w w' v v' a d h1 hv⟨b,e,h2⟩=>by
  subst e;obtain⟨g,rfl,r⟩:=zg hv;obtain⟨m,f,o⟩:=a.types _ _ _ _ _ r h2;have f:ag w' g m _:=f;obtain⟨x,aZ,a3⟩:=a.cells ⟨b,0,none⟩ ⟨g,0,none⟩ _ ⟨r,Y,Y⟩ ((h2.rules.1 0).trans Y);obtain⟨y,q3,q4⟩:=a.cells ⟨b,1,none⟩ ⟨g,1,none⟩ _ ⟨r,Y,Y⟩ ((h2.rules.1 1).trans Y);rw[f.rules.1,hP a3]at aZ;rw[f.rules.1,hP q4]at q3;have:m=#[.I (c.W:Int),.I (c.af:Int)]:=by grind
  exact⟨g,Y,this▸f⟩
 |14=>FY ok.c5
 | _+15=>λ_ _ _ _ _ _ _ _ _ h=>h.elim
theorem GP.jS(ok:c.ew aD)(a:c6 w w1):∀j v,c.R j w v->c.R j w1 v
 |0,_,h=>h
 |1,_,h=>h
 |2,_,h=>IJ a h
 |3,_,⟨bO,u,e,h2,h3⟩=>⟨bO,u,e,bp.cy a _ _ _ h2,IJ a h3⟩
 |4,_,h=>IJ a h
 |5,_,⟨u,e,h2⟩=>⟨u,e,IJ a h2⟩
 |6,_,⟨u,e,h2⟩=>⟨u,e,IJ a h2⟩
 |7,_,h=>c.cW.jS _ _ _ a h
 |8,_,h=>c.ml.jS _ _ _ a h
 |9,_,h=>c.oH.jS _ _ _ a h
 |10,_,h=>c.ml.jS _ _ _ a h
 |11,_,h=>c.oH.jS _ _ _ a h
 |12,_,⟨b,e,h2⟩=>⟨b,e,h2.call a⟩
 |13,_,⟨b,e,h2⟩=>⟨b,e,h2.call a⟩
 |14,_,h=>IJ a h
 | _+15,_,h=>h.elim
def GP.mK(ok:c.ew aD)ar:DI aD c.n0 (c.I ar):=by intro ρ a a' w w' d b h1 e h;refine⟨h.len,by rw[<-e.size];exact h.size,h.o_,h.FZ,GP.k8.f7 ok ρ w w' undef undef d b h1 (.undef _) h.kc,λj m l h4=>?_⟩;obtain⟨v,k,i⟩:=h.val j m l h4;obtain⟨v',g,f⟩:=e.some k;exact⟨v',g,GP.f7 ok j _ _ _ _ _ d b h1 f i⟩
theorem GP.I.put(ok:c.ew aD)(h:c.I ar a w)(g:c6 w w1){i v}(hi:i<12)(h4:i≠4)(o:5<=i->ar.getD 4 false=true)(hv:c.R i w1 v)(h3:i=3->ar.getD 2 false=true:=by omega):c.I (ar.setIfInBounds i true) (a.put (some (Aw i)) v) w1:=by
 have d:i<ar.size:=by rw[h.len];exact hi
 have n:=bp.cy g;have e4:(ar.setIfInBounds i true).getD 4 false=ar.getD 4 false:=by simp[h4]
 refine⟨Cp,Fh,λj b f=>?_,⟨λq=>(lW d).2 (.inr (((lW d).1 q).elim (λe=>h3 e.symm) h.FZ.1)),λq=>by rw[e4]at q;exact(lW d).2 (.inr (h.FZ.2 q))⟩,h.kc.keeps n,λj b f k=>?_⟩
 .rw[e4];rcases(lW d).1 f with rfl|f
  .grind
  .exact h.o_ j b f
 .rw[e4]at k;by_cases e:j=i
  .subst e;exact⟨v,nw (by rw[h.size];exact aCm b),hv⟩
  .obtain⟨u,m,l⟩:=h.val j b (λb=>((lW d).1 (f b)).resolve_left e) k;exact⟨u,(hQ (sM AQ b (Ne.symm e))).trans m,GP.jS ok g j u l⟩
def GP.I.CY(ok:c.ew aD)(h:c.I ar a w){X}(A:∀b,X b->(∃ts,eZ w b ts)/\c.n0<=b)(t:h7 X w.heap.size w w1)(h4:ar.getD 4 false=false)(ja:ar.getD 3 false=true){v}(hv:c.R 4 w1 v):c.I (ar.setIfInBounds 4 true) (a.put (some 23) v) w1:=by
 have f:4<ar.size:=by rw[h.len];decide
 have n:∀{b d:Nat}{u:Value},b<c.n0->w.cell? (.a b d)=some u->w1.cell? (.a b d)=some u:=λ{b d u} g s=>(vba (t.2 b (ef s) λx=>AA)).trans s;have p:=ok.ze;have bO:∀{b:Nat}{cs:dX}{T:uaa},ag w b cs T->T≠203->ag w1 b cs T:=λ{b cs T} h C=>by
  have g:¬X b:=λe=>by obtain⟨⟨ts,⟨fr,q⟩,-⟩,-⟩:=A b e;rw[show w.heap[b]?=some (.cells cs T)from h]at q;grind
  exact(t.2 b h.lt g).trans h
 refine⟨Cp,Fh,λj k r=>(lW f).2 Jv,⟨λ_=>(lW f).2 (.inr (h.FZ.1 ja)),λ_=>(lW f).2 (.inr ja)⟩,⟨λi hi=>⟨n p (h.kc.e5 i hi).1,n p (h.kc.e5 i hi).2⟩,λd hd=>n (B7 (K:=λb=>b<c.n0) ok.cw d hd) (h.kc.place d hd)⟩,λj k r y=>?_⟩;have y:=y ((lW f).2 Jv);by_cases e:j=4
 .subst e;exact⟨v,nw (by rw[h.size];decide),hv⟩
 .have o:j<12->ar.getD j false=true:=λk=>((lW f).1 (r k)).resolve_left e;have B:¬(5<=j/\j<12):=λq=>by have:=h.o_ j q.1 (o q.2);grind
  obtain⟨u,z,l⟩:=h.val j k o (λq=>AA);refine⟨u,(hQ (show 23≠Aw j from sM (i:=4) AF k (Ne.symm e))).trans z,?_⟩;obtain rfl|rfl|rfl|rfl:j=0\/j=1\/j=12\/j=13:=AQ
  .exact l
  .exact l
  .obtain⟨b,e,m⟩:=l;exact⟨b,e,bO m AF⟩
  .obtain⟨b,e,m⟩:=l;exact⟨b,e,bO m AF⟩
end
variable{af:Int}{ca:uag}
section
variable{O:gW}
section
variable{o:Oper}{x y:uam}{ev:uah}{w:aR}{bN:pb}{b:Nat}
def mD(a:o.op=.load 35 x)(d:ev x=.P b 0)(c:ag w b (w5 bN) 35):(execOp ev o).run vfc w=.ok (.value (.agg (w5 bN))) w:=by obtain⟨e,gG,fx⟩:=c.all;clear c;cases o;simp only at a;subst a;go_simp
def mz{W}(a:o.op=.load 63 x)(d:ev x=.P b 0)(c:ag w b #[.I W,.I af] 63):(execOp ev o).run vfc w=.ok (.value (.agg #[.I W,.I af])) w:=by obtain⟨e,gG,fx⟩:=c.all;clear c;cases o;simp only at a;subst a;go_simp
def aCn(a:o.op=.box 35 x)(b:ev x=.agg (w5 bN)):(execOp ev o).run vfc w=.ok (.value (.P w.heap.size 0)) (w.alloc (.cells (w5 bN) 35)):=by cases o;simp only at a;subst a;go_simp
def aCo{W}(a:o.op=.box 63 x)(b:ev x=.agg #[.I W,.I af]):(execOp ev o).run vfc w=.ok (.value (.P w.heap.size 0)) (w.alloc (.cells #[.I W,.I af] 63)):=by cases o;simp only at a;subst a;go_simp
def mh{T:uaa}{b cc:Nat}(c:T=150\/T=156)(a:o.op=.build T #[(0,x),(1,y)])(e:ev x=.agg (w5 bN))(d:ev y=.slice ca b cc):(execOp ev o).run vfc w=.ok (.value (fI bN (.slice ca b cc))) w:=by cases o;simp only at a;subst a;rcases c with rfl|rfl<;>go_simp
def ma{T:uaa}(b:T=150\/T=156)(a:o.op=.makeInterface T x):(execOp ev o).run vfc w=.ok (.value (.iface T (ev x))) w:=by cases o;simp only at a;subst a;rcases b with rfl|rfl<;>go_simp
def l9{u v}(a:o.op=.extract x 0)(b:ev x=.tuple #[u,v]):(execOp ev o).run vfc w=.ok (.value u) w:=by cases o;simp only at a;subst a;go_simp
def lZ{u v}(a:o.op=.extract x 1)(b:ev x=.tuple #[u,v]):(execOp ev o).run vfc w=.ok (.value v) w:=by cases o;simp only at a;subst a;go_simp
def lM{f:uak}{ats:uaq}(a:o.op=.call {callee:=.value (.func f),args:=#[x],argTypes:=ats})(c:∀vs w,Sem.run vfc (callFunc f vs) w=.ok (.enter f vs) w){v:Value}(b:ev x=v)(d:ev (.func f)=.func (.func f) #[] #[]):(execOp ev o).run vfc w=.ok (.enter f #[v]) w:=by cases o;simp only at a;subst a;simp[execOp,resolve,Deferred.ofValue,invoke,b,d,c]
end
def aCp(a:dX)(w:aR):Sem.run vfc (callFunc 56 a) w=.ok (.enter 56 a) w:=cR (Xm true) AD a w
def aCq(a:dX)(w:aR):Sem.run vfc (callFunc 96 a) w=.ok (.enter 96 a) w:=cR (Xv true) AD a w
def Mg(F:Func):Code:=.seq (.region 2 (az F 2) true) .ret
def XP(F:Func):Code:=.seq (.region 0 (az F 0) false) (.seq (.region 1 (az F 1) false) (Mg F))
theorem XQ:f37.body=some (XP f37):=by kernel_rfl
def lD:gE prog true f37=true:=by decide+kernel
theorem nC.slice{ds ew w v}(h:nC ds ew w v):∃bZ n cap,v=.slice bZ n cap:=by obtain⟨gs,-,⟨bZ,cap,e,-⟩,-⟩:=h;grind
def F0(gs:List cY)(t b:Nat):Prop:=∃p∈gs.take t,p.2.1=b
def aCr{gs}(a:gs.Pairwise λp q=>p.2.1≠q.2.1){t}(h:t<gs.length):F0 gs (t+1) gs[t].2.1/\¬F0 gs t gs[t].2.1:=by
 constructor
 .exact⟨gs[t],List.mem_iff_getElem.2 ⟨t,AA,by rw[List.getElem_take]⟩,Y⟩
 .rintro⟨p,b,e⟩;grind[List.getElem_of_mem,List.pairwise_iff_getElem]
def aCs{c:GP}{aD}(ok:c.ew aD){w bO u}(q:w.cell? (.a bO 0)=some u)(hg:nC c.told (λb=>c.n0<=b) w u):
 ∃X:Nat->Prop,(∀b,X b->(∃ts,eZ w b ts)/\c.n0<=b)/\Calls vfc 56 #[.func (.func 96) #[] #[.P bO 0]] w λe w'=>∃v gs,e=.returned v/\t7 X w.heap.size w' v (ee c.told) gs/\h7 X w.heap.size w w':=by
 obtain⟨gs,k,hcell,ht⟩:=hg;have j:∀t b,F0 gs t b->(∃ts,eZ w b ts/\ts.length=5)/\c.n0<=b:=by rintro t b ⟨p,f,rfl⟩;have i:=List.mem_of_mem_take f;obtain⟨d,l⟩:=ht.1 p i;exact⟨⟨_,d,(ok.tok p.1 (k▸vdk i)).l8⟩,l⟩
 have hlen:gs.length=c.told.length:=by rw[<-k,List.length_map]
 have z:=ok.len;refine⟨F0 gs c.told.length,λb a=>⟨(j _ b a).1.imp λts h=>h.1,(j _ b a).2⟩,?_⟩;refine sC (Row:=Xw gs (F0 gs) w.heap.size w) c.told (F0 gs) (λt b⟨p,f,e⟩=>⟨p,List.take_subset_take_left gs (vct t) f,e⟩) w (λt m W x A r=>?_) aCq (λn=>by
  rw[<-hlen];exact se gs u bO (F0 gs) (λt b⟨p,f,e⟩=>⟨p,List.take_subset_take_left gs (vct t) f,e⟩) w hcell (λg b h1 t _ a=>by
   obtain⟨⟨ts,hs,s⟩,-⟩:=j t g a;have h2:=hs.cell 1;rw[h1]at h2;match ts,s with
   |y::ts,_=>cases h2) q AQ) (c:=40) ok.tok AQ AQ
 obtain⟨h,rfl,a⟩:=r;have i:=vae h;obtain⟨d,l⟩:=ht.1 _ i;obtain⟨b1,o⟩:=aCr ht.2 h;refine⟨gs[t],?_,Y,d.same (a.2 _ d.lt o),.inr ⟨d.lt,b1,o⟩⟩;rw[<-k,vbf,vaq h];rfl
def aCt{c:GP}{aD}(ok:c.ew aD)(l:∀w u,c.cW.R w u->∃x y,u=.tuple #[x,y]/\c.ml.R w x/\c.oH.R w y)(ar:uap)a W i o(h:c.I ar a W)(hd:a.defers=[])(F:c.n0<=W.heap.size)(P:i≠7)(Q:ar.getD i true=false)(d:(az f37 2)[i]?=some o)(K:∀e∈o.after,Region.binds .any e=true->ar.getD e.on false=true):
 wpOps vfc (az f37 2) (jg λa1 w1=>a1.defers=[]/\c.I (ar.setIfInBounds i true) a1 w1/\Below c.n0 W w1) [i] a W:=by
 have dep:∀j,xY (az f37 2) i j=true->ar.getD j false=true:=λj N=>by obtain⟨o',h1,e,h2,h3,rfl⟩:=Ks N;rw[d]at h1;cases h1;exact K e h2 h3
 have m:ar.getD i false=false:=AA;have t:=d;rw[fE (az f37 2)]at t;have O:i<12:=(vao.1 t).1;have g:∀(s:Nat) v,(a.put (some s) v).defers=[]:=λs v=>(put_defers _ _ _).trans hd;have z:i=0\/i=1\/i=2\/i=3\/i=4\/i=5\/i=6\/i=8\/i=9\/i=10\/i=11:=AQ;rcases z with rfl|rfl|rfl|rfl|rfl|rfl|rfl|rfl|rfl|rfl|rfl<;>(obtain rfl:=van t)
 .obtain⟨v,aZ,b,rfl,r⟩:=h.val 13 AF (λh=>absurd h AF) K1;exact nR d Y Y (mz Y (ej aZ) r) ⟨g _ _,h.put ok (i:=0) (vaa _ _) AF AF (λh=>absurd h AF) Y,vaa _ _⟩
 .obtain⟨v,aZ,b,rfl,r⟩:=h.val 12 AF (λh=>absurd h AF) K1;exact nR d Y Y (mD Y (ej aZ) r) ⟨g _ _,h.put ok (i:=1) (vaa _ _) AF AF (λh=>absurd h AF) Y,vaa _ _⟩
 .have h4:ar.getD 4 false=false:=by cases e:ar.getD 4 false with|false=>rfl|true=>rw[h.FZ.1 (h.FZ.2 e)]at m;cases m
  obtain⟨v,aZ,hv⟩:=h.val 14 AF (λh=>absurd h AF) (λq=>AA);exact nR (v:=v) d Y Y (by simp[execOp,ej (show a.tmps[8]?=some v from aZ)]) ⟨g _ _,h.put ok (i:=2) (vaa _ _) AF AF (λh=>absurd h AF) hv,vaa _ _⟩
 .have h4:ar.getD 4 false=false:=by cases e:ar.getD 4 false with|false=>rfl|true=>rw[h.FZ.2 e]at m;cases m
  obtain⟨v,aZ,A⟩:=h.val 2 AF (λ_=>dep 2 AD) (λq=>AA);obtain⟨bZ,cA,cap,rfl⟩:=nC.slice A;exact UH d Y Y (f:=57) (args:=#[.slice bZ cA cap]) (lM Y (aBi true) (ej aZ) Y) ((rB true _ _ _ W).mono λe w'⟨h1,h2,h3⟩=>⟨_,h1,g _ _,h.put ok (i:=3) h3 AF AF (λh=>absurd h AF) ⟨_,_,Y,h2.rules.1 0,GP.jS ok h3 2 _ A⟩ (λ_=>dep 2 AD),h3.mono F⟩)
 .obtain⟨v,aZ,bO,u,rfl,M,hg⟩:=h.val 3 AF (λ_=>dep 3 AD) (λq=>AA);obtain⟨X,H,L⟩:=aCs ok M hg;refine UH d Y Y (f:=56) (args:=#[.func (.func 96) #[] #[.P bO 0]]) (lM Y aCp (ej aZ) Y) (L.mono λe w'⟨v,gs,h1,h2,h3⟩=>⟨_,h1,g _ _,?_,?_⟩)
  .exact h.CY ok H h3 m (dep 3 AD) ⟨gs,h2.ds,h2.cells,λp E=>⟨h2.i_ p E,(h2.old p E).elim (λq=>vad F q) λq=>(H _ q).2⟩,h2.ne⟩
  .exact⟨h3.1.1,h3.1.2,h3.1.3,h3.1.4,λb r=>h3.2 b AQ λq=>AA⟩
 .have h4:=dep 4 AD;obtain⟨v,aZ,hv⟩:=h.val 1 AF (λ_=>dep 1 AD) K1;obtain⟨v',a3,n⟩:=h.val 4 AF (λ_=>h4) K1;obtain⟨bZ,cA,cap,rfl⟩:=nC.slice n;have hv:v=.agg c.bN:=hv;subst hv;exact nR d Y Y (mh Jz Y (ej aZ) (ej a3)) ⟨g _ _,h.put ok (i:=5) (vaa _ _) AF AF (λ_=>h4) ⟨_,Y,n⟩,vaa _ _⟩
 .have I:=dep 5 AD;obtain⟨v,aZ,u,rfl,n⟩:=h.val 5 AF (λ_=>I) K1;refine nR d Y Y (ma Jz Y) ⟨g _ _,h.put ok (i:=6) (vaa _ _) AF AF (λ_=>h.o_ 5 AF I) ⟨u,?_,n⟩,vaa _ _⟩;rw[ej (show a.tmps[24]?=some _ from aZ)]
 .have k:=dep 7 AD;obtain⟨v,aZ,hv⟩:=h.val 7 AF (λ_=>k) K1;obtain⟨x,y,rfl,D,C⟩:=l _ _ hv;exact nR d Y Y (l9 Y (ej aZ)) ⟨g _ _,h.put ok (i:=8) (vaa _ _) AF AF (λ_=>h.o_ 7 AF k) D,vaa _ _⟩
 .have k:=dep 7 AD;obtain⟨v,aZ,hv⟩:=h.val 7 AF (λ_=>k) K1;obtain⟨x,y,rfl,D,C⟩:=l _ _ hv;exact nR d Y Y (lZ Y (ej aZ)) ⟨g _ _,h.put ok (i:=9) (vaa _ _) AF AF (λ_=>h.o_ 7 AF k) C,vaa _ _⟩
 .have B:=dep 8 AD;obtain⟨v,aZ,hv⟩:=h.val 8 AF (λ_=>B) K1;exact nR (v:=v) d Y Y (by simp[execOp,ej (show a.tmps[27]?=some v from aZ)]) ⟨g _ _,h.put ok (i:=10) (vaa _ _) AF AF (λ_=>h.o_ 8 AF B) hv,vaa _ _⟩
 .have J:=dep 9 AD;obtain⟨v,aZ,hv⟩:=h.val 9 AF (λ_=>J) K1;exact nR (v:=v) d Y Y (by simp[execOp,ej (show a.tmps[28]?=some v from aZ)]) ⟨g _ _,h.put ok (i:=11) (vaa _ _) AF AF (λ_=>h.o_ 9 AF J) hv,vaa _ _⟩
end
section
variable{O:gW}
section
variable{aD:dL}{n0 N:Nat}{fs:List (Nat×(aR->Value->Prop))}{a:Act}{w:aR}
def Rb(h:∀p∈fs,II aD n0 p.2):DI aD n0 (j6 N fs):=by rintro ρ a a' w w' j i h1 c ⟨hs,hv⟩;refine⟨by rw[<-c.size];exact hs,λp b=>?_⟩;obtain⟨v,g,f⟩:=hv p b;obtain⟨v',e,d⟩:=c.some g;exact⟨v',e,h p b _ _ _ _ _ j i h1 d f⟩
def XR(h:a.tmps.size=N):j6 N [] a w:=⟨h,λp b=>by cases b⟩
def t8{s:Nat}{R:uaw}{v:Value}(e:a.tmps[s]?=some v)(c:R w v)(h:j6 N fs a w):j6 N ((s,R)::fs) a w:=⟨h.1,λp b=>by
 rcases vaw.1 b with rfl|b
 .grind
 .exact h.2 p b⟩
def Mh{x}(c:au (b7 aD) x x):II aD n0 (λ_ v=>v=x):=λρ w w' v v' e d h1 hv h=>by subst h;exact(Oc h1 ((x7 (M':=bL) c).mono (show Ren.le (dp aD bL) ρ from⟨λa b r=>by obtain⟨rfl,f⟩:=r;grind,λb h=>h.elim⟩)) hv).symm
end
def GP.iP(c:GP)(w:aR)(u:Value):Prop:=∃v,u=.tuple #[v,.N]/\nC c.told (λb=>c.n0<=b) w v
theorem GP.iP.f7{c:GP}{aD}(ok:c.ew aD):II aD c.n0 c.iP:=λρ w w' v v' f d h1 hv⟨x,e,h⟩=>by
 subst e;obtain⟨g,rfl,k⟩:=Hh (l:=[_,_]) hv;cases k with
 |cons b k=>cases k with
  |cons a k=>cases k;rw[lx a];exact⟨_,Y,FY ok.c5 _ _ _ _ _ f d h1 b h⟩
def aCu{ds ew a w u}(h:nC ds ew w u)(hi:∀b,ew b->a b):nC ds a w u:=by obtain⟨gs,e,c,ht⟩:=h;exact⟨gs,e,c,ht.imp λp d s o=>⟨s,hi _ o⟩⟩
section
variable{N:Nat}{K:b6}{o:Oper}{x y:uam}{bN:pb}
def aCv(b:o.op=.box 35 x)(a:bw K x (ig (.agg (w5 bN)))):bU vfc N K o (O2 0 (w5 bN) 35):=fe a λev w h=>⟨_,_,aCn b h,⟨_,Y,vax _,ag.new _ _ _⟩,(vaa _ w).alloc (vac _) _⟩
def aCw{W}(b:o.op=.box 63 x)(a:bw K x (ig (.agg #[.I W,.I af]))):bU vfc N K o (O2 0 #[.I W,.I af] 63):=fe a λev w h=>⟨_,_,aCo b h,⟨_,Y,vax _,ag.new _ _ _⟩,(vaa _ w).alloc (vac _) _⟩
def aCx{B}(c:o.op=.load 35 x)(a:bw K x (O2 B (w5 bN) 35)):bU vfc N K o (ig (.agg (w5 bN))):=fe a λev w⟨b,e,_,d⟩=>⟨_,w,mD c e d,Y,vaa _ _⟩
def aCy{B W}(c:o.op=.load 63 x)(a:bw K x (O2 B #[.I W,.I af] 63)):bU vfc N K o (ig (.agg #[.I W,.I af])):=fe a λev w⟨b,e,_,d⟩=>⟨_,w,mz c e d,Y,vaa _ _⟩
def aCz{a cc}(d:o.op=.build 150 #[(0,x),(1,y)])(c:bw K x (ig (.agg (w5 bN))))(b:bw K y (ig (.slice ca a cc))):bU vfc N K o (ig (fI bN (.slice ca a cc))):=sR c b λev w h e=>⟨_,w,mh (.inl Y) d h e,Y,vaa _ _⟩
def aCA{v}(b:o.op=.makeInterface 150 x)(a:bw K x (ig v)):bU vfc N K o (ig (.iface 150 v)):=fe a λev w h=>⟨_,w,ma (.inl Y) b,vcd (Value.iface _) h,vaa _ _⟩
def aCB{u v}(b:o.op=.extract x 0)(a:bw K x (ig (.tuple #[u,v]))):bU vfc N K o (ig u):=fe a λev w h=>⟨_,w,l9 b h,Y,vaa _ _⟩
def aCC{u v}(b:o.op=.extract x 1)(a:bw K x (ig (.tuple #[u,v]))):bU vfc N K o (ig v):=fe a λev w h=>⟨_,w,lZ b h,Y,vaa _ _⟩
end
abbrev GP.s9(c:GP):Value:=.agg #[.I (c.W:Int),.I (c.af:Int)]
abbrev GP.l0(c:GP)(aW:Value):List (Nat×(aR->Value->Prop)):=[(0,λ_ v=>v=.agg c.bN),(1,λ_ v=>v=aW),(2,λ_ v=>v=c.s9),(0,c.k8)]
abbrev GP.l1(c:GP)(aW:Value):List (Nat×(aR->Value->Prop)):=[(3,c.R 12),(5,c.R 13),(11,λ_ v=>v=c.s9),(15,λ_ v=>v=.iface 150 (fI c.cd aW)),(0,c.k8)]
abbrev GP.l2(c:GP):List (Nat×(aR->Value->Prop)):=[(3,c.R 12),(5,c.R 13),(16,c.iP),(0,c.k8)]
section
variable{c:GP}{aD:dL}{a:Act}{W:aR}
def aCD{e cc}(hd:a.defers=[])(m:c.n0<=W.heap.size)(h:j6 29 (c.l0 (.slice ca e cc)) a W):
 bI vfc [.code (XP f37)] (.R (az f37 1) (List.range' 5 6)::[.code (Mg f37)]) (λa1 w1=>a1.defers=[]/\j6 29 (c.l1 (.slice ca e cc)) a1 w1/\Below c.n0 W w1) a W:=by
 obtain⟨v0,q0,rfl⟩:=h.2 (0,λ_ v=>v=.agg c.bN) AS;obtain⟨v1,aZ,rfl⟩:=h.2 (1,λ_ v=>v=.slice ca e cc) AS;obtain⟨v2,a3,rfl⟩:=h.2 (2,λ_ v=>v=c.s9) AS;obtain⟨v3,q3,hk⟩:=h.2 (0,c.k8) AS;have o:ak 29 (bh [(0,ig (.agg c.bN)),(1,ig (.slice ca e cc)),(2,ig c.s9)]) a W:=en q0 Y<|en aZ Y<|en a3 Y<|wL h.1;unfold XP;refine bC ?_;rw[fE (az f37 0)];refine dl o (ap Y (aCv Y Y)<|ap Y (aCw Y Y)<|ap Y (dO (F:=sU) Y Jg)<|ap Y (dO (F:=sU) Y Jg)<|rfl) λa1 w1 l d1 b1=>bC (uR ?_);rw[fE (az f37 1)];refine(show bI _ (.R _ (List.range' 0 (5+6))::_) _ _ _ _ from vd l (ap Y (aCy Y Y)<|ap Y (aCx Y Y)<|ap Y Jc<|ap Y (aCz Y Y Y)<|ap Y (aCA Y Y)<|rfl) AF λu t d p i=>lV ⟨p.trans (d1.trans hd),?_,?_⟩)
 .obtain⟨u3,fx,b,rfl,-,n⟩:=d.has 3 _ Y;obtain⟨u5,wN,q,rfl,-,k⟩:=d.has 5 _ Y;obtain⟨u11,g,j⟩:=d.has 11 _ Y;obtain⟨u15,f,r⟩:=d.has 15 _ Y;obtain⟨u0,s,-⟩:=d.has 0 _ Y;exact t8 fx ⟨b,Y,n⟩<|t8 wN ⟨q,Y,k⟩<|t8 g j<|t8 f r<|t8 s (GP.k8.keeps (v:=u0) (GP.k8.keeps (v:=v3) (v':=u0) hk (bp.cy b1)) (bp.cy i))<|XR d.size
 .exact(b1.trans (i.mono b1.size)).mono m
def aCG(ok:c.ew aD)(hd:a.defers=[])(k:c.n0<=W.heap.size)(h:j6 29 c.l2 a W):
 bI vfc (.R (az f37 1) (List.range' 6 5)::[.code (Mg f37)]) (.code (.region 2 (az f37 2) true)::[.code .ret]) (λa1 w1=>a1.defers=[]/\c.I (Array.replicate 12 false) a1 w1/\Below c.n0 W w1) a W:=by
 obtain⟨v3,q3,h3⟩:=h.2 (3,c.R 12) AS;obtain⟨f,i,m⟩:=h.2 (5,c.R 13) AS;obtain⟨v16,d,v,rfl,hg⟩:=h.2 (16,c.iP) AS;obtain⟨v0,q0,hk⟩:=h.2 (0,c.k8) AS;have l:ak 29 (bh [(3,ig v3),(5,ig f),(16,ig (.tuple #[v,.N])),(0,ig v0)]) a W:=en q3 Y<|en i Y<|en d Y<|en q0 Y<|wL h.1;unfold Mg;rw[fE (az f37 1)];refine(show bI _ (.R _ (List.range' 6 (5+0))::_) _ _ _ _ from vd l (ap Y Jc<|ap Y (aCB Y Y)<|ap Y (aCC Y Y)<|ap Y Jt<|ap Y Jt<|rfl) AF λa1 w1 b d1 b1=>xW (bC (lV ⟨d1.trans hd,?_,b1.mono k⟩)));obtain⟨u3,fx,rfl⟩:=b.has 3 _ Y;obtain⟨u5,wN,rfl⟩:=b.has 5 _ Y;obtain⟨u8,e,rfl⟩:=b.has 8 _ Y;have g:c.k8 w1 undef:=GP.k8.keeps (v:=v0) hk (bp.cy b1);have p:∀j,(Array.replicate 12 false).getD j false=false:=λj=>by grind[Ol]
 refine⟨AS,b.size,λj _ q=>AA,⟨λq=>AA,λq=>AA⟩,g,λj o n _=>?_⟩;have r:¬j<12:=λq=>by grind
 obtain rfl|rfl|rfl:j=12\/j=13\/j=14:=AQ
 .exact⟨_,fx,GP.jS ok b1 12 _ h3⟩
 .exact⟨_,wN,GP.jS ok b1 13 _ m⟩
 .exact⟨_,e,GP.jS ok b1 14 _ hg⟩
end
def aCI:∃o ats,(az f37 1)[5]?=some o/\o.op=.call {callee:=.value (.func 55),args:=#[.tmp 11,.tmp 15],argTypes:=ats}/\o.guard=none/\o.dst=some 16:=⟨_,_,Y,Y,Y,Y⟩
def aCJ:∃o ats,(az f37 2)[7]?=some o/\o.op=.call {callee:=.value (.func 35),args:=#[.tmp 19,.tmp 25],argTypes:=ats}/\o.guard=none/\o.dst=some 26:=⟨_,_,Y,Y,Y,Y⟩
def aCK{c:GP}{Post M w}(ok:c.ew M)(mG:c.n0=w.heap.size){cb co cc xs vs G br}(D:br.length=1)(aP:c.aF.length=5)(L:aJ (b7 M) #[.agg c.bN,.slice ca xs.length cc,c.s9] #[.agg c.bN,.slice ca xs.length cc,c.s9])(hin:0<xs.length->ca=some ⟨cb,co,none⟩/\p7 w xs vs G br c.aF c.kb c.cL cb co c.aU c.bA/\M cb)(sz:c.k8 w undef)(U:xs.length<=cc)(lu:∀i,i<xs.length->M (G i).c5)(hS:xs.length<=300)(fQ:0<c.af)(hm:c.af<=64)(nS:0<c.W)(m:c.W<=16)(hok:∀i,i<xs.length->mC 1 (G i))(Rc:c.told=jj (lH G c.af xs.length) ((xs.length+c.af-1) / c.af))(S:∀w u,c.cW.R w u->∃x y,u=.tuple #[x,y]/\c.ml.R w x/\c.oH.R w y)(yM:∀w x y,c.ml.R w x->c.oH.R w y->c.cW.R w (.tuple #[x,y]))(kS:∀(M:dL) w u,fG (dr prog) M (ju M) w->(∀g,g<=prog.globals.size->M g)->M c.kb->M c.aU->(∀d∈ee c.told,M d.c5)->c.k8 w undef->nC (ee c.told) M w u->au (b7 M) (c.yo u) (c.yo u)->fZ O prog Post 35 #[c.s9,.iface 156 (c.yo u)] M w 1 (λu _ w'=>c.cW.R w' u/\dy M w w')):
 fZ O prog Post 37 #[.agg c.bN,.slice ca xs.length cc,c.s9] M w 2 (λu _ w'=>c.cW.R w' u/\dy M w w'):=by
 intro n Shun hn aN gX aI aC aL aO aK csZ hc di;have K:jQ prog 37:=Bm func37 lD XQ;rw[vcj func37 XQ];have cG:=L.get 0 _ _ Y Y;have a1:=L.get 1 _ _ Y Y;have a6:=L.get 2 _ _ Y Y;have BC:au (b7 M) (fI c.cd (.slice ca xs.length cc)) (fI c.cd (.slice ca xs.length cc)):=by
  refine .qT (mw λv hv=>?_);simp only[vaw,vbp,vdf]at hv;rcases hv with rfl|rfl|rfl|rfl|rfl|rfl|rfl|rfl
  .exact .int _ _
  .exact .int _ _
  .exact .int _ _
  .exact .iH _ _
  .exact .slice _ _ ⟨⟨Y,ok.kb⟩,Y,Y⟩
  .exact .iH _ _
  .exact .slice _ _ ⟨⟨Y,ok.aU⟩,Y,Y⟩
  grind
 have H:=Held.start (n0:=c.n0) aN AQ (a:=⟨#[.agg c.bN,.slice ca xs.length cc,c.s9]++Array.replicate 26 undef,[]⟩) (L.append (Fg _ _)) Y;refine Oh nx K H (k':=.R (az f37 1) (List.range' 5 6)::[.code (Mg f37)]) AD AD (I:=j6 29 (c.l0 (.slice ca xs.length cc))) (J:=j6 29 (c.l1 (.slice ca xs.length cc))) (Rb λp f=>?_) (Rb λp f=>?_) (t8 KI Y<|t8 KI Y<|t8 KI Y<|t8 (v:=.agg c.bN) KI (GP.k8.keeps (v:=undef) sz Jf)<|XR AS) (λW m hI=>aCD Y m hI) λZ ny q l E=>?_
 .simp only[vaw,vbp,vdf]at f;rcases f with rfl|rfl|rfl|rfl
  .exact Mh cG
  .exact Mh a1
  .exact Mh a6
  .exact GP.k8.f7 ok
 .simp only[vaw,vbp,vdf]at f;rcases f with rfl|rfl|rfl|rfl|rfl
  .exact GP.f7 ok 12
  .exact GP.f7 ok 13
  .exact Mh a6
  .exact Mh (.iface _ BC)
  .exact GP.k8.f7 ok
 obtain⟨o,ats,ho,T,c_,iv⟩:=aCI;obtain⟨v11,aA1,N⟩:=E.2 (11,λ_ v=>v=c.s9) AS;obtain⟨v15,aK0,Mi⟩:=E.2 (15,λ_ v=>v=.iface 150 (fI c.cd (.slice ca xs.length cc))) AS;have N:v11=c.s9:=N;have Mi:v15=_:=Mi;subst N Mi;have jr:dy M w q:=λb cc e z A Q=>l.keep b cc e z ⟨A,AA⟩ Q;have aCL:0<xs.length->ca=some ⟨cb,co,none⟩/\p7 q xs vs G br c.aF c.kb c.cL cb co c.aU c.bA/\M cb:=λh0=>by obtain⟨e,hin,nH⟩:=hin h0;refine⟨e,p7.same hin (HR (C':=da prog false) (M':=bL) aN.cl) (λa a' v r hv=>?_) nH ok.aU ok.kb,nH⟩;obtain⟨⟨h1,hd⟩,h2,h3⟩:=r;obtain⟨x,y,z⟩:=a;obtain⟨x',y',z'⟩:=a';simp only at h1 h2 h3 hd;subst h1 h2 h3;exact⟨v,jr.cell hd hv,x7 (aN.cell hd hv)⟩
 refine UE (i:=5) (rest:=List.range' 6 5) (d:=1) T func55 AB Y AQ K l AD ho c_ ⟨iv,by rw[E.1];decide⟩ (I:=j6 29 [(3,c.R 12),(5,c.R 13),(0,c.k8)]) (J:=j6 29 c.l2) (iP:=c.iP) (Rb λp f=>?_) ⟨E.1,λp f=>E.2 p AA⟩ (λk'=>?_) (λu w4 h1 h2=>?_) λcS aeK w4 qb aK1 BY vf Ph=>?_
 .simp only[vaw,vbp,vdf]at f;grind[GP.f7,GP.k8.f7]
 .rw[show(#[Operand.tmp 11,.tmp 15].map Z.eval)=#[c.s9,.iface 150 (fI c.cd (.slice ca xs.length cc))]from by grind[ej]];intro P X oY mr f1 b1 o1 i1 r1 k1 cs1 V aCM;have hg:=aCc (O:=O) (Post:=Post) (op:=c.op) (a:=c.a) (xs:=xs) (vs:=vs) (G:=G) (br:=br) (aF:=c.aF) (kb:=c.kb) (cL:=c.cL) (cb:=cb) (co:=co) (aU:=c.aU) (bA:=c.bA) (kc:=c.kc) (cc:=cc) (gc:=c.gc) (af:=c.af) (W:=c.W) (ca:=ca) AQ aP (l.fC.at k').cl l.fC.ze (λh0=>by
   obtain⟨e,h1,h2⟩:=aCL h0;exact⟨e,p7.keeps (w':=q.at k') h1 Jf,l.sub _ h2⟩) (l.sub _ ok.aU) (l.sub _ ok.kb) U (by rw[D];exact BC.mono (tJ l.sub)) (λi hi=>l.sub _ (lu i hi)) hS fQ hm nS m hok P X oY mr f1 b1 o1 i1 r1 k1 cs1 V
  rw[D]at hg;refine hg λu M' w' aCN XS e1 e2 e3 e4 eE⟨v,e,hg,hs⟩=>aCM u M' w' aCN XS e1 e2 e3 e4 eE ⟨⟨v,e,?_⟩,dy.J3 hs⟩;rw[Rc];exact aCu hg λb A=>vad l.size A.2
 .have f:∀s v,s≠16->Z.tmps[s]?=some v->(Z.put (some 16) u).tmps[s]?=some v:=λs v hs e=>(hQ (Ne.symm hs)).trans e;obtain⟨v3,q3,r3⟩:=h1.2 (3,c.R 12) AS;obtain⟨v5,q5,nL⟩:=h1.2 (5,c.R 13) AS;obtain⟨v0,q0,r0⟩:=h1.2 (0,c.k8) AS;exact t8 (f _ _ AF q3) r3<|t8 (f _ _ AF q5) nL<|t8 (nw (by rw[h1.1];decide)) h2<|t8 (f _ _ AF q0) r0<|XR (by rw[jR];exact h1.1)
 refine Oh nx K vf (k':=.code (.region 2 (az f37 2) true)::[.code .ret]) AD AD (I:=j6 29 c.l2) (J:=c.I (Array.replicate 12 false)) (Rb λp f=>?_) (GP.mK ok _) Ph (λW m hI=>aCG ok vf.defers m hI) λfO aK2 iK pW aK3=>?_
 .simp only[vaw,vbp,vdf]at f;grind[GP.f7,GP.iP.f7,GP.k8.f7]
 obtain⟨o2,aK4,qa,aCO,aCP,aCQ⟩:=aCJ;have hsz:(az f37 2).size=12:=AD;have C:∀(ar:uap),(∀e∈o2.after,Region.binds .any e=true->ar.getD e.on false=true)->∀j,xY (az f37 2) 7 j=true->ar.getD j false=true:=λar F j hj=>by grind[Ks]
 refine ab4 nx mixed K AD 7 qa aCO func35 AB Y aCP (d:=1) AQ (I:=c.I) (GP.mK ok) aCQ (λar a w h=>by rw[h.size];decide) (iP:=c.cW.R) (λar a w h=>by rw[hsz];exact h.len) pW AA (aCt ok S) (λar a M w Shun H h iL F=>?_) (λar a w u h iL F R=>?_) (λar a M' w' P X h hr oY fD=>?_)
 .have d:=C ar F;obtain⟨v,aZ,hv⟩:=h.val 0 AF (λ_=>d 0 AD) K1;obtain⟨v',a3,u,rfl,hf⟩:=h.val 6 AF (λ_=>d 6 AD) K1;have hv:v=c.s9:=hv;subst hv;rw[show(#[Operand.tmp 19,.tmp 25].map a.eval)=#[c.s9,.iface 156 (c.yo u)]from by simp[ej (show a.tmps[19]?=some _ from aZ),ej (show a.tmps[25]?=some _ from a3)]];have B:au (b7 M) (c.yo u) (c.yo u):=by have:=H.all.get _ _ _ a3 a3;cases this with|iface _ k=>exact k
  have R:au (b7 M) u u:=by cases B with|agg _ hg=>exact hg 7 _ _ Y Y
  refine kS M w u H.fC.cl H.fC.ze (H.sub _ ok.kb) (H.sub _ ok.aU) (λd hd=>H.sub _ (B7 ok.c5 d hd)) h.kc ?_ B;obtain⟨gs,e,hcell,ht⟩:=hf;refine⟨gs,e,hcell,λp f=>⟨(ht.1 p f).1,?_⟩,ht.2⟩;obtain⟨t,aCR,rfl⟩:=vbj f;obtain⟨bZ,cap,rfl,-,h2⟩:=hcell;obtain⟨g,rfl,h3⟩:=h2 AQ;have aCS:M g:=by cases R with|slice _ _ r=>exact r.1.2
  have:=H.fC.cell (a:=⟨g,t*18+17,none⟩) aCS ((h3 t aCR 17 AF).trans Y);cases this with|slice _ _ r=>exact r.1.2
 .exact h.put ok (i:=7) (vaa _ _) AF AF (λ_=>C ar F 4 AD) R
 .have hd:=UB (ops:=az f37 2) AD (by rw[hsz];exact h.len) hr;obtain⟨u6,Lg,ut⟩:=h.val 10 AF (λ_=>hd 10 AA) K1;obtain⟨u7,sW,Mj⟩:=h.val 11 AF (λ_=>hd 11 AA) K1;have og:ak 29 (bh [(6,c.ml),(7,c.oH)]) a w':=en Lg ut<|en sW Mj<|wL h.size;refine Kp nx func37 lD XQ fD AD hc (I:=ak 29 (bh [(6,c.ml),(7,c.oH)])) (iC:=c.cW.R) (kZ _ (jT ⟨by rw[ok.Pf];trivial,by rw[ok.Pg];trivial,NE⟩)) (c.cW.f7 _ (by rw[ok.Wh];trivial)) og (λW m hI=>?_) λu ny q h1 h2 h3 h4 aP bE=>di u ny q P X AQ h1 h2 h3 h4 ⟨bE,λb c e z A Q=>aP b c e z ⟨A,AA⟩ Q⟩;obtain⟨BG,Aa,WK⟩:=hI.has 6 _ Y;obtain⟨wP,H3,aCT⟩:=hI.has 7 _ Y;refine DH (xW (lV (Og fD.defers (v:=.tuple #[BG,wP]) ?_ ⟨yM _ _ _ WK aCT,vaa _ _⟩)));rw[(G9 AD _ _).1];simp[vQ,uI,results37,vcb,Aa,H3]
end
section
variable{O:gW}
def k6{w v z}(h:h5 w v [z]):∃b o k,v=.S b o 1 k/\w.cell? (.a b o)=some (.I z):=by obtain⟨c,k,rfl,-,a⟩:=h;simp_all[sg]
theorem Mk{M b o n k v}(h:au (b7 M) (.S b o n k) v):M b:=by cases h with|slice _ _ r=>obtain⟨⟨h1,h2⟩,-⟩:=r;grind
structure F1(rs:List cP)(aF:g7):Prop where
 place:∀i(h:i<rs.length),rs[i].1=[(i:Int)]
 four:∀r∈rs,r.2.length=4
 small:∀r∈rs,∀v∈r.2,FV v
 len:rs.length<=40
 l8:aF.length=5
 zc:∀a∈aF,a.2= -1\/a.2=0\/a.2=1\/a.2=2\/a.2=3
def kT rs{i}(h:i<rs.length):B8 rs i=rs[i].2:=by grind
theorem kO:FV du:=⟨AF,AF,AF⟩
def aCU{vals:List bz}(h:∀v∈vals,FV v)k:FV (vals.getD k du):=by grind[kO]
theorem Ml{rs aF}(h:F1 rs aF){i}(hi:i<rs.length):m7 1 (m6 rs [0] aF i):=by
 have hs:∀v∈B8 rs i,FV v:=by rw[kT rs hi];exact h.small _ (vae hi)
 refine⟨by simp[m6,kv,h.l8],λt ht=>?_,(aCU hs 0).Me⟩;obtain⟨a,b,rfl⟩:=vbl.1 ht;grind[vq.of,Aq,kO]
def kH{rs aF}(h:F1 rs aF){af}(f:0<af):(∀d∈jj (lH (m6 rs [0] aF) af rs.length) ((rs.length+af-1) / af),m7 40 d)/\(jj (lH (m6 rs [0] aF) af rs.length) ((rs.length+af-1) / af)).length<=40:=by
 obtain⟨j,a⟩:=HS (S:=rs.length) f;have i:=h.len;refine⟨vn λp e d hd=>?_,?_⟩
 .have g:=a p e;have l:(jF (m6 rs [0] aF) (p*af) (min (p*af+af) rs.length)).length<=40:=JQ;refine(Q9 (c:=1) (L:=jF (m6 rs [0] aF) (p*af) (min (p*af+af) rs.length)) (λx b=>?_) d hd).mono AQ;obtain⟨k,hk,rfl⟩:=vbl.1 b;have:=vdx.1 hk;grind[Ml]
 .rw[XN];have:=XM (m6 rs [0] aF) af rs.length ((rs.length+af-1) / af);omega
def F2(w:aR)(b o:Nat):Int:=
 match w.cell? (.a b o)with
 |some (.int _ z)=>z
 | _=>0
def aCV{w b o z}(h:w.cell? (.a b o)=some (.I z)):F2 w b o=z:=by simp[F2,h]
def aCW{Post rs aF}(hg:F1 rs aF){W af:Nat}(nS:0<W)(hW:W<=16)(fQ:0<af)(D:af<=64){j:Int}M w Shun J aW(aN:Home O prog M Shun w)(E:aJ (b7 M) #[J,aW,.agg #[.I (W:Int),.I (af:Int)]] #[J,aW,.agg #[.I (W:Int),.I (af:Int)]])(hn:V4 (5,j,[0],aF) w J)(Z:(mY rs).R w aW):
 fZ O prog Post 37 #[J,aW,.agg #[.I (W:Int),.I (af:Int)]] M w 2 (λu _ w'=>(sT (wZ rs [0] aF af)).R w' u/\dy M w w'):=by
 obtain⟨q,v,rfl,hq,hv⟩:=hn;obtain⟨kb,cL,kc,rfl,lC⟩:=k6 hq;obtain⟨bZ,gc,rfl,-,df⟩:=hv;have V:=hg.l8;obtain⟨aU,bA,rfl,-⟩:=id (df 0 (show 0<aF.length by omega));have XT:vo w aU bA aF:=λi hi=>by obtain⟨b',o',e,k1,k2⟩:=df i hi;grind
 simp only[V]at E⊢;obtain⟨hr,ca,cc,rfl,hcc⟩:=Z;have wO:M aU:=by have:=E.get 0 _ _ Y Y;cases this with|agg _ hg=>exact Mk (hg 6 _ _ Y Y)
 have xT:M kb:=by have:=E.get 0 _ _ Y Y;cases this with|agg _ hg=>exact Mk (hg 4 _ _ Y Y)
 obtain⟨cb,co,xs,S,U,R,N⟩:∃(cb co:Nat)(xs:uav),xs.length=rs.length/\(0<rs.length->ca=some ⟨cb,co,none⟩/\M cb)/\(0<rs.length->∀j u,(two xs)[j]?=some u->w.cell? (.a cb (co+j))=some u)/\∀i(h:i<xs.length)(I:i<rs.length),h5 w xs[i].1 rs[i].1/\oi w xs[i].2 rs[i].2:=by
  by_cases h0:0<rs.length
  .obtain⟨cb,co,aK7,xs,e',S,R,vE,N⟩:=Yg hr h0;cases e';exact⟨cb,co,xs,S,λ_=>⟨Y,Mk (E.get 1 _ _ Y Y)⟩,λ_=>R,N⟩
  simp_all
 have r:∀i,∃b o k,∀hi:i<xs.length,xs[i].1=.S b o 1 k/\w.cell? (.a b o)=some (.I (i:Int))/\M b:=λi=>by
  by_cases hi:i<xs.length
  .have m:i<rs.length:=by omega
   obtain⟨aZ,-⟩:=N i hi m;rw[hg.place i m]at aZ;obtain⟨b,o,k,e,hb⟩:=k6 aZ;refine⟨b,o,k,λ_=>⟨e,hb,?_⟩⟩;have:=aN.cell (a:=⟨cb,co+i*2,none⟩) (U AQ).2 (R AQ _ _ (Kf xs i hi).1);grind[Mk]
  .exact⟨0,0,0,λh=>absurd h hi⟩
 obtain⟨B,r⟩:=vbi.1 r;obtain⟨c,r⟩:=vbi.1 r;obtain⟨K,r⟩:=vbi.1 r;obtain⟨s,yP⟩:=kH hg fQ;have L:∀d∈jj (lH (m6 rs [0] aF) af rs.length) ((rs.length+af-1) / af),d.c5<rs.length:=vn λp z d hd=>Q7 (Q:=λd=>d.c5<rs.length) (λx g h _ _=>h) (λx A=>by
  obtain⟨k,hk,rfl⟩:=vbl.1 A;have:=vdx.1 hk;show p*af+k<rs.length;omega) d hd
 have Rc:jj (lH (λi=>jG B c K (m6 rs [0] aF i)) af xs.length) ((xs.length+af-1) / af)=(jj (lH (m6 rs [0] aF) af rs.length) ((rs.length+af-1) / af)).map (jG B c K):=by
  rw[S,<-uT];congr 1
  grind[aCh]
 have XU:wZ rs [0] aF af=(ee (jj (lH (m6 rs [0] aF) af rs.length) ((rs.length+af-1) / af))).map λd=>([(d.c5:Int)],jX d aF):=rfl;generalize wZ rs [0] aF af=F at XU⊢;generalize jj (lH (m6 rs [0] aF) af rs.length) ((rs.length+af-1) / af)=f at s yP L Rc XU;have C:∀i,i<rs.length->B i<w.heap.size/\M (B i):=λi hi=>by obtain⟨-,h2,h3⟩:=r i AQ;exact⟨ef h2,h3⟩
 have Ji:∀{P:aG->Prop},(∀d∈f,P (jG B c K d))->∀d∈f.map (jG B c K),P d:=λh d hd=>by grind
 have aCX:∀d:aG,d.c5<rs.length->F2 w (jG B c K d).c5 (jG B c K d).pa=(d.c5:Int)/\w.cell? (.a ((jG B c K d).c5) ((jG B c K d).pa))=some (.I (d.c5:Int)):=λd hd=>by obtain⟨-,h2,-⟩:=r d.c5 AQ;exact⟨aCV h2,h2⟩
 have Di:∀d∈ee f,d.c5<rs.length:=Q7 (λx g h _ _=>h) L;have H:∀d∈ee f,m7 1600 d:=λd hd=>(Q9 s d hd).mono AQ;have aK8:=hg.len;have bM:∀i(hi:i<xs.length),QS w xs[i] [0] aF (B8 rs i) (jG B c K (m6 rs [0] aF i)):=λi hi=>by
  have m:i<rs.length:=AQ;obtain⟨-,a3⟩:=N i hi m;have e:=kT rs m;have h4:=hg.four _ (vae m);refine⟨(r i hi).1,AA,Y,Y,λk hk=>AA,λk hk=>?_,λv hv=>?_⟩
  .rcases hg.zc _ (vae hk)with h|h|h|h|h
   .grind
   .grind
   .grind
   .grind
   grind
  .rw[e]at hv;have:=hg.small _ (vae m) v hv;have h1:=this.lo;have h2:=this.hi;grind
 have ok:GP.ew ⟨5,j,kb,cL,kc,aU,bA,gc,aF,f.map (jG B c K),λd=>F2 w d.c5 d.pa,W,af,w.heap.size,sT F,mY F,sU⟩ M:=⟨xT,wO,ef (XT 0 AQ).1,Ji λd hd=>(C _ (L d hd)).2,Ji λd hd=>(C _ (L d hd)).1,Ji λd hd=>⟨(s d hd).l8,λt ht=>((s d hd).i_ t ht).qQ⟩,AA,Y,Y,Y⟩;have sz:GP.k8 ⟨5,j,kb,cL,kc,aU,bA,gc,aF,f.map (jG B c K),λd=>F2 w d.c5 d.pa,W,af,w.heap.size,sT F,mY F,sU⟩ w undef:=⟨XT,λd hd=>by
  have hd:d∈ee (f.map (jG B c K)):=hd;rw[XO]at hd;obtain⟨x,A,rfl⟩:=vbl.1 hd;grind⟩
 rw[<-S]at E⊢;refine aCK ok Y (xs:=xs) (vs:=B8 rs) (G:=λi=>jG B c K (m6 rs [0] aF i)) (br:=[0]) (cb:=cb) (co:=co) Y V E (λh0=>⟨(U AQ).1,⟨R AQ,bM,λi hi=>?_,XT⟩,(U AQ).2⟩) sz AQ (λi hi=>(C i AQ).2) AQ fQ D nS hW (λi hi=>⟨(Ml hg (show i<rs.length by omega)).l8,λt ht=>((Ml hg (show i<rs.length by omega)).i_ t ht).qQ⟩) Rc.symm (λw u⟨v,e,h⟩=>⟨v,_,e,h,Y⟩) (λw x y h1 h2=>by cases h2;exact⟨x,Y,h1⟩) (λM w' u aZ a3 q3 q4 q5 q6 QN L0=>?_)
 .obtain rfl:i=0:=by grind
  grind
 .obtain⟨gs,e,hcell,ht⟩:=QN;have e:gs.map Prod.fst=ee (f.map (jG B c K)):=e;rw[XO]at e;have kp:gs.length=(ee f).length:=by have:=vcd List.length e;grind
  have c8:∀i(h:i<gs.length)(I:i<(ee f).length),gs[i].1=jG B c K (ee f)[i]:=λi h I=>by have:=vcd (λl:List aG=>l[i]?) e;grind
  have lT:∀p∈gs,∃x∈ee f,p.1=jG B c K x:=λp z=>by have:p.1∈(ee f).map (jG B c K):=e▸vdk z;obtain⟨x,A,e⟩:=vbl.1 this;grind
  have aK9:=LZ f;obtain⟨T,cap,rfl,sJ,nI⟩:=hcell;have aCY:∀p∈gs,B4 w' p aF:=λp z=>by
   obtain⟨x,A,ex⟩:=lT p z;have hs:=H x A;have XV:p.1.c9=x.c9:=by rw[ex];rfl
   refine⟨by rw[XV];exact hs.l8,λt ht=>?_,λi h I=>?_,λi hi k hk=>(ht.1 p z).1.i_ hi k hk⟩
   .rw[XV]at ht;have b:=(hs.i_ t ht).qQ;have b1:=b.s0;have b2:=b.jJ;grind
   .have D:p.1.c9[i]∈p.1.c9:=vae I;generalize p.1.c9[i]=aK_ at D⊢;rw[XV]at D;have b:=(hs.i_ _ D).qQ;have b1:=b.s0;have b2:=b.jJ;grind[r5]
  have X:∀i(h:i<gs.length),gs[i].1=(gs[i]?.map Prod.fst).getD ⟨0,0,0,ke [],[]⟩:=λi h=>by simp[h]
  have f9:cut (s6 (λi=>(gs[i]?.map Prod.fst).getD ⟨0,0,0,ke [],[]⟩) aF (λi=>F2 w ((gs[i]?.map Prod.fst).getD ⟨0,0,0,ke [],[]⟩).c5 ((gs[i]?.map Prod.fst).getD ⟨0,0,0,ke [],[]⟩).pa)) 0 gs.length=F:=by
   rw[XU];apply vbx
   .grind[z5]
   .intro i h1 h2;rw[z5]at h1;have hi:i<gs.length:=AQ;have m:i<(ee f).length:=AQ;have e1:=c8 i hi m;have e2:=aCX _ (Di _ (vae m));simp only[cut,vef,List.getElem_range,vbs,s6];rw[<-X i hi,e1,e2.1];rfl
  have aCZ:∀g,T=some ⟨g,0,none⟩->M g:=λg qf=>by subst qf;cases L0 with|agg _ hg=>exact Mk (hg 7 _ _ Y Y)
  intro n bm oY mr f1 a1 o1 i1 r1 k1 cs1 Z di;have kS:=aCe (O:=O) (Post:=Post) (M:=M) (w:=w') (op:=5) (a:=j) (gs:=gs) (ds:=λi=>(gs[i]?.map Prod.fst).getD ⟨0,0,0,ke [],[]⟩) (aF:=aF) (iG:=λi=>F2 w ((gs[i]?.map Prod.fst).getD ⟨0,0,0,ke [],[]⟩).c5 ((gs[i]?.map Prod.fst).getD ⟨0,0,0,ke [],[]⟩).pa) (kb:=kb) (cL:=cL) (kc:=kc) (aU:=aU) (bA:=bA) (gc:=gc) (cap:=cap) (g:=(T.map Addr.block).getD 0) (bZ:=T) (af:=af) (W:=W) aZ a3 X V AQ sJ (λi hi v hv=>?htx) (λh0=>?hin) L0 fQ D nS hW n bm oY mr f1 a1 o1 i1 r1 k1 cs1 Z
  case htx=>
   obtain⟨x,A,ex⟩:=lT gs[i] (vae hi);have hv:v∈jX ((gs[i]?.map Prod.fst).getD ⟨0,0,0,ke [],[]⟩) aF:=hv;rw[<-X i hi,ex]at hv;have hs:=H x A;rcases vaw.1 hv with rfl|hv
   .have:=hs.key;show x.key.1.text.size<=_;omega
   .obtain⟨k,hk,rfl⟩:=vbj hv;rw[vde];have ht:=hs.i_ _ (show(jG B c K x).c9[k]'AA∈x.c9 from vae _);have h1:=ht.tl;have h2:=ht.sL;have h0:g5.size<=1000:=AF;unfold iw;split
    .grind
    .split
     .exact vad h0 AF
     grind
  case hin=>
   obtain⟨g,rfl,h3⟩:=nI h0;refine⟨Y,⟨q6.e5,aCY,h3,λt Au=>?_⟩,q3,q4,aCZ g Y,λp z=>(ht.1 p z).2,λp z=>q5 _ ?_⟩
   .have h1:=q6.place gs[t].1 (by
     grind)
    grind
   grind
  rw[f9]at kS;exact kS λu M' w'' n' XS gQ gG fx FB wN⟨x,ex,bE,iO,ni⟩=>di u M' w'' n' XS gQ gG fx FB wN ⟨⟨x,ex,bE,iO⟩,dy.J3 ni⟩
def aC0{Post rs aF}(hg:F1 rs aF){W af:Nat}(c:0<W)(g:W<=16)(h:0<af)(e:af<=64){args D M w}(i:aJ (b7 M) args args)(d:ak 86 (bh [(0,rU (5,0,[0],aF)),(2,fS 1 rT D),(3,mZ W af)]) ⟨args++Array.replicate (86-args.size) undef,[]⟩ w)(f:D[0]?=some rs):
 fZ O prog Post 25 args M w 2 (λu _ w'=>(sT (wZ rs [0] aF af)).R w' u/\dy M w w'):=
 avt (j:=0) (cW:=sT (wZ rs [0] aF af)) (ml:=mY (wZ rs [0] aF af)) (oH:=sU) Y Y Y (λK o x b a=>V7 b a) (λK o x b a=>V8 b a) (λw x y h1 h2=>by cases h2;exact⟨x,Y,h1⟩) i d f (aCW hg c g h e)
end
end aV
namespace aV
open RowKit av bd
def gZ(d:aG):Prop:=∀t∈d.c9,0<=t.held
variable{c:Nat}
def m7.cd{d}(h:m7 c d):gZ d:=λt ht=>(h.i_ t ht).qQ.h0
def aC2{a b}(d:0<=a.held)(c:0<=b.held):0<=(eP a b).held:=by grind[eP]
variable{g:aG}
def gZ.join{x}(h:gZ x)(k:gZ g):gZ (ku g x):=λt ht=>by obtain⟨i,hi,rfl⟩:=vbj ht;have hi:i<(List.zipWith eP x.c9 g.c9).length:=hi;show 0<=((List.zipWith eP x.c9 g.c9)[i]).held;rw[vde];exact aC2 (h _ (vae _)) (k _ (vae _))
variable{y:aG}
def aC3{x}(b:gZ x)(a:gZ y)(hg:gZ g):ku g (ku x y)=ku (ku g x) y:=by
 unfold ku;simp only[aG.mk.injEq,true_and];unfold l7;apply vbx
 .grind
 .intro i h1 h2;simp only[vde];exact aCk (a _ (vae _)) (b _ (vae _)) (hg _ (vae _))
variable{ds:List aG}
def aC4(h:∀d∈ds,gZ d)(hg:gZ g):∀d∈fu ds g,gZ d:=vp (λx a hg _=>a.join hg) h hg
theorem aC5 q ds:eX q ds=(ds.map aG.key).findIdx? (l6 q):=by unfold eX;rw[List.findIdx?_map];rfl
theorem kD g(ds:List aG)i:(ds.modify i (ku g)).map aG.key=ds.map aG.key:=by
 apply vbx
 .simp
 .intro k h1 h2;simp only[vef,vci];split<;>rfl
theorem IK q g ds i:eX q (ds.modify i (ku g))=eX q ds:=by grind[aC5,kD]
variable{q:jC}
def kB{x}(h:eX q ds=none)(e:x.key=q):eX q (ds++[x])=some ds.length:=by unfold eX at h⊢;grind[r6]
variable{i:Nat}
def kt{x}(h:eX q ds=some i):eX q (ds++[x])=some i:=by grind[eX]
theorem aC6{x}(e:x.key=g.key)(h:∀d∈ds,gZ d)(a:gZ x)(hg:gZ g):fu ds (ku g x)=fu (fu ds x) g:=by
 have b:(ku g x).key=x.key:=rfl;cases hq:eX x.key ds with
 |none=>
  rw[p6 (g:=ku g x) hq,p6 hq,m4 (kB (e▸hq) e)];apply vbx
  .simp
  grind
 |some i=>
  rw[m4 (g:=ku g x) hq,m4 hq,m4 (j:=i) (by simp_all[IK])];apply vbx
  .simp
  simp_all[vci,aC3]
theorem aC7(e:y.key≠g.key)(hi:eX g.key ds=some i):fu (fu ds y) g=fu (fu ds g) y:=by
 obtain⟨b,hk⟩:=B0 hi;rw[m4 hi];cases hq:eX y.key ds with
 |none=>
  rw[p6 hq,m4 (kt hi),p6 (by rw[IK];exact hq)];apply vbx
  .simp
  grind
 |some k=>
  obtain⟨d,c⟩:=B0 hq;have a:k≠i:=λx=>e AA;rw[m4 hq,m4 (j:=i) (by grind[IK]),m4 (j:=k) (by rw[IK];exact hq)];apply vbx
  .simp
  grind
def aC8(hi:eX q ds=some i):∃k,eX q (fu ds y)=some k:=by cases hq:eX y.key ds with|none=>simp_all[p6,kt]|some k=>simp_all[m4,IK]
theorem kj:∀(T ds:List aG),(∀y∈T,y.key≠g.key)->(∃i,eX g.key ds=some i)->T.foldl fu (fu ds g)=fu (T.foldl fu ds) g
 | [],ds,_,_=>rfl
 |y::T,ds,h,⟨i,hi⟩=>by rw[vdb,vdb,<-aC7 (h y AS) hi,kj T _ (λz a=>h z (by simp[a])) (aC8 hi)]
def aC9{x}(e:x.key=q):∃i,eX q (fu ds x)=some i:=by cases hq:eX x.key ds with|none=>simp_all[p6,kB]|some k=>simp_all[m4,IK]
theorem j8(hg:gZ g):∀(T ds:List aG)j(i:j<T.length),T[j].key=g.key->T.Pairwise (λa b=>a.key≠b.key)->(∀d∈T,gZ d)->(∀d∈ds,gZ d)->(T.modify j (ku g)).foldl fu ds=fu (T.foldl fu ds) g
 |x::T,ds,0,i,e,f,c,hd=>by have e:x.key=g.key:=e;obtain⟨h1,h2⟩:=List.pairwise_cons.1 f;rw[List.modify_zero_cons,vdb,vdb,aC6 e hd (c x AS) hg];exact kj T _ (λy l k=>h1 y l (e.trans k.symm)) (aC9 e)
 |x::T,ds,j+1,i,e,f,c,hd=>by rw[List.modify_succ_cons,vdb,vdb];exact j8 hg T _ j AA e (List.pairwise_cons.1 f).2 (λd h=>c d (by simp[h])) (aC4 hd (c x AS))
theorem aC_(h:ds.Pairwise λa b=>a.key≠b.key):(fu ds g).Pairwise λa b=>a.key≠b.key:=by cases hq:eX g.key ds with|none=>rw[p6 hq];exact List.pairwise_append.2 ⟨h,List.pairwise_singleton _ _,λa d b c=>by rw[vdr.1 c];exact yX hq a d⟩|some j=>rw[m4 hq];have h1:(ds.map aG.key).Pairwise (· ≠ ·):=List.pairwise_map.2 h;grind[kD]
theorem aDa L:(ee L).Pairwise λa b=>a.key≠b.key:=by
 have:∀(L ds:List aG),ds.Pairwise (λa b=>a.key≠b.key)->(L.foldl fu ds).Pairwise λa b=>a.key≠b.key:=by intro L;induction L with|nil=>grind|cons g L c=>grind[aC_]
 exact this L [] List.Pairwise.nil
theorem aDb{L}(b:∀d∈L,gZ d)(hd:∀d∈ds,gZ d):(ee L).foldl fu ds=L.foldl fu ds:=by
 have:∀t,t<=L.length->(ee (L.take t)).foldl fu ds=(L.take t).foldl fu ds:=by intro t;induction t with|zero=>grind[ee]|succ t a=>intro ht;have a:=a AQ;have f:∀d∈ee (L.take t),gZ d:=Q7 (λx g c hg _=>c.join hg) λd h=>b d (List.mem_of_mem_take h);have hg:gZ L[t]:=b _ (vae _);rw[LX L AQ,vdu AQ,List.foldl_append,<-a];cases hq:eX L[t].key (ee (L.take t))with|none=>rw[p6 hq,List.foldl_append]|some j=>obtain⟨e,hk⟩:=B0 hq;simp_all[m4,j8,aDa]
 have h2:=this L.length JR;grind
def aDc G{a b}(h1:a<=b)(h2:b<=c):jF G a b++jF G b c=jF G a c:=Vp G h1 h2
variable{af:Nat}
theorem aDd{G n}(l:0<af)(h:∀i,i<n->gZ (G i)):ee (jj (lH G af n) ((n+af-1) / af))=ee (jF G 0 n):=by
 obtain⟨m,e⟩:=HS (S:=n) l;generalize(n+af-1) / af=N at m e;have f:∀a b,b<=n->∀d∈jF G a b,gZ d:=λa b p d hd=>by obtain⟨k,hk,rfl⟩:=vbl.1 hd;grind
 have key:∀k,k<=N->ee (jj (lH G af n) k)=ee (jF G 0 (min (k*af) n)):=by intro k;induction k with|zero=>grind[jj,jF]|succ k c=>intro hk;have o:=e k hk;have c:=c AQ;have e1:min (k*af) n=k*af:=AQ;rw[e1]at c;have e2:(k+1)*af=k*af+af:=Nat.succ_mul k af;rw[jj,e2,<-aDc G (vax (k*af)) (show k*af<=min (k*af+af) n by omega)];unfold ee;rw[List.foldl_append,List.foldl_append];have ih':List.foldl fu [] (jj (lH G af n) k)=List.foldl fu [] (jF G 0 (k*af)):=c;rw[ih'];exact aDb (f _ _ AQ) (Q7 (λx g j hg _=>j.join hg) (f 0 (k*af) AQ))
 grind
def F3(rs:List cP)(br:uac)(aF:g7):List cP:=(ee (jF (m6 rs br aF) 0 rs.length)).map λd=>([(d.c5:Int)],jX d aF)
theorem aDe{rs aF}(h:F1 rs aF)(a:0<af):wZ rs [0] aF af=F3 rs [0] aF:=by unfold wZ F3 Q8;rw[aDd a λi hi=>(Ml h hi).cd]
def m8(G:Nat->aG)(i:Nat):Bool:=(List.range i).all λj=> !l6 (G j).key (G i).key
def fm(G:Nat->aG)(t:Nat):List Nat:=(List.range t).filter (m8 G)
def r8(G:Nat->aG)(i:Nat):Nat->List dn
 |0=>(G i).c9
 |t+1=>if i<t/\l6 (G t).key (G i).key=true then l7 (r8 G i t) (G t).c9 else r8 G i t
def t9(G:Nat->aG)(t i:Nat):aG:={G i with c9:=r8 G i t}
theorem XW G i:∀t,t<=i+1->r8 G i t=(G i).c9
 |0,_=>rfl
 |t+1,h=>by rw[r8,vby AQ,XW G i t AQ]
theorem Mm{G}:m8 G i=true↔∀j,j<i->(G j).key≠(G i).key:=by
 unfold m8;rw[vdh];constructor
 .grind[r6]
 .intro h j a;cases hq:l6 (G j).key (G i).key with|false=>rfl|true=>simp_all[r6]
theorem Re G t:fm G (t+1)=if m8 G t then fm G t++[t]else fm G t:=by grind[fm,List.range_succ]
theorem Rf{G t}(h:i∈fm G t):i<t/\m8 G i=true:=by obtain⟨h1,h2⟩:=List.mem_filter.1 h;grind
theorem aDf{G k}(hi:m8 G i=true)(hk:m8 G k=true)(h:i≠k):(G i).key≠(G k).key:=by
 rcases Nat.lt_or_gt_of_ne h with h|h
 .exact Mm.1 hk i h
 grind[Mm]
theorem jU G:∀i,∃k,k<=i/\m8 G k=true/\(G k).key=(G i).key:=by
 intro i;induction i using Nat.strongRecOn with
 | _ i a=>
  cases h:m8 G i with
  |true=>grind
  |false=>
   have:¬ ∀j,j<i->(G j).key≠(G i).key:=λk=>by grind[Mm]
   grind
theorem Rg G:∀t,ee (jF G 0 t)=(fm G t).map (t9 G t)
 |0=>rfl
 |t+1=>by
  have e:jF G 0 (t+1)=jF G 0 t++[G t]:=by simp[jF,vdo]
  rw[e,y4,Rg G t,Re];cases n:m8 G t with
  |true=>
   have hk:=Mm.1 n;have hn:eX (G t).key ((fm G t).map (t9 G t))=none:=by rw[eX,List.findIdx?_eq_none_iff];intro d hd;obtain⟨i,hi,rfl⟩:=vbl.1 hd;cases hq:l6 (G t).key (t9 G t i).key with|false=>rfl|true=>exact absurd (r6.1 hq).symm (hk i (Rf hi).1)
   rw[p6 hn,vca Y,vda];congr 1
   .apply List.map_congr_left;intro i hi;have h1:=hk i (Rf hi).1;unfold t9;rw[r8,vby λh=>h1 (r6.1 h.2).symm]
   simp_all[t9,XW]
  |false=>
   obtain⟨c,h1,h2,h3⟩:=jU G t;have g:c<t:=by grind
   have l:c∈fm G t:=List.mem_filter.2 ⟨vdx.2 g,h2⟩;cases hq:eX (G t).key ((fm G t).map (t9 G t))with
   |none=>exact absurd h3 (yX hq (t9 G t c) (vdk l))
   |some j=>
    obtain⟨p,hk⟩:=B0 hq;have a:j<(fm G t).length:=AA;rw[vef]at hk;have hk:(G (fm G t)[j]).key=(G t).key:=hk;rw[m4 hq];simp only[vah,vcr];apply vbx
    .simp
    .intro m m1 o;have b:m<(fm G t).length:=AA;obtain⟨f1,s⟩:=Rf (vae b);obtain⟨g1,r⟩:=Rf (vae a);simp only[vci,vef];by_cases f:j=m
     .simp_all[t9,ku,r8,r6]
     .rw[vby f];unfold t9;rw[r8,vby λh=>?_];have k:(fm G t)[m]≠(fm G t)[j]:=by
       have hn:(fm G t).Nodup:=List.Pairwise.filter _ List.nodup_range;intro e;rcases Nat.lt_or_gt_of_ne f with q|q
       .exact vcn.1 hn j m a b q e.symm
       .exact vcn.1 hn m j b a q e
      grind[aDf,r6]
