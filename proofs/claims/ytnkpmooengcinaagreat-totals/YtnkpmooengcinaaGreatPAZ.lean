/- Proved: the statement TotalsSaid of quarrykeep.Totals at this commit, whole and without further conditions: for every argument within the seat's bounds the call ends as the law asks, whatever the goroutines' order. The texts are packed: names shortened by program. -/
import Derived.Test.YtnkpmooengcinaaGreatRows
import Derived.Deep.Fields
import Derived.Test.YtnkpmooengcinaaGreatPAX
import Derived.Test.YtnkpmooengcinaaGreatPAY
set_option linter.all false
set_option maxRecDepth 100000
set_option maxHeartbeats 16000000
namespace Go.Proofs.YtnkpmooengcinaaGreat
open Go.Proofs.Tryz
namespace bj
open Conc ConcM RowKit av bn cW dv bB cv iD lI
section
variable{O:gp}
def gr(l:uaf):bQ:=⟨1,0,l,[],List.replicate l.length false⟩
def Z_(l:uaf)(i:Nat):mz (gr l) i=rN l i:=by
 have h:(List.replicate l.length false).getD i false=false:=by grind
 simp_all[mz,gr,rN]
def Z8(l:uaf):qt [gr l] 0 l.length=pX l:=by simp[qt,pX,Z_]
theorem ss(l:uaf):Full (pX l):=by intro r a;simp only[pX,vbz]at a;grind
section
variable{l:uaf}{Post:fE}{W ab:Nat}{M:c5}{w:aH}{aZ br:Value}
def sg(s:l.length<=40)(w:aH)(aZ br:Value)(f:vN [gr l] w aZ)(d:ua w br):Calls (aa prog true) 10 #[aZ,br] w λe w'=>∃v,e=.returned v/\(AO 2 [(1,0)]).R w' v/\cC w w':=by
 obtain⟨ba,b,cL,a,rfl,r,q⟩:=f;obtain⟨p,no,o,aA,aR,gc,rfl,h⟩:=d;refine(aru [gr l] ba b cL p no o aA aR gc w ⟨_,_,U,Ab,λi hi=>⟨ba,b,U,a,?_⟩⟩ ?_ h U).mono λe w'⟨g,c,v,n,m,k,j⟩=>⟨_,n,⟨_,U,g,c,v,U,m,k⟩,j⟩
 .grind
 .simp[oa,vF,JA,Je,vE,Gk,gr];omega
def rU(h0:0<l.length)(h:l.length<=40)(f:0<W)(e:W<=16)(b:0<ab)(a:ab<=64){args:dC}{M:c5}{w:aH}(g:aL (bU M) args args)(hk:af 86 (be [(0,nC (1,0,[])),(1,cP 1 k9 [[gr l]]),(3,kx W ab)]) ⟨args++Array.replicate (86-args.size) undef,[]⟩ w):eb O prog Post 18 args M w 2 (λu _ w'=>(rp (pX l)).R w' u/\cO M w w'):=by rw[<-Z8];refine eb.more (d:=1) (aqm g hk Ab Ab b a f e AY (by simp[gr]) λi hi c j=>?_) AX;obtain rfl:c=gr l:=AN;exact⟨by grind[gr],by simp[gr],λ_=>by grind[gr],by simp[gr]⟩
def Z7(hs:pW l)(h0:0<l.length)(n:l.length<=40)(q:jf (sumTo l l.length))(j:0<W)(i:W<=16)(h:0<ab)(g:ab<=64)(m:aL (bU M) #[aZ,br] #[aZ,br])(c:vN [gr l] w aZ)(b:ua w br):
 eb O prog Post 8 #[aZ,br,.I W,.I ab,.I 0,.I 9223372036854775807] M w 4 (λu _ w'=>zi [gr [sumTo l l.length]] w' u/\cO M w w'):=by
 have e:[gr [sumTo l l.length]]=sJ [(1,0)] (o7 (AZ l)) (AZ l).length:=by simp[sJ,t_,o7,gr]
 rw[e];refine ate (fu:=zj [gr l]) (fv:=GB) (λ_=>trivial) (λ_=>trivial) m c b j i h g AX AX Ab (λr f=>?_) (λr f d hd=>?_) (sg n) λM w aZ br m c b=>?_
 .grind
 .obtain rfl:r=_:=by simpa using f
  obtain rfl:d=_:=by simpa using hd
  exact vaz _
 .refine aqx (ns:=D3) (ts:=[[gr l]]) (ez:=[pX l,AZ l]) m (xF c) (xG b) U AX AX (λx a=>?_) U λk gF x o a args M w p hk=>?_
  .simp only[vbc,vbr,vds]at a;rcases a with rfl|rfl
   .grind[G5,ss]
   .exact⟨Ab,λr f=>by
     grind⟩
  .match k with|0=>cases o;cases a;exact rU h0 n j i h g p (hk.a7 ⟨U,U,U,PA⟩)|1=>cases o;cases a;exact av8 hs h0 AY q j i h g p (hk.a7 ⟨U,U,U,PA⟩) U|k+2=>grind
def ZV(hs:pW l)(h0:0<l.length)(a:l.length<=40)(b:jf (sumTo l l.length)){x y:Int}(f:fg x)(e:fg y)(m:aL (bU M) #[aZ,br] #[aZ,br])(d:vN [gr l] w aZ)(c:ua w br):
 eb O prog Post 6 #[.agg #[.I x,.I y],aZ,br] M w 4 (λu _ w'=>D4 [gr [sumTo l l.length]] w' u/\cO M w w'):=
 atp (fu:=zj [gr l]) (fv:=GB) (λ_=>trivial) (λ_=>trivial) f e m d c λW ab k j i h M w aZ br g t n=>Z7 hs h0 a b k j i h g t n
def ZT(hs:pW l)(h0:0<l.length)(i:l.length<=40)(m:¬jf (sumTo l l.length))(f:0<W)(e:W<=16)(d:0<ab)(c:ab<=64)(h:aL (bU M) #[aZ,br] #[aZ,br])(b:vN [gr l] w aZ)(a:ua w br):
 eb O prog Post 7 #[aZ,br,.I W,.I ab] M w 4 (λu _ w'=>G8 1 0 w' u/\cO M w w'):=by
 refine awG (fu:=zj [gr l]) (fv:=GB) (λ_=>trivial) (λ_=>trivial) h b a f e d c (sg i) λM w aZ br h b a=>?_;refine XW (ns:=D3) (ts:=[[gr l]]) (ez:=[pX l]) h (xF b) (xG a) (show 1<2 by decide) AX (λx j=>?_) (λk gF x n j args M w g hk=>?_) λargs M w g hk=>?_
 .grind[G5,ss]
 .match k with|0=>cases n;cases j;exact rU h0 i f e d c g (hk.a7 ⟨U,U,U,PA⟩)|k+1=>grind
 .exact av9 hs h0 AY m f e d c g (hk.a7 ⟨U,U,U,PA⟩) U
end
end
section
variable{n0:Nat}
def kj(l:eQ){l':eQ}(e:l=l':=by simp only[aP,y8,Tryz.f3,vah,Nat.reduceBEq,vai,↓reduceIte];exact rfl):l=l':=e
def Jd:rh (aa prog true) 26 2 (.I 0) 1 8:=⟨BB,AU,AX,AX⟩
def nJ(T:uaa)(w w':aH):Prop:=w.heap.size<=w'.heap.size/\∀(b:Nat) c e z,w.heap[b]?=some (.cells c e z)->e≠T->w'.heap[b]?=some (.cells c e z)
def nJ.below{T:uaa}{w w':aH}(h:cC w w'):nJ T w w':=⟨h.size,λb c e z a _=>(h.block b (jk a)).trans a⟩
def nJ.only{T:uaa}{w w':aH}(h:kT T w w'):nJ T w w':=⟨h.1,λb c e z a d=>by
 obtain⟨i,g,-,f⟩:=h.2 b c e z a;grind⟩
theorem nJ.grown{T:uaa}{w w':aH}{B size n:Nat}{v:Value}{xs:uam}(h:w.ownsRow B T size v n xs)(hg:w.grownBy w' v.ownBlock):nJ T w w':=⟨hg.size,λb c e z a d=>by
 refine(hg.block b (jk a) λq=>?_).trans a;obtain⟨g,f⟩:=atF h q.symm;rw[show w.heap[b]?=some (.cells g T)from f]at a;grind⟩
theorem nJ.box{T T':uaa}{w w':aH}(h:nJ T w w')(a:T'≠T){b:Nat}{cs:dC}(c:ag w b cs T'):ag w' b cs T':=h.2 b cs T' _ c a
def nJ.own{T e:uaa}{w w':aH}(h:nJ T w w')(a:e≠T){B size n:Nat}{v:Value}{xs:uam}(d:w.ownsRow B e size v n xs):w'.ownsRow B e size v n xs:=by
 obtain⟨b,⟨hv,hn⟩|⟨g,cap,bc,hv,hg,f,c⟩⟩:=d
 .exact⟨b,.inl ⟨hv,hn⟩⟩
 .exact⟨b,.inr ⟨g,cap,bc,hv,hg,h.2 g bc e _ f a,c⟩⟩
def qS(l:uaf):List Value:=l.map λ(x:Int)=>.I x
def ZL(l:uaf):(qS l).length=l.length:=by simp[qS]
def Om(l m:uaf):qS (l++m)=qS l++qS m:=by simp[qS]
def ZK(l:uaf):∀u∈qS l,u.oneCell'=true:=by intro u a;simp only[qS,vbz]at a;obtain⟨x,-,rfl⟩:=a;rfl
def rO(n0:Nat)(l:uaf)(w:aH)(v:Value):Prop:=w.ownsRow n0 2 1 v l.length (qS l)
def ZJ(l:uaf):my n0 (rO n0 l):=by
 rintro ρ w w' v v' c hv ⟨b,⟨rfl,hn⟩|⟨g,cap,bc,rfl,hg,j,a,h,hs,ht⟩⟩
 .rw[gW hv];exact⟨b,.inl ⟨U,hn⟩⟩
 .obtain⟨g',rfl,r⟩:=qp hv;obtain⟨k,f,d,key⟩:=wX c r (show ag w g bc _ from j);refine⟨b,.inr ⟨g',cap,k,U,c.new _ _ r hg,f,a,h,d.trans hs,?_⟩⟩;apply vbu;intro i;have e:=vbn (λq:List Value=>q[i]?) ht;simp only[List.getElem?_take,vdl]at e⊢;by_cases hi:i<l.length*1
  .rw[vdi hi]at e⊢;grind[qS,d9]
  grind
def UX(n0:Nat)(l:uaf):bg:=⟨rO n0 l,λ_ _ _ hb h=>D9 h hb,λn=>n=n0,λn h=>h▸ZJ l⟩
def rO.form{l:uaf}{w:aH}{v:Value}(h:rO n0 l w v)(h0:0<l.length):∃g cap,v=.S g 0 l.length cap/\n0<=g/\∀j u,(qS l)[j]?=some u->w.cell? (.a g j)=some u:=by
 obtain⟨f,⟨rfl,hn⟩|⟨g,cap,bc,rfl,hg,c,b,d,hs,ht⟩⟩:=h
 .omega
 .refine⟨g,cap,U,hg,λj u a=>?_⟩;have e:=vbn (λq:List Value=>q[j]?) ht;have i:j<l.length:=by grind
  simp only[List.getElem?_take,vdl]at e;rw[vdi AY,a]at e;exact((ag.rules (show ag w g bc _ from c)).1 j).trans e
def rO.read{l:uaf}{w:aH}{v:Value}(h:rO n0 l w v)(a:l.length<=1000000):(cP 1 kw l).R w v:=by
 rcases vbh l.length with h0|h0
 .have e:l=[]:=List.eq_nil_of_length_eq_zero h0;subst e;obtain⟨-,⟨rfl,hn⟩|⟨g,cap,bc,rfl,-⟩⟩:=h
  .exact bw.nil _ _ _
  .exact⟨_,_,U,Ab,λi hi=>AN⟩
 .obtain⟨g,cap,rfl,-,b⟩:=h.form h0;exact⟨_,_,U,AY,λi hi=>⟨g,0,U,by
   simp_all[qS,kw,q9]⟩⟩
def Hb(x y:Int)(w:aH)(v:Value):Prop:=∃b,v=.P b 0/\ag w b #[.I x,.I y] 24
def UY{a:dC}{u v:Value}(h:a.size=2)(h0:a[0]?=some u)(b:a[1]?=some v):a=#[u,v]:=by grind
def p5(x y:Int):bg:=⟨Hb x y,λ_ _ _ hb⟨b,e,h⟩=>⟨b,e,h.call hb⟩,λ_=>True,λn _ ρ w w' v v' hc hv⟨b,e,h⟩=>by
 subst e
 obtain⟨b',rfl,r⟩:=wH hv
 obtain⟨c',k1,k2,key⟩:=wX hc r h
 obtain⟨u0,q0,e0⟩:=key 0 _ U
 obtain⟨u1,aQ,e1⟩:=key 1 _ U
 rw[d9 e0]at q0
 rw[d9 e1]at aQ
 exact⟨b',U,UY k2 q0 aQ▸k1⟩⟩
def Hb.On{x y:Int}{w:aH}{v:Value}(h:Hb x y w v):(AQ x y).R w v:=by obtain⟨b,rfl,h⟩:=h;exact⟨b,0,U,h.rules.1 _,h.rules.1 _⟩
def KB(v:Value):Prop:=∃a n c,v=.slice a n c
def rj(n0:Nat)(w:aH)(v:Value):Prop:=∃b b9 bt,v=.P b 0/\n0<=b/\ag w b #[.I 1,.I 0,b9,.N,bt] 30/\KB b9/\KB bt
def ZI(n0:Nat):bg:=⟨rj n0,λ_ _ _ hb⟨b,b9,bt,e,h1,h2,h3⟩=>⟨b,b9,bt,e,h1,h2.call hb,h3⟩,λn=>n=n0,λn hn ρ w w' v v' hc hv⟨b,b9,bt,e,h1,h2,⟨bR,jx,du,e3⟩,⟨cu,wd,c4,e4⟩⟩=>by
 subst e hn e3 e4
 obtain⟨b',rfl,r⟩:=wH hv
 obtain⟨c',k1,k2,key⟩:=wX hc r h2
 obtain⟨u0,q0,e0⟩:=key 0 _ U
 obtain⟨u1,aQ,e1⟩:=key 1 _ U
 obtain⟨u2,aT,e2⟩:=key 2 _ U
 obtain⟨u3,q3,e3⟩:=key 3 _ U
 obtain⟨u4,q4,e4⟩:=key 4 _ U
 obtain⟨dF,rfl⟩:=Iv e2
 obtain⟨ku,rfl⟩:=Iv e4
 rw[d9 e0]at q0
 rw[d9 e1]at aQ
 rw[gW e3]at q3
 refine⟨b',.slice dF jx du,.slice ku wd c4,U,hc.new _ _ r h1,?_,⟨_,_,_,U⟩,⟨_,_,_,U⟩⟩
 have:c'=#[.I 1,.I 0,.slice dF jx du,.N,.slice ku wd c4]:=by
  apply vch
  intro i
  match i with
  |0=>exact q0
  |1=>exact aQ
  |2=>exact aT
  |3=>exact q3
  |4=>exact q4
  |i+5=>grind
 grind⟩
abbrev UZ(aA:Nat):Array Value:=#[.I 1,.I 0,.I 0,.N,.N,.N,.N,.I 5,.I 0,.I 0,.N,.N,.N,.S aA 0 1 1]
def En(w:aH)(v:Value):Prop:=∃c7 aA,v=.S c7 0 2 2/\ag w c7 (UZ aA) 34/\ag w aA #[.I 2,.I 0] 37
def pb:bg:=⟨En,λ_ _ _ hb⟨c7,aA,e,h1,h2⟩=>⟨c7,aA,e,h1.call hb,h2.call hb⟩,λ_=>True,λn _ ρ w w' v v' hc hv⟨c7,aA,e,h1,h2⟩=>by
 subst e
 obtain⟨b',rfl,r⟩:=qp hv
 obtain⟨l',k1,k⟩:=atx hc r h1
 cases k with
 |cons dn k=>cases k with
  |cons cK k=>cases k with
   |cons c_ k=>cases k with
    |cons hX k=>cases k with
     |cons ir k=>cases k with
      |cons hY k=>cases k with
       |cons yU k=>cases k with
        |cons qz k=>cases k with
         |cons e9 k=>cases k with
          |cons e_ k=>cases k with
           |cons fa k=>cases k with
            |cons fb k=>cases k with
             |cons fc k=>cases k with
              |cons fd k=>
               cases k
               obtain⟨g',rfl,rg⟩:=qp fd
               rw[d9 dn,d9 cK,d9 c_,gW hX,gW ir,gW hY,gW yU,d9 qz,d9 e9,d9 e_,gW fa,gW fb,gW fc]at k1
               obtain⟨c',aQ,aT,key⟩:=wX hc rg h2
               obtain⟨u0,Gh,e0⟩:=key 0 _ U
               obtain⟨u1,eM,e1⟩:=key 1 _ U
               rw[d9 e0]at Gh
               rw[d9 e1]at eM
               exact⟨b',g',U,k1,UY aT Gh eM▸aQ⟩⟩
def En.On{w:aH}{v:Value}(h:En w v):ua w v:=by
 obtain⟨d,aA,rfl,c,b⟩:=h;refine⟨d,0,2,aA,0,1,U,λj x a=>?_,λj x a=>?_,b.rules.1 _,b.rules.1 _⟩
 .rw[c.rules.1];match j with|0|1|2|3|4|5|6=>exact a|j+7=>simp[fR]at a
 .rw[c.rules.1];grind[fR]
section
variable{N:Nat}{K:bZ}{o:Oper}{F:bg}{x y:uaq}{ats:uau}
def qN{m n:Int}(a:o.op=.box 24 x)(b:bq K x (rG m n)):bK (aa prog true) N K o (p5 m n):=dy b λev w h=>by have h:ev x=.agg #[.I m,.I n]:=h;exact⟨.P w.heap.size 0,_,Aq,⟨w.heap.size,U,ag.new w _ _⟩,(vaa _ w).alloc IB _⟩
def ZE{m n:Int}(a:o.op=.load 24 x)(c:bq K x (p5 m n)):bK (aa prog true) N K o (rG m n):=dy c λev w h=>by obtain⟨b,e,h⟩:=h;obtain⟨g,d,f⟩:=h.all;clear h;exact⟨.agg #[.I m,.I n],w,Aq,U,vaa _ _⟩
def qu{s B:Nat}{n:Int}(b:o.op=.buildSlice 26 1 #[(0,x)])(c:bq K x (a3 n))(hs:K s=some (vr B F)):bK (aa prog true) N K o (UX B [n]):=λa w hk=>by obtain⟨v,-,d,-⟩:=hk.has s _ hs;have e:a.eval x=.I n:=hk.ev c;refine .inl ⟨.S w.heap.size 0 1 1,w.alloc (.cells #[.I n] 2),?_,⟨by simp[qS],.inr ⟨w.heap.size,1,_,U,d,ag.new w _ _,Ab,AX,Ab,by simp[qS]⟩⟩,(vaa _ w).alloc IB _⟩;generalize a.eval=ev at e⊢;cases o;simp only at b;subst b;go_simp
def Zn(c:o.op=.call {callee:=.value (.func 5),args:=#[x],argTypes:=ats})(b:bq K x (a3 0)):bK (aa prog true) N K o (fl (.agg #[.I 1,.I 0,.I 0,.N,.N,.N,.N])):=M3 c (λa w=>apv a w) b λv w h=>by cases h;refine(apx 0 w).mono ?_;rintro e w' ⟨rfl,d⟩;exact⟨_,U,U,d⟩
def Zi(a:o.op=.build 37 #[(0,x),(1,y)])(d:bq K x (a3 2))(c:bq K y (a3 0)):bK (aa prog true) N K o (fl (.agg #[.I 2,.I 0])):=wV d c λev w h b=>by have h:ev x=.I 2:=h;have b:ev y=.I 0:=b;exact⟨_,w,Aq,U,vaa _ _⟩
def qm:bg:=⟨λw v=>∃aA,v=.S aA 0 1 1/\ag w aA #[.I 2,.I 0] 37,λ_ _ _ hb⟨aA,e,h⟩=>⟨aA,e,h.call hb⟩,λ_=>False,λ_ h=>h.elim⟩
def qi:bg:=⟨λw v=>∃aA,v=.agg #[.I 5,.I 0,.I 0,.N,.N,.N,.S aA 0 1 1]/\ag w aA #[.I 2,.I 0] 37,λ_ _ _ hb⟨aA,e,h⟩=>⟨aA,e,h.call hb⟩,λ_=>False,λ_ h=>h.elim⟩
def Y9(a:o.op=.buildSlice 32 1 #[(0,x)])(b:bq K x (fl (.agg #[.I 2,.I 0]))):bK (aa prog true) N K o qm:=dy b λev w h=>by have h:ev x=.agg #[.I 2,.I 0]:=h;exact⟨_,w.alloc (.cells #[.I 2,.I 0] 37),Aq,⟨w.heap.size,U,ag.new w _ _⟩,(vaa _ w).alloc IB _⟩
def YN(b:o.op=.build 34 #[(0,.const (.I 5)),(1,.const (.I 0)),(6,x)])(c:bq K x qm):bK (aa prog true) N K o qi:=λa w hk=>by obtain⟨aA,e,h⟩:=hk.ev c;refine .inl ⟨.agg #[.I 5,.I 0,.I 0,.N,.N,.N,.S aA 0 1 1],w,?_,⟨aA,U,h⟩,vaa _ _⟩;clear h;have f:a.eval (.const (.I 5))=.I 5:=rfl;have d:a.eval (.const (.I 0))=.I 0:=rfl;generalize a.eval=ev at e f d⊢;cases o;simp only at b;subst b;go_simp
def YI(a:o.op=.buildSlice 38 2 #[(0,x),(1,y)])(d:bq K x (fl (.agg #[.I 1,.I 0,.I 0,.N,.N,.N,.N])))(c:bq K y qi):bK (aa prog true) N K o pb:=wV d c λev w h f=>by have h:ev x=.agg #[.I 1,.I 0,.I 0,.N,.N,.N,.N]:=h;obtain⟨aA,e,hg⟩:=f;have b:cC w (w.alloc (.cells (UZ aA) 34)):=(vaa _ w).alloc IB _;have g:=hg.call b;clear hg;exact⟨.S w.heap.size 0 2 2,w.alloc (.cells (UZ aA) 34),Aq,⟨w.heap.size,aA,U,ag.new w _ _,g⟩,b⟩
def YE{n:Int}{T:uaa}(b:o.op=.unOp .neg T x)(c:bq K x (a3 n))(a:fg (-n))(d:T=2):bK (aa prog true) N K o (a3 (-n)):=dy c λev w h=>by have h:ev x=.I n:=h;unfold fg at a;subst d;exact⟨.I (-n),w,by cases o;simp only at b;subst b;go_simp;exact IntWalk.i64_in _ a,U,vaa _ _⟩
def qg{c:bQ}(f:o.op=.buildSlice 39 1 #[(0,x)])(k:bq K x (T3 c)):bK (aa prog true) N K o (cP 5 tQ [c]):=dy k λev w h=>by obtain⟨b9,vs,m,e,h⟩:=h;obtain⟨d,ci,a,b,an,j,rfl,rfl,rfl⟩:=h.shape;have g:cC w (w.alloc (.cells #[.I c.kind,.I c.cY,.slice d c.k7.length ci,.slice a c.jC.length b,.slice an c.j_.length j] 30)):=(vaa _ w).alloc IB _;have bI:=ag.new w #[.I c.kind,.I c.cY,.slice d c.k7.length ci,.slice a c.jC.length b,.slice an c.j_.length j] 30;have l:=h.mono (bm.b4 g);clear h;refine⟨.S w.heap.size 0 1 1,_,by cases o;simp only at f;subst f;go_simp,⟨_,_,U,Ab,λi hi=>⟨w.heap.size,0,U,?_⟩⟩,g⟩;obtain rfl:i=0:=AN;exact⟨_,_,_,bI.rules.1 _,bI.rules.1 _,bI.rules.1 _,bI.rules.1 _,bI.rules.1 _,l⟩
def n7{t:List bQ}(a:o.op=.build 41 #[(0,x)])(b:bq K x (cP 5 tQ t)):bK (aa prog true) N K o (Gb t):=dy b λev w h=>by obtain⟨c,cap,e,-⟩:=id h;refine⟨.agg #[ev x],w,?_,⟨_,U,h⟩,vaa _ _⟩;clear h;cases o;simp only at a;subst a;go_simp
def kD{t:List bQ}(a:o.op=.buildSlice 44 1 #[(0,x)])(d:bq K x (Gb t)):bK (aa prog true) N K o (zj t):=dy d λev w h=>by obtain⟨c,e,h⟩:=h;obtain⟨g,cap,rfl,-⟩:=id h;have b:cC w (w.alloc (.cells #[.slice g t.length cap] 41)):=(vaa _ w).alloc IB _;have f:=bw.mono q_ (bm.b4 b) h;clear h;exact⟨.S w.heap.size 0 1 1,_,Aq,⟨w.heap.size,0,1,_,U,(ag.new w _ _).rules.1 0,f⟩,b⟩
def kA{n:Nat}(f:o.op=.makeSlice 27 x y)(e:bq K x (a3 n))(d:bq K y (a3 n))(hn:n<=1000):bK (aa prog true) N K o (cP 1 y4 (List.replicate n false)):=λa w hk=>by
 have c:a.eval x=.I n:=hk.ev e;have b:a.eval y=.I n:=hk.ev d;have bI:=ag.new w (Array.replicate n (.F)) 4;refine .inl ⟨.S w.heap.size 0 n n,w.alloc (.cells (Array.replicate n (.F)) 4),?_,⟨_,n,AN,AN,λi hi=>⟨w.heap.size,0,U,?_⟩⟩,(vaa _ w).alloc IB _⟩
 .obtain⟨i,j,h,g,k⟩:=vbt (show(prog.info? 4).map (λi=>(i.zero,i.size,i.bytes))=some (some (.F),1,1)from AU);have:=run_make (P:=aa prog true) w 27 4 i _ BB j h .i64 .i64 n n AY AY AN AY;generalize a.eval=ev at c b⊢;simp[execOp,f,c,b,this,g,madeCells,go_sem];rw[show(λx=>[Value.bool false][x % 1]?.getD default)=λ_:Nat=>Value.bool false from vee λx=>AN,show Array.map (λ_:Nat=>Value.bool false) (Array.range n)=Array.replicate n (.F)from Array.ext Ab AN]
 .rw[List.length_replicate]at hi;show(w.alloc _).cell? _=_;simp_all
end
end
variable{P:ck}
section
variable{n0:Nat}
def Hc(F:Func):Code:=.seq (.region 21 (aP F 21) false) .ret
def YA(F:Func):Code:=.seq (.region 20 (aP F 20) true) (Hc F)
def Oo(F:Func):Code:=.seq (.region 17 (aP F 17) false) (.seq (.region 18 (aP F 18) false) (.seq (.region 19 (aP F 19) false) (YA F)))
def Oq(F:Func):Code:=.seq (.seq (.region 15 (aP F 15) false) (.cond (.tmp 107) (.seq (.region 16 (aP F 16) false) .ret) .skip)) (Oo F)
def Hd(F:Func):Code:=.seq (.region 12 (aP F 12) false) (.seq (.region 13 (aP F 13) false) (.seq (.region 14 (aP F 14) false) (Oq F)))
def Eo(F:Func):Code:=.seq (.seq (.region 9 (aP F 9) false) (.cond (.tmp 49) .skip (.exit 2))) (.seq (.block 3 (.region 11 (aP F 11) false)) (.region 10 (aP F 10) false))
def A0(F:Func):Code:=.seq (.seq (.region 8 (aP F 8) false) (.block 2 (.loop (Eo F)))) (Hd F)
def kz(F:Func):Code:=.seq (.seq (.region 4 (aP F 4) false) (.cond (.tmp 32) .skip (.exit 0))) (.seq (.block 1 (.seq (.region 6 (aP F 6) false) (.region 7 (aP F 7) false))) (.region 5 (aP F 5) false))
def kt(F:Func):Code:=.seq (.region 0 (aP F 0) false) (.seq (.region 1 (aP F 1) false) (.seq (.region 2 (aP F 2) false) (.seq (.seq (.region 3 (aP F 3) false) (.block 0 (.loop (kz F)))) (A0 F))))
def ko(F:Func):List Item:=[.inLoop (kz F),.inBlock 0,.code (A0 F)]
def v_(F:Func):List Item:=.code (.cond (.tmp 32) .skip (.exit 0)):: .code (.seq (.block 1 (.seq (.region 6 (aP F 6) false) (.region 7 (aP F 7) false))) (.region 5 (aP F 5) false))::ko F
def KC(F:Func):List Item:=.code (.region 7 (aP F 7) false):: .inBlock 1:: .code (.region 5 (aP F 5) false)::ko F
theorem Yu:Tryz.f3.body=some (kt Tryz.f3):=by kernel_rfl
def ki{t e:uaa}{z:Value}{bytes:Nat}(E:rh P t e z 1 bytes){ops:eQ}{N i d1 h f sv:Nat}{d b:Oper}{K:bZ}{a:Act}{w:aH}{rest:uag}{Q:uap}(o:ops[i]?=some d)(m:ops[i+1]?=some b)(g1:d.guard=none)(A:b.guard=none)(q:d.dst=some d1)(u:b.dst=some sv)(l:d.op=.call {callee:=.builtin .append,args:=#[.tmp h,.tmp f],argTypes:=#[t,t]})(O:b.op=.assign (.tmp d1))(hs:d1<N/\sv<N)(hk:af N K a w){v x:Value}(D:K h=some (fl v))(C:K f=some (tW [x])){B n:Nat}{xs:uam}(F:w.ownsRow B e 1 v n xs)(M:x.oneCell'=true)(hn:n+1<=1000000)(r:bytes<=1000)(y:B<=w.heap.size)(k:∀a' w1 v',w1.ownsRow B e 1 v' (n+1) (xs++[x])->w.grownBy w1 v.ownBlock->a'.tmps[sv]?=some v'->(∀s,s≠d1->s≠sv->a'.tmps[s]?=a.tmps[s]?)->a'.tmps.size=N->a'.defers=a.defers->wpOps P ops Q rest a' w1):wpOps P ops Q (i::(i+1)::rest) a w:=by
 obtain⟨v0,I,rfl⟩:=hk.has h _ D;obtain⟨u2,H,g,c,rfl,J⟩:=hk.has f _ C;refine fP (R:=λa1 w1=>∃v',a1=a.put (some d1) v'/\w1.ownsRow B e 1 v' (n+1) (xs++[x])/\w.grownBy w1 v0.ownBlock) (tS E o g1 q l (cd I) F (cd H) U J AN hn r y λv' w' r1 j L=>⟨v',U,r1,j⟩) ?_;rintro a1 w1 ⟨v',rfl,r1,j⟩;refine fP (R:=λp w2=>p=(a.put (some d1) v').put (some sv) v'/\w2=w1) (ip m A u (v:=v') (w1:=w1) ?_ ⟨U,U⟩) ?_
 .have:=cd (a:=a.put (some d1) v') (t:=d1) (ja (by rw[hk.size];grind));simp_all[execOp]
 rintro p w2 ⟨rfl,rfl⟩;exact k _ w2 v' r1 j (ja (by rw[iz,hk.size];grind)) (λs o m=>(et (Ne.symm m)).trans (et (Ne.symm o))) (by rw[iz,iz];exact hk.size) EQ
abbrev gM(n0:Nat)(l:uaf)(x y x' y' bN:Int):List (Nat×bg):=[(6,p5 x y),(7,p5 x' y'),(9,a3 bN),(10,UX n0 l)]
section
variable{x y x' y' bN:Int}{l:uaf}{bY len:Nat}{a:Act}{w:aH}
def aw0{b:Int}(c:fg b)(hd:a.defers=[])(hn:n0<=w.heap.size)(hk:af 160 (be [(1,a3 b),(2,rG x y),(3,rG x' y'),(159,mX)]) a w):
 cb (aa prog true) [.code (kt Tryz.f3)] (.R (aP Tryz.f3 4) (List.range' 1 7)::v_ Tryz.f3) (λa1 w1=>a1.defers=[]/\af 160 (be ((25,a3 (0:Nat))::(11,a3 (0:Nat))::gM n0 [jc b 1000] x y x' y' (jc b 1000))) a1 w1/\Below n0 w w1) a w:=by
 obtain⟨u,d,l⟩:=hk.has 159 _ U;have hk:=bX (F:=vr n0 mX) d ⟨hn,l⟩ hk;refine cG ?_;rw[kj (aP Tryz.f3 0)];refine f5 hk (aC U (qN U U)<|aC U (qN U U)<|aC U (eD (F:=gB false) U IX)<|rfl) λa1 w1 k d1 b1=>cG ?_;rw[kj (aP Tryz.f3 1)];refine f5 k (aC U IW<|aC U (GJ U U IX c AX)<|aC U In<|rfl) λD w2 j q t=>cG ?_;rw[kj (aP Tryz.f3 2)];refine f5 j (aC U IW<|aC U (qu (s:=159) U U U)<|aC U In<|rfl) λC z i p r=>cG (cG ?_);rw[kj (aP Tryz.f3 3)];refine f5 i (aC U (eD (F:=a3 (0:Nat)) U IX)<|rfl) λB v h o cH=>wG (QT (cG (cG (ra ?_))));rw[kj (aP Tryz.f3 4)];refine(show cb _ (.R _ (List.range' 0 (1+7))::_) _ _ _ _ from k_ h (aC U IW<|rfl) AX λA gg m n cr=>i9 ⟨n.trans (o.trans (p.trans (q.trans (d1.trans hd)))),m.a7 ⟨U,U,U,U,U,U,PA⟩,?_⟩);have g:=b1.trans (t.mono b1.size);have f:=g.trans (r.mono g.size);have e:=f.trans (cH.mono f.size);exact(e.trans (cr.mono e.size)).mono hn
def aw2(d:bY<len)(c:bY<18)(hd:a.defers=[])(hn:n0<=w.heap.size)(hk:af 160 (be ((25,a3 bY)::(27,a3 len)::(11,a3 bY)::gM n0 l x y x' y' bN)) a w):
 cb (aa prog true) (.R (aP Tryz.f3 4) (List.range' 3 5)::v_ Tryz.f3) (.R (aP Tryz.f3 6) (List.range' 0 7)::KC Tryz.f3) (λa1 w1=>a1.defers=[]/\af 160 (be ((11,a3 bY)::gM n0 l x y x' y' bN)) a1 w1/\Below n0 w w1) a w:=by
 unfold v_ KC;rw[kj (aP Tryz.f3 4)];refine(show cb _ (.R _ (List.range' 3 (5+0))::_) _ _ _ _ from k_ hk (aC U (SF U U U AX AY)<|aC U (cQ rfl rfl)<|gC U (cQ rfl rfl)<|gC U (SF (n:=18) U U (λ_=>rfl) AX AY)<|aC U (b3 (F:=gB true) U U U)<|rfl) AX λa1 w1 b d1 b1=>tA (lz (t:=true) (rr b U U) (x7 (cG (wG (cG (ra ?_)))))));rw[kj (aP Tryz.f3 6)];exact i9 ⟨d1.trans hd,b.a7 ⟨U,U,U,U,U,PA⟩,b1.mono hn⟩
def aw3(h:¬(bY<len/\bY<18))(hd:a.defers=[])(hn:n0<=w.heap.size)(hk:af 160 (be ((25,a3 bY)::(27,a3 len)::(11,a3 bY)::gM n0 l x y x' y' bN)) a w):
 cb (aa prog true) (.R (aP Tryz.f3 4) (List.range' 3 5)::v_ Tryz.f3) [.code (A0 Tryz.f3)] (λa1 w1=>a1.defers=[]/\af 160 (be (gM n0 l x y x' y' bN)) a1 w1/\Below n0 w w1) a w:=by
 unfold v_;rw[kj (aP Tryz.f3 4)];by_cases c:bY<len
 .refine(show cb _ (.R _ (List.range' 3 (5+0))::_) _ _ _ _ from k_ hk (aC U (SF U U U AX AY)<|aC U (cQ rfl rfl)<|gC U (cQ rfl rfl)<|gC U (M1 (n:=18) U U (λ_=>rfl) AX AY)<|aC U (b3 (F:=gB false) U U U)<|rfl) AX λa1 w1 b d1 b1=>tA (lz (t:=false) (rr b U U) (L5 U (i9 ⟨d1.trans hd,b.a7 ⟨U,U,U,U,PA⟩,b1.mono hn⟩))))
 .refine(show cb _ (.R _ (List.range' 3 (5+0))::_) _ _ _ _ from k_ hk (aC U (M1 U U U AX AY)<|aC U IW<|Yi U<|Yi U<|aC U (b3 (F:=gB false) U U IX)<|rfl) AX λa1 w1 b d1 b1=>tA (lz (t:=false) (rr b U U) (L5 U (i9 ⟨d1.trans hd,b.a7 ⟨U,U,U,U,PA⟩,b1.mono hn⟩))))
def zw{T:uaa}{w w':aH}{v:Value}(h:nJ T w w')(c:T=2\/T=30)(hv:Hb x y w v):Hb x y w' v:=by obtain⟨b,rfl,a⟩:=hv;exact⟨b,U,h.box (by rcases c with rfl|rfl<;>decide) a⟩
def aw4{c:Int}(Q:fg c)(W:l.length<=1000)(hd:a.defers=[])(hn:n0<=w.heap.size)(PG:bY<=1000)(hk:af 160 (be ((38,a3 c)::(11,a3 bY)::gM n0 l x y x' y' bN)) a w):
 cb (aa prog true) (.R (aP Tryz.f3 6) (List.range' 4 3)::KC Tryz.f3) (.R (aP Tryz.f3 4) (List.range' 1 7)::v_ Tryz.f3) (λa1 w1=>a1.defers=[]/\af 160 (be ((25,a3 (bY+1:Nat))::(11,a3 (bY+1:Nat))::gM n0 (l++[9223372036854775807-jc c 1000]) x y x' y' bN)) a1 w1/\Below n0 w w1) a w:=by
 have V:=y3 c (n:=1000) AY;unfold KC;rw[kj (aP Tryz.f3 6)];refine(show cb _ (.R _ (List.range' 4 (3+0))::_) _ _ _ _ from k_ hk (aC rfl (GJ rfl rfl IX Q AX)<|aC rfl (Ji (m:=9223372036854775807) rfl IX rfl Bt AX)<|aC rfl In<|rfl) AX λa1 w1 b d1 b1=>tA ?_);have b:af 160 (be ((12,a3 (9223372036854775807-jc c 1000))::(11,a3 bY)::gM n0 l x y x' y' bN)) a1 w1:=b.a7 ⟨rfl,rfl,rfl,rfl,rfl,rfl,PA⟩;obtain⟨v10,s,I⟩:=b.has 10 _ rfl;have b:=bX (F:=fl v10) s rfl b;rw[kj (aP Tryz.f3 7)];refine Jl (m:=3) b (aC rfl IW<|aC rfl IW<|aC rfl (T4 rfl rfl)<|rfl) AX λZ w2 d L r=>?_;have g:=D9 I r;have h:=b1.trans (r.mono b1.size);refine ki (i:=3) (sv:=10) Jd rfl rfl rfl rfl rfl rfl rfl rfl AX d rfl rfl g rfl AY AX (vac hn h.size) λM k v' r1 o P f O B=>nX (Iu ?_);have p:=nJ.grown g o;obtain⟨U,z,A⟩:=d.has 6 _ rfl;obtain⟨T,C,v⟩:=d.has 7 _ rfl;obtain⟨S,u,t⟩:=d.has 9 _ rfl;obtain⟨v11,N,j⟩:=d.has 11 _ rfl;have E:af 160 (be ((11,a3 bY)::gM n0 (l++[9223372036854775807-jc c 1000]) x y x' y' bN)) M k:=
  bX ((f 11 AX AX).trans N) j<|bX ((f 6 AX AX).trans z) (zw p Ij A)<|bX ((f 7 AX AX).trans C) (zw p Ij v)<|bX ((f 9 AX AX).trans u) t<|bX P (by
   show World.ownsRow _ _ _ _ _ _ _;rw[List.length_append,Om];exact r1)<|mF O
 have q:Below n0 w k:=(h.mono hn).trans (T5 g o (vac hn h.size));rw[kj (aP Tryz.f3 5)];refine f5 E (aC rfl IW<|aC rfl (F8 (n:=1) rfl rfl IX Bt AX)<|aC rfl In<|rfl) λY R D K cH=>QU (cG (cG (ra ?_)));rw[kj (aP Tryz.f3 4)];refine(show cb _ (.R _ (List.range' 0 (1+7))::_) _ _ _ _ from k_ D (aC rfl IW<|rfl) AX λX gg H J cr=>i9 ⟨J.trans (K.trans (B.trans (L.trans (d1.trans hd)))),H.a7 ⟨rfl,rfl,rfl,rfl,rfl,rfl,PA⟩,?_⟩);have e:=q.trans (cH.mono (vac hn q.size));exact e.trans (cr.mono (vac hn e.size))
end
end
section
variable{n0:Nat}
section
variable{N:Nat}{K:bZ}{o:Oper}{F:bg}{x y:uaq}
def aw6{v:Value}(b:o.op=.move x)(a:bq K x (Ay v F)):bK P N K o (fl v):=dy a λev w h=>⟨_,w,Hy,h.1,vaa _ _⟩
def aw7(l:uaf)(w:aH)(v:Value):Prop:=∃b9 bt,v=.agg #[.I 1,.I 0,b9,.N,bt]/\(cP 1 kw l).R w b9/\(cP 1 y4 (List.replicate l.length false)).R w bt
def j7(l:uaf):bg:=⟨aw7 l,λ_ _ _ hb⟨b9,bt,e,h1,h2⟩=>⟨b9,bt,e,(cP 1 kw l).fZ _ _ _ hb h1,(cP 1 y4 _).fZ _ _ _ hb h2⟩,λ_=>False,λ_ h=>h.elim⟩
def Ep(n0:Nat)(l:uaf)(w:aH)(v:Value):Prop:=∃b b9 bt,v=.P b 0/\n0<=b/\ag w b #[.I 1,.I 0,b9,.N,bt] 30/\(cP 1 kw l).R w b9/\(cP 1 y4 (List.replicate l.length false)).R w bt
def U0(n0:Nat)(l:uaf):bg:=⟨Ep n0 l,λ_ _ _ hb⟨b,b9,bt,e,h0,h,h1,h2⟩=>⟨b,b9,bt,e,h0,h.call hb,(cP 1 kw l).fZ _ _ _ hb h1,(cP 1 y4 _).fZ _ _ _ hb h2⟩,λ_=>False,λ_ h=>h.elim⟩
def U1{ao:Type}{sz:Nat}{r:Rd ao}{xs:List ao}{w:aH}{v:Value}(h:(cP sz r xs).R w v):KB v:=by obtain⟨a,cap,rfl,-⟩:=h;exact⟨_,_,_,U⟩
def Ep.dV{l:uaf}{w:aH}{v:Value}(h:Ep n0 l w v):rj n0 w v:=by obtain⟨b,b9,d,e,h0,h,c,a⟩:=h;exact⟨b,b9,d,e,h0,h,U1 c,U1 a⟩
def Ep.rd{l:uaf}{w:aH}{v:Value}(h:Ep n0 l w v):(gh tQ (gr l)).R w v:=by obtain⟨b,b9,d,e,h0,h,c,a⟩:=h;exact⟨b,0,e,b9,.N,d,h.rules.1 _,h.rules.1 _,h.rules.1 _,h.rules.1 _,h.rules.1 _,⟨c,bw.nil _ _ _,a⟩⟩
def aw8{l:uaf}(d:o.op=.build 30 #[(0,.const (.I 1)),(2,x),(4,y)])(f:bq K x (cP 1 kw l))(e:bq K y (cP 1 y4 (List.replicate l.length false))):bK (aa prog true) N K o (j7 l):=λa w hk=>by have c:=hk.ev f;have b:=hk.ev e;obtain⟨a1,c1,h,-⟩:=id c;obtain⟨j,cg,g,-⟩:=id b;refine .inl ⟨.agg #[.I 1,.I 0,a.eval x,.N,a.eval y],w,?_,⟨_,_,U,c,b⟩,vaa _ _⟩;clear c b;have i:a.eval (.const (.I 1))=.I 1:=rfl;generalize a.eval=ev at i h g⊢;cases o;simp only at d;subst d;go_simp
def aw9{l:uaf}(d:o.op=.load 30 x)(g:bq K x (U0 n0 l)):bK (aa prog true) N K o (T3 (gr l)):=dy g λev w h=>by obtain⟨b,b9,n,e,-,h,c,a⟩:=h;obtain⟨f,ci,rfl,-⟩:=id c;obtain⟨an,i,rfl,-⟩:=id a;obtain⟨m,j,k⟩:=h.all;refine⟨.agg #[.I 1,.I 0,.slice f l.length ci,.N,.slice an (List.replicate l.length false).length i],w,?_,⟨_,_,_,U,⟨c,bw.nil _ _ _,a⟩⟩,vaa _ _⟩;clear h c a;cases o;simp only at d;subst d;go_simp
def Yt{ops:eQ}{b:Oper}{i d s:Nat}{Q:uap}{rest:uag}{a:Act}{w:aH}{l:uaf}(t:ops[i]?=some o)(r:ops[i+1]?=some b)(m:o.op=.alloc 30)(h:b.op=.store 30 (.tmp d) (.tmp s))(q:K s=some (j7 l))(hn:n0<=w.heap.size)(hk:af N K a w)(hd:o.dst=some d)(p:b.dst=none)(g1:o.guard=none)(x:b.guard=none)(a5:d<N)(A:d≠s)(k:∀a' w1,af N (up K d (U0 n0 l)) a' w1->a'.defers=a.defers->cC w w1->wpOps (aa prog true) ops Q rest a' w1):wpOps (aa prog true) ops Q (i::(i+1)::rest) a w:=by
 obtain⟨v,y,b9,B,rfl,r1,c⟩:=hk.has s _ q;obtain⟨j,ci,rfl,-⟩:=id r1;obtain⟨an,n,rfl,-⟩:=id c;have e:cC w (w.alloc (.cells #[.I 1,.I 0,.slice j l.length ci,.N,.slice an (List.replicate l.length false).length n] 30)):=(vaa _ w).alloc IB _;have bI:=ag.new w #[.I 1,.I 0,.slice j l.length ci,.N,.slice an (List.replicate l.length false).length n] 30;have g:=(cP 1 kw l).fZ _ _ _ e r1;have f:=(cP 1 y4 _).fZ _ _ _ e c;refine SI (F:=U0 n0 l) (F9:=w.alloc (.cells #[.I 0,.I 0,.N,.N,.N] 30)) t r g1 x hd p a5 A hk y (λev=>?_) (λev D C=>?_) e ⟨w.heap.size,_,_,U,hn,bI,g,f⟩ λa' z u=>k a' _ z u e
 .clear bI g f r1 c;cases o;simp only at m;subst m;go_simp
 .clear bI g f r1 c;cases b;simp only at h;subst h;go_simp
end
def kC(l:uaf)(i:Nat):List Int:=l++(l.drop (i+1)).reverse.map λz=> -z
def S_(l:uaf)(i:Nat):(kC l i).length<=2*l.length:=by simp[kC];omega
def S3(l:uaf){i j:Nat}(h:j<l.length):(kC l i)[j]?=some l[j]:=by simp[kC,List.getElem?_append_left,h]
def SN(l:uaf){i:Nat}(h:i+1<l.length):kC l i=kC l (i+1)++[-l[i+1]]:=by grind[kC,List.drop_eq_getElem_cons]
section
variable{x y x' y' bN:Int}{l:uaf}{a:Act}{w:aH}
def SC{i:Nat}{ks ks':uab}{Q:uak}(V:l.length<=1000)(hi:i+1<l.length)(H:fg (-l[i+1]))(hn:n0<=w.heap.size)(hk:af 160 (be ((13,a3 (i+1:Nat))::gM n0 (kC l (i+1)) x y x' y' bN)) a w)(kk:∀a' w',Below n0 w w'->af 160 (be ((13,a3 i)::gM n0 (kC l i) x y x' y' bN)) a' w'->a'.defers=a.defers->cb (aa prog true) (.code (Eo Tryz.f3):: .inLoop (Eo Tryz.f3)::ks) ks' Q a' w'):
 cb (aa prog true) (.code (Eo Tryz.f3):: .inLoop (Eo Tryz.f3)::ks) ks' Q a w:=by
 have X:=S_ l (i+1);refine cG (cG ?_);rw[kj (aP Tryz.f3 9)];refine f5 hk (aC rfl IW<|aC rfl (apD (n:=0) rfl rfl IX AX AY)<|rfl) λa1 w1 b d1 b1=>lz (t:=true) (rr b rfl rfl) (x7 (cG (wG ?_)));have b:af 160 (be ((13,a3 (i+1:Nat))::gM n0 (kC l (i+1)) x y x' y' bN)) a1 w1:=b.a7 ⟨rfl,rfl,rfl,rfl,rfl,PA⟩;obtain⟨v10,q,k⟩:=b.has 10 _ rfl;have b:=bX (F:=Ay v10 (cP 1 kw (kC l (i+1)))) q ⟨rfl,rO.read k AY⟩ b;rw[kj (aP Tryz.f3 11)];refine Jl (m:=7) b (aC rfl (aw6 rfl rfl)<|aC rfl (Jh rfl rfl)<|aC rfl IW<|aC rfl (j8 rfl rfl rfl (S3 l hi) AX)<|aC rfl It<|aC rfl (YE rfl rfl H AX)<|aC rfl (T4 rfl rfl)<|rfl) AX λW w2 c K p=>?_;have e:=D9 k p;have f:=b1.trans (p.mono b1.size);refine ki (i:=7) (sv:=10) Jd rfl rfl rfl rfl rfl rfl rfl rfl AX c rfl rfl e rfl AY AX (vac hn f.size) λM g v' r1 h R d P B=>nX (Iu ?_);have j:=nJ.grown e h;obtain⟨U,z,A⟩:=c.has 6 _ rfl;obtain⟨T,C,v⟩:=c.has 7 _ rfl;obtain⟨S,u,s⟩:=c.has 9 _ rfl;obtain⟨v13,O,N⟩:=c.has 13 _ rfl;have E:af 160 (be ((13,a3 (i+1:Nat))::gM n0 (kC l i) x y x' y' bN)) M g:=
  bX ((d 13 AX AX).trans O) N<|bX ((d 6 AX AX).trans z) (zw j Ij A)<|bX ((d 7 AX AX).trans C) (zw j Ij v)<|bX ((d 9 AX AX).trans u) s<|bX R (by
   show World.ownsRow _ _ _ _ _ _ _;rw[SN l hi,List.length_append,Om];exact r1)<|mF P
 have o:Below n0 w g:=(f.mono hn).trans (T5 e h (vac hn f.size));rw[kj (aP Tryz.f3 10)];have I:(((i+1:Nat):Int)-1)=(i:Int):=AY;refine f5 E (aC rfl IW<|aC (F:=a3 i) rfl (by rw[<-I];exact Ji (n:=1) rfl rfl IX Bt AX)<|aC rfl In<|rfl) λL r D J cH=>QU (kk L r (o.trans (cH.mono (vac hn o.size))) (D.a7 ⟨rfl,rfl,rfl,rfl,rfl,PA⟩) (J.trans (B.trans (K.trans d1))))
def St(E:l.length<=1000)(h0:0<l.length)(D:∀i(h:i+1<l.length),fg (-l[i+1])){W:aH}(hd:a.defers=[])(hn:n0<=w.heap.size)(hk:af 160 (be (gM n0 l x y x' y' bN)) a w):
 cb (aa prog true) [.code (A0 Tryz.f3)] [.code (Hd Tryz.f3)] (λa1 w1=>a1.defers=[]/\af 160 (be (gM n0 (kC l 0) x y x' y' bN)) a1 w1/\Below n0 w w1) a w:=by
 refine cG (cG ?_);obtain⟨v10,r,p⟩:=hk.has 10 _ U;have I:=bX (F:=Ay v10 (cP 1 kw l)) r ⟨U,rO.read p AY⟩ hk;rw[kj (aP Tryz.f3 8)];have H:((l.length:Int)-1)=((l.length-1:Nat):Int):=AY;refine f5 I (aC U (Jh U U)<|aC U (DC U U AX)<|aC (F:=a3 (l.length-1:Nat)) U (by rw[<-H];exact Ji (n:=1) U U IX Bt AX)<|aC U In<|rfl) λa1 w1 b d1 b1=>wG (QT ?_);have m:kC l (l.length-1)=l:=by simp[kC,Nat.sub_add_cancel h0]
 obtain⟨J,N,K⟩:=b.has 10 _ U;have b:af 160 (be ((13,a3 (l.length-1:Nat))::gM n0 (kC l (l.length-1)) x y x' y' bN)) a1 w1:=by rw[m];obtain⟨v13,M,L⟩:=b.has 13 _ U;obtain⟨Q,z,A⟩:=b.has 6 _ U;obtain⟨P,B,v⟩:=b.has 7 _ U;obtain⟨O,u,s⟩:=b.has 9 _ U;obtain⟨rfl,-⟩:=K;exact bX M L<|bX z A<|bX B v<|bX u s<|bX N (D9 p b1)<|mF b.size
 have loop:∀(i:Nat) d w2,i<l.length->Below n0 w w2->af 160 (be ((13,a3 i)::gM n0 (kC l i) x y x' y' bN)) d w2->d.defers=[]->cb (aa prog true) (.code (Eo Tryz.f3):: .inLoop (Eo Tryz.f3)::[.inBlock 2,.code (Hd Tryz.f3)]) [.code (Hd Tryz.f3)] (λa1 w1=>a1.defers=[]/\af 160 (be (gM n0 (kC l 0) x y x' y' bN)) a1 w1/\Below n0 w w1) d w2:=by intro i;induction i with|zero=>intro d w2 hi c g f;refine cG (cG ?_);rw[kj (aP Tryz.f3 9)];exact f5 g (aC U IW<|aC U (apE (n:=0) U U IX AX AY)<|rfl) λq o e j k=>lz (t:=false) (rr e U U) (L5 U (i9 ⟨j.trans f,e.a7 ⟨U,U,U,U,PA⟩,c.trans (k.mono (vac hn c.size))⟩))|succ i C=>intro d w2 hi c g f;exact SC E hi (D i hi) (vac hn c.size) g λq o k e j=>C q o AY (c.trans k) e (j.trans f)
 exact loop (l.length-1) a1 w1 AY (b1.mono hn) b (d1.trans hd)
abbrev ny(n0:Nat)(l:uaf)(x' y' bN:Int):List (Nat×bg):=[(7,p5 x' y'),(9,a3 bN),(10,UX n0 l),(14,ZI n0),(15,pb)]
def Ss(s:l.length<=1000)(hd:a.defers=[])(hn:n0<=w.heap.size)(hk:af 160 (be (gM n0 l x y x' y' bN)) a w):
 cb (aa prog true) [.code (Hd Tryz.f3)] (.R (aP Tryz.f3 14) (List.range' 6 7)::[.code (Oq Tryz.f3)]) (λa1 w1=>a1.defers=[]/\af 160 (be ((71,rG x y)::(75,zj [gr l])::(76,pb)::ny n0 l x' y' bN)) a1 w1/\Below n0 w w1) a w:=by
 obtain⟨v10,i,h⟩:=hk.has 10 _ U;have t:=bX (F:=Ay v10 (cP 1 kw l)) i ⟨U,rO.read h AY⟩ hk;refine cG ?_;rw[kj (aP Tryz.f3 12)];refine Jl (m:=5) t (aC U (Jh U U)<|aC U (Jh U U)<|aC U (DC U U AX)<|aC U (kA U U U s)<|aC U (aw8 U U U)<|rfl) AX λa1 w1 r d1 b1=>Yt (n0:=n0) U U U U U (vac hn b1.size) r U U U U AX AX λS w2 q z B=>nX (cG ?_);have g:=b1.trans (B.mono b1.size);rw[kj (aP Tryz.f3 13)];refine f5 q (aC U (Zn U IX)<|aC U (Zi U IX IX)<|aC U (Y9 U U)<|aC U (YN U U)<|aC U (YI U U U)<|aC U In<|rfl) λR N p v A=>cG (ra ?_);have c:=g.trans (A.mono g.size);rw[kj (aP Tryz.f3 14)];refine(show cb _ (.R _ (List.range' 0 (6+7))::_) _ _ _ _ from k_ p (aC U (ZE U U)<|aC U (aw9 U U)<|aC U (qg U U)<|aC U (n7 U U)<|aC U (kD U U)<|aC U IW<|rfl) AX λQ M b u cH=>i9 ⟨u.trans (v.trans (z.trans (d1.trans hd))),?_,?_⟩)
 .obtain⟨v71,f,e⟩:=b.has 71 _ U;obtain⟨v75,I,E⟩:=b.has 75 _ U;obtain⟨v76,H,D⟩:=b.has 76 _ U;obtain⟨P,o,n⟩:=b.has 7 _ U;obtain⟨O,k,j⟩:=b.has 9 _ U;obtain⟨u10,d,rfl,-⟩:=b.has 10 _ U;obtain⟨v14,L,C⟩:=b.has 14 _ U;obtain⟨v15,J,K⟩:=b.has 15 _ U;exact bX f e<|bX I E<|bX H D<|bX o n<|bX k j<|bX d (D9 h (c.trans (cH.mono c.size)))<|bX L (Ep.dV C)<|bX J K<|mF b.size
 .exact(c.trans (cH.mono c.size)).mono hn
end
end
section
variable{n0:Nat}
def KF{T:uaa}{w w':aH}{v:Value}(h:nJ T w w')(d:T=2\/T=30)(hv:En w v):En w' v:=by obtain⟨c,aA,rfl,b,a⟩:=hv;exact⟨c,aA,U,h.box AN b,h.box AN a⟩
section
variable{o:Oper}{x y:uaq}{ev:uaj}{w:aH}{b:Nat}{v0 v1 v2 v3 v4:Value}
def Ov{k:Nat}(hk:k=2\/k=4)(a:o.op=.fieldAddr 30 x k)(d:ev x=.P b 0)(c:ag w b #[v0,v1,v2,v3,v4] 30):(execOp ev o).run (aa prog true) w=.ok (.value (.P b k)) w:=by obtain⟨g,e,f⟩:=c.all;clear c;cases o;simp only at a;subst a;rcases hk with rfl|rfl<;>go_simp
def jw(a:o.op=.load 26 x)(e:ev x=.P b 2)(d:ag w b #[v0,v1,v2,v3,v4] 30)(hv:KB v2):(execOp ev o).run (aa prog true) w=.ok (.value v2) w:=by obtain⟨i,n,c,rfl⟩:=hv;obtain⟨h,f,g⟩:=d.all;clear d;cases o;simp only at a;subst a;go_simp
def ju{T:uaa}{k:Nat}{e:uad}{n c:Nat}(f:(T=26/\k=2)\/(T=27/\k=4))(a:o.op=.store T x y)(h:ev x=.P b k)(g:ev y=.slice e n c)(d:ag w b #[v0,v1,v2,v3,v4] 30):(execOp ev o).run (aa prog true) w=.ok .skip (w.setCell ⟨b,k,none⟩ (.slice e n c)):=by obtain⟨l,i,j⟩:=d.all;clear d;cases o;simp only at a;subst a;rcases f with⟨rfl,rfl⟩|⟨rfl,rfl⟩<;>go_simp
end
def jd{ops:eQ}{i d1 d D C sb b B n m g c N:Nat}{o l h:Oper}{a:Act}{w:aH}{v1 b9 H:Value}{xs news:uam}{rest:uag}{Q:uap}(t:ops[i]?=some o)(r:ops[i+1]?=some l)(T:ops[i+2]?=some h)(g1:o.guard=none)(U:l.guard=none)(P:h.guard=none)(K:o.dst=some d1)(M:l.dst=some d)(L:h.dst=none)(y:o.op=.call {callee:=.builtin .append,args:=#[.tmp D,.tmp C],argTypes:=#[26,26]})(Y:l.op=.fieldAddr 30 (.tmp sb) 2)(x:h.op=.store 26 (.tmp d) (.tmp d1))(hs:d1<N/\d<N/\d1≠d/\d1≠sb)(a5:a.tmps.size=N)(W:a.tmps[D]?=some v1)(V:a.tmps[C]?=some (.S g 0 m c))(Z:a.tmps[sb]?=some (.P b 0))(v:w.ownsRow B 2 1 v1 n xs)(hl:news.length=m)(z:∀j u,news[j]?=some u->w.cell? (.a g j)=some u)(O:∀u∈news,u.oneCell'=true)(A9:n+m<=1000000)(F:B<=w.heap.size)(GX:B<=b)(S:ag w b #[.I 1,.I 0,b9,.N,H] 30)(k:∀a' w1 w' v',w'.ownsRow B 2 1 v' (n+m) (xs++news)->ag w' b #[.I 1,.I 0,v',.N,H] 30->nJ 2 w w1->nJ 30 w1 w'->Below B w w'->(∀s,s≠d1->s≠d->a'.tmps[s]?=a.tmps[s]?)->a'.tmps.size=N->a'.defers=a.defers->wpOps (aa prog true) ops Q rest a' w'):wpOps (aa prog true) ops Q (i::(i+1)::(i+2)::rest) a w:=by
 refine fP (R:=λa1 w1=>∃v',a1=a.put (some d1) v'/\w1.ownsRow B 2 1 v' (n+m) (xs++news)/\w.grownBy w1 v1.ownBlock) (tS Jd t g1 K y (cd W) v (cd V) AY z O A9 AX F λv' w' r1 f r3=>⟨v',rfl,r1,f⟩) ?_;rintro a1 w1 ⟨v',rfl,r1,f⟩;have E:=nJ.grown v f;have e:=E.box AX S;obtain⟨q,cc,rfl⟩:=qq r1;refine fP (R:=λJ w2=>J=(a.put (some d1) (.slice q (n+m) cc)).put (some d) (.P b 2)/\w2=w1) (ip r U M (Ov Ij Y (cd ((et hs.2.2.2).trans Z)) e) ⟨rfl,rfl⟩) ?_;rintro J w2 ⟨rfl,rfl⟩;refine fP (R:=λI A=>I=(a.put (some d1) (.slice q (n+m) cc)).put (some d) (.P b 2)/\A=w2.setCell ⟨b,2,none⟩ (.slice q (n+m) cc)) (sr T P L (ju (.inl ⟨rfl,rfl⟩) x (cd (ja (by grind[iz]))) (cd ((et (Ne.symm hs.2.2.1)).trans (ja AN))) e) ⟨rfl,rfl⟩) ?_;rintro I A ⟨rfl,rfl⟩;have X:=kT.set e 2 (.slice q (n+m) cc);exact k _ w2 _ _ (atG r1 e AX _ _) (e.set 2 _) E (.only X) ((T5 v f F).trans ((vaa B w2).setCell (p:=⟨b,2,none⟩) GX _)) (λs t r=>(et (Ne.symm r)).trans (et (Ne.symm t))) (by grind[iz]) EQ
section
variable{x' y' bN:Int}{l:uaf}{a:Act}{w:aH}
def Sp(hd:a.defers=[])(hk:af 160 (be ((77,JS [gr [bN]])::ny n0 l x' y' bN)) a w):
 cb (aa prog true) (.R (aP Tryz.f3 14) (List.range' 7 6)::[.code (Oq Tryz.f3)]) [.code (Oo Tryz.f3)] (λa1 w1=>a1.defers=[]/\af 160 (be (ny n0 l x' y' bN)) a1 w1/\cC w w1) a w:=by
 rw[kj (aP Tryz.f3 14)];refine(show cb _ (.R _ (List.range' 7 (3+3))::_) _ _ _ _ from k_ hk (aC U IW<|aC U (atz U U)<|aC U (atA U U)<|rfl) AX λa1 w1 n d1 b1=>wI (atE (i:=10) U U U U U n U U U U AX AX λk w2 g q r=>?_));obtain⟨v79,d,c⟩:=g.has 79 _ U;refine fP (R:=λb m=>b=k.put (some 17) v79/\w2=m) (ip (v:=v79) U U U (y_ U (cd d) _) ⟨U,U⟩) ?_;rintro b _ ⟨h,rfl⟩;have f:=g.put (s:=17) (F:=gB true) AX (vaa _ _) c;rw[<-h]at f;have p:b.defers=k.defers:=by rw[h,put_defers]
 refine nX (cG (cG ?_));rw[kj (aP Tryz.f3 15)];refine f5 f (aC U (cQ rfl rfl)<|aC U (Lw U U)<|aC U (cQ rfl rfl)<|gC U (T2 U U)<|gC U (nA rfl rfl (Jj _) AX)<|gC U (DC U U AX)<|gC U (SE U U (λ_=>rfl) AX)<|aC U (b3 (F:=gB false) U U U)<|aC U (cQ rfl rfl)<|gC U (T2 U U)<|gC U (nA rfl rfl (Jj _) AX)<|gC U (j8 (i:=0) U U (λ_=>rfl) U AX)<|gC U (OB U U AX OA)<|gC U (nA rfl rfl (Jj _) AX)<|gC U (DC U U AX)<|gC U (SE U U (λ_=>rfl) AX)<|aC U (b3 (F:=gB false) U U U)<|aC U (cQ rfl rfl)<|gC U (T2 U U)<|gC U (nA rfl rfl (Jj _) AX)<|gC U (j8 (i:=0) U U (λ_=>rfl) U AX)<|gC U (OB U U AX OA)<|gC U (nA rfl rfl (Jj _) AX)<|gC U (j8 (i:=0) U U (λ_=>rfl) U AX)<|gC U (nA rfl rfl (tR _) AX)<|gC U (cQ rfl rfl)<|gC U (SE U U U AX)<|aC U (b3 (F:=gB false) U U U)<|rfl) λx u e o cH=>lz (t:=false) (rr e U U) (x7 (i9 ⟨o.trans (p.trans (q.trans (d1.trans hd))),e.a7 ⟨U,U,U,U,U,PA⟩,?_⟩));have j:=b1.trans (r.mono b1.size);exact j.trans (cH.mono j.size)
def R_(h0:0<l.length)(hl:l.length<=900)(hd:a.defers=[])(hn:n0<=w.heap.size)(hk:af 160 (be (ny n0 l x' y' bN)) a w):
 cb (aa prog true) [.code (Oo Tryz.f3)] [.code (.region 20 (aP Tryz.f3 20) true),.code (Hc Tryz.f3)] (λa1 w1=>a1.defers=[]/\af 160 (be [(7,p5 x' y'),(14,gh tQ (gr ([9223372036854775807]++l++[1]))),(15,pb)]) a1 w1/\Below n0 w w1) a w:=by
 obtain⟨v7,mq,sP⟩:=hk.has 7 _ rfl;obtain⟨v9,tT,vP⟩:=hk.has 9 _ rfl;obtain⟨v10,zx,U6⟩:=hk.has 10 _ rfl;obtain⟨v14,KA,b,b9,bt,rfl,U,hb,aEE,NJ⟩:=hk.has 14 _ rfl;obtain⟨v15,Ko,KE⟩:=hk.has 15 _ rfl;obtain⟨g,cap,rfl,hg,yb⟩:=rO.form U6 h0;have dn:af 160 (be [(9,vr n0 (a3 bN)),(10,fl (.S g 0 l.length cap)),(14,fl (.P b 0)),(7,p5 x' y'),(15,pb)]) a w:=bX tT ⟨hn,vP⟩<|bX zx rfl<|bX KA rfl<|bX mq sP<|bX Ko KE<|mF hk.size;refine cG ?_;rw[kj (aP Tryz.f3 17)];refine Jl (m:=2) dn (aC rfl (qu (s:=9) (n:=9223372036854775807) rfl IX rfl)<|aC rfl IW<|rfl) AX λa1 w1 z d1 b1=>?_;obtain⟨aEF,R6,RS⟩:=z.has 108 _ rfl;obtain⟨u109,RR,RP⟩:=z.has 109 _ rfl;obtain⟨u14,U_,M⟩:=z.has 14 _ rfl;obtain⟨u7,RO,RN⟩:=z.has 7 _ rfl;obtain⟨u15,RL,Rs⟩:=z.has 15 _ rfl;cases RP;cases M;refine jd (N:=160) (i:=2) (B:=n0) (news:=qS l) rfl rfl rfl rfl rfl rfl rfl rfl rfl rfl rfl rfl AX z.size R6 RR U_ RS (ZL l) (λj u hu=>bm.b4 b1 _ _ _ (yb j u hu)) (ZK l) AN (vac hn b1.size) U (hb.call b1) λQ xh w2 v2 p1 p2 p3 p4 DO X TH aEG=>nX (cG ?_);have Rr:KB v2:=by obtain⟨bJ,cc,rfl⟩:=qq p1;exact⟨_,_,_,rfl⟩
 have vw:Below n0 w w2:=(b1.mono hn).trans DO;have pE:n0<=w2.heap.size:=vac hn vw.size;have Rn:=zw p4 Io (zw p3 Ij RN);have Rj:=KF p4 Io (KF p3 Ij Rs);have k2:af 160 (be [(14,fl (.P b 0)),(7,p5 x' y'),(15,pb)]) Q w2:=bX ((X 14 AX AX).trans U_) rfl<|bX ((X 7 AX AX).trans RO) Rn<|bX ((X 15 AX AX).trans RL) Rj<|mF TH;rw[kj (aP Tryz.f3 18)];refine Iw (n:=6) rfl (fP (R:=λo w3=>o=Q.put (some 112) (.P b 2)/\w2=w3) (ip rfl rfl rfl (Ov Ij rfl (cd ((X 14 AX AX).trans U_)) p2) ⟨rfl,rfl⟩) ?_);rintro _ _ ⟨rfl,rfl⟩;refine fP (R:=λo w3=>o=(Q.put (some 112) (.P b 2)).put (some 113) v2/\w2=w3) (ip rfl rfl rfl (jw rfl (cd (ja AN)) p2 Rr) ⟨rfl,rfl⟩) ?_;rintro o _ ⟨e3,rfl⟩;have k3:=(k2.put (s:=112) (F:=MY) (v:=.P b 2) AX (vaa _ _) trivial).put (s:=113) (F:=fl v2) AX (vaa _ _) rfl;rw[<-e3]at k3;have d3:o.defers=Q.defers:=EQ;refine fP (Ix rfl (tC rfl _) rfl (T4 (K:=up (up (be [(14,fl (.P b 0)),(7,p5 x' y'),(15,pb)]) 112 MY) 113 (fl v2)) (N:=160) (n:=1) (x:=.const (.I 1)) rfl IX o w2 k3)) ?_;rintro cu w4 ⟨⟨aEH,e4,rn,c4,rfl,h4⟩,cH⟩;have k:=k3.put (s:=114) (F:=fl (.S rn 0 1 c4)) AX cH rfl;rw[<-e4]at k;have d4:cu.defers=o.defers:=by rw[e4,put_defers]
 obtain⟨u113,V4,VY⟩:=k.has 113 _ rfl;obtain⟨u114,VV,VN⟩:=k.has 114 _ rfl;obtain⟨u14,Va,M⟩:=k.has 14 _ rfl;obtain⟨u7,VE,VB⟩:=k.has 7 _ rfl;obtain⟨u15,Vz,Vx⟩:=k.has 15 _ rfl;cases VY;cases VN;cases M;refine jd (N:=160) (i:=3) (B:=n0) (news:=[.I 1]) rfl rfl rfl rfl rfl rfl rfl rfl rfl rfl rfl rfl AX k.size V4 VV Va (D9 p1 cH) rfl h4 (by simp[Value.oneCell']) AN (vac pE cH.size) U (p2.call cH) λP A7 gg A s1 s2 rR sT VW Y UQ aEI=>nX (cG ?_);have AD:Below n0 w gg:=(vw.trans (cH.mono pE)).trans VW;have Vv:n0<=gg.heap.size:=vac hn AD.size;have Vt:=zw sT Io (zw rR Ij VB);have Vp:=KF sT Io (KF rR Ij Vx);have hlen:([9223372036854775807]++l++[1]:uaf).length=[(9223372036854775807:Int)].length+l.length+1:=by grind
 have Vn:([9223372036854775807]++l++[1]:uaf).length<=1000:=AN;have J:rO n0 ([9223372036854775807]++l++[1]) gg A:=by show World.ownsRow _ _ _ _ _ _ _;rw[hlen,Om,Om];exact s1
 have M7:=rO.read J AY;have I:=U1 M7;have gD:af 160 (be [(14,fl (.P b 0)),(7,p5 x' y'),(15,pb)]) P gg:=bX ((Y 14 AX AX).trans Va) rfl<|bX ((Y 7 AX AX).trans VE) Vt<|bX ((Y 15 AX AX).trans Vz) Vp<|mF UQ;rw[kj (aP Tryz.f3 19)];refine Iw (n:=6) rfl (fP (R:=λd h5=>d=P.put (some 117) (.P b 2)/\gg=h5) (ip rfl rfl rfl (Ov Ij rfl (cd ((Y 14 AX AX).trans Va)) s2) ⟨rfl,rfl⟩) ?_);rintro _ _ ⟨rfl,rfl⟩;refine fP (R:=λd h5=>d=(P.put (some 117) (.P b 2)).put (some 118) A/\gg=h5) (ip rfl rfl rfl (jw rfl (cd (ja AN)) s2 I) ⟨rfl,rfl⟩) ?_;rintro d _ ⟨lq,rfl⟩;have D:=(gD.put (s:=117) (F:=MY) (v:=.P b 2) AX (vaa _ _) trivial).put (s:=118) (F:=cP 1 kw ([9223372036854775807]++l++[1])) AX (vaa _ _) M7;rw[<-lq]at D;have d6:d.defers=P.defers:=EQ;have D:af 160 (be [(118,cP 1 kw ([9223372036854775807]++l++[1])),(14,fl (.P b 0)),(7,p5 x' y'),(15,pb)]) d gg:=D.a7 ⟨rfl,rfl,rfl,rfl,PA⟩;refine fP (Ix rfl (tC rfl _) rfl (DC (x:=.tmp 118) (sz:=1) (r:=kw) (xs:=[9223372036854775807]++l++[1]) (K:=be [(118,cP 1 kw ([9223372036854775807]++l++[1])),(14,fl (.P b 0)),(7,p5 x' y'),(15,pb)]) (N:=160) rfl rfl AX d gg D)) ?_;rintro mH vA ⟨⟨aEJ,H,Vl⟩,vB⟩;have nD:=D.put (s:=119) (F:=a3 ([9223372036854775807]++l++[1]:uaf).length) AX vB Vl;rw[<-H]at nD;have d7:mH.defers=d.defers:=by rw[H,put_defers]
 refine fP (Ix rfl (tC rfl _) rfl (kA (x:=.tmp 119) (y:=.tmp 119) (n:=([9223372036854775807]++l++[1]:uaf).length) (K:=up (be [(118,cP 1 kw ([9223372036854775807]++l++[1])),(14,fl (.P b 0)),(7,p5 x' y'),(15,pb)]) 119 (a3 ([9223372036854775807]++l++[1]:uaf).length)) (N:=160) rfl rfl rfl Vn mH vA nD)) ?_;rintro O Z ⟨⟨aEK,JY,U5⟩,jJ⟩;have t:=nD.put (s:=120) (F:=cP 1 y4 (List.replicate ([9223372036854775807]++l++[1]:uaf).length false)) AX jJ U5;rw[<-JY]at t;have d8:O.defers=mH.defers:=by rw[JY,put_defers]
 obtain⟨u14,Oy,M⟩:=t.has 14 _ rfl;obtain⟨u120,U4,E⟩:=t.has 120 _ rfl;obtain⟨u7,vC,f7⟩:=t.has 7 _ rfl;obtain⟨u15,Km,f15⟩:=t.has 15 _ rfl;cases M;have Vb:=vB.trans (jJ.mono vB.size);have C:=s2.call Vb;obtain⟨T,W,rfl,-⟩:=id E;refine fP (R:=λL f=>L=O.put (some 121) (.P b 4)/\Z=f) (ip rfl rfl rfl (Ov Io rfl (cd Oy) C) ⟨rfl,rfl⟩) ?_;rintro _ _ ⟨rfl,rfl⟩;refine fP (R:=λL f=>L=O.put (some 121) (.P b 4)/\f=Z.setCell ⟨b,4,none⟩ (.slice T (List.replicate ([9223372036854775807]++l++[1]:uaf).length false).length W)) (sr rfl rfl rfl (ju (.inr ⟨rfl,rfl⟩) rfl (cd (ja (by rw[t.size];decide))) (cd ((et AX).trans U4)) C) ⟨rfl,rfl⟩) ?_;rintro L f ⟨NO,V⟩;have Ow:=kT.set C 4 (.slice T (List.replicate ([9223372036854775807]++l++[1]:uaf).length false).length W);rw[<-V]at Ow;have Vd:=nJ.only Ow;have J0:∀{s:Nat}{v:Value},s≠121->O.tmps[s]?=some v->L.tmps[s]?=some v:=λh e=>by rw[NO];exact(et (Ne.symm h)).trans e
 have U3:ag f b #[.I 1,.I 0,A,.N,.slice T (List.replicate ([9223372036854775807]++l++[1]:uaf).length false).length W] 30:=by rw[V];exact C.set 4 _
 have U2:rO n0 ([9223372036854775807]++l++[1]) f A:=Vd.own AX (D9 J Vb);have UW:(cP 1 y4 (List.replicate ([9223372036854775807]++l++[1]:uaf).length false)).R f (.slice T (List.replicate ([9223372036854775807]++l++[1]:uaf).length false).length W):=by
  obtain⟨a',c',e,UI,dk⟩:=E;cases e;refine⟨_,_,rfl,UI,λi hi=>?_⟩;obtain⟨S,off,e',c⟩:=dk i hi;refine⟨S,off,e',?_⟩;have c:Z.cell? (.a S (off+i*1+0))=some (.bool (List.replicate ([9223372036854775807]++l++[1]:uaf).length false)[i]):=c;show f.cell? (.a S (off+i*1+0))=_;have hne:S≠b:=λq=>by
   rw[q,C.rules.1]at c;generalize off+i*1+0=j at c;match j with
   |0=>cases c
   |1=>cases c
   |2=>obtain⟨_,_,_,e⟩:=I;subst e;cases c
   |3=>cases c
   |4=>obtain⟨_,_,_,e⟩:=NJ;subst e;cases c
   |j+5=>simp at c
  rw[V,World.cell?_setCell_other (h:=λq=>hne (vbn Addr.block q).symm)];exact c
 refine nX (cG (i9 ⟨?_,?_,?_⟩))
 .grind[put_defers]
 .exact bX (J0 AX vC) (zw Vd Io f7)<|bX (J0 AX Oy) (Ep.rd (n0:=n0) ⟨b,A,_,rfl,U,U3,rO.read U2 AY,UW⟩)<|bX (J0 AX Km) (KF Vd Io f15)<|mF (by grind[iz])
 .have:=AD.trans (Vb.mono Vv);rw[V];exact this.setCell (p:=⟨b,4,none⟩) U _
end
end
section
open lU
variable{O:gp}{n0:Nat}
def Un:bg:=⟨λw v=>∃b,v=.P b 0/\ag w b #[.N] 41,λ_ _ _ hb⟨b,e,h⟩=>⟨b,e,h.call hb⟩,λ_=>True,λn _ ρ w w' v v' hc hv⟨b,e,h⟩=>by
 subst e
 obtain⟨b',rfl,r⟩:=wH hv
 obtain⟨c',k1,k2,key⟩:=wX hc r h
 obtain⟨u0,q0,e0⟩:=key 0 _ U
 rw[gW e0]at q0
 refine⟨b',U,?_⟩
 have:c'=#[.N]:=by
  grind
 grind⟩
def Um(k p:Int)(w:aH)(v:Value):Prop:=∃b g c cs,v=.P b 0/\ag w b #[.I k,.S g 0 1 c] 47/\ag w g cs 3/\cs[0]?=some (.I p)
def He(k p:Int):bg:=⟨Um k p,λ_ _ _ hb⟨b,g,c,cs,e,h1,h2,h3⟩=>⟨b,g,c,cs,e,h1.call hb,h2.call hb,h3⟩,λ_=>True,λn _ ρ w w' v v' hc hv⟨b,g,c,cs,e,h1,h2,h3⟩=>by
 subst e
 obtain⟨b',rfl,r⟩:=wH hv
 obtain⟨c',k1,k2,key⟩:=wX hc r h1
 obtain⟨u0,q0,e0⟩:=key 0 _ U
 obtain⟨u1,aQ,e1⟩:=key 1 _ U
 rw[d9 e0]at q0
 obtain⟨g',rfl,rg⟩:=qp e1
 obtain⟨d',l1,l2,Tw⟩:=wX hc rg h2
 obtain⟨u2,aT,e2⟩:=Tw 0 _ h3
 rw[d9 e2]at aT
 exact⟨b',g',c,d',U,UY k2 q0 aQ▸k1,l1,aT⟩⟩
def OC{T T':uaa}{w w':aH}(h:kT T w w'){b:Nat}{cs:dC}(c:ag w b cs T')(a:T'≠T):ag w' b cs T':=(nJ.only h).box a c
def int_ne{T:uaa}(h:vO T):3≠T:=by grind
def iQ{T:uaa}(h:vO T){p:Int}:mC T (zv p):=λw w' v a⟨g,c,cs,e,d,b⟩=>⟨g,c,cs,e,OC a d (int_ne h),b⟩
section
variable{N:Nat}{K:bZ}{o:Oper}{x y:uaq}{k p:Int}{T T':uaa}{m n:Int}
def Tg{s v:Nat}(f:o.op=.store 41 (.tmp s) (.tmp v))(hs:K s=some (jL n0 41 1))(hv:K v=some oo)(hg:o.guard=none)(hd:o.dst=none):F_ (aa prog true) N n0 K o (41,s) Un:=⟨hg,hd,λa w hk=>by
 obtain⟨x,d,b,cs,rfl,hn,c,hsz⟩:=hk.has s _ hs;obtain⟨y,g,e⟩:=hk.has v _ hv;obtain⟨u1,u2⟩:=UU (ev:=a.eval) f c hsz (cd d) ((cd g).trans e);exact⟨_,u1,kT.set c 0 _,(vaa n0 w).setCell (p:=⟨b,0,none⟩) hn _,_,d,b,U,u2⟩⟩
def Tf{s v:Nat}(i:o.op=.store 47 (.tmp s) (.tmp v))(hs:K s=some (jL n0 47 2))(hv:K v=some (Oj k p))(hg:o.guard=none)(hd:o.dst=none):F_ (aa prog true) N n0 K o (47,s) (He k p):=⟨hg,hd,λa w hk=>by
 obtain⟨x,h,b,cs,rfl,hn,f,hsz⟩:=hk.has s _ hs;obtain⟨y,q,a_,rfl,g,c,m,rfl,l,j⟩:=hk.has v _ hv;obtain⟨u1,u2⟩:=Ok (ev:=a.eval) i f hsz (cd h) (cd q);have n:=f.set 0 (.I k);have d:g≠b:=λe=>by grind[ag]
 exact⟨_,u1,(kT.set f 0 _).trans (kT.set n 1 _),((vaa n0 w).setCell (p:=⟨b,0,none⟩) hn _).setCell (p:=⟨b,1,none⟩) hn _,_,h,b,g,c,m,U,u2,(l.fL d _).fL d _,j⟩⟩
def Tc(a:o.op=.fieldAddr 47 x 0)(d:bq K x (He k p)):bK (aa prog true) N K o (gh kw k):=dy d λev w h=>by obtain⟨b,g,c,cs,e,f,-,-⟩:=h;exact⟨.P b 0,w,Aq,⟨b,0,U,f.rules.1 0⟩,vaa _ _⟩
def iB(a:o.op=.fieldAddr 47 x 1)(d:bq K x (He k p)):bK (aa prog true) N K o (gh (Jf 1 kw) [p]):=dy d λev w h=>by obtain⟨b,g,c,cs,e,l,j,f⟩:=h;refine⟨.P b 1,w,Aq,⟨b,1,U,_,l.rules.1 1,_,_,U,Ab,λi hi=>?_⟩,vaa _ _⟩;obtain rfl:i=0:=AN;exact⟨g,0,U,(j.rules.1 0).trans f⟩
def OD(a:o.op=.binOp .eql T x y T')(c:bq K x (a3 m))(b:bq K y (a3 m))(d:T=3\/T=45):bK (aa prog true) N K o (gB true):=y5 c b (λ_=>U) λev w f e=>by cases o;simp only at a;subst a;rcases d with rfl|rfl<;>go_simp
def iy{xs:uaf}(a:o.op=.load 22 x)(d:bq K x (gh (Jf 1 kw) xs)):bK (aa prog true) N K o (cP 1 kw xs):=dy d λev w h=>by obtain⟨b,f,e,v,h0,h⟩:=h;simp only[vcg]at h0;refine⟨v,w,?_,h,vaa _ _⟩;obtain⟨g,c,rfl,-,-⟩:=h;cases o;simp only at a;subst a;go_simp
end
def Tb:fG prog true Tryz.f3=true:=by decide+kernel
def Er:jX prog 3:=B5 func3 Tb U
def mb(V:uar)(n:Nat):fN:=⟨λi=>i==0||i==26||i==35||i==37,λi=>i==0||i==26||i==35||i==37,V,λ_=>false,n⟩
def ix(V:uar)(n:Nat){l:uab}(h:l.all (hQ (mb (λ_=>none) 0))=true):l.all (hQ (mb V n))=true:=(tZ (D:=mb V n) (D':=mb (λ_=>none) 0) U U U l).trans h
def iw(V:uar)(n:Nat):Ac prog (mb V n) 3:=by
 refine⟨⟨_,func3,?_⟩,λt h=>?_,BB⟩
 .rw[results3];simp[BU,mb]
 .cases h
def iu(V:uar){ops:eQ}{k:uab}(b:ops.all (sj (mb (λ_=>none) 0) ops)=true)(a:k.all (hQ (mb (λ_=>none) 0))=true):J3 prog 3 ops k (mb V):=
 ⟨λ_=>U,iw V,λn=>by rw[T1 (D:=mb V n) (D':=mb (λ_=>none) 0) U U U];exact b,λn=>ix V n a,λn i h=>h,follows,λ_ _ _=>⟨U,U,U⟩⟩
def gN(V:uar)(n:Nat){o:Oper}(h:lU.ik (mb (λ_=>none) 0) o=true):lU.ik (mb V n) o=true:=h
def WL{S:m3}{j a x x':Nat}{T T':uaa}{F:bg}(h:S.jo=[(j,T,x),(a,T',x')])(hF:mC T' F):∀p∈S.jo,p.1≠j->mC p.2.1 F:=by grind
def WB{S:m3}{j a x x':Nat}{T T':uaa}{F:bg}(h:S.jo=[(j,T,x),(a,T',x')])(hF:mC T F):∀p∈S.jo,p.1≠a->mC p.2.1 F:=by grind
def gJ{x:Int}(n:Nat)(hn:0<n/\n<=1000):∃p:Nat,jc x n=p/\p<n/\(1:Int)+(p:Int)=((1+p:Nat):Int):=by have:=y3 x (n:=n) AY;exact⟨(jc x n).toNat,AY,AY,AY⟩
def Ws{Post:fE}{b:ube}{N W ab d:Nat}{c:bZ}{a:Act}{M:c5}{w:aH}(hk:af N c a w)(m:aL (bU M) a.tmps a.tmps){g f i e:Nat}{j:List bQ}(u:c g=some (zj j))(t:c f=some GB)(s:c i=some (a3 W))(r:c e=some (a3 ab))(h:∀aZ br,aL (bU M) #[aZ,br] #[aZ,br]->vN j w aZ->ua w br->eb O prog Post 7 #[aZ,br,.I W,.I ab] M w d b):eb O prog Post 7 (#[Operand.tmp g,.tmp f,.tmp i,.tmp e].map a.eval) M w d b:=by
 obtain⟨u1,o,r1⟩:=hk.has g _ u;obtain⟨u2,n,p⟩:=hk.has f _ t;obtain⟨u3,x,rfl⟩:=hk.has i _ s;obtain⟨u4,v,rfl⟩:=hk.has e _ r;have q:(#[Operand.tmp g,.tmp f,.tmp i,.tmp e].map a.eval)=#[u1,u2,.I W,.I ab]:=by simp_all[Act.eval]
 rw[q];refine h u1 u2 (kO (l:=[u1,u2]) λz k=>?_) r1 p;simp at k;rcases k with rfl|rfl
 .exact m.get _ _ _ o o
 .exact m.get _ _ _ n n
section
variable{Post:fE}{n:Nat}{Shun:uan}{aD M:c5}{w0 w:aH}{a b:Act}{V:uar}{cs:fA}{x y:Int}{l:uaf}
def Wk(Y:hR (mb V cs.length) a b)(H:Held O prog aD w0 n0 a M w Shun)(U:fg x)(R:fg y)(hs:pW l)(h0:0<l.length)(C:l.length<=40)(E:¬jf (sumTo l l.length))(hk:af 160 (be [(7,p5 x y),(14,gh tQ (gr l)),(15,pb)]) a w)(hn:n+64<=200)(z:∀a' j M' w' m k,Held O prog aD w0 n0 a' M' w' k->hR (mb V cs.length) a' j->af 160 (be [(19,a3 5),(20,He 1 0)]) a' w'->ca prog Post m k 0 (bf ((base 3).at j [.R (aP Tryz.f3 20) [],.code (Hc Tryz.f3)]) cs) w'):
 ca prog Post n Shun 0 (bf ((base 3).at b [.code (.region 20 (aP Tryz.f3 20) true),.code (Hc Tryz.f3)]) cs) w:=by
 obtain⟨P,u,p1,N⟩:=gJ (x:=x) 16 AX;obtain⟨Q,t,aQ,aT⟩:=gJ (x:=y) 64 AX;have aB:af 160 (be [(7,AQ x y),(14,gh tQ (gr l)),(15,GB)]) a w:=by obtain⟨v7,A,D⟩:=hk.has 7 _ rfl;obtain⟨v14,Oy,U9⟩:=hk.has 14 _ rfl;obtain⟨v15,Km,KE⟩:=hk.has 15 _ rfl;exact bX A (Hb.On D)<|bX Oy U9<|bX Km (En.On KE)<|mF hk.size
 have p:=H.phase (K:=be []) (mF hk.size) (e7 trivial);rw[kj (aP Tryz.f3 20)]at z⊢;refine atL (S:=⟨13,λi=>i==16||i==17||decide (20<i),λi=>decide (13<i),[(20,41,18),(22,47,20)]⟩) (L:=be [(7,AQ x y),(14,gh tQ (gr l)),(15,GB)]) (d:=4) (cp:=Em 1 0) l5 mixed Er (iu V AT AT) AT p (e7 ⟨PA,PA,PA,PA⟩) AT rfl rfl rfl rfl func7 AU TZ rfl (λn=>gN V n AT) hn rfl (bj.hq rfl (atD rfl rfl)<|bj.hq rfl (qg rfl rfl)<|bj.hq rfl (n7 rfl rfl)<|bj.hq rfl (kD rfl rfl)<|bj.hq rfl (cQ rfl rfl)<|bj.hq rfl (xY rfl rfl)<|bj.hq rfl (nA rfl rfl (tR _) AX)<|bj.hq (F:=a3 P) rfl (by rw[<-u];exact GJ rfl rfl (λ_=>rfl) U AX)<|bj.hq (F:=a3 (1+P:Nat)) rfl (by rw[<-N];exact F8 rfl (λ_=>rfl) rfl Bt AX)<|bj.hq rfl (uO rfl rfl)<|bj.hq rfl (nA rfl rfl (tR _) AX)<|bj.hq (F:=a3 Q) rfl (by rw[<-t];exact GJ rfl rfl (λ_=>rfl) R AX)<|bj.hq (F:=a3 (1+Q:Nat)) rfl (by rw[<-aT];exact F8 rfl (λ_=>rfl) rfl Bt AX)<|bj.hg rfl (λa M w hk dR=>Ws (W:=1+P) (ab:=1+Q) hk dR rfl rfl rfl rfl λaZ br X ht hn=>ZT hs h0 C E AY AY AY AY X ht hn)<|bj.hk (B:=vO) rfl (cQ rfl rfl) (λT o w w' v h⟨a_,e,r⟩=>⟨a_,e,iQ o w w' a_ h r⟩) AX<|bj.hk (B:=vO) rfl (oi rfl rfl) JD AX<|bj.hk (B:=vO) rfl (oe rfl rfl) JD AX<|bj.hk (B:=vO) rfl (od rfl rfl) (λT o w w' v h⟨a_,e,r⟩=>⟨a_,e,iQ o w w' a_ h r⟩) AX<|bj.hn (F:=jL w.heap.size 41 1) rfl (λa w' hn _=>TR rfl a w' hn) (hs:=λ_ _ _ _=>GD)<|bj.hn (F:=jL w.heap.size 47 2) rfl (λa w' hn _=>TS rfl a w' hn) (hs:=λ_ _ _ _=>GD)<|bj.hst rfl (Tg rfl rfl rfl rfl rfl) (hs:=λ_=>WL rfl (λw w' v h⟨b,e,r⟩=>⟨b,e,OC h r AX⟩)) (hok:=trivial)<|bj.hk (B:=vO) rfl (eD rfl rfl) JD AX<|bj.hst rfl (Tf rfl rfl rfl rfl rfl) (hs:=λ_=>WB rfl (λw w' v h⟨b,g,c,cs,e,r1,J,I⟩=>⟨b,g,c,cs,e,OC h r1 AX,OC h J AX,I⟩)) (hok:=trivial)<|rfl) Y H.atJ (λ_ _ e=>DG) aB ?_;intro a' j M' w' m k hKn f ll Z T6 BA;obtain⟨v19,S4,S5⟩:=f.has 19 (a3 5) rfl;obtain⟨v20,s,q⟩:=f.has 20 (He 1 0) rfl;exact z a' j M' w' m k (H.back Z) T6 (bX S4 S5<|bX s q<|mF f.size)
def Wh(hd:a.defers=[])(hk:af 160 (be [(19,a3 5),(20,He 1 0)]) a w):
 cb (aa prog true) [.R (aP Tryz.f3 20) [],.code (Hc Tryz.f3)] [.code .ret] (λa1 w1=>a1.defers=[]/\af 160 (be [(8,gB true)]) a1 w1/\cC w w1) a w:=by
 refine tA (cG ?_);rw[kj (aP Tryz.f3 21)];exact f5 hk (aC U (cQ rfl rfl)<|aC U (OD rfl rfl (λ_=>rfl) AX)<|aC U (cQ rfl rfl)<|gC U (Tc U U)<|gC U (nA rfl rfl (tR _) AX)<|gC U (OD rfl rfl (λ_=>rfl) AX)<|aC U (b3 (F:=gB true) U U U)<|aC U (cQ rfl rfl)<|gC U (iB U U)<|gC U (iy U U)<|gC U (DC U U AX)<|gC U (OD rfl rfl (λ_=>rfl) AX)<|aC U (b3 (F:=gB true) U U U)<|aC U (cQ rfl rfl)<|gC U (iB U U)<|gC U (iy U U)<|gC U (j8 (i:=0) U U (λ_=>rfl) U AX)<|gC U (nA rfl rfl (tR _) AX)<|gC U (OD rfl rfl (λ_=>rfl) AX)<|aC U (b3 (F:=gB true) U U U)<|aC U (eD rfl rfl)<|rfl) λe w2 b c d=>i9 ⟨c.trans hd,b.a7 ⟨U,PA⟩,d⟩
end
end
variable{d:Tmp}
section
open lU
variable{O:gp}{n0:Nat}
def Hf{Post:fE}{n:Nat}{Shun:uan}{w:aH}{f:ual}{b:Act}{ops:eQ}{i:Nat}{rest:uag}{k:uab}{cs:fA}{o:Oper}(j:ops[i]?=some o)(p:o.guard=none)(hd:o.dst=some d){v:Value}{es:uav}(h:∀k',(execOp b.eval o).run P (w.at k')=.ok (.value v) (w.at k'))(l:∀k',(execOp b.eval o).events P (w.at k') #[]=es)(hs:seen P f es=es)(c:∀e∈es,oz Shun w.heap.size e)(r:deafBehind 0 es=0)(q:∀k',ca P Post n Shun 0 (bf ((base f).at (b.put (some d) v) (.R ops rest::k)) cs) (w.at k')):ca P Post n Shun 0 (bf ((base f).at b (.R ops (i::rest)::k)) cs) w:=by
 refine PJ U λk'=>⟨_,w.at k',es,?_,c,vad _,by rw[r];exact q k'⟩;have g:=vau (P:=P) (main:=true) (b:=base f) (a:=b) (k:=k) (cs:=cs) (rest:=rest) j (tC p _) (by simp[base]) (h k');have m:listed P (base f).fn b o (w.at k')=es:=by unfold listed;rw[l k'];exact hs
 rw[m,hd]at g;exact g
def pd(v0:Value)(n:Nat):fN:=⟨λi=>i==0||i==26||i==35||i==37,λi=>i==0,λ_=>some v0,λt=>t==22,n⟩
def OE(v0:Value)(n:Nat){l:uab}(h:l.all (hQ (pd undef 0))=true):l.all (hQ (pd v0 n))=true:=(tZ (D:=pd v0 n) (D':=pd undef 0) U U U l).trans h
def OF(v0:Value)(n:Nat):Ac prog (pd v0 n) 3:=by
 refine⟨⟨_,func3,?_⟩,λt h=>?_,BB⟩
 .rw[results3];simp[BU,pd]
 simp_all[pd]
def V7{v0:Value}{n:Nat}{a b:Act}(h:hR (pd v0 n) a b):hR (mb (λi=>b.tmps[i]?) n) a b:=⟨h.size,h.same,h.gone,λi _=>U,h.defers⟩
def Ta(O:gp)(bJ:uad)(i:Nat)(x:Int):Prop:=∃B off c e z,bJ=some ⟨B,off,none⟩/\0<B/\B<O.n/\O.heap[B]?=some (.cells c e z)/\c[off+i]?=some (.I x)/\fg x
def OG(O:gp)(rv:Value)(bs:uaf):Prop:=∃bJ cap,rv=.slice bJ bs.length cap/\∀i(h:i<bs.length),Ta O bJ i bs[i]
def iv(bN:Int)(bs:uaf)(m:Nat):List Int:=bN::(bs.take m).map λz=>9223372036854775807-jc z 1000
theorem OH(bN:Int)(bs:uaf)(m:Nat):(iv bN bs m).length=min m bs.length+1:=by simp[iv]
def Ql(bN:Int){bs:uaf}{m:Nat}(h:m<bs.length):iv bN bs (m+1)=iv bN bs m++[9223372036854775807-jc bs[m] 1000]:=by simp only[iv,List.take_succ_eq_append_getElem h,List.map_append,vdc,List.map_nil,List.cons_append]
structure qT(O:gp)(n0:Nat)(aD:c5)(w0:aH)(D:fN)(Shun:uan)(l:List (Nat×bg))(a b:Act)(M:c5)(w:aH):Prop where
 held:Held O prog aD w0 n0 a M w Shun
 oK:hR D a b
 gQ:af 160 (be l) a w
 ok:uK n0 l
section
variable{aD:c5}{w0:aH}{D:fN}{Shun:uan}{l:List (Nat×bg)}{a b:Act}{M:c5}{w:aH}
theorem qT.at(h:qT O n0 aD w0 D Shun l a b M w)(k:Nat):qT O n0 aD w0 D Shun l a b M (w.at k):=
 ⟨h.held.at k,h.oK,gY n0 (e7 h.ok) _ _ _ _ _ ((show cO M w (w.at k)from λ_ _ _ _ _ x=>x).lA h.held.fk) h.held.all h.gQ,h.ok⟩
theorem Held.put(h:Held O prog aD w0 n0 a M w Shun)(d:Tmp){v:Value}(hv:ap (bU M) v v):Held O prog aD w0 n0 (a.put (some d) v) M w Shun:=
 ⟨h.fk,h.sub,h.since,h.keep,h.all.set hv _,GQ,h.size⟩
def hR.xc(h:hR D a b)(g:D.T d=true)(hK:D.K d=false)(v:Value):hR D (a.put (some d) undef) (b.put (some d) v):=by
 refine⟨by rw[iz,iz];exact h.size,λi hi=>?_,λi x hi f=>?_,λi hi=>?_,by rw[put_defers,put_defers];exact h.defers⟩
 .have c:d≠i:=AN;simp[Act.put,c];exact h.same i hi
 .by_cases e:d=i
  .simp_all[Act.put,vaq]
  .simp[Act.put,e]at f;exact h.gone i x hi f
 .have c:d≠i:=AN;simp[Act.put,c];exact h.kept i hi
theorem Ve:∀{l:List (Nat×bg)}{d:Nat},(l.map (·.1)).all (λx=>x != d)=true->be l d=none
 | [],_,_=>rfl
 |p::l,d,h=>by simp only[vdc,vbi,vae,bne_iff_ne]at h;unfold be;rw[vcy (Ne.symm h.1)];exact Ve h.2
theorem qT.xc(h:qT O n0 aD w0 D Shun l a b M w)(c:D.T d=true)(hK:D.K d=false)(hd:(l.map (·.1)).all (λx=>x != d)=true)(v:Value):qT O n0 aD w0 D Shun l (a.put (some d) undef) (b.put (some d) v) M w:=
 ⟨h.held.put d (.undef _),h.oK.xc c hK v,M4 h.gQ (Ve hd) (vaa _ _),h.ok⟩
def qT.Vf(h:qT O n0 aD w0 D Shun l a b M w)(c:D.T d=false)(hK:D.K d=false)(hd:(l.map (·.1)).all (λx=>x != d)=true)(hs:d<160)(z:Int):qT O n0 aD w0 D Shun ((d,a3 z)::l) (a.put (some d) (.I z)) (b.put (some d) (.I z)) M w:=
 ⟨h.held.put d (.int _ _),h.oK.put c hK _,bX (ja (by rw[h.gQ.size];exact hs)) U (M4 h.gQ (Ve hd) (vaa _ _)),⟨PA,h.ok⟩⟩
end
def Qk{es:uav}(h:∀e∈es,∀m,e.loc≠ .mark m):seen prog 3 es=es:=
 seen_eq (by rw[func3];rfl) AN
def Qj:(∃o,(aP Tryz.f3 4)[1]?=some o/\o.op=.move (.tmp 0)/\o.guard=none/\o.dst=some 26)/\∃o,(aP Tryz.f3 4)[2]?=some o/\o.op=.call {callee:=.builtin .len,args:=#[.tmp 26],argTypes:=#[22]}/\o.guard=none/\o.dst=some 27:=⟨⟨_,U,U,U,U⟩,_,U,U,U,U⟩
def Qg:(∃o,(aP Tryz.f3 6)[0]?=some o/\o.op=.move (.tmp 0)/\o.guard=none/\o.dst=some 35)/\(∃o,(aP Tryz.f3 6)[1]?=some o/\o.op=.move (.tmp 11)/\o.guard=none/\o.dst=some 36)/\(∃o,(aP Tryz.f3 6)[2]?=some o/\o.op=.indexAddr 22 (.tmp 35) (.tmp 36)/\o.guard=none/\o.dst=some 37)/\∃o,(aP Tryz.f3 6)[3]?=some o/\o.op=.load 3 (.tmp 37)/\o.guard=none/\o.dst=some 38:=⟨⟨_,U,U,U,U⟩,⟨_,U,U,U,U⟩,⟨_,U,U,U,U⟩,_,U,U,U,U⟩
section
variable{Post:fE}{n:Nat}{Shun:uan}{aD:c5}{w0:aH}{rv:Value}{bs:uaf}{x y x' y' bN:Int}
theorem gv(bl:OG O rv bs){bY:Nat}(lw:∀a b M w,¬(bY<bs.length/\bY<18)->qT O n0 aD w0 (pd rv 0) Shun (gM n0 (iv bN bs bY) x y x' y' bN) a b M w->ca prog Post n Shun 0 (bf ((base 3).at b [.code (A0 Tryz.f3)]) []) w)(c0:∀a b M w,bY<bs.length/\bY<18->qT O n0 aD w0 (pd rv 0) Shun ((25,a3 (bY+1:Nat))::(11,a3 (bY+1:Nat))::gM n0 (iv bN bs (bY+1)) x y x' y' bN) a b M w->ca prog Post n Shun 0 (bf ((base 3).at b (.R (aP Tryz.f3 4) (List.range' 1 7)::v_ Tryz.f3)) []) w)(a b:Act)(M:c5)(w:aH)(aEN:bY<=18)(p:qT O n0 aD w0 (pd rv 0) Shun ((25,a3 bY)::(11,a3 bY)::gM n0 (iv bN bs bY) x y x' y' bN) a b M w):ca prog Post n Shun 0 (bf ((base 3).at b (.R (aP Tryz.f3 4) (List.range' 1 7)::v_ Tryz.f3)) []) w:=by
 obtain⟨bJ,cap,LM,Qc⟩:=id bl;obtain⟨⟨o1,p1,F,p3,p4⟩,o2,aQ,L,q3,q4⟩:=Qj;have V:b.tmps[0]?=some rv:=p.oK.kept 0 rfl;rw[show List.range' 1 7=1::2::List.range' 3 5 from rfl];refine Hf p1 p3 p4 (v:=rv) (es:=#[]) (λk'=>Hr) (λk'=>Hr) (vcn _ _) Ab rfl λk=>?_;have Oc:=(p.xc (d:=26) rfl rfl rfl rv).at k;have Vg:(b.put (some 26) rv).tmps[26]?=some (.slice bJ bs.length cap):=by rw[<-LM];exact ja (by rw[p.oK.size,p.gQ.size];decide)
 clear p V;generalize b.put (some 26) rv=b1 at *;generalize a.put (some 26) undef=a1 at *;generalize w.at k=w1 at *;refine Hf aQ q3 q4 (v:=.I bs.length) (es:=#[]) (λk'=>Hg) (λk'=>Hg) (vcn _ _) Ab rfl λj=>?_;have f:=(Oc.Vf (d:=27) rfl rfl rfl AX bs.length).at j;clear Oc Vg;generalize b1.put (some 27) (.I bs.length)=b2 at *;generalize a1.put (some 27) (.I bs.length)=bA at *;generalize w1.at j=w2 at *;have g:af 160 (be ((25,a3 bY)::(27,a3 bs.length)::(11,a3 bY)::gM n0 (iv bN bs bY) x y x' y' bN)) bA w2:=f.gQ.a7 ⟨rfl,rfl,rfl,rfl,rfl,rfl,rfl,PA⟩;have okF:∀l,uK n0 (gM n0 l x y x' y' bN):=λl=>⟨PA,PA,PA,rfl,PA⟩;by_cases c:bY<bs.length/\bY<18
 .refine J2 l5 follows Er rfl (OF rv _) f.oK (OE rv _ AT) f.held (k':=.R (aP Tryz.f3 6) (List.range' 0 7)::KC Tryz.f3) AT AT (I:=af 160 (be ((25,a3 bY)::(27,a3 bs.length)::(11,a3 bY)::gM n0 (iv bN bs bY) x y x' y' bN))) (J:=af 160 (be ((11,a3 bY)::gM n0 (iv bN bs bY) x y x' y' bN))) (gY _ (e7 ⟨PA,PA,PA,okF _⟩)) (gY _ (e7 ⟨PA,okF _⟩)) g (λW o hI=>aw2 c.1 c.2 f.held.defers o hI) ?_;intro K h T A H u R;have Q:qT O n0 aD w0 (pd rv 0) Shun ((11,a3 bY)::gM n0 (iv bN bs bY) x y x' y' bN) K h T A:=⟨H,u,R,⟨PA,okF _⟩⟩;have f0:h.tmps[0]?=some rv:=u.kept 0 rfl;clear f g H u R;obtain⟨B,off,cc,e,z,P5,qX,hB,hc,hcell,P2⟩:=Qc bY c.1;subst P5;obtain⟨⟨o3,r1,E,r3,xD⟩,⟨o4,s1,D,rR,sT⟩,⟨M8,t1,C,t3,t4⟩,t,u1,u2,u3,u4⟩:=Qg;rw[show List.range' 0 7=0::1::2::3::List.range' 4 3 from rfl];refine Hf r1 r3 xD (v:=rv) (es:=#[]) (λk'=>HZ) (λk'=>HZ) (vcn _ _) Ab rfl λk=>?_;have i:=(Q.xc (d:=35) rfl rfl rfl rv).at k;have s:(h.put (some 35) rv).tmps[35]?=some (.S B off bs.length cap):=(ja (by rw[Q.oK.size,Q.gQ.size];decide)).trans (congrArg some LM)
  clear Q f0;generalize h.put (some 35) rv=cH at *;generalize K.put (some 35) undef=cu at *;generalize A.at k=w4 at *;have S:cH.tmps[11]?=some (.I bY):=by obtain⟨v,h1,h2⟩:=i.gQ.has 11 (a3 bY) rfl;obtain rfl:v=_:=h2;exact(i.oK.same 11 rfl).trans h1
  refine Hf s1 rR sT (v:=.I bY) (es:=#[]) (λk'=>Hq) (λk'=>Hq) (vcn _ _) Ab rfl λj=>?_;have P:=(i.Vf (d:=36) rfl rfl rfl AX bY).at j;have f35:(cH.put (some 36) (.I bY)).tmps[35]?=some (.S B off bs.length cap):=(et AX).trans s;have f36:(cH.put (some 36) (.I bY)).tmps[36]?=some (.I bY):=ja (by rw[i.oK.size,i.gQ.size];decide);clear S s i;generalize cH.put (some 36) (.I bY)=cr at *;generalize cu.put (some 36) (.I bY)=fQ at *;generalize w4.at j=gg at *;have g1:(bY:Int)<(bs.length:Int):=AY;have g0:(0:Int)<=(bY:Int):=AY;refine Hf t1 t3 t4 (v:=.P B (off+bY)) (es:=#[]) (λk'=>by cases M8;simp only at C;subst C;simp[go_sem,f35,f36,g0,c.1,Addr.add]) (λk'=>by cases M8;simp only at C;subst C;simp[go_sem,f35,f36,g0,c.1]) (vcn _ _) Ab rfl λg=>?_;have Vh:=(P.xc (d:=37) rfl rfl rfl (.P B (off+bY))).at g;have f37:(cr.put (some 37) (.P B (off+bY))).tmps[37]?=some (.P B (off+bY)):=ja (by rw[P.oK.size,P.gQ.size];decide);clear f35 f36 P;generalize cr.put (some 37) (.P B (off+bY))=ft at *;generalize fQ.put (some 37) undef=iR at *;generalize gg.at g=q at *;have a0:=Vh.held.fk;have Vi:q.heap[B]?=some (.cells cc e z):=(a0.old B qX hB).trans hc;have d:∀k',(q.at k').cell? (.a B (off+bY))=some (.I bs[bY]):=λk'=>by have:(q.at k').heap[B]?=some (.cells cc e z):=Vi;grind[World.cell?]
  refine Hf u1 u3 u4 (v:=.I bs[bY]) (es:=#[⟨.cell ⟨B,off+bY,none⟩,false,false⟩]) (λk'=>by have:=d k';cases t;simp only at u2;subst u2;simp[go_sem,f37,this]) (λk'=>by have:=d k';cases t;simp only at u2;subst u2;simp[go_sem,f37,this]) (Qk λe U m hm=>AN) (λe U=>?_) rfl λk4=>?_
  .have KM:B<q.heap.size:=jk Vi;simp at U;subst U;exact BE (a0.so B hB _ rfl) KM _
  have N:=(Vh.Vf (d:=38) rfl rfl rfl AX bs[bY]).at k4;clear f37 Vh a0 Vi d;generalize ft.put (some 38) (.I bs[bY])=vB at *;generalize iR.put (some 38) (.I bs[bY])=mH at *;generalize q.at k4=vA at *;have xe:af 160 (be ((38,a3 bs[bY])::(11,a3 bY)::gM n0 (iv bN bs bY) x y x' y' bN)) mH vA:=N.gQ.a7 ⟨rfl,rfl,rfl,rfl,rfl,rfl,PA⟩;refine J2 l5 follows Er rfl (OF rv _) N.oK (OE rv _ AT) N.held (k':=.R (aP Tryz.f3 4) (List.range' 1 7)::v_ Tryz.f3) AT AT (I:=af 160 (be ((38,a3 bs[bY])::(11,a3 bY)::gM n0 (iv bN bs bY) x y x' y' bN))) (J:=af 160 (be ((25,a3 (bY+1:Nat))::(11,a3 (bY+1:Nat))::gM n0 (iv bN bs bY++[9223372036854775807-jc bs[bY] 1000]) x y x' y' bN))) (gY _ (e7 ⟨PA,PA,okF _⟩)) (gY _ (e7 ⟨PA,PA,okF _⟩)) xe (λW o hI=>aw4 P2 (by rw[OH];omega) N.held.defers o AY hI) ?_;intro qO jJ Z zh Y X r;rw[<-Ql bN c.1]at r;exact c0 qO jJ Z zh c ⟨Y,X,r,⟨PA,PA,okF _⟩⟩
 .refine J2 l5 follows Er rfl (OF rv _) f.oK (OE rv _ AT) f.held (k':=[.code (A0 Tryz.f3)]) AT AT (I:=af 160 (be ((25,a3 bY)::(27,a3 bs.length)::(11,a3 bY)::gM n0 (iv bN bs bY) x y x' y' bN))) (J:=af 160 (be (gM n0 (iv bN bs bY) x y x' y' bN))) (gY _ (e7 ⟨PA,PA,PA,okF _⟩)) (gY _ (e7 (okF _))) g (λW o hI=>aw3 c f.held.defers o hI) ?_;intro K h T A H u R;exact lw K h T A c ⟨H,u,R,okF _⟩
def P1(i:OG O rv bs)(d:∀bY a b M w,bY<=18->qT O n0 aD w0 (pd rv 0) Shun (gM n0 (iv bN bs bY) x y x' y' bN) a b M w->ca prog Post n Shun 0 (bf ((base 3).at b [.code (A0 Tryz.f3)]) []) w):
 ∀(m bY:Nat)(a b:Act)(M:c5)(w:aH),18-bY<=m->bY<=18->qT O n0 aD w0 (pd rv 0) Shun ((25,a3 bY)::(11,a3 bY)::gM n0 (iv bN bs bY) x y x' y' bN) a b M w->ca prog Post n Shun 0 (bf ((base 3).at b (.R (aP Tryz.f3 4) (List.range' 1 7)::v_ Tryz.f3)) []) w:=by
 intro m;induction m with|zero=>grind[gv]|succ m e=>exact λbY a b M w j c f=>gv i (λa b M w _ h=>d bY a b M w c h) (λa b M w k g=>e (bY+1) a b M w AY AY g) a b M w c f
end
end
section
open lU
variable{O:gp}{n0:Nat}
theorem lJ(l:uaf):∀n,sumTo l n=(l.take n).sum
 |0=>by simp[sumTo]
 |n+1=>by rw[sumTo,lJ l n,List.take_add_one,List.sum_append,vcu];cases l[n]?<;>simp
theorem lD(l:uaf):sumTo l l.length=l.sum:=by rw[lJ,List.take_length]
theorem lC:∀X:List Int,(X.reverse.map λz=> -z).sum= -X.sum
 | []=>rfl
 |z::X=>by rw[List.reverse_cons,List.map_append,List.sum_append,lC X,List.sum_cons];grind
section
variable{bN:Int}{bs:uaf}{m:Nat}
def Vj(z:Int)(h:z∈(bs.take m).map λz=>9223372036854775807-jc z 1000):9223372036854774000<=z/\z<=9223372036854775807:=by obtain⟨u,-,rfl⟩:=vbz.1 h;have:=y3 u (n:=1000) AY;omega
theorem Vk:kC (iv bN bs m) 0=iv bN bs m++(((bs.take m).map λz=>9223372036854775807-jc z 1000).reverse.map λz=> -z):=rfl
def P0:sumTo (kC (iv bN bs m) 0) (kC (iv bN bs m) 0).length=bN:=by grind[lD,Vk,lC,iv]
def PZ(c:0<=bN/\bN<1000):pW (kC (iv bN bs m) 0):=by
 intro z a;rw[Vk,List.mem_append]at a;rcases a with a|a
 .rcases vbc.1 a with rfl|a
  .grind
  .have:=Vj z a;grind
 .obtain⟨u,b,rfl⟩:=vbz.1 a;have:=Vj u (List.mem_reverse.1 b);grind
def PY(a:m<=18):0<(kC (iv bN bs m) 0).length/\(kC (iv bN bs m) 0).length<=37:=by grind[OH,Vk]
def PO(i:Nat)(h:i+1<(iv bN bs m).length):fg (-(iv bN bs m)[i+1]):=by
 have:(iv bN bs m)[i+1]∈(bs.take m).map λz=>9223372036854775807-jc z 1000:=by
  have a:i<((bs.take m).map λz=>9223372036854775807-jc z 1000).length:=by grind[OH]
  have e:(iv bN bs m)[i+1]=((bs.take m).map λz=>9223372036854775807-jc z 1000)[i]:=rfl;grind
 have:=Vj _ this;grind[fg]
def PK{l:uaf}(h:pW l):pW ([9223372036854775807]++l++[1]):=by
 intro z a;rw[List.mem_append,List.mem_append,List.mem_singleton,List.mem_singleton]at a;rcases a with(rfl|a)|rfl
 .grind
 .exact h z a
 grind
theorem PH(l:uaf):sumTo ([9223372036854775807]++l++[1]) ([9223372036854775807]++l++[1]:uaf).length=9223372036854775808+sumTo l l.length:=by grind[lD]
end
def PC{Post:fE}{n:Nat}{Shun:uan}{w:aH}{a:Act}{ks:uab}(hd:a.defers=[])(f:a.tmps[8]?=some (.T))(e:∀k,Post (.T) (w.at k)):ca prog Post n Shun 0 (bf ((base 3).at a (.code .ret::ks)) []) w:=by
 refine PJ U λk=>⟨bf {(base 3).at a (.code .ret::ks)with mode:=.returning} [],w.at k,#[],?_,Ab,vad _,?_⟩
 .simp[bf,stepG,stepG.exec,Frame.at,base]
 .refine aje U λk'=>⟨.T,#[],?_,Ab,e k'⟩;have c:=func3;have b:(results Tryz.f3 a.tmps).run prog ((w.at k).at k')=.ok (.T) ((w.at k).at k'):=by simp_all[results]
  have d:(results Tryz.f3 a.tmps).events prog ((w.at k).at k') #[]=#[]:=by simp_all[results]
  simp[bf,stepG,unwind,doReturn,Frame.at,base,hd,c,b,d,seen,GStep.after]
def lh:∃o ats,(aP Tryz.f3 14)[6]?=some o/\o.op=.call {callee:=.value (.func 6),args:=#[.tmp 71,.tmp 75,.tmp 76],argTypes:=ats}/\o.guard=none/\o.dst=some 77:=⟨_,_,U,U,U,U⟩
def k0{k k':uab}{K':bZ}{a:Act}{W:aH}(c:n0<=W.heap.size)(h:cb (aa prog true) k k' (λa1 w1=>a1.defers=[]/\af 160 K' a1 w1/\cC W w1) a W):cb (aa prog true) k k' (λa1 w1=>a1.defers=[]/\af 160 K' a1 w1/\Below n0 W w1) a W:=λb cs=>by obtain⟨a1,w1,⟨g,f,e⟩,d⟩:=h b cs;exact⟨a1,w1,⟨g,f,e.mono c⟩,d⟩
section
variable{Post:fE}{n:Nat}{Shun:uan}{aD M:c5}{w0 w:aH}{a b:Act}{V:uar}{x y x' y' bN:Int}{bs:uaf}{m:Nat}
def KK{K K':bZ}(f:hR (mb V 0) a b)(H:Held O prog aD w0 n0 a M w Shun){k k':uab}(d:k.all (hQ (mb (λ_=>none) 0))=true)(hk:k.all (fM prog)=true)(g:k'.all (fM prog)=true)(ok:∀s F,K s=some F->F.ok n0)(ok':∀s F,K' s=some F->F.ok n0)(e:af 160 K a w)(hrun:∀W,n0<=W.heap.size->af 160 K a W->cb (aa prog true) k k' (λa1 w1=>a1.defers=[]/\af 160 K' a1 w1/\Below n0 W w1) a W)(h:∀a' c M' w',Held O prog aD w0 n0 a' M' w' Shun->hR (mb V 0) a' c->af 160 K' a' w'->ca prog Post n Shun 0 (bf ((base 3).at c k') []) w'):
 ca prog Post n Shun 0 (bf ((base 3).at b k) []) w:=
 J2 l5 follows Er U (iw V _) f (ix V _ d) H hk g (I:=af 160 K) (J:=af 160 K') (gY _ ok) (gY _ ok') e hrun h
def O3(hm:m<=18)(hP:0<=bN/\bN<1000)(hx:fg x)(hy:fg y)(iE:fg x')(A:fg y')(hH:hR (mb V 0) a b)(H:Held O prog aD w0 n0 a M w Shun)(iI:af 160 (be (gM n0 (iv bN bs m) x y x' y' bN)) a w)(hn:n+128<=200)(gj:∀a' M' w' a9,Held O prog aD w0 n0 a' M' w' a9->Post (.T) w'):
 ca prog Post n Shun 0 (bf ((base 3).at b [.code (A0 Tryz.f3)]) []) w:=by
 have okF:∀l,uK n0 (gM n0 l x y x' y' bN):=λl=>⟨PA,PA,PA,rfl,PA⟩;have t:∀l,uK n0 (ny n0 l x' y' bN):=λl=>⟨PA,PA,rfl,rfl,PA,PA⟩;have hlen:=OH bN bs m;have h:=PZ (bs:=bs) (m:=m) hP;have WM:=P0 (bN:=bN) (bs:=bs) (m:=m);obtain⟨l1,l2⟩:=PY (bN:=bN) (bs:=bs) hm;refine KK hH H (k':=[.code (Hd Tryz.f3)]) (K':=be (gM n0 (kC (iv bN bs m) 0) x y x' y' bN)) AT AT AT (by exact e7 (okF _)) (by exact e7 (okF _)) iI (λW c hI=>St (W:=W) AY AY PO H.defers c hI) ?_;intro a1 b1 co w1 H1 R k1;generalize kC (iv bN bs m) 0=l at *;refine KK R H1 (k':=.R (aP Tryz.f3 14) (List.range' 6 7)::[.code (Oq Tryz.f3)]) (K':=be ((71,rG x y)::(75,zj [gr l])::(76,pb)::ny n0 l x' y' bN)) AT AT AT (by exact e7 (okF _)) (by exact e7 ⟨PA,PA,PA,t _⟩) k1 (λW c hI=>Ss AY H1.defers c hI) ?_;intro bA b2 M2 w2 g Q f;obtain⟨o,ats,X,B,c6,gI⟩:=lh;have q:∀s F,be ((71,rG x y)::(75,zj [gr l])::(76,pb)::ny n0 l x' y' bN) s=some F->F.ok n0:=e7 ⟨PA,PA,PA,t _⟩;refine uv (i:=6) (rest:=List.range' 7 6) (d:=4) B func6 AU rfl AY Er (D:=mb V) (iu V AT AT) Q g AT X c6 ⟨gI,by rw[f.size];decide⟩ (λn=>gN V n (by
  obtain⟨o',aEP,Z,aEQ,aER,aES⟩:=lh;rw[X]at Z;cases Z;have:(aP Tryz.f3 14)[6]?.map (lU.ik (mb (λ_=>none) 0))=some true:=AT;grind)) (I:=af 160 (be ((71,rG x y)::(75,zj [gr l])::(76,pb)::ny n0 l x' y' bN))) (J:=af 160 (be ((77,JS [gr [bN]])::ny n0 l x' y' bN))) (ie:=D4 [gr [bN]]) (gY _ q) f (λk=>?_) (λu w3 h1 h2=>?_) λbR bH kf w3 jx wZ S9 Y P k3=>?_
 .have f:=gY (N:=160) n0 q _ _ _ _ _ ((show cO M2 w2 (w2.at k)from λ_ _ _ _ _ x=>x).lA g.fk) g.all f;obtain⟨v71,afi,S⟩:=f.has 71 _ rfl;obtain⟨v75,Ot,U7⟩:=f.has 75 _ rfl;obtain⟨v76,Ou,U8⟩:=f.has 76 _ rfl;have S:v71=.agg #[.I x,.I y]:=S;subst S;rw[show(#[Operand.tmp 71,.tmp 75,.tmp 76].map bA.eval)=#[.agg #[.I x,.I y],v75,v76]from by grind[cd]];have:=ZV (O:=O) (Post:=Post) (M:=M2) (w:=w2.at k) (aZ:=v75) (br:=v76) h l1 AY AN hx hy (kO (l:=[v75,v76]) λz U=>by
   simp only[vbc,vbr,vds]at U;rcases U with rfl|rfl
   .exact g.all.get _ _ _ Ot Ot
   .exact g.all.get _ _ _ Ou Ou) U7 (En.On U8)
  rw[WM]at this;exact this
 .exact(h1.put (s:=77) (F:=JS [gr [bN]]) AX (vaa _ _) h2).a7 ⟨rfl,rfl,rfl,rfl,rfl,rfl,PA⟩
 refine KK P Y (k':=[.code (Oo Tryz.f3)]) (K':=be (ny n0 l x' y' bN)) AT AT AT (by exact e7 ⟨PA,t _⟩) (by exact e7 (t _)) k3 (λW c hI=>k0 c (Sp Y.defers hI)) ?_;intro cu cH Jz w4 T L k4;have K:uK n0 [(7,p5 x' y'),(14,gh tQ (gr ([9223372036854775807]++l++[1]))),(15,pb)]:=⟨PA,PA,PA,PA⟩;refine KK L T (k':=[.code (.region 20 (aP Tryz.f3 20) true),.code (Hc Tryz.f3)]) (K':=be [(7,p5 x' y'),(14,gh tQ (gr ([9223372036854775807]++l++[1]))),(15,pb)]) AT AT AT (by exact e7 (t _)) (by exact e7 K) k4 (λW c hI=>R_ l1 AY T.defers c hI) ?_;intro fQ cr av0 gg vJ E gD;have cE:([9223372036854775807]++l++[1]:uaf).length=l.length+2:=AN;refine Wk (cs:=[]) E vJ iE A (PK h) AY AY (by grind[PH]) gD AY λiR ft aET h5 ade aEU p C jI=>?_;refine KK C p (k':=[.code .ret]) (K':=be [(8,gB true)]) AT AT AT (by exact e7 ⟨PA,PA,PA⟩) (by exact e7 ⟨PA,PA⟩) jI (λW c hI=>k0 c (Wh p.defers hI)) ?_;intro mH vB aEV vA Nt j nD;obtain⟨v,e,r⟩:=nD.has 8 (gB true) rfl;cases r;exact PC (j.defers.trans Nt.defers) ((j.same 8 rfl).trans e) λk=>gj _ _ _ _ (Nt.at k)
end
structure kV(W w':aH):Prop where
 old:∀b,0<b->b<W.heap.size->w'.heap[b]?=W.heap[b]?
 first:∀c e fr,W.heap[0]?=some (.cells c e fr)->w'.heap[0]?=some (.cells c e fr)
 since:pz W w'
abbrev hv(x y:Int):Value:=.agg #[.I x,.I y]
def Vm(a d c b:Value)(i:Nat):(#[a,d,c,b]++Array.replicate 156 undef:dC)[i]?=if i=0 then some a else if i=1 then some d else if i=2 then some c else if i=3 then some b else if i<160 then some undef else none:=by
 rcases i with _ | _ | _ | _ |i
 .simp_all
 .simp_all
 .simp_all
 .simp_all
 .rw[Array.getElem?_append_right Ab,Array.getElem?_replicate];grind
def Ri(rv c b a:Value):hR (pd rv 0) ⟨#[undef,c,b,a]++Array.replicate 156 undef,[]⟩ ⟨#[rv,c,b,a]++Array.replicate 156 undef,[]⟩:=by
 refine⟨Ab,λi hi=>?_,λi v hi hv=>?_,λi hi=>?_,U⟩
 .have h0:i≠0:=λe=>by subst e;cases hi
  simp_all[Vm]
 .rw[Vm]at hv;have h0:i=0\/i=26\/i=35\/i=37:=by grind[pd]
  grind
 simp_all[pd]
def Rg{Post:fE}{W:aH}{rv:Value}{bs:uaf}{a x y x' y':Int}(hs:fg a)(z:fg x)(w:fg y)(u:fg x')(f:fg y')(h0:∃c e,W.heap[0]?=some (.cells c e)/\∀v∈c,∃k n,v=.int k n)(L:OG ⟨W.heap.size,W.heap⟩ rv bs)(E:∀w',kV W w'->Post (.T) w'):
 ca prog Post 1 (λ_=>False) 0 (bf (Frame.enter prog 3 #[rv,.I a,hv x y,hv x' y'] .normal) []) W:=by
 obtain⟨cw,M,p,r⟩:=h0;have m:0<W.heap.size:=jk p;rw[vcf func3 Yu];have N:Home ⟨W.heap.size,W.heap⟩ prog (λb=>b=0) (λ_=>False) W:=by refine⟨λb d=>?_,λg hg=>BB,AN,λb d h=>absurd d h,vad _,λb _ d=>rfl,AN⟩;subst d;refine⟨_,p,.inl (.cells _ ?_ AN)⟩;obtain⟨l⟩:=cw;refine kO λv hv=>?_;obtain⟨k,n,rfl⟩:=r v AN;exact .int _ _
 have o:∀x y:Int,ap (bU λb=>b=0) (hv x y) (hv x y):=λx y=>.qU (kO (l:=[.I x,.I y]) λv hv=>by
  simp at hv;rcases hv with rfl|rfl<;>exact .int _ _)
 have F:aL (bU λb=>b=0) (#[undef,.I a,hv x y,hv x' y']++Array.replicate 156 undef) (#[undef,.I a,hv x y,hv x' y']++Array.replicate 156 undef):=by
  refine aL.append (kO (l:=[undef,.I a,hv x y,hv x' y']) λv hv=>?_) (Gc _ _);simp at hv;rcases hv with rfl|rfl|rfl|rfl
  .exact .undef _
  .exact .int _ _
  .grind
  grind
 have H:Held ⟨W.heap.size,W.heap⟩ prog (λb=>b=0) W W.heap.size ⟨#[undef,.I a,hv x y,hv x' y']++Array.replicate 156 undef,[]⟩ (λb=>b=0) W (λ_=>False):=.start N IB F rfl;have hg:=Vm undef (.I a) (hv x y) (hv x' y');have hsz:(⟨#[undef,.I a,hv x y,hv x' y']++Array.replicate 156 undef,[]⟩:Act).tmps.size=160:=Ab;have B:=y3 a (n:=1000) AY;have t:af 160 (be [(1,a3 a),(2,rG x y),(3,rG x' y'),(159,mX)]) ⟨#[undef,.I a,hv x y,hv x' y']++Array.replicate 156 undef,[]⟩ W:=bX (hg 1) rfl<|bX (hg 2) rfl<|bX (hg 3) rfl<|bX (hg 159) rfl<|mF hsz;have okF:∀l,uK W.heap.size (gM W.heap.size l x y x' y' (jc a 1000)):=λl=>⟨PA,PA,PA,rfl,PA⟩;refine J2 l5 follows Er rfl (OF rv _) (Ri rv _ _ _) (OE rv _ AT) H (k':=.R (aP Tryz.f3 4) (List.range' 1 7)::v_ Tryz.f3) AT AT (I:=af 160 (be [(1,a3 a),(2,rG x y),(3,rG x' y'),(159,mX)])) (J:=af 160 (be ((25,a3 (0:Nat))::(11,a3 (0:Nat))::gM W.heap.size [jc a 1000] x y x' y' (jc a 1000)))) (gY _ (by exact e7 ⟨PA,PA,PA,PA,PA⟩)) (gY _ (by exact e7 ⟨PA,PA,okF _⟩)) t (λX C hI=>aw0 hs rfl C hI) ?_;intro a1 b1 K w1 P j s;refine P1 (bN:=jc a 1000) (bs:=bs) L (λbY U V Y w2 O T=>?_) 18 0 a1 b1 K w1 AY AY ⟨P,j,s,⟨PA,PA,okF _⟩⟩;exact O3 O B z w u f (V7 T.oK) T.held T.gQ AX λS R q Q i=>E q ⟨λb D o=>i.fk.old b D o,λc e fr A=>i.keep 0 c e fr ⟨rfl,m⟩ A,i.since⟩
end
end bj
namespace bj
open Conc ConcM RowKit ChangeShapes WideShapes ChangeAt Deep av bn cW dv bB cv iD lU
section
section
variable{H:Type}{enc:TypeId×Value->H}{spare:ubg}{held:Bool}{fuel:Nat}{cs:uam}{x:DataW H×List MemPlace}{w:aH}
theorem wf_i64{n:Int}(h:(Lit.int .i64 n).wf=true):fg n:=by simp[Lit.wf,IntKind.min,IntKind.max,IntKind.signed,IntKind.bits]at h;exact h
def Rb{t:uaa}{fs:Array Field}(ht:prog.underlying t=some (.struct fs))(a:oneCellFields prog fs=true)(hn:prog.cellsOf t=fs.size)(h:DataW.trod enc prog w 0 spare held fuel t cs=some x):
 cs.length=fs.size/\∀(i:Nat)(f:Field),fs[i]?=some f->∃u y n,cs[i]?=some u/\DataW.trod enc prog w 0 spare held n f.type [u]=some y:=by
 obtain⟨xs,n,-,rfl,e,k,j⟩:=DataW.trod_struct ht h;refine⟨e.trans hn,λi f hi=>?_⟩;obtain⟨c,b⟩:=hone_of a i f hi;have d:i<fs.size:=(vag.1 hi).1;have g:=j i f hi;rw[c,b,take1_drop cs i undef AY,vas AY]at g;grind
theorem OM{e:uaa}(a:prog.underlying e=some (.int .i64)){u:Value}(h:DataW.trod enc prog w 0 spare held fuel e [u]=some x):∃n,u=.I n/\fg n:=by grind[DataW.trod_int,wf_i64]
def Q9{v:Value}(A:∀(c:dC) e z,w.heap[0]?=some (.cells c e z)->∀(i:Nat)(n:Int),c[i]?≠some (Value.int .i64 n))(h:DataW.trod enc prog w 0 spare held fuel 22 [v]=some x):∃bs,OG ⟨w.heap.size,w.heap⟩ v bs:=by
 rcases open_slice1 underlying22 AU h with⟨f,rfl⟩|⟨a,len,cap,m,n,V,D,y,f,-,F,-,B,rfl,t⟩
 .obtain rfl:v=_:=by simpa using f
  exact⟨[],none,0,U,AN⟩
 obtain rfl:v=_:=by simpa using f
 have u:len<=m:=AN;have d:∀i,∃r:Int,i<len->w.cell? (a.add i)=some (.I r)/\fg r:=λi=>by
  by_cases hi:i<len
  .obtain⟨E,C⟩:=t i AY;grind[OM,underlying3]
  .exact⟨0,λh=>absurd h hi⟩
 obtain⟨R,k⟩:=vbj.1 d;refine⟨(List.range len).map R,some a,cap,Ab,λi hi=>?_⟩;have p:i<len:=AN;obtain⟨j,s⟩:=k i p;simp;obtain⟨b,off,spot⟩:=a;have l:spot=none:=by have:=(k 0 AY).1;simpa[Addr.add]using World.cell?_spot this
 subst l;have key:(⟨b,off,none⟩:Addr).add i=⟨b,off+i,none⟩:=by grind[Addr.add]
 rw[key]at j;obtain⟨c,e,z,g,-,o⟩:=wc j;have q:0<b:=by grind
 exact⟨b,off,c,e,z,U,q,jk g,g,o,s⟩
end
def Q8(P:ck)(t:Nat->Question->Nat)(os:Os):(begin P t os).world.heap[P.globals.size]?=some (.cells ((Array.range P.types.size).map λt=>.int .u64 (Int.ofNat t)) 0):=by have key:∀(A:Array Obj)(n:Nat),n=A.size->∀a b c d e,(((((A.push a).push b).push c).push d).push e)[n]?=some a:=AN;exact key _ _ Ab _ _ _ _ _
def Q5{W:aH}(h:W.ShapedOpen prog):W.heap[0]?=some (.cells ((Array.range prog.types.size).map λt=>.int .u64 (Int.ofNat t)) 0):=by have h0:prog.globals.size=0:=Ab;have a:=Q8 prog (λ_ _=>0) default;rw[h0]at a;obtain⟨o,b,e,d,c⟩:=h.2 0 AY (jk a);simp_all[World.looseAt]
def QW{B:Nat}:mQ (λ_=>False) B 0 1 #[]:=
 ⟨AN,AN,λi a h=>Gx,λsaid=>by rintro⟨i,j,_,⟨a,b,c,_⟩,_⟩;simp[Trace.act?]at c,λi a h=>Gx,λi g h=>by simp[Trace.g?]at h,U,λi a b h=>Gx⟩
def QV{P:ck}{Post:fE}{g:uai}{W:aH}(h:ca P Post 1 (λ_=>False) 0 g W):cW.lN P Post (solo g W) #[]:=by rw[solo_eq_crowd];refine h #[g] none (λ_=>0) #[] U U ⟨λi x hi a=>?_,λj b=>U⟩ QW;grind
theorem QS:ownKnob prog.godebug=none:=by kernel_rfl
theorem ON:laidOutB prog=true:=by kernel_rfl
def kK{H:Type}{enc:TypeId×Value->H}{spare:ubg}{held:Bool}{fuel:Nat}{x:DataW H×List MemPlace}{w:aH}{cs:dC}(g:DataW.trod enc prog w 0 spare held fuel 24 cs.toList=some x):∃a b:Int,cs=#[.I a,.I b]/\fg a/\fg b:=by obtain⟨i,hs⟩:=Rb underlying24 AU AU g;obtain⟨u0,d,n0,cw,c⟩:=hs 0 _ U;obtain⟨u1,f,n1,c1,e⟩:=hs 1 _ U;obtain⟨x,rfl,h⟩:=OM underlying3 c;grind[OM,underlying3]
def QP{H:Type}{enc:TypeId×Value->H}{P:ck}{w:aH}{base:Nat}{spare:ubg}{held:Bool}{t0 k j i:uaa}{args:dC}{ds:List (DataW H)}{ps:List MemPlace}(h:DataW.TrodAll enc P w base spare held [t0,k,j,i] args.toList ds ps):
 ∃v0 v1 v2 v3 g d1 f e p0 d c b,args=#[v0,v1,v2,v3]/\ds=[g,d1,f,e]/\ps=p0++(d++(c++b))/\DataW.Trod enc P w base spare held t0 v0 g p0/\DataW.Trod enc P w base spare held k v1 d1 d/\DataW.Trod enc P w base spare held j v2 f c/\DataW.Trod enc P w base spare held i v3 e b:=by
 obtain⟨v0,vs,g,v,p0,q,y,rfl,rfl,h0,a⟩:=trodAll_cons h;obtain⟨v1,u,d1,t,d,A,rfl,rfl,rfl,n,a⟩:=trodAll_cons a;obtain⟨v2,s,f,r,c,z,rfl,rfl,rfl,m,a⟩:=trodAll_cons a;obtain⟨v3,p,e,o,b,x,rfl,rfl,rfl,l,a⟩:=trodAll_cons a;obtain⟨rfl,rfl,rfl⟩:=trodAll_nil a;exact⟨v0,v1,v2,v3,g,d1,f,e,p0,d,c,b,AN,U,Ab,h0,n,m,l⟩
def QM(os:Os)(started:os.Started)(H:Type)(enc:TypeId×Value->H)(F:Stop.Interp):
 ReturnsInLeavingWide Rows.totalsRow.assume checked os 3 .any (Rows.totalsSpec.pre6 enc prog Tryz.f3 Rows.totalsRow.domain false) ((OpenSpec.ofChange Rows.totalsSpec).postWith enc prog Tryz.f3 F (outsideKept [.timePasses]) false true false):=by
 refine returnsInLeavingWide_of_good (C:=checked) QS started
  (ChangeSpec.witness6c (enc:=enc) (C:=checked) ⟨#[],#[.N,.I 0,.agg #[.I 0,.I 0],.agg #[.I 0,.I 0]],[]⟩ 8 AU AU AU AU) ?_
 intro w tape i _ m _ hok Jp _;obtain⟨_,_,_,P,E4,_,_,_,_,hval⟩:=hok;obtain rfl:P=Tryz.f3:=vbq (E4.symm.trans func3);obtain⟨⟨ds,gs,before,B,-⟩,-⟩:=Jp;have k:=DataW.Whole.of_heap (w':=w.forCall tape i) Av B;have m:(w.forCall tape i).ShapedOpen prog:=m;clear B;generalize aE8:w.forCall tape i=W at *;obtain⟨vars,args,more⟩:=i;simp only at hval k⊢;have hval:∀(j:Nat) t v,Tryz.f3.params[j]?=some t->args[j]?=some v->Value.okWide prog W .any w.heap.size t v:=hval;have r:=k;obtain⟨p,q,hA0,D,rfl,_,_⟩:=k;have l:DataW.TrodAll enc prog W 0 (λ_=>true) true Tryz.f3.params.toList args.toList ds p:=hA0;rw[params3]at l hval;obtain⟨v0,v1,v2,v3,d0,d1,d2,d3,p0,O,M,L,rfl,rfl,rfl,t0,A,z,s⟩:=QP l;obtain⟨rfl,rfl⟩:=trodVars_none D;clear hA0 l;simp only[List.append_nil]at r;have V:∀x∈p0++(O++(M++L)),x.block<W.heap.size:=λx f=>by simpa using r.lt x f
 have h0:=Q5 m;obtain⟨cD,len,cap,rfl⟩:=okWide_slice underlying22 (hval 0 22 v0 rfl rfl);obtain⟨f0,Z⟩:=id t0;obtain⟨f1,g1⟩:=id A;obtain⟨f2,Y⟩:=id z;obtain⟨f3,R⟩:=id s;obtain⟨aE9,rfl,aE_⟩:=okWide_struct underlying24 (hval 2 24 v2 rfl rfl);obtain⟨aFa,rfl,aFb⟩:=okWide_struct underlying24 (hval 3 24 v3 rfl rfl);obtain⟨bs,bl⟩:=Q9 (w:=W) AN (by simpa[Value.cells]using Z);obtain⟨Q,rfl,g⟩:∃n,v1=.I n/\fg n:=by obtain⟨n,rfl⟩:=okWide_int underlying3 (hval 1 3 v1 rfl rfl);obtain⟨n',e,h⟩:=OM (u:=.I n) underlying3 (by simpa[Value.cells]using g1);grind
 obtain⟨x,y,rfl,f,T⟩:=kK Y;obtain⟨x',y',rfl,S,d⟩:=kK R;obtain⟨N,last,o,w',cF,r1,I,E,v,e,U,aQ,aT,K,J⟩:=QV (Rg (Post:=λv w'=>v=.T/\kV W w') g f T S d ⟨_,_,h0,λv hv=>by
  grind⟩ bl AN)
 refine⟨N,last,o,w',cF,r1,I,E,v,e,?_,aQ,aT,K,J⟩;obtain⟨rfl,a⟩:=U;have c:cC W {w' with os:=W.os}:=by
  refine⟨rfl,a.since.tape,a.since.output,a.since.size,λb X=>?_⟩;rcases vbh b with rfl|h
  .exact(a.first _ _ _ h0).trans h0.symm
  .exact a.old b h X
 have HE:Rows.totalsSpec.post enc prog Tryz.f3 false true false false W #[.slice cD len cap,.I Q,.agg #[.I x,.I y],.agg #[.I x',.I y']] (.T) {w' with os:=W.os}:=
  ⟨_,_,_,[],_,[],r,trodAll_mk1 (shut_bool underlying4 true),trodAll_mk4 (Below.trod ON AU (vdg Ab) t0 c AN) (Below.trod ON AU (vdg Ab) A c AN) (Below.trod ON AU (vdg Ab) z c AN) (Below.trod ON AU (vdg Ab) s c AN),rfl,c.frame _,AN⟩
 exact postWith_blind (postWith_of_post HE a.since.later)
end
end bj
theorem totals_holds:Rows.TotalsSaid:=
 OpenClaim.holds_of_wide_leaving_time 3 Tryz.f3 U U U U U U U ⟨U,U,U,U,U⟩ U U U U U AU func3 AU
  (vdg AU) (by unfold Func.isWrapper;first|(rw[vdi AT];kernel_rfl)|(rw[vcy AT];exact⟨U,U⟩))
  (λos started H enc _ F=>bj.QM os started H enc F)
