import Derived.Test.YtnomloiacicoaaaGreatPAJ
set_option linter.all false
set_option maxRecDepth 100000
set_option maxHeartbeats 16000000
namespace Go.Proofs.YtnomloiacicoaaaGreat
open Tryz
namespace b_
open RowKit Shelf av bd
abbrev iK(w:aR)(b k:Nat)(cG a1 a6 bK cS:Value):aR:=((((w.setCell ⟨b,k*5,none⟩ cG).setCell ⟨b,k*5+1,none⟩ a1).setCell ⟨b,k*5+2,none⟩ a6).setCell ⟨b,k*5+3,none⟩ bK).setCell ⟨b,k*5+4,none⟩ cS
variable{w:aR}{b:Nat}{cs:dX}{T:uaa}
def aqh(h:ag w b cs T)k c a1 e d a:ag (iK w b k c a1 e d a) b (sw cs k c a1 e d a) T:=((((h.set _ _).set _ _).set _ _).set _ _).set _ _
theorem N_ w b k d a1 f e c{x}(a:x≠b):(iK w b k d a1 f e c).heap[x]?=w.heap[x]?:=
 (vat _ _ _ _ a).trans ((vat _ _ _ _ a).trans ((vat _ _ _ _ a).trans ((vat _ _ _ _ a).trans (vat _ _ _ _ a))))
def aqi(w:aR)(b k:Nat)(c a1 e d a:Value):KeepsOthers w (iK w b k c a1 e d a):=
 ((((vdl _ _ _).trans (vdl _ _ _)).trans (vdl _ _ _)).trans (vdl _ _ _)).trans (vdl _ _ _)
def aqj(h:ag w b cs T){Y}(i:¬Y T)k d a1 g f a:iN Y w (iK w b k d a1 g f a):=
 ⟨BB,λx c e z j y=>by
  grind[ag,N_]⟩
variable{n:Nat}
def abJ(w:aR)(hn:n<=b)(k:Nat)(c a1 e d a:Value):Below n w (iK w b k c a1 e d a):=
 (((((vaa n w).setCell (p:=⟨b,_,none⟩) hn _).setCell (p:=⟨b,_,none⟩) hn _).setCell (p:=⟨b,_,none⟩) hn _).setCell (p:=⟨b,_,none⟩) hn _).setCell (p:=⟨b,_,none⟩) hn _
def vT.congr{l D m a L}(h:vT l D m L cs)(b:∀i,i<l.length->m i=a i):vT l D a L cs:=
 ⟨h.size,λi hi=>by rw[<-b i hi];exact h.zc i hi,h.Du⟩
def nt(t:ubs)(D:Nat->bz)(n:Nat):a9:=
 ⟨t.1,t.2,if t.1=3 then []else(List.range n).map λr=>(D r).num,if t.1=3 then(List.range n).map λr=>(D r).text else [],(List.range n).map λr=>(D r).bR⟩
def mP(l:g7)(D:Nat->Nat->bz)(n:Nat):List a9:=(List.range l.length).map λi=>nt (l[i]?.getD (0,0)) (D · i) n
variable{W:aR}{B:Nat}{e:uaa}{v:Value}
def Kh{aq:Type}{R:aR->(Nat->Option Value)->aq->Prop}{xs:uai}{a:List aq}(h:W.ownsRow B e 1 v xs.length xs)(b:a.length=xs.length)(k:∀i(h:i<a.length),∀rd:Nat->Option Value,rd 0=some (xs[i]'(b▸h))->R W rd a[i]):bo W 1 R v a:=by
 obtain⟨-,⟨hv,hn⟩|⟨g,cap,bq,hv,-,j,f,l,-,c⟩⟩:=h
 .grind[bo.nil]
 .refine⟨_,_,by rw[hv,b],Hb,λi hi=>⟨_,_,Y,k i hi _ ?_⟩⟩;have d:i<xs.length:=b▸hi;have e1:xs[i]?=some xs[i]:=vaq d;have e2:(bq.toList.take (xs.length*1))[i]?=xs[i]?:=by rw[c]
  rw[List.getElem?_take_of_lt AQ,Array.getElem?_toList]at e2;have b0:ag W g bq e:=j;show W.cell? (.a g (0+i*1+0))=_;rw[b0.rules.1,show 0+i*1+0=i by omega,e2,e1]
def vU(w:aR)(v:Value)(e:uaa):Prop:=∀b,v.ownBlock=some b->∃c z,w.heap[b]?=some (.cells c e z)
def rF{xs:uai}(h:W.ownsRow B e 1 v n xs):vU W v e:=by
 intro b a;obtain⟨-,⟨hv,-⟩|⟨g,cap,bq,hv,-,c,-⟩⟩:=h
 .rw[hv]at a;cases a
 .rw[hv]at a;cases a;grind
def aqk(w:aR)(rd:uan)(c:a9):Prop:=
 ∃dA vs bJ,rd 0=some (.I c.kind)/\rd 1=some (.I c.dg)/\rd 2=some dA/\rd 3=some vs/\rd 4=some bJ/\xl w dA vs bJ c/\vU w dA 2/\vU w vs 9/\vU w bJ 4
def lv(w:aR)(v:Value)(t:List a9):Prop:=bo w 5 aqk v t/\vU w v 45
def lv.cQ{t}(h:lv w v t):n8 w v t:=by obtain⟨⟨f,cap,hv,a,d⟩,-⟩:=h;refine⟨f,cap,hv,a,λi hi=>?_⟩;obtain⟨b,off,c,e,vs,g,h0,h1,h2,h3,h4,j,-⟩:=d i hi;exact⟨b,off,c,e,vs,g,h0,h1,h2,h3,h4,j⟩
def rG(e:uaa):Prop:=e=45\/e=2\/e=9\/e=4
variable{w':aR}
theorem abK(hk:iN rG w w'){l c off}(ht:vU w (.S b off l c) e)(a:rG e)o:w'.cell? (.a b o)=w.cell? (.a b o):=by obtain⟨cs,z,h⟩:=ht b Y;have:=hk.cells _ _ _ _ h a;grind[World.cell?]
def Un{aq:Type}{R:aR->(Nat->Option Value)->aq->Prop}(g:∀w w' rd a x,(∀j v,rd j=some v->a j=some v)->R w rd x->R w' a x)(hk:iN rG w w')(ht:vU w v e)(d:rG e){xs:List aq}(h:bo w 1 R v xs):bo w' 1 R v xs:=by obtain⟨c,cap,rfl,b,f⟩:=h;refine⟨c,cap,Y,b,λi hi=>?_⟩;grind[abK]
def lv.kept{t}(hk:iN rG w w')(h:lv w v t):lv w' v t:=by
 obtain⟨⟨r,cap,rfl,m,p⟩,ht⟩:=h;have hd:∀{v e},rG e->vU w v e->vU w' v e:=λk h b n=>by obtain⟨c,z,h1⟩:=h b n;exact⟨c,z,hk.cells _ _ _ _ h1 k⟩
 refine⟨⟨r,cap,Y,m,λi hi=>?_⟩,hd Jv ht⟩;obtain⟨b,off,rfl,q,vs,s,h0,h1,h2,h3,h4,d,j,g,f⟩:=p i hi;have key:∀o x,w.cell? (.a b o)=some x->w'.cell? (.a b o)=some x:=λo x l=>(abK hk ht Jv o).trans l;exact⟨b,off,Y,q,vs,s,key _ _ h0,key _ _ h1,key _ _ h2,key _ _ h3,key _ _ h4,⟨Un (R:=sg) (λ_ _ _ _ _ a h=>a _ _ h) hk j (.inr Jv) d.im,Un (R:=Gp) (λ_ _ _ _ _ a h=>⟨a _ _ h.1,h.2⟩) hk g (.inr AA) d.iJ,Un (R:=CA) (λ_ _ _ _ _ a h=>a _ _ h) hk f (.inr AA) d.ff⟩,hd (.inr Jv) j,hd (.inr AA) g,hd (.inr AA) f⟩
def aql{cb l D V L}(a:fa B V L)(m:vT l D (λ_=>n) L cs)(c:ag V cb cs 45)(t:l.length<=1000)(ht:∀r i,r<n->i<l.length->(D r i).text.size<=1000000):
 lv V (.S cb 0 l.length l.length) (mP l D n):=by
 have e0:(mP l D n).length=l.length:=by simp[mP]
 refine⟨⟨_,_,by rw[e0],AQ,λi hi=>⟨_,_,Y,?_⟩⟩,λb h=>by cases h;exact⟨_,_,c⟩⟩;rw[e0]at hi;have e1:(mP l D n)[i]'AQ=nt l[i] (D · i) n:=by simp[mP,hi]
 rw[e1];obtain⟨e,vs,f,p,a1,s,q,o,fO,k,g⟩:=m.zc i hi;refine⟨e,vs,f,?_,?_,?_,?_,?_,⟨?_,?_,?_⟩,rF (show V.ownsRow _ 2 1 e (pH l[i].1 (D · i) n).length _ from a.at fO),rF (show V.ownsRow _ 9 1 vs (pI l[i].1 (D · i) n).length _ from a.at k),rF (show V.ownsRow _ 4 1 f (tH (D · i) n).length _ from a.at g)⟩
 .show V.cell? _=_;rw[c.rules.1,show 0+i*5+0=i*5 by omega,p];rfl
 .show V.cell? _=_;rw[c.rules.1,show 0+i*5+1=i*5+1 by omega,a1];rfl
 .show V.cell? _=_;rw[c.rules.1,show 0+i*5+2=i*5+2 by omega,s]
 .show V.cell? _=_;rw[c.rules.1,show 0+i*5+3=i*5+3 by omega,q]
 .show V.cell? _=_;rw[c.rules.1,show 0+i*5+4=i*5+4 by omega,o]
 .refine Kh (show V.ownsRow _ 2 1 e (pH l[i].1 (D · i) n).length _ from a.at fO) ?_ ?_
  .grind[nt,pH]
  .intro j d rd h0;by_cases hk:l[i].1=3
   .grind[nt]
   .simp[nt,pH,hk]at h0⊢;exact h0
 .refine Kh (show V.ownsRow _ 9 1 vs (pI l[i].1 (D · i) n).length _ from a.at k) ?_ ?_
  .grind[nt,pI]
  .intro j d rd h0;by_cases hk:l[i].1=3
   .simp[nt,hk]at d;simp[nt,pI,hk]at h0⊢;exact⟨h0,AA⟩
   grind[nt]
 .refine Kh (show V.ownsRow _ 4 1 f (tH (D · i) n).length _ from a.at g) ?_ ?_
  .simp[nt,tH]
  .intro j d rd h0;simp[nt,tH]at h0⊢;exact h0
end b_
namespace bd
open Conc ConcM RowKit av bj ah eK hO fH iu dx
def mU(t:List a9)(fr aT:Nat):List cP:=(List.range (aT-fr)).map λk=>([((fr+k:Nat):Int)],t.map (nk · (fr+k)))
theorem DK t fr aT:(mU t fr aT).length=aT-fr:=by simp[mU]
def zi w a:bp w {w with tape:=a}:=λ_ _ _ h=>h
def xQ.keeps{t fr aT w w' u}(hk:bp w w')(h:xQ t fr aT w u):xQ t fr aT w' u:=by obtain⟨a,gF,bs,v,rfl,h1,h2,h3,h4⟩:=h;exact⟨a,gF,bs,v,Y,hk _ _ _ h1,hk _ _ _ h2,hk _ _ _ h3,h4.mono si hk⟩
def aqT:gE prog false f204=true:=by decide+kernel
def Yo:gE prog false f110=true:=by decide+kernel
def aqU:gE prog false f206=true:=by decide+kernel
def uL:(da prog false).Good:=ZB false AD AD
def aqV t fr aT(a:t.length<=1000000)(f:fr<=aT)(s:aT<=1000000)(r:aT-fr<=300)(b:∀i,i<aT->∀c∈t,xy i c)w u(h:xQ t fr aT w u):
 Calls vfd 110 #[u] w λe w'=>∃v,e=.returned v/\ko w' v (mU t fr aT):=by
 obtain⟨g,gF,bs,v,rfl,h1,h2,h3,h4⟩:=h;refine(ank r w (anz _ _ _) (λargs w=>cR aaz aqU args w) (anA t v fr aT w h4 a f s b g gF bs h1 h2 h3)).mono ?_;rintro e w' ⟨v',rfl,l,-⟩;refine⟨v',Y,Uf l _ (DK _ _ _) AQ λj n p q k=>?_⟩;have m:j<aT-fr:=by rwa[DK]at n
 have e1:(mU t fr aT)[j]=([((fr+j:Nat):Int)],t.map (nk · (fr+j))):=by simp[mU]
 rw[e1];refine apN k AS AA λd hd=>?_;obtain⟨c,o,rfl⟩:=vbl.1 hd;exact(b (fr+j) AQ c o).small
def aqW{Stop c cH a8}(n:∀b,a8 b->c.K b)(hg:∀g,g<=prog.globals.size->a8 g)(e:fG (da prog false) (λb=>a8 b\/bL b) bL cH){k v t fr aT}(hv:n8 cH v t)(hrel:au (dp (λb=>a8 b\/bL b) bL) v v)(hinv:∀(args:dX)(w:aR),(callMethod k "Piece" args).run prog w=.ok (.enter 204 (#[.agg #[v]]++args)) w/\(callMethod k "Piece" args).events prog w #[]=#[])(f:t.length<=1000000)(m:∀T,T<c.N->fr T<=aT T/\aT T<=1000000/\aT T-fr T<=300/\∀i,i<aT T->∀c∈t,xy i c)(ss:∀T,T<c.N->c.rows T=aT T-fr T)(mf:∀T,c.cq T=false):
 uK c cH prog Stop 110 k 204 (.agg #[v]) fr aT
  (λT u M w=>o6 (da prog false) a8 c.K (xQ t (fr T) (aT T)) u M w) (λT v M w=>o6 (da prog false) a8 c.K (λw v=>T<c.N/\ko w v (mU t (fr T) (aT T))) v M w):=by
 refine apM uL Y func204 aqT Y AD func110 Yo Y AD n hg e hinv (.qT (.one hrel))
  (uN:=λT=>xQ t (fr T) (aT T)) (uO:=λT w v=>T<c.N/\ko w v (mU t (fr T) (aT T))) (λT=>apO _ _ _) (λT _ _ _ _ _ p hv h=>⟨h.1,abB _ _ _ _ _ _ p hv h.2⟩) (λT j w l d q a=>?_) mf (λT j d u o a=>?_) (λT w v h=>?_)
 .exact apQ t v (fr T) (aT T) {d with tape:=a} (av.bo.carry xP (q.carry (pE e l)) hrel (av.bo.carry xP (sF l e) hrel hv) |>.mono si (zi d a))
 .obtain⟨h1,h2,h3,h4⟩:=m T j;exact(aqV t (fr T) (aT T) f h1 h2 h3 h4 {d with tape:=a} u (xQ.keeps (zi d a) o)).mono AA
 .obtain⟨j,r,cap,rfl,-,-⟩:=h;simp_all[DK]
end bd
namespace bd
open RowKit av
def uW(n:Nat)(v:Value):Prop:=∃a c,v=.slice a n c/\n<=c
variable{n:Nat}
theorem uW.carry{ρ v v'}(h:uW n v)(hv:au ρ v v'):uW n v':=by obtain⟨a,c,rfl,b⟩:=h;cases hv with|iH=>exact⟨_,_,Y,b⟩|slice=>exact⟨_,_,Y,b⟩
def UK:vfd.funcs[(114:Nat)]?=some f114:=vfa func114
@[simp] theorem aIa:dc false 114:=cR UK AD
theorem aqX(n:Nat)(hn:n<=1000)(w:aR):
 Calls vfd 114 #[.N,.I n] w λe w'=>∃v,e=.returned v/\w'.ownsRow w.heap.size 77 2 v 0 []/\c6 w w':=by
 by_cases h0:n=0
 .subst h0;go_enter UK,ntmps114
  go_wp2
  go_ret
  simp_all[vcg,vaa]
 .have d:(0:Int)<(n:Int):=by omega
  have a:t77.bytes=48:=AB;have c:=nextslicecap_zero (need:=n) AQ;go_enter UK,ntmps114
  go_wp2
  all_goals try(exfalso;simp only[a,c]at *;omega)
  go_ret
  have h1:n<=(Question.appendCap n 0 77).cut (w.tape w.drawn (Question.appendCap n 0 77)):=by simp[Question.cut]
  have h2:(Question.appendCap n 0 77).cut (w.tape w.drawn (Question.appendCap n 0 77))<=maxLen:=by simp only[Question.cut,maxLen];have:=Nat.mod_lt (w.tape w.drawn (Question.appendCap n 0 77)) (show 0<2^63-n by omega);omega
  generalize(Question.appendCap n 0 77).cut (w.tape w.drawn (Question.appendCap n 0 77))=b at *;refine⟨_,Y,⟨AS,.inr ⟨w.heap.size,b,_,Y,vac _,(ag.new w _ _).drew,vax _,h2,?_,AS⟩⟩,((vaa _ w).alloc JR _).drew⟩;grind[size_zeroCells]
theorem Yh{P:Nat->Value×Value->Prop}(h:∀i,i<n->∃p,P i p):∀k,k<=n->∃xs:List (Value×Value),xs.length=k/\∀i(hi:i<xs.length),P i xs[i]
 |0,_=>⟨[],Y,AA⟩
 |k+1,hk=>by obtain⟨xs,h1,h2⟩:=Yh h k AQ;obtain⟨p,a⟩:=h k AQ;refine⟨xs++[p],AA,λi hi=>?_⟩;grind
theorem UM xs j u(h:(two xs)[j]?=some u):∃i,∃hi:i<xs.length,(j=i*2/\u=xs[i].1)\/(j=i*2+1/\u=xs[i].2):=by have a:j<(two xs).length:=(vab.1 h).1;rw[aaj]at a;have hi:j / 2<xs.length:=AQ;refine⟨j / 2,hi,?_⟩;obtain⟨g1,b⟩:=Kf xs (j / 2) hi;grind
variable{w:aR}
def Yg{v rs}(h:ko w v rs)(h0:0<rs.length):
 ∃b off c,∃xs:List (Value×Value),v=.S b off rs.length c/\xs.length=rs.length/\(∀j u,(two xs)[j]?=some u->w.cell? (.a b (off+j))=some u)/\(∀u∈two xs,u.oneCell'=true)/\
  ∀i(hi:i<xs.length)(q:i<rs.length),h5 w xs[i].1 rs[i].1/\oi w xs[i].2 rs[i].2:=by
 obtain⟨r,c,rfl,-,f⟩:=h;obtain⟨b,off,rfl,-⟩:=f 0 h0;have m:∀i,i<rs.length->∃p:Value×Value,w.cell? (.a b (off+i*2))=some p.1/\w.cell? (.a b (off+i*2+1))=some p.2/\∀hi:i<rs.length,h5 w p.1 rs[i].1/\oi w p.2 rs[i].2:=by intro i hi;obtain⟨s,t,e,pv,n,b3,c1,o,hv⟩:=f i hi;simp_all
 obtain⟨xs,l,g⟩:=Yh m rs.length JR;refine⟨b,off,c,xs,Y,l,λj u d=>?_,λu d=>?_,AA⟩
 .grind[UM]
 .obtain⟨j,k⟩:=List.getElem?_of_mem d;obtain⟨i,hi,⟨-,rfl⟩|⟨-,rfl⟩⟩:=UM xs j u k
  .obtain⟨a,cc,e,-⟩:=((g i hi).2.2 AQ).1;rw[e];rfl
  .obtain⟨a,cc,e,-⟩:=((g i hi).2.2 AQ).2;rw[e];rfl
def Ot(w:aR)(rd:uan)(rs:List cP):Prop:=∃v,rd 0=some v/\ko w v rs
def aqY:vfd.funcs[(90:Nat)]?=some f90:=vfa func90
def ly(ps:List (List cP))(k:Nat):List cP:=(ps.take k).flatten
def k5(ps:List (List cP))(k:Nat):Nat:=(ly ps k).length
variable{ps:List (List cP)}
theorem Ou{k}(h:k<ps.length):ly ps (k+1)=ly ps k++ps[k]:=by grind[ly,List.take_succ_eq_append_getElem]
theorem Hl{k}(h:k<ps.length):k5 ps (k+1)=k5 ps k+ps[k].length:=by grind[k5,Ou]
def aqZ{P:cE}(w:aR)(t ty e:uaa)(i:TypeInfo)(ht:P.underlying t=some (.slice e))(hi:P.info? e=some i)(base xa:uag)(n cap b:Nat)(a:n<=cap):
 (Builtin.append_ #[t,t] ty #[.slice base n cap,.slice xa 0 b]).run P w=.ok (.slice base n cap) w:=by
 cases base<;>cases xa<;>simp[Builtin.append_,run_underlying ht,sizeOf,typeInfo,hi,a,Builtin.lenOf,Builtin.firstCells,storeCells,go_sem]
def aq0{P:cE}{ops:fF}{rest:ubc}{o:Oper}{a:Act}{Q:uao}(g:o.guard=none)(s x:uam)(t:uaa)(f:o.op=.call {callee:=.builtin .append,args:=#[s,x],argTypes:=#[t,t]})(e:uaa)(i:TypeInfo)(ht:P.underlying t=some (.slice e))(hi:P.info? e=some i){base xa:uag}{cap c:Nat}(hs:a.eval s=.slice base n cap)(d:a.eval x=.slice xa 0 c)(b:n<=cap)(h:wpList P ops Q rest (a.put o.dst (.slice base n cap)) w):wpList P ops Q (o::rest) a w:=by
 refine wpList_plain g λK hK=>?_;have hrun:=aqZ (P:=P) w t o.type e i ht hi base xa n cap c b;unfold Oper.wp;simp[execOp,f,resolve,invoke,builtin,hs,d,hrun,Result.andThen];exact hK _ _ h
def aq1{base:Nat}{e:uaa}{size gc:Nat}{bZ:uag}{xs:uai}(h:w.ownsRow base e size (.slice bZ n gc) n xs):n<=gc:=by
 rcases h.2 with⟨e,h0⟩|⟨g',cap',bq,e,-,-,h1,-⟩
 .grind
 grind
def aq2 ps UN w(h:bo w 1 Ot UN ps)(DL:ps.length<=1000)(J:∀k,k5 ps k<=1000):
 Calls vfd 90 #[UN] w λe w'=>∃v,e=.returned v/\ko w' v (ly ps ps.length)/\uW (k5 ps ps.length) v/\c6 w w':=by
 obtain⟨bY,cap,rfl,hl,t⟩:=h;go_enter aqY,ntmps90
 go_wp2
 go_loopw [3,5,11] (λa _ b W=>∃k:Nat,k<=ps.length/\a=.I (k5 ps k:Int)/\b=.I (k:Int)/\W=w) (λ_ _ b _=>ps.length-(intOf b).toNat)
 case atStart=>exact⟨0,vax _,Y,Y,Y⟩
 case round=>
  obtain⟨k,hk,rfl,rfl,rfl⟩:=hrel;by_cases d:k<ps.length
  .obtain⟨b,off,rfl,v,f,hv⟩:=t k d;simp at f;obtain⟨b9,ck,F,-⟩:=bo.shape hv;subst F;have Z:=ef f;have S:(0:Int)<=(k:Int):=AQ;have T:(k:Int)<(ps.length:Int):=AQ;have l:=J (k+1);rw[Hl d]at l;have vz:¬((k5 ps k:Int)+(ps[k].length:Int)<0):=AQ;clear t hv;generalize fv:k5 ps k=X at *;go_wp2
   exact⟨⟨k+1,AQ,by grind[Hl],AS,NE⟩,by simp[intOf];omega⟩
  .have z:k=ps.length:=by omega
   subst z;have fp:¬((ps.length:Int)<(ps.length:Int)):=AQ;have Ov:=J ps.length;have y:Hid _:=t;clear t;obtain⟨w,rfl⟩:∃x:aR,x=wr:=⟨wr,Y⟩;go_wp2
   refine(aqX (k5 ps ps.length) Ov w).mono ?_;rintro e w1 ⟨v1,rfl,K,bl⟩;obtain⟨a1,c1,rfl⟩:=mg K;have yI:Hid (w1.ownsRow w.heap.size 77 2 (.slice a1 0 c1) 0 []):=K;have gO:Hid (c6 w w1):=bl;clear K bl;go_wp2
   go_loopw [6,8,27] (λa _ b W=>∃(k:Nat)(c:uav)(bZ:uag)(gc:Nat),k<=ps.length/\a=.slice bZ (k5 ps k) gc/\b=.I (k:Int)/\c.length=(k5 ps k)/\W.ownsRow w.heap.size 77 2 (.slice bZ (k5 ps k) gc) (k5 ps k) (two c)/\(∀i(h1:i<c.length)(h2:i<(ly ps k).length),h5 w c[i].1 ((ly ps k)[i]).1/\oi w c[i].2 ((ly ps k)[i]).2)/\c6 w W) (λ_ _ b _=>ps.length-(intOf b).toNat)
   case atStart=>exact⟨0,[],a1,c1,vax _,Y,Y,Y,yI.out,AA,gO.out⟩
   case round=>
    obtain⟨k,c,bZ,gc,hk,rfl,rfl,s,dS,Ox,U⟩:=hrel;have o:Hid _:=dS;have I:Hid _:=Ox;have n:Hid (c6 w wr):=U;clear dS Ox U;by_cases d:k<ps.length
    .obtain⟨b,off,rfl,v,f,hv⟩:=y.out k d;simp at f;by_cases B:ps[k].length=0
     .obtain⟨b9,ck,rfl,-,-⟩:=id hv;have m:=bp.cy n.out;have e0:=m _ _ _ f;have Z:=ef e0;have S:(0:Int)<=(k:Int):=AQ;have T:(k:Int)<(ps.length:Int):=AQ;obtain⟨A,hi,-,-,-⟩:=vce Ng;have l:=Hl d;rw[B,vcc]at l;have R:ly ps (k+1)=ly ps k:=by rw[Ou d,List.eq_nil_of_length_eq_zero B,vdc]
      have E:Hid (k5 ps k<=gc):=aq1 o.out;rw[B]at e0;clear hv f m y;go_wp2_with (at_builtin;apply qq)
      unfold hM;refine aq0 Y _ _ 67 Y 77 A ((tf _ _ _).trans underlying67) hi Y Y E.out ?_;have H:Hid _:=l;have D:Hid _:=R;clear l R hi;go_wp2
      go_roundw
      case rel=>exact⟨k+1,c,bZ,gc,AQ,by rw[H.out];rfl,AS,by rw[H.out];grind,by rw[H.out];exact o.out,by rw[D.out];exact I.out,n.out⟩
      case measure=>simp[intOf];omega
     .have m:=bp.cy n.out;have e0:=m _ _ _ f;have Z:=ef e0;obtain⟨c5,pa,pc,xs,rfl,DO,DQ,M,DR⟩:=Yg hv AQ;have UQ:Hid (∀j u,(two xs)[j]?=some u->wr.cell? (Addr.add ⟨c5,pa,none⟩ j)=some u):=λj u hu=>by rw[vdn];exact m _ _ _ (DQ j u hu)
      have qs:Hid _:=M;have C:Hid _:=DR;have S:(0:Int)<=(k:Int):=AQ;have T:(k:Int)<(ps.length:Int):=AQ;have l:=J (k+1);rw[Hl d]at l;obtain⟨A,hi,qr,oV,rj⟩:=vce Ng;have O:Hid (w.heap.size<=wr.heap.size):=n.out.size;clear hv f m DQ M DR y;go_wp2_with (at_builtin;apply qq)
      unfold hM;refine wpList_append_own _ Y _ _ 67 Y w.heap.size 77 A _ 2 48 ((tf _ _ _).trans underlying67) hi qr oV rj Y AF (.slice bZ (k5 ps k) gc) (k5 ps k) (two c) Y o.out ⟨c5,pa,none⟩ ps[k].length pc (two xs) Y (by rw[aaj,DO]) UQ.out qs.out Dv AQ O.out ?_;intro v' L P Q _;obtain⟨V,bt,rfl⟩:=mg P;have sq:Hid (L.ownsRow w.heap.size 77 2 (.slice V (k5 ps (k+1)) bt) (k5 ps (k+1)) (two (c++xs))):=by grind[Hid,Hl,two]
      have hL:Hid (c6 w L):=n.out.grown Q O.out (λg hg=>(World.ownsRow.lt o.out g hg).1);have AW:Hid (∀i(h1:i<(c++xs).length)(h2:i<(ly ps (k+1)).length),h5 w (c++xs)[i].1 ((ly ps (k+1))[i]).1/\oi w (c++xs)[i].2 ((ly ps (k+1))[i]).2):=by
       intro i h1 h2;have aIb:c.length=(ly ps k).length:=s;simp[Ou d];by_cases r:i<c.length
       .rw[vcp r,vcp AQ];exact I.out i r AQ
       .rw[vet AQ,vet AQ];have:=C.out (i-c.length) AA AA;grind
      have Nx:=Hl d;have Oy:Hid ((c++xs).length=k5 ps (k+1)):=GB;clear P Q e0;rw[<-Nx];clear Nx;go_wp2
      go_roundw
      case rel=>exact⟨k+1,c++xs,V,bt,AQ,Y,AS,Oy.out,sq.out,AW.out,hL.out⟩
      case measure=>simp[intOf];omega
    .have z:k=ps.length:=by omega
     subst z;have jL:¬((ps.length:Int)<(ps.length:Int)):=AQ;clear y;go_wp2
     go_ret
     have m:=bp.cy n.out;have sJ:k5 ps ps.length<=gc:=by
      rcases o.out.2 with⟨e,h0⟩|⟨g',cap',bq,e,-,-,h1,-⟩
      .grind
      grind
     refine⟨_,Y,?_,⟨_,_,Y,sJ⟩,n.out⟩;exact Uf (Row:=λj W x=>∃h:j<c.length,x=.agg #[c[j].1,c[j].2]) (N:=k5 ps ps.length) ⟨c,s,o.out,AA⟩ (ly ps ps.length) Y AQ (λj hj p q⟨hy,e⟩=>by
      simp at e;obtain⟨rfl,rfl⟩:=e;obtain⟨r1,r2⟩:=I.out j hy hj;grind[bo.mono,q8,Hc])
end bd
namespace cV
open Conc ConcN ConcM bj ah eK
section
section
variable{Shun:ual}{B n:Nat}{t:Trace}{p:kG}
def asY(h:nQ Shun B 0 n t)(hn:p.n=n)(q:p.base=n)(hsz:p.size=B)(z:p.tok=none)(w:No p)(hK:∀b,p.K b\/p.mine 0 b->∀l,fy l=some b->¬Shun l)(A:∀j b,j≠0->¬p.mine j b)(hg:∀l,p.h_ l\/p.fj l->¬Shun l):eH p t:=by
 have o:∀j,p.bq j->j=0:=λj d=>by
  rcases d with⟨h1,h2|h2⟩
  .exact h2
  grind
 have br:∀{i:Nat}{a:Touch},touchAt t i=some a->a.loc.isMemory=true->¬Shun a.loc->Knows t 0 i:=λg m hs=>(h.known _ _ g m).elim id AA;have y:∀{i:Nat}{a:Touch}{b:Nat},touchAt t i=some a->fy a.loc=some b->p.K b\/p.mine 0 b->Knows t 0 i:=λg f q=>br g (GV f) (hK _ q _ f);refine⟨λi a c m v=>.inr ⟨λu=>hg _ (.inl u) (h.oW i a c m v),λb f=>⟨λhk=>hK b (.inl hk) _ f (h.oW i a c m v),λj d=>?_⟩⟩,λi op hi=>by rw[hn];exact h.gs op (vbr hi),λi a b c f=>?_,λi a b c _ f hk j d=>?_,λj i a b d c f C=>?_,AA,λ_ i a c u=>.inl λj d=>?_,λi a c hs=>.inr (.inr λj d=>?_),λi a g=>?_,h.Ki,λi j d _ x=>.inl ?_⟩
 .by_cases e:j=0
  .subst e;exact hK b (.inr d) _ f (h.oW i a c m v)
  grind
 .rw[hsz];exact h.low i a b c f
 .grind
 .grind
 .rw[o j d];exact br c (w.h_ _ u) AA
 .rw[o j d];exact br c (w.fj _ hs) (hg _ (.inr hs))
 .unfold Trace.act? at g;obtain⟨op,s,r⟩:=vai.1 g;exact h.rp op (vbr s) a r
 .by_cases e:j=0
  .grind[Trace.g?,knows_own]
  .obtain⟨k,hk,q⟩:=h.over i j d e x;unfold Trace.g? at hk;obtain⟨op,s,r⟩:=vai.1 hk;exact⟨k,op,s,r,.inr q⟩
end
section
variable{c:dU}
def HG(c:dU)(gs:uaz)(t:Trace)(q:uas)(l0:ah.Lo At)(g:uaj)(w:aR)(M:dL)(j:Nat):cN (ao (ay c)):=
 if j=0 then⟨g,l0,⟨g,w,M⟩,0⟩else⟨gs.getD j default,(⟨.idle,false,Deaf t j,0,.old⟩:ah.Lo At),⟨gs.getD j default,w,λ_=>False⟩,q j⟩
def pe(c:dU)(gs:uaz)(t:Trace)(q:uas)(l0:ah.Lo At)(g:uaj)(w:aR)(M:dL):List (cN (ao (ay c))):=(List.range gs.size).map (HG c gs t q l0 g w M)
variable{gs:uaz}{t:Trace}{q:uas}{l0:ah.Lo At}{g:uaj}{w:aR}{M:dL}
def wD{j r}(h:(pe c gs t q l0 g w M)[j]?=some r):j<gs.size/\r=HG c gs t q l0 g w M j:=by unfold pe at h;grind
theorem HH:(pe c gs t q l0 g w M).length=gs.size:=by simp[pe]
def asZ(h:0<gs.size):(pe c gs t q l0 g w M)[0]?=some (⟨g,l0,⟨g,w,M⟩,0⟩:cN (ao (ay c))):=by unfold pe;rw[vbf,List.getElem?_range h];rfl
theorem E5{j}(h:j≠0):HG c gs t q l0 g w M j=⟨gs.getD j default,(⟨.idle,false,Deaf t j,0,.old⟩:ah.Lo At),⟨gs.getD j default,w,λ_=>False⟩,q j⟩:=by unfold HG;grind
def as0(h0:gs[0]?=some g):kW (ao (ay c)) (pe c gs t q l0 g w M)=gs:=by
 apply vcm;intro j;rw[C_];cases a:(pe c gs t q l0 g w M)[j]? with
 |none=>grind[HH]
 |some r=>
  obtain⟨h1,rfl⟩:=wD a;by_cases e:j=0
  .subst e;rw[h0];rfl
  simp_all[E5]
theorem Vt{f}(b:f .idle=0):∀xs,(∀x∈xs,x=.idle)->ah.aS f xs=0
 | [],_=>rfl
 |a::xs,h=>by have h1:=h a AS;subst h1;have h2:=Vt b xs AA;simp only[ah.aS,vej,List.sum_cons,b]at h2⊢;omega
def as1:∀(xs:uac)a,xs[0]?=some a->(∀j x,j≠0->xs[j]?=some x->x=0)->xs.sum=a
 | [],a,h,_=>AA
 |b::xs,a,h,d=>by
  simp at h;subst h;have:∀(c:uac),(∀x∈c,x=0)->c.sum=0:=by intro c;induction c with|nil=>grind|cons y c f=>simp_all
  have:=this xs (λx e=>by
   obtain⟨j,g⟩:=List.mem_iff_getElem?.1 e;exact d (j+1) x AQ AA)
  grind
def as2{f0 v b0}(D:l0=⟨.idle,false,0,f0,.main (.spawn 0 false)⟩)(u:0<gs.size)(hn:gs.size=c.rows c.N)(fl:gs.size<=c.most)(d:b0.aS=0/\b0.eF=false/\b0.gT=0/\b0.taken=0/\b0.came=0/\b0.done.length=c.N/\b0.least=none):
 (ao (ay c)).qu (⟨⟨false,false,false,0,0,v⟩,f0+c.C*c.N,b0⟩:ah.aQ cO) ((pe c gs t q l0 g w M).map (·.l)):=by
 have get:∀{j:Nat}{l:ah.Lo At},((pe c gs t q l0 g w M).map (·.l))[j]?=some l->(j=0/\l=l0)\/(j≠0/\l=⟨.idle,false,Deaf t j,0,.old⟩):=by
  intro j l h;rw[vbf]at h;obtain⟨r,z,rfl⟩:=vai.1 h;obtain⟨h1,rfl⟩:=wD z;by_cases e:j=0
  .subst e;exact .inl ⟨Y,Y⟩
  grind[E5]
 have B:((pe c gs t q l0 g w M).map (·.l))[0]?=some l0:=by rw[vbf,asZ u];rfl
 have m:∀{j:Nat}{a:At},(((pe c gs t q l0 g w M).map (·.l)).map (·.am))[j]?=some a->(j=0/\a=.main (.spawn 0 false))\/(j≠0/\a=.old):=by grind
 have zero:∀(f:At->Nat),f (.main (.spawn 0 false))=0->f .old=0->dI f (((pe c gs t q l0 g w M).map (·.l)).map (·.am))=0:=λf h1 h2=>
  NK f _ λi x y=>AA
 have idle:∀x∈((pe c gs t q l0 g w M).map (·.l)).map (·.mx),x=.idle:=by grind[List.mem_iff_getElem?]
 have ci:=λf n=>Vt (f:=f) n _ idle;refine⟨⟨?_,λ_=>?_,AA,λe=>?_,λi v' o hi=>?_⟩,⟨λk p hk=>?_,λs hs=>.inl ?_,⟨.spawn 0 false,?_,d.2.1,d.2.2.1,zero _ Y Y,zero _ Y Y⟩,λj s b=>?_,?_,AA,d.2.2.2.2.2.1,λp=>?_,λj a b pv A _=>?_,?_,λ⟨j,a,b,n⟩=>?_⟩,?_,λi l hi ht=>?_,λi l hi _=>?_,?_⟩
 .exact ci _ Y
 .exact⟨by rw[ci gS Y,ci er Y];rfl,ci _ Y,ci _ Y,by rw[ci ge Y,ci er Y];rfl⟩
 .exact absurd e.2.2.2 AA
 .grind
 .grind[HH]
 .grind
 .grind
 .grind
 .rw[d.1];exact(zero _ Y Y).symm
 .grind[eb,hand,ou]
 .rcases m b with⟨_,rfl⟩|⟨_,rfl⟩<;>simp[laid]at A
 .have:∀k,je (λp=>dI (ed p) (((pe c gs t q l0 g w M).map (·.l)).map (·.am))*c.rows p) k=0:=λk=>by induction k with|zero=>rfl|succ k C=>grind[eK.je,ed,ou]
  refine⟨AA,λq e=>?_,λp _ h=>?_⟩
  .rw[d.2.2.2.2.2.2]at e;cases e
  .exact absurd (zero (ed p) Y Y) (Nat.ne_of_gt h)
 .rcases m b with⟨_,rfl⟩|⟨_,rfl⟩<;>simp[eK.yZ]at n
 .have h1:(((pe c gs t q l0 g w M).map (·.l)).map (·.fuel)).sum=f0:=by refine as1 _ _ AA λj x b y=>?_;grind
  have h2:rx ⟨false,false,false,0,0,v⟩ (((pe c gs t q l0 g w M).map (·.l)).map (·.mx))=0:=by unfold rx;rw[ci er Y,ci eI Y]
  grind
 .grind
 .grind
 grind[HH]
end
end
section
open av iu
section
variable{c:dU}{P:cE}{cJ:uaf}{SM:ah.Lo At->a0->Prop}
def E6(c:dU)(P:cE)(cJ:uaf)(SM:ah.Lo At->a0->Prop):Bool->ah.Lo At->a0->Prop
 |true,l,X=>SM l X
 |false,l,X=>(l.am=.old/\∃k,QuitsD P k l.deaf X.g)\/∃q f,l=⟨.idle,false,1,f,.gone q⟩/\(∃k,QuitsD P k 1 X.g)/\kX c cJ q X.mine X.w
def as3:∀(l:ah.Lo At) X,E6 c P cJ SM false l X->(ao (ay c)).Left l/\∃n,QuitsD P n ((ao (ay c)).deaf l) X.g:=by
 rintro l X (⟨h1,h2⟩|⟨q,f,rfl,h2,_⟩)
 .grind[rA]
 .exact⟨NE,h2⟩
def as4{gs:uaz}{t:Trace}{q:uas}{g:uaj}{w:aR}{M:dL}{Shun:ual}{f0 v:Nat}{b0:cO}(h0:gs[0]?=some g)(hrun:g.status=.running)(z:Leavers P t gs q)(o:nQ Shun w.heap.size 0 gs.size t)(hn:gs.size=c.rows c.N)(fl:gs.size<=c.most)(d:b0.aS=0/\b0.eF=false/\b0.gT=0/\b0.taken=0/\b0.came=0/\b0.done.length=c.N/\b0.least=none)(x:w.heap[c.st]?=some (iq (ay c) ⟨false,false,false,0,0,v⟩ b0)/\(ay c).oZ b0 w)(p:∀b,M b->¬(ao (ay c)).ia b/\¬c.K b)(n:∀b,M b\/c.K b\/(ao (ay c)).ia b->b<w.heap.size/\∀l,fy l=some b->¬Shun l)(ht:bc (ao (ay c)) P (E6 c P cJ SM) true ⟨.idle,false,0,f0,.main (.spawn 0 false)⟩ ⟨⟨false,false,false,0,0,v⟩,f0+c.C*c.N,b0⟩ ⟨g,w,M⟩):
 Inv (ao (ay c)) P (E6 c P cJ SM) gs.size (pe c gs t q ⟨.idle,false,0,f0,.main (.spawn 0 false)⟩ g w M) ⟨⟨false,false,false,0,0,v⟩,f0+c.C*c.N,b0⟩ w t:=by
 have u:0<gs.size:=(vao.1 h0).1;have G:=dE (bW c);refine⟨λj r a=>?_,as2 Y u hn fl d,x,λj r a=>?_,λj r a b m=>?_,λj k r s a hk y b h1 h2=>?_,AA,λj r a A _=>?_,⟨none,λj r a=>?_,?_⟩,by grind[HH]⟩
 .obtain⟨h1,rfl⟩:=wD a;by_cases e:j=0
  .subst e;exact .runs Y hrun ht AS o.hears Y Ke
  .have e0:(j==0)=false:=by simp[e]
   rw[E5 e,e0];have hq:=z.old j (gs.getD j default) AQ BB;exact .leaves Y hq trivial (.inl ⟨Y,_,hq⟩)
 .obtain⟨h1,rfl⟩:=wD a;unfold HG;split<;>exact⟨⟨λ_ _=>Y,vac _,.refl _⟩,.refl _,Y,Y⟩
 .obtain⟨h1,rfl⟩:=wD a;by_cases e:j=0
  .subst e;exact⟨(p b m).1,(p b m).2,(n b (.inl m)).1⟩
  grind[E5]
 .obtain⟨_,rfl⟩:=wD a;obtain⟨_,rfl⟩:=wD hk;grind[E5]
 .obtain⟨_,rfl⟩:=wD a;rw[E5 A];exact⟨NE,λb h=>h⟩
 .obtain⟨_,rfl⟩:=wD a;grind[HG]
 .refine asY o HH Y Y Y (aaK G _ _ _ _) (λb d=>(n b ?_).2) (λj b a B=>?_) (λl f=>?_)
  .rcases d with d|⟨r,i,d⟩
   .exact .inr (.inl d)
   .obtain⟨_,rfl⟩:=wD i;exact .inl d
  .obtain⟨r,i,d⟩:=B;obtain⟨_,rfl⟩:=wD i;grind[E5]
  .rcases f with f|f
   .obtain⟨b,h1,h2⟩:=G.GY l f;grind
   .obtain⟨b,h1,h2⟩:=G.C2 l f;grind
end
section
variable{P:cE}{Post:hV}{p:kG}{g g1:uaj}{w:aR}
def HJ(p:kG)(l:Loc):Prop:=p.fj l\/(aaB p l/\∃b,fy l=some b/\b<p.size)
theorem as5{t}(f:eH p t)(hk:∀i j,t.g? i=some j->p.past j->t.counts i->Knows t 0 i)(s:∀j,j≠0->j<p.n->p.past j)(hd:Deaf t 0=0):nQ (HJ p) p.size 0 p.n t:=by
 have oW:∀i a,touchAt t i=some a->a.loc.isMemory=true->a.kind=.atomic->HJ p a.loc:=λi a n m hk=>by obtain⟨b,g⟩:=anF m;exact(f.oW i a n m hk).imp id λhn=>⟨hn,b,g,f.low i a b n g⟩
 have l:∀{i:Nat}{op:MemOp},t[i]?=some op->op.g≠0->p.past op.g:=λh d=>s _ d (f.gs _ _ h);refine⟨λop c=>?_,λop c a e=>?_,oW,f.yU,λi a n m=>?_,λi j q d u=>?_,hd,f.low⟩
 .obtain⟨i,hi⟩:=Array.mem_iff_getElem?.1 c;exact f.gs i op hi
 .obtain⟨i,hi⟩:=Array.mem_iff_getElem?.1 c;exact f.rp i a (by grind[Trace.act?])
 .obtain⟨op,o,v⟩:=touch_of n;by_cases e:op.g=0
  .grind[knows_own]
  .by_cases r:a.kind=.atomic
   .grind
   .exact .inl (hk i op.g Iz (l o e) ⟨a,by grind[Trace.act?],m,.inl r⟩)
 .unfold Trace.g? at q;obtain⟨op,o,rfl⟩:=vai.1 q;obtain⟨k,z,x,w,g⟩:=hk i op.g Iz (l o d) u;refine⟨k,Iz,?_⟩;rcases g with rfl|g
  .grind
  grind
def as6(hs:g.status=.running)(hstep:∀w,stepG P true g w=.go g1 w #[⟨.mark (.acquire p.wg),false,true⟩])(D:∀j,j≠0->j<p.n->p.past j)(hsz:w.heap.size=p.size)(u:∀k,bT P Post p.n (HJ p) 0 g1 (w.at k)):
 ∀(M:Nat)(gs:uaz)(sl:ubb)(q:uas)(t:Trace)(a:Nat),sumTo gs.size q<=M->gs.size=p.n->gs[0]?=some g->Leavers P t gs q->eH p t->Deaf t 0=0->mQ P Post (crowd gs (w.at a) sl) t:=by
 have own:∀(gs:uaz)(sl sl':ubb)(q:uas)(t:Trace)(a k:Nat),stepT P (crowd gs (w.at a) sl)=runT P (crowd gs (w.at k) sl') 0->gs.size=p.n->gs[0]?=some g->Leavers P t gs q->eH p t->Deaf t 0=0->mQ P Post (crowd gs (w.at a) sl) t:=by
  intro gs sl sl' q t a k hst hn h0 b c hd;have n:=runT_crowd_go (P:=P) (sl:=sl') (i:=0) h0 (show stepG P (0==0) g (w.at k)=_ from hstep _);have d:0<gs.size:=(vao.1 h0).1;have E:=Nu 0 g.frame.fn g.frame.place (.acquire p.wg);obtain⟨A,hk⟩:=c.anN (y:=({g:=0,fn:=g.frame.fn,pos:=g.frame.place,act:=.mark (.acquire p.wg)}:MemOp)) Y AQ Y hd;have B:Deaf (t++MemOp.ofEvents 0 g.frame.fn g.frame.place #[⟨.mark (.acquire p.wg),false,true⟩]) 0=0:=by rw[Deaf_own,hd];rfl
  have F:nQ (HJ p) p.size 0 p.n (t++MemOp.ofEvents 0 g.frame.fn g.frame.place #[⟨.mark (.acquire p.wg),false,true⟩]):=by grind[as5,GZ]
  refine mQ.step (hst.trans n) (u k _ _ q _ AA AA ⟨λj x m l=>?_,λj m=>?_⟩ (by rw[show(w.at k).heap.size=p.size from hsz];grind))
  .have f:0≠j:=by omega
   rw[vdw f,vcf]at l;obtain⟨y,r,rfl⟩:=vai.1 l;have hq:=b.old j y m r;grind[woken_quitsD,Dx]
  .rw[Dx _ _ _ _ AA];exact b.above j AA
 intro M;induction M with
 |zero=>
  intro gs sl q t a z hn h0 b c hd;obtain⟨i,v,k,sl',hi,hg,hst⟩:=crowd_pick (P:=P) (w:=w.at a) (sl:=sl) (Hd b h0 hs) AA;rcases vbq i with rfl|e
  .exact own gs sl sl' q t a k hst hn h0 b c hd
  .obtain⟨gs',h,fn,pos,es,_,_,_,_,_,d⟩:=Uo (w:=w) (k:=k) (sl':=sl') b h0 hs e hi hg;omega
 |succ M o=>
  intro gs sl q t a z hn h0 b c hd;obtain⟨i,v,k,sl',hi,hg,hst⟩:=crowd_pick (P:=P) (w:=w.at a) (sl:=sl) (Hd b h0 hs) AA;rcases vbq i with rfl|e
  .exact own gs sl sl' q t a k hst hn h0 b c hd
  .obtain⟨gs',h,fn,pos,es,e1,e2,e3,e4,eE,C⟩:=Uo (w:=w) (k:=k) (sl':=sl') b h0 hs e hi hg;have d:i<gs.size:=(vao.1 hi).1;refine mQ.step (hst.trans e1) (o gs' sl' h _ k AQ AQ e3 e4 ?_ ?_)
   .exact eH.mute (p:=p) (i:=i) AQ fn pos es.toList c AA
   .rw[Deaf_other t (g':=i) AQ _ (λop s=>C7)];exact hd
end
end
section
open av iu
section
variable{c:dU}{P:cE}{Post:hV}{cJ:uaf}
structure HK(c:dU)(cJ:uaf)(M:dL)(w0:aR)(n':Nat)(bm:ual)(M':dL)(D:uai)(w':aR):Prop where
 n:n'<=c.most
 tV:∀b,M' b\/w'.heap.size<=b->∀l,fy l=some b->¬bm l
 as7:∀off sp,2<=off->¬bm (.cell ⟨c.st,off,sp⟩)
 as8:bm (.cell ⟨c.st,0,none⟩)/\bm (.cell ⟨c.st,1,none⟩)
 sub:∀b,M b\/c.K b\/b=c.cU->M' b
 low:∀b,M' b\/b=c.st->b<w'.heap.size
 KO:¬M' c.st
 len:D.length=c.N
 done:w'.heap[c.cU]?=some (.cells D.toArray c.Dl)
 st:∃T m L,w'.heap[c.st]?=some (.cells #[.int .i32 0,.int .u32 0,c.size,c.A_,.I ((T:Nat):Int),.I ((m:Nat):Int),c.y2,L.elim c.least c.place] c.NN)/\(∀q,L=some q->c.cq q=true/\q<c.N)/\∀p,p<c.N->c.cq p=true->∃q,L=some q/\q<=p
 stands:∀b,c.K b\/M b->w'.heap[b]?=w0.heap[b]?
 size:w0.heap.size<=w'.heap.size
 os:OsLater w0.os w'.os
 output:w'.output=w0.output
 tape:w'.tape=w0.tape
 Ua:∃g:Nat->Nat->Prop,(∀p b,p<c.N->g p b->M' b)/\(∀p p' b,p<c.N->p'<c.N->p≠p'->g p b->¬g p' b)/\∀p,p<c.N->c.cq p=false->∃v,D[p]?=some v/\cJ p v (g p) w'
def KP(c:dU)(P:cE)(M:dL)(w0:aR)(mW:Goroutine->Prop)(l:ah.Lo At)(X:a0):Prop:=
 (l.mx=.idle/\l.deaf=0/\l.am=.main .over)/\(∃g1,(∀w,stepG P true X.g w=.go g1 w #[⟨.mark (.acquire ⟨c.wg,0,none⟩),false,true⟩])/\∃g',mW g'/\∃k,∀w,Goes P true (λ_ _=>True) Go.ConcR.DC0 (λg2 _=>g2=g') k g1 w)/\ai (ao (ay c)) M w0 X.w/\∀b,M b->X.mine b
def as9{m xs}(h:dN m xs)(hi:∀x∈xs,x=.idle):m.L=false/\m.W=false/\m.S=false/\m.k=0/\m.sema=0:=by
 have ci:=λf a=>Vt (f:=f) a _ hi;have h1:=h.o;rw[ci _ Y]at h1;have c:m.L=false:=AA;have b:m.S=false:=by cases hs:m.S with
  |false=>rfl
  |true=>have:=h.st hs;rw[ci ge Y,ci fP Y]at this;omega
 have h2:=h.nm b;rw[ci gS Y,ci er Y,ci ge Y]at h2;grind
def as_(iW:∀T v M w M' w',cJ T v M w->(∀b,c.K b\/M b->w'.heap[b]?=w.heap[b]?)->(∀b,M b->M' b)->cJ T v M' w'){n:Nat}{g:uaj}{mW:Goroutine->Prop}{w w0:aR}{M:dL}{Shun:ual}{f0 v:Nat}{b0:cO}(hrun:g.status=.running)(hn:n=c.rows c.N)(fl:n<=c.most)(o:b0.aS=0/\b0.eF=false/\b0.gT=0/\b0.taken=0/\b0.came=0/\b0.done.length=c.N/\b0.least=none)(pA:w.heap[c.st]?=some (iq (ay c) ⟨false,false,false,0,0,v⟩ b0)/\(ay c).oZ b0 w)(dH:∀b,M b->¬(ao (ay c)).ia b/\¬c.K b)(j5:∀b,M b\/c.K b\/(ao (ay c)).ia b->b<w.heap.size/\∀l,fy l=some b->¬Shun l)(ht:∀k,bc (ao (ay c)) P (E6 c P cJ (KP c P M w0 mW)) true ⟨.idle,false,0,f0,.main (.spawn 0 false)⟩ ⟨⟨false,false,false,0,0,v⟩,f0+c.C*c.N,b0⟩ ⟨g,w.at k,M⟩)(Vu:∀g',mW g'->∀n' bm M' D w',HK c cJ M w0 n' bm M' D w'->bT P Post n' bm 0 g' w'):bT P Post n Shun 0 g w:=by
 intro gs sl q t hsz h0 aM fY;have G:=dE (bW c);have ata:=as4 (c:=c) (cJ:=cJ) (SM:=KP c P M w0 mW) (M:=M) h0 hrun aM AA (hsz.trans hn) AA o pA dH j5 (ht w.drawn);obtain⟨N,m',t1,T1,rs,γ,w1,TZ,rfl,⟨K,C,OS,S_⟩,hI,xn⟩:=phase G as3 ata (by rw[HH];grind) sl;rw[as0 h0]at T1;refine mQ.leads (q:=λm t=>m=crowd (kW (ao (ay c)) rs) w1 TZ/\t=t1) (λm t H=>?_) N T1 ⟨Y,Y⟩;obtain⟨rfl,rfl⟩:=H;obtain⟨⟨hmx,xE,ow⟩,⟨g1,atb,g',atc,kk,atd⟩,V,dv⟩:=OS;have nN:tt (ay c) γ (rs.map (·.l)):=hI.uv;have B:db c.N c.rows c.cq γ.am ((rs.map (·.l)).map (·.am)):=nN.pC;have SL:∀{j:Nat}{r:cN (ao (ay c))},rs[j]?=some r->(rs.map (·.l))[j]?=some r.l:=λh=>AA;have DL:∀{j:Nat}{r:cN (ao (ay c))},rs[j]?=some r->((rs.map (·.l)).map (·.am))[j]?=some (show ah.Lo At from r.l).am:=λh=>AA;have OT:((rs.map (·.l)).map (·.am))[0]?=some (.main .over):=AA;have Z:∀{j:Nat}{r:cN (ao (ay c))},j≠0->rs[j]?=some r->(ao (ay c)).Left r.l:=λA h=>(B.all OT _ _ (DL h)).resolve_left A;have ate:∀{j:Nat}{r:cN (ao (ay c))},j≠0->rs[j]?=some r->QuitsD P r.n (Deaf t j) r.g/\E6 c P cJ (KP c P M w0 mW) false r.l r.X:=by intro j r A h;have e0:(j==0)=false:=AA;have hs:=hI.sits j r h;rw[e0]at hs;cases hs with|runs _ _ _ _ _ _ u=>grind|waits _ _ _ _ _ _ _ _ u=>grind|leaves _ hq _ hs=>grind
 obtain⟨aX,Nv,hT⟩:=hI.aX;have atf:K.X.g.status=.running:=by cases hI.sits 0 K C with|runs _ f _ _ _ _ _=>exact f|waits _ f _ _ _ _ _ _ _=>exact f|leaves H _ _ _=>cases H
 have Bz:Deaf t 0=0:=by cases hI.sits 0 K C with|runs _ _ _ _ hd _ _=>grind|waits _ _ _ _ vG _ hd _ _=>grind|leaves H _ _ _=>cases H
 have atg:(jp (ao (ay c)) gs.size rs w1.heap.size aX).n=rs.length:=rfl;have ath:Leavers P t (kW (ao (ay c)) rs) (λj=>((rs[j]?).map (·.n)).getD 0):=by
  refine⟨λi x hi F=>?_,λj A=>?_⟩
  .grind[C_]
  .refine Deaf_absent λi op hi e=>?_;have:=hT.gs i op hi;grind[kW]
 have vF:∀j,j≠0->j<(jp (ao (ay c)) gs.size rs w1.heap.size aX).n->(jp (ao (ay c)) gs.size rs w1.heap.size aX).past j:=by intro j A R;have f:rs[j]?=some rs[j]:=vaq R;refine⟨rs[j],f,?_⟩;have:=Z A f;show lr (show ah.Lo At from rs[j].l).am=true;have h2:rA (show ah.Lo At from rs[j].l).am:=this;cases s:(show ah.Lo At from rs[j].l).am with|gone _=>rfl|old=>rfl|main _=>rw[s]at h2;exact h2.elim|work _ _=>rw[s]at h2;exact h2.elim
 let M':Nat->Prop:=λb=>M b\/c.K b\/b=c.cU\/∃(j:Nat)(r:cN (ao (ay c))),rs[j]?=some r/\r.X.mine b
 have ati:∀b,M' b->b≠c.st/\b≠c.wg:=by
  rintro b (h|h|h|⟨j,r,f,h⟩)
  .grind
  .exact⟨(c.xL b h).1,(c.xL b h).2.1⟩
  .exact⟨λe=>c.fA.2.1 (e.symm.trans h),λe=>c.fA.2.2 (e.symm.trans h)⟩
  .have:=(hI.sh j r f b h).1;grind
 have gH:∀b,M' b->∀l,fy l=some b->¬HJ (jp (ao (ay c)) gs.size rs w1.heap.size aX) l:=by
  intro b o l u hs;rcases hs with hs|⟨⟨hg,hn⟩,_⟩
  .have sy:l=.cell (ah.fW (ay c))\/l=.cell (ah.lp (ay c))\/(l=.cell ⟨c.wg,0,none⟩\/l=.cell ⟨c.wg,1,none⟩):=hs;rcases sy with rfl|rfl|rfl|rfl<;>simp only[fy,vbm,ah.fW,ah.lp]at u
   .grind
   .grind
   .grind
   grind
  .obtain⟨hK,H⟩:=hn b u;rcases o with h|h|h|⟨j,r,f,h⟩
   .exact H 0 ⟨K,C,(dv b) h⟩
   .exact hK h
   .subst h;exact hg (.inr u)
   .exact H j ⟨r,f,h⟩
 refine as6 (w:=w1) atf atb vF Y (λk=>?_) _ _ TZ _ t w1.drawn JR (by simp[kW,atg]) (by rw[C_,C];grind) ath hT Bz;have AL:∀{j:Nat}{r:cN (ao (ay c))},rs[j]?=some r->∀b,c.K b\/r.X.mine b->w1.heap[b]?=r.X.w.heap[b]?:=λh b o=>(hI.rely _ _ h).1.heap b o;have X:w1.heap[c.st]?=some (iq (ay c) γ.mu γ.am)/\w1.heap[c.wg]?=some (tD c γ.am)/\(True->w1.heap[c.cU]?=some (G7 c γ.am)):=hI.mt;have atj:∀x∈(rs.map (·.l)).map (λl:ah.Lo At=>l.mx),x=.idle:=by
  intro x F;obtain⟨l,u,rfl⟩:=vbl.1 F;obtain⟨r,f,rfl⟩:=vbl.1 u;obtain⟨j,A⟩:=List.mem_iff_getElem?.1 f;by_cases e:j=0
  .grind
  .exact nN.JZ j r.l (SL A) (Z e A)
 obtain⟨m1,qU,G6,J_,atk⟩:=as9 nN.mM atj;have NF:γ.mu.word=0:=H7;obtain⟨AM,xv,MM,atl⟩:=hI.rely 0 K C;have key:∀p,p<c.N->∃(j:Nat)(r:cN (ao (ay c)))(d:uad)(x:Nat×Value),rs[j]?=some r/\(show ah.Lo At from r.l).am=.gone d/\x∈d/\x.1=p/\kX c cJ d r.X.mine r.X.w:=by
  intro p s;have mJ:γ.am.taken=c.N:=by
   rcases B.tC .over OT with⟨d,e⟩|⟨a,ha,hw⟩
   .cases e
   .have vx:=(B.all OT _ _ ha);refine B.dF ⟨_,a,ha,?_⟩;rcases vx with e|e
    .rw[e,OT]at ha;cases ha;cases hw
    .cases a<;>first|exact e.elim|rfl|cases hw
  have dS:=B.own p;rw[mJ,vca s]at dS;obtain⟨j,a,A,J⟩:∃(j:Nat)(a:At),((rs.map (·.l)).map (λl:ah.Lo At=>l.am))[j]?=some a/\0<eb p a:=by
   by_cases U:∃(j:Nat)(a:At),((rs.map (·.l)).map (λl:ah.Lo At=>l.am))[j]?=some a/\0<eb p a
   .exact U
   .exfalso;have hz:dI (eb p) ((rs.map (·.l)).map (λl:ah.Lo At=>l.am))=0:=NK _ _ λi x F=>by
     rcases vbq (eb p x)with e|e
     .exact e
     .exact absurd ⟨i,x,F,e⟩ U
    have mI:dI (eb p) ((rs.map (·.l)).map (λl:ah.Lo At=>l.am))=1:=dS;omega
  have S:=A;rw[vbf]at S;obtain⟨l,u,rfl⟩:=vai.1 S;rw[vbf]at u;obtain⟨r,f,rfl⟩:=vai.1 u;have HI:j≠0:=by rintro rfl;rw[C]at f;cases f;rw[ow]at J;simp[eb,hand,ou]at J
  rcases(ate HI f).2 with⟨e,_⟩|⟨d,f',e,_,jw⟩
  .rw[e]at J;simp[eb,hand,ou]at J
  .rw[e]at J;simp only[eb,hand,ou,List.count_nil,vbs]at J;obtain⟨x,F,Vv⟩:=vbl.1 (veq.1 J);exact⟨j,r,d,x,f,JC,F,Vv,jw⟩
 have JT:∀j:Nat,∃G:Nat×Value->Nat->Prop,∀r d,rs[j]?=some r->(show ah.Lo At from r.l).am=.gone d->kX c cJ d r.X.mine r.X.w->(∀x∈d,(∀b,G x b->r.X.mine b)/\(c.cq x.1=false->cJ x.1 x.2 (G x) r.X.w))/\∀x∈d,∀y∈d,x≠y->∀b,G x b->¬G y b:=by
  intro j;by_cases h:∃r d,rs[j]?=some r/\(show ah.Lo At from r.l).am=.gone d/\kX c cJ d r.X.mine r.X.w
  .obtain⟨r,d,h1,h2,h3⟩:=h;obtain⟨G,hG⟩:=h3.pick;refine⟨G,λr2 a3 E L _=>?_⟩;rw[h1]at E;cases E;rw[h2]at L;cases L;exact hG
  .exact⟨λ_ _=>False,λr d h1 h2 h3=>absurd ⟨r,d,h1,h2,h3⟩ h⟩
 obtain⟨W,Q⟩:=vbi.1 JT;have I:∀p,∃(j:Nat)(x:Nat×Value),p<c.N->x.1=p/\∃(r:cN (ao (ay c)))(d:uad),rs[j]?=some r/\(show ah.Lo At from r.l).am=.gone d/\x∈d/\kX c cJ d r.X.mine r.X.w:=by
  intro p;by_cases s:p<c.N
  .obtain⟨j,r,d,x,h1,h2,h3,h4,aP⟩:=key p s;exact⟨j,x,λ_=>⟨h4,r,d,h1,h2,h3,aP⟩⟩
  .exact⟨0,(0,undef),λh=>absurd h s⟩
 obtain⟨O,I⟩:=vbi.1 I;obtain⟨C1,I⟩:=vbi.1 I;have ki:∀k,HK c cJ M w0 rs.length (HJ (jp (ao (ay c)) gs.size rs w1.heap.size aX)) M' γ.am.done (w1.at k):=by
  intro k;refine⟨by have:=nN.len;grind,λb o l u=>?_,λoff sp h2 hs=>?_,⟨.inl Jv,.inl (.inr Jv)⟩,?_,?_,λh=>(ati _ h).1 Y,B.len,?_,⟨γ.am.taken,γ.am.came,γ.am.least,?_,B.came.2.1,λp s eG=>B.came.2.2 p eG ?_⟩,λb o=>?_,vad V.size AM.size,V.later.trans xv,MM.trans V.output,atl.trans V.tape,λp=>W (O p) (C1 p),λp b s o=>?_,λp p' b s ov hne o z=>?_,λp s eG=>?_⟩
  .rcases o with o|o
   .grind
   .rintro(hs|⟨_,b',z,R⟩)
    .obtain⟨b',z,sy⟩:=G.C2 l hs;rw[u]at z;cases z;have:=hI.low b (.inr sy);have e:(w1.at k).heap.size=w1.heap.size:=rfl;omega
    .rw[u]at z;cases z;have e:(jp (ao (ay c)) gs.size rs w1.heap.size aX).size=w1.heap.size:=rfl;have e':(w1.at k).heap.size=w1.heap.size:=rfl;omega
  .rcases hs with hs|⟨⟨hg,_⟩,_⟩
   .have sy:(.cell ⟨c.st,off,sp⟩:Loc)=.cell (ah.fW (ay c))\/(.cell ⟨c.st,off,sp⟩:Loc)=.cell (ah.lp (ay c))\/((.cell ⟨c.st,off,sp⟩:Loc)=.cell ⟨c.wg,0,none⟩\/(.cell ⟨c.st,off,sp⟩:Loc)=.cell ⟨c.wg,1,none⟩):=hs;grind[ah.fW,ah.lp]
   .exact hg (.inl ⟨off,sp,Y,h2⟩)
  .rintro b (h|h|h)
   .exact .inl h
   .exact .inr (.inl h)
   .exact .inr (.inr (.inl h))
  .rintro b ((h|h|h|⟨j,r,f,h⟩)|h)
   .exact(hI.sh 0 K C b ((dv b) h)).2.2
   .exact hI.low b (.inl h)
   .exact hI.low b (.inr (.inr (.inr h)))
   .exact(hI.sh j r f b h).2.2
   .exact hI.low b (.inr (.inl h))
  .exact X.2.2 trivial
  .show w1.heap[c.st]?=_;rw[X.1];unfold iq;rw[NF,atk];rfl
  .obtain⟨j,r,d,x,f,e,F,Vv,-⟩:=key p s;have h1:=o5 (ed p) _ j _ (DL f);have h2:1<=ed p (show ah.Lo At from r.l).am:=by rw[e];exact veq.2 (vbl.2 ⟨x,F,Vv⟩)
   exact vak h2 h1
  .exact(AL C b (o.imp id (dv b))).trans (V.heap b o)
  .obtain⟨-,r,d,h1,h2,h3,h4⟩:=I p s;exact .inr (.inr (.inr ⟨O p,r,h1,((Q _ r d h1 h2 h4).1 _ h3).1 b o⟩))
  .obtain⟨e1,r,d,h1,h2,h3,h4⟩:=I p s;obtain⟨e2,r2,a3,E,L,k3,k4⟩:=I p' ov;have m1:=((Q _ r d h1 h2 h4).1 _ h3).1 b o;have qU:=((Q _ r2 a3 E L k4).1 _ k3).1 b z;replace z:W (O p') (C1 p') b:=z;by_cases vY:O p=O p'
   .rw[<-vY]at E z;rw[h1]at E;cases E;rw[h2]at L;cases L;exact(Q _ r d h1 h2 h4).2 _ h3 _ k3 (λe=>hne (by rw[<-e1,<-e2,e])) b o z
   .exact hI.apart _ _ r r2 h1 E vY b m1 qU
  .obtain⟨e1,r,d,h1,h2,h3,h4⟩:=I p s;have a1:=B.val (O p) _ (DL h1) (C1 p) (by rw[h2];exact h3);have a6:=((Q _ r d h1 h2 h4).1 _ h3).2;rw[e1]at a1 a6;exact⟨(C1 p).2,a1 eG,iW _ _ _ _ _ _ (a6 eG) (λb o=>AL h1 b (o.imp_right (((Q _ r d h1 h2 h4).1 _ h3).1 b))) (λ_ h=>h)⟩
 exact Dz (abM kk g1 (w1.at k) (atd _) λk'=>Vu g' atc _ _ _ _ _ (ki k'))
end
end
end cV
namespace x0
open Conc ConcM av bj ah eK
section
section
variable{c:dU}{Q:cE}{Stop:Bool->ah.Lo At->a0->Prop}{l:ah.Lo At}{γ:ah.aQ cO}{X:a0}{w':aR}
def atm{P:cE}{main:Bool}{b:Frame}{a:Act}{k:uab}{cs:hH}{w:aR}{ops:fF}{i:Nat}{rest:uac}{o:Oper}{f:uak}{x:uam}{cap:dX}{ats:uaq}(g:ops[i]?=some o)(c:vfe o ops a.tmps=true)(hk:b.kind≠ .early)(e:o.op=.go {callee:=.value x,args:=#[],argTypes:=ats})(j:a.eval x=.func (.func f) #[] cap):
 stepG P main (Conc.G (b.at a (.inRegion ops (i::rest)::k)) cs) w=.spawn (Conc.G (b.at (a.put o.dst undef) (.inRegion ops rest::k)) cs) (born P (tF f cap)) w #[]:=by
 have d:(execOp a.eval o).run P w=.ok (.spawn (tF f cap)) w:=by simp_all[execOp,resolve,Deferred.ofValue,tF]
 have h:listed P b.fn a o w=#[]:=by simp_all[listed,execOp,resolve,Deferred.ofValue,vdy]
 rw[stepG_spawn g c hk d Y,h]
def atn(o:ep (ao (ay c)) l γ X w'){g1 child:uaj}(hs:stepG Q true X.g w'=.spawn g1 child w' #[])(hrun:g1.status=.running)(n:child.status=.running){f k:Nat}(p:l=⟨.idle,false,0,f+20,.main (.spawn k true)⟩)(hk:c.rows c.N+k+1<=c.most)(h:bc (ao (ay c)) Q Stop true ⟨.idle,false,0,f,.main (.spawn (k+1) false)⟩ {γ with a7:=γ.a7-1} ⟨g1,w',X.mine⟩)(u:bc (ao (ay c)) Q Stop false ⟨.idle,false,0,19,.work .free []⟩ {γ with a7:=γ.a7-1} ⟨child,w',λ_=>False⟩):Then (Z:=ao (ay c)) Q Stop true l γ X w':=by
 have hg:grown X.mine w' w'=X.mine:=lq Y;have key:∀(ls:List (ah.Lo At)),ls[0]?=some l->tt (ay c) γ ls->1<=γ.a7/\((ls.set 0 (⟨.idle,false,0,f,.main (.spawn (k+1) false)⟩:ah.Lo At)).map (·.fuel)).sum+19+2*rx γ.mu (ls.map (·.mx))+c.C*(c.N-γ.am.taken)<=γ.a7-1:=by
  intro ls hi b;have m:0<ls.length:=(vab.1 hi).1;have e:=G0 (ls.map (·.fuel)) 0 f AA;have v:(ls.set 0 (⟨.idle,false,0,f,.main (.spawn (k+1) false)⟩:ah.Lo At)).map (·.fuel)=(ls.map (·.fuel)).set 0 f:=BB;rw[v];have e2:(ls.map (·.fuel))[0]'AA=f+20:=by grind
  rw[e2]at e;have B:(ls.map (λx:ah.Lo At=>x.fuel)).sum+2*rx γ.mu (ls.map (λx:ah.Lo At=>x.mx))+c.C*(c.N-γ.am.taken)<=γ.a7:=b.ic;grind
 refine .born (l1:=(⟨.idle,false,0,f,.main (.spawn (k+1) false)⟩:ah.Lo At)) (bu:=({γ with a7:=γ.a7-1}:ah.aQ cO)) (lc:=(⟨.idle,false,0,19,.work .free []⟩:ah.Lo At)) Y hs ⟨hrun,n,rz _ _ _,o.mt,?_,λls hi b=>?_,NE,⟨by rw[p],Y,Y,Y⟩,AA,⟨by rw[p];rfl,Y⟩,λs q=>q,λe=>e,λe=>e⟩ AA u
 .obtain⟨ls,i,hi,b⟩:∃(ls:List (ah.Lo At))(i:Nat),ls[i]?=some l/\tt (ay c) γ ls:=o.sees;have h0:=b.pC.only i (.spawn k true) AA;grind
 .have a:tt (ay c) γ ls:=b;obtain⟨z,y⟩:=key ls hi a;have m:0<ls.length:=(vab.1 hi).1;have r:(ls.set 0 (⟨.idle,false,0,f,.main (.spawn (k+1) false)⟩:ah.Lo At)++[(⟨.idle,false,0,19,.work .free []⟩:ah.Lo At)]).map (·.mx)=ls.map (·.mx)++[.idle]:=by grind[TC]
  have w:(ls.set 0 (⟨.idle,false,0,f,.main (.spawn (k+1) false)⟩:ah.Lo At)++[(⟨.idle,false,0,19,.work .free []⟩:ah.Lo At)]).map (·.am)=(ls.map (·.am)).set 0 (.main (.spawn (k+1) false))++[.work .free []]:=by simp_all
  have d:(ls.map (·.am))[0]?=some (.main (.spawn k true)):=AA;have get:∀{i:Nat}{x:ah.Lo At},(ls.set 0 (⟨.idle,false,0,f,.main (.spawn (k+1) false)⟩:ah.Lo At)++[(⟨.idle,false,0,19,.work .free []⟩:ah.Lo At)])[i]?=some x->x=⟨.idle,false,0,f,.main (.spawn (k+1) false)⟩\/ls[i]?=some x\/x=⟨.idle,false,0,19,.work .free []⟩:=by grind
  refine⟨⟨by rw[r];exact ah.dN.push a.mM,by rw[w];exact a.pC.born d,?_,λi x g ht=>?_,λi x g t=>?_,?_⟩,λj s q C=>.inr ⟨AA,AA,.refl _ _⟩⟩
  .rw[r];have ht:rx γ.mu (ls.map (·.mx)++[.idle])=rx γ.mu (ls.map (·.mx)):=by unfold rx;rw[Tw,Tw];rfl
   grind
  .rcases get g with rfl|h1|rfl
   .cases ht
   .exact a.aX i x h1 ht
   grind
  .rcases get g with rfl|h1|rfl
   .rfl
   .exact a.JZ i x h1 t
   .rfl
  .have A:=a.pC.pD k true d;grind
end
end
end x0
namespace b_
open RowKit Shelf av bd
variable{L:List fi}
section
@[simp] theorem awf:dc true 21:=vfb func21
theorem awg{b}(h:¬iz L b):∃i,∃(hi:i<L.length),L[i].v.ownBlock=some b:=vaz λhn=>h λi hi hg=>AA
def Np{B W c Y}(h:fa B W L)(hk:iN Y W c)(d:∀i(h:i<L.length),Y L[i].e):fa B c L:=h.kept λg hg=>by
 obtain⟨i,hi,a⟩:=awg hg;rcases(h.own i hi).2 with⟨hn,-⟩|⟨g',cap,bq,hv,-,b,-⟩
 .rw[hn]at a;cases a
 .rw[hv]at a;cases a;exact(hk.cells _ _ _ _ b (d i hi)).trans b.symm
def M5{e}(h:e=2\/e=9\/e=4):¬tG e:=by unfold tG;grind
structure Ig(B cb t4 t5:Nat)(l:g7)(D:Nat->Nat->bz)(m:uas)(V:aR)(L:List fi)(cs:dX):Prop where
 gY:fa B V L
 at_:vT l D m L cs
 box:ag V cb cs 45
 bS:ag V t5 #[.S cb 0 l.length l.length] 25
 bV:ag V t4 #[.N] 27
def Ig.Px{B cb c b l D m V a cs}(h:Ig B cb c b l D m V L cs)(hk:iN (λe=>¬tG e) V a):Ig B cb c b l D m a L cs:=
 ⟨Np h.gY hk λi hi=>M5 (h.at_.Du i hi),h.at_,hk.cells _ _ _ _ h.box (by grind[tG]),hk.cells _ _ _ _ h.bS (by grind[tG]),hk.cells _ _ _ _ h.bV (by grind[tG])⟩
def kd(rs:List cP)(t i:Nat):bz:=((rs[t]?.map (·.2)).getD [])[i]?.getD h9
def awh{l}D{cs}(hs:cs.size=l.length*5)(a:CX cs l l.length):vT l D (λ_=>0) ((List.range (3*l.length)).map λi=>⟨if i % 3=0 then 2 else if i % 3=1 then 9 else 4,.N,[]⟩) cs:=by
 refine⟨hs,λi hi=>?_,λi hi=>?_⟩
 .obtain⟨c,a1,e,d,b⟩:=a i hi hi;refine⟨_,_,_,c,a1,e,d,b,?_,?_,?_⟩
  .grind[pH]
  .grind[pI]
  grind[tH]
 grind
def awi(B:Nat)(w:aR)(n:Nat)(e:Nat->TypeId):fa B w ((List.range n).map λi=>⟨e i,.N,[]⟩):=by
 refine⟨λi hi=>?_,λi j hi b g a hg=>?_⟩
 .grind[World.ownsRow_nil]
 grind[Value.ownBlock]
attribute [local go_sem] Oper.semAt_some
def awj(l:g7)(v:Value)(rs:List cP){gf:Nat}{lb:dX}(w:aR)(hv:hJ w v l)(hl:l.length<=1000)(La:rs.length<=1000)(hlen:∀r∈rs,r.2.length=l.length)(Ih:∀r∈rs,∀d∈r.2,d.text.size<=1000000)(qf:∀args w,(callFunc gf args).run vfc w=.ok (.enter gf args) w)(oT:∀n,Ug tG n vfc gf lb (N3 w rs) rs.length w.heap.size w):
 Calls vfc 21 #[v,.func (.func gf) #[] lb] w λe w'=>∃v',e=.returned (.agg #[v'])/\lv w' v' (mP l (kd rs) rs.length)/\c6 w w':=by
 obtain⟨mB,lF,rfl,-,-⟩:=id hv;have lS:Hid (hJ w _ l):=hv;have MX:Hid _:=hlen;have MV:Hid _:=Ih;clear hv hlen Ih;refine(callsIn_wide (n:=3)).1 ?_;refine vdi (vez func21) rfl trivial ?_;simp[vbk];gi_wp2_with (refine⟨NE,(callsIn_wide.2 (anu l _ _ (lS.out.mono nf (bp.cy ((vaa _ w).alloc AA _))) AQ)).mono ?_⟩;rintro e w1 ⟨cb,cs0,rfl,dD,hsz,M6,tp,bl⟩)
 have Wu:ag w1 w.heap.size #[.N] 27:=(ag.new w _ _).call bl;have iR:c6 w w1:=Below.step bl ((vaa _ w).alloc AA _) AS;have aJq:w.heap.size<w1.heap.size:=Wu.lt;have cp:c6 w1 (w1.alloc (.cells #[.S cb 0 l.length l.length] 25)):=(vaa _ w1).alloc AA _;have hst:Ig (w1.heap.size+1) cb w.heap.size w1.heap.size l (kd rs) (λ_=>0) (w1.alloc (.cells #[.S cb 0 l.length l.length] 25)) _ cs0:=⟨awi _ _ _ _,awh _ hsz M6,dD.alloc _,ag.new _ _ _,Wu.alloc _⟩;refine apT (n:=3) (gf:=gf) (lb:=lb) (w0:=w) (n₀:=w.heap.size) (N:=rs.length) (Row:=N3 w rs) rfl qf (oT _) (iR.trans (cp.mono AQ)) BA
  (λt V=>∃L cs,Ig (w1.heap.size+1) cb w.heap.size w1.heap.size l (kd rs) (λ_=>t) V L cs)
  (λt V y8 h hk=>by
   obtain⟨L,cs,h⟩:=h;exact⟨L,cs,h.Px hk⟩)
  AA
  (λt x a' V=>∃P y ru pc D I A,ag V P #[.slice y ru pc,.slice D I A] 77/\x=.agg #[.slice y ru pc,.slice D I A]/\N3 w rs t V x/\∃z,a'={tmps:=#[.slice mB l.length lF,.func (.func gf) #[] lb,.U,.U,.P w.heap.size 0,.P w1.heap.size 0,.P P 0,.U,.U,.slice mB l.length lF,.S cb 0 l.length l.length,.func (.func gf) #[] lb,z,.U,.U,.U,.U,.U,.U,.U,.U,.U,.U,.U,.U,.U,.U,.U,.U,.U,.U,.U,.U],defers:=[]})
  (λt x a' V y8 h hk=>by
   obtain⟨P,y,ru,pc,D,I,A,h1,h2,⟨h3,p1,j2,p3,Ah,Ld,awk,awl⟩,h4⟩:=h;exact⟨P,y,ru,pc,D,I,A,hk.cells _ _ _ _ h1,h2,⟨h3,p1,j2,p3,Ah,Ld,awk,λ_ _ _ u=>Dr hk (awl _ _ _ u)⟩,h4⟩)
  ?assign ?body ?done
 case assign=>
  rintro l' t x V K- -⟨F,y,pc,D,A,rfl,tm,jr⟩ hK;gi_wp2
  have eC:c6 V (V.alloc (.cells #[.slice y rs[t].1.length pc,.slice D rs[t].2.length A] 77)):=(vaa _ V).alloc AA _;exact hK _ _ eC ⟨V.heap.size,_,_,_,_,_,_,ag.new V _ _,rfl,⟨F,y,pc,D,A,rfl,tm,λ_ _ _ u=>bp.cy eC _ _ _ (jr _ _ _ u)⟩,_,rfl⟩
 case body=>
  rintro l' t x a' V ⟨qM,cs1,MN⟩ hlt ⟨P,y,ru,pc,D,I,A,awm,rfl,⟨F,aJr,aJs,aJt,aJu,awn,tm,jr⟩,z,rfl⟩ mG;cases awn;have ML:rs[t].2.length=l.length:=MX.out _ AA;have sH:Hid _:=tm;have Wv:Hid _:=ML;have Ww:Hid _:=MN;have s:Hid (cb<w1.heap.size):=dD.lt;have Wx:Hid (w.heap.size<cb):=by unfold Hid;simp at tp;omega
  have awo:Hid _:=jr;obtain⟨dG,d_,eN⟩:=awm.all;clear tm ML MN jr oT hst dD cp iR bl M6 hsz Wu tp;gi_wp2
  gi_loopw [16] (λp wr=>∃(k:Nat)(L:List fi)(cs:dX),k<=l.length/\p=.I k/\Ig (w1.heap.size+1) cb w.heap.size w1.heap.size l (kd rs) (λi=>if i<k then t+1 else t) wr L cs/\KeepsOthers V wr/\Below w.heap.size V wr/\iN tG V wr/\bp w wr)
   (λi _=>l.length-(intOf i).toNat)
  case atStart=>exact⟨0,_,_,vax _,rfl,by simpa using Ww.out,KeepsOthers.refl _,vaa _ _,.qC ⟨vac _,AA⟩,awo.out⟩
  case round=>
   obtain⟨k,L,cs,hk,rfl,H,xu,Fu,uq,Lm⟩:=hrel;have q:Hid _:=H;have aJv:w1.heap.size<wr.heap.size:=q.out.bS.lt;have MG:Hid (KeepsOthers V wr):=xu;have MD:Hid (Below w.heap.size V wr):=Fu;have Py:Hid (iN tG V wr):=uq;have Ln:Hid (bp w wr):=Lm;clear H xu Fu uq Lm;by_cases xI:k<l.length
   .obtain⟨fd,aJw,BO,-,df⟩:=id sH.out;cases BO;have awp:k<rs[t].2.length:=by have:=Wv.out;omega
    obtain⟨b,off,rfl,d0,d1,d2,d3,-⟩:=df k awp;simp at d0;have e0:=Ln.out _ _ _ d0;have e1:=Ln.out _ _ _ d1;have e2:=Ln.out _ _ _ d2;have e3:=Ln.out _ _ _ d3;have SO:=ef e0;have oe:(0:Int)<=(k:Int):=AQ;have li:(k:Int)<(l.length:Int):=AQ;have hD:kd rs t k=rs[t].2[k]:=by grind[kd]
    have Lp:Hid _:=hD;have om:c6 wr (wr.alloc (.cells #[.bool rs[t].2[k].bR,.I rs[t].2[k].num,.I rs[t].2[k].dg,.string rs[t].2[k].text] 94)):=(vaa _ wr).alloc AA _;have pG:Hid _:=om;have a:Hid _:=q.out.Px (.qC (.below om));have Fv:Hid _:=ag.new wr #[.bool rs[t].2[k].bR,.I rs[t].2[k].num,.I rs[t].2[k].dg,.string rs[t].2[k].text] 94;have Cx:(rs[t].2.length:Int)=(l.length:Int):=by have:=Wv.out;omega
    clear d0 d1 d2 d3 df hD om;gi_wp2
    have awq:Hid ((wr.alloc (.cells #[.bool rs[t].2[k].bR,.I rs[t].2[k].num,.I rs[t].2[k].dg,.string rs[t].2[k].text] 94)).heap.size=wr.heap.size+1):=by unfold Hid;simp
    clear e0 e1 e2 e3;generalize wr.alloc (.cells #[.bool rs[t].2[k].bR,.I rs[t].2[k].num,.I rs[t].2[k].dg,.string rs[t].2[k].text] 94)=j at *;obtain⟨dA,vs,I,cG,a1,a6,bK,cS,fO,kK,rE⟩:=a.out.at_.zc k xI;obtain⟨p0,q0,rfl⟩:=mg (show j.ownsRow _ 2 1 dA (pH l[k].1 (kd rs · k) _).length _ from a.out.gY.at fO);obtain⟨p1,aZ,rfl⟩:=mg (show j.ownsRow _ 9 1 vs (pI l[k].1 (kd rs · k) _).length _ from a.out.gY.at kK);obtain⟨j2,a3,rfl⟩:=mg (show j.ownsRow _ 4 1 I (tH (kd rs · k) _).length _ from a.out.gY.at rE);have iS:=ap8 a.out.at_ (w:=j.drew) (B:=w1.heap.size+1) ⟨a.out.gY.own,a.out.gY.apart⟩ (by have:=a.out.bS.lt;simp;omega) xI AA (by simp;rw[Lp.out];exact MV.out _ (vae F) _ AA) a6 bK cS;simp only[Nat.lt_irrefl,vcr]at iS;rw[Lp.out]at iS;have HC:Hid _:=iS;obtain⟨f1,f2,f3⟩:=a.out.box.all;have g0:j.cell? (.a cb (k*5))=_:=(f1 _).trans cG;have g1:j.cell? (.a cb (k*5+1))=_:=(f1 _).trans a1;have g2:j.cell? (.a cb (k*5+2))=_:=(f1 _).trans a6;have g4:j.cell? (.a cb (k*5+3))=_:=(f1 _).trans bK;have jB:j.cell? (.a cb (k*5+4))=_:=(f1 _).trans cS;obtain⟨awr,aws,awt⟩:=a.out.bS.all;obtain⟨iI,jK,awu⟩:=ag.all (show ag j wr.heap.size _ _ from Fv.out);have MC:∀f,rl L j.drew f->ag f cb cs 45/\ag f w1.heap.size #[.S cb 0 l.length l.length] 25/\ag f w.heap.size #[.N] 27:=λf hF=>
     ⟨(hF.block cb a.out.box.lt (a.out.gY.ol (.inr (by have:=s.out;omega)))).trans a.out.box,(hF.block _ a.out.bS.lt (a.out.gY.ol AA)).trans a.out.bS,(hF.block _ a.out.bV.lt (a.out.gY.ol AA)).trans a.out.bV⟩
    have sj:Hid _:=MC;have M:Hid _:=a.out.at_.size;clear iS cG a1 a6 bK cS fO kK rE f1 f2 MC;refine abI AB AB (uP (C:=λW=>ag W w1.heap.size #[.S cb 0 l.length l.length] 25/\ag W wr.heap.size #[.bool rs[t].2[k].bR,.I rs[t].2[k].num,.I rs[t].2[k].dg,.string rs[t].2[k].text] 94) _ _ _ _ ?_);have J:Hid (ag j.drew w1.heap.size #[.S cb 0 l.length l.length] 25/\ag j.drew wr.heap.size #[.bool rs[t].2[k].bR,.I rs[t].2[k].num,.I rs[t].2[k].dg,.string rs[t].2[k].text] 94):=⟨a.out.bS,Fv.out⟩;refine c0 (i:=1) (v:=.I k) rfl AB AB AB Jf J.out ⟨Ao,λW _=>Ak,AA,λ_=>rfl⟩ ?_;refine c0 (i:=3) (v:=.I k) rfl AB AB AB Jf J.out ⟨Ao,λW _=>Ak,AA,λ_=>rfl⟩ ?_;refine c0 (i:=0) (v:=.S cb 0 l.length l.length) rfl AB AB AB Jf J.out ⟨Ao,λW O=>by obtain⟨cC,dm,gB⟩:=O.1.all;go_simp,AA,λ_=>rfl⟩ ?_;refine c0 (i:=2) (v:=.S cb 0 l.length l.length) rfl AB AB AB Jf J.out ⟨Ao,λW O=>by obtain⟨cC,dm,gB⟩:=O.1.all;go_simp,AA,λ_=>rfl⟩ ?_;refine c0 (i:=6) (v:=h8 rs[t].2[k]) rfl AB AB AB Jf J.out ⟨Ao,λW O=>by obtain⟨cC,dm,gB⟩:=O.2.all;go_simp,AA,λ_=>rfl⟩ ?_;refine fc (i:=4) AB rfl λK hK=>?_;go_simp
    refine hK _ _ J.out ?_;clear hK K;refine fc (i:=5) AB rfl λK hK=>?_;go_simp
    refine hK _ _ J.out ?_;clear hK K;refine fc (i:=7) AB rfl λK hK=>?_;go_simp
    refine⟨NE,(callsIn_wide.2 HC.out).mono ?_⟩;rintro e f ⟨r0,n0,b3,r1,n1,c1,r2,ik,bt,L',rfl,Ms,Z,hF⟩;obtain⟨E,Wy,X⟩:=sj.out f hF;have Wz:ag f wr.heap.size #[.bool rs[t].2[k].bR,.I rs[t].2[k].num,.I rs[t].2[k].dg,.string rs[t].2[k].text] 94:=(hF.block _ BB (N9 a.out.gY λc e z u i hi he=>by
     have m:ag j wr.heap.size _ _:=Fv.out;unfold ag at m;rw[m]at u;cases u;rcases a.out.at_.Du i hi with h|h|h<;>rw[h]at he<;>exact absurd he AF)).trans Fv.out
    refine hK _ _ ⟨Wy,Wz⟩ ?_;clear hK K g0 g1 g2 g4 jB awr aws awt iI jK awu;have i0:f.cell? (.a cb (k*5))=some (cs[k*5]'GN):=Gc;have i1:f.cell? (.a cb (k*5+1))=some (cs[k*5+1]'GN):=Gc;have i2:f.cell? (.a cb (k*5+2))=some (cs[k*5+2]'GN):=Gc;have i3:f.cell? (.a cb (k*5+3))=some (cs[k*5+3]'GN):=Gc;have i4:f.cell? (.a cb (k*5+4))=some (cs[k*5+4]'GN):=Gc;have i5:=E.rules.2;have U:Hid (ag f cb cs 45):=E;have WA:Hid (ag f w1.heap.size #[.S cb 0 l.length l.length] 25):=Wy;have awv:Hid (ag f w.heap.size #[.N] 27):=X;have S:Hid (ag f wr.heap.size #[.bool rs[t].2[k].bR,.I rs[t].2[k].num,.I rs[t].2[k].dg,.string rs[t].2[k].text] 94):=Wz;have AW:Hid _:=Ms;have Fx:Hid _:=Z;have WB:Hid _:=hF;clear E Wy X Wz Ms Z hF;refine fc (i:=8) AB rfl λK hK=>?_;go_simp
    refine hK _ _ ⟨WA.out,S.out⟩ ?_;clear hK K;refine fc (i:=9) AB rfl λK hK=>?_;go_simp
    refine hK _ _ ⟨((((WA.out.fg CR _).fg CR _).fg CR _).fg CR _).fg CR _,((((S.out.fg CR _).fg CR _).fg CR _).fg CR _).fg CR _⟩ ?_;clear hK K;refine uQ AB ?_ _;clear i0 i1 i2 i3 i4 i5;have hA0:KeepsOthers wr f:=(apS pG.out).trans (by have m:=ap9 WB.out ⟨a.out.gY.own,a.out.gY.apart⟩;exact⟨m.size,m.same⟩);have hA1:iN tG wr f:=(iN.qC (.below pG.out)).trans (by have m:=ap_ (Y:=tG) WB.out ⟨a.out.gY.own,a.out.gY.apart⟩ λi hi=>M5 (a.out.at_.Du i hi);exact⟨m.size,m.cells⟩);have hA2:Below w.heap.size wr f:=(pG.out.mono AQ).trans (by have m:=aqa (n:=w.heap.size) WB.out ⟨a.out.gY.own,a.out.gY.apart⟩ AQ (by have:=awq.out;simp;omega);exact⟨m.os,m.tape,m.output,m.size,m.block⟩);have aww:Hid _:=hA0;have awx:Hid _:=hA1;have R:Hid _:=hA2;clear hA0 hA1 hA2;gi_wp2
    go_roundw
    case rel=>
     refine⟨_,_,.I ((k:Int)+1),⟨k+1,AQ,AS,⟨L',sw cs k (.I l[k].1) (.I l[k].2) (.slice r0 n0 b3) (.slice r1 n1 c1) (.slice r2 ik bt),⟨?_,?_,?_,?_,?_⟩⟩,?_,?_,?_,?_⟩,rfl,rfl,rfl⟩
     .exact AW.out.kept λg hg=>N_ _ _ _ _ _ _ _ _ λe=>hg (e▸AW.out.ol (.inr (by have:=s.out;omega)))
     .refine Fx.out.congr λi hi=>?_;grind[xS]
     .exact aqh U.out _ _ _ _ _ _
     .exact(N_ _ _ _ _ _ _ _ _ (by have:=s.out;omega)).trans WA.out
     .exact(N_ _ _ _ _ _ _ _ _ (by have:=Wx.out;omega)).trans awv.out
     .exact(MG.out.trans aww.out).trans (aqi ..)
     .exact(MD.out.trans R.out).trans (abJ _ (by have:=Wx.out;omega) _ _ _ _ _ _)
     .exact(Py.out.trans awx.out).trans (aqj U.out (by grind[tG]) _ _ _ _ _ _)
     .exact λb o x u=>((R.out.trans (abJ _ (by have:=Wx.out;omega) _ _ _ _ _ _)).cell (p:=⟨b,o,none⟩) (ef u)).trans (Ln.out _ _ _ u)
    case measure=>simp[intOf];omega
   .have og:k=l.length:=by omega
    have Cx:(rs[t].2.length:Int)=(l.length:Int):=by have:=Wv.out;omega
    gi_wp2
    refine⟨MG.out,MD.out,Py.out,L,cs,q.out.gY,q.out.at_.congr λi hi=>?_,q.out.box,q.out.bS,q.out.bV⟩;grind
 case done=>
  rintro V ⟨L,cs,H⟩ hB hK;obtain⟨aZ,a3,q3⟩:=H.bS.all;obtain⟨lL,oM,px⟩:=H.bV.all;have q:Hid _:=H;have Ii:Hid _:=hK;have b4:Hid _:=hB;clear H hB hK;gi_wp2
  have hne:(w1.alloc (.cells #[.S cb 0 l.length l.length] 25)).heap.size≠w.heap.size:=BA;have WC:=(vat V ⟨w.heap.size,0,none⟩ (.S cb 0 l.length l.length) _ hne).trans Ii.out;refine⟨AS,.inl ⟨_,_,rfl,veb WC,?_⟩⟩;have TV:w.heap.size<cb:=by simp at tp;omega
  have kk:iN (λe=>e≠27) V ((V.setCell ⟨w.heap.size,0,none⟩ (.S cb 0 l.length l.length)).putObj (w1.alloc (.cells #[.S cb 0 l.length l.length] 25)).heap.size (.deferred none)):=
   (iN.set q.out.bV AA _ _).trans (.qC (CP WC))
  refine⟨.agg #[.S cb 0 l.length l.length],?_,_,rfl,aql (Np q.out.gY kk λi hi=>?_) q.out.at_ (kk.cells _ _ _ _ q.out.box AF) hl ?_,?_⟩
  .have awy:(V.setCell ⟨w.heap.size,0,none⟩ (.S cb 0 l.length l.length)).heap[w.heap.size]?=some (.cells #[.S cb 0 l.length l.length] 27):=q.out.bV.set _ _;have Q:((V.setCell ⟨w.heap.size,0,none⟩ (.S cb 0 l.length l.length)).putObj (w1.alloc (.cells #[.S cb 0 l.length l.length] 25)).heap.size (.deferred none)).cell? (.a w.heap.size 0)=some (.S cb 0 l.length l.length):=Dr (CP WC) (((ag.rules (T:=27) awy).1 0).trans rfl);simp at Q⊢;simp[results,results21,go_sem,Q]
  .rcases q.out.at_.Du i hi with h|h|h<;>rw[h]<;>decide
  .intro r i F hi;simp[kd,vaq F];have SN:=MX.out _ (vae F);rw[vaq AQ];exact MV.out _ (vae F) _ AA
  .exact((iR.trans (cp.mono AQ)).trans b4.out).trans ((Below.setCell (vaa _ V) (p:=⟨w.heap.size,0,none⟩) AA _).trans (tn _ BA))
end
end b_
namespace bd
open RowKit Shelf av
abbrev jC:=bz×bz×bz×bz
def du:bz:=⟨false,0,0,g5⟩
def gL(q:jC):Array Value:=#[.bool q.1.bR,.I q.1.num,.I q.1.dg,.string q.1.text,.bool q.2.1.bR,.I q.2.1.num,.I q.2.1.dg,.string q.2.1.text,.bool q.2.2.1.bR,.I q.2.2.1.num,.I q.2.2.1.dg,.string q.2.2.1.text,.bool q.2.2.2.bR,.I q.2.2.2.num,.I q.2.2.2.dg,.string q.2.2.2.text]
def ke(l:List bz):jC:=(l.getD 0 du,l.getD 1 du,l.getD 2 du,l.getD 3 du)
def aAe l(a:l.length<4)d:CY (gL (ke l)) l.length d=gL (ke (l++[d])):=by match l,a with| [],_=>rfl| [_],_=>rfl| [_,_],_=>rfl| [_,_,_],_=>rfl
theorem aAf q:(gL q).size=16:=rfl
def xJ u:(ae prog u).funcs[(54:Nat)]?=some f54:=bb (upd:=u) func54 A8
@[simp] theorem aKj (u:Bool) (args:dX) (w:aR):Sem.run (ae prog u) (callFunc 54 args) w=.ok (.enter 54 args) w:=cR (xJ u) A8 args w
theorem aAg u:(ae prog u).funcs[(199:Nat)]?=some f199:=bb (upd:=u) func199 A8
@[simp] theorem aKk (u:Bool) (args:dX) (w:aR):Sem.run (ae prog u) (callFunc 199 args) w=.ok (.enter 199 args) w:=cR (aAg u) A8 args w
theorem aAh(u:Bool)(br:uac)(vals:List bz)(d:uag)(cw pc:Nat)(H K:Value)(w:aR)(hv:oi w H vals)(hk:h5 w K (br.map Int.ofNat))(m:∀k∈br,k<vals.length)(h4:br.length<=4):
 Calls (ae prog u) 54 #[.agg #[.slice d cw pc,H],K] w λe w'=>e=.returned (.agg (gL (ke (br.map λk=>vals.getD k du))))/\c6 w w':=by
 obtain⟨h,g,rfl,tm,E⟩:=hv;obtain⟨ka,kc,rfl,sI,i⟩:=hk;rw[List.length_map]at *;obtain⟨q,hq⟩:∃q,q=ke (br.map λk=>vals.getD k du):=⟨_,Y⟩;rw[<-hq];have R:Hid _:=hq;clear hq;go_enter (xJ u),ntmps54
 go_wp2
 have F:=((ag.new w #[.slice d cw pc,.slice h vals.length g] 77).alloc (.cells (gL (ke [])) 141)).alloc (.cells (gL (ke [])) 141);have j:=(ag.new (w.alloc (.cells #[.slice d cw pc,.slice h vals.length g] 77)) (gL (ke [])) 141).alloc (.cells (gL (ke [])) 141);have l:=ag.new ((w.alloc (.cells #[.slice d cw pc,.slice h vals.length g] 77)).alloc (.cells (gL (ke [])) 141)) (gL (ke [])) 141;simp at j l;go_loopw [6,7,10] (λ_ _ x W=>∃k:Nat,k<=br.length/\x=.I k/\ag W w.heap.size #[.slice d cw pc,.slice h vals.length g] 77/\(∃c1,ag W (w.heap.size+1) c1 141/\c1.size=16)/\ag W (w.heap.size+1+1) (gL (ke ((br.take k).map λk=>vals.getD k du))) 141/\c6 w W)
  (λ_ _ x _=>br.length-(intOf x).toNat)
 case atStart=>exact⟨0,vax _,Y,F,⟨_,j,Y⟩,l,(((vaa _ w).alloc JR _).alloc AS _).alloc BA _⟩
 case round=>
  obtain⟨k,hk,rfl,p,⟨c1,f,T⟩,b,n⟩:=hrel;have QD:Hid (ag wr w.heap.size #[.slice d cw pc,.slice h vals.length g] 77):=p;have M:Hid (ag wr (w.heap.size+1) c1 141):=f;have L:Hid (ag wr (w.heap.size+1+1) (gL (ke ((br.take k).map λk=>vals.getD k du))) 141):=b;have J:Hid (c6 w wr):=n;have c:=bp.cy n;obtain⟨gQ,gG,fx⟩:=p.all;clear F j l p n;by_cases D:k<br.length
  .obtain⟨kb,cL,rfl,e0⟩:=i k AA;have C:=m br[k] (vae D);obtain⟨Pz,n9,rfl,f0,f1,I,f3,-⟩:=E br[k] C;simp[sg]at e0 f0;replace e0:=c _ _ _ e0;replace f0:=c _ _ _ f0;replace f1:=c _ _ _ f1;replace I:=c _ _ _ I;replace f3:=c _ _ _ f3;have Lm:=ef e0;have Z:=ef f0;have hlen:((br.take k).map λk=>vals.getD k du).length=k:=AA;have hsz:=aAf (ke ((br.take k).map λk=>vals.getD k du));have hst:=aAe ((br.take k).map λk=>vals.getD k du) AQ vals[br[k]];rw[hlen]at hst;have Ww:Hid (CY (gL (ke ((br.take k).map λk=>vals.getD k du))) k vals[br[k]]=gL (ke ((br.take (k+1)).map λk=>vals.getD k du))):=by grind[List.take_succ_eq_append_getElem]
   clear hst;generalize hq:gL (ke ((br.take k).map λk=>vals.getD k du))=cs at *;have SQ:wr.cell? (.a (w.heap.size+1+1) (k*4))=some (cs[k*4]'AQ):=IH;have SR:wr.cell? (.a (w.heap.size+1+1) (k*4+1))=some (cs[k*4+1]'AQ):=IH;have X:wr.cell? (.a (w.heap.size+1+1) (k*4+2))=some (cs[k*4+2]'AQ):=IH;have V:wr.cell? (.a (w.heap.size+1+1) (k*4+3))=some (cs[k*4+3]'AQ):=IH;have M7:=b.rules.2;have eC:=b.lt;have oe:(0:Int)<=(k:Int):=AQ;have li:(k:Int)<(br.length:Int):=AQ;have S:(k:Int)<(4:Int):=AQ;have HI:(0:Int)<=(br[k]:Int):=AQ;have Ux:(br[k]:Int)<(vals.length:Int):=AQ;clear f b c E i hq;go_wp2_with fail
   go_roundw
   case rel=>
    refine⟨k+1,AQ,by go_num,(((QD.out.fg AA _).fg AA _).fg AA _).fg AA _,⟨c1,(((M.out.fg AS _).fg AS _).fg AS _).fg AS _,T⟩,?_,(((J.out.setCell AA _).setCell AA _).setCell AA _).setCell AA _⟩;rw[<-Ww.out];exact(((L.out.set _ _).set _ _).set _ _).set _ _
   case measure=>simp[intOf];omega
  .have P:br.take k=br:=vbo AQ;rw[P,<-R.out]at b;clear L;have M7:=f.rules.2;have Jh:=f.rules.1;have N:=b.rules.1;have xR:=f.lt;have dW:=b.lt;clear f b c E i;have a:∀o,o<16->∃v,wr.cell? (.a (w.heap.size+1) o)=some v:=λo ho=>BB;obtain⟨nF,Lb⟩:=a 0 AQ;obtain⟨dG,U⟩:=a 1 AQ;obtain⟨d_,Q⟩:=a 2 AQ;obtain⟨eN,O⟩:=a 3 AQ;obtain⟨j_,B⟩:=a 4 AQ;obtain⟨sO,r⟩:=a 5 AQ;obtain⟨BG,Aa⟩:=a 6 AQ;obtain⟨wP,H3⟩:=a 7 AQ;obtain⟨BR,BK⟩:=a 8 AQ;obtain⟨H2,WM⟩:=a 9 AQ;obtain⟨Ls,P1⟩:=a 10 AQ;obtain⟨Lt,A⟩:=a 11 AQ;obtain⟨Lu,z⟩:=a 12 AQ;obtain⟨Lv,y⟩:=a 13 AQ;obtain⟨Lw,t⟩:=a 14 AQ;obtain⟨Lx,s⟩:=a 15 AQ;clear a Jh;unfold gL at N;have S:¬(k:Int)<(br.length:Int):=AQ;go_wp2_with fail
   refine vav (v:=.agg (gL q)) (by simp[results,results54,go_sem,gL,Lb,U,Q,O,B,r,Aa,H3,BK,WM,P1,A,z,y,t,s]) Y ⟨Y,?_⟩;iterate 16 refine Below.setCell ?_ AS _
   exact J.out
