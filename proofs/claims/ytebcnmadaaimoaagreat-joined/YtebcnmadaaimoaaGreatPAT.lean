import Derived.Test.YtebcnmadaaimoaaGreatPAM
set_option linter.all false
set_option maxRecDepth 100000
set_option maxHeartbeats 16000000
namespace Go.Proofs.YtebcnmadaaimoaaGreat
open Go.Proofs.Tryz
namespace cu
open RowKit Shelf az bX
@[simp] theorem aFp:cX true 29:=dg (bB (upd:=true) func29 AQ) AQ
def CV(cs:df)(l:uae)(k:Nat):Prop:=∀j(h:j<l.length),j<k->cs[j*5]?=some (.I l[j].1)/\cs[j*5+1]?=some (.I l[j].2)/\cs[j*5+2]?=some (.N)/\cs[j*5+3]?=some (.N)/\cs[j*5+4]?=some (.N)
abbrev sc(cs:df)(k:Nat)(a b c d e:Value):Array Value:=((((cs.setIfInBounds (k*5) a).setIfInBounds (k*5+1) b).setIfInBounds (k*5+2) c).setIfInBounds (k*5+3) d).setIfInBounds (k*5+4) e
variable{cs:df}{i j:Nat}
def w8{k:Nat}(a b c d e:Value)(h:j≠k)(hi:i<5):(sc cs k a b c d e)[j*5+i]?=cs[j*5+i]?:=by simp only[sc,vak];grind
theorem Z8{k:Nat}(a b c d e:Value)(h:k*5+4<cs.size):(sc cs k a b c d e)[k*5]?=some a/\(sc cs k a b c d e)[k*5+1]?=some b/\(sc cs k a b c d e)[k*5+2]?=some c/\(sc cs k a b c d e)[k*5+3]?=some d/\(sc cs k a b c d e)[k*5+4]?=some e:=by simp[sc,vak];omega
theorem CV.step{cs:df}{l:uae}{k:Nat}(h:CV cs l k)(hk:k<l.length)(hs:cs.size=l.length*5):CV (sc cs k (.I l[k].1) (.I l[k].2) (.N) (.N) (.N)) l (k+1):=by
 intro j a b;by_cases e:j=k
 .grind[Z8]
 .have:=h j a AX;refine⟨(w8 (i:=0) _ _ _ _ _ e AU).trans this.1,(w8 _ _ _ _ _ e AU).trans this.2.1,(w8 _ _ _ _ _ e AU).trans this.2.2.1,(w8 _ _ _ _ _ e AU).trans this.2.2.2.1,(w8 _ _ _ _ _ e AU).trans this.2.2.2.2⟩
def aou(l:uae)(v:Value)(w:aL)(hv:gC w v l)(A:l.length<=1000000):
 Calls (ae prog true) 29 #[v] w λe w'=>∃b cs,e=.returned (.S b 0 l.length l.length)/\ah w' b cs 36/\cs.size=l.length*5/\CV cs l l.length/\w.heap.size<=b/\cC w w':=by
 obtain⟨N,cap,rfl,J,t⟩:=hv;go_enter (bB (upd:=true) func29 AQ),ntmps29
 go_wp2_with (at_make;refine Q7 Q6 _ U _ _ U _ _ l.length U U AX AX ?_;intro w1 bf r f s)
 have F:Hid (ah w1 w.heap.size bf 36):=r;have y:Hid (cC w w1):=s;have E:Hid _:=f;clear r s f;go_loopw [11] (λn W=>∃(k:Nat)(cs:df),k<=l.length/\n=.I k/\ah W w.heap.size cs 36/\cs.size=l.length*5/\CV cs l k/\cC w W)
  (λi _=>l.length-(intOf i).toNat)
 case atStart=>exact⟨0,bf,vav _,U,F.out,E.out,λj _ K=>AF,y.out⟩
 case round=>
  obtain⟨k,cs,hk,rfl,p,x,o,q⟩:=hrel;have a:Hid (ah wr w.heap.size cs 36):=p;have u:Hid (CV cs l k):=o;have h:Hid (cC w wr):=q;have c:Hid _:=x;clear p o q x;by_cases d:k<l.length
  .obtain⟨b,off,rfl,g,d1⟩:=t k d;simp at g;have m:=bp.b7 h.out;have B:=m _ _ _ g;have M:=m _ _ _ d1;have L:=fp B;have C:w.heap.size<wr.heap.size:=a.out.lt;clear m g d1 t;have H:(0:Int)<=(k:Int):=AX;have I:(k:Int)<(l.length:Int):=AX;have R:wr.cell? (.a w.heap.size (k*5))=some (cs[k*5]'Es):=by rw[a.out.rules.1];simp
   have Q:wr.cell? (.a w.heap.size (k*5+1))=some (cs[k*5+1]'Es):=by rw[a.out.rules.1];simp
   have P:wr.cell? (.a w.heap.size (k*5+2))=some (cs[k*5+2]'Es):=by rw[a.out.rules.1];simp
   have O:wr.cell? (.a w.heap.size (k*5+3))=some (cs[k*5+3]'Es):=by rw[a.out.rules.1];simp
   have D:wr.cell? (.a w.heap.size (k*5+4))=some (cs[k*5+4]'Es):=by rw[a.out.rules.1];simp
   have S:=a.out.rules.2;go_wp2_with fail
   go_roundw
   case rel=>
    exact⟨k+1,_,AX,by go_num,(((((a.out.set _ _).set _ _).set _ _).set _ _).set _ _).alloc _,by simp;exact c.out,u.out.step d c.out,(((((h.out.setCell Ab _).setCell Ab _).setCell Ab _).setCell Ab _).setCell Ab _).alloc A2 _⟩
   case measure=>simp[intOf];omega
  .have z:k=l.length:=by omega
   go_wp2_with fail
   go_ret
   exact⟨_,_,U,a.out,c.out,by rw[<-z];exact u.out,AX,h.out⟩
def ph(k:Int)(D:Nat->cZ)(n:Nat):List Value:=if k=3 then []else(List.range n).map λr=>.I (D r).num
def pi(k:Int)(D:Nat->cZ)(n:Nat):List Value:=if k=3 then(List.range n).map λr=>.string (D r).text else []
def s_(D:Nat->cZ)(n:Nat):List Value:=(List.range n).map λr=>.bool (D r).dU
def aoF(k:Int)(D:Nat->cZ)(n:Nat):(ph k D n).length<=n:=by grind[ph]
def aoG(k:Int)(D:Nat->cZ)(n:Nat):(pi k D n).length<=n:=by grind[pi]
def aoH(D:Nat->cZ)(n:Nat):(s_ D n).length=n:=by simp[s_]
theorem Z_(D:Nat->cZ)(n:Nat):s_ D (n+1)=s_ D n++[.bool (D n).dU]:=by simp[s_,vcq]
theorem aoI{k:Int}(h:k≠3)(D:Nat->cZ)(n:Nat):ph k D (n+1)=ph k D n++[.I (D n).num]:=by simp[ph,vcq,h]
theorem aoJ{k:Int}(h:k=3)(D:Nat->cZ)(n m:Nat):ph k D n=ph k D m:=by simp[ph,h]
theorem aoK{k:Int}(h:k=3)(D:Nat->cZ)(n:Nat):pi k D (n+1)=pi k D n++[.string (D n).text]:=by simp[pi,vcq,h]
theorem aoL{k:Int}(h:k≠3)(D:Nat->cZ)(n m:Nat):pi k D n=pi k D m:=by simp[pi,h]
structure vv(l:uae)(D:Nat->Nat->cZ)(m:uas)(L:List fb)(cs:df):Prop where
 size:cs.size=l.length*5
 mR:∀i(h:i<l.length),∃be vs aV,cs[i*5]?=some (.I l[i].1)/\cs[i*5+1]?=some (.I l[i].2)/\cs[i*5+2]?=some be/\cs[i*5+3]?=some vs/\cs[i*5+4]?=some aV/\
  L[3*i]?=some ⟨2,be,ph l[i].1 (D · i) (m i)⟩/\L[3*i+1]?=some ⟨9,vs,pi l[i].1 (D · i) (m i)⟩/\L[3*i+2]?=some ⟨4,aV,s_ (D · i) (m i)⟩
 CZ:∀i(h:i<L.length),L[i].e=2\/L[i].e=9\/L[i].e=4
variable{L:List fb}
def Nt(h:∀i(h:i<L.length),L[i].e=2\/L[i].e=9\/L[i].e=4)(q:Nat)(x:fb)(a:x.e=2\/x.e=9\/x.e=4):∀i(h:i<(L.set q x).length),(L.set q x)[i].e=2\/(L.set q x)[i].e=9\/(L.set q x)[i].e=4:=by grind
def w_(m:uas)(i j:Nat):Nat:=if j=i then m j+1 else m j
theorem aoM(m:uas)(i:Nat):w_ m i i=m i+1:=by simp[w_]
def aoN(m:uas)(h:j≠i):w_ m i j=m j:=by simp[w_,h]
def Nu{r:fb}(h:L[i]?=some r):i<L.length:=(vab.1 h).1
theorem vv.w_{l:uae}{D:Nat->Nat->cZ}{m:uas}(h:vv l D m L cs)(hi:i<l.length){a:List fb}{be vs c:Value}(u:∀q,q≠3*i->q≠3*i+1->q≠3*i+2->a[q]?=L[q]?)(ht:∀i(h:i<a.length),a[i].e=2\/a[i].e=9\/a[i].e=4)(h0:a[3*i]?=some ⟨2,be,ph l[i].1 (D · i) (m i+1)⟩)(w:a[3*i+1]?=some ⟨9,vs,pi l[i].1 (D · i) (m i+1)⟩)(v:a[3*i+2]?=some ⟨4,c,s_ (D · i) (m i+1)⟩):
 vv l D (w_ m i) a (sc cs i (.I l[i].1) (.I l[i].2) be vs c):=by
 refine⟨by simp[sc];exact h.size,λj p=>?_,ht⟩;by_cases e:j=i
 .subst e;have t:=h.size;obtain⟨d,a1,f,g,n⟩:=Z8 (cs:=cs) (k:=j) (.I l[j].1) (.I l[j].2) be vs c AX;grind[aoM]
 .rw[aoN m e];obtain⟨b,o,wn,d,a1,f,g,n,x,s,r⟩:=h.mR j p;refine⟨b,o,wn,(w8 (i:=0) _ _ _ _ _ e AU).trans d,(w8 _ _ _ _ _ e AU).trans a1,(w8 _ _ _ _ _ e AU).trans f,(w8 _ _ _ _ _ e AU).trans g,(w8 _ _ _ _ _ e AU).trans n,?_,?_,?_⟩
  .grind
  .grind
  grind
variable{B:Nat}{w:aL}
def aoO{l:uae}{D:Nat->Nat->cZ}{m:uas}(h:vv l D m L cs)(d:e5 B w L)(s:B<=w.heap.size)(hi:i<l.length)(H:m i<=1000)(ht:(D (m i) i).text.size<=1000000){be vs q:Value}(v:cs[i*5+2]?=some be)(u:cs[i*5+3]?=some vs)(t:cs[i*5+4]?=some q):
 Calls (ae prog true) 30 #[.agg #[.I l[i].1,.I l[i].2,be,vs,q],o6 (D (m i) i)] w λe w'=>∃j n0 c_ a1 n1 c1 a eJ bG r,e=.returned (.agg #[.I l[i].1,.I l[i].2,.slice j n0 c_,.slice a1 n1 c1,.slice a eJ bG])/\e5 B w' r/\
  vv l D (w_ m i) r (sc cs i (.I l[i].1) (.I l[i].2) (.slice j n0 c_) (.slice a1 n1 c1) (.slice a eJ bG))/\q2 L w w':=by
 obtain⟨y,A,wn,j,a1,a,o,p,f,b,n⟩:=h.mR i hi;rw[v]at a;cases a;rw[u]at o;cases o;rw[t]at p;cases p;obtain⟨F,C,rfl⟩:=gQ (show w.ownsRow B 2 1 be (ph l[i].1 (D · i) (m i)).length _ from d.at f);obtain⟨E,K,rfl⟩:=gQ (show w.ownsRow B 9 1 vs (pi l[i].1 (D · i) (m i)).length _ from d.at b);have l0:=aoF l[i].1 (D · i) (m i);have l1:=aoG l[i].1 (D · i) (m i);have l2:=aoH (D · i) (m i);have x:=Nu f;have z:=Nu b;have M:=Nu n;refine(aor d s f b n l[i].1 l[i].2 (D (m i) i) ht AF).mono ?_;rintro e w' ⟨⟨g,c,J,I,⟨hk,rfl,k⟩|⟨hk,rfl,k⟩⟩,hF⟩
 .refine⟨_,_,_,_,_,_,_,_,_,_,U,k,h.w_ hi ?_ ?_ ?_ ?_ ?_,hF⟩
  .grind
  .exact Nt (Nt h.CZ _ _ AF) _ _ KB
  .grind[aoI]
  .grind[aoL]
  grind[Z_]
 .refine⟨_,_,_,_,_,_,_,_,_,_,U,k,h.w_ hi ?_ ?_ ?_ ?_ ?_,hF⟩
  .grind
  .exact Nt (Nt h.CZ _ _ AF) _ _ AF
  .grind[aoJ]
  .grind[aoK]
  grind[Z_]
def Nv{W:aL}(h:e5 B W L){b:Nat}(d:∀c e z,W.heap[b]?=some (.cells c e z)->∀i(h:i<L.length),L[i].e≠e):iC L b:=by
 intro i hi hg;rcases(h.own i hi).2 with⟨hn,-⟩|⟨g,cap,bf,hv,-,a,-⟩
 .rw[hn]at hg;cases hg
 .rw[hv]at hg;cases hg;grind
variable{w':aL}
def aoP(h:q2 L w w')(b:e5 B w L):KeepsOthers w w':=
 ⟨h.size,λk o x y=>(h.block k (jS x) (Nv b λc e z a=>by rw[x]at a;cases a;cases y)).trans x⟩
def aoQ{Y:ubi}(h:q2 L w w')(a:e5 B w L)(d:∀i(h:i<L.length),¬Y L[i].e):jh Y w w':=
 ⟨h.size,λb c e z x y=>(h.block b (jS x) (Nv a AF)).trans x⟩
def aoR{n:Nat}(h:q2 L w w')(a:e5 B w L)(hn:n<=B)(hs:n<=w.heap.size):Below n w w':=
 ⟨h.os,h.tape,h.output,h.size,λk hk=>h.block k AX (a.n4 AF)⟩
end cu
namespace cu
open RowKit
variable{i l n:Nat}{P:cf}{ops:du}{Q:uah}{K:uaf}{a:Act}{w:aL}
def aoT{K':uaf}(e:∀(i:Nat)(o:Oper),ops[i]?=some o->∀c,o.op≠ .defer c)(hK:∀a w,K a w->K' a w)(h:wpOpIn Fence.wide n P ops Q i K a w):wpOpIn (Fence.wide.inRound l) n P ops Q i K' a w:=by
 have h:=wpOpIn_mono (λa w=>hK a w) h;unfold wpOpIn at *;cases d:ops[i]? with
 |none=>grind
 |some o=>
  simp only[d]at h⊢;split
  .rename_i f;simp[f]at h;refine⟨h.1,?_⟩;have b:=h.2;rw[Oper.semAt_eq _ _ _ (e i o d)]at b⊢;generalize(execOp a.eval o).run P w=r at b⊢;cases r with|ok x w'=>cases x<;>exact b|halt x w'=>cases x<;>exact b
  simp_all
def aoU{md:Region.Mode}(b:∀(i:Nat)(o:Oper),ops[i]?=some o->∀c,o.op≠ .defer c):∀(fuel:Nat)(listed:uat)(a:Act)(w:aL),wpAnyIn Fence.wide n P md ops Q fuel listed a w->wpAnyIn (Fence.wide.inRound l) n P md ops Q fuel listed a w:=by intro fuel;induction fuel with|zero=>intro listed a w h;exact h|succ fuel d=>exact λlisted a w h=>⟨h.1,λi hi=>aoT b AF (h.2 i hi)⟩
def WR:Op->Bool
 | .defer _=>true
 | _=>false
def aoV{id:Nat}(b:P.follows .mixedOrders=true)(hd:(ops.all λo=> !WR o.op)=true)(h:wpAnyIn Fence.wide n P .any ops Q ops.size (Array.replicate ops.size false) a w.drew):(Code.region id ops true).wpIn (Fence.wide.inRound l) n P Q a w:=
 wpIn_region_any b (aoU (λi o d c e=>by
  grind[WR]) _ _ _ _ h)
def p_(C:aL->Prop)(n:Nat)(P:cf)(ops:du)(Q:uah):Nat->Array Bool->Act->aL->Prop
 |0,listed,a,w=>Region.ready .any ops listed=[]/\Q .normal a w
 |fuel+1,listed,a,w=>(Region.ready .any ops listed=[]->Q .normal a w)/\∀i∈Region.ready .any ops listed,wpOpIn Fence.wide n P ops Q i (λa' w'=>C w'/\p_ C n P ops Q fuel (listed.setIfInBounds i true) a' w') a w
variable{C:aL->Prop}
def Gn:∀(fuel:Nat)(listed:uat)(a:Act)(w:aL),p_ C n P ops Q fuel listed a w->wpAnyIn Fence.wide n P .any ops Q fuel listed a w:=by intro fuel;induction fuel with|zero=>intro listed a w h;exact h|succ fuel b=>exact λlisted a w h=>⟨h.1,λi hi=>wpOpIn_mono AF (h.2 i hi)⟩
def ta(C:aL->Prop)(P:cf)(ops:du)(o:Oper)(v:Value)(a:Act):Prop:=
 Region.wanted o (yielded ops a.tmps)=true/\(∀w,C w->(execOp a.eval o).run P w=.ok (.value v) w)/\(∀c,o.op≠ .defer c)/\∀w,o.about P w a.eval=none
variable{o:Oper}{v:Value}
def ta.op(hi:ops[i]?=some o)(b:ta C P ops o v a)(d:C w)(h:K (a.put o.dst v) w):wpOpIn Fence.wide n P ops Q i K a w:=by unfold wpOpIn;simp[hi,b.1,Oper.wpIn,Oper.semAt_eq _ _ _ b.2.2.1,b.2.1 w d,Oper.uponIn];exact⟨λf c=>(by rw[b.2.2.2 w]at c;cases c),h⟩
theorem ta.put(c:ta C P ops o v a)(hs:∀cs b,o.op≠ .select cs b){d:Option Tmp}(u:Value)(e:∀t,d=some t->t ∉ o.looksAt ops):ta C P ops o v (a.put d u):=
 ⟨by rw[wanted_put o a d u e];exact c.1,λw f=>by rw[execOp_put o hs a d u e];exact c.2.1 w f,c.2.2.1,λw=>by rw[about_put o w a d u e];exact c.2.2.2 w⟩
variable{cw:Oper}
def aoW{j:Nat}{oj:Oper}(m:ops[j]?=some oj)(k:cw.apart ops oj=true)(s:∀cs b,cw.op≠ .select cs b)(q:∀cs b,oj.op≠ .select cs b)(t:∀c a w,Q (.panic c) (a.put cw.dst v) w->Q (.panic c) a w)(e:ta C P ops cw v a)(h:wpOpIn Fence.wide n P ops Q j K (a.put cw.dst v) w):
 wpOpIn Fence.wide n P ops Q j (λa' w'=>ta C P ops cw v a'/\K (a'.put cw.dst v) w') a w:=by
 obtain⟨g,y,o⟩:=Oper.apart_spec k;have keep:∀(a:Act),ta C P ops cw v a->∀u,ta C P ops cw v (a.put oj.dst u):=λa e u=>e.put s u o;have p:∀d,ta C P ops cw v {a with defers:=d::a.defers}:=λd=>⟨e.1,e.2.1,e.2.2.1,e.2.2.2⟩;unfold wpOpIn at *;simp only[m]at *;rw[wanted_put oj a cw.dst v g,about_put oj w a cw.dst v g]at h;split
 .rename_i l;simp[l]at h;unfold Oper.wpIn at *;rw[about_put oj w a cw.dst v g]at h;refine⟨h.1,?_⟩;have h:=h.2;have i:Fence.wide.round=none:=rfl;rw[i,Oper.semAt_none,execOp_put oj q a cw.dst v g]at h;rw[i,Oper.semAt_none];generalize(execOp a.eval oj).run P w=r at *;cases r with
  |ok x w'=>
   cases x<;>simp only[Oper.uponIn]at h⊢
   case value u=>grind[Act.put_comm]
   case skip=>grind[Act.put_comm]
   case defer d=>
    grind[Act.put_comm,Act.put_defers]
   case enter f args=>
    grind[CallsIn.mono,Act.put_comm]
   case row row args=>grind[Act.put_comm]
   grind[RoundIn.mono,Act.put_comm]
  |halt x w'=>
   cases x<;>simp only[Oper.uponIn]at h⊢
   grind
 grind[Act.put_comm]
def aoX(hi:ops[i]?=some cw)(K:∀(j:Nat)(o:Oper) cs b,ops[j]?=some o->o.op≠ .select cs b)(q:∀c a w,Q (.panic c) (a.put cw.dst v) w->Q (.panic c) a w):
 ∀(fuel:Nat)(listed:uat)(a:Act)(w:aL),
  (∀j oj,ops[j]?=some oj->j≠i->listed.getD j true=false->(∀e∈oj.after,Region.binds .any e=true->e.on≠i)->cw.apart ops oj=true)->
  i∈Region.ready .any ops listed->ta C P ops cw v a->C w->p_ C n P ops Q fuel (listed.setIfInBounds i true) (a.put cw.dst v) w->p_ C n P ops Q (fuel+1) listed a w:=by
 intro fuel;induction fuel with
 |zero=>
  intro listed a w _ p g f H;refine⟨AF,λj h=>?_⟩;by_cases d:j=i
  .subst d;exact g.op hi f ⟨f,H⟩
  .have:=ready_mono h d;rw[H.1]at this;grind
 |succ fuel r=>
  intro listed a w y p g f H;refine⟨AF,λj h=>?_⟩;by_cases d:j=i
  .subst d;exact g.op hi f ⟨f,H⟩
  .have u:=H.2 j (ready_mono h d);obtain⟨x,oj,A,J⟩:=mem_ready.1 h;have E:∀e∈oj.after,Region.binds .any e=true->e.on≠i:=λe F I s=>by grind[mem_ready]
   have t:=aoW A AF AF AF q g u;have z:∀k ok,ops[k]?=some ok->k≠i->(listed.setIfInBounds j true).getD k true=false->(∀e∈ok.after,Region.binds .any e=true->e.on≠i)->cw.apart ops ok=true:=λk ok hk B L l=>by
    refine y k ok hk B ?_ l;by_cases D:j=k
    .grind
    simp_all
   refine wpOpIn_mono (λa' w' m=>⟨m.2.1,r (listed.setIfInBounds j true) a' w' z (ready_mono p (Ne.symm d)) m.1 m.2.1 ?_⟩) t;grind[Array.setIfInBounds_comm]
variable{fuel:Nat}
def um{listed:uat}(hi:ops[i]?=some cw)(hs:Region.noSelect ops=true)(e:Region.free .any ops listed i=true)(g:(Region.ready .any ops listed).contains i=true)(b:∀c a w,Q (.panic c) (a.put cw.dst v) w->Q (.panic c) a w)(f:C w)(d:ta C P ops cw v a)(h:p_ C n P ops Q fuel (listed.setIfInBounds i true) (a.put cw.dst v) w):p_ C n P ops Q (fuel+1) listed a w:=
 aoX hi (Region.noSelect_spec hs) b fuel listed a w (Region.free_spec hi e) AF d f h
def ki{listed:uat}(b:Region.ready .any ops listed=[i])(c:ops[i]?=some o)(h:∀K':Act->aL->Prop,(∀a w,C w->p_ C n P ops Q fuel (listed.setIfInBounds i true) a w->K' a w)->if Region.wanted o (yielded ops a.tmps)=true then Oper.wpIn Fence.wide n P o a w K' Q else(∀f,o.about P w a.eval=some f->Fence.wide.fn f)/\K' (a.put o.dst undef) w):p_ C n P ops Q (fuel+1) listed a w:=
 ⟨AF,by
  rw[b];intro j d;cases List.mem_singleton.1 d;exact wpOpIn_step c λK' hK=>h K' AF⟩
def Gp{listed:uat}(b:Region.ready .any ops listed=[])(h:Q .normal a w):∀fuel,p_ C n P ops Q fuel listed a w
 |0=>⟨b,h⟩
 | _+1=>⟨λ_=>h,AF⟩
open Shelf az bX
abbrev dK(w:aL)(b k:Nat)(cz a1 bb bI bC:Value):aL:=((((w.setCell ⟨b,k*5,none⟩ cz).setCell ⟨b,k*5+1,none⟩ a1).setCell ⟨b,k*5+2,none⟩ bb).setCell ⟨b,k*5+3,none⟩ bI).setCell ⟨b,k*5+4,none⟩ bC
variable{b:Nat}{cs:df}{T:uaa}
def WQ(h:ah w b cs T)(k:Nat)(a a1 c d e:Value):ah (dK w b k a a1 c d e) b (sc cs k a a1 c d e) T:=((((h.set _ _).set _ _).set _ _).set _ _).set _ _
theorem Nw(w:aL)(b k:Nat)(c a1 d e f:Value){x:Nat}(a:x≠b):(dK w b k c a1 d e f).heap[x]?=w.heap[x]?:=
 (vat _ _ _ _ a).trans ((vat _ _ _ _ a).trans ((vat _ _ _ _ a).trans ((vat _ _ _ _ a).trans (vat _ _ _ _ a))))
def aoY(w:aL)(b k:Nat)(a a1 c d e:Value):KeepsOthers w (dK w b k a a1 c d e):=
 ((((vds _ _ _).trans (vds _ _ _)).trans (vds _ _ _)).trans (vds _ _ _)).trans (vds _ _ _)
def aoZ(h:ah w b cs T){Y:ubi}(i:¬Y T)(k:Nat)(a a1 d f g:Value):jh Y w (dK w b k a a1 d f g):=
 ⟨Bc,λx c e z j y=>by
  grind[ah,Nw]⟩
def S4(w:aL)(hn:n<=b)(k:Nat)(a a1 c d e:Value):Below n w (dK w b k a a1 c d e):=
 (((((vaa n w).setCell (p:=⟨b,_,none⟩) hn _).setCell (p:=⟨b,_,none⟩) hn _).setCell (p:=⟨b,_,none⟩) hn _).setCell (p:=⟨b,_,none⟩) hn _).setCell (p:=⟨b,_,none⟩) hn _
variable{D:Nat->Nat->cZ}{L:List fb}
def vv.congr{l:uae}{m a:uas}(h:vv l D m L cs)(b:∀i,i<l.length->m i=a i):vv l D a L cs:=
 ⟨h.size,λi hi=>by rw[<-b i hi];exact h.mR i hi,h.CZ⟩
def tb(t:ubp)(D:Nat->cZ)(n:Nat):aI:=
 ⟨t.1,t.2,if t.1=3 then []else(List.range n).map λr=>(D r).num,if t.1=3 then(List.range n).map λr=>(D r).text else [],(List.range n).map λr=>(D r).dU⟩
def tc(l:uae)(D:Nat->Nat->cZ)(n:Nat):List aI:=(List.range l.length).map λi=>tb (l[i]?.getD (0,0)) (D · i) n
variable{B:Nat}{W:aL}{e:uaa}
def yG{ap:Type}{R:aL->(Nat->Option Value)->ap->Prop}{xs:uad}{a:List ap}(h:W.ownsRow B e 1 v xs.length xs)(b:a.length=xs.length)(m:∀i(h:i<a.length),∀rd:Nat->Option Value,rd 0=some (xs[i]'(b▸h))->R W rd a[i]):a0 W 1 R v a:=by
 obtain⟨-,⟨hv,hn⟩|⟨g,cap,bf,hv,-,k,j,n,-,d⟩⟩:=h
 .grind[a0.nil]
 .refine⟨_,_,by rw[hv,b],GU,λi hi=>⟨_,_,U,m i hi _ ?_⟩⟩;have f:i<xs.length:=b▸hi;have l:xs[i]?=some xs[i]:=vag f;have c:(bf.toList.take (xs.length*1))[i]?=xs[i]?:=by rw[d]
  rw[List.getElem?_take_of_lt AX,vea]at c;have b0:ah W g bf e:=k;show W.cell? (.a g (0+i*1+0))=_;rw[b0.rules.1,show 0+i*1+0=i by omega,c,l]
def pj(w:aL)(v:Value)(e:uaa):Prop:=∀b,v.ownBlock=some b->∃c z,w.heap[b]?=some (.cells c e z)
def q8{xs:uad}(h:W.ownsRow B e 1 v n xs):pj W v e:=by
 intro b a;obtain⟨-,⟨hv,-⟩|⟨g,cap,bf,hv,-,c,-⟩⟩:=h
 .rw[hv]at a;cases a
 .rw[hv]at a;cases a;grind
def ao0(w:aL)(rd:ual)(c:aI):Prop:=
 ∃be vs aV,rd 0=some (.I c.kind)/\rd 1=some (.I c.bV)/\rd 2=some be/\rd 3=some vs/\rd 4=some aV/\tD w be vs aV c/\pj w be 2/\pj w vs 9/\pj w aV 4
def lJ(w:aL)(v:Value)(t:List aI):Prop:=a0 w 5 ao0 v t/\pj w v 36
def lJ.fz{t:List aI}(h:lJ w v t):oy w v t:=by obtain⟨⟨j,cap,hv,a,k⟩,-⟩:=h;refine⟨j,cap,hv,a,λi hi=>?_⟩;obtain⟨b,off,c,be,vs,l,h0,g,f,e,d,m,-⟩:=k i hi;exact⟨b,off,c,be,vs,l,h0,g,f,e,d,m⟩
def q9(e:uaa):Prop:=e=36\/e=2\/e=9\/e=4
variable{w':aL}
theorem WO(hk:jh q9 w w'){c:Nat}{off:Nat}(ht:pj w (.S b off l c) e)(a:q9 e)(o:Nat):w'.cell? (.a b o)=w.cell? (.a b o):=by obtain⟨cs,z,h⟩:=ht b U;have:=hk.cells _ _ _ _ h a;grind[World.cell?]
def S5{ap:Type}{R:aL->(Nat->Option Value)->ap->Prop}(f:∀w w' rd a x,(∀j v,rd j=some v->a j=some v)->R w rd x->R w' a x)(hk:jh q9 w w')(ht:pj w v e)(d:q9 e){xs:List ap}(h:a0 w 1 R v xs):a0 w' 1 R v xs:=by obtain⟨c,cap,rfl,b,g⟩:=h;refine⟨c,cap,U,b,λi hi=>?_⟩;grind[WO]
def lJ.kept{t:List aI}(hk:jh q9 w w')(h:lJ w v t):lJ w' v t:=by
 obtain⟨⟨s,cap,rfl,m,u⟩,ht⟩:=h;have hd:∀{v e},q9 e->pj w v e->pj w' v e:=λk h b n=>by obtain⟨c,z,d⟩:=h b n;exact⟨c,z,hk.cells _ _ _ _ d k⟩
 refine⟨⟨s,cap,U,m,λi hi=>?_⟩,hd KB ht⟩;obtain⟨b,off,rfl,be,vs,y,h0,d,r,q,p,f,j,gv,g⟩:=u i hi;have key:∀o x,w.cell? (.a b o)=some x->w'.cell? (.a b o)=some x:=λo x l=>(WO hk ht KB o).trans l;exact⟨b,off,U,be,vs,y,key _ _ h0,key _ _ d,key _ _ r,key _ _ q,key _ _ p,⟨S5 (R:=qG) Lj hk j (.inr KB) f.fy,S5 (R:=B_) (λ_ _ _ _ _ a h=>⟨a _ _ h.1,h.2⟩) hk gv (.inr AF) f.dT,S5 (R:=Am) Lj hk g (.inr AF) f.dt⟩,hd (.inr KB) j,hd (.inr AF) gv,hd (.inr AF) g⟩
variable{aS:Nat}{V:aL}
def ao1{l:uae}(a:e5 B V L)(o:vv l D (λ_=>n) L cs)(c:ah V aS cs 36)(v:l.length<=1000)(ht:∀r i,r<n->i<l.length->(D r i).text.size<=1000000):
 lJ V (.S aS 0 l.length l.length) (tc l D n):=by
 have k:(tc l D n).length=l.length:=by simp[tc]
 refine⟨⟨_,_,by rw[k],AX,λi hi=>⟨_,_,U,?_⟩⟩,λb h=>by cases h;exact⟨_,_,c⟩⟩;rw[k]at hi;have p:(tc l D n)[i]'AX=tb l[i] (D · i) n:=by simp[tc,hi]
 rw[p];obtain⟨be,vs,e,q,a1,s,t,u,m,g,f⟩:=o.mR i hi;refine⟨be,vs,e,?_,?_,?_,?_,?_,⟨?_,?_,?_⟩,q8 (show V.ownsRow _ 2 1 be (ph l[i].1 (D · i) n).length _ from a.at m),q8 (show V.ownsRow _ 9 1 vs (pi l[i].1 (D · i) n).length _ from a.at g),q8 (show V.ownsRow _ 4 1 e (s_ (D · i) n).length _ from a.at f)⟩
 .show V.cell? _=_;rw[c.rules.1,show 0+i*5+0=i*5 by omega,q];rfl
 .show V.cell? _=_;rw[c.rules.1,show 0+i*5+1=i*5+1 by omega,a1];rfl
 .show V.cell? _=_;rw[c.rules.1,show 0+i*5+2=i*5+2 by omega,s]
 .show V.cell? _=_;rw[c.rules.1,show 0+i*5+3=i*5+3 by omega,t]
 .show V.cell? _=_;rw[c.rules.1,show 0+i*5+4=i*5+4 by omega,u]
 .refine yG (show V.ownsRow _ 2 1 be (ph l[i].1 (D · i) n).length _ from a.at m) ?_ ?_
  .grind[tb,ph]
  .intro j d rd h0;by_cases hk:l[i].1=3
   .grind[tb]
   .simp[tb,ph,hk]at h0⊢;exact h0
 .refine yG (show V.ownsRow _ 9 1 vs (pi l[i].1 (D · i) n).length _ from a.at g) ?_ ?_
  .grind[tb,pi]
  .intro j d rd h0;by_cases hk:l[i].1=3
   .simp[tb,hk]at d;simp[tb,pi,hk]at h0⊢;exact⟨h0,AF⟩
   grind[tb]
 .refine yG (show V.ownsRow _ 4 1 e (s_ (D · i) n).length _ from a.at f) ?_ ?_
  .simp[tb,s_]
  .intro j d rd h0;simp[tb,s_]at h0⊢;exact h0
section
@[simp] theorem awe:cX true 21:=dg (bB (upd:=true) func21 AQ) AQ
theorem awf(h:¬iC L b):∃i,∃(hi:i<L.length),L[i].v.ownBlock=some b:=vaw λhn=>h λi hi hg=>AF
def xI{W':aL}{Y:ubi}(h:e5 B W L)(hk:jh Y W W')(c:∀i(h:i<L.length),Y L[i].e):e5 B W' L:=h.kept λg hg=>by
 obtain⟨i,hi,a⟩:=awf hg;rcases(h.own i hi).2 with⟨hn,-⟩|⟨g',cap,bf,hv,-,b,-⟩
 .rw[hn]at a;cases a
 .rw[hv]at a;cases a;exact(hk.cells _ _ _ _ b (c i hi)).trans b.symm
def xH(h:e=2\/e=9\/e=4):¬s9 e:=by unfold s9;grind
structure Hw(B aS t4 t5:Nat)(l:uae)(D:Nat->Nat->cZ)(m:uas)(V:aL)(L:List fb)(cs:df):Prop where
 gL:e5 B V L
 at_:vv l D m L cs
 box:ah V aS cs 36
 bt:ah V t5 #[.S aS 0 l.length l.length] 25
 bk:ah V t4 #[.N] 27
def Hw.O6{b a:Nat}{l:uae}{m:uas}{nf:aL}(h:Hw B aS b a l D m V L cs)(hk:jh (λe=>¬s9 e) V nf):Hw B aS b a l D m nf L cs:=
 ⟨xI h.gL hk λi hi=>xH (h.at_.CZ i hi),h.at_,hk.cells _ _ _ _ h.box (by grind[s9]),hk.cells _ _ _ _ h.bt (by grind[s9]),hk.cells _ _ _ _ h.bk (by grind[s9])⟩
def mX(rs:List a7)(t i:Nat):cZ:=((rs[t]?.map (·.2)).getD [])[i]?.getD sR
def awg{l:uae}(D:Nat->Nat->cZ)(hs:cs.size=l.length*5)(a:CV cs l l.length):vv l D (λ_=>0) ((List.range (3*l.length)).map λi=>⟨if i % 3=0 then 2 else if i % 3=1 then 9 else 4,.N,[]⟩) cs:=by
 refine⟨hs,λi hi=>?_,λi hi=>?_⟩
 .obtain⟨b,a1,c,d,e⟩:=a i hi hi;refine⟨_,_,_,b,a1,c,d,e,?_,?_,?_⟩
  .grind[ph]
  .grind[pi]
  grind[s_]
 grind
def awh(B:Nat)(w:aL)(n:Nat)(e:Nat->TypeId):e5 B w ((List.range n).map λi=>⟨e i,.N,[]⟩):=by
 refine⟨λi hi=>?_,λi j hi b g a hg=>?_⟩
 .grind[World.ownsRow_nil]
 grind[Value.ownBlock]
attribute [local go_sem] Oper.semAt_some
def awi(l:uae)(v:Value)(rs:List a7){gf:Nat}{lb:df}(w:aL)(hv:gC w v l)(hl:l.length<=1000)(Bf:rs.length<=1000)(hlen:∀r∈rs,r.2.length=l.length)(Hx:∀r∈rs,∀d∈r.2,d.text.size<=1000000)(rJ:∀args w,(callFunc gf args).run (ae prog true) w=.ok (.enter gf args) w)(rO:∀n,S0 s9 n (ae prog true) gf lb (Nn w rs) rs.length w.heap.size w):
 Calls (ae prog true) 21 #[v,.func (.func gf) #[] lb] w λe w'=>∃v',e=.returned (.agg #[v'])/\lJ w' v' (tc l (mX rs) rs.length)/\cC w w':=by
 obtain⟨bh,oR,rfl,-,-⟩:=id hv;have IW:Hid (gC w _ l):=hv;have U:Hid _:=hlen;have S:Hid _:=Hx;clear hv hlen Hx;refine(callsIn_wide (n:=3)).1 ?_;refine callsIn_of_wp_marks (bB (upd:=true) func21 AQ) rfl trivial ?_;simp[vcg];gi_wp2_with (refine⟨NE,(callsIn_wide.2 (aou l _ _ (IW.out.mono pM (bp.b7 ((vaa _ w).alloc AF _))) AX)).mono ?_⟩;rintro e w1 ⟨aS,cs0,rfl,cD,hsz,Mh,pR,b_⟩)
 have Vu:ah w1 w.heap.size #[.N] 27:=(ah.new w _ _).call b_;have mj:cC w w1:=Below.step b_ ((vaa _ w).alloc AF _) Ab;have aHr:w.heap.size<w1.heap.size:=Vu.lt;have cG:cC w1 (w1.alloc (.cells #[.S aS 0 l.length l.length] 25)):=(vaa _ w1).alloc AF _;have hst:Hw (w1.heap.size+1) aS w.heap.size w1.heap.size l (mX rs) (λ_=>0) (w1.alloc (.cells #[.S aS 0 l.length l.length] 25)) _ cs0:=⟨awh _ _ _ _,awg _ hsz Mh,cD.alloc _,ah.new _ _ _,Vu.alloc _⟩;refine aoy (n:=3) (gf:=gf) (lb:=lb) (w0:=w) (nQ:=w.heap.size) (N:=rs.length) (Row:=Nn w rs) rfl rJ (rO _) (mj.trans (cG.mono AX)) A2
  (λt V=>∃L cs,Hw (w1.heap.size+1) aS w.heap.size w1.heap.size l (mX rs) (λ_=>t) V L cs)
  (λt V nf h hk=>by
   obtain⟨L,cs,h⟩:=h;exact⟨L,cs,h.O6 hk⟩)
  AF
  (λt x a' V=>∃M y nd pc A I D,ah V M #[.slice y nd pc,.slice A I D] 74/\x=.agg #[.slice y nd pc,.slice A I D]/\Nn w rs t V x/\∃z,a'={tmps:=#[.slice bh l.length oR,.func (.func gf) #[] lb,.U,.U,.P w.heap.size 0,.P w1.heap.size 0,.P M 0,.U,.U,.slice bh l.length oR,.S aS 0 l.length l.length,.func (.func gf) #[] lb,z,.U,.U,.U,.U,.U,.U,.U,.U,.U,.U,.U,.U,.U,.U,.U,.U,.U,.U,.U,.U],defers:=[]})
  (λt x a' V nf h hk=>by
   obtain⟨M,y,nd,pc,A,I,D,h1,h2,⟨h3,p1,p2,p3,p4,lP,awj,awk⟩,h4⟩:=h;exact⟨M,y,nd,pc,A,I,D,hk.cells _ _ _ _ h1,h2,⟨h3,p1,p2,p3,p4,lP,awj,λ_ _ _ u=>CW hk (awk _ _ _ u)⟩,h4⟩)
  ?assign ?body ?done
 case assign=>
  rintro l' t x V K- -⟨F,y,pc,A,D,rfl,nM,jU⟩ hK;gi_wp2
  have fA:cC V (V.alloc (.cells #[.slice y rs[t].1.length pc,.slice A rs[t].2.length D] 74)):=(vaa _ V).alloc AF _;exact hK _ _ fA ⟨V.heap.size,_,_,_,_,_,_,ah.new V _ _,rfl,⟨F,y,pc,A,D,rfl,nM,λ_ _ _ u=>bp.b7 fA _ _ _ (jU _ _ _ u)⟩,_,rfl⟩
 case body=>
  rintro l' t x a' V ⟨Z0,cs1,R⟩ hlt ⟨M,y,nd,pc,A,I,D,O7,rfl,⟨F,N0,N1,N2,N3,awl,nM,jU⟩,z,rfl⟩ qI;cases awl;have yH:rs[t].2.length=l.length:=U.out _ AF;have JJ:Hid _:=nM;have Vv:Hid _:=yH;have Ro:Hid _:=R;have s:Hid (aS<w1.heap.size):=cD.lt;have Vw:Hid (w.heap.size<aS):=by unfold Hid;simp at pR;omega
  have awm:Hid _:=jU;obtain⟨dw,dI,gh⟩:=O7.all;clear nM yH R jU rO hst cD cG mj b_ Mh hsz Vu pR;gi_wp2
  gi_loopw [16] (λp wr=>∃(k:Nat)(L:List fb)(cs:df),k<=l.length/\p=.I k/\Hw (w1.heap.size+1) aS w.heap.size w1.heap.size l (mX rs) (λi=>if i<k then t+1 else t) wr L cs/\KeepsOthers V wr/\Below w.heap.size V wr/\jh s9 V wr/\bp w wr)
   (λi _=>l.length-(intOf i).toNat)
  case atStart=>exact⟨0,_,_,vav _,rfl,by simpa using Ro.out,KeepsOthers.refl _,vaa _ _,.p9 ⟨vac _,AF⟩,awm.out⟩
  case round=>
   obtain⟨k,L,cs,hk,rfl,H,sP,xm,No,Rn⟩:=hrel;have m:Hid _:=H;have aHs:w1.heap.size<wr.heap.size:=m.out.bt.lt;have yF:Hid (KeepsOthers V wr):=sP;have yC:Hid (Below w.heap.size V wr):=xm;have xl:Hid (jh s9 V wr):=No;have KT:Hid (bp w wr):=Rn;clear H sP xm No Rn;by_cases rX:k<l.length
   .obtain⟨n6,aHt,IN,-,b8⟩:=id JJ.out;cases IN;have NT:k<rs[t].2.length:=by have:=Vv.out;omega
    obtain⟨b,off,rfl,d0,d1,d2,d3,-⟩:=b8 k NT;simp at d0;have e0:=KT.out _ _ _ d0;have e1:=KT.out _ _ _ d1;have e2:=KT.out _ _ _ d2;have e3:=KT.out _ _ _ d3;have Ye:=fp e0;have ml:(0:Int)<=(k:Int):=AX;have kx:(k:Int)<(l.length:Int):=AX;have hD:mX rs t k=rs[t].2[k]:=by grind[mX]
    have yy:Hid _:=hD;have hU:cC wr (wr.alloc (.cells #[.bool rs[t].2[k].dU,.I rs[t].2[k].num,.I rs[t].2[k].bV,.string rs[t].2[k].text] 91)):=(vaa _ wr).alloc AF _;have p7:Hid _:=hU;have a:Hid _:=m.out.O6 (.p9 (.below hU));have O8:Hid _:=ah.new wr #[.bool rs[t].2[k].dU,.I rs[t].2[k].num,.I rs[t].2[k].bV,.string rs[t].2[k].text] 91;have Aj:(rs[t].2.length:Int)=(l.length:Int):=by have:=Vv.out;omega
    clear d0 d1 d2 d3 b8 hD hU;gi_wp2
    have awn:Hid ((wr.alloc (.cells #[.bool rs[t].2[k].dU,.I rs[t].2[k].num,.I rs[t].2[k].bV,.string rs[t].2[k].text] 91)).heap.size=wr.heap.size+1):=by unfold Hid;simp
    clear e0 e1 e2 e3;generalize wr.alloc (.cells #[.bool rs[t].2[k].dU,.I rs[t].2[k].num,.I rs[t].2[k].bV,.string rs[t].2[k].text] 91)=j at *;obtain⟨be,vs,I,cz,a1,bb,bI,bC,dl,iT,nk⟩:=a.out.at_.mR k rX;obtain⟨p0,q0,rfl⟩:=gQ (show j.ownsRow _ 2 1 be (ph l[k].1 (mX rs · k) _).length _ from a.out.gL.at dl);obtain⟨p1,bj,rfl⟩:=gQ (show j.ownsRow _ 9 1 vs (pi l[k].1 (mX rs · k) _).length _ from a.out.gL.at iT);obtain⟨p2,bm,rfl⟩:=gQ (show j.ownsRow _ 4 1 I (s_ (mX rs · k) _).length _ from a.out.gL.at nk);have j7:=aoO a.out.at_ (w:=j.drew) (B:=w1.heap.size+1) ⟨a.out.gL.own,a.out.gL.apart⟩ (by have:=a.out.bt.lt;simp;omega) rX AF (by simp;rw[yy.out];exact S.out _ (vax F) _ AF) bb bI bC;simp only[Nat.lt_irrefl,vef]at j7;rw[yy.out]at j7;have HC:Hid _:=j7;obtain⟨f1,iu,f3⟩:=a.out.box.all;have g0:j.cell? (.a aS (k*5))=_:=(f1 _).trans cz;have g1:j.cell? (.a aS (k*5+1))=_:=(f1 _).trans a1;have g2:j.cell? (.a aS (k*5+2))=_:=(f1 _).trans bb;have ff:j.cell? (.a aS (k*5+3))=_:=(f1 _).trans bI;have jf:j.cell? (.a aS (k*5+4))=_:=(f1 _).trans bC;obtain⟨awo,awp,awq⟩:=a.out.bt.all;obtain⟨k5,k6,awr⟩:=ah.all (show ah j wr.heap.size _ _ from O8.out);have yx:∀f,q2 L j.drew f->ah f aS cs 36/\ah f w1.heap.size #[.S aS 0 l.length l.length] 25/\ah f w.heap.size #[.N] 27:=λf hF=>
     ⟨(hF.block aS a.out.box.lt (a.out.gL.n4 (.inr (by have:=s.out;omega)))).trans a.out.box,(hF.block _ a.out.bt.lt (a.out.gL.n4 AF)).trans a.out.bt,(hF.block _ a.out.bk.lt (a.out.gL.n4 AF)).trans a.out.bk⟩
    have x6:Hid _:=yx;have O:Hid _:=a.out.at_.size;clear j7 cz a1 bb bI bC dl iT nk f1 iu yx;refine aoV Ao Ao (Gn (C:=λW=>ah W w1.heap.size #[.S aS 0 l.length l.length] 25/\ah W wr.heap.size #[.bool rs[t].2[k].dU,.I rs[t].2[k].num,.I rs[t].2[k].bV,.string rs[t].2[k].text] 91) _ _ _ _ ?_);have J:Hid (ah j.drew w1.heap.size #[.S aS 0 l.length l.length] 25/\ah j.drew wr.heap.size #[.bool rs[t].2[k].dU,.I rs[t].2[k].num,.I rs[t].2[k].bV,.string rs[t].2[k].text] 91):=⟨a.out.bt,O8.out⟩;refine um (i:=1) (v:=.I k) rfl Ao Ao Ao Kt J.out ⟨BK,λW _=>Ar,AF,λ_=>rfl⟩ ?_;refine um (i:=3) (v:=.I k) rfl Ao Ao Ao Kt J.out ⟨BK,λW _=>Ar,AF,λ_=>rfl⟩ ?_;refine um (i:=0) (v:=.S aS 0 l.length l.length) rfl Ao Ao Ao Kt J.out ⟨BK,λW P=>by obtain⟨dR,eX,jY⟩:=P.1.all;go_simp,AF,λ_=>rfl⟩ ?_;refine um (i:=2) (v:=.S aS 0 l.length l.length) rfl Ao Ao Ao Kt J.out ⟨BK,λW P=>by obtain⟨dR,eX,jY⟩:=P.1.all;go_simp,AF,λ_=>rfl⟩ ?_;refine um (i:=6) (v:=o6 rs[t].2[k]) rfl Ao Ao Ao Kt J.out ⟨BK,λW P=>by obtain⟨dR,eX,jY⟩:=P.2.all;go_simp,AF,λ_=>rfl⟩ ?_;refine ki (i:=4) Ao rfl λK hK=>?_;go_simp
    refine hK _ _ J.out ?_;clear hK K;refine ki (i:=5) Ao rfl λK hK=>?_;go_simp
    refine hK _ _ J.out ?_;clear hK K;refine ki (i:=7) Ao rfl λK hK=>?_;go_simp
    refine⟨NE,(callsIn_wide.2 HC.out).mono ?_⟩;rintro e f ⟨r0,n0,c_,r1,n1,c1,r2,eJ,bG,L',rfl,yf,yd,hF⟩;obtain⟨E,Vx,x0⟩:=x6.out f hF;have Vy:ah f wr.heap.size #[.bool rs[t].2[k].dU,.I rs[t].2[k].num,.I rs[t].2[k].bV,.string rs[t].2[k].text] 91:=(hF.block _ Bc (Nv a.out.gL λc e z u i hi he=>by
     have q:ah j wr.heap.size _ _:=O8.out;unfold ah at q;rw[q]at u;cases u;rcases a.out.at_.CZ i hi with h|h|h<;>rw[h]at he<;>exact absurd he AU)).trans O8.out
    refine hK _ _ ⟨Vx,Vy⟩ ?_;clear hK K g0 g1 g2 ff jf awo awp awq k5 k6 awr;have i0:f.cell? (.a aS (k*5))=some (cs[k*5]'Eu):=FI;have i1:f.cell? (.a aS (k*5+1))=some (cs[k*5+1]'Eu):=FI;have i2:f.cell? (.a aS (k*5+2))=some (cs[k*5+2]'Eu):=FI;have i3:f.cell? (.a aS (k*5+3))=some (cs[k*5+3]'Eu):=FI;have i4:f.cell? (.a aS (k*5+4))=some (cs[k*5+4]'Eu):=FI;have i5:=E.rules.2;have NW:Hid (ah f aS cs 36):=E;have J4:Hid (ah f w1.heap.size #[.S aS 0 l.length l.length] 25):=Vx;have TI:Hid (ah f w.heap.size #[.N] 27):=x0;have Z:Hid (ah f wr.heap.size #[.bool rs[t].2[k].dU,.I rs[t].2[k].num,.I rs[t].2[k].bV,.string rs[t].2[k].text] 91):=Vy;have Ga:Hid _:=yf;have Jv:Hid _:=yd;have Vz:Hid _:=hF;clear E Vx x0 Vy yf yd hF;refine ki (i:=8) Ao rfl λK hK=>?_;go_simp
    refine hK _ _ ⟨J4.out,Z.out⟩ ?_;clear hK K;refine ki (i:=9) Ao rfl λK hK=>?_;go_simp
    refine hK _ _ ⟨((((J4.out.fl CI _).fl CI _).fl CI _).fl CI _).fl CI _,((((Z.out.fl CI _).fl CI _).fl CI _).fl CI _).fl CI _⟩ ?_;clear hK K;refine Gp Ao ?_ _;clear i0 i1 i2 i3 i4 i5;have hA0:KeepsOthers wr f:=(aox p7.out).trans (by have q:=aoP Vz.out ⟨a.out.gL.own,a.out.gL.apart⟩;exact⟨q.size,q.same⟩);have hA1:jh s9 wr f:=(jh.p9 (.below p7.out)).trans (by have q:=aoQ (Y:=s9) Vz.out ⟨a.out.gL.own,a.out.gL.apart⟩ λi hi=>xH (a.out.at_.CZ i hi);exact⟨q.size,q.cells⟩);have hA2:Below w.heap.size wr f:=(p7.out.mono AX).trans (by have q:=aoR (n:=w.heap.size) Vz.out ⟨a.out.gL.own,a.out.gL.apart⟩ AX (by have:=awn.out;simp;omega);exact⟨q.os,q.tape,q.output,q.size,q.block⟩);have aws:Hid _:=hA0;have awt:Hid _:=hA1;have X:Hid _:=hA2;clear hA0 hA1 hA2;gi_wp2
    go_roundw
    case rel=>
     refine⟨_,_,.I ((k:Int)+1),⟨k+1,AX,Ab,⟨L',sc cs k (.I l[k].1) (.I l[k].2) (.slice r0 n0 c_) (.slice r1 n1 c1) (.slice r2 eJ bG),⟨?_,?_,?_,?_,?_⟩⟩,?_,?_,?_,?_⟩,rfl,rfl,rfl⟩
     .exact Ga.out.kept λg hg=>Nw _ _ _ _ _ _ _ _ λe=>hg (e▸Ga.out.n4 (.inr (by have:=s.out;omega)))
     .refine Jv.out.congr λi hi=>?_;grind[w_]
     .exact WQ NW.out _ _ _ _ _ _
     .exact(Nw _ _ _ _ _ _ _ _ (by have:=s.out;omega)).trans J4.out
     .exact(Nw _ _ _ _ _ _ _ _ (by have:=Vw.out;omega)).trans TI.out
     .exact(yF.out.trans aws.out).trans (aoY ..)
     .exact(yC.out.trans X.out).trans (S4 _ (by have:=Vw.out;omega) _ _ _ _ _ _)
     .exact(xl.out.trans awt.out).trans (aoZ NW.out (by grind[s9]) _ _ _ _ _ _)
     .exact λb o x u=>((X.out.trans (S4 _ (by have:=Vw.out;omega) _ _ _ _ _ _)).cell (p:=⟨b,o,none⟩) (fp u)).trans (KT.out _ _ _ u)
    case measure=>simp[intOf];omega
   .have iQ:k=l.length:=by omega
    have Aj:(rs[t].2.length:Int)=(l.length:Int):=by have:=Vv.out;omega
    gi_wp2
    refine⟨yF.out,yC.out,xl.out,L,cs,m.out.gL,m.out.at_.congr λi hi=>?_,m.out.box,m.out.bt,m.out.bk⟩;grind
 case done=>
  rintro V ⟨L,cs,H⟩ hB hK;obtain⟨bj,bm,q3⟩:=H.bt.all;obtain⟨gB,kZ,lE⟩:=H.bk.all;have m:Hid _:=H;have Cm:Hid _:=hK;have cp:Hid _:=hB;clear H hB hK;gi_wp2
  have hne:(w1.alloc (.cells #[.S aS 0 l.length l.length] 25)).heap.size≠w.heap.size:=A2;have VA:=(vat V ⟨w.heap.size,0,none⟩ (.S aS 0 l.length l.length) _ hne).trans Cm.out;refine⟨Ab,.inl ⟨_,_,rfl,run_takeDeferred VA,?_⟩⟩;have xV:w.heap.size<aS:=by simp at pR;omega
  have kk:jh (λe=>e≠27) V ((V.setCell ⟨w.heap.size,0,none⟩ (.S aS 0 l.length l.length)).putObj (w1.alloc (.cells #[.S aS 0 l.length l.length] 25)).heap.size (.deferred none)):=
   (jh.set m.out.bk AF _ _).trans (.p9 (IK VA))
  refine⟨.agg #[.S aS 0 l.length l.length],?_,_,rfl,ao1 (xI m.out.gL kk λi hi=>?_) m.out.at_ (kk.cells _ _ _ _ m.out.box AU) hl ?_,?_⟩
  .have awu:(V.setCell ⟨w.heap.size,0,none⟩ (.S aS 0 l.length l.length)).heap[w.heap.size]?=some (.cells #[.S aS 0 l.length l.length] 27):=m.out.bk.set _ _;have Q:((V.setCell ⟨w.heap.size,0,none⟩ (.S aS 0 l.length l.length)).putObj (w1.alloc (.cells #[.S aS 0 l.length l.length] 25)).heap.size (.deferred none)).cell? (.a w.heap.size 0)=some (.S aS 0 l.length l.length):=CW (IK VA) (((ah.rules (T:=27) awu).1 0).trans rfl);simp at Q⊢;simp[results,results21,go_sem,Q]
  .rcases m.out.at_.CZ i hi with h|h|h<;>rw[h]<;>decide
  .intro r i F hi;simp[mX,vag F];have oZ:=U.out _ (vax F);rw[vag AX];exact S.out _ (vax F) _ AF
  .exact((mj.trans (cG.mono AX)).trans cp.out).trans ((Below.setCell (vaa _ V) (p:=⟨w.heap.size,0,none⟩) AF _).trans (wC _ A2))
