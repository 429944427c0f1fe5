import Derived.Test.YtncomcmfgmojkaaGreatPAW
set_option linter.all false
set_option maxRecDepth 100000
set_option maxHeartbeats 16000000
namespace Go.Proofs.YtncomcmfgmojkaaGreat
open Go.Proofs.Tryz
namespace aG
open Conc ConcM RowKit av bn cz c5 bZ bN cM
def YL(a:Array Value)(w:aO):Sem.run (ae prog true) (callFunc 13 a) w=.ok (.enter 13 a) w:=cB (a6 (upd:=true) func13 AV) AV a w
def YJ(a:Array Value)(w:aO):Sem.run (ae prog true) (callFunc 14 a) w=.ok (.enter 14 a) w:=cB (a6 (upd:=true) func14 AV) AV a w
variable{t1 t2 t3:bI}{v:Value}
section
variable{N:Nat}{K:bJ}{o:Oper}{F:bp}{x y z u:Operand}{ats:Array TypeId}
def rN{k:Int}(c:o.op=.call {callee:=.value (.func 5),args:=#[x],argTypes:=ats})(b:bl K x (bt k)):bG (ae prog true) N K o (sD (tm 1 k)):=DN c (λa w=>ar8 a w) b λv w h=>by cases h;refine(asc k w).mono ?_;rintro e w' ⟨rfl,d⟩;exact⟨_,Y,Y,d⟩
def KB{k:Int}(c:o.op=.call {callee:=.value (.func 7),args:=#[x],argTypes:=ats})(b:bl K x (bt k)):bG (ae prog true) N K o (sD (tm k 0)):=DN c (λa w=>ar9 a w) b λv w h=>by cases h;refine(asd k w).mono ?_;rintro e w' ⟨rfl,d⟩;exact⟨_,Y,Y,d⟩
def ayA{c:Int}(d:o.op=.call {callee:=.value (.func 8),args:=#[x],argTypes:=ats})(b:bl K x (bt c))(f:cD c):bG (ae prog true) N K o (z2 (jv c)):=DN d (λa w=>ar7 a w) b λv w h=>by cases h;refine(O4 c f w).mono ?_;rintro e w' ⟨rfl,g⟩;exact⟨_,Y,Y,g⟩
def KC(c:o.op=.call {callee:=.value (.func 11),args:=#[x],argTypes:=ats})(b:bl K x (bt 0)):bG (ae prog true) N K o VD:=DN c (λa w=>ar_ a w) b λv w h=>by cases h;refine(ase 0 w).mono ?_;rintro e w' ⟨rfl,d⟩;exact⟨_,Y,Y,d⟩
def G5{k:Int}{e:List bI}(i:o.op=.call {callee:=.value (.func 12),args:=#[x,y],argTypes:=ats})(g:bl K x (bt k))(f:bl K y (b6 4 dS e)):bG (ae prog true) N K o (O6 k e):=Gn i (λa w=>axO a w) g f λv v' w h m=>by cases h;obtain⟨d,cap,rfl,h1,l⟩:=m;refine(axP k d e.length cap w).mono ?_;rintro q w' ⟨b,rfl,j,-,c⟩;exact⟨_,Y,⟨b,_,Y,j,(b6 4 dS e).hJ _ _ _ c ⟨d,cap,Y,h1,l⟩⟩,c⟩
def Em{t:List aA}{n:Nat}(c:o.op=.call {callee:=.value (.func 9),args:=#[x],argTypes:=ats})(b:bl K x (la t))(h0:0<t.length)(hn:t[0].cp.length=n):bG (ae prog true) N K o (bt (n:Int)):=DN c (λa w=>asa a w) b λv w h=>by obtain⟨aT,rfl,h1⟩:=h;refine(asf aT t h0 w h1.bd).mono ?_;rintro e w' ⟨rfl,d⟩;exact⟨_,Y,by rw[hn];rfl,d⟩
def ayB{t:List aA}(d:o.op=.call {callee:=.value (.func 13),args:=#[x,y],argTypes:=ats})(b:bl K x (la t))(a:bl K y (la t))(ht:t.length<9000000000000000000)(f:∀c∈t,Ef c)(hn:∀c∈t,c.cp.length<9000000000000000000):bG (ae prog true) N K o (bL true):=Gn d YL b a λv v' w h i=>by refine(ax2 t ht f hn v v' w h i).mono ?_;rintro e w' ⟨r,rfl,rfl,g⟩;exact⟨_,Y,Y,g⟩
def VS{t:List aA}{want:List Nat}(g:o.op=.call {callee:=.value (.func 14),args:=#[x,y],argTypes:=ats})(b:bl K x (la t))(a:bl K y (b6 1 j9 (iU want)))(ht:t.length<=1000)(hs:∀c∈t,∀s∈c.dl,s.size<=1000)(d:∀c∈t,∀j∈want,Ek c j)(i:want.length<=1000):bG (ae prog true) N K o (la (jT t want)):=Gn g YJ b a λv v' w h l=>by refine(YS t want ht hs d i v v' w h l).mono ?_;rintro e w' ⟨r,rfl,f,k⟩;exact⟨_,Y,f,k⟩
def ayC{m n:Int}(a:o.op=.build 32 #[(0,x),(2,y)])(e:bl K x (bt m))(d:bl K y (bt n)):bG (ae prog true) N K o (sD ⟨m,0,n,⟨#[]⟩⟩):=rq e d λev w c b=>⟨.agg #[.int .i64 m,.int .i64 0,.int .i64 n,.string ⟨#[]⟩],w,by
 have c:ev x=.int .i64 m:=c;have b:ev y=.int .i64 n:=b;cases o;simp only at a;subst a;go_simp,Y,Below.refl _ _⟩
def ayD{m:Int}{s:ByteArray}(a:o.op=.build 32 #[(0,x),(3,y)])(e:bl K x (bt m))(d:bl K y (z2 s)):bG (ae prog true) N K o (sD ⟨m,0,0,s⟩):=rq e d λev w c b=>⟨.agg #[.int .i64 m,.int .i64 0,.int .i64 0,.string s],w,by
 have c:ev x=.int .i64 m:=c;have b:ev y=.string s:=b;cases o;simp only at a;subst a;go_simp,Y,Below.refl _ _⟩
def VT(e:List bI)(W:aO){c:Array Value}(d:c=(e.flatMap ld).toArray)(a:e.length<=100)(hs:∀t∈e,t.s.size<=100)(T:TypeId):(b6 4 dS e).R (W.alloc (.cells c T)) (.slice (some ⟨W.heap.size,0,none⟩) e.length e.length):=by obtain⟨b,-,h⟩:=avz e W d a hs T;exact h
def rJ(e:o.op=.buildSlice 35 3 #[(0,x),(1,y),(2,z)])(h:bl K x (sD t1))(g:bl K y (sD t2))(f:bl K z (sD t3))(hs:∀t∈[t1,t2,t3],t.s.size<=100):bG (ae prog true) N K o (b6 4 dS [t1,t2,t3]):=λa w hk=>by have d:=hk.ev h;have c:=hk.ev g;have b:=hk.ev f;unfold we;generalize a.eval=ev at d c b⊢;have d:ev x=.agg #[.int .i64 t1.op,.int .i64 t1.a,.int .i64 t1.v,.string t1.s]:=d;have c:ev y=.agg #[.int .i64 t2.op,.int .i64 t2.a,.int .i64 t2.v,.string t2.s]:=c;have b:ev z=.agg #[.int .i64 t3.op,.int .i64 t3.a,.int .i64 t3.v,.string t3.s]:=b;refine .inl ⟨.slice (some ⟨w.heap.size,0,none⟩) 3 3,w.alloc (.cells #[.int .i64 t1.op,.int .i64 t1.a,.int .i64 t1.v,.string t1.s,.int .i64 t2.op,.int .i64 t2.a,.int .i64 t2.v,.string t2.s,.int .i64 t3.op,.int .i64 t3.a,.int .i64 t3.v,.string t3.s] 32),?_,VT [t1,t2,t3] w Y A_ hs _,(Below.refl _ w).alloc J1 _⟩;cases o;simp only at e;subst e;go_simp
def rG{b:bI}(g:o.op=.buildSlice 35 4 #[(0,x),(1,y),(2,z),(3,u)])(j:bl K x (sD t1))(i:bl K y (sD t2))(h:bl K z (sD t3))(k:bl K u (sD b))(hs:∀t∈[t1,t2,t3,b],t.s.size<=100):bG (ae prog true) N K o (b6 4 dS [t1,t2,t3,b]):=λa w hk=>by have f:=hk.ev j;have e:=hk.ev i;have d:=hk.ev h;have c:=hk.ev k;unfold we;generalize a.eval=ev at f e d c⊢;have f:ev x=.agg #[.int .i64 t1.op,.int .i64 t1.a,.int .i64 t1.v,.string t1.s]:=f;have e:ev y=.agg #[.int .i64 t2.op,.int .i64 t2.a,.int .i64 t2.v,.string t2.s]:=e;have d:ev z=.agg #[.int .i64 t3.op,.int .i64 t3.a,.int .i64 t3.v,.string t3.s]:=d;have c:ev u=.agg #[.int .i64 b.op,.int .i64 b.a,.int .i64 b.v,.string b.s]:=c;refine .inl ⟨.slice (some ⟨w.heap.size,0,none⟩) 4 4,w.alloc (.cells #[.int .i64 t1.op,.int .i64 t1.a,.int .i64 t1.v,.string t1.s,.int .i64 t2.op,.int .i64 t2.a,.int .i64 t2.v,.string t2.s,.int .i64 t3.op,.int .i64 t3.a,.int .i64 t3.v,.string t3.s,.int .i64 b.op,.int .i64 b.a,.int .i64 b.v,.string b.s] 32),?_,VT [t1,t2,t3,b] w Y A_ hs _,(Below.refl _ w).alloc J1 _⟩;cases o;simp only at g;subst g;go_simp
def ayE{t:List aA}(a:o.op=.buildSlice 30 1 #[(0,x)])(c:bl K x (la t)):bG (ae prog true) N K o (yN t):=dT c λev w h=>by obtain⟨aT,e,h1⟩:=h;obtain⟨⟨g,f,rfl,-,-⟩,-⟩:=id h1;have b:Below w.heap.size w (w.alloc (.cells #[.slice g t.length f] 28)):=(Below.refl _ w).alloc J1 _;have d:Hid _:=h1;clear h1;exact⟨.slice (some ⟨w.heap.size,0,none⟩) 1 1,_,Bf,⟨w.heap.size,0,1,_,Y,((ag.new _ _ _).rules.1 0).trans Y,(jM.kept (An b) d.out).bd⟩,b⟩
def Pl{e:List bI}(c:o.op=.buildSlice 52 2 #[(0,x),(1,y)])(i:bl K x VD)(h:bl K y (O6 0 e)):bG (ae prog true) N K o (JR [e]):=rq i h λev w f m=>by
 have f:ev x=.agg #[.int .i64 1,.int .i64 0,.int .i64 0,.slice none 0 0,.slice none 0 0,.slice none 0 0,.slice none 0 0]:=f;obtain⟨b,v,n,h3,d⟩:=m;have g:Hid _:=d;have HC:Hid _:=h3;clear h3 d;have a:Below w.heap.size w (w.alloc (.cells #[.int .i64 1,.int .i64 0,.int .i64 0,.slice none 0 0,.slice none 0 0,.slice none 0 0,.slice none 0 0,.int .i64 2,.int .i64 0,.int .i64 0,.slice (some ⟨b,0,none⟩) 1 1,.slice none 0 0,.slice none 0 0,.slice none 0 0] 49)):=(Below.refl _ w).alloc J1 _;have cL:=ag.new w #[.int .i64 1,.int .i64 0,.int .i64 0,.slice none 0 0,.slice none 0 0,.slice none 0 0,.slice none 0 0,.int .i64 2,.int .i64 0,.int .i64 0,.slice (some ⟨b,0,none⟩) 1 1,.slice none 0 0,.slice none 0 0,.slice none 0 0] 49;refine⟨.slice (some ⟨w.heap.size,0,none⟩) 2 2,_,by cases o;simp only at c;subst c;go_simp,⟨w.heap.size,0,2,Y,λj u l=>?_,λk hk=>?_⟩,a⟩
 .rw[cL.rules.1];grind[jh]
 .obtain rfl:k=0:=by simp at hk;omega
  refine⟨b,0,1,v,λj u l=>?_,bo.cj a _ _ _ HC.out,a8.mono p7 (bo.cj a) g.out⟩;rw[cL.rules.1];grind[jh]
def ayF{e p:List bI}(l:o.op=.buildSlice 52 3 #[(0,x),(1,y),(2,z)])(B:bl K x VD)(A:bl K y (O6 0 e))(t:bl K z (O6 1 p)):bG (ae prog true) N K o (JR [e,p]):=λa w hk=>by
 have f:=hk.ev B;have n:=hk.ev A;have h3:=hk.ev t;unfold we;generalize a.eval=ev at f n h3⊢;have f:ev x=.agg #[.int .i64 1,.int .i64 0,.int .i64 0,.slice none 0 0,.slice none 0 0,.slice none 0 0,.slice none 0 0]:=f;obtain⟨b,v,E,m,r⟩:=n;obtain⟨g,v',D,q,i⟩:=h3;have s:Hid _:=r;have HC:Hid _:=m;have C:Hid _:=i;have h:Hid _:=q;clear m r q i;have d:Below w.heap.size w (w.alloc (.cells #[.int .i64 1,.int .i64 0,.int .i64 0,.slice none 0 0,.slice none 0 0,.slice none 0 0,.slice none 0 0,.int .i64 2,.int .i64 0,.int .i64 0,.slice (some ⟨b,0,none⟩) 1 1,.slice none 0 0,.slice none 0 0,.slice none 0 0,.int .i64 2,.int .i64 1,.int .i64 0,.slice (some ⟨g,0,none⟩) 1 1,.slice none 0 0,.slice none 0 0,.slice none 0 0] 49)):=(Below.refl _ w).alloc J1 _;have cL:=ag.new w #[.int .i64 1,.int .i64 0,.int .i64 0,.slice none 0 0,.slice none 0 0,.slice none 0 0,.slice none 0 0,.int .i64 2,.int .i64 0,.int .i64 0,.slice (some ⟨b,0,none⟩) 1 1,.slice none 0 0,.slice none 0 0,.slice none 0 0,.int .i64 2,.int .i64 1,.int .i64 0,.slice (some ⟨g,0,none⟩) 1 1,.slice none 0 0,.slice none 0 0,.slice none 0 0] 49;refine .inl ⟨.slice (some ⟨w.heap.size,0,none⟩) 3 3,_,by cases o;simp only at l;subst l;go_simp,⟨w.heap.size,0,3,Y,λj u c=>?_,λk hk=>?_⟩,d⟩
 .rw[cL.rules.1];grind[jh]
 .have:k=0\/k=1:=by grind
  rcases this with rfl|rfl
  .refine⟨b,0,1,v,λj u c=>?_,bo.cj d _ _ _ HC.out,a8.mono p7 (bo.cj d) s.out⟩;rw[cL.rules.1];match j,c with|0,c|1,c|2,c|3,c|4,c|5,c|6,c=>exact c|j+7,c=>simp[jh]at c
  .refine⟨g,0,1,v',λj u c=>?_,bo.cj d _ _ _ h.out,a8.mono p7 (bo.cj d) C.out⟩;rw[cL.rules.1];match j,c with|0,c|1,c|2,c|3,c|4,c|5,c|6,c=>exact c|j+7,c=>simp[jh]at c
def Pm{t:List aA}(a:o.op=.load 28 x)(c:bl K x (iR v (cm t))):bG (ae prog true) N K o (la t):=dT c λev w h=>by obtain⟨b,e,aT,h1,d⟩:=O7 h.2;exact⟨.agg #[aT],w,Bf,⟨aT,Y,d⟩,Below.refl _ _⟩
def rB{n:Int}(a:o.op=.buildSlice 37 1 #[(0,x)])(b:bl K x (bt n)):bG (ae prog true) N K o (Ed [.int .i64 n]):=dT b λev w h=>by
 have e:ev x=.int .i64 n:=h;refine⟨.slice (some ⟨w.heap.size,0,none⟩) 1 1,w.alloc (.cells #[.int .i64 n] 3),?_,⟨w.heap.size,1,Y,λj v c=>?_⟩,(Below.refl _ w).alloc J1 _⟩
 .cases o;simp only at a;subst a;go_simp
 .rw[(ag.new w _ _).rules.1];simpa using c
end
def fI(l:Array Oper){l':Array Oper}(e:l=l':=by simp only[aq,pL,Tryz.f3,Option.getD_some,Nat.reduceBEq,Bool.false_eq_true,↓reduceIte];exact Y):l=l':=e
def G6(F:Func):Code:=(.seq (.seq (.region 9 (aq F 9) false) (.cond (.tmp 52) .skip (.exit 0))) (.seq (.block 1 (.seq (.region 11 (aq F 11) false) (.seq (.region 12 (aq F 12) false) (.seq (.seq (.region 13 (aq F 13) false) (.cond (.tmp 71) (.region 14 (aq F 14) false) .skip)) (.seq (.region 15 (aq F 15) true) (.cond (.tmp 90) (.seq (.region 16 (aq F 16) false) (.seq (.region 17 (aq F 17) true) (.cond (.tmp 111) (.region 18 (aq F 18) false) .skip))) .skip)))))) (.region 10 (aq F 10) false)))
variable{P:cg}
def rn{t e:TypeId}{z:Value}{bytes:Nat}(E:oi P t e z 1 bytes){ops:Array Oper}{N i d1 j h sv:Nat}{d b:Oper}{K:bJ}{a:Act}{w:aO}{rest:List Nat}{Q:Exit->Act->aO->Prop}(h1:ops[i]?=some d)(p:ops[i+1]?=some b)(g1:d.guard=none)(C:b.guard=none)(r:d.dst=some d1)(y:b.dst=some sv)(o:d.op=.call {callee:=.builtin .append,args:=#[.tmp j,.tmp h],argTypes:=#[t,t]})(L:b.op=.assign (.tmp d1))(hs:d1<N/\sv<N)(hk:af N K a w){x:Value}(F:K j=some (de v))(D:K h=some (Ed [x])){B n:Nat}{xs:List Value}(H:w.ownsRow B e 1 v n xs)(O:x.oneCell'=true)(hn:n+1<=1000000)(u:bytes<=1000)(A:B<=w.heap.size)(k:∀a' w1 v',w1.ownsRow B e 1 v' (n+1) (xs++[x])->w.grownBy w1 v.ownBlock->(v'.ownBlock=v.ownBlock\/v'.ownBlock=some w.heap.size)->a'.tmps[sv]?=some v'->(∀s,s≠d1->s≠sv->a'.tmps[s]?=a.tmps[s]?)->a'.tmps.size=N->a'.defers=a.defers->wpOps P ops Q rest a' w1):wpOps P ops Q (i::(i+1)::rest) a w:=by
 obtain⟨v0,I,rfl⟩:=hk.has j _ F;obtain⟨u2,J,g,c,rfl,M⟩:=hk.has h _ D;refine jO (R:=λa1 w1=>∃v',a1=a.put (some d1) v'/\w1.ownsRow B e 1 v' (n+1) (xs++[x])/\w.grownBy w1 v0.ownBlock/\(v'.ownBlock=v0.ownBlock\/v'.ownBlock=some w.heap.size)) (qb E h1 g1 r o (eb I) H (eb J) Y M AA hn u A λv' w' r1 m l=>⟨v',Y,r1,m,l⟩) ?_;rintro a1 w1 ⟨v',rfl,r1,m,l⟩;refine jO (R:=λq f=>q=(a.put (some d1) v').put (some sv) v'/\f=w1) (qw p C y (v:=v') (w1:=w1) ?_ ⟨Y,Y⟩) ?_
 .have:=eb (a:=a.put (some d1) v') (t:=d1) (kt (by rw[hk.size];grind));simp_all[execOp]
 rintro q f ⟨rfl,rfl⟩;exact k _ f v' r1 m l (kt Jf) (λs h1 p=>(dP (Ne.symm p)).trans (dP (Ne.symm h1))) Is Gh
def pR(c:aA)(V:Int)(i:Nat):Bool:= !c.cp.getD i false&&decide (c.fg.getD i 0<V)
def yZ(c:aA)(s:ByteArray)(i:Nat):Bool:= !c.cp.getD i false&&((c.dl.getD i bZ.f9).toList==s.toList)
def lg(c:aA)(V:Int)(i:Nat):List Nat:=(List.range i).filter (pR c V)
def ke(c c':aA)(V:Int)(s:ByteArray)(i:Nat):List Nat:=(List.range i).filter λj=>pR c V j&&yZ c' s j
def lh(c:aA)(i:Nat):Nat:=((List.range i).filter λj=>c.cp.getD j false).length
def rD(l:List Nat):List Value:=l.map λ(j:Nat)=>.int .i64 (j:Int)
theorem VU(c:aA)(V:Int)(i:Nat):lg c V (i+1)=if pR c V i then lg c V i++[i]else lg c V i:=by grind[lg,List.range_succ]
theorem VV(c c':aA)(V:Int)(s:ByteArray)(i:Nat):ke c c' V s (i+1)=if pR c V i&&yZ c' s i then ke c c' V s i++[i]else ke c c' V s i:=by grind[ke,List.range_succ]
def ri(c:aA)(i:Nat):lh c (i+1)=if c.cp.getD i false then lh c i+1 else lh c i:=by grind[lh,List.range_succ]
def om(c c':aA)(V:Int)(s:ByteArray)(i:Nat):(lg c V i).length<=i/\(ke c c' V s i).length<=i/\lh c i<=i:=by have h1:=List.length_filter_le (pR c V) (List.range i);have a:=List.length_filter_le (λj=>pR c V j&&yZ c' s j) (List.range i);have h3:=List.length_filter_le (λj=>c.cp.getD j false) (List.range i);rw[List.length_range]at h1 a h3;exact⟨h1,a,h3⟩
structure G7(a3:List aA)(c c':aA)(V:Int)(s:ByteArray)(n:Nat)(B:Nat)(ir:aO)(kG v13 v14:Value):Prop where
 eq:B=ir.heap.size
 f11:(cm a3).R ir kG
 f13:(b6 4 dS (iT V)).R ir v13
 f14:(b6 4 dS (jx s)).R ir v14
 h0:0<a3.length
 hn:a3[0].cp.length=n
 h1:a3[1]?=some c
 h3:a3[3]?=some c'
 l1:c.cp.length=n/\c.fg.length=n
 iw:c'.cp.length=n/\c'.dl.length=n
 le:n<=1000
variable{kG v13 v14:Value}
def G7.ku{a3:List aA}{c c':aA}{V:Int}{s:ByteArray}{n B:Nat}{a:aO}(_:G7 a3 c c' V s n B a kG v13 v14)(i:Nat)(h:i<=1000000):cD ((i:Int)+1):=by unfold cD;omega
structure rE(c c':aA)(V:Int)(s:ByteArray)(B:Nat)(ir:aO)(lw lb:List Nat)(W:aO)(bM bv:Value):Prop where
 lF:Below B ir W
 G8:W.ownsRow B 3 1 bM lw.length (rD lw)
 ob:W.ownsRow B 3 1 bv lb.length (rD lb)
 dj:∀g,bM.ownBlock=some g->bv.ownBlock≠some g
variable{bM bv:Value}
def rE.below{c c':aA}{V:Int}{s:ByteArray}{B:Nat}{a W W':aO}{lw lb:List Nat}(h:rE c c' V s B a lw lb W bM bv)(d:B<=a.heap.size)(b:Below W.heap.size W W'):rE c c' V s B a lw lb W' bM bv:=
 ⟨h.lF.trans (b.mono (Nat.le_trans d h.lF.size)),AD h.G8 b,AD h.ob b,h.dj⟩
theorem jW(l:List Nat)(i:Nat):rD (l++[i])=rD l++[.int .i64 (i:Int)]:=by simp[rD]
variable{v':Value}
def rE.ayI{c c':aA}{V:Int}{s:ByteArray}{B:Nat}{b W W':aO}{lw lb:List Nat}(h:rE c c' V s B b lw lb W bM bv)(k:B<=b.heap.size){i:Nat}(r1:W'.ownsRow B 3 1 v' (lw.length+1) (rD lw++[.int .i64 (i:Int)]))(f:W.grownBy W' bM.ownBlock)(a:v'.ownBlock=bM.ownBlock\/v'.ownBlock=some W.heap.size):rE c c' V s B b (lw++[i]) lb W' v' bv:=by
 have j:=Nat.le_trans k h.lF.size;refine⟨h.lF.trans (Ee h.G8 f j),by grind[jW],h.ob.kept f ?_,λg hg=>?_⟩
 .cases d:bv.ownBlock with|none=>grind|some g=>exact .inr λe=>h.dj g e.symm d
 .rcases a with a|a
  .exact h.dj g (a▸hg)
  .intro d;rw[a]at hg;cases hg;have:=(h.ob.lt _ d).2;omega
def rE.ayJ{c c':aA}{V:Int}{s:ByteArray}{B:Nat}{d W W':aO}{lw lb:List Nat}(h:rE c c' V s B d lw lb W bM bv)(k:B<=d.heap.size){i:Nat}(r1:W'.ownsRow B 3 1 v' (lb.length+1) (rD lb++[.int .i64 (i:Int)]))(f:W.grownBy W' bv.ownBlock)(a:v'.ownBlock=bv.ownBlock\/v'.ownBlock=some W.heap.size):rE c c' V s B d lw (lb++[i]) W' bM v':=by
 have j:=Nat.le_trans k h.lF.size;refine⟨h.lF.trans (Ee h.ob f j),h.G8.kept f ?_,by grind[jW],λg hg=>?_⟩
 .cases b:bM.ownBlock with|none=>grind|some g=>exact .inr λe=>h.dj g b e.symm
 .rcases a with a|a
  .rw[a];exact h.dj g hg
  .intro b;rw[a]at b;cases b;have:=(h.G8.lt _ hg).2;omega
def o6(a3:List aA)(V:Int)(s:ByteArray)(v8 v9 kG v12 v13 v14 bM bv:Value)(bm i:Nat):List (Nat×bp):=[(8,de v8),(9,de v9),(11,iR kG (cm a3)),(12,de v12),(13,iR v13 (b6 4 dS (iT V))),(14,iR v14 (b6 4 dS (jx s))),(15,de bM),(16,de bv),(17,bt bm),(18,bt i)]
variable{v12 v8 v9:Value}
def jV{a3:List aA}{c c':aA}{V:Int}{s:ByteArray}{n B:Nat}{k W W':aO}{pS bv':Value}{bm i:Nat}{nb:Bool}{K:bJ}{a a':Act}(C:G7 a3 c c' V s n B k kG v13 v14)(h:af 256 K a W)(hi:z1 K ((20,bL nb)::o6 a3 V s v8 v9 kG v12 v13 v14 bM bv bm i))(a0:a'.tmps.size=256)(hs:∀s,s<21->s≠15->s≠16->a'.tmps[s]?=a.tmps[s]?)(q:a'.tmps[15]?=some pS)(j:a'.tmps[16]?=some bv')(d:Below B k W'):af 256 (aK ((20,bL nb)::o6 a3 V s v8 v9 kG v12 v13 v14 pS bv' bm i)) a' W':=by
 obtain⟨w,o,x,g,m,t,f,r,y,u,e,-⟩:=hi;have d:=C.eq▸d;refine af.of a0 λp l=>?_;simp[o6]at l;rcases l with rfl|rfl|rfl|rfl|rfl|rfl|rfl|rfl|rfl|rfl|rfl
 .exact h.get w (hs 20 Ae Ae Ae) λv b=>b
 .exact h.get o (hs 8 Ae Ae Ae) λv b=>b
 .exact h.get x (hs 9 Ae Ae Ae) λv b=>b
 .exact h.get g (hs 11 Ae Ae Ae) λv b=>⟨b.1,b.1▸(cm a3).hJ _ _ _ d C.f11⟩
 .exact h.get m (hs 12 Ae Ae Ae) λv b=>b
 .exact h.get t (hs 13 Ae Ae Ae) λv b=>⟨b.1,b.1▸(b6 4 dS (iT V)).hJ _ _ _ d C.f13⟩
 .exact h.get f (hs 14 Ae Ae Ae) λv b=>⟨b.1,b.1▸(b6 4 dS (jx s)).hJ _ _ _ d C.f14⟩
 .exact⟨_,q,Y⟩
 .exact⟨_,j,Y⟩
 .exact h.get u (hs 17 Ae Ae Ae) λv b=>b
 .exact h.get e (hs 18 Ae Ae Ae) λv b=>b
def ayP{a3:List aA}{c c':aA}{V:Int}{s:ByteArray}{n B:Nat}{v W:aO}{bm i:Nat}{nb:Bool}(C:G7 a3 c c' V s n B v kG v13 v14)(hi:i<n)(U:c'.cp[i]?=some nb){lw lb:List Nat}(y_:lw.length<=1000/\lb.length<=1000){a:Act}(M:rE c c' V s B v lw lb W bM bv)(O:af 256 (aK ((20,bL nb)::o6 a3 V s v8 v9 kG v12 v13 v14 bM bv bm i)) a W){ks ks':List Item}{Q:Act->aO->Prop}(kk:∀a' W' pS bv',rE c c' V s B v (lw++[i]) (if yZ c' s i then lb++[i]else lb) W' pS bv'->af 256 (aK ((20,bL nb)::o6 a3 V s v8 v9 kG v12 v13 v14 pS bv' bm i)) a' W'->a'.defers=a.defers->bK (ae prog true) ks ks' Q a' W'):bK (ae prog true) (.code (.seq (.region 16 (aq Tryz.f3 16) false) (.seq (.region 17 (aq Tryz.f3 17) true) (.cond (.tmp 111) (.region 18 (aq Tryz.f3 18) false) .skip)))::ks) ks' Q a W:=by
 have d:=Nat.le_of_eq C.eq;have Z:i<c'.dl.length:=by rw[C.iw.2];exact hi
 have I:yZ c' s i=(!nb&&((c'.dl.getD i bZ.f9).toList==s.toList)):=by simp[yZ,List.getD_eq_getElem?_getD,U]
 refine bq ?_;rw[fI (aq Tryz.f3 16)];refine DQ (m:=3) O (ar Y KJ<|ar Y KJ<|ar Y (rB Y Y)<|rfl) Ae λa1 w1 k d1 b1=>?_;have J:=M.below d b1;refine rn (i:=3) (sv:=15) Xl Y Y Y Y Y Y Y Y Ae k Y Y J.G8 Y As Ae (Nat.le_trans d J.lF.size) λbC w2 pS r1 j h H r E e=>pA (bq ?_);have q:=J.ayI d r1 j h;obtain⟨b0,T,rfl⟩:=k.has 16 _ Y;have K:=jV (pS:=pS) (nb:=nb) C k ⟨Y,Y,Y,Y,Y,Y,Y,Y,Y,Y,Y,PA⟩ E (λs h1 w _=>r s As w) H ((r 16 Ae Ae).trans T) q.lF;have e:=e.trans d1;clear k r r1 j h;rw[fI (aq Tryz.f3 17)];cases nb with|true=>refine pC (m:=17) K (dq Y KJ<|dq Y Mf<|dq Y KJ<|eU Y<|eU Y<|eU Y<|eU Y<|eU Y<|eU Y<|eU Y<|eU Y<|eU Y<|eU Y<|eU Y<|eU Y<|eU Y<|dq Y (kB (F:=bL false) Y Y KS)<|rfl) Y pM AV λo g b l x=>⟨Y,?_⟩;refine g3 (t:=false) (l_ b Y) (lU ?_);refine kk o g _ _ ?_ (b.aU ⟨Y,Y,Y,Y,Y,Y,Y,Y,Y,Y,Y,PA⟩) (l.trans e);rw[I];exact q.below d x|false=>have R:=getD_some Z bZ.f9;refine pC (m:=17) K (dq Y KJ<|dq Y Mf<|dq Y KJ<|cn Y L3<|cn Y KT<|cn Y (dM (i:=3) Y Y KS (C.h3) Ae)<|cn Y Lq<|cn Y KT<|cn Y KJ<|cn Y (dM Y Y Y (R) Ae)<|cn Y Mq<|cn Y L8<|cn Y (dM (i:=1) Y Y KS (Y) Ae)<|cn Y (aso Y Y)<|cn Y Mq<|cn Y (asl Y Y Y)<|dq Y Ky<|rfl) Y pM AV λo g b l x=>⟨Y,?_⟩;have X:=q.below d x;have D:=l_ b Y (s:=111);refine g3 D ?_;cases hq:((c'.dl.getD i bZ.f9).toList==s.toList)with|false=>rw[if_neg Ae];refine lU (kk o g _ _ ?_ (b.aU ⟨Y,Y,Y,Y,Y,Y,Y,Y,Y,Y,Y,PA⟩) (l.trans e));grind|true=>rw[if_pos Y];have b:af 256 (aK ((20,bL false)::o6 a3 V s v8 v9 kG v12 v13 v14 pS b0 bm i)) o g:=b.aU ⟨Y,Y,Y,Y,Y,Y,Y,Y,Y,Y,Y,PA⟩;rw[fI (aq Tryz.f3 18)];refine DQ (m:=3) b (ar Y KJ<|ar Y KJ<|ar Y (rB Y Y)<|rfl) Ae λcC w4 u P bc=>?_;have p:=X.below d bc;refine rn (i:=3) (sv:=16) Xl Y Y Y Y Y Y Y Y Ae u Y Y p.ob Y As Ae (Nat.le_trans d p.lF.size) λN en bv' r1 j h A f z y=>pA ?_;have L:=p.ayJ d r1 j h;obtain⟨w0,S,rfl⟩:=u.has 15 _ Y;refine kk N en _ bv' ?_ (jV (bv':=bv') C u ⟨Y,Y,Y,Y,Y,Y,Y,Y,Y,Y,Y,PA⟩ z (λs h1 _ w=>f s As w) ((f 15 Ae Ae).trans S) A L.lF) (y.trans (P.trans (l.trans e)));grind
def ayX{a3:List aA}{c c':aA}{V:Int}{s:ByteArray}{n B:Nat}{l:aO}(C:G7 a3 c c' V s n B l kG v13 v14){ks ks':List Item}{Q:Act->aO->Prop}(kk:∀a' W' bM bv,rE c c' V s B l (lg c V n) (ke c c' V s n) W' bM bv->af 256 (aK (o6 a3 V s v8 v9 kG v12 v13 v14 bM bv (lh c n) n)) a' W'->a'.defers=[]->bK (ae prog true) ks ks' Q a' W'):
 ∀m i a W bM bv,i+m=n->rE c c' V s B l (lg c V i) (ke c c' V s i) W bM bv->af 256 (aK (o6 a3 V s v8 v9 kG v12 v13 v14 bM bv (lh c i) i)) a W->a.defers=[]->bK (ae prog true) (.code (G6 Tryz.f3):: .inLoop (G6 Tryz.f3):: .inBlock 0::ks) ks' Q a W:=by
 have b:=Nat.le_of_eq C.eq;intro m;induction m with
 |zero=>intro i a W bM bv hi x z hd;obtain rfl:i=n:=As;have g:¬((i:Nat):Int)<((i:Nat):Int):=As;unfold G6;refine bq (bq ?_);rw[fI (aq Tryz.f3 9)];refine di z (ar Y KJ<|ar Y (Pm Y Y)<|ar Y (Em Y Y C.h0 C.hn)<|ar Y (DL Y Y Y Ae g)<|rfl) λa1 w1 f d1 b1=>?_;exact g3 (t:=false) (l_ f Y) (Cc (wa:=ks) Hz (kk a1 w1 bM bv (x.below b b1) (f.aU ⟨Y,Y,Y,Y,Y,Y,Y,Y,Y,Y,PA⟩) (d1.trans hd)))
 |succ m Z=>
  intro i a W bM bv SS x z hd;have hi:i<n:=As;have hle:=C.le;have g:(i:Int)<(n:Int):=As;have K:=getD_some (show i<c.cp.length by rw[C.l1.1];exact hi) false;have Zw:=getD_some (show i<c.fg.length by rw[C.l1.2];exact hi) 0;have N:=getD_some (show i<c'.cp.length by rw[C.iw.1];exact hi) false;have hl:=om c c' V s i;have Yy:((lh c i:Nat):Int)+1=((lh c i+1:Nat):Int):=As;unfold G6;refine bq (bq ?_);rw[fI (aq Tryz.f3 9)];refine di z (ar Y KJ<|ar Y (Pm Y Y)<|ar Y (Em Y Y C.h0 C.hn)<|ar Y (Jz Y Y Y Ae g)<|rfl) λa1 w1 f d1 b1=>?_;have AG:=x.below b b1;refine g3 (t:=true) (l_ f Y) (lU (bq (oM (bq ?_))));have f:af 256 (aK (o6 a3 V s v8 v9 kG v12 v13 v14 bM bv (lh c i) i)) a1 w1:=f.aU ⟨Y,Y,Y,Y,Y,Y,Y,Y,Y,Y,PA⟩;rw[fI (aq Tryz.f3 11)];refine di f (ar Y L3<|ar Y KT<|ar Y (dM (i:=1) Y Y KS (C.h1) Ae)<|ar Y LM<|ar Y KT<|ar Y KJ<|ar Y (dM Y Y Y (K) Ae)<|ar Y Lf<|ar Y KY<|rfl) λbC S v d2 b2=>bq ?_;have T:=AG.below b b2;have v:af 256 (aK ((19,bL (c.cp.getD i false))::o6 a3 V s v8 v9 kG v12 v13 v14 bM bv (lh c i) i)) bC S:=v.aU ⟨Y,Y,Y,Y,Y,Y,Y,Y,Y,Y,Y,PA⟩;rw[fI (aq Tryz.f3 12)];refine di v (ar Y L3<|ar Y KT<|ar Y (dM (i:=3) Y Y KS (C.h3) Ae)<|ar Y LM<|ar Y KT<|ar Y KJ<|ar Y (dM Y Y Y (N) Ae)<|ar Y Lf<|ar Y KY<|rfl) λM R u E b8=>bq (bq ?_);have KA:=T.below b b8;have E:M.defers=[]:=E.trans (d2.trans (d1.trans hd));have u:af 256 (aK ((19,bL (c.cp.getD i false))::(20,bL (c'.cp.getD i false))::o6 a3 V s v8 v9 kG v12 v13 v14 bM bv (lh c i) i)) M R:=u.aU ⟨Y,Y,Y,Y,Y,Y,Y,Y,Y,Y,Y,Y,PA⟩;rw[fI (aq Tryz.f3 13)];refine di u (ar Y KJ<|rfl) λcC P d k bc=>?_;have L:=KA.below b bc;have k:=k.trans E;refine g3 (l_ d Y) ?_;have d:af 256 (aK ((19,bL (c.cp.getD i false))::(20,bL (c'.cp.getD i false))::o6 a3 V s v8 v9 kG v12 v13 v14 bM bv (lh c i) i)) cC P:=d.aU ⟨Y,Y,Y,Y,Y,Y,Y,Y,Y,Y,Y,Y,PA⟩;have eI:∀a' W' pS bv',rE c c' V s B l (lg c V (i+1)) (ke c c' V s (i+1)) W' pS bv'->af 256 (aK ((20,bL (c'.cp.getD i false))::o6 a3 V s v8 v9 kG v12 v13 v14 pS bv' (lh c (i+1)) i)) a' W'->a'.defers=[]->bK (ae prog true) (.inBlock 1:: .code (.region 10 (aq Tryz.f3 10) false):: .inLoop (G6 Tryz.f3):: .inBlock 0::ks) ks' Q a' W':=by intro a' W' pS bv' I k' d';refine xF ?_;rw[fI (aq Tryz.f3 10)];refine di k' (ar Y KJ<|ar Y (uX Y Y KS (C.ku _ As) Ae)<|ar Y KY<|rfl) λy en j D br=>Cb ?_;have e:((i:Int)+1)=((i+1:Nat):Int):=As;rw[e]at j;exact Z (i+1) y en pS bv' As (I.below b br) (j.aU ⟨Y,Y,Y,Y,Y,Y,Y,Y,Y,Y,PA⟩) (D.trans d')
  cases hn:c.cp.getD i false with
  |true=>
   rw[hn]at d;rw[if_pos Y,fI (aq Tryz.f3 14)];refine di d (ar Y KJ<|ar Y (uX Y Y KS (C.ku _ As) Ae)<|ar Y KY<|rfl) λy en j D br=>bq ?_;have O:=L.below b br;rw[Yy]at j;have j:af 256 (aK ((19,bL true)::(20,bL (c'.cp.getD i false))::o6 a3 V s v8 v9 kG v12 v13 v14 bM bv (lh c i+1) i)) y en:=j.aU ⟨Y,Y,Y,Y,Y,Y,Y,Y,Y,Y,Y,Y,PA⟩;rw[fI (aq Tryz.f3 15)];refine pC (m:=17) j (dq Y KJ<|dq Y Mf<|dq Y KJ<|eU Y<|eU Y<|eU Y<|eU Y<|eU Y<|eU Y<|eU Y<|eU Y<|eU Y<|eU Y<|eU Y<|eU Y<|eU Y<|dq Y (kB (F:=bL false) Y Y KS)<|rfl) Y pM AV λo q h r A=>⟨Y,?_⟩;have p:pR c V i=false:=by grind[pR]
   refine g3 (t:=false) (l_ h Y) (lU (eI o q bM bv ?_ ?_ (r.trans (D.trans k))))
   .rw[VU,VV,p];exact O.below b A
   .rw[ri,hn,if_pos Y];exact h.aU ⟨Y,Y,Y,Y,Y,Y,Y,Y,Y,Y,Y,PA⟩
  |false=>
   rw[hn]at d;rw[if_neg Ae];refine lU (bq ?_);have NO:lh c (i+1)=lh c i:=by rw[ri,hn,if_neg Ae]
   have p:pR c V i=decide (c.fg.getD i 0<V):=by grind[pR]
   rw[fI (aq Tryz.f3 15)];refine pC (m:=17) d (dq Y KJ<|dq Y Mf<|dq Y KJ<|cn Y L3<|cn Y KT<|cn Y (dM (i:=1) Y Y KS (C.h1) Ae)<|cn Y Lt<|cn Y KT<|cn Y KJ<|cn Y (dM Y Y Y (Zw) Ae)<|cn Y Kf<|cn Y L8<|cn Y (dM (i:=1) Y Y KS (Y) Ae)<|cn Y (asn Y Y)<|cn Y Kf<|cn Y (Jx Y Y Y Ae)<|dq Y Ky<|rfl) Y pM AV λo q h r A=>⟨Y,?_⟩;have H:=L.below b A;have J:=l_ h Y (s:=90);have h:af 256 (aK ((20,bL (c'.cp.getD i false))::o6 a3 V s v8 v9 kG v12 v13 v14 bM bv (lh c i) i)) o q:=h.aU ⟨Y,Y,Y,Y,Y,Y,Y,Y,Y,Y,Y,PA⟩;refine g3 J ?_;by_cases w:c.fg.getD i 0<V
   .rw[decide_eq_true w]at p;rw[if_pos (decide_eq_true w)];refine ayP C hi N As H h λX U pS bv' aGI l6 d7=>eI X U pS bv' ?_ ?_ (d7.trans (r.trans k))
    .grind[VU,VV]
    grind
   .rw[decide_eq_false w]at p;rw[if_neg AA];refine lU (eI o q bM bv ?_ ?_ (r.trans k))
    .grind[VU,VV]
    grind
def En(F:Func):Code:=.seq (.region 37 (aq F 37) true) .ret
def Eo(F:Func):Code:=.seq (.region 36 (aq F 36) true) (En F)
def jI(F:Func):Code:=.seq (.region 35 (aq F 35) true) (Eo F)
def Ep(F:Func):Code:=.seq (.region 32 (aq F 32) true) (.seq (.region 33 (aq F 33) true) (.seq (.region 34 (aq F 34) true) (jI F)))
def jF(F:Func):Code:=.seq (.region 31 (aq F 31) true) (Ep F)
def AH(F:Func):Code:=.seq (.region 24 (aq F 24) true) (.seq (.seq (.region 25 (aq F 25) false) (.cond (.tmp 159) (.seq (.region 26 (aq F 26) false) .ret) .skip)) (.seq (.region 27 (aq F 27) false) (.seq (.region 28 (aq F 28) false) (.seq (.region 29 (aq F 29) false) (.seq (.region 30 (aq F 30) false) (jF F))))))
def jE(F:Func):Code:=.seq (.region 23 (aq F 23) true) (AH F)
def Er(F:Func):Code:=.seq (.region 20 (aq F 20) true) (.seq (.seq (.region 21 (aq F 21) false) (.cond (.tmp 136) (.seq (.region 22 (aq F 22) false) .ret) .skip)) (jE F))
def jz(F:Func):Code:=.seq (.region 19 (aq F 19) true) (Er F)
def vh(F:Func):Code:=.seq (.region 2 (aq F 2) false) (.seq (.region 3 (aq F 3) false) (.seq (.region 4 (aq F 4) false) (.seq (.region 5 (aq F 5) false) (.seq (.region 6 (aq F 6) false) (.seq (.region 7 (aq F 7) false) (.seq (.seq (.region 8 (aq F 8) false) (.block 0 (.loop (G6 F)))) (jz F)))))))
theorem ay1:Tryz.f3.body=some (.seq (.region 0 (aq Tryz.f3 0) false) (.seq (.region 1 (aq Tryz.f3 1) false) (vh Tryz.f3))):=by kernel_rfl
def jg{W:aO}{B:Nat}{l:List Nat}{T:TypeId}(h:W.ownsRow B T 1 v l.length (rD l)):(b6 1 j9 (iU l)).R W v:=by
 have a:l.length=(rD l).length:=by simp[rD]
 have b:W.ownsRow B T 1 v (rD l).length (rD l):=a▸h;refine xB (R:=tD) b (by simp[iU,rD]) λi hi rd h0=>?_;simp only[rD,iU,List.getElem_map]at h0⊢;exact h0
def g6(a3:List aA)(c c':aA)(V:Int)(s:ByteArray)(n:Nat)(x y x' y':Int):List (Nat×bp):=[(8,kF x y),(9,kF x' y'),(11,cm a3),(12,yN a3),(13,b6 4 dS (iT V)),(14,b6 4 dS (jx s)),(15,b6 1 j9 (iU (lg c V n))),(16,b6 1 j9 (iU (ke c c' V s n))),(17,bt (lh c n))]
def jc{m:Nat}(a3:List aA)(c c':aA)(V:Int)(s:ByteArray)(n:Nat)(x y x' y':Int):∀q F,aK (g6 a3 c c' V s n x y x' y') q=some F->F.ok m:=fj ⟨PA,PA,PA,PA,PA,PA,PA,PA,PA,PA⟩
def ay2{a3:List aA}{c c':aA}{n:Nat}{e wd:Int}(qJ:cD e)(E:cD wd)(h0:0<a3.length)(hn:a3[0].cp.length=n)(h1:a3[1]?=some c)(h3:a3[3]?=some c')(l1:c.cp.length=n/\c.fg.length=n)(iw:c'.cp.length=n/\c'.dl.length=n)(le:n<=1000)(x y x' y':Int)(a:Act)(w:aO)(hd:a.defers=[])(hk:af 256 (aK [(1,bt e),(2,bt wd),(8,kF x y),(9,kF x' y'),(33,la a3)]) a w):
 bK (ae prog true) [.inRegion (aq Tryz.f3 1) [2,3],.code (vh Tryz.f3)] [.code (.region 19 (aq Tryz.f3 19) true),.code (Er Tryz.f3)] (λa1 w1=>a1.defers=[]/\af 256 (aK (g6 a3 c c' (j8 e 2001-1000) (jv wd) n x y x' y')) a1 w1/\Below w.heap.size w w1) a w:=by
 have LO:=su e (n:=2001) As;have Q:cD (j8 e 2001-1000):=DO;have hsz:∀t∈[tm 1 3,⟨4,0,0,jv wd⟩,tm 9 0],t.s.size<=100:=by
  have:=D7 wd;intro t ht;simp[tm]at ht;rcases ht with rfl|rfl|rfl
  .decide
  .grind
  .decide
 rw[fI (aq Tryz.f3 1)];refine Ce (axR (i:=2) Y Y Y Y Y hk Y Y Y Y Ae Ae λa1 w1 D d1 b1=>pA ?_);have D:af 256 (aK [(1,bt e),(2,bt wd),(8,kF x y),(9,kF x' y'),(11,cm a3)]) a1 w1:=D.aU ⟨Y,Y,Y,Y,Y,PA⟩;unfold vh;refine bq ?_;rw[fI (aq Tryz.f3 2)];refine di D (ar Y L9<|ar Y (ayE Y Y)<|ar Y KY<|rfl) λbC X B d2 M=>bq ?_;have B:af 256 (aK [(1,bt e),(2,bt wd),(8,kF x y),(9,kF x' y'),(11,cm a3),(12,yN a3)]) bC X:=B.aU ⟨Y,Y,Y,Y,Y,Y,PA⟩;rw[fI (aq Tryz.f3 3)];refine di B (ar Y (rN Y KS)<|ar Y KJ<|ar Y (Vf Y Y KS qJ Ae)<|ar Y (Uk Y Y KS Q Ae)<|ar Y (ayC Y KS Y)<|ar Y M6<|ar Y (rJ Y Y Y Y IX)<|ar Y KY<|rfl) λbX W A d3 L=>bq ?_;have A:af 256 (aK [(2,bt wd),(8,kF x y),(9,kF x' y'),(11,cm a3),(12,yN a3),(13,b6 4 dS (iT (j8 e 2001-1000)))]) bX W:=A.aU ⟨Y,Y,Y,Y,Y,Y,PA⟩;rw[fI (aq Tryz.f3 4)];refine di A (ar Y (rN Y KS)<|ar Y KJ<|ar Y (ayA Y Y E)<|ar Y (ayD Y KS Y)<|ar Y M6<|ar Y (rJ Y Y Y Y hsz)<|ar Y KY<|rfl) λcC V z d4 bc=>bq ?_;have z:af 256 (aK [(8,kF x y),(9,kF x' y'),(11,cm a3),(12,yN a3),(13,b6 4 dS (iT (j8 e 2001-1000))),(14,b6 4 dS (jx (jv wd)))]) cC V:=z.aU ⟨Y,Y,Y,Y,Y,Y,PA⟩;rw[fI (aq Tryz.f3 5)];refine di z (ar Y (dv (F:=de (.slice none 0 0)) Y KS)<|rfl) λdL en dw d5 br=>bq ?_;rw[fI (aq Tryz.f3 6)];refine di dw (ar Y (dv (F:=de (.slice none 0 0)) Y KS)<|rfl) λio gS fH d6 K=>bq ?_;rw[fI (aq Tryz.f3 7)];refine di fH (ar Y (dv (F:=bt 0) Y KS)<|rfl) λlB qf l6 d7 cI=>bq (bq ?_);rw[fI (aq Tryz.f3 8)];refine di l6 (ar Y (dv (F:=bt 0) Y KS)<|rfl) λr l d H J=>oM (Ca ?_);have H:r.defers=[]:=H.trans (d7.trans (d6.trans (d5.trans (d4.trans (d3.trans (d2.trans (d1.trans hd)))))));have s1:=b1.size;have s:=b1.trans (M.mono b1.size);have u:=s.trans (L.mono s.size);have q:=u.trans (bc.mono u.size);have o:=q.trans (br.mono q.size);have m:=o.trans (K.mono o.size);have I:=m.trans (cI.mono m.size);have k:=I.trans (J.mono I.size);clear b1 M L bc br K cI J s u q o m I;obtain⟨v8,R,Z⟩:=d.has 8 _ Y;obtain⟨v9,U,GK⟩:=d.has 9 _ Y;obtain⟨v11,S,P⟩:=d.has 11 _ Y;obtain⟨v12,Pq,VW⟩:=d.has 12 _ Y;obtain⟨v13,Pr,O⟩:=d.has 13 _ Y;obtain⟨v14,Ps,N⟩:=d.has 14 _ Y;have C:G7 a3 c c' (j8 e 2001-1000) (jv wd) n l.heap.size l v11 v13 v14:=⟨Y,P,O,N,h0,hn,h1,h3,l1,iw,le⟩;have T:af 256 (aK (o6 a3 (j8 e 2001-1000) (jv wd) v8 v9 v11 v12 v13 v14 (.slice none 0 0) (.slice none 0 0) (lh c 0) 0)) r l:=af.of d.size λp j=>by
  simp[o6]at j;rcases j with rfl|rfl|rfl|rfl|rfl|rfl|rfl|rfl|rfl|rfl
  .exact⟨v8,R,Y⟩
  .exact⟨v9,U,Y⟩
  .exact⟨v11,S,Y,P⟩
  .exact⟨v12,Pq,Y⟩
  .exact⟨v13,Pr,Y,O⟩
  .exact⟨v14,Ps,Y,N⟩
  .exact d.get Y Y λv b=>b
  .exact d.get Y Y λv b=>b
  .exact d.get Y Y λv b=>b
  .exact d.get Y Y λv b=>b
 refine ayX C (λKt Ku bM bv h f d9=>?_) n 0 r l _ _ (Nat.zero_add _) ⟨Below.refl _ _,World.ownsRow_nil _ _ _ _,World.ownsRow_nil _ _ _ _,λg hg=>by cases hg⟩ T H;unfold jz;refine bq (j1 ⟨d9,af.of f.size λp j=>?_,k.trans (h.lF.mono k.size)⟩);simp[g6]at j;rcases j with rfl|rfl|rfl|rfl|rfl|rfl|rfl|rfl|rfl
 .exact f.get Y Y λv b=>b▸(kF x y).hJ _ _ _ h.lF Z
 .exact f.get Y Y λv b=>b▸(kF x' y').hJ _ _ _ h.lF GK
 .exact f.get Y Y λv b=>b.2
 .exact f.get Y Y λv b=>b▸(yN a3).hJ _ _ _ h.lF VW
 .exact f.get Y Y λv b=>b.2
 .exact f.get Y Y λv b=>b.2
 .exact f.get Y Y λv b=>b▸jg h.G8
 .exact f.get Y Y λv b=>b▸jg h.ob
 .exact f.get Y Y λv b=>b
variable{Shun:Loc->Prop}{v32:Option Value}
section
open kZ
variable{O:gW}
def ay3:hX prog true Tryz.f3=true:=by decide+kernel
def Es:kY prog 3:=FQ func3 ay3 Y
def iV(v0 v32:Option Value)(n:Nat):fc:=⟨λi=>i==0||i==32,λi=>i==0||i==32,λi=>if i=0 then v0 else v32,λ_=>false,n⟩
def VX(v0 v32:Option Value)(n:Nat){l:List Item}(h:l.all (gX (iV none none 0))=true):l.all (gX (iV v0 v32 n))=true:=(wj (D:=iV v0 v32 n) (D':=iV none none 0) Y Y Y l).trans h
def VY(v0 v32:Option Value)(n:Nat):zY prog (iV v0 v32 n) 3:=by
 refine⟨⟨_,func3,?_⟩,λt h=>?_,Br⟩
 .rw[results3];simp[B5,iV]
 .cases h
def KG(v0 v32:Option Value){ops:Array Oper}{k:List Item}(h1:ops.all (sf (iV none none 0) ops)=true)(a:k.all (gX (iV none none 0))=true):J6 prog 3 ops k (iV v0 v32):=
 ⟨λ_=>Y,VY v0 v32,λn=>by rw[Vh (D:=iV v0 v32 n) (D':=iV none none 0) Y Y Y];exact h1,λn=>VX v0 v32 n a,λn i h=>h,follows,λ_ _ _=>⟨Y,Y,Y⟩⟩
def KH(v0 v32:Option Value)(n:Nat){o:Oper}(h:kZ.hR (iV none none 0) o=true):kZ.hR (iV v0 v32 n) o=true:=h
def KI{Post:Value->aO->Prop}{N:Nat}{e:bJ}{a:Act}{M:Nat->Prop}{w:aO}(hk:af N e a w)(h:aS (cq M) a.tmps a.tmps){d c b:Nat}{x y:Int}{a3:List aA}{fs:List (List bI)}{S:Nat}{rs:List bB}(t:e d=some (OH x y))(s:e c=some (yN a3))(r:e b=some (JR fs))(F:tt a3 fs S rs)(n:cD x)(m:cD y):jN O prog Post 10 (#[Operand.tmp d,.tmp c,.tmp b].map a.eval) M w (fs.length+1) (λu _ w'=>(yO (l9 a3 rs)).R w' u/\ea M w w'):=by
 obtain⟨u1,v,r1⟩:=hk.has d _ t;obtain⟨u2,i,k⟩:=hk.has c _ s;obtain⟨u3,f,j⟩:=hk.has b _ r;cases r1;have o:(#[Operand.tmp d,.tmp c,.tmp b].map a.eval)=#[.agg #[.int .i64 x,.int .i64 y],u2,u3]:=by grind[eb]
 rw[o];refine avr (jR:=yN a3) (jS:=JR fs) (λ_=>trivial) (λ_=>trivial) n m (mQ (l:=[u2,u3]) λz g=>?_) k j (λW A h1 q h3 p=>au4 F h1 q h3 p);simp at g;rcases g with rfl|rfl
 .exact h.get _ _ _ i i
 .exact h.get _ _ _ f f
def ay4{Post:Value->aO->Prop}{n:Nat}{aX M:Nat->Prop}{w0 w:aO}{a b l:Act}{v0:Option Value}{cs:List Frame}{a3:List aA}{c c':aA}{V:Int}{s:ByteArray}{bm:Nat}{x y x' y':Int}{S:Nat}{rs:List bB}(D:fp (iV v0 v32 cs.length) a b)(p:wK O prog 256 (aK (g6 a3 c c' V s bm x y x' y')) aX w0 l)(H:Held O prog aX w0 w0.heap.size a M w Shun)(r:n8 (aK (g6 a3 c c' V s bm x y x' y')) l a)(o:tt a3 [iT V] S rs)(C:cD x)(A:cD y)(hn:n+32<=200)(hsz:a.tmps.size=256)(m:∀a' k M' w' g i,g<=n+32->Held O prog aX w0 w0.heap.size a' M' w' i->fp (iV v0 v32 cs.length) a' k->n8 (aK (g6 a3 c c' V s bm x y x' y')) l a'->af 256 (aK (g6 a3 c c' V s bm x y x' y')) a' w'->(∃v,a'.tmps[21]?=some v/\sA w0.heap.size (l9 a3 rs) w' v)->a'.tmps[22]?=some (.bool true)->bS prog Post g i 0 (aZ ((base 3).at k [.inRegion (aq Tryz.f3 19) [],.code (Er Tryz.f3)]) cs) w'):
 bS prog Post n Shun 0 (aZ ((base 3).at b [.code (.region 19 (aq Tryz.f3 19) true),.code (Er Tryz.f3)]) cs) w:=by
 rw[fI (aq Tryz.f3 19)]at m⊢;refine Kp (S:=⟨6,λj=>j==9||j==12,λj=>decide (6<j),[(11,28,21)]⟩) (L:=aK []) (d:=2) (eu:=yO (l9 a3 rs)) l3 mixed Es (KG v0 v32 AV AV) AV p (fj trivial) AV Y Y Y Y func10 BA Y Y (λn=>KH v0 v32 n AV) hn Y (aG.hq Y (Km Y Y)<|aG.hq Y KJ<|aG.hq Y Mw<|aG.hq Y KJ<|aG.hq Y Ll<|aG.hq Y (Pl Y Y Y)<|aG.hg Y (λa M w hk I=>KI hk I Y Y Y o C A)<|aG.hk (B:=kE) Y KJ (λ_=>JV) Ae<|aG.hk (B:=kE) Y (Kn Y Y) (λ_=>GA) Ae<|aG.hk (B:=kE) Y (Ko Y Y) K_ Ae<|aG.hn (F:=jQ w0.heap.size 28 1) Y Lj (hs:=λ_ _ _ _=>Ap)<|aG.hst Y (GJ Y Y Y) (hs:=λ_=>JA Y)<|aG.hk (B:=kE) Y KY K_ Ae<|rfl) D H r ⟨hsz,λs F e=>Dv⟩ ?_;intro a' k M' w' g i hKn f u E q t;obtain⟨v,z,rfl⟩:=f.has 22 (bL true) Y;exact m a' k M' w' g i u E q t hKn (f.has 21 _ Y) z
def ay5{Post:Value->aO->Prop}{n:Nat}{aX M:Nat->Prop}{w0 w:aO}{a b l:Act}{v0:Option Value}{cs:List Frame}{a3:List aA}{c c':aA}{V:Int}{s:ByteArray}{bm:Nat}{x y x' y':Int}{t1:List aA}{S:Nat}{rs:List bB}(D:fp (iV v0 v32 cs.length) a b)(p:wK O prog 256 (aK ((21,cm t1)::g6 a3 c c' V s bm x y x' y')) aX w0 l)(H:Held O prog aX w0 w0.heap.size a M w Shun)(r:n8 (aK ((21,cm t1)::g6 a3 c c' V s bm x y x' y')) l a)(o:tt a3 [iT V,jx s] S rs)(C:cD x')(A:cD y')(hn:n+48<=200)(hsz:a.tmps.size=256)(m:∀a' k M' w' g i,g<=n+48->Held O prog aX w0 w0.heap.size a' M' w' i->fp (iV v0 v32 cs.length) a' k->n8 (aK ((21,cm t1)::g6 a3 c c' V s bm x y x' y')) l a'->af 256 (aK ((21,cm t1)::g6 a3 c c' V s bm x y x' y')) a' w'->(∃v,a'.tmps[24]?=some v/\sA w0.heap.size (l9 a3 rs) w' v)->a'.tmps[22]?=some (.bool true)->bS prog Post g i 0 (aZ ((base 3).at k [.inRegion (aq Tryz.f3 23) [],.code (AH Tryz.f3)]) cs) w'):
 bS prog Post n Shun 0 (aZ ((base 3).at b [.code (.region 23 (aq Tryz.f3 23) true),.code (AH Tryz.f3)]) cs) w:=by
 rw[fI (aq Tryz.f3 23)]at m⊢;refine Kp (S:=⟨8,λj=>j==11||j==14,λj=>decide (8<j),[(13,28,24)]⟩) (L:=aK []) (d:=3) (eu:=yO (l9 a3 rs)) l3 mixed Es (KG v0 v32 AV AV) AV p (fj trivial) AV Y Y Y Y func10 BA Y Y (λn=>KH v0 v32 n AV) hn Y (aG.hq Y (Km Y Y)<|aG.hq Y KJ<|aG.hq Y Mw<|aG.hq Y KJ<|aG.hq Y Ll<|aG.hq Y KJ<|aG.hq Y Ll<|aG.hq Y (ayF Y Y Y Y)<|aG.hg Y (λa M w hk I=>KI hk I Y Y Y o C A)<|aG.hk (B:=kE) Y KJ (λ_=>JV) Ae<|aG.hk (B:=kE) Y (Kn Y Y) (λ_=>GA) Ae<|aG.hk (B:=kE) Y (Ko Y Y) K_ Ae<|aG.hn (F:=jQ w0.heap.size 28 1) Y Lj (hs:=λ_ _ _ _=>Ap)<|aG.hst Y (GJ Y Y Y) (hs:=λ_=>JA Y)<|aG.hk (B:=kE) Y KY K_ Ae<|rfl) D H r ⟨hsz,λs F e=>Dv⟩ ?_;intro a' k M' w' g i hKn f u E q t;obtain⟨v,z,rfl⟩:=f.has 22 (bL true) Y;exact m a' k M' w' g i u E q t hKn (f.has 24 _ Y) z
def ay6{Post:Value->aO->Prop}{n:Nat}{aX M:Nat->Prop}{w0 w:aO}{a b k:Act}{v0:Option Value}{cs:List Frame}{a3:List aA}{c c':aA}{V:Int}{s:ByteArray}{bm:Nat}{x y x' y':Int}{t1:List aA}{S:Nat}{rs:List bB}(C:fp (iV v0 v32 cs.length) a b)(p:wK O prog 256 (aK ((21,cm t1)::g6 a3 c c' V s bm x y x' y')) aX w0 k)(H:Held O prog aX w0 w0.heap.size a M w Shun)(q:n8 (aK ((21,cm t1)::g6 a3 c c' V s bm x y x' y')) k a)(m:tt a3 [mA V s] S rs)(A:cD x)(z:cD y)(hn:n+32<=200)(J:∃v,a.tmps[24]?=some v/\Am w0.heap.size 28 1 w v)(K:af 256 (aK [(25,b6 4 dS (mA V s))]) a w)(l:∀a' i M' w' f g,f<=n+32->Held O prog aX w0 w0.heap.size a' M' w' g->fp (iV v0 v32 cs.length) a' i->n8 (aK ((21,cm t1)::g6 a3 c c' V s bm x y x' y')) k a'->af 256 (aK ((21,cm t1)::g6 a3 c c' V s bm x y x' y')) a' w'->(∃v,a'.tmps[24]?=some v/\sA w0.heap.size (l9 a3 rs) w' v)->a'.tmps[22]?=some (.bool true)->bS prog Post f g 0 (aZ ((base 3).at i [.inRegion (aq Tryz.f3 31) [],.code (Ep Tryz.f3)]) cs) w'):
 bS prog Post n Shun 0 (aZ ((base 3).at b [.code (.region 31 (aq Tryz.f3 31) true),.code (Ep Tryz.f3)]) cs) w:=by
 rw[fI (aq Tryz.f3 31)]at l⊢;refine Kp (S:=⟨6,λj=>j==9||j==11,λj=>decide (6<j),[(10,28,24)]⟩) (L:=aK [(24,jQ w0.heap.size 28 1),(25,b6 4 dS (mA V s))]) (d:=2) (eu:=yO (l9 a3 rs)) l3 mixed Es (KG v0 v32 AV AV) AV p (fj ⟨Y,PA,PA⟩) AV Y Y Y Y func10 BA Y Y (λn=>KH v0 v32 n AV) hn Y (aG.hq Y (Km Y Y)<|aG.hq Y KJ<|aG.hq Y Mw<|aG.hq Y KJ<|aG.hq Y Ll<|aG.hq Y (Pl Y Y Y)<|aG.hg Y (λa M w hk I=>KI hk I Y Y Y m A z)<|aG.hk (B:=kE) Y KJ (λ_=>JV) Ae<|aG.hk (B:=kE) Y (Kn Y Y) (λ_=>GA) Ae<|aG.hk (B:=kE) Y (Ko Y Y) K_ Ae<|aG.hst Y (GJ Y Y Y) (hs:=λ_=>JA Y)<|aG.hk (B:=kE) Y KY K_ Ae<|rfl) C H q (by obtain⟨v,F,E⟩:=J;exact ff F E K) ?_;intro a' i M' w' f g hKn e t D o r;obtain⟨v,u,rfl⟩:=e.has 22 (bL true) Y;exact l a' i M' w' f g t D o r hKn (e.has 24 _ Y) u
def ay7{Post:Value->aO->Prop}{n:Nat}{aX M:Nat->Prop}{w0 w:aO}{a b l:Act}{v0:Option Value}{cs:List Frame}{a3:List aA}{c c':aA}{V:Int}{s:ByteArray}{bm:Nat}{x y x' y':Int}{t1:List aA}{S:Nat}{rs:List bB}(D:fp (iV v0 v32 cs.length) a b)(p:wK O prog 256 (aK ((21,cm t1)::(22,bL true)::(23,bL true)::(26,b6 4 dS (pO V))::(27,b6 4 dS (m2 V))::g6 a3 c c' V s bm x y x' y')) aX w0 l)(H:Held O prog aX w0 w0.heap.size a M w Shun)(r:n8 (aK ((21,cm t1)::(22,bL true)::(23,bL true)::(26,b6 4 dS (pO V))::(27,b6 4 dS (m2 V))::g6 a3 c c' V s bm x y x' y')) l a)(o:tt a3 [pO V] S rs)(C:cD x')(A:cD y')(hn:n+32<=200)(hsz:a.tmps.size=256)(m:∀a' k M' w' g i,g<=n+32->Held O prog aX w0 w0.heap.size a' M' w' i->fp (iV v0 v32 cs.length) a' k->n8 (aK ((21,cm t1)::(22,bL true)::(23,bL true)::(26,b6 4 dS (pO V))::(27,b6 4 dS (m2 V))::g6 a3 c c' V s bm x y x' y')) l a'->af 256 (aK ((21,cm t1)::(22,bL true)::(23,bL true)::(26,b6 4 dS (pO V))::(27,b6 4 dS (m2 V))::g6 a3 c c' V s bm x y x' y')) a' w'->(∃v,a'.tmps[28]?=some v/\sA w0.heap.size (l9 a3 rs) w' v)->a'.tmps[29]?=some (.bool true)->bS prog Post g i 0 (aZ ((base 3).at k [.inRegion (aq Tryz.f3 35) [],.code (Eo Tryz.f3)]) cs) w'):
 bS prog Post n Shun 0 (aZ ((base 3).at b [.code (.region 35 (aq Tryz.f3 35) true),.code (Eo Tryz.f3)]) cs) w:=by
 rw[fI (aq Tryz.f3 35)]at m⊢;refine Kp (S:=⟨6,λj=>j==9||j==12,λj=>decide (6<j),[(11,28,28)]⟩) (L:=aK []) (d:=2) (eu:=yO (l9 a3 rs)) l3 mixed Es (KG v0 v32 AV AV) AV p (fj trivial) AV Y Y Y Y func10 BA Y Y (λn=>KH v0 v32 n AV) hn Y (aG.hq Y (Km Y Y)<|aG.hq Y KJ<|aG.hq Y Mw<|aG.hq Y KJ<|aG.hq Y Ll<|aG.hq Y (Pl Y Y Y)<|aG.hg Y (λa M w hk I=>KI hk I Y Y Y o C A)<|aG.hk (B:=kE) Y KJ (λ_=>JV) Ae<|aG.hk (B:=kE) Y (Kn Y Y) (λ_=>GA) Ae<|aG.hk (B:=kE) Y (Ko Y Y) K_ Ae<|aG.hn (F:=jQ w0.heap.size 28 1) Y Lj (hs:=λ_ _ _ _=>Ap)<|aG.hst Y (GJ Y Y Y) (hs:=λ_=>JA Y)<|aG.hk (B:=kE) Y KY K_ Ae<|rfl) D H r ⟨hsz,λs F e=>Dv⟩ ?_;intro a' k M' w' g i hKn f u E q t;obtain⟨v,z,rfl⟩:=f.has 29 (bL true) Y;exact m a' k M' w' g i u E q t hKn (f.has 28 _ Y) z
def ay8{Post:Value->aO->Prop}{n:Nat}{aX M:Nat->Prop}{w0 w:aO}{a b l:Act}{v0:Option Value}{cs:List Frame}{a3:List aA}{c c':aA}{V:Int}{s:ByteArray}{bm:Nat}{x y x' y':Int}{t1:List aA}{t2:List aA}{S:Nat}{rs:List bB}(D:fp (iV v0 v32 cs.length) a b)(p:wK O prog 256 (aK ((28,cm t2)::(29,bL true)::(21,cm t1)::(22,bL true)::(23,bL true)::(27,b6 4 dS (m2 V))::g6 a3 c c' V s bm x y x' y')) aX w0 l)(H:Held O prog aX w0 w0.heap.size a M w Shun)(r:n8 (aK ((28,cm t2)::(29,bL true)::(21,cm t1)::(22,bL true)::(23,bL true)::(27,b6 4 dS (m2 V))::g6 a3 c c' V s bm x y x' y')) l a)(o:tt a3 [m2 V] S rs)(C:cD x')(A:cD y')(hn:n+32<=200)(hsz:a.tmps.size=256)(m:∀a' k M' w' g i,g<=n+32->Held O prog aX w0 w0.heap.size a' M' w' i->fp (iV v0 v32 cs.length) a' k->n8 (aK ((28,cm t2)::(29,bL true)::(21,cm t1)::(22,bL true)::(23,bL true)::(27,b6 4 dS (m2 V))::g6 a3 c c' V s bm x y x' y')) l a'->af 256 (aK ((28,cm t2)::(29,bL true)::(21,cm t1)::(22,bL true)::(23,bL true)::(27,b6 4 dS (m2 V))::g6 a3 c c' V s bm x y x' y')) a' w'->(∃v,a'.tmps[30]?=some v/\sA w0.heap.size (l9 a3 rs) w' v)->a'.tmps[31]?=some (.bool true)->bS prog Post g i 0 (aZ ((base 3).at k [.inRegion (aq Tryz.f3 36) [],.code (En Tryz.f3)]) cs) w'):
 bS prog Post n Shun 0 (aZ ((base 3).at b [.code (.region 36 (aq Tryz.f3 36) true),.code (En Tryz.f3)]) cs) w:=by
 rw[fI (aq Tryz.f3 36)]at m⊢;refine Kp (S:=⟨6,λj=>j==9||j==12,λj=>decide (6<j),[(11,28,30)]⟩) (L:=aK []) (d:=2) (eu:=yO (l9 a3 rs)) l3 mixed Es (KG v0 v32 AV AV) AV p (fj trivial) AV Y Y Y Y func10 BA Y Y (λn=>KH v0 v32 n AV) hn Y (aG.hq Y (Km Y Y)<|aG.hq Y KJ<|aG.hq Y Mw<|aG.hq Y KJ<|aG.hq Y Ll<|aG.hq Y (Pl Y Y Y)<|aG.hg Y (λa M w hk I=>KI hk I Y Y Y o C A)<|aG.hk (B:=kE) Y KJ (λ_=>JV) Ae<|aG.hk (B:=kE) Y (Kn Y Y) (λ_=>GA) Ae<|aG.hk (B:=kE) Y (Ko Y Y) K_ Ae<|aG.hn (F:=jQ w0.heap.size 28 1) Y Lj (hs:=λ_ _ _ _=>Ap)<|aG.hst Y (GJ Y Y Y) (hs:=λ_=>JA Y)<|aG.hk (B:=kE) Y KY K_ Ae<|rfl) D H r ⟨hsz,λs F e=>Dv⟩ ?_;intro a' k M' w' g i hKn f u E q t;obtain⟨v,z,rfl⟩:=f.has 31 (bL true) Y;exact m a' k M' w' g i u E q t hKn (f.has 30 _ Y) z
end
def iH{N:Nat}{K:bJ}{o:Oper}{x y:Operand}{T e:TypeId}{m n:Int}(c:o.op=.binOp .eql T x y e)(b:bl K x (bt m))(a:bl K y (bt n))(d:uW T)(h:m=n):bG (ae prog true) N K o (bL true):=by have:=DI (N:=N) c b a d;grind
structure Pu(a3:List aA)(lw lb:List Nat):Prop where
 len:a3.length<=1000
 dl:∀c∈a3,∀s∈c.dl,s.size<=1000
 ay9:∀c∈a3,∀j∈lw,Ek c j
 hU:lw.length<=1000
 gP:∀c∈a3,∀j∈lb,Ek c j
 Pv:lb.length<=1000
def ay_{a3:List aA}{l:List Nat}:∀c∈jT a3 l,Ef c:=λc a=>by obtain⟨d,-,rfl⟩:=List.mem_map.1 a;grind[Ef,nz]
def VZ{N:Nat}{K:bJ}{o:Oper}{x y:Operand}{ats:Array TypeId}{a3:List aA}{l:List Nat}(e:o.op=.call {callee:=.value (.func 13),args:=#[x,y],argTypes:=ats})(b:bl K x (la (jT a3 l)))(a:bl K y (la (jT a3 l)))(ht:a3.length<=1000)(g:l.length<=1000):bG (ae prog true) N K o (bL true):=
 ayB e b a (by rw[jT,List.length_map];omega) ay_ λc f=>by obtain⟨d,-,rfl⟩:=List.mem_map.1 f;grind[nz]
section
variable{a3:List aA}{c c':aA}{V:Int}{s:ByteArray}{bm:Nat}{x y x' y':Int}{a:Act}{w:aO}
def VR(C:Pu a3 (lg c V bm) (ke c c' V s bm))(hd:a.defers=[])(hk:af 256 (aK ((21,cm (jT a3 (lg c V bm)))::(22,bL true)::g6 a3 c c' V s bm x y x' y')) a w):
 bK (ae prog true) [.inRegion (aq Tryz.f3 19) [],.code (Er Tryz.f3)] [.code (.region 23 (aq Tryz.f3 23) true),.code (AH Tryz.f3)] (λa1 w1=>a1.defers=[]/\af 256 (aK ((21,cm (jT a3 (lg c V bm)))::g6 a3 c c' V s bm x y x' y')) a1 w1/\Below w.heap.size w w1) a w:=by
 refine sg ?_;unfold Er;refine bq ?_;rw[fI (aq Tryz.f3 20)];refine pC (m:=6) hk (dq Y L9<|dq Y L9<|dq Y KJ<|dq Y (VS Y Y Y C.len C.dl C.ay9 C.hU)<|dq Y (VZ Y Y Y C.len C.hU)<|dq Y KY<|rfl) Y pM AV λa1 w1 d d1 b1=>⟨Y,bq (bq ?_)⟩;rw[fI (aq Tryz.f3 21)];refine di d LW λh g b e f=>g3 (t:=false) (l_ b Y) (lU ?_);unfold jE;exact bq (j1 ⟨e.trans (d1.trans hd),b.aU ⟨Y,Y,Y,Y,Y,Y,Y,Y,Y,Y,PA⟩,b1.trans (f.mono b1.size)⟩)
def VN(C:Pu a3 (lg c V bm) (ke c c' V s bm))(hd:a.defers=[]){t1:List aA}(hk:af 256 (aK ((24,cm (jT a3 (ke c c' V s bm)))::(22,bL true)::(21,cm t1)::g6 a3 c c' V s bm x y x' y')) a w):
 bK (ae prog true) [.inRegion (aq Tryz.f3 31) [],.code (Ep Tryz.f3)] [.code (.region 35 (aq Tryz.f3 35) true),.code (Eo Tryz.f3)] (λa1 w1=>a1.defers=[]/\af 256 (aK ((21,cm t1)::(22,bL true)::(23,bL true)::(26,b6 4 dS (pO V))::(27,b6 4 dS (m2 V))::g6 a3 c c' V s bm x y x' y')) a1 w1/\Below w.heap.size w w1) a w:=by
 refine sg ?_;unfold Ep;refine bq ?_;rw[fI (aq Tryz.f3 32)];refine pC (m:=6) hk (dq Y L9<|dq Y L9<|dq Y KJ<|dq Y (VS Y Y Y C.len C.dl C.gP C.Pv)<|dq Y (VZ Y Y Y C.len C.Pv)<|dq Y KY<|rfl) Y pM AV λa1 w1 d d1 b1=>⟨Y,bq ?_⟩;have d:af 256 (aK ((21,cm t1)::(22,bL true)::(23,bL true)::g6 a3 c c' V s bm x y x' y')) a1 w1:=d.aU ⟨Y,Y,Y,Y,Y,Y,Y,Y,Y,Y,Y,Y,PA⟩;rw[fI (aq Tryz.f3 33)];refine pC (m:=12) d (dq Y KJ<|dq Y (dM (i:=0) Y Y KS (Y) Ae)<|dq Y (G0 Y Y)<|dq Y KJ<|dq Y (dM (i:=1) Y Y KS (Y) Ae)<|dq Y (G0 Y Y)<|dq Y KJ<|dq Y (dM (i:=2) Y Y KS (Y) Ae)<|dq Y (G0 Y Y)<|dq Y M6<|dq Y (rG Y Y Y Y Y IX)<|dq Y KY<|rfl) Y pM AV λk f b j n=>⟨Y,bq ?_⟩;have b:af 256 (aK ((21,cm t1)::(22,bL true)::(23,bL true)::(26,b6 4 dS (pO V))::g6 a3 c c' V s bm x y x' y')) k f:=b.aU ⟨Y,Y,Y,Y,Y,Y,Y,Y,Y,Y,Y,Y,Y,PA⟩;rw[fI (aq Tryz.f3 34)];refine pC (m:=12) b (dq Y KJ<|dq Y (dM (i:=0) Y Y KS (Y) Ae)<|dq Y (G0 Y Y)<|dq Y KJ<|dq Y (dM (i:=1) Y Y KS (Y) Ae)<|dq Y (G0 Y Y)<|dq Y KJ<|dq Y (dM (i:=2) Y Y KS (Y) Ae)<|dq Y (G0 Y Y)<|dq Y M6<|dq Y (rG Y Y Y Y Y IX)<|dq Y KY<|rfl) Y pM AV λp o g h l=>⟨Y,?_⟩;unfold jI;have e:=b1.trans (n.mono b1.size);exact bq (j1 ⟨h.trans (j.trans (d1.trans hd)),g.aU ⟨Y,Y,Y,Y,Y,Y,Y,Y,Y,Y,Y,Y,Y,Y,PA⟩,e.trans (l.mono e.size)⟩)
def VL(hd:a.defers=[]){K:bJ}(hk:af 256 K a w):
 bK (ae prog true) [.inRegion (aq Tryz.f3 35) [],.code (Eo Tryz.f3)] [.code (.region 36 (aq Tryz.f3 36) true),.code (En Tryz.f3)] (λa1 w1=>a1.defers=[]/\af 256 K a1 w1/\Below w.heap.size w w1) a w:=by
 grind[sg,Eo,bq,j1,Below.refl]
def VK(hd:a.defers=[]){t1 t2 t3:List aA}{m1 d b rr:Nat}(k:0<t1.length)(h:t1[0].cp.length=m1)(p:0<t2.length)(g:t2[0].cp.length=d)(i:0<t3.length)(j:t3[0].cp.length=b)(q:0<a3.length)(f:a3[0].cp.length=rr)(t:m1+d+b=rr)(r:b=lh c bm)(n:rr<=1000)(hk:af 256 (aK ((30,cm t3)::(31,bL true)::(28,cm t2)::(29,bL true)::(21,cm t1)::(22,bL true)::(23,bL true)::g6 a3 c c' V s bm x y x' y')) a w):
 bK (ae prog true) [.inRegion (aq Tryz.f3 36) [],.code (En Tryz.f3)] [.code .ret] (λa1 w1=>a1.defers=[]/\af 256 (aK [(10,bL true)]) a1 w1/\Below w.heap.size w w1) a w:=by
 have e:(b:Int)=((lh c bm:Nat):Int):=by rw[r]
 have o:(m1:Int)+(d:Int)+(b:Int)=(rr:Int):=As;have hA1:cD ((m1:Int)+(d:Int)):=DO;have hA2:cD ((m1:Int)+(d:Int)+(b:Int)):=DO;refine sg ?_;unfold En;refine bq ?_;rw[fI (aq Tryz.f3 37)];refine pC (m:=30) hk (dq Y KJ<|dq Y KJ<|cn Y KJ<|dq Y Ky<|dq Y KJ<|cn Y KJ<|dq Y Ky<|dq Y KJ<|cn Y KJ<|dq Y Ky<|dq Y KJ<|cn Y L9<|cn Y (Em Y Y i j)<|cn Y KJ<|cn Y (iH Y Y Y Ae e)<|dq Y Ky<|dq Y KJ<|cn Y L9<|cn Y (Em Y Y k h)<|cn Y L9<|cn Y (Em Y Y p g)<|cn Y (uX Y Y Y (hA1) Ae)<|cn Y L9<|cn Y (Em Y Y i j)<|cn Y (uX Y Y Y (hA2) Ae)<|cn Y L9<|cn Y (Em Y Y q f)<|cn Y (iH Y Y Y Ae o)<|dq Y Ky<|dq Y KY<|rfl) Y pM AV λa1 w1 l d1 b1=>⟨Y,j1 ⟨d1.trans hd,l.aU ⟨Y,PA⟩,b1⟩⟩
end
def af.still{N:Nat}{K:bJ}{a a':Act}{w w':aO}(h:af N K a w)(a0:a'.tmps.size=N)(hs:∀s F,K s=some F->a'.tmps[s]?=a.tmps[s]?)(b:Below w.heap.size w w'):af N K a' w':=⟨a0,λs F e=>by
 obtain⟨v,h1,c⟩:=h.has s F e;exact⟨v,(hs s F e).trans h1,F.hJ _ _ _ b c⟩⟩
theorem gD{N:Nat}{ops:Array Oper}{Q:Exit->Act->aO->Prop}{rest:List Nat}{B:Nat}:∀{l:List Oper}{i:Nat}{K K':bJ}{a:Act}{w:aO},uu P N ops l K K'->(∀j o,l[j]?=some o->ops[i+j]?=some o)->(∀o∈l,∀d,o.dst=some d->B<=d)->af N K a w->(∀a' w',af N K' a' w'->a'.defers=a.defers->(∀s,s<B->a'.tmps[s]?=a.tmps[s]?)->Below w.heap.size w w'->wpOps P ops Q rest a' w')->wpOps P ops Q (List.range' i l.length++rest) a w
 | [],i,K,K',a,w,h,_,_,hk,k=>by cases h;grind[Below.refl]
 |o::l,i,K,K',a,w,⟨d,hd,a0,F,e,h⟩,hi,c,hk,k=>by rw[List.length_cons,List.range'_succ,List.cons_append];refine jO (e.step hk (hi 0 o Y) hd) ?_;rintro a1 w1 ⟨⟨v,rfl,f⟩,b⟩;have n:=c o A_ d hd;refine gD h (λj o' p=>by have:=hi (j+1) o' AA;grind) (λo' q=>c o' AA) (hk.put a0 b f) λa' w' h1 m g h3=>k a' w' h1 (m.trans (put_defers _ _ _)) (λs hs=>(g s hs).trans (dP As)) (b.trans (h3.mono b.size))
def V0{N id m B:Nat}{ops:Array Oper}{ks ks':List Item}{Q:Act->aO->Prop}{K K':bJ}{a:Act}{w:aO}(hk:af N K a w)(h:uu P N ops (ops.toList.take m) K K')(e:m<=ops.size)(g:(ops.toList.take m).all (λo=>match o.dst with|some d=>decide (B<=d)|none=>true)=true)(k:∀a' w',af N K' a' w'->a'.defers=a.defers->(∀s,s<B->a'.tmps[s]?=a.tmps[s]?)->Below w.heap.size w w'->wpOps P ops (jb (bK P (.inRegion ops []::ks) ks' Q)) (List.range' m (ops.size-m)) a' w'):bK P (.code (.region id ops false)::ks) ks' Q a w:=by
 refine SO (n:=ops.size) Y ?_;have b:(ops.toList.take m).length=m:=AA;rw[show List.range' 0 ops.size=List.range' 0 (ops.toList.take m).length++List.range' m (ops.size-m) by
  rw[b];have:=List.range'_append_1 (s:=0) (m:=m) (n:=ops.size-m);grind]
 exact gD (B:=B) h (λj o f=>by
  grind) (λo c d hd=>by
  grind) hk k
def Pw:oi (ae prog true) 35 32 (.agg #[.int .i64 0,.int .i64 0,.int .i64 0,.string ByteArray.empty]) 4 40:=⟨Br,BA,Ae,Ae⟩
theorem V1:∀(e:List bI)(i:Nat)(h:i<e.length)(j:Nat),j<4->(e.flatMap ld)[i*4+j]?=(ld e[i])[j]?
 | [],i,h,_,_=>AA
 |t::r,i,h,j,a=>by rw[List.flatMap_cons];cases i with|zero=>rw[List.getElem?_append_left (by simp[ld];omega)];simp|succ i=>rw[List.getElem?_append_right (by simp[ld];omega)];have:=V1 r i Fq j a;rw[show(i+1)*4+j-(ld t).length=i*4+j by simp[ld];omega];exact this
theorem gy(e:List bI):(e.flatMap ld).length=e.length*4:=by induction e with|nil=>rfl|cons t r a=>grind[List.length_cons,ld]
def VC{W:aO}{B:Nat}{e:List bI}(h:W.ownsRow B 32 4 v e.length (e.flatMap ld))(hs:∀t∈e,t.s.size<=100)(d:e.length<=100):(b6 4 dS e).R W v:=by
 obtain⟨j,⟨rfl,hn⟩|⟨g,cap,be,rfl,hg,a,h1,k,h3,c⟩⟩:=h
 .have:e=[]:=List.eq_nil_of_length_eq_zero hn;subst this;exact a8.nil _ _ _
 .refine⟨some ⟨g,0,none⟩,cap,Y,As,λi hi=>⟨g,0,Y,?_⟩⟩;have rd:∀f,f<4->W.cell? ⟨g,0+i*4+f,none⟩=(ld e[i])[f]?:=λf b=>by rw[(ag.rules (show ag W g be _ from a)).1,<-V1 e i hi f b,<-c,List.getElem?_take,if_pos As,Array.getElem?_toList];grind
  exact⟨rd 0 Ae,rd 1 Ae,rd 2 Ae,rd 3 Ae,AA⟩
def V2{ops:Array Oper}{N i d1 p m sv:Nat}{d h:Oper}{K:bJ}{a:Act}{w:aO}{rest:List Nat}{Q:Exit->Act->aO->Prop}(h1:ops[i]?=some d)(y:ops[i+1]?=some h)(g1:d.guard=none)(V:h.guard=none)(L:d.dst=some d1)(M:h.dst=some sv)(q:d.op=.call {callee:=.builtin .append,args:=#[.tmp p,.tmp m],argTypes:=#[35,35]})(ayH:h.op=.assign (.tmp d1))(hs:d1<N/\sv<N)(hk:af N K a w){e:List bI}(X:K p=some (de v))(W:K m=some (b6 4 dS e))(U:0<e.length){B n:Nat}{xs:List Value}(D:w.ownsRow B 32 4 v n xs)(hn:n+e.length<=1000000)(C:B<=w.heap.size)(k:∀a' w1 v',w1.ownsRow B 32 4 v' (n+e.length) (xs++e.flatMap ld)->Below B w w1->a'.tmps[sv]?=some v'->(∀s,s≠d1->s≠sv->a'.tmps[s]?=a.tmps[s]?)->a'.tmps.size=N->a'.defers=a.defers->wpOps (ae prog true) ops Q rest a' w1):wpOps (ae prog true) ops Q (i::(i+1)::rest) a w:=by
 obtain⟨v0,Z,rfl⟩:=hk.has p _ X;obtain⟨u2,bb,bz,cap,rfl,hl,F⟩:=hk.has m _ W;obtain⟨g,f,rfl,-⟩:=F 0 U;obtain⟨Ak,hi,O,hsz,LN⟩:=info_parts Pw.hi;have A:∀j u,(e.flatMap ld)[j]?=some u->w.cell? ((⟨g,f,none⟩:Addr).add j)=some u:=λj u x=>by
  have H6:j<e.length*4:=by grind[gy]
  obtain⟨b,o,z,J,r1,I,r3,-⟩:=F (j / 4) As;cases z;have r:j=j / 4*4+j % 4:=As;rw[r,V1 e (j / 4) As (j % 4) As]at x;have hc:w.cell? ⟨g,f+j / 4*4+j % 4,none⟩=some u:=by
   have c:j % 4=0\/j % 4=1\/j % 4=2\/j % 4=3:=As;rcases c with c|c|c|c<;>rw[c]at x⊢ <;>cases x
   .exact J
   .exact r1
   .exact I
   grind
  grind[Addr.add]
 obtain⟨v',w',T,H,h3,h4,a4⟩:=run_append_own_at (P:=(ae prog true)) w B 35 d.type 32 Ak _ 4 40 Pw.ht hi O hsz LN Pw.HG Pw.hsz v0 n xs D ⟨g,f,none⟩ e.length cap (e.flatMap ld) (gy e) A (λu S=>by
  obtain⟨t,-,ht⟩:=List.mem_flatMap.1 S;simp[ld]at ht;rcases ht with rfl|rfl|rfl|rfl<;>rfl) (by simp[maxLen];omega) As C
 refine jO (R:=λa1 w1=>a1=a.put (some d1) v'/\w1=w') (qw h1 g1 L (v:=v') (w1:=w') ?_ ⟨Y,Y⟩) ?_
 .simp only[execOp,q,resolve,invoke,builtin,eb Z,eb bb,T,Result.andThen,Sem.run_bind,Sem.run_pure,List.map_toArray,List.map_cons,List.map_nil]
 rintro a1 w1 ⟨rfl,rfl⟩;refine jO (R:=λE l=>E=(a.put (some d1) v').put (some sv) v'/\l=w1) (qw y V M (v:=v') (w1:=w1) ?_ ⟨Y,Y⟩) ?_
 .have:=eb (a:=a.put (some d1) v') (t:=d1) (kt (by rw[hk.size];grind));simp_all[execOp]
 rintro E l ⟨rfl,rfl⟩;exact k _ l v' H (Ee D h3 C) (kt Jf) (λs h1 y=>(dP (Ne.symm y)).trans (dP (Ne.symm h1))) Is Gh
def Vy{N:Nat}{K:bJ}{o:Oper}{x:Operand}(a:o.op=.buildSlice 35 1 #[(0,x)])(c:bl K x (sD t1))(hs:∀t∈[t1],t.s.size<=100):bG (ae prog true) N K o (b6 4 dS [t1]):=dT c λev w b=>by have b:ev x=.agg #[.int .i64 t1.op,.int .i64 t1.a,.int .i64 t1.v,.string t1.s]:=b;refine⟨.slice (some ⟨w.heap.size,0,none⟩) 1 1,w.alloc (.cells #[.int .i64 t1.op,.int .i64 t1.a,.int .i64 t1.v,.string t1.s] 32),?_,VT [t1] w Y A_ hs _,(Below.refl _ w).alloc J1 _⟩;cases o;simp only at a;subst a;go_simp
section
variable{a3:List aA}{c c':aA}{V:Int}{s:ByteArray}{bm:Nat}{x y x' y':Int}{a:Act}{w:aO}
def Vx(C:Pu a3 (lg c V bm) (ke c c' V s bm))(hsz:s.size<=100)(hd:a.defers=[]){t1:List aA}(hk:af 256 (aK ((24,cm (jT a3 (ke c c' V s bm)))::(22,bL true)::(21,cm t1)::g6 a3 c c' V s bm x y x' y')) a w):
 bK (ae prog true) [.inRegion (aq Tryz.f3 23) [],.code (AH Tryz.f3)] [.code (.region 31 (aq Tryz.f3 31) true),.code (Ep Tryz.f3)] (λa1 w1=>a1.defers=[]/\(∀q∈[24,21,8,9,11,12,13,14,15,16,17],a1.tmps[q]?=a.tmps[q]?)/\af 256 (aK [(25,b6 4 dS (mA V s))]) a1 w1/\Below w.heap.size w w1) a w:=by
 obtain⟨v24,Px,H⟩:=hk.has 24 _ Y;obtain⟨v21,DZ,Vd⟩:=hk.has 21 _ Y;obtain⟨v8,yQ,tO⟩:=hk.has 8 _ Y;obtain⟨v9,wF,GK⟩:=hk.has 9 _ Y;obtain⟨v11,yJ,KD⟩:=hk.has 11 _ Y;obtain⟨v12,Pq,VW⟩:=hk.has 12 _ Y;obtain⟨v13,Pr,KE⟩:=hk.has 13 _ Y;obtain⟨v14,Ps,KF⟩:=hk.has 14 _ Y;obtain⟨v15,Pp,Vb⟩:=hk.has 15 _ Y;obtain⟨v16,Po,E⟩:=hk.has 16 _ Y;obtain⟨v17,D,UL⟩:=hk.has 17 _ Y;obtain⟨L,d⟩:∃l:List (Nat×bp),l=[(24,iR v24 (cm (jT a3 (ke c c' V s bm)))),(22,bL true),(21,de v21),(8,de v8),(9,de v9),(11,iR v11 (cm a3)),(12,de v12),(13,iR v13 (b6 4 dS (iT V))),(14,iR v14 (b6 4 dS (jx s))),(15,de v15),(16,iR v16 (b6 1 j9 (iU (ke c c' V s bm)))),(17,de v17)]:=⟨_,Y⟩;have eC:af 256 (aK [(24,iR v24 (cm (jT a3 (ke c c' V s bm)))),(22,bL true),(21,de v21),(8,de v8),(9,de v9),(11,iR v11 (cm a3)),(12,de v12),(13,iR v13 (b6 4 dS (iT V))),(14,iR v14 (b6 4 dS (jx s))),(15,de v15),(16,iR v16 (b6 1 j9 (iU (ke c c' V s bm)))),(17,de v17)]) a w:=af.of hk.size λp k=>by
  simp at k;rcases k with rfl|rfl|rfl|rfl|rfl|rfl|rfl|rfl|rfl|rfl|rfl|rfl
  .exact⟨_,Px,Y,H⟩
  .exact hk.get Y Y λv hv=>hv
  .exact⟨_,DZ,Y⟩
  .exact⟨_,yQ,Y⟩
  .exact⟨_,wF,Y⟩
  .exact⟨_,yJ,Y,KD⟩
  .exact⟨_,Pq,Y⟩
  .exact⟨_,Pr,Y,KE⟩
  .exact⟨_,Ps,Y,KF⟩
  .exact⟨_,Pp,Y⟩
  .exact⟨_,Po,Y,E⟩
  .exact⟨_,D,Y⟩
 refine sg ?_;unfold AH;refine bq ?_;rw[fI (aq Tryz.f3 24)];refine pC (m:=6) eC (dq Y (Pm Y Y)<|dq Y (Pm Y Y)<|dq Y L8<|dq Y (VS Y Y Y C.len C.dl C.gP C.Pv)<|dq Y (VZ Y Y Y C.len C.Pv)<|dq Y KY<|rfl) Y pM AV λa1 w1 M d1 b1=>⟨Y,bq (bq ?_)⟩;rw[fI (aq Tryz.f3 25)];refine di M LW λbC w2 j O b2=>g3 (t:=false) (l_ j Y) (lU (bq ?_));have j:af 256 (aK L) bC w2:=d▸j.aU ⟨Y,Y,Y,Y,Y,Y,Y,Y,Y,Y,Y,Y,PA⟩;have qd:=b1.trans (b2.mono b1.size);have O:=O.trans (d1.trans hd);clear eC M hk H Vd tO GK KD VW KE KF Vb E UL;rw[fI (aq Tryz.f3 27)];refine di j (ar Y (dv (F:=de (.slice none 0 0)) Y KS)<|rfl) λg b f N b8=>bq ?_;have q7:=qd.trans (b8.mono qd.size);have N:=N.trans O;have A:af 256 (aK L) g b:=f.sub λq F e=>by
  unfold up;rw[if_neg]
  .exact e
  .intro hq;subst hq;rw[d]at e;cases e
 have UA:∀q F,aK L q=some F->q<25:=λq F e=>by
  rw[d]at e;apply Classical.byContradiction;intro hq;have e':aK [(24,iR v24 (cm (jT a3 (ke c c' V s bm)))),(22,bL true),(21,de v21),(8,de v8),(9,de v9),(11,iR v11 (cm a3)),(12,de v12),(13,iR v13 (b6 4 dS (iT V))),(14,iR v14 (b6 4 dS (jx s))),(15,de v15),(16,iR v16 (b6 1 j9 (iU (ke c c' V s bm)))),(17,de v17)] q=none:=by simp only[aK];rw[if_neg As,if_neg As,if_neg As,if_neg As,if_neg As,if_neg As,if_neg As,if_neg As,if_neg As,if_neg As,if_neg As,if_neg As]
  grind
 have still:∀{a':Act}{w':aO}{v:Value},a'.tmps.size=256->(∀q,q<25->a'.tmps[q]?=g.tmps[q]?)->a'.tmps[25]?=some v->Below b.heap.size b w'->af 256 (aK ((25,de v)::L)) a' w':=λ{a' w' v} a0 hs Ut hb=>by
  have hst:=A.still a0 (λq F e=>hs q (UA q F e)) hb;refine⟨a0,λq F e=>?_⟩;unfold aK at e;split at e
  .rename_i hq;cases e;subst hq;exact⟨v,Ut,Y⟩
  .exact hst.has q F e
 obtain⟨u25,JO,Z⟩:=f.has 25 (de (.slice none 0 0)) Y;cases Z;have f:=still f.size (λ_ _=>Y) JO (Below.refl _ _);rw[d]at f;rw[fI (aq Tryz.f3 28)];refine V0 (m:=2) (B:=26) f (ar Y KJ<|ar Y L8<|rfl) Ae AA λcC w4 k4 d4 u4 bc=>?_;refine V2 (i:=2) (sv:=25) (B:=b.heap.size) Y Y Y Y Y Y Y Y Ae k4 Y Y (by simp[iT]) (World.ownsRow_nil _ _ _ _) (by simp[iT]) bc.size λdL en v5 sT qH q5 PZ X z=>pA (bq ?_);have V3:Below b.heap.size b en:=bc.trans qH;have r:∀q,q<25->dL.tmps[q]?=g.tmps[q]?:=λq hq=>(PZ q As As).trans (u4 q As);have dw:=still X r q5 V3;rw[d]at dw;have d5:=z.trans d4;clear k4 PZ z d4 u4;rw[fI (aq Tryz.f3 29)];refine V0 (m:=2) (B:=26) dw (ar Y KJ<|ar Y L8<|rfl) Ae AA λio gS fH d6 u6 dD=>?_;have o:Below b.heap.size b gS:=V3.trans (dD.mono V3.size);refine V2 (i:=2) (sv:=25) (B:=b.heap.size) Y Y Y Y Y Y Y Y Ae fH Y Y (by simp[jx]) (AD sT dD) (by simp[iT,jx]) o.size λlB qf v7 W gv B7 n U K=>pA (bq ?_);have V4:Below b.heap.size b qf:=o.trans gv;have J:∀q,q<25->lB.tmps[q]?=g.tmps[q]?:=λq hq=>((n q As As).trans (u6 q As)).trans (r q hq);have l6:=still U J B7 V4;rw[d]at l6;have d7:=K.trans (d6.trans d5);clear fH n K d6 u6;rw[fI (aq Tryz.f3 30)];refine V0 (m:=3) (B:=26) l6 (ar Y KJ<|ar Y M6<|ar Y (Vy Y Y IX)<|rfl) Ae AA λqi qh m0 d8 u8 l7=>?_;have I:Below b.heap.size b qh:=V4.trans (l7.mono V4.size);refine V2 (i:=3) (sv:=25) (B:=b.heap.size) Y Y Y Y Y Y Y Y Ae m0 Y Y A_ (AD W l7) (by simp[iT,jx]) I.size λKt Ku T GK lK zR S R Q=>pA ?_;have P:Below b.heap.size b Ku:=I.trans lK;have XW:∀q,q<25->Kt.tmps[q]?=g.tmps[q]?:=λq hq=>((S q As As).trans (u8 q As)).trans (J q hq);unfold jF;refine bq (j1 ⟨Q.trans (d8.trans (d7.trans N)),λq hq=>?_,af.of R λp k=>?_,q7.trans (P.mono q7.size)⟩)
 .rw[XW q (by simp at hq;omega)];have hg:∀{q:Nat}{v:Value}{F:bp},aK L q=some F->(∀u,F.R b u->u=v)->a.tmps[q]?=some v->g.tmps[q]?=a.tmps[q]?:=λh1 h2 h3=>by obtain⟨u,M,j⟩:=A.has _ _ h1;grind
  rw[d]at hg;simp at hq;rcases hq with rfl|rfl|rfl|rfl|rfl|rfl|rfl|rfl|rfl|rfl|rfl
  .exact hg Y (λu h=>h.1) Px
  .exact hg Y (λu h=>h) DZ
  .exact hg Y (λu h=>h) yQ
  .exact hg Y (λu h=>h) wF
  .exact hg Y (λu h=>h.1) yJ
  .exact hg Y (λu h=>h) Pq
  .exact hg Y (λu h=>h.1) Pr
  .exact hg Y (λu h=>h.1) Ps
  .exact hg Y (λu h=>h) Pp
  .exact hg Y (λu h=>h.1) Po
  .exact hg Y (λu h=>h) D
 .simp at k;subst k;refine⟨T,zR,VC (B:=b.heap.size) ?_ (λt ht=>?_) (by simp[mA,iT,jx])⟩
  .simp_all[mA,jx]
  .simp[mA,iT,jx,tm]at ht;rcases ht with rfl|rfl|rfl|rfl|rfl|rfl|rfl<;>first|decide|exact show s.size<=100 from hsz|exact show(⟨#[]⟩:ByteArray).size<=100 by decide
end
end aG
namespace aG
open RowKit av bZ bN cM
theorem lq:∀l:List UInt8,Op.bytesLess l l=false
 | []=>rfl
 |a::l=>by rw[Op.bytesLess,lq l];simp
theorem ll(a b:ByteArray):(Cf a b==0)=(a.toList==b.toList):=by grind[Cf,lq]
theorem XP(a:ByteArray):Cf a a=0:=by grind[ll]
def fJ(rs:List dX):aA:=⟨1,0,rs.map λr=>fD r.2.1,[],rs.map λr=>hQ r.2.1⟩
def kf(rs:List dX):aA:=⟨3,0,[],rs.map λr=>jv r.2.2.2,rs.map λr=>hQ r.2.2.2⟩
def XO(rs:List dX)(i:Nat):(cM.rowAt (ca rs) i).2[1]?.getD fL=gE (fJ rs) i:=by simp[cM.rowAt,ca,fJ]
def XL(rs:List dX)(i:Nat):(cM.rowAt (ca rs) i).2[3]?.getD fL=gE (kf rs) i:=by simp[cM.rowAt,ca,kf]
def V5(b:Bool):fq (g4 b)=b:=by cases b<;>rfl
def Py(rs:List dX)(V:Int)(i:Nat):rC V (cM.rowAt (ca rs) i)=if(fJ rs).cp.getD i false then fL else g4 (decide ((fJ rs).fg.getD i 0<V)):=by
 unfold rC;rw[XO];unfold tj;have hn:=VJ (c:=fJ rs) (i:=i);rw[if_neg Ae];simp only[hn,Bool.or_false];split
 .rfl
 .rename_i h;rw[if_neg Ae];have e:gE (fJ rs) i=⟨false,(fJ rs).fg.getD i 0,0,bZ.f9⟩:=by simp_all[gE,fJ]
  rw[e];congr 2
  grind[Cg,XP,IU,FU]
def k7(rs:List dX)(s:ByteArray)(i:Nat):yV s (cM.rowAt (ca rs) i)=if(kf rs).cp.getD i false then fL else g4 (((kf rs).dl.getD i bZ.f9).toList==s.toList):=by
 unfold yV;rw[XL];unfold tj;have hn:=VJ (c:=kf rs) (i:=i);rw[if_neg Ae];simp only[hn,Bool.or_false];split
 .rfl
 .rename_i h;rw[if_pos trivial];have e:gE (kf rs) i=⟨false,0,0,(kf rs).dl.getD i bZ.f9⟩:=by simp_all[gE,kf]
  simp_all[Cg,FU,IU,ll]
def V6(rs:List dX)(V:Int)(i:Nat):fq (rC V (cM.rowAt (ca rs) i))=pR (fJ rs) V i:=by
 rw[Py];unfold pR;cases(fJ rs).cp.getD i false
 .simp[V5]
 .rfl
def k6(rs:List dX)(s:ByteArray)(i:Nat):fq (yV s (cM.rowAt (ca rs) i))=yZ (kf rs) s i:=by
 rw[k7];unfold yZ;cases(kf rs).cp.getD i false
 .simp[V5]
 .rfl
def XK(n m p q:Bool):fq (IV (if n then fL else g4 p) (if m then fL else g4 q))=(fq (if n then fL else g4 p)&&fq (if m then fL else g4 q)):=by cases n<;>cases m<;>cases p<;>cases q<;>rfl
def Xw(n p:Bool):fq (if(if n then fL else g4 p).eG then(if n then fL else g4 p)else g4 (wh (if n then fL else g4 p)))=(!n&& !(!n&&p)):=by cases n<;>cases p<;>rfl
def Xu(rs:List dX)(V:Int)(s:ByteArray)(i:Nat):fq (Eg V s (cM.rowAt (ca rs) i))=(pR (fJ rs) V i&&yZ (kf rs) s i):=by rw[<-V6 rs V i,<-k6 rs s i];unfold Eg tj;simp_all[Py,k7,XK]
theorem k5(rs:List dX)(V:Int)(i:Nat):fq (Ei V (cM.rowAt (ca rs) i))=(fJ rs).cp.getD i false:=by unfold Ei uw;rw[if_pos Y,V5,Py];cases(fJ rs).cp.getD i false<;>rfl
def Xt(rs:List dX)(V:Int)(i:Nat):fq (Eh V (cM.rowAt (ca rs) i))=(!(fJ rs).cp.getD i false&& !pR (fJ rs) V i):=by unfold Eh uw;rw[if_neg Ae,Py];exact Xw _ _
def three(n p:Nat->Bool)(h:∀i,p i=true->n i=false)(l:List Nat):(l.filter p).length+(l.filter λi=> !n i&& !p i).length+(l.filter n).length=l.length:=by induction l with|nil=>rfl|cons i l a=>grind
section
variable(rs:List dX)(V:Int)(s:ByteArray)
theorem Xs:mB (ca rs) rs.length (λr=>fq (rC V r))=lg (fJ rs) V rs.length:=List.filter_congr λi _=>V6 rs V i
theorem Xp:mB (ca rs) rs.length (λr=>fq (rC V r)&&fq (yV s r))=ke (fJ rs) (kf rs) V s rs.length:=List.filter_congr λi _=>by show(fq (rC V (cM.rowAt (ca rs) i))&&fq (yV s (cM.rowAt (ca rs) i)))=_;rw[V6,k6]
theorem Xb:mB (ca rs) rs.length (λr=>fq (Eg V s r))=ke (fJ rs) (kf rs) V s rs.length:=List.filter_congr λi _=>Xu rs V s i
def W6:(mB (ca rs) rs.length (λr=>fq (Ei V r))).length=lh (fJ rs) rs.length:=by grind[mB,lh,k5]
def W4:(lg (fJ rs) V rs.length).length+(mB (ca rs) rs.length (λr=>fq (Eh V r))).length+(mB (ca rs) rs.length (λr=>fq (Ei V r))).length=rs.length:=by
 unfold mB lg;rw[List.filter_congr λi _=>k5 rs V i,List.filter_congr λi _=>Xt rs V i];have:=three (λi=>(fJ rs).cp.getD i false) (pR (fJ rs) V) (λi h=>by
  grind[pR]) (List.range rs.length)
 grind
def W3:l9 (ca rs) (cM.lf (ca rs) rs.length λr=>fq (rC V r))=jT (ca rs) (lg (fJ rs) V rs.length):=by grind[Pg,Ph,Xs]
def WR:l9 (ca rs) (cM.lf (ca rs) rs.length λr=>fq (rC V r)&&fq (yV s r))=jT (ca rs) (ke (fJ rs) (kf rs) V s rs.length):=by grind[Pg,Ph,Xp]
def WO:l9 (ca rs) (cM.lf (ca rs) rs.length λr=>fq (Eg V s r))=jT (ca rs) (ke (fJ rs) (kf rs) V s rs.length):=by grind[Pg,Ph,Xb]
def WI:(∀t∈iT V,bN.Met t.op)/\(∀t∈jx s,bN.Met t.op)/\(∀t∈mA V s,bN.Met t.op)/\(∀t∈pO V,bN.Met t.op)/\(∀t∈m2 V,bN.Met t.op):=by refine⟨?_,?_,?_,?_,?_⟩<;>simp[iT,jx,mA,pO,m2,tm,bN.Met]
def WG(hs:s.size<=16):gB (iT V) [(1,0),(1,0),(2,2),(3,0)]=((4,0),true)/\gB (jx s) [(1,0),(1,0),(2,2),(3,0)]=((4,0),true)/\gB (mA V s) [(1,0),(1,0),(2,2),(3,0)]=((4,0),true)/\gB (pO V) [(1,0),(1,0),(2,2),(3,0)]=((4,0),true)/\gB (m2 V) [(1,0),(1,0),(2,2),(3,0)]=((4,0),true):=by
 have g:decide ((s.size:Int)<=16)=true:=AA;have e:∀bd,vt ⟨4,0,0,s⟩ bd=((3,0),true):=λbd=>by grind[vt]
 have hst:∀bd st,nN bd st ⟨4,0,0,s⟩=nN bd st ⟨4,0,0,⟨#[]⟩⟩:=λbd st=>by unfold nN zh;have h0:∀bd,vt ⟨4,0,0,⟨#[]⟩⟩ bd=((3,0),true):=λbd=>Y;grind
 have f:∀bd st(l r:List bI),mi bd (l++⟨4,0,0,s⟩::r) st=mi bd (l++⟨4,0,0,⟨#[]⟩⟩::r) st:=λbd st l r=>by induction l generalizing st with|nil=>show(nN bd st _).bind _=(nN bd st _).bind _;rw[hst]|cons t l a=>show(nN bd st t).bind _=(nN bd st t).bind _;congr 1;funext x;exact a x
 have d:∀bd(l r:List bI),gB (l++⟨4,0,0,s⟩::r) bd=gB (l++⟨4,0,0,⟨#[]⟩⟩::r) bd:=λbd l r=>by grind[gB]
 have c:gB (jx s) [(1,0),(1,0),(2,2),(3,0)]=gB (jx ⟨#[]⟩) [(1,0),(1,0),(2,2),(3,0)]:=d _ [tm 1 3] [tm 9 0];have b:gB (mA V s) [(1,0),(1,0),(2,2),(3,0)]=gB (mA V ⟨#[]⟩) [(1,0),(1,0),(2,2),(3,0)]:=by
  have q:∀s,mA V s=[tm 1 1,⟨2,0,V,⟨#[]⟩⟩,tm 10 0,tm 1 3]++⟨4,0,0,s⟩::[tm 9 0,tm 12 0]:=λs=>by simp[mA,iT,jx]
  grind
 rw[c,b];exact⟨BA,BA,BA,BA,BA⟩
end
section
open Conc ConcM bn cz c5 kZ
variable{O:gW}{n0:Nat}
def Wy{Post:Value->aO->Prop}{n:Nat}{Shun:Loc->Prop}{w:aO}{a:Act}(hd:a.defers=[])(f:a.tmps[10]?=some (.bool true))(e:∀k,Post (.bool true) (w.at k)):bS prog Post n Shun 0 (aZ ((base 3).at a [.code .ret]) []) w:=by
 refine B3 Y λk=>⟨aZ {(base 3).at a [.code .ret]with mode:=.returning} [],w.at k,#[],?_,A_,Nat.le_refl _,?_⟩
 .simp[aZ,stepG,stepG.exec,Frame.at,base]
 .refine am7 Y λk'=>⟨.bool true,#[],?_,A_,e k'⟩;have c:=func3;have b:(results Tryz.f3 a.tmps).run prog ((w.at k).at k')=.ok (.bool true) ((w.at k).at k'):=by simp_all[results]
  have d:(results Tryz.f3 a.tmps).events prog ((w.at k).at k') #[]=#[]:=by simp_all[results]
  simp[aZ,stepG,unwind,doReturn,Frame.at,base,hd,c,b,d,seen,GStep.after]
def KK{n:Nat}{t:List aA}{w:aO}{v:Value}(h:sA n t w v):(cm t).R w v:=by obtain⟨b,aT,e,-,h1,a⟩:=h;exact⟨b,aT,e,Nat.zero_le _,h1,a⟩
def Wn{n:Nat}{t:List aA}{w:aO}{v:Value}(h:sA n t w v):Am n 28 1 w v:=by obtain⟨b,aT,e,h0,h1,a⟩:=h;exact⟨b,_,e,h0,h1,Y⟩
def wN{N:Nat}{l:List (Nat×bp)}{a:Act}{w:aO}(h:af N (aK l) a w){s:Nat}{F:bp}(hs:∃v,a.tmps[s]?=some v/\F.R w v):af N (aK ((s,F)::l)) a w:=ff hs.choose_spec.1 hs.choose_spec.2 h
def Pz(K:bJ)(a:Act):n8 K a a:=λ_ _ _=>Y
def Wk(rs:List dX)(f:rs.length<=40)(V:Int)(s:ByteArray):Pu (ca rs) (lg (fJ rs) V rs.length) (ke (fJ rs) (kf rs) V s rs.length):=by
 have e:=om (fJ rs) (kf rs) V s rs.length;have d:∀c∈ca rs,∀j,j<rs.length->Ek c j:=λc a j b=>by have:=vb rs b c a;exact⟨this.cp,this.dl,this.fg⟩
 refine⟨Iw,λc a t ht=>?_,λc a j b=>d c a j ?_,As,λc a j b=>d c a j ?_,As⟩
 .simp[ca]at a;rcases a with rfl|rfl|rfl|rfl
  .grind
  .grind
  .grind
  grind[D7]
 .simpa using(List.mem_filter.1 b).1
 .simpa using(List.mem_filter.1 b).1
section
variable{Post:Value->aO->Prop}{n:Nat}{Shun:Loc->Prop}{aX M:Nat->Prop}{w0 w:aO}{a b:Act}{v0 v32:Option Value}
def KL{K K':bJ}(i:fp (iV v0 v32 0) a b)(H:Held O prog aX w0 n0 a M w Shun){k k':List Item}(d:k.all (gX (iV none none 0))=true)(hk:k.all (fX prog)=true)(m:k'.all (fX prog)=true)(ok:∀s F,K s=some F->F.ok n0)(ok':∀s F,K' s=some F->F.ok n0)(j:af 256 K a w)(hrun:∀W,af 256 K a W->bK (ae prog true) k k' (λa1 w1=>a1.defers=[]/\af 256 K' a1 w1/\Below W.heap.size W w1) a W)(l:∀a' c M' w',Held O prog aX w0 n0 a' M' w' Shun->fp (iV v0 v32 0) a' c->af 256 K' a' w'->bS prog Post n Shun 0 (aZ ((base 3).at c k') []) w'):
 bS prog Post n Shun 0 (aZ ((base 3).at b k) []) w:=by
 refine J5 l3 follows Es Y (VY v0 v32 _) i (VX v0 v32 _ d) H hk m (I:=af 256 K) (J:=af 256 K') (jP _ ok) (jP _ ok') j (λW e f b cs=>?_) l;obtain⟨a1,w1,⟨h1,h,h3⟩,g⟩:=hrun W f b cs;exact⟨a1,w1,⟨h1,h,h3.mono e⟩,g⟩
def Wj(fd:fp (iV v0 v32 0) a b)(H:Held O prog aX w0 n0 a M w Shun)(rs:List dX)(g:rs.length<=40){T wd x y x' y':Int}(qJ:cD T)(Q:cD wd)(hx:cD x)(hy:cD y)(S:cD x')(f:cD y')(hs:af 256 (aK [(1,bt T),(2,bt wd),(8,kF x y),(9,kF x' y'),(33,la (ca rs))]) a w)(hn:n+176<=200)(gb:∀a' M' w' bw,Held O prog aX w0 n0 a' M' w' bw->Post (.bool true) w'):
 bS prog Post n Shun 0 (aZ ((base 3).at b [.inRegion (aq Tryz.f3 1) [2,3],.code (vh Tryz.f3)]) []) w:=by
 have R:=D7 wd;obtain⟨V,zS⟩:∃V,V=j8 T 2001-1000:=⟨_,Y⟩;obtain⟨s,hS⟩:∃s,s=jv wd:=⟨_,Y⟩;rw[<-hS]at R;obtain⟨m1,nC,r4,BG,TX⟩:=WI V s;obtain⟨t1,t2,t3,t4,t5⟩:=WG V s As;have C:=Wk rs g V s;have sw:=Pf rs g (Kw V) m1 t1;have DG:=ax9 rs g (Kw V) (pV s) m1 nC t1 t2;have Wh:=Pf rs g (ax4 V s) r4 t3;have Wf:=Pf rs g (ax5 V) BG t4;have Wb:=Pf rs g (ax6 V) TX t5;refine KL fd H (k':=[.code (.region 19 (aq Tryz.f3 19) true),.code (Er Tryz.f3)]) AV AV AV (by exact fj ⟨PA,PA,PA,PA,PA,PA⟩) (jc (ca rs) (fJ rs) (kf rs) V s rs.length x y x' y') hs (λW d=>?_) ?_
 .have:=ay2 (a3:=ca rs) (c:=fJ rs) (c':=kf rs) (n:=rs.length) qJ Q Iw Iw Y Y ⟨by simp[fJ],by simp[fJ]⟩ ⟨by simp[kf],by simp[kf]⟩ As x y x' y' a W H.defers d;grind
 intro a1 b1 dr w1 H1 V_ k1;refine ay4 V_ (H1.phase k1 (jc _ _ _ _ _ _ _ _ _ _)) H1.O8 (Pz _ _) sw hx hy As k1.size λbC b2 M2 w2 iv DU ur D YI _ P dA bb=>?_;have D:=H1.back D;rw[W3]at dA;obtain⟨u2,e2,r2⟩:=dA;have P:=wN (wN P (s:=22) (F:=bL true) ⟨_,bb,Y⟩) (s:=21) ⟨u2,e2,KK r2⟩;refine KL YI D (k':=[.code (.region 23 (aq Tryz.f3 23) true),.code (AH Tryz.f3)]) AV AV AV (by exact fj ⟨PA,PA,PA,PA,PA,PA,PA,PA,PA,PA,PA,PA⟩) FO P (λW d=>VR C D.defers d) ?_;intro bX b8 sz w3 N Yr k3;have p3:=N.phase k3 FO;refine ay5 Yr p3 N.O8 (Pz _ _) DG S f As k3.size λcC bc zB w4 nF aGQ AB Al Yn Yk k4 gM q4=>?_;rw[WR]at gM;obtain⟨u4,e4,zy⟩:=gM;have Yh:=wN (wN k4 (s:=22) (F:=bL true) ⟨_,q4,Y⟩) (s:=24) ⟨u4,e4,KK zy⟩;refine q9 l3 follows Es Y (VY v0 v32 _) Yn (VX v0 v32 _ AV) Al (k:=[.inRegion (aq Tryz.f3 23) [],.code (AH Tryz.f3)]) (k':=[.code (.region 31 (aq Tryz.f3 31) true),.code (Ep Tryz.f3)]) AV AV (U:=λq=>q∈[24,21,8,9,11,12,13,14,15,16,17]) (I:=λa w=>af 256 (aK ((24,cm (jT (ca rs) (ke (fJ rs) (kf rs) V s rs.length)))::(22,bL true)::(21,cm (jT (ca rs) (lg (fJ rs) V rs.length)))::g6 (ca rs) (fJ rs) (kf rs) V s rs.length x y x' y')) a w/\∃v,a.tmps[24]?=some v/\Am w3.heap.size 28 1 w v) (J:=λa w=>af 256 (aK [(25,b6 4 dS (mA V s))]) a w/\∃v,a.tmps[24]?=some v/\Am w3.heap.size 28 1 w v) ?_ ?_ ⟨Yh,u4,e4,Wn zy⟩ (λW hW d b cs=>?_) ?_
 .intro ρ a a' w w' j m ⟨h1,v,t,h3⟩;obtain⟨v',o,i⟩:=m.some t;exact⟨jP _ Et ρ a a' w w' j m h1,v',o,UQ _ _ _ _ _ _ _ j i h3⟩
 .intro ρ a a' w w' j m ⟨h1,v,t,h3⟩;obtain⟨v',o,i⟩:=m.some t;exact⟨jP _ (by exact fj ⟨PA,PA⟩) ρ a a' w w' j m h1,v',o,UQ _ _ _ _ _ _ _ j i h3⟩
 .obtain⟨T2,v,t,h3⟩:=d;obtain⟨Z,en,⟨o,i,bP,iI⟩,iY⟩:=Vx C As Al.defers T2 b cs;exact⟨Z,en,⟨o,i,⟨bP,v,(i 24 A_).trans t,(jQ _ _ _).hJ _ _ _ iI h3⟩,iI.mono hW⟩,iY⟩
 intro Z br aGR en sB X7 X6 X5;obtain⟨dw,XY⟩:=X5;have XX:n8 (aK ((21,cm (jT (ca rs) (lg (fJ rs) V rs.length)))::g6 (ca rs) (fJ rs) (kf rs) V s rs.length x y x' y')) bX Z:=λq F e=>by refine(X6 q ?_).trans (Yk q F e);apply Classical.byContradiction;intro hq;simp at hq;obtain⟨g1,g2,fh,j7,qH,tv,gv,aGS,lK,Ka,Kd⟩:=hq;simp only[g6,aK]at e;grind
 refine ay6 X7 p3 sB XX Wh hx hy As XY dw λio dD aGT gS adY aGU aGV K V9 _ X Gy q6=>?_;have K:=N.back K;rw[WO]at Gy;obtain⟨u6,h8,vF⟩:=Gy;have X:=wN (wN X (s:=22) (F:=bL true) ⟨_,q6,Y⟩) (s:=24) ⟨u6,h8,KK vF⟩;refine KL V9 K (k':=[.code (.region 35 (aq Tryz.f3 35) true),.code (Eo Tryz.f3)]) AV AV AV Et EC X (λW d=>VN C K.defers d) ?_;intro lB cI aGW qf JY aAa l6;refine ay7 aAa (JY.phase l6 EC) JY.O8 (Pz _ _) Wf S f As l6.size λqi l7 re qh avo aGX aGY B aAb _ L yP aAc=>?_;have B:=JY.back B;obtain⟨u8,yQ,tO⟩:=yP;have L:af 256 (aK ((28,cm (l9 (ca rs) (cM.lf (ca rs) rs.length λr=>fq (Eh V r))))::(29,bL true)::(21,cm (jT (ca rs) (lg (fJ rs) V rs.length)))::(22,bL true)::(23,bL true)::(27,b6 4 dS (m2 V))::g6 (ca rs) (fJ rs) (kf rs) V s rs.length x y x' y')) qi qh:=(wN (wN L (s:=29) (F:=bL true) ⟨_,aAc,Y⟩) (s:=28) ⟨u8,yQ,KK tO⟩).aU ⟨Y,Y,Y,Y,Y,Y,Y,Y,Y,Y,Y,Y,Y,Y,Y,PA⟩;refine KL aAb B (k':=[.code (.region 36 (aq Tryz.f3 36) true),.code (En Tryz.f3)]) AV AV AV B6 B6 L (λW d=>VL B.defers d) ?_;intro Kt yS aGZ Ku V7 aAd pN;refine ay8 aAd (V7.phase pN B6) V7.O8 (Pz _ _) Wb S f As pN.size λaa ba aG0 vk adb aG1 afe E aAe _ ka xa aAf=>?_;have E:=V7.back E;obtain⟨wt,gY,B9⟩:=xa;have ka:af 256 (aK ((30,cm (l9 (ca rs) (cM.lf (ca rs) rs.length λr=>fq (Ei V r))))::(31,bL true)::(28,cm (l9 (ca rs) (cM.lf (ca rs) rs.length λr=>fq (Eh V r))))::(29,bL true)::(21,cm (jT (ca rs) (lg (fJ rs) V rs.length)))::(22,bL true)::(23,bL true)::g6 (ca rs) (fJ rs) (kf rs) V s rs.length x y x' y')) aa vk:=(wN (wN ka (s:=31) (F:=bL true) ⟨_,aAf,Y⟩) (s:=30) ⟨wt,gY,KK B9⟩).aU ⟨Y,Y,Y,Y,Y,Y,Y,Y,Y,Y,Y,Y,Y,Y,Y,Y,PA⟩;have hlen:∀l:List Nat,∃h:0<(jT (ca rs) l).length,(jT (ca rs) l)[0].cp.length=l.length:=λl=>⟨by simp[jT,ca],by simp[jT,ca,nz]⟩;have A:∀p:bB->Bool,∃h:0<(l9 (ca rs) (cM.lf (ca rs) rs.length p)).length,(l9 (ca rs) (cM.lf (ca rs) rs.length p))[0].cp.length=(mB (ca rs) rs.length p).length:=λp=>by grind[Pg,Ph]
 obtain⟨fM,kg⟩:=hlen (lg (fJ rs) V rs.length);obtain⟨gQ,o9⟩:=A λr=>fq (Eh V r);obtain⟨gR,qe⟩:=A λr=>fq (Ei V r);refine KL aAe E (k':=[.code .ret]) AV AV AV (by exact fj ⟨PA,PA,PA,PA,PA,PA,PA,PA,PA,PA,PA,PA,PA,PA,PA,PA,PA⟩) (by exact fj ⟨PA,PA⟩) ka (λW d=>VK E.defers fM kg gQ o9 gR qe Iw (show(ca rs)[0].cp.length=rs.length by simp[ca]) (W4 rs V) (W6 rs V) As d) ?_;intro ab pi aG2 AM z u kb;obtain⟨v,e,r⟩:=kb.has 10 (bL true) Y;cases r;exact Wy (u.defers.trans z.defers) ((u.same 10 Y).trans e) λk=>gb _ _ _ _ (z.at k)
end
end
section
open Conc ConcM bn cz c5 kZ
variable{O:gW}{n0:Nat}
def k0{w:aO}{b:Nat}{x y:Int}{T:TypeId}(h:ag w b #[.int .i64 x,.int .i64 y] T):(kF x y).R w (.pointer (some ⟨b,0,none⟩)):=⟨b,0,Y,h.rules.1 0,h.rules.1 1⟩
section
variable{P:cg}{Post:Value->aO->Prop}{n:Nat}{Shun:Loc->Prop}{w:aO}{f:FuncId}{b:Act}{ops:Array Oper}{i:Nat}{rest:List Nat}{k k':List Item}{cs:List Frame}{o:Oper}
def KM(h:∀w,stepG P true (aZ ((base f).at b k) cs) w=.go (aZ ((base f).at b k') cs) w #[])(hn:∀j,bS P Post n Shun 0 (aZ ((base f).at b k') cs) (w.at j)):bS P Post n Shun 0 (aZ ((base f).at b k) cs) w:=
 B3 Y λj=>⟨_,w.at j,#[],h _,A_,Nat.le_refl _,hn j⟩
def V8(e:ops[i]?=some o)(h:o.guard=none){d:Tmp}(hd:o.dst=some d){v:Value}{w1:aO}(c:∀j,(execOp b.eval o).run P (w.at j)=.ok (.value v) (w1.at j))(m:∀j,(execOp b.eval o).events P (w.at j) #[]=#[])(hs:w.heap.size<=w1.heap.size)(l:∀j,bS P Post n Shun 0 (aZ ((base f).at (b.put (some d) v) (.inRegion ops rest::k)) cs) (w1.at j)):bS P Post n Shun 0 (aZ ((base f).at b (.inRegion ops (i::rest)::k)) cs) w:=by
 refine B3 Y λj=>⟨_,w1.at j,#[],?_,A_,hs,l j⟩;have h1:=stepG_value (P:=P) (main:=true) (b:=base f) (a:=b) (k:=k) (cs:=cs) (rest:=rest) e (xG h _) (by simp[base]) (c j);have g:listed P (base f).fn b o (w.at j)=#[]:=by grind[listed,seen_none]
 rw[g,hd]at h1;exact h1
end
def PC(a c dA b gM:Value)(i:Nat):(#[a,c,dA,b,gM]++Array.replicate 251 undef:Array Value)[i]?=if i=0 then some a else if i=1 then some c else if i=2 then some dA else if i=3 then some b else if i=4 then some gM else if i<256 then some undef else none:=by
 rcases i with _ | _ | _ | _ | _ |i
 .simp_all
 .simp_all
 .simp_all
 .simp_all
 .simp_all
 .rw[Array.getElem?_append_right A_,Array.getElem?_replicate];grind
def G_(rv c0 dA eX gM p q u:Value):Act:=(((((⟨#[rv,c0,dA,eX,gM]++Array.replicate 251 undef,[]⟩:Act).put (some 8) p).put (some 9) q).put (some 10) (.bool false)).put (some 32) rv).put (some 33) u
def vi(c0 dA eX gM p q u:Value):Act:=((((⟨#[undef,c0,dA,eX,gM]++Array.replicate 251 undef,[]⟩:Act).put (some 8) p).put (some 9) q).put (some 10) (.bool false)).put (some 33) u
def aAg(rv b dA a gM p q u:Value):fp (iV (some rv) (some rv) 0) (vi b dA a gM p q u) (G_ rv b dA a gM p q u):=by
 have Eg:∀i,(vi b dA a gM p q u).tmps[i]?=if 33=i then some u else if 10=i then some (.bool false)else if 9=i then some q else if 8=i then some p else if i=0 then some undef else if i=1 then some b else if i=2 then some dA else if i=3 then some a else if i=4 then some gM else if i<256 then some undef else none:=by intro i;simp only[vi,Act.put,Array.getElem?_setIfInBounds,Array.size_setIfInBounds,Array.size_append,List.size_toArray,List.length_cons,List.length_nil,Array.size_replicate,PC];rfl
 have d:∀i,(G_ rv b dA a gM p q u).tmps[i]?=if 33=i then some u else if 32=i then some rv else if 10=i then some (.bool false)else if 9=i then some q else if 8=i then some p else if i=0 then some rv else if i=1 then some b else if i=2 then some dA else if i=3 then some a else if i=4 then some gM else if i<256 then some undef else none:=by intro i;simp only[G_,Act.put,Array.getElem?_setIfInBounds,Array.size_setIfInBounds,Array.size_append,List.size_toArray,List.length_cons,List.length_nil,Array.size_replicate,PC];rfl
 refine⟨by simp[vi,G_,Act.put],λi hi=>?_,λi v hi c=>?_,λi hi=>?_,by simp[vi,G_,Act.put]⟩
 .have h0:i≠0:=λe=>by subst e;cases hi
  have h1:32≠i:=λe=>by subst e;cases hi
  simp_all
 .have h0:i=0\/i=32:=by grind[iV]
  rw[Eg]at c;rcases h0 with rfl|rfl<;>simp at c<;>exact c.symm
 .have h0:i=0\/i=32:=by grind[iV]
  rw[d];rcases h0 with rfl|rfl<;>rfl
structure kV(W w':aO):Prop where
 old:∀b,0<b->b<W.heap.size->w'.heap[b]?=W.heap[b]?
 first:∀c e fr,W.heap[0]?=some (.cells c e fr)->w'.heap[0]?=some (.cells c e fr)
 since:nY W w'
section
variable{Post:Value->aO->Prop}{n:Nat}{Shun:Loc->Prop}{W:aO}{b:Act}{cs:List Frame}{rv:Value}{x y:Int}
def aAi(h:∀j,bS prog Post n Shun 0 (aZ ((base 3).at b [.inRegion (aq Tryz.f3 0) [0,1,2],.code (.seq (.region 1 (aq Tryz.f3 1) false) (vh Tryz.f3))]) cs) (W.at j)):bS prog Post n Shun 0 (aZ ((base 3).at b [.code (.seq (.region 0 (aq Tryz.f3 0) false) (.seq (.region 1 (aq Tryz.f3 1) false) (vh Tryz.f3)))]) cs) W:=by refine KM (k':=[.code (.region 0 (aq Tryz.f3 0) false),.code (.seq (.region 1 (aq Tryz.f3 1) false) (vh Tryz.f3))]) (λw=>Gd) λc=>?_;refine KM (λw=>?_) λa=>h a;have hsz:(aq Tryz.f3 0).size=3:=AV;simp[aZ,stepG,stepG.exec,Frame.at,base,hsz,List.range_succ]
def aAj(h:∀j,bS prog Post n Shun 0 (aZ ((base 3).at b [.inRegion (aq Tryz.f3 1) [0,1,2,3],.code (vh Tryz.f3)]) cs) (W.at j)):bS prog Post n Shun 0 (aZ ((base 3).at b [.inRegion (aq Tryz.f3 0) [],.code (.seq (.region 1 (aq Tryz.f3 1) false) (vh Tryz.f3))]) cs) W:=by refine KM (k':=[.code (.seq (.region 1 (aq Tryz.f3 1) false) (vh Tryz.f3))]) (λw=>Gd) λd=>?_;refine KM (k':=[.code (.region 1 (aq Tryz.f3 1) false),.code (vh Tryz.f3)]) (λw=>Gd) λc=>?_;refine KM (λw=>?_) λa=>h a;have hsz:(aq Tryz.f3 1).size=4:=AV;simp[aZ,stepG,stepG.exec,Frame.at,base,hsz,List.range_succ]
def kM{i s d:Nat}{o:Oper}(c:(aq Tryz.f3 0)[i]?=some o)(a:o.op=.box 25 (.tmp s))(hg:o.guard=none)(hd:o.dst=some d)(f:b.tmps[s]?=some (.agg #[.int .i64 x,.int .i64 y])){rest:List Nat}{k:List Item}(h:∀j,bS prog Post n Shun 0 (aZ ((base 3).at (b.put (some d) (.pointer (some ⟨W.heap.size,0,none⟩))) (.inRegion (aq Tryz.f3 0) rest::k)) cs) ((W.alloc (.cells #[.int .i64 x,.int .i64 y] 25)).at j)):bS prog Post n Shun 0 (aZ ((base 3).at b (.inRegion (aq Tryz.f3 0) (i::rest)::k)) cs) W:=by
 have e:=eb f;refine V8 c hg hd (v:=.pointer (some ⟨W.heap.size,0,none⟩)) (w1:=(W.alloc (.cells #[.int .i64 x,.int .i64 y] 25))) (λj=>?_) (λj=>?_) A_ h
 .generalize b.eval=ev at e⊢;cases o;simp only at a;subst a;simp[go_sem,e];exact⟨Y,Y⟩
 .generalize b.eval=ev at e⊢;cases o;simp only at a;subst a;simp[go_sem,e]
def aAk{o:Oper}(c:(aq Tryz.f3 0)[2]?=some o)(a:o.op=.assign (.const (.bool false)))(hg:o.guard=none)(hd:o.dst=some 10){rest:List Nat}{k:List Item}(h:∀j,bS prog Post n Shun 0 (aZ ((base 3).at (b.put (some 10) (.bool false)) (.inRegion (aq Tryz.f3 0) rest::k)) cs) (W.at j)):bS prog Post n Shun 0 (aZ ((base 3).at b (.inRegion (aq Tryz.f3 0) (2::rest)::k)) cs) W:=
 V8 c hg hd (v:=.bool false) (w1:=W) (λj=>by cases o;simp only at a;subst a;simp[go_sem]) (λj=>by cases o;simp only at a;subst a;simp[go_sem]) J1 h
def aAl{o:Oper}(d:(aq Tryz.f3 1)[0]?=some o)(a:o.op=.move (.tmp 0))(hg:o.guard=none)(hd:o.dst=some 32)(c:b.tmps[0]?=some rv){rest:List Nat}{k:List Item}(h:∀j,bS prog Post n Shun 0 (aZ ((base 3).at (b.put (some 32) rv) (.inRegion (aq Tryz.f3 1) rest::k)) cs) (W.at j)):bS prog Post n Shun 0 (aZ ((base 3).at b (.inRegion (aq Tryz.f3 1) (0::rest)::k)) cs) W:=
 V8 d hg hd (v:=rv) (w1:=W) (λj=>Jq) (λj=>Jq) J1 h
theorem kJ:∃o,(aq Tryz.f3 1)[1]?=some o/\o.op=.call {callee:=.value (.func 4),args:=#[.tmp 32,.const (.int .i64 40)],argTypes:=#[22,3]}/\o.guard=none/\o.dst=some 33:=by rw[fI (aq Tryz.f3 1)];simp_all
def aAm(g:b.tmps[32]?=some rv){rest:List Nat}{k:List Item}(h:∀j,bS prog Post n Shun 0 (aZ (Frame.enter prog 4 #[rv,.int .i64 40] .normal) ((base 3).at b (.inRegion (aq Tryz.f3 1) (1::rest)::k)::cs)) (W.at j)):bS prog Post n Shun 0 (aZ ((base 3).at b (.inRegion (aq Tryz.f3 1) (1::rest)::k)) cs) W:=by
 obtain⟨o,f,c,hg,-⟩:=kJ;have d:#[Operand.tmp 32,.const (.int .i64 40)].map b.eval=#[rv,.int .i64 40]:=by simp[g,Act.eval]
 have e:=iE.rh (b:=base 3) (Q:=prog) (o:=o) (a:=b) c func4 BA Y d;exact zU (nX Y (w1:=W) (es:=#[]) (λk'=>(stepG_enter f (xG hg _) (by simp[base]) (e _).1).trans (congrArg (λes=>GStep.go _ _ es) (e _).2)) A_ J1 (.stop h))
def aAo{rest:List Nat}{k:List Item}(u:Value):Frame.finish ((base 3).at b (.inRegion (aq Tryz.f3 1) (1::rest)::k)) u=(base 3).at (b.put (some 33) u) (.inRegion (aq Tryz.f3 1) rest::k):=by grind[kJ,Frame.finish_at]
end
def aAp{Post:Value->aO->Prop}{W:aO}{rv:Value}{rs:List dX}{a wd x y x' y':Int}(R:cD a)(C:cD wd)(V:cD x)(U:cD y)(gx:cD x')(B:cD y')(h0:∃c e,W.heap[0]?=some (.cells c e)/\∀v∈c,J7 v)(bE:Ki ⟨W.heap.size,W.heap⟩ rv rs)(gb:∀w',kV W w'->Post (.bool true) w'):
 bS prog Post 1 (λ_=>False) 0 (aZ (Frame.enter prog 3 #[rv,.int .i64 a,.int .i64 wd,.agg #[.int .i64 x,.int .i64 y],.agg #[.int .i64 x',.int .i64 y']] .normal) []) W:=by
 obtain⟨cX,aG5,N,S⟩:=h0;have M:0<W.heap.size:=nd N;rw[enter_at func3 ay1];have f:=aAg rv (.int .i64 a) (.int .i64 wd) (.agg #[.int .i64 x,.int .i64 y]) (.agg #[.int .i64 x',.int .i64 y']) (.pointer (some ⟨W.heap.size,0,none⟩)) (.pointer (some ⟨W.heap.size+1,0,none⟩));have hg:=PC rv (.int .i64 a) (.int .i64 wd) (.agg #[.int .i64 x,.int .i64 y]) (.agg #[.int .i64 x',.int .i64 y']);have hsz:(⟨#[rv,.int .i64 a,.int .i64 wd,.agg #[.int .i64 x,.int .i64 y],.agg #[.int .i64 x',.int .i64 y']]++Array.replicate 251 undef,[]⟩:Act).tmps.size=256:=A_;unfold G_ at f;have Ym:Tryz.f3.ntmps-(#[rv,.int .i64 a,.int .i64 wd,.agg #[.int .i64 x,.int .i64 y],.agg #[.int .i64 x',.int .i64 y']]:Array Value).size=251:=A_;rw[Ym];have e0:(⟨#[rv,.int .i64 a,.int .i64 wd,.agg #[.int .i64 x,.int .i64 y],.agg #[.int .i64 x',.int .i64 y']]++Array.replicate 251 undef,[]⟩:Act).tmps[0]?=some rv:=hg 0;have e3:(⟨#[rv,.int .i64 a,.int .i64 wd,.agg #[.int .i64 x,.int .i64 y],.agg #[.int .i64 x',.int .i64 y']]++Array.replicate 251 undef,[]⟩:Act).tmps[3]?=some (.agg #[.int .i64 x,.int .i64 y]):=hg 3;have e4:(⟨#[rv,.int .i64 a,.int .i64 wd,.agg #[.int .i64 x,.int .i64 y],.agg #[.int .i64 x',.int .i64 y']]++Array.replicate 251 undef,[]⟩:Act).tmps[4]?=some (.agg #[.int .i64 x',.int .i64 y']):=hg 4;clear hg;generalize(⟨#[rv,.int .i64 a,.int .i64 wd,.agg #[.int .i64 x,.int .i64 y],.agg #[.int .i64 x',.int .i64 y']]++Array.replicate 251 undef,[]⟩:Act)=b at *;obtain⟨fE,z⟩:∃o,(aq Tryz.f3 0)[0]?=some o/\o.op=.box 25 (.tmp 3)/\o.guard=none/\o.dst=some 8:=by rw[fI (aq Tryz.f3 0)];simp_all
 obtain⟨o1,w⟩:∃o,(aq Tryz.f3 0)[1]?=some o/\o.op=.box 25 (.tmp 4)/\o.guard=none/\o.dst=some 9:=by rw[fI (aq Tryz.f3 0)];grind
 obtain⟨o2,t⟩:∃o,(aq Tryz.f3 0)[2]?=some o/\o.op=.assign (.const (.bool false))/\o.guard=none/\o.dst=some 10:=by rw[fI (aq Tryz.f3 0)];grind
 obtain⟨o3,r⟩:∃o,(aq Tryz.f3 1)[0]?=some o/\o.op=.move (.tmp 0)/\o.guard=none/\o.dst=some 32:=by rw[fI (aq Tryz.f3 1)];grind
 have wX:((W.alloc (.cells #[.int .i64 x,.int .i64 y] 25)).alloc (.cells #[.int .i64 x',.int .i64 y'] 25)).heap.size=W.heap.size+2:=A_;have hold:∀b,b<W.heap.size->((W.alloc (.cells #[.int .i64 x,.int .i64 y] 25)).alloc (.cells #[.int .i64 x',.int .i64 y'] 25)).heap[b]?=W.heap[b]?:=λb f=>(Below.heap_alloc _ _ _ Bg).trans (Below.heap_alloc _ _ _ As);have L:ag ((W.alloc (.cells #[.int .i64 x,.int .i64 y] 25)).alloc (.cells #[.int .i64 x',.int .i64 y'] 25)) W.heap.size #[.int .i64 x,.int .i64 y] 25:=(ag.new W _ _).alloc _;have K:ag ((W.alloc (.cells #[.int .i64 x,.int .i64 y] 25)).alloc (.cells #[.int .i64 x',.int .i64 y'] 25)) (W.heap.size+1) #[.int .i64 x',.int .i64 y'] 25:=by have:=ag.new (W.alloc (.cells #[.int .i64 x,.int .i64 y] 25)) #[.int .i64 x',.int .i64 y'] 25;simp_all
 have F:∀j,nY W (((W.alloc (.cells #[.int .i64 x,.int .i64 y] 25)).alloc (.cells #[.int .i64 x',.int .i64 y'] 25)).at j):=λj=>⟨by show W.heap.size<=((W.alloc (.cells #[.int .i64 x,.int .i64 y] 25)).alloc (.cells #[.int .i64 x',.int .i64 y'] 25)).heap.size;omega,.refl _,Y,Y⟩;have E:(W.alloc (.cells #[.int .i64 x,.int .i64 y] 25)).heap.size=W.heap.size+1:=A_;refine aAi λdC=>kM z.1 z.2.1 z.2.2.1 z.2.2.2 e3 λdQ=>kM w.1 w.2.1 w.2.2.1 w.2.2.2 ((dP Ae).trans e4) λj4=>aAk t.1 t.2.1 t.2.2.1 t.2.2.2 λiQ=>aAj λh9=>aAl r.1 r.2.1 r.2.2.1 r.2.2.2 ((dP Ae).trans ((dP Ae).trans ((dP Ae).trans e0))) λyx=>aAm (kt (by grind[gu])) λm=>?_;have jX:∀j,((W.at j).alloc (.cells #[.int .i64 x,.int .i64 y] 25)).heap.size=W.heap.size+1:=λj=>by show(W.alloc (.cells #[.int .i64 x,.int .i64 y] 25)).heap.size=_;simp
 show bS _ _ _ _ _ (aZ _ [(base 3).at (((((b.put (some 8) (.pointer (some ⟨W.heap.size,0,none⟩))).put (some 9) (.pointer (some ⟨(W.alloc (.cells #[.int .i64 x,.int .i64 y] 25)).heap.size,0,none⟩))).put (some 10) (.bool false)).put (some 32) rv)) _]) (((W.alloc (.cells #[.int .i64 x,.int .i64 y] 25)).alloc (.cells #[.int .i64 x',.int .i64 y'] 25)).at m);rw[E];generalize((W.alloc (.cells #[.int .i64 x,.int .i64 y] 25)).alloc (.cells #[.int .i64 x',.int .i64 y'] 25))=n at *;have a5:Home ⟨W.heap.size,W.heap⟩ prog (λb=>b=0\/b=W.heap.size\/b=W.heap.size+1) (λ_=>False) (n.at m):=by
  refine⟨λb f=>?_,λg hg=>.inl Br,AA,λb f h=>?_,by show W.heap.size<=n.heap.size;omega,λb _ f=>hold b f,AA⟩
  .rcases f with rfl|rfl|rfl
   .refine⟨_,(hold 0 M).trans N,.inl (.cells _ ?_ AA)⟩;obtain⟨l⟩:=cX;refine mQ λv d=>?_;have d:=S v AA;cases v<;>first|exact d.elim|exact .int _ _ |exact .bool _ |exact .string _
   .refine⟨_,L,.inl (.cells _ (mQ (l:=[.int .i64 x,.int .i64 y]) λv d=>?_) AA)⟩;simp at d;rcases d with rfl|rfl<;>exact .int _ _
   .refine⟨_,K,.inl (.cells _ (mQ (l:=[.int .i64 x',.int .i64 y']) λv d=>?_) AA)⟩;simp at d;rcases d with rfl|rfl<;>exact .int _ _
  grind
 refine axG a5 bE λu M' w' O HQ Z J A N1=>?_;rw[aAo];have T:M' W.heap.size:=AA;have Q:M' (W.heap.size+1):=AA;have dB:aS (cq M') (vi (.int .i64 a) (.int .i64 wd) (.agg #[.int .i64 x,.int .i64 y]) (.agg #[.int .i64 x',.int .i64 y']) (.pointer (some ⟨W.heap.size,0,none⟩)) (.pointer (some ⟨W.heap.size+1,0,none⟩)) u).tmps (vi (.int .i64 a) (.int .i64 wd) (.agg #[.int .i64 x,.int .i64 y]) (.agg #[.int .i64 x',.int .i64 y']) (.pointer (some ⟨W.heap.size,0,none⟩)) (.pointer (some ⟨W.heap.size+1,0,none⟩)) u).tmps:=by
  have k:ay (cq M') (.pointer (some ⟨W.heap.size,0,none⟩)) (.pointer (some ⟨W.heap.size,0,none⟩)):=.ptr ⟨⟨Y,T⟩,Y,Y⟩;have hq:ay (cq M') (.pointer (some ⟨W.heap.size+1,0,none⟩)) (.pointer (some ⟨W.heap.size+1,0,none⟩)):=.ptr ⟨⟨Y,Q⟩,Y,Y⟩;have h2:∀x y:Int,ay (cq M') (.agg #[.int .i64 x,.int .i64 y]) (.agg #[.int .i64 x,.int .i64 y]):=λx y=>.pU (mQ (l:=[.int .i64 x,.int .i64 y]) λv d=>by
   simp at d;rcases d with rfl|rfl<;>exact .int _ _)
  unfold vi;simp only[Act.put];refine aS.set (aS.set (aS.set (aS.set (aS.append (mQ (l:=[undef,.int .i64 a,.int .i64 wd,.agg #[.int .i64 x,.int .i64 y],.agg #[.int .i64 x',.int .i64 y']]) λv d=>?_) (Gs _ _)) k _) hq _) (.bool _) _) Z _;simp at d;rcases d with rfl|rfl|rfl|rfl|rfl
  .exact .undef _
  .exact .int _ _
  .exact .int _ _
  .grind
  grind
 have hsz':1<=w'.heap.size:=Nat.le_trans (show 1<=(n.at m).heap.size by show 1<=n.heap.size;omega) J.size;have H:Held ⟨W.heap.size,W.heap⟩ prog M' w' 1 (vi (.int .i64 a) (.int .i64 wd) (.agg #[.int .i64 x,.int .i64 y]) (.agg #[.int .i64 x',.int .i64 y']) (.pointer (some ⟨W.heap.size,0,none⟩)) (.pointer (some ⟨W.heap.size+1,0,none⟩)) u) M' w' (λ_=>False):=.start O hsz' dB Y;have I:∀j,(⟨#[undef,.int .i64 a,.int .i64 wd,.agg #[.int .i64 x,.int .i64 y],.agg #[.int .i64 x',.int .i64 y']]++Array.replicate 251 undef,[]⟩:Act).tmps[j]?=_:=PC _ _ _ _ _;have i:(⟨#[undef,.int .i64 a,.int .i64 wd,.agg #[.int .i64 x,.int .i64 y],.agg #[.int .i64 x',.int .i64 y']]++Array.replicate 251 undef,[]⟩:Act).tmps.size=256:=A_;have dK:af 256 (aK [(1,bt a),(2,bt wd),(8,kF x y),(9,kF x' y'),(33,la (ca (rs.take 40)))]) (vi (.int .i64 a) (.int .i64 wd) (.agg #[.int .i64 x,.int .i64 y]) (.agg #[.int .i64 x',.int .i64 y']) (.pointer (some ⟨W.heap.size,0,none⟩)) (.pointer (some ⟨W.heap.size+1,0,none⟩)) u) w':=by
  unfold vi;generalize(⟨#[undef,.int .i64 a,.int .i64 wd,.agg #[.int .i64 x,.int .i64 y],.agg #[.int .i64 x',.int .i64 y']]++Array.replicate 251 undef,[]⟩:Act)=q at I i;refine af.of (by simp only[gu];exact i) λp k=>?_;simp at k;rcases k with rfl|rfl|rfl|rfl|rfl
  .exact⟨_,(dP (s:=1) Ae).trans ((dP (s:=1) Ae).trans ((dP (s:=1) Ae).trans ((dP (s:=1) Ae).trans (I 1)))),Y⟩
  .exact⟨_,(dP (s:=2) Ae).trans ((dP (s:=2) Ae).trans ((dP (s:=2) Ae).trans ((dP (s:=2) Ae).trans (I 2)))),Y⟩
  .exact⟨_,(dP (s:=8) Ae).trans ((dP (s:=8) Ae).trans ((dP (s:=8) Ae).trans (kt AA))),k0 (A _ _ _ _ (.inr Kg) L)⟩
  .exact⟨_,(dP (s:=9) Ae).trans ((dP (s:=9) Ae).trans (kt (by grind[gu]))),k0 (A _ _ _ _ (.inr K1) K)⟩
  .exact⟨u,kt (by grind[gu]),N1⟩
 refine Wj (n0:=1) (f u) H (rs.take 40) AA R C V U gx B dK Ae λbC M2 P DU D=>gb P ⟨λb h0 f=>D.fF.old b h0 f,λc e fr X=>?_,?_⟩
 .exact D.keep 0 c e fr AA (A 0 c e fr Kg ((hold 0 M).trans X))
 .exact(F m).trans (J.trans D.since)
end
end aG
end Go.Proofs.YtncomcmfgmojkaaGreat
