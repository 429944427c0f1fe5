import Derived.Test.YtnomloiacicoaaaGreatPAP
import Derived.Test.YtnomloiacicoaaaGreatPAT
set_option linter.all false
set_option maxRecDepth 100000
set_option maxHeartbeats 16000000
namespace Go.Proofs.YtnomloiacicoaaaGreat
open Tryz
namespace bd
open RowKit Shelf av b_
section
attribute [local go_sem] Oper.semAt_some
def sC{u:Bool}{gf:Nat}{lb}L X(H:∀t b,X t b->X (t+1) b)w{Row}(C:∀t m W x,t<L.length->Row t m W x->aAZ L X w.heap.size t m W x)(M:∀args w,(callFunc gf args).run (ae prog u) w=.ok (.enter gf args) w)(O:∀n,CN (λe=>e=77) X n (ae prog u) gf lb Row L.length w.heap.size w){c:Nat}(hok:∀d∈L,mC c d)(hc:c*L.length<=1000000)(aM:L.length<=1000):
 Calls (ae prog u) 56 #[.func (.func gf) #[] lb] w λe w'=>∃v gs,e=.returned v/\t7 (X L.length) w.heap.size w' v (ee L) gs/\h7 (X L.length) w.heap.size w w':=by
 refine(callsIn_wide (n:=3)).1 ?_;refine vdi (Xm u) rfl trivial ?_;have pp:∀W:aR,Sem.run (ae prog u) (Instr.makeMap 199 none) W=.ok (.map (some W.heap.size)) (W.alloc (.map #[] 0)):=λW=>rfl;simp[vbk];gi_wp2
 refine Nf (Y:=λe=>e=77) (X:=X) (n:=3) (gf:=gf) (lb:=lb) (w0:=w) (n₀:=w.heap.size) (N:=L.length) (Row:=Row) rfl M (O _) ?hbA BA (λb=>b=w.heap.size+1) (λb hb=>BB) (λt=>Ap (X t) w.heap.size w.heap.size (w.heap.size+1+1) (w.heap.size+1) (ee (L.take t))) (λt W W' h hk hs=>h.oU hk (hs _ rfl)) ?h0
  (λt x a' W=>∃i g v gs,(ag W i (eY g) 148/\L[t]?=some g.1/\eZ W g.2.1 g.1.c9/\(w.heap.size<=g.2.1\/X (t+1) g.2.1))/\(ag W w.heap.size #[v] 143/\t7 (X t) w.heap.size W v (ee (L.take t)) gs/\∀p∈gs,p.2.1≠g.2.1)/\∃z,a'=Xn gf lb w.heap.size i z)
  ?hAx ?assign ?body ?done
 case hbA=>exact(((vaa _ w).alloc JR _).alloc AS _).alloc BA _
 case h0=>
  refine⟨BA,?_,?_,.N,[],?_,⟨rfl,vcg _ _ _ _,AS,AS,AS⟩⟩
  .have:=ag.new ((w.alloc (.cells #[.N] 143)).alloc (.map #[] 0)) #[.map (some (w.heap.size+1))] 199;simp_all
  .have:=vbb (w.alloc (.cells #[.N] 143)) (.map #[] 0);rw[vcw _ _ _ AS];simp_all[i9,nY,ee]
  .exact((ag.new w _ _).alloc _).alloc _
 case hAx=>
  rintro t x a' W W' ⟨i,g,v,gs,⟨h1,h2,h3,h4⟩,⟨r,f,q⟩,P⟩ hk hs;exact⟨i,g,v,gs,⟨hk.cells _ _ _ _ h1,h2,h3.oU hk,h4⟩,⟨hk.cells _ _ _ _ r,f.oU hk,q⟩,P⟩
 case assign=>
  rintro l t x rh W K J I hi a V hK;obtain⟨g,e1,rfl,e3,e4⟩:=C _ _ _ _ a V;have bO:=ag.new W LS 148;gi_wp2_with (with_reducible refine QJ rfl ?_)
  unfold hM;refine QK (b:=W.heap.size) (g:=g) rfl rfl rfl rfl rfl bO λW2 S R D=>?_;have A:c6 W W2:=((vaa _ W).alloc JR _).trans (D _ JR);clear R D bO;gi_wp2
  have B:=gP.below A;have o:=gP.below (I.trans (A.mono I.size));obtain⟨v,gs,aZ,a3⟩:=J.ar;refine hK _ _ A ⟨W.heap.size,g,v,gs,⟨S,e1,e3.oU B,?_⟩,⟨o.cells _ _ _ _ aZ,a3.oU o,λp E=>?_⟩,_,rfl⟩
  .rcases e4 with h|h
   .exact .inl (vad J.size h)
   grind
  .rcases e4 with h|h
   .have:=(a3.i_ p E).lt;omega
   .intro e;rcases a3.old p E with k|k
    .omega
    grind
 case body=>
  rintro l t x a' W hI a ⟨i,g,v,gs,⟨h1,h2,h3,h4⟩,⟨r,f,q⟩,z,rfl⟩ mG;have e2:L[t]=g.1:=(vab.1 h2).2;have hm:c*t<=c*L.length:=Nat.mul_le_mul_left _ AQ;have Q:c*(t+1)<=c*L.length:=Nat.mul_le_mul_left _ AQ;rw[Nat.mul_succ]at Q;rw[LX L a,e2];cases hq:eX g.1.key (ee (L.take t))with
  |none=>have hlen:=LZ (L.take t);rw[List.length_take]at hlen;exact aA0 (q:=g.1.key) (X t) (X (t+1)) w l W hI r f h1 h3 h4 q (H t) hq z AQ
  |some j=>
   obtain⟨hj,-⟩:=B0 hq;obtain⟨s,cap,rfl⟩:∃s cap,v=.S s 0 gs.length cap:=by
    rcases f.own.2 with⟨-,h⟩|⟨s,cap,bq,e,-⟩
    .have:=f.len;omega
    grind
   exact aA5 (q:=g.1.key) (X t) (X (t+1)) w l W hI r f h1 h3 q (H t) hq z (c:=c*t+c) AQ (λd hd=>(yW hok t AQ d hd).mono AQ) ((e2▸hok _ (vae a):mC c g.1).mono AQ)
 case done=>
  rintro W hI F hK;rw[List.take_length]at hI;obtain⟨v,gs,hv,y⟩:=hI.ar;obtain⟨fd,aW,rfl⟩:=mg y.own;obtain⟨T,-,-⟩:=hv.all;have U:Hid _:=y;have Z:Hid _:=F;clear y hI F;gi_wp2
  refine⟨AS,.inl ⟨_,_,rfl,veb hK,?_⟩⟩;have hbA:c6 w (((w.alloc (.cells #[.N] 143)).alloc (.map #[] 0)).alloc (.cells #[.map (some (w.heap.size+1))] 199)):=(((vaa _ w).alloc JR _).alloc AS _).alloc BA _;exact⟨_,results_tmp rfl _ _ _,_,rfl,⟨gs,U.out.oU (CP hK)⟩,((h7.of hbA).trans Z.out).trans (.of (tn _ BA))⟩
end
variable{w w':aR}{n:Nat}
section
attribute [local go_sem] Oper.semAt_some
def Xv u:(ae prog u).funcs[(96:Nat)]?=some f96:=bb (upd:=u) func96 A8
def nB(w:aR)(v:Value)(gs:List cY):Prop:=∃bZ cap,v=.slice bZ gs.length cap/\gs.length<=cap/\(0<gs.length->∃g,bZ=some ⟨g,0,none⟩/\∀t(h:t<gs.length) j,j<18->w.cell? (.a g (t*18+j))=(eY gs[t])[j]?)
def sk g{j}(a:j<18):∃u,(eY g)[j]?=some u:=⟨_,vas a⟩
def nB.keeps{v gs}(h:nB w v gs)(hk:bp w w'):nB w' v gs:=by obtain⟨bZ,cap,e,h1,h2⟩:=h;refine⟨bZ,cap,e,h1,λh0=>?_⟩;obtain⟨g,e2,h3⟩:=h2 h0;refine⟨g,e2,λt ht j b=>?_⟩;obtain⟨u,a⟩:=sk gs[t] b;rw[a];exact hk _ _ _ ((h3 t ht j b).trans a)
def t7.cells{X n₀ W v ds gs}(h:t7 X n₀ W v ds gs):nB W v gs:=by
 have a:=h.own;rcases id a.2 with⟨rfl,h0⟩|⟨g,cap,bq,rfl,-,-,c,-⟩
 .exact⟨none,0,by rw[h0],AQ,λx=>AQ⟩
 .refine⟨_,cap,Y,c,λ_=>⟨g,Y,λt ht j b=>?_⟩⟩;rw[QO a _ (by rw[IA];omega),LU gs t ht j b]
def Xw(gs:List cY)(X:ubh)(n₀:Nat)(w0:aR)(t aKu:Nat)(W:aR)(x:Value):Prop:=∃h:t<gs.length,x=s3 gs[t]/\h7 (X t) n₀ w0 W
def se{u Y}gs v bO X(r:∀t b,X t b->X (t+1) b)w0(hv:nB w0 v gs)(A:∀(g:Nat) u,w0.cell? (.a g 1)=some (.bool u)->∀t,t<=gs.length->¬X t g)(h1:w0.cell? (.a bO 0)=some v)(hsm:gs.length<=1000000):
 CN Y X n (ae prog u) 96 #[.P bO 0] (Xw gs X w0.heap.size w0) gs.length w0.heap.size w0:=by
 obtain⟨bZ,cap,rfl,sJ,hcell⟩:=hv;intro l S J W q E C N h0;have R:=JD E C;clear C E;have w:=bp.cy q;have D:=w _ _ _ h1;refine callsIn_of_wp (Xv u) rfl trivial ?_ rfl;simp[vbk];gi_wp2
 gi_loopw [7] (λp wr=>∃i:Nat,i<=gs.length/\p=.I (i:Int)/\J i wr/\h7 (X i) w0.heap.size w0 wr/\h7 (X i) w0.heap.size W wr) (λp _=>gs.length-(intOf p).toNat)
 case atStart=>exact⟨0,vax _,rfl,h0,.of q,.of (vaa _ _)⟩
 case round=>
  obtain⟨i,li,rfl,o,K,T⟩:=hrel;have x:Hid (J i wr):=o;have k:Hid (h7 (X i) w0.heap.size w0 wr):=K;have F:Hid (h7 (X i) w0.heap.size W wr):=T;clear o K T;by_cases c:i<gs.length
  .obtain⟨g,z,f⟩:=hcell AQ;subst z;have H:w0.cell? (.a g 1)=some (.bool gs[0].1.key.1.bR):=f 0 AQ 1 AF;replace f:=f i c;obtain⟨a,s⟩:∃a,a=gs[i]:=⟨_,rfl⟩;rw[<-s]at f;have I:g<w0.heap.size:=ef (f 0 AF);have HC:Hid (∀j,j<18->wr.cell? (.a g (i*18+j))=(eY a)[j]?):=by have hz:=A g _ H i li;exact λj o=>(vba (k.out.2 g I hz)).trans (f j o)
   have QR:Hid (a=gs[i]):=s;clear H;have dw:g<wr.heap.size:=vak I k.out.1.size;have Z:(i:Int)<(gs.length:Int):=AQ;have ur:(0:Int)<=(i:Int):=AQ;have P:Hid (w0.heap.size<=wr.heap.size):=k.out.1.size;clear f hcell h0 q w D h1 s A;gi_wp2_with (with_reducible refine LV rfl ?_)
   unfold hM;refine LW (b:=g) (d:=i*18) (g:=a) rfl rfl AB HC.out ?_;have bO:=ag.new wr LS 148;gi_wp2_with (with_reducible refine QJ rfl ?_)
   unfold hM;refine QK (b:=wr.heap.size) (g:=a) rfl rfl rfl rfl rfl bO λB M k2 L=>?_;have m:c6 wr B:=((vaa _ wr).alloc JR _).trans (L _ JR);clear k2 L bO;have FP:Hid _:=N i (s3 a) wr B x.out m (R _ _ _ x.out m) c ⟨c,by rw[QR.out],k.out.trans (.of (m.mono P.out))⟩;have Q:Hid (h7 (X i) w0.heap.size wr B):=.of (m.mono P.out);have y:Hid _:=M;clear N R m M HC;gi_wp2_with (with_reducible refine LV rfl ?_)
   unfold hM;refine LW (b:=wr.heap.size) (d:=0) (g:=a) rfl rfl rfl (Xl y.out) ?_;obtain⟨fn,tmps,assign,body,hy,U⟩:=FP.out;gi_wp2
   refine⟨λh=>CI,U.mono ?_⟩;rintro e mH ⟨rfl,V,O,-⟩;clear U hy;gi_wp2
   go_roundw
   case rel=>exact⟨i+1,AQ,AS,V,(k.out.mono (r i)).trans ((Q.out.mono (r i)).trans O),(F.out.mono (r i)).trans ((Q.out.mono (r i)).trans O)⟩
   case measure=>simp[intOf];omega
  .have Z:¬(i:Int)<(gs.length:Int):=by omega
   clear hcell h0 q w D h1 A;gi_wp2
   go_end0
   have e:gs.length=i:=AQ;rw[e];exact⟨⟨_,rfl⟩,x.out,F.out⟩
end
def rX:vfd.funcs[(211:Nat)]?=some f211:=vfa func211
@[simp] theorem aKB:dc false 211:=cR rX AD
theorem rC u:(ae prog u).funcs[(57:Nat)]?=some f57:=bb (upd:=u) func57 A8
@[simp] theorem aBi (u:Bool) (args:dX) (w:aR):Sem.run (ae prog u) (callFunc 57 args) w=.ok (.enter 57 args) w:=cR (rC u) A8 args w
theorem aBj:vfd.funcs[(209:Nat)]?=some f209:=vfa func209
def aBk:gE prog false f212=true:=by decide+kernel
abbrev k7(bN:pb)(aW:Value):Array Value:=#[.I bN.op,.I bN.a,.I 0,.N,.slice bN.ka bN.br bN.kc,.N,.slice bN.bZ bN.cA bN.gc,aW]
def aBl(bN:pb)(ca:uag)(n cc fr cZ:Nat)(w:aR):
 Calls vfd 211 #[fI bN (.slice ca n cc),.I fr,.I cZ] w λe w'=>e=.returned (.func (.func 212) #[] #[.P w.heap.size 0,.P (w.heap.size+1) 0,.P (w.heap.size+1+1) 0])
  /\ag w' w.heap.size (k7 bN (.slice ca n cc)) 150/\ag w' (w.heap.size+1) #[.I fr] 3/\ag w' (w.heap.size+1+1) #[.I cZ] 3/\c6 w w':=by
 go_enter rX,ntmps211
 go_wp2
 go_ret
 have b1:=((ag.new w (k7 bN (.slice ca n cc)) 150).alloc (.cells #[.I (fr:Int)] 3)).alloc (.cells #[.I (cZ:Int)] 3);have b:=(ag.new (w.alloc (.cells (k7 bN (.slice ca n cc)) 150)) #[.I (fr:Int)] 3).alloc (.cells #[.I (cZ:Int)] 3);have a:=ag.new ((w.alloc (.cells (k7 bN (.slice ca n cc)) 150)).alloc (.cells #[.I (fr:Int)] 3)) #[.I (cZ:Int)] 3;simp only[ved]at b a;exact⟨Y,b1,b,a,(((vaa _ w).alloc JR _).alloc AS _).alloc BA _⟩
def rB(u:Bool)(g:uag)(n cap:Nat)(w:aR):
 Calls (ae prog u) 57 #[.slice g n cap] w λe w'=>e=.returned (.func (.func 96) #[] #[.P w.heap.size 0])/\ag w' w.heap.size #[.slice g n cap] 143/\c6 w w':=by
 go_enter (rC u),ntmps57
 go_wp2
 go_ret
 exact⟨Y,ag.new w _ _,(vaa _ w).alloc JR _⟩
def L4(gs:List cY)(w:aR)(v:Value):Prop:=∃bO v',v=.func (.func 96) #[] #[.P bO 0]/\w.cell? (.a bO 0)=some v'/\nB w v' gs
def r7(w:aR)(gs:List cY)(ew:dL):Prop:=(∀p∈gs,eZ w p.2.1 p.1.c9/\ew p.2.1)/\gs.Pairwise λp q=>p.2.1≠q.2.1
structure p7(w:aR)(xs:uav)(vs:Nat->List bz)(G:Nat->aG)(br:uac)(aF:g7)(kb cL cb co aU bA:Nat):Prop where
 cell:∀j u,(two xs)[j]?=some u->w.cell? (.a cb (co+j))=some u
 row:∀i(h:i<xs.length),QS w xs[i] br aF (vs i) (G i)
 iT:∀i(h:i<br.length),w.cell? (.a kb (cL+i))=some (.I (br[i]:Int))
 e5:vo w aU bA aF
variable{aU bA cL cb co kb:Nat}{xs:uav}{aF:g7}
def p7.im{vs G br}(h:p7 w xs vs G br aF kb cL cb co aU bA){kc}(b:br.length<=4):h5 w (.S kb cL br.length kc) (br.map Int.ofNat):=by refine⟨some ⟨kb,cL,none⟩,kc,AS,AA,λi hi=>⟨kb,cL,Y,?_⟩⟩;have a:i<br.length:=AA;have:=h.iT i a;grind[sg]
def p7.keeps{vs G br}(h:p7 w xs vs G br aF kb cL cb co aU bA)(hk:bp w w'):p7 w' xs vs G br aF kb cL cb co aU bA:=
 ⟨λj u e=>hk _ _ _ (h.cell j u e),λi hi=>⟨(h.row i hi).cw,bo.mono Hc hk (h.row i hi).kM,(h.row i hi).key,(h.row i hi).i_,(h.row i hi).XA,(h.row i hi).XB,(h.row i hi).num⟩,λi hi=>hk _ _ _ (h.iT i hi),λi hi=>⟨hk _ _ _ (h.e5 i hi).1,hk _ _ _ (h.e5 i hi).2⟩⟩
abbrev gy(op a:Int)(kb cL kl kc aU bA gc:Nat):pb:=⟨op,a,some ⟨kb,cL,none⟩,kl,kc,some ⟨aU,bA,none⟩,5,gc⟩
def jF(G:Nat->aG)(fr cZ:Nat):List aG:=(List.range (cZ-fr)).map λk=>G (fr+k)
theorem Ar G fr cZ:(jF G fr cZ).length=cZ-fr:=by simp[jF]
def aBm G fr cZ{t}(h:t<cZ-fr):(jF G fr cZ)[t]?=some (G (fr+t)):=by simp[jF,h]
theorem aBn op a xs vs G br aF(h4:br.length<=4)(J:aF.length=5)kb cL kc cb co cc aU bA gc fr cZ w(hin:p7 w xs vs G br aF kb cL cb co aU bA)(r:xs.length<=cc)(D:fr<cZ)(K:cZ<=xs.length)(I:xs.length<=1000)(hok:∀i,i<xs.length->mC 1 (G i)):
 Calls vfd 209 #[fI (gy op a kb cL br.length kc aU bA gc) (.S cb co xs.length cc),.I fr,.I cZ] w λe w'=>∃v gs,e=.returned v/\L4 gs w' v/\gs.map Prod.fst=ee (jF G fr cZ)/\r7 w' gs (λb=>w.heap.size<=b):=by
 have A:Hid (p7 w xs vs G br aF kb cL cb co aU bA):=hin;have B:Hid _:=hok;clear hin hok;go_enter aBj,ntmps209
 go_wp2_with (go_at_call 211;apply qq)
 unfold hM;refine(aBl (gy op a kb cL br.length kc aU bA gc) _ xs.length cc fr cZ _).mono ?_;have hbA:c6 w (w.alloc (.cells (k7 (gy op a kb cL br.length kc aU bA gc) (.S cb co xs.length cc)) 150)):=(vaa _ w).alloc JR _;generalize w.alloc (.cells (k7 (gy op a kb cL br.length kc aU bA gc) (.S cb co xs.length cc)) 150)=o at *;rintro e j ⟨rfl,aZ,a3,q3,g⟩;have s:=hbA.trans (g.mono hbA.size);have hin:=A.out.keeps (bp.cy s);have z:Hid _:=sC (u:=false) (gf:=212) (lb:=#[.P o.heap.size 0,.P (o.heap.size+1) 0,.P (o.heap.size+1+1) 0]) (jF G fr cZ) rf LK j (Row:=rY G fr)
  (λt m W x ht F=>by
   obtain⟨gF,rfl,h1,h2⟩:=F;rw[Ar]at ht;exact⟨(G (fr+t),gF,5),aBm G fr cZ ht,Y,.of h2,.inl h1⟩)
  (λargs w=>cR rZ aBk args w)
  (λn=>by rw[Ar];exact aBf xs vs G br aF h4 J _ cb co cc aU bA gc fr cZ j hin.cell hin.row r D K AQ (hin.im h4) hin.e5 _ _ _ (aZ.rules.1 4) (aZ.rules.1 6) (aZ.rules.1 7) (a3.rules.1 0) (q3.rules.1 0))
  (c:=1) (λd hd=>by
   obtain⟨k,hk,rfl⟩:=vbl.1 hd;have:=vdx.1 hk;exact B.out _ AQ) JQ JQ
 have H:Hid (c6 w j):=s;clear aZ a3 q3 g s hin A hbA B;go_wp2_with (go_at_call 56;apply qq)
 unfold hM;refine vdm z.out ?_;rintro e C ⟨v,gs,rfl,q,E⟩;obtain⟨N,M,rfl⟩:=mg q.own;have f:Hid _:=q;clear z q E;go_wp2_with (go_at_call 57;apply qq)
 unfold hM;refine(rB false _ _ _ _).mono ?_;rintro e L ⟨rfl,aZ,g⟩;have l:Hid _:=And.intro aZ g;clear aZ g;go_wp2
 go_ret
 refine⟨_,gs,Y,⟨C.heap.size,_,Y,l.out.1.rules.1 0,f.out.cells.keeps (bp.cy l.out.2)⟩,f.out.ds,λp y=>⟨(f.out.i_ p y).oU (.below l.out.2),?_⟩,f.out.ne⟩;have:=H.out.size;rcases f.out.old p y with h|h
 .omega
 .exact h.elim
def rq:vfd.funcs[(220:Nat)]?=some f220:=vfa func220
@[simp] theorem aKC:dc false 220:=cR rq AD
theorem ri:vfd.funcs[(219:Nat)]?=some f219:=vfa func219
theorem rb:(vfd.info? 94).map (λi=>(i.zero,i.size,i.bytes))=some (some (.agg #[.F,.I 0,.I 0,.E]),4,40):=by kernel_rfl
abbrev wX(d:bz):List Value:=[.bool d.bR,.I d.num,.I d.dg,.string d.text]
abbrev QU(d:bz):Array Value:=#[.bool d.bR,.I d.num,.I d.dg,.string d.text]
abbrev B2:Array Value:=#[.F,.I 0,.I 0,.E]
def qP d:∀u∈wX d,u.oneCell'=true:=by intro u a;simp at a;rcases a with rfl|rfl|rfl|rfl<;>rfl
def m5:List bz->List Value
 | []=>[]
 |d::l=>wX d++m5 l
theorem qK:∀a b,m5 (a++b)=m5 a++m5 b
 | [],_=>rfl
 |d::a,b=>by simp[m5,qK a b]
def aBp(b o c:Nat)(d:bz)(w:aR)(h:∀j u,(wX d)[j]?=some u->w.cell? (.a b (o+j))=some u):
 Calls vfd 220 #[.S b o 1 c] w λe w'=>∃v,e=.returned v/\w'.ownsRow w.heap.size 94 4 v 1 (wX d)/\c6 w w':=by
 have z:∀W:aR,Sem.run vfd (binOp .eql 75 (.S b o 1 c) (.N)) W=.ok (.F) W:=λW=>AB;have m:Hid _:=h;have l:Hid ((w.alloc (.cells #[] 94)).ownsRow w.heap.size 94 4 (.S w.heap.size 0 0 0) 0 []):=⟨Y,.inr ⟨w.heap.size,0,#[],Y,vac _,ag.new w _ _,vac _,vax _,Y,Y⟩⟩;have a:Hid (c6 w (w.alloc (.cells #[] 94))):=(vaa _ w).alloc JR _;clear h;go_enter rq,ntmps220
 obtain⟨s,hi,q,r,p⟩:=vce rb;go_wp2_with (at_builtin;apply qq)
 unfold hM;refine wpList_append_own _ Y _ _ 75 Y w.heap.size 94 s _ 4 40 ((tf _ _ _).trans underlying75) hi q r p Y AF (.S w.heap.size 0 0 0) 0 [] Y l.out ⟨b,o,none⟩ 1 c (wX d) Y Y (λj u t=>by rw[vdn];exact bp.cy a.out _ _ _ (m.out j u t)) (qP d) Dv AQ a.out.size ?_;intro v' i f k _;obtain⟨y,bt,rfl⟩:=ven f;have n:Hid (i.ownsRow w.heap.size 94 4 (.S y 0 (0+1) bt) (0+1) ([]++wX d)):=f;have x:Hid (c6 w i):=a.out.grown k a.out.size (λg hg=>(World.ownsRow.lt l.out g hg).1);clear f k;go_wp2
 go_ret
 exact⟨_,Y,n.out,x.out⟩
def jX(d:aG)(aF:g7):List bz:=d.key.1::List.zipWith (λa t=>iw a.1 t) aF d.c9
theorem aBq{d i}(h1:i<aF.length)(h2:i<d.c9.length):m5 ((jX d aF).take (i+1+1))=m5 ((jX d aF).take (i+1))++wX (iw aF[i].1 d.c9[i]):=by
 have a:i+1<(jX d aF).length:=by simp[jX];omega
 grind[List.take_succ_eq_append_getElem,qK,m5,jX]
def QV{d}(h1:aF.length=5)(h2:d.c9.length=5):(jX d aF).length=6:=by grind[jX]
def aBr(op a:Int)(kb cL kc aU bA gc:Nat)(ca:uag)(H cc:Nat)(g:cY)(aF:g7)(aP:aF.length=5)(R:g.1.c9.length=5)(l:∀t∈g.1.c9,r4 t.sum)(Q:∀i(h:i<aF.length)(h':i<g.1.c9.length),r5 aF[i].1 g.1.c9[i]=true)(w:aR)(yl:vo w aU bA aF)(A:∀i(h:i<g.1.c9.length) j,j<11->w.cell? (.a g.2.1 (i*11+j))=(ft g.1.c9[i])[j]?):
 Calls vfd 219 #[fI (gy op a kb cL 1 kc aU bA gc) (.slice ca H cc),s3 g] w λe w'=>(∃v,e=.returned v/\w'.ownsRow w.heap.size 94 4 v 6 (m5 (jX g.1 aF)))/\c6 w w':=by
 have vg:Hid (vo w aU bA aF/\∀i(h:i<g.1.c9.length) j,j<11->w.cell? (.a g.2.1 (i*11+j))=(ft g.1.c9[i])[j]?):=⟨yl,A⟩;have I:Hid _:=And.intro aP (And.intro R (And.intro l Q));have Z:Hid (g.2.1<w.heap.size):=ef (A 0 AQ 0 AF);clear yl A aP R l Q;have b1:=(ag.new w (k7 (gy op a kb cL 1 kc aU bA gc) (.slice ca H cc)) 156).alloc (.cells (eY g) 148);have b2:=ag.new (w.alloc (.cells (k7 (gy op a kb cL 1 kc aU bA gc) (.slice ca H cc)) 156)) (eY g) 148;rw[ved]at b2;have hbA:c6 w ((w.alloc (.cells (k7 (gy op a kb cL 1 kc aU bA gc) (.slice ca H cc)) 156)).alloc (.cells (eY g) 148)):=((vaa _ w).alloc JR _).alloc AS _;refine(callsIn_wide (n:=3)).1 ?_;refine callsIn_of_wp ri Y trivial ?_ Y;simp[vbk];obtain⟨dG,d_,eN⟩:=b1.all;obtain⟨lL,oM,px⟩:=b2.all;gi_wp2_with (gi_at_call 220;apply qq)
 clear dG d_ eN lL oM px;have B:Hid _:=And.intro b1 (And.intro b2 hbA);clear b1 b2 hbA;generalize(w.alloc (.cells (k7 (gy op a kb cL 1 kc aU bA gc) (.slice ca H cc)) 156)).alloc (.cells (eY g) 148)=iE at *;refine⟨NE,(callsIn_wide.2 (aBp _ _ _ g.1.key.1 _ (λj u hu=>?_))).mono ?_⟩
 .rw[B.out.2.1.rules.1];grind
 rintro e LG ⟨v1,rfl,dS,Aj⟩;obtain⟨a1,c1,rfl⟩:=mg dS;have h6:Hid (LG.ownsRow w.heap.size 94 4 (.slice a1 1 c1) 1 (m5 ((jX g.1 aF).take 1))):=⟨dS.1,dS.2.imp_right λ⟨g,cap,bq,E,k2,k3⟩=>⟨g,cap,bq,E,vad B.out.2.2.size k2,k3⟩⟩;have b4:Hid (ag LG w.heap.size (k7 (gy op a kb cL 1 kc aU bA gc) (.slice ca H cc)) 156/\ag LG (w.heap.size+1) (eY g) 148/\c6 w LG):=⟨B.out.1.call Aj,B.out.2.1.call Aj,B.out.2.2.trans (Aj.mono B.out.2.2.size)⟩;clear dS Aj B;obtain⟨dG,d_,eN⟩:=b4.out.1.all;gi_wp2
 clear dG d_ eN;gi_loopw [5,6,9,21] (λsO _ _ p W=>∃(i:Nat)(P:uag)(O:Nat),i<=5/\p=.I (i:Int)/\sO=.slice P (i+1) O/\W.ownsRow w.heap.size 94 4 (.slice P (i+1) O) (i+1) (m5 ((jX g.1 aF).take (i+1)))/\ag W (w.heap.size+1) (eY g) 148/\c6 w W) (λ_ _ _ p _=>5-(intOf p).toNat)
 case atStart=>exact⟨0,a1,c1,AQ,Y,Y,h6.out,b4.out.2.1,b4.out.2.2⟩
 case round=>
  obtain⟨i,P,O,aA7,rfl,rfl,L,Gs,eC⟩:=hrel;have h6:Hid (wr.ownsRow w.heap.size 94 4 (.slice P (i+1) O) (i+1) (m5 ((jX g.1 aF).take (i+1)))):=L;have xq:Hid (ag wr (w.heap.size+1) (eY g) 148):=Gs;have F:Hid (c6 w wr):=eC;clear L Gs eC;by_cases hlt:i<5
  .have He:i<aF.length:=by have:=I.out.1;omega
   have kh:i<g.1.c9.length:=by have:=I.out.2.1;omega
   have mb:(i:Int)<5:=AQ;have ur:(0:Int)<=(i:Int):=AQ;have EY:IntKind.wrap .i64 ((i:Int)+1)=((i+1:Nat):Int):=CL;have bx:=bp.cy F.out;obtain⟨N,E⟩:=vg.out.1 i He;replace N:=bx _ _ _ N;replace E:=bx _ _ _ E;obtain⟨o,FQ⟩:∃x,x=aF[i].1:=⟨_,Y⟩;obtain⟨ac,X⟩:∃x,x=aF[i].2:=⟨_,Y⟩;obtain⟨t,QW⟩:∃x,x=g.1.c9[i]:=⟨_,Y⟩;obtain⟨d,hd⟩:∃d,d=iw o t:=⟨_,Y⟩;rw[<-FQ]at N;rw[<-X]at E;have xR:=ef N;have fh:Hid (∀j,j<11->wr.cell? (.a g.2.1 (i*11+j))=(ft t)[j]?):=λj M=>by rw[QW];exact(vba (F.out.block _ Z.out)).trans (vg.out.2 i kh j M)
   have sH:Hid (∀W:aR,Calls vfd 221 #[jW t,.I o] W λe w'=>e=.returned (.tuple #[h8 d,.T])/\c6 W w'):=λW=>by have h1:=az7 o t (QW▸I.out.2.2.1 _ (vae kh)) W;rw[<-hd,show r5 o t=true by rw[FQ,QW];exact I.out.2.2.2 i He kh]at h1;exact h1
   have V:Hid (m5 ((jX g.1 aF).take (i+1+1))=m5 ((jX g.1 aF).take (i+1))++wX d):=by grind[Hid,aBq]
   have U:Hid (g.2.1<wr.heap.size):=vak Z.out F.out.size;clear FQ X QW hd bx He kh;have dZ:Hid (c6 wr (wr.alloc (.cells #[.I o,.I ac] 31)).drew):=((vaa _ wr).alloc JR _).drew;have HC:Hid (ag (wr.alloc (.cells #[.I o,.I ac] 31)).drew (w.heap.size+1) (eY g) 148/\(∀j,j<11->(wr.alloc (.cells #[.I o,.I ac] 31)).drew.cell? (.a g.2.1 (i*11+j))=(ft t)[j]?)/\ag (wr.alloc (.cells #[.I o,.I ac] 31)).drew wr.heap.size #[.I o,.I ac] 31):=⟨(xq.out.alloc _).drew,λj M=>(vba (dZ.out.block _ U.out)).trans (fh.out j M),(ag.new wr _ _).drew⟩;clear fh U;gi_wp2
   clear N E xR;generalize wr.alloc (.cells #[.I o,.I ac] 31)=f at *;refine wpIn_region_any AB (uP (C:=λk=>ag k (w.heap.size+1) (eY g) 148/\(∀j,j<11->k.cell? (.a g.2.1 (i*11+j))=(ft t)[j]?)/\ag k wr.heap.size #[.I o,.I ac] 31) _ _ _ _ ?_);refine c0 (i:=0) (v:=.P (w.heap.size+1) 17) Y AB AB AB Jf HC.out ⟨Ao,λk l=>Ak,(λc h=>nomatch h),λ_=>Y⟩ ?_;refine c0 (i:=2) (v:=.I (i:Int)) Y AB AB AB Jf HC.out ⟨Ao,λk l=>Ak,(λc h=>nomatch h),λ_=>Y⟩ ?_;refine c0 (i:=5) (v:=.P wr.heap.size 0) Y AB AB AB Jf HC.out ⟨Ao,λk l=>Ak,(λc h=>nomatch h),λ_=>Y⟩ ?_;refine c0 (i:=1) (v:=p5 g.2.1 g.2.2) Y AB AB AB Jf HC.out ⟨Ao,λk l=>by obtain⟨cC,dm,gB⟩:=l.1.all;go_simp,(λc h=>nomatch h),λ_=>Y⟩ ?_;refine c0 (i:=6) (v:=.I o) Y AB AB AB Jf HC.out ⟨Ao,λk l=>by obtain⟨cC,dm,gB⟩:=l.2.2.all;go_simp,(λc h=>nomatch h),λ_=>Y⟩ ?_;refine c0 (i:=3) (v:=.P g.2.1 (i*11)) Y AB AB AB Jf HC.out ⟨Ao,λk l=>Ak,(λc h=>nomatch h),λ_=>Y⟩ ?_;refine c0 (i:=4) (v:=jW t) Y AB AB AB Jf HC.out ⟨Ao,λk l=>by exact Xk false Y AB l.2.1,(λc h=>nomatch h),λ_=>Y⟩ ?_;refine P4 (i:=7) (j:=11) AB Y Y (λK hK=>?g1) (λK hK=>?g2);all_goals have jM:Hid (w.heap.size+1<f.drew.heap.size/\g.2.1<f.drew.heap.size/\wr.heap.size<f.drew.heap.size):=⟨HC.out.1.all.2.2,ef (HC.out.2.1 0 AF),HC.out.2.2.all.2.2⟩
   all_goals have m:Hid (∀k,Below f.drew.heap.size f.drew k->ag k (w.heap.size+1) (eY g) 148/\(∀j,j<11->World.cell? k ⟨g.2.1,i*11+j,none⟩=(ft t)[j]?)/\ag k wr.heap.size #[.I o,.I ac] 31):=λk A=>⟨HC.out.1.call A,λj M=>(vba (A.block _ jM.out.2.1)).trans (HC.out.2.1 j M),HC.out.2.2.call A⟩
   case' g1=>
    go_simp
    refine⟨NE,(callsIn_wide.2 (sH.out _)).mono ?_⟩;rintro e y ⟨rfl,cp⟩;have q:Hid (Below f.drew.heap.size f.drew y):=cp;refine hK _ _ (m.out _ cp) ?_;clear hK K cp;refine c0 (i:=8) (v:=.tuple #[h8 d,.T]) Y AB AB AB Jf (m.out _ q.out) ⟨Ao,λk l=>Ak,(λc h=>nomatch h),λ_=>Y⟩ ?_;refine c0 (i:=9) (v:=h8 d) Y AB AB AB Jf (m.out _ q.out) ⟨Ao,λk l=>Ak,(λc h=>nomatch h),λ_=>Y⟩ ?_;refine c0 (i:=10) (v:=.T) Y AB AB AB Jf (m.out _ q.out) ⟨Ao,λk l=>Ak,(λc h=>nomatch h),λ_=>Y⟩ ?_;refine fc (i:=11) AB Y λK hK=>?_;go_simp
    have z:Hid (ag (y.alloc (.cells B2 94)) y.heap.size B2 94):=ag.new y _ _;have s:Hid (Below f.drew.heap.size f.drew (y.alloc (.cells B2 94))):=q.out.alloc q.out.size _;have D:Hid (f.drew.heap.size<=y.heap.size):=q.out.size;refine hK _ _ (m.out _ s.out) ?_;clear hK K;unfold B2 at z s;generalize y.alloc (.cells #[.F,.I 0,.I 0,.E] 94)=w4 at *;clear q;generalize y.heap.size=r at *
   case' g2=>
    go_simp
    have z:Hid (ag (f.drew.alloc (.cells B2 94)) f.drew.heap.size B2 94):=ag.new f.drew _ _;have q:Hid (Below f.drew.heap.size f.drew (f.drew.alloc (.cells B2 94))):=(vaa _ _).alloc JR _;refine hK _ _ (m.out _ q.out) ?_;clear hK K;refine fc (i:=7) AB Y λK hK=>?_;go_simp
    refine⟨NE,(callsIn_wide.2 (sH.out _)).mono ?_⟩;rintro e w4 ⟨rfl,nP⟩;have s:Hid (Below f.drew.heap.size f.drew w4):=q.out.trans (nP.mono q.out.size);replace z:Hid (ag w4 f.heap.size B2 94):=z.out.call nP;refine hK _ _ (m.out _ s.out) ?_;clear hK K nP;refine c0 (i:=8) (v:=.tuple #[h8 d,.T]) Y AB AB AB Jf (m.out _ s.out) ⟨Ao,λk l=>Ak,(λc h=>nomatch h),λ_=>Y⟩ ?_;refine c0 (i:=9) (v:=h8 d) Y AB AB AB Jf (m.out _ s.out) ⟨Ao,λk l=>Ak,(λc h=>nomatch h),λ_=>Y⟩ ?_;refine c0 (i:=10) (v:=.T) Y AB AB AB Jf (m.out _ s.out) ⟨Ao,λk l=>Ak,(λc h=>nomatch h),λ_=>Y⟩ ?_;have D:Hid (f.drew.heap.size<=f.heap.size):=vac _;clear q;obtain⟨r,Pd⟩:∃b,b=f.heap.size:=⟨_,Y⟩;rw[<-Pd]at z D⊢;clear Pd
   all_goals
    obtain⟨cC,dm,gB⟩:=z.out.all;refine fc (i:=12) AB Y λK hK=>?_;go_simp
    have bV:=bd.ag.cast ((((z.out.set 0 (.bool d.bR)).set 1 (.I d.num)).set 2 (.I d.dg)).set 3 (.string d.text)) (show _=QU d by grind);have L6:Hid (Below f.drew.heap.size f.drew _):=(((s.out.setCell (p:=⟨r,0,none⟩) D.out (.bool d.bR)).setCell (p:=⟨r,1,none⟩) D.out (.I d.num)).setCell (p:=⟨r,2,none⟩) D.out (.I d.dg)).setCell (p:=⟨r,3,none⟩) D.out (.string d.text);refine hK _ _ (m.out _ L6.out) ?_;clear hK K cC dm gB;generalize(((w4.setCell ⟨r,0,none⟩ (.bool d.bR)).setCell ⟨r,1,none⟩ (.I d.num)).setCell ⟨r,2,none⟩ (.I d.dg)).setCell ⟨r,3,none⟩ (.string d.text)=J at *;have Fv:Hid (ag J r (QU d) 94):=bV;refine fc (i:=13) AB Y λK hK=>?_;go_simp
    refine hK _ _ (m.out _ L6.out) ?_;clear hK K bV z s D;refine uQ AB ?_ _;have ra:Hid (c6 wr J):=dZ.out.trans (L6.out.mono dZ.out.size);have T:Hid (ag J (w.heap.size+1) (eY g) 148):=(m.out _ L6.out).1;clear m HC L6 jM dZ;obtain⟨gQ,gG,fx⟩:=Fv.out.all;obtain⟨i0,hi,qr,oV,rj⟩:=vce rb;gi_wp2_with (gi_at_builtin;apply qq)
    unfold hM;have pG:Hid (c6 wr (J.alloc (.cells (QU d) 94))):=ra.out.alloc ra.out.size _;have HOW:Hid _:=QL h6.out (gP.below pG.out);have QX:Hid (c6 w _):=F.out.trans (pG.out.mono F.out.size);refine wpListIn_append_own _ Y _ _ 75 Y w.heap.size 94 i0 _ 4 40 ((tf _ _ _).trans underlying75) hi qr oV rj Y AF (.slice P (i+1) O) (i+1) (m5 ((jX g.1 aF).take (i+1))) Y HOW.out ⟨J.heap.size,0,none⟩ 1 1 (wX d) Y Y ?cel (qP d) Dv AQ QX.out.size ?_
    case cel=>
     simp_all[vdn]
    intro v' ip H_ yc _;rw[<-V.out]at H_;obtain⟨s1,ph,rfl⟩:=ven H_;have aBs:Hid (ip.ownsRow w.heap.size 94 4 (.S s1 0 (i+1+1) ph) (i+1+1) (m5 ((jX g.1 aF).take (i+1+1)))):=H_;have S:Hid (ag ip (w.heap.size+1) (eY g) 148/\c6 w ip):=by
     refine⟨?_,QX.out.grown yc QX.out.size (λg hg=>(World.ownsRow.lt HOW.out g hg).1)⟩;have hx:=T.out.alloc (.cells (QU d) 94);refine(yc.block _ hx.lt λe=>?_).trans hx;rcases HOW.out.2 with⟨h,-⟩|⟨g',cap',bq,h,-,hg,-⟩
     .cases h
     .rw[h]at e;simp[Value.ownBlock]at e;rw[<-e]at hg;rw[show World.heap _=_ from Y,hx]at hg;grind
    clear H_ yc gQ gG fx Fv HOW T QX pG ra sH V;gi_wp2
    go_roundw
    case rel=>exact⟨i+1,some ⟨s1,0,none⟩,ph,AQ,Y,Y,aBs.out,S.out.1,S.out.2⟩
    case measure=>simp[intOf];omega
  .obtain rfl:i=5:=by omega
   gi_wp2
   go_ret
   have hl:=QV (d:=g.1) I.out.1 I.out.2.1;have L:=h6.out;rw[vbo AQ]at L;refine⟨⟨_,Y,L⟩,F.out⟩
def uH:vfd.funcs[(218:Nat)]?=some f218:=vfa func218
@[simp] theorem aKF:dc false 219:=cR ri AD
def uF(n₀:Nat)(ds:Nat->aG)(aF:g7)(fr k:Nat)(W:aR)(x:Value):Prop:=∃bv aW,x=.agg #[yk (ds (fr+k)),.S bv 0 6 aW]/\W.ownsRow n₀ 94 4 (.S bv 0 6 aW) 6 (m5 (jX (ds (fr+k)) aF))
def aBt(u:Bool){o:Oper}{x:uam}(a:o.op=.load 156 x){ev:uah}{b:Nat}(i:ev x=.P b 0){bN:pb}{ca:uag}{c cc:Nat}(h:∀j,j<8->w.cell? (.a b j)=(k7 bN (.slice ca c cc))[j]?):(execOp ev o).run (ae prog u) w=.ok (.value (fI bN (.slice ca c cc))) w:=by cases o;simp only at a;subst a;have b3:=h 0 AF;have c1:=h 1 AF;have bt:=h 2 AF;have cF:=h 3 AF;have g:=h 4 AF;have f:=h 5 AF;have e:=h 6 AF;have d:=h 7 AF;clear h;simp only[k7,List.getElem?_toArray,vds,vdt]at b3 c1 bt cF g f e d;have k:=ef b3;go_simp
structure B4(w:aR)(g:cY)(aF:g7):Prop where
 l8:g.1.c9.length=5
 wide:∀t∈g.1.c9,r4 t.sum
 fit:∀i(h:i<aF.length)(h':i<g.1.c9.length),r5 aF[i].1 g.1.c9[i]=true
 i_:∀i(h:i<g.1.c9.length) j,j<11->w.cell? (.a g.2.1 (i*11+j))=(ft g.1.c9[i])[j]?
def B4.keeps{g}(h:B4 w g aF)(hk:bp w w'):B4 w' g aF:=⟨h.l8,h.wide,h.fit,λi hi j a=>by
 have e:=vas (show j<(ft g.1.c9[i]).size from a);rw[e];exact hk _ _ _ ((h.i_ i hi j a).trans e)⟩
def aBu op a kb cL kc aU bA gc g cap(gs:List cY)ds(kg:∀i(h:i<gs.length),gs[i].1=ds i)aF(aP:aF.length=5)fr cZ(ql:fr<cZ)(A2:cZ<=gs.length)(hlen:gs.length<=1000)(sJ:gs.length<=cap)w0 f jo Z(k:∀j,j<8->w0.cell? (.a f j)=(k7 (gy op a kb cL 1 kc aU bA gc) (.S g 0 gs.length cap))[j]?)(hf:w0.cell? (.a jo 0)=some (.I fr))(hu:w0.cell? (.a Z 0)=some (.I cZ))(yl:vo w0 aU bA aF)(kS:∀p∈gs,B4 w0 p aF)(hg:∀t(h:t<gs.length) j,j<18->w0.cell? (.a g (t*18+j))=(eY gs[t])[j]?):
 CN (λe=>e=148) rf n vfd 218 #[.P f 0,.P jo 0,.P Z 0] (λt _=>uF w0.heap.size ds aF fr t) (cZ-fr) w0.heap.size w0:=by
 intro l S J W sX qm sx jd h0;have fN:=JD qm sx;clear sx qm;have E:=bp.cy sX;have rn:=E _ _ _ hf;have U:=E _ _ _ hu;have hq:=k 7 AF;simp only[k7,List.getElem?_toArray,vds,vdt]at hq;have QT:=E _ _ _ hq;have B:Hid (vo w0 aU bA aF/\(∀p∈gs,B4 w0 p aF)/\∀t(h:t<gs.length) j,j<18->w0.cell? (.a g (t*18+j))=(eY gs[t])[j]?):=⟨yl,kS,hg⟩;have z:Hid (∀j,j<8->w0.cell? (.a f j)=(k7 (gy op a kb cL 1 kc aU bA gc) (.S g 0 gs.length cap))[j]?):=k;have V:Hid (f<w0.heap.size):=ef (k 0 AF);have aKG:Hid _:=kg;clear k yl kS hg hf hu hq kg;refine callsIn_of_wp uH Y trivial ?_ Y;simp[vbk];gi_wp2
 clear QT rn U E;gi_loopw [13] (λp wr=>∃i:Nat,fr+i<=cZ/\p=.I (i:Int)/\J i wr/\c6 w0 wr/\Below w0.heap.size W wr) (λp _=>cZ-fr-(intOf p).toNat)
 case atStart=>grind[Below.refl]
 case round=>
  obtain⟨i,li,rfl,k,kA,eC⟩:=hrel;have Q:Hid (J i wr):=k;have r:Hid (c6 w0 wr):=kA;have pw:Hid (Below w0.heap.size W wr):=eC;clear k kA eC h0 sX;by_cases hlt:fr+i<cZ
  .have kI:fr+i<gs.length:=by omega
   have mb:(i:Int)<((cZ-fr:Nat):Int):=AQ;have ur:(0:Int)<=(i:Int):=AQ;obtain⟨x,hx⟩:∃x,x=gs[fr+i]:=⟨_,Y⟩;have y:Hid (x.1=ds (fr+i)):=GB;have m:=B.out.2.2 (fr+i) kI;rw[<-hx]at m;have P:g<w0.heap.size:=ef (m 0 AF);have dw:g<wr.heap.size:=vak P r.out.size;have xq:Hid (∀j,j<18->wr.cell? (.a g (fr*18+i*18+j))=(eY x)[j]?):=λj k=>by rw[show fr*18+i*18+j=(fr+i)*18+j by omega];exact(vba (r.out.block g P)).trans (m j k)
   have M:Hid (B4 w0 x aF):=B.out.2.1 x AA;have F:Hid (w0.heap.size<=wr.heap.size):=r.out.size;clear m P hx;gi_wp2_with (with_reducible refine LV Y ?_)
   unfold hM;refine LW (b:=g) (d:=fr*18+i*18) (g:=x) Y Y AB xq.out ?_;have bO:=ag.new wr LS 148;gi_wp2_with (with_reducible refine QJ Y ?_)
   unfold hM;refine QK (b:=wr.heap.size) (g:=x) Y Y Y Y Y bO λA k1 k2 k3=>?_;have H:Hid (c6 wr A.drew):=(((vaa _ wr).alloc JR _).trans (k3 _ JR)).drew;have L:Hid (c6 w0 A.drew):=r.out.trans (H.out.mono F.out);have HC:Hid (ag A.drew wr.heap.size (eY x) 148/\∀j,j<8->World.cell? A.drew ⟨f,j,none⟩=(k7 (gy op a kb cL 1 kc aU bA gc) (.S g 0 gs.length cap))[j]?):=⟨ag.drew k1,λj h=>(vba (L.out.block f V.out)).trans (z.out j h)⟩;have sH:Hid _:=aBr op a kb cL kc aU bA gc (some (.a g 0)) gs.length cap x aF aP M.out.l8 M.out.wide M.out.fit A.drew (λi h=>⟨bp.cy L.out _ _ _ (B.out.1 i h).1,bp.cy L.out _ _ _ (B.out.1 i h).2⟩) (M.out.keeps (bp.cy L.out)).i_;clear k1 k2 k3 bO xq;gi_wp2
   refine wpIn_region_any AB (uP (C:=λq=>ag q wr.heap.size (eY x) 148/\∀j,j<8->World.cell? q ⟨f,j,none⟩=(k7 (gy op a kb cL 1 kc aU bA gc) (.S g 0 gs.length cap))[j]?) _ _ _ _ ?_);refine c0 (i:=0) (v:=.func (.yield l) #[] #[]) Y AB AB AB Jf HC.out ⟨Ao,λq o=>Ak,(λc h=>nomatch h),λ_=>Y⟩ ?_;refine c0 (i:=1) (v:=.P wr.heap.size 0) Y AB AB AB Jf HC.out ⟨Ao,λq o=>Ak,(λc h=>nomatch h),λ_=>Y⟩ ?_;refine c0 (i:=3) (v:=fI (gy op a kb cL 1 kc aU bA gc) (.S g 0 gs.length cap)) Y AB AB AB Jf HC.out ⟨Ao,λq o=>by exact aBt false Y Y o.2,(λc h=>nomatch h),λ_=>Y⟩ ?_;refine c0 (i:=4) (v:=s3 x) Y AB AB AB Jf HC.out ⟨Ao,λq o=>by exact aAK false Y Y o.1,(λc h=>nomatch h),λ_=>Y⟩ ?_;refine c0 (i:=2) (v:=yk x.1) Y AB AB AB Jf HC.out ⟨Ao,λq o=>by obtain⟨cC,dm,gB⟩:=o.1.all;go_simp,(λc h=>nomatch h),λ_=>Y⟩ ?_;refine fc (i:=5) AB Y λK hK=>?_;go_simp
   refine⟨NE,λh=>CI,(callsIn_wide.2 sH.out).mono ?_⟩;rintro e s ⟨⟨v,rfl,I⟩,O⟩;obtain⟨bv,aW,rfl⟩:=ven I;have N:Hid (c6 wr s):=H.out.trans (O.mono H.out.size);have T:Hid (c6 w0 s):=r.out.trans (N.out.mono F.out);have u:Hid (ag s wr.heap.size (eY x) 148/\∀j,j<8->World.cell? s ⟨f,j,none⟩=(k7 (gy op a kb cL 1 kc aU bA gc) (.S g 0 gs.length cap))[j]?):=⟨HC.out.1.call O,λj h=>(vba (T.out.block f V.out)).trans (z.out j h)⟩;have FP:Hid _:=jd i (.agg #[yk x.1,.S bv 0 6 aW]) wr s Q.out N.out (fN _ _ _ Q.out N.out) AQ ⟨bv,aW,by rw[<-y.out],by
    rw[<-y.out];exact⟨I.1,I.2.imp_right λ⟨g',cap',bq,aZ,a3,q3⟩=>⟨g',cap',bq,aZ,vad (vad F.out H.out.size) a3,q3⟩⟩⟩
   refine hK _ _ u.out ?_;clear hK K I O sH HC jd fN;refine c0 (i:=6) (v:=.agg #[yk x.1,.S bv 0 6 aW]) Y AB AB AB Jf u.out ⟨Ao,λq o=>Ak,(λc h=>nomatch h),λ_=>Y⟩ ?_;refine fc (i:=7) AB Y λK hK=>?_;obtain⟨fn,tmps,assign,body,hy,bn⟩:=FP.out;go_simp
   refine⟨λh=>CI,bn.mono ?_⟩;rintro e D ⟨rfl,w,X,uq⟩;have p2:Hid (Below w0.heap.size wr D):=(N.out.mono F.out).trans X.aT;have L3:Hid (ag D wr.heap.size (eY x) 148/\∀j,j<8->World.cell? D ⟨f,j,none⟩=(k7 (gy op a kb cL 1 kc aU bA gc) (.S g 0 gs.length cap))[j]?):=⟨uq _ _ _ _ Y u.out.1,λj h=>(vba (X.2 f V.out id)).trans (u.out.2 j h)⟩;have R:Hid (J (i+1) D):=w;refine hK _ _ L3.out ?_;clear hK K w X uq u FP bn hy;refine fc (i:=8) AB Y λK hK=>?_;go_simp
   refine hK _ _ L3.out ?_;clear hK K;refine uQ AB ?_ _;gi_wp2
   go_roundw
   case rel=>exact⟨i+1,AQ,AS,R.out,r.out.trans p2.out,pw.out.trans p2.out⟩
   case measure=>simp[intOf];omega
  .have mb:¬(i:Int)<((cZ-fr:Nat):Int):=by omega
   gi_wp2
   go_end0
   have e:cZ-fr=i:=AQ;rw[e];exact⟨⟨_,Y⟩,Q.out,.of pw.out⟩
end bd
namespace bd
open RowKit Shelf av
section
attribute [local go_sem] Oper.semAt_some
def aBy{Row}{gf:Nat}{lb}{N:Nat}(a5:N<=300)w(g:JH w.heap.size Row)(O:∀args w,(callFunc gf args).run vfd w=.ok (.enter gf args) w)(Q:CN (λe=>e=148) rf 2 vfd gf lb (λt _=>Row t) N w.heap.size w):
 Calls vfd 110 #[.func (.func gf) #[] lb] w λe w'=>∃v,e=.returned v/\yO Row w.heap.size N v w'/\c6 w w':=by
 refine(callsIn_wide (n:=3)).1 ?_;refine vdi aai rfl trivial ?_;simp[vbk];gi_wp2
 have fU:Boxed (w.alloc (.cells #[.N] 67)) w.heap.size 67 (.N):=Boxed.new w _ _;refine Nf (Y:=λe=>e=148) (X:=rf) (n:=3) (gf:=gf) (lb:=lb) (w0:=w) (n₀:=w.heap.size) (N:=N) (Row:=λt _=>Row t) rfl O Q ((vaa _ w).alloc JR _) AS (λ_=>False) AA
  (λt W=>∃v,Boxed W w.heap.size 67 v/\yO Row w.heap.size t v W)
  (λt W W' h hk _=>by
   obtain⟨v,h1,h2⟩:=h;exact⟨v,hk.cells _ _ _ _ h1,h2.oU g hk⟩)
  ⟨_,fU,⟨[],rfl,vcg _ _ _ _,AA⟩⟩
  (λt x a' W=>∃f p cw pc q a d,W.heap[f]?=some (Obj.cells #[.slice p cw pc,.slice q a d] 77 (0,0))/\x=.agg #[.slice p cw pc,.slice q a d]/\Row t W x/\∃z,a'={tmps:=#[.func (.func gf) #[] lb,undef,.N,.P w.heap.size 0,.P f 0,.func (.func gf) #[] lb,z,.U,.U,.U,.U,.U,.U,.U,.U],defers:=[]})
  (λt x a' W W' h hk _=>by
   obtain⟨f,p,cw,pc,q,a,d,h1,h2,h3,h4⟩:=h;exact⟨f,p,cw,pc,q,a,d,hk.cells _ _ _ _ h1,h2,g.keep _ _ _ _ h3 (.keep hk),h4⟩)
  ?assign ?body ?done
 case assign=>
  rintro l t x rh W K- - - -i hK;obtain⟨p,cw,pc,q,a,d,rfl⟩:=g.shape _ _ _ i;gi_wp2
  have E:c6 W (W.alloc (.cells #[.slice p cw pc,.slice q a d] 77)):=(vaa _ W).alloc JR _;exact hK _ _ E ⟨W.heap.size,p,cw,pc,q,a,d,vbb W _,rfl,g.keep _ _ _ _ i (.keep (.below E)),_,rfl⟩
 case body=>
  rintro l t x a' W ⟨v,hv,⟨xs,hlen,i,ss⟩⟩ U ⟨f,p,cw,pc,q,a,d,A,rfl,T,z,rfl⟩ R;obtain⟨S,hi,M,P,L⟩:=vce Ng;have m:=hv.cell;have J:W.cell? (.a f 0)=some (.slice p cw pc):=by simp[World.cell?,A]
  have hZ:W.cell? (.a f 1)=some (.slice q a d):=by simp[World.cell?,A]
  gi_wp2_with (gi_at_builtin;apply qq)
  unfold hM;refine wpListIn_append_own _ rfl _ _ 67 rfl w.heap.size 77 S _ 2 48 ((tf _ _ _).trans underlying67) hi M P L rfl AF v t (two xs) rfl (i.alloc _) ⟨W.heap.size,0,none⟩ 1 1 [.slice p cw pc,.slice q a d] rfl rfl ?cel ?one Dv AQ BA ?_
  case cel=>
   have lP:=vbb W (.cells #[.slice p cw pc,.slice q a d] 77);intro j u k;rcases j with _ | _ |j
   .simp at k;subst k;show World.cell? _ ⟨W.heap.size,0,none⟩=_;simp_all
   .simp at k;subst k;show World.cell? _ ⟨W.heap.size,1,none⟩=_;simp_all
   grind
  case one=>
   intro u C;simp at C;rcases C with rfl|rfl<;>rfl
  intro v' w1 s r _;obtain⟨g',cap',rfl⟩:=ven s;obtain⟨y,B,I,D,F⟩:=hv.appended AF i R JR s r;have o:=S9 (.S g' 0 (t+1) cap') hv i r JR;have ld:=y.cell;have rk:=y.frozen;have GK:¬(300:Int)<(t:Int)+1:=AQ;have dF:Hid (qo W (w1.setCell ⟨w.heap.size,0,none⟩ (.S g' 0 (t+1) cap'))/\h7 (rf (t+1)) w.heap.size W (w1.setCell ⟨w.heap.size,0,none⟩ (.S g' 0 (t+1) cap'))/\rg (λe=>e=148) W (w1.setCell ⟨w.heap.size,0,none⟩ (.S g' 0 (t+1) cap'))/\∃v,Boxed (w1.setCell ⟨w.heap.size,0,none⟩ (.S g' 0 (t+1) cap')) w.heap.size 67 v/\yO Row w.heap.size (t+1) v (w1.setCell ⟨w.heap.size,0,none⟩ (.S g' 0 (t+1) cap'))):=by
   refine⟨.of D,.of F,λb c e z hy Z=>o b c e z Z (.inr AA),_,B,⟨xs++[(.slice p cw pc,.slice q a d)],AA,?_,λj k=>?_⟩⟩
   .grind[aak]
   .by_cases H:j<xs.length
    .rw[vcp H];exact g.keep _ _ _ _ (ss j H) o
    .have Ta:j=xs.length:=by grind
     subst Ta;simp;rw[hlen];exact g.keep _ _ _ _ T o
  clear s r i hv m J hZ A y o B I D F;gi_wp2
  exact dF.out
 case done=>
  rintro W ⟨v,hv,V⟩ hB hK;have m:=hv.cell;gi_wp2
  refine⟨AS,.inl ⟨_,_,rfl,veb hK,?_⟩⟩;refine⟨_,results_tmp rfl _ _ _,v,rfl,V.oU g (CP hK),?_⟩;exact(((vaa _ w).alloc JR _).trans hB.aT).trans (tn _ AS)
end
section
open b_
attribute [local go_sem] Oper.semAt_some
def aBz:vfd.funcs[(131:Nat)]?=some f131:=vfa func131
def aBA:gE prog false f96=true:=by decide+kernel
theorem aBB(gs:List cY){t}(h:t<gs.length):ga (gs.take (t+1))=ga (gs.take t)++(eY gs[t]).toList:=by grind[List.take_succ_eq_append_getElem,QH,ga]
def uC{W n₀ v gs}(a:W.ownsRow n₀ 148 18 v gs.length (ga gs)):nB W v gs:=by
 rcases id a.2 with⟨rfl,h0⟩|⟨g,cap,bq,rfl,-,-,c,-⟩
 .exact⟨none,0,by rw[h0],AQ,λx=>AQ⟩
 .refine⟨_,cap,Y,c,λ_=>⟨g,Y,λt ht j b=>?_⟩⟩;rw[QO a _ (by rw[IA];omega),LU gs t ht j b]
def aBC{v gs bO}w(h1:w.cell? (.a bO 0)=some v)(hv:nB w v gs)(hlen:gs.length<=300):
 Calls vfd 131 #[.func (.func 96) #[] #[.P bO 0]] w λe w'=>∃v,e=.returned v/\nB w' v gs/\c6 w w':=by
 have S:=λn=>se (u:=false) (Y:=λ_=>False) (n:=n) gs v bO rf LK w hv (λ_ _ _ _ _ h=>h) h1 AQ;clear h1 hv;refine(callsIn_wide (n:=3)).1 ?_;refine vdi aBz rfl trivial ?_;simp[vbk];gi_wp2
 have fU:Boxed (w.alloc (.cells #[.N] 143)) w.heap.size 143 (.N):=Boxed.new w _ _;refine Nf (Y:=λ_=>False) (X:=rf) (n:=3) (gf:=96) (lb:=#[.P bO 0]) (w0:=w) (n₀:=w.heap.size) (N:=gs.length) (Row:=Xw gs rf w.heap.size w) rfl (λargs w=>cR (Xv false) aBA args w) (S _) ((vaa _ w).alloc JR _) AS (λ_=>False) AA
  (λt W=>∃v,Boxed W w.heap.size 143 v/\W.ownsRow w.heap.size 148 18 v t (ga (gs.take t))) ?hI ⟨_,fU,vcg _ _ _ _⟩
  (λt x a' W=>∃a g,ag W a (eY g) 148/\w.heap.size<=a/\gs[t]?=some g/\∃z,a'={tmps:=#[.func (.func 96) #[] #[.P bO 0],undef,.N,.P w.heap.size 0,.P a 0,.func (.func 96) #[] #[.P bO 0],z,.U,.U,.U,.U,.U,.U,.U,.U],defers:=[]})
  ?hAx ?assign ?body ?done
 case hI=>
  rintro t W W' ⟨v,h,h'⟩ hk-;exact⟨v,hk.cells _ _ _ _ h,QL h' hk⟩
 case hAx=>
  rintro t x a' W W' ⟨a,g,h1,h2,h3⟩ hk-;exact⟨a,g,hk.cells _ _ _ _ h1,h2,h3⟩
 case assign=>
  rintro l t x rh W K AY GJ hi s ⟨ht,rfl,Z⟩ hK;have bO:=ag.new W LS 148;obtain⟨g,hg⟩:∃g,g=gs[t]:=⟨_,rfl⟩;have O:Hid (gs[t]?=some g):=GB;rw[<-hg];clear hg;gi_wp2_with (with_reducible refine QJ rfl ?_)
  unfold hM;refine QK (b:=W.heap.size) (g:=g) rfl rfl rfl rfl rfl bO λW2 U T F=>?_;have m:c6 W W2:=((vaa _ W).alloc JR _).trans (F _ JR);clear T F bO;gi_wp2
  exact hK _ _ m ⟨W.heap.size,g,U,Z.1.size,O.out,_,rfl⟩
 case body=>
  rintro l t x a' W ⟨v,c,y⟩ s ⟨a,g,L,SO,A,z,rfl⟩ D;obtain⟨V,hi,Q,R,P⟩:=vce (Xi false);obtain⟨i,f,rfl⟩:=mg y;have j:=c.cell;have E:Hid _:=L;have o:Hid (Boxed W w.heap.size 143 (.slice i t f)):=c;have p:Hid (W.ownsRow w.heap.size 148 18 (.slice i t f) t (ga (gs.take t))):=y;have I:Hid (w.heap.size<=W.heap.size):=D;have B:Hid (ga (gs.take (t+1))=ga (gs.take t)++(eY g).toList):=by grind[aBB]
  clear L c D y A;gi_wp2_with (with_reducible refine LV rfl ?_)
  unfold hM;refine LW (b:=a) (d:=0) (g:=g) rfl rfl rfl (Xl E.out) ?_;refine y9 (g:=g) rfl rfl rfl ?_;refine wpListIn_append_own _ rfl _ _ 143 rfl w.heap.size 148 V _ 18 208 ((tf _ _ _).trans underlying143) hi Q R P rfl AF (.slice i t f) t (ga (gs.take t)) rfl (p.out.alloc _) ⟨W.heap.size,0,none⟩ 1 1 (eY g).toList rfl rfl ?cel (Xh _) Dv AQ (by have h2:=I.out;simp;omega) ?_
  case cel=>
   simp_all[vdn]
  intro v' w1 q C _;obtain⟨g',cap',rfl⟩:=ven q;obtain⟨r,H,M,J,m⟩:=Boxed.appended (o.out:Boxed W w.heap.size 143 (.slice i t f)) AF p.out I.out JR q C;have ld:=r.cell;have rk:=r.frozen;have GK:¬(300:Int)<(t:Int)+1:=AQ;have dF:Hid (qo W (w1.setCell ⟨w.heap.size,0,none⟩ (.S g' 0 (t+1) cap'))/\h7 (rf (t+1)) w.heap.size W (w1.setCell ⟨w.heap.size,0,none⟩ (.S g' 0 (t+1) cap'))/\rg (λ_=>False) W (w1.setCell ⟨w.heap.size,0,none⟩ (.S g' 0 (t+1) cap'))/\∃v,Boxed (w1.setCell ⟨w.heap.size,0,none⟩ (.S g' 0 (t+1) cap')) w.heap.size 143 v/\(w1.setCell ⟨w.heap.size,0,none⟩ (.S g' 0 (t+1) cap')).ownsRow w.heap.size 148 18 v (t+1) (ga (gs.take (t+1)))):=
   ⟨.of J,.of m,λ_ _ _ _ h=>h.elim,_,H,by rw[B.out];grind⟩
  clear H M J m q C r j E o p;gi_wp2
  exact dF.out
 case done=>
  rintro W ⟨v,hv,k⟩ c hK;rw[List.take_length]at k;obtain⟨i,f,rfl⟩:=mg k;have j:=hv.cell;have h6:Hid (W.ownsRow w.heap.size 148 18 (.slice i gs.length f) gs.length (ga gs)):=k;have o:Hid (h7 (rf gs.length) w.heap.size _ W):=c;clear k c;gi_wp2
  refine⟨AS,.inl ⟨_,_,rfl,veb hK,?_⟩⟩;exact⟨_,results_tmp rfl _ _ _,_,rfl,uC (QL h6.out (CP hK)),(((vaa _ w).alloc JR _).trans (h7.aT o.out)).trans (tn _ AS)⟩
end
end bd
namespace bd
open Conc ConcM RowKit av b_ bj ah eK hO fH iu dx
def B5:Value->Bool
 | .bool _=>true
 | .int _ _=>true
 | .string _=>true
 | _=>false
variable{ρ:Ren}{v v':Value}
theorem IF(h:au ρ v v')(a:B5 v=true):v'=v:=by cases h<;>simp_all[B5]
def aBF{c b}(h:aJ ρ c b)(d:∀(i:Nat) v,c[i]?=some v->B5 v=true):b=c:=by apply vcm;intro i;cases a:c[i]? with|none=>exact h.none a|some v=>obtain⟨v',h1,h2⟩:=h.some a;grind[IF]
def uo t:∀v∈(ft t).toList,B5 v=true:=by intro v this;simp[ft]at this;rcases this with h|h|h|h|h|h|h|h|h|h|h<;>(subst h;rfl)
theorem uj:∀(ts:List dn)(i:Nat) v,(jD ts).toArray[i]?=some v->B5 v=true:=by
 have key:∀(ts:List dn),∀v∈jD ts,B5 v=true:=by
  intro ts;induction ts with
  |nil=>intro v h;cases h
  |cons t ts a=>
   intro v h;rcases vcz.1 h with h|h
   .exact uo t v h
   grind
 grind
def uf{g n c x}(h:au ρ (.S g 0 n c) x):∃g',x=.S g' 0 n c/\ρ.rel g g':=by cases h with|slice _ _ r=>rename_i a';obtain⟨ab,d,e⟩:=a';obtain⟨r1,b,a⟩:=r;grind
def ub{f:uak}{b1:Nat}(h:au ρ (.func (.func f) #[] #[.P b1 0]) v):∃c1,v=.func (.func f) #[] #[.P c1 0]/\dR ρ ⟨b1,0,none⟩ ⟨c1,0,none⟩:=by cases h with|@func fn j a a' b i e g c h1 h2=>cases e;obtain⟨l⟩:=a';obtain⟨m⟩:=i;simp only[vdv,List.length_nil,vdg]at g c;have d:l=[]:=AA;subst d;match m,c with| [x],_=>obtain⟨c1,rfl,k⟩:=N2 (h2 0 _ x Y Y);grind
def tT p t a q:∀j,j<18->j≠0->j≠17->∃v,(wV p q t)[j]?=some v/\(wV p q a)[j]?=some v/\B5 v=true
 |0,_,h,_=>absurd Y h
 |1,_,_,_=>⟨_,Y,Y,Y⟩
 |2,_,_,_=>⟨_,Y,Y,Y⟩
 |3,_,_,_=>⟨_,Y,Y,Y⟩
 |4,_,_,_=>⟨_,Y,Y,Y⟩
 |5,_,_,_=>⟨_,Y,Y,Y⟩
 |6,_,_,_=>⟨_,Y,Y,Y⟩
 |7,_,_,_=>⟨_,Y,Y,Y⟩
 |8,_,_,_=>⟨_,Y,Y,Y⟩
 |9,_,_,_=>⟨_,Y,Y,Y⟩
 |10,_,_,_=>⟨_,Y,Y,Y⟩
 |11,_,_,_=>⟨_,Y,Y,Y⟩
 |12,_,_,_=>⟨_,Y,Y,Y⟩
 |13,_,_,_=>⟨_,Y,Y,Y⟩
 |14,_,_,_=>⟨_,Y,Y,Y⟩
 |15,_,_,_=>⟨_,Y,Y,Y⟩
 |16,_,_,_=>⟨_,Y,Y,Y⟩
 |17,_,_,h=>absurd Y h
 |n+18,h,_,_=>absurd h AQ
variable{w w':aR}
def aBG(p:∀a b k,ρ.rel a b->ρ.rel a k->b=k)(n:Carry ρ w w'){g g' d}(hg:ρ.rel g g'){x}(u:ρ.rel x.1.c5 x.1.c5)(h:∀j,j<18->w.cell? (.a g (d+j))=(eY x)[j]?):
 ∃c,ρ.rel x.2.1 c/\∀j,j<18->w'.cell? (.a g' (d+j))=(eY (x.1,c,x.2.2))[j]?:=by
 have i:∀j v,j<18->(eY x)[j]?=some v->∃v',w'.cell? (.a g' (d+j))=some v'/\au ρ v v':=λj v f hv=>n ⟨g,d+j,none⟩ ⟨g',d+j,none⟩ v ⟨hg,Y,Y⟩ ((h j f).trans hv);obtain⟨y,t,e⟩:=i 17 (p5 x.2.1 x.2.2) AF Y;obtain⟨c,rfl,l⟩:=uf e;refine⟨c,l,λj f=>?_⟩;by_cases h0:j=0
 .subst h0;obtain⟨y,m,e⟩:=i 0 (yk x.1) AF Y;rw[m];cases e with|slice _ _ r=>rename_i a';obtain⟨ab,z,A⟩:=a';obtain⟨r1,s,q⟩:=r;grind
 by_cases o:j=17
 .simp_all
 obtain⟨v,e1,e2,e3⟩:=tT (yk x.1) (p5 x.2.1 x.2.2) (p5 c x.2.2) x.1.key j f h0 o;grind[IF]
def s5(ρ:Ren)(gs gs':List cY):Prop:=gs'.length=gs.length/\∀t(h:t<gs.length)(h':t<gs'.length),gs'[t].1=gs[t].1/\ρ.rel gs[t].2.1 gs'[t].2.1
variable{gs gs':List cY}
theorem s5.fst(h:s5 ρ gs gs'):gs'.map Prod.fst=gs.map Prod.fst:=by
 apply vbx
 .simp[h.1]
 .intro i h1 h2;simp only[vef];exact(h.2 i AA AA).1
theorem r7.rel{ew l}(h:r7 w gs ew)(c:s5 ρ gs gs')(inj:∀a a' b,ρ.rel a b->ρ.rel a' b->a=a')(u:∀p∈gs,∀f,ρ.rel p.2.1 f->eZ w p.2.1 p.1.c9->ew p.2.1->eZ w' f p.1.c9/\l f):r7 w' gs' l:=by
 refine⟨λp n=>?_,vcn.2 λi j hi g q e=>?_⟩
 .obtain⟨t,ht,rfl⟩:=vbj n;have m:t<gs.length:=by rw[<-c.1];exact ht
  obtain⟨e1,e2⟩:=c.2 t m ht;have o:=vae m;obtain⟨s,r⟩:=h.1 _ o;grind
 .have k:i<gs.length:=by rw[<-c.1];exact hi
  have d:j<gs.length:=by rw[<-c.1];exact g
  obtain⟨-,e1⟩:=c.2 i k hi;obtain⟨-,e2⟩:=c.2 j d g;rw[e]at e1;exact vcn.1 h.2 i j k d q (inj _ _ _ e1 e2)
def r7.imp{ew b}(h:r7 w gs ew)(c:∀p∈gs,eZ w p.2.1 p.1.c9->ew p.2.1->eZ w' p.2.1 p.1.c9/\b p.2.1):r7 w' gs b:=⟨λp a=>c p a (h.1 p a).1 (h.1 p a).2,h.2⟩
def L9(e:∀a b d,ρ.rel a b->ρ.rel a d->b=d)(k:Carry ρ w w')(hv:au ρ v v')(l:∀p∈gs,ρ.rel p.1.c5 p.1.c5)(h:nB w v gs):∃gs',s5 ρ gs gs'/\nB w' v' gs':=by
 obtain⟨bZ,cap,rfl,m,h⟩:=h;by_cases h0:0<gs.length
 .obtain⟨g,rfl,h1⟩:=h h0;obtain⟨g',rfl,hg⟩:=uf hv;have key:∀t,∃c,∀ht:t<gs.length,ρ.rel gs[t].2.1 c/\∀j,j<18->w'.cell? (.a g' (t*18+j))=(eY (gs[t].1,c,gs[t].2.2))[j]?:=by
   intro t;by_cases ht:t<gs.length
   .obtain⟨c,r1,i⟩:=aBG e k hg (l _ (vae ht)) (h1 t ht);exact⟨c,λ_=>⟨r1,i⟩⟩
   .exact⟨0,λh=>absurd h ht⟩
  obtain⟨f,key⟩:=vbi.1 key;refine⟨gs.mapIdx λt p=>(p.1,f t,p.2.2),⟨AS,λt h o=>?_⟩,some ⟨g',0,none⟩,cap,AS,AA,λ_=>⟨g',Y,λt ht j n=>?_⟩⟩
  .grind
  grind
 .obtain rfl:gs=[]:=List.length_eq_zero_iff.1 AQ;refine⟨[],⟨Y,λt h=>AA⟩,?_⟩;cases hv with|iH=>exact⟨none,_,Y,AS,λh=>by simp at h⟩|slice _ _ r=>exact⟨_,_,Y,AS,λh=>by simp at h⟩
def Q1(a8:dL)(R:List cY->aR->Value->Prop):Prop:=∀(ρ:Ren)(w w':aR)(v v':Value)(gs:List cY),(∀b,a8 b->ρ.rel b b)->(∀a b b',ρ.rel a b->ρ.rel a b'->b=b')->Carry ρ w w'->au ρ v v'->(∀p∈gs,a8 p.1.c5)->R gs w v->∃gs',s5 ρ gs gs'/\R gs' w' v'
def L_(gs:List cY)(w:aR)(v:Value):Prop:=nB w v gs
def XG{a8}:Q1 a8 L4:=by rintro ρ w w' v v' gs hK h1 a hv d ⟨bO,u,rfl,h2,h3⟩;obtain⟨c1,rfl,b⟩:=ub hv;obtain⟨x,a1,e1⟩:=a _ _ _ b h2;obtain⟨gs',r,h4⟩:=L9 h1 a e1 (λp c=>hK _ (d p c)) h3;exact⟨gs',r,c1,x,Y,a1,h4⟩
def tx{a8}:Q1 a8 L_:=λρ w w' v v' gs hK h1 b hv c h=>L9 h1 b hv (λp a=>hK _ (c p a)) h
theorem eZ.carry{C S gF a t}(d:e_ C S ρ w w')(e:ρ.rel gF a)(h:eZ w gF t):eZ w' a t:=by obtain⟨⟨fr,h1⟩,h2⟩:=h;obtain⟨o,o',e1,e2,e3⟩:=d.obj _ _ e;rw[h1]at e1;cases e1;cases e3 with|@cells c j _ _ b g f=>have:=aBF g (uj t);subst this;refine⟨⟨b,e2⟩,λoff=>?_⟩;have h3:=h2 off;obtain⟨lo,hi⟩:=fr;obtain⟨k,i⟩:=b;have h4:=f.1 off;grind[World.frozen?,xc]
def yn(C:cM)(B:Nat)(a8 X:dL)(R:List cY->aR->Value->Prop)(ds:List aG)(u:Value)(M:dL)(w:aR):Prop:=
 ∃(gs:List cY)(G:dL),gs.map Prod.fst=ds/\(∀b,G b->M b/\¬X b)/\fG C (λb=>a8 b\/G b) bL w/\au (dp (λb=>a8 b\/G b) bL) u u/\R gs w u/\r7 w gs λb=>G b/\B<=b
variable{ds:List aG}
def Ma{a8:dL}(hd:∀d∈ds,a8 d.c5)(h:gs.map Prod.fst=ds):∀p∈gs,a8 p.1.c5:=λp a=>hd _ (h▸vdk a)
section
variable{C:cM}{B:Nat}{a8 X:dL}
theorem yn.mono{R}(j:Q1 a8 R)(hd:∀d∈ds,a8 d.c5){u M M'}(h:yn C B a8 X R ds u M w)(n:∀b,a8 b\/M b->w'.heap[b]?=w.heap[b]?)(i:∀b,M b->M' b):yn C B a8 X R ds u M' w':=by obtain⟨gs,G,h0,h1,h2,h3,h4,l⟩:=h;have e:∀b,a8 b\/G b->w'.heap[b]?=w.heap[b]?:=AA;obtain⟨gs',r,f⟩:=j (dp (λb=>a8 b\/G b) bL) _ _ _ _ gs (λb c=>⟨Y,.inl c⟩) (λa b k h1 h2=>h1.1.symm.trans h2.1) (sF e h2) h3 (Ma hd h0) h4;refine⟨gs',G,r.fst.trans h0,λb c=>⟨i b (h1 b c).1,(h1 b c).2⟩,pE h2 e,h3,f,l.rel r LO λp m k g s o=>?_⟩;obtain⟨rfl,-⟩:=g;exact⟨s.same (e _ (.inr o.1)),o⟩
def Dp.tq{G R i M' w1}(h:Dp C a8 G w R v' i w' ρ w1 v)(n:∀b,i b->M' b/\¬X b){Q}(l:Q1 a8 Q)(hd:∀d∈ds,a8 d.c5)(j:gs.map Prod.fst=ds)(k:Q gs w1 v){z7 ew}(ht:r7 z7 gs ew)(c:∀p∈gs,∀e,ρ.rel p.2.1 e->eZ z7 p.2.1 p.1.c9->ew p.2.1->¬a8 e/\eZ w' e p.1.c9/\B<=e):yn C B a8 X Q ds v' M' w':=by
 obtain⟨S,f⟩:=h.world;have g:(λb=>a8 b\/((∃a,ρ.rel a b)/\¬a8 b))=λb=>∃a,ρ.rel a b:=by
  funext b
  apply propext;constructor
  .rintro(c|c)
   .exact⟨b,h.le.1 b b ⟨Y,.inl c⟩⟩
   grind
  grind
 obtain⟨gs',r,hq⟩:=l ρ w1 w' v v' gs (λb c=>h.le.1 b b ⟨Y,.inl c⟩) f.one f.carry h.val (Ma hd j) k;refine⟨gs',λb=>(∃a,ρ.rel a b)/\¬a8 b,r.fst.trans j,λb c=>?_,?_,?_,hq,ht.rel r f.inj λp k e t s o=>?_⟩
 .obtain⟨⟨a,m⟩,hk⟩:=c;exact n b ((h.dom a b m).resolve_left hk)
 .rw[g];exact f.closed bL
 .rw[g];exact au.right (σ:=dp (λb=>∃a,ρ.rel a b) bL) (λa b q=>⟨Y,a,q⟩) h.val
 grind
end
theorem s5.trans{a b c D}(h:s5 (dp D bL) a b)(k:s5 ρ b c):s5 ρ a c:=by
 refine⟨k.1.trans h.1,λt h1 h2=>?_⟩;have h3:t<b.length:=by rw[h.1];exact h1
 obtain⟨e1,⟨e2,-⟩⟩:=h.2 t h1 h3;obtain⟨e3,e4⟩:=k.2 t h3 h2;exact⟨e3.trans e1,by rw[e2];exact e4⟩
def aBH{K:dL}{g:aG}(h:∀d∈ds,K d.c5)(hg:K g.c5):∀d∈fu ds g,K d.c5:=by
 intro x a;cases hq:eX g.key ds with
 |none=>grind[p6]
 |some j=>
  rw[m4 hq]at a;obtain⟨i,hi,rfl⟩:=vbj a;rw[vci];split
  .exact h (ds[i]'AA) (vae _)
  grind
def B7{K:dL}{L:List aG}(h:∀d∈L,K d.c5):∀d∈ee L,K d.c5:=by
 have:∀(L ds:List aG),(∀d∈L,K d.c5)->(∀d∈ds,K d.c5)->∀d∈L.foldl fu ds,K d.c5:=by intro L;induction L with|nil=>grind|cons g L a=>exact λds h1 h2=>a _ (λd hd=>h1 d AA) (aBH h2 (h1 g AS))
 exact this L [] h AS
def aBI:gE prog false f209=true:=by decide+kernel
def aBJ:gE prog false f131=true:=by decide+kernel
def aBK{C D}(c:fG C D bL w){b d}(a:D b)(h:w.cell? (.a b d)=some v):au (dp D bL) v v:=by obtain⟨v',h1,h2⟩:=sF (λ_ _=>Y) c ⟨b,d,none⟩ ⟨b,d,none⟩ v ⟨⟨Y,a⟩,Y,Y⟩ h;grind
theorem tg{D:dL}{a:uag}{l c:Nat}{x:Value}(h:au (dp D bL) (.slice a l c) x):x=.slice a l c:=by cases h with|iH=>rfl|slice _ _ r=>rename_i a a';obtain⟨ab,g,i⟩:=a;obtain⟨d,j,b⟩:=a';obtain⟨r1,f,e⟩:=r;have:=r1.1;grind
variable{xs:uav}{aF:g7}
def p7.same{C D vs G br kb cL cb co aU bA}(h:p7 w xs vs G br aF kb cL cb co aU bA)(q:fG C D bL w)(g:Carry (dp D bL) w w')(p:D cb)(n:D aU)(o:D kb):p7 w' xs vs G br aF kb cL cb co aU bA:=by
 have r:∀(b:Nat)(d:Nat)(a:uag)(l c:Nat),D b->w.cell? (.a b d)=some (.slice a l c)->w'.cell? (.a b d)=some (.slice a l c):=by intro b d a l c k f;obtain⟨v',h1,h2⟩:=g ⟨b,d,none⟩ ⟨b,d,none⟩ _ ⟨⟨Y,k⟩,Y,Y⟩ f;rw[h1,tg h2]
 have m:∀(b:Nat)(d:Nat)(z:Int),D b->w.cell? (.a b d)=some (.I z)->w'.cell? (.a b d)=some (.I z):=by intro b d z k f;obtain⟨v',h1,h2⟩:=g ⟨b,d,none⟩ ⟨b,d,none⟩ _ ⟨⟨Y,k⟩,Y,Y⟩ f;rw[h1,IF h2 Y]
 refine⟨λj u e=>?_,λi hi=>⟨(h.row i hi).cw,?_,(h.row i hi).key,(h.row i hi).i_,(h.row i hi).XA,(h.row i hi).XB,(h.row i hi).num⟩,λi hi=>m _ _ _ o (h.iT i hi),λi hi=>⟨m _ _ _ n (h.e5 i hi).1,m _ _ _ n (h.e5 i hi).2⟩⟩
 .obtain⟨i,hi,⟨rfl,rfl⟩|⟨rfl,rfl⟩⟩:=UM _ _ _ e
  .have s:=(h.row i hi).cw;have:=h.cell _ _ e;grind
  .obtain⟨v,t,hv,-,-⟩:=(h.row i hi).kM;have:=h.cell _ _ e;grind
 .exact av.bo.carry abz g (aBK q p (h.cell _ _ (Kf xs i hi).2)) (h.row i hi).kM
def aBL{Stop c cH a8 B}(hB:B<=cH.heap.size)(D:∀b,a8 b->c.K b)(hg:∀g,g<=prog.globals.size->a8 g)(N:fG (da prog false) (λb=>a8 b\/bL b) bL cH){P op a vs G br kb cL cb co aU bA kc cc gc fr cZ}(h4:br.length<=4)(aP:aF.length=5)(hin:p7 cH xs vs G br aF kb cL cb co aU bA)(W:a8 cb)(U:a8 aU)(Q:a8 kb)(hcc:xs.length<=cc)(ahm:xs.length<=300)(hok:∀i,i<xs.length->mC 1 (G i))(mf:∀T,c.cq T=false)(Q2:au (dp (λb=>a8 b\/bL b) bL) (fI (gy op a kb cL br.length kc aU bA gc) (.S cb co xs.length cc)) (fI (gy op a kb cL br.length kc aU bA gc) (.S cb co xs.length cc)))(hinv:∀(args:dX)(w:aR),(callMethod P "Piece" args).run prog w=.ok (.enter 209 (#[fI (gy op a kb cL br.length kc aU bA gc) (.S cb co xs.length cc)]++args)) w/\(callMethod P "Piece" args).events prog w #[]=#[])(lu:∀i,i<xs.length->a8 (G i).c5)(ql:∀T,T<c.N->fr T<cZ T/\cZ T<=xs.length)(ss:∀T,T<c.N->c.rows T=(ee (jF G (fr T) (cZ T))).length):
 uK c cH prog Stop 131 P 209 (fI (gy op a kb cL br.length kc aU bA gc) (.S cb co xs.length cc)) fr cZ
  (λT u M w=>T<c.N/\yn (da prog false) B a8 c.K L4 (ee (jF G (fr T) (cZ T))) u M w) (λT v M w=>T<c.N/\yn (da prog false) B a8 c.K L_ (ee (jF G (fr T) (cZ T))) v M w):=by
 have E:∀T,T<c.N->∀d∈ee (jF G (fr T) (cZ T)),a8 d.c5:=λT n=>B7 λd hd=>by obtain⟨k,hk,rfl⟩:=vbl.1 hd;grind
 refine⟨hinv,λT l M w0 n z hk hI=>?_,λT l M w0 u X fv n z hk hI hm=>?_,λT v M w h=>?_,mf,λT v M w M' w' h K dH=>⟨h.1,yn.mono tx (E T h.1) h.2 (λb f=>K b (f.imp_left (D b))) dH⟩⟩
 .have K:∀b,a8 b\/bL b->w0.heap[b]?=cH.heap[b]?:=λb f=>hI.1 b (D b (f.resolve_right (λx=>x)));have L:=pE N K;refine iU.mono (NZ uL Y func209 aBI Y AD z (G:=bL) (M:=M) D (λb h=>h.elim) hg (R:=λq v w1=>∃gs,L4 gs w1 v/\gs.map Prod.fst=ee (jF G (fr T) (cZ T))/\r7 w1 gs (λb=>q.heap.size<=b)) (mw λv hv=>?_) L (λw j q A I=>?_)) ?_
  .simp at hv;rcases hv with rfl|rfl|rfl
   .grind
   .exact .int _ _
   .exact .int _ _
  .have h1:=(hin.same N (sF (λb f=>(j b f).trans (K b f)) N) (.inl W) (.inl U) (.inl Q)).same (pE L j) (A.carry (pE L j)) (.inl W) (.inl U) (.inl Q);have h2:=h1.keeps (zi q I);grind[aBn]
  .rintro u bX ⟨r,M',w',⟨w,q,ρ,w1,v,j,A,m⟩,t,y,rfl⟩;obtain⟨gs,k1,k2,H⟩:=m.post;refine⟨M',w',y,⟨n,Dp.tq m (λb f=>⟨⟨(t b f).1,(t b f).2.resolve_left id⟩,λx=>y.br.tz b (t b f).1 x⟩) XG (E T n) k2 k1 H λp z F C s H=>?_⟩,Y⟩;obtain⟨S,J⟩:=m.world;have hsz:B<=F:=by have h1:=j.2;have h2:=hI.2;rw[A.size]at H;rcases m.old _ _ C with rfl|h<;>omega
   replace j:=j.1;refine⟨λf=>?_,s.carry J C,hsz⟩;have e:=J.inj _ _ _ C (m.le.1 F F ⟨Y,.inl f⟩);subst e;obtain⟨o,O,-⟩:=L _ (.inl f);have:=lR ((j _ (.inl f)).trans O);rw[A.size]at H;omega
 .obtain⟨-,gs,r,h0,h1,h2,h3,bE,iO⟩:=hm;refine iU.mono (NZ uL Y func131 aBJ Y AD z (G:=r) (M:=M) D AA hg (R:=λq v w1=>∃gs',s5 (dp (λb=>a8 b\/r b) bL) gs gs'/\L_ gs' w1 v) (mw λv hv=>?_) h2 (λw j q A I=>?_)) ?_
  .grind
  .have cB:=pE h2 j;obtain⟨g1,r1,m1⟩:=XG (a8:=a8) (dp (λb=>a8 b\/r b) bL) _ _ _ _ gs (λb f=>⟨Y,.inl f⟩) (λa b b' h1 h2=>h1.1.symm.trans h2.1) (sF j h2) h3 (Ma (E T n) h0) bE;obtain⟨g2,V,bO,gz,rfl,qU,G6⟩:=XG (a8:=a8) (dp (λb=>a8 b\/r b) bL) _ _ _ _ g1 (λb f=>⟨Y,.inl f⟩) (λa b b' h1 h2=>h1.1.symm.trans h2.1) (A.carry cB) h3 (Ma (E T n) (r1.fst.trans h0)) m1;have kp:g2.length<=300:=by have e:=vcd List.length (V.fst.trans (r1.fst.trans h0));grind[LZ,Ar]
   refine(aBC {q with tape:=I} qU (G6.keeps (zi q I)) kp).mono ?_;rintro e w' ⟨v,rfl,O,-⟩;exact⟨v,Y,g2,r1.trans V,O⟩
  .rintro e' bX ⟨aKM,M',w',⟨w,q,ρ,w1,e,_,_,m⟩,t,y,rfl⟩;obtain⟨gs',Z,hv⟩:=m.post
   .have Au:r7 w0 gs' (λb=>r b/\B<=b):=iO.rel Z LO λp z b' eS s o=>by obtain⟨rfl,-⟩:=eS;grind
    refine⟨M',w',y,⟨n,Dp.tq m (λb f=>⟨(t b f).2.elim (λx=>.inl (h1 b x).1) λx=>.inr ⟨(t b f).1,x⟩,λx=>y.br.tz b (t b f).1 x⟩) tx (E T n) (Z.fst.trans h0) hv Au λp z F C s o=>?_⟩,Y⟩;obtain⟨S,J⟩:=m.world;have e:=J.one _ _ _ C (m.le.1 _ _ ⟨Y,.inr o.1⟩);subst e;exact⟨λf=>(h1 _ o.1).2 (D _ f),s.same (y.rw.heap _ (.inr (fv _ (h1 _ o.1).1))),o.2⟩
 .obtain⟨n,gs,r,kg,_,_,_,⟨bZ,cap,rfl,sJ,-⟩,_⟩:=h;grind
end bd
namespace bd
open RowKit av
def XJ:vfd.funcs[(132:Nat)]?=some f132:=vfa func132
@[simp] theorem aKO:dc false 132:=cR XJ AD
theorem aBW:vfd.funcs[(117:Nat)]?=some f117:=vfa func117
def aBX(n:Nat)(hn:n<=1000)(w:aR):
 Calls vfd 132 #[.N,.I n] w λe w'=>∃v,e=.returned v/\w'.ownsRow w.heap.size 148 18 v 0 []/\c6 w w':=by
 by_cases h0:n=0
 .subst h0;go_enter XJ,ntmps132
  go_wp2
  go_ret
  simp_all[vcg,vaa]
 .have d:(0:Int)<(n:Int):=by omega
  have a:t148.bytes=208:=AB;have c:=nextslicecap_zero (need:=n) AQ;go_enter XJ,ntmps132
  go_wp2
  all_goals try(exfalso;simp only[a,c]at *;omega)
  go_ret
  have h1:n<=(Question.appendCap n 0 148).cut (w.tape w.drawn (Question.appendCap n 0 148)):=by simp[Question.cut]
  have h2:(Question.appendCap n 0 148).cut (w.tape w.drawn (Question.appendCap n 0 148))<=maxLen:=by simp only[Question.cut,maxLen];have:=Nat.mod_lt (w.tape w.drawn (Question.appendCap n 0 148)) (show 0<2^63-n by omega);omega
  generalize(Question.appendCap n 0 148).cut (w.tape w.drawn (Question.appendCap n 0 148))=b at *;refine⟨_,Y,⟨AS,.inr ⟨w.heap.size,b,_,Y,vac _,(ag.new w _ _).drew,vax _,h2,?_,AS⟩⟩,((vaa _ w).alloc JR _).drew⟩;grind[size_zeroCells,List.length_cons]
structure Av(w:aR)(s7 N:Nat)(sv:ubv)(ps:Nat->List cY):Prop where
 list:∀p,p<N->w.cell? (.a s7 p)=some (sv p)
 cells:∀p,p<N->nB w (sv p) (ps p)
def eL(ps:Nat->List cY):Nat->List cY
 |0=>[]
 |k+1=>eL ps k++ps k
def sY ps{k n}(h:k<=n):(eL ps k).length<=(eL ps n).length:=by
 induction n with
 |zero=>grind
 |succ n a=>
  by_cases e:k=n+1
  .grind
  grind[eL]
theorem nB.cell{w v gs}(h:nB w v gs):∃bZ cap,v=.slice bZ gs.length cap/\(0<gs.length->∃g,bZ=some ⟨g,0,none⟩/\∀j u,(ga gs)[j]?=some u->w.cell? (Addr.add ⟨g,0,none⟩ j)=some u):=by obtain⟨bZ,cap,e,-,h1⟩:=h;refine⟨bZ,cap,e,λh0=>?_⟩;obtain⟨g,e2,h2⟩:=h1 h0;refine⟨g,e2,λj u a=>?_⟩;have b:=(vab.1 a).1;rw[IA]at b;have hd:j / 18<gs.length:=AQ;have h3:=h2 (j / 18) hd (j % 18) AQ;rw[<-LU gs (j / 18) hd (j % 18) AQ,show j / 18*18+j % 18=j by omega,a]at h3;rw[vdn,vbs];exact h3
def aBY{n N t sv ps}w(h:Av w n N sv ps)(a5:N<=1000)(H:(eL ps N).length<=1000)(r:∀p,p<N->0<(ps p).length):
 Calls vfd 117 #[.S n 0 N t] w λe w'=>∃v,e=.returned v/\w'.ownsRow w.heap.size 148 18 v (eL ps N).length (ga (eL ps N))/\c6 w w':=by
 have i:Hid (Av w n N sv ps):=h;clear h;go_enter aBW,ntmps117
 go_wp2
 go_loopw [3,5,11] (λa _ b W=>∃k:Nat,k<=N/\a=.I ((eL ps k).length:Int)/\b=.I (k:Int)/\W=w) (λ_ _ b _=>N-(intOf b).toNat)
 case atStart=>exact⟨0,vax _,Y,Y,Y⟩
 case round=>
  obtain⟨k,hk,rfl,rfl,rfl⟩:=hrel;by_cases c:k<N
  .have K:=i.out.list k c;have eC:=ef K;obtain⟨bZ,gc,d,-⟩:=(i.out.cells k c).cell;rw[d]at K;clear d;have hm:=sY ps (show k+1<=N from c);have As:Hid (((eL ps k).length:Int)+((ps k).length:Int)=((eL ps (k+1)).length:Int)/\(eL ps (k+1)).length<=1000):=⟨by simp[eL],AQ⟩;have nD:IntKind.wrap .i64 (((eL ps k).length:Int)+((ps k).length:Int))=((eL ps (k+1)).length:Int):=by rw[As.out.1,veh];grind
   have S:(0:Int)<=(k:Int):=AQ;have U:(k:Int)<(N:Int):=AQ;have vz:¬(((eL ps (k+1)).length:Int)<0):=AQ;go_wp2
   exact⟨⟨k+1,AQ,Y,AS,NE⟩,by simp[intOf];omega⟩
  .have o:k=N:=by omega
   subst o;have fp:¬((k:Int)<(k:Int)):=AQ;obtain⟨w,rfl⟩:∃x:aR,x=wr:=⟨wr,Y⟩;go_wp2
   refine(aBX _ H w).mono ?_;rintro e w1 ⟨v1,rfl,z,L⟩;obtain⟨a1,c1,rfl⟩:=mg z;have O:Hid (w1.ownsRow w.heap.size 148 18 (.slice a1 0 c1) 0 []):=z;have Z:Hid (c6 w w1):=L;clear z L;obtain⟨N,rfl⟩:∃x,x=k:=⟨k,Y⟩;go_wp2
   go_loopw [6,8,27] (λa _ b W=>∃(k:Nat)(bZ:uag)(gc:Nat),k<=N/\a=.slice bZ (eL ps k).length gc/\b=.I (k:Int)/\W.ownsRow w.heap.size 148 18 (.slice bZ (eL ps k).length gc) (eL ps k).length (ga (eL ps k))/\c6 w W) (λ_ _ b _=>N-(intOf b).toNat)
   case atStart=>exact⟨0,a1,c1,vax _,Y,Y,O.out,Z.out⟩
   case round=>
    obtain⟨k,bZ,gc,hk,rfl,rfl,J,F⟩:=hrel;have q:Hid (wr.ownsRow w.heap.size 148 18 (.slice bZ (eL ps k).length gc) (eL ps k).length (ga (eL ps k))):=J;have m:Hid (c6 w wr):=F;clear J F;by_cases c:k<N
    .have s:=bp.cy m.out;have e0:=s _ _ _ (i.out.list k c);have eC:=ef e0;obtain⟨gk,y,d,E⟩:=((i.out.cells k c).keeps s).cell;obtain⟨M,M8,D⟩:=E (r k c);subst M8;rw[d]at e0;have UQ:Hid (∀j u,(ga (ps k))[j]?=some u->wr.cell? (Addr.add ⟨M,0,none⟩ j)=some u):=D;have l:Hid ((eL ps (k+1)).length<=1000/\(eL ps (k+1)).length=(eL ps k).length+(ps k).length/\ga (eL ps (k+1))=ga (eL ps k)++ga (ps k)):=⟨vad (sY ps (show k+1<=N from c)) H,by simp[eL],by rw[eL,QH]⟩;have S:(0:Int)<=(k:Int):=AQ;have U:(k:Int)<(N:Int):=AQ;obtain⟨V,hi,R,T,Q⟩:=vce (Xi false);have B:Hid (w.heap.size<=wr.heap.size):=m.out.size;clear s d E D;go_wp2_with (at_builtin;apply qq)
     unfold hM;refine wpList_append_own _ Y _ _ 143 Y w.heap.size 148 V _ 18 208 ((tf _ _ _).trans underlying143) hi R T Q Y AF (.slice bZ (eL ps k).length gc) (eL ps k).length (ga (eL ps k)) Y q.out ⟨M,0,none⟩ (ps k).length y (ga (ps k)) Y (IA _) UQ.out (w6 _) (by have:=l.out;unfold maxLen;omega) (by have:=l.out;omega) B.out ?_;intro v' A f C _;rw[<-l.out.2.1,<-l.out.2.2]at f;obtain⟨I,bt,rfl⟩:=mg f;have P:Hid (A.ownsRow w.heap.size 148 18 (.slice I (eL ps (k+1)).length bt) (eL ps (k+1)).length (ga (eL ps (k+1)))):=f;have X:Hid (c6 w A):=m.out.grown C B.out (λg hg=>(World.ownsRow.lt q.out g hg).1);clear f C e0;go_wp2
     go_roundw
     case rel=>exact⟨k+1,I,bt,AQ,Y,AS,P.out,X.out⟩
     case measure=>simp[intOf];omega
    .have o:k=N:=by omega
     subst o;have jL:¬((k:Int)<(k:Int)):=AQ;go_wp2
     go_ret
     exact⟨_,Y,q.out,m.out⟩
