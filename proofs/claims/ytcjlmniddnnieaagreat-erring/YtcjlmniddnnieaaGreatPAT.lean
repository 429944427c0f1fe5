import Derived.Test.YtcjlmniddnnieaaGreatPAO
import Derived.Test.YtcjlmniddnnieaaGreatPAP
import Derived.Test.YtcjlmniddnnieaaGreatPAR
import Derived.Test.YtcjlmniddnnieaaGreatPAS
set_option linter.all false
set_option maxRecDepth 100000
set_option maxHeartbeats 16000000
namespace Go.Proofs.YtcjlmniddnnieaaGreat
open Tryz
namespace bU
open Conc ConcM RowKit au bn ai e_ g6 fF hU c5
theorem Zw(rs:List bh)(outs:Nat->bw)(fr bQ:Nat):(mz rs outs fr bQ).length=(j9 outs fr (bQ-fr)).length:=by simp[mz]
theorem Zv(outs:Nat->bw)(fr n:Nat):(j9 outs fr n).length<=n:=by grind[j9]
def mA(n:Nat)(v:Value):Prop:=∃a c,v=.slice a n c/\n<=c
def xK(ts:List bH)(rs:List bh)(fr bQ:Nat)(w:aH)(u:Value):Prop:=
 ∃g_ gF ee ev aA,u=.func (.func 173) #[] #[.P g_ 0,.P gF 0,.P ee 0]/\
  w.cell? (.a g_ 0)=some ev/\w.cell? (.a g_ 1)=some aA/\w.cell? (.a gF 0)=some (.I fr)/\w.cell? (.a ee 0)=some (.I bQ)/\rS w ev ts/\eS w aA rs/\mA rs.length aA
def mA.carry{ρ:Ren}{n:Nat}{v b:Value}(h:mA n v)(hv:ax ρ v b):mA n b:=by obtain⟨a,c,rfl,d⟩:=h;cases hv with|jV=>exact⟨_,_,Y,d⟩|slice=>exact⟨_,_,Y,d⟩
def aql(ts:List bH)(rs:List bh)(fr bQ:Nat):y3 (xK ts rs fr bQ):=by rintro ρ w w' u t a h ⟨m,v,y,ev,aA,rfl,h0,l,k,j,i,s,q⟩;obtain⟨c1,co,db,rfl,b,g,f⟩:=TF h;obtain⟨lS,r,p⟩:=a _ _ _ b h0;obtain⟨cu,a1,c⟩:=a ⟨m,1,none⟩ ⟨c1,1,none⟩ _ ⟨b.1,Y,Y⟩ l;obtain⟨dr,e,o⟩:=a _ _ _ g k;obtain⟨x,d,n⟩:=a _ _ _ f j;rw[o.mw]at e;rw[n.mw]at d;exact⟨c1,co,db,lS,cu,Y,r,a1,e,d,au.aZ.carry C7 a p i,au.aZ.carry ny a c s,q.carry c⟩
theorem xK.keeps{ts:List bH}{rs:List bh}{fr bQ:Nat}{w w':aH}{u:Value}(hk:br w w')(h:xK ts rs fr bQ w u):xK ts rs fr bQ w' u:=by obtain⟨e,f,g,ev,aA,rfl,h0,d,c,b,a,j,i⟩:=h;exact⟨e,f,g,ev,aA,Y,hk _ _ _ h0,hk _ _ _ d,hk _ _ _ c,hk _ _ _ b,aZ.mono tT hk a,aZ.mono pj hk j,i⟩
def aqm:vef.funcs[(171:Nat)]?=some f171:=veb func171
def aqn(ts:List bH)(rs:List bh)(ev aA:Value)(fr bQ:Nat)(w:aH)(hv:rS w ev ts)(g:eS w aA rs)(hd:mA rs.length aA):
 Calls vef 171 #[.agg #[ev,aA],.I fr,.I bQ] w λe w'=>∃u,e=.returned u/\xK ts rs fr bQ w' u:=by
 obtain⟨b,cap,rfl,-,-⟩:=id hv;obtain⟨a,cc,rfl,f⟩:=id hd;go_enter aqm,ntmps171
 go_wp2
 go_ret
 have b1:=((ag.new w #[.slice b ts.length cap,.slice a rs.length cc] 105).alloc (.cells #[.I (fr:Int)] 3)).alloc (.cells #[.I (bQ:Int)] 3);have b2:=(ag.new (w.alloc (.cells #[.slice b ts.length cap,.slice a rs.length cc] 105)) #[.I (fr:Int)] 3).alloc (.cells #[.I (bQ:Int)] 3);have c:=ag.new ((w.alloc (.cells #[.slice b ts.length cap,.slice a rs.length cc] 105)).alloc (.cells #[.I (fr:Int)] 3)) #[.I (bQ:Int)] 3;simp at b2 c;have d:br w (((w.alloc (.cells #[.slice b ts.length cap,.slice a rs.length cc] 105)).alloc (.cells #[.I (fr:Int)] 3)).alloc (.cells #[.I (bQ:Int)] 3)):=br.ck ((((vaa _ w).alloc Kj _).alloc AQ _).alloc An _);exact⟨_,Y,w.heap.size,w.heap.size+1,w.heap.size+1+1,.slice b ts.length cap,.slice a rs.length cc,Y,b1.rules.1 0,b1.rules.1 1,b2.rules.1 0,c.rules.1 0,aZ.mono tT d hv,aZ.mono pj d g,hd⟩
def aqo:gz prog false f171=true:=by decide+kernel
def aqp:gz prog false f173=true:=by decide+kernel
structure GI(ts:List bH)(rs:List bh)(outs:Nat->bw):Prop where
 N_:ts.length<=900
 rows:rs.length<=1000000
 run:∀i(h:i<rs.length),dI.lI rs[i].2 ts [] (some [outs i])
theorem aqq(ts:List bH)(rs:List bh)(outs:Nat->bw)(ok:GI ts rs outs)(fr bQ:Nat)(c:fr<bQ)(b:bQ<=rs.length)(t:bQ-fr<=300)(w:aH)(u:Value)(h:xK ts rs fr bQ w u):
 Calls vef 112 #[u] w λe w'=>∃v,e=.returned v/\eS w' v (mz rs outs fr bQ):=by
 obtain⟨m,n,o,ev,aA,rfl,h0,l,k,i,g,s,r⟩:=h;have d:=Zv outs fr (bQ-fr);refine(Sm AP w (aqc _ _) (λargs w=>cq Zz aqp args w) (aqe ts rs ev aA fr bQ outs w g s ok.N_ c b ok.rows ok.run r m n o h0 l k i)).mono ?_;rintro e w' ⟨a,rfl,f,-⟩;refine⟨a,Y,NI f _ (Zw _ _ _ _) AP λj y p q x=>?_⟩;grind[aqd]
def aqr{Stop:Bool->ai.Lo At->aX->Prop}{c:da}{bY:aH}{bI:dY}(o:∀b,bI b->c.K b)(hg:∀g,g<=prog.globals.size->bI g)(a:fA (cr prog false) (λb=>bI b\/bZ b) bZ bY){fj ev aA:Value}{ts:List bH}{rs:List bh}{outs:Nat->bw}(ok:GI ts rs outs){fr bQ:uas}(hv:rS bY ev ts)(e:eS bY aA rs)(hd:mA rs.length aA)(k:ax (dz (λb=>bI b\/bZ b) bZ) ev ev)(l:ax (dz (λb=>bI b\/bZ b) bZ) aA aA)(hinv:∀(args:fi)(w:aH),(callMethod fj "Piece" args).run prog w=.ok (.enter 171 (#[.agg #[ev,aA]]++args)) w/\(callMethod fj "Piece" args).events prog w #[]=#[])(q:∀T,T<c.N->fr T<bQ T/\bQ T<=rs.length/\bQ T-fr T<=300)(lB:∀T,T<c.N->c.rows T=(mz rs outs (fr T) (bQ T)).length)(im:∀T,c.bad T=false):
 rh c bY prog Stop 112 fj 171 (.agg #[ev,aA]) fr bQ
  (λT u M w=>lf (cr prog false) bI c.K (xK ts rs (fr T) (bQ T)) u M w) (λT v M w=>lf (cr prog false) bI c.K (λw v=>T<c.N/\eS w v (mz rs outs (fr T) (bQ T))) v M w):=by
 refine aa8 kH Y func171 aqo Y AM func112 Kf Y AM o hg a hinv (.oW (lg λv p=>?_))
  (tf:=λT=>xK ts rs (fr T) (bQ T)) (tg:=λT w v=>T<c.N/\eS w v (mz rs outs (fr T) (bQ T))) (λT=>aql _ _ _ _) (λT _ _ _ _ _ e hv h=>⟨h.1,TG _ _ _ _ _ _ e hv h.2⟩) (λT m w d i n f=>?_) im (λT m i u p f=>?_) (λT w v h=>?_)
 .grind
 .have j:=xJ i f;exact aqn ts rs ev aA (fr T) (bQ T) {i with tape:=f} (aZ.mono tT j (au.aZ.carry C7 (n.carry (nw a d)) k (au.aZ.carry C7 (nx d a) k hv))) (aZ.mono pj j (au.aZ.carry ny (n.carry (nw a d)) l (au.aZ.carry ny (nx d a) l e))) hd
 .grind[aqq,xK.keeps,xJ]
 .obtain⟨m,r,cap,rfl,-,-⟩:=h;simp_all
end bU
namespace dI
open Conc ConcM RowKit au bn ai e_ g6 fF hU c5 bU
def iu(err:uaz)(fr bQ:Nat):Option Nat:=(List.range' fr (bQ-fr)).find? err
variable{bQ fr:Nat}
def xL{err:uaz}{i:Nat}(h:iu err fr bQ=some i):fr<=i/\i<bQ/\err i=true/\∀j,fr<=j->j<i->err j=false:=by unfold iu at h;rw[List.find?_range'_eq_some]at h;obtain⟨e,c,d⟩:=h;simp at c;exact⟨c.1,AP,e,λj a b=>by simpa using d j a b⟩
def Uh{err:uaz}(h:iu err fr bQ=none)(j:Nat)(b:fr<=j)(a:j<bQ):err j=false:=by unfold iu at h;rw[List.find?_eq_none]at h;simpa using h j An
def kB(rs:List bh)(outs:Nat->List bw)(fr bQ:Nat):List bh:=(List.range (bQ-fr)).map λk=>((rs[fr+k]?.map (·.1)).getD [],outs (fr+k))
def Bg(rs:List bh)(outs:Nat->List bw)(fr bQ:Nat):(kB rs outs fr bQ).length=bQ-fr:=by simp[kB]
def zf(w:aH)(aA:Value)(pl:ubm)(n:Nat):Prop:=∀i,i<n->∃b off c,aA=.S b off n c/\w.cell? (.a b (off+i*2))=some (pl i)
variable{n:Nat}
def aqs{ρ:Ren}{b o k:Nat}{v:Value}(f:ρ.rel b b)(g:∀a b e,ρ.rel a b->ρ.rel a e->b=e)(h:ax ρ (.S b o n k) v):v=.S b o n k:=by cases h with|slice _ _ r=>rename_i a';obtain⟨ab,j,i⟩:=a';obtain⟨r1,d,c⟩:=r;have:=g _ _ _ f r1;simp only at d c this;subst d c this;rfl
variable{w w':aH}{pl:ubm}
def zf.carry{ρ:Ren}{aA l:Value}(t:∀a b j,ρ.rel a b->ρ.rel a j->b=j)(q:∀i,i<n->∃b o n k,pl i=.S b o n k/\ρ.rel b b)(s:Carry ρ w w')(hv:ax ρ aA l)(h:zf w aA pl n):zf w' l pl n:=by intro i hi;obtain⟨b,off,c,rfl,hcell⟩:=h i hi;cases hv with|slice _ _ r=>rename_i a';obtain⟨ab,y,u⟩:=a';obtain⟨r1,f,d⟩:=r;simp only at r1 f d;subst f d;obtain⟨v,m,g⟩:=s ⟨b,off+i*2,none⟩ ⟨ab,off+i*2,none⟩ _ ⟨r1,Y,Y⟩ hcell;obtain⟨gn,x,c8,ey,e,p⟩:=q i hi;rw[e]at g⊢;exact⟨ab,off,c,Y,by rw[m,aqs p t g]⟩
def uD(es:List (List bH))(rs:List bh)(pl:ubm)(fr bQ:Nat)(w:aH)(u:Value):Prop:=
 ∃g_ gF ee ev aA,u=.func (.func 194) #[] #[.P g_ 0,.P gF 0,.P ee 0]/\
  w.cell? (.a g_ 0)=some ev/\w.cell? (.a g_ 1)=some aA/\w.cell? (.a gF 0)=some (.I fr)/\w.cell? (.a ee 0)=some (.I bQ)/\nP w ev es/\eS w aA rs/\mA rs.length aA/\zf w aA pl rs.length
variable{bI:dY}
def aqu(es:List (List bH))(rs:List bh)(q:∀i,i<rs.length->∃b o n k,pl i=.S b o n k/\bI b)(fr bQ:Nat):NG bI (uD es rs pl fr bQ):=by rintro ρ w w' u F hK m a p ⟨y,H,J,ev,aA,rfl,h0,x,v,t,s,E,C,l⟩;obtain⟨c1,co,db,rfl,d,j,h⟩:=TF p;obtain⟨lS,D,B⟩:=a _ _ _ d h0;obtain⟨cu,a1,c⟩:=a ⟨y,1,none⟩ ⟨c1,1,none⟩ _ ⟨d.1,Y,Y⟩ x;obtain⟨dr,g,A⟩:=a _ _ _ j v;obtain⟨I,f,z⟩:=a _ _ _ h t;rw[A.mw]at g;rw[z.mw]at f;exact⟨c1,co,db,lS,cu,Y,D,a1,g,f,au.aZ.carry Bc a B s,au.aZ.carry ny a c E,C.carry c,l.carry m (λi hi=>by obtain⟨b,o,n,k,e,r⟩:=q i hi;exact⟨b,o,n,k,e,hK b r⟩) a c⟩
variable{es:List (List bH)}
theorem uD.keeps{rs:List bh}{u:Value}(hk:br w w')(h:uD es rs pl fr bQ w u):uD es rs pl fr bQ w' u:=by obtain⟨l,m,n,ev,aA,rfl,h0,k,j,g,f,q,p,a⟩:=h;exact⟨l,m,n,ev,aA,Y,hk _ _ _ h0,hk _ _ _ k,hk _ _ _ j,hk _ _ _ g,aZ.mono qR hk f,aZ.mono pj hk q,p,λi hi=>by obtain⟨b,o,c,e,d⟩:=a i hi;exact⟨b,o,c,e,hk _ _ _ d⟩⟩
def aqv:vef.funcs[(192:Nat)]?=some f192:=veb func192
def aqw(es:List (List bH))(rs:List bh)(pl:ubm)(ev aA:Value)(fr bQ:Nat)(w:aH)(hv:nP w ev es)(f:eS w aA rs)(hd:mA rs.length aA)(h:zf w aA pl rs.length):
 Calls vef 192 #[.agg #[ev,aA],.I fr,.I bQ] w λe w'=>∃u,e=.returned u/\uD es rs pl fr bQ w' u:=by
 obtain⟨d,cap,rfl,-,-⟩:=id hv;obtain⟨a,cc,rfl,l⟩:=id hd;have k:Hid (zf w (.slice a rs.length cc) pl rs.length):=h;clear h;go_enter aqv,ntmps192
 go_wp2
 go_ret
 have b1:=((ag.new w #[.slice d es.length cap,.slice a rs.length cc] 107).alloc (.cells #[.I (fr:Int)] 3)).alloc (.cells #[.I (bQ:Int)] 3);have b2:=(ag.new (w.alloc (.cells #[.slice d es.length cap,.slice a rs.length cc] 107)) #[.I (fr:Int)] 3).alloc (.cells #[.I (bQ:Int)] 3);have j:=ag.new ((w.alloc (.cells #[.slice d es.length cap,.slice a rs.length cc] 107)).alloc (.cells #[.I (fr:Int)] 3)) #[.I (bQ:Int)] 3;simp at b2 j;have g:br w (((w.alloc (.cells #[.slice d es.length cap,.slice a rs.length cc] 107)).alloc (.cells #[.I (fr:Int)] 3)).alloc (.cells #[.I (bQ:Int)] 3)):=br.ck ((((vaa _ w).alloc Kj _).alloc AQ _).alloc An _);exact⟨_,Y,w.heap.size,w.heap.size+1,w.heap.size+1+1,.slice d es.length cap,.slice a rs.length cc,Y,b1.rules.1 0,b1.rules.1 1,b2.rules.1 0,j.rules.1 0,aZ.mono qR g hv,aZ.mono pj g f,hd,λi hi=>by obtain⟨b,o,c,e,f⟩:=k.out i hi;exact⟨b,o,c,e,g _ _ _ f⟩⟩
def aqx{nQ:Nat}{pl:ubd}{vs:List bw}{p q:Value}(h:T_ nQ pl vs w (.agg #[p,q]))(f:pl.length<=9223372036854775807)(hv:vs.length<=9223372036854775807)(ht:∀d∈vs,d.text.size<=9223372036854775807):iQ w p pl/\j5 w q vs:=by obtain⟨o,pc,bv,cs,e,j,g,n,k⟩:=h;simp at e;obtain⟨rfl,rfl⟩:=e;refine⟨⟨_,_,Y,f,λi hi=>?_⟩,j5.MN g hv ht k _⟩;obtain⟨b,off,c,e,z,a,-,m,l⟩:=j i hi;refine⟨b,off,a,?_⟩;show w.cell? (.a b (off+i*1+0))=_;simp_all[World.cell?]
def aqy:gz prog false f192=true:=by decide+kernel
def ab0:gz prog false f194=true:=by decide+kernel
structure xM(es:List (List bH))(rs:List bh)(outs:Nat->List bw)(bad:ubb):Prop where
 small:es.length<=1000000
 N_:∀e∈es,e.length<=900
 rows:rs.length<=1000000
 len:∀i,(outs i).length=es.length
 run:∀i(h:i<rs.length) k(hk:k<es.length)(h':k<(outs i).length),(∀f,bad i=some f->k<f)->lI rs[i].2 es[k] [] (some [(outs i)[k]])
 err:∀i(h:i<rs.length) f,bad i=some f->∃h':f<es.length,lI rs[i].2 es[f] [] none
 text:∀i,∀d∈outs i,d.text.size<=9223372036854775807
 place:∀r∈rs,r.1.length<=9223372036854775807
def ll(bad:ubb)(i:Nat):Bool:=(bad i).isSome
def aqz(es:List (List bH))(rs:List bh)(pl:ubm)(outs:Nat->List bw)(bad:ubb)(ok:xM es rs outs bad)(fr bQ:Nat)(t:fr<bQ)(s:bQ<=rs.length)(I:bQ-fr<=300)(w:aH)(u:Value)(h:uD es rs pl fr bQ w u):
 Calls vef 112 #[u] w λe w'=>(iu (ll bad) fr bQ=none/\∃v,e=.returned v/\eS w' v (kB rs outs fr bQ))\/∃i,iu (ll bad) fr bQ=some i/\e=y2 (pl i):=by
 obtain⟨C,D,E,ev,aA,rfl,h0,B,A,z,y,H,F,M⟩:=h;cases x:iu (ll bad) fr bQ with
 |none=>
  have m:=Uh x;have r:=ZJ (n:=2) es rs ev aA fr bQ (bQ-fr) outs bad undef w y H ok.small ok.N_ AP s ok.rows ok.len ok.run ok.err AP (λi hi=>by have:=m (fr+i) AP AP;simpa[ll]using this) (λh=>AP) F t C D E h0 B A z;refine(Sm I w (ZT _ _ _) (λargs w=>cq T9 ab0 args w) (λl S J W a b c d e=>(r l S J W a b c d e).mono λX Y⟨f,g⟩=>⟨by simp only at f;rwa[vbz AP]at f,g⟩)).mono ?_;rintro e w' ⟨K,rfl,Q,-⟩;refine .inl ⟨rfl,K,rfl,NI Q _ (Bg _ _ _ _) AP λj T p q P=>?_⟩;have R:j<bQ-fr:=by rwa[Bg]at T
  have V:(kB rs outs fr bQ)[j]=((rs[fr+j]?.map (·.1)).getD [],outs (fr+j)):=by simp[kB]
  rw[V];refine aqx P ?_ (by rw[show((rs[fr+j]?.map (·.1)).getD [],outs (fr+j)).2=outs (fr+j)from rfl,ok.len];have:=ok.small;omega) (ok.text _);have o:fr+j<rs.length:=AP;simp[o];exact ok.place _ AJ
 |some i=>obtain⟨i1,Z,O,N⟩:=xL x;obtain⟨k,rfl⟩:∃k,i=fr+k:=⟨i-fr,AP⟩;have r:=ZJ (n:=2) es rs ev aA fr bQ k outs bad (pl (fr+k)) w y H ok.small ok.N_ AP s ok.rows ok.len ok.run ok.err AP (λi hi=>by have:=N (fr+i) AP AP;simpa[ll]using this) (λ_=>⟨λe=>by simp[ll,e]at O,by obtain⟨b,off,c,e,U⟩:=M (fr+k) AP;exact⟨b,off,c,e,U⟩⟩) F t C D E h0 B A z;refine(ap1 (L:=[{v:=.iface 76 (pl (fr+k)),recovered:=false}]) AP w (ZT _ _ _) (λargs w=>cq T9 ab0 args w) (λl S J W a b c d e=>(r l S J W a b c d e).mono λX Y⟨f,g⟩=>⟨by simp only at f;rwa[vbt AP]at f,g⟩)).mono ?_;rintro e w' ⟨rfl,-⟩;exact .inr ⟨fr+k,rfl,rfl⟩
variable{bY:aH}
def aqA{Stop:Bool->ai.Lo At->aX->Prop}{c:da}(s:∀b,bI b->c.K b)(hg:∀g,g<=prog.globals.size->bI g)(t:fA (cr prog false) (λb=>bI b\/bZ b) bZ bY)(P:∀T,c.bad T=true->c.least=.N)(lB:∀T,T<c.N->c.bad T=true->c.rows T=0){p:ubu}(n:∀T,T<c.N->c.bad T=true->∃b o k,c.place T=.S b o 1 k/\bI b/\bY.cell? (.a b o)=some (.I (p T)))(O:∀T d,T<c.N->c.bad T=true->d<c.N->c.bad d=true->(p T<p d↔T<d)):GA c bY prog Stop 125:=by
 refine⟨λT _ h=>P T h,lB,λT i a=>by obtain⟨b,o,k,e,-⟩:=n T i a;exact⟨b,o,1,k,e⟩,λT d i a I A l M w1 E J V hk S=>?_⟩;obtain⟨b,o,k,e,H,Q⟩:=n T i a;obtain⟨W,o',k',U,f,m⟩:=n d I A;rw[e,U];have F:∀b,bI b\/bZ b->w1.heap[b]?=bY.heap[b]?:=λb a=>S b (s b (a.resolve_right (λx=>x)));have q:=nw t F;refine(Tm kH rfl func125 ZF rfl AM J V (G:=bZ) (M:=M) s (λb h=>h.elim) hg (R:=λ_ e _=>∃z:Int,e=.returned (.I z)/\(z<0↔p T<p d)) (lg λv hv=>?_) (λ_ e _ h=>by obtain⟨z,rfl,-⟩:=h;simp) q (λw u r X B=>?_)).ret ?_
 .simp at hv;rcases hv with rfl|rfl
  .exact .slice _ _ ⟨⟨rfl,.inl H⟩,rfl,rfl⟩
  .exact .slice _ _ ⟨⟨rfl,.inl f⟩,rfl,rfl⟩
 .have look:∀b o(z:Int),bI b->bY.cell? (.a b o)=some (.I z)->({r with tape:=B}:aH).cell? (.a b o)=some (.I z):=by intro b o z a j;obtain⟨v1,a1,r1⟩:=nx F t ⟨b,o,none⟩ ⟨b,o,none⟩ _ ⟨⟨rfl,.inl a⟩,rfl,rfl⟩ j;rw[r1.mw]at a1;obtain⟨v2,D,N⟩:=nx u q ⟨b,o,none⟩ ⟨b,o,none⟩ _ ⟨⟨rfl,.inl a⟩,rfl,rfl⟩ a1;rw[N.mw]at D;obtain⟨v3,C,L⟩:=X.carry (nw q u) ⟨b,o,none⟩ ⟨b,o,none⟩ _ ⟨⟨rfl,.inl a⟩,rfl,rfl⟩ D;rw[L.mw]at C;exact C
  exact ap_ (p T) (p d) b o k W o' k' {r with tape:=B} (look _ _ _ H Q) (look _ _ _ f m)
 .rintro e2 bu ⟨Y,M',w',⟨w,r,ρ,w2,Z,-,-,y⟩,-,K,rfl⟩;obtain⟨z,rfl,j⟩:=y.post;cases y.val with|ret hv=>rw[hv.mw];exact⟨_,rfl,z,rfl,j.trans (O T d i a I A),M',w',K,rfl⟩
def aqB{Stop:Bool->ai.Lo At->aX->Prop}{c:da}(O:∀b,bI b->c.K b)(hg:∀g,g<=prog.globals.size->bI g)(q:fA (cr prog false) (λb=>bI b\/bZ b) bZ bY){fj ev aA:Value}{rs:List bh}{outs:Nat->List bw}{bad:ubb}(ok:xM es rs outs bad){fr bQ:uas}(hv:nP bY ev es)(t:eS bY aA rs)(hd:mA rs.length aA)(N:ax (dz (λb=>bI b\/bZ b) bZ) ev ev)(C:ax (dz (λb=>bI b\/bZ b) bZ) aA aA){p:ubu}(S:∀i,i<rs.length->∃b o k,pl i=.S b o 1 k/\bI b/\bY.cell? (.a b o)=some (.I (p i)))(Q:∀i j,i<j->j<rs.length->p i<p j)(cR:zf bY aA pl rs.length)(hinv:∀(args:fi)(w:aH),(callMethod fj "Piece" args).run prog w=.ok (.enter 192 (#[.agg #[ev,aA]]++args)) w/\(callMethod fj "Piece" args).events prog w #[]=#[])(L:∀T,T<c.N->fr T<bQ T/\bQ T<=rs.length/\bQ T-fr T<=300)(U:∀T r,T<r->bQ T<=fr r)(im:∀T,T<c.N->c.bad T=(iu (ll bad) (fr T) (bQ T)).isSome)(Dj:∀T i,T<c.N->iu (ll bad) (fr T) (bQ T)=some i->c.place T=pl i)(lB:∀T,T<c.N->c.rows T=if c.bad T then 0 else bQ T-fr T)(W:∀T,c.bad T=true->c.least=.N):
 rh c bY prog Stop 112 fj 192 (.agg #[ev,aA]) fr bQ
  (λT u M w=>lf (cr prog false) bI c.K (uD es rs pl (fr T) (bQ T)) u M w) (λT v M w=>lf (cr prog false) bI c.K (λw v=>T<c.N/\eS w v (kB rs outs (fr T) (bQ T))) v M w):=by
 have D:∀i,i<rs.length->∃b o n k,pl i=.S b o n k/\bI b:=λi hi=>by obtain⟨b,o,k,e,f,-⟩:=S i hi;exact⟨b,o,1,k,e,f⟩
 have B:∀T,T<c.N->c.bad T=true->∃i,iu (ll bad) (fr T) (bQ T)=some i/\c.place T=pl i/\fr T<=i/\i<bQ T/\i<rs.length:=by intro T d f;rw[im T d]at f;obtain⟨i,hi⟩:=Option.isSome_iff_exists.1 f;obtain⟨l,m,-⟩:=xL hi;have:=(L T d).2.1;exact⟨i,hi,Dj T i d hi,l,m,AP⟩
 refine aa6 kH rfl func192 aqy rfl AM func112 Kf rfl AM O hg q hinv (.oW (lg λv R=>?_))
  (tf:=λT=>uD es rs pl (fr T) (bQ T)) (tg:=λT w v=>T<c.N/\eS w v (kB rs outs (fr T) (bQ T))) (λT=>aqu _ _ D _ _) (λT _ _ _ _ _ t hv h=>⟨h.1,TG _ _ _ _ _ _ t hv h.2⟩) (λT d w s A K y=>?_)
  (aqA (p:=λT=>((iu (ll bad) (fr T) (bQ T)).map p).getD 0) O hg q W (λT d f=>by rw[lB T d,f];rfl) (λT d f=>?_) (λT r d f Bh x=>?_)) (λT d f=>?_) (λT d A u R y=>?_) (λT w v f h=>?_)
 .grind
 .have E:=xJ A y;refine aqw es rs pl ev aA (fr T) (bQ T) {A with tape:=y} (aZ.mono qR E (au.aZ.carry Bc (K.carry (nw q s)) N (au.aZ.carry Bc (nx s q) N hv))) (aZ.mono pj E (au.aZ.carry ny (K.carry (nw q s)) C (au.aZ.carry ny (nx s q) C t))) hd ?_;have l:=cR.carry (ρ:=dz (λb=>bI b\/bZ b) bZ) (λa b Y l m=>l.1.symm.trans m.1) (λi hi=>Hw) (nx s q) C;have m:=l.carry (ρ:=dz (λb=>bI b\/bZ b) bZ) (λa b Y l m=>l.1.symm.trans m.1) (λi hi=>Hw) (K.carry (nw q s)) C;exact λi hi=>by obtain⟨b,o,c,e,t⟩:=m i hi;exact⟨b,o,c,e,E _ _ _ t⟩
 .obtain⟨i,l,m,-,-,z⟩:=B T d f;obtain⟨b,o,k,e,x,I⟩:=S i z;exact⟨b,o,k,m.trans e,x,by simp only[l,vby,vae];exact I⟩
 .obtain⟨i,l,m,h3,h4,z⟩:=B T d f;obtain⟨P,F,Cv,aaj,Z,J⟩:=B r Bh x;simp only[l,F,vby,vae];constructor
  .intro h;apply vap;intro hn;rcases vcf r T with H|nl
   .have:=Q P i (by have:=U r T H;omega) z;omega
   .have e:T=r:=by omega
    subst e;rw[l]at F;cases F;omega
  .intro h;exact Q i P (by have:=U T r h;omega) J
 .obtain⟨i,-,m,-,-,z⟩:=B T d f;obtain⟨b,o,n,k,e,x⟩:=D i z;exact⟨b,o,n,k,m.trans e,x⟩
 .obtain⟨f1,X,f3⟩:=L T d;refine(aqz es rs pl outs bad ok (fr T) (bQ T) f1 X f3 {A with tape:=y} u (uD.keeps (xJ A y) R)).mono ?_;rintro e w' (⟨l,v,rfl,V⟩|⟨i,l,rfl⟩)
  .exact .inl ⟨by rw[im T d,l];rfl,v,rfl,d,V⟩
  .exact .inr ⟨by rw[im T d,l];rfl,by rw[Dj T i d l]⟩
 .obtain⟨d,bm,cap,rfl,-,-⟩:=h;rw[lB T d,f];simp[Bg]
end dI
namespace bU
open RowKit au
def Uw:vef.funcs[(116:Nat)]?=some f116:=veb func116
@[simp] theorem aGW:dk false 116:=cq Uw AM
theorem aq1(n:Nat)(hn:n<=1000)(w:aH):
 Calls vef 116 #[.N,.I n] w λe w'=>∃v,e=.returned v/\w'.ownsRow w.heap.size 79 2 v 0 []/\cy w w':=by
 by_cases h0:n=0
 .subst h0;go_enter Uw,ntmps116
  go_wp2
  go_ret
  simp_all[vcc,vaa]
 .have d:(0:Int)<(n:Int):=by omega
  have a:t79.bytes=48:=AS;have c:=nextslicecap_zero (need:=n) AP;go_enter Uw,ntmps116
  go_wp2
  all_goals try(exfalso;simp only[a,c]at *;omega)
  go_ret
  have f:n<=(Question.appendCap n 0 79).cut (w.tape w.drawn (Question.appendCap n 0 79)):=by simp[Question.cut]
  have b:(Question.appendCap n 0 79).cut (w.tape w.drawn (Question.appendCap n 0 79))<=maxLen:=by simp only[Question.cut,maxLen];have:=Nat.mod_lt (w.tape w.drawn (Question.appendCap n 0 79)) (show 0<2^63-n by omega);omega
  generalize(Question.appendCap n 0 79).cut (w.tape w.drawn (Question.appendCap n 0 79))=iW at *;refine⟨_,Y,⟨AQ,.inr ⟨w.heap.size,iW,_,Y,vad _,(ag.new w _ _).drew,vba _,b,?_,AQ⟩⟩,((vaa _ w).alloc Kj _).drew⟩;grind[size_zeroCells]
theorem S3{n:Nat}{P:Nat->Value×Value->Prop}(h:∀i,i<n->∃p,P i p):∀k,k<=n->∃xs:List (Value×Value),xs.length=k/\∀i(hi:i<xs.length),P i xs[i]
 |0,_=>⟨[],Y,AJ⟩
 |k+1,hk=>by obtain⟨xs,c,b⟩:=S3 h k AP;obtain⟨p,a⟩:=h k AP;refine⟨xs++[p],AJ,λi hi=>?_⟩;grind
theorem S2(xs:ubg)(j:Nat)(u:Value)(h:(two xs)[j]?=some u):∃i,∃hi:i<xs.length,(j=i*2/\u=xs[i].1)\/(j=i*2+1/\u=xs[i].2):=by have a:j<(two xs).length:=(vab.1 h).1;rw[ZP]at a;have hi:j / 2<xs.length:=AP;refine⟨j / 2,hi,?_⟩;obtain⟨g1,b⟩:=aa_ xs (j / 2) hi;grind
variable{w:aH}
def aq2{v:Value}{rs:List bh}(h:eS w v rs)(h0:0<rs.length):
 ∃b off c,∃xs:List (Value×Value),v=.S b off rs.length c/\xs.length=rs.length/\(∀j u,(two xs)[j]?=some u->w.cell? (.a b (off+j))=some u)/\(∀u∈two xs,u.oneCell'=true)/\
  ∀i(hi:i<xs.length)(n:i<rs.length),iQ w xs[i].1 rs[i].1/\j5 w xs[i].2 rs[i].2:=by
 obtain⟨r,c,rfl,-,g⟩:=h;obtain⟨b,off,rfl,-⟩:=g 0 h0;have m:∀i,i<rs.length->∃p:Value×Value,w.cell? (.a b (off+i*2))=some p.1/\w.cell? (.a b (off+i*2+1))=some p.2/\∀hi:i<rs.length,iQ w p.1 rs[i].1/\j5 w p.2 rs[i].2:=by intro i hi;obtain⟨s,t,e,pv,q,cz,c1,o,hv⟩:=g i hi;simp_all
 obtain⟨xs,l,f⟩:=S3 m rs.length Kj;refine⟨b,off,c,xs,Y,l,λj u d=>?_,λu d=>?_,AJ⟩
 .grind[S2]
 .obtain⟨j,k⟩:=List.getElem?_of_mem d;obtain⟨i,hi,⟨-,rfl⟩|⟨-,rfl⟩⟩:=S2 xs j u k
  .obtain⟨a,cc,e,-⟩:=((f i hi).2.2 AP).1;rw[e];rfl
  .obtain⟨a,cc,e,-⟩:=((f i hi).2.2 AP).2;rw[e];rfl
def Ol(w:aH)(rd:uaq)(rs:List bh):Prop:=∃v,rd 0=some v/\eS w v rs
def aq3:vef.funcs[(92:Nat)]?=some f92:=veb func92
def lq(ps:List (List bh))(k:Nat):List bh:=(ps.take k).flatten
def kP(ps:List (List bh))(k:Nat):Nat:=(lq ps k).length
variable{ps:List (List bh)}
theorem Om{k:Nat}(h:k<ps.length):lq ps (k+1)=lq ps k++ps[k]:=by grind[lq,List.take_succ_eq_append_getElem]
theorem GQ{k:Nat}(h:k<ps.length):kP ps (k+1)=kP ps k+ps[k].length:=by grind[kP,Om]
variable{P:cf}
def aq4(w:aH)(t ty e:uab)(i:TypeInfo)(ht:P.underlying t=some (.slice e))(hi:P.info? e=some i)(base xa:uam)(n cap b:Nat)(a:n<=cap):
 (Builtin.append_ #[t,t] ty #[.slice base n cap,.slice xa 0 b]).run P w=.ok (.slice base n cap) w:=by
 cases base<;>cases xa<;>simp[Builtin.append_,run_underlying ht,sizeOf,typeInfo,hi,a,Builtin.lenOf,Builtin.firstCells,storeCells,go_sem]
def aq5{ops:fC}{rest:ubi}{o:Oper}{a:Act}{Q:ual}(g:o.guard=none)(s x:uau)(t:uab)(f:o.op=.call {callee:=.builtin .append,args:=#[s,x],argTypes:=#[t,t]})(e:uab)(i:TypeInfo)(ht:P.underlying t=some (.slice e))(hi:P.info? e=some i){base xa:uam}{n cap c:Nat}(hs:a.eval s=.slice base n cap)(d:a.eval x=.slice xa 0 c)(b:n<=cap)(h:wpList P ops Q rest (a.put o.dst (.slice base n cap)) w):wpList P ops Q (o::rest) a w:=by
 refine wpList_plain g λK hK=>?_;have hrun:=aq4 (P:=P) w t o.type e i ht hi base xa n cap c b;unfold Oper.wp;simp[execOp,f,resolve,invoke,builtin,hs,d,hrun,Result.andThen];exact hK _ _ h
def aq6{base:Nat}{e:uab}{size n gc:Nat}{a:uam}{xs:uaj}(h:w.ownsRow base e size (.slice a n gc) n xs):n<=gc:=by
 rcases h.2 with⟨e,h0⟩|⟨g',cap',bq,e,-,-,b,-⟩
 .grind
 grind
def aq7(ps:List (List bh))(Ux:Value)(w:aH)(h:aZ w 1 Ol Ux ps)(vX:ps.length<=1000)(T:∀k,kP ps k<=1000):
 Calls vef 92 #[Ux] w λe w'=>∃v,e=.returned v/\eS w' v (lq ps ps.length)/\mA (kP ps ps.length) v/\cy w w':=by
 obtain⟨bm,cap,rfl,hl,C⟩:=h;go_enter aq3,ntmps92
 go_wp2
 go_loopw [3,5,11] (λa _ b W=>∃k:Nat,k<=ps.length/\a=.I (kP ps k:Int)/\b=.I (k:Int)/\W=w) (λ_ _ b _=>ps.length-(intOf b).toNat)
 case atStart=>exact⟨0,vba _,rfl,rfl,rfl⟩
 case round=>
  obtain⟨k,hk,rfl,rfl,rfl⟩:=hrel;by_cases d:k<ps.length
  .obtain⟨b,off,rfl,v,f,hv⟩:=C k d;simp at f;obtain⟨b6,cA,T6,-⟩:=aZ.shape hv;subst T6;have ew:=fB f;have nS:(0:Int)<=(k:Int):=AP;have k0:(k:Int)<(ps.length:Int):=AP;have l:=T (k+1);rw[GQ d]at l;have pW:¬((kP ps k:Int)+(ps[k].length:Int)<0):=AP;clear C hv;generalize eg:kP ps k=X at *;go_wp2
   exact⟨⟨k+1,AP,by grind[GQ],AQ,PA⟩,by simp[intOf];omega⟩
  .have E:k=ps.length:=by omega
   subst E;have e7:¬((ps.length:Int)<(ps.length:Int)):=AP;have sk:=T ps.length;have D:Hid _:=C;clear C;obtain⟨w,rfl⟩:∃x:aH,x=wr:=⟨wr,rfl⟩;go_wp2
   refine(aq1 (kP ps ps.length) sk w).mono ?_;rintro e w1 ⟨v1,rfl,S,bc⟩;obtain⟨a1,c1,rfl⟩:=qS S;have yy:Hid (w1.ownsRow w.heap.size 79 2 (.slice a1 0 c1) 0 []):=S;have dl:Hid (cy w w1):=bc;clear S bc;go_wp2
   go_loopw [6,8,27] (λa _ b W=>∃(k:Nat)(c:ubg)(B:uam)(gc:Nat),k<=ps.length/\a=.slice B (kP ps k) gc/\b=.I (k:Int)/\c.length=(kP ps k)/\W.ownsRow w.heap.size 79 2 (.slice B (kP ps k) gc) (kP ps k) (two c)/\(∀i(I:i<c.length)(h2:i<(lq ps k).length),iQ w c[i].1 ((lq ps k)[i]).1/\j5 w c[i].2 ((lq ps k)[i]).2)/\cy w W) (λ_ _ b _=>ps.length-(intOf b).toNat)
   case atStart=>exact⟨0,[],a1,c1,vba _,rfl,rfl,rfl,yy.out,AJ,dl.out⟩
   case round=>
    obtain⟨k,c,B,gc,hk,rfl,rfl,A,dW,Oo,hb⟩:=hrel;have o:Hid _:=dW;have R:Hid _:=Oo;have n:Hid (cy w wr):=hb;clear dW Oo hb;by_cases d:k<ps.length
    .obtain⟨b,off,rfl,v,f,hv⟩:=D.out k d;simp at f;by_cases H:ps[k].length=0
     .obtain⟨b6,cA,rfl,-,-⟩:=id hv;have m:=br.ck n.out;have r:=m _ _ _ f;have ew:=fB r;have nS:(0:Int)<=(k:Int):=AP;have k0:(k:Int)<(ps.length:Int):=AP;obtain⟨F,hi,-,-,-⟩:=vcv M0;have l:=GQ d;rw[H,vcg]at l;have o9:lq ps (k+1)=lq ps k:=by rw[Om d,List.eq_nil_of_length_eq_zero H,vde]
      have P:Hid (kP ps k<=gc):=aq6 o.out;rw[H]at r;clear hv f m D;go_wp2_with (at_builtin;apply CD)
      unfold AR;refine aq5 rfl _ _ 69 rfl 79 F ((AE _ _ _).trans underlying69) hi rfl rfl P.out ?_;have U:Hid _:=l;have O:Hid _:=o9;clear l o9 hi;go_wp2
      go_roundw
      case rel=>exact⟨k+1,c,B,gc,AP,by rw[U.out];rfl,AQ,by rw[U.out];grind,by rw[U.out];exact o.out,by rw[O.out];exact R.out,n.out⟩
      case measure=>simp[intOf];omega
     .have m:=br.ck n.out;have r:=m _ _ _ f;have ew:=fB r;obtain⟨gn,iv,pc,xs,rfl,Q,z,Z,y⟩:=aq2 hv AP;have M:Hid (∀j u,(two xs)[j]?=some u->wr.cell? (Addr.add ⟨gn,iv,none⟩ j)=some u):=λj u hu=>by rw[Addr.add_lit];exact m _ _ _ (z j u hu)
      have oE:Hid _:=Z;have L:Hid _:=y;have nS:(0:Int)<=(k:Int):=AP;have k0:(k:Int)<(ps.length:Int):=AP;have l:=T (k+1);rw[GQ d]at l;obtain⟨F,hi,Gc,AH,Jj⟩:=vcv M0;have V:Hid (w.heap.size<=wr.heap.size):=n.out.size;clear hv f m z Z y D;go_wp2_with (at_builtin;apply CD)
      unfold AR;refine wpList_append_own _ rfl _ _ 69 rfl w.heap.size 79 F _ 2 48 ((AE _ _ _).trans underlying69) hi Gc AH Jj rfl AU (.slice B (kP ps k) gc) (kP ps k) (two c) rfl o.out ⟨gn,iv,none⟩ ps[k].length pc (two xs) rfl (by rw[ZP,Q]) M.out oE.out KL AP V.out ?_;intro v' w2 t TD _;obtain⟨g2,co,rfl⟩:=qS t;have K:Hid (w2.ownsRow w.heap.size 79 2 (.slice g2 (kP ps (k+1)) co) (kP ps (k+1)) (two (c++xs))):=by grind[Hid,GQ,two]
      have gE:Hid (cy w w2):=n.out.grown TD V.out (λg hg=>(World.ownsRow.lt o.out g hg).1);have zc:Hid (∀i(I:i<(c++xs).length)(h2:i<(lq ps (k+1)).length),iQ w (c++xs)[i].1 ((lq ps (k+1))[i]).1/\j5 w (c++xs)[i].2 ((lq ps (k+1))[i]).2):=by
       intro i I h2;have aGY:c.length=(lq ps k).length:=A;simp[Om d];by_cases s:i<c.length
       .rw[vdz s,vdz AP];exact R.out i s AP
       .rw[List.getElem_append_right AP,List.getElem_append_right AP];have:=L.out (i-c.length) AJ AJ;grind
      have Y:=GQ d;have J:Hid ((c++xs).length=kP ps (k+1)):=by grind[Hid]
      clear t TD r;rw[<-Y];clear Y;go_wp2
      go_roundw
      case rel=>exact⟨k+1,c++xs,g2,co,AP,rfl,AQ,J.out,K.out,zc.out,gE.out⟩
      case measure=>simp[intOf];omega
    .have E:k=ps.length:=by omega
     subst E;have kq:¬((ps.length:Int)<(ps.length:Int)):=AP;clear D;go_wp2
     go_ret
     have m:=br.ck n.out;have y7:kP ps ps.length<=gc:=by
      rcases o.out.2 with⟨e,h0⟩|⟨g',cap',bq,e,-,-,I,-⟩
      .grind
      grind
     refine⟨_,rfl,?_,⟨_,_,rfl,y7⟩,n.out⟩;exact NI (Row:=λj W x=>∃h:j<c.length,x=.agg #[c[j].1,c[j].2]) (N:=kP ps ps.length) ⟨c,A,o.out,AJ⟩ (lq ps ps.length) rfl AP (λj hj p q⟨hy,e⟩=>by
      simp at e;obtain⟨rfl,rfl⟩:=e;obtain⟨r1,r2⟩:=R.out j hy hj;grind[aZ.mono,AF,vN])
open Conc ConcM bn ai g6 fF hU m8 c5
variable{w0:aH}{M aT:dY}{bs:uan}
def UC{upd:Bool}(B:(cr P upd).Good)(V:upd=false){f:uah}{fn:Func}{C:Code}(y:P.funcs[f]?=some fn)(hk:gz P upd fn=true)(a:fn.body=some C)(A:vJ fn=true)(o:∀b,M b->aT b)(hg:∀g,g<=P.globals.size->M g){args:fi}(z:aM (dz M bZ) args args)(E:fA (cr P upd) M bZ w0){n:Int}(X:∀w,(∀b,M b->w.heap[b]?=w0.heap[b]?)->∀i,gm (cr P upd) M bZ w i->∀T,Calls (ae P upd) f args {i with tape:=T} (λe _=>e=.returned (.I n))){ST:Bool->eo.Lo->aX->Prop}(r:∀m l g w N j,(∀b,N b->j b)->ST m l ⟨g,w,N⟩->ST m l ⟨g,w,j⟩){m:Bool}:
 iG P ST m f args (iH eo () aT w0 bs) (λu D=>u=.I n/\D=iH eo () aT w0 bs):=by
 intro a2 aD aB aJ aL aG csZ O w γ hS
 have hF:ah eo aT w0 bs w:=hS
 have L:∀b,M b->w.heap[b]?=w0.heap[b]?:=λb a=>hF.rw.heap b AJ
 have K:fA (cr P upd) M bZ w:=nw E L
 obtain⟨i,J⟩:=IL (cr P upd) M bZ w
 have q:=iP.more (K':=M) AJ (aaP B y hk a A K hg AJ z (R:=λv _=>v=.I n) J AJ m (a2.at aD (.inRegion aB (aJ::aL)::aG)) csZ)
 have U:(⟨a0 (Frame.enter P f args .normal) (a2.at aD (.inRegion aB (aJ::aL)::aG)::csZ),w,ca aT bs⟩:aX)=q8 ⟨a0 (Frame.enter P f args .normal) (a2.at aD (.inRegion aB (aJ::aL)::aG)::csZ),w,bZ⟩ (ca aT bs):=by
  unfold q8;congr 1
  funext b
  exact propext ⟨.inr,λh=>h.resolve_left (λx=>x)⟩
 show bf _ _ _ _ () γ ⟨a0 (Frame.enter P f args .normal) (a2.at aD (.inRegion aB (aJ::aL)::aG)::csZ),w,ca aT bs⟩
 rw[U]
 have c:∀b,ca aT bs b->b<w.heap.size:=by
  rintro b (h|h)
  .exact hF.lt b (.inr (.inl h))
  .obtain⟨x,t,rfl⟩:=vbx.1 h;exact ml (hF.cZ x t)
 refine aaY uF rfl (λ_ _ h=>h) q γ (ca aT bs) (λb a=>.inr (.inl (o b a))) rfl (λb _ h=>h) (λb a=>⟨λx=>x,λh=>h,c b a⟩) AJ AJ ?_
 rintro Y H ⟨ρ,w1,v,p,d⟩ W Tk NE I hsz F Z NF k S Q
 obtain rfl:p=.I n:=by have:=d.val;rw[d.post]at this;exact this.mw
 have s:ah eo aT w0 bs Y.w:=hF.on ⟨AJ,hsz,k,S,Q⟩
 have:=O (.I n) (iH eo () aT w0 bs) ⟨rfl,rfl⟩ Y.w H s
 unfold q8
 have e:=d.g
 rw[vcj]at e
 rw[e]
 exact bf.more r this (λb a=>.inr a)
def arg:vef.funcs[(207:Nat)]?=some f207:=veb func207
def arh:vef.funcs[(172:Nat)]?=some f172:=veb func172
def ari(t:List bo)(v:Value)(w:aH)(hv:nO w v t)(h0:0<t.length):
 Calls vef 207 #[.agg #[v]] w λe _=>e=.returned (.I (t[0].gZ.length:Int)):=by
 obtain⟨k,cap,rfl,-,d⟩:=hv;obtain⟨b,off,rfl,c7,vs,l,-,-,-,-,c,a⟩:=d 0 h0;obtain⟨h,ci,f,g,an,j,-,-,rfl⟩:=a.shape;simp at c;have i:=fB c;clear d a;have hi:(0:Int)<(t.length:Int):=AP;go_enter arg,ntmps207
 go_wp2
 go_ret
 rfl
def arj(ev aA:Value)(rs:List bh)(w:aH)(b:∃a n c,ev=.slice a n c)(d:eS w aA rs):
 Calls vef 172 #[.agg #[ev,aA]] w λe _=>e=.returned (.I (rs.length:Int)):=by
 obtain⟨f,aW,ec,rfl⟩:=b;obtain⟨g,cap,rfl,-,-⟩:=d;go_enter arh,ntmps172
 go_wp2
 go_ret
 rfl
def ark:gz prog false f207=true:=by decide+kernel
def arl:gz prog false f172=true:=by decide+kernel
theorem arm(h:∀b,M b->aT b)(hg:∀g,g<=prog.globals.size->M g)(a:fA (cr prog false) M bZ w0){t:List bo}{v:Value}(hv:nO w0 v t)(hrel:ax (dz M bZ) v v)(h0:0<t.length){ST:Bool->eo.Lo->aX->Prop}(i:∀m l g w N c,(∀b,N b->c b)->ST m l ⟨g,w,N⟩->ST m l ⟨g,w,c⟩):
 iG prog ST true 207 (#[.agg #[v]]++#[]) (iH eo () aT w0 bs) (λu j=>u=.I (t[0].gZ.length:Int)/\j=iH eo () aT w0 bs):=
 UC kH Y func207 ark Y AM h hg (.one (.oW (.one hrel))) a (λw e f k d=>ari t v {f with tape:=d} (aZ.mono sO (xJ f d) (au.aZ.carry xD (k.carry (nw a e)) hrel (au.aZ.carry xD (nx e a) hrel hv))) h0) i
def arn(k:∀b,M b->aT b)(hg:∀g,g<=prog.globals.size->M g)(d:fA (cr prog false) M bZ w0){rs:List bh}{ev aA:Value}(p:∃a n c,ev=.slice a n c)(hv:eS w0 aA rs)(s:ax (dz M bZ) ev ev)(f:ax (dz M bZ) aA aA){ST:Bool->eo.Lo->aX->Prop}(o:∀m l g w N e,(∀b,N b->e b)->ST m l ⟨g,w,N⟩->ST m l ⟨g,w,e⟩):
 iG prog ST true 172 (#[.agg #[ev,aA]]++#[]) (iH eo () aT w0 bs) (λu q=>u=.I (rs.length:Int)/\q=iH eo () aT w0 bs):=
 UC kH Y func172 arl Y AM k hg (.one (.oW (lg AJ))) d (λw i j r h=>arj ev aA rs {j with tape:=h} p (aZ.mono pj (xJ j h) (au.aZ.carry ny (r.carry (nw d i)) f (au.aZ.carry ny (nx i d) f hv)))) o
end bU
namespace bU
open Conc ConcM RowKit au
def aro(v:Value)(args:fi)(w:aH):(callMethod (.iface 114 (.agg #[v])) "Piece" args).run prog w=.ok (.enter 206 (#[.agg #[v]]++args)) w/\(callMethod (.iface 114 (.agg #[v])) "Piece" args).events prog w #[]=#[]:=⟨AS,AS⟩
def arp(v:Value)(w:aH):(callMethod (.iface 114 (.agg #[v])) "Size" #[]).run prog w=.ok (.enter 207 (#[.agg #[v]]++#[])) w/\(callMethod (.iface 114 (.agg #[v])) "Size" #[]).events prog w #[]=#[]:=⟨AS,AS⟩
def arq(v u:Value)(args:fi)(w:aH):(callMethod (.iface 105 (.agg #[v,u])) "Piece" args).run prog w=.ok (.enter 171 (#[.agg #[v,u]]++args)) w/\(callMethod (.iface 105 (.agg #[v,u])) "Piece" args).events prog w #[]=#[]:=⟨AS,AS⟩
def ars(v u:Value)(w:aH):(callMethod (.iface 105 (.agg #[v,u])) "Size" #[]).run prog w=.ok (.enter 172 (#[.agg #[v,u]]++#[])) w/\(callMethod (.iface 105 (.agg #[v,u])) "Size" #[]).events prog w #[]=#[]:=⟨AS,AS⟩
end bU
namespace hU
open Conc RowKit Conc.Lib ConcR.Gen ConcM au bn ai e_ g6 fF
section
section
variable{c:da}{Stop:Bool->ai.Lo At->aX->Prop}{S af iW:Nat}{fj f_:Value}{ip:uah}{lF cO:uae}
def ah.Vo{Z:eX}{M:dY}{w1 w:aH}(h:ah Z M w1 [] w1)(r:ak Z M w1 w):ah Z M w1 [] w:=h.on (by rw[mT];exact r)
def atz(ok:uI c S af iW)(i:c.C=31)(hS:∀m l g w M M',(∀b,M b->M' b)->Stop m l ⟨g,w,M⟩->Stop m l ⟨g,w,M'⟩){f:Nat}(q:uac)(M:dY)(w1:aH)(d:ah (am (ar c)) M w1 [] w1):
 iG prog Stop false 83 #[.P c.st 0] (dZ c ⟨.idle,false,0,f+15,.work .free q⟩ M w1)
  (λu e=>(u=.tuple #[.agg #[.I 0,.I 0,.I 0],.F]/\e=xB c ⟨.idle,false,0,f+1,.work .free q⟩ M w1)\/∃T,T<c.N/\u=.tuple #[U6 S af T,.T]/\e=dZ c ⟨.idle,false,0,f+31,.work (.has T) q⟩ M w1):=by
 intro a2 aD aB aJ aL aG csZ hK w γ ie;have hk:ah (am (ar c)) M w1 [] w:=ie;rw[vdc _ func83 Y];unfold dZ;have h:=asN (a2:=a2) (aD:=aD) (aB:=aB) (aJ:=aJ) (aL:=aL) (aG:=aG) (csZ:=csZ) ok (f:=f) (p:=q) (w0:=w1) hS
  (λw' a r a3=>hK _ (xB c ⟨.idle,false,0,f+1,.work .free q⟩ M w1) AJ w' a ⟨ah.Vo d r,a3⟩)
  (λw' a T r j=>by rw[i];exact hK _ (dZ c ⟨.idle,false,0,f+31,.work (.has T) q⟩ M w1) AJ w' a (ah.Vo d r)) w γ hk
 rw[mT]at h;exact h
def atA(ok:uI c S af iW){T:Nat}(im:c.bad T=false)(hS:∀m l g w M M',(∀b,M b->M' b)->Stop m l ⟨g,w,M⟩->Stop m l ⟨g,w,M'⟩){f:Nat}{F E:Int}{q:uac}(s:uam)(aA:Nat)(M:dY)(w1:aH)(a:ah (am (ar c)) M w1 [] w1):
 iG prog Stop false 111 #[.P c.st 0,.agg #[.I (T:Int),.I F,.I E],.slice s (c.rows T) aA] (dZ c ⟨.idle,false,0,f+16,.work (.has T) q⟩ M w1)
  (λu d=>u=.tuple #[]/\d=dZ c ⟨.idle,false,0,f,.work .free ((T,.slice s (c.rows T) aA)::q)⟩ M w1):=by
 intro a2 aD aB aJ aL aG csZ hK w γ ie;have hk:ah (am (ar c)) M w1 [] w:=ie;rw[vdc _ func111 Y];unfold dZ;have h:=atv (a2:=a2) (aD:=aD) (aB:=aB) (aJ:=aJ) (aL:=aL) (aG:=aG) (csZ:=csZ) ok (f:=f) (q:=q) (T:=T) im (s:=s) (aA:=aA) (F:=F) (E:=E) (w0:=w1) hS
  (λw' e r=>hK _ (dZ c ⟨.idle,false,0,f,.work .free ((T,.slice s (c.rows T) aA)::q)⟩ M w1) ⟨Y,Y⟩ w' e (ah.Vo a r)) w γ hk
 rw[mT]at h;exact h
def atB(ok:uI c S af iW)(j:c.C=31)(hS:∀m l g w M M',(∀b,M b->M' b)->Stop m l ⟨g,w,M⟩->Stop m l ⟨g,w,M'⟩){bY:aH}(J:rh c bY prog Stop 112 fj ip f_ (λT=>T*af) (λT=>min (T*af+af) S) lF cO){f:Nat}{M:dY}{w0:aH}(i:n5 c bY w0):
 iG prog Stop false 53 #[.P c.st 0,fj] (dZ c ⟨.idle,false,0,f+15,.work .free []⟩ M w0) (λu k=>u=.tuple #[]/\∃q M' w1,gp (am (ar c)) M w0 M' w1/\oL c cO q M' w1/\k=xB c ⟨.idle,false,0,f+1,.work .free q⟩ M' w1):=
 atu (fr:=λT=>T*af) (a7:=λT=>min (T*af+af) S) i J.mono (atz ok j hS) (λq T n w1 e d=>atp J (f:=f+15) e d (λa M' w1 hk h=>atx ok J.fails e a hk h) (λa s aA M' w1 hk=>atA ok a hS s aA M' w1 hk))
end
end
def EL(n:Nat):Frame:={(default:Frame)with fn:=n,defers:=[],mode:=.panicking [goexitEntry]}
theorem atO:f53.nn=false:=AS
theorem atP:f52.nn=false:=AS
theorem atQ:f51.nn=false:=AS
def atR{P:cf}{f:uah}{fn:Func}{c:Code}(a:P.funcs[f]?=some fn)(d:(fn.name== "runtime.NumGoroutine")=false)(b:fn.body=some c)(cap:fi)(w:aH):stepG P false (born P (qd f cap)) w=
 .go (Conc.G ((baseD f).at {tmps:=cap++Array.replicate (fn.ntmps-cap.size) undef,defers:=[]} [.code c]) [EL P.funcs.size]) w #[]:=by
 have hn:¬fn.name= "runtime.NumGoroutine" :=AJ;rw[<-enter_atD cap a b];simp[born,qd,stepG,unwind,callDeferred,invoke,callFunc,a,hn,b,GStep.after,Conc.G,EL,vcm]
def atS(T:fi):QuitsD prog 2 0 (Conc.G {(baseD 51).at ⟨T,[]⟩ []with mode:=.returning} [EL prog.funcs.size]):=by
 refine QuitsD.ctl (g':=Conc.G (EL prog.funcs.size) []) Y (λw=>?_) ?_
 .simp[Conc.G,stepG,unwind,doReturn,results,Frame.at,baseD,EL,func51,f51,seen,GStep.after,goexitEntry]
 refine QuitsD.ctl (g':={Conc.G (EL prog.funcs.size) []with status:=.finished}) Y (λw=>?_) ⟨Y,Y⟩;simp[Conc.G,stepG,unwind,EL,goexitEntry,Frame.catches];rfl
section
variable{c:da}{Stop:Bool->ai.Lo At->aX->Prop}{S af iW:Nat}{fj f_:Value}{ip:uah}{lF cO:uae}
theorem atT(ok:uI c S af iW)(hC:c.C=31)(hS:∀m l g w M M',(∀b,M b->M' b)->Stop m l ⟨g,w,M⟩->Stop m l ⟨g,w,M'⟩){bY:aH}(J:rh c bY prog Stop 112 fj ip f_ (λT=>T*af) (λT=>min (T*af+af) S) lF cO)(L:∀q M f' g w,oL c cO q M w->(∃n,QuitsD prog n 1 g)->Stop false ⟨.idle,false,1,f',.gone q⟩ ⟨g,w,M⟩){f A y:Nat}(Ha:c.K A)(O:c.K y)(N:∃t v,fj=.iface t v){M:dY}{w0:aH}(hI:n5 c bY w0)(ew:w0.heap[A]?=some (.cells #[.P c.st 0] 125))(Gp:w0.heap[y]?=some (.cells #[fj] 124))(w:aH)(γ:ai.aN cb)(hk:ah (am (ar c)) M w0 [] w):
 bf (am (ar c)) prog Stop false ⟨.idle,false,0,f+19,.work .free []⟩ γ ⟨born prog (qd 51 #[.P c.wg 0,.P A 0,.P y 0]),w,M⟩:=by
 have hF:=hk;obtain⟨jt,E,rfl⟩:=N;refine bf.mk rfl (λa H o k=>?_);replace hF:=ah.rel hF k;refine Gy AJ (atR func51 atQ rfl _ a) rfl rfl ?_;clear k o hk;rw[<-mT (M:=M)];refine bb (bA c) ?_;walk_nrmf f51
 repeat w_go ah.on
 u_defer ah.on hF
 repeat w_go ah.on
 refine fZ rfl hF λj d R B a H o k hF=>?_;have s:a.cell? (.a A 0)=some (.P c.st 0):=by simp[World.cell?,(hF.rw.heap A (.inl Ha)).trans ew]
 refine s9 AJ rfl (λb i=>hF.eL b (.inr i)) (vaq (v:=.P c.st 0) rfl rfl Ag A0) rfl (λe C=>?_) ?_
 .have z:=vbo C;simp[go_sem,s]at z;subst z;exact⟨rfl,AJ⟩
 clear s k o B d;refine bb (bA c) ?_;walk_nrm
 repeat w_go ah.on
 refine fZ rfl hF λj d R B a H o k hF=>?_;have s:a.cell? (.a y 0)=some (.iface jt E):=by simp[World.cell?,(hF.rw.heap y (.inl O)).trans Gp]
 refine s9 AJ rfl (λb i=>hF.eL b (.inr i)) (vaq (v:=.iface jt E) rfl rfl Ag A0) rfl (λe C=>?_) ?_
 .have z:=vbo C;simp[go_sem,s]at z;subst z;exact⟨rfl,AJ⟩
 clear s k o B d;refine bb (bA c) ?_;walk_nrm
 repeat w_go ah.on
 refine fZ rfl hF λj d R B a H o k hF=>?_;have F:=ah.qe hF;rw[mT]at F;rw[mT];refine JV (σ:=dZ c ⟨.idle,false,0,f+4+15,.work .free []⟩ M a) AJ rfl rfl Ag (pi (vs:=#[.P c.st 0,.iface jt E]) rfl func53 atO rfl Ct a) (atB ok hC hS J (hI.n4 hF)) F ?_;clear k o B d F hF;rintro u _ ⟨rfl,q,M',w1,g8,W,rfl⟩ P ep ⟨hF,a3⟩;simp only[xB];rw[<-mT (M:=M')];refine bb (bA c) ?_;walk_nrm
 repeat w_go ah.on
 u_in ah.on hF
 rw[vca rfl func52 atP rfl];simp only[vdg];refine⟨CP,?_⟩;walk_nrmf f52
 have Z:∀b,c.K b\/ca M' [] b->b≠c.wg:=λb i e=>hF.eL b i (.inr (.inl e));refine vag (λp fJ=>⟨rfl,λkD U=>?_⟩);replace hF:=hF.on fJ;replace a3:=vac a3 (vL (c:=c) (l:=⟨.idle,false,0,f+4+1,.work .free q⟩) U);refine bf.seen (c_ (bA c)) rfl λQ K V=>?_;replace a3:=vac a3 (vL (c:=c) (l:=⟨.idle,false,0,f+4+1,.work .free q⟩) K);have I:Q.al.taken=c.N:=by obtain⟨xs,iF,te,X⟩:=uu V;have:=X.aS;omega
 refine tr.atM (f:=f) ok.most Z rfl (atS _) (λf' g w' r hq=>?_) p Q (ak.refl _ _ _) I;have D:=hF.on r;rw[mT]at r⊢;refine L q M' f' g w' (λx Y i=>?_) hq;exact J.mono _ _ _ _ _ _ (W x Y i) (λb i=>(D.rw.heap b i)) (λ_ h=>h)
end
end hU
namespace uG
open Conc RowKit Conc.Lib ConcR.Gen ConcM au bn ai e_ g6 fF hU
theorem at2:f50.nn=false:=AS
theorem at3:f54.nn=false:=AS
section
variable{c:da}{bY:aH}{S af iW:Nat}{fj f_:Value}{ip:uah}{lF cO:uae}{M:dY}{w0:aH}{mG:Goroutine->Prop}
def at4(i:∀T v M w M' w',cO T v M w->(∀b,c.K b\/M b->w'.heap[b]?=w.heap[b]?)->(∀b,M b->M' b)->cO T v M' w'):∀m l g w d e,(∀b,d b->e b)->(cC.EI c prog cO (cC.KN c prog M w0 mG)) m l ⟨g,w,d⟩->(cC.EI c prog cO (cC.KN c prog M w0 mG)) m l ⟨g,w,e⟩:=by
 intro m l g w d e hs h;cases m with
 |true=>exact⟨h.1,h.2.1,h.2.2.1,λb a=>hs b (h.2.2.2 b a)⟩
 |false=>
  rcases h with h|⟨q,f,o,n,k⟩
  .exact .inl h
  .exact .inr ⟨q,f,o,n,λx j a=>i _ _ _ _ _ _ (k x j a) (λ_ _=>Y) hs⟩
def at5{Stop:Bool->ai.Lo At->aX->Prop}(ok:uI c S af iW)(hC:c.C=31)(hS:∀m l g w M M',(∀b,M b->M' b)->Stop m l ⟨g,w,M⟩->Stop m l ⟨g,w,M'⟩)(J:rh c bY prog Stop 112 fj ip f_ (λT=>T*af) (λT=>min (T*af+af) S) lF cO)(aHy:∀q M f' g w,oL c cO q M w->(∃n,QuitsD prog n 1 g)->Stop false ⟨.idle,false,1,f',.gone q⟩ ⟨g,w,M⟩){fw Z Y W:Nat}{cs:fG}(Ha:c.K Z)(adV:c.K Y)(adW:∃t v,fj=.iface t v)(hW:W<4611686018427387904)(hI:n5 c bY w0)(e5:c.rows c.N+W<=c.most)(ew:w0.heap[Z]?=some (.cells #[.P c.st 0] 125))(Gp:w0.heap[Y]?=some (.cells #[fj] 124))(OQ:∀(o N O j p K L I H F E U D C B R A z u s:Value) g w',ak (am (ar c)) M w0 w'->tr.OX c g (Conc.G ((base 37).at ⟨#[o,N,O,.P Y 0,j,p,.P Z 0,.P c.wg 0,K,L,I,H,F,E,.I (W:Int),.I (W:Int),U,D,C,B,.tuple #[],A,z,u,s],[]⟩ [.inRegion (bz.mE ((bz.dJ 8 (f37.body.getD .skip)).getD .skip)) [],.code (bz.kC ((bz.dJ 8 (f37.body.getD .skip)).getD .skip))]) cs)->Stop true ⟨.idle,false,0,fw,.main .over⟩ ⟨g,w',M⟩)(r:Nat):
 ∀(k:Nat)(o N O j p K L I H F E U D C B R A z u s:Value)(w:aH)(γ:ai.aN cb),k+r=W->0<W->ah (am (ar c)) M w0 [] w->bf (am (ar c)) prog Stop true ⟨.idle,false,0,23*r+4+fw,.main (.spawn k false)⟩ γ ⟨Conc.G ((base 37).at ⟨#[o,N,O,.P Y 0,j,p,.P Z 0,.P c.wg 0,K,L,I,H,F,E,.I (W:Int),.I (k:Int),U,D,C,B,R,A,z,u,s],[]⟩ [.code ((bz.dC (f37.body.getD .skip)).getD .skip),.inLoop ((bz.dC (f37.body.getD .skip)).getD .skip),.inBlock 0,.code ((bz.dJ 8 (f37.body.getD .skip)).getD .skip)]) cs,w,M⟩:=by
 have j7:=(c_ (bA c)).nt;induction r with
 |zero=>
  intro k o N O j p K L I H F E U D C B R A z u s w γ hk h0 hF;obtain rfl:k=W:=AP;rw[Nat.mul_zero,vce,Nat.add_comm 4 fw];rw[<-mT (M:=M)];refine bb (bA c) ?_;simp only[f37,vae,bz.dC,bz.dJ,Nat.reduceBEq,vaf,↓reduceIte];repeat w_go ah.on
  u_call func54 at3 f54 ah.on hF
  have V:∀b,c.K b\/ca M [] b->b≠c.wg:=λb i e=>hF.eL b i (.inr (.inl e));refine vag (λa X=>⟨rfl,λkD _=>tr.at1 (f:=fw) (k:=k) h0 ok.most V (λg w' r' ha=>?_) a kD (ak.refl _ _ _)⟩);replace hF:=(hF.on X).on r';rw[mT];simp only[f37,vae,bz.dJ,bz.kC,bz.mE,Nat.reduceBEq,vaf,↓reduceIte]at OQ;exact OQ o N O j p K L I H F E (.F) D C B R A z u s g w' hF.rw ha
 |succ r ih=>
  intro k o N O j p K L I H F E U D C B R A z u s w γ hk h0 hF;have e:23*(r+1)+4+fw=(23*r+4+fw+20)+3:=AP;rw[e];rw[<-mT (M:=M)];refine bb (bA c) ?_;simp only[f37,vae,bz.dC,bz.dJ,Nat.reduceBEq,vaf,↓reduceIte]at ih⊢;have aHz:decide (k<W)=true:=AJ;have OD:IntKind.wrap .i64 ((k:Int)+1)=((k+1:Nat):Int):=GL;repeat w_go ah.on
  u_call func50 at2 f50 ah.on hF
  have V:∀b,c.K b\/ca M [] b->b≠c.wg:=λb i e=>hF.eL b i (.inr (.inl e));refine vag (λa X=>⟨rfl,λkD _=>tr.atE (f:=23*r+4+fw+20) (k:=k) ok.most V (λw₅ tq jR=>?_) a kD (ak.refl _ _ _)⟩);replace hF:=(hF.on X).on jR;clear X jR V;refine bb (bA c) ?_;walk_nrm
  repeat w_go ah.on
  refine fZ rfl hF λQ d aR ay P av aC hr hF=>?_;refine atl hr (atk rfl rfl Ag rfl rfl) rfl rfl (f:=23*r+4+fw) (k:=k) rfl AP ?_ ?_
  .clear hr aC ay d;refine bb (bA c) ?_;walk_nrm
   iterate 7 w_go ah.on
   refine vag (λQ d=>⟨rfl,λaR ay=>?_⟩);replace hF:=hF.on d;grind[mT]
  .have SG:ah (am (ar c)) (λ_=>False) w0 [] P:=⟨⟨λb i=>hF.rw.heap b (i.imp id False.elim),hF.rw.size,hF.rw.later,hF.rw.output,hF.rw.tape⟩,AQ,λb i=>hF.lt b (i.imp id (λx=>x.imp False.elim id)),λb i=>hF.eL b (i.imp id (λx=>x.elim False.elim (λy=>AJ))),AQ,AQ,λ_ h=>h.elim⟩;grind[atT]
end
end uG
namespace m8
open Conc RowKit ConcM au bn ai e_ g6 fF hU cC uG
def at6(x:Value)(N:Nat):madeCells #[x] N=(List.replicate N x).toArray:=by unfold madeCells;grind
structure EM(c:da)(aT:dY)(S af N n W:Nat)(rows:uas)(bad:uaz)(place:ubm)(b9 dp b2:Nat):Prop where
 im:c.bad=bad
 Dj:c.place=place
 a3:c.N=N
 lB:∀T,T<N->c.rows T=rows T
 hK:∀b,c.K b↔aT b\/b=b9\/b=dp\/b=b2
 uJ:c.size=.I (S:Int)
 at7:c.A5=.I (af:Int)
 at8:c.yT=.S c.bJ 0 N N
 S0:c.least=.N
 e5:c.most=n+W
 SP:c.Nw=173
 aHC:c.Gv=69
section
variable{P:cf}{Post:fX}
variable{a2:Frame}{aD:Act}{aB:fC}{aJ:Nat}{aL:uad}{aG:uaa}{csZ:fG}
def SJ{n:Nat}{Shun:uai}{S af N W:Nat}{rows:uas}{bad:uaz}{place:ubm}(eR:0<af)(hm:af<=64)(l9:0<W)(hW:W<=16)(hS:S<=1000)(a3:N=(S+af-1) / af)(hn:n+W<=250)(lB:ib rows N<=300){jt:uab}{eT f_:Value}{cW ip:uah}{aT:dY}{w:aH}{lF cO:da->Nat->Value->(Nat->Prop)->aH->Prop}(dA:∀b,aT b->b<w.heap.size)(gV:∀b,aT b\/w.heap.size<=b->∀l,e8 l=some b->¬Shun l)(hinv:∀w,(callMethod (.iface jt eT) "Size" #[]).run prog w=.ok (.enter cW (#[f_]++#[])) w/\(callMethod (.iface jt eT) "Size" #[]).events prog w #[]=#[])(uJ:∀(ST:Bool->eo.Lo->aX->Prop) bs,(∀m l g w M M',(∀b,M b->M' b)->ST m l ⟨g,w,M⟩->ST m l ⟨g,w,M'⟩)->iG prog ST true cW (#[f_]++#[]) (iH eo () aT w bs) (λu bu=>u=.I (S:Int)/\bu=iH eo () aT w bs))(EN:∀c bY Stop d e b2,EM c aT S af N n W rows bad place d e b2->(∀b,aT b->bY.heap[b]?=w.heap[b]?)->rh c bY prog Stop 112 (.iface jt eT) ip f_ (λT=>T*af) (λT=>min (T*af+af) S) (lF c) (cO c))(Vj:∀c bY d e b2(i U V f j P R O L I H Q F E B A z r o:Value) n' a8 M' D w',EM c aT S af N n W rows bad place d e b2->ak eo aT w bY->bY.heap[d]?=some (.cells #[.P c.st 0] 125)->KM c (cO c) (λ_=>False) bY n' a8 M' D w'->bK prog Post n' a8 0 (Conc.G ((base 37).at ⟨#[i,U,V,.P e 0,f,j,.P d 0,.P c.wg 0,P,R,O,L,I,H,.I (W:Int),.I (W:Int),Q,F,E,B,.tuple #[],A,z,r,o],[]⟩ [.inRegion (bz.mE ((bz.dJ 8 (f37.body.getD .skip)).getD .skip)) [],.code (bz.kC ((bz.dJ 8 (f37.body.getD .skip)).getD .skip))]) (a2.at aD (.inRegion aB (aJ::aL)::aG)::csZ)) w'):
 bK prog Post n Shun 0 (Conc.G (Frame.enter prog 37 #[.agg #[.I (W:Int),.I (af:Int)],.iface jt eT] .normal) (a2.at aD (.inRegion aB (aJ::aL)::aG)::csZ)) w:=by
 have i7:ah eo aT w [] w:=ah.start (λb Z=>AJ) (λb _ h=>h.elim) (λ_ _ h=>h.elim);refine vU (ard (X:=⟨_,w,ca aT []⟩) (asV (ST:=λ_ _ Y=>∃st bJ d b2 e wg bs,∃(i U V f j P R O L I H Q F E B i6 A z r o:Value),ah eo aT w bs Y.w/\(∀x∈[(wg,.cells #[.int .u64 0,.int .u32 0] 137),(d,.cells #[.P st 0] 125),(st,.cells #[.int .i32 0,.int .u32 0,.I (S:Int),.I (af:Int),.I 0,.I 0,.S bJ 0 N N,.N] 173),(bJ,.cells (madeCells #[.N] N) 69),(e,.cells #[.iface jt eT] 124),(b2,.cells #[.I (W:Int),.I (af:Int)] 65)],x∈bs)/\Y.g=Conc.G ((base 37).at ⟨#[i,U,V,.P e 0,f,j,.P d 0,.P wg 0,P,R,O,L,I,H,.I (W:Int),.I (0:Int),Q,F,E,B,i6,A,z,r,o],[]⟩ [.code ((bz.dC (f37.body.getD .skip)).getD .skip),.inLoop ((bz.dC (f37.body.getD .skip)).getD .skip),.inBlock 0,.code ((bz.dJ 8 (f37.body.getD .skip)).getD .skip)]) (a2.at aD (.inRegion aB (aJ::aL)::aG)::csZ)/\∀b,ca aT bs b->Y.mine b) (N:=N) (W:=W) eR a3 AP AP hinv (λbs=>uJ _ bs (λm l g w M M' xQ h=>by obtain⟨st,bJ,d,b2,e,wg,bs,i,U,V,f,j,P,R,O,L,I,H,Q,F,E,B,i6,A,z,r,o,hk,bE,hg,dc⟩:=h;exact⟨st,bJ,d,b2,e,wg,bs,i,U,V,f,j,P,R,O,L,I,H,Q,F,E,B,i6,A,z,r,o,hk,bE,hg,λb Z=>xQ b (dc b Z)⟩)) (λst bJ d b2 e wg bs w' i U V f j P R O L I H Q F E B i6 A z r o hk bE _=>.stop ⟨st,bJ,d,b2,e,wg,bs,i,U,V,f,j,P,R,O,L,I,H,Q,F,E,B,i6,A,z,r,o,hk,bE,rfl,λ_ h=>h⟩) w i7) rfl (λb Z=>dA b (by simp_all[mT])) (λb Z=>gV b (by simp_all[mT])) (λY ji hl=>.stop (λk=>?_)));obtain⟨st,bJ,d,b2,e,wg,bs,i,U,V,f,j,P,R,O,L,I,H,Q,F,E,B,i6,A,z,r,o,hk,bE,hg,dc⟩:=ji;rw[hg];have Jy:=hk.cZ _ (bE (wg,.cells #[.int .u64 0,.int .u32 0] 137) AQ);have ew:=hk.cZ _ (bE (d,.cells #[.P st 0] 125) AQ);have hst:=hk.cZ _ (bE (st,.cells #[.int .i32 0,.int .u32 0,.I (S:Int),.I (af:Int),.I 0,.I 0,.S bJ 0 N N,.N] 173) AQ);have C4:=hk.cZ _ (bE (bJ,.cells (madeCells #[.N] N) 69) AQ);have Gp:=hk.cZ _ (bE (e,.cells #[.iface jt eT] 124) AQ);have bW:=hk.cZ _ (bE (b2,.cells #[.I (W:Int),.I (af:Int)] 65) AQ);have hne:∀{a b:Nat}{x y:fi}{s t:uab},Y.w.heap[a]?=some (.cells x s)->Y.w.heap[b]?=some (.cells y t)->s≠t->a≠b:=by grind
 have nh:∀x∈[(wg,Obj.cells #[.int .u64 0,.int .u32 0] 137),(d,.cells #[.P st 0] 125),(st,.cells #[.int .i32 0,.int .u32 0,.I (S:Int),.I (af:Int),.I 0,.I 0,.S bJ 0 N N,.N] 173),(bJ,.cells (madeCells #[.N] N) 69),(e,.cells #[.iface jt eT] 124),(b2,.cells #[.I (W:Int),.I (af:Int)] 65)],¬aT x.1/\w.heap.size<=x.1/\x.1<Y.w.heap.size:=by
  intro x hx;have h1:x.1∈bs.map (·.1):=vbx.2 ⟨x,bE x hx,rfl⟩;have h2:¬aT x.1:=λh=>hk.sX x.1 h1 (.inr h);have h3:Y.mine x.1:=dc _ (.inr h1);rcases hl.new x.1 h3 with h|h
  .simp_all[mT]
  grind
 have aHD:=nh (wg,.cells #[.int .u64 0,.int .u32 0] 137) AQ;have aHE:=nh (d,.cells #[.P st 0] 125) AQ;have Vi:=nh (st,.cells #[.int .i32 0,.int .u32 0,.I (S:Int),.I (af:Int),.I 0,.I 0,.S bJ 0 N N,.N] 173) AQ;have aHF:=nh (bJ,.cells (madeCells #[.N] N) 69) AQ;have aHG:=nh (e,.cells #[.iface jt eT] 124) AQ;have aHH:=nh (b2,.cells #[.I (W:Int),.I (af:Int)] 65) AQ;have at9:∀b,aT b->Y.w.heap[b]?=w.heap[b]?:=λb Z=>hk.rw.heap b (.inr Z);have hsz:w.heap.size<=Y.w.heap.size:=hk.rw.size;have aua:∀b,(aT b\/b=d\/b=e\/b=b2)->b≠st/\b≠wg/\b≠bJ:=by grind
 let c:da:={st:=st,bJ:=bJ,wg:=wg,Nw:=173,Gv:=69,tWg:=137,N:=N,rows:=(λT=>if T<N then rows T else n),size:=.I (S:Int),A5:=.I (af:Int),yT:=.S bJ 0 N N,least:=.N,bad:=bad,place:=place,K:=(λb=>aT b\/b=d\/b=e\/b=b2),most:=n+W,C:=31,eL:=⟨hne hst Jy AU,hne hst C4 AU,hne Jy C4 AU⟩,yU:=aua}
 have n9:EM c aT S af N n W rows bad place d e b2:=⟨rfl,rfl,rfl,λT h=>vbz h,λb=>Iff.rfl,rfl,rfl,rfl,rfl,rfl,rfl,rfl⟩;have Vf:N<=S+af:=by rw[a3];exact vac (Nat.div_le_self _ _) AP
 have hmul:(N+1)*af<=2000*64:=Nat.mul_le_mul AP hm;have ok:uI c S af N:=⟨rfl,rfl,rfl,(by
  show ib c.rows N<=300;rw[Nt (g:=rows) (λp hp=>vbz hp)];grind),AJ,AJ,AJ⟩
 have J:=λStop=>EN c Y.w Stop d e b2 n9 at9;have SE:∀b,c.K b\/(am (ar c)).hE b->b<Y.w.heap.size/\∀l,e8 l=some b->¬Shun l:=by
  rintro b ((h|rfl|rfl|rfl)|(h|h|h))
  .exact⟨vav (dA b h) hsz,gV b (.inl h)⟩
  .grind
  .grind
  .grind
  .grind
  .grind
  grind
 refine as6 (c:=c) (cO:=cO c) (J (λ_ _ _=>True)).mono (n:=n) (mG:=λg'=>∃(i U V f j P R O L I H Q F E B A z r o:Value),g'=Conc.G ((base 37).at ⟨#[i,U,V,.P e 0,f,j,.P d 0,.P c.wg 0,P,R,O,L,I,H,.I (W:Int),.I (W:Int),Q,F,E,B,.tuple #[],A,z,r,o],[]⟩ [.inRegion (bz.mE ((bz.dJ 8 (f37.body.getD .skip)).getD .skip)) [],.code (bz.kC ((bz.dJ 8 (f37.body.getD .skip)).getD .skip))]) (a2.at aD (.inRegion aB (aJ::aL)::aG)::csZ)) (w:=Y.w.at k) (w0:=Y.w.at k) (M:=λ_=>False) (Shun:=Shun) (f0:=23*W+4+0) (v:=0) (b0:=⟨0,false,0,0,0,List.replicate N (.N),none⟩) rfl (vbt (Nat.lt_irrefl _)).symm (vdj _ _) ⟨rfl,rfl,rfl,rfl,rfl,by simp;rfl⟩ ⟨?_,?_,λ_=>?_⟩ (λb h=>h.elim) (λb Z=>SE b (Z.resolve_left La)) (λk'=>?_) (λg' nk n' a8 M' D w' bR=>?_)
 .show Y.w.heap[st]?=some (gU (ar c) ⟨false,false,false,0,0,0⟩ ⟨0,false,0,0,0,List.replicate N (.N),none⟩);rw[hst];simp[gU,bp.word,c]
 .show Y.w.heap[wg]?=some (tb c ⟨0,false,0,0,0,List.replicate N (.N),none⟩);rw[Jy];simp[tb,c]
 .show Y.w.heap[bJ]?=_;rw[C4,at6];rfl
 .refine at5 (c:=c) (bY:=Y.w) (w0:=Y.w.at k) (M:=λ_=>False) ok rfl (at4 (J (λ_ _ _=>True)).mono) (J _) (λq M f' g w kd hq=>.inr ⟨q,f',rfl,hq,kd⟩) (fw:=0) (W:=W) (cs:=a2.at aD (.inRegion aB (aJ::aL)::aG)::csZ) (.inr LF) (.inr (.inr LF)) ⟨jt,eT,rfl⟩ AP (λb Z=>rfl) AJ ew Gp (λi U V f j P R O L I H Q F E B i6 A z r o g w' hr ha=>?_) W 0 i U V f j P R O L I H Q F E B i6 A z r o ((Y.w.at k).at k') _ AP l9 ?_
  .obtain⟨g1,h1,h2⟩:=ha;exact⟨⟨rfl,rfl,rfl⟩,⟨g1,h1,_,⟨i,U,V,f,j,P,R,O,L,I,H,Q,F,E,B,A,z,r,o,rfl⟩,h2⟩,hr,λb h=>h.elim⟩
  .exact⟨⟨λ_ _=>rfl,vad _,.refl _,rfl,rfl⟩,AQ,λb Z=>(SE b AJ).1,λb Z=>by
    rcases Z with h|h|h
    .grind
    .grind
    .simp at h,by simp,by simp,λ_ h=>h.elim⟩
 .obtain⟨i,U,V,f,j,P,R,O,L,I,H,Q,F,E,B,A,z,r,o,rfl⟩:=nk;exact Vj c (Y.w.at k) d e b2 i U V f j P R O L I H Q F E B A z r o n' a8 M' D w' n9 ⟨hk.rw.heap,hk.rw.size,hk.rw.later,hk.rw.output,hk.rw.tape⟩ ew bR
