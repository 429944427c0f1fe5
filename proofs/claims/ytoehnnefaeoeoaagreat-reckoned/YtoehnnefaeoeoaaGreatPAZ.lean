import Derived.Test.YtoehnnefaeoeoaaGreatPAX
import Derived.Test.YtoehnnefaeoeoaaGreatPAY
set_option linter.all false
set_option maxRecDepth 100000
set_option maxHeartbeats 16000000
namespace Go.Proofs.YtoehnnefaeoeoaaGreat
open Go.Proofs.Tryz
namespace bD
open Conc ConcM RowKit az bu cZ dD b_ cA gi
section
variable {n0:Nat}
def G3:Value->Prop
 | .int .. | .bool _ | .string _=>True
 | _=>False
theorem aej{ρ:ay}{x y:Value}(a:G3 x)(h:aA ρ x y):y=x:=by cases h<;>first|rfl|exact a.elim
theorem awx{ρ:ay}{w w':World}(b:Bx n0 ρ w w'){v a:Value}(c:aA ρ v a){e:TypeId}{n:Nat}{xs:List Value}(hS:∀x∈xs,G3 x)(h:w.ownsRow n0 e 1 v n xs):w'.ownsRow n0 e 1 a n xs/\∀g',a.ownBlock=some g'->∃g,v.ownBlock=some g/\ρ.rel g g':=by
 obtain⟨hl,⟨rfl,C⟩|⟨g,cap,bp,rfl,j,d,m,l,s,k⟩⟩:=h
 ·rw[pg c];exact⟨⟨hl,AU⟩,fun g' e=>GR⟩
 ·obtain⟨g',rfl,r⟩:=B1 c;obtain⟨p,f,B⟩:=b.types _ _ _ _ _ r d;refine⟨⟨hl,.inr ⟨g',cap,p,rfl,b.new _ _ r j,f,m,l,AU,?_⟩⟩,fun t e=>by cases e;exact⟨g,rfl,r⟩⟩;rw[<-k];refine List.ext_getElem? fun i=>?_;rw[List.getElem?_take,List.getElem?_take];split
  ·rename_i hi;have q:i<xs.length:=AU;have A:bp.toList[i]?=some xs[i]:=by grind
   have o:w.cell? ⟨g,i,none⟩=some xs[i]:=by grind[World.cell?]
   obtain⟨y,z,u⟩:=b.cells ⟨g,i,none⟩ ⟨g',i,none⟩ _ ⟨r,rfl,rfl⟩ o;grind[aej,List.getElem_mem,World.cell?]
  ·rfl
def EL(n0:Nat)(X:Nat->List Value)(W:World)(v:Value):Prop:=∃b6 aO L cs,v=.pointer (some ⟨aO,0,none⟩)/\iT n0 b6 aO X W L cs
def EM(n0:Nat)(W:World)(v:Value):Prop:=∃b,v=.pointer (some ⟨b,0,none⟩)/\n0<=b/\af W b #[.slice none 0 0] 27
theorem awy:gR n0 (EM n0):=by rintro ρ w w' v i a e ⟨b,rfl,f,h⟩;obtain⟨g,rfl,r⟩:=y3 e;obtain⟨j,c,k⟩:=G2 (l:=[.slice none 0 0]) a r h;cases k with|cons d k=>cases k;rw[pg d]at c;exact⟨g,rfl,a.new _ _ r f,c⟩
theorem awz{X:Nat->List Value}(F:∀j,∀x∈X j,G3 x):gR n0 (EL n0 X):=by
 rintro ρ w w' v b f H ⟨Q,aO,L,cs,rfl,h⟩;obtain⟨A,rfl,E⟩:=y3 H;obtain⟨V,P,k⟩:=G2 (l:=[.slice (some ⟨Q,0,none⟩) 4 4]) f E h.aO;cases k with
 |cons k O=>
  cases O;obtain⟨z,rfl,rc⟩:=B1 k;obtain⟨lc,u,kc⟩:=G2 (l:=cs.toList) f rc h.box;have ly:lc.length=20:=by rw[<-kc.length];simpa using h.size
  have get:∀i x,cs[i]?=some x->∃y,lc[i]?=some y/\aA ρ x y:=fun i x C=>by
   have hi:i<cs.size:=by
    rcases Nat.lt_or_ge i cs.size with q|q
    ·exact q
    ·rw[Array.getElem?_eq_none q]at C;cases C
   have m:i<lc.length:=by rw[ly,<-h.size];exact hi
   refine⟨lc[i],List.getElem?_eq_getElem m,?_⟩;have:=(a3.La kc).get i x lc[i] AU AU;grind
  have e9:∀j,j<12->∃v b,L[j]?=some ⟨jK j,v,X j⟩/\lc[j / 3*5+2+j % 3]?=some b/\aA ρ v b:=fun j d=>by obtain⟨v,D,o⟩:=h.e9 j d;grind
  let a:List e8:=(List.range 12).map fun j=>⟨jK j,lc[j / 3*5+2+j % 3]?.getD undef,X j⟩
  have R:a.length=12:=AU;have t:∀j(d:j<12),∃v b,L[j]?=some ⟨jK j,v,X j⟩/\a[j]?=some ⟨jK j,b,X j⟩/\lc[j / 3*5+2+j % 3]?=some b/\aA ρ v b:=AU;have own:∀j(d:j<a.length),w'.ownsRow n0 a[j].e 1 a[j].v a[j].xs.length a[j].xs/\∀g',a[j].v.ownBlock=some g'->∃(B:j<L.length)(g:Nat),L[j].v.ownBlock=some g/\ρ.rel g g':=fun j d=>by obtain⟨v,b,D,o,S,I⟩:=t j AU;rw[List.getElem?_eq_getElem d]at o;rw[Option.some.inj o];have U:j<L.length:=AU;obtain⟨q1,T⟩:=awx f I (F j) (h.gU.at D);grind
  refine⟨z,A,a,lc.toArray,rfl,⟨⟨AU,fun i j hi d g n r p=>?_⟩,R,u,AU,fun c x s=>?_,fun j d=>?_,P,f.new _ _ rc h.lo.1,fun e=>?_⟩⟩
  ·obtain⟨m,g1,f1,N⟩:=(own i hi).2 g r;obtain⟨B,J,M,K⟩:=(own j d).2 g p;rw[f.inj _ _ _ N K]at f1;exact h.gU.apart i j m B J n f1 M
  ·obtain⟨y,r,p⟩:=get _ _ (h.head c x s);rw[aej (x:=.int .i64 x) trivial p]at r;grind
  ·grind
  ·rw[e]at rc;exact h.lo.2 (f.inj _ _ _ rc E)
theorem awF(rs:List cL)(n j:Nat):∀x∈b8 rs n j,G3 x:=by
 intro x a;simp only[b8,List.mem_flatMap]at a;obtain⟨r,-,a⟩:=a;unfold x7 at a;repeat' split at a
 all_goals first|(simp only[List.mem_cons,List.not_mem_nil,or_false]at a;subst a;trivial)|grind
end
section
def VQ(jb fB ik k S:Nat)(kd di:Int)(bQ vs bo t1:Value)(j:Nat):Value:=
 match j with
 |0=>.pointer (some ⟨jb,0,none⟩)
 |1=>.int .i64 kd
 |2=>.slice (some ⟨fB,0,none⟩) 7 7
 |3=>.int .i64 k
 |4=>.pointer (some ⟨fB,k,none⟩)
 |5=>.int .i64 kd
 |6=>.bool false
 |7=>.bool false
 |8=>.pointer (some ⟨jb,1,none⟩)
 |9=>.int .i64 di
 |10=>.slice (some ⟨ik,0,none⟩) 7 7
 |11=>.int .i64 k
 |12=>.pointer (some ⟨ik,k,none⟩)
 |13=>.int .i64 di
 |14=>.bool false
 |15=>.bool false
 |16=>.bool false
 |17=>.pointer (some ⟨jb,4,none⟩)
 |18=>bo
 |19=>.int .i64 S
 |20=>.agg #[t1]
 |21=>.int .i64 S
 |22=>.bool false
 |23=>.bool false
 |24=>.bool false
 |25=>.int .i64 k
 |26=>.bool true
 |27=>.bool true
 |28=>.pointer (some ⟨jb,2,none⟩)
 |29=>bQ
 |30=>.int .i64 S
 |31=>.agg #[t1]
 |32=>.int .i64 S
 |33=>.bool false
 |34=>.bool false
 |35=>.bool false
 |36=>.bool false
 |37=>.int .i64 k
 |38=>.bool false
 |39=>.bool false
 |40=>undef
 |41=>undef
 |42=>undef
 |43=>undef
 |44=>undef
 |45=>undef
 |46=>.bool false
 | _=>.bool false
attribute [local go_sem] VQ
theorem ayY(b:List br)(E:0<b.length)(S:Nat)(B:b[0].fY.length=S)(k:Nat)(hk:k<6)(aO n q l:Nat)(kd r:Int)(c x v an:Option Addr)(d mj ci z u y:Nat)(ap:Act)(W:World)(hsz:ap.tmps.size=308)(hd:ap.defers=[])(fX:ap.tmps[5]?=some (.pointer (some ⟨aO,0,none⟩)))(Ax:ap.tmps[9]?=some (.slice (some ⟨n,0,none⟩) 7 7))(As:ap.tmps[10]?=some (.slice (some ⟨q,0,none⟩) 7 7))(mI:ap.tmps[11]?=some (.int .i64 k))(X:ap.tmps[12]?=some (.pointer (some ⟨l,0,none⟩)))
 (M:af W aO #[.slice c b.length d] 27) (F:iB W (.slice c b.length d) b) (I:af W l #[.int .i64 kd,.int .i64 r,.slice x S ci,.slice v z u,.slice an S y] 48) (iF:W.cell? ⟨n,k,none⟩=some (.int .i64 r)) (sO:W.cell? ⟨q,k,none⟩=some (.int .i64 kd)):
 (Code.region 12 (aF Tryz.f3 12) true).wp (ai prog true) (ii fun a' w'=>a'.tmps.size=308/\a'.defers=[]/\(∀s,s<89->a'.tmps[s]?=ap.tmps[s]?)/\a'.tmps[136]?=some (.bool false)/\Below W.heap.size W w') ap W:=by
 have e5:(0:Int)<=(k:Int):=Ay;have Z:(k:Int)<7:=Ay;have Y:(k:Int)<6:=Ay;have ke:((k:Int)==6)=false:=AU;refine EQ (N:=308) (m:=48) (sl:=fun j=>89+j) (V:=VQ l q n k S kd r (.slice x S ci) (.slice v z u) (.slice an S y) (.slice c b.length d)) BB AS AS AU AU hsz hd ?_ ?_
 ·intro aq a w j o h J iH g i;have A:=ju g;have H:=bC.cW h.lL;have UG:=(h.base 12 AU).trans X;obtain⟨Pa,Pb,Pd⟩:=(I.call h.lL).all;have UR:=(h.base 10 AU).trans As;have KS:=(h.base 11 AU).trans mI;have rY:=H _ _ _ sO;have T:=(h.base 9 AU).trans Ax;have nN:=H _ _ _ iF;have q5:=(h.base 5 AU).trans fX;obtain⟨R,Q,P⟩:=(M.call h.lL).all;have C:∀m,m<48->aq.getD m false=true->a.tmps[m+89]?=some (VQ l q n k S kd r (.slice x S ci) (.slice v z u) (.slice an S y) (.slice c b.length d) m):=fun m hi hl=>C7;match j,J with
  |21,_=>obtain rfl:=Option.some.inj A;have O:a.tmps[109]?=some (.agg #[.slice c b.length d]):=h.val 20 AW (i ⟨20,.data⟩ Aa rfl);have t:a.tmps[105]?=some (.bool false):=h.val 16 AW (i ⟨16,.guard⟩ Aa rfl);refine ER g ((vE rfl BB t).trans rfl) rfl (f:=9) (args:=#[.agg #[.slice c b.length d]]) BD ((EC (.slice c b.length d) b E w (iB.kept (wO h.lL) F).bw).mono ?_);rintro e w' ⟨rfl,p⟩;exact⟨_,rfl,by rw[B];exact⟨rfl,p⟩⟩
  |32,_=>obtain rfl:=Option.some.inj A;have U:a.tmps[120]?=some (.agg #[.slice c b.length d]):=h.val 31 AW (i ⟨31,.data⟩ Aa rfl);have t:a.tmps[116]?=some (.bool true):=h.val 27 AW (i ⟨27,.guard⟩ Aa rfl);refine ER g ((vE rfl BB t).trans rfl) rfl (f:=9) (args:=#[.agg #[.slice c b.length d]]) BD ((EC (.slice c b.length d) b E w (iB.kept (wO h.lL) F).bw).mono ?_);rintro e w' ⟨rfl,p⟩;exact⟨_,rfl,by rw[B];exact⟨rfl,p⟩⟩
  |0,_ |1,_ |2,_ |3,_ |4,_ |5,_ |6,_ |7,_ |8,_ |9,_ |10,_ |11,_ |12,_ |13,_ |14,_ |15,_ |16,_ |17,_ |18,_ |19,_ |20,_ |22,_ |23,_ |24,_ |25,_ |26,_ |27,_ |28,_ |29,_ |30,_ |31,_ |33,_ |34,_ |35,_ |36,_ |37,_ |38,_ |39,_ |40,_ |41,_ |42,_ |43,_ |44,_ |45,_ |46,_ |47,_=>
   obtain rfl:=Option.some.inj A;first
    |exact y8 g ((h.guard rfl (i ⟨_,.guard⟩ Aa rfl) AW BB rfl).trans rfl) rfl ⟨rfl,Below.refl _ _⟩
    |have D:=i
     simp[Region.binds]at D;first
      |exact fN g KZ rfl (w1:=w) BD ⟨rfl,Below.refl _ _⟩
      |exact fN g ((h.guard rfl (i ⟨_,.guard⟩ Aa rfl) AW BB rfl).trans rfl) rfl (w1:=w) BD ⟨rfl,Below.refl _ _⟩
    |exact fN g KZ rfl (w1:=w) BD ⟨rfl,Below.refl _ _⟩
 ·intro a w hsz' L K p C;exact⟨rfl,hsz',L,AU,C 47 AW,K⟩
end
section
variable {n0:Nat}
def EZ(l:List Int):Array Value:=(l.map fun x=>Value.int .i64 x).toArray
structure AA(n0:Nat)(N:World)(aO bK ik fB:Nat)(rs:List cL)(k:Nat)(a:Act)(W:World):Prop where
 fV:kE n0 N aO bK rs a W
 Ax:a.tmps[9]?=some (.slice (some ⟨ik,0,none⟩) 7 7)
 As:a.tmps[10]?=some (.slice (some ⟨fB,0,none⟩) 7 7)
 mI:a.tmps[11]?=some (.int .i64 k)
 iF:af W ik (EZ aer) 3
 sO:af W fB (EZ aeq) 3
theorem AA.next{N:World}{aO f c e:Nat}{rs:List cL}{k k':Nat}{a a':Act}{W g:World}(h:AA n0 N aO f c e rs k a W)(i:a'.tmps.size=308)(hd:a'.defers=[])(d:∀s,s<11->a'.tmps[s]?=a.tmps[s]?)(j:a'.tmps[11]?=some (.int .i64 k'))(b:Below W.heap.size W g):AA n0 N aO f c e rs k' a' g:=
 ⟨h.fV.next i hd AU AU b,(d 9 AW).trans h.Ax,(d 10 AW).trans h.As,j,h.iF.call b,h.sO.call b⟩
theorem PA{W:World}{b:Nat}{l:List Int}{x:Int}{k:Nat}(h:af W b (EZ l) 3)(a:l[k]?=some x):W.cell? ⟨b,k,none⟩=some (.int .i64 x):=by rw[h.bT.1];simp[EZ,a]
theorem Co{sl:Nat->Nat}{V:Nat->Value}{a a':Act}{m B:Nat}(b:Pure 308 sl V a m a')(d:∀j,j<m->B<=sl j):∀s,s<B->a'.tmps[s]?=a.tmps[s]?:=fun s c=>b.base s AU
theorem ayZ(N:World)(aO A o p:Nat)(rs:List cL)(k:Nat)(F:k<7)(y ks':List Item)(Q:Act->World->Prop)(a:Act)(W:World)(h:AA n0 N aO A o p rs k a W)(aj:∀a' P,AA n0 N aO A o p rs (k+1) a' P->c2 (ai prog true) y ks' Q a' P):c2 (ai prog true) (.code (G_ Tryz.f3)::y) ks' Q a W:=by
 unfold G_;refine cn (cn (lM (n:=2) AS ?_));rw[<-List.append_nil (List.range' 0 2)];refine aw8 k a W h.fV.size h.fV.defers h.mI Ay fun a1 i=>lN ?_;have g:=h.next (k':=k) i.size i.defers (Co i (by decide+kernel:∀j,j<2->11<=vF j)) ((i.base 11 AS).trans h.mI) (Below.refl _ _);refine m2 (t:=true) (y_ (i.val 1 AW)) ?_;rw[if_pos rfl];refine wB (cn (t5 (cn (lM (n:=7) AS ?_))));clear i h;obtain⟨bH,U,X,J,S,sC⟩:=G8 g.fV.Cm Jd;obtain⟨c,hc,rc⟩:=O9 rs F;have T:k<(sS rs).length:=AU;obtain⟨bQ,vs,bo,f⟩:=sC k T;have u:(sS rs)[k]=c:=by grind
 rw[u]at f;rw[Cl]at J S;obtain⟨x,ci,rfl,-⟩:=Il f.is.jP;obtain⟨w,gZ,rfl,-⟩:=Vt f.is.hQ;obtain⟨an,bN,rfl,-⟩:=Vs f.is.fY;rw[show List.range' 0 7=List.range' 0 5++[5,6]from rfl];refine axg A bH U X k c.kind c.cE _ _ _ a1 W g.fV.size g.fV.defers g.fV.r4 g.mI F (by rw[J.bT.1];rfl) f.dw f.d1 f.gV f.fS f.gJ fun r d=>?_;have v:=g.next (k':=k) d.size d.defers (Co d (by decide+kernel:∀j,j<5->11<=Cj j)) ((d.base 11 AS).trans g.mI) (Below.refl _ _);refine axt r W d.size c.kind c.cE x w an _ _ _ _ _ _ (d.val 4 AW) fun l q Z=>lN ?_;have b:=v.next (k':=k) (a':=r.put (some 12) (.pointer (some ⟨W.heap.size,0,none⟩))) (by rw[gQ];exact d.size) (by rw[put_defers];exact d.defers) (fun s hs=>kg Ay) ((kg AW).trans v.mI) Z;have D:(r.put (some 12) (.pointer (some ⟨W.heap.size,0,none⟩))).tmps[12]?=some (.pointer (some ⟨W.heap.size,0,none⟩)):=lO (by rw[d.size];decide);clear d g v;generalize r.put (some 12) (.pointer (some ⟨W.heap.size,0,none⟩))=z at b D⊢;refine cn (g_ ?_);have gt:∀a' w',(a'.tmps.size=308/\a'.defers=[]/\(∀s,s<89->a'.tmps[s]?=z.tmps[s]?)/\a'.tmps[136]?=some (.bool false)/\Below l.heap.size l w')->c2 (ai prog true) (.code (.cond (.tmp 136) (.seq (.region 13 (aF Tryz.f3 13) false) .ret) .skip):: .inBlock 1:: .code (.region 10 (iU Tryz.f3 10) false)::y) ks' Q a' w':=by rintro ej R ⟨L,K,fx,Y,V⟩;refine m2 (t:=false) (y_ Y) ?_;rw[if_neg AW];refine wB (Bv (lM (n:=3) AS ?_));have H:=b.next (k':=k) L K AU ((fx 11 AW).trans b.mI) V;rw[<-List.append_nil (List.range' 0 3)];refine axd k ej R L K H.mI Ay fun gD m=>lN ?_;exact aj _ _ (H.next m.size m.defers (Co m (by decide+kernel:∀j,j<3->11<=ES j)) (m.val 2 AW) (Below.refl _ _))
 obtain⟨c1,E,O,M,I,-⟩:=G8 b.fV.gI (by simp[gi.d8]);rcases Nat.lt_or_ge k 6 with B|B
 ·rw[rc.jP B,rc.fY]at q;refine wp_mono (ayY (d8 rs) (by simp[gi.d8]) rs.length (by simp[gi.d8]) k B aO o p W.heap.size c.kind c.cE (some ⟨c1,E,none⟩) x w an O 0 _ _ _ _ z l b.fV.size b.fV.defers b.fV.fX b.Ax b.As b.mI D M I q (PA b.iF rc.cE) (PA b.sO rc.kind)) ?_;rintro e a' w' ⟨rfl,C⟩;exact⟨rfl,gt a' w' C⟩
 ·obtain rfl:k=6:=by omega
  rw[rc.hQ rfl,rc.fY]at q;refine wp_mono (axn (d8 rs) (by simp[gi.d8]) rs.length (by simp[gi.d8]) aO o p W.heap.size c.kind c.cE (some ⟨c1,E,none⟩) x w an O _ _ 0 _ _ z l b.fV.size b.fV.defers b.fV.fX b.Ax b.As b.mI D M I q (PA b.iF rc.cE) (PA b.sO rc.kind)) ?_;rintro e a' w' ⟨rfl,C⟩;exact⟨rfl,gt a' w' C⟩
theorem ay0(N:World)(aO c d f:Nat)(rs:List cL)(b ks':List Item)(Q:Act->World->Prop)(i:∀a W,kE n0 N aO c rs a W->c2 (ai prog true) b ks' Q a W):∀m k a W,k+m=7->AA n0 N aO c d f rs k a W->c2 (ai prog true) (.code (G_ Tryz.f3):: .inLoop (G_ Tryz.f3):: .inBlock 0::b) ks' Q a W:=by
 intro m;induction m with
 |zero=>intro k a W g h;obtain rfl:k=7:=Ay;unfold G_;refine cn (cn (lM (n:=2) AS ?_));rw[<-List.append_nil (List.range' 0 2)];refine aw_ 7 a W h.fV.size h.fV.defers h.mI AW fun a1 e=>lN ?_;refine m2 (t:=false) (y_ (e.val 1 AW)) ?_;rw[if_neg AW];refine Jg (DO:=b) (by simp[exitTo]) ?_;exact i _ _ (h.fV.pure e AS AS)
 |succ m j=>intro k a W g h;exact ayZ N aO c d f rs k Ay _ _ _ a W h fun a' o l=>Gp AU
end
section
def V1(mJ fP jd gv on bi bc k S i bN ci:Nat)(cb:Int)(bQ bo:Value)(j:Nat):Value:=
 match j with
 |0=>.pointer (some ⟨mJ,4,none⟩)
 |1=>bo
 |2=>.int .i64 i
 |3=>.pointer (some ⟨gv,on+i,none⟩)
 |4=>.bool false
 |5=>.slice (some ⟨fP,0,none⟩) 7 7
 |6=>.int .i64 k
 |7=>.pointer (some ⟨fP,k,none⟩)
 |8=>.bool false
 |9=>.bool false
 |10=>.bool false
 |11=>.int .i64 k
 |12=>.bool true
 |13=>.bool true
 |14=>.slice (some ⟨fP,0,none⟩) 7 7
 |15=>.int .i64 k
 |16=>.pointer (some ⟨fP,k,none⟩)
 |17=>.bool false
 |18=>.bool true
 |19=>.bool true
 |20=>.bool true
 |21=>.pointer (some ⟨mJ,2,none⟩)
 |22=>bQ
 |23=>.int .i64 i
 |24=>.pointer (some ⟨bi,bc+i,none⟩)
 |25=>.int .i64 cb
 |26=>.slice (some ⟨jd,0,none⟩) 6 6
 |27=>.int .i64 k
 |28=>.pointer (some ⟨jd,k,none⟩)
 |29=>.int .i64 cb
 |30=>.bool false
 |31=>.bool false
 |32=>.bool false
 |33=>.bool false
 |34=>.int .i64 k
 |35=>.bool true
 |36=>.bool true
 |37=>.slice (some ⟨fP,0,none⟩) 7 7
 |38=>.int .i64 k
 |39=>.pointer (some ⟨fP,k,none⟩)
 |40=>.bool false
 |41=>.bool false
 |42=>.bool false
 |43=>undef
 |44=>undef
 |45=>undef
 |46=>undef
 |47=>undef
 |48=>undef
 |49=>.bool false
 | _=>.bool false
attribute [local go_sem] V1
theorem azr(f l g b on bi c k S i e ci:Nat)(kd y cb:Int)(bQ vs:Value)(T:k<6)(hi:i<S)(ap:Act)(W:World)(hsz:ap.tmps.size=308)(hd:ap.defers=[])(fO:ap.tmps[13]?=some (.int .i64 i))(zd:ap.tmps[20]?=some (.slice (some ⟨l,0,none⟩) 7 7))(ze:ap.tmps[21]?=some (.slice (some ⟨g,0,none⟩) 6 6))(lq:ap.tmps[22]?=some (.int .i64 k))(r:ap.tmps[23]?=some (.pointer (some ⟨f,0,none⟩)))
 (t:af W f #[.int .i64 kd,.int .i64 y,.slice (some ⟨bi,c,none⟩) S ci,vs,.slice (some ⟨b,on,none⟩) S e] 48) (H:W.cell? ⟨b,on+i,none⟩=some (.bool false)) (uu:W.cell? ⟨l,k,none⟩=some (.bool false)) (F:W.cell? ⟨bi,c+i,none⟩=some (.int .i64 cb)) (GN:W.cell? ⟨g,k,none⟩=some (.int .i64 cb)):
 (Code.region 29 (aF Tryz.f3 29) true).wp (ai prog true) (ii fun a' w'=>a'.tmps.size=308/\a'.defers=[]/\(∀s,s<240->a'.tmps[s]?=ap.tmps[s]?)/\a'.tmps[290]?=some (.bool false)/\Below W.heap.size W w') ap W:=by
 have X:(0:Int)<=(k:Int):=Ay;have K:(k:Int)<7:=Ay;have I:(k:Int)<6:=Ay;have R:(0:Int)<=(i:Int):=Ay;have Q:(i:Int)<(S:Int):=Ay;refine EQ (N:=308) (m:=51) (sl:=fun j=>240+j) (V:=V1 f l g b on bi c k S i e ci cb (.slice (some ⟨bi,c,none⟩) S ci) (.slice (some ⟨b,on,none⟩) S e)) BB AS AS AU AU hsz hd ?_ ?_
 ·intro aq a w j o h u P d p;have E:=ju d;have n:=bC.cW h.lL;have C:=(h.base 23 AU).trans r;obtain⟨Pa,Z,Y⟩:=(t.call h.lL).all;have J:=(h.base 13 AU).trans fO;have M:=n _ _ _ H;have B:=(h.base 20 AU).trans zd;have G6:=(h.base 22 AU).trans lq;have O:=n _ _ _ uu;have L:=n _ _ _ F;have A:=(h.base 21 AU).trans ze;have z:=n _ _ _ GN;have q:∀m,m<51->aq.getD m false=true->a.tmps[m+240]?=some (V1 f l g b on bi c k S i e ci cb (.slice (some ⟨bi,c,none⟩) S ci) (.slice (some ⟨b,on,none⟩) S e) m):=fun m hi hl=>C7;match j,u with
  |0,_ |1,_ |2,_ |3,_ |4,_ |5,_ |6,_ |7,_ |8,_ |9,_ |10,_ |11,_ |12,_ |13,_ |14,_ |15,_ |16,_ |17,_ |18,_ |19,_ |20,_ |21,_ |22,_ |23,_ |24,_ |25,_ |26,_ |27,_ |28,_ |29,_ |30,_ |31,_ |32,_ |33,_ |34,_ |35,_ |36,_ |37,_ |38,_ |39,_ |40,_ |41,_ |42,_ |43,_ |44,_ |45,_ |46,_ |47,_ |48,_ |49,_ |50,_=>
   obtain rfl:=Option.some.inj E;first
    |exact y8 d ((h.guard rfl (p ⟨_,.guard⟩ Aa rfl) AW BB rfl).trans rfl) rfl ⟨rfl,Below.refl _ _⟩
    |have D:=p
     simp[Region.binds]at D;first
      |exact fN d KZ rfl (w1:=w) BD ⟨rfl,Below.refl _ _⟩
      |exact fN d ((h.guard rfl (p ⟨_,.guard⟩ Aa rfl) AW BB rfl).trans rfl) rfl (w1:=w) BD ⟨rfl,Below.refl _ _⟩
    |exact fN d KZ rfl (w1:=w) BD ⟨rfl,Below.refl _ _⟩
 ·intro a w hsz' x v U q;exact⟨rfl,hsz',x,AU,q 50 AW,v⟩
end
section
def V3(mJ fP jd gv on bi bc k S i bN ci:Nat)(bQ bo:Value)(j:Nat):Value:=
 match j with
 |0=>.pointer (some ⟨mJ,4,none⟩)
 |1=>bo
 |2=>.int .i64 i
 |3=>.pointer (some ⟨gv,on+i,none⟩)
 |4=>.bool true
 |5=>.slice (some ⟨fP,0,none⟩) 7 7
 |6=>.int .i64 k
 |7=>.pointer (some ⟨fP,k,none⟩)
 |8=>.bool true
 |9=>.bool false
 |10=>.bool false
 |11=>.int .i64 k
 |12=>.bool true
 |13=>.bool true
 |14=>.slice (some ⟨fP,0,none⟩) 7 7
 |15=>.int .i64 k
 |16=>.pointer (some ⟨fP,k,none⟩)
 |17=>.bool true
 |18=>.bool false
 |19=>.bool false
 |20=>.bool false
 |21=>undef
 |22=>undef
 |23=>undef
 |24=>undef
 |25=>undef
 |26=>undef
 |27=>undef
 |28=>undef
 |29=>undef
 |30=>undef
 |31=>.bool false
 |32=>.bool false
 |33=>.bool false
 |34=>.int .i64 k
 |35=>.bool true
 |36=>.bool true
 |37=>.slice (some ⟨fP,0,none⟩) 7 7
 |38=>.int .i64 k
 |39=>.pointer (some ⟨fP,k,none⟩)
 |40=>.bool true
 |41=>.bool true
 |42=>.bool true
 |43=>.pointer (some ⟨mJ,2,none⟩)
 |44=>bQ
 |45=>.int .i64 i
 |46=>.pointer (some ⟨bi,bc+i,none⟩)
 |47=>.int .i64 0
 |48=>.bool false
 |49=>.bool false
 | _=>.bool false
attribute [local go_sem] V3
theorem azs(f g l b on bi c k S i e ci:Nat)(kd y:Int)(bQ vs:Value)(Q:k<6)(hi:i<S)(ap:Act)(W:World)(hsz:ap.tmps.size=308)(hd:ap.defers=[])(fO:ap.tmps[13]?=some (.int .i64 i))(zd:ap.tmps[20]?=some (.slice (some ⟨g,0,none⟩) 7 7))(ze:ap.tmps[21]?=some (.slice (some ⟨l,0,none⟩) 6 6))(lq:ap.tmps[22]?=some (.int .i64 k))(r:ap.tmps[23]?=some (.pointer (some ⟨f,0,none⟩)))
 (t:af W f #[.int .i64 kd,.int .i64 y,.slice (some ⟨bi,c,none⟩) S ci,vs,.slice (some ⟨b,on,none⟩) S e] 48) (F:W.cell? ⟨b,on+i,none⟩=some (.bool true)) (uu:W.cell? ⟨g,k,none⟩=some (.bool true)) (E:W.cell? ⟨bi,c+i,none⟩=some (.int .i64 0)):
 (Code.region 29 (aF Tryz.f3 29) true).wp (ai prog true) (ii fun a' w'=>a'.tmps.size=308/\a'.defers=[]/\(∀s,s<240->a'.tmps[s]?=ap.tmps[s]?)/\a'.tmps[290]?=some (.bool false)/\Below W.heap.size W w') ap W:=by
 have T:(0:Int)<=(k:Int):=Ay;have J:(k:Int)<7:=Ay;have H:(k:Int)<6:=Ay;have P:(0:Int)<=(i:Int):=Ay;have O:(i:Int)<(S:Int):=Ay;refine EQ (N:=308) (m:=51) (sl:=fun j=>240+j) (V:=V3 f g l b on bi c k S i e ci (.slice (some ⟨bi,c,none⟩) S ci) (.slice (some ⟨b,on,none⟩) S e)) BB AS AS AU AU hsz hd ?_ ?_
 ·intro aq a w j o h u M d n;have C:=ju d;have p:=bC.cW h.lL;have B:=(h.base 23 AU).trans r;obtain⟨Y,X,U⟩:=(t.call h.lL).all;have I:=(h.base 13 AU).trans fO;have K:=p _ _ _ F;have A:=(h.base 20 AU).trans zd;have G6:=(h.base 22 AU).trans lq;have L:=p _ _ _ uu;have z:=(h.base 21 AU).trans ze;have Z:=p _ _ _ E;have q:∀m,m<51->aq.getD m false=true->a.tmps[m+240]?=some (V3 f g l b on bi c k S i e ci (.slice (some ⟨bi,c,none⟩) S ci) (.slice (some ⟨b,on,none⟩) S e) m):=fun m hi hl=>C7;match j,u with
  |0,_ |1,_ |2,_ |3,_ |4,_ |5,_ |6,_ |7,_ |8,_ |9,_ |10,_ |11,_ |12,_ |13,_ |14,_ |15,_ |16,_ |17,_ |18,_ |19,_ |20,_ |21,_ |22,_ |23,_ |24,_ |25,_ |26,_ |27,_ |28,_ |29,_ |30,_ |31,_ |32,_ |33,_ |34,_ |35,_ |36,_ |37,_ |38,_ |39,_ |40,_ |41,_ |42,_ |43,_ |44,_ |45,_ |46,_ |47,_ |48,_ |49,_ |50,_=>
   obtain rfl:=Option.some.inj C;first
    |exact y8 d ((h.guard rfl (n ⟨_,.guard⟩ Aa rfl) AW BB rfl).trans rfl) rfl ⟨rfl,Below.refl _ _⟩
    |have D:=n
     simp[Region.binds]at D;first
      |exact fN d KZ rfl (w1:=w) BD ⟨rfl,Below.refl _ _⟩
      |exact fN d ((h.guard rfl (n ⟨_,.guard⟩ Aa rfl) AW BB rfl).trans rfl) rfl (w1:=w) BD ⟨rfl,Below.refl _ _⟩
    |exact fN d KZ rfl (w1:=w) BD ⟨rfl,Below.refl _ _⟩
 ·intro a w hsz' x v R q;exact⟨rfl,hsz',x,AU,q 50 AW,v⟩
end
section
def V4(mJ fP jd gv on bi bc S i bN ci:Nat)(y9:Bool)(bQ bo:Value)(j:Nat):Value:=
 match j with
 |0=>.pointer (some ⟨mJ,4,none⟩)
 |1=>bo
 |2=>.int .i64 i
 |3=>.pointer (some ⟨gv,on+i,none⟩)
 |4=>.bool y9
 |5=>.slice (some ⟨fP,0,none⟩) 7 7
 |6=>.int .i64 6
 |7=>.pointer (some ⟨fP,6,none⟩)
 |8=>.bool y9
 |9=>.bool false
 |10=>.bool false
 |11=>.int .i64 6
 |12=>.bool false
 |13=>.bool false
 |14=>undef
 |15=>undef
 |16=>undef
 |17=>undef
 |18=>undef
 |19=>.bool false
 |20=>.bool false
 |21=>undef
 |22=>undef
 |23=>undef
 |24=>undef
 |25=>undef
 |26=>undef
 |27=>undef
 |28=>undef
 |29=>undef
 |30=>undef
 |31=>.bool false
 |32=>.bool false
 |33=>.bool false
 |34=>.int .i64 6
 |35=>.bool false
 |36=>.bool false
 |37=>undef
 |38=>undef
 |39=>undef
 |40=>undef
 |41=>.bool false
 |42=>.bool false
 |43=>undef
 |44=>undef
 |45=>undef
 |46=>undef
 |47=>undef
 |48=>undef
 |49=>.bool false
 | _=>.bool false
attribute [local go_sem] V4
theorem azt(e f g b on bi n S i d ci:Nat)(kd x:Int)(y9:Bool)(bQ vs:Value)(hi:i<S)(ap:Act)(W:World)(hsz:ap.tmps.size=308)(hd:ap.defers=[])(fO:ap.tmps[13]?=some (.int .i64 i))(zd:ap.tmps[20]?=some (.slice (some ⟨f,0,none⟩) 7 7))(ze:ap.tmps[21]?=some (.slice (some ⟨g,0,none⟩) 6 6))(lq:ap.tmps[22]?=some (.int .i64 6))(q:ap.tmps[23]?=some (.pointer (some ⟨e,0,none⟩)))
 (r:af W e #[.int .i64 kd,.int .i64 x,bQ,vs,.slice (some ⟨b,on,none⟩) S d] 48) (C:W.cell? ⟨b,on+i,none⟩=some (.bool y9)) (uu:W.cell? ⟨f,6,none⟩=some (.bool y9)):
 (Code.region 29 (aF Tryz.f3 29) true).wp (ai prog true) (ii fun a' w'=>a'.tmps.size=308/\a'.defers=[]/\(∀s,s<240->a'.tmps[s]?=ap.tmps[s]?)/\a'.tmps[290]?=some (.bool false)/\Below W.heap.size W w') ap W:=by
 have K:(0:Int)<=(i:Int):=Ay;have J:(i:Int)<(S:Int):=Ay;refine EQ (N:=308) (m:=51) (sl:=fun j=>240+j) (V:=V4 e f g b on bi n S i d ci y9 (bQ) (.slice (some ⟨b,on,none⟩) S d)) BB AS AS AU AU hsz hd ?_ ?_
 ·intro aq a w j o h t I c k;have B:=ju c;have p:=bC.cW h.lL;have A:=(h.base 23 AU).trans q;obtain⟨P,O,M⟩:=(r.call h.lL).all;have E:=(h.base 13 AU).trans fO;have F:=p _ _ _ C;have z:=(h.base 20 AU).trans zd;have Q:=(h.base 22 AU).trans lq;have H:=p _ _ _ uu;have y:=(h.base 21 AU).trans ze;have l:∀m,m<51->aq.getD m false=true->a.tmps[m+240]?=some (V4 e f g b on bi n S i d ci y9 (bQ) (.slice (some ⟨b,on,none⟩) S d) m):=fun m hi hl=>C7;match j,t with
  |0,_ |1,_ |2,_ |3,_ |4,_ |5,_ |6,_ |7,_ |8,_ |9,_ |10,_ |11,_ |12,_ |13,_ |14,_ |15,_ |16,_ |17,_ |18,_ |19,_ |20,_ |21,_ |22,_ |23,_ |24,_ |25,_ |26,_ |27,_ |28,_ |29,_ |30,_ |31,_ |32,_ |33,_ |34,_ |35,_ |36,_ |37,_ |38,_ |39,_ |40,_ |41,_ |42,_ |43,_ |44,_ |45,_ |46,_ |47,_ |48,_ |49,_ |50,_=>
   obtain rfl:=Option.some.inj B;first
    |exact y8 c ((h.guard rfl (k ⟨_,.guard⟩ Aa rfl) AW BB rfl).trans rfl) rfl ⟨rfl,Below.refl _ _⟩
    |have D:=k
     simp[Region.binds]at D;first
      |exact fN c KZ rfl (w1:=w) BD ⟨rfl,Below.refl _ _⟩
      |exact fN c ((h.guard rfl (k ⟨_,.guard⟩ Aa rfl) AW BB rfl).trans rfl) rfl (w1:=w) BD ⟨rfl,Below.refl _ _⟩
    |exact fN c KZ rfl (w1:=w) BD ⟨rfl,Below.refl _ _⟩
 ·intro a w hsz' v u L l;exact⟨rfl,hsz',v,AU,l 50 AW,u⟩
end
end bD
end Go.Proofs.YtoehnnefaeoeoaaGreat
