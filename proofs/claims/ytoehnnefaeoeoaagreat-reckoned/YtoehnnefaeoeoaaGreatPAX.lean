import Derived.Test.YtoehnnefaeoeoaaGreatPAW
set_option linter.all false
set_option maxRecDepth 100000
set_option maxHeartbeats 16000000
namespace Go.Proofs.YtoehnnefaeoeoaaGreat
open Go.Proofs.Tryz
namespace bD
open Conc ConcM RowKit az bu cZ dD b_ cA gi
variable {P:Program}{ops:Array Oper}{cJ ks':List Item}{a:Act}{w:World}
section
variable {n0:Nat}
theorem U1{Q:Act->World->Prop}{l:List Nat}(h:wpOps P ops (ii (c2 P (.inRegion ops []::cJ) ks' Q)) l a w):c2 P (.inRegion ops l::cJ) ks' Q a w:=fun b cs=>by obtain⟨a1,w1,c,g⟩:=Nj [] l a w h b cJ cs;obtain⟨i,d,f,e⟩:=c b cs;grind[Steps.trans]
theorem awp:dR Tryz.f3 1=.seq (.region 2 (aF Tryz.f3 2) false) (.seq (.region 3 (aF Tryz.f3 3) true) (dR Tryz.f3 3)):=by kernel_rfl
def KR(n0:Nat)(w:World)(v:Value):Prop:=∃b iC,v=.pointer (some ⟨b,0,none⟩)/\n0<=b/\af w b (eY 3 (.slice (some ⟨iC,0,none⟩) 7 7)) 37/\mP w (.slice (some ⟨iC,0,none⟩) 7 7) kB
theorem awq:kC (KR n0):=fun _ _ _ a⟨b,c,e,g,f,d⟩=>⟨b,c,e,g,f.call a,d.mono ns (bC.cW a)⟩
theorem G2{ρ:ay}{w':World}(d:Bx n0 ρ w w'){b c:Nat}(r:ρ.rel b c){l:List Value}{T:TypeId}(h:af w b l.toArray T):∃a,af w' c a.toArray T/\dJ (aA ρ) l a:=by obtain⟨j,e,o⟩:=d.types _ _ _ _ _ r h;obtain⟨a⟩:=j;refine⟨a,e,TY AU fun i v k m f=>?_⟩;obtain⟨x,g,n⟩:=d.cells ⟨b,i,none⟩ ⟨c,i,none⟩ v ⟨r,rfl,rfl⟩ ((h.bT.1 i).trans AU);rw[(af.bT (show af w' c a.toArray T from e)).1 i]at g;grind
theorem U2(x y:Int):gR n0 (wP x y):=by
 rintro ρ w w' v i e d ⟨b,rfl,h⟩;obtain⟨g,rfl,r⟩:=y3 d;obtain⟨j,a,k⟩:=G2 e r h;cases k with
 |cons c k=>cases k with
  |cons f k=>cases k;rw[jJ c,jJ f]at a;exact⟨g,rfl,a⟩
theorem aeg:gR n0 (KR n0):=by
 rintro ρ w w' v t a l ⟨b,u,rfl,p,h,j⟩;obtain⟨q,rfl,r⟩:=y3 l;obtain⟨x,d,k⟩:=G2 a r h;cases k with
 |cons i k=>cases k with
  |cons o k=>cases k with
   |cons n k=>cases k with
    |cons c k=>cases k with
     |cons g k=>cases k with
      |cons e k=>cases k with
       |cons f k=>cases k;obtain⟨s,m,-⟩:=B1 c;subst m;rw[jJ i,jJ o,jJ n,pg g,pg e,pg f]at d;exact⟨q,s,rfl,a.new _ _ r p,d,az.bd.cw yH a.cells c j⟩
def Ch(n0:Nat)(x y:Int)(a_:List br):List (Nat×(World->Value->Prop)):=[(3,wP x y),(5,lK n0 a_),(6,KR n0)]
theorem awr(x y:Int)(a_:List br):∀p∈Ch n0 x y a_,gR n0 p.2:=by intro p a;simp[Ch]at a;grind[U2,EG,aeg]
theorem aws(x y:Int)(a_:List br)(a:Act)(w:World)(A:n0<=w.heap.size)(hd:a.defers=[])(hs:d0 308 [(3,wP x y),(25,vC a_)] a w):
 c2 (ai prog true) [.inRegion (aF Tryz.f3 1) [2,3],.code (dR Tryz.f3 1)] [.code (.region 3 (aF Tryz.f3 3) true),.code (dR Tryz.f3 3)] (fun a1 w1=>a1.defers=[]/\d0 308 (Ch n0 x y a_) a1 w1/\Below n0 w w1) a w:=by
 rw[awp];obtain⟨hsz,f⟩:=hs;obtain⟨v3,l,L⟩:=f (3,wP x y) Aa;obtain⟨v25,K,a9,rfl,C⟩:=f (25,vC a_) Aa;have l:a.tmps[3]?=some v3:=l;have K:a.tmps[25]?=some (.agg #[a9]):=K;obtain⟨⟨m,n,rfl,-,-⟩,-⟩:=id C;refine U1 (mG (R:=fun a1 w1=>a1=a.put (some 5) (.pointer (some ⟨w.heap.size,0,none⟩))/\w1=w.alloc (.cells #[.slice none 0 0] 27)) ?_ ?_)
 ·obtain⟨o,b⟩:∃o,(aF Tryz.f3 1)[2]?=some o:=⟨_,B2⟩;obtain rfl:=iE b;exact eG b rfl rfl (v:=.pointer (some ⟨w.heap.size,0,none⟩)) (w1:=w.alloc (.cells #[.slice none 0 0] 27)) BD ⟨rfl,rfl⟩
 rintro a1 w1 ⟨Jl,rfl⟩;have c:=af.new w #[.slice none 0 0] 27;have E:Below w.heap.size w (w.alloc (.cells #[.slice none 0 0] 27)):=(Below.refl _ w).alloc Jr _;have T:a1.tmps[5]?=some (.pointer (some ⟨w.heap.size,0,none⟩)):=FC;have f25:a1.tmps[25]?=some (.agg #[.slice m a_.length n]):=FC;have U:a1.tmps[3]?=some v3:=FC;have t:a1.tmps.size=308:=Dl;have fd:a1.defers=[]:=C8;have O:eT jU w ((w.alloc (.cells #[.slice none 0 0] 27)).setCell ⟨w.heap.size,0,none⟩ (.slice m a_.length n)):=(wO E).trans (eT.set c Dr _ _);have z:Below w.heap.size w ((w.alloc (.cells #[.slice none 0 0] 27)).setCell ⟨w.heap.size,0,none⟩ (.slice m a_.length n)):=E.setCell (p:=⟨w.heap.size,0,none⟩) Jr _;have g:y6 n0 x y a_ 0 w a1 ((w.alloc (.cells #[.slice none 0 0] 27)).setCell ⟨w.heap.size,0,none⟩ (.slice m a_.length n)):=by
  refine⟨fd,⟨A,z.mono A⟩,⟨t,fun p r=>?_⟩,fun q hq hl=>?_⟩
  ·simp at r;rcases r with rfl|rfl
   ·exact⟨v3,U,U0 _ _ _ _ _ z L⟩
   ·exact⟨_,T,w.heap.size,_,rfl,A,c.set 0 _,C.kept O⟩
  ·have:q.1<27:=by revert q;decide
   grind[ad4]
 clear O E Jl K l f hsz hd t fd L C;refine mG (R:=y6 n0 x y a_ 0 w) ?_ ?_
 ·obtain⟨o,b⟩:∃o,(aF Tryz.f3 1)[3]?=some o:=⟨_,B2⟩;obtain rfl:=iE b;obtain⟨dW,er,fx⟩:=c.all;have Iv:Hid _:=g;clear g c z;exact EF b rfl rfl (w1:=(w.alloc (.cells #[.slice none 0 0] 27)).setCell ⟨w.heap.size,0,none⟩ (.slice m a_.length n)) BD Iv.out
 clear g c z T f25 U;clear a1;intro a1 w1 g;refine⟨rfl,t6 (cn (zX ?_))⟩;have qh:(aF Tryz.f3 2).size=29:=AS;rw[qh,show List.range' 0 29=List.range' 0 (27-0)++[27,28]from rfl];refine U1 (ad1 (I:=fun i=>y6 n0 x y a_ i w) AW (fun i _ hi a W h=>awh x y a_ i w hi a W h) (fun a W h=>?_) g);obtain⟨hd,⟨-,D⟩,⟨hsz,f⟩,hF⟩:=id h;obtain⟨v3,l,V,rfl,Y⟩:=f (3,wP x y) Aa;obtain⟨v5,jB,aO,a9,rfl,gq,X,P⟩:=f (5,lK n0 a_) Aa;obtain⟨v52,J,k,rfl,Ox⟩:=h.get (j:=26) AW AW AW;have J:a.tmps[52]?=some (.agg (eY 3 (.slice (some ⟨k,0,none⟩) 7 7))):=J;have Dy:n0<=W.heap.size:=Nat.le_trans A D.size;refine mG (R:=fun a1 w1=>a1=a.put (some 6) (.pointer (some ⟨W.heap.size,0,none⟩))/\w1=W.alloc (.cells #[.int .i64 0,.int .i64 0,.int .i64 0,.slice none 0 0,.slice none 0 0,.slice none 0 0,.slice none 0 0] 37)) ?_ ?_
 ·obtain⟨o,b⟩:∃o,(aF Tryz.f3 2)[27]?=some o:=⟨_,B2⟩;obtain rfl:=iE b;exact eG b rfl rfl (v:=.pointer (some ⟨W.heap.size,0,none⟩)) (w1:=W.alloc (.cells #[.int .i64 0,.int .i64 0,.int .i64 0,.slice none 0 0,.slice none 0 0,.slice none 0 0,.slice none 0 0] 37)) BD ⟨rfl,rfl⟩
 rintro d w2 ⟨ye,rfl⟩;have c:=af.new W #[.int .i64 0,.int .i64 0,.int .i64 0,.slice none 0 0,.slice none 0 0,.slice none 0 0,.slice none 0 0] 37;have S:Below W.heap.size W (W.alloc (.cells #[.int .i64 0,.int .i64 0,.int .i64 0,.slice none 0 0,.slice none 0 0,.slice none 0 0,.slice none 0 0] 37)):=(Below.refl _ W).alloc Jr _;have mE:d.tmps[6]?=some (.pointer (some ⟨W.heap.size,0,none⟩)):=FC;have H:d.tmps[52]?=some (.agg (eY 3 (.slice (some ⟨k,0,none⟩) 7 7))):=FC;have Q:d.tmps[3]?=some (.pointer (some ⟨V,0,none⟩)):=FC;have N:d.tmps[5]?=some (.pointer (some ⟨aO,0,none⟩)):=FC;have s:d.tmps.size=308:=Dl;have JI:d.defers=[]:=C8;generalize W.alloc (.cells #[.int .i64 0,.int .i64 0,.int .i64 0,.slice none 0 0,.slice none 0 0,.slice none 0 0,.slice none 0 0] 37)=F at *;obtain⟨e,B⟩:∃e,e=((((((F.setCell ⟨W.heap.size,0,none⟩ (.int .i64 3)).setCell ⟨W.heap.size,1,none⟩ (.int .i64 0)).setCell ⟨W.heap.size,2,none⟩ (.int .i64 0)).setCell ⟨W.heap.size,3,none⟩ (.slice (some ⟨k,0,none⟩) 7 7)).setCell ⟨W.heap.size,4,none⟩ (.slice none 0 0)).setCell ⟨W.heap.size,5,none⟩ (.slice none 0 0)).setCell ⟨W.heap.size,6,none⟩ (.slice none 0 0):=⟨_,rfl⟩;have Z:af e W.heap.size (eY 3 (.slice (some ⟨k,0,none⟩) 7 7)) 37:=by rw[B];exact((((((c.set 0 _).set 1 _).set 2 _).set 3 _).set 4 _).set 5 _).set 6 _
 have u:Below W.heap.size W e:=by rw[B];exact((((((S.setCell (p:=⟨W.heap.size,_,none⟩) Jr _).setCell (p:=⟨W.heap.size,_,none⟩) Jr _).setCell (p:=⟨W.heap.size,_,none⟩) Jr _).setCell (p:=⟨W.heap.size,_,none⟩) Jr _).setCell (p:=⟨W.heap.size,_,none⟩) Jr _).setCell (p:=⟨W.heap.size,_,none⟩) Jr _).setCell (p:=⟨W.heap.size,_,none⟩) Jr _
 have M:d0 308 (Ch n0 x y a_) d e:=by
  refine⟨s,fun p r=>?_⟩;simp[Ch]at r;rcases r with rfl|rfl|rfl
  ·exact⟨_,Q,V,rfl,Y.call u⟩
  ·exact⟨_,N,At _ _ _ _ u ⟨aO,a9,rfl,gq,X,P⟩⟩
  ·exact⟨_,mE,W.heap.size,k,rfl,Dy,Z,Ox.mono ns (bC.cW u)⟩
 refine mG (R:=fun a1 w1=>a1=d/\w1=e) ?_ ?_
 ·obtain⟨o,b⟩:∃o,(aF Tryz.f3 2)[28]?=some o:=⟨_,B2⟩;obtain rfl:=iE b;obtain⟨dW,er,fx⟩:=c.all;unfold eY at H;clear M Z u S c h hF f D g ye Q N s JI J Ox l jB Y X P hsz hd;refine EF b rfl rfl (w1:=e) ?_ ⟨rfl,rfl⟩;rw[B];clear B;go_simp
 rintro cG w3 ⟨rfl,rfl⟩;exact⟨rfl,t6 (cn (om ⟨JI,M,D.trans (u.mono Dy)⟩))⟩
end
variable {w1:World}{x y:Int}{a_ iw:List br}{aq:Array Bool}{v:Value}
section
variable {n0:Nat}
theorem awG(es:List (List cd)):gR n0 (OS es):=by
 rintro ρ w w' v o i g ⟨b,rfl,h⟩;obtain⟨p,rfl,k⟩:=B0 g;cases k with
 |cons f k=>cases k with
  |cons m k=>cases k with
   |cons l k=>cases k with
    |cons a k=>cases k with
     |cons e k=>cases k with
      |cons c k=>cases k with
       |cons d k=>cases k;obtain⟨n,j,-⟩:=B1 a;subst j;rw[jJ f,jJ m,jJ l,pg e,pg c,pg d];exact⟨n,rfl,az.bd.cw yH i.cells a h⟩
def O3:Value:=.agg (eY 1 (.slice none 0 0))
theorem awH:gR n0 (cy O3):=fun _ _ _ _ _ _ f h=>by
 cases h;obtain⟨j,rfl,k⟩:=B0 f;cases k with
 |cons d k=>cases k with
  |cons i k=>cases k with
   |cons g k=>cases k with
    |cons e k=>cases k with
     |cons c k=>cases k with
      |cons a k=>cases k with
       |cons b k=>cases k;rw[jJ d,jJ i,jJ g,pg e,pg c,pg a,pg b];rfl
def U3(n0:Nat)(w:World)(v:Value):Prop:=∃b,v=.pointer (some ⟨b,0,none⟩)/\n0<=b/\af w b #[.slice none 0 0] 27
theorem awI:gR n0 (U3 n0):=by rintro ρ w w' v i a e ⟨b,rfl,f,h⟩;obtain⟨g,rfl,r⟩:=y3 e;obtain⟨j,c,k⟩:=G2 a r h;cases k with|cons d k=>cases k;rw[pg d]at c;exact⟨g,rfl,a.new _ _ r f,c⟩
theorem awJ:kC (U3 n0):=fun _ _ _ a⟨b,e,d,c⟩=>⟨b,e,d,c.call a⟩
theorem awK(t:List br):kC (Cb t):=fun _ _ _ a⟨a9,e,h⟩=>⟨a9,e,h.kept (wO a)⟩
def y7:List (Nat×Nat):=[(0,54),(1,55),(2,56),(3,57),(4,58),(5,59),(10,7)]
def wQ:List (Nat×Nat):=[(6,60),(7,53),(8,61),(9,62),(11,7),(12,8)]
def EN(n0:Nat)(x y:Int)(a_ iw:List br)(j:Nat):World->Value->Prop:=
 match j with
 |0=>cy (.agg #[.int .i64 x,.int .i64 y])
 |1=>vC a_
 |2=>kz a_
 |3=>cy O3
 |4=>OS kB
 |5=>kA kB
 |6=>Cb iw
 |7=>Cb iw
 |8=>vC iw
 |9=>cy (.bool true)
 |10=>U3 n0
 |11=>lK n0 iw
 | _=>cy (.bool true)
theorem aek(x y:Int)(a_ iw:List br)(j:Nat):gR n0 (EN n0 x y a_ iw j):=by unfold EN;split<;>first|exact acB _ _ |exact T0 _ |exact OO _ |exact Ak _ |exact awH|exact awG _ |exact Al _ |exact adY _ |exact awI|exact EG _
theorem ael(x y:Int)(a_ iw:List br)(j:Nat):kC (EN n0 x y a_ iw j):=by unfold EN;split<;>first|exact kC.eq _ |exact adS _ |exact UV _ |exact ad3 _ |exact UW _ |exact awK _ |exact awJ|exact At _
structure Aw(n0:Nat)(x y:Int)(a_ iw:List br)(aq:Array Bool)(a:Act)(w:World):Prop where
 len:aq.size=13
 cl:aq.getD 11 false=true->∀j,j<=8\/j=10->aq.getD j false=true
 ap:aq.getD 11 false=false->d0 308 [(3,wP x y),(6,KR n0)] a w/\nT y7 (EN n0 x y a_ iw) aq a w
 b0:d0 308 [(5,lK n0 a_)] a w
 b1:nT wQ (EN n0 x y a_ iw) aq a w
theorem awL(x y:Int)(a_ iw:List br)(aq:Array Bool):vl n0 (Aw n0 x y a_ iw aq):=by
 intro ρ a a' w w' b c h;refine⟨h.len,h.cl,fun hl=>⟨j_ (fun p d=>?_) _ _ _ _ _ b c (h.ap hl).1,nT.vB (aek _ _ _ _) _ _ _ _ _ b c (h.ap hl).2⟩,j_ (fun p d=>?_) _ _ _ _ _ b c h.b0,nT.vB (aek _ _ _ _) _ _ _ _ _ b c h.b1⟩
 ·simp at d;grind[U2,aeg]
 simp_all[EG]
theorem Aw.EO(h:Aw n0 x y a_ iw aq a w){i:Nat}(hi:i<=8\/i=10)(b:aq.getD i false=false):aq.getD 11 false=false:=by cases c:aq.getD 11 false with|false=>rfl|true=>rw[h.cl c i hi]at b;grind
theorem Aw.put(h:Aw n0 x y a_ iw aq a w){i s:Nat}(hi:i<13)(o:(y7++wQ).all (fun q=>(q.1 != i||q.2==s)&&(q.1==i||q.2 != s||(q.1==11&&i==10)))=true)(g:(s != 3&&s != 5&&s != 6&&decide (s<308)&&i != 11)=true)(n:aq.getD i false=false)(c:Below w.heap.size w w1)(l:EN n0 x y a_ iw i w1 v):Aw n0 x y a_ iw (aq.setIfInBounds i true) (a.put (some s) v) w1:=by
 simp at g;obtain⟨⟨⟨⟨E,fX⟩,D⟩,z⟩,i11⟩:=g;have b:i<aq.size:=by rw[h.len];exact hi
 have hsz:a.tmps.size=308:=h.b0.1;have B:∀r∈y7++wQ,(r.1=i->r.2=s)/\(r.1≠i->r.2=s->aq.getD r.1 false=false):=by
  intro r m;have:=List.all_eq_true.1 o r m;simp only[Bool.and_eq_true,Bool.or_eq_true,bne_iff_ne,ne_eq,beq_iff_eq]at this;refine⟨AU,fun e C=>?_⟩;rcases this.2 with(f|f)|⟨f,u⟩
  ·grind
  ·grind
  ·rw[f];exact h.EO (i:=i) (.inr u) n
 have A:(aq.setIfInBounds i true).getD 11 false=true↔aq.getD 11 false=true:=⟨fun k=>((pG b).1 k).resolve_left AU,fun k=>(pG b).2 (.inr k)⟩;refine⟨DS,fun k j t=>(pG b).2 (.inr (h.cl (A.1 k) j t)),fun k=>?_,?_,?_⟩
 ·have hl:aq.getD 11 false=false:=by grind
  refine⟨(h.ap hl).1.put (fun p d=>?_) c (fun p d=>?_),(h.ap hl).2.put b (ael _ _ _ _) c AU AU AU l⟩
  ·simp at d;grind[U0,awq]
  grind
 ·refine h.b0.put (fun p d=>?_) c (fun p d=>?_)
  ·simp_all[At]
  grind
 ·exact h.b1.put b (ael _ _ _ _) c AU AU (fun r m=>AU) l
theorem awM(x y:Int)(a_ iw:List br)(J8:0<a_.length)(aq:Array Bool)(a:Act)(W:World)(i:Nat)(o:Oper)(h:Aw n0 x y a_ iw aq a W)(hd:a.defers=[])(I:n0<=W.heap.size)(X:i≠6)(iH:aq.getD i true=false)(m:(aF Tryz.f3 3)[i]?=some o)(w:∀e∈o.after,Region.binds .any e=true->aq.getD e.on false=true):
 wpOps (ai prog true) (aF Tryz.f3 3) (ii fun a1 w1=>a1.defers=[]/\Aw n0 x y a_ iw (aq.setIfInBounds i true) a1 w1/\Below n0 W w1) [i] a W:=by
 have hi:i<13:=by have:(aF Tryz.f3 3).size=13:=AS;grind
 have R:i<aq.size:=AU;have g:aq.getD i false=false:=by grind
 have n:=ju m;have t:∀(s:Nat)(u:Value),(a.put (some s) u).defers=[]:=fun s u=>C8;match i,hi with
 |0,_=>obtain rfl:=Option.some.inj n;obtain⟨C,A,D⟩:=(h.ap (h.EO Ay g)).1.2 (3,wP x y) Aa;have A:a.tmps[3]?=some C:=A;obtain⟨b,rfl,cu⟩:=D;obtain⟨O,N,M⟩:=cu.all;exact eG m rfl rfl (v:=.agg #[.int .i64 x,.int .i64 y]) (w1:=W) BD ⟨t _ _,h.put AW AW AW g (Below.refl _ _) rfl,(Below.refl _ _)⟩
 |1,_=>obtain rfl:=Option.some.inj n;obtain⟨C,A,D⟩:=h.b0.2 (5,lK n0 a_) Aa;have A:a.tmps[5]?=some C:=A;obtain⟨b,a9,rfl,-,cu,q⟩:=D;obtain⟨O,N,M⟩:=cu.all;exact eG m rfl rfl (v:=.agg #[a9]) (w1:=W) BD ⟨t _ _,h.put AW AW AW g (Below.refl _ _) ⟨a9,rfl,q⟩,(Below.refl _ _)⟩
 |2,_=>obtain rfl:=Option.some.inj n;obtain⟨l,d,rd⟩:=(h.ap (h.EO Ay g)).2 (1,55) HF (w ⟨1,.data⟩ Aa rfl);have d:a.tmps[55]?=some l:=d;obtain⟨a9,rfl,q⟩:=rd;obtain⟨⟨J,z,rfl,-,-⟩,-⟩:=id q;have B:Hid _:=q;clear q;exact eG m rfl rfl (v:=.slice (some ⟨W.heap.size,0,none⟩) 1 1) (w1:=W.alloc (.cells #[.slice J a_.length z] 27)) BD ⟨t _ _,h.put AW AW AW g ((Below.refl _ W).alloc Jr _) ⟨W.heap.size,0,1,_,rfl,kH (World.alloc_heap_new W _) rfl rfl,(iB.kept (wO ((Below.refl _ W).alloc Jr _)) B.out).bw⟩,((Below.refl _ W).alloc I _)⟩
 |3,_=>obtain rfl:=Option.some.inj n;refine p9 m rfl rfl (f:=8) (args:=#[.int .i64 0]) BD ((avx 0 W).mono ?_);rintro e w' ⟨rfl,S⟩;exact⟨_,rfl,t _ _,h.put AW AW AW g S rfl,S.mono I⟩
 |4,_=>obtain rfl:=Option.some.inj n;obtain⟨C,A,D⟩:=(h.ap (h.EO Ay g)).1.2 (6,KR n0) Aa;have A:a.tmps[6]?=some C:=A;obtain⟨b,V,rfl,-,cu,q⟩:=D;unfold eY at cu;obtain⟨O,N,M⟩:=cu.all;have B:Hid _:=q;clear q;exact eG m rfl rfl (v:=.agg (eY 3 (.slice (some ⟨V,0,none⟩) 7 7))) (w1:=W) (by unfold eY;go_simp) ⟨t _ _,h.put AW AW AW g (Below.refl _ _) ⟨V,rfl,B.out⟩,(Below.refl _ _)⟩
 |5,_=>
  obtain rfl:=Option.some.inj n;obtain⟨z,ec,rc⟩:=(h.ap (h.EO Ay g)).2 (3,57) HF (w ⟨3,.data⟩ Aa rfl);have ec:a.tmps[57]?=some z:=ec;obtain⟨l,d,rd⟩:=(h.ap (h.EO Ay g)).2 (4,58) HF (w ⟨4,.data⟩ Aa rfl);have d:a.tmps[58]?=some l:=d;obtain rfl:z=O3:=rc;obtain⟨b,rfl,q⟩:=rd;have B:Hid _:=q;clear q;unfold O3 eY at *;refine eG m rfl rfl (v:=.slice (some ⟨W.heap.size,0,none⟩) 2 2) (w1:=W.alloc (.cells #[.int .i64 1,.int .i64 0,.int .i64 0,.slice none 0 0,.slice none 0 0,.slice none 0 0,.slice none 0 0,.int .i64 3,.int .i64 0,.int .i64 0,.slice (some ⟨b,0,none⟩) 7 7,.slice none 0 0,.slice none 0 0,.slice none 0 0] 37)) (by go_simp;rfl) ⟨t _ _,h.put AW AW AW g ((Below.refl _ W).alloc Jr _) ?_,(Below.refl _ W).alloc I _⟩;have cV:=af.new W #[.int .i64 1,.int .i64 0,.int .i64 0,.slice none 0 0,.slice none 0 0,.slice none 0 0,.slice none 0 0,.int .i64 3,.int .i64 0,.int .i64 0,.slice (some ⟨b,0,none⟩) 7 7,.slice none 0 0,.slice none 0 0,.slice none 0 0] 37;refine⟨W.heap.size,0,2,some ⟨b,0,none⟩,7,rfl,fun j u L=>?_,fun j u L=>?_,bd.mono ns (bC.cW ((Below.refl _ W).alloc Jr _)) B.out⟩
  ·rw[cV.bT.1];grind[eY]
  ·rw[cV.bT.1];grind[eY]
 |6,_=>exact absurd rfl X
 |7,_=>obtain rfl:=Option.some.inj n;obtain⟨l,d,rd⟩:=h.b1 (6,60) HK (w ⟨6,.data⟩ Aa rfl);have d:a.tmps[60]?=some l:=d;exact eG m rfl rfl (v:=l) (w1:=W) BD ⟨t _ _,h.put AW AW AW g (Below.refl _ _) rd,(Below.refl _ _)⟩
 |8,_=>obtain rfl:=Option.some.inj n;obtain⟨l,d,rd⟩:=h.b1 (7,53) HK (w ⟨7,.data⟩ Aa rfl);have d:a.tmps[53]?=some l:=d;obtain⟨a9,rfl,r1⟩:=rd;exact eG m rfl rfl (v:=.agg #[a9]) (w1:=W) BD ⟨t _ _,h.put AW AW AW g (Below.refl _ _) ⟨a9,rfl,r1⟩,(Below.refl _ _)⟩
 |9,_=>obtain rfl:=Option.some.inj n;obtain⟨l,d,rd⟩:=h.b1 (7,53) HK (w ⟨7,.data⟩ Aa rfl);have d:a.tmps[53]?=some l:=d;obtain⟨a9,rfl,r1⟩:=rd;exact eG m rfl rfl (v:=.bool true) (w1:=W) BD ⟨t _ _,h.put AW AW AW g (Below.refl _ _) rfl,(Below.refl _ _)⟩
 |10,_=>obtain rfl:=Option.some.inj n;exact eG m rfl rfl (v:=.pointer (some ⟨W.heap.size,0,none⟩)) (w1:=W.alloc (.cells #[.slice none 0 0] 27)) BD ⟨t _ _,h.put AW AW AW g ((Below.refl _ W).alloc Jr _) ⟨W.heap.size,rfl,I,af.new W _ _⟩,((Below.refl _ W).alloc I _)⟩
 |11,_=>
  obtain rfl:=Option.some.inj n;obtain⟨l,d,rd⟩:=(h.ap g).2 (10,7) HF (w ⟨10,.data⟩ Aa rfl);have d:a.tmps[7]?=some l:=d;obtain⟨z,ec,rc⟩:=h.b1 (8,61) HK (w ⟨8,.data⟩ Aa rfl);have ec:a.tmps[61]?=some z:=ec;obtain⟨b,rfl,Q,H⟩:=rd;obtain⟨a9,rfl,r1⟩:=rc;obtain⟨⟨J,z,rfl,-,-⟩,-⟩:=id r1;obtain⟨O,N,M⟩:=H.all;have B:Hid _:=r1;clear r1;have all:∀j,j<=8\/j=10->aq.getD j false=true:=by intro j L;have:j=0\/j=1\/j=2\/j=3\/j=4\/j=5\/j=6\/j=7\/j=8\/j=10:=Ay;rcases this with rfl|rfl|rfl|rfl|rfl|rfl|rfl|rfl|rfl|rfl<;>exact w ⟨_,.phase⟩ Aa rfl
  have E:eT jU W (W.setCell ⟨b,0,none⟩ (.slice J iw.length z)):=eT.set H Dr _ _;refine EF m rfl rfl (w1:=W.setCell ⟨b,0,none⟩ (.slice J iw.length z)) BD ⟨hd,⟨DS,fun _ j L=>(pG R).2 AU,fun k=>?_,?_,?_⟩,(Below.refl _ W).setCell (p:=⟨b,0,none⟩) Q _⟩
  ·simp_all
  ·refine⟨h.b0.1,fun p U=>?_⟩;simp at U;subst U;obtain⟨v,Y,aO,Gc,rfl,Z,P,T⟩:=h.b0.2 (5,lK n0 a_) Aa;have K:aO≠b:=fun e=>by subst e;unfold af at P H;rw[P]at H;obtain⟨⟨bL,cap,rfl,-,-⟩,-⟩:=T;grind
   exact⟨_,Y,aO,Gc,rfl,Z,P.fu K _,T.kept E⟩
  ·refine h.b1.store R (fun r F v hl k=>?_) (fun r F e=>?_)
   ·simp[wQ]at F;rcases F with rfl|rfl|rfl|rfl|rfl|rfl
    ·obtain⟨c,e,k⟩:=k;exact⟨c,e,k.kept E⟩
    ·obtain⟨c,e,k⟩:=k;exact⟨c,e,k.kept E⟩
    ·obtain⟨c,e,k⟩:=k;exact⟨c,e,k.kept E⟩
    ·exact k
    ·grind
    ·exact k
   ·simp[wQ]at F;rcases F with rfl|rfl|rfl|rfl|rfl|rfl<;>first|(exact absurd e AW)|skip
    exact⟨_,d,b,_,rfl,Q,H.set 0 _,iB.kept E B.out⟩
 |12,_=>obtain rfl:=Option.some.inj n;obtain⟨l,d,rd⟩:=h.b1 (9,62) HK (w ⟨9,.data⟩ Aa rfl);have d:a.tmps[62]?=some l:=d;obtain rfl:l=.bool true:=rd;exact eG m rfl rfl (v:=.bool true) (w1:=W) BD ⟨t _ _,h.put AW AW AW g (Below.refl _ _) rfl,(Below.refl _ _)⟩
end
section
open nG
variable {O:jW}
variable {n0:Nat}
theorem awS:i6 prog true Tryz.f3=true:=by decide+kernel
theorem U5:mz prog 3:=Bw func3 awS rfl
def sR(v0 v24:Option Value)(n:Nat):gp:=⟨fun i=>i==0||i==24,fun i=>i==0||i==24,fun i=>if i=0 then v0 else v24,fun _=>false,n⟩
theorem U6(v0 v24:Option Value)(n:Nat){l:List Item}(h:l.all (iP (sR none none 0))=true):l.all (iP (sR v0 v24 n))=true:=(aen (D:=sR v0 v24 n) (D':=sR none none 0) rfl rfl rfl l).trans h
theorem U7(v0 v24:Option Value)(n:Nat):DN prog (sR v0 v24 n) 3:=by
 refine⟨⟨_,func3,?_⟩,fun t h=>?_,Bp⟩
 ·rw[results3];simp[DJ,sR]
 ·cases h
theorem follows:prog.follows .rangeFuncRecover=true:=by decide+kernel
theorem awT(v0 v24:Option Value):O4 prog 3 (aF Tryz.f3 3) [.code (dR Tryz.f3 3)] (sR v0 v24):=
 ⟨fun _=>rfl,U7 v0 v24,fun n=>by rw[U4 (D:=sR v0 v24 n) (D':=sR none none 0) rfl rfl rfl];decide+kernel,fun n=>U6 v0 v24 n AS,fun n i h=>h,follows,fun _ _ _=>⟨rfl,rfl,rfl⟩⟩
def ux(n0:Nat)(a_ iw:List br):List (Nat×(World->Value->Prop)):=[(5,lK n0 a_),(7,lK n0 iw),(8,cy (.bool true))]
theorem awU(a_ iw:List br):∀p∈ux n0 a_ iw,gR n0 p.2:=by intro p a;simp[ux]at a;grind[EG,T0]
theorem awV{Post:Value->World->Prop}{n:Nat}{Shun:Loc->Prop}{bt M:Nat->Prop}{w0:World}{b:Act}{v0 v24:Option Value}{cs:List Frame}(V:jX (sR v0 v24 cs.length) a b)(H:Held O prog bt w0 n0 a M w Shun)(Y:hM x)(X:hM y){l1:List (Int×Int)}{S:Nat}{outs:Nat->List bU}(F:KH a_ kB l1 S outs)(hs:d0 308 [(3,wP x y),(25,vC a_)] a w)(aj:n+32<=200)
 (d_:∀a' P M' w' E N,E<=n+32->Held O prog bt w0 n0 a' M' w' N->jX (sR v0 v24 cs.length) a' P->d0 308 (ux n0 a_ (pj a_ l1 S outs)) a' w'->cp prog Post E N 0 (bb ((base 3).at P [.inRegion (aF Tryz.f3 3) [],.code (dR Tryz.f3 3)]) cs) w'):
 cp prog Post n Shun 0 (bb ((base 3).at b [.inRegion (aF Tryz.f3 1) [2,3],.code (dR Tryz.f3 1)]) cs) w:=by
 refine EP fA follows U5 rfl (U7 v0 v24 _) V (U6 v0 v24 _ AS) H (k:=[.inRegion (aF Tryz.f3 1) [2,3],.code (dR Tryz.f3 1)]) (k':=[.code (.region 3 (aF Tryz.f3 3) true),.code (dR Tryz.f3 3)]) AS AS (I:=d0 308 [(3,wP x y),(25,vC a_)]) (J:=d0 308 (Ch n0 x y a_)) (j_ fun p c=>?_) (j_ (awr _ _ _)) hs (fun W hW hI=>aws x y a_ a W hW H.defers hI) ?_
 ·simp at c;grind[U2,OO]
 intro a1 b1 dE w1 H1 U8 e;obtain⟨o,L⟩:∃o,(aF Tryz.f3 3)[6]?=some o:=⟨_,B2⟩;obtain rfl:=iE L;have q:(aF Tryz.f3 3).size=13:=AS;refine awO fA N_ U5 (awT v0 v24) AS 6 L rfl func7 BB rfl rfl (fun n=>?_) (d:=2) aj (I:=Aw n0 x y a_ (pj a_ l1 S outs)) (awL _ _ _ _) (dt:=60) rfl (fun aq a w h=>by rw[h.b0.1];decide) (oo:=Cb (pj a_ l1 S outs)) (fun aq a w h=>h.len.trans q.symm) U8 H1 ?_ (awM x y a_ _ F.h0) (fun aq a R m D f h t g=>?_) (fun aq a m u h t g Z=>?_) (fun aq a b2 R m gj D h hr T f O5=>?_)
 ·simp[nG.jf,sR,Op.operands,Call.operands,zU,Na]
 ·rw[q];refine⟨Aa,fun k=>?_,fun _=>⟨⟨e.1,fun p c=>?_⟩,fun r _ k=>?_⟩,⟨e.1,fun p c=>e.2 p ?_⟩,fun r _ k=>?_⟩
  ·simp_all
  ·simp at c;rcases c with rfl|rfl<;>exact e.2 _ (by simp[Ch])
  ·grind[OR]
  ·simp_all[Ch]
  grind[OR]
 ·have v:=(h.ap (h.EO Ay t)).2;obtain⟨U,Q,UK⟩:=v (0,54) HF (g ⟨0,.data⟩ Aa rfl);obtain⟨s,j,B⟩:=v (2,56) HF (g ⟨2,.data⟩ Aa rfl);obtain⟨C,i,A⟩:=v (5,59) HF (g ⟨5,.data⟩ Aa rfl);obtain rfl:U=.agg #[.int .i64 x,.int .i64 y]:=UK;have Q:a.tmps[54]?=some (.agg #[.int .i64 x,.int .i64 y]):=Q;have j:a.tmps[56]?=some s:=j;have i:a.tmps[59]?=some C:=i;have he:(#[Operand.tmp 54,.tmp 56,.tmp 59].map a.eval)=#[.agg #[.int .i64 x,.int .i64 y],s,C]:=Gl;rw[he];refine awc ?_ F B A Y X;refine iA (l:=[s,C]) fun z K=>?_;simp at K;rcases K with rfl|rfl
  ·exact f.all.get _ _ _ j j
  ·exact f.all.get _ _ _ i i
 ·exact h.put AW AW AW t (Below.refl _ _) Z
 ·have hdone:=Jj AS (h.len.trans q.symm) hr;refine d_ a b2 R m gj D T f O5 ⟨h.b0.1,fun p c=>?_⟩;simp[ux]at c;rcases c with rfl|rfl|rfl
  ·exact h.b0.2 _ Aa
  ·exact h.b1 (11,7) HK AU
  ·exact h.b1 (12,8) HK AU
end
variable {Q:Exit->Act->World->Prop}
theorem awZ{R K:Act->World->Prop}{i:Nat}(h:wpOps P ops (ii R) [i] a w)(k:∀a w,R a w->K a w):wpOp P ops Q i K a w:=by
 rw[wpOps_cons]at h;have h:=wpOp_mono (K':=R) (fun a w(m:wpOps P ops (ii R) [] a w)=>m.2) h;unfold wpOp at h⊢;cases l:ops[i]? with
 |none=>grind
 |some o=>
  simp[l]at h⊢;by_cases j:Region.wanted o (yielded ops a.tmps)=true
  ·simp[j]at h⊢;rcases h with h|⟨-,p,n,b⟩
   ·refine .inl ?_;simp[Oper.wp,Oper.upon]at h⊢;generalize(execOp a.eval o).run P w=r at h⊢;cases r with
    |ok x w'=>
     cases x with
     |value v=>grind
     |skip=>grind
     |defer d=>grind
     |enter f args=>refine Calls.mono h ?_;intro e q g;cases e with|returned v=>grind|panicked c=>cases g.1|outgrown=>obtain⟨p,n,b⟩:=g;cases b.1
     |row r args=>grind[Rows.mono]
     | _=>exact h.elim
    |halt x w'=>cases x<;>first|exact h.elim|(cases h.1)
   ·cases b.1
  grind
structure Ci(N m:Nat)(sl:Nat->Nat)(V:Nat->Value)(ap:Act)(gg:World)(aq:Array Bool)(a:Act)(w:World):Prop where
 len:aq.size=m
 size:a.tmps.size=N
 defers:a.defers=[]
 lL:Below gg.heap.size gg w
 base:∀s,(∀j,j<m->s≠sl j)->a.tmps[s]?=ap.tmps[s]?
 val:∀j,j<m->aq.getD j false=true->a.tmps[sl j]?=some (V j)
variable {ap:Act}{gg:World}
theorem Ci.put{N m:Nat}{sl:Nat->Nat}{V:Nat->Value}(h:Ci N m sl V ap gg aq a w)(k:∀i j,i<m->j<m->sl i=sl j->i=j)(cj:∀j,j<m->sl j<N){j:Nat}(d:j<m)(g:Below w.heap.size w w1):Ci N m sl V ap gg (aq.setIfInBounds j true) (a.put (some (sl j)) (V j)) w1:=by
 refine⟨by simp[h.len],Hq,FI,h.lL.trans (g.mono h.lL.size),fun s c=>?_,fun i hi hl=>?_⟩
 ·rw[<-h.base s c];simp[Act.put,Array.getElem?_setIfInBounds,Ne.symm (c j d)]
 ·by_cases e:i=j
  ·subst e;simp[Act.put,h.size,cj i hi]
  ·have f:=((pG (by rw[h.len];exact d)).1 hl).resolve_left e;have b:sl j≠sl i:=AU;simp[Act.put,b];exact h.val i hi f
theorem EQ{id N m:Nat}{sl:Nat->Nat}{V:Nat->Value}(l:P.follows .mixedOrders=true)(d:ops.size=m)(u:(List.range ops.size).all (fun j=>match ops[j]? with|some o=>o.after.all fun e=> !Region.binds .any e||decide (e.on<j)|none=>true)=true)(v:∀i j,i<m->j<m->sl i=sl j->i=j)(cj:∀j,j<m->sl j<N)(hsz:ap.tmps.size=N)(hd:ap.defers=[])
 (hstep:∀aq a w j o,Ci N m sl V ap gg aq a w->j<m->aq.getD j false=false->ops[j]?=some o->(∀e∈o.after,Region.binds .any e=true->aq.getD e.on false=true)->wpOps P ops (ii fun a1 w1=>a1=a.put (some (sl j)) (V j)/\Below w.heap.size w w1) [j] a w)
 (f:∀a w,a.tmps.size=N->a.defers=[]->Below gg.heap.size gg w->(∀s,(∀j,j<m->s≠sl j)->a.tmps[s]?=ap.tmps[s]?)->(∀j,j<m->a.tmps[sl j]?=some (V j))->Q .normal a w):(Code.region id ops true).wp P Q ap gg:=by
 refine wp_region_any l ?_;have gt:∀aq a w,Ci N m sl V ap gg aq a w->Region.ready .any ops aq=[]->Q .normal a w:=fun aq a w h b=>by have:=Jj u (h.len.trans d.symm) b;exact f a w h.size h.defers h.lL h.base fun j n=>h.val j n AU
 have key:∀(fuel:Nat)(aq:Array Bool)(a:Act)(w:World),aq.toList.count false<=fuel->Ci N m sl V ap gg aq a w->wpAny P .any ops Q fuel aq a w:=by
  intro fuel;induction fuel with
  |zero=>
   intro aq a w p h;have b:Region.ready .any ops aq=[]:=by cases b:Region.ready .any ops aq with|nil=>rfl|cons x xs=>have y:x∈Region.ready .any ops aq:=AU;grind[count_set,mem_ready]
   exact⟨b,gt aq a w h b⟩
  |succ fuel g=>
   intro aq a w p h;refine⟨AU,fun i hi=>?_⟩;obtain⟨z,o,t,r⟩:=mem_ready.1 hi;have c:i<m:=AU;have k:aq.getD i false=false:=by grind
   refine awZ (hstep aq a w i o h c k t r) ?_;rintro a1 w1 ⟨rfl,q⟩;exact g _ _ _ (by grind[count_set]) (h.put v cj c q)
 refine key _ _ _ _ Aa ⟨AU,hsz,hd,⟨rfl,rfl,rfl,Nat.le_refl _,fun _ _=>rfl⟩,fun _ _=>rfl,fun j _ hl=>?_⟩;simp_all
variable {o:Oper}
theorem fN{Q:Act->World->Prop}{i:Nat}(d:ops[i]?=some o)(b:Region.wanted o (yielded ops a.tmps)=true){s:Nat}(hd:o.dst=some s)(c:(execOp a.eval o).run P w=.ok (.value v) w1)(h:Q (a.put (some s) v) w1):wpOps P ops (ii Q) [i] a w:=by simp[wpOps,d,b];refine .inl ?_;simp[Oper.wp,Oper.upon,c,hd];exact⟨rfl,h⟩
theorem ER{Q:Act->World->Prop}{i:Nat}(d:ops[i]?=some o)(b:Region.wanted o (yielded ops a.tmps)=true){s:Nat}(hd:o.dst=some s){f:FuncId}{args:Array Value}(c:(execOp a.eval o).run P w=.ok (.enter f args) w)(h:Calls P f args w fun e w'=>∃v,e=.returned v/\Q (a.put (some s) v) w'):wpOps P ops (ii Q) [i] a w:=by simp[wpOps,d,b];refine .inl ?_;simp[Oper.wp,Oper.upon,c,hd];refine h.mono ?_;rintro e w' ⟨v,rfl,h⟩;exact⟨rfl,h⟩
theorem y8{Q:Act->World->Prop}{i:Nat}(c:ops[i]?=some o)(b:Region.wanted o (yielded ops a.tmps)=false){s:Nat}(hd:o.dst=some s)(h:Q (a.put (some s) undef) w):wpOps P ops (ii Q) [i] a w:=by simp[wpOps,c,b,hd];exact⟨rfl,h⟩
theorem vE{tmps:Array Value}{g d:Nat}{b c:Bool}(a:o.guard=some (g,b))(hd:(ops[g]?).bind (·.dst)=some d)(ht:tmps[d]?=some (.bool c)):Region.wanted o (yielded ops tmps)=(c==b):=by grind[Region.wanted,yielded]
theorem Ci.guard{N m:Nat}{sl:Nat->Nat}{V:Nat->Value}(h:Ci N m sl V ap gg aq a w){g:Nat}{b c:Bool}(e:o.guard=some (g,b))(hl:aq.getD g false=true)(d:g<m)(hd:(ops[g]?).bind (·.dst)=some (sl g))(f:V g=.bool c):Region.wanted o (yielded ops a.tmps)=(c==b):=
 vE e hd ((h.val g d hl).trans AU)
variable {W:World}
section
def U9(bK aO bH o2 c1 o1 bs os eS si i:Nat)(s:ByteArray)(t2 t1 vs ea:Value)(j:Nat):Value:=
 match j with
 |0=>.pointer (some ⟨bK,0,none⟩)
 |1=>t2
 |2=>.pointer (some ⟨bH,o2+30,none⟩)
 |3=>.pointer (some ⟨bH,o2+30+3,none⟩)
 |4=>vs
 |5=>.int .i64 i
 |6=>.pointer (some ⟨bs,os+i,none⟩)
 |7=>.string s
 |8=>.pointer (some ⟨aO,0,none⟩)
 |9=>t1
 |10=>.pointer (some ⟨c1,o1+15,none⟩)
 |11=>.pointer (some ⟨c1,o1+15+3,none⟩)
 |12=>ea
 |13=>.int .i64 i
 |14=>.pointer (some ⟨eS,si+i,none⟩)
 |15=>.string s
 | _=>.bool false
attribute [local go_sem] U9
theorem aw0(k aO bH c c1 d bs os e b S i l q n ct:Nat)(s:ByteArray)(hi:i<S)(ap:Act)(W:World)(hsz:ap.tmps.size=308)(hd:ap.defers=[])(fO:ap.tmps[13]?=some (.int .i64 i))(fX:ap.tmps[5]?=some (.pointer (some ⟨aO,0,none⟩)))(r4:ap.tmps[7]?=some (.pointer (some ⟨k,0,none⟩)))
 (x:W.cell? ⟨k,0,none⟩=some (.slice (some ⟨bH,c,none⟩) 7 l)) (y:W.cell? ⟨aO,0,none⟩=some (.slice (some ⟨c1,d,none⟩) 4 q)) (u:W.cell? ⟨bH,c+30+3,none⟩=some (.slice (some ⟨bs,os,none⟩) S n)) (t:W.cell? ⟨c1,d+15+3,none⟩=some (.slice (some ⟨e,b,none⟩) S ct)) (z:W.cell? ⟨bs,os+i,none⟩=some (.string s)) (r:W.cell? ⟨e,b+i,none⟩=some (.string s)):
 (Code.region 31 (aF Tryz.f3 31) true).wp (ai prog true) (ii fun a' w'=>a'.tmps.size=308/\a'.defers=[]/\(∀s,s<291->a'.tmps[s]?=ap.tmps[s]?)/\a'.tmps[307]?=some (.bool false)/\Below W.heap.size W w') ap W:=by
 have Q:(0:Int)<=(i:Int):=Ay;have P:(i:Int)<(S:Int):=Ay;refine EQ (N:=308) (m:=17) (sl:=fun j=>291+j) (V:=U9 k aO bH c c1 d bs os e b i s (.slice (some ⟨bH,c,none⟩) 7 l) (.slice (some ⟨c1,d,none⟩) 4 q) (.slice (some ⟨bs,os,none⟩) S n) (.slice (some ⟨e,b,none⟩) S ct)) BB AS AS AU AU hsz hd ?_ ?_
 ·intro aq a w j o h A O g p;have E:=ju g;have f:=bC.cW h.lL;have H:=(h.base 7 AU).trans r4;have T:=f _ _ _ x;have M:=f _ _ _ u;have F:=(h.base 13 AU).trans fO;have I:=f _ _ _ z;have J:=(h.base 5 AU).trans fX;have L:=f _ _ _ y;have K:=f _ _ _ t;have U:=f _ _ _ r;have v:∀m,m<17->aq.getD m false=true->a.tmps[m+291]?=some (U9 k aO bH c c1 d bs os e b i s (.slice (some ⟨bH,c,none⟩) 7 l) (.slice (some ⟨c1,d,none⟩) 4 q) (.slice (some ⟨bs,os,none⟩) S n) (.slice (some ⟨e,b,none⟩) S ct) m):=fun m hi hl=>C7;match j,A with
  |0,_ |1,_ |2,_ |3,_ |4,_ |5,_ |6,_ |7,_ |8,_ |9,_ |10,_ |11,_ |12,_ |13,_ |14,_ |15,_ |16,_=>
   obtain rfl:=Option.some.inj E;first
    |exact y8 g ((h.guard rfl (p ⟨_,.guard⟩ Aa rfl) AW BB rfl).trans rfl) rfl ⟨rfl,Below.refl _ _⟩
    |have D:=p
     simp[Region.binds]at D;first
      |exact fN g KZ rfl (w1:=w) BD ⟨rfl,Below.refl _ _⟩
      |exact fN g ((h.guard rfl (p ⟨_,.guard⟩ Aa rfl) AW BB rfl).trans rfl) rfl (w1:=w) BD ⟨rfl,Below.refl _ _⟩
    |exact fN g KZ rfl (w1:=w) BD ⟨rfl,Below.refl _ _⟩
 ·intro a w hsz' C B R v;exact⟨rfl,hsz',C,AU,v 16 AW,B⟩
structure Pure(N:Nat)(sl:Nat->Nat)(V:Nat->Value)(ap:Act)(i:Nat)(a:Act):Prop where
 size:a.tmps.size=N
 defers:a.defers=[]
 base:∀s,(∀j,j<i->s≠sl j)->a.tmps[s]?=ap.tmps[s]?
 val:∀j,j<i->a.tmps[sl j]?=some (V j)
theorem mH{N m:Nat}{sl:Nat->Nat}{V:Nat->Value}{rest:List Nat}(l:∀i j,i<m->j<m->sl i=sl j->i=j)(cj:∀j,j<m->sl j<N)(hsz:ap.tmps.size=N)(hd:ap.defers=[])
 (hstep:∀a j,Pure N sl V ap j a->j<m->wpOps P ops (ii fun a1 w1=>a1=a.put (some (sl j)) (V j)/\w1=W) [j] a W)
 (k:∀a,Pure N sl V ap m a->wpOps P ops Q rest a W):wpOps P ops Q (List.range' 0 m++rest) ap W:=by
 have:=ad1 (P:=P) (ops:=ops) (Q:=Q) (I:=fun i a w=>Pure N sl V ap i a/\w=W) (m:=0) (n:=m) (rest:=rest) (Nat.zero_le _) (fun i _ hi a w h=>by
  obtain⟨h,rfl⟩:=h;have f:=hstep a i h hi;have:=mG (Q:=ii fun a w'=>Pure N sl V ap (i+1) a/\w'=w) (rest:=[]) f (fun a1 w1 d=>by
   obtain⟨rfl,rfl⟩:=d;refine⟨rfl,⟨Hq,FI,fun s c=>?_,fun j g=>?_⟩,rfl⟩
   ·rw[<-h.base s AU];simp[Act.put,Ne.symm (c i Ay)]
   ·by_cases e:j=i
    ·subst e;simp[Act.put,h.size,cj j hi]
    ·have b:sl i≠sl j:=AU;simp[Act.put,b];exact h.val j Ay)
  grind) AU (a:=ap) (W:=W) ⟨⟨hsz,hd,fun _ _=>rfl,AU⟩,rfl⟩
 grind
end
section
def tH(id:Nat):Code->Option (Array Oper)
 | .region i o _=>if i==id then some o else none
 | .seq x y=>match tH id x with|some c=>some c|none=>tH id y
 | .block _ c=>tH id c
 | .loop c=>tH id c
 | .cond _ x y=>match tH id x with|some c=>some c|none=>tH id y
 | _=>none
def iU(f:Func)(id:Nat):Array Oper:=(tH id (f.body.getD .skip)).getD #[]
def U_:Nat->Nat:=fun j=>[11].getD j 0
def Va(j:Nat):Value:=
 match j with
 | _=>.int .i64 0
attribute [local go_sem] Va
theorem aw4(ap:Act)(W:World)(hsz:ap.tmps.size=308)(hd:ap.defers=[]){rest:List Nat}(d:∀a,Pure 308 U_ (Va) ap 1 a->wpOps (ai prog true) (aF Tryz.f3 8) Q rest a W):wpOps (ai prog true) (aF Tryz.f3 8) Q (List.range' 0 1++rest) ap W:=by
 refine mH (N:=308) (sl:=U_) (V:=Va) AU (by decide+kernel:∀j,j<1->U_ j<308) hsz hd (fun a j h c=>?_) d;obtain⟨o,b⟩:∃o,(aF Tryz.f3 8)[j]?=some o:=by have:(aF Tryz.f3 8).size=1:=AS;simp_all
 have e:=ju b;match j,c with|0,_=>obtain rfl:=Option.some.inj e;exact fN b KZ rfl (w1:=W) BD ⟨rfl,rfl⟩
def Vb:Nat->Nat:=fun j=>[13].getD j 0
def Vd(j:Nat):Value:=
 match j with
 | _=>.int .i64 0
attribute [local go_sem] Vd
theorem aw5(ap:Act)(W:World)(hsz:ap.tmps.size=308)(hd:ap.defers=[]){rest:List Nat}(d:∀a,Pure 308 Vb (Vd) ap 1 a->wpOps (ai prog true) (aF Tryz.f3 14) Q rest a W):wpOps (ai prog true) (aF Tryz.f3 14) Q (List.range' 0 1++rest) ap W:=by
 refine mH (N:=308) (sl:=Vb) (V:=Vd) AU (by decide+kernel:∀j,j<1->Vb j<308) hsz hd (fun a j h c=>?_) d;obtain⟨o,b⟩:∃o,(aF Tryz.f3 14)[j]?=some o:=by have:(aF Tryz.f3 14).size=1:=AS;simp_all
 have e:=ju b;match j,c with|0,_=>obtain rfl:=Option.some.inj e;exact fN b KZ rfl (w1:=W) BD ⟨rfl,rfl⟩
def Ve:Nat->Nat:=fun j=>[22].getD j 0
def Vf(j:Nat):Value:=
 match j with
 | _=>.int .i64 0
attribute [local go_sem] Vf
theorem aw6(ap:Act)(W:World)(hsz:ap.tmps.size=308)(hd:ap.defers=[]){rest:List Nat}(d:∀a,Pure 308 Ve (Vf) ap 1 a->wpOps (ai prog true) (aF Tryz.f3 25) Q rest a W):wpOps (ai prog true) (aF Tryz.f3 25) Q (List.range' 0 1++rest) ap W:=by
 refine mH (N:=308) (sl:=Ve) (V:=Vf) AU (by decide+kernel:∀j,j<1->Ve j<308) hsz hd (fun a j h c=>?_) d;obtain⟨o,b⟩:∃o,(aF Tryz.f3 25)[j]?=some o:=by have:(aF Tryz.f3 25).size=1:=AS;simp_all
 have e:=ju b;match j,c with|0,_=>obtain rfl:=Option.some.inj e;exact fN b KZ rfl (w1:=W) BD ⟨rfl,rfl⟩
def Vg:Nat->Nat:=fun j=>[4].getD j 0
def Vh(j:Nat):Value:=
 match j with
 | _=>.bool true
attribute [local go_sem] Vh
theorem aw7(ap:Act)(W:World)(hsz:ap.tmps.size=308)(hd:ap.defers=[]){rest:List Nat}(d:∀a,Pure 308 Vg (Vh) ap 1 a->wpOps (ai prog true) (aF Tryz.f3 33) Q rest a W):wpOps (ai prog true) (aF Tryz.f3 33) Q (List.range' 0 1++rest) ap W:=by
 refine mH (N:=308) (sl:=Vg) (V:=Vh) AU (by decide+kernel:∀j,j<1->Vg j<308) hsz hd (fun a j h c=>?_) d;obtain⟨o,b⟩:∃o,(aF Tryz.f3 33)[j]?=some o:=by have:(aF Tryz.f3 33).size=1:=AS;simp_all
 have e:=ju b;match j,c with|0,_=>obtain rfl:=Option.some.inj e;exact fN b KZ rfl (w1:=W) BD ⟨rfl,rfl⟩
def vF:Nat->Nat:=fun j=>[80,81].getD j 0
def Vi(k:Nat)(j:Nat):Value:=
 match j with
 |0=>.int .i64 k
 | _=>.bool true
attribute [local go_sem] Vi
theorem aw8(k:Nat)(ap:Act)(W:World)(hsz:ap.tmps.size=308)(hd:ap.defers=[])(mI:ap.tmps[11]?=some (.int .i64 k))(l:(k:Int)<7){rest:List Nat}(d:∀a,Pure 308 vF (Vi k) ap 2 a->wpOps (ai prog true) (aF Tryz.f3 9) Q rest a W):wpOps (ai prog true) (aF Tryz.f3 9) Q (List.range' 0 2++rest) ap W:=by
 refine mH (N:=308) (sl:=vF) (V:=Vi k) (fun i j hi b e=>(by decide+kernel:∀i,i<2->∀j,j<2->vF i=vF j->i=j) i hi j b e) (by decide+kernel:∀j,j<2->vF j<308) hsz hd (fun a j h b=>?_) d;obtain⟨o,c⟩:∃o,(aF Tryz.f3 9)[j]?=some o:=by have:(aF Tryz.f3 9).size=2:=AS;simp_all
 have g:=ju c;have f:0<j->a.tmps[80]?=_:=h.val 0;match j,b with
 |0,_ |1,_=>
  obtain rfl:=Option.some.inj g;try have m:=(h.base 11 (by grind[vF])).trans mI
  exact fN c KZ rfl (w1:=W) BD ⟨rfl,rfl⟩
def Vj(k:Nat)(j:Nat):Value:=
 match j with
 |0=>.int .i64 k
 | _=>.bool false
attribute [local go_sem] Vj
theorem aw_(k:Nat)(ap:Act)(W:World)(hsz:ap.tmps.size=308)(hd:ap.defers=[])(mI:ap.tmps[11]?=some (.int .i64 k))(l:¬(k:Int)<7){rest:List Nat}(d:∀a,Pure 308 vF (Vj k) ap 2 a->wpOps (ai prog true) (aF Tryz.f3 9) Q rest a W):wpOps (ai prog true) (aF Tryz.f3 9) Q (List.range' 0 2++rest) ap W:=by
 refine mH (N:=308) (sl:=vF) (V:=Vj k) (fun i j hi b e=>(by decide+kernel:∀i,i<2->∀j,j<2->vF i=vF j->i=j) i hi j b e) (by decide+kernel:∀j,j<2->vF j<308) hsz hd (fun a j h b=>?_) d;obtain⟨o,c⟩:∃o,(aF Tryz.f3 9)[j]?=some o:=by have:(aF Tryz.f3 9).size=2:=AS;simp_all
 have g:=ju c;have f:0<j->a.tmps[80]?=_:=h.val 0;match j,b with
 |0,_ |1,_=>
  obtain rfl:=Option.some.inj g;try have m:=(h.base 11 (by grind[vF])).trans mI
  exact fN c KZ rfl (w1:=W) BD ⟨rfl,rfl⟩
def vG:Nat->Nat:=fun j=>[231,232].getD j 0
def Vk(k:Nat)(j:Nat):Value:=
 match j with
 |0=>.int .i64 k
 | _=>.bool true
attribute [local go_sem] Vk
theorem axa(k:Nat)(ap:Act)(W:World)(hsz:ap.tmps.size=308)(hd:ap.defers=[])(lq:ap.tmps[22]?=some (.int .i64 k))(l:(k:Int)<7){rest:List Nat}(d:∀a,Pure 308 vG (Vk k) ap 2 a->wpOps (ai prog true) (aF Tryz.f3 26) Q rest a W):wpOps (ai prog true) (aF Tryz.f3 26) Q (List.range' 0 2++rest) ap W:=by
 refine mH (N:=308) (sl:=vG) (V:=Vk k) (fun i j hi b e=>(by decide+kernel:∀i,i<2->∀j,j<2->vG i=vG j->i=j) i hi j b e) (by decide+kernel:∀j,j<2->vG j<308) hsz hd (fun a j h b=>?_) d;obtain⟨o,c⟩:∃o,(aF Tryz.f3 26)[j]?=some o:=by have:(aF Tryz.f3 26).size=2:=AS;simp_all
 have g:=ju c;have f:0<j->a.tmps[231]?=_:=h.val 0;match j,b with
 |0,_ |1,_=>
  obtain rfl:=Option.some.inj g;try have m:=(h.base 22 (by grind[vG])).trans lq
  exact fN c KZ rfl (w1:=W) BD ⟨rfl,rfl⟩
def Vl(k:Nat)(j:Nat):Value:=
 match j with
 |0=>.int .i64 k
 | _=>.bool false
attribute [local go_sem] Vl
theorem axc(k:Nat)(ap:Act)(W:World)(hsz:ap.tmps.size=308)(hd:ap.defers=[])(lq:ap.tmps[22]?=some (.int .i64 k))(l:¬(k:Int)<7){rest:List Nat}(d:∀a,Pure 308 vG (Vl k) ap 2 a->wpOps (ai prog true) (aF Tryz.f3 26) Q rest a W):wpOps (ai prog true) (aF Tryz.f3 26) Q (List.range' 0 2++rest) ap W:=by
 refine mH (N:=308) (sl:=vG) (V:=Vl k) (fun i j hi b e=>(by decide+kernel:∀i,i<2->∀j,j<2->vG i=vG j->i=j) i hi j b e) (by decide+kernel:∀j,j<2->vG j<308) hsz hd (fun a j h b=>?_) d;obtain⟨o,c⟩:∃o,(aF Tryz.f3 26)[j]?=some o:=by have:(aF Tryz.f3 26).size=2:=AS;simp_all
 have g:=ju c;have f:0<j->a.tmps[231]?=_:=h.val 0;match j,b with
 |0,_ |1,_=>
  obtain rfl:=Option.some.inj g;try have m:=(h.base 22 (by grind[vG])).trans lq
  exact fN c KZ rfl (w1:=W) BD ⟨rfl,rfl⟩
def ES:Nat->Nat:=fun j=>[82,83,11].getD j 0
def Vm(k:Nat)(j:Nat):Value:=
 match j with
 |0=>.int .i64 k
 |1=>.int .i64 ((k+1:Nat):Int)
 | _=>.int .i64 ((k+1:Nat):Int)
attribute [local go_sem] Vm
theorem axd(k:Nat)(ap:Act)(W:World)(hsz:ap.tmps.size=308)(hd:ap.defers=[])(mI:ap.tmps[11]?=some (.int .i64 k))(n:k<=1000){rest:List Nat}(f:∀a,Pure 308 ES (Vm k) ap 3 a->wpOps (ai prog true) (iU Tryz.f3 10) Q rest a W):wpOps (ai prog true) (iU Tryz.f3 10) Q (List.range' 0 3++rest) ap W:=by
 have m:IntKind.i64.wrap ((k:Int)+1)=((k:Int)+1):=Ct;refine mH (N:=308) (sl:=ES) (V:=Vm k) (fun i j hi b e=>(by decide+kernel:∀i,i<3->∀j,j<3->ES i=ES j->i=j) i hi j b e) (by decide+kernel:∀j,j<3->ES j<308) hsz hd (fun a j h b=>?_) f;obtain⟨o,c⟩:∃o,(iU Tryz.f3 10)[j]?=some o:=by have:(iU Tryz.f3 10).size=3:=AS;simp_all
 have d:=c;simp only[iU,Tryz.f3,Option.getD_some,tH,Nat.reduceBEq,Bool.false_eq_true,↓reduceIte]at d;have l:0<j->a.tmps[82]?=_:=h.val 0;have g:1<j->a.tmps[83]?=_:=h.val 1;match j,b with
 |0,_ |1,_ |2,_=>
  obtain rfl:=Option.some.inj d;try have p:=(h.base 11 (by grind[ES])).trans mI
  exact fN c KZ rfl (w1:=W) BD ⟨rfl,rfl⟩
def ET:Nat->Nat:=fun j=>[233,234,22].getD j 0
def Vn(k:Nat)(j:Nat):Value:=
 match j with
 |0=>.int .i64 k
 |1=>.int .i64 ((k+1:Nat):Int)
 | _=>.int .i64 ((k+1:Nat):Int)
attribute [local go_sem] Vn
theorem axe(k:Nat)(ap:Act)(W:World)(hsz:ap.tmps.size=308)(hd:ap.defers=[])(lq:ap.tmps[22]?=some (.int .i64 k))(n:k<=1000){rest:List Nat}(f:∀a,Pure 308 ET (Vn k) ap 3 a->wpOps (ai prog true) (iU Tryz.f3 27) Q rest a W):wpOps (ai prog true) (iU Tryz.f3 27) Q (List.range' 0 3++rest) ap W:=by
 have m:IntKind.i64.wrap ((k:Int)+1)=((k:Int)+1):=Ct;refine mH (N:=308) (sl:=ET) (V:=Vn k) (fun i j hi b e=>(by decide+kernel:∀i,i<3->∀j,j<3->ET i=ET j->i=j) i hi j b e) (by decide+kernel:∀j,j<3->ET j<308) hsz hd (fun a j h b=>?_) f;obtain⟨o,c⟩:∃o,(iU Tryz.f3 27)[j]?=some o:=by have:(iU Tryz.f3 27).size=3:=AS;simp_all
 have d:=c;simp only[iU,Tryz.f3,Option.getD_some,tH,Nat.reduceBEq,Bool.false_eq_true,↓reduceIte]at d;have l:0<j->a.tmps[233]?=_:=h.val 0;have g:1<j->a.tmps[234]?=_:=h.val 1;match j,b with
 |0,_ |1,_ |2,_=>
  obtain rfl:=Option.some.inj d;try have p:=(h.base 22 (by grind[ET])).trans lq
  exact fN c KZ rfl (w1:=W) BD ⟨rfl,rfl⟩
def G7:Nat->Nat:=fun j=>[141,142,13].getD j 0
def Vo(k:Nat)(j:Nat):Value:=
 match j with
 |0=>.int .i64 k
 |1=>.int .i64 ((k+1:Nat):Int)
 | _=>.int .i64 ((k+1:Nat):Int)
attribute [local go_sem] Vo
theorem axf(k:Nat)(ap:Act)(W:World)(hsz:ap.tmps.size=308)(hd:ap.defers=[])(fO:ap.tmps[13]?=some (.int .i64 k))(p:k<=1000){rest:List Nat}(f:∀a,Pure 308 G7 (Vo k) ap 3 a->wpOps (ai prog true) (iU Tryz.f3 16) Q rest a W):wpOps (ai prog true) (iU Tryz.f3 16) Q (List.range' 0 3++rest) ap W:=by
 have n:IntKind.i64.wrap ((k:Int)+1)=((k:Int)+1):=Ct;refine mH (N:=308) (sl:=G7) (V:=Vo k) (fun i j hi b e=>(by decide+kernel:∀i,i<3->∀j,j<3->G7 i=G7 j->i=j) i hi j b e) (by decide+kernel:∀j,j<3->G7 j<308) hsz hd (fun a j h b=>?_) f;obtain⟨o,c⟩:∃o,(iU Tryz.f3 16)[j]?=some o:=by have:(iU Tryz.f3 16).size=3:=AS;simp_all
 have d:=c;simp only[iU,Tryz.f3,Option.getD_some,tH,Nat.reduceBEq,Bool.false_eq_true,↓reduceIte]at d;have l:0<j->a.tmps[141]?=_:=h.val 0;have g:1<j->a.tmps[142]?=_:=h.val 1;match j,b with
 |0,_ |1,_ |2,_=>
  obtain rfl:=Option.some.inj d;try have m:=(h.base 13 (by grind[G7])).trans fO
  exact fN c KZ rfl (w1:=W) BD ⟨rfl,rfl⟩
def Cj:Nat->Nat:=fun j=>[84,85,86,87,88].getD j 0
def Vp(bK bH o2 lp k:Nat)(kd di:Int)(bQ vs bo:Value)(j:Nat):Value:=
 match j with
 |0=>.pointer (some ⟨bK,0,none⟩)
 |1=>.slice (some ⟨bH,o2,none⟩) 7 lp
 |2=>.int .i64 k
 |3=>.pointer (some ⟨bH,o2+k*5,none⟩)
 | _=>.agg #[.int .i64 kd,.int .i64 di,bQ,vs,bo]
attribute [local go_sem] Vp
theorem axg(c bH b d k:Nat)(kd g:Int)(bQ vs l:Value)(ap:Act)(W:World)(hsz:ap.tmps.size=308)(hd:ap.defers=[])(r4:ap.tmps[7]?=some (.pointer (some ⟨c,0,none⟩)))(mI:ap.tmps[11]?=some (.int .i64 k))(x:k<7)(v:W.cell? ⟨c,0,none⟩=some (.slice (some ⟨bH,b,none⟩) 7 d))(dw:W.cell? ⟨bH,b+k*5,none⟩=some (.int .i64 kd))(d1:W.cell? ⟨bH,b+k*5+1,none⟩=some (.int .i64 g))(gV:W.cell? ⟨bH,b+k*5+2,none⟩=some bQ)(fS:W.cell? ⟨bH,b+k*5+3,none⟩=some vs)(gJ:W.cell? ⟨bH,b+k*5+4,none⟩=some l){rest:List Nat}(n:∀a,Pure 308 Cj (Vp c bH b d k kd g bQ vs l) ap 5 a->wpOps (ai prog true) (aF Tryz.f3 11) Q rest a W):wpOps (ai prog true) (aF Tryz.f3 11) Q (List.range' 0 5++rest) ap W:=by
 have y:(0:Int)<=(k:Int):=Ay;have u:(k:Int)<7:=Ay;refine mH (N:=308) (sl:=Cj) (V:=Vp c bH b d k kd g bQ vs l) (fun i j hi f e=>(by decide+kernel:∀i,i<5->∀j,j<5->Cj i=Cj j->i=j) i hi j f e) (by decide+kernel:∀j,j<5->Cj j<308) hsz hd (fun a j h f=>?_) n;obtain⟨o,m⟩:∃o,(aF Tryz.f3 11)[j]?=some o:=by have:(aF Tryz.f3 11).size=7:=AS;exact⟨_,Array.getElem?_eq_getElem Ay⟩
 have p:=ju m;have t:0<j->a.tmps[84]?=_:=h.val 0;have s:1<j->a.tmps[85]?=_:=h.val 1;have r:2<j->a.tmps[86]?=_:=h.val 2;have q:3<j->a.tmps[87]?=_:=h.val 3;match j,f with
 |0,_ |1,_ |2,_ |3,_ |4,_=>
  obtain rfl:=Option.some.inj p;try have w:=(h.base 7 (by grind[Cj])).trans r4
  try have z:=(h.base 11 (by grind[Cj])).trans mI
  exact fN m KZ rfl (w1:=W) BD ⟨rfl,rfl⟩
def Ck:Nat->Nat:=fun j=>[235,236,237,238,239].getD j 0
def Vq(bK bH o2 lp k:Nat)(kd di:Int)(bQ vs bo:Value)(j:Nat):Value:=
 match j with
 |0=>.pointer (some ⟨bK,0,none⟩)
 |1=>.slice (some ⟨bH,o2,none⟩) 7 lp
 |2=>.int .i64 k
 |3=>.pointer (some ⟨bH,o2+k*5,none⟩)
 | _=>.agg #[.int .i64 kd,.int .i64 di,bQ,vs,bo]
attribute [local go_sem] Vq
theorem axh(c bH b d k:Nat)(kd g:Int)(bQ vs l:Value)(ap:Act)(W:World)(hsz:ap.tmps.size=308)(hd:ap.defers=[])(r4:ap.tmps[7]?=some (.pointer (some ⟨c,0,none⟩)))(lq:ap.tmps[22]?=some (.int .i64 k))(x:k<7)(v:W.cell? ⟨c,0,none⟩=some (.slice (some ⟨bH,b,none⟩) 7 d))(dw:W.cell? ⟨bH,b+k*5,none⟩=some (.int .i64 kd))(d1:W.cell? ⟨bH,b+k*5+1,none⟩=some (.int .i64 g))(gV:W.cell? ⟨bH,b+k*5+2,none⟩=some bQ)(fS:W.cell? ⟨bH,b+k*5+3,none⟩=some vs)(gJ:W.cell? ⟨bH,b+k*5+4,none⟩=some l){rest:List Nat}(n:∀a,Pure 308 Ck (Vq c bH b d k kd g bQ vs l) ap 5 a->wpOps (ai prog true) (aF Tryz.f3 28) Q rest a W):wpOps (ai prog true) (aF Tryz.f3 28) Q (List.range' 0 5++rest) ap W:=by
 have y:(0:Int)<=(k:Int):=Ay;have u:(k:Int)<7:=Ay;refine mH (N:=308) (sl:=Ck) (V:=Vq c bH b d k kd g bQ vs l) (fun i j hi f e=>(by decide+kernel:∀i,i<5->∀j,j<5->Ck i=Ck j->i=j) i hi j f e) (by decide+kernel:∀j,j<5->Ck j<308) hsz hd (fun a j h f=>?_) n;obtain⟨o,m⟩:∃o,(aF Tryz.f3 28)[j]?=some o:=by have:(aF Tryz.f3 28).size=7:=AS;exact⟨_,Array.getElem?_eq_getElem Ay⟩
 have p:=ju m;have t:0<j->a.tmps[235]?=_:=h.val 0;have s:1<j->a.tmps[236]?=_:=h.val 1;have r:2<j->a.tmps[237]?=_:=h.val 2;have q:3<j->a.tmps[238]?=_:=h.val 3;match j,f with
 |0,_ |1,_ |2,_ |3,_ |4,_=>
  obtain rfl:=Option.some.inj p;try have w:=(h.base 7 (by grind[Ck])).trans r4
  try have z:=(h.base 22 (by grind[Ck])).trans lq
  exact fN m KZ rfl (w1:=W) BD ⟨rfl,rfl⟩
end
def sS(rs:List cL):List br:=pj (d8 rs) B5 rs.length (wN rs)
def EU(r:cL):List Bool:=[c3 r.1||c3 r.2.1,c3 r.1||c3 r.2.1,c3 r.1||c3 r.2.2.1,c3 r.2.2.1,c3 r.2.2.1,c3 r.2.2.1,c3 r.2.2.2]
def Vr(r:cL):List Int:=[jc r.1+dp r.2.1,jc r.1-dp r.2.1,jc r.1*dp r.2.2.1,dp r.2.2.1*dp r.2.2.1,dp r.2.2.1,(dp r.2.2.1).tdiv 100]
theorem O8{k:Nat}(h:k<7):k=0\/k=1\/k=2\/k=3\/k=4\/k=5\/k=6:=by omega
theorem axi(r:cL){k:Nat}(c:k<7):∃d,(Aq r)[k]?=some d/\(EU r)[k]?=some d.fj/\(k<6->∃y,(Vr r)[k]?=some y/\d.cb=if d.fj then 0 else y)/\(k=6->d.text=mF r.2.2.2):=by
 have b0:(v0 r).fj=c3 r.1:=by grind[v0,g3]
 have b1:(v1 r).fj=c3 r.2.1:=by grind[v1,g3]
 have b:(v2 r).fj=c3 r.2.2.1:=by grind[v2,g3]
 have e:(v3 r).fj=c3 r.2.2.2:=by grind[v3,g3]
 have n0:(v0 r).cb=jc r.1:=by grind[v0,g3,jc]
 have i:(v1 r).cb=dp r.2.1:=by grind[v1,g3,dp]
 have g:(v2 r).cb=dp r.2.2.1:=by grind[v2,g3,dp]
 have a:∀op l r,(sH op l r).fj=(l.fj||r.fj):=fun op l r=>by grind[sH,g3,jY]
 have f:∀op l r,(sH op l r).cb=if l.fj||r.fj then 0 else(jY op l r).cb:=fun op l r=>by grind[sH,g3]
 rcases O8 c with rfl|rfl|rfl|rfl|rfl|rfl|rfl
 ·refine⟨_,rfl,by rw[a,b0,b1];rfl,fun _=>⟨_,rfl,?_⟩,AU⟩;simp_all[jY]
 ·refine⟨_,rfl,by rw[a,b0,b1];rfl,fun _=>⟨_,rfl,?_⟩,AU⟩;simp_all[jY]
 ·refine⟨_,rfl,by rw[a,b0,b];rfl,fun _=>⟨_,rfl,?_⟩,AU⟩;simp_all[jY]
 ·refine⟨_,rfl,by rw[a,b,Bool.or_self];rfl,fun _=>⟨_,rfl,?_⟩,AU⟩;simp_all[jY]
 ·refine⟨_,rfl,by rw[OB,b];rfl,fun _=>⟨_,rfl,?_⟩,AU⟩;grind[OB,dp]
 ·refine⟨_,rfl,by grind[OC,EU,g3],fun _=>⟨_,rfl,?_⟩,AU⟩;grind[OC,g3]
 ·refine⟨_,rfl,by rw[e];rfl,AU,fun _=>?_⟩;unfold v3;split
  ·rename_i h;simp only[mF,h,if_true,g3];decide
  ·rfl
def aeq:List Int:=[1,1,2,2,2,2,3]
def aer:List Int:=[0,0,2,4,2,0,0]
theorem Cl(rs:List cL):(sS rs).length=7:=by simp[sS,pj,pC,B5]
theorem axj(rs:List cL):(wM (d8 rs) rs.length (wN rs)).length=rs.length:=by rw[wM,Gt,z6];omega
theorem axk(rs:List cL){i k:Nat}(hi:i<rs.length):l8 (wM (d8 rs) rs.length (wN rs)) i k=((Aq rs[i])[k]?).getD g3:=by
 have:(wM (d8 rs) rs.length (wN rs))[i]?.map (·.2)=some (Aq rs[i]):=by simp[wM,eX,z6,hi,adL]
 grind[l8]
structure axl(rs:List cL)(k:Nat)(c:br):Prop where
 kind:aeq[k]?=some c.kind
 cE:aer[k]?=some c.cE
 fY:c.fY.length=rs.length
 jP:k<6->c.jP.length=rs.length
 hQ:k=6->c.hQ.length=rs.length
 y9:∀i(h:i<rs.length),∃b,(EU rs[i])[k]?=some b/\c.fY[i]?=some b/\(k<6->∃y,(Vr rs[i])[k]?=some y/\c.jP[i]?=some (if b then 0 else y))/\(k=6->c.hQ[i]?=some (mF rs[i].2.2.2))
theorem O9(rs:List cL){k:Nat}(a:k<7):∃c,(sS rs)[k]?=some c/\axl rs k c:=by
 refine⟨sE (B5[k]?.getD (0,0)) (l8 (wM (d8 rs) rs.length (wN rs)) · k) rs.length,?_,?_⟩
 ·simp only[sS,pj,pC,List.getElem?_map,axj];rw[List.getElem?_range (by rw[show B5.length=7 from rfl];exact a)];rfl
 have b:k<6->¬(B5[k]?.getD (0,0)).1=3:=fun h=>by rcases O8 a with rfl|rfl|rfl|rfl|rfl|rfl|rfl<;>first|decide|omega
 have e:k=6->(B5[k]?.getD (0,0)).1=3:=fun h=>by subst h;rfl
 refine⟨?_,?_,by simp[sE],fun h=>by simp[sE,b h],fun h=>by simp[sE,e h],fun i hi=>?_⟩
 ·rcases O8 a with rfl|rfl|rfl|rfl|rfl|rfl|rfl<;>rfl
 ·rcases O8 a with rfl|rfl|rfl|rfl|rfl|rfl|rfl<;>rfl
 ·obtain⟨d,l,j,g,f⟩:=axi rs[i] a;grind[axk,sE]
structure O_(W:World)(b o:Nat)(c:br)(bQ vs bo:Value):Prop where
 dw:W.cell? ⟨b,o,none⟩=some (.int .i64 c.kind)
 d1:W.cell? ⟨b,o+1,none⟩=some (.int .i64 c.cE)
 gV:W.cell? ⟨b,o+2,none⟩=some bQ
 fS:W.cell? ⟨b,o+3,none⟩=some vs
 gJ:W.cell? ⟨b,o+4,none⟩=some bo
 is:w6 W bQ vs bo c
theorem G8{n0:Nat}{t:List br}{b:Nat}(h:lK n0 t W (.pointer (some ⟨b,0,none⟩)))(h0:0<t.length):∃c o g,af W b #[.slice (some ⟨c,o,none⟩) t.length g] 27/\iB W (.slice (some ⟨c,o,none⟩) t.length g) t/\∀k(f:k<t.length),∃bQ vs a,O_ W c (o+k*5) t[k] bQ vs a:=by obtain⟨v,a9,e,-,j,d⟩:=h;cases e;obtain⟨⟨u,cap,rfl,hl,i⟩,ht⟩:=id d;obtain⟨c,o,rfl,-⟩:=i 0 h0;refine⟨c,o,cap,j,d,fun k f=>?_⟩;obtain⟨s,o',e,bQ,vs,a,l,n,q,r,m,p,-⟩:=i k f;cases e;exact⟨bQ,vs,a,l,n,q,r,m,p⟩
theorem Il{l:List Int}(h:bd W 1 w5 v l):∃a cap,v=.slice a l.length cap/\∀i(hi:i<l.length),∃b o,a=some ⟨b,o,none⟩/\W.cell? ⟨b,o+i,none⟩=some (.int .i64 l[i]):=by obtain⟨a,cap,rfl,-,h⟩:=h;simp_all[w5]
theorem Vs{l:List Bool}(h:bd W 1 AN v l):∃a cap,v=.slice a l.length cap/\∀i(hi:i<l.length),∃b o,a=some ⟨b,o,none⟩/\W.cell? ⟨b,o+i,none⟩=some (.bool l[i]):=by obtain⟨a,cap,rfl,-,h⟩:=h;simp_all[AN]
theorem Vt{l:List ByteArray}(h:bd W 1 CH v l):∃a cap,v=.slice a l.length cap/\∀i(hi:i<l.length),∃b o,a=some ⟨b,o,none⟩/\W.cell? ⟨b,o+i,none⟩=some (.string l[i]):=by obtain⟨a,cap,rfl,-,h⟩:=h;refine⟨a,cap,rfl,fun i hi=>?_⟩;grind[CH]
section
variable {n0:Nat}
def Vu(bK:Nat)(t1 t2:Value)(S:Nat)(j:Nat):Value:=
 match j with
 |0=>.bool true
 |1=>.bool false
 |2=>.bool false
 |3=>.pointer (some ⟨bK,0,none⟩)
 |4=>t2
 |5=>.int .i64 7
 |6=>.bool false
 |7=>.bool false
 |8=>.bool false
 |9=>.agg #[t2]
 |10=>.int .i64 S
 |11=>.agg #[t1]
 |12=>.int .i64 S
 |13=>.bool false
 | _=>.bool false
attribute [local go_sem] Vu
theorem axm(a_ iw:List br)(L:0<a_.length)(K:iw.length=7)(S:Nat)(C:a_[0].fY.length=S)(Mx:iw[0].fY.length=S)(ap:Act)(W:World)(hd:ap.defers=[])(I:d0 308 (ux n0 a_ iw) ap W):
 (Code.region 4 (aF Tryz.f3 4) true).wp (ai prog true) (ii fun a' w'=>a'.defers=[]/\d0 308 (ux n0 a_ iw) a' w'/\a'.tmps[77]?=some (.bool false)/\Below W.heap.size W w') ap W:=by
 obtain⟨hsz,t⟩:=I;obtain⟨v5,fX,aO,Gc,rfl,O,A,u⟩:=t (5,lK n0 a_) Je;obtain⟨v7,r4,q,G9,rfl,F,v,l⟩:=t (7,lK n0 iw) Je;obtain⟨E,y,H⟩:=t (8,cy (.bool true)) Je;obtain rfl:E=.bool true:=H;have fX:ap.tmps[5]?=some (.pointer (some ⟨aO,0,none⟩)):=fX;have r4:ap.tmps[7]?=some (.pointer (some ⟨q,0,none⟩)):=r4;have y:ap.tmps[8]?=some (.bool true):=y;obtain⟨⟨g,i,rfl,-,-⟩,-⟩:=id u;obtain⟨⟨k,d,rfl,-,-⟩,-⟩:=id l;rw[K]at v l;refine EQ (N:=308) (m:=15) (sl:=fun j=>63+j) (V:=Vu q (.slice g a_.length i) (.slice k 7 d) S) BB AS AS AU AU hsz hd ?_ ?_
 ·intro aq a w j o h J iH b c;have x:=ju b;have BX:=(h.base 8 AU).trans y;have tu:=(h.base 7 AU).trans r4;obtain⟨Z,Y,X⟩:=(v.call h.lL).all;have q5:=(h.base 5 AU).trans fX;obtain⟨U,T,R⟩:=(A.call h.lL).all;have z:∀m,m<15->aq.getD m false=true->a.tmps[m+63]?=some (Vu q (.slice g a_.length i) (.slice k 7 d) S m):=fun m hi hl=>C7;match j,J with
  |10,_=>obtain rfl:=Option.some.inj x;have Q:a.tmps[72]?=some (.agg #[.slice k 7 d]):=h.val 9 AW (c ⟨9,.data⟩ Aa rfl);have r:a.tmps[71]?=some (.bool false):=h.val 8 AW (c ⟨8,.guard⟩ Aa rfl);refine ER b ((vE rfl BB r).trans rfl) rfl (f:=9) (args:=#[.agg #[.slice k 7 d]]) BD ((EC (.slice k 7 d) iw Ay w (iB.kept (wO h.lL) l).bw).mono ?_);rintro e w' ⟨rfl,n⟩;exact⟨_,rfl,by rw[Mx];exact⟨rfl,n⟩⟩
  |12,_=>obtain rfl:=Option.some.inj x;have P:a.tmps[74]?=some (.agg #[.slice g a_.length i]):=h.val 11 AW (c ⟨11,.data⟩ Aa rfl);have r:a.tmps[71]?=some (.bool false):=h.val 8 AW (c ⟨8,.guard⟩ Aa rfl);refine ER b ((vE rfl BB r).trans rfl) rfl (f:=9) (args:=#[.agg #[.slice g a_.length i]]) BD ((EC (.slice g a_.length i) a_ L w (iB.kept (wO h.lL) u).bw).mono ?_);rintro e w' ⟨rfl,n⟩;exact⟨_,rfl,by rw[C];exact⟨rfl,n⟩⟩
  |0,_ |1,_ |2,_ |3,_ |4,_ |5,_ |6,_ |7,_ |8,_ |9,_ |11,_ |13,_ |14,_=>
   obtain rfl:=Option.some.inj x;first
    |exact y8 b ((h.guard rfl (c ⟨_,.guard⟩ Aa rfl) AW BB rfl).trans rfl) rfl ⟨rfl,Below.refl _ _⟩
    |have D:=c
     simp[Region.binds]at D;first
      |exact fN b KZ rfl (w1:=w) BD ⟨rfl,Below.refl _ _⟩
      |exact fN b ((h.guard rfl (c ⟨_,.guard⟩ Aa rfl) AW BB rfl).trans rfl) rfl (w1:=w) BD ⟨rfl,Below.refl _ _⟩
    |exact fN b KZ rfl (w1:=w) BD ⟨rfl,Below.refl _ _⟩
 ·intro a w hsz' M s n z;refine⟨rfl,M,⟨hsz',fun p B=>?_⟩,z 14 AW,s⟩;simp[ux]at B;rcases B with rfl|rfl|rfl
  ·exact⟨_,AU,At _ _ _ _ s ⟨aO,_,rfl,O,A,u⟩⟩
  ·exact⟨_,AU,At _ _ _ _ s ⟨q,_,rfl,F,v,l⟩⟩
  ·exact⟨_,AU,rfl⟩
end
section
def Vv(jb fB ik S:Nat)(kd di:Int)(bQ vs bo t1:Value)(j:Nat):Value:=
 match j with
 |0=>.pointer (some ⟨jb,0,none⟩)
 |1=>.int .i64 kd
 |2=>.slice (some ⟨fB,0,none⟩) 7 7
 |3=>.int .i64 6
 |4=>.pointer (some ⟨fB,6,none⟩)
 |5=>.int .i64 kd
 |6=>.bool false
 |7=>.bool false
 |8=>.pointer (some ⟨jb,1,none⟩)
 |9=>.int .i64 di
 |10=>.slice (some ⟨ik,0,none⟩) 7 7
 |11=>.int .i64 6
 |12=>.pointer (some ⟨ik,6,none⟩)
 |13=>.int .i64 di
 |14=>.bool false
 |15=>.bool false
 |16=>.bool false
 |17=>.pointer (some ⟨jb,4,none⟩)
 |18=>bo
 |19=>.int .i64 S
 |20=>.agg #[t1]
 |21=>.int .i64 S
 |22=>.bool false
 |23=>.bool false
 |24=>.bool false
 |25=>.int .i64 6
 |26=>.bool false
 |27=>.bool false
 |28=>undef
 |29=>undef
 |30=>undef
 |31=>undef
 |32=>undef
 |33=>undef
 |34=>.bool false
 |35=>.bool false
 |36=>.bool false
 |37=>.int .i64 6
 |38=>.bool true
 |39=>.bool true
 |40=>.pointer (some ⟨jb,3,none⟩)
 |41=>vs
 |42=>.int .i64 S
 |43=>.agg #[t1]
 |44=>.int .i64 S
 |45=>.bool false
 |46=>.bool false
 | _=>.bool false
attribute [local go_sem] Vv
theorem axn(a_:List br)(B:0<a_.length)(S:Nat)(z:a_[0].fY.length=S)(aO k n i:Nat)(kd p:Int)(b v u an:Option Addr)(c q ci b3 t x:Nat)(ap:Act)(W:World)(hsz:ap.tmps.size=308)(hd:ap.defers=[])(fX:ap.tmps[5]?=some (.pointer (some ⟨aO,0,none⟩)))(Ax:ap.tmps[9]?=some (.slice (some ⟨k,0,none⟩) 7 7))(As:ap.tmps[10]?=some (.slice (some ⟨n,0,none⟩) 7 7))(mI:ap.tmps[11]?=some (.int .i64 6))(T:ap.tmps[12]?=some (.pointer (some ⟨i,0,none⟩)))
 (K:af W aO #[.slice b a_.length c] 27) (C:iB W (.slice b a_.length c) a_) (F:af W i #[.int .i64 kd,.int .i64 p,.slice v q ci,.slice u S t,.slice an S x] 48) (iF:W.cell? ⟨k,6,none⟩=some (.int .i64 p)) (sO:W.cell? ⟨n,6,none⟩=some (.int .i64 kd)):
 (Code.region 12 (aF Tryz.f3 12) true).wp (ai prog true) (ii fun a' w'=>a'.tmps.size=308/\a'.defers=[]/\(∀s,s<89->a'.tmps[s]?=ap.tmps[s]?)/\a'.tmps[136]?=some (.bool false)/\Below W.heap.size W w') ap W:=by
 refine EQ (N:=308) (m:=48) (sl:=fun j=>89+j) (V:=Vv i n k S kd p (.slice v q ci) (.slice u S t) (.slice an S x) (.slice b a_.length c)) BB AS AS AU AU hsz hd ?_ ?_
 ·intro aq a w j o h H Z d g;have y:=ju d;have E:=bC.cW h.lL;have UG:=(h.base 12 AU).trans T;obtain⟨Pa,Pb,Pd⟩:=(F.call h.lL).all;have UR:=(h.base 10 AU).trans As;have KS:=(h.base 11 AU).trans mI;have U:=E _ _ _ sO;have Q:=(h.base 9 AU).trans Ax;have Y:=E _ _ _ iF;have X:=(h.base 5 AU).trans fX;obtain⟨P,O,M⟩:=(K.call h.lL).all;have A:∀m,m<48->aq.getD m false=true->a.tmps[m+89]?=some (Vv i n k S kd p (.slice v q ci) (.slice u S t) (.slice an S x) (.slice b a_.length c) m):=fun m hi hl=>C7;match j,H with
  |21,_=>obtain rfl:=Option.some.inj y;have L:a.tmps[109]?=some (.agg #[.slice b a_.length c]):=h.val 20 AW (g ⟨20,.data⟩ Aa rfl);have r:a.tmps[105]?=some (.bool false):=h.val 16 AW (g ⟨16,.guard⟩ Aa rfl);refine ER d ((vE rfl BB r).trans rfl) rfl (f:=9) (args:=#[.agg #[.slice b a_.length c]]) BD ((EC (.slice b a_.length c) a_ B w (iB.kept (wO h.lL) C).bw).mono ?_);rintro e w' ⟨rfl,l⟩;exact⟨_,rfl,by rw[z];exact⟨rfl,l⟩⟩
  |44,_=>obtain rfl:=Option.some.inj y;have R:a.tmps[132]?=some (.agg #[.slice b a_.length c]):=h.val 43 AW (g ⟨43,.data⟩ Aa rfl);have r:a.tmps[128]?=some (.bool true):=h.val 39 AW (g ⟨39,.guard⟩ Aa rfl);refine ER d ((vE rfl BB r).trans rfl) rfl (f:=9) (args:=#[.agg #[.slice b a_.length c]]) BD ((EC (.slice b a_.length c) a_ B w (iB.kept (wO h.lL) C).bw).mono ?_);rintro e w' ⟨rfl,l⟩;exact⟨_,rfl,by rw[z];exact⟨rfl,l⟩⟩
  |0,_ |1,_ |2,_ |3,_ |4,_ |5,_ |6,_ |7,_ |8,_ |9,_ |10,_ |11,_ |12,_ |13,_ |14,_ |15,_ |16,_ |17,_ |18,_ |19,_ |20,_ |22,_ |23,_ |24,_ |25,_ |26,_ |27,_ |28,_ |29,_ |30,_ |31,_ |32,_ |33,_ |34,_ |35,_ |36,_ |37,_ |38,_ |39,_ |40,_ |41,_ |42,_ |43,_ |45,_ |46,_ |47,_=>
   obtain rfl:=Option.some.inj y;first
    |exact y8 d ((h.guard rfl (g ⟨_,.guard⟩ Aa rfl) AW BB rfl).trans rfl) rfl ⟨rfl,Below.refl _ _⟩
    |have D:=g
     simp[Region.binds]at D;first
      |exact fN d KZ rfl (w1:=w) BD ⟨rfl,Below.refl _ _⟩
      |exact fN d ((h.guard rfl (g ⟨_,.guard⟩ Aa rfl) AW BB rfl).trans rfl) rfl (w1:=w) BD ⟨rfl,Below.refl _ _⟩
    |exact fN d KZ rfl (w1:=w) BD ⟨rfl,Below.refl _ _⟩
 ·intro a w hsz' J I l A;exact⟨rfl,hsz',J,AU,A 47 AW,I⟩
end
variable {a':Act}{N W':World}{rs:List cL}
section
variable {n0:Nat}
def G_(f:Func):Code:=.seq (.seq (.region 9 (aF f 9) false) (.cond (.tmp 81) .skip (.exit 0))) (.seq (.block 1 (.seq (.region 11 (aF f 11) false) (.seq (.region 12 (aF f 12) true) (.cond (.tmp 136) (.seq (.region 13 (aF f 13) false) .ret) .skip)))) (.region 10 (iU f 10) false))
def EV(f:Func):Code:=.seq (.seq (.region 26 (aF f 26) false) (.cond (.tmp 232) .skip (.exit 4))) (.seq (.block 5 (.seq (.region 28 (aF f 28) false) (.seq (.region 29 (aF f 29) true) (.cond (.tmp 290) (.seq (.region 30 (aF f 30) false) .ret) .skip)))) (.region 27 (iU f 27) false))
def Ha(f:Func):Code:=.seq (.seq (.region 15 (aF f 15) false) (.cond (.tmp 140) .skip (.exit 2))) (.seq (.block 3 (.seq (.region 17 (aF f 17) false) (.seq (.region 18 (aF f 18) false) (.seq (.region 19 (aF f 19) false) (.seq (.region 20 (aF f 20) false) (.seq (.region 21 (aF f 21) false) (.seq (.region 22 (aF f 22) false) (.seq (.region 23 (aF f 23) false) (.seq (.region 24 (aF f 24) false) (.seq (.seq (.region 25 (aF f 25) false) (.block 4 (.loop (EV f)))) (.seq (.region 31 (aF f 31) true) (.cond (.tmp 307) (.seq (.region 32 (aF f 32) false) .ret) .skip)))))))))))) (.region 16 (iU f 16) false))
theorem axs:dR Tryz.f3 3=.seq (.seq (.region 4 (aF Tryz.f3 4) true) (.cond (.tmp 77) (.seq (.region 5 (aF Tryz.f3 5) false) .ret) .skip)) (.seq (.region 6 (aF Tryz.f3 6) false) (.seq (.region 7 (aF Tryz.f3 7) false) (.seq (.seq (.region 8 (aF Tryz.f3 8) false) (.block 0 (.loop (G_ Tryz.f3)))) (.seq (.seq (.region 14 (aF Tryz.f3 14) false) (.block 2 (.loop (Ha Tryz.f3)))) (.seq (.region 33 (aF Tryz.f3 33) false) .ret))))):=by kernel_rfl
theorem lM{id n:Nat}{Q:Act->World->Prop}(b:ops.size=n)(h:wpOps P ops (ii (c2 P (.inRegion ops []::cJ) ks' Q)) (List.range' 0 n) a w):c2 P (.code (.region id ops false)::cJ) ks' Q a w:=zX (U1 (b▸h))
theorem lN{Q:Act->World->Prop}(h:c2 P cJ ks' Q a w):wpOps P ops (ii (c2 P (.inRegion ops []::cJ) ks' Q)) [] a w:=⟨rfl,t6 h⟩
theorem y_{t:Nat}(h:a.tmps[t]?=some v):a.eval (.tmp t)=v:=by simp[Act.eval,h]
structure kE(n0:Nat)(N:World)(aO bK:Nat)(rs:List cL)(a:Act)(W:World):Prop where
 size:a.tmps.size=308
 defers:a.defers=[]
 fX:a.tmps[5]?=some (.pointer (some ⟨aO,0,none⟩))
 r4:a.tmps[7]?=some (.pointer (some ⟨bK,0,none⟩))
 gI:lK n0 (d8 rs) W (.pointer (some ⟨aO,0,none⟩))
 Cm:lK n0 (sS rs) W (.pointer (some ⟨bK,0,none⟩))
 KU:n0<=N.heap.size/\Below n0 N W
theorem kE.next{aO c:Nat}(h:kE n0 N aO c rs a W)(e:a'.tmps.size=308)(hd:a'.defers=[])(d:a'.tmps[5]?=a.tmps[5]?)(f:a'.tmps[7]?=a.tmps[7]?)(b:Below W.heap.size W W'):kE n0 N aO c rs a' W':=
 ⟨e,hd,d.trans h.fX,f.trans h.r4,At _ _ _ _ b h.gI,At _ _ _ _ b h.Cm,h.KU.1,h.KU.2.trans (b.mono (Nat.le_trans h.KU.1 h.KU.2.size))⟩
theorem kE.pure{aO c:Nat}(h:kE n0 N aO c rs a W){sl:Nat->Nat}{V:Nat->Value}{m:Nat}(b:Pure 308 sl V a m a')(e:∀j,j<m->5≠sl j)(d:∀j,j<m->7≠sl j):kE n0 N aO c rs a' W:=
 h.next b.size b.defers (b.base 5 e) (b.base 7 d) (Below.refl _ _)
theorem kE.put{aO b:Nat}(h:kE n0 N aO b rs a W){t:Nat}(v:Value)(e:t≠5)(d:t≠7)(c:Below W.heap.size W W'):kE n0 N aO b rs (a.put (some t) v) W':=
 h.next Hq FI (by simp[Act.put,e]) (by simp[Act.put,d]) c
theorem kg{t s:Nat}(h:t≠s):(a.put (some t) v).tmps[s]?=a.tmps[s]?:=by simp[Act.put,h]
theorem lO{t:Nat}(h:t<a.tmps.size):(a.put (some t) v).tmps[t]?=some v:=by simp[Act.put,h]
theorem axt(a:Act)(W:World)(hsz:a.tmps.size=308)(k g:Int)(f e an:Option Addr)(b ci l d i j:Nat)(h:a.tmps[88]?=some (.agg #[.int .i64 k,.int .i64 g,.slice f b ci,.slice e l d,.slice an i j]))(m:∀w',af w' W.heap.size #[.int .i64 k,.int .i64 g,.slice f b ci,.slice e l d,.slice an i j] 48->Below W.heap.size W w'->wpOps (ai prog true) (aF Tryz.f3 11) Q [] (a.put (some 12) (.pointer (some ⟨W.heap.size,0,none⟩))) w'):wpOps (ai prog true) (aF Tryz.f3 11) Q [5,6] a W:=by
 refine mG (R:=fun a1 w1=>a1=a.put (some 12) (.pointer (some ⟨W.heap.size,0,none⟩))/\w1=W.alloc (.cells #[.int .i64 0,.int .i64 0,.slice none 0 0,.slice none 0 0,.slice none 0 0] 48)) ?_ ?_
 ·obtain⟨o,c⟩:∃o,(aF Tryz.f3 11)[5]?=some o:=⟨_,B2⟩;obtain rfl:=iE c;exact eG c rfl rfl (v:=.pointer (some ⟨W.heap.size,0,none⟩)) (w1:=W.alloc (.cells #[.int .i64 0,.int .i64 0,.slice none 0 0,.slice none 0 0,.slice none 0 0] 48)) BD ⟨rfl,rfl⟩
 rintro a1 w1 ⟨rfl,rfl⟩;refine mG (R:=fun a1 w1=>a1=a.put (some 12) (.pointer (some ⟨W.heap.size,0,none⟩))/\w1=W.alloc (.cells #[.int .i64 k,.int .i64 g,.slice f b ci,.slice e l d,.slice an i j] 48)) ?_ ?_
 ·obtain⟨o,c⟩:∃o,(aF Tryz.f3 11)[6]?=some o:=⟨_,B2⟩;obtain rfl:=iE c;have g1:(a.put (some 12) (.pointer (some ⟨W.heap.size,0,none⟩))).tmps[12]?=some (.pointer (some ⟨W.heap.size,0,none⟩)):=lO AU;have n:(a.put (some 12) (.pointer (some ⟨W.heap.size,0,none⟩))).tmps[88]?=some (.agg #[.int .i64 k,.int .i64 g,.slice f b ci,.slice e l d,.slice an i j]):=(kg AW).trans h;clear m;generalize a.put (some 12) (.pointer (some ⟨W.heap.size,0,none⟩))=a1 at *;exact EF c rfl rfl (w1:=W.alloc (.cells #[.int .i64 k,.int .i64 g,.slice f b ci,.slice e l d,.slice an i j] 48)) BD ⟨rfl,rfl⟩
 rintro a1 w1 ⟨rfl,rfl⟩;exact m _ (af.new _ _ _) ((Below.refl _ W).alloc Jr _)
theorem axu(a:Act)(W:World)(hsz:a.tmps.size=308)(k g:Int)(f e an:Option Addr)(b ci l d i j:Nat)(h:a.tmps[239]?=some (.agg #[.int .i64 k,.int .i64 g,.slice f b ci,.slice e l d,.slice an i j]))(m:∀w',af w' W.heap.size #[.int .i64 k,.int .i64 g,.slice f b ci,.slice e l d,.slice an i j] 48->Below W.heap.size W w'->wpOps (ai prog true) (aF Tryz.f3 28) Q [] (a.put (some 23) (.pointer (some ⟨W.heap.size,0,none⟩))) w'):wpOps (ai prog true) (aF Tryz.f3 28) Q [5,6] a W:=by
 refine mG (R:=fun a1 w1=>a1=a.put (some 23) (.pointer (some ⟨W.heap.size,0,none⟩))/\w1=W.alloc (.cells #[.int .i64 0,.int .i64 0,.slice none 0 0,.slice none 0 0,.slice none 0 0] 48)) ?_ ?_
 ·obtain⟨o,c⟩:∃o,(aF Tryz.f3 28)[5]?=some o:=⟨_,B2⟩;obtain rfl:=iE c;exact eG c rfl rfl (v:=.pointer (some ⟨W.heap.size,0,none⟩)) (w1:=W.alloc (.cells #[.int .i64 0,.int .i64 0,.slice none 0 0,.slice none 0 0,.slice none 0 0] 48)) BD ⟨rfl,rfl⟩
 rintro a1 w1 ⟨rfl,rfl⟩;refine mG (R:=fun a1 w1=>a1=a.put (some 23) (.pointer (some ⟨W.heap.size,0,none⟩))/\w1=W.alloc (.cells #[.int .i64 k,.int .i64 g,.slice f b ci,.slice e l d,.slice an i j] 48)) ?_ ?_
 ·obtain⟨o,c⟩:∃o,(aF Tryz.f3 28)[6]?=some o:=⟨_,B2⟩;obtain rfl:=iE c;have g1:(a.put (some 23) (.pointer (some ⟨W.heap.size,0,none⟩))).tmps[23]?=some (.pointer (some ⟨W.heap.size,0,none⟩)):=lO AU;have n:(a.put (some 23) (.pointer (some ⟨W.heap.size,0,none⟩))).tmps[239]?=some (.agg #[.int .i64 k,.int .i64 g,.slice f b ci,.slice e l d,.slice an i j]):=(kg AW).trans h;clear m;generalize a.put (some 23) (.pointer (some ⟨W.heap.size,0,none⟩))=a1 at *;exact EF c rfl rfl (w1:=W.alloc (.cells #[.int .i64 k,.int .i64 g,.slice f b ci,.slice e l d,.slice an i j] 48)) BD ⟨rfl,rfl⟩
 rintro a1 w1 ⟨rfl,rfl⟩;exact m _ (af.new _ _ _) ((Below.refl _ W).alloc Jr _)
theorem axv(a:Act)(W:World)(hsz:a.tmps.size=308)(e:∀w' a',af w' W.heap.size #[.int .i64 0,.int .i64 0,.int .i64 2,.int .i64 4,.int .i64 2,.int .i64 0,.int .i64 0] 3->Below W.heap.size W w'->a'.tmps.size=308->a'.defers=a.defers->a'.tmps[9]?=some (.slice (some ⟨W.heap.size,0,none⟩) 7 7)->(∀s,s≠78->s≠9->a'.tmps[s]?=a.tmps[s]?)->wpOps (ai prog true) (aF Tryz.f3 6) Q [] a' w'):wpOps (ai prog true) (aF Tryz.f3 6) Q [0,1] a W:=by
 refine mG (R:=fun a1 w1=>a1=a.put (some 78) (.slice (some ⟨W.heap.size,0,none⟩) 7 7)/\w1=W.alloc (.cells #[.int .i64 0,.int .i64 0,.int .i64 2,.int .i64 4,.int .i64 2,.int .i64 0,.int .i64 0] 3)) ?_ ?_
 ·obtain⟨o,b⟩:∃o,(aF Tryz.f3 6)[0]?=some o:=⟨_,B2⟩;obtain rfl:=iE b;exact eG b rfl rfl (v:=.slice (some ⟨W.heap.size,0,none⟩) 7 7) (w1:=W.alloc (.cells #[.int .i64 0,.int .i64 0,.int .i64 2,.int .i64 4,.int .i64 2,.int .i64 0,.int .i64 0] 3)) BD ⟨rfl,rfl⟩
 rintro a1 w1 ⟨rfl,rfl⟩;refine mG (R:=fun a1 w1=>a1=(a.put (some 78) (.slice (some ⟨W.heap.size,0,none⟩) 7 7)).put (some 9) (.slice (some ⟨W.heap.size,0,none⟩) 7 7)/\w1=W.alloc (.cells #[.int .i64 0,.int .i64 0,.int .i64 2,.int .i64 4,.int .i64 2,.int .i64 0,.int .i64 0] 3)) ?_ ?_
 ·obtain⟨o,b⟩:∃o,(aF Tryz.f3 6)[1]?=some o:=⟨_,B2⟩;obtain rfl:=iE b;have g1:(a.put (some 78) (.slice (some ⟨W.heap.size,0,none⟩) 7 7)).tmps[78]?=some (.slice (some ⟨W.heap.size,0,none⟩) 7 7):=lO AU;exact eG b rfl rfl (v:=.slice (some ⟨W.heap.size,0,none⟩) 7 7) (w1:=W.alloc (.cells #[.int .i64 0,.int .i64 0,.int .i64 2,.int .i64 4,.int .i64 2,.int .i64 0,.int .i64 0] 3)) BD ⟨rfl,rfl⟩
 rintro a1 w1 ⟨rfl,rfl⟩;refine e _ _ (af.new W _ _) ((Below.refl _ W).alloc Jr _) Dl C8 (lO Dl) fun s d c=>(kg (Ne.symm c)).trans (kg (Ne.symm d))
theorem axw(a:Act)(W:World)(hsz:a.tmps.size=308)(e:∀w' a',af w' W.heap.size #[.int .i64 1,.int .i64 1,.int .i64 2,.int .i64 2,.int .i64 2,.int .i64 2,.int .i64 3] 3->Below W.heap.size W w'->a'.tmps.size=308->a'.defers=a.defers->a'.tmps[10]?=some (.slice (some ⟨W.heap.size,0,none⟩) 7 7)->(∀s,s≠79->s≠10->a'.tmps[s]?=a.tmps[s]?)->wpOps (ai prog true) (aF Tryz.f3 7) Q [] a' w'):wpOps (ai prog true) (aF Tryz.f3 7) Q [0,1] a W:=by
 refine mG (R:=fun a1 w1=>a1=a.put (some 79) (.slice (some ⟨W.heap.size,0,none⟩) 7 7)/\w1=W.alloc (.cells #[.int .i64 1,.int .i64 1,.int .i64 2,.int .i64 2,.int .i64 2,.int .i64 2,.int .i64 3] 3)) ?_ ?_
 ·obtain⟨o,b⟩:∃o,(aF Tryz.f3 7)[0]?=some o:=⟨_,B2⟩;obtain rfl:=iE b;exact eG b rfl rfl (v:=.slice (some ⟨W.heap.size,0,none⟩) 7 7) (w1:=W.alloc (.cells #[.int .i64 1,.int .i64 1,.int .i64 2,.int .i64 2,.int .i64 2,.int .i64 2,.int .i64 3] 3)) BD ⟨rfl,rfl⟩
 rintro a1 w1 ⟨rfl,rfl⟩;refine mG (R:=fun a1 w1=>a1=(a.put (some 79) (.slice (some ⟨W.heap.size,0,none⟩) 7 7)).put (some 10) (.slice (some ⟨W.heap.size,0,none⟩) 7 7)/\w1=W.alloc (.cells #[.int .i64 1,.int .i64 1,.int .i64 2,.int .i64 2,.int .i64 2,.int .i64 2,.int .i64 3] 3)) ?_ ?_
 ·obtain⟨o,b⟩:∃o,(aF Tryz.f3 7)[1]?=some o:=⟨_,B2⟩;obtain rfl:=iE b;have g1:(a.put (some 79) (.slice (some ⟨W.heap.size,0,none⟩) 7 7)).tmps[79]?=some (.slice (some ⟨W.heap.size,0,none⟩) 7 7):=lO AU;exact eG b rfl rfl (v:=.slice (some ⟨W.heap.size,0,none⟩) 7 7) (w1:=W.alloc (.cells #[.int .i64 1,.int .i64 1,.int .i64 2,.int .i64 2,.int .i64 2,.int .i64 2,.int .i64 3] 3)) BD ⟨rfl,rfl⟩
 rintro a1 w1 ⟨rfl,rfl⟩;refine e _ _ (af.new W _ _) ((Below.refl _ W).alloc Jr _) Dl C8 (lO Dl) fun s d c=>(kg (Ne.symm c)).trans (kg (Ne.symm d))
end
end bD
end Go.Proofs.YtoehnnefaeoeoaaGreat
