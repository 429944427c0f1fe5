import Derived.Test.YtnomloiacicoaaaGreatPAY
import Derived.Test.YtnomloiacicoaaaGreatPAZ
set_option linter.all false
set_option maxRecDepth 100000
set_option maxHeartbeats 16000000
namespace Go.Proofs.YtnomloiacicoaaaGreat
open Tryz
namespace aV
open Conc ConcM RowKit av bj cV dx bd b_ e9
section
variable{n0:Nat}
def azn(rs:List dQ)(w:aR)(hn:n0<=w.heap.size):bI vfc [.code (BH Tryz.f4)] (.R (dT Tryz.f4 3) (List.range' 1 8)::p4 Tryz.f4) (λa1 w1=>a1.defers=[]/\j6 123 ((20,eO (.I 0))::i8 n0 rs 0) a1 w1/\Below n0 w w1)
 ⟨#[undef,.I 40]++Array.replicate 121 undef,[]⟩ w:=by
 have a:i7 n0 (w.heap.size+1) (w.heap.size+2) (cm rs 0) (((w.alloc (.cells #[.N] 27)).alloc (.cells #[.I 1,.I 0,.N,.N,.N,.I 1,.I 0,.N,.N,.N,.I 2,.I 2,.N,.N,.N,.I 3,.I 0,.N,.N,.N] 45)).alloc (.cells #[.S (w.heap.size+1) 0 4 4] 27)) ((List.range 12).map λi=>⟨jV i,.N,[]⟩) #[.I 1,.I 0,.N,.N,.N,.I 1,.I 0,.N,.N,.N,.I 2,.I 2,.N,.N,.N,.I 3,.I 0,.N,.N,.N]:=by
  refine⟨?_,AS,?_,Y,λc x f=>?_,λj e=>⟨.N,?_,?_⟩,?_,AQ,AQ⟩
  .refine⟨λi hi=>?_,λi j hi e g l hg=>?_⟩
   .grind[World.ownsRow_nil]
   grind[Value.ownBlock]
  .have:=(ag.new (w.alloc (.cells #[.N] 27)) #[.I 1,.I 0,.N,.N,.N,.I 1,.I 0,.N,.N,.N,.I 2,.I 2,.N,.N,.N,.I 3,.I 0,.N,.N,.N] 45).alloc (.cells #[.S (w.heap.size+1) 0 4 4] 27);simp_all
  .simp at f;rcases f with⟨rfl,rfl⟩|⟨rfl,rfl⟩|⟨rfl,rfl⟩|⟨rfl,rfl⟩|⟨rfl,rfl⟩|⟨rfl,rfl⟩|⟨rfl,rfl⟩|⟨rfl,rfl⟩<;>rfl
  .simp[e,cm]
  .have o:j=0\/j=1\/j=2\/j=3\/j=4\/j=5\/j=6\/j=7\/j=8\/j=9\/j=10\/j=11:=by omega
   rcases o with rfl|rfl|rfl|rfl|rfl|rfl|rfl|rfl|rfl|rfl|rfl|rfl<;>rfl
  .have:=ag.new ((w.alloc (.cells #[.N] 27)).alloc (.cells #[.I 1,.I 0,.N,.N,.N,.I 1,.I 0,.N,.N,.N,.I 2,.I 2,.N,.N,.N,.I 3,.I 0,.N,.N,.N] 45)) #[.S (w.heap.size+1) 0 4 4] 27;simp_all
 have h:c6 w (((w.alloc (.cells #[.N] 27)).alloc (.cells #[.I 1,.I 0,.N,.N,.N,.I 1,.I 0,.N,.N,.N,.I 2,.I 2,.N,.N,.N,.I 3,.I 0,.N,.N,.N] 45)).alloc (.cells #[.S (w.heap.size+1) 0 4 4] 27)):=(((vaa _ w).alloc JR _).alloc AS _).alloc BA _;have b:ag (((w.alloc (.cells #[.N] 27)).alloc (.cells #[.I 1,.I 0,.N,.N,.N,.I 1,.I 0,.N,.N,.N,.I 2,.I 2,.N,.N,.N,.I 3,.I 0,.N,.N,.N] 45)).alloc (.cells #[.S (w.heap.size+1) 0 4 4] 27)) w.heap.size #[.N] 27:=((ag.new w _ _).alloc _).alloc _;have k:Hid _:=a;have n:Hid _:=h;have m:Hid _:=b;clear a h b;rw[azm];simp only[dT,az,rV,tX,BH,Ip,p4,FJ,Tryz.f4,vaf,bQ.eu,bQ.lA,bQ.pd,Nat.reduceBEq,vah,↓reduceIte,FI];simp[vbk];refine bC (DG ?_);go_wp2
 refine⟨Y,bC (DG ?_)⟩;go_wp2
 refine⟨Y,bC (bC (DG ?_))⟩;go_wp2
 refine⟨Y,tL (Km (bC (bC (uR (Ko 1 AF AF ?_)))))⟩;simp only[List.drop_zero,vdj,ves];go_wp2
 refine⟨Y,lV ⟨Y,⟨Y,λp d=>?_⟩,n.out.mono hn⟩⟩;simp only[i8,vaw,vbp,vdf]at d;rcases d with rfl|rfl|rfl|rfl|rfl
 .exact⟨_,Y,Y⟩
 .exact⟨_,Y,Y⟩
 .exact⟨_,Y,_,Y,hn,m.out⟩
 .exact⟨_,Y,_,_,_,_,Y,k.out⟩
 .exact⟨_,Y,Y⟩
end
section
variable{n0:Nat}
def azo rs(n:Nat)(h1:n<rs.length)(h2:n<40)a w(hd:a.defers=[])(hs:j6 123 ((20,eO (.I n))::(22,eO (.I rs.length))::i8 n0 rs n) a w):bI vfc (.R (dT Tryz.f4 3) (List.range' 3 6)::p4 Tryz.f4) (.R (dT Tryz.f4 5) (List.range' 0 6)::FJ Tryz.f4) (λa1 w1=>a1.defers=[]/\j6 123 (i8 n0 rs n) a1 w1/\Below n0 w w1) a w:=by
 obtain⟨hsz,b⟩:=hs;obtain⟨v20,l,v⟩:=b (20,eO (.I n)) AS;obtain⟨v22,k,u⟩:=b (22,eO (.I rs.length)) AS;obtain⟨v1,e1,r⟩:=b (1,eO (.I 40)) C0;obtain⟨y,e4,h4⟩:=b (4,FE n0) C0;obtain⟨x,eE,h⟩:=b (5,FD n0 (cm rs n)) C0;obtain⟨o,e,s⟩:=b (6,eO (.I n)) C0;have m:Hid _:=h4;have q:Hid _:=h;clear b h4 h;obtain rfl:v20=.I n:=v;obtain rfl:v22=.I rs.length:=u;obtain rfl:v1=.I 40:=r;obtain rfl:o=.I n:=s;obtain⟨f,rfl⟩:=Qt hsz hd;have j:f 20=_:=van (show some (f 20)=some _ from l);have i:f 22=_:=van (show some (f 22)=some _ from k);have g1:f 1=_:=van (show some (f 1)=some _ from e1);have d:f 6=_:=van (show some (f 6)=some _ from e);have jB:f 4=_:=van (show some (f 4)=some _ from e4);have c:f 5=_:=van (show some (f 5)=some _ from eE);clear l k e1 e e4 eE hsz hd;simp[j,i,g1,d,jB,c];clear j i g1 d jB c;have A:(n:Int)<(rs.length:Int):=AQ;have z:(n:Int)<40:=AQ;simp only[dT,az,rV,tX,BH,Ip,p4,FJ,Tryz.f4,vaf,bQ.eu,bQ.lA,bQ.pd,Nat.reduceBEq,vah,↓reduceIte,FI];refine Ko 6 AF AF ?_;simp only[List.drop_succ_cons,List.drop_zero,vdj,ves];go_wp2
 refine⟨Y,xW (gh (t:=true) Y ?_)⟩;rw[vca Y];refine nv (bC (tL (bC (uR (lV ⟨Y,⟨Y,λp g=>?_⟩,vaa _ _⟩)))));simp[i8]at g;rcases g with rfl|rfl|rfl|rfl
 .exact⟨_,Y,Y⟩
 .exact⟨_,Y,m.out⟩
 .exact⟨_,Y,q.out⟩
 .exact⟨_,Y,Y⟩
end
section
variable{n0:Nat}
def Al(n0:Nat)(i6:List a9):List (Nat×(aR->Value->Prop)):=[(4,Ib n0 i6),(122,Fs i6)]
def azp rs(n:Nat)(h1:n<=rs.length)(h2:n<=40)(h3:¬(n<rs.length/\n<40))a w(hd:a.defers=[])(hs:j6 123 ((20,eO (.I n))::(22,eO (.I rs.length))::i8 n0 rs n) a w):bI vfc (.R (dT Tryz.f4 3) (List.range' 3 6)::p4 Tryz.f4) [.code .ret] (λa1 w1=>a1.defers=[]/\j6 123 (Al n0 (kL (rs.take 40))) a1 w1/\Below n0 w w1) a w:=by
 obtain⟨hsz,b⟩:=hs;obtain⟨v20,s,B⟩:=b (20,eO (.I n)) AS;obtain⟨v22,q,A⟩:=b (22,eO (.I rs.length)) AS;obtain⟨v1,e1,x⟩:=b (1,eO (.I 40)) C0;obtain⟨D,e4,bV,rfl,h,h4⟩:=b (4,FE n0) C0;obtain⟨C,eE,cb,bS,L,cs,rfl,g⟩:=b (5,FD n0 (cm rs n)) C0;obtain⟨u,k,z⟩:=b (6,eO (.I n)) C0;clear b;obtain rfl:v20=.I n:=B;obtain rfl:v22=.I rs.length:=A;obtain rfl:v1=.I 40:=x;obtain rfl:u=.I n:=z;have v:rs.take n=rs.take 40:=by grind
 have dF:lv (w.setCell ⟨bV,0,none⟩ (.S cb 0 4 4)) (.S cb 0 4 4) (kL (rs.take 40)):=by rw[<-v];exact lv.kept (iN.set h4 (by grind[rG]) _ _) (axz g)
 have r:Below n0 w (w.setCell ⟨bV,0,none⟩ (.S cb 0 4 4)):=(vaa _ w).setCell (p:=⟨bV,0,none⟩) h _;have u4:ag (w.setCell ⟨bV,0,none⟩ (.S cb 0 4 4)) bV #[.S cb 0 4 4] 27:=h4.set 0 _;obtain⟨f1,I,f3⟩:=g.bS.all;obtain⟨f4,f5,H⟩:=h4.all;have c:Hid _:=dF;have BE:Hid _:=r;have e:Hid _:=u4;have d:Hid _:=h;clear dF r u4 h4 g h;obtain⟨f,rfl⟩:=Qt hsz hd;have o:f 20=_:=van (show some (f 20)=some _ from s);have m:f 22=_:=van (show some (f 22)=some _ from q);have g1:f 1=_:=van (show some (f 1)=some _ from e1);have j:f 6=_:=van (show some (f 6)=some _ from k);have jB:f 4=_:=van (show some (f 4)=some _ from e4);have i:f 5=_:=van (show some (f 5)=some _ from eE);clear s q e1 k e4 eE hsz hd;simp[o,m,g1,j,jB,i];clear o m g1 j jB i;simp only[dT,az,rV,tX,BH,Ip,p4,FJ,Tryz.f4,vaf,bQ.eu,bQ.lA,bQ.pd,Nat.reduceBEq,vah,↓reduceIte,FI];refine Ko 6 AF AF ?_;simp only[List.drop_succ_cons,List.drop_zero,vdj,ves];by_cases F:n<rs.length;all_goals
  first
   |(have y:(n:Int)<(rs.length:Int):=AQ)
   |(have y:¬(n:Int)<(rs.length:Int):=AQ)
  try(have E:¬(n:Int)<40:=AQ)
  go_wp2
  refine⟨Y,xW (gh (t:=false) Y ?_)⟩;rw[vby AF];refine DF Y (bC (DG ?_));go_wp2
  refine⟨Y,lV ⟨Y,⟨Y,λp l=>?_⟩,BE.out⟩⟩;simp[Al]at l;rcases l with rfl|rfl
  .exact⟨_,Y,_,_,Y,d.out,e.out,c.out⟩
  .exact⟨_,Y,_,Y,c.out⟩
end
section
variable{n0:Nat}
def azs{P c ks ks' Q d a w}(h:c.wp P (jg d) a w)(hq:∀a1 w1,d a1 w1->bI P ks ks' Q a1 w1):bI P (.code c::ks) ks' Q a w:=
 DG λb k cs=>let⟨e,a1,w1,⟨h1,h2⟩,h3⟩:=h b k cs;⟨e,a1,w1,⟨h1,hq _ _ h2⟩,h3⟩
def azt rs n(h2:n<40)a w(hd:a.defers=[])(hs:j6 123 [(1,eO (.I 40)),(4,FE n0),(5,FD n0 (cm rs (n+1))),(6,eO (.I n))] a w):bI vfc (.inBlock 1:: .code (.region 4 (az Tryz.f4 4) false)::FI Tryz.f4) (.R (dT Tryz.f4 3) (List.range' 1 8)::p4 Tryz.f4) (λa1 w1=>a1.defers=[]/\j6 123 ((20,eO (.I (n+1:Nat)))::i8 n0 rs (n+1)) a1 w1/\w1=w) a w:=by
 obtain⟨hsz,b⟩:=hs;obtain⟨v1,e1,m⟩:=b (1,eO (.I 40)) AS;obtain⟨s,e4,h4⟩:=b (4,FE n0) AS;obtain⟨r,eE,i⟩:=b (5,FD n0 (cm rs (n+1))) AS;obtain⟨k,g,q⟩:=b (6,eO (.I n)) AS;have j:Hid _:=h4;have l:Hid _:=i;clear b h4 i;obtain rfl:v1=.I 40:=m;obtain rfl:k=.I n:=q;obtain⟨f,rfl⟩:=Qt hsz hd;have g1:f 1=_:=van (show some (f 1)=some _ from e1);have d:f 6=_:=van (show some (f 6)=some _ from g);have jB:f 4=_:=van (show some (f 4)=some _ from e4);have c:f 5=_:=van (show some (f 5)=some _ from eE);clear e1 g e4 eE hsz hd;simp only[g1,d,jB,c];clear g1 d jB c;have e:(n:Int)+1=((n+1:Nat):Int):=AQ;have z9:Hid _:=e;clear e;refine DD ?_;have o:(az Tryz.f4 4).size=3:=AD;simp only[FI,p4];refine DG ?_;have hq:az Tryz.f4 4=(az Tryz.f4 4):=rfl;simp only[az,rV,Tryz.f4,vaf,Nat.reduceBEq,vah,↓reduceIte];go_wp2
 refine⟨Y,Kn ?_⟩;simp only[dT,az,rV,tX,BH,Ip,p4,FJ,Tryz.f4,vaf,bQ.eu,bQ.lA,bQ.pd,Nat.reduceBEq,vah,↓reduceIte];refine bC (bC (uR (Ko 1 AF AF ?_)));simp only[List.drop_zero,vdj,ves];go_wp2
 refine⟨Y,lV ⟨Y,⟨Y,λp h=>?_⟩,Y⟩⟩;simp only[i8,vaw,vbp,vdf]at h;rcases h with rfl|rfl|rfl|rfl|rfl
 .simp_all[eO]
 .exact⟨_,Y,Y⟩
 .exact⟨_,Y,j.out⟩
 .exact⟨_,Y,l.out⟩
 simp_all[eO]
end
section
variable{n0:Nat}
def azu rs n(h1:n<rs.length)(h2:n<40)(N:ek rs[n].1)(M:ek rs[n].2.1)(K:ek rs[n].2.2.1)(J:ek rs[n].2.2.2)a w(hn:n0<=w.heap.size)(hd:a.defers=[])(hs:j6 123 ((34,eO (.agg #[.I rs[n].1,.I rs[n].2.1,.I rs[n].2.2.1,.I rs[n].2.2.2]))::i8 n0 rs n) a w):bI vfc (.R (dT Tryz.f4 5) (List.range' 4 2)::FJ Tryz.f4) (.R (dT Tryz.f4 3) (List.range' 1 8)::p4 Tryz.f4) (λa1 w1=>a1.defers=[]/\j6 123 ((20,eO (.I (n+1:Nat)))::i8 n0 rs (n+1)) a1 w1/\Below n0 w w1) a w:=by
 obtain⟨hsz,b⟩:=hs;obtain⟨v34,d,q⟩:=b (34,eO (.agg #[.I rs[n].1,.I rs[n].2.1,.I rs[n].2.2.1,.I rs[n].2.2.2])) AS;obtain⟨v1,e1,I⟩:=b (1,eO (.I 40)) C0;obtain⟨V,e4,bV,rfl,A,h4⟩:=b (4,FE n0) C0;obtain⟨U,eE,cb,bS,L,cs,rfl,g⟩:=b (5,FD n0 (cm rs n)) C0;obtain⟨D,y,O⟩:=b (6,eO (.I n)) C0;clear b;obtain rfl:v34=.agg #[.I rs[n].1,.I rs[n].2.1,.I rs[n].2.2.1,.I rs[n].2.2.2]:=q;obtain rfl:v1=.I 40:=I;obtain rfl:D=.I n:=O;have j:=(vaa w.heap.size w).alloc JR (.cells #[.I rs[n].1,.I rs[n].2.1,.I rs[n].2.2.1,.I rs[n].2.2.2] 51);have u:ag (w.alloc (.cells #[.I rs[n].1,.I rs[n].2.1,.I rs[n].2.2.1,.I rs[n].2.2.2] 51)) w.heap.size #[.I rs[n].1,.I rs[n].2.1,.I rs[n].2.2.1,.I rs[n].2.2.2] 51:=ag.new w _ _;have q4:=h4.call j;have i:=g.below j;have t:Below n0 w (w.alloc (.cells #[.I rs[n].1,.I rs[n].2.1,.I rs[n].2.2.1,.I rs[n].2.2.2] 51)):=j.mono hn;have C:iz L w.heap.size:=g.gY.ol AA;have s:cb≠w.heap.size:=by have:=g.box.lt;omega
 have r:cb≠bV:=λe=>by have e1:=g.box;rw[e]at e1;have e2:w.heap[bV]?=some (.cells cs 45):=e1;rw[show w.heap[bV]?=some (.cells #[.N] 27)from h4]at e2;cases e2
 have S:Hid _:=u;have B:Hid _:=q4;have o:Hid _:=i;have P:Hid _:=t;have m:Hid _:=A;clear u q4 i t j h4 g A;obtain⟨f,rfl⟩:=Qt hsz hd;have c:f 34=_:=van (show some (f 34)=some _ from d);have g1:f 1=_:=van (show some (f 1)=some _ from e1);have x:f 6=_:=van (show some (f 6)=some _ from y);have jB:f 4=_:=van (show some (f 4)=some _ from e4);have v:f 5=_:=van (show some (f 5)=some _ from eE);clear d e1 y e4 eE hsz hd;simp only[c,g1,x,jB,v];clear c g1 x jB v;have step:∀(k:uab)(Q:uae),bI vfc k (.R (dT Tryz.f4 3) (List.range' 1 8)::p4 Tryz.f4) Q ⟨#[(f 0),.I 40,(f 2),(f 3),.P bV 0,.P bS 0,.I n,.P w.heap.size 0,(f 8),(f 9),(f 10),(f 11),(f 12),(f 13),(f 14),(f 15),(f 16),(f 17),(f 18),(f 19),(f 20),(f 21),(f 22),(f 23),(f 24),(f 25),(f 26),(f 27),(f 28),(f 29),(f 30),(f 31),(f 32),(f 33),.agg #[.I rs[n].1,.I rs[n].2.1,.I rs[n].2.2.1,.I rs[n].2.2.2],(f 35),(f 36),(f 37),(f 38),(f 39),(f 40),(f 41),(f 42),(f 43),(f 44),(f 45),(f 46),(f 47),(f 48),(f 49),(f 50),(f 51),(f 52),(f 53),(f 54),(f 55),(f 56),(f 57),(f 58),(f 59),(f 60),(f 61),(f 62),(f 63),(f 64),(f 65),(f 66),(f 67),(f 68),(f 69),(f 70),(f 71),(f 72),(f 73),(f 74),(f 75),(f 76),(f 77),(f 78),(f 79),(f 80),(f 81),(f 82),(f 83),(f 84),(f 85),(f 86),(f 87),(f 88),(f 89),(f 90),(f 91),(f 92),(f 93),(f 94),(f 95),(f 96),(f 97),(f 98),(f 99),(f 100),(f 101),(f 102),(f 103),(f 104),(f 105),(f 106),(f 107),(f 108),(f 109),(f 110),(f 111),(f 112),(f 113),(f 114),(f 115),(f 116),(f 117),(f 118),(f 119),(f 120),(f 121),(f 122)],[]⟩ (w.alloc (.cells #[.I rs[n].1,.I rs[n].2.1,.I rs[n].2.2.1,.I rs[n].2.2.2] 51))->bI vfc (.R (dT Tryz.f4 5) (List.range' 4 2)::k) (.R (dT Tryz.f4 3) (List.range' 1 8)::p4 Tryz.f4) Q ⟨#[(f 0),.I 40,(f 2),(f 3),.P bV 0,.P bS 0,.I n,(f 7),(f 8),(f 9),(f 10),(f 11),(f 12),(f 13),(f 14),(f 15),(f 16),(f 17),(f 18),(f 19),(f 20),(f 21),(f 22),(f 23),(f 24),(f 25),(f 26),(f 27),(f 28),(f 29),(f 30),(f 31),(f 32),(f 33),.agg #[.I rs[n].1,.I rs[n].2.1,.I rs[n].2.2.1,.I rs[n].2.2.2],(f 35),(f 36),(f 37),(f 38),(f 39),(f 40),(f 41),(f 42),(f 43),(f 44),(f 45),(f 46),(f 47),(f 48),(f 49),(f 50),(f 51),(f 52),(f 53),(f 54),(f 55),(f 56),(f 57),(f 58),(f 59),(f 60),(f 61),(f 62),(f 63),(f 64),(f 65),(f 66),(f 67),(f 68),(f 69),(f 70),(f 71),(f 72),(f 73),(f 74),(f 75),(f 76),(f 77),(f 78),(f 79),(f 80),(f 81),(f 82),(f 83),(f 84),(f 85),(f 86),(f 87),(f 88),(f 89),(f 90),(f 91),(f 92),(f 93),(f 94),(f 95),(f 96),(f 97),(f 98),(f 99),(f 100),(f 101),(f 102),(f 103),(f 104),(f 105),(f 106),(f 107),(f 108),(f 109),(f 110),(f 111),(f 112),(f 113),(f 114),(f 115),(f 116),(f 117),(f 118),(f 119),(f 120),(f 121),(f 122)],[]⟩ w:=by
  intro k Q h;have H:Hid _:=h;clear h;simp only[dT,Tryz.f4,vaf,bQ.eu,bQ.pd,Nat.reduceBEq,vah,↓reduceIte]at H⊢;refine Ko 2 AF AF ?_;simp only[List.drop_succ_cons,List.drop_zero,vdj,ves];go_wp2
  exact⟨Y,xW H.out⟩
 refine step _ _ (azs (wpIn_wide.1 (axN rs n h1 h2 N M K J n0 cb bV bS w.heap.size w (w.alloc (.cells #[.I rs[n].1,.I rs[n].2.1,.I rs[n].2.2.1,.I rs[n].2.2.2] 51)) L cs hn o.out S.out B.out P.out C s r (f 0) (f 2) (f 3) (.P bV 0) (f 8) (f 9) (f 10) (f 11) (f 12) (f 13) (f 14) (f 15) (f 16) (f 17) (f 18) (f 19) (f 20) (f 21) (f 22) (f 23) (f 24) (f 25) (f 26) (f 27) (f 28) (f 29) (f 30) (f 31) (f 32) (f 33) (.agg #[.I rs[n].1,.I rs[n].2.1,.I rs[n].2.2.1,.I rs[n].2.2.2]) (f 35) (f 36) (f 37) (f 38) (f 39) (f 40) (f 41) (f 42) (f 43) (f 44) (f 45) (f 46) (f 47) (f 48) (f 49) (f 50) (f 51) (f 52) (f 53) (f 54) (f 55) (f 56) (f 57) (f 58) (f 59) (f 60) (f 61) (f 62) (f 63) (f 64) (f 65) (f 66) (f 67) (f 68) (f 69) (f 70) (f 71) (f 72) (f 73) (f 74) (f 75) (f 76) (f 77) (f 78) (f 79) (f 80) (f 81) (f 82) (f 83) (f 84) (f 85) (f 86) (f 87) (f 88) (f 89) (f 90) (f 91) (f 92) (f 93) (f 94) (f 95) (f 96) (f 97) (f 98) (f 99) (f 100) (f 101) (f 102) (f 103) (f 104) (f 105) (f 106) (f 107) (f 108) (f 109) (f 110) (f 111) (f 112) (f 113) (f 114) (f 115) (f 116) (f 117) (f 118) (f 119) (f 120) (f 121) (f 122))) ?_);rintro a1 w1 ⟨⟨aZ,a3,q3,q4,i,F⟩,⟨R,cs1,r1⟩,E,W⟩;intro fb l;obtain⟨a6,T,⟨g1,Z,X⟩,jB⟩:=azt rs n h2 a1 w1 aZ ⟨a3,λp z=>by
  simp at z;rcases z with rfl|rfl|rfl|rfl
  .exact⟨_,q3,Y⟩
  .exact⟨_,q4,bV,Y,m.out,E⟩
  .exact⟨_,i,cb,bS,R,cs1,Y,r1⟩
  .exact⟨_,F,Y⟩⟩ fb l
 grind
end
section
open gD
variable{O:gW}
section
variable{P:cE}{Post:hV}{n:Nat}{Shun:ual}{M aD:dL}{w w0:aR}{f:uak}{a b nW:Act}{k:uab}{cs:hH}{N:Nat}{K L K':b6}{ops:fF}{S:oF}
def azW{id:Nat}(hC:(dr P).Good)(U:P.follows .mixedOrders=true)(hf:jQ P f){D:fT}(hD:Ij P ops k D)(hk:(Item.inRegion ops []::k).all (fB P)=true)(p:Iv O P N K aD w0 nW)(aM:∀s F,L s=some F->F.ok w0.heap.size)(gH:K0 ops S=true)(V2:qE L ops.toList=true)(C:qE K ops.toList=true){g:Oper}{d:Nat}{gf:uak}{cA:Func}{gV:Code}{args:uay}{ats:uaq}(l:ops[S.g]?=some g)(z:g.op=.call {callee:=.value (.func gf),args,argTypes:=ats})(R:P.funcs[gf]?=some cA)(kF:(cA.name== "runtime.NumGoroutine")=false)(hb:cA.body=some gV)(c_:g.guard=none)(Z:gD.hX D.1 g=true)(hn:n+16*d<=200){gJ:Tmp}(x:g.dst=some gJ){cW:bg}(hq:tW (ae P true) N w0.heap.size ops S L K cW (λE=>∀a M w,ak N E a w->aJ (b7 M) a.tmps a.tmps->fZ O P Post gf (args.map a.eval) M w d (λu _ w'=>cW.R w' u/\dy M w w')) ops.toList 0 (λ_=>none) K K')(X:jv D a b)(H:Held O P aD w0 w0.heap.size a M w Shun)(MW:FK K nW a)(h0:ak N L a w)(ki:∀a b M' w' m v,ak N K a w'->ak N K' a w'->m<=n+16*d->Held O P aD w0 w0.heap.size a M' w' v->jv D a b->FK K nW a->bT P Post m v 0 (a4 ((base f).at b (.R ops []::k)) cs) w'):
 bT P Post n Shun 0 (a4 ((base f).at b (.code (.region id ops true)::k)) cs) w:=by
 obtain⟨B,h1,h2⟩:=zh.all hq;have c:=mW.of (Q:=λ_=>none) gH V2 Hf C;have t:∀(j:Nat) o,ops[j]?=some o->_:=λj o J=>h1 j o AA;simp only[vbs]at t;have V3:∀j,j<ops.size->(B j).ok w0.heap.size:=λj hj=>by obtain⟨d',-,-,q,-⟩:=t j _ (vas hj);exact q
 obtain⟨auL,e1,e2,-,-,e3⟩:=t S.g g l;unfold BF at e3;unfold rS at e1;simp only[c.g.2]at e3 e1;rw[x]at e1;cases e1;obtain⟨-,eE,iB⟩:_/\_/\B S.g=cW:=e3.resolve_right λh=>absurd Y h.1;refine azV hC U hf hD hk p (λi o d h1 h2=>(c.l i o d h1 h2).2.2) S.g l z R kF hb c_ Z hn (I:=mX N ops S L (λ_=>none) B) (λar=>Wm aM (λ_ _ e=>GA) V3) x e2 (iP:=cW.R) (λar a w h=>⟨h.len,h.size⟩) X H MW (mX.start h0 ⟨h0.size,λ_ _ e=>GA⟩) ?_ ?_ ?_ ?_
 .intro ar a W i o hKn h hd hW T lf J r;exact h.step c (λ_ _ e=>GA) t hKn T hW lf J r
 .intro ar a M w Shun A hKn h y r;exact eE a M w (h.env c hKn l y r) A.all
 .intro ar a w u h y r hu;exact h.put c l x c.g.2 e2 y (vaa _ _) (by rw[iB];exact hu)
 .intro ar a b M' w' m v hKn h hr V A W8 Db;exact ki a b M' w' m v hKn (h.dF c hKn hr (λs F e=>.inl e) h2) V A W8 Db
end
end
section
variable{O:gW}
structure F4(t:List a9)(S:Nat)(kN:List cP):Prop where
 right:nh t=true
 dk:q_ t=GF
 rows:F1 (mU t 0 S) jN
 h0:0<t.length
 size:t[0].ff.length=S
 vv:∀i,i<S->∀c∈t,xy i c
 out:∀af,0<af->af<=64->wZ (mU t 0 S) [0] jN af=kN
theorem aDg{d c}(h:m7 c d):(jX d jN).length=6:=QV Y h.l8
theorem aDh{d c}(h:m7 c d):∀v∈jX d jN,v.text.size<=1000:=by
 intro v hv;rcases vaw.1 hv with rfl|hv
 .exact h.key
 .obtain⟨k,hk,rfl⟩:=vbj hv;rw[vde];have ht:=h.i_ _ (vae (show k<d.c9.length by grind));have h1:=ht.tl;have h2:=ht.sL;have h0:g5.size<=1000:=AF;unfold iw;split
  .exact h0
  .split
   .exact h0
   grind
section
variable{t:List a9}{S:Nat}{kN:List cP}{Post:hV}{W af:Nat}{M:dL}{w:aR}{bB cf:Value}
def F4.aDi(h:F4 t S kN):kN.length<=40/\∀r∈kN,r.1.length=1/\r.2.length=6/\∀v∈r.2,v.text.size<=1000:=by
 obtain⟨a,c⟩:=kH h.rows (af:=1) AF;have e:=h.out 1 AF AF;have f:=LZ (jj (lH (m6 (mU t 0 S) [0] jN) 1 (mU t 0 S).length) (((mU t 0 S).length+1-1) / 1));refine⟨?_,λr b=>?_⟩
 .grind[wZ,Q8]
 .rw[<-e,wZ,Q8]at b;obtain⟨d,hd,rfl⟩:=vbl.1 b;have hs:=Q9 a d hd;grind[aDg,aDh]
def aDj(h:F4 t S kN)w bB cf(b:Ad t w bB)(f:Ae w cf):Calls vfc 17 #[bB,cf] w λe w'=>∃v,e=.returned v/\(Fy 2 mF).R w' v/\c6 w w':=by obtain⟨a_,a,d,Me,rfl,o,n⟩:=b;obtain⟨k,no,m,ka,bZ,l,gc,rfl,j⟩:=f;refine(avZ t a_ a d k no m ka bZ l gc w ⟨_,_,Y,AS,λi hi=>⟨a_,a,Y,Me,?_⟩⟩ h.right j h.dk).mono λe w'⟨g,c,v,h1,h2,h3,h4⟩=>⟨_,h1,⟨_,Y,g,c,v,Y,h2,h3⟩,h4⟩;grind
def aDk(h:F4 t S kN)(h1:0<W)(h2:W<=16)(h3:0<af)(h4:af<=64)(f:aJ (b7 M) #[bB,cf] #[bB,cf])(c:Ad t w bB)(e:Ae w cf):
 fZ O prog Post 15 #[bB,cf,.I W,.I af,.I 0,.I 9223372036854775807] M w 4 (λu _ w'=>Af (mP mF (kd kN) kN.length) w' u/\dy M w w'):=by
 obtain⟨o1,o2⟩:=h.aDi;have l:S<=40:=by have:=h.rows.len;rwa[DK,Nat.sub_zero]at this
 refine aw8 (ii:=Pu t) (ij:=Pv) (λ_=>trivial) (λ_=>trivial) f c e h1 h2 h3 h4 AF AF AQ (λr a=>(o2 r a).2.1) (λr a d hd=>vad ((o2 r a).2.2 d hd) AF) (aDj h) λM w bB cf f c e=>?_;refine avG (ns:=Pr) (ts:=[t]) (f_:=[mU t 0 S,kN]) f (av9 c) (av8 e) Y AF AF (λx b=>?_) Y λk bN x g b args M w j hk=>?_
 .simp only[vaw,vbp,vdf]at b;rcases b with rfl|rfl
  .refine⟨by rw[DK];omega,λr a=>?_⟩;have h4:=h.rows.four r a;obtain⟨i,hi,rfl⟩:=vbj a;rw[h.rows.place i hi];grind
  .exact⟨AQ,λr a=>AA⟩
 .match k with|0=>cases g;cases b;exact fZ.more (d:=1) (avr j (hk.aT ⟨Y,Y,Y,NE⟩) h.h0 (by have:=h.rows.l8;have:=h.right;grind[nh]) h3 h4 h1 h2 AQ h.size h.vv) AF|1=>cases g;cases b;have:=aC0 (O:=O) (Post:=Post) h.rows h1 h2 h3 h4 j (hk.aT ⟨Y,Y,Y,NE⟩) (D:=[mU t 0 S]) Y;rw[h.out af h3 h4]at this;grind|k+2=>grind
def aDl(h:F4 t S kN){x y}(d:ek x)(c:ek y)(f:aJ (b7 M) #[bB,cf] #[bB,cf])(a:Ad t w bB)(b:Ae w cf):
 fZ O prog Post 5 #[.agg #[.I x,.I y],bB,cf] M w 4 (λu _ w'=>Ic (mP mF (kd kN) kN.length) w' u/\dy M w w'):=
 axm (ii:=Pu t) (ij:=Pv) (λ_=>trivial) (λ_=>trivial) d c f a b λW af h1 h2 h3 h4 M w bB cf e t n=>aDk h h1 h2 h3 h4 e t n
end
end
end aV
namespace aV
open RowKit av bd b_
structure jk where
 n:Int
 some:Int
 sum:Int
 vr:Bool
 least:Int
 last:ByteArray
 texts:Bool
def jk.zero:jk:=⟨0,0,0,false,0,g5,false⟩
def jk.step(s:jk)(v1 v2 v3:bz):jk:=
 ⟨s.n+1,if v1.bR then s.some else s.some+1,if v2.bR then s.sum else s.sum+v2.num,s.vr|| !v2.bR,
  if !v1.bR&&(s.some==0||decide (v1.num<s.least))then v1.num else s.least,
  if !v3.bR&&(!s.texts||Op.bytesLess s.last.toList v3.text.toList)then v3.text else s.last,s.texts|| !v3.bR⟩
structure XX(vals:List bz):Prop where
 four:vals.length=4
 v1:(vals.getD 1 du).text=g5
 v3:(vals.getD 3 du).num=0
structure IL(s:jk)(ts:List dn):Prop where
 len:ts.length=5
 h0:(ts.getD 0 cI).held=s.n
 h1:(ts.getD 1 cI).held=s.some
 h2:(ts.getD 2 cI).held=0↔s.vr=false
 j2:0<=(ts.getD 2 cI).held
 tb:(ts.getD 2 cI).sum=s.sum\/s.vr=false
 gG:s.vr=false->s.sum=0
 h3:(ts.getD 3 cI).held=s.some
 ja:s.some≠0->(ts.getD 3 cI).least.num=s.least/\(ts.getD 3 cI).least.bR=false/\(ts.getD 3 cI).least.text=g5
 fx:s.some=0->s.least=0
 h4:(ts.getD 4 cI).held=0↔s.texts=false
 Ah:0<=(ts.getD 4 cI).held
 jB:s.texts=true->(ts.getD 4 cI).greatest.text=s.last/\(ts.getD 4 cI).greatest.bR=false/\(ts.getD 4 cI).greatest.num=0
 FB:s.texts=false->s.last=g5
 n0:0<=s.n
 Ns:0<=s.some
def aDm vals{k}(hk:k<5):(kv vals jN).getD k cI=lG (Aq vals (jN.getD k (0,0)).2):=by match k,hk with|0,_=>rfl|1,_=>rfl|2,_=>rfl|3,_=>rfl|4,_=>rfl
def aDn{a b}(d:a.length=5)(c:b.length=5){k}(hk:k<5):(l7 a b).getD k cI=eP (a.getD k cI) (b.getD k cI):=by have h1:k<a.length:=AQ;have h2:k<b.length:=AQ;have h3:k<(List.zipWith eP a b).length:=AA;grind[l7]
theorem XY vals:(kv vals jN).length=5:=rfl
variable{t:dn}{v:bz}
def Rh(h:v.bR=true):eP t (lG v)=if t.held=0 then cI else t:=by simp only[lG,h,vcx,eP,cI]
theorem Ri(h:v.bR=false)(h0:t.held=0):eP t (lG v)=⟨1,v.num,v,v⟩:=by simp[lG,h,eP,h0]
theorem Rj(h:v.bR=false)(h0:t.held≠0):eP t (lG v)=⟨t.held+1,t.sum+v.num,if m3 v t.least<0 then v else t.least,if 0<m3 v t.greatest then v else t.greatest⟩:=by simp[lG,h,eP,h0]
def Mn(ht:0<=t.held):(eP t (lG v)).held=if v.bR then t.held else t.held+1:=by
 cases h:v.bR with
 |true=>
  rw[Rh h,vca Y];split
  .rename_i e;rw[e];rfl
  .rfl
 |false=>grind[Ri,Rj]
variable{y:bz}
def aDo{x}(b:x.text=g5)(a:y.text=g5):m3 x y<0↔x.num<y.num:=by grind[FW,s8,Q_]
def aDp{x}(b:x.num=0)(a:y.num=0):0<m3 x y↔Op.bytesLess y.text.toList x.text.toList=true:=by grind[FX,s8]
theorem IL.step{s ts vals}(h:IL s ts)(hv:XX vals):IL (s.step (vals.getD 1 du) (vals.getD 2 du) (vals.getD 3 du)) (l7 ts (kv vals jN)):=by
 have e:∀k,k<5->(l7 ts (kv vals jN)).getD k cI=eP (ts.getD k cI) (lG (Aq vals (jN.getD k (0,0)).2)):=λk hk=>by rw[aDn h.len (XY _) hk,aDm vals hk]
 have e0:(l7 ts (kv vals jN)).getD 0 cI=eP (ts.getD 0 cI) (lG du):=e 0 AF;have e1:(l7 ts (kv vals jN)).getD 1 cI=eP (ts.getD 1 cI) (lG (vals.getD 1 du)):=e 1 AF;have e2:(l7 ts (kv vals jN)).getD 2 cI=eP (ts.getD 2 cI) (lG (vals.getD 2 du)):=e 2 AF;have e3:(l7 ts (kv vals jN)).getD 3 cI=eP (ts.getD 3 cI) (lG (vals.getD 1 du)):=e 3 AF;have e4:(l7 ts (kv vals jN)).getD 4 cI=eP (ts.getD 4 cI) (lG (vals.getD 3 du)):=e 4 AF;have d:=hv.v1;have c:=hv.v3;have o:(l7 ts (kv vals jN)).length=5:=LY h.len (XY _);generalize vals.getD 1 du=v1 at e1 e3 d⊢;generalize vals.getD 2 du=v2 at e2⊢;generalize vals.getD 3 du=v3 at e4 c⊢;have n0:=h.n0;have Ns:=h.Ns;have q0:=h.h0;have aZ:=h.h1;have a3:=h.h2;have j2:=h.j2;have tb:=h.tb;have gG:=h.gG;have q3:=h.h3;have ja:=h.ja;have fx:=h.fx;have q4:=h.h4;have Ah:=h.Ah;have jB:=h.jB;have FB:=h.FB;have q:=Mn (t:=ts.getD 0 cI) (v:=du) AQ;have j:=Mn (t:=ts.getD 1 cI) (v:=v1) AQ;have i:=Mn (t:=ts.getD 2 cI) (v:=v2) j2;have g:=Mn (t:=ts.getD 3 cI) (v:=v1) AQ;have f:=Mn (t:=ts.getD 4 cI) (v:=v3) Ah;clear e h;generalize ts.getD 0 cI=w at *;generalize ts.getD 1 cI=z at *;generalize ts.getD 2 cI=p at *;generalize ts.getD 3 cI=y at *;generalize ts.getD 4 cI=l at *;refine⟨o,?_,?_,?_,?_,?_,?_,?_,?_,?_,?_,?_,?_,?_,?_,?_⟩
 .rw[e0,q,q0];rfl
 .rw[e1,j,aZ];rfl
 .rw[e2,i];simp only[jk.step];grind
 .grind
 .rw[e2];simp only[jk.step];cases hn:v2.bR with
  |true=>rw[Rh hn];grind
  |false=>
   left;by_cases a:p.held=0
   .simp_all[Ri]
   simp_all[Rj]
 .simp_all[jk.step]
 .rw[e3,g,q3];rfl
 .rw[e3];simp only[jk.step];cases hn:v1.bR with
  |true=>rw[Rh hn];grind
  |false=>
   intro _;by_cases a:s.some=0
   .simp_all[Ri]
   .obtain⟨a1,u,b⟩:=ja a;rw[Rj hn AQ];have n:=aDo d b;grind
 .simp only[jk.step];grind
 .rw[e4,f];simp only[jk.step];grind
 .grind
 .rw[e4];simp only[jk.step];cases hn:v3.bR with|true=>rw[Rh hn];grind|false=>intro _;cases m:s.texts with|false=>simp_all[Ri]|true=>obtain⟨a1,u,b⟩:=jB m;have a:l.held≠0:=λx=>AA;rw[Rj hn a];have r:=aDp c b;grind
 .simp_all[jk.step]
 .grind[jk.step]
 grind[jk.step]
def aDq:IL .zero [cI,cI,cI,cI,cI]:=by refine⟨Y,Y,Y,⟨λ_=>Y,λ_=>Y⟩,AF,.inl Y,λ_=>Y,Y,λh=>absurd Y h,λ_=>Y,⟨λ_=>Y,λ_=>Y⟩,AF,λh=>I5,λ_=>Y,AF,AF⟩
def aDr{ts}(h:ts.length=5):l7 [cI,cI,cI,cI,cI] ts=ts:=by match ts,h with| [a,b,c,d,e],_=>simp[l7,eP,cI]
def lI(G:Nat->aG)(V:Nat->List bz)(i:Nat):Nat->jk
 |0=>.zero
 |t+1=>if t=i\/(i<t/\l6 (G t).key (G i).key=true)then(lI G V i t).step ((V t).getD 1 du) ((V t).getD 2 du) ((V t).getD 3 du)else lI G V i t
theorem XZ G V i:∀t,t<=i->lI G V i t=.zero
 |0,_=>rfl
 |t+1,h=>by rw[lI,vby AQ,XZ G V i t AQ]
variable{i n:Nat}
theorem jO{G V}(b:∀t,t<n->(G t).c9=kv (V t) jN)(a:∀t,t<n->XX (V t)):∀t,i<t->t<=n->IL (lI G V i t) (r8 G i t)
 |t+1,h,hn=>by
  by_cases e:t=i
  .subst e;rw[lI,vca Jv,XZ G V t t JR,XW G t (t+1) JR,b t AQ,<-aDr (XY (V t))];exact aDq.step (a t AQ)
  .have c:=jO b a t AQ AQ;by_cases hk:l6 (G t).key (G i).key=true
   .rw[lI,vca (.inr ⟨AQ,hk⟩),r8,vca ⟨AQ,hk⟩,b t AQ];exact c.step (a t AQ)
   simp_all[lI,r8]
structure jH(s:jk)(vs:List bz):Prop where
 o1:(vs.getD 1 h9).bR=false/\(vs.getD 1 h9).num=s.n
 o2:(vs.getD 2 h9).bR=false/\(vs.getD 2 h9).num=s.some
 o3:(vs.getD 3 h9).bR= !s.vr/\(vs.getD 3 h9).num=s.sum
 o4:(vs.getD 4 h9).bR=(s.some==0)/\(vs.getD 4 h9).num=s.least
 Le:(vs.getD 5 h9).bR= !s.texts/\(vs.getD 5 h9).text=s.last
def aDs{s d}(h:IL s d.c9)(hs:nX (d.c9.getD 2 cI).sum):jH s (jX d jN):=by
 have k:=h.len;obtain⟨c5,pa,iY,key,ts⟩:=d;simp only at h k hs;match ts,k with
 | [g,i,a,f,b],_=>
  have q0:g.held=s.n:=h.h0;have aZ:i.held=s.some:=h.h1;have a3:a.held=0↔s.vr=false:=h.h2;have tb:a.sum=s.sum\/s.vr=false:=h.tb;have q3:f.held=s.some:=h.h3;have ja:s.some≠0->f.least.num=s.least/\f.least.bR=false/\f.least.text=g5:=h.ja;have q4:b.held=0↔s.texts=false:=h.h4;have jB:s.texts=true->b.greatest.text=s.last/\b.greatest.bR=false/\b.greatest.num=0:=h.jB;have hs:nX a.sum:=hs;have j:jX ⟨c5,pa,iY,key,[g,i,a,f,b]⟩ jN=[key.1,iw 1 g,iw 1 i,iw 2 a,iw 3 f,iw 4 b]:=rfl;rw[j];refine⟨⟨Y,q0⟩,⟨Y,aZ⟩,?_,?_,?_⟩
  .show(iw 2 a).bR=_/\(iw 2 a).num=_;by_cases c:a.held=0
   .have e:=a3.1 c;have:iw 2 a=h9:=by simp[iw,c]
    rw[this,e,h.gG e];exact⟨Y,Y⟩
   .have e:s.vr=true:=by grind
    have:iw 2 a=⟨false,s2 a.sum,a.least.dg,g5⟩:=by simp[iw,c]
    grind[yH]
  .show(iw 3 f).bR=_/\(iw 3 f).num=_;by_cases c:s.some=0
   .have:iw 3 f=h9:=by grind[iw]
    rw[this,h.fx c,c];exact⟨Y,Y⟩
   simp_all[iw]
  .show(iw 4 b).bR=_/\(iw 4 b).text=_;by_cases c:b.held=0
   .have e:=q4.1 c;have:iw 4 b=h9:=by simp[iw,c]
    rw[this,e,h.FB e];exact⟨Y,Y⟩
   simp_all[iw]
def t_(G:Nat->aG)(i j:Nat):Bool:=(List.range i).any λk=>decide (k<=j)&&l6 (G k).key (G j).key
variable{j:Nat}
theorem Rk{G}:t_ G i j=true↔∃k,k<i/\k<=j/\(G k).key=(G j).key:=by simp_all[t_,r6]
theorem aDu G j:t_ G 0 j=false:=rfl
theorem qi G i:t_ G i i= !m8 G i:=by cases h:m8 G i with|true=>grind[Rk,Mm]|false=>refine Rk.2 ?_;obtain⟨k,h1,h2,h3⟩:=jU G i;grind
def qc G i j:t_ G (i+1) j=(t_ G i j||(decide (i<=j)&&l6 (G i).key (G j).key)):=by grind[t_]
def aDv{G}(h:m8 G i=false)j:t_ G (i+1) j=t_ G i j:=by
 rw[qc];cases hq:decide (i<=j)&&l6 (G i).key (G j).key with
 |false=>simp
 |true=>
  rw[vag,vew,r6]at hq;have hd:t_ G i i=true:=by rw[qi,h];rfl
  obtain⟨k,h1,h2,h3⟩:=Rk.1 hd;rw[Rk.2 ⟨k,h1,AQ,h3.trans hq.2⟩];rfl
theorem pZ G i:∀n,i<=n->∃l,fm G n=fm G i++l
 |0,h=>BB
 |n+1,h=>by
  by_cases e:i=n+1
  .simp_all
  .obtain⟨l,a⟩:=pZ G i n AQ;grind[Re]
def Rl{G}(hi:i<n)(h:m8 G i=true):(fm G n)[(fm G i).length]?=some i/\(fm G i).length<(fm G n).length:=by obtain⟨l,a⟩:=pZ G (i+1) n hi;simp_all[Re]
def X0 G i:(fm G (i+1)).length=if m8 G i then(fm G i).length+1 else(fm G i).length:=by grind[Re]
def aDw{rs aF}(hi:i<rs.length)(h:m8 (m6 rs [0] aF) i=true):(F3 rs [0] aF)[(fm (m6 rs [0] aF) i).length]?=some ([(i:Int)],jX (t9 (m6 rs [0] aF) rs.length i) aF):=by unfold F3;rw[Rg,List.map_map,vbf,(Rl hi h).1];rfl
def aDx rs aF:(F3 rs [0] aF).length=(fm (m6 rs [0] aF) rs.length).length:=by grind[F3,Rg]
open e9
def yp(rs:List dQ):List cP:=mU (kL rs) 0 rs.length
def kw(rs:List dQ)(i:Nat):aG:=m6 (yp rs) [0] jN i
def pm(rs:List dQ)(i:Nat):List bz:=B8 (yp rs) i
def nZ(rs:List dQ):List cP:=F3 (yp rs) [0] jN
def Mo rs:(yp rs).length=rs.length:=by rw[yp,DK,Nat.sub_zero]
def X1 rs(h:i<rs.length):(yp rs)[i]?=some ([(i:Int)],[v0 rs[i],v1 rs[i],v2 rs[i],v3 rs[i]]):=by unfold yp mU;simp_all[axq]
theorem IM rs(h:i<rs.length):pm rs i=[v0 rs[i],v1 rs[i],v2 rs[i],v3 rs[i]]:=by simp_all[pm,B8,X1]
def F5 r:v0 r=⟨gw r.1,kq r.1,0,g5⟩:=by grind[v0,kq,h9]
theorem Rm r:v1 r=⟨gw r.2.1,fJ r.2.1,0,g5⟩:=by grind[v1,fJ,h9]
def Rn r:(v2 r).bR=gw r.2.2.1/\(v2 r).num=fJ r.2.2.1/\(v2 r).text=g5:=by unfold v2 fJ h9;grind
theorem aDy{c}(h:gw c=true):nT c=g5:=by rw[nT,h];rfl
theorem Ro r:v3 r=⟨gw r.2.2.2,0,0,nT r.2.2.2⟩:=by grind[v3,h9,aDy]
theorem aDz r:∀v∈[v0 r,v1 r,v2 r,v3 r],FV v:=by
 have h0:g5.size<=1000:=AF;have f0:=aus r.1;have f1:=VO r.2.1;have a:=VO r.2.2.1;obtain⟨-,e2,b⟩:=Rn r;have ja:=P3 r.2.2.2;intro v hv;simp only[vaw,vbp,vdf]at hv;rcases hv with rfl|rfl|rfl|rfl
 .rw[F5];exact⟨AA,AA,h0⟩
 .rw[Rm];exact⟨f1.1,f1.2,h0⟩
 .exact⟨AQ,AQ,AA⟩
 .rw[Ro];exact⟨AA,AA,AA⟩
def X2 rs(h:rs.length<=40):F1 (yp rs) jN:=by
 have key:∀r∈yp rs,∃q:dQ,r.2=[v0 q,v1 q,v2 q,v3 q]:=λr a=>by
  obtain⟨i,hi,rfl⟩:=vbj a;have b:i<rs.length:=by rwa[Mo]at hi
  have e:=X1 rs b;grind
 refine⟨λi hi=>?_,λr a=>?_,λr a v hv=>?_,by rw[Mo];exact h,Y,AF⟩
 .have b:i<rs.length:=by rwa[Mo]at hi
  have e:=X1 rs b;grind
 .grind
 grind[aDz]
def aDA rs(h:rs.length<=40):F4 (kL rs) rs.length (nZ rs):=
 ⟨axr rs h,Y,X2 rs h,by simp[kL],by simp[kL],λi hi=>axs rs hi,λaf h1 _=>aDe (X2 rs h) h1⟩
def aDB rs(h:i<rs.length):XX (pm rs i):=by rw[IM rs h];exact⟨Y,by grind[Rm],by grind[v3,Ro]⟩
theorem aDC rs i:(kw rs i).c9=kv (pm rs i) jN:=rfl
def X3 rs(h:i<rs.length):(kw rs i).key=ke [v0 rs[i]]:=by show ke ([0].map λk=>(pm rs i).getD k du)=_;grind[IM]
def aDD rs(hi:i<rs.length)(a:j<rs.length):l6 (kw rs j).key (kw rs i).key=(gw rs[j].1==gw rs[i].1&&kq rs[j].1==kq rs[i].1):=by rw[Bool.eq_iff_iff,r6,X3 rs hi,X3 rs a,F5,F5];simp[ke]
def aDE rs(h:rs.length<=40)(hi:i<rs.length)(b:m8 (kw rs) i=true):∃vs,(nZ rs)[(fm (kw rs) i).length]?=some ([(i:Int)],vs)/\vs.getD 0 h9=v0 rs[i]/\jH (lI (kw rs) (pm rs) i rs.length) vs/\vs.length=6:=by
 have a:=jO (G:=kw rs) (V:=pm rs) (n:=rs.length) (λt _=>aDC rs t) (λt ht=>aDB rs ht) rs.length hi JR;have g:=Mo rs;have e:=aDw (rs:=yp rs) (aF:=jN) (i:=i) AQ b;rw[g]at e;refine⟨_,e,?_,?_,?_⟩
 .show(t9 (kw rs) rs.length i).key.1=_;rw[show(t9 (kw rs) rs.length i).key=(kw rs i).key from Y,X3 rs hi];rfl
 .refine aDs a ?_;have hin:t9 (kw rs) rs.length i∈ee (jF (kw rs) 0 rs.length):=by rw[Rg];exact vbl.2 ⟨i,List.mem_of_getElem? (Rl hi b).1,Y⟩
  have hs:=Q9 (c:=1) (L:=jF (kw rs) 0 rs.length) (λx f=>by
   obtain⟨k,hk,rfl⟩:=vbl.1 f;have:=vdx.1 hk;exact Ml (X2 rs h) AQ) _ hin
  rw[Ar]at hs;have h2:2<(r8 (kw rs) i rs.length).length:=by rw[a.len];decide
  have d:=(hs.i_ _ (vae h2)).qQ;have e2:(r8 (kw rs) i rs.length).getD 2 cI=(r8 (kw rs) i rs.length)[2]:=by grind
  show nX ((r8 (kw rs) i rs.length).getD 2 cI).sum;rw[e2];have b0:=d.s0;have b1:=d.jJ;grind
 .exact QV Y a.len
def pQ rs:(nZ rs).length=(fm (kw rs) rs.length).length:=by rw[nZ,aDx,Mo];rfl
