import Derived.Test.YtoehnnefaeoeoaaGreatPAZ
import Derived.Test.YtoehnnefaeoeoaaGreatPBB
set_option linter.all false
set_option maxRecDepth 100000
set_option maxHeartbeats 16000000
namespace Go.Proofs.YtoehnnefaeoeoaaGreat
open Go.Proofs.Tryz
namespace bD
open Conc ConcM RowKit az bu cZ dD b_ cA gi
section
variable {n0:Nat}
theorem Pu{a:Act}(h:a.tmps.size=123)(hd:a.defers=[]):∃f:Nat->Value,a=⟨#[f 0,f 1,f 2,f 3,f 4,f 5,f 6,f 7,f 8,f 9,f 10,f 11,f 12,f 13,f 14,f 15,f 16,f 17,f 18,f 19,f 20,f 21,f 22,f 23,f 24,f 25,f 26,f 27,f 28,f 29,f 30,f 31,f 32,f 33,f 34,f 35,f 36,f 37,f 38,f 39,f 40,f 41,f 42,f 43,f 44,f 45,f 46,f 47,f 48,f 49,f 50,f 51,f 52,f 53,f 54,f 55,f 56,f 57,f 58,f 59,f 60,f 61,f 62,f 63,f 64,f 65,f 66,f 67,f 68,f 69,f 70,f 71,f 72,f 73,f 74,f 75,f 76,f 77,f 78,f 79,f 80,f 81,f 82,f 83,f 84,f 85,f 86,f 87,f 88,f 89,f 90,f 91,f 92,f 93,f 94,f 95,f 96,f 97,f 98,f 99,f 100,f 101,f 102,f 103,f 104,f 105,f 106,f 107,f 108,f 109,f 110,f 111,f 112,f 113,f 114,f 115,f 116,f 117,f 118,f 119,f 120,f 121,f 122],[]⟩:=by
 obtain⟨l,ds⟩:=a;have hd:ds=[]:=hd;subst hd;have h:l.size=123:=h;refine⟨fun i=>l.getD i undef,?_⟩;have b:l.toList=(List.range 123).map fun i=>l.getD i undef:=by
  apply List.ext_getElem
  ·grind
  simp_all
 have d:List.range 123=[0,1,2,3,4,5,6,7,8,9,10,11,12,13,14,15,16,17,18,19,20,21,22,23,24,25,26,27,28,29,30,31,32,33,34,35,36,37,38,39,40,41,42,43,44,45,46,47,48,49,50,51,52,53,54,55,56,57,58,59,60,61,62,63,64,65,66,67,68,69,70,71,72,73,74,75,76,77,78,79,80,81,82,83,84,85,86,87,88,89,90,91,92,93,94,95,96,97,98,99,100,101,102,103,104,105,106,107,108,109,110,111,112,113,114,115,116,117,118,119,120,121,122]:=AS;rw[d]at b;simp only[List.map_cons,List.map_nil]at b;have c:l=l.toList.toArray:=Aa;rw[b]at c;grind
def Hf(f:Func):Code:=.seq (.seq (.region 3 (aF f 3) false) (.cond (.tmp 28) .skip (.exit 0))) (.seq (.block 1 (.seq (.region 5 (aF f 5) false) (dR f 5))) (.region 4 (iU f 4) false))
def EX(f:Func):List Item:=[.inLoop (Hf f),.inBlock 0,.code (.seq (.region 18 (aF f 18) false) .ret)]
def r6(f:Func):List Item:=.code (.cond (.tmp 28) .skip (.exit 0)):: .code (.seq (.block 1 (.seq (.region 5 (aF f 5) false) (dR f 5))) (.region 4 (iU f 4) false))::EX f
def EY(f:Func):List Item:=.code (dR f 5):: .inBlock 1:: .code (.region 4 (iU f 4) false)::EX f
theorem ayy:fL Tryz.f4=.seq (.region 0 (aF Tryz.f4 0) false) (.seq (.region 1 (aF Tryz.f4 1) false) (.seq (.seq (.region 2 (aF Tryz.f4 2) false) (.block 0 (.loop (Hf Tryz.f4)))) (.seq (.region 18 (aF Tryz.f4 18) false) .ret))):=by kernel_rfl
def iV(n0:Nat)(rs:List cL)(n:Nat):List (Nat×(World->Value->Prop)):=[(1,cy (.int .i64 40)),(4,EM n0),(5,EL n0 (b8 rs n)),(6,cy (.int .i64 n))]
theorem Hg(rs:List cL)(n:Nat):∀p∈iV n0 rs n,gR n0 p.2:=by intro p a;simp[iV]at a;grind[wL,awy,awz,awF]
end
section
variable {n0:Nat}
theorem ayz(rs:List cL)(w:World)(k:n0<=w.heap.size):c2 (ai prog true) [.code (fL Tryz.f4)] (.inRegion (aF Tryz.f4 3) (List.range' 1 8)::r6 Tryz.f4) (fun a1 w1=>a1.defers=[]/\d0 123 ((20,cy (.int .i64 0))::iV n0 rs 0) a1 w1/\Below n0 w w1)
 ⟨#[undef,.int .i64 40]++Array.replicate 121 undef,[]⟩ w:=by
 have a:iT n0 (w.heap.size+1) (w.heap.size+2) (b8 rs 0) (((w.alloc (.cells #[.slice none 0 0] 27)).alloc (.cells #[.int .i64 1,.int .i64 0,.slice none 0 0,.slice none 0 0,.slice none 0 0,.int .i64 1,.int .i64 0,.slice none 0 0,.slice none 0 0,.slice none 0 0,.int .i64 2,.int .i64 2,.slice none 0 0,.slice none 0 0,.slice none 0 0,.int .i64 3,.int .i64 0,.slice none 0 0,.slice none 0 0,.slice none 0 0] 48)).alloc (.cells #[.slice (some ⟨w.heap.size+1,0,none⟩) 4 4] 27)) ((List.range 12).map fun i=>⟨jK i,.slice none 0 0,[]⟩) #[.int .i64 1,.int .i64 0,.slice none 0 0,.slice none 0 0,.slice none 0 0,.int .i64 1,.int .i64 0,.slice none 0 0,.slice none 0 0,.slice none 0 0,.int .i64 2,.int .i64 2,.slice none 0 0,.slice none 0 0,.slice none 0 0,.int .i64 3,.int .i64 0,.slice none 0 0,.slice none 0 0,.slice none 0 0]:=by
  refine⟨?_,Aa,?_,rfl,fun c x f=>?_,fun j e=>⟨.slice none 0 0,?_,?_⟩,?_,Ay,Ay⟩
  ·refine⟨fun i hi=>?_,fun i j hi e g n r=>?_⟩
   ·grind[World.ownsRow_nil]
   grind[Value.ownBlock]
  ·have:=(af.new (w.alloc (.cells #[.slice none 0 0] 27)) #[.int .i64 1,.int .i64 0,.slice none 0 0,.slice none 0 0,.slice none 0 0,.int .i64 1,.int .i64 0,.slice none 0 0,.slice none 0 0,.slice none 0 0,.int .i64 2,.int .i64 2,.slice none 0 0,.slice none 0 0,.slice none 0 0,.int .i64 3,.int .i64 0,.slice none 0 0,.slice none 0 0,.slice none 0 0] 48).alloc (.cells #[.slice (some ⟨w.heap.size+1,0,none⟩) 4 4] 27);simp_all
  ·simp at f;rcases f with⟨rfl,rfl⟩|⟨rfl,rfl⟩|⟨rfl,rfl⟩|⟨rfl,rfl⟩|⟨rfl,rfl⟩|⟨rfl,rfl⟩|⟨rfl,rfl⟩|⟨rfl,rfl⟩<;>rfl
  ·simp[e,b8]
  ·have l:j=0\/j=1\/j=2\/j=3\/j=4\/j=5\/j=6\/j=7\/j=8\/j=9\/j=10\/j=11:=by omega
   rcases l with rfl|rfl|rfl|rfl|rfl|rfl|rfl|rfl|rfl|rfl|rfl|rfl<;>rfl
  ·have:=af.new ((w.alloc (.cells #[.slice none 0 0] 27)).alloc (.cells #[.int .i64 1,.int .i64 0,.slice none 0 0,.slice none 0 0,.slice none 0 0,.int .i64 1,.int .i64 0,.slice none 0 0,.slice none 0 0,.slice none 0 0,.int .i64 2,.int .i64 2,.slice none 0 0,.slice none 0 0,.slice none 0 0,.int .i64 3,.int .i64 0,.slice none 0 0,.slice none 0 0,.slice none 0 0] 48)) #[.slice (some ⟨w.heap.size+1,0,none⟩) 4 4] 27;simp_all
 have d:Below w.heap.size w (((w.alloc (.cells #[.slice none 0 0] 27)).alloc (.cells #[.int .i64 1,.int .i64 0,.slice none 0 0,.slice none 0 0,.slice none 0 0,.int .i64 1,.int .i64 0,.slice none 0 0,.slice none 0 0,.slice none 0 0,.int .i64 2,.int .i64 2,.slice none 0 0,.slice none 0 0,.slice none 0 0,.int .i64 3,.int .i64 0,.slice none 0 0,.slice none 0 0,.slice none 0 0] 48)).alloc (.cells #[.slice (some ⟨w.heap.size+1,0,none⟩) 4 4] 27)):=(((Below.refl _ w).alloc Jr _).alloc Aa _).alloc Bu _;have b:af (((w.alloc (.cells #[.slice none 0 0] 27)).alloc (.cells #[.int .i64 1,.int .i64 0,.slice none 0 0,.slice none 0 0,.slice none 0 0,.int .i64 1,.int .i64 0,.slice none 0 0,.slice none 0 0,.slice none 0 0,.int .i64 2,.int .i64 2,.slice none 0 0,.slice none 0 0,.slice none 0 0,.int .i64 3,.int .i64 0,.slice none 0 0,.slice none 0 0,.slice none 0 0] 48)).alloc (.cells #[.slice (some ⟨w.heap.size+1,0,none⟩) 4 4] 27)) w.heap.size #[.slice none 0 0] 27:=((af.new w _ _).alloc _).alloc _;have q:Hid _:=a;have o:Hid _:=d;have m:Hid _:=b;clear a d b;rw[ayy];simp only[aF,iU,tH,dR,fL,Hf,r6,EY,Tryz.f4,Option.getD_some,ba.cH,ba.fK,ba.iD,Nat.reduceBEq,Bool.false_eq_true,↓reduceIte,EX];simp[Array.replicate_succ];refine cn (g_ ?_);go_wp2
 refine⟨rfl,cn (g_ ?_)⟩;go_wp2
 refine⟨rfl,cn (cn (g_ ?_))⟩;go_wp2
 refine⟨rfl,t5 (Jf (cn (cn (zX (vk 1 AW AW ?_)))))⟩;simp only[List.drop_zero,List.take_succ_cons,List.take_zero];go_wp2
 refine⟨rfl,om ⟨rfl,⟨rfl,fun p h=>?_⟩,o.out.mono k⟩⟩;simp only[iV,List.mem_cons,List.not_mem_nil,or_false]at h;rcases h with rfl|rfl|rfl|rfl|rfl
 ·exact⟨_,rfl,rfl⟩
 ·exact⟨_,rfl,rfl⟩
 ·exact⟨_,rfl,_,rfl,k,m.out⟩
 ·exact⟨_,rfl,_,_,_,_,rfl,q.out⟩
 ·exact⟨_,rfl,rfl⟩
end
section
variable {n0:Nat}
theorem ayA(rs:List cL)(n:Nat)(I:n<rs.length)(H:n<40)(a:Act)(w:World)(hd:a.defers=[])(y:d0 123 ((20,cy (.int .i64 n))::(22,cy (.int .i64 rs.length))::iV n0 rs n) a w):c2 (ai prog true) (.inRegion (aF Tryz.f4 3) (List.range' 3 6)::r6 Tryz.f4) (.inRegion (aF Tryz.f4 5) (List.range' 0 6)::EY Tryz.f4) (fun a1 w1=>a1.defers=[]/\d0 123 (iV n0 rs n) a1 w1/\Below n0 w w1) a w:=by
 obtain⟨hsz,b⟩:=y;obtain⟨v20,s,C⟩:=b (20,cy (.int .i64 n)) Aa;obtain⟨v22,r,B⟩:=b (22,cy (.int .i64 rs.length)) Aa;obtain⟨v1,k,x⟩:=b (1,cy (.int .i64 40)) Eo;obtain⟨E,j,i⟩:=b (4,EM n0) Eo;obtain⟨D,h,l⟩:=b (5,EL n0 (b8 rs n)) Eo;obtain⟨v,e,z⟩:=b (6,cy (.int .i64 n)) Eo;have A:Hid _:=i;have u:Hid _:=l;clear b i l;obtain rfl:v20=.int .i64 n:=C;obtain rfl:v22=.int .i64 rs.length:=B;obtain rfl:v1=.int .i64 40:=x;obtain rfl:v=.int .i64 n:=z;obtain⟨f,rfl⟩:=Pu hsz hd;have o:f 20=_:=Option.some.inj (show some (f 20)=some _ from s);have q:f 22=_:=Option.some.inj (show some (f 22)=some _ from r);have g1:f 1=_:=Option.some.inj (show some (f 1)=some _ from k);have c:f 6=_:=Option.some.inj (show some (f 6)=some _ from e);have d:f 4=_:=Option.some.inj (show some (f 4)=some _ from j);have g:f 5=_:=Option.some.inj (show some (f 5)=some _ from h);clear s r k e j h hsz hd;simp[o,q,g1,c,d,g];clear o q g1 c d g;have F:(n:Int)<(rs.length:Int):=Ay;have J:(n:Int)<40:=Ay;simp only[aF,iU,tH,dR,fL,Hf,r6,EY,Tryz.f4,Option.getD_some,ba.cH,ba.fK,ba.iD,Nat.reduceBEq,Bool.false_eq_true,↓reduceIte,EX];refine vk 6 AW AW ?_;simp only[List.drop_succ_cons,List.drop_zero,List.take_succ_cons,List.take_zero];go_wp2
 refine⟨rfl,t6 (m2 (t:=true) rfl ?_)⟩;rw[if_pos rfl];refine wB (cn (t5 (cn (zX (om ⟨rfl,⟨rfl,fun p m=>?_⟩,Below.refl _ _⟩)))));simp[iV]at m;rcases m with rfl|rfl|rfl|rfl
 ·exact⟨_,rfl,rfl⟩
 ·exact⟨_,rfl,A.out⟩
 ·exact⟨_,rfl,u.out⟩
 ·exact⟨_,rfl,rfl⟩
end
section
variable {n0:Nat}
def Az(n0:Nat)(a_:List br):List (Nat×(World->Value->Prop)):=[(4,lK n0 a_),(122,vC a_)]
theorem ayB(rs:List cL)(n:Nat)(P:n<=rs.length)(O:n<=40)(N:¬(n<rs.length/\n<40))(a:Act)(w:World)(hd:a.defers=[])(F:d0 123 ((20,cy (.int .i64 n))::(22,cy (.int .i64 rs.length))::iV n0 rs n) a w):c2 (ai prog true) (.inRegion (aF Tryz.f4 3) (List.range' 3 6)::r6 Tryz.f4) [.code .ret] (fun a1 w1=>a1.defers=[]/\d0 123 (Az n0 (d8 (rs.take 40))) a1 w1/\Below n0 w w1) a w:=by
 obtain⟨hsz,b⟩:=F;obtain⟨v20,A,J⟩:=b (20,cy (.int .i64 n)) Aa;obtain⟨v22,z,I⟩:=b (22,cy (.int .i64 rs.length)) Aa;obtain⟨v1,u,E⟩:=b (1,cy (.int .i64 40)) Eo;obtain⟨M,s,bS,rfl,j,e⟩:=b (4,EM n0) Eo;obtain⟨K,r,c,aO,L,cs,rfl,g⟩:=b (5,EL n0 (b8 rs n)) Eo;obtain⟨B,o,H⟩:=b (6,cy (.int .i64 n)) Eo;clear b;obtain rfl:v20=.int .i64 n:=J;obtain rfl:v22=.int .i64 rs.length:=I;obtain rfl:v1=.int .i64 40:=E;obtain rfl:B=.int .i64 n:=H;have C:rs.take n=rs.take 40:=by grind
 have gt:iB (w.setCell ⟨bS,0,none⟩ (.slice (some ⟨c,0,none⟩) 4 4)) (.slice (some ⟨c,0,none⟩) 4 4) (d8 (rs.take 40)):=by rw[<-C];exact iB.kept (eT.set e Dr _ _) (avS g)
 have k:Below n0 w (w.setCell ⟨bS,0,none⟩ (.slice (some ⟨c,0,none⟩) 4 4)):=(Below.refl _ w).setCell (p:=⟨bS,0,none⟩) j _;have u4:af (w.setCell ⟨bS,0,none⟩ (.slice (some ⟨c,0,none⟩) 4 4)) bS #[.slice (some ⟨c,0,none⟩) 4 4] 27:=e.set 0 _;obtain⟨f1,U,T⟩:=g.aO.all;obtain⟨S,R,Q⟩:=e.all;have d:Hid _:=gt;have BE:Hid _:=k;have i:Hid _:=u4;have h:Hid _:=j;clear gt k u4 e g j;obtain⟨f,rfl⟩:=Pu hsz hd;have x:f 20=_:=Option.some.inj (show some (f 20)=some _ from A);have y:f 22=_:=Option.some.inj (show some (f 22)=some _ from z);have g1:f 1=_:=Option.some.inj (show some (f 1)=some _ from u);have l:f 6=_:=Option.some.inj (show some (f 6)=some _ from o);have m:f 4=_:=Option.some.inj (show some (f 4)=some _ from s);have q:f 5=_:=Option.some.inj (show some (f 5)=some _ from r);clear A z u o s r hsz hd;simp[x,y,g1,l,m,q];clear x y g1 l m q;simp only[aF,iU,tH,dR,fL,Hf,r6,EY,Tryz.f4,Option.getD_some,ba.cH,ba.fK,ba.iD,Nat.reduceBEq,Bool.false_eq_true,↓reduceIte,EX];refine vk 6 AW AW ?_;simp only[List.drop_succ_cons,List.drop_zero,List.take_succ_cons,List.take_zero];by_cases hl:n<rs.length;all_goals
  first
   |(have D:(n:Int)<(rs.length:Int):=Ay)
   |(have D:¬(n:Int)<(rs.length:Int):=Ay)
  try(have V:¬(n:Int)<40:=Ay)
  go_wp2
  refine⟨rfl,t6 (m2 (t:=false) rfl ?_)⟩;rw[if_neg AW];refine Jg rfl (cn (g_ ?_));go_wp2
  refine⟨rfl,om ⟨rfl,⟨rfl,fun p v=>?_⟩,BE.out⟩⟩;simp[Az]at v;rcases v with rfl|rfl
  ·exact⟨_,rfl,_,_,rfl,h.out,i.out,d.out⟩
  ·exact⟨_,rfl,_,rfl,d.out⟩
end
section
variable {n0:Nat}
theorem ayE{P:Program}{c:Code}{f ks':List Item}{Q d:Act->World->Prop}{a:Act}{w:World}(h:c.wp P (ii d) a w)(g:∀a1 w1,d a1 w1->c2 P f ks' Q a1 w1):c2 P (.code c::f) ks' Q a w:=
 g_ fun b k cs=>let⟨e,a1,w1,⟨l,j⟩,i⟩:=h b k cs;⟨e,a1,w1,⟨l,g _ _ j⟩,i⟩
theorem ayF(rs:List cL)(n:Nat)(C:n<40)(a:Act)(w:World)(hd:a.defers=[])(t:d0 123 [(1,cy (.int .i64 40)),(4,EM n0),(5,EL n0 (b8 rs (n+1))),(6,cy (.int .i64 n))] a w):c2 (ai prog true) (.inBlock 1:: .code (.region 4 (iU Tryz.f4 4) false)::EX Tryz.f4) (.inRegion (aF Tryz.f4 3) (List.range' 1 8)::r6 Tryz.f4) (fun a1 w1=>a1.defers=[]/\d0 123 ((20,cy (.int .i64 (n+1:Nat)))::iV n0 rs (n+1)) a1 w1/\w1=w) a w:=by
 obtain⟨hsz,b⟩:=t;obtain⟨v1,l,s⟩:=b (1,cy (.int .i64 40)) Aa;obtain⟨A,k,j⟩:=b (4,EM n0) Aa;obtain⟨z,i,m⟩:=b (5,EL n0 (b8 rs (n+1))) Aa;obtain⟨r,e,v⟩:=b (6,cy (.int .i64 n)) Aa;have x:Hid _:=j;have q:Hid _:=m;clear b j m;obtain rfl:v1=.int .i64 40:=s;obtain rfl:r=.int .i64 n:=v;obtain⟨f,rfl⟩:=Pu hsz hd;have g1:f 1=_:=Option.some.inj (show some (f 1)=some _ from l);have c:f 6=_:=Option.some.inj (show some (f 6)=some _ from e);have d:f 4=_:=Option.some.inj (show some (f 4)=some _ from k);have h:f 5=_:=Option.some.inj (show some (f 5)=some _ from i);clear l e k i hsz hd;simp only[g1,c,d,h];clear g1 c d h;have g:(n:Int)+1=((n+1:Nat):Int):=Ay;have y:Hid _:=g;clear g;refine Bv ?_;have u:(iU Tryz.f4 4).size=3:=AS;simp only[EX,r6];refine g_ ?_;have B:iU Tryz.f4 4=(iU Tryz.f4 4):=rfl;simp only[iU,tH,Tryz.f4,Option.getD_some,Nat.reduceBEq,Bool.false_eq_true,↓reduceIte];go_wp2
 refine⟨rfl,Gp ?_⟩;simp only[aF,iU,tH,dR,fL,Hf,r6,EY,Tryz.f4,Option.getD_some,ba.cH,ba.fK,ba.iD,Nat.reduceBEq,Bool.false_eq_true,↓reduceIte];refine cn (cn (zX (vk 1 AW AW ?_)));simp only[List.drop_zero,List.take_succ_cons,List.take_zero];go_wp2
 refine⟨rfl,om ⟨rfl,⟨rfl,fun p o=>?_⟩,rfl⟩⟩;simp only[iV,List.mem_cons,List.not_mem_nil,or_false]at o;rcases o with rfl|rfl|rfl|rfl|rfl
 ·simp_all[cy]
 ·exact⟨_,rfl,rfl⟩
 ·exact⟨_,rfl,x.out⟩
 ·exact⟨_,rfl,q.out⟩
 simp_all[cy]
end
section
variable {n0:Nat}
theorem ayG(rs:List cL)(n:Nat)(h1:n<rs.length)(E:n<40)(i0:hM rs[n].1)(Z:hM rs[n].2.1)(Y:hM rs[n].2.2.1)(X:hM rs[n].2.2.2)(a:Act)(w:World)(M:n0<=w.heap.size)(hd:a.defers=[])(hs:d0 123 ((34,cy (.agg #[.int .i64 rs[n].1,.int .i64 rs[n].2.1,.int .i64 rs[n].2.2.1,.int .i64 rs[n].2.2.2]))::iV n0 rs n) a w):c2 (ai prog true) (.inRegion (aF Tryz.f4 5) (List.range' 4 2)::EY Tryz.f4) (.inRegion (aF Tryz.f4 3) (List.range' 1 8)::r6 Tryz.f4) (fun a1 w1=>a1.defers=[]/\d0 123 ((20,cy (.int .i64 (n+1:Nat)))::iV n0 rs (n+1)) a1 w1/\Below n0 w w1) a w:=by
 obtain⟨hsz,b⟩:=hs;obtain⟨v34,i,KD⟩:=b (34,cy (.agg #[.int .i64 rs[n].1,.int .i64 rs[n].2.1,.int .i64 rs[n].2.2.1,.int .i64 rs[n].2.2.2])) Aa;obtain⟨v1,c,W⟩:=b (1,cy (.int .i64 40)) Eo;obtain⟨v4,I,bS,rfl,N,r⟩:=b (4,EM n0) Eo;obtain⟨v5,D,o,aO,L,cs,rfl,d⟩:=b (5,EL n0 (b8 rs n)) Eo;obtain⟨R,B,bI⟩:=b (6,cy (.int .i64 n)) Eo;clear b;obtain rfl:v34=.agg #[.int .i64 rs[n].1,.int .i64 rs[n].2.1,.int .i64 rs[n].2.2.1,.int .i64 rs[n].2.2.2]:=KD;obtain rfl:v1=.int .i64 40:=W;obtain rfl:R=.int .i64 n:=bI;have m:=(Below.refl w.heap.size w).alloc Jr (.cells #[.int .i64 rs[n].1,.int .i64 rs[n].2.1,.int .i64 rs[n].2.2.1,.int .i64 rs[n].2.2.2] 52);have F:af (w.alloc (.cells #[.int .i64 rs[n].1,.int .i64 rs[n].2.1,.int .i64 rs[n].2.2.1,.int .i64 rs[n].2.2.2] 52)) w.heap.size #[.int .i64 rs[n].1,.int .i64 rs[n].2.1,.int .i64 rs[n].2.2.1,.int .i64 rs[n].2.2.2] 52:=af.new w _ _;have l:=r.call m;have j:=d.below m;have z:Below n0 w (w.alloc (.cells #[.int .i64 rs[n].1,.int .i64 rs[n].2.1,.int .i64 rs[n].2.2.1,.int .i64 rs[n].2.2.2] 52)):=m.mono M;have P:ip L w.heap.size:=d.gU.oa AU;have y:o≠w.heap.size:=by have:=d.box.lt;omega
 have x:o≠bS:=fun e=>by have c:=d.box;rw[e]at c;have J:w.heap[bS]?=some (.cells cs 48):=c;rw[show w.heap[bS]?=some (.cells #[.slice none 0 0] 27)from r]at J;cases J
 have KV:Hid _:=F;have O:Hid _:=l;have v:Hid _:=j;have cP:Hid _:=z;have u:Hid _:=N;clear F l j z m r d N;obtain⟨f,rfl⟩:=Pu hsz hd;have g:f 34=_:=Option.some.inj (show some (f 34)=some _ from i);have g1:f 1=_:=Option.some.inj (show some (f 1)=some _ from c);have A:f 6=_:=Option.some.inj (show some (f 6)=some _ from B);have q:f 4=_:=Option.some.inj (show some (f 4)=some _ from I);have C:f 5=_:=Option.some.inj (show some (f 5)=some _ from D);clear i c B I D hsz hd;simp only[g,g1,A,q,C];clear g g1 A q C;have step:∀(k:List Item)(Q:Act->World->Prop),c2 (ai prog true) k (.inRegion (aF Tryz.f4 3) (List.range' 1 8)::r6 Tryz.f4) Q ⟨#[(f 0),.int .i64 40,(f 2),(f 3),.pointer (some ⟨bS,0,none⟩),.pointer (some ⟨aO,0,none⟩),.int .i64 n,.pointer (some ⟨w.heap.size,0,none⟩),(f 8),(f 9),(f 10),(f 11),(f 12),(f 13),(f 14),(f 15),(f 16),(f 17),(f 18),(f 19),(f 20),(f 21),(f 22),(f 23),(f 24),(f 25),(f 26),(f 27),(f 28),(f 29),(f 30),(f 31),(f 32),(f 33),.agg #[.int .i64 rs[n].1,.int .i64 rs[n].2.1,.int .i64 rs[n].2.2.1,.int .i64 rs[n].2.2.2],(f 35),(f 36),(f 37),(f 38),(f 39),(f 40),(f 41),(f 42),(f 43),(f 44),(f 45),(f 46),(f 47),(f 48),(f 49),(f 50),(f 51),(f 52),(f 53),(f 54),(f 55),(f 56),(f 57),(f 58),(f 59),(f 60),(f 61),(f 62),(f 63),(f 64),(f 65),(f 66),(f 67),(f 68),(f 69),(f 70),(f 71),(f 72),(f 73),(f 74),(f 75),(f 76),(f 77),(f 78),(f 79),(f 80),(f 81),(f 82),(f 83),(f 84),(f 85),(f 86),(f 87),(f 88),(f 89),(f 90),(f 91),(f 92),(f 93),(f 94),(f 95),(f 96),(f 97),(f 98),(f 99),(f 100),(f 101),(f 102),(f 103),(f 104),(f 105),(f 106),(f 107),(f 108),(f 109),(f 110),(f 111),(f 112),(f 113),(f 114),(f 115),(f 116),(f 117),(f 118),(f 119),(f 120),(f 121),(f 122)],[]⟩ (w.alloc (.cells #[.int .i64 rs[n].1,.int .i64 rs[n].2.1,.int .i64 rs[n].2.2.1,.int .i64 rs[n].2.2.2] 52))->c2 (ai prog true) (.inRegion (aF Tryz.f4 5) (List.range' 4 2)::k) (.inRegion (aF Tryz.f4 3) (List.range' 1 8)::r6 Tryz.f4) Q ⟨#[(f 0),.int .i64 40,(f 2),(f 3),.pointer (some ⟨bS,0,none⟩),.pointer (some ⟨aO,0,none⟩),.int .i64 n,(f 7),(f 8),(f 9),(f 10),(f 11),(f 12),(f 13),(f 14),(f 15),(f 16),(f 17),(f 18),(f 19),(f 20),(f 21),(f 22),(f 23),(f 24),(f 25),(f 26),(f 27),(f 28),(f 29),(f 30),(f 31),(f 32),(f 33),.agg #[.int .i64 rs[n].1,.int .i64 rs[n].2.1,.int .i64 rs[n].2.2.1,.int .i64 rs[n].2.2.2],(f 35),(f 36),(f 37),(f 38),(f 39),(f 40),(f 41),(f 42),(f 43),(f 44),(f 45),(f 46),(f 47),(f 48),(f 49),(f 50),(f 51),(f 52),(f 53),(f 54),(f 55),(f 56),(f 57),(f 58),(f 59),(f 60),(f 61),(f 62),(f 63),(f 64),(f 65),(f 66),(f 67),(f 68),(f 69),(f 70),(f 71),(f 72),(f 73),(f 74),(f 75),(f 76),(f 77),(f 78),(f 79),(f 80),(f 81),(f 82),(f 83),(f 84),(f 85),(f 86),(f 87),(f 88),(f 89),(f 90),(f 91),(f 92),(f 93),(f 94),(f 95),(f 96),(f 97),(f 98),(f 99),(f 100),(f 101),(f 102),(f 103),(f 104),(f 105),(f 106),(f 107),(f 108),(f 109),(f 110),(f 111),(f 112),(f 113),(f 114),(f 115),(f 116),(f 117),(f 118),(f 119),(f 120),(f 121),(f 122)],[]⟩ w:=by
  intro k Q h;have H:Hid _:=h;clear h;simp only[aF,Tryz.f4,Option.getD_some,ba.cH,ba.iD,Nat.reduceBEq,Bool.false_eq_true,↓reduceIte]at H⊢;refine vk 2 AW AW ?_;simp only[List.drop_succ_cons,List.drop_zero,List.take_succ_cons,List.take_zero];go_wp2
  exact⟨rfl,t6 H.out⟩
 refine step _ _ (ayE (wpIn_wide.1 (axy rs n h1 E i0 Z Y X n0 o bS aO w.heap.size w (w.alloc (.cells #[.int .i64 rs[n].1,.int .i64 rs[n].2.1,.int .i64 rs[n].2.2.1,.int .i64 rs[n].2.2.2] 52)) L cs M v.out KV.out O.out cP.out P y x (f 0) (f 2) (f 3) (.pointer (some ⟨bS,0,none⟩)) (f 8) (f 9) (f 10) (f 11) (f 12) (f 13) (f 14) (f 15) (f 16) (f 17) (f 18) (f 19) (f 20) (f 21) (f 22) (f 23) (f 24) (f 25) (f 26) (f 27) (f 28) (f 29) (f 30) (f 31) (f 32) (f 33) (.agg #[.int .i64 rs[n].1,.int .i64 rs[n].2.1,.int .i64 rs[n].2.2.1,.int .i64 rs[n].2.2.2]) (f 35) (f 36) (f 37) (f 38) (f 39) (f 40) (f 41) (f 42) (f 43) (f 44) (f 45) (f 46) (f 47) (f 48) (f 49) (f 50) (f 51) (f 52) (f 53) (f 54) (f 55) (f 56) (f 57) (f 58) (f 59) (f 60) (f 61) (f 62) (f 63) (f 64) (f 65) (f 66) (f 67) (f 68) (f 69) (f 70) (f 71) (f 72) (f 73) (f 74) (f 75) (f 76) (f 77) (f 78) (f 79) (f 80) (f 81) (f 82) (f 83) (f 84) (f 85) (f 86) (f 87) (f 88) (f 89) (f 90) (f 91) (f 92) (f 93) (f 94) (f 95) (f 96) (f 97) (f 98) (f 99) (f 100) (f 101) (f 102) (f 103) (f 104) (f 105) (f 106) (f 107) (f 108) (f 109) (f 110) (f 111) (f 112) (f 113) (f 114) (f 115) (f 116) (f 117) (f 118) (f 119) (f 120) (f 121) (f 122))) ?_);rintro a1 w1 ⟨⟨q1,dk,V,l,j,U⟩,⟨Pf,S,r1⟩,T,r3⟩;intro t s;obtain⟨bz,w2,⟨g1,fR,gL⟩,q⟩:=ayF rs n E a1 w1 q1 ⟨dk,fun p K=>by
  simp at K;rcases K with rfl|rfl|rfl|rfl
  ·exact⟨_,V,rfl⟩
  ·exact⟨_,l,bS,rfl,u.out,T⟩
  ·exact⟨_,j,o,aO,Pf,S,rfl,r1⟩
  ·exact⟨_,U,rfl⟩⟩ t s
 grind
end
variable {d:Tmp}
section
open nG
variable {O:jW} {n0:Nat}
section
variable {P:Program} {Post:Value->World->Prop} {n:Nat} {Shun:Loc->Prop} {w:World} {f:FuncId} {b:Act} {ops:Array Oper} {i:Nat} {rest:List Nat} {k:List Item} {cs:List Frame} {o:Oper}
theorem Hh(l:ops[i]?=some o)(g:o.guard=none)(hd:o.dst=some d){v:Value}{es:Array Event}(j:∀k',(execOp b.eval o).run P (w.at k')=.ok (.value v) (w.at k'))(m:∀k',(execOp b.eval o).events P (w.at k') #[]=es)(h:seen P f es=es)(hes:∀e∈es,qD Shun w.heap.size e)(r:deafBehind 0 es=0)
 (q:∀k',cp P Post n Shun 0 (bb ((base f).at (b.put (some d) v) (.inRegion ops rest::k)) cs) (w.at k')):cp P Post n Shun 0 (bb ((base f).at b (.inRegion ops (i::rest)::k)) cs) w:=by
 refine DI rfl fun k'=>⟨_,w.at k',es,?_,hes,Nat.le_refl _,by rw[r];exact q k'⟩;have c:=stepG_value (P:=P) (main:=true) (b:=base f) (a:=b) (k:=k) (cs:=cs) (rest:=rest) l (fJ g _) (by simp[base]) (j k');have p:listed P (base f).fn b o (w.at k')=es:=by unfold listed;rw[m k'];exact h
 rw[p,hd]at c;exact c
end
def tJ(v0:Value)(n:Nat):gp:=⟨fun i=>i==0||i==21||i==31||i==33,fun i=>i==0,fun _=>some v0,fun t=>t==22,n⟩
theorem Pv(v0:Value)(n:Nat){l:List Item}(h:l.all (iP (tJ undef 0))=true):l.all (iP (tJ v0 n))=true:=(aen (D:=tJ v0 n) (D':=tJ undef 0) rfl rfl rfl l).trans h
theorem Pw(v0:Value)(n:Nat):DN prog (tJ v0 n) 4:=by
 refine⟨⟨_,func4,?_⟩,fun t h=>?_,Bp⟩
 ·rw[results4];simp[DJ,tJ]
 grind[tJ,underlying22]
theorem ayL:i6 prog true Tryz.f4=true:=by decide+kernel
theorem Px:mz prog 4:=Bw func4 ayL rfl
structure pn(O:jW)(n0:Nat)(bt:Nat->Prop)(w0:World)(D:gp)(Shun:Loc->Prop)(fs:List (Nat×(World->Value->Prop)))(a b:Act)(M:Nat->Prop)(w:World):Prop where
 held:Held O prog bt w0 n0 a M w Shun
 ol:jX D a b
 sT:d0 123 fs a w
 vB:∀p∈fs,gR n0 p.2
section
variable {bt:Nat->Prop} {w0:World} {D:gp} {Shun:Loc->Prop} {fs:List (Nat×(World->Value->Prop))} {a b:Act} {M:Nat->Prop} {w:World}
theorem pn.at(h:pn O n0 bt w0 D Shun fs a b M w)(k:Nat):pn O n0 bt w0 D Shun fs a b M (w.at k):=
 ⟨h.held.at k,h.ol,j_ h.vB _ _ _ _ _ ((show fm M w (w.at k)from fun _ _ _ _ _ x=>x).vm h.held.dH) h.held.all h.sT,h.vB⟩
theorem Held.put(h:Held O prog bt w0 n0 a M w Shun)(d:Tmp){v:Value}(b:aA (cB M) v v):Held O prog bt w0 n0 (a.put (some d) v) M w Shun:=
 ⟨h.dH,h.sub,h.gA,h.keep,h.all.set b _,FI,h.size⟩
theorem jX.K1(h:jX D a b)(g:D.T d=true)(hK:D.K d=false)(v:Value):jX D (a.put (some d) undef) (b.put (some d) v):=by
 refine⟨by rw[gQ,gQ];exact h.size,fun i hi=>?_,fun i x hi f=>?_,fun i hi=>?_,by rw[put_defers,put_defers];exact h.defers⟩
 ·have c:d≠i:=AU;simp[Act.put,c];exact h.same i hi
 ·by_cases e:d=i
  ·simp_all[Act.put,Array.getElem?_setIfInBounds]
  ·simp[Act.put,e]at f;exact h.gone i x hi f
 ·have c:d≠i:=AU;simp[Act.put,c];exact h.kept i hi
theorem aeX(h:d0 123 fs a w)(hd:∀p∈fs,d≠p.1)(v:Value):d0 123 fs (a.put (some d) v) w:=
 ⟨by rw[gQ];exact h.1,fun p b=>by
  obtain⟨x,e,c⟩:=h.2 p b;grind[kg]⟩
theorem pn.K1(h:pn O n0 bt w0 D Shun fs a b M w)(c:D.T d=true)(hK:D.K d=false)(hd:∀p∈fs,d≠p.1)(v:Value):pn O n0 bt w0 D Shun fs (a.put (some d) undef) (b.put (some d) v) M w:=
 ⟨h.held.put d (.undef _),h.ol.K1 c hK v,aeX h.sT hd _,h.vB⟩
theorem pn.VM(h:pn O n0 bt w0 D Shun fs a b M w)(i:D.T d=false)(hK:D.K d=false)(hd:∀p∈fs,d≠p.1)(f:d<123){v:Value}(e:aA (cB M) v v)(g:gR n0 (cy v)):pn O n0 bt w0 D Shun ((d,cy v)::fs) (a.put (some d) v) (b.put (some d) v) M w:=
 ⟨h.held.put d e,h.ol.put i hK v,⟨by rw[gQ];exact h.sT.1,fun p c=>by
  rcases List.mem_cons.1 c with rfl|c
  ·exact⟨v,lO (by rw[h.sT.1];exact f),rfl⟩
  ·exact(aeX h.sT hd v).2 p c⟩,fun p c=>by
  rcases List.mem_cons.1 c with rfl|c
  ·exact g
  ·exact h.vB p c⟩
theorem pn.mq(h:pn O n0 bt w0 D Shun fs a b M w){gs:List (Nat×(World->Value->Prop))}(d:∀p∈gs,p∈fs):pn O n0 bt w0 D Shun gs a b M w:=
 ⟨h.held,h.ol,⟨h.sT.1,fun p c=>h.sT.2 p (d p c)⟩,fun p c=>h.vB p (d p c)⟩
end
end
section
open nG
variable {O:jW} {n0:Nat}
def ayM(O:jW)(bL:Option Addr)(i:Nat)(r:cL):Prop:=∃B off c e z,bL=some ⟨B,off,none⟩/\0<B/\B<O.n/\O.heap[B]?=some (.cells c e z)/\(c[off+i*4]?=some (.int .i64 r.1)/\c[off+i*4+1]?=some (.int .i64 r.2.1)/\c[off+i*4+2]?=some (.int .i64 r.2.2.1)/\c[off+i*4+3]?=some (.int .i64 r.2.2.2))/\hM r.1/\hM r.2.1/\hM r.2.2.1/\hM r.2.2.2
def K2(O:jW)(rv:Value)(rs:List cL):Prop:=∃bL cap,rv=.slice bL rs.length cap/\∀i(h:i<rs.length),ayM O bL i rs[i]
theorem Hi{fs:List (Nat×(World->Value->Prop))}{d:Nat}(h:(fs.map (·.1)).all (fun x=>x != d)=true):∀p∈fs,d≠p.1:=AU
section
variable {Post:Value->World->Prop} {n:Nat} {Shun:Loc->Prop} {bt:Nat->Prop} {w0:World} {rv:Value} {rs:List cL} {c:Frame} {cs₁:List Frame}
theorem aeY{es:Array Event}(h:∀e∈es,∀m,e.loc≠ .mark m):seen prog 4 es=es:=
 seen_eq (by rw[func4];rfl) AU
theorem ayN{x y z u:Int}:gR n0 (cy (.agg #[.int .i64 x,.int .i64 y,.int .i64 z,.int .i64 u])):=fun _ _ _ _ _ _ a h=>by
 cases h;obtain⟨f,rfl,k⟩:=B0 a;cases k with
 |cons e k=>cases k with
  |cons d k=>cases k with
   |cons c k=>cases k with
    |cons b k=>cases k;rw[jJ e,jJ d,jJ c,jJ b];rfl
theorem aeZ{b:List br}:∀p∈Az n0 b,gR n0 p.2:=by intro p a;simp[Az]at a;grind[EG,OO]
theorem ae0(bM:K2 O rv rs)(wq:∀a b M w,pn O n0 bt w0 (tJ rv (c::cs₁).length) Shun (Az n0 (d8 (rs.take 40))) a b M w->cp prog Post n Shun 0 (bb ((base 4).at b [.code .ret]) (c::cs₁)) w){f:Nat}
 (d_:∀a b M w,f<rs.length/\f<40->pn O n0 bt w0 (tJ rv (c::cs₁).length) Shun ((20,cy (.int .i64 (f+1:Nat)))::iV n0 rs (f+1)) a b M w->cp prog Post n Shun 0 (bb ((base 4).at b (.inRegion (aF Tryz.f4 3) (List.range' 1 8)::r6 Tryz.f4)) (c::cs₁)) w)
 (a b:Act) (M:Nat->Prop) (w:World) (Z:f<=rs.length) (Y:f<=40) (u:pn O n0 bt w0 (tJ rv (c::cs₁).length) Shun ((20,cy (.int .i64 f))::iV n0 rs f) a b M w):cp prog Post n Shun 0 (bb ((base 4).at b (.inRegion (aF Tryz.f4 3) (List.range' 1 8)::r6 Tryz.f4)) (c::cs₁)) w:=by
 obtain⟨bL,cap,MO,cg⟩:=id bM;have A:b.tmps[0]?=some rv:=u.ol.kept 0 rfl;rw[show List.range' 1 8=1::List.range' 2 7 from rfl];obtain⟨o,g⟩:∃o,(aF Tryz.f4 3)[1]?=some o:=⟨_,B2⟩;obtain rfl:=iE g;have ev:=A;refine Hh g rfl rfl (v:=rv) (es:=#[]) (fun k'=>Fu) (fun k'=>Fu) (seen_none _ _) Aa rfl fun i=>?_;have AA:=(u.K1 (d:=21) rfl rfl (Hi rfl) rv).at i;have Cd:(b.put (some 21) rv).tmps[21]?=some (.slice bL rs.length cap):=by rw[<-MO];exact lO (by rw[u.ol.size,u.sT.1];decide)
 have H:(b.put (some 21) rv).tmps[0]?=some rv:=(kg AW).trans A;clear g ev A u;generalize b.put (some 21) rv=b1 at *;generalize a.put (some 21) undef=a1 at *;generalize w.at i=w1 at *;clear i a b w;rw[show List.range' 2 7=2::List.range' 3 6 from rfl];obtain⟨o,g⟩:∃o,(aF Tryz.f4 3)[2]?=some o:=⟨_,B2⟩;obtain rfl:=iE g;have ev:=Cd;refine Hh g rfl rfl (v:=.int .i64 rs.length) (es:=#[]) (fun k'=>Fu) (fun k'=>Fu) (seen_none _ _) Aa rfl fun q=>?_;have l7:=(AA.VM (d:=22) rfl rfl (Hi rfl) AW (v:=.int .i64 rs.length) (.int _ _) (wL _ _)).at q;have A:(b1.put (some 22) (.int .i64 rs.length)).tmps[0]?=some rv:=(kg AW).trans H;clear g ev H Cd AA;generalize b1.put (some 22) (.int .i64 rs.length)=b2 at *;generalize a1.put (some 22) (.int .i64 rs.length)=bz at *;generalize w1.at q=w2 at *;clear q a1 b1 w1;have p_:=l7.mq (gs:=(20,cy (.int .i64 f))::(22,cy (.int .i64 rs.length))::iV n0 rs f) AU;clear l7;by_cases h:f<rs.length/\f<40
 ·refine EP fA follows Px rfl (Pw rv _) p_.ol (Pv rv _ AS) p_.held (k':=.inRegion (aF Tryz.f4 5) (List.range' 0 6)::EY Tryz.f4) AS AS (j_ p_.vB) (j_ (Hg rs f)) p_.sT (fun W X y=>ayA rs f h.1 h.2 bz W p_.held.defers y) ?_;intro C k El t L K P;have Q:pn O n0 bt w0 (tJ rv (c::cs₁).length) Shun (iV n0 rs f) C k El t:=⟨L,K,P,Hg rs f⟩;have f0:k.tmps[0]?=some rv:=K.kept 0 rfl;clear p_ L K P A;obtain⟨B,off,cc,e,z,ayO,n3,ao,hc,⟨cu,c1,bH,eI⟩,i0,i1,i2,i3⟩:=cg f h.1;subst ayO;rw[show List.range' 0 6=0::1::2::3::List.range' 4 2 from rfl];obtain⟨o,g⟩:∃o,(aF Tryz.f4 5)[0]?=some o:=⟨_,B2⟩;obtain rfl:=iE g;have ev:=f0;refine Hh g rfl rfl (v:=rv) (es:=#[]) (fun k'=>Fu) (fun k'=>Fu) (seen_none _ _) Aa rfl fun i=>?_;have s:=(Q.K1 (d:=31) rfl rfl (Hi rfl) rv).at i;have F:(k.put (some 31) rv).tmps[31]?=some (.slice (some ⟨B,off,none⟩) rs.length cap):=by rw[<-MO];exact lO (by rw[Q.ol.size,Q.sT.1];decide)
  clear g ev f0 Q;generalize k.put (some 31) rv=bS at *;generalize C.put (some 31) undef=ej at *;generalize t.at i=w4 at *;clear i C k t;obtain⟨o,g⟩:∃o,(aF Tryz.f4 5)[1]?=some o:=⟨_,B2⟩;obtain rfl:=iE g;have kP:bS.tmps[6]?=some (.int .i64 f):=by obtain⟨v,Z,Y⟩:=s.sT.2 (6,cy (.int .i64 f)) Eo;obtain rfl:v=_:=Y;exact(s.ol.same 6 rfl).trans Z
  have ev:=kP;refine Hh g rfl rfl (v:=.int .i64 f) (es:=#[]) (fun k'=>Fu) (fun k'=>Fu) (seen_none _ _) Aa rfl fun q=>?_;have N:=(s.VM (d:=32) rfl rfl (Hi rfl) AW (v:=.int .i64 f) (.int _ _) (wL _ _)).at q;have f31:(bS.put (some 32) (.int .i64 f)).tmps[31]?=some (.slice (some ⟨B,off,none⟩) rs.length cap):=(kg AW).trans F;have f32:(bS.put (some 32) (.int .i64 f)).tmps[32]?=some (.int .i64 f):=lO (by rw[s.ol.size,s.sT.1];decide);clear g ev kP F s;generalize bS.put (some 32) (.int .i64 f)=aO at *;generalize ej.put (some 32) (.int .i64 f)=gD at *;generalize w4.at q=lz at *;clear q ej bS w4;obtain⟨o,g⟩:∃o,(aF Tryz.f4 5)[2]?=some o:=⟨_,B2⟩;obtain rfl:=iE g;have ev:=f31;have VN:=f32;have i:(f:Int)<(rs.length:Int):=Ay;have e5:(0:Int)<=(f:Int):=Ay;refine Hh g rfl rfl (v:=.pointer (some ⟨B,off+f*4,none⟩)) (es:=#[]) (fun k'=>by simp[go_sem,ev,VN,e5,h.1,Addr.add]) (fun k'=>by simp[go_sem,ev,VN,e5,h.1]) (seen_none _ _) Aa rfl fun cr=>?_;have VO:=(N.K1 (d:=33) rfl rfl (Hi rfl) (.pointer (some ⟨B,off+f*4,none⟩))).at cr;have f33:(aO.put (some 33) (.pointer (some ⟨B,off+f*4,none⟩))).tmps[33]?=some (.pointer (some ⟨B,off+f*4,none⟩)):=lO (by rw[N.ol.size,N.sT.1];decide);clear g ev VN f31 f32 N;generalize aO.put (some 33) (.pointer (some ⟨B,off+f*4,none⟩))=hL at *;generalize gD.put (some 33) undef=qC at *;generalize lz.at cr=r at *;clear cr gD aO lz;obtain⟨o,g⟩:∃o,(aF Tryz.f4 5)[3]?=some o:=⟨_,B2⟩;obtain rfl:=iE g;have ev:=f33;have a7:=VO.held.dH;have E:r.heap[B]?=some (.cells cc e z):=(a7.old B n3 ao).trans hc;have d:∀k' j x,cc[j]?=some x->(r.at k').cell? ⟨B,j,none⟩=some x:=fun k' j x U=>by have:(r.at k').heap[B]?=some (.cells cc e z):=E;grind[World.cell?]
  refine Hh g rfl rfl (v:=.agg #[.int .i64 rs[f].1,.int .i64 rs[f].2.1,.int .i64 rs[f].2.2.1,.int .i64 rs[f].2.2.2]) (es:=#[⟨.cell ⟨B,off+f*4,none⟩,false,false⟩,⟨.cell ⟨B,off+f*4+1,none⟩,false,false⟩,⟨.cell ⟨B,off+f*4+2,none⟩,false,false⟩,⟨.cell ⟨B,off+f*4+3,none⟩,false,false⟩]) (fun k'=>?_) (fun k'=>?_) (aeY fun e V m hm=>?_) (fun e V=>?_) rfl fun T=>?_
  ·have S:=d k' _ _ cu;have q1:=d k' _ _ c1;have dk:=d k' _ _ bH;have R:=d k' _ _ eI;simp[go_sem,ev,S,q1,dk,R]
  ·have S:=d k' _ _ cu;have q1:=d k' _ _ c1;have dk:=d k' _ _ bH;have R:=d k' _ _ eI;simp[go_sem,ev,S,q1,dk,R]
  ·grind
  ·have acV:B<r.heap.size:=AU;simp at V;rcases V with rfl|rfl|rfl|rfl<;>exact I6 (a7.so B ao _ rfl) acV _
  have D:=(VO.VM (d:=34) rfl rfl (Hi rfl) AW (v:=.agg #[.int .i64 rs[f].1,.int .i64 rs[f].2.1,.int .i64 rs[f].2.2.1,.int .i64 rs[f].2.2.2]) (.ki (iA (l:=[.int .i64 rs[f].1,.int .i64 rs[f].2.1,.int .i64 rs[f].2.2.1,.int .i64 rs[f].2.2.2]) fun x U=>by
   simp at U;rcases U with rfl|rfl|rfl|rfl<;>exact .int _ _)) ayN).at T
  clear g ev f33 VO a7 E d;generalize hL.put (some 34) (.agg #[.int .i64 rs[f].1,.int .i64 rs[f].2.1,.int .i64 rs[f].2.2.1,.int .i64 rs[f].2.2.2])=bK at *;generalize qC.put (some 34) (.agg #[.int .i64 rs[f].1,.int .i64 rs[f].2.1,.int .i64 rs[f].2.2.1,.int .i64 rs[f].2.2.2])=lF at *;generalize r.at T=IA at *;clear T qC hL r;have I:=D.mq (gs:=(34,cy (.agg #[.int .i64 rs[f].1,.int .i64 rs[f].2.1,.int .i64 rs[f].2.2.1,.int .i64 rs[f].2.2.2]))::iV n0 rs f) AU;clear D;refine EP fA follows Px rfl (Pw rv _) I.ol (Pv rv _ AS) I.held (k':=.inRegion (aF Tryz.f4 3) (List.range' 1 8)::r6 Tryz.f4) AS AS (j_ I.vB) (J:=d0 123 ((20,cy (.int .i64 (f+1:Nat)))::iV n0 rs (f+1))) (j_ fun p al=>?_) I.sT (fun W X y=>ayG rs f h.1 h.2 i0 i1 i2 i3 lF W X I.held.defers y) ?_
  ·grind[wL,Hg]
  ·intro mX h7 ayP qo Qw ayQ ayR;refine d_ mX h7 ayP qo h ⟨Qw,ayQ,ayR,fun p al=>?_⟩;grind[wL,Hg]
 ·refine EP fA follows Px rfl (Pw rv _) p_.ol (Pv rv _ AS) p_.held (k':=[.code .ret]) AS AS (j_ p_.vB) (J:=d0 123 (Az n0 (d8 (rs.take 40)))) (j_ aeZ) p_.sT (fun W X y=>ayB rs f Z Y h bz W p_.held.defers y) ?_;intro C k El t L K P;exact wq C k El t ⟨L,K,P,aeZ⟩
theorem ayS(k:K2 O rv rs)(e:∀a b M w,pn O n0 bt w0 (tJ rv (c::cs₁).length) Shun (Az n0 (d8 (rs.take 40))) a b M w->cp prog Post n Shun 0 (bb ((base 4).at b [.code .ret]) (c::cs₁)) w):
 ∀(m d:Nat)(a b:Act)(M:Nat->Prop)(w:World),40-d<=m->d<=rs.length->d<=40->pn O n0 bt w0 (tJ rv (c::cs₁).length) Shun ((20,cy (.int .i64 d))::iV n0 rs d) a b M w->cp prog Post n Shun 0 (bb ((base 4).at b (.inRegion (aF Tryz.f4 3) (List.range' 1 8)::r6 Tryz.f4)) (c::cs₁)) w:=by
 intro m;induction m with|zero=>grind[ae0]|succ m f=>intro d a b M w l j i g;exact ae0 k e (fun a b M w o h=>f (d+1) a b M w Ay Ay Ay h) a b M w j i g
end
end
section
open nG
variable {O:jW} {n0:Nat}
section
variable {Post:Value->World->Prop} {n:Nat} {Shun:Loc->Prop} {bt:Nat->Prop} {w0:World} {rv:Value} {rs:List cL} {c:Frame} {cs₁:List Frame}
theorem ayT{D:gp}{j:List br}{a b:Act}{M:Nat->Prop}{w:World}(z:D.T 4=false)(d:pn O n0 bt w0 D Shun (Az n0 j) a b M w)(B:∀u k,aA (cB M) u u->vC j (w.at k) u->cp prog Post n Shun 0 (bb (c.finish u) cs₁) (w.at k)):cp prog Post n Shun 0 (bb ((base 4).at b [.code .ret]) (c::cs₁)) w:=by
 have l:=d.held.dH;have hd:b.defers=[]:=d.ol.defers.trans d.held.defers;obtain⟨v,A,bS,a9,rfl,C,q,i⟩:=d.sT.2 (4,lK n0 j) (by simp[Az]);have m:a.tmps[4]?=some (.pointer (some ⟨bS,0,none⟩)):=A;have p:b.tmps[4]?=some (.pointer (some ⟨bS,0,none⟩)):=(d.ol.same 4 z).trans m;have h:M bS:=by have:=d.held.all.get 4 _ _ m m;cases this with|e7 r=>exact r.1.2
 have o:w.cell? ⟨bS,0,none⟩=some a9:=by rw[q.bT.1];rfl
 have s:aA (cB M) a9 a9:=l.cell (a:=⟨bS,0,none⟩) h o;refine DI rfl fun k=>⟨bb {(base 4).at b [.code .ret]with mode:=.returning} (c::cs₁),w.at k,#[],?_,Aa,Nat.le_refl _,?_⟩
 ·simp[bb,stepG,stepG.exec,Frame.at,base]
 ·refine DI rfl fun k'=>⟨bb (c.finish (.agg #[a9])) cs₁,w.at k',#[⟨.cell ⟨bS,0,none⟩,false,false⟩],?_,fun e g=>?_,Nat.le_refl _,?_⟩
  ·have y:=func4;have f:((w.at k).at k').cell? ⟨bS,0,none⟩=some a9:=o;have i:(results Tryz.f4 b.tmps).run prog ((w.at k).at k')=.ok (.agg #[a9]) ((w.at k).at k'):=by simp[results,results4,go_sem,p,f]
   have g:(results Tryz.f4 b.tmps).events prog ((w.at k).at k') #[]=#[⟨.cell ⟨bS,0,none⟩,false,false⟩]:=by simp[results,results4,go_sem,p,f]
   have t:=aeY (es:=#[⟨.cell ⟨bS,0,none⟩,false,false⟩]) AU;simp only[bb,stepG,unwind,doReturn,Frame.at,base,hd,y,i,g,t,Sem.runT_eq,GStep.after];rfl
  ·simp at g;subst g;exact I6 (l.kp bS (.inl h) _ rfl) (l.lt h) _
  ·exact B _ k' (.ki (.one s)) ⟨a9,rfl,iB.kept (show eT jU w (w.at k')from⟨Nat.le_refl _,fun _ _ _ _ x _=>x⟩) i⟩
theorem ayU(rv:Value)(d:Nat):jX (tJ rv d) ⟨#[undef,.int .i64 40]++Array.replicate 121 undef,[]⟩ ⟨#[rv,.int .i64 40]++Array.replicate 121 undef,[]⟩:=by
 have get:∀(x:Value)(i:Nat),(#[x,.int .i64 40]++Array.replicate 121 undef:Array Value)[i]?=if i=0 then some x else if i=1 then some (.int .i64 40)else if i<123 then some undef else none:=by
  intro x i;rcases i with _ | _ |i
  ·grind
  ·simp_all
  grind[Array.getElem?_append_right]
 refine⟨Aa,fun i hi=>?_,fun i v hi a=>?_,fun i hi=>?_,rfl⟩
 ·have h0:i≠0:=fun e=>by subst e;cases hi
  grind
 ·rw[get]at a;by_cases h0:i=0
  ·grind
  ·have b:i≠1:=fun e=>by subst e;cases hi
   grind
 simp_all[tJ]
theorem ayV{M:Nat->Prop}{w:World}(z:Home O prog M Shun w)(v:K2 O rv rs)
 (s:∀u M' w',Home O prog M' Shun w'->(∀b,M b->M' b)->aA (cB M') u u->pE w w'->fm M w w'->vC (d8 (rs.take 40)) w' u->cp prog Post n Shun 0 (bb (c.finish u) cs₁) w'):
 cp prog Post n Shun 0 (bb (Frame.enter prog 4 #[rv,.int .i64 40] .normal) (c::cs₁)) w:=by
 rw[enter_at func4 (c:=fL Tryz.f4) rfl];have m:a3 (cB M) (#[undef,.int .i64 40]++Array.replicate 121 undef) (#[undef,.int .i64 40]++Array.replicate 121 undef):=by
  refine a3.append (iA (l:=[undef,.int .i64 40]) fun x h=>?_) (BS _ _);simp at h;rcases h with rfl|rfl
  ·exact .undef _
  ·exact .int _ _
 have H:Held O prog M w w.heap.size ⟨#[undef,.int .i64 40]++Array.replicate 121 undef,[]⟩ M w Shun:=.start z Jr m rfl;refine EP fA follows Px rfl (Pw rv _) (ayU rv _) (Pv rv _ AS) H (k:=[.code (fL Tryz.f4)]) (k':=.inRegion (aF Tryz.f4 3) (List.range' 1 8)::r6 Tryz.f4) AS AS (I:=d0 123 []) (J:=d0 123 ((20,cy (.int .i64 (0:Nat)))::iV w.heap.size rs 0)) (j_ AU) (j_ fun p y=>?_) ⟨Aa,AU⟩ (fun W r _=>ayz rs W r) ?_
 ·grind[wL,Hg]
 intro a1 b1 t w1 B g f;refine ayS v (fun a b A j i=>?_) 40 0 a1 b1 t w1 Ay Ay Ay ⟨B,g,f,fun p y=>?_⟩
 ·refine ayT rfl i fun u k q ht=>?_;have d:=i.held.at k;exact s u A (j.at k) d.dH d.sub q d.gA (fun b cc e fr C o=>d.keep b cc e fr AU o) ht
 grind[wL,Hg]
end
end
end bD
end Go.Proofs.YtoehnnefaeoeoaaGreat
