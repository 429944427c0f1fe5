import Derived.Deep.DeepCutAuto
import Derived.Deep.RegionHeld3
import Derived.Deep.DrawnRows
import Derived.Deep.RegionLaw
import Derived.Test.YtebcnmadaaimoaaGreatPAJ
import Derived.Test.YtebcnmadaaimoaaGreatPAL
set_option linter.all false
set_option maxRecDepth 100000
set_option maxHeartbeats 16000000
namespace Go.Proofs.YtebcnmadaaimoaaGreat
open Go.Proofs.Tryz
namespace bX
open RowKit az
def yA(dh:Nat)(w:aL)(rd:ual)(p:Nat×List Value):Prop:=
 ∃a c,rd 0=some (.slice a p.1 c)/\p.2.length=p.1*dh/\(∀u∈p.2,u.oneCell'=true)/\(0<p.1->∃b off,a=some ⟨b,off,none⟩/\∀j u,p.2[j]?=some u->w.cell? (.a b (off+j))=some u)
def ee(ps:ubd)(k:Nat):Nat:=((ps.take k).map (·.1)).sum
def mo(ps:ubd)(k:Nat):List Value:=((ps.take k).map (·.2)).flatten
variable{ps:ubd}
theorem yB{k:Nat}(h:k<ps.length):ee ps (k+1)=ee ps k+ps[k].1:=by unfold ee;rw[vcn h,vcr,List.sum_append];simp
def SD{k:Nat}(h:k<ps.length):mo ps (k+1)=mo ps k++ps[k].2:=by unfold mo;rw[vcn h,vcr,List.flatten_append];simp
def SE:(ae prog false).funcs[(203:Nat)]?=some f203:=bB (upd:=false) func203 AQ
@[simp] theorem aE0:cX false 203:=dg SE AQ
theorem ZL:(ae prog false).funcs[(201:Nat)]?=some f201:=bB (upd:=false) func201 AQ
@[simp] theorem aE1:cX false 201:=dg ZL AQ
theorem anN:(prog.info? 3).map (λi=>(i.zero,i.size,i.bytes))=some (some (.I 0),1,8):=by kernel_rfl
def anO(n:Nat)(hn:n<=100000)(w:aL):
 Calls (ae prog false) 203 #[.N,.I n] w λe w'=>∃v,e=.returned v/\w'.ownsRow w.heap.size 3 1 v 0 []/\cC w w':=by
 by_cases h0:n=0
 .subst h0;go_enter SE,ntmps203
  go_wp2
  go_ret
  simp_all[vbm,vaa]
 .have f:(0:Int)<(n:Int):=by omega
  have a:Tryz.t3.bytes=8:=Ao;have d:=nextslicecap_zero (need:=n) AX;go_enter SE,ntmps203
  go_wp2
  all_goals try(exfalso;simp only[a,d]at *;omega)
  go_ret
  have g:n<=(Question.appendCap n 0 3).cut (w.tape w.drawn (Question.appendCap n 0 3)):=HX;have c:(Question.appendCap n 0 3).cut (w.tape w.drawn (Question.appendCap n 0 3))<=maxLen:=by simp only[Question.cut,maxLen];have:=Nat.mod_lt (w.tape w.drawn (Question.appendCap n 0 3)) (show 0<2^63-n by omega);omega
  generalize(Question.appendCap n 0 3).cut (w.tape w.drawn (Question.appendCap n 0 3))=b at *;refine⟨_,U,⟨Ab,.inr ⟨w.heap.size,b,_,U,vac _,(ah.new w _ _).drew,vav _,c,?_,Ab⟩⟩,((vaa _ w).alloc Jb _).drew⟩;grind[size_zeroCells]
def anP(ps:ubd)(F:Value)(w:aL)(h:a0 w 1 (yA 1) F ps)(vo:ps.length<=1000)(t:∀k,ee ps k<=100000):
 Calls (ae prog false) 201 #[F] w λe w'=>∃v,e=.returned v/\w'.ownsRow w.heap.size 3 1 v (ee ps ps.length) (mo ps ps.length)/\cC w w':=by
 obtain⟨bP,cap,rfl,hl,q⟩:=h;go_enter ZL,ntmps201
 go_wp2
 go_loopw [3,5,11] (λa _ b W=>∃k:Nat,k<=ps.length/\a=.I (ee ps k:Int)/\b=.I (k:Int)/\W=w) (λ_ _ b _=>ps.length-(intOf b).toNat)
 case atStart=>exact⟨0,vav _,rfl,rfl,rfl⟩
 case round=>
  obtain⟨k,hk,rfl,rfl,rfl⟩:=hrel;by_cases c:k<ps.length
  .obtain⟨b,off,rfl,bZ,T,f,-⟩:=q k c;simp at f;have fA:=fp f;have ml:(0:Int)<=(k:Int):=AX;have kx:(k:Int)<(ps.length:Int):=AX;have d:=t (k+1);rw[yB c]at d;have s3:¬((ee ps k:Int)+(ps[k].1:Int)<0):=AX;clear q;generalize k8:ee ps k=X at *;go_wp2
   exact⟨⟨k+1,AX,by grind[yB],Ab,NE⟩,Hs⟩
  .have A:k=ps.length:=by omega
   subst A;have eo:¬((ps.length:Int)<(ps.length:Int)):=AX;have Y:=t ps.length;have o:Hid _:=q;clear q;obtain⟨w,rfl⟩:∃x:aL,x=wr:=⟨wr,rfl⟩;go_wp2
   refine(anO (ee ps ps.length) Y w).mono ?_;rintro e w1 ⟨v1,rfl,s,S⟩;obtain⟨a1,c1,rfl⟩:=gQ s;have CN:Hid (w1.ownsRow w.heap.size 3 1 (.slice a1 0 c1) 0 []):=s;have ig:Hid (cC w w1):=S;clear s S;go_wp2
   go_loopw [6,8,27] (λa _ b W=>∃(k:Nat)(i:uan)(gc:Nat),k<=ps.length/\a=.slice i (ee ps k) gc/\b=.I (k:Int)/\W.ownsRow w.heap.size 3 1 (.slice i (ee ps k) gc) (ee ps k) (mo ps k)/\cC w W) (λ_ _ b _=>ps.length-(intOf b).toNat)
   case atStart=>exact⟨0,a1,c1,vav _,rfl,rfl,CN.out,ig.out⟩
   case round=>
    obtain⟨k,i,gc,hk,rfl,rfl,R,P⟩:=hrel;have l:Hid (wr.ownsRow w.heap.size 3 1 (.slice i (ee ps k) gc) (ee ps k) (mo ps k)):=R;have n:Hid (cC w wr):=P;clear R P;by_cases c:k<ps.length
    .obtain⟨b,off,rfl,bZ,T,f,y,z,D⟩:=o.out k c;simp at f;have p:=bp.b7 n.out;have C:=p _ _ _ f;have fA:=fp C;have ml:(0:Int)<=(k:Int):=AX;have kx:(k:Int)<(ps.length:Int):=AX;obtain⟨O,hi,L,J,I⟩:=vci anN;have d:=yB c;have m:=SD c;by_cases B:ps[k].1=0
     .rw[B,vcc]at d;have V:ps[k].2=[]:=vbq ID;rw[V,vce]at m;have CO:Hid (ee ps k<=gc):=Na l.out;rw[B]at C;clear f p o D z y L J I;go_wp2_with (at_builtin;apply sQ)
      unfold ky;refine M_ rfl _ _ 71 rfl 3 O ((rL _ _ _).trans underlying71) hi rfl rfl CO.out ?_;have K:Hid _:=d;have CP:Hid _:=m;clear d m hi;go_wp2
      go_roundw
      case rel=>exact⟨k+1,i,gc,AX,by rw[K.out];rfl,Ab,HW,n.out⟩
      case measure=>simp[intOf];omega
     .obtain⟨l3,M,rfl,E⟩:=D AX;have U:Hid (∀j u,ps[k].2[j]?=some u->wr.cell? (Addr.add ⟨l3,M,none⟩ j)=some u):=λj u hu=>by rw[vdz];exact p _ _ _ (E j u hu)
      have Z:Hid (∀u∈ps[k].2,u.oneCell'=true):=z;have N:Hid (w.heap.size<=wr.heap.size):=n.out.size;have ik:=t (k+1);rw[d]at ik;clear f p E z D o;go_wp2_with (at_builtin;apply sQ)
      unfold ky;refine wpList_append_own _ rfl _ _ 71 rfl w.heap.size 3 O _ 1 8 ((rL _ _ _).trans underlying71) hi L J I rfl AU (.slice i (ee ps k) gc) (ee ps k) (mo ps k) rfl l.out ⟨l3,M,none⟩ ps[k].1 T ps[k].2 rfl y U.out Z.out C6 AX N.out ?_;intro v' w2 r H _;obtain⟨Q,bG,rfl⟩:=gQ r;have CQ:Hid (w2.ownsRow w.heap.size 3 1 (.slice Q (ee ps (k+1)) bG) (ee ps (k+1)) (mo ps (k+1))):=by rw[d,m];exact r
      have iP:Hid (cC w w2):=n.out.grown H N.out (λg hg=>(vdn l.out g hg).1);clear r H C m;rw[<-d];clear d;go_wp2
      go_roundw
      case rel=>exact⟨k+1,Q,bG,AX,rfl,Ab,CQ.out,iP.out⟩
      case measure=>simp[intOf];omega
    .have A:k=ps.length:=by omega
     subst A;have jJ:¬((ps.length:Int)<(ps.length:Int)):=AX;clear o;go_wp2
     go_ret
     exact⟨_,rfl,l.out,n.out⟩
def SF:(ae prog false).funcs[(204:Nat)]?=some f204:=bB (upd:=false) func204 AQ
@[simp] theorem aE2:cX false 204:=dg SF AQ
theorem ZM:(ae prog false).funcs[(202:Nat)]?=some f202:=bB (upd:=false) func202 AQ
@[simp] theorem aE3:cX false 202:=dg ZM AQ
theorem anQ:(prog.info? 91).map (λi=>(i.zero,i.size,i.bytes))=some (some (.agg #[.F,.I 0,.I 0,.E]),4,40):=by kernel_rfl
def anR(n:Nat)(hn:n<=100000)(w:aL):
 Calls (ae prog false) 204 #[.N,.I n] w λe w'=>∃v,e=.returned v/\w'.ownsRow w.heap.size 91 4 v 0 []/\cC w w':=by
 by_cases h0:n=0
 .subst h0;go_enter SF,ntmps204
  go_wp2
  go_ret
  simp_all[vbm,vaa]
 .have f:(0:Int)<(n:Int):=by omega
  have a:t91.bytes=40:=Ao;have d:=nextslicecap_zero (need:=n) AX;go_enter SF,ntmps204
  go_wp2
  all_goals try(exfalso;simp only[a,d]at *;omega)
  go_ret
  have g:n<=(Question.appendCap n 0 91).cut (w.tape w.drawn (Question.appendCap n 0 91)):=HX;have c:(Question.appendCap n 0 91).cut (w.tape w.drawn (Question.appendCap n 0 91))<=maxLen:=by simp only[Question.cut,maxLen];have:=Nat.mod_lt (w.tape w.drawn (Question.appendCap n 0 91)) (show 0<2^63-n by omega);omega
  generalize(Question.appendCap n 0 91).cut (w.tape w.drawn (Question.appendCap n 0 91))=b at *;refine⟨_,U,⟨Ab,.inr ⟨w.heap.size,b,_,U,vac _,(ah.new w _ _).drew,vav _,c,?_,Ab⟩⟩,((vaa _ w).alloc Jb _).drew⟩;grind[size_zeroCells]
def anS(ps:ubd)(F:Value)(w:aL)(h:a0 w 1 (yA 4) F ps)(vo:ps.length<=1000)(t:∀k,ee ps k<=100000):
 Calls (ae prog false) 202 #[F] w λe w'=>∃v,e=.returned v/\w'.ownsRow w.heap.size 91 4 v (ee ps ps.length) (mo ps ps.length)/\cC w w':=by
 obtain⟨bP,cap,rfl,hl,q⟩:=h;go_enter ZM,ntmps202
 go_wp2
 go_loopw [3,5,11] (λa _ b W=>∃k:Nat,k<=ps.length/\a=.I (ee ps k:Int)/\b=.I (k:Int)/\W=w) (λ_ _ b _=>ps.length-(intOf b).toNat)
 case atStart=>exact⟨0,vav _,rfl,rfl,rfl⟩
 case round=>
  obtain⟨k,hk,rfl,rfl,rfl⟩:=hrel;by_cases c:k<ps.length
  .obtain⟨b,off,rfl,bZ,T,f,-⟩:=q k c;simp at f;have fA:=fp f;have ml:(0:Int)<=(k:Int):=AX;have kx:(k:Int)<(ps.length:Int):=AX;have d:=t (k+1);rw[yB c]at d;have s3:¬((ee ps k:Int)+(ps[k].1:Int)<0):=AX;clear q;generalize k8:ee ps k=X at *;go_wp2
   exact⟨⟨k+1,AX,by grind[yB],Ab,NE⟩,Hs⟩
  .have A:k=ps.length:=by omega
   subst A;have eo:¬((ps.length:Int)<(ps.length:Int)):=AX;have Y:=t ps.length;have o:Hid _:=q;clear q;obtain⟨w,rfl⟩:∃x:aL,x=wr:=⟨wr,rfl⟩;go_wp2
   refine(anR (ee ps ps.length) Y w).mono ?_;rintro e w1 ⟨v1,rfl,s,S⟩;obtain⟨a1,c1,rfl⟩:=gQ s;have CN:Hid (w1.ownsRow w.heap.size 91 4 (.slice a1 0 c1) 0 []):=s;have ig:Hid (cC w w1):=S;clear s S;go_wp2
   go_loopw [6,8,27] (λa _ b W=>∃(k:Nat)(i:uan)(gc:Nat),k<=ps.length/\a=.slice i (ee ps k) gc/\b=.I (k:Int)/\W.ownsRow w.heap.size 91 4 (.slice i (ee ps k) gc) (ee ps k) (mo ps k)/\cC w W) (λ_ _ b _=>ps.length-(intOf b).toNat)
   case atStart=>exact⟨0,a1,c1,vav _,rfl,rfl,CN.out,ig.out⟩
   case round=>
    obtain⟨k,i,gc,hk,rfl,rfl,R,P⟩:=hrel;have l:Hid (wr.ownsRow w.heap.size 91 4 (.slice i (ee ps k) gc) (ee ps k) (mo ps k)):=R;have n:Hid (cC w wr):=P;clear R P;by_cases c:k<ps.length
    .obtain⟨b,off,rfl,bZ,T,f,y,z,D⟩:=o.out k c;simp at f;have p:=bp.b7 n.out;have C:=p _ _ _ f;have fA:=fp C;have ml:(0:Int)<=(k:Int):=AX;have kx:(k:Int)<(ps.length:Int):=AX;obtain⟨O,hi,L,J,I⟩:=vci anQ;have d:=yB c;have m:=SD c;by_cases B:ps[k].1=0
     .rw[B,vcc]at d;have V:ps[k].2=[]:=vbq ID;rw[V,vce]at m;have CO:Hid (ee ps k<=gc):=Na l.out;rw[B]at C;clear f p o D z y L J I;go_wp2_with (at_builtin;apply sQ)
      unfold ky;refine M_ rfl _ _ 72 rfl 91 O ((rL _ _ _).trans underlying72) hi rfl rfl CO.out ?_;have K:Hid _:=d;have CP:Hid _:=m;clear d m hi;go_wp2
      go_roundw
      case rel=>exact⟨k+1,i,gc,AX,by rw[K.out];rfl,Ab,HW,n.out⟩
      case measure=>simp[intOf];omega
     .obtain⟨l3,M,rfl,E⟩:=D AX;have U:Hid (∀j u,ps[k].2[j]?=some u->wr.cell? (Addr.add ⟨l3,M,none⟩ j)=some u):=λj u hu=>by rw[vdz];exact p _ _ _ (E j u hu)
      have Z:Hid (∀u∈ps[k].2,u.oneCell'=true):=z;have N:Hid (w.heap.size<=wr.heap.size):=n.out.size;have ik:=t (k+1);rw[d]at ik;clear f p E z D o;go_wp2_with (at_builtin;apply sQ)
      unfold ky;refine wpList_append_own _ rfl _ _ 72 rfl w.heap.size 91 O _ 4 40 ((rL _ _ _).trans underlying72) hi L J I rfl AU (.slice i (ee ps k) gc) (ee ps k) (mo ps k) rfl l.out ⟨l3,M,none⟩ ps[k].1 T ps[k].2 rfl y U.out Z.out C6 AX N.out ?_;intro v' w2 r H _;obtain⟨Q,bG,rfl⟩:=gQ r;have CQ:Hid (w2.ownsRow w.heap.size 91 4 (.slice Q (ee ps (k+1)) bG) (ee ps (k+1)) (mo ps (k+1))):=by rw[d,m];exact r
      have iP:Hid (cC w w2):=n.out.grown H N.out (λg hg=>(vdn l.out g hg).1);clear r H C m;rw[<-d];clear d;go_wp2
      go_roundw
      case rel=>exact⟨k+1,Q,bG,AX,rfl,Ab,CQ.out,iP.out⟩
      case measure=>simp[intOf];omega
    .have A:k=ps.length:=by omega
     subst A;have jJ:¬((ps.length:Int)<(ps.length:Int)):=AX;clear o;go_wp2
     go_ret
     exact⟨_,rfl,l.out,n.out⟩
def SG:(ae prog true).funcs[(100:Nat)]?=some f100:=bB (upd:=true) func100 AQ
@[simp] theorem aE4:cX true 100:=dg SG AQ
theorem ZN:(ae prog true).funcs[(66:Nat)]?=some f66:=bB (upd:=true) func66 AQ
@[simp] theorem aE5:cX true 66:=dg ZN AQ
theorem anT:(prog.info? 112).map (λi=>(i.zero,i.size,i.bytes))=some (some (.agg #[.I 0,.I 0]),2,16):=by kernel_rfl
def anU(n:Nat)(hn:n<=100000)(w:aL):
 Calls (ae prog true) 100 #[.N,.I n] w λe w'=>∃v,e=.returned v/\w'.ownsRow w.heap.size 112 2 v 0 []/\cC w w':=by
 by_cases h0:n=0
 .subst h0;go_enter SG,ntmps100
  go_wp2
  go_ret
  simp_all[vbm,vaa]
 .have f:(0:Int)<(n:Int):=by omega
  have a:t112.bytes=16:=Ao;have d:=nextslicecap_zero (need:=n) AX;go_enter SG,ntmps100
  go_wp2
  all_goals try(exfalso;simp only[a,d]at *;omega)
  go_ret
  have g:n<=(Question.appendCap n 0 112).cut (w.tape w.drawn (Question.appendCap n 0 112)):=HX;have c:(Question.appendCap n 0 112).cut (w.tape w.drawn (Question.appendCap n 0 112))<=maxLen:=by simp only[Question.cut,maxLen];have:=Nat.mod_lt (w.tape w.drawn (Question.appendCap n 0 112)) (show 0<2^63-n by omega);omega
  generalize(Question.appendCap n 0 112).cut (w.tape w.drawn (Question.appendCap n 0 112))=b at *;refine⟨_,U,⟨Ab,.inr ⟨w.heap.size,b,_,U,vac _,(ah.new w _ _).drew,vav _,c,?_,Ab⟩⟩,((vaa _ w).alloc Jb _).drew⟩;grind[size_zeroCells]
def anV(ps:ubd)(F:Value)(w:aL)(h:a0 w 1 (yA 2) F ps)(vo:ps.length<=1000)(t:∀k,ee ps k<=100000):
 Calls (ae prog true) 66 #[F] w λe w'=>∃v,e=.returned v/\w'.ownsRow w.heap.size 112 2 v (ee ps ps.length) (mo ps ps.length)/\cC w w':=by
 obtain⟨bP,cap,rfl,hl,q⟩:=h;go_enter ZN,ntmps66
 go_wp2
 go_loopw [3,5,11] (λa _ b W=>∃k:Nat,k<=ps.length/\a=.I (ee ps k:Int)/\b=.I (k:Int)/\W=w) (λ_ _ b _=>ps.length-(intOf b).toNat)
 case atStart=>exact⟨0,vav _,rfl,rfl,rfl⟩
 case round=>
  obtain⟨k,hk,rfl,rfl,rfl⟩:=hrel;by_cases c:k<ps.length
  .obtain⟨b,off,rfl,bZ,T,f,-⟩:=q k c;simp at f;have fA:=fp f;have ml:(0:Int)<=(k:Int):=AX;have kx:(k:Int)<(ps.length:Int):=AX;have d:=t (k+1);rw[yB c]at d;have s3:¬((ee ps k:Int)+(ps[k].1:Int)<0):=AX;clear q;generalize k8:ee ps k=X at *;go_wp2
   exact⟨⟨k+1,AX,by grind[yB],Ab,NE⟩,Hs⟩
  .have A:k=ps.length:=by omega
   subst A;have eo:¬((ps.length:Int)<(ps.length:Int)):=AX;have Y:=t ps.length;have o:Hid _:=q;clear q;obtain⟨w,rfl⟩:∃x:aL,x=wr:=⟨wr,rfl⟩;go_wp2
   refine(anU (ee ps ps.length) Y w).mono ?_;rintro e w1 ⟨v1,rfl,s,S⟩;obtain⟨a1,c1,rfl⟩:=gQ s;have CN:Hid (w1.ownsRow w.heap.size 112 2 (.slice a1 0 c1) 0 []):=s;have ig:Hid (cC w w1):=S;clear s S;go_wp2
   go_loopw [6,8,27] (λa _ b W=>∃(k:Nat)(i:uan)(gc:Nat),k<=ps.length/\a=.slice i (ee ps k) gc/\b=.I (k:Int)/\W.ownsRow w.heap.size 112 2 (.slice i (ee ps k) gc) (ee ps k) (mo ps k)/\cC w W) (λ_ _ b _=>ps.length-(intOf b).toNat)
   case atStart=>exact⟨0,a1,c1,vav _,rfl,rfl,CN.out,ig.out⟩
   case round=>
    obtain⟨k,i,gc,hk,rfl,rfl,R,P⟩:=hrel;have l:Hid (wr.ownsRow w.heap.size 112 2 (.slice i (ee ps k) gc) (ee ps k) (mo ps k)):=R;have n:Hid (cC w wr):=P;clear R P;by_cases c:k<ps.length
    .obtain⟨b,off,rfl,bZ,T,f,y,z,D⟩:=o.out k c;simp at f;have p:=bp.b7 n.out;have C:=p _ _ _ f;have fA:=fp C;have ml:(0:Int)<=(k:Int):=AX;have kx:(k:Int)<(ps.length:Int):=AX;obtain⟨O,hi,L,J,I⟩:=vci anT;have d:=yB c;have m:=SD c;by_cases B:ps[k].1=0
     .rw[B,vcc]at d;have V:ps[k].2=[]:=vbq ID;rw[V,vce]at m;have CO:Hid (ee ps k<=gc):=Na l.out;rw[B]at C;clear f p o D z y L J I;go_wp2_with (at_builtin;apply sQ)
      unfold ky;refine M_ rfl _ _ 76 rfl 112 O ((rL _ _ _).trans underlying76) hi rfl rfl CO.out ?_;have K:Hid _:=d;have CP:Hid _:=m;clear d m hi;go_wp2
      go_roundw
      case rel=>exact⟨k+1,i,gc,AX,by rw[K.out];rfl,Ab,HW,n.out⟩
      case measure=>simp[intOf];omega
     .obtain⟨l3,M,rfl,E⟩:=D AX;have U:Hid (∀j u,ps[k].2[j]?=some u->wr.cell? (Addr.add ⟨l3,M,none⟩ j)=some u):=λj u hu=>by rw[vdz];exact p _ _ _ (E j u hu)
      have Z:Hid (∀u∈ps[k].2,u.oneCell'=true):=z;have N:Hid (w.heap.size<=wr.heap.size):=n.out.size;have ik:=t (k+1);rw[d]at ik;clear f p E z D o;go_wp2_with (at_builtin;apply sQ)
      unfold ky;refine wpList_append_own _ rfl _ _ 76 rfl w.heap.size 112 O _ 2 16 ((rL _ _ _).trans underlying76) hi L J I rfl AU (.slice i (ee ps k) gc) (ee ps k) (mo ps k) rfl l.out ⟨l3,M,none⟩ ps[k].1 T ps[k].2 rfl y U.out Z.out C6 AX N.out ?_;intro v' w2 r H _;obtain⟨Q,bG,rfl⟩:=gQ r;have CQ:Hid (w2.ownsRow w.heap.size 112 2 (.slice Q (ee ps (k+1)) bG) (ee ps (k+1)) (mo ps (k+1))):=by rw[d,m];exact r
      have iP:Hid (cC w w2):=n.out.grown H N.out (λg hg=>(vdn l.out g hg).1);clear r H C m;rw[<-d];clear d;go_wp2
      go_roundw
      case rel=>exact⟨k+1,Q,bG,AX,rfl,Ab,CQ.out,iP.out⟩
      case measure=>simp[intOf];omega
    .have A:k=ps.length:=by omega
     subst A;have jJ:¬((ps.length:Int)<(ps.length:Int)):=AX;clear o;go_wp2
     go_ret
     exact⟨_,rfl,l.out,n.out⟩
end bX
namespace cu
open RowKit az bX
section
theorem anY(a b c d:Int)(w:aL):(binOp .neq 112 (.agg #[.I a,.I b]) (.agg #[.I c,.I d])).run (ae prog true) w=.ok (.bool ((a,b) != (c,d))) w:=by
 by_cases f:a=c<;>by_cases e:b=d
 all_goals go_simp
 all_goals simp[f,e,bne]
attribute [local go_sem ↓] anY
def CR(w':aL)(e:Ending)(o:Option (List (Int×Int))):Prop:=
 match o with
 |some l=>∃v,e=.returned (.tuple #[v,.T])/\gC w' v l/\fF 112 w' v
 |none=>∃v,e=.returned (.tuple #[v,.F])
def kW(op a b:Int)(ka fP:uan)(n kc cK:Nat):Array Value:=#[.I op,.I a,.I b,.N,.slice ka n kc,.slice fP n cK,.N]
@[simp] theorem aE9:cX true 45:=dg (bB (upd:=true) func45 AQ) AQ
@[simp] theorem aE_:cX true 66:=dg (bB (upd:=true) func66 AQ) AQ
def kD(l:uae):List Value:=l.flatMap λp=>[.I p.1,.I p.2]
def ZO(l:uae):(kD l).length=l.length*2:=by induction l with|nil=>rfl|cons a l b=>simp only[kD,List.flatMap_cons,vbf,vdo]at b⊢;simp at b⊢;omega
def anZ(l a:uae):kD (l++a)=kD l++kD a:=by simp[kD]
theorem SH:∀(l:uae)(i:Nat)(h:i<l.length),(kD l)[i*2]?=some (.I l[i].1)/\(kD l)[i*2+1]?=some (.I l[i].2)
 | [],i,h=>by simp at h
 |d::l,0,_=>⟨U,U⟩
 |d::l,i+1,h=>by have:=SH l i Dd;have e:kD (d::l)=[.I d.1,.I d.2]++kD l:=rfl;rw[e,show(i+1)*2=i*2+2 by omega,show i*2+2+1=(i*2+1)+2 by omega];simpa using this
def ZP{w:aL}{v:Value}{l:uae}(h:gC w v l):yA 2 w (λ_=>some v) (l.length,kD l):=by
 obtain⟨a,c,rfl,-,g⟩:=h;refine⟨a,c,U,ZO l,λu f=>?_,λh0=>?_⟩
 .simp only[kD,List.mem_flatMap]at f;obtain⟨d,-,f⟩:=f;simp at f;rcases f with rfl|rfl<;>rfl
 .obtain⟨b,off,rfl,-⟩:=g 0 h0;refine⟨b,off,U,λj u f=>?_⟩;have n:j<l.length*2:=by rw[<-ZO];exact(vab.1 f).1
  obtain⟨i,r,rfl,m⟩:∃i r,j=i*2+r/\r<2:=⟨j / 2,j % 2,AX,AX⟩;have hi:i<l.length:=AX;obtain⟨o,p,e,f0,f1⟩:=g i hi;cases e;obtain⟨k,g1⟩:=SH l i hi;simp only[Nat.add_assoc,vcc]at f0 f1;obtain rfl|rfl:r=0\/r=1:=AX
  .rw[vcc,k]at f;cases f;exact f0
  .rw[g1]at f;cases f;exact f1
def an0{w:aL}{base:Nat}{e:uaa}{v:Value}{l:uae}(h:w.ownsRow base e 2 v l.length (kD l))(b:l.length<=9223372036854775807):gC w v l:=by
 rcases h.2 with⟨rfl,h0⟩|⟨g,cap,bf,rfl,-,hg,-,-,-,d⟩
 .have:l=[]:=vbq AF;subst this;exact a0.nil _ _ _
 .refine⟨_,cap,U,b,λi hi=>⟨g,0,U,?_⟩⟩;obtain⟨c,g1⟩:=SH l i hi;have a:∀o v,(kD l)[o]?=some v->w.cell? (.a g (0+o))=some v:=by intro o v f;rw[vbr];grind[World.cell?]
  exact⟨a _ _ c,a _ _ g1⟩
def an1(k:Int)(t:ubp)(kb m ob o kc D:Nat)(Ju eg:Value)(a b:uae)(w:aL)(hk:w.cell? (.a kb m)=some (.I k))(S:w.cell? (.a ob o)=some (.I k))(q:gC w Ju a)(p:gC w eg b)(U:sM a k=(t,true))(f:sM b k=(t,true))(iM:a.length+b.length<=8):
 Calls (ae prog true) 45 #[.agg (kW 4 0 1 (some (.a kb m)) (some (.a ob o)) 1 kc D),Ju,eg] w λe w'=>CR w' e (some (a++b))/\cC w w':=by
 obtain⟨M,P,rfl,-⟩:=q.shape;obtain⟨N,u,rfl,-⟩:=p.shape;unfold kW;have R:=ah.new w #[.I 4,.I 0,.I 1,.N,.S kb m 1 kc,.S ob o 1 D,.N] 40;go_enter (bB (upd:=true) func45 AQ),ntmps45
 go_wp2
 go_loopw [18] (λi W=>∃(k:Nat),k<=1/\i=.I k/\cC w W/\ah W w.heap.size #[.I 4,.I 0,.I 1,.N,.S kb m 1 kc,.S ob o 1 D,.N] 40)
  (λi _=>1-(intOf i).toNat)
 case atStart=>exact⟨0,vav _,rfl,(vaa _ w).alloc Jb _,R⟩
 case round=>
  obtain⟨j,hj,rfl,f,rP⟩:=hrel;have r:Hid (cC w wr):=f;have ZQ:Hid (ah wr w.heap.size _ 40):=rP;have d:=bp.b7 f;clear R f rP;obtain rfl|rfl:j=0\/j=1:=AX
  .have l:=d _ _ _ hk;have h:=d _ _ _ S;have L:Hid _:=X6 a _ k wr (a0.mono pM d q);have H:Hid (gC wr _ b):=a0.mono pM d p;have x9:=fp l;rw[U]at L;clear d;go_wp2_with fail
   refine vcp L.out ?_;rintro e w1 ⟨rfl,g⟩;have ig:Hid (cC wr w1):=g;obtain⟨rS,ib,oZ⟩:=(ZQ.out.call g).all;have LX:=(bp.b7 g) _ _ _ h;have aFa:=fp LX;have K:=g.alloc g.size (.cells #[.I t.1,.I t.2] 112);have O:Hid _:=X6 b _ k (w1.alloc (.cells #[.I t.1,.I t.2] 112)) (a0.mono pM (bp.b7 K) H.out);rw[f]at O;have Q:=ah.new w1 #[.I t.1,.I t.2] 112;have ZR:Hid _:=Q;have J:Hid _:=K;clear g l h L Q K;go_wp2_with fail
   refine vcp O.out ?_;rintro e w2 ⟨rfl,I⟩;have n:Hid (cC wr w2):=Below.step I J.out J.out.size;obtain⟨ca,ZS,B5⟩:=(ah.call (T:=112) ZR.out I).all;clear I O ZR J rS ib oZ LX;have cr:((t.1,t.2) != (t.1,t.2))=false:=Ab;go_wp2_with fail
   go_roundw
   case rel=>
    have Z:=n.out.alloc n.out.size (.cells #[.I t.1,.I t.2] 112);exact⟨1,AX,Ab,Below.step Z r.out r.out.size,ZQ.out.call Z⟩
   case measure=>simp[intOf]
  .have k7:Hid (gC w _ a):=q;have SO:Hid (gC w _ b):=p;clear hk S U f q p;have A:=(vaa _ wr).alloc Jb (.cells #[.slice M a.length P,.slice N b.length u] 76);have E:=ah.new wr #[.slice M a.length P,.slice N b.length u] 76;have x:=d.trans (bp.b7 A);have Y:Hid _:=anV [(a.length,kD a),(b.length,kD b)] (.S wr.heap.size 0 2 2) (wr.alloc (.cells #[.slice M a.length P,.slice N b.length u] 76)) ⟨_,2,rfl,Ab,λi hi=>⟨wr.heap.size,0,rfl,by
    obtain rfl|rfl:i=0\/i=1:=by simp at hi;omega
    .obtain⟨a1,c1,g1,B,C,z⟩:=ZP (a0.mono pM x k7.out);exact⟨a1,c1,(E.rules.1 0).trans g1,B,C,z⟩
    .obtain⟨a1,c1,g1,B,C,z⟩:=ZP (a0.mono pM x SO.out);exact⟨a1,c1,(E.rules.1 1).trans g1,B,C,z⟩⟩⟩ Ab (λk=>by
    have:ee [(a.length,kD a),(b.length,kD b)] k<=a.length+b.length:=by unfold ee;rcases k with _ | _ |k<;>simp
    omega)
   have y:Hid _:=A;clear d x A E;go_wp2_with fail
   refine vcp Y.out ?_;rintro e w2 ⟨v,rfl,s,X⟩;have l:ee [(a.length,kD a),(b.length,kD b)] [(a.length,kD a),(b.length,kD b)].length=(a++b).length:=by simp[ee]
   have h:mo [(a.length,kD a),(b.length,kD b)] [(a.length,kD a),(b.length,kD b)].length=kD (a++b):=by simp[mo,anZ]
   rw[l,h]at s;have c:=an0 s A2;obtain⟨bZ,bY,rfl,-⟩:=c.shape;have Ng:Hid _:=And.intro c (fF.FB s);have n:Hid (cC w w2):=Below.step (Below.step X y.out y.out.size) r.out r.out.size;have hle:(((a++b).length:Nat):Int)<=(8:Int):=A2;clear c s X Y y l h;generalize V:a++b=ab at *;have F:Hid (a++b=ab):=V;clear V;go_wp2_with fail
   go_ret2
   exact⟨⟨.slice bZ ab.length bY,rfl,by rw[F.out];exact Ng.out.1,Ng.out.2⟩,n.out⟩
end
end cu
namespace cu
open RowKit az
variable{w:aL}{o:Option (List (Int×Int))}{v:Value}
section
attribute [local go_sem ↓] Go.wp_at_zero Go.wp_at_succ
def ZV(w:aL)(rd:ual)(x:uae):Prop:=∃v,rd 0=some v/\gC w v x
def an5:pG ZV:=λ_ _ _ _ _ hk a⟨v,h0,h⟩=>⟨v,a _ _ h0,h.mono pM hk⟩
abbrev Gd(w:aL):=a0 w 1 ZV
attribute [local go_sem ↓] Go.wp_at_zero Go.wp_at_succ
def Nh(w:aL)(v:Value)(ok:Bool)(o:Option (List (Int×Int))):Prop:=
 match o with
 |some l=>ok=true/\gC w v l/\fF 112 w v
 |none=>ok=false
theorem CR.shape{e:Ending}(h:CR w e o):∃v ok,e=.returned (.tuple #[v,.bool ok])/\Nh w v ok o:=by
 cases o with
 |none=>obtain⟨v,h⟩:=h;exact⟨v,false,h,U⟩
 |some l=>obtain⟨v,h,hv⟩:=h;exact⟨v,true,h,U,hv⟩
def Nh.ret{ok:Bool}(h:Nh w v ok o):CR w (.returned (.tuple #[v,.bool ok])) o:=by cases o with|none=>simp[Nh]at h;subst h;exact⟨v,U⟩|some l=>obtain⟨h,hv⟩:=h;subst h;exact⟨v,U,hv⟩
def ZW{cQ:List (List (Int×Int))}(h:Gd w v cQ){k:Nat}(hk:k<cQ.length):
 ∃b off cap a c,v=.S b off cQ.length cap/\b<w.heap.size/\w.cell? (.a b (off+k))=some (.slice a cQ[k].length c)/\gC w (.slice a cQ[k].length c) cQ[k]:=by
 obtain⟨f,cap,rfl,e,d⟩:=h;obtain⟨b,off,rfl,v,h0,hv⟩:=d k hk;simp at h0;obtain⟨a,c,rfl,-⟩:=hv.shape;exact⟨b,off,cap,a,c,U,fp h0,h0,hv⟩
def an6{ts:List (List aI)}(h:Ca w v ts){k:Nat}(hk:k<ts.length):
 ∃b off cap a c,v=.S b off ts.length cap/\b<w.heap.size/\w.cell? (.a b (off+k))=some (.slice a ts[k].length c)/\oy w (.slice a ts[k].length c) ts[k]:=by
 obtain⟨f,cap,rfl,e,d⟩:=h;obtain⟨b,off,v,rfl,h0,hv⟩:=Yf d hk;obtain⟨a,c,rfl,-⟩:=hv.shape;exact⟨b,off,cap,a,c,U,fp h0,h0,hv⟩
def ZX(bs p:Nat)(b:Int)(eP:Value)(ts:List (List aI))(i j g aa:uan)(le lk lo nW ce d tC h:Nat)(w:aL)(y:w.cell? (.a bs 0)=some eP)(ht:Ca w eP ts)(t:p<ts.length)(B:ts[p].length<=8):
 Calls (ae prog true) 33 #[.P bs 0,.agg #[.I 1,.I p,.I b,.slice i le ce,.slice j lk d,.slice g lo tC,.slice aa nW h]] w λe w'=>CR w' e (some (eL ts[p]))/\cC w w':=by
 obtain⟨m,k,ct,a,c,rfl,u,C,q⟩:=an6 ht t;have D:=fp y;have z:(0:Int)<=(p:Int):=AX;have A:(p:Int)<(ts.length:Int):=AX;have n:=((bp.refl w).alloc (.cells #[.I 1,.I p,.I b,.slice i le ce,.slice j lk d,.slice g lo tC,.slice aa nW h] 40)).drew;have o:=a0.mono tE n q;have HC:Hid _:=o;have l:=((vaa w.heap.size w).alloc Jb (.cells #[.I 1,.I p,.I b,.slice i le ce,.slice j lk d,.slice g lo tC,.slice aa nW h] 40)).drew;have x:Hid _:=l;clear n q o ht l;go_enter (bB (upd:=true) func33 AQ),ntmps33
 go_wp2_with fail
 go_region_held3 (λW=>W.cell? (.a bs 0)=some (.S m k ts.length ct)/\W.cell? (.a w.heap.size 1)=some (.I p)/\W.cell? (.a m (k+p))=some (.slice a ts[p].length c))
  ((go_split_ands;refine⟨?_,?_,?_⟩<;>first|(exact(bp.b7 f) _ _ _ AF)|(go_keep;done)))
  (first|(go_at_call 42;refine(akD ts[p] _ _ HC.out AX).mono ?_;rintro e w1 ⟨v1,rfl,r,v,f⟩))
 have s:Hid (cC w w1):=Below.step f x.out Ab;clear f;go_wp2_with fail
 go_ret2
 exact⟨⟨_,U,r,v⟩,s.out⟩
def an8(bs:Nat)(k:Int)(t:ubp)(kb b ob d kc f:Nat)(eg:Value)(cQ:List (List (Int×Int)))(w:aL)(hk:w.cell? (.a kb b)=some (.I k))(n:w.cell? (.a ob d)=some (.I k))(u:w.cell? (.a bs 2)=some eg)(ht:Gd w eg cQ)(y:1<cQ.length)(p:sM (cQ[0]'AX) k=(t,true))(o:sM cQ[1] k=(t,true))(m:(cQ[0]'AX).length+cQ[1].length<=8):
 Calls (ae prog true) 33 #[.P bs 0,.agg (kW 4 0 1 (some (.a kb b)) (some (.a ob d)) 1 kc f)] w λe w'=>CR w' e (some ((cQ[0]'AX)++cQ[1]))/\cC w w':=by
 have s:0<cQ.length:=AX;obtain⟨i,h,ct,a,c,rfl,C,A,r⟩:=ZW ht s;obtain⟨H,F,E,a',B,e,-,d1,q⟩:=ZW ht y;cases e;have O:=fp u;have N:(0:Int)<(cQ.length:Int):=AX;have M:(1:Int)<(cQ.length:Int):=AX;unfold kW;have g:=((bp.refl w).alloc (.cells #[.I 4,.I 0,.I 1,.N,.S kb b 1 kc,.S ob d 1 f,.N] 40)).drew;have l:Hid _:=an1 k t kb b ob d kc f _ _ _ _ _ (g _ _ _ hk) (g _ _ _ n) (a0.mono pM g r) (a0.mono pM g q) p o m;unfold kW at l;have L:Hid _:=((vaa w.heap.size w).alloc Jb (.cells #[.I 4,.I 0,.I 1,.N,.S kb b 1 kc,.S ob d 1 f,.N] 40)).drew;generalize D:cQ[0]=I at *;generalize z:cQ[1]=J at *;clear g r q ht hk n p o m D z;simp only[vcc]at A;go_enter (bB (upd:=true) func33 AQ),ntmps33
 go_wp2_with fail
 go_region_held3 (λW=>W.cell? (.a bs 2)=some (.S i h cQ.length ct)/\W.cell? (.a w.heap.size 0)=some (.I 4)/\W.cell? (.a w.heap.size 1)=some (.I 0)/\W.cell? (.a w.heap.size 2)=some (.I 1)/\W.cell? (.a w.heap.size 3)=some (.N)/\W.cell? (.a w.heap.size 4)=some (.S kb b 1 kc)/\W.cell? (.a w.heap.size 5)=some (.S ob d 1 f)/\W.cell? (.a w.heap.size 6)=some (.N)/\W.cell? (.a i h)=some (.slice a I.length c)/\W.cell? (.a i (h+1))=some (.slice a' J.length B))
  ((go_split_ands;refine⟨?_,?_,?_,?_,?_,?_,?_,?_,?_,?_⟩<;>first|(exact(bp.b7 j) _ _ _ (by assumption))|(go_keep;done)))
  (first|(go_at_call 45;refine vcp l.out ?_;rintro e w1 ⟨⟨v1,rfl,v,K⟩,j⟩))
 have x:Hid (cC w w1):=Below.step j L.out Ab;clear j;go_wp2_with fail
 go_ret2
 exact⟨⟨_,U,v,K⟩,x.out⟩
end
end cu
open RowKit az cu
variable{w w' w0 w2:aL}{aV di eP eg v:Value}{b bs cap g n q size:Nat}{cs:df}{T e:uaa}{ts:List (List aI)}{ns:List oY}{cQ:List (List (Int×Int))}{aU:ubs}{vals xs:uad}
section
attribute [local go_sem ↓] Go.wp_at_zero Go.wp_at_succ
attribute [local go_sem ↓] Go.wp_at_zero Go.wp_at_succ
def ints_at{l:uaz}(h:eb w v l){k:Nat}(hk:k<l.length):
 ∃b off cap,v=.S b off l.length cap/\b<w.heap.size/\w.cell? (.a b (off+k))=some (.I l[k]):=by
 obtain⟨d,cap,rfl,c,a⟩:=h;obtain⟨b,off,rfl,h0⟩:=a k hk;simp[qG]at h0;exact⟨b,off,cap,U,fp h0,h0⟩
def eb.box(h:ah w b cs T)(xs:uaz)(cap:Nat)(a:xs.length<=9223372036854775807)(c:∀i(h:i<xs.length),cs[i]?=some (.I xs[i])):eb w (.S b 0 xs.length cap) xs:=
 ⟨_,cap,U,a,λi hi=>⟨b,0,U,by simp[qG];rw[h.rules.1 i];grind⟩⟩
structure Ni(w:aL)(bs:Nat)(eP aV eg di:Value)(ts:List (List aI))(ns:List oY)(cQ:List (List (Int×Int)))(aU:ubs):Prop where
 c_:w.cell? (.a bs 0)=some eP
 c1:w.cell? (.a bs 1)=some aV
 bG:w.cell? (.a bs 2)=some eg
 dH:w.cell? (.a bs 3)=some di
 yE:Ca w eP ts
 nodes:QZ w aV ns
 types:Gd w eg cQ
 taken:Iq w di aU
theorem Ni.mono(hk:bp w w')(h:Ni w bs eP aV eg di ts ns cQ aU):Ni w' bs eP aV eg di ts ns cQ aU:=
 ⟨hk _ _ _ h.c_,hk _ _ _ h.c1,hk _ _ _ h.bG,hk _ _ _ h.dH,h.yE.mono Ir hk,h.nodes.mono QY hk,h.types.mono an5 hk,h.taken.mono QU hk⟩
def Jw(h:ah w b cs T):w.shape? b=some (T,cs.size):=by grind[ah,World.shape?]
def fF.ne{a:uaa}{off c:Nat}(h:fF T w (.S b off n c))(hg:ah w g cs a)(d:T≠a):b≠g:=by rintro rfl;obtain⟨k,hk⟩:=h _ _ _ _ U;rw[Jw hg]at hk;grind
theorem a0.typed{ap:Type}{d:Nat}{R:aL->(Nat->Option Value)->ap->Prop}{xs:List ap}(h:a0 w d R v xs)(l:∀rd a x,(∀j,a j=rd j)->R w rd x->R w' a x)(hk:∀b off n c,v=.S b off n c->∀o,w'.cell? (.a b o)=w.cell? (.a b o)):a0 w' d R v xs:=by
 obtain⟨f,cap,rfl,e,g⟩:=h;refine⟨f,cap,U,e,λi hi=>?_⟩;obtain⟨b,off,rfl,k⟩:=g i hi;grind
def gC.qZ{l:uae}(h:gC w v l)(hk:∀b off n c,v=.S b off n c->w'.heap[b]?=w.heap[b]?):gC w' v l:=by refine a0.typed h ?_ (λb off n c e o=>World.cell?_of_block (w:=w) AF);intro rd f x d a;exact⟨by rw[d];exact a.1,by rw[d];exact a.2⟩
def eb.qZ{l:uaz}(h:eb w v l)(hk:∀b off n c,v=.S b off n c->w'.heap[b]?=w.heap[b]?):eb w' v l:=by grind[a0.typed,World.cell?_of_block,qG]
def fF.qZ(h:fF T w v)(hk:∀b off n c,v=.S b off n c->w'.heap[b]?=w.heap[b]?):fF T w' v:=by intro b off n c e;obtain⟨k,a⟩:=h b off n c e;grind[World.shape?]
structure Own(w0 w:aL)(bs:Nat)(eP aV eg di:Value)(ts:List (List aI))(ns:List oY)(cQ:List (List (Int×Int)))(aU:ubs)(vals:uad):Prop where
 below:cC w0 w
 yE:Ca w0 eP ts
 nodes:QZ w0 aV ns
 Gh:w0.heap.size<=bs
 box:ah w bs #[eP,aV,eg,di] 81
 r8:w.ownsRow w0.heap.size 76 1 eg cQ.length vals
 q1:w.ownsRow w0.heap.size 4 1 di aU.length (aU.map .bool)
 small:cQ.length<=1000
 Nj:aU.length<=1000
 each:∀j(h:j<cQ.length),∃v,vals[j]?=some v/\gC w v cQ[j]/\fF 112 w v
def Iq.FB{base:Nat}{l:ubs}(h:w.ownsRow base e 1 v l.length (l.map .bool))(a:l.length<=9223372036854775807):Iq w v l:=by
 have b:=h;rcases b.2 with⟨rfl,h0⟩|⟨g,cap,bf,rfl,c⟩
 .grind[a0.nil]
 .refine⟨_,cap,U,a,λi hi=>⟨g,0,U,?_⟩⟩;simp[Am];grind[Ce]
def Gd.FB{base:Nat}{l:List (List (Int×Int))}(h:w.ownsRow base e 1 v l.length vals)(b:l.length<=9223372036854775807)(c:∀j(h:j<l.length),∃v,vals[j]?=some v/\gC w v l[j]):Gd w v l:=by
 have d:=h;rcases d.2 with⟨rfl,h0⟩|⟨g,cap,bf,rfl,a⟩
 .grind[a0.nil]
 .refine⟨_,cap,U,b,λi hi=>⟨g,0,U,?_⟩⟩;obtain⟨u,f,a⟩:=c i hi;refine⟨u,?_,a⟩;simp;grind[Ce]
def Own.an9(h:Own w0 w bs eP aV eg di ts ns cQ aU vals):Ni w bs eP aV eg di ts ns cQ aU:=by have e:=h.box.rules.1;have c:=bp.b7 h.below;have hs:=h.small;have f:=h.Nj;exact⟨AF,AF,AF,AF,h.yE.mono Ir c,h.nodes.mono QY c,Gd.FB h.r8 AX (λj d=>let⟨v,a,b,_⟩:=h.each j d;⟨v,a,b⟩),Iq.FB h.q1 AX⟩
theorem Own.call(h:Own w0 w bs eP aV eg di ts ns cQ aU vals)(d:cC w w'):Own w0 w' bs eP aV eg di ts ns cQ aU vals:=
 ⟨h.below.trans (d.mono h.below.size),h.yE,h.nodes,h.Gh,h.box.call d,X0 h.r8 d,X0 h.q1 d,h.small,h.Nj,λj e=>let⟨v,a,b,c⟩:=h.each j e;⟨v,a,a0.mono pM (bp.b7 d) b,c.call d⟩⟩
theorem an_{base:Nat}(h:w.ownsRow base e 1 (.S g 0 n cap) n xs)(f:q<n)(u:Value):(w.setCell ⟨g,q,none⟩ u).ownsRow base e 1 (.S g 0 n cap) n (xs.set q u):=by
 obtain⟨i,d⟩:=h;rcases d with⟨h0,_⟩|⟨g',cap',bf,hv,c,hg,b,a,hs,ht⟩
 .grind
 .simp at hv;obtain⟨rfl,rfl⟩:=hv;refine⟨AF,.inr ⟨g,cap,bf.setIfInBounds q u,U,c,?_,b,a,AF,?_⟩⟩
  .exact ah.set (show ah w g bf e from hg) q u
  .rw[Array.toList_setIfInBounds,List.take_set,ht]
def Own.take{gk sX i:Nat}(h:Own w0 w bs eP aV eg (.S gk 0 sX i) ts ns cQ aU vals)(hq:q<aU.length):
 Own w0 (w.setCell ⟨gk,q,none⟩ (.T)) bs eP aV eg (.S gk 0 sX i) ts ns cQ (aU.set q true) vals:=by
 have hok:=h.q1;have f:sX=aU.length:=by
  rcases hok.2 with⟨h0,_⟩|⟨g,c,bf,h0,_⟩
  .grind
  grind
 subst f;obtain⟨d,s⟩:=hok.lt gk U;obtain⟨bf,k⟩:∃bf,ah w gk bf 4:=by
  rcases hok.2 with⟨h0,_⟩|⟨g,c,bf,h0,_,hg,_⟩
  .grind
  .simp only[Value.slice.injEq,vbh,Addr.mk.injEq,and_true]at h0;obtain⟨rfl,-,-⟩:=h0;exact⟨bf,hg⟩
 have l:∀{T:uaa}{v:Value},fF T w v->T≠4->∀b off n c,v=.S b off n c->(w.setCell ⟨gk,q,none⟩ (.T)).heap[b]?=w.heap[b]?:=by intro T v hv p b off n c e;subst e;exact vat _ _ _ _ (hv.ne k p)
 refine⟨h.below.setCell d _,h.yE,h.nodes,h.Gh,?_,?_,?_,h.small,by simpa using h.Nj,?_⟩
 .refine h.box.fl ?_ _;rintro rfl;have r:=Jw h.box;rw[Jw k]at r;grind
 .refine⟨h.r8.1,?_⟩;rcases h.r8.2 with hn|⟨g,cap,t,e,o,hg,rest⟩
  .grind
  .refine .inr ⟨g,cap,t,e,o,?_,rest⟩;rw[vat _ _ _ _ (show g≠gk from ?_)]
   .exact hg
   .rintro rfl;grind[ah]
 .grind[an_,List.map_set]
 .intro j m;obtain⟨v,a,b,c⟩:=h.each j m;exact⟨v,a,b.qZ AF,c.set _ _⟩
def aoc{base:Nat}(h:w.ownsRow base e size (.S g 0 n cap) n xs):∃bf,ah w g bf e:=by
 rcases h.2 with⟨h0,_⟩|⟨g',c,bf,h0,_,hg,_⟩
 .grind
 .simp only[Value.slice.injEq,vbh,Addr.mk.injEq,and_true]at h0;obtain⟨rfl,-,-⟩:=h0;exact⟨bf,hg⟩
theorem wZ{base:Nat}(h:w.ownsRow base e size v n xs)(hg:v.ownBlock=some g):∃bf,ah w g bf e:=by
 rcases h.2 with⟨rfl,_⟩|⟨g',c,bf,rfl,_,a,_⟩
 .simp[Value.ownBlock]at hg
 .simp[Value.ownBlock]at hg;subst hg;exact⟨bf,a⟩
def ah.ne{a:Nat}{g i:df}{d c:uaa}(f:ah w a g d)(e:ah w b i c)(h:d≠c):a≠b:=by rintro rfl;have:=Jw f;rw[Jw e]at this;grind
theorem Gi{base:Nat}(h:w.ownsRow base e size v n xs)(hk:∀g,v.ownBlock=some g->w'.heap[g]?=w.heap[g]?):w'.ownsRow base e size v n xs:=by
 refine⟨h.1,?_⟩;rcases h.2 with hn|⟨g,cap,bf,rfl,a,b,rest⟩
 .grind
 .exact .inr ⟨g,cap,bf,U,a,by rw[hk g U];grind,rest⟩
def Own.aod(h:Own w0 w bs eP aV eg di ts ns cQ aU vals){v1:Value}{l:uae}(hv:gC w v1 l)(r:fF 112 w v1)(y:cQ.length+1<=1000)(J:w2.ownsRow w0.heap.size 76 1 (.S g 0 (cQ.length+1) cap) (cQ.length+1) (vals++[v1]))(p:(w.alloc (.cells #[v1] 76)).grownBy w2 eg.ownBlock):
 Own w0 (w2.setCell ⟨bs,2,none⟩ (.S g 0 (cQ.length+1) cap)) bs eP aV (.S g 0 (cQ.length+1) cap) di ts ns (cQ++[l]) aU (vals++[v1]):=by
 have d:=h.call ((vaa w.heap.size w).alloc AF (.cells #[v1] 76));have H:gC (w.alloc (.cells #[v1] 76)) v1 l:=a0.mono pM ((bp.refl w).alloc _) hv;have K:fF 112 (w.alloc (.cells #[v1] 76)) v1:=r.call ((vaa w.heap.size w).alloc AF _);generalize w.alloc (.cells #[v1] 76)=w1 at *;clear h hv r;have B:∀k,eg.ownBlock=some k->w0.heap.size<=k:=λk hk=>(d.r8.lt k hk).1;have x:cC w0 w2:=d.below.grown p d.below.size B;have hst:∀{T:uaa}{b:Nat}{cs:df},ah w1 b cs T->T≠76->w2.heap[b]?=w1.heap[b]?:=by intro T b cs m o;refine p.block b m.lt (λe=>?_);obtain⟨bf,i⟩:=wZ d.r8 e.symm;exact m.ne i o U
 have s:ah w2 bs #[eP,aV,eg,di] 81:=by have:=hst d.box AU;unfold ah;rw[this];exact d.box
 have E:∀{T:uaa}{b:Nat}{cs:df},ah w2 b cs T->T≠81->(w2.setCell ⟨bs,2,none⟩ (.S g 0 (cQ.length+1) cap)).heap[b]?=w2.heap[b]?:=by intro T b cs m o;exact vat _ _ _ _ (m.ne s o)
 have L:∀{v:Value}{l:uae},gC w1 v l->fF 112 w1 v->gC (w2.setCell ⟨bs,2,none⟩ (.S g 0 (cQ.length+1) cap)) v l/\fF 112 (w2.setCell ⟨bs,2,none⟩ (.S g 0 (cQ.length+1) cap)) v:=by
  intro v l z q;have hk:∀b off n c,v=.S b off n c->(w2.setCell ⟨bs,2,none⟩ (.S g 0 (cQ.length+1) cap)).heap[b]?=w1.heap[b]?:=by
   intro b off n c e;obtain⟨k,hk⟩:=q b off n c e;obtain⟨cs,f⟩:∃cs fr,w1.heap[b]?=some (.cells cs 112 fr):=by simp[World.shape?]at hk;grind
   obtain⟨fr,f⟩:=f;have t:w2.heap[b]?=w1.heap[b]?:=by refine p.block b AF (λe=>?_);obtain⟨bf,i⟩:=wZ d.r8 e.symm;grind[ah]
   rw[vat _ _ _ _ (show b≠bs from ?_),t];rintro rfl;grind[ah]
  exact⟨z.qZ hk,q.qZ hk⟩
 refine⟨x.setCell d.Gh _,d.yE,d.nodes,d.Gh,s.set 2 _,?_,?_,AF,d.Nj,?_⟩
 .grind[Gi,wZ]
 .refine Gi d.q1 (λg' u=>?_);obtain⟨bf,i⟩:=wZ d.q1 u;have I:=hst i AU;have C:ah w2 g' bf 4:=by grind[ah]
  grind
 .intro j A;rw[vbf,List.length_singleton]at A;have F:vals.length=cQ.length:=by have:=d.r8.1;omega
  by_cases D:j<cQ.length
  .obtain⟨v,a,b,c⟩:=d.each j D;grind
  grind
def Own.aof(h:Own w0 w bs eP aV eg di ts ns cQ aU vals)(u:aU.length+1<=1000)(D:w2.ownsRow w0.heap.size 4 1 (.S g 0 (aU.length+1) cap) (aU.length+1) (aU.map .bool++[.F]))(o:(w.alloc (.cells #[.F] 4)).grownBy w2 di.ownBlock):
 Own w0 (w2.setCell ⟨bs,3,none⟩ (.S g 0 (aU.length+1) cap)) bs eP aV eg (.S g 0 (aU.length+1) cap) ts ns cQ (aU++[false]) vals:=by
 have d:=h.call ((vaa w.heap.size w).alloc AF (.cells #[.F] 4));generalize w.alloc (.cells #[.F] 4)=w1 at *;clear h;have z:∀k,di.ownBlock=some k->w0.heap.size<=k:=λk hk=>(d.q1.lt k hk).1;have t:cC w0 w2:=d.below.grown o d.below.size z;have hst:∀{T:uaa}{b:Nat}{cs:df},ah w1 b cs T->T≠4->w2.heap[b]?=w1.heap[b]?:=by intro T b cs l m;refine o.block b l.lt (λe=>?_);obtain⟨bf,i⟩:=wZ d.q1 e.symm;exact l.ne i m U
 have q:ah w2 bs #[eP,aV,eg,di] 81:=by have:=hst d.box AU;unfold ah;rw[this];exact d.box
 have B:∀{T:uaa}{b:Nat}{cs:df},ah w2 b cs T->T≠81->(w2.setCell ⟨bs,3,none⟩ (.S g 0 (aU.length+1) cap)).heap[b]?=w2.heap[b]?:=by intro T b cs l m;exact vat _ _ _ _ (l.ne q m)
 refine⟨t.setCell d.Gh _,d.yE,d.nodes,d.Gh,q.set 3 _,?_,?_,d.small,AF,?_⟩
 .refine Gi d.r8 (λg' s=>?_);obtain⟨bf,i⟩:=wZ d.r8 s;have C:=hst i AU;have A:ah w2 g' bf 76:=by grind[ah]
  grind
 .grind[Gi,wZ]
 .intro j y;obtain⟨v,a,x,p⟩:=d.each j y;have hk:∀b off n c,v=.S b off n c->(w2.setCell ⟨bs,3,none⟩ (.S g 0 (aU.length+1) cap)).heap[b]?=w1.heap[b]?:=by
   intro b off n c e;obtain⟨k,hk⟩:=p b off n c e;obtain⟨cs,f⟩:∃cs fr,w1.heap[b]?=some (.cells cs 112 fr):=by simp[World.shape?]at hk;grind
   obtain⟨fr,f⟩:=f;have r:w2.heap[b]?=w1.heap[b]?:=by refine o.block b AF (λe=>?_);obtain⟨bf,i⟩:=wZ d.q1 e.symm;grind[ah]
   rw[vat _ _ _ _ (show b≠bs from ?_),r];rintro rfl;grind[ah]
  exact⟨v,a,x.qZ hk,p.qZ hk⟩
def Own.aog(h:Own w0 w bs eP aV eg di ts ns cQ aU vals){o:Obj}(c:(w.alloc o).grownBy w2 eg.ownBlock):ah w2 bs #[eP,aV,eg,di] 81:=by have a:=h.call ((vaa w.heap.size w).alloc AF o);refine a.box.grown c (λg hg=>?_);obtain⟨bf,b⟩:=wZ a.r8 hg;exact a.box.ne b AU
def Own.aoh(h:Own w0 w bs eP aV eg di ts ns cQ aU vals){o:Obj}(c:(w.alloc o).grownBy w2 di.ownBlock):ah w2 bs #[eP,aV,eg,di] 81:=by have a:=h.call ((vaa w.heap.size w).alloc AF o);refine a.box.grown c (λg hg=>?_);obtain⟨bf,b⟩:=wZ a.q1 hg;exact a.box.ne b AU
def Nk{x:Value}(h:ah w b #[x] T):∀j u,([x]:uad)[j]?=some u->w.cell? (.a b j)=some u:=by intro j u a;rw[h.rules.1 j];grind
def lH(aU:ubs)(cs:uaz):List Bool:=cs.foldl (λt c=>t.set c.toNat true) aU
theorem Z1(aU:ubs)(cs:uaz):(lH aU cs).length=aU.length:=by induction cs generalizing aU with|nil=>rfl|cons c r a=>simp_all[lH]
theorem aoi(aU:ubs)(cs:uaz)(c:Int):lH aU (cs++[c])=(lH aU cs).set c.toNat true:=by simp[lH]
end
namespace cu
open RowKit az bX
structure fb where
 e:TypeId
 v:Value
 xs:List Value
structure e5(B:Nat)(W:aL)(L:List fb):Prop where
 own:∀i(h:i<L.length),W.ownsRow B L[i].e 1 L[i].v L[i].xs.length L[i].xs
 apart:∀i j(hi:i<L.length)(hj:j<L.length) g,i≠j->L[i].v.ownBlock=some g->L[j].v.ownBlock≠some g
def iC(L:List fb)(b:Nat):Prop:=∀i(h:i<L.length),L[i].v.ownBlock≠some b
variable{B g i:Nat}{W:aL}{L:List fb}
theorem e5.lt(h:e5 B W L)(hi:i<L.length)(hg:L[i].v.ownBlock=some g):B<=g/\g<W.heap.size:=(h.own i hi).lt g hg
variable{b:Nat}
def e5.n4(h:e5 B W L)(a:W.heap.size<=b\/b<B):iC L b:=λi hi hg=>by have:=h.lt hi hg;omega
variable{W':aL}
def e5.kept(h:e5 B W L)(hk:∀g,¬iC L g->W'.heap[g]?=W.heap[g]?):e5 B W' L:=
 ⟨λi hi=>Gi (h.own i hi) λg hg=>hk g λa=>a i hi hg,h.apart⟩
variable{cap:Nat}{xs:uad}
def e5.push(h:e5 B W L)(hi:i<L.length)(p:W'.ownsRow B L[i].e 1 (.S g 0 xs.length cap) xs.length xs)(hg:W.grownBy W' L[i].v.ownBlock)(c6:L[i].v.ownBlock=some g\/g=W.heap.size):
 e5 B W' (L.set i ⟨L[i].e,.S g 0 xs.length cap,xs⟩):=by
 have m:∀j(a:j<L.length),j≠i->L[j].v.ownBlock≠some g:=λj a b f=>by
  rcases c6 with c6|c6
  .exact h.apart i j hi a g (Ne.symm b) c6 f
  .have:=(h.lt a f).2;omega
 refine⟨λj a=>?_,λj k a hk g' b c=>?_⟩
 .rw[vek]at a;by_cases e:i=j
  .grind
  .simp only[List.getElem_set,e,vef];exact Gi (h.own j a) λg' d=>hg.block g' (h.lt a d).2 λo=>h.apart i j hi a g' e o.symm d
 .rw[vek]at a hk;simp only[List.getElem_set]at c⊢;by_cases n:i=j
  .simp_all[Value.ownBlock,Ne.symm]
  .simp[n]at c;by_cases l:i=k
   .simp only[l,vdg,Value.ownBlock];grind
   .simp only[l,vef];exact h.apart j k a hk g' b c
variable{n:Nat}
theorem aoo(h:e5 B W L)(hi:i<L.length){e:uaa}(c6:L[i].v.ownBlock=some g\/g=W.heap.size)(k:b<W.heap.size)(d:iC L b):iC (L.set i ⟨e,.S g 0 n cap,xs⟩) b:=by
 intro j c a;rw[vek]at c;simp[List.getElem_set]at a;by_cases f:i=j
 .simp[f,Value.ownBlock]at a;subst a;rcases c6 with c6|c6
  .exact d i hi c6
  .omega
 .simp[f]at a;exact d j c a
structure q2(L:List fb)(w w':aL):Prop where
 size:w.heap.size<=w'.heap.size
 os:w'.os=w.os
 tape:w'.tape=w.tape
 output:w'.output=w.output
 block:∀b,b<w.heap.size->iC L b->w'.heap[b]?=w.heap[b]?
@[simp] theorem aFn:cX true 30:=dg (bB (upd:=true) func30 AQ) AQ
theorem e5.at(h:e5 B W L){r:fb}(a:L[i]?=some r):W.ownsRow B r.e 1 r.v r.xs.length r.xs:=by obtain⟨hi,rfl⟩:=vab.1 a;exact h.own i hi
theorem e5.alloc(h:e5 B W L)(o:Obj):e5 B (W.alloc o) L:=h.kept λg hg=>vcj _ _ _ (by
 apply vaw;intro a;exact hg (h.n4 AF))
def e5.set(h:e5 B W L)(a:iC L b)(o:Nat)(v:Value):e5 B (W.setCell ⟨b,o,none⟩ v) L:=h.kept λg hg=>vat _ _ _ _ AF
def e5.JA(h:e5 B W L){e:uaa}{v:Value}(c:L[i]?=some ⟨e,v,xs⟩){x:Value}(j:W'.ownsRow B e 1 (.S g 0 (xs.length+1) cap) (xs.length+1) (xs++[x]))(hg:W.grownBy W' v.ownBlock)(c6:v.ownBlock=some g\/g=W.heap.size):
 e5 B W' (L.set i ⟨e,.S g 0 (xs.length+1) cap,xs++[x]⟩)/\∀b,b<W.heap.size->iC L b->iC (L.set i ⟨e,.S g 0 (xs.length+1) cap,xs++[x]⟩) b:=by
 obtain⟨hi,a⟩:=vab.1 c;have f:L[i].e=e:=by rw[a]
 have k:L[i].v=v:=by rw[a]
 have d:(xs++[x]).length=xs.length+1:=Ab;have:=h.push hi (xs:=xs++[x]) (by rw[d,f];exact j) AF AF;grind[aoo]
def e5.below(h:e5 B W L)(a:Below W.heap.size W.drew W'):e5 B W' L:=h.kept λg hg=>a.block g (by
 apply vaw;intro b;exact hg (h.n4 AF))
variable{w:aL}{P:cf}{K:uaf}{Q:uah}{ats:uar}
def aop{ops:du}{o:Oper}{a:Act}{F:Prop}(k:o.guard=none){f:uaj}{fn:Func}{args:uav}(b:o.op=.call {callee:=.value (.func f),args,argTypes:=ats})(g:P.funcs[f]?=some fn)(c:(fn.name== "runtime.NumGoroutine")=false)(i:fn.body.isNone=false){vs:df}(hv:args.map a.eval=vs)(h:Calls P f vs w λ| .returned v,w'=>K (a.put o.dst v) w'| _,_=>False):if Region.wanted o (yielded ops a.tmps)=true then Oper.wp P o a w K Q else F:=by
 subst hv;have d:Region.wanted o (yielded ops a.tmps)=true:=by grind[Region.wanted]
 rw[vbv d];unfold Oper.wp;rw[Conc.run_call_body b g c i];refine h.mono λe w' j=>?_;grind
def aoq{ops:du}{o:Oper}{a:Act}{F:Prop}(c:o.guard=none){x:uap}(b:o.op=.call {callee:=.value (.func 38),args:=#[x],argTypes:=ats}){s:ByteArray}(hv:a.eval x=.string s)(ht:s.size<=1000000)(h:∀w',cC w w'->K (a.put o.dst (.string s)) w'):if Region.wanted o (yielded ops a.tmps)=true then Oper.wp (ae prog true) o a w K Q else F:=
 aop c b (bB (upd:=true) func38 AQ) Ao U (vs:=#[.string s]) AF ((aon s w ht).mono AF)
def je{j:Nat}(h:i≠j)(x:fb):(L.set i x)[j]?=L[j]?:=by simp[h]
variable{cs:df}
def Nl{c:Nat}{T:uaa}(h:ah w c cs T)(a:c≠b)(o:Nat)(v:Value):ah (w.setCell ⟨b,o,none⟩ v) c cs T:=by grind[ah,Below.heap_setCell]
def q2.set{w':aL}(h:q2 L w w')(o:Nat)(v:Value)(c:w.heap.size<=b):q2 L w (w'.setCell ⟨b,o,none⟩ v):=
 ⟨by simp[World.setCell];exact h.size,h.os,h.tape,h.output,λk hk a=>(vat _ _ _ _ AF).trans (h.block k hk a)⟩
def q2.Z3{w1 w2:aL}(h:q2 L w w1)(hs:w1.heap.size<=w2.heap.size)(e:w2.os=w1.os)(ht:w2.tape=w1.tape)(d:w2.output=w1.output)(f:∀b,b<w.heap.size->iC L b->w2.heap[b]?=w1.heap[b]?):q2 L w w2:=
 ⟨vad h.size hs,e.trans h.os,ht.trans h.tape,d.trans h.output,λb a c=>(f b a c).trans (h.block b a c)⟩
def aor(h:e5 B w L)(hB:B<=w.heap.size){k:Nat}{be vs aV:Value}{is l ns:uad}(h0:L[k]?=some ⟨2,be,is⟩)(h1:L[k+1]?=some ⟨9,vs,l⟩)(h2:L[k+2]?=some ⟨4,aV,ns⟩)(kind bV:Int)(d:cZ)(ht:d.text.size<=1000000)(hl:is.length<=1000/\l.length<=1000/\ns.length<=1000):
 Calls (ae prog true) 30 #[.agg #[.I kind,.I bV,be,vs,aV],o6 d] w λe w'=>(∃g c f a,(kind≠3/\e=.returned (.agg #[.I kind,.I bV,.S g 0 (is.length+1) c,vs,.S f 0 (ns.length+1) a])/\
  e5 B w' ((L.set (k+2) ⟨4,.S f 0 (ns.length+1) a,ns++[.bool d.dU]⟩).set k ⟨2,.S g 0 (is.length+1) c,is++[.I d.num]⟩))\/
  (kind=3/\e=.returned (.agg #[.I kind,.I bV,be,.S g 0 (l.length+1) c,.S f 0 (ns.length+1) a])/\
   e5 B w' ((L.set (k+2) ⟨4,.S f 0 (ns.length+1) a,ns++[.bool d.dU]⟩).set (k+1) ⟨9,.S g 0 (l.length+1) c,l++[.string d.text]⟩)))/\q2 L w w':=by
 obtain⟨sa,t,e0⟩:=gQ (show w.ownsRow B 9 1 vs l.length l from h.at h1);subst e0;obtain⟨x,q,e1⟩:=gQ (show w.ownsRow B 2 1 be is.length is from h.at h0);obtain⟨an,C,A⟩:=gQ (show w.ownsRow B 4 1 aV ns.length ns from h.at h2);subst e1;subst A;have SR:Hid _:=h0;have JB:Hid _:=h1;have pP:Hid _:=h2;have Q:Hid _:=hl;have U:Hid (e5 B w L):=h;clear h0 h1 h2 hl h;have b2:=(((ah.new w #[.I kind,.I bV,.slice x is.length q,.slice sa l.length t,.slice an ns.length C] 36).alloc (.cells #[.bool d.dU,.I d.num,.I d.bV,.string d.text] 91)).alloc (.cells #[.I 0,.I 0,.N,.N,.N] 36)).alloc (.cells #[.bool d.dU] 4);have b5:=((ah.new (w.alloc (.cells #[.I kind,.I bV,.slice x is.length q,.slice sa l.length t,.slice an ns.length C] 36)) #[.bool d.dU,.I d.num,.I d.bV,.string d.text] 91).alloc (.cells #[.I 0,.I 0,.N,.N,.N] 36)).alloc (.cells #[.bool d.dU] 4);have bk:=(ah.new ((w.alloc (.cells #[.I kind,.I bV,.slice x is.length q,.slice sa l.length t,.slice an ns.length C] 36)).alloc (.cells #[.bool d.dU,.I d.num,.I d.bV,.string d.text] 91)) #[.I 0,.I 0,.N,.N,.N] 36).alloc (.cells #[.bool d.dU] 4);have bt:=ah.new (((w.alloc (.cells #[.I kind,.I bV,.slice x is.length q,.slice sa l.length t,.slice an ns.length C] 36)).alloc (.cells #[.bool d.dU,.I d.num,.I d.bV,.string d.text] 91)).alloc (.cells #[.I 0,.I 0,.N,.N,.N] 36)) #[.bool d.dU] 4;have SS:=(((U.out.alloc (.cells #[.I kind,.I bV,.slice x is.length q,.slice sa l.length t,.slice an ns.length C] 36)).alloc (.cells #[.bool d.dU,.I d.num,.I d.bV,.string d.text] 91)).alloc (.cells #[.I 0,.I 0,.N,.N,.N] 36)).alloc (.cells #[.bool d.dU] 4);simp at b5 bk bt;have nN:Hid _:=b2;have r9:Hid _:=b5;have w5:Hid _:=bk;have H:Hid _:=Nk bt;have JC:Hid _:=SS;have F:Hid _:=SS.at pP.out;have r:Hid (∀u∈([.bool d.dU]:uad),u.oneCell'=true):=GF;have tK:Hid (B<=w.heap.size):=hB;clear b2 b5 bk bt SS hB;go_enter (bB (upd:=true) func30 AQ),ntmps30
 go_wp2_with (at_builtin;apply sQ)
 unfold ky;refine Md Iy _ rfl _ _ rfl B (.slice an ns.length C) ns.length ns rfl F.out (w.heap.size+1+1+1) 1 1 _ rfl rfl H.out r.out AU EK EK (by have:=tK.out;simp;omega) (w.heap.size+1+1+1+1) Ab ?_;intro f a dK SU n Z4 Z5;have cO:∀i g,i<3->(Value.slice an ns.length C).ownBlock=some g->w.heap.size+i≠g:=λi g _ hg=>by obtain⟨hi,z⟩:=vab.1 pP.out;have:=(U.out.lt hi (by rw[z];exact hg)).2;omega
 obtain⟨uj,dl⟩:=e5.JA JC.out pP.out SU n Bc;have bG:=(ah.grown nN.out n (λg hg=>cO 0 g AU hg)).set 4 (.S f 0 (ns.length+1) a);have dH:=ah.grown r9.out n Bc;have c4:=ah.grown w5.out n (λg hg=>cO 2 g AU hg);have E:∀i,i<3->iC (L.set (k+2) ⟨4,.S f 0 (ns.length+1) a,ns++[.bool d.dU]⟩) (w.heap.size+i):=λi hi=>dl _ A2 (U.out.n4 AF);have Nm:q2 L w dK:=⟨by have:=n.size;simp at this;omega,n.os,n.tape,n.output,λb hb X=>(n.block b A2 (λe=>by
  obtain⟨hi,z⟩:=vab.1 pP.out;exact X _ hi AF)).trans (by
   grind[Below.heap_alloc])⟩
 obtain⟨K,J,I⟩:=(ah.grown nN.out n (λg hg=>cO 0 g AU hg)).all;by_cases lg:kind=3
 .subst lg;go_upto_region 3 with fail
  have D:=uj.set (E 0 AU) 4 (.S f 0 (ns.length+1) a);have M:=Nl dH (b:=w.heap.size) AX 4 (.S f 0 (ns.length+1) a);have Z:=Nl c4 (b:=w.heap.size) AX 4 (.S f 0 (ns.length+1) a);have JD:=Nm.set 4 (.S f 0 (ns.length+1) a) Jb;simp at D;generalize dK.setCell ⟨w.heap.size,4,none⟩ (.S f 0 (ns.length+1) a)=W at *;simp at bG;clear K J I uj dH c4 Nm SU n Z4 Z5 JC F H r;have P:(L.set (k+2) ⟨4,.S f 0 (ns.length+1) a,ns++[.bool d.dU]⟩)[k+1]?=some ⟨9,.slice sa l.length t,l⟩:=(je AX _).trans JB.out;have O:Hid _:=bG;have CU:Hid _:=M;have JE:Hid _:=Z;have o:Hid _:=JD;have Z6:Hid _:=D;have N:Hid _:=P;have uk:Hid _:=E;have r:Hid (∀u∈([.string d.text]:uad),u.oneCell'=true):=GF;obtain⟨K,J,I⟩:=bG.all;obtain⟨gB,kZ,V⟩:=M.all;clear P bG M Z JD E D;have R:∀i g,i<3->(Value.slice sa l.length t).ownBlock=some g->w.heap.size+i≠g:=λi g As hg=>by obtain⟨hi,z⟩:=vab.1 JB.out;have:=(U.out.lt hi (by rw[z];exact hg)).2;omega
  have HOW:Hid _:=R;clear R;go_region_law
   (first|(refine aoq BK BK (s:=d.text) BK ht ?_;intro vu m;obtain⟨dw,dI,gh⟩:=(ah.call (ah.drew O.out) m).all)|(refine aki Q5 _ BK _ _ BK B (.slice sa l.length t) l.length l BK ((e5.alloc (e5.below Z6.out m) _).at N.out) vu.heap.size 1 1 [.string d.text] BK rfl Bc r.out AX EK EK (by have:=tK.out;have:=o.out.size;have:=m.size;simp at this⊢;omega) (vu.heap.size+1) Ab ?_;intro g c ul JF j SV SW;have A:=ah.grown ((ah.call (ah.drew O.out) m).alloc _) j (λg hg=>HOW.out 0 g AU hg);have e3:=ah.grown ((ah.call (ah.drew CU.out) m).alloc _) j (λg hg=>HOW.out 1 g AU hg);obtain⟨u1,u2,u3⟩:=A.all))
  all_goals
   obtain⟨JG,T⟩:=e5.JA (e5.alloc (e5.below Z6.out m) _) N.out JF j Bc;have Y:=ah.grown ((ah.call (ah.drew JE.out) m).alloc _) j (λg hg=>HOW.out 2 g AU hg);have JH:q2 L w ul:=o.out.Z3 (by have s1:=j.size;have kt:=m.size;simp at s1 kt;omega) (j.os.trans m.os) (j.tape.trans m.tape) (j.output.trans m.output) (λb hb X=>(j.block b (by have:=o.out.size;have:=m.size;simp at this⊢;omega) (λe=>by
    obtain⟨hi,z⟩:=vab.1 JB.out;exact X _ hi AF)).trans ((vcj _ _ _ AF).trans (m.block b (by have:=o.out.size;simp;omega))))
   obtain⟨t1,gv,t3⟩:=Y.all;have SX:Hid _:=JH;have SY:Hid _:=JG;have JI:Hid (∀i,i<3->iC _ (w.heap.size+i)):=λi hi=>T _ (by have:=o.out.size;have:=V;have:=m.size;simp at this⊢;omega) (uk.out i hi);clear A e3 Y JH JG T K J I gB kZ V dw dI gh JF j SV SW N O CU JE o r m;go_wp2
   have S:=JI.out 0 AU;have p:=JI.out 2 AU;simp at S;exact vbw (v:=.agg #[.I 3,.I bV,.slice x is.length q,.S g 0 (l.length+1) c,.S f 0 (ns.length+1) a]) (by simp[results,results30,go_sem,t1]) rfl
    ⟨⟨g,c,f,a,rfl,(((((SY.out.set S _ _).set p _ _).set p _ _).set p _ _).set p _ _).set p _ _⟩,(((((SX.out.set _ _ AF).set _ _ AX).set _ _ AX).set _ _ AX).set _ _ AX).set _ _ AX⟩
 .have jJ:(kind==3)=false:=by grind
  have aos:Hid _:=lg;clear lg;go_upto_region 4 with fail
  have D:=uj.set (E 0 AU) 4 (.S f 0 (ns.length+1) a);have M:=Nl dH (b:=w.heap.size) AX 4 (.S f 0 (ns.length+1) a);have Z:=Nl c4 (b:=w.heap.size) AX 4 (.S f 0 (ns.length+1) a);have JD:=Nm.set 4 (.S f 0 (ns.length+1) a) Jb;simp at D;generalize dK.setCell ⟨w.heap.size,4,none⟩ (.S f 0 (ns.length+1) a)=W at *;simp at bG;clear K J I uj dH c4 Nm SU n Z4 Z5 JC F H r;have P:(L.set (k+2) ⟨4,.S f 0 (ns.length+1) a,ns++[.bool d.dU]⟩)[k]?=some ⟨2,.slice x is.length q,is⟩:=(je AX _).trans SR.out;have SZ:=D.alloc (.cells #[.I d.num] 2);have F:Hid _:=SZ.at P;have H:Hid _:=Nk (ah.new W #[.I d.num] 2);have r:Hid (∀u∈([.I d.num]:uad),u.oneCell'=true):=GF;have O:Hid _:=bG.alloc (.cells #[.I d.num] 2);have JE:Hid _:=Z.alloc (.cells #[.I d.num] 2);have o:Hid _:=JD;have Z7:Hid _:=SZ;have N:Hid _:=P;have uk:Hid _:=E;have aot:Hid (B<=(W.alloc (.cells #[.I d.num] 2)).heap.size):=by grind[Hid]
  obtain⟨K,J,I⟩:=bG.all;obtain⟨gB,kZ,V⟩:=M.all;clear SZ P bG M Z JD E;go_wp2_with (at_builtin;apply sQ)
  unfold ky;refine Md Q4 _ rfl _ _ rfl B (.slice x is.length q) is.length is rfl F.out W.heap.size 1 1 _ rfl rfl H.out r.out AU EK EK aot.out (W.heap.size+1) Ab ?_;intro tQ ci ul JF j SV SW;have R:∀i g,i<3->(Value.slice x is.length q).ownBlock=some g->w.heap.size+i≠g:=λi g As hg=>by obtain⟨hi,z⟩:=vab.1 SR.out;have:=(U.out.lt hi (by rw[z];exact hg)).2;omega
  obtain⟨JG,T⟩:=e5.JA Z7.out N.out JF j Bc;have A:=ah.grown O.out j (λg hg=>R 0 g AU hg);have Y:=ah.grown JE.out j (λg hg=>R 2 g AU hg);have JH:q2 L w ul:=o.out.Z3 (by have:=j.size;simp at this;omega) j.os j.tape j.output (λb hb X=>(j.block b (by have:=o.out.size;simp;omega) (λe=>by
   obtain⟨hi,z⟩:=vab.1 SR.out;exact X _ hi AF)).trans (vcj _ _ _ AF))
  obtain⟨u1,u2,u3⟩:=A.all;obtain⟨t1,gv,t3⟩:=Y.all;have SX:Hid _:=JH;have SY:Hid _:=JG;have JI:Hid (∀i,i<3->iC _ (w.heap.size+i)):=λi hi=>T _ (by have:=o.out.size;have:=V;simp;omega) (uk.out i hi);clear A Y JH JG T K J I gB kZ V JF j SV SW Z7 N O JE o F H r;go_wp2
  have S:=JI.out 0 AU;have p:=JI.out 2 AU;simp at S;exact vbw (v:=.agg #[.I kind,.I bV,.S tQ 0 (is.length+1) ci,.slice sa l.length t,.S f 0 (ns.length+1) a]) (by simp[results,results30,go_sem,t1]) rfl
   ⟨⟨tQ,ci,f,a,.inl ⟨aos.out,rfl,(((((SY.out.set S _ _).set p _ _).set p _ _).set p _ _).set p _ _).set p _ _⟩⟩,(((((SX.out.set _ _ AF).set _ _ AX).set _ _ AX).set _ _ AX).set _ _ AX).set _ _ AX⟩
open Shelf
def Nn(w0:aL)(rs:List a7)(t:Nat)(W:aL)(x:Value):Prop:=∃(h:t<rs.length)(eM:uan)(pc:Nat)(bZ:uan)(bY:Nat),x=.agg #[.slice eM rs[t].1.length pc,.slice bZ rs[t].2.length bY]/\jq w0 (.slice bZ rs[t].2.length bY) rs[t].2/\bp w0 W
theorem func28:(ae prog true).funcs[(28:Nat)]?=some f28:=bB (upd:=true) Tryz.func28 AQ
def aow(rs:List a7)(bE:Value)(cW:Nat)(w0:aL)(N:gm w0 bE rs)(M:rs.length<=1000000)(k:w0.cell? (.a cW 0)=some bE):
 Cj n (ae prog true) 28 #[.P cW 0] (Nn w0 rs) rs.length w0.heap.size w0:=by
 intro l S J W d w I z h0;have D:=Yg w I;clear I w;have j:=bp.b7 d;have t:=j _ _ _ k;obtain⟨Y,cap,rfl,-,s⟩:=N;refine callsIn_of_wp func28 rfl trivial ?_ rfl;simp[vcg];gi_wp2
 gi_loopw [7] (λp wr=>∃i:Nat,i<=rs.length/\p=.I (i:Int)/\J i wr/\cC w0 wr/\Below w0.heap.size W wr) (λp _=>rs.length-(intOf p).toNat)
 case atStart=>exact⟨0,vav _,rfl,h0,d,vaa _ _⟩
 case round=>
  obtain⟨i,T,rfl,B,C,E⟩:=hrel;have v:Hid (J i wr):=B;have c:Hid (cC w0 wr):=C;have u:Hid (Below w0.heap.size W wr):=E;clear B C E;by_cases a:i<rs.length
  .obtain⟨b,off,rfl,pv,U,m,d1,y,g⟩:=s i a;obtain⟨F,pc,rfl,-,-⟩:=id y;obtain⟨q,r,rfl,-,-⟩:=id g;have o:=bp.b7 c.out;simp at m;have O:=o _ _ _ m;have V:=o _ _ _ d1;have X:=fp O;have P:Hid (jq w0 (.slice q rs[i].2.length r) rs[i].2):=g;have K:(i:Int)<(rs.length:Int):=AX;have Z:(0:Int)<=(i:Int):=AX;clear o m d1 s y g h0 d j t k;have f:cC wr (wr.alloc (.cells #[.slice F rs[i].1.length pc,.slice q rs[i].2.length r] 74)):=(vaa _ wr).alloc Jb _;obtain⟨fn,tmps,assign,body,L,H⟩:=z i _ _ (D _ _ _ v.out f) a ⟨a,F,pc,q,r,rfl,P.out,bp.b7 (c.out.trans (f.mono c.out.size))⟩;have x:Hid _:=f;clear z D f;gi_wp2
   refine⟨λh=>Cl,H.mono ?_⟩;rintro e R ⟨rfl,Q,A⟩;clear H L;gi_wp2
   go_roundw
   case rel=>exact⟨i+1,AX,Ab,Q,c.out.trans ((x.out.mono c.out.size).trans A),u.out.trans ((x.out.mono c.out.size).trans A)⟩
   case measure=>simp[intOf];omega
  .have K:¬(i:Int)<(rs.length:Int):=by omega
   clear s h0 d j t k;gi_wp2
   go_end0
   have e:rs.length=i:=AX;rw[e];exact⟨⟨_,rfl⟩,v.out,u.out⟩
structure jh(Y:ubi)(W W':aL):Prop where
 size:W.heap.size<=W'.heap.size
 cells:∀(b:Nat)(c:df)(e:uaa)(z:ubu),W.heap[b]?=some (Obj.cells c e z)->Y e->W'.heap[b]?=some (Obj.cells c e z)
variable{Y:ubi}
theorem jh.trans{A B C:aL}(h:jh Y A B)(k:jh Y B C):jh Y A C:=⟨vad h.size k.size,λb c e z x y=>k.cells b c e z (h.cells b c e z x y) y⟩
def jh.p9(h:jb W W'):jh Y W W':=⟨h.size,λb c e z x _=>h.cells b c e z x⟩
def jh.set{T:uaa}(h:ah W b cs T)(a:¬Y T)(o:Nat)(v:Value):jh Y W (W.setCell ⟨b,o,none⟩ v):=
 ⟨Bc,λk c e z x y=>by
  grind[ah,Below.heap_setCell]⟩
def aox(h:cC W W'):KeepsOthers W W':=⟨h.size,λ_ _ x _=>(h.block _ (jS x)).trans x⟩
def S0(Y:ubi)(n:Nat)(P:cf)(g:Nat)(lb:df)(Row:uau)(N nQ:Nat)(w0:aL):Prop:=
 ∀(l:Nat)(S:c7)(J:ubt)(W:aL),Below nQ w0 W->nQ<=W.heap.size->(∀b,S b->b<W.heap.size)->(∀t W W',J t W->jh (λe=>¬Y e) W W'->(∀b,S b->W'.heap[b]?=W.heap[b]?)->J t W')->
  (∀t x W1,J t W1->t<N->Row t W1 x->nQ<=W1.heap.size->YieldAt Fence.wide (n-1) P l #[x] W1 λe W'=>e=.returned (.T)/\J (t+1) W'/\Below nQ W1 W'/\KeepsOthers W1 W'/\jh Y W1 W')->
  J 0 W->CallsIn Fence.wide n P g (#[.func (.yield l) #[] #[]]++lb) W λe W'=>(∃v,e=.returned v)/\J N W'/\Below nQ W W'
variable{N gf:Nat}{lb:df}{assign body:Code}
def aoy{g:uap}{p:Tmp}{a:Act}{Row:uau}{nQ:Nat}{w0:aL}(hg:a.eval g=.func (.func gf) #[] lb)(rJ:∀args w,(callFunc gf args).run P w=.ok (.enter gf args) w)(F:S0 Y (n-1) P gf lb Row N nQ w0)(iH:Below nQ w0 w)(hn:nQ<=w.heap.size)(I:ubt)(j:∀t W W',I t W->jh (λe=>¬Y e) W W'->I t W')(h0:I 0 w)(r:ubm)(IF:∀t x a' W W',r t x a' W->jb W W'->r t x a' W')(IG:∀(l t:Nat)(x:Value)(W:aL)(K:uaf),I t W->t<N->Row t W x->(∀a' W',cC W W'->r t x a' W'->K a' W')->
  assign.wpIn (Fence.wide.inRound l) (n-1-1) P (Exit.then K (λ_ _ _=>False)) {tmps:=a.tmps.setIfInBounds p x,defers:=[]} W)(E:∀(l t:Nat)(x:Value)(a':Act)(W:aL),I t W->t<N->r t x a' W->nQ<=W.heap.size->body.wpIn (Fence.wide.inRound l) (n-1-1) P (λe _ W'=>e=.normal/\KeepsOthers W W'/\Below nQ W W'/\jh Y W W'/\I (t+1) W') a' W)(hdone:∀W,I N W->Below nQ w W->W.heap[w.heap.size]?=some (.deferred (some []))->Q .normal {a with defers:={target:=.collected w.heap.size,args:=#[]}::a.defers} W):
 (Code.rangeFunc g #[p] assign body).wpIn Fence.wide n P Q a w:=by
 refine wpIn_rangeFunc ?_;intro fn O;obtain⟨rec,D⟩:∃rec:LoopState->Loop,rec=λst=>{state:=st,pending:=none,fn,tmps:=a.tmps,params:=#[p],assign,body,defers:=w.heap.size}:=⟨_,rfl⟩;obtain⟨c,Rb⟩:∃c,(w.alloc (.deferred (some []))).alloc (.loop (rec .ready))=c:=⟨_,rfl⟩;have If:c.heap[w.heap.size+1]?=some (.loop (rec .ready)):=by grind[World.alloc_heap_new,World.size_alloc]
 have Rc:c.heap[w.heap.size]?=some (.deferred (some [])):=by grind[Below.heap_alloc,World.alloc_heap_new]
 have A:cC w c:=by rw[<-Rb];exact((vaa _ w).alloc Jb _).alloc Ab _
 refine⟨w.heap.size+1,[{target:=.collected w.heap.size,args:=#[]}],c,{target:=.fn (.func gf) lb,args:=#[.func (.yield (w.heap.size+1)) #[] #[]]},c,gf,#[.func (.yield (w.heap.size+1)) #[] #[]]++lb,c,?_,?_,λ_ _=>trivial,?_,λh=>Cl,?_⟩
 .simp_all[run_enterLoop_outer]
 .simp only[resolve,hg];simp[go_sem]
 .grind[invoke]
 .refine(F (w.heap.size+1) (λb=>b=w.heap.size\/b=w.heap.size+1) (λt W=>I t W/\W.heap[w.heap.size+1]?=some (.loop (rec .ready))/\W.heap[w.heap.size]?=some (.deferred (some []))) c (iH.trans (A.mono hn)) AF ?_ ?_ ?_ ⟨j _ _ _ h0 (.p9 (jb.below A)),If,Rc⟩).mono ?_
  .grind
  .grind
  .rintro t x W ⟨hi,f,hk⟩ i X H;have z:=run_yield (P:=P) (args:=#[x]) f AF;rw[D]at z;refine⟨fn,_,assign,body,z,roundIn_of_wpIn O ?_⟩;clear z;have V:(#[p].zip #[x]).foldl (λtmps(u:Tmp×Value)=>tmps.setIfInBounds u.1 u.2) a.tmps=a.tmps.setIfInBounds p x:=Ab;refine Eq.mp (vbx (λT=>Code.wpIn (Fence.wide.inRound (w.heap.size+1)) (n-1-1) P assign _ {tmps:=T,defers:=[]} W) V.symm) ?_;refine IG _ t x W _ hi i X ?_;intro a' C d Z;have m:=(d.block _ (jS f)).trans f;have U:=(d.block _ (jS hk)).trans hk;refine⟨_,run_beginRound m AF,?_⟩;have M:(C.putObj (w.heap.size+1) (.loop {rec .ready with state:=.busy})).heap[w.heap.size+1]?=some (.loop {rec .ready with state:=.busy}):=vde (jS m);have L:(C.putObj (w.heap.size+1) (.loop {rec .ready with state:=.busy})).heap[w.heap.size]?=some (.deferred (some [])):=(vas AX).trans U;refine wpIn_mono (E _ t x a' _ (j _ _ _ (j _ _ _ hi (.p9 (jb.below d))) (.p9 (jb.put m))) i (IF _ _ _ _ _ Z (.put m)) AF) ?_;rintro e bI J ⟨rfl,q,rP,No,As⟩;have s:=q.same _ _ M rfl;have II:=q.same _ _ L rfl;have R:=run_endRound (P:=P) none s;have iO:(J.putObj (w.heap.size+1) (.loop (rec .ready))).heap[w.heap.size+1]?=some (.loop (rec .ready)):=vde (jS s);refine⟨_,_,R,rfl,⟨j _ _ _ As (.p9 (jb.put s)),?_,(vas AX).trans II⟩,?_,⟨?_,λk o x y=>?_⟩,?_⟩
   .grind
   .exact((d.mono H).trans ((wC _ AX).trans rP)).trans (wC _ AX)
   .have:=d.size;have:=q.size;simp at this⊢;omega
   .by_cases B:k=w.heap.size+1
    .grind
    .exact(vas B).trans (q.same _ _ ((vas B).trans ((d.block _ (jS x)).trans x)) y)
   .exact(((jh.p9 (jb.below d)).trans (.p9 (jb.put m))).trans No).trans (.p9 (jb.put s))
  .rintro e W2 ⟨⟨v,rfl⟩,⟨hi,f,hk⟩,S⟩;refine⟨none,_,by have:=run_endLoop (P:=P) f AF;rw[D]at this;exact this,hdone _ (j _ _ _ hi (.p9 (jb.put f))) ?_ ((vas AX).trans hk)⟩;exact((A.mono hn).trans S).trans (wC _ AX)
def aoz{m a l b:Nat}{f:uaj}{tmps:df}{R:Ending->aL->Prop}(h:RoundIn Fence.wide m P l f tmps assign body w R):RoundIn (Fence.wide.inRound b) a P l f tmps assign body w R:=⟨h.1,λc cs _=>h.2 c cs (λd hd=>by simp[Fence.wide]at hd)⟩
section
theorem func27:(ae prog true).funcs[(27:Nat)]?=some f27:=bB (upd:=true) Tryz.func27 AQ
attribute [local go_sem] Oper.semAt_some
def s9(e:uaa):Prop:=e=3\/e=88
def CW(h:jb W W'){o:Nat}{v:Value}(a:W.cell? (.a b o)=some v):W'.cell? (.a b o)=some v:=by
 have:∃c e z,W.heap[b]?=some (.cells c e z)/\c[o]?=some v:=by unfold World.cell? at a;grind
 obtain⟨c,e,z,d,f⟩:=this;have:=h.cells _ _ _ _ d;grind[World.cell?]
def aoA{Row:uau}(O g k:Nat)(w0:aL)(rO:∀n,Cj n (ae prog true) gf lb Row N w0.heap.size w0)(rJ:∀args w,(callFunc gf args).run (ae prog true) w=.ok (.enter gf args) w)(R:∀t W x,Row t W x->∃p pl pc q c a,x=.agg #[.slice p pl pc,.slice q c a])(cm:∀t W W' x,jb W W'->Row t W x->Row t W' x)(a4:N<=1000000)(j:w0.cell? (.a O 0)=some (.func (.func gf) #[] lb))(f:w0.cell? (.a g 0)=some (.I 0))(i:w0.cell? (.a k 0)=some (.I 9223372036854775807)):
 S0 s9 n (ae prog true) 27 #[.P O 0,.P g 0,.P k 0] Row N w0.heap.size w0:=by
 intro l S J W C E hS r U h0;have o:=bp.b7 C;have v:=o _ _ _ j;have s:=o _ _ _ f;have D:=o _ _ _ i;have x9:=fp v;refine callsIn_of_wp_marks func27 rfl trivial ?_;simp[vcg];gi_wp2
 have d:cC W ((W.alloc (.cells #[.func (.yield l) #[] #[]] 88)).alloc (.cells #[.I 0] 3)):=((vaa _ W).alloc Jb _).alloc Ab _;refine akI (n:=n) (gf:=gf) (lb:=lb) (w0:=w0) (nQ:=w0.heap.size) (N:=N) (Row:=Row) rfl rJ (rO _) (C.trans (d.mono E)) A2 S (λb hs=>by have:=hS b hs;simp;omega)
  (λt V=>J t V/\ah V W.heap.size #[.func (.yield l) #[] #[]] 88/\ah V (W.heap.size+1) #[.I t] 3/\V.cell? (.a g 0)=some (.I 0)/\V.cell? (.a k 0)=some (.I 9223372036854775807))
  (λt V nf h hk hs=>⟨r _ _ _ h.1 (.p9 hk) hs,hk.cells _ _ _ _ h.2.1,hk.cells _ _ _ _ h.2.2.1,CW hk h.2.2.2.1,CW hk h.2.2.2.2⟩)
  ⟨r _ _ _ h0 (.p9 (.below d)) (λb hs=>d.block b (hS b hs)),(ah.new W _ _).alloc _,by have:=ah.new (W.alloc (.cells #[.func (.yield l) #[] #[]] 88)) #[.I 0] 3;simp_all,CW (.below d) s,CW (.below d) D⟩
  (λt x a' V=>∃m p pl pc q c a,ah V m #[.slice p pl pc,.slice q c a] 74/\x=.agg #[.slice p pl pc,.slice q c a]/\Row t V x/\∃z,a'={tmps:=#[.func (.yield l) #[] #[],.P O 0,.P g 0,.P k 0,.P W.heap.size 0,.P (W.heap.size+1) 0,.P m 0,.func (.func gf) #[] lb,z,.U,.U,.U,.U,.U,.U,.U,.U,.U,.U,.U,.U,.U,.U,.U,.U],defers:=[]})
  (λt x a' V nf h hk _=>by
   obtain⟨m,p,pl,pc,q,c,a,j,f,i,M⟩:=h;exact⟨m,p,pl,pc,q,c,a,hk.cells _ _ _ _ j,f,AF,M⟩)
  ?assign ?body ?done
 case assign=>
  rintro l' t x V K- -A hK;obtain⟨p,pl,pc,q,c,a,rfl⟩:=R _ _ _ A;clear v s D j f i C o h0;gi_wp2
  have Y:cC V (V.alloc (.cells #[.slice p pl pc,.slice q c a] 74)):=(vaa _ V).alloc Jb _;exact hK _ _ Y ⟨V.heap.size,p,pl,pc,q,c,a,ah.new V _ _,rfl,cm _ _ _ _ (.below Y) A,_,rfl⟩
 case body=>
  rintro l' t x a' V ⟨B,I,F,Q,Nr⟩ L ⟨m,p,pl,pc,q,c,a,cD,rfl,A,z,rfl⟩ qI;obtain⟨fn,tmps,assign,body,hy,bL⟩:=U t _ _ B L A qI;obtain⟨dw,dI,gh⟩:=cD.all;obtain⟨gB,kZ,lE⟩:=I.all;obtain⟨eU,gR,hh⟩:=F.all;have X:=fp f;have S1:=fp i;have sT:Hid _:=@r;have JB:Hid _:=hS;have M:Hid _:=I;have aQ:Hid _:=F;have JK:Hid _:=Q;have Ns:Hid _:=Nr;have Z:Hid _:=X;have P:Hid _:=S1;have T:Hid _:=E;have S2:¬(9223372036854775807:Int)<=(t:Int):=AX;have S3:(0:Int)<=(t:Int):=AX;have aoE:Hid _:=d;clear v s D j f i C o h0 U r hS I F B X S1 d E;gi_wp2_with (refine⟨λh=>Cl,(aoz bL).mono ?_⟩;rintro e u ⟨rfl,Co,y,JL,CY⟩;have c4:ah u W.heap.size _ _:=CY.cells _ _ _ _ M.out Kj;have H:ah u (W.heap.size+1) _ _:=CY.cells _ _ _ _ aQ.out KB;obtain⟨u1,u2,u3⟩:=H.all)
  have k2:=y.block;have e1:(u.setCell ⟨W.heap.size+1,0,none⟩ (.I (t+1))).cell? (.a g 0)=V.cell? (.a g 0):=World.cell?_of_block ((vat _ _ _ _ (by have:=Z.out;have:=T.out;grind)).trans (y.block _ Z.out));have e2:(u.setCell ⟨W.heap.size+1,0,none⟩ (.I (t+1))).cell? (.a k 0)=V.cell? (.a k 0):=World.cell?_of_block ((vat _ _ _ _ AF).trans (y.block _ P.out));refine⟨JL.trans (vds _ _ _),y.setCell (by have:=T.out;grind) _,sT.out _ _ _ Co (jh.set H (λh=>h KB) _ _) (λb hs=>vat _ _ _ _ (by have:=JB.out b hs;grind)),c4.fl Ab _,?_,e1.trans JK.out,e2.trans Ns.out⟩;have:=H.set 0 (.I (t+1));grind
 case done=>
  rintro V ⟨B,-⟩ hB hK;clear v s D j f i;gi_wp2
  refine⟨Ab,.inl ⟨_,_,rfl,run_takeDeferred hK,?_⟩⟩;refine⟨.tuple #[],by simp[results,results27,go_sem],⟨_,rfl⟩,r _ _ _ B (.p9 (IK hK)) (λb hs=>vas (by have:=hS b hs;simp;omega)),((d.mono E).trans hB).trans (wC _ A2)⟩
end
end cu
namespace gi
open Conc ConcM az bo ag ft ix
section
section
variable{c:dy}
def ar8{Stop:Bool->ag.Lo At->aX->Prop}{mine:c7}{f:Nat}{p:uac}(eR:c.most<=250)(n:∀b,c.K b\/mine b->b≠c.st){w0:aL}{d:Frame}{cs:dZ}(i:d.mode=.returning)(e:(Conc.G d cs).status=.running)(j:∀w' g,ak (al (av c)) mine w0 w'->oG c.N g.aj->bg (al (av c)) prog Stop false ⟨.idle,false,0,f,.work .free p⟩ g ⟨Conc.G d cs,w',mine⟩)(w:aL)(γ:ag.aN ck)(k:ak (al (av c)) mine w0 w)(a4:oG c.N γ.aj):
 bg (al (av c)) prog Stop false ⟨.own,true,0,f+8,.work .free p⟩ γ ⟨Conc.G ((baseD 89).at ⟨#[.P c.st 0,.U,.U,.U,.U,.U],[]⟩ [.code (f89.body.getD .skip)]) (d::cs),w,mine⟩:=by
 refine bg.seq (Z:=al (av c)) (Stop':=λ_(l:ag.Lo At) X=>l=(⟨.idle,false,0,f,.work .free p⟩:ag.Lo At)/\∃w',ak (al (av c)) mine w0 w'/\X=⟨Conc.G d cs,w',mine⟩) (I:=F7 c) M0 amW ?_ ?_ (bR.T1 (A:=av c) (bD c) (a:=.work .free p) K8 eR n i e (λw' g r=>.stop ⟨U,w',r,U⟩) w γ k) U ⟨λh=>h,a4⟩
 .rintro m l X ⟨rfl,_⟩ h;exact h
 .rintro l γ X ⟨rfl,w',r,rfl⟩ hi;exact j w' γ r hi.2
end
end
end gi
namespace cF
open Conc ConcN ConcM bo ag ft
section
section
variable{Shun:uam}{B n:Nat}{t:Trace}{p:kO}
def asU(h:nl Shun B 0 n t)(hn:p.n=n)(q:p.base=n)(hsz:p.size=B)(z:p.tok=none)(w:Mv p)(hK:∀b,p.K b\/p.mine 0 b->∀l,fq l=some b->¬Shun l)(A:∀j b,j≠0->¬p.mine j b)(hg:∀l,p.hV l\/p.e9 l->¬Shun l):ez p t:=by
 have o:∀j,p.bf j->j=0:=λj d=>by
  rcases d with⟨C,v|v⟩
  .exact v
  grind
 have aE:∀{i:Nat}{a:Touch},touchAt t i=some a->a.loc.isMemory=true->¬Shun a.loc->Knows t 0 i:=λg m hs=>(h.known _ _ g m).elim id AF;have y:∀{i:Nat}{a:Touch}{b:Nat},touchAt t i=some a->fq a.loc=some b->p.K b\/p.mine 0 b->Knows t 0 i:=λg f q=>aE g (FP f) (hK _ q _ f);refine⟨λi a c m c6=>.inr ⟨λu=>hg _ (.inl u) (h.oC i a c m c6),λb f=>⟨λhk=>hK b (.inl hk) _ f (h.oC i a c m c6),λj d=>?_⟩⟩,λi op hi=>by rw[hn];exact h.gs op (vbe hi),λi a b c f=>?_,λi a b c _ f hk j d=>?_,λj i a b d c f D=>?_,AF,λ_ i a c u=>.inl λj d=>?_,λi a c hs=>.inr (.inr λj d=>?_),λi a g=>?_,h.JN,λi j d _ x=>.inl ?_⟩
 .by_cases e:j=0
  .subst e;exact hK b (.inr d) _ f (h.oC i a c m c6)
  grind
 .rw[hsz];exact h.low i a b c f
 .grind
 .grind
 .rw[o j d];exact aE c (w.hV _ u) AF
 .rw[o j d];exact aE c (w.e9 _ hs) (hg _ (.inr hs))
 .unfold Trace.act? at g;obtain⟨op,s,r⟩:=vaj.1 g;exact h.qK op (vbe s) a r
 .by_cases e:j=0
  .grind[Trace.g?,knows_own]
  .obtain⟨k,hk,q⟩:=h.over i j d e x;unfold Trace.g? at hk;obtain⟨op,s,r⟩:=vaj.1 hk;exact⟨k,op,s,r,.inr q⟩
end
section
variable{c:dy}
def G4(c:dy)(gs:uay)(t:Trace)(q:uas)(l0:ag.Lo At)(g:uai)(w:aL)(M:c7)(j:Nat):cE (al (av c)):=
 if j=0 then⟨g,l0,⟨g,w,M⟩,0⟩else⟨gs.getD j default,(⟨.idle,false,Deaf t j,0,.old⟩:ag.Lo At),⟨gs.getD j default,w,λ_=>False⟩,q j⟩
def oN(c:dy)(gs:uay)(t:Trace)(q:uas)(l0:ag.Lo At)(g:uai)(w:aL)(M:c7):List (cE (al (av c))):=(List.range gs.size).map (G4 c gs t q l0 g w M)
variable{gs:uay}{t:Trace}{q:uas}{l0:ag.Lo At}{g:uai}{w:aL}{M:c7}
def wa{j:Nat}{r:cE (al (av c))}(h:(oN c gs t q l0 g w M)[j]?=some r):j<gs.size/\r=G4 c gs t q l0 g w M j:=by unfold oN at h;grind
theorem G5:(oN c gs t q l0 g w M).length=gs.size:=by simp[oN]
def asV(h:0<gs.size):(oN c gs t q l0 g w M)[0]?=some (⟨g,l0,⟨g,w,M⟩,0⟩:cE (al (av c))):=by unfold oN;rw[vbc,List.getElem?_range h];rfl
theorem Ev{j:Nat}(h:j≠0):G4 c gs t q l0 g w M j=⟨gs.getD j default,(⟨.idle,false,Deaf t j,0,.old⟩:ag.Lo At),⟨gs.getD j default,w,λ_=>False⟩,q j⟩:=by unfold G4;grind
def asW(h0:gs[0]?=some g):kQ (al (av c)) (oN c gs t q l0 g w M)=gs:=by
 apply vcf;intro j;rw[Cx];cases a:(oN c gs t q l0 g w M)[j]? with
 |none=>grind[G5]
 |some r=>
  obtain⟨b,rfl⟩:=wa a;by_cases e:j=0
  .subst e;rw[h0];rfl
  simp_all[Ev]
theorem Un{f:b6->Nat}(b:f .idle=0):∀(xs:List b6),(∀x∈xs,x=.idle)->ag.aW f xs=0
 | [],_=>rfl
 |a::xs,h=>by have d:=h a Ab;subst d;have c:=Un b xs AF;simp only[ag.aW,vcy,List.sum_cons,b]at c⊢;omega
def asX:∀(xs:e8)(a:Nat),xs[0]?=some a->(∀j x,j≠0->xs[j]?=some x->x=0)->xs.sum=a
 | [],a,h,_=>AF
 |b::xs,a,h,d=>by
  simp at h;subst h;have:∀(c:e8),(∀x∈c,x=0)->c.sum=0:=by intro c;induction c with|nil=>grind|cons y c f=>simp_all
  have:=this xs (λx e=>by
   obtain⟨j,g⟩:=List.mem_iff_getElem?.1 e;exact d (j+1) x AX AF)
  grind
def asY{f0 v:Nat}{b0:ck}(H:l0=⟨.idle,false,0,f0,.main (.spawn 0 false)⟩)(y:0<gs.size)(hn:gs.size=c.rows c.N)(eR:gs.size<=c.most)(b:b0.aW=0/\b0.et=false/\b0.gF=0/\b0.taken=0/\b0.came=0/\(b0.done.length=c.N/\∀p,p<c.N->b0.done[p]?=some (.N))/\b0.least=none):
 (al (av c)).pS (⟨⟨false,false,false,0,0,v⟩,f0+c.C*c.N,b0⟩:ag.aN ck) ((oN c gs t q l0 g w M).map (·.l)):=by
 have get:∀{j:Nat}{l:ag.Lo At},((oN c gs t q l0 g w M).map (·.l))[j]?=some l->(j=0/\l=l0)\/(j≠0/\l=⟨.idle,false,Deaf t j,0,.old⟩):=by
  intro j l h;rw[vbc]at h;obtain⟨r,A,rfl⟩:=vaj.1 h;obtain⟨u,rfl⟩:=wa A;by_cases e:j=0
  .subst e;exact .inl ⟨U,U⟩
  grind[Ev]
 have D:((oN c gs t q l0 g w M).map (·.l))[0]?=some l0:=by rw[vbc,asV y];rfl
 have m:∀{j:Nat}{a:At},(((oN c gs t q l0 g w M).map (·.l)).map (·.aj))[j]?=some a->(j=0/\a=.main (.spawn 0 false))\/(j≠0/\a=.old):=by grind
 have zero:∀(f:At->Nat),f (.main (.spawn 0 false))=0->f .old=0->dc f (((oN c gs t q l0 g w M).map (·.l)).map (·.aj))=0:=λf u B=>
  MP f _ λi x z=>AF
 have idle:∀x∈((oN c gs t q l0 g w M).map (·.l)).map (·.mx),x=.idle:=by grind[List.mem_iff_getElem?]
 have ci:=λf n=>Un (f:=f) n _ idle;refine⟨⟨?_,λ_=>?_,AF,λe=>?_,λi E o hi=>?_⟩,⟨λk p hk=>?_,λs hs=>.inl ?_,⟨.spawn 0 false,?_,b.2.1,b.2.2.1,zero _ U U,zero _ U U⟩,λj s d=>?_,?_,AF,⟨b.2.2.2.2.2.1.1,λp _ h=>b.2.2.2.2.2.1.2 p h⟩,λp=>?_,λj a d pv C _=>?_,?_,λ⟨j,a,d,n⟩=>?_⟩,?_,λi l hi ht=>?_,λi l hi _=>?_,?_⟩
 .exact ci _ U
 .exact⟨by rw[ci gE U,ci ed U];rfl,ci _ U,ci _ U,by rw[ci fM U,ci ed U];rfl⟩
 .exact absurd e.2.2.2 AF
 .grind
 .grind[G5]
 .grind
 .grind
 .grind
 .rw[b.1];exact(zero _ U U).symm
 .grind[dB,hand,nX]
 .rcases m d with⟨_,rfl⟩|⟨_,rfl⟩<;>simp[laid]at C
 .have:∀k,ju (λp=>dc (dC p) (((oN c gs t q l0 g w M).map (·.l)).map (·.aj))*c.rows p) k=0:=λk=>by induction k with|zero=>rfl|succ k F=>grind[ft.ju,dC,nX]
  refine⟨AF,λq e=>?_,λp _ h=>?_⟩
  .rw[b.2.2.2.2.2.2]at e;cases e
  .exact absurd (zero (dC p) U U) (Nat.ne_of_gt h)
 .rcases m d with⟨_,rfl⟩|⟨_,rfl⟩<;>simp[ft.yj]at n
 .have u:(((oN c gs t q l0 g w M).map (·.l)).map (·.fuel)).sum=f0:=by refine asX _ _ AF λj x d z=>?_;grind
  have B:qN ⟨false,false,false,0,0,v⟩ (((oN c gs t q l0 g w M).map (·.l)).map (·.mx))=0:=by unfold qN;rw[ci ed U,ci eA U]
  grind
 .grind
 .grind
 grind[G5]
end
end
section
open az iS
section
variable{c:dy}{P:cf}{cV:uag}{SM:ag.Lo At->aX->Prop}
def Ew(c:dy)(P:cf)(cV:uag)(SM:ag.Lo At->aX->Prop):Bool->ag.Lo At->aX->Prop
 |true,l,X=>SM l X
 |false,l,X=>(l.aj=.old/\∃k,QuitsD P k l.deaf X.g)\/∃q f,l=⟨.idle,false,1,f,.gone q⟩/\(∃k,QuitsD P k 1 X.g)/\oI c cV q X.mine X.w
def asZ:∀(l:ag.Lo At) X,Ew c P cV SM false l X->(al (av c)).Left l/\∃n,QuitsD P n ((al (av c)).deaf l) X.g:=by
 rintro l X (⟨b,a⟩|⟨q,f,rfl,a,_⟩)
 .grind[qR]
 .exact⟨NE,a⟩
def as0{gs:uay}{t:Trace}{q:uas}{g:uai}{w:aL}{M:c7}{Shun:uam}{f0 v:Nat}{b0:ck}(h0:gs[0]?=some g)(hrun:g.status=.running)(D:Leavers P t gs q)(x:nl Shun w.heap.size 0 gs.size t)(hn:gs.size=c.rows c.N)(eR:gs.size<=c.most)(d:b0.aW=0/\b0.et=false/\b0.gF=0/\b0.taken=0/\b0.came=0/\(b0.done.length=c.N/\∀p,p<c.N->b0.done[p]?=some (.N))/\b0.least=none)(A:w.heap[c.st]?=some (gS (av c) ⟨false,false,false,0,0,v⟩ b0)/\(av c).oF b0 w)(y:∀b,M b->¬(al (av c)).hX b/\¬c.K b)(o:∀b,M b\/c.K b\/(al (av c)).hX b->b<w.heap.size/\∀l,fq l=some b->¬Shun l)(ht:bg (al (av c)) P (Ew c P cV SM) true ⟨.idle,false,0,f0,.main (.spawn 0 false)⟩ ⟨⟨false,false,false,0,0,v⟩,f0+c.C*c.N,b0⟩ ⟨g,w,M⟩):
 Inv (al (av c)) P (Ew c P cV SM) gs.size (oN c gs t q ⟨.idle,false,0,f0,.main (.spawn 0 false)⟩ g w M) ⟨⟨false,false,false,0,0,v⟩,f0+c.C*c.N,b0⟩ w t:=by
 have z:0<gs.size:=(vam.1 h0).1;have G:=dk (bD c);refine⟨λj r a=>?_,asY U z hn eR d,A,λj r a=>?_,λj r a b n=>?_,λj k r s a hk B b i u=>?_,AF,λj r a E _=>?_,⟨none,λj r a=>?_,?_⟩,by grind[G5]⟩
 .obtain⟨i,rfl⟩:=wa a;by_cases e:j=0
  .subst e;exact .runs U hrun ht Ab x.hears U K8
  .have C:(j==0)=false:=by simp[e]
   rw[Ev e,C];have hq:=D.old j (gs.getD j default) AX Bc;exact .leaves U hq trivial (.inl ⟨U,_,hq⟩)
 .obtain⟨i,rfl⟩:=wa a;unfold G4;split<;>exact⟨⟨λ_ _=>U,vac _,.refl _⟩,.refl _,U,U⟩
 .obtain⟨i,rfl⟩:=wa a;by_cases e:j=0
  .subst e;exact⟨(y b n).1,(y b n).2,(o b (.inl n)).1⟩
  grind[Ev]
 .obtain⟨_,rfl⟩:=wa a;obtain⟨_,rfl⟩:=wa hk;grind[Ev]
 .obtain⟨_,rfl⟩:=wa a;rw[Ev E];exact⟨NE,λb h=>h⟩
 .obtain⟨_,rfl⟩:=wa a;grind[G4]
 .refine asU x G5 U U U (YN G _ _ _ _) (λb d=>(o b ?_).2) (λj b a F=>?_) (λl f=>?_)
  .rcases d with d|⟨r,m,d⟩
   .exact .inr (.inl d)
   .obtain⟨_,rfl⟩:=wa m;exact .inl d
  .obtain⟨r,m,d⟩:=F;obtain⟨_,rfl⟩:=wa m;grind[Ev]
  .rcases f with f|f
   .obtain⟨b,i,u⟩:=G.FR l f;grind
   .obtain⟨b,i,u⟩:=G.Cq l f;grind
end
section
variable{P:cf}{Post:uab}{p:kO}{g g1:uai}{w:aL}
def G6(p:kO)(l:Loc):Prop:=p.e9 l\/(YC p l/\∃b,fq l=some b/\b<p.size)
theorem as1{t:Trace}(f:ez p t)(hk:∀i j,t.g? i=some j->p.past j->t.counts i->Knows t 0 i)(r:∀j,j≠0->j<p.n->p.past j)(hd:Deaf t 0=0):nl (G6 p) p.size 0 p.n t:=by
 have oC:∀i a,touchAt t i=some a->a.loc.isMemory=true->a.kind=.atomic->G6 p a.loc:=λi a n m hk=>by obtain⟨b,g⟩:=ald m;exact(f.oC i a n m hk).imp id λhn=>⟨hn,b,g,f.low i a b n g⟩
 have l:∀{i:Nat}{op:MemOp},t[i]?=some op->op.g≠0->p.past op.g:=λh d=>r _ d (f.gs _ _ h);refine⟨λop c=>?_,λop c a e=>?_,oC,f.yc,λi a n m=>?_,λi j q d s=>?_,hd,f.low⟩
 .obtain⟨i,hi⟩:=Array.mem_iff_getElem?.1 c;exact f.gs i op hi
 .obtain⟨i,hi⟩:=Array.mem_iff_getElem?.1 c;exact f.qK i a (by grind[Trace.act?])
 .obtain⟨op,o,u⟩:=touch_of n;by_cases e:op.g=0
  .grind[knows_own]
  .by_cases sf:a.kind=.atomic
   .grind
   .exact .inl (hk i op.g Ia (l o e) ⟨a,by grind[Trace.act?],m,.inl sf⟩)
 .unfold Trace.g? at q;obtain⟨op,o,rfl⟩:=vaj.1 q;obtain⟨k,z,w,v,g⟩:=hk i op.g Ia (l o d) s;refine⟨k,Ia,?_⟩;rcases g with rfl|g
  .grind
  grind
def as2(hs:g.status=.running)(hstep:∀w,stepG P true g w=.go g1 w #[⟨.mark (.acquire p.wg),false,true⟩])(E:∀j,j≠0->j<p.n->p.past j)(hsz:w.heap.size=p.size)(u:∀k,bU P Post p.n (G6 p) 0 g1 (w.at k)):
 ∀(M:Nat)(gs:uay)(sl:ubb)(q:uas)(t:Trace)(a:Nat),sumTo gs.size q<=M->gs.size=p.n->gs[0]?=some g->Leavers P t gs q->ez p t->Deaf t 0=0->mq P Post (crowd gs (w.at a) sl) t:=by
 have own:∀(gs:uay)(sl sl':ubb)(q:uas)(t:Trace)(a k:Nat),stepT P (crowd gs (w.at a) sl)=runT P (crowd gs (w.at k) sl') 0->gs.size=p.n->gs[0]?=some g->Leavers P t gs q->ez p t->Deaf t 0=0->mq P Post (crowd gs (w.at a) sl) t:=by
  intro gs sl sl' q t a k hst hn h0 b c hd;have n:=runT_crowd_go (P:=P) (sl:=sl') (i:=0) h0 (show stepG P (0==0) g (w.at k)=_ from hstep _);have d:0<gs.size:=(vam.1 h0).1;have F:=MA 0 g.frame.fn g.frame.place (.acquire p.wg);obtain⟨L,hk⟩:=c.alm (y:=({g:=0,fn:=g.frame.fn,pos:=g.frame.place,act:=.mark (.acquire p.wg)}:MemOp)) U AX U hd;have I:Deaf (t++MemOp.ofEvents 0 g.frame.fn g.frame.place #[⟨.mark (.acquire p.wg),false,true⟩]) 0=0:=by rw[Deaf_own,hd];rfl
  have K:nl (G6 p) p.size 0 p.n (t++MemOp.ofEvents 0 g.frame.fn g.frame.place #[⟨.mark (.acquire p.wg),false,true⟩]):=by grind[as1,FT]
  refine mq.step (hst.trans n) (u k _ _ q _ AF AF ⟨λj x m l=>?_,λj m=>?_⟩ (by rw[show(w.at k).heap.size=p.size from hsz];grind))
  .have f:0≠j:=by omega
   rw[vdy f,vcl]at l;obtain⟨y,r,rfl⟩:=vaj.1 l;have hq:=b.old j y m r;grind[woken_quitsD,C2]
  .rw[C2 _ _ _ _ AF];exact b.above j AF
 intro M;induction M with
 |zero=>
  intro gs sl q t a C hn h0 b c hd;obtain⟨i,v,k,sl',hi,hg,hst⟩:=crowd_pick (P:=P) (w:=w.at a) (sl:=sl) (Gq b h0 hs) AF;rcases vbn i with rfl|e
  .exact own gs sl sl' q t a k hst hn h0 b c hd
  .obtain⟨gs',h,fn,pos,es,_,_,_,_,_,d⟩:=S7 (w:=w) (k:=k) (sl':=sl') b h0 hs e hi hg;omega
 |succ M o=>
  intro gs sl q t a C hn h0 b c hd;obtain⟨i,v,k,sl',hi,hg,hst⟩:=crowd_pick (P:=P) (w:=w.at a) (sl:=sl) (Gq b h0 hs) AF;rcases vbn i with rfl|e
  .exact own gs sl sl' q t a k hst hn h0 b c hd
  .obtain⟨gs',h,fn,pos,es,B,J,A,z,H,D⟩:=S7 (w:=w) (k:=k) (sl':=sl') b h0 hs e hi hg;have d:i<gs.size:=(vam.1 hi).1;refine mq.step (hst.trans B) (o gs' sl' h _ k AX AX A z ?_ ?_)
   .exact ez.mute (p:=p) (i:=i) AX fn pos es.toList c AF
   .rw[Deaf_other t (g':=i) AX _ (λop s=>C1)];exact hd
end
end
section
open az iS
section
variable{c:dy}{P:cf}{Post:uab}{cV:uag}
structure Kp(c:dy)(cV:uag)(de:Nat)(M:c7)(w0:aL)(n':Nat)(bQ:uam)(M':c7)(D:uad)(w':aL):Prop where
 n:n'<=c.most
 Ex:∀b,M' b\/w'.heap.size<=b->∀l,fq l=some b->¬bQ l
 as3:∀off sp,2<=off->¬bQ (.cell ⟨c.st,off,sp⟩)
 as4:bQ (.cell ⟨c.st,0,none⟩)/\bQ (.cell ⟨c.st,1,none⟩)
 sub:∀b,M b\/c.K b\/b=c.cP->M' b
 low:∀b,M' b\/b=c.st->b<w'.heap.size
 Uo:¬M' c.st
 len:D.length=c.N
 done:w'.heap[c.cP]?=some (.cells D.toArray c.F3)
 st:∃T m L,w'.heap[c.st]?=some (.cells #[.int .i32 0,.int .u32 0,c.size,c.AJ,.I ((T:Nat):Int),.I ((m:Nat):Int),c.ym,L.elim c.least c.place] c.MU)/\(∀q,L=some q->c.b3 q=true/\q<c.N)/\∀p,p<de->c.b3 p=true->∃q,L=some q/\q<=p
 stands:∀b,c.K b\/M b->w'.heap[b]?=w0.heap[b]?
 size:w0.heap.size<=w'.heap.size
 os:OsLater w0.os w'.os
 output:w'.output=w0.output
 tape:w'.tape=w0.tape
 Gs:∀p,p<de->c.b3 p=false->∃v,D[p]?=some v/\cV p v M' w'
 as5:∀p,de<=p->p<c.N->D[p]?=some (.N)
 aU:de<=c.N/\(de=c.N\/300<ju c.rows de)
def Kq(c:dy)(P:cf)(M:c7)(w0:aL)(mA:Goroutine->Prop)(l:ag.Lo At)(X:aX):Prop:=
 (l.mx=.idle/\l.deaf=0/\l.aj=.main .over)/\(∃g1,(∀w,stepG P true X.g w=.go g1 w #[⟨.mark (.acquire ⟨c.wg,0,none⟩),false,true⟩])/\∃g',mA g'/\∃k,∀w,Goes P true (λ_ _=>True) Go.ConcR.DC0 (λg2 _=>g2=g') k g1 w)/\ak (al (av c)) M w0 X.w/\∀b,M b->X.mine b
def as6{m:bn}{xs:List b6}(h:dx m xs)(hi:∀x∈xs,x=.idle):m.L=false/\m.W=false/\m.S=false/\m.k=0/\m.sema=0:=by
 have ci:=λf a=>Un (f:=f) a _ hi;have c:=h.o;rw[ci _ U]at c;have d:m.L=false:=AF;have hS:m.S=false:=by cases hs:m.S with
  |false=>rfl
  |true=>have:=h.st hs;rw[ci fM U,ci fB U]at this;omega
 have b:=h.nm hS;rw[ci gE U,ci ed U,ci fM U]at b;grind
def as7(kS:∀T v M w M' w',cV T v M w->(∀b,c.K b\/M b->w'.heap[b]?=w.heap[b]?)->(∀b,M b->M' b)->cV T v M' w'){n:Nat}{g:uai}{mA:Goroutine->Prop}{w w0:aL}{M:c7}{Shun:uam}{f0 v:Nat}{b0:ck}(hrun:g.status=.running)(hn:n=c.rows c.N)(eR:n<=c.most)(o:b0.aW=0/\b0.et=false/\b0.gF=0/\b0.taken=0/\b0.came=0/\(b0.done.length=c.N/\∀p,p<c.N->b0.done[p]?=some (.N))/\b0.least=none)(nS:w.heap[c.st]?=some (gS (av c) ⟨false,false,false,0,0,v⟩ b0)/\(av c).oF b0 w)(dV:∀b,M b->¬(al (av c)).hX b/\¬c.K b)(n5:∀b,M b\/c.K b\/(al (av c)).hX b->b<w.heap.size/\∀l,fq l=some b->¬Shun l)(ht:∀k,bg (al (av c)) P (Ew c P cV (Kq c P M w0 mA)) true ⟨.idle,false,0,f0,.main (.spawn 0 false)⟩ ⟨⟨false,false,false,0,0,v⟩,f0+c.C*c.N,b0⟩ ⟨g,w.at k,M⟩)(Up:∀g',mA g'->∀de n' bQ M' D w',Kp c cV de M w0 n' bQ M' D w'->bU P Post n' bQ 0 g' w'):bU P Post n Shun 0 g w:=by
 intro gs sl q t hsz h0 aG fH;have G:=dk (bD c);have as8:=as0 (c:=c) (cV:=cV) (SM:=Kq c P M w0 mA) (M:=M) h0 hrun aG AF (hsz.trans hn) AF o nS dV n5 (ht w.drawn);obtain⟨N,m',t1,U,rs,γ,w1,S,rfl,⟨J,E,On,Ck⟩,s,wz⟩:=phase G asZ as8 (by rw[G5];grind) sl;rw[asW h0]at U;refine mq.leads (q:=λm t=>m=crowd (kQ (al (av c)) rs) w1 S/\t=t1) (λm t F=>?_) N U ⟨rfl,rfl⟩;obtain⟨rfl,rfl⟩:=F;obtain⟨⟨hmx,Cy,mO⟩,⟨g1,as9,g',as_,kk,ata⟩,R,c2⟩:=On;have Z:tW (av c) γ (rs.map (·.l)):=s.tQ;have f:cT c.N c.rows c.b3 γ.aj ((rs.map (·.l)).map (·.aj)):=Z.pT;have Q8:∀{j:Nat}{r:cE (al (av c))},rs[j]?=some r->(rs.map (·.l))[j]?=some r.l:=λh=>AF;have vo:∀{j:Nat}{r:cE (al (av c))},rs[j]?=some r->((rs.map (·.l)).map (·.aj))[j]?=some (show ag.Lo At from r.l).aj:=λh=>AF;have Oo:((rs.map (·.l)).map (·.aj))[0]?=some (.main .over):=AF;have W:∀{j:Nat}{r:cE (al (av c))},j≠0->rs[j]?=some r->(al (av c)).Left r.l:=λB h=>(f.all Oo _ _ (vo h)).resolve_left B;have atb:∀{j:Nat}{r:cE (al (av c))},j≠0->rs[j]?=some r->QuitsD P r.n (Deaf t j) r.g/\Ew c P cV (Kq c P M w0 mA) false r.l r.X:=by intro j r B h;have e0:(j==0)=false:=AF;have hs:=s.sits j r h;rw[e0]at hs;cases hs with|runs _ _ _ _ _ _ u=>grind|waits _ _ _ _ _ _ _ _ u=>grind|leaves _ hq _ hs=>grind
 obtain⟨aU,MB,hT⟩:=s.aU;have atc:J.X.g.status=.running:=by cases s.sits 0 J E with|runs _ d _ _ _ _ _=>exact d|waits _ d _ _ _ _ _ _ _=>exact d|leaves F _ _ _=>cases F
 have atd:Deaf t 0=0:=by cases s.sits 0 J E with|runs _ _ _ _ hd _ _=>grind|waits _ _ _ _ tT _ hd _ _=>grind|leaves F _ _ _=>cases F
 have ate:(js (al (av c)) gs.size rs w1.heap.size aU).n=rs.length:=rfl;have atf:Leavers P t (kQ (al (av c)) rs) (λj=>((rs[j]?).map (·.n)).getD 0):=by
  refine⟨λi x hi A=>?_,λj B=>?_⟩
  .grind[Cx]
  .refine Deaf_absent λi op hi e=>?_;have:=hT.gs i op hi;grind[kQ]
 have u6:∀j,j≠0->j<(js (al (av c)) gs.size rs w1.heap.size aU).n->(js (al (av c)) gs.size rs w1.heap.size aU).past j:=by intro j B L;have d:rs[j]?=some rs[j]:=vag L;refine⟨rs[j],d,?_⟩;have:=W B d;show jx (show ag.Lo At from rs[j].l).aj=true;have y:qR (show ag.Lo At from rs[j].l).aj:=this;cases z:(show ag.Lo At from rs[j].l).aj with|gone _=>rfl|old=>rfl|main _=>rw[z]at y;exact y.elim|work _ _=>rw[z]at y;exact y.elim
 let M':Nat->Prop:=λb=>M b\/c.K b\/b=c.cP\/∃(j:Nat)(r:cE (al (av c))),rs[j]?=some r/\r.X.mine b
 have atg:∀b,M' b->b≠c.st/\b≠c.wg:=by
  rintro b (h|h|h|⟨j,r,d,h⟩)
  .grind
  .exact⟨(c.AK b h).1,(c.AK b h).2.1⟩
  .exact⟨λe=>c.eV.2.1 (e.symm.trans h),λe=>c.eV.2.2 (e.symm.trans h)⟩
  .have:=(s.sh j r d b h).1;grind
 have hZ:∀b,M' b->∀l,fq l=some b->¬G6 (js (al (av c)) gs.size rs w1.heap.size aU) l:=by
  intro b o l u hs;rcases hs with hs|⟨⟨hg,hn⟩,_⟩
  .have Y:l=.cell (ag.fG (av c))\/l=.cell (ag.lf (av c))\/(l=.cell ⟨c.wg,0,none⟩\/l=.cell ⟨c.wg,1,none⟩):=hs;rcases Y with rfl|rfl|rfl|rfl<;>simp only[fq,vbh,ag.fG,ag.lf]at u
   .grind
   .grind
   .grind
   grind
  .obtain⟨hK,F⟩:=hn b u;rcases o with h|h|h|⟨j,r,d,h⟩
   .exact F 0 ⟨J,E,(c2 b) h⟩
   .exact hK h
   .subst h;exact hg (.inr u)
   .exact F j ⟨r,d,h⟩
 refine as2 (w:=w1) atc as9 u6 rfl (λk=>?_) _ _ S _ t w1.drawn Jb (by simp[kQ,ate]) (by rw[Cx,E];grind) atf hT atd;have Ai:∀{j:Nat}{r:cE (al (av c))},rs[j]?=some r->∀b,c.K b\/r.X.mine b->w1.heap[b]?=r.X.w.heap[b]?:=λh b o=>(s.rely _ _ h).1.heap b o;have V:w1.heap[c.st]?=some (gS (av c) γ.mu γ.aj)/\w1.heap[c.wg]?=some (s4 c γ.aj)/\(True->w1.heap[c.cP]?=some (F4 c γ.aj)):=s.mt;have ath:∀x∈(rs.map (·.l)).map (λl:ag.Lo At=>l.mx),x=.idle:=by
  intro x A;obtain⟨l,u,rfl⟩:=vbl.1 A;obtain⟨r,d,rfl⟩:=vbl.1 u;obtain⟨j,B⟩:=List.mem_iff_getElem?.1 d;by_cases e:j=0
  .grind
  .exact Z.I6 j r.l (Q8 B) (W e B)
 obtain⟨m1,pF,MR,AI,ati⟩:=as6 Z.l4 ath;have ML:γ.mu.word=0:=Gt;obtain⟨Ak,x8,Fg,atj⟩:=s.rely 0 J E;have yV:oG c.N γ.aj:=by
  rcases f.s2 .over Oo with⟨C,e⟩|⟨a,ha,hw⟩
  .cases e
  .have Ey:=(f.all Oo _ _ ha);refine f.dN ⟨_,a,ha,?_⟩;rcases Ey with e|e
   .rw[e,Oo]at ha;cases ha;cases hw
   .cases a<;>first|exact e.elim|rfl|cases hw
 have key:∀p,p<γ.aj.taken->∃(j:Nat)(r:cE (al (av c)))(C:uac)(x:Nat×Value),rs[j]?=some r/\(show ag.Lo At from r.l).aj=.gone C/\x∈C/\x.1=p/\oI c cV C r.X.mine r.X.w:=by
  intro p z;have cO:=f.own p;rw[vbv z]at cO;obtain⟨j,a,B,H⟩:∃(j:Nat)(a:At),((rs.map (·.l)).map (λl:ag.Lo At=>l.aj))[j]?=some a/\0<dB p a:=by
   by_cases Q:∃(j:Nat)(a:At),((rs.map (·.l)).map (λl:ag.Lo At=>l.aj))[j]?=some a/\0<dB p a
   .exact Q
   .exfalso;have hz:dc (dB p) ((rs.map (·.l)).map (λl:ag.Lo At=>l.aj))=0:=MP _ _ λi x A=>by
     rcases vbn (dB p x)with e|e
     .exact e
     .exact absurd ⟨i,x,A,e⟩ Q
    have wD:dc (dB p) ((rs.map (·.l)).map (λl:ag.Lo At=>l.aj))=1:=cO;omega
  have O:=B;rw[vbc]at O;obtain⟨l,u,rfl⟩:=vaj.1 O;rw[vbc]at u;obtain⟨r,d,rfl⟩:=vaj.1 u;have IQ:j≠0:=by rintro rfl;rw[E]at d;cases d;rw[mO]at H;simp[dB,hand,nX]at H
  rcases(atb IQ d).2 with⟨e,_⟩|⟨C,f',e,_,kl⟩
  .rw[e]at H;simp[dB,hand,nX]at H
  .rw[e]at H;simp only[dB,hand,nX,List.count_nil,vbr]at H;obtain⟨x,A,X⟩:=vbl.1 (vep.1 H);exact⟨j,r,C,x,d,JS,A,X,kl⟩
 have Sm:∀p,p<γ.aj.taken->0<dc (dC p) ((rs.map (·.l)).map (λl:ag.Lo At=>l.aj)):=by
  intro p z;obtain⟨j,r,C,x,d,e,A,X,-⟩:=key p z;have I:=nY (dC p) _ j _ (vo d);have y:1<=dC p (show ag.Lo At from r.l).aj:=by rw[e];exact vep.2 (vbl.2 ⟨x,A,X⟩)
  exact vap y I
 have iO:∀k,Kp c cV γ.aj.taken M w0 rs.length (G6 (js (al (av c)) gs.size rs w1.heap.size aU)) M' γ.aj.done (w1.at k):=by
  intro k;refine⟨by have:=Z.len;grind,λb o l u=>?_,λoff sp y hs=>?_,⟨.inl KB,.inl (.inr KB)⟩,?_,?_,λh=>(atg _ h).1 rfl,f.len.1,?_,⟨γ.aj.taken,γ.aj.came,γ.aj.least,?_,f.came.2.1,λp z fm=>f.came.2.2 p fm (Sm p z)⟩,λb o=>?_,vad R.size Ak.size,R.later.trans x8,Fg.trans R.output,atj.trans R.tape,λp z fm=>?_,f.len.2,f.aU,yV.imp (λx=>Nat.le_antisymm f.aU x) λx=>?_⟩
  .rcases o with o|o
   .grind
   .rintro(hs|⟨_,b',K,L⟩)
    .obtain⟨b',K,Y⟩:=G.Cq l hs;rw[u]at K;cases K;have:=s.low b (.inr Y);have e:(w1.at k).heap.size=w1.heap.size:=rfl;omega
    .rw[u]at K;cases K;have e:(js (al (av c)) gs.size rs w1.heap.size aU).size=w1.heap.size:=rfl;have e':(w1.at k).heap.size=w1.heap.size:=rfl;omega
  .rcases hs with hs|⟨⟨hg,_⟩,_⟩
   .have Y:(.cell ⟨c.st,off,sp⟩:Loc)=.cell (ag.fG (av c))\/(.cell ⟨c.st,off,sp⟩:Loc)=.cell (ag.lf (av c))\/((.cell ⟨c.st,off,sp⟩:Loc)=.cell ⟨c.wg,0,none⟩\/(.cell ⟨c.st,off,sp⟩:Loc)=.cell ⟨c.wg,1,none⟩):=hs;grind[ag.fG,ag.lf]
   .exact hg (.inl ⟨off,sp,rfl,y⟩)
  .rintro b (h|h|h)
   .exact .inl h
   .exact .inr (.inl h)
   .exact .inr (.inr (.inl h))
  .rintro b ((h|h|h|⟨j,r,d,h⟩)|h)
   .exact(s.sh 0 J E b ((c2 b) h)).2.2
   .exact s.low b (.inl h)
   .exact s.low b (.inr (.inr (.inr h)))
   .exact(s.sh j r d b h).2.2
   .exact s.low b (.inr (.inl h))
  .exact V.2.2 trivial
  .show w1.heap[c.st]?=_;rw[V.1];unfold gS;rw[ML,ati];rfl
  .exact(Ai E b (o.imp id (c2 b))).trans (R.heap b o)
  .obtain⟨j,r,C,x,d,e,A,X,kl⟩:=key p z;have I:=f.val j _ (vo d) x (by rw[e];exact A);have y:=kl x A;rw[X]at I y;exact⟨x.2,I fm,kS _ _ _ _ _ _ (y fm) (λb o=>Ai d b o) (λb o=>.inr (.inr (.inr ⟨j,r,d,o⟩)))⟩
  .have I:=f.came.1;rw[Y6 (n:=γ.aj.taken) f.aU λp z _=>?_]at I
   .refine vap x (vad (vbk I) (R7 λp _=>?_));have y:=MQ (R9 p) ((rs.map (·.l)).map (·.aj));have h3:=f.own p;have h4:dc (dC p) ((rs.map (·.l)).map (·.aj))<=1:=by split at h3<;>omega
    exact vad (Nat.mul_le_mul_right _ h4) AX
   .have y:=MQ (R9 p) ((rs.map (·.l)).map (·.aj));have h3:=f.own p;rw[vbp (Nat.not_lt.2 z)]at h3;have h4:dc (dC p) ((rs.map (·.l)).map (·.aj))=0:=AX;rw[h4,Nat.zero_mul]
 exact AZ (WL kk g1 (w1.at k) (ata _) λk'=>Up g' as_ _ _ _ _ _ _ (iO k'))
end
end
end cF
namespace xo
open Conc ConcM az bo ag ft
section
section
variable{c:dy}{Q:cf}{Stop:Bool->ag.Lo At->aX->Prop}{l:ag.Lo At}{γ:ag.aN ck}{X:aX}{w':aL}
def atk{P:cf}{main:Bool}{b:Frame}{a:Act}{k:fC}{cs:dZ}{w:aL}{ops:du}{i:Nat}{rest:e8}{o:Oper}{f:uaj}{x:uap}{cap:df}{ats:uar}(g:ops[i]?=some o)(c:Region.wanted o (yielded ops a.tmps)=true)(hk:b.kind≠ .early)(e:o.op=.go {callee:=.value x,args:=#[],argTypes:=ats})(j:a.eval x=.func (.func f) #[] cap):
 stepG P main (Conc.G (b.at a (.inRegion ops (i::rest)::k)) cs) w=.spawn (Conc.G (b.at (a.put o.dst undef) (.inRegion ops rest::k)) cs) (born P (pZ f cap)) w #[]:=by
 have d:(execOp a.eval o).run P w=.ok (.spawn (pZ f cap)) w:=by simp_all[execOp,resolve,Deferred.ofValue,pZ]
 have h:listed P b.fn a o w=#[]:=by simp_all[listed,execOp,resolve,Deferred.ofValue,vcz]
 rw[stepG_spawn g c hk d U,h]
def atl(p:dP (al (av c)) l γ X w'){g1 child:uai}(hs:stepG Q true X.g w'=.spawn g1 child w' #[])(hrun:g1.status=.running)(o:child.status=.running){f k:Nat}(q:l=⟨.idle,false,0,f+20,.main (.spawn k true)⟩)(hk:c.rows c.N+k+1<=c.most)(h:bg (al (av c)) Q Stop true ⟨.idle,false,0,f,.main (.spawn (k+1) false)⟩ {γ with a6:=γ.a6-1} ⟨g1,w',X.mine⟩)(v:bg (al (av c)) Q Stop false ⟨.idle,false,0,19,.work .free []⟩ {γ with a6:=γ.a6-1} ⟨child,w',λ_=>False⟩):Then (Z:=al (av c)) Q Stop true l γ X w':=by
 have hg:grown X.mine w' w'=X.mine:=kC U;have key:∀(ls:List (ag.Lo At)),ls[0]?=some l->tW (av c) γ ls->1<=γ.a6/\((ls.set 0 (⟨.idle,false,0,f,.main (.spawn (k+1) false)⟩:ag.Lo At)).map (·.fuel)).sum+19+2*qN γ.mu (ls.map (·.mx))+c.C*(c.N-γ.aj.taken)<=γ.a6-1:=by
  intro ls hi b;have m:0<ls.length:=(vab.1 hi).1;have e:=FU (ls.map (·.fuel)) 0 f AF;have y:(ls.set 0 (⟨.idle,false,0,f,.main (.spawn (k+1) false)⟩:ag.Lo At)).map (·.fuel)=(ls.map (·.fuel)).set 0 f:=Bc;rw[y];have w:(ls.map (·.fuel))[0]'AF=f+20:=by grind
  rw[w]at e;have D:(ls.map (λx:ag.Lo At=>x.fuel)).sum+2*qN γ.mu (ls.map (λx:ag.Lo At=>x.mx))+c.C*(c.N-γ.aj.taken)<=γ.a6:=b.hY;grind
 refine .born (l1:=(⟨.idle,false,0,f,.main (.spawn (k+1) false)⟩:ag.Lo At)) (bF:=({γ with a6:=γ.a6-1}:ag.aN ck)) (lc:=(⟨.idle,false,0,19,.work .free []⟩:ag.Lo At)) U hs ⟨hrun,o,pW _ _ _,p.mt,?_,λls hi b=>?_,NE,⟨by rw[q],U,U,U⟩,AF,⟨by rw[q];rfl,U⟩,λt r=>r,λe=>e,λe=>e⟩ AF v
 .obtain⟨ls,i,hi,b⟩:∃(ls:List (ag.Lo At))(i:Nat),ls[i]?=some l/\tW (av c) γ ls:=p.sees;have h0:=b.pT.only i (.spawn k true) AF;grind
 .have a:tW (av c) γ ls:=b;obtain⟨B,A⟩:=key ls hi a;have m:0<ls.length:=(vab.1 hi).1;have s:(ls.set 0 (⟨.idle,false,0,f,.main (.spawn (k+1) false)⟩:ag.Lo At)++[(⟨.idle,false,0,19,.work .free []⟩:ag.Lo At)]).map (·.mx)=ls.map (·.mx)++[.idle]:=by grind[RP]
  have z:(ls.set 0 (⟨.idle,false,0,f,.main (.spawn (k+1) false)⟩:ag.Lo At)++[(⟨.idle,false,0,19,.work .free []⟩:ag.Lo At)]).map (·.aj)=(ls.map (·.aj)).set 0 (.main (.spawn (k+1) false))++[.work .free []]:=by simp_all
  have d:(ls.map (·.aj))[0]?=some (.main (.spawn k true)):=AF;have get:∀{i:Nat}{x:ag.Lo At},(ls.set 0 (⟨.idle,false,0,f,.main (.spawn (k+1) false)⟩:ag.Lo At)++[(⟨.idle,false,0,19,.work .free []⟩:ag.Lo At)])[i]?=some x->x=⟨.idle,false,0,f,.main (.spawn (k+1) false)⟩\/ls[i]?=some x\/x=⟨.idle,false,0,19,.work .free []⟩:=by grind
  refine⟨⟨by rw[s];exact ag.dx.push a.l4,by rw[z];exact a.pT.born d,?_,λi x g ht=>?_,λi x g u=>?_,?_⟩,λj t r E=>.inr ⟨AF,AF,.refl _ _⟩⟩
  .rw[s];have ht:qN γ.mu (ls.map (·.mx)++[.idle])=qN γ.mu (ls.map (·.mx)):=by unfold qN;rw[RH,RH];rfl
   grind
  .rcases get g with rfl|n|rfl
   .cases ht
   .exact a.aU i x n ht
   grind
  .rcases get g with rfl|n|rfl
   .rfl
   .exact a.I6 i x n u
   .rfl
  .have C:=a.pT.oH k true d;grind
end
end
end xo
namespace iS
open Conc RowKit Conc.Lib ConcR.Gen ConcM az bo ag ft ix gi
theorem Sl:(f110.name== "runtime.NumGoroutine")=false:=by kernel_rfl
theorem atn:(f109.name== "runtime.NumGoroutine")=false:=by kernel_rfl
theorem ato:(f108.name== "runtime.NumGoroutine")=false:=by kernel_rfl
def Sk(a:uaa)(pv:Value)(w:aL):(Instr.typeAssert (.iface 71 pv) a 71 false).run prog w=.ok pv w/\(Instr.typeAssert (.iface 71 pv) a 71 false).events prog w #[]=#[]:=by constructor<;>simp[Instr.typeAssert,go_sem]
theorem Sg:(f107.name== "runtime.NumGoroutine")=false:=by kernel_rfl
section
variable{c:dy}{Stop:Bool->ag.Lo At->aX->Prop}{fr aZ:uas}{gl gV:Value}{jM:uaj}{nh cV:uag}
def atp{b4:aL}(J:ub c b4 prog Stop 110 gl jM gV fr aZ nh cV){f T:Nat}{q:uac}{M:c7}{w0:aL}(hT:T<c.N)(hI:nZ c b4 w0)(atq:c.b3 T=true->∀M' w1,af (al (av c)) M' w1 [] w1->nZ c b4 w1->jw prog Stop false 108 #[.P c.st 0,c.place T] (ep c ⟨.idle,false,0,f+16,.work (.has T) q⟩ M' w1) (λu E=>u=.tuple #[]/\∃n w2,gj (al (av c)) M' w1 n w2/\E=ep c ⟨.idle,false,0,f,.work .free ((T,undef)::q)⟩ n w2))(Q:c.b3 T=false->∀s bE M' w1,af (al (av c)) M' w1 [] w1->jw prog Stop false 109 #[.P c.st 0,.agg #[.I (T:Int),.I (fr T:Int),.I (aZ T:Int)],.slice s (c.rows T) bE] (ep c ⟨.idle,false,0,f+16,.work (.has T) q⟩ M' w1) (λu E=>u=.tuple #[]/\E=ep c ⟨.idle,false,0,f,.work .free ((T,.slice s (c.rows T) bE)::q)⟩ M' w1)):
 jw prog Stop false 82 #[.P c.st 0,gl,.agg #[.I (T:Int),.I (fr T:Int),.I (aZ T:Int)]] (ep c ⟨.idle,false,0,f+16,.work (.has T) q⟩ M w0) (λu E=>u=.tuple #[]/\∃v M' w1,gj (al (av c)) M w0 M' w1/\(c.b3 T=false->cV T v M' w1)/\E=ep c ⟨.idle,false,0,f,.work .free ((T,v)::q)⟩ M' w1):=by
 intro a2 aF aC aJ aO aH csZ hK w γ hS;have hF:af (al (av c)) M w0 [] w:=hS;clear hS;have kg:=(dk (bD c)).nb;have tz:prog.follows .mixedOrders=true:=Ao;rw[vdv _ func82 rfl];unfold ep;rw[<-fO (M:=M)];refine a9 (bD c) ?_;walk_nrmf f82
 repeat w_go af.on
 refine fN rfl hF λb a y p d ax I F hF=>?_;refine tX AF kg rfl hF (vay (v:=.P d.heap.size 0) (w':=d.alloc (Obj.cells #[.P c.st 0] 121)) rfl rfl Ap Ar) rfl BB (λR=>?_);clear hF;have hF:=R;clear R F I p a;generalize d.heap.size=x at hF⊢;generalize d.alloc (Obj.cells #[.P c.st 0] 121)=O at hF⊢;refine a9 (bD c) ?_;walk_nrm
 repeat w_go af.on
 refine fN rfl hF λb a y p d ax I F hF=>?_;refine tX AF kg rfl hF (vay (v:=.P d.heap.size 0) (w':=d.alloc (Obj.cells #[.I (T:Int),.I (fr T:Int),.I (aZ T:Int)] 184)) rfl rfl Ap Ar) rfl BB (λR=>?_);clear hF;have hF:=R;clear R F I p a;generalize d.heap.size=bt at hF⊢;generalize d.alloc (Obj.cells #[.I (T:Int),.I (fr T:Int),.I (aZ T:Int)] 184)=O at hF⊢;refine a9 (bD c) ?_;walk_nrm
 repeat w_go af.on
 u_in af.on hF
 rw[am8 rfl rfl Ap rfl rfl];simp only[veg];refine⟨CM,?_⟩;walk_nrm
 repeat w_go af.on
 refine vah (λb a=>⟨rfl,λy p=>?_⟩);replace hF:=hF.on a;clear a p;have l:=hF.cW (x,Obj.cells #[.P c.st 0] 121) Ab;have o:=hF.cW (bt,Obj.cells #[.I (T:Int),.I (fr T:Int),.I (aZ T:Int)] 184) Ab;have g:cj M [(bt,Obj.cells #[.I (T:Int),.I (fr T:Int),.I (aZ T:Int)] 184),(x,Obj.cells #[.P c.st 0] 121)] x:=.inr Ab;have k:cj M [(bt,Obj.cells #[.I (T:Int),.I (fr T:Int),.I (aZ T:Int)] 184),(x,Obj.cells #[.P c.st 0] 121)] bt:=.inr Ab;have X:=af.p5 hF;refine AH (Z:=al (av c)) (C:=Jm c (x,Obj.cells #[.P c.st 0] 121) (bt,Obj.cells #[.I (T:Int),.I (fr T:Int),.I (aZ T:Int)] 184)) AF Ap tz ua Zq (σ:=ep c ⟨.idle,false,0,f+16,.work (.has T) q⟩ (cj M [(bt,Obj.cells #[.I (T:Int),.I (fr T:Int),.I (aZ T:Int)] 184),(x,Obj.cells #[.P c.st 0] 121)]) b) (iy:=rY prog Stop false _ _ _ _ []) Kt ⟨_,_,_,rfl,⟨g,l⟩,⟨k,o⟩,rfl⟩ ?_ _ y X;walk_nrm
 refine iR (i:=0) (v:=.P c.st 0) ua rfl AQ AQ AQ (Jn KB rfl (λw z=>?_)) ⟨_,_,_,rfl,⟨g,l⟩,⟨k,o⟩,rfl⟩ ?_
 .have H:w.cell? (.a x 0)=some (.P c.st 0):=by simp[World.cell?,z]
  refine⟨Ar,λe B=>⟨0,?_⟩⟩;have D:=vbs B;simp[go_sem,H]at D;grind
 walk_nrm
 refine iR (i:=1) (v:=.agg #[.I (T:Int),.I (fr T:Int),.I (aZ T:Int)]) ua rfl AQ AQ AQ (Jn Kj rfl (λw z=>⟨(Bm z rfl rfl).1,λe B=>?_⟩)) ⟨_,_,_,rfl,⟨g,l⟩,⟨k,o⟩,rfl⟩ ?_
 .have D:=vbs B;rw[(Bm z rfl rfl).2]at D;grind
 walk_nrm
 refine iR (i:=2) (v:=gl) ua rfl AQ AQ AQ (AN rfl (λ_=>Ar) (λ_=>BB)) ⟨_,_,_,rfl,⟨g,l⟩,⟨k,o⟩,rfl⟩ ?_;walk_nrm
 refine iR (i:=3) (v:=.P bt 1) ua rfl AQ AQ AQ (AN rfl (λ_=>Ar) (λ_=>BB)) ⟨_,_,_,rfl,⟨g,l⟩,⟨k,o⟩,rfl⟩ ?_;walk_nrm
 refine iR (i:=4) (v:=.I (fr T:Int)) ua rfl AQ AQ AQ (Jn Kj rfl (λw z=>?_)) ⟨_,_,_,rfl,⟨g,l⟩,⟨k,o⟩,rfl⟩ ?_
 .have H:w.cell? (.a bt 1)=some (.I (fr T:Int)):=by simp[World.cell?,z]
  refine⟨Ar,λe B=>⟨1,?_⟩⟩;have D:=vbs B;simp[go_sem,H]at D;grind
 walk_nrm
 refine iR (i:=5) (v:=.P bt 2) ua rfl AQ AQ AQ (AN rfl (λ_=>Ar) (λ_=>BB)) ⟨_,_,_,rfl,⟨g,l⟩,⟨k,o⟩,rfl⟩ ?_;walk_nrm
 refine iR (i:=6) (v:=.I (aZ T:Int)) ua rfl AQ AQ AQ (Jn Kj rfl (λw z=>?_)) ⟨_,_,_,rfl,⟨g,l⟩,⟨k,o⟩,rfl⟩ ?_
 .have H:w.cell? (.a bt 2)=some (.I (aZ T:Int)):=by simp[World.cell?,z]
  refine⟨Ar,λe B=>⟨2,?_⟩⟩;have D:=vbs B;simp[go_sem,H]at D;grind
 walk_nrm
 refine qT (i:=7) AQ (yp rfl rfl (yt (λw=>Se (rv:=gl) (vs:=#[.I (fr T:Int),.I (aZ T:Int)]) rfl rfl CK (J.inv #[.I (fr T:Int),.I (aZ T:Int)] w)) (J.anh T ⟨.idle,false,0,f+16,.work (.has T) q⟩ _ _ hT rfl X (hI.aE hF)) ?_));rintro u _ ⟨dv,w1,j,Uq,rfl⟩;refine⟨⟨_,_,_,rfl,⟨j.sub _ g,j.heap g l⟩,⟨j.sub _ k,j.heap k o⟩,rfl⟩,?_⟩;walk_nrm
 have cr:=J.ani T ⟨.idle,false,0,f+16,.work (.has T) q⟩ _ _ u hT rfl j.aE ((hI.aE hF).more j) Uq;cases L:c.b3 T with
 |true=>
  have gy:=gj.start hF j;have U:=j.heap g l;have Ur:=j.sub _ g;have S:=(hI.aE hF).more j;clear Q j Uq X g k l o hF;refine qT (i:=8) AQ (amY rfl rfl (anf (λw=>pf (vs:=#[u]) rfl func110 Sl rfl CK w) (λa' i rest hd w γ hS=>?_)));refine cr _ a' _ i rest _ _ (λe E hv w γ hS=>?_) w γ hS;obtain⟨n,w2,m,Ag,rfl⟩:=hv;obtain rfl:e=AS (c.place T):=by
   rcases Ag with⟨h,-⟩|⟨-,h⟩
   .rw[L]at h;cases h
   .exact h
  have hF:af (al (av c)) n w2 [] w:=hS;clear hS Ag cr;obtain⟨tm,ds⟩:=a';simp only at hd;subst hd;have N:=gy.trans m;have l:=m.heap Ur U;have g:=m.sub _ Ur;have rl:=S.more m;clear gy m U Ur S;show bg (al (av c)) prog Stop false _ γ ⟨Conc.G {(base 82).at ⟨tm,[pZ 107 #[.P x 0]]⟩ _ with mode:=.panicking [{v:=.iface 71 (c.place T),recovered:=false}]} _,w,n⟩;rw[<-fO (M:=n)];refine a9 (bD c) ?_;u_in af.on hF
  rw[ana rfl func107 Sg rfl];simp only[veg];refine⟨CM,?_⟩;walk_nrmf f107
  repeat w_go af.on
  u_in af.on hF
  rw[anb rfl rfl rfl rfl Ar BB];simp only[veg];refine⟨CM,?_⟩;walk_nrm
  repeat w_go af.on
  refine fN rfl hF λb a y p d ax I F hF=>?_;refine F6 AF (vay (v:=.T) rfl rfl Ap (by simp[go_sem,binOp,Op.equal];rw[show Op.maxDepth=9999+1 from rfl,Op.equalIn];simp[go_sem])) rfl Be ?_;clear F I p a;refine a9 (bD c) ?_;walk_nrm
  repeat w_go af.on
  refine vah (λb a=>⟨rfl,λy p=>?_⟩);replace hF:=hF.on a;clear a p;have V:=af.p5 hF;rw[fO]at V;rw[fO];have A:gj (al (av c)) n w2 n b:=⟨λ_ h=>h,hF.rw,V⟩;have t:=A.heap g l;have xr:=rl.more A;replace N:=N.trans A;clear hF A l rl;refine AH (Z:=al (av c)) (C:=Jm c (x,Obj.cells #[.P c.st 0] 121) (x,Obj.cells #[.P c.st 0] 121)) AF Ap tz ua Zq (σ:=ep c ⟨.idle,false,0,f+16,.work (.has T) q⟩ n b) (iy:=rY prog Stop false _ _ _ _ []) Kt ⟨_,_,_,rfl,⟨g,t⟩,⟨g,t⟩,rfl⟩ ?_ _ y V;walk_nrm
  refine iR (i:=0) (v:=.P c.st 0) ua rfl AQ AQ AQ (Jn KB rfl (λw z=>?_)) ⟨_,_,_,rfl,⟨g,t⟩,⟨g,t⟩,rfl⟩ ?_
  .have H:w.cell? (.a x 0)=some (.P c.st 0):=by simp[World.cell?,z]
   refine⟨Ar,λe B=>⟨0,?_⟩⟩;have D:=vbs B;simp[go_sem,H]at D;grind
  walk_nrm
  refine iR (i:=1) (v:=.iface 71 (c.place T)) ua rfl AQ AQ AQ (AN rfl (λ_=>Ar) (λ_=>BB)) ⟨_,_,_,rfl,⟨g,t⟩,⟨g,t⟩,rfl⟩ ?_;walk_nrm
  refine iR (i:=2) (v:=c.place T) ua rfl AQ AQ AQ (AN rfl (λ_=>by go_simp;simp[(Sk _ _ _).1]) (λ_=>by simp[listed,go_sem,(Sk _ _ _).2];rfl)) ⟨_,_,_,rfl,⟨g,t⟩,⟨g,t⟩,rfl⟩ ?_;walk_nrm
  refine qT (i:=3) AQ (yp rfl rfl (yt (λw=>pf (vs:=#[.P c.st 0,c.place T]) rfl func108 ato rfl CK w) (atq L n b V xr) ?_));rintro u2 _ ⟨rfl,W,O,K,rfl⟩;refine⟨⟨_,_,_,rfl,⟨K.sub _ g,K.heap g t⟩,⟨K.sub _ g,K.heap g t⟩,rfl⟩,?_⟩;walk_nrm
  refine yi AQ ?_ _;replace N:=N.trans K;clear K g t V xr;intro r eF hF;replace hF:af (al (av c)) W O [] r:=hF;unfold ep;rw[<-fO (M:=W)];refine a9 (bD c) ?_;walk_nrm
  repeat w_go af.on
  u_in af.on hF
  rw[anc rfl rfl func107 rfl rfl];simp only[veg];refine⟨CM,?_⟩;u_in af.on hF
  refine vei (todo:=_) rfl rfl func82 rfl ⟨CM,?_⟩;refine vah (λb a=>⟨rfl,λy p=>?_⟩);replace hF:=hF.on a;rw[fO];exact hK (.tuple #[]) (ep c ⟨.idle,false,0,f,.work .free ((T,undef)::q)⟩ W O) ⟨rfl,undef,W,O,N,λh=>(by rw[L]at h;cases h),rfl⟩ b y hF
 |false=>
 replace Q:=Q L;refine qT (i:=8) AQ (yp rfl rfl (yt (λw=>pf (vs:=#[u]) rfl func110 Sl rfl CK w) (cr.ret (nf:=λv E=>∃M' P,gj (al (av c)) dv w1 M' P/\cV T v M' P/\E=ep c ⟨.idle,false,0,f+16,.work (.has T) q⟩ M' P) (λe E⟨M',P,h1,h2,h3⟩=>?_)) ?_))
 .rcases h2 with⟨-,v,Y,aQ⟩|⟨Y,-⟩
  .exact⟨v,Y,M',P,h1,aQ,h3⟩
  .rw[L]at Y;cases Y
 clear cr;rintro v _ ⟨n,w2,m,vk,rfl⟩;refine⟨⟨_,_,_,rfl,⟨m.sub _ (j.sub _ g),m.heap (j.sub _ g) (j.heap g l)⟩,⟨m.sub _ (j.sub _ k),m.heap (j.sub _ k) (j.heap k o)⟩,rfl⟩,?_⟩;obtain⟨s,bE,rfl⟩:=J.slice _ _ _ _ L vk;walk_nrm
 refine qT (i:=9) AQ (yp rfl rfl (yt (λw=>pf (vs:=#[.P c.st 0,.agg #[.I (T:Int),.I (fr T:Int),.I (aZ T:Int)],.slice s (c.rows T) bE]) rfl func109 atn rfl CK w) (Q s bE n w2 m.aE) ?_));rintro u2 _ ⟨rfl,rfl⟩;refine⟨⟨_,_,_,rfl,⟨m.sub _ (j.sub _ g),m.heap (j.sub _ g) (j.heap g l)⟩,⟨m.sub _ (j.sub _ k),m.heap (j.sub _ k) (j.heap k o)⟩,rfl⟩,?_⟩;walk_nrm
 refine yi AQ ?_ _;have gy:=(gj.start hF j).trans m;clear j m Uq X g k l o hF Q;intro r eF hF;replace hF:af (al (av c)) n w2 [] r:=hF;unfold ep;rw[<-fO (M:=n)];refine a9 (bD c) ?_;walk_nrm
 repeat w_go af.on
 u_in af.on hF
 rw[am9 rfl func107 Sg rfl];simp only[veg];refine⟨CM,?_⟩;walk_nrmf f107
 repeat w_go af.on
 u_in af.on hF
 rw[am_ rfl rfl rfl rfl Ar BB];simp only[veg];refine⟨CM,?_⟩;walk_nrm
 repeat w_go af.on
 refine fN rfl hF λb a y p d ax I F hF=>?_;refine F6 AF (vay (v:=.F) rfl rfl Ap (by simp[go_sem])) rfl Be ?_;clear F I p a;refine a9 (bD c) ?_;walk_nrm
 repeat w_go af.on
 u_in af.on hF
 refine bR.Km rfl rfl func107 rfl rfl ⟨CM,?_⟩;u_in af.on hF
 refine vei rfl rfl func82 rfl ⟨CM,?_⟩;refine vah (λb a=>⟨rfl,λy p=>?_⟩);replace hF:=hF.on a;rw[fO];exact hK (.tuple #[]) (ep c ⟨.idle,false,0,f,.work .free ((T,.slice s (c.rows T) bE)::q)⟩ n w2) ⟨rfl,_,n,w2,gy,λ_=>vk,rfl⟩ b y hF
