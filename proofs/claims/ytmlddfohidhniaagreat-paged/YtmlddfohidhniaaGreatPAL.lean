import Derived.Deep.DeepCutAuto
import Derived.Deep.RegionHeld3
import Derived.Deep.DrawnRows
import Derived.Deep.RegionLaw
import Derived.Test.YtmlddfohidhniaaGreatPAI
set_option linter.all false
set_option maxRecDepth 100000
set_option maxHeartbeats 16000000
namespace Go.Proofs.YtmlddfohidhniaaGreat
open Go.Proofs.Tryz
namespace bS
open RowKit ax
def x1(c6:Nat)(w:aS)(rd:ual)(p:Nat×List Value):Prop:=
 ∃a c,rd 0=some (.slice a p.1 c)/\p.2.length=p.1*c6/\(∀u∈p.2,u.oneCell'=true)/\(0<p.1->∃b off,a=some ⟨b,off,none⟩/\∀j u,p.2[j]?=some u->w.cell? (.a b (off+j))=some u)
def dS(ps:ubc)(k:Nat):Nat:=((ps.take k).map (·.1)).sum
def l7(ps:ubc)(k:Nat):List Value:=((ps.take k).map (·.2)).flatten
variable{ps:ubc}
theorem x2{k:Nat}(h:k<ps.length):dS ps (k+1)=dS ps k+ps[k].1:=by unfold dS;rw[vcl h,vcr,List.sum_append];simp
def Si{k:Nat}(h:k<ps.length):l7 ps (k+1)=l7 ps k++ps[k].2:=by unfold l7;rw[vcl h,vcr,List.flatten_append];simp
def Sj:(ae prog false).funcs[(204:Nat)]?=some f204:=bw (upd:=false) func204 AJ
@[simp] theorem aC_:cQ false 204:=c0 Sj AJ
theorem Y7:(ae prog false).funcs[(202:Nat)]?=some f202:=bw (upd:=false) func202 AJ
@[simp] theorem aDa:cQ false 202:=c0 Y7 AJ
theorem amA:(prog.info? 3).map (λi=>(i.zero,i.size,i.bytes))=some (some (.I 0),1,8):=by kernel_rfl
def amB(n:Nat)(hn:n<=100000)(w:aS):
 Calls (ae prog false) 204 #[.N,.I n] w λe w'=>∃v,e=.returned v/\w'.ownsRow w.heap.size 3 1 v 0 []/\cJ w w':=by
 by_cases h0:n=0
 .subst h0;go_enter Sj,ntmps204
  go_wp2
  go_ret
  simp_all[vbp,vaa]
 .have f:(0:Int)<(n:Int):=by omega
  have a:Tryz.t3.bytes=8:=Ah;have d:=nextslicecap_zero (need:=n) AP;go_enter Sj,ntmps204
  go_wp2
  all_goals try(exfalso;simp only[a,d]at *;omega)
  go_ret
  have g:n<=(Question.appendCap n 0 3).cut (w.tape w.drawn (Question.appendCap n 0 3)):=HH;have b:(Question.appendCap n 0 3).cut (w.tape w.drawn (Question.appendCap n 0 3))<=maxLen:=by simp only[Question.cut,maxLen];have:=Nat.mod_lt (w.tape w.drawn (Question.appendCap n 0 3)) (show 0<2^63-n by omega);omega
  generalize(Question.appendCap n 0 3).cut (w.tape w.drawn (Question.appendCap n 0 3))=c at *;refine⟨_,rfl,⟨Ad,.inr ⟨w.heap.size,c,_,rfl,vac _,(ai.new w _ _).drew,vav _,b,?_,Ad⟩⟩,((vaa _ w).alloc JT _).drew⟩;grind[size_zeroCells]
def amC(ps:ubc)(F:Value)(w:aS)(h:aX w 1 (x1 1) F ps)(uP:ps.length<=1000)(t:∀k,dS ps k<=100000):
 Calls (ae prog false) 202 #[F] w λe w'=>∃v,e=.returned v/\w'.ownsRow w.heap.size 3 1 v (dS ps ps.length) (l7 ps ps.length)/\cJ w w':=by
 obtain⟨bK,cap,rfl,hl,q⟩:=h;go_enter Y7,ntmps202
 go_wp2
 go_loopw [3,5,11] (λa _ b W=>∃k:Nat,k<=ps.length/\a=.I (dS ps k:Int)/\b=.I (k:Int)/\W=w) (λ_ _ b _=>ps.length-(intOf b).toNat)
 case atStart=>exact⟨0,vav _,rfl,rfl,rfl⟩
 case round=>
  obtain⟨k,hk,rfl,rfl,rfl⟩:=hrel;by_cases c:k<ps.length
  .obtain⟨b,off,rfl,b8,T,f,-⟩:=q k c;simp at f;have fo:=ff f;have l3:(0:Int)<=(k:Int):=AP;have j7:(k:Int)<(ps.length:Int):=AP;have d:=t (k+1);rw[x2 c]at d;have sx:¬((dS ps k:Int)+(ps[k].1:Int)<0):=AP;clear q;generalize kK:dS ps k=X at *;go_wp2
   exact⟨⟨k+1,AP,by grind[x2],Ad,PJ⟩,HT⟩
  .have A:k=ps.length:=by omega
   subst A;have eH:¬((ps.length:Int)<(ps.length:Int)):=AP;have Y:=t ps.length;have o:Hid _:=q;clear q;obtain⟨w,rfl⟩:∃x:aS,x=wr:=⟨wr,rfl⟩;go_wp2
   refine(amB (dS ps ps.length) Y w).mono ?_;rintro e w1 ⟨v1,rfl,s,S⟩;obtain⟨a1,c1,rfl⟩:=h9 s;have B8:Hid (w1.ownsRow w.heap.size 3 1 (.slice a1 0 c1) 0 []):=s;have g6:Hid (cJ w w1):=S;clear s S;go_wp2
   go_loopw [6,8,27] (λa _ b W=>∃(k:Nat)(i:uan)(gc:Nat),k<=ps.length/\a=.slice i (dS ps k) gc/\b=.I (k:Int)/\W.ownsRow w.heap.size 3 1 (.slice i (dS ps k) gc) (dS ps k) (l7 ps k)/\cJ w W) (λ_ _ b _=>ps.length-(intOf b).toNat)
   case atStart=>exact⟨0,a1,c1,vav _,rfl,rfl,B8.out,g6.out⟩
   case round=>
    obtain⟨k,i,gc,hk,rfl,rfl,R,P⟩:=hrel;have l:Hid (wr.ownsRow w.heap.size 3 1 (.slice i (dS ps k) gc) (dS ps k) (l7 ps k)):=R;have n:Hid (cJ w wr):=P;clear R P;by_cases c:k<ps.length
    .obtain⟨b,off,rfl,b8,T,f,y,z,D⟩:=o.out k c;simp at f;have p:=bo.bX n.out;have C:=p _ _ _ f;have fo:=ff C;have l3:(0:Int)<=(k:Int):=AP;have j7:(k:Int)<(ps.length:Int):=AP;obtain⟨O,hi,J,M,L⟩:=vch amA;have d:=x2 c;have m:=Si c;by_cases B:ps[k].1=0
     .rw[B,vbz]at d;have U:ps[k].2=[]:=vbo He;rw[U,vcb]at m;have B9:Hid (dS ps k<=gc):=MM l.out;rw[B]at C;clear f p o D z y J M L;go_wp2_with (at_builtin;apply sf)
      unfold j8;refine ML rfl _ _ 73 rfl 3 O ((qZ _ _ _).trans underlying73) hi rfl rfl B9.out ?_;have I:Hid _:=d;have B_:Hid _:=m;clear d m hi;go_wp2
      go_roundw
      case rel=>exact⟨k+1,i,gc,AP,by rw[I.out];rfl,Ad,Gv,n.out⟩
      case measure=>simp[intOf];omega
     .obtain⟨n9,E,rfl,H⟩:=D AP;have V:Hid (∀j u,ps[k].2[j]?=some u->wr.cell? (Addr.add ⟨n9,E,none⟩ j)=some u):=λj u hu=>by rw[vdz];exact p _ _ _ (H j u hu)
      have Z:Hid (∀u∈ps[k].2,u.oneCell'=true):=z;have N:Hid (w.heap.size<=wr.heap.size):=n.out.size;have hE:=t (k+1);rw[d]at hE;clear f p H z D o;go_wp2_with (at_builtin;apply sf)
      unfold j8;refine wpList_append_own _ rfl _ _ 73 rfl w.heap.size 3 O _ 1 8 ((qZ _ _ _).trans underlying73) hi J M L rfl AX (.slice i (dS ps k) gc) (dS ps k) (l7 ps k) rfl l.out ⟨n9,E,none⟩ ps[k].1 T ps[k].2 rfl y V.out Z.out EE AP N.out ?_;intro v' w2 r K _;obtain⟨Q,bH,rfl⟩:=h9 r;have Ca:Hid (w2.ownsRow w.heap.size 3 1 (.slice Q (dS ps (k+1)) bH) (dS ps (k+1)) (l7 ps (k+1))):=by rw[d,m];exact r
      have ip:Hid (cJ w w2):=n.out.grown K N.out (λg hg=>(vdl l.out g hg).1);clear r K C m;rw[<-d];clear d;go_wp2
      go_roundw
      case rel=>exact⟨k+1,Q,bH,AP,rfl,Ad,Ca.out,ip.out⟩
      case measure=>simp[intOf];omega
    .have A:k=ps.length:=by omega
     subst A;have jG:¬((ps.length:Int)<(ps.length:Int)):=AP;clear o;go_wp2
     go_ret
     exact⟨_,rfl,l.out,n.out⟩
def Sk:(ae prog false).funcs[(205:Nat)]?=some f205:=bw (upd:=false) func205 AJ
@[simp] theorem aDb:cQ false 205:=c0 Sk AJ
theorem Y8:(ae prog false).funcs[(203:Nat)]?=some f203:=bw (upd:=false) func203 AJ
@[simp] theorem aDc:cQ false 203:=c0 Y8 AJ
theorem amD:(prog.info? 93).map (λi=>(i.zero,i.size,i.bytes))=some (some (.agg #[.F,.I 0,.I 0,.E]),4,40):=by kernel_rfl
def amE(n:Nat)(hn:n<=100000)(w:aS):
 Calls (ae prog false) 205 #[.N,.I n] w λe w'=>∃v,e=.returned v/\w'.ownsRow w.heap.size 93 4 v 0 []/\cJ w w':=by
 by_cases h0:n=0
 .subst h0;go_enter Sk,ntmps205
  go_wp2
  go_ret
  simp_all[vbp,vaa]
 .have f:(0:Int)<(n:Int):=by omega
  have a:t93.bytes=40:=Ah;have d:=nextslicecap_zero (need:=n) AP;go_enter Sk,ntmps205
  go_wp2
  all_goals try(exfalso;simp only[a,d]at *;omega)
  go_ret
  have g:n<=(Question.appendCap n 0 93).cut (w.tape w.drawn (Question.appendCap n 0 93)):=HH;have b:(Question.appendCap n 0 93).cut (w.tape w.drawn (Question.appendCap n 0 93))<=maxLen:=by simp only[Question.cut,maxLen];have:=Nat.mod_lt (w.tape w.drawn (Question.appendCap n 0 93)) (show 0<2^63-n by omega);omega
  generalize(Question.appendCap n 0 93).cut (w.tape w.drawn (Question.appendCap n 0 93))=c at *;refine⟨_,rfl,⟨Ad,.inr ⟨w.heap.size,c,_,rfl,vac _,(ai.new w _ _).drew,vav _,b,?_,Ad⟩⟩,((vaa _ w).alloc JT _).drew⟩;grind[size_zeroCells]
def amF(ps:ubc)(F:Value)(w:aS)(h:aX w 1 (x1 4) F ps)(uP:ps.length<=1000)(t:∀k,dS ps k<=100000):
 Calls (ae prog false) 203 #[F] w λe w'=>∃v,e=.returned v/\w'.ownsRow w.heap.size 93 4 v (dS ps ps.length) (l7 ps ps.length)/\cJ w w':=by
 obtain⟨bK,cap,rfl,hl,q⟩:=h;go_enter Y8,ntmps203
 go_wp2
 go_loopw [3,5,11] (λa _ b W=>∃k:Nat,k<=ps.length/\a=.I (dS ps k:Int)/\b=.I (k:Int)/\W=w) (λ_ _ b _=>ps.length-(intOf b).toNat)
 case atStart=>exact⟨0,vav _,rfl,rfl,rfl⟩
 case round=>
  obtain⟨k,hk,rfl,rfl,rfl⟩:=hrel;by_cases c:k<ps.length
  .obtain⟨b,off,rfl,b8,T,f,-⟩:=q k c;simp at f;have fo:=ff f;have l3:(0:Int)<=(k:Int):=AP;have j7:(k:Int)<(ps.length:Int):=AP;have d:=t (k+1);rw[x2 c]at d;have sx:¬((dS ps k:Int)+(ps[k].1:Int)<0):=AP;clear q;generalize kK:dS ps k=X at *;go_wp2
   exact⟨⟨k+1,AP,by grind[x2],Ad,PJ⟩,HT⟩
  .have A:k=ps.length:=by omega
   subst A;have eH:¬((ps.length:Int)<(ps.length:Int)):=AP;have Y:=t ps.length;have o:Hid _:=q;clear q;obtain⟨w,rfl⟩:∃x:aS,x=wr:=⟨wr,rfl⟩;go_wp2
   refine(amE (dS ps ps.length) Y w).mono ?_;rintro e w1 ⟨v1,rfl,s,S⟩;obtain⟨a1,c1,rfl⟩:=h9 s;have B8:Hid (w1.ownsRow w.heap.size 93 4 (.slice a1 0 c1) 0 []):=s;have g6:Hid (cJ w w1):=S;clear s S;go_wp2
   go_loopw [6,8,27] (λa _ b W=>∃(k:Nat)(i:uan)(gc:Nat),k<=ps.length/\a=.slice i (dS ps k) gc/\b=.I (k:Int)/\W.ownsRow w.heap.size 93 4 (.slice i (dS ps k) gc) (dS ps k) (l7 ps k)/\cJ w W) (λ_ _ b _=>ps.length-(intOf b).toNat)
   case atStart=>exact⟨0,a1,c1,vav _,rfl,rfl,B8.out,g6.out⟩
   case round=>
    obtain⟨k,i,gc,hk,rfl,rfl,R,P⟩:=hrel;have l:Hid (wr.ownsRow w.heap.size 93 4 (.slice i (dS ps k) gc) (dS ps k) (l7 ps k)):=R;have n:Hid (cJ w wr):=P;clear R P;by_cases c:k<ps.length
    .obtain⟨b,off,rfl,b8,T,f,y,z,D⟩:=o.out k c;simp at f;have p:=bo.bX n.out;have C:=p _ _ _ f;have fo:=ff C;have l3:(0:Int)<=(k:Int):=AP;have j7:(k:Int)<(ps.length:Int):=AP;obtain⟨O,hi,J,M,L⟩:=vch amD;have d:=x2 c;have m:=Si c;by_cases B:ps[k].1=0
     .rw[B,vbz]at d;have U:ps[k].2=[]:=vbo He;rw[U,vcb]at m;have B9:Hid (dS ps k<=gc):=MM l.out;rw[B]at C;clear f p o D z y J M L;go_wp2_with (at_builtin;apply sf)
      unfold j8;refine ML rfl _ _ 74 rfl 93 O ((qZ _ _ _).trans underlying74) hi rfl rfl B9.out ?_;have I:Hid _:=d;have B_:Hid _:=m;clear d m hi;go_wp2
      go_roundw
      case rel=>exact⟨k+1,i,gc,AP,by rw[I.out];rfl,Ad,Gv,n.out⟩
      case measure=>simp[intOf];omega
     .obtain⟨n9,E,rfl,H⟩:=D AP;have V:Hid (∀j u,ps[k].2[j]?=some u->wr.cell? (Addr.add ⟨n9,E,none⟩ j)=some u):=λj u hu=>by rw[vdz];exact p _ _ _ (H j u hu)
      have Z:Hid (∀u∈ps[k].2,u.oneCell'=true):=z;have N:Hid (w.heap.size<=wr.heap.size):=n.out.size;have hE:=t (k+1);rw[d]at hE;clear f p H z D o;go_wp2_with (at_builtin;apply sf)
      unfold j8;refine wpList_append_own _ rfl _ _ 74 rfl w.heap.size 93 O _ 4 40 ((qZ _ _ _).trans underlying74) hi J M L rfl AX (.slice i (dS ps k) gc) (dS ps k) (l7 ps k) rfl l.out ⟨n9,E,none⟩ ps[k].1 T ps[k].2 rfl y V.out Z.out EE AP N.out ?_;intro v' w2 r K _;obtain⟨Q,bH,rfl⟩:=h9 r;have Ca:Hid (w2.ownsRow w.heap.size 93 4 (.slice Q (dS ps (k+1)) bH) (dS ps (k+1)) (l7 ps (k+1))):=by rw[d,m];exact r
      have ip:Hid (cJ w w2):=n.out.grown K N.out (λg hg=>(vdl l.out g hg).1);clear r K C m;rw[<-d];clear d;go_wp2
      go_roundw
      case rel=>exact⟨k+1,Q,bH,AP,rfl,Ad,Ca.out,ip.out⟩
      case measure=>simp[intOf];omega
    .have A:k=ps.length:=by omega
     subst A;have jG:¬((ps.length:Int)<(ps.length:Int)):=AP;clear o;go_wp2
     go_ret
     exact⟨_,rfl,l.out,n.out⟩
def Sl:(ae prog true).funcs[(102:Nat)]?=some f102:=bw (upd:=true) func102 AJ
@[simp] theorem aDd:cQ true 102:=c0 Sl AJ
theorem Y9:(ae prog true).funcs[(68:Nat)]?=some f68:=bw (upd:=true) func68 AJ
@[simp] theorem aDe:cQ true 68:=c0 Y9 AJ
theorem amG:(prog.info? 114).map (λi=>(i.zero,i.size,i.bytes))=some (some (.agg #[.I 0,.I 0]),2,16):=by kernel_rfl
def amH(n:Nat)(hn:n<=100000)(w:aS):
 Calls (ae prog true) 102 #[.N,.I n] w λe w'=>∃v,e=.returned v/\w'.ownsRow w.heap.size 114 2 v 0 []/\cJ w w':=by
 by_cases h0:n=0
 .subst h0;go_enter Sl,ntmps102
  go_wp2
  go_ret
  simp_all[vbp,vaa]
 .have f:(0:Int)<(n:Int):=by omega
  have a:t114.bytes=16:=Ah;have d:=nextslicecap_zero (need:=n) AP;go_enter Sl,ntmps102
  go_wp2
  all_goals try(exfalso;simp only[a,d]at *;omega)
  go_ret
  have g:n<=(Question.appendCap n 0 114).cut (w.tape w.drawn (Question.appendCap n 0 114)):=HH;have b:(Question.appendCap n 0 114).cut (w.tape w.drawn (Question.appendCap n 0 114))<=maxLen:=by simp only[Question.cut,maxLen];have:=Nat.mod_lt (w.tape w.drawn (Question.appendCap n 0 114)) (show 0<2^63-n by omega);omega
  generalize(Question.appendCap n 0 114).cut (w.tape w.drawn (Question.appendCap n 0 114))=c at *;refine⟨_,rfl,⟨Ad,.inr ⟨w.heap.size,c,_,rfl,vac _,(ai.new w _ _).drew,vav _,b,?_,Ad⟩⟩,((vaa _ w).alloc JT _).drew⟩;grind[size_zeroCells]
def amI(ps:ubc)(F:Value)(w:aS)(h:aX w 1 (x1 2) F ps)(uP:ps.length<=1000)(t:∀k,dS ps k<=100000):
 Calls (ae prog true) 68 #[F] w λe w'=>∃v,e=.returned v/\w'.ownsRow w.heap.size 114 2 v (dS ps ps.length) (l7 ps ps.length)/\cJ w w':=by
 obtain⟨bK,cap,rfl,hl,q⟩:=h;go_enter Y9,ntmps68
 go_wp2
 go_loopw [3,5,11] (λa _ b W=>∃k:Nat,k<=ps.length/\a=.I (dS ps k:Int)/\b=.I (k:Int)/\W=w) (λ_ _ b _=>ps.length-(intOf b).toNat)
 case atStart=>exact⟨0,vav _,rfl,rfl,rfl⟩
 case round=>
  obtain⟨k,hk,rfl,rfl,rfl⟩:=hrel;by_cases c:k<ps.length
  .obtain⟨b,off,rfl,b8,T,f,-⟩:=q k c;simp at f;have fo:=ff f;have l3:(0:Int)<=(k:Int):=AP;have j7:(k:Int)<(ps.length:Int):=AP;have d:=t (k+1);rw[x2 c]at d;have sx:¬((dS ps k:Int)+(ps[k].1:Int)<0):=AP;clear q;generalize kK:dS ps k=X at *;go_wp2
   exact⟨⟨k+1,AP,by grind[x2],Ad,PJ⟩,HT⟩
  .have A:k=ps.length:=by omega
   subst A;have eH:¬((ps.length:Int)<(ps.length:Int)):=AP;have Y:=t ps.length;have o:Hid _:=q;clear q;obtain⟨w,rfl⟩:∃x:aS,x=wr:=⟨wr,rfl⟩;go_wp2
   refine(amH (dS ps ps.length) Y w).mono ?_;rintro e w1 ⟨v1,rfl,s,S⟩;obtain⟨a1,c1,rfl⟩:=h9 s;have B8:Hid (w1.ownsRow w.heap.size 114 2 (.slice a1 0 c1) 0 []):=s;have g6:Hid (cJ w w1):=S;clear s S;go_wp2
   go_loopw [6,8,27] (λa _ b W=>∃(k:Nat)(i:uan)(gc:Nat),k<=ps.length/\a=.slice i (dS ps k) gc/\b=.I (k:Int)/\W.ownsRow w.heap.size 114 2 (.slice i (dS ps k) gc) (dS ps k) (l7 ps k)/\cJ w W) (λ_ _ b _=>ps.length-(intOf b).toNat)
   case atStart=>exact⟨0,a1,c1,vav _,rfl,rfl,B8.out,g6.out⟩
   case round=>
    obtain⟨k,i,gc,hk,rfl,rfl,R,P⟩:=hrel;have l:Hid (wr.ownsRow w.heap.size 114 2 (.slice i (dS ps k) gc) (dS ps k) (l7 ps k)):=R;have n:Hid (cJ w wr):=P;clear R P;by_cases c:k<ps.length
    .obtain⟨b,off,rfl,b8,T,f,y,z,D⟩:=o.out k c;simp at f;have p:=bo.bX n.out;have C:=p _ _ _ f;have fo:=ff C;have l3:(0:Int)<=(k:Int):=AP;have j7:(k:Int)<(ps.length:Int):=AP;obtain⟨O,hi,J,M,L⟩:=vch amG;have d:=x2 c;have m:=Si c;by_cases B:ps[k].1=0
     .rw[B,vbz]at d;have U:ps[k].2=[]:=vbo He;rw[U,vcb]at m;have B9:Hid (dS ps k<=gc):=MM l.out;rw[B]at C;clear f p o D z y J M L;go_wp2_with (at_builtin;apply sf)
      unfold j8;refine ML rfl _ _ 78 rfl 114 O ((qZ _ _ _).trans underlying78) hi rfl rfl B9.out ?_;have I:Hid _:=d;have B_:Hid _:=m;clear d m hi;go_wp2
      go_roundw
      case rel=>exact⟨k+1,i,gc,AP,by rw[I.out];rfl,Ad,Gv,n.out⟩
      case measure=>simp[intOf];omega
     .obtain⟨n9,E,rfl,H⟩:=D AP;have V:Hid (∀j u,ps[k].2[j]?=some u->wr.cell? (Addr.add ⟨n9,E,none⟩ j)=some u):=λj u hu=>by rw[vdz];exact p _ _ _ (H j u hu)
      have Z:Hid (∀u∈ps[k].2,u.oneCell'=true):=z;have N:Hid (w.heap.size<=wr.heap.size):=n.out.size;have hE:=t (k+1);rw[d]at hE;clear f p H z D o;go_wp2_with (at_builtin;apply sf)
      unfold j8;refine wpList_append_own _ rfl _ _ 78 rfl w.heap.size 114 O _ 2 16 ((qZ _ _ _).trans underlying78) hi J M L rfl AX (.slice i (dS ps k) gc) (dS ps k) (l7 ps k) rfl l.out ⟨n9,E,none⟩ ps[k].1 T ps[k].2 rfl y V.out Z.out EE AP N.out ?_;intro v' w2 r K _;obtain⟨Q,bH,rfl⟩:=h9 r;have Ca:Hid (w2.ownsRow w.heap.size 114 2 (.slice Q (dS ps (k+1)) bH) (dS ps (k+1)) (l7 ps (k+1))):=by rw[d,m];exact r
      have ip:Hid (cJ w w2):=n.out.grown K N.out (λg hg=>(vdl l.out g hg).1);clear r K C m;rw[<-d];clear d;go_wp2
      go_roundw
      case rel=>exact⟨k+1,Q,bH,AP,rfl,Ad,Ca.out,ip.out⟩
      case measure=>simp[intOf];omega
    .have A:k=ps.length:=by omega
     subst A;have jG:¬((ps.length:Int)<(ps.length:Int)):=AP;clear o;go_wp2
     go_ret
     exact⟨_,rfl,l.out,n.out⟩
end bS
namespace cq
open RowKit ax bS
section
theorem amL(a b c d:Int)(w:aS):(binOp .neq 114 (.agg #[.I a,.I b]) (.agg #[.I c,.I d])).run (ae prog true) w=.ok (.bool ((a,b) != (c,d))) w:=by
 by_cases f:a=c<;>by_cases e:b=d
 all_goals go_simp
 all_goals simp[f,e,bne]
attribute [local go_sem ↓] amL
def Cb(w':aS)(e:Ending)(o:Option (List (Int×Int))):Prop:=
 match o with
 |some l=>∃v,e=.returned (.tuple #[v,.T])/\gl w' v l/\fv 114 w' v
 |none=>∃v,e=.returned (.tuple #[v,.F])
def kx(op a b:Int)(ka fX:uan)(n kc cx:Nat):Array Value:=#[.I op,.I a,.I b,.N,.slice ka n kc,.slice fX n cx,.N]
@[simp] theorem aDi:cQ true 47:=c0 (bw (upd:=true) func47 AJ) AJ
@[simp] theorem aDj:cQ true 68:=c0 (bw (upd:=true) func68 AJ) AJ
def kd(l:uac):List Value:=l.flatMap λp=>[.I p.1,.I p.2]
def Y_(l:uac):(kd l).length=l.length*2:=by induction l with|nil=>rfl|cons a l b=>simp only[kd,List.flatMap_cons,vbg,vdm]at b⊢;simp at b⊢;omega
def amM(l a:uac):kd (l++a)=kd l++kd a:=by simp[kd]
theorem Sm:∀(l:uac)(i:Nat)(h:i<l.length),(kd l)[i*2]?=some (.I l[i].1)/\(kd l)[i*2+1]?=some (.I l[i].2)
 | [],i,h=>by simp at h
 |d::l,0,_=>⟨rfl,rfl⟩
 |d::l,i+1,h=>by have:=Sm l i EJ;have e:kd (d::l)=[.I d.1,.I d.2]++kd l:=rfl;rw[e,show(i+1)*2=i*2+2 by omega,show i*2+2+1=(i*2+1)+2 by omega];simpa using this
def Za{w:aS}{v:Value}{l:uac}(h:gl w v l):x1 2 w (λ_=>some v) (l.length,kd l):=by
 obtain⟨a,c,rfl,-,g⟩:=h;refine⟨a,c,rfl,Y_ l,λu f=>?_,λh0=>?_⟩
 .simp only[kd,List.mem_flatMap]at f;obtain⟨d,-,f⟩:=f;simp at f;rcases f with rfl|rfl<;>rfl
 .obtain⟨b,off,rfl,-⟩:=g 0 h0;refine⟨b,off,rfl,λj u f=>?_⟩;have o:j<l.length*2:=by rw[<-Y_];exact(vab.1 f).1
  obtain⟨i,r,rfl,n⟩:∃i r,j=i*2+r/\r<2:=⟨j / 2,j % 2,AP,AP⟩;have hi:i<l.length:=AP;obtain⟨p,m,e,f0,f1⟩:=g i hi;cases e;obtain⟨k,g1⟩:=Sm l i hi;simp only[Nat.add_assoc,vbz]at f0 f1;obtain rfl|rfl:r=0\/r=1:=AP
  .rw[vbz,k]at f;cases f;exact f0
  .rw[g1]at f;cases f;exact f1
def amN{w:aS}{base:Nat}{e:g4}{v:Value}{l:uac}(h:w.ownsRow base e 2 v l.length (kd l))(a:l.length<=9223372036854775807):gl w v l:=by
 rcases h.2 with⟨rfl,h0⟩|⟨g,cap,bd,rfl,-,hg,-,-,-,c⟩
 .have:l=[]:=vbo AA;subst this;exact aX.nil _ _ _
 .refine⟨_,cap,rfl,a,λi hi=>⟨g,0,rfl,?_⟩⟩;obtain⟨b,g1⟩:=Sm l i hi;have hc:∀o v,(kd l)[o]?=some v->w.cell? (.a g (0+o))=some v:=by intro o v d;rw[vbm];grind[World.cell?]
  exact⟨hc _ _ b,hc _ _ g1⟩
def amO(k:Int)(t:ubl)(kb q ob p kc D:Nat)(IZ dT:Value)(a b:uac)(w:aS)(hk:w.cell? (.a kb q)=some (.I k))(U:w.cell? (.a ob p)=some (.I k))(o:gl w IZ a)(n:gl w dT b)(V:r8 a k=(t,true))(f:r8 b k=(t,true))(iJ:a.length+b.length<=8):
 Calls (ae prog true) 47 #[.agg (kx 4 0 1 (some (.a kb q)) (some (.a ob p)) 1 kc D),IZ,dT] w λe w'=>Cb w' e (some (a++b))/\cJ w w':=by
 obtain⟨N,P,rfl,-⟩:=o.shape;obtain⟨M,u,rfl,-⟩:=n.shape;unfold kx;have R:=ai.new w #[.I 4,.I 0,.I 1,.N,.S kb q 1 kc,.S ob p 1 D,.N] 34;go_enter (bw (upd:=true) func47 AJ),ntmps47
 go_wp2
 go_loopw [18] (λi W=>∃(k:Nat),k<=1/\i=.I k/\cJ w W/\ai W w.heap.size #[.I 4,.I 0,.I 1,.N,.S kb q 1 kc,.S ob p 1 D,.N] 34)
  (λi _=>1-(intOf i).toNat)
 case atStart=>exact⟨0,vav _,rfl,(vaa _ w).alloc JT _,R⟩
 case round=>
  obtain⟨j,hj,rfl,f,S⟩:=hrel;have r:Hid (cJ w wr):=f;have Zb:Hid (ai wr w.heap.size _ 34):=S;have d:=bo.bX f;clear R f S;obtain rfl|rfl:j=0\/j=1:=AP
  .have l:=d _ _ _ hk;have h:=d _ _ _ U;have L:Hid _:=XE a _ k wr (aX.mono px d o);have H:Hid (gl wr _ b):=aX.mono px d n;have xI:=ff l;rw[V]at L;clear d;go_wp2_with fail
   refine vco L.out ?_;rintro e w1 ⟨rfl,g⟩;have g6:Hid (cJ wr w1):=g;obtain⟨q7,ij,oF⟩:=(Zb.out.call g).all;have Lu:=(bo.bX g) _ _ _ h;have aDk:=ff Lu;have K:=g.alloc g.size (.cells #[.I t.1,.I t.2] 114);have O:Hid _:=XE b _ k (w1.alloc (.cells #[.I t.1,.I t.2] 114)) (aX.mono px (bo.bX K) H.out);rw[f]at O;have Q:=ai.new w1 #[.I t.1,.I t.2] 114;have Zc:Hid _:=Q;have J:Hid _:=K;clear g l h L Q K;go_wp2_with fail
   refine vco O.out ?_;rintro e w2 ⟨rfl,I⟩;have m:Hid (cJ wr w2):=Below.step I J.out J.out.size;obtain⟨ca,Zd,EN⟩:=(ai.call (T:=114) Zc.out I).all;clear I O Zc J q7 ij oF Lu;have cz:((t.1,t.2) != (t.1,t.2))=false:=Ad;go_wp2_with fail
   go_roundw
   case rel=>
    have Ze:=m.out.alloc m.out.size (.cells #[.I t.1,.I t.2] 114);exact⟨1,AP,Ad,Below.step Ze r.out r.out.size,Zb.out.call Ze⟩
   case measure=>simp[intOf]
  .have lg:Hid (gl w _ a):=o;have St:Hid (gl w _ b):=n;clear hk U V f o n;have A:=(vaa _ wr).alloc JT (.cells #[.slice N a.length P,.slice M b.length u] 78);have E:=ai.new wr #[.slice N a.length P,.slice M b.length u] 78;have x:=d.trans (bo.bX A);have Z:Hid _:=amI [(a.length,kd a),(b.length,kd b)] (.S wr.heap.size 0 2 2) (wr.alloc (.cells #[.slice N a.length P,.slice M b.length u] 78)) ⟨_,2,rfl,Ad,λi hi=>⟨wr.heap.size,0,rfl,by
    obtain rfl|rfl:i=0\/i=1:=by simp at hi;omega
    .obtain⟨a1,c1,g1,B,C,z⟩:=Za (aX.mono px x lg.out);exact⟨a1,c1,(E.rules.1 0).trans g1,B,C,z⟩
    .obtain⟨a1,c1,g1,B,C,z⟩:=Za (aX.mono px x St.out);exact⟨a1,c1,(E.rules.1 1).trans g1,B,C,z⟩⟩⟩ Ad (λk=>by
    have:dS [(a.length,kd a),(b.length,kd b)] k<=a.length+b.length:=by unfold dS;rcases k with _ | _ |k<;>simp
    omega)
   have y:Hid _:=A;clear d x A E;go_wp2_with fail
   refine vco Z.out ?_;rintro e w2 ⟨v,rfl,s,Y⟩;have l:dS [(a.length,kd a),(b.length,kd b)] [(a.length,kd a),(b.length,kd b)].length=(a++b).length:=by simp[dS]
   have h:l7 [(a.length,kd a),(b.length,kd b)] [(a.length,kd a),(b.length,kd b)].length=kd (a++b):=by simp[l7,amM]
   rw[l,h]at s;have c:=amN s Aq;obtain⟨b8,b5,rfl,-⟩:=c.shape;have MQ:Hid _:=And.intro c (fv.EY s);have m:Hid (cJ w w2):=Below.step (Below.step Y y.out y.out.size) r.out r.out.size;have hle:(((a++b).length:Nat):Int)<=(8:Int):=Aq;clear c s Y Z y l h;generalize X:a++b=ab at *;have F:Hid (a++b=ab):=X;clear X;go_wp2_with fail
   go_ret2
   exact⟨⟨.slice b8 ab.length b5,rfl,by rw[F.out];exact MQ.out.1,MQ.out.2⟩,m.out⟩
end
end cq
namespace cq
open RowKit ax
variable{w:aS}{o:Option (List (Int×Int))}{v:Value}
section
attribute [local go_sem ↓] Go.wp_at_zero Go.wp_at_succ
def Zg(w:aS)(rd:ual)(x:uac):Prop:=∃v,rd 0=some v/\gl w v x
def amS:pm Zg:=λ_ _ _ _ _ hk a⟨v,h0,h⟩=>⟨v,a _ _ h0,h.mono px hk⟩
abbrev FC(w:aS):=aX w 1 Zg
attribute [local go_sem ↓] Go.wp_at_zero Go.wp_at_succ
def MR(w:aS)(v:Value)(ok:Bool)(o:Option (List (Int×Int))):Prop:=
 match o with
 |some l=>ok=true/\gl w v l/\fv 114 w v
 |none=>ok=false
theorem Cb.shape{e:Ending}(h:Cb w e o):∃v ok,e=.returned (.tuple #[v,.bool ok])/\MR w v ok o:=by
 cases o with
 |none=>obtain⟨v,h⟩:=h;exact⟨v,false,h,rfl⟩
 |some l=>obtain⟨v,h,hv⟩:=h;exact⟨v,true,h,rfl,hv⟩
def MR.ret{ok:Bool}(h:MR w v ok o):Cb w (.returned (.tuple #[v,.bool ok])) o:=by cases o with|none=>simp[MR]at h;subst h;exact⟨v,rfl⟩|some l=>obtain⟨h,hv⟩:=h;subst h;exact⟨v,rfl,hv⟩
def Zh{cF:List (List (Int×Int))}(h:FC w v cF){k:Nat}(hk:k<cF.length):
 ∃b off cap a c,v=.S b off cF.length cap/\b<w.heap.size/\w.cell? (.a b (off+k))=some (.slice a cF[k].length c)/\gl w (.slice a cF[k].length c) cF[k]:=by
 obtain⟨f,cap,rfl,e,d⟩:=h;obtain⟨b,off,rfl,v,h0,hv⟩:=d k hk;simp at h0;obtain⟨a,c,rfl,-⟩:=hv.shape;exact⟨b,off,cap,a,c,rfl,ff h0,h0,hv⟩
def amT{ts:List (List aG)}(h:Bp w v ts){k:Nat}(hk:k<ts.length):
 ∃b off cap a c,v=.S b off ts.length cap/\b<w.heap.size/\w.cell? (.a b (off+k))=some (.slice a ts[k].length c)/\nX w (.slice a ts[k].length c) ts[k]:=by
 obtain⟨f,cap,rfl,e,d⟩:=h;obtain⟨b,off,v,rfl,h0,hv⟩:=XO d hk;obtain⟨a,c,rfl,-⟩:=hv.shape;exact⟨b,off,cap,a,c,rfl,ff h0,h0,hv⟩
def Zi(bs p:Nat)(b:Int)(eG:Value)(ts:List (List aG))(vT i h aa:uan)(le lk lo nv ce d te f:Nat)(w:aS)(x:w.cell? (.a bs 0)=some eG)(ht:Bp w eG ts)(r:p<ts.length)(A:ts[p].length<=8):
 Calls (ae prog true) 35 #[.P bs 0,.agg #[.I 1,.I p,.I b,.slice vT le ce,.slice i lk d,.slice h lo te,.slice aa nv f]] w λe w'=>Cb w' e (some (ek ts[p]))/\cJ w w':=by
 obtain⟨l,j,ct,a,c,rfl,t,B,o⟩:=amT ht r;have C:=ff x;have y:(0:Int)<=(p:Int):=AP;have z:(p:Int)<(ts.length:Int):=AP;have m:=((bo.refl w).alloc (.cells #[.I 1,.I p,.I b,.slice vT le ce,.slice i lk d,.slice h lo te,.slice aa nv f] 34)).drew;have n:=aX.mono tg m o;have HC:Hid _:=n;have k:=((vaa w.heap.size w).alloc JT (.cells #[.I 1,.I p,.I b,.slice vT le ce,.slice i lk d,.slice h lo te,.slice aa nv f] 34)).drew;have v:Hid _:=k;clear m o n ht k;go_enter (bw (upd:=true) func35 AJ),ntmps35
 go_wp2_with fail
 go_region_held3 (λW=>W.cell? (.a bs 0)=some (.S l j ts.length ct)/\W.cell? (.a w.heap.size 1)=some (.I p)/\W.cell? (.a l (j+p))=some (.slice a ts[p].length c))
  ((go_split_ands;refine⟨?_,?_,?_⟩<;>first|(exact(bo.bX g) _ _ _ AA)|(go_keep;done)))
  (first|(go_at_call 44;refine(ajo ts[p] _ _ HC.out AP).mono ?_;rintro e w1 ⟨v1,rfl,q,u,g⟩))
 have s:Hid (cJ w w1):=Below.step g v.out Ad;clear g;go_wp2_with fail
 go_ret2
 exact⟨⟨_,rfl,q,u⟩,s.out⟩
def amV(bs:Nat)(k:Int)(t:ubl)(kb d ob b kc f:Nat)(dT:Value)(cF:List (List (Int×Int)))(w:aS)(hk:w.cell? (.a kb d)=some (.I k))(n:w.cell? (.a ob b)=some (.I k))(u:w.cell? (.a bs 2)=some dT)(ht:FC w dT cF)(x:1<cF.length)(p:r8 (cF[0]'AP) k=(t,true))(o:r8 cF[1] k=(t,true))(m:(cF[0]'AP).length+cF[1].length<=8):
 Calls (ae prog true) 35 #[.P bs 0,.agg (kx 4 0 1 (some (.a kb d)) (some (.a ob b)) 1 kc f)] w λe w'=>Cb w' e (some ((cF[0]'AP)++cF[1]))/\cJ w w':=by
 have s:0<cF.length:=AP;obtain⟨i,h,ct,a,c,rfl,C,A,r⟩:=Zh ht s;obtain⟨H,F,E,a',B,e,-,d1,q⟩:=Zh ht x;cases e;have O:=ff u;have N:(0:Int)<(cF.length:Int):=AP;have M:(1:Int)<(cF.length:Int):=AP;unfold kx;have g:=((bo.refl w).alloc (.cells #[.I 4,.I 0,.I 1,.N,.S kb d 1 kc,.S ob b 1 f,.N] 34)).drew;have l:Hid _:=amO k t kb d ob b kc f _ _ _ _ _ (g _ _ _ hk) (g _ _ _ n) (aX.mono px g r) (aX.mono px g q) p o m;unfold kx at l;have L:Hid _:=((vaa w.heap.size w).alloc JT (.cells #[.I 4,.I 0,.I 1,.N,.S kb d 1 kc,.S ob b 1 f,.N] 34)).drew;generalize D:cF[0]=I at *;generalize z:cF[1]=J at *;clear g r q ht hk n p o m D z;simp only[vbz]at A;go_enter (bw (upd:=true) func35 AJ),ntmps35
 go_wp2_with fail
 go_region_held3 (λW=>W.cell? (.a bs 2)=some (.S i h cF.length ct)/\W.cell? (.a w.heap.size 0)=some (.I 4)/\W.cell? (.a w.heap.size 1)=some (.I 0)/\W.cell? (.a w.heap.size 2)=some (.I 1)/\W.cell? (.a w.heap.size 3)=some (.N)/\W.cell? (.a w.heap.size 4)=some (.S kb d 1 kc)/\W.cell? (.a w.heap.size 5)=some (.S ob b 1 f)/\W.cell? (.a w.heap.size 6)=some (.N)/\W.cell? (.a i h)=some (.slice a I.length c)/\W.cell? (.a i (h+1))=some (.slice a' J.length B))
  ((go_split_ands;refine⟨?_,?_,?_,?_,?_,?_,?_,?_,?_,?_⟩<;>first|(exact(bo.bX j) _ _ _ (by assumption))|(go_keep;done)))
  (first|(go_at_call 47;refine vco l.out ?_;rintro e w1 ⟨⟨v1,rfl,v,K⟩,j⟩))
 have y:Hid (cJ w w1):=Below.step j L.out Ad;clear j;go_wp2_with fail
 go_ret2
 exact⟨⟨_,rfl,v,K⟩,y.out⟩
end
end cq
open RowKit ax cq
variable{w w' w0 w2:aS}{aY c7 dT eG v:Value}{b bs cap g n q size:Nat}{cs:dp}{T e:g4}{ts:List (List aG)}{ns:List oE}{cF:List (List (Int×Int))}{aT:ubr}{vals xs:uad}
section
attribute [local go_sem ↓] Go.wp_at_zero Go.wp_at_succ
attribute [local go_sem ↓] Go.wp_at_zero Go.wp_at_succ
def ints_at{l:uay}(h:dP w v l){k:Nat}(hk:k<l.length):
 ∃b off cap,v=.S b off l.length cap/\b<w.heap.size/\w.cell? (.a b (off+k))=some (.I l[k]):=by
 obtain⟨d,cap,rfl,c,a⟩:=h;obtain⟨b,off,rfl,h0⟩:=a k hk;simp[qb]at h0;exact⟨b,off,cap,rfl,ff h0,h0⟩
def dP.box(h:ai w b cs T)(xs:uay)(cap:Nat)(a:xs.length<=9223372036854775807)(c:∀i(h:i<xs.length),cs[i]?=some (.I xs[i])):dP w (.S b 0 xs.length cap) xs:=
 ⟨_,cap,rfl,a,λi hi=>⟨b,0,rfl,by simp[qb];rw[h.rules.1 i];grind⟩⟩
structure MS(w:aS)(bs:Nat)(eG aY dT c7:Value)(ts:List (List aG))(ns:List oE)(cF:List (List (Int×Int)))(aT:ubr):Prop where
 di:w.cell? (.a bs 0)=some eG
 c1:w.cell? (.a bs 1)=some aY
 bH:w.cell? (.a bs 2)=some dT
 dB:w.cell? (.a bs 3)=some c7
 x4:Bp w eG ts
 nodes:QQ w aY ns
 types:FC w dT cF
 taken:HW w c7 aT
theorem MS.mono(hk:bo w w')(h:MS w bs eG aY dT c7 ts ns cF aT):MS w' bs eG aY dT c7 ts ns cF aT:=
 ⟨hk _ _ _ h.di,hk _ _ _ h.c1,hk _ _ _ h.bH,hk _ _ _ h.dB,h.x4.mono HX hk,h.nodes.mono QP hk,h.types.mono amS hk,h.taken.mono QK hk⟩
def I1(h:ai w b cs T):w.shape? b=some (T,cs.size):=by grind[ai,World.shape?]
def fv.ne{a:g4}{off c:Nat}(h:fv T w (.S b off n c))(hg:ai w g cs a)(d:T≠a):b≠g:=by rintro rfl;obtain⟨k,hk⟩:=h _ _ _ _ rfl;rw[I1 hg]at hk;grind
theorem aX.typed{ao:Type}{d:Nat}{R:aS->(Nat->Option Value)->ao->Prop}{xs:List ao}(h:aX w d R v xs)(l:∀rd a x,(∀j,a j=rd j)->R w rd x->R w' a x)(hk:∀b off n c,v=.S b off n c->∀o,w'.cell? (.a b o)=w.cell? (.a b o)):aX w' d R v xs:=by
 obtain⟨g,cap,rfl,e,f⟩:=h;refine⟨g,cap,rfl,e,λi hi=>?_⟩;obtain⟨b,off,rfl,k⟩:=f i hi;grind
def gl.qr{l:uac}(h:gl w v l)(hk:∀b off n c,v=.S b off n c->w'.heap[b]?=w.heap[b]?):gl w' v l:=by refine aX.typed h ?_ (λb off n c e o=>vdi (w:=w) AA);intro rd f x d a;exact⟨by rw[d];exact a.1,by rw[d];exact a.2⟩
def dP.qr{l:uay}(h:dP w v l)(hk:∀b off n c,v=.S b off n c->w'.heap[b]?=w.heap[b]?):dP w' v l:=by grind[aX.typed,World.cell?_of_block,qb]
def fv.qr(h:fv T w v)(hk:∀b off n c,v=.S b off n c->w'.heap[b]?=w.heap[b]?):fv T w' v:=by intro b off n c e;obtain⟨k,a⟩:=h b off n c e;grind[World.shape?]
structure Own(w0 w:aS)(bs:Nat)(eG aY dT c7:Value)(ts:List (List aG))(ns:List oE)(cF:List (List (Int×Int)))(aT:ubr)(vals:uad):Prop where
 below:cJ w0 w
 x4:Bp w0 eG ts
 nodes:QQ w0 aY ns
 FG:w0.heap.size<=bs
 box:ai w bs #[eG,aY,dT,c7] 83
 rq:w.ownsRow w0.heap.size 78 1 dT cF.length vals
 qs:w.ownsRow w0.heap.size 4 1 c7 aT.length (aT.map .bool)
 small:cF.length<=1000
 MU:aT.length<=1000
 each:∀j(h:j<cF.length),∃v,vals[j]?=some v/\gl w v cF[j]/\fv 114 w v
def HW.EY{base:Nat}{l:ubr}(h:w.ownsRow base e 1 v l.length (l.map .bool))(a:l.length<=9223372036854775807):HW w v l:=by
 have b:=h;rcases b.2 with⟨rfl,h0⟩|⟨g,cap,bd,rfl,c⟩
 .grind[aX.nil]
 .refine⟨_,cap,rfl,a,λi hi=>⟨g,0,rfl,?_⟩⟩;simp[zC];grind[Bs]
def FC.EY{base:Nat}{l:List (List (Int×Int))}(h:w.ownsRow base e 1 v l.length vals)(b:l.length<=9223372036854775807)(c:∀j(h:j<l.length),∃v,vals[j]?=some v/\gl w v l[j]):FC w v l:=by
 have d:=h;rcases d.2 with⟨rfl,h0⟩|⟨g,cap,bd,rfl,a⟩
 .grind[aX.nil]
 .refine⟨_,cap,rfl,b,λi hi=>⟨g,0,rfl,?_⟩⟩;obtain⟨u,f,a⟩:=c i hi;refine⟨u,?_,a⟩;simp;grind[Bs]
def Own.amW(h:Own w0 w bs eG aY dT c7 ts ns cF aT vals):MS w bs eG aY dT c7 ts ns cF aT:=by have e:=h.box.rules.1;have c:=bo.bX h.below;have hs:=h.small;have f:=h.MU;exact⟨AA,AA,AA,AA,h.x4.mono HX c,h.nodes.mono QP c,FC.EY h.rq AP (λj d=>let⟨v,a,b,_⟩:=h.each j d;⟨v,a,b⟩),HW.EY h.qs AP⟩
theorem Own.call(h:Own w0 w bs eG aY dT c7 ts ns cF aT vals)(d:cJ w w'):Own w0 w' bs eG aY dT c7 ts ns cF aT vals:=
 ⟨h.below.trans (d.mono h.below.size),h.x4,h.nodes,h.FG,h.box.call d,Xy h.rq d,Xy h.qs d,h.small,h.MU,λj e=>let⟨v,a,b,c⟩:=h.each j e;⟨v,a,aX.mono px (bo.bX d) b,c.call d⟩⟩
theorem amX{base:Nat}(h:w.ownsRow base e 1 (.S g 0 n cap) n xs)(d:q<n)(u:Value):(w.setCell ⟨g,q,none⟩ u).ownsRow base e 1 (.S g 0 n cap) n (xs.set q u):=by
 obtain⟨f,c⟩:=h;rcases c with⟨h0,_⟩|⟨g',cap',bd,hv,b,hg,hc,a,hs,ht⟩
 .grind
 .simp at hv;obtain⟨rfl,rfl⟩:=hv;refine⟨AA,.inr ⟨g,cap,bd.setIfInBounds q u,rfl,b,?_,hc,a,AA,?_⟩⟩
  .exact ai.set (show ai w g bd e from hg) q u
  .rw[Array.toList_setIfInBounds,List.take_set,ht]
def Own.take{gk sr i:Nat}(h:Own w0 w bs eG aY dT (.S gk 0 sr i) ts ns cF aT vals)(hq:q<aT.length):
 Own w0 (w.setCell ⟨gk,q,none⟩ (.T)) bs eG aY dT (.S gk 0 sr i) ts ns cF (aT.set q true) vals:=by
 have hok:=h.qs;have f:sr=aT.length:=by
  rcases hok.2 with⟨h0,_⟩|⟨g,c,bd,h0,_⟩
  .grind
  grind
 subst f;obtain⟨d,s⟩:=hok.lt gk rfl;obtain⟨bd,k⟩:∃bd,ai w gk bd 4:=by
  rcases hok.2 with⟨h0,_⟩|⟨g,c,bd,h0,_,hg,_⟩
  .grind
  .simp only[Value.slice.injEq,vbi,Addr.mk.injEq,and_true]at h0;obtain⟨rfl,-,-⟩:=h0;exact⟨bd,hg⟩
 have l:∀{T:g4}{v:Value},fv T w v->T≠4->∀b off n c,v=.S b off n c->(w.setCell ⟨gk,q,none⟩ (.T)).heap[b]?=w.heap[b]?:=by intro T v hv p b off n c e;subst e;exact vaq _ _ _ _ (hv.ne k p)
 refine⟨h.below.setCell d _,h.x4,h.nodes,h.FG,?_,?_,?_,h.small,by simpa using h.MU,?_⟩
 .refine h.box.gx ?_ _;rintro rfl;have r:=I1 h.box;rw[I1 k]at r;grind
 .refine⟨h.rq.1,?_⟩;rcases h.rq.2 with hn|⟨g,cap,t,e,o,hg,rest⟩
  .grind
  .refine .inr ⟨g,cap,t,e,o,?_,rest⟩;rw[vaq _ _ _ _ (show g≠gk from ?_)]
   .exact hg
   .rintro rfl;grind[ai]
 .grind[amX,List.map_set]
 .intro j m;obtain⟨v,a,b,c⟩:=h.each j m;exact⟨v,a,b.qr AA,c.set _ _⟩
def am0{base:Nat}(h:w.ownsRow base e size (.S g 0 n cap) n xs):∃bd,ai w g bd e:=by
 rcases h.2 with⟨h0,_⟩|⟨g',c,bd,h0,_,hg,_⟩
 .grind
 .simp only[Value.slice.injEq,vbi,Addr.mk.injEq,and_true]at h0;obtain⟨rfl,-,-⟩:=h0;exact⟨bd,hg⟩
theorem wD{base:Nat}(h:w.ownsRow base e size v n xs)(hg:v.ownBlock=some g):∃bd,ai w g bd e:=by
 rcases h.2 with⟨rfl,_⟩|⟨g',c,bd,rfl,_,a,_⟩
 .simp[Value.ownBlock]at hg
 .simp[Value.ownBlock]at hg;subst hg;exact⟨bd,a⟩
def ai.ne{a:Nat}{g i:dp}{d c:g4}(f:ai w a g d)(e:ai w b i c)(h:d≠c):a≠b:=by rintro rfl;have:=I1 f;rw[I1 e]at this;grind
theorem FH{base:Nat}(h:w.ownsRow base e size v n xs)(hk:∀g,v.ownBlock=some g->w'.heap[g]?=w.heap[g]?):w'.ownsRow base e size v n xs:=by
 refine⟨h.1,?_⟩;rcases h.2 with hn|⟨g,cap,bd,rfl,a,b,rest⟩
 .grind
 .exact .inr ⟨g,cap,bd,rfl,a,by rw[hk g rfl];grind,rest⟩
def Own.am1(h:Own w0 w bs eG aY dT c7 ts ns cF aT vals){v1:Value}{l:uac}(hv:gl w v1 l)(r:fv 114 w v1)(x:cF.length+1<=1000)(J:w2.ownsRow w0.heap.size 78 1 (.S g 0 (cF.length+1) cap) (cF.length+1) (vals++[v1]))(p:(w.alloc (.cells #[v1] 78)).grownBy w2 dT.ownBlock):
 Own w0 (w2.setCell ⟨bs,2,none⟩ (.S g 0 (cF.length+1) cap)) bs eG aY (.S g 0 (cF.length+1) cap) c7 ts ns (cF++[l]) aT (vals++[v1]):=by
 have d:=h.call ((vaa w.heap.size w).alloc AA (.cells #[v1] 78));have H:gl (w.alloc (.cells #[v1] 78)) v1 l:=aX.mono px ((bo.refl w).alloc _) hv;have K:fv 114 (w.alloc (.cells #[v1] 78)) v1:=r.call ((vaa w.heap.size w).alloc AA _);generalize w.alloc (.cells #[v1] 78)=w1 at *;clear h hv r;have A:∀k,dT.ownBlock=some k->w0.heap.size<=k:=λk hk=>(d.rq.lt k hk).1;have u:cJ w0 w2:=d.below.grown p d.below.size A;have hst:∀{T:g4}{b:Nat}{cs:dp},ai w1 b cs T->T≠78->w2.heap[b]?=w1.heap[b]?:=by intro T b cs m o;refine p.block b m.lt (λe=>?_);obtain⟨bd,i⟩:=wD d.rq e.symm;exact m.ne i o rfl
 have s:ai w2 bs #[eG,aY,dT,c7] 83:=by have:=hst d.box AX;unfold ai;rw[this];exact d.box
 have E:∀{T:g4}{b:Nat}{cs:dp},ai w2 b cs T->T≠83->(w2.setCell ⟨bs,2,none⟩ (.S g 0 (cF.length+1) cap)).heap[b]?=w2.heap[b]?:=by intro T b cs m o;exact vaq _ _ _ _ (m.ne s o)
 have L:∀{v:Value}{l:uac},gl w1 v l->fv 114 w1 v->gl (w2.setCell ⟨bs,2,none⟩ (.S g 0 (cF.length+1) cap)) v l/\fv 114 (w2.setCell ⟨bs,2,none⟩ (.S g 0 (cF.length+1) cap)) v:=by
  intro v l y q;have hk:∀b off n c,v=.S b off n c->(w2.setCell ⟨bs,2,none⟩ (.S g 0 (cF.length+1) cap)).heap[b]?=w1.heap[b]?:=by
   intro b off n c e;obtain⟨k,hk⟩:=q b off n c e;obtain⟨cs,f⟩:∃cs fr,w1.heap[b]?=some (.cells cs 114 fr):=by simp[World.shape?]at hk;grind
   obtain⟨fr,f⟩:=f;have D:w2.heap[b]?=w1.heap[b]?:=by refine p.block b AA (λe=>?_);obtain⟨bd,i⟩:=wD d.rq e.symm;grind[ai]
   rw[vaq _ _ _ _ (show b≠bs from ?_),D];rintro rfl;grind[ai]
  exact⟨y.qr hk,q.qr hk⟩
 refine⟨u.setCell d.FG _,d.x4,d.nodes,d.FG,s.set 2 _,?_,?_,AA,d.MU,?_⟩
 .grind[FH,wD]
 .refine FH d.qs (λg' t=>?_);obtain⟨bd,i⟩:=wD d.qs t;have I:=hst i AX;have B:ai w2 g' bd 4:=by grind[ai]
  grind
 .intro j z;rw[vbg,List.length_singleton]at z;have F:vals.length=cF.length:=by have:=d.rq.1;omega
  by_cases C:j<cF.length
  .obtain⟨v,a,b,c⟩:=d.each j C;grind
  grind
def Own.am3(h:Own w0 w bs eG aY dT c7 ts ns cF aT vals)(t:aT.length+1<=1000)(D:w2.ownsRow w0.heap.size 4 1 (.S g 0 (aT.length+1) cap) (aT.length+1) (aT.map .bool++[.F]))(o:(w.alloc (.cells #[.F] 4)).grownBy w2 c7.ownBlock):
 Own w0 (w2.setCell ⟨bs,3,none⟩ (.S g 0 (aT.length+1) cap)) bs eG aY dT (.S g 0 (aT.length+1) cap) ts ns cF (aT++[false]) vals:=by
 have d:=h.call ((vaa w.heap.size w).alloc AA (.cells #[.F] 4));generalize w.alloc (.cells #[.F] 4)=w1 at *;clear h;have y:∀k,c7.ownBlock=some k->w0.heap.size<=k:=λk hk=>(d.qs.lt k hk).1;have s:cJ w0 w2:=d.below.grown o d.below.size y;have hst:∀{T:g4}{b:Nat}{cs:dp},ai w1 b cs T->T≠4->w2.heap[b]?=w1.heap[b]?:=by intro T b cs l m;refine o.block b l.lt (λe=>?_);obtain⟨bd,i⟩:=wD d.qs e.symm;exact l.ne i m rfl
 have q:ai w2 bs #[eG,aY,dT,c7] 83:=by have:=hst d.box AX;unfold ai;rw[this];exact d.box
 have B:∀{T:g4}{b:Nat}{cs:dp},ai w2 b cs T->T≠83->(w2.setCell ⟨bs,3,none⟩ (.S g 0 (aT.length+1) cap)).heap[b]?=w2.heap[b]?:=by intro T b cs l m;exact vaq _ _ _ _ (l.ne q m)
 refine⟨s.setCell d.FG _,d.x4,d.nodes,d.FG,q.set 3 _,?_,?_,d.small,AA,?_⟩
 .refine FH d.rq (λg' r=>?_);obtain⟨bd,i⟩:=wD d.rq r;have C:=hst i AX;have z:ai w2 g' bd 78:=by grind[ai]
  grind
 .grind[FH,wD]
 .intro j x;obtain⟨v,a,u,p⟩:=d.each j x;have hk:∀b off n c,v=.S b off n c->(w2.setCell ⟨bs,3,none⟩ (.S g 0 (aT.length+1) cap)).heap[b]?=w1.heap[b]?:=by
   intro b off n c e;obtain⟨k,hk⟩:=p b off n c e;obtain⟨cs,f⟩:∃cs fr,w1.heap[b]?=some (.cells cs 114 fr):=by simp[World.shape?]at hk;grind
   obtain⟨fr,f⟩:=f;have A:w2.heap[b]?=w1.heap[b]?:=by refine o.block b AA (λe=>?_);obtain⟨bd,i⟩:=wD d.qs e.symm;grind[ai]
   rw[vaq _ _ _ _ (show b≠bs from ?_),A];rintro rfl;grind[ai]
  exact⟨v,a,u.qr hk,p.qr hk⟩
def Own.am4(h:Own w0 w bs eG aY dT c7 ts ns cF aT vals){o:Obj}(c:(w.alloc o).grownBy w2 dT.ownBlock):ai w2 bs #[eG,aY,dT,c7] 83:=by have a:=h.call ((vaa w.heap.size w).alloc AA o);refine a.box.grown c (λg hg=>?_);obtain⟨bd,b⟩:=wD a.rq hg;exact a.box.ne b AX
def Own.am5(h:Own w0 w bs eG aY dT c7 ts ns cF aT vals){o:Obj}(c:(w.alloc o).grownBy w2 c7.ownBlock):ai w2 bs #[eG,aY,dT,c7] 83:=by have a:=h.call ((vaa w.heap.size w).alloc AA o);refine a.box.grown c (λg hg=>?_);obtain⟨bd,b⟩:=wD a.qs hg;exact a.box.ne b AX
def MV{x:Value}(h:ai w b #[x] T):∀j u,([x]:uad)[j]?=some u->w.cell? (.a b j)=some u:=by intro j u a;rw[h.rules.1 j];grind
def lj(aT:ubr)(cs:uay):List Bool:=cs.foldl (λt c=>t.set c.toNat true) aT
theorem Zm(aT:ubr)(cs:uay):(lj aT cs).length=aT.length:=by induction cs generalizing aT with|nil=>rfl|cons c r a=>simp_all[lj]
theorem am6(aT:ubr)(cs:uay)(c:Int):lj aT (cs++[c])=(lj aT cs).set c.toNat true:=by simp[lj]
end
namespace cq
open RowKit ax bS
structure e5 where
 e:TypeId
 v:Value
 xs:List Value
structure eU(B:Nat)(W:aS)(L:List e5):Prop where
 own:∀i(h:i<L.length),W.ownsRow B L[i].e 1 L[i].v L[i].xs.length L[i].xs
 apart:∀i j(hi:i<L.length)(hj:j<L.length) g,i≠j->L[i].v.ownBlock=some g->L[j].v.ownBlock≠some g
def h5(L:List e5)(b:Nat):Prop:=∀i(h:i<L.length),L[i].v.ownBlock≠some b
variable{B g i:Nat}{W:aS}{L:List e5}
theorem eU.lt(h:eU B W L)(hi:i<L.length)(hg:L[i].v.ownBlock=some g):B<=g/\g<W.heap.size:=(h.own i hi).lt g hg
variable{b:Nat}
def eU.nA(h:eU B W L)(a:W.heap.size<=b\/b<B):h5 L b:=λi hi hg=>by have:=h.lt hi hg;omega
variable{W':aS}
def eU.kept(h:eU B W L)(hk:∀g,¬h5 L g->W'.heap[g]?=W.heap[g]?):eU B W' L:=
 ⟨λi hi=>FH (h.own i hi) λg hg=>hk g λa=>a i hi hg,h.apart⟩
variable{cap:Nat}{xs:uad}
def eU.push(h:eU B W L)(hi:i<L.length)(p:W'.ownsRow B L[i].e 1 (.S g 0 xs.length cap) xs.length xs)(hg:W.grownBy W' L[i].v.ownBlock)(cX:L[i].v.ownBlock=some g\/g=W.heap.size):
 eU B W' (L.set i ⟨L[i].e,.S g 0 xs.length cap,xs⟩):=by
 have m:∀j(a:j<L.length),j≠i->L[j].v.ownBlock≠some g:=λj a b f=>by
  rcases cX with cX|cX
  .exact h.apart i j hi a g (Ne.symm b) cX f
  .have:=(h.lt a f).2;omega
 refine⟨λj a=>?_,λj k a hk g' b c=>?_⟩
 .rw[vej]at a;by_cases e:i=j
  .grind
  .simp only[List.getElem_set,e,vee];exact FH (h.own j a) λg' d=>hg.block g' (h.lt a d).2 λo=>h.apart i j hi a g' e o.symm d
 .rw[vej]at a hk;simp only[List.getElem_set]at c⊢;by_cases n:i=j
  .simp_all[Value.ownBlock,Ne.symm]
  .simp[n]at c;by_cases l:i=k
   .simp only[l,vdh,Value.ownBlock];grind
   .simp only[l,vee];exact h.apart j k a hk g' b c
variable{n:Nat}
theorem anb(h:eU B W L)(hi:i<L.length){e:g4}(cX:L[i].v.ownBlock=some g\/g=W.heap.size)(k:b<W.heap.size)(d:h5 L b):h5 (L.set i ⟨e,.S g 0 n cap,xs⟩) b:=by
 intro j c a;rw[vej]at c;simp[List.getElem_set]at a;by_cases f:i=j
 .simp[f,Value.ownBlock]at a;subst a;rcases cX with cX|cX
  .exact d i hi cX
  .omega
 .simp[f]at a;exact d j c a
structure qt(L:List e5)(w w':aS):Prop where
 size:w.heap.size<=w'.heap.size
 os:w'.os=w.os
 tape:w'.tape=w.tape
 output:w'.output=w.output
 block:∀b,b<w.heap.size->h5 L b->w'.heap[b]?=w.heap[b]?
@[simp] theorem aDx:cQ true 32:=c0 (bw (upd:=true) func32 AJ) AJ
theorem eU.at(h:eU B W L){r:e5}(a:L[i]?=some r):W.ownsRow B r.e 1 r.v r.xs.length r.xs:=by obtain⟨hi,rfl⟩:=vab.1 a;exact h.own i hi
theorem eU.alloc(h:eU B W L)(o:Obj):eU B (W.alloc o) L:=h.kept λg hg=>vci _ _ _ (by
 apply vaw;intro a;exact hg (h.nA AA))
def eU.set(h:eU B W L)(a:h5 L b)(o:Nat)(v:Value):eU B (W.setCell ⟨b,o,none⟩ v) L:=h.kept λg hg=>vaq _ _ _ _ AA
variable{v:Value}
def eU.I7(h:eU B W L){e:g4}(c:L[i]?=some ⟨e,v,xs⟩){x:Value}(j:W'.ownsRow B e 1 (.S g 0 (xs.length+1) cap) (xs.length+1) (xs++[x]))(hg:W.grownBy W' v.ownBlock)(cX:v.ownBlock=some g\/g=W.heap.size):
 eU B W' (L.set i ⟨e,.S g 0 (xs.length+1) cap,xs++[x]⟩)/\∀b,b<W.heap.size->h5 L b->h5 (L.set i ⟨e,.S g 0 (xs.length+1) cap,xs++[x]⟩) b:=by
 obtain⟨hi,a⟩:=vab.1 c;have f:L[i].e=e:=by rw[a]
 have k:L[i].v=v:=by rw[a]
 have d:(xs++[x]).length=xs.length+1:=Ad;have:=h.push hi (xs:=xs++[x]) (by rw[d,f];exact j) AA AA;grind[anb]
def eU.below(h:eU B W L)(a:Below W.heap.size W.drew W'):eU B W' L:=h.kept λg hg=>a.block g (by
 apply vaw;intro b;exact hg (h.nA AA))
variable{w:aS}{P:b4}{K:uag}{Q:uai}{ats:uaq}
def anc{ops:eY}{o:Oper}{a:Act}{F:Prop}(k:o.guard=none){f:uaj}{fn:Func}{args:uaw}(b:o.op=.call {callee:=.value (.func f),args,argTypes:=ats})(g:P.funcs[f]?=some fn)(c:(fn.name== "runtime.NumGoroutine")=false)(i:fn.body.isNone=false){vs:dp}(hv:args.map a.eval=vs)(h:Calls P f vs w λ| .returned v,w'=>K (a.put o.dst v) w'| _,_=>False):if Region.wanted o (yielded ops a.tmps)=true then Oper.wp P o a w K Q else F:=by
 subst hv;have d:Region.wanted o (yielded ops a.tmps)=true:=by grind[Region.wanted]
 rw[vby d];unfold Oper.wp;rw[Conc.run_call_body b g c i];refine h.mono λe w' j=>?_;grind
def ane{ops:eY}{o:Oper}{a:Act}{F:Prop}(c:o.guard=none){x:uar}(b:o.op=.call {callee:=.value (.func 40),args:=#[x],argTypes:=ats}){s:ByteArray}(hv:a.eval x=.string s)(ht:s.size<=1000000)(h:∀w',cJ w w'->K (a.put o.dst (.string s)) w'):if Region.wanted o (yielded ops a.tmps)=true then Oper.wp (ae prog true) o a w K Q else F:=
 anc c b (bw (upd:=true) func40 AJ) Ah rfl (vs:=#[.string s]) AA ((ana s w ht).mono AA)
variable{j:Nat}
def iP(h:i≠j)(x:e5):(L.set i x)[j]?=L[j]?:=by simp[h]
variable{cs:dp}
def MW{c:Nat}{T:g4}(h:ai w c cs T)(a:c≠b)(o:Nat)(v:Value):ai (w.setCell ⟨b,o,none⟩ v) c cs T:=by grind[ai,Below.heap_setCell]
variable{w':aS}
def qt.set(h:qt L w w')(o:Nat)(v:Value)(c:w.heap.size<=b):qt L w (w'.setCell ⟨b,o,none⟩ v):=
 ⟨by simp[World.setCell];exact h.size,h.os,h.tape,h.output,λk hk a=>(vaq _ _ _ _ AA).trans (h.block k hk a)⟩
def qt.Zo{w1 w2:aS}(h:qt L w w1)(hs:w1.heap.size<=w2.heap.size)(e:w2.os=w1.os)(ht:w2.tape=w1.tape)(d:w2.output=w1.output)(f:∀b,b<w.heap.size->h5 L b->w2.heap[b]?=w1.heap[b]?):qt L w w2:=
 ⟨vad h.size hs,e.trans h.os,ht.trans h.tape,d.trans h.output,λb a c=>(f b a c).trans (h.block b a c)⟩
variable{aY vs:Value}
def anf(h:eU B w L)(hB:B<=w.heap.size){k:Nat}{bj:Value}{is l ns:uad}(h0:L[k]?=some ⟨2,bj,is⟩)(h1:L[k+1]?=some ⟨9,vs,l⟩)(h2:L[k+2]?=some ⟨4,aY,ns⟩)(kind bV:Int)(d:cR)(ht:d.text.size<=1000000)(hl:is.length<=1000/\l.length<=1000/\ns.length<=1000):
 Calls (ae prog true) 32 #[.agg #[.I kind,.I bV,bj,vs,aY],oI d] w λe w'=>(∃g c f a,(kind≠3/\e=.returned (.agg #[.I kind,.I bV,.S g 0 (is.length+1) c,vs,.S f 0 (ns.length+1) a])/\
  eU B w' ((L.set (k+2) ⟨4,.S f 0 (ns.length+1) a,ns++[.bool d.dH]⟩).set k ⟨2,.S g 0 (is.length+1) c,is++[.I d.num]⟩))\/
  (kind=3/\e=.returned (.agg #[.I kind,.I bV,bj,.S g 0 (l.length+1) c,.S f 0 (ns.length+1) a])/\
   eU B w' ((L.set (k+2) ⟨4,.S f 0 (ns.length+1) a,ns++[.bool d.dH]⟩).set (k+1) ⟨9,.S g 0 (l.length+1) c,l++[.string d.text]⟩)))/\qt L w w':=by
 obtain⟨sa,r,e0⟩:=h9 (show w.ownsRow B 9 1 vs l.length l from h.at h1);subst e0;obtain⟨x,q,e1⟩:=h9 (show w.ownsRow B 2 1 bj is.length is from h.at h0);obtain⟨an,C,A⟩:=h9 (show w.ownsRow B 4 1 aY ns.length ns from h.at h2);subst e1;subst A;have Sv:Hid _:=h0;have FI:Hid _:=h1;have pA:Hid _:=h2;have H:Hid _:=hl;have T:Hid (eU B w L):=h;clear h0 h1 h2 hl h;have b2:=(((ai.new w #[.I kind,.I bV,.slice x is.length q,.slice sa l.length r,.slice an ns.length C] 53).alloc (.cells #[.bool d.dH,.I d.num,.I d.bV,.string d.text] 93)).alloc (.cells #[.I 0,.I 0,.N,.N,.N] 53)).alloc (.cells #[.bool d.dH] 4);have bZ:=((ai.new (w.alloc (.cells #[.I kind,.I bV,.slice x is.length q,.slice sa l.length r,.slice an ns.length C] 53)) #[.bool d.dH,.I d.num,.I d.bV,.string d.text] 93).alloc (.cells #[.I 0,.I 0,.N,.N,.N] 53)).alloc (.cells #[.bool d.dH] 4);have a8:=(ai.new ((w.alloc (.cells #[.I kind,.I bV,.slice x is.length q,.slice sa l.length r,.slice an ns.length C] 53)).alloc (.cells #[.bool d.dH,.I d.num,.I d.bV,.string d.text] 93)) #[.I 0,.I 0,.N,.N,.N] 53).alloc (.cells #[.bool d.dH] 4);have bt:=ai.new (((w.alloc (.cells #[.I kind,.I bV,.slice x is.length q,.slice sa l.length r,.slice an ns.length C] 53)).alloc (.cells #[.bool d.dH,.I d.num,.I d.bV,.string d.text] 93)).alloc (.cells #[.I 0,.I 0,.N,.N,.N] 53)) #[.bool d.dH] 4;have Sw:=(((T.out.alloc (.cells #[.I kind,.I bV,.slice x is.length q,.slice sa l.length r,.slice an ns.length C] 53)).alloc (.cells #[.bool d.dH,.I d.num,.I d.bV,.string d.text] 93)).alloc (.cells #[.I 0,.I 0,.N,.N,.N] 53)).alloc (.cells #[.bool d.dH] 4);simp at bZ a8 bt;have i_:Hid _:=b2;have ky:Hid _:=bZ;have wE:Hid _:=a8;have I:Hid _:=MV bt;have I8:Hid _:=Sw;have F:Hid _:=Sw.at pA.out;have t:Hid (∀u∈([.bool d.dH]:uad),u.oneCell'=true):=Fl;have tm:Hid (B<=w.heap.size):=hB;clear b2 bZ a8 bt Sw hB;go_enter (bw (upd:=true) func32 AJ),ntmps32
 go_wp2_with (at_builtin;apply sf)
 unfold j8;refine LJ H5 _ rfl _ _ rfl B (.slice an ns.length C) ns.length ns rfl F.out (w.heap.size+1+1+1) 1 1 _ rfl rfl I.out t.out AX Ep Ep (by have:=tm.out;simp;omega) (w.heap.size+1+1+1+1) Ad ?_;intro f a er Sx n Zp Zq;have cM:∀i g,i<3->(Value.slice an ns.length C).ownBlock=some g->w.heap.size+i≠g:=λi g _ hg=>by obtain⟨hi,z⟩:=vab.1 pA.out;have:=(T.out.lt hi (by rw[z];exact hg)).2;omega
 obtain⟨tN,dz⟩:=eU.I7 I8.out pA.out Sx n BK;have bH:=(ai.grown i_.out n (λg hg=>cM 0 g AX hg)).set 4 (.S f 0 (ns.length+1) a);have dB:=ai.grown ky.out n BK;have c4:=ai.grown wE.out n (λg hg=>cM 2 g AX hg);have E:∀i,i<3->h5 (L.set (k+2) ⟨4,.S f 0 (ns.length+1) a,ns++[.bool d.dH]⟩) (w.heap.size+i):=λi hi=>dz _ Aq (T.out.nA AA);have MX:qt L w er:=⟨by have:=n.size;simp at this;omega,n.os,n.tape,n.output,λb hb W=>(n.block b Aq (λe=>by
  obtain⟨hi,z⟩:=vab.1 pA.out;exact W _ hi AA)).trans (by
   grind[Below.heap_alloc])⟩
 obtain⟨M,K,J⟩:=(ai.grown i_.out n (λg hg=>cM 0 g AX hg)).all;by_cases lJ:kind=3
 .subst lJ;go_upto_region 3 with fail
  have D:=tN.set (E 0 AX) 4 (.S f 0 (ns.length+1) a);have N:=MW dB (b:=w.heap.size) AP 4 (.S f 0 (ns.length+1) a);have Y:=MW c4 (b:=w.heap.size) AP 4 (.S f 0 (ns.length+1) a);have I9:=MX.set 4 (.S f 0 (ns.length+1) a) JT;simp at D;generalize er.setCell ⟨w.heap.size,4,none⟩ (.S f 0 (ns.length+1) a)=V at *;simp at bH;clear M K J tN dB c4 MX Sx n Zp Zq I8 F I t;have Q:(L.set (k+2) ⟨4,.S f 0 (ns.length+1) a,ns++[.bool d.dH]⟩)[k+1]?=some ⟨9,.slice sa l.length r,l⟩:=(iP AP _).trans FI.out;have P:Hid _:=bH;have Cd:Hid _:=N;have I_:Hid _:=Y;have o:Hid _:=I9;have Zr:Hid _:=D;have O:Hid _:=Q;have tO:Hid _:=E;have t:Hid (∀u∈([.string d.text]:uad),u.oneCell'=true):=Fl;obtain⟨M,K,J⟩:=bH.all;obtain⟨jm,ml,U⟩:=N.all;clear Q bH N Y I9 E D;have R:∀i g,i<3->(Value.slice sa l.length r).ownBlock=some g->w.heap.size+i≠g:=λi g zI hg=>by obtain⟨hi,z⟩:=vab.1 FI.out;have:=(T.out.lt hi (by rw[z];exact hg)).2;omega
  have HOW:Hid _:=R;clear R;go_region_law
   (first|(refine ane BJ BJ (s:=d.text) BJ ht ?_;intro uW m;obtain⟨c9,ed,ge⟩:=(ai.call (ai.drew P.out) m).all)|(refine ai3 QW _ BJ _ _ BJ B (.slice sa l.length r) l.length l BJ ((eU.alloc (eU.below Zr.out m) _).at O.out) uW.heap.size 1 1 [.string d.text] BJ rfl BK t.out AP Ep Ep (by have:=tm.out;have:=o.out.size;have:=m.size;simp at this⊢;omega) (uW.heap.size+1) Ad ?_;intro g c FM Ja j Sy Sz;have A:=ai.grown ((ai.call (ai.drew P.out) m).alloc _) j (λg hg=>HOW.out 0 g AX hg);have e3:=ai.grown ((ai.call (ai.drew Cd.out) m).alloc _) j (λg hg=>HOW.out 1 g AX hg);obtain⟨u1,u2,u3⟩:=A.all))
  all_goals
   obtain⟨Jb,Ab⟩:=eU.I7 (eU.alloc (eU.below Zr.out m) _) O.out Ja j BK;have X:=ai.grown ((ai.call (ai.drew I_.out) m).alloc _) j (λg hg=>HOW.out 2 g AX hg);have Jc:qt L w FM:=o.out.Zo (by have s1:=j.size;have s2:=m.size;simp at s1 s2;omega) (j.os.trans m.os) (j.tape.trans m.tape) (j.output.trans m.output) (λb hb W=>(j.block b (by have:=o.out.size;have:=m.size;simp at this⊢;omega) (λe=>by
    obtain⟨hi,z⟩:=vab.1 FI.out;exact W _ hi AA)).trans ((vci _ _ _ AA).trans (m.block b (by have:=o.out.size;simp;omega))))
   obtain⟨t1,t2,t3⟩:=X.all;have SA:Hid _:=Jc;have SB:Hid _:=Jb;have Z:Hid (∀i,i<3->h5 _ (w.heap.size+i)):=λi hi=>Ab _ (by have:=o.out.size;have:=U;have:=m.size;simp at this⊢;omega) (tO.out i hi);clear A e3 X Jc Jb Ab M K J jm ml U c9 ed ge Ja j Sy Sz O P Cd I_ o t m;go_wp2
   have S:=Z.out 0 AX;have p:=Z.out 2 AX;simp at S;exact vbu (v:=.agg #[.I 3,.I bV,.slice x is.length q,.S g 0 (l.length+1) c,.S f 0 (ns.length+1) a]) (by simp[results,results32,go_sem,t1]) rfl
    ⟨⟨g,c,f,a,rfl,(((((SB.out.set S _ _).set p _ _).set p _ _).set p _ _).set p _ _).set p _ _⟩,(((((SA.out.set _ _ AA).set _ _ AP).set _ _ AP).set _ _ AP).set _ _ AP).set _ _ AP⟩
 .have jG:(kind==3)=false:=by grind
  have ang:Hid _:=lJ;clear lJ;go_upto_region 4 with fail
  have D:=tN.set (E 0 AX) 4 (.S f 0 (ns.length+1) a);have N:=MW dB (b:=w.heap.size) AP 4 (.S f 0 (ns.length+1) a);have Y:=MW c4 (b:=w.heap.size) AP 4 (.S f 0 (ns.length+1) a);have I9:=MX.set 4 (.S f 0 (ns.length+1) a) JT;simp at D;generalize er.setCell ⟨w.heap.size,4,none⟩ (.S f 0 (ns.length+1) a)=V at *;simp at bH;clear M K J tN dB c4 MX Sx n Zp Zq I8 F I t;have Q:(L.set (k+2) ⟨4,.S f 0 (ns.length+1) a,ns++[.bool d.dH]⟩)[k]?=some ⟨2,.slice x is.length q,is⟩:=(iP AP _).trans Sv.out;have SC:=D.alloc (.cells #[.I d.num] 2);have F:Hid _:=SC.at Q;have I:Hid _:=MV (ai.new V #[.I d.num] 2);have t:Hid (∀u∈([.I d.num]:uad),u.oneCell'=true):=Fl;have P:Hid _:=bH.alloc (.cells #[.I d.num] 2);have I_:Hid _:=Y.alloc (.cells #[.I d.num] 2);have o:Hid _:=I9;have Zs:Hid _:=SC;have O:Hid _:=Q;have tO:Hid _:=E;have anh:Hid (B<=(V.alloc (.cells #[.I d.num] 2)).heap.size):=by grind[Hid]
  obtain⟨M,K,J⟩:=bH.all;obtain⟨jm,ml,U⟩:=N.all;clear SC Q bH N Y I9 E;go_wp2_with (at_builtin;apply sf)
  unfold j8;refine LJ QV _ rfl _ _ rfl B (.slice x is.length q) is.length is rfl F.out V.heap.size 1 1 _ rfl rfl I.out t.out AX Ep Ep anh.out (V.heap.size+1) Ad ?_;intro tu ci FM Ja j Sy Sz;have R:∀i g,i<3->(Value.slice x is.length q).ownBlock=some g->w.heap.size+i≠g:=λi g zI hg=>by obtain⟨hi,z⟩:=vab.1 Sv.out;have:=(T.out.lt hi (by rw[z];exact hg)).2;omega
  obtain⟨Jb,Ab⟩:=eU.I7 Zs.out O.out Ja j BK;have A:=ai.grown P.out j (λg hg=>R 0 g AX hg);have X:=ai.grown I_.out j (λg hg=>R 2 g AX hg);have Jc:qt L w FM:=o.out.Zo (by have:=j.size;simp at this;omega) j.os j.tape j.output (λb hb W=>(j.block b (by have:=o.out.size;simp;omega) (λe=>by
   obtain⟨hi,z⟩:=vab.1 Sv.out;exact W _ hi AA)).trans (vci _ _ _ AA))
  obtain⟨u1,u2,u3⟩:=A.all;obtain⟨t1,t2,t3⟩:=X.all;have SA:Hid _:=Jc;have SB:Hid _:=Jb;have Z:Hid (∀i,i<3->h5 _ (w.heap.size+i)):=λi hi=>Ab _ (by have:=o.out.size;have:=U;simp;omega) (tO.out i hi);clear A X Jc Jb Ab M K J jm ml U Ja j Sy Sz Zs O P I_ o F I t;go_wp2
  have S:=Z.out 0 AX;have p:=Z.out 2 AX;simp at S;exact vbu (v:=.agg #[.I kind,.I bV,.S tu 0 (is.length+1) ci,.slice sa l.length r,.S f 0 (ns.length+1) a]) (by simp[results,results32,go_sem,t1]) rfl
   ⟨⟨tu,ci,f,a,.inl ⟨ang.out,rfl,(((((SB.out.set S _ _).set p _ _).set p _ _).set p _ _).set p _ _).set p _ _⟩⟩,(((((SA.out.set _ _ AA).set _ _ AP).set _ _ AP).set _ _ AP).set _ _ AP).set _ _ AP⟩
open Shelf
@[simp] theorem aDz:cQ true 31:=c0 (bw (upd:=true) func31 AJ) AJ
def Ce(cs:dp)(l:uac)(k:Nat):Prop:=∀j(h:j<l.length),j<k->cs[j*5]?=some (.I l[j].1)/\cs[j*5+1]?=some (.I l[j].2)/\cs[j*5+2]?=some (.N)/\cs[j*5+3]?=some (.N)/\cs[j*5+4]?=some (.N)
abbrev rr(cs:dp)(k:Nat)(a b c d e:Value):Array Value:=((((cs.setIfInBounds (k*5) a).setIfInBounds (k*5+1) b).setIfInBounds (k*5+2) c).setIfInBounds (k*5+3) d).setIfInBounds (k*5+4) e
def wH{k:Nat}(a b c d e:Value)(h:j≠k)(hi:i<5):(rr cs k a b c d e)[j*5+i]?=cs[j*5+i]?:=by simp only[rr,vak];grind
theorem Zt{k:Nat}(a b c d e:Value)(h:k*5+4<cs.size):(rr cs k a b c d e)[k*5]?=some a/\(rr cs k a b c d e)[k*5+1]?=some b/\(rr cs k a b c d e)[k*5+2]?=some c/\(rr cs k a b c d e)[k*5+3]?=some d/\(rr cs k a b c d e)[k*5+4]?=some e:=by simp[rr,vak];omega
theorem Ce.step{cs:dp}{l:uac}{k:Nat}(h:Ce cs l k)(hk:k<l.length)(hs:cs.size=l.length*5):Ce (rr cs k (.I l[k].1) (.I l[k].2) (.N) (.N) (.N)) l (k+1):=by
 intro j a b;by_cases e:j=k
 .grind[Zt]
 .have:=h j a AP;refine⟨(wH (i:=0) _ _ _ _ _ e AX).trans this.1,(wH _ _ _ _ _ e AX).trans this.2.1,(wH _ _ _ _ _ e AX).trans this.2.2.1,(wH _ _ _ _ _ e AX).trans this.2.2.2.1,(wH _ _ _ _ _ e AX).trans this.2.2.2.2⟩
def ani(l:uac)(v:Value)(w:aS)(hv:gl w v l)(z:l.length<=1000000):
 Calls (ae prog true) 31 #[v] w λe w'=>∃b cs,e=.returned (.S b 0 l.length l.length)/\ai w' b cs 53/\cs.size=l.length*5/\Ce cs l l.length/\w.heap.size<=b/\cJ w w':=by
 obtain⟨N,cap,rfl,J,x⟩:=hv;go_enter (bw (upd:=true) func31 AJ),ntmps31
 go_wp2_with (at_make;refine QX XB _ rfl _ _ rfl _ _ l.length rfl rfl AP AP ?_;intro w1 bd t f u)
 have F:Hid (ai w1 w.heap.size bd 53):=t;have A:Hid (cJ w w1):=u;have E:Hid _:=f;clear t u f;go_loopw [11] (λn W=>∃(k:Nat)(cs:dp),k<=l.length/\n=.I k/\ai W w.heap.size cs 53/\cs.size=l.length*5/\Ce cs l k/\cJ w W)
  (λi _=>l.length-(intOf i).toNat)
 case atStart=>exact⟨0,bd,vav _,rfl,F.out,E.out,λj _ K=>AA,A.out⟩
 case round=>
  obtain⟨k,cs,hk,rfl,r,p,q,s⟩:=hrel;have a:Hid (ai wr w.heap.size cs 53):=r;have o:Hid (Ce cs l k):=q;have h:Hid (cJ w wr):=s;have c:Hid _:=p;clear r q s p;by_cases d:k<l.length
  .obtain⟨b,off,rfl,g,d1⟩:=x k d;simp at g;have m:=bo.bX h.out;have B:=m _ _ _ g;have M:=m _ _ _ d1;have L:=ff B;have C:w.heap.size<wr.heap.size:=a.out.lt;clear m g d1 x;have H:(0:Int)<=(k:Int):=AP;have I:(k:Int)<(l.length:Int):=AP;have R:wr.cell? (.a w.heap.size (k*5))=some (cs[k*5]'E5):=by rw[a.out.rules.1];simp
   have Q:wr.cell? (.a w.heap.size (k*5+1))=some (cs[k*5+1]'E5):=by rw[a.out.rules.1];simp
   have P:wr.cell? (.a w.heap.size (k*5+2))=some (cs[k*5+2]'E5):=by rw[a.out.rules.1];simp
   have O:wr.cell? (.a w.heap.size (k*5+3))=some (cs[k*5+3]'E5):=by rw[a.out.rules.1];simp
   have D:wr.cell? (.a w.heap.size (k*5+4))=some (cs[k*5+4]'E5):=by rw[a.out.rules.1];simp
   have S:=a.out.rules.2;go_wp2_with fail
   go_roundw
   case rel=>
    exact⟨k+1,_,AP,by go_num,(((((a.out.set _ _).set _ _).set _ _).set _ _).set _ _).alloc _,by simp;exact c.out,o.out.step d c.out,(((((h.out.setCell Ad _).setCell Ad _).setCell Ad _).setCell Ad _).setCell Ad _).alloc Aq _⟩
   case measure=>simp[intOf];omega
  .have y:k=l.length:=by omega
   go_wp2_with fail
   go_ret
   exact⟨_,_,rfl,a.out,c.out,by rw[<-y];exact o.out,AP,h.out⟩
def Cf(w0:aS)(rs:List aZ)(t:Nat)(W:aS)(x:Value):Prop:=∃(h:t<rs.length)(en:uan)(pc:Nat)(b8:uan)(b5:Nat),x=.agg #[.slice en rs[t].1.length pc,.slice b8 rs[t].2.length b5]/\i8 w0 (.slice b8 rs[t].2.length b5) rs[t].2/\bo w0 W
theorem func30:(ae prog true).funcs[(30:Nat)]?=some f30:=bw (upd:=true) Tryz.func30 AJ
def ank{L:Nat}(aN:0<L)(rs:List aZ)(bq:Value)(c8:Nat)(w0:aS)(hc:fG w0 bq rs)(hsm:rs.length<=1000000)(s:w0.cell? (.a c8 0)=some bq):
 E4 False L n (ae prog true) 30 #[.P c8 0] (Cf w0 rs) rs.length w0.heap.size w0:=by
 intro l S J D W c E B M h0;have O:∀t D W W',J t D W->cJ W W'->J t D W':=λt D W W' h c=>B t D W W' h (.below c) λb hs=>c.block b (E t D W h b (.inl hs));clear B E;have q:=bo.bX c;have C:=q _ _ _ s;obtain⟨bK,cap,rfl,-,w⟩:=hc;refine callsIn_of_wp func30 rfl trivial ?_ rfl;simp[vce];gi_wp2
 gi_loopw [7] (λp wr=>∃i:Nat,(i<=rs.length/\i<L)/\p=.I (i:Int)/\(∃D,J i D wr)/\cJ w0 wr/\Below w0.heap.size W wr) (λp _=>rs.length-(intOf p).toNat)
 case atStart=>exact⟨0,⟨vav _,aN⟩,rfl,⟨D,h0⟩,c,vaa _ _⟩
 case round=>
  obtain⟨i,⟨j7,g⟩,rfl,⟨m,N⟩,P,Q⟩:=hrel;have F:Hid (J i m wr):=N;have d:Hid (cJ w0 wr):=P;have tm:Hid (Below w0.heap.size W wr):=Q;clear N P Q;by_cases a:i<rs.length
  .obtain⟨b,off,rfl,pv,jH,u,d1,K,o⟩:=w i a;obtain⟨R,pc,rfl,-,-⟩:=id K;obtain⟨x,y,rfl,-,-⟩:=id o;have v:=bo.bX d.out;simp at u;have e0:=v _ _ _ u;have e1:=v _ _ _ d1;have ca:=ff e0;have Jf:Hid (i8 w0 (.slice x rs[i].2.length y) rs[i].2):=o;have Y:(i:Int)<(rs.length:Int):=AP;have zI:(0:Int)<=(i:Int):=AP;clear v u d1 w K o h0 c q C s;have k:cJ wr (wr.alloc (.cells #[.slice R rs[i].1.length pc,.slice x rs[i].2.length y] 76)):=(vaa _ wr).alloc JT _;obtain⟨fn,tmps,assign,body,Z,T⟩:=M i _ m _ (O _ _ _ _ F.out k) a g ⟨a,R,pc,x,y,rfl,Jf.out,bo.bX (d.out.trans (k.mono d.out.size))⟩;have H:Hid _:=k;have z:Hid (i<L):=g;clear M O k g;gi_wp2
   refine⟨λh=>Cm,T.mono ?_⟩;rintro e oH ⟨rfl,⟨V,A,-⟩,r⟩;clear T Z;have X:Hid _:=d.out.trans ((H.out.mono d.out.size).trans r);have I:Hid _:=tm.out.trans ((H.out.mono d.out.size).trans r);have U:Hid _:=A;clear A r;by_cases f:i+1=L
   .have hd:decide (i+1≠L)=false:=by simp[f]
    rw[hd];have j:Hid (i+1=L):=f;clear f hd;gi_wp2
    refine vbu (results_none rfl _ _ _) rfl ?_;exact⟨⟨_,rfl⟩,⟨V,by rw[vcc (by have:=j.out;omega),<-j.out];exact U.out⟩,I.out⟩
   .have hd:decide (i+1≠L)=true:=by simp[f]
    rw[hd];have j:Hid (¬i+1=L):=f;clear f hd;gi_wp2
    go_roundw
    case rel=>exact⟨i+1,⟨AP,by have:=j.out;have:=z.out;omega⟩,Ad,⟨V,U.out⟩,X.out,I.out⟩
    case measure=>simp[intOf];omega
  .have Y:¬(i:Int)<(rs.length:Int):=by omega
   have z:Hid (i<L):=g;clear w h0 c q C s g;gi_wp2
   go_end0
   have e:rs.length=i:=AP;rw[e,vcp (by have:=z.out;omega)];exact⟨⟨_,rfl⟩,⟨m,F.out⟩,tm.out⟩
structure hM(Y:ubm)(W W':aS):Prop where
 size:W.heap.size<=W'.heap.size
 cells:∀(b:Nat)(c:dp)(e:g4)(z:ubs),W.heap[b]?=some (Obj.cells c e z)->Y e->W'.heap[b]?=some (Obj.cells c e z)
variable{Y:ubm}
theorem hM.trans{A B C:aS}(h:hM Y A B)(k:hM Y B C):hM Y A C:=⟨vad h.size k.size,λb c e z x y=>k.cells b c e z (h.cells b c e z x y) y⟩
def hM.oR(h:jp W W'):hM Y W W':=⟨h.size,λb c e z x _=>h.cells b c e z x⟩
def hM.set{T:g4}(h:ai W b cs T)(a:¬Y T)(o:Nat)(v:Value):hM Y W (W.setCell ⟨b,o,none⟩ v):=
 ⟨BK,λk c e z x y=>by
  grind[ai,Below.heap_setCell]⟩
def anl(h:cJ W W'):KeepsOthers W W':=⟨h.size,λ_ _ x _=>(h.block _ (jE x)).trans x⟩
def Ac(Y:ubm)(n:Nat)(P:b4)(g:Nat)(lb:dp)(Row:uau)(N nZ:Nat)(w0:aS):Prop:=
 ∀(l:Nat)(S:dh)(J:ubo)(W:aS),Below nZ w0 W->nZ<=W.heap.size->(∀b,S b->b<W.heap.size)->(∀t W W',J t W->hM (λe=>¬Y e) W W'->(∀b,S b->W'.heap[b]?=W.heap[b]?)->J t W')->
  (∀t x W1,J t W1->t<N->Row t W1 x->nZ<=W1.heap.size->YieldAt Fence.wide (n-1) P l #[x] W1 λe W'=>e=.returned (.T)/\J (t+1) W'/\Below nZ W1 W'/\KeepsOthers W1 W'/\hM Y W1 W')->
  J 0 W->CallsIn Fence.wide n P g (#[.func (.yield l) #[] #[]]++lb) W λe W'=>(∃v,e=.returned v)/\J N W'/\Below nZ W W'
variable{N gf nZ:Nat}{w0:aS}{lb:dp}{assign body:Code}
def anm{g:uar}{p:Tmp}{a:Act}{Row:uau}(hg:a.eval g=.func (.func gf) #[] lb)(tb:∀args w,(callFunc gf args).run P w=.ok (.enter gf args) w)(H:Ac Y (n-1) P gf lb Row N nZ w0)(R:Below nZ w0 w)(hn:nZ<=w.heap.size)(I:ubo)(j:∀t W W',I t W->hM (λe=>¬Y e) W W'->I t W')(h0:I 0 w)(q:Nat->Value->Act->aS->Prop)(Q2:∀t x a' W W',q t x a' W->jp W W'->q t x a' W')(Q3:∀(l t:Nat)(x:Value)(W:aS)(K:uag),I t W->t<N->Row t W x->(∀a' W',cJ W W'->q t x a' W'->K a' W')->
  assign.wpIn (Fence.wide.inRound l) (n-1-1) P (Exit.then K (λ_ _ _=>False)) {tmps:=a.tmps.setIfInBounds p x,defers:=[]} W)(Bk:∀(l t:Nat)(x:Value)(a':Act)(W:aS),I t W->t<N->q t x a' W->nZ<=W.heap.size->body.wpIn (Fence.wide.inRound l) (n-1-1) P (λe _ W'=>e=.normal/\KeepsOthers W W'/\Below nZ W W'/\hM Y W W'/\I (t+1) W') a' W)(hdone:∀W,I N W->Below nZ w W->W.heap[w.heap.size]?=some (.deferred (some []))->Q .normal {a with defers:={target:=.collected w.heap.size,args:=#[]}::a.defers} W):
 (Code.rangeFunc g #[p] assign body).wpIn Fence.wide n P Q a w:=by
 refine wpIn_rangeFunc ?_;intro fn S;obtain⟨rec,C⟩:∃rec:LoopState->Loop,rec=λst=>{state:=st,pending:=none,fn,tmps:=a.tmps,params:=#[p],assign,body,defers:=w.heap.size}:=⟨_,rfl⟩;obtain⟨c,Q4⟩:∃c,(w.alloc (.deferred (some []))).alloc (.loop (rec .ready))=c:=⟨_,rfl⟩;have HL:c.heap[w.heap.size+1]?=some (.loop (rec .ready)):=by grind[World.alloc_heap_new,World.size_alloc]
 have Q5:c.heap[w.heap.size]?=some (.deferred (some [])):=by grind[Below.heap_alloc,World.alloc_heap_new]
 have A:cJ w c:=by rw[<-Q4];exact((vaa _ w).alloc JT _).alloc Ad _
 refine⟨w.heap.size+1,[{target:=.collected w.heap.size,args:=#[]}],c,{target:=.fn (.func gf) lb,args:=#[.func (.yield (w.heap.size+1)) #[] #[]]},c,gf,#[.func (.yield (w.heap.size+1)) #[] #[]]++lb,c,?_,?_,λ_ _=>trivial,?_,λh=>Cm,?_⟩
 .simp_all[run_enterLoop_outer]
 .simp only[resolve,hg];simp[go_sem]
 .grind[invoke]
 .refine(H (w.heap.size+1) (λb=>b=w.heap.size\/b=w.heap.size+1) (λt W=>I t W/\W.heap[w.heap.size+1]?=some (.loop (rec .ready))/\W.heap[w.heap.size]?=some (.deferred (some []))) c (R.trans (A.mono hn)) AA ?_ ?_ ?_ ⟨j _ _ _ h0 (.oR (jp.below A)),HL,Q5⟩).mono ?_
  .grind
  .grind
  .rintro t x W ⟨hi,f,hk⟩ i b9 L;have z:=run_yield (P:=P) (args:=#[x]) f AA;rw[C]at z;refine⟨fn,_,assign,body,z,roundIn_of_wpIn S ?_⟩;clear z;have Z:(#[p].zip #[x]).foldl (λtmps(u:Tmp×Value)=>tmps.setIfInBounds u.1 u.2) a.tmps=a.tmps.setIfInBounds p x:=Ad;refine Eq.mp (vcm (λT=>Code.wpIn (Fence.wide.inRound (w.heap.size+1)) (n-1-1) P assign _ {tmps:=T,defers:=[]} W) Z.symm) ?_;refine Q3 _ t x W _ hi i b9 ?_;intro a' D d Q7;have m:=(d.block _ (jE f)).trans f;have X:=(d.block _ (jE hk)).trans hk;refine⟨_,run_beginRound m AA,?_⟩;have M:(D.putObj (w.heap.size+1) (.loop {rec .ready with state:=.busy})).heap[w.heap.size+1]?=some (.loop {rec .ready with state:=.busy}):=vcz (jE m);have O:(D.putObj (w.heap.size+1) (.loop {rec .ready with state:=.busy})).heap[w.heap.size]?=some (.deferred (some [])):=(vat AP).trans X;refine wpIn_mono (Bk _ t x a' _ (j _ _ _ (j _ _ _ hi (.oR (jp.below d))) (.oR (jp.put m))) i (Q2 _ _ _ _ _ Q7 (.put m)) AA) ?_;rintro e bz J ⟨rfl,r,F,MY,E⟩;have s:=r.same _ _ M rfl;have Ie:=r.same _ _ O rfl;have U:=run_endRound (P:=P) none s;have jT:(J.putObj (w.heap.size+1) (.loop (rec .ready))).heap[w.heap.size+1]?=some (.loop (rec .ready)):=vcz (jE s);refine⟨_,_,U,rfl,⟨j _ _ _ E (.oR (jp.put s)),?_,(vat AP).trans Ie⟩,?_,⟨?_,λk o x y=>?_⟩,?_⟩
   .grind
   .exact((d.mono L).trans ((uq _ AP).trans F)).trans (uq _ AP)
   .have:=d.size;have:=r.size;simp at this⊢;omega
   .by_cases B:k=w.heap.size+1
    .grind
    .exact(vat B).trans (r.same _ _ ((vat B).trans ((d.block _ (jE x)).trans x)) y)
   .exact(((hM.oR (jp.below d)).trans (.oR (jp.put m))).trans MY).trans (.oR (jp.put s))
  .rintro e W2 ⟨⟨v,rfl⟩,⟨hi,f,hk⟩,V⟩;refine⟨none,_,by have:=run_endLoop (P:=P) f AA;rw[C]at this;exact this,hdone _ (j _ _ _ hi (.oR (jp.put f))) ?_ ((vat AP).trans hk)⟩;exact((A.mono hn).trans V).trans (uq _ AP)
def ann{m a l b:Nat}{f:uaj}{tmps:dp}{R:Ending->aS->Prop}(h:RoundIn Fence.wide m P l f tmps assign body w R):RoundIn (Fence.wide.inRound b) a P l f tmps assign body w R:=⟨h.1,λc cs _=>h.2 c cs (λd hd=>by simp[Fence.wide]at hd)⟩
section
theorem func29:(ae prog true).funcs[(29:Nat)]?=some f29:=bw (upd:=true) Tryz.func29 AJ
attribute [local go_sem] Oper.semAt_some
def ru(e:g4):Prop:=e=3\/e=90
def Ch(h:jp W W'){o:Nat}(hc:W.cell? (.a b o)=some v):W'.cell? (.a b o)=some v:=by
 have:∃c e z,W.heap[b]?=some (.cells c e z)/\c[o]?=some v:=by unfold World.cell? at hc;grind
 obtain⟨c,e,z,a,d⟩:=this;have:=h.cells _ _ _ _ a;grind[World.cell?]
theorem Ac.mono{Row d:uau}(h:Ac Y n P g lb Row N nZ w0)(o:∀t W x,t<N->Row t W x->d t W x):Ac Y n P g lb d N nZ w0:=
 λl S J W k j i f p m=>h l S J W k j i f (λt x e a b c=>p t x e a b (o t e x b c)) m
def Zv(J:ubo)(l f c hU rx a8 t:Nat)(D:dh)(V:aS):Prop:=(J (min c (t-f)) V/\ai V a8 #[.func (.yield l) #[] #[]] 90/\ai V (a8+1) #[.I (min t (f+c):Nat)] 3/\V.cell? (.a hU 0)=some (.I (f:Int))/\V.cell? (.a rx 0)=some (.I (c:Int)))/\∀b,¬D b
def ano(J:ubo)(l f c hU rx a8 nZ t:Nat)(V:aS)(e:Exit)(W':aS):Prop:=(e=if t+1=f+c+1 then .ret else .normal)/\KeepsOthers V W'/\Below nZ V W'/\Zv J l f c hU rx a8 (t+1) (λ_=>False) W'
def anp{Row:uau}(f c gD r o:Nat)(w0:aS)(hf:f<=1000000)(hc:c<=9223372036854775807)(ti:∀n,E4 False (f+c+1) n (ae prog true) gf lb Row N w0.heap.size w0)(tb:∀args w,(callFunc gf args).run (ae prog true) w=.ok (.enter gf args) w)(anq:∀t W x,Row t W x->∃p pl pc q k j,x=.agg #[.slice p pl pc,.slice q k j])(b9:∀t W W' x,jp W W'->Row t W x->Row t W' x)(a7:N<=1000000)(y:w0.cell? (.a gD 0)=some (.func (.func gf) #[] lb))(s:w0.cell? (.a r 0)=some (.I (f:Int)))(v:w0.cell? (.a o 0)=some (.I (c:Int))):
 Ac ru n (ae prog true) 29 #[.P gD 0,.P r 0,.P o 0] (λt=>Row (f+t)) (min c (N-f)) w0.heap.size w0:=by
 intro l S J W u F hS A jI h0;have B:=bo.bX u;have O:=B _ _ _ y;have H:=B _ _ _ s;have R:=B _ _ _ v;have xI:=ff O;refine callsIn_of_wp_marks func29 rfl trivial ?_;simp[vce];gi_wp2
 have g:cJ W ((W.alloc (.cells #[.func (.yield l) #[] #[]] 90)).alloc (.cells #[.I 0] 3)):=((vaa _ W).alloc JT _).alloc Ad _;refine XP (X:=False) (L:=f+c+1) (.inr ⟨rfl,rfl⟩) AP (n:=n) (gf:=gf) (lb:=lb) (w0:=w0) (nZ:=w0.heap.size) (N:=N) (Row:=Row) rfl tb (ti _) (u.trans (g.mono F)) Aq S (λb hs=>H9)
  (Zv J l f c r o W.heap.size)
  (λt D V tK⟨h,P⟩ hk hs=>⟨⟨A _ _ _ h.1 (.oR hk) hs,hk.cells _ _ _ _ h.2.1,hk.cells _ _ _ _ h.2.2.1,Ch hk h.2.2.2.1,Ch hk h.2.2.2.2⟩,P⟩) (λt D V h b u=>(h.2 b u).elim) (D0:=λ_=>False)
  ⟨⟨by simpa using A _ _ _ h0 (.oR (.below g)) (λb hs=>g.block b (hS b hs)),(ai.new W _ _).alloc _,by have:=ai.new (W.alloc (.cells #[.func (.yield l) #[] #[]] 90)) #[.I 0] 3;simp_all,Ch (.below g) H,Ch (.below g) R⟩,λ_ h=>h⟩
  (λt x a' V=>∃T p pl pc q k j,ai V T #[.slice p pl pc,.slice q k j] 76/\x=.agg #[.slice p pl pc,.slice q k j]/\Row t V x/\∃z,a'={tmps:=#[.func (.yield l) #[] #[],.P gD 0,.P r 0,.P o 0,.P W.heap.size 0,.P (W.heap.size+1) 0,.P T 0,.func (.func gf) #[] lb,z,.U,.U,.U,.U,.U,.U,.U,.U,.U,.U,.U,.U,.U,.U,.U,.U],defers:=[]})
  (λt x a' V tK h hk _=>by
   obtain⟨T,p,pl,pc,q,k,j,y,s,v,Y⟩:=h;exact⟨T,p,pl,pc,q,k,j,hk.cells _ _ _ _ y,s,AA,Y⟩)
  ?assign ?body ?done
 case assign=>
  rintro l' t x D V K- - -C hK;obtain⟨p,pl,pc,q,k,j,rfl⟩:=anq _ _ _ C;clear O H R y s v u B h0;gi_wp2
  have fo:cJ V (V.alloc (.cells #[.slice p pl pc,.slice q k j] 76)):=(vaa _ V).alloc JT _;exact hK _ _ fo ⟨V.heap.size,p,pl,pc,q,k,j,ai.new V _ _,rfl,b9 _ _ _ _ (.below fo) C,_,rfl⟩
 case body=>
  rintro l' t x a' D V ⟨⟨m,U,I,anr,MZ⟩,P⟩ hlt Ib ⟨T,p,pl,pc,q,k,j,cB,rfl,C,z,rfl⟩ nj;rw[vcp AP]at I;refine wpIn_mono (Q:=λe _ W'=>ano J l f c r o W.heap.size w0.heap.size t V e W') ?_ λe a W' h=>⟨h.1,h.2.1,h.2.2.1,_,h.2.2.2,False.elim⟩;obtain⟨c9,ed,ge⟩:=cB.all;obtain⟨jm,ml,n4⟩:=U.all;obtain⟨fx,g7,g8⟩:=I.all;have h_:=ff s;have Jh:=ff v;have ra:Hid _:=@A;have FI:Hid _:=hS;have Y:Hid _:=U;have aL:Hid _:=I;have Cj:Hid _:=anr;have FO:Hid _:=MZ;have SE:Hid _:=h_;have SF:Hid _:=Jh;have M:Hid _:=F;have SG:Hid _:=P;have ans:Hid _:=g;have uT:Hid (t<N/\t<f+c+1/\f<=1000000/\c<=9223372036854775807):=⟨hlt,Ib,hf,hc⟩;have hw:IntKind.wrap .i64 ((t:Int)-(f:Int))=(t:Int)-(f:Int):=EX;by_cases d:t=f+c
  .have n5:(c:Int)<=(t:Int)-(f:Int):=by omega
   have i:Hid (t=f+c):=d;have SH:Hid _:=m;clear O H R y s v u B h0 jI A hS U I m h_ Jh g F P d C;gi_wp2
   refine⟨by rw[vby (by have:=i.out;omega)],.refl _,vaa _ _,⟨⟨?_,Y.out,?_,Cj.out,FO.out⟩,λ_ h=>h⟩⟩
   .rw[show min c (t+1-f)=min c (t-f) by have:=i.out;omega];exact SH.out
   .rw[show min (t+1) (f+c)=t by have:=i.out;omega];exact aL.out
  .have n5:¬(c:Int)<=(t:Int)-(f:Int):=by omega
   have i:Hid (¬t=f+c):=d;by_cases Z:t<f
   .have ant:¬(f:Int)<=(t:Int):=by omega
    have M0:Hid (t<f):=Z;have SH:Hid _:=m;clear O H R y s v u B h0 jI A hS U I m h_ Jh g F P d C Z;gi_wp2
    refine⟨λf h=>(by cases h),?_⟩;gi_wp2
    have e1:(V.setCell ⟨W.heap.size+1,0,none⟩ (.I (t+1))).cell? (.a r 0)=V.cell? (.a r 0):=vdi (vaq _ _ _ _ (by have:=SE.out;have:=M.out;grind));have e2:(V.setCell ⟨W.heap.size+1,0,none⟩ (.I (t+1))).cell? (.a o 0)=V.cell? (.a o 0):=vdi (vaq _ _ _ _ (by have:=SF.out;have:=M.out;grind));refine⟨I5,vcv _ _ _,(vaa _ V).setCell (p:=⟨W.heap.size+1,0,none⟩) (by have:=M.out;grind) _,⟨⟨?_,ai.gx Y.out Ad _,?_,e1.trans Cj.out,e2.trans FO.out⟩,λ_ h=>h⟩⟩
    .rw[show min c (t+1-f)=min c (t-f) by have:=M0.out;omega];exact ra.out _ _ _ SH.out (hM.set aL.out (λh=>h J1) _ _) (λb hs=>vaq _ _ _ _ (by have:=FI.out b hs;grind))
    .rw[show min (t+1) (f+c)=t+1 by have:=M0.out;omega];have:=ai.set aL.out 0 (.I (t+1));grind
   .have ant:(f:Int)<=(t:Int):=by omega
    have M0:Hid (¬t<f):=Z;have E:=m;rw[show min c (t-f)=t-f by omega]at E;obtain⟨fn,tmps,assign,body,hy,bC⟩:=jI (t-f) _ _ E AP (by rw[show f+(t-f)=t by omega];exact C) nj;clear O H R y s v u B h0 jI A hS U I m E h_ Jh g F P d C Z;gi_wp2_with (refine⟨λh=>Cm,(ann bC).mono ?_⟩;rintro e oH ⟨rfl,zP,jG,SI,Ck⟩;have c4:ai oH W.heap.size _ _:=Ck.cells _ _ _ _ Y.out KK;have ry:ai oH (W.heap.size+1) _ _:=Ck.cells _ _ _ _ aL.out J1;obtain⟨u1,u2,u3⟩:=ry.all)
    have k2:=jG.block;have e1:(oH.setCell ⟨W.heap.size+1,0,none⟩ (.I (t+1))).cell? (.a r 0)=V.cell? (.a r 0):=vdi ((vaq _ _ _ _ (by have:=SE.out;have:=M.out;grind)).trans (jG.block _ SE.out));have e2:(oH.setCell ⟨W.heap.size+1,0,none⟩ (.I (t+1))).cell? (.a o 0)=V.cell? (.a o 0):=vdi ((vaq _ _ _ _ (by have:=SF.out;have:=M.out;grind)).trans (jG.block _ SF.out));refine⟨I5,SI.trans (vcv _ _ _),jG.setCell (by have:=M.out;grind) _,⟨⟨?_,c4.gx Ad _,?_,e1.trans Cj.out,e2.trans FO.out⟩,λ_ h=>h⟩⟩
    .rw[show min c (t+1-f)=t-f+1 by have:=M0.out;have:=i.out;have:=uT.out;omega];exact ra.out _ _ _ zP (hM.set ry (λh=>h J1) _ _) (λb hs=>vaq _ _ _ _ (by have:=FI.out b hs;grind))
    .rw[show min (t+1) (f+c)=t+1 by have:=i.out;have:=uT.out;omega];have:=ry.set 0 (.I (t+1));grind
 case done=>
  rintro D V ⟨⟨m,-⟩,-⟩ hB hK;clear O H R y s v;rw[show min c (min N (f+c+1)-f)=min c (N-f) by omega]at m;by_cases d:f+c+1<=N
  .rw[vby d];have i:Hid _:=d;clear d;gi_wp2
   refine⟨Ad,.inl ⟨_,_,rfl,run_takeDeferred hK,?_⟩⟩;refine⟨.tuple #[],by simp[results,results29,go_sem],⟨_,rfl⟩,A _ _ _ m (.oR (E6 hK)) (λb hs=>vat H9),((g.mono F).trans hB).trans (uq _ Aq)⟩
  .rw[vbq d];have i:Hid _:=d;clear d;gi_wp2
   refine⟨Ad,.inl ⟨_,_,rfl,run_takeDeferred hK,?_⟩⟩;refine⟨.tuple #[],by simp[results,results29,go_sem],⟨_,rfl⟩,A _ _ _ m (.oR (E6 hK)) (λb hs=>vat H9),((g.mono F).trans hB).trans (uq _ Aq)⟩
end
def oS(k:Int)(D:Nat->cR)(n:Nat):List Value:=if k=3 then []else(List.range n).map λr=>.I (D r).num
def oT(k:Int)(D:Nat->cR)(n:Nat):List Value:=if k=3 then(List.range n).map λr=>.string (D r).text else []
def sF(D:Nat->cR)(n:Nat):List Value:=(List.range n).map λr=>.bool (D r).dH
def anu(k:Int)(D:Nat->cR)(n:Nat):(oS k D n).length<=n:=by grind[oS]
def anv(k:Int)(D:Nat->cR)(n:Nat):(oT k D n).length<=n:=by grind[oT]
def anw(D:Nat->cR)(n:Nat):(sF D n).length=n:=by simp[sF]
theorem Zw(D:Nat->cR)(n:Nat):sF D (n+1)=sF D n++[.bool (D n).dH]:=by simp[sF,vcq]
variable{k:Int}
theorem anx(h:k≠3)(D:Nat->cR)(n:Nat):oS k D (n+1)=oS k D n++[.I (D n).num]:=by simp[oS,vcq,h]
theorem anz(h:k=3)(D:Nat->cR)(n m:Nat):oS k D n=oS k D m:=by simp[oS,h]
theorem anA(h:k=3)(D:Nat->cR)(n:Nat):oT k D (n+1)=oT k D n++[.string (D n).text]:=by simp[oT,vcq,h]
theorem anB(h:k≠3)(D:Nat->cR)(n m:Nat):oT k D n=oT k D m:=by simp[oT,h]
structure uY(l:uac)(D:Nat->Nat->cR)(m:uas)(L:List e5)(cs:dp):Prop where
 size:cs.size=l.length*5
 tP:∀i(h:i<l.length),∃bj vs aY,cs[i*5]?=some (.I l[i].1)/\cs[i*5+1]?=some (.I l[i].2)/\cs[i*5+2]?=some bj/\cs[i*5+3]?=some vs/\cs[i*5+4]?=some aY/\
  L[3*i]?=some ⟨2,bj,oS l[i].1 (D · i) (m i)⟩/\L[3*i+1]?=some ⟨9,vs,oT l[i].1 (D · i) (m i)⟩/\L[3*i+2]?=some ⟨4,aY,sF (D · i) (m i)⟩
 Cl:∀i(h:i<L.length),L[i].e=2\/L[i].e=9\/L[i].e=4
def M1(h:∀i(h:i<L.length),L[i].e=2\/L[i].e=9\/L[i].e=4)(q:Nat)(x:e5)(a:x.e=2\/x.e=9\/x.e=4):∀i(h:i<(L.set q x).length),(L.set q x)[i].e=2\/(L.set q x)[i].e=9\/(L.set q x)[i].e=4:=by grind
def wI(m:uas)(i j:Nat):Nat:=if j=i then m j+1 else m j
theorem anC(m:uas)(i:Nat):wI m i i=m i+1:=by simp[wI]
def anD(m:uas)(h:j≠i):wI m i j=m j:=by simp[wI,h]
def M3{r:e5}(h:L[i]?=some r):i<L.length:=(vab.1 h).1
theorem uY.wI{l:uac}{D:Nat->Nat->cR}{m:uas}(h:uY l D m L cs)(hi:i<l.length){a:List e5}{bj:Value}(t:∀q,q≠3*i->q≠3*i+1->q≠3*i+2->a[q]?=L[q]?)(ht:∀i(h:i<a.length),a[i].e=2\/a[i].e=9\/a[i].e=4)(h0:a[3*i]?=some ⟨2,bj,oS l[i].1 (D · i) (m i+1)⟩)(v:a[3*i+1]?=some ⟨9,vs,oT l[i].1 (D · i) (m i+1)⟩)(u:a[3*i+2]?=some ⟨4,aY,sF (D · i) (m i+1)⟩):
 uY l D (wI m i) a (rr cs i (.I l[i].1) (.I l[i].2) bj vs aY):=by
 refine⟨by simp[rr];exact h.size,λj n=>?_,ht⟩;by_cases e:j=i
 .subst e;have s:=h.size;obtain⟨b,a1,d,c,f⟩:=Zt (cs:=cs) (k:=j) (.I l[j].1) (.I l[j].2) bj vs aY AP;grind[anC]
 .rw[anD m e];obtain⟨o,g,wn,b,a1,d,c,f,w,r,p⟩:=h.tP j n;refine⟨o,g,wn,(wH (i:=0) _ _ _ _ _ e AX).trans b,(wH _ _ _ _ _ e AX).trans a1,(wH _ _ _ _ _ e AX).trans d,(wH _ _ _ _ _ e AX).trans c,(wH _ _ _ _ _ e AX).trans f,?_,?_,?_⟩
  .grind
  .grind
  grind
def anE{l:uac}{D:Nat->Nat->cR}{m:uas}(h:uY l D m L cs)(d:eU B w L)(r:B<=w.heap.size)(hi:i<l.length)(C:m i<=1000)(ht:(D (m i) i).text.size<=1000000){bj:Value}(u:cs[i*5+2]?=some bj)(t:cs[i*5+3]?=some vs)(s:cs[i*5+4]?=some aY):
 Calls (ae prog true) 32 #[.agg #[.I l[i].1,.I l[i].2,bj,vs,aY],oI (D (m i) i)] w λe w'=>∃j n0 di a1 n1 c1 a ey bH q,e=.returned (.agg #[.I l[i].1,.I l[i].2,.slice j n0 di,.slice a1 n1 c1,.slice a ey bH])/\eU B w' q/\
  uY l D (wI m i) q (rr cs i (.I l[i].1) (.I l[i].2) (.slice j n0 di) (.slice a1 n1 c1) (.slice a ey bH))/\qt L w w':=by
 obtain⟨J,x,wn,j,a1,a,o,p,f,b,n⟩:=h.tP i hi;rw[u]at a;cases a;rw[t]at o;cases o;rw[s]at p;cases p;obtain⟨A,y,rfl⟩:=h9 (show w.ownsRow B 2 1 bj (oS l[i].1 (D · i) (m i)).length _ from d.at f);obtain⟨z,H,rfl⟩:=h9 (show w.ownsRow B 9 1 vs (oT l[i].1 (D · i) (m i)).length _ from d.at b);have l0:=anu l[i].1 (D · i) (m i);have l1:=anv l[i].1 (D · i) (m i);have l2:=anw (D · i) (m i);have I:=M3 f;have v:=M3 b;have K:=M3 n;refine(anf d r f b n l[i].1 l[i].2 (D (m i) i) ht AA).mono ?_;rintro e w' ⟨⟨g,c,F,E,⟨hk,rfl,k⟩|⟨hk,rfl,k⟩⟩,hF⟩
 .refine⟨_,_,_,_,_,_,_,_,_,_,rfl,k,h.wI hi ?_ ?_ ?_ ?_ ?_,hF⟩
  .grind
  .exact M1 (M1 h.Cl _ _ AA) _ _ J1
  .grind[anx]
  .grind[anB]
  grind[Zw]
 .refine⟨_,_,_,_,_,_,_,_,_,_,rfl,k,h.wI hi ?_ ?_ ?_ ?_ ?_,hF⟩
  .grind
  .exact M1 (M1 h.Cl _ _ AA) _ _ AA
  .grind[anz]
  .grind[anA]
  grind[Zw]
def M4(h:eU B W L)(a:∀c e z,W.heap[b]?=some (.cells c e z)->∀i(h:i<L.length),L[i].e≠e):h5 L b:=by
 intro i hi hg;rcases(h.own i hi).2 with⟨hn,-⟩|⟨g,cap,bd,hv,-,hc,-⟩
 .rw[hn]at hg;cases hg
 .rw[hv]at hg;cases hg;grind
def anF(h:qt L w w')(a:eU B w L):KeepsOthers w w':=
 ⟨h.size,λk o x y=>(h.block k (jE x) (M4 a λc e z hc=>by rw[x]at hc;cases hc;cases y)).trans x⟩
def anG(h:qt L w w')(a:eU B w L)(d:∀i(h:i<L.length),¬Y L[i].e):hM Y w w':=
 ⟨h.size,λb c e z x y=>(h.block b (jE x) (M4 a AA)).trans x⟩
def anH(h:qt L w w')(a:eU B w L)(hn:n<=B)(hs:n<=w.heap.size):Below n w w':=
 ⟨h.os,h.tape,h.output,h.size,λk hk=>h.block k AP (a.nA AA)⟩
end cq
namespace cI
open Conc ConcN ConcM bp ag fq
section
section
variable{Shun:uam}{B n:Nat}{t:Trace}{p:kq}
def arO(h:mU Shun B 0 n t)(hn:p.n=n)(q:p.base=n)(hsz:p.size=B)(z:p.tok=none)(w:L3 p)(hK:∀b,p.K b\/p.mine 0 b->∀l,fg l=some b->¬Shun l)(y:∀j b,j≠0->¬p.mine j b)(hg:∀l,p.gS l\/p.eZ l->¬Shun l):eo p t:=by
 have o:∀j,p.bd j->j=0:=λj d=>by
  rcases d with⟨A,v|v⟩
  .exact v
  grind
 have aD:∀{i:Nat}{a:Touch},touchAt t i=some a->a.loc.isMemory=true->¬Shun a.loc->Knows t 0 i:=λg m hs=>(h.known _ _ g m).elim id AA;have x:∀{i:Nat}{a:Touch}{b:Nat},touchAt t i=some a->fg a.loc=some b->p.K b\/p.mine 0 b->Knows t 0 i:=λg f q=>aD g (Fb f) (hK _ q _ f);refine⟨λi a c m cX=>.inr ⟨λu=>hg _ (.inl u) (h.n6 i a c m cX),λb f=>⟨λhk=>hK b (.inl hk) _ f (h.n6 i a c m cX),λj d=>?_⟩⟩,λi op hi=>by rw[hn];exact h.gs op (vbf hi),λi a b c f=>?_,λi a b c _ f hk j d=>?_,λj i a b d c f C=>?_,AA,λ_ i a c u=>.inl λj d=>?_,λi a c hs=>.inr (.inr λj d=>?_),λi a g=>?_,h.Jj,λi j d _ hc=>.inl ?_⟩
 .by_cases e:j=0
  .subst e;exact hK b (.inr d) _ f (h.n6 i a c m cX)
  grind
 .rw[hsz];exact h.low i a b c f
 .grind
 .grind
 .rw[o j d];exact aD c (w.gS _ u) AA
 .rw[o j d];exact aD c (w.eZ _ hs) (hg _ (.inr hs))
 .unfold Trace.act? at g;obtain⟨op,s,r⟩:=vaj.1 g;exact h.qd op (vbf s) a r
 .by_cases e:j=0
  .grind[Trace.g?,knows_own]
  .obtain⟨k,hk,q⟩:=h.over i j d e hc;unfold Trace.g? at hk;obtain⟨op,s,r⟩:=vaj.1 hk;exact⟨k,op,s,r,.inr q⟩
end
section
variable{c:dD}
def Gs(c:dD)(gs:uax)(t:Trace)(q:uas)(l0:ag.Lo At)(g:uah)(w:aS)(M:dh)(j:Nat):cr (am (az c)):=
 if j=0 then⟨g,l0,⟨g,w,M⟩,0⟩else⟨gs.getD j default,(⟨.idle,false,Deaf t j,0,.old⟩:ag.Lo At),⟨gs.getD j default,w,λ_=>False⟩,q j⟩
def oq(c:dD)(gs:uax)(t:Trace)(q:uas)(l0:ag.Lo At)(g:uah)(w:aS)(M:dh):List (cr (am (az c))):=(List.range gs.size).map (Gs c gs t q l0 g w M)
variable{gs:uax}{t:Trace}{q:uas}{l0:ag.Lo At}{g:uah}{w:aS}{M:dh}
def vB{j:Nat}{r:cr (am (az c))}(h:(oq c gs t q l0 g w M)[j]?=some r):j<gs.size/\r=Gs c gs t q l0 g w M j:=by unfold oq at h;grind
theorem Gt:(oq c gs t q l0 g w M).length=gs.size:=by simp[oq]
def arP(h:0<gs.size):(oq c gs t q l0 g w M)[0]?=some (⟨g,l0,⟨g,w,M⟩,0⟩:cr (am (az c))):=by unfold oq;rw[vbd,List.getElem?_range h];rfl
theorem DS{j:Nat}(h:j≠0):Gs c gs t q l0 g w M j=⟨gs.getD j default,(⟨.idle,false,Deaf t j,0,.old⟩:ag.Lo At),⟨gs.getD j default,w,λ_=>False⟩,q j⟩:=by unfold Gs;grind
def arQ(h0:gs[0]?=some g):kr (am (az c)) (oq c gs t q l0 g w M)=gs:=by
 apply vdb;intro j;rw[BM];cases a:(oq c gs t q l0 g w M)[j]? with
 |none=>grind[Gt]
 |some r=>
  obtain⟨b,rfl⟩:=vB a;by_cases e:j=0
  .subst e;rw[h0];rfl
  simp_all[DS]
theorem T7{f:bU->Nat}(b:f .idle=0):∀(xs:List bU),(∀x∈xs,x=.idle)->ag.aR f xs=0
 | [],_=>rfl
 |a::xs,h=>by have d:=h a Ad;subst d;have c:=T7 b xs AA;simp only[ag.aR,vdg,List.sum_cons,b]at c⊢;omega
def arR:∀(xs:uaa)(a:Nat),xs[0]?=some a->(∀j x,j≠0->xs[j]?=some x->x=0)->xs.sum=a
 | [],a,h,_=>AA
 |b::xs,a,h,d=>by
  simp at h;subst h;have:∀(c:uaa),(∀x∈c,x=0)->c.sum=0:=by intro c;induction c with|nil=>grind|cons y c f=>simp_all
  have:=this xs (λx e=>by
   obtain⟨j,g⟩:=List.mem_iff_getElem?.1 e;exact d (j+1) x AP AA)
  grind
def arS{f0 v:Nat}{b0:co}(H:l0=⟨.idle,false,0,f0,.main (.spawn 0 false)⟩)(y:0<gs.size)(hn:gs.size=c.rows c.N)(eK:gs.size<=c.most)(b:b0.aR=0/\b0.eg=false/\b0.gp=0/\b0.taken=0/\b0.came=0/\(b0.done.length=c.N/\∀p,p<c.N->b0.done[p]?=some (.N))/\b0.least=none):
 (am (az c)).pD (⟨⟨false,false,false,0,0,v⟩,f0+c.C*c.N,b0⟩:ag.aO co) ((oq c gs t q l0 g w M).map (·.l)):=by
 have get:∀{j:Nat}{l:ag.Lo At},((oq c gs t q l0 g w M).map (·.l))[j]?=some l->(j=0/\l=l0)\/(j≠0/\l=⟨.idle,false,Deaf t j,0,.old⟩):=by
  intro j l h;rw[vbd]at h;obtain⟨r,A,rfl⟩:=vaj.1 h;obtain⟨u,rfl⟩:=vB A;by_cases e:j=0
  .subst e;exact .inl ⟨rfl,rfl⟩
  grind[DS]
 have D:((oq c gs t q l0 g w M).map (·.l))[0]?=some l0:=by rw[vbd,arP y];rfl
 have m:∀{j:Nat}{a:At},(((oq c gs t q l0 g w M).map (·.l)).map (·.al))[j]?=some a->(j=0/\a=.main (.spawn 0 false))\/(j≠0/\a=.old):=by grind
 have zero:∀(f:At->Nat),f (.main (.spawn 0 false))=0->f .old=0->c3 f (((oq c gs t q l0 g w M).map (·.l)).map (·.al))=0:=λf u B=>
  Mo f _ λi x z=>AA
 have idle:∀x∈((oq c gs t q l0 g w M).map (·.l)).map (·.mx),x=.idle:=by grind[List.mem_iff_getElem?]
 have ci:=λf n=>T7 (f:=f) n _ idle;refine⟨⟨?_,λ_=>?_,AA,λe=>?_,λi E o hi=>?_⟩,⟨λk p hk=>?_,λs hs=>.inl ?_,⟨.spawn 0 false,?_,b.2.1,b.2.2.1,zero _ rfl rfl,zero _ rfl rfl⟩,λj s d=>?_,?_,AA,⟨b.2.2.2.2.2.1.1,λp _ h=>b.2.2.2.2.2.1.2 p h⟩,λp=>?_,λj a d pv C _=>?_,?_,λ⟨j,a,d,n⟩=>?_⟩,?_,λi l hi ht=>?_,λi l hi _=>?_,?_⟩
 .exact ci _ rfl
 .exact⟨by rw[ci gn rfl,ci dR rfl];rfl,ci _ rfl,ci _ rfl,by rw[ci fD rfl,ci dR rfl];rfl⟩
 .exact absurd e.2.2.2 AA
 .grind
 .grind[Gt]
 .grind
 .grind
 .grind
 .rw[b.1];exact(zero _ rfl rfl).symm
 .grind[dt,hand,nw]
 .rcases m d with⟨_,rfl⟩|⟨_,rfl⟩<;>simp[laid]at C
 .have:∀k,jb (λp=>c3 (du p) (((oq c gs t q l0 g w M).map (·.l)).map (·.al))*c.rows p) k=0:=λk=>by induction k with|zero=>rfl|succ k F=>grind[fq.jb,du,nw]
  refine⟨AA,λq e=>?_,λp _ h=>?_⟩
  .rw[b.2.2.2.2.2.2]at e;cases e
  .exact absurd (zero (du p) rfl rfl) (Nat.ne_of_gt h)
 .rcases m d with⟨_,rfl⟩|⟨_,rfl⟩<;>simp[fq.xR]at n
 .have u:(((oq c gs t q l0 g w M).map (·.l)).map (·.fuel)).sum=f0:=by refine arR _ _ AA λj x d z=>?_;grind
  have B:qh ⟨false,false,false,0,0,v⟩ (((oq c gs t q l0 g w M).map (·.l)).map (·.mx))=0:=by unfold qh;rw[ci dR rfl,ci ep rfl]
  grind
 .grind
 .grind
 grind[Gt]
end
end
section
open ax jd
section
variable{c:dD}{P:b4}{cW:uaf}{SM:ag.Lo At->aV->Prop}
def DT(c:dD)(P:b4)(cW:uaf)(SM:ag.Lo At->aV->Prop):Bool->ag.Lo At->aV->Prop
 |true,l,X=>SM l X
 |false,l,X=>(l.al=.old/\∃k,QuitsD P k l.deaf X.g)\/∃q f,l=⟨.idle,false,1,f,.gone q⟩/\(∃k,QuitsD P k 1 X.g)/\oe c cW q X.mine X.w
def arT:∀(l:ag.Lo At) X,DT c P cW SM false l X->(am (az c)).Left l/\∃n,QuitsD P n ((am (az c)).deaf l) X.g:=by
 rintro l X (⟨b,a⟩|⟨q,f,rfl,a,_⟩)
 .grind[qk]
 .exact⟨PJ,a⟩
def arU{gs:uax}{t:Trace}{q:uas}{g:uah}{w:aS}{M:dh}{Shun:uam}{f0 v:Nat}{b0:co}(h0:gs[0]?=some g)(hrun:g.status=.running)(D:Leavers P t gs q)(x:mU Shun w.heap.size 0 gs.size t)(hn:gs.size=c.rows c.N)(eK:gs.size<=c.most)(d:b0.aR=0/\b0.eg=false/\b0.gp=0/\b0.taken=0/\b0.came=0/\(b0.done.length=c.N/\∀p,p<c.N->b0.done[p]?=some (.N))/\b0.least=none)(A:w.heap[c.st]?=some (hH (az c) ⟨false,false,false,0,0,v⟩ b0)/\(az c).n_ b0 w)(y:∀b,M b->¬(am (az c)).gT b/\¬c.K b)(o:∀b,M b\/c.K b\/(am (az c)).gT b->b<w.heap.size/\∀l,fg l=some b->¬Shun l)(ht:bg (am (az c)) P (DT c P cW SM) true ⟨.idle,false,0,f0,.main (.spawn 0 false)⟩ ⟨⟨false,false,false,0,0,v⟩,f0+c.C*c.N,b0⟩ ⟨g,w,M⟩):
 Inv (am (az c)) P (DT c P cW SM) gs.size (oq c gs t q ⟨.idle,false,0,f0,.main (.spawn 0 false)⟩ g w M) ⟨⟨false,false,false,0,0,v⟩,f0+c.C*c.N,b0⟩ w t:=by
 have z:0<gs.size:=(vas.1 h0).1;have G:=da (bR c);refine⟨λj r a=>?_,arS rfl z hn eK d,A,λj r a=>?_,λj r a b n=>?_,λj k r s a hk B b i u=>?_,AA,λj r a E _=>?_,⟨none,λj r a=>?_,?_⟩,by grind[Gt]⟩
 .obtain⟨i,rfl⟩:=vB a;by_cases e:j=0
  .subst e;exact .runs rfl hrun ht Ad x.hears rfl Kx
  .have C:(j==0)=false:=by simp[e]
   rw[DS e,C];have hq:=D.old j (gs.getD j default) AP BK;exact .leaves rfl hq trivial (.inl ⟨rfl,_,hq⟩)
 .obtain⟨i,rfl⟩:=vB a;unfold Gs;split<;>exact⟨⟨λ_ _=>rfl,vac _,.refl _⟩,.refl _,rfl,rfl⟩
 .obtain⟨i,rfl⟩:=vB a;by_cases e:j=0
  .subst e;exact⟨(y b n).1,(y b n).2,(o b (.inl n)).1⟩
  grind[DS]
 .obtain⟨_,rfl⟩:=vB a;obtain⟨_,rfl⟩:=vB hk;grind[DS]
 .obtain⟨_,rfl⟩:=vB a;rw[DS E];exact⟨PJ,λb h=>h⟩
 .obtain⟨_,rfl⟩:=vB a;grind[Gs]
 .refine arO x Gt rfl rfl rfl (Ye G _ _ _ _) (λb d=>(o b ?_).2) (λj b a F=>?_) (λl f=>?_)
  .rcases d with d|⟨r,m,d⟩
   .exact .inr (.inl d)
   .obtain⟨_,rfl⟩:=vB m;exact .inl d
  .obtain⟨r,m,d⟩:=F;obtain⟨_,rfl⟩:=vB m;grind[DS]
  .rcases f with f|f
   .obtain⟨b,i,u⟩:=G.Fe l f;grind
   .obtain⟨b,i,u⟩:=G.BD l f;grind
end
section
variable{P:b4}{Post:uab}{p:kq}{g g1:uah}{w:aS}
def Gu(p:kq)(l:Loc):Prop:=p.eZ l\/(X4 p l/\∃b,fg l=some b/\b<p.size)
theorem arV{t:Trace}(f:eo p t)(hk:∀i j,t.g? i=some j->p.past j->t.counts i->Knows t 0 i)(r:∀j,j≠0->j<p.n->p.past j)(hd:Deaf t 0=0):mU (Gu p) p.size 0 p.n t:=by
 have n6:∀i a,touchAt t i=some a->a.loc.isMemory=true->a.kind=.atomic->Gu p a.loc:=λi a n m hk=>by obtain⟨b,g⟩:=ajY m;exact(f.n6 i a n m hk).imp id λhn=>⟨hn,b,g,f.low i a b n g⟩
 have l:∀{i:Nat}{op:MemOp},t[i]?=some op->op.g≠0->p.past op.g:=λh d=>r _ d (f.gs _ _ h);refine⟨λop c=>?_,λop c a e=>?_,n6,f.xM,λi a n m=>?_,λi j q d hc=>?_,hd,f.low⟩
 .obtain⟨i,hi⟩:=Array.mem_iff_getElem?.1 c;exact f.gs i op hi
 .obtain⟨i,hi⟩:=Array.mem_iff_getElem?.1 c;exact f.qd i a (by grind[Trace.act?])
 .obtain⟨op,o,u⟩:=touch_of n;by_cases e:op.g=0
  .grind[knows_own]
  .by_cases s:a.kind=.atomic
   .grind
   .exact .inl (hk i op.g H_ (l o e) ⟨a,by grind[Trace.act?],m,.inl s⟩)
 .unfold Trace.g? at q;obtain⟨op,o,rfl⟩:=vaj.1 q;obtain⟨k,z,w,v,g⟩:=hk i op.g H_ (l o d) hc;refine⟨k,H_,?_⟩;rcases g with rfl|g
  .grind
  grind
def arW(hs:g.status=.running)(hstep:∀w,stepG P true g w=.go g1 w #[⟨.mark (.acquire p.wg),false,true⟩])(E:∀j,j≠0->j<p.n->p.past j)(hsz:w.heap.size=p.size)(u:∀k,bP P Post p.n (Gu p) 0 g1 (w.at k)):
 ∀(M:Nat)(gs:uax)(sl:ubb)(q:uas)(t:Trace)(a:Nat),sumTo gs.size q<=M->gs.size=p.n->gs[0]?=some g->Leavers P t gs q->eo p t->Deaf t 0=0->l9 P Post (crowd gs (w.at a) sl) t:=by
 have own:∀(gs:uax)(sl sl':ubb)(q:uas)(t:Trace)(a k:Nat),stepT P (crowd gs (w.at a) sl)=runT P (crowd gs (w.at k) sl') 0->gs.size=p.n->gs[0]?=some g->Leavers P t gs q->eo p t->Deaf t 0=0->l9 P Post (crowd gs (w.at a) sl) t:=by
  intro gs sl sl' q t a k hst hn h0 b c hd;have n:=runT_crowd_go (P:=P) (sl:=sl') (i:=0) h0 (show stepG P (0==0) g (w.at k)=_ from hstep _);have d:0<gs.size:=(vas.1 h0).1;have F:=L9 0 g.frame.fn g.frame.place (.acquire p.wg);obtain⟨D,hk⟩:=c.aj6 (y:=({g:=0,fn:=g.frame.fn,pos:=g.frame.place,act:=.mark (.acquire p.wg)}:MemOp)) rfl AP rfl hd;have H:Deaf (t++MemOp.ofEvents 0 g.frame.fn g.frame.place #[⟨.mark (.acquire p.wg),false,true⟩]) 0=0:=by rw[Deaf_own,hd];rfl
  have L:mU (Gu p) p.size 0 p.n (t++MemOp.ofEvents 0 g.frame.fn g.frame.place #[⟨.mark (.acquire p.wg),false,true⟩]):=by grind[arV,Ff]
  refine l9.step (hst.trans n) (u k _ _ q _ AA AA ⟨λj x m l=>?_,λj m=>?_⟩ (by rw[show(w.at k).heap.size=p.size from hsz];grind))
  .have f:0≠j:=by omega
   rw[vdw f,vcj]at l;obtain⟨y,r,rfl⟩:=vaj.1 l;have hq:=b.old j y m r;grind[woken_quitsD,Co]
  .rw[Co _ _ _ _ AA];exact b.above j AA
 intro M;induction M with
 |zero=>
  intro gs sl q t a C hn h0 b c hd;obtain⟨i,v,k,sl',hi,hg,hst⟩:=crowd_pick (P:=P) (w:=w.at a) (sl:=sl) (FR b h0 hs) AA;rcases vbl i with rfl|e
  .exact own gs sl sl' q t a k hst hn h0 b c hd
  .obtain⟨gs',h,fn,pos,es,_,_,_,_,_,d⟩:=SL (w:=w) (k:=k) (sl':=sl') b h0 hs e hi hg;omega
 |succ M o=>
  intro gs sl q t a C hn h0 b c hd;obtain⟨i,v,k,sl',hi,hg,hst⟩:=crowd_pick (P:=P) (w:=w.at a) (sl:=sl) (FR b h0 hs) AA;rcases vbl i with rfl|e
  .exact own gs sl sl' q t a k hst hn h0 b c hd
  .obtain⟨gs',h,fn,pos,es,B,K,A,z,J,I⟩:=SL (w:=w) (k:=k) (sl':=sl') b h0 hs e hi hg;have d:i<gs.size:=(vas.1 hi).1;refine l9.step (hst.trans B) (o gs' sl' h _ k AP AP A z ?_ ?_)
   .exact eo.mute (p:=p) (i:=i) AP fn pos es.toList c AA
   .rw[Deaf_other t (g':=i) AP _ (λop s=>DZ)];exact hd
end
end
section
open ax jd
section
variable{c:dD}{P:b4}{Post:uab}{cW:uaf}
structure JZ(c:dD)(cW:uaf)(c5:Nat)(M:dh)(w0:aS)(n':Nat)(bJ:uam)(M':dh)(D:uad)(w':aS):Prop where
 n:n'<=c.most
 DU:∀b,M' b\/w'.heap.size<=b->∀l,fg l=some b->¬bJ l
 arX:∀off sp,2<=off->¬bJ (.cell ⟨c.st,off,sp⟩)
 arY:bJ (.cell ⟨c.st,0,none⟩)/\bJ (.cell ⟨c.st,1,none⟩)
 sub:∀b,M b\/c.K b\/b=c.cP->M' b
 low:∀b,M' b\/b=c.st->b<w'.heap.size
 T8:¬M' c.st
 len:D.length=c.N
 done:w'.heap[c.cP]?=some (.cells D.toArray c.Fq)
 st:∃T m L,w'.heap[c.st]?=some (.cells #[.int .i32 0,.int .u32 0,c.size,c.zZ,.I ((T:Nat):Int),.I ((m:Nat):Int),c.xU,L.elim c.least c.place] c.Ms)/\(∀q,L=some q->c.cj q=true/\q<c.N)/\∀p,p<c5->c.cj p=true->∃q,L=some q/\q<=p
 stands:∀b,c.K b\/M b->w'.heap[b]?=w0.heap[b]?
 size:w0.heap.size<=w'.heap.size
 os:OsLater w0.os w'.os
 output:w'.output=w0.output
 tape:w'.tape=w0.tape
 FT:∀p,p<c5->c.cj p=false->∃v,D[p]?=some v/\cW p v M' w'
 arZ:∀p,c5<=p->p<c.N->D[p]?=some (.N)
 aT:c5<=c.N/\(c5=c.N\/300<jb c.rows c5)
def J0(c:dD)(P:b4)(M:dh)(w0:aS)(me:Goroutine->Prop)(l:ag.Lo At)(X:aV):Prop:=
 (l.mx=.idle/\l.deaf=0/\l.al=.main .over)/\(∃g1,(∀w,stepG P true X.g w=.go g1 w #[⟨.mark (.acquire ⟨c.wg,0,none⟩),false,true⟩])/\∃g',me g'/\∃k,∀w,Goes P true (λ_ _=>True) Go.ConcR.DC0 (λg2 _=>g2=g') k g1 w)/\ah (am (az c)) M w0 X.w/\∀b,M b->X.mine b
def ar0{m:bk}{xs:List bU}(h:dl m xs)(hi:∀x∈xs,x=.idle):m.L=false/\m.W=false/\m.S=false/\m.k=0/\m.sema=0:=by
 have ci:=λf a=>T7 (f:=f) a _ hi;have c:=h.o;rw[ci _ rfl]at c;have d:m.L=false:=AA;have hS:m.S=false:=by cases hs:m.S with
  |false=>rfl
  |true=>have:=h.st hs;rw[ci fD rfl,ci fp rfl]at this;omega
 have b:=h.nm hS;rw[ci gn rfl,ci dR rfl,ci fD rfl]at b;grind
def ar1(kt:∀T v M w M' w',cW T v M w->(∀b,c.K b\/M b->w'.heap[b]?=w.heap[b]?)->(∀b,M b->M' b)->cW T v M' w'){n:Nat}{g:uah}{me:Goroutine->Prop}{w w0:aS}{M:dh}{Shun:uam}{f0 v:Nat}{b0:co}(hrun:g.status=.running)(hn:n=c.rows c.N)(eK:n<=c.most)(o:b0.aR=0/\b0.eg=false/\b0.gp=0/\b0.taken=0/\b0.came=0/\(b0.done.length=c.N/\∀p,p<c.N->b0.done[p]?=some (.N))/\b0.least=none)(oM:w.heap[c.st]?=some (hH (az c) ⟨false,false,false,0,0,v⟩ b0)/\(az c).n_ b0 w)(dI:∀b,M b->¬(am (az c)).gT b/\¬c.K b)(nD:∀b,M b\/c.K b\/(am (az c)).gT b->b<w.heap.size/\∀l,fg l=some b->¬Shun l)(ht:∀k,bg (am (az c)) P (DT c P cW (J0 c P M w0 me)) true ⟨.idle,false,0,f0,.main (.spawn 0 false)⟩ ⟨⟨false,false,false,0,0,v⟩,f0+c.C*c.N,b0⟩ ⟨g,w.at k,M⟩)(T9:∀g',me g'->∀c5 n' bJ M' D w',JZ c cW c5 M w0 n' bJ M' D w'->bP P Post n' bJ 0 g' w'):bP P Post n Shun 0 g w:=by
 intro gs sl q t hsz h0 aN fF;have G:=da (bR c);have ar2:=arU (c:=c) (cW:=cW) (SM:=J0 c P M w0 me) (M:=M) h0 hrun aN AA (hsz.trans hn) AA o oM dI nD (ht w.drawn);obtain⟨N,m',t1,W,rs,γ,w1,V,rfl,⟨J,E,N0,Bx⟩,s,vU⟩:=phase G arT ar2 (by rw[Gt];grind) sl;rw[arQ h0]at W;refine l9.leads (q:=λm t=>m=crowd (kr (am (az c)) rs) w1 V/\t=t1) (λm t F=>?_) N W ⟨rfl,rfl⟩;obtain⟨rfl,rfl⟩:=F;obtain⟨⟨hmx,BN,ny⟩,⟨g1,ar3,g',ar4,kk,ar5⟩,R,cV⟩:=N0;have Z:tA (az c) γ (rs.map (·.l)):=s.tu;have f:cN c.N c.rows c.cj γ.al ((rs.map (·.l)).map (·.al)):=Z.pE;have QY:∀{j:Nat}{r:cr (am (az c))},rs[j]?=some r->(rs.map (·.l))[j]?=some r.l:=λh=>AA;have uP:∀{j:Nat}{r:cr (am (az c))},rs[j]?=some r->((rs.map (·.l)).map (·.al))[j]?=some (show ag.Lo At from r.l).al:=λh=>AA;have N1:((rs.map (·.l)).map (·.al))[0]?=some (.main .over):=AA;have U:∀{j:Nat}{r:cr (am (az c))},j≠0->rs[j]?=some r->(am (az c)).Left r.l:=λB h=>(f.all N1 _ _ (uP h)).resolve_left B;have ar6:∀{j:Nat}{r:cr (am (az c))},j≠0->rs[j]?=some r->QuitsD P r.n (Deaf t j) r.g/\DT c P cW (J0 c P M w0 me) false r.l r.X:=by intro j r B h;have e0:(j==0)=false:=AA;have hs:=s.sits j r h;rw[e0]at hs;cases hs with|runs _ _ _ _ _ _ u=>grind|waits _ _ _ _ _ _ _ _ u=>grind|leaves _ hq _ hs=>grind
 obtain⟨aT,L_,hT⟩:=s.aT;have ar7:J.X.g.status=.running:=by cases s.sits 0 J E with|runs _ d _ _ _ _ _=>exact d|waits _ d _ _ _ _ _ _ _=>exact d|leaves F _ _ _=>cases F
 have ar8:Deaf t 0=0:=by cases s.sits 0 J E with|runs _ _ _ _ hd _ _=>grind|waits _ _ _ _ tx _ hd _ _=>grind|leaves F _ _ _=>cases F
 have T_:(ja (am (az c)) gs.size rs w1.heap.size aT).n=rs.length:=rfl;have ar9:Leavers P t (kr (am (az c)) rs) (λj=>((rs[j]?).map (·.n)).getD 0):=by
  refine⟨λi x hi A=>?_,λj B=>?_⟩
  .grind[BM]
  .refine Deaf_absent λi op hi e=>?_;have:=hT.gs i op hi;grind[kr]
 have uA:∀j,j≠0->j<(ja (am (az c)) gs.size rs w1.heap.size aT).n->(ja (am (az c)) gs.size rs w1.heap.size aT).past j:=by intro j B L;have d:rs[j]?=some rs[j]:=vag L;refine⟨rs[j],d,?_⟩;have:=U B d;show kS (show ag.Lo At from rs[j].l).al=true;have y:qk (show ag.Lo At from rs[j].l).al:=this;cases z:(show ag.Lo At from rs[j].l).al with|gone _=>rfl|old=>rfl|main _=>rw[z]at y;exact y.elim|work _ _=>rw[z]at y;exact y.elim
 let M':Nat->Prop:=λb=>M b\/c.K b\/b=c.cP\/∃(j:Nat)(r:cr (am (az c))),rs[j]?=some r/\r.X.mine b
 have ar_:∀b,M' b->b≠c.st/\b≠c.wg:=by
  rintro b (h|h|h|⟨j,r,d,h⟩)
  .grind
  .exact⟨(c.z0 b h).1,(c.z0 b h).2.1⟩
  .exact⟨λe=>c.fd.2.1 (e.symm.trans h),λe=>c.fd.2.2 (e.symm.trans h)⟩
  .have:=(s.sh j r d b h).1;grind
 have gV:∀b,M' b->∀l,fg l=some b->¬Gu (ja (am (az c)) gs.size rs w1.heap.size aT) l:=by
  intro b o l u hs;rcases hs with hs|⟨⟨hg,hn⟩,_⟩
  .have Y:l=.cell (ag.fy (az c))\/l=.cell (ag.kQ (az c))\/(l=.cell ⟨c.wg,0,none⟩\/l=.cell ⟨c.wg,1,none⟩):=hs;rcases Y with rfl|rfl|rfl|rfl<;>simp only[fg,vbi,ag.fy,ag.kQ]at u
   .grind
   .grind
   .grind
   grind
  .obtain⟨hK,F⟩:=hn b u;rcases o with h|h|h|⟨j,r,d,h⟩
   .exact F 0 ⟨J,E,(cV b) h⟩
   .exact hK h
   .subst h;exact hg (.inr u)
   .exact F j ⟨r,d,h⟩
 refine arW (w:=w1) ar7 ar3 uA rfl (λk=>?_) _ _ V _ t w1.drawn JT (by simp[kr,T_]) (by rw[BM,E];grind) ar9 hT ar8;have zy:∀{j:Nat}{r:cr (am (az c))},rs[j]?=some r->∀b,c.K b\/r.X.mine b->w1.heap[b]?=r.X.w.heap[b]?:=λh b o=>(s.rely _ _ h).1.heap b o;have S:w1.heap[c.st]?=some (hH (az c) γ.mu γ.al)/\w1.heap[c.wg]?=some (sy c γ.al)/\(True->w1.heap[c.cP]?=some (Fs c γ.al)):=s.mt;have asa:∀x∈(rs.map (·.l)).map (λl:ag.Lo At=>l.mx),x=.idle:=by
  intro x A;obtain⟨l,u,rfl⟩:=vbh.1 A;obtain⟨r,d,rfl⟩:=vbh.1 u;obtain⟨j,B⟩:=List.mem_iff_getElem?.1 d;by_cases e:j=0
  .grind
  .exact Z.IG j r.l (QY B) (U e B)
 obtain⟨m1,rV,Mq,IR,asb⟩:=ar0 Z.lF asa;have Mj:γ.mu.word=0:=Gi;obtain⟨zA,By,EI,asc⟩:=s.rely 0 J E;have yl:oc c.N γ.al:=by
  rcases f.sw .over N1 with⟨C,e⟩|⟨a,ha,hw⟩
  .cases e
  .have DV:=(f.all N1 _ _ ha);refine f.dK ⟨_,a,ha,?_⟩;rcases DV with e|e
   .rw[e,N1]at ha;cases ha;cases hw
   .cases a<;>first|exact e.elim|rfl|cases hw
 have key:∀p,p<γ.al.taken->∃(j:Nat)(r:cr (am (az c)))(C:uae)(x:Nat×Value),rs[j]?=some r/\(show ag.Lo At from r.l).al=.gone C/\x∈C/\x.1=p/\oe c cW C r.X.mine r.X.w:=by
  intro p z;have cM:=f.own p;rw[vby z]at cM;obtain⟨j,a,B,H⟩:∃(j:Nat)(a:At),((rs.map (·.l)).map (λl:ag.Lo At=>l.al))[j]?=some a/\0<dt p a:=by
   by_cases Q:∃(j:Nat)(a:At),((rs.map (·.l)).map (λl:ag.Lo At=>l.al))[j]?=some a/\0<dt p a
   .exact Q
   .exfalso;have hz:c3 (dt p) ((rs.map (·.l)).map (λl:ag.Lo At=>l.al))=0:=Mo _ _ λi x A=>by
     rcases vbl (dt p x)with e|e
     .exact e
     .exact absurd ⟨i,x,A,e⟩ Q
    have vX:c3 (dt p) ((rs.map (·.l)).map (λl:ag.Lo At=>l.al))=1:=cM;omega
  have O:=B;rw[vbd]at O;obtain⟨l,u,rfl⟩:=vaj.1 O;rw[vbd]at u;obtain⟨r,d,rfl⟩:=vaj.1 u;have Ik:j≠0:=by rintro rfl;rw[E]at d;cases d;rw[ny]at H;simp[dt,hand,nw]at H
  rcases(ar6 Ik d).2 with⟨e,_⟩|⟨C,f',e,_,kY⟩
  .rw[e]at H;simp[dt,hand,nw]at H
  .rw[e]at H;simp only[dt,hand,nw,List.count_nil,vbm]at H;obtain⟨x,A,X⟩:=vbh.1 (ven.1 H);exact⟨j,r,C,x,d,H0,A,X,kY⟩
 have Az:∀p,p<γ.al.taken->0<c3 (du p) ((rs.map (·.l)).map (λl:ag.Lo At=>l.al)):=by
  intro p z;obtain⟨j,r,C,x,d,e,A,X,-⟩:=key p z;have I:=nx (du p) _ j _ (uP d);have y:1<=du p (show ag.Lo At from r.l).al:=by rw[e];exact ven.2 (vbh.2 ⟨x,A,X⟩)
  exact vap y I
 have jT:∀k,JZ c cW γ.al.taken M w0 rs.length (Gu (ja (am (az c)) gs.size rs w1.heap.size aT)) M' γ.al.done (w1.at k):=by
  intro k;refine⟨by have:=Z.len;grind,λb o l u=>?_,λoff sp y hs=>?_,⟨.inl J1,.inl (.inr J1)⟩,?_,?_,λh=>(ar_ _ h).1 rfl,f.len.1,?_,⟨γ.al.taken,γ.al.came,γ.al.least,?_,f.came.2.1,λp z fe=>f.came.2.2 p fe (Az p z)⟩,λb o=>?_,vad R.size zA.size,R.later.trans By,EI.trans R.output,asc.trans R.tape,λp z fe=>?_,f.len.2,f.aT,yl.imp (λx=>Nat.le_antisymm f.aT x) λx=>?_⟩
  .rcases o with o|o
   .grind
   .rintro(hs|⟨_,b',K,L⟩)
    .obtain⟨b',K,Y⟩:=G.BD l hs;rw[u]at K;cases K;have:=s.low b (.inr Y);have e:(w1.at k).heap.size=w1.heap.size:=rfl;omega
    .rw[u]at K;cases K;have e:(ja (am (az c)) gs.size rs w1.heap.size aT).size=w1.heap.size:=rfl;have e':(w1.at k).heap.size=w1.heap.size:=rfl;omega
  .rcases hs with hs|⟨⟨hg,_⟩,_⟩
   .have Y:(.cell ⟨c.st,off,sp⟩:Loc)=.cell (ag.fy (az c))\/(.cell ⟨c.st,off,sp⟩:Loc)=.cell (ag.kQ (az c))\/((.cell ⟨c.st,off,sp⟩:Loc)=.cell ⟨c.wg,0,none⟩\/(.cell ⟨c.st,off,sp⟩:Loc)=.cell ⟨c.wg,1,none⟩):=hs;grind[ag.fy,ag.kQ]
   .exact hg (.inl ⟨off,sp,rfl,y⟩)
  .rintro b (h|h|h)
   .exact .inl h
   .exact .inr (.inl h)
   .exact .inr (.inr (.inl h))
  .rintro b ((h|h|h|⟨j,r,d,h⟩)|h)
   .exact(s.sh 0 J E b ((cV b) h)).2.2
   .exact s.low b (.inl h)
   .exact s.low b (.inr (.inr (.inr h)))
   .exact(s.sh j r d b h).2.2
   .exact s.low b (.inr (.inl h))
  .exact S.2.2 trivial
  .show w1.heap[c.st]?=_;rw[S.1];unfold hH;rw[Mj,asb];rfl
  .exact(zy E b (o.imp id (cV b))).trans (R.heap b o)
  .obtain⟨j,r,C,x,d,e,A,X,kY⟩:=key p z;have I:=f.val j _ (uP d) x (by rw[e];exact A);have y:=kY x A;rw[X]at I y;exact⟨x.2,I fe,kt _ _ _ _ _ _ (y fe) (λb o=>zy d b o) (λb o=>.inr (.inr (.inr ⟨j,r,d,o⟩)))⟩
  .have I:=f.came.1;rw[Yy (n:=γ.al.taken) f.aT λp z _=>?_]at I
   .refine vap x (vad (vbr I) (RV λp _=>?_));have y:=Mp (RY p) ((rs.map (·.l)).map (·.al));have h3:=f.own p;have h4:c3 (du p) ((rs.map (·.l)).map (·.al))<=1:=by split at h3<;>omega
    exact vad (Nat.mul_le_mul_right _ h4) AP
   .have y:=Mp (RY p) ((rs.map (·.l)).map (·.al));have h3:=f.own p;rw[vbq (Nat.not_lt.2 z)]at h3;have h4:c3 (du p) ((rs.map (·.l)).map (·.al))=0:=AP;rw[h4,Nat.zero_mul]
 exact Ae (ZC kk g1 (w1.at k) (ar5 _) λk'=>T9 g' ar4 _ _ _ _ _ _ (jT k'))
end
end
end cI
namespace wY
open Conc ConcM ax bp ag fq
section
section
variable{c:dD}{Q:b4}{Stop:Bool->ag.Lo At->aV->Prop}{l:ag.Lo At}{γ:ag.aO co}{X:aV}{w':aS}
def asd{P:b4}{main:Bool}{b:Frame}{a:Act}{k:il}{cs:fV}{w:aS}{ops:eY}{i:Nat}{rest:uaa}{o:Oper}{f:uaj}{x:uar}{cap:dp}{ats:uaq}(g:ops[i]?=some o)(c:Region.wanted o (yielded ops a.tmps)=true)(hk:b.kind≠ .early)(e:o.op=.go {callee:=.value x,args:=#[],argTypes:=ats})(j:a.eval x=.func (.func f) #[] cap):
 stepG P main (Conc.G (b.at a (.inRegion ops (i::rest)::k)) cs) w=.spawn (Conc.G (b.at (a.put o.dst undef) (.inRegion ops rest::k)) cs) (born P (sB f cap)) w #[]:=by
 have d:(execOp a.eval o).run P w=.ok (.spawn (sB f cap)) w:=by simp_all[execOp,resolve,Deferred.ofValue,sB]
 have h:listed P b.fn a o w=#[]:=by simp_all[listed,execOp,resolve,Deferred.ofValue,vdy]
 rw[stepG_spawn g c hk d rfl,h]
def ase(p:dQ (am (az c)) l γ X w'){g1 child:uah}(hs:stepG Q true X.g w'=.spawn g1 child w' #[])(hrun:g1.status=.running)(o:child.status=.running){f k:Nat}(q:l=⟨.idle,false,0,f+20,.main (.spawn k true)⟩)(hk:c.rows c.N+k+1<=c.most)(h:bg (am (az c)) Q Stop true ⟨.idle,false,0,f,.main (.spawn (k+1) false)⟩ {γ with a_:=γ.a_-1} ⟨g1,w',X.mine⟩)(hc:bg (am (az c)) Q Stop false ⟨.idle,false,0,19,.work .free []⟩ {γ with a_:=γ.a_-1} ⟨child,w',λ_=>False⟩):Then (Z:=am (az c)) Q Stop true l γ X w':=by
 have hg:grown X.mine w' w'=X.mine:=kR rfl;have key:∀(ls:List (ag.Lo At)),ls[0]?=some l->tA (az c) γ ls->1<=γ.a_/\((ls.set 0 (⟨.idle,false,0,f,.main (.spawn (k+1) false)⟩:ag.Lo At)).map (·.fuel)).sum+19+2*qh γ.mu (ls.map (·.mx))+c.C*(c.N-γ.al.taken)<=γ.a_-1:=by
  intro ls hi b;have m:0<ls.length:=(vab.1 hi).1;have e:=Fg (ls.map (·.fuel)) 0 f AA;have w:(ls.set 0 (⟨.idle,false,0,f,.main (.spawn (k+1) false)⟩:ag.Lo At)).map (·.fuel)=(ls.map (·.fuel)).set 0 f:=BK;rw[w];have v:(ls.map (·.fuel))[0]'AA=f+20:=by grind
  rw[v]at e;have C:(ls.map (λx:ag.Lo At=>x.fuel)).sum+2*qh γ.mu (ls.map (λx:ag.Lo At=>x.mx))+c.C*(c.N-γ.al.taken)<=γ.a_:=b.gU;grind
 refine .born (l1:=(⟨.idle,false,0,f,.main (.spawn (k+1) false)⟩:ag.Lo At)) (bA:=({γ with a_:=γ.a_-1}:ag.aO co)) (lc:=(⟨.idle,false,0,19,.work .free []⟩:ag.Lo At)) rfl hs ⟨hrun,o,qj _ _ _,p.mt,?_,λls hi b=>?_,PJ,⟨by rw[q],rfl,rfl,rfl⟩,AA,⟨by rw[q];rfl,rfl⟩,λt r=>r,λe=>e,λe=>e⟩ AA hc
 .obtain⟨ls,i,hi,b⟩:∃(ls:List (ag.Lo At))(i:Nat),ls[i]?=some l/\tA (az c) γ ls:=p.sees;have h0:=b.pE.only i (.spawn k true) AA;grind
 .have a:tA (az c) γ ls:=b;obtain⟨A,z⟩:=key ls hi a;have m:0<ls.length:=(vab.1 hi).1;have s:(ls.set 0 (⟨.idle,false,0,f,.main (.spawn (k+1) false)⟩:ag.Lo At)++[(⟨.idle,false,0,19,.work .free []⟩:ag.Lo At)]).map (·.mx)=ls.map (·.mx)++[.idle]:=by grind[RE]
  have y:(ls.set 0 (⟨.idle,false,0,f,.main (.spawn (k+1) false)⟩:ag.Lo At)++[(⟨.idle,false,0,19,.work .free []⟩:ag.Lo At)]).map (·.al)=(ls.map (·.al)).set 0 (.main (.spawn (k+1) false))++[.work .free []]:=by simp_all
  have d:(ls.map (·.al))[0]?=some (.main (.spawn k true)):=AA;have get:∀{i:Nat}{x:ag.Lo At},(ls.set 0 (⟨.idle,false,0,f,.main (.spawn (k+1) false)⟩:ag.Lo At)++[(⟨.idle,false,0,19,.work .free []⟩:ag.Lo At)])[i]?=some x->x=⟨.idle,false,0,f,.main (.spawn (k+1) false)⟩\/ls[i]?=some x\/x=⟨.idle,false,0,19,.work .free []⟩:=by grind
  refine⟨⟨by rw[s];exact ag.dl.push a.lF,by rw[y];exact a.pE.born d,?_,λi x g ht=>?_,λi x g u=>?_,?_⟩,λj t r D=>.inr ⟨AA,AA,.refl _ _⟩⟩
  .rw[s];have ht:qh γ.mu (ls.map (·.mx)++[.idle])=qh γ.mu (ls.map (·.mx)):=by unfold qh;rw[Rx,Rx];rfl
   grind
  .rcases get g with rfl|n|rfl
   .cases ht
   .exact a.aT i x n ht
   grind
  .rcases get g with rfl|n|rfl
   .rfl
   .exact a.IG i x n u
   .rfl
  .have B:=a.pE.od k true d;grind
