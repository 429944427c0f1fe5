import Derived.Test.YtnkpmooengcinaaGreatPAI
import Derived.Test.YtnkpmooengcinaaGreatPAK
import Derived.Test.YtnkpmooengcinaaGreatPAM
set_option linter.all false
set_option maxRecDepth 100000
set_option maxHeartbeats 16000000
namespace Go.Proofs.YtnkpmooengcinaaGreat
open Go.Proofs.Tryz
namespace bB
open RowKit av
def tK(n:Nat)(v:Value):Prop:=∃a c,v=.slice a n c/\n<=c
variable{n:Nat}
theorem tK.carry{ρ:Ren}{v v':Value}(h:tK n v)(hv:ap ρ v v'):tK n v':=by obtain⟨a,c,rfl,b⟩:=h;cases hv with|h7=>exact⟨_,_,U,b⟩|slice=>exact⟨_,_,U,b⟩
def Rm:(aa prog false).funcs[(107:Nat)]?=some f107:=bo (upd:=false) func107 AT
@[simp] theorem aAO:cS false 107:=cN Rm AT
theorem alZ(n:Nat)(hn:n<=1000)(w:aH):
 Calls (aa prog false) 107 #[.N,.I n] w λe w'=>∃v,e=.returned v/\w'.ownsRow w.heap.size 67 2 v 0 []/\cC w w':=by
 by_cases h0:n=0
 .subst h0;go_enter Rm,ntmps107
  go_wp2
  go_ret
  simp_all[vbo,vaa]
 .have f:(0:Int)<(n:Int):=by omega
  have a:t67.bytes=48:=AU;have d:=nextslicecap_zero (need:=n) AY;go_enter Rm,ntmps107
  go_wp2
  all_goals try(exfalso;simp only[a,d]at *;omega)
  go_ret
  have g:n<=(Question.appendCap n 0 67).cut (w.tape w.drawn (Question.appendCap n 0 67)):=by simp[Question.cut]
  have b:(Question.appendCap n 0 67).cut (w.tape w.drawn (Question.appendCap n 0 67))<=maxLen:=by simp only[Question.cut,maxLen];have:=Nat.mod_lt (w.tape w.drawn (Question.appendCap n 0 67)) (show 0<2^63-n by omega);omega
  generalize(Question.appendCap n 0 67).cut (w.tape w.drawn (Question.appendCap n 0 67))=c at *;refine⟨_,U,⟨Ab,.inr ⟨w.heap.size,c,_,U,vad _,(ag.new w _ _).drew,vaz _,b,?_,Ab⟩⟩,((vaa _ w).alloc IB _).drew⟩;grind[size_zeroCells]
theorem YG{P:Nat->Value×Value->Prop}(h:∀i,i<n->∃p,P i p):∀k,k<=n->∃xs:List (Value×Value),xs.length=k/\∀i(hi:i<xs.length),P i xs[i]
 |0,_=>⟨[],U,AN⟩
 |k+1,hk=>by obtain⟨xs,c,b⟩:=YG h k AY;obtain⟨p,a⟩:=h k AY;refine⟨xs++[p],AN,λi hi=>?_⟩;grind
theorem Ro(xs:uay)(j:Nat)(u:Value)(h:(two xs)[j]?=some u):∃i,∃hi:i<xs.length,(j=i*2/\u=xs[i].1)\/(j=i*2+1/\u=xs[i].2):=by have a:j<(two xs).length:=(vab.1 h).1;rw[Yq]at a;have hi:j / 2<xs.length:=AY;refine⟨j / 2,hi,?_⟩;obtain⟨g1,b⟩:=IH xs (j / 2) hi;grind
variable{w:aH}
def YH{v:Value}{rs:List dg}(h:jl w v rs)(h0:0<rs.length):
 ∃b off c,∃xs:List (Value×Value),v=.S b off rs.length c/\xs.length=rs.length/\(∀j u,(two xs)[j]?=some u->w.cell? (.a b (off+j))=some u)/\(∀u∈two xs,u.oneCell'=true)/\
  ∀i(hi:i<xs.length)(o:i<rs.length),jB w xs[i].1 rs[i].1/\n2 w xs[i].2 rs[i].2:=by
 obtain⟨r,c,rfl,-,f⟩:=h;obtain⟨b,off,rfl,-⟩:=f 0 h0;have l:∀i,i<rs.length->∃p:Value×Value,w.cell? (.a b (off+i*2))=some p.1/\w.cell? (.a b (off+i*2+1))=some p.2/\∀hi:i<rs.length,jB w p.1 rs[i].1/\n2 w p.2 rs[i].2:=by intro i hi;obtain⟨s,t,e,pv,n,cw,c1,q,hv⟩:=f i hi;simp_all
 obtain⟨xs,m,g⟩:=YG l rs.length IB;refine⟨b,off,c,xs,U,m,λj u d=>?_,λu d=>?_,AN⟩
 .grind[Ro]
 .obtain⟨j,k⟩:=List.getElem?_of_mem d;obtain⟨i,hi,⟨-,rfl⟩|⟨-,rfl⟩⟩:=Ro xs j u k
  .obtain⟨a,cc,e,-⟩:=((g i hi).2.2 AY).1;rw[e];rfl
  .obtain⟨a,cc,e,-⟩:=((g i hi).2.2 AY).2;rw[e];rfl
def Ml(w:aH)(rd:uar)(rs:List dg):Prop:=∃v,rd 0=some v/\jl w v rs
def al0:(aa prog false).funcs[(83:Nat)]?=some f83:=bo (upd:=false) func83 AT
def kQ(ps:List (List dg))(k:Nat):List dg:=(ps.take k).flatten
def jF(ps:List (List dg))(k:Nat):Nat:=(kQ ps k).length
variable{ps:List (List dg)}
theorem Mm{k:Nat}(h:k<ps.length):kQ ps (k+1)=kQ ps k++ps[k]:=by grind[kQ,List.take_succ_eq_append_getElem]
theorem Fx{k:Nat}(h:k<ps.length):jF ps (k+1)=jF ps k+ps[k].length:=by grind[jF,Mm]
def al1{P:ck}(w:aH)(t ty e:uaa)(i:TypeInfo)(ht:P.underlying t=some (.slice e))(hi:P.info? e=some i)(base xa:uad)(n cap b:Nat)(a:n<=cap):
 (Builtin.append_ #[t,t] ty #[.slice base n cap,.slice xa 0 b]).run P w=.ok (.slice base n cap) w:=by
 cases base<;>cases xa<;>simp[Builtin.append_,run_underlying ht,sizeOf,typeInfo,hi,a,Builtin.lenOf,Builtin.firstCells,storeCells,go_sem]
def YJ{P:ck}{ops:eQ}{rest:ubf}{o:Oper}{a:Act}{Q:uap}(g:o.guard=none)(s x:uaq)(t:uaa)(f:o.op=.call {callee:=.builtin .append,args:=#[s,x],argTypes:=#[t,t]})(e:uaa)(i:TypeInfo)(ht:P.underlying t=some (.slice e))(hi:P.info? e=some i){base xa:uad}{cap c:Nat}(hs:a.eval s=.slice base n cap)(d:a.eval x=.slice xa 0 c)(b:n<=cap)(h:wpList P ops Q rest (a.put o.dst (.slice base n cap)) w):wpList P ops Q (o::rest) a w:=by
 refine wpList_plain g λK hK=>?_;have hrun:=al1 (P:=P) w t o.type e i ht hi base xa n cap c b;unfold Oper.wp;simp[execOp,f,resolve,invoke,builtin,hs,d,hrun,Result.andThen];exact hK _ _ h
def al2{base:Nat}{e:uaa}{size gc:Nat}{a:uad}{xs:uam}(h:w.ownsRow base e size (.slice a n gc) n xs):n<=gc:=by
 rcases h.2 with⟨e,h0⟩|⟨g',cap',bc,e,-,-,b,-⟩
 .grind
 grind
def al3(ps:List (List dg))(Rp:Value)(w:aH)(h:bw w 1 Ml Rp ps)(Cb:ps.length<=1000)(L:∀k,jF ps k<=1000):
 Calls (aa prog false) 83 #[Rp] w λe w'=>∃v,e=.returned v/\jl w' v (kQ ps ps.length)/\tK (jF ps ps.length) v/\cC w w':=by
 obtain⟨bJ,cap,rfl,hl,t⟩:=h;go_enter al0,ntmps83
 go_wp2
 go_loopw [3,5,11] (λa _ b W=>∃k:Nat,k<=ps.length/\a=.I (jF ps k:Int)/\b=.I (k:Int)/\W=w) (λ_ _ b _=>ps.length-(intOf b).toNat)
 case atStart=>exact⟨0,vaz _,rfl,rfl,rfl⟩
 case round=>
  obtain⟨k,hk,rfl,rfl,rfl⟩:=hrel;by_cases d:k<ps.length
  .obtain⟨b,off,rfl,v,f,hv⟩:=t k d;simp at f;obtain⟨cZ,dw,I,-⟩:=bw.shape hv;subst I;have eu:=dx f;have S:(0:Int)<=(k:Int):=AY;have U:(k:Int)<(ps.length:Int):=AY;have l:=L (k+1);rw[Fx d]at l;have uy:¬((jF ps k:Int)+(ps[k].length:Int)<0):=AY;clear t hv;generalize nR:jF ps k=X at *;go_wp2
   exact⟨⟨k+1,AY,by grind[Fx],Ab,PA⟩,by simp[intOf];omega⟩
  .have z:k=ps.length:=by omega
   subst z;have dW:¬((ps.length:Int)<(ps.length:Int)):=AY;have Fy:=L ps.length;have y:Hid _:=t;clear t;obtain⟨w,rfl⟩:∃x:aH,x=wr:=⟨wr,rfl⟩;go_wp2
   refine(alZ (jF ps ps.length) Fy w).mono ?_;rintro e w1 ⟨v1,rfl,M,bG⟩;obtain⟨a1,c1,rfl⟩:=qq M;have Rq:Hid (w1.ownsRow w.heap.size 67 2 (.slice a1 0 c1) 0 []):=M;have iq:Hid (cC w w1):=bG;clear M bG;go_wp2
   go_loopw [6,8,27] (λa _ b W=>∃(k:Nat)(c:uay)(s:uad)(gc:Nat),k<=ps.length/\a=.slice s (jF ps k) gc/\b=.I (k:Int)/\c.length=(jF ps k)/\W.ownsRow w.heap.size 67 2 (.slice s (jF ps k) gc) (jF ps k) (two c)/\(∀i(C:i<c.length)(Y:i<(kQ ps k).length),jB w c[i].1 ((kQ ps k)[i]).1/\n2 w c[i].2 ((kQ ps k)[i]).2)/\cC w W) (λ_ _ b _=>ps.length-(intOf b).toNat)
   case atStart=>exact⟨0,[],a1,c1,vaz _,rfl,rfl,rfl,Rq.out,AN,iq.out⟩
   case round=>
    obtain⟨k,c,s,gc,hk,rfl,rfl,YK,dE,Mp,V⟩:=hrel;have o:Hid _:=dE;have K:Hid _:=Mp;have n:Hid (cC w wr):=V;clear dE Mp V;by_cases d:k<ps.length
    .obtain⟨b,off,rfl,v,f,hv⟩:=y.out k d;simp at f;by_cases B:ps[k].length=0
     .obtain⟨cZ,dw,rfl,-,-⟩:=id hv;have m:=bm.b4 n.out;have r:=m _ _ _ f;have eu:=dx r;have S:(0:Int)<=(k:Int):=AY;have U:(k:Int)<(ps.length:Int):=AY;obtain⟨A,hi,-,-,-⟩:=vbt IC;have l:=Fx d;rw[B,vcg]at l;have T:kQ ps (k+1)=kQ ps k:=by rw[Mm d,List.eq_nil_of_length_eq_zero B,List.append_nil]
      have H:Hid (jF ps k<=gc):=al2 o.out;rw[B]at r;clear hv f m y;go_wp2_with (at_builtin;apply qr)
      unfold hJ;refine YJ rfl _ _ 57 rfl 67 A ((qc _ _ _).trans underlying57) hi rfl rfl H.out ?_;have J:Hid _:=l;have F:Hid _:=T;clear l T hi;go_wp2
      go_roundw
      case rel=>exact⟨k+1,c,s,gc,AY,by rw[J.out];rfl,Ab,by rw[J.out];grind,by rw[J.out];exact o.out,by rw[F.out];exact K.out,n.out⟩
      case measure=>simp[intOf];omega
     .have m:=bm.b4 n.out;have r:=m _ _ _ f;have eu:=dx r;obtain⟨bD,b7,pc,xs,rfl,IJ,O,P,Mq⟩:=YH hv AY;have Rt:Hid (∀j u,(two xs)[j]?=some u->wr.cell? (Addr.add ⟨bD,b7,none⟩ j)=some u):=λj u hu=>by rw[vda];exact m _ _ _ (O j u hu)
      have n5:Hid _:=P;have E:Hid _:=Mq;have S:(0:Int)<=(k:Int):=AY;have U:(k:Int)<(ps.length:Int):=AY;have l:=L (k+1);rw[Fx d]at l;obtain⟨A,hi,nY,oO,oP⟩:=vbt IC;have R:Hid (w.heap.size<=wr.heap.size):=n.out.size;clear hv f m O P Mq y;go_wp2_with (at_builtin;apply qr)
      unfold hJ;refine wpList_append_own _ rfl _ _ 57 rfl w.heap.size 67 A _ 2 48 ((qc _ _ _).trans underlying57) hi nY oO oP rfl AX (.slice s (jF ps k) gc) (jF ps k) (two c) rfl o.out ⟨bD,b7,none⟩ ps[k].length pc (two xs) rfl (by rw[Yq,IJ]) Rt.out n5.out B_ AY R.out ?_;intro v' w2 Q Aj _;obtain⟨Z,cg,rfl⟩:=qq Q;have Ru:Hid (w2.ownsRow w.heap.size 67 2 (.slice Z (jF ps (k+1)) cg) (jF ps (k+1)) (two (c++xs))):=by grind[Hid,Fx,two]
      have hV:Hid (cC w w2):=n.out.grown Aj R.out (λg hg=>(World.ownsRow.lt o.out g hg).1);have Fz:Hid (∀i(C:i<(c++xs).length)(Y:i<(kQ ps (k+1)).length),jB w (c++xs)[i].1 ((kQ ps (k+1))[i]).1/\n2 w (c++xs)[i].2 ((kQ ps (k+1))[i]).2):=by
       intro i C Y;have aAP:c.length=(kQ ps k).length:=YK;simp[Mm d];by_cases YL:i<c.length
       .rw[vdb YL,vdb AY];exact K.out i YL AY
       .rw[List.getElem_append_right AY,List.getElem_append_right AY];have:=E.out (i-c.length) AN AN;grind
      have Lj:=Fx d;have D:Hid ((c++xs).length=jF ps (k+1)):=by grind[Hid]
      clear Q Aj r;rw[<-Lj];clear Lj;go_wp2
      go_roundw
      case rel=>exact⟨k+1,c++xs,Z,cg,AY,rfl,Ab,D.out,Ru.out,Fz.out,hV.out⟩
      case measure=>simp[intOf];omega
    .have z:k=ps.length:=by omega
     subst z;have jE:¬((ps.length:Int)<(ps.length:Int)):=AY;clear y;go_wp2
     go_ret
     have m:=bm.b4 n.out;have rk:jF ps ps.length<=gc:=by
      rcases o.out.2 with⟨e,h0⟩|⟨g',cap',bc,e,-,-,C,-⟩
      .grind
      grind
     refine⟨_,rfl,?_,⟨_,_,rfl,rk⟩,n.out⟩;exact Rl (Row:=λj W x=>∃h:j<c.length,x=.agg #[c[j].1,c[j].2]) (N:=jF ps ps.length) ⟨c,YK,o.out,AN⟩ (kQ ps ps.length) rfl AY (λj hj p q⟨hy,e⟩=>by
      simp at e;obtain⟨rfl,rfl⟩:=e;obtain⟨r1,r2⟩:=K.out j hy hj;grind[bw.mono,z6,Ca])
end bB
abbrev ba{ao:Type}(i:Bool)(a b:ao):ao:=match i with
 |false=>a
 |true=>b
namespace eW
open Conc RowKit ConcM
set_option maxRecDepth 100000
variable{w:aH}{b:Nat}{q r y z:Value}
def ana{t:uaa}{x p:Value}(a:w.heap[b]?=some (.cells #[x,y,z] t)):((w.setCell ⟨b,0,none⟩ p).setCell ⟨b,1,none⟩ q).setCell ⟨b,2,none⟩ r=w.setRow b #[p,q,r]:=by have f:=setCell_eq_setRow w b 0 #[x,y,z] t (0,0) p a;have b1:=setRow_heap w b #[x,y,z] (#[x,y,z].setIfInBounds 0 p) t (0,0) a;have e:=setCell_eq_setRow _ b 1 _ t (0,0) q b1;have c:=setRow_heap _ b _ ((#[x,y,z].setIfInBounds 0 p).setIfInBounds 1 q) t (0,0) b1;have d:=setCell_eq_setRow _ b 2 _ t (0,0) r c;grind[setRow_setRow]
variable{i j:uaq}
def pL{x p:Value}(a:w.heap[b]?=some (.cells #[x,y,z] 175))(h:p.oneCell'=true/\q.oneCell'=true/\r.oneCell'=true){ev:uaj}(hi:ev i=.P b 0)(d:ev j=.agg #[p,q,r]){o:Oper}(c:o.op=.store 175 i j):
 (execOp ev o).run prog w=.ok .skip (w.setRow b #[p,q,r])/\(execOp ev o).events prog w #[]=#[⟨.cell ⟨b,0,none⟩,true,false⟩,⟨.cell ⟨b,1,none⟩,true,false⟩,⟨.cell ⟨b,2,none⟩,true,false⟩]:=by
 obtain⟨dst,op,ty,pos,k,gd⟩:=o;simp only at c;subst c;have cw:w.cell? (.a b 0)=some x:=DU;have f0:w.frozen? ⟨b,0,none⟩=false:=by simp[World.frozen?,a]
 have g:(w.setCell ⟨b,0,none⟩ p).heap[b]?=some (.cells #[p,y,z] 175):=by simp[World.setCell,vay,a]
 have c1:(w.setCell ⟨b,0,none⟩ p).cell? (.a b 1)=some y:=by simp[World.cell?,g]
 have f1:(w.setCell ⟨b,0,none⟩ p).frozen? ⟨b,1,none⟩=false:=by simp[World.frozen?,g]
 have f:((w.setCell ⟨b,0,none⟩ p).setCell ⟨b,1,none⟩ q).heap[b]?=some (.cells #[p,q,z] 175):=by simp_all[World.setCell,vay]
 have cg:((w.setCell ⟨b,0,none⟩ p).setCell ⟨b,1,none⟩ q).cell? (.a b 2)=some z:=by simp[World.cell?,f]
 have e:((w.setCell ⟨b,0,none⟩ p).setCell ⟨b,1,none⟩ q).frozen? ⟨b,2,none⟩=false:=by simp[World.frozen?,f]
 rw[<-ana a];constructor
 .simp[go_sem,hi,d,cw,f0,c1,f1,cg,e,run_store,h]
 .simp[go_sem,hi,d,cw,f0,c1,f1,cg,e,run_store,events_store,h]
def Zo{ev:uaj}{p q r:Int}{k:uaq}(hi:ev i=.I p)(b:ev j=.I q)(hk:ev k=.I r){o:Oper}(a:o.op=.build 175 #[(0,i),(1,j),(2,k)]):(execOp ev o).run prog w=.ok (.value (.agg #[.I p,.I q,.I r])) w/\(execOp ev o).events prog w #[]=#[]:=by
 obtain⟨dst,op,ty,pos,c,gd⟩:=o;simp only at a;subst a;constructor
 .simp[go_sem,hi,b,hk]
 .simp[go_sem,hi,b,hk]
def Ap{x:Value}(a:w.heap[b]?=some (.cells #[x,y,z] 175)){ev:uaj}(hi:ev i=.P b 0){o:Oper}(c:o.op=.load 175 i):
 (execOp ev o).run prog w=.ok (.value (.agg #[x,y,z])) w/\(execOp ev o).events prog w #[]=#[⟨.cell ⟨b,0,none⟩,false,false⟩,⟨.cell ⟨b,1,none⟩,false,false⟩,⟨.cell ⟨b,2,none⟩,false,false⟩]:=by
 obtain⟨dst,op,ty,pos,d,gd⟩:=o;simp only at c;subst c;have cw:w.cell? (.a b 0)=some x:=DU;have c1:w.cell? (.a b 1)=some y:=DU;have cg:w.cell? (.a b 2)=some z:=DU;constructor
 .simp[go_sem,hi,cw,c1,cg]
 .simp[go_sem,hi,cw,c1,cg]
def MB{fn:Func}(c:fn.results=f74.results){x t:Value}{tmps:dC}(a:w.heap[b]?=some (.cells #[x,y,z] 175))(e:tmps[2]?=some (.P b 0))(d:tmps[3]?=some t):
 (results fn tmps).run prog w=.ok (.tuple #[.agg #[x,y,z],t]) w/\(results fn tmps).events prog w #[]=#[⟨.cell ⟨b,0,none⟩,false,false⟩,⟨.cell ⟨b,1,none⟩,false,false⟩,⟨.cell ⟨b,2,none⟩,false,false⟩]:=by
 have cw:w.cell? (.a b 0)=some x:=DU;have c1:w.cell? (.a b 1)=some y:=DU;have cg:w.cell? (.a b 2)=some z:=DU;constructor
 .simp[results,c,f74,go_sem,e,d,cw,c1,cg]
 .simp[results,c,f74,go_sem,e,d,cw,c1,cg]
end eW
namespace eW
open Conc ConcM av bn ae ej fY
section
section
variable{c:db}
def anb{Stop:Bool->ae.Lo At->aV->Prop}{mine:c5}{f:Nat}{p:uac}(eR:c.most<=250)(n:∀b,c.K b\/mine b->b≠c.st){w0:aH}{d:Frame}{cs:fA}(i:d.mode=.returning)(e:(Conc.G d cs).status=.running)(j:∀w' g,ai (ak (ar c)) mine w0 w'->c.N<=g.aj.taken->bd (ak (ar c)) prog Stop false ⟨.idle,false,0,f,.work .free p⟩ g ⟨Conc.G d cs,w',mine⟩)(w:aH)(γ:ae.aM cj)(k:ai (ak (ar c)) mine w0 w)(a5:c.N<=γ.aj.taken):
 bd (ak (ar c)) prog Stop false ⟨.own,true,0,f+8,.work .free p⟩ γ ⟨Conc.G ((baseD 82).at ⟨#[.P c.st 0,.U,.U,.U,.U,.U],[]⟩ [.code (f82.body.getD .skip)]) (d::cs),w,mine⟩:=by
 refine bd.seq (Z:=ak (ar c)) (Stop':=λ_(l:ae.Lo At) X=>l=(⟨.idle,false,0,f,.work .free p⟩:ae.Lo At)/\∃w',ai (ak (ar c)) mine w0 w'/\X=⟨Conc.G d cs,w',mine⟩) (I:=E6 c) LK akp ?_ ?_ (bM.RQ (A:=ar c) (bu c) (a:=.work .free p) I3 eR n i e (λw' g r=>.stop ⟨U,w',r,U⟩) w γ k) U ⟨λh=>h,a5⟩
 .rintro m l X ⟨rfl,_⟩ h;exact h
 .rintro l γ X ⟨rfl,w',r,rfl⟩ hi;exact j w' γ r hi.2
end
end
end eW
namespace cW
open Conc ConcN ConcM bn ae ej
section
section
variable{Shun:uan}{B n:Nat}{t:Trace}{p:j6}
def anV(h:mQ Shun B 0 n t)(hn:p.n=n)(o:p.base=n)(hsz:p.size=B)(A:p.tok=none)(w:Lb p)(hK:∀b,p.K b\/p.mine 0 b->∀l,eT l=some b->¬Shun l)(C:∀j b,j≠0->¬p.mine j b)(hg:∀l,p.g6 l\/p.eU l->¬Shun l):eh p t:=by
 have x:∀j,p.bc j->j=0:=λj d=>by
  rcases d with⟨D,v|v⟩
  .exact v
  grind
 have gQ:∀{i:Nat}{a:Touch},touchAt t i=some a->a.loc.isMemory=true->¬Shun a.loc->Knows t 0 i:=λg m hs=>(h.known _ _ g m).elim id AN;have z:∀{i:Nat}{a:Touch}{b:Nat},touchAt t i=some a->eT a.loc=some b->p.K b\/p.mine 0 b->Knows t 0 i:=λg f o=>gQ g (EM f) (hK _ o _ f);refine⟨λi a c m u=>.inr ⟨λs=>hg _ (.inl s) (h.nO i a c m u),λb f=>⟨λhk=>hK b (.inl hk) _ f (h.nO i a c m u),λj d=>?_⟩⟩,λi op hi=>by rw[hn];exact h.gs op (vbf hi),λi a b c f=>?_,λi a b c _ f hk j d=>?_,λj i a b d c f E=>?_,AN,λ_ i a c s=>.inl λj d=>?_,λi a c hs=>.inr (.inr λj d=>?_),λi a g=>?_,h.HQ,λi j d _ y=>.inl ?_⟩
 .by_cases e:j=0
  .subst e;exact hK b (.inr d) _ f (h.nO i a c m u)
  grind
 .rw[hsz];exact h.low i a b c f
 .grind
 .grind
 .rw[x j d];exact gQ c (w.g6 _ s) AN
 .rw[x j d];exact gQ c (w.eU _ hs) (hg _ (.inr hs))
 .unfold Trace.act? at g;obtain⟨op,r,q⟩:=vaj.1 g;exact h.p_ op (vbf r) a q
 .by_cases e:j=0
  .grind[Trace.g?,knows_own]
  .obtain⟨k,hk,o⟩:=h.over i j d e y;unfold Trace.g? at hk;obtain⟨op,r,q⟩:=vaj.1 hk;exact⟨k,op,r,q,.inr o⟩
end
section
variable{c:db}
def FU(c:db)(gs:ubc)(t:Trace)(q:uas)(l0:ae.Lo At)(g:uai)(w:aH)(M:c5)(j:Nat):cB (ak (ar c)):=
 if j=0 then⟨g,l0,⟨g,w,M⟩,0⟩else⟨gs.getD j default,(⟨.idle,false,Deaf t j,0,.old⟩:ae.Lo At),⟨gs.getD j default,w,λ_=>False⟩,q j⟩
def n6(c:db)(gs:ubc)(t:Trace)(q:uas)(l0:ae.Lo At)(g:uai)(w:aH)(M:c5):List (cB (ak (ar c))):=(List.range gs.size).map (FU c gs t q l0 g w M)
variable{gs:ubc}{t:Trace}{q:uas}{l0:ae.Lo At}{g:uai}{w:aH}{M:c5}
def vn{j:Nat}{r:cB (ak (ar c))}(h:(n6 c gs t q l0 g w M)[j]?=some r):j<gs.size/\r=FU c gs t q l0 g w M j:=by unfold n6 at h;grind
theorem FV:(n6 c gs t q l0 g w M).length=gs.size:=by simp[n6]
def anW(h:0<gs.size):(n6 c gs t q l0 g w M)[0]?=some (⟨g,l0,⟨g,w,M⟩,0⟩:cB (ak (ar c))):=by unfold n6;rw[vbg,List.getElem?_range h];rfl
theorem Dn{j:Nat}(h:j≠0):FU c gs t q l0 g w M j=⟨gs.getD j default,(⟨.idle,false,Deaf t j,0,.old⟩:ae.Lo At),⟨gs.getD j default,w,λ_=>False⟩,q j⟩:=by unfold FU;grind
def anX(h0:gs[0]?=some g):kp (ak (ar c)) (n6 c gs t q l0 g w M)=gs:=by
 apply vch;intro j;rw[Bx];cases a:(n6 c gs t q l0 g w M)[j]? with
 |none=>grind[FV]
 |some r=>
  obtain⟨b,rfl⟩:=vn a;by_cases e:j=0
  .subst e;rw[h0];rfl
  simp_all[Dn]
theorem Sb{f:bT->Nat}(b:f .idle=0):∀(xs:List bT),(∀x∈xs,x=.idle)->ae.aX f xs=0
 | [],_=>rfl
 |a::xs,h=>by have d:=h a Ab;subst d;have c:=Sb b xs AN;simp only[ae.aX,vdc,List.sum_cons,b]at c⊢;omega
def anY:∀(xs:uag)(a:Nat),xs[0]?=some a->(∀j x,j≠0->xs[j]?=some x->x=0)->xs.sum=a
 | [],a,h,_=>AN
 |b::xs,a,h,d=>by
  simp at h;subst h;have:∀(c:uag),(∀x∈c,x=0)->c.sum=0:=by intro c;induction c with|nil=>grind|cons y c f=>simp_all
  have:=this xs (λx e=>by
   obtain⟨j,g⟩:=List.mem_iff_getElem?.1 e;exact d (j+1) x AY AN)
  grind
def anZ{f0 v:Nat}{b0:cj}(F:l0=⟨.idle,false,0,f0,.main (.spawn 0 false)⟩)(y:0<gs.size)(hn:gs.size=c.rows c.N)(eR:gs.size<=c.most)(d:b0.aX=0/\b0.ea=false/\b0.gz=0/\b0.taken=0/\b0.came=0/\b0.done.length=c.N/\b0.least=none):
 (ak (ar c)).pl (⟨⟨false,false,false,0,0,v⟩,f0+c.C*c.N,b0⟩:ae.aM cj) ((n6 c gs t q l0 g w M).map (·.l)):=by
 have get:∀{j:Nat}{l:ae.Lo At},((n6 c gs t q l0 g w M).map (·.l))[j]?=some l->(j=0/\l=l0)\/(j≠0/\l=⟨.idle,false,Deaf t j,0,.old⟩):=by
  intro j l h;rw[vbg]at h;obtain⟨r,A,rfl⟩:=vaj.1 h;obtain⟨n,rfl⟩:=vn A;by_cases e:j=0
  .subst e;exact .inl ⟨U,U⟩
  grind[Dn]
 have D:((n6 c gs t q l0 g w M).map (·.l))[0]?=some l0:=by rw[vbg,anW y];rfl
 have u:∀{j:Nat}{a:At},(((n6 c gs t q l0 g w M).map (·.l)).map (·.aj))[j]?=some a->(j=0/\a=.main (.spawn 0 false))\/(j≠0/\a=.old):=by grind
 have zero:∀(f:At->Nat),f (.main (.spawn 0 false))=0->f .old=0->di f (((n6 c gs t q l0 g w M).map (·.l)).map (·.aj))=0:=λf n B=>
  LA f _ λi x z=>AN
 have idle:∀x∈((n6 c gs t q l0 g w M).map (·.l)).map (·.mx),x=.idle:=by grind[List.mem_iff_getElem?]
 have ci:=λf m=>Sb (f:=f) m _ idle;refine⟨⟨?_,λ_=>?_,AN,λe=>?_,λi v' o hi=>?_⟩,⟨λk p hk=>?_,λs hs=>.inl ?_,⟨.spawn 0 false,?_,d.2.1,d.2.2.1,zero _ U U,zero _ U U⟩,λj s b=>?_,?_,AN,d.2.2.2.2.2.1,λp=>?_,λj a b pv C _=>?_,?_,λ⟨j,a,b,m⟩=>?_⟩,?_,λi l hi ht=>?_,λi l hi _=>?_,?_⟩
 .exact ci _ U
 .exact⟨by rw[ci gy U,ci dQ U];rfl,ci _ U,ci _ U,by rw[ci fT U,ci dQ U];rfl⟩
 .exact absurd e.2.2.2 AN
 .grind
 .grind[FV]
 .grind
 .grind
 .grind
 .rw[d.1];exact(zero _ U U).symm
 .grind[dJ,hand,nn]
 .rcases u b with⟨_,rfl⟩|⟨_,rfl⟩<;>simp[laid]at C
 .have:∀k,iY (λp=>di (dK p) (((n6 c gs t q l0 g w M).map (·.l)).map (·.aj))*c.rows p) k=0:=λk=>by induction k with|zero=>rfl|succ k E=>grind[ej.iY,dK,nn]
  refine⟨AN,λq e=>?_,λp _ h=>?_⟩
  .rw[d.2.2.2.2.2.2]at e;cases e
  .exact absurd (zero (dK p) U U) (Nat.ne_of_gt h)
 .rcases u b with⟨_,rfl⟩|⟨_,rfl⟩<;>simp[ej.xK]at m
 .have n:(((n6 c gs t q l0 g w M).map (·.l)).map (·.fuel)).sum=f0:=by refine anY _ _ AN λj x b z=>?_;grind
  have B:qe ⟨false,false,false,0,0,v⟩ (((n6 c gs t q l0 g w M).map (·.l)).map (·.mx))=0:=by unfold qe;rw[ci dQ U,ci ei U]
  grind
 .grind
 .grind
 grind[FV]
end
end
section
open av gH
section
variable{c:db}{P:ck}{cq:uae}{SM:ae.Lo At->aV->Prop}
def Do(c:db)(P:ck)(cq:uae)(SM:ae.Lo At->aV->Prop):Bool->ae.Lo At->aV->Prop
 |true,l,X=>SM l X
 |false,l,X=>(l.aj=.old/\∃k,QuitsD P k l.deaf X.g)\/∃q f,l=⟨.idle,false,1,f,.gone q⟩/\(∃k,QuitsD P k 1 X.g)/\kq c cq q X.mine X.w
def an0:∀(l:ae.Lo At) X,Do c P cq SM false l X->(ak (ar c)).Left l/\∃n,QuitsD P n ((ak (ar c)).deaf l) X.g:=by
 rintro l X (⟨b,a⟩|⟨q,f,rfl,a,_⟩)
 .grind[qh]
 .exact⟨PA,a⟩
def an1{gs:ubc}{t:Trace}{q:uas}{g:uai}{w:aH}{M:c5}{Shun:uan}{f0 v:Nat}{b0:cj}(h0:gs[0]?=some g)(hrun:g.status=.running)(C:Leavers P t gs q)(u:mQ Shun w.heap.size 0 gs.size t)(hn:gs.size=c.rows c.N)(eR:gs.size<=c.most)(d:b0.aX=0/\b0.ea=false/\b0.gz=0/\b0.taken=0/\b0.came=0/\b0.done.length=c.N/\b0.least=none)(z:w.heap[c.st]?=some (gE (ar c) ⟨false,false,false,0,0,v⟩ b0)/\(ar c).nS b0 w)(x:∀b,M b->¬(ak (ar c)).g7 b/\¬c.K b)(o:∀b,M b\/c.K b\/(ak (ar c)).g7 b->b<w.heap.size/\∀l,eT l=some b->¬Shun l)(ht:bd (ak (ar c)) P (Do c P cq SM) true ⟨.idle,false,0,f0,.main (.spawn 0 false)⟩ ⟨⟨false,false,false,0,0,v⟩,f0+c.C*c.N,b0⟩ ⟨g,w,M⟩):
 Inv (ak (ar c)) P (Do c P cq SM) gs.size (n6 c gs t q ⟨.idle,false,0,f0,.main (.spawn 0 false)⟩ g w M) ⟨⟨false,false,false,0,0,v⟩,f0+c.C*c.N,b0⟩ w t:=by
 have y:0<gs.size:=(vag.1 h0).1;have G:=df (bu c);refine⟨λj r a=>?_,anZ U y hn eR d,z,λj r a=>?_,λj r a b n=>?_,λj k r s a hk A b i p=>?_,AN,λj r a D _=>?_,⟨none,λj r a=>?_,?_⟩,by grind[FV]⟩
 .obtain⟨i,rfl⟩:=vn a;by_cases e:j=0
  .subst e;exact .runs U hrun ht Ab u.hears U I3
  .have B:(j==0)=false:=by simp[e]
   rw[Dn e,B];have hq:=C.old j (gs.getD j default) AY BB;exact .leaves U hq trivial (.inl ⟨U,_,hq⟩)
 .obtain⟨i,rfl⟩:=vn a;unfold FU;split<;>exact⟨⟨λ_ _=>U,vad _,.refl _⟩,.refl _,U,U⟩
 .obtain⟨i,rfl⟩:=vn a;by_cases e:j=0
  .subst e;exact⟨(x b n).1,(x b n).2,(o b (.inl n)).1⟩
  grind[Dn]
 .obtain⟨_,rfl⟩:=vn a;obtain⟨_,rfl⟩:=vn hk;grind[Dn]
 .obtain⟨_,rfl⟩:=vn a;rw[Dn D];exact⟨PA,λb h=>h⟩
 .obtain⟨_,rfl⟩:=vn a;grind[FU]
 .refine anV u FV U U U (WC G _ _ _ _) (λb d=>(o b ?_).2) (λj b a E=>?_) (λl f=>?_)
  .rcases d with d|⟨r,m,d⟩
   .exact .inr (.inl d)
   .obtain⟨_,rfl⟩:=vn m;exact .inl d
  .obtain⟨r,m,d⟩:=E;obtain⟨_,rfl⟩:=vn m;grind[Dn]
  .rcases f with f|f
   .obtain⟨b,i,p⟩:=G.EO l f;grind
   .obtain⟨b,i,p⟩:=G.Bq l f;grind
end
section
variable{P:ck}{Post:fE}{p:j6}{g g1:uai}{w:aH}
def FX(p:j6)(l:Loc):Prop:=p.eU l\/(Wu p l/\∃b,eT l=some b/\b<p.size)
theorem an2{t:Trace}(f:eh p t)(hk:∀i j,t.g? i=some j->p.past j->t.counts i->Knows t 0 i)(s:∀j,j≠0->j<p.n->p.past j)(hd:Deaf t 0=0):mQ (FX p) p.size 0 p.n t:=by
 have nO:∀i a,touchAt t i=some a->a.loc.isMemory=true->a.kind=.atomic->FX p a.loc:=λi a m l hk=>by obtain⟨b,g⟩:=aiy l;exact(f.nO i a m l hk).imp id λhn=>⟨hn,b,g,f.low i a b m g⟩
 have q:∀{i:Nat}{op:MemOp},t[i]?=some op->op.g≠0->p.past op.g:=λh d=>s _ d (f.gs _ _ h);refine⟨λop c=>?_,λop c a e=>?_,nO,f.xA,λi a m l=>?_,λi j o d u=>?_,hd,f.low⟩
 .obtain⟨i,hi⟩:=Array.mem_iff_getElem?.1 c;exact f.gs i op hi
 .obtain⟨i,hi⟩:=Array.mem_iff_getElem?.1 c;exact f.p_ i a (by grind[Trace.act?])
 .obtain⟨op,n,v⟩:=touch_of m;by_cases e:op.g=0
  .grind[knows_own]
  .by_cases r:a.kind=.atomic
   .grind
   .exact .inl (hk i op.g HH (q n e) ⟨a,by grind[Trace.act?],l,.inl r⟩)
 .unfold Trace.g? at o;obtain⟨op,n,rfl⟩:=vaj.1 o;obtain⟨k,z,x,w,g⟩:=hk i op.g HH (q n d) u;refine⟨k,HH,?_⟩;rcases g with rfl|g
  .grind
  grind
def an3(hs:g.status=.running)(hstep:∀w,stepG P true g w=.go g1 w #[⟨.mark (.acquire p.wg),false,true⟩])(F:∀j,j≠0->j<p.n->p.past j)(hsz:w.heap.size=p.size)(u:∀k,ca P Post p.n (FX p) 0 g1 (w.at k)):
 ∀(M:Nat)(gs:ubc)(sl:ubd)(q:uas)(t:Trace)(a:Nat),sumTo gs.size q<=M->gs.size=p.n->gs[0]?=some g->Leavers P t gs q->eh p t->Deaf t 0=0->lN P Post (crowd gs (w.at a) sl) t:=by
 have own:∀(gs:ubc)(sl sl':ubd)(q:uas)(t:Trace)(a k:Nat),stepT P (crowd gs (w.at a) sl)=runT P (crowd gs (w.at k) sl') 0->gs.size=p.n->gs[0]?=some g->Leavers P t gs q->eh p t->Deaf t 0=0->lN P Post (crowd gs (w.at a) sl) t:=by
  intro gs sl sl' q t a k hst hn h0 b c hd;have n:=runT_crowd_go (P:=P) (sl:=sl') (i:=0) h0 (show stepG P (0==0) g (w.at k)=_ from hstep _);have d:0<gs.size:=(vag.1 h0).1;have H:=Lg 0 g.frame.fn g.frame.place (.acquire p.wg);obtain⟨L,hk⟩:=c.aiG (y:=({g:=0,fn:=g.frame.fn,pos:=g.frame.place,act:=.mark (.acquire p.wg)}:MemOp)) U AY U hd;have I:Deaf (t++MemOp.ofEvents 0 g.frame.fn g.frame.place #[⟨.mark (.acquire p.wg),false,true⟩]) 0=0:=by rw[Deaf_own,hd];rfl
  have K:mQ (FX p) p.size 0 p.n (t++MemOp.ofEvents 0 g.frame.fn g.frame.place #[⟨.mark (.acquire p.wg),false,true⟩]):=by grind[an2,EP]
  refine lN.step (hst.trans n) (u k _ _ q _ AN AN ⟨λj x m l=>?_,λj m=>?_⟩ (by rw[show(w.at k).heap.size=p.size from hsz];grind))
  .have f:0≠j:=by omega
   rw[vdh f,vbw]at l;obtain⟨y,r,rfl⟩:=vaj.1 l;have hq:=b.old j y m r;grind[woken_quitsD,BD]
  .rw[BD _ _ _ _ AN];exact b.above j AN
 intro M;induction M with
 |zero=>
  intro gs sl q t a C hn h0 b c hd;obtain⟨i,v,k,sl',hi,hg,hst⟩:=crowd_pick (P:=P) (w:=w.at a) (sl:=sl) (EW b h0 hs) AN;rcases vbh i with rfl|e
  .exact own gs sl sl' q t a k hst hn h0 b c hd
  .obtain⟨gs',h,fn,pos,es,_,_,_,_,_,d⟩:=PI (w:=w) (k:=k) (sl':=sl') b h0 hs e hi hg;omega
 |succ M o=>
  intro gs sl q t a C hn h0 b c hd;obtain⟨i,v,k,sl',hi,hg,hst⟩:=crowd_pick (P:=P) (w:=w.at a) (sl:=sl) (EW b h0 hs) AN;rcases vbh i with rfl|e
  .exact own gs sl sl' q t a k hst hn h0 b c hd
  .obtain⟨gs',h,fn,pos,es,B,J,A,z,E,D⟩:=PI (w:=w) (k:=k) (sl':=sl') b h0 hs e hi hg;have d:i<gs.size:=(vag.1 hi).1;refine lN.step (hst.trans B) (o gs' sl' h _ k AY AY A z ?_ ?_)
   .exact eh.mute (p:=p) (i:=i) AY fn pos es.toList c AN
   .rw[Deaf_other t (g':=i) AY _ (λop s=>DN)];exact hd
end
end
section
open av gH
section
variable{c:db}{P:ck}{Post:fE}{cq:uae}
structure FZ(c:db)(cq:uae)(M:c5)(w0:aH)(n':Nat)(a9:uan)(M':c5)(D:uam)(w':aH):Prop where
 n:n'<=c.most
 qE:∀b,M' b\/w'.heap.size<=b->∀l,eT l=some b->¬a9 l
 ZM:∀off sp,2<=off->¬a9 (.cell ⟨c.st,off,sp⟩)
 ZN:a9 (.cell ⟨c.st,0,none⟩)/\a9 (.cell ⟨c.st,1,none⟩)
 sub:∀b,M b\/c.K b\/b=c.cx->M' b
 low:∀b,M' b\/b=c.st->b<w'.heap.size
 I5:¬M' c.st
 len:D.length=c.N
 done:w'.heap[c.cx]?=some (.cells D.toArray c.BN)
 st:∃T m L,w'.heap[c.st]?=some (.cells #[.int .i32 0,.int .u32 0,c.size,c.zX,.I ((T:Nat):Int),.I ((m:Nat):Int),c.xN,L.elim c.least c.place] c.LD)/\(∀q,L=some q->c.bad q=true/\q<c.N)/\∀p,p<c.N->c.bad p=true->∃q,L=some q/\q<=p
 stands:∀b,c.K b\/M b->w'.heap[b]?=w0.heap[b]?
 size:w0.heap.size<=w'.heap.size
 os:OsLater w0.os w'.os
 output:w'.output=w0.output
 tape:w'.tape=w0.tape
 BV:∃g:Nat->Nat->Prop,(∀p b,p<c.N->g p b->M' b)/\(∀p p' b,p<c.N->p'<c.N->p≠p'->g p b->¬g p' b)/\∀p,p<c.N->c.bad p=false->∃v,D[p]?=some v/\cq p v (g p) w'
def I6(c:db)(P:ck)(M:c5)(w0:aH)(l3:Goroutine->Prop)(l:ae.Lo At)(X:aV):Prop:=
 (l.mx=.idle/\l.deaf=0/\l.aj=.main .over)/\(∃g1,(∀w,stepG P true X.g w=.go g1 w #[⟨.mark (.acquire ⟨c.wg,0,none⟩),false,true⟩])/\∃g',l3 g'/\∃k,∀w,Goes P true (λ_ _=>True) Go.ConcR.DC0 (λg2 _=>g2=g') k g1 w)/\ai (ak (ar c)) M w0 X.w/\∀b,M b->X.mine b
def an4{m:bh}{xs:List bT}(h:dp m xs)(hi:∀x∈xs,x=.idle):m.L=false/\m.W=false/\m.S=false/\m.k=0/\m.sema=0:=by
 have ci:=λf a=>Sb (f:=f) a _ hi;have d:=h.o;rw[ci _ U]at d;have e:m.L=false:=AN;have b:m.S=false:=by cases hs:m.S with
  |false=>rfl
  |true=>have:=h.st hs;rw[ci fT U,ci fy U]at this;omega
 have c:=h.nm b;rw[ci gy U,ci dQ U,ci fT U]at c;grind
def an5(ic:∀T v M w M' w',cq T v M w->(∀b,c.K b\/M b->w'.heap[b]?=w.heap[b]?)->(∀b,M b->M' b)->cq T v M' w'){n:Nat}{g:uai}{l3:Goroutine->Prop}{w w0:aH}{M:c5}{Shun:uan}{f0 v:Nat}{b0:cj}(hrun:g.status=.running)(hn:n=c.rows c.N)(eR:n<=c.most)(u:b0.aX=0/\b0.ea=false/\b0.gz=0/\b0.taken=0/\b0.came=0/\b0.done.length=c.N/\b0.least=none)(ni:w.heap[c.st]?=some (gE (ar c) ⟨false,false,false,0,0,v⟩ b0)/\(ar c).nS b0 w)(cX:∀b,M b->¬(ak (ar c)).g7 b/\¬c.K b)(jA:∀b,M b\/c.K b\/(ak (ar c)).g7 b->b<w.heap.size/\∀l,eT l=some b->¬Shun l)(ht:∀k,bd (ak (ar c)) P (Do c P cq (I6 c P M w0 l3)) true ⟨.idle,false,0,f0,.main (.spawn 0 false)⟩ ⟨⟨false,false,false,0,0,v⟩,f0+c.C*c.N,b0⟩ ⟨g,w.at k,M⟩)(Sc:∀g',l3 g'->∀n' a9 M' D w',FZ c cq M w0 n' a9 M' D w'->ca P Post n' a9 0 g' w'):ca P Post n Shun 0 g w:=by
 intro gs sl q t hsz h0 aB gj;have G:=df (bu c);have an6:=an1 (c:=c) (cq:=cq) (SM:=I6 c P M w0 l3) (M:=M) h0 hrun aB AN (hsz.trans hn) AN u ni cX jA (ht w.drawn);obtain⟨N,m',t1,ZO,rs,γ,w1,ZP,rfl,⟨R,I,ML,sk⟩,hI,zQ⟩:=phase G an0 an6 (by rw[FV];grind) sl;rw[anX h0]at ZO;refine lN.leads (q:=λm t=>m=crowd (kp (ak (ar c)) rs) w1 ZP/\t=t1) (λm t L=>?_) N ZO ⟨rfl,rfl⟩;obtain⟨rfl,rfl⟩:=L;obtain⟨⟨hmx,By,ml⟩,⟨g1,an7,g',an8,kk,an9⟩,Z,da⟩:=ML;have mP:r4 (ar c) γ (rs.map (·.l)):=hI.s9;have F:cT c.N c.rows c.bad γ.aj ((rs.map (·.l)).map (·.aj)):=mP.oB;have Sd:∀{j:Nat}{r:cB (ak (ar c))},rs[j]?=some r->(rs.map (·.l))[j]?=some r.l:=λh=>AN;have Cb:∀{j:Nat}{r:cB (ak (ar c))},rs[j]?=some r->((rs.map (·.l)).map (·.aj))[j]?=some (show ae.Lo At from r.l).aj:=λh=>AN;have MM:((rs.map (·.l)).map (·.aj))[0]?=some (.main .over):=AN;have ZQ:∀{j:Nat}{r:cB (ak (ar c))},j≠0->rs[j]?=some r->(ak (ar c)).Left r.l:=λE h=>(F.all MM _ _ (Cb h)).resolve_left E;have an_:∀{j:Nat}{r:cB (ak (ar c))},j≠0->rs[j]?=some r->QuitsD P r.n (Deaf t j) r.g/\Do c P cq (I6 c P M w0 l3) false r.l r.X:=by intro j r E h;have e0:(j==0)=false:=AN;have hs:=hI.sits j r h;rw[e0]at hs;cases hs with|runs _ _ _ _ _ _ B=>grind|waits _ _ _ _ _ _ _ _ B=>grind|leaves _ hq _ hs=>grind
 obtain⟨aW,Lh,hT⟩:=hI.aW;have aoa:R.X.g.status=.running:=by cases hI.sits 0 R I with|runs _ o _ _ _ _ _=>exact o|waits _ o _ _ _ _ _ _ _=>exact o|leaves L _ _ _=>cases L
 have aob:Deaf t 0=0:=by cases hI.sits 0 R I with|runs _ _ _ _ hd _ _=>grind|waits _ _ _ _ qb _ hd _ _=>grind|leaves L _ _ _=>cases L
 have aoc:(iX (ak (ar c)) gs.size rs w1.heap.size aW).n=rs.length:=rfl;have aod:Leavers P t (kp (ak (ar c)) rs) (λj=>((rs[j]?).map (·.n)).getD 0):=by
  refine⟨λi x hi K=>?_,λj E=>?_⟩
  .grind[Bx]
  .refine Deaf_absent λi op hi e=>?_;have:=hT.gs i op hi;grind[kp]
 have us:∀j,j≠0->j<(iX (ak (ar c)) gs.size rs w1.heap.size aW).n->(iX (ak (ar c)) gs.size rs w1.heap.size aW).past j:=by intro j E W;have o:rs[j]?=some rs[j]:=vas W;refine⟨rs[j],o,?_⟩;have:=ZQ E o;show i7 (show ae.Lo At from rs[j].l).aj=true;have f:qh (show ae.Lo At from rs[j].l).aj:=this;cases z:(show ae.Lo At from rs[j].l).aj with|gone _=>rfl|old=>rfl|main _=>rw[z]at f;exact f.elim|work _ _=>rw[z]at f;exact f.elim
 let M':Nat->Prop:=λb=>M b\/c.K b\/b=c.cx\/∃(j:Nat)(r:cB (ak (ar c))),rs[j]?=some r/\r.X.mine b
 have aoe:∀b,M' b->b≠c.st/\b≠c.wg:=by
  rintro b (h|h|h|⟨j,r,o,h⟩)
  .grind
  .exact⟨(c.uz b h).1,(c.uz b h).2.1⟩
  .exact⟨λe=>c.eK.2.1 (e.symm.trans h),λe=>c.eK.2.2 (e.symm.trans h)⟩
  .have:=(hI.sh j r o b h).1;grind
 have eJ:∀b,M' b->∀l,eT l=some b->¬FX (iX (ak (ar c)) gs.size rs w1.heap.size aW) l:=by
  intro b u l B hs;rcases hs with hs|⟨⟨hg,hn⟩,_⟩
  .have oy:l=.cell (ae.fI (ar c))\/l=.cell (ae.kL (ar c))\/(l=.cell ⟨c.wg,0,none⟩\/l=.cell ⟨c.wg,1,none⟩):=hs;rcases oy with rfl|rfl|rfl|rfl<;>simp only[eT,vbk,ae.fI,ae.kL]at B
   .grind
   .grind
   .grind
   grind
  .obtain⟨hK,L⟩:=hn b B;rcases u with h|h|h|⟨j,r,o,h⟩
   .exact L 0 ⟨R,I,(da b) h⟩
   .exact hK h
   .subst h;exact hg (.inr B)
   .exact L j ⟨r,o,h⟩
 refine an3 (w:=w1) aoa an7 us rfl (λk=>?_) _ _ ZP _ t w1.drawn IB (by simp[kp,aoc]) (by rw[Bx,I];grind) aod hT aob;have zJ:∀{j:Nat}{r:cB (ak (ar c))},rs[j]?=some r->∀b,c.K b\/r.X.mine b->w1.heap[b]?=r.X.w.heap[b]?:=λh b u=>(hI.rely _ _ h).1.heap b u;have ZR:w1.heap[c.st]?=some (gE (ar c) γ.mu γ.aj)/\w1.heap[c.wg]?=some (se c γ.aj)/\(True->w1.heap[c.cx]?=some (E3 c γ.aj)):=hI.mt;have aof:∀x∈(rs.map (·.l)).map (λl:ae.Lo At=>l.mx),x=.idle:=by
  intro x K;obtain⟨l,B,rfl⟩:=vbz.1 K;obtain⟨r,o,rfl⟩:=vbz.1 B;obtain⟨j,E⟩:=List.mem_iff_getElem?.1 o;by_cases e:j=0
  .grind
  .exact mP.bN j r.l (Sd E) (ZQ e E)
 obtain⟨m1,om,BM,zW,aog⟩:=an4 mP.lP aof;have Lu:γ.mu.word=0:=Gu;obtain⟨zK,tH,KZ,aoh⟩:=hI.rely 0 R I;have key:∀p,p<c.N->∃(j:Nat)(r:cB (ak (ar c)))(d:uac)(x:Nat×Value),rs[j]?=some r/\(show ae.Lo At from r.l).aj=.gone d/\x∈d/\x.1=p/\kq c cq d r.X.mine r.X.w:=by
  intro p z;have kI:γ.aj.taken=c.N:=by
   rcases F.sc .over MM with⟨d,e⟩|⟨a,ha,hw⟩
   .cases e
   .have Dp:=(F.all MM _ _ ha);refine F.dU ⟨_,a,ha,?_⟩;rcases Dp with e|e
    .rw[e,MM]at ha;cases ha;cases hw
    .cases a<;>first|exact e.elim|rfl|cases hw
  have dE:=F.own p;rw[kI,vdi z]at dE;obtain⟨j,a,E,Q⟩:∃(j:Nat)(a:At),((rs.map (·.l)).map (λl:ae.Lo At=>l.aj))[j]?=some a/\0<dJ p a:=by
   by_cases Y:∃(j:Nat)(a:At),((rs.map (·.l)).map (λl:ae.Lo At=>l.aj))[j]?=some a/\0<dJ p a
   .exact Y
   .exfalso;have hz:di (dJ p) ((rs.map (·.l)).map (λl:ae.Lo At=>l.aj))=0:=LA _ _ λi x K=>by
     rcases vbh (dJ p x)with e|e
     .exact e
     .exact absurd ⟨i,x,K,e⟩ Y
    have kr:di (dJ p) ((rs.map (·.l)).map (λl:ae.Lo At=>l.aj))=1:=dE;omega
  have X:=E;rw[vbg]at X;obtain⟨l,B,rfl⟩:=vaj.1 X;rw[vbg]at B;obtain⟨r,o,rfl⟩:=vaj.1 B;have FW:j≠0:=by rintro rfl;rw[I]at o;cases o;rw[ml]at Q;simp[dJ,hand,nn]at Q
  rcases(an_ FW o).2 with⟨e,_⟩|⟨d,f',e,_,jY⟩
  .rw[e]at Q;simp[dJ,hand,nn]at Q
  .rw[e]at Q;simp only[dJ,hand,nn,List.count_nil,vby]at Q;obtain⟨x,K,Se⟩:=vbz.1 (veb.1 Q);exact⟨j,r,d,x,o,Gn,K,Se,jY⟩
 have HL:∀j:Nat,∃G:Nat×Value->Nat->Prop,∀r d,rs[j]?=some r->(show ae.Lo At from r.l).aj=.gone d->kq c cq d r.X.mine r.X.w->(∀x∈d,(∀b,G x b->r.X.mine b)/\(c.bad x.1=false->cq x.1 x.2 (G x) r.X.w))/\∀x∈d,∀y∈d,x≠y->∀b,G x b->¬G y b:=by
  intro j;by_cases h:∃r d,rs[j]?=some r/\(show ae.Lo At from r.l).aj=.gone d/\kq c cq d r.X.mine r.X.w
  .obtain⟨r,d,s,f,A⟩:=h;obtain⟨G,hG⟩:=A.pick;refine⟨G,λr2 aT J S _=>?_⟩;rw[s]at J;cases J;rw[f]at S;cases S;exact hG
  .exact⟨λ_ _=>False,λr d s f A=>absurd ⟨r,d,s,f,A⟩ h⟩
 obtain⟨ZS,V⟩:=vbj.1 HL;have O:∀p,∃(j:Nat)(x:Nat×Value),p<c.N->x.1=p/\∃(r:cB (ak (ar c)))(d:uac),rs[j]?=some r/\(show ae.Lo At from r.l).aj=.gone d/\x∈d/\kq c cq d r.X.mine r.X.w:=by
  intro p;by_cases z:p<c.N
  .obtain⟨j,r,d,x,s,f,A,H,a6⟩:=key p z;exact⟨j,x,λ_=>⟨H,r,d,s,f,A,a6⟩⟩
  .exact⟨0,(0,undef),λh=>absurd h z⟩
 obtain⟨U,O⟩:=vbj.1 O;obtain⟨Bp,O⟩:=vbj.1 O;have h_:∀k,FZ c cq M w0 rs.length (FX (iX (ak (ar c)) gs.size rs w1.heap.size aW)) M' γ.aj.done (w1.at k):=by
  intro k;refine⟨by have:=mP.len;grind,λb u l B=>?_,λoff sp f hs=>?_,⟨.inl Ij,.inl (.inr Ij)⟩,?_,?_,λh=>(aoe _ h).1 rfl,F.len,?_,⟨γ.aj.taken,γ.aj.came,γ.aj.least,?_,F.came.2.1,λp z eG=>F.came.2.2 p eG ?_⟩,λb u=>?_,vac Z.size zK.size,Z.later.trans tH,KZ.trans Z.output,aoh.trans Z.tape,λp=>ZS (U p) (Bp p),λp b z u=>?_,λp p' b z oE hne u C=>?_,λp z eG=>?_⟩
  .rcases u with u|u
   .grind
   .rintro(hs|⟨_,b',C,W⟩)
    .obtain⟨b',C,oy⟩:=G.Bq l hs;rw[B]at C;cases C;have:=hI.low b (.inr oy);have e:(w1.at k).heap.size=w1.heap.size:=rfl;omega
    .rw[B]at C;cases C;have e:(iX (ak (ar c)) gs.size rs w1.heap.size aW).size=w1.heap.size:=rfl;have e':(w1.at k).heap.size=w1.heap.size:=rfl;omega
  .rcases hs with hs|⟨⟨hg,_⟩,_⟩
   .have oy:(.cell ⟨c.st,off,sp⟩:Loc)=.cell (ae.fI (ar c))\/(.cell ⟨c.st,off,sp⟩:Loc)=.cell (ae.kL (ar c))\/((.cell ⟨c.st,off,sp⟩:Loc)=.cell ⟨c.wg,0,none⟩\/(.cell ⟨c.st,off,sp⟩:Loc)=.cell ⟨c.wg,1,none⟩):=hs;grind[ae.fI,ae.kL]
   .exact hg (.inl ⟨off,sp,rfl,f⟩)
  .rintro b (h|h|h)
   .exact .inl h
   .exact .inr (.inl h)
   .exact .inr (.inr (.inl h))
  .rintro b ((h|h|h|⟨j,r,o,h⟩)|h)
   .exact(hI.sh 0 R I b ((da b) h)).2.2
   .exact hI.low b (.inl h)
   .exact hI.low b (.inr (.inr (.inr h)))
   .exact(hI.sh j r o b h).2.2
   .exact hI.low b (.inr (.inl h))
  .exact ZR.2.2 trivial
  .show w1.heap[c.st]?=_;rw[ZR.1];unfold gE;rw[Lu,aog];rfl
  .obtain⟨j,r,d,x,o,e,K,Se,-⟩:=key p z;have s:=nT (dK p) _ j _ (Cb o);have f:1<=dK p (show ae.Lo At from r.l).aj:=by rw[e];exact veb.2 (vbz.2 ⟨x,K,Se⟩)
   exact van f s
  .exact(zJ I b (u.imp id (da b))).trans (Z.heap b u)
  .obtain⟨-,r,d,s,f,A,H⟩:=O p z;exact .inr (.inr (.inr ⟨U p,r,s,((V _ r d s f H).1 _ A).1 b u⟩))
  .obtain⟨e1,r,d,s,f,A,H⟩:=O p z;obtain⟨e2,r2,aT,J,S,k3,k4⟩:=O p' oE;have m1:=((V _ r d s f H).1 _ A).1 b u;have om:=((V _ r2 aT J S k4).1 _ k3).1 b C;replace C:ZS (U p') (Bp p') b:=C;by_cases uN:U p=U p'
   .rw[<-uN]at J C;rw[s]at J;cases J;rw[f]at S;cases S;exact(V _ r d s f H).2 _ A _ k3 (λe=>hne (by rw[<-e1,<-e2,e])) b u C
   .exact hI.apart _ _ r r2 s J uN b m1 om
  .obtain⟨e1,r,d,s,f,A,H⟩:=O p z;have a1:=F.val (U p) _ (Cb s) (Bp p) (by rw[f];exact A);have bA:=((V _ r d s f H).1 _ A).2;rw[e1]at a1 bA;exact⟨(Bp p).2,a1 eG,ic _ _ _ _ _ _ (bA eG) (λb u=>zJ s b (u.imp_right (((V _ r d s f H).1 _ A).1 b))) (λ_ h=>h)⟩
 exact wo (WK kk g1 (w1.at k) (an9 _) λk'=>Sc g' an8 _ _ _ _ _ (h_ k'))
end
end
end cW
namespace tM
open Conc ConcM av bn ae ej
section
section
variable{c:db}{Q:ck}{Stop:Bool->ae.Lo At->aV->Prop}{l:ae.Lo At}{γ:ae.aM cj}{X:aV}{w':aH}
def aoi{P:ck}{main:Bool}{b:Frame}{a:Act}{k:uab}{cs:fA}{w:aH}{ops:eQ}{i:Nat}{rest:uag}{o:Oper}{f:ual}{x:uaq}{cap:dC}{ats:uau}(g:ops[i]?=some o)(c:Region.wanted o (yielded ops a.tmps)=true)(hk:b.kind≠ .early)(e:o.op=.go {callee:=.value x,args:=#[],argTypes:=ats})(j:a.eval x=.func (.func f) #[] cap):
 stepG P main (Conc.G (b.at a (.inRegion ops (i::rest)::k)) cs) w=.spawn (Conc.G (b.at (a.put o.dst undef) (.inRegion ops rest::k)) cs) (born P (pt f cap)) w #[]:=by
 have d:(execOp a.eval o).run P w=.ok (.spawn (pt f cap)) w:=by simp_all[execOp,resolve,Deferred.ofValue,pt]
 have h:listed P b.fn a o w=#[]:=by simp_all[listed,execOp,resolve,Deferred.ofValue,vcn]
 rw[stepG_spawn g c hk d U,h]
def aoj(o:dI (ak (ar c)) l γ X w'){g1 child:uai}(hs:stepG Q true X.g w'=.spawn g1 child w' #[])(hrun:g1.status=.running)(n:child.status=.running){f k:Nat}(p:l=⟨.idle,false,0,f+20,.main (.spawn k true)⟩)(hk:c.rows c.N+k+1<=c.most)(h:bd (ak (ar c)) Q Stop true ⟨.idle,false,0,f,.main (.spawn (k+1) false)⟩ {γ with a4:=γ.a4-1} ⟨g1,w',X.mine⟩)(u:bd (ak (ar c)) Q Stop false ⟨.idle,false,0,19,.work .free []⟩ {γ with a4:=γ.a4-1} ⟨child,w',λ_=>False⟩):Then (Z:=ak (ar c)) Q Stop true l γ X w':=by
 have hg:grown X.mine w' w'=X.mine:=j9 U;have key:∀(ls:List (ae.Lo At)),ls[0]?=some l->r4 (ar c) γ ls->1<=γ.a4/\((ls.set 0 (⟨.idle,false,0,f,.main (.spawn (k+1) false)⟩:ae.Lo At)).map (·.fuel)).sum+19+2*qe γ.mu (ls.map (·.mx))+c.C*(c.N-γ.aj.taken)<=γ.a4-1:=by
  intro ls hi b;have g:0<ls.length:=(vab.1 hi).1;have e:=ER (ls.map (·.fuel)) 0 f AN;have y:(ls.set 0 (⟨.idle,false,0,f,.main (.spawn (k+1) false)⟩:ae.Lo At)).map (·.fuel)=(ls.map (·.fuel)).set 0 f:=BB;rw[y];have w:(ls.map (·.fuel))[0]'AN=f+20:=by grind
  rw[w]at e;have D:(ls.map (λx:ae.Lo At=>x.fuel)).sum+2*qe γ.mu (ls.map (λx:ae.Lo At=>x.mx))+c.C*(c.N-γ.aj.taken)<=γ.a4:=b.g_;grind
 refine .born (l1:=(⟨.idle,false,0,f,.main (.spawn (k+1) false)⟩:ae.Lo At)) (bz:=({γ with a4:=γ.a4-1}:ae.aM cj)) (lc:=(⟨.idle,false,0,19,.work .free []⟩:ae.Lo At)) U hs ⟨hrun,n,po _ _ _,o.mt,?_,λls hi b=>?_,PA,⟨by rw[p],U,U,U⟩,AN,⟨by rw[p];rfl,U⟩,λt q=>q,λe=>e,λe=>e⟩ AN u
 .obtain⟨ls,i,hi,b⟩:∃(ls:List (ae.Lo At))(i:Nat),ls[i]?=some l/\r4 (ar c) γ ls:=o.sees;have h0:=b.oB.only i (.spawn k true) AN;grind
 .have a:r4 (ar c) γ ls:=b;obtain⟨B,A⟩:=key ls hi a;have g:0<ls.length:=(vab.1 hi).1;have s:(ls.set 0 (⟨.idle,false,0,f,.main (.spawn (k+1) false)⟩:ae.Lo At)++[(⟨.idle,false,0,19,.work .free []⟩:ae.Lo At)]).map (·.mx)=ls.map (·.mx)++[.idle]:=by grind[PS]
  have z:(ls.set 0 (⟨.idle,false,0,f,.main (.spawn (k+1) false)⟩:ae.Lo At)++[(⟨.idle,false,0,19,.work .free []⟩:ae.Lo At)]).map (·.aj)=(ls.map (·.aj)).set 0 (.main (.spawn (k+1) false))++[.work .free []]:=by simp_all
  have r:(ls.map (·.aj))[0]?=some (.main (.spawn k true)):=AN;have get:∀{i:Nat}{x:ae.Lo At},(ls.set 0 (⟨.idle,false,0,f,.main (.spawn (k+1) false)⟩:ae.Lo At)++[(⟨.idle,false,0,19,.work .free []⟩:ae.Lo At)])[i]?=some x->x=⟨.idle,false,0,f,.main (.spawn (k+1) false)⟩\/ls[i]?=some x\/x=⟨.idle,false,0,19,.work .free []⟩:=by grind
  refine⟨⟨by rw[s];exact ae.dp.push a.lP,by rw[z];exact a.oB.born r,?_,λi x d ht=>?_,λi x d v=>?_,?_⟩,λj t q E=>.inr ⟨AN,AN,.refl _ _⟩⟩
  .rw[s];have ht:qe γ.mu (ls.map (·.mx)++[.idle])=qe γ.mu (ls.map (·.mx)):=by unfold qe;rw[PM,PM];rfl
   grind
  .rcases get d with rfl|m|rfl
   .cases ht
   .exact a.aW i x m ht
   grind
  .rcases get d with rfl|m|rfl
   .rfl
   .exact a.bN i x m v
   .rfl
  .have C:=a.oB.oD k true r;grind
end
end
end tM
namespace gH
open Conc RowKit Conc.Lib ConcR.Gen ConcM av bn ae ej fY eW
def ZU(a:uaa)(pv:Value)(w:aH):(Instr.typeAssert (.iface 64 pv) a 64 false).run prog w=.ok pv w/\(Instr.typeAssert (.iface 64 pv) a 64 false).events prog w #[]=#[]:=by constructor<;>simp[Instr.typeAssert,go_sem]
section
variable{c:db}{Stop:Bool->ae.Lo At->aV->Prop}{fr a7:uas}{fK gn:Value}{iM:ual}{lR cq:uae}
def aol(i:Bool){bO:aH}(J:q8 c bO prog Stop (ba i 103 124) fK iM gn fr a7 lR cq){f T:Nat}{q:uac}{M:c5}{w0:aH}(hT:T<c.N)(hI:nr c bO w0)(aom:c.bad T=true->∀M' w1,af (ak (ar c)) M' w1 [] w1->nr c bO w1->io prog Stop false (ba i 101 122) #[.P c.st 0,c.place T] (dZ c ⟨.idle,false,0,f+16,.work (.has T) q⟩ M' w1) (λu L=>u=.tuple #[]/\∃p w2,gm (ak (ar c)) M' w1 p w2/\L=dZ c ⟨.idle,false,0,f,.work .free ((T,undef)::q)⟩ p w2))(X:c.bad T=false->∀s a_ M' w1,af (ak (ar c)) M' w1 [] w1->io prog Stop false (ba i 102 123) #[.P c.st 0,.agg #[.I (T:Int),.I (fr T:Int),.I (a7 T:Int)],.slice s (c.rows T) a_] (dZ c ⟨.idle,false,0,f+16,.work (.has T) q⟩ M' w1) (λu L=>u=.tuple #[]/\L=dZ c ⟨.idle,false,0,f,.work .free ((T,.slice s (c.rows T) a_)::q)⟩ M' w1)):
 io prog Stop false (ba i 75 109) #[.P c.st 0,fK,.agg #[.I (T:Int),.I (fr T:Int),.I (a7 T:Int)]] (dZ c ⟨.idle,false,0,f+16,.work (.has T) q⟩ M w0) (λu L=>u=.tuple #[]/\∃v M' w1,gm (ak (ar c)) M w0 M' w1/\(c.bad T=false->cq T v (λb=>M' b/\¬M b) w1)/\L=dZ c ⟨.idle,false,0,f,.work .free ((T,v)::q)⟩ M' w1):=by
 obtain⟨F,FQ⟩:∃t,t=ba i 114 185:=⟨_,rfl⟩;cases i<;>dsimp only[ba]
 all_goals
  intro aY aF az aI aK aG csZ hK w γ Q;have hF:af (ak (ar c)) M w0 [] w:=Q;clear Q;have jU:=(df (bu c)).mO;have sX:prog.follows .mixedOrders=true:=AU;first|rw[vcf _ func75 rfl]|rw[vcf _ func109 rfl]
  unfold dZ;rw[<-fV (M:=M)];refine a8 (bu c) ?_;simp only[ba,f75,f109];walk_nrm
  repeat w_go af.on
  refine fU rfl hF λd a D y g au R O hF=>?_;refine tg AN jU rfl hF (vau (v:=.P g.heap.size 0) (w':=g.alloc (Obj.cells #[.P c.st 0] F)) rfl rfl Ad Ah) rfl A1 (λY=>?_);clear hF;have hF:=Y;clear Y O R y a;generalize g.heap.size=B at hF⊢;generalize g.alloc (Obj.cells #[.P c.st 0] F)=V at hF⊢;refine a8 (bu c) ?_;walk_nrm
  repeat w_go af.on
  refine fU rfl hF λd a D y g au R O hF=>?_;refine tg AN jU rfl hF (vau (v:=.P g.heap.size 0) (w':=g.alloc (Obj.cells #[.I (T:Int),.I (fr T:Int),.I (a7 T:Int)] 175)) rfl rfl Ad Ah) rfl A1 (λY=>?_);clear hF;have hF:=Y;clear Y O R y a;generalize g.heap.size=cr at hF⊢;generalize g.alloc (Obj.cells #[.I (T:Int),.I (fr T:Int),.I (a7 T:Int)] 175)=V at hF⊢;refine a8 (bu c) ?_;walk_nrm
  repeat w_go af.on
  u_in af.on hF
  rw[akB rfl rfl Ad rfl rfl];simp only[vdm];refine⟨Be,?_⟩;walk_nrm
  repeat w_go af.on
  refine vaf (λd a=>⟨rfl,λD y=>?_⟩);replace hF:=hF.on a;clear a y;have n:=hF.bI (B,Obj.cells #[.P c.st 0] F) Ab;have r:=hF.bI (cr,Obj.cells #[.I (T:Int),.I (fr T:Int),.I (a7 T:Int)] 175) Ab;have j:b8 M [(cr,Obj.cells #[.I (T:Int),.I (fr T:Int),.I (a7 T:Int)] 175),(B,Obj.cells #[.P c.st 0] F)] B:=.inr Ab;have m:b8 M [(cr,Obj.cells #[.I (T:Int),.I (fr T:Int),.I (a7 T:Int)] 175),(B,Obj.cells #[.P c.st 0] F)] cr:=.inr Ab;have j0:=af.pu hF;refine zV (Z:=ak (ar c)) (C:=Ia c (B,Obj.cells #[.P c.st 0] F) (cr,Obj.cells #[.I (T:Int),.I (fr T:Int),.I (a7 T:Int)] 175)) AN Ad sX tr Xt (σ:=dZ c ⟨.idle,false,0,f+16,.work (.has T) q⟩ (b8 M [(cr,Obj.cells #[.I (T:Int),.I (fr T:Int),.I (a7 T:Int)] 175),(B,Obj.cells #[.P c.st 0] F)]) d) (ib:=q2 prog Stop false _ _ _ _ []) IG ⟨_,_,_,rfl,⟨j,n⟩,⟨m,r⟩,rfl⟩ ?_ _ D j0;walk_nrm
  refine iK (i:=0) (v:=.P c.st 0) tr rfl AT AT AT (Ib Ij rfl (λw E=>?_)) ⟨_,_,_,rfl,⟨j,n⟩,⟨m,r⟩,rfl⟩ ?_
  .have P:w.cell? (.a B 0)=some (.P c.st 0):=by simp[World.cell?,E]
   refine⟨Ah,λe I=>⟨0,?_⟩⟩;have K:=vbp I;simp[go_sem,P]at K;grind
  walk_nrm
  refine iK (i:=1) (v:=.agg #[.I (T:Int),.I (fr T:Int),.I (a7 T:Int)]) tr rfl AT AT AT (Ib Io rfl (λw E=>⟨(Ap E rfl rfl).1,λe I=>?_⟩)) ⟨_,_,_,rfl,⟨j,n⟩,⟨m,r⟩,rfl⟩ ?_
  .have K:=vbp I;rw[(Ap E rfl rfl).2]at K;grind
  walk_nrm
  refine iK (i:=2) (v:=fK) tr rfl AT AT AT (z0 rfl (λ_=>Ah) (λ_=>A1)) ⟨_,_,_,rfl,⟨j,n⟩,⟨m,r⟩,rfl⟩ ?_;walk_nrm
  refine iK (i:=3) (v:=.P cr 1) tr rfl AT AT AT (z0 rfl (λ_=>Ah) (λ_=>A1)) ⟨_,_,_,rfl,⟨j,n⟩,⟨m,r⟩,rfl⟩ ?_;walk_nrm
  refine iK (i:=4) (v:=.I (fr T:Int)) tr rfl AT AT AT (Ib Io rfl (λw E=>?_)) ⟨_,_,_,rfl,⟨j,n⟩,⟨m,r⟩,rfl⟩ ?_
  .have P:w.cell? (.a cr 1)=some (.I (fr T:Int)):=by simp[World.cell?,E]
   refine⟨Ah,λe I=>⟨1,?_⟩⟩;have K:=vbp I;simp[go_sem,P]at K;grind
  walk_nrm
  refine iK (i:=5) (v:=.P cr 2) tr rfl AT AT AT (z0 rfl (λ_=>Ah) (λ_=>A1)) ⟨_,_,_,rfl,⟨j,n⟩,⟨m,r⟩,rfl⟩ ?_;walk_nrm
  refine iK (i:=6) (v:=.I (a7 T:Int)) tr rfl AT AT AT (Ib Io rfl (λw E=>?_)) ⟨_,_,_,rfl,⟨j,n⟩,⟨m,r⟩,rfl⟩ ?_
  .have P:w.cell? (.a cr 2)=some (.I (a7 T:Int)):=by simp[World.cell?,E]
   refine⟨Ah,λe I=>⟨2,?_⟩⟩;have K:=vbp I;simp[go_sem,P]at K;grind
  walk_nrm
  refine qk (i:=7) AT (xR rfl rfl (xU (λw=>Qe (rv:=fK) (vs:=#[.I (fr T:Int),.I (a7 T:Int)]) rfl rfl B3 (J.inv #[.I (fr T:Int),.I (a7 T:Int)] w)) (J.akG T ⟨.idle,false,0,f+16,.work (.has T) q⟩ _ _ hT rfl j0 (hI.gQ hF)) ?_));rintro u _ ⟨co,w1,l,Sf,rfl⟩;refine⟨⟨_,_,_,rfl,⟨l.sub _ j,l.heap j n⟩,⟨l.sub _ m,l.heap m r⟩,rfl⟩,?_⟩;walk_nrm
  have bx:=J.akH T ⟨.idle,false,0,f+16,.work (.has T) q⟩ _ _ u _ (λb h=>h.1) hT rfl l.gQ ((hI.gQ hF).more l) Sf;cases N:c.bad T with
  |true=>
   have g5:=gm.start hF l;have ZW:=l.heap j n;have Sg:=l.sub _ j;have ZX:=(hI.gQ hF).more l;clear X l Sf j0 j m n r hF;refine qk (i:=8) AT (akr rfl rfl (akF (λw=>pw (vs:=#[u]) rfl (by first|exact func103|exact func124) AU rfl B3 w) (λa' i rest hd w γ Q=>?_)));refine bx _ a' _ i rest _ _ (λe L hv w γ Q=>?_) w γ Q;obtain⟨p,w2,o,zI,rfl⟩:=hv;obtain rfl:e=xV (c.place T):=by
    rcases zI with⟨h,-⟩|⟨-,h⟩
    .rw[N]at h;cases h
    .exact h
   have hF:af (ak (ar c)) p w2 [] w:=Q;clear Q zI bx;obtain⟨tm,ds⟩:=a';simp only at hd;subst hd;have U:=g5.trans o;have n:=o.heap Sg ZW;have j:=o.sub _ Sg;have qF:=ZX.more o;clear g5 o ZW Sg ZX;show bd (ak (ar c)) prog Stop false _ γ ⟨Conc.G {(base _).at ⟨tm,[pt _ #[.P B 0]]⟩ _ with mode:=.panicking [{v:=.iface 64 (c.place T),recovered:=false}]} _,w,p⟩;rw[<-fV (M:=p)];refine a8 (bu c) ?_;u_in af.on hF
   first|rw[Xp rfl func100 AU rfl]|rw[Xp rfl func121 AU rfl]
   simp only[vdm];refine⟨Be,?_⟩;simp only[ba,f100,f121];walk_nrm
   repeat w_go af.on
   u_in af.on hF
   rw[akD rfl rfl rfl rfl Ah A1];simp only[vdm];refine⟨Be,?_⟩;walk_nrm
   repeat w_go af.on
   refine fU rfl hF λd a D y g au R O hF=>?_;refine E5 AN (vau (v:=.T) rfl rfl Ad (by simp[go_sem,binOp,Op.equal];rw[show Op.maxDepth=9999+1 from rfl,Op.equalIn];simp[go_sem])) rfl A8 ?_;clear O R y a;refine a8 (bu c) ?_;walk_nrm
   repeat w_go af.on
   refine vaf (λd a=>⟨rfl,λD y=>?_⟩);replace hF:=hF.on a;clear a y;have I7:=af.pu hF;rw[fV]at I7;rw[fV];have H:gm (ak (ar c)) p w2 p d:=⟨λ_ h=>h,hF.rw,I7⟩;have A:=H.heap j n;have qG:=qF.more H;replace U:=U.trans H;clear hF H n qF;refine zV (Z:=ak (ar c)) (C:=Ia c (B,Obj.cells #[.P c.st 0] F) (B,Obj.cells #[.P c.st 0] F)) AN Ad sX tr Xt (σ:=dZ c ⟨.idle,false,0,f+16,.work (.has T) q⟩ p d) (ib:=q2 prog Stop false _ _ _ _ []) IG ⟨_,_,_,rfl,⟨j,A⟩,⟨j,A⟩,rfl⟩ ?_ _ D I7;walk_nrm
   refine iK (i:=0) (v:=.P c.st 0) tr rfl AT AT AT (Ib Ij rfl (λw E=>?_)) ⟨_,_,_,rfl,⟨j,A⟩,⟨j,A⟩,rfl⟩ ?_
   .have P:w.cell? (.a B 0)=some (.P c.st 0):=by simp[World.cell?,E]
    refine⟨Ah,λe I=>⟨0,?_⟩⟩;have K:=vbp I;simp[go_sem,P]at K;grind
   walk_nrm
   refine iK (i:=1) (v:=.iface 64 (c.place T)) tr rfl AT AT AT (z0 rfl (λ_=>Ah) (λ_=>A1)) ⟨_,_,_,rfl,⟨j,A⟩,⟨j,A⟩,rfl⟩ ?_;walk_nrm
   refine iK (i:=2) (v:=c.place T) tr rfl AT AT AT (z0 rfl (λ_=>by go_simp;simp[(ZU _ _ _).1]) (λ_=>by simp[listed,go_sem,(ZU _ _ _).2];rfl)) ⟨_,_,_,rfl,⟨j,A⟩,⟨j,A⟩,rfl⟩ ?_;walk_nrm
   refine qk (i:=3) AT (xR rfl rfl (xU (λw=>pw (vs:=#[.P c.st 0,c.place T]) rfl (by first|exact func101|exact func122) AU rfl B3 w) (aom N p d I7 qG) ?_));rintro u2 _ ⟨rfl,kf,V,S,rfl⟩;refine⟨⟨_,_,_,rfl,⟨S.sub _ j,S.heap j A⟩,⟨S.sub _ j,S.heap j A⟩,rfl⟩,?_⟩;walk_nrm
   refine zU AT ?_ _;replace U:=U.trans S;clear S j A I7 qG;intro z ew hF;replace hF:af (ak (ar c)) kf V [] z:=hF;unfold dZ;rw[<-fV (M:=kf)];refine a8 (bu c) ?_;walk_nrm
   repeat w_go af.on
   u_in af.on hF
   first|rw[Xq rfl rfl func100 rfl rfl]|rw[Xq rfl rfl func121 rfl rfl]
   simp only[vdm];refine⟨Be,?_⟩;u_in af.on hF
   refine vdv (todo:=_) rfl rfl Fa rfl ⟨Be,?_⟩;refine vaf (λd a=>⟨rfl,λD y=>?_⟩);replace hF:=hF.on a;rw[fV];exact hK (.tuple #[]) (dZ c ⟨.idle,false,0,f,.work .free ((T,undef)::q)⟩ kf V) ⟨rfl,undef,kf,V,U,λh=>(by rw[N]at h;cases h),rfl⟩ d D hF
  |false=>
  replace X:=X N;refine qk (i:=8) AT (xR rfl rfl (xU (λw=>pw (vs:=#[u]) rfl (by first|exact func103|exact func124) AU rfl B3 w) (bx.ret (oC:=λv L=>∃M' W,gm (ak (ar c)) co w1 M' W/\cq T v (λb=>M' b/\¬M b) W/\L=dZ c ⟨.idle,false,0,f+16,.work (.has T) q⟩ M' W) (λe L⟨M',W,h1,h2,h3⟩=>?_)) ?_))
  .rcases h2 with⟨-,v,h4,a6⟩|⟨h4,-⟩
   .exact⟨v,h4,M',W,h1,J.mono _ _ _ _ _ _ a6 (λ_ _=>rfl) (λb N=>N.elim (λx=>⟨h1.sub b x.1,λk=>x.2 (.inl k)⟩) λx=>⟨x.1,λk=>x.2 (l.sub b (.inl k))⟩),h3⟩
   .rw[N]at h4;cases h4
  clear bx;rintro v _ ⟨p,w2,o,qj,rfl⟩;refine⟨⟨_,_,_,rfl,⟨o.sub _ (l.sub _ j),o.heap (l.sub _ j) (l.heap j n)⟩,⟨o.sub _ (l.sub _ m),o.heap (l.sub _ m) (l.heap m r)⟩,rfl⟩,?_⟩;obtain⟨s,a_,rfl⟩:=J.slice _ _ _ _ N qj;walk_nrm
  refine qk (i:=9) AT (xR rfl rfl (xU (λw=>pw (vs:=#[.P c.st 0,.agg #[.I (T:Int),.I (fr T:Int),.I (a7 T:Int)],.slice s (c.rows T) a_]) rfl (by first|exact func102|exact func123) AU rfl B3 w) (X s a_ p w2 o.gQ) ?_));rintro u2 _ ⟨rfl,rfl⟩;refine⟨⟨_,_,_,rfl,⟨o.sub _ (l.sub _ j),o.heap (l.sub _ j) (l.heap j n)⟩,⟨o.sub _ (l.sub _ m),o.heap (l.sub _ m) (l.heap m r)⟩,rfl⟩,?_⟩;walk_nrm
  refine zU AT ?_ _;have g5:=(gm.start hF l).trans o;clear l o Sf j0 j m n r hF X;intro z ew hF;replace hF:af (ak (ar c)) p w2 [] z:=hF;unfold dZ;rw[<-fV (M:=p)];refine a8 (bu c) ?_;walk_nrm
  repeat w_go af.on
  u_in af.on hF
  first|rw[Xo rfl func100 AU rfl]|rw[Xo rfl func121 AU rfl]
  simp only[vdm];refine⟨Be,?_⟩;simp only[ba,f100,f121];walk_nrm
  repeat w_go af.on
  u_in af.on hF
  rw[akC rfl rfl rfl rfl Ah A1];simp only[vdm];refine⟨Be,?_⟩;walk_nrm
  repeat w_go af.on
  refine fU rfl hF λd a D y g au R O hF=>?_;refine E5 AN (vau (v:=.F) rfl rfl Ad (by simp[go_sem])) rfl A8 ?_;clear O R y a;refine a8 (bu c) ?_;walk_nrm
  repeat w_go af.on
  u_in af.on hF
  refine bM.I1 rfl rfl (by first|exact func100|exact func121) rfl rfl ⟨Be,?_⟩;u_in af.on hF
  refine vdv rfl rfl Fa rfl ⟨Be,?_⟩;refine vaf (λd a=>⟨rfl,λD y=>?_⟩);replace hF:=hF.on a;rw[fV];exact hK (.tuple #[]) (dZ c ⟨.idle,false,0,f,.work .free ((T,.slice s (c.rows T) a_)::q)⟩ p w2) ⟨rfl,_,p,w2,g5,λ_=>qj,rfl⟩ d D hF
end
section
section
variable{c:db}{Stop:Bool->ae.Lo At->aV->Prop}{fr a7:uas}{fK:Value}{cq:uae}
theorem kq.step(d:∀T v M w M' w',cq T v M w->(∀b,c.K b\/M b->w'.heap[b]?=w.heap[b]?)->(∀b,M b->M' b)->cq T v M' w'){q:uac}{M M':c5}{w w':aH}(h:kq c cq q M w)(a:gm (ak (ar c)) M w M' w'):kq c cq q M' w':=h.same d a.rw.heap a.sub
section
variable{aY:Frame}{aF:Act}{az:eQ}{aI:Nat}{aK:uag}{aG:uab}{csZ:fA}
def aon(i:Bool){f:Nat}{M:c5}{w0 bO:aH}(hI:nr c bO w0)(O:∀T v M w M' w',cq T v M w->(∀b,c.K b\/M b->w'.heap[b]?=w.heap[b]?)->(∀b,M b->M' b)->cq T v M' w')(MN:∀q j w1,af (ak (ar c)) j w1 [] w1->io prog Stop false (ba i 74 108) #[.P c.st 0] (dZ c ⟨.idle,false,0,f+15,.work .free q⟩ j w1) (λu P=>(u=.tuple #[.agg #[.I 0,.I 0,.I 0],.F]/\P=wy c ⟨.idle,false,0,f+1,.work .free q⟩ j w1)\/∃T,T<c.N/\u=.tuple #[.agg #[.I (T:Int),.I (fr T:Int),.I (a7 T:Int)],.T]/\P=dZ c ⟨.idle,false,0,f+31,.work (.has T) q⟩ j w1))(Si:∀q T j w1,T<c.N->nr c bO w1->io prog Stop false (ba i 75 109) #[.P c.st 0,fK,.agg #[.I (T:Int),.I (fr T:Int),.I (a7 T:Int)]] (dZ c ⟨.idle,false,0,f+31,.work (.has T) q⟩ j w1) (λu P=>u=.tuple #[]/\∃v r w2,gm (ak (ar c)) j w1 r w2/\(c.bad T=false->cq T v (λb=>r b/\¬j b) w2)/\P=dZ c ⟨.idle,false,0,f+15,.work .free ((T,v)::q)⟩ r w2))(hK:∀q M' w1,gm (ak (ar c)) M w0 M' w1->kq c cq q M' w1->∀w γ,af (ak (ar c)) M' w1 [] w->c.N<=γ.aj.taken->bd (ak (ar c)) prog Stop false ⟨.idle,false,0,f+1,.work .free q⟩ γ ⟨Conc.G (aY.at (aF.put ((az[aI]?).bind (·.dst)) (.tuple #[])) (.inRegion az aK::aG)) csZ,w,M'⟩)(n:Nat):
 ∀(q:uac)(j:c5)(w1:aH)(cH T:Nat)(c_ Y R S e9 e_ fa fb fc fd V U fD fm fo fp W Z:Value),c.N<=q.length+n->T<c.N->j cH->w1.heap[cH]?=some (Obj.cells #[.I (T:Int),.I (fr T:Int),.I (a7 T:Int)] 175)->gm (ak (ar c)) M w0 j w1->kq c cq q j w1->∀w γ,af (ak (ar c)) j w1 [] w->bd (ak (ar c)) prog Stop false ⟨.idle,false,0,f+31,.work (.has T) q⟩ γ ⟨Conc.G ((base (ba i 44 86)).at ⟨#[.P c.st 0,fK,c_,Y,.P cH 0,.T,R,S,e9,e_,fa,fb,fc,fd,V,U,fD,fm,fo,fp,W,Z],[]⟩ [.code ((bM.dA ((ba i f44 f86).body.getD .skip)).getD .skip),.inLoop ((bM.dA ((ba i f44 f86).body.getD .skip)).getD .skip),.inBlock 0]) (aY.at aF (.inRegion az (aI::aK)::aG)::csZ),w,j⟩:=by
 cases i<;>dsimp only[ba]
 all_goals
  have jU:=(df (bu c)).mO;induction n with|zero=>intro q j w1 cH T c_ Y R S e9 e_ fa fb fc fd V U fD fm fo fp W Z hn hT Dq K J I w γ hF;refine bd.seen (df (bu c)) rfl λγ _ kS=>?_;have:=akE kS rfl;omega|succ n ih=>
  intro q j w1 cH T c_ Y R S e9 e_ fa fb fc fd V U fD fm fo fp W Z hn hT Dq K J I w γ hF;rw[<-fV (M:=j)];refine a8 (bu c) ?_;simp only[ba,f44,f86,vah,bM.dA]at ih⊢;repeat w_go af.on
  refine fU rfl hF λg d B o a F p s hF=>?_;have m:a.heap[cH]?=some (Obj.cells #[.I (T:Int),.I (fr T:Int),.I (a7 T:Int)] 175):=(hF.rw.heap cH (.inr Dq)).trans K;refine r9 AN rfl (λb X=>hF.eK b (.inr X)) (vau rfl rfl Ad (Ap m rfl rfl).1) rfl (λe C=>?_) ?_
  .have z:=vbp C;rw[(Ap m rfl rfl).2]at z;simp at z;rcases z with rfl|rfl|rfl<;>exact⟨rfl,.inr (.inl Dq)⟩
  clear m s p o d;refine a8 (bu c) ?_;walk_nrm
  repeat w_go af.on
  refine fU rfl hF λg d B o a F p s hF=>?_;have D:=af.pu hF;rw[fV]at D;rw[fV];have Q:=J.now hF;have ZY:a.heap[cH]?=some (Obj.cells #[.I (T:Int),.I (fr T:Int),.I (a7 T:Int)] 175):=(hF.rw.heap cH (.inr Dq)).trans K;refine Ic (σ:=dZ c ⟨.idle,false,0,f+31,.work (.has T) q⟩ j a) AN rfl rfl Ad (pw (vs:=#[.P c.st 0,fK,.agg #[.I (T:Int),.I (fr T:Int),.I (a7 T:Int)]]) rfl Fa AU rfl B3 a) (Si q T j a hT (hI.more Q)) D ?_;have ZZ:=I.step O ⟨λ_ h=>h,hF.rw,D⟩;clear hF J I K s p o d D;rintro u _ ⟨rfl,v,r,w2,H,qj,rfl⟩ x ew E;have hF:af (ak (ar c)) r w2 [] x:=E;clear E;have Z0:=H.sub cH Dq;have K:=H.heap Dq ZY;have J:=Q.trans H;have I:kq c cq ((T,v)::q) r w2:=⟨_,j,λ_ h=>h.1,λb h=>⟨H.sub b h,λk=>k.2 h⟩,qj,ZZ.same O H.rw.heap (λ_ h=>h)⟩;clear H Q ZZ ZY Dq qj;simp only[dZ];rw[<-fV (M:=r)];refine a8 (bu c) ?_;walk_nrm
  repeat w_go af.on
  refine fU rfl hF λg d B o a F p s hF=>?_;have m:a.heap[cH]?=some (Obj.cells #[.I (T:Int),.I (fr T:Int),.I (a7 T:Int)] 175):=(hF.rw.heap cH (.inr Z0)).trans K;refine r9 AN rfl (λb X=>hF.eK b (.inr X)) (vau rfl rfl Ad (Ap m rfl rfl).1) rfl (λe C=>?_) ?_
  .have z:=vbp C;rw[(Ap m rfl rfl).2]at z;simp at z;rcases z with rfl|rfl|rfl<;>exact⟨rfl,.inr (.inl Z0)⟩
  clear m s p o d;refine a8 (bu c) ?_;walk_nrm
  repeat w_go af.on
  refine fU rfl hF λg d B o a F p s hF=>?_;refine tg AN jU rfl hF (vau (v:=.P a.heap.size 0) (w':=a.alloc (Obj.cells #[.I 0,.I 0,.I 0] 175)) rfl rfl Ad Ah) rfl A1 (λA=>?_);clear hF;have hF:=A;clear A s p o d;generalize a.heap.size=t at hF⊢;generalize a.alloc (Obj.cells #[.I 0,.I 0,.I 0] 175)=w3 at hF⊢;refine a8 (bu c) ?_;walk_nrm
  repeat w_go af.on
  refine fU rfl hF λg d B o a F p s hF=>?_;have m:=hF.bI (t,.cells #[.I 0,.I 0,.I 0] 175) Ab;refine BP AN rfl (pre:=[]) (post:=[]) hF (vcz (w':=a.setRow t #[.I (T:Int),.I (fr T:Int),.I (a7 T:Int)]) rfl rfl Ad (pL m ⟨rfl,rfl,rfl⟩ rfl rfl rfl).1) rfl (λe C=>?_) (λA=>?_)
  .have z:=vbp C;rw[(pL m ⟨rfl,rfl,rfl⟩ rfl rfl rfl).2]at z;grind
  clear hF;have hF:=A;clear A m s p o d;simp only[vdy]at hF⊢;refine a8 (bu c) ?_;walk_nrm
  repeat w_go af.on
  refine fU rfl hF λg d B o a F p s hF=>?_;have D:=af.pu hF;refine Ic (σ:=dZ c ⟨.idle,false,0,f+15,.work .free ((T,v)::q)⟩ (b8 r [(t,Obj.cells #[.I (T:Int),.I (fr T:Int),.I (a7 T:Int)] 175)]) a) AN rfl rfl Ad (pw (vs:=#[.P c.st 0]) rfl Dm AU rfl B3 a) (MN _ _ a D) D ?_;clear s p o d;rintro u _ (⟨rfl,rfl⟩|⟨y,aoo,rfl,rfl⟩) x ew E
  .skip
   have a5:c.N<=ew.aj.taken:=E.2;have N:af (ak (ar c)) (b8 r [(t,Obj.cells #[.I (T:Int),.I (fr T:Int),.I (a7 T:Int)] 175)]) a [] x:=E.1;replace hF:=hF.on N.rw;clear E N D;simp only[wy];refine a8 (bu c) ?_;walk_nrm
   repeat w_go af.on
   refine fU rfl hF λg d B o a F p s hF=>?_;replace a5:=vac a5 (vac (uD (c:=c) (l:=⟨.idle,false,0,f+1,.work .free ((T,v)::q)⟩) o) (uD (c:=c) (l:=⟨.idle,false,0,f+1,.work .free ((T,v)::q)⟩) p));have m:=hF.bI (t,.cells #[.I (T:Int),.I (fr T:Int),.I (a7 T:Int)] 175) Ab;refine BP AN rfl (pre:=[]) (post:=[]) hF (vcz (w':=a.setRow t #[.I 0,.I 0,.I 0]) rfl rfl Ad (pL m ⟨rfl,rfl,rfl⟩ rfl rfl rfl).1) rfl (λe C=>?_) (λA=>?_)
   .have z:=vbp C;rw[(pL m ⟨rfl,rfl,rfl⟩ rfl rfl rfl).2]at z;grind
   clear hF;have hF:=A;clear A m s p o d;simp only[vdy]at hF⊢;refine a8 (bu c) ?_;walk_nrm
   repeat w_go af.on
   u_in af.on hF
   refine vdv rfl rfl Fc rfl ⟨Be,?_⟩;refine vaf (λg d=>⟨rfl,λB o=>?_⟩);replace hF:=hF.on d;have L:gm (ak (ar c)) r w2 (b8 r [(t,Obj.cells #[.I 0,.I 0,.I 0] 175)]) g:=⟨λ_ h=>.inl h,hF.rw,af.pu hF⟩;exact hK ((T,v)::q) (b8 r [(t,Obj.cells #[.I 0,.I 0,.I 0] 175)]) g (J.trans L) (I.step O L) g B (af.pu hF) (vac a5 (uD (c:=c) (l:=⟨.idle,false,0,f+1,.work .free ((T,v)::q)⟩) o))
  .skip
   have N:af (ak (ar c)) (b8 r [(t,Obj.cells #[.I (T:Int),.I (fr T:Int),.I (a7 T:Int)] 175)]) a [] x:=E;replace hF:=hF.on N.rw;clear E N D;simp only[dZ];refine a8 (bu c) ?_;walk_nrm
   repeat w_go af.on
   refine fU rfl hF λg d B o a F p s hF=>?_;have m:=hF.bI (t,.cells #[.I (T:Int),.I (fr T:Int),.I (a7 T:Int)] 175) Ab;refine BP AN rfl (pre:=[]) (post:=[]) hF (vcz (w':=a.setRow t #[.I (y:Int),.I (fr y:Int),.I (a7 y:Int)]) rfl rfl Ad (pL m ⟨rfl,rfl,rfl⟩ rfl rfl rfl).1) rfl (λe C=>?_) (λA=>?_)
   .have z:=vbp C;rw[(pL m ⟨rfl,rfl,rfl⟩ rfl rfl rfl).2]at z;grind
   clear hF;have hF:=A;clear A m s p o d;simp only[vdy]at hF⊢;refine a8 (bu c) ?_;walk_nrm
   iterate 3 w_go af.on
   refine vaf (λg d=>⟨rfl,λB o=>?_⟩);replace hF:=hF.on d;have L:gm (ak (ar c)) r w2 (b8 r [(t,Obj.cells #[.I (y:Int),.I (fr y:Int),.I (a7 y:Int)] 175)]) g:=⟨λ_ h=>.inl h,hF.rw,af.pu hF⟩;exact ih ((T,v)::q) (b8 r [(t,Obj.cells #[.I (y:Int),.I (fr y:Int),.I (a7 y:Int)] 175)]) g t y _ _ _ _ _ _ _ _ _ _ _ _ _ _ _ _ _ _ AN aoo (.inr Ab) (hF.bI (t,Obj.cells #[.I (y:Int),.I (fr y:Int),.I (a7 y:Int)] 175) Ab) (J.trans L) (I.step O L) g B (af.pu hF)
def aop(i:Bool){f:Nat}{M:c5}{w0 bO:aH}(hI:nr c bO w0)(E:∀T v M w M' w',cq T v M w->(∀b,c.K b\/M b->w'.heap[b]?=w.heap[b]?)->(∀b,M b->M' b)->cq T v M' w')(O:∀q r w1,af (ak (ar c)) r w1 [] w1->io prog Stop false (ba i 74 108) #[.P c.st 0] (dZ c ⟨.idle,false,0,f+15,.work .free q⟩ r w1) (λu x=>(u=.tuple #[.agg #[.I 0,.I 0,.I 0],.F]/\x=wy c ⟨.idle,false,0,f+1,.work .free q⟩ r w1)\/∃T,T<c.N/\u=.tuple #[.agg #[.I (T:Int),.I (fr T:Int),.I (a7 T:Int)],.T]/\x=dZ c ⟨.idle,false,0,f+31,.work (.has T) q⟩ r w1))(U:∀q T r w1,T<c.N->nr c bO w1->io prog Stop false (ba i 75 109) #[.P c.st 0,fK,.agg #[.I (T:Int),.I (fr T:Int),.I (a7 T:Int)]] (dZ c ⟨.idle,false,0,f+31,.work (.has T) q⟩ r w1) (λu x=>u=.tuple #[]/\∃v I w2,gm (ak (ar c)) r w1 I w2/\(c.bad T=false->cq T v (λb=>I b/\¬r b) w2)/\x=dZ c ⟨.idle,false,0,f+15,.work .free ((T,v)::q)⟩ I w2)):
 io prog Stop false (ba i 44 86) #[.P c.st 0,fK] (dZ c ⟨.idle,false,0,f+15,.work .free []⟩ M w0) (λu x=>u=.tuple #[]/\∃q M' w1,gm (ak (ar c)) M w0 M' w1/\kq c cq q M' w1/\x=wy c ⟨.idle,false,0,f+1,.work .free q⟩ M' w1):=by
 cases i<;>dsimp only[ba]
 all_goals
  intro aY aF az aI aK aG csZ J w γ N;have hK:∀q M' w1,gm (ak (ar c)) M w0 M' w1->kq c cq q M' w1->∀w γ,af (ak (ar c)) M' w1 [] w->c.N<=γ.aj.taken->bd (ak (ar c)) prog Stop false ⟨.idle,false,0,f+1,.work .free q⟩ γ ⟨Conc.G (aY.at (aF.put ((az[aI]?).bind (·.dst)) (.tuple #[])) (.inRegion az aK::aG)) csZ,w,M'⟩:=λq M' w1 W V w γ R Q=>J (.tuple #[]) (wy c ⟨.idle,false,0,f+1,.work .free q⟩ M' w1) AN w γ ⟨R,Q⟩;clear J;have hF:af (ak (ar c)) M w0 [] w:=N;clear N;have K:=(df (bu c)).mO;first|rw[vcf _ func44 rfl]|rw[vcf _ func86 rfl]
  unfold dZ;rw[<-fV (M:=M)];refine a8 (bu c) ?_;simp only[ba,f44,f86];walk_nrm
  repeat w_go af.on
  refine fU rfl hF λg d s j a C n o hF=>?_;have A:=af.pu hF;rw[fV]at A;rw[fV];have B:gm (ak (ar c)) M w0 M a:=⟨λ_ h=>h,hF.rw,A⟩;clear hF;refine Ic (σ:=dZ c ⟨.idle,false,0,f+15,.work .free []⟩ M a) AN rfl rfl Ad (pw (vs:=#[.P c.st 0]) rfl Dm AU rfl B3 a) (O [] M a A) A ?_;clear o n j d A;rintro u _ (⟨rfl,rfl⟩|⟨T,P,rfl,rfl⟩) p S z
  .skip
   have a5:c.N<=S.aj.taken:=z.2;have hF:af (ak (ar c)) M a [] p:=z.1;clear z;generalize a=w2 at hF B;have D:kq c cq [] M w2:=trivial;simp only[wy];rw[<-fV (M:=M)];refine a8 (bu c) ?_;walk_nrm
   repeat w_go af.on
   refine fU rfl hF λg d s j a C n o hF=>?_;replace a5:=vac a5 (vac (uD (c:=c) (l:=⟨.idle,false,0,f+1,.work .free []⟩) j) (uD (c:=c) (l:=⟨.idle,false,0,f+1,.work .free []⟩) n));refine tg AN K rfl hF (vau (v:=.P a.heap.size 0) (w':=a.alloc (Obj.cells #[.I 0,.I 0,.I 0] 175)) rfl rfl Ad Ah) rfl A1 (λm=>?_);clear hF;have hF:=m;clear m o n j d;generalize a.heap.size=k at hF⊢;generalize a.alloc (Obj.cells #[.I 0,.I 0,.I 0] 175)=w3 at hF⊢;refine a8 (bu c) ?_;walk_nrm
   repeat w_go af.on
   refine fU rfl hF λg d s j a C n o hF=>?_;replace a5:=vac a5 (vac (uD (c:=c) (l:=⟨.idle,false,0,f+1,.work .free []⟩) j) (uD (c:=c) (l:=⟨.idle,false,0,f+1,.work .free []⟩) n));have t:=hF.bI (k,.cells #[.I 0,.I 0,.I 0] 175) Ab;refine BP AN rfl (pre:=[]) (post:=[]) hF (vcz (w':=a.setRow k #[.I 0,.I 0,.I 0]) rfl rfl Ad (pL t ⟨rfl,rfl,rfl⟩ rfl rfl rfl).1) rfl (λe F=>?_) (λm=>?_)
   .have H:=vbp F;rw[(pL t ⟨rfl,rfl,rfl⟩ rfl rfl rfl).2]at H;grind
   clear hF;have hF:=m;clear m t o n j d;simp only[vdy]at hF⊢;refine a8 (bu c) ?_;walk_nrm
   repeat w_go af.on
   u_in af.on hF
   refine vdv rfl rfl Fc rfl ⟨Be,?_⟩;refine vaf (λg d=>⟨rfl,λs j=>?_⟩);replace hF:=hF.on d;have y:gm (ak (ar c)) M w2 (b8 M [(k,Obj.cells #[.I 0,.I 0,.I 0] 175)]) g:=⟨λ_ h=>.inl h,hF.rw,af.pu hF⟩;exact hK [] (b8 M [(k,Obj.cells #[.I 0,.I 0,.I 0] 175)]) g (B.trans y) (D.step E y) g s (af.pu hF) (vac a5 (uD (c:=c) (l:=⟨.idle,false,0,f+1,.work .free []⟩) j))
  .skip
   have hF:af (ak (ar c)) M a [] p:=z;clear z;generalize a=w2 at hF B;have D:kq c cq [] M w2:=trivial;simp only[dZ];rw[<-fV (M:=M)];refine a8 (bu c) ?_;walk_nrm
   repeat w_go af.on
   refine fU rfl hF λg d s j a C n o hF=>?_;refine tg AN K rfl hF (vau (v:=.P a.heap.size 0) (w':=a.alloc (Obj.cells #[.I 0,.I 0,.I 0] 175)) rfl rfl Ad Ah) rfl A1 (λm=>?_);clear hF;have hF:=m;clear m o n j d;generalize a.heap.size=k at hF⊢;generalize a.alloc (Obj.cells #[.I 0,.I 0,.I 0] 175)=w3 at hF⊢;refine a8 (bu c) ?_;walk_nrm
   repeat w_go af.on
   refine fU rfl hF λg d s j a C n o hF=>?_;have t:=hF.bI (k,.cells #[.I 0,.I 0,.I 0] 175) Ab;refine BP AN rfl (pre:=[]) (post:=[]) hF (vcz (w':=a.setRow k #[.I (T:Int),.I (fr T:Int),.I (a7 T:Int)]) rfl rfl Ad (pL t ⟨rfl,rfl,rfl⟩ rfl rfl rfl).1) rfl (λe F=>?_) (λm=>?_)
   .have H:=vbp F;rw[(pL t ⟨rfl,rfl,rfl⟩ rfl rfl rfl).2]at H;grind
   clear hF;have hF:=m;clear m t o n j d;simp only[vdy]at hF⊢;refine a8 (bu c) ?_;walk_nrm
   iterate 4 w_go af.on
   refine vaf (λg d=>⟨rfl,λs j=>?_⟩);replace hF:=hF.on d;have y:gm (ak (ar c)) M w2 (b8 M [(k,Obj.cells #[.I (T:Int),.I (fr T:Int),.I (a7 T:Int)] 175)]) g:=⟨λ_ h=>.inl h,hF.rw,af.pu hF⟩;have L:=aon _ hI E O U hK c.N;simp only[ba,f44,f86,vah,bM.dA]at L;exact L [] (b8 M [(k,Obj.cells #[.I (T:Int),.I (fr T:Int),.I (a7 T:Int)] 175)]) g k T _ _ _ _ _ _ _ _ _ _ _ _ _ _ _ _ _ _ Ab P (.inr Ab) (hF.bI (k,Obj.cells #[.I (T:Int),.I (fr T:Int),.I (a7 T:Int)] 175) Ab) (B.trans y) (D.step E y) g s (af.pu hF)
