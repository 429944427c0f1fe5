import Derived.Deep.DeepCutAuto
import Derived.Test.YtoehnnefaeoeoaaGreatPAD
import Derived.Test.YtoehnnefaeoeoaaGreatPAE
set_option linter.all false
set_option maxRecDepth 100000
set_option maxHeartbeats 16000000
namespace Go.Proofs.YtoehnnefaeoeoaaGreat
open Go.Proofs.Tryz
namespace cA
open RowKit az
variable {e:List cd}{st:List (Int×Int)}
section
attribute [local go_sem ↓] Go.wp_at_zero Go.wp_at_succ
attribute [local go_sem ↓] Go.wp_at_zero Go.wp_at_succ
def xa(bw:List (Int×Int))(st:List (Int×Int))(t:cd):Option (List (Int×Int)):=
 if(operands t.op).2=true/\(operands t.op).1.toNat<=st.length then
  (if(CJ t (st.drop (st.length-(operands t.op).1.toNat)) bw).2=true then some (st.take (st.length-(operands t.op).1.toNat)++[(CJ t (st.drop (st.length-(operands t.op).1.toNat)) bw).1])else none)
 else none
def n7(bw:List (Int×Int)):List cd->List (Int×Int)->Option (List (Int×Int))
 | [],st=>some st
 |t::r,st=>(xa bw st t).bind (n7 bw r)
def kW(e:List cd)(bw:List (Int×Int)):(Int×Int)×Bool:=
 if e.length<1\/20<e.length then((0,0),false)
 else match n7 bw e []with
  |some [t]=>(t,true)
  | _=>((0,0),false)
theorem Xw(bw:List (Int×Int))(l:List cd)(t:cd)(st:List (Int×Int)):n7 bw (l++[t]) st=(n7 bw l st).bind (fun s=>xa bw s t):=by induction l generalizing st with|nil=>grind[n7,xa]|cons a r b=>grind[n7,xa]
theorem aiK(bw:List (Int×Int))(l r:List cd)(st:List (Int×Int))(h:n7 bw l st=none):n7 bw (l++r) st=none:=by induction l generalizing st with|nil=>simp[n7]at h|cons a l b=>grind[n7,xa]
theorem Qx{bw:List (Int×Int)}{k:Nat}(b:k<e.length)(h:n7 bw (e.take k) []=some st)(a:xa bw st e[k]=none):n7 bw e []=none:=by
 have c:n7 bw (e.take (k+1)) []=none:=by grind[List.take_succ_eq_append_getElem,Xw]
 grind[aiK,List.take_append_drop]
theorem aiL{bw:List (Int×Int)}{k:Nat}(c:k<e.length){a:List (Int×Int)}(h:n7 bw (e.take k) []=some st)(b:xa bw st e[k]=some a):n7 bw (e.take (k+1)) []=some a:=by grind[List.take_succ_eq_append_getElem,Xw]
theorem Qy{bw:List (Int×Int)}(h:n7 bw e []=none):kW e bw=((0,0),false):=by grind[kW]
theorem aiM{w:World}{a:Option Addr}(d:∀i(h:i<e.length),∃b off,a=some ⟨b,off,none⟩/\LB w (fun j=>w.cell? ⟨b,off+i*4+j,none⟩) e[i]){k:Nat}(c:k<e.length):
 ∃b off,a=some ⟨b,off,none⟩/\w.cell? ⟨b,off+k*4,none⟩=some (.int .i64 e[k].op)/\w.cell? ⟨b,off+k*4+1,none⟩=some (.int .i64 e[k].a)/\w.cell? ⟨b,off+k*4+2,none⟩=some (.int .i64 e[k].v)/\w.cell? ⟨b,off+k*4+3,none⟩=some (.string e[k].s)/\e[k].s.size<=9223372036854775807:=by
 obtain⟨b,off,f,h0,n,m,l,g⟩:=d k c;grind
theorem Xy(t:cd)(d:Met t.op)(a2 bw:List (Int×Int))(hl:a2.length<=2)(q:(operands t.op).1=(a2.length:Int))(k c:Value)(w:World)(m:fh w c bw)(n:fh w k a2):
 Calls (ai prog true) 100 #[uL t,k,c] w fun e w'=>e=.returned (.tuple #[eo (CJ t a2 bw).1,.bool (CJ t a2 bw).2])/\Below w.heap.size w w':=by
 obtain⟨p,cap,rfl,-,f⟩:=n;match a2,hl with
 | [],_=>exact aiF t IR bw p cap c w m
 | [o],_=>obtain⟨b,off,rfl,h0,a⟩:=f 0 Aa;simp only[Nat.zero_mul,Nat.add_zero]at h0 a;exact aiG t IR o b off cap c w h0 a
 | [l,r],_=>obtain⟨b,off,rfl,h0,a⟩:=f 0 Aa;obtain⟨s,u,g,j,i⟩:=f 1 Aa;simp at g;obtain⟨rfl,rfl⟩:=g;simp only[Nat.zero_mul,Nat.one_mul,Nat.add_zero]at h0 a j i;exact aiH t (by rcases d with h|h|h|h|h<;>first|omega|grind[operands]) l r b off cap c w h0 a j i
theorem fh.tail{w:World}{base:Nat}{e:TypeId}{a:Option Addr}{cap:Nat}(h:w.ownsRow base e 2 (.slice a st.length cap) st.length (kn st))(hl:st.length<=9223372036854775807)(m:Nat)(n:m<=st.length):
 fh w (.slice (if cap=m then a else a.map (·.add (m*2))) (st.length-m) (cap-m)) (st.drop m):=by
 refine⟨_,_,by rw[List.length_drop],AU,fun i hi=>?_⟩;rw[List.length_drop]at hi;have f:=fh.AP h hl;obtain⟨r,cap',d,-,k⟩:=f;simp at d;obtain⟨rfl,rfl⟩:=d;obtain⟨b,off,rfl,h0,o⟩:=k (m+i) Ay;have j:¬cap=m:=by
  rcases h.2 with⟨p,h0⟩|⟨g,c,bp,l,_,_,q,_⟩
  ·omega
  grind
 rw[if_neg j];refine⟨b,off+m*2,by simp[Addr.add_lit],?_,?_⟩
 ·grind
 grind
theorem aiN(op:Int):∃m:Nat,m<=2/\(operands op).1=m:=by
 unfold operands;split
 ·exact⟨0,Ay,rfl⟩
 split
 ·exact⟨1,Ay,rfl⟩
 split
 ·exact⟨2,Ay,rfl⟩
 ·exact⟨0,Ay,rfl⟩
theorem Xz{bw:List (Int×Int)}{t:cd}{m:Nat}(a:(operands t.op).1=m)(h:¬((operands t.op).2=true/\m<=st.length)):xa bw st t=none:=by simp_all[xa,if_neg]
theorem aiO{bw:List (Int×Int)}{t:cd}{m:Nat}(a:(operands t.op).1=m)(c:(operands t.op).2=true)(b:m<=st.length):
 xa bw st t=if(CJ t (st.drop (st.length-m)) bw).2=true then some (st.take (st.length-m)++[(CJ t (st.drop (st.length-m)) bw).1])else none:=by
 simp_all[xa]
theorem aiP(e:List cd)(s6:∀t∈e,Met t.op)(bw:List (Int×Int))(kK C:Value)(w:World)(he:Fy w kK e)(hv:fh w C bw):
 Calls (ai prog true) 65 #[kK,C] w fun M w'=>M=.returned (.tuple #[eo (kW e bw).1,.bool (kW e bw).2])/\Below w.heap.size w w':=by
 obtain⟨bL,cap,rfl,hl,b9⟩:=he;by_cases A:e.length<1\/20<e.length
 ·have s:Hid (kW e bw=((0,0),false)):=by unfold Hid kW;grind
  rcases A with A|A;all_goals
   go_enter (bl (upd:=true) func65 AS),ntmps65
   go_wp2
   exact bodyPost_ret (v:=.tuple #[eo (0,0),.bool false]) (by simp[results,results65,go_sem]) rfl ⟨by rw[s.out],(Below.refl _ _).alloc AU _⟩
 have h1:1<=e.length:=Ay;have AR:e.length<=20:=Ay;have zu:Hid _:=A;have CK:Hid _:=s6;clear A s6;go_enter (bl (upd:=true) func65 AS),ntmps65
 go_wp2
 go_loopw [6,25] (fun v i W=>∃(k:Nat)(st:List (Int×Int)),k<=e.length/\i=.int .i64 k/\n7 bw (e.take k) []=some st/\st.length<=k/\(∃a c,v=.slice a st.length c)/\W.ownsRow (w.heap.size+1) 115 2 v st.length (kn st)/\Below w.heap.size w W/\af W w.heap.size #[.int .i64 0,.int .i64 0] 115)
  (fun _ i _=>e.length-(intOf i).toNat)
 case atStart=>exact⟨0,[],Nat.zero_le _,rfl,rfl,Aa,Bp,World.ownsRow_nil _ _ _ _,(Below.refl _ _).alloc AU _,af.new _ _ _⟩
 case round=>
  obtain⟨k,st,L,rfl,hrun,QA,⟨a,c,rfl⟩,dr,ao,pu⟩:=hrel;have J:Hid _:=hrun;have r:Hid (wr.ownsRow (w.heap.size+1) 115 2 (.slice a st.length c) st.length (kn st)):=dr;have f:Hid _:=ao;have K:Hid (af wr w.heap.size #[.int .i64 0,.int .i64 0] 115):=pu;clear hrun dr ao pu;by_cases d:k<e.length
  ·obtain⟨b,off,rfl,dw,d1,gV,fS,gJ⟩:=aiM b9 d;have E:=bC.cW f.out;have e0:=E _ _ _ dw;have e1:=E _ _ _ d1;have e2:=E _ _ _ gV;have e3:=E _ _ _ fS;have gK:=gX e0;clear E dw d1 gV fS;have XA:=CK.out _ (List.getElem_mem d);generalize hT:e[k]=t at *;have XB:Hid (Met t.op):=XA;clear XA;have N:Hid _:=hT;clear hT;go_wp2_with fail
   refine(aiq _ _).mono ?_;rintro M w1 ⟨rfl,rfl⟩;obtain⟨m,lx,hm⟩:=aiN t.op;have I:Hid _:=hm;have aBZ:(operands t.op).1=(m:Int):=hm;clear hm;by_cases eR:(operands t.op).2=true
   ·by_cases aiQ:m<=st.length
    ·have aB0:¬((st.length:Int)<(m:Int)):=by omega
     have LL:=(af.new wr #[.int .i64 t.op,.int .i64 t.a,.int .i64 t.v,.string t.s] 30);have XC:Hid _:=aiO (bw:=bw) I.out eR aiQ;have mN:=(hv.mono s3 (bC.cW f.out)).mono s3 ((bC.refl wr).alloc (.cells #[.int .i64 t.op,.int .i64 t.a,.int .i64 t.v,.string t.s] 30));have XD:=fh.tail (r.out.alloc (.cells #[.int .i64 t.op,.int .i64 t.a,.int .i64 t.v,.string t.s] 30)) Ay (st.length-m) Ay;have ql:(0:Int)<=((st.length-m:Nat):Int):=Ay;have s7:((st.length-m:Nat):Int)<=(st.length:Int):=Ay;have H9:(st.length:Int)-(m:Int)=((st.length-m:Nat):Int):=Ay;have zv:(st.drop (st.length-m)).length<=2:=by rw[List.length_drop];omega
     have XE:Hid ((operands t.op).1=((st.drop (st.length-m)).length:Int)):=by unfold Hid;rw[I.out,List.length_drop];omega
     have k1:=(bC.refl (wr.alloc (.cells #[.int .i64 t.op,.int .i64 t.a,.int .i64 t.v,.string t.s] 30))).drew;have bE:=((bC.refl (wr.alloc (.cells #[.int .i64 t.op,.int .i64 t.a,.int .i64 t.v,.string t.s] 30))).alloc (.cells #[.int .i64 0,.int .i64 0] 115)).drew;have QB:Hid (∀W,bC (wr.alloc (.cells #[.int .i64 t.op,.int .i64 t.a,.int .i64 t.v,.string t.s] 30)) W->fh W C bw):=fun W L=>mN.mono s3 L;have P:Hid (∀W,bC (wr.alloc (.cells #[.int .i64 t.op,.int .i64 t.a,.int .i64 t.v,.string t.s] 30)) W->fh W _ _):=fun W L=>XD.mono s3 L;have S:Hid _:=k1;have H_:Hid _:=bE;clear mN XD k1 bE;generalize CL:(if c=st.length-m then a else a.map (·.add ((st.length-m)*2)))=aB1 at P;generalize bM:CJ t (st.drop (st.length-m)) bw=R at *;have Q:Hid _:=bM;clear bM;have QC:=(af.new (wr.alloc (.cells #[.int .i64 t.op,.int .i64 t.a,.int .i64 t.v,.string t.s] 30)) #[.int .i64 0,.int .i64 0] 115).drew;rw[show(wr.alloc (.cells #[.int .i64 t.op,.int .i64 t.a,.int .i64 t.v,.string t.s] 30)).heap.size=wr.heap.size+1 by simp]at QC;go_upto_region 11 with fail
     go_cut [12,13] (fun p ok W=>∃B,p=.pointer (some ⟨B,0,none⟩)/\ok=.bool R.2/\af W B #[.int .i64 R.1.1,.int .i64 R.1.2] 115/\Below wr.heap.size wr W/\wr.heap.size<=B)
     case first=>
      go_region_held3 (fun W=>W.cell? ⟨wr.heap.size,0,none⟩=some (.int .i64 t.op)/\W.cell? ⟨wr.heap.size,1,none⟩=some (.int .i64 t.a)/\W.cell? ⟨wr.heap.size,2,none⟩=some (.int .i64 t.v)/\W.cell? ⟨wr.heap.size,3,none⟩=some (.string t.s))
       ((go_split_ands;refine⟨?_,?_,?_,?_⟩<;>first|(exact(bC.cW n) _ _ _ DR)|(exact yg (yg DR Ay) Ay)|(exact((LL.drew.call n).alloc _).bT.1 _)|(go_keep;done)))
       (first|(go_at_call 100;refine(Xy t XB.out _ bw zv XE.out _ C _ (QB.out _ S.out) (P.out _ S.out)).mono ?_;rintro M w2 ⟨rfl,n⟩)|(go_at_call 100;refine(Xy t XB.out _ bw zv XE.out _ C _ (QB.out _ H_.out) (P.out _ H_.out)).mono ?_;rintro M w2 ⟨rfl,n⟩;have XF:=QC.call n;obtain⟨aB2,aB3,aB4⟩:=XF.all))
      ·go_wp2_with fail
       go_meet
       case rel=>exact⟨_,rfl,by rw[Q.out],by rw[<-Q.out];exact af.new _ _ _,(Below.step n ((Below.refl _ _).alloc Ay _).drew Aa).alloc (by have:=n.size;simp at this;omega) _,by have:=n.size;simp at this;omega⟩
      ·go_wp2_with fail
       go_meet
       case rel=>exact⟨_,rfl,by rw[Q.out],by rw[<-Q.out];exact(XF.set 0 _).set 1 _,(((Below.step n (((Below.refl _ _).alloc Ay _).alloc Aa _).drew Bu).setCell Aa _).setCell Aa _),Ay⟩
     case rest=>
      obtain⟨B,rfl,rfl,V,O,aB5⟩:=hcut;have XG:af wc w.heap.size #[.int .i64 0,.int .i64 0] 115:=K.out.call O;have sg:Hid (af wc w.heap.size #[.int .i64 0,.int .i64 0] 115):=XG;have H:Hid (wc.ownsRow (w.heap.size+1) 115 2 (.slice a st.length c) st.length (kn st)):=FA r.out O;have q:Hid (Below w.heap.size w wc):=f.out.trans (O.mono f.out.size);have Ia:Hid (∀g,(Value.slice a st.length c).ownBlock=some g->w.heap.size+1<=g/\g<wr.heap.size):=r.out.lt;have XH:Hid (af wc B #[.int .i64 R.1.1,.int .i64 R.1.2] 115):=V;obtain⟨hcB,aB6,aB7⟩:=V.all;clear V O QB P S H_ QC LL CL e0 e1 e2 e3 b9 XG;by_cases T:R.2=true
      ·have Ib:Hid (n7 bw (e.take (k+1)) []=some (st.take (st.length-m)++[R.1])):=aiL d J.out (by rw[N.out,XC.out,if_pos T]);have ly:(st.take (st.length-m)++[R.1]).length=st.length-m+1:=Bp;have hq:st.length-m<=20:=Ay;have pt:=(af.new wc #[.int .i64 R.1.1,.int .i64 R.1.2] 115).drew;have mT:Hid _:=Xo pt;have s8:Hid (∀g,a=some ⟨g,0,none⟩->(wc.alloc (.cells #[.int .i64 R.1.1,.int .i64 R.1.2] 115)).drew.ownsRow (w.heap.size+1) 115 2 (.slice (some ⟨g,0,none⟩) (st.length-m) c) (st.length-m) (kn (st.take (st.length-m)))):=by intro g hg;have h1:=H.out;rw[hg]at h1;have h2:=Xl h1 (st.length-m) Ay;rw[aig]at h2;exact(h2.alloc _).drew
       clear pt;rcases H.out.2 with⟨j,nv⟩|⟨g,cap',bp,j,XI,U,Qz,-⟩
       ·have hst:st=[]:=Bp;subst hst;simp at j;obtain⟨rfl,rfl⟩:=j;have LO:m=0:=Bp;subst LO;have mh:Hid _:=World.ownsRow_nil (wc.alloc (.cells #[.int .i64 R.1.1,.int .i64 R.1.2] 115)).drew (w.heap.size+1) 115 2;clear H s8 Ia;have x:(wc.alloc (.cells #[.int .i64 R.1.1,.int .i64 R.1.2] 115)).drew.heap.size=wc.heap.size+1:=Aa;have y:w.heap.size+1<=(wc.alloc (.cells #[.int .i64 R.1.1,.int .i64 R.1.2] 115)).drew.heap.size:=by have:=q.out.size;omega
        have X:Hid _:=x;have Z:Hid _:=y;clear x y;go_upto_region 14 with fail
        go_region_held3 (fun W=>W.cell? ⟨B,0,none⟩=some (.int .i64 R.1.1)/\W.cell? ⟨B,1,none⟩=some (.int .i64 R.1.2))
         ((go_split_ands;refine⟨?_,?_⟩<;>first|(exact((XH.out.alloc _).drew.grown h (fun g' D=>by simp[Value.ownBlock]at D)).bT.1 _)|(go_keep;done)))
         ((refine LF LG _ B2 _ _ B2 (w.heap.size+1) _ _ _ B2 mh.out wc.heap.size 1 1 _ B2 rfl mT.out (Qn _ _) Ay Ay Ay Z.out (wc.heap.size+1) X.out ?_;intro gL Y o CM h CN AT))
        have F:=q.out.alloc (by have:=q.out.size;omega) (.cells #[.int .i64 R.1.1,.int .i64 R.1.2] 115);have CO:Hid (Below w.heap.size w o):=F.drew.grown h (by have:=q.out.size;simp;omega) (fun k' dK=>by simp[Value.ownBlock]at dK);have QD:Hid (af o w.heap.size #[.int .i64 0,.int .i64 0] 115):=(sg.out.alloc _).drew.grown h (fun g' D=>by simp[Value.ownBlock]at D);have Ic:Hid (o.ownsRow (w.heap.size+1) 115 2 (.slice (some ⟨gL,0,none⟩) 1 Y) [R.1].length (kn [R.1])):=by grind[kn]
        clear F h CM CN AT;go_wp2_with fail
        go_roundw
        case rel=>
         exact⟨k+1,[R.1],Ay,by go_num,by simpa using Ib.out,Aa,AU,Ic.out,CO.out,QD.out⟩
        case measure=>simp[intOf];omega
       ·simp at j;obtain⟨rfl,rfl⟩:=j;have XJ:=s8.out g rfl;have mh:Hid _:=XJ;have aiR:=Ia.out g rfl;have FD:((st.length-m:Nat):Int)<=(c:Int):=Ay;clear XJ U H s8 Ia;have x:(wc.alloc (.cells #[.int .i64 R.1.1,.int .i64 R.1.2] 115)).drew.heap.size=wc.heap.size+1:=Aa;have y:w.heap.size+1<=(wc.alloc (.cells #[.int .i64 R.1.1,.int .i64 R.1.2] 115)).drew.heap.size:=Ay;have X:Hid _:=x;have Z:Hid _:=y;clear x y;go_upto_region 14 with fail
        go_region_held3 (fun W=>W.cell? ⟨B,0,none⟩=some (.int .i64 R.1.1)/\W.cell? ⟨B,1,none⟩=some (.int .i64 R.1.2))
         ((go_split_ands;refine⟨?_,?_⟩<;>first|(exact((XH.out.alloc _).drew.grown h (fun g' D=>HV)).bT.1 _)|(go_keep;done)))
         ((refine LF LG _ B2 _ _ B2 (w.heap.size+1) _ _ _ B2 mh.out wc.heap.size 1 1 _ B2 rfl mT.out (Qn _ _) Ay Ay Ay Z.out (wc.heap.size+1) X.out ?_;intro gL Y o CM h CN AT))
        have F:=q.out.alloc AU (.cells #[.int .i64 R.1.1,.int .i64 R.1.2] 115);have CO:Hid (Below w.heap.size w o):=F.drew.grown h (by have:=q.out.size;simp;omega) (fun k' dK=>HV);have QD:Hid (af o w.heap.size #[.int .i64 0,.int .i64 0] 115):=(sg.out.alloc _).drew.grown h (fun g' D=>HV);have Ic:Hid (o.ownsRow (w.heap.size+1) 115 2 (.slice (some ⟨gL,0,none⟩) (st.length-m+1) Y) (st.take (st.length-m)++[R.1]).length (kn (st.take (st.length-m)++[R.1]))):=by grind[Xm]
        clear F h CM CN AT;go_wp2_with fail
        go_roundw
        case rel=>
         exact⟨k+1,st.take (st.length-m)++[R.1],Ay,by go_num,Ib.out,AU,AU,Ic.out,CO.out,QD.out⟩
        case measure=>simp[intOf];omega
      ·have aiS:R.2=false:=by simp_all
       have z:Hid (kW e bw=((0,0),false)):=Qy (Qx d J.out (by rw[N.out,XC.out,if_neg T]));clear T;obtain⟨l,bV,u⟩:=sg.out.all;go_wp2_with fail
       exact bodyPost_ret (v:=.tuple #[eo (0,0),.bool false]) G5 rfl ⟨by rw[z.out],(q.out.setCell Aa _).setCell Aa _⟩
    ·have z:Hid (kW e bw=((0,0),false)):=Qy (Qx d J.out (by rw[N.out];exact Xz I.out Ay));obtain⟨l,bV,u⟩:=K.out.all;go_wp2_with fail
     exact bodyPost_ret (v:=.tuple #[eo (0,0),.bool false]) (by simp[results,results65,go_sem,l,u]) rfl ⟨by rw[z.out],((f.out.setCell Aa _).setCell Aa _).alloc Hx _⟩
   ·have aB8:(operands t.op).2=false:=by simp_all
    have z:Hid (kW e bw=((0,0),false)):=Qy (Qx d J.out (by rw[N.out];exact Xz I.out Bp));clear eR;obtain⟨l,bV,u⟩:=K.out.all;go_wp2_with fail
    exact bodyPost_ret (v:=.tuple #[eo (0,0),.bool false]) (by simp[results,results65,go_sem,l,u]) rfl ⟨by rw[z.out],((f.out.setCell Aa _).setCell Aa _).alloc Hx _⟩
  ·have Ie:e.take k=e:=AU;have aiT:Hid (n7 bw e []=some st):=AU;obtain⟨l,bV,u⟩:=K.out.all;by_cases XK:st.length=1
   ·obtain⟨t,rfl⟩:∃t,st=[t]:=List.length_eq_one_iff.1 XK;have s:Hid (kW e bw=(t,true)):=by simp_all[Hid,kW]
    rcases r.out.2 with⟨-,nv⟩|⟨g,cap',bp,j,XI,U,-⟩
    ·grind
    ·simp at j;obtain⟨rfl,rfl⟩:=j;have CP:=uK r.out 0 (.int .i64 t.1) (by simp[kn]);have kI:=uK r.out 1 (.int .i64 t.2) (by simp[kn]);clear U Ie XK;go_wp2_with fail
     exact bodyPost_ret (v:=.tuple #[eo t,.bool true]) G5 rfl ⟨by rw[s.out],(f.out.setCell Aa _).setCell Aa _⟩
   ·have s:Hid (kW e bw=((0,0),false)):=by unfold Hid kW;rw[if_neg zu.out,aiT.out];grind
    have CQ:((st.length:Int)==1)=false:=AU;go_wp2_with fail
    exact bodyPost_ret (v:=.tuple #[eo (0,0),.bool false]) G5 rfl ⟨by rw[s.out],(f.out.setCell Aa _).setCell Aa _⟩
end
end cA
namespace ba
open Conc RowKit Conc.Lib ConcR.Gen ConcM az bu ab
section
section
variable {A:e_} {Stop:Bool->ab.av A.ar->a6->Prop} {m:Bool} {mine:Nat->Prop}
variable {b₁:Frame} {a₁:Act} {aG:Array Oper} {i₁:Nat} {aP:List Nat} {k₁:List Item} {cs₁:List Frame}
theorem apX(G:A.Good){bB:bP}{dO:Nat}{a:A.ar}{γ:ab.aT A.aQ}{d it old new:Int}(k:bits .and .i32 old 4=4)(l:(bits .and .i32 old 5 != 0)=true)(j:IntKind.wrap .i32 (old+8)=new){w:World}
 (c:∀w' b,U (ah A) mine w w'->(ah A).dN ⟨bB,false,1,dO,a⟩ γ b->rQ A Stop m mine b₁ a₁ aG i₁ aP k₁ cs₁ ⟨bB,false,1,dO,a⟩ b d false false it old new w'):nM A Stop m mine b₁ a₁ aG i₁ aP k₁ cs₁ ⟨bB,false,1,dO,a⟩ γ d false false it old w:=by
 unfold nM;intros
 unfold rQ at c;have hF:=U.refl (ah A) mine w;refine a5 (aN G) Js 300 _ _ γ Jt ?_;generalize hS:(fun(g:Goroutine)(w:World)=>g.status=.running/\_)=S;simp only[f126,Option.getD_some,cS,iQ,cH,fK,iD,Nat.reduceBEq,Bool.false_eq_true,↓reduceIte]at c⊢;repeat w_go U.trans
 refine Goes.stop (fun i f=>?_);replace hF:=U.trans hF f;subst hS;exact⟨rfl,fun b e=>c i b hF e ..⟩
theorem apY(G:A.Good){bB:bP}{dO:Nat}{a:A.ar}{γ:ab.aT A.aQ}{f it old new d:Int}(k:bits .and .i32 old 4=0)(n:bits .and .i32 old 5=0)(e:bits .or .i32 old 1=d)(l:bits .and .i32 d 2=2)(o:bits .andNot .i32 d 2=new){w:World}
 (c:∀w' b,U (ah A) mine w w'->(ah A).dN ⟨bB,false,1,dO,a⟩ γ b->rQ A Stop m mine b₁ a₁ aG i₁ aP k₁ cs₁ ⟨bB,false,1,dO,a⟩ b f false true it old new w'):nM A Stop m mine b₁ a₁ aG i₁ aP k₁ cs₁ ⟨bB,false,1,dO,a⟩ γ f false true it old w:=by
 unfold nM;intros
 unfold rQ at c;have hF:=U.refl (ah A) mine w;refine a5 (aN G) Js 300 _ _ γ Jt ?_;generalize hS:(fun(g:Goroutine)(w:World)=>g.status=.running/\_)=S;simp only[f126,Option.getD_some,cS,iQ,cH,fK,iD,Nat.reduceBEq,Bool.false_eq_true,↓reduceIte]at c⊢;repeat w_go U.trans
 refine Goes.stop (fun j i=>?_);replace hF:=U.trans hF i;subst hS;exact⟨rfl,fun b e=>c j b hF e ..⟩
end
end
end ba
end Go.Proofs.YtoehnnefaeoeoaaGreat
