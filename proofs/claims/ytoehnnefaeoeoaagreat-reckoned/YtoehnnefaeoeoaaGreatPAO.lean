import Derived.Test.YtoehnnefaeoeoaaGreatPAH
set_option linter.all false
set_option maxRecDepth 100000
set_option maxHeartbeats 16000000
namespace Go.Proofs.YtoehnnefaeoeoaaGreat
open Go.Proofs.Tryz
namespace b_
open RowKit az
theorem aaa:(ai prog false).funcs[(194:Nat)]?=some f194:=bl (upd:=false) func194 AS
@[simp] theorem aEa (args:Array Value) (w:World):Sem.run (ai prog false) (callFunc 194 args) w=.ok (.enter 194 args) w:=c8 aaa AS args w
theorem an4(es:List (List cd))(ev a9 Q P:Value)(vals out:List bU)(w:World)(hv:mP w ev es)(x:∃a n c,a9=.slice a n c)(al:∃a n c,Q=.slice a n c)(v:k0 w P vals)(hsm:es.length<=1000000)(E:∀e∈es,e.length<=900)(Ny:out.length=es.length)(hrun:∀k(h:k<es.length)(h':k<out.length),z5 vals es[k] [] [out[k]]):
 Calls (ai prog false) 194 #[.agg #[ev,a9],.agg #[Q,P]] w fun e w'=>∃b cs,e=.returned (.slice (some ⟨b,0,none⟩) es.length es.length)/\af w' b cs 95/\cs.size=es.length*4/\uY cs out es.length/\w.heap.size<=b/\Below w.heap.size w w':=by
 obtain⟨R,S,cc,rfl⟩:=x;obtain⟨m,gO,pc,rfl⟩:=al;obtain⟨o,l,Sz,-⟩:=v.shape;subst Sz;have v_:Hid _:=v;have SA:Hid (∀k(h:k<es.length)(h':k<out.length),z5 vals es[k] [] [out[k]]):=hrun;have C:Hid (∀e∈es,e.length<=900):=E;clear v hrun E;obtain⟨T,cap,rfl,hl,U⟩:=hv;go_enter aaa,ntmps194
 go_wp2_with (at_make;refine LP Q2 _ rfl _ _ rfl _ _ es.length rfl rfl Ay Ay ?_;intro w1 bp ca z r;have N:=((af.new w #[.slice T es.length cap,.slice R S cc] 106).alloc (.cells #[.slice m gO pc,.slice o vals.length l] 78)).call r;have D:=(af.new (w.alloc (.cells #[.slice T es.length cap,.slice R S cc] 106)) #[.slice m gO pc,.slice o vals.length l] 78).call r;obtain⟨Ih,vU,xd⟩:=N.all)
 rw[World.size_alloc]at D;have M:Below w.heap.size w w1:=Below.step r (((Below.refl _ _).alloc Aa _).alloc Aa _) Bu;have qp:Hid (af w1 (w.heap.size+1) #[.slice m gO pc,.slice o vals.length l] 78):=D;have X:af w1 (w.heap.size+1+1) bp 95:=Bp;have Y:Hid (af w1 (w.heap.size+1+1) bp 95):=X;have dM:Hid (Below w.heap.size w w1):=M;clear ca X r M N D;go_loopw [15] (fun n W=>∃(k:Nat)(cs:Array Value),k<=es.length/\n=.int .i64 k/\af W (w.heap.size+1+1) cs 95/\cs.size=es.length*4/\uY cs out k/\Below w.heap.size w W/\af W (w.heap.size+1) #[.slice m gO pc,.slice o vals.length l] 78)
  (fun i _=>es.length-(intOf i).toNat)
 case atStart=>exact⟨0,bp,Nat.zero_le _,rfl,Y.out,z,fun j _ hj=>AU,dM.out,qp.out⟩
 case round=>
  obtain⟨k,cs,hk,rfl,K,H,J,V,y⟩:=hrel;have L:Hid (af wr (w.heap.size+1+1) cs 95):=K;have F:Hid (uY cs out k):=J;have q:Hid (Below w.heap.size w wr):=V;have kX:Hid (af wr (w.heap.size+1) #[.slice m gO pc,.slice o vals.length l] 78):=y;have g:Hid _:=H;have LU:Hid _:=z;obtain⟨r1,r2,r3⟩:=y.all;clear K J V H z y;by_cases p:k<es.length
  ·obtain⟨b,off,rfl,cm,dw,u⟩:=U k p;simp at dw;have t:=bC.cW q.out;have O:=t _ _ _ dw;have gK:=gX O;obtain⟨fV,dI,B,-⟩:=bd.shape u;subst B;have fZ:Hid (Fy wr _ es[k]):=bd.mono w7 t u;have A:Hid (k0 wr _ vals):=bd.mono Bq t v_.out;clear t dw u U;have ql:(0:Int)<=(k:Int):=Ay;have s7:(k:Int)<(es.length:Int):=Ay;have I:k<out.length:=Ay;go_wp2_with fail
   refine(an0 es[k] _ _ _ vals out[k] _ fZ.out AU A.out (C.out _ AU) (SA.out k p I)).mono ?_;rintro e d ⟨rfl,s⟩;have f:=L.out.call s;have CV:Hid (af d (w.heap.size+1+1) cs 95):=f;have Z:Hid (af d (w.heap.size+1) #[.slice m gO pc,.slice o vals.length l] 78):=kX.out.call s;have mU:Hid (Below w.heap.size w d):=q.out.trans (s.mono q.out.size);have QJ:d.cell? ⟨w.heap.size+1+1,k*4,none⟩=some (cs[k*4]'F8):=by rw[f.bT.1];simp
   have QK:d.cell? ⟨w.heap.size+1+1,k*4+1,none⟩=some (cs[k*4+1]'F8):=by rw[f.bT.1];simp
   have Yi:d.cell? ⟨w.heap.size+1+1,k*4+2,none⟩=some (cs[k*4+2]'F8):=by rw[f.bT.1];simp
   have Yj:d.cell? ⟨w.heap.size+1+1,k*4+3,none⟩=some (cs[k*4+3]'F8):=by rw[f.bT.1];simp
   have QL:=f.bT.2;clear f s O r1 r2 r3;go_wp2_with fail
   go_roundw
   case rel=>
    refine⟨k+1,Ma cs k out[k],Ay,by go_num,(((CV.out.set _ _).set _ _).set _ _).set _ _,by simp;exact g.out,F.out.step I (by rw[Ny];exact g.out),(((mU.out.setCell AU _).setCell AU _).setCell AU _).setCell AU _,?_⟩;exact(((Z.out.fu Aa _).fu Aa _).fu Aa _).fu Aa _
   case measure=>simp[intOf];omega
  ·have fv:k=es.length:=by omega
   go_wp2_with fail
   go_ret
   exact⟨_,_,rfl,L.out,g.out,by rw[<-fv];exact F.out,Ay,q.out⟩
theorem aab:(ai prog false).funcs[(193:Nat)]?=some f193:=bl (upd:=false) func193 AS
def SC(n₀:Nat)(place:List Int)(vals:List bU)(W:World)(x:Value):Prop:=
 ∃ed pc bv cs,x=.agg #[.slice ed place.length pc,.slice (some ⟨bv,0,none⟩) vals.length vals.length]/\(∀i(h:i<place.length),∃b off c e z,ed=some ⟨b,off,none⟩/\b<n₀/\W.heap[b]?=some (.cells c e z)/\c[off+i]?=some (.int .i64 place[i]))/\af W bv cs 95/\cs.size=vals.length*4/\uY cs vals vals.length
theorem an8(n₀:Nat)(pl:Nat->List Int)(vs:Nat->List bU):L5 n₀ (fun t=>SC n₀ (pl t) (vs t)):=by
 refine⟨fun t W x h=>?_,fun t W o x h a=>?_⟩
 ·obtain⟨d,pc,bv,cs,rfl,-⟩:=h;grind
 ·obtain⟨d,pc,bv,cs,rfl,m,l,k⟩:=h;refine⟨d,pc,bv,cs,rfl,fun i hi=>?_,a _ _ _ _ l AU,k⟩;obtain⟨b,off,c,e,z,g,f,n,j⟩:=m i hi;exact⟨b,off,c,e,z,g,f,a _ _ _ _ n (.inl f),j⟩
theorem an9{w:World}{b o:Nat}{v:Value}(h:w.cell? ⟨b,o,none⟩=some v):∃c e z,w.heap[b]?=some (.cells c e z)/\c[o]?=some v:=by unfold World.cell? at h;grind
theorem an_{n:Nat}(es:List (List cd))(rs:List dY)(ev a9:Value)(fr aL:Nat)(outs:Nat->List bU)(w0:World)(hv:mP w0 ev es)(hc:g9 w0 a9 rs)(m:es.length<=1000000)(xr:∀e∈es,e.length<=900)(vU:fr<=aL)(ys:aL<=rs.length)(SD:rs.length<=1000000)(Ny:∀i,(outs i).length=es.length)
 (hrun:∀i(h:i<rs.length) k(hk:k<es.length)(h':k<(outs i).length),z5 rs[i].2 es[k] [] [(outs i)[k]]) (wy:∃a c,a9=.slice a rs.length c/\rs.length<=c) (jV:fr<aL) (M j6 eS:Nat)
 (I:w0.cell? ⟨M,0,none⟩=some ev) (H:w0.cell? ⟨M,1,none⟩=some a9) (Q:w0.cell? ⟨j6,0,none⟩=some (.int .i64 fr)) (ht:w0.cell? ⟨eS,0,none⟩=some (.int .i64 aL)):
 FM n (ai prog false) 193 #[.pointer (some ⟨M,0,none⟩),.pointer (some ⟨j6,0,none⟩),.pointer (some ⟨eS,0,none⟩)] (fun k=>SC w0.heap.size ((rs[fr+k]?.map (·.1)).getD []) (outs (fr+k))) (aL-fr) w0.heap.size w0:=by
 intro l S J W T xd A2 kM h0;have N:=QM xd A2;clear A2 xd;have j:=bC.cW T;have yt:=j _ _ _ Q;have Nz:=j _ _ _ ht;have A:=j _ _ _ I;have z:=j _ _ _ H;obtain⟨bL,cap,rfl,-,-⟩:=id hv;obtain⟨cN,Z,rfl,wy⟩:=wy;obtain⟨aEc,aEd,R,-,F⟩:=id hc;cases R;obtain⟨b6,co,rfl,-⟩:=F 0 Ay;refine callsIn_of_wp aab rfl trivial ?_ rfl;simp[Array.replicate_succ];gi_wp2
 gi_loopw [13] (fun p wr=>∃i:Nat,fr+i<=aL/\p=.int .i64 (i:Int)/\J i wr/\Below w0.heap.size w0 wr/\Below w0.heap.size W wr) (fun p _=>aL-fr-(intOf p).toNat)
 case atStart=>grind[Below.refl]
 case round=>
  obtain⟨i,s7,rfl,O,D,U⟩:=hrel;have g:=bC.cW D;have SE:=g _ _ _ I;have HE:=g _ _ _ H;have SF:=gX SE;have v_:Hid (mP wr _ es):=bd.mono ns g hv;have yu:Hid (J i wr):=O;have C:Hid (Below w0.heap.size w0 wr):=D;have sj:Hid (Below w0.heap.size W wr):=U;by_cases hlt:fr+i<aL
  ·have k6:fr+i<rs.length:=by omega
   obtain⟨aD,H8,vn,cv,dZ,dw,d1,yJ,K⟩:=F (fr+i) k6;cases vn;obtain⟨f,pc,rfl,-,y⟩:=id yJ;obtain⟨o,r,rfl,-,-⟩:=id K;simp at dw;have V:=g _ _ _ dw;have e1:=g _ _ _ d1;have da:=gX V;have Ga:Hid (k0 wr _ _):=bd.mono Bq g K;have x:Hid _:=y;have FD:(i:Int)<((aL-fr:Nat):Int):=Ay;have A0:(0:Int)<=(i:Int):=Ay;have db:co+(fr+i)*2=co+fr*2+i*2:=Ay;rw[db]at V e1;clear O D U g Q ht I H yt Nz A z h0 T j dw d1 F y db;gi_wp2
   have L:Below wr.heap.size wr (wr.alloc (.cells #[.slice f rs[fr+i].1.length pc,.slice o rs[fr+i].2.length r] 78)):=(Below.refl _ wr).alloc Jr _;have fZ:Hid (af (wr.alloc (.cells #[.slice f rs[fr+i].1.length pc,.slice o rs[fr+i].2.length r] 78)) wr.heap.size #[.slice f rs[fr+i].1.length pc,.slice o rs[fr+i].2.length r] 78):=af.new _ _ _;have B:=bC.cW L;have ny:=B _ _ _ SE;have q1:=B _ _ _ HE;have w:Hid (mP _ _ es):=bd.mono ns B v_.out;have v:Hid (k0 _ _ _):=bd.mono Bq B Ga.out;have ww:Hid (Below wr.heap.size wr _):=L;have NA:Hid (wr.heap.size+1=(wr.alloc (.cells #[.slice f rs[fr+i].1.length pc,.slice o rs[fr+i].2.length r] 78)).heap.size):=Bp;clear L B SE HE V e1 yJ K SF;generalize wr.alloc (.cells #[.slice f rs[fr+i].1.length pc,.slice o rs[fr+i].2.length r] 78)=P at *;obtain⟨t1,t2,t3⟩:=fZ.out.all;have u:=hrun (fr+i) k6;have t:=Ny (fr+i);have Y:=N;have kT:=an4 es _ (.slice (some ⟨b6,co,none⟩) rs.length Z) (.slice f rs[fr+i].1.length pc) _ rs[fr+i].2 (outs (fr+i)) P.drew (bd.mono ns K3 w.out) AU AU (bd.mono Bq K3 v.out) m xr t u;have HC:Hid _:=kT;clear kT;have Ju:∀b cs d,af d b cs 95->cs.size=es.length*4->uY cs (outs (fr+i)) es.length->Below P.drew.heap.size P.drew d->YieldAt Fence.wide (n-1) (ai prog false) l #[.agg #[.slice f rs[fr+i].1.length pc,.slice (some ⟨b,0,none⟩) es.length es.length]] d fun e W'=>e=.returned (.bool true)/\J (i+1) W'/\Below w0.heap.size d W':=by
    intro b cs d k1 bE cr jD;have eQ:Below wr.heap.size wr d:=ww.out.drew.trans (jD.mono Ip);refine kM i _ d (N _ _ _ yu.out eQ) Ay ⟨f,pc,b,cs,?_,?_,k1,?_,?_⟩
    ·grind
    ·intro q hq;have Mp:q<rs[fr+i].1.length:=AU;obtain⟨b2,o2,rfl,iu⟩:=x.out q Mp;have s:w0.cell? ⟨b2,o2+q,none⟩=some (.int .i64 rs[fr+i].1[q]):=by simp_all[w5]
     have j2:=gX s;have qi:=(bC.cW (C.out.trans (eQ.mono C.out.size))) _ _ _ s;grind[an9]
    ·grind
    grind
   have vQ:Hid _:=Ju;clear Ju w v x u kM N hrun Y m xr Ny t Ga v_;gi_region_with (first|(refine⟨trivial,fun h=>Dn,(callsIn_wide.2 HC.out).mono ?_⟩;rintro e d ⟨b,cs,rfl,ca,cI,CZ,oc,E⟩;obtain⟨u1,u2,u3⟩:=(fZ.out.drew.call E).all;obtain⟨fn,tmps,assign,body,hy,bM⟩:=vQ.out b cs d ca cI CZ E)|(refine⟨fun h=>Dn,bM.mono ?_⟩;rintro e tP ⟨rfl,C0,mm⟩))
   all_goals
    have X:Hid (J (i+1) tP):=C0;have sI:Hid (Below w0.heap.size wr tP):=((ww.out.drew.trans (E.mono Ip)).mono C.out.size).trans mm;clear C0 mm bM hy ca cI CZ oc E u1 u2 u3 t1 t2 t3 ny q1;gi_wp2
    go_roundw
    case rel=>exact⟨i+1,Ay,Aa,X.out,C.out.trans sI.out,sj.out.trans sI.out⟩
    case measure=>simp[intOf];omega
  ·have FD:¬(i:Int)<((aL-fr:Nat):Int):=by omega
   clear O D U g Q ht I H yt Nz A z h0 T j F;gi_wp2
   go_end0
   have e:aL-fr=i:=Ay;rw[e];exact⟨⟨_,rfl⟩,yu.out,sj.out⟩
end b_
end Go.Proofs.YtoehnnefaeoeoaaGreat
