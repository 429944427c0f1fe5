import Derived.Test.YtoehnnefaeoeoaaGreatPAV
set_option linter.all false
set_option maxRecDepth 100000
set_option maxHeartbeats 16000000
namespace Go.Proofs.YtoehnnefaeoeoaaGreat
open Go.Proofs.Tryz
namespace bD
open Conc ConcM RowKit az bu cZ dD b_ cA
@[simp] theorem aik (a:Array Value) (w:World):Sem.run (ai prog true) (callFunc 17 a) w=.ok (.enter 17 a) w:=c8 (bl (upd:=true) func17 AS) AS a w
@[simp] theorem aij (a:Array Value) (w:World):Sem.run (ai prog true) (callFunc 18 a) w=.ok (.enter 18 a) w:=c8 (bl (upd:=true) func18 AS) AS a w
theorem auf(W a:Nat)(h:0<W)(g:W<=16)(f:0<a)(d:a<=64)(w:World):Calls (ai prog true) 17 #[.agg #[.int .i64 W,.int .i64 a]] w fun e w'=>e=.returned (.bool true)/\Below w.heap.size w w':=by
 have b:(1:Int)<=(W:Int):=Ay;have j:(W:Int)<=16:=Ay;have i:(1:Int)<=(a:Int):=Ay;have c:(a:Int)<=64:=Ay;go_enter (bl (upd:=true) func17 AS),ntmps17
 go_wp2
 go_ret
 exact⟨rfl,(Below.refl _ _).alloc Jr _⟩
def uv(n0:Nat)(t:List br)(es:List (List cd))(l1:List (Int×Int))(W ak:Nat):List (Nat×(World->Value->Prop)):=
 [(4,cy (.int .i64 0)),(5,cy (.int .i64 9223372036854775807)),(12,tD n0 27 1),(14,tD n0 59 2),(16,T1 l1),(52,kz t),(53,kA es),(54,cy (.agg #[.int .i64 W,.int .i64 ak]))]
theorem aug{n0:Nat}(t:List br)(es:List (List cd))(l1:List (Int×Int))(W b:Nat)(h1:0<W)(h2:W<=16)(h3:0<b)(h4:b<=64)(T Q:Value)(w:World)(V:n0<=w.heap.size)(Y:kz t w T)(B3:kA es w Q)(T_:ml t=true)(hes:es.length=7)(s6:∀e∈es,∀t∈e,cA.Met t.op)(hrun:kL (qn t) es=some l1):
 c2 (ai prog true) [.code (fL f16)] [.inRegion (aF f16 7) (List.range' 3 9),.code (dR f16 7)] (fun a1 w1=>a1.defers=[]/\d0 78 (uv n0 t es l1 W b) a1 w1/\Below n0 w w1)
  ⟨#[T,Q,.int .i64 W,.int .i64 b,.int .i64 0,.int .i64 9223372036854775807]++Array.replicate 72 undef,[]⟩ w:=by
 simp[aF,dR,fL,f16,ba.cH,ba.fK,ba.iD];simp[Array.replicate_succ];obtain⟨h,f,y,z,rfl,F,q⟩:=Y;obtain⟨nb,no,A,u,ec,rfl,L,K,o⟩:=B3;refine cn (g_ ?_);go_wp2
 refine⟨rfl,cn (g_ ?_)⟩;go_wp2
 refine⟨rfl,cn (g_ ?_)⟩;go_wp2_with (refine(auf W b h1 h2 h3 h4 _).mono ?_;rintro e w1 ⟨rfl,l⟩)
 have S:Below w.heap.size w (((w.alloc (.cells #[.slice none 0 0] 27)).alloc (.cells #[.int .i64 0,.slice none 0 0] 59)).alloc (.cells #[.int .i64 W,.int .i64 b] 64)):=(((Below.refl _ w).alloc Jr _).alloc Aa _).alloc Bu _;have P:af w1 w.heap.size #[.slice none 0 0] 27:=(((af.new w _ _).alloc _).alloc _).call l;have N:af w1 (w.heap.size+1) #[.int .i64 0,.slice none 0 0] 59:=by have:=((af.new (w.alloc (.cells #[.slice none 0 0] 27)) #[.int .i64 0,.slice none 0 0] 59).alloc (.cells #[.int .i64 W,.int .i64 b] 64)).call l;simp_all
 have M:af w1 (w.heap.size+1+1) #[.int .i64 W,.int .i64 b] 64:=by have:=(af.new ((w.alloc (.cells #[.slice none 0 0] 27)).alloc (.cells #[.int .i64 0,.slice none 0 0] 59)) #[.int .i64 W,.int .i64 b] 64).call l;simp_all
 have s:Below w.heap.size w w1:=Below.step l S Bu;have a:=bC.cW s;have fZ:Hid (CI w1 (.slice (some ⟨h,f,none⟩) 1 y) [t]):=⟨_,_,rfl,Aa,fun i hi=>⟨h,f,rfl,z,by
  have:i=0:=AU;subst this;simpa using a _ _ _ F,by
  grind[bd.mono,se]⟩⟩
 have X:Hid (nP w1 nb no 1 (.slice none 0 0)):=fun j x d=>a _ _ _ (L j x d);have n:Hid (nP w1 nb (no+7) 3 (.slice u 7 ec)):=fun j x d=>a _ _ _ (K j x d);have m:Hid (mP w1 (.slice u 7 ec) es):=bd.mono ns a o;have E:Hid (w1.cell? ⟨h,f,none⟩=some z):=a _ _ _ F;have D:Hid (lV w1 z t):=bd.mono se a q;clear l S a F q L K o;refine⟨rfl,cn (g_ ?_)⟩;go_wp2_with (refine(atU t es l1 h f y nb no A ec u _ fZ.out T_ X.out n.out m.out hes s6 hrun).mono ?_;rintro e r ⟨g,c,v,rfl,O,J,k⟩)
 have TW:=M.call k;have H:=N.call k;have I:=P.call k;have a:=bC.cW k;have R:Below w.heap.size w r:=Below.step k s s.size;have C:Hid (kz t r (.slice (some ⟨h,f,none⟩) 1 y)):=⟨h,f,y,z,rfl,a _ _ _ E.out,bd.mono se a D.out⟩;have B:Hid (kA es r (.slice (some ⟨nb,no,none⟩) 2 A)):=⟨nb,no,A,u,ec,rfl,fun j x d=>a _ _ _ (X.out j x d),fun j x d=>a _ _ _ (n.out j x d),bd.mono ns a m.out⟩;have Ul:Hid (T1 l1 r (.slice (some ⟨g,0,none⟩) 2 c)):=⟨g,c,v,rfl,O,J⟩;obtain⟨dW,er,fx⟩:=TW.all;have Um:Hid _:=I;have Un:Hid _:=H;have Z:Hid _:=R;clear a k s P N M J O I H R;refine⟨rfl,cn (g_ ?_)⟩;go_wp2
 refine⟨rfl,cn (zX (vk 3 AW AW ?_))⟩;simp only[List.drop_zero,List.take_succ_cons,List.take_zero];go_wp2
 refine⟨rfl,om ⟨rfl,⟨rfl,fun p U=>?_⟩,Z.out.mono V⟩⟩;simp[uv]at U;rcases U with rfl|rfl|rfl|rfl|rfl|rfl|rfl|rfl
 ·exact⟨_,rfl,rfl⟩
 ·exact⟨_,rfl,rfl⟩
 ·exact⟨_,rfl,_,_,rfl,V,Um.out,rfl⟩
 ·exact⟨_,rfl,_,_,rfl,Ay,Un.out,rfl⟩
 ·exact⟨_,rfl,Ul.out⟩
 ·exact⟨_,rfl,C.out⟩
 ·exact⟨_,rfl,B.out⟩
 ·exact⟨_,rfl,rfl⟩
@[simp] theorem aGB (a:Array Value) (w:World):Sem.run (ai prog true) (callFunc 21 a) w=.ok (.enter 21 a) w:=c8 (bl (upd:=true) func21 AS) AS a w
@[simp] theorem aGC (a:Array Value) (w:World):Sem.run (ai prog true) (callFunc 20 a) w=.ok (.enter 20 a) w:=c8 (bl (upd:=true) func20 AS) AS a w
theorem avg(a:Array Value)(w:World):Sem.run (ai prog true) (callFunc 29 a) w=.ok (.enter 29 a) w:=c8 (bl (upd:=true) Tryz.func29 AS) AS a w
theorem avh(a:Array Value)(w:World):Sem.run (ai prog true) (callFunc 28 a) w=.ok (.enter 28 a) w:=c8 (bl (upd:=true) Tryz.func28 AS) AS a w
theorem avi(a:Option Addr)(c cc:Nat)(w:World):Calls (ai prog true) 21 #[.slice a c cc] w fun e w'=>∃b,e=.returned (.func (.func 29) #[] #[.pointer (some ⟨b,0,none⟩)])/\w'.cell? ⟨b,0,none⟩=some (.slice a c cc)/\Below w.heap.size w w':=by
 go_enter (bl (upd:=true) func21 AS),ntmps21
 go_wp2
 go_ret
 exact⟨_,rfl,kH (World.alloc_heap_new w _) rfl rfl,(Below.refl _ w).alloc Jr _⟩
theorem avj(g:Nat)(lb:Array Value)(w:World):Calls (ai prog true) 20 #[.func (.func g) #[] lb,.int .i64 0,.int .i64 9223372036854775807] w fun e w'=>∃b1 b a,e=.returned (.func (.func 28) #[] #[.pointer (some ⟨b1,0,none⟩),.pointer (some ⟨b,0,none⟩),.pointer (some ⟨a,0,none⟩)])/\w'.cell? ⟨b1,0,none⟩=some (.func (.func g) #[] lb)/\w'.cell? ⟨b,0,none⟩=some (.int .i64 0)/\w'.cell? ⟨a,0,none⟩=some (.int .i64 9223372036854775807)/\Below w.heap.size w w':=by
 go_enter (bl (upd:=true) func20 AS),ntmps20
 go_wp2
 go_ret
 refine⟨_,_,_,rfl,nO (nO (kH (World.alloc_heap_new w _) rfl rfl) _) _,?_,?_,(((Below.refl _ w).alloc Jr _).alloc Aa _).alloc Bu _⟩
 ·grind[nO,World.alloc_heap_new,World.size_alloc,kH]
 grind[World.alloc_heap_new,World.size_alloc,kH]
theorem avk(F:Func)(hF:F.results=f16.results){n0:Nat}(t:List br)(es:List (List cd))(l1:List (Int×Int))(W ak:Nat)(rs:List dY)(a:Act)(w:World)(aj:n0<=w.heap.size)(hd:a.defers=[])(hs:d0 78 ((55,J7 rs)::uv n0 t es l1 W ak) a w)(hl:l1.length<=1000)(SD:rs.length<=1000)(ly:∀r∈rs,r.2.length=l1.length)(GV:∀r∈rs,∀d∈r.2,d.text.size<=1000000):
 xQ (ai prog true) F [.inRegion (aF f16 7) (List.range' 4 8),.code (dR f16 7)] (fun v w1=>rW (pC l1 (l8 rs) rs.length) w1 v/\Below n0 w w1) a w:=by
 obtain⟨hsz,hf⟩:=hs;obtain⟨ft,db,dA,cY,ff,dQ,jH,gS,hp,ja,lI,ll,ij,ky,kQ,ln,mD,pe,rV,vw,pN,nQ,pO,lJ,pP,pQ,pR,pS,pT,vx,pU,pV,pW,pX,pY,pZ,p0,p1,p5,p6,ub,ud,ue,uf,ug,uh,ui,uj,uk,ul,um,uo,tB,tC,rU,up,p7,Kb,Kc,An,Kd,Ke,Kf,Kg,Kh,Ki,Kj,Kk,Kl,Km,Kn,Ko,Kp,Kq,Kr,Ks,Kt,Ku,rfl⟩:=aul hsz hd;simp only[uv,List.mem_cons,List.not_mem_nil,or_false,forall_eq_or_imp,forall_eq]at hf;obtain⟨⟨v55,B,a9,rfl,o⟩,⟨v4,e4,h4⟩,⟨v5,jB,bn⟩,⟨v12,vA,c,K,rfl,V,u,Ap⟩,⟨v14,GW,b,J,rfl,A,s,UE⟩,⟨v16,KE,g,gc,cm,rfl,Y,L⟩,-⟩:=hf;obtain rfl:=Option.some.inj B;obtain rfl:=Option.some.inj e4;obtain rfl:=Option.some.inj jB;obtain rfl:=Option.some.inj vA;obtain rfl:=Option.some.inj GW;obtain rfl:=Option.some.inj KE;cases h4;cases bn;obtain⟨cN,cc,rfl,-,-⟩:=id o;clear B e4 jB vA GW KE hsz hd;refine Gq (ks':=[.code (dR f16 7)]) ?_;simp[aF,dR,f16,ba.cH,ba.fK,ba.iD];refine(vk 8 AW AW ?_);simp only[List.drop_zero,List.drop_succ_cons,List.take_succ_cons,List.take_zero];unfold tE;go_wp2
 refine⟨rfl,t6 (om (Jh ?_))⟩;have Um:Hid (af w c K 27):=u;have Un:Hid (af w b J 59):=s;have U:Hid (w.cell? ⟨g,1,none⟩=some cm):=Y;have Ul:Hid (fh w cm l1):=L;have T:Hid (g9 w (.slice cN rs.length cc) rs):=o;obtain⟨fV,dI,rfl,-,-⟩:=id L;clear u s Y L o;have DT:Hid _:=hF;clear hF;go_wp2_with (refine(avi _ _ _ _).mono ?_;rintro e w1 ⟨cV,rfl,gB,bm⟩;apply yn)
 unfold xh;have z:Below w.heap.size w w1:=Below.step bm ((Below.refl _ w).alloc Jr _) Aa;clear bm;have sg:Hid _:=gB;clear gB;have dM:Hid _:=z;clear z;go_wp2_with (refine(avj _ _ _).mono ?_;rintro e i ⟨b1,b2,eH,rfl,DX,E,uB,N⟩;apply yn)
 unfold xh;have y:Below w.heap.size w i:=dM.out.trans (N.mono dM.out.size);have D:=bC.cW N;have I:=bC.cW y;have Y:=I _ _ _ U.out;have S:Hid (fh i (.slice fV l1.length dI) l1):=Ul.out.mono s3 I;have uU:∀n,MY tX n (ai prog true) 28 #[.pointer (some ⟨b1,0,none⟩),.pointer (some ⟨b2,0,none⟩),.pointer (some ⟨eH,0,none⟩)] (I2 i rs) rs.length i.heap.size i:=fun n=>
  amA b1 b2 eH i (fun n=>amw rs (.slice cN rs.length cc) cV i (T.out.mono xM I) Ay (D _ _ _ sg.out)) avg
   (fun t W x h=>by obtain⟨_,ed,pc,j,k,rfl,-,-⟩:=h;grind) (fun t W W' x hk h=>by
    obtain⟨h0,ed,pc,j,k,rfl,h1,h2⟩:=h;exact⟨h0,ed,pc,j,k,rfl,h1,fun _ _ _ hc=>Dw hk (h2 _ _ _ hc)⟩) Ay DX E uB
 have R:Hid _:=uU;have Q:Hid (af i c K 27):=Um.out.call y;have P:Hid (af i b J 59):=Un.out.call y;have sI:Hid _:=y;clear y N DX E uB D I uU;go_wp2_with (refine(at2 l1 _ rs i S.out hl SD ly GV avh R.out).mono ?_;rintro e f ⟨a9,rfl,M,H⟩;apply yn)
 unfold xh;have u:=Q.out.call H;have s:=P.out.call H;have yK:Below w.heap.size w f:=sI.out.trans (H.mono sI.out.size);obtain⟨UG,rfl⟩:∃q,K=#[q]:=by obtain⟨l⟩:=K;match l,Ap with| [q],_=>grind
 obtain⟨Ow,KF,rfl⟩:∃q r,J=#[q,r]:=by obtain⟨l⟩:=J;match l,UE with| [q,r],_=>grind
 have m:c≠b:=fun e=>by grind[af]
 have Z:b≠c:=Ne.symm m;obtain⟨dW,er,fx⟩:=u.all;obtain⟨l9,nl,rY⟩:=s.all;obtain⟨⟨j,k,rfl,-,-⟩,-⟩:=id M;have fZ:Hid (iB f _ (pC l1 (l8 rs) rs.length)):=M;have O:Hid _:=yK;have C:Hid (af f c #[UG] 27):=u;have X:Hid (af f b #[Ow,KF] 59):=s;clear u s H yK M;go_wp2
 have u12:af (((f.setCell ⟨c,0,none⟩ (.slice j (pC l1 (l8 rs) rs.length).length k)).setCell ⟨b,0,none⟩ (.int .i64 0)).setCell ⟨b,1,none⟩ (.slice none 0 0)) c #[.slice j (pC l1 (l8 rs) rs.length).length k] 27:=((C.out.set 0 _).fu m _).fu m _;have u14:af (((f.setCell ⟨c,0,none⟩ (.slice j (pC l1 (l8 rs) rs.length).length k)).setCell ⟨b,0,none⟩ (.int .i64 0)).setCell ⟨b,1,none⟩ (.slice none 0 0)) b #[.int .i64 0,.slice none 0 0] 59:=((X.out.fu Z _).set 0 _).set 1 _;have jF:eT jU f (((f.setCell ⟨c,0,none⟩ (.slice j (pC l1 (l8 rs) rs.length).length k)).setCell ⟨b,0,none⟩ (.int .i64 0)).setCell ⟨b,1,none⟩ (.slice none 0 0)):=
  ((eT.set C.out Dr _ _).trans (eT.set (X.out.fu Z _) Dr _ _)).trans (eT.set ((X.out.fu Z _).set 0 _) Dr _ _)
 have vn:Below n0 w (((f.setCell ⟨c,0,none⟩ (.slice j (pC l1 (l8 rs) rs.length).length k)).setCell ⟨b,0,none⟩ (.int .i64 0)).setCell ⟨b,1,none⟩ (.slice none 0 0)):=
  (((O.out.mono aj).setCell (p:=⟨c,0,none⟩) V _).setCell (p:=⟨b,0,none⟩) A _).setCell (p:=⟨b,1,none⟩) A _
 have KG:=iB.kept jF fZ.out;clear dW er fx l9 nl rY jF;generalize(((f.setCell ⟨c,0,none⟩ (.slice j (pC l1 (l8 rs) rs.length).length k)).setCell ⟨b,0,none⟩ (.int .i64 0)).setCell ⟨b,1,none⟩ (.slice none 0 0))=sQ at *;obtain⟨i1,-⟩:=u12.bT;obtain⟨i2,-⟩:=u14.bT;refine bodyPost_ret (v:=.tuple #[.agg #[.slice j (pC l1 (l8 rs) rs.length).length k],.int .i64 0,tE]) (by simp[results,DT.out,results16,go_sem,tE,i1,i2]) rfl ⟨_,rfl,⟨_,rfl,KG⟩,vn⟩
variable {Post:Value->World->Prop}
section
variable {O:jW}
theorem qH.mono{P:Program}{f:FuncId}{args:Array Value}{M:Nat->Prop}{w:World}{d:Nat}{V a:Value->(Nat->Prop)->World->Prop}(h:qH O P Post f args M w d V)(j:∀u M' w',V u M' w'->a u M' w'):qH O P Post f args M w d a:=
 fun n Shun e g c a₁ aG i₁ aP k₁ cs₁ b i=>h n Shun e g c a₁ aG i₁ aP k₁ cs₁ b AU
structure KH(t:List br)(es:List (List cd))(l1:List (Int×Int))(S:Nat)(outs:Nat->List bU):Prop where
 h0:0<t.length
 hS:S<=300
 hZ:t[0].fY.length=S
 dF:∀i,i<S->∀c∈t,xk i c
 ok:Gu es (bF t 0 S) outs
 right:ml t=true
 hes:es.length=7
 s6:∀e∈es,∀t∈e,cA.Met t.op
 run:kL (qn t) es=some l1
 hl:l1.length<=1000
 ly:∀r∈eX (bF t 0 S) outs 0 (bF t 0 S).length,r.2.length=l1.length
 GV:∀r∈eX (bF t 0 S) outs 0 (bF t 0 S).length,∀d∈r.2,d.text.size<=1000000
def wM(t:List br)(S:Nat)(outs:Nat->List bU):List dY:=eX (bF t 0 S) outs 0 (bF t 0 S).length
def pj(t:List br)(l1:List (Int×Int))(S:Nat)(outs:Nat->List bU):List br:=pC l1 (l8 (wM t S outs)) (wM t S outs).length
theorem UI{n0:Nat}(t:List br)(es:List (List cd))(l1:List (Int×Int))(W b:Nat):∀p∈uv n0 t es l1 W b,gR n0 p.2:=by
 intro p a;simp[uv]at a;rcases a with rfl|rfl|rfl|rfl|rfl|rfl|rfl|rfl
 ·exact wL _ _
 ·exact wL _ _
 ·exact Ey _ _
 ·exact Ey _ _
 ·exact atx _
 ·exact Ak _
 ·exact Al _
 ·exact acB _ _
theorem J_:i6 prog true f16=true:=by decide+kernel
theorem avt{M:Nat->Prop}{w:World}{m i:Value}(iZ:a3 (cB M) #[m,i] #[m,i]){t:List br}{es:List (List cd)}{l1:List (Int×Int)}{S:Nat}{outs:Nat->List bU}(F:KH t es l1 S outs)(wE:kz t w m)(B3:kA es w i){W f:Nat}(T:0<W)(R:W<=16)(Q:0<f)(P:f<=64):
 qH O prog Post 16 #[m,i,.int .i64 W,.int .i64 f,.int .i64 0,.int .i64 9223372036854775807] M w 2 (fun u _ w'=>rW (pj t l1 S outs) w' u/\fm M w w'):=by
 intro n Shun aj a7 eV a₁ aG i₁ aP k₁ cs₁ hc d_;have U:mz prog 16:=Bw func16 J_ rfl;rw[enter_at func16 (c:=fL f16) rfl];have i9:a3 (cB M) (#[m,i,.int .i64 W,.int .i64 f,.int .i64 0,.int .i64 9223372036854775807]++Array.replicate 72 undef) (#[m,i,.int .i64 W,.int .i64 f,.int .i64 0,.int .i64 9223372036854775807]++Array.replicate 72 undef):=by refine(a3.append (a:=#[m,i]) (b:=#[.int .i64 W,.int .i64 f,.int .i64 0,.int .i64 9223372036854775807]) iZ (iA (l:=[.int .i64 W,.int .i64 f,.int .i64 0,.int .i64 9223372036854775807]) fun x g=>?_)).append (BS _ _);simp at g;rcases g with rfl|rfl|rfl|rfl<;>exact .int _ _
 have H:Held O prog M w w.heap.size ⟨#[m,i,.int .i64 W,.int .i64 f,.int .i64 0,.int .i64 9223372036854775807]++Array.replicate 72 undef,[]⟩ M w Shun:=.start a7 Jr i9 rfl;refine Nl fA U H (k:=[.code (fL f16)]) (k':=[.inRegion (aF f16 7) (List.range' 3 9),.code (dR f16 7)]) AS AS (I:=d0 78 [(0,kz t),(1,kA es)]) (J:=d0 78 (uv w.heap.size t es l1 W f))
  (j_ fun p h=>?_) (j_ (UI _ _ _ _ _)) ⟨Aa,fun p h=>?_⟩ (fun w1 C q=>?_) ?_
 ·simp at h;grind[Ak,Al]
 ·simp at h;rcases h with rfl|rfl
  ·grind
  grind
 ·obtain⟨-,q⟩:=q;obtain⟨ft,e0,r0⟩:=q (0,kz t) Aa;obtain⟨db,e1,r1⟩:=q (1,kA es) Aa;obtain rfl:m=ft:=Bp;obtain rfl:i=db:=Bp;exact aug t es l1 W f T R Q P m i w1 C r0 r1 F.right F.hes F.s6 F.run
 intro a1 dE w1 E y;obtain⟨o,L⟩:∃o,(aF f16 7)[3]?=some o:=⟨_,B2⟩;obtain rfl:=iE L;refine Sl (rest:=List.range' 4 8) rfl func19 BB rfl (d:=2) aj U E AS L rfl (dt:=55) ⟨rfl,by rw[y.1];decide⟩ (I:=d0 78 (uv w.heap.size t es l1 W f)) (J:=d0 78 ((55,J7 (wM t S outs))::uv w.heap.size t es l1 W f)) (oo:=J7 (wM t S outs)) (j_ (UI _ _ _ _ _)) y (fun k=>?_) (fun u w' A hu=>?_) ?_
 ·obtain⟨hsz,B⟩:=y;obtain⟨tB,Z,V,K,X,v,rfl,D,Ox⟩:=B (52,kz t) (by simp[uv]);obtain⟨tC,r,nb,no,Y,dV,ec,rfl,n0,gH,g⟩:=B (53,kA es) (by simp[uv]);obtain⟨rU,UJ,UK⟩:=B (54,cy (.agg #[.int .i64 W,.int .i64 f])) (by simp[uv]);cases UK;have s:bC w1 (w1.at k):=fun _ _ _ x=>x;have he:(#[Operand.tmp 52,.tmp 53,.tmp 54].map a1.eval)=#[.slice (some ⟨V,K,none⟩) 1 X,.slice (some ⟨nb,no,none⟩) 2 Y,.agg #[.int .i64 W,.int .i64 f]]:=Gl;rw[he];have h_:t.length<=8:=by have:=F.right;simp_all[ml]
  refine(asl (w:=w1.at k) (v:=v) (t:=t) (es:=es) (outs:=outs) (S:=S) ?_ (s _ _ _ D) (Ox.mono se s) F.h0 Ay Q P T R F.hS F.hZ F.dF (fun j x g=>s _ _ _ (n0 j x g)) (fun j x g=>s _ _ _ (gH j x g)) (g.mono ns s) F.ok (by rw[F.hes];decide)).mono ?_
  ·refine iA (l:=[.slice (some ⟨V,K,none⟩) 1 X,.slice (some ⟨nb,no,none⟩) 2 Y]) fun x g=>?_;simp at g;rcases g with rfl|rfl
   ·exact E.all.get _ _ _ Z Z
   ·exact E.all.get _ _ _ r r
  ·rintro u M' w' ⟨a9,rfl,hr,hk⟩;exact⟨⟨a9,rfl,hr.1⟩,hk⟩
 ·refine⟨by rw[gQ];exact A.1,fun p h=>?_⟩;simp at h;rcases h with rfl|h
  ·exact⟨u,by simp[Act.put,A.1],hu⟩
  ·obtain⟨v,e1,e2⟩:=A.2 p h;refine⟨v,?_,e2⟩;have hne:55≠p.1:=by simp[uv]at h;grind
   simp_all[Act.put]
 intro bz M2 w2 gj pL t8 N UL;refine Sk fA func16 J_ rfl N AS hc (I:=d0 78 ((55,J7 (wM t S outs))::uv w.heap.size t es l1 W f)) (hJ:=rW (pj t l1 S outs)) (j_ fun p h=>?_) (Ok _) UL (fun w3 C q=>?_) ?_
 ·grind[aty,UI]
 ·refine avk f16 rfl t es l1 W f _ bz w3 C N.defers q F.hl ?_ F.ly F.GV;have:=F.hS;grind[wM,Gt,z6]
 ·intro u M' w' g1 fR gL ka js mE;exact d_ u M' w' gj pL t8 g1 fR gL ka ⟨mE,fun b c e z hb g=>js b c e z AU g⟩
end
end bD
namespace gi
open RowKit az b_ cA bD
abbrev cL:=Int×Int×Int×Int
def d8(rs:List cL):List br:=
 [⟨1,0,rs.map fun r=>jc r.1,[],rs.map fun r=>c3 r.1⟩,⟨1,0,rs.map fun r=>dp r.2.1,[],rs.map fun r=>c3 r.2.1⟩,⟨2,2,rs.map fun r=>dp r.2.2.1,[],rs.map fun r=>c3 r.2.2.1⟩,⟨3,0,[],rs.map fun r=>mF r.2.2.2,rs.map fun r=>c3 r.2.2.2⟩]
def tm(op a:Int):cd:=⟨op,a,0,⟨#[]⟩⟩
def kB:List (List cd):=[[tm 1 0,tm 1 1,tm 5 0],[tm 1 0,tm 1 1,tm 6 0],[tm 1 0,tm 1 2,tm 7 0],[tm 1 2,tm 1 2,tm 7 0],[tm 1 2,tm 8 5,tm 8 2],[tm 1 2,tm 8 0],[tm 1 3]]
def B5:List (Int×Int):=[(1,0),(1,0),(2,2),(2,4),(2,2),(2,0),(3,0)]
def v0(r:cL):bU:=if c3 r.1 then g3 else⟨false,jc r.1,0,hR⟩
def v1(r:cL):bU:=if c3 r.2.1 then g3 else⟨false,dp r.2.1,0,hR⟩
def v2(r:cL):bU:=if c3 r.2.2.1 then g3 else⟨false,dp r.2.2.1,2,hR⟩
def v3(r:cL):bU:=if c3 r.2.2.2 then g3 else⟨false,0,0,mF r.2.2.2⟩
def Aq(r:cL):List bU:=[sH 5 (v0 r) (v1 r),sH 6 (v0 r) (v1 r),sH 7 (v0 r) (v2 r),sH 7 (v2 r) (v2 r),kw 2 (kw 5 (v2 r)),kw 0 (v2 r),v3 r]
def wN(rs:List cL)(i:Nat):List bU:=(rs[i]?.map Aq).getD (List.replicate 7 g3)
theorem Oz(c:Int):(mF c).size<=2:=by
 unfold mF;split
 ·decide
 ·have:=uw c (n:=13) Ay;obtain⟨k,d,a⟩:∃k:Nat,k<13/\(nS c 13).toNat=k:=AU;rw[a];have b:k=0\/k=1\/k=2\/k=3\/k=4\/k=5\/k=6\/k=7\/k=8\/k=9\/k=10\/k=11\/k=12:=Ay;rcases b with rfl|rfl|rfl|rfl|rfl|rfl|rfl|rfl|rfl|rfl|rfl|rfl|rfl<;>decide
theorem avA(r:cL):0<=(v0 r).cb/\(v0 r).cb<=3/\(v0 r).cE=0:=by
 have:=adF r.1;unfold v0;split
 ·simp[g3]
 grind
theorem avB(r:cL): -1000<=(v1 r).cb/\(v1 r).cb<=1000/\(v1 r).cE=0:=by
 have:=B4 r.2.1;unfold v1;split
 ·simp[g3]
 grind
theorem avC(r:cL): -1000<=(v2 r).cb/\(v2 r).cb<=1000/\0<=(v2 r).cE/\(v2 r).cE<=2:=by have:=B4 r.2.2.1;grind[v2,g3]
variable {i:Nat}
theorem avD(rs:List cL)(h:i<rs.length):(d8 rs).map (mW · i)=[v0 rs[i],v1 rs[i],v2 rs[i],v3 rs[i]]:=by simp[d8,mW,v0,v1,v2,v3,h]
theorem OA{a b A B:Int}(f: -A<=a/\a<=A)(e: -B<=b/\b<=B): -(A*B)<=a*b/\a*b<=A*B:=by
 have d:(a.natAbs:Int)<=A:=Ay;have c:(b.natAbs:Int)<=B:=Ay;have g:((a*b).natAbs:Int)<=A*B:=by
  rw[Int.natAbs_mul];push_cast
  exact Int.mul_le_mul d c Ay Ay
 omega
theorem adH(r:cL):kw 5 (v2 r)=if c3 r.2.2.1 then g3 else⟨false,dp r.2.2.1*10*10*10,5,hR⟩:=by
 unfold v2;split
 ·simp[kw,g3]
 ·simp[kw,qI,wD]
theorem OB(r:cL):kw 2 (kw 5 (v2 r))=v2 r:=by
 rw[adH];have:=B4 r.2.2.1;unfold v2;split
 ·simp[kw,g3]
 ·have e:qI (dp r.2.2.1*10*10*10) 5 2=dp r.2.2.1:=by simp_all[qI,zZ]
  show(⟨false,qI (dp r.2.2.1*10*10*10) 5 2,2,hR⟩:bU)=_;rw[e]
theorem OC(r:cL):kw 0 (v2 r)=if c3 r.2.2.1 then g3 else⟨false,(dp r.2.2.1).tdiv 100,0,hR⟩:=by
 have:=B4 r.2.2.1;unfold v2;split
 ·simp[kw,g3]
 ·have e:qI (dp r.2.2.1) 2 0=(dp r.2.2.1).tdiv 100:=by simp[qI,zZ];grind
  show(⟨false,qI (dp r.2.2.1) 2 0,0,hR⟩:bU)=_;rw[e]
theorem avE{ar:Type}{a b c d:ar}{l:List ar}(h:l=[a,b,c,d]):∃(h0:0<l.length)(g:1<l.length)(f:2<l.length)(e:3<l.length),l[0]=a/\l[1]=b/\l[2]=c/\l[3]=d:=by grind
variable {vals:List bU}
theorem x6(h:i<vals.length){d:bU}(hd:vals[i]=d)(ds:List bU):DU vals (tm 1 (i:Nat)) ds (ds++[d]):=.inl ⟨rfl,i,h,rfl,by rw[hd]⟩
theorem OD{op:Int}(a:op=5\/op=6\/op=7){l r:bU}(e:eW l.cb)(d:eW r.cb)(c:eW (jY op l r).cb)(b:eW (jY op l r).cE):DU vals (tm op 0) [l,r] [sH op l r]:=.inr (.inr ⟨a,[],l,r,rfl,e,d,c,b,rfl⟩)
theorem UM{a:Int}(b:0<=a/\a<=100){d:bU}(f:eW d.cb)(e:0<=d.cE/\d.cE<=100)(c:eW (kw a d).cb):DU vals (tm 8 a) [d] [kw a d]:=.inr (.inl ⟨rfl,[],d,rfl,f,e,b,c,rfl⟩)
theorem runs(rs:List cL)(hi:i<rs.length)(o:vals=[v0 rs[i],v1 rs[i],v2 rs[i],v3 rs[i]])(k:Nat)(t:k<kB.length)(u:k<(Aq rs[i]).length):z5 vals kB[k] [] [(Aq rs[i])[k]]:=by
 obtain⟨h0,m,c,p,h,n,d,q⟩:=avE o;have n0:=avA rs[i];have w:=avB rs[i];have v:=avC rs[i];have s:=OA (a:=(v0 rs[i]).cb) (b:=(v2 rs[i]).cb) (A:=3) (B:=1000) Ay Ay;have r:=OA (a:=(v2 rs[i]).cb) (b:=(v2 rs[i]).cb) (A:=1000) (B:=1000) Ay Ay;have g:eW (kw 5 (v2 rs[i])).cb/\0<=(kw 5 (v2 rs[i])).cE/\(kw 5 (v2 rs[i])).cE<=100:=by rw[adH];have:=B4 rs[i].2.2.1;grind[g3]
 have f0:eW (kw 0 (v2 rs[i])).cb:=by rw[OC];have:=B4 rs[i].2.2.1;grind[g3]
 have l:eW (v0 rs[i]).cb:=AU;have e:eW (v1 rs[i]).cb:=AU;have f:eW (v2 rs[i]).cb:=AU;have j:k=0\/k=1\/k=2\/k=3\/k=4\/k=5\/k=6:=by have:kB.length=7:=rfl;omega
 rcases j with rfl|rfl|rfl|rfl|rfl|rfl|rfl
 ·exact⟨_,x6 h0 h [],_,x6 m n _,_,OD Jt l e FP FP,rfl⟩
 ·exact⟨_,x6 h0 h [],_,x6 m n _,_,OD AU l e FP FP,rfl⟩
 ·exact⟨_,x6 h0 h [],_,x6 c d _,_,OD AU l f FP FP,rfl⟩
 ·exact⟨_,x6 c d [],_,x6 c d _,_,OD AU f f FP FP,rfl⟩
 ·exact⟨_,x6 c d [],_,UM Ay f AU g.1,_,UM Ay g.1 g.2 (by grind[OB]),rfl⟩
 ·exact⟨_,x6 c d [],_,UM Ay f AU f0,rfl⟩
 ·exact⟨_,x6 p q [],rfl⟩
theorem avG(r:cL):∀d∈Aq r,d.text.size<=2:=by
 have a:hR.size<=2:=AW;have b:∀op l r,(sH op l r).text=hR:=fun op l r=>by
  unfold sH jY;split
  ·rfl
  grind
 have c:(v2 r).text=hR:=by unfold v2;split<;>rfl
 have h0:(kw 0 (v2 r)).text=hR:=by rw[OC];split<;>rfl
 intro d hd;simp[Aq]at hd;rcases hd with rfl|rfl|rfl|rfl|rfl|rfl|rfl
 ·grind
 ·grind
 ·grind
 ·grind
 ·grind[OB]
 ·grind
 ·unfold v3;split
  ·exact a
  ·exact Oz _
theorem adJ(rs:List cL)(i:Nat):(wN rs i).length=7:=by unfold wN;cases rs[i]? with|none=>rfl|some r=>rfl
theorem adK(rs:List cL)(i:Nat):∀d∈wN rs i,d.text.size<=2:=by unfold wN;cases rs[i]? with|none=>intro d hd;simp at hd;rw[hd];decide|some r=>exact avG r
theorem adL(rs:List cL)(h:i<rs.length):wN rs i=Aq rs[i]:=by simp[wN,h]
theorem adM{rs:List dY}{outs:Nat->List bU}{fr n:Nat}{r:dY}(h:r∈eX rs outs fr n):∃i,r.2=outs i:=by simp only[eX,List.mem_map]at h;grind
theorem avH(rs:List cL)(h:rs.length<=40):ml (d8 rs)=true:=by
 have ht:uP (rs.map fun r=>mF r.2.2.2)=true:=by unfold uP;grind[Oz]
 have h0:uP []=true:=rfl;simp[ml,FH,d8,xc,If,H7,nu,h0,ht,h]
theorem avI(rs:List cL)(h:i<rs.length):∀c∈d8 rs,xk i c:=by
 intro c a;simp[d8]at a;rcases a with rfl|rfl|rfl|rfl
 ·exact⟨AU,AU,AU,AU⟩
 ·exact⟨AU,AU,AU,AU⟩
 ·exact⟨AU,AU,AU,AU⟩
 ·refine⟨AU,AU,AU,fun s b=>?_⟩;grind[Oz]
theorem avJ(rs:List cL)(h:rs.length<=40):KH (d8 rs) kB B5 rs.length (wN rs):=by
 refine⟨Df,Ay,Df,fun i hi=>avI rs hi,⟨AW,AW,by rw[z6];omega,adJ rs,fun i hi k f g=>?_,fun i d hd=>?_,fun r a=>?_⟩,avH rs h,rfl,?_,(by show kL [(1,0),(1,0),(2,2),(3,0)] kB=some B5;decide+kernel),by decide,fun r a=>?_,fun r a d hd=>?_⟩
 ·have c:i<rs.length:=by grind[z6]
  have j:(bF (d8 rs) 0 rs.length)[i].2=[v0 rs[i],v1 rs[i],v2 rs[i],v3 rs[i]]:=by simp_all[bF,avD]
  grind[runs,adL]
 ·grind[adK]
 ·simp only[bF,List.mem_map]at a;grind
 ·intro e b t ht;simp[kB]at b;rcases b with rfl|rfl|rfl|rfl|rfl|rfl|rfl<;>simp only[List.mem_cons,List.not_mem_nil,or_false]at ht
  all_goals(rcases ht with rfl|rfl|rfl<;>simp[cA.Met,tm])
 ·obtain⟨i,e⟩:=adM a;rw[e,adJ];rfl
 grind[adM,adK]
end gi
namespace bD
open Conc ConcM RowKit az bu cZ dD b_ cA
section
variable {O:jW}
def tF(n0:Nat)(t:List br)(es:List (List cd))(W ak:Nat):List (Nat×(World->Value->Prop)):=
 [(8,tD n0 27 1),(10,tD n0 59 2),(11,kz t),(12,kA es),(13,cy (.int .i64 W)),(14,cy (.int .i64 ak))]
theorem kz.tY{t:List br}{w w':World}{v:Value}(h:kz t w v)(a:bC w w'):kz t w' v:=by obtain⟨e,b,f,x,rfl,d,c⟩:=h;exact⟨e,b,f,x,rfl,a _ _ _ d,c.mono se a⟩
theorem kA.tY{es:List (List cd)}{w w':World}{v:Value}(h:kA es w v)(b:bC w w'):kA es w' v:=by obtain⟨nb,no,g,f,ec,rfl,e,d,c⟩:=h;exact⟨nb,no,g,f,ec,rfl,fun j x a=>b _ _ _ (e j x a),fun j x a=>b _ _ _ (d j x a),c.mono ns b⟩
theorem avT{n0:Nat}(t:List br)(es:List (List cd))(W e:Nat)(c b:Value)(w:World)(f:n0<=w.heap.size)(h:kz t w c)(i:kA es w b):
 c2 (ai prog true) [.code (fL f14)] [.inRegion (aF f14 1) (List.range' 4 7),.code (dR f14 1)] (fun a1 w1=>a1.defers=[]/\d0 19 (tF n0 t es W e) a1 w1/\Below n0 w w1)
  ⟨#[c,b,.int .i64 W,.int .i64 e]++Array.replicate 15 undef,[]⟩ w:=by
 simp[aF,dR,fL,f14,ba.cH,ba.fK,ba.iD];simp[Array.replicate_succ];refine cn (g_ ?_);go_wp2
 refine⟨rfl,cn (zX (vk 4 AW AW ?_))⟩;simp only[List.drop_zero,List.take_succ_cons,List.take_zero];go_wp2
 have a:Below w.heap.size w ((w.alloc (.cells #[.slice none 0 0] 27)).alloc (.cells #[.int .i64 0,.slice none 0 0] 59)):=((Below.refl _ w).alloc Jr _).alloc Aa _;have g:=bC.cW a;refine⟨rfl,om ⟨rfl,⟨rfl,fun p d=>?_⟩,a.mono f⟩⟩;simp[tF]at d;rcases d with rfl|rfl|rfl|rfl|rfl|rfl
 ·exact⟨_,rfl,_,_,rfl,f,(af.new w _ _).alloc _,rfl⟩
 ·refine⟨_,rfl,_,#[.int .i64 0,.slice none 0 0],rfl,Ay,?_,rfl⟩;have:=af.new (w.alloc (.cells #[.slice none 0 0] 27)) #[.int .i64 0,.slice none 0 0] 59;simp_all
 ·exact⟨_,rfl,h.tY g⟩
 ·exact⟨_,rfl,i.tY g⟩
 ·exact⟨_,rfl,rfl⟩
 ·exact⟨_,rfl,rfl⟩
theorem UP{n0:Nat}(t:List br)(es:List (List cd))(W b:Nat):∀p∈tF n0 t es W b,gR n0 p.2:=by intro p a;simp[tF]at a;grind[Ey,Ak,Al,wL]
theorem avU(F:Func)(hF:F.results=f14.results){n0:Nat}(t d:List br)(es:List (List cd))(W P:Nat)(a:Act)(w:World)(hd:a.defers=[])(K:d0 19 ((15,rW d)::tF n0 t es W P) a w):
 xQ (ai prog true) F [.inRegion (aF f14 1) (List.range' 5 6),.code (dR f14 1)] (fun v w1=>rW d w1 v/\Below n0 w w1) a w:=by
 obtain⟨hsz,x⟩:=K;obtain⟨ft,db,dA,cY,ff,dQ,jH,gS,hp,ja,lI,ll,ij,ky,kQ,ln,mD,pe,rV,rfl⟩:=avd hsz hd;simp only[tF,List.mem_cons,List.not_mem_nil,or_false,forall_eq_or_imp,forall_eq]at x;obtain⟨⟨v15,z,a9,rfl,g⟩,⟨Y,o,c,B,rfl,U,k,S⟩,⟨v10,s,b,A,rfl,y,sO,As⟩,-⟩:=x;obtain rfl:=Option.some.inj z;obtain rfl:=Option.some.inj o;obtain rfl:=Option.some.inj s;clear z o s hsz hd;obtain⟨X,rfl⟩:∃q,B=#[q]:=by obtain⟨l⟩:=B;match l,S with| [q],_=>grind
 obtain⟨R,Q,rfl⟩:∃q r,A=#[q,r]:=by obtain⟨l⟩:=A;match l,As with| [q,r],_=>grind
 have f:c≠b:=fun e=>by grind[af]
 have n:b≠c:=Ne.symm f;obtain⟨O,N,L⟩:=k.all;obtain⟨H,E,D⟩:=sO.all;obtain⟨⟨h,i,rfl,-,-⟩,-⟩:=id g;have M:Hid (iB w _ d):=g;have j:Hid (af w c #[X] 27):=k;have m:Hid (af w b #[R,Q] 59):=sO;have V:Hid _:=hF;clear k sO g hF;refine Gq (ks':=[.code (dR f14 1)]) ?_;simp[aF,dR,f14,ba.cH,ba.fK,ba.iD];refine(vk 6 AW AW ?_);simp only[List.drop_zero,List.drop_succ_cons,List.take_succ_cons,List.take_zero];unfold tE;go_wp2
 refine⟨rfl,t6 (om (Jh ?_))⟩;go_wp2
 have u8:af (((w.setCell ⟨c,0,none⟩ (.slice h d.length i)).setCell ⟨b,0,none⟩ (.int .i64 0)).setCell ⟨b,1,none⟩ (.slice none 0 0)) c #[.slice h d.length i] 27:=((j.out.set 0 _).fu f _).fu f _;have u10:af (((w.setCell ⟨c,0,none⟩ (.slice h d.length i)).setCell ⟨b,0,none⟩ (.int .i64 0)).setCell ⟨b,1,none⟩ (.slice none 0 0)) b #[.int .i64 0,.slice none 0 0] 59:=((m.out.fu n _).set 0 _).set 1 _;have u:eT jU w (((w.setCell ⟨c,0,none⟩ (.slice h d.length i)).setCell ⟨b,0,none⟩ (.int .i64 0)).setCell ⟨b,1,none⟩ (.slice none 0 0)):=
  ((eT.set j.out Dr _ _).trans (eT.set (m.out.fu n _) Dr _ _)).trans (eT.set ((m.out.fu n _).set 0 _) Dr _ _)
 have C:Below n0 w (((w.setCell ⟨c,0,none⟩ (.slice h d.length i)).setCell ⟨b,0,none⟩ (.int .i64 0)).setCell ⟨b,1,none⟩ (.slice none 0 0)):=
  (((Below.refl n0 w).setCell (p:=⟨c,0,none⟩) U _).setCell (p:=⟨b,0,none⟩) y _).setCell (p:=⟨b,1,none⟩) y _
 have T:=iB.kept u M.out;clear O N L H E D u;generalize(((w.setCell ⟨c,0,none⟩ (.slice h d.length i)).setCell ⟨b,0,none⟩ (.int .i64 0)).setCell ⟨b,1,none⟩ (.slice none 0 0))=Z at *;obtain⟨J,-⟩:=u8.bT;obtain⟨I,-⟩:=u10.bT;exact bodyPost_ret (v:=.tuple #[.agg #[.slice h d.length i],.int .i64 0,tE]) (by simp[results,V.out,results14,go_sem,tE,J,I]) rfl ⟨_,rfl,⟨_,rfl,T⟩,C⟩
theorem adQ:i6 prog true f14=true:=by decide+kernel
theorem avV{Post:Value->World->Prop}{M:Nat->Prop}{w:World}{i h:Value}(X:a3 (cB M) #[i,h] #[i,h]){t:List br}{es:List (List cd)}{l1:List (Int×Int)}{S:Nat}{outs:Nat->List bU}(F:KH t es l1 S outs)(wE:kz t w i)(B3:kA es w h){W f:Nat}(h1:0<W)(h2:W<=16)(h3:0<f)(h4:f<=64):
 qH O prog Post 14 #[i,h,.int .i64 W,.int .i64 f] M w 2 (fun u _ w'=>rW (pj t l1 S outs) w' u/\fm M w w'):=by
 intro n Shun aj a7 eV a₁ aG i₁ aP k₁ cs₁ hc d_;have K:mz prog 14:=Bw func14 adQ rfl;rw[enter_at func14 (c:=fL f14) rfl];have Y:a3 (cB M) (#[i,h,.int .i64 W,.int .i64 f]++Array.replicate 15 undef) (#[i,h,.int .i64 W,.int .i64 f]++Array.replicate 15 undef):=by refine(a3.append (a:=#[i,h]) (b:=#[.int .i64 W,.int .i64 f]) X (iA (l:=[.int .i64 W,.int .i64 f]) fun x j=>?_)).append (BS _ _);simp at j;rcases j with rfl|rfl<;>exact .int _ _
 have H:Held O prog M w w.heap.size ⟨#[i,h,.int .i64 W,.int .i64 f]++Array.replicate 15 undef,[]⟩ M w Shun:=.start a7 Jr Y rfl;refine Nl fA K H (k:=[.code (fL f14)]) (k':=[.inRegion (aF f14 1) (List.range' 4 7),.code (dR f14 1)]) AS AS (I:=d0 19 [(0,kz t),(1,kA es)]) (J:=d0 19 (tF w.heap.size t es W f))
  (j_ fun p g=>?_) (j_ (UP _ _ _ _)) ⟨Aa,fun p g=>?_⟩ (fun w1 hW m=>?_) ?_
 ·simp at g;grind[Ak,Al]
 ·simp at g;rcases g with rfl|rfl
  ·grind
  grind
 ·obtain⟨-,m⟩:=m;obtain⟨ft,e0,r0⟩:=m (0,kz t) Aa;obtain⟨db,e1,r1⟩:=m (1,kA es) Aa;simp_all[avT]
 intro a1 dE w1 y r;obtain⟨o,D⟩:∃o,(aF f14 1)[4]?=some o:=⟨_,B2⟩;obtain rfl:=iE D;refine Sl (rest:=List.range' 5 6) rfl func16 BB rfl (d:=2) aj K y AS D rfl (dt:=15) ⟨rfl,by rw[r.1];decide⟩ (I:=d0 19 (tF w.heap.size t es W f)) (J:=d0 19 ((15,rW (pj t l1 S outs))::tF w.heap.size t es W f)) (oo:=rW (pj t l1 S outs)) (j_ (UP _ _ _ _)) r (fun k=>?_) (fun u w' s Z=>?_) ?_
 ·obtain⟨hsz,q⟩:=r;obtain⟨B,N,UU⟩:=q (11,kz t) (by simp[tF]);obtain⟨C,A,KM⟩:=q (12,kA es) (by simp[tF]);obtain⟨ky,Ca,KN⟩:=q (13,cy (.int .i64 W)) (by simp[tF]);obtain⟨kQ,GW,KF⟩:=q (14,cy (.int .i64 f)) (by simp[tF]);cases KN;cases KF;have L:bC w1 (w1.at k):=fun _ _ _ x=>x;have he:(#[Operand.tmp 11,.tmp 12,.tmp 13,.tmp 14,.const (.int .i64 0),.const (.int .i64 9223372036854775807)].map a1.eval)=#[B,C,.int .i64 W,.int .i64 f,.int .i64 0,.int .i64 9223372036854775807]:=Gl;rw[he];refine(avt (w:=w1.at k) ?_ F (UU.tY L) (KM.tY L) h1 h2 h3 h4);refine iA (l:=[B,C]) fun x j=>?_;simp at j;rcases j with rfl|rfl
  ·exact y.all.get _ _ _ N N
  ·exact y.all.get _ _ _ A A
 ·refine⟨by rw[gQ];exact s.1,fun p g=>?_⟩;simp at g;rcases g with rfl|g
  ·exact⟨u,by simp[Act.put,s.1],Z⟩
  ·obtain⟨v,e1,e2⟩:=s.2 p g;refine⟨v,?_,e2⟩;have hne:15≠p.1:=by simp[tF]at g;grind
   simp_all[Act.put]
 intro bz M2 w2 gj R Q E UL;refine Sk fA func14 adQ rfl E AS hc (I:=d0 19 ((15,rW (pj t l1 S outs))::tF w.heap.size t es W f)) (hJ:=rW (pj t l1 S outs)) (j_ fun p g=>?_) (Ok _) UL (fun P _ m=>?_) ?_
 ·grind[Ok,UP]
 ·exact avU f14 rfl t _ es W f bz P E.defers m
 ·intro u M' w' g1 fR gL U V T;exact d_ u M' w' gj R Q g1 fR gL U ⟨T,fun b c e z hb j=>V b c e z AU j⟩
end
open gi
def nT(iz:List (Nat×Nat))(R:Nat->World->Value->Prop)(aq:Array Bool)(a:Act)(w:World):Prop:=∀q∈iz,aq.getD q.1 false=true->∃v,a.tmps[q.2]?=some v/\R q.1 w v
def kC(R:World->Value->Prop):Prop:=∀w w' v,Below w.heap.size w w'->R w v->R w' v
section
variable {iz:List (Nat×Nat)} {R:Nat->World->Value->Prop} {aq:Array Bool} {a:Act} {w w1:World} {i s:Nat} {v:Value} {n0:Nat}
theorem nT.vB(h:∀j,gR n0 (R j)):vl n0 (nT iz R aq):=by intro ρ a a' w w' e f d q c hl;obtain⟨v,l,k⟩:=d q c hl;obtain⟨b,i,g⟩:=f.some l;exact⟨b,i,h _ _ _ _ _ _ e g k⟩
theorem nT.put(h:nT iz R aq a w)(hi:i<aq.size)(f:∀j,kC (R j))(g:Below w.heap.size w w1)(n:s<a.tmps.size)(p:∀q∈iz,q.1=i->q.2=s)(o:∀q∈iz,q.1≠i->q.2=s->aq.getD q.1 false=false)(m:R i w1 v):nT iz R (aq.setIfInBounds i true) (a.put (some s) v) w1:=by
 intro q c hl;by_cases e:q.1=i
 ·grind[Act.put]
 ·have b:=((pG hi).1 hl).resolve_left e;obtain⟨x,l,k⟩:=h q c b;refine⟨x,?_,f _ _ _ _ g k⟩;have d:s≠q.2:=AU;simp_all[Act.put]
theorem nT.leave(h:nT iz R aq a w)(hi:i<aq.size)(d:∀j,kC (R j))(f:Below w.heap.size w w1)(g:∀q∈iz,q.1≠i/\q.2≠s):nT iz R (aq.setIfInBounds i true) (a.put (some s) v) w1:=by intro q b hl;obtain⟨e,c⟩:=g q b;obtain⟨x,l,k⟩:=h q b (((pG hi).1 hl).resolve_left e);refine⟨x,?_,d _ _ _ _ f k⟩;simp_all[Act.put,Ne.symm]
theorem nT.store(h:nT iz R aq a w)(hi:i<aq.size)(f:∀q∈iz,∀x,aq.getD q.1 false=true->R q.1 w x->R q.1 w1 x)(g:∀q∈iz,q.1=i->∃v,a.tmps[q.2]?=some v/\R i w1 v):nT iz R (aq.setIfInBounds i true) a w1:=by
 intro q c hl;by_cases e:q.1=i
 ·grind
 ·have b:=((pG hi).1 hl).resolve_left e;obtain⟨x,d,j⟩:=h q c b;grind
theorem d0.put{N:Nat}{fs:List (Nat×(World->Value->Prop))}(h:d0 N fs a w)(e:∀p∈fs,kC p.2)(f:Below w.heap.size w w1)(d:∀p∈fs,p.1≠s):d0 N fs (a.put (some s) v) w1:=by refine⟨by rw[gQ];exact h.1,fun p b=>?_⟩;obtain⟨x,c,g⟩:=h.2 p b;refine⟨x,?_,e p b _ _ _ f g⟩;simp[Act.put,Ne.symm (d p b)];exact c
end
section
variable {P:Program} {ops:Array Oper} {Q:Act->World->Prop} {i:Nat} {o:Oper} {a:Act} {w w1:World} {v:Value}
theorem eG(d:ops[i]?=some o)(b:o.guard=none){s:Nat}(hd:o.dst=some s)(c:(execOp a.eval o).run P w=.ok (.value v) w1)(h:Q (a.put (some s) v) w1):wpOps P ops (ii Q) [i] a w:=by simp[wpOps,d,fJ b];refine .inl ?_;simp[Oper.wp,Oper.upon,c,hd];exact⟨rfl,h⟩
theorem EF(d:ops[i]?=some o)(b:o.guard=none)(hd:o.dst=none)(c:(execOp a.eval o).run P w=.ok .skip w1)(h:Q a w1):wpOps P ops (ii Q) [i] a w:=by simp[wpOps,d,fJ b];refine .inl ?_;simp[Oper.wp,Oper.upon,c,hd];exact⟨rfl,h⟩
theorem p9(d:ops[i]?=some o)(b:o.guard=none){s:Nat}(hd:o.dst=some s){f:FuncId}{args:Array Value}(c:(execOp a.eval o).run P w=.ok (.enter f args) w)(h:Calls P f args w fun e w'=>∃v,e=.returned v/\Q (a.put (some s) v) w'):wpOps P ops (ii Q) [i] a w:=by simp[wpOps,d,fJ b];refine .inl ?_;simp[Oper.wp,Oper.upon,c,hd];refine h.mono ?_;rintro e w' ⟨v,rfl,h⟩;exact⟨rfl,h⟩
end
variable {n0:Nat}
theorem kC.eq(x:Value):kC (cy x):=fun _ _ _ _ h=>h
theorem adR(T:TypeId)(N:Nat):kC (tD n0 T N):=fun _ _ _ a⟨b,cs,e,f,d,c⟩=>⟨b,cs,e,f,d.call a,c⟩
theorem UV(t:List br):kC (kz t):=fun _ _ _ a h=>h.tY (bC.cW a)
theorem UW(es:List (List cd)):kC (kA es):=fun _ _ _ a h=>h.tY (bC.cW a)
theorem wO{Y:TypeId->Prop}{w w':World}(a:Below w.heap.size w w'):eT Y w w':=.sB (.below a)
theorem avW(t:List br):kC (rW t):=fun _ _ _ a⟨a9,e,h⟩=>⟨a9,e,h.kept (wO a)⟩
theorem ON{t:List br}{w w1:World}(a:eT jU w w1){v:Value}(h:rW t w v):rW t w1 v:=by obtain⟨a9,e,h⟩:=h;exact⟨a9,e,h.kept a⟩
theorem uW{T:TypeId}{N:Nat}{w:World}{v:Value}(h:tD n0 T N w v)(b o:Nat)(x:Value):tD n0 T N (w.setCell ⟨b,o,none⟩ x) v:=by
 obtain⟨c,cs,e,f,d,g⟩:=h;by_cases a:c=b
 ·subst a;exact⟨c,_,e,f,d.set _ _,AU⟩
 ·exact⟨c,cs,e,f,d.fu a _,g⟩
def vC(t:List br)(w:World)(v:Value):Prop:=∃a9,v=.agg #[a9]/\iB w a9 t
theorem OO(t:List br):gR n0 (vC t):=by rintro ρ w w' v c b a ⟨a9,rfl,h⟩;obtain⟨m,rfl,q⟩:=B0 a;cases q with|cons q1 q=>cases q;exact⟨_,rfl,Oj t _ _ _ _ _ b q1 h⟩
theorem adS(t:List br):kC (vC t):=fun _ _ _ a⟨a9,e,h⟩=>⟨a9,e,h.kept (wO a)⟩
def lK(n0:Nat)(t:List br)(w:World)(v:Value):Prop:=∃b a9,v=.pointer (some ⟨b,0,none⟩)/\n0<=b/\af w b #[a9] 27/\iB w a9 t
theorem EG(t:List br):gR n0 (lK n0 t):=by
 rintro ρ w w' v k a g ⟨b,a9,rfl,j,e,h⟩;obtain⟨d,rfl,r⟩:=y3 g;obtain⟨f,c,m⟩:=a.types _ _ _ _ _ r e;obtain⟨x,l,i⟩:=a.cells ⟨b,0,none⟩ ⟨d,0,none⟩ a9 ⟨r,rfl,rfl⟩ ((af.bT e).1 0 |>.trans rfl);have c:af w' d f _:=c;have:f=#[x]:=by grind[af.bT]
 subst this;exact⟨d,x,rfl,a.new _ _ r j,c,Oj t _ _ _ _ _ a i h⟩
theorem At(t:List br):kC (lK n0 t):=fun _ _ _ a⟨b,a9,e,f,d,c⟩=>⟨b,a9,e,f,d.call a,c.kept (wO a)⟩
def OP(n0:Nat)(w:World)(v:Value):Prop:=∃b,v=.pointer (some ⟨b,0,none⟩)/\n0<=b/\af w b #[.int .i64 0,.slice none 0 0] 59
theorem adT:gR n0 (OP n0):=by
 rintro ρ w w' v i a g ⟨b,rfl,h,d⟩;obtain⟨c,rfl,r⟩:=y3 g;obtain⟨f,e,l⟩:=a.types _ _ _ _ _ r d;obtain⟨x,k,j⟩:=a.cells ⟨b,0,none⟩ ⟨c,0,none⟩ _ ⟨r,rfl,rfl⟩ ((af.bT d).1 0 |>.trans rfl);obtain⟨y,m,n⟩:=a.cells ⟨b,1,none⟩ ⟨c,1,none⟩ _ ⟨r,rfl,rfl⟩ ((af.bT d).1 1 |>.trans rfl);have e:af w' c f _:=e;have:f=#[.int .i64 0,.slice none 0 0]:=by grind[af.bT,jJ,pg]
 subst this;exact⟨c,rfl,a.new _ _ r h,e⟩
theorem avX:kC (OP n0):=fun _ _ _ a⟨b,e,d,c⟩=>⟨b,e,d,c.call a⟩
def OQ(x:Int)(w:World)(v:Value):Prop:=∃b o,v=.pointer (some ⟨b,o,none⟩)/\w.cell? ⟨b,o,none⟩=some (.int .i64 x)
theorem avY(x:Int):gR n0 (OQ x):=by rintro ρ w w' v g e d ⟨b,o,rfl,h⟩;obtain⟨c,rfl,r⟩:=y3 d;obtain⟨y,a,f⟩:=e.cells ⟨b,o,none⟩ ⟨c,o,none⟩ _ ⟨r,rfl,rfl⟩ h;rw[jJ f]at a;exact⟨c,o,rfl,a⟩
theorem avZ(x:Int):kC (OQ x):=fun _ _ _ a⟨b,o,e,h⟩=>⟨b,o,e,bC.cW a _ _ _ h⟩
def GZ(x y:Int)(w:World)(v:Value):Prop:=∃b,v=.pointer (some ⟨b,0,none⟩)/\w.cell? ⟨b,0,none⟩=some (.int .i64 x)/\w.cell? ⟨b,1,none⟩=some (.int .i64 y)
theorem adU(x y:Int):gR n0 (GZ x y):=by rintro ρ w w' v j c f ⟨b,rfl,h,k⟩;obtain⟨a,rfl,r⟩:=y3 f;obtain⟨p,d,g⟩:=c.cells ⟨b,0,none⟩ ⟨a,0,none⟩ _ ⟨r,rfl,rfl⟩ h;obtain⟨q,e,i⟩:=c.cells ⟨b,1,none⟩ ⟨a,1,none⟩ _ ⟨r,rfl,rfl⟩ k;rw[jJ g]at d;rw[jJ i]at e;exact⟨a,rfl,d,e⟩
theorem av0(x y:Int):kC (GZ x y):=fun _ _ _ a⟨b,e,h,k⟩=>⟨b,e,bC.cW a _ _ _ h,bC.cW a _ _ _ k⟩
theorem av1:gR n0 (cy tE):=fun _ _ _ _ _ _ a h=>by cases h;exact T2 a
def vD:List (Nat×Nat):=[(0,12),(1,13),(2,14),(3,15),(4,16),(5,17),(6,18),(7,19),(8,20),(9,21)]
def pk:List (Nat×Nat):=[(10,22),(11,11),(12,23),(13,24),(14,25),(15,8),(16,10),(17,8),(18,9),(19,10)]
def EH(n0:Nat)(t a_:List br)(es:List (List cd))(x y:Int)(p q:Nat)(j:Nat):World->Value->Prop:=
 match j with
 |0=>kz t
 |1=>kA es
 |2=>OQ x
 |3=>cy (.int .i64 x)
 |4=>cy (.int .i64 p)
 |5=>cy (.int .i64 ((1+p:Nat):Int))
 |6=>OQ y
 |7=>cy (.int .i64 y)
 |8=>cy (.int .i64 q)
 |9=>cy (.int .i64 ((1+q:Nat):Int))
 |10=>rW a_
 |11=>rW a_
 |12=>vC a_
 |13=>cy (.int .i64 0)
 |14=>cy tE
 |15=>tD n0 27 1
 |16=>tD n0 59 2
 |17=>lK n0 a_
 |18=>cy (.int .i64 0)
 | _=>OP n0
theorem adV(t a:List br)(es:List (List cd))(x y:Int)(p q:Nat)(j:Nat):gR n0 (EH n0 t a es x y p q j):=by unfold EH;split<;>first|exact wL _ _ |exact Ak _ |exact Al _ |exact avY _ |exact Ok _ |exact OO _ |exact av1|exact Ey _ _ |exact EG _ |exact adT
theorem adW(t a:List br)(es:List (List cd))(x y:Int)(p q:Nat)(j:Nat):kC (EH n0 t a es x y p q j):=by unfold EH;split<;>first|exact kC.eq _ |exact UV _ |exact UW _ |exact avZ _ |exact avW _ |exact adS _ |exact adR _ _ |exact At _ |exact avX
structure Au(n0:Nat)(t a_:List br)(es:List (List cd))(x y:Int)(p q:Nat)(aq:Array Bool)(a:Act)(w:World):Prop where
 len:aq.size=20
 cl:(aq.getD 17 false=true->∀j,j<=12\/j=15\/j=16->aq.getD j false=true)/\(aq.getD 19 false=true->aq.getD 16 false=true/\aq.getD 17 false=true)
 ap:aq.getD 17 false=false->d0 40 [(1,kz t),(2,kA es),(3,GZ x y)] a w/\nT vD (EH n0 t a_ es x y p q) aq a w
 b0:d0 40 [(6,tD n0 27 1)] a w
 b1:nT pk (EH n0 t a_ es x y p q) aq a w
theorem av2(t e:List br)(es:List (List cd))(x y:Int)(p q:Nat)(aq:Array Bool):vl n0 (Au n0 t e es x y p q aq):=by
 intro ρ a a' w w' b c h;refine⟨h.len,h.cl,fun hl=>⟨j_ (fun p d=>?_) _ _ _ _ _ b c (h.ap hl).1,nT.vB (adV _ _ _ _ _ _ _) _ _ _ _ _ b c (h.ap hl).2⟩,j_ (fun p d=>?_) _ _ _ _ _ b c h.b0,nT.vB (adV _ _ _ _ _ _ _) _ _ _ _ _ b c h.b1⟩
 ·simp at d;grind[Ak,Al,adU]
 simp_all[Ey]
variable {x y:Int}
theorem Au.put{t n:List br}{es:List (List cd)}{p q:Nat}{aq:Array Bool}{a:Act}{w w1:World}(h:Au n0 t n es x y p q aq a w){i s:Nat}(hi:i<20)(C:(vD++pk).all (fun q=>(q.1 != i||q.2==s)&&(q.1==i||q.2 != s||(q.1==17&&i==15)||(q.1==19&&i==16)))=true)(z:(s != 1&&s != 2&&s != 3&&s != 6&&decide (s<40)&&i != 17&&i != 19)=true)(A:aq.getD i false=false)(d:Below w.heap.size w w1){v:Value}(B:EH n0 t n es x y p q i w1 v):Au n0 t n es x y p q (aq.setIfInBounds i true) (a.put (some s) v) w1:=by
 simp at z;obtain⟨⟨⟨⟨⟨⟨H,F⟩,L⟩,K⟩,E⟩,i17⟩,i19⟩:=z;have c:i<aq.size:=by rw[h.len];exact hi
 have hsz:a.tmps.size=40:=h.b0.1;have I:∀r∈vD++pk,(r.1=i->r.2=s)/\(r.1≠i->r.2=s->aq.getD r.1 false=false):=by
  intro r l;have:=List.all_eq_true.1 C r l;simp only[Bool.and_eq_true,Bool.or_eq_true,bne_iff_ne,ne_eq,beq_iff_eq]at this;refine⟨AU,fun e J=>?_⟩;rcases this.2 with((b|b)|⟨b,m⟩)|⟨b,m⟩
  ·grind
  ·grind
  ·rw[b];cases g:aq.getD 17 false with|false=>rfl|true=>rw[m,h.cl.1 g 15 AU]at A;grind
  ·rw[b];cases g:aq.getD 19 false with|false=>rfl|true=>rw[m,(h.cl.2 g).1]at A;grind
 have u:(aq.setIfInBounds i true).getD 17 false=true↔aq.getD 17 false=true:=Bp;have o:(aq.setIfInBounds i true).getD 19 false=true↔aq.getD 19 false=true:=Bp;refine⟨DS,⟨fun k j D=>(pG c).2 (.inr (h.cl.1 (u.1 k) j D)),fun k=>⟨(pG c).2 (.inr (h.cl.2 (o.1 k)).1),u.2 (h.cl.2 (o.1 k)).2⟩⟩,fun k=>?_,?_,?_⟩
 ·have hl:aq.getD 17 false=false:=by grind
  refine⟨(h.ap hl).1.put (fun p f=>?_) d (fun p f=>?_),(h.ap hl).2.put c (adW _ _ _ _ _ _ _) d AU AU (fun r l=>AU) B⟩
  ·simp at f;grind[UV,UW,av0]
  grind
 ·refine h.b0.put (fun p f=>?_) d (fun p f=>?_)
  ·simp_all[adR]
  grind
 ·exact h.b1.put c (adW _ _ _ _ _ _ _) d AU AU (fun r l=>AU) B
section
variable {n0:Nat}
theorem Au.x9{t d:List br}{es:List (List cd)}{p q:Nat}{aq:Array Bool}{a:Act}{w:World}(h:Au n0 t d es x y p q aq a w){i:Nat}(hi:i<=12\/i=15\/i=16)(b:aq.getD i false=false):aq.getD 17 false=false:=by cases c:aq.getD 17 false with|false=>rfl|true=>rw[h.cl.1 c i hi]at b;grind
theorem av3(t P:List br)(es:List (List cd))(x y:Int)(p q:Nat)(R:hM x)(hy:hM y)(I:nS x 16=p)(Y:nS y 64=q)(aq:Array Bool)(a:Act)(W:World)(i:Nat)(o:Oper)(h:Au n0 t P es x y p q aq a W)(hd:a.defers=[])(O:n0<=W.heap.size)(zY:i≠10)(iH:aq.getD i true=false)(w:(aF f7 1)[i]?=some o)(A:∀e∈o.after,Region.binds .any e=true->aq.getD e.on false=true):
 wpOps (ai prog true) (aF f7 1) (ii fun a1 w1=>a1.defers=[]/\Au n0 t P es x y p q (aq.setIfInBounds i true) a1 w1/\Below n0 W w1) [i] a W:=by
 have hi:i<20:=by have:(aF f7 1).size=20:=AS;grind
 have M:i<aq.size:=AU;have m:aq.getD i false=false:=by grind
 have X:=uw x (n:=16) Ay;have V:=uw y (n:=64) Ay;have av6:(p:Int)<16:=Ay;have av7:(q:Int)<64:=Ay;have z:=ju w;have B:∀(s:Nat)(u:Value),(a.put (some s) u).defers=[]:=fun s u=>C8;have vQ:Hid _:=I;have Am:Hid _:=Y;clear I Y X V;match i,hi with
 |0,_=>obtain rfl:=Option.some.inj z;obtain⟨E,C,J⟩:=(h.ap (h.x9 Ay m)).1.2 (1,kz t) Aa;have C:a.tmps[1]?=some E:=C;exact eG w rfl rfl (v:=E) (w1:=W) BD ⟨B _ _,h.put AW AW AW m (Below.refl _ _) J,(Below.refl _ _)⟩
 |1,_=>obtain rfl:=Option.some.inj z;obtain⟨E,C,J⟩:=(h.ap (h.x9 Ay m)).1.2 (2,kA es) Aa;have C:a.tmps[2]?=some E:=C;exact eG w rfl rfl (v:=E) (w1:=W) BD ⟨B _ _,h.put AW AW AW m (Below.refl _ _) J,(Below.refl _ _)⟩
 |2,_=>obtain rfl:=Option.some.inj z;obtain⟨E,C,J⟩:=(h.ap (h.x9 Ay m)).1.2 (3,GZ x y) Aa;have C:a.tmps[3]?=some E:=C;obtain⟨b,rfl,cu,c1⟩:=J;exact eG w rfl rfl (v:=.pointer (some ⟨b,0,none⟩)) (w1:=W) BD ⟨B _ _,h.put AW AW AW m (Below.refl _ _) ⟨b,0,rfl,cu⟩,(Below.refl _ _)⟩
 |3,_=>obtain rfl:=Option.some.inj z;obtain⟨g,d,rd⟩:=(h.ap (h.x9 Ay m)).2 (2,14) GG (A ⟨2,.data⟩ Aa rfl);have d:a.tmps[14]?=some g:=d;obtain⟨b,o,rfl,cu⟩:=rd;exact eG w rfl rfl (v:=.int .i64 x) (w1:=W) BD ⟨B _ _,h.put AW AW AW m (Below.refl _ _) rfl,(Below.refl _ _)⟩
 |4,_=>obtain rfl:=Option.some.inj z;obtain⟨g,d,rd⟩:=(h.ap (h.x9 Ay m)).2 (3,15) GG (A ⟨3,.data⟩ Aa rfl);have d:a.tmps[15]?=some g:=d;obtain rfl:g=.int .i64 x:=rd;refine p9 w rfl rfl (f:=15) (args:=#[.int .i64 x,.int .i64 16]) BD ((GY x 16 R Ay W).mono ?_);rintro e w' ⟨rfl,rfl⟩;exact⟨_,rfl,B _ _,h.put AW AW AW m (Below.refl _ _) (congrArg (Value.int .i64) vQ.out),Below.refl _ _⟩
 |5,_=>obtain rfl:=Option.some.inj z;obtain⟨g,d,rd⟩:=(h.ap (h.x9 Ay m)).2 (4,16) GG (A ⟨4,.data⟩ Aa rfl);have d:a.tmps[16]?=some g:=d;obtain rfl:g=.int .i64 p:=rd;have hw:IntKind.i64.wrap (1+(p:Int))=1+(p:Int):=Ct;exact eG w rfl rfl (v:=.int .i64 ((1+p:Nat):Int)) (w1:=W) BD ⟨B _ _,h.put AW AW AW m (Below.refl _ _) rfl,(Below.refl _ _)⟩
 |6,_=>obtain rfl:=Option.some.inj z;obtain⟨E,C,J⟩:=(h.ap (h.x9 Ay m)).1.2 (3,GZ x y) Aa;have C:a.tmps[3]?=some E:=C;obtain⟨b,rfl,cu,c1⟩:=J;exact eG w rfl rfl (v:=.pointer (some ⟨b,1,none⟩)) (w1:=W) BD ⟨B _ _,h.put AW AW AW m (Below.refl _ _) ⟨b,1,rfl,c1⟩,(Below.refl _ _)⟩
 |7,_=>obtain rfl:=Option.some.inj z;obtain⟨g,d,rd⟩:=(h.ap (h.x9 Ay m)).2 (6,18) GG (A ⟨6,.data⟩ Aa rfl);have d:a.tmps[18]?=some g:=d;obtain⟨b,o,rfl,cu⟩:=rd;exact eG w rfl rfl (v:=.int .i64 y) (w1:=W) BD ⟨B _ _,h.put AW AW AW m (Below.refl _ _) rfl,(Below.refl _ _)⟩
 |8,_=>obtain rfl:=Option.some.inj z;obtain⟨g,d,rd⟩:=(h.ap (h.x9 Ay m)).2 (7,19) GG (A ⟨7,.data⟩ Aa rfl);have d:a.tmps[19]?=some g:=d;obtain rfl:g=.int .i64 y:=rd;refine p9 w rfl rfl (f:=15) (args:=#[.int .i64 y,.int .i64 64]) BD ((GY y 64 hy Ay W).mono ?_);rintro e w' ⟨rfl,rfl⟩;exact⟨_,rfl,B _ _,h.put AW AW AW m (Below.refl _ _) (congrArg (Value.int .i64) Am.out),Below.refl _ _⟩
 |9,_=>obtain rfl:=Option.some.inj z;obtain⟨g,d,rd⟩:=(h.ap (h.x9 Ay m)).2 (8,20) GG (A ⟨8,.data⟩ Aa rfl);have d:a.tmps[20]?=some g:=d;obtain rfl:g=.int .i64 q:=rd;have hw:IntKind.i64.wrap (1+(q:Int))=1+(q:Int):=Ct;exact eG w rfl rfl (v:=.int .i64 ((1+q:Nat):Int)) (w1:=W) BD ⟨B _ _,h.put AW AW AW m (Below.refl _ _) rfl,(Below.refl _ _)⟩
 |10,_=>exact absurd rfl zY
 |11,_=>obtain rfl:=Option.some.inj z;obtain⟨g,d,rd⟩:=h.b1 (10,22) FF (A ⟨10,.data⟩ Aa rfl);have d:a.tmps[22]?=some g:=d;exact eG w rfl rfl (v:=g) (w1:=W) BD ⟨B _ _,h.put AW AW AW m (Below.refl _ _) rd,(Below.refl _ _)⟩
 |12,_=>obtain rfl:=Option.some.inj z;obtain⟨g,d,rd⟩:=h.b1 (11,11) FF (A ⟨11,.data⟩ Aa rfl);have d:a.tmps[11]?=some g:=d;obtain⟨a9,rfl,r1⟩:=rd;exact eG w rfl rfl (v:=.agg #[a9]) (w1:=W) BD ⟨B _ _,h.put AW AW AW m (Below.refl _ _) ⟨a9,rfl,r1⟩,(Below.refl _ _)⟩
 |13,_=>obtain rfl:=Option.some.inj z;obtain⟨g,d,rd⟩:=h.b1 (11,11) FF (A ⟨11,.data⟩ Aa rfl);have d:a.tmps[11]?=some g:=d;obtain⟨a9,rfl,r1⟩:=rd;exact eG w rfl rfl (v:=.int .i64 0) (w1:=W) BD ⟨B _ _,h.put AW AW AW m (Below.refl _ _) rfl,(Below.refl _ _)⟩
 |14,_=>obtain rfl:=Option.some.inj z;obtain⟨g,d,rd⟩:=h.b1 (11,11) FF (A ⟨11,.data⟩ Aa rfl);have d:a.tmps[11]?=some g:=d;obtain⟨a9,rfl,r1⟩:=rd;exact eG w rfl rfl (v:=tE) (w1:=W) BD ⟨B _ _,h.put AW AW AW m (Below.refl _ _) rfl,(Below.refl _ _)⟩
 |15,_=>obtain rfl:=Option.some.inj z;exact eG w rfl rfl (v:=.pointer (some ⟨W.heap.size,0,none⟩)) (w1:=W.alloc (.cells #[.slice none 0 0] 27)) BD ⟨B _ _,h.put AW AW AW m ((Below.refl _ W).alloc Jr _) ⟨W.heap.size,_,rfl,O,af.new W _ _,rfl⟩,((Below.refl _ W).alloc O _)⟩
 |16,_=>obtain rfl:=Option.some.inj z;exact eG w rfl rfl (v:=.pointer (some ⟨W.heap.size,0,none⟩)) (w1:=W.alloc (.cells #[.int .i64 0,.slice none 0 0] 59)) BD ⟨B _ _,h.put AW AW AW m ((Below.refl _ W).alloc Jr _) ⟨W.heap.size,_,rfl,O,af.new W _ _,rfl⟩,((Below.refl _ W).alloc O _)⟩
 |17,_=>
  obtain rfl:=Option.some.inj z;obtain⟨g,d,rd⟩:=h.b1 (15,8) FF (A ⟨15,.data⟩ Aa rfl);have d:a.tmps[8]?=some g:=d;obtain⟨K,ec,rc⟩:=h.b1 (12,23) FF (A ⟨12,.data⟩ Aa rfl);have ec:a.tmps[23]?=some K:=ec;obtain⟨b,cs,rfl,L,H,T⟩:=rd;obtain⟨a9,rfl,r1⟩:=rc;obtain⟨BX,rfl⟩:∃q,cs=#[q]:=by obtain⟨l⟩:=cs;match l,T with| [q],_=>grind
  obtain⟨⟨Z,K,rfl,-,-⟩,-⟩:=id r1;obtain⟨dW,er,fx⟩:=H.all;have all:∀j,j<=12\/j=15\/j=16->aq.getD j false=true:=by intro j S;have:j=0\/j=1\/j=2\/j=3\/j=4\/j=5\/j=6\/j=7\/j=8\/j=9\/j=10\/j=11\/j=12\/j=15\/j=16:=Ay;rcases this with rfl|rfl|rfl|rfl|rfl|rfl|rfl|rfl|rfl|rfl|rfl|rfl|rfl|rfl|rfl<;>exact A ⟨_,.phase⟩ Aa rfl
  have KC:aq.getD 19 false=false:=by cases R:aq.getD 19 false with|false=>rfl|true=>rw[(h.cl.2 R).2]at m;grind
  have F:eT jU W (W.setCell ⟨b,0,none⟩ (.slice Z P.length K)):=eT.set H Dr _ _;refine EF w rfl rfl (w1:=W.setCell ⟨b,0,none⟩ (.slice Z P.length K)) BD ⟨hd,⟨DS,⟨fun _ j S=>(pG M).2 AU,fun k=>?_⟩,fun k=>?_,?_,?_⟩,(Below.refl _ W).setCell (p:=⟨b,0,none⟩) L _⟩
  ·simp_all
  ·simp_all
  ·refine⟨h.b0.1,fun p I=>?_⟩;simp at I;subst I;obtain⟨v,Q,U⟩:=h.b0.2 (6,tD n0 27 1) Aa;grind[uW]
  ·refine h.b1.store M (fun r D v hl k=>?_) (fun r D e=>?_)
   ·simp[pk]at D;rcases D with rfl|rfl|rfl|rfl|rfl|rfl|rfl|rfl|rfl|rfl
    ·exact ON F k
    ·exact ON F k
    ·obtain⟨c,e,k⟩:=k;exact⟨c,e,k.kept F⟩
    ·exact k
    ·exact k
    ·exact uW k _ _ _
    ·exact uW k _ _ _
    ·grind
    ·exact k
    grind
   ·simp[pk]at D;rcases D with rfl|rfl|rfl|rfl|rfl|rfl|rfl|rfl|rfl|rfl<;>first|(exact absurd e AW)|skip
    exact⟨_,d,b,_,rfl,L,H.set 0 _,r1.kept F⟩
 |18,_=>obtain rfl:=Option.some.inj z;obtain⟨g,d,rd⟩:=h.b1 (13,24) FF (A ⟨13,.data⟩ Aa rfl);have d:a.tmps[24]?=some g:=d;obtain rfl:g=.int .i64 0:=rd;exact eG w rfl rfl (v:=.int .i64 0) (w1:=W) BD ⟨B _ _,h.put AW AW AW m (Below.refl _ _) rfl,(Below.refl _ _)⟩
 |19,_=>
  obtain rfl:=Option.some.inj z;obtain⟨g,d,rd⟩:=h.b1 (16,10) FF (A ⟨16,.data⟩ Aa rfl);have d:a.tmps[10]?=some g:=d;obtain⟨K,ec,rc⟩:=h.b1 (14,25) FF (A ⟨14,.data⟩ Aa rfl);have ec:a.tmps[25]?=some K:=ec;obtain⟨b,cs,rfl,L,H,T⟩:=rd;obtain rfl:K=tE:=rc;obtain⟨BX,adX,rfl⟩:∃q r,cs=#[q,r]:=by obtain⟨l⟩:=cs;match l,T with| [q,r],_=>grind
  obtain⟨dW,er,fx⟩:=H.all;have KA:aq.getD 17 false=true:=A ⟨_,.phase⟩ Aa rfl;have Oq:aq.getD 16 false=true:=A ⟨_,.phase⟩ Aa rfl;have F:eT jU W ((W.setCell ⟨b,0,none⟩ (.int .i64 0)).setCell ⟨b,1,none⟩ (.slice none 0 0)):=(eT.set H Dr _ _).trans (eT.set (H.set 0 _) Dr _ _);unfold tE at *;refine EF w rfl rfl (w1:=(W.setCell ⟨b,0,none⟩ (.int .i64 0)).setCell ⟨b,1,none⟩ (.slice none 0 0)) BD ⟨hd,⟨DS,⟨fun _ j S=>(pG M).2 (.inr (h.cl.1 KA j S)),fun _=>⟨(pG M).2 (.inr Oq),(pG M).2 (.inr KA)⟩⟩,fun k=>?_,?_,?_⟩,((Below.refl _ W).setCell (p:=⟨b,0,none⟩) L _).setCell (p:=⟨b,1,none⟩) L _⟩
  ·simp_all
  ·refine⟨h.b0.1,fun p I=>?_⟩;simp at I;subst I;obtain⟨v,Q,U⟩:=h.b0.2 (6,tD n0 27 1) Aa;grind[uW]
  ·refine h.b1.store M (fun r D v hl k=>?_) (fun r D e=>?_)
   ·simp[pk]at D;rcases D with rfl|rfl|rfl|rfl|rfl|rfl|rfl|rfl|rfl|rfl
    ·exact ON F k
    ·exact ON F k
    ·obtain⟨c,e,k⟩:=k;exact⟨c,e,k.kept F⟩
    ·exact k
    ·exact k
    ·exact uW (uW k _ _ _) _ _ _
    ·exact uW (uW k _ _ _) _ _ _
    ·obtain⟨aD,a9,e,Q,U,cr⟩:=k;have N:aD≠b:=fun e=>by grind[af]
     exact⟨aD,a9,e,Q,(U.fu N _).fu N _,cr.kept F⟩
    ·exact k
    grind
   ·simp[pk]at D;rcases D with rfl|rfl|rfl|rfl|rfl|rfl|rfl|rfl|rfl|rfl<;>first|(exact absurd e AW)|skip
    exact⟨_,d,b,rfl,L,(H.set 0 _).set 1 _⟩
end
section
variable {O:jW}
def Cb(t:List br)(w:World)(u:Value):Prop:=∃a9,u=.tuple #[.agg #[a9],.bool true]/\iB w a9 t
theorem adY{n0:Nat}(t:List br):gR n0 (Cb t):=by
 rintro ρ w w' v e b a ⟨a9,rfl,h⟩;obtain⟨f,rfl,k⟩:=TZ a;cases k with
 |cons d k=>cases k with
  |cons c k=>cases k;obtain⟨m,rfl,q⟩:=B0 d;cases q with|cons q1 q=>cases q;exact⟨_,by rw[acz c],Oj t _ _ _ _ _ b q1 h⟩
def EI(n0:Nat)(t:List br)(es:List (List cd))(x y:Int):List (Nat×(World->Value->Prop)):=[(1,kz t),(2,kA es),(3,GZ x y),(6,tD n0 27 1)]
theorem av8{n0:Nat}(t:List br)(es:List (List cd))(x y:Int):∀p∈EI n0 t es x y,gR n0 p.2:=by intro p a;simp[EI]at a;grind[Ak,Al,adU,Ey]
theorem av9{n0:Nat}(t:List br)(es:List (List cd))(x y:Int)(c b:Value)(w:World)(g:n0<=w.heap.size)(f:kz t w c)(h:kA es w b):
 c2 (ai prog true) [.code (fL f7)] [.code (.region 1 (aF f7 1) true),.code (dR f7 1)] (fun a1 w1=>a1.defers=[]/\d0 40 (EI n0 t es x y) a1 w1/\Below n0 w w1)
  ⟨#[.agg #[.int .i64 x,.int .i64 y],c,b]++Array.replicate 37 undef,[]⟩ w:=by
 simp[aF,dR,fL,f7,ba.cH,ba.fK,ba.iD];simp[Array.replicate_succ];refine cn (g_ ?_);go_wp2
 have a:Below w.heap.size w ((w.alloc (.cells #[.int .i64 x,.int .i64 y] 24)).alloc (.cells #[.slice none 0 0] 27)):=((Below.refl _ w).alloc Jr _).alloc Aa _;have e:=bC.cW a;refine⟨rfl,cn (om ⟨rfl,⟨rfl,fun p d=>?_⟩,a.mono g⟩)⟩;simp[EI]at d;rcases d with rfl|rfl|rfl|rfl
 ·exact⟨_,rfl,f.tY e⟩
 ·exact⟨_,rfl,h.tY e⟩
 ·exact⟨_,rfl,w.heap.size,rfl,nO (kH (World.alloc_heap_new w _) rfl rfl) _,nO (kH (World.alloc_heap_new w _) rfl rfl) _⟩
 ·refine⟨_,rfl,_,#[.slice none 0 0],rfl,Ay,?_,rfl⟩;have:=af.new (w.alloc (.cells #[.int .i64 x,.int .i64 y] 24)) #[.slice none 0 0] 27;simp_all
def EJ(n0:Nat)(a_:List br):List (Nat×(World->Value->Prop)):=[(6,tD n0 27 1),(8,lK n0 a_),(9,cy (.int .i64 0)),(10,OP n0)]
theorem av_{n0:Nat}(b:List br):∀p∈EJ n0 b,gR n0 p.2:=by intro p a;simp[EJ]at a;grind[Ey,EG,wL,adT]
theorem awa(F:Func)(hF:F.results=f7.results){n0:Nat}(b:List br)(a:Act)(w:World)(hd:a.defers=[])(K:d0 40 (EJ n0 b) a w):
 xQ (ai prog true) F [.inRegion (aF f7 1) [],.code (dR f7 1)] (fun v w1=>Cb b w1 v/\Below n0 w w1) a w:=by
 obtain⟨hsz,s⟩:=K;obtain⟨ft,db,dA,cY,ff,dQ,jH,gS,hp,ja,lI,ll,ij,ky,kQ,ln,mD,Y,X,T,pN,nQ,pO,lJ,pP,pQ,pR,pS,pT,S,pU,pV,pW,pX,pY,Z,p0,p1,p5,p6,rfl⟩:=ave hsz hd;simp only[EJ,List.mem_cons,List.not_mem_nil,or_false,forall_eq_or_imp,forall_eq]at s;obtain⟨⟨W,o,d,u,rfl,k,j,P⟩,⟨V,m,h7,a9,rfl,J2,t,c⟩,⟨U,x,z⟩,⟨v10,n,fB,rfl,UQ,sO⟩⟩:=s;obtain rfl:=Option.some.inj o;obtain rfl:=Option.some.inj m;obtain rfl:=Option.some.inj x;obtain rfl:=Option.some.inj n;cases z;clear o m x n hsz hd;obtain⟨B,rfl⟩:∃q,u=#[q]:=by obtain⟨l⟩:=u;match l,P with| [q],_=>grind
 obtain⟨O,N,L⟩:=j.all;obtain⟨I,E,A⟩:=t.all;obtain⟨C,H,D⟩:=sO.all;obtain⟨⟨e,f,rfl,-,-⟩,-⟩:=id c;have M:Hid (iB w _ b):=c;have g:Hid (af w d #[B] 27):=j;have R:Hid _:=hF;clear j t sO c hF;refine Gq (ks':=[.code (dR f7 1)]) (t6 (om ?_));simp[dR,f7,ba.cH,ba.fK];refine Jh ?_;go_wp2
 go_region
 go_wp2
 have u6:af (w.setCell ⟨d,0,none⟩ (.slice e b.length f)) d #[.slice e b.length f] 27:=g.out.set 0 _;have r:eT jU w (w.setCell ⟨d,0,none⟩ (.slice e b.length f)):=eT.set g.out Dr _ _;have y:Below n0 w (w.setCell ⟨d,0,none⟩ (.slice e b.length f)):=(Below.refl n0 w).setCell (p:=⟨d,0,none⟩) k _;have Q:=iB.kept r M.out;clear O N L I E A C H D r;generalize w.setCell ⟨d,0,none⟩ (.slice e b.length f)=i at *;obtain⟨J,-⟩:=u6.bT;exact bodyPost_ret (v:=.tuple #[.agg #[.slice e b.length f],.bool true]) (by simp[results,R.out,results7,go_sem,J]) rfl ⟨_,rfl,⟨_,rfl,iB.kept (show eT jU i i.drew from⟨Nat.le_refl _,fun _ _ _ _ h _=>h⟩) Q⟩,y.trans (show Below n0 i i.drew from⟨rfl,rfl,rfl,Nat.le_refl _,fun _ _=>rfl⟩)⟩
theorem ad0:i6 prog true f7=true:=by decide+kernel
theorem OR(n j:Nat):(Array.replicate n false).getD j false=false:=by simp_all[Array.getD]
theorem awc{Post:Value->World->Prop}{M:Nat->Prop}{w:World}{i g:Value}(iZ:a3 (cB M) #[i,g] #[i,g]){t:List br}{es:List (List cd)}{l1:List (Int×Int)}{S:Nat}{outs:Nat->List bU}(F:KH t es l1 S outs)(wE:kz t w i)(B3:kA es w g)(P:hM x)(hy:hM y):
 qH O prog Post 7 #[.agg #[.int .i64 x,.int .i64 y],i,g] M w 2 (fun u _ w'=>Cb (pj t l1 S outs) w' u/\fm M w w'):=by
 intro n Shun aj a7 eV a₁ aG i₁ aP k₁ cs₁ hc d_;obtain⟨p,f⟩:∃p:Nat,nS x 16=p:=⟨(nS x 16).toNat,by have:=uw x (n:=16) Ay;omega⟩;obtain⟨q,hq⟩:∃q:Nat,nS y 64=q:=⟨(nS y 64).toNat,by have:=uw y (n:=64) Ay;omega⟩;have av6:=uw x (n:=16) Ay;have av7:=uw y (n:=64) Ay;have U:mz prog 7:=Bw func7 ad0 rfl;rw[enter_at func7 (c:=fL f7) rfl];have i9:a3 (cB M) (#[.agg #[.int .i64 x,.int .i64 y],i,g]++Array.replicate 37 undef) (#[.agg #[.int .i64 x,.int .i64 y],i,g]++Array.replicate 37 undef):=
  (a3.append (a:=#[.agg #[.int .i64 x,.int .i64 y]]) (b:=#[i,g]) (.one (.ki (JX _ _ _))) iZ).append (BS _ _)
 have H:Held O prog M w w.heap.size ⟨#[.agg #[.int .i64 x,.int .i64 y],i,g]++Array.replicate 37 undef,[]⟩ M w Shun:=.start a7 Jr i9 rfl;refine Nl fA U H (k:=[.code (fL f7)]) (k':=[.code (.region 1 (aF f7 1) true),.code (dR f7 1)]) AS AS (I:=d0 40 [(1,kz t),(2,kA es)]) (J:=d0 40 (EI w.heap.size t es x y))
  (j_ fun p f=>?_) (j_ (av8 _ _ _ _)) ⟨Aa,fun p f=>?_⟩ (fun w1 hW j=>?_) ?_
 ·simp at f;grind[Ak,Al]
 ·simp at f;rcases f with rfl|rfl
  ·grind
  grind
 ·obtain⟨-,j⟩:=j;obtain⟨ft,e0,r0⟩:=j (1,kz t) Aa;obtain⟨db,e1,r1⟩:=j (2,kA es) Aa;simp_all[av9]
 intro a1 dE w1 H1 A;obtain⟨o,T⟩:∃o,(aF f7 1)[10]?=some o:=⟨_,B2⟩;obtain rfl:=iE T;have E:(aF f7 1).size=20:=AS;refine anH fA N_ U AS 10 T rfl func14 BB rfl rfl (d:=2) aj (I:=Au w.heap.size t (pj t l1 S outs) es x y p q) (av2 _ _ _ _ _ _ _) (dt:=22) rfl (fun aq a w h=>by rw[h.b0.1];decide) (oo:=rW (pj t l1 S outs)) (fun aq a w h=>h.len.trans E.symm) H1 ?_ (av3 t _ es x y p q P hy f hq) (fun aq a M2 D Q m h N s=>?_) (fun aq a D u h N s hu=>?_) (fun aq a M2 D gj Q h hr Y m=>?_)
 ·rw[E];refine⟨Aa,⟨fun k=>?_,fun k=>?_⟩,fun _=>⟨⟨A.1,fun p f=>?_⟩,fun r _ k=>?_⟩,⟨A.1,fun p f=>A.2 p ?_⟩,fun r _ k=>?_⟩
  ·simp_all
  ·simp_all
  ·simp at f;rcases f with rfl|rfl|rfl<;>exact A.2 _ (by simp[EI])
  ·grind[OR]
  ·simp_all[EI]
  grind[OR]
 ·have B:=(h.ap (h.x9 Ay N)).2;obtain⟨L,v,KM⟩:=B (0,12) GG (s ⟨0,.data⟩ Aa rfl);obtain⟨K,C,KN⟩:=B (1,13) GG (s ⟨1,.data⟩ Aa rfl);obtain⟨Z,V,Eu⟩:=B (5,17) GG (s ⟨5,.data⟩ Aa rfl);obtain⟨nQ,W,UY⟩:=B (9,21) GG (s ⟨9,.data⟩ Aa rfl);obtain rfl:Z=.int .i64 ((1+p:Nat):Int):=Eu;obtain rfl:nQ=.int .i64 ((1+q:Nat):Int):=UY;have v:a.tmps[12]?=some L:=v;have C:a.tmps[13]?=some K:=C;have V:a.tmps[17]?=some (.int .i64 ((1+p:Nat):Int)):=V;have W:a.tmps[21]?=some (.int .i64 ((1+q:Nat):Int)):=W;have he:(#[Operand.tmp 12,.tmp 13,.tmp 17,.tmp 21].map a.eval)=#[L,K,.int .i64 ((1+p:Nat):Int),.int .i64 ((1+q:Nat):Int)]:=Gl;rw[he];refine avV ?_ F KM KN Ay Ay Ay Ay;refine iA (l:=[L,K]) fun z R=>?_;simp at R;rcases R with rfl|rfl
  ·exact m.all.get _ _ _ v v
  ·exact m.all.get _ _ _ C C
 ·exact h.put AW AW AW N (Below.refl _ _) hu
 ·have hdone:=Jj AS (h.len.trans E.symm) hr;have c0:d0 40 (EJ w.heap.size (pj t l1 S outs)) a D:=by
   refine⟨h.b0.1,fun p f=>?_⟩;simp[EJ]at f;rcases f with rfl|rfl|rfl|rfl
   ·exact h.b0.2 _ Aa
   ·exact h.b1 (17,8) FF (hdone 17 AU)
   ·exact h.b1 (18,9) FF (hdone 18 AU)
   ·exact h.b1 (19,10) FF (hdone 19 AU)
  refine Sk fA func7 ad0 rfl m AS hc (I:=d0 40 (EJ w.heap.size (pj t l1 S outs))) (hJ:=Cb (pj t l1 S outs)) (j_ (av_ _)) (adY _) c0 (fun X _ j=>?_) ?_
  ·exact awa f7 rfl _ a X m.defers j
  ·intro u M' w' g1 fR gL ka js mE;exact d_ u M' w' gj Q Y g1 fR gL ka ⟨mE,fun b c e z hb P=>js b c e z AU P⟩
end
section
variable {n0:Nat}
theorem mG{P:Program}{ops:Array Oper}{Q:Exit->Act->World->Prop}{R:Act->World->Prop}{i:Nat}{rest:List Nat}{a:Act}{w:World}(h:wpOps P ops (ii R) [i] a w)(k:∀a w,R a w->wpOps P ops Q rest a w):wpOps P ops Q (i::rest) a w:=by
 simp[wpOps]at h⊢;cases l:ops[i]? with
 |none=>simp[l]at h⊢;exact k _ _ h.2
 |some o=>
  simp[l]at h⊢;by_cases j:Region.wanted o (yielded ops a.tmps)=true
  ·simp[j]at h⊢;rcases h with h|⟨-,n,m,g⟩
   ·refine .inl ?_;simp[Oper.wp,Oper.upon]at h⊢;generalize(execOp a.eval o).run P w=r at h⊢;cases r with
    |ok x w'=>
     cases x with
     |value v=>exact k _ _ h.2
     |skip=>exact k _ _ h.2
     |defer d=>exact k _ _ h.2
     |enter f args=>refine Calls.mono h ?_;intro e p b;cases e with|returned v=>exact k _ _ b.2|panicked c=>cases b.1|outgrown=>obtain⟨n,m,g⟩:=b;cases g.1
     |row r args=>exact Rows.mono h fun _ _ b=>k _ _ b.2
     | _=>exact h.elim
    |halt x w'=>cases x<;>first|exact h.elim|(cases h.1)
   ·cases g.1
  ·simp[j]at h⊢;exact k _ _ h.2
theorem ad1{P:Program}{ops:Array Oper}{Q:Exit->Act->World->Prop}{I:Nat->Act->World->Prop}{m n:Nat}{rest:List Nat}(b:m<=n)(hstep:∀i,m<=i->i<n->∀a W,I i a W->wpOps P ops (ii (I (i+1))) [i] a W)(e:∀a W,I n a W->wpOps P ops Q rest a W){a:Act}{W:World}(h:I m a W):wpOps P ops Q (List.range' m (n-m)++rest) a W:=by obtain⟨k,rfl⟩:∃k,n=m+k:=⟨n-m,Ay⟩;rw[Nat.add_sub_cancel_left];clear b;induction k generalizing m a W with|zero=>grind|succ k c=>rw[List.range'_succ,List.cons_append];refine mG (hstep m Jr Ay a W h) fun a' f d=>?_;grind
def gr(op a:Int):Value:=.agg #[.int .i64 op,.int .i64 a,.int .i64 0,.string ⟨#[]⟩]
def G0(t:cd):List Value:=[.int .i64 t.op,.int .i64 t.a,.int .i64 t.v,.string t.s]
def Av(e:List cd)(w:World)(v:Value):Prop:=∃b,v=.slice (some ⟨b,0,none⟩) e.length e.length/\Fy w v e
theorem awd(e:List cd):kC (Av e):=fun _ _ _ a⟨b,d,c⟩=>⟨b,d,c.mono w7 (bC.cW a)⟩
theorem EK(e:List cd)(W:World){c:Array Value}(f:c=(e.flatMap G0).toArray)(hl:e.length<=100)(d:∀t∈e,t.s.size<=100)(T:TypeId):Av e (W.alloc (.cells c T)) (.slice (some ⟨W.heap.size,0,none⟩) e.length e.length):=by
 refine⟨_,rfl,_,_,rfl,Ay,fun i hi=>⟨_,_,rfl,?_⟩⟩;have cV:=af.new W c T;have key:∀(l:List cd)(i:Nat)(h:i<l.length)(j:Nat),j<4->(l.flatMap G0)[i*4+j]?=(G0 l[i])[j]?:=by intro l;induction l with|nil=>grind|cons t r b=>intro i h j a;rw[List.flatMap_cons];cases i with|zero=>grind[G0]|succ i=>grind[G0]
 have rd:∀j,j<4->(W.alloc (.cells c T)).cell? ⟨W.heap.size,0+i*4+j,none⟩=(G0 e[i])[j]?:=fun j a=>by simp_all
 exact⟨rd 0 AW,rd 1 AW,rd 2 AW,rd 3 AW,AU⟩
def UZ:List (Nat×Nat):=[(0,26),(1,27),(2,28),(3,29),(4,30),(5,31),(6,32),(7,33),(8,34),(9,35),(10,36),(11,37),(12,38),(13,39),(14,40),(15,41),(16,42),(17,43),(18,44),(19,45),(20,46),(21,47),(22,48),(23,49),(24,50),(25,51),(26,52)]
def ad2(es:List (List cd))(w:World)(v:Value):Prop:=∃b,v=.slice (some ⟨b,0,none⟩) es.length es.length/\mP w v es
theorem awe(es:List (List cd)):kC (ad2 es):=fun _ _ _ a⟨b,d,c⟩=>⟨b,d,c.mono ns (bC.cW a)⟩
def OS(es:List (List cd))(w:World)(v:Value):Prop:=∃b,v=.agg (eY 3 (.slice (some ⟨b,0,none⟩) es.length es.length))/\mP w (.slice (some ⟨b,0,none⟩) es.length es.length) es
theorem ad3(es:List (List cd)):kC (OS es):=fun _ _ _ a⟨b,d,c⟩=>⟨b,d,c.mono ns (bC.cW a)⟩
def KQ(j:Nat):World->Value->Prop:=
 match j with
 |0=>cy (gr 1 0)
 |1=>cy (gr 1 1)
 |2=>cy (gr 5 0)
 |3=>Av (kB[0])
 |4=>cy (gr 1 0)
 |5=>cy (gr 1 1)
 |6=>cy (gr 6 0)
 |7=>Av (kB[1])
 |8=>cy (gr 1 0)
 |9=>cy (gr 1 2)
 |10=>cy (gr 7 0)
 |11=>Av (kB[2])
 |12=>cy (gr 1 2)
 |13=>cy (gr 1 2)
 |14=>cy (gr 7 0)
 |15=>Av (kB[3])
 |16=>cy (gr 1 2)
 |17=>cy (gr 8 5)
 |18=>cy (gr 8 2)
 |19=>Av (kB[4])
 |20=>cy (gr 1 2)
 |21=>cy (gr 8 0)
 |22=>Av (kB[5])
 |23=>cy (gr 1 3)
 |24=>Av (kB[6])
 |25=>ad2 kB
 | _=>OS kB
theorem awf(j:Nat):kC (KQ j):=by unfold KQ;grind[kC.eq,awd,awe,ad3]
def wP(x y:Int)(w:World)(v:Value):Prop:=∃b,v=.pointer (some ⟨b,0,none⟩)/\af w b #[.int .i64 x,.int .i64 y] 24
theorem U0(x y:Int):kC (wP x y):=fun _ _ _ a⟨b,e,h⟩=>⟨b,e,h.call a⟩
def Ce(n i:Nat):Array Bool:=((List.range n).map fun j=>decide (j<i)).toArray
theorem ad4{n i j:Nat}(h:j<n):(Ce n i).getD j false=decide (j<i):=by simp[Ce,Array.getD,h]
theorem awg{n i:Nat}(h:i<n):(Ce n i).setIfInBounds i true=Ce n (i+1):=by
 apply Array.ext_getElem?;intro j;rw[Array.getElem?_setIfInBounds];by_cases e:i=j
 ·grind[Ce]
 ·rw[if_neg e];grind[Ce]
def y6(n0:Nat)(x y:Int)(a_:List br)(i:Nat)(N:World)(a:Act)(w:World):Prop:=a.defers=[]/\(n0<=N.heap.size/\Below n0 N w)/\d0 308 [(3,wP x y),(5,lK n0 a_)] a w/\nT UZ KQ (Ce 27 i) a w
theorem y6.put{d:List br}{i:Nat}{N:World}{a:Act}{w w1:World}(h:y6 n0 x y d i N a w)(hi:i<27)(b:Below w.heap.size w w1){v:Value}(e:KQ i w1 v):y6 n0 x y d (i+1) N (a.put (some (26+i)) v) w1:=by
 refine⟨by rw[put_defers];exact h.1,⟨h.2.1.1,h.2.1.2.trans (b.mono (Nat.le_trans h.2.1.1 h.2.1.2.size))⟩,h.2.2.1.put (fun p c=>?_) b (fun p c=>?_),?_⟩
 ·simp at c;grind[U0,At]
 ·grind
 ·rw[<-awg hi];have f:∀q∈UZ,q.2=26+q.1:=AW;exact h.2.2.2.put (by grind[Ce]) awf b (by rw[h.2.2.1.1];omega) AU AU e
theorem y6.get{c:List br}{i:Nat}{N:World}{a:Act}{w:World}(h:y6 n0 x y c i N a w){j:Nat}(d:j<i)(e:j<27)(b:(j,26+j)∈UZ):∃v,a.tmps[26+j]?=some v/\KQ j w v:=
 h.2.2.2 (j,26+j) b (by grind[ad4])
theorem awh(x y:Int)(a_:List br)(i:Nat)(N:World)(hi:i<27)(a:Act)(W:World)(h:y6 n0 x y a_ i N a W):wpOps (ai prog true) (aF Tryz.f3 2) (ii (y6 n0 x y a_ (i+1) N)) [i] a W:=by
 obtain⟨o,d⟩:∃o,(aF Tryz.f3 2)[i]?=some o:=by have:(aF Tryz.f3 2).size=29:=AS;exact⟨_,Array.getElem?_eq_getElem Ay⟩
 have g:=ju d;match i,hi with
 |0,_=>obtain rfl:=Option.some.inj g;refine p9 d rfl rfl (f:=5) (args:=#[.int .i64 0]) BD ((x5 0 W).mono ?_);rintro e w' ⟨rfl,c⟩;exact⟨_,rfl,h.put AW c rfl⟩
 |1,_=>obtain rfl:=Option.some.inj g;refine p9 d rfl rfl (f:=5) (args:=#[.int .i64 1]) BD ((x5 1 W).mono ?_);rintro e w' ⟨rfl,c⟩;exact⟨_,rfl,h.put AW c rfl⟩
 |2,_=>obtain rfl:=Option.some.inj g;refine p9 d rfl rfl (f:=6) (args:=#[.int .i64 5]) BD ((Oy 5 W).mono ?_);rintro e w' ⟨rfl,c⟩;exact⟨_,rfl,h.put AW c rfl⟩
 |3,_=>obtain rfl:=Option.some.inj g;obtain⟨OT,e0,r0⟩:=h.get (j:=0) AW AW AW;have e0:a.tmps[26]?=some OT:=e0;obtain rfl:OT=gr 1 0:=r0;obtain⟨dW,e1,r1⟩:=h.get (j:=1) AW AW AW;have e1:a.tmps[27]?=some dW:=e1;obtain rfl:dW=gr 1 1:=r1;obtain⟨er,e2,r2⟩:=h.get (j:=2) AW AW AW;have e2:a.tmps[28]?=some er:=e2;obtain rfl:er=gr 5 0:=r2;unfold gr at *;refine eG d rfl rfl (v:=.slice (some ⟨W.heap.size,0,none⟩) 3 3) (w1:=W.alloc (.cells #[.int .i64 1,.int .i64 0,.int .i64 0,.string ⟨#[]⟩,.int .i64 1,.int .i64 1,.int .i64 0,.string ⟨#[]⟩,.int .i64 5,.int .i64 0,.int .i64 0,.string ⟨#[]⟩] 30)) BD (h.put AW ((Below.refl _ W).alloc Jr _) (EK (kB[0]) W rfl AW AW _))
 |4,_=>obtain rfl:=Option.some.inj g;refine p9 d rfl rfl (f:=5) (args:=#[.int .i64 0]) BD ((x5 0 W).mono ?_);rintro e w' ⟨rfl,c⟩;exact⟨_,rfl,h.put AW c rfl⟩
 |5,_=>obtain rfl:=Option.some.inj g;refine p9 d rfl rfl (f:=5) (args:=#[.int .i64 1]) BD ((x5 1 W).mono ?_);rintro e w' ⟨rfl,c⟩;exact⟨_,rfl,h.put AW c rfl⟩
 |6,_=>obtain rfl:=Option.some.inj g;refine p9 d rfl rfl (f:=6) (args:=#[.int .i64 6]) BD ((Oy 6 W).mono ?_);rintro e w' ⟨rfl,c⟩;exact⟨_,rfl,h.put AW c rfl⟩
 |7,_=>obtain rfl:=Option.some.inj g;obtain⟨Y,e4,zI⟩:=h.get (j:=4) AW AW AW;have e4:a.tmps[30]?=some Y:=e4;obtain rfl:Y=gr 1 0:=zI;obtain⟨V,jB,gw⟩:=h.get (j:=5) AW AW AW;have jB:a.tmps[31]?=some V:=jB;obtain rfl:V=gr 1 1:=gw;obtain⟨T,Z,yq⟩:=h.get (j:=6) AW AW AW;have Z:a.tmps[32]?=some T:=Z;obtain rfl:T=gr 6 0:=yq;unfold gr at *;refine eG d rfl rfl (v:=.slice (some ⟨W.heap.size,0,none⟩) 3 3) (w1:=W.alloc (.cells #[.int .i64 1,.int .i64 0,.int .i64 0,.string ⟨#[]⟩,.int .i64 1,.int .i64 1,.int .i64 0,.string ⟨#[]⟩,.int .i64 6,.int .i64 0,.int .i64 0,.string ⟨#[]⟩] 30)) BD (h.put AW ((Below.refl _ W).alloc Jr _) (EK (kB[1]) W rfl AW AW _))
 |8,_=>obtain rfl:=Option.some.inj g;refine p9 d rfl rfl (f:=5) (args:=#[.int .i64 0]) BD ((x5 0 W).mono ?_);rintro e w' ⟨rfl,c⟩;exact⟨_,rfl,h.put AW c rfl⟩
 |9,_=>obtain rfl:=Option.some.inj g;refine p9 d rfl rfl (f:=5) (args:=#[.int .i64 2]) BD ((x5 2 W).mono ?_);rintro e w' ⟨rfl,c⟩;exact⟨_,rfl,h.put AW c rfl⟩
 |10,_=>obtain rfl:=Option.some.inj g;refine p9 d rfl rfl (f:=6) (args:=#[.int .i64 7]) BD ((Oy 7 W).mono ?_);rintro e w' ⟨rfl,c⟩;exact⟨_,rfl,h.put AW c rfl⟩
 |11,_=>obtain rfl:=Option.some.inj g;obtain⟨X,Q,k2⟩:=h.get (j:=8) AW AW AW;have Q:a.tmps[34]?=some X:=Q;obtain rfl:X=gr 1 0:=k2;obtain⟨U,Cc,tA⟩:=h.get (j:=9) AW AW AW;have Cc:a.tmps[35]?=some U:=Cc;obtain rfl:U=gr 1 2:=tA;obtain⟨OU,R,US⟩:=h.get (j:=10) AW AW AW;have R:a.tmps[36]?=some OU:=R;obtain rfl:OU=gr 7 0:=US;unfold gr at *;refine eG d rfl rfl (v:=.slice (some ⟨W.heap.size,0,none⟩) 3 3) (w1:=W.alloc (.cells #[.int .i64 1,.int .i64 0,.int .i64 0,.string ⟨#[]⟩,.int .i64 1,.int .i64 2,.int .i64 0,.string ⟨#[]⟩,.int .i64 7,.int .i64 0,.int .i64 0,.string ⟨#[]⟩] 30)) BD (h.put AW ((Below.refl _ W).alloc Jr _) (EK (kB[2]) W rfl AW AW _))
 |12,_=>obtain rfl:=Option.some.inj g;refine p9 d rfl rfl (f:=5) (args:=#[.int .i64 2]) BD ((x5 2 W).mono ?_);rintro e w' ⟨rfl,c⟩;exact⟨_,rfl,h.put AW c rfl⟩
 |13,_=>obtain rfl:=Option.some.inj g;refine p9 d rfl rfl (f:=5) (args:=#[.int .i64 2]) BD ((x5 2 W).mono ?_);rintro e w' ⟨rfl,c⟩;exact⟨_,rfl,h.put AW c rfl⟩
 |14,_=>obtain rfl:=Option.some.inj g;refine p9 d rfl rfl (f:=6) (args:=#[.int .i64 7]) BD ((Oy 7 W).mono ?_);rintro e w' ⟨rfl,c⟩;exact⟨_,rfl,h.put AW c rfl⟩
 |15,_=>obtain rfl:=Option.some.inj g;obtain⟨A,S,KM⟩:=h.get (j:=12) AW AW AW;have S:a.tmps[38]?=some A:=S;obtain rfl:A=gr 1 2:=KM;obtain⟨z,Ca,KN⟩:=h.get (j:=13) AW AW AW;have Ca:a.tmps[39]?=some z:=Ca;obtain rfl:z=gr 1 2:=KN;obtain⟨w,GW,KF⟩:=h.get (j:=14) AW AW AW;have GW:a.tmps[40]?=some w:=GW;obtain rfl:w=gr 7 0:=KF;unfold gr at *;refine eG d rfl rfl (v:=.slice (some ⟨W.heap.size,0,none⟩) 3 3) (w1:=W.alloc (.cells #[.int .i64 1,.int .i64 2,.int .i64 0,.string ⟨#[]⟩,.int .i64 1,.int .i64 2,.int .i64 0,.string ⟨#[]⟩,.int .i64 7,.int .i64 0,.int .i64 0,.string ⟨#[]⟩] 30)) BD (h.put AW ((Below.refl _ W).alloc Jr _) (EK (kB[3]) W rfl AW AW _))
 |16,_=>obtain rfl:=Option.some.inj g;refine p9 d rfl rfl (f:=5) (args:=#[.int .i64 2]) BD ((x5 2 W).mono ?_);rintro e w' ⟨rfl,c⟩;exact⟨_,rfl,h.put AW c rfl⟩
 |17,_=>obtain rfl:=Option.some.inj g;exact eG d rfl rfl (v:=.agg #[.int .i64 8,.int .i64 5,.int .i64 0,.string ⟨#[]⟩]) (w1:=W) BD (h.put AW (Below.refl _ _) rfl)
 |18,_=>obtain rfl:=Option.some.inj g;exact eG d rfl rfl (v:=.agg #[.int .i64 8,.int .i64 2,.int .i64 0,.string ⟨#[]⟩]) (w1:=W) BD (h.put AW (Below.refl _ _) rfl)
 |19,_=>obtain rfl:=Option.some.inj g;obtain⟨u,KE,P⟩:=h.get (j:=16) AW AW AW;have KE:a.tmps[42]?=some u:=KE;obtain rfl:u=gr 1 2:=P;obtain⟨t,KP,Eu⟩:=h.get (j:=17) AW AW AW;have KP:a.tmps[43]?=some t:=KP;obtain rfl:t=gr 8 5:=Eu;obtain⟨s,r,JY⟩:=h.get (j:=18) AW AW AW;have r:a.tmps[44]?=some s:=r;obtain rfl:s=gr 8 2:=JY;unfold gr at *;refine eG d rfl rfl (v:=.slice (some ⟨W.heap.size,0,none⟩) 3 3) (w1:=W.alloc (.cells #[.int .i64 1,.int .i64 2,.int .i64 0,.string ⟨#[]⟩,.int .i64 8,.int .i64 5,.int .i64 0,.string ⟨#[]⟩,.int .i64 8,.int .i64 2,.int .i64 0,.string ⟨#[]⟩] 30)) BD (h.put AW ((Below.refl _ W).alloc Jr _) (EK (kB[4]) W rfl AW AW _))
 |20,_=>obtain rfl:=Option.some.inj g;refine p9 d rfl rfl (f:=5) (args:=#[.int .i64 2]) BD ((x5 2 W).mono ?_);rintro e w' ⟨rfl,c⟩;exact⟨_,rfl,h.put AW c rfl⟩
 |21,_=>obtain rfl:=Option.some.inj g;exact eG d rfl rfl (v:=.agg #[.int .i64 8,.int .i64 0,.int .i64 0,.string ⟨#[]⟩]) (w1:=W) BD (h.put AW (Below.refl _ _) rfl)
 |22,_=>obtain rfl:=Option.some.inj g;obtain⟨q,Cf,O⟩:=h.get (j:=20) AW AW AW;have Cf:a.tmps[46]?=some q:=Cf;obtain rfl:q=gr 1 2:=O;obtain⟨p,Cd,UY⟩:=h.get (j:=21) AW AW AW;have Cd:a.tmps[47]?=some p:=Cd;obtain rfl:p=gr 8 0:=UY;unfold gr at *;refine eG d rfl rfl (v:=.slice (some ⟨W.heap.size,0,none⟩) 2 2) (w1:=W.alloc (.cells #[.int .i64 1,.int .i64 2,.int .i64 0,.string ⟨#[]⟩,.int .i64 8,.int .i64 0,.int .i64 0,.string ⟨#[]⟩] 30)) BD (h.put AW ((Below.refl _ W).alloc Jr _) (EK (kB[5]) W rfl AW AW _))
 |23,_=>obtain rfl:=Option.some.inj g;refine p9 d rfl rfl (f:=5) (args:=#[.int .i64 3]) BD ((x5 3 W).mono ?_);rintro e w' ⟨rfl,c⟩;exact⟨_,rfl,h.put AW c rfl⟩
 |24,_=>obtain rfl:=Option.some.inj g;obtain⟨n,m,M⟩:=h.get (j:=23) AW AW AW;have m:a.tmps[49]?=some n:=m;obtain rfl:n=gr 1 3:=M;unfold gr at *;refine eG d rfl rfl (v:=.slice (some ⟨W.heap.size,0,none⟩) 1 1) (w1:=W.alloc (.cells #[.int .i64 1,.int .i64 3,.int .i64 0,.string ⟨#[]⟩] 30)) BD (h.put AW ((Below.refl _ W).alloc Jr _) (EK (kB[6]) W rfl AW AW _))
 |25,_=>
  obtain rfl:=Option.some.inj g;obtain⟨fx,e3,B,rfl,r3⟩:=h.get (j:=3) AW AW AW;have e3:a.tmps[29]?=some (.slice (some ⟨B,0,none⟩) 3 3):=e3;obtain⟨pm,BT,C,rfl,sN⟩:=h.get (j:=7) AW AW AW;have BT:a.tmps[33]?=some (.slice (some ⟨C,0,none⟩) 3 3):=BT;obtain⟨awl,B_,H,rfl,UU⟩:=h.get (j:=11) AW AW AW;have B_:a.tmps[37]?=some (.slice (some ⟨H,0,none⟩) 3 3):=B_;obtain⟨aGX,KK,F,rfl,L⟩:=h.get (j:=15) AW AW AW;have KK:a.tmps[41]?=some (.slice (some ⟨F,0,none⟩) 3 3):=KK;obtain⟨aGY,l,E,rfl,JZ⟩:=h.get (j:=19) AW AW AW;have l:a.tmps[45]?=some (.slice (some ⟨E,0,none⟩) 3 3):=l;obtain⟨aGZ,Cg,D,rfl,K⟩:=h.get (j:=22) AW AW AW;have Cg:a.tmps[48]?=some (.slice (some ⟨D,0,none⟩) 2 2):=Cg;obtain⟨aG0,OZ,I,rfl,J⟩:=h.get (j:=24) AW AW AW;have OZ:a.tmps[50]?=some (.slice (some ⟨I,0,none⟩) 1 1):=OZ;refine eG d rfl rfl (v:=.slice (some ⟨W.heap.size,0,none⟩) 7 7) (w1:=W.alloc (.cells #[.slice (some ⟨B,0,none⟩) 3 3,.slice (some ⟨C,0,none⟩) 3 3,.slice (some ⟨H,0,none⟩) 3 3,.slice (some ⟨F,0,none⟩) 3 3,.slice (some ⟨E,0,none⟩) 3 3,.slice (some ⟨D,0,none⟩) 2 2,.slice (some ⟨I,0,none⟩) 1 1] 32)) (by go_simp;rfl) (h.put AW ((Below.refl _ W).alloc Jr _) ⟨W.heap.size,rfl,_,_,rfl,AW,fun i hi=>⟨_,_,rfl,?_⟩⟩);have cV:=af.new W #[.slice (some ⟨B,0,none⟩) 3 3,.slice (some ⟨C,0,none⟩) 3 3,.slice (some ⟨H,0,none⟩) 3 3,.slice (some ⟨F,0,none⟩) 3 3,.slice (some ⟨E,0,none⟩) 3 3,.slice (some ⟨D,0,none⟩) 2 2,.slice (some ⟨I,0,none⟩) 1 1] 32;have k:bC W (W.alloc (.cells #[.slice (some ⟨B,0,none⟩) 3 3,.slice (some ⟨C,0,none⟩) 3 3,.slice (some ⟨H,0,none⟩) 3 3,.slice (some ⟨F,0,none⟩) 3 3,.slice (some ⟨E,0,none⟩) 3 3,.slice (some ⟨D,0,none⟩) 2 2,.slice (some ⟨I,0,none⟩) 1 1] 32)):=bC.cW ((Below.refl _ W).alloc Jr _);have eO:i=0\/i=1\/i=2\/i=3\/i=4\/i=5\/i=6:=by have:kB.length=7:=rfl;omega
  rcases eO with rfl|rfl|rfl|rfl|rfl|rfl|rfl
  ·exact⟨_,(cV.bT.1 _).trans rfl,r3.mono w7 k⟩
  ·exact⟨_,(cV.bT.1 _).trans rfl,sN.mono w7 k⟩
  ·exact⟨_,(cV.bT.1 _).trans rfl,UU.mono w7 k⟩
  ·exact⟨_,(cV.bT.1 _).trans rfl,L.mono w7 k⟩
  ·exact⟨_,(cV.bT.1 _).trans rfl,JZ.mono w7 k⟩
  ·exact⟨_,(cV.bT.1 _).trans rfl,K.mono w7 k⟩
  ·exact⟨_,(cV.bT.1 _).trans rfl,J.mono w7 k⟩
 |26,_=>obtain rfl:=Option.some.inj g;obtain⟨aG1,G1,b,rfl,x1⟩:=h.get (j:=25) AW AW AW;have G1:a.tmps[51]?=some (.slice (some ⟨b,0,none⟩) 7 7):=G1;exact eG d rfl rfl (v:=.agg (eY 3 (.slice (some ⟨b,0,none⟩) 7 7))) (w1:=W) (by unfold eY;go_simp;rfl) (h.put AW (Below.refl _ _) ⟨b,rfl,x1⟩)
 |i+27,aj=>grind
end
end bD
end Go.Proofs.YtoehnnefaeoeoaaGreat
