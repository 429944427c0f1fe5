import Derived.Test.YtnkpmooengcinaaGreatPAS
import Derived.Test.YtnkpmooengcinaaGreatPAU
set_option linter.all false
set_option maxRecDepth 100000
set_option maxHeartbeats 16000000
namespace Go.Proofs.YtnkpmooengcinaaGreat
open Go.Proofs.Tryz
namespace bB
open RowKit Shelf av cv
section
attribute [local go_sem] Oper.semAt_some
def uS{u:Bool}{gf:Nat}{lb:dC}(pv:ubb)(aU:Nat->cV)(X N:Nat)(w:aH){Row:ubp}(I:∀t m W x,t<N->Row t m W x->aui pv aU X w.heap.size t m W x)(a5:0<N)(Q:∀args w,(callFunc gf args).run (aa prog u) w=.ok (.enter gf args) w)(R:∀n,B0 (λe=>e=67) X n (aa prog u) gf lb Row N w.heap.size w)(hok:∀k,k<N->(aU k).held≠0/\ky (aU k).sum/\(lf aU k).held≠0/\ky (lf aU k).sum/\(k+1<N->jf ((lf aU k).held+(aU (k+1)).held))):
 Calls (aa prog u) 49 #[.func (.func gf) #[] lb] w λe w'=>∃g cap a ct,e=.returned (.S g 0 1 cap)/\zo pv aU X w.heap.size (N-1) w' g cap a ct/\hU X w.heap.size w w':=by
 refine(vea (n:=3)).1 ?_;refine vcm (Ul u) rfl trivial ?_;have g5:∀W:aH,Sem.run (aa prog u) (Instr.makeMap 189 none) W=.ok (.map (some W.heap.size)) (W.alloc (.map #[] 0)):=λW=>rfl;simp[vbb];gi_wp2
 refine L3 (Y:=λe=>e=67) (X:=X) (n:=3) (gf:=gf) (lb:=lb) (w0:=w) (n₀:=w.heap.size) (N:=N) (Row:=Row) rfl Q (R _) ?hbA BC (λb=>b=w.heap.size+1) (λb V=>by subst V;simp) (vW pv aU X w.heap.size w.heap.size (w.heap.size+1+1) (w.heap.size+1)) (λt W W' h hk hs=>h.nu hk (hs _ rfl)) ?h0
  (λt x a' W=>∃d pa aJ pc a ct,(ag W d (c3 (.slice pa aJ pc) (.S a 0 1 ct)) 138/\w.heap.size<=d/\pv t=.slice pa aJ pc/\gL W a (aU t))/\((t=0/\(w.heap.size<=a\/a=X))\/(0<t/\∃g cap b0 cw,ag W w.heap.size #[.S g 0 1 cap] 133/\zo pv aU X w.heap.size (t-1) W g cap b0 cw/\b0≠a/\g≠d))/\∃z,a'={tmps:=#[.func (.func gf) #[] lb,undef,.N,.P w.heap.size 0,.P (w.heap.size+1+1) 0,.P d 0,.U,.U,.U,.U,.map (some (w.heap.size+1)),.func (.func gf) #[] lb,z,.U,.U,.U,.U,.U,.U,.U,.U,.U,.U,.U,.U,.U,.U,.U,.U,.U,.U,.U,.U,.U,.U,.U,.U,.U,.U,.U,.U,.U,.U,.U,.U,.U,.U,.U,.U,.U,.U,.U,.U,.U,.U,.U,.U,.U],defers:=[]})
  ?hAx ?assign ?body ?done
 case hbA=>exact(((vaa _ w).alloc IB _).alloc Ab _).alloc BC _
 case h0=>
  refine⟨BC,?_,?_,λ_=>?_,λh=>absurd h AY⟩
  .have:=ag.new ((w.alloc (.cells #[.N] 133)).alloc (.map #[] 0)) #[.map (some (w.heap.size+1))] 189;simpa using this
  .have:=vbm (w.alloc (.cells #[.N] 133)) (.map #[] 0);rw[Below.heap_alloc _ _ _ Ab];simpa[lH]using this
  .exact((ag.new w _ _).alloc _).alloc _
 case hAx=>
  rintro t x a' W W' ⟨d,pa,aJ,pc,a,ct,⟨v,O,s,r⟩,p,F⟩ hk hs;refine⟨d,pa,aJ,pc,a,ct,⟨hk.cells _ _ _ _ v,O,s,r.nu hk⟩,p.imp_right ?_,F⟩;rintro⟨e,g,cap,b0,cw,j,i,f⟩;exact⟨e,g,cap,b0,cw,hk.cells _ _ _ _ j,i.nu hk,f⟩
 case assign=>
  rintro l t x qo W K P C hi c bS hK;obtain⟨pa,aJ,pc,a,ct,A,rfl,y,Z,T⟩:=I _ _ _ _ c bS;have bI:=ag.new W (c3 (.N) (.N)) 138;gi_wp2_with (with_reducible refine J9 rfl ?_)
  unfold hJ;refine Ka (b:=W.heap.size) (pa:=pa) (aJ:=aJ) (pc:=pc) (ta:=some ⟨a,0,none⟩) (tl:=1) (cL:=ct) rfl rfl rfl rfl rfl bI λW2 j i f=>?_;have E:cC W W2:=((vaa _ W).alloc IB _).trans (f _ IB);clear i f bI;gi_wp2
  have H:=fO.below E;refine hK _ _ E ⟨W.heap.size,pa,aJ,pc,a,ct,⟨j,hi.size,A,y.nu H⟩,?_,_,rfl⟩;by_cases ht:t=0
  .exact .inl ⟨ht,(Z ht).imp_left λh=>vac P.size h⟩
  .have q:0<t:=by omega
   obtain⟨g,cap,b0,cw,aQ,B⟩:=P.n1 q;have o:=fO.below (C.trans (E.mono C.size));refine .inr ⟨q,g,cap,b0,cw,o.cells _ _ _ _ aQ,B.nu o,?_,?_⟩
   .rcases T q with h|⟨h,h'⟩
    .have:=B.l_.lt;omega
    .rcases B.old with k|k<;>omega
   .have hg:=(World.ownsRow.lt B.own g rfl).2;have:=C.size;omega
 case body=>
  rintro l t x a' W hI c ⟨d,pa,aJ,pc,a,ct,⟨v,O,s,r⟩,p,z,rfl⟩ J;rcases p with⟨p,F⟩|⟨q,g,cap,b0,cw,j,i,f,k4⟩
  .exact auj pv aU X w l t W hI v s r z J F p
  .have A:=hok t c;have D:=hok (t-1) AY;have y:=D.2.2.2.2 AY;rw[show t-1+1=t by omega]at y;exact auk pv aU X w l t W hI v s r z J q j i f ⟨⟨A.1,A.2.1⟩,D.2.2.1,D.2.2.2.1,y⟩
 case done=>
  rintro W hI M hK;obtain⟨g,cap,a,ct,hv,L⟩:=hI.n1 a5;obtain⟨U,-,-⟩:=hv.all;have S:Hid _:=L;have bV:Hid _:=M;clear L hI M;gi_wp2
  refine⟨Ab,.inl ⟨_,_,rfl,vcw hK,?_⟩⟩;have hbA:cC w (((w.alloc (.cells #[.N] 133)).alloc (.map #[] 0)).alloc (.cells #[.map (some (w.heap.size+1))] 189)):=(((vaa _ w).alloc IB _).alloc Ab _).alloc BC _;exact⟨_,results_tmp rfl _ _ _,g,cap,rfl,⟨a,ct,S.out.nu (B9 hK)⟩,((hU.of hbA).trans bV.out).trans (.of (pC _ BC))⟩
end
variable{o:Oper}{w:aH}{b d n:Nat}
section
attribute [local go_sem] Oper.semAt_some
def Uo(u:Bool):(aa prog u).funcs[(89:Nat)]?=some f89:=bo (upd:=u) func89 Au
def aun(u:Bool){x:uaq}(l:o.op=.load 138 x){ev:uaj}(z:ev x=.P b d){p t:Value}(h:∀j,j<18->w.cell? (.a b (d+j))=(c3 p t)[j]?)(C:p.oneCell'=true)(B:t.oneCell'=true):(execOp ev o).run (aa prog u) w=.ok (.value (oh p t)) w:=by cases o;simp only at l;subst l;have cw:=h 0 AX;have c1:=h 1 AX;have cg:=h 2 AX;have du:=h 3 AX;have r:=h 4 AX;have q:=h 5 AX;have n:=h 6 AX;have m:=h 7 AX;have y:=h 8 AX;have v:=h 9 AX;have s:=h 10 AX;have g:=h 11 AX;have i:=h 12 AX;have f:=h 13 AX;have k:=h 14 AX;have e:=h 15 AX;have c:=h 16 AX;have a:=h 17 AX;clear h;simp only[c3,vdk,vdd,vde,vcg]at cw c1 cg du r q n m y v s g i f k e c a;have A:=dx cw;go_simp
def Up{u:Bool}{F:Fence}{g:Nat}{ops:eQ}{rest:ubf}{a:Act}{Q:uap}{x:uaq}(k:o.guard=none)(f:o.op=.load 138 x)(i:a.eval x=.P b d){pa ta:uad}{aJ pc tl cL:Nat}(h:∀j,j<18->w.cell? (.a b (d+j))=(c3 (.slice pa aJ pc) (.slice ta tl cL))[j]?)(hk:wpListIn F g (aa prog u) ops Q rest (a.put o.dst (oh (.slice pa aJ pc) (.slice ta tl cL))) w):wpListIn F g (aa prog u) ops Q (o::rest) a w:=
 N0 k (λc e=>by rw[f]at e;cases e) (by simp[Oper.about,f]) (aun u f i h U U) hk
def Uq(pv aZ:ubb)(X n₀:Nat)(w0:aH)(t aDM:Nat)(W:aH)(x:Value):Prop:=x=oh (pv t) (aZ t)/\hU X n₀ w0 W/\(t=0->Below n₀ w0 W)
def wN{u:Bool}{Y:ubh}(pv aZ:ubb)(N g cap bI X:Nat)(w0:aH)(Ur:g≠X)(hcell:∀t,t<N->∀j,j<18->w0.cell? (.a g (t*18+j))=(c3 (pv t) (aZ t))[j]?)(B:∀t,t<N->(∃a l c,pv t=.slice a l c)/\∃a l c,aZ t=.slice a l c)(A:w0.cell? (.a bI 0)=some (.S g 0 N cap))(hsm:N<=1000000):
 B0 Y X n (aa prog u) 89 #[.P bI 0] (Uq pv aZ X w0.heap.size w0) N w0.heap.size w0:=by
 intro l S J W o I H O h0;have T:=Fj I H;clear H I;have y:=bm.b4 o;have F:=y _ _ _ A;refine vdt (Uo u) rfl trivial ?_ rfl;simp[vbb];gi_wp2
 gi_loopw [7] (λp wr=>∃i:Nat,i<=N/\p=.I (i:Int)/\J i wr/\hU X w0.heap.size w0 wr/\(i=0->cC w0 wr)/\hU X w0.heap.size W wr) (λp _=>N-(intOf p).toNat)
 case atStart=>exact⟨0,vaz _,rfl,h0,.of o,λ_=>o,.of (vaa _ _)⟩
 case round=>
  obtain⟨i,lX,rfl,s,R,r,U⟩:=hrel;have w:Hid (J i wr):=s;have m:Hid (hU X w0.heap.size w0 wr):=R;have C:Hid (i=0->cC w0 wr):=r;have E:Hid (hU X w0.heap.size W wr):=U;clear s R U r;by_cases f:i<N
  .obtain⟨⟨pa,aJ,pc,z⟩,⟨ta,tl,cL,ht⟩⟩:=B i f;have v:=hcell i f;rw[z,ht]at v;have P:g<w0.heap.size:=dx (v 0 AX);have HC:Hid (∀j,j<18->wr.cell? (.a g (i*18+j))=(c3 (.slice pa aJ pc) (.slice ta tl cL))[j]?):=λj s=>(vam (m.out.2 g P Ur)).trans (v j s);have q:Hid (pv i=.slice pa aJ pc/\aZ i=.slice ta tl cL):=⟨z,ht⟩;have dr:g<wr.heap.size:=van P m.out.1.size;have ot:(i:Int)<(N:Int):=AY;have wE:(0:Int)<=(i:Int):=AY;have x:Hid (w0.heap.size<=wr.heap.size):=m.out.1.size;clear v hcell B z ht h0 o y F A;gi_wp2_with (with_reducible refine GR rfl ?_)
   unfold hJ;refine Up (b:=g) (d:=i*18) (pa:=pa) (aJ:=aJ) (pc:=pc) (ta:=ta) (tl:=tl) (cL:=cL) rfl rfl ?_ HC.out ?_
   .rfl
   have bI:=ag.new wr (c3 (.N) (.N)) 138;gi_wp2_with (with_reducible refine J9 rfl ?_)
   unfold hJ;refine Ka (b:=wr.heap.size) (pa:=pa) (aJ:=aJ) (pc:=pc) (ta:=ta) (tl:=tl) (cL:=cL) rfl rfl rfl rfl rfl bI λD L k2 K=>?_;have k:cC wr D:=((vaa _ wr).alloc IB _).trans (K _ IB);clear k2 K bI;have Ed:Hid _:=O i (oh (.slice pa aJ pc) (.slice ta tl cL)) wr D w.out k (T _ _ _ w.out k) f ⟨by rw[q.out.1,q.out.2],m.out.trans (.of (k.mono x.out)),λe=>(C.out e).trans (k.mono x.out)⟩;have Q:Hid (hU X w0.heap.size wr D):=.of (k.mono x.out);have Kc:Hid _:=L;clear O T k L HC;gi_wp2_with (with_reducible refine GR rfl ?_)
   unfold hJ;refine Uk (b:=wr.heap.size) (pa:=pa) (aJ:=aJ) (pc:=pc) (ta:=ta) (tl:=tl) (cL:=cL) rfl rfl rfl Kc.out ?_;obtain⟨fn,tmps,assign,body,hy,V⟩:=Ed.out;gi_wp2
   refine⟨λh=>BQ,V.mono ?_⟩;rintro e mw ⟨rfl,Z,M,-⟩;clear V hy;gi_wp2
   go_roundw
   case rel=>exact⟨i+1,AY,Ab,Z,m.out.trans (Q.out.trans M),λh=>absurd h AY,E.out.trans (Q.out.trans M)⟩
   case measure=>simp[intOf];omega
  .have ot:¬(i:Int)<(N:Int):=by omega
   clear hcell B h0 o y F A;gi_wp2
   go_end0
   have e:N=i:=AY;rw[e];exact⟨⟨_,rfl⟩,w.out,E.out⟩
end
def wM:(aa prog false).funcs[(204:Nat)]?=some f204:=bo (upd:=false) func204 AT
@[simp] theorem aDN:cS false 204:=cN wM AT
theorem wK(u:Bool):(aa prog u).funcs[(50:Nat)]?=some f50:=bo (upd:=u) func50 Au
@[simp] theorem auv (u:Bool) (args:dC) (w:aH):Sem.run (aa prog u) (callFunc 50 args) w=.ok (.enter 50 args) w:=cN (wK u) Au args w
theorem auw:(aa prog false).funcs[(202:Nat)]?=some f202:=bo (upd:=false) func202 AT
def aux:fG prog false f205=true:=by decide+kernel
abbrev jh(op a:Int)(b5:uad)(bC gc:Nat)(a_:Value):Array Value:=#[.I op,.I a,.I 0,.N,.N,.N,.slice b5 bC gc,a_]
def auy(op a:Int)(d b:uad)(c gc n cc fr dG:Nat)(w:aH):
 Calls (aa prog false) 204 #[eP op a d c gc (.slice b n cc),.I fr,.I dG] w λe w'=>e=.returned (.func (.func 205) #[] #[.P w.heap.size 0,.P (w.heap.size+1) 0,.P (w.heap.size+1+1) 0])
  /\ag w' w.heap.size (jh op a d c gc (.slice b n cc)) 140/\ag w' (w.heap.size+1) #[.I fr] 3/\ag w' (w.heap.size+1+1) #[.I dG] 3/\cC w w':=by
 go_enter wM,ntmps204
 go_wp2
 go_ret
 have b1:=((ag.new w (jh op a d c gc (.slice b n cc)) 140).alloc (.cells #[.I (fr:Int)] 3)).alloc (.cells #[.I (dG:Int)] 3);have g:=(ag.new (w.alloc (.cells (jh op a d c gc (.slice b n cc)) 140)) #[.I (fr:Int)] 3).alloc (.cells #[.I (dG:Int)] 3);have f:=ag.new ((w.alloc (.cells (jh op a d c gc (.slice b n cc)) 140)).alloc (.cells #[.I (fr:Int)] 3)) #[.I (dG:Int)] 3;simp only[vce]at g f;exact⟨U,b1,g,f,(((vaa _ w).alloc IB _).alloc Ab _).alloc BC _⟩
def wD(u:Bool)(g:uad)(n cap:Nat)(w:aH):
 Calls (aa prog u) 50 #[.slice g n cap] w λe w'=>e=.returned (.func (.func 89) #[] #[.P w.heap.size 0])/\ag w' w.heap.size #[.slice g n cap] 133/\cC w w':=by
 go_enter (wK u),ntmps50
 go_wp2
 go_ret
 exact⟨U,ag.new w _ _,(vaa _ w).alloc IB _⟩
def GV(p:Value)(aq:Nat)(w:aH)(v:Value):Prop:=∃bI g cap ct,v=.func (.func 89) #[] #[.P bI 0]/\w.cell? (.a bI 0)=some (.S g 0 1 cap)/\∀j,j<18->w.cell? (.a g j)=(c3 p (.S aq 0 1 ct))[j]?
def Ke{W:aH}{n₀:Nat}{e:uaa}{sz g cap:Nat}{xs:uam}(h:W.ownsRow n₀ e sz (.S g 0 n cap) n xs)(j:Nat)(a:j<xs.length):W.cell? (.a g j)=xs[j]?:=by have:=h.cells (g:=g) U j xs[j] (vas a);rw[vas a,<-this];by_cases b:j=0<;>simp[Addr.add,b]
def auz(op a:Int)(xs:uay)(vs:Nat->dM)(q dV cc aA aR gc fr dG:Nat)(w:aH)(hcell:∀j u,(two xs)[j]?=some u->w.cell? (.a q (dV+j))=some u)(d:∀i(h:i<xs.length),(∃a l c,xs[i].1=.slice a l c)/\n2 w xs[i].2 [vs i])(z:xs.length<=cc)(P:fr<dG)(M:dG<=xs.length)(V:xs.length<=1000000)(O:∀i,jf (vs i).num)(hk:w.cell? (.a aA aR)=some (.I 2))(p:w.cell? (.a aA (aR+1))=some (.I 0))(hok:∀k,k<dG-fr->(lG (vs (fr+k))).held≠0/\ky (lG (vs (fr+k))).sum/\(lf (λk=>lG (vs (fr+k))) k).held≠0/\ky (lf (λk=>lG (vs (fr+k))) k).sum/\(k+1<dG-fr->jf ((lf (λk=>lG (vs (fr+k))) k).held+(lG (vs (fr+(k+1)))).held))):
 Calls (aa prog false) 202 #[eP op a (some (.a aA aR)) 1 gc (.S q dV xs.length cc),.I fr,.I dG] w λe w'=>∃v b,e=.returned v/\GV (xs.getD fr (undef,undef)).1 b w' v/\gL w' b (lf (λk=>lG (vs (fr+k))) (dG-fr-1))/\w.heap.size<=b:=by
 have K:Hid _:=And.intro hcell (And.intro d (And.intro hk p));clear hcell d hk p;go_enter auw,ntmps202
 go_wp2_with (go_at_call 204;apply qr)
 unfold hJ;refine(auy op a _ _ 1 gc xs.length cc fr dG _).mono ?_;have hbA:cC w (w.alloc (.cells (jh op a (some (.a aA aR)) 1 gc (.S q dV xs.length cc)) 140)):=(vaa _ w).alloc IB _;generalize w.alloc (.cells (jh op a (some (.a aA aR)) 1 gc (.S q dV xs.length cc)) 140)=A at *;rintro e w2 ⟨rfl,o,L,C,r⟩;have B:=hbA.trans (r.mono hbA.size);have f:=bm.b4 B;obtain⟨hcell,d,hk,p⟩:=K.out;have J:Hid _:=uS (u:=false) (gf:=205) (lb:=#[.P A.heap.size 0,.P (A.heap.size+1) 0,.P (A.heap.size+1+1) 0]) (λt=>(xs.getD (fr+t) (undef,undef)).1) (λk=>lG (vs (fr+k))) w2.heap.size (dG-fr) w2 (Row:=vx xs vs fr)
  (λt m W x ht Q=>by
   obtain⟨b,rfl,I,U⟩:=Q;obtain⟨⟨pa,aJ,pc,R⟩,-⟩:=d (fr+t) AY;have e:(xs.getD (fr+t) (undef,undef)).1=.slice pa aJ pc:=by rw[vcu,vas AY];exact R
   exact⟨pa,aJ,pc,b,1,e,Gn,.of U,λ_=>.inl I,λ_=>.inl I⟩)
  AY (λargs w=>cN vI aux args w)
  (λn=>at7 xs vs q dV cc aA aR gc fr dG w2 (λj u h=>f _ _ _ (hcell j u h)) (λi h=>⟨(d i h).1,bw.mono Ca f (d i h).2⟩) z P M V O (f _ _ _ hk) (f _ _ _ p) _ _ _ (o.rules.1 4) (o.rules.1 6) (o.rules.1 7) (L.rules.1 0) (C.rules.1 0)) hok
 have T:Hid (cC w w2):=B;clear o L C r B f hcell d hk p K hbA hok;go_wp2_with (go_at_call 49;apply qr)
 unfold hJ;refine vct J.out ?_;rintro e N ⟨g,cap,b,ct,rfl,E,D⟩;have y:Hid _:=E;have Y:Hid _:=D;clear J E D;go_wp2_with (go_at_call 50;apply qr)
 unfold hJ;refine(wD false _ _ _ _).mono ?_;rintro e X ⟨rfl,o,r⟩;have s:Hid _:=And.intro o r;clear o r;go_wp2
 go_ret
 have f:=bm.b4 s.out.2;refine⟨_,b,rfl,⟨N.heap.size,g,cap,ct,rfl,s.out.1.rules.1 0,λj F=>?_⟩,y.out.l_.nu (.below s.out.2),?_⟩
 .have H:=Ke y.out.own j F;have S:j<(c3 (xs.getD (fr+0) (undef,undef)).1 (.S b 0 1 ct)).toList.length:=F;rw[vas S]at H;rw[f _ _ _ H];simp
 .have:=T.out.size;rcases y.out.old with h|h<;>omega
def wv:(aa prog false).funcs[(213:Nat)]?=some f213:=bo (upd:=false) func213 AT
@[simp] theorem aDO:cS false 213:=cN wv AT
theorem wq:(aa prog false).funcs[(212:Nat)]?=some f212:=bo (upd:=false) func212 AT
theorem Us:((aa prog false).info? 84).map (λi=>(i.zero,i.size,i.bytes))=some (some (.agg #[.F,.I 0,.I 0,.E]),4,40):=by kernel_rfl
def auA(b o c:Nat)(w:aH):
 Calls (aa prog false) 213 #[.S b o 0 c] w λe w'=>∃v,e=.returned v/\w'.ownsRow w.heap.size 84 4 v 0 []/\cC w w':=by
 have d:∀W:aH,Sem.run (aa prog false) (binOp .eql 65 (.S b o 0 c) (.N)) W=.ok (.F) W:=λW=>AU;go_enter wv,ntmps213
 obtain⟨a,hi,-,-,-⟩:=vbt Us;go_wp2_with (at_builtin;apply qr)
 unfold hJ;refine YJ U _ _ 65 U 84 a ((qc _ _ _).trans underlying65) hi U U IB ?_;go_wp2
 go_ret
 exact⟨_,U,⟨U,.inr ⟨w.heap.size,0,#[],U,vad _,ag.new w _ _,vad _,vaz _,U,U⟩⟩,(vaa _ w).alloc IB _⟩
def auB(u:Bool){x:uaq}(a:o.op=.load 193 x){ev:uaj}(l:ev x=.P b 0){t:cV}(h:∀j,j<11->w.cell? (.a b j)=(dB t)[j]?):(execOp ev o).run (aa prog u) w=.ok (.value (og t)) w:=by cases o;simp only at a;subst a;have cw:=h 0 AX;have c1:=h 1 AX;have cg:=h 2 AX;have du:=h 3 AX;have f:=h 4 AX;have e:=h 5 AX;have d:=h 6 AX;have c:=h 7 AX;have k:=h 8 AX;have i:=h 9 AX;have g:=h 10 AX;clear h;simp only[dB,vdk,vdd,vde]at cw c1 cg du f e d c k i g;have m:=dx cw;go_simp
abbrev Ef(d:dM):List Value:=[.bool d.dN,.I d.num,.I d.cY,.string d.text]
def uQ(op a:Int)(aA aR gc:Nat)(J:uad)(M cc:Nat)(pa:uad)(aJ pc d ct:Nat)(t:cV)(ht:ky t.sum)(w:aH)(hk:w.cell? (.a aA aR)=some (.I 2))(fe:w.cell? (.a aA (aR+1))=some (.I 0))(I:∀j,j<11->w.cell? (.a d j)=(dB t)[j]?):
 Calls (aa prog false) 212 #[eP op a (some (.a aA aR)) 1 gc (.slice J M cc),oh (.slice pa aJ pc) (.S d 0 1 ct)] w λe w'=>((iT 2 t=true/\∃v,e=.returned v/\w'.ownsRow w.heap.size 84 4 v 1 (Ef (cn 2 t)))\/(iT 2 t=false/\e=.panicked [{v:=.iface 64 (.slice pa aJ pc),recovered:=false}]))/\cC w w':=by
 have vG:Hid _:=And.intro hk (And.intro fe I);clear hk fe I;have b1:=(ag.new w (jh op a (some (.a aA aR)) 1 gc (.slice J M cc)) 146).alloc (.cells (c3 (.slice pa aJ pc) (.S d 0 1 ct)) 138);have b2:=ag.new (w.alloc (.cells (jh op a (some (.a aA aR)) 1 gc (.slice J M cc)) 146)) (c3 (.slice pa aJ pc) (.S d 0 1 ct)) 138;rw[vce]at b2;have hbA:cC w ((w.alloc (.cells (jh op a (some (.a aA aR)) 1 gc (.slice J M cc)) 146)).alloc (.cells (c3 (.slice pa aJ pc) (.S d 0 1 ct)) 138)):=((vaa _ w).alloc IB _).alloc Ab _;refine(vea (n:=3)).1 ?_;refine vdt wq rfl trivial ?_ rfl;simp[vbb];obtain⟨c9,dF,eB⟩:=b1.all;obtain⟨jM,mI,mn⟩:=b2.all;gi_wp2_with (gi_at_call 213;apply qr)
 clear c9 dF eB jM mI mn;have L:Hid _:=And.intro b1 (And.intro b2 hbA);clear b1 b2 hbA;generalize(w.alloc (.cells (jh op a (some (.a aA aR)) 1 gc (.slice J M cc)) 146)).alloc (.cells (c3 (.slice pa aJ pc) (.S d 0 1 ct)) 138)=h6 at *;refine⟨PA,(vea.2 (auA _ _ _ _)).mono ?_⟩;rintro e Kg ⟨v1,rfl,dE,GX⟩;obtain⟨a1,c1,rfl⟩:=qq dE;have l9:Hid (Kg.ownsRow w.heap.size 84 4 (.slice a1 0 c1) 0 []):=⟨dE.1,dE.2.imp_right λ⟨g,cap,bc,H,k2,k3⟩=>⟨g,cap,bc,H,vac L.out.2.2.size k2,k3⟩⟩;have q:Hid (ag Kg w.heap.size (jh op a (some (.a aA aR)) 1 gc (.slice J M cc)) 146/\ag Kg (w.heap.size+1) (c3 (.slice pa aJ pc) (.S d 0 1 ct)) 138/\cC w Kg):=⟨L.out.1.call GX,L.out.2.1.call GX,L.out.2.2.trans (GX.mono L.out.2.2.size)⟩;clear dE GX L;obtain⟨c9,dF,eB⟩:=q.out.1.all;gi_wp2
 gi_loopw [5,6,9,21] (λkv _ _ i W=>(i=.I 0/\kv=.slice a1 0 c1/\W=Kg)\/(i=.I 1/\iT 2 t=true/\W.ownsRow w.heap.size 84 4 kv 1 (Ef (cn 2 t))/\cC w W)) (λ_ _ _ p _=>1-(intOf p).toNat)
 case atStart=>exact .inl ⟨rfl,rfl,rfl⟩
 case round=>
  rcases hrel with⟨rfl,rfl,rfl⟩|⟨rfl,h1,h2,h3⟩
  .obtain⟨Z,H,qR⟩:=vG.out;have bp:=bm.b4 q.out.2.2;replace Z:=bp _ _ _ Z;replace H:=bp _ _ _ H;have DT:=dx Z;have Ut:∀j,j<11->wr.cell? (.a d j)=(dB t)[j]?:=λj A=>by have hz:=qR 0 AX;have Q:=dx hz;exact(vam (q.out.2.2.block d Q)).trans (qR j A)
   have Q:d<wr.heap.size:=dx (Ut 0 AX);have E:Hid (cC wr (wr.alloc (.cells #[.I 2,.I 0] 37)).drew):=((vaa _ wr).alloc IB _).drew;have HC:Hid (ag (wr.alloc (.cells #[.I 2,.I 0] 37)).drew (w.heap.size+1) (c3 (.slice pa aJ pc) (.S d 0 1 ct)) 138/\(∀j,j<11->(wr.alloc (.cells #[.I 2,.I 0] 37)).drew.cell? (.a d j)=(dB t)[j]?)/\ag (wr.alloc (.cells #[.I 2,.I 0] 37)).drew wr.heap.size #[.I 2,.I 0] 37):=⟨(q.out.2.1.alloc _).drew,λj A=>(vam (E.out.block d Q)).trans (Ut j A),(ag.new wr _ _).drew⟩;clear bp Ut qR vG;gi_wp2
   generalize wr.alloc (.cells #[.I 2,.I 0] 37)=b at *;refine wpIn_region_any AU (AJ (C:=λf=>ag f (w.heap.size+1) (c3 (.slice pa aJ pc) (.S d 0 1 ct)) 138/\(∀j,j<11->f.cell? (.a d j)=(dB t)[j]?)/\ag f wr.heap.size #[.I 2,.I 0] 37) _ _ _ _ ?_);refine cR (i:=0) (v:=.P (w.heap.size+1) 17) rfl AU AU AU IG HC.out ⟨Av,λf m=>Ah,(λc h=>nomatch h),λ_=>rfl⟩ ?_;refine cR (i:=2) (v:=.I 0) rfl AU AU AU IG HC.out ⟨Av,λf m=>Ah,(λc h=>nomatch h),λ_=>rfl⟩ ?_;refine cR (i:=5) (v:=.P wr.heap.size 0) rfl AU AU AU IG HC.out ⟨Av,λf m=>Ah,(λc h=>nomatch h),λ_=>rfl⟩ ?_;refine cR (i:=1) (v:=.S d 0 1 ct) rfl AU AU AU IG HC.out ⟨Av,λf m=>by obtain⟨cK,c_,T⟩:=m.1.all;go_simp,(λc h=>nomatch h),λ_=>rfl⟩ ?_;refine cR (i:=6) (v:=.I 2) rfl AU AU AU IG HC.out ⟨Av,λf m=>by obtain⟨cK,c_,T⟩:=m.2.2.all;go_simp,(λc h=>nomatch h),λ_=>rfl⟩ ?_;refine cR (i:=3) (v:=.P d 0) rfl AU AU AU IG HC.out ⟨Av,λf m=>Ah,(λc h=>nomatch h),λ_=>rfl⟩ ?_;refine cR (i:=4) (v:=og t) rfl AU AU AU IG HC.out ⟨Av,λf m=>by exact auB false rfl rfl m.2.1,(λc h=>nomatch h),λ_=>rfl⟩ ?_;refine vX (i:=7) (j:=11) AU rfl rfl (λK hK=>?_) (λK hK=>?_);all_goals have sF:Hid (w.heap.size+1<b.drew.heap.size/\d<b.drew.heap.size/\wr.heap.size<b.drew.heap.size):=⟨HC.out.1.all.2.2,dx (HC.out.2.1 0 AX),HC.out.2.2.all.2.2⟩
   all_goals have k:Hid (∀f,Below b.drew.heap.size b.drew f->ag f (w.heap.size+1) (c3 (.slice pa aJ pc) (.S d 0 1 ct)) 138/\(∀j,j<11->World.cell? f ⟨d,j,none⟩=(dB t)[j]?)/\ag f wr.heap.size #[.I 2,.I 0] 37):=λf I=>⟨HC.out.1.call I,λj A=>(vam (I.block d sF.out.2.1)).trans (HC.out.2.1 j A),HC.out.2.2.call I⟩
   .go_simp
    refine⟨PA,(vea.2 (vY 2 t ht _)).mono ?_⟩;rintro e w2 ⟨rfl,cE⟩;have o:Hid (Below b.drew.heap.size b.drew w2):=cE;refine hK _ _ (k.out _ cE) ?_;clear hK K cE;refine cR (i:=8) (v:=.tuple #[jZ (cn 2 t),.bool (iT 2 t)]) rfl AU AU AU IG (k.out _ o.out) ⟨Av,λf m=>Ah,(λc h=>nomatch h),λ_=>rfl⟩ ?_;refine cR (i:=9) (v:=jZ (cn 2 t)) rfl AU AU AU IG (k.out _ o.out) ⟨Av,λf m=>Ah,(λc h=>nomatch h),λ_=>rfl⟩ ?_;refine cR (i:=10) (v:=.bool (iT 2 t)) rfl AU AU AU IG (k.out _ o.out) ⟨Av,λf m=>Ah,(λc h=>nomatch h),λ_=>rfl⟩ ?_;refine js (i:=11) AU rfl λK hK=>?_;go_simp
    have y:Hid (ag (w2.alloc (.cells #[.F,.I 0,.I 0,.E] 84)) w2.heap.size #[.F,.I 0,.I 0,.E] 84):=ag.new w2 _ _;have x:Hid (Below b.drew.heap.size b.drew (w2.alloc (.cells #[.F,.I 0,.I 0,.E] 84))):=o.out.alloc o.out.size _;have s:Hid (b.drew.heap.size<=w2.heap.size):=o.out.size;refine hK _ _ (k.out _ x.out) ?_;clear hK K;generalize w2.alloc (.cells #[.F,.I 0,.I 0,.E] 84)=N at *;clear o;generalize w2.heap.size=z at *;obtain⟨cK,c_,T⟩:=y.out.all;refine js (i:=12) AU rfl λK hK=>?_;go_simp
    have cH:=bB.ag.cast ((((y.out.set 0 (.bool (cn 2 t).dN)).set 1 (.I (cn 2 t).num)).set 2 (.I (cn 2 t).cY)).set 3 (.string (cn 2 t).text)) (show _=#[.bool (cn 2 t).dN,.I (cn 2 t).num,.I (cn 2 t).cY,.string (cn 2 t).text] by kernel_rfl);have r:Hid (Below b.drew.heap.size b.drew _):=(((x.out.setCell (p:=⟨z,0,none⟩) s.out (.bool (cn 2 t).dN)).setCell (p:=⟨z,1,none⟩) s.out (.I (cn 2 t).num)).setCell (p:=⟨z,2,none⟩) s.out (.I (cn 2 t).cY)).setCell (p:=⟨z,3,none⟩) s.out (.string (cn 2 t).text);refine hK _ _ (k.out _ r.out) ?_;clear hK K cK c_ T;generalize(((N.setCell ⟨z,0,none⟩ (.bool (cn 2 t).dN)).setCell ⟨z,1,none⟩ (.I (cn 2 t).num)).setCell ⟨z,2,none⟩ (.I (cn 2 t).cY)).setCell ⟨z,3,none⟩ (.string (cn 2 t).text)=l at *;have AM:Hid (ag l z #[.bool (cn 2 t).dN,.I (cn 2 t).num,.I (cn 2 t).cY,.string (cn 2 t).text] 84):=cH;refine js (i:=13) AU rfl λK hK=>?_;go_simp
    refine hK _ _ (k.out _ r.out) ?_;clear hK K cH y x s;refine AK AU ?_ _;have D:Hid (cC wr l):=E.out.trans (r.out.mono E.out.size);have zq:Hid (ag l (w.heap.size+1) (c3 (.slice pa aJ pc) (.S d 0 1 ct)) 138):=(k.out _ r.out).1;clear k HC r sF E c9 dF eB Z H DT Q;cases S:iT 2 t
    .obtain⟨Y,V,X⟩:=zq.out.all;gi_wp2
     exact⟨rfl,.inr ⟨S,rfl⟩,q.out.2.2.trans (D.out.mono q.out.2.2.size)⟩
    .obtain⟨Y,V,X⟩:=AM.out.all;obtain⟨i0,hi,nY,oO,oP⟩:=vbt Us;gi_wp2_with (gi_at_builtin;apply qr)
     unfold hJ;have P:Hid (cC wr (l.alloc (.cells #[.bool (cn 2 t).dN,.I (cn 2 t).num,.I (cn 2 t).cY,.string (cn 2 t).text] 84))):=D.out.alloc D.out.size _;have HOW:Hid _:=Kb l9.out (fO.below P.out);have F:Hid (cC w _):=q.out.2.2.trans (P.out.mono q.out.2.2.size);refine wpListIn_append_own _ rfl _ _ 65 rfl w.heap.size 84 i0 _ 4 40 ((qc _ _ _).trans underlying65) hi nY oO oP rfl AX (.slice a1 0 c1) 0 [] rfl HOW.out ⟨l.heap.size,0,none⟩ 1 1 (Ef (cn 2 t)) rfl rfl ?cel ?one B_ AY F.out.size ?_
     case cel=>
      intro j v A;have:=(ag.new l #[.bool (cn 2 t).dN,.I (cn 2 t).num,.I (cn 2 t).cY,.string (cn 2 t).text] 84).rules.1 j;rw[show(⟨l.heap.size,0,none⟩:Addr).add j=⟨l.heap.size,j,none⟩ by simp[vda],this,<-A];simp
     case one=>
      intro u R;simp at R;rcases R with rfl|rfl|rfl|rfl<;>rfl
     intro v' U B O _;have Uu:Hid (U.ownsRow w.heap.size 84 4 v' 1 (Ef (cn 2 t))):=B;have Uv:Hid (cC w U):=F.out.grown O F.out.size (λg hg=>(World.ownsRow.lt HOW.out g hg).1);obtain⟨Uw,qQ,rfl⟩:=vdj B;clear B O Y V X;gi_wp2
     go_roundw
     case rel=>exact .inr ⟨rfl,S,Uu.out,Uv.out⟩
     case measure=>simp[intOf]
   .go_simp
    have y:Hid (ag (b.drew.alloc (.cells #[.F,.I 0,.I 0,.E] 84)) b.drew.heap.size #[.F,.I 0,.I 0,.E] 84):=ag.new b.drew _ _;have o:Hid (Below b.drew.heap.size b.drew (b.drew.alloc (.cells #[.F,.I 0,.I 0,.E] 84))):=(vaa _ _).alloc IB _;refine hK _ _ (k.out _ o.out) ?_;clear hK K;refine js (i:=7) AU rfl λK hK=>?_;go_simp
    refine⟨PA,(vea.2 (vY 2 t ht _)).mono ?_⟩;rintro e N ⟨rfl,pT⟩;have x:Hid (Below b.drew.heap.size b.drew N):=o.out.trans (pT.mono o.out.size);replace y:Hid (ag N b.heap.size #[.F,.I 0,.I 0,.E] 84):=y.out.call pT;refine hK _ _ (k.out _ x.out) ?_;clear hK K pT;refine cR (i:=8) (v:=.tuple #[jZ (cn 2 t),.bool (iT 2 t)]) rfl AU AU AU IG (k.out _ x.out) ⟨Av,λf m=>Ah,(λc h=>nomatch h),λ_=>rfl⟩ ?_;refine cR (i:=9) (v:=jZ (cn 2 t)) rfl AU AU AU IG (k.out _ x.out) ⟨Av,λf m=>Ah,(λc h=>nomatch h),λ_=>rfl⟩ ?_;refine cR (i:=10) (v:=.bool (iT 2 t)) rfl AU AU AU IG (k.out _ x.out) ⟨Av,λf m=>Ah,(λc h=>nomatch h),λ_=>rfl⟩ ?_;have s:Hid (b.drew.heap.size<=b.heap.size):=vad _;clear o;obtain⟨cK,c_,T⟩:=y.out.all;refine js (i:=12) AU rfl λK hK=>?_;go_simp
    have cH:=bB.ag.cast ((((y.out.set 0 (.bool (cn 2 t).dN)).set 1 (.I (cn 2 t).num)).set 2 (.I (cn 2 t).cY)).set 3 (.string (cn 2 t).text)) (show _=#[.bool (cn 2 t).dN,.I (cn 2 t).num,.I (cn 2 t).cY,.string (cn 2 t).text] by kernel_rfl);have r:Hid (Below b.drew.heap.size b.drew _):=(((x.out.setCell (p:=⟨b.heap.size,0,none⟩) s.out (.bool (cn 2 t).dN)).setCell (p:=⟨b.heap.size,1,none⟩) s.out (.I (cn 2 t).num)).setCell (p:=⟨b.heap.size,2,none⟩) s.out (.I (cn 2 t).cY)).setCell (p:=⟨b.heap.size,3,none⟩) s.out (.string (cn 2 t).text);refine hK _ _ (k.out _ r.out) ?_;clear hK K cK c_ T;generalize(((N.setCell ⟨b.heap.size,0,none⟩ (.bool (cn 2 t).dN)).setCell ⟨b.heap.size,1,none⟩ (.I (cn 2 t).num)).setCell ⟨b.heap.size,2,none⟩ (.I (cn 2 t).cY)).setCell ⟨b.heap.size,3,none⟩ (.string (cn 2 t).text)=l at *;have AM:Hid (ag l b.heap.size #[.bool (cn 2 t).dN,.I (cn 2 t).num,.I (cn 2 t).cY,.string (cn 2 t).text] 84):=cH;refine js (i:=13) AU rfl λK hK=>?_;go_simp
    refine hK _ _ (k.out _ r.out) ?_;clear hK K cH y x s;refine AK AU ?_ _;have D:Hid (cC wr l):=E.out.trans (r.out.mono E.out.size);have zq:Hid (ag l (w.heap.size+1) (c3 (.slice pa aJ pc) (.S d 0 1 ct)) 138):=(k.out _ r.out).1;clear k HC r sF E c9 dF eB Z H DT Q;cases S:iT 2 t
    .obtain⟨Y,V,X⟩:=zq.out.all;gi_wp2
     exact⟨rfl,.inr ⟨S,rfl⟩,q.out.2.2.trans (D.out.mono q.out.2.2.size)⟩
    .obtain⟨Y,V,X⟩:=AM.out.all;obtain⟨i0,hi,nY,oO,oP⟩:=vbt Us;gi_wp2_with (gi_at_builtin;apply qr)
     unfold hJ;have P:Hid (cC wr (l.alloc (.cells #[.bool (cn 2 t).dN,.I (cn 2 t).num,.I (cn 2 t).cY,.string (cn 2 t).text] 84))):=D.out.alloc D.out.size _;have HOW:Hid _:=Kb l9.out (fO.below P.out);have F:Hid (cC w _):=q.out.2.2.trans (P.out.mono q.out.2.2.size);refine wpListIn_append_own _ rfl _ _ 65 rfl w.heap.size 84 i0 _ 4 40 ((qc _ _ _).trans underlying65) hi nY oO oP rfl AX (.slice a1 0 c1) 0 [] rfl HOW.out ⟨l.heap.size,0,none⟩ 1 1 (Ef (cn 2 t)) rfl rfl ?cel ?one B_ AY F.out.size ?_
     case cel=>
      intro j v A;have:=(ag.new l #[.bool (cn 2 t).dN,.I (cn 2 t).num,.I (cn 2 t).cY,.string (cn 2 t).text] 84).rules.1 j;rw[show(⟨l.heap.size,0,none⟩:Addr).add j=⟨l.heap.size,j,none⟩ by simp[vda],this,<-A];simp
     case one=>
      intro u R;simp at R;rcases R with rfl|rfl|rfl|rfl<;>rfl
     intro v' U B O _;have Uu:Hid (U.ownsRow w.heap.size 84 4 v' 1 (Ef (cn 2 t))):=B;have Uv:Hid (cC w U):=F.out.grown O F.out.size (λg hg=>(World.ownsRow.lt HOW.out g hg).1);obtain⟨Uw,qQ,rfl⟩:=vdj B;clear B O Y V X;gi_wp2
     go_roundw
     case rel=>exact .inr ⟨rfl,S,Uu.out,Uv.out⟩
     case measure=>simp[intOf]
  .gi_wp2
   go_ret
   exact⟨.inl ⟨h1,_,rfl,h2⟩,h3⟩
def N4:(aa prog false).funcs[(211:Nat)]?=some f211:=bo (upd:=false) func211 AT
@[simp] theorem aDS:cS false 212:=cN wq AT
def n3(n₀:Nat)(p:Value)(d:dM)(W:aH)(x:Value):Prop:=∃bv a_,x=.agg #[p,.S bv 0 1 a_]/\W.ownsRow n₀ 84 4 (.S bv 0 1 a_) 1 (Ef d)
def nW(u:Bool){x:uaq}(c:o.op=.load 146 x){ev:uaj}(n:ev x=.P b 0){op a:Int}{g d:uad}{f gc e cc:Nat}(h:∀j,j<8->w.cell? (.a b j)=(jh op a g f gc (.slice d e cc))[j]?):(execOp ev o).run (aa prog u) w=.ok (.value (eP op a g f gc (.slice d e cc))) w:=by cases o;simp only at c;subst c;have cw:=h 0 AX;have c1:=h 1 AX;have cg:=h 2 AX;have du:=h 3 AX;have m:=h 4 AX;have l:=h 5 AX;have k:=h 6 AX;have i:=h 7 AX;clear h;simp only[jh,vdk,vdd,vde]at cw c1 cg du m l k i;have p:=dx cw;go_simp
def auE(op a:Int)(aA aR gc g cap:Nat)(pa:uad)(aJ pc f ct:Nat)(t:cV)(ht:ky t.sum)(w0:aH)(k ig rJ:Nat)(m:∀j,j<8->w0.cell? (.a k j)=(jh op a (some (.a aA aR)) 1 gc (.S g 0 1 cap))[j]?)(hf:w0.cell? (.a ig 0)=some (.I 0))(hu:w0.cell? (.a rJ 0)=some (.I 1))(rk:1<=cap)(hk:w0.cell? (.a aA aR)=some (.I 2))(x:w0.cell? (.a aA (aR+1))=some (.I 0))(u:∀j,j<11->w0.cell? (.a f j)=(dB t)[j]?)(hg:∀j,j<18->w0.cell? (.a g j)=(c3 (.slice pa aJ pc) (.S f 0 1 ct))[j]?)(Z:iT 2 t=true):
 B0 (λe=>e=138) w0.heap.size n (aa prog false) 211 #[.P k 0,.P ig 0,.P rJ 0] (λ_ _=>n3 w0.heap.size (.slice pa aJ pc) (cn 2 t)) 1 w0.heap.size w0:=by
 intro l S J W T nv oQ ia h0;have ff:=Fj nv oQ;clear oQ nv;have B:=bm.b4 T;have oR:=B _ _ _ hf;have auF:=B _ _ _ hu;have hq:=m 7 AX;simp only[jh,vdk,vdd,vde]at hq;have NW:=B _ _ _ hq;have V:Hid _:=And.intro m (And.intro hk (And.intro x (And.intro u hg)));have o9:Hid _:=ia;have o:Hid (cC w0 W):=T;have N5:Hid (J 0 W):=h0;clear m hk x u hg ia T B hf hu hq h0;refine vdt N4 rfl trivial ?_ rfl;simp[vbb];gi_wp2
 gi_loopw [13] (λp wr=>(p=.I 0/\wr=W)\/(p=.I 1/\iT 2 t=true/\J 1 wr/\Below w0.heap.size W wr)) (λp _=>1-(intOf p).toNat)
 case atStart=>exact .inl ⟨rfl,rfl⟩
 case round=>
  rcases hrel with⟨rfl,rfl⟩|⟨rfl,h1,h2,h3⟩
  .obtain⟨m,hk,x,u,hg⟩:=V.out;have Q:=bm.b4 o.out;have P:g<w0.heap.size:=dx (hg 0 AX);have D:k<w0.heap.size:=dx (m 0 AX);have N:f<w0.heap.size:=dx (u 0 AX);have U:Hid (∀j,j<18->wr.cell? (.a g (0+j))=(c3 (.slice pa aJ pc) (.S f 0 1 ct))[j]?):=λj m=>by rw[vby];exact(vam (o.out.block g P)).trans (hg j m)
   have m2:Hid (∀j,j<8->wr.cell? (.a k j)=(jh op a (some (.a aA aR)) 1 gc (.S g 0 1 cap))[j]?):=λj h=>(vam (o.out.block k D)).trans (m j h);have gK:Hid (∀j,j<11->wr.cell? (.a f j)=(dB t)[j]?):=λj m=>(vam (o.out.block f N)).trans (u j m);have L:Hid (wr.cell? (.a aA aR)=some (.I 2)/\wr.cell? (.a aA (aR+1))=some (.I 0)):=⟨Q _ _ _ hk,Q _ _ _ x⟩;have dr:g<wr.heap.size:=van P o.out.size;have I:Hid (k<wr.heap.size/\f<wr.heap.size):=⟨van D o.out.size,van N o.out.size⟩;have Uy:Hid (k<w0.heap.size):=D;clear m hk x u hg Q V P D N;gi_wp2_with (with_reducible refine GR rfl ?_)
   unfold hJ;refine Up (b:=g) (d:=0) (pa:=pa) (aJ:=aJ) (pc:=pc) (ta:=some ⟨f,0,none⟩) (tl:=1) (cL:=ct) rfl rfl rfl U.out ?_;have bI:=ag.new wr (c3 (.N) (.N)) 138;gi_wp2_with (with_reducible refine J9 rfl ?_)
   unfold hJ;refine Ka (b:=wr.heap.size) (pa:=pa) (aJ:=aJ) (pc:=pc) (ta:=some ⟨f,0,none⟩) (tl:=1) (cL:=ct) rfl rfl rfl rfl rfl bI λF k1 k2 k3=>?_;have r:Hid (cC wr F.drew):=(((vaa _ wr).alloc IB _).trans (k3 _ IB)).drew;have HC:Hid (ag F.drew wr.heap.size (c3 (.slice pa aJ pc) (.S f 0 1 ct)) 138/\∀j,j<8->World.cell? F.drew ⟨k,j,none⟩=(jh op a (some (.a aA aR)) 1 gc (.S g 0 1 cap))[j]?):=⟨ag.drew k1,λj h=>(vam (r.out.block k I.out.1)).trans (m2.out j h)⟩;have Y:Hid _:=uQ op a aA aR gc (some (.a g 0)) 1 cap pa aJ pc f ct t ht F.drew (bm.b4 r.out _ _ _ L.out.1) (bm.b4 r.out _ _ _ L.out.2) (λj m=>(vam (r.out.block f I.out.2)).trans (gK.out j m));clear k1 k2 k3 bI U m2 gK L;gi_wp2
   refine wpIn_region_any AU (AJ (C:=λs=>ag s wr.heap.size (c3 (.slice pa aJ pc) (.S f 0 1 ct)) 138/\∀j,j<8->World.cell? s ⟨k,j,none⟩=(jh op a (some (.a aA aR)) 1 gc (.S g 0 1 cap))[j]?) _ _ _ _ ?_);refine cR (i:=0) (v:=.func (.yield l) #[] #[]) rfl AU AU AU IG HC.out ⟨Av,λs q=>Ah,(λc h=>nomatch h),λ_=>rfl⟩ ?_;refine cR (i:=1) (v:=.P wr.heap.size 0) rfl AU AU AU IG HC.out ⟨Av,λs q=>Ah,(λc h=>nomatch h),λ_=>rfl⟩ ?_;refine cR (i:=3) (v:=eP op a (some (.a aA aR)) 1 gc (.S g 0 1 cap)) rfl AU AU AU IG HC.out ⟨Av,λs q=>by exact nW false rfl rfl q.2,(λc h=>nomatch h),λ_=>rfl⟩ ?_;refine cR (i:=4) (v:=oh (.slice pa aJ pc) (.S f 0 1 ct)) rfl AU AU AU IG HC.out ⟨Av,λs q=>by exact Uj false rfl rfl q.1 rfl rfl,(λc h=>nomatch h),λ_=>rfl⟩ ?_;refine cR (i:=2) (v:=.slice pa aJ pc) rfl AU AU AU IG HC.out ⟨Av,λs q=>by obtain⟨cK,c_,hX⟩:=q.1.all;go_simp,(λc h=>nomatch h),λ_=>rfl⟩ ?_;refine js (i:=5) AU rfl λK hK=>?_;go_simp
   refine⟨PA,λh=>BQ,(vea.2 Y.out).mono ?_⟩;rintro e A ⟨⟨-,v,rfl,E⟩|⟨ji,rfl⟩,O⟩
   .obtain⟨bv,a_,rfl⟩:=vdj E;have z:Hid (cC wr A):=r.out.trans (O.mono r.out.size);have w:Hid (ag A wr.heap.size (c3 (.slice pa aJ pc) (.S f 0 1 ct)) 138/\∀j,j<8->World.cell? A ⟨k,j,none⟩=(jh op a (some (.a aA aR)) 1 gc (.S g 0 1 cap))[j]?):=⟨HC.out.1.call O,λj h=>(vam (z.out.block k I.out.1)).trans ((vam (r.out.block k I.out.1)).symm.trans (HC.out.2 j h))⟩;have Ed:Hid _:=o9.out 0 (.agg #[.slice pa aJ pc,.S bv 0 1 a_]) wr A N5.out z.out (ff _ _ _ N5.out z.out) AX ⟨bv,a_,rfl,⟨E.1,E.2.imp_right λ⟨g',cap',bc,aQ,aT,q3⟩=>⟨g',cap',bc,aQ,vac (vac o.out.size r.out.size) aT,q3⟩⟩⟩;refine hK _ _ w.out ?_;clear hK K E O Y HC o9 ff;refine cR (i:=6) (v:=.agg #[.slice pa aJ pc,.S bv 0 1 a_]) rfl AU AU AU IG w.out ⟨Av,λs q=>Ah,(λc h=>nomatch h),λ_=>rfl⟩ ?_;refine js (i:=7) AU rfl λK hK=>?_;obtain⟨fn,tmps,assign,body,hy,bl⟩:=Ed.out;go_simp
    refine⟨λh=>BQ,bl.mono ?_⟩;rintro e H ⟨rfl,y,M,X⟩;have ud:Hid (Below w0.heap.size wr H):=(z.out.mono o.out.size).trans M.a7;have J8:Hid (ag H wr.heap.size (c3 (.slice pa aJ pc) (.S f 0 1 ct)) 138/\∀j,j<8->World.cell? H ⟨k,j,none⟩=(jh op a (some (.a aA aR)) 1 gc (.S g 0 1 cap))[j]?):=⟨X _ _ _ _ rfl w.out.1,λj h=>(vam (M.2 k Uy.out (by have:=Uy.out;omega))).trans (w.out.2 j h)⟩;have R:Hid (J 1 H):=y;refine hK _ _ J8.out ?_;clear hK K y M X w Ed bl hy;refine js (i:=8) AU rfl λK hK=>?_;go_simp
    refine hK _ _ J8.out ?_;clear hK K;refine AK AU ?_ _;gi_wp2
    go_roundw
    case rel=>exact .inr ⟨rfl,Z,R.out,ud.out⟩
    case measure=>simp[intOf]
   .rw[Z]at ji;cases ji
  .gi_wp2
   go_end0
   exact⟨⟨_,rfl⟩,h2,.of h3⟩
def auH(op a:Int)(aA aR gc g cap:Nat)(pa:uad)(aJ pc f ct:Nat)(t:cV)(ht:ky t.sum)(w0:aH)(m U N:Nat)(k:∀j,j<8->w0.cell? (.a m j)=(jh op a (some (.a aA aR)) 1 gc (.S g 0 1 cap))[j]?)(Y:w0.cell? (.a U 0)=some (.I 0))(X:w0.cell? (.a N 0)=some (.I 1))(rk:1<=cap)(hk:w0.cell? (.a aA aR)=some (.I 2))(w:w0.cell? (.a aA (aR+1))=some (.I 0))(s:∀j,j<11->w0.cell? (.a f j)=(dB t)[j]?)(hg:∀j,j<18->w0.cell? (.a g j)=(c3 (.slice pa aJ pc) (.S f 0 1 ct))[j]?){Row:uao}(rK:iT 2 t=false):
 lI.Ux [{v:=.iface 64 (.slice pa aJ pc),recovered:=false}] n (aa prog false) 211 #[.P m 0,.P U 0,.P N 0] Row 0 w0.heap.size w0:=by
 intro l S J W H P O V h0;have ff:=Fj P O;clear O P;have y:=bm.b4 H;have oR:=y _ _ _ Y;have auF:=y _ _ _ X;have hq:=k 7 AX;simp only[jh,vdk,vdd,vde]at hq;have NW:=y _ _ _ hq;have M:Hid _:=And.intro k (And.intro hk (And.intro w (And.intro s hg)));have o9:Hid _:=V;have o:Hid (cC w0 W):=H;have N5:Hid (J 0 W):=h0;clear k hk w s hg V H y Y X hq h0;refine vdt N4 rfl trivial ?_ rfl;simp[vbb];gi_wp2
 gi_loopw [13] (λp wr=>p=.I 0/\wr=W) (λp _=>1-(intOf p).toNat)
 case atStart=>exact⟨rfl,rfl⟩
 case round=>
  obtain⟨rfl,rfl⟩:=hrel
  .obtain⟨k,hk,w,s,hg⟩:=M.out;have F:=bm.b4 o.out;have E:g<w0.heap.size:=dx (hg 0 AX);have z:m<w0.heap.size:=dx (k 0 AX);have D:f<w0.heap.size:=dx (s 0 AX);have I:Hid (∀j,j<18->wr.cell? (.a g (0+j))=(c3 (.slice pa aJ pc) (.S f 0 1 ct))[j]?):=λj k=>by rw[vby];exact(vam (o.out.block g E)).trans (hg j k)
   have Q:Hid (∀j,j<8->wr.cell? (.a m j)=(jh op a (some (.a aA aR)) 1 gc (.S g 0 1 cap))[j]?):=λj h=>(vam (o.out.block m z)).trans (k j h);have Z:Hid (∀j,j<11->wr.cell? (.a f j)=(dB t)[j]?):=λj k=>(vam (o.out.block f D)).trans (s j k);have B:Hid (wr.cell? (.a aA aR)=some (.I 2)/\wr.cell? (.a aA (aR+1))=some (.I 0)):=⟨F _ _ _ hk,F _ _ _ w⟩;have dr:g<wr.heap.size:=van E o.out.size;have Ei:Hid (m<wr.heap.size/\f<wr.heap.size):=⟨van z o.out.size,van D o.out.size⟩;have Uy:Hid (m<w0.heap.size):=z;clear k hk w s hg F M E z D;gi_wp2_with (with_reducible refine GR rfl ?_)
   unfold hJ;refine Up (b:=g) (d:=0) (pa:=pa) (aJ:=aJ) (pc:=pc) (ta:=some ⟨f,0,none⟩) (tl:=1) (cL:=ct) rfl rfl rfl I.out ?_;have bI:=ag.new wr (c3 (.N) (.N)) 138;gi_wp2_with (with_reducible refine J9 rfl ?_)
   unfold hJ;refine Ka (b:=wr.heap.size) (pa:=pa) (aJ:=aJ) (pc:=pc) (ta:=some ⟨f,0,none⟩) (tl:=1) (cL:=ct) rfl rfl rfl rfl rfl bI λA T k2 R=>?_;have u:Hid (cC wr A.drew):=(((vaa _ wr).alloc IB _).trans (R _ IB)).drew;have HC:Hid (ag A.drew wr.heap.size (c3 (.slice pa aJ pc) (.S f 0 1 ct)) 138/\∀j,j<8->World.cell? A.drew ⟨m,j,none⟩=(jh op a (some (.a aA aR)) 1 gc (.S g 0 1 cap))[j]?):=⟨ag.drew T,λj h=>(vam (u.out.block m Ei.out.1)).trans (Q.out j h)⟩;have t7:Hid _:=uQ op a aA aR gc (some (.a g 0)) 1 cap pa aJ pc f ct t ht A.drew (bm.b4 u.out _ _ _ B.out.1) (bm.b4 u.out _ _ _ B.out.2) (λj k=>(vam (u.out.block f Ei.out.2)).trans (Z.out j k));clear T k2 R bI I Q Z B;gi_wp2
   refine wpIn_region_any AU (AJ (C:=λr=>ag r wr.heap.size (c3 (.slice pa aJ pc) (.S f 0 1 ct)) 138/\∀j,j<8->World.cell? r ⟨m,j,none⟩=(jh op a (some (.a aA aR)) 1 gc (.S g 0 1 cap))[j]?) _ _ _ _ ?_);refine cR (i:=0) (v:=.func (.yield l) #[] #[]) rfl AU AU AU IG HC.out ⟨Av,λr q=>Ah,(λc h=>nomatch h),λ_=>rfl⟩ ?_;refine cR (i:=1) (v:=.P wr.heap.size 0) rfl AU AU AU IG HC.out ⟨Av,λr q=>Ah,(λc h=>nomatch h),λ_=>rfl⟩ ?_;refine cR (i:=3) (v:=eP op a (some (.a aA aR)) 1 gc (.S g 0 1 cap)) rfl AU AU AU IG HC.out ⟨Av,λr q=>by exact nW false rfl rfl q.2,(λc h=>nomatch h),λ_=>rfl⟩ ?_;refine cR (i:=4) (v:=oh (.slice pa aJ pc) (.S f 0 1 ct)) rfl AU AU AU IG HC.out ⟨Av,λr q=>by exact Uj false rfl rfl q.1 rfl rfl,(λc h=>nomatch h),λ_=>rfl⟩ ?_;refine cR (i:=2) (v:=.slice pa aJ pc) rfl AU AU AU IG HC.out ⟨Av,λr q=>by obtain⟨cK,c_,hX⟩:=q.1.all;go_simp,(λc h=>nomatch h),λ_=>rfl⟩ ?_;refine js (i:=5) AU rfl λK hK=>?_;go_simp
   refine⟨PA,λh=>BQ,(vea.2 t7.out).mono ?_⟩;rintro e w3 ⟨⟨x,-⟩|⟨-,rfl⟩,j1⟩
   .rw[rK]at x;cases x
   .have L:Hid (cC wr w3):=u.out.trans (j1.mono u.out.size);exact⟨rfl,rfl,ff _ _ _ N5.out L.out,L.out.mono o.out.size⟩
end bB
namespace bB
open RowKit Shelf av
section
attribute [local go_sem] Oper.semAt_some
def auI{Row:uao}{gf:Nat}{lb:dC}{N:Nat}(a5:N<=300)(w:aH)(g:Fv w.heap.size Row)(O:∀args w,(callFunc gf args).run (aa prog false) w=.ok (.enter gf args) w)(S:B0 (λe=>e=138) w.heap.size 2 (aa prog false) gf lb (λt _=>Row t) N w.heap.size w):
 Calls (aa prog false) 103 #[.func (.func gf) #[] lb] w λe w'=>∃v,e=.returned v/\wL Row w.heap.size N v w'/\cC w w':=by
 refine(vea (n:=3)).1 ?_;refine vcm Rc rfl trivial ?_;simp[vbb];gi_wp2
 have U:Boxed (w.alloc (.cells #[.N] 57)) w.heap.size 57 (.N):=Boxed.new w _ _;refine L3 (Y:=λe=>e=138) (X:=w.heap.size) (n:=3) (gf:=gf) (lb:=lb) (w0:=w) (n₀:=w.heap.size) (N:=N) (Row:=λt _=>Row t) rfl O S ((vaa _ w).alloc IB _) Ab (λ_=>False) AN
  (λt W=>∃v,Boxed W w.heap.size 57 v/\wL Row w.heap.size t v W)
  (λt W W' h hk _=>by
   obtain⟨v,A,y⟩:=h;exact⟨v,hk.cells _ _ _ _ A,y.nu g hk⟩)
  ⟨_,U,⟨[],rfl,vbo _ _ _ _,AN⟩⟩
  (λt x a' W=>∃f p aJ pc q d a,W.heap[f]?=some (Obj.cells #[.slice p aJ pc,.slice q d a] 67 (0,0))/\x=.agg #[.slice p aJ pc,.slice q d a]/\Row t W x/\∃z,a'={tmps:=#[.func (.func gf) #[] lb,undef,.N,.P w.heap.size 0,.P f 0,.func (.func gf) #[] lb,z,.U,.U,.U,.U,.U,.U,.U,.U],defers:=[]})
  (λt x a' W W' h hk _=>by
   obtain⟨f,p,aJ,pc,q,d,a,A,y,h3,h4⟩:=h;exact⟨f,p,aJ,pc,q,d,a,hk.cells _ _ _ _ A,y,g.keep _ _ _ _ h3 (.keep hk),h4⟩)
  ?assign ?body ?done
 case assign=>
  rintro l t x qo W K- - - -i hK;obtain⟨p,aJ,pc,q,d,a,rfl⟩:=g.shape _ _ _ i;gi_wp2
  have H:cC W (W.alloc (.cells #[.slice p aJ pc,.slice q d a] 67)):=(vaa _ W).alloc IB _;exact hK _ _ H ⟨W.heap.size,p,aJ,pc,q,d,a,vbm W _,rfl,g.keep _ _ _ _ i (.keep (.below H)),_,rfl⟩
 case body=>
  rintro l t x a' W ⟨v,hv,⟨xs,hlen,i,lB⟩⟩ hlt ⟨f,p,aJ,pc,q,d,a,C,rfl,hx,z,rfl⟩ T;obtain⟨V,hi,R,Q,P⟩:=vbt IC;have m:=hv.cell;have L:W.cell? (.a f 0)=some (.slice p aJ pc):=by simp[World.cell?,C]
  have g4:W.cell? (.a f 1)=some (.slice q d a):=by simp[World.cell?,C]
  gi_wp2_with (gi_at_builtin;apply qr)
  unfold hJ;refine wpListIn_append_own _ rfl _ _ 57 rfl w.heap.size 67 V _ 2 48 ((qc _ _ _).trans underlying57) hi R Q P rfl AX v t (two xs) rfl (i.alloc _) ⟨W.heap.size,0,none⟩ 1 1 [.slice p aJ pc,.slice q d a] rfl rfl ?cel ?one B_ AY BC ?_
  case cel=>
   have kn:=vbm W (.cells #[.slice p aJ pc,.slice q d a] 67);intro j u k;rcases j with _ | _ |j
   .simp at k;subst k;show World.cell? _ ⟨W.heap.size,0,none⟩=_;simp_all
   .simp at k;subst k;show World.cell? _ ⟨W.heap.size,1,none⟩=_;simp_all
   grind
  case one=>
   intro u F;simp at F;rcases F with rfl|rfl<;>rfl
  intro v' w1 s r _;obtain⟨g',cap',rfl⟩:=vdj s;obtain⟨B,E,M,I,J⟩:=hv.appended AX i T IB s r;have o:=Me (.S g' 0 (t+1) cap') hv i r IB;have km:=B.cell;have nZ:=B.frozen;have Fw:¬(300:Int)<(t:Int)+1:=AY;have dU:Hid (qn W (w1.setCell ⟨w.heap.size,0,none⟩ (.S g' 0 (t+1) cap'))/\hU w.heap.size w.heap.size W (w1.setCell ⟨w.heap.size,0,none⟩ (.S g' 0 (t+1) cap'))/\oL (λe=>e=138) W (w1.setCell ⟨w.heap.size,0,none⟩ (.S g' 0 (t+1) cap'))/\∃v,Boxed (w1.setCell ⟨w.heap.size,0,none⟩ (.S g' 0 (t+1) cap')) w.heap.size 57 v/\wL Row w.heap.size (t+1) v (w1.setCell ⟨w.heap.size,0,none⟩ (.S g' 0 (t+1) cap'))):=by
   refine⟨.of I,.of J,λb c e z Z hb=>o b c e z hb (.inr (by subst Z;decide)),_,E,⟨xs++[(.slice p aJ pc,.slice q d a)],AN,?_,λj k=>?_⟩⟩
   .grind[Re]
   .by_cases D:j<xs.length
    .rw[vdb D];exact g.keep _ _ _ _ (lB j D) o
    .have ID:j=xs.length:=by grind
     subst ID;simp;rw[hlen];exact g.keep _ _ _ _ hx o
  clear s r i hv m L g4 C B o E M I J;gi_wp2
  exact dU.out
 case done=>
  rintro W ⟨v,hv,hl⟩ hB hK;have m:=hv.cell;gi_wp2
  refine⟨Ab,.inl ⟨_,_,rfl,vcw hK,?_⟩⟩;refine⟨_,results_tmp rfl _ _ _,v,rfl,hl.nu g (B9 hK),?_⟩;exact(((vaa _ w).alloc IB _).trans hB.a7).trans (pC _ Ab)
end
section
open cv
attribute [local go_sem] Oper.semAt_some
def auJ:(aa prog false).funcs[(124:Nat)]?=some f124:=bo (upd:=false) func124 AT
def auK:fG prog false f89=true:=by decide+kernel
def nH(bH n₀:Nat)(p aZ:Value)(t:Nat)(W:aH):Prop:=(t=0/\Boxed W bH 133 (.N))\/(t=1/\∃g cap,Boxed W bH 133 (.S g 0 1 cap)/\W.ownsRow n₀ 138 18 (.S g 0 1 cap) 1 (c3 p aZ).toList)
def auL{pa ta:uad}{aJ pc tl cL bI k f:Nat}(w:aH)(i:w.cell? (.a bI 0)=some (.S k 0 1 f))(F:∀j,j<18->w.cell? (.a k j)=(c3 (.slice pa aJ pc) (.slice ta tl cL))[j]?):
 Calls (aa prog false) 124 #[.func (.func 89) #[] #[.P bI 0]] w λe w'=>∃g cap,e=.returned (.S g 0 1 cap)/\w'.ownsRow w.heap.size 138 18 (.S g 0 1 cap) 1 (c3 (.slice pa aJ pc) (.slice ta tl cL)).toList/\cC w w':=by
 have V:k<w.heap.size:=dx (F 0 AX);have P:=λn=>wN (u:=false) (Y:=λ_=>False) (n:=n) (λ_=>.slice pa aJ pc) (λ_=>.slice ta tl cL) 1 k f bI w.heap.size w AY (λt ht j hj=>BB) (λt _=>⟨⟨_,_,_,rfl⟩,⟨_,_,_,rfl⟩⟩) i AX;clear i F V;refine(vea (n:=3)).1 ?_;refine vcm auJ rfl trivial ?_;simp[vbb];gi_wp2
 have T:Boxed (w.alloc (.cells #[.N] 133)) w.heap.size 133 (.N):=Boxed.new w _ _;refine L3 (Y:=λ_=>False) (X:=w.heap.size) (n:=3) (gf:=89) (lb:=#[.P bI 0]) (w0:=w) (n₀:=w.heap.size) (N:=1) (Row:=Uq (λ_=>.slice pa aJ pc) (λ_=>.slice ta tl cL) w.heap.size w.heap.size w) rfl (λargs w=>cN (Uo false) auK args w) (P _) ((vaa _ w).alloc IB _) Ab (λ_=>False) AN
  (nH w.heap.size w.heap.size (.slice pa aJ pc) (.slice ta tl cL)) ?hI (.inl ⟨rfl,T⟩)
  (λt x a' W=>∃a,ag W a (c3 (.slice pa aJ pc) (.slice ta tl cL)) 138/\w.heap.size<=a/\∃z,a'={tmps:=#[.func (.func 89) #[] #[.P bI 0],undef,.N,.P w.heap.size 0,.P a 0,.func (.func 89) #[] #[.P bI 0],z,.U,.U,.U,.U,.U,.U,.U,.U],defers:=[]})
  ?hAx ?assign ?body ?done
 case hI=>
  rintro t W W' (⟨rfl,h⟩|⟨rfl,g,cap,h,h'⟩) hk-
  .exact .inl ⟨rfl,hk.cells _ _ _ _ h⟩
  .exact .inr ⟨rfl,g,cap,hk.cells _ _ _ _ h,Kb h' hk⟩
 case hAx=>
  rintro t x a' W W' ⟨a,i,H,Z⟩ hk-;exact⟨a,hk.cells _ _ _ _ i,H,Z⟩
 case assign=>
  rintro l t x qo W K Ir xB hi q ⟨rfl,g4,-⟩ hK;have bI:=ag.new W (c3 (.N) (.N)) 138;gi_wp2_with (with_reducible refine J9 rfl ?_)
  unfold hJ;refine Ka (b:=W.heap.size) (pa:=pa) (aJ:=aJ) (pc:=pc) (ta:=ta) (tl:=tl) (cL:=cL) rfl rfl rfl rfl rfl bI λW2 S R B=>?_;have m:cC W W2:=((vaa _ W).alloc IB _).trans (B _ IB);clear R B bI;gi_wp2
  exact hK _ _ m ⟨W.heap.size,S,g4.1.size,_,rfl⟩
 case body=>
  rintro l t x a' W hI q ⟨a,I,ld,z,rfl⟩ D;obtain rfl:t=0:=AY;obtain c:Boxed W w.heap.size 133 (.N):=by
   rcases hI with⟨-,h⟩|⟨h,-⟩
   .exact h
   .omega
  obtain⟨U,hi,O,M,L⟩:=vbt (Ui false);have d:=c.cell;have A:Hid _:=I;have o:Hid (Boxed W w.heap.size 133 (.N)):=c;have y:Hid (w.heap.size<=W.heap.size):=D;clear hI I c D;gi_wp2_with (with_reducible refine GR rfl ?_)
  unfold hJ;refine Uk (b:=a) (pa:=pa) (aJ:=aJ) (pc:=pc) (ta:=ta) (tl:=tl) (cL:=cL) rfl rfl rfl A.out ?_;refine vk (pa:=pa) (aJ:=aJ) (pc:=pc) (ta:=ta) (tl:=tl) (cL:=cL) rfl rfl rfl ?_;refine wpListIn_append_own _ rfl _ _ 133 rfl w.heap.size 138 U _ 18 208 ((qc _ _ _).trans underlying133) hi O M L rfl AX (.N) 0 [] rfl (vbo _ _ _ _) ⟨W.heap.size,0,none⟩ 1 1 (c3 (.slice pa aJ pc) (.slice ta tl cL)).toList rfl rfl ?cel (Uh _ _ _ _ _ _) B_ AY (by have H:=y.out;simp;omega) ?_
  case cel=>
   simp_all[vda]
  intro v' w1 p v _;obtain⟨g',cap',rfl⟩:=vdj p;obtain⟨r,C,s,J,m⟩:=Boxed.appended (o.out:Boxed W w.heap.size 133 (.N)) AX (vbo W w.heap.size 138 18) y.out IB p v;have km:=r.cell;have nZ:=r.frozen;have dU:Hid (qn W (w1.setCell ⟨w.heap.size,0,none⟩ (.S g' 0 (0+1) cap'))/\hU w.heap.size w.heap.size W (w1.setCell ⟨w.heap.size,0,none⟩ (.S g' 0 (0+1) cap'))/\oL (λ_=>False) W (w1.setCell ⟨w.heap.size,0,none⟩ (.S g' 0 (0+1) cap'))/\nH w.heap.size w.heap.size (.slice pa aJ pc) (.slice ta tl cL) (0+1) (w1.setCell ⟨w.heap.size,0,none⟩ (.S g' 0 (0+1) cap'))):=
   ⟨.of J,.of m,λ_ _ _ _ h=>h.elim,.inr ⟨rfl,g',cap',C,s⟩⟩
  clear C s J m p v r d A o;gi_wp2
  exact dU.out
 case done=>
  rintro W hI c hK;obtain⟨g,cap,hv,E⟩:∃g cap,Boxed W w.heap.size 133 (.S g 0 1 cap)/\W.ownsRow w.heap.size 138 18 (.S g 0 1 cap) 1 (c3 (.slice pa aJ pc) (.slice ta tl cL)).toList:=by
   rcases hI with⟨h,-⟩|⟨-,h⟩
   .omega
   grind
  have d:=hv.cell;have Q:Hid _:=E;have o:Hid (hU w.heap.size w.heap.size _ W):=c;rw[vce]at hK;clear E hI c;gi_wp2
  refine⟨Ab,.inl ⟨_,_,rfl,vcw hK,?_⟩⟩;exact⟨_,results_tmp rfl _ _ _,g,cap,rfl,Kb Q.out (B9 hK),(((vaa _ w).alloc IB _).trans (hU.a7 o.out)).trans (pC _ AY)⟩
end
end bB
namespace bB
open Conc ConcM RowKit av cv bn ae ej fY eW gH dv
def AW:Value->Bool
 | .bool _=>true
 | .int _ _=>true
 | .string _=>true
 | _=>false
variable{ρ:Ren}{v v':Value}
theorem Ej(h:ap ρ v v')(a:AW v=true):v'=v:=by cases h<;>simp_all[AW]
def auM{c b:dC}(h:aL ρ c b)(d:∀(i:Nat) v,c[i]?=some v->AW v=true):b=c:=by apply vch;intro i;cases a:c[i]? with|none=>exact h.none a|some v=>obtain⟨v',f,e⟩:=h.some a;grind[Ej]
theorem N7(t:cV):∀(i:Nat) v,(dB t)[i]?=some v->AW v=true:=by intro i v h;have:v∈(dB t).toList:=AN;simp[dB]at this;rcases this with h|h|h|h|h|h|h|h|h|h|h<;>(subst h;rfl)
def GY{g n c:Nat}{x:Value}(h:ap ρ (.S g 0 n c) x):∃g',x=.S g' 0 n c/\ρ.rel g g':=by cases h with|slice _ _ r=>rename_i a';obtain⟨f,d,e⟩:=a';obtain⟨r1,b,a⟩:=r;grind
def nx{f:ual}{b1:Nat}(h:ap ρ (.func (.func f) #[] #[.P b1 0]) v):∃c1,v=.func (.func f) #[] #[.P c1 0]/\dq ρ ⟨b1,0,none⟩ ⟨c1,0,none⟩:=by cases h with|@func fn k a a' b j e g c o i=>cases e;obtain⟨l⟩:=a';obtain⟨m⟩:=j;simp only[List.size_toArray,List.length_nil,List.length_cons]at g c;have d:l=[]:=AN;subst d;match m,c with| [x],_=>obtain⟨c1,rfl,n⟩:=Mj (i 0 _ x U U);grind
def Uz(p t a:Value):∀j,j<18->j≠0->j≠17->∃v,(c3 p t)[j]?=some v/\(c3 p a)[j]?=some v/\AW v=true
 |0,_,h,_=>absurd U h
 |1,_,_,_=>⟨_,U,U,U⟩
 |2,_,_,_=>⟨_,U,U,U⟩
 |3,_,_,_=>⟨_,U,U,U⟩
 |4,_,_,_=>⟨_,U,U,U⟩
 |5,_,_,_=>⟨_,U,U,U⟩
 |6,_,_,_=>⟨_,U,U,U⟩
 |7,_,_,_=>⟨_,U,U,U⟩
 |8,_,_,_=>⟨_,U,U,U⟩
 |9,_,_,_=>⟨_,U,U,U⟩
 |10,_,_,_=>⟨_,U,U,U⟩
 |11,_,_,_=>⟨_,U,U,U⟩
 |12,_,_,_=>⟨_,U,U,U⟩
 |13,_,_,_=>⟨_,U,U,U⟩
 |14,_,_,_=>⟨_,U,U,U⟩
 |15,_,_,_=>⟨_,U,U,U⟩
 |16,_,_,_=>⟨_,U,U,U⟩
 |17,_,_,h=>absurd U h
 |n+18,h,_,_=>absurd h AY
variable{w w':aH}
def Kh(z:∀a b p,ρ.rel a b->ρ.rel a p->b=p)(u:Carry ρ w w'){g g' d e ct:Nat}(hg:ρ.rel g g'){b o n k:Nat}(C:ρ.rel b b)(h:∀j,j<18->w.cell? (.a g (d+j))=(c3 (.S b o n k) (.S e 0 1 ct))[j]?):
 ∃c,ρ.rel e c/\∀j,j<18->w'.cell? (.a g' (d+j))=(c3 (.S b o n k) (.S c 0 1 ct))[j]?:=by
 have m:∀j v,j<18->(c3 (.S b o n k) (.S e 0 1 ct))[j]?=some v->∃v',w'.cell? (.a g' (d+j))=some v'/\ap ρ v v':=λj v i hv=>u ⟨g,d+j,none⟩ ⟨g',d+j,none⟩ v ⟨hg,U,U⟩ ((h j i).trans hv);obtain⟨x,t,f⟩:=m 17 (.S e 0 1 ct) AX U;obtain⟨c,rfl,q⟩:=GY f;refine⟨c,q,λj i=>?_⟩;by_cases h0:j=0
 .subst h0;obtain⟨y,s,f⟩:=m 0 (.S b o n k) AX U;rw[s];cases f with|slice _ _ r=>rename_i a';obtain⟨J,H,I⟩:=a';obtain⟨r1,B,A⟩:=r;grind
 by_cases l:j=17
 .subst l;exact t
 obtain⟨v,F,E,D⟩:=Uz (.S b o n k) (.S e 0 1 ct) (.S c 0 1 ct) j i h0 l;grind[Ej]
def GZ(a2:c5)(R:uao):Prop:=∀(ρ:Ren)(w w':aH)(v v':Value)(aq:Nat),(∀b,a2 b->ρ.rel b b)->(∀a b b',ρ.rel a b->ρ.rel a b'->b=b')->Carry ρ w w'->ap ρ v v'->R aq w v->∃fi,ρ.rel aq fi/\R fi w' v'
def G0(p:Value)(aq:Nat)(w:aH)(v:Value):Prop:=∃g cap ct,v=.S g 0 1 cap/\∀j,j<18->w.cell? (.a g j)=(c3 p (.S aq 0 1 ct))[j]?
theorem auN{a2:c5}{b o n k:Nat}(h:a2 b):GZ a2 (GV (.S b o n k)):=by rintro ρ w w' v v' s hK m c hv ⟨bI,g,cap,ct,rfl,l,i⟩;obtain⟨c1,rfl,f⟩:=nx hv;obtain⟨x,a1,q⟩:=c _ _ _ f l;obtain⟨g',rfl,hg⟩:=GY q;obtain⟨p,e,r⟩:=Kh m c (d:=0) hg (hK b h) (λj a=>by rw[vby];exact i j a);exact⟨p,e,c1,g',cap,ct,U,a1,λj a=>AN⟩
theorem auO{a2:c5}{b o n k:Nat}(f:a2 b):GZ a2 (G0 (.S b o n k)):=by rintro ρ w w' v v' p hK i e hv ⟨g,cap,ct,rfl,h⟩;obtain⟨g',rfl,hg⟩:=GY hv;obtain⟨l,c,m⟩:=Kh i e (d:=0) hg (hK b f) (λj a=>by rw[vby];exact h j a);exact⟨l,c,g',cap,ct,U,λj a=>AN⟩
variable{t:cV}
theorem gL.carry{C:cy}{S:Sync}{d a:Nat}(f:eo C S ρ w w')(g:ρ.rel d a)(h:gL w d t):gL w' a t:=by obtain⟨⟨fr,l⟩,k⟩:=h;obtain⟨o,o',b,n,m⟩:=f.obj _ _ g;rw[l]at b;cases b;cases m with|@cells c s _ _ e j i=>have:=auM j (N7 t);subst this;refine⟨⟨e,n⟩,λoff=>?_⟩;have r:=k off;obtain⟨lo,hi⟩:=fr;obtain⟨u,p⟩:=e;have q:=i.1 off;grind[World.frozen?,wa]
def xd(C:cy)(B:Nat)(a2 X:c5)(R:uao)(l_:cV)(u:Value)(M:c5)(w:aH):Prop:=
 ∃(aq:Nat)(G:c5),(∀b,G b->M b/\¬X b)/\eA C (λb=>a2 b\/G b) bE w/\ap (c8 (λb=>a2 b\/G b) bE) u u/\R aq w u/\G aq/\gL w aq l_/\B<=aq
variable{l_:cV}
section
variable{C:cy}{B:Nat}{a2 X:c5}
theorem xd.mono{R:uao}(n:GZ a2 R){u:Value}{M M':c5}(h:xd C B a2 X R l_ u M w)(s:∀b,a2 b\/M b->w'.heap[b]?=w.heap[b]?)(q:∀b,M b->M' b):xd C B a2 X R l_ u M' w':=by obtain⟨e,G,g,c,f,m,i,o,j⟩:=h;have d:∀b,a2 b\/G b->w'.heap[b]?=w.heap[b]?:=AN;obtain⟨p,⟨rfl,-⟩,k⟩:=n (c8 (λb=>a2 b\/G b) bE) _ _ _ _ e (λb l=>⟨U,.inl l⟩) (λa b r g c=>g.1.symm.trans c.1) (py d c) f m;exact⟨e,G,AN,mS c d,f,k,i,o.same (d e (.inr i)),j⟩
def xX.nh{G:c5}{R:fE}{j M':c5}{w1:aH}(h:xX C a2 G w R v' j w' ρ w1 v)(q:∀b,j b->M' b/\¬X b){Q:uao}(n:GZ a2 Q){e:Nat}(o:Q e w1 v)(ht:∀c,ρ.rel e c->¬a2 c/\gL w' c l_/\B<=c):xd C B a2 X Q l_ v' M' w':=by
 obtain⟨S,f⟩:=h.world;have i:(λb=>a2 b\/((∃a,ρ.rel a b)/\¬a2 b))=λb=>∃a,ρ.rel a b:=by
  funext b
  apply propext;constructor
  .rintro(d|d)
   .exact⟨b,h.le.1 b b ⟨U,.inl d⟩⟩
   grind
  grind
 obtain⟨c,g,hq⟩:=n ρ w1 w' v v' e (λb d=>h.le.1 b b ⟨U,.inl d⟩) f.one f.carry h.val o;obtain⟨m,l,k⟩:=ht c g;refine⟨c,λb=>(∃a,ρ.rel a b)/\¬a2 b,λb d=>?_,?_,?_,hq,⟨⟨e,g⟩,m⟩,l,k⟩
 .obtain⟨⟨a,p⟩,hk⟩:=d;exact q b ((h.dom a b p).resolve_left hk)
 .rw[i];exact f.closed bE
 .rw[i];exact ap.right (σ:=c8 (λb=>∃a,ρ.rel a b) bE) (λa b r=>⟨U,a,r⟩) h.val
end
def auP:fG prog false f202=true:=by decide+kernel
def auQ:fG prog false f124=true:=by decide+kernel
structure ue(w:aH)(xs:uay)(vs:Nat->dM)(cf dV aA aR:Nat):Prop where
 cell:∀j u,(two xs)[j]?=some u->w.cell? (.a cf (dV+j))=some u
 row:∀i(h:i<xs.length),(∃a l c,xs[i].1=.slice a l c)/\n2 w xs[i].2 [vs i]
 kind:w.cell? (.a aA aR)=some (.I 2)
 jK:w.cell? (.a aA (aR+1))=some (.I 0)
variable{xs:uay}
def ue.keeps{vs:Nat->dM}{a dV aA aR:Nat}(h:ue w xs vs a dV aA aR)(hk:bm w w'):ue w' xs vs a dV aA aR:=
 ⟨λj u e=>hk _ _ _ (h.cell j u e),λi hi=>⟨(h.row i hi).1,bw.mono Ca hk (h.row i hi).2⟩,hk _ _ _ h.kind,hk _ _ _ h.jK⟩
def auR{C:cy}{D:c5}(c:eA C D bE w){b d:Nat}(a:D b)(h:w.cell? (.a b d)=some v):ap (c8 D bE) v v:=by obtain⟨v',f,e⟩:=py (λ_ _=>U) c ⟨b,d,none⟩ ⟨b,d,none⟩ v ⟨⟨U,a⟩,U,U⟩ h;grind
def UA{D:c5}{a:uad}{l c:Nat}{x:Value}(h:ap (c8 D bE) (.slice a l c) x):x=.slice a l c:=by cases h with|h7=>rfl|slice _ _ r=>rename_i a a';obtain⟨k,g,i⟩:=a;obtain⟨d,j,b⟩:=a';obtain⟨r1,f,e⟩:=r;have:=r1.1;grind
def ue.same{C:cy}{D:c5}{vs:Nat->dM}{p dV aA aR:Nat}(h:ue w xs vs p dV aA aR)(s:eA C D bE w)(k:Carry (c8 D bE) w w')(r:D p)(q:D aA):ue w' xs vs p dV aA aR:=by
 have t:∀(b:Nat)(d:Nat)(a:uad)(l c:Nat),D b->w.cell? (.a b d)=some (.slice a l c)->w'.cell? (.a b d)=some (.slice a l c):=by intro b d a l c m g;obtain⟨v',o,n⟩:=k ⟨b,d,none⟩ ⟨b,d,none⟩ _ ⟨⟨U,m⟩,U,U⟩ g;rw[o,UA n]
 have f:∀(b:Nat)(d:Nat)(z:Int),D b->w.cell? (.a b d)=some (.I z)->w'.cell? (.a b d)=some (.I z):=by intro b d z m g;obtain⟨v',o,n⟩:=k ⟨b,d,none⟩ ⟨b,d,none⟩ _ ⟨⟨U,m⟩,U,U⟩ g;rw[o,Ej n U]
 refine⟨λj u e=>?_,λi hi=>⟨(h.row i hi).1,?_⟩,f _ _ _ q h.kind,f _ _ _ q h.jK⟩
 .obtain⟨i,hi,⟨rfl,rfl⟩|⟨rfl,rfl⟩⟩:=Ro _ _ _ e
  .obtain⟨⟨a,l,c,v⟩,-⟩:=h.row i hi;have:=h.cell _ _ e;grind
  .obtain⟨-,y,x,hv,-,-⟩:=h.row i hi;have:=h.cell _ _ e;grind
 .exact av.bw.carry YB k (auR s r (h.cell _ _ (IH xs i hi).2)) (h.row i hi).2
def G1(aU:Nat->cV)(N:Nat):Prop:=∀k,k<N->(aU k).held≠0/\ky (aU k).sum/\(lf aU k).held≠0/\ky (lf aU k).sum/\(k+1<N->jf ((lf aU k).held+(aU (k+1)).held))
def sM(vs:Nat->dM)(fr dG:Nat):cV:=lf (λk=>lG (vs (fr+k))) (dG-fr-1)
def m_(xs:uay)(fr:Nat):Value:=(xs.getD fr (undef,undef)).1
variable{fK:Value}{bO:aH}{a:Int}
def auS{Stop:Bool->ae.Lo At->aV->Prop}{c:db}{a2:c5}{B:Nat}(hB:B<=bO.heap.size)(I:∀b,a2 b->c.K b)(hg:∀g,g<=prog.globals.size->a2 g)(O:eA (cm prog false) (λb=>a2 b\/bE b) bE bO){op:Int}{vs:Nat->dM}{z dV cc aA aR gc:Nat}{fr dG:uas}(mE:ue bO xs vs z dV aA aR)(m4:a2 z)(qL:a2 aA)(W:xs.length<=cc)(NV:xs.length<=1000000)(vV:∀i,jf (vs i).num)(ji:∀T,c.bad T=false)(UB:ap (c8 (λb=>a2 b\/bE b) bE) (eP op a (some (.a aA aR)) 1 gc (.S z dV xs.length cc)) (eP op a (some (.a aA aR)) 1 gc (.S z dV xs.length cc)))(hinv:∀(args:dC)(w:aH),(callMethod fK "Piece" args).run prog w=.ok (.enter 202 (#[eP op a (some (.a aA aR)) 1 gc (.S z dV xs.length cc)]++args)) w/\(callMethod fK "Piece" args).events prog w #[]=#[])(gS:∀i(h:i<xs.length),∃b o n k,xs[i].1=.S b o n k/\a2 b)(tI:∀T,T<c.N->fr T<dG T/\dG T<=xs.length)(hok:∀T,T<c.N->G1 (λk=>lG (vs (fr T+k))) (dG T-fr T))(lB:∀T,T<c.N->c.rows T=1):
 q8 c bO prog Stop 124 fK 202 (eP op a (some (.a aA aR)) 1 gc (.S z dV xs.length cc)) fr dG
  (λT u M w=>T<c.N/\xd (cm prog false) B a2 c.K (GV (m_ xs (fr T))) (sM vs (fr T) (dG T)) u M w) (λT v M w=>T<c.N/\xd (cm prog false) B a2 c.K (G0 (m_ xs (fr T))) (sM vs (fr T) (dG T)) v M w):=by
 have Ki:∀T,T<c.N->∃b o n k,m_ xs (fr T)=.S b o n k/\a2 b:=λT m=>by grind[m_]
 have UC:∀T,T<c.N->GZ a2 (GV (m_ xs (fr T))):=λT m=>by grind[auN]
 have F:∀T,T<c.N->GZ a2 (G0 (m_ xs (fr T))):=λT m=>by grind[auO]
 refine⟨hinv,λT l M w0 m U hk hI=>?_,λT l M w0 u X nR m U hk hI hm=>?_,λT v M w d h=>?_,.Xv ji,λT v M w M' w' h Z cX=>⟨h.1,xd.mono (F T h.1) h.2 AN cX⟩⟩
 .have Z:∀b,a2 b\/bE b->w0.heap[b]?=bO.heap[b]?:=λb d=>hI.1 b (I b (d.resolve_right (λx=>x)));have N:=mS O Z;refine io.mono (XA jQ rfl func202 auP rfl AT U (G:=bE) (M:=M) I (λb h=>h.elim) hg (R:=λt v w1=>∃f,GV (m_ xs (fr T)) f w1 v/\gL w1 f (sM vs (fr T) (dG T))/\t.heap.size<=f) (kO λv hv=>?_) N (λw q t C K=>?_)) ?_
  .simp at hv;rcases hv with rfl|rfl|rfl
   .grind
   .exact .int _ _
   .exact .int _ _
  .have s:=(mE.same O (py (λb d=>(q b d).trans (Z b d)) O) (.inl m4) (.inl qL)).same (mS N q) (C.carry (mS N q)) (.inl m4) (.inl qL);have p:=s.keeps (Ak t K);obtain⟨f1,f2⟩:=tI T m;refine(auz op a xs vs z dV cc aA aR gc (fr T) (dG T) {t with tape:=K} p.cell p.row W f1 f2 NV vV p.kind p.jK (hok T m)).mono ?_;rintro e w' ⟨v,f,rfl,Q,P,H⟩;exact⟨v,rfl,f,Q,P,H⟩
  .rintro u bk ⟨iN,M',w',⟨w,t,ρ,w1,v,q,C,r⟩,y,A,rfl⟩;obtain⟨f,Q,P,H⟩:=r.post;refine⟨M',w',A,⟨m,xX.nh r (λb d=>⟨⟨(y b d).1,(y b d).2.resolve_left id⟩,λx=>A.gQ.r8 b (y b d).1 x⟩) (UC T m) Q λL D=>?_⟩,rfl⟩;obtain⟨S,J⟩:=r.world;have hsz:B<=L:=by have s:=q.2;have p:=hI.2;rw[C.size]at H;rcases r.old _ _ D with rfl|h<;>omega
   replace q:=q.1;refine⟨λd=>?_,P.carry J D,hsz⟩;have e:=J.inj _ _ _ D (r.le.1 L L ⟨rfl,.inl d⟩);subst e;obtain⟨o,V,-⟩:=N f (.inl d);have:=jk ((q f (.inl d)).trans V);rw[C.size]at H;omega
 .obtain⟨-,f,G,s,p,h3,h4,Y,b6,il⟩:=hm;refine Qm (LP (E:=λ_=>True) jQ rfl func124 auQ rfl AT U (λ_ _ _ _=>trivial) (G:=G) (M:=M) I AN hg (R:=λ_ e w1=>∃v,e=.returned v/\G0 (m_ xs (fr T)) f w1 v) (kO λv hv=>?_) (λ_ e _ h=>?_) p (λw q t C K=>?_)) ?_
  .grind
  .grind
  .have bP:=mS p q;obtain⟨b1,⟨rfl,-⟩,m1⟩:=UC T m (c8 (λb=>a2 b\/G b) bE) _ _ _ _ f Jt (λa b b' s p=>s.1.symm.trans p.1) (py q p) h3 h4;obtain⟨b2,⟨rfl,-⟩,bI,g,cap,ct,rfl,om,BM⟩:=UC T m (c8 (λb=>a2 b\/G b) bE) _ _ _ _ f Jt (λa b b' s p=>s.1.symm.trans p.1) (C.carry bP) h3 m1;obtain⟨b,o,n,k,e,d⟩:=Ki T m;rw[e]at BM⊢;refine(auL {t with tape:=K} om BM).mono ?_;rintro e w' ⟨g',cap',rfl,V,-⟩;exact⟨_,rfl,g',cap',ct,rfl,λj hj=>(Ke V j hj).trans AN⟩
  .rintro e' bk ⟨iN,M',w',⟨w,t,ρ,w1,e,_,_,r⟩,y,A,rfl⟩;refine⟨M',w',rfl,M',w',A,?_,rfl⟩;obtain⟨v,rfl,hv⟩:=r.post;refine .inl ⟨ji T,?_⟩;cases he:r.val with|ret hv'=>refine⟨_,rfl,m,xX.nh (z5.ret r) (λb d=>⟨(y b d).2.elim (λx=>.inl (s b x).1) λx=>.inr ⟨(y b d).1,x⟩,λx=>A.gQ.r8 b (y b d).1 x⟩) (F T m) hv λL D=>?_⟩;obtain⟨S,J⟩:=r.world;have e:=J.one _ _ _ D (r.le.1 f f ⟨rfl,.inr Y⟩);subst e;exact⟨λd=>(s _ Y).2 (I _ d),b6.same (A.rw.heap _ (.inr (nR _ (s _ Y).1))),il⟩
 .obtain⟨m,f,G,_,_,_,⟨g,cap,ct,rfl,-⟩,_,_,_⟩:=h;grind
def auV{Stop:Bool->ae.Lo At->aV->Prop}{c:db}{a2:c5}(q:∀b,a2 b->c.K b)(hg:∀g,g<=prog.globals.size->a2 g)(n:eA (cm prog false) (λb=>a2 b\/bE b) bE bO)(K:∀T,c.bad T=true->c.least=.N)(lB:∀T,T<c.N->c.bad T=true->c.rows T=0){p:Nat->Int}(t:∀T,T<c.N->c.bad T=true->∃b o k,c.place T=.S b o 1 k/\a2 b/\bO.cell? (.a b o)=some (.I (p T)))(J:∀T d,T<c.N->c.bad T=true->d<c.N->c.bad d=true->(p T<p d↔T<d)):E7 c bO prog Stop 116:=by
 refine⟨λT _ h=>K T h,lB,λT i a=>AN,λT d i a D u l M w1 E S P hk hI=>?_⟩;obtain⟨b,o,k,e,U,Z⟩:=t T i a;obtain⟨b',o',k',O,m,L⟩:=t d D u;rw[e,O];have C:∀b,a2 b\/bE b->w1.heap[b]?=bO.heap[b]?:=λb a=>hI.1 b (q b (a.resolve_right (λx=>x)));have j:=mS n C;refine(LP jQ rfl func116 lI.m6 rfl AT S P (G:=bE) (M:=M) q (λb h=>h.elim) hg (R:=λ_ e _=>∃z:Int,e=.returned (.I z)/\(z<0↔p T<p d)) (kO λv hv=>?_) (λ_ e _ h=>AN) j (λw r B Q N=>?_)).ret ?_
 .simp at hv;rcases hv with rfl|rfl
  .exact .slice _ _ ⟨⟨rfl,.inl U⟩,rfl,rfl⟩
  .exact .slice _ _ ⟨⟨rfl,.inl m⟩,rfl,rfl⟩
 .have look:∀b o(z:Int),a2 b->bO.cell? (.a b o)=some (.I z)->({B with tape:=N}:aH).cell? (.a b o)=some (.I z):=by intro b o z a f;obtain⟨X,a1,r1⟩:=py C n ⟨b,o,none⟩ ⟨b,o,none⟩ _ ⟨⟨rfl,.inl a⟩,rfl,rfl⟩ f;rw[r1.px]at a1;obtain⟨W,A,H⟩:=py r j ⟨b,o,none⟩ ⟨b,o,none⟩ _ ⟨⟨rfl,.inl a⟩,rfl,rfl⟩ a1;rw[H.px]at A;obtain⟨V,y,F⟩:=Q.carry (mS j r) ⟨b,o,none⟩ ⟨b,o,none⟩ _ ⟨⟨rfl,.inl a⟩,rfl,rfl⟩ A;rw[F.px]at y;exact y
  grind[lI.auU]
 .rintro e2 bk ⟨Y,M',w',⟨w,B,ρ,w2,e3,-,-,s⟩,-,I,rfl⟩;obtain⟨z,rfl,f⟩:=s.post;cases s.val with|ret hv=>rw[hv.px];exact⟨_,rfl,z,rfl,f.trans (J T d i a D u),M',w',I,rfl⟩
def auX:(aa prog false).funcs[(209:Nat)]?=some f209:=bo (upd:=false) func209 AT
def auY:fG prog false f209=true:=by decide+kernel
def mY:fG prog false f211=true:=by decide+kernel
structure na(w:aH)(aA aR g aq ct bD b7 b3:Nat)(ef:Int)(t:cV):Prop where
 kind:w.cell? (.a aA aR)=some (.I 2)
 jK:w.cell? (.a aA (aR+1))=some (.I 0)
 l_:∀j,j<11->w.cell? (.a aq j)=(dB t)[j]?
 zr:∀j,j<18->w.cell? (.a g j)=(c3 (.S bD b7 1 b3) (.S aq 0 1 ct))[j]?
 place:w.cell? (.a bD b7)=some (.I ef)
def UE(a2:c5)(v:Value):Prop:=AW v=true\/(∃l c,v=.slice none l c)\/∃b o l c,v=.S b o l c/\a2 b
theorem mW{a2:c5}(hK:∀b,a2 b->ρ.rel b b)(i:∀a b d,ρ.rel a b->ρ.rel a d->b=d)(h:ap ρ v v')(hv:UE a2 v):v'=v:=by
 rcases hv with hv|⟨l,c,rfl⟩|⟨b,o,l,c,rfl,g⟩
 .exact Ej h hv
 .cases h;rfl
 .cases h with|slice _ _ r=>rename_i a';obtain⟨m,j,k⟩:=a';obtain⟨r1,f,e⟩:=r;grind
variable{ef:Int}
theorem na.carry{a2:c5}{aA aR g i ct bD b7 b3:Nat}(hK:∀b,a2 b->ρ.rel b b)(z:∀a b r,ρ.rel a b->ρ.rel a r->b=r)(u:Carry ρ w w')(p:a2 aA)(k:a2 g)(o:a2 i)(n:a2 bD)(h:na w aA aR g i ct bD b7 b3 ef t):na w' aA aR g i ct bD b7 b3 ef t:=by
 have c:∀(b d:Nat)(v:Value),a2 b->UE a2 v->w.cell? (.a b d)=some v->w'.cell? (.a b d)=some v:=λb d v x hv s=>by obtain⟨v',B,A⟩:=u ⟨b,d,none⟩ ⟨b,d,none⟩ v ⟨hK b x,U,U⟩ s;grind[mW]
 refine⟨c _ _ _ p Ij h.kind,c _ _ _ p Ij h.jK,λj f=>?_,λj f=>?_,c _ _ _ n Ij h.place⟩
 .have l:j<(dB t).size:=f;have e:=vak l;rw[e];exact c _ _ _ o (.inl (N7 t j _ e)) ((h.l_ j f).trans e)
 .by_cases h0:j=0
  .subst h0;exact c _ _ _ k (.inr (.inr ⟨_,_,_,_,U,n⟩)) (h.zr 0 AX)
  by_cases m:j=17
  .subst m;exact c _ _ _ k (.inr (.inr ⟨_,_,_,_,U,o⟩)) (h.zr 17 AX)
  obtain⟨v,q,-,y⟩:=Uz (.S bD b7 1 b3) (.S i 0 1 ct) (.S i 0 1 ct) j f h0 m;rw[q];exact c _ _ _ k (.inl y) ((h.zr j f).trans q)
def na.keeps{aA aR g b ct bD b7 b3:Nat}(hk:bm w w')(h:na w aA aR g b ct bD b7 b3 ef t):na w' aA aR g b ct bD b7 b3 ef t:=by
 refine⟨hk _ _ _ h.kind,hk _ _ _ h.jK,λj a=>?_,λj a=>?_,hk _ _ _ h.place⟩
 .have e:=vak (show j<(dB t).size from a);rw[e];exact hk _ _ _ ((h.l_ j a).trans e)
 .have e:=vak (show j<(c3 (.S bD b7 1 b3) (.S b 0 1 ct)).size from a);rw[e];exact hk _ _ _ ((h.zr j a).trans e)
def zs(op a:Int)(gc cap aA aR g aq ct bD b7 b3:Nat)(ef:Int)(t:cV)(w:aH)(u:Value):Prop:=∃fC ig rJ,u=.func (.func 211) #[] #[.P fC 0,.P ig 0,.P rJ 0]/\(∀j,j<8->w.cell? (.a fC j)=(jh op a (some (.a aA aR)) 1 gc (.S g 0 1 cap))[j]?)/\w.cell? (.a ig 0)=some (.I 0)/\w.cell? (.a rJ 0)=some (.I 1)/\na w aA aR g aq ct bD b7 b3 ef t
def auZ{a2:c5}{op:Int}{aA aR gc g cap:Nat}(c:a2 aA)(b:a2 g):∀j,j<8->∃v,(jh op a (some (.a aA aR)) 1 gc (.S g 0 1 cap))[j]?=some v/\UE a2 v
 |0,_=>⟨_,U,.inl U⟩
 |1,_=>⟨_,U,.inl U⟩
 |2,_=>⟨_,U,.inl U⟩
 |3,_=>⟨_,U,.inr (.inl ⟨_,_,U⟩)⟩
 |4,_=>⟨_,U,.inr (.inl ⟨_,_,U⟩)⟩
 |5,_=>⟨_,U,.inr (.inl ⟨_,_,U⟩)⟩
 |6,_=>⟨_,U,.inr (.inr ⟨_,_,_,_,U,c⟩)⟩
 |7,_=>⟨_,U,.inr (.inr ⟨_,_,_,_,U,b⟩)⟩
 |n+8,h=>absurd h AY
def au0{a2:c5}{op:Int}{gc cap aA aR g i ct bD b7 b3:Nat}(d:a2 aA)(c:a2 g)(n:a2 i)(m:a2 bD):LU a2 (zs op a gc cap aA aR g i ct bD b7 b3 ef t):=by rintro ρ w w' u F hK s b o ⟨x,H,C,rfl,r,q,p,B⟩;obtain⟨c1,cg,du,rfl,r1,l,k⟩:=YC o;obtain⟨J,h,z⟩:=b _ _ _ l q;obtain⟨I,f,y⟩:=b _ _ _ k p;rw[z.px]at h;rw[y.px]at f;refine⟨c1,cg,du,U,λj e=>?_,h,f,B.carry hK s b d c n m⟩;obtain⟨v,A,K⟩:=auZ (op:=op) (a:=a) (aR:=aR) (gc:=gc) (cap:=cap) d c j e;obtain⟨v',E,D⟩:=b ⟨x,j,none⟩ ⟨c1,j,none⟩ v ⟨r1.1,U,U⟩ ((r j e).trans A);grind[mW]
def au1(op a:Int)(gc cap aA aR g b ct bD b7 b3:Nat)(ef:Int)(t:cV)(w:aH)(h:na w aA aR g b ct bD b7 b3 ef t):
 Calls (aa prog false) 209 #[(eP op a (some (.a aA aR)) 1 gc (.S g 0 1 cap)),.I ((0:Nat):Int),.I ((1:Nat):Int)] w λe w'=>∃u,e=.returned u/\zs op a gc cap aA aR g b ct bD b7 b3 ef t w' u:=by
 have i:Hid (na w aA aR g b ct bD b7 b3 ef t):=h;clear h;go_enter auX,ntmps209
 go_wp2
 go_ret
 have b1:=((ag.new w (jh op a (some (.a aA aR)) 1 gc (.S g 0 1 cap)) 146).alloc (.cells #[.I 0] 3)).alloc (.cells #[.I 1] 3);have d:=(ag.new (w.alloc (.cells (jh op a (some (.a aA aR)) 1 gc (.S g 0 1 cap)) 146)) #[.I 0] 3).alloc (.cells #[.I 1] 3);have c:=ag.new ((w.alloc (.cells (jh op a (some (.a aA aR)) 1 gc (.S g 0 1 cap)) 146)).alloc (.cells #[.I 0] 3)) #[.I 1] 3;simp only[vce]at d c;have f:bm w (((w.alloc (.cells (jh op a (some (.a aA aR)) 1 gc (.S g 0 1 cap)) 146)).alloc (.cells #[.I 0] 3)).alloc (.cells #[.I 1] 3)):=bm.b4 ((((vaa _ w).alloc IB _).alloc Ab _).alloc BC _);exact⟨_,U,w.heap.size,w.heap.size+1,w.heap.size+1+1,U,λj _=>b1.rules.1 j,d.rules.1 0,c.rules.1 0,i.out.keeps f⟩
def au2(n₀:Nat)(pa:uad)(aJ pc:Nat)(d:dM):Fv n₀ (λ_=>n3 n₀ (.slice pa aJ pc) d):=by
 refine⟨λt W x h=>?_,λt W i x h hk=>?_⟩
 .obtain⟨bv,a_,rfl,-⟩:=h;grind
 .obtain⟨bv,a_,rfl,b,a⟩:=h;refine⟨bv,a_,U,b,?_⟩;rcases a with a|⟨g,cap,bc,a1,f,e,c⟩
  .grind
  .exact .inr ⟨g,cap,bc,a1,f,hk _ _ _ _ e AN,c⟩
theorem au3{op:Int}{gc cap aA aR g f ct bD b7 b3:Nat}(ht:ky t.sum)(k:1<=cap)(H:(cn 2 t).text.size<=9223372036854775807)(w:aH)(u:Value)(h:zs op a gc cap aA aR g f ct bD b7 b3 ef t w u):
 Calls (aa prog false) 103 #[u] w λe w'=>(iT 2 t=true/\∃v,e=.returned v/\jl w' v [([ef],[cn 2 t])])\/(iT 2 t=false/\e=xV (.S bD b7 1 b3)):=by
 obtain⟨y,m,l,rfl,x,s,r,b⟩:=h;cases o:iT 2 t
 .refine(lI.auD (N:=0) (Row:=λ_ _ _=>False) AX w ⟨λ_ _ _ h=>h.elim,λ_ _ _ _ h=>h.elim⟩ (λargs w=>cN N4 mY args w) (auH op a aA aR gc g cap _ 1 b3 f ct t ht w y m l x s r k b.kind b.jK b.l_ b.zr o)).mono ?_;rintro e w' ⟨rfl,-⟩;exact .inr ⟨U,U⟩
 .refine(auI (N:=1) AX w (au2 w.heap.size _ 1 b3 (cn 2 t)) (λargs w=>cN N4 mY args w) (auE op a aA aR gc g cap _ 1 b3 f ct t ht w y m l x s r k b.kind b.jK b.l_ b.zr o)).mono ?_;rintro e w' ⟨v,rfl,C,D⟩;refine .inl ⟨U,v,U,Rl C _ U AX λj n p q A=>?_⟩;obtain⟨bv,a_,z,B⟩:=A;simp at z;obtain⟨rfl,rfl⟩:=z;have F:j=0:=AN;subst F;have E:=bm.b4 D _ _ _ b.place;refine⟨⟨_,_,U,Ab,λi hi=>⟨bD,b7,U,?_⟩⟩,⟨_,_,U,Ab,λi hi=>⟨bv,0,U,?_⟩⟩⟩
  .have d:i=0:=by grind
   subst d;exact E
  .have d:i=0:=by grind
   subst d;have c:=λ(j:Nat)(n:j<4)=>Ke B j n;exact⟨c 0 AX,c 1 AX,c 2 AX,c 3 AX,H⟩
def au4{Stop:Bool->ae.Lo At->aV->Prop}{c:db}{a2:c5}(E:∀b,a2 b->c.K b)(hg:∀g,g<=prog.globals.size->a2 g)(m:eA (cm prog false) (λb=>a2 b\/bE b) bE bO){op:Int}{gc cap aA aR g f ct bD b7 b3:Nat}{fr dG:uas}(ht:ky t.sum)(U:1<=cap)(Y:(cn 2 t).text.size<=9223372036854775807)(C:na bO aA aR g f ct bD b7 b3 ef t)(o:a2 aA)(n:a2 g)(y:a2 f)(i:a2 bD)(hinv:∀(args:dC)(w:aH),(callMethod fK "Piece" args).run prog w=.ok (.enter 209 (#[eP op a (some (.a aA aR)) 1 gc (.S g 0 1 cap)]++args)) w/\(callMethod fK "Piece" args).events prog w #[]=#[])(a5:c.N=1)(R:fr 0=0)(B:dG 0=1)(ji:∀T,c.bad T= !iT 2 t)(y0:∀T,c.bad T=true->c.place T=.S bD b7 1 b3)(lB:∀T,T<c.N->c.rows T=if c.bad T then 0 else 1)(L:∀T,c.bad T=true->c.least=.N):
 q8 c bO prog Stop 103 fK 209 (eP op a (some (.a aA aR)) 1 gc (.S g 0 1 cap)) fr dG
  (λT u M w=>lS (cm prog false) a2 c.K (zs op a gc cap aA aR g f ct bD b7 b3 ef t) u M w) (λT v M w=>lS (cm prog false) a2 c.K (λw v=>T<c.N/\jl w v [([ef],[cn 2 t])]) v M w):=by
 have x:∀{D:c5},(∀b,a2 b->D b)->(∀b,a2 b->(c8 D bE).rel b b)/\∀a b z,(c8 D bE).rel a b->(c8 D bE).rel a z->b=z:=λh=>⟨λb d=>⟨rfl,h b d⟩,λa b z s r=>s.1.symm.trans r.1⟩
 refine XJ jQ rfl func209 auY rfl AT func103 YF rfl AT E hg m hinv (.qU (kO λv q=>?_))
  (tu:=λT=>zs op a gc cap aA aR g f ct bD b7 b3 ef t) (tv:=λT w v=>T<c.N/\jl w v [([ef],[cn 2 t])]) (λT=>au0 o n y i) (λT _ _ _ _ _ N hv h=>⟨h.1,YD _ _ _ _ _ _ N hv h.2⟩) (λT j w F l S k=>?_)
  (auV E hg m (p:=λT=>ef) L (λT j d=>AN) (λT j d=>⟨bD,b7,b3,y0 T d,i,C.place⟩) (λT X s _ r _=>AY)) (λT j d=>⟨bD,b7,1,b3,y0 T d,i⟩) (λT j l u q k=>?_) (λT w v d h=>?_)
 .simp at q;rcases q with rfl|rfl|rfl|rfl|rfl|rfl
  .exact .int _ _
  .exact .int _ _
  .exact .int _ _
  .exact .h7 _ _
  .exact .slice _ _ ⟨⟨rfl,.inl o⟩,rfl,rfl⟩
  .exact .slice _ _ ⟨⟨rfl,.inl n⟩,rfl,rfl⟩
 .have A:T=0:=by omega
  subst A;rw[R,B];have K:=C.carry (x λb d=>.inl d).1 (x λb d=>.inl d).2 (py F m) o n y i;have J:=K.carry (x λb d=>.inl d).1 (x λb d=>.inl d).2 (S.carry (mS m F)) o n y i;exact au1 op a gc cap aA aR g f ct bD b7 b3 ef t {l with tape:=k} (J.keeps (Ak l k))
 .have V:zs op a gc cap aA aR g f ct bD b7 b3 ef t {l with tape:=k} u:=by obtain⟨Q,I,H,e,s,r,P,O⟩:=q;exact⟨Q,I,H,e,s,r,P,O.keeps (Ak l k)⟩
  grind[au3]
 .obtain⟨j,W,cap,rfl,-,-⟩:=h;grind
end bB
namespace bB
open RowKit av
def UF:(aa prog false).funcs[(125:Nat)]?=some f125:=bo (upd:=false) func125 AT
@[simp] theorem aD4:cS false 125:=cN UF AT
theorem au7:(aa prog false).funcs[(110:Nat)]?=some f110:=bo (upd:=false) func110 AT
def au8(n:Nat)(hn:n<=1000)(w:aH):
 Calls (aa prog false) 125 #[.N,.I n] w λe w'=>∃v,e=.returned v/\w'.ownsRow w.heap.size 138 18 v 0 []/\cC w w':=by
 by_cases h0:n=0
 .subst h0;go_enter UF,ntmps125
  go_wp2
  go_ret
  simp_all[vbo,vaa]
 .have f:(0:Int)<(n:Int):=by omega
  have a:t138.bytes=208:=AU;have d:=nextslicecap_zero (need:=n) AY;go_enter UF,ntmps125
  go_wp2
  all_goals try(exfalso;simp only[a,d]at *;omega)
  go_ret
  have g:n<=(Question.appendCap n 0 138).cut (w.tape w.drawn (Question.appendCap n 0 138)):=by simp[Question.cut]
  have b:(Question.appendCap n 0 138).cut (w.tape w.drawn (Question.appendCap n 0 138))<=maxLen:=by simp only[Question.cut,maxLen];have:=Nat.mod_lt (w.tape w.drawn (Question.appendCap n 0 138)) (show 0<2^63-n by omega);omega
  generalize(Question.appendCap n 0 138).cut (w.tape w.drawn (Question.appendCap n 0 138))=c at *;refine⟨_,U,⟨Ab,.inr ⟨w.heap.size,c,_,U,vad _,(ag.new w _ _).drew,vaz _,b,?_,Ab⟩⟩,((vaa _ w).alloc IB _).drew⟩;grind[size_zeroCells,List.length_cons]
def uf(pv aZ:ubb):Nat->List Value
 |0=>[]
 |k+1=>uf pv aZ k++(c3 (pv k) (aZ k)).toList
theorem UG(pv aZ:ubb)(k:Nat):(uf pv aZ k).length=k*18:=by induction k with|zero=>rfl|succ k a=>simp[uf,a];omega
def au9(pv aZ:ubb){k t j:Nat}(ht:t<k)(b:j<18):(uf pv aZ k)[t*18+j]?=(c3 (pv t) (aZ t))[j]?:=by
 induction k with
 |zero=>omega
 |succ k a=>
  unfold uf;by_cases h:t<k
  .grind[UG]
  .obtain rfl:t=k:=by omega
   simp_all[UG]
structure zt(w:aH)(rL N:Nat)(nz e8:uas)(pv aZ:ubb):Prop where
 list:∀p,p<N->w.cell? (.a rL p)=some (.S (nz p) 0 1 (e8 p))
 cells:∀p,p<N->∀j,j<18->w.cell? (.a (nz p) j)=(c3 (pv p) (aZ p))[j]?
 shape:∀p,p<N->(∃a l c,pv p=.slice a l c)/\∃a l c,aZ p=.slice a l c
def au_{n N s:Nat}{f q:uas}{pv aZ:ubb}(w:aH)(h:zt w n N f q pv aZ)(a5:N<=1000):
 Calls (aa prog false) 110 #[.S n 0 N s] w λe w'=>∃v,e=.returned v/\w'.ownsRow w.heap.size 138 18 v N (uf pv aZ N)/\cC w w':=by
 have i:Hid (zt w n N f q pv aZ):=h;clear h;go_enter au7,ntmps110
 go_wp2
 go_loopw [3,5,11] (λa _ b W=>∃k:Nat,k<=N/\a=.I (k:Int)/\b=.I (k:Int)/\W=w) (λ_ _ b _=>N-(intOf b).toNat)
 case atStart=>grind
 case round=>
  obtain⟨k,hk,rfl,rfl,rfl⟩:=hrel;by_cases c:k<N
  .have U:=i.out.list k c;have T:=dx U;have J:(0:Int)<=(k:Int):=AY;have M:(k:Int)<(N:Int):=AY;have uy:¬((k:Int)+1<0):=AY;go_wp2
   exact⟨⟨k+1,AY,Ab,Ab,PA⟩,by simp[intOf];omega⟩
  .have o:k=N:=by omega
   subst o;have dW:¬((k:Int)<(k:Int)):=AY;obtain⟨w,rfl⟩:∃x:aH,x=wr:=⟨wr,rfl⟩;go_wp2
   refine(au8 k a5 w).mono ?_;rintro e w1 ⟨Z,rfl,t,E⟩;obtain⟨a1,c1,rfl⟩:=qq t;have Y:Hid (w1.ownsRow w.heap.size 138 18 (.slice a1 0 c1) 0 []):=t;have O:Hid (cC w w1):=E;clear t E;obtain⟨N,rfl⟩:∃x,x=k:=⟨k,rfl⟩;go_wp2
   go_loopw [6,8,27] (λa _ b W=>∃(k:Nat)(d:uad)(gc:Nat),k<=N/\a=.slice d k gc/\b=.I (k:Int)/\W.ownsRow w.heap.size 138 18 (.slice d k gc) k (uf pv aZ k)/\cC w W) (λ_ _ b _=>N-(intOf b).toNat)
   case atStart=>exact⟨0,a1,c1,vaz _,rfl,rfl,Y.out,O.out⟩
   case round=>
    obtain⟨k,d,gc,hk,rfl,rfl,D,A⟩:=hrel;have p:Hid (wr.ownsRow w.heap.size 138 18 (.slice d k gc) k (uf pv aZ k)):=D;have l:Hid (cC w wr):=A;clear D A;by_cases c:k<N
    .have r:=bm.b4 l.out;have C:=r _ _ _ (i.out.list k c);have T:=dx C;obtain⟨⟨pa,aJ,pc,z⟩,⟨ta,tl,cL,ht⟩⟩:=i.out.shape k c;have X:Hid (∀j u,(c3 (pv k) (aZ k)).toList[j]?=some u->wr.cell? (Addr.add ⟨f k,0,none⟩ j)=some u):=λj u Q=>by rw[vda,vby];have R:j<18:=(vab.1 Q).1;refine r _ _ _ ((i.out.cells k c j R).trans ?_);grind
     have L:Hid (∀u∈(c3 (pv k) (aZ k)).toList,u.oneCell'=true):=by rw[z,ht];exact Uh _ _ _ _ _ _
     have J:(0:Int)<=(k:Int):=AY;have M:(k:Int)<(N:Int):=AY;obtain⟨P,hi,K,I,H⟩:=vbt (Ui false);have y:Hid (w.heap.size<=wr.heap.size):=l.out.size;clear r z ht;go_wp2_with (at_builtin;apply qr)
     unfold hJ;refine wpList_append_own _ rfl _ _ 133 rfl w.heap.size 138 P _ 18 208 ((qc _ _ _).trans underlying133) hi K I H rfl AX (.slice d k gc) k (uf pv aZ k) rfl p.out ⟨f k,0,none⟩ 1 (q k) (c3 (pv k) (aZ k)).toList rfl rfl X.out L.out B_ AY y.out ?_;intro v' w2 m F _;obtain⟨B,cg,rfl⟩:=qq m;have V:Hid (w2.ownsRow w.heap.size 138 18 (.slice B (k+1) cg) (k+1) (uf pv aZ (k+1))):=m;have S:Hid (cC w w2):=l.out.grown F y.out (λg hg=>(World.ownsRow.lt p.out g hg).1);clear m F C;go_wp2
     go_roundw
     case rel=>exact⟨k+1,B,cg,AY,rfl,Ab,V.out,S.out⟩
     case measure=>simp[intOf];omega
    .have o:k=N:=by omega
     subst o;have jE:¬((k:Int)<(k:Int)):=AY;go_wp2
     go_ret
     exact⟨_,rfl,p.out,l.out⟩
end bB
namespace bB
def rN(l:uaf)(i:Nat):dM:=⟨false,l.getD i 0,0,lW⟩
def sumTo(l:uaf):Nat->Int
 |0=>0
 |n+1=>sumTo l n+l.getD n 0
structure ma(t:cV)(n:Nat)(s:Int):Prop where
 held:t.held=n
 sum:t.sum=s
 mB:t.least.cY=0
theorem ma.of(l:uaf)(i:Nat):ma (lG (rN l i)) 1 (l.getD i 0):=⟨U,U,U⟩
variable{m n:Nat}
def ma.and{t u:cV}{s r:Int}(h:ma t n s)(k:ma u m r)(hn:0<n)(b:0<m):ma (D_ t u) (n+m) (s+r):=by
 have c:=h.held;have a:=k.held;unfold D_;rw[vcy AY,vcy AY];refine⟨AN,by simp only[h.sum,k.sum],?_⟩;simp only;split
 .exact k.mB
 .exact h.mB
def ma.cast{t:cV}{s r:Int}(h:ma t n s)(b:n=m)(a:s=r):ma t m r:=b▸a▸h
theorem UR(l:uaf)(fr:Nat):∀m,ma (lf (λk=>lG (rN l (fr+k))) m) (m+1) (sumTo l (fr+m+1)-sumTo l fr)
 |0=>(ma.of l fr).cast U (by simp only[sumTo,vcg];omega)
 |m+1=>((UR l fr m).and (ma.of l (fr+(m+1))) AY AY).cast U (by
  show _=sumTo l (fr+(m+1))+l.getD (fr+(m+1)) 0-sumTo l fr;grind)
variable{dG fr:Nat}
def Oi(l:uaf)(h:fr<dG):ma (sM (rN l) fr dG) (dG-fr) (sumTo l dG-sumTo l fr):=
 (UR l fr (dG-fr-1)).cast AY AN
variable{L ab:Nat}
theorem US(l:uaf)(b:0<ab):∀k,k*ab<L->ma (lf (λT=>sM (rN l) (T*ab) (min (T*ab+ab) L)) k) (min (k*ab+ab) L) (sumTo l (min (k*ab+ab) L))
 |0,h=>(Oi l (fr:=0*ab) (dG:=min (0*ab+ab) L) AY).cast AY (by rw[Nat.zero_mul];simp[sumTo])
 |k+1,h=>by have e:(k+1)*ab=k*ab+ab:=Nat.succ_mul k ab;have a:=US l b k AY;rw[Nat.min_eq_left AY]at a;refine(a.and (Oi l (fr:=(k+1)*ab) (dG:=min ((k+1)*ab+ab) L) AY) AY AY).cast AY ?_;rw[e];omega
def pW(l:uaf):Prop:=∀x∈l,jf x
variable{l:uaf}
theorem pW.at(h:pW l)(i:Nat):jf (l.getD i 0):=by rw[vcu];cases e:l[i]? with|none=>grind|some x=>exact h x (List.mem_of_getElem? e)
theorem Kq(h:pW l):∀n:Nat,-(9223372036854775808*(n:Int))<=sumTo l n/\sumTo l n<=9223372036854775808*(n:Int)
 |0=>by simp[sumTo]
 |n+1=>by have b:=Kq h n;have a:=h.at n;grind[sumTo]
def ma.wide{t:cV}{a b:Nat}(h:pW l)(k:ma t n (sumTo l a-sumTo l b))(d:a<=1000)(c:b<=1000):ky t.sum:=by have f:=Kq h a;have e:=Kq h b;rw[k.sum];omega
def av4(h:pW l)(c:fr<dG)(b:dG<=300):G1 (λk=>lG (rN l (fr+k))) (dG-fr):=by
 intro k hk;have n1:=UR l fr k;have n0:=ma.of l (fr+k);have a:=ma.of l (fr+(k+1));refine⟨by rw[n0.held];decide,?_,by rw[n1.held];omega,n1.wide h AY AY,λd=>?_⟩
 .have:=h.at (fr+k);rw[n0.sum];omega
 .rw[n1.held,a.held];omega
def av5(h:pW l){N:Nat}(f:0<ab)(j:L<=300)(a5:∀k,k<N->k*ab<L):G1 (λT=>sM (rN l) (T*ab) (min (T*ab+ab) L)) N:=by intro k hk;have d:=a5 k hk;have n1:=US l f k d;have n0:=Oi l (fr:=k*ab) (dG:=min (k*ab+ab) L) AY;refine⟨by rw[n0.held];omega,n0.wide h AY AY,by rw[n1.held];omega,ma.wide (a:=min (k*ab+ab) L) (b:=0) h (n1.cast U (by simp[sumTo])) AY AY,λg=>?_⟩;have i:=a5 _ g;have e:(k+1)*ab=k*ab+ab:=Nat.succ_mul k ab;have c:=Oi l (fr:=(k+1)*ab) (dG:=min ((k+1)*ab+ab) L) AY;rw[n1.held,c.held];omega
