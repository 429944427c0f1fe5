import Derived.Test.YtnomloiacicoaaaGreatPBA
set_option linter.all false
set_option maxRecDepth 100000
set_option maxHeartbeats 16000000
namespace Go.Proofs.YtnomloiacicoaaaGreat
open Tryz
namespace aV
open Conc ConcM RowKit av bj cV dx bd b_ e9 gD
variable{d:Tmp}
section
variable{O:gW}{n0:Nat}
section
variable{P:cE}{Post:hV}{n:Nat}{Shun:ual}{w:aR}{f:uak}{b:Act}{ops:fF}{i:Nat}{rest:uac}{k:uab}{cs:hH}{o:Oper}
def Ir(j:ops[i]?=some o)(p:o.guard=none)(hd:o.dst=some d){v:Value}{es:uat}(h:∀k',(execOp b.eval o).run P (w.at k')=.ok (.value v) (w.at k'))(l:∀k',(execOp b.eval o).events P (w.at k') #[]=es)(hs:seen P f es=es)(c:∀e∈es,pJ Shun w.heap.size e)(g:deafBehind 0 es=0)(m:∀k',bT P Post n Shun 0 (a4 ((base f).at (b.put (some d) v) (.R ops rest::k)) cs) (w.at k')):bT P Post n Shun 0 (a4 ((base f).at b (.R ops (i::rest)::k)) cs) w:=by
 refine Dy Y λk'=>⟨_,w.at k',es,?_,c,vac _,by rw[g];exact m k'⟩;have h1:=vbd (P:=P) (main:=true) (b:=base f) (a:=b) (k:=k) (cs:=cs) (rest:=rest) j (xX p _) (by simp[base]) (h k');have h2:listed P (base f).fn b o (w.at k')=es:=by unfold listed;rw[l k'];exact hs
 rw[h2,hd]at h1;exact h1
end
def BZ:qX:=⟨λi=>i==0||i==21||i==31||i==33,λi=>i==0,λt=>t==22⟩
def Am(v0:Value):fT:=⟨BZ,λ_=>some v0⟩
def Qu v0:DC prog (Am v0):=by intro t h;have h:BZ.sl t=true:=h;grind[BZ,underlying22]
def azz:gE prog true Tryz.f4=true:=by decide+kernel
def Qv:jQ prog 4:=Bm func4 azz Y
structure oI(O:gW)(n0:Nat)(aD:dL)(w0:aR)(D:fT)(Shun:ual)(fs:List (Nat×(aR->Value->Prop)))(a b:Act)(M:dL)(w:aR):Prop where
 held:Held O prog aD w0 n0 a M w Shun
 fd:jv D a b
 slots:j6 123 fs a w
 f7:∀p∈fs,kY n0 p.2
section
variable{aD:dL}{w0:aR}{D:fT}{Shun:ual}{fs:List (Nat×(aR->Value->Prop))}{a b:Act}{M:dL}{w:aR}
theorem oI.at(h:oI O n0 aD w0 D Shun fs a b M w)k:oI O n0 aD w0 D Shun fs a b M (w.at k):=
 ⟨h.held.at k,h.fd,zf h.f7 _ _ _ _ _ ((show dy M w (w.at k)from λ_ _ _ _ _ x=>x).my h.held.fC) h.held.all h.slots,h.f7⟩
theorem Held.put(h:Held O prog aD w0 n0 a M w Shun)d{v}(hv:au (b7 M) v v):Held O prog aD w0 n0 (a.put (some d) v) M w Shun:=
 ⟨h.fC,h.sub,h.since,h.keep,h.all.set hv _,Hy,h.size⟩
def jv.qO(h:jv D a b)(g:D.T d=true)(hK:D.K d=false)v:jv D (a.put (some d) undef) (b.put (some d) v):=by
 refine⟨by rw[jR,jR];exact h.size,λi hi=>?_,λi x hi f=>?_,λi hi=>?_,by rw[put_defers,put_defers];exact h.defers⟩
 .have c:d≠i:=AA;simp[Act.put,c];exact h.same i hi
 .by_cases e:d=i
  .simp_all[Act.put,vam]
  .simp[Act.put,e]at f;exact h.gone i x hi f
 .have c:d≠i:=AA;simp[Act.put,c];exact h.kept i hi
def wC(h:j6 123 fs a w)(hd:∀p∈fs,d≠p.1)v:j6 123 fs (a.put (some d) v) w:=
 ⟨by rw[jR];exact h.1,λp b=>by
  obtain⟨x,h1,h2⟩:=h.2 p b;grind[hQ]⟩
theorem oI.qO(h:oI O n0 aD w0 D Shun fs a b M w)(c:D.T d=true)(hK:D.K d=false)(hd:∀p∈fs,d≠p.1)v:oI O n0 aD w0 D Shun fs (a.put (some d) undef) (b.put (some d) v) M w:=
 ⟨h.held.put d (.undef _),h.fd.qO c hK v,wC h.slots hd _,h.f7⟩
def oI.W4(h:oI O n0 aD w0 D Shun fs a b M w)(f:D.T d=false)(hK:D.K d=false)(hd:∀p∈fs,d≠p.1)(hs:d<123){v}(hv:au (b7 M) v v)(e:kY n0 (eO v)):oI O n0 aD w0 D Shun ((d,eO v)::fs) (a.put (some d) v) (b.put (some d) v) M w:=
 ⟨h.held.put d hv,h.fd.put f hK v,⟨by rw[jR];exact h.slots.1,λp c=>by
  rcases vaw.1 c with rfl|c
  .exact⟨v,nw (by rw[h.slots.1];exact hs),Y⟩
  .exact(wC h.slots hd v).2 p c⟩,λp c=>by
  rcases vaw.1 c with rfl|c
  .exact e
  .exact h.f7 p c⟩
def oI.less(h:oI O n0 aD w0 D Shun fs a b M w){gs}(hg:∀p∈gs,p∈fs):oI O n0 aD w0 D Shun gs a b M w:=
 ⟨h.held,h.fd,⟨h.slots.1,λp c=>h.slots.2 p (hg p c)⟩,λp c=>h.f7 p (hg p c)⟩
end
end
section
variable{O:gW}{n0:Nat}
def azA(O:gW)(bY:uag)(i:Nat)(r:dQ):Prop:=∃B off c e z,bY=some ⟨B,off,none⟩/\0<B/\B<O.n/\O.heap[B]?=some (.cells c e z)/\(c[off+i*4]?=some (.I r.1)/\c[off+i*4+1]?=some (.I r.2.1)/\c[off+i*4+2]?=some (.I r.2.2.1)/\c[off+i*4+3]?=some (.I r.2.2.2))/\ek r.1/\ek r.2.1/\ek r.2.2.1/\ek r.2.2.2
def Is(O:gW)(rv:Value)(rs:List dQ):Prop:=∃bY cap,rv=.slice bY rs.length cap/\∀i(h:i<rs.length),azA O bY i rs[i]
def It{fs:List (Nat×(aR->Value->Prop))}{d}(h:(fs.map (·.1)).all (λx=>x != d)=true):∀p∈fs,d≠p.1:=AA
section
variable{Post:hV}{n:Nat}{Shun:ual}{aD:dL}{w0:aR}{rv:Value}{rs:List dQ}{c:Frame}{csZ:hH}
def wz{es:uat}(h:∀e∈es,∀m,e.loc≠ .mark m):seen prog 4 es=es:=
 seen_eq (by rw[func4];rfl) AA
def azB{x y z u}:kY n0 (eO (.agg #[.I x,.I y,.I z,.I u])):=λ_ _ _ _ _ _ hv h=>by
 cases h;obtain⟨a,rfl,k⟩:=uU hv;cases k with
 |cons h1 k=>cases k with
  |cons h2 k=>cases k with
   |cons h3 k=>cases k with
    |cons h4 k=>cases k;rw[hP h1,hP h2,hP h3,hP h4];rfl
def v_{a}:∀p∈Al n0 a,kY n0 p.2:=by intro p b;simp[Al]at b;grind[Ws,NP]
theorem vJ(bn:Is O rv rs)(kS:∀a b M w,oI O n0 aD w0 (Am rv) Shun (Al n0 (kL (rs.take 40))) a b M w->bT prog Post n Shun 0 (a4 ((base 4).at b [.code .ret]) (c::csZ)) w){cd}(di:∀a b M w,cd<rs.length/\cd<40->oI O n0 aD w0 (Am rv) Shun ((20,eO (.I (cd+1:Nat)))::i8 n0 rs (cd+1)) a b M w->bT prog Post n Shun 0 (a4 ((base 4).at b (.R (dT Tryz.f4 3) (List.range' 1 8)::p4 Tryz.f4)) (c::csZ)) w)a b M w(h1:cd<=rs.length)(h2:cd<=40)(u:oI O n0 aD w0 (Am rv) Shun ((20,eO (.I cd))::i8 n0 rs cd) a b M w):bT prog Post n Shun 0 (a4 ((base 4).at b (.R (dT Tryz.f4 3) (List.range' 1 8)::p4 Tryz.f4)) (c::csZ)) w:=by
 obtain⟨bY,cap,NV,bM⟩:=id bn;have e0:b.tmps[0]?=some rv:=u.fd.kept 0 Y;rw[show List.range' 1 8=1::List.range' 2 7 from Y];obtain⟨o,f⟩:∃o,(dT Tryz.f4 3)[1]?=some o:=⟨_,Ao⟩;obtain rfl:=HW f;have ev:=e0;refine Ir f Y Y (v:=rv) (es:=#[]) (λk'=>Dw) (λk'=>Dw) (vdy _ _) AS Y λi=>?_;have E:=(u.qO (d:=21) Y Y (It Y) rv).at i;have Pa:(b.put (some 21) rv).tmps[21]?=some (.slice bY rs.length cap):=by rw[<-NV];exact nw (by rw[u.fd.size,u.slots.1];decide)
 have Wq:(b.put (some 21) rv).tmps[0]?=some rv:=(hQ AF).trans e0;clear f ev e0 u;generalize b.put (some 21) rv=b1 at *;generalize a.put (some 21) undef=a1 at *;generalize w.at i=w1 at *;clear i a b w;rw[show List.range' 2 7=2::List.range' 3 6 from Y];obtain⟨o,f⟩:∃o,(dT Tryz.f4 3)[2]?=some o:=⟨_,Ao⟩;obtain rfl:=HW f;have ev:=Pa;refine Ir f Y Y (v:=.I rs.length) (es:=#[]) (λk'=>Dw) (λk'=>Dw) (vdy _ _) AS Y λk=>?_;have qI:=(E.W4 (d:=22) Y Y (It Y) AF (v:=.I rs.length) (.int _ _) (Bn _ _)).at k;have e0:(b1.put (some 22) (.I rs.length)).tmps[0]?=some rv:=(hQ AF).trans Wq;clear f ev Wq Pa E;generalize b1.put (some 22) (.I rs.length)=b2 at *;generalize a1.put (some 22) (.I rs.length)=a6 at *;generalize w1.at k=w2 at *;clear k a1 b1 w1;have h:=qI.less (gs:=(20,eO (.I cd))::(22,eO (.I rs.length))::i8 n0 rs cd) AA;clear qI;by_cases g:cd<rs.length/\cd<40
 .refine LC nx Qv (Qu rv) h.fd (show List.all _ (fK BZ)=true by decide+kernel) h.held (k':=.R (dT Tryz.f4 5) (List.range' 0 6)::FJ Tryz.f4) AD AD (zf h.f7) (zf (Iq rs cd)) h.slots (λW U hI=>azo rs cd g.1 g.2 a6 W h.held.defers hI) ?_;intro y q P t I H N;have L:oI O n0 aD w0 (Am rv) Shun (i8 n0 rs cd) y q P t:=⟨I,H,N,Iq rs cd⟩;have f0:q.tmps[0]?=some rv:=H.kept 0 Y;clear h I H N e0;obtain⟨B,off,cc,e,z,azC,sf,hB,hc,⟨b3,c1,bt,cF⟩,i0,i1,i2,i3⟩:=bM cd g.1;subst azC;rw[show List.range' 0 6=0::1::2::3::List.range' 4 2 from Y];obtain⟨o,f⟩:∃o,(dT Tryz.f4 5)[0]?=some o:=⟨_,Ao⟩;obtain rfl:=HW f;have ev:=f0;refine Ir f Y Y (v:=rv) (es:=#[]) (λk'=>Dw) (λk'=>Dw) (vdy _ _) AS Y λi=>?_;have s:=(L.qO (d:=31) Y Y (It Y) rv).at i;have D:(q.put (some 31) rv).tmps[31]?=some (.S B off rs.length cap):=(nw (by rw[L.fd.size,L.slots.1];decide)).trans (congrArg some NV)
  clear f ev f0 L;generalize q.put (some 31) rv=bV at *;generalize y.put (some 31) undef=cS at *;generalize t.at i=w4 at *;clear i y q t;obtain⟨o,f⟩:∃o,(dT Tryz.f4 5)[1]?=some o:=⟨_,Ao⟩;obtain rfl:=HW f;have iB:bV.tmps[6]?=some (.I cd):=by obtain⟨v,h1,h2⟩:=s.slots.2 (6,eO (.I cd)) C0;obtain rfl:v=_:=h2;exact(s.fd.same 6 Y).trans h1
  have ev:=iB;refine Ir f Y Y (v:=.I cd) (es:=#[]) (λk'=>Dw) (λk'=>Dw) (vdy _ _) AS Y λk=>?_;have K:=(s.W4 (d:=32) Y Y (It Y) AF (v:=.I cd) (.int _ _) (Bn _ _)).at k;have f31:(bV.put (some 32) (.I cd)).tmps[31]?=some (.S B off rs.length cap):=(hQ AF).trans D;have f32:(bV.put (some 32) (.I cd)).tmps[32]?=some (.I cd):=nw (by rw[s.fd.size,s.slots.1];decide);clear f ev iB D s;generalize bV.put (some 32) (.I cd)=bS at *;generalize cS.put (some 32) (.I cd)=fO at *;generalize w4.at k=iK at *;clear k cS bV w4;obtain⟨o,f⟩:∃o,(dT Tryz.f4 5)[2]?=some o:=⟨_,Ao⟩;obtain rfl:=HW f;have ev:=f31;have W5:=f32;have i:(cd:Int)<(rs.length:Int):=AQ;have dY:(0:Int)<=(cd:Int):=AQ;refine Ir f Y Y (v:=.P B (off+cd*4)) (es:=#[]) (λk'=>by simp[go_sem,ev,W5,dY,g.1,Addr.add]) (λk'=>by simp[go_sem,ev,W5,dY,g.1]) (vdy _ _) AS Y λR=>?_;have W6:=(K.qO (d:=33) Y Y (It Y) (.P B (off+cd*4))).at R;have f33:(bS.put (some 33) (.P B (off+cd*4))).tmps[33]?=some (.P B (off+cd*4)):=nw (by rw[K.fd.size,K.slots.1];decide);clear f ev W5 f31 f32 K;generalize bS.put (some 33) (.P B (off+cd*4))=eW at *;generalize fO.put (some 33) undef=kK at *;generalize iK.at R=r at *;clear R fO bS iK;obtain⟨o,f⟩:∃o,(dT Tryz.f4 5)[3]?=some o:=⟨_,Ao⟩;obtain rfl:=HW f;have ev:=f33;have aN:=W6.held.fC;have C:r.heap[B]?=some (.cells cc e z):=(aN.old B sf hB).trans hc;have d:∀k' j x,cc[j]?=some x->(r.at k').cell? (.a B j)=some x:=λk' j x S=>by have:(r.at k').heap[B]?=some (.cells cc e z):=C;grind[World.cell?]
  refine Ir f Y Y (v:=.agg #[.I rs[cd].1,.I rs[cd].2.1,.I rs[cd].2.2.1,.I rs[cd].2.2.2]) (es:=#[⟨.cell ⟨B,off+cd*4,none⟩,false,false⟩,⟨.cell ⟨B,off+cd*4+1,none⟩,false,false⟩,⟨.cell ⟨B,off+cd*4+2,none⟩,false,false⟩,⟨.cell ⟨B,off+cd*4+3,none⟩,false,false⟩]) (λk'=>?_) (λk'=>?_) (wz λe T m hm=>?_) (λe T=>?_) Y λQ=>?_
  .have q0:=d k' _ _ b3;have aZ:=d k' _ _ c1;have a3:=d k' _ _ bt;have q3:=d k' _ _ cF;simp[go_sem,ev,q0,aZ,a3,q3]
  .have q0:=d k' _ _ b3;have aZ:=d k' _ _ c1;have a3:=d k' _ _ bt;have q3:=d k' _ _ cF;simp[go_sem,ev,q0,aZ,a3,q3]
  .grind
  .have TT:B<r.heap.size:=AA;simp at T;rcases T with rfl|rfl|rfl|rfl<;>exact Kj (aN.so B hB _ Y) TT _
  have A:=(W6.W4 (d:=34) Y Y (It Y) AF (v:=.agg #[.I rs[cd].1,.I rs[cd].2.1,.I rs[cd].2.2.1,.I rs[cd].2.2.2]) (.qT (mw (l:=[.I rs[cd].1,.I rs[cd].2.1,.I rs[cd].2.2.1,.I rs[cd].2.2.2]) λx S=>by
   simp at S;rcases S with rfl|rfl|rfl|rfl<;>exact .int _ _)) azB).at Q
  clear f ev f33 W6 aN C d;generalize eW.put (some 34) (.agg #[.I rs[cd].1,.I rs[cd].2.1,.I rs[cd].2.2.1,.I rs[cd].2.2.2])=qL at *;generalize kK.put (some 34) (.agg #[.I rs[cd].1,.I rs[cd].2.1,.I rs[cd].2.2.1,.I rs[cd].2.2.2])=rE at *;generalize r.at Q=CV at *;clear Q kK eW r;have F:=A.less (gs:=(34,eO (.agg #[.I rs[cd].1,.I rs[cd].2.1,.I rs[cd].2.2.1,.I rs[cd].2.2.2]))::i8 n0 rs cd) AA;clear A;refine LC nx Qv (Qu rv) F.fd (show List.all _ (fK BZ)=true by decide+kernel) F.held (k':=.R (dT Tryz.f4 3) (List.range' 1 8)::p4 Tryz.f4) AD AD (zf F.f7) (J:=j6 123 ((20,eO (.I (cd+1:Nat)))::i8 n0 rs (cd+1))) (zf λp hp=>?_) F.slots (λW U hI=>azu rs cd g.1 g.2 i0 i1 i2 i3 rE W U F.held.defers hI) ?_
  .grind[Bn,Iq]
  .intro A0 lE azD GO Z X V;refine di A0 lE azD GO g ⟨Z,X,V,λp hp=>?_⟩;grind[Bn,Iq]
 .refine LC nx Qv (Qu rv) h.fd (show List.all _ (fK BZ)=true by decide+kernel) h.held (k':=[.code .ret]) AD AD (zf h.f7) (J:=j6 123 (Al n0 (kL (rs.take 40)))) (zf v_) h.slots (λW U hI=>azp rs cd h1 h2 g a6 W h.held.defers hI) ?_;intro y q P t I H N;exact kS y q P t ⟨I,H,N,v_⟩
def azH(g:Is O rv rs)(d:∀a b M w,oI O n0 aD w0 (Am rv) Shun (Al n0 (kL (rs.take 40))) a b M w->bT prog Post n Shun 0 (a4 ((base 4).at b [.code .ret]) (c::csZ)) w):
 ∀m cd a b M w,40-cd<=m->cd<=rs.length->cd<=40->oI O n0 aD w0 (Am rv) Shun ((20,eO (.I cd))::i8 n0 rs cd) a b M w->bT prog Post n Shun 0 (a4 ((base 4).at b (.R (dT Tryz.f4 3) (List.range' 1 8)::p4 Tryz.f4)) (c::csZ)) w:=by
 intro m;induction m with|zero=>grind[vJ]|succ m e=>intro cd a b M w h h1 h2 f;exact vJ g d (λa b M w h3 h4=>e (cd+1) a b M w AQ AQ AQ h4) a b M w h1 h2 f
end
end
section
variable{O:gW}{n0:Nat}
section
variable{Post:hV}{n:Nat}{Shun:ual}{aD:dL}{w0:aR}{rv:Value}{rs:List dQ}{c:Frame}{csZ:hH}
def azI{D i a b M w}(h4:D.T 4=false)(d:oI O n0 aD w0 D Shun (Al n0 i) a b M w)(s:∀u k,au (b7 M) u u->Fs i (w.at k) u->bT prog Post n Shun 0 (a4 (c.finish u) csZ) (w.at k)):bT prog Post n Shun 0 (a4 ((base 4).at b [.code .ret]) (c::csZ)) w:=by
 have l:=d.held.fC;have hd:b.defers=[]:=d.fd.defers.trans d.held.defers;obtain⟨v,e4,bV,aW,rfl,t,p,j⟩:=d.slots.2 (4,Ib n0 i) (by simp[Al]);have m:a.tmps[4]?=some (.P bV 0):=e4;have f4:b.tmps[4]?=some (.P bV 0):=(d.fd.same 4 h4).trans m;have h:M bV:=by have:=d.held.all.get 4 _ _ m m;cases this with|ptr r=>exact r.1.2
 have o:w.cell? (.a bV 0)=some aW:=by rw[p.rules.1];rfl
 have hv:au (b7 M) aW aW:=l.cell (a:=⟨bV,0,none⟩) h o;refine Dy Y λk=>⟨a4 {(base 4).at b [.code .ret]with mode:=.returning} (c::csZ),w.at k,#[],?_,AS,vac _,?_⟩
 .simp[a4,stepG,stepG.exec,Frame.at,base]
 .refine Dy Y λk'=>⟨a4 (c.finish (.agg #[aW])) csZ,w.at k',#[⟨.cell ⟨bV,0,none⟩,false,false⟩],?_,λe g=>?_,vac _,?_⟩
  .have q:=func4;have f:((w.at k).at k').cell? (.a bV 0)=some aW:=o;have j:(results Tryz.f4 b.tmps).run prog ((w.at k).at k')=.ok (.agg #[aW]) ((w.at k).at k'):=by simp[results,results4,go_sem,f4,f]
   have g:(results Tryz.f4 b.tmps).events prog ((w.at k).at k') #[]=#[⟨.cell ⟨bV,0,none⟩,false,false⟩]:=by simp[results,results4,go_sem,f4,f]
   have hs:=wz (es:=#[⟨.cell ⟨bV,0,none⟩,false,false⟩]) AA;simp only[a4,stepG,unwind,doReturn,Frame.at,base,hd,q,j,g,hs,vbe,GStep.after];rfl
  .simp at g;subst g;exact Kj (l.sh bV (.inl h) _ Y) (l.lt h) _
  .exact s _ k' (.qT (.one hv)) ⟨aW,Y,lv.kept (show iN rG w (w.at k')from⟨vac _,λ_ _ _ _ x _=>x⟩) j⟩
def azJ rv:jv (Am rv) ⟨#[undef,.I 40]++Array.replicate 121 undef,[]⟩ ⟨#[rv,.I 40]++Array.replicate 121 undef,[]⟩:=by
 have get:∀(x:Value)(i:Nat),(#[x,.I 40]++Array.replicate 121 undef:dX)[i]?=if i=0 then some x else if i=1 then some (.I 40)else if i<123 then some undef else none:=by
  intro x i;rcases i with _ | _ |i
  .grind
  .simp_all
  grind[Array.getElem?_append_right]
 refine⟨AS,λi hi=>?_,λi v hi hv=>?_,λi hi=>?_,Y⟩
 .have h0:i≠0:=λe=>by subst e;cases hi
  grind
 .rw[get]at hv;by_cases h0:i=0
  .grind
  .have h1:i≠1:=λe=>by subst e;cases hi
   grind
 simp_all[Am,BZ]
def azK{M w}(z:Home O prog M Shun w)(y:Is O rv rs)(t:∀u M' w',Home O prog M' Shun w'->(∀b,M b->M' b)->au (b7 M') u u->nu w w'->dy M w w'->Fs (kL (rs.take 40)) w' u->bT prog Post n Shun 0 (a4 (c.finish u) csZ) w'):
 bT prog Post n Shun 0 (a4 (Frame.enter prog 4 #[rv,.I 40] .normal) (c::csZ)) w:=by
 rw[vcj func4 (c:=BH Tryz.f4) Y];have s:aJ (b7 M) (#[undef,.I 40]++Array.replicate 121 undef) (#[undef,.I 40]++Array.replicate 121 undef):=by
  refine aJ.append (mw (l:=[undef,.I 40]) λx h=>?_) (Fg _ _);simp at h;rcases h with rfl|rfl
  .exact .undef _
  .exact .int _ _
 have H:Held O prog M w w.heap.size ⟨#[undef,.I 40]++Array.replicate 121 undef,[]⟩ M w Shun:=.start z JR s Y;refine LC nx Qv (Qu rv) (azJ rv) (show List.all _ (fK BZ)=true by decide+kernel) H (k:=[.code (BH Tryz.f4)]) (k':=.R (dT Tryz.f4 3) (List.range' 1 8)::p4 Tryz.f4) AD AD (I:=j6 123 []) (J:=j6 123 ((20,eO (.I (0:Nat)))::i8 w.heap.size rs 0)) (zf AA) (zf λp q=>?_) ⟨AS,AA⟩ (λW r _=>azn rs W r) ?_
 .grind[Bn,Iq]
 intro a1 b1 v w1 B g f;refine azH y (λa b A j i=>?_) 40 0 a1 b1 v w1 AQ AQ AQ ⟨B,g,f,λp q=>?_⟩
 .refine azI Y i λu k o ht=>?_;have d:=i.held.at k;exact t u A (j.at k) d.fC d.sub o d.since (λb cc e fr C m=>d.keep b cc e fr AA m) ht
 grind[Bn,Iq]
end
end
end aV
namespace aV
open Conc ConcM RowKit av bj cV dx bd b_ e9
variable{P:cE}
section
variable{n0:Nat}
def aDF{f:uak}{fn:Func}{c:Code}{args:dX}{w:aR}{R:hV}{ks:uab}(a:P.funcs[f]?=some fn)(d:fn.body=some c)(h:bI P [.code c] (.code .ret::ks) (λa1 w1=>a1.defers=[]/\∃v,(results fn a1.tmps).run P w1=.ok v w1/\R v w1) ⟨args++Array.replicate (fn.ntmps-args.size) undef,[]⟩ w):Calls P f args w λe w'=>∃v,e=.returned v/\R v w':=λcs=>by obtain⟨a1,w1,⟨hd,v,b,g⟩,h2⟩:=h (base f) cs;have h3:=Steps.trans h2 (.one step_ret);rw[<-vcj a d]at h3;exact⟨.returned v,w1,_,⟨v,Y,g⟩,h3,Y,Y,hd,Y,fn,a,b⟩
def Mp:vfc.follows .mixedOrders=true:=by decide+kernel
def k9{N K a w s b}(h:ak N K a w)(hs:K s=some (dt b)):a.eval (.tmp s)=.bool b:=by obtain⟨v,e,r⟩:=h.has s _ hs;exact(ej e).trans r
def yq{N:Nat}{ops:fF}{o:Oper}{l:ubc}{K K':b6}{d g t:Nat}{b:Bool}(hd:o.dst=some d)(h:tP P N ops l (up K d mT) K')(a5:d<N:=by decide)(hg:o.guard=some (g,b):=by rfl)(ht:(ops[g]?).bind (·.dst)=some t:=by rfl)(hk:K t=some mT:=by rfl):tP P N ops (o::l) K K':=⟨d,hd,a5,mT,.inr ⟨Gv,Y⟩,h⟩
def aDG m n:(!Op.bytesLess m n&& !m==n)=Op.bytesLess n m:=by grind[Ra,Mf,Q_]
structure hE(fb:Nat)(w w':aR):Prop where
 os:w'.os=w.os
 tape:w'.tape=w.tape
 output:w'.output=w.output
 size:w.heap.size<=w'.heap.size
 block:∀b,b<w.heap.size->b≠fb->w'.heap[b]?=w.heap[b]?
theorem hE.of{fb:Nat}{w w':aR}(h:c6 w w'):hE fb w w':=⟨h.os,h.tape,h.output,h.size,λb a _=>h.block b a⟩
theorem hE.trans{fb w w' w''}(h:hE fb w w')(k:hE fb w' w''):hE fb w w'':=⟨k.os.trans h.os,k.tape.trans h.tape,k.output.trans h.output,vad h.size k.size,λb a hn=>(k.block b (vak a h.size) hn).trans (h.block b a hn)⟩
def hE.below{fb B:Nat}{w w' W:aR}(h:hE fb w w')(c:Below B W w)(d:B<=fb)(hs:B<=w.heap.size):Below B W w':=⟨h.os.trans c.os,h.tape.trans c.tape,h.output.trans c.output,vad c.size h.size,λb a=>(h.block b (vak a hs) AQ).trans (c.block b a)⟩
def hE.set{w}fb i v:hE fb w (w.setCell ⟨fb,i,none⟩ v):=⟨Y,Y,Y,AS,λb a hn=>vat w _ _ b hn⟩
structure aDH(cz:aR)(t:List a9)(w:aR)(v:Value):Prop where
 box:∃b aW,v=.P b 0/\ag w b #[aW] 27/\lv cz aW t
 aDI:c6 cz w
 aDJ:cz.heap.size<=w.heap.size
def s_(cz:aR)(t:List a9):bg:=⟨aDH cz t,λw w' v hb⟨⟨b,aW,e,h1,h2⟩,h3,h4⟩=>⟨⟨b,aW,e,h1.call hb,h2⟩,h3.trans (hb.mono h4),vad h4 hb.size⟩,λ_=>False,λ_ h=>h.elim⟩
def yr(l:uba):Array Value:=(l.map Value.bool).toArray
def ua(fb:Nat)(l:uba):bg:=⟨λw v=>v=.S fb 0 l.length l.length/\ag w fb (yr l) 4,λ_ _ _ hb h=>⟨h.1,h.2.call hb⟩,λ_=>False,λ_ h=>h.elim⟩
def IN(fb:Nat)(F:bg):Prop:=∀w w' v,hE fb w w'->(∃c,ag w fb c 4)->F.R w v->F.R w' v
def Ax fb n:IN fb (bG n):=λ_ _ _ _ _ r=>r
def pP fb n:IN fb (dt n):=λ_ _ _ _ _ r=>r
def aDK fb n:IN fb (Bp n):=λ_ _ _ _ _ r=>r
def Rp{fb cz t}(g:cz.heap.size<=fb):IN fb (s_ cz t):=λw w' v a⟨c,f⟩⟨⟨b,aW,e,h1,h2⟩,h3,h4⟩=>⟨⟨b,aW,e,(a.block b h1.lt λe=>by
 subst e;have h:w.heap[b]?=some (.cells #[aW] 27):=h1;have d:w.heap[b]?=some (.cells c 4):=f;grind).trans h1,h2⟩,a.below h3 g h4,vad h4 a.size⟩
def X4(fb:Nat):List (Nat×bg)->Prop
 | []=>True
 |p::l=>IN fb p.2/\X4 fb l
def ak.but{fb N a w w' l}(h:ak N (bh l) a w)(i:hE fb w w')(g:∃c,ag w fb c 4)(f:X4 fb l):ak N (bh l) a w':=⟨h.size,λs F e=>by
 obtain⟨v,h1,h2⟩:=h.has s F e;refine⟨v,h1,?_⟩;have key:∀l:List (Nat×bg),X4 fb l->bh l s=some F->IN fb F:=by
  intro l;induction l with
  |nil=>intro _ e;cases e
  |cons p l d=>
   intro b e;unfold bh at e;split at e
   .cases e;exact b.1
   .exact d b.2 e
 exact key l f e w w' v i g h2⟩
section
variable{N:Nat}{K:b6}{o:Oper}{F:bg}{x y z:uam}{ats:uaq}{T T':uaa}
def aDL{cz t w v}(h:(s_ cz t).R w v):(tZ t).R w v:=by obtain⟨⟨b,aW,e,h1,h2⟩,h3,h4⟩:=h;exact⟨b,aW,e,vax _,h1,lv.kept (Fq h3) h2⟩
def pO{t w v}(h:(tZ t).R w v):(s_ w t).R w v:=by obtain⟨b,aW,e,-,h1,h2⟩:=h;exact⟨⟨b,aW,e,h1,h2⟩,vaa _ _,vac _⟩
def pM{F G b s}(hF:K s=some F)(c:∀w v,F.R w v->G.R w v)(h:∀K',K' s=some G->bU P N K' o b):bU P N K o b:=λa w hk=>by
 obtain⟨v,e,r⟩:=hk.has s _ hF;exact h (λi=>if i=s then some G else none) AA a w ⟨hk.size,λi H q=>by
  grind⟩
def jY{cz t}{s:Nat}(b:o.op=.fieldAddr 27 (.tmp s) 0)(a:K s=some (s_ cz t)):bU vfc N K o (ji (HU 5 VR) t):=pM a (λ_ _=>aDL) λ_ h=>LP b h
def yt(cz:aR)(t:List a9):bg:=⟨λw v=>(∃aW,v=.agg #[aW]/\lv cz aW t)/\c6 cz w/\cz.heap.size<=w.heap.size,λ_ _ _ hb⟨h1,h3,h4⟩=>⟨h1,h3.trans (hb.mono h4),vad h4 hb.size⟩,λ_=>False,λ_ h=>h.elim⟩
def aDM{cz t}w v(h:(yt cz t).R w v):(rW t).R w v:=by obtain⟨⟨aW,e,h1⟩,h3,h4⟩:=h;exact⟨aW,e,lv.kept (Fq h3) h1⟩
def Ay{cz t}(c:o.op=.load 27 x)(d:bw K x (s_ cz t)):bU vfc N K o (yt cz t):=fe d λev w h=>by obtain⟨⟨b,aW,e,h1,h2⟩,h3,h4⟩:=h;obtain⟨f,gG,fx⟩:=h1.all;have a:Hid _:=And.intro h2 (And.intro h3 h4);clear h1 h2 h3 h4;exact⟨.agg #[aW],w,by cases o;simp only at c;subst c;go_simp,⟨⟨aW,Y,a.out.1⟩,a.out.2.1,a.out.2.2⟩,vaa _ _⟩
def pt{cz t}(c:o.op=.box 27 x)(g:bw K x (yt cz t)):bU vfc N K o (s_ cz t):=fe g λev w h=>by obtain⟨⟨aW,e,h1⟩,h3,h4⟩:=h;obtain⟨⟨f,d,rfl,-,-⟩,-⟩:=id h1;have a:c6 w (w.alloc (.cells #[.slice f t.length d] 27)):=(vaa _ w).alloc JR _;have bO:=ag.new w #[.slice f t.length d] 27;have b:Hid _:=And.intro h1 (And.intro (h3.trans (a.mono h4)) (vad h4 a.size));clear h1 h3 h4;exact⟨.P w.heap.size 0,_,by cases o;simp only at c;subst c;go_simp,⟨⟨w.heap.size,_,Y,bO,b.out.1⟩,b.out.2.1,b.out.2.2⟩,a⟩
def Rq{t n}(c:o.op=.call {callee:=.value (.func 7),args:=#[x],argTypes:=ats})(b:bw K x (rW t))(h0:0<t.length)(hn:t[0].ff.length=n):bU vfc N K o (bG (n:Int)):=O5 c (λa w=>aur a w) b λv w h=>by obtain⟨aW,rfl,h1⟩:=h;refine(auw aW t h0 w h1.cQ).mono ?_;rintro e w' ⟨rfl,d⟩;exact⟨_,Y,by rw[hn];rfl,d⟩
def F6{cz t}{n s:Nat}(b:o.op=.call {callee:=.value (.func 7),args:=#[.tmp s],argTypes:=ats})(a:K s=some (yt cz t))(h0:0<t.length)(hn:t[0].ff.length=n):bU vfc N K o (bG (n:Int)):=pM a aDM λ_ h=>Rq b h h0 hn
def Rr{m n}(a:o.op=.binOp .eql 4 x y T')(c:bw K x (dt m))(b:bw K y (dt n)):bU vfc N K o (dt (m==n)):=sR c b λev w e1 e2=>⟨.bool (m==n),w,by
 have e1:ev x=.bool m:=e1;have e2:ev y=.bool n:=e2;cases o;simp only at a;subst a;cases m<;>cases n<;>go_simp,Y,vaa _ _⟩
def po{m n}(a:o.op=.binOp .neq 4 x y T')(c:bw K x (dt m))(b:bw K y (dt n)):bU vfc N K o (dt (m != n)):=sR c b λev w e1 e2=>⟨.bool (m != n),w,by
 have e1:ev x=.bool m:=e1;have e2:ev y=.bool n:=e2;cases o;simp only at a;subst a;cases m<;>cases n<;>go_simp,Y,vaa _ _⟩
def aDN{m n}(a:o.op=.binOp .gtr 9 x y T')(c:bw K x (Bp m))(b:bw K y (Bp n)):bU vfc N K o (dt (Op.bytesLess n.toList m.toList)):=sR c b λev w e1 e2=>⟨.bool (Op.bytesLess n.toList m.toList),w,by
 have e1:ev x=.string m:=e1;have e2:ev y=.string n:=e2;cases o;simp only at a;subst a;go_simp
 exact aDG _ _,Y,vaa _ _⟩
def aDO{m n}(a:o.op=.binOp .geq T x y T')(c:bw K x (bG m))(b:bw K y (bG n))(d:u9 T)(h:¬n<=m):bU vfc N K o (dt false):=z6 c b (λ_=>Y) λev w e1 e2=>by have h:¬m ≥ n:=h;rcases d with rfl|rfl<;>(cases o;simp only at a;subst a;go_simp)
def IP{m n}(c:o.op=.binOp .eql T x y T')(b:bw K x (bG m))(a:bw K y (bG n))(d:u9 T)(h:m=n):bU vfc N K o (dt true):=by have:=u_ (N:=N) c b a d;grind
def X5{fb i:Nat}{l}(a:o.op=.indexAddr 43 x y)(c:bw K x (ua fb l))(b:bw K y (bG (i:Int)))(hi:i<l.length)(d:l.length<=1000):bU vfc N K o (ig (.P fb i)):=sR c b λev w e1 e2=>⟨.P fb i,w,by
 have e1:ev x=.S fb 0 l.length l.length:=e1.1;have e2:ev y=.I (i:Int):=e2;have h1:(i:Int)<(l.length:Int):=AQ;have h2:(0:Int)<=(i:Int):=AQ;generalize l.length=n at *;cases o;simp only at a;subst a;go_simp,Y,vaa _ _⟩
def pk(B n:Nat):bg:=⟨λw v=>∃fb,B<=fb/\(ua fb (List.replicate n false)).R w v,λ_ _ _ hb⟨fb,h0,h⟩=>⟨fb,h0,(ua _ _).jS _ _ _ hb h⟩,λ_=>False,λ_ h=>h.elim⟩
def aDP{n:Nat}{cz t}{s:Nat}(d:o.op=.makeSlice 43 x y)(c:bw K x (bG n))(b:bw K y (bG n))(hn:n<=1000)(hs:K s=some (s_ cz t)):bU vfc N K o (pk cz.heap.size n):=λa w hk=>by obtain⟨f,-,e⟩:=hk.has s _ hs;have e1:a.eval x=.I n:=hk.ev c;have e2:a.eval y=.I n:=hk.ev b;have bO:=ag.new w (Array.replicate n (.F)) 4;refine .inl ⟨.S w.heap.size 0 n n,w.alloc (.cells (Array.replicate n (.F)) 4),?_,⟨w.heap.size,e.aDJ,AA,by simpa[yr]using bO⟩,(vaa _ w).alloc JR _⟩;obtain⟨i,h1,h2,h3,h4⟩:=vce (show(prog.info? 4).map (λi=>(i.zero,i.size,i.bytes))=some (some (.F),1,1)from AB);have:=run_make (P:=ae prog true) w 43 4 i _ BB h1 h2 .i64 .i64 n n AQ AQ AA AQ;generalize a.eval=ev at e1 e2⊢;simp[execOp,d,e1,e2,this,h3,madeCells,go_sem];rw[show(λx=>[Value.bool false][x % 1]?.getD default)=λ_:Nat=>Value.bool false from funext λx=>AA,show Array.map (λ_:Nat=>Value.bool false) (Array.range n)=Array.replicate n (.F)from Array.ext AS AA]
end
def o8{N:Nat}{K o}{s q fb i:Nat}{l}(b:o.op=.load 4 (.tmp s))(d:K s=some (ig (.P fb i)))(hq:K q=some (ua fb l))(hi:i<l.length):bU vfc N K o (dt (l.getD i false)):=λa w hk=>by
 obtain⟨v,-,-,c⟩:=hk.has q _ hq;obtain⟨u,e,rfl⟩:=hk.has s _ d;have e:=ej e;have f:w.cell? (.a fb i)=some (.bool (l.getD i false)):=by rw[c.rules.1];simp[yr,hi]
 clear c;refine .inl ⟨.bool (l.getD i false),w,?_,Y,vaa _ _⟩;generalize a.eval=ev at e⊢;generalize l.getD i false=z at f⊢;cases o;simp only at b;subst b;go_simp
def aDQ{ops:fF}{k p fb i:Nat}{o:Oper}{l:uba}{a:Act}{w:aR}(h:ops[k]?=some o)(hg:o.guard=none)(hd:o.dst=none)(c:o.op=.store 4 (.tmp p) (.const (.T)))(f:a.tmps[p]?=some (.P fb i))(d:ag w fb (yr l) 4)(hi:i<l.length):wpOps vfc ops (jg λa1 w1=>a1=a/\w1=w.setCell ⟨fb,i,none⟩ (.T)) [k] a w:=by
 refine Bo h hg hd ?_ ⟨Y,Y⟩;have e:=ej f;have e2:a.eval (.const (.T))=.T:=rfl;obtain⟨r1,b⟩:=d.rules;have j:w.cell? (.a fb i)=some (.bool l[i]):=by grind[yr]
 have g:=b i;generalize a.eval=ev at e e2⊢;clear d r1 b;cases o;simp only at c;subst c;go_simp
def aDR l i:(yr l).setIfInBounds i (.T)=yr (l.set i true):=by simp[yr]
end
section
variable{n0:Nat}
def lJ(l:fF){l':fF}(e:l=l':=by simp only[az,rV,Tryz.f3,vaf,Nat.reduceBEq,vah,↓reduceIte];exact rfl):l=l':=e
def oR(F:Func):Code:=.seq (.region 23 (az F 23) false) .ret
def X6(F:Func):Code:=.seq (.region 19 (az F 19) false) (.seq (.seq (.region 20 (az F 20) false) (.cond (.tmp 102) (.seq (.region 21 (az F 21) false) .ret) .skip)) (.region 22 (az F 22) false))
def oQ(F:Func):Code:=.seq (.seq (.region 16 (az F 16) false) (.cond (.tmp 90) (.exit 3) .skip)) (.seq (.seq (.region 17 (az F 17) false) (.cond (.tmp 94) (.seq (.region 18 (az F 18) false) .ret) .skip)) (X6 F))
def F7(F:Func):Code:=.seq (.seq (.region 14 (az F 14) false) (.cond (.tmp 84) .skip (.exit 2))) (.seq (.block 3 (oQ F)) (.region 15 (az F 15) false))
def X7(F:Func):Code:=.seq (.region 11 (az F 11) false) (.seq (.region 12 (az F 12) false) (.seq (.seq (.region 13 (az F 13) false) (.block 2 (.loop (F7 F)))) (oR F)))
def Mq(F:Func):Code:=.seq (.seq (.region 7 (az F 7) false) (.cond (.tmp 53) .skip (.exit 0))) (.seq (.block 1 (.seq (.region 9 (az F 9) true) (.cond (.tmp 77) (.seq (.region 10 (az F 10) false) .ret) .skip))) (.region 8 (az F 8) false))
def B9(F:Func):Code:=.seq (.seq (.region 4 (az F 4) true) (.cond (.tmp 51) (.seq (.region 5 (az F 5) false) .ret) .skip)) (.seq (.seq (.region 6 (az F 6) false) (.block 0 (.loop (Mq F)))) (X7 F))
def Rs(F:Func):Code:=.seq (.region 2 (az F 2) false) (.seq (.region 3 (az F 3) true) (B9 F))
theorem oP:Tryz.f3.body=some (.seq (.region 0 (az Tryz.f3 0) false) (.seq (.region 1 (az Tryz.f3 1) false) (Rs Tryz.f3))):=by kernel_rfl
def oJ{ρ w w'}(d:sK n0 ρ w w'){b a}(r:ρ.rel b a){l:uai}{T}(h:ag w b l.toArray T)(c:∀x∈l,wH x):ag w' a l.toArray T:=by grind[LD,VS]
def oA:∀{l:ubm}{x:Value},x∈l.map (λz=>Value.int .i64 z)->wH x:=λh=>by obtain⟨z,-,rfl⟩:=vbl.1 h;exact .int _ _
abbrev X8:List Int:=[1,-1,1,1,2,2,3,1,4,3]
abbrev Mr(l:ubm):List Value:=l.map λz=>Value.int .i64 z
abbrev Az(kb aU:Nat):List Value:=[.I 5,.I 0,.I 0,.N,.S kb 0 1 1,.N,.S aU 0 5 5]
def B_(w:aR)(kb aU:Nat):Prop:=ag w kb (Mr [0]).toArray 3/\ag w aU (Mr X8).toArray 31
def B_.below{w w':aR}{kb aU:Nat}(h:B_ w kb aU)(a:c6 w w'):B_ w' kb aU:=⟨h.1.call a,h.2.call a⟩
theorem oy{ρ:Ren}{w w':aR}(e:sK n0 ρ w w'){kb aU:Nat}(h:B_ w kb aU){d:uai}(m:dJ (au ρ) (Az kb aU) d):∃b a,d=Az b a/\B_ w' b a:=by
 cases m with
 |cons l q=>cases q with
  |cons k q=>cases q with
   |cons j q=>cases q with
    |cons i q=>cases q with
     |cons o q=>cases q with
      |cons n q=>cases q with
       |cons g q=>cases q;obtain⟨b,eE,f⟩:=rH o;obtain⟨a,p,r⟩:=rH g;subst eE;subst p;rw[hP l,hP k,hP j,lx i,lx n];exact⟨b,a,Y,oJ e f h.1 λx c=>oA c,oJ e r h.2 λx c=>oA c⟩
def Rv:bg:=⟨λw v=>∃kb aU,v=.agg (Az kb aU).toArray/\B_ w kb aU,λ_ _ _ hb⟨kb,aU,e,h⟩=>⟨kb,aU,e,h.below hb⟩,λ_=>True,λn _ ρ w w' v v' hc hv⟨kb,aU,e,h⟩=>by
 grind[uU,oy]⟩
def Rw:bg:=⟨λw v=>∃dC kb aU,v=.P dC 0/\ag w dC (Az kb aU).toArray 35/\B_ w kb aU,λ_ _ _ hb⟨dC,kb,aU,e,h1,h⟩=>⟨dC,kb,aU,e,h1.call hb,h.below hb⟩,λ_=>True,λn _ ρ w w' v v' hc hv⟨dC,kb,aU,e,h1,h⟩=>by
 grind[zg,LD,oy]⟩
def aDT:∀x∈[Value.int .i64 1,.I 0,.I 0,.N,.N,.N,.N],wH x:=by intro x a;simp at a;rcases a with rfl|rfl|rfl<;>first|exact .int _ _ |exact .nil _ _
def od:bg:=WZ _ aDT
def oa:bg:=⟨λw v=>∃b,v=.S b 0 1 1/\ag w b (Mr [0]).toArray 3,λ_ _ _ hb⟨b,e,h⟩=>⟨b,e,h.call hb⟩,λ_=>False,λ_ h=>h.elim⟩
def n7:bg:=⟨λw v=>∃b,v=.S b 0 5 5/\ag w b (Mr X8).toArray 31,λ_ _ _ hb⟨b,e,h⟩=>⟨b,e,h.call hb⟩,λ_=>False,λ_ h=>h.elim⟩
abbrev w7(k c:Int):Value:=.agg #[.I k,.I c]
section
variable{N:Nat}{K:b6}{o:Oper}{F:bg}{x y z u v:uam}{ats:uaq}
def aDU(c:o.op=.call {callee:=.value (.func 6),args:=#[x],argTypes:=ats})(b:bw K x (bG 0)):bU vfc N K o od:=O5 c (λa w=>auq a w) b λv w h=>by cases h;refine(auv 0 w).mono ?_;rintro e w' ⟨rfl,d⟩;exact⟨_,Y,Y,d⟩
def aDV(a:o.op=.buildSlice 29 1 #[(0,x)])(b:bw K x (bG 0)):bU vfc N K o oa:=fe b λev w h=>by have h:ev x=.I 0:=h;exact⟨_,w.alloc (.cells #[.I 0] 3),A9,⟨w.heap.size,Y,ag.new w _ _⟩,(vaa _ w).alloc JR _⟩
def Mt{k c}(a:o.op=.build 31 #[(0,x),(1,y)])(e:bw K x (bG k))(d:bw K y (bG c)):bU vfc N K o (ig (w7 k c)):=sR e d λev w h b=>by have h:ev x=.I k:=h;have b:ev y=.I c:=b;exact⟨_,w,A9,Y,vaa _ _⟩
def aDW(b:o.op=.buildSlice 32 5 #[(0,x),(1,y),(2,z),(3,u),(4,v)])(e:bw K x (ig (w7 1 (-1))))(d:bw K y (ig (w7 1 1)))(c:bw K z (ig (w7 2 2)))(f:bw K u (ig (w7 3 1)))(hv:bw K v (ig (w7 4 3))):bU vfc N K o n7:=λa w hk=>by have e1:a.eval x=w7 1 (-1):=hk.ev e;have e2:a.eval y=w7 1 1:=hk.ev d;have e3:a.eval z=w7 2 2:=hk.ev c;have e4:a.eval u=w7 3 1:=hk.ev f;have eE:a.eval v=w7 4 3:=hk.ev hv;refine .inl ⟨.S w.heap.size 0 5 5,w.alloc (.cells (Mr X8).toArray 31),?_,⟨w.heap.size,Y,ag.new w _ _⟩,(vaa _ w).alloc JR _⟩;generalize a.eval=ev at e1 e2 e3 e4 eE⊢;cases o;simp only at b;subst b;go_simp
def aDX(b:o.op=.build 35 #[(0,.const (.I 5)),(1,.const (.I 0)),(4,x),(6,y)])(f:bw K x oa)(e:bw K y n7):bU vfc N K o Rv:=λa w hk=>by obtain⟨kb,e4,h4⟩:=hk.ev f;obtain⟨aU,d,c⟩:=hk.ev e;refine .inl ⟨.agg (Az kb aU).toArray,w,?_,⟨kb,aU,Y,h4,c⟩,vaa _ _⟩;clear h4 c;have e0:a.eval (.const (.I 5))=.I 5:=rfl;have e1:a.eval (.const (.I 0))=.I 0:=rfl;generalize a.eval=ev at e0 e1 e4 d⊢;cases o;simp only at b;subst b;go_simp
def aDY(a:o.op=.load 35 x)(b:bw K x Rw):bU vfc N K o Rv:=fe b λev w h=>by obtain⟨f,kb,aU,e,h1,h⟩:=h;have c:Hid _:=h;clear h;obtain⟨d,gG,fx⟩:=h1.all;clear h1;exact⟨.agg (Az kb aU).toArray,w,A9,⟨kb,aU,Y,c.out⟩,vaa _ _⟩
def aDZ(a:o.op=.buildSlice 40 2 #[(0,x),(1,y)])(f:bw K x od)(d:bw K y Rv):bU vfc N K o Pv:=sR f d λev w h g=>by
 have h:ev x=.agg #[.I 1,.I 0,.I 0,.N,.N,.N,.N]:=h;obtain⟨kb,aU,e,hg⟩:=g;have b:c6 w (w.alloc (.cells ([Value.int .i64 1,.I 0,.I 0,.N,.N,.N,.N]++Az kb aU).toArray 35)):=(vaa _ w).alloc JR _;have bO:=ag.new w ([Value.int .i64 1,.I 0,.I 0,.N,.N,.N,.N]++Az kb aU).toArray 35;have c:Hid _:=hg.below b;clear hg;refine⟨.S w.heap.size 0 2 2,_,A9,⟨w.heap.size,0,2,some ⟨kb,0,none⟩,some ⟨aU,0,none⟩,1,5,Y,?_,?_,?_,?_⟩,b⟩
 .intro j q hq;rw[bO.rules.1];match j with|0|1|2|3|4|5|6=>exact hq|j+7=>simp[kU]at hq
 .intro j q hq;rw[bO.rules.1];match j with|0|1|2|3|4|5|6=>exact hq|j+7=>simp[kU]at hq
 .refine⟨_,1,Y,AS,λi hi=>⟨kb,0,Y,?_⟩⟩;obtain rfl:i=0:=by simpa using hi
  exact c.out.1.rules.1 0
 .refine⟨_,5,Y,by simp[jN],λi hi=>⟨aU,0,Y,?_⟩⟩;have r:=c.out.2.rules.1;obtain rfl|rfl|rfl|rfl|rfl:i=0\/i=1\/i=2\/i=3\/i=4:=by have:i<5:=hi;omega
  .exact⟨r 0,r 1⟩
  .exact⟨r 2,r 3⟩
  .exact⟨r 4,r 5⟩
  .exact⟨r 6,r 7⟩
  .exact⟨r 8,r 9⟩
def aD0{t}(a:o.op=.buildSlice 38 1 #[(0,x)])(d:bw K x (rW t)):bU vfc N K o (Pu t):=fe d λev w h=>by obtain⟨c,e,h⟩:=h;obtain⟨⟨g,cap,rfl,-,-⟩,-⟩:=id h;have b:c6 w (w.alloc (.cells #[.slice g t.length cap] 27)):=(vaa _ w).alloc JR _;have f:=bo.mono si (bp.cy b) h.cQ;clear h;exact⟨.S w.heap.size 0 1 1,_,A9,⟨w.heap.size,0,1,_,Y,(ag.new w _ _).rules.1 0,f⟩,b⟩
def aD1{o2:Oper}{ops:fF}{i d s:Nat}{Q:uao}{rest:uac}{a:Act}{w:aR}(h1:ops[i]?=some o)(h2:ops[i+1]?=some o2)(e:o.op=.alloc 35)(c:o2.op=.store 35 (.tmp d) (.tmp s))(j:K s=some Rv)(hk:ak N K a w)(hd:o.dst=some d)(f:o2.dst=none)(g1:o.guard=none)(l:o2.guard=none)(a5:d<N)(p:d≠s)(k:∀a' w1,ak N (up K d Rw) a' w1->a'.defers=a.defers->c6 w w1->wpOps vfc ops Q rest a' w1):wpOps vfc ops Q (i::(i+1)::rest) a w:=by
 obtain⟨v,e1,kb,aU,rfl,h⟩:=hk.has s _ j;have b:c6 w (w.alloc (.cells (Az kb aU).toArray 35)):=(vaa _ w).alloc JR _;have m:Hid _:=h;clear h;refine VX (F:=Rw) (z7:=w.alloc (.cells #[.I 0,.I 0,.I 0,.N,.N,.N,.N] 35)) h1 h2 g1 l hd f a5 p hk e1 (λev=>?_) (λev aZ a3=>?_) b ⟨w.heap.size,kb,aU,Y,ag.new _ _ _,B_.below m.out b⟩ λa' n g=>k a' _ n g b
 .cases o;simp only at e;subst e;go_simp
 .cases o2;simp only at c;subst c;go_simp
end
end
def kf(l:fF){l':fF}(e:l=l':=by simp only[az,rV,Tryz.f8,vaf,Nat.reduceBEq,vah,↓reduceIte];exact rfl):l=l':=e
def w8{N K o b c}(h:bU vfc N K o (dt b))(e:b=c):bU vfc N K o (dt c):=e▸h
def X9(F:Func):Code:=.seq (.region 11 (az F 11) true) (.cond (.tmp 64) (.exit 1) .skip)
def X_(F:Func):Code:=.seq (.region 14 (az F 14) false) (.cond (.tmp 78) (.seq (.seq (.region 15 (az F 15) false) (.cond (.tmp 92) (.region 16 (az F 16) false) .skip)) (.region 17 (az F 17) false)) .skip)
def Ya(F:Func):Code:=.seq (.region 18 (az F 18) false) (.cond (.tmp 111) (.seq (.region 19 (az F 19) false) (.region 20 (az F 20) false)) .skip)
def Yb(F:Func):Code:=.seq (.region 21 (az F 21) false) (.cond (.tmp 146) (.seq (.region 22 (az F 22) false) (.region 23 (az F 23) false)) .skip)
def F8(F:Func):Code:=.seq (.seq (.region 9 (az F 9) false) (.cond (.tmp 26) .skip (.exit 0))) (.seq (.block 1 (.seq (X9 F) (.seq (.region 12 (az F 12) false) (.seq (.region 13 (az F 13) false) (.seq (X_ F) (.seq (Ya F) (Yb F))))))) (.region 10 (az F 10) false))
def Yc(F:Func):Code:=.seq (.region 24 (az F 24) true) (.seq (.region 25 (az F 25) false) (.seq (.region 26 (az F 26) false) (.seq (.region 27 (az F 27) false) .ret)))
def nM(F:Func):Code:=.seq (.region 3 (az F 3) false) (.seq (.region 4 (az F 4) false) (.seq (.region 5 (az F 5) false) (.seq (.region 6 (az F 6) false) (.seq (.region 7 (az F 7) false) (.seq (.seq (.region 8 (az F 8) false) (.block 0 (.loop (F8 F)))) (Yc F))))))
theorem aD2:f8.body=some (.seq (.region 0 (az f8 0) false) (.seq (.region 1 (az f8 1) false) (.seq (.region 2 (az f8 2) false) (nM f8)))):=by kernel_rfl
def nJ{N l a w q F}(h:ak N (bh l) a w)(hq:bh l q=some F:=by rfl):ak N (bh ((q,F)::l)) a w:=by obtain⟨v,e,r⟩:=h.has q F hq;exact en e r h
abbrev nA(cz:aR)(t x:List a9)(i g:Nat)(s:jk)(j:Nat):List (Nat×bg):=[(1,bG (i:Int)),(4,bG (g:Int)),(5,s_ cz t),(8,s_ cz x),(11,bG s.n),(12,bG s.some),(13,bG s.sum),(14,dt s.vr),(15,bG s.least),(16,Bp s.last),(17,dt s.texts),(18,bG (j:Int))]
abbrev k_(cz:aR)(t x:List a9)(i g fb:Nat)(l:uba)(s:jk)(j:Nat):List (Nat×bg):=(2,ua fb l)::nA cz t x i g s j
section
variable{cz:aR}{t x:List a9}{i g fb j:Nat}{l:uba}{s:jk}{a:Act}{w:aR}{ks ks':uab}{Q:uae}{b3 c1 bt cF:a9}
def aD3{d bi c xi}(e0:t[0]?=some b3)(h:b3.ff[j]?=some d)(n:b3.im[j]?=some c)(k:b3.ff[i]?=some bi)(f:b3.im[i]?=some xi)(hk:ak 315 (bh (k_ cz t x i g fb l s j)) a w)(kk:∀a' w',c6 w w'->ak 315 (bh (k_ cz t x i g fb l s j)) a' w'->a'.defers=a.defers->bI vfc (if(d==bi&&c==xi)=true then ks else .code (.exit 1)::ks) ks' Q a' w'):bI vfc (.code (X9 f8)::ks) ks' Q a w:=by
 unfold X9;refine bC ?_;rw[kf (az f8 11)];cases h1:d != bi with|true=>have e:(d==bi&&c==xi)=false:=BB;rw[e]at kk;refine Kt (m:=36) hk (dq Y J1<|dq Y Jd<|dq Y (cT (i:=0) Y Y Jg e0 AF)<|dq Y J5<|dq Y Jd<|dq Y Jc<|dq Y (cT Y Y Y h AF)<|dq Y Jy<|dq Y J1<|dq Y Jd<|dq Y (cT (i:=0) Y Y Jg e0 AF)<|dq Y J5<|dq Y Jd<|dq Y Jc<|dq Y (cT Y Y Y k AF)<|dq Y Jy<|dq Y (w8 (po Y Y Y) h1)<|dq Y Jc<|pK Y<|pK Y<|pK Y<|pK Y<|pK Y<|pK Y<|pK Y<|pK Y<|pK Y<|pK Y<|pK Y<|pK Y<|pK Y<|pK Y<|pK Y<|pK Y<|pK Y<|dq Y (iY (F:=dt true) Y Y Jg)<|rfl) Y Mp AD λa1 w1 b d1 b1=>⟨Y,gh (t:=true) (k9 b Y) (kk a1 w1 b1 (b.aT ⟨Y,Y,Y,Y,Y,Y,Y,Y,Y,Y,Y,Y,Y,NE⟩) d1)⟩|false=>have e:(d==bi&&c==xi)=(c==xi):=BB;rw[e]at kk;refine Kt (m:=36) hk (dq Y J1<|dq Y Jd<|dq Y (cT (i:=0) Y Y Jg e0 AF)<|dq Y J5<|dq Y Jd<|dq Y Jc<|dq Y (cT Y Y Y h AF)<|dq Y Jy<|dq Y J1<|dq Y Jd<|dq Y (cT (i:=0) Y Y Jg e0 AF)<|dq Y J5<|dq Y Jd<|dq Y Jc<|dq Y (cT Y Y Y k AF)<|dq Y Jy<|dq Y (w8 (po Y Y Y) h1)<|dq Y Jc<|eA Y J1<|eA Y Jd<|eA Y (cT (i:=0) Y Y Jg e0 AF)<|eA Y KH<|eA Y Jd<|eA Y Jc<|eA Y (cT Y Y Y n AF)<|eA Y Jx<|eA Y J1<|eA Y Jd<|eA Y (cT (i:=0) Y Y Jg e0 AF)<|eA Y KH<|eA Y Jd<|eA Y Jc<|eA Y (cT Y Y Y f AF)<|eA Y Jx<|eA Y (auC Y Y Y AF)<|dq Y KG<|rfl) Y Mp AD λa1 w1 b d1 b1=>⟨Y,?_⟩;cases h2:c != xi with|true=>have e2:(c==xi)=false:=BB;rw[h2]at b;rw[e2]at kk;exact gh (t:=true) (k9 b Y) (kk a1 w1 b1 (b.aT ⟨Y,Y,Y,Y,Y,Y,Y,Y,Y,Y,Y,Y,Y,NE⟩) d1)|false=>have e2:(c==xi)=true:=BB;rw[h2]at b;rw[e2]at kk;exact gh (t:=false) (k9 b Y) (nv (kk a1 w1 b1 (b.aT ⟨Y,Y,Y,Y,Y,Y,Y,Y,Y,Y,Y,Y,Y,NE⟩) d1))
def aD5(f:cz.heap.size<=fb)(e:j<l.length)(o:l.length<=1000)(hk:ak 315 (bh (k_ cz t x i g fb l s j)) a w)(kk:∀a' w',hE fb w w'->ak 315 (bh (k_ cz t x i g fb (l.set j true) s j)) a' w'->a'.defers=a.defers->bI vfc ks ks' Q a' w'):bI vfc (.code (.region 12 (az f8 12) false)::ks) ks' Q a w:=by
 rw[kf (az f8 12)];refine O6 (m:=3) hk (ap Y Jc<|ap Y Jc<|ap Y (X5 Y Y Y e o)<|rfl) AF λa1 w1 b d1 b1=>?_;obtain⟨u,d,n⟩:=b.has 67 (ig (.P fb j)) Y;have d:a1.tmps[67]?=some (.P fb j):=n▸d;obtain⟨v2,e2,q,c⟩:=b.has 2 (ua fb l) Y;refine mS (aDQ (k:=3) Y Y Y Y d c e) ?_;rintro h p ⟨rfl,rfl⟩;refine vW ?_;have bs:=hE.set (w:=w1) fb j (.T);have kb:=(b.aT (l:=nA cz t x i g s j) ⟨Y,Y,Y,Y,Y,Y,Y,Y,Y,Y,Y,Y,NE⟩).but bs ⟨_,c⟩ ⟨Ax _ _,Ax _ _,Rp f,Rp f,Ax _ _,Ax _ _,Ax _ _,pP _ _,Ax _ _,aDK _ _,pP _ _,Ax _ _,NE⟩;have kc:ak 315 (bh (k_ cz t x i g fb (l.set j true) s j)) h (w1.setCell ⟨fb,j,none⟩ (.T)):=en e2 ⟨AA,by rw[<-aDR];exact c.set j _⟩ kb;exact kk h _ ((hE.of b1).trans bs) kc d1
def aD6(hI:ek (s.n+1))(hk:ak 315 (bh (k_ cz t x i g fb l s j)) a w)(kk:∀a' w',c6 w w'->ak 315 (bh (k_ cz t x i g fb l {s with n:=s.n+1} j)) a' w'->a'.defers=a.defers->bI vfc ks ks' Q a' w'):bI vfc (.code (.region 13 (az f8 13) false)::ks) ks' Q a w:=by rw[kf (az f8 13)];exact dl hk (ap Y Jc<|ap Y (x8 Y Y Jg hI AF)<|ap Y Jt<|rfl) λd b c d3 e=>kk d b e (c.aT ⟨Y,Y,Y,Y,Y,Y,Y,Y,Y,Y,Y,Y,Y,NE⟩) d3
def aD7{v:bz}(e1:t[1]?=some c1)(r:c1.ff[j]?=some v.bR)(q:c1.im[j]?=some v.num)(hI:ek (s.some+1))(hk:ak 315 (bh (k_ cz t x i g fb l s j)) a w)(kk:∀a' w',c6 w w'->ak 315 (bh (k_ cz t x i g fb l {s with some:=if v.bR then s.some else s.some+1,least:=if !v.bR&&(s.some==0||decide (v.num<s.least))then v.num else s.least} j)) a' w'->a'.defers=a.defers->bI vfc ks ks' Q a' w'):bI vfc (.code (X_ f8)::ks) ks' Q a w:=by
 unfold X_;refine bC ?_;rw[kf (az f8 14)];obtain⟨u,f,vs,y⟩:=v;simp only at r q kk;refine dl hk (ap Y J1<|ap Y Jd<|ap Y (cT (i:=1) Y Y Jg e1 AF)<|ap Y J5<|ap Y Jd<|ap Y Jc<|ap Y (cT Y Y Y r AF)<|ap Y Jy<|ap Y KN<|rfl) λa1 w1 h d1 b1=>?_;cases u with
 |true=>exact gh (t:=false) (k9 h Y) (nv (kk a1 w1 b1 (h.aT ⟨Y,Y,Y,Y,Y,Y,Y,Y,Y,Y,Y,Y,Y,NE⟩) d1))
 |false=>
  refine gh (t:=true) (k9 h Y) (bC (bC ?_));rw[kf (az f8 15)];have dF:∀(z:Int) c b,(if(s.some==0||decide (f<s.least))then f else s.least)=z->c6 w b->ak 315 (bh (k_ cz t x i g fb l {s with least:=z} j)) c b->c.defers=a.defers->bI vfc (.code (.region 17 (az f8 17) false)::ks) ks' Q c b:=λz c b n e d d2=>by rw[kf (az f8 17)];refine dl d (ap Y Jc<|ap Y (x8 Y Y Jg hI AF)<|ap Y Jt<|rfl) λo k m d3 p=>kk o k (e.trans (p.mono e.size)) ?_ (d3.trans d2);simp only[Bool.not_false,Bool.true_and,n];exact m.aT ⟨Y,Y,Y,Y,Y,Y,Y,Y,Y,Y,Y,Y,Y,NE⟩
  have take:∀c b,(if(s.some==0||decide (f<s.least))then f else s.least)=f->c6 w b->ak 315 (bh (k_ cz t x i g fb l s j)) c b->c.defers=a.defers->bI vfc (.code (.region 16 (az f8 16) false):: .code (.region 17 (az f8 17) false)::ks) ks' Q c b:=λc b n e d d2=>by rw[kf (az f8 16)];exact dl d (ap Y J1<|ap Y Jd<|ap Y (cT (i:=1) Y Y Jg e1 AF)<|ap Y KH<|ap Y Jd<|ap Y Jc<|ap Y (cT Y Y Y q AF)<|ap Y Jx<|ap Y Jt<|rfl) λo k m d3 p=>dF f o k n (e.trans (p.mono e.size)) (m.aT ⟨Y,Y,Y,Y,Y,Y,Y,Y,Y,Y,Y,Y,Y,NE⟩) (d3.trans d2)
  cases h2:(s.some==0)with|true=>exact dl h (ap Y Jc<|ap Y (w8 J4 h2)<|ap Y Jc<|lX Y<|lX Y<|lX Y<|lX Y<|lX Y<|lX Y<|lX Y<|lX Y<|lX Y<|lX Y<|ap Y (iY (F:=dt true) Y Y Jg)<|rfl) λc b d d2 e=>gh (t:=true) (k9 d Y) (take c b AA (b1.trans (e.mono b1.size)) (d.aT ⟨Y,Y,Y,Y,Y,Y,Y,Y,Y,Y,Y,Y,Y,NE⟩) (d2.trans d1))|false=>refine dl h (ap Y Jc<|ap Y (w8 J4 h2)<|ap Y Jc<|bP Y J1<|bP Y Jd<|bP Y (cT (i:=1) Y Y Jg e1 AF)<|bP Y KH<|bP Y Jd<|bP Y Jc<|bP Y (cT Y Y Y q AF)<|bP Y Jx<|bP Y Jc<|bP Y (KX Y Y Y AF)<|ap Y KG<|rfl) λc b d d2 e=>?_;cases h3:decide (f<s.least)with|true=>rw[h3]at d;exact gh (t:=true) (k9 d Y) (take c b AA (b1.trans (e.mono b1.size)) (d.aT ⟨Y,Y,Y,Y,Y,Y,Y,Y,Y,Y,Y,Y,Y,NE⟩) (d2.trans d1))|false=>rw[h3]at d;exact gh (t:=false) (k9 d Y) (nv (dF s.least c b AA (b1.trans (e.mono b1.size)) (d.aT ⟨Y,Y,Y,Y,Y,Y,Y,Y,Y,Y,Y,Y,Y,NE⟩) (d2.trans d1)))
def aD8{v:bz}(e2:t[2]?=some bt)(c:bt.ff[j]?=some v.bR)(e:bt.im[j]?=some v.num)(hI:ek (s.sum+v.num))(hk:ak 315 (bh (k_ cz t x i g fb l s j)) a w)(kk:∀a' w',c6 w w'->ak 315 (bh (k_ cz t x i g fb l {s with sum:=if v.bR then s.sum else s.sum+v.num,vr:=s.vr|| !v.bR} j)) a' w'->a'.defers=a.defers->bI vfc ks ks' Q a' w'):bI vfc (.code (Ya f8)::ks) ks' Q a w:=by
 unfold Ya;refine bC ?_;rw[kf (az f8 18)];obtain⟨n,q,vs,r⟩:=v;simp only at c e kk hI;refine dl hk (ap Y J1<|ap Y Jd<|ap Y (cT (i:=2) Y Y Jg e2 AF)<|ap Y J5<|ap Y Jd<|ap Y Jc<|ap Y (cT Y Y Y c AF)<|ap Y Jy<|ap Y KN<|rfl) λa1 w1 b d1 b1=>?_;cases n with|true=>refine gh (t:=false) (k9 b Y) (nv (kk a1 w1 b1 ?_ d1));simp only[Bool.not_true,Bool.or_false];exact b.aT ⟨Y,Y,Y,Y,Y,Y,Y,Y,Y,Y,Y,Y,Y,NE⟩|false=>refine gh (t:=true) (k9 b Y) (bC ?_);rw[kf (az f8 19)];refine dl b (ap Y Jc<|ap Y J1<|ap Y Jd<|ap Y (cT (i:=2) Y Y Jg e2 AF)<|ap Y KH<|ap Y Jd<|ap Y Jc<|ap Y (cT Y Y Y e AF)<|ap Y Jx<|ap Y (x8 Y Y Y hI AF)<|ap Y Jt<|rfl) λu p k d2 d=>?_;rw[kf (az f8 20)];refine dl k (ap Y (dO (F:=dt true) Y Jg)<|rfl) λm f h d3 o=>kk m f ((b1.trans (d.mono b1.size)).trans (o.mono (b1.trans (d.mono b1.size)).size)) ?_ (d3.trans (d2.trans d1));simp only[Bool.not_false,Bool.or_true];exact h.aT ⟨Y,Y,Y,Y,Y,Y,Y,Y,Y,Y,Y,Y,Y,NE⟩
def aD9{v:bz}(e3:t[3]?=some cF)(d:cF.ff[j]?=some v.bR)(n:cF.iJ[j]?=some v.text)(hk:ak 315 (bh (k_ cz t x i g fb l s j)) a w)(kk:∀a' w',c6 w w'->ak 315 (bh (k_ cz t x i g fb l {s with last:=if !v.bR&&(!s.texts||Op.bytesLess s.last.toList v.text.toList)then v.text else s.last,texts:=s.texts|| !v.bR} j)) a' w'->a'.defers=a.defers->bI vfc ks ks' Q a' w'):bI vfc (.code (Yb f8)::ks) ks' Q a w:=by
 unfold Yb;refine bC ?_;rw[kf (az f8 21)];obtain⟨m,C,vs,e⟩:=v;simp only at d n kk;have take:∀h c,(if !m&&(!s.texts||Op.bytesLess s.last.toList e.toList)then e else s.last)=e->m=false->c6 w c->ak 315 (bh (k_ cz t x i g fb l s j)) h c->h.defers=a.defers->bI vfc (.code (.seq (.region 22 (az f8 22) false) (.region 23 (az f8 23) false))::ks) ks' Q h c:=λh c y hn f u d2=>by refine bC ?_;rw[kf (az f8 22),kf (az f8 23)];refine dl u (ap Y J1<|ap Y Jd<|ap Y (cT (i:=3) Y Y Jg e3 AF)<|ap Y (iZ Y Y AF O3)<|ap Y Jd<|ap Y Jc<|ap Y (cT Y Y Y n AF)<|ap Y (b8 Y Y (VT _) AF)<|ap Y Jt<|rfl) λD B r d3 o=>dl r (ap Y (dO (F:=dt true) Y Jg)<|rfl) λA p q d4 bV=>kk A p ((f.trans (o.mono f.size)).trans (bV.mono (f.trans (o.mono f.size)).size)) ?_ (d4.trans (d3.trans d2));rw[y,hn];simp only[Bool.not_false,Bool.or_true];exact q.aT ⟨Y,Y,Y,Y,Y,Y,Y,Y,Y,Y,Y,Y,Y,NE⟩
 cases m with
 |true=>refine dl hk (ap Y J1<|ap Y Jd<|ap Y (cT (i:=3) Y Y Jg e3 AF)<|ap Y J5<|ap Y Jd<|ap Y Jc<|ap Y (cT Y Y Y d AF)<|ap Y Jy<|ap Y KN<|ap Y Jc<|lX Y<|lX Y<|lX Y<|yq Y<|yq Y<|yq Y<|yq Y<|yq Y<|yq Y<|yq Y<|yq Y<|yq Y<|yq Y<|lX Y<|ap Y (iY (F:=dt false) Y Y Jg)<|rfl) λa1 w1 b d1 b1=>gh (t:=false) (k9 b Y) (nv (kk a1 w1 b1 ?_ d1));simp only[Bool.not_true,Bool.or_false,Bool.false_and,vah,vcr];exact b.aT ⟨Y,Y,Y,Y,Y,Y,Y,Y,Y,Y,Y,Y,Y,NE⟩
 |false=>
  cases ht:s.texts with
  |false=>have k:ak 315 (bh ((17,dt false)::k_ cz t x i g fb l s j)) a w:=ht▸nJ hk;exact dl k (ap Y J1<|ap Y Jd<|ap Y (cT (i:=3) Y Y Jg e3 AF)<|ap Y J5<|ap Y Jd<|ap Y Jc<|ap Y (cT Y Y Y d AF)<|ap Y Jy<|ap Y KN<|ap Y Jc<|bP Y Jc<|bP Y KN<|bP Y Jc<|lX Y<|lX Y<|lX Y<|lX Y<|lX Y<|lX Y<|lX Y<|lX Y<|lX Y<|lX Y<|bP Y (iY (F:=dt true) Y Y Jg)<|ap Y KG<|rfl) λa1 w1 b d1 b1=>gh (t:=true) (k9 b Y) (take a1 w1 AA Y b1 (by rw[<-ht]at b;exact b.aT ⟨Y,Y,Y,Y,Y,Y,Y,Y,Y,Y,Y,Y,Y,NE⟩) d1)
  |true=>
   have k:ak 315 (bh ((17,dt true)::k_ cz t x i g fb l s j)) a w:=ht▸nJ hk;refine dl k (ap Y J1<|ap Y Jd<|ap Y (cT (i:=3) Y Y Jg e3 AF)<|ap Y J5<|ap Y Jd<|ap Y Jc<|ap Y (cT Y Y Y d AF)<|ap Y Jy<|ap Y KN<|ap Y Jc<|bP Y Jc<|bP Y KN<|bP Y Jc<|bP Y J1<|bP Y Jd<|bP Y (cT (i:=3) Y Y Jg e3 AF)<|bP Y (iZ Y Y AF O3)<|bP Y Jd<|bP Y Jc<|bP Y (cT Y Y Y n AF)<|bP Y (b8 Y Y (VT _) AF)<|bP Y Jc<|bP Y (aDN Y Y Y)<|bP Y KG<|ap Y KG<|rfl) λa1 w1 b d1 b1=>?_;have z:ak 315 (bh (k_ cz t x i g fb l s j)) a1 w1:=by rw[<-ht]at b;exact b.aT ⟨Y,Y,Y,Y,Y,Y,Y,Y,Y,Y,Y,Y,Y,NE⟩
   cases h3:Op.bytesLess s.last.toList e.toList with|true=>rw[h3]at b;exact gh (t:=true) (k9 b Y) (take a1 w1 AA Y b1 z d1)|false=>rw[h3]at b;refine gh (t:=false) (k9 b Y) (nv (kk a1 w1 b1 ?_ d1));grind
end
structure Mu(t:List a9)(n:Nat)(V:Nat->List bz)(b3 c1 bt cF:a9):Prop where
 h0:0<t.length
 hn:t[0].ff.length=n
 le:n<=40
 e0:t[0]?=some b3
 e1:t[1]?=some c1
 e2:t[2]?=some bt
 e3:t[3]?=some cF
 n0:∀j,j<n->b3.ff[j]?=some ((V j).getD 0 du).bR
 q0:∀j,j<n->b3.im[j]?=some ((V j).getD 0 du).num
 n1:∀j,j<n->c1.ff[j]?=some ((V j).getD 1 du).bR
 aZ:∀j,j<n->c1.im[j]?=some ((V j).getD 1 du).num
 ik:∀j,j<n->bt.ff[j]?=some ((V j).getD 2 du).bR
 a3:∀j,j<n->bt.im[j]?=some ((V j).getD 2 du).num
 nE:∀j,j<n->cF.ff[j]?=some ((V j).getD 3 du).bR
 fx:∀j,j<n->cF.iJ[j]?=some ((V j).getD 3 du).text
 nj:∀j,j<n-> -1000<=((V j).getD 2 du).num/\((V j).getD 2 du).num<=1000
structure Rx(x:List a9)(g:Nat)(v:bz)(s:jk)(d0 d1 d2 d3 d4 d5:a9):Prop where
 e0:x[0]?=some d0
 e1:x[1]?=some d1
 e2:x[2]?=some d2
 e3:x[3]?=some d3
 e4:x[4]?=some d4
 eE:x[5]?=some d5
 n0:d0.ff[g]?=some v.bR
 q0:d0.im[g]?=some v.num
 n1:d1.ff[g]?=some false
 aZ:d1.im[g]?=some s.n
 ik:d2.ff[g]?=some false
 a3:d2.im[g]?=some s.some
 nE:d3.ff[g]?=some (!s.vr)
 q3:d3.im[g]?=some s.sum
 qb:d4.ff[g]?=some (s.some==0)
 q4:d4.im[g]?=some s.least
 hR:d5.ff[g]?=some (!s.texts)
 wN:d5.iJ[g]?=some s.last
def Ry(G:Nat->aG)(V:Nat->List bz)(n i:Nat):Prop:=∀j,j<n->l6 (G j).key (G i).key=(((V j).getD 0 du).bR==((V i).getD 0 du).bR&&((V j).getD 0 du).num==((V i).getD 0 du).num)
def qR(G:Nat->aG)(i:Nat)(l:uba):Nat->List Bool
 |0=>l
 |j+1=>if i<=j/\l6 (G j).key (G i).key=true then(qR G i l j).set j true else qR G i l j
theorem Rz G i l:∀j,(qR G i l j).length=l.length
 |0=>rfl
 |j+1=>by
  rw[qR];split
  .rw[vdq,Rz G i l j]
  .exact Rz G i l j
theorem na G i l:∀j,j<=i->qR G i l j=l
 |0,_=>rfl
 |j+1,h=>by rw[qR,vby AQ,na G i l j AQ]
def qG G V{i j}(h:i<=j):lI G V i (j+1)=if l6 (G j).key (G i).key=true then(lI G V i j).step ((V j).getD 1 du) ((V j).getD 2 du) ((V j).getD 3 du)else lI G V i j:=by
 rw[lI];by_cases e:j=i
 .simp_all[r6]
 grind
structure aD_(j:Nat)(s:jk):Prop where
 n:0<=s.n/\s.n<=j
 so:0<=s.some/\s.some<=j
 aLm: -(1000*(j:Int))<=s.sum/\s.sum<=1000*(j:Int)
theorem qB{G V n i}(h:∀j,j<n-> -1000<=((V j).getD 2 du).num/\((V j).getD 2 du).num<=1000):∀j,j<=n->aD_ j (lI G V i j)
 |0,_=>⟨by simp[lI,jk.zero],by simp[lI,jk.zero],by simp[lI,jk.zero]⟩
 |j+1,a=>by
  have b:=qB (G:=G) (i:=i) h j AQ;obtain⟨b1,e,d⟩:=b;have c:=h j AQ;rw[lI];split
  .refine⟨by simp only[jk.step];omega,?_,?_⟩
   .simp only[jk.step];split<;>omega
   .simp only[jk.step];split<;>omega
  .exact⟨AQ,AQ,AQ⟩
section
variable{cz:aR}{t x:List a9}{i g fb n:Nat}{l:uba}{k0:aR}{ks ks':uab}{Q:uae}{b3 c1 bt cF d0 d1 d2 d3 d4 d5:a9}{G:Nat->aG}{V:Nat->List bz}
def aEa(C:Mu t n V b3 c1 bt cF)(hi:i<n)(J:cz.heap.size<=fb)(S:l.length=n)(N:Ry G V n i)(kk:∀a' w',hE fb k0 w'->ak 315 (bh (k_ cz t x i g fb (qR G i l n) (lI G V i n) n)) a' w'->a'.defers=[]->bI vfc ks ks' Q a' w'):
 ∀m j a w,j+m=n->i<=j->hE fb k0 w->ak 315 (bh (k_ cz t x i g fb (qR G i l j) (lI G V i j) j)) a w->a.defers=[]->bI vfc (.code (F8 f8):: .inLoop (F8 f8):: .inBlock 0::ks) ks' Q a w:=by
 have H:=C.le;intro m;induction m with
 |zero=>intro j a w O v p hk hd;obtain rfl:j=n:=AQ;unfold F8;refine bC (bC ?_);rw[kf (az f8 9)];refine dl hk (ap Y Jc<|ap Y LM<|ap Y (F6 Y Y C.h0 C.hn)<|ap Y (KZ Y Y Y AF AQ)<|rfl) λa1 w1 f d1 b1=>?_;exact gh (t:=false) (k9 f Y) (DF (xV:=ks) (by simp[exitTo]) (kk a1 w1 (p.trans (hE.of b1)) (f.aT ⟨Y,Y,Y,Y,Y,Y,Y,Y,Y,Y,Y,Y,Y,NE⟩) (d1.trans hd)))
 |succ m F=>
  intro j a w O v p hk hd;have b:j<n:=AQ;obtain⟨jJ,tb,W⟩:=qB (G:=G) (i:=i) C.nj j AQ;have v2:=C.nj j b;have X:=Rz G i l j;unfold F8;refine bC (bC ?_);rw[kf (az f8 9)];refine dl hk (ap Y Jc<|ap Y LM<|ap Y (F6 Y Y C.h0 C.hn)<|ap Y (VU Y Y Y AF AQ)<|rfl) λa1 w1 f d1 b1=>?_;refine gh (t:=true) (k9 f Y) (nv (bC (tL (bC ?_))));have dF:∀d c,hE fb k0 c->ak 315 (bh (k_ cz t x i g fb (qR G i l (j+1)) (lI G V i (j+1)) j)) d c->d.defers=[]->bI vfc (.code (.region 10 (az f8 10) false):: .inLoop (F8 f8):: .inBlock 0::ks) ks' Q d c:=λd c r o d2=>by rw[kf (az f8 10)];refine dl o KF λA y h d3 q=>Kn ?_;have e:((j:Int)+1)=((j+1:Nat):Int):=AQ;rw[e]at h;exact F (j+1) A y AQ AQ (r.trans (hE.of q)) (h.aT ⟨Y,Y,Y,Y,Y,Y,Y,Y,Y,Y,Y,Y,Y,NE⟩) (d3.trans d2)
  refine aD3 C.e0 (C.n0 j b) (C.q0 j b) (C.n0 i hi) (C.q0 i hi) (f.aT ⟨Y,Y,Y,Y,Y,Y,Y,Y,Y,Y,Y,Y,Y,NE⟩) λd c r o d2=>?_;rw[<-N j b];have z:=p.trans ((hE.of b1).trans (hE.of (fb:=fb) r));by_cases k:l6 (G j).key (G i).key=true
  .rw[vca k];refine bC ?_;refine aD5 J AQ AQ o λU R bO u s=>bC (aD6 Cj u λA y q h d3=>bC (aD7 C.e1 (C.n1 j b) (C.aZ j b) (by grind[ek]) h λT P bV D d4=>bC (aD8 C.e2 (C.ik j b) (C.a3 j b) (by grind[ek]) D λfO iK bS K d5=>aD9 C.e3 (C.nE j b) (C.fx j b) K λB E L I M=>DD (dF B E (z.trans (bO.trans ((hE.of q).trans ((hE.of bV).trans ((hE.of bS).trans (hE.of L)))))) ?_ (M.trans (d5.trans (d4.trans (d3.trans (s.trans (d2.trans (d1.trans hd)))))))))));rw[qG G V v,vca k,qR,vca ⟨v,k⟩];exact I
  .rw[vby k];refine DF (xV:=.code (.region 10 (az f8 10) false):: .inLoop (F8 f8):: .inBlock 0::ks) Y (dF d c z ?_ (d2.trans (d1.trans hd)));simp_all[qG,qR]
def aEd{s}(C:Mu t n V b3 c1 bt cF)(hi:i<n)(X:Rx x g ((V i).getD 0 du) s d0 d1 d2 d3 d4 d5){a w}(hk:ak 315 (bh (k_ cz t x i g fb l s n)) a w)(kk:∀a' w',c6 w w'->ak 315 (bh [(2,ua fb l),(10,dt true)]) a' w'->a'.defers=a.defers->bI vfc (.code .ret::ks) ks' Q a' w'):bI vfc (.code (Yc f8)::ks) ks' Q a w:=by
 unfold Yc;refine bC ?_;rw[kf (az f8 24)];refine Kt (m:=37) hk (dq Y J1<|dq Y Jd<|dq Y (cT (i:=0) Y Y Jg X.e0 AF)<|dq Y J5<|dq Y Jd<|dq Y Jc<|dq Y (cT Y Y Y X.n0 AF)<|dq Y Jy<|dq Y J1<|dq Y Jd<|dq Y (cT (i:=0) Y Y Jg C.e0 AF)<|dq Y J5<|dq Y Jd<|dq Y Jc<|dq Y (cT Y Y Y (C.n0 i hi) AF)<|dq Y Jy<|dq Y (w8 (Rr Y Y Y) (beq_self_eq_true _))<|dq Y Jc<|eA Y J1<|eA Y Jd<|eA Y (cT (i:=0) Y Y Jg X.e0 AF)<|eA Y KH<|eA Y Jd<|eA Y Jc<|eA Y (cT Y Y Y X.q0 AF)<|eA Y Jx<|eA Y J1<|eA Y Jd<|eA Y (cT (i:=0) Y Y Jg C.e0 AF)<|eA Y KH<|eA Y Jd<|eA Y Jc<|eA Y (cT Y Y Y (C.q0 i hi) AF)<|eA Y Jx<|eA Y K4<|dq Y KG<|dq Y Jt<|rfl) Y Mp AD λa1 w1 d d1 b1=>⟨Y,bC ?_⟩;have d:=d.aT (l:=(19,dt true)::k_ cz t x i g fb l s n) ⟨Y,Y,Y,Y,Y,Y,Y,Y,Y,Y,Y,Y,Y,Y,NE⟩;rw[kf (az f8 25)];refine dl d (ap Y J1<|ap Y Jd<|ap Y (cT (i:=1) Y Y Jg X.e1 AF)<|ap Y J5<|ap Y Jd<|ap Y Jc<|ap Y (cT Y Y Y X.n1 AF)<|ap Y Jy<|ap Y KN<|ap Y Jc<|bP Y J1<|bP Y Jd<|bP Y (cT (i:=1) Y Y Jg X.e1 AF)<|bP Y KH<|bP Y Jd<|bP Y Jc<|bP Y (cT Y Y Y X.aZ AF)<|bP Y Jx<|bP Y Jc<|bP Y K4<|ap Y KG<|ap Y Jc<|bP Y J1<|bP Y Jd<|bP Y (cT (i:=2) Y Y Jg X.e2 AF)<|bP Y J5<|bP Y Jd<|bP Y Jc<|bP Y (cT Y Y Y X.ik AF)<|bP Y Jy<|bP Y KN<|ap Y KG<|ap Y Jc<|bP Y J1<|bP Y Jd<|bP Y (cT (i:=2) Y Y Jg X.e2 AF)<|bP Y KH<|bP Y Jd<|bP Y Jc<|bP Y (cT Y Y Y X.a3 AF)<|bP Y Jx<|bP Y Jc<|bP Y K4<|ap Y KG<|ap Y Jt<|rfl) λr p c d2 k=>bC ?_;have c:=c.aT (l:=(20,dt true)::(19,dt true)::k_ cz t x i g fb l s n) ⟨Y,Y,Y,Y,Y,Y,Y,Y,Y,Y,Y,Y,Y,Y,Y,NE⟩;rw[kf (az f8 26)];refine dl c (ap Y J1<|ap Y Jd<|ap Y (cT (i:=3) Y Y Jg X.e3 AF)<|ap Y J5<|ap Y Jd<|ap Y Jc<|ap Y (cT Y Y Y X.nE AF)<|ap Y Jy<|ap Y Jc<|ap Y KN<|ap Y (w8 (Rr Y Y Y) (beq_self_eq_true _))<|ap Y Jc<|bP Y J1<|bP Y Jd<|bP Y (cT (i:=3) Y Y Jg X.e3 AF)<|bP Y KH<|bP Y Jd<|bP Y Jc<|bP Y (cT Y Y Y X.q3 AF)<|bP Y Jx<|bP Y Jc<|bP Y K4<|ap Y KG<|ap Y Jc<|bP Y J1<|bP Y Jd<|bP Y (cT (i:=4) Y Y Jg X.e4 AF)<|bP Y J5<|bP Y Jd<|bP Y Jc<|bP Y (cT Y Y Y X.qb AF)<|bP Y Jy<|bP Y Jc<|bP Y J4<|bP Y (w8 (Rr Y Y Y) (beq_self_eq_true _))<|ap Y KG<|ap Y Jc<|bP Y J1<|bP Y Jd<|bP Y (cT (i:=4) Y Y Jg X.e4 AF)<|bP Y KH<|bP Y Jd<|bP Y Jc<|bP Y (cT Y Y Y X.q4 AF)<|bP Y Jx<|bP Y Jc<|bP Y K4<|ap Y KG<|ap Y Jt<|rfl) λq o b d3 j=>bC ?_;have b:=b.aT (l:=(21,dt true)::(20,dt true)::(19,dt true)::k_ cz t x i g fb l s n) ⟨Y,Y,Y,Y,Y,Y,Y,Y,Y,Y,Y,Y,Y,Y,Y,Y,NE⟩;rw[kf (az f8 27)];refine dl b (ap Y Jc<|ap Y Jc<|bP Y Jc<|ap Y KG<|ap Y Jc<|bP Y Jc<|ap Y KG<|ap Y Jc<|bP Y J1<|bP Y Jd<|bP Y (cT (i:=5) Y Y Jg X.eE AF)<|bP Y J5<|bP Y Jd<|bP Y Jc<|bP Y (cT Y Y Y X.hR AF)<|bP Y Jy<|bP Y Jc<|bP Y KN<|bP Y (w8 (Rr Y Y Y) (beq_self_eq_true _))<|ap Y KG<|ap Y Jc<|bP Y J1<|bP Y Jd<|bP Y (cT (i:=5) Y Y Jg X.eE AF)<|bP Y (iZ Y Y AF O3)<|bP Y Jd<|bP Y Jc<|bP Y (cT Y Y Y X.wN AF)<|bP Y (b8 Y Y (VT _) AF)<|bP Y Jc<|bP Y (w8 (auD Y Y Y) (beq_self_eq_true _))<|ap Y KG<|ap Y Jt<|rfl) λh e f d4 bV=>kk h e ?_ (f.aT ⟨Y,Y,NE⟩) (d4.trans (d3.trans (d2.trans d1)));have e2:=b1.trans (k.mono b1.size);have e3:=e2.trans (j.mono e2.size);exact e3.trans (bV.mono e3.size)
end
def aEe{cz t x i g fb n l b3 c1 bt cF d0 d1 d2 d3 d4 d5 G V}(C:Mu t n V b3 c1 bt cF)(hi:i<n)(X:Rx x g ((V i).getD 0 du) (lI G V i n) d0 d1 d2 d3 d4 d5)(L:cz.heap.size<=fb)(I:l.length=n)(U:Ry G V n i)b d c w(ht:(yt cz t).R w b)(hx:(yt cz x).R w d)(hf:(ua fb l).R w c):
 Calls vfc 8 #[b,.I (i:Int),c,d,.I (g:Int)] w λe w'=>∃r,e=.returned r/\r=.T/\hE fb w w'/\ag w' fb (yr (qR G i l n)) 4:=by
 refine aDF (ks:=[]) (vez func8) aD2 ?_;have hk:ak 315 (bh [(0,yt cz t),(1,bG (i:Int)),(2,ua fb l),(3,yt cz x),(4,bG (g:Int))]) ⟨#[b,.I (i:Int),c,d,.I (g:Int)]++Array.replicate (f8.ntmps-(#[b,.I (i:Int),c,d,.I (g:Int)]:dX).size) undef,[]⟩ w:=auG (l:=[b,.I (i:Int),c,d,.I (g:Int)]) AS Ao λp s=>by
  simp at s;rcases s with rfl|rfl|rfl|rfl|rfl
  .grind
  .exact⟨_,Y,Y⟩
  .grind
  .grind
  .exact⟨_,Y,Y⟩
 have hd:(⟨#[b,.I (i:Int),c,d,.I (g:Int)]++Array.replicate (f8.ntmps-(#[b,.I (i:Int),c,d,.I (g:Int)]:dX).size) undef,[]⟩:Act).defers=[]:=rfl;generalize(⟨#[b,.I (i:Int),c,d,.I (g:Int)]++Array.replicate (f8.ntmps-(#[b,.I (i:Int),c,d,.I (g:Int)]:dX).size) undef,[]⟩:Act)=a at hk hd;refine bC ?_;rw[kf (az f8 0)];refine dl hk (ap Y (pt Y Y)<|ap Y (pt Y Y)<|ap Y (dO (F:=dt false) Y Jg)<|rfl) λa1 w1 E d1 b1=>bC ?_;rw[kf (az f8 1)];refine dl E (ap Y (dO (F:=bG 0) Y Jg)<|rfl) λZ v h d2 j=>bC ?_;rw[kf (az f8 2)];refine dl h (ap Y (dO (F:=bG 0) Y Jg)<|rfl) λbK w3 D d3 W=>?_;unfold nM;refine bC ?_;rw[kf (az f8 3)];refine dl D (ap Y (dO (F:=bG 0) Y Jg)<|rfl) λcS w4 B d4 bV=>bC ?_;rw[kf (az f8 4)];refine dl B (ap Y (dO (F:=dt false) Y Jg)<|rfl) λfO iK M d5 bS=>bC ?_;rw[kf (az f8 5)];refine dl M (ap Y (dO (F:=bG 0) Y Jg)<|rfl) λkK ip K T N=>bC ?_;rw[kf (az f8 6)];refine dl K (ap Y (dO (F:=Bp g5) Y Jg)<|rfl) λrE CV z S y=>bC ?_;rw[kf (az f8 7)];refine dl z (ap Y (dO (F:=dt false) Y Jg)<|rfl) λA0 GO MP R A=>bC (bC ?_);rw[kf (az f8 8)];refine dl MP (ap Y Jc<|ap Y Jt<|rfl) λo f m Q BW=>tL (Km ?_);have k:hE fb w f:=(hE.of b1).trans ((hE.of j).trans ((hE.of W).trans ((hE.of bV).trans ((hE.of bS).trans ((hE.of N).trans ((hE.of y).trans ((hE.of A).trans (hE.of BW))))))));refine aEa (x:=x) (g:=g) (l:=l) (k0:=w) (G:=G) C hi L I U (λa' w' O P H=>?_) (n-i) i o f AQ JR k ?_ (Q.trans (R.trans (S.trans (T.trans (d5.trans (d4.trans (d3.trans (d2.trans (d1.trans hd)))))))))
 .refine aEd C hi X P λZ v j h d2=>lV ⟨d2.trans H,.T,?_,Y,O.trans (hE.of j),?_⟩
  .obtain⟨u,q,rfl⟩:=h.has 10 (dt true) Y;simp_all[results]
  .obtain⟨u,-,-,J⟩:=h.has 2 (ua fb _) Y;exact J
 .rw[XZ G V i i JR,na G i l i JR];exact m.aT ⟨Y,Y,Y,Y,Y,Y,Y,Y,Y,Y,Y,Y,Y,NE⟩
def aEi(a:dX)(w:aR):Sem.run vfc (callFunc 8 a) w=.ok (.enter 8 a) w:=cR (vez func8) AD a w
abbrev Mv(t:List a9)(x y:Int):List (Nat×bg):=[(3,vi x y),(5,tZ t),(6,Rw)]
section
variable{t:List a9}{x y:Int}{a:Act}{w:aR}
def aEj(hd:a.defers=[])(hk:ak 109 (bh [(3,vi x y),(14,rW t)]) a w):
 bI vfc [.R (az Tryz.f3 1) [2,3],.code (Rs Tryz.f3)] [.code (.region 3 (az Tryz.f3 3) true),.code (B9 Tryz.f3)] (λa1 w1=>a1.defers=[]/\ak 109 (bh (Mv t x y)) a1 w1/\c6 w w1) a w:=by
 rw[lJ (az Tryz.f3 1)];refine DJ (azR (i:=2) Y Y Y Y Y hk Y Y Y Y AF AF λa1 w1 e d1 b1=>vW ?_);unfold Rs;refine bC ?_;rw[lJ (az Tryz.f3 2)];refine O6 (m:=8) e (ap Y (aDV Y Jg)<|ap Y (Mt (k:=1) (c:= -1) Y Jg Jg)<|ap Y (Mt (k:=1) (c:=1) Y Jg Jg)<|ap Y (Mt (k:=2) (c:=2) Y Jg Jg)<|ap Y (Mt (k:=3) (c:=1) Y Jg Jg)<|ap Y (Mt (k:=4) (c:=3) Y Jg Jg)<|ap Y (aDW Y Y Y Y Y Y)<|ap Y (aDX Y Y Y)<|rfl) AF λn j d d2 g=>?_;refine aD1 (i:=8) Y Y Y Y Y d Y Y Y Y AF AF λl h b d3 f=>vW (bC (lV ⟨d3.trans (d2.trans (d1.trans hd)),b.aT ⟨Y,Y,Y,NE⟩,?_⟩));have e2:=b1.trans (g.mono b1.size);exact e2.trans (f.mono e2.size)
end
structure Mw(x:List a9)(m:Nat)(d5:a9):Prop where
 len:x.length=6
 h0:0<x.length
 hn:x[0].ff.length=m
 zc:∀k,k<5->∃d,x[k]?=some d/\d.im.length=m/\d.ff.length=m
 eE:x[5]?=some d5
 Y2:d5.iJ.length=m
abbrev Cc(t x:List a9):List (Nat×bg):=[(5,tZ t),(7,tZ x)]
section
variable{t x:List a9}{m:Nat}{d5:a9}{k0:aR}{ks':uab}{Q:uae}
def RA{N:Nat}{K:b6}{o:Oper}{u v:uam}{T T':uaa}{p q:Int}(c:o.op=.binOp .neq T u v T')(b:bw K u (bG p))(a:bw K v (bG q))(d:u9 T)(h:p=q):bU vfc N K o (dt false):=by grind[auF]
def aEk(S:Mw x m d5){k:Nat}(c:k<5){a w ks}(hk:ak 109 (bh ((9,bG (k:Int))::Cc t x)) a w)(kk:∀a' w',c6 w w'->ak 109 (bh ((9,bG (k:Int))::Cc t x)) a' w'->a'.defers=a.defers->bI vfc ks ks' Q a' w'):bI vfc (.code (.seq (.region 9 (az Tryz.f3 9) true) (.cond (.tmp 77) (.seq (.region 10 (az Tryz.f3 10) false) .ret) .skip))::ks) ks' Q a w:=by
 obtain⟨d,e,h1,h2⟩:=S.zc k c;refine bC ?_;rw[lJ (az Tryz.f3 9)];refine Kt (m:=22) hk (dq Y (LP Y Y)<|dq Y (b8 rfl rfl (dP _) AF)<|dq Y (bk rfl rfl)<|dq Y (cT Y Y Y e AF)<|dq Y (iZ rfl rfl AF va)<|dq Y (b8 rfl rfl (dP _) AF)<|dq Y (KY Y Y AF)<|dq Y (Qz Y Y)<|dq Y (Rq Y Y S.h0 S.hn)<|dq Y (RA Y Y Y AF AQ)<|dq Y (bk rfl rfl)<|eA Y (LP Y Y)<|eA Y (b8 rfl rfl (dP _) AF)<|eA Y (bk rfl rfl)<|eA Y (cT Y Y Y e AF)<|eA Y (iZ rfl rfl AF pR)<|eA Y (b8 rfl rfl (dP _) AF)<|eA Y (KY Y Y AF)<|eA Y (Qz Y Y)<|eA Y (Rq Y Y S.h0 S.hn)<|eA Y (RA Y Y Y AF AQ)<|dq Y (iY (F:=dt false) Y Y Y)<|rfl) Y Mp AD λa1 w1 b d1 b1=>⟨Y,gh (t:=false) (k9 b Y) (nv (kk a1 w1 b1 (b.aT ⟨Y,Y,Y,NE⟩) d1))⟩
def aEl(S:Mw x m d5){ks}(kk:∀a' w',c6 k0 w'->ak 109 (bh (Cc t x)) a' w'->a'.defers=[]->bI vfc ks ks' Q a' w'):
 ∀(r k:Nat)(a:Act)(w:aR),k+r=5->c6 k0 w->ak 109 (bh ((9,bG (k:Int))::Cc t x)) a w->a.defers=[]->bI vfc (.code (Mq Tryz.f3):: .inLoop (Mq Tryz.f3):: .inBlock 0::ks) ks' Q a w:=by
 intro r;induction r with
 |zero=>intro k a w d c hk hd;obtain rfl:k=5:=AQ;unfold Mq;refine bC (bC ?_);rw[lJ (az Tryz.f3 7)];refine dl hk (ap Y Jc<|ap Y (KZ (n:=5) Y Y Jg AF AF)<|rfl) λa1 w1 b d1 b1=>?_;exact gh (t:=false) (k9 b Y) (DF (xV:=ks) (by simp[exitTo]) (kk a1 w1 (c.trans (b1.mono c.size)) (b.aT ⟨Y,Y,NE⟩) (d1.trans hd)))
 |succ r l=>intro k a w d c hk hd;unfold Mq;refine bC (bC ?_);rw[lJ (az Tryz.f3 7)];refine dl hk (ap Y Jc<|ap Y (VU (n:=5) Y Y Jg AF AQ)<|rfl) λa1 w1 b d1 b1=>?_;refine gh (t:=true) (k9 b Y) (nv (bC (tL (aEk S AQ (b.aT ⟨Y,Y,Y,NE⟩) λu s q j d2=>DD ?_))));rw[lJ (az Tryz.f3 8)];refine dl j KF λo i h d3 p=>Kn ?_;have e:((k:Int)+1)=((k+1:Nat):Int):=AQ;rw[e]at h;have f:=c.trans (b1.mono c.size);have g:=f.trans (q.mono f.size);exact l (k+1) o i AQ (g.trans (p.mono g.size)) (h.aT ⟨Y,Y,Y,NE⟩) (d3.trans (d2.trans (d1.trans hd)))
def aEn(S:Mw x m d5){a:Act}{w:aR}{ks:uab}(hd:a.defers=[])(hk:ak 109 (bh ((8,dt true)::Cc t x)) a w)(kk:∀a' w',c6 w w'->ak 109 (bh (Cc t x)) a' w'->a'.defers=[]->bI vfc (.code (X7 Tryz.f3)::ks) ks' Q a' w'):bI vfc (.code (B9 Tryz.f3)::ks) ks' Q a w:=by
 have k:((x.length:Nat):Int)=6:=by have:=S.len;omega
 have n:((d5.iJ.length:Nat):Int)=(m:Int):=by have:=S.Y2;omega
 unfold B9;refine bC (bC ?_);rw[lJ (az Tryz.f3 4)];refine Kt (m:=19) hk (dq Y (bk rfl rfl)<|dq Y (sS rfl rfl)<|dq Y (bk rfl rfl)<|eA Y (LP Y Y)<|eA Y (b8 rfl rfl (dP _) AF)<|eA Y (KY Y Y AF)<|eA Y (RA (q:=6) Y Y (λ_=>rfl) AF k)<|dq Y (iY (F:=dt false) Y Y Y)<|dq Y (bk rfl rfl)<|eA Y (LP Y Y)<|eA Y (b8 rfl rfl (dP _) AF)<|eA Y (cT (i:=5) Y Y (λ_=>rfl) S.eE AF)<|eA Y (iZ Y Y AF O3)<|eA Y (b8 rfl rfl (dP _) AF)<|eA Y (KY Y Y AF)<|eA Y (Qz Y Y)<|eA Y (Rq Y Y S.h0 S.hn)<|eA Y (RA Y Y Y AF n)<|dq Y (iY (F:=dt false) Y Y Y)<|rfl) Y Mp AD λa1 w1 b d1 b1=>⟨Y,gh (t:=false) (k9 b Y) (nv (bC (bC ?_)))⟩;rw[lJ (az Tryz.f3 6)];refine dl b (ap Y (dO (F:=bG ((0:Nat):Int)) Y (λ_=>rfl))<|rfl) λo d g d2 l=>tL (Km ?_);have e:=b1.trans (l.mono b1.size);exact aEl S (k0:=w) (λh c j f d3=>kk h c j f d3) 5 0 o d Y e (g.aT ⟨Y,Y,Y,NE⟩) (d2.trans (d1.trans hd))
end
def lK(G:Nat->aG)(n i:Nat):List Bool:=(List.range n).map (t_ G i)
theorem RB G n i:(lK G n i).length=n:=by simp[lK]
theorem Yf G{n k}i(h:k<n):(lK G n i)[k]?=some (t_ G i k):=by simp[lK,h]
theorem qy{G i n}:∀t,t<=n->∀k,k<n->(qR G i (lK G n i) t)[k]?=some (t_ G i k||(decide (k<t)&&(decide (i<=k)&&l6 (G k).key (G i).key)))
 |0,_,k,hk=>by rw[qR,Yf G i hk];simp
 |t+1,ht,k,hk=>by
  have b:=qy (G:=G) (i:=i) t AQ k hk;have a:t≠k->decide (k<t)=decide (k<t+1):=λe=>by grind
  rw[qR];grind
def aEo G{n i}:qR G i (lK G n i) n=lK G n (i+1):=by
 apply vbw;intro k;by_cases hk:k<n
 .rw[qy n JR k hk,Yf G (i+1) hk,qc];have:l6 (G k).key (G i).key=l6 (G i).key (G k).key:=by rw[Bool.eq_iff_iff,r6,r6];grind
  grind
 grind[Rz,RB]
def aEp{ops:fF}{Q:uae}{i s:Nat}{o:Oper}{a:Act}{w:aR}{f:uak}{args:uay}{ats:uaq}(hi:ops[i]?=some o)(hg:o.guard=none)(hd:o.dst=some s)(d:o.op=.call {callee:=.value (.func f),args,argTypes:=ats})(c:∀vs w,Sem.run P (callFunc f vs) w=.ok (.enter f vs) w)(h:Calls P f (args.map a.eval) w λe w'=>∃v,e=.returned v/\Q (a.put (some s) v) w'):wpOps P ops (jg Q) [i] a w:=UH hi hg hd (by
 have:=c (args.map a.eval) w;generalize b:a.eval=ev at *;have e:ev (.func f)=.func (.func f) #[] #[]:=by rw[<-b];rfl
 grind[execOp,resolve,Deferred.ofValue,invoke]) h
structure RD(t x:List a9)(n m:Nat)(G:Nat->aG)(V:Nat->List bz)(b3 c1 bt cF d5:a9):Prop where
 C:Mu t n V b3 c1 bt cF
 S:Mw x m d5
 key:∀i,i<n->Ry G V n i
 row:∀i,i<n->m8 G i=true->∃d0 d1 d2 d3 d4 d5,Rx x (fm G i).length ((V i).getD 0 du) (lI G V i n) d0 d1 d2 d3 d4 d5
 aS:m=(fm G n).length
abbrev qv(cz:aR)(t x:List a9)(g i:Nat):List (Nat×bg):=[(5,s_ cz t),(7,s_ cz x),(11,bG (g:Int)),(12,bG (i:Int))]
abbrev yu(cz:aR)(t x:List a9)(fb:Nat)(l:uba)(g i:Nat):List (Nat×bg):=(10,ua fb l)::qv cz t x g i
section
variable{t x:List a9}{n m fb:Nat}{G:Nat->aG}{V:Nat->List bz}{b3 c1 bt cF d5:a9}{cz:aR}{ks ks':uab}{Q:uae}
theorem qp G:∀i,(fm G i).length<=i
 |0=>by simp[fm]
 |i+1=>by rw[X0];have:=qp G i;split<;>omega
def aEq(L:RD t x n m G V b3 c1 bt cF d5){i}(hi:i<n)(I:m8 G i=true)(q:cz.heap.size<=fb){a w}(hk:ak 109 (bh (yu cz t x fb (lK G n i) (fm G i).length i)) a w)(kk:∀a' w',ak 109 (bh (yu cz t x fb (lK G n (i+1)) (fm G (i+1)).length i)) a' w'->a'.defers=a.defers->bI vfc ks ks' Q a' w'):bI vfc (.code (X6 Tryz.f3)::ks) ks' Q a w:=by
 obtain⟨d0,d1,d2,d3,d4,aLq,X⟩:=L.row i hi I;have T:=qp G i;have aLr:=L.C.le;have U:(fm G (i+1)).length=(fm G i).length+1:=by rw[X0,I];rfl
 rw[U]at kk;generalize(fm G i).length=g at *;unfold X6;refine bC ?_;rw[lJ (az Tryz.f3 19)];refine O6 (m:=5) hk (ap Y LM<|ap Y Jc<|ap Y Jc<|ap Y LM<|ap Y Jc<|rfl) AF λa1 w1 b d1 b1=>?_;obtain⟨k,aLs,B⟩:=b.has 95 (yt cz t) Y;obtain⟨A,aLt,D⟩:=b.has 96 (bG (i:Int)) Y;obtain⟨j,aLu,z⟩:=b.has 97 (ua fb (lK G n i)) Y;obtain⟨f,aLv,y⟩:=b.has 98 (yt cz x) Y;obtain⟨u,aLw,C⟩:=b.has 99 (bG (g:Int)) Y;have D:A=.I (i:Int):=D;have C:u=.I (g:Int):=C;subst D C;have F:=aEe (G:=G) L.C hi X q (RB G n i) (L.key i hi) k f j w1 B y z;rw[aEo]at F;refine mS (R:=λN c=>N=a1.put (some 100) (.T)/\hE fb w1 c/\ag c fb (yr (lK G n (i+1))) 4) (aEp (i:=5) Y Y Y Y aEi ?_) ?_
 .rw[show(#[Operand.tmp 95,.tmp 96,.tmp 97,.tmp 98,.tmp 99].map a1.eval)=#[k,.I (i:Int),j,f,.I (g:Int)]from by simp_all[Act.eval]];refine F.mono ?_;grind
 rintro N c ⟨rfl,O,W⟩;obtain⟨v10,Ai,Yi,r⟩:=b.has 10 (ua fb (lK G n i)) Y;have a5:=b.size;have aLx:(a1.put (some 100) (.T)).tmps[100]?=some (.T):=nw AA;refine mS (R:=λM o=>M=(a1.put (some 100) (.T)).put (some 8) (.T)/\o=c) (nR (i:=6) Y Y Y (v:=.T) (w1:=c) (by
  simp_all[ej,execOp]) ⟨Y,Y⟩) ?_
 rintro M o ⟨rfl,rfl⟩;refine vW ?_;have kb:=(b.aT (l:=qv cz t x g i) ⟨Y,Y,Y,Y,NE⟩).but O ⟨_,r⟩ ⟨Rp q,Rp q,Ax _ _,Ax _ _,NE⟩;have d:∀s,s≠100->s≠8->((a1.put (some 100) (.T)).put (some 8) (.T)).tmps[s]?=a1.tmps[s]?:=λs h1 h2=>(hQ (Ne.symm h2)).trans (hQ (Ne.symm h1));have br:ak 109 (bh ((8,dt true)::yu cz t x fb (lK G n (i+1)) g i)) ((a1.put (some 100) (.T)).put (some 8) (.T)) o:=by
  refine ak.of (by grind[jR]) λp H=>?_;simp at H;rcases H with rfl|rfl|rfl|rfl|rfl|rfl
  .exact⟨_,nw AA,Y⟩
  .exact⟨v10,(d 10 AF AF).trans Ai,by grind[RB],W⟩
  .exact kb.get Y (d 5 AF AF) λv h=>h
  .exact kb.get Y (d 7 AF AF) λv h=>h
  .exact kb.get Y (d 11 AF AF) λv h=>h
  .exact kb.get Y (d 12 AF AF) λv h=>h
 have E:((a1.put (some 100) (.T)).put (some 8) (.T)).defers=a1.defers:=by grind[put_defers]
 generalize(a1.put (some 100) (.T)).put (some 8) (.T)=cS at br E;refine bC (bC ?_);rw[lJ (az Tryz.f3 20)];refine dl br (ap Y (bk rfl rfl)<|ap Y (sS rfl rfl)<|rfl) λfO iK K d5 bS=>gh (t:=false) (k9 K Y) (nv ?_);rw[lJ (az Tryz.f3 22)];refine dl K (ap rfl (bk rfl rfl)<|ap rfl (x8 rfl rfl (λ_=>rfl) Cj AF)<|ap rfl (dO rfl rfl)<|rfl) λP S J Z eW=>kk P S ?_ (Z.trans (d5.trans (E.trans d1)));have e:((g:Int)+1)=((g+1:Nat):Int):=AQ;rw[e]at J;exact J.aT ⟨Y,Y,Y,Y,Y,NE⟩
def aEx(L:RD t x n m G V b3 c1 bt cF d5)(A:cz.heap.size<=fb)(kk:∀a' w',ak 109 (bh (yu cz t x fb (lK G n n) m n)) a' w'->a'.defers=[]->bI vfc ks ks' Q a' w'):
 ∀r i a w,i+r=n->ak 109 (bh (yu cz t x fb (lK G n i) (fm G i).length i)) a w->a.defers=[]->bI vfc (.code (F7 Tryz.f3):: .inLoop (F7 Tryz.f3):: .inBlock 2::ks) ks' Q a w:=by
 have C:=L.C;have z:=C.le;intro r;induction r with
 |zero=>intro i a w o hk hd;obtain rfl:i=n:=AQ;rw[<-L.aS]at hk;unfold F7;refine bC (bC ?_);rw[lJ (az Tryz.f3 14)];refine dl hk (ap Y Jc<|ap Y LM<|ap Y (F6 Y Y C.h0 C.hn)<|ap Y (KZ Y Y Y AF AQ)<|rfl) λa1 w1 f d1 b1=>?_;exact gh (t:=false) (k9 f Y) (DF (xV:=ks) (by simp[exitTo]) (kk a1 w1 (f.aT ⟨Y,Y,Y,Y,Y,NE⟩) (d1.trans hd)))
 |succ r y=>
  intro i a w o hk hd;have hi:i<n:=AQ;have hlen:=RB G n i;unfold F7;refine bC (bC ?_);rw[lJ (az Tryz.f3 14)];refine dl hk (ap Y Jc<|ap Y LM<|ap Y (F6 Y Y C.h0 C.hn)<|ap Y (VU Y Y Y AF AQ)<|rfl) λa1 w1 f d1 b1=>gh (t:=true) (k9 f Y) (nv (bC (tL ?_)));have dF:∀c d,ak 109 (bh (yu cz t x fb (lK G n (i+1)) (fm G (i+1)).length i)) c d->c.defers=[]->bI vfc (.code (.region 15 (az Tryz.f3 15) false):: .inLoop (F7 Tryz.f3):: .inBlock 2::ks) ks' Q c d:=λc d b d2=>by rw[lJ (az Tryz.f3 15)];refine dl b KF λs p h d3 D=>Kn ?_;have e:((i:Int)+1)=((i+1:Nat):Int):=AQ;rw[e]at h;exact y (i+1) s p AQ (h.aT ⟨Y,Y,Y,Y,Y,NE⟩) (d3.trans d2)
  unfold oQ;refine bC (bC ?_);rw[lJ (az Tryz.f3 16)];have j:(lK G n i).getD i false= !m8 G i:=by grind[Yf,qi]
  cases g:m8 G i with
  |false=>
   rw[g]at j;refine dl (f.aT (l:=yu cz t x fb (lK G n i) (fm G i).length i) ⟨Y,Y,Y,Y,Y,NE⟩) (ap Y Jc<|ap Y Jc<|ap Y (X5 Y Y Y AQ AQ)<|ap Y (w8 (o8 (q:=10) Y Y Y AQ) j)<|rfl) λc d b d2 E=>gh (t:=true) (k9 b Y) (DF (xV:=.code (.region 15 (az Tryz.f3 15) false):: .inLoop (F7 Tryz.f3):: .inBlock 2::ks) Y (dF c d ?_ (d2.trans (d1.trans hd))));have e1:lK G n (i+1)=lK G n i:=List.map_congr_left λk _=>aDv g k;have e2:(fm G (i+1)).length=(fm G i).length:=by rw[X0,g];rfl
   rw[e1,e2];exact b.aT ⟨Y,Y,Y,Y,Y,NE⟩
  |true=>rw[g]at j;have hg:=(Rl hi g).2;rw[<-L.aS]at hg;refine dl (f.aT (l:=yu cz t x fb (lK G n i) (fm G i).length i) ⟨Y,Y,Y,Y,Y,NE⟩) (ap Y Jc<|ap Y Jc<|ap Y (X5 Y Y Y AQ AQ)<|ap Y (w8 (o8 (q:=10) Y Y Y AQ) j)<|rfl) λc d b d2 E=>gh (t:=false) (k9 b Y) (nv (bC (bC ?_)));rw[lJ (az Tryz.f3 17)];refine dl (b.aT (l:=yu cz t x fb (lK G n i) (fm G i).length i) ⟨Y,Y,Y,Y,Y,NE⟩) (ap Y Jc<|ap Y LM<|ap Y (F6 Y Y L.S.h0 L.S.hn)<|ap Y (aDO Y Y Y AF AQ)<|rfl) λs p h d3 D=>gh (t:=false) (k9 h Y) (nv ?_);exact aEq L hi g A (h.aT ⟨Y,Y,Y,Y,Y,NE⟩) λB u v d4=>DD (dF B u v (d4.trans (d3.trans (d2.trans (d1.trans hd)))))
def aEz(L:RD t x n m G V b3 c1 bt cF d5){a w}(hd:a.defers=[])(hk:ak 109 (bh ((8,dt true)::Cc t x)) a w):
 bI vfc [.R (az Tryz.f3 3) [],.code (B9 Tryz.f3)] [.code .ret] (λa1 w1=>a1.defers=[]/\ak 109 (bh [(4,dt true)]) a1 w1/\c6 w w1) a w:=by
 have C:=L.C;refine xW (aEn L.S hd hk λa1 w1 b1 b d1=>?_);obtain⟨E,eE,j⟩:=b.has 5 (tZ t) Y;obtain⟨D,v,y⟩:=b.has 7 (tZ x) Y;have d:ak 109 (bh [(5,s_ w1 t),(7,s_ w1 x)]) a1 w1:=en eE (pO j)<|en v (pO y)<|wL b.size;unfold X7;refine bC ?_;rw[lJ (az Tryz.f3 11)];refine dl d (ap Y LM<|ap Y (F6 Y Y C.h0 C.hn)<|ap Y (aDP (s:=5) Y Y Y (by have:=C.le;omega) Y)<|ap Y Jt<|rfl) λO B l d2 N=>bC ?_;rw[lJ (az Tryz.f3 12)];refine dl l (ap Y (dO (F:=bG ((0:Nat):Int)) Y Jg)<|rfl) λK A k d3 M=>bC (bC ?_);rw[lJ (az Tryz.f3 13)];refine dl k (ap Y (dO (F:=bG ((0:Nat):Int)) Y Jg)<|rfl) λh e f d4 bV=>tL (Km ?_);obtain⟨v10,z,fb,p,i⟩:=f.has 10 (pk w1.heap.size n) Y;have o:lK G n 0=List.replicate n false:=by apply vbw;grind[aDu,lK]
 rw[<-o]at i;have c:ak 109 (bh (yu w1 t x fb (lK G n 0) (fm G 0).length 0)) h e:=en z i (f.aT ⟨Y,Y,Y,Y,NE⟩);refine aEx L p (λfO iK q d5=>?_) n 0 h e (vbs _) c (d4.trans (d3.trans (d2.trans d1)));unfold oR;refine bC ?_;rw[lJ (az Tryz.f3 23)];refine dl q (ap Y Jc<|ap Y LM<|ap Y (F6 Y Y L.S.h0 L.S.hn)<|ap Y K4<|ap Y Jt<|rfl) λH I g r J=>lV ⟨r.trans d5,g.aT ⟨Y,NE⟩,?_⟩;obtain⟨u,-,hq⟩:=g.has 5 (s_ w1 t) Y;exact b1.trans (hq.aDI.mono b1.size)
end
def aEC rs(h:rs.length<=40):Mu (kL rs) rs.length (pm rs) ⟨1,0,rs.map λr=>kq r.1,[],rs.map λr=>gw r.1⟩ ⟨1,0,rs.map λr=>fJ r.2.1,[],rs.map λr=>gw r.2.1⟩ ⟨2,2,rs.map λr=>fJ r.2.2.1,[],rs.map λr=>gw r.2.2.1⟩ ⟨3,0,[],rs.map λr=>nT r.2.2.2,rs.map λr=>gw r.2.2.2⟩:=by
 have vv:∀{aH:Type}(f:dQ->aH)(j:Nat)(a:j<rs.length),(rs.map f)[j]?=some (f rs[j]):=λf j a=>by simp[a]
 have q:∀j(a:j<rs.length),(pm rs j).getD 0 du=v0 rs[j]/\(pm rs j).getD 1 du=v1 rs[j]/\(pm rs j).getD 2 du=v2 rs[j]/\(pm rs j).getD 3 du=v3 rs[j]:=λj a=>by rw[IM rs a];exact⟨Y,Y,Y,Y⟩
 refine⟨by simp[kL],by simp[kL],h,Y,Y,Y,Y,λj a=>?_,λj a=>?_,λj a=>?_,λj a=>?_,λj a=>?_,λj a=>?_,λj a=>?_,λj a=>?_,λj a=>?_⟩
 .rw[(q j a).1,F5];exact vv _ j a
 .rw[(q j a).1,F5];exact vv _ j a
 .rw[(q j a).2.1,Rm];exact vv _ j a
 .rw[(q j a).2.1,Rm];exact vv _ j a
 .rw[(q j a).2.2.1,(Rn _).1];exact vv _ j a
 .rw[(q j a).2.2.1,(Rn _).2.1];exact vv _ j a
 .rw[(q j a).2.2.2,Ro];exact vv _ j a
 .rw[(q j a).2.2.2,Ro];exact vv _ j a
 .rw[(q j a).2.2.1,(Rn _).2.1];exact VO _
def IQ(rs:List dQ):List a9:=mP mF (kd (nZ rs)) (nZ rs).length
def Cd D(m:Nat){k:Nat}(hk:k<6):(mP mF D m)[k]?=some (nt (mF[k]?.getD (0,0)) (D · k) m):=by have:k<mF.length:=hk;simp[mP,this]
def Yj{aH:Type}(f:Nat->aH){m g}(h:g<m):((List.range m).map f)[g]?=some (f g):=by simp[h]
def aED rs:Mw (IQ rs) (nZ rs).length (nt (3,0) (kd (nZ rs) · 5) (nZ rs).length):=by refine⟨by simp[IQ,mP,mF],by simp[IQ,mP,mF],by simp[IQ,mP,mF,nt],λk hk=>?_,Cd _ _ AF,by simp[nt]⟩;refine⟨_,Cd _ _ AQ,?_⟩;obtain rfl|rfl|rfl|rfl|rfl:k=0\/k=1\/k=2\/k=3\/k=4:=AQ;all_goals simp[nt,mF]
def aEE rs{i}(hi:i<rs.length):Ry (kw rs) (pm rs) rs.length i:=λj a=>by rw[aDD rs hi a,IM rs hi,IM rs a];show _=((v0 _).bR==(v0 _).bR&&(v0 _).num==(v0 _).num);rw[F5,F5]
def aEF rs(h:rs.length<=40){i}(hi:i<rs.length)(a:m8 (kw rs) i=true):∃d0 d1 d2 d3 d4 d5,Rx (IQ rs) (fm (kw rs) i).length ((pm rs i).getD 0 du) (lI (kw rs) (pm rs) i rs.length) d0 d1 d2 d3 d4 d5:=by
 obtain⟨vs,e,e0,b,c⟩:=aDE rs h hi a;have hg:(fm (kw rs) i).length<(nZ rs).length:=by rw[pQ];exact(Rl hi a).2
 have rd:∀k,kd (nZ rs) (fm (kw rs) i).length k=vs.getD k h9:=λk=>by unfold kd;rw[e,List.getD_eq_getElem?_getD];rfl
 have hv:(pm rs i).getD 0 du=v0 rs[i]:=by rw[IM rs hi];rfl
 rw[hv];obtain⟨o1,o2,o3,o4,Le⟩:=b;generalize(fm (kw rs) i).length=g at *;generalize lI (kw rs) (pm rs) i rs.length=s at *;have nl:∀(ty:ubs) k,(nt ty (kd (nZ rs) · k) (nZ rs).length).ff[g]?=some (vs.getD k h9).bR:=λty k=>by rw[<-rd];exact Yj _ hg
 have nm:∀(ty:ubs) k,ty.1≠3->(nt ty (kd (nZ rs) · k) (nZ rs).length).im[g]?=some (vs.getD k h9).num:=λty k ht=>by rw[<-rd];unfold nt;simp only[vby ht];exact Yj (λr=>(kd (nZ rs) r k).num) hg
 have st:∀(ty:ubs) k,ty.1=3->(nt ty (kd (nZ rs) · k) (nZ rs).length).iJ[g]?=some (vs.getD k h9).text:=λty k ht=>by rw[<-rd];unfold nt;simp only[vca ht];exact Yj (λr=>(kd (nZ rs) r k).text) hg
 refine⟨_,_,_,_,_,_,Cd _ _ AF,Cd _ _ AF,Cd _ _ AF,Cd _ _ AF,Cd _ _ AF,Cd _ _ AF,?_,?_,?_,?_,?_,?_,?_,?_,?_,?_,?_,?_⟩
 .rw[nl,e0]
 .rw[nm _ _ AF,e0]
 .rw[nl,o1.1]
 .rw[nm _ _ AF,o1.2]
 .rw[nl,o2.1]
 .rw[nm _ _ AF,o2.2]
 .rw[nl,o3.1]
 .rw[nm _ _ AF,o3.2]
 .rw[nl,o4.1]
 .rw[nm _ _ AF,o4.2]
 .rw[nl,Le.1]
 .rw[st _ _ AF,Le.2]
def aEG rs(h:rs.length<=40):∃b3 c1 bt cF d5,RD (kL rs) (IQ rs) rs.length (nZ rs).length (kw rs) (pm rs) b3 c1 bt cF d5:=⟨_,_,_,_,_,aEC rs h,aED rs,λi hi=>aEE rs hi,λi hi a=>aEF rs h hi a,pQ rs⟩
end aV
namespace IR
open Conc ConcM RowKit av bj cV dx bd b_ e9 aV gD
section
variable{O:gW}{n0:Nat}{V:uan}
def qj:jQ prog 3:=Bm func3 AD oP
def F9:qX:=⟨λi=>i==0||i==13,λi=>i==0||i==13,λ_=>false⟩
def w9(V:uan):fT:=⟨F9,V⟩
def m2:DC prog (w9 V):=λ_ h=>nomatch h
def aEH{ops k}(h1:ops.all (vt F9 ops)=true)(h2:k.all (fK F9)=true):Ij prog ops k (w9 V):=⟨m2,h1,h2,λ_ h=>h⟩
section
variable{Post:hV}{n:Nat}{Shun:ual}{aD M:dL}{w0 w:aR}{a b nW:Act}{cs:hH}{t:List a9}{S:Nat}{kN:List cP}{x y:Int}
def aEI(A:jv (w9 V) a b)(p:Iv O prog 109 (bh (Mv t x y)) aD w0 nW)(H:Held O prog aD w0 w0.heap.size a M w Shun)(P:FK (bh (Mv t x y)) nW a)(E:F4 t S kN)(D:ek x)(C:ek y)(hn:n+64<=200)(hsz:a.tmps.size=109)(o:∀a' g M' w' i f,Held O prog aD w0 w0.heap.size a' M' w' f->jv (w9 V) a' g->ak 109 (bh ((8,dt true)::Cc t (mP mF (kd kN) kN.length))) a' w'->bT prog Post i f 0 (a4 ((base 3).at g [.R (az Tryz.f3 3) [],.code (B9 Tryz.f3)]) cs) w'):
 bT prog Post n Shun 0 (a4 ((base 3).at b [.code (.region 3 (az Tryz.f3 3) true),.code (B9 Tryz.f3)]) cs) w:=by
 rw[lJ (az Tryz.f3 3)]at o⊢;refine azW (S:=⟨6,λj=>j==9||j==12,λj=>decide (6<j),[(11,27,7)]⟩) (L:=bh []) (d:=4) (cW:=Pw (mP mF (kd kN) kN.length)) nx mixed qj (aEH AD AD) AD p (jT trivial) AD Y Y Y Y func5 AB Y Y (show gD.hX F9 _=true by decide+kernel) hn Y (aV.hq Y (azN Y Y)<|aV.hq Y (Qz Y Y)<|aV.hq Y (aD0 Y Y)<|aV.hq Y (aDU Y Jg)<|aV.hq Y (aDY Y Y)<|aV.hq Y (aDZ Y Y Y)<|aV.hg Y (λa M w hk m=>by
  obtain⟨u1,e1,r1⟩:=hk.has 24 (PY x y) Y;obtain⟨u2,e2,r⟩:=hk.has 26 (Pu t) Y;obtain⟨u3,e3,q⟩:=hk.has 29 Pv Y;have r1:u1=.agg #[.I x,.I y]:=r1;subst r1;rw[show(#[Operand.tmp 24,.tmp 26,.tmp 29].map a.eval)=#[.agg #[.I x,.I y],u2,u3]from by simp_all[Act.eval]];exact aDl E D C (mw (l:=[u2,u3]) λz k=>by
   simp at k;rcases k with rfl|rfl
   .exact m.get _ _ _ e2 e2
   .exact m.get _ _ _ e3 e3) r q)<|aV.hk (B:=Ag) Y Jc (λ_=>awe) AF<|aV.hk (B:=Ag) Y (azO Y Y) (λ_=>NH) AF<|aV.hk (B:=Ag) Y (azP Y Y) LL AF<|aV.hn (F:=l5 w0.heap.size 27 1) Y (λa w' hn _=>WF Y a w' hn) (hs:=λ_ _ _ _=>Ll)<|aV.hst Y (OO Y Y Y) (hs:=λ_=>auJ Y)<|aV.hk (B:=Ag) Y Jt LL AF<|rfl) A H P ⟨hsz,λs F e=>GA⟩ ?_
 intro a' g M' w' i f hKn c W I J X;obtain⟨T,N,u,aW,h1,-,h2,h3⟩:=c.has 7 (Ie w0.heap.size (mP mF (kd kN) kN.length)) Y;obtain⟨R,K,Q⟩:=c.has 8 (dt true) Y;obtain⟨U,eE,v⟩:=hKn.has 5 (tZ t) Y;exact o a' g M' w' i f I J (en K Q<|en eE v<|en N ⟨u,aW,h1,vax _,h2,h3⟩<|wL c.size)
def jA{K K'}(e:jv (w9 V) a b)(H:Held O prog aD w0 n0 a M w Shun){k k'}(d:k.all (fK F9)=true)(hk:k.all (fB prog)=true)(i:k'.all (fB prog)=true)(ok:∀s F,K s=some F->F.ok n0)(ok':∀s F,K' s=some F->F.ok n0)(f:ak 109 K a w)(hrun:∀W,ak 109 K a W->bI vfc k k' (λa1 w1=>a1.defers=[]/\ak 109 K' a1 w1/\c6 W w1) a W)(h:∀a' c M' w',Held O prog aD w0 n0 a' M' w' Shun->jv (w9 V) a' c->ak 109 K' a' w'->bT prog Post n Shun 0 (a4 ((base 3).at c k') []) w'):
 bT prog Post n Shun 0 (a4 ((base 3).at b k) []) w:=by
 refine LC nx qj m2 e d H hk i (I:=ak 109 K) (J:=ak 109 K') (kZ _ ok) (kZ _ ok') f (λW g hI b cs=>?_) h;obtain⟨a1,w1,⟨h1,h2,h3⟩,h4⟩:=hrun W hI b cs;exact⟨a1,w1,⟨h1,h2,h3.mono g⟩,h4⟩
def aEJ{ks:uab}(hd:a.defers=[])(h4:a.tmps[4]?=some (.T))(e:∀k,Post (.T) (w.at k)):bT prog Post n Shun 0 (a4 ((base 3).at a (.code .ret::ks)) []) w:=by
 refine Dy Y λk=>⟨a4 {(base 3).at a (.code .ret::ks)with mode:=.returning} [],w.at k,#[],?_,AS,vac _,?_⟩
 .simp[a4,stepG,stepG.exec,Frame.at,base]
 .refine aqq Y λk'=>⟨.T,#[],?_,AS,e k'⟩;have c:=func3;have b:(results Tryz.f3 a.tmps).run prog ((w.at k).at k')=.ok (.T) ((w.at k).at k'):=by simp_all[results]
  have d:(results Tryz.f3 a.tmps).events prog ((w.at k).at k') #[]=#[]:=by simp_all[results]
  simp[a4,stepG,unwind,doReturn,Frame.at,base,hd,c,b,d,seen,GStep.after]
def aEK(p:jv (w9 V) a b)(H:Held O prog aD w0 n0 a M w Shun)rs(l:rs.length<=40)(z:ek x)(u:ek y)(hs:ak 109 (bh [(3,vi x y),(14,rW (kL rs))]) a w)(hn:n+64<=200)(A:∀a' M' w' B,Held O prog aD w0 n0 a' M' w' B->Post (.T) w'):
 bT prog Post n Shun 0 (a4 ((base 3).at b [.R (az Tryz.f3 1) [2,3],.code (Rs Tryz.f3)]) []) w:=by
 obtain⟨b3,c1,bt,cF,d5,L⟩:=aEG rs l;have d:∀m,∀s F,bh (Mv (kL rs) x y) s=some F->F.ok m:=λm=>I_;refine jA p H (k':=[.code (.region 3 (az Tryz.f3 3) true),.code (B9 Tryz.f3)]) (K':=bh (Mv (kL rs) x y)) AD AD AD (by exact jT ⟨NE,NE,NE⟩) (d _) hs (λW hI=>aEj H.defers hI) ?_;intro a1 b1 I w1 i h j;refine aEI h (i.phase j (d _)) i.azU (λ_ _ _=>Y) (aDA rs l) z u hn j.size λP N Q D ik R f g t=>?_;have f:=i.back f;refine jA g f (k':=[.code .ret]) (K':=bh [(4,dt true)]) AD AD AD I_ (by exact jT ⟨NE,NE⟩) t (λW hI=>aEz L f.defers hI) ?_;intro J K E C o c q;obtain⟨v,e,r⟩:=q.has 4 (dt true) Y;cases r;exact aEJ (c.defers.trans o.defers) ((c.same 4 Y).trans e) λk=>A _ _ _ _ (o.at k)
