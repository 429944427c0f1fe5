import Derived.Test.YtcjlmniddnnieaaGreatPAX
set_option linter.all false
set_option maxRecDepth 100000
set_option maxHeartbeats 16000000
namespace Go.Proofs.YtcjlmniddnnieaaGreat
open Tryz
namespace dI
open Conc ConcM RowKit au bn cC c5 bU bM eb aK
section
variable{O:fk}
def HA(p:Int)(w:aH)(v:Value):Prop:=∃g c cs,v=.S g 0 1 c/\ag w g cs 3/\cs[0]?=some (.I p)
def Ak(p:Int):a4:=⟨HA p,λ_ _ _ hb⟨g,c,cs,e,h1,h2⟩=>⟨g,c,cs,e,h1.call hb,h2⟩,λ_=>True,λn _ ρ w w' v v' hc hv⟨g,c,cs,e,h1,h2⟩=>by
 subst e
 obtain⟨g',rfl,r⟩:=rB hv
 obtain⟨c',k1,-,key⟩:=Ht hc r h1
 obtain⟨u,bj,a_⟩:=key 0 _ h2
 rw[gM a_]at bj
 exact⟨g',c,c',Y,k1,bj⟩⟩
def HA.ko{p:Int}{w:aH}{v:Value}(h:HA p w v):iQ w v [p]:=by obtain⟨g,c,cs,rfl,b,a⟩:=h;refine⟨_,_,Y,AQ,λi hi=>?_⟩;obtain rfl:i=0:=Dk;refine⟨g,0,Y,?_⟩;simp[rQ,b.rules.1,a]
def HB(k:Nat)(p:Int)(w:aH)(u:Value):Prop:=∃aA,u=.tuple #[.N,.I 5,.agg #[.I k,aA]]/\HA p w aA
def w_{n0:Nat}(k:Nat)(p:Int):kf n0 (HB k p):=by
 rintro ρ w w' v v' a hv ⟨aA,rfl,h⟩;obtain⟨g,rfl,q⟩:=Bx hv;cases q with
 |cons e q=>cases q with
  |cons d q=>cases q with
   |cons c q=>
    cases q;obtain⟨l2,rfl,q⟩:=pB (l:=[.I k,aA]) c;cases q with
    |cons b q=>cases q with
     |cons f q=>cases q;exact⟨_,by rw[kR e,gM d,gM b],(Ak p).ii n0 trivial _ _ _ _ _ a f h⟩
section
variable{N:Nat}{K:bF}{o:Oper}{F:a4}{x y:uau}
def NL{p:Int}{T T':uab}(d:o.op=.binOp .neq T x (.const (.N)) T')(f:bg K x (Hs [p]))(g:T=76):bD vee N K o (eB true):=λa w hk=>.inl ⟨.T,w,by
 obtain⟨j,c,e,-,h⟩:=hk.ev f;obtain⟨b,off,rfl,-⟩:=h 0 AQ;have i:a.eval (.const (.N))=.N:=rfl;generalize a.eval=ev at e i⊢;subst g;cases o;simp only at d;subst d;clear h;simp at e;go_simp,Y,vaa _ _⟩
def awp(a:fi)(w:aH):Sem.run vee (callFunc 28 a) w=.ok (.enter 28 a) w:=cq OO AM a w
def awq{p:Int}{ats:uap}(d:o.op=.call {callee:=.value (.func 28),args:=#[x],argTypes:=ats})(a:bg K x (Hs [p])):bD vee N K o (Ak p):=
 ER d awp a λv w h=>by obtain⟨m,c,rfl,-,h⟩:=h;obtain⟨b,off,rfl,f⟩:=h 0 AQ;refine(Sk p b off c w (by simpa[rQ]using f)).mono ?_;rintro e w' ⟨g,l,cs,rfl,k,j,i⟩;exact⟨_,Y,⟨g,l,cs,Y,k,j⟩,i⟩
def Pt(k p:Int):a4:=⟨λw u=>∃v,u=.agg [.I k,v].toArray/\HA p w v,λ_ _ _ hb⟨v,e,h⟩=>⟨v,e,(Ak p).iI _ _ _ hb h⟩,λ_=>True,λn _ ρ w w' u jI hc hv⟨v,e,h⟩=>by
 subst e
 obtain⟨l',rfl,q⟩:=pB hv
 cases q with
 |cons k1 q=>cases q with
  |cons k2 q=>cases q;exact⟨_,by rw[gM k1],(Ak p).ii n trivial _ _ _ _ _ hc k2 h⟩⟩
def awr{k p:Int}(a:o.op=.build 50 #[(0,x),(1,y)])(e:bg K x (a9 k))(d:bg K y (Ak p)):bD vee N K o (Pt k p):=uR e d λev w h b=>by have f:ev x=.I k:=h;refine⟨.agg #[ev x,ev y],w,?_,⟨_,by rw[f],b⟩,vaa _ _⟩;obtain⟨g,c,cs,i,-⟩:=b;cases o;simp only at a;subst a;go_simp
end
def aws{o:Oper}{x y:uau}{k:Int}{c:uam}{n0 cz:Nat}(a:o.op=.store 50 x y)(ev:uak){w:aH}{b:Nat}(d:ag w b #[.I 0,.N] 50)(h:ev x=.P b 0)(g:ev y=.agg #[.I k,.slice c n0 cz]):(execOp ev o).run vee w=.ok .skip ((w.setCell ⟨b,0,none⟩ (.I k)).setCell ⟨b,1,none⟩ (.slice c n0 cz)):=by obtain⟨i,f,e⟩:=d.all;cases o;simp only at a;subst a;go_simp
def awt{n0 N k:Nat}{D:List (List bh)}{W af p:Int}{a:Act}{w:aH}(hd:a.defers=[])(hn:n0<=w.heap.size)(h:ah 57 (aW ((29,EY [p])::(10,a9 k)::mO n0 N D W af k)) a w):
 qr vee f20 (.R (aI f20 5) (List.range' 5 5)::E1 f20) (λv w1=>HB k p w1 v/\Below n0 w w1) a w:=by
 unfold E1 Pp;rw[eI (aI f20 5)];refine xV (ks':=[.code .ret,.inBlock 2,.code (.region 10 (aI f20 10) false),.inBlock 1,.code (.region 11 (aI f20 11) false),.inLoop (E0 f20),.inBlock 0,.code (K9 f20)]) ?_;refine(show b8 _ (.R _ (List.range' 5 (5+0))::_) _ _ _ _ from sw h (aE Y Kl<|aE Y (z5 Y Y)<|aE Y (z3 Y Y)<|aE Y K6<|aE Y K6<|rfl) AU λa1 w1 z d1 b1=>tv (cg (wG (cg ?_))));rw[eI (aI f20 6)];refine gg z (aE Y Kl<|aE Y (NL Y Y Y)<|aE Y K6<|rfl) λO w2 n C b2=>lv (t:=true) (BL n Y Y) (cg ?_);rw[eI (aI f20 7)];refine uM (show b8 _ (.R _ (List.range' 0 (6+1))::_) _ _ _ _ from sw n (aE Y Kl<|aE Y Kl<|aE Y (awq Y Y)<|aE Y (awr Y Y Y)<|aE Y (eC (F:=mN) Y Kk)<|aE Y (eC (F:=a9 5) Y Kk)<|rfl) AU λE s f B H=>xX ?_);have o:=b1.trans (b2.mono b1.size);have A:=o.trans (H.mono o.size);obtain⟨S,m,d,rfl,r,q⟩:=f.has 8 _ Y;obtain⟨K,l,v,rfl,I⟩:=f.has 38 _ Y;obtain⟨Q,M,rfl⟩:=f.has 6 _ Y;obtain⟨P,u,rfl⟩:=f.has 7 _ Y;obtain⟨g,c,cs,rfl,hg,y⟩:=I;have b:g≠d:=λe=>JJ;refine i_ (R:=λa' w'=>a'=E/\w'=(s.setCell ⟨d,0,none⟩ (.I k)).setCell ⟨d,1,none⟩ (.S g 0 1 c)) (tx Y Y Y (aws Y _ q (c2 m) (c2 l)) ⟨Y,Y⟩) ?_;rintro _ i ⟨rfl,j⟩;have x:ag i d #[.I k,.S g 0 1 c] 50:=by rw[j];exact(q.set _ _).set _ _
 have L:ag i g cs 3:=by rw[j];exact(hg.ek b _).ek b _
 have J:Below n0 w i:=by rw[j];exact((A.mono hn).setCell r _).setCell r _
 refine qy (jS (Hh (v:=.tuple #[.N,.I 5,.agg #[.I k,.S g 0 1 c]]) (B.trans (C.trans (d1.trans hd))) ?_ ⟨⟨_,Y,g,c,cs,Y,L,y⟩,J⟩));obtain⟨c1,co,db⟩:=x.all;simp[results,results20,go_sem,M,u,m,c1]
def awv{Post:fX}{M:dY}{w:aH}{aV bd:Value}{a:List rF}{ts:List (List bo)}{cX:List (List bh)}{W af p:Int}(h:aM (bG M) #[aV,bd,.agg #[.I W,.I af]] #[aV,bd,.agg #[.I W,.I af]])(ht:(dS 1 lM ts).R w aV)(f:(dS 7 nb a).R w bd)(y:cX.length<a.length)(a3:a.length<=1000)(v:∀x∈cX,x.length<=300/\Full x)(t:∀(k:Nat) la x,a[k]?=some la->cX[k]?=some x->∀args M w,aM (bG M) args args->ah 86 (aW [(0,nI la),(1,dS 1 lM ts),(2,dS 1 mc (cX.take k)),(3,jT W af)]) ⟨args++Array.replicate (86-args.size) undef,[]⟩ w->ei O prog Post 27 args M w 1 (λu _ w'=>(sr x).R w' u/\cP M w w'))(A:∀args M w,aM (bG M) args args->ah 86 (aW [(0,nI a[cX.length]),(1,dS 1 lM ts),(2,dS 1 mc cX),(3,jT W af)]) ⟨args++Array.replicate (86-args.size) undef,[]⟩ w->ei O prog Post 27 args M w 1 (λu _ w'=>(EY [p]).R w' u/\cP M w w')):
 ei O prog Post 20 #[aV,bd,.agg #[.I W,.I af]] M w a.length (λu _ w'=>HB cX.length p w' u/\cP M w w'):=by
 intro n Shun hn i c3 aD aB aJ aL aG csZ B K;obtain⟨bm,cap,rfl,-,-⟩:=id f;have d:cX.take cX.length=cX:=vco Kj;refine xg (m:=cX.length) h ht f rfl AP a3 v AP i t λa' M' w' U a8 X J hs g=>?_;refine xl (c6:=EY [p]) (cX:=cX) rfl ⟨Shun,i⟩ (h.get 0 _ _ rfl rfl) (h.get 1 _ _ rfl rfl) ht f a3 y (by rw[d]) (by rw[d];exact A) AP J hs (by rw[d];exact g) λZ V S r R N l T j=>?_;rw[d]at j;exact KY mH func20 Ps Hv l AM B (I:=ah 57 (aW ((29,EY [p])::(10,a9 cX.length)::mO w.heap.size a.length cX W af cX.length))) (hO:=HB cX.length p) (kT _ (fc ⟨PA,PA,rfl,rfl,PA,PA,PA,PA⟩)) (w_ _ _) j (λW1 C g=>awt l.defers C g) λu Q q H F E D P L=>K u Q q r R AP H F E D ⟨L,λb c e z o s=>P b c e z ⟨o,i.lt o⟩ s⟩
end
section
variable{O:fk}
def Lq(k:Nat)(p:Int):a4:=⟨HB k p,λ_ _ _ hb⟨aA,e,h⟩=>⟨aA,e,(Ak p).iI _ _ _ hb h⟩,λ_=>True,λ_ _=>w_ k p⟩
def BT(k:Nat)(p:Int)(w:aH)(u:Value):Prop:=∃aA,u=.tuple #[.agg #[.N],.I 5,.agg #[.I k,aA]]/\HA p w aA
def axW{n0:Nat}(k:Nat)(p:Int):kf n0 (BT k p):=by
 rintro ρ w w' v v' a hv ⟨aA,rfl,h⟩;obtain⟨g,rfl,q⟩:=Bx hv;cases q with
 |cons e q=>cases q with
  |cons d q=>cases q with
   |cons c q=>
    cases q;obtain⟨l1,rfl,q⟩:=pB (l:=[.N]) e;cases q with
    |cons h0 q=>
     cases q;obtain⟨l2,rfl,q⟩:=pB (l:=[.I k,aA]) c;cases q with
     |cons b q=>cases q with
      |cons f q=>cases q;exact⟨_,by rw[kR h0,gM d,gM b],(Ak p).ii n0 trivial _ _ _ _ _ a f h⟩
def oT(k:Nat)(p:Int):a4:=⟨BT k p,λ_ _ _ hb⟨aA,e,h⟩=>⟨aA,e,(Ak p).iI _ _ _ hb h⟩,λ_=>True,λ_ _=>axW k p⟩
def rR:a4:=⟨eA (.agg #[.N]),uP.eq _,λ_=>True,λ_ _ _ _ _ _ _ _ hv h=>by
 cases h
 obtain⟨l1,rfl,q⟩:=pB (l:=[.N]) hv
 cases q with
 |cons h0 q=>cases q;rw[kR h0];rfl⟩
section
variable{N:Nat}{K:bF}{o:Oper}{x y:uau}{k:Nat}{p:Int}
def axX(a:o.op=.extract x 0)(b:bg K x (Lq k p)):bD vee N K o mN:=dK b λev w h=>by obtain⟨v,e,h⟩:=h;refine⟨.N,w,?_,Y,vaa _ _⟩;clear h;cases o;simp only at a;subst a;go_simp
def axY(a:o.op=.extract x 1)(b:bg K x (Lq k p)):bD vee N K o (a9 5):=dK b λev w h=>by obtain⟨v,e,h⟩:=h;refine⟨.I 5,w,?_,Y,vaa _ _⟩;clear h;cases o;simp only at a;subst a;go_simp
def axZ(a:o.op=.extract x 2)(b:bg K x (Lq k p)):bD vee N K o (Pt k p):=dK b λev w h=>by obtain⟨v,e,h⟩:=h;refine⟨.agg #[.I k,v],w,?_,⟨v,Y,h⟩,vaa _ _⟩;clear h;cases o;simp only at a;subst a;go_simp
def rH(a:o.op=.extract x 0)(b:bg K x (oT k p)):bD vee N K o rR:=dK b λev w h=>by obtain⟨v,e,h⟩:=h;refine⟨.agg #[.N],w,?_,Y,vaa _ _⟩;clear h;cases o;simp only at a;subst a;go_simp
def ri(a:o.op=.extract x 1)(b:bg K x (oT k p)):bD vee N K o (a9 5):=dK b λev w h=>by obtain⟨v,e,h⟩:=h;refine⟨.I 5,w,?_,Y,vaa _ _⟩;clear h;cases o;simp only at a;subst a;go_simp
def re(a:o.op=.extract x 2)(b:bg K x (oT k p)):bD vee N K o (Pt k p):=dK b λev w h=>by obtain⟨v,e,h⟩:=h;refine⟨.agg #[.I k,v],w,?_,⟨v,Y,h⟩,vaa _ _⟩;clear h;cases o;simp only at a;subst a;go_simp
end
section
variable{o:Oper}{x y:uau}{ev:uak}{w:aH}{b:Nat}{cs:fi}
def W7(c:o.op=.store 27 x y)(a:ag w b cs 27)(hs:cs.size=1)(g:ev x=.P b 0)(f:ev y=.agg #[.N]):(execOp ev o).run vee w=.ok .skip (w.setCell ⟨b,0,none⟩ (.N))/\ag (w.setCell ⟨b,0,none⟩ (.N)) b #[.N] 27:=by
 obtain⟨q,rfl⟩:∃q,cs=#[q]:=by obtain⟨l⟩:=cs;match l,hs with| [q],_=>grind
 refine⟨?_,a.set 0 _⟩;obtain⟨h,e,d⟩:=a.all;clear a;cases o;simp only at c;subst c;go_simp
def PF{k:Int}{a:uam}{n0 cz:Nat}(d:o.op=.store 50 x y)(c:ag w b cs 50)(hs:cs.size=2)(h:ev x=.P b 0)(g:ev y=.agg #[.I k,.slice a n0 cz]):(execOp ev o).run vee w=.ok .skip ((w.setCell ⟨b,0,none⟩ (.I k)).setCell ⟨b,1,none⟩ (.slice a n0 cz))/\ag ((w.setCell ⟨b,0,none⟩ (.I k)).setCell ⟨b,1,none⟩ (.slice a n0 cz)) b #[.I k,.slice a n0 cz] 50:=by
 obtain⟨q,r,rfl⟩:∃q r,cs=#[q,r]:=by obtain⟨l⟩:=cs;match l,hs with| [q,r],_=>grind
 refine⟨?_,(c.set 0 _).set 1 _⟩;obtain⟨i,f,e⟩:=c.all;clear c;cases o;simp only at d;subst d;go_simp
end
def ax0:∃b o2 a,((aI Tryz.f10 1)[8]?=some b/\b.op=.store 27 (.tmp 8) (.tmp 16)/\b.guard=none/\b.dst=none)/\((aI Tryz.f10 1)[8+1]?=some o2/\o2.op=.assign (.tmp 17)/\o2.guard=none/\o2.dst=some 9)/\(aI Tryz.f10 1)[8+2]?=some a/\a.op=.store 50 (.tmp 10) (.tmp 18)/\a.guard=none/\a.dst=none:=sg
def ax1{fg fh:a4}{W af k:Nat}{p:Int}(n0:Nat)(a:Act)(w:aH)(hd:a.defers=[])(hn:n0<=w.heap.size)(hk:ah 19 (up (aW [(8,iw n0 27 1),(10,iw n0 50 2),(11,fg),(12,fh),(13,a9 W),(14,a9 af)]) 15 (oT k p)) a w):
 qr vee Tryz.f10 (.R (aI Tryz.f10 1) (List.range' 5 6)::[.code .ret]) (λv w1=>BT k p w1 v/\Below n0 w w1) a w:=by
 refine xV (ks':=[.R (aI Tryz.f10 1) (List.range' 8 3),.code .ret]) ?_;obtain⟨o1,o2,o3,⟨A,Q,P,O⟩,⟨E,X,N,M⟩,r1,L,K,F⟩:=ax0;rw[eI (aI Tryz.f10 1)]at A E r1⊢;refine(show b8 _ (.R _ (List.range' 5 (3+3))::_) _ _ _ _ from sw hk (aE rfl (rH rfl rfl)<|aE rfl (ri rfl rfl)<|aE rfl (re rfl rfl)<|rfl) AU λa1 w1 b d1 b1=>jS (xV (ks':=[.code .ret]) (xX ?_)));obtain⟨b6,z,h,c3,rfl,y,Hy,Z⟩:=b.has 8 _ rfl;obtain⟨WX,x,f,u,rfl,d,t,s⟩:=b.has 10 _ rfl;obtain⟨v16,r,rfl⟩:=b.has 16 _ rfl;obtain⟨v17,q,rfl⟩:=b.has 17 _ rfl;obtain⟨v18,o,aA,rfl,g,c,cs,rfl,hg,J⟩:=b.has 18 _ rfl;obtain⟨I,d_⟩:=W7 (ev:=a1.eval) Q Hy Z (c2 z) (c2 r);refine i_ (R:=λa' w'=>a1=a'/\w'=w1.setCell ⟨h,0,none⟩ (.N)) (tx A P O I ⟨rfl,rfl⟩) ?_;rintro _ w2 ⟨rfl,j⟩;rw[<-j]at d_;have m:f≠h:=λe=>JJ;have U:g≠h:=λe=>JJ;have B:g≠f:=λe=>JJ;have n:ag w2 f u 50:=by rw[j];exact t.ek m _
 have S:ag w2 g cs 3:=by rw[j];exact hg.ek U _
 refine i_ (R:=λa' w'=>a'=a1.put (some 9) (.I 5)/\w2=w') (pC E N M (BI X (c2 q) _) ⟨rfl,rfl⟩) ?_;rintro _ _ ⟨rfl,rfl⟩;have D:(a1.put (some 9) (.I 5)).tmps[8]?=_:=(dV AU).trans z;have f10:(a1.put (some 9) (.I 5)).tmps[10]?=_:=(dV AU).trans x;have f18:(a1.put (some 9) (.I 5)).tmps[18]?=_:=(dV AU).trans o;have C:(a1.put (some 9) (.I 5)).tmps[9]?=some (.I 5):=kS (by rw[b.size];decide);obtain⟨u1,u2⟩:=PF (ev:=(a1.put (some 9) (.I 5)).eval) L n s (c2 f10) (c2 f18);refine i_ (R:=λa' w'=>a'=a1.put (some 9) (.I 5)/\w'=(w2.setCell ⟨f,0,none⟩ (.I k)).setCell ⟨f,1,none⟩ (.S g 0 1 c)) (tx r1 K F u1 ⟨rfl,rfl⟩) ?_;rintro _ l ⟨rfl,i⟩;rw[<-i]at u2;have H:ag l h #[.N] 27:=by rw[i];exact(d_.ek (Ne.symm m) _).ek (Ne.symm m) _
 have T:ag l g cs 3:=by rw[i];exact(S.ek B _).ek B _
 have V:Below n0 w l:=by rw[i,j];exact(((b1.mono hn).setCell y _).setCell d _).setCell d _
 refine qy (jS (Hh (v:=.tuple #[.agg #[.N],.I 5,.agg #[.I k,.S g 0 1 c]]) ((put_defers _ _ _).trans (d1.trans hd)) ?_ ⟨⟨_,rfl,g,c,cs,rfl,T,J⟩,V⟩));clear f18;generalize(a1.put (some 9) (.I 5)).tmps=tm at D C f10⊢;simp[results,results10,go_sem,D,C,f10,H.rules.1,u2.rules.1]
def ax_{P:cf}{ops:fC}{Q:ual}{I:ubp}(hstep:∀aq a w i o,I aq a w->aq.getD i true=false->ops[i]?=some o->(∀e∈o.after,Region.binds .any e=true->aq.getD e.on false=true)->o.guard=none/\∃v w',((execOp a.eval o).run P w=.ok (.value v) w'\/((execOp a.eval o).run P w=.ok .skip w'/\v=undef))/\I (aq.setIfInBounds i true) (a.put o.dst v) w')(c:∀aq a w,I aq a w->Region.ready .any ops aq=[]->Q .normal a w):∀(fuel:Nat)(aq:uar)(a:Act)(w:aH),aq.toList.count false<=fuel->I aq a w->wpAny P .any ops Q fuel aq a w:=by
 intro fuel;induction fuel with
 |zero=>
  intro aq a w g h;have b:Region.ready .any ops aq=[]:=by cases b:Region.ready .any ops aq with|nil=>rfl|cons x xs=>have l:x∈Region.ready .any ops aq:=AJ;grind[count_set,mem_ready]
  exact⟨b,c aq a w h b⟩
 |succ fuel f=>intro aq a w g h;refine⟨λb=>c aq a w h b,λi hi=>?_⟩;obtain⟨g1,o,d,k⟩:=mem_ready.1 hi;obtain⟨hg,v,w',hrun,j⟩:=hstep aq a w i o h g1 d k;have:=f _ _ _ (by grind[count_set]) j;unfold wpOp;simp only[d,xW hg,vbr];refine .inl ?_;unfold Oper.wp;rcases hrun with hrun|⟨hrun,rfl⟩<;>simp only[hrun,Oper.upon]<;>exact this
end
section
variable{O:fk}
section
variable{n0 qG qH x6 g c k:Nat}{cs:fi}{w0:aH}
structure HO(n0 qG qH x6 g c k:Nat)(cs:fi)(w0:aH)(l0 l1 l2 dF jd hR:Bool)(a:Act)(w:aH):Prop where
 ds:a.defers=[]
 size:a.tmps.size=78
 HP:a.tmps[12]?=some (.P qG 0)
 HQ:a.tmps[14]?=some (.P qH 0)
 Lr:a.tmps[17]?=some (.I 5)
 Ls:a.tmps[20]?=some (.P x6 0)
 Lt:l0=true->a.tmps[61]?=some (.agg #[.N])
 Lu:l1=true->a.tmps[62]?=some (.I 5)
 Lv:l2=true->a.tmps[63]?=some (.agg #[.I k,.S g 0 1 c])
 Lw:jd=true->a.tmps[13]?=some (.I 5)
 mI:∃d,ag w qG d 27/\d.size=1/\(dF=true->d=#[.N])
 mJ:∃d,ag w qH d 50/\d.size=2/\(hR=true->d=#[.I k,.S g 0 1 c])
 mK:ag w x6 #[.I k,.S g 0 1 c] 50
 Lx:ag w g cs 3
 Ly:Below n0 w0 w
theorem HO.put{l0 l1 l2 n i j:Bool}{a:Act}{w:aH}(h:HO n0 qG qH x6 g c k cs w0 l0 l1 l2 n i j a w){s:Nat}{v:Value}(hs:s=61\/s=62\/s=63\/s=13){d m1 f o:Bool}(h0:d=true->(s=61/\v=.agg #[.N])\/(s≠61/\l0=true))(z:m1=true->(s=62/\v=.I 5)\/(s≠62/\l1=true))(y:f=true->(s=63/\v=.agg #[.I k,.S g 0 1 c])\/(s≠63/\l2=true))(x:o=true->(s=13/\v=.I 5)\/(s≠13/\i=true)):HO n0 qG qH x6 g c k cs w0 d m1 f n o j (a.put (some s) v) w:=by
 have hsz:s<a.tmps.size:=by rw[h.size];omega
 have ne:∀{t:Nat}{u:Value},s≠t->a.tmps[t]?=some u->(a.put (some s) v).tmps[t]?=some u:=λb e=>(dV b).trans e;have key:∀{t:Nat}{u:Value}{l m:Bool},(l=true->a.tmps[t]?=some u)->(m=true->(s=t/\v=u)\/(s≠t/\l=true))->m=true->(a.put (some s) v).tmps[t]?=some u:=by
  intro t u l m e q p;rcases q p with⟨rfl,rfl⟩|⟨b,r⟩
  .exact kS hsz
  .exact ne b (e r)
 exact⟨(put_defers _ _ _).trans h.ds,(gY _ _ _).trans h.size,ne AP h.HP,ne AP h.HQ,ne AP h.Lr,ne AP h.Ls,key h.Lt h0,key h.Lu z,key h.Lv y,key h.Lw x,h.mI,h.mJ,h.mK,h.Lx,h.Ly⟩
def aya{Q:uag}{ks ks':uaa}{a:Act}{w:aH}(m:qG≠qH/\qG≠x6/\qG≠g)(n:qH≠x6/\qH≠g)(B:n0<=qG)(v:n0<=qH)(h:HO n0 qG qH x6 g c k cs w0 false false false false false false a w)(x:∀a w,HO n0 qG qH x6 g c k cs w0 true true true true true true a w->b8 vee ks ks' Q a w):b8 vee (.code (.region 9 (aI f17 9) true)::ks) ks' Q a w:=by
 refine Bv (wp_region_any AS (ax_ (I:=λaq a w=>∃l0 l1 l2 j b f:Bool,aq=#[l0,l1,l2,j,b,f]/\HO n0 qG qH x6 g c k cs w0 l0 l1 l2 j b f a w) ?_ ?_ _ _ _ _ AQ ⟨false,false,false,false,false,false,Y,h.ds,h.size,h.HP,h.HQ,h.Lr,h.Ls,h.Lt,h.Lu,h.Lv,h.Lw,h.mI,h.mJ,h.mK,h.Lx,h.Ly.drew⟩))
 .rintro aq a w i o ⟨l0,l1,l2,j,b,f,rfl,h⟩ hi l u;rw[eI (aI f17 9)]at l;have A:i<6:=(vaj.1 l).1;have C:i=0\/i=1\/i=2\/i=3\/i=4\/i=5:=AP;rcases C with rfl|rfl|rfl|rfl|rfl|rfl<;>(obtain rfl:=van l)
  .refine⟨Y,.agg #[.N],w,.inl ?_,true,l1,l2,j,b,f,Y,h.put AQ AQ AQ AQ AQ⟩;go_simp
  .refine⟨Y,.I 5,w,.inl ?_,l0,true,l2,j,b,f,Y,h.put AQ AQ AQ AQ AQ⟩;have e:=c2 h.Lr;generalize a.eval=ev at e⊢;go_simp
  .refine⟨Y,.agg #[.I k,.S g 0 1 c],w,.inl ?_,l0,l1,true,j,b,f,Y,h.put AQ AQ AQ AQ AQ⟩;have e:=c2 h.Ls;obtain⟨F,E,D⟩:=h.mK.all;clear h;generalize a.eval=ev at e⊢;go_simp
  .obtain rfl:l0=true:=by simpa using u ⟨0,.data⟩ AQ Y
   obtain⟨d,cu,dr,z⟩:=h.mI;have t:=λo(l:o.op=.store 27 (.tmp 12) (.tmp 61))=>W7 (ev:=a.eval) (o:=o) l cu dr (c2 h.HP) (c2 (h.Lt Y));have d_:=(t {dst:=none,op:=.store 27 (.tmp 12) (.tmp 61),type:=0,pos:= "",after:=#[],guard:=none} Y).2;refine⟨Y,undef,_,.inr ⟨(t _ Y).1,Y⟩,true,l1,l2,true,b,f,Y,h.ds,h.size,h.HP,h.HQ,h.Lr,h.Ls,h.Lt,h.Lu,h.Lv,h.Lw,⟨_,d_,Y,λ_=>Y⟩,?_,h.mK.ek (Ne.symm m.2.1) _,h.Lx.ek (Ne.symm m.2.2) _,h.Ly.setCell B _⟩;obtain⟨s,r,p,q⟩:=h.mJ;exact⟨s,r.ek (Ne.symm m.1) _,p,q⟩
  .obtain rfl:l1=true:=by simpa using u ⟨1,.data⟩ AQ Y
   refine⟨Y,.I 5,w,.inl ?_,l0,true,l2,j,true,f,Y,h.put AQ AQ AQ AQ AQ⟩;have e:=c2 (h.Lu Y);generalize a.eval=ev at e⊢;go_simp
  .obtain rfl:l2=true:=by simpa using u ⟨2,.data⟩ AQ Y
   obtain⟨d,cu,dr,z⟩:=h.mJ;have t:=λo(l:o.op=.store 50 (.tmp 14) (.tmp 63))=>PF (ev:=a.eval) (o:=o) l cu dr (c2 h.HQ) (c2 (h.Lv Y));have d_:=(t {dst:=none,op:=.store 50 (.tmp 14) (.tmp 63),type:=0,pos:= "",after:=#[],guard:=none} Y).2;refine⟨Y,undef,_,.inr ⟨(t _ Y).1,Y⟩,l0,l1,true,j,b,true,Y,h.ds,h.size,h.HP,h.HQ,h.Lr,h.Ls,h.Lt,h.Lu,h.Lv,h.Lw,?_,⟨_,d_,Y,λ_=>Y⟩,(h.mK.ek (Ne.symm n.1) _).ek (Ne.symm n.1) _,(h.Lx.ek (Ne.symm n.2) _).ek (Ne.symm n.2) _,(h.Ly.setCell v _).setCell v _⟩;obtain⟨s,r,p,q⟩:=h.mI;exact⟨s,(r.ek m.1 _).ek m.1 _,p,q⟩
 .rintro aq a w ⟨l0,l1,l2,j,b,f,rfl,h⟩ y;have hd:=O0 (ops:=aI f17 9) AM Y y;obtain rfl:l0=true:=by simpa using hd 0 AM
  obtain rfl:l1=true:=by simpa using hd 1 AM
  obtain rfl:l2=true:=by simpa using hd 2 AM
  obtain rfl:j=true:=by simpa using hd 3 AM
  obtain rfl:b=true:=by simpa using hd 4 AM
  obtain rfl:f=true:=by simpa using hd 5 AM
  exact⟨Y,x a w h⟩
end
section
variable{fg fh:a4}{oh W af k:Nat}{l:fK}{p:Int}
def ayb(n0:Nat)(a:Act)(w:aH)(hd:a.defers=[])(hn:n0<=w.heap.size)(hk:ah 78 (up (aW (Lk fg fh n0 oh l W af)) 55 (Lq k p)) a w):
 qr vee f17 (.R (aI f17 7) (List.range' 4 8)::[.code (Al f17)]) (λv w1=>BT k p w1 v/\Below n0 w w1) a w:=by
 refine xV (ks':=[.code .ret,.code (.seq (.region 10 (aI f17 10) false) (.seq (.region 11 (aI f17 11) false) .ret))]) ?_;obtain⟨o,J,U,Db,Ll⟩:∃o,(aI f17 7)[11]?=some o/\o.op=.store 50 (.tmp 20) (.tmp 58)/\o.guard=none/\o.dst=none:=⟨_,rfl,rfl,rfl,rfl⟩;rw[eI (aI f17 7)]at J⊢;refine(show b8 _ (.R _ (List.range' 4 (4+4))::_) _ _ _ _ from sw hk (aE rfl Kl<|aE rfl (axX rfl rfl)<|aE rfl (axY rfl rfl)<|aE rfl (axZ rfl rfl)<|rfl) AU λa1 w1 i d1 b1=>xX ?_);obtain⟨v56,WZ,rfl⟩:=i.has 56 _ rfl;obtain⟨v57,W0,rfl⟩:=i.has 57 _ rfl;obtain⟨v58,W3,aA,rfl,g,c,cs,rfl,hg,M⟩:=i.has 58 _ rfl;obtain⟨v12,W9,qG,aIO,rfl,W8,r,F⟩:=i.has 12 _ rfl;obtain⟨v14,E,qH,aIP,rfl,PH,q,D⟩:=i.has 14 _ rfl;have blt:∀{b d T},ag w1 b d T->b<w1.heap.size:=λh=>(vaj.1 h).1;refine i_ (R:=λa' w'=>a'=a1.put (some 20) (.P w1.heap.size 0)/\w'=w1.alloc (.cells #[.I 0,.N] 50)) (pC rfl rfl rfl (WV rfl _ _) ⟨rfl,rfl⟩) ?_;rintro bV w2 ⟨rfl,L⟩;have b2:cy w1 w2:=by rw[L];exact(vaa _ w1).alloc Kj _
 have F1:ag w2 w1.heap.size #[.I 0,.N] 50:=by rw[L];exact ag.new _ _ _
 refine i_ (R:=λa' w'=>a'=(a1.put (some 20) (.P w1.heap.size 0)).put (some 19) (.N)/\w2=w') (pC (v:=.N) rfl rfl rfl (BI rfl (c2 ((dV AU).trans WZ)) _) ⟨rfl,rfl⟩) ?_;rintro _ _ ⟨rfl,rfl⟩;refine i_ (R:=λa' w'=>a'=((a1.put (some 20) (.P w1.heap.size 0)).put (some 19) (.N)).put (some 17) (.I 5)/\w2=w') (pC (v:=.I 5) rfl rfl rfl (BI rfl (c2 ((dV AU).trans ((dV AU).trans W0))) _) ⟨rfl,rfl⟩) ?_;rintro f _ ⟨j,rfl⟩;have t:∀{s:Nat}{v:Value},s≠20->s≠19->s≠17->a1.tmps[s]?=some v->f.tmps[s]?=some v:=λB A Z e=>by rw[j];exact(dV (Ne.symm Z)).trans ((dV (Ne.symm A)).trans ((dV (Ne.symm B)).trans e))
 have I:f.tmps[20]?=some (.P w1.heap.size 0):=by rw[j];exact(dV AU).trans ((dV AU).trans (kS (by rw[i.size];decide)))
 have m:f.tmps[17]?=some (.I 5):=by rw[j];exact kS (by rw[gY,gY,i.size];decide)
 have H:f.tmps.size=78:=by rw[j,gY,gY,gY];exact i.size
 have d4:f.defers=[]:=by rw[j,put_defers,put_defers,put_defers];exact d1.trans hd
 obtain⟨u1,u2⟩:=PF (ev:=f.eval) (w:=w2) U F1 rfl (c2 I) (c2 (t AU AU AU W3));refine i_ (R:=λa' w'=>f=a'/\w'=(w2.setCell ⟨w1.heap.size,0,none⟩ (.I k)).setCell ⟨w1.heap.size,1,none⟩ (.S g 0 1 c)) (tx J Db Ll u1 ⟨rfl,rfl⟩) ?_;rintro _ z ⟨rfl,K⟩;rw[<-K]at u2;have y:cy w1 z:=by rw[K];exact(b2.setCell Kj _).setCell Kj _
 refine qy ?_;unfold Al;refine cg (cg ?_);rw[eI (aI f17 8)];refine O5 (n:=2) rfl (i_ (R:=λa' w'=>a'=f.put (some 59) (.I 5)/\z=w') (pC (v:=.I 5) rfl rfl rfl ?_ ⟨rfl,rfl⟩) ?_)
 .have e:=c2 m;generalize f.eval=ev at e⊢;go_simp
 rintro _ _ ⟨rfl,rfl⟩;have C:(f.put (some 59) (.I 5)).tmps[59]?=some (.I 5):=kS (by rw[H];decide);refine i_ (R:=λa' w'=>a'=(f.put (some 59) (.I 5)).put (some 60) (.T)/\z=w') (pC (v:=.T) rfl rfl rfl ?_ ⟨rfl,rfl⟩) ?_
 .have e:=c2 C;have e0:(f.put (some 59) (.I 5)).eval (.const (.I 0))=.I 0:=rfl;generalize(f.put (some 59) (.I 5)).eval=ev at e e0⊢;go_simp
 rintro V _ ⟨x,rfl⟩;have u:∀{s:Nat}{v:Value},s≠59->s≠60->f.tmps[s]?=some v->V.tmps[s]?=some v:=λB A e=>by rw[x];exact(dV (Ne.symm A)).trans ((dV (Ne.symm B)).trans e)
 refine qy (lv (t:=true) (c2 (by rw[x];exact kS (by rw[gY,H];decide))) (cg ?_));have Q:qG≠qH:=λe=>IH;have c3:qG≠g:=λe=>IH;have O:qH≠g:=λe=>IH;have S:qG≠w1.heap.size:=Nat.ne_of_lt (blt r);have gQ:qH≠w1.heap.size:=Nat.ne_of_lt (blt q);refine aya (n0:=n0) (cs:=cs) (k:=k) (w0:=w) ⟨Q,S,c3⟩ ⟨gQ,O⟩ W8 PH ⟨by rw[x,put_defers,put_defers];exact d4,by rw[x,gY,gY];exact H,u AU AU (t AU AU AU W9),u AU AU (t AU AU AU E),u AU AU m,u AU AU I,AQ,AQ,AQ,AQ,⟨_,r.call y,F,AQ⟩,⟨_,q.call y,D,AQ⟩,u2,hg.call y,(b1.mono hn).trans (y.mono (vac hn b1.size))⟩ λP xm h=>jS ?_;obtain⟨d,cu,-,gB⟩:=h.mI;obtain⟨d',X,-,N⟩:=h.mJ;obtain rfl:=gB rfl;obtain rfl:=N rfl;refine Hh (v:=.tuple #[.agg #[.N],.I 5,.agg #[.I k,.S g 0 1 c]]) h.ds ?_ ⟨⟨_,rfl,g,c,cs,rfl,h.Lx,M⟩,h.Ly⟩;have f12:=h.HP;have f13:=h.Lw rfl;have f14:=h.HQ;clear h;generalize P.tmps=tm at f12 f13 f14⊢;simp[results,results17,go_sem,f12,f13,f14,cu.rules.1,X.rules.1]
def ayg{Post:fX}{M:dY}{w:aH}{d:Nat}{aV bd:Value}(b:∀n,fg.ok n)(a:∀n,fh.ok n)(m:aM (bG M) #[aV,bd] #[aV,bd])(fS:fg.R w aV)(j:fh.R w bd)(i:0<W)(h:W<=16)(g:0<af)(f:af<=64)(q:∀w aV bd,fg.R w aV->fh.R w bd->Calls vee 19 #[aV,bd] w λe w'=>∃v,e=.returned v/\(BS oh l).R w' v/\cy w w')(o:∀M w aV bd,aM (bG M) #[aV,bd,.agg #[.I W,.I af]] #[aV,bd,.agg #[.I W,.I af]]->fg.R w aV->fh.R w bd->ei O prog Post 20 #[aV,bd,.agg #[.I W,.I af]] M w d (λu _ w'=>HB k p w' u/\cP M w w')):
 ei O prog Post 10 #[aV,bd,.I W,.I af] M w d (λu _ w'=>BT k p w' u/\cP M w w'):=
 r8 (Fr:=oT k p) Y b a m fS j (λM w aV bd c t n=>sn (c6:=Lq k p) (Fr:=oT k p) Y Y b a c t n i h g f q o ayb) ax1
end
end
section
variable{O:fk}
def oU(ps:List jb)(w:aH)(v:Value):Prop:=∃cE no bC,v=.S cE no (ps.length+1) bC/\qD w cE no 1 0 (.N)/\∀k(h:k<ps.length),E_ w cE no k ps[k]
def ays{n0:Nat}(ps:List jb):kf n0 (oU ps):=by rintro ρ w w' v v' a hv ⟨n,no,l,rfl,f,e⟩;obtain⟨b',rfl,r⟩:=rB hv;obtain⟨m,i,b⟩:=w8 a.cells r f;have:=kR i;rw[this]at b;refine⟨b',no,l,Y,b,λk h=>?_⟩;obtain⟨o,ec,g1,g⟩:=e k h;obtain⟨j,d,c⟩:=w8 a.cells r g1;exact⟨j,ec,c,au.aZ.carry Bc a.cells d g⟩
theorem oU.keeps{ps:List jb}{w w':aH}{v:Value}(h:oU ps w v)(a:br w w'):oU ps w' v:=by obtain⟨e,no,f,rfl,d,c⟩:=h;exact⟨e,no,f,Y,λj x b=>a _ _ _ (d j x b),λk h=>xz (c k h) a⟩
def x8(ps:List jb):a4:=⟨oU ps,λ_ _ _ hb h=>h.keeps (br.ck hb),λ_=>True,λ_ _=>ays ps⟩
def wP(ps:List jb):List rF:=(1,0,[])::ps.mapIdx λk p=>(p.1,(k:Int),p.2)
def uV(ps:List jb):(wP ps).length=ps.length+1:=by simp[wP]
def va{ps:List jb}{w:aH}{v:Value}(h:oU ps w v)(f:ps.length<=1000):(dS 7 nb (wP ps)).R w v:=by
 obtain⟨b,no,e,rfl,h0,d⟩:=h;refine⟨_,e,by rw[uV],G3,λi hi=>⟨b,no,Y,?_⟩⟩;cases i with
 |zero=>
  have h:∀j v,(js 1 0 (.N))[j]?=some v->w.cell? (.a b (no+0*7+j))=some v:=λj v h=>by simpa using h0 j v h
  exact⟨_,_,_,_,_,⟨h 0 _ Y,h 1 _ Y,h 2 _ Y,h 3 _ Y,h 4 _ Y,h 5 _ Y,h 6 _ Y⟩,⟨⟨Y,Y⟩,Y,Y⟩,⟨none,0,Y,by simp[wP],λi hi=>by simp[wP]at hi⟩⟩
 |succ k=>rw[uV]at hi;obtain⟨g,ec,a,c⟩:=d k AP;rw[Nat.mul_comm]at a;simp only[wP,List.getElem_cons_succ,List.getElem_mapIdx];exact⟨_,_,_,_,_,⟨a 0 _ Y,a 1 _ Y,a 2 _ Y,a 3 _ Y,a 4 _ Y,a 5 _ Y,a 6 _ Y⟩,⟨⟨Y,Y⟩,Y,Y⟩,c⟩
def uW{t:List bo}{w:aH}{v:Value}(h:od t w v):(dS 1 lM [t]).R w v:=by obtain⟨a,b,e,x,rfl,d,c⟩:=h;refine⟨_,_,Y,AQ,λi hi=>⟨a,b,Y,x,?_⟩⟩;obtain rfl:i=0:=Dk;exact⟨d,c⟩
structure wQ(t:List bo)(S:Nat)(ps:List jb)(bk:List (List (Int×Int))):Prop where
 h0:0<t.length
 hS:S<=300
 ie:t[0].gZ.length=S
 cR:∀i,i<S->∀c∈t,xo i c
 right:mY t=true
 a3:ps.length+1=2\/ps.length+1=3
 yw:bk.length=ps.length+1
 sk:bk[0]?=some (sU t)
 nX:∀k(h:k<ps.length)(h1:k<bk.length)(h2:k+1<bk.length),HK ps[k] bk[k] bk[k+1]
def One(q:ubu)(rs:List bh):Prop:=(∀i(h:i<rs.length),rs[i].1=[q i])/\∀i j,i<j->j<rs.length->q i<q j
def Xc(p:jb)(rs cH:List bh):Prop:=(p.1=2/\∃ts outs,p.2=[ts]/\GI ts rs outs/\cH=mz rs outs 0 rs.length)\/(p.1=3/\∃outs bad q,xM p.2 rs outs bad/\One q rs/\(∀i,i<rs.length->bad i=none)/\cH=kB rs outs 0 rs.length)
structure Am(t:List bo)(S:Nat)(ps:List jb)(cX:List (List bh)):Prop where
 first:cX[0]?=some (qj t 0 S)
 step:∀(k:Nat) p x,ps[k]?=some p->cX[k+1]?=some x->∃y,cX[k]?=some y/\Xc p y x
 full:∀x∈cX,x.length<=300/\Full x
section
variable{t:List bo}{S:Nat}{ps:List jb}{bk:List (List (Int×Int))}{cX:List (List bh)}{Post:fX}{W af:Nat}{M:dY}{w:aH}{aV bd:Value}
def wQ.ayt(F:wQ t S ps bk):t.length<=8:=by have:=F.right;simp_all[mY]
def uE(F:wQ t S ps bk)(w:aH)(aV bd:Value)(fS:od t w aV)(q:oU ps w bd):Calls vee 19 #[aV,bd] w λe w'=>∃v,e=.returned v/\(BS (ps.length+1) (bk.getD ps.length [])).R w' v/\cy w w':=by obtain⟨d,f,l,b,rfl,j,a⟩:=fS;obtain⟨r,no,s,rfl,h,k⟩:=q;refine(awV t ps bk F.a3 Y F.yw d f l r no s w ⟨_,_,Y,AQ,λi hi=>⟨d,f,Y,b,?_⟩⟩ F.right h k F.sk F.nX).mono λe w'⟨g,c,v,p,o,n,m⟩=>⟨_,p,⟨_,Y,g,c,v,Y,o,n⟩,m⟩;obtain rfl:i=0:=Dk;exact⟨j,a⟩
def uC(F:wQ t S ps bk)(C:Am t S ps cX)(h:0<W)(g:W<=16)(f:0<af)(e:af<=64)(j:Nat)(la:rF)(x:List bh)(b:(wP ps)[j]?=some la)(c:cX[j]?=some x)(args:fi)(M:dY)(w:aH)(i:aM (bG M) args args)(hk:ah 86 (aW [(0,nI la),(1,dS 1 lM [t]),(2,dS 1 mc (cX.take j)),(3,jT W af)]) ⟨args++Array.replicate (86-args.size) undef,[]⟩ w):ei O prog Post 27 args M w 1 (λu _ w'=>(sr x).R w' u/\cP M w w'):=by
 cases j with
 |zero=>simp only[wP,List.getElem?_cons_zero,vbf]at b;subst b;rw[C.first]at c;cases c;exact avC i (hk.a7 ⟨Y,Y,Y,PA⟩) F.h0 (by have:=F.ayt;omega) f e h g F.hS F.ie F.cR
 |succ j=>
  simp only[wP,List.getElem?_cons_succ,List.getElem?_mapIdx,vak]at b;obtain⟨p,n,rfl⟩:=b;obtain⟨y,l,hst⟩:=C.step j p x n c;obtain⟨o,gn⟩:=p;rcases hst with⟨a,ts,outs,k,ok,rfl⟩|⟨a,outs,bad,q,ok,⟨m,o2⟩,d,rfl⟩
  .simp only at a k;subst a k;exact avE i (hk.a7 ⟨Y,Y,Y,PA⟩) AJ ok f e h g (C.full y (vcb l)).1
  .simp only at a;subst a;exact avJ i (hk.a7 ⟨Y,Y,Y,PA⟩) AJ ok m o2 d f e h g (C.full y (vcb l)).1
def uq(F:wQ t S ps bk)(C:Am t S ps cX){rs:List bh}(j:cX.length=ps.length+1)(c:cX[ps.length]?=some rs)(hlen:∀r∈rs,r.2.length=(bk.getD ps.length []).length)(l:(bk.getD ps.length []).length<=8)(i:∀r∈rs,∀d∈r.2,d.text.size<=1000000)(h:0<W)(g:W<=16)(f:0<af)(e:af<=64)(b:aM (bG M) #[aV,bd] #[aV,bd])(fS:od t w aV)(a:oU ps w bd):
 ei O prog Post 17 #[aV,bd,.I W,.I af,.I 0,.I 9223372036854775807] M w (ps.length+1) (λu _ w'=>wN (pn (bk.getD ps.length []) (og rs) rs.length) w' u/\cP M w w'):=by
 have a3:=F.a3;have k:=(C.full rs (vcb c)).1;refine axS (fg:=BP t) (fh:=x8 ps) (λ_=>trivial) (λ_=>trivial) b fS a h g f e AP AP AP hlen i (uE F) λM w aV bd b fS a=>?_;rw[<-uV ps];exact awn (ts:=[t]) (cX:=cX) b (uW fS) (va a AP) (by rw[uV];exact j) G3 G3 C.full (by rw[uV];exact c) (uC F C h g f e)
def ayw(F:wQ t S ps bk)(C:Am t S ps cX){rs:List bh}(c:cX.length=ps.length+1)(b:cX[ps.length]?=some rs)(hlen:∀r∈rs,r.2.length=(bk.getD ps.length []).length)(l:(bk.getD ps.length []).length<=8)(a:∀r∈rs,∀d∈r.2,d.text.size<=1000000)(i:0<W)(h:W<=16)(g:0<af)(f:af<=64)(k:aM (bG M) #[aV,bd] #[aV,bd])(fS:od t w aV)(j:oU ps w bd):
 ei O prog Post 10 #[aV,bd,.I W,.I af] M w (ps.length+1) (λu _ w'=>wN (pn (bk.getD ps.length []) (og rs) rs.length) w' u/\cP M w w'):=
 r4 (fg:=BP t) (fh:=x8 ps) (λ_=>trivial) (λ_=>trivial) k fS j λM w aV bd e t n=>uq F C c b hlen l a i h g f e t n
def ayx(F:wQ t S ps bk)(C:Am t S ps cX){rs:List bh}(f:cX.length=ps.length+1)(b:cX[ps.length]?=some rs)(hlen:∀r∈rs,r.2.length=(bk.getD ps.length []).length)(o:(bk.getD ps.length []).length<=8)(a:∀r∈rs,∀d∈r.2,d.text.size<=1000000){x y:Int}(e:c9 x)(c:c9 y)(m:aM (bG M) #[aV,bd] #[aV,bd])(fS:od t w aV)(l:oU ps w bd):
 ei O prog Post 12 #[.agg #[.I x,.I y],aV,bd] M w (ps.length+1) (λu _ w'=>BO (pn (bk.getD ps.length []) (og rs) rs.length) w' u/\cP M w w'):=
 ayo (fg:=BP t) (fh:=x8 ps) (λ_=>trivial) (λ_=>trivial) e c m fS l λW af k j i h M w aV bd g t n=>uq F C f b hlen o a k j i h g t n
def uk(F:wQ t S ps bk)(C:Am t S ps cX)(o:cX.length=ps.length){es:List (List bH)}{rs:List bh}(l:ps[ps.length-1]?=some (3,es))(h:cX[ps.length-1]?=some rs){outs:Nat->List bw}{bad:ubb}{q:ubu}(ok:xM es rs outs bad)(j:One q rs){i:Nat}(k:iu (ll bad) 0 rs.length=some i)(d:0<W)(c:W<=16)(b:0<af)(a:af<=64)(g:aM (bG M) #[aV,bd] #[aV,bd])(fS:od t w aV)(f:oU ps w bd):
 ei O prog Post 10 #[aV,bd,.I W,.I af] M w (ps.length+1) (λu _ w'=>BT ps.length (q i) w' u/\cP M w w'):=by
 have a3:=F.a3;refine ayg (fg:=BP t) (fh:=x8 ps) (λ_=>trivial) (λ_=>trivial) g fS f d c b a (uE F) λM w aV bd g fS f=>?_;rw[<-uV ps,<-o];refine awv (ts:=[t]) (cX:=cX) g (uW fS) (va f AP) G3 G3 C.full (uC F C d c b a) λargs M w p hk=>?_;have e:(wP ps)[cX.length]'G3=(3,((ps.length-1:Nat):Int),es):=by obtain⟨m,n⟩:∃m,ps.length=m+1:=⟨ps.length-1,AP⟩;rw[n]at l;grind[wP]
 rw[e]at hk;exact avK p (hk.a7 ⟨Y,Y,Y,PA⟩) h ok j.1 j.2 k b a d c (C.full rs (vcb h)).1
end
end
end dI
namespace eb
open RowKit au bU bM aK
abbrev dw:=Int×Int×Int×Int
def eD(rs:List dw):List bo:=
 [⟨1,0,rs.map λr=>mb r.1,[],rs.map λr=>ij r.1⟩,⟨1,0,rs.map λr=>gw r.2.1,[],rs.map λr=>ij r.2.1⟩,⟨2,2,rs.map λr=>gw r.2.2.1,[],rs.map λr=>ij r.2.2.1⟩,⟨3,0,[],rs.map λr=>qB r.2.2.2,rs.map λr=>ij r.2.2.2⟩]
def tm(op a:Int):bH:=⟨op,a,0,⟨#[]⟩⟩
def v0(r:dw):bw:=if ij r.1 then g4 else⟨false,mb r.1,0,iS⟩
def v1(r:dw):bw:=if ij r.2.1 then g4 else⟨false,gw r.2.1,0,iS⟩
def v2(r:dw):bw:=if ij r.2.2.1 then g4 else⟨false,gw r.2.2.1,2,iS⟩
def v3(r:dw):bw:=if ij r.2.2.2 then g4 else⟨false,0,0,qB r.2.2.2⟩
theorem P_(c:Int):(qB c).size<=2:=by
 unfold qB;split
 .decide
 .have:=tA c (n:=13) AP;obtain⟨k,hk,a⟩:∃k:Nat,k<13/\(m9 c 13).toNat=k:=AJ;rw[a];have b:k=0\/k=1\/k=2\/k=3\/k=4\/k=5\/k=6\/k=7\/k=8\/k=9\/k=10\/k=11\/k=12:=AP;rcases b with rfl|rfl|rfl|rfl|rfl|rfl|rfl|rfl|rfl|rfl|rfl|rfl|rfl<;>decide
def ayy(r:dw): -1000<=(v1 r).num/\(v1 r).num<=1000/\(v1 r).eK=0:=by have:=au7 r.2.1;grind[v1,g4]
def ayz(rs:List dw){i:Nat}(h:i<rs.length):(eD rs).map (mm · i)=[v0 rs[i],v1 rs[i],v2 rs[i],v3 rs[i]]:=by simp[eD,mm,v0,v1,v2,v3,h]
def ayA(rs:List dw)(h:rs.length<=40):mY (eD rs)=true:=by
 have ht:sT (rs.map λr=>qB r.2.2.2)=true:=by grind[sT,P_]
 have h0:sT []=true:=rfl;simp[mY,F5,eD,vk,I3,IU,vf,h0,ht,h]
def ayB(rs:List dw){i:Nat}(h:i<rs.length):∀c∈eD rs,xo i c:=by
 intro c a;simp[eD]at a;rcases a with rfl|rfl|rfl|rfl
 .exact⟨AJ,AJ,AJ,AJ⟩
 .exact⟨AJ,AJ,AJ,AJ⟩
 .exact⟨AJ,AJ,AJ,AJ⟩
 .refine⟨AJ,AJ,AJ,λs hs=>?_⟩;grind[P_]
end eb
namespace aK
open Conc ConcM RowKit au bn cC c5 bU bM eb
section
variable{n0:Nat}
def sA(t:bH):List Value:=[.I t.op,.I t.a,.I t.v,.string t.s]
def Ff{ρ:Ren}{w w':aH}(c:rA n0 ρ w w'){b b':Nat}(r:ρ.rel b b'){l:uaj}{T:uab}(h:ag w b l.toArray T):∃a,ag w' b' a.toArray T/\dx (ax ρ) l a:=by obtain⟨g,d,k⟩:=c.types _ _ _ _ _ r h;obtain⟨a⟩:=g;refine⟨a,d,VN AJ λi v v' hv e=>?_⟩;obtain⟨x,f,j⟩:=c.cells ⟨b,i,none⟩ ⟨b',i,none⟩ v ⟨r,Y,Y⟩ ((h.rules.1 i).trans AJ);rw[(ag.rules (show ag w' b' a.toArray T from d)).1 i]at f;grind
theorem follows:prog.follows .rangeFuncRecover=true:=by decide+kernel
end
def jv(t:List bo):a4:=⟨HE 0 t,(HF 0 t).iI,λ_=>True,λn _ ρ w w' v v' hc hv h=>by
 have:=WA (n0:=0) t ρ w w' v v' ⟨hc.cells,hc.types,λ_ _ _ _=>vba _,hc.inj⟩ hv h
 grind⟩
def kA(t:bH):∀x∈sA t,uQ x:=by
 intro x a;simp[sA]at a;rcases a with rfl|rfl|rfl|rfl
 .exact .int _ _
 .exact .int _ _
 .exact .int _ _
 .exact .string _
def oT(t:bH):a4:=VX (sA t) (kA t)
def aAY:∀x∈[Value.int .i64 1,.I 0,.I 0,.N,.N,.N,.N],uQ x:=by intro x a;simp at a;rcases a with rfl|rfl|rfl<;>first|exact .int _ _ |exact .nil _ _
def Xy:a4:=VX _ aAY
variable{t:List bo}
section
variable{N:Nat}{K:bF}{o:Oper}{F:a4}{x y z:uau}{ao:Type}{T T':uab}
def kz{w:aH}{v:Value}(h:(jv t).R w v):∃b,v=.P b 0/\∃aA,w.cell? (.a b 0)=some aA/\l6 w aA t:=by obtain⟨b,aA,rfl,-,c,a⟩:=h;exact⟨b,Y,aA,(c.rules.1 0).trans Y,a⟩
def QG(a:o.op=.fieldAddr 27 x 0)(c:bg K x (jv t)):bD vee N K o (er (pE 5 NV) t):=dK c λev w h=>by obtain⟨b,e,aA,f,d⟩:=kz h;exact⟨.P b 0,w,A1,⟨b,0,Y,aA,f,d.bl⟩,vaa _ _⟩
def QH(a:o.op=.load 27 x)(c:bg K x (jv t)):bD vee N K o (qF t):=dK c λev w h=>by obtain⟨b,e,aA,f,d⟩:=kz h;exact⟨.agg #[aA],w,A1,⟨aA,Y,d⟩,vaa _ _⟩
def aAZ{m n:Int}(a:o.op=.load 24 x)(c:bg K x (x7 m n)):bD vee N K o (P2 m n):=dK c λev w h=>by obtain⟨b,f,e,h0,d⟩:=h;simp only[vcg]at h0 d;exact⟨.agg #[.I m,.I n],w,A1,Y,vaa _ _⟩
def aA0{t:bH}(a:o.op=.load 36 x)(c:bg K x (er qC t)):bD vee N K o (oT t):=dK c λev w h=>by obtain⟨b,f,e,h0,k,j,i,g⟩:=h;simp only[vcg]at h0;have d:=fB h0;exact⟨.agg #[.I t.op,.I t.a,.I t.v,.string t.s],w,A1,Y,vaa _ _⟩
def aA1(a:o.op=.extract x 0)(b:bg K x (Le t)):bD vee N K o (qF t):=dK b λev w h=>by obtain⟨aA,e,c⟩:=h;exact⟨.agg #[aA],w,A1,⟨aA,Y,c⟩,vaa _ _⟩
def aA2(a:o.op=.extract x 1)(b:bg K x (Le t)):bD vee N K o (eB true):=dK b λev w h=>by obtain⟨aA,e,c⟩:=h;exact⟨.T,w,A1,Y,vaa _ _⟩
end
end aK
namespace aK
open Conc ConcM RowKit au bn cC c5 kO
section
variable{O:fk}
section
variable{P:cf}{Post:fX}{n:Nat}{Shun:uai}{M:dY}{w:aH}{f:uah}{a b:Act}{k k':uaa}{cs:fG}{n0:Nat}{aT:dY}{w0:aH}{N:Nat}{K:bF}
def aA4(t:(c0 P).Good)(hF:P.follows .rangeFuncRecover=true)(C:ln P f){D:fH}(hd:D.d=cs.length)(L:Bn P D f)(N:gb D a b)(c3:k.all (hZ D)=true)(H:Held O P aT w0 n0 a M w Shun)(hk:k.all (gL P)=true)(X:k'.all (gL P)=true){U:dY}{I J:uag}(K:qx n0 I)(Q:qx n0 J)(h0:I a w)(hrun:∀W,n0<=W.heap.size->I a W->b8 (ae P true) k k' (λa1 w1=>a1.defers=[]/\(∀s,U s->a1.tmps[s]?=a.tmps[s]?)/\J a1 w1/\Below n0 W w1) a W)(V:∀a' b' M' w',Held O P aT w0 n0 a' M' w' Shun->gb D a' b'->(∀s,U s->a'.tmps[s]?=a.tmps[s]?)->J a' w'->bK P Post n Shun 0 (a0 ((base f).at b' k') cs) w'):
 bK P Post n Shun 0 (a0 ((base f).at b k) cs) w:=by
 refine Ut t hF (D:=D) H.gq (f:=f) (cs0:=[]) (bs:=cs) (g:=a0 ((base f).at b k) cs) AP (.g7 (N.Uu f k) (L.c7 c3 a) cs hd.symm _ _) (Kh t C H.all H.defers hk) .nil ⟨rfl,rfl⟩ (R:=λu cse h r=>cse=[]/\∃a1,u=(base f).at a1 k'/\a1.defers=[]/\(∀s,U s->a1.tmps[s]?=a.tmps[s]?)/\J a1 r/\∃T,Below n0 {h with tape:=T} r) (λh j T=>?_) ?_
 .obtain⟨a1,w1,⟨q,l,p,c⟩,o⟩:=hrun {h with tape:=T} (by show n0<=h.heap.size;rw[j.size];exact H.size) (K _ _ _ _ _ (H.gq.mL j T) H.all h0) (base f) [eJ f];exact⟨_,[],w1,o,rfl,a1,rfl,q,l,p,T,c⟩
 .rintro ρ u cse h r aP Z w' g' j ⟨rfl,a1,rfl,x,l,q,T,p⟩ z m d y;cases m;obtain⟨a',rfl,c,o⟩:=Ki x X z;obtain⟨b',rfl,E⟩:=m7.act hd y;refine V a' b' (qk ρ) w' (H.next j d p (d.all c) o) E (λs hs=>?_) (Q _ _ _ _ _ (d.mL H.size) c q);have e:=l s hs;cases i:a.tmps[s]? with|none=>rw[i]at e;have:=c.size;grind|some v=>rw[i]at e;obtain⟨v',B,A⟩:=c.some e;obtain⟨S,F⟩:=d.rel;rw[B,Um F.one A ((H.all.get _ _ _ i i).mono d.le)]
structure Ap(O:fk)(P:cf)(N:Nat)(K:bF)(aT:dY)(w0:aH)(ix:Act):Prop where
 gq:∃Shun,Home O P aT Shun w0
 all:aM (bG aT) ix.tmps ix.tmps
 n4:ah N K ix w0
 ok:∀s F,K s=some F->F.ok w0.heap.size
def pK(K:bF)(ix a:Act):Prop:=∀s F,K s=some F->a.tmps[s]?=ix.tmps[s]?
def Ap.now{ix:Act}(p:Ap O P N K aT w0 ix)(H:Held O P aT w0 w0.heap.size a M w Shun)(hs:pK K ix a)(a3:a.tmps.size=N):ah N K a w:=by
 obtain⟨S,i⟩:=p.gq;have g:∀b,aT b->b<w0.heap.size:=λb d=>by obtain⟨o,f,-⟩:=i.cl b d;grind
 have h:cP aT w0 w:=λb c e fr d j=>H.keep b c e fr ⟨d,g b d⟩ j;refine⟨a3,λs F e=>?_⟩;obtain⟨v,f,k⟩:=p.n4.has s F e;exact⟨v,(hs s F e).trans f,F.ii _ (p.ok s F e) _ _ _ _ _ (h.mL i) (p.all.get _ _ _ f f) k⟩
def Held.QI(H:Held O P aT w0 n0 a M w Shun):Held O P M w w.heap.size a M w Shun:=.start H.gq (vad _) H.all H.defers
def Held.phase(H:Held O P aT w0 n0 a M w Shun)(hk:ah N K a w)(hok:∀s F,K s=some F->F.ok w.heap.size):Ap O P N K M w a:=⟨⟨_,H.gq⟩,H.all,hk,hok⟩
def Held.back{a':Act}{M':dY}{w':aH}{e:uai}(H:Held O P aT w0 n0 a M w Shun)(c:Held O P M w w.heap.size a' M' w' e):Held O P aT w0 n0 a' M' w' e:=
 ⟨c.gq,λb d=>c.sub b (H.sub b d),H.since.trans c.since,H.keep.trans (M':=λb=>M b/\b<w.heap.size) (λb d=>⟨H.sub b d.1,vav d.2 H.size⟩) c.keep,c.all,c.defers,vac H.size c.since.size⟩
variable{ops:fC}{i:Nat}{rest:uad}{o:Oper}{ix:Act}
def aA6(hC:(c0 P).Good)(wF:P.follows .mixedOrders=true)(Z:ln P f){D:Nat->fH}(q:LH P f ops k D)(hk:(Item.inRegion ops []::k).all (gL P)=true)(p:Ap O P N K aT w0 ix)(ahy:∀(i:Nat)(o:Oper)(d:Nat),ops[i]?=some o->o.dst=some d->K d=none)(g:Nat){j:Oper}{d:Nat}{gf:uah}{S:Func}{gK:Code}{args:uaw}{ats:uap}(X:ops[g]?=some j)(Q:j.op=.call {callee:=.value (.func gf),args,argTypes:=ats})(Aa:P.funcs[gf]?=some S)(lC:(S.name== "runtime.NumGoroutine")=false)(hb:S.body=some gK)(gS:j.guard=none)(fR:∀n,kO.iz (D n) j=true)(hn:n+16*d<=200){I:ubp}(A:∀aq,qx w0.heap.size (I aq)){z:Tmp}(jq:j.dst=some z)(O3:z<N){oa:uay}(hsz:∀aq a w,I aq a w->aq.size=ops.size/\a.tmps.size=N)(B:gb (D cs.length) a b)(H:Held O P aT w0 w0.heap.size a M w Shun)(hst:pK K ix a)(h0:I (Array.replicate ops.size false) a w)(hstep:∀aq a W i o,ah N K a W->I aq a W->a.defers=[]->w0.heap.size<=W.heap.size->i≠g->aq.getD i true=false->ops[i]?=some o->(∀e∈o.after,Region.binds .any e=true->aq.getD e.on false=true)->wpOps (ae P true) ops (kE λa1 w1=>((∃d v,o.dst=some d/\a1=a.put (some d) v)\/a1=a)/\I (aq.setIfInBounds i true) a1 w1/\Below w0.heap.size W w1) [i] a W)(h9:∀aq a M w Shun,Held O P aT w0 w0.heap.size a M w Shun->ah N K a w->I aq a w->aq.getD g false=false->(∀e∈j.after,Region.binds .any e=true->aq.getD e.on false=true)->ei O P Post gf (args.map a.eval) M w d (λu _ w'=>oa w' u/\cP M w w'))(kd:∀aq a w u,I aq a w->aq.getD g false=false->(∀e∈j.after,Region.binds .any e=true->aq.getD e.on false=true)->oa w u->I (aq.setIfInBounds g true) (a.put (some z) u) w)(iB:∀aq a b M' w' c C,ah N K a w'->I aq a w'->Region.ready .any ops aq=[]->c<=n+16*d->Held O P aT w0 w0.heap.size a M' w' C->gb (D cs.length) a b->pK K ix a->bK P Post c C 0 (a0 ((base f).at b (.R ops []::k)) cs) w'){id:Nat}:bK P Post n Shun 0 (a0 ((base f).at b (.code (.region id ops true)::k)) cs) w:=by
 have bX:∀aq a M w Shun k,Held O P aT w0 w0.heap.size a M w Shun->I aq a w->I aq a (w.at k):=λaq a M w Shun k H h=>A aq _ _ _ _ _ ((show cP M w (w.at k)from λ_ _ _ _ _ x=>x).mL H.gq) H.all h;have dg:∀l:List Nat,(Item.inRegion ops l::k).all (hZ (D cs.length))=true:=λl=>by rw[vbk,vah];refine⟨?_,q.items _⟩;simp[hZ];intro i _;cases t:ops[i]? with|none=>rfl|some o=>exact vao.1 (q.ops _) o (vbd t)
 refine VE wF (I:=λaq b M w c Shun=>∃a,gb (D cs.length) a b/\Held O P aT w0 w0.heap.size a M w Shun/\pK K ix a/\I aq a w/\c<=n+16*d/\(aq.getD g false=false->c<=n)) (λaq b M w c Shun k⟨a,hv,h,hs,hi,h'⟩=>⟨a,hv,h.at k,hs,bX _ _ _ _ _ _ h hi,h'⟩) ?_ (λaq b M w c Shun⟨a,hv,h,hs,hi,r,_⟩ hr=>iB aq a b M w c Shun (p.now h hs (hsz _ _ _ hi).2) hi hr r h hv hs) ⟨a,B,H,hst,h0,vdj _ _,λ_=>vad _⟩;intro aq b M w c Shun i o rest ⟨a,B,H,hst,hi,yt,wH⟩ lz t L K';have Jn:i<aq.size:=by grind
 by_cases V:i=g
 .subst V;rw[X]at t;cases t;have c3:aq.getD i false=false:=by grind
  have T:=(hsz _ _ _ hi).2;refine ayK Q Aa lC hb AJ Z q B H hk X gS ⟨jq,AJ⟩ fR (I:=I aq) (J:=λa' w'=>(∃u,a'=a.put (some z) u)/\I (aq.setIfInBounds i true) a' w') (oa:=oa) (A aq) hi (λk=>h9 aq a M (w.at k) Shun (H.at k) (p.now (H.at k) hst T) (bX _ _ _ _ _ _ H hi) c3 L) (λu w' r m=>⟨⟨u,rfl⟩,kd aq a w' u r c3 L m⟩) ?_;rintro a' b' M' w' iy C r m E ⟨⟨u,rfl⟩,y⟩;refine K' b' M' w' iy C ⟨_,E,m,λs F e=>?_,y,AJ,λh=>?_⟩
  .have R:z≠s:=λx=>by grind
   exact(dV R).trans (hst s F e)
  .simp_all
 .have T:=(hsz _ _ _ hi).2;refine aA4 hC q.follows Z (q.d _) (q.fn _) B (dg _) H (k:=.R ops (i::rest)::k) (k':=.R ops rest::k) CQ CQ (U:=λs=>∃F,K s=some F) (I:=λa w=>ah N K a w/\I aq a w) (J:=I (aq.setIfInBounds i true)) (λρ a1 bV w1 w2 hc ha h=>⟨kT _ p.ok ρ a1 bV w1 w2 hc ha h.1,A aq ρ a1 bV w1 w2 hc ha h.2⟩) (A _) ⟨p.now H hst T,hi⟩ (λW hW O4 b cs=>?_) ?_
  .obtain⟨a1,w1,r,m⟩:=KU rest [i] a W (hstep aq a W i o O4.1 O4.2 H.defers hW V lz t L) b k cs;refine⟨a1,w1,?_,m⟩;obtain⟨y,h4,aU⟩:=r;rcases y with⟨d',v,fU,rfl⟩|rfl
   .refine⟨Ir,λs hs=>?_,h4,aU⟩;grind[dV]
   .exact⟨H.defers,λ_ _=>rfl,h4,aU⟩
  .intro a' b' M' w' m E hu y;refine K' b' M' w' c Shun ⟨a',E,m,λs F e=>(hu s ⟨F,e⟩).trans (hst s F e),y,yt,λh=>wH ?_⟩;simp_all
end
end
section
open bU bM eb
variable{O:fk}
section
variable{P:cf}{Post:fX}{n:Nat}{Shun:uai}{M aT:dY}{w w0:aH}{f:uah}{a b ix:Act}{k:uaa}{cs:fG}{N:Nat}{K L K':bF}{ops:fC}{S:na}
def QJ{id:Nat}(hC:(c0 P).Good)(wF:P.follows .mixedOrders=true)(hf:ln P f){D:Nat->fH}(hD:LH P f ops k D)(hk:(Item.inRegion ops []::k).all (gL P)=true)(p:Ap O P N K aT w0 ix)(aF:∀s F,L s=some F->F.ok w0.heap.size)(gV:K5 ops S=true)(V6:qA L ops.toList=true)(U:qA K ops.toList=true){g:Oper}{d:Nat}{gf:uah}{R:Func}{gK:Code}{args:uaw}{ats:uap}(l:ops[S.g]?=some g)(z:g.op=.call {callee:=.value (.func gf),args,argTypes:=ats})(Aa:P.funcs[gf]?=some R)(lC:(R.name== "runtime.NumGoroutine")=false)(hb:R.body=some gK)(gS:g.guard=none)(fR:∀n,kO.iz (D n) g=true)(hn:n+16*d<=200){de:Tmp}(x:g.dst=some de){c6:a4}(hq:tC (ae P true) N w0.heap.size ops S L K c6 (λE=>∀a M w,ah N E a w->aM (bG M) a.tmps a.tmps->ei O P Post gf (args.map a.eval) M w d (λu _ w'=>c6.R w' u/\cP M w w')) ops.toList 0 (λ_=>none) K K')(fl:gb (D cs.length) a b)(H:Held O P aT w0 w0.heap.size a M w Shun)(c3:pK K ix a)(h0:ah N L a w)(iB:∀a b M' w' m v,ah N K a w'->ah N K' a w'->m<=n+16*d->Held O P aT w0 w0.heap.size a M' w' v->gb (D cs.length) a b->pK K ix a->bK P Post m v 0 (a0 ((base f).at b (.R ops []::k)) cs) w'):
 bK P Post n Shun 0 (a0 ((base f).at b (.code (.region id ops true)::k)) cs) w:=by
 obtain⟨T,B,A⟩:=Ad.all hq;have c:=mG.of (Q:=λ_=>none) gV V6 IB U;have cR:∀(j:Nat) o,ops[j]?=some o->_:=λj o V=>B j o AJ;simp only[vce]at cR;have V7:∀j,j<ops.size->(T j).ok w0.heap.size:=λj hj=>by obtain⟨d',-,-,q,-⟩:=cR j _ (vax hj);exact q
 obtain⟨avo,t,X,-,-,J⟩:=cR S.g g l;unfold BD at J;unfold rE at t;simp only[c.g.2]at J t;rw[x]at t;cases t;obtain⟨-,fD,hX⟩:_/\_/\T S.g=c6:=J.resolve_right λh=>absurd rfl h.1;refine aA6 hC wF hf hD hk p (λi o d B A=>(c.l i o d B A).2.2) S.g l z Aa lC hb gS fR hn (I:=mM N ops S L (λ_=>none) T) (λaq=>Nq aF (λ_ _ e=>Cy) V7) x X (oa:=c6.R) (λaq a w h=>⟨h.len,h.size⟩) fl H c3 (mM.start h0 ⟨h0.size,λ_ _ e=>Cy⟩) ?_ ?_ ?_ ?_
 .intro aq a W i o hKn h hd hW Z lz V r;exact h.step c (λ_ _ e=>Cy) cR hKn Z hW lz V r
 .intro aq a M w Shun C hKn h y r;exact fD a M w (h.env c hKn l y r) C.all
 .intro aq a w u h y r hu;exact h.put c l x c.g.2 X y (vaa _ _) (by rw[hX];exact hu)
 .intro aq a b M' w' m v hKn h hr jJ C Aq r_;exact iB a b M' w' m v hKn (h.e6 c hKn hr (λs F e=>.inl e) A) jJ C Aq r_
end
end
end aK
namespace aK
open Conc ConcM RowKit au bn cC c5 bU bM eb
section
section
variable{N:Nat}{K:bF}{o o2:Oper}{F:a4}{x y z:uau}{ao:Type}{T T':uab}
section
variable{ops:fC}{i d s:Nat}{Q:ual}{rest:uad}{a:Act}{w:aH}
def aA8{t:List bo}(l:ops[i]?=some o)(j:ops[i+1]?=some o2)(e:o.op=.alloc 27)(c:o2.op=.store 27 (.tmp d) (.tmp s))(g:K s=some (qF t))(hk:ah N K a w)(hd:o.dst=some d)(f:o2.dst=none)(g1:o.guard=none)(n:o2.guard=none)(a3:d<N)(y:d≠s)(k:∀a' w1,ah N (up K d (jv t)) a' w1->a'.defers=a.defers->cy w w1->wpOps vee ops Q rest a' w1):wpOps vee ops Q (i::(i+1)::rest) a w:=by
 obtain⟨v,q,aA,rfl,h⟩:=hk.has s _ g;obtain⟨⟨x,u,rfl,-,-⟩,-⟩:=id h;have b:cy w (w.alloc (.cells #[.slice x t.length u] 27)):=(vaa _ w).alloc Kj _;have m:Hid _:=h;clear h;refine Pf (F:=jv t) (ES:=w.alloc (.cells #[.N] 27)) l j g1 n hd f a3 y hk q (λev=>?_) (λev z A=>?_) b ⟨w.heap.size,_,Y,vba _,ag.new _ _ _,l6.kept (E6 b) m.out⟩ λa' r p=>k a' _ r p b
 .cases o;simp only at e;subst e;go_simp
 .cases o2;simp only at c;subst c;go_simp
end
end
end
section
section
variable{N:Nat}{K:bF}{o:Oper}{F:a4}{x y z:uau}{ao:Type}{T T':uab}{P:cf}
end
theorem J2{w:aH}{a b:Nat}{f g:fi}{d c:uab}(j:ag w a f d)(i:ag w b g c)(h:d≠c):a≠b:=λe=>by simp_all[ag]
end
end aK
namespace dI
open Conc ConcM RowKit au bn c5 bU bM eb aK
variable{r:bh}
section
variable{O:fk}
def nm(V:Int):bH:=⟨2,0,V,⟨#[]⟩⟩
def qI:List (List bH):=[[tm 1 0],[tm 1 1,nm 9223372036854775807,tm 5 0]]
def rJ:List bH:=[tm 1 1,nm 0,tm 11 0]
def wW:List bH:=[nm 0,tm 1 1,tm 10 0]
def wX(V:Int):bw:=⟨false,V,0,iS⟩
abbrev B0(r:bh):bw:=r.2[0]?.getD g4
abbrev fst(r:bh):bw:=r.2[1]?.getD g4
def ib(r:bh):List bw:=[B0 r,my 5 (fst r) (wX 9223372036854775807)]
def kV(r:bh):Bool:= !(fst r).dL&&decide (0<(fst r).num)
def tH(r:bh):Bool:= !(fst r).dL&&decide ((fst r).num<=0)
structure Good(r:bh):Prop where
 len:r.2.length=4
 lo: -1000<=(fst r).num
 hi:(fst r).num<=1000
 text:∀d∈r.2,d.text.size<=2
 none:(fst r).text=iS
 one:r.1.length=1
def vP{ao:Type}{l:List ao}{i:Nat}(h:i<l.length)(d:ao):l[i]?.getD d=l[i]:=by simp[h]
theorem kv:∀l:List UInt8,Op.bytesLess l l=false
 | []=>rfl
 |a::l=>by rw[Op.bytesLess,kv l];simp
theorem qK{l r:bw}(h:l.text=r.text):uA l r=qi l.num r.num:=by unfold uA;rw[h];grind[J1,kv,NS]
def qE(b:Bool):rk (j8 b)=b:=by cases b<;>rfl
def aA9(h:Good r):rk (my 11 (fst r) (wX 0))=tH r:=by unfold my tH wX;cases hn:(fst r).dL with|true=>rfl|false=>simp only[Bool.or_false,vaf,vbv,Bool.not_false,Bool.true_and,qE,show¬(11:Int)=5 by decide,show¬(11:Int)=10 by decide];rw[qK h.none];unfold qi;grind
def aA_(h:Good r):rk (my 10 (wX 0) (fst r))=kV r:=by unfold my kV wX;cases hn:(fst r).dL with|true=>rfl|false=>simp only[Bool.or_false,vaf,vbv,Bool.not_false,Bool.true_and,qE,show¬(10:Int)=5 by decide,vbr];rw[qK h.none.symm];unfold qi;grind
def IA(h:Good r):lI r.2 rJ [] (some [my 11 (fst r) (wX 0)]):=by have e:fst r=r.2[1]'Bw:=vP _ _;exact .inl ⟨_,.inl ⟨r.2[1]'Bw,.inl ⟨Y,1,Bw,Y,Y⟩,Y⟩,.inl ⟨_,.inl ⟨_,.inr ⟨Y,Y⟩,Y⟩,.inl ⟨_,.inr ⟨.inr LO,[],_,_,Y,λh=>absurd h AU,λh=>absurd h.1 AU,Y⟩,by rw[e];rfl⟩⟩⟩
def aBa(h:Good r):lI r.2 wW [] (some [my 10 (wX 0) (fst r)]):=by have e:fst r=r.2[1]'Bw:=vP _ _;exact .inl ⟨_,.inl ⟨_,.inr ⟨Y,Y⟩,Y⟩,.inl ⟨_,.inl ⟨r.2[1]'Bw,.inl ⟨Y,1,Bw,Y,Y⟩,Y⟩,.inl ⟨_,.inr ⟨.inr LF,[],_,_,Y,λh=>absurd h AU,λh=>absurd h.1 AU,Y⟩,by rw[e];rfl⟩⟩⟩
def aBb(h:Good r):lI r.2 [tm 1 0] [] (some [B0 r]):=by have e:B0 r=r.2[0]'Bw:=vP _ _;exact .inl ⟨_,.inl ⟨r.2[0]'Bw,.inl ⟨Y,0,Bw,Y,Y⟩,Y⟩,by rw[e];rfl⟩
def qn(h:Good r):zb 5 (fst r) (wX 9223372036854775807)↔kV r=true:=by have b:=h.lo;have a:=h.hi;unfold zb kV wX jO;simp;grind
def aBc(h:Good r)(hn:kV r=false):lI r.2 [tm 1 1,nm 9223372036854775807,tm 5 0] [] (some [my 5 (fst r) (wX 9223372036854775807)]):=by have e:fst r=r.2[1]'Bw:=vP _ _;have c:=h.lo;have b:=h.hi;have a:=qn h;rw[hn]at a;rw[e]at c b a⊢;exact .inl ⟨_,.inl ⟨r.2[1]'Bw,.inl ⟨Y,1,Bw,Y,Y⟩,Y⟩,.inl ⟨_,.inl ⟨_,.inr ⟨Y,Y⟩,Y⟩,.inl ⟨_,.inr ⟨.inl Y,[],_,_,Y,λ_=>⟨⟨AP,AP⟩,AU⟩,λh=>absurd (a.1 h) AU,Y⟩,Y⟩⟩⟩
def aBd(h:Good r)(hn:kV r=true):lI r.2 [tm 1 1,nm 9223372036854775807,tm 5 0] [] none:=by have e:fst r=r.2[1]'Bw:=vP _ _;have c:=h.lo;have b:=h.hi;have a:=(qn h).2 hn;rw[e]at c b a;exact .inl ⟨_,.inl ⟨r.2[1]'Bw,.inl ⟨Y,1,Bw,Y,Y⟩,Y⟩,.inl ⟨_,.inl ⟨_,.inr ⟨Y,Y⟩,Y⟩,.inr ⟨⟨Y,[],_,_,Y,⟨AP,AP⟩,AU,a⟩,Y⟩⟩⟩
def ol(rs:List bh)(i:Nat):List bw:=(rs[i]?.map ib).getD [g4,g4]
def yc(rs:List bh)(i:Nat):Option Nat:=if(rs[i]?.map kV).getD false then some 1 else none
def Fo(rs:List bh)(i:Nat):Int:=(rs[i]?.map λr=>r.1.headD 0).getD 0
def qb(rs:List bh)(i:Nat):ll (yc rs) i=(rs[i]?.map kV).getD false:=by unfold ll yc;split<;>simp_all
def Xz(rs:List bh)(m:rs.length<=300)(hg:∀r∈rs,Good r):xM qI rs (ol rs) (yc rs):=by
 have hs:qI.length=2:=rfl;refine⟨by rw[hs];omega,by simp[qI],AP,λi=>?_,λi h k hk n j=>?_,λi h f c=>?_,λi d hd=>?_,λr a=>by have:=(hg r a).one;omega⟩
 .unfold ol;cases rs[i]?<;>rfl
 .have a:=hg rs[i] (vbe h);have b:ol rs i=ib rs[i]:=by simp[ol,h]
  have l:k=0\/k=1:=AP;rcases l with rfl|rfl
  .have:(ol rs i)[0]=B0 rs[i]:=by simp only[b];rfl
   rw[this];exact aBb a
  .have:(ol rs i)[1]=my 5 (fst rs[i]) (wX 9223372036854775807):=by simp only[b];rfl
   rw[this];refine aBc a ?_;cases g:kV rs[i]with|false=>rfl|true=>exact absurd (j 1 (by simp[yc,h,g])) AU
 .have a:=hg rs[i] (vbe h);simp only[yc,vat h,vby,vae]at c;split at c
  .rename_i g;cases c;exact⟨AU,aBd a g⟩
  .cases c
 .unfold ol at hd;cases e:rs[i]? with
  |none=>rw[e]at hd;simp at hd;subst hd;decide
  |some r=>
   rw[e]at hd;have a:=hg r (vcb e);simp[ib]at hd;rcases hd with rfl|rfl
   .have:=a.text (B0 r) (by rw[show B0 r=r.2[0]'(by have:=a.len;omega)from vP _ _];exact vbe _);omega
   .unfold my;split
    .decide
    .exact show iS.size<=_ by decide
def XA{rs:List bh}(g:∀r∈rs,r.1.length=1)(f:rs.Pairwise λa b=>a.1.headD 0<b.1.headD 0):One (Fo rs) rs:=by
 refine⟨λi h=>?_,λi j c d=>?_⟩
 .have:=g rs[i] (vbe h);simp only[Fo,vat h,vby,vae];obtain⟨a,e⟩:=List.length_eq_one_iff.1 this;rw[e];rfl
 .have:=List.pairwise_iff_getElem.1 f i j AP d c;simpa[Fo,d,show i<rs.length by omega]using this
def aBe(rs:List bh)(g:bh->bw):mz rs (λi=>(rs[i]?.map g).getD g4) 0 rs.length=rs.filter λr=>rk (g r):=by
 unfold mz j9;have key:∀(l rs:List bh),List.map (λi=>(rs++l)[i]?.getD ([],[])) ((List.range' rs.length l.length).filter λi=>rk (((rs++l)[i]?.map g).getD g4))=l.filter λr=>rk (g r):=by
  intro l;induction l with
  |nil=>intro rs;rfl
  |cons x l a=>
   intro rs;have h:=a (rs++[x]);rw[List.append_assoc]at h;simp only[List.singleton_append,List.length_append,vdl,List.length_nil,vce]at h;rw[vdl,vdk,List.filter_cons];have e:(rs++x::l)[rs.length]?=some x:=AQ;simp only[e,vby,vae];rw[List.filter_cons];split
   .rw[vdd,h,e];rfl
   .exact h
 have:=key rs [];simpa using this
def aBf{e:List bH}{g:bh->bw}(rs:List bh)(b:rs.length<=300)(a:e.length<=900)(h:∀r∈rs,lI r.2 e [] (some [g r])):GI e rs (λi=>(rs[i]?.map g).getD g4):=
 ⟨a,AP,λi hi=>by
  have:=h rs[i] (vbe hi);simpa[hi]using this⟩
def rowAt(rs:List dw)(i:Nat):bh:=([((0+i:Nat):Int)],(eD rs).map (mm · (0+i)))
abbrev eE(rs:List dw):List bh:=qj (eD rs) 0 rs.length
def Fp(rs:List dw):eE rs=(List.range rs.length).map (rowAt rs):=by simp[eE,qj,rowAt]
def p8(rs:List dw){i:Nat}(h:i<rs.length):rowAt rs i=([(i:Int)],[v0 rs[i],v1 rs[i],v2 rs[i],v3 rs[i]]):=by simp only[rowAt,vce];rw[ayz rs h]
def aBg(rs:List dw){i:Nat}(h:i<rs.length):Good (rowAt rs i):=by
 rw[p8 rs h];have:=ayy rs[i];refine⟨Y,this.1,this.2.1,λd hd=>?_,?_,Y⟩
 .simp only[vbh,vbs,vdo]at hd;rcases hd with rfl|rfl|rfl|rfl
  .unfold v0;split<;>exact show iS.size<=2 by decide
  .unfold v1;split<;>exact show iS.size<=2 by decide
  .unfold v2;split<;>exact show iS.size<=2 by decide
  .unfold v3;split
   .decide
   .exact P_ _
 .show(v1 rs[i]).text=iS;unfold v1;split<;>rfl
def wY(rs:List dw):∀r∈eE rs,Good r:=λr a=>by rw[Fp]at a;obtain⟨i,hi,rfl⟩:=vbx.1 a;exact aBg rs Dk
def QK(rs:List dw):(eE rs).Pairwise λa b=>a.1.headD 0<b.1.headD 0:=by rw[Fp,List.pairwise_map];refine List.Pairwise.imp ?_ List.pairwise_lt_range;intro a b h;simp[rowAt];omega
def wZ(rs:List dw):(eE rs).length=rs.length:=by rw[Fp];simp
def oV(rs:List dw)(i:Nat):Bool:= !((rs.map λr=>ij r.2.1).getD i false)&&decide (0<(rs.map λr=>gw r.2.1).getD i 0)
def QL(rs:List dw){i:Nat}(h:i<rs.length):kV (rowAt rs i)=oV rs i:=by rw[p8 rs h];unfold kV oV;show(!(v1 rs[i]).dL&&decide (0<(v1 rs[i]).num))=_;unfold v1;simp[h];cases ij rs[i].2.1<;>simp[g4]
def aBh(rs:List dw){i:Nat}(h:i<rs.length):ll (yc (eE rs)) i=oV rs i:=by rw[qb,Fp];simp[h,QL]
def aBi(rs:List dw):iu (ll (yc (eE rs))) 0 (eE rs).length=iu (oV rs) 0 rs.length:=by
 rw[wZ];unfold iu;have:∀l:List Nat,(∀i∈l,i<rs.length)->l.find? (ll (yc (eE rs)))=l.find? (oV rs):=by intro l;induction l with|nil=>intro _;rfl|cons a l b=>intro h;rw[vdt,vdt,aBh rs (h a AQ),b λi hi=>h i (by simp[hi])]
 exact this _ λi hi=>by simp at hi;omega
end
section
variable{O:fk}
def tI:List jb:=[(3,qI)]
def H3:List jb:=[(2,[rJ]),(3,qI)]
def QM:List jb:=[(2,[wW]),(3,qI)]
abbrev Ar:List (Int×Int):=[(1,0),(1,0),(2,2),(3,0)]
abbrev LW:List (Int×Int):=[(1,0),(1,0)]
def aBj:∀e∈qI,∀t∈e,bM.Met t.op:=by
 intro e a t ht;simp[qI]at a;rcases a with rfl|rfl<;>simp at ht
 .subst ht;simp[bM.Met,tm]
 .rcases ht with rfl|rfl|rfl<;>simp[bM.Met,tm,nm]
def p5:HK (3,qI) Ar LW:=⟨aBj,.inr ⟨Y,Y,AM⟩⟩
def aBk{e:List bH}(h:∀t∈e,bM.Met t.op)(b:iC e Ar=((4,0),true)):HK (2,[e]) Ar Ar:=⟨λf a=>by simp at a;subst a;exact h,.inl ⟨Y,⟨e,Y,b⟩,Y⟩⟩
def pY(rs:List dw)(h:rs.length<=40){ps:List jb}{bk:List (List (Int×Int))}(a3:ps.length+1=2\/ps.length+1=3)(yw:bk.length=ps.length+1)(sk:bk[0]?=some Ar)(nX:∀k(h:k<ps.length)(b:k<bk.length)(a:k+1<bk.length),HK ps[k] bk[k] bk[k+1]):wQ (eD rs) rs.length ps bk:=
 ⟨JI,AP,JI,λi hi=>ayB rs hi,ayA rs h,a3,yw,sk,nX⟩
def pT(rs:List dw)(h:rs.length<=40):wQ (eD rs) rs.length tI [Ar,LW]:=pY rs h (.inl Y) Y Y λk hk b a=>by
 obtain rfl:k=0:=by simp[tI]at hk;omega
 exact p5
def pN(rs:List dw)(h:rs.length<=40){e:List bH}(b:∀t∈e,bM.Met t.op)(a:iC e Ar=((4,0),true)):wQ (eD rs) rs.length [(2,[e]),(3,qI)] [Ar,Ar,LW]:=pY rs h (.inr Y) Y Y λk hk _ _=>by
 have:k=0\/k=1:=by simp at hk;omega
 rcases this with rfl|rfl
 .exact aBk b a
 .exact p5
def H4{rs:List dw}{x:List bh}(h:rs.length<=40)(c:x.length<=rs.length)(b:∀r∈x,r∈eE rs):x.length<=300/\Full x:=⟨AP,λr a=>by
 have:=wY rs r (b r a);exact⟨by have:=this.one;omega,by have:=this.len;omega⟩⟩
def pI{rs:List dw}{x:List bh}(h:rs.length<=40)(c:x.length<=rs.length)(b:∀r∈x,r∈eE rs):(kB x (ol x) 0 x.length).length<=300/\Full (kB x (ol x) 0 x.length):=by refine⟨by rw[Bg];omega,λr a=>?_⟩;simp only[kB,vbx,List.mem_range]at a;obtain⟨k,hk,rfl⟩:=a;have hk:k<x.length:=AP;have:=wY rs x[k] (b _ (vbe hk));have d:=this.one;exact⟨by simp only[vce,vat hk,vby,vae];omega,by simp[ol,hk,ib]⟩
def pt{rs:List dw}{x:List bh}(h:rs.length<=40)(g:x.length<=rs.length)(f:∀r∈x,r∈eE rs)(e:x.Pairwise λa b=>a.1.headD 0<b.1.headD 0)(d:∀r∈x,kV r=false):Xc (3,qI) x (kB x (ol x) 0 x.length):=
 .inr ⟨Y,_,_,_,Xz x AP λr c=>wY rs r (f r c),XA (λr c=>(wY rs r (f r c)).one) e,λi hi=>by simp[yc,hi,d x[i] (vbe hi)],Y⟩
def pa{rs:List dw}{e:List bH}{g:bh->bw}{p:bh->Bool}(h:rs.length<=40)(d:e.length<=900)(b:∀r,Good r->lI r.2 e [] (some [g r]))(c:∀r,Good r->rk (g r)=p r):Xc (2,[e]) (eE rs) ((eE rs).filter p):=
 .inl ⟨Y,e,_,Y,aBf (eE rs) EK d λr a=>b r (wY rs r a),by
  rw[aBe];exact(List.filter_congr λr a=>c r (wY rs r a)).symm⟩
def LX(rs:List dw)(p:bh->Bool):((eE rs).filter p).length<=rs.length:=by have:=List.length_filter_le p (eE rs);rwa[wZ]at this
def Fq(rs:List dw)(p:bh->Bool):∀r∈(eE rs).filter p,r∈eE rs:=λr h=>(List.mem_filter.1 h).1
def sC(x:List bh):List bo:=pn LW (og (kB x (ol x) 0 x.length)) (kB x (ol x) 0 x.length).length
def XB(x:List bh):(sC x).length=2:=by simp[sC,pn]
def aBm(x:List bh):((sC x)[0]'(by rw[XB];decide)).gZ.length=x.length:=by simp[sC,pn,uz,Bg]
def o8{x:List bh}:∀r∈kB x (ol x) 0 x.length,r.2.length=LW.length:=λr a=>by simp only[kB,vbx,List.mem_range]at a;obtain⟨k,hk,rfl⟩:=a;have hk:k<x.length:=AP;simp[ol,hk,ib]
def oZ{rs:List dw}{x:List bh}(b:∀r∈x,r∈eE rs):∀r∈kB x (ol x) 0 x.length,∀d∈r.2,d.text.size<=1000000:=λr a d hd=>by
 simp only[kB,vbx,List.mem_range]at a;obtain⟨k,hk,rfl⟩:=a;have hk:k<x.length:=AP;have hg:=wY rs x[k] (b _ (vbe hk));simp[ol,hk,ib]at hd;rcases hd with rfl|rfl
 .have:=hg.text (B0 x[k]) (by rw[show B0 x[k]=x[k].2[0]'(by have:=hg.len;omega)from vP _ _];exact vbe _);omega
 .unfold my;split
  .decide
  .exact show iS.size<=_ by decide
section
variable{Post:fX}{W af:Nat}{M:dY}{w:aH}{aV bd:Value}{rs:List dw}
def aBn(h:rs.length<=40)(c:∀r∈eE rs,kV r=false):Am (eD rs) rs.length tI [eE rs,kB (eE rs) (ol (eE rs)) 0 (eE rs).length]:=by
 refine⟨Y,λk p x b a=>?_,λx a=>?_⟩
 .cases k with|zero=>simp[tI]at b a;subst b a;exact⟨_,Y,pt h EK (λr h=>h) (QK rs) c⟩|succ k=>simp[tI]at b
 .simp only[vbh,vbs,vdo]at a;rcases a with rfl|rfl
  .exact H4 h EK λr h=>h
  .exact pI h EK λr h=>h
def aBo(h:rs.length<=40):Am (eD rs) rs.length tI [eE rs]:=by refine⟨Y,λk p x b a=>by simp at a,λx a=>?_⟩;simp only[vbh,vbs,vdo]at a;subst a;exact H4 h EK λr h=>h
def aBp(h:rs.length<=40):Am (eD rs) rs.length H3 [eE rs,(eE rs).filter tH,kB ((eE rs).filter tH) (ol ((eE rs).filter tH)) 0 ((eE rs).filter tH).length]:=by
 refine⟨Y,λk p x c a=>?_,λx a=>?_⟩
 .match k with|0=>simp[H3]at c a;subst c a;exact⟨_,Y,pa h AU (λr b=>IA b) λr b=>aA9 b⟩|1=>simp[H3]at c a;subst c a;refine⟨_,Y,pt h (LX rs _) (Fq rs _) ((QK rs).filter _) λr b=>?_⟩;have:=(List.mem_filter.1 b).2;unfold tH at this;unfold kV;grind|k+2=>simp[H3]at c
 .simp only[vbh,vbs,vdo]at a;rcases a with rfl|rfl|rfl
  .exact H4 h EK λr h=>h
  .exact H4 h (LX rs _) (Fq rs _)
  .exact pI h (LX rs _) (Fq rs _)
def aBq(h:rs.length<=40):Am (eD rs) rs.length QM [eE rs,(eE rs).filter kV]:=by
 refine⟨Y,λk p x c a=>?_,λx a=>?_⟩
 .match k with|0=>simp[QM]at c a;subst c a;exact⟨_,Y,pa h AU (λr b=>aBa b) λr b=>aA_ b⟩|k+1=>simp at a
 .simp only[vbh,vbs,vdo]at a;rcases a with rfl|rfl
  .exact H4 h EK λr h=>h
  .exact H4 h (LX rs _) (Fq rs _)
def aBr(h:rs.length<=40)(a:iu (oV rs) 0 rs.length=none)(f:0<W)(e:W<=16)(d:0<af)(c:af<=64)(j:aM (bG M) #[aV,bd] #[aV,bd])(fS:od (eD rs) w aV)(g:oU tI w bd):
 ei O prog Post 10 #[aV,bd,.I W,.I af] M w 2 (λu _ w'=>wN (sC (eE rs)) w' u/\cP M w w'):=
 ayw (pT rs h) (aBn h λr b=>by
  rw[Fp]at b;obtain⟨i,hi,rfl⟩:=vbx.1 b;have hi:i<rs.length:=Dk;rw[QL rs hi];exact Uh a i (vba _) hi) Y Y o8 AU (oZ λr h=>h) f e d c j fS g
def aBs{i:Nat}(h:rs.length<=40)(a:iu (oV rs) 0 rs.length=some i)(g:0<W)(f:W<=16)(d:0<af)(c:af<=64)(k:aM (bG M) #[aV,bd] #[aV,bd])(fS:od (eD rs) w aV)(j:oU tI w bd):
 ei O prog Post 10 #[aV,bd,.I W,.I af] M w 2 (λu _ w'=>BT 1 i w' u/\cP M w w'):=by
 have e:Fo (eE rs) i=(i:Int):=by have:=(xL a).2.1;rw[Fp];simp[Fo,this,rowAt]
 rw[<-e];exact uk (pT rs h) (aBo h) Y Y Y (Xz (eE rs) EK (wY rs)) (XA (λr b=>(wY rs r b).one) (QK rs)) ((aBi rs).trans a) g f d c k fS j
def aBt{x y:Int}(h:rs.length<=40)(b:c9 x)(a:c9 y)(d:aM (bG M) #[aV,bd] #[aV,bd])(fS:od (eD rs) w aV)(c:oU H3 w bd):
 ei O prog Post 12 #[.agg #[.I x,.I y],aV,bd] M w 3 (λu _ w'=>BO (sC ((eE rs).filter tH)) w' u/\cP M w w'):=
 ayx (pN rs h (by intro t ht;simp[rJ]at ht;rcases ht with rfl|rfl|rfl<;>simp[bM.Met,tm,nm]) AM) (aBp h) Y Y o8 AU (oZ (Fq rs _)) b a d fS c
def aBu{i:Nat}(h:rs.length<=40)(c:iu (oV rs) 0 rs.length=some i)(o:0<W)(n:W<=16)(k:0<af)(j:af<=64)(q:aM (bG M) #[aV,bd] #[aV,bd])(fS:od (eD rs) w aV)(p:oU QM w bd):
 ei O prog Post 10 #[aV,bd,.I W,.I af] M w 3 (λu _ w'=>BT 2 i w' u/\cP M w w'):=by
 have s:((eE rs).filter kV).head?=some (rowAt rs i):=by
  rw[List.head?_filter,Fp,List.find?_map];have e:(List.range rs.length).find? (kV ∘ rowAt rs)=some i:=by
   have:∀l:List Nat,(∀i∈l,i<rs.length)->l.find? (kV ∘ rowAt rs)=l.find? (oV rs):=by intro l;induction l with|nil=>intro _;rfl|cons a l f=>intro h;rw[vdt,vdt,Function.comp_apply,QL rs (h a AQ),f λi hi=>h i (by simp[hi])]
   rw[this _ (λi hi=>Dk),List.range_eq_range'];exact c
  rw[e];rfl
 have h0:((eE rs).filter kV)[0]?=some (rowAt rs i):=by rw[<-List.head?_eq_getElem?];exact s
 have e:Fo ((eE rs).filter kV) 0=(i:Int):=by rw[Fo,h0];simp[rowAt]
 have v:0<((eE rs).filter kV).length:=by have:=vab.1 h0;exact this.1
 have d:iu (ll (yc ((eE rs).filter kV))) 0 ((eE rs).filter kV).length=some 0:=by unfold iu;obtain⟨m,g⟩:∃m,((eE rs).filter kV).length=m+1:=⟨((eE rs).filter kV).length-1,AP⟩;rw[g,Nat.sub_zero,vdk,vdt,qb,h0];have:=xL c;simp[QL rs this.2.1,this.2.2.1]
 rw[<-e];exact uk (pN rs h (by intro t ht;simp[wW]at ht;rcases ht with rfl|rfl|rfl<;>simp[bM.Met,tm,nm]) AM) (aBq h) Y Y Y (Xz _ (by have:=LX rs kV;omega) λr b=>wY rs r (Fq rs _ r b)) (XA (λr b=>(wY rs r (Fq rs _ r b)).one) ((QK rs).filter _)) d o n k j q fS p
end
end
end dI
namespace aK
open Conc ConcM RowKit au bn cC c5 bU bM eb
section
section
variable{N:Nat}{K:bF}{o:Oper}{F:a4}{x y z u:uau}{ats:uap}
def QN{k:Int}(c:o.op=.call {callee:=.value (.func 6),args:=#[x],argTypes:=ats})(b:bg K x (a9 k)):bD vee N K o (oT (tm 1 k)):=ER c (λa w=>au3 a w) b λv w h=>by cases h;refine(au_ k w).mono ?_;rintro e w' ⟨rfl,d⟩;exact⟨_,Y,Y,d⟩
def XC{k:Int}(c:o.op=.call {callee:=.value (.func 7),args:=#[x],argTypes:=ats})(b:bg K x (a9 k)):bD vee N K o (oT (tm k 0)):=ER c (λa w=>au4 a w) b λv w h=>by cases h;refine(ava k w).mono ?_;rintro e w' ⟨rfl,d⟩;exact⟨_,Y,Y,d⟩
def XD(c:o.op=.call {callee:=.value (.func 9),args:=#[x],argTypes:=ats})(b:bg K x (a9 0)):bD vee N K o Xy:=ER c (λa w=>au5 a w) b λv w h=>by cases h;refine(avb 0 w).mono ?_;rintro e w' ⟨rfl,d⟩;exact⟨_,Y,Y,d⟩
def XE{t:List bo}{n:Nat}(c:o.op=.call {callee:=.value (.func 5),args:=#[x],argTypes:=ats})(b:bg K x (qF t))(h0:0<t.length)(hn:t[0].gZ.length=n):bD vee N K o (a9 (n:Int)):=ER c (λa w=>au6 a w) b λv w h=>by obtain⟨aA,rfl,f⟩:=h;refine(avc aA t h0 w f.bl).mono ?_;rintro e w' ⟨rfl,d⟩;exact⟨_,Y,by rw[hn];rfl,d⟩
def aBv{m n:Int}(a:o.op=.build 36 #[(0,x),(2,y)])(e:bg K x (a9 m))(d:bg K y (a9 n)):bD vee N K o (oT ⟨m,0,n,⟨#[]⟩⟩):=uR e d λev w c b=>⟨.agg #[.I m,.I 0,.I n,.E],w,by
 have c:ev x=.I m:=c;have b:ev y=.I n:=b;cases o;simp only at a;subst a;go_simp,Y,vaa _ _⟩
end
end
end aK
namespace dI
open Conc ConcM RowKit au bn cC c5 bU bM eb aK
def jF(l:fC){l':fC}(e:l=l':=by simp only[aI,ss,Tryz.f3,vae,Nat.reduceBEq,vaf,↓reduceIte];exact Y):l=l':=e
def XF:vee.follows .mixedOrders=true:=by decide+kernel
def Fs{N:Nat}{K:bF}{a:Act}{w:aH}{s:Nat}{b:Bool}(h:ah N K a w)(hs:K s=some (eB b)):a.eval (.tmp s)=.bool b:=by obtain⟨v,e,rfl⟩:=h.has s _ hs;exact c2 e
def getD_some{ao:Type}{l:List ao}{j:Nat}(h:j<l.length)(d:ao):l[j]?=some (l.getD j d):=by simp[h]
def aBw(p:jb)(a:Int)(w:aH)(u:Value):Prop:=∃cD ec,u=.agg [.I p.1,.I a,.I 0,.slice cD p.2.length ec,.N,.N,.N].toArray/\nP w (.slice cD p.2.length ec) p.2
def Hm(p:jb)(a:Int):a4:=⟨aBw p a,λ_ _ _ hb⟨cD,ec,e,h⟩=>⟨cD,ec,e,aZ.mono qR (br.ck hb) h⟩,λ_=>True,λ_ _ ρ w w' u jI hc hv⟨cD,ec,e,h⟩=>by
 subst e
 obtain⟨l',rfl,k⟩:=pB hv
 cases k with
 |cons h0 k=>cases k with
  |cons h1 k=>cases k with
   |cons h2 k=>cases k with
    |cons h3 k=>cases k with
     |cons h4 k=>cases k with
      |cons aU k=>cases k with
       |cons bE k=>
        cases k
        obtain⟨BN,rfl⟩:=KZ h3
        exact⟨BN,ec,by rw[gM h0,gM h1,gM h2,kR h4,kR aU,kR bE],au.aZ.carry Bc hc.cells h3 h⟩⟩
def As:Rd (jb×Int):=⟨λw rd x=>∃cD ec,(rd 0=some (.I x.1.1)/\rd 1=some (.I x.2)/\rd 2=some (.I 0)/\rd 3=some (.slice cD x.1.2.length ec)/\rd 4=some (.N)/\rd 5=some (.N)/\rd 6=some (.N))/\nP w (.slice cD x.1.2.length ec) x.1.2,λ_ _ _ _ _ hk hr⟨cD,ec,⟨h0,h1,h2,h3,h4,aU,bE⟩,h⟩=>⟨cD,ec,⟨hr _ _ h0,hr _ _ h1,hr _ _ h2,hr _ _ h3,hr _ _ h4,hr _ _ aU,hr _ _ bE⟩,aZ.mono qR hk h⟩,λρ w w' rd j1 x hc hr⟨cD,ec,⟨h0,h1,h2,h3,h4,aU,bE⟩,h⟩=>by
 obtain⟨v0,ez,q0⟩:=hr 0 _ h0
 obtain⟨v1,k1,bj⟩:=hr 1 _ h1
 obtain⟨v2,k2,a_⟩:=hr 2 _ h2
 obtain⟨v3,k3,q3⟩:=hr 3 _ h3
 obtain⟨v4,k4,q4⟩:=hr 4 _ h4
 obtain⟨v5,gh,q5⟩:=hr 5 _ aU
 obtain⟨v6,kU,q6⟩:=hr 6 _ bE
 rw[gM q0]at ez
 rw[gM bj]at k1
 rw[gM a_]at k2
 rw[kR q4]at k4
 rw[kR q5]at gh
 rw[kR q6]at kU
 obtain⟨BN,rfl⟩:=KZ q3
 exact⟨BN,ec,⟨ez,k1,k2,k3,k4,gh,kU⟩,au.aZ.carry Bc hc q3 h⟩⟩
def oX(n0:Nat)(v:Value):Prop:=∃b o,v=.P b o/\n0<=b
def oR(n0:Nat):a4:=⟨λw v=>∃b,v=.P b 0/\n0<=b/\ag w b #[.I 0,.I 0,.I 0,.N,.N,.N,.N] 43,λ_ _ _ hb⟨b,e,h1,h2⟩=>⟨b,e,h1,h2.call hb⟩,λ_=>False,λ_ h=>h.elim⟩
section
variable{N n0:Nat}{K:bF}{o o2:Oper}{F:a4}{x y z:uau}{ats:uap}
def oQ{m:Int}(a:o.op=.build 36 #[(0,x)])(c:bg K x (a9 m)):bD vee N K o (aK.oT ⟨m,0,0,⟨#[]⟩⟩):=dK c λev w b=>⟨.agg #[.I m,.I 0,.I 0,.E],w,by
 have b:ev x=.I m:=b;cases o;simp only at a;subst a;go_simp,Y,vaa _ _⟩
def QO{p:jb}{a:Int}(c:o.op=.load 43 x)(g:bg K x (er As (p,a))):bD vee N K o (Hm p a):=dK g λev w h=>by obtain⟨b,f,e,d,ec,⟨h0,l,k,j,i,n,m⟩,h⟩:=h;simp only[vcg]at h0;refine⟨.agg #[.I p.1,.I a,.I 0,.slice d p.2.length ec,.N,.N,.N],w,?_,⟨d,ec,Y,h⟩,vaa _ _⟩;clear h;cases o;simp only at c;subst c;go_simp
def aBx{s:Nat}(b:o.op=.alloc 43)(hs:K s=some (x0 n0 F)):bD vee N K o (oR n0):=λa w hk=>by obtain⟨v,-,c,-⟩:=hk.has s _ hs;refine .inl ⟨.P w.heap.size 0,w.alloc (.cells #[.I 0,.I 0,.I 0,.N,.N,.N,.N] 43),?_,⟨_,Y,c,ag.new _ _ _⟩,(vaa _ w).alloc Kj _⟩;cases o;simp only at b;subst b;go_simp
def aBy{p:jb}(c:o.op=.buildSlice 47 2 #[(0,x),(1,y)])(i:bg K x Xy)(h:bg K y (Hm p 0)):bD vee N K o (x8 [p]):=uR i h λev w f l=>by
 have f:ev x=.agg #[.I 1,.I 0,.I 0,.N,.N,.N,.N]:=f;obtain⟨b,ec,m,e⟩:=l;have g:Hid _:=e;clear e;have d:cy w (w.alloc (.cells #[.I 1,.I 0,.I 0,.N,.N,.N,.N,.I p.1,.I 0,.I 0,.slice b p.2.length ec,.N,.N,.N] 43)):=(vaa _ w).alloc Kj _;have cZ:=ag.new w #[.I 1,.I 0,.I 0,.N,.N,.N,.N,.I p.1,.I 0,.I 0,.slice b p.2.length ec,.N,.N,.N] 43;refine⟨.S w.heap.size 0 2 2,_,by cases o;simp only at c;subst c;go_simp,⟨w.heap.size,0,2,Y,λj u a=>?_,λk hk=>?_⟩,d⟩
 .rw[cZ.rules.1];grind[js]
 .obtain rfl:k=0:=by simp at hk;omega
  refine⟨b,ec,λj u a=>?_,aZ.mono qR (br.ck d) g.out⟩;rw[cZ.rules.1];match j,a with|0,a|1,a|2,a|3,a|4,a|5,a|6,a=>exact a|j+7,a=>simp[js]at a
def oP{p c:jb}(i:o.op=.buildSlice 47 3 #[(0,x),(1,y),(2,z)])(A:bg K x Xy)(v:bg K y (Hm p 0))(t:bg K z (Hm c 1)):bD vee N K o (x8 [p,c]):=λa w hk=>by
 have e:=hk.ev A;have n:=hk.ev v;have m:=hk.ev t;unfold Ab;generalize a.eval=ev at e n m⊢;have e:ev x=.agg #[.I 1,.I 0,.I 0,.N,.N,.N,.N]:=e;obtain⟨f,ec,C,l⟩:=n;obtain⟨g,h,B,q⟩:=m;have s:Hid _:=l;have r:Hid _:=q;clear l q;have d:cy w (w.alloc (.cells #[.I 1,.I 0,.I 0,.N,.N,.N,.N,.I p.1,.I 0,.I 0,.slice f p.2.length ec,.N,.N,.N,.I c.1,.I 1,.I 0,.slice g c.2.length h,.N,.N,.N] 43)):=(vaa _ w).alloc Kj _;have cZ:=ag.new w #[.I 1,.I 0,.I 0,.N,.N,.N,.N,.I p.1,.I 0,.I 0,.slice f p.2.length ec,.N,.N,.N,.I c.1,.I 1,.I 0,.slice g c.2.length h,.N,.N,.N] 43;refine .inl ⟨.S w.heap.size 0 3 3,_,by cases o;simp only at i;subst i;go_simp,⟨w.heap.size,0,3,Y,λj u b=>?_,λk hk=>?_⟩,d⟩
 .rw[cZ.rules.1];grind[js]
 .have:k=0\/k=1:=by simp at hk;omega
  rcases this with rfl|rfl
  .refine⟨f,ec,λj u b=>?_,aZ.mono qR (br.ck d) s.out⟩;rw[cZ.rules.1];match j,b with|0,b|1,b|2,b|3,b|4,b|5,b|6,b=>exact b|j+7,b=>simp[js]at b
  .refine⟨g,h,λj u b=>?_,aZ.mono qR (br.ck d) r.out⟩;rw[cZ.rules.1];match j,b with|0,b|1,b|2,b|3,b|4,b|5,b|6,b=>exact b|j+7,b=>simp[js]at b
def PE{m n:Int}{T':uab}(a:o.op=.binOp .neq 48 x y T')(c:bg K x (a9 m))(b:bg K y (a9 n)):bD vee N K o (eB (m != n)):=wL c b (λ_=>Y) λev w e d=>by cases o;simp only at a;subst a;go_simp
def oB{m n:Int}{T T':uab}(a:o.op=.binOp .geq T x y T')(c:bg K x (a9 m))(b:bg K y (a9 n))(d:tB T):bD vee N K o (eB (decide (n<=m))):=wL c b (λ_=>Y) λev w f e=>by rcases d with rfl|rfl<;>(cases o;simp only at a;subst a;go_simp)
end
section
variable{N:Nat}{K:bF}{o o2:Oper}{ops:fC}{i d s:Nat}{Q:ual}{rest:uad}{a:Act}{w:aH}
def aBz{t:bH}(l:ops[i]?=some o)(j:ops[i+1]?=some o2)(c:o.op=.alloc 36)(b:o2.op=.store 36 (.tmp d) (.tmp s))(g:K s=some (aK.oT t))(ht:t.s.size<=100)(hk:ah N K a w)(hd:o.dst=some d)(f:o2.dst=none)(g1:o.guard=none)(m:o2.guard=none)(a3:d<N)(r:d≠s)(k:∀a' w1,ah N (up K d (er qC t)) a' w1->a'.defers=a.defers->cy w w1->wpOps vee ops Q rest a' w1):wpOps vee ops Q (i::(i+1)::rest) a w:=by
 obtain⟨v,p,h⟩:=hk.has s _ g;have h:v=.agg #[.I t.op,.I t.a,.I t.v,.string t.s]:=h;subst h;have e:cy w (w.alloc (.cells #[.I t.op,.I t.a,.I t.v,.string t.s] 36)):=(vaa _ w).alloc Kj _;have cZ:=ag.new w #[.I t.op,.I t.a,.I t.v,.string t.s] 36;refine Pf (F:=er qC t) (ES:=w.alloc (.cells #[.I 0,.I 0,.I 0,.E] 36)) l j g1 m hd f a3 r hk p (λev=>?_) (λev u x=>?_) e ⟨w.heap.size,0,Y,(cZ.rules.1 _).trans Y,(cZ.rules.1 _).trans Y,(cZ.rules.1 _).trans Y,(cZ.rules.1 _).trans Y,AP⟩ λa' q n=>k a' _ q n e
 .cases o;simp only at c;subst c;go_simp
 .cases o2;simp only at b;subst b;go_simp
end
def XG:a4:=⟨λw v=>∃b,v=.P b 0/\ag w b #[.N] 27,λ_ _ _ hb⟨b,e,h⟩=>⟨b,e,h.call hb⟩,λ_=>True,λn _ ρ w w' v v' hc hv⟨b,e,h⟩=>by
 subst e
 obtain⟨b',rfl,r⟩:=uO hv
 obtain⟨c',k1,k2,key⟩:=Ht hc r h
 obtain⟨u0,q0,e0⟩:=key 0 _ Y
 rw[kR e0]at q0
 refine⟨b',Y,?_⟩
 have:c'=#[.N]:=by
  apply vcp
  intro i
  match i with
  |0=>exact q0
  |i+1=>simp[k2]
 exact this▸k1⟩
def QP:a4:=⟨Po 0,(BH 0).iI,λ_=>True,λn _ ρ w w' v v' hc hv h=>OB (n0:=0) ρ w w' v v' ⟨hc.cells,hc.types,λ_ _ _ _=>vba _,hc.inj⟩ hv h⟩
def aBA(k p:Int)(w:aH)(v:Value):Prop:=∃b g c cs,v=.P b 0/\ag w b #[.I k,.S g 0 1 c] 50/\ag w g cs 3/\cs[0]?=some (.I p)
def LY(k p:Int):a4:=⟨aBA k p,λ_ _ _ hb⟨b,g,c,cs,e,h1,h2,h3⟩=>⟨b,g,c,cs,e,h1.call hb,h2.call hb,h3⟩,λ_=>True,λn _ ρ w w' v v' hc hv⟨b,g,c,cs,e,h1,h2,h3⟩=>by
 subst e
 obtain⟨b',rfl,r⟩:=uO hv
 obtain⟨c',k1,k2,key⟩:=Ht hc r h1
 obtain⟨u0,q0,e0⟩:=key 0 _ Y
 obtain⟨u1,bj,e1⟩:=key 1 _ Y
 rw[gM e0]at q0
 obtain⟨g',rfl,rg⟩:=rB e1
 obtain⟨d',l1,l2,aBB⟩:=Ht hc rg h2
 obtain⟨u2,a_,e2⟩:=aBB 0 _ h3
 rw[gM e2]at a_
 refine⟨b',g',c,d',Y,?_,l1,a_⟩
 have:c'=#[.I k,.S g' 0 1 c]:=by
  apply vcp
  intro i
  match i with
  |0=>exact q0
  |1=>exact bj
  |i+2=>simp[k2]
 exact this▸k1⟩
def w5{T T':uab}{w w':aH}(h:iJ T w w'){b:Nat}{cs:fi}(e:ag w b cs T')(a:T'≠T):ag w' b cs T':=by obtain⟨f,d,-,c⟩:=h.box e;rw[<-c a];exact d
structure RK where
 g:a4
 v0:a4
 v2:a4
 b0:a4
 b2:a4
 e:Int
 ok:∀n,g.ok n/\v0.ok n/\v2.ok n/\b0.ok n/\b2.ok n
 lS:∀{N:Nat}{K:bF}{o:Oper}{x:uau},o.op=.extract x 0->bg K x g->bD vee N K o v0
 cu:∀{N:Nat}{K:bF}{o:Oper}{x:uau},o.op=.extract x 1->bg K x g->bD vee N K o (a9 e)
 dr:∀{N:Nat}{K:bF}{o:Oper}{x:uau},o.op=.extract x 2->bg K x g->bD vee N K o v2
 s0:∀{N n0:Nat}{K:bF}{o:Oper}{s v:Nat},o.op=.store 27 (.tmp s) (.tmp v)->K s=some (iw n0 27 1)->K v=some v0->o.guard=none->o.dst=none->BC vee N n0 K o (27,s) b0
 je:∀{N n0:Nat}{K:bF}{o:Oper}{s v:Nat},o.op=.store 50 (.tmp s) (.tmp v)->K s=some (iw n0 50 2)->K v=some v2->o.guard=none->o.dst=none->BC vee N n0 K o (50,s) b2
 oN:∀T,jU T->kg T g
 t0:∀T,jU T->kg T v0
 d_:∀T,jU T->kg T v2
 LZ:kg 50 b0
 L0:kg 27 b2
def ou{N n0:Nat}{K:bF}{o:Oper}{p:TypeId×Nat}{F b:a4}(hF:∀w v,F.R w v->b.R w v)(h:BC vee N n0 K o p F):BC vee N n0 K o p b:=⟨h.1,h.2.1,λa w hk=>by
 obtain⟨w',f,e,d,v,c,g⟩:=h.2.2 a w hk;exact⟨w',f,e,d,v,c,hF _ _ g⟩⟩
def H5(t:List bo):RK where
 g:=BQ t
 v0:=qF t
 v2:=E7
 b0:=jv t
 b2:=QP
 e:=0
 ok _:=⟨PA,PA,PA,PA,PA⟩
 lS:=W4
 cu:=W5
 dr:=W6
 s0 {N n0 K o s v} ho hs hv hg hd:=ou (F:=HF n0 t) (λw v⟨b,aA,e,_,h1,h2⟩=>⟨b,aA,e,vba _,h1,h2⟩) (ra ho hs hv hg hd)
 je {N n0 K o s v} ho hs hv hg hd:=ou (F:=BH n0) (λw v⟨b,e,_,h1⟩=>⟨b,e,vba _,h1⟩) (q7 ho hs hv hg hd)
 oN _:=wK
 t0 _:=WC
 d_ _ _ _ _ _ _ h:=h
 LZ w w' v h r:=WB (n0:=0) Y w w' v h r
 L0 w w' v h r:=wS (n0:=0) Y w w' v h r
def int_ne{T:uab}(h:jU T):3≠T:=by rcases h with rfl|rfl<;>decide
def n7{T:uab}(h:jU T){p:Int}:kg T (Ak p):=λw w' v a⟨g,c,cs,e,d,b⟩=>⟨g,c,cs,e,w5 a d (int_ne h),b⟩
def B1(k:Nat)(p:Int):RK where
 g:=dI.oT k p
 v0:=rR
 v2:=Pt k p
 b0:=XG
 b2:=LY k p
 e:=5
 ok _:=⟨PA,PA,PA,PA,PA⟩
 lS:=rH
 cu:=ri
 dr:=re
 s0 {N n0 K o s v} ho hs hv hg hd:=⟨hg,hd,λa w hk=>by
  obtain⟨x,bj,b,cs,rfl,hn,hb,hsz⟩:=hk.has s _ hs
  obtain⟨y,a_,r2⟩:=hk.has v _ hv
  obtain⟨u1,u2⟩:=W7 (ev:=a.eval) ho hb hsz (c2 bj) ((c2 a_).trans r2)
  exact⟨_,u1,iJ.set hb 0 _,(vaa n0 w).setCell (p:=⟨b,0,none⟩) hn _,_,bj,b,Y,u2⟩⟩
 je {N n0 K o s v} ho hs hv hg hd:=⟨hg,hd,λa w hk=>by
  obtain⟨x,bj,b,cs,rfl,hn,hb,hsz⟩:=hk.has s _ hs
  obtain⟨y,a_,aA,rfl,g,c,be,rfl,h1,h2⟩:=hk.has v _ hv
  obtain⟨u1,u2⟩:=PF (ev:=a.eval) ho hb hsz (c2 bj) (c2 a_)
  have bc:=hb.set 0 (.I k)
  have hne:g≠b:=λe=>IH
  exact⟨_,u1,(iJ.set hb 0 _).trans (iJ.set bc 1 _),((vaa n0 w).setCell (p:=⟨b,0,none⟩) hn _).setCell (p:=⟨b,1,none⟩) hn _,_,bj,b,g,c,be,Y,u2,(h1.ek hne _).ek hne _,h2⟩⟩
 oN T hT w w' v h:=λ⟨aA,e,r⟩=>⟨aA,e,n7 hT w w' aA h r⟩
 t0 _ _ _ _ _ _ h:=h
 d_ T hT w w' v h:=λ⟨aA,e,r⟩=>⟨aA,e,n7 hT w w' aA h r⟩
 LZ w w' v h:=λ⟨b,e,r⟩=>⟨b,e,w5 h r AU⟩
 L0 w w' v h:=λ⟨b,g,c,cs,e,r1,r2,r3⟩=>⟨b,g,c,cs,e,w5 h r1 AU,w5 h r2 AU,r3⟩
section
variable{N:Nat}{K:bF}{o:Oper}{x y:uau}{k p:Int}
def XH(a:o.op=.fieldAddr 50 x 0)(d:bg K x (LY k p)):bD vee N K o (er xZ k):=dK d λev w h=>by obtain⟨b,g,c,cs,e,f,-,-⟩:=h;exact⟨.P b 0,w,A1,⟨b,0,Y,f.rules.1 0⟩,vaa _ _⟩
def H6(a:o.op=.fieldAddr 50 x 1)(d:bg K x (LY k p)):bD vee N K o (er (pE 1 xZ) [p]):=dK d λev w h=>by obtain⟨b,g,c,cs,e,l,j,f⟩:=h;refine⟨.P b 1,w,A1,⟨b,1,Y,_,l.rules.1 1,_,_,Y,AQ,λi hi=>?_⟩,vaa _ _⟩;obtain rfl:i=0:=Dk;exact⟨g,0,Y,(j.rules.1 0).trans f⟩
def nT(a:o.op=.fieldAddr 50 x 1)(c:bg K x QP):bD vee N K o P5:=dK c λev w h=>by obtain⟨b,e,-,h⟩:=h;exact⟨.P b 1,w,A1,⟨b,1,Y,h.rules.1 1⟩,vaa _ _⟩
def aBC(a:o.op=.fieldAddr 27 x 0)(c:bg K x XG):bD vee N K o P5:=dK c λev w h=>by obtain⟨b,e,h⟩:=h;exact⟨.P b 0,w,A1,⟨b,0,Y,h.rules.1 0⟩,vaa _ _⟩
def aBD(a:o.op=.load 25 x)(c:bg K x P5):bD vee N K o mN:=dK c λev w h=>by obtain⟨b,k,e,h⟩:=h;exact⟨.N,w,A1,Y,vaa _ _⟩
def aBE(a:o.op=.call {callee:=.builtin .len,args:=#[x],argTypes:=#[25]})(b:bg K x mN):bD vee N K o (a9 0):=dK b λev w h=>by have e:ev x=.N:=h;exact⟨.I 0,w,A1,Y,vaa _ _⟩
end
def Fb(e:List bH):a4:=⟨λw v=>∃g,v=.S g 0 e.length e.length/\ag w g (e.flatMap sA).toArray 36,λ_ _ _ hb⟨g,e,h⟩=>⟨g,e,h.call hb⟩,λ_=>False,λ_ h=>h.elim⟩
def w6(e e':List bH)(w:aH)(v:Value):Prop:=∃g g1 g2,v=.S g 0 2 2/\ag w g #[.S g1 0 e.length e.length,.S g2 0 e'.length e'.length] 38/\ag w g1 (e.flatMap sA).toArray 36/\ag w g2 (e'.flatMap sA).toArray 36
def QQ(e e':List bH):a4:=⟨w6 e e',λ_ _ _ hb⟨g,g1,g2,e,h1,h2,h3⟩=>⟨g,g1,g2,e,h1.call hb,h2.call hb,h3.call hb⟩,λ_=>False,λ_ h=>h.elim⟩
def nN(e e':List bH):a4:=⟨λw u=>∃v,u=.agg #[.I 3,.I 0,.I 0,v,.N,.N,.N]/\w6 e e' w v,λ_ _ _ hb⟨v,e1,h⟩=>⟨v,e1,(QQ e e').iI _ _ _ hb h⟩,λ_=>False,λ_ h=>h.elim⟩
variable{v:Value}
def w6.only{e b:List bH}{w w':aH}(h:w6 e b w v)(a:iJ 43 w w'):w6 e b w' v:=by obtain⟨g,g1,i,j,f,d,c⟩:=h;exact⟨g,g1,i,j,w5 a f AU,w5 a d AU,w5 a c AU⟩
def XI{e:List bH}{w:aH}{g:Nat}{T:uab}(h:ag w g (e.flatMap sA).toArray T)(c:e.length<=100)(hs:∀t∈e,t.s.size<=100):rS w (.S g 0 e.length e.length) e:=by
 refine⟨_,_,Y,AP,λi hi=>⟨_,_,Y,?_⟩⟩;have key:∀(l:List bH)(i:Nat)(h:i<l.length)(j:Nat),j<4->(l.flatMap sA)[i*4+j]?=(sA l[i])[j]?:=by intro l;induction l with|nil=>grind|cons t r b=>intro i h j a;rw[List.flatMap_cons];cases i with|zero=>grind[sA]|succ i=>grind[sA]
 have rd:∀j,j<4->w.cell? (.a g (0+i*4+j))=(sA e[i])[j]?:=λj a=>by rw[h.rules.1];have:=key e i hi j a;simp_all
 exact⟨rd 0 AU,rd 1 AU,rd 2 AU,rd 3 AU,by have:=hs e[i] (vbe hi);omega⟩
def w6.reads{e a:List bH}{w:aH}(h:w6 e a w v)(b:e.length<=100/\a.length<=100)(hs:(∀t∈e,t.s.size<=100)/\∀t∈a,t.s.size<=100):∃j ec,v=.slice j 2 ec/\nP w v [e,a]:=by
 obtain⟨g,g1,k,rfl,c,f,d⟩:=h;refine⟨_,_,Y,_,_,Y,AQ,λi hi=>⟨g,0,Y,?_⟩⟩;have:i=0\/i=1:=by simp at hi;omega
 rcases this with rfl|rfl
 .exact⟨_,(c.rules.1 0).trans Y,XI f b.1 hs.1⟩
 .exact⟨_,(c.rules.1 1).trans Y,XI d b.2 hs.2⟩
section
variable{N:Nat}{K:bF}{o:Oper}{x y z:uau}
def aBF{a:bH}(b:o.op=.buildSlice 38 1 #[(0,x)])(d:bg K x (aK.oT a)):bD vee N K o (Fb [a]):=dK d λev w c=>by have c:ev x=.agg #[.I a.op,.I a.a,.I a.v,.string a.s]:=c;refine⟨.S w.heap.size 0 1 1,w.alloc (.cells #[.I a.op,.I a.a,.I a.v,.string a.s] 36),?_,⟨_,Y,ag.new _ _ _⟩,(vaa _ w).alloc Kj _⟩;cases o;simp only at b;subst b;go_simp
def XJ{c d_ b:bH}(g:o.op=.buildSlice 38 3 #[(0,x),(1,y),(2,z)])(j:bg K x (aK.oT c))(i:bg K y (aK.oT d_))(h:bg K z (aK.oT b)):bD vee N K o (Fb [c,d_,b]):=λa w hk=>by have f:=hk.ev j;have e:=hk.ev i;have d:=hk.ev h;unfold Ab;generalize a.eval=ev at f e d⊢;have f:ev x=.agg #[.I c.op,.I c.a,.I c.v,.string c.s]:=f;have e:ev y=.agg #[.I d_.op,.I d_.a,.I d_.v,.string d_.s]:=e;have d:ev z=.agg #[.I b.op,.I b.a,.I b.v,.string b.s]:=d;refine .inl ⟨.S w.heap.size 0 3 3,w.alloc (.cells #[.I c.op,.I c.a,.I c.v,.string c.s,.I d_.op,.I d_.a,.I d_.v,.string d_.s,.I b.op,.I b.a,.I b.v,.string b.s] 36),?_,⟨_,Y,ag.new _ _ _⟩,(vaa _ w).alloc Kj _⟩;cases o;simp only at g;subst g;go_simp
def aBG{e a:List bH}(c:o.op=.buildSlice 39 2 #[(0,x),(1,y)])(j:bg K x (Fb e))(i:bg K y (Fb a)):bD vee N K o (QQ e a):=uR j i λev w h k=>by obtain⟨g1,m,f⟩:=h;obtain⟨g,l,d⟩:=k;have b:cy w (w.alloc (.cells #[.S g1 0 e.length e.length,.S g 0 a.length a.length] 38)):=(vaa _ w).alloc Kj _;refine⟨.S w.heap.size 0 2 2,_,?_,⟨_,g1,g,Y,ag.new _ _ _,f.call b,d.call b⟩,b⟩;clear f d;cases o;simp only at c;subst c;go_simp
def aBH{e f:List bH}(d:o.op=.build 43 #[(0,x),(1,y),(3,z)])(j:bg K x (a9 3))(i:bg K y (a9 0))(h:bg K z (QQ e f)):bD vee N K o (nN e f):=λa' w hk=>by have c:=hk.ev j;have b:=hk.ev i;have a:=hk.ev h;unfold Ab;generalize a'.eval=ev at c b a⊢;have c:ev x=.I 3:=c;have b:ev y=.I 0:=b;refine .inl ⟨.agg #[.I 3,.I 0,.I 0,ev z,.N,.N,.N],w,?_,⟨_,Y,a⟩,vaa _ _⟩;obtain⟨g,g1,k,l,-⟩:=a;cases o;simp only at d;subst d;go_simp
def aBI{g:uam}{n0 cz b:Nat}{m k:Int}{w:aH}{ev:uak}(i:o.op=.store 43 x y)(c:ag w b #[.I 0,.I 0,.I 0,.N,.N,.N,.N] 43)(r:ev x=.P b 0)(q:ev y=.agg #[.I m,.I k,.I 0,.slice g n0 cz,.N,.N,.N]):∃w',(execOp ev o).run vee w=.ok .skip w'/\ag w' b #[.I m,.I k,.I 0,.slice g n0 cz,.N,.N,.N] 43/\iJ 43 w w'/\∀B,B<=b->Below B w w':=by have s0:=c.set 0 (.I m);have e:=s0.set 1 (.I k);have je:=e.set 2 (.I 0);have f:=je.set 3 (.slice g n0 cz);have d:=f.set 4 (.N);have h:=d.set 5 (.N);have j:=h.set 6 (.N);refine⟨_,?_,j,(iJ.set c 0 _).trans<|(iJ.set s0 1 _).trans<|(iJ.set e 2 _).trans<|(iJ.set je 3 _).trans<|(iJ.set f 4 _).trans<|(iJ.set d 5 _).trans (iJ.set h 6 _),λB a=>((((((((vaa B w).setCell (p:=⟨b,0,none⟩) a _).setCell (p:=⟨b,1,none⟩) a _).setCell (p:=⟨b,2,none⟩) a _).setCell (p:=⟨b,3,none⟩) a _).setCell (p:=⟨b,4,none⟩) a _).setCell (p:=⟨b,5,none⟩) a _).setCell (p:=⟨b,6,none⟩) a _)⟩;obtain⟨s,n,l⟩:=c.all;clear c s0 e je f d h j;cases o;simp only at i;subst i;go_simp
end
section
variable{n0:Nat}{ρ:Ren}{w w':aH}{b b':Nat}{T:uab}
def QR(d:rA n0 ρ w w')(r:ρ.rel b b'){l:uaj}(h:ag w b l.toArray T)(c:∀x∈l,uQ x):ag w' b' l.toArray T:=by obtain⟨f,a,e⟩:=Ff d r h;rw[VW c e]at a;exact a
def nK(d:rA n0 ρ w w')(r:ρ.rel b b')(h:ag w b #[v] T):∃u,ag w' b' #[u] T/\ax ρ v u:=by obtain⟨f,e,a⟩:=Ff (l:=[v]) d r h;cases a with|cons c a=>cases a;exact⟨_,e,c⟩
def aBJ(e:rA n0 ρ w w')(r:ρ.rel b b'){v2:Value}(h:ag w b #[v,v2] T):∃u u2,ag w' b' #[u,u2] T/\ax ρ v u/\ax ρ v2 u2:=by
 obtain⟨g,f,a⟩:=Ff (l:=[v,v2]) e r h;cases a with
 |cons d a=>cases a with
  |cons c a=>cases a;exact⟨_,_,f,d,c⟩
def nn(k:rA n0 ρ w w')(r:ρ.rel b b'){m c:Int}(h:ag w b #[.I m,.I c,.I 0,v,.N,.N,.N] T):∃u,ag w' b' #[.I m,.I c,.I 0,u,.N,.N,.N] T/\ax ρ v u:=by
 obtain⟨p,d,a⟩:=Ff (l:=[.I m,.I c,.I 0,v,.N,.N,.N]) k r h;cases a with
 |cons o a=>cases a with
  |cons j a=>cases a with
   |cons i a=>cases a with
    |cons g a=>cases a with
     |cons f a=>cases a with
      |cons n a=>cases a with
       |cons e a=>cases a;rw[gM o,gM j,gM i,kR f,kR n,kR e]at d;exact⟨_,d,g⟩
end
def XK(e:List bH):∀x∈e.flatMap sA,uQ x:=λx a=>by obtain⟨t,-,h⟩:=List.mem_flatMap.1 a;exact kA t x h
variable{v':Value}
def w6.ii{n0:Nat}{ρ:Ren}{w w':aH}{e b:List bH}(a:rA n0 ρ w w')(hv:ax ρ v v')(h:w6 e b w v):w6 e b w' v':=by obtain⟨g,g1,o,rfl,n,m,l⟩:=h;obtain⟨g',rfl,r⟩:=rB hv;obtain⟨u1,u2,k,j,i⟩:=aBJ a r n;obtain⟨d,rfl,r1⟩:=rB j;obtain⟨c,rfl,f⟩:=rB i;exact⟨g',d,c,Y,k,QR a r1 m (XK e),QR a f l (XK b)⟩
def tK(e:List bH)(w:aH)(v:Value):Prop:=∃g g1,v=.S g 0 1 1/\ag w g #[.S g1 0 e.length e.length] 38/\ag w g1 (e.flatMap sA).toArray 36
def tK.ii{n0:Nat}{ρ:Ren}{w w':aH}{e:List bH}(a:rA n0 ρ w w')(hv:ax ρ v v')(h:tK e w v):tK e w' v':=by obtain⟨g,g1,rfl,i,f⟩:=h;obtain⟨g',rfl,r⟩:=rB hv;obtain⟨u1,d,c⟩:=nK a r i;obtain⟨b,rfl,r1⟩:=rB c;exact⟨g',b,Y,d,QR a r1 f (XK e)⟩
def tK.below{e:List bH}{w w':aH}(a:cy w w')(h:tK e w v):tK e w' v:=by obtain⟨g,g1,d,c,b⟩:=h;exact⟨g,g1,d,c.call a,b.call a⟩
def tK.only{e:List bH}{w w':aH}(h:tK e w v)(a:iJ 43 w w'):tK e w' v:=by obtain⟨g,g1,d,c,b⟩:=h;exact⟨g,g1,d,w5 a c AU,w5 a b AU⟩
def tK.reads{e:List bH}{w:aH}(h:tK e w v)(a:e.length<=100)(hs:∀t∈e,t.s.size<=100):∃d ec,v=.slice d 1 ec/\nP w v [e]:=by obtain⟨g,g1,rfl,c,b⟩:=h;refine⟨_,_,Y,_,_,Y,AQ,λi hi=>⟨g,0,Y,?_⟩⟩;obtain rfl:i=0:=Dk;exact⟨_,(c.rules.1 0).trans Y,XI b a hs⟩
abbrev aBL:=w6 [tm 1 0] [tm 1 1,nm 9223372036854775807,tm 5 0]
def H7(c:Int)(w:aH)(v:Value):Prop:=∃b eu,v=.P b 0/\ag w b #[.I 3,.I c,.I 0,eu,.N,.N,.N] 43/\aBL w eu
def Au(c:Int):a4:=⟨H7 c,λ_ _ _ hb⟨b,eu,e,h1,h2⟩=>⟨b,eu,e,h1.call hb,(QQ _ _).iI _ _ _ hb h2⟩,λ_=>True,λ_ _ ρ w w' v v' hc hv⟨b,eu,e,h1,h2⟩=>by
 subst e
 obtain⟨b',rfl,r⟩:=uO hv
 obtain⟨u,k1,k2⟩:=nn hc r h1
 exact⟨b',u,Y,k1,h2.ii hc k2⟩⟩
def sD(n0:Nat)(c:Int):a4:=⟨λw v=>H7 c w v/\oX n0 v,λ_ _ _ hb h=>⟨(Au c).iI _ _ _ hb h.1,h.2⟩,λn=>n=n0,λn hn ρ w w' v v' hc hv h=>⟨(Au c).ii n trivial _ _ _ _ _ hc hv h.1,by
 obtain⟨b,o,rfl,hb⟩:=h.2
 obtain⟨b',rfl,r⟩:=uO hv
 subst hn
 exact⟨b',o,Y,hc.new _ _ r hb⟩⟩⟩
def H8(e:List bH)(w:aH)(v:Value):Prop:=∃b eu,v=.P b 0/\ag w b #[.I 2,.I 0,.I 0,eu,.N,.N,.N] 43/\tK e w eu
def uX(e:List bH):a4:=⟨H8 e,λ_ _ _ hb⟨b,eu,e,h1,h2⟩=>⟨b,eu,e,h1.call hb,h2.below hb⟩,λ_=>True,λ_ _ ρ w w' v v' hc hv⟨b,eu,e,h1,h2⟩=>by
 subst e
 obtain⟨b',rfl,r⟩:=uO hv
 obtain⟨u,k1,k2⟩:=nn hc r h1
 exact⟨b',u,Y,k1,h2.ii hc k2⟩⟩
def L1(t:List bo)(w:aH)(v:Value):Prop:=∃b aA,v=.S b 0 1 1/\ag w b #[aA] 27/\l6 w aA t
def Ft(t:List bo):a4:=⟨L1 t,λ_ _ _ hb⟨b,aA,e,h1,h2⟩=>⟨b,aA,e,h1.call hb,h2.kept (E6 hb)⟩,λ_=>True,λn _ ρ w w' v v' hc hv⟨b,aA,e,h1,h2⟩=>by
 subst e
 obtain⟨b',rfl,r⟩:=rB hv
 obtain⟨u,k1,k2⟩:=nK hc r h1
 exact⟨b',u,Y,k1,Lc (n0:=n) t _ _ _ _ _ hc k2 h2⟩⟩
def H9(x y:Int)(w:aH)(v:Value):Prop:=∃b,v=.P b 0/\ag w b #[.I x,.I y] 24
def kW(x y:Int):a4:=⟨H9 x y,λ_ _ _ hb⟨b,e,h⟩=>⟨b,e,h.call hb⟩,λ_=>True,λn _ ρ w w' v v' hc hv⟨b,e,h⟩=>by
 subst e
 obtain⟨b',rfl,r⟩:=uO hv
 exact⟨b',Y,QR (l:=[.I x,.I y]) hc r h (by intro z hz;simp at hz;rcases hz with rfl|rfl<;>exact .int _ _)⟩⟩
def aBM:(∀t∈[tm 1 0],t.s.size<=100)/\∀t∈[tm 1 1,nm 9223372036854775807,tm 5 0],t.s.size<=100:=by constructor<;>(intro t ht;simp at ht;first|(rcases ht with rfl|rfl|rfl<;>decide)|(subst ht;decide))
def qX:∀t∈rJ,t.s.size<=100:=by intro t ht;simp[rJ]at ht;rcases ht with rfl|rfl|rfl<;>decide
def aBN:∀t∈wW,t.s.size<=100:=by intro t ht;simp[wW]at ht;rcases ht with rfl|rfl|rfl<;>decide
def H7.sE{c:Int}{w:aH}(h:H7 c w v):(er As ((3,qI),c)).R w v:=by obtain⟨b,g,rfl,a,e⟩:=h;obtain⟨f,ec,rfl,d⟩:=e.reads ⟨AU,AU⟩ aBM;exact⟨b,0,Y,f,ec,⟨(a.rules.1 _).trans Y,(a.rules.1 _).trans Y,(a.rules.1 _).trans Y,(a.rules.1 _).trans Y,(a.rules.1 _).trans Y,(a.rules.1 _).trans Y,(a.rules.1 _).trans Y⟩,d⟩
def H8.sE{e:List bH}{w:aH}(h:H8 e w v)(d:e.length<=100)(hs:∀t∈e,t.s.size<=100):(er As ((2,[e]),0)).R w v:=by obtain⟨b,i,rfl,a,f⟩:=h;obtain⟨g,ec,rfl,c⟩:=f.reads d hs;exact⟨b,0,Y,g,ec,⟨(a.rules.1 _).trans Y,(a.rules.1 _).trans Y,(a.rules.1 _).trans Y,(a.rules.1 _).trans Y,(a.rules.1 _).trans Y,(a.rules.1 _).trans Y,(a.rules.1 _).trans Y⟩,c⟩
def L1.sE{t:List bo}{w:aH}(h:L1 t w v):od t w v:=by obtain⟨b,aA,rfl,c,a⟩:=h;exact⟨b,0,1,aA,Y,(c.rules.1 0).trans Y,a.bl⟩
def H9.sE{x y:Int}{w:aH}(h:H9 x y w v):(x7 x y).R w v:=by obtain⟨b,rfl,h⟩:=h;exact⟨b,0,Y,h.rules.1 0,h.rules.1 1⟩
def aBO(k:Int)(a:uam)(aW ec:Nat)(w:aH):Calls vee 8 #[.I k,.slice a aW ec] w λe w'=>∃b,e=.returned (.agg #[.I 2,.I k,.I 0,.S b 0 1 1,.N,.N,.N])/\ag w' b #[.slice a aW ec] 38/\cy w w':=by
 go_enter (vea func8),ntmps8
 go_wp2
 refine vai (v:=.agg #[.I 2,.I k,.I 0,.S (w.heap.size+1) 0 1 1,.N,.N,.N]) (by simp[results,results8,go_sem]) Y ⟨w.heap.size+1,Y,?_,((vaa _ w).alloc Kj _).alloc AQ _⟩;have:=ag.new (w.alloc (.cells #[.I 2,.I k,.I 0,.S (w.heap.size+1) 0 1 1,.N,.N,.N] 43)) #[.slice a aW ec] 38;rwa[World.size_alloc]at this
def qU(e:List bH):a4:=⟨λw u=>∃v,u=.agg #[.I 2,.I 0,.I 0,v,.N,.N,.N]/\tK e w v,λ_ _ _ hb⟨v,e1,h⟩=>⟨v,e1,h.below hb⟩,λ_=>False,λ_ h=>h.elim⟩
section
variable{N:Nat}{K:bF}{o o2:Oper}{x y:uau}{ats:uap}
def qP{e:List bH}(i:o.op=.call {callee:=.value (.func 8),args:=#[x,y],argTypes:=ats})(f:bg K x (a9 0))(d:bg K y (Fb e)):bD vee N K o (qU e):=Pe i (λa w=>aA7 a w) f d λv v' w h l=>by cases h;obtain⟨g,rfl,k⟩:=l;refine(aBO 0 (some (.a g 0)) e.length e.length w).mono ?_;rintro q w' ⟨b,rfl,j,c⟩;exact⟨_,Y,⟨_,Y,b,g,Y,j,k.call c⟩,c⟩
def qN{ops:fC}{i d s:Nat}{Q:ual}{rest:uad}{a:Act}{w:aH}{e:List bH}(n:ops[i]?=some o)(m:ops[i+1]?=some o2)(f:o.op=.alloc 43)(c:o2.op=.store 43 (.tmp d) (.tmp s))(l:K s=some (qU e))(hk:ah N K a w)(hd:o.dst=some d)(j:o2.dst=none)(g1:o.guard=none)(p:o2.guard=none)(a3:d<N)(u:d≠s)(k:∀a' w1,ah N (up K d (uX e)) a' w1->a'.defers=a.defers->cy w w1->wpOps vee ops Q rest a' w1):wpOps vee ops Q (i::(i+1)::rest) a w:=by
 obtain⟨v,r,y,rfl,h⟩:=hk.has s _ l;obtain⟨g,x,rfl,-⟩:=id h;have b:cy w (w.alloc (.cells #[.I 2,.I 0,.I 0,.S g 0 1 1,.N,.N,.N] 43)):=(vaa _ w).alloc Kj _;refine Pf (F:=uX e) (ES:=w.alloc (.cells #[.I 0,.I 0,.I 0,.N,.N,.N,.N] 43)) n m g1 p hd j a3 u hk r (λev=>?_) (λev z A=>?_) b ⟨w.heap.size,_,Y,ag.new _ _ _,h.below b⟩ λa' t q=>k a' _ t q b
 .cases o;simp only at f;subst f;go_simp
 .clear h;cases o2;simp only at c;subst c;go_simp
def aBP{t:List bo}(b:o.op=.buildSlice 45 1 #[(0,x)])(d:bg K x (qF t)):bD vee N K o (Ft t):=dK d λev w h=>by obtain⟨aA,e,a⟩:=h;obtain⟨⟨i,g,rfl,-,-⟩,-⟩:=id a;have c:cy w (w.alloc (.cells #[.slice i t.length g] 27)):=(vaa _ w).alloc Kj _;have f:Hid _:=a;clear a;exact⟨.S w.heap.size 0 1 1,_,by cases o;simp only at b;subst b;go_simp,⟨w.heap.size,_,Y,ag.new _ _ _,l6.kept (E6 c) f.out⟩,c⟩
def aBQ{n0:Nat}{c:Int}(a:o.op=.load 43 x)(g:bg K x (sD n0 c)):bD vee N K o (Hm (3,qI) c):=dK g λev w h=>by obtain⟨b,f,e,d,ec,⟨h0,l,k,i,j,n,m⟩,h⟩:=h.1.sE;simp only[vcg]at h0;refine⟨.agg #[.I 3,.I c,.I 0,.slice d 2 ec,.N,.N,.N],w,?_,⟨d,ec,Y,h⟩,vaa _ _⟩;clear h;simp only[show(qI).length=2 from Y]at i;cases o;simp only at a;subst a;go_simp
