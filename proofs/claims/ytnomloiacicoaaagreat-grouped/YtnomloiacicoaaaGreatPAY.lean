import Derived.Maps.OwnIn
import Derived.Test.YtnomloiacicoaaaGreatPAX
set_option linter.all false
set_option maxRecDepth 100000
set_option maxHeartbeats 16000000
namespace Go.Proofs.YtnomloiacicoaaaGreat
open Tryz
namespace aV
open Conc ConcM RowKit av bj cV dx bd b_
variable{v:Value}
section
variable{n0:Nat}
def Pp(n0:Nat)(T:uaa)(N:Nat)(w:aR)(v:Value):Prop:=∃b cs,v=.P b 0/\n0<=b/\ag w b cs T/\cs.size=N
def av4 T N:kY n0 (Pp n0 T N):=by rintro ρ w w' v v' a hv ⟨b,cs,rfl,hn,c,hs⟩;obtain⟨e,rfl,r⟩:=zg hv;obtain⟨d,h1,h2⟩:=a.types _ _ _ _ _ r c;exact⟨e,d,Y,a.new _ _ r hn,h1,h2.trans hs⟩
def Ad(t:List a9)(w:aR)(v:Value):Prop:=∃a_ m0 lF v',v=.S a_ m0 1 lF/\w.cell? (.a a_ m0)=some v'/\n8 w v' t
def av5 t:kY n0 (Ad t):=by rintro ρ w w' v v' b hv ⟨a_,a,e,x,rfl,h1,h2⟩;obtain⟨c,rfl,r⟩:=rH hv;obtain⟨d,h3,h4⟩:=b.cells ⟨a_,a,none⟩ ⟨c,a,none⟩ x ⟨r,Y,Y⟩ h1;exact⟨c,a,e,d,Y,h3,av.bo.carry xP b.cells h4 h2⟩
def TG{ρ w w'}(s:Carry ρ w w'){g e no}(r:ρ.rel g e){op i ka b c bZ n gc}(h:Ac w g no op i ka b c bZ n gc):∃f d,au ρ (.slice ka b c) (.slice f b c)/\au ρ (.slice bZ n gc) (.slice d n gc)/\Ac w' e no op i f b c d n gc:=by have key:∀j v,(kU op i ka b c bZ n gc)[j]?=some v->∃v',w'.cell? (.a e (no+j))=some v'/\au ρ v v':=λj v a=>s ⟨g,no+j,none⟩ ⟨e,no+j,none⟩ v ⟨r,Y,Y⟩ (h j v a);obtain⟨z,h0,u⟩:=key 0 _ Y;obtain⟨D,h1,q⟩:=key 1 _ Y;obtain⟨C,h2,p⟩:=key 2 _ Y;obtain⟨B,h3,o⟩:=key 3 _ Y;obtain⟨A,h4,k⟩:=key 4 _ Y;obtain⟨y,m,t⟩:=key 5 _ Y;obtain⟨E,x,l⟩:=key 6 _ Y;rw[hP u]at h0;rw[hP q]at h1;rw[hP p]at h2;rw[lx o]at h3;rw[lx t]at m;obtain⟨d,rfl⟩:=Oj l;obtain⟨f,rfl⟩:=Oj k;refine⟨f,d,k,l,λj v a=>?_⟩;match j with|0=>cases a;exact h0|1=>cases a;exact h1|2=>cases a;exact h2|3=>cases a;exact h3|4=>cases a;exact h4|5=>cases a;exact m|6=>cases a;exact x|j+7=>simp[kU]at a
def Ae(w:aR)(v:Value):Prop:=∃dC no bF ka bZ cg gc,v=.S dC no 2 bF/\BN w dC no ka bZ cg gc
def av6:kY n0 Ae:=by rintro ρ w w' v v' a hv ⟨p,no,m,ka,bZ,l,gc,rfl,h⟩;obtain⟨n,rfl,r⟩:=rH hv;obtain⟨e0,q,k,b,c⟩:=TG a.cells r h.n0;have e:=lx k;have d:=lx b;rw[vex]at e d;rw[e.1,d.1]at c;obtain⟨o,f,j,i,g⟩:=TG a.cells r h.n1;exact⟨n,no,m,o,f,l,gc,Y,c,g,av.bo.carry Dq a.cells j h.iT,av.bo.carry N0 a.cells i h.e5⟩
theorem Ae.keeps{w w'}(h:Ae w v)(c:bp w w'):Ae w' v:=by obtain⟨a,no,d,ka,bZ,b,gc,rfl,h⟩:=h;exact⟨a,no,d,ka,bZ,b,gc,Y,h.keeps c⟩
def Pr:List vc:=[(1,0,[],[]),(5,0,[0],jN)]
def av8{w}(h:Ae w v):(fS 7 pU Pr).R w v:=by
 obtain⟨g,no,j,ka,bZ,k,gc,rfl,h⟩:=h;refine⟨_,j,Y,by simp[Pr],λi hi=>⟨g,no,Y,?_⟩⟩;obtain rfl|rfl:i=0\/i=1:=by grind[Pr]
 .obtain⟨f,d1,e,d,c,b,a⟩:=Fp h.n0;exact⟨_,_,⟨f,d1,e,d,c,b,a⟩,bo.nil _ _ _,bo.nil _ _ _⟩
 .obtain⟨f,d1,e,d,c,b,a⟩:=Fp h.n1;exact⟨_,_,⟨f,d1,e,d,c,b,a⟩,h.iT,h.e5⟩
def av9{t w}(h:Ad t w v):(fS 1 nU [t]).R w v:=by obtain⟨a_,a,b,x,rfl,h1,h2⟩:=h;refine⟨_,_,Y,AS,λi hi=>⟨a_,a,Y,x,?_⟩⟩;grind
def Wr(N:Nat)(l:g7)(w:aR)(x:Value):Prop:=∃g c v,x=.S g 0 N c/\w.cell? (.a g (N-1))=some v/\hJ w v l
def av_ N l:kY n0 (Wr N l):=by rintro ρ w w' v v' a hv ⟨g,c,x,rfl,h1,h2⟩;obtain⟨b,rfl,r⟩:=rH hv;obtain⟨d,h3,h4⟩:=a.cells ⟨g,N-1,none⟩ ⟨b,N-1,none⟩ x ⟨r,Y,Y⟩ h1;exact⟨b,c,d,Y,h3,av.bo.carry N0 a.cells h4 h2⟩
def Ps{ρ w w'}(f:sK n0 ρ w w'){v'}(hv:au ρ v v'){e}(h:vU w v e):vU w' v' e:=by
 intro b d;cases hv with
 |@slice a a' l c r=>simp[Value.ownBlock]at d;subst d;obtain⟨c,z,h1⟩:=h a.block Y;obtain⟨g,h2,-⟩:=f.types _ _ _ _ _ r.1 h1;grind
 | _=>cases d
def Pt t:kY n0 λw v=>lv w v t:=by rintro ρ w w' v v' a hv ⟨⟨J,cap,rfl,u,B⟩,ht⟩;obtain⟨E,rfl⟩:=Oj hv;refine⟨⟨E,cap,Y,u,λi hi=>?_⟩,Ps a hv ht⟩;obtain⟨b,off,rfl,I,vs,K,h0,h1,h2,h3,h4,d,o,n,m⟩:=B i hi;obtain⟨c,e,r⟩:=rH hv;cases e;have key:∀j x,w.cell? (.a b (off+i*5+j))=some x->∃f,w'.cell? (.a c (off+i*5+j))=some f/\au ρ x f:=λj x s=>a.cells ⟨b,off+i*5+j,none⟩ ⟨c,off+i*5+j,none⟩ x ⟨r,Y,Y⟩ s;obtain⟨F,l,D⟩:=key 0 _ h0;obtain⟨H,g1,p⟩:=key 1 _ h1;obtain⟨C,z,k⟩:=key 2 _ h2;obtain⟨A,y,h⟩:=key 3 _ h3;obtain⟨q,jB,g⟩:=key 4 _ h4;rw[hP D]at l;rw[hP p]at g1;exact⟨c,off,Y,C,A,q,l,g1,z,y,jB,⟨av.bo.carry Dq a.cells k d.im,av.bo.carry T3 a.cells h d.iJ,av.bo.carry T2 a.cells g d.ff⟩,Ps a k o,Ps a h n,Ps a g m⟩
def Af(t:List a9)(w:aR)(u:Value):Prop:=∃aW,u=.tuple #[.agg #[aW],.I 0,sV]/\lv w aW t
def awa t:kY n0 (Af t):=by
 rintro ρ w w' v v' a hv ⟨aW,rfl,h⟩;obtain⟨b,rfl,k⟩:=Hh hv;cases k with
 |cons h1 k=>cases k with
  |cons h2 k=>cases k with
   |cons h3 k=>cases k;obtain⟨m,rfl,q⟩:=uU h1;cases q with|cons aZ q=>cases q;exact⟨_,by rw[hP h2,Wc h3],Pt t _ _ _ _ _ a aZ h⟩
def Ad.keeps{t w w'}(h:Ad t w v)(a:bp w w'):Ad t w' v:=by obtain⟨a_,b,c,x,rfl,h1,h2⟩:=h;exact⟨a_,b,c,x,Y,a _ _ _ h1,h2.mono si a⟩
def Fq{Y:ubd}{w w':aR}(a:c6 w w'):iN Y w w':=.qC (.below a)
def Fs(t:List a9)(w:aR)(v:Value):Prop:=∃aW,v=.agg #[aW]/\lv w aW t
theorem NP t:kY n0 (Fs t):=by rintro ρ w w' v v' a hv ⟨aW,rfl,h⟩;obtain⟨m,rfl,q⟩:=uU hv;cases q with|cons aZ q=>cases q;exact⟨_,Y,Pt t _ _ _ _ _ a aZ h⟩
def Ib(n0:Nat)(t:List a9)(w:aR)(v:Value):Prop:=∃b aW,v=.P b 0/\n0<=b/\ag w b #[aW] 27/\lv w aW t
theorem Ws t:kY n0 (Ib n0 t):=by
 rintro ρ w w' v v' a hv ⟨b,aW,rfl,hn,d,h⟩;obtain⟨c,rfl,r⟩:=zg hv;obtain⟨e,h1,h2⟩:=a.types _ _ _ _ _ r d;obtain⟨x,h3,h4⟩:=a.cells ⟨b,0,none⟩ ⟨c,0,none⟩ aW ⟨r,Y,Y⟩ ((ag.rules d).1 0 |>.trans Y);have h1:ag w' c e _:=h1;have:e=#[x]:=by grind[ag.rules]
 subst this;exact⟨c,x,Y,a.new _ _ r hn,h1,Pt t _ _ _ _ _ a h4 h⟩
def Ic(t:List a9)(w:aR)(u:Value):Prop:=∃aW,u=.tuple #[.agg #[aW],.T]/\lv w aW t
def NJ t:kY n0 (Ic t):=by
 rintro ρ w w' v v' a hv ⟨aW,rfl,h⟩;obtain⟨b,rfl,k⟩:=Hh hv;cases k with
 |cons h1 k=>cases k with
  |cons h2 k=>cases k;obtain⟨m,rfl,q⟩:=uU h1;cases q with|cons aZ q=>cases q;exact⟨_,by rw[UG h2],Pt t _ _ _ _ _ a aZ h⟩
def l5(n0:Nat)(T:uaa)(N:Nat):bg:=⟨Pp n0 T N,λ_ _ _ hb⟨b,cs,e,h1,h2,h3⟩=>⟨b,cs,e,h1,h2.call hb,h3⟩,λn=>n=n0,λn h=>h▸av4 T N⟩
def Ie(n0:Nat)(t:List a9):bg:=⟨Ib n0 t,λ_ _ _ hb⟨b,aW,e,h1,h2,h3⟩=>⟨b,aW,e,h1,h2.call hb,h3.kept (Fq hb)⟩,λn=>n=n0,λn h=>h▸Ws t⟩
def rW(t:List a9):bg:=⟨Fs t,λ_ _ _ hb⟨aW,e,h⟩=>⟨aW,e,h.kept (Fq hb)⟩,λ_=>True,λ_ _=>NP t⟩
def Pu(t:List a9):bg:=⟨Ad t,λ_ _ _ hb h=>h.keeps (bp.cy hb),λ_=>True,λ_ _=>av5 t⟩
def Pv:bg:=⟨Ae,λ_ _ _ hb h=>h.keeps (bp.cy hb),λ_=>True,λ_ _=>av6⟩
def Li(N:Nat)(l:g7):bg:=⟨Wr N l,λ_ _ _ hb⟨g,c,v,e,h1,h2⟩=>⟨g,c,v,e,bp.cy hb _ _ _ h1,h2.mono nf (bp.cy hb)⟩,λ_=>True,λ_ _=>av_ N l⟩
def Ft(t:List a9):bg:=⟨Af t,λ_ _ _ hb⟨aW,e,h⟩=>⟨aW,e,h.kept (Fq hb)⟩,λ_=>True,λ_ _=>awa t⟩
def Pw(t:List a9):bg:=⟨Ic t,λ_ _ _ hb⟨aW,e,h⟩=>⟨aW,e,h.kept (Fq hb)⟩,λ_=>True,λ_ _=>NJ t⟩
def Lj(rs:List cP):bg:=⟨HZ rs,λ_ _ _ hb⟨aW,e,h⟩=>⟨aW,e,h.mono zb (bp.cy hb)⟩,λ_=>True,λ_ _=>RO rs⟩
def If:bg:=⟨eO sV,uV.eq _,λ_=>True,λ_ _ _ _ _ _ _ _ hv h=>by cases h;exact Wc hv⟩
def pf.kept{T w w'}(h:pf T w w')(f:¬rG T):iN rG w w':=⟨h.1,λb c e z a d=>by
 obtain⟨g,h1,-,h2⟩:=h.2 b c e z a;grind⟩
def pf.box{T T' w w'}(h:pf T w w'){b cs}(c:ag w b cs T'):∃a,ag w' b a T'/\a.size=cs.size/\(T'≠T->a=cs):=h.2 b cs T' _ c
theorem pf.set{T w b cs}(d:ag w b cs T)o v:pf T w (w.setCell ⟨b,o,none⟩ v):=⟨BB,λf c e z a=>by
 by_cases h:f=b
 .subst h;rw[show w.heap[f]?=some (.cells cs T)from d]at a;cases a;exact⟨_,d.set o v,AS,λh=>absurd Y h⟩
 .exact⟨c,(vat _ _ _ _ h).trans a,Y,λ_=>Y⟩⟩
theorem pf.trans{T w w' w''}(h:pf T w w')(k:pf T w' w''):pf T w w'':=⟨vad h.1 k.1,λb c e z i=>by
 obtain⟨j,h1,h2,h3⟩:=h.2 b c e z i;obtain⟨a,g,f,d⟩:=k.2 b j e z h1;exact⟨a,g,f.trans h2,λq=>(d q).trans (h3 q)⟩⟩
abbrev Ag(T:uaa):Prop:=T=27\/T=58
def Lk{T}(h:Ag T):¬rG T:=by rcases h with rfl|rfl<;>simp[rG]
section
variable{T T':uaa}{N:Nat}
def Ll:pg T (l5 n0 T' N):=λw w' v h⟨b,cs,e,h1,h2,h3⟩=>by obtain⟨d,c,a,-⟩:=h.box h2;exact⟨b,d,e,h1,c,a.trans h3⟩
def NI{t}(d:T=58):pg T (Ie n0 t):=λw w' v h⟨b,aW,e,h1,h2,h3⟩=>by obtain⟨g,a,f,c⟩:=h.box h2;rw[c AA]at a;exact⟨b,aW,e,h1,a,h3.kept (h.kept (Lk (.inr d)))⟩
def awc(f:T=27):pg T (HY n0):=λw w' v h⟨b,e,h1,h2⟩=>by obtain⟨g,a,d,c⟩:=h.box h2;rw[c AA]at a;exact⟨b,e,h1,a⟩
def NH{t}(a:Ag T):pg T (rW t):=λw w' v h⟨aW,e,h1⟩=>⟨aW,e,h1.kept (h.kept (Lk a))⟩
def awd{t}(a:Ag T):pg T (Ft t):=λw w' v h⟨aW,e,h1⟩=>⟨aW,e,h1.kept (h.kept (Lk a))⟩
def awe{t}(a:Ag T):pg T (Pw t):=λw w' v h⟨aW,e,h1⟩=>⟨aW,e,h1.kept (h.kept (Lk a))⟩
def Ny{o:Oper}{x y:uam}{ev:uah}{w:aR}{t:List a9}(e:o.op=.store 27 x y)(g:Pp n0 27 1 w (ev x))(f:Fs t w (ev y)):∃w',(execOp ev o).run vfc w=.ok .skip w'/\pf 27 w w'/\Below n0 w w'/\Ib n0 t w' (ev x):=by
 obtain⟨b,cs,e1,hn,c,hs⟩:=g;obtain⟨aW,e2,a⟩:=f;obtain⟨⟨i,h,rfl,-,-⟩,-⟩:=id a;obtain⟨q,rfl⟩:∃q,cs=#[q]:=by obtain⟨l⟩:=cs;match l,hs with| [q],_=>grind
 have d:=pf.set c 0 (.slice i t.length h);refine⟨_,?_,d,(vaa n0 w).setCell (p:=⟨b,0,none⟩) hn _,b,_,e1,hn,c.set 0 _,a.kept (d.kept (Lk Jv))⟩;obtain⟨j,gG,fx⟩:=c.all;clear a d c;cases o;simp only at e;subst e;go_simp
def Wt{o:Oper}{x y:uam}{ev:uah}{w:aR}(d:o.op=.store 58 x y)(f:Pp n0 58 2 w (ev x))(e:ev y=sV):∃w',(execOp ev o).run vfc w=.ok .skip w'/\pf 58 w w'/\Below n0 w w'/\Wb n0 w' (ev x):=by
 obtain⟨b,cs,e1,hn,a,hs⟩:=f;obtain⟨q,r,rfl⟩:∃q r,cs=#[q,r]:=by obtain⟨l⟩:=cs;match l,hs with| [q,r],_=>grind
 have c:=a.set 0 (.I 0);refine⟨_,?_,(pf.set a 0 (.I 0)).trans (pf.set c 1 (.N)),((vaa n0 w).setCell (p:=⟨b,0,none⟩) hn _).setCell (p:=⟨b,1,none⟩) hn _,b,e1,hn,c.set 1 _⟩;obtain⟨g,gG,fx⟩:=a.all;clear c a;unfold sV at e;cases o;simp only at d;subst d;go_simp
end
end
section
open e9
variable{O:gW}
@[simp] theorem ZP:dc true 16:=vfb func16
@[simp] theorem ZO:dc true 17:=vfb func17
theorem awz(W af:Nat)(h1:0<W)(h2:W<=16)(h3:0<af)(h4:af<=64)(w:aR):Calls vfc 16 #[.agg #[.I W,.I af]] w λe w'=>e=.returned (.T)/\c6 w w':=by
 have d:(1:Int)<=(W:Int):=AQ;have c:(W:Int)<=16:=AQ;have b:(1:Int)<=(af:Int):=AQ;have a:(af:Int)<=64:=AQ;go_enter (vez func16),ntmps16
 go_wp2
 go_ret
 exact⟨Y,(vaa _ _).alloc JR _⟩
@[simp] theorem awA:dc true 20:=vfb func20
@[simp] theorem awB:dc true 19:=vfb func19
theorem awC:dc true 28:=cR (bb (upd:=true) Tryz.func28 AD) AD
def awD(a:dX)(w:aR):Sem.run vfc (callFunc 27 a) w=.ok (.enter 27 a) w:=cR (bb (upd:=true) Tryz.func27 AD) AD a w
def awE(ca:uag)(a cc:Nat)(w:aR):Calls vfc 20 #[.slice ca a cc] w λe w'=>∃b,e=.returned (.func (.func 28) #[] #[.P b 0])/\w'.cell? (.a b 0)=some (.slice ca a cc)/\c6 w w':=by
 go_enter (vez func20),ntmps20
 go_wp2
 go_ret
 exact⟨_,Y,n2 (vbb w _) Y Y,(vaa _ w).alloc JR _⟩
def awF(g:Nat)(lb:dX)(w:aR):Calls vfc 19 #[.func (.func g) #[] lb,.I 0,.I 9223372036854775807] w λe w'=>∃b1 b a,e=.returned (.func (.func 27) #[] #[.P b1 0,.P b 0,.P a 0])/\w'.cell? (.a b1 0)=some (.func (.func g) #[] lb)/\w'.cell? (.a b 0)=some (.I 0)/\w'.cell? (.a a 0)=some (.I 9223372036854775807)/\c6 w w':=by
 go_enter (vez func19),ntmps19
 go_wp2
 go_ret
 refine⟨_,_,_,Y,x_ (x_ (n2 (vbb w _) Y Y) _) _,?_,?_,(((vaa _ w).alloc JR _).alloc AS _).alloc BA _⟩
 .grind[x_,World.alloc_heap_new,World.size_alloc,n2]
 grind[World.alloc_heap_new,World.size_alloc,n2]
def Fy(N:Nat)(l:g7):bg:=⟨λw u=>∃x,u=.tuple #[x,.I 0,.I 0]/\Wr N l w x,λ_ _ _ hb⟨x,e,h⟩=>⟨x,e,(Li N l).jS _ _ _ hb h⟩,λ_=>False,λ_ h=>h.elim⟩
def awG(l:g7):bg:=⟨λw v=>hJ w v l,λ_ _ _ hb h=>h.mono nf (bp.cy hb),λ_=>False,λ_ h=>h.elim⟩
def WE(rs:List cP):bg:=⟨λw v=>ko w v rs,λ_ _ _ hb h=>h.mono zb (bp.cy hb),λ_=>False,λ_ h=>h.elim⟩
def Mc(rs:List cP)(w:aR)(v:Value):Prop:=∃b x,v=.func (.func 28) #[] #[.P b 0]/\w.cell? (.a b 0)=some x/\ko w x rs
def L8(rs:List cP):bg:=⟨Mc rs,λ_ _ _ hb⟨b,x,e,h1,h2⟩=>⟨b,x,e,bp.cy hb _ _ _ h1,h2.mono zb (bp.cy hb)⟩,λ_=>False,λ_ h=>h.elim⟩
def awH(rs:List cP):bg:=⟨λw v=>∃b1 b2 bH x,v=.func (.func 27) #[] #[.P b1 0,.P b2 0,.P bH 0]/\w.cell? (.a b1 0)=some x/\w.cell? (.a b2 0)=some (.I 0)/\w.cell? (.a bH 0)=some (.I 9223372036854775807)/\Mc rs w x,λ_ _ _ hb⟨b1,b2,bH,x,e,h1,h2,h3,h⟩=>⟨b1,b2,bH,x,e,bp.cy hb _ _ _ h1,bp.cy hb _ _ _ h2,bp.cy hb _ _ _ h3,(L8 rs).jS _ _ _ hb h⟩,λ_=>False,λ_ h=>h.elim⟩
section
variable{N:Nat}{K:b6}{o o2:Oper}{F:bg}{x y:uam}
def L5(a:o.op=.alloc 58)(ev:uah)(w:aR):(execOp ev o).run vfc w=.ok (.value (.P w.heap.size 0)) (w.alloc (.cells #[.I 0,.N] 58)):=by cases o;simp only at a;subst a;go_simp
def awI(a:o.op=.alloc 27)(ev:uah)(w:aR):(execOp ev o).run vfc w=.ok (.value (.P w.heap.size 0)) (w.alloc (.cells #[.N] 27)):=by cases o;simp only at a;subst a;go_simp
def WF{B}(b:o.op=.alloc 27)a w(c:B<=w.heap.size):Hi vfc o (l5 B 27 1) a w:=.inl ⟨_,_,awI b _ _,⟨_,_,Y,c,ag.new _ _ _,Y⟩,(vaa _ w).alloc (vac _) _⟩
def L1{B}(b:o.op=.alloc 58)a w(c:B<=w.heap.size):Hi vfc o (l5 B 58 2) a w:=.inl ⟨_,_,L5 b _ _,⟨_,_,Y,c,ag.new _ _ _,Y⟩,(vaa _ w).alloc (vac _) _⟩
def WG{s B}(b:o.op=.alloc 27)(hs:K s=some (BD B F)):bU vfc N K o (l5 B 27 1):=λa w hk=>by obtain⟨v,-,c,-⟩:=hk.has s _ hs;exact WF b a w c
def Lq{s B}(b:o.op=.alloc 58)(hs:K s=some (BD B F)):bU vfc N K o (l5 B 58 2):=λa w hk=>by obtain⟨v,-,c,-⟩:=hk.has s _ hs;exact L1 b a w c
def awJ{m n}(a:o.op=.build 63 #[(0,x),(1,y)])(c:bw K x (bG m))(b:bw K y (bG n)):bU vfc N K o (mZ m n):=sR c b λev w e1 e2=>by have e1:ev x=.I m:=e1;have e2:ev y=.I n:=e2;refine⟨.agg #[.I m,.I n],w,?_,Y,vaa _ _⟩;cases o;simp only at a;subst a;go_simp
def awK{ops:fF}{i d s:Nat}{Q:uao}{rest:uac}{a:Act}{w:aR}{m n:Int}(h1:ops[i]?=some o)(h2:ops[i+1]?=some o2)(c:o.op=.alloc 63)(b:o2.op=.store 63 (.tmp d) (.tmp s))(h:K s=some (mZ m n))(hk:ak N K a w)(hd:o.dst=some d)(f:o2.dst=none)(g1:o.guard=none)(j:o2.guard=none)(a5:d<N)(p:d≠s)(k:∀a' w1,ak N (up K d (ji x9 (m,n))) a' w1->a'.defers=a.defers->c6 w w1->wpOps vfc ops Q rest a' w1):wpOps vfc ops Q (i::(i+1)::rest) a w:=by
 obtain⟨v,e1,rfl⟩:=hk.has s _ h;have e:c6 w (w.alloc (.cells #[.I m,.I n] 63)):=(vaa _ w).alloc JR _;have bO:=ag.new w #[.I m,.I n] 63;refine VX (F:=ji x9 (m,n)) (z7:=w.alloc (.cells #[.I 0,.I 0] 63)) h1 h2 g1 j hd f a5 p hk e1 (λev=>?_) (λev aZ a3=>?_) e ⟨w.heap.size,0,Y,bO.rules.1 _,bO.rules.1 _⟩ λa' l g=>k a' _ l g e
 .cases o;simp only at c;subst c;go_simp
 .cases o2;simp only at b;subst b;go_simp
def awL{n l}(a:o.op=.extract x 0)(b:bw K x (Fy n l)):bU vfc N K o (Li n l):=fe b λev w h=>by obtain⟨v,e,h⟩:=h;refine⟨v,w,?_,h,vaa _ _⟩;clear h;cases o;simp only at a;subst a;go_simp
def Qx{n k l}(a:o.op=.extract x k)(b:bw K x (Fy n l))(hk:k=1\/k=2):bU vfc N K o (bG 0):=fe b λev w h=>by obtain⟨v,e,h⟩:=h;refine⟨.I 0,w,?_,Y,vaa _ _⟩;clear h;cases o;simp only at a;subst a;rcases hk with rfl|rfl<;>go_simp
def awM{rs}(a:o.op=.extract x 0)(b:bw K x (Lj rs)):bU vfc N K o (WE rs):=fe b λev w h=>by obtain⟨v,e,h⟩:=h;refine⟨v,w,?_,h,vaa _ _⟩;clear h;cases o;simp only at a;subst a;go_simp
def awN{rs}(a:o.op=.extract x 1)(b:bw K x (Lj rs)):bU vfc N K o (bG 0):=fe b λev w h=>by obtain⟨v,e,h⟩:=h;refine⟨.I 0,w,?_,Y,vaa _ _⟩;clear h;cases o;simp only at a;subst a;go_simp
def awO{rs}(a:o.op=.extract x 2)(b:bw K x (Lj rs)):bU vfc N K o If:=fe b λev w h=>by obtain⟨v,e,h⟩:=h;refine⟨sV,w,?_,Y,vaa _ _⟩;clear h;cases o;simp only at a;subst a;go_simp
def Qw{m:Int}{T':uaa}(a:o.op=.binOp .neq 56 x y T')(c:bw K x (bG m))(b:bw K y (bG m)):bU vfc N K o (dt false):=z6 c b (λ_=>Y) λev w e1 e2=>by cases o;simp only at a;subst a;go_simp
def Qc(l:g7):bg:=⟨λw v=>∃g k x,v=.P g k/\w.cell? (.a g k)=some x/\hJ w x l,λ_ _ _ hb⟨g,k,x,e,h1,h2⟩=>⟨g,k,x,e,bp.cy hb _ _ _ h1,h2.mono nf (bp.cy hb)⟩,λ_=>False,λ_ h=>h.elim⟩
def awP{n l}(a:o.op=.indexAddr 64 x y)(d:bw K x (Li n l))(b:bw K y (bG ((n-1:Nat):Int)))(hn:0<n):bU vfc N K o (Qc l):=sR d b λev w h e2=>by obtain⟨g,c,v,e1,h1,h2⟩:=h;have e2:ev y=.I ((n-1:Nat):Int):=e2;have e:((n-1:Nat):Int)<(n:Int):=AQ;refine⟨.P g (n-1),w,?_,⟨g,n-1,v,Y,h1,h2⟩,vaa _ _⟩;clear h2;cases o;simp only at a;subst a;go_simp
def awQ{l}(a:o.op=.load 79 x)(b:bw K x (Qc l)):bU vfc N K o (awG l):=fe b λev w h=>by obtain⟨g,k,v,e,h1,h2⟩:=h;refine⟨v,w,?_,h2,vaa _ _⟩;clear h2;cases o;simp only at a;subst a;go_simp
def awR(a:o.op=.build 58 #[]):bU vfc N K o If:=RG a
def awS{n:Nat}{l:g7}{T:uaa}(a:o.op=.call {callee:=.builtin .len,args:=#[x],argTypes:=#[T]})(b:bw K x (Li n l))(d:T=64):bU vfc N K o (bG n):=fe b λev w h=>by obtain⟨g,c,v,e,-,-⟩:=h;subst d;refine⟨.I n,w,?_,Y,vaa _ _⟩;cases o;simp only at a;subst a;go_simp
end
end
variable{bB cf:Value}
section
open e9
variable{O:gW}
def P2{F:Func}{ops:fF}{n0 N i xa sa xi BQ sb:Nat}{y:uam}{K:b6}{a:Act}{w:aR}{ks:uab}{c:List a9}(hk:ak N K a w)(hd:a.defers=[])(e:K xa=some (l5 n0 27 1)/\K sa=some (rW c)/\K BQ=some (l5 n0 58 2)/\K sb=some If)(g:bw K y (bG 0))(H:∃o1 o2 o3,(ops[i]?=some o1/\o1.op=.store 27 (.tmp xa) (.tmp sa)/\o1.guard=none/\o1.dst=none)/\(ops[i+1]?=some o2/\o2.op=.assign y/\o2.guard=none/\o2.dst=some xi)/\ops[i+2]?=some o3/\o3.op=.store 58 (.tmp BQ) (.tmp sb)/\o3.guard=none/\o3.dst=none)(d:xi<N/\xi≠xa/\xi≠BQ/\xi≠sb)(s:∀(tmps:dX)(w:aR) ba b aW,tmps[xa]?=some (.P ba 0)->tmps[xi]?=some (.I 0)->tmps[BQ]?=some (.P b 0)->ag w ba #[aW] 27->ag w b #[.I 0,.N] 58->(results F tmps).run vfc w=.ok (.tuple #[.agg #[aW],.I 0,sV]) w):
 tM vfc F (.R ops (List.range' i 3):: .code .ret::ks) (λv w1=>Af c w1 v/\Below n0 w w1) a w:=by
 obtain⟨o1,o2,o3,⟨x,j2,u,Ah⟩,⟨aZ,a3,q3,q4⟩,r1,r,q,I⟩:=H;obtain⟨l,a1,E⟩:=hk.has xa _ e.1;obtain⟨vs,b1,D⟩:=hk.has sa _ e.2.1;obtain⟨m,c1,bt⟩:=hk.has BQ _ e.2.2.1;obtain⟨j,d1,C⟩:=hk.has sb _ e.2.2.2;have g:a.eval y=.I 0:=hk.ev g;obtain⟨w1,p,o,n,k⟩:=Ny (n0:=n0) (t:=c) (ev:=a.eval) j2 (by rw[ej a1];exact E) (by rw[ej b1];exact D);have f1:(a.put (some xi) (.I 0)).tmps[xa]?=some l:=(hQ d.2.1).trans a1;have h:(a.put (some xi) (.I 0)).tmps[BQ]?=some m:=(hQ d.2.2.1).trans c1;have f3:(a.put (some xi) (.I 0)).tmps[sb]?=some j:=(hQ d.2.2.2).trans d1;obtain⟨f,u1,u2,u3,u4⟩:=Wt (n0:=n0) (w:=w1) (ev:=(a.put (some xi) (.I 0)).eval) r (by rw[ej h];exact Ll w w1 m o bt) (by rw[ej f3];exact C);rw[ej a1]at k;rw[ej h]at u4;have t5:=NI (n0:=n0) (t:=c) Y w1 f l u2 k;obtain⟨ba,aW,rfl,-,B,A⟩:=t5;obtain⟨b,rfl,-,z⟩:=u4;refine DH (ks':=.code .ret::ks) (DJ (mS (R:=λa' w'=>a=a'/\w1=w') (Bo x u Ah p ⟨Y,Y⟩) ?_));rintro _ _ ⟨rfl,rfl⟩;refine mS (R:=λa' w'=>a'=a.put (some xi) (.I 0)/\w1=w') (nR aZ q3 q4 (K7 a3 g _) ⟨Y,Y⟩) ?_;rintro _ _ ⟨rfl,rfl⟩;refine mS (R:=λa' w'=>a'=a.put (some xi) (.I 0)/\f=w') (Bo r1 q I u1 ⟨Y,Y⟩) ?_;rintro _ _ ⟨rfl,rfl⟩;exact vW (lV (Og ((put_defers _ _ _).trans hd) (s _ f ba b aW f1 (nw (by rw[hk.size];exact d.1)) h B z) ⟨⟨aW,Y,A⟩,n.trans (u3)⟩))
def Fz(F:Func):Code:=.seq (.seq (.region 8 (az F 8) false) (.cond (.tmp 60) (.seq (.region 9 (az F 9) true) .ret) .skip)) (.seq (.region 10 (az F 10) false) (.seq (.region 11 (az F 11) false) .ret))
def WH(F:Func):Code:=.seq (.region 0 (az F 0) false) (.seq (.region 1 (az F 1) false) (.seq (.seq (.region 2 (az F 2) false) (.cond (.tmp 35) (.seq (.region 3 (az F 3) false) .ret) .skip)) (.seq (.region 4 (az F 4) false) (.seq (.seq (.region 5 (az F 5) false) (.cond (.tmp 46) (.seq (.region 6 (az F 6) false) .ret) .skip)) (.seq (.region 7 (az F 7) false) (Fz F))))))
theorem P0:f15.body=some (WH f15):=by kernel_rfl
def Px:gE prog true f15=true:=by decide+kernel
def awU:∃o ats,(az f15 7)[3]?=some o/\o.op=.call {callee:=.value (.func 18),args:=#[.tmp 52,.tmp 53,.tmp 54],argTypes:=ats}/\o.guard=none/\o.dst=some 55:=⟨_,_,Y,Y,Y,Y⟩
def awV:∃o1 o2 o3,((az f15 11)[9]?=some o1/\o1.op=.store 27 (.tmp 12) (.tmp 76)/\o1.guard=none/\o1.dst=none)/\((az f15 11)[9+1]?=some o2/\o2.op=.assign (.const (.I 0))/\o2.guard=none/\o2.dst=some 13)/\(az f15 11)[9+2]?=some o3/\o3.op=.store 58 (.tmp 14) (.tmp 77)/\o3.guard=none/\o3.dst=none:=⟨_,_,_,⟨Y,Y,Y,Y⟩,⟨Y,Y,Y,Y⟩,Y,Y,Y,Y⟩
section
variable{ii ij:bg}{n0 gZ:Nat}{l:g7}{W af:Nat}{rs:List cP}{a:Act}{w:aR}
abbrev PA(ii ij:bg)(n0 gZ:Nat)(l:g7)(W af:Nat):List (Nat×bg):=[(4,bG 0),(5,bG 9223372036854775807),(12,l5 n0 27 1),(14,l5 n0 58 2),(16,Li gZ l),(52,ii),(53,ij),(54,mZ W af)]
def awW(L:∀w bB cf,ii.R w bB->ij.R w cf->Calls vfc 17 #[bB,cf] w λe w'=>∃v,e=.returned v/\(Fy gZ l).R w' v/\c6 w w')(h1:0<W)(h2:W<=16)(h3:0<af)(h4:af<=64)(hd:a.defers=[])(hn:n0<=w.heap.size)(hk:ak 78 (bh [(0,ii),(1,ij),(2,bG W),(3,bG af),(4,bG 0),(5,bG 9223372036854775807),(77,mT)]) a w):
 bI vfc [.code (WH f15)] (.R (az f15 7) (3::List.range' 4 8)::[.code (Fz f15)]) (λa1 w1=>a1.defers=[]/\ak 78 (bh (PA ii ij n0 gZ l W af)) a1 w1/\Below n0 w w1) a w:=by
 obtain⟨u,b,x⟩:=hk.has 77 _ Y;have hk:=en (F:=BD n0 mT) b ⟨hn,x⟩ hk;unfold WH;refine bC ?_;rw[fE (az f15 0)];refine dl hk (ap Y (WG (s:=77) Y Y)<|ap Y (dO (F:=bG 0) Y Jg)<|ap Y (Lq (s:=77) Y Y)<|rfl) λa1 w1 r d1 b1=>bC ?_;rw[fE (az f15 1)];refine O6 (m:=3) r (ap Y Jc<|ap Y Jc<|ap Y (awJ Y Y Y)<|rfl) AF λU O p I K=>awK Y Y Y Y Y p Y Y Y Y AF AF λT N o H J=>vW (bC (bC ?_));rw[fE (az f15 2)];refine dl o (ap Y (K2 Y Y)<|ap Y (O5 (F:=dt true) Y ZP Y λv w h=>by cases h;exact(awz W af h1 h2 h3 h4 w).mono λe w'⟨q,y⟩=>⟨_,q,Y,y⟩)<|ap Y KN<|ap Y Jc<|bP Y Jc<|bP Y (KZ (n:=0) Y Y Jg AF AF)<|ap Y (iY (c:=false) Y Y Y)<|ap Y Jc<|bP Y Jc<|bP Y (KZ (n:=0) Y Y Jg AF AF)<|ap Y (iY (c:=false) Y Y Y)<|rfl) λS M d E bV=>gh (t:=false) (Fj d Y Y) (nv (bC ?_));rw[fE (az f15 4)];refine dl d (ap Y Jc<|ap Y Jc<|ap Y (VW (F:=Fy gZ l) Y ZO Y Y λv u w r1 i=>L w v u r1 i)<|ap Y Jc<|ap Y (awL Y Y)<|ap Y (Qx Y Y AF)<|ap Y (Qx Y Y AF)<|ap Y Jt<|ap Y Jt<|ap Y Jt<|rfl) λfO iK z D bS=>bC (bC ?_);rw[fE (az f15 5)];refine dl z (ap Y Jc<|ap Y (Qw Y Y Jg)<|rfl) λQ R g C A=>gh (t:=false) (Fj g Y Y) (nv (bC (uR ?_)));rw[fE (az f15 7)];refine(show bI _ (.R _ (List.range' 0 (3+9))::_) _ _ _ _ from vd g (ap Y Jc<|ap Y Jc<|ap Y (K2 Y Y)<|rfl) AF λP V k B j=>lV ⟨B.trans (C.trans (D.trans (E.trans (H.trans (I.trans (d1.trans hd)))))),k.aT ⟨Y,Y,Y,Y,Y,Y,Y,Y,NE⟩,?_⟩);have e2:=b1.trans (K.mono b1.size);have e3:=e2.trans (J.mono e2.size);have e4:=e3.trans (bV.mono e3.size);have eE:=e4.trans (bS.mono e4.size);have f:=eE.trans (A.mono eE.size);exact(f.trans (j.mono f.size)).mono hn
def awY(Gy:0<gZ/\gZ<=1000)(hl:l.length<=1000)(La:rs.length<=1000)(hlen:∀r∈rs,r.2.length=l.length)(Ih:∀r∈rs,∀d∈r.2,d.text.size<=1000000)(hd:a.defers=[])(hn:n0<=w.heap.size)(hk:ak 78 (up (bh (PA ii ij n0 gZ l W af)) 55 (Lj rs)) a w):
 tM vfc f15 (.R (az f15 7) (List.range' 4 8)::[.code (Fz f15)]) (λv w1=>Af (mP l (kd rs) rs.length) w1 v/\Below n0 w w1) a w:=by
 have key:bI vfc (.R (az f15 7) (List.range' 4 8)::[.code (Fz f15)]) [.R (az f15 11) (List.range' 9 3),.code .ret] (λa1 w1=>a1.defers=[]/\ak 78 (bh [(12,l5 n0 27 1),(14,l5 n0 58 2),(76,rW (mP l (kd rs) rs.length)),(77,If)]) a1 w1/\Below n0 w w1) a w:=by
  rw[fE (az f15 7)];refine(show bI _ (.R _ (List.range' 4 (4+4))::_) _ _ _ _ from vd hk (ap Y Jc<|ap Y (awM Y Y)<|ap Y (awN Y Y)<|ap Y (awO Y Y)<|rfl) AF λa1 w1 j d1 b1=>DJ ?_);obtain⟨v56,q,H⟩:=j.has 56 _ Y;obtain⟨v57,E,D⟩:=j.has 57 _ Y;obtain⟨v58,C,B⟩:=j.has 58 _ Y;obtain⟨o,L,T,Ul,A⟩:∃o,(az f15 7)[11]?=some o/\o.op=.store 58 (.tmp 20) (.tmp 58)/\o.guard=none/\o.dst=none:=⟨_,Y,Y,Y,Y⟩;rw[fE (az f15 7)]at L;refine mS (R:=λa' w'=>a'=a1.put (some 20) (.P w1.heap.size 0)/\w'=w1.alloc (.cells #[.I 0,.N] 58)) (nR Y Y Y (L5 Y _ _) ⟨Y,Y⟩) ?_;rintro a6 g ⟨rfl,e2⟩;refine mS (R:=λa' w'=>a'=(a1.put (some 20) (.P w1.heap.size 0)).put (some 19) v56/\g=w') (nR (v:=v56) Y Y Y (K7 Y (ej ((hQ AF).trans q)) _) ⟨Y,Y⟩) ?_;rintro _ _ ⟨rfl,rfl⟩;refine mS (R:=λa' w'=>a'=((a1.put (some 20) (.P w1.heap.size 0)).put (some 19) v56).put (some 17) v57/\g=w') (nR (v:=v57) Y Y Y (K7 Y (ej ((hQ AF).trans ((hQ AF).trans E))) _) ⟨Y,Y⟩) ?_;rintro k _ ⟨e4,rfl⟩;have FA:k.tmps[20]?=some (.P w1.heap.size 0):=by rw[e4];exact(hQ AF).trans ((hQ AF).trans (nw (by rw[j.size];decide)))
  have z:k.tmps[58]?=some v58:=by rw[e4];exact(hQ AF).trans ((hQ AF).trans ((hQ AF).trans C))
  obtain⟨J,gQ,-,fx,-⟩:=Wt (n0:=w1.heap.size) (ev:=k.eval) (w:=g) T (by rw[ej FA,e2];exact⟨_,_,Y,vac _,ag.new _ _ _,Y⟩) (by rw[ej z];exact B);have c:c6 w1 J:=((vaa _ w1).alloc JR _).trans (e2▸fx);refine mS (R:=λa' w'=>k=a'/\J=w') (Bo L Ul A gQ ⟨Y,Y⟩) ?_;rintro _ _ ⟨rfl,rfl⟩;have K:=((j.put (s:=20) (F:=auz) (v:=.P w1.heap.size 0) AF c trivial).put (s:=19) (F:=WE rs) AF (vaa _ _) ((WE rs).jS _ _ _ c H)).put (s:=17) (F:=bG 0) AF (vaa _ _) D;rw[<-e4]at K;have d4:k.defers=a.defers:=by rw[e4,put_defers,put_defers,put_defers];exact d1
  refine vW ?_;unfold Fz;refine bC (bC ?_);rw[fE (az f15 8)];refine dl K (ap Y Jc<|ap Y (Qw Y Y Jg)<|rfl) λfO iK O d5 bS=>gh (t:=false) (Fj O Y Y) (nv (bC ?_));rw[fE (az f15 10)];refine dl O (ap Y Jc<|ap Y (O5 (F:=L8 rs) Y awA Y λv w r1=>by
   obtain⟨ca,cc,rfl,-,-⟩:=id r1;exact(awE _ _ _ w).mono λe w'⟨b,h1,h2,h3⟩=>⟨_,h1,⟨b,_,Y,h2,bo.mono zb (bp.cy h3) r1⟩,h3⟩)<|ap Y Jc<|ap Y Jc<|ap Y (VV (F:=awH rs) Y awB λa w hk=>by
   obtain⟨v,aZ,b,x,rfl,r1,m⟩:=hk.has 65 _ Y;obtain⟨v2,a3,rfl⟩:=hk.has 66 _ Y;obtain⟨v3,q3,rfl⟩:=hk.has 67 _ Y;rw[show(#[Operand.tmp 65,.tmp 66,.tmp 67].map a.eval)=#[.func (.func 28) #[] #[.P b 0],.I 0,.I 9223372036854775807]from by simp[ej aZ,ej a3,ej q3]];exact(awF _ _ w).mono λe w'⟨b1,p,c,h1,h2,h3,h4,I⟩=>⟨_,h1,⟨b1,p,c,_,Y,h2,h3,h4,b,x,Y,bp.cy I _ _ _ r1,bo.mono zb (bp.cy I) m⟩,I⟩)<|ap Y Jt<|rfl) λkK ip hY d6 eW=>bC (uR ?_)
  rw[fE (az f15 11)];have Lf:((gZ:Int)-1)=((gZ-1:Nat):Int):=AQ;refine(show bI _ (.R _ (List.range' 0 (9+3))::_) _ _ _ _ from vd hY (ap Y Jc<|ap Y Jc<|ap Y (awS Y Y Y)<|ap Y (WL (n:=1) Y Y Jg Cj AF)<|ap Y (awP Y Y (by rw[<-Lf];rfl) Gy.1)<|ap Y (awQ Y Y)<|ap Y Jc<|ap Y (VW (F:=rW (mP l (kd rs) rs.length)) Y awf Y Y λv u w r1 m=>by
   obtain⟨b1,p,c,x,rfl,X,j2,V,b,y,rfl,Ah,Ld⟩:=m;exact(awj l v rs w r1 hl La hlen Ih awD λn=>apV b1 p c w (λn=>apR rs y b w Ld AQ Ah) awC
    (λt W x h=>by obtain⟨_,P,pc,S,Q,rfl,-,-⟩:=h;grind) (λt W W' x hk h=>by
     obtain⟨h0,P,pc,S,Q,rfl,h1,h2⟩:=h;exact⟨h0,P,pc,S,Q,Y,h1,λ_ _ _ hc=>Dr hk (h2 _ _ _ hc)⟩) AQ X j2 V).mono λe w'⟨aW,h1,h2,h3⟩=>⟨_,h1,⟨aW,Y,h2⟩,h3⟩)<|ap Y (awR Y)<|rfl) AF λrE CV Z d7 U=>lV ⟨d7.trans (d6.trans (d5.trans (d4.trans hd))),Z.aT ⟨Y,Y,Y,Y,NE⟩,?_⟩)
  have N:=b1.trans (c.mono b1.size);have M:=N.trans (bS.mono N.size);have jB:=M.trans (eW.mono M.size);exact(jB.trans (U.mono jB.size)).mono hn
 refine DH (ks':=[.R (az f15 11) (List.range' 9 3),.code .ret]) λb cs=>?_;obtain⟨a1,w1,⟨h1,h2,h3⟩,h4⟩:=key b cs;refine⟨a1,w1,λf cs hf=>?_,h4⟩;obtain⟨v,g,fr,⟨aZ,a3⟩,q3,q4⟩:=P2 (F:=f15) (ks:=[]) (i:=9) (xa:=12) (sa:=76) (xi:=13) (BQ:=14) (sb:=77) (y:=.const (.I 0)) h2 h1 ⟨Y,Y,Y,Y⟩ Jg awV AF (λtmps w ba xA aW e1 e2 e3 dG d_=>by simp[results,results15,go_sem,sV,e1,e2,e3,dG.rules.1,d_.rules.1]) f cs hf;exact⟨v,g,fr,⟨aZ,h3.trans a3⟩,q3,q4⟩
def aw7{cW}{Fr:bg}(hg:cW.ok=λ_=>True)(q:Fr.ok=λ_=>True){Post M d}(i:∀n,ii.ok n)(h:∀n,ij.ok n)(s:aJ (b7 M) #[bB,cf] #[bB,cf])(k:ii.R w bB)(m:ij.R w cf)(h1:0<W)(h2:W<=16)(h3:0<af)(h4:af<=64)(z:∀w bB cf,ii.R w bB->ij.R w cf->Calls vfc 17 #[bB,cf] w λe w'=>∃v,e=.returned v/\(Fy gZ l).R w' v/\c6 w w')(y:∀M w bB cf,aJ (b7 M) #[bB,cf,.agg #[.I W,.I af]] #[bB,cf,.agg #[.I W,.I af]]->ii.R w bB->ij.R w cf->fZ O prog Post 18 #[bB,cf,.agg #[.I W,.I af]] M w d (λu _ w'=>cW.R w' u/\dy M w w'))(p:∀(n0:Nat) a c,a.defers=[]->n0<=c.heap.size->ak 78 (up (bh (PA ii ij n0 gZ l W af)) 55 cW) a c->tM vfc f15 (.R (az f15 7) (List.range' 4 8)::[.code (Fz f15)]) (λv w1=>Fr.R w1 v/\Below n0 c w1) a c):
 fZ O prog Post 15 #[bB,cf,.I W,.I af,.I 0,.I 9223372036854775807] M w d (λu _ w'=>Fr.R w' u/\dy M w w'):=by
 obtain⟨o,ats,r⟩:=awU;refine SF (N:=78) (l0:=[(0,ii),(1,ij),(2,bG W),(3,bG af),(4,bG 0),(5,bG 9223372036854775807),(77,mT)]) (l1:=PA ii ij w.heap.size gZ l W af) (cW:=cW) (Fr:=Fr) nx func15 Px P0 ?_ ?_ ⟨i _,h _,NE,NE,NE,NE,NE,NE⟩ ⟨NE,NE,Y,Y,NE,i _,h _,NE,NE⟩ (by rw[hg];trivial) (by rw[q];trivial) AD (ks:=[.code (Fz f15)]) AD r AF func18 AB K6 (λa c hd hn hk=>awW z h1 h2 h3 h4 hd hn hk) (λa t w1 Shun A hk g=>?_) (λa c hd hn hk=>p _ a c hd hn hk)
 .exact aJ.append (a:=#[bB,cf]) (b:=#[.I W,.I af,.I 0,.I 9223372036854775807]) s (mw (l:=[.I W,.I af,.I 0,.I 9223372036854775807]) λx f=>by
   simp at f;rcases f with rfl|rfl|rfl|rfl<;>exact .int _ _)
 .exact en (v:=bB) KI k<|en (v:=cf) KI m<|en (v:=.I W) KI Y<|en (v:=.I af) KI Y<|en (v:=.I 0) KI Y<|en (v:=.I 9223372036854775807) KI Y<|en (v:=undef) (by simp[f15]) Y<|wL (by simp[f15])
 .obtain⟨v52,aZ,r1⟩:=hk.has 52 _ Y;obtain⟨v53,a3,j⟩:=hk.has 53 _ Y;obtain⟨v54,q3,rfl⟩:=hk.has 54 _ Y;rw[show(#[Operand.tmp 52,.tmp 53,.tmp 54].map a.eval)=#[v52,v53,.agg #[.I W,.I af]]from by simp[ej aZ,ej a3,ej q3]];exact y t w1 v52 v53 (mw (l:=[v52,v53,.agg #[.I W,.I af]]) λx f=>by
   simp only[vaw,vbp,vdf]at f;rcases f with rfl|rfl|rfl
   .exact g.get _ _ _ aZ aZ
   .exact g.get _ _ _ a3 a3
   .exact g.get _ _ _ q3 q3) r1 j
def aw8{Post M d}(c:∀n,ii.ok n)(b:∀n,ij.ok n)(i:aJ (b7 M) #[bB,cf] #[bB,cf])(f:ii.R w bB)(g:ij.R w cf)(h1:0<W)(h2:W<=16)(h3:0<af)(h4:af<=64)(p:0<gZ/\gZ<=1000)(h:l.length<=1000)(m:rs.length<=1000)(hlen:∀r∈rs,r.2.length=l.length)(o:∀r∈rs,∀d∈r.2,d.text.size<=1000000)(k:∀w bB cf,ii.R w bB->ij.R w cf->Calls vfc 17 #[bB,cf] w λe w'=>∃v,e=.returned v/\(Fy gZ l).R w' v/\c6 w w')(j:∀M w bB cf,aJ (b7 M) #[bB,cf,.agg #[.I W,.I af]] #[bB,cf,.agg #[.I W,.I af]]->ii.R w bB->ij.R w cf->fZ O prog Post 18 #[bB,cf,.agg #[.I W,.I af]] M w d (λu _ w'=>HZ rs w' u/\dy M w w')):
 fZ O prog Post 15 #[bB,cf,.I W,.I af,.I 0,.I 9223372036854775807] M w d (λu _ w'=>Af (mP l (kd rs) rs.length) w' u/\dy M w w'):=
 aw7 (cW:=Lj rs) (Fr:=Ft (mP l (kd rs) rs.length)) Y Y c b i f g h1 h2 h3 h4 k j λn0 a q hd hn hk=>awY p h m hlen o hd hn hk
end
end
section
open e9
variable{O:gW}
section
variable{N:Nat}{K:b6}{o:Oper}{x:uam}{t:List a9}
def Pq(a:o.op=.extract x 0)(b:bw K x (Ft t)):bU vfc N K o (rW t):=fe b λev w h=>by obtain⟨v,e,h⟩:=h;refine⟨.agg #[v],w,?_,⟨v,Y,h⟩,vaa _ _⟩;clear h;cases o;simp only at a;subst a;go_simp
def Pn(a:o.op=.extract x 1)(b:bw K x (Ft t)):bU vfc N K o (bG 0):=fe b λev w h=>by obtain⟨v,e,h⟩:=h;refine⟨.I 0,w,?_,Y,vaa _ _⟩;clear h;cases o;simp only at a;subst a;go_simp
def O9(a:o.op=.extract x 2)(b:bw K x (Ft t)):bU vfc N K o If:=fe b λev w h=>by obtain⟨v,e,h⟩:=h;refine⟨sV,w,?_,Y,vaa _ _⟩;clear h;cases o;simp only at a;subst a;go_simp
end
def OR(F:Func):Code:=.seq (.region 0 (az F 0) false) (.seq (.region 1 (az F 1) false) .ret)
theorem OQ:f13.body=some (OR f13):=by kernel_rfl
def aw9:∃o ats,(az f13 1)[4]?=some o/\o.op=.call {callee:=.value (.func 15),args:=#[.tmp 11,.tmp 12,.tmp 13,.tmp 14,.const (.I 0),.const (.I 9223372036854775807)],argTypes:=ats}/\o.guard=none/\o.dst=some 15:=⟨_,_,Y,Y,Y,Y⟩
def aw_:∃o1 o2 o3,((az f13 1)[8]?=some o1/\o1.op=.store 27 (.tmp 8) (.tmp 16)/\o1.guard=none/\o1.dst=none)/\((az f13 1)[8+1]?=some o2/\o2.op=.assign (.tmp 17)/\o2.guard=none/\o2.dst=some 9)/\(az f13 1)[8+2]?=some o3/\o3.op=.store 58 (.tmp 10) (.tmp 18)/\o3.guard=none/\o3.dst=none:=⟨_,_,_,⟨Y,Y,Y,Y⟩,⟨Y,Y,Y,Y⟩,Y,Y,Y,Y⟩
def axa{ii ij Fr}(i:Fr.ok=λ_=>True){W af d:Nat}{w Post M}(g:∀n,ii.ok n)(f:∀n,ij.ok n)(A:aJ (b7 M) #[bB,cf] #[bB,cf])(m:ii.R w bB)(p:ij.R w cf)(E:∀M w bB cf,aJ (b7 M) #[bB,cf] #[bB,cf]->ii.R w bB->ij.R w cf->fZ O prog Post 15 #[bB,cf,.I W,.I af,.I 0,.I 9223372036854775807] M w d (λu _ w'=>Fr.R w' u/\dy M w w'))(q:∀(n0:Nat) a c,a.defers=[]->n0<=c.heap.size->ak 19 (up (bh [(8,l5 n0 27 1),(10,l5 n0 58 2),(11,ii),(12,ij),(13,bG W),(14,bG af)]) 15 Fr) a c->tM vfc f13 (.R (az f13 1) (List.range' 5 6)::[.code .ret]) (λv w1=>Fr.R w1 v/\Below n0 c w1) a c):
 fZ O prog Post 13 #[bB,cf,.I W,.I af] M w d (λu _ w'=>Fr.R w' u/\dy M w w'):=by
 obtain⟨o,ats,z⟩:=aw9;refine SF (N:=19) (rest:=List.range' 5 6) (l0:=[(0,ii),(1,ij),(2,bG W),(3,bG af),(18,mT)]) (l1:=[(8,l5 w.heap.size 27 1),(10,l5 w.heap.size 58 2),(11,ii),(12,ij),(13,bG W),(14,bG af)]) (cW:=Fr) (Fr:=Fr) nx func13 AD OQ ?_ ?_ ⟨g _,f _,NE,NE,NE,NE⟩ ⟨Y,Y,g _,f _,NE,NE,NE⟩ (by rw[i];trivial) (by rw[i];trivial) AD (ks:=[.code .ret]) AD z AF func15 AB P0 (λa c hd hn hk=>?_) (λa C w1 Shun J hk j=>?_) (λa c hd hn hk=>q _ a c hd hn hk)
 .exact aJ.append (a:=#[bB,cf]) (b:=#[.I W,.I af]) A (SU _ _ _)
 .exact en (v:=bB) KI m<|en (v:=cf) KI p<|en (v:=.I W) KI Y<|en (v:=.I af) KI Y<|en (v:=undef) (by simp[f13]) Y<|wL (by simp[f13])
 .obtain⟨u,e,y⟩:=hk.has 18 _ Y;have hk:=en (F:=BD w.heap.size mT) e ⟨hn,y⟩ hk;unfold OR;refine bC ?_;rw[fE (az f13 0)];refine dl hk (ap Y (WG (s:=18) Y Y)<|ap Y (dO (F:=bG 0) Y Jg)<|ap Y (Lq (s:=18) Y Y)<|rfl) λa1 w1 t d1 b1=>bC (uR ?_);rw[fE (az f13 1)];exact(show bI _ (.R _ (List.range' 0 (4+7))::_) _ _ _ _ from vd t (ap Y Jc<|ap Y Jc<|ap Y Jc<|ap Y Jc<|rfl) AF λK H r B D=>lV ⟨B.trans (d1.trans hd),r.aT ⟨Y,Y,Y,Y,Y,Y,NE⟩,(b1.trans (D.mono b1.size)).mono hn⟩)
 .obtain⟨v1,aZ,r1⟩:=hk.has 11 _ Y;obtain⟨v2,a3,k⟩:=hk.has 12 _ Y;obtain⟨v3,q3,rfl⟩:=hk.has 13 _ Y;obtain⟨I,q4,rfl⟩:=hk.has 14 _ Y;rw[show(#[Operand.tmp 11,.tmp 12,.tmp 13,.tmp 14,.const (.I 0),.const (.I 9223372036854775807)].map a.eval)=#[v1,v2,.I W,.I af,.I 0,.I 9223372036854775807]from by simp[Act.eval,aZ,a3,q3,q4]];exact E C w1 v1 v2 (mw (l:=[v1,v2]) λx h=>by
   simp at h;rcases h with rfl|rfl
   .exact j.get _ _ _ aZ aZ
   .exact j.get _ _ _ a3 a3) r1 k
def axc{ii ij:bg}{W af d:Nat}{b w Post M}(g:∀n,ii.ok n)(e:∀n,ij.ok n)(m:aJ (b7 M) #[bB,cf] #[bB,cf])(h:ii.R w bB)(j:ij.R w cf)(q:∀M w bB cf,aJ (b7 M) #[bB,cf] #[bB,cf]->ii.R w bB->ij.R w cf->fZ O prog Post 15 #[bB,cf,.I W,.I af,.I 0,.I 9223372036854775807] M w d (λu _ w'=>Af b w' u/\dy M w w')):
 fZ O prog Post 13 #[bB,cf,.I W,.I af] M w d (λu _ w'=>Af b w' u/\dy M w w'):=by
 refine axa (Fr:=Ft b) Y g e m h j q λn0 a s hd hn hk=>?_;refine DH (ks':=[.R (az f13 1) (List.range' 8 3),.code .ret]) ?_;rw[fE (az f13 1)];refine(show bI _ (.R _ (List.range' 5 (3+3))::_) _ _ _ _ from vd hk (ap Y (Pq Y Y)<|ap Y (Pn Y Y)<|ap Y (O9 Y Y)<|rfl) AF λa1 w1 k d1 b1=>lV λf cs l=>?_);obtain⟨v,c,fr,⟨aZ,a3⟩,q3,q4⟩:=P2 (F:=f13) (ks:=[]) (i:=8) (xa:=8) (sa:=16) (xi:=9) (BQ:=10) (sb:=18) (y:=.tmp 17) k (d1.trans hd) ⟨Y,Y,Y,Y⟩ Y aw_ AF (λtmps w ba r aW e1 e2 e3 p o=>by simp[results,results13,go_sem,sV,e1,e2,e3,p.rules.1,o.rules.1]) f cs l;exact⟨v,c,fr,⟨aZ,(b1.mono hn).trans a3⟩,q3,q4⟩
end
section
open e9
variable{O:gW}
def PY(x y:Int):bg:=mZ x y
def vi(x y:Int):bg:=ji x9 (x,y)
section
variable{N n0:Nat}{K:b6}{o:Oper}{F:bg}{x y:uam}
def axe{m n}(a:o.op=.box 24 x)(b:bw K x (PY m n)):bU vfc N K o (vi m n):=fe b λev w h=>by have h:ev x=.agg #[.I m,.I n]:=h;have c:c6 w (w.alloc (.cells #[.I m,.I n] 24)):=(vaa _ w).alloc JR _;refine⟨.P w.heap.size 0,_,A9,⟨w.heap.size,0,Y,?_,?_⟩,c⟩<;>exact n2 (vbb w _) Y Y
def axf{m n}(a:o.op=.fieldAddr 24 x 0)(c:bw K x (vi m n)):bU vfc N K o (ji HT m):=fe c λev w h=>by obtain⟨b,f,e,h0,h1⟩:=h;exact⟨.P b f,w,A9,⟨b,f,Y,h0⟩,vaa _ _⟩
def axg{m n}(a:o.op=.fieldAddr 24 x 1)(c:bw K x (vi m n)):bU vfc N K o (ji HT n):=fe c λev w h=>by obtain⟨b,f,e,h0,h1⟩:=h;exact⟨.P b (f+1),w,A9,⟨b,f+1,Y,h1⟩,vaa _ _⟩
def OP{c n:Int}{ats:uaq}(f:o.op=.call {callee:=.value (.func 14),args:=#[x,y],argTypes:=ats})(d:bw K x (bG c))(b:bw K y (bG n))(g:ek c)(hn:0<n/\n<=1000000):bU vfc N K o (bG (oE c n)):=VW f (λa w=>aup a w) d b λv v' w h i=>by cases h;cases i;refine(KV c n g hn w).mono ?_;rintro e w' ⟨rfl,rfl⟩;exact⟨_,Y,Y,vaa _ _⟩
def OO{s v:Nat}{t}(c:o.op=.store 27 (.tmp s) (.tmp v))(hs:K s=some (l5 n0 27 1))(hv:K v=some (rW t))(hg:o.guard=none:=by rfl)(hd:o.dst=none:=by rfl):O7 vfc N n0 K o (27,s) (Ie n0 t):=⟨hg,hd,λa w hk=>by
 obtain⟨x,aZ,r1⟩:=hk.has s _ hs;obtain⟨y,a3,b⟩:=hk.has v _ hv;obtain⟨w',h1,h2,h3,h4⟩:=Ny (n0:=n0) (t:=t) (ev:=a.eval) (w:=w) c (by rw[ej aZ];exact r1) (by rw[ej a3];exact b);rw[ej aZ]at h4;exact⟨w',h1,h2,h3,x,aZ,h4⟩⟩
def axh{s v:Nat}(c:o.op=.store 58 (.tmp s) (.tmp v))(hs:K s=some (l5 n0 58 2))(hv:K v=some If)(hg:o.guard=none:=by rfl)(hd:o.dst=none:=by rfl):O7 vfc N n0 K o (58,s) (HY n0):=⟨hg,hd,λa w hk=>by
 obtain⟨x,aZ,r1⟩:=hk.has s _ hs;obtain⟨y,a3,b⟩:=hk.has v _ hv;obtain⟨w',h1,h2,h3,h4⟩:=Wt (n0:=n0) (ev:=a.eval) (w:=w) c (by rw[ej aZ];exact r1) (by rw[ej a3];exact b);rw[ej aZ]at h4;exact⟨w',h1,h2,h3,x,aZ,h4⟩⟩
end
def OL(F:Func):Code:=.seq (.region 0 (az F 0) false) (.seq (.region 1 (az F 1) true) (tX F 1))
theorem WJ:Tryz.f5.body=some (OL Tryz.f5):=by kernel_rfl
def OK:gE prog true Tryz.f5=true:=by decide+kernel
def PZ:oF:=⟨10,λi=>i==13||i==14||decide (17<i),λi=>decide (10<i),[(17,27,8),(19,58,10)]⟩
def axi{n0 b a w}(hd:a.defers=[])(hk:ak 40 (bh [(6,l5 n0 27 1),(8,Ie n0 b),(9,bG 0),(10,HY n0)]) a w):tM vfc Tryz.f5 [.code (tX Tryz.f5 1)] (λv w1=>Ic b w1 v/\Below n0 w w1) a w:=by
 obtain⟨S,s,d,r,rfl,n,o,K⟩:=hk.has 6 _ Y;obtain⟨R,u,V,aW,rfl,J,y,c⟩:=hk.has 8 _ Y;obtain⟨Q,x,m⟩:=hk.has 9 _ Y;obtain⟨v10,z,I,rfl,H,t⟩:=hk.has 10 _ Y;obtain⟨U,dG,Z,X,W,T,BG,O,BR,H2,Ls,Lt,Lu,Lv,Lw,Lx,PC,PD,PE,PF,PG,P,PH,K_,PI,PJ,PK,PL,PM,PN,PO,PP,PQ,PR,PS,PT,PU,PV,PW,PX,rfl⟩:=axd hk.size hd;obtain rfl:=van s;obtain rfl:=van u;obtain rfl:=van x;obtain rfl:=van z;cases m;clear s u x z hk hd;obtain⟨C,rfl⟩:∃q,r=#[q]:=by obtain⟨l⟩:=r;match l,K with| [q],_=>grind
 obtain⟨E,gG,fx⟩:=o.all;obtain⟨FB,wN,M⟩:=y.all;obtain⟨B,A,L⟩:=t.all;obtain⟨⟨f,e,rfl,-,-⟩,-⟩:=id c;have F:Hid (lv w _ b):=c;have i:Hid (ag w d #[C] 27):=o;clear o y t c;simp[tX,Tryz.f5,bQ.eu,bQ.lA];refine aqD ?_;go_wp2
 go_region
 go_wp2
 have u6:ag (w.setCell ⟨d,0,none⟩ (.slice f b.length e)) d #[.slice f b.length e] 27:=i.out.set 0 _;have g:iN rG w (w.setCell ⟨d,0,none⟩ (.slice f b.length e)):=iN.set i.out (by grind[rG]) _ _;have N:Below n0 w (w.setCell ⟨d,0,none⟩ (.slice f b.length e)):=(vaa n0 w).setCell (p:=⟨d,0,none⟩) n _;have k:=lv.kept g F.out;clear E gG fx FB wN M B A L g;generalize w.setCell ⟨d,0,none⟩ (.slice f b.length e)=j at *;obtain⟨D,-⟩:=u6.rules;exact vav (v:=.tuple #[.agg #[.slice f b.length e],.T]) (by simp[results,results5,go_sem,D]) Y ⟨_,Y,⟨_,Y,lv.kept (show iN rG j j.drew from⟨vac _,λ_ _ _ _ h _=>h⟩) k⟩,N.trans (show Below n0 j j.drew from⟨Y,Y,Y,vac _,λ_ _=>Y⟩)⟩
def LA:∀p∈PZ.kr,Ag p.2.1:=by decide
def axm{ii ij:bg}{d x y m w Post M}(k:∀n,ii.ok n)(j:∀n,ij.ok n)(i:ek x)(hy:ek y)(eM:aJ (b7 M) #[bB,cf] #[bB,cf])(Z:ii.R w bB)(l3:ij.R w cf)(Lr:∀W af:Nat,0<W->W<=16->0<af->af<=64->∀M w bB cf,aJ (b7 M) #[bB,cf] #[bB,cf]->ii.R w bB->ij.R w cf->fZ O prog Post 15 #[bB,cf,.I W,.I af,.I 0,.I 9223372036854775807] M w d (λu _ w'=>Af m w' u/\dy M w w')):
 fZ O prog Post 5 #[.agg #[.I x,.I y],bB,cf] M w d (λu _ w'=>Ic m w' u/\dy M w w'):=by
 intro n Shun hn C gX aI aC aL aO aK csZ hc di;obtain⟨p,f⟩:∃p:Nat,oE x 16=p:=⟨(oE x 16).toNat,by have:=uZ x (n:=16) AQ;omega⟩;obtain⟨q,hq⟩:∃q:Nat,oE y 64=q:=⟨(oE y 64).toNat,by have:=uZ y (n:=64) AQ;omega⟩;have aJG:=uZ x (n:=16) AQ;have aJH:=uZ y (n:=64) AQ;have E:jQ prog 5:=Bm func5 OK WJ;rw[vcj func5 WJ];have o:aJ (b7 M) #[.agg #[.I x,.I y],bB,cf] #[.agg #[.I x,.I y],bB,cf]:=aJ.append (a:=#[.agg #[.I x,.I y]]) (b:=#[bB,cf]) (.one (.qT (SU _ _ _))) eM;have H:=Held.start (n0:=w.heap.size) C JR (a:=⟨#[.agg #[.I x,.I y],bB,cf]++Array.replicate 37 undef,[]⟩) (o.append (Fg _ _)) Y;refine UD nx E H (k':=[.code (.region 1 (az Tryz.f5 1) true),.code (tX Tryz.f5 1)]) AD AD (I:=ak 40 (bh [(0,PY x y),(1,ii),(2,ij),(39,mT)])) (J:=ak 40 (bh [(1,ii),(2,ij),(3,vi x y),(6,l5 w.heap.size 27 1)])) (kZ _ (jT ⟨NE,k _,j _,NE,NE⟩)) (kZ _ (jT ⟨k _,j _,NE,Y,NE⟩)) (en (v:=.agg #[.I x,.I y]) KI Y<|en (v:=bB) KI Z<|en (v:=cf) KI l3<|en (v:=undef) AS Y<|wL AS) (λW1 r hk=>?_) λa1 cx w1 H1 D=>?_
 .obtain⟨u,B,hu⟩:=hk.has 39 _ Y;have hk:=en (F:=BD w.heap.size mT) B ⟨r,hu⟩ hk;unfold OL;refine bC ?_;rw[fE (az Tryz.f5 0)];exact dl hk (ap Y (axe Y Y)<|ap Y (WG (s:=39) Y Y)<|ap Y (dO (F:=dt false) Y Jg)<|rfl) λa6 T k2 d2 b2=>bC (lV ⟨d2,k2.aT ⟨Y,Y,Y,Y,NE⟩,b2.mono r⟩)
 have A:(1:Int)+(p:Int)=((1+p:Nat):Int):=AQ;have t:(1:Int)+(q:Int)=((1+q:Nat):Int):=AQ;refine Ty (N:=40) (S:=PZ) (L:=bh [(1,ii),(2,ij),(3,vi x y)]) (Q:=bh [(6,l5 w.heap.size 27 1)]) nx mixed E AD (jT ⟨k _,j _,NE,NE⟩) (λs F e=>?_) AD Y Y Y Y func13 AB OQ Y hn Y (cW:=Ft m) (by
  rw[fE (az Tryz.f5 1)];exact aV.hq Y Jc (hok:=k _)<|aV.hq Y Jc (hok:=j _)<|aV.hq Y (axf Y Y)<|aV.hq Y Jx<|aV.hq (F:=bG p) Y (by rw[<-f];exact OP Y Y Jg i AF)<|aV.hq (F:=bG (1+p:Nat)) Y (by rw[<-A];exact x8 Y Jg Y Cj AF)<|aV.hq Y (axg Y Y)<|aV.hq Y Jx<|aV.hq (F:=bG q) Y (by rw[<-hq];exact OP Y Y Jg hy AF)<|aV.hq (F:=bG (1+q:Nat)) Y (by rw[<-t];exact x8 Y Jg Y Cj AF)<|hg Y (λa M w Shun C hk o=>by
   obtain⟨v1,aZ,r1⟩:=hk.has 12 _ Y;obtain⟨v2,a3,V⟩:=hk.has 13 _ Y;obtain⟨v3,q3,rfl⟩:=hk.has 17 (bG (1+p:Nat)) Y;obtain⟨v4,q4,rfl⟩:=hk.has 21 (bG (1+q:Nat)) Y;rw[show(#[Operand.tmp 12,.tmp 13,.tmp 17,.tmp 21].map a.eval)=#[v1,v2,.I (1+p:Nat),.I (1+q:Nat)]from by simp[Act.eval,aZ,a3,q3,q4]];exact axc k j (mw (l:=[v1,v2]) λx i=>by
    simp at i;rcases i with rfl|rfl
    .exact o.get _ _ _ aZ aZ
    .exact o.get _ _ _ a3 a3) r1 V (Lr _ _ AQ AQ AQ AQ))<|aV.hk Y Jc (λ_=>awd) LA<|aV.hk Y (Pq Y Y) (λ_=>NH) LA<|aV.hk Y (Pn Y Y) LL LA<|aV.hk Y (O9 Y Y) LL LA<|aV.hn (F:=l5 w.heap.size 27 1) Y (λa w' hn _=>WF Y a w' hn) (hs:=λ_ _ _ _=>Ll)<|aV.hn (F:=l5 w.heap.size 58 2) Y (λa w' hn _=>L1 Y a w' hn) (hs:=λ_ _ _ _=>Ll)<|hst Y (OO Y Y Y) (hs:=λ_ p f g=>NI (by simp[PZ]at f;rcases f with rfl|rfl;exact absurd Y g;rfl))<|aV.hk Y Jt LL LA<|hst Y (axh Y Y Y) (hs:=λ_ p f g=>awc (by simp[PZ]at f;rcases f with rfl|rfl;rfl;exact absurd Y g))<|rfl) Jz H1 (D.aT ⟨Y,Y,Y,NE⟩) (D.aT ⟨Y,NE⟩) λa6 M2 T ik HX fp U K=>?_
 .unfold bh at e;split at e
  .cases e;exact⟨Y,λp _=>Ll⟩
  .cases e
 refine Kp nx func5 OK WJ K AD hc (I:=ak 40 (bh [(6,l5 w.heap.size 27 1),(8,Ie w.heap.size m),(9,bG 0),(10,HY w.heap.size)])) (iC:=Ic m) (kZ _ (jT ⟨Y,Y,NE,Y,NE⟩)) (NJ _) (fp.aT ⟨Y,Y,Y,Y,NE⟩) (λW1 r hI=>DH (xW (lV (axi K.defers hI)))) λu X R h1 h2 h3 h4 aP bE=>di u X R ik HX U h1 h2 h3 h4 ⟨bE,λb c e z P i=>aP b c e z ⟨P,C.lt P⟩ i⟩
end
end aV
namespace e9
open RowKit av bd b_ aV
abbrev dQ:=Int×Int×Int×Int
def kL(rs:List dQ):List a9:=
 [⟨1,0,rs.map λr=>kq r.1,[],rs.map λr=>gw r.1⟩,⟨1,0,rs.map λr=>fJ r.2.1,[],rs.map λr=>gw r.2.1⟩,⟨2,2,rs.map λr=>fJ r.2.2.1,[],rs.map λr=>gw r.2.2.1⟩,⟨3,0,[],rs.map λr=>nT r.2.2.2,rs.map λr=>gw r.2.2.2⟩]
def v0(r:dQ):bz:=if gw r.1 then h9 else⟨false,kq r.1,0,g5⟩
def v1(r:dQ):bz:=if gw r.2.1 then h9 else⟨false,fJ r.2.1,0,g5⟩
def v2(r:dQ):bz:=if gw r.2.2.1 then h9 else⟨false,fJ r.2.2.1,2,g5⟩
def v3(r:dQ):bz:=if gw r.2.2.2 then h9 else⟨false,0,0,nT r.2.2.2⟩
theorem P3 c:(nT c).size<=2:=by
 unfold nT;split
 .decide
 .have:=uZ c (n:=13) AQ;obtain⟨k,hk,a⟩:∃k:Nat,k<13/\(oE c 13).toNat=k:=AA;rw[a];have b:k=0\/k=1\/k=2\/k=3\/k=4\/k=5\/k=6\/k=7\/k=8\/k=9\/k=10\/k=11\/k=12:=AQ;rcases b with rfl|rfl|rfl|rfl|rfl|rfl|rfl|rfl|rfl|rfl|rfl|rfl|rfl<;>decide
def axq rs{i}(h:i<rs.length):(kL rs).map (nk · i)=[v0 rs[i],v1 rs[i],v2 rs[i],v3 rs[i]]:=by simp[kL,nk,v0,v1,v2,v3,h]
def axr rs(h:rs.length<=40):nh (kL rs)=true:=by
 have ht:th (rs.map λr=>nT r.2.2.2)=true:=by grind[th,P3]
 have h0:th []=true:=rfl;simp[nh,Gx,kL,vu,Js,Jq,M4,h0,ht,h]
def axs rs{i}(h:i<rs.length):∀c∈kL rs,xy i c:=by
 intro c a;simp[kL]at a;rcases a with rfl|rfl|rfl|rfl
 .exact⟨AA,AA,AA,AA⟩
 .exact⟨AA,AA,AA,AA⟩
 .exact⟨AA,AA,AA,AA⟩
 .refine⟨AA,AA,AA,λs hs=>?_⟩;grind[P3]
end e9
namespace e9
open RowKit Shelf av bd b_
variable{C:aR->Prop}{fuel i j n:Nat}{P:cE}{ops:fF}{Q:uao}{cX oj:Oper}{a:Act}{w:aR}
def P4{listed:uap}(c:Region.ready .any ops listed=[i,j])(hi:ops[i]?=some cX)(d:ops[j]?=some oj)(h:∀K':Act->aR->Prop,(∀a w,C w->oz C n P ops Q fuel (listed.setIfInBounds i true) a w->K' a w)->if Region.wanted cX (yielded ops a.tmps)=true then Oper.wpIn Fence.wide n P cX a w K' Q else(∀f,cX.about P w a.eval=some f->Fence.wide.fn f)/\K' (a.put cX.dst undef) w)(k:∀K':Act->aR->Prop,(∀a w,C w->oz C n P ops Q fuel (listed.setIfInBounds j true) a w->K' a w)->if Region.wanted oj (yielded ops a.tmps)=true then Oper.wpIn Fence.wide n P oj a w K' Q else(∀f,oj.about P w a.eval=some f->Fence.wide.fn f)/\K' (a.put oj.dst undef) w):oz C n P ops Q (fuel+1) listed a w:=
 ⟨AA,by
  rw[c];intro x b;simp at b;rcases b with rfl|rfl
  .exact wpOpIn_step hi λK' hK=>h K' AA
  .exact wpOpIn_step d λK' hK=>k K' AA⟩
variable{d:Nat}{v:Value}
def P5{t}(h:d≠t):(a.put (some d) v).eval (.tmp t)=a.eval (.tmp t):=by simp[Act.eval,Act.put,h]
def BS(h:d<a.tmps.size):(a.put (some d) v).eval (.tmp d)=v:=by simp[Act.eval,Act.put,h]
def iF{listed:uap}(hi:ops[i]?=some cX)(hd:cX.dst=some d)(hs:Region.noSelect ops=true)(f:Region.free .any ops listed i=true)(e:(Region.ready .any ops listed).contains i=true)(j:∀c a w,Q (.panic c) (a.put (some d) v) w->Q (.panic c) a w)(g:C w)(b:tI C P ops cX v a)(h:oz C n P ops Q fuel (listed.setIfInBounds i true) (a.put (some d) v) w):oz C n P ops Q (fuel+1) listed a w:=
 c0 hi hs f e AA g b AA
variable{o:Oper}{w1:aR}{K:uae}
def P6{cd F}(f:o.guard=none)(b:∀c,o.op≠ .defer c)(e:o.about P w a.eval=none)(d:(execOp a.eval o).run P w=.ok (.value v) w1)(h:K (a.put o.dst v) w1):
 if Region.wanted o (yielded ops a.tmps)=true then Oper.wpIn Fence.wide cd P o a w K Q else F:=by
 simp_all[Region.wanted,Oper.wpIn,Oper.semAt_eq,Oper.uponIn]
variable{u:Value}
def P7{d dj:Nat}{listed:uap}(p:Region.ready .any ops listed=[i,j])(k:Region.ready .any ops (listed.setIfInBounds i true)=[j])(t:Region.ready .any ops (listed.setIfInBounds j true)=[i])(hi:ops[i]?=some cX)(g:ops[j]?=some oj)(q:i≠j)(e:cX.dst=some d)(x:oj.dst=some dj)(hd:d≠dj)(hg:cX.guard=none/\oj.guard=none)(y:∀c,cX.op≠ .defer c/\oj.op≠ .defer c)(b:∀w(ev:uah),cX.about P w ev=none/\oj.about P w ev=none)(o:(execOp a.eval cX).run P w=.ok (.value v) w)(s:(execOp (a.put (some d) v).eval oj).run P w=.ok (.value u) w1)(l:(execOp a.eval oj).run P w=.ok (.value u) w1)(m:(execOp (a.put (some dj) u).eval cX).run P w1=.ok (.value v) w1)(r:C w)(f:C w1)(h:oz C n P ops Q fuel ((listed.setIfInBounds i true).setIfInBounds j true) ((a.put (some d) v).put (some dj) u) w1):oz C n P ops Q (fuel+2) listed a w:=by
 refine P4 p hi g (λK hK=>?_) (λK hK=>?_)
 .refine P6 hg.1 AA (b _ _).1 o (hK _ _ r ?_);rw[e];refine fc k g λK hK=>P6 hg.2 AA (b _ _).2 s (hK _ _ f ?_);grind
 .refine P6 hg.2 AA (b _ _).2 l (hK _ _ f ?_);rw[x];refine fc t hi λK hK=>P6 hg.1 AA (b _ _).1 m (hK _ _ f ?_);simp_all[Array.setIfInBounds_comm,Ne.symm,Act.put]
variable{e:uaa}
def P9{t:uaa}{z:Value}{bytes:Nat}(E:um P t e z 1 bytes)(w:aR){cd:Nat}{F:Prop}(C:o.guard=none)(s x:uam)(c:o.op=.call {callee:=.builtin .append,args:=#[s,x],argTypes:=#[t,t]})(base:Nat)(v:Value)(n:Nat)(xs:uai)(hs:a.eval s=v)(r:w.ownsRow base e 1 v n xs)(b:Nat)(u:Value)(p:a.eval x=.S b 0 1 1)(k:w.cell? (.a b 0)=some u)(h1:u.oneCell'=true)(A:(n+1)*bytes<=140737488355328)(H:n+1<=9223372036854775807)(f:base<=w.heap.size)(h:∀g cap w',w'.ownsRow base e 1 (.S g 0 (n+1) cap) (n+1) (xs++[u])->w.grownBy w' v.ownBlock->(v.ownBlock=some g\/g=w.heap.size)->K (a.put o.dst (.S g 0 (n+1) cap)) w'):
 if Region.wanted o (yielded ops a.tmps)=true then Oper.wpIn Fence.wide cd P o a w K Q else F:=by
 rw[vca (by grind[Region.wanted])];obtain⟨i,hi,m,hsz,l⟩:=vce E.hi;obtain⟨v',w',q,h2,h3,h4,D⟩:=run_append_own_at (P:=P) w base t o.type e i z 1 bytes E.ht hi m hsz l E.SD E.hsz v n xs r ⟨b,0,none⟩ 1 1 [u] Y (λj y d=>by
  rcases j with _ |j
  .simp at d;subst d;exact k
  grind) AA Hb A f
 unfold Oper.wpIn;refine⟨by simp[Oper.about,c,resolve,Target.leads,Sem.run_pure],?_⟩;rw[Oper.semAt_plain Fence.wide _ _ AA];obtain⟨-,⟨-,B⟩|⟨g,cap,bq,rfl,-⟩⟩:=id h2
 .omega
 simp only[execOp,c,resolve,invoke,builtin,hs,p,q,Result.andThen,veo,Sem.run_pure,List.map_toArray,vej,List.map_nil,Oper.uponIn];grind[Value.ownBlock]
def jV(j:Nat):TypeId:=if j % 3=0 then 2 else if j % 3=1 then 9 else 4
structure i7(B cb t5:Nat)(X:ubu)(W:aR)(L:List fi)(cs:dX):Prop where
 gY:fa B W L
 len:L.length=12
 box:ag W cb cs 45
 size:cs.size=20
 head:∀c x,(c,x)∈[(0,1),(1,0),(5,1),(6,0),(10,2),(11,2),(15,3),(16,0)]->cs[c]?=some (.I x)
 at_:∀j,j<12->∃v,L[j]?=some ⟨jV j,v,X j⟩/\cs[j / 3*5+2+j % 3]?=some v
 bS:ag W t5 #[.S cb 0 4 4] 27
 lo:B<=cb/\cb≠t5
variable{B cb t5:Nat}{W:aR}{X:ubu}{L:List fi}{cs:dX}
def i7.below{c:aR}(h:i7 B cb t5 X W L cs)(b:c6 W c):i7 B cb t5 X c L cs:=
 ⟨h.gY.kept λg hg=>by
  obtain⟨i,hi,a⟩:∃i,∃(hi:i<L.length),L[i].v.ownBlock=some g:=vaz λhn=>hg λi hi a=>AA;exact b.block g (h.gY.lt hi a).2,h.len,h.box.call b,h.size,h.head,h.at_,h.bS.call b,h.lo⟩
theorem axv j:jV j≠45/\jV j≠27:=by grind[jV]
def i7.ty(h:i7 B cb t5 X W L cs)(hi:i<L.length):L[i].e=jV i:=by obtain⟨v,h1,-⟩:=h.at_ i (by rw[<-h.len];exact hi);grind
def i7.ol(h:i7 B cb t5 X W L cs){b c T}(d:ag W b c T)(f:T=45\/T=27):iz L b:=
 N9 h.gY λg e z a i hi=>by rw[show W.heap[b]?=some (.cells c T)from d]at a;cases a;rw[h.ty hi];grind[axv]
variable{cap g:Nat}{W2:aR}
def i7.push(h:i7 B cb t5 X W L cs)(w:j<12)(hv:L[j]?=some ⟨jV j,v,X j⟩){x}(n:W2.ownsRow B (jV j) 1 (.S g 0 ((X j).length+1) cap) ((X j).length+1) (X j++[x]))(hg:W.grownBy W2 v.ownBlock)(o:v.ownBlock=some g\/g=W.heap.size):
 ag W2 cb cs 45/\ag W2 t5 #[.S cb 0 4 4] 27/\
 i7 B cb t5 (λi=>if i=j then X j++[x]else X i) (W2.setCell ⟨cb,j / 3*5+2+j % 3,none⟩ (.S g 0 ((X j).length+1) cap)) (L.set j ⟨jV j,.S g 0 ((X j).length+1) cap,X j++[x]⟩) (cs.setIfInBounds (j / 3*5+2+j % 3) (.S g 0 ((X j).length+1) cap)):=by
 obtain⟨l,fO⟩:=fa.JJ h.gY hv n hg o;have q:j<L.length:=AA;have z:L[j]=⟨jV j,v,X j⟩:=by grind
 have a:∀b,iz L b->v.ownBlock≠some b:=λb m t=>m j q AA;have bO:=ag.grown h.box hg (λg' k e=>a cb (h.ol h.box Jv) AA);have bS:=ag.grown h.bS hg (λg' k e=>a t5 (h.ol h.bS Jz) AA);refine⟨bO,bS,?_⟩;have f:iz (L.set j ⟨jV j,.S g 0 ((X j).length+1) cap,X j++[x]⟩) cb:=fO cb h.box.lt (h.ol h.box Jv);refine⟨l.set f _ _,by simp[h.len],bO.set _ _,by simp[h.size],λc y d=>?_,λi hi=>?_,bS.fg (Ne.symm h.lo.2) _,h.lo⟩
 .have hq:=h.head c y d;have p:j / 3*5+2+j % 3≠c:=by have h3:j % 3<3:=AA;simp at d;omega
  grind
 .obtain⟨u,s,r⟩:=h.at_ i hi;grind
def i7.congr{a}(h:i7 B cb t5 X W L cs)(c:∀j,j<12->X j=a j):i7 B cb t5 a W L cs:=
 ⟨h.gY,h.len,h.box,h.size,h.head,λj b=>by rw[<-c j b];exact h.at_ j b,h.bS,h.lo⟩
variable{N:Nat}
def axw{row:ubg}(hg:W.grownBy W2 row)(a:∀g,row=some g->N<=g)(a5:N<=W.heap.size):Below N W W2:=
 ⟨hg.os,hg.tape,hg.output,hg.size,λk hk=>hg.block k AQ AA⟩
def axx(c:dX)(e:uaa):c6 W (W.drew.alloc (.cells c e)):=(show c6 W W.drew from⟨Y,Y,Y,vac _,λ_ _=>Y⟩).alloc (vac _) _
def i7.P_(h:i7 B cb t5 X W L cs)(w:j<12){xs:uai}(x:X j=xs)(f:jV j=e)(hv:L[j]?=some ⟨jV j,v,xs⟩)(k:W2.ownsRow B e 1 (.S g 0 (xs.length+1) cap) (xs.length+1) (xs++[u]))(hg:(W.drew.alloc (.cells #[u] e)).grownBy W2 v.ownBlock)(l:v.ownBlock=some g\/g=(W.drew.alloc (.cells #[u] e)).heap.size)(a5:N<=B)(D:B<=W.heap.size){o:Nat}(s:o=j / 3*5+2+j % 3):
 Below N W W2/\(∀b c T,iz L b->ag W b c T->ag W2 b c T)/\ag W2 cb cs 45/\ag W2 t5 #[.S cb 0 4 4] 27/\
 ∃n y,i7 B cb t5 (λi=>if i=j then xs++[u]else X i) (W2.setCell ⟨cb,o,none⟩ (.S g 0 (xs.length+1) cap)) n y/\∀b,b<W.heap.size->iz L b->iz n b:=by
 subst x;subst f;subst s;have a:=axx (W:=W) #[u] (jV j);have h1:=h.below a;obtain⟨q,j2,p⟩:=h1.push w hv k hg l;obtain⟨A,fO⟩:=fa.JJ h1.gY hv k hg l;have m:j<L.length:=AA;have f:L[j]=⟨jV j,v,X j⟩:=by grind
 have C:∀g,v.ownBlock=some g->B<=g:=λg hg=>(h.gY.lt m AA).1;refine⟨(a.mono AQ).trans (axw hg AA BA),λb c T d r=>ag.grown (r.call a) hg (λg' z e=>d j m AA),q,j2,_,_,p,λb t d=>fO b BA d⟩
@[simp] theorem aJK:dc true 4:=vfb func4
def wQ(r:dQ)(j:Nat):List Value:=
 if j=0 then [.I (kq r.1)]else if j=2 then [.bool (gw r.1)]else if j=3 then [.I (fJ r.2.1)]else if j=5 then [.bool (gw r.2.1)]else if j=6 then [.I (fJ r.2.2.1)]else if j=8 then [.bool (gw r.2.2.1)]else if j=10 then [.string (nT r.2.2.2)]else if j=11 then [.bool (gw r.2.2.2)]else []
def cm(rs:List dQ)(n:Nat)(j:Nat):List Value:=(rs.take n).flatMap (wQ · j)
theorem FC rs(h:n<rs.length)j:cm rs (n+1) j=cm rs n j++wQ rs[n] j:=by grind[cm,List.take_succ_eq_append_getElem]
theorem axy r j:(wQ r j).length<=1:=by grind[wQ]
theorem BT rs n j:(cm rs n j).length<=n:=by induction n with|zero=>simp[cm]|succ n a=>grind[FC,axy,cm,List.take_of_length_le]
def BU rs n j f(h:∀r,wQ r j=[f r]):cm rs n j=(rs.take n).map f:=by unfold cm;induction rs.take n with|nil=>rfl|cons r l a=>grind
def Qa rs n j(h:∀r,wQ r j=[]):cm rs n j=[]:=by simp_all[cm]
def BV{aq:Type}{R:aR->(Nat->Option Value)->aq->Prop}{l:List dQ}{f}{g:dQ->aq}(h:W.ownsRow B e 1 v (l.map f).length (l.map f))(a:∀r rd,rd 0=some (f r)->R W rd (g r)):bo W 1 R v (l.map g):=
 Kh h AS AA
def Qb{aq:Type}{R:aR->(Nat->Option Value)->aq->Prop}(h:W.ownsRow B e 1 v ([]:uai).length []):bo W 1 R v []:=
 Kh h Y AA
def axz{rs}(h:i7 B cb t5 (cm rs n) W L cs):lv W (.S cb 0 4 4) (kL (rs.take n)):=by
 have own:∀j(_:j<12),∃v,cs[j / 3*5+2+j % 3]?=some v/\W.ownsRow B (jV j) 1 v (cm rs n j).length (cm rs n j):=λj g=>by obtain⟨v,h1,h2⟩:=h.at_ j g;exact⟨v,h2,h.gY.at h1⟩
 have cell:∀o x,cs[o]?=some x->W.cell? (.a cb o)=some x:=λo x f=>(h.box.rules.1 o).trans f;refine⟨⟨some ⟨cb,0,none⟩,4,Y,by show 4<=9223372036854775807;decide,λi hi=>⟨cb,0,Y,?_⟩⟩,λb k=>by cases k;exact⟨_,_,h.box⟩⟩;have e:i=0\/i=1\/i=2\/i=3:=by have:(kL (rs.take n)).length=4:=rfl;omega
 rcases e with rfl|rfl|rfl|rfl
 .obtain⟨c,b3,a⟩:=own 0 AQ;obtain⟨vs,c1,o1⟩:=own 1 AQ;obtain⟨d,bt,o2⟩:=own 2 AQ;rw[BU rs n 0 _ λ_=>Y]at a;rw[Qa rs n 1 λ_=>Y]at o1;rw[BU rs n 2 _ λ_=>Y]at o2;exact⟨c,vs,d,cell 0 _ (h.head 0 1 AS),cell 1 _ (h.head 1 0 AS),cell 2 _ b3,cell 3 _ c1,cell 4 _ bt,⟨BV a λ_ _ h=>h,Qb o1,BV o2 λ_ _ h=>h⟩,rF a,rF o1,rF o2⟩
 .obtain⟨c,b3,a⟩:=own 3 AQ;obtain⟨vs,c1,o1⟩:=own 4 AQ;obtain⟨d,bt,o2⟩:=own 5 AQ;rw[BU rs n 3 _ λ_=>Y]at a;rw[Qa rs n 4 λ_=>Y]at o1;rw[BU rs n 5 _ λ_=>Y]at o2;exact⟨c,vs,d,cell 5 _ (h.head 5 1 AS),cell 6 _ (h.head 6 0 AS),cell 7 _ b3,cell 8 _ c1,cell 9 _ bt,⟨BV a λ_ _ h=>h,Qb o1,BV o2 λ_ _ h=>h⟩,rF a,rF o1,rF o2⟩
 .obtain⟨c,b3,a⟩:=own 6 AQ;obtain⟨vs,c1,o1⟩:=own 7 AQ;obtain⟨d,bt,o2⟩:=own 8 AQ;rw[BU rs n 6 _ λ_=>Y]at a;rw[Qa rs n 7 λ_=>Y]at o1;rw[BU rs n 8 _ λ_=>Y]at o2;exact⟨c,vs,d,cell 10 _ (h.head 10 2 AS),cell 11 _ (h.head 11 2 AS),cell 12 _ b3,cell 13 _ c1,cell 14 _ bt,⟨BV a λ_ _ h=>h,Qb o1,BV o2 λ_ _ h=>h⟩,rF a,rF o1,rF o2⟩
 .obtain⟨c,b3,a⟩:=own 9 AQ;obtain⟨vs,c1,o1⟩:=own 10 AQ;obtain⟨d,bt,o2⟩:=own 11 AQ;rw[Qa rs n 9 λ_=>Y]at a;rw[BU rs n 10 _ λ_=>Y]at o1;rw[BU rs n 11 _ λ_=>Y]at o2;exact⟨c,vs,d,cell 15 _ (h.head 15 3 AS),cell 16 _ (h.head 16 0 AS),cell 17 _ b3,cell 18 _ c1,cell 19 _ bt,⟨Qb a,BV o1 λr _ h=>⟨h,by grind[P3]⟩,BV o2 λ_ _ h=>h⟩,rF a,rF o1,rF o2⟩
end e9
namespace aV
open Conc ConcM RowKit av bj cV dx bd b_ e9
section
variable{n0:Nat}
theorem LD{ρ:Ren}{w w':aR}(d:sK n0 ρ w w'){b c:Nat}(r:ρ.rel b c){l:uai}{T:uaa}(h:ag w b l.toArray T):∃a,ag w' c a.toArray T/\dJ (au ρ) l a:=by obtain⟨f,h1,h2⟩:=d.types _ _ _ _ _ r h;obtain⟨a⟩:=f;refine⟨a,h1,UF AA λi v v' hv e=>?_⟩;obtain⟨x,h3,h4⟩:=d.cells ⟨b,i,none⟩ ⟨c,i,none⟩ v ⟨r,Y,Y⟩ ((h.rules.1 i).trans AA);rw[(ag.rules (show ag w' c a.toArray T from h1)).1 i]at h3;grind
theorem follows:prog.follows .rangeFuncRecover=true:=by decide+kernel
end
section
variable{n0:Nat}
def Qd:Value->Prop
 | .int .. | .bool _ | .string _=>True
 | _=>False
theorem OH{ρ x y}(hs:Qd x)(h:au ρ x y):y=x:=by cases h<;>first|rfl|exact hs.elim
def axD{ρ:Ren}{w w':aR}(a:sK n0 ρ w w'){v v':Value}(hv:au ρ v v'){e:uaa}{n:Nat}{xs:uai}(l:∀x∈xs,Qd x)(h:w.ownsRow n0 e 1 v n xs):w'.ownsRow n0 e 1 v' n xs/\∀g',v'.ownBlock=some g'->∃g,v.ownBlock=some g/\ρ.rel g g':=by
 obtain⟨b,⟨rfl,hn⟩|⟨g,cap,bq,rfl,hg,c,h1,h2,h3,h4⟩⟩:=h
 .rw[lx hv];exact⟨⟨b,AA⟩,λg' e=>GA⟩
 .obtain⟨g',rfl,r⟩:=rH hv;obtain⟨f,d,k⟩:=a.types _ _ _ _ _ r c;refine⟨⟨b,.inr ⟨g',cap,f,Y,a.new _ _ r hg,d,h1,h2,AA,?_⟩⟩,λm e=>by cases e;exact⟨g,Y,r⟩⟩;rw[<-h4];refine vbw λi=>?_;rw[List.getElem?_take,List.getElem?_take];split
  .rename_i hi;have j:i<xs.length:=AA;have e1:bq.toList[i]?=some xs[i]:=by grind
   have e2:w.cell? (.a g i)=some xs[i]:=by grind[World.cell?]
   obtain⟨y,e3,e4⟩:=a.cells ⟨g,i,none⟩ ⟨g',i,none⟩ _ ⟨r,Y,Y⟩ e2;grind[OH,List.getElem_mem,World.cell?]
  .rfl
def FD(n0:Nat)(X:ubu)(W:aR)(v:Value):Prop:=∃cb bS L cs,v=.P bS 0/\i7 n0 cb bS X W L cs
def FE(n0:Nat)(W:aR)(v:Value):Prop:=∃b,v=.P b 0/\n0<=b/\ag W b #[.N] 27
theorem axE:kY n0 (FE n0):=by rintro ρ w w' v v' a hv ⟨b,rfl,hn,h⟩;obtain⟨d,rfl,r⟩:=zg hv;obtain⟨e,h1,k⟩:=LD (l:=[.N]) a r h;cases k with|cons c k=>cases k;rw[lx c]at h1;exact⟨d,Y,a.new _ _ r hn,h1⟩
theorem axF{X}(C:∀j,∀x∈X j,Qd x):kY n0 (FD n0 X):=by
 rintro ρ w w' v v' d hv ⟨cb,bS,L,cs,rfl,h⟩;obtain⟨t,rfl,u⟩:=zg hv;obtain⟨H,A,m⟩:=LD (l:=[.S cb 0 4 4]) d u h.bS;cases m with
 |cons m E=>
  cases E;obtain⟨s,rfl,rc⟩:=rH m;obtain⟨lc,F,kc⟩:=LD (l:=cs.toList) d rc h.box;have hlen:lc.length=20:=by rw[<-kc.length];simpa using h.size
  have get:∀i x,cs[i]?=some x->∃y,lc[i]?=some y/\au ρ x y:=λi x z=>by
   have hi:i<cs.size:=by
    rcases vdz i cs.size with q|q
    .exact q
    .rw[Array.getElem?_eq_none q]at z;cases z
   have n:i<lc.length:=by rw[hlen,<-h.size];exact hi
   refine⟨lc[i],vaq n,?_⟩;have:=(aJ.My kc).get i x lc[i] AA AA;grind
  have at_:∀j,j<12->∃v v',L[j]?=some ⟨jV j,v,X j⟩/\lc[j / 3*5+2+j % 3]?=some v'/\au ρ v v':=λj b=>by obtain⟨v,h1,h2⟩:=h.at_ j b;grind
  let a:List fi:=(List.range 12).map λj=>⟨jV j,lc[j / 3*5+2+j % 3]?.getD undef,X j⟩
  have r:a.length=12:=AA;have p:∀j(b:j<12),∃v v',L[j]?=some ⟨jV j,v,X j⟩/\a[j]?=some ⟨jV j,v',X j⟩/\lc[j / 3*5+2+j % 3]?=some v'/\au ρ v v':=AA;have own:∀j(b:j<a.length),w'.ownsRow n0 a[j].e 1 a[j].v a[j].xs.length a[j].xs/\∀g',a[j].v.ownBlock=some g'->∃(f:j<L.length)(g:Nat),L[j].v.ownBlock=some g/\ρ.rel g g':=λj b=>by obtain⟨v,v',h1,h2,h3,h4⟩:=p j AA;rw[vaq b]at h2;rw[van h2];have I:j<L.length:=AA;obtain⟨aZ,a3⟩:=axD d h4 (C j) (h.gY.at h1);grind
  refine⟨s,t,a,lc.toArray,Y,⟨⟨AA,λi j hi b g k e1 e2=>?_⟩,r,F,AA,λc x o=>?_,λj b=>?_,A,d.new _ _ rc h.lo.1,λe=>?_⟩⟩
  .obtain⟨n,g1,f1,D⟩:=(own i hi).2 g e1;obtain⟨f,B,f3,f4⟩:=(own j b).2 g e2;rw[d.inj _ _ _ D f4]at f1;exact h.gY.apart i j n f B k f1 f3
  .obtain⟨y,e1,e2⟩:=get _ _ (h.head c x o);rw[OH (x:=.I x) trivial e2]at e1;grind
  .grind
  .rw[e]at rc;exact h.lo.2 (d.inj _ _ _ rc u)
theorem axL rs n j:∀x∈cm rs n j,Qd x:=by
 intro x a;simp only[cm,List.mem_flatMap]at a;obtain⟨r,-,a⟩:=a;unfold wQ at a;repeat' split at a
 all_goals first|(simp only[vaw,vbp,vdf]at a;subst a;trivial)|grind
end
end aV
namespace e9
open RowKit Shelf av bd b_ aV
section
attribute [local go_sem] Oper.semAt_some
def axM(n0 bF qb hR:Nat)(j_:Value)(w0:aR)(rs:List dQ)(n:Nat)(a:Act)(W:aR):Prop:=(a.defers=[]/\a.tmps.size=123/\a.tmps[1]?=some (.I 40)/\a.tmps[4]?=some j_/\a.tmps[5]?=some (.P hR 0)/\a.tmps[6]?=some (.I n))/\(∃L cs,i7 n0 bF hR (cm rs (n+1)) W L cs)/\ag W qb #[.N] 27/\Below n0 w0 W
def axN(rs:List dQ)(n:Nat)(xR:n<rs.length)(dW:n<40)(i0:ek rs[n].1)(i1:ek rs[n].2.1)(i2:ek rs[n].2.2.1)(i3:ek rs[n].2.2.2)(n0 b qb hR m:Nat)(w0 f:aR)(L:List fi)(cs:dX)(mG:n0<=w0.heap.size)(hq:i7 n0 b hR (cm rs n) f L cs)(Qe:ag f m #[.I rs[n].1,.I rs[n].2.1,.I rs[n].2.2.1,.I rs[n].2.2.2] 51)(z4:ag f qb #[.N] 27)(hb:Below n0 w0 f)(Ow:iz L m)(afU:b≠m)(afV:b≠qb)(nF d_ eN j_ BR H2 Ls Lt Lu Lv Lw Lx PC PD PE PF PG wM PH K_ PI PJ PK PL PM PN PO PP PQ PR PS PT PU PV PW PX axO axP axQ axR axS TM TJ axT axU axV axW axX axY axZ ax0 ax1 ax2 ax3 ax4 ax5 ax6 ax7 ax8 ax9 ax_ aya ayb ayc ayd aye ayf ayg ayh ayi ayj ayk ayl aym ayn ayo ayp ayq ayr ays ayt ayu ayv ayw ayx ayy ayz ayA ayB ayC ayD ayE ayF ayG ayH ayI ayJ ayK ayL ayM ayN ayO ayP ayQ ayR ayS ayT ayU ayV ayW ayX ayY ayZ ay0 ay1 ay2 ay3 ay4 ay5:Value):
 Code.wpIn Fence.wide 3 vfc (tX Tryz.f4 5) (jg (axM n0 b qb hR j_ w0 rs n)) ⟨#[nF,.I 40,d_,eN,j_,.P hR 0,.I n,.P m 0,BR,H2,Ls,Lt,Lu,Lv,Lw,Lx,PC,PD,PE,PF,PG,wM,PH,K_,PI,PJ,PK,PL,PM,PN,PO,PP,PQ,PR,PS,PT,PU,PV,PW,PX,axO,axP,axQ,axR,axS,TM,TJ,axT,axU,axV,axW,axX,axY,axZ,ax0,ax1,ax2,ax3,ax4,ax5,ax6,ax7,ax8,ax9,ax_,aya,ayb,ayc,ayd,aye,ayf,ayg,ayh,ayi,ayj,ayk,ayl,aym,ayn,ayo,ayp,ayq,ayr,ays,ayt,ayu,ayv,ayw,ayx,ayy,ayz,ayA,ayB,ayC,ayD,ayE,ayF,ayG,ayH,ayI,ayJ,ayK,ayL,ayM,ayN,ayO,ayP,ayQ,ayR,ayS,ayT,ayU,ayV,ayW,ayX,ayY,ayZ,ay0,ay1,ay2,ay3,ay4,ay5],[]⟩ f:=by
 simp[tX,Tryz.f4,bQ.eu,bQ.lA];have aJM:hR<f.heap.size:=hq.bS.lt;have aJN:b<f.heap.size:=hq.box.lt;have aJO:qb<f.heap.size:=z4.lt;have aJP:m<f.heap.size:=Qe.lt;have aJQ:b≠hR:=hq.lo.2;have jI:n0<=b:=hq.lo.1;have mi:Hid (i7 n0 b hR (cm rs n) f L cs):=hq;have Ik:Hid (ag f qb #[.N] 27):=z4;have b4:Hid (Below n0 w0 f):=hb;have ay6:Hid (iz L m):=Ow;have FF:Hid (n0<=w0.heap.size):=mG;obtain⟨f1,f2,f3⟩:=Qe.all;have ay7:Hid _:=Qe;clear hq z4 hb Ow Qe;gi_wp2
 have om:c6 f (f.alloc (.cells #[.I rs[n].1,.I rs[n].2.1,.I rs[n].2.2.1] 49)):=(vaa _ f).alloc JR _;have wP:ag (f.alloc (.cells #[.I rs[n].1,.I rs[n].2.1,.I rs[n].2.2.1] 49)) m #[.I rs[n].1,.I rs[n].2.1,.I rs[n].2.2.1,.I rs[n].2.2.2] 51:=ag.alloc ay7.out _;have BR:ag (f.alloc (.cells #[.I rs[n].1,.I rs[n].2.1,.I rs[n].2.2.1] 49)) f.heap.size #[.I rs[n].1,.I rs[n].2.1,.I rs[n].2.2.1] 49:=ag.new f _ _;have Ok:(f.alloc (.cells #[.I rs[n].1,.I rs[n].2.1,.I rs[n].2.2.1] 49)).heap.size=f.heap.size+1:=AS;have LF:Hid _:=wP;have Of:Hid _:=BR;have pG:Hid _:=om;clear wP BR om f1 f2 f3;generalize(f.alloc (.cells #[.I rs[n].1,.I rs[n].2.1,.I rs[n].2.2.1] 49))=T at *;refine wpIn_region_any AB (uP (C:=λW=>ag W m #[.I rs[n].1,.I rs[n].2.1,.I rs[n].2.2.1,.I rs[n].2.2.2] 51) _ _ _ _ ?_);have HC:Hid (ag T.drew m #[.I rs[n].1,.I rs[n].2.1,.I rs[n].2.2.1,.I rs[n].2.2.2] 51):=LF.out;refine c0 (i:=0) (v:=.P m 0) Y AB AB AB Jj HC.out ⟨Ao,λW _=>Ak,λc=>AS,λ_=>Y⟩ ?_;refine c0 (i:=3) (v:=.P m 1) Y AB AB AB Jj HC.out ⟨Ao,λW _=>Ak,λc=>AS,λ_=>Y⟩ ?_;refine c0 (i:=6) (v:=.P m 2) Y AB AB AB Jj HC.out ⟨Ao,λW _=>Ak,λc=>AS,λ_=>Y⟩ ?_;refine c0 (i:=1) (v:=.I rs[n].1) Y AB AB AB Jj HC.out ⟨Ao,λW d=>B1,λc=>AS,λ_=>Y⟩ ?_;refine c0 (i:=4) (v:=.I rs[n].2.1) Y AB AB AB Jj HC.out ⟨Ao,λW d=>B1,λc=>AS,λ_=>Y⟩ ?_;refine c0 (i:=7) (v:=.I rs[n].2.2.1) Y AB AB AB Jj HC.out ⟨Ao,λW d=>B1,λc=>AS,λ_=>Y⟩ ?_;refine fc (i:=2) AB Y λK hK=>?_;go_simp
 refine⟨NE,(callsIn_wide.2 (aut _ i0 _)).mono ?_⟩;rintro e w' ⟨rfl,rfl⟩;refine hK _ _ HC.out ?_;clear hK K;refine fc (i:=5) AB Y λK hK=>?_;go_simp
 refine⟨NE,(callsIn_wide.2 (U7 _ i1 _)).mono ?_⟩;rintro e w' ⟨rfl,rfl⟩;refine hK _ _ HC.out ?_;clear hK K;refine fc (i:=8) AB Y λK hK=>?_;go_simp
 refine⟨NE,(callsIn_wide.2 (U7 _ i2 _)).mono ?_⟩;rintro e w' ⟨rfl,rfl⟩;refine hK _ _ HC.out ?_;clear hK K;refine fc (i:=9) AB Y λK hK=>?_;go_simp
 refine hK _ _ (ag.alloc HC.out _) ?_;clear hK K;refine fc (i:=10) AB Y λK hK=>?_;go_simp
 refine hK _ _ (ag.alloc HC.out _) ?_;clear hK K;refine uQ AB ?_ _;gi_wp2
 have Aj:c6 f (T.alloc (.cells #[.I (kq rs[n].1),.I (fJ rs[n].2.1),.I (fJ rs[n].2.2.1)] 2)).drew:=(pG.out.alloc AQ _).trans (show Below _ _ _ from⟨Y,Y,Y,vac _,λ_ _=>Y⟩);have H3:ag (T.alloc (.cells #[.I (kq rs[n].1),.I (fJ rs[n].2.1),.I (fJ rs[n].2.2.1)] 2)).drew m #[.I rs[n].1,.I rs[n].2.1,.I rs[n].2.2.1,.I rs[n].2.2.2] 51:=ag.alloc LF.out _;have BK:ag (T.alloc (.cells #[.I (kq rs[n].1),.I (fJ rs[n].2.1),.I (fJ rs[n].2.2.1)] 2)).drew (f.heap.size) #[.I rs[n].1,.I rs[n].2.1,.I rs[n].2.2.1] 49:=ag.alloc Of.out _;have WM:ag (T.alloc (.cells #[.I (kq rs[n].1),.I (fJ rs[n].2.1),.I (fJ rs[n].2.2.1)] 2)).drew (f.heap.size+1) #[.I (kq rs[n].1),.I (fJ rs[n].2.1),.I (fJ rs[n].2.2.1)] 2:=by have:=ag.new T #[.I (kq rs[n].1),.I (fJ rs[n].2.1),.I (fJ rs[n].2.2.1)] 2;rw[Ok]at this;exact this
 have ay8:=mi.out.below Aj;have ay9:=Ik.out.call Aj;have ay_:Below n0 w0 (T.alloc (.cells #[.I (kq rs[n].1),.I (fJ rs[n].2.1),.I (fJ rs[n].2.2.1)] 2)).drew:=b4.out.trans (Aj.mono AA);have aza:iz L m/\iz L (f.heap.size)/\iz L (f.heap.size+1):=⟨ay6.out,mi.out.gY.ol AA,mi.out.gY.ol AA⟩;have EY:n0<=f.heap.size:=AA;clear LF Of pG HC;generalize(T.alloc (.cells #[.I (kq rs[n].1),.I (fJ rs[n].2.1),.I (fJ rs[n].2.2.1)] 2)).drew=LG at *;clear Ok;gi_loopw [10] (λp W=>∃(k:Nat)(L:List fi)(cs:dX),k<=3/\p=.I k/\i7 (n0) (b) (hR) (λj=>if j / 3<k then cm rs (n+1) j else cm rs n j) W L cs/\ag W qb #[.N] 27/\Below n0 w0 W/\
  (ag W m #[.I rs[n].1,.I rs[n].2.1,.I rs[n].2.2.1,.I rs[n].2.2.2] 51/\ag W (f.heap.size) #[.I rs[n].1,.I rs[n].2.1,.I rs[n].2.2.1] 49/\ag W (f.heap.size+1) #[.I (kq rs[n].1),.I (fJ rs[n].2.1),.I (fJ rs[n].2.2.1)] 2)/\
  (iz L m/\iz L (f.heap.size)/\iz L (f.heap.size+1)))
  (λi _=>3-(intOf i).toNat)
 case atStart=>grind
 case round=>
  obtain⟨k,Qf,cs1,jL,rfl,WN,hZ,bl,⟨S,ve,Lz⟩,Qg⟩:=hrel;have I:Hid (i7 (n0) (b) (hR) (λj=>if j / 3<k then cm rs (n+1) j else cm rs n j) wr Qf cs1):=WN;clear ay8 ay9 ay_ H3 BK WM aza Aj;by_cases hk:k<3
  .obtain⟨J,P,Uk,Uj,hI,q0,aZ,a3⟩:∃J P,(#[.I rs[n].1,.I rs[n].2.1,.I rs[n].2.2.1]:dX)[k]?=some (.I J)/\(#[.I (kq rs[n].1),.I (fJ rs[n].2.1),.I (fJ rs[n].2.2.1)]:dX)[k]?=some (.I P)/\ek J/\wQ rs[n] (3*k)=[.I P]/\wQ rs[n] (3*k+1)=[]/\wQ rs[n] (3*k+2)=[.bool (gw J)]:=by
    have:k=0\/k=1\/k=2:=AQ;rcases this with rfl|rfl|rfl
    .exact⟨_,_,Y,Y,i0,Y,Y,Y⟩
    .exact⟨_,_,Y,Y,i1,Y,Y,Y⟩
    .exact⟨_,_,Y,Y,i2,Y,Y,Y⟩
   have Oe:=λW(h:ag W (f.heap.size) #[.I rs[n].1,.I rs[n].2.1,.I rs[n].2.2.1] 49)=>(h.rules.1 k).trans Uk;have N5:=λW(h:ag W (f.heap.size+1) #[.I (kq rs[n].1),.I (fJ rs[n].2.1),.I (fJ rs[n].2.2.1)] 2)=>(h.rules.1 k).trans Uj;have azb:Hid _:=Oe;have azc:Hid _:=N5;have qN:Hid _:=(⟨S,ve,Lz⟩:_/\_/\_);have vj:Hid _:=hZ;have U:Hid _:=bl;have R:Hid _:=Qg;have WO:Hid _:=(⟨q0,aZ,a3⟩:_/\_/\_);obtain⟨azd,yG,WP⟩:=I.out.at_ (3*k) AQ;rw[show 3*k / 3*5+2+3*k % 3=k*5+2 by omega]at WP;have Sq:(if 3*k / 3<k then cm rs (n+1) (3*k)else cm rs n (3*k))=cm rs n (3*k):=AA;simp at yG;obtain⟨p0,r0,rfl⟩:=mg (show wr.ownsRow _ (jV (3*k)) 1 azd (cm rs n (3*k)).length _ from I.out.gY.at yG);have WQ:Hid _:=yG;have WR:Hid _:=WP;have oe:(0:Int)<=(k:Int):=AQ;have ur:(k:Int)<3:=AQ;have afR:(k:Int)<4:=AQ;clear Uk Uj Oe N5 S ve Lz hZ bl Qg q0 aZ a3 WN yG WP Sq;gi_wp2
   refine wpIn_region_any AB (uP (C:=λW=>ag W (hR) #[.S b 0 4 4] 27/\ag W (f.heap.size+1) #[.I (kq rs[n].1),.I (fJ rs[n].2.1),.I (fJ rs[n].2.2.1)] 2) _ _ _ _ ?_);have HC:Hid (ag wr.drew (hR) #[.S b 0 4 4] 27/\ag wr.drew (f.heap.size+1) #[.I (kq rs[n].1),.I (fJ rs[n].2.1),.I (fJ rs[n].2.2.1)] 2):=⟨I.out.bS,qN.out.2.2⟩;refine iF (i:=0) (v:=.P hR 0) Y Y AB AB AB Jj HC.out ⟨Ao,λW d=>Ak,λc=>AS,λ_=>Y⟩ ?_;refine iF (i:=3) (v:=.P hR 0) Y Y AB AB AB Jj HC.out ⟨Ao,λW d=>Ak,λc=>AS,λ_=>Y⟩ ?_;refine iF (i:=2) (v:=.I k) Y Y AB AB AB Jj HC.out ⟨Ao,λW d=>Ak,λc=>AS,λ_=>Y⟩ ?_;refine iF (i:=5) (v:=.I k) Y Y AB AB AB Jj HC.out ⟨Ao,λW d=>Ak,λc=>AS,λ_=>Y⟩ ?_;refine iF (i:=9) (v:=.S (f.heap.size+1) 0 3 3) Y Y AB AB AB Jj HC.out ⟨Ao,λW d=>Ak,λc=>AS,λ_=>Y⟩ ?_;refine iF (i:=10) (v:=.I k) Y Y AB AB AB Jj HC.out ⟨Ao,λW d=>Ak,λc=>AS,λ_=>Y⟩ ?_;refine iF (i:=1) (v:=.S b 0 4 4) Y Y AB AB AB Jj HC.out ⟨Ao,λW d=>by obtain⟨D,O,M⟩:=ag.all d.1;go_simp,λc=>AS,λ_=>Y⟩ ?_;refine iF (i:=4) (v:=.S b 0 4 4) Y Y AB AB AB Jj HC.out ⟨Ao,λW d=>by obtain⟨D,O,M⟩:=ag.all d.1;go_simp,λc=>AS,λ_=>Y⟩ ?_;refine iF (i:=6) (v:=.P b (k*5)) Y Y AB AB AB Jj HC.out ⟨Ao,λW d=>Ak,λc=>AS,λ_=>Y⟩ ?_;refine iF (i:=7) (v:=.P b (k*5+2)) Y Y AB AB AB Jj HC.out ⟨Ao,λW d=>Ak,λc=>AS,λ_=>Y⟩ ?_;refine iF (i:=11) (v:=.P (f.heap.size+1) k) Y Y AB AB AB Jj HC.out ⟨Ao,λW d=>Ak,λc=>AS,λ_=>Y⟩ ?_;refine iF (i:=12) (v:=.I P) Y Y AB AB AB Jj HC.out ⟨Ao,λW d=>by have D:=azc.out _ d.2;go_simp,λc=>AS,λ_=>Y⟩ ?_;have z:wr.drew.cell? (.a b (k*5+2))=some (.slice p0 (cm rs n (3*k)).length r0):=(I.out.box.rules.1 _).trans WR.out;refine P7 (i:=8) (j:=13) (v:=.slice p0 (cm rs n (3*k)).length r0) (u:=.S wr.heap.size 0 1 1) (w1:=wr.drew.alloc (.cells #[.I P] 2)) AB AB AB Y Y AF Y Y AF ⟨Y,Y⟩ (λc=>⟨AS,AS⟩) (λ_ _=>⟨Y,Y⟩) Ak Ak Ak (by have g1:(wr.alloc (.cells #[.I P] 2)).drew.cell? (.a b (k*5+2))=_:=aV.x_ z (.cells #[.I P] 2);go_simp) HC.out ⟨ag.alloc HC.out.1 _,ag.alloc HC.out.2 _⟩ ?_;have RF:jV (3*k)=2:=by simp[jV]
   refine fc (i:=14) AB Y λK hK=>?_;refine P9 ZQ _ Y _ _ Y (n0) (.slice p0 (cm rs n (3*k)).length r0) (cm rs n (3*k)).length (cm rs n (3*k)) ((P5 AF).trans (BS C5)) (by have h:=I.out.gY.at WQ.out;rw[show(jV (3*k))=2 from RF]at h;exact World.ownsRow.alloc (w:=wr.drew) h _) wr.heap.size (.I P) (BS C5) (n2 (vbb wr.drew _) Y Y) Y (by have:=BT rs n (3*k);omega) (by have:=BT rs n (3*k);omega) (by have:=vad FF.out U.out.size;simp;omega) ?_;intro g c W2 B A E;obtain⟨y,r,s,t,L2,aze,RE,Qh⟩:=i7.P_ (N:=n0) I.out (j:=3*k) AQ (xs:=cm rs n (3*k)) (vby AQ) RF WQ.out B A E AQ (vad FF.out U.out.size) (o:=k*5+2) AQ;have qL:=r _ _ _ R.out.1 qN.out.1;have lE:=r _ _ _ R.out.2.1 qN.out.2.1;have BW:=r _ _ _ R.out.2.2 qN.out.2.2;have bV:=r _ _ _ (I.out.ol vj.out Jz) vj.out;have azf:f.heap.size+1<wr.heap.size:=qN.out.2.2.lt;have l:Hid (ag W2 (hR) #[.S b 0 4 4] 27/\ag W2 (f.heap.size+1) #[.I (kq rs[n].1),.I (fJ rs[n].2.1),.I (fJ rs[n].2.2.1)] 2):=⟨t,BW⟩;refine hK _ _ l.out ?_;clear hK K;have g2:W2.cell? (.a b (k*5+2))=some (.slice p0 (cm rs n (3*k)).length r0):=(s.rules.1 _).trans WR.out;have Z:=s.rules.2;refine fc (i:=15) AB Y λK hK=>?_;go_simp
   refine hK _ _ l.out ?_;clear hK K;refine fc (i:=16) AB Y λK hK=>?_;go_simp
   refine hK _ _ l.out ?_;clear hK K;refine fc (i:=17) AB Y λK hK=>?_;go_simp
   refine hK _ _ ⟨ag.fg l.out.1 BA _,ag.fg l.out.2 BA _⟩ ?_;clear hK K;refine uQ AB ?_ _;have pj:=qL.fg (a:=⟨b,k*5+2,none⟩) BA (.S g 0 ((cm rs n (3*k)).length+1) c);have pX:=lE.fg (a:=⟨b,k*5+2,none⟩) BA (.S g 0 ((cm rs n (3*k)).length+1) c);have pY:=BW.fg (a:=⟨b,k*5+2,none⟩) BA (.S g 0 ((cm rs n (3*k)).length+1) c);have F:=bV.fg (a:=⟨b,k*5+2,none⟩) BA (.S g 0 ((cm rs n (3*k)).length+1) c);have rQ:Below n0 w0 (W2.setCell ⟨b,k*5+2,none⟩ (.S g 0 ((cm rs n (3*k)).length+1) c)):=(U.out.trans y).setCell (p:=⟨b,k*5+2,none⟩) AQ _;have Ru:iz L2 m/\iz L2 (f.heap.size)/\iz L2 (f.heap.size+1):=⟨Qh _ AQ R.out.1,Qh _ AQ R.out.2.1,Qh _ AQ R.out.2.2⟩;have M9:f.heap.size+1<(W2.setCell ⟨b,k*5+2,none⟩ (.S g 0 ((cm rs n (3*k)).length+1) c)).heap.size:=pY.lt;clear z g2 Z l HC qL lE BW bV y r s t Qh B A E I qN vj U R WQ WR;generalize W2.setCell ⟨b,k*5+2,none⟩ (.S g 0 ((cm rs n (3*k)).length+1) c)=mH at *;clear azf W2;have ni:=azb.out _ pX;have V:Hid (i7 (n0) (b) (hR) _ mH L2 aze):=RE;have Qi:Hid _:=(⟨pj,pX,pY⟩:_/\_/\_);have Il:Hid _:=F;have FG:Hid _:=rQ;have FH:Hid _:=Ru;clear RE pj pX pY F rQ Ru;gi_wp2_with (refine⟨NE,(callsIn_wide.2 (vA J hI _)).mono ?_⟩;rintro e x ⟨rfl,rfl⟩)
   clear ni;obtain⟨azg,jK,WS⟩:=V.out.at_ (3*k+2) AQ;rw[show(3*k+2) / 3*5+2+(3*k+2) % 3=k*5+4 by omega]at WS;have pr:(if 3*k+2=3*k then cm rs n (3*k)++[.I P]else if(3*k+2) / 3<k then cm rs (n+1) (3*k+2)else cm rs n (3*k+2))=cm rs n (3*k+2):=by rw[vby AQ,vby AQ]
   simp only[pr]at jK;obtain⟨j2,r2,rfl⟩:=mg (show x.ownsRow _ (jV (3*k+2)) 1 azg (cm rs n (3*k+2)).length _ from V.out.gY.at jK);have Kg:Hid _:=jK;have WT:Hid _:=WS;have AR:Hid _:=pr;clear jK WS pr;refine wpIn_region_any AB (uP (C:=λW=>ag W (hR) #[.S b 0 4 4] 27) _ _ _ _ ?_);have HC:Hid (ag x.drew (hR) #[.S b 0 4 4] 27):=V.out.bS;refine iF (i:=0) (v:=.P hR 0) Y Y AB AB AB Jj HC.out ⟨Ao,λW d=>Ak,λc=>AS,λ_=>Y⟩ ?_;refine iF (i:=3) (v:=.P hR 0) Y Y AB AB AB Jj HC.out ⟨Ao,λW d=>Ak,λc=>AS,λ_=>Y⟩ ?_;refine iF (i:=2) (v:=.I k) Y Y AB AB AB Jj HC.out ⟨Ao,λW d=>Ak,λc=>AS,λ_=>Y⟩ ?_;refine iF (i:=5) (v:=.I k) Y Y AB AB AB Jj HC.out ⟨Ao,λW d=>Ak,λc=>AS,λ_=>Y⟩ ?_;refine iF (i:=9) (v:=.bool (gw J)) Y Y AB AB AB Jj HC.out ⟨Ao,λW d=>Ak,λc=>AS,λ_=>Y⟩ ?_;refine iF (i:=1) (v:=.S b 0 4 4) Y Y AB AB AB Jj HC.out ⟨Ao,λW d=>B1,λc=>AS,λ_=>Y⟩ ?_;refine iF (i:=4) (v:=.S b 0 4 4) Y Y AB AB AB Jj HC.out ⟨Ao,λW d=>B1,λc=>AS,λ_=>Y⟩ ?_;refine iF (i:=6) (v:=.P b (k*5)) Y Y AB AB AB Jj HC.out ⟨Ao,λW d=>Ak,λc=>AS,λ_=>Y⟩ ?_;refine iF (i:=7) (v:=.P b (k*5+4)) Y Y AB AB AB Jj HC.out ⟨Ao,λW d=>Ak,λc=>AS,λ_=>Y⟩ ?_;have z:x.drew.cell? (.a b (k*5+4))=some (.slice j2 (cm rs n (3*k+2)).length r2):=(V.out.box.rules.1 _).trans WT.out;refine P7 (i:=8) (j:=10) (v:=.slice j2 (cm rs n (3*k+2)).length r2) (u:=.S x.heap.size 0 1 1) (w1:=x.drew.alloc (.cells #[.bool (gw J)] 4)) AB AB AB Y Y AF Y Y AF ⟨Y,Y⟩ (λc=>⟨AS,AS⟩) (λ_ _=>⟨Y,Y⟩) Ak Ak Ak (by have g1:(x.alloc (.cells #[.bool (gw J)] 4)).drew.cell? (.a b (k*5+4))=_:=aV.x_ z (.cells #[.bool (gw J)] 4);go_simp) HC.out (ag.alloc HC.out _) ?_;have Rt:jV (3*k+2)=4:=by simp[jV]
   refine fc (i:=11) AB Y λK hK=>?_;refine P9 M3 _ Y _ _ Y (n0) (.slice j2 (cm rs n (3*k+2)).length r2) (cm rs n (3*k+2)).length (cm rs n (3*k+2)) ((P5 AF).trans (BS C5)) (by have h:=V.out.gY.at Kg.out;rw[show(jV (3*k+2))=4 from Rt]at h;exact World.ownsRow.alloc (w:=x.drew) h _) x.heap.size (.bool (gw J)) (BS C5) (n2 (vbb x.drew _) Y Y) Y (by have:=BT rs n (3*k+2);omega) (by have:=BT rs n (3*k+2);omega) (by have:=AQ;simp;omega) ?_;intro g' c' q B A E;obtain⟨y,r,s,t,LH,Q6,Q3,Qj⟩:=i7.P_ (N:=n0) V.out (j:=3*k+2) AQ (xs:=cm rs n (3*k+2)) AR.out Rt Kg.out B A E AQ AQ (o:=k*5+4) AQ;have qL:=r _ _ _ FH.out.1 Qi.out.1;have lE:=r _ _ _ FH.out.2.1 Qi.out.2.1;have BW:=r _ _ _ FH.out.2.2 Qi.out.2.2;have bV:=r _ _ _ (V.out.ol Il.out Jz) Il.out;refine hK _ _ t ?_;clear hK K;have g2:q.cell? (.a b (k*5+4))=some (.slice j2 (cm rs n (3*k+2)).length r2):=(s.rules.1 _).trans WT.out;have Z:=s.rules.2;have l:Hid (ag q (hR) #[.S b 0 4 4] 27):=t;refine fc (i:=12) AB Y λK hK=>?_;go_simp
   refine hK _ _ l.out ?_;clear hK K;refine fc (i:=13) AB Y λK hK=>?_;go_simp
   refine hK _ _ l.out ?_;clear hK K;refine fc (i:=14) AB Y λK hK=>?_;go_simp
   refine hK _ _ (ag.fg l.out BA _) ?_;clear hK K;refine uQ AB ?_ _;have pj:=qL.fg (a:=⟨b,k*5+4,none⟩) AA (.S g' 0 ((cm rs n (3*k+2)).length+1) c');have pX:=lE.fg (a:=⟨b,k*5+4,none⟩) AA (.S g' 0 ((cm rs n (3*k+2)).length+1) c');have pY:=BW.fg (a:=⟨b,k*5+4,none⟩) AA (.S g' 0 ((cm rs n (3*k+2)).length+1) c');have F:=bV.fg (a:=⟨b,k*5+4,none⟩) AA (.S g' 0 ((cm rs n (3*k+2)).length+1) c');have rR:Below n0 w0 (q.setCell ⟨b,k*5+4,none⟩ (.S g' 0 ((cm rs n (3*k+2)).length+1) c')):=(FG.out.trans y).setCell (p:=⟨b,k*5+4,none⟩) AQ _;have Q0:iz LH m/\iz LH (f.heap.size)/\iz LH (f.heap.size+1):=⟨Qj _ AQ FH.out.1,Qj _ AQ FH.out.2.1,Qj _ AQ FH.out.2.2⟩;have pW:Hid (i7 (n0) (b) (hR) _ (q.setCell ⟨b,k*5+4,none⟩ (.S g' 0 ((cm rs n (3*k+2)).length+1) c')) LH Q6):=Q3;have sm:Hid _:=And.intro F (And.intro rR (And.intro (And.intro pj (And.intro pX pY)) Q0));clear z g2 Z l HC qL lE BW bV y r s t Qj B A E V Qi Il FG FH Kg WT Q3 F rR pj pX pY Q0;generalize q.setCell ⟨b,k*5+4,none⟩ (.S g' 0 ((cm rs n (3*k+2)).length+1) c')=aJR at *;clear q;gi_wp2
   go_roundw
   case rel=>
    refine⟨k+1,LH,Q6,AQ,AS,pW.out.congr λj hj=>?_,sm.out.1,sm.out.2.1,sm.out.2.2.1,sm.out.2.2.2⟩;by_cases e2:j=3*k+2
    .subst e2;rw[vca Y,vca AQ,FC rs xR,WO.out.2.2]
    .rw[vby e2];by_cases e0:j=3*k
     .subst e0;rw[vca Y,vca AQ,FC rs xR,WO.out.1]
     .rw[vby e0];by_cases e1:j=3*k+1
      .subst e1;rw[vby AQ,vca AQ,FC rs xR,WO.out.2.1,vdc]
      .by_cases e3:j / 3<k
       .rw[vca e3,vca AQ]
       .rw[vby e3,vby AQ]
   case measure=>simp[intOf];omega
  .obtain rfl:k=3:=by omega
   clear mi Ik b4;obtain⟨f1,f2,f3⟩:=S.all;have vj:Hid _:=hZ;have U:Hid _:=bl;have R:Hid _:=Qg;have QZ:Hid _:=S;clear S ve Lz hZ bl Qg WN;gi_wp2_with (first|(refine⟨NE,(callsIn_wide.2 (auu _ i3 _)).mono ?_⟩;rintro e x ⟨rfl,nP⟩;apply qq))
   unfold hM;have S:=ag.call QZ.out nP;have QY:=I.out.below nP;have h4:=ag.call vj.out nP;have z2:Below n0 w0 x:=U.out.trans (nP.mono (vad FF.out U.out.size));clear f1 f2 f3 nP QZ vj U I;obtain⟨f1,f2,f3⟩:=S.all;have Q:Hid (i7 (n0) (b) (hR) _ x Qf cs1):=QY;have Ik:Hid _:=h4;have p2:Hid _:=z2;clear QY h4 z2 S;gi_wp2_with (refine⟨NE,(callsIn_wide.2 (vA _ i3 _)).mono ?_⟩;rintro e q ⟨rfl,rfl⟩)
   clear f1 f2 f3;obtain⟨azh,Qk,Qy⟩:=Q.out.at_ 10 AQ;have N4:(if 10 / 3<3 then cm rs (n+1) 10 else cm rs n 10)=cm rs n 10:=by rw[vby AQ]
   simp at Qk;obtain⟨Ql,Qm,rfl⟩:=mg (show q.ownsRow _ (jV 10) 1 azh (cm rs n 10).length _ from Q.out.gY.at Qk);have WU:Hid _:=Qk;have WV:Hid (cs1[18]?=some _):=Qy;have wS:Hid _:=N4;clear Qk Qy N4;refine wpIn_region_any AB (uP (C:=λW=>ag W (hR) #[.S b 0 4 4] 27) _ _ _ _ ?_);have HC:Hid (ag q.drew (hR) #[.S b 0 4 4] 27):=Q.out.bS;refine iF (i:=0) (v:=.P hR 0) Y Y AB AB AB Jj HC.out ⟨Ao,λW d=>Ak,λc=>AS,λ_=>Y⟩ ?_;refine iF (i:=2) (v:=.P hR 0) Y Y AB AB AB Jj HC.out ⟨Ao,λW d=>Ak,λc=>AS,λ_=>Y⟩ ?_;refine iF (i:=7) (v:=.string (nT rs[n].2.2.2)) Y Y AB AB AB Jj HC.out ⟨Ao,λW d=>Ak,λc=>AS,λ_=>Y⟩ ?_;refine iF (i:=1) (v:=.S b 0 4 4) Y Y AB AB AB Jj HC.out ⟨Ao,λW d=>B1,λc=>AS,λ_=>Y⟩ ?_;refine iF (i:=3) (v:=.S b 0 4 4) Y Y AB AB AB Jj HC.out ⟨Ao,λW d=>B1,λc=>AS,λ_=>Y⟩ ?_;refine iF (i:=4) (v:=.P b 15) Y Y AB AB AB Jj HC.out ⟨Ao,λW d=>Ak,λc=>AS,λ_=>Y⟩ ?_;refine iF (i:=5) (v:=.P b 18) Y Y AB AB AB Jj HC.out ⟨Ao,λW d=>Ak,λc=>AS,λ_=>Y⟩ ?_;have z:q.drew.cell? (.a b 18)=some (.slice Ql (cm rs n 10).length Qm):=(Q.out.box.rules.1 _).trans WV.out;refine P7 (i:=6) (j:=8) (v:=.slice Ql (cm rs n 10).length Qm) (u:=.S q.heap.size 0 1 1) (w1:=q.drew.alloc (.cells #[.string (nT rs[n].2.2.2)] 9)) AB AB AB Y Y AF Y Y AF ⟨Y,Y⟩ (λc=>⟨AS,AS⟩) (λ_ _=>⟨Y,Y⟩) Ak Ak Ak (by have g1:(q.alloc (.cells #[.string (nT rs[n].2.2.2)] 9)).drew.cell? (.a b 18)=_:=aV.x_ z (.cells #[.string (nT rs[n].2.2.2)] 9);go_simp) HC.out (ag.alloc HC.out _) ?_;refine fc (i:=9) AB Y λK hK=>?_;refine P9 ZR _ Y _ _ Y (n0) (.slice Ql (cm rs n 10).length Qm) (cm rs n 10).length (cm rs n 10) ((P5 AF).trans (BS C5)) (World.ownsRow.alloc (w:=q.drew) (show q.ownsRow _ 9 1 _ (cm rs n 10).length _ from Q.out.gY.at WU.out) _) q.heap.size (.string (nT rs[n].2.2.2)) (BS C5) (n2 (vbb q.drew _) Y Y) Y (by grind[BT]) (by grind[BT]) (by have:=vad FF.out p2.out.size;simp;omega) ?_;intro Qn sZ Im B A E;obtain⟨y,r,s,t,L7,wR,LI,-⟩:=i7.P_ (N:=n0) Q.out (j:=10) AQ (xs:=cm rs n 10) wS.out Y WU.out B A E AQ (vad FF.out p2.out.size) (o:=18) AQ;have bV:=r _ _ _ (Q.out.ol Ik.out Jz) Ik.out;refine hK _ _ t ?_;clear hK K;have g2:Im.cell? (.a b 18)=some (.slice Ql (cm rs n 10).length Qm):=(s.rules.1 _).trans WV.out;have Z:=s.rules.2;have l:Hid (ag Im (hR) #[.S b 0 4 4] 27):=t;refine fc (i:=10) AB Y λK hK=>?_;go_simp
   refine hK _ _ l.out ?_;clear hK K;refine fc (i:=11) AB Y λK hK=>?_;go_simp
   refine hK _ _ l.out ?_;clear hK K;refine fc (i:=12) AB Y λK hK=>?_;go_simp
   refine hK _ _ (ag.fg l.out AA _) ?_;clear hK K;refine uQ AB ?_ _;have F:=bV.fg (a:=⟨b,18,none⟩) AA (.S Qn 0 ((cm rs n 10).length+1) sZ);have LJ:Below n0 w0 (Im.setCell ⟨b,18,none⟩ (.S Qn 0 ((cm rs n 10).length+1) sZ)):=(p2.out.trans y).setCell (p:=⟨b,18,none⟩) AQ _;have X:Hid (i7 (n0) (b) (hR) _ (Im.setCell ⟨b,18,none⟩ (.S Qn 0 ((cm rs n 10).length+1) sZ)) L7 wR):=LI;have WW:Hid _:=F;have Qo:Hid _:=LJ;clear z g2 Z l HC bV y r s t B A E Q WU WV wS LI F LJ Ik p2;generalize Im.setCell ⟨b,18,none⟩ (.S Qn 0 ((cm rs n 10).length+1) sZ)=H at *;clear Im;gi_wp2
   obtain⟨azi,Qp,wK⟩:=X.out.at_ 11 AQ;have wI:(if 11=10 then cm rs n 10++[.string (nT rs[n].2.2.2)]else if 11 / 3<3 then cm rs (n+1) 11 else cm rs n 11)=cm rs n 11:=by rw[vby AQ,vby AQ]
   simp at Qp;obtain⟨Qq,Qr,rfl⟩:=mg (show H.ownsRow _ (jV 11) 1 azi (cm rs n 11).length _ from X.out.gY.at Qp);have WX:Hid _:=Qp;have WY:Hid (wR[19]?=some _):=wK;have wG:Hid _:=wI;clear Qp wK wI;refine wpIn_region_any AB (uP (C:=λW=>ag W (hR) #[.S b 0 4 4] 27) _ _ _ _ ?_);have HC:Hid (ag H.drew (hR) #[.S b 0 4 4] 27):=X.out.bS;refine iF (i:=0) (v:=.P hR 0) Y Y AB AB AB Jj HC.out ⟨Ao,λW d=>Ak,λc=>AS,λ_=>Y⟩ ?_;refine iF (i:=2) (v:=.P hR 0) Y Y AB AB AB Jj HC.out ⟨Ao,λW d=>Ak,λc=>AS,λ_=>Y⟩ ?_;refine iF (i:=7) (v:=.bool (gw rs[n].2.2.2)) Y Y AB AB AB Jj HC.out ⟨Ao,λW d=>Ak,λc=>AS,λ_=>Y⟩ ?_;refine iF (i:=1) (v:=.S b 0 4 4) Y Y AB AB AB Jj HC.out ⟨Ao,λW d=>B1,λc=>AS,λ_=>Y⟩ ?_;refine iF (i:=3) (v:=.S b 0 4 4) Y Y AB AB AB Jj HC.out ⟨Ao,λW d=>B1,λc=>AS,λ_=>Y⟩ ?_;refine iF (i:=4) (v:=.P b 15) Y Y AB AB AB Jj HC.out ⟨Ao,λW d=>Ak,λc=>AS,λ_=>Y⟩ ?_;refine iF (i:=5) (v:=.P b 19) Y Y AB AB AB Jj HC.out ⟨Ao,λW d=>Ak,λc=>AS,λ_=>Y⟩ ?_;have z:H.drew.cell? (.a b 19)=some (.slice Qq (cm rs n 11).length Qr):=(X.out.box.rules.1 _).trans WY.out;refine P7 (i:=6) (j:=8) (v:=.slice Qq (cm rs n 11).length Qr) (u:=.S H.heap.size 0 1 1) (w1:=H.drew.alloc (.cells #[.bool (gw rs[n].2.2.2)] 4)) AB AB AB Y Y AF Y Y AF ⟨Y,Y⟩ (λc=>⟨AS,AS⟩) (λ_ _=>⟨Y,Y⟩) Ak Ak Ak (by have g1:(H.alloc (.cells #[.bool (gw rs[n].2.2.2)] 4)).drew.cell? (.a b 19)=_:=aV.x_ z (.cells #[.bool (gw rs[n].2.2.2)] 4);go_simp) HC.out (ag.alloc HC.out _) ?_;refine fc (i:=9) AB Y λK hK=>?_;refine P9 M3 _ Y _ _ Y (n0) (.slice Qq (cm rs n 11).length Qr) (cm rs n 11).length (cm rs n 11) ((P5 AF).trans (BS C5)) (World.ownsRow.alloc (w:=H.drew) (show H.ownsRow _ 4 1 _ (cm rs n 11).length _ from X.out.gY.at WX.out) _) H.heap.size (.bool (gw rs[n].2.2.2)) (BS C5) (n2 (vbb H.drew _) Y Y) Y (by grind[BT]) (by grind[BT]) (by have:=vad FF.out Qo.out.size;simp;omega) ?_;intro Qs In Io B A E;obtain⟨y,r,s,t,wF,wE,LI,-⟩:=i7.P_ (N:=n0) X.out (j:=11) AQ (xs:=cm rs n 11) wG.out Y WX.out B A E AQ (vad FF.out Qo.out.size) (o:=19) AQ;have bV:=r _ _ _ (X.out.ol WW.out Jz) WW.out;refine hK _ _ t ?_;clear hK K;have g2:Io.cell? (.a b 19)=some (.slice Qq (cm rs n 11).length Qr):=(s.rules.1 _).trans WY.out;have Z:=s.rules.2;have l:Hid (ag Io (hR) #[.S b 0 4 4] 27):=t;refine fc (i:=10) AB Y λK hK=>?_;go_simp
   refine hK _ _ l.out ?_;clear hK K;refine fc (i:=11) AB Y λK hK=>?_;go_simp
   refine hK _ _ l.out ?_;clear hK K;refine fc (i:=12) AB Y λK hK=>?_;go_simp
   refine hK _ _ (ag.fg l.out AA _) ?_;clear hK K;refine uQ AB ?_ _;have F:=bV.fg (a:=⟨b,19,none⟩) AA (.S Qs 0 ((cm rs n 11).length+1) In);have LJ:Below n0 w0 (Io.setCell ⟨b,19,none⟩ (.S Qs 0 ((cm rs n 11).length+1) In)):=(Qo.out.trans y).setCell (p:=⟨b,19,none⟩) AQ _;have azj:Hid (i7 (n0) (b) (hR) _ (Io.setCell ⟨b,19,none⟩ (.S Qs 0 ((cm rs n 11).length+1) In)) wF wE):=LI;have azk:Hid _:=F;have azl:Hid _:=LJ;clear z g2 Z l HC bV y r s t B A E X WX WY wG LI F LJ WW Qo;generalize Io.setCell ⟨b,19,none⟩ (.S Qs 0 ((cm rs n 11).length+1) In)=agi at *;clear Io;gi_wp2
   refine⟨Y,⟨Y,Y,Y,Y,Y,Y⟩,⟨wF,wE,azj.out.congr λj hj=>?_⟩,azk.out,azl.out⟩;by_cases ya:j=11
   .subst ya;rw[vca Y,FC rs xR];rfl
   .rw[vby ya];by_cases Ai:j=10
    .subst Ai;rw[vca Y,FC rs xR];rfl
    .rw[vby Ai];by_cases Ly:j / 3<3
     .rw[vca Ly]
     .obtain rfl:j=9:=by omega
      rw[vby Ly,FC rs xR,show wQ rs[n] 9=[]from Y,vdc]
end
end e9
namespace aV
open Conc ConcM RowKit av bj cV dx bd b_ e9
section
variable{n0:Nat}
def Qt{a:Act}(h:a.tmps.size=123)(hd:a.defers=[]):∃f:Nat->Value,a=⟨#[f 0,f 1,f 2,f 3,f 4,f 5,f 6,f 7,f 8,f 9,f 10,f 11,f 12,f 13,f 14,f 15,f 16,f 17,f 18,f 19,f 20,f 21,f 22,f 23,f 24,f 25,f 26,f 27,f 28,f 29,f 30,f 31,f 32,f 33,f 34,f 35,f 36,f 37,f 38,f 39,f 40,f 41,f 42,f 43,f 44,f 45,f 46,f 47,f 48,f 49,f 50,f 51,f 52,f 53,f 54,f 55,f 56,f 57,f 58,f 59,f 60,f 61,f 62,f 63,f 64,f 65,f 66,f 67,f 68,f 69,f 70,f 71,f 72,f 73,f 74,f 75,f 76,f 77,f 78,f 79,f 80,f 81,f 82,f 83,f 84,f 85,f 86,f 87,f 88,f 89,f 90,f 91,f 92,f 93,f 94,f 95,f 96,f 97,f 98,f 99,f 100,f 101,f 102,f 103,f 104,f 105,f 106,f 107,f 108,f 109,f 110,f 111,f 112,f 113,f 114,f 115,f 116,f 117,f 118,f 119,f 120,f 121,f 122],[]⟩:=by
 obtain⟨l,ds⟩:=a;have hd:ds=[]:=hd;subst hd;have h:l.size=123:=h;refine⟨λi=>l.getD i undef,?_⟩;have e1:l.toList=(List.range 123).map λi=>l.getD i undef:=by
  apply vbx
  .grind
  simp_all
 have e2:List.range 123=[0,1,2,3,4,5,6,7,8,9,10,11,12,13,14,15,16,17,18,19,20,21,22,23,24,25,26,27,28,29,30,31,32,33,34,35,36,37,38,39,40,41,42,43,44,45,46,47,48,49,50,51,52,53,54,55,56,57,58,59,60,61,62,63,64,65,66,67,68,69,70,71,72,73,74,75,76,77,78,79,80,81,82,83,84,85,86,87,88,89,90,91,92,93,94,95,96,97,98,99,100,101,102,103,104,105,106,107,108,109,110,111,112,113,114,115,116,117,118,119,120,121,122]:=AD;rw[e2]at e1;simp only[vej,List.map_nil]at e1;have e3:l=l.toList.toArray:=AS;rw[e1]at e3;grind
def Ip(f:Func):Code:=.seq (.seq (.region 3 (dT f 3) false) (.cond (.tmp 28) .skip (.exit 0))) (.seq (.block 1 (.seq (.region 5 (dT f 5) false) (tX f 5))) (.region 4 (az f 4) false))
def FI(f:Func):List Item:=[.inLoop (Ip f),.inBlock 0,.code (.seq (.region 18 (dT f 18) false) .ret)]
def p4(f:Func):List Item:=.code (.cond (.tmp 28) .skip (.exit 0)):: .code (.seq (.block 1 (.seq (.region 5 (dT f 5) false) (tX f 5))) (.region 4 (az f 4) false))::FI f
def FJ(f:Func):List Item:=.code (tX f 5):: .inBlock 1:: .code (.region 4 (az f 4) false)::FI f
theorem azm:BH Tryz.f4=.seq (.region 0 (dT Tryz.f4 0) false) (.seq (.region 1 (dT Tryz.f4 1) false) (.seq (.seq (.region 2 (dT Tryz.f4 2) false) (.block 0 (.loop (Ip Tryz.f4)))) (.seq (.region 18 (dT Tryz.f4 18) false) .ret))):=by kernel_rfl
def i8(n0:Nat)(rs:List dQ)(n:Nat):List (Nat×(aR->Value->Prop)):=[(1,eO (.I 40)),(4,FE n0),(5,FD n0 (cm rs n)),(6,eO (.I n))]
theorem Iq rs n:∀p∈i8 n0 rs n,kY n0 p.2:=by intro p a;simp[i8]at a;grind[Bn,axE,axF,axL]
end
def tZ(t:List a9):bg:=⟨Ib 0 t,(Ie 0 t).jS,λ_=>True,λn _ ρ w w' v v' hc hv h=>by
 have:=Ws (n0:=0) t ρ w w' v v' ⟨hc.cells,hc.types,λ_ _ _ _=>vax _,hc.inj⟩ hv h
 grind⟩
section
variable{N:Nat}{K:b6}{o:Oper}{F:bg}{x y z:uam}{aq:Type}{T T':uaa}
def vH{t w v}(h:(tZ t).R w v):∃b,v=.P b 0/\∃aW,w.cell? (.a b 0)=some aW/\lv w aW t:=by obtain⟨b,aW,rfl,-,h1,h2⟩:=h;exact⟨b,Y,aW,(h1.rules.1 0).trans Y,h2⟩
def LP{t}(a:o.op=.fieldAddr 27 x 0)(c:bw K x (tZ t)):bU vfc N K o (ji (HU 5 VR) t):=fe c λev w h=>by obtain⟨b,e,aW,h1,h2⟩:=vH h;exact⟨.P b 0,w,A9,⟨b,0,Y,aW,h1,h2.cQ⟩,vaa _ _⟩
def Qz{t}(a:o.op=.load 27 x)(c:bw K x (tZ t)):bU vfc N K o (rW t):=fe c λev w h=>by obtain⟨b,e,aW,h1,h2⟩:=vH h;exact⟨.agg #[aW],w,A9,⟨aW,Y,h2⟩,vaa _ _⟩
def azN{m n}(a:o.op=.load 24 x)(c:bw K x (vi m n)):bU vfc N K o (PY m n):=fe c λev w h=>by obtain⟨b,f,e,h0,h1⟩:=h;simp only[vcc]at h0 h1;exact⟨.agg #[.I m,.I n],w,A9,Y,vaa _ _⟩
def azO{t}(a:o.op=.extract x 0)(b:bw K x (Pw t)):bU vfc N K o (rW t):=fe b λev w h=>by obtain⟨aW,e,h1⟩:=h;exact⟨.agg #[aW],w,A9,⟨aW,Y,h1⟩,vaa _ _⟩
def azP{t}(a:o.op=.extract x 1)(b:bw K x (Pw t)):bU vfc N K o (dt true):=fe b λev w h=>by obtain⟨aW,e,h1⟩:=h;exact⟨.T,w,A9,Y,vaa _ _⟩
end
section
section
variable{N:Nat}{K:b6}{o o2:Oper}{F:bg}{x y z:uam}{aq:Type}{T T':uaa}
section
variable{ops:fF}{i d s:Nat}{Q:uao}{rest:uac}{a:Act}{w:aR}
def azR{t}(h1:ops[i]?=some o)(h2:ops[i+1]?=some o2)(e:o.op=.alloc 27)(c:o2.op=.store 27 (.tmp d) (.tmp s))(j:K s=some (rW t))(hk:ak N K a w)(hd:o.dst=some d)(f:o2.dst=none)(g1:o.guard=none)(l:o2.guard=none)(a5:d<N)(r:d≠s)(k:∀a' w1,ak N (up K d (tZ t)) a' w1->a'.defers=a.defers->c6 w w1->wpOps vfc ops Q rest a' w1):wpOps vfc ops Q (i::(i+1)::rest) a w:=by
 obtain⟨v,e1,aW,rfl,h⟩:=hk.has s _ j;obtain⟨⟨q,p,rfl,-,-⟩,-⟩:=id h;have b:c6 w (w.alloc (.cells #[.slice q t.length p] 27)):=(vaa _ w).alloc JR _;have m:Hid _:=h;clear h;refine VX (F:=tZ t) (z7:=w.alloc (.cells #[.N] 27)) h1 h2 g1 l hd f a5 r hk e1 (λev=>?_) (λev aZ a3=>?_) b ⟨w.heap.size,_,Y,vax _,ag.new _ _ _,lv.kept (Fq b) m.out⟩ λa' n g=>k a' _ n g b
 .cases o;simp only at e;subst e;go_simp
 .cases o2;simp only at c;subst c;go_simp
end
end
end
section
section
variable{N:Nat}{K:b6}{o:Oper}{F:bg}{x y z:uam}{aq:Type}{T T':uaa}{P:cE}
end
end
end aV
namespace aV
open Conc ConcM RowKit av bj cV dx gD
section
variable{O:gW}
section
variable{P:cE}{Post:hV}{n:Nat}{Shun:ual}{M:dL}{w:aR}{f:uak}{a b:Act}{k k':uab}{cs:hH}{n0:Nat}{aD:dL}{w0:aR}{N:Nat}{K:b6}
def azS(o:(dr P).Good)(A:jQ P f){D:fT}(x:DC P D)(u:jv D a b)(t:k.all (fK D.1)=true)(H:Held O P aD w0 n0 a M w Shun)(hk:k.all (fB P)=true)(K:k'.all (fB P)=true){U:dL}{I J:uae}(hI:o9 n0 I)(E:o9 n0 J)(h0:I a w)(hrun:∀W,n0<=W.heap.size->I a W->bI (ae P true) k k' (λa1 w1=>a1.defers=[]/\(∀s,U s->a1.tmps[s]?=a.tmps[s]?)/\J a1 w1/\Below n0 W w1) a W)(F:∀a' h M' w',Held O P aD w0 n0 a' M' w' Shun->jv D a' h->(∀s,U s->a'.tmps[s]?=a.tmps[s]?)->J a' w'->bT P Post n Shun 0 (a4 ((base f).at h k') cs) w'):
 bT P Post n Shun 0 (a4 ((base f).at b k) cs) w:=by
 refine Od o H.fC (f:=f) (cs0:=[]) (Kk:=[]) (bs:=cs) (u.rel o A x H.all H.defers hk t) .nil ⟨Y,Y⟩ (R:=λp cse d m=>cse=[]/\∃a1,p=(base f).at a1 k'/\a1.defers=[]/\(∀s,U s->a1.tmps[s]?=a.tmps[s]?)/\J a1 m/\∃T,Below n0 {d with tape:=T} m) (λd i T=>?_) ?_
 .obtain⟨a1,w1,⟨h1,j,h2,h3⟩,h4⟩:=hrun {d with tape:=T} (by show n0<=d.heap.size;rw[i.size];exact H.size) (hI _ _ _ _ _ (H.fC.my i T) H.all h0) (base f) [fL f];exact⟨_,[],w1,h4,Y,a1,Y,h1,j,h2,T,h3⟩
 .rintro ρ p cse d m N L w' i ⟨rfl,a1,rfl,q,j,h1,T,h2⟩ r l c;cases l;obtain⟨a',h,rfl,h3,B,h4⟩:=abV q K r;refine F a' h (qD ρ) w' (H.next i c h2 (c.all h3) h4) B (λs hs=>?_) (E _ _ _ _ _ (c.my H.size) h3 h1);have e:=j s hs;cases g:a.tmps[s]? with|none=>rw[g]at e;have:=h3.size;grind|some v=>rw[g]at e;obtain⟨v',z,y⟩:=h3.some e;obtain⟨S,C⟩:=c.rel;rw[z,Oc C.one y ((H.all.get _ _ _ g g).mono c.le)]
structure Iv(O:gW)(P:cE)(N:Nat)(K:b6)(aD:dL)(w0:aR)(nW:Act):Prop where
 fC:∃Shun,Home O P aD Shun w0
 all:aJ (b7 aD) nW.tmps nW.tmps
 br:ak N K nW w0
 ok:∀s F,K s=some F->F.ok w0.heap.size
def FK(K:b6)(nW a:Act):Prop:=∀s F,K s=some F->a.tmps[s]?=nW.tmps[s]?
def Iv.now{nW}(p:Iv O P N K aD w0 nW)(H:Held O P aD w0 w0.heap.size a M w Shun)(hs:FK K nW a)(a5:a.tmps.size=N):ak N K a w:=by
 obtain⟨S,h⟩:=p.fC;have f:∀b,aD b->b<w0.heap.size:=λb d=>by obtain⟨o,h1,-⟩:=h.cl b d;grind
 have g:dy aD w0 w:=λb c e fr d i=>H.keep b c e fr ⟨d,f b d⟩ i;refine⟨a5,λs F e=>?_⟩;obtain⟨v,h1,h2⟩:=p.br.has s F e;exact⟨v,(hs s F e).trans h1,F.f7 _ (p.ok s F e) _ _ _ _ _ (g.my h) (p.all.get _ _ _ h1 h1) h2⟩
def Held.azU(H:Held O P aD w0 n0 a M w Shun):Held O P M w w.heap.size a M w Shun:=.start H.fC (vac _) H.all H.defers
def Held.phase(H:Held O P aD w0 n0 a M w Shun)(hk:ak N K a w)(hok:∀s F,K s=some F->F.ok w.heap.size):Iv O P N K M w a:=⟨⟨_,H.fC⟩,H.all,hk,hok⟩
def Held.back{a' M' w' e}(H:Held O P aD w0 n0 a M w Shun)(c:Held O P M w w.heap.size a' M' w' e):Held O P aD w0 n0 a' M' w' e:=
 ⟨c.fC,λb d=>c.sub b (H.sub b d),H.since.trans c.since,H.keep.trans (M':=λb=>M b/\b<w.heap.size) (λb d=>⟨H.sub b d.1,vak d.2 H.size⟩) c.keep,c.all,c.defers,vad H.size c.since.size⟩
variable{ops:fF}{i:Nat}{rest:uac}{o:Oper}{nW:Act}
def azV(hC:(dr P).Good)(tK:P.follows .mixedOrders=true)(T:jQ P f){D:fT}(C:Ij P ops k D)(hk:(Item.inRegion ops []::k).all (fB P)=true)(p:Iv O P N K aD w0 nW)(agy:∀(i:Nat)(o:Oper)(d:Nat),ops[i]?=some o->o.dst=some d->K d=none)(g:Nat){j:Oper}{d:Nat}{gf:uak}{cA:Func}{gV:Code}{args:uay}{ats:uaq}(R:ops[g]?=some j)(z:j.op=.call {callee:=.value (.func gf),args,argTypes:=ats})(vV:P.funcs[gf]?=some cA)(kF:(cA.name== "runtime.NumGoroutine")=false)(hb:cA.body=some gV)(c_:j.guard=none)(lu:gD.hX D.1 j=true)(hn:n+16*d<=200){I:ubp}(hI:∀ar,o9 w0.heap.size (I ar)){l:Tmp}(iv:j.dst=some l)(Hg:l<N){iP:uaw}(hsz:∀ar a w,I ar a w->ar.size=ops.size/\a.tmps.size=N)(m:jv D a b)(H:Held O P aD w0 w0.heap.size a M w Shun)(hst:FK K nW a)(h0:I (Array.replicate ops.size false) a w)(hstep:∀ar a W i o,ak N K a W->I ar a W->a.defers=[]->w0.heap.size<=W.heap.size->i≠g->ar.getD i true=false->ops[i]?=some o->(∀e∈o.after,Region.binds .any e=true->ar.getD e.on false=true)->wpOps (ae P true) ops (jg λa1 w1=>((∃d v,o.dst=some d/\a1=a.put (some d) v)\/a1=a)/\I (ar.setIfInBounds i true) a1 w1/\Below w0.heap.size W w1) [i] a W)(iS:∀ar a M w Shun,Held O P aD w0 w0.heap.size a M w Shun->ak N K a w->I ar a w->ar.getD g false=false->(∀e∈j.after,Region.binds .any e=true->ar.getD e.on false=true)->fZ O P Post gf (args.map a.eval) M w d (λu _ w'=>iP w' u/\dy M w w'))(jw:∀ar a w u,I ar a w->ar.getD g false=false->(∀e∈j.after,Region.binds .any e=true->ar.getD e.on false=true)->iP w u->I (ar.setIfInBounds g true) (a.put (some l) u) w)(ki:∀ar a b M' w' c q,ak N K a w'->I ar a w'->Region.ready .any ops ar=[]->c<=n+16*d->Held O P aD w0 w0.heap.size a M' w' q->jv D a b->FK K nW a->bT P Post c q 0 (a4 ((base f).at b (.R ops []::k)) cs) w'){id:Nat}:bT P Post n Shun 0 (a4 ((base f).at b (.code (.region id ops true)::k)) cs) w:=by
 have Z:∀ar a M w Shun k,Held O P aD w0 w0.heap.size a M w Shun->I ar a w->I ar a (w.at k):=λar a M w Shun k H h=>hI ar _ _ _ _ _ ((show dy M w (w.at k)from λ_ _ _ _ _ x=>x).my H.fC) H.all h;refine abZ tK (I:=λar b M w c Shun=>∃a,jv D a b/\Held O P aD w0 w0.heap.size a M w Shun/\FK K nW a/\I ar a w/\c<=n+16*d/\(ar.getD g false=false->c<=n)) (λar b M w c Shun k⟨a,hv,h,hs,hi,h'⟩=>⟨a,hv,h.at k,hs,Z _ _ _ _ _ _ h hi,h'⟩) ?_ (λar b M w c Shun⟨a,hv,h,hs,hi,h1,_⟩ hr=>ki ar a b M w c Shun (p.now h hs (hsz _ _ _ hi).2) hi hr h1 h hv hs) ⟨a,m,H,hst,h0,vee _ _,λ_=>vac _⟩;intro ar b M w c Shun i o rest ⟨a,m,H,hst,hi,Cx,tO⟩ lf A t K';have su:i<ar.size:=by grind
 by_cases Q:i=g
 .subst Q;rw[R]at A;cases A;have S:ar.getD i false=false:=by grind
  have r:=(hsz _ _ _ hi).2;refine axA z vV kF hb AA T C m H hk R c_ ⟨iv,AA⟩ lu (I:=I ar) (J:=λa' w'=>(∃u,a'=a.put (some l) u)/\I (ar.setIfInBounds i true) a' w') (iP:=iP) (hI ar) hi (λk=>iS ar a M (w.at k) Shun (H.at k) (p.now (H.at k) hst r) (Z _ _ _ _ _ _ H hi) S t) (λu w' h1 h2=>⟨⟨u,Y⟩,jw ar a w' u h1 S t h2⟩) ?_;rintro a' E M' w' ik q h1 h2 y ⟨⟨u,rfl⟩,h3⟩;refine K' E M' w' ik q ⟨_,y,h2,λs F e=>?_,h3,AA,λh=>?_⟩
  .have B:l≠s:=λx=>by grind
   exact(hQ B).trans (hst s F e)
  .simp_all
 .have r:=(hsz _ _ _ hi).2;refine azS hC T C.fn m (C.all _) H (k:=.R ops (i::rest)::k) (k':=.R ops rest::k) CQ CQ (U:=λs=>∃F,K s=some F) (I:=λa w=>ak N K a w/\I ar a w) (J:=I (ar.setIfInBounds i true)) (λρ a1 a6 w1 L V X h=>⟨kZ _ p.ok ρ a1 a6 w1 L V X h.1,hI ar ρ a1 a6 w1 L V X h.2⟩) (hI _) ⟨p.now H hst r,hi⟩ (λW hW Oi b cs=>?_) ?_
  .obtain⟨a1,w1,h1,h2⟩:=Kl rest [i] a W (hstep ar a W i o Oi.1 Oi.2 H.defers hW Q lf A t) b k cs;refine⟨a1,w1,?_,h2⟩;obtain⟨h3,h4,aP⟩:=h1;rcases h3 with⟨d',v,jn,rfl⟩|rfl
   .refine⟨H5,λs hs=>?_,h4,aP⟩;grind[hQ]
   .exact⟨H.defers,λ_ _=>Y,h4,aP⟩
  .intro a' E M' w' h2 y hu h3;refine K' E M' w' c Shun ⟨a',y,h2,λs F e=>(hu s ⟨F,e⟩).trans (hst s F e),h3,Cx,λh=>tO ?_⟩;simp_all
