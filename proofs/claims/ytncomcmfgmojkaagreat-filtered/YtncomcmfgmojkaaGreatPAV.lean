import Derived.Test.YtncomcmfgmojkaaGreatPAU
set_option linter.all false
set_option maxRecDepth 100000
set_option maxHeartbeats 16000000
namespace Go.Proofs.YtncomcmfgmojkaaGreat
open Go.Proofs.Tryz
namespace aG
open Conc ConcM RowKit av bn cz c5 bZ bN cM
section
variable{O:gW}
@[simp] theorem Xk (a:Array Value) (w:aO):Sem.run (ae prog true) (callFunc 20 a) w=.ok (.enter 20 a) w:=cB (a6 (upd:=true) func20 AV) AV a w
@[simp] theorem Xj (a:Array Value) (w:aO):Sem.run (ae prog true) (callFunc 21 a) w=.ok (.enter 21 a) w:=cB (a6 (upd:=true) func21 AV) AV a w
theorem aul(W ao:Nat)(h1:0<W)(g:W<=16)(h3:0<ao)(f:ao<=64)(w:aO):Calls (ae prog true) 20 #[.agg #[.int .i64 W,.int .i64 ao]] w λe w'=>e=.returned (.bool true)/\Below w.heap.size w w':=by
 have d:(1:Int)<=(W:Int):=As;have c:(W:Int)<=16:=As;have b:(1:Int)<=(ao:Int):=As;have a:(ao:Int)<=64:=As;go_enter (a6 (upd:=true) func20 AV),ntmps20
 go_wp2
 go_ret
 exact⟨Y,(Below.refl _ _).alloc J1 _⟩
@[simp] theorem aum (a:Array Value) (w:aO):Sem.run (ae prog true) (callFunc 24 a) w=.ok (.enter 24 a) w:=cB (a6 (upd:=true) func24 AV) AV a w
@[simp] theorem aun (a:Array Value) (w:aO):Sem.run (ae prog true) (callFunc 23 a) w=.ok (.enter 23 a) w:=cB (a6 (upd:=true) func23 AV) AV a w
theorem auo(a:Array Value)(w:aO):Sem.run (ae prog true) (callFunc 32 a) w=.ok (.enter 32 a) w:=cB (a6 (upd:=true) Tryz.func32 AV) AV a w
def aup(a:Array Value)(w:aO):Sem.run (ae prog true) (callFunc 31 a) w=.ok (.enter 31 a) w:=cB (a6 (upd:=true) Tryz.func31 AV) AV a w
def auq(a:Option Addr)(c cc:Nat)(w:aO):Calls (ae prog true) 24 #[.slice a c cc] w λe w'=>∃b,e=.returned (.func (.func 32) #[] #[.pointer (some ⟨b,0,none⟩)])/\w'.cell? ⟨b,0,none⟩=some (.slice a c cc)/\Below w.heap.size w w':=by
 go_enter (a6 (upd:=true) func24 AV),ntmps24
 go_wp2
 go_ret
 exact⟨_,Y,nE (World.alloc_heap_new w _) Y Y,(Below.refl _ w).alloc J1 _⟩
def aur(g:Nat)(lb:Array Value)(w:aO):Calls (ae prog true) 23 #[.func (.func g) #[] lb,.int .i64 0,.int .i64 9223372036854775807] w λe w'=>∃b1 b a,e=.returned (.func (.func 31) #[] #[.pointer (some ⟨b1,0,none⟩),.pointer (some ⟨b,0,none⟩),.pointer (some ⟨a,0,none⟩)])/\w'.cell? ⟨b1,0,none⟩=some (.func (.func g) #[] lb)/\w'.cell? ⟨b,0,none⟩=some (.int .i64 0)/\w'.cell? ⟨a,0,none⟩=some (.int .i64 9223372036854775807)/\Below w.heap.size w w':=by
 go_enter (a6 (upd:=true) func23 AV),ntmps23
 go_wp2
 go_ret
 refine⟨_,_,_,Y,ru (ru (nE (World.alloc_heap_new w _) Y Y) _) _,?_,?_,(((Below.refl _ w).alloc J1 _).alloc A_ _).alloc Bg _⟩
 .grind[ru,World.alloc_heap_new,World.size_alloc,nE]
 grind[World.alloc_heap_new,World.size_alloc,nE]
def GF(N:Nat)(l:List (Int×Int)):bp:=⟨λw u=>∃x,u=.tuple #[x,.int .i64 0,.int .i64 0]/\UR N l w x,λ_ _ _ hb⟨x,e,h⟩=>⟨x,e,(JS N l).hJ _ _ _ hb h⟩,λ_=>False,λ_ h=>h.elim⟩
def aus(l:List (Int×Int)):bp:=⟨λw v=>eP w v l,λ_ _ _ hb h=>h.mono nL (bo.cj hb),λ_=>False,λ_ h=>h.elim⟩
def U8(rs:List bB):bp:=⟨λw v=>hE w v rs,λ_ _ _ hb h=>h.mono r8 (bo.cj hb),λ_=>False,λ_ h=>h.elim⟩
def vy(rs:List bB)(w:aO)(v:Value):Prop:=∃b x,v=.func (.func 32) #[] #[.pointer (some ⟨b,0,none⟩)]/\w.cell? ⟨b,0,none⟩=some x/\hE w x rs
def vw(rs:List bB):bp:=⟨vy rs,λ_ _ _ hb⟨b,x,e,h1,h2⟩=>⟨b,x,e,bo.cj hb _ _ _ h1,h2.mono r8 (bo.cj hb)⟩,λ_=>False,λ_ h=>h.elim⟩
def aut(rs:List bB):bp:=⟨λw v=>∃b1 b2 b8 x,v=.func (.func 31) #[] #[.pointer (some ⟨b1,0,none⟩),.pointer (some ⟨b2,0,none⟩),.pointer (some ⟨b8,0,none⟩)]/\w.cell? ⟨b1,0,none⟩=some x/\w.cell? ⟨b2,0,none⟩=some (.int .i64 0)/\w.cell? ⟨b8,0,none⟩=some (.int .i64 9223372036854775807)/\vy rs w x,λ_ _ _ hb⟨b1,b2,b8,x,e,h1,h2,h3,h⟩=>⟨b1,b2,b8,x,e,bo.cj hb _ _ _ h1,bo.cj hb _ _ _ h2,bo.cj hb _ _ _ h3,(vw rs).hJ _ _ _ hb h⟩,λ_=>False,λ_ h=>h.elim⟩
section
variable{N:Nat}{K:bJ}{o o2:Oper}{F:bp}{x y:Operand}
def vv(a:o.op=.alloc 63)(ev:Operand->Value)(w:aO):(execOp ev o).run (ae prog true) w=.ok (.value (.pointer (some ⟨w.heap.size,0,none⟩))) (w.alloc (.cells #[.int .i64 0,.slice none 0 0] 63)):=by cases o;simp only at a;subst a;go_simp
def auu(a:o.op=.alloc 28)(ev:Operand->Value)(w:aO):(execOp ev o).run (ae prog true) w=.ok (.value (.pointer (some ⟨w.heap.size,0,none⟩))) (w.alloc (.cells #[.slice none 0 0] 28)):=by cases o;simp only at a;subst a;go_simp
def GG{B:Nat}(b:o.op=.alloc 28)(a:Act)(w:aO)(c:B<=w.heap.size):we (ae prog true) o (jQ B 28 1) a w:=.inl ⟨_,_,auu b _ _,⟨_,_,Y,c,ag.new _ _ _,Y⟩,(Below.refl _ w).alloc (Nat.le_refl _) _⟩
def vr{B:Nat}(b:o.op=.alloc 63)(a:Act)(w:aO)(c:B<=w.heap.size):we (ae prog true) o (jQ B 63 2) a w:=.inl ⟨_,_,vv b _ _,⟨_,_,Y,c,ag.new _ _ _,Y⟩,(Below.refl _ w).alloc (Nat.le_refl _) _⟩
def U9{s B:Nat}(b:o.op=.alloc 28)(hs:K s=some (rp B F)):bG (ae prog true) N K o (jQ B 28 1):=λa w hk=>by obtain⟨v,-,c,-⟩:=hk.has s _ hs;exact GG b a w c
def vo{s B:Nat}(b:o.op=.alloc 63)(hs:K s=some (rp B F)):bG (ae prog true) N K o (jQ B 63 2):=λa w hk=>by obtain⟨v,-,c,-⟩:=hk.has s _ hs;exact vr b a w c
def auv{m n:Int}(a:o.op=.build 67 #[(0,x),(1,y)])(e:bl K x (bt m))(d:bl K y (bt n)):bG (ae prog true) N K o (nw m n):=rq e d λev w c b=>by have c:ev x=.int .i64 m:=c;have b:ev y=.int .i64 n:=b;refine⟨.agg #[.int .i64 m,.int .i64 n],w,?_,Y,Below.refl _ _⟩;cases o;simp only at a;subst a;go_simp
def auw{ops:Array Oper}{i d s:Nat}{Q:Exit->Act->aO->Prop}{rest:List Nat}{a:Act}{w:aO}{m n:Int}(h1:ops[i]?=some o)(h:ops[i+1]?=some o2)(c:o.op=.alloc 67)(b:o2.op=.store 67 (.tmp d) (.tmp s))(g:K s=some (nw m n))(hk:af N K a w)(hd:o.dst=some d)(f:o2.dst=none)(g1:o.guard=none)(l:o2.guard=none)(a0:d<N)(r:d≠s)(k:∀a' w1,af N (up K d (ei wz (m,n))) a' w1->a'.defers=a.defers->Below w.heap.size w w1->wpOps (ae prog true) ops Q rest a' w1):wpOps (ae prog true) ops Q (i::(i+1)::rest) a w:=by
 obtain⟨v,p,rfl⟩:=hk.has s _ g;have e:Below w.heap.size w (w.alloc (.cells #[.int .i64 m,.int .i64 n] 67)):=(Below.refl _ w).alloc J1 _;have cL:=ag.new w #[.int .i64 m,.int .i64 n] 67;refine Up (F:=ei wz (m,n)) (Gp:=w.alloc (.cells #[.int .i64 0,.int .i64 0] 67)) h1 h g1 l hd f a0 r hk p (λev=>?_) (λev t u=>?_) e ⟨w.heap.size,0,Y,cL.rules.1 _,cL.rules.1 _⟩ λa' q j=>k a' _ q j e
 .cases o;simp only at c;subst c;go_simp
 .cases o2;simp only at b;subst b;go_simp
def aux{n:Nat}{l:List (Int×Int)}(a:o.op=.extract x 0)(b:bl K x (GF n l)):bG (ae prog true) N K o (JS n l):=dT b λev w h=>by obtain⟨v,e,h⟩:=h;refine⟨v,w,?_,h,Below.refl _ _⟩;clear h;cases o;simp only at a;subst a;go_simp
def vn{n k:Nat}{l:List (Int×Int)}(a:o.op=.extract x k)(b:bl K x (GF n l))(hk:k=1\/k=2):bG (ae prog true) N K o (bt 0):=dT b λev w h=>by obtain⟨v,e,h⟩:=h;refine⟨.int .i64 0,w,?_,Y,Below.refl _ _⟩;clear h;cases o;simp only at a;subst a;rcases hk with rfl|rfl<;>go_simp
def auy{rs:List bB}(a:o.op=.extract x 0)(b:bl K x (JT rs)):bG (ae prog true) N K o (U8 rs):=dT b λev w h=>by obtain⟨v,e,h⟩:=h;refine⟨v,w,?_,h,Below.refl _ _⟩;clear h;cases o;simp only at a;subst a;go_simp
def auz{rs:List bB}(a:o.op=.extract x 1)(b:bl K x (JT rs)):bG (ae prog true) N K o (bt 0):=dT b λev w h=>by obtain⟨v,e,h⟩:=h;refine⟨.int .i64 0,w,?_,Y,Below.refl _ _⟩;clear h;cases o;simp only at a;subst a;go_simp
def auA{rs:List bB}(a:o.op=.extract x 2)(b:bl K x (JT rs)):bG (ae prog true) N K o Gz:=dT b λev w h=>by obtain⟨v,e,h⟩:=h;refine⟨ry,w,?_,Y,Below.refl _ _⟩;clear h;cases o;simp only at a;subst a;go_simp
def vl{m:Int}{T':TypeId}(a:o.op=.binOp .neq 61 x y T')(c:bl K x (bt m))(b:bl K y (bt m)):bG (ae prog true) N K o (bL false):=DH c b (λ_=>Y) λev w e d=>by cases o;simp only at a;subst a;go_simp
def vf(l:List (Int×Int)):bp:=⟨λw v=>∃g k x,v=.pointer (some ⟨g,k,none⟩)/\w.cell? ⟨g,k,none⟩=some x/\eP w x l,λ_ _ _ hb⟨g,k,x,e,h1,h2⟩=>⟨g,k,x,e,bo.cj hb _ _ _ h1,h2.mono nL (bo.cj hb)⟩,λ_=>False,λ_ h=>h.elim⟩
def auB{n:Nat}{l:List (Int×Int)}(a:o.op=.indexAddr 68 x y)(f:bl K x (JS n l))(e:bl K y (bt ((n-1:Nat):Int)))(hn:0<n):bG (ae prog true) N K o (vf l):=rq f e λev w h d=>by obtain⟨g,c,v,j,h1,b⟩:=h;have d:ev y=.int .i64 ((n-1:Nat):Int):=d;have i:((n-1:Nat):Int)<(n:Int):=As;refine⟨.pointer (some ⟨g,n-1,none⟩),w,?_,⟨g,n-1,v,Y,h1,b⟩,Below.refl _ _⟩;clear b;cases o;simp only at a;subst a;go_simp
def auC{l:List (Int×Int)}(a:o.op=.load 83 x)(c:bl K x (vf l)):bG (ae prog true) N K o (aus l):=dT c λev w h=>by obtain⟨g,k,v,e,h1,b⟩:=h;refine⟨v,w,?_,b,Below.refl _ _⟩;clear b;cases o;simp only at a;subst a;go_simp
def auD(a:o.op=.build 63 #[]):bG (ae prog true) N K o Gz:=wC a
def auE{n:Nat}{l:List (Int×Int)}{T:TypeId}(a:o.op=.call {callee:=.builtin .len,args:=#[x],argTypes:=#[T]})(b:bl K x (JS n l))(d:T=68):bG (ae prog true) N K o (bt n):=dT b λev w h=>by obtain⟨g,c,v,e,-,-⟩:=h;subst d;refine⟨.int .i64 n,w,?_,Y,Below.refl _ _⟩;cases o;simp only at a;subst a;go_simp
end
end
section
variable{O:gW}
def ve{F:Func}{ops:Array Oper}{n0 N i xa sa xi k9 sb:Nat}{y:Operand}{K:bJ}{a:Act}{w:aO}{ks:List Item}{a3:List aA}(hk:af N K a w)(hd:a.defers=[])(e:K xa=some (jQ n0 28 1)/\K sa=some (la a3)/\K k9=some (jQ n0 63 2)/\K sb=some Gz)(j:bl K y (bt 0))(O:∃c o2 b,(ops[i]?=some c/\c.op=.store 28 (.tmp xa) (.tmp sa)/\c.guard=none/\c.dst=none)/\(ops[i+1]?=some o2/\o2.op=.assign y/\o2.guard=none/\o2.dst=some xi)/\ops[i+2]?=some b/\b.op=.store 63 (.tmp k9) (.tmp sb)/\b.guard=none/\b.dst=none)(g:xi<N/\xi≠xa/\xi≠k9/\xi≠sb)(o:∀(tmps:Array Value)(w:aO) ba f aT,tmps[xa]?=some (.pointer (some ⟨ba,0,none⟩))->tmps[xi]?=some (.int .i64 0)->tmps[k9]?=some (.pointer (some ⟨f,0,none⟩))->ag w ba #[aT] 28->ag w f #[.int .i64 0,.slice none 0 0] 63->(results F tmps).run (ae prog true) w=.ok (.tuple #[.agg #[aT],.int .i64 0,ry]) w):
 uq (ae prog true) F (.inRegion ops (List.range' i 3):: .code .ret::ks) (λv w1=>yM a3 w1 v/\Below n0 w w1) a w:=by
 obtain⟨c,o2,b,⟨C,p2,B,p4⟩,⟨I,J,A,z⟩,r1,x,u,n⟩:=O;obtain⟨m,a1,L⟩:=hk.has xa _ e.1;obtain⟨vs,b1,M⟩:=hk.has sa _ e.2.1;obtain⟨d,c1,cr⟩:=hk.has k9 _ e.2.2.1;obtain⟨k,d1,E⟩:=hk.has sb _ e.2.2.2;have j:a.eval y=.int .i64 0:=hk.ev j;obtain⟨w1,s,r,q,l⟩:=zl (n0:=n0) (t:=a3) (ev:=a.eval) p2 (by rw[eb a1];exact L) (by rw[eb b1];exact M);have f1:(a.put (some xi) (.int .i64 0)).tmps[xa]?=some m:=(dP g.2.1).trans a1;have kA:(a.put (some xi) (.int .i64 0)).tmps[k9]?=some d:=(dP g.2.2.1).trans c1;have f3:(a.put (some xi) (.int .i64 0)).tmps[sb]?=some k:=(dP g.2.2.2).trans d1;obtain⟨h,u1,u2,u3,u4⟩:=UT (n0:=n0) (w:=w1) (ev:=(a.put (some xi) (.int .i64 0)).eval) x (by rw[eb kA];exact Ap w w1 d r cr) (by rw[eb f3];exact E);rw[eb a1]at l;rw[eb kA]at u4;have p:=zm (n0:=n0) (t:=a3) Y w1 h m u2 l;obtain⟨ba,aT,rfl,-,H,dA⟩:=p;obtain⟨f,rfl,-,D⟩:=u4;refine FP (ks':=.code .ret::ks) (Ce (jO (R:=λa' w'=>a=a'/\w1=w') (wb C B p4 s ⟨Y,Y⟩) ?_));rintro _ _ ⟨rfl,rfl⟩;refine jO (R:=λa' w'=>a'=a.put (some xi) (.int .i64 0)/\w1=w') (qw I A z (JF J j _) ⟨Y,Y⟩) ?_;rintro _ _ ⟨rfl,rfl⟩;refine jO (R:=λa' w'=>a'=a.put (some xi) (.int .i64 0)/\h=w') (wb r1 u n u1 ⟨Y,Y⟩) ?_;rintro _ _ ⟨rfl,rfl⟩;exact pA (j1 (SG ((put_defers _ _ _).trans hd) (o _ h ba f aT f1 (kt (by rw[hk.size];exact g.1)) kA H D) ⟨⟨aT,Y,dA⟩,q.trans (u3)⟩))
def GH(F:Func):Code:=.seq (.seq (.region 8 (aq F 8) false) (.cond (.tmp 60) (.seq (.region 9 (aq F 9) true) .ret) .skip)) (.seq (.region 10 (aq F 10) false) (.seq (.region 11 (aq F 11) false) .ret))
def U_(F:Func):Code:=.seq (.region 0 (aq F 0) false) (.seq (.region 1 (aq F 1) false) (.seq (.seq (.region 2 (aq F 2) false) (.cond (.tmp 35) (.seq (.region 3 (aq F 3) false) .ret) .skip)) (.seq (.region 4 (aq F 4) false) (.seq (.seq (.region 5 (aq F 5) false) (.cond (.tmp 46) (.seq (.region 6 (aq F 6) false) .ret) .skip)) (.seq (.region 7 (aq F 7) false) (GH F))))))
theorem vc:f19.body=some (U_ f19):=by kernel_rfl
def N2:hX prog true f19=true:=by decide+kernel
def auG:∃o ats,(aq f19 7)[3]?=some o/\o.op=.call {callee:=.value (.func 22),args:=#[.tmp 52,.tmp 53,.tmp 54],argTypes:=ats}/\o.guard=none/\o.dst=some 55:=⟨_,_,Y,Y,Y,Y⟩
def auH:∃b o2 a,((aq f19 11)[9]?=some b/\b.op=.store 28 (.tmp 12) (.tmp 76)/\b.guard=none/\b.dst=none)/\((aq f19 11)[9+1]?=some o2/\o2.op=.assign (.const (.int .i64 0))/\o2.guard=none/\o2.dst=some 13)/\(aq f19 11)[9+2]?=some a/\a.op=.store 63 (.tmp 14) (.tmp 77)/\a.guard=none/\a.dst=none:=⟨_,_,_,⟨Y,Y,Y,Y⟩,⟨Y,Y,Y,Y⟩,Y,Y,Y,Y⟩
section
variable{jR jS:bp}{n0 rA:Nat}{l:List (Int×Int)}{W ao:Nat}{rs:List bB}{a:Act}{w:aO}
abbrev Va(jR jS:bp)(n0 rA:Nat)(l:List (Int×Int))(W ao:Nat):List (Nat×bp):=[(4,bt 0),(5,bt 9223372036854775807),(12,jQ n0 28 1),(14,jQ n0 63 2),(16,JS rA l),(52,jR),(53,jS),(54,nw W ao)]
def auI(S:∀w r p,jR.R w r->jS.R w p->Calls (ae prog true) 21 #[r,p] w λe w'=>∃v,e=.returned v/\(GF rA l).R w' v/\Below w.heap.size w w')(h1:0<W)(H:W<=16)(h3:0<ao)(E:ao<=64)(hd:a.defers=[])(hn:n0<=w.heap.size)(hk:af 78 (aK [(0,jR),(1,jS),(2,bt W),(3,bt ao),(4,bt 0),(5,bt 9223372036854775807),(77,oP)]) a w):
 bK (ae prog true) [.code (U_ f19)] (.inRegion (aq f19 7) (3::List.range' 4 8)::[.code (GH f19)]) (λa1 w1=>a1.defers=[]/\af 78 (aK (Va jR jS n0 rA l W ao)) a1 w1/\Below n0 w w1) a w:=by
 obtain⟨u,b,C⟩:=hk.has 77 _ Y;have hk:=ff (F:=rp n0 oP) b ⟨hn,C⟩ hk;unfold U_;refine bq ?_;rw[fZ (aq f19 0)];refine di hk (ar Y (U9 (s:=77) Y Y)<|ar Y (dv (F:=bt 0) Y KS)<|ar Y (vo (s:=77) Y Y)<|rfl) λa1 w1 B d1 b1=>bq ?_;rw[fZ (aq f19 1)];refine DQ (m:=3) B (ar Y KJ<|ar Y KJ<|ar Y (auv Y Y Y)<|rfl) Ae λbC V A P R=>auw Y Y Y Y Y A Y Y Y Y Ae Ae λbX U z O Q=>pA (bq (bq ?_));rw[fZ (aq f19 2)];refine di z (ar Y (JD Y Y)<|ar Y (DN (F:=bL true) Y Xk Y λv w h=>by cases h;exact(aul W ao h1 H h3 E w).mono λe w'⟨q,D⟩=>⟨_,q,Y,D⟩)<|ar Y Mf<|ar Y KJ<|hP Y KJ<|hP Y (DL (n:=0) Y Y KS Ae Ae)<|ar Y (kB (c:=false) Y Y Y)<|ar Y KJ<|hP Y KJ<|hP Y (DL (n:=0) Y Y KS Ae Ae)<|ar Y (kB (c:=false) Y Y Y)<|rfl) λcC T d N bc=>g3 (t:=false) (DY d Y Y) (lU (bq ?_));rw[fZ (aq f19 4)];refine di d (ar Y KJ<|ar Y KJ<|ar Y (Gn (F:=GF rA l) Y Xj Y Y λv u w r1 x=>S w v u r1 x)<|ar Y KJ<|ar Y (aux Y Y)<|ar Y (vn Y Y Ae)<|ar Y (vn Y Y Ae)<|ar Y KY<|ar Y KY<|ar Y KY<|rfl) λdL en I M br=>bq (bq ?_);rw[fZ (aq f19 5)];refine di I (ar Y KJ<|ar Y (vl Y Y KS)<|rfl) λio gS i L J=>g3 (t:=false) (DY i Y Y) (lU (bq (uo ?_)));rw[fZ (aq f19 7)];refine(show bK _ (.inRegion _ (List.range' 0 (3+9))::_) _ _ _ _ from wA i (ar Y KJ<|ar Y KJ<|ar Y (JD Y Y)<|rfl) Ae λZ X y K cI=>j1 ⟨K.trans (L.trans (M.trans (N.trans (O.trans (P.trans (d1.trans hd)))))),y.aU ⟨Y,Y,Y,Y,Y,Y,Y,Y,PA⟩,?_⟩);have o:=b1.trans (R.mono b1.size);have k:=o.trans (Q.mono o.size);have j:=k.trans (bc.mono k.size);have g:=j.trans (br.mono j.size);have f:=g.trans (J.mono g.size);exact(f.trans (cI.mono f.size)).mono hn
def auK(E3:0<rA/\rA<=1000)(hl:l.length<=1000)(FZ:rs.length<=1000)(hlen:∀r∈rs,r.2.length=l.length)(Ar:∀r∈rs,∀d∈r.2,d.text.size<=1000000)(hd:a.defers=[])(hn:n0<=w.heap.size)(hk:af 78 (up (aK (Va jR jS n0 rA l W ao)) 55 (JT rs)) a w):
 uq (ae prog true) f19 (.inRegion (aq f19 7) (List.range' 4 8)::[.code (GH f19)]) (λv w1=>yM (se l (nx rs) rs.length) w1 v/\Below n0 w w1) a w:=by
 have key:bK (ae prog true) (.inRegion (aq f19 7) (List.range' 4 8)::[.code (GH f19)]) [.inRegion (aq f19 11) (List.range' 9 3),.code .ret] (λa1 w1=>a1.defers=[]/\af 78 (aK [(12,jQ n0 28 1),(14,jQ n0 63 2),(76,la (se l (nx rs) rs.length)),(77,Gz)]) a1 w1/\Below n0 w w1) a w:=by
  rw[fZ (aq f19 7)];refine(show bK _ (.inRegion _ (List.range' 4 (4+4))::_) _ _ _ _ from wA hk (ar Y KJ<|ar Y (auy Y Y)<|ar Y (auz Y Y)<|ar Y (auA Y Y)<|rfl) Ae λa1 w1 k d1 b1=>Ce ?_);obtain⟨v56,O,N⟩:=k.has 56 _ Y;obtain⟨v57,M,L⟩:=k.has 57 _ Y;obtain⟨v58,K,J⟩:=k.has 58 _ Y;obtain⟨o,U,qR,Sm,I⟩:∃o,(aq f19 7)[11]?=some o/\o.op=.store 63 (.tmp 20) (.tmp 58)/\o.guard=none/\o.dst=none:=⟨_,Y,Y,Y,Y⟩;rw[fZ (aq f19 7)]at U;refine jO (R:=λa' w'=>a'=a1.put (some 20) (.pointer (some ⟨w1.heap.size,0,none⟩))/\w'=w1.alloc (.cells #[.int .i64 0,.slice none 0 0] 63)) (qw Y Y Y (vv Y _ _) ⟨Y,Y⟩) ?_;rintro bC j ⟨rfl,q⟩;refine jO (R:=λa' w'=>a'=(a1.put (some 20) (.pointer (some ⟨w1.heap.size,0,none⟩))).put (some 19) v56/\j=w') (qw (v:=v56) Y Y Y (JF Y (eb ((dP Ae).trans O)) _) ⟨Y,Y⟩) ?_;rintro _ _ ⟨rfl,rfl⟩;refine jO (R:=λa' w'=>a'=((a1.put (some 20) (.pointer (some ⟨w1.heap.size,0,none⟩))).put (some 19) v56).put (some 17) v57/\j=w') (qw (v:=v57) Y Y Y (JF Y (eb ((dP Ae).trans ((dP Ae).trans M))) _) ⟨Y,Y⟩) ?_;rintro m _ ⟨p,rfl⟩;have D6:m.tmps[20]?=some (.pointer (some ⟨w1.heap.size,0,none⟩)):=by rw[p];exact(dP Ae).trans ((dP Ae).trans (kt (by rw[k.size];decide)))
  have H:m.tmps[58]?=some v58:=by rw[p];exact(dP Ae).trans ((dP Ae).trans ((dP Ae).trans K))
  obtain⟨Q,fM,-,gR,-⟩:=UT (n0:=w1.heap.size) (ev:=m.eval) (w:=j) qR (by rw[eb D6,q];exact⟨_,_,Y,Nat.le_refl _,ag.new _ _ _,Y⟩) (by rw[eb H];exact J);have g:Below w1.heap.size w1 Q:=((Below.refl _ w1).alloc J1 _).trans (q▸gR);refine jO (R:=λa' w'=>m=a'/\Q=w') (wb U Sm I fM ⟨Y,Y⟩) ?_;rintro _ _ ⟨rfl,rfl⟩;have S:=((k.put (s:=20) (F:=asj) (v:=.pointer (some ⟨w1.heap.size,0,none⟩)) Ae g trivial).put (s:=19) (F:=U8 rs) Ae (Below.refl _ _) ((U8 rs).hJ _ _ _ g N)).put (s:=17) (F:=bt 0) Ae (Below.refl _ _) L;rw[<-p]at S;have d4:m.defers=a.defers:=by rw[p,put_defers,put_defers,put_defers];exact d1
  refine pA ?_;unfold GH;refine bq (bq ?_);rw[fZ (aq f19 8)];refine di S (ar Y KJ<|ar Y (vl Y Y KS)<|rfl) λdL en dw d5 br=>g3 (t:=false) (DY dw Y Y) (lU (bq ?_));rw[fZ (aq f19 10)];refine di dw (ar Y KJ<|ar Y (DN (F:=vw rs) Y aum Y λv w r1=>by
   obtain⟨jm,cc,rfl,-,-⟩:=id r1;exact(auq _ _ _ w).mono λe w'⟨b,h1,c,h3⟩=>⟨_,h1,⟨b,_,Y,c,a8.mono r8 (bo.cj h3) r1⟩,h3⟩)<|ar Y KJ<|ar Y KJ<|ar Y (Uo (F:=aut rs) Y aun λa w hk=>by
   obtain⟨v,C,b,x,rfl,r1,z⟩:=hk.has 65 _ Y;obtain⟨v2,D,rfl⟩:=hk.has 66 _ Y;obtain⟨v3,A,rfl⟩:=hk.has 67 _ Y;rw[show(#[Operand.tmp 65,.tmp 66,.tmp 67].map a.eval)=#[.func (.func 32) #[] #[.pointer (some ⟨b,0,none⟩)],.int .i64 0,.int .i64 9223372036854775807]from by simp[eb C,eb D,eb A]];exact(aur _ _ w).mono λe w'⟨b1,E,g,h1,c,h3,B,P⟩=>⟨_,h1,⟨b1,E,g,_,Y,c,h3,B,b,x,Y,bo.cj P _ _ _ r1,a8.mono r8 (bo.cj P) z⟩,P⟩)<|ar Y KY<|rfl) λio gS fH d6 dD=>bq (uo ?_)
  rw[fZ (aq f19 11)];have NO:((rA:Int)-1)=((rA-1:Nat):Int):=As;refine(show bK _ (.inRegion _ (List.range' 0 (9+3))::_) _ _ _ _ from wA fH (ar Y KJ<|ar Y KJ<|ar Y (auE Y Y Y)<|ar Y (Uk (n:=1) Y Y KS DO Ae)<|ar Y (auB Y Y (by rw[<-NO];rfl) E3.1)<|ar Y (auC Y Y)<|ar Y KJ<|ar Y (Gn (F:=la (se l (nx rs) rs.length)) Y atZ Y Y λv u w r1 z=>by
   obtain⟨b1,E,g,x,rfl,p1,p2,p3,b,y,rfl,p4,k_⟩:=z;exact(at3 l v rs w r1 hl FZ hlen Ar aup λn=>amC b1 E g w (λn=>amy rs y b w k_ As p4) auo
    (λt W x h=>by obtain⟨_,V,pc,b4,b7,rfl,-,-⟩:=h;grind) (λt W W' x hk h=>by
     obtain⟨h0,V,pc,b4,b7,rfl,h1,c⟩:=h;exact⟨h0,V,pc,b4,b7,Y,h1,λ_ _ _ hc=>BS hk (c _ _ _ hc)⟩) As p1 p2 p3).mono λe w'⟨aT,h1,c,h3⟩=>⟨_,h1,⟨aT,Y,c⟩,h3⟩)<|ar Y (auD Y)<|rfl) Ae λlB qf l6 d7 cI=>j1 ⟨d7.trans (d6.trans (d5.trans (d4.trans hd))),l6.aU ⟨Y,Y,Y,Y,PA⟩,?_⟩)
  have X:=b1.trans (g.mono b1.size);have Z:=X.trans (br.mono X.size);have T:=Z.trans (dD.mono Z.size);exact(T.trans (cI.mono T.size)).mono hn
 refine FP (ks':=[.inRegion (aq f19 11) (List.range' 9 3),.code .ret]) λb cs=>?_;obtain⟨a1,w1,⟨h1,c,h3⟩,B⟩:=key b cs;refine⟨a1,w1,λf cs hf=>?_,B⟩;obtain⟨v,j,fr,⟨C,D⟩,A,q4⟩:=ve (F:=f19) (ks:=[]) (i:=9) (xa:=12) (sa:=76) (xi:=13) (k9:=14) (sb:=77) (y:=.const (.int .i64 0)) c h1 ⟨Y,Y,Y,Y⟩ KS auH Ae (λtmps w ba pi aT e1 q e3 c0 dA=>by simp[results,results19,go_sem,ry,e1,q,e3,c0.rules.1,dA.rules.1]) f cs hf;exact⟨v,j,fr,⟨C,h3.trans D⟩,A,q4⟩
def auT{Post:Value->aO->Prop}{M:Nat->Prop}{d:Nat}{f c:Value}(q:∀n,jR.ok n)(p:∀n,jS.ok n)(z:aS (cq M) #[f,c] #[f,c])(y:jR.R w f)(t:jS.R w c)(h1:0<W)(D:W<=16)(h3:0<ao)(C:ao<=64)(J:0<rA/\rA<=1000)(B:l.length<=1000)(I:rs.length<=1000)(hlen:∀r∈rs,r.2.length=l.length)(Ar:∀r∈rs,∀d∈r.2,d.text.size<=1000000)(H:∀w f c,jR.R w f->jS.R w c->Calls (ae prog true) 21 #[f,c] w λe w'=>∃v,e=.returned v/\(GF rA l).R w' v/\Below w.heap.size w w')(m:∀M w f c,aS (cq M) #[f,c,.agg #[.int .i64 W,.int .i64 ao]] #[f,c,.agg #[.int .i64 W,.int .i64 ao]]->jR.R w f->jS.R w c->jN O prog Post 22 #[f,c,.agg #[.int .i64 W,.int .i64 ao]] M w d (λu _ w'=>DV rs w' u/\ea M w w')):
 jN O prog Post 19 #[f,c,.int .i64 W,.int .i64 ao,.int .i64 0,.int .i64 9223372036854775807] M w d (λu _ w'=>yM (se l (nx rs) rs.length) w' u/\ea M w w'):=by
 obtain⟨o,ats,A⟩:=auG;refine xg (N:=78) (l0:=[(0,jR),(1,jS),(2,bt W),(3,bt ao),(4,bt 0),(5,bt 9223372036854775807),(77,oP)]) (l1:=Va jR jS w.heap.size rA l W ao) (eu:=JT rs) (Fr:=Ao (se l (nx rs) rs.length)) l3 func19 N2 vc ?_ ?_ ⟨q _,p _,PA,PA,PA,PA,PA,PA⟩ ⟨PA,PA,Y,Y,PA,q _,p _,PA,PA⟩ trivial trivial AV (ks:=[.code (GH f19)]) AV A Ae func22 BA NN (λa F hd hn hk=>auI H h1 D h3 C hd hn hk) (λa E w1 Shun K hk i=>?_) (λa F hd hn hk=>auK J B I hlen Ar hd hn hk)
 .exact aS.append (a:=#[f,c]) (b:=#[.int .i64 W,.int .i64 ao,.int .i64 0,.int .i64 9223372036854775807]) z (mQ (l:=[.int .i64 W,.int .i64 ao,.int .i64 0,.int .i64 9223372036854775807]) λx g=>by
   simp at g;rcases g with rfl|rfl|rfl|rfl<;>exact .int _ _)
 .exact ff (v:=f) Lm y<|ff (v:=c) Lm t<|ff (v:=.int .i64 W) Lm Y<|ff (v:=.int .i64 ao) Lm Y<|ff (v:=.int .i64 0) Lm Y<|ff (v:=.int .i64 9223372036854775807) Lm Y<|ff (v:=undef) (by simp[f19]) Y<|Gv (by simp[f19])
 .obtain⟨v52,j,r1⟩:=hk.has 52 _ Y;obtain⟨v53,k,s⟩:=hk.has 53 _ Y;obtain⟨v54,h,rfl⟩:=hk.has 54 _ Y;rw[show(#[Operand.tmp 52,.tmp 53,.tmp 54].map a.eval)=#[v52,v53,.agg #[.int .i64 W,.int .i64 ao]]from by simp[eb j,eb k,eb h]];exact m E w1 v52 v53 (mQ (l:=[v52,v53,.agg #[.int .i64 W,.int .i64 ao]]) λx g=>by
   simp only[List.mem_cons,List.not_mem_nil,or_false]at g;rcases g with rfl|rfl|rfl
   .exact i.get _ _ _ j j
   .exact i.get _ _ _ k k
   .exact i.get _ _ _ h h) r1 s
end
end
end aG
namespace aG
open Conc ConcM RowKit av bn cz c5 bZ bN
variable{rs:List bB}{t:List aA}{fs:List (List bI)}{S W ao:Nat}{Post:Value->aO->Prop}
section
variable{O:gW}
def GI:List (List bI)->List bB->List bB->Prop
 | [],r,rs=>rs=r
 |f::fs,r,rs=>∃outs,Cn f r outs/\GI fs (j5 r outs 0 r.length) rs
theorem auW{outs:Nat->bD}{r:bB}(h:r∈j5 rs outs 0 rs.length):r∈rs:=by simp only[j5,jd,List.mem_map,List.mem_filter,List.mem_range'_1]at h;grind
def auX(rs:List bB)(outs:Nat->bD):(j5 rs outs 0 rs.length).length<=rs.length:=by grind[S_,Ta]
theorem GI.all:∀{fs:List (List bI)}{r rs:List bB},GI fs r rs->∃gw:List (List bB),gw.length=fs.length+1/\gw[0]?=some r/\gw[fs.length]?=some rs/\(∀(k:Nat) f,fs[k]?=some f->∃x outs,gw[k]?=some x/\Cn f x outs/\gw[k+1]?=some (j5 x outs 0 x.length))/\∀x∈gw,x.length<=r.length/\∀y∈x,y∈r
 | [],r,_,rfl=>⟨[r],Y,Y,Y,λk f h=>by simp at h,A_⟩
 |f::fs,r,rs,⟨outs,ok,h⟩=>by
  obtain⟨gw,h1,b,h3,a,d⟩:=GI.all h;refine⟨r::gw,by simp[h1],Y,by simpa using h3,λk g hk=>?_,λx c=>?_⟩
  .cases k with|zero=>cases hk;exact⟨r,outs,Y,ok,b⟩|succ k=>exact a k g hk
  .have:=auX r outs;grind[auW]
def Au(fs:List (List bI)):List tp:=(1,0,[])::fs.mapIdx λk ts=>(2,(k:Int),[ts])
def Av(fs:List (List bI)):(Au fs).length=fs.length+1:=by simp[Au]
def auY{w:aO}{v:Value}(h:yK t w v):(b6 1 pJ [t]).R w v:=by obtain⟨lE,a,c,x,rfl,h1,b⟩:=h;refine⟨_,_,Y,A_,λi hi=>⟨lE,a,Y,x,?_⟩⟩;obtain rfl:i=0:=Hq;exact⟨h1,b⟩
def auZ{w:aO}{v:Value}(h:yL fs w v)(g:fs.length<=1000):(b6 7 pK (Au fs)).R w v:=by
 obtain⟨nb,no,f,rfl,h0,h1⟩:=h;refine⟨_,f,by rw[Av],by rw[Av];omega,λi hi=>⟨nb,no,Y,?_⟩⟩;cases i with
 |zero=>
  have h:∀j v,(jh 1 0 (.slice none 0 0))[j]?=some v->w.cell? ⟨nb,no+0*7+j,none⟩=some v:=λj v h=>by simpa using h0 j v h
  exact⟨_,_,_,_,_,⟨h 0 _ Y,h 1 _ Y,h 2 _ Y,h 3 _ Y,h 4 _ Y,h 5 _ Y,h 6 _ Y⟩,⟨⟨Y,Y⟩,Y,Y⟩,⟨none,0,Y,by simp[Au],λi hi=>by simp[Au]at hi⟩⟩
 |succ k=>rw[Av]at hi;obtain⟨k9,b,c,sv,a,e,d⟩:=h1 k As;rw[Nat.mul_comm]at a;simp only[Au,List.getElem_cons_succ,List.getElem_mapIdx];refine⟨_,_,_,_,_,⟨a 0 _ Y,a 1 _ Y,a 2 _ Y,a 3 _ Y,a 4 _ Y,a 5 _ Y,a 6 _ Y⟩,⟨⟨Y,Y⟩,Y,Y⟩,⟨_,c,Y,A_,λi hi=>⟨k9,b,Y,sv,?_⟩⟩⟩;obtain rfl:i=0:=Hq;exact⟨e,d⟩
structure tt(t:List aA)(fs:List (List bI))(S:Nat)(rs:List bB):Prop where
 h0:0<t.length
 hS:S<=300
 hh:t[0].cp.length=S
 cQ:∀i,i<S->∀c∈t,vH i c
 right:lM t=true
 a0:fs.length+1=2\/fs.length+1=3
 mF:∀f∈fs,∀t∈f,bN.Met t.op
 pg:∀f∈fs,gB f (jn t)=((4,0),true)
 chain:GI fs (mV t 0 S) rs
 oE:rs.length<=300
 hlen:∀r∈rs,r.2.length=(jn t).length
 Ar:∀r∈rs,∀d∈r.2,d.text.size<=1000000
def l9(t:List aA)(rs:List bB):List aA:=se (jn t) (nx rs) rs.length
def au0(F:tt t fs S rs)(w:aO)(h f:Value)(n:yK t w h)(m:yL fs w f):Calls (ae prog true) 21 #[h,f] w λe w'=>∃v,e=.returned v/\(GF (fs.length+1) (jn t)).R w' v/\Below w.heap.size w w':=by obtain⟨lE,d,o,b,rfl,k,a⟩:=n;obtain⟨nb,no,r,rfl,j,l⟩:=m;refine(atR t fs F.a0 Y lE d o nb no r w ⟨_,_,Y,A_,λi hi=>⟨lE,d,Y,b,?_⟩⟩ F.right j l F.mF F.pg).mono λe w'⟨g,c,v,h1,q,h3,p⟩=>⟨_,h1,⟨_,Y,g,c,v,Y,q,h3⟩,p⟩;obtain rfl:i=0:=Hq;exact⟨k,a⟩
def au3(F:tt t fs S rs)(h1:0<W)(m:W<=16)(h3:0<ao)(l:ao<=64)(M:Nat->Prop)(w:aO)(g e:Value)(s:aS (cq M) #[g,e,.agg #[.int .i64 W,.int .i64 ao]] #[g,e,.agg #[.int .i64 W,.int .i64 ao]])(p:yK t w g)(o:yL fs w e):
 jN O prog Post 22 #[g,e,.agg #[.int .i64 W,.int .i64 ao]] M w (fs.length+1) (λu _ w'=>DV rs w' u/\ea M w w'):=by
 have A:t.length<=8:=by have:=F.right;simp_all[lM]
 obtain⟨gw,c1,cr,dm,v,z⟩:=F.chain.all;have b:∀x∈gw,x.length<=300/\Full x:=λx a=>by obtain⟨h,k⟩:=z x a;rw[I1]at h;refine⟨by have:=F.hS;omega,λr d=>?_⟩;have d:=k r d;simp only[mV,List.mem_map]at d;obtain⟨i,-,rfl⟩:=d;exact⟨A_,by simpa using F.h0⟩
 have a0:=F.a0;rw[<-Av fs];refine atj (ts:=[t]) (gw:=gw) s (auY p) (auZ o As) (by rw[Av];exact c1) (by rw[Av];omega) (by rw[Av];omega) b (by rw[Av];exact dm) λj oD x c a args M' w' n hk=>?_;cases j with|zero=>simp only[Au,List.getElem?_cons_zero,Option.some.injEq]at c;subst c;rw[cr]at a;cases a;exact atf n (hk.aU ⟨Y,Y,Y,PA⟩) F.h0 As h3 l h1 m F.hS F.hh F.cQ|succ j=>simp only[Au,List.getElem?_cons_succ,List.getElem?_mapIdx,Option.map_eq_some_iff]at c;obtain⟨f,h,rfl⟩:=c;obtain⟨y,outs,k,ok,q⟩:=v j f h;rw[q]at a;cases a;exact ath n (hk.aU ⟨Y,Y,Y,PA⟩) AA ok h3 l h1 m (b y (List.mem_of_getElem? k)).1
def au4(F:tt t fs S rs)(h1:0<W)(d:W<=16)(h3:0<ao)(c:ao<=64)(M:Nat->Prop)(w:aO)(b a:Value)(g:aS (cq M) #[b,a] #[b,a])(f:yK t w b)(e:yL fs w a):
 jN O prog Post 19 #[b,a,.int .i64 W,.int .i64 ao,.int .i64 0,.int .i64 9223372036854775807] M w (fs.length+1) (λu _ w'=>yM (l9 t rs) w' u/\ea M w w'):=by
 have h:t.length<=8:=by have:=F.right;simp_all[lM]
 exact auT (jR:=yN t) (jS:=JR fs) (λ_=>trivial) (λ_=>trivial) g f e h1 d h3 c (by have:=F.a0;omega) (by simp[jn];omega) (by have:=F.oE;omega) F.hlen F.Ar (au0 F) (au3 F h1 d h3 c)
end
end aG
namespace cM
open RowKit av bZ bN aG
abbrev dX:=Int×Int×Int×Int
def ca(rs:List dX):List aA:=
 [⟨1,0,rs.map λr=>k8 r.1,[],rs.map λr=>hQ r.1⟩,⟨1,0,rs.map λr=>fD r.2.1,[],rs.map λr=>hQ r.2.1⟩,⟨2,2,rs.map λr=>fD r.2.2.1,[],rs.map λr=>hQ r.2.2.1⟩,⟨3,0,[],rs.map λr=>jv r.2.2.2,rs.map λr=>hQ r.2.2.2⟩]
def tm(op a:Int):bI:=⟨op,a,0,⟨#[]⟩⟩
def v0(r:dX):bD:=if hQ r.1 then fL else⟨false,k8 r.1,0,bZ.f9⟩
def v1(r:dX):bD:=if hQ r.2.1 then fL else⟨false,fD r.2.1,0,bZ.f9⟩
def v2(r:dX):bD:=if hQ r.2.2.1 then fL else⟨false,fD r.2.2.1,2,bZ.f9⟩
def v3(r:dX):bD:=if hQ r.2.2.2 then fL else⟨false,0,0,jv r.2.2.2⟩
theorem D7(c:Int):(jv c).size<=2:=by
 unfold jv;split
 .decide
 .have:=su c (n:=13) As;obtain⟨k,hk,a⟩:∃k:Nat,k<13/\(j8 c 13).toNat=k:=AA;rw[a];have b:k=0\/k=1\/k=2\/k=3\/k=4\/k=5\/k=6\/k=7\/k=8\/k=9\/k=10\/k=11\/k=12:=As;rcases b with rfl|rfl|rfl|rfl|rfl|rfl|rfl|rfl|rfl|rfl|rfl|rfl|rfl<;>decide
def au5(rs:List dX)(h:rs.length<=40):lM (ca rs)=true:=by
 have ht:rP (rs.map λr=>jv r.2.2.2)=true:=by grind[rP,D7]
 have h0:rP []=true:=rfl;simp[lM,E2,ca,tJ,HU,HK,Li,h0,ht,h]
def vb(rs:List dX){i:Nat}(h:i<rs.length):∀c∈ca rs,vH i c:=by
 intro c a;simp[ca]at a;rcases a with rfl|rfl|rfl|rfl
 .exact⟨AA,AA,AA,AA⟩
 .exact⟨AA,AA,AA,AA⟩
 .exact⟨AA,AA,AA,AA⟩
 .refine⟨AA,AA,AA,λs hs=>?_⟩;grind[D7]
end cM
namespace aG
open Conc ConcM RowKit av bn cz c5 bZ bN cM
variable{w:aO}{Post:Value->aO->Prop}
section
variable{O:gW}
section
variable{N:Nat}{K:bJ}{o:Oper}{x:Operand}{t:List aA}
def uU(a:o.op=.extract x 0)(b:bl K x (Ao t)):bG (ae prog true) N K o (la t):=dT b λev w h=>by obtain⟨v,e,h⟩:=h;refine⟨.agg #[v],w,?_,⟨v,Y,h⟩,Below.refl _ _⟩;clear h;cases o;simp only at a;subst a;go_simp
def uQ(a:o.op=.extract x 1)(b:bl K x (Ao t)):bG (ae prog true) N K o (bt 0):=dT b λev w h=>by obtain⟨v,e,h⟩:=h;refine⟨.int .i64 0,w,?_,Y,Below.refl _ _⟩;clear h;cases o;simp only at a;subst a;go_simp
def uk(a:o.op=.extract x 2)(b:bl K x (Ao t)):bG (ae prog true) N K o Gz:=dT b λev w h=>by obtain⟨v,e,h⟩:=h;refine⟨ry,w,?_,Y,Below.refl _ _⟩;clear h;cases o;simp only at a;subst a;go_simp
end
def ui(F:Func):Code:=.seq (.region 0 (aq F 0) false) (.seq (.region 1 (aq F 1) false) .ret)
theorem tX:f18.body=some (ui f18):=by kernel_rfl
def avd:∃o ats,(aq f18 1)[4]?=some o/\o.op=.call {callee:=.value (.func 19),args:=#[.tmp 11,.tmp 12,.tmp 13,.tmp 14,.const (.int .i64 0),.const (.int .i64 9223372036854775807)],argTypes:=ats}/\o.guard=none/\o.dst=some 15:=⟨_,_,Y,Y,Y,Y⟩
def ave:∃b o2 a,((aq f18 1)[8]?=some b/\b.op=.store 28 (.tmp 8) (.tmp 16)/\b.guard=none/\b.dst=none)/\((aq f18 1)[8+1]?=some o2/\o2.op=.assign (.tmp 17)/\o2.guard=none/\o2.dst=some 9)/\(aq f18 1)[8+2]?=some a/\a.op=.store 63 (.tmp 10) (.tmp 18)/\a.guard=none/\a.dst=none:=⟨_,_,_,⟨Y,Y,Y,Y⟩,⟨Y,Y,Y,Y⟩,Y,Y,Y,Y⟩
def avf{jR jS:bp}{W ao d:Nat}{a3:List aA}{M:Nat->Prop}{e c:Value}(t:∀n,jR.ok n)(r:∀n,jS.ok n)(H:aS (cq M) #[e,c] #[e,c])(D:jR.R w e)(C:jS.R w c)(X:∀M w e c,aS (cq M) #[e,c] #[e,c]->jR.R w e->jS.R w c->jN O prog Post 19 #[e,c,.int .i64 W,.int .i64 ao,.int .i64 0,.int .i64 9223372036854775807] M w d (λu _ w'=>yM a3 w' u/\ea M w w')):
 jN O prog Post 18 #[e,c,.int .i64 W,.int .i64 ao] M w d (λu _ w'=>yM a3 w' u/\ea M w w'):=by
 obtain⟨o,ats,J⟩:=avd;refine xg (N:=19) (rest:=List.range' 5 6) (l0:=[(0,jR),(1,jS),(2,bt W),(3,bt ao),(18,oP)]) (l1:=[(8,jQ w.heap.size 28 1),(10,jQ w.heap.size 63 2),(11,jR),(12,jS),(13,bt W),(14,bt ao)]) (eu:=Ao a3) (Fr:=Ao a3) l3 func18 AV tX ?_ ?_ ⟨t _,r _,PA,PA,PA,PA⟩ ⟨Y,Y,t _,r _,PA,PA,PA⟩ trivial trivial AV (ks:=[.code .ret]) AV J Ae func19 BA vc (λa V hd hn hk=>?_) (λa R w1 Shun a5 hk A=>?_) (λa V hd hn hk=>?_)
 .exact aS.append (a:=#[e,c]) (b:=#[.int .i64 W,.int .i64 ao]) H (xC _ _ _)
 .exact ff (v:=e) Lm D<|ff (v:=c) Lm C<|ff (v:=.int .i64 W) Lm Y<|ff (v:=.int .i64 ao) Lm Y<|ff (v:=undef) (by simp[f18]) Y<|Gv (by simp[f18])
 .obtain⟨u,p,I⟩:=hk.has 18 _ Y;have hk:=ff (F:=rp w.heap.size oP) p ⟨hn,I⟩ hk;unfold ui;refine bq ?_;rw[fZ (aq f18 0)];refine di hk (ar Y (U9 (s:=18) Y Y)<|ar Y (dv (F:=bt 0) Y KS)<|ar Y (vo (s:=18) Y Y)<|rfl) λa1 w1 m d1 b1=>bq (uo ?_);rw[fZ (aq f18 1)];exact(show bK _ (.inRegion _ (List.range' 0 (4+7))::_) _ _ _ _ from wA m (ar Y KJ<|ar Y KJ<|ar Y KJ<|ar Y KJ<|rfl) Ae λbC q E S U=>j1 ⟨S.trans (d1.trans hd),E.aU ⟨Y,Y,Y,Y,Y,Y,PA⟩,(b1.trans (U.mono b1.size)).mono hn⟩)
 .obtain⟨v1,g,r1⟩:=hk.has 11 _ Y;obtain⟨v2,h,B⟩:=hk.has 12 _ Y;obtain⟨v3,k,rfl⟩:=hk.has 13 _ Y;obtain⟨Z,j,rfl⟩:=hk.has 14 _ Y;rw[show(#[Operand.tmp 11,.tmp 12,.tmp 13,.tmp 14,.const (.int .i64 0),.const (.int .i64 9223372036854775807)].map a.eval)=#[v1,v2,.int .i64 W,.int .i64 ao,.int .i64 0,.int .i64 9223372036854775807]from by simp[Act.eval,g,h,k,j]];exact X R w1 v1 v2 (mQ (l:=[v1,v2]) λx z=>by
   simp at z;rcases z with rfl|rfl
   .exact A.get _ _ _ g g
   .exact A.get _ _ _ h h) r1 B
 .refine FP (ks':=[.inRegion (aq f18 1) (List.range' 8 3),.code .ret]) ?_;rw[fZ (aq f18 1)];refine(show bK _ (.inRegion _ (List.range' 5 (3+3))::_) _ _ _ _ from wA hk (ar Y (uU Y Y)<|ar Y (uQ Y Y)<|ar Y (uk Y Y)<|rfl) Ae λa1 w1 m d1 b1=>j1 λf cs K=>?_);obtain⟨v,q,fr,⟨g,h⟩,k,j⟩:=ve (F:=f18) (ks:=[]) (i:=8) (xa:=8) (sa:=16) (xi:=9) (k9:=10) (sb:=18) (y:=.tmp 17) m (d1.trans hd) ⟨Y,Y,Y,Y⟩ Y ave Ae (λtmps w ba pi aT Q P L T dA=>by simp[results,results18,go_sem,ry,Q,P,L,T.rules.1,dA.rules.1]) f cs K;exact⟨v,q,fr,⟨g,(b1.mono hn).trans h⟩,k,j⟩
end
variable{m n:Int}
section
variable{O:gW}
def OH(x y:Int):bp:=nw x y
def kF(x y:Int):bp:=ei wz (x,y)
section
variable{N n0:Nat}{K:bJ}{o:Oper}{F:bp}{x y:Operand}
def avi(a:o.op=.box 25 x)(b:bl K x (OH m n)):bG (ae prog true) N K o (kF m n):=dT b λev w h=>by have h:ev x=.agg #[.int .i64 m,.int .i64 n]:=h;have c:Below w.heap.size w (w.alloc (.cells #[.int .i64 m,.int .i64 n] 25)):=(Below.refl _ w).alloc J1 _;refine⟨.pointer (some ⟨w.heap.size,0,none⟩),_,Bf,⟨w.heap.size,0,Y,?_,?_⟩,c⟩<;>exact nE (World.alloc_heap_new w _) Y Y
def avj(a:o.op=.fieldAddr 25 x 0)(c:bl K x (kF m n)):bG (ae prog true) N K o (ei j9 m):=dT c λev w h=>by obtain⟨b,f,e,h0,h1⟩:=h;exact⟨.pointer (some ⟨b,f,none⟩),w,Bf,⟨b,f,Y,h0⟩,Below.refl _ _⟩
def avk(a:o.op=.fieldAddr 25 x 1)(c:bl K x (kF m n)):bG (ae prog true) N K o (ei j9 n):=dT c λev w h=>by obtain⟨b,f,e,h0,h1⟩:=h;exact⟨.pointer (some ⟨b,f+1,none⟩),w,Bf,⟨b,f+1,Y,h1⟩,Below.refl _ _⟩
def Vf{c:Int}{ats:Array TypeId}(f:o.op=.call {callee:=.value (.func 6),args:=#[x,y],argTypes:=ats})(d:bl K x (bt c))(b:bl K y (bt n))(g:cD c)(hn:0<n/\n<=1000000):bG (ae prog true) N K o (bt (j8 c n)):=Gn f (λa w=>ar6 a w) d b λv j w h i=>by cases h;cases i;refine(Jv c n g hn w).mono ?_;rintro e w' ⟨rfl,rfl⟩;exact⟨_,Y,Y,Below.refl _ _⟩
def GJ{s v:Nat}{t:List aA}(f:o.op=.store 28 (.tmp s) (.tmp v))(hs:K s=some (jQ n0 28 1))(e:K v=some (la t))(hg:o.guard=none:=by rfl)(hd:o.dst=none:=by rfl):NJ (ae prog true) N n0 K o (28,s) (JQ n0 t):=⟨hg,hd,λa w hk=>by
 obtain⟨x,b,r1⟩:=hk.has s _ hs;obtain⟨y,h,d⟩:=hk.has v _ e;obtain⟨w',h1,g,h3,c⟩:=zl (n0:=n0) (t:=t) (ev:=a.eval) (w:=w) f (by rw[eb b];exact r1) (by rw[eb h];exact d);rw[eb b]at c;exact⟨w',h1,g,h3,x,b,c⟩⟩
def avl{s v:Nat}(f:o.op=.store 63 (.tmp s) (.tmp v))(hs:K s=some (jQ n0 63 2))(e:K v=some Gz)(hg:o.guard=none:=by rfl)(hd:o.dst=none:=by rfl):NJ (ae prog true) N n0 K o (63,s) (Gt n0):=⟨hg,hd,λa w hk=>by
 obtain⟨x,b,r1⟩:=hk.has s _ hs;obtain⟨y,h,d⟩:=hk.has v _ e;obtain⟨w',h1,g,h3,c⟩:=UT (n0:=n0) (ev:=a.eval) (w:=w) f (by rw[eb b];exact r1) (by rw[eb h];exact d);rw[eb b]at c;exact⟨w',h1,g,h3,x,b,c⟩⟩
end
def tV(F:Func):Code:=.seq (.region 0 (aq F 0) false) (.seq (.region 1 (aq F 1) true) (sy F 1))
theorem Vg:f10.body=some (tV f10):=by kernel_rfl
def tT:hX prog true f10=true:=by decide+kernel
def OI:nu:=⟨10,λi=>i==13||i==14||decide (17<i),λi=>decide (10<i),[(17,28,8),(19,63,10)]⟩
def avm{n0:Nat}{a3:List aA}{a:Act}(hd:a.defers=[])(hk:af 40 (aK [(6,jQ n0 28 1),(8,JQ n0 a3),(9,bt 0),(10,Gt n0)]) a w):uq (ae prog true) f10 [.code (sy f10 1)] (λv w1=>JP a3 w1 v/\Below n0 w w1) a w:=by
 obtain⟨W,u,c,g,rfl,o,r,n⟩:=hk.has 6 _ Y;obtain⟨V,s,l7,aT,rfl,K,z,b⟩:=hk.has 8 _ Y;obtain⟨U,t,Q⟩:=hk.has 9 _ Y;obtain⟨v10,x,M,rfl,L,f⟩:=hk.has 10 _ Y;obtain⟨Z,c0,dA,eX,gM,S,Gy,X,R,JK,Oc,Od,Oe,Of,Og,Oh,Oi,Oj,Ok,Ol,Om,T,On,JJ,Oo,Oq,Ot,Ou,Ov,Ow,Ox,Oy,Oz,OA,OB,OC,OD,OE,OF,OG,rfl⟩:=avh hk.size hd;obtain rfl:=Option.some.inj u;obtain rfl:=Option.some.inj s;obtain rfl:=Option.some.inj t;obtain rfl:=Option.some.inj x;cases Q;clear u s t x hk hd;obtain⟨D,rfl⟩:∃q,g=#[q]:=by obtain⟨l⟩:=g;match l,n with| [q],_=>grind
 obtain⟨J,H,F⟩:=r.all;obtain⟨m,O,N⟩:=z.all;obtain⟨C,B,P⟩:=f.all;obtain⟨⟨e,d,rfl,-,-⟩,-⟩:=id b;have I:Hid (jM w _ a3):=b;have i:Hid (ag w c #[D] 28):=r;clear r z f b;simp[sy,f10,bO.dR,bO.ky];refine anB ?_;go_wp2
 go_region
 go_wp2
 have u6:ag (w.setCell ⟨c,0,none⟩ (.slice e a3.length d)) c #[.slice e a3.length d] 28:=i.out.set 0 _;have y:hH pw w (w.setCell ⟨c,0,none⟩ (.slice e a3.length d)):=hH.set i.out (by grind[pw]) _ _;have A:Below n0 w (w.setCell ⟨c,0,none⟩ (.slice e a3.length d)):=(Below.refl n0 w).setCell (p:=⟨c,0,none⟩) o _;have k:=jM.kept y I.out;clear J H F m O N C B P y;generalize w.setCell ⟨c,0,none⟩ (.slice e a3.length d)=j at *;obtain⟨E,-⟩:=u6.rules;exact bodyPost_ret (v:=.tuple #[.agg #[.slice e a3.length d],.bool true]) (by simp[results,results10,go_sem,E]) Y ⟨_,Y,⟨_,Y,jM.kept (show hH pw j j.drew from⟨Nat.le_refl _,λ_ _ _ _ h _=>h⟩) k⟩,A.trans (show Below n0 j j.drew from⟨Y,Y,Y,Nat.le_refl _,λ_ _=>Y⟩)⟩
def J4:∀p∈OI.jw,kE p.2.1:=by decide
def avr{jR jS:bp}{d:Nat}{x y:Int}{a3:List aA}{M:Nat->Prop}{g f:Value}(o:∀n,jR.ok n)(m:∀n,jS.ok n)(k:cD x)(hy:cD y)(i6:aS (cq M) #[g,f] #[g,f])(qK:jR.R w g)(qL:jS.R w f)(Ve:∀W ao:Nat,0<W->W<=16->0<ao->ao<=64->∀M w g f,aS (cq M) #[g,f] #[g,f]->jR.R w g->jS.R w f->jN O prog Post 19 #[g,f,.int .i64 W,.int .i64 ao,.int .i64 0,.int .i64 9223372036854775807] M w d (λu _ w'=>yM a3 w' u/\ea M w w')):
 jN O prog Post 10 #[.agg #[.int .i64 x,.int .i64 y],g,f] M w d (λu _ w'=>JP a3 w' u/\ea M w w'):=by
 intro n Shun hn E eT aF aD aI aL aH csZ hc cT;obtain⟨p,i⟩:∃p:Nat,j8 x 16=p:=⟨(j8 x 16).toNat,by have:=su x (n:=16) As;omega⟩;obtain⟨q,hq⟩:∃q:Nat,j8 y 64=q:=⟨(j8 y 64).toNat,by have:=su y (n:=64) As;omega⟩;have I0:=su x (n:=16) As;have S6:=su y (n:=64) As;have T:kY prog 10:=FQ func10 tT Vg;rw[enter_at func10 Vg];have r:aS (cq M) #[.agg #[.int .i64 x,.int .i64 y],g,f] #[.agg #[.int .i64 x,.int .i64 y],g,f]:=aS.append (a:=#[.agg #[.int .i64 x,.int .i64 y]]) (b:=#[g,f]) (.one (.pU (xC _ _ _))) i6;have H:=Held.start (n0:=w.heap.size) E J1 (a:=⟨#[.agg #[.int .i64 x,.int .i64 y],g,f]++Array.replicate 37 undef,[]⟩) (r.append (Gs _ _)) Y;refine MK l3 T H (k':=[.code (.region 1 (aq f10 1) true),.code (sy f10 1)]) AV AV (I:=af 40 (aK [(0,OH x y),(1,jR),(2,jS),(39,oP)])) (J:=af 40 (aK [(1,jR),(2,jS),(3,kF x y),(6,jQ w.heap.size 28 1)])) (jP _ (fj ⟨PA,o _,m _,PA,PA⟩)) (jP _ (fj ⟨o _,m _,PA,Y,PA⟩)) (ff (v:=.agg #[.int .i64 x,.int .i64 y]) Lm Y<|ff (v:=g) Lm qK<|ff (v:=f) Lm qL<|ff (v:=undef) A_ Y<|Gv A_) (λW1 t hk=>?_) λa1 dr w1 H1 K=>?_
 .obtain⟨u,D,hu⟩:=hk.has 39 _ Y;have hk:=ff (F:=rp w.heap.size oP) D ⟨t,hu⟩ hk;unfold tV;refine bq ?_;rw[fZ (aq f10 0)];exact di hk (ar Y (avi Y Y)<|ar Y (U9 (s:=39) Y Y)<|ar Y (dv (F:=bL false) Y KS)<|rfl) λbC V k2 d2 b2=>bq (j1 ⟨d2,k2.aU ⟨Y,Y,Y,Y,PA⟩,b2.mono t⟩)
 have C:(1:Int)+(p:Int)=((1+p:Nat):Int):=As;have S7:(1:Int)+(q:Int)=((1+q:Nat):Int):=As;refine NR (N:=40) (S:=OI) (L:=aK [(1,jR),(2,jS),(3,kF x y)]) (Q:=aK [(6,jQ w.heap.size 28 1)]) l3 mixed T AV (fj ⟨o _,m _,PA,PA⟩) (λs F e=>?_) AV Y Y Y Y func18 BA tX Y hn Y (eu:=Ao a3) (by
  rw[fZ (aq f10 1)];exact aG.hq rfl (bf rfl rfl) (hok:=o _)<|aG.hq rfl (bf rfl rfl) (hok:=m _)<|aG.hq rfl (avj rfl rfl)<|aG.hq rfl (cH rfl rfl (mX _) (by decide))<|aG.hq (F:=bt p) rfl (i▸Vf rfl rfl (λ_=>rfl) k (by decide))<|aG.hq (F:=bt (1+p:Nat)) rfl (C▸uX rfl (λ_=>rfl) rfl (by unfold cD;omega) (by decide))<|aG.hq rfl (avk rfl rfl)<|aG.hq rfl (cH rfl rfl (mX _) (by decide))<|aG.hq (F:=bt q) rfl (hq▸Vf rfl rfl (λ_=>rfl) hy (by decide))<|aG.hq (F:=bt (1+q:Nat)) rfl (S7▸uX rfl (λ_=>rfl) rfl (by unfold cD;omega) (by decide))<|hg rfl (λa M w Shun E hk r=>by
   obtain⟨v1,A,r1⟩:=hk.has 12 _ Y;obtain⟨v2,B,r2⟩:=hk.has 13 _ Y;obtain⟨v3,q3,rfl⟩:=hk.has 17 (bt (1+p:Nat)) Y;obtain⟨v4,q4,rfl⟩:=hk.has 21 (bt (1+q:Nat)) Y;rw[show(#[Operand.tmp 12,.tmp 13,.tmp 17,.tmp 21].map a.eval)=#[v1,v2,.int .i64 (1+p:Nat),.int .i64 (1+q:Nat)]from by simp[Act.eval,A,B,q3,q4]];exact avf o m (mQ (l:=[v1,v2]) λx k=>by
    simp at k;rcases k with rfl|rfl
    .exact r.get _ _ _ A A
    .exact r.get _ _ _ B B) r1 r2 (Ve _ _ As As As As))<|aG.hk Y KJ (λ_=>atx) J4<|aG.hk Y (uU Y Y) (λ_=>GA) J4<|aG.hk Y (uQ Y Y) K_ J4<|aG.hk Y (uk Y Y) K_ J4<|aG.hn (F:=jQ w.heap.size 28 1) Y Lj (hs:=λ_ _ _ _=>Ap)<|aG.hn (F:=jQ w.heap.size 63 2) Y (λa w' hn _=>vr Y a w' hn) (hs:=λ_ _ _ _=>Ap)<|hst Y (GJ Y Y Y) (hs:=λ_ p i j=>zm (by simp[OI]at i;rcases i with rfl|rfl;exact absurd Y j;rfl))<|aG.hk Y KY K_ J4<|hst Y (avl Y Y Y) (hs:=λ_ p i j=>atw (by simp[OI]at i;rcases i with rfl|rfl;rfl;exact absurd Y j))<|rfl) K1 H1 (K.aU ⟨Y,Y,Y,PA⟩) (K.aU ⟨Y,PA⟩) λbC M2 V iv DU f8 X R=>?_
 .unfold aK at e;split at e
  .cases e;exact⟨Y,λp _=>Ap⟩
  .cases e
 refine ML l3 func10 tT Vg R AV hc (I:=af 40 (aK [(6,jQ w.heap.size 28 1),(8,JQ w.heap.size a3),(9,bt 0),(10,Gt w.heap.size)])) (gZ:=JP a3) (jP _ (fj ⟨Y,Y,PA,Y,PA⟩)) (zn _) (f8.aU ⟨Y,Y,Y,Y,PA⟩) (λW1 t hI=>FP (sg (j1 (avm R.defers hI)))) λu Z U h1 h2 h3 h4 a4 bP=>cT u Z U iv DU X h1 h2 h3 h4 ⟨bP,λb c e z P k=>a4 b c e z ⟨P,E.lt P⟩ k⟩
end
section
variable{n0:Nat}
def ld(t:bI):List Value:=[.int .i64 t.op,.int .i64 t.a,.int .i64 t.v,.string t.s]
def avy(e:List bI)(w:aO)(v:Value):Prop:=∃b,v=.slice (some ⟨b,0,none⟩) e.length e.length/\p8 w v e
def avz(e:List bI)(W:aO){c:Array Value}(f:c=(e.flatMap ld).toArray)(d:e.length<=100)(hs:∀t∈e,t.s.size<=100)(T:TypeId):avy e (W.alloc (.cells c T)) (.slice (some ⟨W.heap.size,0,none⟩) e.length e.length):=by
 refine⟨_,Y,_,_,Y,As,λi hi=>⟨_,_,Y,?_⟩⟩;have cL:=ag.new W c T;have key:∀(l:List bI)(i:Nat)(h:i<l.length)(j:Nat),j<4->(l.flatMap ld)[i*4+j]?=(ld l[i])[j]?:=by intro l;induction l with|nil=>grind|cons t r b=>intro i h j a;rw[List.flatMap_cons];cases i with|zero=>grind[ld]|succ i=>grind[ld]
 have rd:∀j,j<4->(W.alloc (.cells c T)).cell? ⟨W.heap.size,0+i*4+j,none⟩=(ld e[i])[j]?:=λj a=>by simp_all
 exact⟨rd 0 Ae,rd 1 Ae,rd 2 Ae,rd 3 Ae,AA⟩
def Vi{ρ:Ren}{w':aO}(d:xH n0 ρ w w'){b c:Nat}(r:ρ.rel b c){l:List Value}{T:TypeId}(h:ag w b l.toArray T):∃a,ag w' c a.toArray T/\dy (ay ρ) l a:=by obtain⟨c',h1,k⟩:=d.types _ _ _ _ _ r h;obtain⟨a⟩:=c';refine⟨a,h1,SJ AA λi v f g e=>?_⟩;obtain⟨x,h3,j⟩:=d.cells ⟨b,i,none⟩ ⟨c,i,none⟩ v ⟨r,Y,Y⟩ ((h.rules.1 i).trans AA);rw[(ag.rules (show ag w' c a.toArray T from h1)).1 i]at h3;grind
theorem follows:prog.follows .rangeFuncRecover=true:=by decide+kernel
end
def cm(t:List aA):bp:=⟨sA 0 t,(JQ 0 t).hJ,λ_=>True,λn _ ρ w w' v v' hc hv h=>by
 have:=US (n0:=0) t ρ w w' v v' ⟨hc.cells,hc.types,λ_ _ _ _=>Nat.zero_le _,hc.inj⟩ hv h
 grind⟩
def axI(t:bI):∀x∈ld t,wy x:=by
 intro x a;simp[ld]at a;rcases a with rfl|rfl|rfl|rfl
 .exact .int _ _
 .exact .int _ _
 .exact .int _ _
 .exact .string _
def sD(t:bI):bp:=Uj (ld t) (axI t)
def axJ:∀x∈[Value.int .i64 1,.int .i64 0,.int .i64 0,.slice none 0 0,.slice none 0 0,.slice none 0 0,.slice none 0 0],wy x:=by intro x a;simp at a;rcases a with rfl|rfl|rfl<;>first|exact .int _ _ |exact .nil _ _
def VD:bp:=Uj _ axJ
def axK(k:Int)(e:List bI)(w:aO)(v:Value):Prop:=∃b x,v=.agg #[.int .i64 2,.int .i64 k,.int .i64 0,.slice (some ⟨b,0,none⟩) 1 1,.slice none 0 0,.slice none 0 0,.slice none 0 0]/\w.cell? ⟨b,0,none⟩=some x/\p8 w x e
def O6(k:Int)(e:List bI):bp:=⟨axK k e,λw w' v hb⟨b,x,e1,h1,h2⟩=>⟨b,x,e1,bo.cj hb _ _ _ h1,h2.mono p7 (bo.cj hb)⟩,λ_=>True,λn _ ρ w w' v v' hc hv⟨b,x,e1,h1,h2⟩=>by
 subst e1
 obtain⟨l',rfl,k⟩:=tg hv
 cases k with
 |cons k1 k=>cases k with
  |cons k2 k=>cases k with
   |cons k3 k=>cases k with
    |cons k4 k=>cases k with
     |cons dw k=>cases k with
      |cons fH k=>cases k with
       |cons l6 k=>
        cases k
        obtain⟨b',e4,r⟩:=xK k4
        subst e4
        rw[js k1,js k2,js k3,qv dw,qv fH,qv l6]
        obtain⟨x',h3,h4⟩:=hc.cells ⟨b,0,none⟩ ⟨b',0,none⟩ x ⟨r,Y,Y⟩ h1
        exact⟨b',x',Y,h3,av.a8.carry zQ hc.cells h4 h2⟩⟩
section
variable{N:Nat}{K:bJ}{o:Oper}{F:bp}{x y z:Operand}{al:Type}{T T':TypeId}
def O7{t:List aA}{v:Value}(h:(cm t).R w v):∃b,v=.pointer (some ⟨b,0,none⟩)/\∃aT,w.cell? ⟨b,0,none⟩=some aT/\jM w aT t:=by obtain⟨b,aT,rfl,-,h1,a⟩:=h;exact⟨b,Y,aT,(h1.rules.1 0).trans Y,a⟩
def GZ{t:List aA}(a:o.op=.fieldAddr 28 x 0)(c:bl K x (cm t)):bG (ae prog true) N K o (ei (pI 5 nt) t):=dT c λev w h=>by obtain⟨b,e,aT,h1,d⟩:=O7 h;exact⟨.pointer (some ⟨b,0,none⟩),w,Bf,⟨b,0,Y,aT,h1,d.bd⟩,Below.refl _ _⟩
def wJ{t:List aA}(a:o.op=.load 28 x)(c:bl K x (cm t)):bG (ae prog true) N K o (la t):=dT c λev w h=>by obtain⟨b,e,aT,h1,d⟩:=O7 h;exact⟨.agg #[aT],w,Bf,⟨aT,Y,d⟩,Below.refl _ _⟩
def Km(a:o.op=.load 25 x)(c:bl K x (kF m n)):bG (ae prog true) N K o (OH m n):=dT c λev w h=>by obtain⟨b,f,e,h0,h1⟩:=h;simp only[Nat.add_zero]at h0 h1;exact⟨.agg #[.int .i64 m,.int .i64 n],w,Bf,Y,Below.refl _ _⟩
def G0{t:bI}(a:o.op=.load 32 x)(c:bl K x (ei dS t)):bG (ae prog true) N K o (sD t):=dT c λev w h=>by obtain⟨b,f,e,h0,h1,i,h3,g⟩:=h;simp only[Nat.add_zero]at h0;have d:=fS h0;exact⟨.agg #[.int .i64 t.op,.int .i64 t.a,.int .i64 t.v,.string t.s],w,Bf,Y,Below.refl _ _⟩
def Kn{t:List aA}(a:o.op=.extract x 0)(b:bl K x (yO t)):bG (ae prog true) N K o (la t):=dT b λev w h=>by obtain⟨aT,e,h1⟩:=h;exact⟨.agg #[aT],w,Bf,⟨aT,Y,h1⟩,Below.refl _ _⟩
def Ko{t:List aA}(a:o.op=.extract x 1)(b:bl K x (yO t)):bG (ae prog true) N K o (bL true):=dT b λev w h=>by obtain⟨aT,e,h1⟩:=h;exact⟨.bool true,w,Bf,Y,Below.refl _ _⟩
end
end aG
namespace aG
open Conc ConcM RowKit av bn cz c5 kZ
section
variable{O:gW}
section
variable{P:cg}{Post:Value->aO->Prop}{n:Nat}{Shun:Loc->Prop}{M:Nat->Prop}{w:aO}{f:FuncId}{a b:Act}{k k':List Item}{cs:List Frame}{n0:Nat}{aX:Nat->Prop}{w0:aO}{N:Nat}{K:bJ}
def q9(r:(cU P).Good)(hF:P.follows .rangeFuncRecover=true)(E:kY P f){D:fc}(hd:D.d=cs.length)(C:zY P D f)(Q:fp D a b)(u:k.all (gX D)=true)(H:Held O P aX w0 n0 a M w Shun)(hk:k.all (fX P)=true)(X:k'.all (fX P)=true){U:Nat->Prop}{I J:Act->aO->Prop}(L:pz n0 I)(N:pz n0 J)(h0:I a w)(hrun:∀W,n0<=W.heap.size->I a W->bK (ae P true) k k' (λa1 w1=>a1.defers=[]/\(∀s,U s->a1.tmps[s]?=a.tmps[s]?)/\J a1 w1/\Below n0 W w1) a W)(V:∀a' i M' w',Held O P aX w0 n0 a' M' w' Shun->fp D a' i->(∀s,U s->a'.tmps[s]?=a.tmps[s]?)->J a' w'->bS P Post n Shun 0 (aZ ((base f).at i k') cs) w'):
 bS P Post n Shun 0 (aZ ((base f).at b k) cs) w:=by
 refine SB r hF (D:=D) H.fF (f:=f) (cs0:=[]) (bs:=cs) (g:=aZ ((base f).at b k) cs) As (.gt (Q.SC f k) (C.bg u a) cs hd.symm _ _) (IK r E H.all H.defers hk) .nil ⟨Y,Y⟩ (R:=λt cse d q=>cse=[]/\∃a1,t=(base f).at a1 k'/\a1.defers=[]/\(∀s,U s->a1.tmps[s]?=a.tmps[s]?)/\J a1 q/\∃T,Below n0 {d with tape:=T} q) (λd j T=>?_) ?_
 .obtain⟨a1,w1,⟨h1,l,p,h3⟩,o⟩:=hrun {d with tape:=T} (by show n0<=d.heap.size;rw[j.size];exact H.size) (L _ _ _ _ _ (H.fF.lV j T) H.all h0) (base f) [ey f];exact⟨_,[],w1,o,Y,a1,Y,h1,l,p,T,h3⟩
 .rintro ρ t cse d q aP a7 w' g' j ⟨rfl,a1,rfl,y,l,h1,T,p⟩ z m c x;cases m;obtain⟨a',rfl,h3,o⟩:=IL y X z;obtain⟨i,rfl,F⟩:=mr.act hd x;refine V a' i (px ρ) w' (H.next j c p (c.all h3) o) F (λs hs=>?_) (N _ _ _ _ _ (c.lV H.size) h3 h1);have e:=l s hs;cases h:a.tmps[s]? with|none=>rw[h]at e;have:=h3.size;grind|some v=>rw[h]at e;obtain⟨Z,B,A⟩:=h3.some e;obtain⟨S,K⟩:=c.rel;rw[B,St K.one A ((H.all.get _ _ _ h h).mono c.le)]
structure wK(O:gW)(P:cg)(N:Nat)(K:bJ)(aX:Nat->Prop)(w0:aO)(gN:Act):Prop where
 fF:∃Shun,Home O P aX Shun w0
 all:aS (cq aX) gN.tmps gN.tmps
 mq:af N K gN w0
 ok:∀s F,K s=some F->F.ok w0.heap.size
def n8(K:bJ)(gN a:Act):Prop:=∀s F,K s=some F->a.tmps[s]?=gN.tmps[s]?
def wK.now{gN:Act}(p:wK O P N K aX w0 gN)(H:Held O P aX w0 w0.heap.size a M w Shun)(hs:n8 K gN a)(a0:a.tmps.size=N):af N K a w:=by
 obtain⟨S,h⟩:=p.fF;have f:∀b,aX b->b<w0.heap.size:=λb d=>by obtain⟨o,h1,-⟩:=h.cl b d;grind
 have g:ea aX w0 w:=λb c e fr d i=>H.keep b c e fr ⟨d,f b d⟩ i;refine⟨a0,λs F e=>?_⟩;obtain⟨v,h1,j⟩:=p.mq.has s F e;exact⟨v,(hs s F e).trans h1,F.j3 _ (p.ok s F e) _ _ _ _ _ (g.lV h) (p.all.get _ _ _ h1 h1) j⟩
def Held.O8(H:Held O P aX w0 n0 a M w Shun):Held O P M w w.heap.size a M w Shun:=.start H.fF (Nat.le_refl _) H.all H.defers
def Held.phase(H:Held O P aX w0 n0 a M w Shun)(hk:af N K a w)(hok:∀s F,K s=some F->F.ok w.heap.size):wK O P N K M w a:=⟨⟨_,H.fF⟩,H.all,hk,hok⟩
def Held.back{a':Act}{M':Nat->Prop}{w':aO}{e:Loc->Prop}(H:Held O P aX w0 n0 a M w Shun)(c:Held O P M w w.heap.size a' M' w' e):Held O P aX w0 n0 a' M' w' e:=
 ⟨c.fF,λb d=>c.sub b (H.sub b d),H.since.trans c.since,H.keep.trans (M':=λb=>M b/\b<w.heap.size) (λb d=>⟨H.sub b d.1,Nat.lt_of_lt_of_le d.2 H.size⟩) c.keep,c.all,c.defers,Nat.le_trans H.size c.since.size⟩
variable{ops:Array Oper}{i:Nat}{rest:List Nat}{o:Oper}{gN:Act}
def axN(hC:(cU P).Good)(um:P.follows .mixedOrders=true)(hf:kY P f){D:Nat->fc}(q:J6 P f ops k D)(hk:(Item.inRegion ops []::k).all (fX P)=true)(p:wK O P N K aX w0 gN)(aeI:∀(i:Nat)(o:Oper)(d:Nat),ops[i]?=some o->o.dst=some d->K d=none)(g:Nat){j:Oper}{d:Nat}{gf:FuncId}{R:Func}{gV:Code}{args:Array Operand}{ats:Array TypeId}(Z:ops[g]?=some j)(L:j.op=.call {callee:=.value (.func gf),args,argTypes:=ats})(xJ:P.funcs[gf]?=some R)(lr:(R.name== "runtime.NumGoroutine")=false)(hb:R.body=some gV)(fK:j.guard=none)(ta:∀n,kZ.hR (D n) j=true)(hn:n+16*d<=200){I:Array Bool->Act->aO->Prop}(y:∀au,pz w0.heap.size (I au)){t:Tmp}(iG:j.dst=some t)(MM:t<N){np:aO->Value->Prop}(hsz:∀au a w,I au a w->au.size=ops.size/\a.tmps.size=N)(z:fp (D cs.length) a b)(H:Held O P aX w0 w0.heap.size a M w Shun)(hst:n8 K gN a)(h0:I (Array.replicate ops.size false) a w)(hstep:∀au a W i o,af N K a W->I au a W->a.defers=[]->w0.heap.size<=W.heap.size->i≠g->au.getD i true=false->ops[i]?=some o->(∀e∈o.after,Region.binds .any e=true->au.getD e.on false=true)->wpOps (ae P true) ops (jb λa1 w1=>((∃d v,o.dst=some d/\a1=a.put (some d) v)\/a1=a)/\I (au.setIfInBounds i true) a1 w1/\Below w0.heap.size W w1) [i] a W)(kP:∀au a M w Shun,Held O P aX w0 w0.heap.size a M w Shun->af N K a w->I au a w->au.getD g false=false->(∀e∈j.after,Region.binds .any e=true->au.getD e.on false=true)->jN O P Post gf (args.map a.eval) M w d (λu _ w'=>np w' u/\ea M w w'))(lC:∀au a w u,I au a w->au.getD g false=false->(∀e∈j.after,Region.binds .any e=true->au.getD e.on false=true)->np w u->I (au.setIfInBounds g true) (a.put (some t) u) w)(jk:∀au a b M' w' c A,af N K a w'->I au a w'->Region.ready .any ops au=[]->c<=n+16*d->Held O P aX w0 w0.heap.size a M' w' A->fp (D cs.length) a b->n8 K gN a->bS P Post c A 0 (aZ ((base f).at b (.inRegion ops []::k)) cs) w'){id:Nat}:bS P Post n Shun 0 (aZ ((base f).at b (.code (.region id ops true)::k)) cs) w:=by
 have cK:∀au a M w Shun k,Held O P aX w0 w0.heap.size a M w Shun->I au a w->I au a (w.at k):=λau a M w Shun k H h=>y au _ _ _ _ _ ((show ea M w (w.at k)from λ_ _ _ _ _ x=>x).lV H.fF) H.all h;have dB:∀l:List Nat,(Item.inRegion ops l::k).all (gX (D cs.length))=true:=λl=>by rw[List.all_cons,Bool.and_eq_true];refine⟨?_,q.items _⟩;simp[gX];intro i _;cases r:ops[i]? with|none=>rfl|some o=>exact Array.all_eq_true_iff_forall_mem.1 (q.ops _) o (Array.mem_of_getElem? r)
 refine ZN um (I:=λau b M w c Shun=>∃a,fp (D cs.length) a b/\Held O P aX w0 w0.heap.size a M w Shun/\n8 K gN a/\I au a w/\c<=n+16*d/\(au.getD g false=false->c<=n)) (λau b M w c Shun k⟨a,E,h,hs,hi,h'⟩=>⟨a,E,h.at k,hs,cK _ _ _ _ _ _ h hi,h'⟩) ?_ (λau b M w c Shun⟨a,E,h,hs,hi,h1,_⟩ hr=>jk au a b M w c Shun (p.now h hs (hsz _ _ _ hi).2) hi hr h1 h E hs) ⟨a,z,H,hst,h0,Nat.le_add_right _ _,λ_=>Nat.le_refl _⟩;intro au b M w c Shun i o rest ⟨a,z,H,hst,hi,wX,ur⟩ kO r C K';have Ff:i<au.size:=by grind
 by_cases X:i=g
 .subst X;rw[Z]at r;cases r;have im:au.getD i false=false:=by grind
  have T:=(hsz _ _ _ hi).2;refine avu L xJ lr hb AA hf q z H hk Z fK ⟨iG,AA⟩ ta (I:=I au) (J:=λa' w'=>(∃u,a'=a.put (some t) u)/\I (au.setIfInBounds i true) a' w') (np:=np) (y au) hi (λk=>kP au a M (w.at k) Shun (H.at k) (p.now (H.at k) hst T) (cK _ _ _ _ _ _ H hi) im C) (λu w' h1 m=>⟨⟨u,Y⟩,lC au a w' u h1 im C m⟩) ?_;rintro a' S M' w' iv A h1 m B ⟨⟨u,rfl⟩,h3⟩;refine K' S M' w' iv A ⟨_,B,m,λs F e=>?_,h3,AA,λh=>?_⟩
  .have Q:t≠s:=λx=>by grind
   exact(dP Q).trans (hst s F e)
  .simp_all
 .have T:=(hsz _ _ _ hi).2;refine q9 hC q.follows hf (q.d _) (q.fn _) z (dB _) H (k:=.inRegion ops (i::rest)::k) (k':=.inRegion ops rest::k) DX DX (U:=λs=>∃F,K s=some F) (I:=λa w=>af N K a w/\I au a w) (J:=I (au.setIfInBounds i true)) (λρ a1 bC w1 V hc ha h=>⟨jP _ p.ok ρ a1 bC w1 V hc ha h.1,y au ρ a1 bC w1 V hc ha h.2⟩) (y _) ⟨p.now H hst T,hi⟩ (λW hW MN b cs=>?_) ?_
  .obtain⟨a1,w1,h1,m⟩:=IP rest [i] a W (hstep au a W i o MN.1 MN.2 H.defers hW X kO r C) b k cs;refine⟨a1,w1,?_,m⟩;obtain⟨h3,h4,a4⟩:=h1;rcases h3 with⟨d',v,gz,rfl⟩|rfl
   .refine⟨H5,λs hs=>?_,h4,a4⟩;grind[dP]
   .exact⟨H.defers,λ_ _=>Y,h4,a4⟩
  .intro a' S M' w' m B hu h3;refine K' S M' w' c Shun ⟨a',B,m,λs F e=>(hu s ⟨F,e⟩).trans (hst s F e),h3,wX,λh=>ur ?_⟩;simp_all
end
end
end aG
namespace aG
open Conc ConcM RowKit av bn cz c5 bZ bN cM
def axQ(c:aA)(w:aO)(v:Value):Prop:=∃bg vs aY,v=.agg #[.int .i64 c.kind,.int .i64 c.ck,bg,vs,aY]/\sN w bg vs aY c
def qZ(c:aA):bp:=⟨axQ c,λw w' v hb⟨bg,vs,aY,e,h⟩=>⟨bg,vs,aY,e,h.mono (bo.cj hb)⟩,λ_=>True,λn _ ρ w w' v v' hc hv⟨bg,vs,aY,e,h⟩=>by
 subst e
 obtain⟨l',rfl,k⟩:=tg hv
 cases k with
 |cons k1 k=>cases k with
  |cons k2 k=>cases k with
   |cons k3 k=>cases k with
    |cons k4 k=>cases k with
     |cons dw k=>
      cases k
      rw[js k1,js k2]
      exact⟨_,_,_,Y,av.a8.carry IE hc.cells k3 h.fg,av.a8.carry Mp hc.cells k4 h.dl,av.a8.carry Mo hc.cells dw h.cp⟩⟩
section
variable{N:Nat}{K:bJ}{o o2:Oper}{F:bp}{x y z:Operand}{al:Type}{T T':TypeId}
def qX{c:aA}(a:o.op=.load 43 x)(d:bl K x (ei nt c)):bG (ae prog true) N K o (qZ c):=dT d λev w h=>by obtain⟨b,f,e,bg,vs,aY,h0,h1,k,h3,j,i⟩:=h;simp only[Nat.add_zero]at h0;have g:=fS h0;exact⟨.agg #[.int .i64 c.kind,.int .i64 c.ck,bg,vs,aY],w,Bf,⟨bg,vs,aY,Y,i⟩,Below.refl _ _⟩
def qM{t:List aA}(a:o.op=.box 28 x)(c:bl K x (la t)):bG (ae prog true) N K o (cm t):=dT c λev w h=>by obtain⟨aT,e,h1⟩:=h;obtain⟨⟨g,f,rfl,-,-⟩,-⟩:=id h1;have b:Below w.heap.size w (w.alloc (.cells #[.slice g t.length f] 28)):=(Below.refl _ w).alloc J1 _;have d:Hid _:=h1;clear h1;exact⟨.pointer (some ⟨w.heap.size,0,none⟩),_,Bf,⟨w.heap.size,_,Y,Nat.zero_le _,ag.new _ _ _,jM.kept (An b) d.out⟩,b⟩
section
variable{ops:Array Oper}{i d s:Nat}{Q:Exit->Act->aO->Prop}{rest:List Nat}{a:Act}{w:aO}
def axR{t:List aA}(h1:ops[i]?=some o)(j:ops[i+1]?=some o2)(e:o.op=.alloc 28)(c:o2.op=.store 28 (.tmp d) (.tmp s))(g:K s=some (la t))(hk:af N K a w)(hd:o.dst=some d)(f:o2.dst=none)(g1:o.guard=none)(m:o2.guard=none)(a0:d<N)(x:d≠s)(k:∀a' w1,af N (up K d (cm t)) a' w1->a'.defers=a.defers->Below w.heap.size w w1->wpOps (ae prog true) ops Q rest a' w1):wpOps (ae prog true) ops Q (i::(i+1)::rest) a w:=by
 obtain⟨v,p,aT,rfl,h⟩:=hk.has s _ g;obtain⟨⟨u,r,rfl,-,-⟩,-⟩:=id h;have b:Below w.heap.size w (w.alloc (.cells #[.slice u t.length r] 28)):=(Below.refl _ w).alloc J1 _;have n:Hid _:=h;clear h;refine Up (F:=cm t) (Gp:=w.alloc (.cells #[.slice none 0 0] 28)) h1 j g1 m hd f a0 x hk p (λev=>?_) (λev y z=>?_) b ⟨w.heap.size,_,Y,Nat.zero_le _,ag.new _ _ _,jM.kept (An b) n.out⟩ λa' q l=>k a' _ q l b
 .cases o;simp only at e;subst e;go_simp
 .cases o2;simp only at c;subst c;go_simp
def ql{c:aA}(h1:ops[i]?=some o)(q:ops[i+1]?=some o2)(l:o.op=.alloc 43)(e:o2.op=.store 43 (.tmp d) (.tmp s))(p:K s=some (qZ c))(hk:af N K a w)(hd:o.dst=some d)(n:o2.dst=none)(g1:o.guard=none)(t:o2.guard=none)(a0:d<N)(z:d≠s)(k:∀a' w1,af N (up K d (ei nt c)) a' w1->a'.defers=a.defers->Below w.heap.size w w1->wpOps (ae prog true) ops Q rest a' w1):wpOps (ae prog true) ops Q (i::(i+1)::rest) a w:=by
 obtain⟨v,x,bg,vs,aY,rfl,h⟩:=hk.has s _ p;obtain⟨j,ci,f,g,an,m,rfl,rfl,rfl⟩:=h.shape;have b:Below w.heap.size w (w.alloc (.cells #[.int .i64 c.kind,.int .i64 c.ck,.slice j c.fg.length ci,.slice f c.dl.length g,.slice an c.cp.length m] 43)):=(Below.refl _ w).alloc J1 _;have cL:=ag.new w #[.int .i64 c.kind,.int .i64 c.ck,.slice j c.fg.length ci,.slice f c.dl.length g,.slice an c.cp.length m] 43;have u:Hid _:=h;clear h;refine Up (F:=ei nt c) (Gp:=w.alloc (.cells #[.int .i64 0,.int .i64 0,.slice none 0 0,.slice none 0 0,.slice none 0 0] 43)) h1 q g1 t hd n a0 z hk x (λev=>?_) (λev A B=>?_) b ⟨w.heap.size,0,Y,_,_,_,(cL.rules.1 _).trans Y,(cL.rules.1 _).trans Y,(cL.rules.1 _).trans Y,(cL.rules.1 _).trans Y,(cL.rules.1 _).trans Y,u.out.mono (bo.cj b)⟩ λa' y r=>k a' _ y r b
 .cases o;simp only at l;subst l;go_simp
 .cases o2;simp only at e;subst e;go_simp
end
end
def qg{P:cg}{f:FuncId}{fn:Func}{c:Code}{args:Array Value}{w:aO}{R:Value->aO->Prop}{ks:List Item}(a:P.funcs[f]?=some fn)(d:fn.body=some c)(h:bK P [.code c] (.code .ret::ks) (λa1 w1=>a1.defers=[]/\∃v,(results fn a1.tmps).run P w1=.ok v w1/\R v w1) ⟨args++Array.replicate (fn.ntmps-args.size) undef,[]⟩ w):Calls P f args w λe w'=>∃v,e=.returned v/\R v w':=λcs=>by obtain⟨a1,w1,⟨hd,v,b,i⟩,g⟩:=h (base f) cs;have h3:=Steps.trans g (.one step_ret);rw[<-enter_at a d]at h3;exact⟨.returned v,w1,_,⟨v,Y,i⟩,h3,Y,Y,hd,Y,fn,a,b⟩
def wL(b:Nat)(cs:Array Value)(T:TypeId):bp:=⟨λw u=>u=.pointer (some ⟨b,0,none⟩)/\ag w b cs T,λ_ _ _ hb h=>⟨h.1,h.2.call hb⟩,λ_=>False,λ_ h=>h.elim⟩
def O9(b k:Nat)(v:Value):bp:=⟨λw u=>u=.pointer (some ⟨b,k,none⟩)/\w.cell? ⟨b,k,none⟩=some v,λ_ _ _ hb h=>⟨h.1,bo.cj hb _ _ _ h.2⟩,λ_=>False,λ_ h=>h.elim⟩
def Ed(l:List Value):bp:=⟨λw u=>∃g c,u=.slice (some ⟨g,0,none⟩) 1 c/\∀j x,l[j]?=some x->w.cell? ⟨g,j,none⟩=some x,λ_ _ _ hb⟨g,c,h1,h2⟩=>⟨g,c,h1,λj x h=>bo.cj hb _ _ _ (h2 j x h)⟩,λ_=>False,λ_ h=>h.elim⟩
variable{v:Value}
section
variable{N:Nat}{K:bJ}{o:Oper}{F:bp}{x y z:Operand}{al:Type}{T T':TypeId}{P:cg}
def vg{t:List aA}(a:o.op=.fieldAddr 28 x 0)(c:bl K x (iR v (cm t))):bG (ae prog true) N K o (ei (pI 5 nt) t):=dT c λev w h=>by obtain⟨b,e,aT,h1,d⟩:=O7 h.2;exact⟨.pointer (some ⟨b,0,none⟩),w,Bf,⟨b,0,Y,aT,h1,d.bd⟩,Below.refl _ _⟩
def O_{b k:Nat}{cs:Array Value}(a:o.op=.fieldAddr 43 x k)(c:bl K x (wL b cs 43))(hk:k<5)(d:cs[k]?=some v):bG (ae prog true) N K o (O9 b k v):=dT c λev w h=>by obtain⟨e,h⟩:=h;refine⟨.pointer (some ⟨b,k,none⟩),w,?_,⟨Y,(h.rules.1 k).trans d⟩,Below.refl _ _⟩;cases o;simp only at a;subst a;have:k=0\/k=1\/k=2\/k=3\/k=4:=As;rcases this with rfl|rfl|rfl|rfl|rfl<;>go_simp
def axT{b:Nat}(a:o.op=.fieldAddr 28 x 0)(c:bl K x (wL b #[v] 28)):bG (ae prog true) N K o (O9 b 0 v):=dT c λev w h=>by obtain⟨e,h⟩:=h;refine⟨.pointer (some ⟨b,0,none⟩),w,?_,⟨Y,(h.rules.1 0).trans Y⟩,Below.refl _ _⟩;cases o;simp only at a;subst a;go_simp
def Kq{b k:Nat}(a:o.op=.load T x)(c:bl K x (O9 b k v))(d:T=3\/T=2\/T=9\/T=4\/T=39\/T=40\/T=41\/T=26):bG (ae prog true) N K o (de v):=dT c λev w h=>by obtain⟨e,h⟩:=h;refine⟨v,w,?_,Y,Below.refl _ _⟩;cases o;simp only at a;subst a;rcases d with rfl|rfl|rfl|rfl|rfl|rfl|rfl|rfl<;>go_simp
def axU{b k:Nat}{n:Int}(c:o.op=.load 3 x)(a:bl K x (O9 b k (.int .i64 n))):bG (ae prog true) N K o (bt n):=Kq c a (.inl Y)
def axV{n:Int}(a:o.op=.buildSlice 39 1 #[(0,x)])(b:bl K x (bt n)):bG (ae prog true) N K o (Ed [.int .i64 n]):=dT b λev w h=>by
 have e:ev x=.int .i64 n:=h;refine⟨.slice (some ⟨w.heap.size,0,none⟩) 1 1,w.alloc (.cells #[.int .i64 n] 2),?_,⟨w.heap.size,1,Y,λj v c=>?_⟩,(Below.refl _ w).alloc J1 _⟩
 .cases o;simp only at a;subst a;go_simp
 simp_all
def axW{n:ByteArray}(a:o.op=.buildSlice 40 1 #[(0,x)])(b:bl K x (z2 n)):bG (ae prog true) N K o (Ed [.string n]):=dT b λev w h=>by
 have e:ev x=.string n:=h;refine⟨.slice (some ⟨w.heap.size,0,none⟩) 1 1,w.alloc (.cells #[.string n] 9),?_,⟨w.heap.size,1,Y,λj v c=>?_⟩,(Below.refl _ w).alloc J1 _⟩
 .cases o;simp only at a;subst a;go_simp
 simp_all
def axX{n:Bool}(a:o.op=.buildSlice 41 1 #[(0,x)])(b:bl K x (bL n)):bG (ae prog true) N K o (Ed [.bool n]):=dT b λev w h=>by
 have e:ev x=.bool n:=h;refine⟨.slice (some ⟨w.heap.size,0,none⟩) 1 1,w.alloc (.cells #[.bool n] 4),?_,⟨w.heap.size,1,Y,λj v c=>?_⟩,(Below.refl _ w).alloc J1 _⟩
 .cases o;simp only at a;subst a;go_simp
 simp_all
end
def qb{P:cg}{t e:TypeId}{z:Value}{size bytes:Nat}(E:oi P t e z size bytes){ops:Array Oper}{i d:Nat}{o:Oper}{a:Act}{w:aO}{x y:Operand}(s:ops[i]?=some o)(F:o.guard=none)(hd:o.dst=some d)(f:o.op=.call {callee:=.builtin .append,args:=#[x,y],argTypes:=#[t,t]}){B n:Nat}{xs news:List Value}(q:a.eval x=v)(H:w.ownsRow B e size v n xs){m g c:Nat}(p:a.eval y=.slice (some ⟨g,0,none⟩) m c)(A:news.length=m*size)(I:∀j u,news[j]?=some u->w.cell? ⟨g,j,none⟩=some u)(h1:∀u∈news,u.oneCell'=true)(K:n+m<=1000000)(h:bytes<=1000)(C:B<=w.heap.size){Q:Act->aO->Prop}(k:∀b w',w'.ownsRow B e size b (n+m) (xs++news)->w.grownBy w' v.ownBlock->(b.ownBlock=v.ownBlock\/b.ownBlock=some w.heap.size)->Q (a.put (some d) b) w'):wpOps P ops (jb Q) [i] a w:=by
 obtain⟨Ak,hi,l,hsz,L⟩:=info_parts E.hi;obtain⟨b,w',r,D,h3,N,J⟩:=run_append_own_at (P:=P) w B t o.type e Ak z size bytes E.ht hi l hsz L E.HG E.hsz v n xs H ⟨g,0,none⟩ m c news A (λj u M=>by
  grind[Addr.add]) h1 (by simp[maxLen];omega) (by
   have:(n+m)*bytes<=1000000*1000:=Nat.mul_le_mul K h;omega) C
 refine qw s F hd (v:=b) (w1:=w') ?_ (k b w' D h3 J);simp only[execOp,f,resolve,invoke,builtin,q,p,r,Result.andThen,Sem.run_bind,Sem.run_pure,List.map_toArray,List.map_cons,List.map_nil]
theorem FX{w:aO}{a b:Nat}{f g:Array Value}{d c:TypeId}(j:ag w a f d)(i:ag w b g c)(h:d≠c):a≠b:=λe=>by simp_all[ag]
theorem Pa{w:aO}{B:Nat}{e:TypeId}{size n:Nat}{xs:List Value}(h:w.ownsRow B e size v n xs){g:Nat}(hg:v.ownBlock=some g):∃c,ag w g c e:=by
 obtain⟨-,⟨a,-⟩|⟨g',cap,be,a,-,b,-⟩⟩:=h
 .rw[a]at hg;cases hg
 .rw[a]at hg;cases hg;exact⟨be,b⟩
theorem VE{w:aO}{B:Nat}{e T:TypeId}{size n:Nat}{xs:List Value}(h:w.ownsRow B e size v n xs){b:Nat}{cs:Array Value}(c:ag w b cs T)(a:e≠T):v.ownBlock≠some b:=λhg=>by grind[Pa,FX]
def G1{w w1:aO}{B d:Nat}{e a:TypeId}{size n size' b:Nat}{u:Value}{xs xs':List Value}(h:w.ownsRow B e size v n xs)(i:w.ownsRow d a size' u b xs')(c:e≠a)(hg:w.grownBy w1 u.ownBlock):w1.ownsRow B e size v n xs:=by refine h.kept hg ?_;cases f:v.ownBlock with|none=>grind|some g=>grind[Pa,VE]
theorem wM{w:aO}{B:Nat}{e T:TypeId}{size n:Nat}{xs:List Value}(h:w.ownsRow B e size v n xs){b:Nat}{cs:Array Value}(k:ag w b cs T)(i:e≠T)(f:Nat)(x:Value):(w.setCell ⟨b,f,none⟩ x).ownsRow B e size v n xs:=by
 obtain⟨c,⟨a,hn⟩|⟨g,cap,be,a,hg,j,d⟩⟩:=id h
 .exact⟨c,.inl ⟨a,hn⟩⟩
 .refine⟨c,.inr ⟨g,cap,be,a,hg,?_,d⟩⟩;have l:g≠b:=λe=>by simp_all[ag]
  grind[Below.heap_setCell]
def AD{w w1:aO}{B:Nat}{e:TypeId}{size n:Nat}{xs:List Value}(h:w.ownsRow B e size v n xs)(f:Below w.heap.size w w1):w1.ownsRow B e size v n xs:=by
 obtain⟨b,⟨a,hn⟩|⟨g,cap,be,a,hg,c,d⟩⟩:=id h
 .exact⟨b,.inl ⟨a,hn⟩⟩
 .exact⟨b,.inr ⟨g,cap,be,a,hg,(f.block g (ag.lt (show ag w g be e from c))).trans c,d⟩⟩
def Ee{w w1:aO}{B n:Nat}{e:TypeId}{size:Nat}{xs:List Value}(h:w.ownsRow B e size v n xs)(hg:w.grownBy w1 v.ownBlock)(c:B<=w.heap.size):Below B w w1:=
 ⟨hg.os,hg.tape,hg.output,hg.size,λb a=>hg.block b As λe=>by have:=(h.lt b e.symm).1;omega⟩
def Pb{P:cg}{t e yU:TypeId}{z:Value}{size bytes:Nat}(E:oi P t e z size bytes){ops:Array Oper}{N i d1 h r q sb b f:Nat}{p o2 o:Oper}{K:bJ}{a:Act}{w:aO}{cs:Array Value}{rest:List Nat}{Q:Exit->Act->aO->Prop}(h1:ops[i]?=some p)(y:ops[i+1]?=some o2)(h3:ops[i+2]?=some o)(g1:p.guard=none)(T:o2.guard=none)(U:o.guard=none)(I:p.dst=some d1)(O:o2.dst=some h)(J:o.dst=none)(x:p.op=.call {callee:=.builtin .append,args:=#[.tmp r,.tmp q],argTypes:=#[t,t]})(Fc:∀(ev:Operand->Value) w,ev (.tmp sb)=.pointer (some ⟨b,0,none⟩)->(execOp ev o2).run P w=.ok (.value (.pointer (some ⟨b,f,none⟩))) w)(TY:∀(ev:Operand->Value) w j n c,ag w b cs yU->ev (.tmp h)=.pointer (some ⟨b,f,none⟩)->ev (.tmp d1)=.slice j n c->(execOp ev o).run P w=.ok .skip (w.setCell ⟨b,f,none⟩ (.slice j n c)))(hs:d1<N/\h<N/\d1≠h/\d1≠sb)(hk:af N K a w){news:List Value}(W:K r=some (de v))(V:K q=some (Ed news))(SA:K sb=some (wL b cs yU)){B n:Nat}{xs:List Value}(Z:w.ownsRow B e size v n xs)(hl:news.length=size)(M:∀u∈news,u.oneCell'=true)(hn:n+1<=1000000)(L:bytes<=1000)(S:B<=w.heap.size)(hT:e≠yU)(k:∀a' w1 d,w1.ownsRow B e size d (n+1) (xs++news)->w.grownBy w1 v.ownBlock->ag w1 b cs yU->(∀s,s≠d1->s≠h->a'.tmps[s]?=a.tmps[s]?)->a'.tmps.size=N->a'.defers=a.defers->wpOps P ops Q rest a' (w1.setCell ⟨b,f,none⟩ d)):wpOps P ops Q (i::(i+1)::(i+2)::rest) a w:=by
 obtain⟨v0,bu,rfl⟩:=hk.has r _ W;obtain⟨u2,bb,g,c,rfl,LX⟩:=hk.has q _ V;obtain⟨u3,H,rfl,X⟩:=hk.has sb _ SA;refine jO (R:=λa1 w1=>∃d,a1=a.put (some d1) d/\w1.ownsRow B e size d (n+1) (xs++news)/\w.grownBy w1 v0.ownBlock) (qb E h1 g1 I x (eb bu) Z (eb bb) As LX M hn L S λd w' r1 m r3=>⟨d,Y,r1,m⟩) ?_;rintro a1 w1 ⟨d,rfl,r1,m⟩;have F:ag w1 b cs yU:=ag.grown X m λg' m_ e=>by grind[VE]
 obtain⟨j,cc,rfl⟩:=m9 r1;refine jO (R:=λD l=>D=(a.put (some d1) (.slice j (n+1) cc)).put (some h) (.pointer (some ⟨b,f,none⟩))/\l=w1) (qw y T O (Fc _ _ (eb ((dP hs.2.2.2).trans H))) ⟨Y,Y⟩) ?_;rintro D l ⟨rfl,rfl⟩;refine jO (R:=λC A=>C=(a.put (some d1) (.slice j (n+1) cc)).put (some h) (.pointer (some ⟨b,f,none⟩))/\A=l.setCell ⟨b,f,none⟩ (.slice j (n+1) cc)) (wb h3 U J (TY _ _ _ _ _ F (eb (kt Jf)) (eb ((dP (Ne.symm hs.2.2.1)).trans (kt (by rw[hk.size];grind))))) ⟨Y,Y⟩) ?_;rintro C A ⟨rfl,rfl⟩;exact k _ l _ r1 m F (λs h1 y=>(dP (Ne.symm y)).trans (dP (Ne.symm h1))) Is Gh
def qO(l:Array Oper){l':Array Oper}(e:l=l':=by simp only[aq,pL,Tryz.f13,Option.getD_some,Nat.reduceBEq,Bool.false_eq_true,↓reduceIte];exact Y):l=l':=e
def Kr(F:Func):Code:=(.seq (.seq (.region 11 (aq F 11) false) (.cond (.tmp 76) .skip (.exit 2))) (.seq (.block 3 (.seq (.region 13 (aq F 13) true) (.cond (.tmp 127) (.seq (.region 14 (aq F 14) false) .ret) .skip))) (.region 12 (aq F 12) false)))
def Ks(F:Func):Code:=(.seq (.seq (.region 4 (aq F 4) false) (.cond (.tmp 20) .skip (.exit 0))) (.seq (.block 1 (.seq (.region 6 (aq F 6) false) (.seq (.region 7 (aq F 7) false) (.seq (.seq (.region 8 (aq F 8) false) (.cond (.tmp 71) (.seq (.region 9 (aq F 9) false) .ret) .skip)) (.seq (.region 10 (aq F 10) false) (.block 2 (.loop (Kr F)))))))) (.region 5 (aq F 5) false)))
theorem axY:Tryz.f13.body=some (.seq (.region 0 (aq Tryz.f13 0) false) (.seq (.seq (.region 1 (aq Tryz.f13 1) false) (.cond (.tmp 15) (.seq (.region 2 (aq Tryz.f13 2) false) .ret) .skip)) (.seq (.seq (.region 3 (aq Tryz.f13 3) false) (.block 0 (.loop (Ks Tryz.f13)))) (.seq (.region 15 (aq Tryz.f13 15) false) .ret)))):=by kernel_rfl
def Ef(c:aA):Prop:=(c.fg.length=c.cp.length/\c.dl=[])\/(c.dl.length=c.cp.length/\c.fg=[])
def pM:(ae prog true).follows .mixedOrders=true:=by decide+kernel
def VF(t:List aA)(c:aA)(i k:Nat):bJ:=aK [(2,cm t),(3,cm t),(5,bt k),(6,ei nt c),(7,ei nt c),(8,bt i)]
def p5(l:List (Nat×bp))(s:Nat)(F:bp):∀i G,up (aK l) s F i=some G->aK ((s,F)::l) i=some G:=λi G e=>e
def l_{N:Nat}{K:bJ}{a:Act}{w:aO}{s:Nat}{b:Bool}(h:af N K a w)(hs:K s=some (bL b)):a.eval (.tmp s)=.bool b:=by obtain⟨v,h1,c⟩:=h.has s _ hs;cases c;exact eb h1
def axZ(t:List aA)(c:aA)(f:Ef c)(i k:Nat)(hi:i<c.cp.length){ks ks':List Item}{Q:Act->aO->Prop}{a:Act}{w:aO}(hk:af 128 (VF t c i k) a w)(kk:∀a' w',af 128 (up (VF t c i k) 127 (bL false)) a' w'->a'.defers=a.defers->Below w.heap.size w w'->bK (ae prog true) ks ks' Q a' w'):bK (ae prog true) (.code (.region 13 (aq Tryz.f13 13) true)::ks) ks' Q a w:=by
 rw[qO (aq Tryz.f13 13)];have eI:∀{K':bJ},z1 K' [(127,bL false),(2,cm t),(3,cm t),(5,bt k),(6,ei nt c),(7,ei nt c),(8,bt i)]->∀a' w',af 128 K' a' w'->af 128 (up (VF t c i k) 127 (bL false)) a' w':=λh a' w' hk=>(hk.aU h).sub (p5 _ _ _);rcases f with⟨h1,d⟩|⟨h1,d⟩
 .have b:i<c.fg.length:=by omega
  have e:c.dl.length=0:=AA;exact pC (m:=49) hk (dq Y LM<|dq Y KT<|dq Y KJ<|dq Y (dM Y Y Y (List.getElem?_eq_getElem hi) Ae)<|dq Y Lf<|dq Y LM<|dq Y KT<|dq Y KJ<|dq Y (dM Y Y Y (List.getElem?_eq_getElem hi) Ae)<|dq Y Lf<|dq Y (NS Y Y Y)<|dq Y KJ<|cn Y Lt<|cn Y KT<|cn Y Kk<|cn Y (Qz Y Y KS Ae As)<|cn Y KJ<|cn Y Lt<|cn Y KT<|cn Y KJ<|cn Y (dM Y Y Y (List.getElem?_eq_getElem b) Ae)<|cn Y Kf<|cn Y Lt<|cn Y KT<|cn Y KJ<|cn Y (dM Y Y Y (List.getElem?_eq_getElem b) Ae)<|cn Y Kf<|cn Y Lx<|cn Y Ky<|dq Y Ky<|dq Y KJ<|cn Y Lq<|cn Y KT<|cn Y Kk<|cn Y (Qy Y Y KS Ae As)<|cn Y KJ<|eU Y<|eU Y<|eU Y<|eU Y<|eU Y<|eU Y<|eU Y<|eU Y<|eU Y<|eU Y<|eU Y<|cn Y (kB (F:=bL false) Y Y KS)<|dq Y Ky<|rfl) Y pM AV λa' w' h1 d h3=>⟨Y,kk a' w' (eI ⟨Y,Y,Y,Y,Y,Y,Y,PA⟩ a' w' h1) d h3⟩
 .have b:i<c.dl.length:=by omega
  have e:c.fg.length=0:=AA;exact pC (m:=49) hk (dq Y LM<|dq Y KT<|dq Y KJ<|dq Y (dM Y Y Y (List.getElem?_eq_getElem hi) Ae)<|dq Y Lf<|dq Y LM<|dq Y KT<|dq Y KJ<|dq Y (dM Y Y Y (List.getElem?_eq_getElem hi) Ae)<|dq Y Lf<|dq Y (NS Y Y Y)<|dq Y KJ<|cn Y Lt<|cn Y KT<|cn Y Kk<|cn Y (Qy Y Y KS Ae As)<|cn Y KJ<|eU Y<|eU Y<|eU Y<|eU Y<|eU Y<|eU Y<|eU Y<|eU Y<|eU Y<|eU Y<|eU Y<|cn Y (kB (F:=bL false) Y Y KS)<|dq Y Ky<|dq Y KJ<|cn Y Lq<|cn Y KT<|cn Y Kk<|cn Y (Qz Y Y KS Ae As)<|cn Y KJ<|cn Y Lq<|cn Y KT<|cn Y KJ<|cn Y (dM Y Y Y (List.getElem?_eq_getElem b) Ae)<|cn Y Mq<|cn Y Lq<|cn Y KT<|cn Y KJ<|cn Y (dM Y Y Y (List.getElem?_eq_getElem b) Ae)<|cn Y Mq<|cn Y (asm Y Y Y)<|cn Y Ky<|dq Y Ky<|rfl) Y pM AV λa' w' h1 d h3=>⟨Y,kk a' w' (eI ⟨Y,Y,Y,Y,Y,Y,Y,PA⟩ a' w' h1) d h3⟩
def Pd(t:List aA)(c:aA)(k:Nat):bJ:=aK [(6,ei nt c),(7,ei nt c),(2,cm t),(3,cm t),(5,bt k)]
def ax0(t:List aA)(c:aA)(k:Nat)(q:Ef c)(x:c.cp.length<9000000000000000000)(c6:aO){ks ks':List Item}{Q:Act->aO->Prop}(kk:∀a' w',af 128 (Pd t c k) a' w'->a'.defers=[]->Below c6.heap.size c6 w'->bK (ae prog true) ks ks' Q a' w'):
 ∀m i a w,i+m=c.cp.length->af 128 (up (Pd t c k) 8 (bt i)) a w->a.defers=[]->Below c6.heap.size c6 w->bK (ae prog true) (.code (Kr Tryz.f13):: .inLoop (Kr Tryz.f13):: .inBlock 2::ks) ks' Q a w:=by
 intro m;induction m with|zero=>intro i a w hi hk hd d;unfold Kr;refine bq (bq ?_);rw[qO (aq Tryz.f13 11)];refine di hk (ar Y KJ<|ar Y LM<|ar Y KT<|ar Y Kk<|ar Y (DL Y Y Y Ae As)<|rfl) λa1 w1 b d1 b1=>?_;refine g3 (t:=false) (l_ b Y) (Cc (wa:=ks) Hz ?_);exact kk a1 w1 (b.aU ⟨Y,Y,Y,Y,Y,PA⟩) (d1.trans hd) (d.trans (b1.mono d.size))|succ m p=>intro i a w hi hk hd d;have g:(i:Int)<(c.cp.length:Int):=As;unfold Kr;refine bq (bq ?_);rw[qO (aq Tryz.f13 11)];refine di hk (ar Y KJ<|ar Y LM<|ar Y KT<|ar Y Kk<|ar Y (Jz Y Y Y Ae g)<|rfl) λa1 w1 b d1 b1=>?_;refine g3 (t:=true) (l_ b Y) (lU (bq (oM (bq ?_))));have b1:Below c6.heap.size c6 w1:=d.trans (b1.mono d.size);have b:af 128 (aK [(2,cm t),(3,cm t),(5,bt k),(6,ei nt c),(7,ei nt c),(8,bt i)]) a1 w1:=b.aU ⟨Y,Y,Y,Y,Y,Y,PA⟩;refine axZ t c q i k As b λy o j s f=>?_;have f:Below c6.heap.size c6 o:=b1.trans (f.mono b1.size);refine g3 (t:=false) (l_ j Y) (lU (xF ?_));rw[qO (aq Tryz.f13 12)];refine di j Kl λu n h r v=>Cb ?_;have e:((i:Int)+1)=((i+1:Nat):Int):=As;rw[e]at h;exact p (i+1) u n As ((h.aU (l:=[(8,bt ((i+1:Nat):Int)),(6,ei nt c),(7,ei nt c),(2,cm t),(3,cm t),(5,bt k)]) ⟨Y,Y,Y,Y,Y,Y,PA⟩).sub (p5 _ _ _)) (r.trans (s.trans (d1.trans hd))) (f.trans (v.mono f.size))
def ax1(t:List aA)(ht:t.length<9000000000000000000)(J:∀c∈t,Ef c)(hn:∀c∈t,c.cp.length<9000000000000000000)(c6:aO){ks ks':List Item}{Q:Act->aO->Prop}(kk:∀a' w',a'.tmps.size=128->a'.defers=[]->Below c6.heap.size c6 w'->bK (ae prog true) ks ks' Q a' w'):
 ∀m k a w,k+m=t.length->af 128 (aK [(2,cm t),(3,cm t),(5,bt (k:Nat))]) a w->a.defers=[]->Below c6.heap.size c6 w->bK (ae prog true) (.code (Ks Tryz.f13):: .inLoop (Ks Tryz.f13):: .inBlock 0::ks) ks' Q a w:=by
 intro m;induction m with|zero=>intro k a w c8 hk hd d;unfold Ks;refine bq (bq ?_);rw[qO (aq Tryz.f13 4)];refine di hk (ar Y KJ<|ar Y (GZ Y Y)<|ar Y KT<|ar Y Kk<|ar Y (DL Y Y Y Ae As)<|rfl) λa1 w1 b d1 b1=>?_;exact g3 (t:=false) (l_ b Y) (Cc (wa:=ks) Hz (kk a1 w1 b.size (d1.trans hd) (d.trans (b1.mono d.size))))|succ m I=>intro k a w V L hd d;have hk:k<t.length:=As;have n:(k:Int)<(t.length:Int):=As;unfold Ks;refine bq (bq ?_);rw[qO (aq Tryz.f13 4)];refine di L (ar Y KJ<|ar Y (GZ Y Y)<|ar Y KT<|ar Y Kk<|ar Y (Jz Y Y Y Ae n)<|rfl) λa1 w1 b d1 b1=>?_;refine g3 (t:=true) (l_ b Y) (lU (bq (oM (bq ?_))));have b1:Below c6.heap.size c6 w1:=d.trans (b1.mono d.size);have d1:=d1.trans hd;have b:af 128 (aK [(2,cm t),(3,cm t),(5,bt (k:Nat))]) a1 w1:=b.aU ⟨Y,Y,Y,PA⟩;rw[qO (aq Tryz.f13 6)];refine DQ (m:=5) b (ar Y (GZ Y Y)<|ar Y KT<|ar Y KJ<|ar Y (dM Y Y Y (List.getElem?_eq_getElem hk) Ae)<|ar Y (qX Y Y)<|rfl) Ae λbC B E T j=>?_;have j:Below c6.heap.size c6 B:=b1.trans (j.mono b1.size);refine ql (i:=5) Y Y Y Y Y E Y Y Y Y Ae Ae λU q l S h=>pA (bq ?_);have h:Below c6.heap.size c6 q:=j.trans (h.mono j.size);have l:af 128 (aK [(6,ei nt t[k]),(2,cm t),(3,cm t),(5,bt (k:Nat))]) U q:=l.aU ⟨Y,Y,Y,Y,PA⟩;rw[qO (aq Tryz.f13 7)];refine DQ (m:=5) l (ar Y (GZ Y Y)<|ar Y KT<|ar Y KJ<|ar Y (dM Y Y Y (List.getElem?_eq_getElem hk) Ae)<|ar Y (qX Y Y)<|rfl) Ae λcC A D R bc=>?_;have bc:Below c6.heap.size c6 A:=h.trans (bc.mono h.size);refine ql (i:=5) Y Y Y Y Y D Y Y Y Y Ae Ae λK en o P br=>pA (bq (bq ?_));have br:Below c6.heap.size c6 en:=bc.trans (br.mono bc.size);have o:af 128 (aK [(6,ei nt t[k]),(7,ei nt t[k]),(2,cm t),(3,cm t),(5,bt (k:Nat))]) K en:=o.aU ⟨Y,Y,Y,Y,Y,PA⟩;rw[qO (aq Tryz.f13 8)];refine di o (ar Y (ia Y Y Ae Um)<|ar Y Kf<|ar Y (ia Y Y Ae Um)<|ar Y Kf<|ar Y Lx<|ar Y KJ<|hP Y (ia Y Y Ae Un)<|hP Y Kf<|hP Y (ia Y Y Ae Un)<|hP Y Kf<|hP Y Lx<|ar Y Ky<|ar Y KJ<|hP Y LM<|hP Y KT<|hP Y Kk<|hP Y LM<|hP Y KT<|hP Y Kk<|hP Y Lx<|ar Y Ky<|ar Y KJ<|hP Y Lt<|hP Y KT<|hP Y Kk<|hP Y Lt<|hP Y KT<|hP Y Kk<|hP Y Lx<|ar Y Ky<|ar Y KJ<|hP Y Lq<|hP Y KT<|hP Y Kk<|hP Y Lq<|hP Y KT<|hP Y Kk<|hP Y Lx<|ar Y Ky<|rfl) λH y f O g=>?_;have g:Below c6.heap.size c6 y:=br.trans (g.mono br.size);refine g3 (t:=false) (l_ f Y) (lU (bq ?_));have f:af 128 (Pd t t[k] k) H y:=f.aU ⟨Y,Y,Y,Y,Y,PA⟩;rw[qO (aq Tryz.f13 10)];refine di f (ar Y (dv (F:=bt 0) Y KS)<|rfl) λv r C p cI=>oM (Ca ?_);have cI:Below c6.heap.size c6 r:=g.trans (cI.mono g.size);have p:v.defers=[]:=p.trans (O.trans (P.trans (R.trans (S.trans (T.trans d1)))));refine ax0 t t[k] k (J _ (List.getElem_mem hk)) (hn _ (List.getElem_mem hk)) c6 (λZ qh u N x=>xF ?_) _ 0 v r (Nat.zero_add _) C p cI;unfold Pd at u;rw[qO (aq Tryz.f13 5)];refine di u Kl λX W s M z=>Cb ?_;have e:((k:Int)+1)=((k+1:Nat):Int):=As;rw[e]at s;exact I (k+1) X W As (s.aU ⟨Y,Y,Y,PA⟩) (M.trans N) (x.trans (z.mono x.size))
def ax2(t:List aA)(ht:t.length<9000000000000000000)(q:∀c∈t,Ef c)(hn:∀c∈t,c.cp.length<9000000000000000000)(v1 v2:Value)(w:aO)(h1:wD t w v1)(u:wD t w v2):Calls (ae prog true) 13 #[v1,v2] w λe w'=>∃v,e=.returned v/\v=.bool true/\Below w.heap.size w w':=by
 refine qg (ks:=[]) (a6 (upd:=true) func13 AV) axY ?_;have hk:af 128 (aK [(0,la t),(1,la t)]) ⟨#[v1,v2]++Array.replicate (Tryz.f13.ntmps-(#[v1,v2]:Array Value).size) undef,[]⟩ w:=Qu (l:=[v1,v2]) A_ Bo λp h=>by
  simp at h;rcases h with rfl|rfl
  .exact⟨v1,Y,h1⟩
  .exact⟨v2,Y,u⟩
 have hd:(⟨#[v1,v2]++Array.replicate (Tryz.f13.ntmps-(#[v1,v2]:Array Value).size) undef,[]⟩:Act).defers=[]:=rfl;generalize(⟨#[v1,v2]++Array.replicate (Tryz.f13.ntmps-(#[v1,v2]:Array Value).size) undef,[]⟩:Act)=a at hk hd;refine bq ?_;rw[qO (aq Tryz.f13 0)];refine di hk (ar Y (qM Y Y)<|ar Y (qM Y Y)<|ar Y (dv (F:=bL false) Y KS)<|rfl) λa1 w1 d d1 b1=>bq (bq ?_);have d:af 128 (aK [(2,cm t),(3,cm t)]) a1 w1:=d.aU ⟨Y,Y,PA⟩;rw[qO (aq Tryz.f13 1)];refine di d (ar Y (GZ Y Y)<|ar Y KT<|ar Y Kk<|ar Y (GZ Y Y)<|ar Y KT<|ar Y Kk<|ar Y Lx<|rfl) λD m b A j=>g3 (t:=false) (l_ b Y) (lU (bq (bq ?_)));have b:af 128 (aK [(2,cm t),(3,cm t)]) D m:=b.aU ⟨Y,Y,PA⟩;rw[qO (aq Tryz.f13 3)];refine di b (ar Y (dv (F:=bt 0) Y KS)<|rfl) λC g o z f=>oM (Ca ?_);have f:Below w.heap.size w g:=(b1.trans (j.mono b1.size)).trans (f.mono (b1.trans (j.mono b1.size)).size);refine ax1 t ht q hn w (λB k E y bc=>bq ?_) _ 0 C g (Nat.zero_add _) (o.aU ⟨Y,Y,Y,PA⟩) (z.trans (A.trans (d1.trans hd))) f;have n:af 128 (aK []) B k:=⟨E,λs F e=>Dv⟩;rw[qO (aq Tryz.f13 15)];refine di n (ar Y (dv (F:=bL true) Y KS)<|rfl) λI en i x br=>j1 ⟨x.trans y,.bool true,?_,Y,bc.trans (br.mono bc.size)⟩;have H:=l_ (s:=4) i Y;obtain⟨v,h3,r⟩:=i.has 4 (bL true) Y;cases r;simp_all[results]
end aG
namespace cM
open RowKit av bZ bN aG
def iT(V:Int):List bI:=[tm 1 1,⟨2,0,V,⟨#[]⟩⟩,tm 10 0]
def jx(s:ByteArray):List bI:=[tm 1 3,⟨4,0,0,s⟩,tm 9 0]
def mA(V:Int)(s:ByteArray):List bI:=iT V++jx s++[tm 12 0]
def pO(V:Int):List bI:=iT V++[tm 14 0]
def m2(V:Int):List bI:=iT V++[tm 15 0]
def rC(V:Int)(r:bB):bD:=tj 10 (r.2[1]?.getD fL) ⟨false,V,0,bZ.f9⟩
def yV(s:ByteArray)(r:bB):bD:=tj 9 (r.2[3]?.getD fL) ⟨false,0,0,s⟩
def Eg(V:Int)(s:ByteArray)(r:bB):bD:=tj 12 (rC V r) (yV s r)
def Eh(V:Int)(r:bB):bD:=uw 14 (rC V r)
def Ei(V:Int)(r:bB):bD:=uw 15 (rC V r)
def yW(e:List bI)(g:bB->bD):Prop:=e.length<=900/\∀r:bB,r.2.length=4->sk r.2 e [] [g r]
variable{i:Nat}
def FG{al:Type}{l:List al}(h:i<l.length)(d:al):l[i]?.getD d=l[i]:=by simp[h]
variable{vals:List bD}
theorem Kv:∀{e f:List bI}{a b c:List bD},sk vals e a b->sk vals f b c->sk vals (e++f) a c
 | [],f,a,b,c,h,k=>by cases h;exact k
 |t::e,f,a,b,c,⟨d,h1,g⟩,k=>⟨d,h1,Kv g k⟩
def ax3{t:bI}{ds b:List bD}(u:List bD)(h:FY vals t ds b):FY vals t (u++ds) (u++b):=by
 rcases h with⟨d,h1,rfl⟩|⟨h1,a,d,rfl,rfl⟩|⟨h1,a,l,r,rfl,rfl⟩
 .exact .inl ⟨d,h1,A_⟩
 .exact .inr (.inl ⟨h1,u++a,d,A_,A_⟩)
 .exact .inr (.inr ⟨h1,u++a,l,r,A_,A_⟩)
theorem pW(u:List bD):∀{e:List bI}{ds a:List bD},sk vals e ds a->sk vals e (u++ds) (u++a)
 | [],ds,a,h=>by cases h;rfl
 |t::e,ds,a,⟨d,h1,b⟩=>⟨_,ax3 u h1,pW u b⟩
def Kw(V:Int):yW (iT V) (rC V):=⟨F9,λr h=>by
 have e:r.2[1]?.getD fL=r.2[1]:=FG As _;exact⟨_,.inl ⟨r.2[1],.inl ⟨Y,1,As,Y,Y⟩,Y⟩,_,.inl ⟨_,.inr (.inl ⟨Y,Y⟩),Y⟩,_,.inr (.inr ⟨.inr Kg,[],_,_,Y,Y⟩),by simp[rC,e,tm];rfl⟩⟩
def pV(s:ByteArray):yW (jx s) (yV s):=⟨F9,λr h=>by
 have e:r.2[3]?.getD fL=r.2[3]:=FG As _;exact⟨_,.inl ⟨r.2[3],.inl ⟨Y,3,As,Y,Y⟩,Y⟩,_,.inl ⟨_,.inr (.inr ⟨Y,Y⟩),Y⟩,_,.inr (.inr ⟨.inl Y,[],_,_,Y,Y⟩),by simp[yV,e,tm];rfl⟩⟩
def ax4(V:Int)(s:ByteArray):yW (mA V s) (Eg V s):=⟨F9,λr h=>
 Kv (Kv ((Kw V).2 r h) (pW [rC V r] ((pV s).2 r h))) ⟨_,.inr (.inr ⟨.inr K1,[],_,_,Y,Y⟩),Y⟩⟩
def ax5(V:Int):yW (pO V) (Eh V):=⟨F9,λr h=>Kv ((Kw V).2 r h) ⟨_,.inr (.inl ⟨.inl Y,[],_,Y,Y⟩),Y⟩⟩
def ax6(V:Int):yW (m2 V) (Ei V):=⟨F9,λr h=>Kv ((Kw V).2 r h) ⟨_,.inr (.inl ⟨.inr Y,[],_,Y,Y⟩),Y⟩⟩
def rowAt(t:List aA)(i:Nat):bB:=([((0+i:Nat):Int)],t.map (gE · (0+i)))
def Pe(t:List aA)(S:Nat):mV t 0 S=(List.range S).map (rowAt t):=by simp[mV,rowAt]
def VG(rs:List bB)(g:bB->bD):j5 rs (λi=>(rs[i]?.map g).getD fL) 0 rs.length=rs.filter λr=>fq (g r):=by
 unfold j5 jd;have key:∀(l rs:List bB),List.map (λi=>(rs++l)[i]?.getD ([],[])) ((List.range' rs.length l.length).filter λi=>fq (((rs++l)[i]?.map g).getD fL))=l.filter λr=>fq (g r):=by
  intro l;induction l with
  |nil=>intro rs;rfl
  |cons x l a=>
   intro rs;have h:=a (rs++[x]);rw[List.append_assoc]at h;simp only[List.singleton_append,List.length_append,List.length_cons,List.length_nil,Nat.zero_add]at h;rw[List.length_cons,List.range'_succ,List.filter_cons];have e:(rs++x::l)[rs.length]?=some x:=A_;simp only[e,Option.map_some,Option.getD_some];rw[List.filter_cons];split
   .rw[List.map_cons,h,e];rfl
   .exact h
 have:=key rs [];simpa using this
variable{e:List bI}{g:bB->bD}
def VH(h:yW e g)(rs:List bB)(a:rs.length<=1000000)(b:∀r∈rs,r.2.length=4):Cn e rs (λi=>(rs[i]?.map g).getD fL):=
 ⟨h.1,a,λi hi=>by
  have:=h.2 rs[i] (b _ (List.getElem_mem hi));simpa[hi]using this⟩
def mB(t:List aA)(S:Nat)(p:bB->Bool):List Nat:=(List.range S).filter λi=>p (rowAt t i)
def lf(t:List aA)(S:Nat)(p:bB->Bool):List bB:=(mB t S p).map (rowAt t)
def ax7(t:List aA)(S:Nat)(p q:bB->Bool):(lf t S p).filter q=lf t S (λr=>p r&&q r):=by
 unfold lf mB;rw[List.filter_map,List.filter_filter];congr 2
 funext i
 simp[Bool.and_comm]
def pe(t:List aA)(S:Nat)(q:bB->Bool):(mV t 0 S).filter q=lf t S q:=by rw[Pe,List.filter_map];rfl
def o_(t:List aA)(S:Nat)(p:bB->Bool):(mB t S p).length<=S:=by have:=List.length_filter_le (λi=>p (rowAt t i)) (List.range S);simpa[mB]using this
variable{c:aA}
def ax8(rs:List dX)(a:c∈ca rs)(i:Nat):(gE c i).text.size<=2:=by
 unfold gE;split
 .decide
 split
 .simp[ca]at a;rcases a with rfl|rfl|rfl|rfl
  .exact show bZ.f9.size<=2 by decide
  .exact show bZ.f9.size<=2 by decide
  .exact show bZ.f9.size<=2 by decide
  .show((rs.map λr=>jv r.2.2.2).getD i bZ.f9).size<=2;rw[List.getD_eq_getElem?_getD,List.getElem?_map];cases rs[i]? with|none=>decide|some r=>exact D7 _
 .exact show bZ.f9.size<=2 by decide
def VI(rs:List dX)(i:Nat):(rowAt (ca rs) i).2.length=4:=by simp[rowAt,ca]
def oZ(rs:List dX)(h:rs.length<=40)(fs:List (List bI))(a0:fs.length+1=2\/fs.length+1=3)(mF:∀f∈fs,∀t∈f,bN.Met t.op)(pg:∀f∈fs,gB f [(1,0),(1,0),(2,2),(3,0)]=((4,0),true))(p:bB->Bool)(b:GI fs (mV (ca rs) 0 rs.length) (lf (ca rs) rs.length p)):tt (ca rs) fs rs.length (lf (ca rs) rs.length p):=by
 refine⟨Iw,As,Iw,λi hi=>vb rs hi,au5 rs h,a0,mF,pg,b,?_,λr a=>?_,λr a d hd=>?_⟩
 .have:=o_ (ca rs) rs.length p;rw[lf,List.length_map];omega
 .obtain⟨i,-,rfl⟩:=List.mem_map.1 a;exact VI rs i
 .obtain⟨i,-,rfl⟩:=List.mem_map.1 a;obtain⟨c,e,rfl⟩:=List.mem_map.1 hd;have:=ax8 rs e (0+i);omega
def oU(rs:List dX):∀r∈mV (ca rs) 0 rs.length,r.2.length=4:=λr a=>by rw[Pe]at a;obtain⟨i,-,rfl⟩:=List.mem_map.1 a;exact VI rs i
def Pf(rs:List dX)(h:rs.length<=40)(hF:yW e g)(mF:∀t∈e,bN.Met t.op)(pg:gB e [(1,0),(1,0),(2,2),(3,0)]=((4,0),true)):tt (ca rs) [e] rs.length (lf (ca rs) rs.length λr=>fq (g r)):=by refine oZ rs h [e] Kg (λf a=>by simp at a;subst a;exact mF) (λf a=>by simp at a;subst a;exact pg) _ ⟨_,VH hF _ (by rw[Pe];simp;omega) (oU rs),?_⟩;rw[VG,pe];rfl
def ax9(rs:List dX)(h:rs.length<=40){b:List bI}{g':bB->bD}(hF:yW e g)(c:yW b g')(mF:∀t∈e,bN.Met t.op)(j:∀t∈b,bN.Met t.op)(pg:gB e [(1,0),(1,0),(2,2),(3,0)]=((4,0),true))(l:gB b [(1,0),(1,0),(2,2),(3,0)]=((4,0),true)):tt (ca rs) [e,b] rs.length (lf (ca rs) rs.length λr=>fq (g r)&&fq (g' r)):=by
 have k:=o_ (ca rs) rs.length λr=>fq (g r);refine oZ rs h [e,b] K1 (λf a=>Jw) (λf a=>Jw) _ ⟨_,VH hF _ (by rw[Pe];simp;omega) (oU rs),?_⟩;rw[VG,pe];refine⟨_,VH c _ (by rw[lf,List.length_map];omega) (λr d=>?_),?_⟩
 .obtain⟨i,-,rfl⟩:=List.mem_map.1 d;exact VI rs i
 .rw[VG,ax7];rfl
def nz(c:aA)(want:List Nat):aA:=⟨c.kind,c.ck,if c.kind=3 then []else want.map λi=>c.fg.getD i 0,if c.kind=3 then want.map λi=>c.dl.getD i bZ.f9 else [],want.map λi=>c.cp.getD i false⟩
def jT(t:List aA)(want:List Nat):List aA:=t.map (nz · want)
def AE(c:aA)(i:Nat):Prop:=c.cp.getD i false=true->c.fg.getD i 0=0/\c.dl.getD i bZ.f9=bZ.f9
def VJ:(gE c i).eG=c.cp.getD i false:=by
 unfold gE;split
 .rename_i h;rw[h];rfl
 .rename_i h;have h:c.cp.getD i false=false:=Fq;rw[h];split<;>rfl
def ax_(a:AE c i)(h3:¬c.kind=3):(gE c i).num=c.fg.getD i 0:=by
 unfold gE;rw[if_neg h3];split
 .rename_i h;rw[(a h).1];rfl
 .rfl
def aya(a:AE c i)(h3:c.kind=3):(gE c i).text=c.dl.getD i bZ.f9:=by
 unfold gE;rw[if_pos h3];split
 .rename_i h;rw[(a h).2];rfl
 .rfl
def ayb{al aJ:Type}(l:List al)(d:al)(f:al->aJ):(List.range l.length).map (λr=>f (l[r]?.getD d))=l.map f:=by apply List.ext_getElem A_;intro i h1 a;simp at h1;simp[h1]
theorem Pg(t:List aA)(S:Nat)(p:bB->Bool)(h:∀c∈t,∀i,i<S->AE c i):l9 t (lf t S p)=jT t (mB t S p):=by
 unfold l9 se jT;have g:(lf t S p).length=(mB t S p).length:=by simp[lf]
 have a:∀i∈mB t S p,i<S:=λi hi=>by have:=(List.mem_filter.1 hi).1;simpa using this
 apply List.ext_getElem (by simp[jn]);intro k h1 m;simp[jn]at h1;simp only[List.getElem_map,List.getElem_range];have l:(jn t)[k]?.getD (0,0)=(t[k].kind,t[k].ck):=by simp[jn,h1]
 rw[l,g];have j:∀r,r<(mB t S p).length->nx (lf t S p) r k=gE t[k] ((mB t S p)[r]?.getD 0):=λr b=>by simp[nx,lf,b,rowAt,h1]
 have d:∀{aJ:Type}(f:bD->aJ),(List.range (mB t S p).length).map (λr=>f (nx (lf t S p) r k))=(mB t S p).map λi=>f (gE t[k] i):=λf=>by rw[<-ayb (mB t S p) 0 (λi=>f (gE t[k] i))];exact List.map_congr_left λr b=>by rw[j r (by simpa using b)]
 unfold tb nz;simp only;rw[d (·.num),d (·.text),d (·.eG)];have e:=h t[k] (List.getElem_mem h1);congr 1
 .split
  .rfl
  .rename_i h3;exact List.map_congr_left λi hi=>ax_ (e i (a i hi)) h3
 .split
  .rename_i h3;exact List.map_congr_left λi hi=>aya (e i (a i hi)) h3
  .rfl
 .exact List.map_congr_left λi hi=>VJ
theorem Ph(rs:List dX):∀c∈ca rs,∀i,i<rs.length->AE c i:=by
 intro c a i hi;simp[ca]at a;have b:jv 0=jv 0:=rfl;rcases a with rfl|rfl|rfl|rfl
 .simp[AE,hi,k8];intro h;simp[h]
 .simp[AE,hi,fD];intro h;simp[h]
 .simp[AE,hi,fD];intro h;simp[h]
 .simp[AE,hi,jv];intro h;simp[h];rfl
end cM
namespace aG
open Conc ConcM RowKit av bn cz c5 bZ bN cM
def o5(l:Array Oper){l':Array Oper}(e:l=l':=by simp only[aq,pL,Tryz.f14,Option.getD_some,Nat.reduceBEq,Bool.false_eq_true,↓reduceIte];exact Y):l=l':=e
def G2(F:Func):Code:=(.seq (.seq (.region 7 (aq F 7) false) (.cond (.tmp 32) .skip (.exit 2))) (.seq (.block 3 (.seq (.region 9 (aq F 9) true) (.seq (.region 10 (aq F 10) false) (.cond (.tmp 54) (.region 11 (aq F 11) true) (.region 12 (aq F 12) true))))) (.region 8 (aq F 8) false)))
def Kx(F:Func):Code:=(.seq (.seq (.region 3 (aq F 3) false) (.cond (.tmp 13) .skip (.exit 0))) (.seq (.block 1 (.seq (.region 5 (aq F 5) true) (.seq (.seq (.region 6 (aq F 6) false) (.block 2 (.loop (G2 F)))) (.region 13 (aq F 13) false)))) (.region 4 (aq F 4) false)))
theorem aye:Tryz.f14.body=some (.seq (.region 0 (aq Tryz.f14 0) false) (.seq (.region 1 (aq Tryz.f14 1) false) (.seq (.seq (.region 2 (aq Tryz.f14 2) false) (.block 0 (.loop (Kx Tryz.f14)))) (.seq (.region 14 (aq Tryz.f14 14) false) .ret)))):=by kernel_rfl
structure pP(B:Nat)(W:aO)(b:Nat)(kd jo:Int)(bg vs aY:Value)(xi xs pQ:List Value):Prop where
 lo:B<=b
 box:ag W b #[.int .i64 kd,.int .i64 jo,bg,vs,aY] 43
 cu:W.ownsRow B 2 1 bg xi.length xi
 os:W.ownsRow B 9 1 vs xs.length xs
 on:W.ownsRow B 4 1 aY pQ.length pQ
variable{W W':aO}{aY vs:Value}{pQ xi xs:List Value}
def pP.below{B:Nat}{b:Nat}{kd c:Int}{bg:Value}(h:pP B W b kd c bg vs aY xi xs pQ)(a:Below W.heap.size W W'):pP B W' b kd c bg vs aY xi xs pQ:=
 ⟨h.lo,h.box.call a,AD h.cu a,AD h.os a,AD h.on a⟩
structure Ej(t:List aA)(cf:List Int)(bM p2:Value)(B:Nat)(d_:aO):Prop where
 eq:B=d_.heap.size
 f1:(b6 1 j9 cf).R d_ bM
 kA:(cm t).R d_ p2
def n9(t:List aA)(cf:List Int)(bM p2 p4 k_:Value)(k i cI:Nat)(cs:Array Value):List (Nat×bp):=[(1,iR bM (b6 1 j9 cf)),(2,iR p2 (cm t)),(4,de p4),(5,de k_),(6,bt k),(7,wL cI cs 43),(8,bt i)]
variable{bM k_ p2 p4:Value}{t:List aA}{cf:List Int}{a:Act}
theorem n9.zb{k i cI:Nat}{cs e:Array Value}{B:Nat}{d_:aO}{K:bJ}{a':Act}(C:Ej t cf bM p2 B d_)(h:af 96 K a W)(hi:z1 K (n9 t cf bM p2 p4 k_ k i cI cs))(a0:a'.tmps.size=96)(hs:∀s,s<9->a'.tmps[s]?=a.tmps[s]?)(c:Below B d_ W')(j:ag W' cI e 43):af 96 (aK (n9 t cf bM p2 p4 k_ k i cI e)) a' W':=by
 obtain⟨h1,m,l,o,n,g,f,-⟩:=hi;have c:=C.eq▸c;refine h.zb a0 λp d=>?_;simp[n9]at d;rcases d with rfl|rfl|rfl|rfl|rfl|rfl|rfl
 .exact⟨hs 1 Ae,_,h1,λv b=>⟨b.1,b.1▸(b6 1 j9 cf).hJ _ _ _ c C.f1⟩⟩
 .exact⟨hs 2 Ae,_,m,λv b=>⟨b.1,b.1▸(cm t).hJ _ _ _ c C.kA⟩⟩
 .exact⟨hs 4 Ae,_,l,λv b=>b⟩
 .exact⟨hs 5 Ae,_,o,λv b=>b⟩
 .exact⟨hs 6 Ae,_,n,λv b=>b⟩
 .exact⟨hs 7 Ae,_,g,λv b=>⟨b.1,j⟩⟩
 .exact⟨hs 8 Ae,_,f,λv b=>b⟩
variable{c:aA}{ks ks':List Item}{Q:Act->aO->Prop}
def ayf{k i j cI:Nat}{y:Bool}{B:Nat}{d_:aO}{bg:Value}(C:Ej t cf bM p2 B d_)(hk:t[k]?=some c)(F:cf[i]?=some ((j:Nat):Int))(H:c.cp[j]?=some y)(hn:pQ.length+1<=1000000)(hS:pP B W cI c.kind c.ck bg vs aY xi xs pQ)(q:Below B d_ W)(J:af 96 (aK (n9 t cf bM p2 p4 k_ k i cI #[.int .i64 c.kind,.int .i64 c.ck,bg,vs,aY])) a W)(kk:∀a' W' v2,pP B W' cI c.kind c.ck bg vs v2 xi xs (pQ++[.bool y])->af 96 (aK (n9 t cf bM p2 p4 k_ k i cI #[.int .i64 c.kind,.int .i64 c.ck,bg,vs,v2])) a' W'->a'.defers=a.defers->Below B d_ W'->bK (ae prog true) ks ks' Q a' W'):bK (ae prog true) (.code (.region 9 (aq Tryz.f14 9) true)::ks) ks' Q a W:=by
 rw[o5 (aq Tryz.f14 9)];refine pC (m:=15) J (dq Y (O_ Y Y Ae Y)<|dq Y (Kq Y Y Ae)<|dq Y L3<|dq Y KT<|dq Y KJ<|dq Y L_<|dq Y LM<|dq Y KT<|dq Y L8<|dq Y KJ<|dq Y (dM Y Y Y (F) Ae)<|dq Y Kf<|dq Y (dM Y Y Y (H) Ae)<|dq Y Lf<|dq Y (axX Y Y)<|rfl) Y pM AV λU h u K z=>?_;have d:=hS.below z;have x:Below B d_ h:=q.trans (z.mono (Nat.le_trans (Nat.le_of_eq C.eq) q.size));have o:B<=h.heap.size:=Nat.le_trans (Nat.le_of_eq C.eq) x.size;refine Pb (i:=15) (B:=B) (n:=pQ.length) (b:=cI) (f:=4) (sb:=7) (yU:=43) (cs:=#[.int .i64 c.kind,.int .i64 c.ck,bg,vs,aY]) HJ Y Y Y Y Y Y Y Y Y Y (λev w e=>Be) (λev w T n cc I S R=>Hi) Ae u Y Y Y d.on Y Ha hn Ae o Ae λL g v2 r1 g1 l D M A=>⟨Y,?_⟩;have E:Below B h g:=Ee d.on g1 o;have r:Below B d_ (g.setCell ⟨cI,4,none⟩ v2):=x.trans (E.trans ((Below.refl B g).setCell (p:=⟨cI,4,none⟩) hS.lo _));have v:ag (g.setCell ⟨cI,4,none⟩ v2) cI #[.int .i64 c.kind,.int .i64 c.ck,bg,vs,v2] 43:=l.set 4 v2;refine kk L _ v2 ⟨hS.lo,v,wM (G1 d.cu d.on Ae g1) l Ae _ _,wM (G1 d.os d.on Ae g1) l Ae _ _,by grind[wM]⟩ (n9.zb C u ⟨Y,Y,Y,Y,Y,Y,Y,PA⟩ M (λs hs=>D s As As) r v) (A.trans K) r
def ayg{k i j cI:Nat}{y:ByteArray}{B:Nat}{d_:aO}{bg:Value}(C:Ej t cf bM p2 B d_)(hk:t[k]?=some c)(F:cf[i]?=some ((j:Nat):Int))(H:c.dl[j]?=some y)(hn:xs.length+1<=1000000)(hS:pP B W cI c.kind c.ck bg vs aY xi xs pQ)(q:Below B d_ W)(J:af 96 (aK (n9 t cf bM p2 p4 k_ k i cI #[.int .i64 c.kind,.int .i64 c.ck,bg,vs,aY])) a W)(kk:∀a' W' v2,pP B W' cI c.kind c.ck bg v2 aY xi (xs++[.string y]) pQ->af 96 (aK (n9 t cf bM p2 p4 k_ k i cI #[.int .i64 c.kind,.int .i64 c.ck,bg,v2,aY])) a' W'->a'.defers=a.defers->Below B d_ W'->bK (ae prog true) ks ks' Q a' W'):bK (ae prog true) (.code (.region 11 (aq Tryz.f14 11) true)::ks) ks' Q a W:=by
 rw[o5 (aq Tryz.f14 11)];refine pC (m:=15) J (dq Y (O_ Y Y Ae Y)<|dq Y (Kq Y Y Ae)<|dq Y L3<|dq Y KT<|dq Y KJ<|dq Y L_<|dq Y Lq<|dq Y KT<|dq Y L8<|dq Y KJ<|dq Y (dM Y Y Y (F) Ae)<|dq Y Kf<|dq Y (dM Y Y Y (H) Ae)<|dq Y Mq<|dq Y (axW Y Y)<|rfl) Y pM AV λU h u K z=>?_;have d:=hS.below z;have x:Below B d_ h:=q.trans (z.mono (Nat.le_trans (Nat.le_of_eq C.eq) q.size));have o:B<=h.heap.size:=Nat.le_trans (Nat.le_of_eq C.eq) x.size;refine Pb (i:=15) (B:=B) (n:=xs.length) (b:=cI) (f:=3) (sb:=7) (yU:=43) (cs:=#[.int .i64 c.kind,.int .i64 c.ck,bg,vs,aY]) Qx Y Y Y Y Y Y Y Y Y Y (λev w e=>Be) (λev w T n cc I S R=>Hi) Ae u Y Y Y d.os Y Ha hn Ae o Ae λL g v2 r1 g1 l D M A=>⟨Y,?_⟩;have E:Below B h g:=Ee d.os g1 o;have r:Below B d_ (g.setCell ⟨cI,3,none⟩ v2):=x.trans (E.trans ((Below.refl B g).setCell (p:=⟨cI,3,none⟩) hS.lo _));have v:ag (g.setCell ⟨cI,3,none⟩ v2) cI #[.int .i64 c.kind,.int .i64 c.ck,bg,v2,aY] 43:=l.set 3 v2;refine kk L _ v2 ⟨hS.lo,v,wM (G1 d.cu d.os Ae g1) l Ae _ _,by grind[wM],wM (G1 d.on d.os Ae g1) l Ae _ _⟩ (n9.zb C u ⟨Y,Y,Y,Y,Y,Y,Y,PA⟩ M (λs hs=>D s As As) r v) (A.trans K) r
def ayh{k i j cI:Nat}{y:Int}{B:Nat}{d_:aO}{bg:Value}(C:Ej t cf bM p2 B d_)(hk:t[k]?=some c)(F:cf[i]?=some ((j:Nat):Int))(H:c.fg[j]?=some y)(hn:xi.length+1<=1000000)(hS:pP B W cI c.kind c.ck bg vs aY xi xs pQ)(q:Below B d_ W)(J:af 96 (aK (n9 t cf bM p2 p4 k_ k i cI #[.int .i64 c.kind,.int .i64 c.ck,bg,vs,aY])) a W)(kk:∀a' W' v2,pP B W' cI c.kind c.ck v2 vs aY (xi++[.int .i64 y]) xs pQ->af 96 (aK (n9 t cf bM p2 p4 k_ k i cI #[.int .i64 c.kind,.int .i64 c.ck,v2,vs,aY])) a' W'->a'.defers=a.defers->Below B d_ W'->bK (ae prog true) ks ks' Q a' W'):bK (ae prog true) (.code (.region 12 (aq Tryz.f14 12) true)::ks) ks' Q a W:=by
 rw[o5 (aq Tryz.f14 12)];refine pC (m:=15) J (dq Y (O_ Y Y Ae Y)<|dq Y (Kq Y Y Ae)<|dq Y L3<|dq Y KT<|dq Y KJ<|dq Y L_<|dq Y Lt<|dq Y KT<|dq Y L8<|dq Y KJ<|dq Y (dM Y Y Y (F) Ae)<|dq Y Kf<|dq Y (dM Y Y Y (H) Ae)<|dq Y Kf<|dq Y (axV Y Y)<|rfl) Y pM AV λU h u K z=>?_;have d:=hS.below z;have x:Below B d_ h:=q.trans (z.mono (Nat.le_trans (Nat.le_of_eq C.eq) q.size));have o:B<=h.heap.size:=Nat.le_trans (Nat.le_of_eq C.eq) x.size;refine Pb (i:=15) (B:=B) (n:=xi.length) (b:=cI) (f:=2) (sb:=7) (yU:=43) (cs:=#[.int .i64 c.kind,.int .i64 c.ck,bg,vs,aY]) Qw Y Y Y Y Y Y Y Y Y Y (λev w e=>Be) (λev w T n cc I S R=>Hi) Ae u Y Y Y d.cu Y Ha hn Ae o Ae λL g v2 r1 g1 l D M A=>⟨Y,?_⟩;have E:Below B h g:=Ee d.cu g1 o;have r:Below B d_ (g.setCell ⟨cI,2,none⟩ v2):=x.trans (E.trans ((Below.refl B g).setCell (p:=⟨cI,2,none⟩) hS.lo _));have v:ag (g.setCell ⟨cI,2,none⟩ v2) cI #[.int .i64 c.kind,.int .i64 c.ck,v2,vs,aY] 43:=l.set 2 v2;refine kk L _ v2 ⟨hS.lo,v,by grind[wM],wM (G1 d.os d.cu Ae g1) l Ae _ _,wM (G1 d.on d.cu Ae g1) l Ae _ _⟩ (n9.zb C u ⟨Y,Y,Y,Y,Y,Y,Y,PA⟩ M (λs hs=>D s As As) r v) (A.trans K) r
def iU(l:List Nat):List Int:=l.map λ(j:Nat)=>(j:Int)
def oR(l:List Nat):(iU l).length=l.length:=by simp[iU]
def nA(c:aA)(l:List Nat):List Value:=if c.kind=3 then []else l.map λj=>.int .i64 (c.fg.getD j 0)
def nB(c:aA)(l:List Nat):List Value:=if c.kind=3 then l.map λj=>.string (c.dl.getD j bZ.f9)else []
def qP(c:aA)(l:List Nat):List Value:=l.map λj=>.bool (c.cp.getD j false)
def ZZ(c:aA)(l:List Nat):(nA c l).length<=l.length/\(nB c l).length<=l.length/\(qP c l).length=l.length:=by grind[nA,nB,qP]
def Ek(c:aA)(j:Nat):Prop:=j<c.cp.length/\(c.kind=3->j<c.dl.length)/\(¬c.kind=3->j<c.fg.length)
def getD_some{al:Type}{l:List al}{j:Nat}(h:j<l.length)(d:al):l[j]?=some (l.getD j d):=by simp[h]
def ZY{want:List Nat}{k cI:Nat}{B:Nat}{d_:aO}(C:Ej t (iU want) bM p2 B d_)(hk:t[k]?=some c)(N:∀j∈want,Ek c j)(hl:want.length<=1000)(kk:∀a' W' bg vs aY,pP B W' cI c.kind c.ck bg vs aY (nA c want) (nB c want) (qP c want)->af 96 (aK (n9 t (iU want) bM p2 p4 k_ k want.length cI #[.int .i64 c.kind,.int .i64 c.ck,bg,vs,aY])) a' W'->a'.defers=[]->Below B d_ W'->bK (ae prog true) ks ks' Q a' W'):
 ∀m i a W bg vs aY,i+m=want.length->pP B W cI c.kind c.ck bg vs aY (nA c (want.take i)) (nB c (want.take i)) (qP c (want.take i))->af 96 (aK (n9 t (iU want) bM p2 p4 k_ k i cI #[.int .i64 c.kind,.int .i64 c.ck,bg,vs,aY])) a W->a.defers=[]->Below B d_ W->bK (ae prog true) (.code (G2 Tryz.f14):: .inLoop (G2 Tryz.f14):: .inBlock 2::ks) ks' Q a W:=by
 intro m;induction m with
 |zero=>
  intro i a W bg vs aY hi hS r hd n;obtain rfl:i=want.length:=As;have f:¬((want.length:Nat):Int)<((iU want).length:Int):=by rw[oR];omega
  unfold G2;refine bq (bq ?_);rw[o5 (aq Tryz.f14 7)];refine di r (ar Y KJ<|ar Y L8<|ar Y Kk<|ar Y (DL Y Y Y Ae f)<|rfl) λa1 w1 l d1 b1=>?_;have v:Below B d_ w1:=n.trans (b1.mono (Nat.le_trans (Nat.le_of_eq C.eq) n.size));rw[List.take_length]at hS;have y:=hS.below b1;exact g3 (t:=false) (l_ l Y) (Cc (wa:=ks) Hz (kk a1 w1 bg vs aY y (l.aU ⟨Y,Y,Y,Y,Y,Y,Y,PA⟩) (d1.trans hd) v))
 |succ m M=>
  intro i a W bg vs aY hi hS r hd n;have z:i<want.length:=As;have f:(i:Int)<((iU want).length:Int):=by rw[oR];omega
  have u:=N _ (List.getElem_mem z);have D:want.take (i+1)=want.take i++[want[i]]:=(List.take_append_getElem z).symm;have hlen:(want.take i).length<=1000:=AA;have V:=ZZ c (want.take i);have w:(iU want)[i]?=some ((want[i]:Nat):Int):=by simp[iU,z]
  unfold G2;refine bq (bq ?_);rw[o5 (aq Tryz.f14 7)];refine di r (ar Y KJ<|ar Y L8<|ar Y Kk<|ar Y (Jz Y Y Y Ae f)<|rfl) λa1 w1 l d1 b1=>?_;have v:Below B d_ w1:=n.trans (b1.mono (Nat.le_trans (Nat.le_of_eq C.eq) n.size));have y:=hS.below b1;refine g3 (t:=true) (l_ l Y) (lU (bq (oM (bq ?_))));refine ayf C hk w (getD_some u.1 false) As y v (l.aU ⟨Y,Y,Y,Y,Y,Y,Y,PA⟩) λbC w2 v2 L K T I=>bq ?_;rw[o5 (aq Tryz.f14 10)];refine di K (ar Y (O_ Y Y Ae Y)<|ar Y (axU Y Y)<|ar Y Ld<|rfl) λU A h p H=>?_;have E:Below B d_ A:=I.trans (H.mono (Nat.le_trans (Nat.le_of_eq C.eq) I.size));have J:=L.below H;have Z:=l_ h Y (s:=54);have h:af 96 (aK (n9 t (iU want) bM p2 p4 k_ k i cI #[.int .i64 c.kind,.int .i64 c.ck,bg,vs,v2])) U A:=h.aU ⟨Y,Y,Y,Y,Y,Y,Y,PA⟩;have p:=p.trans (T.trans (d1.trans hd));have eI:∀d b bg vs aY,pP B b cI c.kind c.ck bg vs aY (nA c (want.take (i+1))) (nB c (want.take (i+1))) (qP c (want.take (i+1)))->af 96 (aK (n9 t (iU want) bM p2 p4 k_ k i cI #[.int .i64 c.kind,.int .i64 c.ck,bg,vs,aY])) d b->d.defers=[]->Below B d_ b->bK (ae prog true) (.inBlock 3:: .code (.region 8 (aq Tryz.f14 8) false):: .inLoop (G2 Tryz.f14):: .inBlock 2::ks) ks' Q d b:=by intro d b bg vs aY x g o bc;refine xF ?_;rw[o5 (aq Tryz.f14 8)];refine di g Kl λR en F S br=>Cb ?_;have e:((i:Int)+1)=((i+1:Nat):Int):=As;rw[e]at F;exact M (i+1) R en bg vs aY As (x.below br) (F.aU ⟨Y,Y,Y,Y,Y,Y,Y,PA⟩) (S.trans o) (bc.trans (br.mono (Nat.le_trans (Nat.le_of_eq C.eq) bc.size)))
  have X:qP c (want.take (i+1))=qP c (want.take i)++[.bool (c.cp.getD want[i] false)]:=by grind[qP]
  by_cases h3:c.kind=3
  .refine g3 (t:=true) AA ?_;rw[if_pos Y];refine ayg C hk w (getD_some (u.2.1 h3) bZ.f9) As J E h λd b q x g o bc=>eI d b bg q v2 ?_ g (o.trans p) bc;have P:nA c (want.take (i+1))=nA c (want.take i):=by simp[nA,h3]
   have O:nB c (want.take (i+1))=nB c (want.take i)++[.string (c.dl.getD want[i] bZ.f9)]:=by rw[D,nB,nB,if_pos h3,if_pos h3,List.map_append];rfl
   grind
  .refine g3 (t:=false) AA ?_;rw[if_neg Ae];refine ayh C hk w (getD_some (u.2.2 h3) 0) As J E h λd b q x g o bc=>eI d b q vs v2 ?_ g (o.trans p) bc;have P:nB c (want.take (i+1))=nB c (want.take i):=by simp[nB,h3]
   have O:nA c (want.take (i+1))=nA c (want.take i)++[.int .i64 (c.fg.getD want[i] 0)]:=by rw[D,nA,nA,if_neg h3,if_neg h3,List.map_append];rfl
   grind
variable{c6:aO}{aT eM v:Value}
section
section
variable{N:Nat}{K:bJ}{o:Oper}{F:bp}{x y z:Operand}{s:Nat}{B:Nat}
def ZM{m n:Int}(a:o.op=.build 43 #[(0,x),(1,y)])(e:bl K x (bt m))(d:bl K y (bt n)):bG (ae prog true) N K o (de (.agg #[.int .i64 m,.int .i64 n,.slice none 0 0,.slice none 0 0,.slice none 0 0])):=rq e d λev w c b=>⟨_,w,by
 have c:ev x=.int .i64 m:=c;have b:ev y=.int .i64 n:=b;cases o;simp only at a;subst a;go_simp,Y,Below.refl _ _⟩
def ZF(b:o.op=.alloc 43)(d:K s=some (rp B F)):bG (ae prog true) N K o (Ui B #[.int .i64 0,.int .i64 0,.slice none 0 0,.slice none 0 0,.slice none 0 0] 43):=λa w hk=>by obtain⟨v,-,c,-⟩:=hk.has s _ d;refine .inl ⟨.pointer (some ⟨w.heap.size,0,none⟩),w.alloc (.cells #[.int .i64 0,.int .i64 0,.slice none 0 0,.slice none 0 0,.slice none 0 0] 43),?_,⟨w.heap.size,Y,c,ag.new _ _ _⟩,(Below.refl _ w).alloc J1 _⟩;cases o;simp only at b;subst b;go_simp
def oo(b:o.op=.alloc 28)(d:K s=some (rp B F)):bG (ae prog true) N K o (Ui B #[.slice none 0 0] 28):=λa w hk=>by obtain⟨v,-,c,-⟩:=hk.has s _ d;refine .inl ⟨.pointer (some ⟨w.heap.size,0,none⟩),w.alloc (.cells #[.slice none 0 0] 28),?_,⟨w.heap.size,Y,c,ag.new _ _ _⟩,(Below.refl _ w).alloc J1 _⟩;cases o;simp only at b;subst b;go_simp
def Zu{b:Nat}{v0 v1 v2 v3 a:Value}(c:o.op=.load 43 x)(d:bl K x (wL b #[v0,v1,v2,v3,a] 43)):bG (ae prog true) N K o (de (.agg #[v0,v1,v2,v3,a])):=dT d λev w h=>by obtain⟨e,h⟩:=h;obtain⟨i,g,f⟩:=h.all;refine⟨_,w,?_,Y,Below.refl _ _⟩;cases o;simp only at c;subst c;go_simp
def Zq{b:Nat}(a:o.op=.load 28 x)(c:bl K x (wL b #[v] 28)):bG (ae prog true) N K o (de (.agg #[v])):=dT c λev w h=>by obtain⟨e,h⟩:=h;obtain⟨g,f,d⟩:=h.all;refine⟨_,w,?_,Y,Below.refl _ _⟩;cases o;simp only at a;subst a;go_simp
def Zl{m n:Int}{d a an:Option Addr}{li ci g c b f:Nat}(i:o.op=.buildSlice 26 1 #[(0,x)])(k:bl K x (de (.agg #[.int .i64 m,.int .i64 n,.slice d li ci,.slice a g c,.slice an b f]))):bG (ae prog true) N K o (Ed [.int .i64 m,.int .i64 n,.slice d li ci,.slice a g c,.slice an b f]):=dT k λev w h=>by
 have e:ev x=_:=h;refine⟨.slice (some ⟨w.heap.size,0,none⟩) 1 1,w.alloc (.cells #[.int .i64 m,.int .i64 n,.slice d li ci,.slice a g c,.slice an b f] 43),?_,⟨w.heap.size,1,Y,λj v l=>?_⟩,(Below.refl _ w).alloc J1 _⟩
 .cases o;simp only at i;subst i;go_simp
 simp_all
end
def VM{al:Type}{R:aO->(Nat->Option Value)->al->Prop}(k:∀w w' rd a x,(∀j v,rd j=some v->a j=some v)->R w rd x->R w' a x){w w':aO}{e:TypeId}(hk:∀(b:Nat) c z,w.heap[b]?=some (.cells c e z)->w'.heap[b]?=some (.cells c e z))(ht:oJ w v e){xs:List al}(h:a8 w 1 R v xs):a8 w' 1 R v xs/\oJ w' v e:=by obtain⟨g,cap,rfl,d,l⟩:=h;refine⟨⟨g,cap,Y,d,λi hi=>?_⟩,λb f=>by obtain⟨c,z,h1⟩:=ht b f;grind⟩;obtain⟨b,off,rfl,h⟩:=l i hi;refine⟨b,off,Y,k _ _ _ _ _ (λj v m=>?_) h⟩;obtain⟨c,z,h1⟩:=ht b Y;grind[World.cell?]
structure Kz(W:aO)(bg vs aY:Value)(c:aA):Prop where
 is:sN W bg vs aY c
 Ak:oJ W bg 2
 ts:oJ W vs 9
 rX:oJ W aY 4
def Kz.keep{bg:Value}(h:Kz W bg vs aY c)(hk:∀e,e=2\/e=9\/e=4->∀(b:Nat) c z,W.heap[b]?=some (.cells c e z)->W'.heap[b]?=some (.cells c e z)):Kz W' bg vs aY c:=by obtain⟨j,i⟩:=VM (R:=tD) Mv (hk _ Kg) h.Ak h.is.fg;obtain⟨f,d⟩:=VM (R:=A2) (λ_ _ _ _ _ a h=>⟨a _ _ h.1,h.2⟩) (hk _ (.inr Kg)) h.ts h.is.dl;obtain⟨g,iv⟩:=VM (R:=ze) Mv (hk _ (.inr K1)) h.rX h.is.cp;exact⟨⟨j,f,g⟩,i,d,iv⟩
structure G3(B:Nat)(W:aO)(b:Nat)(eM:Value)(cells:List Value)(bd:List aA):Prop where
 lo:B<=b
 box:ag W b #[eM] 28
 own:W.ownsRow B 43 5 eM bd.length cells
 xA:∀j c,bd[j]?=some c->∃bg vs aY,(∀f,f<5->cells[j*5+f]?=[Value.int .i64 c.kind,.int .i64 c.ck,bg,vs,aY][f]?)/\Kz W bg vs aY c
def G3.below{B:Nat}{b:Nat}{cells:List Value}{bd:List aA}(h:G3 B W b eM cells bd)(a:Below W.heap.size W W'):G3 B W' b eM cells bd:=
 ⟨h.lo,h.box.call a,AD h.own a,λj c f=>by
  obtain⟨bg,vs,aY,h1,g⟩:=h.xA j c f;exact⟨bg,vs,aY,h1,g.keep λe _ b c z d=>(a.block b AA).trans d⟩⟩
def Pj{B:Nat}{e:TypeId}{size:Nat}{n:Nat}(h:W.ownsRow B e size v n xs):oJ W v e:=λb d=>by obtain⟨c,a⟩:=Pa h d;exact⟨c,_,a⟩
def G3.read{B:Nat}{b:Nat}{cells:List Value}{bd:List aA}(h:G3 B W b eM cells bd)(k:bd.length<=1000):jM W eM bd:=by
 refine⟨?_,Pj h.own⟩;obtain⟨l,⟨rfl,hn⟩|⟨g,cap,be,rfl,hg,c,h1,m,h3,e⟩⟩:=id h.own
 .grind[a8.nil]
 .refine⟨some ⟨g,0,none⟩,cap,Y,As,λi hi=>⟨g,0,Y,?_⟩⟩;obtain⟨bg,vs,aY,j,a⟩:=h.xA i bd[i] (List.getElem?_eq_getElem hi);have rd:∀f,f<5->W.cell? ⟨g,0+i*5+f,none⟩=[Value.int .i64 bd[i].kind,.int .i64 bd[i].ck,bg,vs,aY][f]?:=λf d=>by rw[(ag.rules (show ag W g be _ from c)).1,<-j f d,<-e,List.getElem?_take,if_pos As,Array.getElem?_toList];grind
  exact⟨bg,vs,aY,rd 0 Ae,rd 1 Ae,rd 2 Ae,rd 3 Ae,rd 4 Ae,a.is,a.Ak,a.ts,a.rX⟩
def pP.Zj{B:Nat}{b:Nat}{bg:Value}{want:List Nat}(h:pP B W b c.kind c.ck bg vs aY (nA c want) (nB c want) (qP c want))(hs:∀s∈c.dl,s.size<=1000):Kz W bg vs aY (nz c want):=by
 refine⟨⟨?_,?_,?_⟩,Pj h.cu,Pj h.os,Pj h.on⟩
 .refine xB h.cu (by grind[nz,nA]) λi hi rd h0=>?_;unfold nA at h0;unfold nz at hi⊢;simp only at hi⊢;by_cases h3:c.kind=3
  .grind
  .simp only[h3,if_false,List.getElem_map]at h0⊢;exact h0
 .refine xB h.os (by grind[nz,nB]) λi hi rd h0=>?_;unfold nB at h0;unfold nz at hi⊢;simp only at hi⊢;by_cases h3:c.kind=3
  .simp only[h3,if_true,List.getElem_map]at h0⊢;refine⟨h0,?_⟩;have:(c.dl.getD (want[i]'AA) bZ.f9).size<=1000:=by rw[List.getD_eq_getElem?_getD];cases a:c.dl[(want[i]'AA)]? with|none=>decide|some s=>grind
   omega
  grind
 .refine xB h.on (by unfold nz qP;simp) λi hi rd h0=>?_;simp only[qP,nz,List.getElem_map]at h0⊢;exact h0
structure sE(t:List aA)(want:List Nat)(c6:aO)(bM aT:Value)(b2 bc br:Nat)(k:Nat)(W:aO)(eM:Value)(cells:List Value):Prop where
 lF:Below c6.heap.size c6 W
 f1:(b6 1 j9 (iU want)).R c6 bM
 kA:jM c6 aT t
 dA:ag W b2 #[aT] 28
 gM:ag W bc #[.slice none 0 0] 28
 iv:b2≠br
 nF:c6.heap.size<=bc/\bc≠br
 out:G3 c6.heap.size W br eM cells ((t.take k).map (nz · want))
def sE.lE{want:List Nat}{a bc br k:Nat}{cells:List Value}(h:sE t want c6 bM aT a bc br k W eM cells):(cm t).R W (.pointer (some ⟨a,0,none⟩)):=⟨a,aT,Y,Nat.zero_le _,h.dA,jM.kept (An h.lF) h.kA⟩
theorem sE.below{want:List Nat}{b bc br k:Nat}{cells:List Value}(h:sE t want c6 bM aT b bc br k W eM cells)(a:Below W.heap.size W W'):sE t want c6 bM aT b bc br k W' eM cells:=
 ⟨h.lF.trans (a.mono h.lF.size),h.f1,h.kA,h.dA.call a,h.gM.call a,h.iv,h.nF,h.out.below a⟩
def AF(bM:Value)(b2 bc br k:Nat):List (Nat×bp):=[(1,de bM),(2,de (.pointer (some ⟨b2,0,none⟩))),(4,de (.pointer (some ⟨bc,0,none⟩))),(5,de (.pointer (some ⟨br,0,none⟩))),(6,bt k)]
def G4(t:List aA)(want:List Nat)(B:Nat)(bM:Value)(b2 bc br k:Nat):List (Nat×bp):=[(1,iR bM (b6 1 j9 (iU want))),(2,iR (.pointer (some ⟨b2,0,none⟩)) (cm t)),(4,rp B (de (.pointer (some ⟨bc,0,none⟩)))),(5,de (.pointer (some ⟨br,0,none⟩))),(6,bt k)]
def sE.mq{want:List Nat}{c bc br k:Nat}{cells:List Value}(h:sE t want c6 bM aT c bc br k W eM cells)(hk:af 96 (aK (AF bM c bc br k)) a W):af 96 (aK (G4 t want W.heap.size bM c bc br k)) a W:=by
 refine hk.zb hk.size λp d=>⟨Y,?_⟩;simp[G4]at d;rcases d with rfl|rfl|rfl|rfl|rfl
 .exact⟨_,Y,λv b=>⟨b,b▸(b6 1 j9 (iU want)).hJ _ _ _ h.lF h.f1⟩⟩
 .exact⟨_,Y,λv b=>⟨b,b▸h.lE⟩⟩
 .exact⟨_,Y,λv b=>⟨Nat.le_refl _,b⟩⟩
 .exact⟨_,Y,λv b=>b⟩
 .exact⟨_,Y,λv b=>b⟩
def G4.free{want:List Nat}{B:Nat}{d bc br k:Nat}{K:bJ}(hk:af 96 K a W)(hi:z1 K (G4 t want B bM d bc br k)):af 96 (aK (AF bM d bc br k)) a W':=by
 obtain⟨h1,f,e,h,g,-⟩:=hi;refine hk.zb hk.size λp c=>⟨Y,?_⟩;simp[AF]at c;rcases c with rfl|rfl|rfl|rfl|rfl
 .exact⟨_,h1,λv b=>b.1⟩
 .exact⟨_,f,λv b=>b.1⟩
 .exact⟨_,e,λv b=>b.2⟩
 .exact⟨_,h,λv b=>b⟩
 .exact⟨_,g,λv b=>b⟩
end
def Zi{want:List Nat}{d_:aO}{e bc br k:Nat}{cells:List Value}(hk:t[k]?=some c)(i:sE t want c6 bM aT e bc br k d_ eM cells)(n:af 96 (aK (AF bM e bc br k)) a d_)(kk:∀a' W' cI,Ej t (iU want) bM (.pointer (some ⟨e,0,none⟩)) d_.heap.size d_->pP d_.heap.size W' cI c.kind c.ck (.slice none 0 0) (.slice none 0 0) (.slice none 0 0) [] [] []->af 96 (aK ((7,wL cI #[.int .i64 c.kind,.int .i64 c.ck,.slice none 0 0,.slice none 0 0,.slice none 0 0] 43)::[(1,iR bM (b6 1 j9 (iU want))),(2,iR (.pointer (some ⟨e,0,none⟩)) (cm t)),(4,de (.pointer (some ⟨bc,0,none⟩))),(5,de (.pointer (some ⟨br,0,none⟩))),(6,bt k)])) a' W'->a'.defers=a.defers->Below d_.heap.size d_ W'->bK (ae prog true) ks ks' Q a' W'):bK (ae prog true) (.code (.region 5 (aq Tryz.f14 5) true)::ks) ks' Q a d_:=by
 have C:Ej t (iU want) bM (.pointer (some ⟨e,0,none⟩)) d_.heap.size d_:=⟨Y,(b6 1 j9 (iU want)).hJ _ _ _ i.lF i.f1,i.lE⟩;have hg:=i.mq n;rw[o5 (aq Tryz.f14 5)];refine pC (m:=14) hg (dq Y L3<|dq Y KT<|dq Y KJ<|dq Y L_<|dq Y (ia Y Y Ae Um)<|dq Y Kf<|dq Y L3<|dq Y KT<|dq Y KJ<|dq Y L_<|dq Y (ia Y Y Ae Un)<|dq Y Kf<|dq Y (ZM Y Y Y)<|dq Y (ZF Y (s:=4) Y)<|rfl) Y pM AV λq g d o r=>?_;obtain⟨u7,u,cI,rfl,f,h⟩:=d.has 7 _ Y;obtain⟨u28,A,rfl⟩:=d.has 28 _ Y;have j:Below d_.heap.size d_ (en g cI 0 (.int .i64 c.kind) (.int .i64 c.ck) (.slice none 0 0) (.slice none 0 0) (.slice none 0 0)):=r.trans (So g f _ _ _ _ _ _);have cL:ag (en g cI 0 (.int .i64 c.kind) (.int .i64 c.ck) (.slice none 0 0) (.slice none 0 0) (.slice none 0 0)) cI #[.int .i64 c.kind,.int .i64 c.ck,.slice none 0 0,.slice none 0 0,.slice none 0 0] 43:=Zn h 0 _ _ _ _ _;have z:Hid _:=h;obtain⟨y,x,w⟩:=h.all;clear h;show wpOps _ _ _ [14] _ _;refine wb (w1:=en g cI 0 (.int .i64 c.kind) (.int .i64 c.ck) (.slice none 0 0) (.slice none 0 0) (.slice none 0 0)) Y Y Y Be ?_;refine kk q _ cI C ⟨f,cL,World.ownsRow_nil _ _ _ _,World.ownsRow_nil _ _ _ _,World.ownsRow_nil _ _ _ _⟩ ?_ o j;refine af.of d.size λp l=>?_;simp at l;rcases l with rfl|rfl|rfl|rfl|rfl|rfl
 .exact⟨_,u,Y,cL⟩
 .exact d.get Y Y λv b=>⟨b.1,b.1▸(b6 1 j9 (iU want)).hJ _ _ _ j C.f1⟩
 .exact d.get Y Y λv b=>⟨b.1,b.1▸(cm t).hJ _ _ _ j C.kA⟩
 .exact d.get Y Y λv b=>b.2
 .exact d.get Y Y λv b=>b
 .exact d.get Y Y λv b=>b
end aG
end Go.Proofs.YtncomcmfgmojkaaGreat
