import Derived.Test.YtmlddfohidhniaaGreatPAR
set_option linter.all false
set_option maxRecDepth 100000
set_option maxHeartbeats 16000000
namespace Go.Proofs.YtmlddfohidhniaaGreat
open Go.Proofs.Tryz
namespace a3
open Conc ConcM RowKit ax bp cI dm bS cq eC
variable{P:b4}
def rP{N i m r:Nat}{ops:eY}{ks ks':il}{Q:uag}{K K':bL}{a:Act}{w:aS}(hk:af N K a w)(h:vc P N ops ((ops.toList.drop i).take m) K K')(q:i+m<=ops.size)(k:∀a' w',af N K' a' w'->a'.defers=a.defers->cJ w w'->bI P (.inRegion ops (List.range' (i+m) r)::ks) ks' Q a' w'):bI P (.inRegion ops (List.range' i (m+r))::ks) ks' Q a w:=λb cs=>by
 obtain⟨a1,w1,f,d⟩:=Js (R:=bI P (.inRegion ops (List.range' (i+m) r)::ks) ks' Q) (List.range' (i+m) r) (List.range' i m) a w (by
  have l:((ops.toList.drop i).take m).length=m:=Aq;have:=Nn (Q:=jZ (bI P (.inRegion ops (List.range' (i+m) r)::ks) ks' Q)) (rest:=[]) h (i:=i) (λj o s=>AA) hk λa' w' f d c=>⟨Y,k a' w' f d c⟩;rw[l,vcb]at this;exact this) b ks cs
 obtain⟨p,g,c,n⟩:=f b cs;have e:List.range' i (m+r)=List.range' i m++List.range' (i+m) r:=by simp[List.range'_append]
 rw[e];exact⟨p,g,c,d.trans n⟩
def UO(w w':aS):Prop:=∀b o v,v≠ .N->w.cell? (.a b o)=some v->w'.cell? (.a b o)=some v
variable{ao:Type}
def UP{w w':aS}{a:Nat}{R:aS->(Nat->Option Value)->ao->Prop}{v:Value}{xs:List ao}(g:∀x∈xs,∀b o,R w (λj=>w.cell? (.a b (o+j))) x->R w' (λj=>w'.cell? (.a b (o+j))) x)(h:aX w a R v xs):aX w' a R v xs:=by obtain⟨bK,cap,rfl,d,f⟩:=h;refine⟨bK,cap,Y,d,λi hi=>?_⟩;obtain⟨b,off,e,c⟩:=f i hi;exact⟨b,off,e,g _ (vax hi) _ _ c⟩
def wJ{w:aS}{a:Nat}{R:aS->(Nat->Option Value)->ao->Prop}{v:Value}{xs:List ao}(h:aX w a R v xs)(b:0<xs.length):v≠ .N:=by obtain⟨bK,cap,rfl,-,-⟩:=h;grind
def wF{w:aS}{a:Nat}{R:aS->(Nat->Option Value)->ao->Prop}{v:Value}{xs:List ao}(h:aX w a R v xs):v.oneCell'=true:=by obtain⟨bK,cap,rfl,-,-⟩:=h;rfl
def Full(rs:List aZ):Prop:=∀r∈rs,0<r.1.length/\0<r.2.length
def wC{w w':aS}(hk:UO w w'){v:Value}{rs:List aZ}(j:Full rs)(h:fG w v rs):fG w' v rs:=by refine UP (λx i b o⟨pv,g,h0,d,c,a⟩=>?_) h;obtain⟨f,e⟩:=j x i;exact⟨pv,g,hk _ _ _ (wJ c f) h0,hk _ _ _ (wJ a e) d,UP (λy _ b o h=>hk _ _ _ Ad h) c,UP (λy _ b o⟨h0,d,c,a,k⟩=>⟨hk _ _ _ Ad h0,hk _ _ _ Ad d,hk _ _ _ Ad c,hk _ _ _ Ad a,k⟩) a⟩
def zg(n0 N:Nat)(D:List (List aZ))(w:aS)(v:Value):Prop:=∃b cs,v=.S b 0 D.length N/\n0<=b/\ai w b cs 66/\cs.size=N/\(∀(i:Nat) rs,D[i]?=some rs->∃u,cs[i]?=some u/\(k5 rs).R w u)/\∀i,D.length<=i->i<N->cs[i]?=some (.N)
def Of(n0:Nat)(w:aS)(v:Value):Prop:=∃b,v=.P b 0/\n0<=b/\ai w b #[.I 0,.N] 43
variable{T:g4}
section
variable{n0 N:Nat}{D:List (List aZ)}
def wB{ρ:Ren}{w w':aS}(hc:yb n0 ρ w w'){b d:Nat}(r:ρ.rel b d){cs:dp}(h:ai w b cs T):∃a,ai w' d a T/\a.size=cs.size/\∀(i:Nat) u,cs[i]?=some u->∃c,a[i]?=some c/\ar ρ u c:=by obtain⟨a,e,f⟩:=hc.types _ _ _ _ _ r h;refine⟨a,e,f,λi u hi=>?_⟩;obtain⟨c,g,j⟩:=hc.cells.cell ⟨b,i,none⟩ ⟨d,i,none⟩ u ⟨r,Y,Y⟩ ((h.rules.1 i).trans hi);exact⟨c,((ai.rules e).1 i).symm.trans g,j⟩
def atO:kg n0 (zg n0 N D):=by
 rintro ρ w w' v q hc hv ⟨b,cs,rfl,hn,g,hs,l,k⟩;obtain⟨p,rfl,r⟩:=wQ hv;obtain⟨m,f,e,key⟩:=wB hc r g;refine⟨p,m,Y,hc.new _ _ r hn,f,e.trans hs,λi rs hi=>?_,λi j h=>?_⟩
 .obtain⟨u,n,o⟩:=l i rs hi;obtain⟨d,a,c⟩:=key i u n;exact⟨d,a,(k5 rs).ic _ trivial _ _ _ _ _ hc c o⟩
 .obtain⟨d,a,c⟩:=key i _ (k i j h);rw[om c]at a;exact a
def wi:kg n0 (Of n0):=by
 rintro ρ w w' v l hc hv ⟨b,rfl,hn,f⟩;obtain⟨k,rfl,r⟩:=F1 hv;obtain⟨j,e,d,key⟩:=wB hc r f;obtain⟨u0,a,h⟩:=key 0 _ Y;obtain⟨u1,c,g⟩:=key 1 _ Y;rw[hO h]at a;rw[om g]at c;refine⟨k,Y,hc.new _ _ r hn,?_⟩;have:j=#[.I 0,.N]:=by apply vdb;intro i;match i with|0=>exact a|1=>exact c|i+2=>simp[d]
 exact this▸e
def wb(n0 N:Nat)(D:List (List aZ)):bb:=⟨zg n0 N D,λw w' v hb⟨b,cs,e,h1,h2,h3,h4,aL⟩=>⟨b,cs,e,h1,h2.call hb,h3,λi rs hi=>by
 obtain⟨u,br,bn⟩:=h4 i rs hi
 exact⟨u,br,(k5 rs).fZ _ _ _ hb bn⟩,aL⟩,λn=>n=n0,λn h=>h▸atO⟩
def AG(n0:Nat):bb:=⟨Of n0,λw w' v hb⟨b,e,h1,h2⟩=>⟨b,e,h1,h2.call hb⟩,λn=>n=n0,λn h=>h▸wi⟩
def zg.list{w:aS}{v:Value}(h:zg n0 N D w v)(a7:D.length<=1000):(dO 1 qI D).R w v:=by obtain⟨b,cs,rfl,-,a,-,c,-⟩:=h;refine⟨_,_,Y,AP,λi hi=>⟨b,0,Y,?_⟩⟩;obtain⟨u,d,e⟩:=c i _ (vag hi);exact⟨u,by simp[a.rules.1,d],e⟩
def zg.grow{w:aS}{b:Nat}{cs:dp}{rs:List aZ}{u:Value}(d:ai w b cs 66)(hn:n0<=b)(hs:cs.size=N)(f:D.length<N)(m:∀(i:Nat) rs,D[i]?=some rs->∃u,cs[i]?=some u/\(k5 rs).R w u)(l:∀i,D.length<=i->i<N->cs[i]?=some (.N))(c:(k5 rs).R w u)(j:Full rs)(hF:∀x∈D,Full x):UO w (w.setCell ⟨b,D.length,none⟩ u)/\zg n0 N (D++[rs]) (w.setCell ⟨b,D.length,none⟩ u) (.S b 0 (D.length+1) N):=by
 have hk:UO w (w.setCell ⟨b,D.length,none⟩ u):=λn o v hv hc=>by
  by_cases e:(⟨b,D.length,none⟩:Addr)=⟨n,o,none⟩
  .cases e;rw[d.rules.1,l _ JT f]at hc;cases hc;exact absurd Y hv
  .rw[World.cell?_setCell_other (h:=e)];exact hc
 refine⟨hk,b,_,Ad,hn,d.set _ _,by simpa using hs,λi r hi=>?_,λi k p=>?_⟩
 .by_cases e:i=D.length
  .subst e;simp at hi;subst hi;exact⟨u,by simp[hs,f],wC hk j c.1,c.2⟩
  .have a:D[i]?=some r:=by grind
   obtain⟨v,q,g⟩:=m i r a;exact⟨v,AA,wC hk (hF r (vcd a)) g.1,g.2⟩
 .simp at k;grind
end
def vZ{w:aS}{b o:Nat}{c:dp}{e:g4}{fr:ubs}{v:Value}(h:w.heap[b]?=some (.cells c e fr))(hv:c[o]?=some v):w.setCell ⟨b,o,none⟩ v=w:=by
 have a:(w.setCell ⟨b,o,none⟩ v).heap=w.heap:=by
  apply vdb;intro i;simp only[World.setCell,vbb];by_cases hi:b=i
  .subst hi;simp only[vdh,h,vdt];have d:o<c.size:=by grind
   have:c.setIfInBounds o v=c:=by grind
   grind
  grind
 show({w with heap:=(w.setCell ⟨b,o,none⟩ v).heap}:aS)=w;rw[a]
def rQ:Value:=.agg #[.I 0,.N]
def UQ{ρ:Ren}{u:Value}(h:ar ρ rQ u):u=rQ:=by
 obtain⟨c,rfl,k⟩:=sK h;cases k with
 |cons b k=>cases k with
  |cons a k=>cases k;rw[hO b,om a];rfl
def D3(rs:List aZ)(w:aS)(u:Value):Prop:=∃bq,u=.tuple #[bq,.I 0,rQ]/\fG w bq rs
def vW{n0:Nat}(rs:List aZ):kg n0 (D3 rs):=by
 rintro ρ w w' v d hc hv ⟨bq,rfl,h⟩;obtain⟨e,rfl,k⟩:=F0 hv;cases k with
 |cons c k=>cases k with
  |cons b k=>cases k with
   |cons a k=>cases k;exact⟨_,by rw[hO b,UQ a],ax.aX.carry qo hc.cells c h⟩
def Og(F:Func):Code:=.seq (.block 2 (.seq (.region 6 (av F 6) false) (.cond (.tmp 32) (.seq (.region 7 (av F 7) false) .ret) (.seq (.region 8 (av F 8) false) (.cond (.tmp 39) (.seq (.region 9 (av F 9) false) .ret) .skip))))) (.region 10 (av F 10) false)
def D4(F:Func):Code:=.seq (.region 3 (av F 3) false) (.seq (.cond (.tmp 20) .skip (.exit 0)) (.seq (.block 1 (.seq (.region 4 (av F 4) false) (.seq (.region 5 (av F 5) false) (Og F)))) (.region 11 (av F 11) false)))
def Kg(F:Func):Code:=.seq (.region 12 (av F 12) false) .ret
def UR(F:Func):Code:=.seq (.region 0 (av F 0) false) (.seq (.region 1 (av F 1) false) (.seq (.seq (.region 2 (av F 2) false) (.block 0 (.loop (D4 F)))) (Kg F)))
def t9(F:Func):List Item:=[.code (D4 F),.inLoop (D4 F),.inBlock 0,.code (Kg F)]
def D5(F:Func):List Item:=[.code (Og F),.inBlock 1,.code (.region 11 (av F 11) false),.inLoop (D4 F),.inBlock 0,.code (Kg F)]
theorem D6:f20.body=some (UR f20):=by kernel_rfl
section
variable{N:Nat}{K:bL}{o:Oper}{F:bb}{x y:uar}
def atP{s B:Nat}(b:o.op=.alloc 43)(hs:K s=some (rM B F)):bF (ae prog true) N K o (AG B):=λa w hk=>by obtain⟨v,-,c,-⟩:=hk.has s _ hs;refine .inl ⟨.P w.heap.size 0,w.alloc (.cells #[.I 0,.N] 43),?_,⟨_,Y,c,ai.new _ _ _⟩,(vaa _ w).alloc JT _⟩;generalize a.eval=ev;cases o;simp only at b;subst b;go_simp
def atQ{s B n:Nat}(f:o.op=.makeSlice 86 x y)(e:bh K x (a5 0))(d:bh K y (a5 n))(hn:n<=1000)(hs:K s=some (rM B F)):bF (ae prog true) N K o (wb B n []):=λa w hk=>by obtain⟨v,-,g,-⟩:=hk.has s _ hs;have c:a.eval x=.I 0:=hk.ev e;have b:a.eval y=.I n:=hk.ev d;refine .inl ⟨.S w.heap.size 0 0 n,w.alloc (.cells (Array.replicate n (.N)) 66),?_,⟨_,_,Y,g,ai.new _ _ _,Ad,λi rs h=>by simp at h,λi _ h=>by simp[h]⟩,(vaa _ w).alloc JT _⟩;obtain⟨i,m,l,k,j⟩:=vch (show(prog.info? 66).map (λi=>(i.zero,i.size,i.bytes))=some (some (.N),1,24)from Ah);have:=run_make (P:=ae prog true) w 86 66 i _ BK m l .i64 .i64 0 n AX AP (by rw[j];simp;omega) AP;generalize a.eval=ev at c b⊢;simp[execOp,f,c,b,this,k,madeCells,go_sem];rw[show(λx=>[Value.slice none 0 0][x % 1]?.getD default)=λ_:Nat=>Value.slice none 0 0 from funext λx=>by rw[Nat.mod_one];rfl,show Array.map (λ_:Nat=>Value.slice none 0 0) (Array.range n)=Array.replicate n (.N)from Array.ext Ad (by intros;simp)]
def vV:py (ae prog true) 86 66 (.N) 1 24:=⟨BK,Ah,AX,AX⟩
def atR{ops:eY}{i d:Nat}{a:Act}{w:aS}{b n cap g:Nat}{u:Value}{cs:dp}(m:ops[i]?=some o)(p:o.guard=none)(hd:o.dst=some d)(c:o.op=.call {callee:=.builtin .append,args:=#[x,y],argTypes:=#[86,86]})(k:a.eval x=.S b 0 n cap)(f:a.eval y=.S g 0 1 1)(hv:w.cell? (.a g 0)=some u)(t:u.oneCell'=true)(e:ai w b cs 66)(hc:cs.size=cap)(hn:n+1<=cap){Q:uag}(h:Q (a.put (some d) (.S b 0 (n+1) cap)) (w.setCell ⟨b,n,none⟩ u)):wpOps (ae prog true) ops (jZ Q) [i] a w:=by
 obtain⟨GK,hi,r,hsz,q⟩:=vch vV.hi;have l:=run_append_room_cells (P:=ae prog true) w 86 o.type 66 GK vV.ht hi b 0 n cap ⟨g,0,none⟩ 1 1 [u] AA (λj u s=>by
  grind[Addr.add]) AA hn (by have:=e.rules.1;grind) (by have:=e.rules.2;grind)
 refine rD m p hd (v:=.S b 0 (n+1) cap) (w1:=w.setCell ⟨b,n,none⟩ u) ?_ h;simp only[execOp,c,resolve,invoke,builtin,k,f,l,Result.andThen,vdp,Sem.run_pure,List.map_toArray,vdg,List.map_nil];grind[World.setCells]
def vR{bK:uan}{n c:Nat}(a:o.op=.call {callee:=.builtin .len,args:=#[x],argTypes:=#[T]})(b:bh K x (e8 (.slice bK n c)))(d:T=36):bF (ae prog true) N K o (a5 n):=eb b λev w h=>by have e:ev x=.slice bK n c:=h;subst d;refine⟨.I n,w,?_,Y,vaa _ _⟩;cases o;simp only at a;subst a;go_simp
def vP{rs:List aZ}(b:o.op=.call {callee:=.builtin .len,args:=#[x],argTypes:=#[66]})(d:bh K x (k5 rs)):bF (ae prog true) N K o (a5 rs.length):=eb d λev w h=>by obtain⟨-,a,c,e,-⟩:=h;refine⟨.I rs.length,w,?_,Y,vaa _ _⟩;cases o;simp only at b;subst b;go_simp
def vL{g:g4}(b:o.op=.binOp .neq T x (.const (.N)) g)(c:bh K x sT)(d:T=73):bF (ae prog true) N K o (dV false):=λa w hk=>.inl ⟨.F,w,by
 have e:a.eval x=.N:=hk.ev c;have f:a.eval (.const (.N))=.N:=rfl;generalize a.eval=ev at e f⊢;subst d;cases o;simp only at b;subst b;go_simp,Y,vaa _ _⟩
def vD(b:o.op=.build 43 #[]):bF (ae prog true) N K o (Ut [.I 0,.N] (by simp;exact⟨.int _ _,.nil _ _⟩)):=λa w hk=>by refine .inl ⟨.agg #[.I 0,.N],w,?_,Y,vaa _ _⟩;generalize a.eval=ev;cases o;simp only at b;subst b;go_simp
def atS{b:uan}{n uc:Nat}(a:o.op=.buildSlice 86 1 #[(0,x)])(ev:uak)(w:aS)(c:ev x=.slice b n uc):(execOp ev o).run (ae prog true) w=.ok (.value (.S w.heap.size 0 1 1)) (w.alloc (.cells #[.slice b n uc] 66)):=by cases o;simp only at a;subst a;go_simp
def GL{v:Value}(b:o.op=.assign x){ev:uak}(a:ev x=v)(w:aS):(execOp ev o).run P w=.ok (.value v) w:=by simp[execOp,b,a]
def atT(a:o.op=.alloc 34)(ev:uak)(w:aS):(execOp ev o).run (ae prog true) w=.ok (.value (.P w.heap.size 0)) (w.alloc (.cells #[.I 0,.I 0,.I 0,.N,.N,.N,.N] 34)):=by cases o;simp only at a;subst a;go_simp
def D7{w:aS}{b o:Nat}{cs:dp}{v:Value}(a:ai w b cs T)(h:v.oneCell'=true)(c:o<cs.size:=by simp):(store ⟨b,o,none⟩ v).run P w=.ok () (w.setCell ⟨b,o,none⟩ v):=by rw[run_store _ _ _ _ _ h];simp[a.rules.1,a.rules.2,c]
def atU(w:aS)(v0 v1 v2 v3 j i h:Value)(h0:v0.oneCell'=true)(s:v1.oneCell'=true)(r:v2.oneCell'=true)(q:v3.oneCell'=true)(p:j.oneCell'=true)(v:i.oneCell'=true)(u:h.oneCell'=true):∃w',(∀{o:Oper}{x y:uar},o.op=.store 34 x y->∀{ev:uak},ev x=.P w.heap.size 0->ev y=.agg #[v0,v1,v2,v3,j,i,h]->(execOp ev o).run (ae prog true) (w.alloc (.cells #[.I 0,.I 0,.I 0,.N,.N,.N,.N] 34))=.ok .skip w')/\ai w' w.heap.size #[v0,v1,v2,v3,j,i,h] 34/\cJ w w':=by
 have b:=ai.new w #[.I 0,.I 0,.I 0,.N,.N,.N,.N] 34;have d:=b.set 0 v0;have e:=d.set 1 v1;have c:=e.set 2 v2;have a:=c.set 3 v3;have g:=a.set 4 j;have f:=g.set 5 i;have k:=f.set 6 h;simp only[List.setIfInBounds_toArray,List.set_cons_zero,List.set_cons_succ]at k;refine⟨_,@fun o x y l ev A z=>?_,k,(((((((((vaa _ w).alloc JT _).setCell JT _).setCell JT _).setCell JT _).setCell JT _).setCell JT _).setCell JT _).setCell JT _)⟩;have t:Hid _:=And.intro b (And.intro d (And.intro e (And.intro c (And.intro a (And.intro g f)))));generalize m:World.setCell _ _ _=W';have n:Hid _:=m;clear b d e c a g f k m;cases o;simp only at l;subst l;go_simp
 obtain⟨b,d,e,c,a,g,f⟩:=t.out;rw[D7 b h0,vbt,D7 d s,vbt,D7 e r,vbt,D7 c q,vbt,D7 a p,vbt,D7 g v,vbt,D7 f u,vbt,n.out]
def atV(c:o.op=.store 43 x y)(ev:uak){w:aS}{b:Nat}(a:ai w b #[.I 0,.N] 43)(f:ev x=.P b 0)(d:ev y=.agg #[.I 0,.N]):(execOp ev o).run (ae prog true) w=.ok .skip w:=by
 obtain⟨i,h,g⟩:=a.all;cases o;simp only at c;subst c;have e:(w.setCell ⟨b,0,none⟩ (.I 0)).setCell ⟨b,1,none⟩ (.N)=w:=by rw[vZ a Y,vZ a Y]
 go_simp
end
def GM{N:Nat}{a:Act}{w:aS}(h:a.tmps.size=N):af N (a2 []) a w:=⟨h,λ_ _ e=>Cn⟩
def fu{N:Nat}{l:List (Nat×bb)}{a:Act}{w:aS}{s:Nat}{F:bb}{v:Value}(h:a.tmps[s]?=some v)(hv:F.R w v)(hk:af N (a2 l) a w):af N (a2 ((s,F)::l)) a w:=⟨hk.size,λs' G e=>by
 unfold a2 at e;split at e
 .rename_i b;cases e;exact⟨v,b▸h,hv⟩
 .exact hk.has s' G e⟩
def m7{args:dp}{n i:Nat}{v:Value}(h:args[i]?=some v):(⟨args++Array.replicate n undef,[]⟩:Act).tmps[i]?=some v:=by show(args++Array.replicate n undef)[i]?=some v;rw[Array.getElem?_append_left (vas.1 h).1];exact h
def zh{N:Nat}{K:bL}{a:Act}{w:aS}{s:Nat}{b c:Bool}(h:af N K a w)(e:K s=some (dV b))(d:b=c):a.eval (.tmp s)=.bool c:=d▸h.ev (x:=.tmp s) (F:=dV b) e
theorem zd.one{v:Value}(h:zd v):v.oneCell'=true:=by obtain⟨_,_,_,rfl⟩:=h;rfl
abbrev k6(n0 N:Nat)(D:List (List aZ))(W ak:Int)(k:Nat):List (Nat×bb):=[(9,wb n0 N D),(8,AG n0),(5,eR xb (W,ak)),(18,a5 N),(19,a5 k)]
section
variable{n0 N k c:Nat}{bK:uan}{W ak:Int}{D:List (List aZ)}{rs:List aZ}{ns:List sS}{ib:sS}{ts:List (List aG)}{be bB:Value}{a:Act}{w:aS}
def atW(a7:N<=1000)(hd:a.defers=[])(hn:n0<=w.heap.size)(hk:af 57 (a2 [(0,e8 be),(1,e8 (.slice bK N c)),(2,mg W ak),(3,nF)]) a w):
 bI (ae prog true) [.code (UR f20)] (t9 f20) (λa1 w1=>a1.defers=[]/\(a1.tmps[0]?=some be/\a1.tmps[17]?=some (.slice bK N c))/\af 57 (a2 (k6 n0 N [] W ak 0)) a1 w1/\Below n0 w w1) a w:=by
 obtain⟨u,h,g⟩:=hk.has 3 _ Y;have hk:=fu (F:=rM n0 nF) h ⟨hn,g⟩ hk;unfold UR;refine bm ?_;rw[fk (av f20 0)];refine cD hk (aq Y (UG Y Y)<|aq Y (df (F:=sT) Y Jd)<|aq Y (df (F:=a5 0) Y Jd)<|aq Y (atP (s:=3) Y Y)<|rfl) λa1 w1 f d1 b1=>bm ?_;rw[fk (av f20 1)];refine cD f (aq Y JU<|aq Y (vR Y Y Y)<|aq Y (atQ (s:=3) Y Jd Y a7 Y)<|aq Y Jq<|rfl) λr p e j n=>bm (bm ?_);rw[fk (av f20 2)];refine cD e (aq Y JU<|aq Y (vR Y Y Y)<|aq Y (bf (F:=a5 (0:Nat)) Y Jd)<|rfl) λq o b i m=>ln (wM (kf ⟨i.trans (j.trans (d1.trans hd)),?_,b.aU ⟨Y,Y,Y,Y,Y,PJ⟩,?_⟩))
 .obtain⟨v,k,rfl⟩:=b.has 0 _ Y;obtain⟨u,l,rfl⟩:=b.has 17 _ Y;exact⟨k,l⟩
 .have d:=b1.trans (n.mono b1.size);exact(d.trans (m.mono d.size)).mono hn
def atX(U:D.length=k)(a7:N<=1000)(Y:k<N)(H:ns[k]?=some ib)(hd:a.defers=[])(hn:n0<=w.heap.size)(h0:a.tmps[0]?=some be)(P:a.tmps[17]?=some bB)(ht:(dO 1 lT ts).R w be)(C:(dO 7 ou ns).R w bB)(h:af 57 (a2 (k6 n0 N D W ak k)) a w):
 bI (ae prog true) (t9 f20) (.inRegion (av f20 5) (List.range' 4 6)::D5 f20) (λa1 w1=>a1.defers=[]/\(a1.tmps[0]?=some be/\a1.tmps[17]?=some bB)/\af 57 (a2 ((27,dO 1 qI D)::(25,qJ ib)::(26,dO 1 lT ts)::(28,mg W ak)::(10,a5 k)::k6 n0 N D W ak k)) a1 w1/\Below n0 w w1) a w:=by
 have hk:=fu (F:=sQ be (dO 1 lT ts)) h0 ⟨rfl,ht⟩<|fu (F:=sQ bB (dO 7 ou ns)) P ⟨rfl,C⟩ h;unfold t9 D4;refine bm ?_;rw[fk (av f20 3)];refine cD hk (aq rfl (N_ rfl rfl rfl AX)<|rfl) λa1 w1 x d1 b1=>bm (fj (t:=true) (zh x rfl Aq) (lN (bm (ln (bm ?_)))));rw[fk (av f20 4)];refine sI (show bI _ (.inRegion _ (List.range' 0 (3+3))::_) _ _ _ _ from rP x (aq rfl JU<|aq rfl (atx rfl rfl rfl H AX)<|aq rfl (UH rfl rfl)<|rfl) AX λd b f M O=>ye ?_);obtain⟨X,o,bq,A,q,r,rfl,j,g⟩:=f.has 23 _ rfl;obtain⟨c,n,J⟩:=f.has 21 _ rfl;refine kh (R:=λa' w'=>a'=d.put (some 11) (.P b.heap.size 0)/\w'=b.alloc (.cells #[.I 0,.I 0,.I 0,.N,.N,.N,.N] 34)) (rD rfl rfl rfl (atT rfl _ _) ⟨rfl,rfl⟩) ?_;rintro _ _ ⟨rfl,rfl⟩;have Q:(d.put (some 11) (.P b.heap.size 0)).tmps[21]?=some c:=(fY AX).trans n;refine kh (R:=λa' w'=>a'=(d.put (some 11) (.P b.heap.size 0)).put (some 10) c/\w'=b.alloc (.cells #[.I 0,.I 0,.I 0,.N,.N,.N,.N] 34)) (rD (v:=c) rfl rfl rfl (GL rfl (d_ Q) _) ⟨rfl,rfl⟩) ?_;rintro _ _ ⟨rfl,rfl⟩;have S:((d.put (some 11) (.P b.heap.size 0)).put (some 10) c).tmps[11]?=some (.P b.heap.size 0):=(fY AX).trans (mY (by rw[f.size];decide));have p:((d.put (some 11) (.P b.heap.size 0)).put (some 10) c).tmps[23]?=some _:=(fY AX).trans ((fY AX).trans o);obtain⟨B,E,K,i⟩:=atU b (.I ib.1) (.I ib.2.1) (.I ib.2.2.1) bq A q r rfl rfl rfl j.1.one (wF g.1) (wF g.2) j.2.one;refine kh (R:=λa' w'=>a'=(d.put (some 11) (.P b.heap.size 0)).put (some 10) c/\w'=B) (tV rfl rfl rfl (E rfl (d_ S) (d_ p)) ⟨rfl,rfl⟩) ?_;rintro _ _ ⟨rfl,rfl⟩;have hcell:=K.rules.1;have I:=(f.put (s:=11) (F:=eR ou ib) AX i ⟨b.heap.size,0,rfl,bq,A,q,r,⟨hcell _,hcell _,hcell _,hcell _,hcell _,hcell _,hcell _⟩,j,aX.mono j6 (bo.bX i) g.1,aX.mono j6 (bo.bX i) g.2⟩).put (s:=10) (F:=a5 k) AX (vaa _ _) J;refine rE (bm (sI ?_));rw[fk (av f20 5)];refine(show bI _ (.inRegion _ (List.range' 0 (4+6))::_) _ _ _ _ from rP I (aq rfl (UH rfl rfl)<|aq rfl (GC rfl rfl)<|aq rfl JU<|aq rfl (Ke rfl rfl)<|rfl) AX λV T e L a8=>kf ⟨L.trans ((put_defers _ _ _).trans ((put_defers _ _ _).trans (M.trans (d1.trans hd)))),?_,?_,?_⟩)
 .obtain⟨v,l,rfl,-⟩:=e.has 0 _ rfl;obtain⟨u,m,rfl,-⟩:=e.has 17 _ rfl;exact⟨l,m⟩
 .obtain⟨v,l,m⟩:=e.has 27 _ rfl;exact fu l (zg.list m AP) (e.aU ⟨rfl,rfl,rfl,rfl,rfl,rfl,rfl,rfl,rfl,PJ⟩)
 .have z:=b1.trans (O.mono b1.size);have y:=z.trans (i.mono z.size);exact(y.trans (a8.mono y.size)).mono hn
def vC(hD:D.length=k)(a7:N<=1000)(AH:k<N)(wV:rs.length<=300)(hf:Full rs)(hF:∀x∈D,Full x)(hd:a.defers=[])(hn:n0<=w.heap.size)(h0:a.tmps[0]?=some be)(UT:a.tmps[17]?=some bB)(h:af 57 (a2 ((29,pX rs)::k6 n0 N D W ak k)) a w):
 bI (ae prog true) (.inRegion (av f20 5) (List.range' 5 5)::D5 f20) (t9 f20) (λa1 w1=>a1.defers=[]/\(a1.tmps[0]?=some be/\a1.tmps[17]?=some bB)/\af 57 (a2 (k6 n0 N (D++[rs]) W ak (k+1))) a1 w1/\Below n0 w w1) a w:=by
 have hk:=fu (F:=e8 be) h0 rfl<|fu (F:=e8 bB) UT rfl h;unfold D5 Og;rw[fk (av f20 5)];refine(show bI _ (.inRegion _ (List.range' 5 (5+0))::_) _ _ _ _ from rP hk K1 AX λa1 w1 k1 d1 b1=>wO (bm (ln (bm ?_))));rw[fk (av f20 6)];refine cD k1 (aq rfl JU<|aq rfl (vL rfl rfl rfl)<|aq rfl Jq<|rfl) λbc w2 Z d2 b2=>fj (t:=false) (zh Z rfl rfl) (bm ?_);rw[fk (av f20 8)];refine cD Z (aq rfl JU<|aq rfl (vP rfl rfl)<|aq rfl (Oa (n:=300) rfl rfl Jd AX)<|aq rfl Jq<|rfl) λbz w3 Y d3 bZ=>fj (t:=false) (zh Y rfl Aq) (lN (tT ?_));rw[fk (av f20 10)];refine sI (show bI _ (.inRegion _ (List.range' 0 (2+3))::_) _ _ _ _ from rP Y (aq rfl JU<|aq rfl JU<|rfl) AX λy b g d4 a8=>ye ?_);obtain⟨vy,V,d,cs,rfl,o,cB,j,MN,U⟩:=g.has 45 _ rfl;obtain⟨E8,aFf,-⟩:=g.has 9 _ rfl;obtain⟨vb,T,hr⟩:=g.has 46 _ rfl;obtain⟨z,uc,rfl,aFg⟩:=hr.2;have bt:cJ b (b.alloc (.cells #[.slice z rs.length uc] 66)):=(vaa _ b).alloc JT _;refine kh (R:=λa' w'=>a'=y.put (some 47) (.S b.heap.size 0 1 1)/\w'=b.alloc (.cells #[.slice z rs.length uc] 66)) (rD rfl rfl rfl (atS rfl _ _ (d_ T)) ⟨rfl,rfl⟩) ?_;rintro _ er ⟨rfl,f⟩;have c:=g.put (s:=47) (F:=e8 (.S b.heap.size 0 1 1)) AX (f▸bt) rfl;have S:er.cell? (.a b.heap.size 0)=some (.slice z rs.length uc):=by rw[f];exact(ai.new _ _ _).rules.1 0
 have Q:=(k5 rs).fZ _ _ _ (f▸bt) hr;have P:∀(i:Nat) r,D[i]?=some r->∃u,cs[i]?=some u/\(k5 r).R er u:=λi r hi=>by obtain⟨u,fx,g7⟩:=MN i r hi;exact⟨u,fx,(k5 r).fZ _ _ _ (f▸bt) g7⟩
 have m:ai er d cs 66:=cB.call (f▸bt);obtain⟨E,l⟩:=zg.grow (n0:=n0) m o j AP P U Q hf hF;refine kh (R:=λa' w'=>a'=(y.put (some 47) (.S b.heap.size 0 1 1)).put (some 48) (.S d 0 (D.length+1) N)/\w'=er.setCell ⟨d,D.length,none⟩ (.slice z rs.length uc)) (atR rfl rfl rfl rfl (d_ ((fY AX).trans V)) (d_ (mY (by rw[g.size];decide))) S rfl m j AP ⟨rfl,rfl⟩) ?_;rintro _ q ⟨rfl,C⟩;rw[<-C]at E l;refine kh (R:=λa' w'=>a'=((y.put (some 47) (.S b.heap.size 0 1 1)).put (some 48) (.S d 0 (D.length+1) N)).put (some 9) (.S d 0 (D.length+1) N)/\w'=q) (rD (v:=.S d 0 (D.length+1) N) rfl rfl rfl (GL rfl (d_ (mY (by rw[c.size];decide))) _) ⟨rfl,rfl⟩) ?_;rintro B q ⟨p,rfl⟩;have ht:∀s v,s≠48->s≠9->(y.put (some 47) (.S b.heap.size 0 1 1)).tmps[s]?=some v->B.tmps[s]?=some v:=λs v h1 h2 h3=>by rw[p];exact(fY (Ne.symm h2)).trans ((fY (Ne.symm h1)).trans h3)
 obtain⟨Im,UU,rfl⟩:=c.has 0 _ rfl;obtain⟨O,M,rfl⟩:=c.has 17 _ rfl;obtain⟨xJ,sV,X,rfl,Oi,L⟩:=c.has 8 _ rfl;obtain⟨X2,UV,kC,K,rfl,f0,f1⟩:=c.has 5 _ rfl;obtain⟨aFh,J,UW⟩:=c.has 18 _ rfl;obtain⟨aFi,I,Kk⟩:=c.has 19 _ rfl;have H:X≠d:=λe=>by simp_all[ai]
 have ie:af 57 (a2 ((0,e8 Im)::(17,e8 O)::k6 n0 N (D++[rs]) W ak k)) B q:=
  fu (ht _ _ AX AX UU) rfl<|fu (ht _ _ AX AX M) rfl<|fu (by rw[p];exact mY (by rw[iS,c.size];decide)) l<|fu (ht _ _ AX AX sV) ⟨X,rfl,Oi,by rw[C];exact L.gx H _⟩<|fu (ht _ _ AX AX UV) ⟨kC,K,rfl,E _ _ _ Ad f0,E _ _ _ Ad f1⟩<|fu (ht _ _ AX AX J) UW<|fu (ht _ _ AX AX I) Kk<|GM (by rw[p,iS,iS];exact c.size)
 have d6:B.defers=[]:=by rw[p,put_defers,put_defers,put_defers];exact d4.trans (d3.trans (d2.trans (d1.trans hd)))
 have e2:=b1.trans (b2.mono b1.size);have e3:=e2.trans (bZ.mono e2.size);have e4:=e3.trans (a8.mono e3.size);have cL:Below n0 w q:=by rw[C,f];exact(((e4.trans (bt.mono e4.size)).mono hn)).setCell o _
 refine rE (tT ?_);rw[fk (av f20 11)];refine cD ie (aq rfl (nL (n:=1) rfl rfl Jd Bu AX)<|aq rfl JU<|rfl) λnC uW A d7 cK=>wN (kf ⟨d7.trans d6,?_,A.aU ⟨rfl,rfl,rfl,rfl,rfl,PJ⟩,cL.trans (cK.mono (vad hn cL.size))⟩);obtain⟨v,br,rfl⟩:=A.has 0 _ rfl;obtain⟨u,bn,rfl⟩:=A.has 17 _ rfl;exact⟨br,bn⟩
def aue(E:D.length=N)(h0:0<N)(a7:N<=1000)(o:D[N-1]?=some rs)(hd:a.defers=[])(hn:n0<=w.heap.size)(h:af 57 (a2 (k6 n0 N D W ak N)) a w):
 rA (ae prog true) f20 (t9 f20) (λv w1=>D3 rs w1 v/\Below n0 w w1) a w:=by
 obtain⟨B,z,l⟩:=h.has 9 _ Y;have hk:=fu (F:=dO 1 qI D) z (zg.list l AP) h;unfold t9 D4;refine Cv (ks':=[.code .ret]) (bm ?_);rw[fk (av f20 3)];refine cD hk (aq Y (N_ Y Y Y AX)<|rfl) λa1 w1 e d1 b1=>bm (fj (t:=false) (zh e Y Ad) (va Y ?_));unfold Kg;refine bm ?_;rw[fk (av f20 12)];have x:((D.length:Int)-1)=((N-1:Nat):Int):=AP;refine sI (show bI _ (.inRegion _ (List.range' 0 (9+1))::_) _ _ _ _ from rP e (aq Y JU<|aq Y JU<|aq Y J9<|aq Y (z8 (n:=1) Y Y Jd Bu AX)<|aq Y (ee (i:=N-1) Y Y (by rw[<-x];rfl) o AX)<|aq Y (ck Y Y (UL _) AX)<|aq Y (vD Y)<|aq Y Jq<|aq Y (df (F:=a5 0) Y Jd)<|rfl) AX λr k b q s=>ye ?_);have p:=b1.trans (s.mono b1.size);obtain⟨A,d,C,rfl,-,f⟩:=b.has 8 _ Y;obtain⟨u,c,rfl⟩:=b.has 56 _ Y;obtain⟨g,y,j⟩:=b.has 6 _ Y;obtain⟨H,m,rfl⟩:=b.has 7 _ Y;refine kh (R:=λa' w'=>a'=r/\w'=k) (tV Y Y Y (atV Y _ f (d_ d) (d_ c)) ⟨Y,Y⟩) ?_;rintro _ _ ⟨rfl,rfl⟩;refine rE (kf (Nf (v:=.tuple #[g,.I 0,rQ]) (q.trans (d1.trans hd)) ?_ ⟨⟨_,Y,j.1⟩,p.mono hn⟩));obtain⟨c1,bH,dB⟩:=f.all;simp[results,results20,go_sem,y,m,d,c1,rQ]
def Oj(k:Nat)(u:Value):Prop:=u=.tuple #[.N,.I 6,.agg #[.I k,.N]]
def aug{K:bL}{o:Oper}{x:uar}{k:Int}(a:o.op=.build 43 #[(0,x)])(b:bh K x (a5 k)):bF (ae prog true) N K o (Ut [.I k,.N] (by simp;exact⟨.int _ _,.nil _ _⟩)):=eb b λev w h=>by have h:ev x=.I k:=h;refine⟨.agg #[.I k,.N],w,?_,Y,vaa _ _⟩;cases o;simp only at a;subst a;go_simp
def auh{o:Oper}{x y:uar}{k:Int}(a:o.op=.store 43 x y)(ev:uak){w:aS}{b:Nat}(c:ai w b #[.I 0,.N] 43)(e:ev x=.P b 0)(d:ev y=.agg #[.I k,.N]):(execOp ev o).run (ae prog true) w=.ok .skip ((w.setCell ⟨b,0,none⟩ (.I k)).setCell ⟨b,1,none⟩ (.N)):=by obtain⟨h,g,f⟩:=c.all;cases o;simp only at a;subst a;go_simp
def aui(L:300<rs.length)(hd:a.defers=[])(hn:n0<=w.heap.size)(h:af 57 (a2 ((29,pX rs)::(10,a5 k)::k6 n0 N D W ak k)) a w):
 rA (ae prog true) f20 (.inRegion (av f20 5) (List.range' 5 5)::D5 f20) (λv w1=>Oj k v/\Below n0 w w1) a w:=by
 unfold D5 Og;rw[fk (av f20 5)];refine Cv (ks':=[.code .ret,.inBlock 2,.code (.region 10 (av f20 10) false),.inBlock 1,.code (.region 11 (av f20 11) false),.inLoop (D4 f20),.inBlock 0,.code (Kg f20)]) ?_;refine(show bI _ (.inRegion _ (List.range' 5 (5+0))::_) _ _ _ _ from rP h K1 AX λa1 w1 s d1 b1=>wO (bm (ln (bm ?_))));rw[fk (av f20 6)];refine cD s (aq Y JU<|aq Y (vL Y Y Y)<|aq Y Jq<|rfl) λQ O g z E=>fj (t:=false) (zh g Y Y) (bm ?_);rw[fk (av f20 8)];refine cD g (aq Y JU<|aq Y (vP Y Y)<|aq Y (Oa (n:=300) Y Y Jd AX)<|aq Y Jq<|rfl) λP M f y B=>fj (t:=true) (zh f Y Aq) (bm ?_);rw[fk (av f20 9)];refine sI (show bI _ (.inRegion _ (List.range' 0 (4+1))::_) _ _ _ _ from rP f (aq Y JU<|aq Y (aug Y Y)<|aq Y (df (F:=sT) Y Jd)<|aq Y (df (F:=a5 6) Y Jd)<|rfl) AX λC p b x a8=>ye ?_);have l:=b1.trans (E.mono b1.size);have j:=l.trans (B.mono l.size);have u:=j.trans (a8.mono j.size);obtain⟨K,e,c,rfl,o,m⟩:=b.has 8 _ Y;obtain⟨H,d,rfl⟩:=b.has 44 _ Y;obtain⟨J,I,rfl⟩:=b.has 6 _ Y;obtain⟨S,r,rfl⟩:=b.has 7 _ Y;refine kh (R:=λa' w'=>a'=C/\w'=(p.setCell ⟨c,0,none⟩ (.I k)).setCell ⟨c,1,none⟩ (.N)) (tV Y Y Y (auh Y _ m (d_ e) (d_ d)) ⟨Y,Y⟩) ?_;rintro _ er ⟨rfl,i⟩;have q:ai er c #[.I k,.N] 43:=by rw[i];exact(m.set _ _).set _ _
 have A:Below n0 w er:=by rw[i];exact((u.mono hn).setCell o _).setCell o _
 refine rE (kf (Nf (v:=.tuple #[.N,.I 6,.agg #[.I k,.N]]) (x.trans (y.trans (z.trans (d1.trans hd)))) ?_ ⟨Y,A⟩));obtain⟨c1,bH,dB⟩:=q.all;simp[results,results20,go_sem,I,r,e,c1]
end
section
variable{O:gJ}
def Ok(F:Func):Code:=.seq (.region 10 (dw F 10) true) .ret
def Km(F:Func):Code:=(.seq (.region 0 (dw F 0) false) (.seq (.seq (.region 1 (dw F 1) false) (.block 0 (.seq (.region 2 (dw F 2) false) (.cond (.tmp 12) (.seq (.region 3 (dw F 3) true) .ret) (.seq (.region 4 (dw F 4) false) (.cond (.tmp 29) (.seq (.region 5 (dw F 5) true) .ret) (.seq (.region 6 (dw F 6) false) (.cond (.tmp 44) (.seq (.region 7 (dw F 7) true) .ret) (.seq (.region 8 (dw F 8) false) (.cond (.tmp 63) (.seq (.region 9 (dw F 9) true) .ret) .skip)))))))))) (Ok F)))
theorem UY:f27.body=some (Km f27):=by kernel_rfl
def D9{N:Nat}{K:bL}{a:Act}{w:aS}(h:af N K a w){s:Nat}{b:Bool}(e:K s=some (dV b)):a.eval (.tmp s)=.bool b:=h.ev (x:=.tmp s) (F:=dV b) e
def auk{j:Int}{ib:Int×List Int×List Int}{ts:List (List aG)}{x y:Int}{a:Act}{w:aS}(hd:a.defers=[])(hk:af 86 (a2 [(0,qJ (1,j,ib)),(1,dO 1 lT ts),(3,mg x y)]) a w):
 bI (ae prog true) [.code (Km f27)] [.code (.region 10 (dw f27 10) true),.code .ret] (λa1 w1=>a1.defers=[]/\af 86 (a2 [(1,dO 1 lT ts),(4,eR ou (1,j,ib)),(7,eR xb (x,y))]) a1 w1/\cJ w w1) a w:=by
 unfold Km;refine bm ?_;rw[fk (dw f27 0)];refine cD hk (aq Y (Mu Y Y)<|aq Y (UG Y Y)<|aq Y (df (F:=sT) Y Jd)<|aq Y (df (F:=sT) Y Jd)<|rfl) λa1 w1 l d1 b1=>bm (bm ?_);rw[fk (dw f27 1)];refine cD l (aq Y (Mn Y Y)<|aq Y Jp<|rfl) λH A k r u=>ln (bm ?_);rw[fk (dw f27 2)];refine cD k J2 λE z c q s=>fj (t:=false) (D9 c Y) (bm ?_);rw[fk (dw f27 4)];refine cD c J2 λI v b p a8=>fj (t:=false) (D9 b Y) (bm ?_);rw[fk (dw f27 6)];refine cD b J2 λD er i o bt=>fj (t:=false) (D9 i Y) (bm ?_);rw[fk (dw f27 8)];refine cD i J2 λB C d n m=>fj (t:=false) (D9 d Y) (lN (tT ?_));unfold Ok;have h:=b1.trans (u.mono b1.size);have g:=h.trans (s.mono h.size);have f:=g.trans (a8.mono g.size);have e:=f.trans (bt.mono f.size);exact bm (kf ⟨n.trans (o.trans (p.trans (q.trans (r.trans (d1.trans hd))))),d.aU ⟨Y,Y,Y,PJ⟩,e.trans (m.mono e.size)⟩)
def uZ{Post:uab}{M:dh}{w:aS}{args:dp}{j:Nat}{ib:Int×List Int×List Int}{ts:List (List aG)}{t:List aG}{ak S W:Nat}(E:aJ (bQ M) args args)(r:af 86 (a2 [(0,qJ (1,j,ib)),(1,dO 1 lT ts),(3,mg W ak)]) ⟨args++Array.replicate (86-args.size) undef,[]⟩ w)(B:ts[j]?=some t)(h0:0<t.length)(f:t.length<=1000000)(v:0<ak)(A:ak<=64)(o:0<W)(C:W<=16)(hS:S<=300)(hJ:t[0].dk.length=S)(cX:∀i,i<S->∀c∈t,v_ i c):
 gi O prog Post 27 args M w 1 (λu _ w'=>(pX (hY t 0 S)).R w' u/\cy M w w'):=by
 refine xd [] (N:=86) (id:=10) (ze:=a2 [(1,dO 1 lT ts),(4,eR ou (1,j,ib)),(7,eR xb (W,ak))]) (l2:=[(8,k5 (hY t 0 S)),(9,sT)]) (ops:=dw f27 10) (S:=⟨8,λ_=>false,λ_=>true,[]⟩) (dF:=pX (hY t 0 S)) nJ mixed func27 xf UY E r (iz ⟨PJ,PJ,PJ,PJ⟩) (iz ⟨PJ,PJ,PJ,PJ⟩) ⟨PJ,PJ,PJ⟩ trivial AJ AJ AJ (λa W hd hk=>auk hd hk) AJ Y Y Y func37 Ah Y Y Y (by
  rw[fk (dw f27 10)];exact hq Y (Ke Y Y)<|hq Y JU<|hq Y (Mm Y Y)<|hq Y Jp<|hq Y (ee Y Y Y B AX)<|hq Y (atG Y Y)<|hq Y (atI Y Y)<|hq Y (lF Y Y AX)<|hg Y (λa M w Shun l hk L=>by
   obtain⟨u1,g,r1⟩:=hk.has 75 (mg W ak) Y;obtain⟨u2,b,_,rfl,c,rfl,d⟩:=hk.has 82 (UF _ (Oe t)) Y;cases r1;rw[show(#[Operand.tmp 75,.tmp 82].map a.eval)=#[.agg #[.I W,.I ak],.iface 112 (.agg #[c])]from by simp[d_ g,d_ b]];have hv:ar (bQ M) c c:=by
    have:=L.get _ _ _ b b;cases this with
    |iface _ k=>cases k with
     |agg _ hg=>exact hg 0 _ _ Y Y
   intro n h hn m f1 a1 p z r1 s cs1 hc P;exact ath l.cl l.Cq d hv h0 f v A o C hS hJ cX n h hn m f1 a1 p z r1 s cs1 hc λu M' w' q h K J I H F⟨x,e,Q,D,y⟩=>P u M' w' q h K J I H F ⟨⟨x,e,Q,D⟩,cy.Fo y⟩)<|hq Y (UI Y Y)<|hq Y (UJ Y Y)<|hq Y Jq<|hq Y Jq<|rfl) Y ⟨Y,Y,PJ⟩ λa W hk=>?_
 obtain⟨u1,g,r1⟩:=hk.has 8 (k5 (hY t 0 S)) Y;obtain⟨u2,b,d⟩:=hk.has 9 sT Y;cases d;refine⟨.tuple #[u1,.N],?_,⟨_,Y,r1⟩⟩;rw[(IV AJ _ _).1];simp[wt,uK,results27,vdf,g,b]
def UZ(full:List aZ):bb:=⟨λw v=>∃rs,Up full rs/\(k5 rs).R w v,λ_ _ _ hb⟨rs,h,h'⟩=>⟨rs,h,(k5 rs).fZ _ _ _ hb h'⟩,λ_=>True,λn _ ρ w w' v v' hc hv⟨rs,h,h'⟩=>⟨rs,h,(k5 rs).ic n trivial _ _ _ _ _ hc hv h'⟩⟩
def GO(full:List aZ):bb:=⟨λw v=>∃rs,Up full rs/\(pX rs).R w v,λ_ _ _ hb⟨rs,h,h'⟩=>⟨rs,h,(pX rs).fZ _ _ _ hb h'⟩,λ_=>True,λn _ ρ w w' v v' hc hv⟨rs,h,h'⟩=>⟨rs,h,(pX rs).ic n trivial _ _ _ _ _ hc hv h'⟩⟩
section
variable{N:Nat}{K:bL}{o:Oper}{x:uar}{full:List aZ}
def aul(a:o.op=.extract x 0)(b:bh K x (GO full)):bF (ae prog true) N K o (UZ full):=eb b λev w h=>by obtain⟨rs,c,v,e,h⟩:=h;refine⟨v,w,?_,⟨rs,c,h⟩,vaa _ _⟩;clear h;cases o;simp only at a;subst a;go_simp
def aum(a:o.op=.extract x 1)(b:bh K x (GO full)):bF (ae prog true) N K o sT:=eb b λev w h=>by obtain⟨rs,c,v,e,h⟩:=h;refine⟨.N,w,?_,Y,vaa _ _⟩;clear h;cases o;simp only at a;subst a;go_simp
end
def aun{ib:Int×Int×List Int×List Int}{D:List (List aZ)}{x y:Int}{a:Act}{w:aS}(hd:a.defers=[])(hk:af 86 (a2 [(0,qJ (4,ib)),(2,dO 1 qI D),(3,mg x y)]) a w):
 bI (ae prog true) [.code (Km f27)] (.code (.region 7 (dw f27 7) true):: .code .ret::[.inBlock 0,.code (Ok f27)]) (λa1 w1=>a1.defers=[]/\af 86 (a2 [(2,dO 1 qI D),(4,eR ou (4,ib)),(7,eR xb (x,y))]) a1 w1/\cJ w w1) a w:=by
 unfold Km;refine bm ?_;rw[fk (dw f27 0)];refine cD hk (aq Y (Mu Y Y)<|aq Y (UG Y Y)<|aq Y (df (F:=sT) Y Jd)<|aq Y (df (F:=sT) Y Jd)<|rfl) λa1 w1 i d1 b1=>bm (bm ?_);rw[fk (dw f27 1)];refine cD i (aq Y (Mn Y Y)<|aq Y Jp<|rfl) λv r h m o=>ln (bm ?_);rw[fk (dw f27 2)];refine cD h J2 λu q c l n=>fj (t:=false) (D9 c Y) (bm ?_);rw[fk (dw f27 4)];refine cD c J2 λz p b k a8=>fj (t:=false) (D9 b Y) (bm ?_);rw[fk (dw f27 6)];refine cD b J2 λs er g j bt=>fj (t:=true) (D9 g Y) ?_;have f:=b1.trans (o.mono b1.size);have e:=f.trans (n.mono f.size);have d:=e.trans (a8.mono e.size);exact bm (kf ⟨j.trans (k.trans (l.trans (m.trans (d1.trans hd)))),g.aU ⟨Y,Y,Y,PJ⟩,d.trans (bt.mono d.size)⟩)
def auo{Post:uab}{M:dh}{w:aS}{args:dp}{aD on:uaa}{D:List (List aZ)}{rs pY:List aZ}{i j ak W:Nat}(P:aJ (bQ M) args args)(z:af 86 (a2 [(0,qJ (4,i,j,aD.map Int.ofNat,on.map Int.ofNat)),(2,dO 1 qI D),(3,mg W ak)]) ⟨args++Array.replicate (86-args.size) undef,[]⟩ w)(hi:D[i]?=some rs)(H:D[j]?=some pY)(K:∀r∈pY,∀k∈on,k<r.2.length)(J:on.length<=4)(ok:JD aD (ma on pY) rs)(B:0<ak)(F:ak<=64)(s:0<W)(I:W<=16)(hS:rs.length<=300)(RI:pY.length<=300):
 gi O prog Post 27 args M w 1 (λu _ w'=>(GO (eN aD (ma on pY) rs 0 rs.length)).R w' u/\cy M w w'):=by
 refine xd [.inBlock 0,.code (Ok f27)] (N:=86) (id:=7) (ze:=a2 [(2,dO 1 qI D),(4,eR ou (4,i,j,aD.map Int.ofNat,on.map Int.ofNat)),(7,eR xb (W,ak))]) (l2:=[(8,UZ (eN aD (ma on pY) rs 0 rs.length)),(9,sT)]) (ops:=dw f27 7) (S:=⟨14,λ_=>false,λ_=>true,[]⟩) (dF:=GO (eN aD (ma on pY) rs 0 rs.length)) nJ mixed func27 xf UY P z (iz ⟨PJ,PJ,PJ,PJ⟩) (iz ⟨PJ,PJ,PJ,PJ⟩) ⟨PJ,PJ,PJ⟩ trivial AJ AJ AJ (λa W hd hk=>aun hd hk) AJ rfl rfl rfl func37 Ah rfl rfl rfl (by
  rw[fk (dw f27 7)];exact hq rfl (Ke rfl rfl)<|hq rfl (UH rfl rfl)<|hq rfl JU<|hq rfl (Mm rfl rfl)<|hq rfl Jp<|hq rfl (ee rfl rfl rfl hi AX)<|hq rfl (ck rfl rfl (UL _) AX)<|hq rfl JU<|hq rfl (atF rfl rfl)<|hq rfl Jp<|hq rfl (ee rfl rfl rfl H AX)<|hq rfl (ck rfl rfl (UL _) AX)<|hq rfl (atH rfl rfl rfl rfl AP K J)<|hq rfl (lF rfl rfl AX)<|hg rfl (λa M w Shun p hk X=>by
   obtain⟨u1,h,r1⟩:=hk.has 46 (mg W ak) rfl;obtain⟨u2,b,_,rfl,c,g,m,rfl,d,o,BL⟩:=hk.has 59 (UF _ (MF aD (ma on pY) rs)) rfl;cases r1;rw[show(#[Operand.tmp 46,.tmp 59].map a.eval)=#[.agg #[.I W,.I ak],.iface 108 (.agg #[c,g,.map (some m)])]from by simp[d_ h,d_ b]];have hv:ar (bQ M) c c/\ar (bQ M) g g/\ar (bQ M) (.map (some m)) (.map (some m)):=by
    have:=X.get _ _ _ b b;cases this with
    |iface _ k=>cases k with
     |agg _ hg=>exact⟨hg 0 _ _ rfl rfl,hg 1 _ _ rfl rfl,hg 2 _ _ rfl rfl⟩
   intro n l hn q f1 a1 v E r1 A cs1 hc Y;exact atj ok p.cl p.Cq d o.1 o.2 BL hv.1 hv.2.1 hv.2.2 B F s I hS n l hn q f1 a1 v E r1 A cs1 hc λu M' w' y l V U T R Q⟨x,f,aL,e,Z,L,C⟩=>Y u M' w' y l V U T R Q ⟨⟨f,aL,x,e,Z,L⟩,cy.Fo C⟩)<|hq rfl (aul rfl rfl)<|hq rfl (aum rfl rfl)<|hq rfl Jq<|hq rfl Jq<|rfl) rfl ⟨rfl,rfl,PJ⟩ λa W hk=>?_
 obtain⟨u1,h,f,t,r1⟩:=hk.has 8 (UZ (eN aD (ma on pY) rs 0 rs.length)) rfl;obtain⟨u2,b,d⟩:=hk.has 9 sT rfl;cases d;refine⟨.tuple #[u1,.N],?_,⟨f,t,_,rfl,r1⟩⟩;rw[(IV AJ _ _).1];simp[wt,uK,results27,vdf,h,b]
end
end a3
namespace cq
open RowKit ax a3
variable{w w0:aS}{bD bs cx dc kc no:Nat}{ts:List (List aG)}{cF:List (List (Int×Int))}
section
attribute [local go_sem ↓] Go.wp_at_zero Go.wp_at_succ
def xt(k:Nat)(w:aS):Calls (ae prog true) 36 #[.agg (kx 1 (k:Int) 0 none none 0 0 0)] w λe w'=>∃v,e=.returned v/\dP w' v []/\fv 3 w' v/\cJ w w':=by
 unfold kx;go_enter (bw (upd:=true) func36 AJ),ntmps36
 go_wp2
 go_ret
 exact⟨_,Y,aX.nil _ _ _,λ_ _ _ _ e=>by simp at e,(vaa _ _).alloc JT _⟩
def auC(ka a:uan)(kc cx:Nat)(w:aS):Calls (ae prog true) 36 #[.agg (kx 4 0 1 ka a 1 kc cx)] w λe w'=>∃v,e=.returned v/\dP w' v [0,1]/\fv 3 w' v/\cJ w w':=by
 unfold kx;go_enter (bw (upd:=true) func36 AJ),ntmps36
 go_wp2
 go_ret
 have c8:=ai.new (w.alloc (.cells #[.I 4,.I 0,.I 1,.N,.slice ka 1 kc,.slice a 1 cx,.N] 34)) #[.I 0,.I 1] 3;simp at c8;exact⟨_,Y,dP.box c8 [0,1] 2 Ad AA,fv.box c8 _ _ _,((vaa _ _).alloc JT _).alloc Ad _⟩
def U4{i N:Nat}{op cC b0:Int}{ka fX:uan}{aD:Nat}{a d f:Value}{ns:List oE}{aT:ubr}{vals:uad}(h:Own w0 w bs a (.S dc no N bD) d f ts ns cF aT vals)(hi:i<N)(xe:N<=3)(t:cF.length<=20/\aT.length<=20)(hn:vG w0 dc (no+i*7) op cC b0 ka fX aD kc cx){l:uac}{ch:uay}(M:∀x∈ch,∃q:Nat,x=(q:Int)/\q<aT.length)(aFo:ch.length<=2)(L:Calls (ae prog true) 34 #[.P bs 0,.I i] w λe w'=>e=.returned (.T)/\cJ w w')(n2:∀w',Own w0 w' bs a (.S dc no N bD) d f ts ns cF aT vals->Calls (ae prog true) 35 #[.P bs 0,.agg (kx op cC b0 ka fX aD kc cx)] w' λe w''=>Cb w'' e (some l)/\Below w'.heap.size w' w'')(K:∀w',Calls (ae prog true) 36 #[.agg (kx op cC b0 ka fX aD kc cx)] w' λe w''=>∃v,e=.returned v/\dP w'' v ch/\fv 3 w'' v/\Below w'.heap.size w' w''):
 Calls (ae prog true) 25 #[.P bs 0,.I i] w λe w'=>e=.returned (.I 0)/\∃On Oo Oq,Own w0 w' bs a (.S dc no N bD) On Oo ts ns (cF++[l]) (lj aT ch++[false]) Oq:=by
 have U5:Hid _:=t;have pA:Hid _:=hn;have HC:Hid _:=n2;have o:Hid _:=K;have auD:Hid _:=M;have J:Hid (Own w0 w bs a (.S dc no N bD) d f ts ns cF aT vals):=h;have I:Hid _:=L;have l3:(0:Int)<=(i:Int):=AP;have j7:(i:Int)<(N:Int):=AP;clear hn n2 K M t h L;go_enter (bw (upd:=true) func25 AJ),ntmps25
 go_wp2_with fail
 refine vco I.out ?_;rintro e w1 ⟨rfl,bY⟩;have O:Hid (Own w0 w1 bs a (.S dc no N bD) d f ts ns cF aT vals):=J.out.call bY;obtain⟨fx,g7,g8⟩:=O.out.box.all;obtain⟨d0,d1,d2,d3,d4,d5,d6⟩:=Ea (AK pA.out (bo.bX O.out.below));clear bY J I;go_wp2_with fail
 refine vco (HC.out _ O.out) ?_;rintro e w2 ⟨⟨v1,rfl,kG,FE⟩,cw⟩;have V:Hid (Own w0 w2 bs a (.S dc no N bD) d f ts ns cF aT vals):=O.out.call cw;have H:Hid (gl w2 v1 l):=kG;have F:Hid (fv 114 w2 v1):=FE;obtain⟨a1,c1,rfl,-⟩:=kG.shape;clear fx g7 g8 d0 d1 d2 d3 d4 d5 d6 cw kG FE O HC;obtain⟨fx,g7,g8⟩:=V.out.box.all;obtain⟨d0,d1,d2,d3,d4,d5,d6⟩:=Ea (AK pA.out (bo.bX V.out.below));go_wp2_with fail
 refine vco (o.out _) ?_;rintro e p ⟨aFp,rfl,j,E,U⟩;obtain⟨ac,cc,rfl,-⟩:=j.shape;have gM:Hid (Own w0 p bs a (.S dc no N bD) d f ts ns cF aT vals):=V.out.call U;have FO:Hid (gl p (.slice a1 l.length c1) l):=aX.mono px (bo.bX U) H.out;have D:Hid (fv 114 p (.slice a1 l.length c1)):=F.out.call U;have C:Hid (dP p (.slice ac ch.length cc) ch):=j;have B:Hid (fv 3 p (.slice ac ch.length cc)):=E;clear fx g7 g8 d0 d1 d2 d3 d4 d5 d6 j E U H F V o;go_wp2_with fail
 go_loopw [36] (λx W=>∃k:Nat,k<=ch.length/\x=.I k/\Own w0 W bs a (.S dc no N bD) d f ts ns cF (lj aT (ch.take k)) vals/\dP W (.slice ac ch.length cc) ch/\fv 3 W (.slice ac ch.length cc)/\gl W (.slice a1 l.length c1) l/\fv 114 W (.slice a1 l.length c1))
  (λx _=>ch.length-(intOf x).toNat)
 case atStart=>exact⟨0,vav _,rfl,by simpa[lj]using gM.out,C.out,B.out,FO.out,D.out⟩
 case round=>
  obtain⟨k,hk,rfl,cM,Ig,P,L0,A⟩:=hrel;have HOW:Hid (Own w0 wr bs a (.S dc no N bD) d f ts ns cF (lj aT (ch.take k)) vals):=cM;have o:Hid (dP wr (.slice ac ch.length cc) ch):=Ig;have pb:Hid (fv 3 wr (.slice ac ch.length cc)):=P;have U6:Hid (gl wr (.slice a1 l.length c1) l):=L0;have Z:Hid (fv 114 wr (.slice a1 l.length c1)):=A;clear cM P L0 A gM C B FO D;by_cases hlt:k<ch.length
  .obtain⟨rx,cx,UK,MZ,XN,auE⟩:=ints_at o.out hlt;simp at MZ;obtain⟨rfl,rfl⟩:=MZ;obtain⟨q,hq,aFq⟩:=auD.out ch[k] AA;have UC:q<(lj aT (ch.take k)).length:=by grind[Zm]
   rw[hq]at auE;have q8:Hid _:=hq;obtain⟨gk,z,rfl,auF,w8⟩:=World.ownsRow.form HOW.out.qs AP;have auG:=HOW.out.take UC;have ga:=HOW.out.box.rules.1 3;have aFr:wr.cell? (.a bs 3)=some (.S gk 0 (lj aT (ch.take k)).length z):=AA;have Az:=Bs HOW.out.qs q (.bool (lj aT (ch.take k))[q]) AA;obtain⟨bd,kP⟩:=am0 HOW.out.qs;have GV:=kP.rules.2;have g:∀{T:g4}{v:Value},fv T wr v->T≠4->∀b off n c,v=.S b off n c->(wr.setCell ⟨gk,q,none⟩ (.T)).heap[b]?=wr.heap[b]?:=by intro T v hv hT b off n c e;subst e;exact vaq _ _ _ _ (hv.ne kP hT)
   have hrel':Own w0 (wr.setCell ⟨gk,q,none⟩ (.T)) bs a (.S dc no N bD) d (.S gk 0 (lj aT (ch.take k)).length z) ts ns cF (lj aT (ch.take (k+1))) vals:=by grind[List.take_succ_eq_append_getElem,am6]
   have auH:Hid _:=hrel';have Fz:Hid (dP (wr.setCell ⟨gk,q,none⟩ (.T)) _ ch):=o.out.qr (g pb.out AX);have auI:Hid (fv 3 (wr.setCell ⟨gk,q,none⟩ (.T)) _):=pb.out.set _ _;have I8:Hid (gl (wr.setCell ⟨gk,q,none⟩ (.T)) _ l):=U6.out.qr (g Z.out AX);have auJ:Hid (fv 114 (wr.setCell ⟨gk,q,none⟩ (.T)) _):=Z.out.set _ _;have Ik:(0:Int)<=(q:Int):=AP;have Il:(q:Int)<((lj aT (ch.take k)).length:Int):=AP;have aFs:=HOW.out.box.lt;clear ga g hrel' auG kP hq Ig;go_wp2_with fail
   go_roundw
   case rel=>exact⟨k+1,AP,by go_num,auH.out,Fz.out,auI.out,I8.out,auJ.out⟩
   case measure=>simp[intOf];omega
  .have Ij:ch.take k=ch:=AA;have m:Hid (Own w0 wr bs a (.S dc no N bD) d f ts ns cF (lj aT ch) vals):=AA;clear Ij HOW o pb Ig;have cB:=m.out.box;obtain⟨P,LM,Bv⟩:=cB.all;clear cB;have R:Hid _:=MV (ai.new wr #[.slice a1 l.length c1] 78);have S:Hid (∀u∈([.slice a1 l.length c1]:uad),u.oneCell'=true):=by intro u s;simp at s;subst s;rfl
   have Q:Hid _:=m.out.rq.alloc (.cells #[.slice a1 l.length c1] 78);have Y:Hid ((wr.alloc (.cells #[.slice a1 l.length c1] 78)).heap.size=wr.heap.size+1):=BK;have X:Hid (w0.heap.size<=(wr.alloc (.cells #[.slice a1 l.length c1] 78)).heap.size):=by have:=m.out.below.size;grind[Hid]
   go_upto_region 12 with(at_builtin;refine LJ ai6 _ BJ _ _ BJ w0.heap.size d cF.length vals BJ Q.out wr.heap.size 1 1 _ BJ rfl R.out S.out AP (by have:=U5.out;omega) (by have:=U5.out;omega) X.out (wr.heap.size+1) Y.out ?_;intro eP U7 w4 y U8 auK xr;obtain⟨U9,auL,lW⟩:=(m.out.am4 U8).all)
   have r:Hid (Own w0 (w4.setCell ⟨bs,2,none⟩ (.S eP 0 (cF.length+1) U7)) bs a (.S dc no N bD) (.S eP 0 (cF.length+1) U7) f ts ns (cF++[l]) (lj aT ch) (vals++[.slice a1 l.length c1])):=m.out.am1 U6.out Z.out (by have:=U5.out;omega) y U8;clear y U8 auK xr U9 auL lW R S Q Y X U6 Z m P LM Bv;generalize w4.setCell ⟨bs,2,none⟩ (.S eP 0 (cF.length+1) U7)=er at *;obtain⟨P,LM,Bv⟩:=r.out.box.all;have zL:(lj aT ch).length=aT.length:=Zm _ _;have U_:Hid ((lj aT ch).length<=20):=by grind[Hid]
   clear zL;have R:Hid _:=MV (ai.new er #[.F] 4);have S:Hid (∀u∈([.F]:uad),u.oneCell'=true):=by intro u s;simp at s;subst s;rfl
   have Q:Hid _:=r.out.qs.alloc (.cells #[.F] 4);have Y:Hid ((er.alloc (.cells #[.F] 4)).heap.size=er.heap.size+1):=BK;have X:Hid (w0.heap.size<=(er.alloc (.cells #[.F] 4)).heap.size):=by have:=r.out.below.size;grind[Hid]
   go_wp2_with (at_builtin;refine LJ H5 _ BJ _ _ BJ w0.heap.size f (lj aT ch).length ((lj aT ch).map .bool) BJ Q.out er.heap.size 1 1 _ BJ rfl R.out S.out AP (by have:=U_.out;omega) (by have:=U_.out;omega) X.out (er.heap.size+1) Y.out ?_;intro gW aFt jf JB F_ aFu xk;obtain⟨T2,aFv,agR⟩:=(r.out.am5 F_).all)
   have auM:=r.out.am3 (by have:=U_.out;omega) JB F_;go_ret
   exact⟨rfl,_,_,_,auM⟩
end
section
attribute [local go_sem ↓] Go.wp_at_zero Go.wp_at_succ
def qL:Nat->List Bool
 |0=>[]
 |1=>[false]
 |2=>[false,false]
 | _=>[true,true,false]
def xj{a f d e:Value}{ns:List oE}{aT:ubr}{vals:uad}(h:Own w0 w bs a f d e ts ns cF aT vals)(i:0<aT.length):∃g c,e=.S g 0 aT.length c/\(∀k b,aT[k]?=some b->w.cell? (.a g k)=some (.bool b))/\w.cell? (.a bs 3)=some (.S g 0 aT.length c)/\w.cell? (.a bs 1)=some f/\w.cell? (.a bs 0)=some a/\w.cell? (.a bs 2)=some d:=by obtain⟨g,c,rfl,-,-⟩:=World.ownsRow.form h.qs i;have j:=h.box.rules.1;exact⟨g,c,Y,λk b l=>Bs h.qs k (.bool b) AA,AA,AA,AA,AA⟩
def auN(bs g kc:Nat)(a:uan)(bD:Nat)(w:aS)(c:w.cell? (.a bs 1)=some (.slice a 3 bD))(b:w.cell? (.a bs 3)=some (.S g 0 3 kc))(d:w.cell? (.a g 0)=some (.T))(g1:w.cell? (.a g 1)=some (.T)):
 Calls (ae prog true) 26 #[.P bs 0] w λe w'=>e=.returned (.tuple #[.I 0,.F])/\w'=w:=by
 go_enter (bw (upd:=true) func26 AJ),ntmps26
 go_wp2
 go_loopw [17] (λx W=>W=w/\(x=.I 0\/x=.I 1\/x=.I 2)) (λx _=>2-(intOf x).toNat)
 case atStart=>grind
 case round=>
  obtain⟨rfl,rfl|rfl|rfl⟩:=hrel
  .go_wp2
   simp_all[intOf]
  .go_wp2
   simp_all[intOf]
  .go_wp2
   go_ret2
   simp_all
end
variable{g9 hZ kb ob:Nat}
section
attribute [local go_sem ↓] Go.wp_at_zero Go.wp_at_succ
def rS(k:Int):List oE:=[⟨1,0,0,[],[],[],[]⟩,⟨1,0,0,[],[],[],[]⟩,⟨4,0,1,[],[k],[k],[]⟩]
def Ow{b o c:Nat}{k:Int}(h:w.cell? (.a b o)=some (.I k)):dP w (.S b o 1 c) [k]:=by refine⟨_,_,Y,Ad,λi hi=>⟨b,o,Y,?_⟩⟩;obtain rfl:i=0:=IL;simpa[qb]using h
structure AL(w:aS)(dc no:Nat)(k:Int)(kb g9 ob hZ kc cx:Nat):Prop where
 n0:vG w dc no 1 0 0 none none 0 0 0
 n1:vG w dc (no+7) 1 0 0 none none 0 0 0
 ey:vG w dc (no+14) 4 0 1 (some (.a kb g9)) (some (.a ob hZ)) 1 kc cx
 key:w.cell? (.a kb g9)=some (.I k)
 hV:w.cell? (.a ob hZ)=some (.I k)
def AL.keeps{w':aS}{k:Int}(h:AL w dc no k kb g9 ob hZ kc cx)(hk:bo w w'):AL w' dc no k kb g9 ob hZ kc cx:=⟨AK h.n0 hk,AK h.n1 hk,AK h.ey hk,hk _ _ _ h.key,hk _ _ _ h.hV⟩
def auP{k:Int}(h:AL w dc no k kb g9 ob hZ kc cx):QQ w (.S dc no 3 bD) (rS k):=by
 refine⟨_,_,Y,by simp[rS],λi hi=>⟨dc,no,Y,?_⟩⟩;obtain rfl|rfl|rfl:i=0\/i=1\/i=2:=by simp[rS]at hi;omega
 .obtain⟨f,d1,e,d,c,b,a⟩:=Ea h.n0;exact⟨_,_,_,_,by simpa[rS]using f,by simpa[rS]using d1,by simpa[rS]using e,by simpa[rS]using d,by simpa[rS]using c,by simpa[rS]using b,by simpa[rS]using a,⟨aX.nil _ _ _,aX.nil _ _ _,aX.nil _ _ _,aX.nil _ _ _⟩⟩
 .obtain⟨f,d1,e,d,c,b,a⟩:=Ea h.n1;exact⟨_,_,_,_,f,d1,e,d,c,b,a,⟨aX.nil _ _ _,aX.nil _ _ _,aX.nil _ _ _,aX.nil _ _ _⟩⟩
 .obtain⟨f,d1,e,d,c,b,a⟩:=Ea h.ey;exact⟨_,_,_,_,f,d1,e,d,c,b,a,⟨aX.nil _ _ _,Ow h.key,Ow h.hV,aX.nil _ _ _⟩⟩
def auQ(a:List aG)(k:Int)(ty:ubl)(iB f n dc no bD kb g9 ob hZ kc cx:Nat)(w:aS)(Ox:Bp w (.S iB f 1 n) [a])(zA:mO a=true)(T:AL w dc no k kb g9 ob hZ kc cx)(X:r8 (ek a) k=(ty,true))(V:r8 (ek a) k=(ty,true))(U:(ek a).length+(ek a).length<=8):
 Calls (ae prog true) 19 #[.S iB f 1 n,.S dc no 3 bD] w λe w'=>∃g c v,e=.returned (.tuple #[.S g 0 3 c,.I 0,.I 0])/\w'.cell? (.a g 2)=some v/\gl w' v (ek a++ek a)/\cJ w w':=by
 have R:a.length<=8:=by simp_all[mO]
 have hok:told (Bt (xF [a]) [a].length)=(0,false):=by
  rw[XI (λj hj=>by
   grind[xF])]
  rfl
 have H:Hid (Bp w (.S iB f 1 n) [a]):=Ox;have F:Hid (AL w dc no k kb g9 ob hZ kc cx):=T;have I:Hid _:=And.intro X (And.intro V U);clear T Ox zA X V U;go_enter (bw (upd:=true) func19 AJ),ntmps19
 go_wp2_with fail
 refine(ajn [a] _ _ H.out).mono ?_;rintro e w1 ⟨rfl,L⟩;rw[hok];have Z:Hid (cJ w w1):=L;have E:=bo.bX L;have u:Hid (Own w1 (w1.alloc (.cells #[.S iB f 1 n,.S dc no 3 bD,.N,.N] 83)) w1.heap.size (.S iB f 1 n) (.S dc no 3 bD) (.N) (.N) [a] (rS k) [] [] []):=
  ⟨(vaa _ _).alloc JT _,aX.mono HX E H.out,aX.mono QP E (auP F.out),vac _,ai.new _ _ _,vbp _ _ _ _,vbp _ _ _ _,Ad,Ad,AA⟩
 have m:Hid (AL w1 dc no k kb g9 ob hZ kc cx):=F.out.keeps E;clear L E H F;go_wp2_with fail
 go_loopw [27] (λx W=>∃(i:Nat)(D K:Value)(vals:uad),i<=3/\x=.I (i:Int)/\Own w1 W w1.heap.size (.S iB f 1 n) (.S dc no 3 bD) D K [a] (rS k) ([ek a,ek a,ek a++ek a].take i) (qL i) vals) (λx _=>3-(intOf x).toNat)
 case atStart=>exact⟨0,_,_,_,vav _,rfl,u.out⟩
 case round=>
  clear u;obtain⟨i,D,K,vals,hi,rfl,J⟩:=hrel;have d:Hid (Own w1 wr w1.heap.size (.S iB f 1 n) (.S dc no 3 bD) D K [a] (rS k) ([ek a,ek a,ek a++ek a].take i) (qL i) vals):=J;have s:=J.box.rules.1;clear J;by_cases o:i<3
  .have j7:(i:Int)<(3:Int):=by omega
   have t:Calls (ae prog true) 25 #[.P w1.heap.size 0,.I i] wr λe w'=>e=.returned (.I 0)/\∃On Oo Oq,Own w1 w' w1.heap.size (.S iB f 1 n) (.S dc no 3 bD) On Oo [a] (rS k) ([ek a,ek a,ek a++ek a].take (i+1)) (qL (i+1)) Oq:=by
    obtain rfl|rfl|rfl:i=0\/i=1\/i=2:=AP
    .refine(U4 (i:=0) (l:=ek a) (ch:=[]) d.out o AP Fc (by simpa using m.out.n0) Ad Ad (xu (k:=0) AX _ _ _ no _ _ _ (by rw[s];rfl) (by rw[s];rfl) (AK (by simpa using m.out.n0) (bo.bX d.out.below))) (λw' b=>?_) (λw'=>xt 0 w')).mono ?_
     .exact Zi w1.heap.size 0 0 _ [a] none none none none 0 0 0 0 0 0 0 0 w' IK (aX.mono HX (bo.bX b.below) b.x4) Ad R
     .rintro e w' ⟨rfl,h⟩;exact⟨rfl,by simpa[qL,lj]using h⟩
    .refine(U4 (i:=1) (l:=ek a) (ch:=[]) d.out o AP Fc (by simpa using m.out.n1) Ad Ad (xu (k:=1) AX _ _ _ no _ _ _ (by rw[s];rfl) (by rw[s];rfl) (AK (by simpa using m.out.n1) (bo.bX d.out.below))) (λw' b=>?_) (λw'=>xt 0 w')).mono ?_
     .exact Zi w1.heap.size 0 0 _ [a] none none none none 0 0 0 0 0 0 0 0 w' IK (aX.mono HX (bo.bX b.below) b.x4) Ad R
     .rintro e w' ⟨rfl,h⟩;exact⟨rfl,by simpa[qL,lj]using h⟩
    .obtain⟨g,c,rfl,p,q,C,-,Q⟩:=xj d.out Fc;refine(U4 (i:=2) (l:=ek a++ek a) (ch:=[0,1]) d.out o AP Fc (by simpa using m.out.ey) (λy S=>?_) Ad (auB _ g c dc no bD kc cx _ _ _ (by simpa[qL]using q) (p 0 false rfl) (p 1 false rfl) C (AK m.out.ey (bo.bX d.out.below))) (λw' b=>?_) (λw'=>auC _ _ kc cx w')).mono ?_
     .simp at S;rcases S with rfl|rfl
      .exact⟨0,rfl,Fc⟩
      .exact⟨1,rfl,Fc⟩
     .have B:=bo.bX b.below;exact amV w1.heap.size k ty kb g9 ob hZ kc cx D [ek a,ek a] w' (B _ _ _ m.out.key) (B _ _ _ m.out.hV) IK b.amW.types Ad I.out.1 I.out.2.1 I.out.2.2
     .rintro e w' ⟨rfl,h⟩;exact⟨rfl,by simpa[qL,lj]using h⟩
   have A:Hid _:=t;clear t s;go_wp2_with fail
   refine vco A.out ?_;rintro e w2 ⟨rfl,On,Oo,Oq,Y⟩;have gL:Hid _:=Y;clear Y d A;go_wp2_with fail
   go_roundw
   case rel=>exact⟨i+1,_,_,_,AP,Ad,gL.out⟩
   case measure=>simp[intOf];omega
  .obtain rfl:i=3:=by omega
   obtain⟨g,c,rfl,p,q,C,-,Q⟩:=xj d.out Fc;obtain⟨z,O,rfl,-,-⟩:=World.ownsRow.form d.out.rq Ad;obtain⟨v2,P,r,-⟩:=d.out.each 2 Ad;have N:Hid _:=Bs d.out.rq 2 v2 P;have MQ:Hid (gl wr v2 (ek a++ek a)):=r;have M:Hid _:=auN _ g c _ _ _ C (by simpa[qL]using q) (p 0 true rfl) (p 1 true rfl);simp only[vdo,veo,vdm,List.length_nil,vbm,Nat.reduceAdd]at Q q;clear p C q P r;go_wp2_with fail
   refine vco M.out ?_;rintro e w2 ⟨rfl,rfl⟩;go_wp2_with fail
   refine vbu (v:=.tuple #[.S z 0 3 O,.I 0,.I 0]) (by simp[results,results19,go_sem]) rfl ⟨z,O,v2,rfl,N.out,?_,Below.step d.out.below Z.out Z.out.size⟩;exact MQ.out
