import Derived.Test.YtncomcmfgmojkaaGreatPAT
set_option linter.all false
set_option maxRecDepth 100000
set_option maxHeartbeats 16000000
namespace Go.Proofs.YtncomcmfgmojkaaGreat
open Go.Proofs.Tryz
namespace aG
open Conc ConcM RowKit av bn cz c5
variable{P:cg}{f:FuncId}{ats:Array TypeId}
section
variable{O:gW}
def xn{Post:Value->aO->Prop}{M:Nat->Prop}{w:aO}{fn:Func}{body:Code}{args:Array Value}{N id:Nat}{dE rO R:bJ}{ops:Array Oper}{Fr:bp}(ks:List Item)(m:(cU P).Good)(um:P.follows .mixedOrders=true)(j:P.funcs[f]?=some fn)(A:hX P true fn=true)(h:fn.body=some body)(i6:aS (cq M) args args)(h0:af N dE ⟨args++Array.replicate (fn.ntmps-args.size) undef,[]⟩ w)(qs:∀s F,dE s=some F->F.ok w.heap.size)(T:∀s F,rO s=some F->F.ok w.heap.size){l2:List (Nat×bp)}(t:IS w.heap.size l2)(UB:Fr.ok w.heap.size)(hi:[Item.code body].all (fX P)=true)(lL:(Item.code (.region id ops true):: .code .ret::ks).all (fX P)=true)(y:(Item.inRegion ops []:: .code .ret::ks).all (fX P)=true)(JE:∀a W,a.defers=[]->af N dE a W->bK (ae P true) [.code body] (.code (.region id ops true):: .code .ret::ks) (λa1 w1=>a1.defers=[]/\af N rO a1 w1/\Below W.heap.size W w1) a W){S:nu}(gJ:JB ops S=true)(hK:pB rO ops.toList=true){g:Oper}{d:Nat}{gf:FuncId}{p:Func}{gV:Code}{x:Array Operand}(oO:ops[S.g]?=some g)(i:g.op=.call {callee:=.value (.func gf),args:=x,argTypes:=ats})(V:P.funcs[gf]?=some p)(lr:(p.name== "runtime.NumGoroutine")=false)(k:p.body=some gV)(fK:g.guard=none){cZ:Tmp}(iG:g.dst=some cZ){eu:bp}(hG:sx (ae P true) N w.heap.size ops S rO (λ_=>none) eu (λE=>∀a M w Shun,Home O P M Shun w->af N E a w->aS (cq M) a.tmps a.tmps->jN O P Post gf (x.map a.eval) M w d (λu _ w'=>eu.R w' u/\ea M w w')) ops.toList 0 (λ_=>none) rO R)(hS:S.jw=[])(E8:z1 R l2)(U:∀a W,af N (aK l2) a W->∃v,(results fn a.tmps).run (ae P true) W=.ok v W/\Fr.R W v):
 jN O P Post f args M w d (λu _ w'=>Fr.R w' u/\ea M w w'):=by
 intro n Shun hn a5 eT aF aD aI aL aH csZ hc cT;have L:kY P f:=FQ j A h;rw[enter_at j h];have H:=Held.start (n0:=w.heap.size) a5 J1 (a:=⟨args++Array.replicate (fn.ntmps-args.size) undef,[]⟩) (i6.append (Gs _ _)) Y;refine MK m L H hi lL (I:=af N dE) (J:=af N rO) (jP _ qs) (jP _ T) h0 (λW C l=>?_) λa' M' w' eD K=>?_
 .intro b cs;obtain⟨a1,w1,⟨q,r,q3⟩,q4⟩:=JE _ W Y l b cs;exact⟨a1,w1,⟨q,r,q3.mono C⟩,q4⟩
 refine NR (Q:=λ_=>none) m um L y T (λ_ _ e=>Dv) gJ hK Hy oO i V lr k fK hn iG hG (.inl ⟨hS,Y⟩) eD K ⟨K.size,λ_ _ e=>Dv⟩ λbC M2 w2 iv DU f8 Z D=>?_;refine ML m j A h D y hc (I:=af N (aK l2)) (gZ:=Fr.R) (jP _ (fj t)) (Fr.j3 _ UB) (f8.aU E8) (λW C l=>?_) λu sz X h1 h2 h3 h4 a4 bP=>?_
 .obtain⟨v,q,r⟩:=U _ W l;exact FP (sg (j1 (SG D.defers q ⟨r,Below.refl _ _⟩)))
 .exact cT u sz X iv DU Z h1 h2 h3 h4 ⟨bP,λb c e z k B=>a4 b c e z ⟨k,(Array.getElem?_eq_some_iff.1 B).1⟩ B⟩
def xg{Post:Value->aO->Prop}{M:Nat->Prop}{w:aO}{fn:Func}{body:Code}{args:Array Value}{N i:Nat}{rest:List Nat}{l0 l1:List (Nat×bp)}{ops:Array Oper}{o:Oper}{ks:List Item}{d:Nat}{g:FuncId}{D:Func}{gV:Code}{L:Array Operand}{h:Tmp}{eu Fr:bp}(T:(cU P).Good)(t:P.funcs[f]?=some fn)(S:hX P true fn=true)(r:fn.body=some body)(i6:aS (cq M) args args)(h0:af N (aK l0) ⟨args++Array.replicate (fn.ntmps-args.size) undef,[]⟩ w)(qs:IS w.heap.size l0)(q:IS w.heap.size l1)(K:eu.ok w.heap.size)(UB:Fr.ok w.heap.size)(hi:[Item.code body].all (fX P)=true)(R:(Item.inRegion ops []::ks).all (fX P)=true)(m:ops[i]?=some o/\o.op=.call {callee:=.value (.func g),args:=L,argTypes:=ats}/\o.guard=none/\o.dst=some h)(Z:h<N)(hg:P.funcs[g]?=some D)(lr:(D.name== "runtime.NumGoroutine")=false)(p:D.body=some gV)(JE:∀a W,a.defers=[]->w.heap.size<=W.heap.size->af N (aK l0) a W->bK (ae P true) [.code body] (.inRegion ops (i::rest)::ks) (λa1 w1=>a1.defers=[]/\af N (aK l1) a1 w1/\Below w.heap.size W w1) a W)(kP:∀a M w Shun,Home O P M Shun w->af N (aK l1) a w->aS (cq M) a.tmps a.tmps->jN O P Post g (L.map a.eval) M w d (λu _ w'=>eu.R w' u/\ea M w w'))(uf:∀a W,a.defers=[]->w.heap.size<=W.heap.size->af N (up (aK l1) h eu) a W->uq (ae P true) fn (.inRegion ops rest::ks) (λv w1=>Fr.R w1 v/\Below w.heap.size W w1) a W):
 jN O P Post f args M w d (λu _ w'=>Fr.R w' u/\ea M w w'):=by
 intro n Shun hn X eT aF aD aI aL aH csZ hc cT;have V:kY P f:=FQ t S r;rw[enter_at t r];have Q:∀l,(Item.inRegion ops l::ks).all (fX P)=true:=λl=>by simpa[fX]using R
 have H:=Held.start (n0:=w.heap.size) X J1 (a:=⟨args++Array.replicate (fn.ntmps-args.size) undef,[]⟩) (i6.append (Gs _ _)) Y;refine MK T V H hi (Q _) (I:=af N (aK l0)) (J:=af N (aK l1)) (jP _ (fj qs)) (jP _ (fj q)) h0 (λW y A=>JE _ W Y y A) λa' M' w' j C=>?_;have hok:∀s F,up (aK l1) h eu s=some F->F.ok w.heap.size:=λs F e=>by
  unfold up at e;split at e
  .cases e;exact K
  .exact fj q s F e
 refine SI m.2.1 hg lr p hn V j R m.1 m.2.2.1 ⟨m.2.2.2,by rw[C.size];exact Z⟩ (I:=af N (aK l1)) (J:=af N (up (aK l1) h eu)) (np:=eu.R) (jP _ (fj q)) C (λk=>kP a' M' (w'.at k) Shun (j.at k).fF (jP _ (fj q) _ _ _ _ _ ((show ea M' w' (w'.at k)from λ_ _ _ _ _ x=>x).lV (n0:=w.heap.size) j.fF) j.all C) j.all) (λu w2 h1 B=>h1.put Z (Below.refl _ _) B) λbC M2 w2 iv DU ur U E=>?_;exact ML T t S r U (Q _) hc (I:=af N (up (aK l1) h eu)) (gZ:=Fr.R) (jP _ hok) (Fr.j3 _ UB) E (λW y A=>uf _ W U.defers y A) λu sz w3 h1 B h3 h4 a4 bP=>cT u sz w3 iv DU ur h1 B h3 h4 ⟨bP,λb c e z p hx=>a4 b c e z ⟨p,X.lt p⟩ hx⟩
end
open bZ bN cM
def wA{N i m r:Nat}{ops:Array Oper}{ks ks':List Item}{Q:Act->aO->Prop}{K K':bJ}{a:Act}{w:aO}(hk:af N K a w)(h:uu P N ops ((ops.toList.drop i).take m) K K')(n:i+m<=ops.size)(k:∀a' w',af N K' a' w'->a'.defers=a.defers->Below w.heap.size w w'->bK P (.inRegion ops (List.range' (i+m) r)::ks) ks' Q a' w'):bK P (.inRegion ops (List.range' i (m+r))::ks) ks' Q a w:=λb cs=>by
 obtain⟨a1,w1,h1,c⟩:=IP (R:=bK P (.inRegion ops (List.range' (i+m) r)::ks) ks' Q) (List.range' (i+m) r) (List.range' i m) a w (by
  have f:((ops.toList.drop i).take m).length=m:=Bg;have:=MP (Q:=jb (bK P (.inRegion ops (List.range' (i+m) r)::ks) ks' Q)) (rest:=[]) h (i:=i) (λj o p=>AA) hk λa' w' h1 c h3=>⟨Y,k a' w' h1 c h3⟩;rw[f,List.append_nil]at this;exact this) b ks cs
 obtain⟨l,d,h3,g⟩:=h1 b cs;have e:List.range' i (m+r)=List.range' i m++List.range' (i+m) r:=by simp[List.range'_append]
 rw[e];exact⟨l,d,h3,c.trans g⟩
def UC(w w':aO):Prop:=∀b o v,v≠ .slice none 0 0->w.cell? ⟨b,o,none⟩=some v->w'.cell? ⟨b,o,none⟩=some v
variable{al:Type}
def UD{w w':aO}{a:Nat}{R:aO->(Nat->Option Value)->al->Prop}{v:Value}{xs:List al}(f:∀x∈xs,∀b o,R w (λj=>w.cell? ⟨b,o+j,none⟩) x->R w' (λj=>w'.cell? ⟨b,o+j,none⟩) x)(h:a8 w a R v xs):a8 w' a R v xs:=by obtain⟨bz,cap,rfl,d,g⟩:=h;refine⟨bz,cap,Y,d,λi hi=>?_⟩;obtain⟨b,off,e,c⟩:=g i hi;exact⟨b,off,e,f _ (List.getElem_mem hi) _ _ c⟩
def xf{w:aO}{a:Nat}{R:aO->(Nat->Option Value)->al->Prop}{v:Value}{xs:List al}(h:a8 w a R v xs)(b:0<xs.length):v≠ .slice none 0 0:=by obtain⟨bz,cap,rfl,-,-⟩:=h;grind
def asG{w:aO}{a:Nat}{R:aO->(Nat->Option Value)->al->Prop}{v:Value}{xs:List al}(h:a8 w a R v xs):v.oneCell'=true:=by obtain⟨bz,cap,rfl,-,-⟩:=h;rfl
def Full(rs:List bB):Prop:=∀r∈rs,0<r.1.length/\0<r.2.length
def xe{w w':aO}(hk:UC w w'){v:Value}{rs:List bB}(f:Full rs)(h:hE w v rs):hE w' v rs:=by refine UD (λx e b o⟨pv,i,h0,h1,a,h3⟩=>?_) h;obtain⟨d,c⟩:=f x e;exact⟨pv,i,hk _ _ _ (xf a d) h0,hk _ _ _ (xf h3 c) h1,UD (λy _ b o h=>hk _ _ _ A_ h) a,UD (λy _ b o⟨h0,h1,a,h3,g⟩=>⟨hk _ _ _ A_ h0,hk _ _ _ A_ h1,hk _ _ _ A_ a,hk _ _ _ A_ h3,g⟩) h3⟩
def yE(n0 N:Nat)(D:List (List bB))(w:aO)(v:Value):Prop:=∃b cs,v=.slice (some ⟨b,0,none⟩) D.length N/\n0<=b/\ag w b cs 71/\cs.size=N/\(∀(i:Nat) rs,D[i]?=some rs->∃u,cs[i]?=some u/\(l5 rs).R w u)/\∀i,D.length<=i->i<N->cs[i]?=some (.slice none 0 0)
def UE(n0:Nat)(w:aO)(v:Value):Prop:=∃b,v=.pointer (some ⟨b,0,none⟩)/\n0<=b/\ag w b #[.int .i64 0,.slice none 0 0] 63
variable{T:TypeId}
section
variable{n0 N:Nat}{D:List (List bB)}
def xb{ρ:Ren}{w w':aO}(e:xH n0 ρ w w'){b c:Nat}(r:ρ.rel b c){cs:Array Value}(h:ag w b cs T):∃c',ag w' c c' T/\c'.size=cs.size/\∀(i:Nat) u,cs[i]?=some u->∃a,c'[i]?=some a/\ay ρ u a:=by obtain⟨c',d,f⟩:=e.types _ _ _ _ _ r h;refine⟨c',d,f,λi u hi=>?_⟩;obtain⟨a,g,j⟩:=e.cells ⟨b,i,none⟩ ⟨c,i,none⟩ u ⟨r,Y,Y⟩ ((h.rules.1 i).trans hi);exact⟨a,((ag.rules d).1 i).symm.trans g,j⟩
def asH:j2 n0 (yE n0 N D):=by
 rintro ρ w w' v p d h ⟨b,cs,rfl,hn,j,hs,h1,l⟩;obtain⟨o,rfl,r⟩:=xK h;obtain⟨c',g,f,key⟩:=xb d r j;refine⟨o,c',Y,d.new _ _ r hn,g,f.trans hs,λi rs hi=>?_,λi h3 k=>?_⟩
 .obtain⟨u,m,n⟩:=h1 i rs hi;obtain⟨e,a,c⟩:=key i u m;exact⟨e,a,(l5 rs).j3 _ trivial _ _ _ _ _ d c n⟩
 .obtain⟨e,a,c⟩:=key i _ (l i h3 k);rw[qv c]at a;exact a
def asI:j2 n0 (UE n0):=by
 rintro ρ w w' v m c g ⟨b,rfl,hn,h⟩;obtain⟨l,rfl,r⟩:=FR g;obtain⟨c',f,e,key⟩:=xb c r h;obtain⟨u0,a,k⟩:=key 0 _ Y;obtain⟨u1,d,j⟩:=key 1 _ Y;rw[js k]at a;rw[qv j]at d;refine⟨l,Y,c.new _ _ r hn,?_⟩;have:c'=#[.int .i64 0,.slice none 0 0]:=by apply Array.ext_getElem?;intro i;match i with|0=>exact a|1=>exact d|i+2=>simp[e]
 exact this▸f
def w_(n0 N:Nat)(D:List (List bB)):bp:=⟨yE n0 N D,λw w' v hb⟨b,cs,e,h1,h2,h3,h4,a4⟩=>⟨b,cs,e,h1,h2.call hb,h3,λi rs hi=>by
 obtain⟨u,bu,bb⟩:=h4 i rs hi
 exact⟨u,bu,(l5 rs).hJ _ _ _ hb bb⟩,a4⟩,λn=>n=n0,λn h=>h▸asH⟩
def Gt(n0:Nat):bp:=⟨UE n0,λw w' v hb⟨b,e,h1,h2⟩=>⟨b,e,h1,h2.call hb⟩,λn=>n=n0,λn h=>h▸asI⟩
def yE.list{w:aO}{v:Value}(h:yE n0 N D w v)(a0:D.length<=1000):(b6 1 tn D).R w v:=by obtain⟨b,cs,rfl,-,a,-,h1,-⟩:=h;refine⟨_,_,Y,As,λi hi=>⟨b,0,Y,?_⟩⟩;obtain⟨u,c,d⟩:=h1 i _ (List.getElem?_eq_getElem hi);exact⟨u,by simp[a.rules.1,c],d⟩
def yE.grow{w:aO}{b:Nat}{cs:Array Value}{rs:List bB}{u:Value}(f:ag w b cs 71)(hn:n0<=b)(hs:cs.size=N)(g:D.length<N)(h1:∀(i:Nat) rs,D[i]?=some rs->∃u,cs[i]?=some u/\(l5 rs).R w u)(m:∀i,D.length<=i->i<N->cs[i]?=some (.slice none 0 0))(d:(l5 rs).R w u)(l:Full rs)(hF:∀x∈D,Full x):UC w (w.setCell ⟨b,D.length,none⟩ u)/\yE n0 N (D++[rs]) (w.setCell ⟨b,D.length,none⟩ u) (.slice (some ⟨b,0,none⟩) (D.length+1) N):=by
 have hk:UC w (w.setCell ⟨b,D.length,none⟩ u):=λn o v k a=>by
  by_cases e:(⟨b,D.length,none⟩:Addr)=⟨n,o,none⟩
  .cases e;rw[f.rules.1,m _ J1 g]at a;cases a;exact absurd Y k
  .rw[World.cell?_setCell_other (h:=e)];exact a
 refine⟨hk,b,_,A_,hn,f.set _ _,by simpa using hs,λi r hi=>?_,λi h3 p=>?_⟩
 .by_cases e:i=D.length
  .subst e;simp at hi;subst hi;exact⟨u,by simp[hs,g],xe hk l d.1,d.2⟩
  .have c:D[i]?=some r:=by grind
   obtain⟨v,q,j⟩:=h1 i r c;exact⟨v,AA,xe hk (hF r (List.mem_of_getElem? c)) j.1,j.2⟩
 .simp at h3;grind
end
def w6{w:aO}{b o:Nat}{c:Array Value}{e:TypeId}{fr:Nat×Nat}{v:Value}(h:w.heap[b]?=some (.cells c e fr))(d:c[o]?=some v):w.setCell ⟨b,o,none⟩ v=w:=by
 have a:(w.setCell ⟨b,o,none⟩ v).heap=w.heap:=by
  apply Array.ext_getElem?;intro i;simp only[World.setCell,Array.getElem?_modify];by_cases hi:b=i
  .subst hi;simp only[if_true,h,Option.map_some];have f:o<c.size:=by grind
   have:c.setIfInBounds o v=c:=by grind
   grind
  grind
 show({w with heap:=(w.setCell ⟨b,o,none⟩ v).heap}:aO)=w;rw[a]
def ry:Value:=.agg #[.int .i64 0,.slice none 0 0]
def UF{ρ:Ren}{u:Value}(h:ay ρ ry u):u=ry:=by
 obtain⟨b,rfl,k⟩:=tg h;cases k with
 |cons h1 k=>cases k with
  |cons a k=>cases k;rw[js h1,qv a];rfl
def DV(rs:List bB)(w:aO)(u:Value):Prop:=∃aT,u=.tuple #[aT,.int .i64 0,ry]/\hE w aT rs
def wI{n0:Nat}(rs:List bB):j2 n0 (DV rs):=by
 rintro ρ w w' v d b a ⟨aT,rfl,h⟩;obtain⟨e,rfl,k⟩:=IR a;cases k with
 |cons h1 k=>cases k with
  |cons c k=>cases k with
   |cons h3 k=>cases k;exact⟨_,by rw[js c,UF h3],av.a8.carry rj b.cells h1 h⟩
def UG(F:Func):Code:=.seq (.block 2 (.seq (.region 6 (aq F 6) false) (.cond (.tmp 32) (.seq (.region 7 (aq F 7) false) .ret) (.seq (.region 8 (aq F 8) false) (.cond (.tmp 39) (.seq (.region 9 (aq F 9) false) .ret) .skip))))) (.region 10 (aq F 10) false)
def Gu(F:Func):Code:=.seq (.region 3 (aq F 3) false) (.seq (.cond (.tmp 20) .skip (.exit 0)) (.seq (.block 1 (.seq (.region 4 (aq F 4) false) (.seq (.region 5 (aq F 5) false) (UG F)))) (.region 11 (aq F 11) false)))
def NL(F:Func):Code:=.seq (.region 12 (aq F 12) false) .ret
def UH(F:Func):Code:=.seq (.region 0 (aq F 0) false) (.seq (.region 1 (aq F 1) false) (.seq (.seq (.region 2 (aq F 2) false) (.block 0 (.loop (Gu F)))) (NL F)))
def yF(F:Func):List Item:=[.code (Gu F),.inLoop (Gu F),.inBlock 0,.code (NL F)]
def NM(F:Func):List Item:=[.code (UG F),.inBlock 1,.code (.region 11 (aq F 11) false),.inLoop (Gu F),.inBlock 0,.code (NL F)]
theorem NN:f22.body=some (UH f22):=by kernel_rfl
section
variable{N:Nat}{K:bJ}{o:Oper}{F:bp}{x y:Operand}
def asJ{s B:Nat}(b:o.op=.alloc 63)(hs:K s=some (rp B F)):bG (ae prog true) N K o (Gt B):=λa w hk=>by obtain⟨v,-,c,-⟩:=hk.has s _ hs;refine .inl ⟨.pointer (some ⟨w.heap.size,0,none⟩),w.alloc (.cells #[.int .i64 0,.slice none 0 0] 63),?_,⟨_,Y,c,ag.new _ _ _⟩,(Below.refl _ w).alloc J1 _⟩;generalize a.eval=ev;cases o;simp only at b;subst b;go_simp
def asK{s B n:Nat}(f:o.op=.makeSlice 91 x y)(e:bl K x (bt 0))(d:bl K y (bt n))(hn:n<=1000)(hs:K s=some (rp B F)):bG (ae prog true) N K o (w_ B n []):=λa w hk=>by obtain⟨v,-,g,-⟩:=hk.has s _ hs;have c:a.eval x=.int .i64 0:=hk.ev e;have b:a.eval y=.int .i64 n:=hk.ev d;refine .inl ⟨.slice (some ⟨w.heap.size,0,none⟩) 0 n,w.alloc (.cells (Array.replicate n (.slice none 0 0)) 71),?_,⟨_,_,Y,g,ag.new _ _ _,A_,λi rs h=>by simp at h,λi _ h=>by simp[h]⟩,(Below.refl _ w).alloc J1 _⟩;obtain⟨i,h1,k,h3,j⟩:=info_parts (show(prog.info? 71).map (λi=>(i.zero,i.size,i.bytes))=some (some (.slice none 0 0),1,24)from BA);have:=run_make (P:=ae prog true) w 91 71 i _ Br h1 k .i64 .i64 0 n Ae As (by rw[j];simp;omega) As;generalize a.eval=ev at c b⊢;simp[execOp,f,c,b,this,h3,madeCells,go_sem];rw[show(λx=>[Value.slice none 0 0][x % 1]?.getD default)=λ_:Nat=>Value.slice none 0 0 from funext λx=>by rw[Nat.mod_one];rfl,show Array.map (λ_:Nat=>Value.slice none 0 0) (Array.range n)=Array.replicate n (.slice none 0 0)from Array.ext A_ (by intros;simp)]
def wH:oi (ae prog true) 91 71 (.slice none 0 0) 1 24:=⟨Br,BA,Ae,Ae⟩
def asL{ops:Array Oper}{i d:Nat}{a:Act}{w:aO}{b n cap g:Nat}{u:Value}{cs:Array Value}(m:ops[i]?=some o)(p:o.guard=none)(hd:o.dst=some d)(c:o.op=.call {callee:=.builtin .append,args:=#[x,y],argTypes:=#[91,91]})(k:a.eval x=.slice (some ⟨b,0,none⟩) n cap)(f:a.eval y=.slice (some ⟨g,0,none⟩) 1 1)(s:w.cell? ⟨g,0,none⟩=some u)(h1:u.oneCell'=true)(e:ag w b cs 71)(z:cs.size=cap)(hn:n+1<=cap){Q:Act->aO->Prop}(h:Q (a.put (some d) (.slice (some ⟨b,0,none⟩) (n+1) cap)) (w.setCell ⟨b,n,none⟩ u)):wpOps (ae prog true) ops (jb Q) [i] a w:=by
 obtain⟨Ak,hi,r,hsz,q⟩:=info_parts wH.hi;have l:=run_append_room_cells (P:=ae prog true) w 91 o.type 71 Ak wH.ht hi b 0 n cap ⟨g,0,none⟩ 1 1 [u] AA (λj u t=>by
  grind[Addr.add]) AA hn (by have:=e.rules.1;grind) (by have:=e.rules.2;grind)
 refine qw m p hd (v:=.slice (some ⟨b,0,none⟩) (n+1) cap) (w1:=w.setCell ⟨b,n,none⟩ u) ?_ h;simp only[execOp,c,resolve,invoke,builtin,k,f,l,Result.andThen,Sem.run_bind,Sem.run_pure,List.map_toArray,List.map_cons,List.map_nil];grind[World.setCells]
def wG{bz:Option Addr}{n c:Nat}(a:o.op=.call {callee:=.builtin .len,args:=#[x],argTypes:=#[T]})(b:bl K x (de (.slice bz n c)))(d:T=52):bG (ae prog true) N K o (bt n):=dT b λev w h=>by have e:ev x=.slice bz n c:=h;subst d;refine⟨.int .i64 n,w,?_,Y,Below.refl _ _⟩;cases o;simp only at a;subst a;go_simp
def asM{rs:List bB}(b:o.op=.call {callee:=.builtin .len,args:=#[x],argTypes:=#[71]})(d:bl K x (l5 rs)):bG (ae prog true) N K o (bt rs.length):=dT d λev w h=>by obtain⟨-,a,c,e,-⟩:=h;refine⟨.int .i64 rs.length,w,?_,Y,Below.refl _ _⟩;cases o;simp only at b;subst b;go_simp
def asN{T':TypeId}(b:o.op=.binOp .neq T x (.const (.slice none 0 0)) T')(c:bl K x u_)(d:T=78):bG (ae prog true) N K o (bL false):=λa w hk=>.inl ⟨.bool false,w,by
 have e:a.eval x=.slice none 0 0:=hk.ev c;have f:a.eval (.const (.slice none 0 0))=.slice none 0 0:=rfl;generalize a.eval=ev at e f⊢;subst d;cases o;simp only at b;subst b;go_simp,Y,Below.refl _ _⟩
def wC(b:o.op=.build 63 #[]):bG (ae prog true) N K o (Uj [.int .i64 0,.slice none 0 0] (by simp;exact⟨.int _ _,.nil _ _⟩)):=λa w hk=>by refine .inl ⟨.agg #[.int .i64 0,.slice none 0 0],w,?_,Y,Below.refl _ _⟩;generalize a.eval=ev;cases o;simp only at b;subst b;go_simp
def asO{a:Option Addr}{n uc:Nat}(b:o.op=.buildSlice 91 1 #[(0,x)])(ev:Operand->Value)(w:aO)(c:ev x=.slice a n uc):(execOp ev o).run (ae prog true) w=.ok (.value (.slice (some ⟨w.heap.size,0,none⟩) 1 1)) (w.alloc (.cells #[.slice a n uc] 71)):=by cases o;simp only at b;subst b;go_simp
def JF{v:Value}(b:o.op=.assign x){ev:Operand->Value}(a:ev x=v)(w:aO):(execOp ev o).run P w=.ok (.value v) w:=by simp[execOp,b,a]
def asP(a:o.op=.alloc 49)(ev:Operand->Value)(w:aO):(execOp ev o).run (ae prog true) w=.ok (.value (.pointer (some ⟨w.heap.size,0,none⟩))) (w.alloc (.cells #[.int .i64 0,.int .i64 0,.int .i64 0,.slice none 0 0,.slice none 0 0,.slice none 0 0,.slice none 0 0] 49)):=by cases o;simp only at a;subst a;go_simp
def DW{w:aO}{b o:Nat}{cs:Array Value}{v:Value}(a:ag w b cs T)(h:v.oneCell'=true)(c:o<cs.size:=by simp):(store ⟨b,o,none⟩ v).run P w=.ok () (w.setCell ⟨b,o,none⟩ v):=by rw[run_store _ _ _ _ _ h];simp[a.rules.1,a.rules.2,c]
def asQ(w:aO)(v0 v1 v2 v3 j i h:Value)(h0:v0.oneCell'=true)(h1:v1.oneCell'=true)(q:v2.oneCell'=true)(h3:v3.oneCell'=true)(p:j.oneCell'=true)(t:i.oneCell'=true)(s:h.oneCell'=true):∃w',(∀{o:Oper}{x y:Operand},o.op=.store 49 x y->∀{ev:Operand->Value},ev x=.pointer (some ⟨w.heap.size,0,none⟩)->ev y=.agg #[v0,v1,v2,v3,j,i,h]->(execOp ev o).run (ae prog true) (w.alloc (.cells #[.int .i64 0,.int .i64 0,.int .i64 0,.slice none 0 0,.slice none 0 0,.slice none 0 0,.slice none 0 0] 49))=.ok .skip w')/\ag w' w.heap.size #[v0,v1,v2,v3,j,i,h] 49/\Below w.heap.size w w':=by
 have g:=ag.new w #[.int .i64 0,.int .i64 0,.int .i64 0,.slice none 0 0,.slice none 0 0,.slice none 0 0,.slice none 0 0] 49;have f:=g.set 0 v0;have d:=f.set 1 v1;have e:=d.set 2 v2;have c:=e.set 3 v3;have b:=c.set 4 j;have a:=b.set 5 i;have k:=a.set 6 h;simp only[List.setIfInBounds_toArray,List.set_cons_zero,List.set_cons_succ]at k;refine⟨_,@fun o x y l ev v u=>?_,k,(((((((((Below.refl _ w).alloc J1 _).setCell J1 _).setCell J1 _).setCell J1 _).setCell J1 _).setCell J1 _).setCell J1 _).setCell J1 _)⟩;have r:Hid _:=And.intro g (And.intro f (And.intro d (And.intro e (And.intro c (And.intro b a)))));generalize m:World.setCell _ _ _=W';have n:Hid _:=m;clear g f d e c b a k m;cases o;simp only at l;subst l;go_simp
 obtain⟨g,f,d,e,c,b,a⟩:=r.out;rw[DW g h0,Result.andThen_ok,DW f h1,Result.andThen_ok,DW d q,Result.andThen_ok,DW e h3,Result.andThen_ok,DW c p,Result.andThen_ok,DW b t,Result.andThen_ok,DW a s,Result.andThen_ok,n.out]
def asR(c:o.op=.store 63 x y)(ev:Operand->Value){w:aO}{b:Nat}(a:ag w b #[.int .i64 0,.slice none 0 0] 63)(f:ev x=.pointer (some ⟨b,0,none⟩))(d:ev y=.agg #[.int .i64 0,.slice none 0 0]):(execOp ev o).run (ae prog true) w=.ok .skip w:=by
 obtain⟨i,h,g⟩:=a.all;cases o;simp only at c;subst c;have e:(w.setCell ⟨b,0,none⟩ (.int .i64 0)).setCell ⟨b,1,none⟩ (.slice none 0 0)=w:=by rw[w6 a Y,w6 a Y]
 go_simp
end
def Gv{N:Nat}{a:Act}{w:aO}(h:a.tmps.size=N):af N (aK []) a w:=⟨h,λ_ _ e=>Dv⟩
def ff{N:Nat}{l:List (Nat×bp)}{a:Act}{w:aO}{s:Nat}{F:bp}{v:Value}(h:a.tmps[s]?=some v)(b:F.R w v)(hk:af N (aK l) a w):af N (aK ((s,F)::l)) a w:=⟨hk.size,λs' G e=>by
 unfold aK at e;split at e
 .rename_i c;cases e;exact⟨v,c▸h,b⟩
 .exact hk.has s' G e⟩
def mY{args:Array Value}{n i:Nat}{v:Value}(h:args[i]?=some v):(⟨args++Array.replicate n undef,[]⟩:Act).tmps[i]?=some v:=by show(args++Array.replicate n undef)[i]?=some v;rw[Array.getElem?_append_left (Array.getElem?_eq_some_iff.1 h).1];exact h
def DY{N:Nat}{K:bJ}{a:Act}{w:aO}{s:Nat}{b c:Bool}(h:af N K a w)(e:K s=some (bL b))(d:b=c):a.eval (.tmp s)=.bool c:=d▸h.ev (x:=.tmp s) (F:=bL b) e
abbrev oX(n0 N:Nat)(D:List (List bB))(W ao:Int)(k:Nat):List (Nat×bp):=[(9,w_ n0 N D),(8,Gt n0),(5,ei wz (W,ao)),(18,bt N),(19,bt k)]
section
variable{n0 N k c:Nat}{bz:Option Addr}{W ao:Int}{D:List (List bB)}{rs:List bB}{ns:List tp}{oD:tp}{ts:List (List aA)}{b3 c7:Value}{a:Act}{w:aO}
def asS(a0:N<=1000)(hd:a.defers=[])(hn:n0<=w.heap.size)(hk:af 57 (aK [(0,de b3),(1,de (.slice bz N c)),(2,nw W ao),(3,oP)]) a w):
 bK (ae prog true) [.code (UH f22)] (yF f22) (λa1 w1=>a1.defers=[]/\(a1.tmps[0]?=some b3/\a1.tmps[17]?=some (.slice bz N c))/\af 57 (aK (oX n0 N [] W ao 0)) a1 w1/\Below n0 w w1) a w:=by
 obtain⟨u,h3,g⟩:=hk.has 3 _ Y;have hk:=ff (F:=rp n0 oP) h3 ⟨hn,g⟩ hk;unfold UH;refine bq ?_;rw[fZ (aq f22 0)];refine di hk (ar Y (Ux Y Y)<|ar Y (dv (F:=u_) Y KS)<|ar Y (dv (F:=bt 0) Y KS)<|ar Y (asJ (s:=3) Y Y)<|rfl) λa1 w1 f d1 b1=>bq ?_;rw[fZ (aq f22 1)];refine di f (ar Y KJ<|ar Y (wG Y Y Y)<|ar Y (asK (s:=3) Y KS Y a0 Y)<|ar Y KY<|rfl) λq o e i m=>bq (bq ?_);rw[fZ (aq f22 2)];refine di e (ar Y KJ<|ar Y (wG Y Y Y)<|ar Y (bf (F:=bt (0:Nat)) Y KS)<|rfl) λp n b h l=>oM (Ca (j1 ⟨h.trans (i.trans (d1.trans hd)),?_,b.aU ⟨Y,Y,Y,Y,Y,PA⟩,?_⟩))
 .obtain⟨v,j,rfl⟩:=b.has 0 _ Y;obtain⟨u,k,rfl⟩:=b.has 17 _ Y;exact⟨j,k⟩
 .have d:=b1.trans (m.mono b1.size);exact(d.trans (l.mono d.size)).mono hn
def asT(X:D.length=k)(a0:N<=1000)(U:k<N)(J:ns[k]?=some oD)(hd:a.defers=[])(hn:n0<=w.heap.size)(h0:a.tmps[0]?=some b3)(S:a.tmps[17]?=some c7)(ht:(b6 1 pJ ts).R w b3)(H:(b6 7 pK ns).R w c7)(h:af 57 (aK (oX n0 N D W ao k)) a w):
 bK (ae prog true) (yF f22) (.inRegion (aq f22 5) (List.range' 4 6)::NM f22) (λa1 w1=>a1.defers=[]/\(a1.tmps[0]?=some b3/\a1.tmps[17]?=some c7)/\af 57 (aK ((27,b6 1 tn D)::(25,uZ oD)::(26,b6 1 pJ ts)::(28,nw W ao)::oX n0 N D W ao k)) a1 w1/\Below n0 w w1) a w:=by
 have hk:=ff (F:=iR b3 (b6 1 pJ ts)) h0 ⟨Y,ht⟩<|ff (F:=iR c7 (b6 7 pK ns)) S ⟨Y,H⟩ h;unfold yF Gu;refine bq ?_;rw[fZ (aq f22 3)];refine di hk (ar Y (Jx Y Y Y Ae)<|rfl) λa1 w1 p d1 b1=>bq (g3 (t:=true) (DY p Y Bg) (lU (bq (oM (bq ?_)))));rw[fZ (aq f22 4)];refine uo (show bK _ (.inRegion _ (List.range' 0 (3+3))::_) _ _ _ _ from wA p (ar Y KJ<|ar Y (asp Y Y Y J Ae)<|ar Y (xN Y Y)<|rfl) Ae λd b g P Q=>Ce ?_);obtain⟨JJ,o,z,aT,A,B,q,rfl,e,r⟩:=g.has 23 _ Y;obtain⟨c,n,L⟩:=g.has 21 _ Y;refine jO (R:=λa' w'=>a'=d.put (some 11) (.pointer (some ⟨b.heap.size,0,none⟩))/\w'=b.alloc (.cells #[.int .i64 0,.int .i64 0,.int .i64 0,.slice none 0 0,.slice none 0 0,.slice none 0 0,.slice none 0 0] 49)) (qw Y Y Y (asP Y _ _) ⟨Y,Y⟩) ?_;rintro _ _ ⟨rfl,rfl⟩;have T:(d.put (some 11) (.pointer (some ⟨b.heap.size,0,none⟩))).tmps[21]?=some c:=(dP Ae).trans n;refine jO (R:=λa' w'=>a'=(d.put (some 11) (.pointer (some ⟨b.heap.size,0,none⟩))).put (some 10) c/\w'=b.alloc (.cells #[.int .i64 0,.int .i64 0,.int .i64 0,.slice none 0 0,.slice none 0 0,.slice none 0 0,.slice none 0 0] 49)) (qw (v:=c) Y Y Y (JF Y (eb T) _) ⟨Y,Y⟩) ?_;rintro _ _ ⟨rfl,rfl⟩;have C:((d.put (some 11) (.pointer (some ⟨b.heap.size,0,none⟩))).put (some 10) c).tmps[11]?=some (.pointer (some ⟨b.heap.size,0,none⟩)):=(dP Ae).trans (kt (by rw[g.size];decide));have m:((d.put (some 11) (.pointer (some ⟨b.heap.size,0,none⟩))).put (some 10) c).tmps[23]?=some _:=(dP Ae).trans ((dP Ae).trans o);obtain⟨E,I,M,l⟩:=asQ b (.int .i64 oD.1) (.int .i64 oD.2.1) z aT A B q Y Y e.1.1 (asG r) e.1.2 e.2.1 e.2.2;refine jO (R:=λa' w'=>a'=(d.put (some 11) (.pointer (some ⟨b.heap.size,0,none⟩))).put (some 10) c/\w'=E) (wb Y Y Y (I Y (eb C) (eb m)) ⟨Y,Y⟩) ?_;rintro _ _ ⟨rfl,rfl⟩;have hcell:=M.rules.1;have K:=(g.put (s:=11) (F:=ei pK oD) Ae l ⟨b.heap.size,0,Y,z,aT,A,B,q,⟨hcell _,hcell _,hcell _,hcell _,hcell _,hcell _,hcell _⟩,e,a8.mono (pI 4 dS).mono (bo.cj l) r⟩).put (s:=10) (F:=bt k) Ae (Below.refl _ _) L;refine pA (bq (uo ?_));rw[fZ (aq f22 5)];refine(show bK _ (.inRegion _ (List.range' 0 (4+6))::_) _ _ _ _ from wA K (ar Y (xN Y Y)<|ar Y L8<|ar Y KJ<|ar Y (JD Y Y)<|rfl) Ae λZ V f O bc=>j1 ⟨O.trans ((put_defers _ _ _).trans ((put_defers _ _ _).trans (P.trans (d1.trans hd)))),?_,?_,?_⟩)
 .obtain⟨v,i,rfl,-⟩:=f.has 0 _ Y;obtain⟨u,j,rfl,-⟩:=f.has 17 _ Y;exact⟨i,j⟩
 .obtain⟨v,i,j⟩:=f.has 27 _ Y;exact ff i (yE.list j As) (f.aU ⟨Y,Y,Y,Y,Y,Y,Y,Y,PA⟩)
 .have y:=b1.trans (Q.mono b1.size);have x:=y.trans (l.mono y.size);exact(x.trans (bc.mono x.size)).mono hn
def asX(hD:D.length=k)(a0:N<=1000)(yI:k<N)(FZ:rs.length<=300)(hf:Full rs)(hF:∀x∈D,Full x)(hd:a.defers=[])(hn:n0<=w.heap.size)(h0:a.tmps[0]?=some b3)(JI:a.tmps[17]?=some c7)(h:af 57 (aK ((29,u9 rs)::oX n0 N D W ao k)) a w):
 bK (ae prog true) (.inRegion (aq f22 5) (List.range' 5 5)::NM f22) (yF f22) (λa1 w1=>a1.defers=[]/\(a1.tmps[0]?=some b3/\a1.tmps[17]?=some c7)/\af 57 (aK (oX n0 N (D++[rs]) W ao (k+1))) a1 w1/\Below n0 w w1) a w:=by
 have hk:=ff (F:=de b3) h0 Y<|ff (F:=de c7) JI Y h;unfold NM UG;rw[fZ (aq f22 5)];refine(show bK _ (.inRegion _ (List.range' 5 (5+0))::_) _ _ _ _ from wA hk (ar Y KJ<|ar Y (Uy Y Y)<|ar Y (Uz Y Y)<|ar Y KY<|ar Y KY<|rfl) Ae λa1 w1 k1 d1 b1=>sg (bq (oM (bq ?_))));rw[fZ (aq f22 6)];refine di k1 (ar Y KJ<|ar Y (asN Y Y Y)<|ar Y KY<|rfl) λbC w2 k2 d2 b2=>g3 (t:=false) (DY k2 Y Y) (bq ?_);rw[fZ (aq f22 8)];refine di k2 (ar Y KJ<|ar Y (asM Y Y)<|ar Y (Ul (n:=300) Y Y KS Ae)<|ar Y KY<|rfl) λbX w3 k3 d3 b8=>g3 (t:=false) (DY k3 Y Bg) (lU (xF ?_));rw[fZ (aq f22 10)];refine uo (show bK _ (.inRegion _ (List.range' 0 (2+3))::_) _ _ _ _ from wA k3 (ar Y KJ<|ar Y KJ<|rfl) Ae λz b g d4 bc=>Ce ?_);obtain⟨wv,L,d,cs,rfl,o,cE,j,M_,K⟩:=g.has 45 _ Y;obtain⟨JK,zR,-⟩:=g.has 9 _ Y;obtain⟨zP,Z,hr⟩:=g.has 46 _ Y;obtain⟨p,uc,rfl,aFt⟩:=hr.2;have br:Below b.heap.size b (b.alloc (.cells #[.slice p rs.length uc] 71)):=(Below.refl _ b).alloc J1 _;refine jO (R:=λa' w'=>a'=z.put (some 47) (.slice (some ⟨b.heap.size,0,none⟩) 1 1)/\w'=b.alloc (.cells #[.slice p rs.length uc] 71)) (qw Y Y Y (asO Y _ _ (eb Z)) ⟨Y,Y⟩) ?_;rintro _ en ⟨rfl,f⟩;have c:=g.put (s:=47) (F:=de (.slice (some ⟨b.heap.size,0,none⟩) 1 1)) Ae (f▸br) Y;have X:en.cell? ⟨b.heap.size,0,none⟩=some (.slice p rs.length uc):=by rw[f];exact(ag.new _ _ _).rules.1 0
 have V:=(l5 rs).hJ _ _ _ (f▸br) hr;have U:∀(i:Nat) r,D[i]?=some r->∃u,cs[i]?=some u/\(l5 r).R en u:=λi r hi=>by obtain⟨u,fM,gQ⟩:=M_ i r hi;exact⟨u,fM,(l5 r).hJ _ _ _ (f▸br) gQ⟩
 have m:ag en d cs 71:=cE.call (f▸br);obtain⟨E,l⟩:=yE.grow (n0:=n0) m o j As U K V hf hF;refine jO (R:=λa' w'=>a'=(z.put (some 47) (.slice (some ⟨b.heap.size,0,none⟩) 1 1)).put (some 48) (.slice (some ⟨d,0,none⟩) (D.length+1) N)/\w'=en.setCell ⟨d,D.length,none⟩ (.slice p rs.length uc)) (asL Y Y Y Y (eb ((dP Ae).trans L)) (eb (kt (by rw[g.size];decide))) X Y m j As ⟨Y,Y⟩) ?_;rintro _ y ⟨rfl,C⟩;rw[<-C]at E l;refine jO (R:=λa' w'=>a'=((z.put (some 47) (.slice (some ⟨b.heap.size,0,none⟩) 1 1)).put (some 48) (.slice (some ⟨d,0,none⟩) (D.length+1) N)).put (some 9) (.slice (some ⟨d,0,none⟩) (D.length+1) N)/\w'=y) (qw (v:=.slice (some ⟨d,0,none⟩) (D.length+1) N) Y Y Y (JF Y (eb (kt (by rw[c.size];decide))) _) ⟨Y,Y⟩) ?_;rintro B y ⟨q,rfl⟩;have ht:∀s v,s≠48->s≠9->(z.put (some 47) (.slice (some ⟨b.heap.size,0,none⟩) 1 1)).tmps[s]?=some v->B.tmps[s]?=some v:=λs v h1 h2 h3=>by rw[q];exact(dP (Ne.symm h2)).trans ((dP (Ne.symm h1)).trans h3)
 obtain⟨UI,UJ,rfl⟩:=c.has 0 _ Y;obtain⟨T,S,rfl⟩:=c.has 17 _ Y;obtain⟨Gx,wB,l7,rfl,Q,P⟩:=c.has 8 _ Y;obtain⟨aFu,UK,k_,Z_,rfl,f0,f1⟩:=c.has 5 _ Y;obtain⟨aFv,O,M⟩:=c.has 18 _ Y;obtain⟨aFw,J,I⟩:=c.has 19 _ Y;have H:l7≠d:=λe=>by simp_all[ag]
 have fH:af 57 (aK ((0,de UI)::(17,de T)::oX n0 N (D++[rs]) W ao k)) B y:=
  ff (ht _ _ Ae Ae UJ) Y<|ff (ht _ _ Ae Ae S) Y<|ff (by rw[q];exact kt (by rw[gu,c.size];decide)) l<|ff (ht _ _ Ae Ae wB) ⟨l7,Y,Q,by rw[C];exact P.iA H _⟩<|ff (ht _ _ Ae Ae UK) ⟨k_,Z_,Y,E _ _ _ A_ f0,E _ _ _ A_ f1⟩<|ff (ht _ _ Ae Ae O) M<|ff (ht _ _ Ae Ae J) I<|Gv (by rw[q,gu,gu];exact c.size)
 have d6:B.defers=[]:=by rw[q,put_defers,put_defers,put_defers];exact d4.trans (d3.trans (d2.trans (d1.trans hd)))
 have e2:=b1.trans (b2.mono b1.size);have e3:=e2.trans (b8.mono e2.size);have e4:=e3.trans (bc.mono e3.size);have cP:Below n0 w y:=by rw[C,f];exact(((e4.trans (br.mono e4.size)).mono hn)).setCell o _
 refine pA (xF ?_);rw[fZ (aq f22 11)];refine di fH (ar Y (uX (n:=1) Y Y KS DO Ae)<|ar Y KJ<|rfl) λlB qf A d7 cI=>Cb (j1 ⟨d7.trans d6,?_,A.aU ⟨Y,Y,Y,Y,Y,PA⟩,cP.trans (cI.mono (Nat.le_trans hn cP.size))⟩);obtain⟨v,bu,rfl⟩:=A.has 0 _ Y;obtain⟨u,bb,rfl⟩:=A.has 17 _ Y;exact⟨bu,bb⟩
def atc(C:D.length=N)(h0:0<N)(a0:N<=1000)(l:D[N-1]?=some rs)(hd:a.defers=[])(hn:n0<=w.heap.size)(h:af 57 (aK (oX n0 N D W ao N)) a w):
 uq (ae prog true) f22 (yF f22) (λv w1=>DV rs w1 v/\Below n0 w w1) a w:=by
 obtain⟨E,A,z⟩:=h.has 9 _ Y;have hk:=ff (F:=b6 1 tn D) A (yE.list z As) h;unfold yF Gu;refine FP (ks':=[.code .ret]) (bq ?_);rw[fZ (aq f22 3)];refine di hk (ar Y (Jx Y Y Y Ae)<|rfl) λa1 w1 f d1 b1=>bq (g3 (t:=false) (DY f Y A_) (Cc Y ?_));unfold NL;refine bq ?_;rw[fZ (aq f22 12)];have x:((D.length:Int)-1)=((N-1:Nat):Int):=As;refine uo (show bK _ (.inRegion _ (List.range' 0 (9+1))::_) _ _ _ _ from wA f (ar Y KJ<|ar Y KJ<|ar Y Kk<|ar Y (Uk (n:=1) Y Y KS DO Ae)<|ar Y (dM (i:=N-1) Y Y (by rw[<-x];rfl) l Ae)<|ar Y (cH Y Y (xD _) Ae)<|ar Y (wC Y)<|ar Y KY<|ar Y (dv (F:=bt 0) Y KS)<|rfl) Ae λp g c o q=>Ce ?_);have m:=b1.trans (q.mono b1.size);obtain⟨H,e,B,rfl,-,b⟩:=c.has 8 _ Y;obtain⟨s,d,rfl⟩:=c.has 56 _ Y;obtain⟨y,u,j⟩:=c.has 6 _ Y;obtain⟨r,k,rfl⟩:=c.has 7 _ Y;refine jO (R:=λa' w'=>a'=p/\w'=g) (wb Y Y Y (asR Y _ b (eb e) (eb d)) ⟨Y,Y⟩) ?_;rintro _ _ ⟨rfl,rfl⟩;refine pA (j1 (SG (v:=.tuple #[y,.int .i64 0,ry]) (o.trans (d1.trans hd)) ?_ ⟨⟨_,Y,j.1⟩,m.mono hn⟩));obtain⟨c1,cr,dm⟩:=b.all;simp[results,results22,go_sem,u,k,e,c1,ry]
end
section
variable{O:gW}
def NP(F:Func):Code:=.seq (.region 10 (dx F 10) true) .ret
def JM(F:Func):Code:=(.seq (.region 0 (dx F 0) false) (.seq (.seq (.region 1 (dx F 1) false) (.block 0 (.seq (.region 2 (dx F 2) false) (.cond (.tmp 12) (.seq (.region 3 (dx F 3) true) .ret) (.seq (.region 4 (dx F 4) false) (.cond (.tmp 29) (.seq (.region 5 (dx F 5) true) .ret) (.seq (.region 6 (dx F 6) false) (.cond (.tmp 44) (.seq (.region 7 (dx F 7) true) .ret) (.seq (.region 8 (dx F 8) false) (.cond (.tmp 63) (.seq (.region 9 (dx F 9) true) .ret) .skip)))))))))) (NP F)))
theorem UM:f29.body=some (JM f29):=by kernel_rfl
def JN{N:Nat}{K:bJ}{a:Act}{w:aO}(h:af N K a w){s:Nat}{b:Bool}(e:K s=some (bL b)):a.eval (.tmp s)=.bool b:=h.ev (x:=.tmp s) (F:=bL b) e
def ate{es:List (List bI)}{t:List aA}{x y:Int}{a:Act}{w:aO}(hd:a.defers=[])(hk:af 86 (aK [(0,uZ (1,0,es)),(1,b6 1 pJ [t]),(3,nw x y)]) a w):
 bK (ae prog true) [.code (JM f29)] [.code (.region 10 (dx f29 10) true),.code .ret] (λa1 w1=>a1.defers=[]/\af 86 (aK [(1,b6 1 pJ [t]),(4,ei pK (1,0,es)),(7,ei wz (x,y))]) a1 w1/\Below w.heap.size w w1) a w:=by
 unfold JM;refine bq ?_;rw[fZ (dx f29 0)];refine di hk (ar Y (yH Y Y)<|ar Y (Ux Y Y)<|ar Y (dv (F:=u_) Y KS)<|ar Y (dv (F:=u_) Y KS)<|rfl) λa1 w1 k d1 b1=>bq (bq ?_);rw[fZ (dx f29 1)];refine di k (ar Y (yG Y Y)<|ar Y Kf<|rfl) λH z j q s=>oM (bq ?_);rw[fZ (dx f29 2)];refine di j K2 λE v c p r=>g3 (t:=false) (JN c Y) (bq ?_);rw[fZ (dx f29 4)];refine di c K2 λD u b o bc=>g3 (t:=false) (JN b Y) (bq ?_);rw[fZ (dx f29 6)];refine di b K2 λC en i n br=>g3 (t:=false) (JN i Y) (bq ?_);rw[fZ (dx f29 8)];refine di i K2 λA B e m l=>g3 (t:=false) (JN e Y) (lU (xF ?_));unfold NP;have h:=b1.trans (s.mono b1.size);have g:=h.trans (r.mono h.size);have f:=g.trans (bc.mono g.size);have d:=f.trans (br.mono f.size);exact bq (j1 ⟨m.trans (n.trans (o.trans (p.trans (q.trans (d1.trans hd))))),e.aU ⟨Y,Y,Y,PA⟩,d.trans (l.mono d.size)⟩)
def atf{Post:Value->aO->Prop}{M:Nat->Prop}{w:aO}{args:Array Value}{es:List (List bI)}{t:List aA}{ao S W:Nat}(z:aS (cq M) args args)(q:af 86 (aK [(0,uZ (1,0,es)),(1,b6 1 pJ [t]),(3,nw W ao)]) ⟨args++Array.replicate (86-args.size) undef,[]⟩ w)(h0:0<t.length)(f:t.length<=1000000)(v:0<ao)(C:ao<=64)(m:0<W)(E:W<=16)(hS:S<=300)(hh:t[0].cp.length=S)(cQ:∀i,i<S->∀c∈t,vH i c):
 jN O prog Post 29 args M w 1 (λu _ w'=>(u9 (mV t 0 S)).R w' u/\ea M w w'):=by
 refine xn [] (N:=86) (id:=10) (rO:=aK [(1,b6 1 pJ [t]),(4,ei pK (1,0,es)),(7,ei wz (W,ao))]) (l2:=[(8,l5 (mV t 0 S)),(9,u_)]) (ops:=dx f29 10) (S:=⟨8,λ_=>false,λ_=>true,[]⟩) (eu:=u9 (mV t 0 S)) l3 mixed func29 xu UM z q (fj ⟨PA,PA,PA,PA⟩) (fj ⟨PA,PA,PA,PA⟩) ⟨PA,PA,PA⟩ trivial AV AV AV (λa W hd hk=>ate hd hk) AV Y Y Y func39 BA Y Y Y (by
  rw[fZ (dx f29 10)];exact hq Y (JD Y Y)<|hq Y KJ<|hq Y (yz Y Y)<|hq Y Kf<|hq Y (dM (i:=0) Y Y Y Y Ae)<|hq Y (asy Y Y)<|hq Y (asA Y Y)<|hq Y (lx Y Y Ae)<|hg Y (λa M w Shun j hk L=>by
   obtain⟨u1,h,r1⟩:=hk.has 75 (nw W ao) Y;obtain⟨u2,b,_,rfl,c,rfl,d⟩:=hk.has 82 (Uw _ (NK t)) Y;cases r1;rw[show(#[Operand.tmp 75,.tmp 82].map a.eval)=#[.agg #[.int .i64 W,.int .i64 ao],.iface 116 (.agg #[c])]from by simp[eb h,eb b]];have B:ay (cq M) c c:=by
    have:=L.get _ _ _ b b;cases this with
    |iface _ k=>cases k with
     |agg _ hg=>exact hg 0 _ _ Y Y
   intro n g hn l f1 a1 o A r1 r cs1 D P;exact ar4 j.cl j.FJ d B h0 f v C m E hS hh cQ n g hn l f1 a1 o A r1 r cs1 D λu M' w' p g K J I H F⟨x,e,Q,y,s⟩=>P u M' w' p g K J I H F ⟨⟨x,e,Q,y⟩,ea.L6 s⟩)<|hq Y (Uy Y Y)<|hq Y (Uz Y Y)<|hq Y KY<|hq Y KY<|rfl) Y ⟨Y,Y,PA⟩ λa W hk=>?_
 obtain⟨u1,h,r1⟩:=hk.has 8 (l5 (mV t 0 S)) Y;obtain⟨u2,b,d⟩:=hk.has 9 u_ Y;cases d;refine⟨.tuple #[u1,.slice none 0 0],?_,⟨_,Y,r1⟩⟩;rw[(IC AV _ _).1];simp[vS,ub,results29,Array.getD_eq_getD_getElem?,h,b]
def atg{j:Int}{es:List (List bI)}{D:List (List bB)}{x y:Int}{a:Act}{w:aO}(hd:a.defers=[])(hk:af 86 (aK [(0,uZ (2,j,es)),(2,b6 1 tn D),(3,nw x y)]) a w):
 bK (ae prog true) [.code (JM f29)] (.code (.region 3 (dx f29 3) true):: .code .ret::[.inBlock 0,.code (NP f29)]) (λa1 w1=>a1.defers=[]/\af 86 (aK [(2,b6 1 tn D),(4,ei pK (2,j,es)),(7,ei wz (x,y))]) a1 w1/\Below w.heap.size w w1) a w:=by
 unfold JM;refine bq ?_;rw[fZ (dx f29 0)];refine di hk (ar Y (yH Y Y)<|ar Y (Ux Y Y)<|ar Y (dv (F:=u_) Y KS)<|ar Y (dv (F:=u_) Y KS)<|rfl) λa1 w1 e d1 b1=>bq (bq ?_);rw[fZ (dx f29 1)];refine di e (ar Y (yG Y Y)<|ar Y Kf<|rfl) λn l d g i=>oM (bq ?_);rw[fZ (dx f29 2)];refine di d K2 λm k b f h=>g3 (t:=true) (JN b Y) ?_;have c:=b1.trans (i.mono b1.size);exact bq (j1 ⟨f.trans (g.trans (d1.trans hd)),b.aU ⟨Y,Y,Y,PA⟩,c.trans (h.mono c.size)⟩)
def ath{Post:Value->aO->Prop}{M:Nat->Prop}{w:aO}{args:Array Value}{ts:List bI}{D:List (List bB)}{rs:List bB}{outs:Nat->bD}{j ao W:Nat}(A:aS (cq M) args args)(s:af 86 (aK [(0,uZ (2,j,[ts])),(2,b6 1 tn D),(3,nw W ao)]) ⟨args++Array.replicate (86-args.size) undef,[]⟩ w)(E:D[j]?=some rs)(ok:Cn ts rs outs)(y:0<ao)(C:ao<=64)(p:0<W)(H:W<=16)(hS:rs.length<=300):
 jN O prog Post 29 args M w 1 (λu _ w'=>(u9 (j5 rs outs 0 rs.length)).R w' u/\ea M w w'):=by
 refine xn [.inBlock 0,.code (NP f29)] (N:=86) (id:=3) (rO:=aK [(2,b6 1 tn D),(4,ei pK (2,j,[ts])),(7,ei wz (W,ao))]) (l2:=[(8,l5 (j5 rs outs 0 rs.length)),(9,u_)]) (ops:=dx f29 3) (S:=⟨12,λ_=>false,λ_=>true,[]⟩) (eu:=u9 (j5 rs outs 0 rs.length)) l3 mixed func29 xu UM A s (fj ⟨PA,PA,PA,PA⟩) (fj ⟨PA,PA,PA,PA⟩) ⟨PA,PA,PA⟩ trivial AV AV AV (λa W hd hk=>atg hd hk) AV Y Y Y func39 BA Y Y Y (by
  rw[fZ (dx f29 3)];exact hq Y (JD Y Y)<|hq Y (asx Y Y)<|hq Y KT<|hq Y (dM (i:=0) Y Y KS Y Ae)<|hq Y KT<|hq Y KJ<|hq Y (yz Y Y)<|hq Y Kf<|hq Y (dM Y Y Y E Ae)<|hq Y (cH Y Y (xD _) Ae)<|hq Y (asz Y Y Y)<|hq Y (lx Y Y Ae)<|hg Y (λa M w Shun m hk Q=>by
   obtain⟨u1,g,r1⟩:=hk.has 14 (nw W ao) Y;obtain⟨u2,b,_,rfl,c,c',rfl,d,h⟩:=hk.has 25 (Uw _ (yR ts rs)) Y;cases r1;rw[show(#[Operand.tmp 14,.tmp 25].map a.eval)=#[.agg #[.int .i64 W,.int .i64 ao],.iface 107 (.agg #[c,c'])]from by simp[eb g,eb b]];have l:ay (cq M) c c/\ay (cq M) c' c':=by
    have:=Q.get _ _ _ b b;cases this with
    |iface _ k=>cases k with
     |agg _ hg=>exact⟨hg 0 _ _ Y Y,hg 1 _ _ Y Y⟩
   intro n f hn o f1 a1 q B r1 t cs1 F R;exact ar5 ok m.cl m.FJ d h.1 h.2 l.1 l.2 y C p H hS n f hn o f1 a1 q B r1 t cs1 F λu M' w' r f P L K J I⟨x,e,T,z,v⟩=>R u M' w' r f P L K J I ⟨⟨x,e,T,z⟩,ea.L6 v⟩)<|hq Y (Uy Y Y)<|hq Y (Uz Y Y)<|hq Y KY<|hq Y KY<|rfl) Y ⟨Y,Y,PA⟩ λa W hk=>?_
 obtain⟨u1,g,r1⟩:=hk.has 8 (l5 (j5 rs outs 0 rs.length)) Y;obtain⟨u2,b,d⟩:=hk.has 9 u_ Y;cases d;refine⟨.tuple #[u1,.slice none 0 0],?_,⟨_,Y,r1⟩⟩;rw[(IC AV _ _).1];simp[vS,ub,results29,Array.getD_eq_getD_getElem?,g,b]
end
section
variable{O:gW}
def UN{Post:Value->aO->Prop}{n:Nat}{Shun:Loc->Prop}{M:Nat->Prop}{w:aO}{a:Act}{k k':List Item}{cs:List Frame}{n0:Nat}{aX:Nat->Prop}{w0:aO}(u:(cU P).Good)(r:kY P f){s s':Nat}{x y:Value}(p:ay (cq M) x x)(o:ay (cq M) y y)(H:Held O P aX w0 n0 a M w Shun)(hk:k.all (fX P)=true)(B:k'.all (fX P)=true){I J:Act->aO->Prop}(t:pz n0 I)(z:pz n0 J)(h0:I a w)(hrun:∀W,n0<=W.heap.size->I a W->bK (ae P true) k k' (λa1 w1=>a1.defers=[]/\(a1.tmps[s]?=some x/\a1.tmps[s']?=some y)/\J a1 w1/\Below n0 W w1) a W)(A:∀a' M' w',Held O P aX w0 n0 a' M' w' Shun->(a'.tmps[s]?=some x/\a'.tmps[s']?=some y)->J a' w'->bS P Post n Shun 0 (aZ ((base f).at a' k') cs) w'):
 bS P Post n Shun 0 (aZ ((base f).at a k) cs) w:=by
 refine ZO u H.fF r H.all H.defers hk B (Q:=λc a1 w1=>(a1.tmps[s]?=some x/\a1.tmps[s']?=some y)/\J a1 w1/\∃T,Below n0 {c with tape:=T} w1) (λc h T b cs=>?_) ?_
 .obtain⟨a1,w1,⟨h1,d,j,h3⟩,i⟩:=hrun {c with tape:=T} (by show n0<=c.heap.size;rw[h.size];exact H.size) (t _ _ _ _ _ (H.fF.lV h T) H.all h0) b cs;exact⟨a1,w1,⟨h1,d,j,T,h3⟩,i⟩
 .rintro ρ c a1 w1 a' w' h ⟨d,h1,T,j⟩ h3 i g;have key:∀(s:Nat) v,ay (cq M) v v->a1.tmps[s]?=some v->a'.tmps[s]?=some v:=λs v q e=>by obtain⟨C,m,l⟩:=h3.some e;rw[m,g.same q l]
  exact A a' (px ρ) w' (H.next h g j (g.all h3) i) ⟨key _ _ p d.1,key _ _ o d.2⟩ (z _ _ _ _ _ (g.lV H.size) h3 h1)
def zO:hX prog true f22=true:=by decide+kernel
def ati:∃o ats,(aq f22 5)[4]?=some o/\o.op=.call {callee:=.value (.func 29),args:=#[.tmp 25,.tmp 26,.tmp 27,.tmp 28],argTypes:=ats}/\o.guard=none/\o.dst=some 29:=⟨_,_,Y,Y,Y,Y⟩
def atj{Post:Value->aO->Prop}{M:Nat->Prop}{w:aO}{b3 c7:Value}{ns:List tp}{ts:List (List aA)}{gw:List (List bB)}{rs:List bB}{W ao:Int}(X:aS (cq M) #[b3,c7,.agg #[.int .i64 W,.int .i64 ao]] #[b3,c7,.agg #[.int .i64 W,.int .i64 ao]])(ht:(b6 1 pJ ts).R w b3)(rR:(b6 7 pK ns).R w c7)(hl:gw.length=ns.length)(h0:0<ns.length)(a0:ns.length<=1000)(Z:∀x∈gw,x.length<=300/\Full x)(Bk:gw[ns.length-1]?=some rs)(hw:∀(k:Nat) oD x,ns[k]?=some oD->gw[k]?=some x->∀args M w,aS (cq M) args args->af 86 (aK [(0,uZ oD),(1,b6 1 pJ ts),(2,b6 1 tn (gw.take k)),(3,nw W ao)]) ⟨args++Array.replicate (86-args.size) undef,[]⟩ w->jN O prog Post 29 args M w 1 (λu _ w'=>(u9 x).R w' u/\ea M w w')):
 jN O prog Post 22 #[b3,c7,.agg #[.int .i64 W,.int .i64 ao]] M w ns.length (λu _ w'=>DV rs w' u/\ea M w w'):=by
 intro n Shun hn F eT aF aD aI aL aH csZ hc cT;have Q:kY prog 22:=FQ func22 zO NN;rw[enter_at func22 NN];have V:=X.get 0 _ _ Y Y;have U:=X.get 1 _ _ Y Y;obtain⟨bz,cap,rfl,-,-⟩:=id rR;have iO:∀{a' M' w' r},Held O prog M w w.heap.size a' M' w' r->ea M w w':=λg b c e z C B=>g.keep b c e z ⟨C,F.lt C⟩ B;have loop:∀j k,k+j=ns.length->∀a' M' w' A r,A<=n+16*k->Held O prog M w w.heap.size a' M' w' r->(a'.tmps[0]?=some b3/\a'.tmps[17]?=some (.slice bz ns.length cap))->af 57 (aK (oX w.heap.size ns.length (gw.take k) W ao k)) a' w'->bS prog Post A r 0 (aZ ((base 22).at a' (yF f22)) ((base eT).at aF (.inRegion aD (aI::aL)::aH)::csZ)) w':=by
  intro j;induction j with
  |zero=>intro k hk a' M' w' A r kN g hs f;obtain rfl:k=ns.length:=hk;refine ML l3 func22 zO NN g AV hc (I:=af 57 (aK (oX w.heap.size ns.length (gw.take ns.length) W ao ns.length))) (gZ:=DV rs) (jP _ (fj ⟨Y,Y,PA,PA,PA,PA⟩)) (wI _) f (λW1 q f=>atc (by simp[hl]) h0 a0 (by rw[List.take_of_length_le As];exact Bk) g.defers q f) λu sz t h1 h2 h3 h4 a4 bP=>cT u sz t A r As h1 h2 h3 h4 ⟨bP,λb c e z C B=>a4 b c e z ⟨C,F.lt C⟩ B⟩
  |succ j ih=>
   intro k hk a' M' w' A r kN g hs f;have T:k<ns.length:=As;have wZ:(gw.take k).length=k:=Bg;have oF:=List.getElem?_eq_getElem T;have B:=List.getElem?_eq_getElem (l:=gw) (i:=k) As;have E:gw[k]∈gw:=List.getElem_mem _;have sub:∀{M'},(∀b,M b->M' b)->ay (cq M') b3 b3/\ay (cq M') (.slice bz ns.length cap) (.slice bz ns.length cap):=λh=>⟨V.mono (zZ h),U.mono (zZ h)⟩;refine UN l3 Q (sub g.sub).1 (sub g.sub).2 g (k':=.inRegion (aq f22 5) (List.range' 4 6)::NM f22) AV AV (s:=0) (s':=17) (I:=af 57 (aK ((0,b6 1 pJ ts)::(17,b6 7 pK ns)::oX w.heap.size ns.length (gw.take k) W ao k))) (J:=af 57 (aK ((27,b6 1 tn (gw.take k))::(25,uZ ns[k])::(26,b6 1 pJ ts)::(28,nw W ao)::oX w.heap.size ns.length (gw.take k) W ao k))) (jP _ (fj ⟨PA,PA,Y,Y,PA,PA,PA,PA⟩)) (jP _ (fj ⟨PA,PA,PA,PA,Y,Y,PA,PA,PA,PA⟩)) (ff hs.1 ((b6 1 pJ ts).j3 0 trivial _ _ _ _ _ ((iO g).lV F) V ht)<|ff hs.2 ((b6 7 pK ns).j3 0 trivial _ _ _ _ _ ((iO g).lV F) U rR) f) (λW1 q f=>?_) λbC S y p L m=>?_
   .obtain⟨v,bu,bb⟩:=f.has 0 _ Y;obtain⟨u,q3,q4⟩:=f.has 17 _ Y;rw[hs.1]at bu;rw[hs.2]at q3;cases bu;cases q3;exact asT wZ a0 T oF g.defers q hs.1 hs.2 bb q4 (f.aU ⟨Y,Y,Y,Y,Y,PA⟩)
   obtain⟨o,ats,ho,hop,fK,iG⟩:=ati;refine SI (i:=4) (rest:=List.range' 5 5) (d:=1) hop func29 BA UM As Q p AV ho fK ⟨iG,by rw[m.size];decide⟩ (I:=af 57 (aK ((27,b6 1 tn (gw.take k))::(25,uZ ns[k])::(26,b6 1 pJ ts)::(28,nw W ao)::oX w.heap.size ns.length (gw.take k) W ao k))) (J:=λR t=>(R.tmps[0]?=some b3/\R.tmps[17]?=some (.slice bz ns.length cap))/\af 57 (aK ((29,u9 gw[k])::oX w.heap.size ns.length (gw.take k) W ao k)) R t) (np:=(u9 gw[k]).R) (jP _ (fj ⟨PA,PA,PA,PA,Y,Y,PA,PA,PA,PA⟩)) m (λk'=>?_) (λu t h1 h2=>?_) λR sz t Ew atk aFA P⟨mD,atl⟩=>?_
   .have m:=jP (N:=57) (K:=aK ((27,b6 1 tn (gw.take k))::(25,uZ ns[k])::(26,b6 1 pJ ts)::(28,nw W ao)::oX w.heap.size ns.length (gw.take k) W ao k)) w.heap.size (fj ⟨PA,PA,PA,PA,Y,Y,PA,PA,PA,PA⟩) _ _ _ _ _ ((show ea S y (y.at k')from λ_ _ _ _ _ x=>x).lV p.fF) p.all m;obtain⟨v25,JO,atm⟩:=m.has 25 _ Y;obtain⟨v26,UO,atn⟩:=m.has 26 _ Y;obtain⟨v27,UP,ato⟩:=m.has 27 _ Y;obtain⟨v28,NQ,atp⟩:=m.has 28 _ Y;rw[show(#[Operand.tmp 25,.tmp 26,.tmp 27,.tmp 28].map bC.eval)=#[v25,v26,v27,v28]from by simp[eb JO,eb UO,eb UP,eb NQ]];exact hw k _ _ oF B _ S (y.at k') (mQ (l:=[v25,v26,v27,v28]) λv hv=>by
     simp only[List.mem_cons,List.not_mem_nil,or_false]at hv;rcases hv with rfl|rfl|rfl|rfl
     .exact p.all.get _ _ _ JO JO
     .exact p.all.get _ _ _ UO UO
     .exact p.all.get _ _ _ UP UP
     .exact p.all.get _ _ _ NQ NQ) (ff (v:=v25) Lm atm<|ff (v:=v26) Lm atn<|ff (v:=v27) Lm ato<|ff (v:=v28) Lm atp<|Gv A_)
   .exact⟨⟨(dP Ae).trans L.1,(dP Ae).trans L.2⟩,(h1.put Ae (Below.refl _ _) h2).aU ⟨Y,Y,Y,Y,Y,Y,PA⟩⟩
   .refine UN l3 Q (sub P.sub).1 (sub P.sub).2 P (k':=yF f22) AV AV (s:=0) (s':=17) (I:=af 57 (aK ((29,u9 gw[k])::oX w.heap.size ns.length (gw.take k) W ao k))) (J:=af 57 (aK (oX w.heap.size ns.length (gw.take k++[gw[k]]) W ao (k+1)))) (jP _ (fj ⟨PA,Y,Y,PA,PA,PA,PA⟩)) (jP _ (fj ⟨Y,Y,PA,PA,PA,PA⟩)) atl (λW1 q f=>asX wZ a0 T (Z _ E).1 (Z _ E).2 (λx h=>(Z x (List.mem_of_mem_take h)).2) P.defers q mD.1 mD.2 f) λcC zB w4 Al PR D=>?_;rw[List.take_append_getElem As]at D;exact ih (k+1) As cC zB w4 Ew atk As Al PR D
 have H:=Held.start (n0:=w.heap.size) F J1 (a:=⟨#[b3,.slice bz ns.length cap,.agg #[.int .i64 W,.int .i64 ao]]++Array.replicate 54 undef,[]⟩) (X.append (Gs _ _)) Y;exact UN l3 Q V U H (k':=yF f22) AV AV (s:=0) (s':=17) (I:=af 57 (aK [(2,nw W ao),(3,oP)])) (J:=af 57 (aK (oX w.heap.size ns.length [] W ao 0))) (jP _ (fj ⟨PA,PA,PA⟩)) (jP _ (fj ⟨Y,Y,PA,PA,PA,PA⟩)) (ff (v:=.agg #[.int .i64 W,.int .i64 ao]) Lm Y<|ff (v:=undef) A_ Y<|Gv A_) (λW1 q f=>asS a0 Y q (ff (v:=b3) Lm Y<|ff (v:=.slice bz ns.length cap) Lm Y f)) λbC S y p L m=>loop ns.length 0 (Nat.zero_add _) bC S y n Shun J1 p L m
end
end aG
namespace aG
open Conc ConcM RowKit av bn cz c5 bZ bN
variable{w w':aO}{v:Value}{t:List aA}
section
variable{n0:Nat}
def Am(n0:Nat)(T:TypeId)(N:Nat)(w:aO)(v:Value):Prop:=∃b cs,v=.pointer (some ⟨b,0,none⟩)/\n0<=b/\ag w b cs T/\cs.size=N
def UQ(T:TypeId)(N:Nat):j2 n0 (Am n0 T N):=by rintro ρ w w' v g a c ⟨b,cs,rfl,hn,d,hs⟩;obtain⟨f,rfl,r⟩:=FR c;obtain⟨c',h1,e⟩:=a.types _ _ _ _ _ r d;exact⟨f,c',Y,a.new _ _ r hn,h1,e.trans hs⟩
def yK(t:List aA)(w:aO)(v:Value):Prop:=∃lE l8 kD v',v=.slice (some ⟨lE,l8,none⟩) 1 kD/\w.cell? ⟨lE,l8,none⟩=some v'/\m8 w v' t
def atq(t:List aA):j2 n0 (yK t):=by rintro ρ w w' v i b f ⟨lE,a,e,x,rfl,h1,h⟩;obtain⟨c,rfl,r⟩:=xK f;obtain⟨d,h3,g⟩:=b.cells ⟨lE,a,none⟩ ⟨c,a,none⟩ x ⟨r,Y,Y⟩ h1;exact⟨c,a,e,d,Y,h3,av.a8.carry vW b.cells g h⟩
def zA{ρ:Ren}(t:Carry ρ w w'){nb d no:Nat}(r:ρ.rel nb d){op f:Int}{e:Option Addr}{n c:Nat}(h:rx w nb no op f (.slice e n c)):∃b,ay ρ (.slice e n c) (.slice b n c)/\rx w' d no op f (.slice b n c):=by have key:∀j v,(jh op f (.slice e n c))[j]?=some v->∃g,w'.cell? ⟨d,no+j,none⟩=some g/\ay ρ v g:=λj v a=>t ⟨nb,no+j,none⟩ ⟨d,no+j,none⟩ v ⟨r,Y,Y⟩ (h j v a);obtain⟨A,h0,x⟩:=key 0 _ Y;obtain⟨C,h1,s⟩:=key 1 _ Y;obtain⟨dA,l,q⟩:=key 2 _ Y;obtain⟨B,h3,i⟩:=key 3 _ Y;obtain⟨gM,k,p⟩:=key 4 _ Y;obtain⟨z,o,y⟩:=key 5 _ Y;obtain⟨D,m,u⟩:=key 6 _ Y;rw[js x]at h0;rw[js s]at h1;rw[js q]at l;rw[qv p]at k;rw[qv y]at o;rw[qv u]at m;obtain⟨b,rfl⟩:=SL i;refine⟨b,i,λj v a=>?_⟩;match j with|0=>cases a;exact h0|1=>cases a;exact h1|2=>cases a;exact l|3=>cases a;exact h3|4=>cases a;exact k|5=>cases a;exact o|6=>cases a;exact m|j+7=>simp[jh]at a
def yL(fs:List (List bI))(w:aO)(v:Value):Prop:=∃nb no bA,v=.slice (some ⟨nb,no,none⟩) (fs.length+1) bA/\rx w nb no 1 0 (.slice none 0 0)/\∀k(h:k<fs.length),DS w nb no k fs[k]
def atr(fs:List (List bI)):j2 n0 (yL fs):=by rintro ρ w w' v x b l ⟨nb,no,t,rfl,h1,n⟩;obtain⟨u,rfl,r⟩:=xK l;obtain⟨z,q,d⟩:=zA b.cells r h1;have:=qv q;rw[this]at d;refine⟨u,no,t,Y,d,λk h=>?_⟩;obtain⟨k9,c,g,sv,g1,o,p⟩:=n k h;obtain⟨y,j,i⟩:=zA b.cells r g1;obtain⟨a,s,f⟩:=xK j;cases s;obtain⟨e,h3,m⟩:=b.cells ⟨k9,c,none⟩ ⟨a,c,none⟩ sv ⟨f,Y,Y⟩ o;exact⟨a,c,g,e,i,h3,av.a8.carry zQ b.cells m p⟩
def UR(N:Nat)(l:List (Int×Int))(w:aO)(x:Value):Prop:=∃g c v,x=.slice (some ⟨g,0,none⟩) N c/\w.cell? ⟨g,N-1,none⟩=some v/\eP w v l
def att(N:Nat)(l:List (Int×Int)):j2 n0 (UR N l):=by rintro ρ w w' v i a e ⟨g,c,x,rfl,h1,h⟩;obtain⟨b,rfl,r⟩:=xK e;obtain⟨d,h3,f⟩:=a.cells ⟨g,N-1,none⟩ ⟨b,N-1,none⟩ x ⟨r,Y,Y⟩ h1;exact⟨b,c,d,Y,h3,av.a8.carry amg a.cells f h⟩
def NT{ρ:Ren}(i:xH n0 ρ w w'){f:Value}(g:ay ρ v f){e:TypeId}(h:oJ w v e):oJ w' f e:=by
 intro b d;cases g with
 |@slice a a' l c r=>simp[Value.ownBlock]at d;subst d;obtain⟨c,z,h1⟩:=h a.block Y;obtain⟨c',j,-⟩:=i.types _ _ _ _ _ r.1 h1;grind
 | _=>cases d
def NU(t:List aA):j2 n0 λw v=>jM w v t:=by rintro ρ w w' v I a c ⟨⟨bz,cap,rfl,y,F⟩,ht⟩;obtain⟨H,rfl⟩:=SL c;refine⟨⟨H,cap,Y,y,λi hi=>?_⟩,NT a c ht⟩;obtain⟨b,off,rfl,bg,vs,L,h0,h1,A,h3,z,f,p,o,n⟩:=F i hi;obtain⟨d,e,r⟩:=xK c;cases e;have key:∀j x,w.cell? ⟨b,off+i*5+j,none⟩=some x->∃g,w'.cell? ⟨d,off+i*5+j,none⟩=some g/\ay ρ x g:=λj x u=>a.cells ⟨b,off+i*5+j,none⟩ ⟨d,off+i*5+j,none⟩ x ⟨r,Y,Y⟩ u;obtain⟨J,m,E⟩:=key 0 _ h0;obtain⟨K,g1,q⟩:=key 1 _ h1;obtain⟨dA,B,l⟩:=key 2 _ A;obtain⟨D,C,k⟩:=key 3 _ h3;obtain⟨gM,s,h⟩:=key 4 _ z;rw[js E]at m;rw[js q]at g1;exact⟨d,off,Y,dA,D,gM,m,g1,B,C,s,⟨av.a8.carry IE a.cells l f.fg,av.a8.carry Mp a.cells k f.dl,av.a8.carry Mo a.cells h f.cp⟩,NT a l p,NT a k o,NT a h n⟩
def yM(t:List aA)(w:aO)(u:Value):Prop:=∃aT,u=.tuple #[.agg #[aT],.int .i64 0,ry]/\jM w aT t
def atu(t:List aA):j2 n0 (yM t):=by
 rintro ρ w w' v e b a ⟨aT,rfl,h⟩;obtain⟨f,rfl,k⟩:=IR a;cases k with
 |cons h1 k=>cases k with
  |cons c k=>cases k with
   |cons h3 k=>cases k;obtain⟨m,rfl,q⟩:=tg h1;cases q with|cons d q=>cases q;exact⟨_,by rw[js c,UF h3],NU t _ _ _ _ _ b d h⟩
theorem yK.keeps(h:yK t w v)(a:bo w w'):yK t w' v:=by obtain⟨lE,b,c,x,rfl,h1,d⟩:=h;exact⟨lE,b,c,x,Y,a _ _ _ h1,d.mono rM a⟩
theorem yL.keeps{es:List (List bI)}(h:yL es w v)(a:bo w w'):yL es w' v:=by obtain⟨nb,no,d,rfl,h1,c⟩:=h;exact⟨nb,no,d,Y,λj x b=>a _ _ _ (h1 j x b),λk h=>xo (c k h) a⟩
def An{Y:TypeId->Prop}(a:Below w.heap.size w w'):hH Y w w':=.pt (.below a)
def wD(t:List aA)(w:aO)(v:Value):Prop:=∃aT,v=.agg #[aT]/\jM w aT t
theorem zp(t:List aA):j2 n0 (wD t):=by rintro ρ w w' v d b a ⟨aT,rfl,h⟩;obtain⟨m,rfl,q⟩:=tg a;cases q with|cons c q=>cases q;exact⟨_,Y,NU t _ _ _ _ _ b c h⟩
def sA(n0:Nat)(t:List aA)(w:aO)(v:Value):Prop:=∃b aT,v=.pointer (some ⟨b,0,none⟩)/\n0<=b/\ag w b #[aT] 28/\jM w aT t
theorem US(t:List aA):j2 n0 (sA n0 t):=by
 rintro ρ w w' v g a e ⟨b,aT,rfl,hn,d,h⟩;obtain⟨c,rfl,r⟩:=FR e;obtain⟨c',h1,i⟩:=a.types _ _ _ _ _ r d;obtain⟨x,h3,f⟩:=a.cells ⟨b,0,none⟩ ⟨c,0,none⟩ aT ⟨r,Y,Y⟩ ((ag.rules d).1 0 |>.trans Y);have h1:ag w' c c' _:=h1;have:c'=#[x]:=by grind[ag.rules]
 subst this;exact⟨c,x,Y,a.new _ _ r hn,h1,NU t _ _ _ _ _ a f h⟩
def JP(t:List aA)(w:aO)(u:Value):Prop:=∃aT,u=.tuple #[.agg #[aT],.bool true]/\jM w aT t
def zn(t:List aA):j2 n0 (JP t):=by
 rintro ρ w w' v e b a ⟨aT,rfl,h⟩;obtain⟨f,rfl,k⟩:=IR a;cases k with
 |cons h1 k=>cases k with
  |cons c k=>cases k;obtain⟨m,rfl,q⟩:=tg h1;cases q with|cons d q=>cases q;exact⟨_,by rw[SK c],NU t _ _ _ _ _ b d h⟩
def jQ(n0:Nat)(T:TypeId)(N:Nat):bp:=⟨Am n0 T N,λ_ _ _ hb⟨b,cs,e,h1,h2,h3⟩=>⟨b,cs,e,h1,h2.call hb,h3⟩,λn=>n=n0,λn h=>h▸UQ T N⟩
def JQ(n0:Nat)(t:List aA):bp:=⟨sA n0 t,λ_ _ _ hb⟨b,aT,e,h1,h2,h3⟩=>⟨b,aT,e,h1,h2.call hb,h3.kept (An hb)⟩,λn=>n=n0,λn h=>h▸US t⟩
def la(t:List aA):bp:=⟨wD t,λ_ _ _ hb⟨aT,e,h⟩=>⟨aT,e,h.kept (An hb)⟩,λ_=>True,λ_ _=>zp t⟩
def yN(t:List aA):bp:=⟨yK t,λ_ _ _ hb h=>h.keeps (bo.cj hb),λ_=>True,λ_ _=>atq t⟩
def JR(fs:List (List bI)):bp:=⟨yL fs,λ_ _ _ hb h=>h.keeps (bo.cj hb),λ_=>True,λ_ _=>atr fs⟩
def JS(N:Nat)(l:List (Int×Int)):bp:=⟨UR N l,λ_ _ _ hb⟨g,c,v,e,h1,h2⟩=>⟨g,c,v,e,bo.cj hb _ _ _ h1,h2.mono nL (bo.cj hb)⟩,λ_=>True,λ_ _=>att N l⟩
def Ao(t:List aA):bp:=⟨yM t,λ_ _ _ hb⟨aT,e,h⟩=>⟨aT,e,h.kept (An hb)⟩,λ_=>True,λ_ _=>atu t⟩
def yO(t:List aA):bp:=⟨JP t,λ_ _ _ hb⟨aT,e,h⟩=>⟨aT,e,h.kept (An hb)⟩,λ_=>True,λ_ _=>zn t⟩
def JT(rs:List bB):bp:=⟨DV rs,λ_ _ _ hb⟨aT,e,h⟩=>⟨aT,e,h.mono r8 (bo.cj hb)⟩,λ_=>True,λ_ _=>wI rs⟩
def Gz:bp:=⟨eo ry,th.eq _,λ_=>True,λ_ _ _ _ _ _ _ _ hv h=>by cases h;exact UF hv⟩
def n5.kept{T:TypeId}(h:n5 T w w')(f:¬pw T):hH pw w w':=⟨h.1,λb c e z d a=>by
 obtain⟨c',h1,-,g⟩:=h.2 b c e z d;rw[g λq=>f (q▸a)]at h1;exact h1⟩
def n5.box{T T':TypeId}(h:n5 T w w'){b:Nat}{cs:Array Value}(a:ag w b cs T'):∃c',ag w' b c' T'/\c'.size=cs.size/\(T'≠T->c'=cs):=h.2 b cs T' _ a
theorem n5.set{T:TypeId}{b:Nat}{cs:Array Value}(d:ag w b cs T)(o:Nat)(v:Value):n5 T w (w.setCell ⟨b,o,none⟩ v):=⟨by simp[World.setCell],λf c e z a=>by
 by_cases h:f=b
 .subst h;rw[show w.heap[f]?=some (.cells cs T)from d]at a;cases a;exact⟨_,d.set o v,A_,λh=>absurd Y h⟩
 .exact⟨c,(Below.heap_setCell _ _ _ _ h).trans a,Y,λ_=>Y⟩⟩
theorem n5.trans{T:TypeId}{w'':aO}(h:n5 T w w')(k:n5 T w' w''):n5 T w w'':=⟨Nat.le_trans h.1 k.1,λb c e z i=>by
 obtain⟨c',h1,j,h3⟩:=h.2 b c e z i;obtain⟨a,g,f,d⟩:=k.2 b c' e z h1;exact⟨a,g,f.trans j,λq=>(d q).trans (h3 q)⟩⟩
abbrev kE(T:TypeId):Prop:=T=28\/T=63
def JU{T:TypeId}(h:kE T):¬pw T:=by rcases h with rfl|rfl<;>simp[pw]
section
variable{T T':TypeId}{N:Nat}
def Ap:n6 T (jQ n0 T' N):=λw w' v h⟨b,cs,e,h1,d,h3⟩=>by obtain⟨c',c,a,-⟩:=h.box d;exact⟨b,c',e,h1,c,a.trans h3⟩
def zm(c:T=63):n6 T (JQ n0 t):=λw w' v h⟨b,aT,e,h1,f,h3⟩=>by obtain⟨c',a,g,d⟩:=h.box f;rw[d (by rw[c];decide)]at a;exact⟨b,aT,e,h1,a,h3.kept (h.kept (JU (.inr c)))⟩
def atw(d:T=28):n6 T (Gt n0):=λw w' v h⟨b,e,h1,f⟩=>by obtain⟨c',a,g,c⟩:=h.box f;rw[c (by rw[d];decide)]at a;exact⟨b,e,h1,a⟩
def GA(a:kE T):n6 T (la t):=λw w' v h⟨aT,e,h1⟩=>⟨aT,e,h1.kept (h.kept (JU a))⟩
def atx(a:kE T):n6 T (Ao t):=λw w' v h⟨aT,e,h1⟩=>⟨aT,e,h1.kept (h.kept (JU a))⟩
def JV(a:kE T):n6 T (yO t):=λw w' v h⟨aT,e,h1⟩=>⟨aT,e,h1.kept (h.kept (JU a))⟩
def zl{o:Oper}{x y:Operand}{ev:Operand->Value}(e:o.op=.store 28 x y)(g:Am n0 28 1 w (ev x))(f:wD t w (ev y)):∃w',(execOp ev o).run (ae prog true) w=.ok .skip w'/\n5 28 w w'/\Below n0 w w'/\sA n0 t w' (ev x):=by
 obtain⟨b,cs,h,hn,c,hs⟩:=g;obtain⟨aT,r,a⟩:=f;obtain⟨⟨j,i,rfl,-,-⟩,-⟩:=id a;obtain⟨q,rfl⟩:∃q,cs=#[q]:=by obtain⟨l⟩:=cs;match l,hs with| [q],_=>grind
 have d:=n5.set c 0 (.slice j t.length i);refine⟨_,?_,d,(Below.refl n0 w).setCell (p:=⟨b,0,none⟩) hn _,b,_,h,hn,c.set 0 _,a.kept (d.kept (JU Kg))⟩;obtain⟨n,m,k⟩:=c.all;clear a d c;cases o;simp only at e;subst e;go_simp
def UT{o:Oper}{x y:Operand}{ev:Operand->Value}(d:o.op=.store 63 x y)(f:Am n0 63 2 w (ev x))(e:ev y=ry):∃w',(execOp ev o).run (ae prog true) w=.ok .skip w'/\n5 63 w w'/\Below n0 w w'/\UE n0 w' (ev x):=by
 obtain⟨b,cs,g,hn,a,hs⟩:=f;obtain⟨q,r,rfl⟩:∃q r,cs=#[q,r]:=by obtain⟨l⟩:=cs;match l,hs with| [q,r],_=>grind
 have c:=a.set 0 (.int .i64 0);refine⟨_,?_,(n5.set a 0 (.int .i64 0)).trans (n5.set c 1 (.slice none 0 0)),((Below.refl n0 w).setCell (p:=⟨b,0,none⟩) hn _).setCell (p:=⟨b,1,none⟩) hn _,b,g,hn,c.set 1 _⟩;obtain⟨j,i,h⟩:=a.all;clear c a;unfold ry at e;cases o;simp only at d;subst d;go_simp
end
end
end aG
namespace bN
open RowKit av aG
section
attribute [local go_sem ↓] Go.wp_at_zero Go.wp_at_succ
def rz(fs:List (List bI)):List lI:=⟨1,0,0,[],[],[],[]⟩::fs.zipIdx.map λp=>⟨2,(p.2:Int),0,[p.1],[],[],[]⟩
theorem UY(fs:List (List bI)):(rz fs).length=fs.length+1:=by simp[rz]
def tH{w:aO}{k9 a b:Nat}{sv:Value}{ts:List bI}(h:w.cell? ⟨k9,a,none⟩=some sv)(ht:p8 w sv ts):Qq w (.slice (some ⟨k9,a,none⟩) 1 b) [ts]:=by
 refine⟨_,_,Y,A_,λi hi=>⟨k9,a,Y,sv,?_,?_⟩⟩
 .grind
 grind
def atQ{w:aO}{nb no o N:Nat}{fs:List (List bI)}(j:fs.length+1=N)(a0:N<=3)(m:rx w nb no 1 0 (.slice none 0 0))(l:∀k(h:k<fs.length),DS w nb no k fs[k]):HF w (.slice (some ⟨nb,no,none⟩) N o) (rz fs):=by
 refine⟨_,_,by rw[UY,j],by rw[UY];omega,λi hi=>⟨nb,no,Y,?_⟩⟩;cases i with
 |zero=>obtain⟨g,d1,f,d,c,b,a⟩:=D3 m;exact⟨_,_,_,_,by grind[rz],by grind[rz],by grind[rz],AA,AA,AA,AA,⟨a8.nil _ _ _,a8.nil _ _ _,a8.nil _ _ _,a8.nil _ _ _⟩⟩
 |succ k=>
  have hk:k<fs.length:=by grind[UY]
  obtain⟨k9,p,q,sv,h1,n,h3⟩:=l k hk;obtain⟨g,d1,f,d,c,b,a⟩:=D3 h1;have e:(rz fs)[k+1]=⟨2,(k:Int),0,[fs[k]],[],[],[]⟩:=by simp[rz]
  rw[e];have x:no+(k+1)*7=no+7*(k+1):=As;rw[x];exact⟨_,_,_,_,g,d1,f,d,c,b,a,⟨tH n h3,a8.nil _ _ _,a8.nil _ _ _,a8.nil _ _ _⟩⟩
def atR(t:List aA)(fs:List (List bI)){N:Nat}(a0:N=2\/N=3)(vT:fs.length+1=N)(lE n o nb no p:Nat)(w:aO)(N1:A4 w (.slice (some ⟨lE,n,none⟩) 1 o) [t])(Z:lM t=true)(L:rx w nb no 1 0 (.slice none 0 0))(K:∀k(h:k<fs.length),DS w nb no k fs[k])(mF:∀f∈fs,∀t∈f,Met t.op)(pg:∀f∈fs,gB f (jn t)=((4,0),true)):
 Calls (ae prog true) 21 #[.slice (some ⟨lE,n,none⟩) 1 o,.slice (some ⟨nb,no,none⟩) N p] w λe w'=>∃g c v,e=.returned (.tuple #[.slice (some ⟨g,0,none⟩) N c,.int .i64 0,.int .i64 0])/\w'.cell? ⟨g,N-1,none⟩=some v/\eP w' v (jn t)/\Below w.heap.size w w':=by
 have iY:t.length<=8:=by simp_all[lM]
 have hok:told (A9 (w7 [t]) [t].length)=(0,false):=by
  rw[XM (λj hj=>by
   grind[w7])]
  rfl
 have E:HF w (.slice (some ⟨nb,no,none⟩) N p) (rz fs):=atQ vT As L K;have O:Hid (A4 w (.slice (some ⟨lE,n,none⟩) 1 o) [t]):=N1;have wE:Hid (rx w nb no 1 0 (.slice none 0 0)):=L;have D:Hid (∀k(h:k<fs.length),DS w nb no k fs[k]):=K;have C:Hid (HF w (.slice (some ⟨nb,no,none⟩) N p) (rz fs)):=E;have QG:Hid (∀f∈fs,∀t∈f,Met t.op):=mF;have X:Hid (∀f∈fs,gB f (jn t)=((4,0),true)):=pg;clear L K E mF pg N1 Z;go_enter (a6 (upd:=true) func21 AV),ntmps21
 go_wp2_with fail
 refine(ajc [t] _ _ O.out).mono ?_;rintro e w1 ⟨rfl,a9⟩;rw[hok];have ez:Hid (Below w.heap.size w w1):=a9;have u:=bo.cj a9;have B:Hid (Own w1 (w1.alloc (.cells #[.slice (some ⟨lE,n,none⟩) 1 o,.slice (some ⟨nb,no,none⟩) N p,.slice none 0 0,.slice none 0 0] 88)) w1.heap.size (.slice (some ⟨lE,n,none⟩) 1 o) (.slice (some ⟨nb,no,none⟩) N p) (.slice none 0 0) (.slice none 0 0) [t] (rz fs) [] [] []):=
  ⟨(Below.refl _ _).alloc J1 _,a8.mono Lc u O.out,a8.mono Qr u C.out,Nat.le_refl _,ag.new _ _ _,World.ownsRow_nil _ _ _ _,World.ownsRow_nil _ _ _ _,A_,A_,AA⟩
 have M3:Hid (rx w1 nb no 1 0 (.slice none 0 0)):=JW wE.out u;have V:Hid (∀k(h:k<fs.length),DS w1 nb no k fs[k]):=λk h=>xo (D.out k h) u;clear a9 u O wE D C;go_wp2_with fail
 go_loopw [27] (λx W=>∃(i:Nat)(J P:Value)(vals:List Value),i<=N/\x=.int .i64 (i:Int)/\Own w1 W w1.heap.size (.slice (some ⟨lE,n,none⟩) 1 o) (.slice (some ⟨nb,no,none⟩) N p) J P [t] (rz fs) (List.replicate i (jn t)) (tr i) vals) (λx _=>N-(intOf x).toNat)
 case atStart=>exact⟨0,_,_,_,Nat.zero_le _,Y,B.out⟩
 case round=>
  clear B;obtain⟨i,J,P,vals,hi,rfl,Q⟩:=hrel;have d:Hid (Own w1 wr w1.heap.size (.slice (some ⟨lE,n,none⟩) 1 o) (.slice (some ⟨nb,no,none⟩) N p) J P [t] (rz fs) (List.replicate i (jn t)) (tr i) vals):=Q;have M:=Q.box.rules.1;clear Q;by_cases s:i<N
  .have lL:(i:Int)<(N:Int):=by omega
   have A:Calls (ae prog true) 27 #[.pointer (some ⟨w1.heap.size,0,none⟩),.int .i64 i] wr λe w'=>e=.returned (.int .i64 0)/\∃NV NW NY,Own w1 w' w1.heap.size (.slice (some ⟨lE,n,none⟩) 1 o) (.slice (some ⟨nb,no,none⟩) N p) NV NW [t] (rz fs) (List.replicate (i+1) (jn t)) (tr (i+1)) NY:=by
    cases i with
    |zero=>
     refine(y1 (i:=0) (l:=jn t) (ch:=[]) d.out s As (by simp[tr]) (by simpa using M3.out) A_ A_ (atB a0 _ _ _ _ _ _ _ (by rw[M];rfl) (by rw[M];rfl) (JW M3.out (bo.cj d.out.below))) (λw' a=>?_) (λw'=>atD w')).mono ?_
     .exact ajl w1.heap.size 0 0 _ [t] none none none none 0 0 0 0 0 0 0 0 w' (by rw[a.box.rules.1];rfl) (a8.mono Lc (bo.cj a.below) a.zq) A_ iY
     simp_all[tr,kU]
    |succ k=>
     have hk:k<fs.length:=As;obtain⟨k9,oW,mW,sv,c1,cr,dm⟩:=V.out k hk;obtain⟨g,c,rfl,I,r,H,-,k2⟩:=tN d.out (by rw[N0];omega);rw[N0]at r;have yI:(N=2/\k=0)\/(N=3/\k=0)\/(N=3/\k=1):=As;have x:no+(k+1)*7=no+7*(k+1):=As;refine(y1 (i:=k+1) (l:=jn t) (ch:=[(k:Int)]) d.out s As AA (by rw[x];exact c1) (λy hy=>⟨k,AA,AA⟩) A_ (atC yI _ g c _ _ _ _ _ _ r (I k false (by simp[tr])) H (JW c1 (bo.cj d.out.below))) (λw' a=>?_) (λw'=>atE k _ mW w')).mono ?_
     .have z:=bo.cj a.below;have hf:w9 ⟨2,(k:Int),0,[fs[k]],[],[],[]⟩ (jn t)=true:=by simp[w9,X.out _ (List.getElem_mem hk)]
      have:=ajm w1.heap.size k 0 [fs[k]] [] [] [] J (List.replicate (k+1) (jn t)) (.slice (some ⟨k9,oW,none⟩) 1 mW) (.slice none 0 0) (.slice none 0 0) (.slice none 0 0) w' ⟨tH (z _ _ _ cr) (a8.mono p7 z dm),a8.nil _ _ _,a8.nil _ _ _,a8.nil _ _ _⟩ (by rw[a.box.rules.1];rfl) a.ajq.types A_ A_ (by simpa using QG.out _ (List.getElem_mem hk)) (λb off cap v hv hc=>?_)
      .rw[List.getElem_replicate,hf]at this;exact this
      .obtain⟨v2,F,-,bV⟩:=a.each k A_;obtain⟨UZ,Gw,U,-,-⟩:=World.ownsRow.form a.ph A_;subst U;have aFQ:=qV a.ph k v2 F;grind
     grind[atO]
   have fa:Hid _:=A;clear A M;go_wp2_with fail
   refine Calls.mono fa.out ?_;rintro e w2 ⟨rfl,NV,NW,NY,h2⟩;have gm:Hid _:=h2;clear h2 d fa;go_wp2_with fail
   go_roundw
   case rel=>exact⟨i+1,_,_,_,As,A_,gm.out⟩
   case measure=>simp[intOf];omega
  .obtain rfl:i=N:=by omega
   obtain⟨g,c,rfl,I,r,H,-,k2⟩:=tN d.out (by rw[N0];omega);rw[N0]at r;obtain⟨UZ,Gw,rfl,-,-⟩:=World.ownsRow.form d.out.ph AA;obtain⟨v2,F,q,-⟩:=d.out.each (i-1) AA;have T:Hid _:=qV d.out.ph (i-1) v2 F;rw[List.getElem_replicate]at q;have S:Hid (eP wr v2 (jn t)):=q;have lL:¬((i:Int)<(i:Int)):=As;have R:Hid _:=atP a0 _ g c _ _ _ H r (λj hj=>I j true (by
    obtain⟨m,rfl⟩:∃m,i=m+1:=⟨i-1,As⟩;grind[tr]))
   simp only[List.length_replicate]at k2;clear I H r F q;go_wp2_with fail
   refine Calls.mono R.out ?_;rintro e w2 ⟨rfl,rfl⟩;go_wp2_with fail
   refine bodyPost_ret (v:=.tuple #[.slice (some ⟨UZ,0,none⟩) i Gw,.int .i64 0,.int .i64 0]) (by simp[results,results21,go_sem]) Y ⟨UZ,Gw,v2,Y,T.out,?_,Below.step d.out.below ez.out ez.out.size⟩;exact S.out
end
end bN
end Go.Proofs.YtncomcmfgmojkaaGreat
