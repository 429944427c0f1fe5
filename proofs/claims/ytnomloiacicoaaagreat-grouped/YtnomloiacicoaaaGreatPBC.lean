/- Proved: the statement GroupedSaid of quarrykeep.Grouped at this commit, whole and without further conditions: for every argument within the seat's bounds the call ends as the law asks, whatever the goroutines' order. The texts are packed: names shortened by program. -/
import Derived.Test.YtnomloiacicoaaaGreatRows
import Derived.Deep.Fields
import Derived.Test.YtnomloiacicoaaaGreatPBB
set_option linter.all false
set_option maxRecDepth 100000
set_option maxHeartbeats 16000000
namespace Go.Proofs.YtnomloiacicoaaaGreat
open Go.Proofs.Tryz
namespace IR
open Conc ConcM RowKit av bj cV dx bd b_ e9 aV gD
section
variable{O:gW}{n0:Nat}
abbrev hv(x y:Int):Value:=.agg #[.I x,.I y]
section
variable{P:cE}{Post:hV}{n:Nat}{Shun:ual}{w:aR}{f:uak}{b:Act}{ops ops':fF}{i:Nat}{rest:uac}{k k':uab}{cs:hH}{o:Oper}
def Yk(h:∀w,stepG P true (a4 ((base f).at b k) cs) w=.go (a4 ((base f).at b k') cs) w #[])(hn:∀j,bT P Post n Shun 0 (a4 ((base f).at b k') cs) (w.at j)):bT P Post n Shun 0 (a4 ((base f).at b k) cs) w:=
 Dy Y λj=>⟨_,w.at j,#[],h _,AS,vac _,hn j⟩
def jx{id:Nat}{l:uac}(a:List.range ops.size=l)(h:∀j,bT P Post n Shun 0 (a4 ((base f).at b (.R ops l::k)) cs) (w.at j)):bT P Post n Shun 0 (a4 ((base f).at b (.code (.region id ops false)::k)) cs) w:=by refine Yk (λw=>?_) h;grind[a4,stepG,stepG.exec,Frame.at]
def iX{x y}(h:∀j,bT P Post n Shun 0 (a4 ((base f).at b (.code x:: .code y::k)) cs) (w.at j)):bT P Post n Shun 0 (a4 ((base f).at b (.code (.seq x y)::k)) cs) w:=
 Yk (λw=>by simp[a4,stepG,stepG.exec,Frame.at,base]) h
def aEN{id:Nat}{l:uac}{y:Code}(a:List.range ops'.size=l)(h:∀j,bT P Post n Shun 0 (a4 ((base f).at b (.R ops' l:: .code y::k)) cs) (w.at j)):bT P Post n Shun 0 (a4 ((base f).at b (.R ops []:: .code (.seq (.region id ops' false) y)::k)) cs) w:=
 Yk (k':=.code (.seq (.region id ops' false) y)::k) (λw=>by simp[a4,stepG,stepG.exec,Frame.at,base]) λ_=>iX λ_=>jx a h
def Yl(e:ops[i]?=some o)(h:o.guard=none){d}(hd:o.dst=some d){v}{w1:aR}(c:∀j,(execOp b.eval o).run P (w.at j)=.ok (.value v) (w1.at j))(l:∀j,(execOp b.eval o).events P (w.at j) #[]=#[])(hs:w.heap.size<=w1.heap.size)(g:∀j,bT P Post n Shun 0 (a4 ((base f).at (b.put (some d) v) (.R ops rest::k)) cs) (w1.at j)):bT P Post n Shun 0 (a4 ((base f).at b (.R ops (i::rest)::k)) cs) w:=by
 refine Dy Y λj=>⟨_,w1.at j,#[],?_,AS,hs,g j⟩;have h1:=vbd (P:=P) (main:=true) (b:=base f) (a:=b) (k:=k) (cs:=cs) (rest:=rest) e (xX h _) (by simp[base]) (c j);have h2:listed P (base f).fn b o (w.at j)=#[]:=by grind[listed,seen_none]
 rw[h2,hd]at h1;exact h1
def _root_.Go.Proofs.YtnomloiacicoaaaGreat.aV.Home.lay{M:dL}(d:Home O P M Shun w){c:dX}(T:uaa)(e:aJ (b7 M) c c):Home O P (λb=>M b\/b=w.heap.size) Shun (w.alloc (.cells c T)):=by
 have le:=tJ (M':=λb=>M b\/b=w.heap.size) λb(h:M b)=>.inl h;have hs:(w.alloc (.cells c T)).heap.size=w.heap.size+1:=AS;have f:=d.ob;refine⟨λb a=>?_,λg hg=>.inl (d.ze g hg),λb a=>d.sh b ?_,λb a h0=>?_,AQ,λb h0 a=>(vcw _ _ _ AQ).trans (d.old b h0 a),d.so⟩
 .rcases a with a|rfl
  .obtain⟨o,h1,h2⟩:=d.cl b a;exact⟨o,(vcw _ _ _ (d.lt a)).trans h1,h2.imp (λh=>h.mono le) id⟩
  .exact⟨_,vbb w _,.inl (.cells _ (e.mono le) ⟨λ_ h=>h,λ_=>Y⟩)⟩
 .grind
 .rcases a with a|rfl
  .exact d.new b a h0
  grind
def aEO{w o}j:nu w ((w.alloc o).at j):=⟨by show w.heap.size<=(w.alloc o).heap.size;simp,.refl _,Y,Y⟩
end
def Ym(a b:Value)(i:Nat):(#[a,b]++Array.replicate 107 undef:dX)[i]?=if i=0 then some a else if i=1 then some b else if i<109 then some undef else none:=by
 rcases i with _ | _ |i
 .simp_all
 .simp_all
 grind[Array.getElem?_append_right]
def IS(rv dG p u:Value):Act:=((((⟨#[rv,dG]++Array.replicate 107 undef,[]⟩:Act).put (some 3) p).put (some 4) (.F)).put (some 13) rv).put (some 14) u
def w_(dG p u:Value):Act:=(((⟨#[undef,dG]++Array.replicate 107 undef,[]⟩:Act).put (some 3) p).put (some 4) (.F)).put (some 14) u
theorem Yn a p u i:(w_ a p u).tmps[i]?=if 14=i then some u else if 4=i then some (.F)else if 3=i then some p else if i=0 then some undef else if i=1 then some a else if i<109 then some undef else none:=by simp only[w_,Act.put,vam,vey,Array.size_append,vdv,vdg,List.length_nil,Array.size_replicate,Ym];rfl
def aEP rv a p u:jv (w9 λ_=>some rv) (w_ a p u) (IS rv a p u):=by
 have c:=Yn a p u;have b:∀i,(IS rv a p u).tmps[i]?=if 14=i then some u else if 13=i then some rv else if 4=i then some (.F)else if 3=i then some p else if i=0 then some rv else if i=1 then some a else if i<109 then some undef else none:=by intro i;simp only[IS,Act.put,vam,vey,Array.size_append,vdv,vdg,List.length_nil,Array.size_replicate,Ym];rfl
 have two:∀i,(w9 λ_=>some rv).T i=true->i=0\/i=13:=λi h=>by grind[w9,F9]
 refine⟨by simp[w_,IS,Act.put],λi hi=>?_,λi z hi d=>?_,λi hi=>?_,by simp[w_,IS,Act.put]⟩
 .simp_all[w9,F9,Ne.symm]
 .grind
 .rw[b];rcases two i hi with rfl|rfl<;>rfl
structure iV(W w':aR):Prop where
 old:∀b,0<b->b<W.heap.size->w'.heap[b]?=W.heap[b]?
 first:∀c e fr,W.heap[0]?=some (.cells c e fr)->w'.heap[0]?=some (.cells c e fr)
 since:nu W w'
section
variable{Post:hV}{n:Nat}{Shun:ual}{W:aR}{b:Act}{cs:hH}{rv:Value}{x y:Int}{rest:uac}{k:uab}{id i s d:Nat}{o:Oper}{v:Value}
def aER(c:(az Tryz.f3 id)[i]?=some o)(a:o.op=.box 24 (.tmp s))(hg:o.guard=none)(hd:o.dst=some d)(e1:b.tmps[s]?=some (hv x y))(h:∀j,bT prog Post n Shun 0 (a4 ((base 3).at (b.put (some d) (.P W.heap.size 0)) (.R (az Tryz.f3 id) rest::k)) cs) ((W.alloc (.cells #[.I x,.I y] 24)).at j)):bT prog Post n Shun 0 (a4 ((base 3).at b (.R (az Tryz.f3 id) (i::rest)::k)) cs) W:=by
 have e:=ej e1;refine Yl c hg hd (v:=.P W.heap.size 0) (w1:=(W.alloc (.cells #[.I x,.I y] 24))) (λj=>?_) (λj=>?_) AS h
 .generalize b.eval=ev at e⊢;cases o;simp only at a;subst a;simp[go_sem,e];exact⟨Y,Y⟩
 .generalize b.eval=ev at e⊢;cases o;simp only at a;subst a;simp[go_sem,e]
def aES(c:(az Tryz.f3 id)[i]?=some o)(a:o.op=.assign (.const (.F)))(hg:o.guard=none)(hd:o.dst=some d)(h:∀j,bT prog Post n Shun 0 (a4 ((base 3).at (b.put (some d) (.F)) (.R (az Tryz.f3 id) rest::k)) cs) (W.at j)):bT prog Post n Shun 0 (a4 ((base 3).at b (.R (az Tryz.f3 id) (i::rest)::k)) cs) W:=
 Yl c hg hd (v:=.F) (w1:=W) (λj=>by cases o;simp only at a;subst a;simp[go_sem]) (λj=>by cases o;simp only at a;subst a;simp[go_sem]) JR h
def aET(c:(az Tryz.f3 id)[i]?=some o)(a:o.op=.move (.tmp s))(hg:o.guard=none)(hd:o.dst=some d)(e0:b.tmps[s]?=some v)(h:∀j,bT prog Post n Shun 0 (a4 ((base 3).at (b.put (some d) v) (.R (az Tryz.f3 id) rest::k)) cs) (W.at j)):bT prog Post n Shun 0 (a4 ((base 3).at b (.R (az Tryz.f3 id) (i::rest)::k)) cs) W:=
 Yl c hg hd (v:=v) (w1:=W) (λj=>JF) (λj=>JF) JR h
def aEU{O M rs}(g:(az Tryz.f3 id)[i]?=some o)(c:o.op=.call {callee:=.value (.func 4),args:=#[.tmp s,.const (.I 40)],argTypes:=#[22,3]})(hg:o.guard=none)(hd:o.dst=some d)(e0:b.tmps[s]?=some rv)(r:Home O prog M Shun W)(m:Is O rv rs)(h:∀u M' w',Home O prog M' Shun w'->(∀b,M b->M' b)->au (b7 M') u u->nu W w'->dy M W w'->Fs (kL (rs.take 40)) w' u->bT prog Post n Shun 0 (a4 ((base 3).at (b.put (some d) u) (.R (az Tryz.f3 id) rest::k)) cs) w'):bT prog Post n Shun 0 (a4 ((base 3).at b (.R (az Tryz.f3 id) (i::rest)::k)) cs) W:=by
 have e:#[Operand.tmp s,.const (.I 40)].map b.eval=#[rv,.I 40]:=by simp[e0,Act.eval]
 have f:=iu.sE (b:=base 3) (Q:=prog) (o:=o) (a:=b) c func4 AB Y e;refine Dz (o7 Y (w1:=W) (es:=#[]) (λk'=>(stepG_enter g (xX hg _) (by simp[base]) (f _).1).trans (vcd (λes=>GStep.go _ _ es) (f _).2)) AS JR (.stop λj=>azK (r.at j) m λu M' w' h1 h2 h3 h4 q p=>?_));have l:Frame.finish ((base 3).at b (.R (az Tryz.f3 id) (i::rest)::k)) u=(base 3).at (b.put (some d) u) (.R (az Tryz.f3 id) rest::k):=by grind[Frame.finish_at]
 rw[l];exact h u M' w' h1 h2 h3 ((show nu W (W.at j)from⟨vac _,.refl _,Y,Y⟩).trans h4) q p
end
def aEW{Post W rv rs x y}(T:ek x)(S:ek y)(h0:∃c e,W.heap[0]?=some (.cells c e)/\∀v∈c,∃k n,v=.int k n)(Z:Is ⟨W.heap.size,W.heap⟩ rv rs)(V:∀w',iV W w'->Post (.T) w'):
 bT prog Post 1 (λ_=>False) 0 (a4 (Frame.enter prog 3 #[rv,hv x y] .normal) []) W:=by
 obtain⟨b3,aLE,E,O⟩:=h0;have A:0<W.heap.size:=lR E;rw[aV.vcj func3 oP];have hg:=Ym rv (hv x y);have hsz:(⟨#[rv,hv x y]++Array.replicate 107 undef,[]⟩:Act).tmps.size=109:=AS;have B:Tryz.f3.ntmps-(#[rv,hv x y]:dX).size=107:=AS;rw[B];have I:=aEP rv (hv x y);unfold IS at I;have e0:(⟨#[rv,hv x y]++Array.replicate 107 undef,[]⟩:Act).tmps[0]?=some rv:=hg 0;have e1:(⟨#[rv,hv x y]++Array.replicate 107 undef,[]⟩:Act).tmps[1]?=some (hv x y):=hg 1;clear hg;generalize(⟨#[rv,hv x y]++Array.replicate 107 undef,[]⟩:Act)=b at *;obtain⟨gM,t⟩:∃o,(az Tryz.f3 0)[0]?=some o/\o.op=.box 24 (.tmp 1)/\o.guard=none/\o.dst=some 3:=by rw[lJ (az Tryz.f3 0)];simp_all
 obtain⟨o2,s⟩:∃o,(az Tryz.f3 0)[1]?=some o/\o.op=.assign (.const (.F))/\o.guard=none/\o.dst=some 4:=by rw[lJ (az Tryz.f3 0)];grind
 obtain⟨o3,r⟩:∃o,(az Tryz.f3 1)[0]?=some o/\o.op=.move (.tmp 0)/\o.guard=none/\o.dst=some 13:=by rw[lJ (az Tryz.f3 1)];grind
 obtain⟨o4,q⟩:∃o,(az Tryz.f3 1)[1]?=some o/\o.op=.call {callee:=.value (.func 4),args:=#[.tmp 13,.const (.I 40)],argTypes:=#[22,3]}/\o.guard=none/\o.dst=some 14:=by rw[lJ (az Tryz.f3 1)];grind
 have hrel:∀{M:dL}(x y:Int),aJ (b7 M) #[.I x,.I y] #[.I x,.I y]:=λx y=>mw (l:=[.I x,.I y]) λv hv=>by simp at hv;rcases hv with rfl|rfl<;>exact .int _ _
 have J:Home ⟨W.heap.size,W.heap⟩ prog (λb=>b=0) (λ_=>False) W:=by refine⟨λb a=>?_,λg hg=>BB,AA,λb a h=>absurd a h,vac _,λb _ a=>Y,AA⟩;subst a;refine⟨_,E,.inl (.cells _ ?_ AA)⟩;obtain⟨l⟩:=b3;refine mw λv hv=>?_;obtain⟨k,n,rfl⟩:=O v AA;exact .int _ _
 have m:=J.lay (c:=#[.I x,.I y]) 24 (hrel x y);have f3:(vi x y).R (W.alloc (.cells #[.I x,.I y] 24)) (.P W.heap.size 0):=⟨W.heap.size,0,Y,n2 (vbb W _) Y Y,n2 (vbb W _) Y Y⟩;have i:∀j,nu W ((W.alloc (.cells #[.I x,.I y] 24)).at j):=aEO;have D:dy (λb=>b=0) W (W.alloc (.cells #[.I x,.I y] 24)):=λb c e fr a w=>(vcw _ _ _ (J.lt a)).trans w;have d:au (b7 λb=>b=0\/b=W.heap.size) (.P W.heap.size 0) (.P W.heap.size 0):=.ptr ⟨⟨Y,.inr Y⟩,Y,Y⟩;refine iX λ_=>jx (l:=[0,1]) AD λ_=>aER t.1 t.2.1 t.2.2.1 t.2.2.2 e1 λ_=>aES s.1 s.2.1 s.2.2.1 s.2.2.2 λ_=>aEN (l:=[0,1,2,3]) AD λ_=>aET (v:=rv) r.1 r.2.1 r.2.2.1 r.2.2.2 ((hQ AF).trans ((hQ AF).trans e0)) λf=>?_;show bT _ _ _ _ _ (a4 ((base 3).at (((b.put (some 3) (.P W.heap.size 0)).put (some 4) (.F)).put (some 13) rv) _) []) ((W.alloc (.cells #[.I x,.I y] 24)).at f);generalize(W.alloc (.cells #[.I x,.I y] 24))=W1 at *;refine aEU q.1 q.2.1 q.2.2.1 q.2.2.2 (nw (by grind[jR])) (m.at f) Z λu M' w' Q K U L F Po=>?_;have C:=tJ K;have k3:=(vi x y).f7 0 trivial _ _ _ _ _ (F.my (n0:=0) (m.at f)) d f3;have X:aJ (b7 M') (w_ (hv x y) (.P W.heap.size 0) u).tmps (w_ (hv x y) (.P W.heap.size 0) u).tmps:=by
  unfold w_;simp only[Act.put];refine aJ.set (aJ.set (aJ.set (aJ.append (mw (l:=[undef,hv x y]) λv hv=>?_) (Fg _ _)) (d.mono C) _) (.bool _) _) U _;simp at hv;rcases hv with rfl|rfl
  .exact .undef _
  .exact .qT (hrel _ _)
 have P:1<=w'.heap.size:=vad (vad A (i f).size) L.size;have H:Held ⟨W.heap.size,W.heap⟩ prog M' w' 1 (w_ (hv x y) (.P W.heap.size 0) u) M' w' (λ_=>False):=.start Q P X Y;have R:ak 109 (bh [(3,vi x y),(14,rW (kL (rs.take 40)))]) (w_ (hv x y) (.P W.heap.size 0) u) w':=by
  refine ak.of (by simp[w_,Act.put]) λp d=>?_;simp at d;rcases d with rfl|rfl
  .grind[Yn]
  .exact⟨_,Yn _ _ _ 14,Po⟩
 refine aEK (n0:=1) (I _ u) H (rs.take 40) AA T S R AF λbK ny N Fo z=>V N ⟨λb h0 a=>z.fC.old b h0 a,λc e fr w=>?_,?_⟩
 .exact z.keep 0 c e fr ⟨K 0 Jv,AQ⟩ (F 0 c e fr Jv (D 0 c e fr Y w))
 .exact(i f).trans (L.trans z.since)
end
section
open ChangeShapes WideShapes ChangeAt Deep
section
variable{H:Type}{enc:TypeId×Value->H}{spare:ube}{held:Bool}{fuel:Nat}{cs:uai}{x:DataW H×List MemPlace}{w:aR}
theorem wf_i64{n}(h:(Lit.int .i64 n).wf=true):ek n:=by simp[Lit.wf,IntKind.min,IntKind.max,IntKind.signed,IntKind.bits]at h;exact h
def iQ{t:uaa}{fs:Array Field}(ht:prog.underlying t=some (.struct fs))(a:oneCellFields prog fs=true)(hn:prog.cellsOf t=fs.size)(h:DataW.trod enc prog w 0 spare held fuel t cs=some x):
 cs.length=fs.size/\∀(i:Nat)(f:Field),fs[i]?=some f->∃u y n,cs[i]?=some u/\DataW.trod enc prog w 0 spare held n f.type [u]=some y:=by
 obtain⟨xs,n,-,rfl,e,k,j⟩:=DataW.trod_struct ht h;refine⟨e.trans hn,λi f hi=>?_⟩;obtain⟨c,b⟩:=hone_of a i f hi;have d:i<fs.size:=(vao.1 hi).1;have g:=j i f hi;rw[c,b,take1_drop cs i undef AQ,vaq AQ]at g;grind
def IT{e:uaa}(a:prog.underlying e=some (.int .i64)){u:Value}(h:DataW.trod enc prog w 0 spare held fuel e [u]=some x):∃n,u=.I n/\ek n:=by grind[DataW.trod_int,wf_i64]
def aEZ(h:DataW.trod enc prog w 0 spare held fuel 51 cs=some x):∃r:dQ,cs=[.I r.1,.I r.2.1,.I r.2.2.1,.I r.2.2.2]/\ek r.1/\ek r.2.1/\ek r.2.2.1/\ek r.2.2.2:=by obtain⟨a,hs⟩:=iQ underlying51 AB AB h;obtain⟨u0,q,n0,b3,g⟩:=hs 0 _ Y;obtain⟨u1,m,n1,c1,f⟩:=hs 1 _ Y;obtain⟨u2,l,ik,bt,e⟩:=hs 2 _ Y;obtain⟨u3,k,nE,cF,d⟩:=hs 3 _ Y;obtain⟨j,rfl,w0⟩:=IT underlying49 g;obtain⟨i,rfl,w1⟩:=IT underlying49 f;obtain⟨gG,rfl,c⟩:=IT underlying49 e;obtain⟨fx,rfl,b⟩:=IT underlying49 d;refine⟨(j,i,gG,fx),?_,w0,w1,c,b⟩;have a:cs.length=4:=a;obtain⟨n,l0,rfl,h0⟩:=PB a;obtain⟨a1,l1,rfl,h1⟩:=PB h0;obtain⟨p,l2,rfl,h2⟩:=PB h1;obtain⟨o,ja,rfl,h3⟩:=PB h2;grind
def aE0{v}(K:∀(c:dX) e z,w.heap[0]?=some (.cells c e z)->∀(i:Nat)(n:Int),c[i]?≠some (Value.int .i64 n))(h:DataW.trod enc prog w 0 spare held fuel 22 [v]=some x):∃rs,Is ⟨w.heap.size,w.heap⟩ v rs:=by
 rcases open_slice underlying22 h with⟨k,rfl⟩|⟨a,len,cap,m,n,D,F,k,-,P,-,N,rfl,C⟩
 .obtain rfl:v=_:=by simpa using k
  exact⟨[],none,0,Y,AA⟩
 obtain rfl:v=_:=by simpa using k
 have E:len<=m:=AA;have H:prog.cellsOf 51=4:=AB;have f:∀i,∃r:dQ,i<len->(∀j u,[Value.int .i64 r.1,.I r.2.1,.I r.2.2.1,.I r.2.2.2][j]?=some u->w.cell? ((a.add (i*4)).add j)=some u)/\ek r.1/\ek r.2.1/\ek r.2.2.1/\ek r.2.2.2:=λi=>by
  by_cases hi:i<len
  .obtain⟨O,h1,h2⟩:=C i AQ;obtain⟨r,rfl,M⟩:=aEZ h2;rw[H]at h1;obtain⟨-,I,hcell⟩:=World.cells?_some h1;grind
  .exact⟨(0,0,0,0),AA⟩
 obtain⟨R,o⟩:=vbi.1 f;refine⟨(List.range len).map R,some a,cap,AS,λi hi=>?_⟩;have B:i<len:=AA;obtain⟨d,y,t,s,q⟩:=o i B;simp;obtain⟨b,off,spot⟩:=a;have p:spot=none:=by have:=(o 0 AQ).1 0 _ Y;simpa[Addr.add]using World.cell?_spot this
 subst p;have key:∀j,((⟨b,off,none⟩:Addr).add (i*4)).add j=⟨b,off+i*4+j,none⟩:=λj=>by unfold Addr.add;by_cases h1:i*4=0<;>by_cases h2:j=0<;>simp[h1,h2]
 have b3:=d 0 _ Y;have c1:=d 1 _ Y;have bt:=d 2 _ Y;have cF:=d 3 _ Y;rw[key]at b3 c1 bt cF;obtain⟨c,e,z,l,-,J⟩:=xd b3;have g:∀j u,w.cell? (.a b j)=some u->c[j]?=some u:=λj u L=>by grind[World.cell?]
 have A:0<b:=by grind
 exact⟨b,off,c,e,z,Y,A,lR l,l,AA,y,t,s,q⟩
end
def aE1(P:cE)(t:Nat->Question->Nat)(os:Os):(begin P t os).world.heap[P.globals.size]?=some (.cells ((Array.range P.types.size).map λt=>.int .u64 (Int.ofNat t)) 0):=by have key:∀(A:Array Obj)(n:Nat),n=A.size->∀a b c d e,(((((A.push a).push b).push c).push d).push e)[n]?=some a:=AA;exact key _ _ AS _ _ _ _ _
def aE2{W:aR}(h:W.ShapedOpen prog):W.heap[0]?=some (.cells ((Array.range prog.types.size).map λt=>.int .u64 (Int.ofNat t)) 0):=by have h0:prog.globals.size=0:=AS;have a:=aE1 prog (λ_ _=>0) default;rw[h0]at a;obtain⟨o,b,h1,h2,h3⟩:=h.2 0 AQ (lR a);simp_all[World.looseAt]
def aE3{B}:nQ (λ_=>False) B 0 1 #[]:=
 ⟨AA,AA,λi a h=>IE,λsaid=>by rintro⟨i,j,_,⟨a,b,c,_⟩,_⟩;simp[Trace.act?]at c,λi a h=>IE,λi g h=>by simp[Trace.g?]at h,Y,λi a b h=>IE⟩
def aE4{P Post g W}(h:bT P Post 1 (λ_=>False) 0 g W):cV.mQ P Post (solo g W) #[]:=by rw[solo_eq_crowd];refine h #[g] none (λ_=>0) #[] Y Y ⟨λi x hi a=>?_,λj b=>Y⟩ aE3;grind
theorem aE5:ownKnob prog.godebug=none:=by kernel_rfl
theorem il:laidOutB prog=true:=by kernel_rfl
def aE6{H:Type}{enc:TypeId×Value->H}{spare:ube}{held:Bool}{fuel:Nat}{x:DataW H×List MemPlace}{w:aR}{cs:dX}(g:DataW.trod enc prog w 0 spare held fuel 24 cs.toList=some x):∃a b:Int,cs=#[.I a,.I b]/\ek a/\ek b:=by obtain⟨f,hs⟩:=iQ underlying24 AB AB g;obtain⟨u0,h,n0,b3,s0⟩:=hs 0 _ Y;obtain⟨u1,e,n1,c1,jJ⟩:=hs 1 _ Y;obtain⟨x,rfl,d⟩:=IT underlying3 s0;obtain⟨y,rfl,c⟩:=IT underlying3 jJ;refine⟨x,y,?_,d,c⟩;grind
def aE7{H:Type}{enc:TypeId×Value->H}{P:cE}{w:aR}{base:Nat}{spare:ube}{held:Bool}{f e:uaa}{args:dX}{ds:List (DataW H)}{ps:List MemPlace}(h:DataW.TrodAll enc P w base spare held [f,e] args.toList ds ps):
 ∃v0 v1 c d1 b a,args=#[v0,v1]/\ds=[c,d1]/\ps=b++a/\DataW.Trod enc P w base spare held f v0 c b/\DataW.Trod enc P w base spare held e v1 d1 a:=by
 obtain⟨v0,vs,c,k,b,q,j,rfl,rfl,h0,d⟩:=trodAll_cons h;obtain⟨v1,i,d1,g,a,aZ,rfl,rfl,rfl,h1,d⟩:=trodAll_cons d;obtain⟨rfl,rfl,rfl⟩:=trodAll_nil d;exact⟨v0,v1,c,d1,b,a,AA,Y,AS,h0,h1⟩
def aE8 os(started:os.Started)(H:Type)(enc:TypeId×Value->H)F:
 ReturnsInLeavingWide Rows.groupedRow.assume checked os 3 .any (Rows.groupedSpec.pre6 enc prog Tryz.f3 Rows.groupedRow.domain false) ((OpenSpec.ofChange Rows.groupedSpec).postWith enc prog Tryz.f3 F (outsideKept [.timePasses]) false true false):=by
 refine returnsInLeavingWide_of_good (C:=checked) aE5 started
  (ChangeSpec.witness6c (enc:=enc) (C:=checked) ⟨#[],#[.N,.agg #[.I 0,.I 0]],[]⟩ 8 AB AB AB AB) ?_
 intro w tape i _ g _ hok S _;obtain⟨_,_,_,A,R,_,_,_,_,hval⟩:=hok;obtain rfl:A=Tryz.f3:=van (R.symm.trans func3);obtain⟨⟨ds,gs,before,r,-⟩,-⟩:=S;have d:=DataW.Whole.of_heap (w':=w.forCall tape i) Ao r;have g:(w.forCall tape i).ShapedOpen prog:=g;clear r;generalize Q:w.forCall tape i=W at *;obtain⟨vars,args,more⟩:=i;simp only at hval d⊢;have hval:∀(j:Nat) t v,Tryz.f3.params[j]?=some t->args[j]?=some v->Value.okWide prog W .any w.heap.size t v:=hval;have l:=d;obtain⟨p,q,hA0,s,rfl,_,_⟩:=d;have f:DataW.TrodAll enc prog W 0 (λ_=>true) true Tryz.f3.params.toList args.toList ds p:=hA0;rw[params3]at f hval;obtain⟨v0,v1,U,d1,D,B,rfl,rfl,rfl,n,m⟩:=aE7 f;obtain⟨rfl,rfl⟩:=trodVars_none s;clear hA0 f;simp only[vdc]at l;have J:∀x∈D++B,x.block<W.heap.size:=λx c=>by simpa using l.lt x c
 have h0:=aE2 g;obtain⟨M,len,cap,rfl⟩:=okWide_slice underlying22 (hval 0 22 v0 Y Y);obtain⟨cs1,rfl,V⟩:=okWide_struct underlying24 (hval 1 24 v1 Y Y);obtain⟨f0,L⟩:=id n;obtain⟨f1,g1⟩:=id m;obtain⟨rs,P⟩:=aE0 (w:=W) AA (by simpa[Value.cells]using L);obtain⟨x,y,rfl,c,E⟩:=aE6 g1;obtain⟨N,last,o,w',O,r1,z,u,v,e,I,aZ,a3,q3,q4⟩:=aE4 (aEW (Post:=λv w'=>v=.T/\iV W w') c E ⟨_,_,h0,λv hv=>by
  obtain⟨t,-,rfl⟩:=Array.mem_map.1 hv;exact⟨_,_,Y⟩⟩ P AA)
 refine⟨N,last,o,w',O,r1,z,u,v,e,?_,aZ,a3,q3,q4⟩;obtain⟨rfl,a⟩:=I;have k:c6 W {w' with os:=W.os}:=by
  refine⟨Y,a.since.tape,a.since.output,a.since.size,λb K=>?_⟩;rcases vbq b with rfl|h
  .exact(a.first _ _ _ h0).trans h0.symm
  .exact a.old b h K
 have T:Rows.groupedSpec.post enc prog Tryz.f3 false true false false W #[.slice M len cap,.agg #[.I x,.I y]] (.T) {w' with os:=W.os}:=
  ⟨_,_,_,[],_,[],l,trodAll_mk1 (shut_bool underlying4 true),trodAll_mk2 (Below.trod il AB (of_decide_eq_true AS) n k AA) (Below.trod il AB (of_decide_eq_true AS) m k AA),Y,k.frame _,AA⟩
 exact postWith_blind (postWith_of_post T a.since.later)
end
end IR
theorem grouped_holds:Rows.GroupedSaid:=
 OpenClaim.holds_of_wide_leaving_time 3 Tryz.f3 Y Y Y Y Y Y Y ⟨Y,Y,Y,Y,Y⟩ Y Y Y Y Y AB func3 AB
  (of_decide_eq_true AB) (by unfold Func.isWrapper;first|(rw[vca AD];kernel_rfl)|(rw[vby AD];exact⟨Y,Y⟩))
  (λos started H enc _ F=>IR.aE8 os started H enc F)
