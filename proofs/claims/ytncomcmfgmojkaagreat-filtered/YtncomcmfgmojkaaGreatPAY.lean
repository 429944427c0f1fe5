/- Proved: the statement FilteredSaid of quarrykeep.Filtered at this commit, whole and without further conditions: for every argument within the seat's bounds the call ends as the law asks, whatever the goroutines' order. The texts are packed: names shortened by program. -/
import Derived.Test.YtncomcmfgmojkaaGreatRows
import Derived.Deep.Fields
import Derived.Test.YtncomcmfgmojkaaGreatPAX
set_option linter.all false
set_option maxRecDepth 100000
set_option maxHeartbeats 16000000
namespace Go.Proofs.YtncomcmfgmojkaaGreat
open Go.Proofs.Tryz
namespace aG
open Conc ConcM RowKit ChangeShapes WideShapes ChangeAt Deep av bn cz c5 bZ bN cM kZ
section
section
variable{H:Type}{enc:TypeId×Value->H}{spare:Nat->Bool}{held:Bool}{fuel:Nat}{cs:List Value}{x:DataW H×List MemPlace}{w:aO}
theorem wf_i64{n:Int}(h:(Lit.int .i64 n).wf=true):cD n:=by simp[Lit.wf,IntKind.min,IntKind.max,IntKind.signed,IntKind.bits]at h;exact h
def kI{t:TypeId}{fs:Array Field}(ht:prog.underlying t=some (.struct fs))(k:oneCellFields prog fs=true)(hn:prog.cellsOf t=fs.size)(h:DataW.trod enc prog w 0 spare held fuel t cs=some x):
 cs.length=fs.size/\∀(i:Nat)(f:Field),fs[i]?=some f->∃u y n,cs[i]?=some u/\DataW.trod enc prog w 0 spare held n f.type [u]=some y:=by
 obtain⟨xs,n,-,rfl,d,j,e⟩:=DataW.trod_struct ht h;refine⟨d.trans hn,λi f hi=>?_⟩;obtain⟨b,a⟩:=hone_of k i f hi;have c:i<fs.size:=(Array.getElem?_eq_some_iff.1 hi).1;have g:=e i f hi;rw[b,a,take1_drop cs i undef As,List.getElem?_eq_getElem As]at g;grind
def AI{e:TypeId}(a:prog.underlying e=some (.int .i64)){u:Value}(h:DataW.trod enc prog w 0 spare held fuel e [u]=some x):∃n,u=.int .i64 n/\cD n:=by grind[DataW.trod_int,wf_i64]
def aAs(h:DataW.trod enc prog w 0 spare held fuel 57 cs=some x):∃r:dX,cs=[.int .i64 r.1,.int .i64 r.2.1,.int .i64 r.2.2.1,.int .i64 r.2.2.2]/\cD r.1/\cD r.2.1/\cD r.2.2.1/\cD r.2.2.2:=by obtain⟨a,hs⟩:=kI underlying57 BA BA h;obtain⟨u0,v,n0,cX,g⟩:=hs 0 _ Y;obtain⟨u1,q,p,c1,f⟩:=hs 1 _ Y;obtain⟨u2,o,iv,cr,e⟩:=hs 2 _ Y;obtain⟨u3,n,y,dm,d⟩:=hs 3 _ Y;obtain⟨m,rfl,w0⟩:=AI underlying23 g;obtain⟨l,rfl,w1⟩:=AI underlying23 f;obtain⟨k,rfl,c⟩:=AI underlying23 e;obtain⟨j,rfl,b⟩:=AI underlying23 d;refine⟨(m,l,k,j),?_,w0,w1,c,b⟩;have a:cs.length=4:=a;obtain⟨s,l0,rfl,h0⟩:=Ob a;obtain⟨a1,l1,rfl,h1⟩:=Ob h0;obtain⟨u,l2,rfl,i⟩:=Ob h1;obtain⟨t,iw,rfl,h3⟩:=Ob i;grind
def aAt{v:Value}(L:∀(c:Array Value) e z,w.heap[0]?=some (.cells c e z)->∀(i:Nat)(n:Int),c[i]?≠some (Value.int .i64 n))(h:DataW.trod enc prog w 0 spare held fuel 22 [v]=some x):∃rs,Ki ⟨w.heap.size,w.heap⟩ v rs:=by
 rcases open_slice underlying22 h with⟨k,rfl⟩|⟨a,len,cap,m,n,D,H,k,-,Q,-,O,rfl,E⟩
 .obtain rfl:v=_:=by simpa using k
  exact⟨[],none,0,Y,AA⟩
 obtain rfl:v=_:=by simpa using k
 have F:len<=m:=AA;have I:prog.cellsOf 57=4:=BA;have f:∀i,∃r:dX,i<len->(∀j u,[Value.int .i64 r.1,.int .i64 r.2.1,.int .i64 r.2.2.1,.int .i64 r.2.2.2][j]?=some u->w.cell? ((a.add (i*4)).add j)=some u)/\cD r.1/\cD r.2.1/\cD r.2.2.1/\cD r.2.2.2:=λi=>by
  by_cases hi:i<len
  .obtain⟨P,h1,l⟩:=E i As;obtain⟨r,rfl,N⟩:=aAs l;rw[I]at h1;obtain⟨-,J,hcell⟩:=World.cells?_some h1;grind
  .exact⟨(0,0,0,0),AA⟩
 obtain⟨R,p⟩:=Classical.skolem.1 f;refine⟨(List.range len).map R,some a,cap,A_,λi hi=>?_⟩;have t:i<len:=AA;obtain⟨d,C,B,A,y⟩:=p i t;simp;obtain⟨b,off,spot⟩:=a;have q:spot=none:=by have:=(p 0 As).1 0 _ Y;simpa[Addr.add]using World.cell?_spot this
 subst q;have key:∀j,((⟨b,off,none⟩:Addr).add (i*4)).add j=⟨b,off+i*4+j,none⟩:=λj=>by unfold Addr.add;by_cases h1:i*4=0<;>by_cases l:j=0<;>simp[h1,l]
 have cX:=d 0 _ Y;have c1:=d 1 _ Y;have cr:=d 2 _ Y;have dm:=d 3 _ Y;rw[key]at cX c1 cr dm;obtain⟨c,e,z,o,-,K⟩:=tx cX;have g:∀j u,w.cell? ⟨b,j,none⟩=some u->c[j]?=some u:=λj u M=>by grind[World.cell?]
 have s:0<b:=by grind
 exact⟨b,off,c,e,z,Y,s,nd o,o,AA,C,B,A,y⟩
end
def aAu(P:cg)(t:Nat->Question->Nat)(os:Os):(begin P t os).world.heap[P.globals.size]?=some (.cells ((Array.range P.types.size).map λt=>.int .u64 (Int.ofNat t)) 0):=by have key:∀(A:Array Obj)(n:Nat),n=A.size->∀a b c d e,(((((A.push a).push b).push c).push d).push e)[n]?=some a:=AA;exact key _ _ A_ _ _ _ _ _
def aAv{W:aO}(h:W.ShapedOpen prog):W.heap[0]?=some (.cells ((Array.range prog.types.size).map λt=>.int .u64 (Int.ofNat t)) 0):=by have h0:prog.globals.size=0:=A_;have a:=aAu prog (λ_ _=>0) default;rw[h0]at a;obtain⟨o,c,h1,b,h3⟩:=h.2 0 As (nd a);simp_all[World.looseAt]
def aAw{B:Nat}:mS (λ_=>False) B 0 1 #[]:=
 ⟨AA,AA,λi a h=>IM,λsaid=>by rintro⟨i,j,_,⟨a,b,c,_⟩,_⟩;simp[Trace.act?]at c,λi a h=>IM,λi g h=>by simp[Trace.g?]at h,Y,λi a b h=>IM⟩
def aAx{P:cg}{Post:Value->aO->Prop}{g:Goroutine}{W:aO}(h:bS P Post 1 (λ_=>False) 0 g W):cz.lS P Post (solo g W) #[]:=by rw[solo_eq_crowd];refine h #[g] none (λ_=>0) #[] Y Y ⟨λi x hi a=>?_,λj b=>Y⟩ aAw;grind
theorem aAy:ownKnob prog.godebug=none:=by kernel_rfl
theorem KN:laidOutB prog=true:=by kernel_rfl
def kv{H:Type}{enc:TypeId×Value->H}{spare:Nat->Bool}{held:Bool}{fuel:Nat}{x:DataW H×List MemPlace}{w:aO}{cs:Array Value}(g:DataW.trod enc prog w 0 spare held fuel 25 cs.toList=some x):∃a b:Int,cs=#[.int .i64 a,.int .i64 b]/\cD a/\cD b:=by obtain⟨h,hs⟩:=kI underlying25 BA BA g;obtain⟨u0,k,n0,cX,d⟩:=hs 0 _ Y;obtain⟨u1,j,i,c1,c⟩:=hs 1 _ Y;obtain⟨x,rfl,f⟩:=AI underlying3 d;obtain⟨y,rfl,e⟩:=AI underlying3 c;refine⟨x,y,?_,f,e⟩;obtain⟨l⟩:=cs;simp only at cX c1 h;grind
def aAz{H:Type}{enc:TypeId×Value->H}{P:cg}{w:aO}{base:Nat}{spare:Nat->Bool}{held:Bool}{r p o n m:TypeId}{args:Array Value}{ds:List (DataW H)}{ps:List MemPlace}(h:DataW.TrodAll enc P w base spare held [r,p,o,n,m] args.toList ds ps):
 ∃v0 v1 v2 v3 b l d1 k j i g f e d c,args=#[v0,v1,v2,v3,b]/\ds=[l,d1,k,j,i]/\ps=g++(f++(e++(d++c)))/\DataW.Trod enc P w base spare held r v0 l g/\DataW.Trod enc P w base spare held p v1 d1 f/\DataW.Trod enc P w base spare held o v2 k e/\DataW.Trod enc P w base spare held n v3 j d/\DataW.Trod enc P w base spare held m b i c:=by
 obtain⟨v0,vs,l,F,g,q,I,rfl,rfl,h0,a⟩:=trodAll_cons h;obtain⟨v1,C,d1,B,f,J,rfl,rfl,rfl,h1,a⟩:=trodAll_cons a;obtain⟨v2,A,k,z,e,K,rfl,rfl,rfl,t,a⟩:=trodAll_cons a;obtain⟨v3,y,j,x,d,E,rfl,rfl,rfl,h3,a⟩:=trodAll_cons a;obtain⟨b,v,i,u,c,D,rfl,rfl,rfl,s,a⟩:=trodAll_cons a;obtain⟨rfl,rfl,rfl⟩:=trodAll_nil a;exact⟨v0,v1,v2,v3,b,l,d1,k,j,i,g,f,e,d,c,by cases args;simp_all,Y,A_,h0,h1,t,h3,s⟩
def aAA(os:Os)(started:os.Started)(H:Type)(enc:TypeId×Value->H)(F:Stop.Interp):
 ReturnsInLeavingWide Rows.filteredRow.assume checked os 3 .any (Rows.filteredSpec.pre6 enc prog Tryz.f3 Rows.filteredRow.domain false) ((OpenSpec.ofChange Rows.filteredSpec).postWith enc prog Tryz.f3 F (outsideKept [.timePasses]) false true false):=by
 refine returnsInLeavingWide_of_good (C:=checked) aAy started
  (ChangeSpec.witness6c (enc:=enc) (C:=checked) ⟨#[],#[.slice none 0 0,.int .i64 0,.int .i64 0,.agg #[.int .i64 0,.int .i64 0],.agg #[.int .i64 0,.int .i64 0]],[]⟩ 8 BA BA BA BA) ?_
 intro w tape i _ m _ hok JE _;obtain⟨_,_,_,V,R0,_,_,_,_,hval⟩:=hok;obtain rfl:V=Tryz.f3:=Option.some.inj (R0.symm.trans func3);obtain⟨⟨ds,gs,before,B,-⟩,-⟩:=JE;have k:=DataW.Whole.of_heap (w':=w.forCall tape i) Bo B;have m:(w.forCall tape i).ShapedOpen prog:=m;clear B;generalize aHi:w.forCall tape i=W at *;obtain⟨vars,args,more⟩:=i;simp only at hval k⊢;have hval:∀(j:Nat) t v,Tryz.f3.params[j]?=some t->args[j]?=some v->Value.okWide prog W .any w.heap.size t v:=hval;have n:=k;obtain⟨p,q,hA0,D,rfl,_,_⟩:=k;have l:DataW.TrodAll enc prog W 0 (λ_=>true) true Tryz.f3.params.toList args.toList ds p:=hA0;rw[params3]at l hval;obtain⟨v0,v1,v2,v3,J,d0,d1,d2,d3,d4,U,T,S,R,Q,rfl,rfl,rfl,A,z,u,s,r⟩:=aAz l;obtain⟨rfl,rfl⟩:=trodVars_none D;clear hA0 l;simp only[List.append_nil]at n;have hlt:∀x∈U++(T++(S++(R++Q))),x.block<W.heap.size:=λx f=>by simpa using n.lt x f
 have h0:=aAv m;obtain⟨cv,len,cap,rfl⟩:=okWide_slice underlying22 (hval 0 22 v0 Y Y);obtain⟨aHj,rfl,aHk⟩:=okWide_struct underlying25 (hval 3 25 v3 Y Y);obtain⟨aHl,rfl,aHm⟩:=okWide_struct underlying25 (hval 4 25 J Y Y);obtain⟨f0,g0⟩:=id A;obtain⟨f1,g1⟩:=id z;obtain⟨kA,g2⟩:=id u;obtain⟨f3,fh⟩:=id s;obtain⟨f4,X⟩:=id r;obtain⟨rs,bE⟩:=aAt (w:=W) AA (by simpa[Value.cells]using g0);obtain⟨gO,rfl⟩:=okWide_int underlying3 (hval 1 3 v1 Y Y);obtain⟨wd,rfl⟩:=okWide_int underlying23 (hval 2 23 v2 Y Y);obtain⟨n1,e1,M⟩:=AI underlying3 (by simpa[Value.cells]using g1);cases e1;obtain⟨iv,e2,g⟩:=AI underlying23 (by simpa[Value.cells]using g2);cases e2;obtain⟨x,y,rfl,f,Z⟩:=kv fh;obtain⟨I,E,rfl,gx,d⟩:=kv X;obtain⟨N,last,o,w',cA,r1,L,K,v,e,hp,bu,bb,P,O⟩:=aAx (aAp (Post:=λv w'=>v=.bool true/\kV W w') M g f Z gx d ⟨_,_,h0,λv hv=>by
  obtain⟨t,-,rfl⟩:=Array.mem_map.1 hv;trivial⟩ bE AA)
 refine⟨N,last,o,w',cA,r1,L,K,v,e,?_,bu,bb,P,O⟩;obtain⟨rfl,a⟩:=hp;have c:Below W.heap.size W {w' with os:=W.os}:=by
  refine⟨Y,a.since.tape,a.since.output,a.since.size,λb hb=>?_⟩;rcases Nat.eq_zero_or_pos b with rfl|h
  .exact(a.first _ _ _ h0).trans h0.symm
  .exact a.old b h hb
 have Hw:Rows.filteredSpec.post enc prog Tryz.f3 false true false false W #[.slice cv len cap,.int .i64 gO,.int .i64 wd,.agg #[.int .i64 x,.int .i64 y],.agg #[.int .i64 I,.int .i64 E]] (.bool true) {w' with os:=W.os}:=
  ⟨_,_,_,[],_,[],n,trodAll_mk1 (shut_bool underlying4 true),(show DataW.TrodAll _ _ _ _ _ _ (_::_) (_::_) (_::_) _ from⟨_,_,Below.trod KN BA (of_decide_eq_true A_) A c AA,trodAll_mk4 (Below.trod KN BA (of_decide_eq_true A_) z c AA) (Below.trod KN BA (of_decide_eq_true A_) u c AA) (Below.trod KN BA (of_decide_eq_true A_) s c AA) (Below.trod KN BA (of_decide_eq_true A_) r c AA),Y⟩),Y,c.frame _,AA⟩
 exact postWith_blind (postWith_of_post Hw a.since.later)
end
end aG
theorem filtered_holds:Rows.FilteredSaid:=
 OpenClaim.holds_of_wide_leaving_time 3 Tryz.f3 Y Y Y Y Y Y Y ⟨Y,Y,Y,Y,Y⟩ Y Y Y Y Y BA func3 BA
  (of_decide_eq_true BA) (by unfold Func.isWrapper;first|(rw[if_pos AV];kernel_rfl)|(rw[if_neg AV];exact⟨Y,Y⟩))
  (λos started H enc _ F=>aG.aAA os started H enc F)
end Go.Proofs.YtncomcmfgmojkaaGreat
