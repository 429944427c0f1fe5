import Derived.Test.YtnomloiacicoaaaGreatPAJ
set_option linter.all false
set_option maxRecDepth 100000
set_option maxHeartbeats 16000000
namespace Go.Proofs.YtnomloiacicoaaaGreat
open Tryz
namespace bd
open RowKit Shelf av
structure dn where
 held:Int
 sum:Int
 least:bz
 greatest:bz
abbrev jW(t:dn):Value:=.agg #[.I t.held,.I (t.sum / 18446744073709551616),.int .u64 (t.sum % 18446744073709551616),.bool t.least.bR,.I t.least.num,.I t.least.dg,.string t.least.text,.bool t.greatest.bR,.I t.greatest.num,.I t.greatest.dg,.string t.greatest.text]
def Xc:bz:=⟨false,0,0,g5⟩
def cI:dn:=⟨0,0,Xc,Xc⟩
def lG(v:bz):dn:=if v.bR then cI else⟨1,v.num,v,v⟩
def eP(t o:dn):dn:=
 if t.held=0 then o else if o.held=0 then t else
  ⟨t.held+o.held,t.sum+o.sum,if m3 o.least t.least<0 then o.least else t.least,if 0<m3 o.greatest t.greatest then o.greatest else t.greatest⟩
def iw(k:Int)(t:dn):bz:=
 if k=1 then⟨false,t.held,0,g5⟩else if t.held=0 then h9 else if k=3 then t.least else if k=4 then t.greatest else⟨false,s2 t.sum,t.least.dg,g5⟩
def r5(k:Int)(t:dn):Bool:=if k=1\/t.held=0\/k=3\/k=4 then true else decide (nX t.sum)
abbrev QA(w:aR)(b:Nat)(v0 v1 v2 v3 v4 v5 v6 v7 v8 v9 v10:Value):aR:=(((((((((((w.setCell ⟨b,0,none⟩ v0).setCell ⟨b,1,none⟩ v1).setCell ⟨b,2,none⟩ v2).setCell ⟨b,3,none⟩ v3).setCell ⟨b,4,none⟩ v4).setCell ⟨b,5,none⟩ v5).setCell ⟨b,6,none⟩ v6).setCell ⟨b,7,none⟩ v7).setCell ⟨b,8,none⟩ v8).setCell ⟨b,9,none⟩ v9).setCell ⟨b,10,none⟩ v10)
variable{w:aR}{b:Nat}{T:uaa}
def yf{b3 c1 bt cF o n k j m l i}(h:ag w b #[b3,c1,bt,cF,o,n,k,j,m,l,i] T)v0 v1 v2 v3 g f e d c a v10:ag (QA w b v0 v1 v2 v3 g f e d c a v10) b #[v0,v1,v2,v3,g,f,e,d,c,a,v10] T:=by have:=(((((((((((h.set 0 v0).set 1 v1).set 2 v2).set 3 v3).set 4 g).set 5 f).set 6 e).set 7 d).set 8 c).set 9 a).set 10 v10);simpa using this
def ye{B:Nat}{a:aR}(h:Below B a w)(c:B<=b)(v0 v1 v2 v3 j i g f e d v10:Value):Below B a (QA w b v0 v1 v2 v3 j i g f e d v10):=(((((((((((h.setCell c v0).setCell c v1).setCell c v2).setCell c v3).setCell c j).setCell c i).setCell c g).setCell c f).setCell c e).setCell c d).setCell c v10)
variable{W w1:aR}
def az6(h1:c6 w W)(h2:Below W.drew.heap.size W.drew w1):c6 w w1:=h1.trans ((show Below w.heap.size W W.drew from⟨Y,Y,Y,vac _,λ_ _=>Y⟩).trans (h2.mono h1.size))
def Xd:vfd.funcs[(214:Nat)]?=some f214:=vfa func214
@[simp] theorem aKd:dc false 214:=cR Xd AD
theorem QB u:(ae prog u).funcs[(95:Nat)]?=some f95:=bb (upd:=u) func95 A8
@[simp] theorem aKe (u:Bool) (args:dX) (w:aR):Sem.run (ae prog u) (callFunc 95 args) w=.ok (.enter 95 args) w:=cR (QB u) A8 args w
theorem Iy:vfd.funcs[(221:Nat)]?=some f221:=vfa func221
@[simp] theorem aKf:dc false 221:=cR Iy AD
theorem yb(v:bz)(hv:nX v.num)(w:aR):
 Calls vfd 214 #[h8 v] w λe w'=>e=.returned (jW (lG v))/\c6 w w':=by
 obtain⟨n,x,s,t⟩:=v;cases n with
 |true=>
  rw[show lG ⟨true,x,s,t⟩=cI from Y];go_enter Xd,ntmps214
  go_wp2
  exact vav (v:=jW cI) (by simp[results,results214,go_sem,cI,Xc,g5]) Y ⟨Y,((vaa _ w).alloc JR _).alloc AS _⟩
 |false=>
  rw[show lG ⟨false,x,s,t⟩=⟨1,x,⟨false,x,s,t⟩,⟨false,x,s,t⟩⟩from Y];go_enter Xd,ntmps214
  go_wp2
  have b0:=(ag.new w #[.F,.I x,.I s,.string t] 94).alloc (.cells #[.I 0,.I 0,.int .u64 0,.F,.I 0,.I 0,.E,.F,.I 0,.I 0,.E] 203);have b1:=ag.new (w.alloc (.cells #[.F,.I x,.I s,.string t] 94)) #[.I 0,.I 0,.int .u64 0,.F,.I 0,.I 0,.E,.F,.I 0,.I 0,.E] 203;rw[show(w.alloc (.cells #[.F,.I x,.I s,.string t] 94)).heap.size=w.heap.size+1 by simp]at b1;have c:Hid _:=((vaa w.heap.size w).alloc JR (.cells #[.F,.I x,.I s,.string t] 94)).alloc AS (.cells #[.I 0,.I 0,.int .u64 0,.F,.I 0,.I 0,.E,.F,.I 0,.I 0,.E] 203);generalize((w.alloc _).alloc _)=W at *;obtain⟨c1,bt,cF⟩:=b0.all;obtain⟨f1,g,f3⟩:=b1.all;go_region_with (go_at_call 215;refine(W_ _ hv _).mono ?_;rintro e w1 ⟨rfl,a⟩;obtain⟨d1,i,h⟩:=(b0.drew.call a).all;obtain⟨g1,f,d⟩:=(b1.drew.call a).all)
  all_goals
   go_wp2
   have bO:=yf (b1.drew.call a) (.I 1) (.I (x / 18446744073709551616)) (.int .u64 (x % 18446744073709551616)) (.F) (.I x) (.I s) (.string t) (.F) (.I x) (.I s) (.string t);have b:Hid _:=ye (az6 c.out a) (vct _) (.I 1) (.I (x / 18446744073709551616)) (.int .u64 (x % 18446744073709551616)) (.F) (.I x) (.I s) (.string t) (.F) (.I x) (.I s) (.string t);clear c1 bt cF f1 g f3 d1 i h g1 f d b0 b1 c;unfold QA at bO b;generalize World.setCell _ _ _=W2 at *;obtain⟨aZ,a3,q3⟩:=bO.all;exact vav (v:=jW ⟨1,x,⟨false,x,s,t⟩,⟨false,x,s,t⟩⟩) (by simp[results,results214,go_sem,aZ,q3]) Y ⟨Y,b.out⟩
def az7(k:Int)(t:dn)(ht:r4 t.sum)(w:aR):
 Calls vfd 221 #[jW t,.I k] w λe w'=>e=.returned (.tuple #[h8 (iw k t),.bool (r5 k t)])/\c6 w w':=by
 obtain⟨held,sum,⟨b,a,ls,lt⟩,⟨cA,gx,gs,gt⟩⟩:=t;by_cases h1:k=1
 .subst h1;rw[show iw 1 ⟨held,sum,⟨b,a,ls,lt⟩,⟨cA,gx,gs,gt⟩⟩=⟨false,held,0,g5⟩from Y,show r5 1 ⟨held,sum,⟨b,a,ls,lt⟩,⟨cA,gx,gs,gt⟩⟩=true by simp[r5]];go_enter Iy,ntmps221
  go_wp2
  exact vav (v:=.tuple #[h8 ⟨false,held,0,g5⟩,.T]) (by simp[results,results221,go_sem,g5]) Y ⟨Y,((vaa _ w).alloc JR _).alloc AS _⟩
 by_cases h2:held=0
 .subst h2;rw[show iw k ⟨0,sum,⟨b,a,ls,lt⟩,⟨cA,gx,gs,gt⟩⟩=h9 by simp[iw,h1],show r5 k ⟨0,sum,⟨b,a,ls,lt⟩,⟨cA,gx,gs,gt⟩⟩=true by simp[r5]];go_enter Iy,ntmps221
  go_wp2_with (go_at_call 185;refine(vA _).mono ?_;rintro e w' ⟨rfl,rfl⟩)
  exact vav (v:=.tuple #[h8 h9,.T]) Gl Y ⟨Y,(((vaa _ w).alloc JR _).alloc AS _).alloc BA _⟩
 by_cases h3:k=3
 .subst h3;rw[show iw 3 ⟨held,sum,⟨b,a,ls,lt⟩,⟨cA,gx,gs,gt⟩⟩=⟨b,a,ls,lt⟩ by simp[iw,h2],show r5 3 ⟨held,sum,⟨b,a,ls,lt⟩,⟨cA,gx,gs,gt⟩⟩=true by simp[r5]];go_enter Iy,ntmps221
  go_wp2
  exact vav (v:=.tuple #[h8 ⟨b,a,ls,lt⟩,.T]) Gl Y ⟨Y,((vaa _ w).alloc JR _).alloc AS _⟩
 by_cases h4:k=4
 .subst h4;rw[show iw 4 ⟨held,sum,⟨b,a,ls,lt⟩,⟨cA,gx,gs,gt⟩⟩=⟨cA,gx,gs,gt⟩ by simp[iw,h2],show r5 4 ⟨held,sum,⟨b,a,ls,lt⟩,⟨cA,gx,gs,gt⟩⟩=true by simp[r5]];go_enter Iy,ntmps221
  go_wp2
  exact vav (v:=.tuple #[h8 ⟨cA,gx,gs,gt⟩,.T]) Gl Y ⟨Y,((vaa _ w).alloc JR _).alloc AS _⟩
 rw[show iw k ⟨held,sum,⟨b,a,ls,lt⟩,⟨cA,gx,gs,gt⟩⟩=⟨false,s2 sum,ls,g5⟩ by simp[iw,h1,h2,h3,h4],show r5 k ⟨held,sum,⟨b,a,ls,lt⟩,⟨cA,gx,gs,gt⟩⟩=decide (nX sum) by simp[r5,h1,h2,h3,h4]];have b0:=(ag.new w #[.I held,.I (sum / 18446744073709551616),.int .u64 (sum % 18446744073709551616),.bool b,.I a,.I ls,.string lt,.bool cA,.I gx,.I gs,.string gt] 203).alloc (.cells #[.F,.I 0,.I 0,.E] 94);have b1:=ag.new (w.alloc (.cells #[.I held,.I (sum / 18446744073709551616),.int .u64 (sum % 18446744073709551616),.bool b,.I a,.I ls,.string lt,.bool cA,.I gx,.I gs,.string gt] 203)) #[.F,.I 0,.I 0,.E] 94;rw[show(w.alloc (.cells #[.I held,.I (sum / 18446744073709551616),.int .u64 (sum % 18446744073709551616),.bool b,.I a,.I ls,.string lt,.bool cA,.I gx,.I gs,.string gt] 203)).heap.size=w.heap.size+1 by simp]at b1;have f:Hid _:=((vaa w.heap.size w).alloc JR (.cells #[.I held,.I (sum / 18446744073709551616),.int .u64 (sum % 18446744073709551616),.bool b,.I a,.I ls,.string lt,.bool cA,.I gx,.I gs,.string gt] 203)).alloc AS (.cells #[.F,.I 0,.I 0,.E] 94);go_enter Iy,ntmps221
 go_wp2_with (go_at_call 222;refine(az2 _ ht _).mono ?_;rintro e w' ⟨rfl,d⟩;obtain⟨d1,j,i⟩:=(b0.call d).all;obtain⟨g1,h,g⟩:=(b1.call d).all)
 have c:w.heap.size<=w.heap.size+1:=vct _;exact vav (v:=.tuple #[h8 ⟨false,s2 sum,ls,g5⟩,.bool (decide (nX sum))]) (by simp[results,results221,go_sem,g1,g,g5]) Y ⟨Y,((((f.out.trans (d.mono f.out.size)).setCell c _).setCell c _).setCell c _).setCell c _⟩
open b_
variable{ops:fF}{Q:uao}
def P4{C:aR->Prop}{n:Nat}{P:cE}{i j:Nat}{b oj:Oper}{fuel:Nat}{listed:uap}{a:Act}(d:Region.ready .any ops listed=[i,j])(hi:ops[i]?=some b)(e:ops[j]?=some oj)(h:∀K':Act->aR->Prop,(∀a w,C w->oz C n P ops Q fuel (listed.setIfInBounds i true) a w->K' a w)->if Region.wanted b (yielded ops a.tmps)=true then Oper.wpIn Fence.wide n P b a w K' Q else(∀f,b.about P w a.eval=some f->Fence.wide.fn f)/\K' (a.put b.dst undef) w)(k:∀K':Act->aR->Prop,(∀a w,C w->oz C n P ops Q fuel (listed.setIfInBounds j true) a w->K' a w)->if Region.wanted oj (yielded ops a.tmps)=true then Oper.wpIn Fence.wide n P oj a w K' Q else(∀f,oj.about P w a.eval=some f->Fence.wide.fn f)/\K' (a.put oj.dst undef) w):oz C n P ops Q (fuel+1) listed a w:=
 ⟨AA,by
  rw[d];intro x c;simp at c;rcases c with rfl|rfl
  .exact wpOpIn_step hi λK' hK=>h K' AA
  .exact wpOpIn_step e λK' hK=>k K' AA⟩
variable{K:uae}
def x5{P:cE}{cd:Nat}{o:Oper}{a:Act}{F:Prop}(f:o.guard=none)(b:∀c,o.op≠ .defer c)(e:o.about P w a.eval=none)(d:(execOp a.eval o).run P w=.ok .skip w1)(h:K (a.put o.dst undef) w1):
 if Region.wanted o (yielded ops a.tmps)=true then Oper.wpIn Fence.wide cd P o a w K Q else F:=by
 simp_all[Region.wanted,Oper.wpIn,Oper.semAt_eq,Oper.uponIn]
abbrev ft(t:dn):Array Value:=#[.I t.held,.I (t.sum / 18446744073709551616),.int .u64 (t.sum % 18446744073709551616),.bool t.least.bR,.I t.least.num,.I t.least.dg,.string t.least.text,.bool t.greatest.bR,.I t.greatest.num,.I t.greatest.dg,.string t.greatest.text]
def qO(cs:dX)(off:Nat)(t:dn):Array Value:=((((((((((cs.setIfInBounds off (.I t.held)).setIfInBounds (off+1) (.I (t.sum / 18446744073709551616))).setIfInBounds (off+2) (.int .u64 (t.sum % 18446744073709551616))).setIfInBounds (off+3) (.bool t.least.bR)).setIfInBounds (off+4) (.I t.least.num)).setIfInBounds (off+5) (.I t.least.dg)).setIfInBounds (off+6) (.string t.least.text)).setIfInBounds (off+7) (.bool t.greatest.bR)).setIfInBounds (off+8) (.I t.greatest.num)).setIfInBounds (off+9) (.I t.greatest.dg)).setIfInBounds (off+10) (.string t.greatest.text)
variable{cs:dX}
def wT{fr:ubr}(h:w.heap[b]?=some (.cells cs T fr))(o:Nat)(v:Value):(w.setCell ⟨b,o,none⟩ v).heap[b]?=some (.cells (cs.setIfInBounds o v) T fr):=by grind[World.setCell]
variable{off:Nat}
def QC(u:Bool){o:Oper}{x y:uam}(c:o.op=.store 203 x y){ev:uah}(E:ev x=.P b off){t:dn}(D:ev y=jW t){fr:ubr}(h:w.heap[b]?=some (.cells cs T fr))(h2:∀o,w.frozen? ⟨b,o,none⟩=false)(hs:off+11<=cs.size):∃w',(execOp ev o).run (ae prog u) w=.ok .skip w'/\w'.heap[b]?=some (.cells (qO cs off t) T fr)/\(∀k,k≠b->w'.heap[k]?=w.heap[k]?)/\∀B,B<=b->Below B w w':=by
 cases o;simp only at c;subst c;have h1:∀j,j<cs.size->w.cell? (.a b j)=cs[j]?:=λj f=>by simp[World.cell?,h]
 have e:b<w.heap.size:=lR h;have d:=wT (wT (wT (wT (wT (wT (wT (wT (wT (wT (wT h off (.I t.held)) (off+1) (.I (t.sum / 18446744073709551616))) (off+2) (.int .u64 (t.sum % 18446744073709551616))) (off+3) (.bool t.least.bR)) (off+4) (.I t.least.num)) (off+5) (.I t.least.dg)) (off+6) (.string t.least.text)) (off+7) (.bool t.greatest.bR)) (off+8) (.I t.greatest.num)) (off+9) (.I t.greatest.dg)) (off+10) (.string t.greatest.text);have a:∀j,j<11->∃v,w.cell? (.a b (off+j))=some v:=λj f=>⟨_,(h1 _ AQ).trans (vas AQ)⟩;obtain⟨v0,b3⟩:=a 0 AQ;obtain⟨v1,c1⟩:=a 1 AQ;obtain⟨v2,bt⟩:=a 2 AQ;obtain⟨v3,cF⟩:=a 3 AQ;obtain⟨q,F⟩:=a 4 AQ;obtain⟨p,C⟩:=a 5 AQ;obtain⟨n,s⟩:=a 6 AQ;obtain⟨m,r⟩:=a 7 AQ;obtain⟨l,A⟩:=a 8 AQ;obtain⟨i,z⟩:=a 9 AQ;obtain⟨H,ca⟩:=a 10 AQ;simp only[vcc]at b3;clear h1 a h;refine⟨_,?_,d,λk hk=>?_,λB g=>?_⟩
 .clear d;go_simp
 .iterate 11 rw[vat _ _ _ _ hk]
 iterate 11 refine Below.setCell ?_ g _
 exact vaa _ _
theorem x4 b3 c1 bt cF g f c b e d a t:qO #[b3,c1,bt,cF,g,f,c,b,e,d,a] 0 t=ft t:=by kernel_rfl
def ag.cast{a}(h:ag w b cs T)(e:cs=a):ag w b a T:=e▸h
def FL(c:Int)(a b:bz):bz:=if c<0 then a else b
def xZ{b1 b a bS o:Nat}{c1 bt cF f:dX}(h1:ag W b1 c1 T)(h2:ag W b bt T)(h3:ag W a cF T)(i:ag W bS f T)(h:Below b1 w W)(e:a<bS)(v0 v1 v2 v3:Value)(c:dX)(g:(((f.setIfInBounds o v0).setIfInBounds (o+1) v1).setIfInBounds (o+2) v2).setIfInBounds (o+3) v3=c)(e2:b<a:=by omega)(e1:b1<b:=by omega):
 ag ((((W.setCell ⟨bS,o,none⟩ v0).setCell ⟨bS,o+1,none⟩ v1).setCell ⟨bS,o+2,none⟩ v2).setCell ⟨bS,o+3,none⟩ v3) b1 c1 T/\ag ((((W.setCell ⟨bS,o,none⟩ v0).setCell ⟨bS,o+1,none⟩ v1).setCell ⟨bS,o+2,none⟩ v2).setCell ⟨bS,o+3,none⟩ v3) b bt T/\ag ((((W.setCell ⟨bS,o,none⟩ v0).setCell ⟨bS,o+1,none⟩ v1).setCell ⟨bS,o+2,none⟩ v2).setCell ⟨bS,o+3,none⟩ v3) a cF T/\ag ((((W.setCell ⟨bS,o,none⟩ v0).setCell ⟨bS,o+1,none⟩ v1).setCell ⟨bS,o+2,none⟩ v2).setCell ⟨bS,o+3,none⟩ v3) bS c T/\Below b1 w ((((W.setCell ⟨bS,o,none⟩ v0).setCell ⟨bS,o+1,none⟩ v1).setCell ⟨bS,o+2,none⟩ v2).setCell ⟨bS,o+3,none⟩ v3)/\a<bS:=by
 have n1:b1≠bS:=AQ;have ik:b≠bS:=AQ;have nE:a≠bS:=AQ;have d:b1<=bS:=AQ;exact⟨(((h1.fg n1 _).fg n1 _).fg n1 _).fg n1 _,(((h2.fg ik _).fg ik _).fg ik _).fg ik _,(((h3.fg nE _).fg nE _).fg nE _).fg nE _,g▸((((i.set o v0).set (o+1) v1).set (o+2) v2).set (o+3) v3),(((h.setCell d _).setCell d _).setCell d _).setCell d _,e⟩
def az9{u:Bool}{cd:Nat}{o:Oper}{a:Act}{F:Prop}{x y:uam}(i:o.guard=none)(hd:o.dst=none)(d:o.op=.store 203 x y)(g:a.eval x=.P b off){t:dn}(f:a.eval y=jW t)(h:ag w b cs T)(hs:off+11<=cs.size)(hk:∀w',ag w' b (qO cs off t) T->(∀k,k≠b->w'.heap[k]?=w.heap[k]?)->(∀B,B<=b->Below B w w')->K a w'):if Region.wanted o (yielded ops a.tmps)=true then Oper.wpIn Fence.wide cd (ae prog u) o a w K Q else F:=by
 obtain⟨w',h1,h2,h3,h4⟩:=QC u d g f h h.rules.2 hs;refine x5 i (λc e=>by rw[d]at e;cases e) HM h1 ?_;rw[hd];exact hk w' h2 h3 h4
abbrev wU:Array Value:=#[.I 0,.I 0,.int .u64 0,.F,.I 0,.I 0,.E,.F,.I 0,.I 0,.E]
abbrev u3(w:aR)(t o:dn):aR:=((w.alloc (.cells (ft t) 203)).alloc (.cells (ft o) 203)).alloc (.cells wU 203)
abbrev Xe(W:aR)(n:Nat)(t o:dn):Prop:=ag W n (ft t) 203/\ag W (n+1) (ft o) 203/\ag W (n+1+1) wU 203
abbrev FM(w W:aR)(n b:Nat)(t o:dn)(c:dX):Prop:=ag W n (ft t) 203/\ag W (n+1) (ft o) 203/\ag W (n+1+1) wU 203/\ag W b c 203/\Below n w W/\n+1+1<b
theorem az_{u:Bool}(t o:dn)(h1:t.held≠0)(h2:o.held≠0)(hs:r4 t.sum)(sy:r4 o.sum)(hr:nX (t.held+o.held))(w:aR):
 Calls (ae prog u) 95 #[jW t,jW o] w λe w'=>e=.returned (jW (eP t o))/\c6 w w':=by
 have Pb:eP t o=⟨t.held+o.held,t.sum+o.sum,if m3 o.least t.least<0 then o.least else t.least,if 0<m3 o.greatest t.greatest then o.greatest else t.greatest⟩:=by simp[eP,h1,h2]
 obtain⟨c1,P⟩:∃c,c=m3 o.least t.least:=⟨_,Y⟩;obtain⟨bt,O⟩:∃c,c=m3 o.greatest t.greatest:=⟨_,Y⟩;have aAa:∀W,Calls (ae prog u) 119 #[h8 o.least,h8 t.least] W λe w'=>e=.returned (.I c1)/\c6 W w':=λW=>by rw[P];exact yg _ _ W
 have aAb:∀W,Calls (ae prog u) 119 #[h8 o.greatest,h8 t.greatest] W λe w'=>e=.returned (.I bt)/\c6 W w':=λW=>by rw[O];exact yg _ _ W
 rw[Pb,<-P,<-O];clear Pb P O;obtain⟨L,aM⟩:∃L:bz,L=FL c1 o.least t.least:=⟨_,Y⟩;obtain⟨M,V⟩:∃M:bz,M=FL (-bt) o.greatest t.greatest:=⟨_,Y⟩;have e2:(if 0<bt then o.greatest else t.greatest)=M:=by rw[V,FL];by_cases h:0<bt<;>simp[h]
 rw[e2,show(if c1<0 then o.least else t.least)=L from aM.symm];have jM:Hid _:=aM;have l4:Hid _:=V;clear aM V e2;have N:Hid (r4 t.sum/\r4 o.sum):=⟨hs,sy⟩;have hw:IntKind.wrap .i64 (t.held+o.held)=t.held+o.held:=CL;clear hs sy;go_enter (QB u),ntmps95
 go_upto_region 5 with fail
 have dG:=((ag.new w (ft t) 203).alloc (.cells (ft o) 203)).alloc (.cells wU 203);have U:=(ag.new (w.alloc (.cells (ft t) 203)) (ft o) 203).alloc (.cells wU 203);have T:=ag.new ((w.alloc (.cells (ft t) 203)).alloc (.cells (ft o) 203)) wU 203;simp only[ved]at U T;have q:Hid (c6 w (u3 w t o).drew):=((((vaa _ w).alloc JR _).alloc AS _).alloc BA _).drew;have z:Hid ((u3 w t o).heap.size=w.heap.size+1+1+1):=by unfold Hid;simp
 have HC:Hid (Xe (u3 w t o).drew w.heap.size t o):=⟨dG,U,T⟩;clear dG U T;unfold u3 at q z HC;generalize((w.alloc (.cells (ft t) 203)).alloc (.cells (ft o) 203)).alloc (.cells wU 203)=R at *;refine wpIn_wide.1 (wpIn_region_any (n:=0) AB (uP (C:=λW=>Xe W w.heap.size t o) _ _ _ _ ?_));refine c0 (i:=0) (v:=.P w.heap.size 0) Y AB AB AB Jf HC.out ⟨Ao,λW d=>Ak,(λc h=>nomatch h),λ_=>Y⟩ ?_;refine c0 (i:=2) (v:=.P (w.heap.size+1) 0) Y AB AB AB Jf HC.out ⟨Ao,λW d=>Ak,(λc h=>nomatch h),λ_=>Y⟩ ?_;refine c0 (i:=5) (v:=.P w.heap.size 1) Y AB AB AB Jf HC.out ⟨Ao,λW d=>Ak,(λc h=>nomatch h),λ_=>Y⟩ ?_;refine c0 (i:=7) (v:=.P (w.heap.size+1) 1) Y AB AB AB Jf HC.out ⟨Ao,λW d=>Ak,(λc h=>nomatch h),λ_=>Y⟩ ?_;refine c0 (i:=10) (v:=.P w.heap.size 3) Y AB AB AB Jf HC.out ⟨Ao,λW d=>Ak,(λc h=>nomatch h),λ_=>Y⟩ ?_;refine c0 (i:=12) (v:=.P w.heap.size 7) Y AB AB AB Jf HC.out ⟨Ao,λW d=>Ak,(λc h=>nomatch h),λ_=>Y⟩ ?_;refine c0 (i:=1) (v:=.I t.held) Y AB AB AB Jf HC.out ⟨Ao,λW d=>E4,(λc h=>nomatch h),λ_=>Y⟩ ?_;refine c0 (i:=3) (v:=.I o.held) Y AB AB AB Jf HC.out ⟨Ao,λW d=>by obtain⟨F,B,A⟩:=d.2.1.all;go_simp,(λc h=>nomatch h),λ_=>Y⟩ ?_;refine c0 (i:=6) (v:=yi t.sum) Y AB AB AB Jf HC.out ⟨Ao,λW d=>E4,(λc h=>nomatch h),λ_=>Y⟩ ?_;refine c0 (i:=8) (v:=yi o.sum) Y AB AB AB Jf HC.out ⟨Ao,λW d=>by obtain⟨F,B,A⟩:=d.2.1.all;go_simp,(λc h=>nomatch h),λ_=>Y⟩ ?_;refine c0 (i:=11) (v:=h8 t.least) Y AB AB AB Jf HC.out ⟨Ao,λW d=>E4,(λc h=>nomatch h),λ_=>Y⟩ ?_;refine c0 (i:=13) (v:=h8 t.greatest) Y AB AB AB Jf HC.out ⟨Ao,λW d=>E4,(λc h=>nomatch h),λ_=>Y⟩ ?_;refine c0 (i:=4) (v:=.I (t.held+o.held)) Y AB AB AB Jf HC.out ⟨Ao,λW d=>Ak,(λc h=>nomatch h),λ_=>Y⟩ ?_;refine P4 (i:=9) (j:=15) AB Y Y (λK hK=>?_) (λK hK=>?_);focus
  go_simp
  refine⟨NE,Y,(callsIn_wide.2 (yK _ _ N.out.1 N.out.2 _)).mono ?_⟩;rintro e w1 ⟨rfl,f⟩;have p:Hid (Xe w1 w.heap.size t o):=⟨HC.out.1.call f,HC.out.2.1.call f,HC.out.2.2.call f⟩;have S:Hid (c6 w w1):=q.out.trans (f.mono q.out.size);have J:Hid (w.heap.size+1+1<w1.heap.size):=by have:=f.size;have h2:=z.out;unfold Hid;simp at this;omega
  clear f HC q z;refine hK _ _ p.out ?_;clear hK K;refine c0 (i:=14) (v:=jW ⟨t.held+o.held,t.sum+o.sum,t.least,t.greatest⟩) Y AB AB AB Jf p.out ⟨Ao,λW d=>Ak,(λc h=>nomatch h),λ_=>Y⟩ ?_;refine fc (i:=15) AB Y λK hK=>?_;go_simp
  refine hK _ _ ⟨p.out.1.alloc _,p.out.2.1.alloc _,p.out.2.2.alloc _⟩ ?_;clear hK K;have a:Hid (FM w (w1.alloc (.cells wU 203)) w.heap.size w1.heap.size t o wU):=⟨p.out.1.alloc _,p.out.2.1.alloc _,p.out.2.2.alloc _,ag.new _ _ _,S.out.alloc S.out.size _,J.out⟩;clear p S J;generalize w1.alloc (.cells wU 203)=W2 at *;generalize w1.heap.size=bS at *
 rotate_left
 focus
  go_simp
  refine hK _ _ ⟨HC.out.1.alloc _,HC.out.2.1.alloc _,HC.out.2.2.alloc _⟩ ?_;clear hK K;refine fc (i:=9) AB Y λK hK=>?_;go_simp
  refine⟨NE,Y,(callsIn_wide.2 (yK _ _ N.out.1 N.out.2 _)).mono ?_⟩;rintro e W2 ⟨rfl,f⟩;have a:Hid (FM w W2 w.heap.size R.heap.size t o wU):=⟨(HC.out.1.alloc _).call f,(HC.out.2.1.alloc _).call f,(HC.out.2.2.alloc _).call f,(ag.new R _ _).drew.call f,(q.out.alloc q.out.size _).trans (f.mono (by simp;have:=q.out.size;simp at this;omega)),by have:=z.out;omega⟩;refine hK _ _ ⟨a.out.1,a.out.2.1,a.out.2.2.1⟩ ?_;clear hK K f HC q z;generalize R.heap.size=bS at *;refine c0 (i:=14) (v:=jW ⟨t.held+o.held,t.sum+o.sum,t.least,t.greatest⟩) Y AB AB AB Jf ⟨a.out.1,a.out.2.1,a.out.2.2.1⟩ ⟨Ao,λW d=>Ak,(λc h=>nomatch h),λ_=>Y⟩ ?_
 rotate_left
 all_goals
  refine fc (i:=16) AB Y λK hK=>az9 (t:=⟨t.held+o.held,t.sum+o.sum,t.least,t.greatest⟩) (b:=bS) (off:=0) Y Y Y Y Y a.out.2.2.2.1 AS λmH k1 r k3=>hK _ _ ⟨(r _ Ca).trans a.out.1,(r _ Ca).trans a.out.2.1,(r _ Ca).trans a.out.2.2.1⟩ ?_;have k:Hid (FM w mH w.heap.size bS t o (ft ⟨t.held+o.held,t.sum+o.sum,t.least,t.greatest⟩)):=⟨(r _ Ca).trans a.out.1,(r _ Ca).trans a.out.2.1,(r _ Ca).trans a.out.2.2.1,bd.ag.cast k1 (x4 ..),a.out.2.2.2.2.1.trans (k3 _ Ca),a.out.2.2.2.2.2⟩;clear hK K k1 r k3 a;refine uQ AB ?_ _;obtain⟨a1,a6,X⟩:=k.out.1.all;obtain⟨b1,I,H⟩:=k.out.2.1.all;go_wp2_with fail
  refine(aAa _).mono ?_;rintro e w4 ⟨rfl,s⟩;have g:Hid (FM w w4 w.heap.size bS t o (ft ⟨t.held+o.held,t.sum+o.sum,t.least,t.greatest⟩)):=⟨k.out.1.call s,k.out.2.1.call s,k.out.2.2.1.call s,k.out.2.2.2.1.call s,k.out.2.2.2.2.1.trans (s.mono k.out.2.2.2.2.1.size),k.out.2.2.2.2.2⟩;clear a1 a6 X b1 I H s k;obtain⟨a1,a6,X⟩:=g.out.1.all;obtain⟨b1,I,H⟩:=g.out.2.1.all;obtain⟨d1,E,D⟩:=g.out.2.2.2.1.all;by_cases Cx:c1<0;case' pos=>
   go_wp2_with fail
   have m:Hid _:=xZ (o:=3) g.out.1 g.out.2.1 g.out.2.2.1 g.out.2.2.2.1 g.out.2.2.2.2.1 g.out.2.2.2.2.2 (.bool o.least.bR) (.I o.least.num) (.I o.least.dg) (.string o.least.text) (ft ⟨t.held+o.held,t.sum+o.sum,L,t.greatest⟩) (by rw[jM.out,FL,vca AQ];kernel_rfl)
  case' neg=>
   go_wp2_with fail
   have m:Hid (FM w w4 w.heap.size bS t o (ft ⟨t.held+o.held,t.sum+o.sum,L,t.greatest⟩)):=by have h:=g.out;rw[jM.out,FL,vby AQ];exact h
  all_goals
   refine(aAb _).mono ?_;rintro e Q ⟨rfl,y⟩;have l:Hid (FM w Q w.heap.size bS t o (ft ⟨t.held+o.held,t.sum+o.sum,L,t.greatest⟩)):=⟨m.out.1.call y,m.out.2.1.call y,m.out.2.2.1.call y,m.out.2.2.2.1.call y,m.out.2.2.2.2.1.trans (y.mono m.out.2.2.2.2.1.size),m.out.2.2.2.2.2⟩;clear a1 a6 X b1 I H d1 E D y g m;obtain⟨b1,I,H⟩:=l.out.2.1.all;obtain⟨d1,E,D⟩:=l.out.2.2.2.1.all;by_cases tO:0<bt;case' pos=>
    go_upto_region 10 with fail
    have x:Hid _:=xZ (o:=7) l.out.1 l.out.2.1 l.out.2.2.1 l.out.2.2.2.1 l.out.2.2.2.2.1 l.out.2.2.2.2.2 (.bool o.greatest.bR) (.I o.greatest.num) (.I o.greatest.dg) (.string o.greatest.text) (ft ⟨t.held+o.held,t.sum+o.sum,L,M⟩) (by rw[l4.out,FL,vca AQ];kernel_rfl);generalize World.setCell _ _ _=Z at *
   case' neg=>
    go_upto_region 10 with fail
    have x:Hid (FM w Q w.heap.size bS t o (ft ⟨t.held+o.held,t.sum+o.sum,L,M⟩)):=by have h:=l.out;rw[l4.out,FL,vby AQ];exact h
    generalize Q=Z at *
   all_goals
    clear b1 I H d1 E D l;obtain⟨d1,E,D⟩:=x.out.2.2.2.1.all;obtain⟨f1,f2,f3⟩:=x.out.2.2.1.all;go_wp2_with fail
    have bO:=yf x.out.2.2.1 (.I (t.held+o.held)) (.I ((t.sum+o.sum) / 18446744073709551616)) (.int .u64 ((t.sum+o.sum) % 18446744073709551616)) (.bool L.bR) (.I L.num) (.I L.dg) (.string L.text) (.bool M.bR) (.I M.num) (.I M.dg) (.string M.text);have a:Hid _:=ye x.out.2.2.2.2.1 (show w.heap.size<=w.heap.size+1+1 by omega) (.I (t.held+o.held)) (.I ((t.sum+o.sum) / 18446744073709551616)) (.int .u64 ((t.sum+o.sum) % 18446744073709551616)) (.bool L.bR) (.I L.num) (.I L.dg) (.string L.text) (.bool M.bR) (.I M.num) (.I M.dg) (.string M.text);clear d1 E D f1 f2 f3 x;unfold QA at bO a;generalize World.setCell _ _ _=aKh at *;obtain⟨aZ,a3,q3⟩:=bO.all;exact vav (v:=jW ⟨t.held+o.held,t.sum+o.sum,L,M⟩) (by simp[results,results95,go_sem,aZ,q3]) Y ⟨Y,a.out⟩
end bd
namespace bd
open RowKit Shelf av
theorem aAc{u:Bool}(t o:dn)(h:t.held=0\/o.held=0)(w:aR):
 Calls (ae prog u) 95 #[jW t,jW o] w λe w'=>e=.returned (jW (eP t o))/\c6 w w':=by
 by_cases h1:t.held=0
 .rw[show eP t o=o by simp[eP,h1]];obtain⟨held,sum,l,g⟩:=t;simp only at h1;subst h1;go_enter (QB u),ntmps95
  go_wp2
  exact vav (v:=jW o) (by simp[results,results95,go_sem]) Y ⟨Y,(((vaa _ w).alloc JR _).alloc AS _).alloc BA _⟩
 .have h2:o.held=0:=h.resolve_left h1;rw[show eP t o=t by grind[eP]];obtain⟨held,sum,l,g⟩:=o;simp only at h2;subst h2;go_enter (QB u),ntmps95
  go_wp2
  exact vav (v:=jW t) (by simp[results,results95,go_sem]) Y ⟨Y,(((vaa _ w).alloc JR _).alloc AS _).alloc BA _⟩
def aAd{u:Bool}(t o:dn)(hs:r4 t.sum)(a:r4 o.sum)(b:nX (t.held+o.held))(w:aR):
 Calls (ae prog u) 95 #[jW t,jW o] w λe w'=>e=.returned (jW (eP t o))/\c6 w w':=by
 grind[aAc,az_]
