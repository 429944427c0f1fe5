import Derived.Test.YtnkpmooengcinaaGreatPAO
import Derived.Test.YtnkpmooengcinaaGreatPAR
set_option linter.all false
set_option maxRecDepth 100000
set_option maxHeartbeats 16000000
namespace Go.Proofs.YtnkpmooengcinaaGreat
open Go.Proofs.Tryz
namespace bB
open RowKit Shelf av cv
abbrev c3(p t:Value):Array Value:=#[p,.F,.I 0,.I 0,.E,.F,.I 0,.I 0,.E,.F,.I 0,.I 0,.E,.F,.I 0,.I 0,.E,t]
abbrev oh(p t:Value):Value:=.agg (c3 p t)
def vI:(aa prog false).funcs[(205:Nat)]?=some f205:=bo (upd:=false) func205 AT
def vx(xs:uay)(vs:Nat->dM)(fr k m:Nat)(W:aH)(x:Value):Prop:=∃aq,x=oh (xs.getD (fr+k) (undef,undef)).1 (.S aq 0 1 1)/\m<=aq/\ag W aq (dB (lG (vs (fr+k)))) 193
def at7{n:Nat}(xs:uay)(vs:Nat->dM)(cf dV cc aA aR gc fr dG:Nat)(w0:aH)(hcell:∀j u,(two xs)[j]?=some u->w0.cell? (.a cf (dV+j))=some u)(eJ:∀i(h:i<xs.length),(∃a l c,xs[i].1=.slice a l c)/\n2 w0 xs[i].2 [vs i])(hcc:xs.length<=cc)(tI:fr<dG)(x5:dG<=xs.length)(NV:xs.length<=1000000)(vV:∀i,jf (vs i).num)(hk:w0.cell? (.a aA aR)=some (.I 2))(fe:w0.cell? (.a aA (aR+1))=some (.I 0))(d ig aq:Nat)(B:w0.cell? (.a d 4)=some (.N))(Q:w0.cell? (.a d 6)=some (.S aA aR 1 gc))(Ue:w0.cell? (.a d 7)=some (.S cf dV xs.length cc))(hf:w0.cell? (.a ig 0)=some (.I fr))(ht:w0.cell? (.a aq 0)=some (.I dG)):
 B0 (λe=>e=67) w0.heap.size n (aa prog false) 205 #[.P d 0,.P ig 0,.P aq 0] (vx xs vs fr) (dG-fr) w0.heap.size w0:=by
 intro l S J W hb nv oQ ia h0;have ff:=Fj nv oQ;clear oQ nv;have x:=bm.b4 hb;have oR:=x _ _ _ hf;have Fy:=x _ _ _ ht;have NW:=x _ _ _ Ue;refine vdt vI rfl trivial ?_ rfl;simp[vbb];gi_wp2
 gi_loopw [13] (λp wr=>∃i:Nat,fr+i<=dG/\p=.I (i:Int)/\J i wr/\cC w0 wr/\Below w0.heap.size W wr) (λp _=>dG-fr-(intOf p).toNat)
 case atStart=>grind[Below.refl]
 case round=>
  obtain⟨i,lX,rfl,hj,H,eu⟩:=hrel;have m:=bm.b4 H;have Y:Hid (J i wr):=hj;have nw:Hid (cC w0 wr):=H;have ri:Hid (Below w0.heap.size W wr):=eu;by_cases hlt:fr+i<dG
  .have Z:fr+i<xs.length:=by omega
   obtain⟨g1,g2⟩:=IH xs (fr+i) Z;obtain⟨⟨pa,aJ,pc,hp⟩,T⟩:=eJ (fr+i) Z;obtain⟨k,g,hv,-,-⟩:=id T;have I:=m _ _ _ (hcell _ _ g1);have e1:=m _ _ _ (hcell _ _ g2);have c9:dV+(fr+i)*2=dV+fr*2+i*2:=AY;have dF:dV+((fr+i)*2+1)=dV+fr*2+i*2+1:=AY;rw[c9]at I;rw[dF]at e1;have U:=m _ _ _ B;have q6:=m _ _ _ Q;have dn:=m _ _ _ hk;have k1:=m _ _ _ fe;have bP:=dx I;have Tj:=dx U;have O:Hid (d<w0.heap.size):=dx B;have R:Hid (n2 wr _ _):=bw.mono Ca m T;have ot:(i:Int)<((dG-fr:Nat):Int):=AY;have wE:(0:Int)<=(i:Int):=AY;rw[hp]at I;rw[hv]at e1 R;have cU:Hid ((xs.getD (fr+i) (undef,undef)).1=.slice pa aJ pc):=by unfold Hid;rw[vcu,vas Z];exact hp
   clear hj H eu m hf ht B Q Ue oR Fy NW h0 hb x g1 g2 c9 dF T hk fe eJ hcell hp hv;gi_wp2
   have X:cC wr (wr.alloc (.cells #[.slice pa aJ pc,.slice k [vs (fr+i)].length g] 67)):=(vaa _ wr).alloc IB _;have t:=bm.b4 X;have gK:Hid (ag (wr.alloc (.cells #[.slice pa aJ pc,.slice k [vs (fr+i)].length g] 67)) wr.heap.size #[.slice pa aJ pc,.slice k [vs (fr+i)].length g] 67):=ag.new _ _ _;have HC:Hid (ag (wr.alloc (.cells #[.slice pa aJ pc,.slice k [vs (fr+i)].length g] 67)).drew wr.heap.size #[.slice pa aJ pc,.slice k [vs (fr+i)].length g] 67/\(wr.alloc (.cells #[.slice pa aJ pc,.slice k [vs (fr+i)].length g] 67)).drew.cell? (.a d 4)=some (.N)/\(wr.alloc (.cells #[.slice pa aJ pc,.slice k [vs (fr+i)].length g] 67)).drew.cell? (.a d 6)=some (.S aA aR 1 gc)):=⟨gK.out.drew,t _ _ _ U,t _ _ _ q6⟩;have N:Hid _:=And.intro (t _ _ _ dn) (And.intro (t _ _ _ k1) (bw.mono Ca t R.out));have V:Hid (cC wr (wr.alloc (.cells #[.slice pa aJ pc,.slice k [vs (fr+i)].length g] 67)).drew):=X.drew;clear X t U q6 dn k1 I e1 R Tj gK;generalize wr.alloc (.cells #[.slice pa aJ pc,.slice k [vs (fr+i)].length g] 67)=h6 at *;refine wpIn_region_any AU (AJ (C:=λW=>ag W wr.heap.size #[.slice pa aJ pc,.slice k [vs (fr+i)].length g] 67/\W.cell? (.a d 4)=some (.N)/\W.cell? (.a d 6)=some (.S aA aR 1 gc)) _ _ _ _ ?_);refine cR (i:=0) (v:=.func (.yield l) #[] #[]) rfl AU AU AU IG HC.out ⟨Av,λW f=>Ah,(λc h=>nomatch h),λ_=>rfl⟩ ?_;refine cR (i:=1) (v:=.P wr.heap.size 0) rfl AU AU AU IG HC.out ⟨Av,λW f=>Ah,(λc h=>nomatch h),λ_=>rfl⟩ ?_;refine cR (i:=4) (v:=.P d 0) rfl AU AU AU IG HC.out ⟨Av,λW f=>Ah,(λc h=>nomatch h),λ_=>rfl⟩ ?_;refine cR (i:=8) (v:=.P d 0) rfl AU AU AU IG HC.out ⟨Av,λW f=>Ah,(λc h=>nomatch h),λ_=>rfl⟩ ?_;refine cR (i:=5) (v:=.P d 4) rfl AU AU AU IG HC.out ⟨Av,λW f=>Ah,(λc h=>nomatch h),λ_=>rfl⟩ ?_;refine cR (i:=9) (v:=.P d 6) rfl AU AU AU IG HC.out ⟨Av,λW f=>Ah,(λc h=>nomatch h),λ_=>rfl⟩ ?_;refine cR (i:=2) (v:=.slice pa aJ pc) rfl AU AU AU IG HC.out ⟨Av,λW f=>FP,(λc h=>nomatch h),λ_=>rfl⟩ ?_;refine cR (i:=3) (v:=.agg #[.slice pa aJ pc,.slice k [vs (fr+i)].length g]) rfl AU AU AU IG HC.out ⟨Av,λW f=>FP,(λc h=>nomatch h),λ_=>rfl⟩ ?_;refine cR (i:=11) (v:=.agg #[.slice pa aJ pc,.slice k [vs (fr+i)].length g]) rfl AU AU AU IG HC.out ⟨Av,λW f=>FP,(λc h=>nomatch h),λ_=>rfl⟩ ?_;refine cR (i:=6) (v:=.N) rfl AU AU AU IG HC.out ⟨Av,λW f=>by have r:=f.2.1;have L:=dx r;go_simp,(λc h=>nomatch h),λ_=>rfl⟩ ?_;refine cR (i:=10) (v:=.S aA aR 1 gc) rfl AU AU AU IG HC.out ⟨Av,λW f=>by have r:=f.2.2;have L:=dx r;go_simp,(λc h=>nomatch h),λ_=>rfl⟩ ?_;refine js (i:=7) AU rfl λK hK=>?_;go_simp
   refine⟨PA,λh=>BQ,(vea.2 (at6 pa k aJ pc _ g _)).mono ?_⟩;rintro e w2 ⟨rfl,M⟩;have s:=bm.b4 M;have A:Hid (ag w2 wr.heap.size #[.slice pa aJ pc,.slice k [vs (fr+i)].length g] 67/\w2.cell? (.a d 4)=some (.N)/\w2.cell? (.a d 6)=some (.S aA aR 1 gc)):=⟨HC.out.1.call M,s _ _ _ HC.out.2.1,s _ _ _ HC.out.2.2⟩;have z:Hid _:=at5 (vs (fr+i)) (vV _) aA aR gc _ pa aJ pc w2 (s _ _ _ N.out.1) (s _ _ _ N.out.2.1) (bw.mono Ca s N.out.2.2);have F:Hid (cC wr w2):=V.out.trans (M.mono V.out.size);refine hK _ _ A.out ?_;clear hK K M s HC N V;refine js (i:=12) AU rfl λK hK=>?_;go_simp
   refine⟨PA,λh=>BQ,(vea.2 z.out).mono ?_⟩;rintro e w ⟨b,rfl,dX,rY,E⟩;have Uf:=bm.b4 E;have q:Hid (ag w wr.heap.size #[.slice pa aJ pc,.slice k [vs (fr+i)].length g] 67/\w.cell? (.a d 4)=some (.N)/\w.cell? (.a d 6)=some (.S aA aR 1 gc)):=⟨A.out.1.call E,Uf _ _ _ A.out.2.1,Uf _ _ _ A.out.2.2⟩;have P:Hid (cC wr w):=F.out.trans (E.mono F.out.size);have Ed:Hid _:=ia i (oh (.slice pa aJ pc) (.S b 0 1 1)) wr w Y.out P.out (ff _ _ _ Y.out P.out) AY ⟨b,by rw[cU.out],vac F.out.size rY,dX⟩;refine hK _ _ q.out ?_;clear hK K E Uf A z dX rY F ia ff;refine cR (i:=13) (v:=oh (.slice pa aJ pc) (.S b 0 1 1)) rfl AU AU AU IG q.out ⟨Av,λW f=>Ah,(λc h=>nomatch h),λ_=>rfl⟩ ?_;refine js (i:=14) AU rfl λK hK=>?_;obtain⟨fn,tmps,assign,body,hy,bl⟩:=Ed.out;go_simp
   refine⟨λh=>BQ,bl.mono ?_⟩;rintro e o ⟨rfl,x_,D,tz⟩;have Ns:o.cell? (.a d 4)=some (.N):=(vam (D.2 d O.out (by have:=O.out;omega))).trans q.out.2.1;have FT:o.cell? (.a d 6)=some (.S aA aR 1 gc):=(vam (D.2 d O.out (by have:=O.out;omega))).trans q.out.2.2;have J8:Hid (ag o wr.heap.size #[.slice pa aJ pc,.slice k [vs (fr+i)].length g] 67/\o.cell? (.a d 4)=some (.N)/\o.cell? (.a d 6)=some (.S aA aR 1 gc)):=⟨tz _ _ _ _ rfl q.out.1,Ns,FT⟩;have at8:Hid (J (i+1) o):=x_;have y:Hid (hU w0.heap.size w0.heap.size wr o):=(hU.of (P.out.mono nw.out.size)).trans D;refine hK _ _ J8.out ?_;clear hK K x_ D tz Ns FT q P Ed bl hy;refine js (i:=15) AU rfl λK hK=>?_;go_simp
   refine hK _ _ J8.out ?_;clear hK K;refine AK AU ?_ _;gi_wp2
   go_roundw
   case rel=>exact⟨i+1,AY,Ab,at8.out,nw.out.trans y.out.a7,ri.out.trans y.out.a7⟩
   case measure=>simp[intOf];omega
  .have ot:¬(i:Int)<((dG-fr:Nat):Int):=by omega
   clear hj H eu m hf ht B Q Ue oR Fy NW h0 hb x eJ hcell;gi_wp2
   go_end0
   have e:dG-fr=i:=AY;rw[e];exact⟨⟨_,rfl⟩,Y.out,.of ri.out⟩
def gL(w:aH)(b:Nat)(t:cV):Prop:=(∃fr,w.heap[b]?=some (.cells (dB t) 193 fr))/\∀o,w.frozen? ⟨b,o,none⟩=false
variable{t:cV}
theorem gL.of{w:aH}{b:Nat}(h:ag w b (dB t) 193):gL w b t:=⟨⟨_,h⟩,h.rules.2⟩
def gL.same{w w':aH}{b:Nat}(h:gL w b t)(e:w'.heap[b]?=w.heap[b]?):gL w' b t:=by obtain⟨⟨fr,a⟩,c⟩:=h;refine⟨⟨fr,e.trans a⟩,λo=>?_⟩;grind[World.frozen?]
def gL.lt{w:aH}{b:Nat}(h:gL w b t):b<w.heap.size:=jk h.1.choose_spec
theorem gL.cell{w:aH}{b:Nat}(h:gL w b t)(o:Nat):w.cell? (.a b o)=(dB t)[o]?:=by obtain⟨⟨fr,a⟩,c⟩:=h;simp[World.cell?,a]
def gL.nu{w w':aH}{b:Nat}(h:gL w b t)(hk:fO w w'):gL w' b t:=by obtain⟨⟨fr,a⟩,c⟩:=id h;exact h.same ((hk.cells _ _ _ _ a).trans a.symm)
variable{y:uaq}
section
variable{F:Fence}{jg:Nat}{P:ck}{ops:eQ}{rest:ubf}{o:Oper}{a:Act}{w w1:aH}{Q:uap}
def N0{v:Value}(e:o.guard=none)(b:∀c,o.op≠ .defer c)(i:o.about P w a.eval=none)(d:(execOp a.eval o).run P w=.ok (.value v) w1)(h:wpListIn F jg P ops Q rest (a.put o.dst v) w1):wpListIn F jg P ops Q (o::rest) a w:=by refine wpListIn_plain e λK hK=>?_;unfold Oper.wpIn;refine⟨λf g=>AN,?_⟩;rw[Oper.semAt_plain F _ _ b,d];exact hK _ _ h
def Ug(e:o.guard=none)(b:∀c,o.op≠ .defer c)(i:o.about P w a.eval=none)(d:(execOp a.eval o).run P w=.ok .skip w1)(h:wpListIn F jg P ops Q rest (a.put o.dst undef) w1):wpListIn F jg P ops Q (o::rest) a w:=by refine wpListIn_plain e λK hK=>?_;unfold Oper.wpIn;refine⟨λf g=>AN,?_⟩;rw[Oper.semAt_plain F _ _ b,d];exact hK _ _ h
def J9{x:uaq}(_:o.op=.store 138 x y)(h:hJ (wpListIn F jg P ops Q (o::rest) a w)):wpListIn F jg P ops Q (o::rest) a w:=h
def at9{x:uaq}(_:o.op=.store 193 x y)(h:hJ (wpListIn F jg P ops Q (o::rest) a w)):wpListIn F jg P ops Q (o::rest) a w:=h
def vt{t:uaa}{x:uaq}{b:Bool}(_:o.op=.lookup t x y b)(h:hJ (wpListIn F jg P ops Q (o::rest) a w)):wpListIn F jg P ops Q (o::rest) a w:=h
def aua{t:uaa}{x z:uaq}(_:o.op=.mapUpdate t x y z)(h:hJ (wpListIn F jg P ops Q (o::rest) a w)):wpListIn F jg P ops Q (o::rest) a w:=h
end
variable{pa ta:uad}
def aub(u:Bool){o:Oper}{x:uaq}(a:o.op=.store 138 x y){ev:uaj}{w:aH}{b:Nat}(g:ev x=.P b 0){aJ pc tl cL:Nat}(f:ev y=oh (.slice pa aJ pc) (.slice ta tl cL)){p0 t0:Value}(h:ag w b (c3 p0 t0) 138):∃w',(execOp ev o).run (aa prog u) w=.ok .skip w'/\ag w' b (c3 (.slice pa aJ pc) (.slice ta tl cL)) 138/\(∀k,k≠b->w'.heap[k]?=w.heap[k]?)/\∀B,B<=b->Below B w w':=by
 cases o;simp only at a;subst a;obtain⟨l,j,i⟩:=h.all;have c:=(((((((((((((((((h.set 0 (.slice pa aJ pc)).set 1 (.F)).set 2 (.I 0)).set 3 (.I 0)).set 4 (.E)).set 5 (.F)).set 6 (.I 0)).set 7 (.I 0)).set 8 (.E)).set 9 (.F)).set 10 (.I 0)).set 11 (.I 0)).set 12 (.E)).set 13 (.F)).set 14 (.I 0)).set 15 (.I 0)).set 16 (.E)).set 17 (.slice ta tl cL);have d:=bB.ag.cast c (show _=c3 (.slice pa aJ pc) (.slice ta tl cL) by simp);clear c;refine⟨_,?_,d,λk hk=>?_,λB e=>?_⟩
 .clear d;go_simp
 .simp_all[vav]
 iterate 18 refine Below.setCell ?_ e _
 exact vaa _ _
def lH(b:Bool):Array MapEntry:=if b then#[⟨.agg o_,.I 0,0⟩]else#[]
def vq(u:Bool):(aa prog u).underlying 189=some (.map 131 3):=by simp
def N1(u em:Bool)(w:aH):(Instr.checkKey em 10000 131 (.agg o_)).run (aa prog u) w=.ok () w:=by cases em<;>kernel_rfl
def vp(u b:Bool)(w:aH):(Instr.findKey 131 (.agg o_) (lH b).toList).run (aa prog u) w=.ok (if b then some (0,.I 0)else none) w:=by cases b<;>kernel_rfl
def auc(u b:Bool){w:aH}{m J_:Nat}(h:w.heap[m]?=some (.map (lH b) J_)):(Instr.lookup 189 (.map (some m)) (.agg o_) true).run (aa prog u) w=.ok (.tuple #[.I 0,.bool b]) w:=by have hg:=MapKept.run_getObj_map (P:=aa prog u) h;have a:(zeroValue 3).run (aa prog u) w=.ok (.I 0) w:=Ab;unfold Instr.lookup;simp only[Sem.run_bind,run_underlying (vq u),vca,hg,N1];have c:=vp u b w;cases b<;>simp[N1,c,a]
def aud(u:Bool){w:aH}{m:Nat}(h:w.heap[m]?=some (.map (lH false) 0)):(Instr.mapUpdate 189 (.map (some m)) (.agg o_) (.I 0)).run (aa prog u) w=.ok () (w.putObj m (.map (lH true) 1)):=by have hg:=MapKept.run_getObj_map (P:=aa prog u) h;have hs:=λo=>MapKept.run_setObj_map (P:=aa prog u) o h;unfold Instr.mapUpdate;simp only[Sem.run_bind,run_underlying (vq u),vca,hg,N1];have a:=vp u false w;simp[N1,a,hs,World.putObj];rfl
variable{i:uaq}
section
variable{u:Bool}{F:Fence}{jg:Nat}{ops:eQ}{rest:ubf}{o:Oper}{a:Act}{w:aH}{Q:uap}
def Ka{x:uaq}(n:o.guard=none)(hd:o.dst=none)(d:o.op=.store 138 x y){b:Nat}(g:a.eval x=.P b 0){aJ pc tl cL:Nat}(f:a.eval y=oh (.slice pa aJ pc) (.slice ta tl cL)){p0 t0:Value}(h:ag w b (c3 p0 t0) 138)(hk:∀w',ag w' b (c3 (.slice pa aJ pc) (.slice ta tl cL)) 138->(∀k,k≠b->w'.heap[k]?=w.heap[k]?)->(∀B,B<=b->Below B w w')->wpListIn F jg (aa prog u) ops Q rest a w'):wpListIn F jg (aa prog u) ops Q (o::rest) a w:=by
 obtain⟨w',m,l,j,i⟩:=aub u d g f h;refine Ug n Js Dk m ?_;rw[hd];exact hk w' l j i
def aue{x:uaq}(n:o.guard=none)(hd:o.dst=none)(d:o.op=.store 193 x y){b:Nat}(i:a.eval x=.P b 0)(g:a.eval y=og t){t0:cV}(h:ag w b (dB t0) 193)(hk:∀w',ag w' b (dB t) 193->(∀k,k≠b->w'.heap[k]?=w.heap[k]?)->(∀B,B<=b->Below B w w')->wpListIn F jg (aa prog u) ops Q rest a w'):wpListIn F jg (aa prog u) ops Q (o::rest) a w:=by
 obtain⟨w',m,f,l,j⟩:=NT u d i g h h.rules.2 Ab;refine Ug n Js Dk m ?_;rw[hd];rw[NU]at f;exact hk w' f l j
def auf{q:Nat}{K:uak}{G:Prop}{x:uaq}(p:o.guard=none)(hd:o.dst=none)(d:o.op=.store 193 x y){b:Nat}(i:a.eval x=.P b 0)(g:a.eval y=og t){t0:cV}(h:gL w b t0)(hk:∀w',gL w' b t->(∀k,k≠b->w'.heap[k]?=w.heap[k]?)->(∀B,B<=b->Below B w w')->K a w'):if Region.wanted o (yielded ops a.tmps)=true then Oper.wpIn Fence.wide q (aa prog u) o a w K Q else G:=by
 obtain⟨⟨fr,g1⟩,n⟩:=h;obtain⟨w',m,f,l,j⟩:=NT u d i g g1 n Ab;refine vU p Js Dk m ?_;rw[hd];rw[NU]at f;refine hk w' ⟨⟨fr,f⟩,λo=>?_⟩ l j;grind[World.frozen?]
def vo{x:uaq}(g:o.guard=none)(d:o.op=.lookup 189 x i true){m J_:Nat}(f:a.eval x=.map (some m))(hi:a.eval i=.agg o_){b:Bool}(h:w.heap[m]?=some (.map (lH b) J_))(hk:wpListIn F jg (aa prog u) ops Q rest (a.put o.dst (.tuple #[.I 0,.bool b])) w):wpListIn F jg (aa prog u) ops Q (o::rest) a w:=
 N0 g Js Dk (by simp[execOp,d,f,hi,auc u b h,Result.andThen]) hk
def aug{x v:uaq}(d:o.guard=none)(hd:o.dst=none)(b:o.op=.mapUpdate 189 x i v){m:Nat}(f:a.eval x=.map (some m))(hi:a.eval i=.agg o_)(hv:a.eval v=.I 0)(h:w.heap[m]?=some (.map (lH false) 0))(hk:wpListIn F jg (aa prog u) ops Q rest a (w.putObj m (.map (lH true) 1))):wpListIn F jg (aa prog u) ops Q (o::rest) a w:=by refine Ug (w1:=w.putObj m (.map (lH true) 1)) d Js (by simp[Oper.about,b]) (by simp_all[execOp,aud]) ?_;rw[hd];exact hk
end
def Uh(pa ta:uad)(aJ pc tl cL:Nat):∀u∈(c3 (.slice pa aJ pc) (.slice ta tl cL)).toList,u.oneCell'=true:=by simp[c3,Value.oneCell']
theorem Ui(u:Bool):((aa prog u).info? 138).map (λi=>(i.zero,i.size,i.bytes))=some (some (oh (.N) (.N)),18,208):=by kernel_rfl
def Uj(u:Bool){o:Oper}{x:uaq}(a:o.op=.load 138 x){ev:uaj}{w:aH}{b:Nat}(d:ev x=.P b 0){p t:Value}(h:ag w b (c3 p t) 138)(f:p.oneCell'=true)(e:t.oneCell'=true):(execOp ev o).run (aa prog u) w=.ok (.value (oh p t)) w:=by cases o;simp only at a;subst a;obtain⟨g1,g,c⟩:=h.all;go_simp
def auh(u:Bool){o:Oper}{x:uaq}(a:o.op=.buildSlice 133 1 #[(0,x)]){ev:uaj}{w:aH}{aJ pc tl cL:Nat}(b:ev x=oh (.slice pa aJ pc) (.slice ta tl cL)):(execOp ev o).run (aa prog u) w=.ok (.value (.S w.heap.size 0 1 1)) (w.alloc (.cells (c3 (.slice pa aJ pc) (.slice ta tl cL)) 138)):=by cases o;simp only at a;subst a;simp only[execOp];simp only[List.map_toArray,vdc,List.map_nil,b];cases u<;>kernel_rfl
section
variable{u:Bool}{F:Fence}{jg:Nat}{ops:eQ}{rest:ubf}{o:Oper}{a:Act}{w:aH}{Q:uap}
def Uk{x:uaq}(g:o.guard=none)(d:o.op=.load 138 x){b:Nat}(f:a.eval x=.P b 0){aJ pc tl cL:Nat}(h:ag w b (c3 (.slice pa aJ pc) (.slice ta tl cL)) 138)(hk:wpListIn F jg (aa prog u) ops Q rest (a.put o.dst (oh (.slice pa aJ pc) (.slice ta tl cL))) w):wpListIn F jg (aa prog u) ops Q (o::rest) a w:=
 N0 g (λc e=>by rw[d]at e;cases e) Dk (Uj u d f h U U) hk
def vk{x:uaq}(f:o.guard=none)(b:o.op=.buildSlice 133 1 #[(0,x)]){aJ pc tl cL:Nat}(d:a.eval x=oh (.slice pa aJ pc) (.slice ta tl cL))(hk:wpListIn F jg (aa prog u) ops Q rest (a.put o.dst (.S w.heap.size 0 1 1)) (w.alloc (.cells (c3 (.slice pa aJ pc) (.slice ta tl cL)) 138))):wpListIn F jg (aa prog u) ops Q (o::rest) a w:=
 N0 f (λc e=>by rw[b]at e;cases e) (by simp[Oper.about,b]) (auh u b d) hk
def GR{P:ck}{x:uaq}(_:o.op=.load 138 x)(h:hJ (wpListIn F jg P ops Q (o::rest) a w)):wpListIn F jg P ops Q (o::rest) a w:=h
end
section
attribute [local go_sem] Oper.semAt_some
def Ul(u:Bool):(aa prog u).funcs[(49:Nat)]?=some f49:=bo (upd:=u) func49 Au
@[simp] theorem aDG (u:Bool) (args:dC) (w:aH):Sem.run (aa prog u) (callFunc 49 args) w=.ok (.enter 49 args) w:=cN (Ul u) Au args w
def lf(aU:Nat->cV):Nat->cV
 |0=>aU 0
 |k+1=>D_ (lf aU k) (aU (k+1))
def aui(pv:ubb)(aU:Nat->cV)(X n₀ t m:Nat)(W:aH)(x:Value):Prop:=
 ∃pa aJ pc aq ct,pv t=.slice pa aJ pc/\x=oh (.slice pa aJ pc) (.S aq 0 1 ct)/\gL W aq (aU t)/\(t=0->m<=aq\/aq=X)/\(0<t->m<=aq\/(aq≠X/\aq<n₀))
structure zo(pv:ubb)(aU:Nat->cV)(X n₀ t:Nat)(W:aH)(g cap aq ct:Nat):Prop where
 own:W.ownsRow n₀ 138 18 (.S g 0 1 cap) 1 (c3 (pv 0) (.S aq 0 1 ct)).toList
 l_:gL W aq (lf aU t)
 old:n₀<=aq\/aq=X
structure vW(pv:ubb)(aU:Nat->cV)(X n₀ bH cH m t:Nat)(W:aH):Prop where
 size:n₀<=W.heap.size
 cH:ag W cH #[.map (some m)] 189
 map:W.heap[m]?=some (.map (lH (decide (0<t))) (if 0<t then 1 else 0))
 n0:t=0->ag W bH #[.N] 133
 n1:0<t->∃g cap aq ct,ag W bH #[.S g 0 1 cap] 133/\zo pv aU X n₀ (t-1) W g cap aq ct
def Kb{W a:aH}{n₀:Nat}{e:uaa}{sz n:Nat}{v:Value}{xs:uam}(h:W.ownsRow n₀ e sz v n xs)(hk:fO W a):a.ownsRow n₀ e sz v n xs:=by refine⟨h.1,h.2.imp_right ?_⟩;rintro⟨g,cap,bc,a1,d,c,b⟩;exact⟨g,cap,bc,a1,d,hk.cells _ _ _ _ c,b⟩
theorem zo.nu{pv:ubb}{aU:Nat->cV}{X n₀ t:Nat}{W b:aH}{g cap a ct:Nat}(h:zo pv aU X n₀ t W g cap a ct)(hk:fO W b):zo pv aU X n₀ t b g cap a ct:=⟨Kb h.own hk,h.l_.nu hk,h.old⟩
theorem vW.nu{pv:ubb}{aU:Nat->cV}{X n₀ b cH m t:Nat}{W a:aH}(h:vW pv aU X n₀ b cH m t W)(hk:fO W a)(c:a.heap[m]?=W.heap[m]?):vW pv aU X n₀ b cH m t a:=by refine⟨vac h.size hk.size,hk.cells _ _ _ _ h.cH,c.trans h.map,λe=>hk.cells _ _ _ _ (h.n0 e),λe=>?_⟩;obtain⟨g,cap,i,ct,f,d⟩:=h.n1 e;exact⟨g,cap,i,ct,hk.cells _ _ _ _ f,d.nu hk⟩
def GU:Code->Option Code
 | .rangeFunc _ _ _ b=>some b
 | .seq x y=>(GU x).orElse λ_=>GU y
 | .block _ c=>GU c
 | _=>none
def N2(f:Func):Code:=(GU (f.body.getD .skip)).getD .skip
def auj{u:Bool}{gf:Nat}{lb:dC}(pv:ubb)(aU:Nat->cV)(X:Nat)(w:aH)(l t:Nat)(W:aH)(hI:vW pv aU X w.heap.size w.heap.size (w.heap.size+1+1) (w.heap.size+1) t W){q:Nat}{aJ pc a ct:Nat}(j:ag W q (c3 (.slice pa aJ pc) (.S a 0 1 ct)) 138)(N:pv t=.slice pa aJ pc)(p:gL W a (aU t))(z:Value)(M:w.heap.size<=W.heap.size)(Q:w.heap.size<=a\/a=X)(Fy:t=0):
 (Code.wpIn (Fence.wide.inRound l) (3-1-1) (aa prog u) (N2 f49) (λe _ r=>e=.normal/\qn W r/\hU X w.heap.size W r/\oL (λe=>e=67) W r/\vW pv aU X w.heap.size w.heap.size (w.heap.size+1+1) (w.heap.size+1) (t+1) r) {tmps:=#[.func (.func gf) #[] lb,undef,.N,.P w.heap.size 0,.P (w.heap.size+1+1) 0,.P q 0,.U,.U,.U,.U,.map (some (w.heap.size+1)),.func (.func gf) #[] lb,z,.U,.U,.U,.U,.U,.U,.U,.U,.U,.U,.U,.U,.U,.U,.U,.U,.U,.U,.U,.U,.U,.U,.U,.U,.U,.U,.U,.U,.U,.U,.U,.U,.U,.U,.U,.U,.U,.U,.U,.U,.U,.U,.U,.U,.U],defers:=[]} W):=by
 subst Fy;unfold N2;simp only[f49,vah,GU,Option.orElse];generalize Code.block 2 _=aDH;obtain⟨J,H,E⟩:=j.all;obtain⟨jM,mI,mn⟩:=hI.cH.all;have DY:Hid _:=hI;have H1:Hid _:=j;have hL:Hid _:=N;have S:Hid (gL W a (aU _)):=p;have l8:Hid (w.heap.size<=W.heap.size):=M;have O:W.heap[w.heap.size+1]?=some (.map (lH false) 0):=by have:=hI.map;grind
 have i:Hid _:=O;clear O;obtain⟨D,B,C⟩:=(hI.n0 rfl).all;have R:Hid _:=Q;have g:Hid (ag (W.putObj (w.heap.size+1) (.map (lH true) 1)) w.heap.size #[.N] 133/\ag (W.putObj (w.heap.size+1) (.map (lH true) 1)) q (c3 (.slice pa aJ pc) (.S a 0 1 ct)) 138/\ag (W.putObj (w.heap.size+1) (.map (lH true) 1)) (w.heap.size+1+1) #[.map (some (w.heap.size+1))] 189/\gL (W.putObj (w.heap.size+1) (.map (lH true) 1)) a (aU 0)/\(W.putObj (w.heap.size+1) (.map (lH true) 1)).heap[w.heap.size+1]?=some (.map (lH true) 1)/\(W.putObj (w.heap.size+1) (.map (lH true) 1)).heap.size=W.heap.size/\Below w.heap.size W (W.putObj (w.heap.size+1) (.map (lH true) 1))/\qn W (W.putObj (w.heap.size+1) (.map (lH true) 1))/\oL (λe=>e=67) W (W.putObj (w.heap.size+1) (.map (lH true) 1))):=by
  have f:∀b c e z,W.heap[b]?=some (.cells c e z)->b≠w.heap.size+1:=λb c e z d e'=>by subst e';rw[i.out]at d;cases d
  refine⟨(vao (f _ _ _ _ (hI.n0 rfl))).trans (hI.n0 rfl),(vao (f _ _ _ _ j)).trans j,(vao AY).trans hI.cH,p.same (vao (f _ _ _ _ p.1.choose_spec)),vdf (jk i.out),Ab,pC _ AY,λb o d ho=>(vao ?_).trans d,λb c e z _ d=>(vao (f _ _ _ _ d)).trans d⟩;rintro rfl;rw[i.out]at d;grind
 clear hI j N p Q M;gi_wp2_with (with_reducible refine vt rfl ?_)
 unfold hJ;refine vo (m:=w.heap.size+1) (J_:=0) (b:=false) rfl rfl rfl rfl i.out ?_;gi_wp2_with (with_reducible refine aua rfl ?_)
 unfold hJ;refine aug (m:=w.heap.size+1) rfl rfl rfl rfl rfl rfl i.out ?_;clear J H E jM mI mn D B C i H1 S;generalize W.putObj (w.heap.size+1) (.map (lH true) 1)=k at *;obtain⟨J,H,E⟩:=g.out.2.1.all;obtain⟨D,B,C⟩:=g.out.1.all;obtain⟨i0,hi,nY,oO,Z⟩:=vbt (Ui u);gi_wp2_with (with_reducible refine GR rfl ?_)
 unfold hJ;refine Uk (b:=q) (pa:=pa) (aJ:=aJ) (pc:=pc) (ta:=some ⟨a,0,none⟩) (tl:=1) (cL:=ct) rfl rfl rfl g.out.2.1 ?_;refine vk (pa:=pa) (aJ:=aJ) (pc:=pc) (ta:=some ⟨a,0,none⟩) (tl:=1) (cL:=ct) rfl rfl rfl ?_;refine wpListIn_append_own _ rfl _ _ 133 rfl w.heap.size 138 i0 _ 18 208 ((qc _ _ _).trans underlying133) hi nY oO Z rfl AX (.N) 0 [] rfl (vbo _ _ _ _) ⟨k.heap.size,0,none⟩ 1 1 (c3 (.slice pa aJ pc) (.S a 0 1 ct)).toList rfl rfl ?cel (Uh _ _ _ _ _ _) B_ AY (by have j:=g.out.2.2.2.2.2.1;have h2:=l8.out;simp;omega) ?_
 case cel=>
  simp_all[vda]
 intro v' w1 x v _;obtain⟨g',cap',rfl⟩:=vdj x;have y:Boxed k w.heap.size 133 (.N):=g.out.1;have s:w.heap.size<=k.heap.size:=AN;obtain⟨A,L,U,F,I⟩:=y.appended AX (vbo k w.heap.size 138 18) s IB x v;have n:=Me (.S g' 0 (0+1) cap') y (vbo k w.heap.size 138 18) v IB;have km:=A.cell;have nZ:=A.frozen;have dU:Hid (qn W (w1.setCell ⟨w.heap.size,0,none⟩ (.S g' 0 (0+1) cap'))/\hU X w.heap.size W (w1.setCell ⟨w.heap.size,0,none⟩ (.S g' 0 (0+1) cap'))/\oL (λe=>e=67) W (w1.setCell ⟨w.heap.size,0,none⟩ (.S g' 0 (0+1) cap'))/\vW pv aU X w.heap.size w.heap.size (w.heap.size+1+1) (w.heap.size+1) (0+1) (w1.setCell ⟨w.heap.size,0,none⟩ (.S g' 0 (0+1) cap'))):=by obtain⟨aQ,aT,Y,K,V,q6,mq,Ee,T⟩:=g.out;refine⟨Ee.trans (.of F),.of (mq.trans I),T.trans λb c e z hy d=>n b c e z d (.inr AN),⟨vac s I.size,n _ _ _ _ Y (.inr AX),F.same _ _ V rfl,λh=>absurd h AY,λ_=>⟨g',cap',a,ct,L,⟨by rw[hL.out];grind,?_,R.out⟩⟩⟩⟩;obtain⟨fr,P⟩:=K.1;exact K.same ((n _ _ _ _ P (.inr AX)).trans P.symm)
 clear n L U F I x v y A J H E D B C g s;gi_wp2
 exact dU.out
end
section
attribute [local go_sem] Oper.semAt_some
def auk{u:Bool}{gf:Nat}{lb:dC}(pv:ubb)(aU:Nat->cV)(X:Nat)(w:aH)(l t:Nat)(W:aH)(hI:vW pv aU X w.heap.size w.heap.size (w.heap.size+1+1) (w.heap.size+1) t W){dS:Nat}{aJ pc H ct:Nat}(F:ag W dS (c3 (.slice pa aJ pc) (.S H 0 1 ct)) 138)(h3:pv t=.slice pa aJ pc)(h4:gL W H (aU t))(z:Value)(iO:w.heap.size<=W.heap.size)(AV:0<t){g cap b0 cw:Nat}(k1:ag W w.heap.size #[.S g 0 1 cap] 133)(k2:zo pv aU X w.heap.size (t-1) W g cap b0 cw)(k3:b0≠H)(hok:((aU t).held≠0/\ky (aU t).sum)/\(lf aU (t-1)).held≠0/\ky (lf aU (t-1)).sum/\jf ((lf aU (t-1)).held+(aU t).held)):
 (Code.wpIn (Fence.wide.inRound l) (3-1-1) (aa prog u) (N2 f49) (λe _ a=>e=.normal/\qn W a/\hU X w.heap.size W a/\oL (λe=>e=67) W a/\vW pv aU X w.heap.size w.heap.size (w.heap.size+1+1) (w.heap.size+1) (t+1) a) {tmps:=#[.func (.func gf) #[] lb,undef,.N,.P w.heap.size 0,.P (w.heap.size+1+1) 0,.P dS 0,.U,.U,.U,.U,.map (some (w.heap.size+1)),.func (.func gf) #[] lb,z,.U,.U,.U,.U,.U,.U,.U,.U,.U,.U,.U,.U,.U,.U,.U,.U,.U,.U,.U,.U,.U,.U,.U,.U,.U,.U,.U,.U,.U,.U,.U,.U,.U,.U,.U,.U,.U,.U,.U,.U,.U,.U,.U,.U,.U],defers:=[]} W):=by
 unfold N2;simp only[f49,vah,GU,Option.orElse];obtain⟨c9,dF,eB⟩:=F.all;obtain⟨jM,mI,mn⟩:=hI.cH.all;have DY:Hid _:=hI;have H1:Hid _:=F;have hL:Hid _:=h3;have tV:Hid (gL W H (aU _)):=h4;have l8:Hid (w.heap.size<=W.heap.size):=iO;have cX:W.heap[w.heap.size+1]?=some (.map (lH true) 1):=by have:=hI.map;grind
 have nF:Hid _:=cX;clear cX;have Z:Hid _:=k1;have j:Hid _:=k2;have aDJ:Hid (b0≠H):=k3;have L:Hid (0<t):=AV;have N:Hid _:=hok;clear hI F h3 h4 iO k1 k2 k3 AV;gi_wp2_with (with_reducible refine vt rfl ?_)
 unfold hJ;refine vo (m:=w.heap.size+1) (J_:=1) (b:=true) rfl rfl rfl rfl nF.out ?_;gi_wp2
 gi_loopw [34] (λp wr=>(p=.I 0/\wr=W)\/(p=.I 1/\qn W wr/\hU X w.heap.size W wr/\oL (λe=>e=67) W wr/\vW pv aU X w.heap.size w.heap.size (w.heap.size+1+1) (w.heap.size+1) (t+1) wr)) (λp _=>1-(intOf p).toNat)
 case atStart=>grind
 case round=>
  rcases hrel with⟨rfl,rfl⟩|⟨rfl,aQ,aT,q3,q4⟩
  .have cL:=tV.out.cell;have tl:=tV.out.lt;clear c9 dF eB jM mI mn nF;gi_wp2_with (with_reducible refine at9 rfl ?_)
   unfold hJ;refine aue (b:=wr.heap.size) (t:=aU t) (t0:=rI) rfl rfl rfl rfl rfl (ag.new wr _ _) λM e1 e2 e3=>?_;clear cL;have D:Hid (cC wr M):=((vaa _ wr).alloc IB _).trans (e3 _ IB);have s:=fO.below D.out;have J:wr.cell? (.a g 17)=some (.S b0 0 1 cw):=by
    rcases j.out.own.2 with⟨h,-⟩|⟨g',cap',bc,h,-,hg,-,-,-,ht⟩
    .cases h
    .cases h;have sD:bc.toList[17]?=some (.S b0 0 1 cw):=by have:=vbn (λl:List Value=>l[17]?) ht;simpa[List.getElem?_take]using this
     simp_all[World.cell?]
   have HC:Hid (ag M.drew w.heap.size #[.S g 0 1 cap] 133/\M.drew.cell? (.a g 17)=some (.S b0 0 1 cw)/\ag M.drew wr.heap.size (dB (aU t)) 193):=⟨s.cells _ _ _ _ Z.out,bm.b4 D.out _ _ _ J,e1⟩;have S:Hid (gL M.drew b0 (lf aU (t-1))):=(j.out.l_.nu s).same rfl;have Y:Hid (w.heap.size≠b0/\g≠b0/\b0<wr.heap.size):=by
    obtain⟨fr,R⟩:=j.out.l_.1;refine⟨λe=>?_,λe=>?_,jk R⟩
    .have h:=Z.out;simp_all
    .rcases j.out.own.2 with⟨h,-⟩|⟨g',cap',bc,h,-,hg,-⟩
     .cases h
     simp_all
   clear e1 e2 e3 s J;gi_wp2
   refine KQ AU AU (AJ (C:=λa=>ag a w.heap.size #[.S g 0 1 cap] 133/\a.cell? (.a g 17)=some (.S b0 0 1 cw)/\ag a wr.heap.size (dB (aU t)) 193) _ _ _ _ ?_);refine cR (i:=1) (v:=.I 0) rfl AU AU AU IG HC.out ⟨Av,λa f=>Ah,(λc h=>nomatch h),λ_=>rfl⟩ ?_;refine cR (i:=5) (v:=.I 0) rfl AU AU AU IG HC.out ⟨Av,λa f=>Ah,(λc h=>nomatch h),λ_=>rfl⟩ ?_;refine cR (i:=7) (v:=.I 0) rfl AU AU AU IG HC.out ⟨Av,λa f=>Ah,(λc h=>nomatch h),λ_=>rfl⟩ ?_;refine cR (i:=11) (v:=.I 0) rfl AU AU AU IG HC.out ⟨Av,λa f=>Ah,(λc h=>nomatch h),λ_=>rfl⟩ ?_;refine cR (i:=0) (v:=.S g 0 1 cap) rfl AU AU AU IG HC.out ⟨Av,λa f=>by obtain⟨q,y,hX⟩:=f.1.all;go_simp,(λc h=>nomatch h),λ_=>rfl⟩ ?_;refine cR (i:=6) (v:=.S g 0 1 cap) rfl AU AU AU IG HC.out ⟨Av,λa f=>by obtain⟨q,y,hX⟩:=f.1.all;go_simp,(λc h=>nomatch h),λ_=>rfl⟩ ?_;refine cR (i:=2) (v:=.P g 0) rfl AU AU AU IG HC.out ⟨Av,λa f=>Ah,(λc h=>nomatch h),λ_=>rfl⟩ ?_;refine cR (i:=8) (v:=.P g 0) rfl AU AU AU IG HC.out ⟨Av,λa f=>Ah,(λc h=>nomatch h),λ_=>rfl⟩ ?_;refine cR (i:=3) (v:=.P g 17) rfl AU AU AU IG HC.out ⟨Av,λa f=>Ah,(λc h=>nomatch h),λ_=>rfl⟩ ?_;refine cR (i:=9) (v:=.P g 17) rfl AU AU AU IG HC.out ⟨Av,λa f=>Ah,(λc h=>nomatch h),λ_=>rfl⟩ ?_;refine cR (i:=4) (v:=.S b0 0 1 cw) rfl AU AU AU IG HC.out ⟨Av,λa f=>by have q:=f.2.1;have y:=dx q;go_simp,(λc h=>nomatch h),λ_=>rfl⟩ ?_;refine cR (i:=10) (v:=.S b0 0 1 cw) rfl AU AU AU IG HC.out ⟨Av,λa f=>by have q:=f.2.1;have y:=dx q;go_simp,(λc h=>nomatch h),λ_=>rfl⟩ ?_;refine cR (i:=12) (v:=.P b0 0) rfl AU AU AU IG HC.out ⟨Av,λa f=>Ah,(λc h=>nomatch h),λ_=>rfl⟩ ?_;refine cR (i:=14) (v:=og (aU t)) rfl AU AU AU IG HC.out ⟨Av,λa f=>by obtain⟨q,y,hX⟩:=f.2.2.all;go_simp,(λc h=>nomatch h),λ_=>rfl⟩ ?_;refine js (i:=13) AU rfl λK hK=>?_;have q:=S.out.cell;have y:=S.out.lt;go_simp
   refine hK _ _ HC.out ?_;clear hK K q y;refine js (i:=15) AU rfl λK hK=>?_;go_simp
   refine⟨PA,(vea.2 (atZ _ _ N.out.2.1 N.out.1.1 N.out.2.2.1 N.out.1.2 N.out.2.2.2 _)).mono ?_⟩;rintro e A ⟨rfl,E⟩;have s:=fO.below E;have x:Hid (ag A w.heap.size #[.S g 0 1 cap] 133/\A.cell? (.a g 17)=some (.S b0 0 1 cw)/\ag A wr.heap.size (dB (aU t)) 193):=⟨s.cells _ _ _ _ HC.out.1,bm.b4 E _ _ _ HC.out.2.1,HC.out.2.2.call E⟩;have I:Hid (gL A b0 (lf aU (t-1))):=S.out.nu s;have V:Hid (cC wr A):=D.out.drew.trans (E.mono D.out.size);refine hK _ _ x.out ?_;clear hK K E s HC S D;refine cR (i:=16) (v:=.P b0 0) rfl AU AU AU IG x.out ⟨Av,λa f=>Ah,(λc h=>nomatch h),λ_=>rfl⟩ ?_;refine js (i:=17) AU rfl λK hK=>auf (b:=b0) (t:=D_ (lf aU (t-1)) (aU t)) rfl rfl rfl rfl rfl I.out λn r1 B r3=>hK _ _ ⟨(B _ Y.out.1).trans x.out.1,(vam (B _ Y.out.2.1)).trans x.out.2.1,(B _ (by have:=Y.out.2.2;omega)).trans x.out.2.2⟩ ?_;have O:∀k,k<wr.heap.size->k≠b0->n.heap[k]?=wr.heap[k]?:=λk F h2=>(B k h2).trans (V.out.block k F);have T:Below 0 wr n:=(V.out.mono (vaz _)).trans (r3 0 (vaz _));have dU:Hid (qn wr n/\hU X w.heap.size wr n/\oL (λe=>e=67) wr n/\vW pv aU X w.heap.size w.heap.size (w.heap.size+1+1) (w.heap.size+1) (t+1) n):=by
    obtain⟨fr,R⟩:=j.out.l_.1;have P:∀(k:Nat)(c:dC)(e:uaa)(z:ubo),e≠193->wr.heap[k]?=some (.cells c e z)->n.heap[k]?=some (.cells c e z):=λk c e z he hk=>(O k (jk hk) (λU=>by rw[U,R]at hk;cases hk;simp_all)).trans hk;have kJ:∀(k:Nat)(o:Obj),(∀(c:dC)(e:uaa)(z:ubo),o≠ .cells c e z)->wr.heap[k]?=some o->n.heap[k]?=some o:=λk o ho hk=>(O k (jk hk) (λU=>by rw[U,R]at hk;cases hk;simp_all)).trans hk;refine⟨λk o hk ho=>kJ k o (by rcases ho with⟨r,rfl⟩|⟨d,rfl⟩<;>simp) hk,⟨T,λk hk hx=>O k (van hk l8.out) (by rcases j.out.old with h|h<;>omega)⟩,λk c e z he hk=>P k c e z (by subst he;decide) hk,?_⟩
    refine⟨vac l8.out T.size,P _ _ _ _ AX DY.out.cH,?_,λh=>absurd h AY,λ_=>⟨g,cap,b0,cw,P _ _ _ _ AX Z.out,⟨?_,?_,j.out.old⟩⟩⟩
    .have hm:=DY.out.map;have ht:=L.out;simp only[ht,decide_true,vbx,Nat.succ_pos]at hm⊢;exact kJ _ _ Ab hm
    .refine⟨j.out.own.1,j.out.own.2.imp_right ?_⟩;rintro⟨g',cap',bc,a1,bA,bR,cu⟩;exact⟨g',cap',bc,a1,bA,P _ _ _ _ AX bR,cu⟩
    .have ht:=L.out;rw[show t+1-1=t-1+1 by omega,lf,show t-1+1=t by omega];exact r1
   clear hK K r1 B r3 O T x I V;refine AK AU ?_ _;gi_wp2
   go_roundw
   case rel=>exact .inr ⟨rfl,dU.out⟩
   case measure=>simp[intOf]
  .have Q:Hid _:=And.intro aQ (And.intro aT (And.intro q3 q4));clear aQ aT q3 q4 c9 dF eB jM mI mn;gi_wp2
   exact Q.out
