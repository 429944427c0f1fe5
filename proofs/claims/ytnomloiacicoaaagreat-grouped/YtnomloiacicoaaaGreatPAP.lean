import Derived.Test.YtnomloiacicoaaaGreatPAM
import Derived.Test.YtnomloiacicoaaaGreatPAN
set_option linter.all false
set_option maxRecDepth 100000
set_option maxHeartbeats 16000000
namespace Go.Proofs.YtnomloiacicoaaaGreat
open Tryz
namespace bd
open RowKit Shelf av
def jD:List dn->List Value
 | []=>[]
 |t::l=>(ft t).toList++jD l
theorem QE:∀l,(jD l).length=11*l.length
 | []=>rfl
 |t::l=>by rw[jD,vcl,QE l];simp;omega
theorem Xf:∀a b,jD (a++b)=jD a++jD b
 | [],_=>rfl
 |t::a,b=>by simp[jD,Xf a b]
def aAr(A B:uai)(b3 c1 bt cF g f c b e d a:Value)(t:dn):qO (A++(b3::c1::bt::cF::g::f::c::b::e::d::a::B)).toArray A.length t=(A++((ft t).toList++B)).toArray:=by simp_all[qO]
def xF a b z t:qO (jD (a++z::b)).toArray (11*a.length) t=(jD (a++t::b)).toArray:=by rw[Xf,Xf,<-QE];exact aAr _ _ _ _ _ _ _ _ _ _ _ _ _ t
theorem aAt{a b:ByteArray}(h:a.toList=b.toList):a=b:=by rw[ByteArray.toList_eq,ByteArray.toList_eq]at h;obtain⟨⟨a⟩⟩:=a;simp_all
def vk(a b:bz):Bool:=a.bR==b.bR&&a.num==b.num&&a.dg==b.dg&&decide (a.text=b.text)
theorem aAu{a b}:vk a b=true↔a=b:=by obtain⟨a1,g,d,c⟩:=a;obtain⟨b1,f,e,bV⟩:=b;grind[vk]
def l6(q q':jC):Bool:=vk q.1 q'.1&&vk q.2.1 q'.2.1&&vk q.2.2.1 q'.2.2.1&&vk q.2.2.2 q'.2.2.2
theorem r6{q a}:l6 q a=true↔q=a:=by grind[l6,aAu]
def xz(u:Bool)(a b:bz)(w:aR):(Op.equalIn 9999 94 (h8 a) (h8 b)).run (ae prog u) w=.ok (vk a b) w:=by
 obtain⟨a1,g,d,c⟩:=a;obtain⟨b1,f,e,bV⟩:=b;by_cases h1:a1=b1<;>by_cases h2:g=f<;>by_cases h3:d=e<;>by_cases h4:c=bV
 all_goals go_simp
 all_goals simp[vk,h1,h2,h3,h4]
 grind[aAt]
def aAv(q:jC):List bz:=[q.1,q.2.1,q.2.2.1,q.2.2.2]
def QF(u:Bool)(q:jC)(k:Nat)(h:k<4)(w:aR):(part 94 (gL q) (k*4)).run (ae prog u) w=.ok (h8 (aAv q)[k]) w:=by rcases k with _ | _ | _ | _ |k<;>first|omega|kernel_rfl
def aAw(u:Bool)(q a:jC)(w:aR):(Op.equal 141 (.agg (gL q)) (.agg (gL a))).run (ae prog u) w=.ok (l6 q a) w:=by obtain⟨i,hi⟩:∃i,(ae prog u).info? 94=some i:=Option.isSome_iff_exists.1 AB;show(Op.equalIn (9999+1) _ _ _).run _ w=_;rw[run_equalIn_array (P:=ae prog u) w 9999 (n:=4) (e:=94) (gL q) (gL a) AS hi];have f:(ae prog u).cellsOf 94=4:=AB;rw[f,show List.range 4=[0,1,2,3]from Y];have d:∀q w,(part 94 (gL q) 0).run (ae prog u) w=.ok (h8 q.1) w:=λq w=>QF u q 0 AQ w;have c:∀q w,(part 94 (gL q) 4).run (ae prog u) w=.ok (h8 q.2.1) w:=λq w=>QF u q 1 AQ w;have j2:∀q w,(part 94 (gL q) 8).run (ae prog u) w=.ok (h8 q.2.2.1) w:=λq w=>QF u q 2 AQ w;have b:∀q w,(part 94 (gL q) 12).run (ae prog u) w=.ok (h8 q.2.2.2) w:=λq w=>QF u q 3 AQ w;simp only[Op.eqItems,veo,Nat.zero_mul,Nat.one_mul,Nat.reduceMul,d,c,j2,b,vbv,xz];cases h1:vk q.1 a.1<;>cases h2:vk q.2.1 a.2.1<;>cases h3:vk q.2.2.1 a.2.2.1<;>cases h4:vk q.2.2.2 a.2.2.2<;>simp[c,j2,b,xz,h1,h2,h3,h4,l6]
def QG(u em:Bool)(q:jC)(w:aR):(Instr.checkKey em 10000 141 (.agg (gL q))).run (ae prog u) w=.ok () w:=by cases em<;>kernel_rfl
structure aG where
 c5:Nat
 pa:Nat
 iY:Nat
 key:jC
 c9:List dn
def eX(q:jC)(ds:List aG):Option Nat:=ds.findIdx? λd=>l6 q d.key
def nY:Nat->List aG->List MapEntry
 | _,[]=>[]
 |k,d::ds=>⟨.agg (gL d.key),.I (k:Int),k⟩::nY (k+1) ds
theorem xw g:∀ds k,nY k (ds++[g])=nY k ds++[⟨.agg (gL g.key),.I ((k+ds.length:Nat):Int),k+ds.length⟩]
 | [],k=>rfl
 |d::ds,k=>by rw[veg,nY,xw g ds (k+1),nY,veg,vdg,show k+1+ds.length=k+(ds.length+1) by omega]
theorem xo f(a:∀d,(f d).key=d.key)(j:Nat):∀ds i k,nY k (ds.modify i f)=nY k ds
 | [],i,k=>AS
 |d::ds,0,k=>by simp[nY,a]
 |d::ds,i+1,k=>by rw[List.modify_succ_cons,nY,nY,xo f a j ds i (k+1)]
theorem xj(u:Bool)(q:jC)(w:aR):∀(ds:List aG)(k i:Nat),(Instr.findAsking 141 (.agg (gL q)) (nY k ds) i).run (ae prog u) w=.ok ((eX q ds).map λj=>(i+j,.I ((k+j:Nat):Int))) w
 | [],k,i=>by simp[nY,Instr.findAsking,eX]
 |d::ds,k,i=>by
  have a:=xj u q w ds (k+1) (i+1);simp only[nY,Instr.findAsking,veo,aAw,vbv,eX,List.findIdx?_cons];cases b:l6 q d.key with
  |true=>simp
  |false=>
   have e:(λj:Nat=>(i+1+j,Value.int .i64 ((k+1+j:Nat):Int)))=(λj:Nat=>(i+(j+1),Value.int .i64 ((k+(j+1):Nat):Int))):=by grind
   rw[e]at a;simp only[vah,vcr,Option.map_map,Function.comp_def];exact a
def xh(u:Bool)(q:jC)(w:aR)(ds:List aG):(Instr.findKey 141 (.agg (gL q)) (nY 0 ds)).run (ae prog u) w=.ok ((eX q ds).map λj=>(j,.I ((j:Nat):Int))) w:=by
 have a:(ae prog u).underlying 141=some (.array 4 94):=AS;have e1:(Instr.findKey 141 (.agg (gL q)) (nY 0 ds)).run (ae prog u) w=(Instr.findAsking 141 (.agg (gL q)) (nY 0 ds)).run (ae prog u) w:=by unfold Instr.findKey;simp only[veo,run_underlying a,vbv];cases ds with|nil=>simp[nY,Instr.findNow,Instr.findAsking]|cons d ds=>simp[nY,Instr.findNow,Instr.sameNow]
 grind[xj]
def i9(ds:List aG):Array MapEntry:=(nY 0 ds).toArray
def xe u:(ae prog u).underlying 199=some (.map 141 3):=by simp
def FN(q:jC)(ds:List aG):Value:=.tuple #[.I (((eX q ds).getD 0:Nat):Int),.bool (eX q ds).isSome]
def aAx(u:Bool)(q:jC)(ds:List aG){w:aR}{m c:Nat}(h:w.heap[m]?=some (.map (i9 ds) c)):(Instr.lookup 199 (.map (some m)) (.agg (gL q)) true).run (ae prog u) w=.ok (FN q ds) w:=by have hg:=MapKept.run_getObj_map (P:=ae prog u) h;have a:(zeroValue 3).run (ae prog u) w=.ok (.I 0) w:=AS;have b:=xh u q w ds;unfold Instr.lookup;simp only[veo,run_underlying (xe u),vbv,hg,QG,i9];cases h:eX q ds<;>simp[QG,b,a,h,FN]
def aAy(u:Bool)(g:aG)(ds:List aG)(hn:eX g.key ds=none){w:aR}{m:Nat}(h:w.heap[m]?=some (.map (i9 ds) ds.length)):(Instr.mapUpdate 199 (.map (some m)) (.agg (gL g.key)) (.I (ds.length:Int))).run (ae prog u) w=.ok () (w.putObj m (.map (i9 (ds++[g])) (ds.length+1))):=by
 have hg:=MapKept.run_getObj_map (P:=ae prog u) h;have hs:=λo=>MapKept.run_setObj_map (P:=ae prog u) o h;have a:=xh u g.key w ds;rw[hn]at a;have e:i9 (ds++[g])=(i9 ds).push ⟨.agg (gL g.key),.I (ds.length:Int),ds.length⟩:=by simp[i9,xw]
 rw[e];unfold Instr.mapUpdate;simp only[veo,run_underlying (xe u),vbv,hg,QG];simp[QG,i9,a,hs,World.putObj]
open b_
abbrev wV(p:Value)(q:jC)(t:Value):Array Value:=#[p,.bool q.1.bR,.I q.1.num,.I q.1.dg,.string q.1.text,.bool q.2.1.bR,.I q.2.1.num,.I q.2.1.dg,.string q.2.1.text,.bool q.2.2.1.bR,.I q.2.2.1.num,.I q.2.2.1.dg,.string q.2.2.1.text,.bool q.2.2.2.bR,.I q.2.2.2.num,.I q.2.2.2.dg,.string q.2.2.2.text,t]
abbrev cY:=aG×Nat×Nat
abbrev yk(d:aG):Value:=.S d.c5 d.pa 1 d.iY
abbrev p5(b c:Nat):Value:=.S b 0 5 c
abbrev eY(g:cY):Array Value:=wV (yk g.1) g.1.key (p5 g.2.1 g.2.2)
abbrev s3(g:cY):Value:=.agg (eY g)
abbrev LS:Array Value:=wV (.N) (du,du,du,du) (.N)
def ga:List cY->List Value
 | []=>[]
 |g::gs=>(eY g).toList++ga gs
theorem IA:∀gs,(ga gs).length=gs.length*18
 | []=>rfl
 |g::gs=>by rw[ga,vcl,IA gs];simp;omega
theorem QH:∀a b,ga (a++b)=ga a++ga b
 | [],_=>rfl
 |g::a,b=>by simp[ga,QH a b]
theorem LU:∀gs i(h:i<gs.length)j,j<18->(ga gs)[i*18+j]?=(eY gs[i])[j]?
 |g::gs,0,h,j,a=>by rw[ga,Nat.zero_mul,vbs,veu a];simp
 |g::gs,i+1,h,j,a=>by rw[ga,List.getElem?_append_right BA,show(i+1)*18+j-(eY g).toList.length=i*18+j by simp;omega];exact LU gs i Dt j a
def Xh g:∀u∈(eY g).toList,u.oneCell'=true:=by simp[wV,Value.oneCell']
theorem w6:∀gs,∀u∈ga gs,u.oneCell'=true
 | [],u,h=>I5
 |g::gs,u,h=>by
  rcases vcz.1 h with h|h
  .exact Xh g u h
  .exact w6 gs u h
theorem Xi u:((ae prog u).info? 148).map (λi=>(i.zero,i.size,i.bytes))=some (some (.agg LS),18,208):=by kernel_rfl
def eZ(w:aR)(b:Nat)(ts:List dn):Prop:=(∃fr,w.heap[b]?=some (.cells (jD ts).toArray 203 fr))/\∀o,w.frozen? ⟨b,o,none⟩=false
theorem eZ.of{w b ts}(h:ag w b (jD ts).toArray 203):eZ w b ts:=⟨⟨_,h⟩,h.rules.2⟩
def eZ.same{w w' b ts}(h:eZ w b ts)(e:w'.heap[b]?=w.heap[b]?):eZ w' b ts:=by obtain⟨⟨fr,h1⟩,h2⟩:=h;refine⟨⟨fr,e.trans h1⟩,λo=>?_⟩;grind[World.frozen?]
def eZ.lt{w b ts}(h:eZ w b ts):b<w.heap.size:=lR h.1.choose_spec
theorem eZ.cell{w b ts}(h:eZ w b ts)o:w.cell? (.a b o)=(jD ts)[o]?:=by obtain⟨⟨fr,h1⟩,h2⟩:=h;simp[World.cell?,h1]
def eZ.oU{w w' b ts}(h:eZ w b ts)(hk:gP w w'):eZ w' b ts:=by obtain⟨⟨fr,h1⟩,h2⟩:=id h;exact h.same ((hk.cells _ _ _ _ h1).trans h1.symm)
theorem z1:∀ts i(h:i<ts.length)j,j<11->(jD ts)[i*11+j]?=(ft ts[i])[j]?
 |t::ts,0,h,j,a=>by rw[jD,Nat.zero_mul,vbs,veu a];simp
 |t::ts,i+1,h,j,a=>by rw[jD,List.getElem?_append_right BA,show(i+1)*11+j-(ft t).toList.length=i*11+j by simp;omega];exact z1 ts i Dt j a
variable{y:uam}
section
variable{F:Fence}{jE:Nat}{P:cE}{ops:fF}{rest:ubc}{o:Oper}{a:Act}{w w1:aR}{Q:uao}
def QI{v}(e:o.guard=none)(b:∀c,o.op≠ .defer c)(i:o.about P w a.eval=none)(d:(execOp a.eval o).run P w=.ok (.value v) w1)(h:wpListIn F jE P ops Q rest (a.put o.dst v) w1):wpListIn F jE P ops Q (o::rest) a w:=by refine wpListIn_plain e λK hK=>?_;unfold Oper.wpIn;refine⟨λf g=>AA,?_⟩;rw[Oper.semAt_plain F _ _ b,d];exact hK _ _ h
def Xj(e:o.guard=none)(b:∀c,o.op≠ .defer c)(i:o.about P w a.eval=none)(d:(execOp a.eval o).run P w=.ok .skip w1)(h:wpListIn F jE P ops Q rest (a.put o.dst undef) w1):wpListIn F jE P ops Q (o::rest) a w:=by refine wpListIn_plain e λK hK=>?_;unfold Oper.wpIn;refine⟨λf g=>AA,?_⟩;rw[Oper.semAt_plain F _ _ b,d];exact hK _ _ h
def QJ{x:uam}(_:o.op=.store 148 x y)(h:hM (wpListIn F jE P ops Q (o::rest) a w)):wpListIn F jE P ops Q (o::rest) a w:=h
def aAA{x:uam}(_:o.op=.store 203 x y)(h:hM (wpListIn F jE P ops Q (o::rest) a w)):wpListIn F jE P ops Q (o::rest) a w:=h
def aAB{x:uam}(_:o.op=.load 203 x)(h:hM (wpListIn F jE P ops Q (o::rest) a w)):wpListIn F jE P ops Q (o::rest) a w:=h
def zd{t:uaa}{x:uam}{b:Bool}(_:o.op=.lookup t x y b)(h:hM (wpListIn F jE P ops Q (o::rest) a w)):wpListIn F jE P ops Q (o::rest) a w:=h
def aAC{t:uaa}{x z:uam}(_:o.op=.mapUpdate t x y z)(h:hM (wpListIn F jE P ops Q (o::rest) a w)):wpListIn F jE P ops Q (o::rest) a w:=h
def LV{x:uam}(_:o.op=.load 148 x)(h:hM (wpListIn F jE P ops Q (o::rest) a w)):wpListIn F jE P ops Q (o::rest) a w:=h
end
variable{g:cY}
def aAD(u:Bool){o:Oper}{x:uam}(c:o.op=.store 148 x y){ev:uah}{w:aR}{b:Nat}(m:ev x=.P b 0)(l:ev y=s3 g){i f:Value}{q0:jC}(h:ag w b (wV i q0 f) 148):∃w',(execOp ev o).run (ae prog u) w=.ok .skip w'/\ag w' b (eY g) 148/\(∀k,k≠b->w'.heap[k]?=w.heap[k]?)/\∀B,B<=b->Below B w w':=by
 cases o;simp only at c;subst c;obtain⟨⟨c5,pa,iY,⟨aZ,a3,q3,q4⟩,ts⟩,a_,a⟩:=g;obtain⟨h1,h2,h3⟩:=h.all;have d:=(((((((((((((((((h.set 0 (.S c5 pa 1 iY)).set 1 (.bool aZ.bR)).set 2 (.I aZ.num)).set 3 (.I aZ.dg)).set 4 (.string aZ.text)).set 5 (.bool a3.bR)).set 6 (.I a3.num)).set 7 (.I a3.dg)).set 8 (.string a3.text)).set 9 (.bool q3.bR)).set 10 (.I q3.num)).set 11 (.I q3.dg)).set 12 (.string q3.text)).set 13 (.bool q4.bR)).set 14 (.I q4.num)).set 15 (.I q4.dg)).set 16 (.string q4.text)).set 17 (.S a_ 0 5 a);have e:=bd.ag.cast d (show _=eY (⟨c5,pa,iY,⟨aZ,a3,q3,q4⟩,ts⟩,a_,a) by simp);clear d;refine⟨_,?_,e,λk hk=>?_,λB j=>?_⟩
 .clear e;go_simp
 .simp_all[vat]
 iterate 18 refine Below.setCell ?_ j _
 exact vaa _ _
def za(u:Bool){o:Oper}{x:uam}(l:o.op=.load 148 x){ev:uah}{w:aR}{b d:Nat}(y:ev x=.P b d)(h:∀j,j<18->w.cell? (.a b (d+j))=(eY g)[j]?):(execOp ev o).run (ae prog u) w=.ok (.value (s3 g)) w:=by cases o;simp only at l;subst l;have b3:=h 0 AF;have c1:=h 1 AF;have bt:=h 2 AF;have cF:=h 3 AF;have t:=h 4 AF;have s:=h 5 AF;have p:=h 6 AF;have n:=h 7 AF;have r:=h 8 AF;have q:=h 9 AF;have m:=h 10 AF;have v:=h 11 AF;have k:=h 12 AF;have i:=h 13 AF;have f:=h 14 AF;have e:=h 15 AF;have c:=h 16 AF;have a:=h 17 AF;clear h;simp only[wV,List.getElem?_toArray,vds,vdt,vcc]at b3 c1 bt cF t s p n r q m v k i f e c a;have z:=ef b3;go_simp
def aAK(u:Bool){o:Oper}{x:uam}(c:o.op=.load 148 x){ev:uah}{w:aR}{b:Nat}(a:ev x=.P b 0)(h:ag w b (eY g) 148):(execOp ev o).run (ae prog u) w=.ok (.value (s3 g)) w:=
 za u c a λj _=>by rw[vbs];exact h.rules.1 j
def aAL(u:Bool){o:Oper}{x:uam}(a:o.op=.buildSlice 143 1 #[(0,x)]){ev:uah}{w:aR}(b:ev x=s3 g):(execOp ev o).run (ae prog u) w=.ok (.value (.S w.heap.size 0 1 1)) (w.alloc (.cells (eY g) 148)):=by cases o;simp only at a;subst a;simp only[execOp];simp only[List.map_toArray,vej,List.map_nil,b];cases u<;>kernel_rfl
variable{t:dn}
def Xk(u:Bool){o:Oper}{x:uam}(a:o.op=.load 203 x){ev:uah}{w:aR}{b d:Nat}(m:ev x=.P b d)(h:∀j,j<11->w.cell? (.a b (d+j))=(ft t)[j]?):(execOp ev o).run (ae prog u) w=.ok (.value (jW t)) w:=by cases o;simp only at a;subst a;have b3:=h 0 AF;have c1:=h 1 AF;have bt:=h 2 AF;have cF:=h 3 AF;have l:=h 4 AF;have k:=h 5 AF;have f:=h 6 AF;have e:=h 7 AF;have i:=h 8 AF;have g:=h 9 AF;have c:=h 10 AF;clear h;simp only[ft,List.getElem?_toArray,vds,vdt,vcc]at b3 c1 bt cF l k f e i g c;have n:=ef b3;go_simp
def eZ.i_{w b ts}(h:eZ w b ts){i}(hi:i<ts.length):∀j,j<11->w.cell? (.a b (i*11+j))=(ft ts[i])[j]?:=λj a=>(h.cell _).trans (z1 ts i hi j a)
variable{i:uam}
section
variable{u:Bool}{F:Fence}{jE:Nat}{ops:fF}{rest:ubc}{o:Oper}{a:Act}{w:aR}{Q:uao}
def QK{x:uam}(m:o.guard=none)(hd:o.dst=none)(d:o.op=.store 148 x y){b:Nat}(l:a.eval x=.P b 0)(j:a.eval y=s3 g){i f:Value}{q0:jC}(h:ag w b (wV i q0 f) 148)(hk:∀w',ag w' b (eY g) 148->(∀k,k≠b->w'.heap[k]?=w.heap[k]?)->(∀B,B<=b->Below B w w')->wpListIn F jE (ae prog u) ops Q rest a w'):wpListIn F jE (ae prog u) ops Q (o::rest) a w:=by
 obtain⟨w',h1,h2,h3,h4⟩:=aAD u d l j h;refine Xj m K8 HM h1 ?_;rw[hd];exact hk w' h2 h3 h4
def aAM{x:uam}(i:o.guard=none)(hd:o.dst=none)(d:o.op=.store 203 x y){b off:Nat}(g:a.eval x=.P b off)(f:a.eval y=jW t){cs:dX}{T:uaa}(h:ag w b cs T)(hs:off+11<=cs.size)(hk:∀w',ag w' b (qO cs off t) T->(∀k,k≠b->w'.heap[k]?=w.heap[k]?)->(∀B,B<=b->Below B w w')->wpListIn F jE (ae prog u) ops Q rest a w'):wpListIn F jE (ae prog u) ops Q (o::rest) a w:=by
 obtain⟨w',h1,h2,h3,h4⟩:=QC u d g f h h.rules.2 hs;refine Xj i K8 HM h1 ?_;rw[hd];exact hk w' h2 h3 h4
def aAN{x:uam}(i:o.guard=none)(f:o.op=.load 203 x){b d:Nat}(g:a.eval x=.P b d)(h:∀j,j<11->w.cell? (.a b (d+j))=(ft t)[j]?)(hk:wpListIn F jE (ae prog u) ops Q rest (a.put o.dst (jW t)) w):wpListIn F jE (ae prog u) ops Q (o::rest) a w:=
 QI i (λc e=>by rw[f]at e;cases e) (by simp[Oper.about,f]) (Xk u f g h) hk
def aAO{cd:Nat}{K:uae}{G:Prop}{x:uam}(j:o.guard=none)(hd:o.dst=none)(d:o.op=.store 203 x y){b:Nat}{l1 l2:List dn}{z:dn}(g:a.eval x=.P b (l1.length*11))(f:a.eval y=jW t)(h:eZ w b (l1++z::l2))(hk:∀w',eZ w' b (l1++t::l2)->(∀k,k≠b->w'.heap[k]?=w.heap[k]?)->(∀B,B<=b->Below B w w')->K a w'):if Region.wanted o (yielded ops a.tmps)=true then Oper.wpIn Fence.wide cd (ae prog u) o a w K Q else G:=by
 obtain⟨⟨fr,g1⟩,i⟩:=h;obtain⟨w',h1,h2,h3,h4⟩:=QC u d g f g1 i (by simp[QE];omega);refine x5 j K8 HM h1 ?_;rw[hd];rw[Nat.mul_comm,xF]at h2;refine hk w' ⟨⟨fr,h2⟩,λo=>?_⟩ h3 h4;grind[World.frozen?]
def y_{x:uam}(f:o.guard=none)(b:o.op=.lookup 199 x i true){m g:Nat}(d:a.eval x=.map (some m)){q:jC}(hi:a.eval i=.agg (gL q)){ds:List aG}(h:w.heap[m]?=some (.map (i9 ds) g))(hk:wpListIn F jE (ae prog u) ops Q rest (a.put o.dst (FN q ds)) w):wpListIn F jE (ae prog u) ops Q (o::rest) a w:=
 QI f K8 (by simp[Oper.about,b]) (by simp[execOp,b,d,hi,aAx u q ds h,Result.andThen]) hk
def aAP{x v:uam}(d:o.guard=none)(hd:o.dst=none)(b:o.op=.mapUpdate 199 x i v){m:Nat}(f:a.eval x=.map (some m)){g:aG}{ds:List aG}(hn:eX g.key ds=none)(hi:a.eval i=.agg (gL g.key))(hv:a.eval v=.I (ds.length:Int))(h:w.heap[m]?=some (.map (i9 ds) ds.length))(hk:wpListIn F jE (ae prog u) ops Q rest a (w.putObj m (.map (i9 (ds++[g])) (ds.length+1)))):wpListIn F jE (ae prog u) ops Q (o::rest) a w:=by refine Xj (w1:=w.putObj m (.map (i9 (ds++[g])) (ds.length+1))) d K8 (by simp[Oper.about,b]) (by simp_all[execOp,aAy]) ?_;rw[hd];exact hk
def LW{x:uam}(k:o.guard=none)(f:o.op=.load 148 x){b d:Nat}(i:a.eval x=.P b d)(h:∀j,j<18->w.cell? (.a b (d+j))=(eY g)[j]?)(hk:wpListIn F jE (ae prog u) ops Q rest (a.put o.dst (s3 g)) w):wpListIn F jE (ae prog u) ops Q (o::rest) a w:=
 QI k (λc e=>by rw[f]at e;cases e) (by simp[Oper.about,f]) (za u f i h) hk
def y9{x:uam}(f:o.guard=none)(b:o.op=.buildSlice 143 1 #[(0,x)])(d:a.eval x=s3 g)(hk:wpListIn F jE (ae prog u) ops Q rest (a.put o.dst (.S w.heap.size 0 1 1)) (w.alloc (.cells (eY g) 148))):wpListIn F jE (ae prog u) ops Q (o::rest) a w:=
 QI f (λc e=>by rw[b]at e;cases e) (by simp[Oper.about,b]) (aAL u b d) hk
end
def Xl{w b}(h:ag w b (eY g) 148):∀j,j<18->w.cell? (.a b (0+j))=(eY g)[j]?:=λj _=>by rw[vbs];exact h.rules.1 j
end bd
namespace bd
open RowKit Shelf av
def l7(a b:List dn):List dn:=List.zipWith eP a b
def ku(g x:aG):aG:={x with c9:=l7 x.c9 g.c9}
def fu(ds:List aG)(g:aG):List aG:=
 match eX g.key ds with
 |none=>ds++[g]
 |some j=>ds.modify j (ku g)
def ee(L:List aG):List aG:=L.foldl fu []
def y4 L g:ee (L++[g])=fu (ee L) g:=by simp[ee]
theorem LX(L:List aG){t}(h:t<L.length):ee (L.take (t+1))=fu (ee (L.take t)) L[t]:=by rw[vdu h,y4]
variable{ds:List aG}{g:aG}
theorem p6(h:eX g.key ds=none):fu ds g=ds++[g]:=by simp[fu,h]
variable{j:Nat}
def m4(h:eX g.key ds=some j):fu ds g=ds.modify j (ku g):=by simp[fu,h]
variable{q:jC}
theorem B0(h:eX q ds=some j):∃a:j<ds.length,ds[j].key=q:=by obtain⟨h1,h2,-⟩:=List.findIdx?_eq_some_iff_getElem.1 h;grind[r6]
def yX(h:eX q ds=none):∀d∈ds,d.key≠q:=by intro d hd e;have:=List.findIdx?_eq_none_iff.1 h d hd;grind[r6]
def aAQ(h:eX q ds=none):FN q ds=.tuple #[.I 0,.F]:=by simp[FN,h]
def aAR(h:eX q ds=some j):FN q ds=.tuple #[.I (j:Int),.T]:=by simp[FN,h]
structure vl(c:Nat)(t:dn):Prop where
 h0:0<=t.held
 h1:t.held<=c
 s0: -(1000*c)<=t.sum
 jJ:t.sum<=1000*c
variable{c d:Nat}
def vl.and{a b}(h:vl c a)(k:vl d b):vl (c+d) (eP a b):=by
 obtain⟨h1,h2,h3,h4⟩:=h;obtain⟨i,g,f,e⟩:=k;unfold eP;split
 .exact⟨AQ,AQ,AQ,AQ⟩
 .split
  .exact⟨AQ,AQ,AQ,AQ⟩
  .exact⟨AA,AA,AA,AA⟩
theorem vl.mono{a}(h:vl c a)(hd:c<=d):vl d a:=⟨h.h0,by have:=h.h1;omega,by have:=h.s0;omega,by have:=h.jJ;omega⟩
structure mC(c:Nat)(d:aG):Prop where
 l8:d.c9.length=5
 qQ:∀t∈d.c9,vl c t
theorem mC.mono(h:mC c g)(hd:c<=d):mC d g:=⟨h.l8,λt ht=>(h.qQ t ht).mono hd⟩
variable{a b:List dn}
theorem LY(d:a.length=5)(c:b.length=5):(l7 a b).length=5:=by grind[l7]
def mC.join{x}(h:mC c x)(k:mC d g):mC (c+d) (ku g x):=by refine⟨LY h.l8 k.l8,λt ht=>?_⟩;obtain⟨i,hi,rfl⟩:=vbj ht;have hi:i<(List.zipWith eP x.c9 g.c9).length:=hi;show vl _ (List.zipWith eP x.c9 g.c9)[i];rw[vde];exact(h.qQ _ (vae _)).and (k.qQ _ (vae _))
def aAS(h:∀x∈ds,mC c x)(k:mC d g):∀x∈fu ds g,mC (c+d) x:=by
 intro x a;cases hq:eX g.key ds with
 |none=>
  rw[p6 hq]at a;rcases vcz.1 a with a|a
  .exact(h x a).mono AQ
  .rw[vdr.1 a];exact k.mono AQ
 |some j=>
  rw[m4 hq]at a;obtain⟨i,hi,rfl⟩:=vbj a;rw[vci];split
  .exact(h _ (vae _)).join k
  .exact(h _ (vae _)).mono AQ
theorem yW:∀{L:List aG},(∀d∈L,mC c d)->∀t,t<=L.length->∀x∈ee (L.take t),mC (c*t) x
 |L,h,0,_,x,a=>by simp[ee]at a
 |L,h,t+1,ht,x,a=>by rw[LX L AQ]at a;rw[Nat.mul_succ];exact aAS (yW h t AQ) (h _ (vae _)) x a
theorem aAT ds g:(fu ds g).length<=ds.length+1:=by grind[fu]
theorem LZ L:(ee L).length<=L.length:=by
 have:∀(L ds:List aG),(L.foldl fu ds).length<=ds.length+L.length:=by intro L;induction L with|nil=>simp|cons g L a=>grind[aAT]
 grind[ee]
def vm(i:Nat)(a b:List dn):List dn:=(l7 a b).take i++a.drop i
variable{i:Nat}
def aAU(c:i<a.length)(d:i<b.length):vm i a b=(l7 a b).take i++a[i]::a.drop (i+1):=by rw[vm,List.drop_eq_getElem_cons c]
theorem aAV(d:i<a.length)(c:i<b.length):vm (i+1) a b=(l7 a b).take i++eP a[i] b[i]::a.drop (i+1):=by grind[l7,vm,List.take_succ_eq_append_getElem]
def aAW a b:vm 0 a b=a:=by simp[vm]
def aAX(d:a.length=5)(c:b.length=5):vm 5 a b=l7 a b:=by simp_all[vm,vbo,LY]
variable{dK e6 gf n n₀:Nat}{W W':aR}{v:Value}{X:dL}{gs:List cY}{u:Bool}
section
open b_
attribute [local go_sem] Oper.semAt_some
def Xm u:(ae prog u).funcs[(56:Nat)]?=some f56:=bb (upd:=u) func56 A8
@[simp] theorem aKo (u:Bool) (args:dX) (w:aR):Sem.run (ae prog u) (callFunc 56 args) w=.ok (.enter 56 args) w:=cR (Xm u) A8 args w
def aAZ(L:List aG)(X:ubh)(n₀ t m:Nat)(W:aR)(x:Value):Prop:=
 ∃g:cY,L[t]?=some g.1/\x=s3 g/\eZ W g.2.1 g.1.c9/\(m<=g.2.1\/(g.2.1<n₀/\X (t+1) g.2.1/\¬X t g.2.1))
structure t7(X:dL)(n₀:Nat)(W:aR)(v:Value)(ds:List aG)(gs:List cY):Prop where
 ds:gs.map Prod.fst=ds
 own:W.ownsRow n₀ 148 18 v gs.length (ga gs)
 i_:∀p∈gs,eZ W p.2.1 p.1.c9
 old:∀p∈gs,n₀<=p.2.1\/X p.2.1
 ne:gs.Pairwise λp q=>p.2.1≠q.2.1
structure Ap(X:dL)(n₀ bH bV m:Nat)(ds:List aG)(W:aR):Prop where
 size:n₀<=W.heap.size
 bV:ag W bV #[.map (some m)] 199
 map:W.heap[m]?=some (.map (i9 ds) ds.length)
 ar:∃v gs,ag W bH #[v] 143/\t7 X n₀ W v ds gs
def QL{e:uaa}{xs:uai}(h:W.ownsRow n₀ e dK v n xs)(hk:gP W W'):W'.ownsRow n₀ e dK v n xs:=by refine⟨h.1,h.2.imp_right ?_⟩;rintro⟨g,cap,bq,a1,c,b,a⟩;exact⟨g,cap,bq,a1,c,hk.cells _ _ _ _ b,a⟩
theorem t7.oU(h:t7 X n₀ W v ds gs)(hk:gP W W'):t7 X n₀ W' v ds gs:=⟨h.ds,QL h.own hk,λp a=>(h.i_ p a).oU hk,h.old,h.ne⟩
theorem Ap.oU{a bV m}(h:Ap X n₀ a bV m ds W)(hk:gP W W')(b:W'.heap[m]?=W.heap[m]?):Ap X n₀ a bV m ds W':=by obtain⟨v,gs,h1,h2⟩:=h.ar;exact⟨vad h.size hk.size,hk.cells _ _ _ _ h.bV,b.trans h.map,v,gs,hk.cells _ _ _ _ h1,h2.oU hk⟩
def t7.len(h:t7 X n₀ W v ds gs):gs.length=ds.length:=by rw[<-h.ds,List.length_map]
def IB:Code->Option Code
 | .rangeFunc _ _ _ b=>some b
 | .seq x y=>(IB x).orElse λ_=>IB y
 | .block _ c=>IB c
 | _=>none
def QM(f:Func):Code:=(IB (f.body.getD .skip)).getD .skip
abbrev Xn(gf:Nat)(lb:dX)(n e6:Nat)(z:Value):Act:={tmps:=#[.func (.func gf) #[] lb,undef,.N,.P n 0,.P (n+1+1) 0,.P e6 0,.U,.U,.U,.U,.map (some (n+1)),.func (.func gf) #[] lb,z,.U,.U,.U,.U,.U,.U,.U,.U,.U,.U,.U,.U,.U,.U,.U,.U,.U,.U,.U,.U,.U,.U,.U,.U,.U,.U,.U,.U,.U,.U,.U,.U,.U,.U,.U,.U,.U,.U,.U,.U,.U,.U,.U,.U,.U],defers:=[]}
def aA0{lb}X n(w:aR)l W(hI:Ap X w.heap.size w.heap.size (w.heap.size+1+1) (w.heap.size+1) ds W)(hv:ag W w.heap.size #[v] 143)(j:t7 X w.heap.size W v ds gs){g}(h1:ag W e6 (eY g) 148)(h4:eZ W g.2.1 g.1.c9)(S:w.heap.size<=g.2.1\/n g.2.1)(R:∀p∈gs,p.2.1≠g.2.1)(fv:∀b,X b->n b)(hq:eX g.1.key ds=none)z(hlen:ds.length<=1000):
 Code.wpIn (Fence.wide.inRound l) (3-1-1) (ae prog u) (QM f56) (λe _ W'=>e=.normal/\qo W W'/\h7 n w.heap.size W W'/\rg (λe=>e=77) W W'/\Ap n w.heap.size w.heap.size (w.heap.size+1+1) (w.heap.size+1) (fu ds g.1) W') (Xn gf lb w.heap.size e6 z) W:=by
 unfold QM;simp only[f56,vaf,IB,Option.orElse];generalize Code.block 2 _=aKp;rw[p6 hq];obtain⟨fd,aW,rfl⟩:=mg j.own;have N:Hid (gs.length=ds.length):=j.len;obtain⟨J,I,H⟩:=h1.all;obtain⟨lL,oM,px⟩:=hI.bV.all;obtain⟨E,gG,fx⟩:=hv.all;have r:Hid (W.heap[w.heap.size+1]?=some (.map (i9 ds) ds.length)):=hI.map;have nz:Hid (w.heap.size<=W.heap.size):=hI.size;have s:Hid (∀p∈gs,(w.heap.size<=p.2.1\/X p.2.1)/\p.2.1≠g.2.1):=λp h=>⟨j.old p h,R p h⟩;have T:Hid _:=And.intro j.ds j.ne;have pW:Hid _:=S;have k:Hid (ag (W.putObj (w.heap.size+1) (.map (i9 (ds++[g.1])) (ds.length+1))) w.heap.size #[.slice fd gs.length aW] 143/\ag (W.putObj (w.heap.size+1) (.map (i9 (ds++[g.1])) (ds.length+1))) e6 (eY g) 148/\ag (W.putObj (w.heap.size+1) (.map (i9 (ds++[g.1])) (ds.length+1))) (w.heap.size+1+1) #[.map (some (w.heap.size+1))] 199/\eZ (W.putObj (w.heap.size+1) (.map (i9 (ds++[g.1])) (ds.length+1))) g.2.1 g.1.c9/\(W.putObj (w.heap.size+1) (.map (i9 (ds++[g.1])) (ds.length+1))).heap[w.heap.size+1]?=some (.map (i9 (ds++[g.1])) (ds.length+1))/\(W.putObj (w.heap.size+1) (.map (i9 (ds++[g.1])) (ds.length+1))).heap.size=W.heap.size/\Below w.heap.size W (W.putObj (w.heap.size+1) (.map (i9 (ds++[g.1])) (ds.length+1)))/\qo W (W.putObj (w.heap.size+1) (.map (i9 (ds++[g.1])) (ds.length+1)))/\rg (λe=>e=77) W (W.putObj (w.heap.size+1) (.map (i9 (ds++[g.1])) (ds.length+1)))/\(W.putObj (w.heap.size+1) (.map (i9 (ds++[g.1])) (ds.length+1))).ownsRow w.heap.size 148 18 (.slice fd gs.length aW) gs.length (ga gs)/\∀p∈gs,eZ (W.putObj (w.heap.size+1) (.map (i9 (ds++[g.1])) (ds.length+1))) p.2.1 p.1.c9):=by
  have f:∀b c e z,W.heap[b]?=some (.cells c e z)->b≠w.heap.size+1:=λb c e z i e'=>by subst e';rw[r.out]at i;cases i
  refine⟨(vap (f _ _ _ _ hv)).trans hv,(vap (f _ _ _ _ h1)).trans h1,(vap AQ).trans hI.bV,h4.same (vap (f _ _ _ _ h4.1.choose_spec)),World.putObj_heap_same (lR r.out),AS,tn _ AQ,λb o i ho=>(vap ?_).trans i,λb c e z _ i=>(vap (f _ _ _ _ i)).trans i,⟨j.own.1,j.own.2.imp_right ?_⟩,λp h=>(j.i_ p h).same (vap (f _ _ _ _ (j.i_ p h).1.choose_spec))⟩
  .rintro rfl;rw[r.out]at i;grind
  .rintro⟨g',cap,bq,a1,a6,Q,cS⟩;exact⟨g',cap,bq,a1,a6,(vap (f _ _ _ _ Q)).trans Q,cS⟩
 clear hI h1 h4 S R j hv;gi_wp2_with (with_reducible refine zd Y ?_)
 unfold hM;refine y_ (m:=w.heap.size+1) (q:=g.1.key) Y Y Y Y r.out ?_;rw[aAQ hq];gi_wp2_with (with_reducible refine aAC Y ?_)
 unfold hM;refine aAP (m:=w.heap.size+1) (g:=g.1) (ds:=ds) Y Y Y Y hq Y ?_ r.out ?_
 .rw[<-N.out];rfl
 clear J I H lL oM px E gG fx r;generalize W.putObj (w.heap.size+1) (.map (i9 (ds++[g.1])) (ds.length+1))=x at *;obtain⟨J,I,H⟩:=k.out.2.1.all;obtain⟨E,gG,fx⟩:=k.out.1.all;obtain⟨i0,hi,Z,oV,V⟩:=vce (Xi u);gi_wp2_with (with_reducible refine LV Y ?_)
 unfold hM;refine LW (b:=e6) (d:=0) (g:=g) Y Y Y (Xl k.out.2.1) ?_;refine y9 (g:=g) Y Y Y ?_;refine wpListIn_append_own _ Y _ _ 143 Y w.heap.size 148 i0 _ 18 208 ((tf _ _ _).trans underlying143) hi Z oV V Y AF (.slice fd gs.length aW) gs.length (ga gs) Y (k.out.2.2.2.2.2.2.2.2.2.1.alloc _) ⟨x.heap.size,0,none⟩ 1 1 (eY g).toList Y Y ?cel (Xh _) (by have:=N.out;unfold maxLen;omega) (by have:=N.out;omega) (by have h1:=k.out.2.2.2.2.2.1;have h2:=nz.out;simp;omega) ?_
 case cel=>
  simp_all[vdn]
 intro v' w1 B A _;obtain⟨g',cap',rfl⟩:=ven B;have D:Boxed x w.heap.size 143 (.slice fd gs.length aW):=k.out.1;have L:=k.out.2.2.2.2.2.2.2.2.2.1;have y:w.heap.size<=x.heap.size:=AA;obtain⟨C,O,U,F,K⟩:=D.appended AF L y JR B A;have t:=S9 (.S g' 0 (gs.length+1) cap') D L A JR;have ld:=C.cell;have rk:=C.frozen;have dF:Hid (qo W (w1.setCell ⟨w.heap.size,0,none⟩ (.S g' 0 (gs.length+1) cap'))/\h7 n w.heap.size W (w1.setCell ⟨w.heap.size,0,none⟩ (.S g' 0 (gs.length+1) cap'))/\rg (λe=>e=77) W (w1.setCell ⟨w.heap.size,0,none⟩ (.S g' 0 (gs.length+1) cap'))/\Ap n w.heap.size w.heap.size (w.heap.size+1+1) (w.heap.size+1) (ds++[g.1]) (w1.setCell ⟨w.heap.size,0,none⟩ (.S g' 0 (gs.length+1) cap'))):=by
  obtain⟨aZ,a3,q3,q4,q5,q6,QN,L0,M,aKq,aA1⟩:=k.out;have E3:∀{b:Nat}{ts:List dn},eZ x b ts->eZ (w1.setCell ⟨w.heap.size,0,none⟩ (.S g' 0 (gs.length+1) cap')) b ts:=λ{b ts} q=>by obtain⟨fr,P⟩:=q.1;exact q.same ((t _ _ _ _ P (.inr AF)).trans P.symm)
  refine⟨L0.trans (.of F),.of (QN.trans K),M.trans λb c e z hy i=>t b c e z i (.inr AA),⟨vad y K.size,t _ _ _ _ q3 (.inr AF),?_,_,gs++[g],O,⟨?_,?_,λp h=>?_,λp h=>?_,?_⟩⟩⟩
  .rw[vcl];exact F.same _ _ q5 Y
  .rw[vda,T.out.1];rfl
  .simp_all[QH,ga]
  .grind
  .rcases vcz.1 h with h|h
   .exact(s.out p h).1.imp_right (fv _)
   .rw[vdr.1 h];exact pW.out
  .exact List.pairwise_append.2 ⟨T.out.2,List.pairwise_singleton _ _,λa ha b i=>by rw[vdr.1 i];exact(s.out a ha).2⟩
 clear t O U F K B A D C J I H E gG fx k y L;gi_wp2
 exact dF.out
end
variable{cap:Nat}{w:aR}{ops:fF}{o:Oper}{K:uae}{Q:uao}
section
open b_
attribute [local go_sem] Oper.semAt_some
theorem QO{e:uaa}{g:Nat}{xs:uai}(h:W.ownsRow n₀ e dK (.S g 0 n cap) n xs)(j:Nat)(a:j<xs.length):W.cell? (.a g j)=xs[j]?:=by have:=h.cells (g:=g) Y j xs[j] (vaq a);grind[Addr.add]
def aA2{P:cE}{cd:Nat}{a:Act}{w1:aR}{F:Prop}(f:o.guard=none)(b:∀c,o.op≠ .defer c)(e:o.about P w a.eval=none)(d:(execOp a.eval o).run P w=.ok (.value v) w1)(h:K (a.put o.dst v) w1):
 if Region.wanted o (yielded ops a.tmps)=true then Oper.wpIn Fence.wide cd P o a w K Q else F:=by
 simp_all[Region.wanted,Oper.wpIn,Oper.semAt_eq,Oper.uponIn]
def aA3{cd:Nat}{a:Act}{G:Prop}{x:uam}(i:o.guard=none)(f:o.op=.load 203 x){b:Nat}(g:a.eval x=.P b d){t:dn}(h:∀j,j<11->w.cell? (.a b (d+j))=(ft t)[j]?)(hk:K (a.put o.dst (jW t)) w):if Region.wanted o (yielded ops a.tmps)=true then Oper.wpIn Fence.wide cd (ae prog u) o a w K Q else G:=
 aA2 i K8 (by simp[Oper.about,f]) (Xk u f g h) hk
def eZ.aA4{b l1 l2 z}(h:eZ w b (l1++z::l2)):∀k,k<11->w.cell? (.a b (l1.length*11+k))=(ft z)[k]?:=λk hk=>by rw[h.i_ (i:=l1.length) AS k hk];simp
def Beside(b:Nat)(W W':aR):Prop:=Below 0 W W'/\∀k,k<W.heap.size->k≠b->W'.heap[k]?=W.heap[k]?
theorem Beside.refl b W:Beside b W W:=⟨vaa _ _,λ_ _ _=>Y⟩
theorem Beside.trans{b A B C}(h:Beside b A B)(k:Beside b B C):Beside b A C:=⟨h.1.trans k.1,λx c a=>(k.2 x (vak c h.1.size) a).trans (h.2 x c a)⟩
theorem yQ g:∀gs j,ga (gs.modify j λp=>(ku g p.1,p.2))=ga gs
 | [],j=>AS
 |p::gs,0=>by rw[List.modify_zero_cons,ga,ga];rfl
 |p::gs,j+1=>by simp_all[ga,yQ]
theorem wW g:∀(gs:List cY)j,(gs.modify j λp=>(ku g p.1,p.2)).map Prod.fst=(gs.map Prod.fst).modify j (ku g)
 | [],j=>AS
 |p::gs,0=>AS
 |p::gs,j+1=>by simp[wW g gs j]
theorem Xp g:∀(gs:List cY)j,(gs.modify j λp=>(ku g p.1,p.2)).map (λp=>p.2.1)=gs.map λp=>p.2.1
 | [],j=>AS
 |p::gs,0=>AS
 |p::gs,j+1=>by simp[Xp g gs j]
def sG:gs.Pairwise (λp q=>p.2.1≠q.2.1)↔(gs.map λp=>p.2.1).Pairwise (· ≠ ·):=by grind
def aA5{lb}X tY(w:aR)l W{f}(hI:Ap X w.heap.size w.heap.size (w.heap.size+1+1) (w.heap.size+1) ds W)(hv:ag W w.heap.size #[.S f 0 gs.length cap] 143)(y:t7 X w.heap.size W (.S f 0 gs.length cap) ds gs){g}(h1:ag W e6 (eY g) 148)(h4:eZ W g.2.1 g.1.c9)(bE:∀p∈gs,p.2.1≠g.2.1)(fv:∀b,X b->tY b)(hq:eX g.1.key ds=some j)z(hc:c<=1000000)(hok:∀d∈ds,mC c d)(Jw:mC c g.1):
 Code.wpIn (Fence.wide.inRound l) (3-1-1) (ae prog u) (QM f56) (λe _ W'=>e=.normal/\qo W W'/\h7 tY w.heap.size W W'/\rg (λe=>e=77) W W'/\Ap tY w.heap.size w.heap.size (w.heap.size+1+1) (w.heap.size+1) (fu ds g.1) W') (Xn gf lb w.heap.size e6 z) W:=by
 unfold QM;simp only[f56,vaf,IB,Option.orElse];rw[m4 hq];obtain⟨Uy,-⟩:=B0 hq;have hj:j<gs.length:=by rw[y.len];grind
 obtain⟨b0,A⟩:∃b,b=gs[j].2.1:=⟨_,Y⟩;obtain⟨b3,yJ⟩:∃b,b=gs[j].2.2:=⟨_,Y⟩;have P8:ds[j]=gs[j].1:=by simp[<-y.ds]
 obtain⟨fd,U⟩:∃fd,fd=gs[j].1.c9:=⟨_,Y⟩;obtain⟨bv,QP⟩:∃bv,bv=g.1.c9:=⟨_,Y⟩;have hA:mC c ds[j]:=hok _ (vae _);have B:Hid (fd.length=5/\bv.length=5/\(∀t∈fd,vl c t)/\∀t∈bv,vl c t):=by rw[U,QP,<-P8];exact⟨hA.l8,Jw.l8,hA.qQ,Jw.qQ⟩
 have Xq:Hid (eZ W b0 fd):=by have:=y.i_ gs[j] (vae _);rw[<-A,<-U]at this;exact this
 have aA6:Hid (b0≠g.2.1):=by have:=bE gs[j] (vae _);rw[<-A]at this;exact this
 have P:Hid (W.cell? (.a f (j*18+17))=some (p5 b0 b3)):=by have:=QO y.own (j*18+17) (by rw[IA];omega);rw[LU gs j hj 17 AF,show(eY gs[j])[17]?=some (p5 gs[j].2.1 gs[j].2.2)from Y,<-A,<-yJ]at this;grind
 obtain⟨dG,d_,eN⟩:=h1.all;obtain⟨lL,oM,px⟩:=hI.bV.all;rw[<-QP]at h4;have vf:Hid (eZ W g.2.1 bv):=h4;have l4:Hid (W.heap[w.heap.size+1]?=some (.map (i9 ds) ds.length)):=hI.map;have AZ:Hid _:=hI;have r:Hid _:=y;have S:Hid (ag W w.heap.size #[.S f 0 gs.length cap] 143):=hv;have kE:Hid (j<gs.length):=hj;have Q:Hid (gs[j].1.c9=fd/\g.1.c9=bv/\gs[j].2.1=b0):=⟨U.symm,QP.symm,A.symm⟩;have Jb:(j:Int)<(gs.length:Int):=AQ;have HI:(0:Int)<=(j:Int):=AQ;clear hI h1 h4 bE y hv hok Jw hA Uy P8 U QP A yJ;gi_wp2_with (with_reducible refine zd Y ?_)
 unfold hM;refine y_ (m:=w.heap.size+1) (q:=g.1.key) Y Y Y Y l4.out ?_;rw[aAR hq];gi_wp2
 gi_loopw [34] (λp wr=>∃i:Nat,i<=5/\p=.I (i:Int)/\qo W wr/\Beside b0 W wr/\eZ wr b0 (vm i fd bv)) (λp _=>5-(intOf p).toNat)
 case atStart=>exact⟨0,AQ,Y,λ_ _ h _=>h,Beside.refl _ _,by rw[aAW];exact Xq.out⟩
 case round=>
  obtain⟨i,aA7,rfl,sI,CK,E3⟩:=hrel;have H9:Hid (qo W wr):=sI;have n:Hid (Beside b0 W wr):=CK;have QQ:Hid (eZ wr b0 (vm i fd bv)):=E3;clear sI CK E3 dG d_ eN lL oM px l4;by_cases hlt:i<5
  .have mb:(i:Int)<5:=by omega
   have ur:(0:Int)<=(i:Int):=AQ;have EY:IntKind.wrap .i64 ((i:Int)+1)=((i+1:Nat):Int):=CL;have He:i<fd.length:=by have:=B.out.1;omega
   have AY:i<bv.length:=by have:=B.out.2.1;omega
   have fh:Hid (∀k,k<11->wr.cell? (.a g.2.1 (i*11+k))=(ft bv[i])[k]?):=λk hk=>(vba (n.out.2 _ vf.out.lt (Ne.symm aA6.out))).trans (vf.out.i_ AY k hk);have tl:g.2.1<wr.heap.size:=vak vf.out.lt n.out.1.size;gi_wp2_with (with_reducible refine aAB Y ?_)
   unfold hM;refine aAN (b:=g.2.1) (d:=i*11) (t:=bv[i]) Y Y ?_ fh.out ?_
   .rfl
   gi_wp2_with (with_reducible refine aAA Y ?_)
   unfold hM;refine aAM (b:=wr.heap.size) (off:=0) (t:=bv[i]) (cs:=ft cI) Y Y Y Y Y (ag.new wr _ _) AS λE e1 e2 e3=>?_;rw[x4]at e1;have I:Hid (c6 wr E):=((vaa _ wr).alloc JR _).trans (e3 _ JR);have s:Hid (w.heap.size≠b0/\f≠b0/\b0<wr.heap.size/\f<W.heap.size/\w.heap.size<W.heap.size):=by
    obtain⟨fr,cu⟩:=Xq.out.1;have S_:=r.out.own;refine⟨λe=>?_,λe=>?_,QQ.out.lt,?_,S.out.all.2.2⟩
    .have h:W.heap[w.heap.size]?=some _:=S.out;grind
    .rcases S_.2 with⟨h,-⟩|⟨g',cap',bq,h,-,hg,-⟩
     .cases h
     grind
    .exact ef P.out
   have vP:∀k,k<W.heap.size->k≠b0->E.heap[k]?=W.heap[k]?:=λk h1 h2=>(I.out.block k (vak h1 n.out.1.size)).trans (n.out.2 k h1 h2);have HC:Hid (ag E.drew w.heap.size #[.S f 0 gs.length cap] 143/\E.drew.cell? (.a f (j*18+17))=some (p5 b0 b3)/\ag E.drew wr.heap.size (ft bv[i]) 203):=⟨(vP _ s.out.2.2.2.2 s.out.1).trans S.out,(vba (vP _ s.out.2.2.2.1 s.out.2.1)).trans P.out,e1⟩;have Xr:Hid (eZ E.drew b0 (vm i fd bv)):=(QQ.out.oU (gP.below I.out)).same Y;have IC:Hid (r4 fd[i].sum/\r4 bv[i].sum/\nX (fd[i].held+bv[i].held)):=by have R:=B.out.2.2.1 fd[i] (vae _);have j2:=B.out.2.2.2 bv[i] (vae _);have aZ:=R.h0;have a3:=R.h1;have q3:=R.s0;have q4:=R.jJ;have q5:=j2.h0;have q6:=j2.h1;have QN:=j2.s0;have L0:=j2.jJ;exact⟨⟨AQ,AQ⟩,⟨AQ,AQ⟩,⟨AQ,AQ⟩⟩
   clear e1 e2 e3 vP fh;gi_wp2
   refine abI AB AB (uP (C:=λW'=>ag W' w.heap.size #[.S f 0 gs.length cap] 143/\W'.cell? (.a f (j*18+17))=some (p5 b0 b3)/\ag W' wr.heap.size (ft bv[i]) 203) _ _ _ _ ?_);refine c0 (i:=1) (v:=.I (j:Int)) Y AB AB AB Jf HC.out ⟨Ao,λW' a=>Ak,(λc h=>nomatch h),λ_=>Y⟩ ?_;refine c0 (i:=5) (v:=.I (i:Int)) Y AB AB AB Jf HC.out ⟨Ao,λW' a=>Ak,(λc h=>nomatch h),λ_=>Y⟩ ?_;refine c0 (i:=7) (v:=.I (j:Int)) Y AB AB AB Jf HC.out ⟨Ao,λW' a=>Ak,(λc h=>nomatch h),λ_=>Y⟩ ?_;refine c0 (i:=11) (v:=.I (i:Int)) Y AB AB AB Jf HC.out ⟨Ao,λW' a=>Ak,(λc h=>nomatch h),λ_=>Y⟩ ?_;refine c0 (i:=0) (v:=.S f 0 gs.length cap) Y AB AB AB Jf HC.out ⟨Ao,λW' a=>by obtain⟨D,Z,gB⟩:=a.1.all;go_simp,(λc h=>nomatch h),λ_=>Y⟩ ?_;refine c0 (i:=6) (v:=.S f 0 gs.length cap) Y AB AB AB Jf HC.out ⟨Ao,λW' a=>by obtain⟨D,Z,gB⟩:=a.1.all;go_simp,(λc h=>nomatch h),λ_=>Y⟩ ?_;refine c0 (i:=2) (v:=.P f (j*18)) Y AB AB AB Jf HC.out ⟨Ao,λW' a=>Ak,(λc h=>nomatch h),λ_=>Y⟩ ?_;refine c0 (i:=8) (v:=.P f (j*18)) Y AB AB AB Jf HC.out ⟨Ao,λW' a=>Ak,(λc h=>nomatch h),λ_=>Y⟩ ?_;refine c0 (i:=3) (v:=.P f (j*18+17)) Y AB AB AB Jf HC.out ⟨Ao,λW' a=>Ak,(λc h=>nomatch h),λ_=>Y⟩ ?_;refine c0 (i:=9) (v:=.P f (j*18+17)) Y AB AB AB Jf HC.out ⟨Ao,λW' a=>Ak,(λc h=>nomatch h),λ_=>Y⟩ ?_;refine c0 (i:=4) (v:=p5 b0 b3) Y AB AB AB Jf HC.out ⟨Ao,λW' a=>by have D:=a.2.1;have Z:=ef D;go_simp,(λc h=>nomatch h),λ_=>Y⟩ ?_;refine c0 (i:=10) (v:=p5 b0 b3) Y AB AB AB Jf HC.out ⟨Ao,λW' a=>by have D:=a.2.1;have Z:=ef D;go_simp,(λc h=>nomatch h),λ_=>Y⟩ ?_;refine c0 (i:=12) (v:=.P b0 (i*11)) Y AB AB AB Jf HC.out ⟨Ao,λW' a=>Ak,(λc h=>nomatch h),λ_=>Y⟩ ?_;refine c0 (i:=14) (v:=jW bv[i]) Y AB AB AB Jf HC.out ⟨Ao,λW' a=>by obtain⟨D,Z,gB⟩:=a.2.2.all;go_simp,(λc h=>nomatch h),λ_=>Y⟩ ?_;have L:=aAU He AY;have O:Hid ((List.take i (l7 fd bv)).length=i):=by grind[Hid,LY]
   refine fc (i:=13) AB Y λK hK=>aA3 (b:=b0) (d:=i*11) (t:=fd[i]) Y Y AB ?tl (hK _ _ HC.out ?_)
   case tl=>
    intro k hk;have h1:=Xr.out;rw[L]at h1;have h2:=eZ.aA4 h1 k hk;rw[O.out]at h2;exact h2
   clear hK K;refine fc (i:=15) AB Y λK hK=>?_;go_simp
   refine⟨NE,(callsIn_wide.2 (aAd _ _ IC.out.1 IC.out.2.1 IC.out.2.2 _)).mono ?_⟩;rintro e F ⟨rfl,J⟩;have sz:=gP.below J;have x:Hid (ag F w.heap.size #[.S f 0 gs.length cap] 143/\F.cell? (.a f (j*18+17))=some (p5 b0 b3)/\ag F wr.heap.size (ft bv[i]) 203):=⟨sz.cells _ _ _ _ HC.out.1,bp.cy J _ _ _ HC.out.2.1,HC.out.2.2.call J⟩;have N:Hid (eZ F b0 (List.take i (l7 fd bv)++fd[i]::List.drop (i+1) fd)):=by rw[<-L];exact Xr.out.oU sz
   have Xs:Hid (c6 wr F):=I.out.drew.trans (J.mono I.out.size);refine hK _ _ x.out ?_;clear hK K J sz HC Xr I;refine c0 (i:=16) (v:=.P b0 (i*11)) Y AB AB AB Jf x.out ⟨Ao,λW' a=>Ak,(λc h=>nomatch h),λ_=>Y⟩ ?_;refine fc (i:=17) AB Y λK hK=>aAO (b:=b0) (t:=eP fd[i] bv[i]) Y Y Y (by rw[O.out];kernel_rfl) AB N.out λT r1 H r3=>hK _ _ ⟨(H _ s.out.1).trans x.out.1,(vba (H _ s.out.2.1)).trans x.out.2.1,(H _ (by have:=s.out.2.2.1;omega)).trans x.out.2.2⟩ ?_;have Xt:Beside b0 wr T:=⟨(Xs.out.mono (vax _)).trans (r3 0 (vax _)),λk h1 h2=>(H k h2).trans (Xs.out.block k h1)⟩;have dF:Hid (qo W T/\Beside b0 W T/\eZ T b0 (vm (i+1) fd bv)):=by refine⟨H9.out.trans λk o hk ho=>?_,n.out.trans Xt,by grind[aAV]⟩;obtain⟨fr,cu⟩:=QQ.out.1;refine(Xt.2 k (lR hk) λe=>?_).trans hk;grind
   clear hK K r1 H r3 Xt x N Xs;refine uQ AB ?_ _;gi_wp2
   go_roundw
   case rel=>exact⟨i+1,AQ,Y,dF.out⟩
   case measure=>simp[intOf];omega
  .obtain rfl:i=5:=by omega
   gi_wp2
   have Xu:=QQ.out;rw[aAX B.out.1 B.out.2.1]at Xu;obtain⟨fr,cu⟩:=Xq.out.1;have cB:∀(k:Nat)(c:dX)(e:uaa)(z:ubr),e≠203->W.heap[k]?=some (.cells c e z)->wr.heap[k]?=some (.cells c e z):=λk c e z he hk=>(n.out.2 k (lR hk) (λV=>AA)).trans hk;have A:w.heap.size<=b0\/X b0:=by have:=r.out.old gs[j] (vae _);have e:=Q.out.2.2;grind
   refine⟨H9.out,⟨n.out.1,λk hk hx=>n.out.2 k (vak hk AZ.out.size) (λe=>?_)⟩,λk c e z he hk=>cB k c e z AA hk,⟨vad AZ.out.size n.out.1.size,cB _ _ _ _ AF AZ.out.bV,?_,_,gs.modify j λp=>(ku g.1 p.1,p.2),cB _ _ _ _ AF S.out,⟨?_,?_,λp hp=>?_,λp hp=>?_,?_⟩⟩⟩
   .grind
   .have M:=AZ.out.map;have e1:i9 (ds.modify j (ku g.1))=i9 ds:=by rw[i9,xo (ku g.1) Jg 0,i9]
    rw[e1,List.length_modify];exact(n.out.2 _ (lR M) (λe=>AA)).trans M
   .rw[wW,r.out.ds]
   .rw[yQ,List.length_modify];refine⟨r.out.own.1,r.out.own.2.imp_right ?_⟩;rintro⟨g',cap',bq,a1,a6,bK,cS⟩;exact⟨g',cap',bq,a1,a6,cB _ _ _ _ AF bK,cS⟩
   .obtain⟨k,hk,rfl⟩:=vbj hp;rw[List.length_modify]at hk;rw[vci];split
    .rename_i e;subst e;rw[<-Q.out.1,<-Q.out.2.1,<-Q.out.2.2]at Xu;exact Xu
    .rename_i e;have ht:=r.out.i_ gs[k] (vae _);refine ht.same (n.out.2 _ ht.lt ?_);refine λV=>?_;have V:=V.trans Q.out.2.2.symm;revert V;rcases Nat.lt_or_gt_of_ne e with h|h
     .exact(vcn.1 r.out.ne _ _ kE.out hk h).symm
     .exact vcn.1 r.out.ne _ _ hk kE.out h
   .have M:p.2.1∈(gs.modify j λp=>(ku g.1 p.1,p.2)).map (λp=>p.2.1):=vdk hp;rw[Xp]at M;obtain⟨p',ov,e⟩:=vbl.1 M;rw[<-e];exact(r.out.old p' ov).imp_right (fv _)
   .rw[sG,Xp,<-sG];exact r.out.ne
end
open b_
def r9:vfd.funcs[(213:Nat)]?=some f213:=vfa func213
@[simp] theorem aKv:dc false 213:=cR r9 AD
theorem aBb{P:cE}{rest:ubc}{a:Act}{x y:uam}(_:o.op=.store 203 x y)(h:hM (wpList P ops Q (o::rest) a w)):wpList P ops Q (o::rest) a w:=h
def aBc{rest:ubc}{a:Act}{x y:uam}(f:o.guard=none)(hd:o.dst=none)(e:o.op=.store 203 x y){b off:Nat}(d:a.eval x=.P b off){t:dn}(c:a.eval y=jW t){cs:dX}{T:uaa}(h:ag w b cs T)(hs:off+11<=cs.size)(hk:∀w',ag w' b (qO cs off t) T->(∀k,k≠b->w'.heap[k]?=w.heap[k]?)->(∀B,B<=b->Below B w w')->wpList (ae prog u) ops Q rest a w'):wpList (ae prog u) ops Q (o::rest) a w:=by
 obtain⟨w',h1,h2,h3,h4⟩:=QC u e d c h h.rules.2 hs;refine wpList_plain f λK hK=>?_;unfold Oper.wp;rw[h1];have:=hK (a.put none undef) _ (hk w' h2 h3 h4);rw[<-hd]at this;exact this
def Aq(vals:List bz)(a:Int):bz:=if a= -1 then du else vals.getD a.toNat du
def vo(w:aR)(aU bA:Nat)(aF:g7):Prop:=∀i,(h:i<aF.length)->w.cell? (.a aU (bA+i*2))=some (.I aF[i].1)/\w.cell? (.a aU (bA+i*2+1))=some (.I aF[i].2)
def kv(vals:List bz)(aF:g7):List dn:=aF.map λa=>lG (Aq vals a.2)
def aBd vals(aF:g7){k}(a:k<aF.length)(b:aF.length=5):qO (jD (kv vals (aF.take k)++List.replicate (5-k) cI)).toArray (k*11) (lG (Aq vals aF[k].2))=(jD (kv vals (aF.take (k+1))++List.replicate (5-(k+1)) cI)).toArray:=by
 have e1:List.replicate (5-k) cI=cI::List.replicate (5-(k+1)) cI:=by rw[show 5-k=5-(k+1)+1 by omega];rfl
 have e2:=xF (kv vals (aF.take k)) (List.replicate (5-(k+1)) cI) cI (lG (Aq vals aF[k].2));rw[show(kv vals (aF.take k)).length=k by simp[kv];omega,Nat.mul_comm,<-e1]at e2;grind[kv,List.take_succ_eq_append_getElem]
theorem aBe(vals:List bz)(aF:g7)(J:aF.length=5)(hok:∀i,(h:i<aF.length)->aF[i].2= -1\/∃k:Nat,aF[i].2=(k:Int)/\k<vals.length)(hv:∀v∈vals,nX v.num)(aU bA gc:Nat)(O:Value)(j:uag)(cw pc:Nat)(w:aR)(K:vo w aU bA aF)(ti:oi w O vals):
 Calls vfd 213 #[.S aU bA 5 gc,.agg #[.slice j cw pc,O]] w λe w'=>∃b,e=.returned (.S b 0 5 5)/\ag w' b (jD (kv vals aF)).toArray 203/\w.heap.size<=b/\c6 w w':=by
 obtain⟨H,o,rfl,-,BO⟩:=ti;have kp:=ef (K 0 AQ).1;have M:=(ag.new w #[.slice j cw pc,.slice H vals.length o] 77).alloc (.cells (jD [cI,cI,cI,cI,cI]).toArray 203);have u:=ag.new (w.alloc (.cells #[.slice j cw pc,.slice H vals.length o] 77)) (jD [cI,cI,cI,cI,cI]).toArray 203;simp only[ved]at u;have uk:∀W:aR,(Instr.makeSlice 146 (.I 5) (.I 5)).run vfd W=.ok (.S W.heap.size 0 5 5) (W.alloc (.cells (jD [cI,cI,cI,cI,cI]).toArray 203)):=λW=>AB;have z:Hid _:=BO;have E:Hid _:=K;have C:Hid _:=hok;have A:Hid _:=hv;have pW:Hid (aF.length=5):=J;clear BO K hok hv;go_enter r9,ntmps213
 go_wp2
 go_loopw [14] (λx W=>∃k:Nat,k<=5/\x=.I k/\ag W w.heap.size #[.slice j cw pc,.slice H vals.length o] 77/\ag W (w.heap.size+1) (jD (kv vals (aF.take k)++List.replicate (5-k) cI)).toArray 203/\c6 w W) (λx _=>5-(intOf x).toNat)
 case atStart=>exact⟨0,vax _,Y,M,u,((vaa _ w).alloc JR _).alloc AS _⟩
 case round=>
  obtain⟨k,hk,rfl,D,U,B⟩:=hrel;have X:Hid _:=D;have q:Hid _:=U;have I:Hid (c6 w wr):=B;have a:=bp.cy B;obtain⟨T,gG,fx⟩:=D.all;clear M u D U B uk;by_cases Xz:k<5
  .have y:k<aF.length:=by omega
   obtain⟨l,a1⟩:=E.out k y;replace l:=a _ _ _ l;replace a1:=a _ _ _ a1;have Lm:=ef l;have EY:IntKind.wrap .i64 ((k:Int)+1)=((k+1:Nat):Int):=CL;have hsz:(jD (kv vals (aF.take k)++List.replicate (5-k) cI)).toArray.size=55:=by grind[QE,kv]
   have tQ:Hid _:=hsz;clear hsz;obtain⟨lh,L⟩:∃x,x=aF[k].1:=⟨_,Y⟩;rw[<-L]at l;have r:Hid _:=C.out k y;have aKw:Hid (k<5):=Xz;have aKx:(k:Int)<5:=AQ;have lC:(0:Int)<=(k:Int):=AQ;rcases r.out with f|⟨c,f,S⟩;case' inl=>
    obtain⟨d,g⟩:∃d,d=du:=⟨_,Y⟩;have Z:Hid (Aq vals aF[k].2=d):=by unfold Hid;rw[f,g];rfl
    have JA:Hid (∀W,Calls vfd 214 #[h8 du] W λe w'=>e=.returned (jW (lG d))/\c6 W w'):=λW=>by grind[yb,du]
    rw[f]at a1;clear g f;clear A z E C r a J L;go_wp2_with (go_at_call 214;apply qq)
    unfold hM;refine(JA.out _).mono ?_;rintro e N ⟨rfl,F⟩
   case' inr=>
    obtain⟨d,g⟩:∃d,d=vals[c]:=⟨_,Y⟩;have Z:Hid (Aq vals aF[k].2=d):=by simp_all[Aq]
    have hI:nX d.num:=by rw[g];exact A.out _ (vae S)
    obtain⟨Pz,n9,rfl,f0,f1,n,f3,-⟩:=z.out c S;simp only[vcc]at f0;rw[<-g]at f0 f1 n f3;replace f0:=a _ _ _ f0;replace f1:=a _ _ _ f1;replace n:=a _ _ _ n;replace f3:=a _ _ _ f3;have aAk:=ef f0;have hne:¬(c:Int)= -1:=AQ;have ld:(c:Int)<(vals.length:Int):=AQ;have nI:(0:Int)<=(c:Int):=AQ;rw[f]at a1;clear f g;clear A z E C r a J L;go_wp2_with (go_at_call 214;apply qq)
    unfold hM;refine(yb d hI _).mono ?_;rintro e N ⟨rfl,F⟩;clear f0 f1 n f3
   all_goals
    have hbA:c6 wr N:=by
     refine Below.trans ?_ (F.mono ?_)
     .simp_all[vaa,Below.alloc]
     .simp;omega
    have bO:=ag.call q.out hbA;have m:=ag.call X.out hbA;clear l a1 T gG fx Lm;go_wp2_with (with_reducible refine aBb Y ?_)
    unfold hM;refine aBc (b:=w.heap.size+1) (off:=k*11) (t:=lG d) Y Y Y AB AB bO (by rw[tQ.out];omega) λp R Q P=>?_;have V:Hid (qO (jD (kv vals (aF.take k)++List.replicate (5-k) cI)).toArray (k*11) (lG d)=(jD (kv vals (aF.take (k+1))++List.replicate (5-(k+1)) cI)).toArray):=by have:=aBd vals aF y pW.out;rw[Z.out]at this;grind
    have s:Hid (ag p w.heap.size #[.slice j cw pc,.slice _ vals.length o] 77/\ag p (w.heap.size+1) (jD (kv vals (aF.take (k+1))++List.replicate (5-(k+1)) cI)).toArray 203/\c6 w p):=⟨(Q _ AQ).trans m,bd.ag.cast R V.out,(I.out.trans (hbA.mono I.out.size)).trans (P _ (vct _))⟩;clear R Q P hbA bO m F X q V;go_wp2
    go_roundw
    case rel=>exact⟨k+1,AQ,Y,s.out.1,s.out.2.1,s.out.2.2⟩
    case measure=>simp[intOf];omega
  .obtain rfl:k=5:=by omega
   clear T gG a;go_wp2
   go_ret
   refine⟨_,Y,?_,vct _,I.out⟩;have h:=q.out;rw[vbo AQ]at h;rw[Nat.sub_self,List.replicate_zero,vdc]at h;exact h
def rZ:vfd.funcs[(212:Nat)]?=some f212:=vfa func212
structure QS(w:aR)(x:Value×Value)(br:uac)(aF:g7)(vals:List bz)(g:aG):Prop where
 cw:x.1=yk g
 kM:oi w x.2 vals
 key:g.key=ke (br.map λk=>vals.getD k du)
 i_:g.c9=kv vals aF
 XA:∀k∈br,k<vals.length
 XB:∀i,(h:i<aF.length)->aF[i].2= -1\/∃k:Nat,aF[i].2=(k:Int)/\k<vals.length
 num:∀v∈vals,nX v.num
def rY(G:Nat->aG)(fr k m:Nat)(W:aR)(x:Value):Prop:=∃gF,x=s3 (G (fr+k),gF,5)/\m<=gF/\ag W gF (jD (G (fr+k)).c9).toArray 203
def aBf(xs:uav)(vs:Nat->List bz)(G:Nat->aG)(br:uac)(aF:g7)(h4:br.length<=4)(aP:aF.length=5)(LR:Value)(cb co cc aU bA gc fr cZ:Nat)(w0:aR)(hcell:∀j u,(two xs)[j]?=some u->w0.cell? (.a cb (co+j))=some u)(gH:∀i(h:i<xs.length),QS w0 xs[i] br aF (vs i) (G i))(hcc:xs.length<=cc)(ql:fr<cZ)(A2:cZ<=xs.length)(ahm:xs.length<=1000000)(hk:h5 w0 LR (br.map Int.ofNat))(I:vo w0 aU bA aF)(d jo gF:Nat)(T:w0.cell? (.a d 4)=some LR)(U:w0.cell? (.a d 6)=some (.S aU bA 5 gc))(XC:w0.cell? (.a d 7)=some (.S cb co xs.length cc))(hf:w0.cell? (.a jo 0)=some (.I fr))(ht:w0.cell? (.a gF 0)=some (.I cZ)):
 CN (λe=>e=77) rf n vfd 212 #[.P d 0,.P jo 0,.P gF 0] (rY G fr) (cZ-fr) w0.heap.size w0:=by
 obtain⟨ka,kc,rfl,sI,xr⟩:=id hk;rw[List.length_map]at *;intro l S J W hb qm sx jd h0;have fN:=JD qm sx;clear sx qm;have B:=bp.cy hb;have rn:=B _ _ _ hf;have Ov:=B _ _ _ ht;have QT:=B _ _ _ XC;refine callsIn_of_wp rZ Y trivial ?_ Y;simp[vbk];gi_wp2
 gi_loopw [13] (λp wr=>∃i:Nat,fr+i<=cZ/\p=.I (i:Int)/\J i wr/\c6 w0 wr/\Below w0.heap.size W wr) (λp _=>cZ-fr-(intOf p).toNat)
 case atStart=>grind[Below.refl]
 case round=>
  obtain⟨i,li,rfl,hj,M,eC⟩:=hrel;have o:=bp.cy M;have kE:Hid (J i wr):=hj;have kV:Hid (c6 w0 wr):=M;have pw:Hid (Below w0.heap.size W wr):=eC;by_cases hlt:fr+i<cZ
  .have kI:fr+i<xs.length:=by omega
   obtain⟨g1,g2⟩:=Kf xs (fr+i) kI;have q:Hid (QS w0 xs[fr+i] br aF (vs (fr+i)) (G (fr+i))):=gH (fr+i) kI;obtain⟨k,f,hv,-,-⟩:=id q.out.kM;have hp:=q.out.cw;have e0:=o _ _ _ (hcell _ _ g1);have e1:=o _ _ _ (hcell _ _ g2);have dG:co+(fr+i)*2=co+fr*2+i*2:=AQ;have d_:co+((fr+i)*2+1)=co+fr*2+i*2+1:=AQ;rw[dG]at e0;rw[d_]at e1;have q4:=o _ _ _ T;have q6:=o _ _ _ U;have cB:=ef e0;have Wp:=ef q4;have F:Hid (d<w0.heap.size):=ef T;have X:Hid (oi wr _ _):=bo.mono Hc o q.out.kM;have E:Hid (h5 wr (.slice ka br.length kc) (br.map Int.ofNat)):=bo.mono q8 o hk;have XD:Hid (vo wr aU bA aF):=λi h=>⟨o _ _ _ (I i h).1,o _ _ _ (I i h).2⟩;obtain⟨kM,tm⟩:∃n,n=(vs (fr+i)).length:=⟨_,Y⟩;have mb:(i:Int)<((cZ-fr:Nat):Int):=AQ;have ur:(0:Int)<=(i:Int):=AQ;rw[hp]at e0;rw[hv,<-tm]at e1 X;obtain⟨g,V⟩:∃g,g=G (fr+i):=⟨_,Y⟩;have dZ:Hid (g=G (fr+i)):=V;rw[<-V]at e0;obtain⟨a,cw,pc,fk⟩:∃a cw pc,yk g=.slice a cw pc:=⟨_,_,_,Y⟩;have aBg:Hid (∀b,Value.agg (wV (.slice a cw pc) g.key (p5 b 5))=s3 (G (fr+i),b,5)):=λb=>AA;rw[fk]at e0;clear hj M eC o hf ht T U XC rn Ov QT h0 hb B g1 g2 dG d_ tm hk I gH hcell hp hv V fk sI xr;gi_wp2
   have om:c6 wr (wr.alloc (.cells #[.slice a cw pc,.slice k kM f] 77)):=(vaa _ wr).alloc JR _;have s:=bp.cy om;have fh:Hid (ag (wr.alloc (.cells #[.slice a cw pc,.slice k kM f] 77)) wr.heap.size #[.slice a cw pc,.slice k kM f] 77):=ag.new _ _ _;have HC:Hid (ag (wr.alloc (.cells #[.slice a cw pc,.slice k kM f] 77)).drew wr.heap.size #[.slice a cw pc,.slice k kM f] 77/\(wr.alloc (.cells #[.slice a cw pc,.slice k kM f] 77)).drew.cell? (.a d 4)=some (.slice ka br.length kc)/\(wr.alloc (.cells #[.slice a cw pc,.slice k kM f] 77)).drew.cell? (.a d 6)=some (.S aU bA 5 gc)):=⟨fh.out.drew,s _ _ _ q4,s _ _ _ q6⟩;have y:Hid (h5 (wr.alloc (.cells #[.slice a cw pc,.slice k kM f] 77)) (.slice ka br.length kc) (br.map Int.ofNat)/\vo (wr.alloc (.cells #[.slice a cw pc,.slice k kM f] 77)) aU bA aF/\oi (wr.alloc (.cells #[.slice a cw pc,.slice k kM f] 77)) (.slice k kM f) (vs (fr+i))):=⟨bo.mono q8 s E.out,λi h=>⟨s _ _ _ (XD.out i h).1,s _ _ _ (XD.out i h).2⟩,bo.mono Hc s X.out⟩;have Z:Hid (c6 wr (wr.alloc (.cells #[.slice a cw pc,.slice k kM f] 77)).drew):=om.drew;clear om s q4 q6 e0 e1 X E XD Wp fh;generalize wr.alloc (.cells #[.slice a cw pc,.slice k kM f] 77)=iE at *;have Py:Hid (∀W:aR,oi W (.slice k kM f) (vs (fr+i))->h5 W (.slice ka br.length kc) (br.map Int.ofNat)->Calls vfd 54 #[.agg #[.slice a cw pc,.slice k kM f],.slice ka br.length kc] W λe w'=>e=.returned (.agg (gL g.key))/\c6 W w'):=λW h1 h2=>by rw[dZ.out,q.out.key];exact aAh false br _ a cw pc _ _ W h1 h2 q.out.XA h4
   refine wpIn_region_any AB (uP (C:=λW=>ag W wr.heap.size #[.slice a cw pc,.slice k kM f] 77/\W.cell? (.a d 4)=some (.slice ka br.length kc)/\W.cell? (.a d 6)=some (.S aU bA 5 gc)) _ _ _ _ ?_);refine c0 (i:=0) (v:=.func (.yield l) #[] #[]) Y AB AB AB Jf HC.out ⟨Ao,λW m=>Ak,(λc h=>nomatch h),λ_=>Y⟩ ?_;refine c0 (i:=1) (v:=.P wr.heap.size 0) Y AB AB AB Jf HC.out ⟨Ao,λW m=>Ak,(λc h=>nomatch h),λ_=>Y⟩ ?_;refine c0 (i:=4) (v:=.P d 0) Y AB AB AB Jf HC.out ⟨Ao,λW m=>Ak,(λc h=>nomatch h),λ_=>Y⟩ ?_;refine c0 (i:=8) (v:=.P d 0) Y AB AB AB Jf HC.out ⟨Ao,λW m=>Ak,(λc h=>nomatch h),λ_=>Y⟩ ?_;refine c0 (i:=5) (v:=.P d 4) Y AB AB AB Jf HC.out ⟨Ao,λW m=>Ak,(λc h=>nomatch h),λ_=>Y⟩ ?_;refine c0 (i:=9) (v:=.P d 6) Y AB AB AB Jf HC.out ⟨Ao,λW m=>Ak,(λc h=>nomatch h),λ_=>Y⟩ ?_;refine c0 (i:=2) (v:=.slice a cw pc) Y AB AB AB Jf HC.out ⟨Ao,λW m=>Gf,(λc h=>nomatch h),λ_=>Y⟩ ?_;refine c0 (i:=3) (v:=.agg #[.slice a cw pc,.slice k kM f]) Y AB AB AB Jf HC.out ⟨Ao,λW m=>Gf,(λc h=>nomatch h),λ_=>Y⟩ ?_;refine c0 (i:=11) (v:=.agg #[.slice a cw pc,.slice k kM f]) Y AB AB AB Jf HC.out ⟨Ao,λW m=>Gf,(λc h=>nomatch h),λ_=>Y⟩ ?_;refine c0 (i:=6) (v:=.slice ka br.length kc) Y AB AB AB Jf HC.out ⟨Ao,λW m=>by have w:=m.2.1;have P:=ef w;go_simp,(λc h=>nomatch h),λ_=>Y⟩ ?_;refine c0 (i:=10) (v:=.S aU bA 5 gc) Y AB AB AB Jf HC.out ⟨Ao,λW m=>by have w:=m.2.2;have P:=ef w;go_simp,(λc h=>nomatch h),λ_=>Y⟩ ?_;refine fc (i:=7) AB Y λK hK=>?_;go_simp
   refine⟨NE,λh=>CI,(callsIn_wide.2 (Py.out iE.drew y.out.2.2 y.out.1)).mono ?_⟩;rintro e A ⟨rfl,Q⟩;have x:=bp.cy Q;have H:Hid (ag A wr.heap.size #[.slice a cw pc,.slice k kM f] 77/\A.cell? (.a d 4)=some (.slice ka br.length kc)/\A.cell? (.a d 6)=some (.S aU bA 5 gc)):=⟨HC.out.1.call Q,x _ _ _ HC.out.2.1,x _ _ _ HC.out.2.2⟩;have D:Hid _:=aBe (vs (fr+i)) aF aP q.out.XB q.out.num aU bA gc _ a cw pc A (λi h=>⟨x _ _ _ (y.out.2.1 i h).1,x _ _ _ (y.out.2.1 i h).2⟩) (bo.mono Hc x y.out.2.2);have O:Hid (c6 wr A):=Z.out.trans (Q.mono Z.out.size);refine hK _ _ H.out ?_;clear hK K Q x HC y Z;refine fc (i:=12) AB Y λK hK=>?_;go_simp
   refine⟨NE,λh=>CI,(callsIn_wide.2 D.out).mono ?_⟩;rintro e z ⟨b,rfl,dD,tp,L⟩;have XE:=bp.cy L;have t:Hid (ag z wr.heap.size #[.slice a cw pc,.slice k kM f] 77/\z.cell? (.a d 4)=some (.slice ka br.length kc)/\z.cell? (.a d 6)=some (.S aU bA 5 gc)):=⟨H.out.1.call L,XE _ _ _ H.out.2.1,XE _ _ _ H.out.2.2⟩;have R:Hid (c6 wr z):=O.out.trans (L.mono O.out.size);have FP:Hid _:=jd i (.agg (wV (.slice a cw pc) g.key (p5 b 5))) wr z kE.out R.out (fN _ _ _ kE.out R.out) AQ ⟨b,aBg.out b,vad O.out.size tp,by rw[<-dZ.out,dZ.out,q.out.i_];grind⟩;refine hK _ _ t.out ?_;clear hK K L XE H D dD tp O jd fN;refine c0 (i:=13) (v:=.agg (wV (.slice a cw pc) g.key (p5 b 5))) Y AB AB AB Jf t.out ⟨Ao,λW m=>by unfold gL;go_simp,(λc h=>nomatch h),λ_=>Y⟩ ?_;refine fc (i:=14) AB Y λK hK=>?_;obtain⟨fn,tmps,assign,body,hy,bn⟩:=FP.out;go_simp
   refine⟨λh=>CI,bn.mono ?_⟩;rintro e r ⟨rfl,yS,N,uq⟩;have H8:r.cell? (.a d 4)=some (.slice ka br.length kc):=(vba (N.2 d F.out id)).trans t.out.2.1;have HF:r.cell? (.a d 6)=some (.S aU bA 5 gc):=(vba (N.2 d F.out id)).trans t.out.2.2;have L3:Hid (ag r wr.heap.size #[.slice a cw pc,.slice k kM f] 77/\r.cell? (.a d 4)=some (.slice ka br.length kc)/\r.cell? (.a d 6)=some (.S aU bA 5 gc)):=⟨uq _ _ _ _ Y t.out.1,H8,HF⟩;have aBh:Hid (J (i+1) r):=yS;have Il:Hid (h7 (rf (i+1)) w0.heap.size wr r):=(h7.of (R.out.mono kV.out.size)).trans N;refine hK _ _ L3.out ?_;clear hK K yS N uq H8 HF t R FP bn hy;refine fc (i:=15) AB Y λK hK=>?_;go_simp
   refine hK _ _ L3.out ?_;clear hK K;refine uQ AB ?_ _;gi_wp2
   go_roundw
   case rel=>exact⟨i+1,AQ,AS,aBh.out,kV.out.trans Il.out.aT,pw.out.trans Il.out.aT⟩
   case measure=>simp[intOf];omega
  .have mb:¬(i:Int)<((cZ-fr:Nat):Int):=by omega
   clear hj M eC o hf ht T U XC rn Ov QT h0 hb B gH hcell hk I sI xr;gi_wp2
   go_end0
   have e:cZ-fr=i:=AQ;rw[e];exact⟨⟨_,Y⟩,kE.out,.of pw.out⟩
